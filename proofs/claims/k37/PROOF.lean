import PyProof.Rows.All
import Wide.All
import OpenK.AllK
import Wide.FinOn
import Lean
import PyProof.EqAt
import PyProof.EqKinds
import PyProof.TupleCall
import PySem.Challenge.RW_boxnarrow_k37_whole_narrowing_by_a_model
theorem Vaa:type_of% @List.length_map:=@List.length_map
theorem Vab:type_of% @Nat.le_refl:=@Nat.le_refl
theorem Vac:type_of% @List.getElem?_eq_some_iff:=@List.getElem?_eq_some_iff
theorem Vad:type_of% @List.mem_cons:=@List.mem_cons
theorem Vae:type_of% @List.getElem?_map:=@List.getElem?_map
theorem Vaf:type_of% @Int.le_of_lt:=@Int.le_of_lt
theorem Vag:type_of% @Int.neg_mul:=@Int.neg_mul
theorem Vah:type_of% @Option.map_eq_some_iff:=@Option.map_eq_some_iff
theorem Vai:type_of% @Int.pow_succ:=@Int.pow_succ
theorem Vaj:type_of% @List.mem_of_getElem?:=@List.mem_of_getElem?
theorem Vak:type_of% @Bool.false_ne_true:=@Bool.false_ne_true
theorem Val:type_of% @List.size_toArray:=@List.size_toArray
theorem Vam:type_of% @List.getElem?_eq_getElem:=@List.getElem?_eq_getElem
theorem Van:type_of% @Nat.lt_of_lt_of_le:=@Nat.lt_of_lt_of_le
theorem Vao:type_of% @Nat.ne_of_lt:=@Nat.ne_of_lt
theorem Vap:type_of% @List.not_mem_nil:=@List.not_mem_nil
theorem Vaq:type_of% @List.lookup_cons:=@List.lookup_cons
theorem Var:type_of% @List.length_take:=@List.length_take
theorem Vas:type_of% @List.getElem?_append_left:=@List.getElem?_append_left
theorem Vat:type_of% @Int.toNat_natCast:=@Int.toNat_natCast
theorem Vau:type_of% @Nat.zero_le:=@Nat.zero_le
theorem Vav:type_of% @Int.mul_nonneg:=@Int.mul_nonneg
theorem Vaw:type_of% @List.map_append:=@List.map_append
theorem Vax:type_of% @Int.pow_pos:=@Int.pow_pos
theorem Vay:type_of% @List.length_append:=@List.length_append
theorem Vaz:type_of% @List.mem_singleton:=@List.mem_singleton
theorem VaA:type_of% @List.getD_eq_getElem?_getD:=@List.getD_eq_getElem?_getD
theorem VaB:type_of% @List.map_cons:=@List.map_cons
theorem VaC:type_of% @Nat.le_trans:=@Nat.le_trans
theorem VaD:type_of% @List.mem_cons_of_mem:=@List.mem_cons_of_mem
theorem VaE:type_of% @List.getElem?_eq_none_iff:=@List.getElem?_eq_none_iff
theorem VaF:type_of% @List.mem_append_right:=@List.mem_append_right
theorem VaG:type_of% @List.length_set:=@List.length_set
theorem VaH:type_of% @Int.le_refl:=@Int.le_refl
theorem VaI:type_of% @Nat.lt_irrefl:=@Nat.lt_irrefl
theorem VaJ:type_of% @List.mem_append:=@List.mem_append
theorem VaK:type_of% @List.length_cons:=@List.length_cons
theorem VaL:type_of% @List.mem_iff_getElem:=@List.mem_iff_getElem
theorem VaM:type_of% @List.take_length:=@List.take_length
theorem VaN:type_of% @List.getElem?_set_self:=@List.getElem?_set_self
theorem VaO:type_of% @List.getElem?_set_ne:=@List.getElem?_set_ne
theorem VaP:type_of% @List.getElem?_append_right:=@List.getElem?_append_right
theorem VaQ:type_of% @Int.mul_zero:=@Int.mul_zero
theorem VaR:type_of% @List.map_map:=@List.map_map
theorem VaS:type_of% @Nat.le_of_lt:=@Nat.le_of_lt
theorem VaT:type_of% @List.mem_cons_self:=@List.mem_cons_self
theorem VaU:type_of% @Int.mul_comm:=@Int.mul_comm
theorem VaV:type_of% @Int.mul_neg:=@Int.mul_neg
theorem VaW:type_of% @List.append_nil:=@List.append_nil
theorem VaX:type_of% @Option.isSome_iff_exists:=@Option.isSome_iff_exists
theorem VaY:type_of% @List.mem_map:=@List.mem_map
theorem VaZ:type_of% @Int.le_trans:=@Int.le_trans
theorem Va0:type_of% @Int.neg_neg:=@Int.neg_neg
set_option Elab.async false
set_option linter.all false
set_option maxRecDepth 100000
set_option genSizeOf false
set_option maxHeartbeats 40000000
namespace L2
open PySem PySem.Spec PyProof.Rows
def zaM (s:Stmt)(j:Nat):Stmt:=match s with
 | .ClassDef _ _ _ body _ _ _ _ _ _ _=>body.getD j (.Pass ⟨0,0,0,0⟩)
 | _=>.Pass ⟨0,0,0,0⟩
def zd6 (s:Stmt):Arguments:=match s with
 | .FunctionDef _ a _ _ _ _ _ _ _ _=>a
 | _=>{ posonlyargs:=[],args:=[],vararg:=none,kwonlyargs:=[],kw_defaults:=[],kwarg:=none,defaults:=[] }
def zdG (s:Stmt):List Stmt:=match s with
 | .FunctionDef _ _ b _ _ _ _ _ _ _=>b
 | _=>[]
def zas (s:Stmt):Scope:=match s with
 | .FunctionDef _ _ _ _ _ _ sc _ _ _=>sc
 | _=>{ kind:=.function,names:=[],isGenerator:=false,isCoroutine:=false }
end L2
namespace L3
open PySem PySem.W PyProof.Rows PySem.Calls
theorem zoM {α β γ δ:Type}{f:α→Option β}{A:β→γ}{B:β→δ}{a:γ}{b:δ}(h1:(λx=>(f x).map A)=λ_=>some a)(h2:(λx=>(f x).map B)=λ_=>some b):(λx=>(f x).map λs=>(A s,B s))=λ_=>some (a,b):=by
 funext x
 have e1:=congrFun h1 x
 have e2:=congrFun h2 x
 cases h:f x with
 | none=>rw[h] at e1; cases e1
 | some s=>
  rw[h] at e1 e2
  exact congrArg some (Prod.ext (Option.some.inj e1) (Option.some.inj e2))
def goT (tb:String→Option Builtin)(p:Program)(w:World)(n₀:Nat)(ann:Option Value):Nat→SharedT→Thread→Option SharedT
 | 0,_,_=>none
 | k+1,s,t=>bif through t then some s else bif stepOk n₀ ann t then (stepT (denote tb) p w s t).bind (λr=>goT tb p w n₀ ann k r.1 r.2) else none
theorem zp4 {tb:String→Option Builtin}{p:Program}{w:World}{n₀:Nat}{ann:Option Value}:∀ {n:Nat} {s s':SharedT} {t:Thread},goT tb p w n₀ ann n s t=some s'→topRun tb p w n₀ ann n s.abs t=some s'.abs
 | 0,_,_,_,q=>nomatch q
 | n+1,s,s',t,q=>by
  unfold goT at q
  unfold topRun
  cases c1:through t
  ·rw[c1] at q
   cases c2:stepOk n₀ ann t
   ·rw[c2] at q
    exact nomatch q
   ·rw[c2] at q
    obtain⟨⟨s2,t2⟩,c3,q⟩:=Option.bind_eq_some_iff.mp q
    rw[stepT_spec c3]
    exact zp4 q
  ·rw[c1] at q
   cases q
   rfl
def zou (os:Array Obj):Nat→Nat→Nat→BT
 | 0,_,_=>.nil
 | f+1,a,b=>match os[b]? with
  | some o=>.node o (zou os f (2*a) (a+b)) (zou os f (2*a) (2*a+b))
  | none=>.nil
noncomputable def bootT (P:Params):BT:=zou (boot_heap P).objs 6 1 0
noncomputable abbrev zcn (w:World)(os:OsState):SharedT:=⟨bootT w.params,11,(boot_heap w.params).life,Array.mk [],boot_drawn,boot_toks,os⟩
def zmU (s:SharedT)(a:Addr):Option Obj:=if a<s.n then (match s.tree.get a with | some o=>alive o | none=>s.abs.heap.get? a) else none
theorem zsJ (s:SharedT)(a:Addr):s.abs.heap.get? a=zmU s a:=by
 unfold zmU
 split
 ·rename_i h
  cases e:s.tree.get a with
  | none=>rfl
  | some o=>exact abs_get h e
 ·rename_i h
  exact abs_get_none h
theorem zv8 (l:List Addr)(s:SharedT):l.map s.abs.heap.get?=l.map (zmU s):=List.map_congr_left λa _=>zsJ s a
noncomputable abbrev seenT (p q:Program)(loose:List Str)(Xt:Shared→Bool){α:Type}(YT:SharedT→α)(g0:Bool)(w:World)(s:SharedT):=
 ((staticsOk (importedModules p.main.body) (boot_heap w.params) s.abs.heap&&namesBound p s.abs.heap&&gensDone s.abs&&laidKept (boot_heap w.params) s.abs.heap),openSeen q loose (importedModules p.main.body) Xt g0 s.abs,YT s)
theorem zti {p q:Program}{loose:List Str}{Xt:Shared→Bool}{α:Type}{Yf:Shared→α}{YT:SharedT→α}{Ya:World→α}{N:Nat}{g0:Bool}{ann:Option Value}(hY:∀s:SharedT,Yf s.abs=YT s)(e:opening p=plainProg p.main.scope.names)(hN:Nat.ble 600 N=true)(f:∀s,fenceModules? p s=some s)
  (size:∀w:World,((boot_heap w.params).isNs mainGlobals&&(Array.mk []:Array GenState).size==0,(boot_heap w.params).objs.size,(boot_heap w.params).nsMap mainGlobals "__annotations__")=(true,11,ann))
  (run:∀w:World,(λos=>(goT treeTable p w 11 ann N (zcn w os) (topStub p)).map λs=>seenT p q loose Xt YT g0 w s)=λ_=>some (true,openGood q loose,Ya w)):LeftO p q loose Xt Yf Ya N g0:=λw=>by
 obtain⟨⟨h,gs,d,k,os⟩,e1,e'⟩:=Vah.mp (boot_open e hN f w)
 obtain⟨rfl,rfl,rfl,rfl⟩:h=boot_heap w.params∧gs=Array.mk []∧d=boot_drawn∧k=boot_toks:=by simpa using e'
 obtain⟨y1,y2,y3⟩:_∧_∧_:=by simpa only [Prod.mk.injEq] using size w
 obtain⟨s',r1,r2⟩:=Vah.mp (congrFun (run w) os)
 obtain⟨l1,l2,l3⟩:_∧_∧_:=by simpa only [Prod.mk.injEq] using r2
 have r:topRun treeTable p w 11 ann N ⟨boot_heap w.params,Array.mk [],boot_drawn,boot_toks,os⟩ (topStub p)=some s'.abs:=by
  have z:=zp4 r1
  exact z
 have t:topFrom treeTable p w N ⟨boot_heap w.params,Array.mk [],boot_drawn,boot_toks,os⟩=some s'.abs:=by
  unfold topFrom
  dsimp only
  rw[y1,y2,y3,r]
  show (match staticsOk (importedModules p.main.body) (boot_heap w.params) s'.abs.heap&&namesBound p s'.abs.heap&&gensDone s'.abs&&laidKept (boot_heap w.params) s'.abs.heap with | true=>_ | false=>_)=_
  rw[l1]
 unfold openEnds
 rw[e1]
 show Option.map _ (topFrom treeTable p w N _)=_
 rw[t]
 exact congrArg some (Prod.ext l2 ((hY s').trans l3))
noncomputable abbrev zoR (p:Program)(w:World)(s:SharedT):Bool:=staticsOk (importedModules p.main.body) (boot_heap w.params) s.abs.heap&&namesBound p s.abs.heap&&gensDone s.abs&&laidKept (boot_heap w.params) s.abs.heap
theorem zrk {p q:Program}{loose:List Str}{Xt:Shared→Bool}{α:Type}{Yf:Shared→α}{YT:SharedT→α}{Ya:World→α}{N:Nat}{g0:Bool}{ann:Option Value}(hY:∀s:SharedT,Yf s.abs=YT s)(e:opening p=plainProg p.main.scope.names)(hN:Nat.ble 600 N=true)(f:∀s,fenceModules? p s=some s)
  (size:∀w:World,((boot_heap w.params).isNs mainGlobals&&(Array.mk []:Array GenState).size==0,(boot_heap w.params).objs.size,(boot_heap w.params).nsMap mainGlobals "__annotations__")=(true,11,ann))
  (ra:∀w:World,(λos=>(goT treeTable p w 11 ann N (zcn w os) (topStub p)).map λs=>(zoR p w s,(openSeen q loose (importedModules p.main.body) Xt g0 s.abs).1))=λ_=>some (true,(openGood q loose).1))
  (rb:∀w:World,(λos=>(goT treeTable p w 11 ann N (zcn w os) (topStub p)).map λs=>((openSeen q loose (importedModules p.main.body) Xt g0 s.abs).2.1,(openSeen q loose (importedModules p.main.body) Xt g0 s.abs).2.2.1))=λ_=>some ((openGood q loose).2.1,(openGood q loose).2.2.1))
  (rc:∀w:World,(λos=>(goT treeTable p w 11 ann N (zcn w os) (topStub p)).map λs=>(openSeen q loose (importedModules p.main.body) Xt g0 s.abs).2.2.2)=λ_=>some (openGood q loose).2.2.2)
  (objs:∀w:World,(λos=>(goT treeTable p w 11 ann N (zcn w os) (topStub p)).map YT)=λ_=>some (Ya w)):LeftO p q loose Xt Yf Ya N g0:=by
 refine zti hY e hN f size λw=>funext λos=>?_
 obtain⟨s1,a1,b1⟩:=Vah.mp (congrFun (ra w) os)
 obtain⟨s2,a2,b2⟩:=Vah.mp (congrFun (rb w) os)
 obtain⟨s3,a3,b3⟩:=Vah.mp (congrFun (rc w) os)
 obtain⟨s4,a4,b4⟩:=Vah.mp (congrFun (objs w) os)
 rw[a1] at a2 a3 a4
 cases a2
 cases a3
 cases a4
 obtain⟨l1,l2⟩:=Prod.mk.inj b1
 obtain⟨l3,l4⟩:=Prod.mk.inj b2
 have l5:openSeen q loose (importedModules p.main.body) Xt g0 s1.abs=openGood q loose:=Prod.ext l2 (Prod.ext l3 (Prod.ext l4 b3))
 rw[a1]
 show some (zoR p w s1,openSeen q loose (importedModules p.main.body) Xt g0 s1.abs,YT s1)=some (true,openGood q loose,Ya w)
 rw[l1,l5,b4]
end L3
namespace Mine
open PySem PySem.Spec PyProof.Rows L2 L3
def top (i:Nat):Stmt:=PySem.Challenge.pw_boxnarrow_k37_whole_narrowing_by_a_model.main.body.getD i (.Pass ⟨0,0,0,0⟩)
theorem ws_eq:PySem.W.OpenLaw.wellSaid PySem.Challenge.rw_boxnarrow_k37_whole_narrowing_by_a_model=true:=by decide +kernel
def vw:Program:={ PySem.Challenge.pw_boxnarrow_k37_whole_narrowing_by_a_model with main:={ PySem.Challenge.pw_boxnarrow_k37_whole_narrowing_by_a_model.main with body:=[top 0,top 2,top 3,top 5,top 6,top 8,top 9,top 10,top 11,top 12,top 13,top 14,top 15,top 17,top 18,top 19,top 20,top 21,top 22,top 23,top 24,top 25,top 26,top 27,top 29,top 30,top 31,top 32,top 33,top 34,top 35,top 36,top 37,top 39,top 41,top 42,top 43,top 45,top 46,top 47,top 48,top 49,top 50,top 51,top 52,top 53,top 54,top 55,top 56,top 57,top 58,top 59,top 60,top 61,top 62,top 63,top 64,top 65,top 66,top 67,top 68,top 69,top 70,top 71,top 72,top 73,top 74,top 75,top 76,top 77] } }
noncomputable abbrev de (P:Params)(s:Str)(t:Tok)(v:Value):DictEntry:=⟨PySem.PyData.keyHash P s,.str s t,v⟩
abbrev co (n q:Str)(a b c d:Tok)(i k:Int)(r s:Addr)(y z:Value)(t:Addr)(j:Int):Obj:=⟨.type "code",none,.fields #[.str n a,.str q b,.str "/claim/cut.py" c,.int i 0,.int k 0,.int 0 0,.int 0 0,.int 3 0,.ref r,.bool Bool.true,.int 181 0,.ref s,.none,y,z,.ref t,.int j 0,.int i 0,.str "/claim/cut.py" d],#[]⟩
abbrev fo (n q:Str)(st:Stmt)(m:Value)(c:Addr):Obj:=⟨.type "function",none,.func (PySem.W.fnOf n q (zd6 st) (zdG st) (zas st) .none .none .none m none (.ref c) .none),#[]⟩
noncomputable def kp:Params→PySem.W.Frag:=λP=>
 (nat_lit 3,(.mk (.type "dict") none (.dict #[(de P "__name__" 165 (.str "law_boxnarrow_k37_whole_narrowing_by_a_model" 969)),(de P "__doc__" 166 .none),(de P "__package__" 167 .none),(de P "__loader__" 168 (.builtin "__main__.__loader__#opaque")),(de P "__spec__" 169 .none),(de P "__annotations__" 170 (.ref 6)),(de P "__builtins__" 171 (.ref 4)),(de P "__file__" 173 (.str "/claim/cut.py" 172)),(de P "__cached__" 174 .none),(de P "_wall" 193 (.ref 21)),(de P "BoxError" 213 (.ref 31)),(de P "NoSpan" 229 (.ref 44)),(de P "raised" 241 (.ref 53)),(de P "less" 249 (.ref 60)),(de P "rounded_up" 259 (.ref 67)),(de P "span_of" 268 (.ref 74)),(de P "add_spans" 276 (.ref 81)),(de P "take_spans" 284 (.ref 88)),(de P "mul_spans" 294 (.ref 95)),(de P "raise_span" 300 (.ref 100)),(de P "common" 310 (.ref 107)),(de P "hull" 318 (.ref 114)),(de P "holds_nought" 327 (.ref 121)),(de P "opposite" 334 (.ref 128)),(de P "joined" 342 (.ref 135)),(de P "part_between" 351 (.ref 142)),(de P "quotient" 359 (.ref 149)),(de P "back_by_side" 372 (.ref 156)),(de P "back_times" 385 (.ref 163)),(de P "root_below" 395 (.ref 170)),(de P "next_guess" 404 (.ref 177)),(de P "root" 413 (.ref 184)),(de P "back_power" 427 (.ref 191)),(de P "Node" 449 (.ref 201)),(de P "Number" 517 (.ref 250)),(de P "Unknown" 582 (.ref 297)),(de P "Pair" 632 (.ref 330)),(de P "Plus" 701 (.ref 377)),(de P "Minus" 770 (.ref 424)),(de P "Times" 839 (.ref 471)),(de P "Power" 907 (.ref 518)),(de P "kind_of" 914 (.ref 527)),(de P "worths" 927 (.ref 534)),(de P "asked_of" 937 (.ref 541)),(de P "spans_back" 953 (.ref 548)),(de P "narrowed" 968 (.ref 555)),(de P "_law_cell" 978 (.ref 562)),(de P "_law_whole" 985 (.ref 569)),(de P "_law_span_is" 992 (.ref 576)),(de P "_law_spans_are" 1001 (.ref 583)),(de P "_law_divisor" 1010 (.ref 590)),(de P "_law_fraction" 1019 (.ref 597)),(de P "_law_grid" 1027 (.ref 604)),(de P "_law_span" 1038 (.ref 611)),(de P "_law_power" 1048 (.ref 618)),(de P "_law_number" 1057 (.ref 625)),(de P "_law_node" 1069 (.ref 632)),(de P "_law_weight" 1077 (.ref 639)),(de P "_law_net" 1083 (.ref 644)),(de P "_law_forth" 1098 (.ref 651)),(de P "_law_worths" 1109 (.ref 658)),(de P "_law_row_by" 1126 (.ref 665)),(de P "_law_meet" 1134 (.ref 672)),(de P "_law_pieces" 1151 (.ref 679)),(de P "_law_kept" 1161 (.ref 686)),(de P "_law_hulled" 1167 (.ref 691)),(de P "_law_quot" 1173 (.ref 696)),(de P "_law_root" 1185 (.ref 703)),(de P "_law_down" 1195 (.ref 710)),(de P "_law_root_kept" 1206 (.ref 717)),(de P "_law_rooted" 1221 (.ref 724)),(de P "_law_half" 1233 (.ref 731)),(de P "_law_back" 1245 (.ref 738)),(de P "_law_narrowed" 1262 (.ref 745)),(de P "_law_digit_span" 1270 (.ref 752)),(de P "_law_digit_node" 1281 (.ref 759)),(de P "_law_by_digits" 1287 (.ref 764)),(de P "_law_drawn" 1293 (.ref 769)),(de P "law" 1308 (.ref 776))] 79) #[]))::
 (nat_lit 30,(.mk (.type "dict") none (.dict #[(de P "__module__" 203 (.str "boxnarrow.errors" 194)),(de P "__firstlineno__" 207 (.int 5 206)),(de P "__static_attributes__" 208 (.ref 29)),(de P "__weakref__" 210 (.ref 32)),(de P "__doc__" 211 .none)] 3) #[]))::
 (nat_lit 31,(.mk (.type "type") none (.cls (PySem.ClassData.mk "BoxError" [(.type "ValueError")] [(.ref 31),(.type "ValueError"),(.type "Exception"),(.type "BaseException"),(.type "object")] 30 "BoxError" Bool.true [] [(.ref 44)] Bool.false none Bool.false)) #[(some (.ref 22)),none,(some (.str "BoxError" 196)),(some (.str "BoxError" 204)),(some (.builtin "ValueError.__new__")),(some (.bool Bool.true))]))::
 (nat_lit 43,(.mk (.type "dict") none (.dict #[(de P "__module__" 221 (.str "boxnarrow.errors" 194)),(de P "__firstlineno__" 225 (.int 7 224)),(de P "__static_attributes__" 226 (.ref 42)),(de P "__doc__" 227 .none)] 2) #[]))::
 (nat_lit 44,(.mk (.type "type") none (.cls (PySem.ClassData.mk "NoSpan" [(.ref 31)] [(.ref 44),(.ref 31),(.type "ValueError"),(.type "Exception"),(.type "BaseException"),(.type "object")] 43 "NoSpan" Bool.true [] [] Bool.false none Bool.false)) #[(some (.ref 35)),none,(some (.str "NoSpan" 214)),(some (.str "NoSpan" 222)),(some (.builtin "ValueError.__new__")),(some (.bool Bool.true))]))::
 (nat_lit 52,co "raised" "raised" 232 233 234 240 10 2 47 48 (.ref 49) (.ref 50) 51 239)::
 (nat_lit 53,fo "raised" "raised" (top 5) (.str "boxnarrow.fractions" 230) 52)::
 (nat_lit 59,co "less" "less" 242 243 244 248 15 2 54 55 (.ref 56) (.ref 57) 58 247)::
 (nat_lit 60,fo "less" "less" (top 6) (.str "boxnarrow.fractions" 230) 59)::
 (nat_lit 66,co "rounded_up" "rounded_up" 252 253 254 258 18 2 61 62 (.ref 63) (.ref 64) 65 257)::
 (nat_lit 67,fo "rounded_up" "rounded_up" (top 8) (.str "boxnarrow.spans" 250) 66)::
 (nat_lit 73,co "span_of" "span_of" 260 261 262 267 20 3 68 69 (.ref 70) (.ref 71) 72 266)::
 (nat_lit 74,fo "span_of" "span_of" (top 9) (.str "boxnarrow.spans" 250) 73)::
 (nat_lit 80,co "add_spans" "add_spans" 269 270 271 275 24 2 75 76 (.ref 77) (.ref 78) 79 274)::
 (nat_lit 81,fo "add_spans" "add_spans" (top 10) (.str "boxnarrow.spans" 250) 80)::
 (nat_lit 87,co "take_spans" "take_spans" 277 278 279 283 26 2 82 83 (.ref 84) (.ref 85) 86 282)::
 (nat_lit 88,fo "take_spans" "take_spans" (top 11) (.str "boxnarrow.spans" 250) 87)::
 (nat_lit 94,co "mul_spans" "mul_spans" 285 286 287 293 28 3 89 90 (.ref 91) (.ref 92) 93 292)::
 (nat_lit 95,fo "mul_spans" "mul_spans" (top 12) (.str "boxnarrow.spans" 250) 94)::
 (nat_lit 99,co "raise_span" "raise_span" 295 296 297 299 31 3 96 97 .none .none 98 298)::
 (nat_lit 100,fo "raise_span" "raise_span" (top 13) (.str "boxnarrow.spans" 250) 99)::
 (nat_lit 106,co "common" "common" 301 302 303 309 38 2 101 102 (.ref 103) (.ref 104) 105 308)::
 (nat_lit 107,fo "common" "common" (top 14) (.str "boxnarrow.spans" 250) 106)::
 (nat_lit 113,co "hull" "hull" 311 312 313 317 44 2 108 109 (.ref 110) (.ref 111) 112 316)::
 (nat_lit 114,fo "hull" "hull" (top 15) (.str "boxnarrow.spans" 250) 113)::
 (nat_lit 120,co "holds_nought" "holds_nought" 321 322 323 326 47 1 115 116 (.ref 117) (.ref 118) 119 325)::
 (nat_lit 121,fo "holds_nought" "holds_nought" (top 17) (.str "boxnarrow.backs" 319) 120)::
 (nat_lit 127,co "opposite" "opposite" 328 329 330 333 49 1 122 123 (.ref 124) (.ref 125) 126 332)::
 (nat_lit 128,fo "opposite" "opposite" (top 18) (.str "boxnarrow.backs" 319) 127)::
 (nat_lit 134,co "joined" "joined" 335 336 337 341 51 2 129 130 (.ref 131) (.ref 132) 133 340)::
 (nat_lit 135,fo "joined" "joined" (top 19) (.str "boxnarrow.backs" 319) 134)::
 (nat_lit 141,co "part_between" "part_between" 343 344 345 350 57 3 136 137 (.ref 138) (.ref 139) 140 349)::
 (nat_lit 142,fo "part_between" "part_between" (top 20) (.str "boxnarrow.backs" 319) 141)::
 (nat_lit 148,co "quotient" "quotient" 352 353 354 358 61 2 143 144 (.ref 145) (.ref 146) 147 357)::
 (nat_lit 149,fo "quotient" "quotient" (top 21) (.str "boxnarrow.backs" 319) 148)::
 (nat_lit 155,co "back_by_side" "back_by_side" 360 361 362 371 63 3 150 151 (.ref 152) (.ref 153) 154 370)::
 (nat_lit 156,fo "back_by_side" "back_by_side" (top 22) (.str "boxnarrow.backs" 319) 155)::
 (nat_lit 162,co "back_times" "back_times" 373 374 375 384 69 4 157 158 (.ref 159) (.ref 160) 161 383)::
 (nat_lit 163,fo "back_times" "back_times" (top 23) (.str "boxnarrow.backs" 319) 162)::
 (nat_lit 169,co "root_below" "root_below" 386 387 388 394 80 2 164 165 (.ref 166) (.ref 167) 168 393)::
 (nat_lit 170,fo "root_below" "root_below" (top 24) (.str "boxnarrow.backs" 319) 169)::
 (nat_lit 176,co "next_guess" "next_guess" 396 397 398 403 89 3 171 172 (.ref 173) (.ref 174) 175 402)::
 (nat_lit 177,fo "next_guess" "next_guess" (top 25) (.str "boxnarrow.backs" 319) 176)::
 (nat_lit 183,co "root" "root" 405 406 407 412 91 2 178 179 (.ref 180) (.ref 181) 182 411)::
 (nat_lit 184,fo "root" "root" (top 26) (.str "boxnarrow.backs" 319) 183)::
 (nat_lit 190,co "back_power" "back_power" 414 415 416 426 98 4 185 186 (.ref 187) (.ref 188) 189 425)::
 (nat_lit 191,fo "back_power" "back_power" (top 27) (.str "boxnarrow.backs" 319) 190)::
 (nat_lit 200,(.mk (.type "dict") none (.dict #[(de P "__module__" 437 (.str "boxnarrow.kinds" 428)),(de P "__firstlineno__" 441 (.int 109 440)),(de P "__static_attributes__" 442 (.ref 199)),(de P "__dict__" 444 (.ref 202)),(de P "__weakref__" 446 (.ref 203)),(de P "__doc__" 447 .none)] 4) #[]))::
 (nat_lit 201,(.mk (.type "type") none (.cls (PySem.ClassData.mk "Node" [(.type "object")] [(.ref 201),(.type "object")] 200 "Node" Bool.true [] [(.ref 250),(.ref 297),(.ref 330),(.ref 518)] Bool.false none Bool.false)) #[none,none,(some (.str "Node" 430)),(some (.str "Node" 438)),(some (.builtin "object.__new__")),(some (.bool Bool.true))]))::
 (nat_lit 218,co "__init__" "Number.__init__" 462 463 464 469 113 3 213 214 (.ref 215) (.ref 216) 217 468)::
 (nat_lit 219,fo "__init__" "Number.__init__" (zaM (top 30) 0) (.str "boxnarrow.kinds" 428) 218)::
 (nat_lit 232,co "forth" "Number.forth" 480 481 482 489 120 4 227 228 (.ref 229) (.ref 230) 231 488)::
 (nat_lit 233,fo "forth" "Number.forth" (zaM (top 30) 2) (.str "boxnarrow.kinds" 428) 232)::
 (nat_lit 239,co "back" "Number.back" 491 492 493 499 124 4 234 235 (.ref 236) (.ref 237) 238 498)::
 (nat_lit 240,fo "back" "Number.back" (zaM (top 30) 3) (.str "boxnarrow.kinds" 428) 239)::
 (nat_lit 249,(.mk (.type "dict") none (.dict #[(de P "__module__" 457 (.str "boxnarrow.kinds" 428)),(de P "__firstlineno__" 461 (.int 111 460)),(de P "__init__" 470 (.ref 219)),(de P "exact" 479 (.ref 226)),(de P "forth" 490 (.ref 233)),(de P "back" 500 (.ref 240)),(de P "slope" 511 (.ref 247)),(de P "__static_attributes__" 514 (.ref 248)),(de P "__doc__" 515 .none)] 2) #[]))::
 (nat_lit 250,(.mk (.type "type") none (.cls (PySem.ClassData.mk "Number" [(.ref 201)] [(.ref 250),(.ref 201),(.type "object")] 249 "Number" Bool.true [] [] Bool.false none Bool.false)) #[(some (.ref 206)),none,(some (.str "Number" 450)),(some (.str "Number" 458)),(some (.builtin "object.__new__")),(some (.bool Bool.true))]))::
 (nat_lit 265,co "__init__" "Unknown.__init__" 530 531 532 536 131 2 260 261 (.ref 262) (.ref 263) 264 535)::
 (nat_lit 266,fo "__init__" "Unknown.__init__" (zaM (top 31) 0) (.str "boxnarrow.kinds" 428) 265)::
 (nat_lit 279,co "forth" "Unknown.forth" 547 548 549 555 137 4 274 275 (.ref 276) (.ref 277) 278 554)::
 (nat_lit 280,fo "forth" "Unknown.forth" (zaM (top 31) 2) (.str "boxnarrow.kinds" 428) 279)::
 (nat_lit 286,co "back" "Unknown.back" 557 558 559 565 140 4 281 282 (.ref 283) (.ref 284) 285 564)::
 (nat_lit 287,fo "back" "Unknown.back" (zaM (top 31) 3) (.str "boxnarrow.kinds" 428) 286)::
 (nat_lit 296,(.mk (.type "dict") none (.dict #[(de P "__module__" 525 (.str "boxnarrow.kinds" 428)),(de P "__firstlineno__" 529 (.int 129 528)),(de P "__init__" 537 (.ref 266)),(de P "exact" 546 (.ref 273)),(de P "forth" 556 (.ref 280)),(de P "back" 566 (.ref 287)),(de P "slope" 577 (.ref 294)),(de P "__static_attributes__" 579 (.ref 295)),(de P "__doc__" 580 .none)] 2) #[]))::
 (nat_lit 297,(.mk (.type "type") none (.cls (PySem.ClassData.mk "Unknown" [(.ref 201)] [(.ref 297),(.ref 201),(.type "object")] 296 "Unknown" Bool.true [] [] Bool.false none Bool.false)) #[(some (.ref 253)),none,(some (.str "Unknown" 518)),(some (.str "Unknown" 526)),(some (.builtin "object.__new__")),(some (.bool Bool.true))]))::
 (nat_lit 312,co "__init__" "Pair.__init__" 595 596 597 602 147 3 307 308 (.ref 309) (.ref 310) 311 601)::
 (nat_lit 313,fo "__init__" "Pair.__init__" (zaM (top 32) 0) (.str "boxnarrow.kinds" 428) 312)::
 (nat_lit 319,co "back" "Pair.back" 604 605 606 614 151 4 314 315 (.ref 316) (.ref 317) 318 613)::
 (nat_lit 320,fo "back" "Pair.back" (zaM (top 32) 1) (.str "boxnarrow.kinds" 428) 319)::
 (nat_lit 329,(.mk (.type "dict") none (.dict #[(de P "__module__" 590 (.str "boxnarrow.kinds" 428)),(de P "__firstlineno__" 594 (.int 145 593)),(de P "__init__" 603 (.ref 313)),(de P "back" 615 (.ref 320)),(de P "slope" 626 (.ref 327)),(de P "__static_attributes__" 629 (.ref 328)),(de P "__doc__" 630 .none)] 2) #[]))::
 (nat_lit 330,(.mk (.type "type") none (.cls (PySem.ClassData.mk "Pair" [(.ref 201)] [(.ref 330),(.ref 201),(.type "object")] 329 "Pair" Bool.true [] [(.ref 377),(.ref 424),(.ref 471)] Bool.false none Bool.false)) #[(some (.ref 300)),none,(some (.str "Pair" 583)),(some (.str "Pair" 591)),(some (.builtin "object.__new__")),(some (.bool Bool.true))]))::
 (nat_lit 352,co "forth" "Plus.forth" 654 655 656 662 168 4 347 348 (.ref 349) (.ref 350) 351 661)::
 (nat_lit 353,fo "forth" "Plus.forth" (zaM (top 33) 1) (.str "boxnarrow.kinds" 428) 352)::
 (nat_lit 359,co "first_left" "Plus.first_left" 664 665 666 673 171 5 354 355 (.ref 356) (.ref 357) 358 672)::
 (nat_lit 360,fo "first_left" "Plus.first_left" (zaM (top 33) 2) (.str "boxnarrow.kinds" 428) 359)::
 (nat_lit 366,co "second_left" "Plus.second_left" 675 676 677 684 174 5 361 362 (.ref 363) (.ref 364) 365 683)::
 (nat_lit 367,fo "second_left" "Plus.second_left" (zaM (top 33) 3) (.str "boxnarrow.kinds" 428) 366)::
 (nat_lit 376,(.mk (.type "dict") none (.dict #[(de P "__module__" 640 (.str "boxnarrow.kinds" 428)),(de P "__firstlineno__" 644 (.int 163 643)),(de P "exact" 653 (.ref 346)),(de P "forth" 663 (.ref 353)),(de P "first_left" 674 (.ref 360)),(de P "second_left" 685 (.ref 367)),(de P "slope_of_both" 697 (.ref 374)),(de P "__static_attributes__" 698 (.ref 375)),(de P "__doc__" 699 .none)] 2) #[]))::
 (nat_lit 377,(.mk (.type "type") none (.cls (PySem.ClassData.mk "Plus" [(.ref 330)] [(.ref 377),(.ref 330),(.ref 201),(.type "object")] 376 "Plus" Bool.true [] [] Bool.false none Bool.false)) #[(some (.ref 333)),none,(some (.str "Plus" 633)),(some (.str "Plus" 641)),(some (.builtin "object.__new__")),(some (.bool Bool.true))]))::
 (nat_lit 399,co "forth" "Minus.forth" 723 724 725 731 184 4 394 395 (.ref 396) (.ref 397) 398 730)::
 (nat_lit 400,fo "forth" "Minus.forth" (zaM (top 34) 1) (.str "boxnarrow.kinds" 428) 399)::
 (nat_lit 406,co "first_left" "Minus.first_left" 733 734 735 742 187 5 401 402 (.ref 403) (.ref 404) 405 741)::
 (nat_lit 407,fo "first_left" "Minus.first_left" (zaM (top 34) 2) (.str "boxnarrow.kinds" 428) 406)::
 (nat_lit 413,co "second_left" "Minus.second_left" 744 745 746 753 190 5 408 409 (.ref 410) (.ref 411) 412 752)::
 (nat_lit 414,fo "second_left" "Minus.second_left" (zaM (top 34) 3) (.str "boxnarrow.kinds" 428) 413)::
 (nat_lit 423,(.mk (.type "dict") none (.dict #[(de P "__module__" 709 (.str "boxnarrow.kinds" 428)),(de P "__firstlineno__" 713 (.int 179 712)),(de P "exact" 722 (.ref 393)),(de P "forth" 732 (.ref 400)),(de P "first_left" 743 (.ref 407)),(de P "second_left" 754 (.ref 414)),(de P "slope_of_both" 766 (.ref 421)),(de P "__static_attributes__" 767 (.ref 422)),(de P "__doc__" 768 .none)] 2) #[]))::
 (nat_lit 424,(.mk (.type "type") none (.cls (PySem.ClassData.mk "Minus" [(.ref 330)] [(.ref 424),(.ref 330),(.ref 201),(.type "object")] 423 "Minus" Bool.true [] [] Bool.false none Bool.false)) #[(some (.ref 380)),none,(some (.str "Minus" 702)),(some (.str "Minus" 710)),(some (.builtin "object.__new__")),(some (.bool Bool.true))]))::
 (nat_lit 446,co "forth" "Times.forth" 792 793 794 800 200 4 441 442 (.ref 443) (.ref 444) 445 799)::
 (nat_lit 447,fo "forth" "Times.forth" (zaM (top 35) 1) (.str "boxnarrow.kinds" 428) 446)::
 (nat_lit 453,co "first_left" "Times.first_left" 802 803 804 811 203 5 448 449 (.ref 450) (.ref 451) 452 810)::
 (nat_lit 454,fo "first_left" "Times.first_left" (zaM (top 35) 2) (.str "boxnarrow.kinds" 428) 453)::
 (nat_lit 460,co "second_left" "Times.second_left" 813 814 815 822 206 5 455 456 (.ref 457) (.ref 458) 459 821)::
 (nat_lit 461,fo "second_left" "Times.second_left" (zaM (top 35) 3) (.str "boxnarrow.kinds" 428) 460)::
 (nat_lit 470,(.mk (.type "dict") none (.dict #[(de P "__module__" 778 (.str "boxnarrow.kinds" 428)),(de P "__firstlineno__" 782 (.int 195 781)),(de P "exact" 791 (.ref 440)),(de P "forth" 801 (.ref 447)),(de P "first_left" 812 (.ref 454)),(de P "second_left" 823 (.ref 461)),(de P "slope_of_both" 835 (.ref 468)),(de P "__static_attributes__" 836 (.ref 469)),(de P "__doc__" 837 .none)] 2) #[]))::
 (nat_lit 471,(.mk (.type "type") none (.cls (PySem.ClassData.mk "Times" [(.ref 330)] [(.ref 471),(.ref 330),(.ref 201),(.type "object")] 470 "Times" Bool.true [] [] Bool.false none Bool.false)) #[(some (.ref 427)),none,(some (.str "Times" 771)),(some (.str "Times" 779)),(some (.builtin "object.__new__")),(some (.bool Bool.true))]))::
 (nat_lit 486,co "__init__" "Power.__init__" 852 853 854 859 213 3 481 482 (.ref 483) (.ref 484) 485 858)::
 (nat_lit 487,fo "__init__" "Power.__init__" (zaM (top 36) 0) (.str "boxnarrow.kinds" 428) 486)::
 (nat_lit 500,co "forth" "Power.forth" 870 871 872 878 220 4 495 496 (.ref 497) (.ref 498) 499 877)::
 (nat_lit 501,fo "forth" "Power.forth" (zaM (top 36) 2) (.str "boxnarrow.kinds" 428) 500)::
 (nat_lit 507,co "back" "Power.back" 880 881 882 889 223 4 502 503 (.ref 504) (.ref 505) 506 888)::
 (nat_lit 508,fo "back" "Power.back" (zaM (top 36) 3) (.str "boxnarrow.kinds" 428) 507)::
 (nat_lit 517,(.mk (.type "dict") none (.dict #[(de P "__module__" 847 (.str "boxnarrow.kinds" 428)),(de P "__firstlineno__" 851 (.int 211 850)),(de P "__init__" 860 (.ref 487)),(de P "exact" 869 (.ref 494)),(de P "forth" 879 (.ref 501)),(de P "back" 890 (.ref 508)),(de P "slope" 901 (.ref 515)),(de P "__static_attributes__" 904 (.ref 516)),(de P "__doc__" 905 .none)] 2) #[]))::
 (nat_lit 518,(.mk (.type "type") none (.cls (PySem.ClassData.mk "Power" [(.ref 201)] [(.ref 518),(.ref 201),(.type "object")] 517 "Power" Bool.true [] [] Bool.false none Bool.false)) #[(some (.ref 474)),none,(some (.str "Power" 840)),(some (.str "Power" 848)),(some (.builtin "object.__new__")),(some (.bool Bool.true))]))::
 (nat_lit 526,co "kind_of" "kind_of" 908 909 910 913 231 1 521 522 (.ref 523) (.ref 524) 525 912)::
 (nat_lit 527,fo "kind_of" "kind_of" (top 37) (.str "boxnarrow.kinds" 428) 526)::
 (nat_lit 533,co "worths" "worths" 917 918 919 926 244 3 528 529 (.ref 530) (.ref 531) 532 925)::
 (nat_lit 534,fo "worths" "worths" (top 39) (.str "boxnarrow.worths" 915) 533)::
 (nat_lit 540,co "asked_of" "asked_of" 930 931 932 936 250 2 535 536 (.ref 537) (.ref 538) 539 935)::
 (nat_lit 541,fo "asked_of" "asked_of" (top 41) (.str "boxnarrow.narrow" 928) 540)::
 (nat_lit 547,co "spans_back" "spans_back" 938 939 940 952 254 4 542 543 (.ref 544) (.ref 545) 546 951)::
 (nat_lit 548,fo "spans_back" "spans_back" (top 42) (.str "boxnarrow.narrow" 928) 547)::
 (nat_lit 554,co "narrowed" "narrowed" 954 955 956 967 268 4 549 550 (.ref 551) (.ref 552) 553 966)::
 (nat_lit 555,fo "narrowed" "narrowed" (top 43) (.str "boxnarrow.narrow" 928) 554)::
 (nat_lit 561,co "_law_cell" "_law_cell" 971 972 973 977 279 2 556 557 (.ref 558) (.ref 559) 560 976)::
 (nat_lit 562,fo "_law_cell" "_law_cell" (top 45) (.str "law_boxnarrow_k37_whole_narrowing_by_a_model" 969) 561)::
 (nat_lit 568,co "_law_whole" "_law_whole" 979 980 981 984 283 1 563 564 (.ref 565) (.ref 566) 567 983)::
 (nat_lit 569,fo "_law_whole" "_law_whole" (top 46) (.str "law_boxnarrow_k37_whole_narrowing_by_a_model" 969) 568)::
 (nat_lit 575,co "_law_span_is" "_law_span_is" 986 987 988 991 285 1 570 571 (.ref 572) (.ref 573) 574 990)::
 (nat_lit 576,fo "_law_span_is" "_law_span_is" (top 47) (.str "law_boxnarrow_k37_whole_narrowing_by_a_model" 969) 575)::
 (nat_lit 582,co "_law_spans_are" "_law_spans_are" 993 994 995 1000 289 2 577 578 (.ref 579) (.ref 580) 581 999)::
 (nat_lit 583,fo "_law_spans_are" "_law_spans_are" (top 48) (.str "law_boxnarrow_k37_whole_narrowing_by_a_model" 969) 582)::
 (nat_lit 589,co "_law_divisor" "_law_divisor" 1002 1003 1004 1009 296 2 584 585 (.ref 586) (.ref 587) 588 1008)::
 (nat_lit 590,fo "_law_divisor" "_law_divisor" (top 49) (.str "law_boxnarrow_k37_whole_narrowing_by_a_model" 969) 589)::
 (nat_lit 596,co "_law_fraction" "_law_fraction" 1011 1012 1013 1018 302 2 591 592 (.ref 593) (.ref 594) 595 1017)::
 (nat_lit 597,fo "_law_fraction" "_law_fraction" (top 50) (.str "law_boxnarrow_k37_whole_narrowing_by_a_model" 969) 596)::
 (nat_lit 603,co "_law_grid" "_law_grid" 1020 1021 1022 1026 305 1 598 599 (.ref 600) (.ref 601) 602 1025)::
 (nat_lit 604,fo "_law_grid" "_law_grid" (top 51) (.str "law_boxnarrow_k37_whole_narrowing_by_a_model" 969) 603)::
 (nat_lit 610,co "_law_span" "_law_span" 1028 1029 1030 1037 308 1 605 606 (.ref 607) (.ref 608) 609 1036)::
 (nat_lit 611,fo "_law_span" "_law_span" (top 52) (.str "law_boxnarrow_k37_whole_narrowing_by_a_model" 969) 610)::
 (nat_lit 617,co "_law_power" "_law_power" 1039 1040 1041 1047 322 2 612 613 (.ref 614) (.ref 615) 616 1046)::
 (nat_lit 618,fo "_law_power" "_law_power" (top 53) (.str "law_boxnarrow_k37_whole_narrowing_by_a_model" 969) 617)::
 (nat_lit 624,co "_law_number" "_law_number" 1049 1050 1051 1056 327 1 619 620 (.ref 621) (.ref 622) 623 1055)::
 (nat_lit 625,fo "_law_number" "_law_number" (top 54) (.str "law_boxnarrow_k37_whole_narrowing_by_a_model" 969) 624)::
 (nat_lit 631,co "_law_node" "_law_node" 1058 1059 1060 1068 334 3 626 627 (.ref 628) (.ref 629) 630 1067)::
 (nat_lit 632,fo "_law_node" "_law_node" (top 55) (.str "law_boxnarrow_k37_whole_narrowing_by_a_model" 969) 631)::
 (nat_lit 638,co "_law_weight" "_law_weight" 1070 1071 1072 1076 348 2 633 634 (.ref 635) (.ref 636) 637 1075)::
 (nat_lit 639,fo "_law_weight" "_law_weight" (top 56) (.str "law_boxnarrow_k37_whole_narrowing_by_a_model" 969) 638)::
 (nat_lit 643,co "_law_net" "_law_net" 1078 1079 1080 1082 354 5 640 641 .none .none 642 1081)::
 (nat_lit 644,fo "_law_net" "_law_net" (top 57) (.str "law_boxnarrow_k37_whole_narrowing_by_a_model" 969) 643)::
 (nat_lit 650,co "_law_forth" "_law_forth" 1084 1085 1086 1097 368 4 645 646 (.ref 647) (.ref 648) 649 1096)::
 (nat_lit 651,fo "_law_forth" "_law_forth" (top 58) (.str "law_boxnarrow_k37_whole_narrowing_by_a_model" 969) 650)::
 (nat_lit 657,co "_law_worths" "_law_worths" 1099 1100 1101 1108 388 3 652 653 (.ref 654) (.ref 655) 656 1107)::
 (nat_lit 658,fo "_law_worths" "_law_worths" (top 59) (.str "law_boxnarrow_k37_whole_narrowing_by_a_model" 969) 657)::
 (nat_lit 664,co "_law_row_by" "_law_row_by" 1110 1111 1112 1125 393 5 659 660 (.ref 661) (.ref 662) 663 1124)::
 (nat_lit 665,fo "_law_row_by" "_law_row_by" (top 60) (.str "law_boxnarrow_k37_whole_narrowing_by_a_model" 969) 664)::
 (nat_lit 671,co "_law_meet" "_law_meet" 1127 1128 1129 1133 407 2 666 667 (.ref 668) (.ref 669) 670 1132)::
 (nat_lit 672,fo "_law_meet" "_law_meet" (top 61) (.str "law_boxnarrow_k37_whole_narrowing_by_a_model" 969) 671)::
 (nat_lit 678,co "_law_pieces" "_law_pieces" 1135 1136 1137 1150 411 3 673 674 (.ref 675) (.ref 676) 677 1149)::
 (nat_lit 679,fo "_law_pieces" "_law_pieces" (top 62) (.str "law_boxnarrow_k37_whole_narrowing_by_a_model" 969) 678)::
 (nat_lit 685,co "_law_kept" "_law_kept" 1152 1153 1154 1160 435 2 680 681 (.ref 682) (.ref 683) 684 1159)::
 (nat_lit 686,fo "_law_kept" "_law_kept" (top 63) (.str "law_boxnarrow_k37_whole_narrowing_by_a_model" 969) 685)::
 (nat_lit 690,co "_law_hulled" "_law_hulled" 1162 1163 1164 1166 447 1 687 688 .none .none 689 1165)::
 (nat_lit 691,fo "_law_hulled" "_law_hulled" (top 64) (.str "law_boxnarrow_k37_whole_narrowing_by_a_model" 969) 690)::
 (nat_lit 695,co "_law_quot" "_law_quot" 1168 1169 1170 1172 452 4 692 693 .none .none 694 1171)::
 (nat_lit 696,fo "_law_quot" "_law_quot" (top 65) (.str "law_boxnarrow_k37_whole_narrowing_by_a_model" 969) 695)::
 (nat_lit 702,co "_law_root" "_law_root" 1174 1175 1176 1184 456 3 697 698 (.ref 699) (.ref 700) 701 1183)::
 (nat_lit 703,fo "_law_root" "_law_root" (top 66) (.str "law_boxnarrow_k37_whole_narrowing_by_a_model" 969) 702)::
 (nat_lit 709,co "_law_down" "_law_down" 1186 1187 1188 1194 466 3 704 705 (.ref 706) (.ref 707) 708 1193)::
 (nat_lit 710,fo "_law_down" "_law_down" (top 67) (.str "law_boxnarrow_k37_whole_narrowing_by_a_model" 969) 709)::
 (nat_lit 716,co "_law_root_kept" "_law_root_kept" 1196 1197 1198 1205 473 4 711 712 (.ref 713) (.ref 714) 715 1204)::
 (nat_lit 717,fo "_law_root_kept" "_law_root_kept" (top 68) (.str "law_boxnarrow_k37_whole_narrowing_by_a_model" 969) 716)::
 (nat_lit 723,co "_law_rooted" "_law_rooted" 1207 1208 1209 1220 478 4 718 719 (.ref 720) (.ref 721) 722 1219)::
 (nat_lit 724,fo "_law_rooted" "_law_rooted" (top 69) (.str "law_boxnarrow_k37_whole_narrowing_by_a_model" 969) 723)::
 (nat_lit 730,co "_law_half" "_law_half" 1222 1223 1224 1232 491 6 725 726 (.ref 727) (.ref 728) 729 1231)::
 (nat_lit 731,fo "_law_half" "_law_half" (top 70) (.str "law_boxnarrow_k37_whole_narrowing_by_a_model" 969) 730)::
 (nat_lit 737,co "_law_back" "_law_back" 1234 1235 1236 1244 499 4 732 733 (.ref 734) (.ref 735) 736 1243)::
 (nat_lit 738,fo "_law_back" "_law_back" (top 71) (.str "law_boxnarrow_k37_whole_narrowing_by_a_model" 969) 737)::
 (nat_lit 744,co "_law_narrowed" "_law_narrowed" 1246 1247 1248 1261 512 4 739 740 (.ref 741) (.ref 742) 743 1260)::
 (nat_lit 745,fo "_law_narrowed" "_law_narrowed" (top 72) (.str "law_boxnarrow_k37_whole_narrowing_by_a_model" 969) 744)::
 (nat_lit 751,co "_law_digit_span" "_law_digit_span" 1263 1264 1265 1269 531 1 746 747 (.ref 748) (.ref 749) 750 1268)::
 (nat_lit 752,fo "_law_digit_span" "_law_digit_span" (top 73) (.str "law_boxnarrow_k37_whole_narrowing_by_a_model" 969) 751)::
 (nat_lit 758,co "_law_digit_node" "_law_digit_node" 1271 1272 1273 1280 534 3 753 754 (.ref 755) (.ref 756) 757 1279)::
 (nat_lit 759,fo "_law_digit_node" "_law_digit_node" (top 74) (.str "law_boxnarrow_k37_whole_narrowing_by_a_model" 969) 758)::
 (nat_lit 763,co "_law_by_digits" "_law_by_digits" 1282 1283 1284 1286 545 1 760 761 .none .none 762 1285)::
 (nat_lit 764,fo "_law_by_digits" "_law_by_digits" (top 75) (.str "law_boxnarrow_k37_whole_narrowing_by_a_model" 969) 763)::
 (nat_lit 768,co "_law_drawn" "_law_drawn" 1288 1289 1290 1292 561 1 765 766 .none .none 767 1291)::
 (nat_lit 769,fo "_law_drawn" "_law_drawn" (top 76) (.str "law_boxnarrow_k37_whole_narrowing_by_a_model" 969) 768)::
 (nat_lit 775,co "law" "law" 1294 1295 1296 1307 571 1 770 771 (.ref 772) (.ref 773) 774 1306)::
 (nat_lit 776,fo "law" "law" (top 77) (.str "law_boxnarrow_k37_whole_narrowing_by_a_model" 969) 775)::[]
def ks:List Addr:=nat_lit 3::nat_lit 30::nat_lit 31::nat_lit 43::nat_lit 44::nat_lit 52::nat_lit 53::nat_lit 59::nat_lit 60::nat_lit 66::nat_lit 67::nat_lit 73::nat_lit 74::nat_lit 80::nat_lit 81::nat_lit 87::nat_lit 88::nat_lit 94::nat_lit 95::nat_lit 99::nat_lit 100::nat_lit 106::nat_lit 107::nat_lit 113::nat_lit 114::nat_lit 120::nat_lit 121::nat_lit 127::nat_lit 128::nat_lit 134::nat_lit 135::nat_lit 141::nat_lit 142::nat_lit 148::nat_lit 149::nat_lit 155::nat_lit 156::nat_lit 162::nat_lit 163::nat_lit 169::nat_lit 170::nat_lit 176::nat_lit 177::nat_lit 183::nat_lit 184::nat_lit 190::nat_lit 191::nat_lit 200::nat_lit 201::nat_lit 218::nat_lit 219::nat_lit 232::nat_lit 233::nat_lit 239::nat_lit 240::nat_lit 249::nat_lit 250::nat_lit 265::nat_lit 266::nat_lit 279::nat_lit 280::nat_lit 286::nat_lit 287::nat_lit 296::nat_lit 297::nat_lit 312::nat_lit 313::nat_lit 319::nat_lit 320::nat_lit 329::nat_lit 330::nat_lit 352::nat_lit 353::nat_lit 359::nat_lit 360::nat_lit 366::nat_lit 367::nat_lit 376::nat_lit 377::nat_lit 399::nat_lit 400::nat_lit 406::nat_lit 407::nat_lit 413::nat_lit 414::nat_lit 423::nat_lit 424::nat_lit 446::nat_lit 447::nat_lit 453::nat_lit 454::nat_lit 460::nat_lit 461::nat_lit 470::nat_lit 471::nat_lit 486::nat_lit 487::nat_lit 500::nat_lit 501::nat_lit 507::nat_lit 508::nat_lit 517::nat_lit 518::nat_lit 526::nat_lit 527::nat_lit 533::nat_lit 534::nat_lit 540::nat_lit 541::nat_lit 547::nat_lit 548::nat_lit 554::nat_lit 555::nat_lit 561::nat_lit 562::nat_lit 568::nat_lit 569::nat_lit 575::nat_lit 576::nat_lit 582::nat_lit 583::nat_lit 589::nat_lit 590::nat_lit 596::nat_lit 597::nat_lit 603::nat_lit 604::nat_lit 610::nat_lit 611::nat_lit 617::nat_lit 618::nat_lit 624::nat_lit 625::nat_lit 631::nat_lit 632::nat_lit 638::nat_lit 639::nat_lit 643::nat_lit 644::nat_lit 650::nat_lit 651::nat_lit 657::nat_lit 658::nat_lit 664::nat_lit 665::nat_lit 671::nat_lit 672::nat_lit 678::nat_lit 679::nat_lit 685::nat_lit 686::nat_lit 690::nat_lit 691::nat_lit 695::nat_lit 696::nat_lit 702::nat_lit 703::nat_lit 709::nat_lit 710::nat_lit 716::nat_lit 717::nat_lit 723::nat_lit 724::nat_lit 730::nat_lit 731::nat_lit 737::nat_lit 738::nat_lit 744::nat_lit 745::nat_lit 751::nat_lit 752::nat_lit 758::nat_lit 759::nat_lit 763::nat_lit 764::nat_lit 768::nat_lit 769::nat_lit 775::nat_lit 776::[]
theorem zfF (P:Params):ks=(kp P).map (·.1):=by kernel_rfl
noncomputable abbrev hk:PySem.W.Hook:=PySem.W.kHook kp ks zfF
abbrev xt (s:Shared):Bool:=PySem.W.xlAt vw [] s&&PySem.W.recOk (PySem.W.RowW.records (PySem.W.OpenRow.toRowW (PySem.W.OpenLaw.row PySem.Challenge.rw_boxnarrow_k37_whole_narrowing_by_a_model))) s
theorem zor:PySem.W.opening PySem.Challenge.pw_boxnarrow_k37_whole_narrowing_by_a_model=PySem.W.plainProg PySem.Challenge.pw_boxnarrow_k37_whole_narrowing_by_a_model.main.scope.names:=by kernel_rfl
theorem fe_eq (s:Shared):PySem.fenceModules? PySem.Challenge.pw_boxnarrow_k37_whole_narrowing_by_a_model s=some s:=by kernel_rfl
theorem si_eq (w:World):((PySem.W.boot_heap w.params).isNs mainGlobals&&(Array.mk []:Array GenState).size==0,(PySem.W.boot_heap w.params).objs.size,(PySem.W.boot_heap w.params).nsMap mainGlobals "__annotations__")=(true,11,some (.ref 6)):=by kernel_rfl
open PySem.W PySem.Calls in
theorem zty (w:World):(λos=>(L3.goT PySem.treeTable PySem.Challenge.pw_boxnarrow_k37_whole_narrowing_by_a_model w 11 (some (.ref 6)) 10580 (L3.zcn w os) (PySem.W.topStub PySem.Challenge.pw_boxnarrow_k37_whole_narrowing_by_a_model)).map λs=>(L3.zoR PySem.Challenge.pw_boxnarrow_k37_whole_narrowing_by_a_model w s))=λ_=>some (true):=by kernel_rfl
open PySem.W PySem.Calls in
theorem zri (w:World):(λos=>(L3.goT PySem.treeTable PySem.Challenge.pw_boxnarrow_k37_whole_narrowing_by_a_model w 11 (some (.ref 6)) 10580 (L3.zcn w os) (PySem.W.topStub PySem.Challenge.pw_boxnarrow_k37_whole_narrowing_by_a_model)).map λs=>(seen ((recsOf vw).map (·.name)) (ownsOf vw) [] { s.abs with gens:=#[] }))=λ_=>some (expectedOf vw):=by kernel_rfl
open PySem.W PySem.Calls in
theorem ztM (w:World):(λos=>(L3.goT PySem.treeTable PySem.Challenge.pw_boxnarrow_k37_whole_narrowing_by_a_model w 11 (some (.ref 6)) 10580 (L3.zcn w os) (PySem.W.topStub PySem.Challenge.pw_boxnarrow_k37_whole_narrowing_by_a_model)).map λs=>(s.abs.heap.bltView))=λ_=>some (bltViewBooted):=by kernel_rfl
open PySem.W PySem.Calls in
theorem zuo (w:World):(λos=>(L3.goT PySem.treeTable PySem.Challenge.pw_boxnarrow_k37_whole_narrowing_by_a_model w 11 (some (.ref 6)) 10580 (L3.zcn w os) (PySem.W.topStub PySem.Challenge.pw_boxnarrow_k37_whole_narrowing_by_a_model)).map λs=>(s.abs.heap.keysOk (looseW vw []) ((recsOf vw).map (·.name)) ((litsOf vw).map (·.1)) ((clssOf vw (looseW vw [])).map (·.name))&&s.abs.heap.accountedOkI (importedModules PySem.Challenge.pw_boxnarrow_k37_whole_narrowing_by_a_model.main.body)&&s.abs.heap.isNs mainGlobals&&s.abs.heap.isNs builtinsNs&&tablesOk vw s.abs.heap&&xt s.abs&&(if true then s.abs.gens.size==0 else !leftWithCleanup s.abs.gens)))=λ_=>some (true):=by kernel_rfl
open PySem.W PySem.Calls in
theorem ztF (w:World):(λos=>(L3.goT PySem.treeTable PySem.Challenge.pw_boxnarrow_k37_whole_narrowing_by_a_model w 11 (some (.ref 6)) 10580 (L3.zcn w os) (PySem.W.topStub PySem.Challenge.pw_boxnarrow_k37_whole_narrowing_by_a_model)).map λs=>(tabsOk vw s.abs))=λ_=>some (true):=by kernel_rfl
open PySem.W PySem.Calls in
theorem zvc (w:World):(λos=>(L3.goT PySem.treeTable PySem.Challenge.pw_boxnarrow_k37_whole_narrowing_by_a_model w 11 (some (.ref 6)) 10580 (L3.zcn w os) (PySem.W.topStub PySem.Challenge.pw_boxnarrow_k37_whole_narrowing_by_a_model)).map λs=>(pinSeenD vw (drecsOf vw) s.abs,plainSeenE vw (looseW vw []) s.abs,plainSeenD vw [] s.abs,wideSeen vw s.abs,clsSeenW vw [] s.abs))=λ_=>some (pinGoodD (drecsOf vw),plainGoodE vw (looseW vw []),plainGoodD vw [],wideGood vw,clsGoodW vw []):=by kernel_rfl
theorem ob_eq (w:World):(λos=>(L3.goT PySem.treeTable PySem.Challenge.pw_boxnarrow_k37_whole_narrowing_by_a_model w 11 (some (.ref 6)) 10580 (L3.zcn w os) (PySem.W.topStub PySem.Challenge.pw_boxnarrow_k37_whole_narrowing_by_a_model)).map λs=>ks.map (L3.zmU s))=λ_=>some (hk.val w):=by kernel_rfl
theorem left:PySem.W.LeftO PySem.Challenge.pw_boxnarrow_k37_whole_narrowing_by_a_model vw [] xt hk.obs hk.val 10580:=L3.zrk (L3.zv8 ks) zor (by decide) fe_eq si_eq (λw=>L3.zoM (zty w) (zri w)) (λw=>L3.zoM (ztM w) (zuo w)) (λw=>L3.zoM (ztF w) (zvc w)) ob_eq
end Mine
set_option Elab.async false
set_option linter.all false
set_option maxRecDepth 100000
namespace L2
open PySem PySem.Spec PyProof.Rows
abbrev Key:=Sum Int Str
def zqu:Key→Value→Bool
 | .inl k,v=>Value.isInt k v
 | .inr x,v=>Value.isStrOf x v
def keyH (w:World):Key→Int
 | .inl k=>hashInt k
 | .inr x=>hashStr w x
theorem zcT:∀ {k:Key} {v:Value},zqu k v=true→(∃i t,k=Sum.inl i∧v=Value.int i t)∨(∃x t,k=Sum.inr x∧v=Value.str x t)
 | .inl i,v,h=>by
  obtain⟨t,e⟩:=Value.isInt_shape (k:=i) (v:=v) h
  exact .inl ⟨i,t,rfl,e⟩
 | .inr x,v,h=>by
  obtain⟨t,e⟩:=Value.isStrOf_shape (x:=x) (v:=v) h
  exact .inr ⟨x,t,rfl,e⟩
theorem zvV (a b:Int):decide ((Sum.inl a:Key)=Sum.inl b)=(a==b):=by
 by_cases e:a=b
 ·subst e; simp
 ·have h:¬ (Sum.inl a:Key)=Sum.inl b:=λq=>e (Sum.inl.inj q)
  rw[decide_eq_false h]
  exact(beq_eq_false_iff_ne.mpr e).symm
theorem ztQ (a b:Str):decide ((Sum.inr a:Key)=Sum.inr b)=decide (a=b):=by
 by_cases e:a=b
 ·subst e; simp
 ·have h:¬ (Sum.inr a:Key)=Sum.inr b:=λq=>e (Sum.inr.inj q)
  rw[decide_eq_false h,decide_eq_false e]
theorem zth (a:Int)(b:Str):decide ((Sum.inl a:Key)=Sum.inr b)=false:=decide_eq_false (λq=>nomatch q)
theorem zrx (a:Str)(b:Int):decide ((Sum.inr a:Key)=Sum.inl b)=false:=decide_eq_false (λq=>nomatch q)
def zqb (prog:Program)(w:World):PySem.KeyKind prog w Key where
 is:=zqu
 hash:=keyH w
 inj:=λv a b ha hb=>by
  rcases zcT ha with ⟨i,t,rfl,rfl⟩ | ⟨x,t,rfl,rfl⟩
  ·rcases zcT hb with ⟨j,u,rfl,e⟩ | ⟨y,u,rfl,e⟩
   ·injection e with e1 _; rw[e1]
   ·exact nomatch e
  ·rcases zcT hb with ⟨j,u,rfl,e⟩ | ⟨y,u,rfl,e⟩
   ·exact nomatch e
   ·injection e with e1 _; rw[e1]
 byValue:=λk v h=>by
  rcases zcT h with ⟨i,t,rfl,rfl⟩ | ⟨x,t,rfl,rfl⟩ <;> rfl
 pyHash:=λhv h=>by
  rcases zcT hv with ⟨i,t,rfl,rfl⟩ | ⟨x,t,rfl,rfl⟩
  ·exact wpAny_pyHash_int h
  ·exact wpAny_pyHash_str h
 eqBool:=λhu hv h=>by
  rcases zcT hu with ⟨i,t,rfl,rfl⟩ | ⟨x,t,rfl,rfl⟩
  ·rcases zcT hv with ⟨j,u,rfl,rfl⟩ | ⟨y,u,rfl,rfl⟩
   ·rw[zvV] at h; exact wpAny_eqBool_int h
   ·rw[zth] at h; exact SeqAt.EqAt.int_str i t y u _ _ _ _ h
  ·rcases zcT hv with ⟨j,u,rfl,rfl⟩ | ⟨y,u,rfl,rfl⟩
   ·rw[zrx] at h; exact SeqAt.EqAt.str_int x t j u _ _ _ _ h
   ·rw[ztQ] at h; exact wpAny_eqBool_str h
 «strs»:=λk x t v h=>by
  rcases zcT h with ⟨i,u,rfl,e⟩ | ⟨y,u,rfl,e⟩
  ·exact nomatch e
  ·injection e with e1 _
   subst e1
   cases v <;> rfl
end L2
namespace L2
open PySem PySem.Spec PyProof.Rows
inductive V where
 | non | bl (b:Bool) | int (i:Int) | str (x:Str) | byt (b:Array UInt8) | flt (b:UInt64) | ref (a:Addr) | ty (n:String)
 deriving DecidableEq
def zaz:V→Value→Prop
 | .non,u=>u=Value.none
 | .bl b,u=>u=Value.bool b
 | .int i,u=>∃t,u=Value.int i t
 | .str x,u=>∃t,u=Value.str x t
 | .byt b,u=>∃t,u=Value.bytes b t
 | .flt b,u=>∃t,u=Value.float b t
 | .ref a,u=>u=Value.ref a
 | .ty n,u=>u=Value.type n
abbrev zaD:List V→List Value→Prop:=Paired zaz
theorem zaD.length {xs:List V}{us:List Value}(r:zaD xs us):xs.length=us.length:=Paired.length r
theorem zaD.get:∀ {xs:List V} {us:List Value} {i:Nat} {x:V},zaD xs us→xs[i]?=some x→∃u,us[i]?=some u∧zaz x u
 | _,_,_,_,.nil,e=>by simp at e
 | _,_,0,_,.cons r _,e=>by simp at e; subst e; exact⟨_,rfl,r⟩
 | _,_,i+1,x,.cons _ t,e=>by
  obtain⟨u,h1,h2⟩:=zaD.get (i:=i) (x:=x) t (by simpa using e)
  exact⟨u,by simpa using h1,h2⟩
theorem zaD.set {x:V}{u:Value}(r:zaz x u):∀ {xs:List V} {us:List Value} (i:Nat),zaD xs us→zaD (xs.set i x) (us.set i u)
 | _,_,_,.nil=>.nil
 | _,_,0,.cons _ t=>.cons r t
 | _,_,i+1,.cons q t=>.cons q (zaD.set r i t)
theorem zaD.append:∀ {xs ys:List V} {us ws:List Value},zaD xs us→zaD ys ws→zaD (xs++ys) (us++ws)
 | _,_,_,_,.nil,s=>s
 | _,_,_,_,.cons r t,s=>.cons r (zaD.append t s)
theorem zaD.take:∀ {xs:List V} {us:List Value} (n:Nat),zaD xs us→zaD (xs.take n) (us.take n)
 | _,_,0,_=>.nil
 | _,_,_+1,.nil=>.nil
 | _,_,n+1,.cons r t=>.cons r (zaD.take n t)
theorem zaD.drop:∀ {xs:List V} {us:List Value} (n:Nat),zaD xs us→zaD (xs.drop n) (us.drop n)
 | _,_,0,r=>r
 | _,_,_+1,.nil=>.nil
 | _,_,n+1,.cons _ t=>zaD.drop n t
def zcN:Option V→Option Value→Prop
 | some v,some u=>zaz v u
 | none,none=>True
 | _,_=>False
def KV {κ:Type}:List (κ×V)→List (κ×Value)→Prop:=Paired λ(p:κ×V) (q:κ×Value)=>p.1=q.1∧zaz p.2 q.2
def kV:Key→V
 | .inl i=>.int i
 | .inr x=>.str x
inductive HO where
  | lst (xs:List V)
  | tup (xs:List V)
  | dK (kvs:List (Key×V)) | dT (kvs:List (List Key×V))
  | set (S:Int→Bool) (n:Nat)
  | ins (C dx:Addr) (fs:List (Str×V))
  | own (x:Addr)
  | xd (fs:List (Str×V))
  | met (f x:Addr)
  | rng (lo hi:Int)
  | frz (o:Obj) (u:HO)
  | tbl (ps:Array Value)
  | ext (φ:Heap→Prop)
abbrev Hp:=Addr→Option HO
def upd (H:Hp)(a:Addr)(o:HO):Hp:=λb=>if b=a then some o else H b
theorem zcL {H:Hp}{a:Addr}{o:HO}:upd H a o a=some o:=by unfold upd; rw[if_pos rfl]
theorem zbc {H:Hp}{a b:Addr}{o:HO}(h:b≠a):upd H a o b=H b:=by unfold upd; rw[if_neg h]
theorem znN {H:Hp}{a b:Addr}{o u:HO}(h:H a=some o)(h':H b=some u)(d:o≠u):a≠b:=by
 intro e; subst e; rw[h] at h'; exact d (Option.some.inj h')
theorem zdp {H:Hp}{a b:Addr}{o:HO}(h:H a=some o)(h':H b=none):a≠b:=by
 intro e; subst e; rw[h] at h'; cases h'
section
variable (P:Program)(w:World)
def zbp (H:Hp)(h:Heap)(a:Addr):HO→Prop
 | .lst xs=>xs.length≤sizeLine∧∃(its:List Value) (n:Nat),zaD xs its∧h.get? a=some { cls:=.type "list",data:=.seq its.toArray n }
 | .tup xs=>xs.length≤sizeLine∧∃its:List Value,zaD xs its∧IsTup h a its.toArray
 | .dK kvs=>kvs.length≤sizeLine∧(a==sysModules)=false∧∃vs,KV kvs vs∧h.DictOf (zqb P w) a vs
 | .dT kvs=>kvs.length≤sizeLine∧(a==sysModules)=false∧∃xs:List (List Key×Addr×Value),
   Paired (λ(p:List Key×V) (q:List Key×Addr×Value)=>p.1=q.1∧H q.2.1=some (.tup (p.1.map kV))∧zaz p.2 q.2.2) kvs xs∧
   ∃o es ep,h.get? a=some o∧o.ExactDict∧o.data=.dict es ep∧es.toList=xs.map (entryOfKey (tupleKind (zqb P w)))∧(xs.map (·.1)).Nodup
 | .set S n=>h.SetOf (intKind P w) a S n
 | .ins C dx fs=>H dx=some (.own a)∧fs.length≤1000∧dx≠a∧h.get? a=some (PySem.W.instObj C dx)∧
   ∃mA,h.Ns1 dx mA∧(∀f,zcN (fs.lookup f) (mA f))∧PySem.Within mA (fs.map (·.1))
 | .own _=>∃o,h.get? a=some o
 | .xd fs=>∃mA,h.Ns1 a mA∧∀f,zcN (fs.lookup f) (mA f)
 | .rng lo hi=>∃t u v,h.get? a=some { cls:=.type "range",data:=.fields #[.int lo t,.int hi u,.int 1 v] }
 | .frz o u=>h.get? a=some o∧zbp H h a u
 | .tbl ps=>h.get? a=some { cls:=.none,data:=.fields ps }
 | .met f x=>h.get? a=some (PySem.W.methodObj (.ref f) (.ref x))
 | .ext φ=>φ h∧(∃o,h.get? a=some o)∧∀h1 h2:Heap,φ h1→(∀o,h1.get? a=some o→h2.get? a=some o)→φ h2
def HOk (H:Hp)(h:Heap):Prop:=∀a o,H a=some o→zbp P w H h a o
end
section
variable {P:Program}{w:World}{H H':Hp}{h h':Heap}{a:Addr}{o:HO}
theorem zbp.lt (x:zbp P w H h a o):a<h.objs.size:=by
 cases o with
 | lst xs=>obtain⟨_,_,_,_,e⟩:=x; exact Heap.lt_size e
 | tup xs=>obtain⟨_,_,_,p⟩:=x; exact p.lt
 | dK kvs=>obtain⟨_,_,_,_,o,_,_,e,_⟩:=x; exact Heap.lt_size e
 | dT kvs=>obtain⟨_,_,_,_,o,_,_,e,_⟩:=x; exact Heap.lt_size e
 | set S n=>obtain⟨o,_,_,_,e,_⟩:=x; exact Heap.lt_size e
 | ins C dx fs=>obtain⟨_,_,_,e,_⟩:=x; exact Heap.lt_size e
 | own y=>obtain⟨_,e⟩:=x; exact Heap.lt_size e
 | xd fs=>obtain⟨_,⟨_,_,_,e,_⟩,_⟩:=x; exact Heap.lt_size e
 | rng lo hi=>obtain⟨_,_,_,e⟩:=x; exact Heap.lt_size e
 | frz ob u=>obtain⟨e,_⟩:=x; exact Heap.lt_size e
 | tbl ps=>exact Heap.lt_size (show h.get? a=some _ from x)
 | met f y=>exact Heap.lt_size (show h.get? a=some _ from x)
 | ext φ=>obtain⟨_,⟨_,e⟩,_⟩:=x; exact Heap.lt_size e
theorem Paired.mapP {α β:Type}{F G:α→β→Prop}:∀ {l₁:List α} {l₂:List β},Paired F l₁ l₂→(∀a b,F a b→G a b)→Paired G l₁ l₂
 | _,_,.nil,_=>.nil
 | _,_,.cons r t,f=>.cons (f _ _ r) (Paired.mapP t f)
theorem zbp.stay (x:zbp P w H h a o)(k:∀b u,(b=a∨H b=some (.own a))→h.get? b=some u→h'.get? b=some u)
  (ho:∀b,H b=some (.own a)→H' b=some (.own a))(ht:∀b xs,H b=some (.tup xs)→H' b=some (.tup xs)):zbp P w H' h' a o:=by
 induction o with
 | lst xs=>obtain⟨z,its,n,r,e⟩:=x; exact⟨z,its,n,r,k _ _ (.inl rfl) e⟩
 | tup xs=>obtain⟨z,its,r,ob,e,c⟩:=x; exact⟨z,its,r,ob,k _ _ (.inl rfl) e,c⟩
 | dK kvs=>obtain⟨z,y,vs,r,ob,es,ep,e,c⟩:=x; exact⟨z,y,vs,r,ob,es,ep,k _ _ (.inl rfl) e,c⟩
 | dT kvs=>
  obtain⟨z,y,xs,r,ob,es,ep,e,c⟩:=x
  exact⟨z,y,xs,Paired.mapP r λp q z=>⟨z.1,ht _ _ z.2.1,z.2.2⟩,ob,es,ep,k _ _ (.inl rfl) e,c⟩
 | set S n=>obtain⟨ob,es,ep,t,e,c⟩:=x; exact⟨ob,es,ep,t,k _ _ (.inl rfl) e,c⟩
 | ins C dx fs=>
  obtain⟨d,z,ne,e,mA,⟨od,es,ep,e2,c⟩,r⟩:=x
  exact⟨ho _ d,z,ne,k _ _ (.inl rfl) e,mA,⟨od,es,ep,k _ _ (.inr d) e2,c⟩,r⟩
 | own y=>obtain⟨ob,e⟩:=x; exact⟨ob,k _ _ (.inl rfl) e⟩
 | xd fs=>obtain⟨mA,⟨od,es,ep,e,c⟩,r⟩:=x; exact⟨mA,⟨od,es,ep,k _ _ (.inl rfl) e,c⟩,r⟩
 | rng lo hi=>obtain⟨t,u,v,e⟩:=x; exact⟨t,u,v,k _ _ (.inl rfl) e⟩
 | frz ob u ih=>obtain⟨e,q⟩:=x; exact⟨k _ _ (.inl rfl) e,ih q⟩
 | tbl ps=>
  have e:h.get? a=some { cls:=.none,data:=.fields ps }:=x
  show h'.get? a=some { cls:=.none,data:=.fields ps }
  exact k a _ (.inl rfl) e
 | met f y=>
  have e:h.get? a=some (PySem.W.methodObj (.ref f) (.ref y)):=x
  show h'.get? a=some (PySem.W.methodObj (.ref f) (.ref y))
  exact k a _ (.inl rfl) e
 | ext φ=>obtain⟨p,⟨o,e⟩,st⟩:=x; exact⟨st _ _ p λo q=>k _ _ (.inl rfl) q,⟨o,k _ _ (.inl rfl) e⟩,st⟩
theorem HOk.lt (x:HOk P w H h)(e:H a=some o):a<h.objs.size:=(x a o e).lt
theorem HOk.fresh (x:HOk P w H h)(e:h.objs.size≤a):H a=none:=by
 cases q:H a with
 | none=>rfl
 | some u=>exact absurd (Van (x.lt q) e) (VaI _)
theorem HOk.kept (x:HOk P w H h)(k:∀b u,h.get? b=some u→h'.get? b=some u):HOk P w H h':=λa o e=>
 (x a o e).stay (λb u _ q=>k b u q) (λ_ q=>q) λ_ _ q=>q
theorem HOk.laid (x:HOk P w H h)(k:∀b u,h.get? b=some u→h'.get? b=some u)(hp:h.objs.size≤a)(new:zbp P w (upd H a o) h' a o):HOk P w (upd H a o) h':=λb u e=>by
 have hn:=x.fresh hp
 by_cases hb:b=a
 ·subst hb; rw[zcL] at e; cases e; exact new
 ·rw[zbc hb] at e
  exact(x b u e).stay (λc v _ q=>k c v q) (λc q=>by rw[zbc (zdp q hn)]; exact q) λc xs q=>by rw[zbc (zdp q hn)]; exact q
end
def Rd (H:Hp)(a:Addr)(u:HO):Prop:=H a=some u∨∃o,H a=some (.frz o u)
theorem Rd.ok {P:Program}{w:World}{H:Hp}{h:Heap}{a:Addr}{u:HO}(r:Rd H a u)(x:HOk P w H h):zbp P w H h a u:=by
 rcases r with r | ⟨o,r⟩
 ·exact x a u r
 ·obtain⟨_,q⟩:=x a _ r
  exact q
def Mut:Option HO→Prop
 | some (.lst _)=>True
 | some (.dK _)=>True
 | some (.dT _)=>True
 | some (.set _ _)=>True
 | some (.ins _ _ _)=>True
 | some (.ext _)=>True
 | _=>False
section
variable {P:Program}{w:World}{H:Hp}{h h':Heap}{x e:Addr}{o':HO}
theorem HOk.write (ok:HOk P w H h)(mu:Mut (H x))(he:e=x∨H e=some (.own x))(k:∀b u,b≠e→h.get? b=some u→h'.get? b=some u)(heo:∃u,h'.get? e=some u)
  (new:zbp P w (upd H x o') h' x o'):HOk P w (upd H x o') h':=λb u q=>by
 have nown:∀c y,H c=some (.own y)→c≠x:=λc y r z=>by subst z; rw[r] at mu; exact mu
 have ntup:∀c xs,H c=some (.tup xs)→c≠x:=λc xs r z=>by subst z; rw[r] at mu; exact mu
 by_cases hb:b=x
 ·subst hb; rw[zcL] at q; cases q; exact new
 ·rw[zbc hb] at q
  by_cases hbe:b=e
  ·have q':H b=some (.own x):=by
    rcases he with z | z
    ·exact absurd (hbe.trans z) hb
    ·rw[hbe]; exact z
   rw[q] at q'; cases q'
   obtain⟨v,hv⟩:=heo
   exact⟨v,by rw[hbe]; exact hv⟩
  ·refine(ok b u q).stay (λc v hc r=>k c v ?_ r) (λc r=>by rw[zbc (nown c b r)]; exact r) λc xs r=>by rw[zbc (ntup c xs r)]; exact r
   rcases hc with rfl | hc
   ·exact hbe
   ·rintro rfl
    rcases he with z | z
    ·exact nown c b hc z
    ·rw[hc] at z; cases z; exact hb rfl
end
structure Un (fs ex:List Addr)(H H':Hp)(h h':Heap):Prop where
 keep:∀b o,h.get? b=some o→H b=none→b ∉ fs→b ∉ ex→h'.get? b=some o
 slot:∀b o,h.get? b=some o→H b=none→b∈fs→b ∉ ex→∃sl,h'.get? b=some { o with slots:=sl }
 free:∀b o,h.get? b=some o→H b=none→b ∉ ex→H' b=none
 there:∀b o,h.get? b=some o→b ∉ ex→∃o',h'.get? b=some o'
 tups:∀b xs,H b=some (.tup xs)→H' b=some (.tup xs)
 frzs:∀b o u,H b=some (.frz o u)→H' b=some (.frz o u)
 tbls:∀b ps,H b=some (.tbl ps)→∃more,H' b=some (.tbl (ps++more))
section
variable {fs fs' ex ex':List Addr}{H H1 H2:Hp}{h h1 h2 h':Heap}{a x e:Addr}{o:HO}
theorem Un.any (u:Un fs ex H H1 h h1){b:Addr}{ob:Obj}(q:h.get? b=some ob)(n:H b=none)(hx:b ∉ ex):∃sl,h1.get? b=some { ob with slots:=sl }:=by
 by_cases hb:b∈fs
 ·exact u.slot b ob q n hb hx
 ·exact⟨ob.slots,u.keep b ob q n hb hx⟩
theorem Un.kept (k:∀b u,h.get? b=some u→h'.get? b=some u):Un fs ex H H h h':=
 ⟨λb ob q _ _ _=>k b ob q,λb ob q _ _ _=>⟨ob.slots,k b ob q⟩,λ_ _ _ n _=>n,λb ob q _=>⟨ob,k b ob q⟩,λ_ _ q=>q,λ_ _ _ q=>q,λ_ ps q=>⟨#[],by rw[q]; simp⟩⟩
theorem Un.refl:Un fs ex H H h h:=Un.kept λ_ _ q=>q
theorem Un.laid (k:∀b u,h.get? b=some u→h'.get? b=some u)(hp:h.objs.size≤a)(hn:H a=none):Un fs ex H (upd H a o) h h' where
 keep:=λb u q _ _ _=>k b u q
 slot:=λb u q _ _ _=>⟨u.slots,k b u q⟩
 free:=λb u q n _=>by rw[zbc (Vao (Van (Heap.lt_size q) hp))]; exact n
 there:=λb u q _=>⟨u,k b u q⟩
 tups:=λb xs q=>by rw[zbc (zdp q hn)]; exact q
 frzs:=λb u xs q=>by rw[zbc (zdp q hn)]; exact q
 tbls:=λb ps q=>⟨#[],by rw[zbc (zdp q hn),q]; simp⟩
theorem Un.write (mu:Mut (H x))(he:e=x∨H e=some (.own x))(k:∀b u,b≠e→h.get? b=some u→h'.get? b=some u)(heo:∃u,h'.get? e=some u):Un fs ex H (upd H x o) h h':=by
 have hx:∀b,H b=none→b≠x:=λb n z=>by subst z; rw[n] at mu; exact mu
 have hb:∀b,H b=none→b≠e:=λb n z=>by
  subst z
  rcases he with r | r
  ·exact hx b n r
  ·rw[n] at r; cases r
 have hm:∀b u,H b=some u→¬ Mut (some u)→b≠x:=λb u q nm z=>by subst z; rw[q] at mu; exact nm mu
 refine⟨λb u q n _ _=>k b u (hb b n) q,λb u q n _ _=>⟨u.slots,k b u (hb b n) q⟩,λb u q n _=>by rw[zbc (hx b n)]; exact n,λb u q _=>?_,
  λb xs q=>by rw[zbc (hm b _ q λz=>z)]; exact q,λb u xs q=>by rw[zbc (hm b _ q λz=>z)]; exact q,λb ps q=>⟨#[],by rw[zbc (hm b _ q λz=>z),q]; simp⟩⟩
 by_cases hbe:b=e
 ·subst hbe; exact heo
 ·exact⟨u,k b u hbe q⟩
end
def trk (h:Heap)(H:Hp):List Addr:=(List.range h.objs.size).filter λa=>(H a).isSome
def zcU (h:Heap)(H:Hp):Heap:=PySem.W.hideAll h (trk h H)
theorem zt4 (h:Heap)(H:Hp):(zcU h H).objs.size=h.objs.size:=PySem.W.hideAll_size _ _
theorem zwP {h:Heap}{H:Hp}{b:Addr}{o:Obj}(e:h.get? b=some o)(n:H b=none):(zcU h H).get? b=some o:=
 PySem.W.hideAll_get _ e λhm=>by
  have q:(H b).isSome=true:=(List.mem_filter.mp hm).2
  rw[n] at q; simp at q
theorem zvO {h:Heap}{H:Hp}{b:Addr}{o:Obj}(e:(zcU h H).get? b=some o):h.get? b=some o∧H b=none:=by
 have e':h.get? b=some o:=PySem.W.of_hideAll (trk h H) e
 refine⟨e',?_⟩
 cases q:H b with
 | none=>rfl
 | some x=>
  have hm:b∈trk h H:=List.mem_filter.mpr ⟨List.mem_range.mpr (Heap.lt_size e'),by simp[q]⟩
  have z:(zcU h H).get? b=none:=PySem.W.hideAll_none (trk h H) hm
  rw[z] at e; cases e
def zrR (g h:Heap)(L:Addr):List (Addr×Obj):=(List.range h.objs.size).filterMap λa=>if a=L∨(g.get? a).isSome=true then none else (h.get? a).map λo=>(a,o)
def zbn (g h:Heap)(L d:Addr):List (Addr×Obj):=(zrR g h L).filter λp=>decide (p.1≠d)
end L2
namespace L2
open PySem PySem.Spec PyProof.Rows
structure Mod (K:PySem.W.Frag)(mg:Str→Option Value)(base:Heap):Prop where
 kin:K.In base
 glob:base.Ns mainGlobals mg
 blt:∃mb,base.Ns builtinsNs mb∧∀x:Str,x≠"__name__"→mb x=bootBuiltins x
 nolimit:base.NoLimit
structure Cx where
 prog:Program
 w:World
 K:PySem.W.Frag
 mg:Str→Option Value
 base:Heap
 A:Around
 N:List Str
 s₀:Shared
 H₀:Hp
 env:Env
 outer:List Env
 stack:List Env
 ex:List Addr
 fn:Str→Bool
 calm:Bool
 pn:List (Addr×Obj)
 xe:Value→Shared→Prop
def frs (l:List Env):List Addr:=l.filterMap (·.frame)
abbrev Cx.fs (X:Cx):List Addr:=frs X.outer
def Vis (sc:Scope)(x:Str):Prop:=sc.names.lookup x=some .local∨sc.names.lookup x=some .cell∨sc.names.lookup x=some .free
def Loc (sc:Scope)(x:Str):Prop:=sc.names.lookup x=some .local∨sc.names.lookup x=some .cell
def Look (env:Env)(h:Heap)(m:Str→Option Value)(x:Str)(u:Value):Prop:=
 (env.kindOf x=some .local∧m x=some u)∨((env.kindOf x=some .cell∨env.kindOf x=some .free)∧∃c,env.cells.lookup x=some c∧h.IsCell c (some u))
structure Cx.Ok (X:Cx):Prop where
 mod:Mod X.K X.mg X.base
 kind:X.env.scope.kind=.function
 glob:X.env.globals=mainGlobals
 blt:X.env.builtins=builtinsNs
 above:X.s₀.heap.objs.size≤X.env.locals
 inj:∀x y c,X.env.cells.lookup x=some c→X.env.cells.lookup y=some c→x=y
 has:∀x,(X.env.kindOf x=some .cell∨X.env.kindOf x=some .free)→∃c,X.env.cells.lookup x=some c
 cab:∀x c,X.fn x=true→X.env.cells.lookup x=some c→X.s₀.heap.objs.size≤c
 hd:X.calm=true→X.A.handled=none
 frames:X.A.frames=some X.stack
 stk:X.stack=X.outer∨(X.stack=X.env::X.outer∧X.env.frame=some X.env.locals)
 exf:∀b∈X.ex,b≠X.env.locals∧∀x c,X.env.cells.lookup x=some c→c≠b
 bs:∀b o,X.base.get? b=some o→X.s₀.heap.get? b=some o∧X.H₀ b=none
 bsz:X.base.objs.size≤X.s₀.heap.objs.size
 noex:∀b o,X.base.get? b=some o→b ∉ X.ex
 exfs:∀b∈X.ex,b ∉ X.fs
 funs:X.s₀.heap.FunFrames X.base X.outer
 frf:∀b∈X.fs,X.H₀ b=none
structure Inv (X:Cx)(pins:List (Addr×Obj))(σ:List (Option V))(H:Hp)(s:Shared):Prop where
 ok:X.Ok
 os:s.os=X.s₀.os
 bare:AllBare s.gens
 base:Un X.fs X.ex X.H₀ H X.s₀.heap s.heap
 loc:∃m,s.heap.Ns X.env.locals m∧∀(i:Nat) (x:Str) (v:V),X.N[i]?=some x→σ[i]?=some (some v)→Vis X.env.scope x→∃u,zaz v u∧Look X.env s.heap m x u
 cell:∀x c,X.env.cells.lookup x=some c→∃v,s.heap.IsCell c v
 free:H X.env.locals=none
 freeC:∀x c,X.env.cells.lookup x=some c→H c=none
 pin:∀p∈X.pn++pins,s.heap.get? p.1=some p.2∧H p.1=none∧p.1≠X.env.locals∧p.1 ∉ X.fs∧∀v,p.2.data≠.cell v
 hok:HOk X.prog X.w H s.heap
 len:σ.length=X.N.length
section
variable {X:Cx}{pins:List (Addr×Obj)}{σ:List (Option V)}{H H':Hp}{s:Shared}{h':Heap}
theorem Cx.Ok.nofr (ok:X.Ok){b:Addr}{o:Obj}(e:X.base.get? b=some o):b ∉ X.fs:=λhb=>by
 have:=(ok.funs.mem hb).1
 rw[e] at this; cases this
theorem Inv.bs (I:Inv X pins σ H s):∀b o,X.base.get? b=some o→s.heap.get? b=some o∧H b=none:=λb o e=>
 ⟨I.base.keep b o (I.ok.bs b o e).1 (I.ok.bs b o e).2 (I.ok.nofr e) (I.ok.noex b o e),I.base.free b o (I.ok.bs b o e).1 (I.ok.bs b o e).2 (I.ok.noex b o e)⟩
theorem Inv.bk (I:Inv X pins σ H s):∀b o,X.base.get? b=some o→s.heap.get? b=some o:=λb o e=>(I.bs b o e).1
theorem Inv.mod (I:Inv X pins σ H s):Mod X.K X.mg X.base:=I.ok.mod
theorem Inv.kIn (I:Inv X pins σ H s):X.K.In s.heap:=I.ok.mod.kin.keeps I.bk
theorem Inv.lt (I:Inv X pins σ H s):X.env.locals<s.heap.objs.size:=let ⟨_,hn,_⟩:=I.loc; hn.lt
theorem Inv.sz (I:Inv X pins σ H s):X.s₀.heap.objs.size≤s.heap.objs.size:=VaC I.ok.above (VaS I.lt)
theorem Inv.nofs (I:Inv X pins σ H s){a:Addr}(h:s.heap.objs.size≤a):a ∉ X.fs:=λhb=>by
 obtain⟨_,o,ho,_⟩:=I.ok.funs.mem hb
 exact absurd (Van (Heap.lt_size ho) (VaC I.sz h)) (VaI _)
theorem Inv.cne (I:Inv X pins σ H s):∀x c,X.env.cells.lookup x=some c→c≠X.env.locals:=λx c e z=>by
 obtain⟨v,o,ho,hd⟩:=I.cell x c e
 obtain⟨m,⟨o',es,ep,ho',hd',_⟩,_⟩:=I.loc
 rw[z,ho'] at ho; cases ho; rw[hd'] at hd; cases hd
theorem Inv.funs (I:Inv X pins σ H s):s.heap.FunFrames X.base X.outer:=by
 have all:∀(l:List Env),(∀b∈frs l,b∈X.fs)→X.s₀.heap.FunFrames X.base l→s.heap.FunFrames X.base l:=by
  intro l
  induction l with
  | nil=>intro _ _; trivial
  | cons env r ih=>
   intro hs hl
   obtain⟨hk,⟨L,o,hf,hn,ho,hd⟩,hr⟩:=hl
   have hL:L∈X.fs:=hs L (by unfold frs; rw[List.filterMap_cons,hf]; exact VaT)
   obtain⟨sl,e⟩:=I.base.slot L o ho (I.ok.frf L hL) hL λz=>I.ok.exfs L z hL
   exact⟨hk,⟨L,_,hf,hn,e,hd⟩,ih (λb hb=>hs b (by unfold frs; rw[List.filterMap_cons,hf]; exact VaD _ hb)) hr⟩
 exact all X.outer (λ_ hb=>hb) I.ok.funs
theorem Inv.stack (I:Inv X pins σ H s):s.heap.FunFrames X.base X.stack:=by
 rcases I.ok.stk with e | ⟨e,hf⟩
 ·rw[e]; exact I.funs
 ·rw[e]
  obtain⟨m,hn,_⟩:=I.loc
  refine .cons (by rw[I.ok.kind]; decide) hf hn ?_ I.funs
  exact Heap.get?_none_of_le (VaC I.ok.bsz I.ok.above)
theorem Inv.stkSub (I:Inv X pins σ H s):∀b∈frs X.stack,b∈X.env.locals::X.fs:=λb hb=>by
 rcases I.ok.stk with e | ⟨e,hf⟩
 ·rw[e] at hb; exact VaD _ hb
 ·rw[e] at hb
  unfold frs at hb
  rw[List.filterMap_cons,hf] at hb
  exact hb
theorem Inv.stkFree (I:Inv X pins σ H s):∀b∈frs X.stack,H b=none:=λb hb=>by
 rcases Vad.mp (I.stkSub b hb) with e | hb
 ·rw[e]; exact I.free
 ·obtain⟨_,o,ho,_⟩:=I.ok.funs.mem hb
  exact I.base.free b o ho (I.ok.frf b hb) λz=>I.ok.exfs b z hb
theorem Inv.step {g':Array GenState}{t':Nat}{d':Drawn}{ch:List Addr}(I:Inv X pins σ H s)
  (hch:∀b∈ch,(b∈X.ex∨X.s₀.heap.objs.size≤b)∧b≠X.env.locals∧(∀x c,X.env.cells.lookup x=some c→c≠b)∧∀p∈X.pn++pins,p.1≠b)
  (keep:∀b o,b≠X.env.locals→b ∉ X.fs→b ∉ ch→s.heap.get? b=some o→H b=none→h'.get? b=some o)
  (slot:∀b o,b≠X.env.locals→b∈X.fs→b ∉ ch→s.heap.get? b=some o→H b=none→∃sl,h'.get? b=some { o with slots:=sl })(free:∀b o,b ∉ ch→s.heap.get? b=some o→H b=none→H' b=none)
  (there:∀b o,b ∉ ch→s.heap.get? b=some o→∃o',h'.get? b=some o')
  (tups:∀b xs,H b=some (.tup xs)→H' b=some (.tup xs))(frzs:∀b o u,H b=some (.frz o u)→H' b=some (.frz o u))(tbls:∀b ps,H b=some (.tbl ps)→∃more,H' b=some (.tbl (ps++more)))
  (ns:∀m,s.heap.Ns X.env.locals m→h'.Ns X.env.locals m)(hok:HOk X.prog X.w H' h')(hg:AllBare g'):
  Inv X pins σ H' { s with heap:=h',gens:=g',drawn:=d',toks:=t' }:=by
 have neL:∀b o,X.s₀.heap.get? b=some o→b≠X.env.locals:=λb o e=>Vao (Van (Heap.lt_size e) I.ok.above)
 have neC:∀b o,X.s₀.heap.get? b=some o→b ∉ X.ex→b ∉ ch:=λb o e hx hb=>by
  rcases (hch b hb).1 with z | z
  ·exact hx z
  ·exact absurd (Van (Heap.lt_size e) z) (VaI _)
 have cellK:∀x c,X.env.cells.lookup x=some c→∀v,s.heap.IsCell c v→h'.IsCell c v:=λx c e v ⟨o,ho,hd⟩=>by
  have nch:c ∉ ch:=λz=>(hch c z).2.2.1 x c e rfl
  by_cases hc:c∈X.fs
  ·obtain⟨sl,q⟩:=slot c o (I.cne x c e) hc nch ho (I.freeC x c e)
   exact⟨_,q,hd⟩
  ·exact⟨o,keep c o (I.cne x c e) hc nch ho (I.freeC x c e),hd⟩
 refine⟨I.ok,I.os,hg,⟨λb o e n hb hx=>?_,λb o e n hb hx=>?_,λb o e n hx=>?_,λb o e hx=>?_,λb xs e=>tups b xs (I.base.tups b xs e),λb o xs e=>frzs b o xs (I.base.frzs b o xs e),λb ps e=>?_⟩,?_,λx c e=>?_,?_,λx c e=>?_,λp hp=>?_,hok,I.len⟩
 ·exact keep b o (neL b o e) hb (neC b o e hx) (I.base.keep b o e n hb hx) (I.base.free b o e n hx)
 ·obtain⟨sl,e1⟩:=I.base.slot b o e n hb hx
  obtain⟨sl',e2⟩:=slot b _ (neL b o e) hb (neC b o e hx) e1 (I.base.free b o e n hx)
  exact⟨sl',e2⟩
 ·obtain⟨o',e1⟩:=I.base.there b o e hx
  exact free b o' (neC b o e hx) e1 (I.base.free b o e n hx)
 ·obtain⟨o',e1⟩:=I.base.there b o e hx
  exact there b o' (neC b o e hx) e1
 ·obtain⟨m1,e1⟩:=I.base.tbls b ps e
  obtain⟨m2,e2⟩:=tbls b _ e1
  exact⟨m1++m2,by rw[e2,Array.append_assoc]⟩
 ·obtain⟨m,hn,hl⟩:=I.loc
  refine⟨m,ns m hn,λi x v e1 e2 e3=>?_⟩
  obtain⟨u,r,l⟩:=hl i x v e1 e2 e3
  refine⟨u,r,?_⟩
  rcases l with l | ⟨k,c,e,z⟩
  ·exact .inl l
  ·exact .inr ⟨k,c,e,cellK x c e _ z⟩
 ·obtain⟨v,z⟩:=I.cell x c e
  exact⟨v,cellK x c e v z⟩
 ·obtain⟨m,⟨o,_,_,ho,_⟩,_⟩:=I.loc
  exact free _ o (λz=>(hch _ z).2.1 rfl) ho I.free
 ·obtain⟨v,o,ho,hd⟩:=I.cell x c e
  exact free c o (λz=>(hch c z).2.2.1 x c e rfl) ho (I.freeC x c e)
 ·obtain⟨e,n,ne,nf,d⟩:=I.pin p hp
  have nch:p.1 ∉ ch:=λz=>(hch p.1 z).2.2.2 p hp rfl
  exact⟨keep p.1 p.2 ne nf nch e n,free p.1 p.2 nch e n,ne,nf,d⟩
theorem Inv.un {t':Nat}(I:Inv X pins σ H s)(u:Un X.fs [] H H' s.heap h')(hok:HOk X.prog X.w H' h'):Inv X pins σ H' { s with heap:=h',toks:=t' }:=by
 obtain⟨m,⟨o,es,ep,ho,r⟩,_⟩:=id I.loc
 obtain⟨sl,hL⟩:=u.any ho I.free (by simp)
 exact I.step (g':=s.gens) (d':=s.drawn) (ch:=[]) (λ_ z=>nomatch z) (λb o _ hb _ e n=>u.keep b o e n hb (by simp)) (λb o _ hb _ e n=>u.slot b o e n hb (by simp)) (λb o _ e n=>u.free b o e n (by simp)) (λb o _ e=>u.there b o e (by simp)) u.tups u.frzs u.tbls (λm' hm=>by
  obtain⟨o',es',ep',ho',r'⟩:=hm
  rw[ho] at ho'; cases ho'
  exact⟨_,es',ep',hL,r'⟩) hok I.bare
theorem Inv.call {g':Array GenState}{t':Nat}{d':Drawn}{ch:List Addr}(I:Inv X pins σ H s)(u:Un (frs X.stack) ch H H' s.heap h')(hok:HOk X.prog X.w H' h')(hg:AllBare g')
  (hch:∀b∈ch,(b∈X.ex∨X.s₀.heap.objs.size≤b)∧b≠X.env.locals∧(∀x c,X.env.cells.lookup x=some c→c≠b)∧∀p∈X.pn++pins,p.1≠b):
  Inv X pins σ H' { s with heap:=h',gens:=g',drawn:=d',toks:=t' }:=by
 obtain⟨m,⟨o,es,ep,ho,r⟩,_⟩:=id I.loc
 obtain⟨sl,hL⟩:=u.any ho I.free λz=>(hch _ z).2.1 rfl
 exact I.step (ch:=ch) hch (λb o hL hb hc e n=>u.keep b o e n (λz=>(Vad.mp (I.stkSub b z)).elim hL hb) hc) (λb o _ _ hc e n=>u.any e n hc) (λb o hc e n=>u.free b o e n hc) (λb o hc e=>u.there b o e hc) u.tups u.frzs u.tbls (λm' hm=>by
  obtain⟨o',es',ep',ho',r'⟩:=hm
  rw[ho] at ho'; cases ho'
  exact⟨_,es',ep',hL,r'⟩) hok hg
theorem Inv.turned {t':Nat}{it:Addr}(I:Inv X pins σ H s)(k:∀b o,b≠it→s.heap.get? b=some o→h'.get? b=some o)(hn:H it=none)(hL:it≠X.env.locals)
  (h1:it∈X.ex∨X.s₀.heap.objs.size≤it)(h2:∀x c,X.env.cells.lookup x=some c→c≠it)(h3:∀p∈X.pn++pins,p.1≠it):Inv X pins σ H { s with heap:=h',toks:=t' }:=by
 have nit:∀b u,H b=some u→b≠it:=λb u e z=>by rw[z,hn] at e; cases e
 refine I.step (g':=s.gens) (d':=s.drawn) (ch:=[it]) (λb hb=>?_) (λb o _ _ hc e _=>k b o (λz=>hc (by simp[z])) e) (λb o _ _ hc e _=>⟨o.slots,k b o (λz=>hc (by simp[z])) e⟩) (λ_ _ _ _ n=>n)
  (λb o hc e=>⟨o,k b o (λz=>hc (by simp[z])) e⟩) (λ_ _ e=>e) (λ_ _ _ e=>e) (λb ps e=>⟨#[],by rw[e]; simp⟩) (λm hm=>?_) (λb u e=>?_) I.bare
 ·have e:b=it:=by simpa using hb
  subst e
  exact⟨h1,hL,h2,h3⟩
 ·obtain⟨o,es,ep,ho,r⟩:=hm
  exact⟨o,es,ep,k _ o (Ne.symm hL) ho,r⟩
 ·refine(I.hok b u e).stay (λc v hc q=>k c v ?_ q) (λ_ q=>q) λ_ _ q=>q
  rcases hc with z | z
  ·rw[z]; exact nit b u e
  ·exact nit c _ z
theorem Inv.tok (I:Inv X pins σ H s)(t:Nat):Inv X pins σ H { s with toks:=t }:=I.un (h':=s.heap) (t':=t) Un.refl I.hok
theorem Inv.kept {t':Nat}(I:Inv X pins σ H s)(k:∀b u,s.heap.get? b=some u→h'.get? b=some u):Inv X pins σ H { s with heap:=h',toks:=t' }:=I.un (Un.kept k) (I.hok.kept k)
theorem Inv.laid {a:Addr}{o:HO}{t':Nat}(I:Inv X pins σ H s)(k:∀b u,s.heap.get? b=some u→h'.get? b=some u)(hp:s.heap.objs.size≤a)(new:zbp X.prog X.w (upd H a o) h' a o):
  Inv X pins σ (upd H a o) { s with heap:=h',toks:=t' }:=I.un (Un.laid k hp (I.hok.fresh hp)) (I.hok.laid k hp new)
theorem Inv.write {x e:Addr}{o:HO}{t':Nat}(I:Inv X pins σ H s)(mu:Mut (H x))(he:e=x∨H e=some (.own x))(k:∀b u,b≠e→s.heap.get? b=some u→h'.get? b=some u)(heo:∃u,h'.get? e=some u)
  (new:zbp X.prog X.w (upd H x o) h' x o):Inv X pins σ (upd H x o) { s with heap:=h',toks:=t' }:=I.un (Un.write mu he k heo) (I.hok.write mu he k heo new)
theorem Inv.pins_of {pins':List (Addr×Obj)}(I:Inv X pins σ H s)(h:∀p∈pins',s.heap.get? p.1=some p.2∧H p.1=none∧p.1≠X.env.locals∧p.1 ∉ X.fs∧∀v,p.2.data≠.cell v):Inv X pins' σ H s:=
 ⟨I.ok,I.os,I.bare,I.base,I.loc,I.cell,I.free,I.freeC,λp hp=>(VaJ.mp hp).elim (λz=>I.pin p (List.mem_append_left _ z)) (h p),I.hok,I.len⟩
theorem zpc {N:List Str}(hN:N.Nodup){i j:Nat}{x:Str}(a:N[i]?=some x)(b:N[j]?=some x):i=j:=by
 obtain⟨h1,e1⟩:=Vac.mp a
 obtain⟨h2,e2⟩:=Vac.mp b
 exact(List.getElem_inj hN).mp (e1.trans e2.symm)
theorem zpF {M:Model}{A:Around}{E:Value→Shared→Prop}{i:Nat}{x:Str}{v:V}{u:Value}{Q:Unit→Shared→Prop}(I:Inv X pins σ H s)(hN:X.N.Nodup)(hi:X.N[i]?=some x)(hx:Loc X.env.scope x)(r:zaz v u)
  (h:∀s',Inv X pins (σ.set i (some v)) H s'→(∃a,Heap.SameBut a s.heap s'.heap∧(a=X.env.locals∨X.env.cells.lookup x=some a))→Q () s')(hf:X.fn x=true∨X.env.scope.names.lookup x=some .local:=by first | exact .inl rfl | exact .inr rfl | assumption):wpAny M A (storeName X.env x u) Q E s:=by
 obtain⟨m,hn,hl⟩:=id I.loc
 have hcls:(X.env.scope.kind==.class||(X.env.scope.kind==.module&&X.env.locals != X.env.globals))=false:=by rw[I.ok.kind]; rfl
 have hiσ:i<σ.length:=by rw[I.len]; exact(Vac.mp hi).1
 have cne:=I.cne
 have tracked:∀ {a:Addr} {h':Heap},(∃o,s.heap.get? a=some o∧H a=none)→Heap.SameBut a s.heap h'→HOk X.prog X.w H h':=λ{a h'} ha hs b ob e=>by
  obtain⟨_,_,hfree⟩:=ha
  refine(I.hok b ob e).stay (λc w' hc q=>(hs.2 c ?_).trans q) (λ_ q=>q) λ_ _ q=>q
  rintro rfl
  rcases hc with rfl | hc
  ·rw[hfree] at e; cases e
  ·rw[hfree] at hc; cases hc
 rcases hx with hk | hk
 ·refine wpAny_storeName_local hk hn (λh' hn' hs=>?_) hcls
  obtain⟨oL,_,_,hoL,_⟩:=id hn
  refine h _ ⟨I.ok,I.os,I.bare,⟨λb o e n hb hx=>?_,λb o e n hb hx=>?_,I.base.free,λb o e hx=>?_,I.base.tups,I.base.frzs,I.base.tbls⟩,⟨_,hn',λj y v' e1 e2 e3=>?_⟩,λy c e=>?_,I.free,I.freeC,λp hp=>?_,tracked ⟨oL,hoL,I.free⟩ hs,by simpa using I.len⟩ ⟨_,hs,.inl rfl⟩
  ·exact(hs.2 b (Vao (Van (Heap.lt_size e) I.ok.above))).trans (I.base.keep b o e n hb hx)
  ·obtain⟨sl,e1⟩:=I.base.slot b o e n hb hx
   exact⟨sl,(hs.2 b (Vao (Van (Heap.lt_size e) I.ok.above))).trans e1⟩
  ·obtain⟨o',e1⟩:=I.base.there b o e hx
   exact⟨o',(hs.2 b (Vao (Van (Heap.lt_size e) I.ok.above))).trans e1⟩
  ·by_cases hj:j=i
   ·subst hj
    rw[hi] at e1; cases e1
    rw[VaN hiσ] at e2
    cases e2
    exact⟨u,r,.inl ⟨hk,by simp⟩⟩
   ·rw[VaO (Ne.symm hj)] at e2
    obtain⟨u',r',q⟩:=hl j y v' e1 e2 e3
    refine⟨u',r',?_⟩
    rcases q with ⟨k,e⟩ | ⟨k,c,e,z⟩
    ·refine .inl ⟨k,?_⟩
     have:y≠x:=λe=>hj (zpc hN e1 (e ▸ hi))
     simp[this,e]
    ·exact .inr ⟨k,c,e,z.sameBut hs (cne y c e)⟩
  ·obtain⟨w',z⟩:=I.cell y c e
   exact⟨w',z.sameBut hs (cne y c e)⟩
  ·obtain⟨e,n,ne,nf,d⟩:=I.pin p hp
   exact⟨(hs.2 p.1 ne).trans e,n,ne,nf,d⟩
 ·have hfn:X.fn x=true:=by
   rcases hf with z | z
   ·exact z
   ·rw[z] at hk; cases hk
  obtain⟨c,hc⟩:=I.ok.has x (.inl hk)
  obtain⟨w',z⟩:=I.cell x c hc
  refine wpAny_storeName_cell I.ok.kind hk hc z (λh' hc' hs=>?_)
  obtain⟨oc,hoc,hocd⟩:=id z
  refine h { s with heap:=h' } ⟨I.ok,I.os,I.bare,⟨λb o e n hb hx=>?_,λb o e n hb hx=>?_,I.base.free,λb o e hx=>?_,I.base.tups,I.base.frzs,I.base.tbls⟩,⟨m,hn.sameBut hs (Ne.symm (cne x c hc)),λj y v' e1 e2 e3=>?_⟩,λy c' e=>?_,I.free,I.freeC,λp hp=>?_,tracked ⟨oc,hoc,I.freeC x c hc⟩ hs,by simpa using I.len⟩ ⟨c,hs,.inr hc⟩
  ·exact(hs.2 b (Vao (Van (Heap.lt_size e) (I.ok.cab x c hfn hc)))).trans (I.base.keep b o e n hb hx)
  ·obtain⟨sl,e1⟩:=I.base.slot b o e n hb hx
   exact⟨sl,(hs.2 b (Vao (Van (Heap.lt_size e) (I.ok.cab x c hfn hc)))).trans e1⟩
  ·obtain⟨o',e1⟩:=I.base.there b o e hx
   exact⟨o',(hs.2 b (Vao (Van (Heap.lt_size e) (I.ok.cab x c hfn hc)))).trans e1⟩
  ·by_cases hj:j=i
   ·subst hj
    rw[hi] at e1; cases e1
    rw[VaN hiσ] at e2
    cases e2
    exact⟨u,r,.inr ⟨.inl hk,c,hc,hc'⟩⟩
   ·rw[VaO (Ne.symm hj)] at e2
    obtain⟨u',r',q⟩:=hl j y v' e1 e2 e3
    refine⟨u',r',?_⟩
    rcases q with q | ⟨k,c',e,z'⟩
    ·exact .inl q
    ·refine .inr ⟨k,c',e,z'.sameBut hs ?_⟩
     rintro rfl
     exact hj (zpc hN e1 (I.ok.inj _ _ _ e hc ▸ hi))
  ·by_cases hcc:c'=c
   ·subst hcc; exact⟨_,hc'⟩
   ·obtain⟨w2,z2⟩:=I.cell y c' e
    exact⟨w2,z2.sameBut hs hcc⟩
  ·obtain⟨e,n,ne,nf,d⟩:=I.pin p hp
   refine⟨(hs.2 p.1 ?_).trans e,n,ne,nf,d⟩
   intro q
   rw[q,hoc] at e
   have q':oc=p.2:=Option.some.inj e
   exact d w' (by rw[← q']; exact hocd)
theorem zpr {M:Model}{A:Around}{E:Value→Shared→Prop}{i:Nat}{x:Str}{v:V}{u:Value}{Q:Unit→Shared→Prop}(I:Inv X pins σ H s)(hN:X.N.Nodup)(hi:X.N[i]?=some x)(hx:Loc X.env.scope x)(r:zaz v u)
  (h:∀s',Inv X pins (σ.set i (some v)) H s'→Q () s')(hf:X.fn x=true∨X.env.scope.names.lookup x=some .local:=by first | exact .inl rfl | exact .inr rfl | assumption):wpAny M A (storeName X.env x u) Q E s:=
 zpF I hN hi hx r (λs' I' _=>h s' I') hf
theorem Inv.call' {s':Shared}{ch:List Addr}(I:Inv X pins σ H s)(ho:s'.os=s.os)(u:Un (frs X.stack) ch H H' s.heap s'.heap)(hok:HOk X.prog X.w H' s'.heap)(hg:AllBare s'.gens)
  (hch:∀b∈ch,(b∈X.ex∨X.s₀.heap.objs.size≤b)∧b≠X.env.locals∧(∀x c,X.env.cells.lookup x=some c→c≠b)∧∀p∈X.pn++pins,p.1≠b):Inv X pins σ H' s':=by
 obtain⟨h',g',d',t',o'⟩:=s'
 have e:o'=s.os:=ho
 subst e
 exact I.call (g':=g') (t':=t') (d':=d') u hok hg hch
end
abbrev XK:=Value→Option Addr→Hp→Prop
abbrev St:=List (Option V)
abbrev VK:=V→Hp→Prop
abbrev TE:=St→Hp→VK→Prop
abbrev TT:=St→Hp→(Bool→Hp→Prop)→Prop
abbrev TA:=St→Hp→(List V→Hp→Prop)→Prop
structure zc1 where
 nx:St→Hp→Prop
 rt:VK
 bk:St→Hp→Prop:=λ_ _=>False
 ct:St→Hp→Prop:=λ_ _=>False
abbrev TS:=zc1→St→Hp→Prop
def EP (X:Cx)(pins:List (Addr×Obj))(σ:St)(Q:VK)(u:Value)(s':Shared):Prop:=∃v H',Inv X pins σ H' s'∧zaz v u∧Q v H'
def TP (X:Cx)(pins:List (Addr×Obj))(σ:St)(Q:Bool→Hp→Prop)(b:Bool)(s':Shared):Prop:=∃H',Inv X pins σ H' s'∧Q b H'
def AP (X:Cx)(pins:List (Addr×Obj))(σ:St)(Q:List V→Hp→Prop)(us:List Value)(s':Shared):Prop:=∃vs H',Inv X pins σ H' s'∧zaD vs us∧Q vs H'
def SP (X:Cx)(pins:List (Addr×Obj))(D:zc1)(f:Flow)(s':Shared):Prop:=
 match f with
 | .next=>∃σ' H',Inv X pins σ' H' s'∧D.nx σ' H'
 | .brk=>∃σ' H',Inv X pins σ' H' s'∧D.bk σ' H'
 | .cont=>∃σ' H',Inv X pins σ' H' s'∧D.ct σ' H'
 | .ret u=>∃v σ' H',Inv X pins σ' H' s'∧zaz v u∧D.rt v H'
def PE (X:Cx)(e:Expr)(t:TE):Prop:=
 ∀(pins:List (Addr×Obj)) (s:Shared) (σ:St) (H:Hp) (Q:VK),Inv X pins σ H s→t σ H Q→wpAny (model X.prog X.w) X.A (eval e X.env) (EP X pins σ Q) X.xe s
def PT (X:Cx)(e:Expr)(t:TT):Prop:=
 ∀(pins:List (Addr×Obj)) (s:Shared) (σ:St) (H:Hp) (Q:Bool→Hp→Prop),Inv X pins σ H s→t σ H Q→wpAny (model X.prog X.w) X.A (isTrue e X.env (eval e X.env)) (TP X pins σ Q) X.xe s
def PW (X:Cx)(e:Expr)(t:TT):Prop:=
 ∀(whole:Sem Value) (pins:List (Addr×Obj)) (s:Shared) (σ:St) (H:Hp) (Q:Bool→Hp→Prop),Inv X pins σ H s→t σ H Q→wpAny (model X.prog X.w) X.A (isTrue e X.env whole) (TP X pins σ Q) X.xe s
theorem PW.pt {X:Cx}{e:Expr}{t:TT}(h:PW X e t):PT X e t:=h _
def PA (X:Cx)(es:List Expr)(t:TA):Prop:=
 ∀(pos:Pos) (pins:List (Addr×Obj)) (s:Shared) (σ:St) (H:Hp) (Q:List V→Hp→Prop),Inv X pins σ H s→t σ H Q→wpAny (model X.prog X.w) X.A (spliced (backTo pos (starEach es X.env))) (AP X pins σ Q) X.xe s
def PS (X:Cx)(st:Stmt)(t:TS):Prop:=
 ∀(pins:List (Addr×Obj)) (s:Shared) (σ:St) (H:Hp) (D:zc1),Inv X pins σ H s→t D σ H→wpAny (model X.prog X.w) X.A (exec st X.env) (SP X pins D) X.xe s
def PSs (X:Cx)(st:List Stmt)(t:TS):Prop:=
 ∀(pins:List (Addr×Obj)) (s:Shared) (σ:St) (H:Hp) (D:zc1),Inv X pins σ H s→t D σ H→wpAny (model X.prog X.w) X.A (execs st X.env) (SP X pins D) X.xe s
theorem thn {α:Type}{t:Sem α}{Q Q':α→Shared→Prop}{M:Model}{A:Around}{E:Value→Shared→Prop}{s:Shared}(h:wpAny M A t Q E s)(hQ:∀a s,Q a s→Q' a s):wpAny M A t Q' E s:=wpAny_mono h hQ λ_ _ x=>x
end L2
namespace L2
open PySem PySem.Spec PyProof.Rows
section
variable {X:Cx}
def tVar (i:Nat):TE:=λσ H Q=>∃v,σ[i]?=some (some v)∧Q v H
def tC (v:V):TE:=λ_ H Q=>Q v H
theorem zpD {i:Nat}{x:Str}{pos:Pos}(hN:X.N[i]?=some x)(hv:Vis X.env.scope x)(hd:(x==("__debug__":Str))=false:=by decide)(hcd:(x==("__classdict__":Str))=false:=by decide):PE X (.Name x pos) (tVar i):=by
 intro pins s σ H Q I h
 obtain⟨v,e,h⟩:=h
 obtain⟨m,hn,hl⟩:=I.loc
 obtain⟨u,r,l⟩:=hl i x v hN e hv
 have fin:EP X pins σ Q u s:=⟨v,H,I,r,h⟩
 rcases l with ⟨hk,hm⟩ | ⟨hk,c,hc,hcell⟩
 ·exact wpAny_Name (wpAny_loadName_local I.ok.kind hk hn hm fin) hd
 ·rcases hk with hk | hk
  ·exact wpAny_Name (wpAny_loadName_cell I.ok.kind hk hc hcell fin) hd
  ·exact wpAny_Name (wpAny_loadName_free I.ok.kind hk hc hcell fin hcd) hd
theorem zwG {i j pos}:PE X (.Constant (.int i) j pos) (tC (.int i)):=λ_ _ _ H _ I h=>wpAny_Constant_int ⟨.int i,H,I.tok _,⟨_,rfl⟩,h⟩
theorem pe_bl {b j pos}:PE X (.Constant (.bool b) j pos) (tC (.bl b)):=λ_ _ _ H _ I h=>Constant_bool ⟨.bl b,H,I,rfl,h⟩
theorem zuW {j pos}:PE X (.Constant .none j pos) (tC .non):=λ_ _ _ H _ I h=>Constant_none ⟨.non,H,I,rfl,h⟩
theorem zwb {x j pos}:PE X (.Constant (.str x) j pos) (tC (.str x)):=λ_ _ _ H _ I h=>Calls.Constant_str ⟨.str x,H,I.tok _,⟨_,rfl⟩,h⟩
def Gl (X:Cx)(x:Str):Prop:=X.env.kindOf x=some .globalImplicit
theorem zpT {E:Value→Shared→Prop}{pins:List (Addr×Obj)}{s:Shared}{σ:St}{H:Hp}{x:Str}{u:Value}{pos:Pos}{Q:Value→Shared→Prop}(I:Inv X pins σ H s)(hg:Gl X x)(hm:X.mg x=some u)(h:Q u s)
  (hd:(x==("__debug__":Str))=false:=by decide):wpAny (model X.prog X.w) X.A (eval (.Name x pos) X.env) Q E s:=
 Calls.Name_function_global I.ok.kind hg (Calls.loadGlobal_global (by rw[I.ok.glob]; exact I.mod.glob.keeps I.bk) hm h) hd
theorem ze4 {E:Value→Shared→Prop}{pins:List (Addr×Obj)}{s:Shared}{σ:St}{H:Hp}{x:Str}{u:Value}{pos:Pos}{Q:Value→Shared→Prop}(I:Inv X pins σ H s)(hg:Gl X x)(hm:X.mg x=none)(hv:bootBuiltins x=some u)(h:Q u s)
  (hn:x≠"__name__":=by decide)(hd:(x==("__debug__":Str))=false:=by decide):wpAny (model X.prog X.w) X.A (eval (.Name x pos) X.env) Q E s:=by
 obtain⟨mb,h1,h2⟩:=I.mod.blt
 exact Calls.Name_function_global I.ok.kind hg (Calls.loadGlobal_builtin (by rw[I.ok.glob]; exact I.mod.glob.keeps I.bk) hm (by rw[I.ok.blt]; exact h1.keeps I.bk) ((h2 x hn).trans hv) h) hd
theorem zqZ {x:Str}{v:V}{u:Value}{pos:Pos}(hg:Gl X x)(hm:X.mg x=none)(hv:bootBuiltins x=some u)(r:zaz v u)(hn:x≠"__name__":=by decide)(hd:(x==("__debug__":Str))=false:=by decide):PE X (.Name x pos) (tC v):=
 λ_ _ _ H _ I h=>ze4 I hg hm hv ⟨v,H,I,r,h⟩ hn hd
variable {a b:Expr}{ta tb:TE}{pos:Pos}
def tB (t:TE):TT:=λσ H Q=>t σ H λx H1=>∃c,x=.bl c∧Q c H1
theorem ztJ {e:Expr}{t:TE}(h:PE X e t)(he:∀whole,isTrue e X.env whole=(do let v ← whole; standAt e.pos; holding [v] (truthy v)):=by intro _; rfl):PT X e (tB t):=by
 intro pins s σ H Q I hw
 refine isTrue_plain (thn (h pins s σ H _ I hw) λv s1 ⟨x,H1,I1,r1,q1⟩=>?_) (he _)
 obtain⟨d,rfl,q⟩:=q1
 cases r1
 exact wpAny_truthy_bool ⟨H1,I1,q⟩
variable {tA tB':TT}{zbn:List Expr}
def tAnd (t u:TT):TT:=λσ H Q=>t σ H λc H1=>if c=true then u σ H1 Q else Q false H1
def tOr (t u:TT):TT:=λσ H Q=>t σ H λc H1=>if c=true then Q true H1 else u σ H1 Q
def tNot (t:TT):TT:=λσ H Q=>t σ H λc H1=>Q (!c) H1
theorem zwc (ha:PT X a tA):PW X (.BoolOp .And [a] pos) tA:=by
 intro wh pins s σ H Q I h
 refine isTrue_and (thn (ha pins s σ H Q I h) λc s1 e=>?_)
 cases c with
 | true=>exact isTrue_and_nil e
 | false=>exact e
theorem zsY (ha:PT X a tA):PW X (.BoolOp .Or [a] pos) tA:=by
 intro wh pins s σ H Q I h
 refine isTrue_or (thn (ha pins s σ H Q I h) λc s1 e=>?_)
 cases c with
 | false=>exact isTrue_or_nil e
 | true=>exact e
theorem zwe (ha:PT X a tA)(hb:PW X (.BoolOp .And (b::zbn) pos) tB'):PW X (.BoolOp .And (a::b::zbn) pos) (tAnd tA tB'):=by
 intro wh pins s σ H Q I h
 refine isTrue_and (thn (ha pins s σ H _ I h) λc s1 ⟨H1,I1,q1⟩=>?_)
 cases c with
 | true=>exact hb wh pins s1 σ H1 Q I1 q1
 | false=>exact⟨H1,I1,q1⟩
theorem pw_or (ha:PT X a tA)(hb:PW X (.BoolOp .Or (b::zbn) pos) tB'):PW X (.BoolOp .Or (a::b::zbn) pos) (tOr tA tB'):=by
 intro wh pins s σ H Q I h
 refine isTrue_or (thn (ha pins s σ H _ I h) λc s1 ⟨H1,I1,q1⟩=>?_)
 cases c with
 | true=>exact⟨H1,I1,q1⟩
 | false=>exact hb wh pins s1 σ H1 Q I1 q1
theorem zwL (ha:PT X a tA):PT X (.UnaryOp .Not a pos) (tNot tA):=by
 intro pins s σ H Q I h
 exact isTrue_not (ha pins s σ H (λc H1=>Q (!c) H1) I h)
def tAndV (ta tb:TE):TE:=λσ H Q=>ta σ H λx H1=>∃c,x=.bl c∧if c=true then tb σ H1 Q else Q (.bl false) H1
def tNotV (ta:TE):TE:=λσ H Q=>ta σ H λx H1=>∃c,x=.bl c∧Q (.bl (!c)) H1
theorem zsZ {op}{t:TE}(h:PE X a t):PE X (.BoolOp op [a] pos) t:=λpins s σ H Q I hw=>BoolOp_one (h pins s σ H Q I hw)
theorem zug (ha:PE X a ta)(hb:PE X (.BoolOp .And (b::zbn) pos) tb):PE X (.BoolOp .And (a::b::zbn) pos) (tAndV ta tb):=by
 intro pins s σ H Q I h
 refine BoolOp_and (thn (ha pins s σ H _ I h) λv s1 ⟨x,H1,I1,r1,q1⟩=>?_)
 obtain⟨c,rfl,q1⟩:=q1
 cases r1
 refine wpAny_truthy_bool ?_
 cases c with
 | true=>exact hb pins s1 σ H1 Q I1 q1
 | false=>exact⟨.bl false,H1,I1,rfl,q1⟩
theorem zww (ha:PE X a ta):PE X (.UnaryOp .Not a pos) (tNotV ta):=by
 intro pins s σ H Q I h
 refine UnaryOp_ (thn (ha pins s σ H _ I h) λv s1 ⟨x,H1,I1,r1,q1⟩=>?_)
 obtain⟨c,rfl,q1⟩:=q1
 cases r1
 exact not_of (wpAny_truthy_bool ⟨.bl (!c),H1,I1,rfl,q1⟩)
def tIf (t:TT)(ta tb:TE):TE:=λσ H Q=>t σ H λc H1=>if c=true then ta σ H1 Q else tb σ H1 Q
theorem zvt {c:Expr}(hc:PT X c tA)(ha:PE X a ta)(hb:PE X b tb):PE X (.IfExp c a b pos) (tIf tA ta tb):=by
 intro pins s σ H Q I h
 refine wpAny_IfExp (thn (hc pins s σ H _ I h) λd s1 ⟨H1,I1,q1⟩=>?_)
 cases d with
 | true=>exact ha pins s1 σ H1 Q I1 q1
 | false=>exact hb pins s1 σ H1 Q I1 q1
end
end L2
namespace L2
open PySem PySem.Spec PyProof.Rows
def SqL (K:PySem.W.Frag)(H:Hp)(a:Addr)(xs:List V):Prop:=
 Rd H a (.lst xs)∨
  ∃(o:Obj) (its:Array Value) (n:Nat),K.lookup a=some o∧o.cls=.type "list"∧o.dict=none∧o.data=.seq its n∧its.size≤sizeLine∧zaD xs its.toList
def SqT (K:PySem.W.Frag)(H:Hp)(a:Addr)(xs:List V):Prop:=
 Rd H a (.tup xs)∨
  ∃(o:Obj) (its:Array Value) (n:Nat),K.lookup a=some o∧o.cls=.type "tuple"∧o.data=.seq its n∧its.size≤sizeLine∧zaD xs its.toList
def absV:Value→Option V
 | .none=>some .non
 | .bool b=>some (.bl b)
 | .int i _=>some (.int i)
 | .str x _=>some (.str x)
 | .bytes b _=>some (.byt b)
 | .float b _=>some (.flt b)
 | .ref a=>some (.ref a)
 | .type n=>some (.ty n)
 | _=>none
theorem zaz.abs {x:V}{u:Value}(r:zaz x u):absV u=some x:=by
 cases x with
 | non=>cases r; rfl
 | bl _=>cases r; rfl
 | int _=>obtain⟨t,rfl⟩:=r; rfl
 | str _=>obtain⟨t,rfl⟩:=r; rfl
 | byt _=>obtain⟨t,rfl⟩:=r; rfl
 | flt _=>obtain⟨t,rfl⟩:=r; rfl
 | ref _=>cases r; rfl
 | ty _=>cases r; rfl
theorem zaz.inj {x y:V}{u:Value}(r:zaz x u)(q:zaz y u):x=y:=Option.some.inj (r.abs.symm.trans q.abs)
theorem zaD.inj:∀ {xs ys:List V} {us:List Value},zaD xs us→zaD ys us→xs=ys
 | _,_,_,.nil,.nil=>rfl
 | _,_,_,.cons r t,.cons r' t'=>by rw[r.inj r',zaD.inj t t']
section
variable {X:Cx}{pins:List (Addr×Obj)}{σ:St}{H:Hp}{s:Shared}{a:Addr}{xs ys:List V}
theorem SqL.of {K:PySem.W.Frag}(h:H a=some (.lst xs)):SqL K H a xs:=.inl (.inl h)
theorem SqT.of {K:PySem.W.Frag}(h:H a=some (.tup xs)):SqT K H a xs:=.inl (.inl h)
theorem Inv.list (I:Inv X pins σ H s)(h:SqL X.K H a xs):∃its:List Value,zaD xs its∧PlainL s.heap a its.toArray∧xs.length≤sizeLine:=by
 rcases h with h | ⟨o,its,n,hk,hc,hd,hs,hz,r⟩
 ·obtain⟨z,its,n,r,e⟩:=h.ok I.hok
  exact⟨its,r,⟨_,n,e,rfl,rfl,rfl⟩,z⟩
 ·refine⟨its.toList,r,⟨o,n,I.kIn a o hk,hc,hd,by simpa using hs⟩,?_⟩
  have e:=r.length
  simp only[Array.length_toList] at e
  omega
theorem Inv.tuple (I:Inv X pins σ H s)(h:SqT X.K H a xs):∃its:List Value,zaD xs its∧IsTup s.heap a its.toArray∧xs.length≤sizeLine:=by
 rcases h with h | ⟨o,its,n,hk,hc,hs,hz,r⟩
 ·obtain⟨z,its,r,p⟩:=h.ok I.hok
  exact⟨its,r,p,z⟩
 ·refine⟨its.toList,r,⟨o,I.kIn a o hk,hc,n,by simpa using hs⟩,?_⟩
  have e:=r.length
  simp only[Array.length_toList] at e
  omega
theorem Inv.list_inj (I:Inv X pins σ H s)(h:SqL X.K H a xs)(h':SqL X.K H a ys):xs=ys:=by
 obtain⟨its,r,⟨o,n,e,_,_,d⟩,_⟩:=I.list h
 obtain⟨its',r',⟨o',n',e',_,_,d'⟩,_⟩:=I.list h'
 rw[e] at e'; cases e'
 rw[d] at d'
 injection d' with d1 _
 have:its=its':=by simpa using congrArg Array.toList d1
 subst this
 exact r.inj r'
end
abbrev Cx.wish (X:Cx)(E:Value→Shared→Prop):Cx:={ X with xe:=E }
abbrev Cx.nox (X:Cx):Cx:=X.wish λ_ _=>False
theorem Cx.Ok.wish {X:Cx}(ok:X.Ok)(E:Value→Shared→Prop):(X.wish E).Ok:=
 ⟨ok.mod,ok.kind,ok.glob,ok.blt,ok.above,ok.inj,ok.has,ok.cab,ok.hd,ok.frames,ok.stk,ok.exf,ok.bs,ok.bsz,ok.noex,ok.exfs,ok.funs,ok.frf⟩
theorem Cx.Ok.unwish {X:Cx}{E:Value→Shared→Prop}(ok:(X.wish E).Ok):X.Ok:=
 ⟨ok.mod,ok.kind,ok.glob,ok.blt,ok.above,ok.inj,ok.has,ok.cab,ok.hd,ok.frames,ok.stk,ok.exf,ok.bs,ok.bsz,ok.noex,ok.exfs,ok.funs,ok.frf⟩
section
variable {X:Cx}{pins:List (Addr×Obj)}{σ:St}{H:Hp}{s:Shared}{E:Value→Shared→Prop}
theorem Inv.wish (I:Inv X pins σ H s)(E:Value→Shared→Prop):Inv (X.wish E) pins σ H s:=⟨I.ok.wish E,I.os,I.bare,I.base,I.loc,I.cell,I.free,I.freeC,I.pin,I.hok,I.len⟩
theorem Inv.unwish (I:Inv (X.wish E) pins σ H s):Inv X pins σ H s:=⟨I.ok.unwish,I.os,I.bare,I.base,I.loc,I.cell,I.free,I.freeC,I.pin,I.hok,I.len⟩
theorem SP.unwish {D:zc1}{f:Flow}{s':Shared}(h:SP (X.wish E) pins D f s'):SP X pins D f s':=by
 cases f with
 | next=>obtain⟨σ',H',I,q⟩:=h; exact⟨σ',H',I.unwish,q⟩
 | brk=>obtain⟨σ',H',I,q⟩:=h; exact⟨σ',H',I.unwish,q⟩
 | cont=>obtain⟨σ',H',I,q⟩:=h; exact⟨σ',H',I.unwish,q⟩
 | ret u=>obtain⟨v,σ',H',I,r,q⟩:=h; exact⟨v,σ',H',I.unwish,r,q⟩
theorem PSs.nox {st:List Stmt}{t:TS}(h:PSs X.nox st t):PSs X st t:=λpins s σ H D I hw=>
 wpAny_mono (h pins s σ H D (I.wish _) hw) (λ_ _ q=>q.unwish) λ_ _ z=>False.elim z
end
section
variable {X:Cx}{st:Stmt}{zbn:List Stmt}{t u:TS}{e:Expr}{te:TE}{pos:Pos}
def tNext:TS:=λD σ H=>D.nx σ H
def tSeq (t u:TS):TS:=λD σ H=>t { D with nx:=u D } σ H
theorem zrF:PSs X [] tNext:=λ_ _ σ H _ I h=>wpAny_execs_nil ⟨σ,H,I,h⟩
theorem zs8 (h1:PS X st t)(h2:PSs X zbn u):PSs X (st::zbn) (tSeq t u):=by
 intro pins s σ H D I h
 refine wpAny_execs_cons (thn (h1 pins s σ H { D with nx:=u D } I h) λf s1 q=>?_)
 cases f with
 | next=>
  obtain⟨σ',H',I',q⟩:=q
  exact h2 pins s1 σ' H' D I' q
 | ret v=>exact q
 | brk=>exact q
 | cont=>exact q
theorem zuK (h1:PS X st t):PSs X [st] t:=by
 intro pins s σ H D I h
 refine wpAny_execs_cons (thn (h1 pins s σ H D I h) λf s1 q=>?_)
 cases f with
 | next=>exact wpAny_execs_nil q
 | ret v=>exact q
 | brk=>exact q
 | cont=>exact q
theorem Inv.quiet {pins:List (Addr×Obj)}{σ:St}{H:Hp}{s:Shared}(I:Inv X pins σ H s):interactive X.env=false:=by simp[interactive,I.ok.kind]
def tDrop (te:TE):TS:=λD σ H=>te σ H λ_ H1=>D.nx σ H1
theorem zvi (he:PE X e te)(hs:swapsWith e none pos.line X.env=pure false:=by rfl):PS X (.Expr e pos) (tDrop te):=by
 intro pins s σ H D I h
 exact wpAny_Expr_any (thn (he pins s σ H _ I h) λv s1 ⟨x,H1,I1,r1,q1⟩=>⟨σ,H1,I1,q1⟩) I.quiet hs
def tRet (te:TE):TS:=λD σ H=>te σ H D.rt
theorem zsD (he:PE X e te):PS X (.Return (some e) pos) (tRet te):=by
 intro pins s σ H D I h
 exact wpAny_Return_some (thn (he pins s σ H _ I h) λv s1 ⟨x,H1,I1,r1,q1⟩=>⟨x,σ,H1,I1,r1,q1⟩)
def tIfS (c:TT)(t u:TS):TS:=λD σ H=>c σ H λb H1=>if b=true then t D σ H1 else u D σ H1
theorem ps_if {c:Expr}{a b:List Stmt}{tc:TT}(hc:PT X c tc)(ha:PSs X a t)(hb:PSs X b u):PS X (.If c a b pos) (tIfS tc t u):=by
 intro pins s σ H D I h
 refine wpAny_If (thn (hc pins s σ H _ I h) λd s1 ⟨H1,I1,q1⟩=>?_)
 cases d with
 | true=>exact ha pins s1 σ H1 D I1 q1
 | false=>exact hb pins s1 σ H1 D I1 q1
def ztn:TS:=λ_ _ _=>False
theorem zu7:PS X st ztn:=λ_ _ _ _ _ _ h=>h.elim
end
abbrev TG:=V→St→Hp→(St→Hp→Prop)→Prop
abbrev TGs:=List V→St→Hp→(St→Hp→Prop)→Prop
def PG (X:Cx)(target:Expr)(t:TG):Prop:=
 ∀(pins:List (Addr×Obj)) (s:Shared) (σ:St) (H:Hp) (v:V) (u:Value) (Q:St→Hp→Prop),Inv X pins σ H s→zaz v u→t v σ H Q→
  wpAny (model X.prog X.w) X.A (assign target X.env u) (λ_ s'=>∃σ' H',Inv X pins σ' H' s'∧Q σ' H') X.xe s
def PGs (X:Cx)(ts:List Expr)(t:TGs):Prop:=
 ∀(pins:List (Addr×Obj)) (s:Shared) (σ:St) (H:Hp) (vs:List V) (us:List Value) (Q:St→Hp→Prop),Inv X pins σ H s→zaD vs us→t vs σ H Q→
  wpAny (model X.prog X.w) X.A (assignInOrder ((assignEach ts X.env).map (·.2)) us) (λ_ s'=>∃σ' H',Inv X pins σ' H' s'∧Q σ' H') X.xe s
abbrev TSet:=V→V→V→Hp→(Hp→Prop)→Prop
def PSet (X:Cx)(t:TSet):Prop:=
 ∀(pins:List (Addr×Obj)) (s:Shared) (σ:St) (H:Hp) (o i v:V) (ov iv u:Value) (Q:Hp→Prop),Inv X pins σ H s→zaz o ov→zaz i iv→zaz v u→t o i v H Q→
  wpAny (model X.prog X.w) X.A (setItem ov iv u) (λ_ s'=>∃H',Inv X pins σ H' s'∧Q H') X.xe s
section
variable {X:Cx}{pos:Pos}
def zpA (i:Nat):TG:=λv σ H Q=>Q (σ.set i (some v)) H
theorem zht {i:Nat}{x:Str}(hN:X.N.Nodup)(hi:X.N[i]?=some x)(hx:Loc X.env.scope x)(hf:X.fn x=true∨X.env.scope.names.lookup x=some .local:=by first | exact .inl rfl | exact .inr rfl | assumption):PG X (.Name x pos) (zpA i):=by
 intro pins s σ H v u Q I r h
 exact wpAny_assign_Name (zpr I hN hi hx r (λs' I'=>⟨_,H,I',h⟩) hf)
def gNil:TGs:=λvs σ H Q=>vs=[]∧Q σ H
def gCons (t:TG)(u:TGs):TGs:=λvs σ H Q=>∃v r,vs=v::r∧t v σ H λσ' H'=>u r σ' H' Q
theorem zum:PGs X [] gNil:=by
 intro pins s σ H vs us Q I r h
 obtain⟨e,h⟩:=h
 subst e
 cases r
 exact assignInOrder_nil ⟨σ,H,I,h⟩
theorem zxT {e:Expr}{es:List Expr}{t:TG}{u:TGs}(h1:PG X e t)(h2:PGs X es u)
  (hs:(assignEach (e::es) X.env).map (·.2)=assign e X.env::(assignEach es X.env).map (·.2):=by rfl):PGs X (e::es) (gCons t u):=by
 intro pins s σ H vs us Q I r h
 obtain⟨v,vr,e1,h⟩:=h
 subst e1
 cases r with
 | cons r rr=>
  rw[hs]
  refine assignInOrder_cons (thn (h1 pins s σ H _ _ _ I r h) λ_ s1 ⟨σ1,H1,I1,q1⟩=>?_)
  exact h2 pins s1 σ1 H1 _ _ Q I1 rr q1
def gTup (K:PySem.W.Frag)(n:Nat)(t:TGs):TG:=λv σ H Q=>∃a xs,v=.ref a∧SqT K H a xs∧xs.length=n∧t xs σ H Q
theorem znV {es:List Expr}{k:Nat}{t:TGs}{n:Nat}(hc:X.calm=true)(h:PGs X es t)
  (hn:(assignEach es X.env).length=n:=by rfl)(hst:(assignEach es X.env).findIdx? (·.1)=none:=by rfl):PG X (.Tuple es k pos) (gTup X.K n t):=by
 intro pins s σ H v u Q I r hw
 obtain⟨a,xs,e1,hq,hl,hw⟩:=hw
 subst e1
 cases r
 obtain⟨its,rv,ht,hz⟩:=I.tuple hq
 refine assign_Tuple_tuple (I.ok.hd hc) ht (by simp[hn,← hl,rv.length]) hst λh' hx=>?_
 have I1:Inv X pins σ H { s with heap:=h' }:=I.kept (t':=s.toks) λb o e=>hx b o (Vao (Heap.lt_size e)) e
 exact h pins _ σ H xs _ Q I1 (by simpa using rv) hw
def gSub (to ti:TE)(t:TSet):TG:=λv σ H Q=>to σ H λo H1=>ti σ H1 λi H2=>t o i v H2 λH3=>Q σ H3
theorem zrG {o i:Expr}{to ti:TE}{t:TSet}(ho:PE X o to)(hi:PE X i ti)(hs:PSet X t)
  (ha:∀v,assign (.Subscript o i pos) X.env v=(do
   let ov ← holding [v] (eval o X.env)
   let iv ← holding [v,ov] (eval i X.env)
   standAt pos
   holding [v,ov,iv] (setItem ov iv v)
   release [v,ov,iv] []):=by intro _; rfl):PG X (.Subscript o i pos) (gSub to ti t):=by
 intro pins s σ H v u Q I r h
 rw[ha]
 refine wpAny_bind (wpAny_holding (thn (ho pins s σ H _ I h) λov s1 ⟨x,H1,I1,r1,q1⟩=>?_))
 refine wpAny_bind (wpAny_holding (thn (hi pins s1 σ H1 _ I1 q1) λiv s2 ⟨y,H2,I2,r2,q2⟩=>?_))
 refine wpAny_bind (wpAny_standAt (wpAny_bind (wpAny_holding (thn (hs pins s2 σ H2 x y v ov iv u _ I2 r1 r2 r q2) λ_ s3 ⟨H3,I3,q3⟩=>?_))))
 exact wpAny_release ⟨σ,H3,I3,q3⟩
def tAsg (te:TE)(g:TG):TS:=λD σ H=>te σ H λx H1=>g x σ H1 D.nx
theorem zqi {tg e:Expr}{te:TE}{g:TG}(he:PE X e te)(hg:PG X tg g)(hs:swapsWithSole [tg] e pos.line X.env=pure false:=by rfl)(hw:swappedStores [tg] e X.env=pure none:=by rfl)
  (h1:(assignEach [tg] X.env).map (·.2)=[assign tg X.env]:=by rfl):PS X (.Assign [tg] e pos) (tAsg te g):=by
 intro pins s σ H D I h
 refine wpAny_Assign_stores (thn (he pins s σ H _ I h) λv s1 ⟨x,H1,I1,r1,q1⟩=>?_) hs hw
 rw[h1]
 exact thn (hg pins s1 σ H1 x v _ I1 r1 q1) λ_ s2 q=>q
theorem zwA {i:Nat}{x:Str}{e:Expr}{te:TE}{pos':Pos}(hN:X.N.Nodup)(hi:X.N[i]?=some x)(hx:Loc X.env.scope x)(he:PE X e te)(hs:swapsWith e (some (.Name x pos')) pos.line X.env=pure false:=by rfl)(hf:X.fn x=true∨X.env.scope.names.lookup x=some .local:=by first | exact .inl rfl | exact .inr rfl | assumption):
  PS X (.Assign [.Name x pos'] e pos) (tAsg te (zpA i)):=by
 intro pins s σ H D I h
 refine wpAny_Assign_Name (thn (he pins s σ H _ I h) λv s1 ⟨y,H1,I1,r1,q1⟩=>?_) hs
 exact zpr I1 hN hi hx r1 (λs2 I2=>⟨_,H1,I2,q1⟩) hf
end
section
variable {X:Cx}{pos:Pos}
def zv1 (c:TT)(tb:TS):TS:=λD σ H=>∃W:Nat→St→Hp→Prop,(∃m,W m σ H)∧∀m σ H,W m σ H→
 c σ H λb H1=>if b=true then ∃N:St→Hp→Prop,(∀σ' H',N σ' H'→∃m',m'<m∧W m' σ' H')∧tb { D with nx:=N,ct:=N,bk:=D.nx } σ H1 else D.nx σ H1
theorem zxI {c:Expr}{body:List Stmt}{tc:TT}{tb:TS}(hp:PassesOwn (model X.prog X.w) X.A X.env X.xe)(hc:PT X c tc)(hb:PSs X body tb):PS X (.While c body [] pos) (zv1 tc tb):=by
 intro pins s σ H D I h
 obtain⟨W,⟨m0,w0⟩,turn⟩:=h
 refine wpAny_While (codeAny_whileLoop (λn s'=>∃σ' H',Inv X pins σ' H' s'∧W n σ' H') ?_ m0 ⟨σ,H,I,w0⟩)
 rintro n s1 ⟨σ1,H1,I1,w1⟩
 refine wpAny_passesOwn hp (thn (hc pins s1 σ1 H1 _ I1 (turn n σ1 H1 w1)) λb s2 ⟨H2,I2,q2⟩=>?_)
 cases b with
 | true=>
  obtain⟨N,hN,q2⟩:=q2
  rw[if_pos rfl]
  refine wpAny_passesOwn hp (thn (hb pins s2 σ1 H2 _ I2 q2) λf s3 q3=>?_)
  cases f with
  | next=>
   obtain⟨σ3,H3,I3,n3⟩:=q3
   obtain⟨m',hm,w3⟩:=hN σ3 H3 n3
   exact⟨m',hm,σ3,H3,I3,w3⟩
  | cont=>
   obtain⟨σ3,H3,I3,n3⟩:=q3
   obtain⟨m',hm,w3⟩:=hN σ3 H3 n3
   exact⟨m',hm,σ3,H3,I3,w3⟩
  | brk=>exact q3
  | ret v=>exact q3
 | false=>
  rw[if_neg Vak]
  exact wpAny_execs_nil ⟨σ1,H2,I2,q2⟩
end
structure It where
 go:Nat→Hp→Prop
 yld:Nat→Hp→V→Hp→Prop
 stop:Nat→Hp→Prop
def zch (X:Cx)(pins:List (Addr×Obj))(H:Hp)(b:Addr):Prop:=
 H b=none∧b≠X.env.locals∧b ∉ X.fs∧(b∈X.ex∨X.s₀.heap.objs.size≤b)∧(∀x c,X.env.cells.lookup x=some c→c≠b)∧∀p∈X.pn++pins,p.1≠b
theorem Inv.fpOk {X:Cx}{pins:List (Addr×Obj)}{σ:St}{H H':Hp}{s:Shared}{b:Addr}(I:Inv X pins σ H s)(hb:s.heap.objs.size≤b)(hn:H' b=none):zch X pins H' b:=by
 refine⟨hn,Nat.ne_of_gt (Van I.lt hb),I.nofs hb,.inr (VaC I.sz hb),λx c e z=>?_,λp hp z=>?_⟩
 ·obtain⟨v,q⟩:=I.cell x c e
  exact absurd (Van q.lt (by rw[z]; exact hb)) (VaI _)
 ·exact absurd (Van (Heap.lt_size (I.pin p hp).1) (by rw[z]; exact hb)) (VaI _)
structure zgC (P:Program)(w:World)(K:PySem.W.Frag)(tg:Expr)(J:It)(fp:List Addr)(it:Addr)(tn:Nat→Heap→Prop):Prop where
 mem:it∈fp
 obj:∀i h,tn i h→∀b∈fp,∃o,h.get? b=some o∧∀v,o.data≠.cell v
 keep:∀i h h',tn i h→(∀b∈fp,∀o,h.get? b=some o→h'.get? b=some o)→tn i h'
 item:∀(X:Cx),X.prog=P→X.w=w→X.K=K→X.calm=true→∀(i:Nat) (pins:List (Addr×Obj)) (s:Shared) (σ:St) (H:Hp) (E:Value→Shared→Prop),Inv X pins σ H s→(∀b∈fp,zch X pins H b)→tn i s.heap→J.go i H→
  wpAny (model P w) X.A (pyNext (.ref it)) (λr s1=>∃u,r=some u∧
   wpAny (model P w) X.A (letOwnedTupleGo tg (.ref it) u) (λ_ s2=>∃x H',Inv X pins σ H' s2∧zaz x u∧J.yld i H x H'∧tn (i+1) s2.heap∧∀b∈fp,H' b=none) E s1) E s
 done:∀(X:Cx),X.prog=P→X.w=w→X.K=K→X.calm=true→∀(i:Nat) (pins:List (Addr×Obj)) (s:Shared) (σ:St) (H:Hp) (E:Value→Shared→Prop),Inv X pins σ H s→(∀b∈fp,zch X pins H b)→tn i s.heap→J.stop i H→
  wpAny (model P w) X.A (pyNext (.ref it)) (λr s1=>r=none∧Inv X pins σ H s1) E s
 self:∀(A:Around) (i:Nat) (s:Shared) (Q:Value→Shared→Prop) (E:Value→Shared→Prop),tn i s.heap→Q (.ref it) s→wpAny (model P w) A (pyIter (.ref it)) Q E s
abbrev TI:=St→Hp→(It→Hp→Prop)→Prop
def PIE (X:Cx)(pins:List (Addr×Obj))(σ:St)(tg:Expr)(R:It→Hp→Prop)(itv:Value)(s2:Shared):Prop:=
 ∃(it:Addr) (fp:List Addr) (tn:Nat→Heap→Prop) (J:It) (H':Hp),itv=.ref it∧Inv X pins σ H' s2∧zgC X.prog X.w X.K tg J fp it tn∧tn 0 s2.heap∧(∀b∈fp,zch X pins H' b)∧R J H'
def PI (X:Cx)(tg iter:Expr)(wi:TI):Prop:=
 ∀(pins:List (Addr×Obj)) (s:Shared) (σ:St) (H:Hp) (R:It→Hp→Prop),Inv X pins σ H s→wi σ H R→
  wpAny (model X.prog X.w) X.A (eval iter X.env) (λv s1=>wpAny (model X.prog X.w) X.A (pyIter v) (PIE X pins σ tg R) X.xe s1) X.xe s
theorem znS {M:Model}{A:Around}{E:Value→Shared→Prop}{s:Shared}{tg:Expr}{it:Addr}{u:Value}{o:Obj}{n:String}{vs:Array Value}{Q:Unit→Shared→Prop}(ho:s.heap.get? it=some o)(hc:o.cls=.type n)(hd:o.data=.fields vs)
    (hn:["enumerate","zip","dict_itemiterator","dict_reverseitemiterator","odict_iterator","itertools.zip_longest","itertools.pairwise"].contains n=false)(hQ:Q () s):wpAny M A (letOwnedTupleGo tg (.ref it) u) Q E s:=by
  unfold letOwnedTupleGo
  cases tg <;> first
    | exact wpAny_pure hQ
    | (cases u <;> first
        | exact wpAny_pure hQ
        | (refine wpAny_bind (wpAny_load ho ?_)
           rw[hc,hd]
           show wpAny M A (if (["enumerate","zip","dict_itemiterator","dict_reverseitemiterator","odict_iterator","itertools.zip_longest","itertools.pairwise"].contains n&&vs[0]?==some (rawInt _))=true then _ else _) Q E s
           rw[if_neg (by intro h; rw[hn,Bool.false_and] at h; cases h)]
           exact wpAny_pure hQ))
def Itl (K:PySem.W.Frag)(a:Addr):It:=
 ⟨λi H=>∃xs x,SqL K H a xs∧xs[i]?=some x,λi H x H'=>H'=H∧∀xs,SqL K H a xs→xs[i]?=some x,λi H=>∃xs,SqL K H a xs∧xs.length≤i⟩
def Itr (lo:Int)(n:Nat):It:=⟨λi _=>i<n,λi H x H'=>H'=H∧x=.int (lo+i),λi _=>n≤i⟩
theorem zwl {P:Program}{w:World}{K:PySem.W.Frag}{tg:Expr}(a it:Addr):zgC P w K tg (Itl K a) [it] it (λi h=>h.IsListIter it a i) where
 mem:=by simp
 obj:=λi h st b hb=>by
  have e:b=it:=by simpa using hb
  subst e
  obtain⟨o,e,c,d⟩:=st
  exact⟨o,e,λv z=>by rw[d] at z; cases z⟩
 keep:=λi h h' st k=>st.at λo e=>k it (by simp) o e
 item:=by
  intro X hP hw hK hc i pins s σ H E I hf st hg
  subst hP hw hK
  obtain⟨xs,x,hq,hx⟩:=hg
  obtain⟨its,rv,p,hz⟩:=I.list hq
  obtain⟨u,hu,ru⟩:=rv.get hx
  obtain⟨f0,f1,f2,f3,f4,f5⟩:=hf it (by simp)
  refine wpAny_pyNext_list_item st p.isList (x:=u) (by simpa using hu) λh' st' sb=>?_
  have I1:Inv X pins σ H { s with heap:=h' }:=I.turned (t':=s.toks) (λb o hb e=>(sb.2 b hb).trans e) f0 f1 f3 f4 f5
  obtain⟨o,e,c,d⟩:=id st'
  exact⟨u,rfl,znS (s:={ s with heap:=h' }) e c d (by decide) ⟨x,H,I1,ru,⟨rfl,λys hy=>by rw[I.list_inj hy hq]; exact hx⟩,st',λb hb=>(hf b hb).1⟩⟩
 done:=by
  intro X hP hw hK hc i pins s σ H E I hf st hg
  subst hP hw hK
  obtain⟨xs,hq,hx⟩:=hg
  obtain⟨its,rv,p,hz⟩:=I.list hq
  obtain⟨f0,f1,f2,f3,f4,f5⟩:=hf it (by simp)
  have hl:=rv.length
  exact wpAny_pyNext_list_end (I.ok.hd hc) st p.isList (by simp; omega) λh' eb=>⟨rfl,I.turned (t':=s.toks) (λb o hb e=>eb b o hb e) f0 f1 f3 f4 f5⟩
 self:=λ_ _ _ _ _ st h=>wpAny_pyIter_listiter st h
theorem zwB {P:Program}{w:World}{K:PySem.W.Frag}{tg:Expr}(it:Addr)(lo:Int)(n:Nat):zgC P w K tg (Itr lo n) [it] it (λi h=>IsRangeIter h it (lo+(i:Nat)*1) ((n:Int)-(i:Nat)) 1) where
 mem:=by simp
 obj:=λi h st b hb=>by
  have e:b=it:=by simpa using hb
  subst e
  exact⟨_,st,λv z=>by
   have z':Data.fields _=Data.cell v:=z
   cases z'⟩
 keep:=λi h h' st k=>k it (by simp) _ st
 item:=by
  intro X hP hw hK hc i pins s σ H E I hf st hg
  subst hP hw hK
  obtain⟨f0,f1,f2,f3,f4,f5⟩:=hf it (by simp)
  have W:=Walks.range (prog:=X.prog) (w:=X.w) (I.ok.hd hc) it lo 1 n
  refine W.item i s _ _ hg st λv h' tk hv st' kk=>?_
  obtain⟨t,rfl⟩:=hv
  have I1:Inv X pins σ H { s with heap:=h',toks:=tk }:=I.turned (λb o hb e=>kk b o (by simpa using hb) e) f0 f1 f3 f4 f5
  refine⟨_,rfl,znS (s:={ s with heap:=h',toks:=tk }) (n:="range_iterator") st' rfl rfl (by decide) ⟨.int (lo+i),H,I1,⟨t,?_⟩,⟨rfl,rfl⟩,st',λb hb=>(hf b hb).1⟩⟩
  rw[Int.mul_one]
 done:=by
  intro X hP hw hK hc i pins s σ H E I hf st hg
  subst hP hw hK
  obtain⟨f0,f1,f2,f3,f4,f5⟩:=hf it (by simp)
  exact wpAny_pyNext_range_end (I.ok.hd hc) st (by have:n≤i:=hg; omega) λh' eb=>⟨rfl,I.turned (t':=s.toks) (λb o hb e=>eb b o hb e) f0 f1 f3 f4 f5⟩
 self:=λ_ _ _ _ _ st h=>wpAny_pyIter_rangeiter st h
end L2
namespace L2
open PySem PySem.Spec PyProof.Rows
section
variable {X:Cx}{tg:Expr}
def zpb (K:PySem.W.Frag)(tl:TE):TI:=λσ H R=>tl σ H λx H1=>∃a,x=.ref a∧(∃xs,SqL K H1 a xs)∧R (Itl K a) H1
theorem zkT {l:Expr}{tl:TE}(hl:PE X l tl):PI X tg l (zpb X.K tl):=by
 intro pins s σ H R I h
 refine thn (hl pins s σ H _ I h) λv s1 ⟨x,H1,I1,r1,q1⟩=>?_
 obtain⟨a,e,⟨xs,hq⟩,q⟩:=q1
 subst e
 cases r1
 obtain⟨its,rv,p,hz⟩:=I1.list hq
 refine wpAny_pyIter_list p.isList ?_
 refine⟨s1.heap.objs.size,[s1.heap.objs.size],_,_,H1,rfl,I1.kept (t':=s1.toks) λb o e=>Heap.get?_push_of_some _ e,zwl a _,⟨_,Heap.get?_push_size _ rfl,rfl,rfl⟩,λb hb=>?_,q⟩
 have e:b=s1.heap.objs.size:=by simpa using hb
 subst e
 exact I1.fpOk (Vab _) (I1.hok.fresh (Vab _))
theorem zto {pins:List (Addr×Obj)}{σ:St}{H:Hp}{s:Shared}{R:It→Hp→Prop}{E:Value→Shared→Prop}{lo hi:Int}{t u v:Tok}{tk:Nat}(I:Inv X pins σ H s)(h1:-(2^62)≤lo)(h2:lo<2^62)(h3:-(2^62)≤hi)(h4:hi<2^62)
  (q:R (Itr lo (hi-lo).toNat) H):wpAny (model X.prog X.w) X.A (pyIter (.ref s.heap.objs.size)) (PIE X pins σ tg R) E { s with heap:=s.heap.push { cls:=.type "range",data:=.fields #[.int lo t,.int hi u,.int 1 v] },toks:=tk }:=by
 refine wpAny_pyIter_range (IsRange.new ..) (small_one h1 h2 h3 h4) ?_
 have I1:Inv X pins σ H { s with heap:=s.heap.push { cls:=.type "range",data:=.fields #[.int lo t,.int hi u,.int 1 v] },toks:=tk }:=I.kept λb o e=>Heap.get?_push_of_some _ e
 refine⟨(s.heap.push { cls:=.type "range",data:=.fields #[.int lo t,.int hi u,.int 1 v] }).objs.size,[(s.heap.push { cls:=.type "range",data:=.fields #[.int lo t,.int hi u,.int 1 v] }).objs.size],_,_,H,rfl,
  I1.kept (t':=tk) λb o e=>Heap.get?_push_of_some _ e,zwB _ lo (hi-lo).toNat,?_,λb hb=>?_,q⟩
 ·have e1:lo+((0:Nat):Int)*1=lo:=by simp
  have e2:(((hi-lo).toNat:Nat):Int)-((0:Nat):Int)=Builtin.Range.rangeSize lo hi 1:=by rw[rangeSize_one]; split <;> omega
  show IsRangeIter _ _ (lo+((0:Nat):Int)*1) ((((hi-lo).toNat:Nat):Int)-((0:Nat):Int)) 1
  rw[e1,e2]
  exact Heap.get?_push_size _ rfl
 ·have e:b=(s.heap.push { cls:=.type "range",data:=.fields #[.int lo t,.int hi u,.int 1 v] }).objs.size:=by simpa using hb
  subst e
  exact I1.fpOk (Vab _) (I1.hok.fresh (Vab _))
def zp5 (ta:TA):TI:=λσ H R=>ta σ H λvs H1=>∃j:Int,vs=[.int j]∧-(2^62)≤j∧j<2^62∧R (Itr 0 j.toNat) H1
theorem zqj {a:Expr}{ta:TA}{p pos:Pos}(hg:Gl X "range")(hm:X.mg "range"=none)(ha:PA X [a] ta)(hs:starEach [a] X.env=[(false,eval a X.env)]:=by rfl):PI X tg (.Call (.Name "range" p) [a] [] pos) (zp5 ta):=by
 intro pins s σ H R I h
 refine Call_ (ze4 I hg hm boot_range (PyProof.Rows.callWith_type1 (thn (ha pos pins s σ H _ I h) λus s1 ⟨vs,H1,I1,r1,q1⟩=>?_) hs rfl))
 obtain⟨j,e,q1,q2,q⟩:=q1
 subst e
 cases r1 with
 | cons r rr=>
  cases rr
  obtain⟨t,rfl⟩:=r
  exact call_range_1 (zto I1 (by omega) (by omega) q1 q2 (by simpa using q))
def tFor (wi:TI)(g:TG)(tb:TS):TS:=λD σ H=>wi σ H λJ H1=>∃W:Nat→Nat→St→Hp→Prop,(∃m,W 0 m σ H1)∧∀i m σ H,W i m σ H→
 (J.stop i H∧D.nx σ H)∨(J.go i H∧∃N:St→Hp→Prop,(∀σ' H',N σ' H'→∃m',m'<m∧W (i+1) m' σ' H')∧∀x H',J.yld i H x H'→g x σ H' λσ2 H2=>tb { D with nx:=N,ct:=N,bk:=D.nx } σ2 H2)
def zfH (fp:List Addr)(h:Heap):List (Addr×Obj):=fp.filterMap λb=>(h.get? b).map λo=>(b,o)
theorem ziI {fp:List Addr}{h:Heap}{b:Addr}{o:Obj}(hb:b∈fp)(e:h.get? b=some o):(b,o)∈zfH fp h:=List.mem_filterMap.mpr ⟨b,hb,by rw[e]; rfl⟩
theorem zuR {fp:List Addr}{h:Heap}{p:Addr×Obj}(hp:p∈zfH fp h):p.1∈fp∧h.get? p.1=some p.2:=by
 obtain⟨b,hb,e⟩:=List.mem_filterMap.mp hp
 cases q:h.get? b with
 | none=>rw[q] at e; cases e
 | some o=>
  rw[q] at e
  have e':(b,o)=p:=Option.some.inj e
  subst e'
  exact⟨hb,q⟩
theorem Inv.pinned {pins:List (Addr×Obj)}{σ:St}{H:Hp}{s:Shared}{fp:List Addr}(I:Inv X pins σ H s)(hf:∀b∈fp,zch X pins H b)(ho:∀b∈fp,∃o,s.heap.get? b=some o∧∀v,o.data≠.cell v):Inv X (pins++zfH fp s.heap) σ H s:=
 I.pins_of λp hp=>(VaJ.mp hp).elim (λz=>I.pin p (VaF _ z)) λz=>by
  obtain⟨hb,e⟩:=zuR z
  obtain⟨f0,f1,f2,_⟩:=hf p.1 hb
  obtain⟨o,e',d⟩:=ho p.1 hb
  rw[e] at e'; cases e'
  exact⟨e,f0,f1,f2,d⟩
theorem Inv.unpinned {pins pl:List (Addr×Obj)}{σ:St}{H:Hp}{s:Shared}(I:Inv X (pins++pl) σ H s):Inv X pins σ H s:=I.pins_of λp hp=>I.pin p (VaF _ (List.mem_append_left _ hp))
theorem zhD {iter:Expr}{body:List Stmt}{wi:TI}{g:TG}{tb:TS}{pos:Pos}(hp:PassesOwn (model X.prog X.w) X.A X.env X.xe)(hc:X.calm=true)(hi:PI X tg iter wi)(hg:PG X tg g)(hb:PSs X body tb)
  (hs:∀x,foldedSetIterable iter X.env x=pure x:=by intro _; rfl):PS X (.For tg iter body [] pos) (tFor wi g tb):=by
 intro pins s σ H D I h
 refine wpAny_For (thn (hi pins s σ H _ I h) λv s1 h1=>thn h1 λitv s2 h2=>?_) hs
 obtain⟨it,fp,tn,J,H2,e,I2,T,st2,f2,W,⟨m0,w0⟩,turn⟩:=h2
 subst e
 have stat:∀ {H':Hp},(∀b∈fp,H' b=none)→∀b∈fp,zch X pins H' b:=λhn b hb=>⟨hn b hb,(f2 b hb).2⟩
 refine codeAny_forLoop_any (λn s'=>∃i σ' H',Inv X pins σ' H' s'∧tn i s'.heap∧(∀b∈fp,H' b=none)∧W i n σ' H') ?_ m0 ⟨0,σ,H2,I2,st2,λb hb=>(f2 b hb).1,w0⟩
 rintro n s3 ⟨i,σ3,H3,I3,st3,fr3,w3⟩
 rcases turn i n σ3 H3 w3 with ⟨stop,qn⟩ | ⟨go,N,hN,step⟩
 ·refine wpAny_passesOwn hp (thn (T.done X rfl rfl rfl hc i pins s3 σ3 H3 X.xe I3 (stat fr3) st3 stop) λr s4 ⟨hr,I4⟩=>?_)
  subst hr
  exact wpAny_execs_nil ⟨σ3,H3,I4,qn⟩
 ·refine wpAny_passesOwn hp (thn (T.item X rfl rfl rfl hc i pins s3 σ3 H3 X.xe I3 (stat fr3) st3 go) λr s4 ⟨u,hr,h4⟩=>?_)
  subst hr
  refine wpAny_passesOwn hp (thn h4 λ_ s5 ⟨x,H5,I5,r5,y5,st5,fr5⟩=>?_)
  have I5':=I5.pinned (stat fr5) (T.obj _ _ st5)
  refine wpAny_passesOwn hp (thn (hg _ s5 σ3 H5 x u _ I5' r5 (step x H5 y5)) λ_ s6 ⟨σ6,H6,I6,q6⟩=>?_)
  refine wpAny_passesOwn hp (thn (hb _ s6 σ6 H6 _ I6 q6) λf s7 q7=>?_)
  have again:∀ {σ7:St} {H7:Hp},Inv X (pins++zfH fp s5.heap) σ7 H7 s7→N σ7 H7→∃m,m<n∧∃i σ' H',Inv X pins σ' H' s7∧tn i s7.heap∧(∀b∈fp,H' b=none)∧W i m σ' H':=λ{σ7 H7} I7 n7=>by
   obtain⟨m',hm,w7⟩:=hN σ7 H7 n7
   refine⟨m',hm,i+1,σ7,H7,I7.unpinned,T.keep _ _ _ st5 λb hb o e=>(I7.pin (b,o) (VaF _ (VaF _ (ziI hb e)))).1,λb hb=>?_,w7⟩
   obtain⟨o,e,d⟩:=T.obj _ _ st5 b hb
   exact(I7.pin (b,o) (VaF _ (VaF _ (ziI hb e)))).2.1
  cases f with
  | next=>obtain⟨σ7,H7,I7,n7⟩:=q7; exact again I7 n7
  | cont=>obtain⟨σ7,H7,I7,n7⟩:=q7; exact again I7 n7
  | brk=>obtain⟨σ7,H7,I7,q7⟩:=q7; exact⟨σ7,H7,I7.unpinned,q7⟩
  | ret v=>obtain⟨x7,σ7,H7,I7,r7,q7⟩:=q7; exact⟨x7,σ7,H7,I7.unpinned,r7,q7⟩
end
end L2
namespace L2
open PySem PySem.Spec PyProof.Rows
abbrev R2:=V→V→Hp→VK→Prop
def OpR (X:Cx)(f:Value→Value→Sem Value)(r:R2):Prop:=
 ∀(pins:List (Addr×Obj)) (s:Shared) (σ:St) (H:Hp) (x y:V) (v u:Value) (Q:VK),Inv X pins σ H s→zaz x v→zaz y u→r x y H Q→
  wpAny (model X.prog X.w) X.A (f v u) (EP X pins σ Q) X.xe s
def UnR (X:Cx)(f:Value→Sem Value)(r:V→Hp→VK→Prop):Prop:=
 ∀(pins:List (Addr×Obj)) (s:Shared) (σ:St) (H:Hp) (x:V) (v:Value) (Q:VK),Inv X pins σ H s→zaz x v→r x H Q→
  wpAny (model X.prog X.w) X.A (f v) (EP X pins σ Q) X.xe s
def zbt (X:Cx)(f:Value)(r:List V→Hp→VK→Prop):Prop:=
 ∀(pins:List (Addr×Obj)) (s:Shared) (σ:St) (H:Hp) (xs:List V) (us:List Value) (Q:VK),Inv X pins σ H s→zaD xs us→r xs H Q→
  wpAny (model X.prog X.w) X.A (call f us) (EP X pins σ Q) X.xe s
def tOp (r:R2)(ta tb:TE):TE:=λσ H Q=>ta σ H λx H1=>tb σ H1 λy H2=>r x y H2 Q
def tUn (r:V→Hp→VK→Prop)(ta:TE):TE:=λσ H Q=>ta σ H λx H1=>r x H1 Q
def rI (C:Int→Int→Prop)(g:Int→Int→V):R2:=λx y H Q=>∃i j,x=.int i∧y=.int j∧C i j∧Q (g i j) H
def rI0 (g:Int→Int→V):R2:=λx y H Q=>∃i j,x=.int i∧y=.int j∧Q (g i j) H
def rU (g:Int→V):V→Hp→VK→Prop:=λx H Q=>∃i,x=.int i∧Q (g i) H
section
variable {X:Cx}{a b c:Expr}{ta tb tc:TE}{pos:Pos}
theorem binT (ha:PE X a ta)(hb:PE X b tb){pins:List (Addr×Obj)}{s:Shared}{σ:St}{H:Hp}{R:V→V→Hp→Prop}(I:Inv X pins σ H s)
  (h:ta σ H λx H1=>tb σ H1 λy H2=>R x y H2){Q:Value→Shared→Prop}{f:Value→Value→Sem Value}
  (hf:∀v u s2 x y H2,Inv X pins σ H2 s2→zaz x v→zaz y u→R x y H2→wpAny (model X.prog X.w) X.A (f v u) Q X.xe s2):
  wpAny (model X.prog X.w) X.A (eval a X.env) (λv s₁=>wpAny (model X.prog X.w) X.A (eval b X.env) (λu s₂=>wpAny (model X.prog X.w) X.A (f v u) Q X.xe s₂) X.xe s₁) X.xe s:=by
 refine thn (ha pins s σ H _ I h) λv s1 ⟨x,H1,I1,r1,q1⟩=>?_
 refine thn (hb pins s1 σ H1 _ I1 q1) λu s2 ⟨y,H2,I2,r2,q2⟩=>?_
 exact hf v u s2 x y H2 I2 r1 r2 q2
theorem pe_op {op:Operator}{r:R2}(ho:OpR X (binaryOp op) r)(ha:PE X a ta)(hb:PE X b tb):PE X (.BinOp a op b pos) (tOp r ta tb):=by
 intro pins s σ H Q I h
 exact wpAny_BinOp (binT ha hb I h λv u s2 x y H2 I2 rx ry q=>ho pins s2 σ H2 x y v u Q I2 rx ry q)
theorem pe_un {op:UnaryOp}{r:V→Hp→VK→Prop}(ho:UnR X (unaryOp op) r)(ha:PE X a ta):PE X (.UnaryOp op a pos) (tUn r ta):=by
 intro pins s σ H Q I h
 exact UnaryOp_ (thn (ha pins s σ H _ I h) λv s1 ⟨x,H1,I1,r1,q1⟩=>ho pins s1 σ H1 x v Q I1 r1 q1)
theorem opI {f:Value→Value→Sem Value}{C:Int→Int→Prop}{g:Int→Int→Int}
  (rule:∀(i j:Int) (t u:Tok) (s:Shared) (Q:Value→Shared→Prop) (E:Value→Shared→Prop),C i j→Q (.int (g i j) s.toks) { s with toks:=s.toks+1 }→wpAny (model X.prog X.w) X.A (f (.int i t) (.int j u)) Q E s):
  OpR X f (rI C λi j=>.int (g i j)):=by
 intro pins s σ H x y v u Q I rx ry h
 obtain⟨i,j,rfl,rfl,hc,q⟩:=h
 obtain⟨t,rfl⟩:=rx
 obtain⟨t',rfl⟩:=ry
 exact rule i j t t' s _ _ hc ⟨.int (g i j),H,I.tok _,⟨_,rfl⟩,q⟩
theorem opI0 {f:Value→Value→Sem Value}{g:Int→Int→Int}
  (rule:∀(i j:Int) (t u:Tok) (s:Shared) (Q:Value→Shared→Prop) (E:Value→Shared→Prop),Q (.int (g i j) s.toks) { s with toks:=s.toks+1 }→wpAny (model X.prog X.w) X.A (f (.int i t) (.int j u)) Q E s):
  OpR X f (rI0 λi j=>.int (g i j)):=by
 intro pins s σ H x y v u Q I rx ry h
 obtain⟨i,j,rfl,rfl,q⟩:=h
 obtain⟨t,rfl⟩:=rx
 obtain⟨t',rfl⟩:=ry
 exact rule i j t t' s _ _ ⟨.int (g i j),H,I.tok _,⟨_,rfl⟩,q⟩
theorem zmj {f:Value→Value→Sem Value}{g:Int→Int→Bool}
  (rule:∀(i j:Int) (t u:Tok) (s:Shared) (Q:Value→Shared→Prop) (E:Value→Shared→Prop),Q (.bool (g i j)) s→wpAny (model X.prog X.w) X.A (f (.int i t) (.int j u)) Q E s):
  OpR X f (rI0 λi j=>.bl (g i j)):=by
 intro pins s σ H x y v u Q I rx ry h
 obtain⟨i,j,rfl,rfl,q⟩:=h
 obtain⟨t,rfl⟩:=rx
 obtain⟨t',rfl⟩:=ry
 exact rule i j t t' s _ _ ⟨.bl (g i j),H,I,rfl,q⟩
def zjI (i j:Int):Prop:=0≤j∧j≤1000000∧i.natAbs<2^64
theorem zt8:OpR X (binaryOp .Add) (rI0 λi j=>.int (i+j)):=opI0 λ_ _ _ _ _ _ _ q=>add_int q
theorem zuV:OpR X (binaryOp .Sub) (rI0 λi j=>.int (i-j)):=opI0 λ_ _ _ _ _ _ _ q=>sub_int q
theorem ztO:OpR X (binaryOp .Mod) (rI (λ_ j=>0<j) λi j=>.int (i%j)):=opI λi j _ _ _ _ _ hc q=>by
 have h1:(0:Int)<j:=hc
 exact mod_int' (by omega) (by rw[Int.fmod_eq_emod_of_nonneg i (by omega)]; exact q)
theorem zxV:OpR X (binaryOp .Pow) (rI zjI λi j=>.int (i^j.toNat)):=opI λ_ _ _ _ _ _ _ hc q=>pow_int_small hc.1 hc.2.1 hc.2.2 q
theorem zrl:OpR X (binaryOp .LShift) (rI zjI λi j=>.int (i*2^j.toNat)):=opI λ_ _ _ _ _ _ _ hc q=>lshift_int_small hc.1 hc.2.1 hc.2.2 q
theorem unI {f:Value→Sem Value}{g:Int→Int}
  (rule:∀(i:Int) (t:Tok) (s:Shared) (Q:Value→Shared→Prop) (E:Value→Shared→Prop),Q (.int (g i) s.toks) { s with toks:=s.toks+1 }→wpAny (model X.prog X.w) X.A (f (.int i t)) Q E s):
  UnR X f (rU λi=>.int (g i)):=by
 intro pins s σ H x v Q I rx h
 obtain⟨i,rfl,q⟩:=h
 obtain⟨t,rfl⟩:=rx
 exact rule i t s _ _ ⟨.int (g i),H,I.tok _,⟨_,rfl⟩,q⟩
theorem zsH:UnR X (unaryOp .USub) (rU λi=>.int (-i)):=unI λ_ _ _ _ _ q=>neg_int q
end
def zje:V→V→Bool
 | .non,.non=>true | .non,.int _=>true | .int _,.non=>true | .non,.bl _=>true | .bl _,.non=>true | .non,.str _=>true | .str _,.non=>true
 | .int _,.int _=>true | .bl _,.bl _=>true | .str _,.str _=>true | .byt _,.byt _=>true
 | .int _,.str _=>true | .str _,.int _=>true | .bl _,.str _=>true | .str _,.bl _=>true
 | _,_=>false
def rEq:R2:=λx y H Q=>zje x y=true∧Q (.bl (decide (x=y))) H
def rNe:R2:=λx y H Q=>zje x y=true∧Q (.bl (!decide (x=y))) H
theorem zpX {i j:Int}:decide (V.int i=V.int j)=(i==j):=by
 rw[Bool.eq_iff_iff]
 simp
theorem zqC {i j:Bool}:decide (V.bl i=V.bl j)=(i==j):=by
 rw[Bool.eq_iff_iff]
 simp
theorem zqT {i j:Str}:decide (V.str i=V.str j)=(i==j):=by
 rw[Bool.eq_iff_iff]
 simp
theorem zqc {i j:Array UInt8}:decide (V.byt i=V.byt j)=(i.toList==j.toList):=by
 rw[Bool.eq_iff_iff]
 cases i
 cases j
 simp
section
variable {X:Cx}{a b c:Expr}{ta tb tc:TE}{pos:Pos}
theorem za4 {pins:List (Addr×Obj)}{σ:St}{H:Hp}{s:Shared}{Q:VK}{k k':Bool}(I:Inv X pins σ H s)(q:Q (.bl k) H)(e:k=k'):EP X pins σ Q (.bool k') s:=by
 subst e
 exact⟨.bl k,H,I,rfl,q⟩
theorem zor:OpR X (compareOp .Eq) rEq:=by
 intro pins s σ H x y v u Q I rx ry h
 obtain⟨hs,q⟩:=h
 cases x with
 | non=>
  cases rx
  cases y with
  | non=>cases ry; exact PySem.EqNone.eq_none_none (za4 I q (by simp))
  | bl j=>cases ry; exact PySem.EqNone.eq_none_bool (za4 I q (by simp))
  | int j=>obtain⟨t',rfl⟩:=ry; exact PySem.EqNone.eq_none_int (za4 I q (by simp))
  | str j=>obtain⟨t',rfl⟩:=ry; exact PySem.EqNone.eq_none_str (za4 I q (by simp))
  | _=>exact absurd (show false=true from hs) Vak
 | bl i=>
  cases rx
  cases y with
  | non=>cases ry; exact PySem.EqNone.eq_bool_none (za4 I q (by simp))
  | bl j=>cases ry; exact eq_bool (za4 I q zqC)
  | str j=>obtain⟨t',rfl⟩:=ry; exact PySem.EqMixed.eq_bool_str (za4 I q (by simp))
  | _=>exact absurd (show false=true from hs) Vak
 | int i=>
  obtain⟨t,rfl⟩:=rx
  cases y with
  | non=>cases ry; exact PySem.EqNone.eq_int_none (za4 I q (by simp))
  | int j=>obtain⟨t',rfl⟩:=ry; exact eq_int (za4 I q zpX)
  | str j=>obtain⟨t',rfl⟩:=ry; exact PySem.EqMixed.eq_int_str (za4 I q (by simp))
  | _=>exact absurd (show false=true from hs) Vak
 | str i=>
  obtain⟨t,rfl⟩:=rx
  cases y with
  | non=>cases ry; exact PySem.EqNone.eq_str_none (za4 I q (by simp))
  | bl j=>cases ry; exact PySem.EqMixed.eq_str_bool (za4 I q (by simp))
  | int j=>obtain⟨t',rfl⟩:=ry; exact PySem.EqMixed.eq_str_int (za4 I q (by simp))
  | str j=>obtain⟨t',rfl⟩:=ry; exact eq_str (za4 I q zqT)
  | _=>exact absurd (show false=true from hs) Vak
 | byt i=>
  obtain⟨t,rfl⟩:=rx
  cases y with
  | byt j=>obtain⟨t',rfl⟩:=ry; exact PySem.W.eq_bytes (za4 I q zqc)
  | _=>exact absurd (show false=true from hs) Vak
 | _=>cases y <;> exact absurd (show false=true from hs) Vak
theorem op_ne:OpR X (compareOp .NotEq) rNe:=by
 intro pins s σ H x y v u Q I rx ry h
 obtain⟨hs,q⟩:=h
 cases x with
 | non=>
  cases rx
  cases y with
  | non=>cases ry; exact PySem.EqNone.ne_none_none (za4 I q (by simp))
  | bl j=>cases ry; exact PySem.EqNone.ne_none_bool (za4 I q (by simp))
  | int j=>obtain⟨t',rfl⟩:=ry; exact PySem.EqNone.ne_none_int (za4 I q (by simp))
  | str j=>obtain⟨t',rfl⟩:=ry; exact PySem.EqNone.ne_none_str (za4 I q (by simp))
  | _=>exact absurd (show false=true from hs) Vak
 | bl i=>
  cases rx
  cases y with
  | non=>cases ry; exact PySem.EqNone.ne_bool_none (za4 I q (by simp))
  | bl j=>cases ry; exact ne_bool (za4 I q (congrArg not zqC))
  | str j=>obtain⟨t',rfl⟩:=ry; exact PySem.EqMixed.ne_bool_str (za4 I q (by simp))
  | _=>exact absurd (show false=true from hs) Vak
 | int i=>
  obtain⟨t,rfl⟩:=rx
  cases y with
  | non=>cases ry; exact PySem.EqNone.ne_int_none (za4 I q (by simp))
  | int j=>obtain⟨t',rfl⟩:=ry; exact ne_int (za4 I q (congrArg not zpX))
  | str j=>obtain⟨t',rfl⟩:=ry; exact PySem.EqMixed.ne_int_str (za4 I q (by simp))
  | _=>exact absurd (show false=true from hs) Vak
 | str i=>
  obtain⟨t,rfl⟩:=rx
  cases y with
  | non=>cases ry; exact PySem.EqNone.ne_str_none (za4 I q (by simp))
  | bl j=>cases ry; exact PySem.EqMixed.ne_str_bool (za4 I q (by simp))
  | int j=>obtain⟨t',rfl⟩:=ry; exact PySem.EqMixed.ne_str_int (za4 I q (by simp))
  | str j=>obtain⟨t',rfl⟩:=ry; exact ne_str (za4 I q (congrArg not zqT))
  | _=>exact absurd (show false=true from hs) Vak
 | byt i=>
  obtain⟨t,rfl⟩:=rx
  cases y with
  | byt j=>obtain⟨t',rfl⟩:=ry; exact PySem.W.ne_bytes (za4 I q (congrArg not zqc))
  | _=>exact absurd (show false=true from hs) Vak
 | _=>cases y <;> exact absurd (show false=true from hs) Vak
theorem op_lt:OpR X (compareOp .Lt) (rI0 λi j=>.bl (decide (i<j))):=zmj λ_ _ _ _ _ _ _ q=>lt_int q
theorem op_le:OpR X (compareOp .LtE) (rI0 λi j=>.bl (decide (i≤j))):=zmj λ_ _ _ _ _ _ _ q=>le_int q
theorem op_gt:OpR X (compareOp .Gt) (rI0 λi j=>.bl (decide (j<i))):=zmj λ_ _ _ _ _ _ _ q=>gt_int q
theorem op_ge:OpR X (compareOp .GtE) (rI0 λi j=>.bl (decide (j≤i))):=zmj λ_ _ _ _ _ _ _ q=>ge_int q
theorem ztC:OpR X (compareOp .Is) (λx y H Q=>y=.non∧Q (.bl (decide (x=.non))) H):=by
 intro pins s σ H x y v u Q I rx ry h
 obtain⟨rfl,q⟩:=h
 cases ry
 refine is_none_gen (za4 I q ?_)
 cases x <;> first
  | (cases rx; rfl)
  | (obtain⟨t,rfl⟩:=rx; rfl)
theorem zvJ:OpR X (compareOp .IsNot) (λx y H Q=>y=.non∧Q (.bl (!decide (x=.non))) H):=by
 intro pins s σ H x y v u Q I rx ry h
 obtain⟨rfl,q⟩:=h
 cases ry
 refine isnot_none_gen (za4 I q ?_)
 cases x <;> first
  | (cases rx; rfl)
  | (obtain⟨t,rfl⟩:=rx; rfl)
theorem zap (b:Expr){op:CmpOp}(h:op≠.In:=by decide)(h2:op≠.NotIn:=by decide):behindInMarks op b=false:=by
 have e1:(op==CmpOp.In)=false:=by cases op <;> first | rfl | exact absurd rfl h
 have e2:(op==CmpOp.NotIn)=false:=by cases op <;> first | rfl | exact absurd rfl h2
 cases b <;> simp[behindInMarks,e1,e2]
theorem zv2 {op:CmpOp}{r:R2}(ho:OpR X (compareOp op) r)(ha:PE X a ta)(hb:PE X b tb)(hm:behindInMarks op b=false):PE X (.Compare a [op] [b] pos) (tOp r ta tb):=by
 intro pins s σ H Q I h
 exact wpAny_Compare1 (binT ha hb I h λv u s2 x y H2 I2 rx ry q=>ho pins s2 σ H2 x y v u Q I2 rx ry q) hm
def zqe (t:TE):TT:=λσ H Q=>t σ H λx H'=>∃k,x=.bl k∧Q k H'
theorem zwn {op:CmpOp}{r:R2}(ho:OpR X (compareOp op) r)(ha:PE X a ta)(hb:PE X b tb)(hm:behindInMarks op b=false):PT X (.Compare a [op] [b] pos) (zqe (tOp r ta tb)):=by
 intro pins s σ H Q I h
 refine wpAny_isTrue_Compare1 (thn (ha pins s σ H _ I h) λv s1 ⟨x,H1,I1,r1,q1⟩=>thn (hb pins s1 σ H1 _ I1 q1) λu s2 ⟨y,H2,I2,r2,q2⟩=>
  thn (ho pins s2 σ H2 x y v u _ I2 r1 r2 q2) λc s3 ⟨z,H3,I3,r3,k,e,q3⟩=>?_) hm
 subst e
 cases r3
 exact wpAny_truthy_bool ⟨H3,I3,q3⟩
def zoF (r r':R2)(ta tb tc:TE):TE:=λσ H Q=>ta σ H λx H1=>tb σ H1 λy H2=>r x y H2 λz H3=>∃k,z=.bl k∧
 (if k=true then tc σ H3 λw' H4=>r' y w' H4 Q else Q (.bl false) H3)
theorem zw4 {op op':CmpOp}{r r':R2}(ho:OpR X (compareOp op) r)(ho':OpR X (compareOp op') r')(ha:PE X a ta)(hb:PE X b tb)(hc:PE X c tc)
  (hm:lastMarks [op,op'] [b,c]=false:=by with_unfolding_all rfl):PE X (.Compare a [op,op'] [b,c] pos) (zoF r r' ta tb tc):=by
 intro pins s σ H Q I h
 refine Compare_chain (thn (ha pins s σ H _ I h) λv s1 ⟨x,H1,I1,r1,q1⟩=>chain_link (thn (hb pins s1 σ H1 _ I1 q1) λu s2 ⟨y,H2,I2,r2,q2⟩=>
  thn (ho pins s2 σ H2 x y v u _ I2 r1 r2 q2) λd s3 ⟨z,H3,I3,r3,k,e,q3⟩=>?_)) hm
 subst e
 cases r3
 refine wpAny_truthy_bool ?_
 cases k with
 | false=>exact ite_ff ⟨.bl false,H3,I3,rfl,q3⟩
 | true=>exact ite_tt (chain_last (thn (hc pins s3 σ H3 _ I3 q3) λw' s4 ⟨z',H4,I4,r4,q4⟩=>ho' pins s4 σ H4 y z' u w' Q I4 r2 r4 q4))
theorem zr2 {op op':CmpOp}{r r':R2}(ho:OpR X (compareOp op) r)(ho':OpR X (compareOp op') r')(ha:PE X a ta)(hb:PE X b tb)(hc:PE X c tc)
  (hm:lastMarks [op,op'] [b,c]=false:=by with_unfolding_all rfl):PT X (.Compare a [op,op'] [b,c] pos) (zqe (zoF r r' ta tb tc)):=by
 intro pins s σ H Q I h
 refine isTrue_chain (thn (ha pins s σ H _ I h) λv s1 ⟨x,H1,I1,r1,q1⟩=>test_link (thn (hb pins s1 σ H1 _ I1 q1) λu s2 ⟨y,H2,I2,r2,q2⟩=>
  thn (ho pins s2 σ H2 x y v u _ I2 r1 r2 q2) λd s3 ⟨z,H3,I3,r3,k,e,q3⟩=>?_)) hm
 subst e
 cases r3
 refine wpAny_truthy_bool ?_
 cases k with
 | false=>
  obtain⟨k',e',q'⟩:=q3
  cases e'
  exact ite_ff ⟨H3,I3,q'⟩
 | true=>
  refine ite_tt (test_last (thn (hc pins s3 σ H3 _ I3 q3) λw' s4 ⟨z',H4,I4,r4,q4⟩=>thn (ho' pins s4 σ H4 y z' u w' _ I4 r2 r4 q4) λd' s5 ⟨z2,H5,I5,r5,k2,e2,q5⟩=>?_))
  subst e2
  cases r5
  exact wpAny_truthy_bool ⟨H5,I5,q5⟩
theorem zhj:(sizeLine:Nat)<2^63:=by rw[sizeLine_eq]; decide
theorem zeU {x:V}{us:List Value}(r:zaD [x] us):∃u,us=[u]∧zaz x u:=by
 cases r with
 | cons r1 r2=>cases r2; exact⟨_,rfl,r1⟩
theorem znK {x y:V}{us:List Value}(r:zaD [x,y] us):∃u w',us=[u,w']∧zaz x u∧zaz y w':=by
 cases r with
 | cons r1 r2=>
  cases r2 with
  | cons r3 r4=>cases r4; exact⟨_,_,rfl,r1,r3⟩
theorem zvh:zbt X (.builtin "abs") (λxs H Q=>∃i,xs=[.int i]∧Q (.int (if i<0 then -i else i)) H):=by
 intro pins s σ H xs us Q I r h
 obtain⟨i,rfl,q⟩:=h
 obtain⟨u,rfl,t,rfl⟩:=zeU r
 exact call_abs_int λu tk=>⟨.int (if i<0 then -i else i),H,I.tok _,⟨_,rfl⟩,q⟩
theorem zuQ (hc:X.calm=true):zbt X (.builtin "max") (λxs H Q=>∃i j,xs=[.int i,.int j]∧Q (.int (if j > i then j else i)) H):=by
 intro pins s σ H xs us Q I r h
 obtain⟨i,j,rfl,q⟩:=h
 obtain⟨u,w',rfl,⟨t,rfl⟩,⟨t',rfl⟩⟩:=znK r
 refine max_two_ints (I.ok.hd hc) λh' tk k=>⟨_,H,I.kept k,?_,q⟩
 by_cases hj:j > i
 ·rw[if_pos hj,if_pos hj]; exact⟨_,rfl⟩
 ·rw[if_neg hj,if_neg hj]; exact⟨_,rfl⟩
theorem zsi (hc:X.calm=true):zbt X (.builtin "min") (λxs H Q=>∃i j,xs=[.int i,.int j]∧Q (.int (if j<i then j else i)) H):=by
 intro pins s σ H xs us Q I r h
 obtain⟨i,j,rfl,q⟩:=h
 obtain⟨u,w',rfl,⟨t,rfl⟩,⟨t',rfl⟩⟩:=znK r
 refine min_two_ints (I.ok.hd hc) λh' tk k=>⟨_,H,I.kept k,?_,q⟩
 by_cases hj:j<i
 ·rw[if_pos hj,if_pos hj]; exact⟨_,rfl⟩
 ·rw[if_neg hj,if_neg hj]; exact⟨_,rfl⟩
end
end L2
namespace L2
open PySem PySem.Spec PyProof.Rows
structure zdS (h:Heap)(x dx C:Addr)(mA:Str→Option Value):Prop where
 obj:h.get? x=some (PySem.W.instObj C dx)
 ns:h.Ns1 dx mA
 ne:dx≠x
theorem zuC {h:Heap}{dx:Addr}{mA:Str→Option Value}(n:h.Ns1 dx mA):∃od,h.get? dx=some od∧∀name,PySem.W.lookIn name od=some (mA name):=by
 obtain⟨o,es,ep,ho,hd,hk,_,hm⟩:=n
 refine⟨o,ho,λname=>?_⟩
 have e:=hm name
 unfold nsFind findBy at e
 rw[← Array.find?_toList] at e
 unfold PySem.W.lookIn
 rw[hd]
 dsimp only
 split
 ·rename_i y q
  rw[q] at e
  exact congrArg some e
 ·rename_i q
  rw[q] at e
  have a:es.toList.any (·.refKey)=false:=by
   rw[List.any_eq_false]
   intro y hy
   obtain⟨z,t,hkey⟩:=hk y (Array.mem_toList_iff.mp hy)
   simp[DictEntry.refKey,hkey]
  have a':¬ es.toList.any (·.refKey)=true:=by rw[a]; exact Vak
  rw[if_neg a']
  exact congrArg some e
theorem zdS.look {h:Heap}{x dx C:Addr}{mA:Str→Option Value}(I:zdS h x dx C mA):∃od,PySem.W.InstAt h x (PySem.W.instObj C dx) C (some od)∧∀name,PySem.W.lookIn name od=some (mA name):=
 let ⟨od,ho,hl⟩:=zuC I.ns
 ⟨od,⟨I.obj,rfl,rfl,ho⟩,hl⟩
section
variable {prog:Program}{w:World}{A:Around}{E:Value→Shared→Prop}{s:Shared}{K:PySem.W.Frag}{x dx C f:Addr}{mA:Str→Option Value}{name:Str}{v:Value}
theorem zu8 {expr:Bool}{Q:Value→Shared→Prop}(X:K.In s.heap)(I:zdS s.heap x dx C mA)(hg:PySem.W.plainGet K C name=true)(hh:PySem.W.hasDictIn K C=true)
  (ha:PySem.W.findIn K (.ref C) name=some none)(hv:mA name=some v)(hv':PySem.W.handedIn v=true)(h:Q v { s with toks:=s.toks+1 }):
  wpAny (model prog w) A (getAttr (.ref x) name expr) Q E s:=by
 obtain⟨od,J,hl⟩:=I.look
 exact PySem.W.get_value X J (PySem.W.plainGet_of hg).1 (PySem.W.findObj_own hh ha rfl (by rw[hl,hv])) hv' h
theorem zxS {pl:Sem Bool}{Q:Value×List Value→Shared→Prop}(X:K.In s.heap)(I:zdS s.heap x dx C mA)(hg:PySem.W.plainGet K C name=true)
  (hf:PySem.W.findIn K (.ref C) name=some (some (.ref f)))(ht:PySem.W.isFn K (.ref f)=true)(hv:mA name=none)(h:Q (.ref f,[.ref x]) s):
  wpAny (model prog w) A (getMethod (.ref x) name pl) Q E s:=by
 obtain⟨od,J,hl⟩:=I.look
 exact PySem.W.method_fn X J (PySem.W.plainGet_of hg).1 (PySem.W.plainGet_of hg).2 hf (beq_iff_eq.mp ht) (by show (PySem.W.lookIn name od).map (·.isSome)=some false; rw[hl,hv]; rfl) h
theorem zwD {ns:List Str}{Q:Unit→Shared→Prop}(X:K.In s.heap)(I:zdS s.heap x dx C mA)
  (hs:PySem.W.findIn K (.ref C) "__setattr__"=some (some (.builtin "object.__setattr__")))(hp:PySem.W.plainOver K C=true)(ht:PySem.W.takerIn K C name=some none)(hh:PySem.W.hasDictIn K C=true)
  (hw:PySem.Within mA ns)(hsz:ns.length≤sizeLine)
  (h:∀h',zdS h' x dx C (λy=>if y=name then some v else mA y)→Heap.SameBut dx s.heap h'→Q () { s with heap:=h',toks:=s.toks+2 }):
  wpAny (model prog w) A (setAttr (.ref x) name v) Q E s:=by
 obtain⟨od,J,hl⟩:=I.look
 refine PySem.W.set_plain X J hs (PySem.W.osa_open (s:={ s with toks:=s.toks+1 }) (r:=none) X J hp ht λb=>?_)
 obtain⟨cd,hc,hd'⟩:=PySem.W.any_some hh
 have hx:s.heap.get? x=some ⟨.ref C,some dx,.plain,#[]⟩:=I.obj
 refine wpAny_bind (wpAny_pure (wpAny_bind (wpAny_bind (wpAny_loadPart hx (wpAny_bind (PySem.W.Looks.here (s:={ s with toks:=s.toks+1 }) (PySem.W.looks_clsIn X hc) ?_))))))
 rw[hd']
 refine wpAny_pure (a:=some dx) (wpAny_bind (wpAny_pure (wpAny_bind ?_)))
 refine wpAny_nsSet1 (s:={ s with toks:=s.toks+1 }) I.ns λh' hn2 hs2=>?_
 obtain⟨oD,esD,epD,hoD,hdD,hcD⟩:=hn2.count (PySem.Within.cons name v hw)
 refine wpAny_bind (wpAny_lookBehind hoD (by rw[hdD]; exact pastItsLine_dict (VaC hcD (by rw[VaK]; omega))) ?_)
 exact wpAny_pure (h _ ⟨(hs2.2 _ (Ne.symm I.ne)).trans I.obj,hn2,I.ne⟩ hs2)
theorem zs0 {R:Result→Shared→Prop}{vs:List Value}{kw:List (Str×Value)}(X:K.In s.heap)(hm:PySem.W.makesIn K C=true)
  (hi:PySem.W.findIn K (.ref C) "__init__"=some (some (.ref f)))(hf:PySem.W.typeIn K (.ref f)=some (.type "function"))
  (h:codeAny (model prog w) (A.under (.builtin "type.__call__" ⟨.ref C::vs,kw⟩)) (.call (.ref f) ⟨.ref (s.heap.objs.size+1)::vs,kw⟩) (PySem.W.InitBack (s.heap.objs.size+1) R)
   { s with heap:=(s.heap.push PySem.W.emptyDict).push (PySem.W.instObj C s.heap.objs.size) }):
  codeAny (model prog w) A (.call (.ref C) ⟨vs,kw⟩) R s:=by
 obtain⟨hh,g,d,t,os⟩:=s
 exact PySem.W.make_core (PySem.W.makes_of X hm) (PySem.W.looks_findIn X hi) (λself=>PySem.W.bind_fn X self hf) (.inl rfl) h
end
def zbx (f:Str)(v:V):List (Str×V)→List (Str×V)
 | []=>[(f,v)]
 | (g,x)::r=>if g=f then (g,v)::r else (g,x)::zbx f v r
theorem zpn (f g:Str)(v:V):∀fs:List (Str×V),(zbx f v fs).lookup g=if g=f then some v else fs.lookup g
 | []=>by
  show List.lookup g [(f,v)]=_
  by_cases h:g=f
  ·have hb:(g==f)=true:=beq_iff_eq.mpr h
   simp only[List.lookup,hb,if_pos h]
  ·have hb:(g==f)=false:=beq_eq_false_iff_ne.mpr h
   simp only[List.lookup,hb,if_neg h]
 | (k,x)::r=>by
  have ih:=zpn f g v r
  rw[show zbx f v ((k,x)::r)=(if k=f then (k,v)::r else (k,x)::zbx f v r) from rfl]
  by_cases hk:k=f
  ·rw[if_pos hk]
   by_cases h:g=k
   ·have hb:(g==k)=true:=beq_iff_eq.mpr h
    simp only[List.lookup,hb,if_pos (h.trans hk)]
   ·have hb:(g==k)=false:=beq_eq_false_iff_ne.mpr h
    simp only[List.lookup,hb,if_neg (λe:g=f=>h (e.trans hk.symm))]
  ·rw[if_neg hk]
   by_cases h:g=k
   ·have hb:(g==k)=true:=beq_iff_eq.mpr h
    simp only[List.lookup,hb,if_neg (λe:g=f=>hk (h.symm.trans e))]
   ·have hb:(g==k)=false:=beq_eq_false_iff_ne.mpr h
    simp only[List.lookup,hb]
    exact ih
theorem zn0 (f:Str)(v:V):∀fs:List (Str×V),f∈(zbx f v fs).map (·.1)∧∀g,g∈fs.map (·.1)→g∈(zbx f v fs).map (·.1)
 | []=>⟨by simp[zbx],λg h=>by simp at h⟩
 | (k,x)::r=>by
  obtain⟨i1,i2⟩:=zn0 f v r
  rw[show zbx f v ((k,x)::r)=(if k=f then (k,v)::r else (k,x)::zbx f v r) from rfl]
  by_cases hk:k=f
  ·rw[if_pos hk]
   subst hk
   exact⟨by simp,λg h=>by simpa using h⟩
  ·rw[if_neg hk]
   refine⟨?_,λg h=>?_⟩
   ·rw[VaB]
    exact VaD _ i1
   ·rw[VaB] at h ⊢
    rcases Vad.mp h with e | e
    ·exact Vad.mpr (.inl e)
    ·exact VaD _ (i2 g e)
theorem zqI (f:Str)(v:V):∀fs:List (Str×V),(zbx f v fs).length≤fs.length+1
 | []=>by simp[zbx]
 | (k,x)::r=>by
  have ih:=zqI f v r
  rw[show zbx f v ((k,x)::r)=(if k=f then (k,v)::r else (k,x)::zbx f v r) from rfl]
  by_cases hk:k=f
  ·rw[if_pos hk,VaK,VaK]; omega
  ·rw[if_neg hk,VaK,VaK]; omega
theorem zcN.some_of {v:V}{o:Option Value}(r:zcN (some v) o):∃u,o=some u∧zaz v u:=by
 cases o with
 | none=>exact(show False from r).elim
 | some u=>exact⟨u,rfl,r⟩
theorem zcN.none_of {o:Option Value}(r:zcN none o):o=none:=by
 cases o with
 | none=>rfl
 | some u=>exact(show False from r).elim
theorem zus {v:V}{u:Value}(r:zaz v u):PySem.W.handedIn u=true:=by
 cases v with
 | non=>cases (show u=Value.none from r); rfl
 | bl b=>cases (show u=Value.bool b from r); rfl
 | int i=>obtain⟨t,e⟩:=(show ∃t,u=Value.int i t from r); cases e; rfl
 | str x=>obtain⟨t,e⟩:=(show ∃t,u=Value.str x t from r); cases e; rfl
 | byt b=>obtain⟨t,e⟩:=(show ∃t,u=Value.bytes b t from r); cases e; rfl
 | flt b=>obtain⟨t,e⟩:=(show ∃t,u=Value.float b t from r); cases e; rfl
 | ref a=>cases (show u=Value.ref a from r); rfl
 | ty n=>cases (show u=Value.type n from r); rfl
section
variable {P:Program}{w:World}{H H':Hp}{h h':Heap}{a C dx:Addr}{fs fs':List (Str×V)}
theorem zmK (hok:HOk P w H h)(e:H a=some (.ins C dx fs)):∃mA,zdS h a dx C mA∧(∀f,zcN (fs.lookup f) (mA f))∧PySem.Within mA (fs.map (·.1))∧fs.length≤1000∧H dx=some (.own a):=by
 obtain⟨d,z,ne,ob,mA,n,r,q⟩:=(show zbp P w H h a (.ins C dx fs) from hok a _ e)
 exact⟨mA,⟨ob,n,ne⟩,r,q,z,d⟩
end
structure Cls (K:PySem.W.Frag)(C:Addr):Prop where
 pg:PySem.W.plainGet K C Str.empty=true
 hd:PySem.W.hasDictIn K C=true
 po:PySem.W.plainOver K C=true
 sa:PySem.W.findIn K (.ref C) "__setattr__"=some (some (.builtin "object.__setattr__"))
theorem Cls.get {K:PySem.W.Frag}{C:Addr}(c:Cls K C)(f:Str):PySem.W.plainGet K C f=true:=c.pg
def zbr (K:PySem.W.Frag)(C:Addr)(f:Str):Prop:=PySem.W.findIn K (.ref C) f=some none
theorem zbr.taker {K:PySem.W.Frag}{C:Addr}{f:Str}(n:zbr K C f):PySem.W.takerIn K C f=some none:=by
 unfold PySem.W.takerIn
 rw[show PySem.W.findIn K (.ref C) f=some none from n]
 rfl
structure zeP (K:PySem.W.Frag)(C:Addr)(m:Str)(f:Addr):Prop where
 at_:PySem.W.findIn K (.ref C) m=some (some (.ref f))
 fn:PySem.W.isFn K (.ref f)=true
 kp:PySem.W.keepIn K (.ref f)=true
section
variable {X:Cx}{pins:List (Addr×Obj)}{σ:St}{H:Hp}{s:Shared}{a C dx:Addr}{fs:List (Str×V)}{f:Str}{v:V}{A:Around}{E:Value→Shared→Prop}
theorem zts {b:Bool}{Q:Value→Shared→Prop}(I:Inv X pins σ H s)(e:H a=some (.ins C dx fs))(c:Cls X.K C)(n:zbr X.K C f)(l:fs.lookup f=some v)
  (h:∀u s',Inv X pins σ H s'→zaz v u→Q u s'):wpAny (model X.prog X.w) A (getAttr (.ref a) f b) Q E s:=by
 obtain⟨mA,O,r,_,_,_⟩:=zmK I.hok e
 obtain⟨u,hu,ru⟩:=zcN.some_of (v:=v) (o:=mA f) (by rw[← l]; exact r f)
 exact zu8 I.kIn O (c.get f) c.hd n hu (zus ru) (h u _ (I.tok _) ru)
theorem zqO {m:Str}{g:Addr}{pl:Sem Bool}{Q:Value×List Value→Shared→Prop}(I:Inv X pins σ H s)(e:H a=some (.ins C dx fs))(c:Cls X.K C)(k:zeP X.K C m g)(l:fs.lookup m=none)
  (h:Q (.ref g,[.ref a]) s):wpAny (model X.prog X.w) A (getMethod (.ref a) m pl) Q E s:=by
 obtain⟨mA,O,r,_,_,_⟩:=zmK I.hok e
 have hn:mA m=none:=zcN.none_of (by rw[← l]; exact r m)
 exact zxS I.kIn O (c.get m) k.at_ k.fn hn h
theorem ztu {y:V}{u:Value}{Q:Unit→Shared→Prop}(I:Inv X pins σ H s)(e:H a=some (.ins C dx fs))(c:Cls X.K C)(n:zbr X.K C f)(hl:fs.length<1000)(ry:zaz y u)
  (h:∀s',Inv X pins σ (upd H a (.ins C dx (zbx f y fs))) s'→Q () s'):wpAny (model X.prog X.w) A (setAttr (.ref a) f u) Q E s:=by
 obtain⟨mA,O,r,wi,_,ho⟩:=zmK I.hok e
 have hz:(fs.map (·.1)).length≤sizeLine:=by rw[Vaa,sizeLine_eq]; omega
 refine zwD I.kIn O c.sa c.po n.taker c.hd wi hz λh' O' sb=>h _ ?_
 have hd:∃o,h'.get? dx=some o:=let ⟨o,_,_,e',_⟩:=O'.ns; ⟨o,e'⟩
 refine I.write (x:=a) (e:=dx) (by rw[e]; exact True.intro) (.inr ho) (λb q hb z=>(sb.2 b hb).trans z) hd ?_
 refine⟨by rw[zbc O.ne]; exact ho,?_,O.ne,O'.obj,_,O'.ns,λg=>?_,λg hg=>?_⟩
 ·have:=zqI f y fs; omega
 ·show zcN ((zbx f y fs).lookup g) (if g=f then some u else mA g)
  rw[zpn]
  by_cases q:g=f
  ·rw[if_pos q,if_pos q]; exact ry
  ·rw[if_neg q,if_neg q]; exact r g
 ·by_cases q:g=f
  ·rw[q]; exact(zn0 f y fs).1
  ·refine(zn0 f y fs).2 g (wi g λz=>hg ?_)
   show (if g=f then some u else mA g)=none
   rw[if_neg q]; exact z
theorem Inv.made (I:Inv X pins σ H s):Inv X pins σ (upd (upd H s.heap.objs.size (.own (s.heap.objs.size+1))) (s.heap.objs.size+1) (.ins C s.heap.objs.size []))
  { s with heap:=(s.heap.push PySem.W.emptyDict).push (PySem.W.instObj C s.heap.objs.size) }:=by
 have e1:(s.heap.push PySem.W.emptyDict).get? s.heap.objs.size=some PySem.W.emptyDict:=Heap.get?_push_size s.heap rfl
 have e2:((s.heap.push PySem.W.emptyDict).push (PySem.W.instObj C s.heap.objs.size)).get? (s.heap.objs.size+1)=some (PySem.W.instObj C s.heap.objs.size):=by
  have:=Heap.get?_push_size (s.heap.push PySem.W.emptyDict) (o:=PySem.W.instObj C s.heap.objs.size) rfl
  rwa [Heap.size_push] at this
 have e3:(s.heap.push PySem.W.emptyDict).Ns s.heap.objs.size (λ_=>none):=⟨PySem.W.emptyDict,#[],_,e1,rfl,(λe he=>absurd he (by simp)),λ_=>rfl⟩
 have I1:=I.laid (a:=s.heap.objs.size) (o:=.own (s.heap.objs.size+1)) (h':=s.heap.push PySem.W.emptyDict) (t':=s.toks) (λb u q=>Heap.get?_push_of_some _ q) (Vab _) ⟨_,e1⟩
 refine I1.laid (a:=s.heap.objs.size+1) (o:=.ins C s.heap.objs.size []) (t':=s.toks) (λb u q=>Heap.get?_push_of_some _ q) (Nat.le_of_eq (Heap.size_push _ _)) ?_
 have ne:s.heap.objs.size≠s.heap.objs.size+1:=Vao (Nat.lt_succ_self _)
 refine⟨by rw[zbc ne,zcL],Vau _,ne,e2,λ_=>none,(Heap.Ns1.of_empty e3).at λo q=>Heap.get?_push_of_some _ q,λ_=>True.intro,λy hy=>absurd rfl hy⟩
theorem zxa {prog:Program}{w:World}{env:Env}{e:Expr}{f:Str}{pos:Pos}{s:Shared}{Q:Value→Shared→Prop}(hb:attributeBase e f env (eval e env)=eval e env)
  (h:wpAny (model prog w) A (eval e env) (λo s₁=>wpAny (model prog w) A (getAttr o f true) Q E s₁) E s):wpAny (model prog w) A (eval (.Attribute e f pos) env) Q E s:=
 Attribute_any_ h (by rw[arm_eval_Attribute,hb])
end
def tFld (K:PySem.W.Frag)(ta:TE)(f:Str):TE:=λσ H Q=>ta σ H λx H1=>∃a C dx fs v,x=.ref a∧H1 a=some (.ins C dx fs)∧Cls K C∧zbr K C f∧fs.lookup f=some v∧Q v H1
def sFld (K:PySem.W.Frag)(ta tv:TE)(f:Str):TS:=λD σ H=>tv σ H λy H1=>ta σ H1 λx H2=>∃a C dx fs,x=.ref a∧H2 a=some (.ins C dx fs)∧Cls K C∧zbr K C f∧fs.length<1000∧
 D.nx σ (upd H2 a (.ins C dx (zbx f y fs)))
section
variable {X:Cx}{o e value:Expr}{f:Str}{pos pos' tpos:Pos}{ta tv:TE}
theorem zuM (he:PE X e ta)(hb:attributeBase e f X.env (eval e X.env)=eval e X.env):PE X (.Attribute e f pos) (tFld X.K ta f):=by
 intro pins s σ H Q I h
 refine zxa hb (thn (he pins s σ H _ I h) λu s1 ⟨x,H1,I1,rx,a,C,dx,fs,v,ex,ea,c,n,l,q⟩=>?_)
 subst ex
 obtain rfl:u=Value.ref a:=rx
 exact zts I1 ea c n l λu' s2 I2 ru=>⟨v,H1,I2,ru,q⟩
theorem zxj (ha:PE X o ta)(hv:PE X value tv)(hs:swapsWith value (some (.Attribute o f pos')) pos.line X.env=pure false):PS X (.Assign [.Attribute o f pos'] value pos) (sFld X.K ta tv f):=by
 intro pins s σ H D I h
 refine plainObj_wpAny_Assign_Attribute (thn (hv pins s σ H _ I h) λu s1 ⟨y,H1,I1,ry,q⟩=>thn (ha pins s1 σ H1 _ I1 q) λov s2 ⟨x,H2,I2,rx,a,C,dx,fs,ex,ea,c,n,l,q2⟩=>?_) hs
 subst ex
 obtain rfl:ov=Value.ref a:=rx
 exact ztu I2 ea c n l ry λs3 I3=>⟨σ,_,I3,q2⟩
end
section
variable {X:Cx}{pins:List (Addr×Obj)}{σ:St}{H:Hp}{s:Shared}{A:Around}{E:Value→Shared→Prop}{Q:Value→Shared→Prop}{c:Value}{b:Bool}
inductive zb7 (K:PySem.W.Frag)(H:Hp):V→Value→Prop where
 | non:zb7 K H .non (.type "NoneType")
 | bl (x:Bool):zb7 K H (.bl x) (.type "bool")
 | int (i:Int):zb7 K H (.int i) (.type "int")
 | str (x:Str):zb7 K H (.str x) (.type "str")
 | flt (x:UInt64):zb7 K H (.flt x) (.type "float")
 | lst {a:Addr} {xs:List V} (e:H a=some (.lst xs)):zb7 K H (.ref a) (.type "list")
 | frz {a:Addr} {o:Obj} {xs:List V} (e:H a=some (.frz o (.lst xs))):zb7 K H (.ref a) (.type "list")
 | tup {a:Addr} {xs:List V} (e:H a=some (.tup xs)):zb7 K H (.ref a) (.type "tuple")
 | dK {a:Addr} {kvs:List (Key×V)} (e:H a=some (.dK kvs)):zb7 K H (.ref a) (.type "dict")
 | dT {a:Addr} {kvs:List (List Key×V)} (e:H a=some (.dT kvs)):zb7 K H (.ref a) (.type "dict")
 | ins {a C dx:Addr} {fs:List (Str×V)} (e:H a=some (.ins C dx fs)) (cl:Cls K C) (ha:PySem.W.findIn K (.ref C) "__class__"=some (some (.builtin "object.__class__")))
   (hn:PySem.W.specialIn K (.builtin "object.__class__") "__get__"=some (some (.builtin "getset_descriptor.__get__"))) (htk:PySem.W.takesIn K (.builtin "object.__class__")=some true)
   (hm:PySem.W.mroIn K C (.type "object")=some true):zb7 K H (.ref a) (.ref C)
theorem zuL {x:V}{u t:Value}(I:Inv X pins σ H s)(rx:zaz x u)(ty:zb7 X.K H x t)(e:PySem.W.kitOne X.K t c=some b)(h:∀tk,Q (.bool b) { s with toks:=tk }):
  wpAny (model X.prog X.w) A (call (.builtin "isinstance") [u,c]) Q E s:=by
 cases ty with
 | non=>cases (show u=Value.none from rx); exact PySem.W.kia_one PySem.W.kitx_none I.kIn True.intro e (λz=>nomatch z) h
 | bl y=>cases (show u=Value.bool y from rx); exact PySem.W.kia_one PySem.W.kitx_bool I.kIn True.intro e (λz=>nomatch z) h
 | int i=>obtain⟨t,q⟩:=(show ∃t,u=Value.int i t from rx); cases q; exact PySem.W.kia_one PySem.W.kitx_int I.kIn True.intro e (λz=>nomatch z) h
 | str y=>obtain⟨t,q⟩:=(show ∃t,u=Value.str y t from rx); cases q; exact PySem.W.kia_one PySem.W.kitx_str I.kIn True.intro e (λz=>nomatch z) h
 | flt y=>obtain⟨t,q⟩:=(show ∃t,u=Value.float y t from rx); cases q; exact PySem.W.kia_one PySem.W.kitx_float I.kIn True.intro e (λz=>nomatch z) h
 | @lst a xs ea=>
  cases (show u=Value.ref a from rx)
  obtain⟨_,_,n,_,h1⟩:=(show zbp X.prog X.w H s.heap a (.lst xs) from I.hok a _ ea)
  exact PySem.W.kia_one PySem.W.kitx_list I.kIn ⟨_,h1,rfl⟩ e (λz=>nomatch z) h
 | @frz a ob xs ea=>
  cases (show u=Value.ref a from rx)
  obtain⟨_,_,_,n,_,h1⟩:=(show zbp X.prog X.w H s.heap a (.frz ob (.lst xs)) from I.hok a _ ea)
  exact PySem.W.kia_one PySem.W.kitx_list I.kIn ⟨_,h1,rfl⟩ e (λz=>nomatch z) h
 | @tup a xs ea=>
  cases (show u=Value.ref a from rx)
  obtain⟨_,_,_,p⟩:=(show zbp X.prog X.w H s.heap a (.tup xs) from I.hok a _ ea)
  obtain⟨o,h1,h2,_⟩:=p
  exact PySem.W.kia_one PySem.W.kitx_tuple I.kIn ⟨o,h1,h2⟩ e (λz=>nomatch z) h
 | @dK a kvs ea=>
  cases (show u=Value.ref a from rx)
  obtain⟨_,_,vs,_,p⟩:=(show zbp X.prog X.w H s.heap a (.dK kvs) from I.hok a _ ea)
  obtain⟨o,es,ep,h1,h2,_⟩:=p
  exact PySem.W.kia_one PySem.W.kitx_dict I.kIn ⟨o,h1,h2.1⟩ e (λz=>nomatch z) h
 | @dT a kvs ea=>
  cases (show u=Value.ref a from rx)
  obtain⟨_,_,xs,_,o,es,ep,h1,h2,_⟩:=(show zbp X.prog X.w H s.heap a (.dT kvs) from I.hok a _ ea)
  exact PySem.W.kia_one PySem.W.kitx_dict I.kIn ⟨o,h1,h2.1⟩ e (λz=>nomatch z) h
 | @ins a C dx fs ea cl ha hn htk hm=>
  cases (show u=Value.ref a from rx)
  obtain⟨mA,O,_⟩:=zmK I.hok ea
  obtain⟨od,J,_⟩:=O.look
  exact PySem.W.kia_one (PySem.W.kitx_own (cl.get _) cl.hd ha hn htk hm) I.kIn J e (λz=>nomatch z) h
end
end L2
namespace L2
open PySem PySem.Spec PyProof.Rows
structure zaU (k:Nat)(A:Around):Prop where
 hd:A.handled=none
 dp:A.depth+3*k+5<recursionLimit
 un:A.units+16*k+200<cLine
theorem zaU.mono {j k:Nat}{A:Around}(r:zaU k A)(h:j≤k):zaU j A:=⟨r.hd,by have:=r.dp; omega,by have:=r.un; omega⟩
theorem zaU.deeper {k:Nat}{A:Around}(r:zaU (k+1) A)(env:Env):zaU k (A.deeper env):=
 ⟨r.hd,by have:=r.dp; show A.depth+1+3*k+5<_; omega,by have:=r.un; show A.units+3+16*k+200<_; omega⟩
theorem zvP {A:Around}{C:Addr}{us:List Value}{kw:List (Str×Value)}:(A.under (.builtin "type.__call__" ⟨.ref C::us,kw⟩)).depth=A.depth+1:=by
 first | rfl | simp[Around.under,Code.weight,Code.isCreation,Code.isGuard,Code.isCaller,Code.frames,Code.isFrame,guardIds]
theorem zvB {A:Around}{C:Addr}{us:List Value}{kw:List (Str×Value)}:(A.under (.builtin "type.__call__" ⟨.ref C::us,kw⟩)).units=A.units+1:=by
 first | rfl | simp[Around.under,Code.cUnits,Code.frames,Code.isFrame]
theorem zaU.make {k:Nat}{A:Around}(r:zaU (k+1) A)(C:Addr)(us:List Value)(kw:List (Str×Value)):zaU k (A.under (.builtin "type.__call__" ⟨.ref C::us,kw⟩)):=
 ⟨r.hd,by have:=r.dp; rw[zvP]; omega,by have:=r.un; rw[zvB]; omega⟩
theorem zaU.depth {k:Nat}{A:Around}(r:zaU k A):A.depth<recursionLimit:=by have:=r.dp; omega
def tNil:TA:=λ_ H Q=>Q [] H
def tCons (ta:TE)(tr:TA):TA:=λσ H Q=>ta σ H λx H1=>tr σ H1 λxs H2=>Q (x::xs) H2
section
variable {X:Cx}{e:Expr}{es:List Expr}{te:TE}{t:TA}{pos:Pos}
theorem zkD:PA X [] tNil:=λ_ _ _ _ H Q I h=>Calls.spliced_nil ⟨[],H,I,.nil,h⟩
theorem zeD (ha:PE X e te)(hr:PA X es t)(hs:starEach (e::es) X.env=(false,eval e X.env)::starEach es X.env:=by rfl):PA X (e::es) (tCons te t):=by
 intro pos pins s σ H Q I h
 rw[hs]
 show wpAny _ _ (spliced ((false,eval e X.env)::backTo pos (starEach es X.env))) _ _ s
 refine Calls.spliced_cons (thn (ha pins s σ H _ I h) λu s1 ⟨x,H1,I1,r1,q1⟩=>?_)
 exact thn (hr pos pins s1 σ H1 _ I1 q1) λus s2 ⟨xs,H2,I2,r2,q2⟩=>⟨x::xs,H2,I2,.cons r1 r2,q2⟩
def tTup (t:TA):TE:=λσ H Q=>t σ H λxs H1=>xs.length≤sizeLine∧∀p,H1 p=none→Q (.ref p) (upd H1 p (.tup xs))
def tLst (t:TA):TE:=λσ H Q=>t σ H λxs H1=>xs.length≤sizeLine∧∀p,H1 p=none→Q (.ref p) (upd H1 p (.lst xs))
theorem zvo {x1}(h:PA X es t):PE X (.Tuple es x1 pos) (tTup t):=by
 intro pins s σ H Q I hq
 refine wpAny_Tuple_spliced (thn (h pos pins s σ H _ I hq) λus s1 ⟨xs,H1,I1,r,z,q⟩=>⟨by rw[← r.length]; exact z,?_⟩)
 have hf:H1 s1.heap.objs.size=none:=I1.hok.fresh (Vab _)
 refine⟨.ref s1.heap.objs.size,upd H1 s1.heap.objs.size (.tup xs),I1.laid (t':=s1.toks) (λb u e=>Heap.get?_push_of_some _ e) (Vab _) ?_,rfl,q _ hf⟩
 exact⟨z,us,r,⟨_,Heap.get?_push_size _ rfl,rfl,_,rfl⟩⟩
theorem zse (h:PA X es t):PE X (.List es pos) (tLst t):=by
 intro pins s σ H Q I hq
 refine wpAny_List_spliced (thn (h pos pins s σ H _ I hq) λus s1 ⟨xs,H1,I1,r,z,q⟩=>⟨by rw[← r.length]; exact z,?_⟩)
 have hf:H1 s1.heap.objs.size=none:=I1.hok.fresh (Vab _)
 refine⟨.ref s1.heap.objs.size,upd H1 s1.heap.objs.size (.lst xs),I1.laid (t':=s1.toks) (λb u e=>Heap.get?_push_of_some _ e) (Vab _) ?_,rfl,q _ hf⟩
 exact⟨z,us,0,r,Heap.get?_push_size _ rfl⟩
end
abbrev Sp:=List V→Hp→VK→XK→Prop
abbrev CXT:=List Env→Hp→Shared→XK→Value→Shared→Prop
structure zdQ (P:Program)(w:World)(K:PySem.W.Frag)(mg:Str→Option Value)(base:Heap)(A:Around)(outer:List Env)(s:Shared)(H:Hp):Prop where
 frames:A.frames=some outer
 mod:Mod K mg base
 bs:∀b o,base.get? b=some o→s.heap.get? b=some o∧H b=none
 bsz:base.objs.size≤s.heap.objs.size
 funs:s.heap.FunFrames base outer
 frf:∀b∈frs outer,H b=none
 hok:HOk P w H s.heap
 bare:AllBare s.gens
def CE (outer:List Env)(P:Program)(w:World)(H:Hp)(s:Shared)(Q:VK)(u:Value)(s':Shared):Prop:=
 ∃v H',s'.os=s.os∧AllBare s'.gens∧Un (frs outer) [] H H' s.heap s'.heap∧HOk P w H' s'.heap∧zaz v u∧Q v H'
def CR (CX:CXT)(outer:List Env)(P:Program)(w:World)(H:Hp)(s:Shared)(Q:VK)(E:XK)(r:Result)(s':Shared):Prop:=
 match r with
 | .ok (.ret u)=>CE outer P w H s Q u s'
 | .ok _=>False
 | .error e=>CX outer H s E e s'
structure zbj (P:Program)(w:World)(K:PySem.W.Frag)(mg:Str→Option Value)(base:Heap)(CX:CXT)(k:Nat)(f:Addr)(fd:FuncData)(ps:List Str)(sp:Sp):Prop where
 len:∀vs H Q E,sp vs H Q E→vs.length=ps.length
 run:∀(A:Around) (outer:List Env) (s:Shared) (H:Hp) (args:Args) (us:List Value) (vs:List V) (Q:VK) (E:XK),zaU k A→zdQ P w K mg base A outer s H→BindsTo s fd args (ps.zip us)→zaD vs us→sp vs H Q E→
  codeAny (model P w) A (.call (.ref f) args) (CR CX outer P w H s Q E) s
theorem zdQ.make {P:Program}{w:World}{K:PySem.W.Frag}{mg:Str→Option Value}{base:Heap}{A:Around}{outer:List Env}{s:Shared}{H:Hp}(e:zdQ P w K mg base A outer s H)(C:Addr)(us:List Value)(kw:List (Str×Value)):
  zdQ P w K mg base (A.under (.builtin "type.__call__" ⟨.ref C::us,kw⟩)) outer s H:=⟨by first | exact e.frames | (simpa [Around.under,Code.envs,Code.isFrame,pushEnvs] using e.frames),e.mod,e.bs,e.bsz,e.funs,e.frf,e.hok,e.bare⟩
section
variable {X:Cx}{pins:List (Addr×Obj)}{σ:St}{H:Hp}{s s':Shared}
theorem Inv.env0 (I:Inv X pins σ H s):zdQ X.prog X.w X.K X.mg X.base X.A X.stack s H:=
 ⟨I.ok.frames,I.ok.mod,I.bs,VaC I.ok.bsz I.sz,I.stack,I.stkFree,I.hok,I.bare⟩
theorem Inv.after {Q:VK}{u:Value}(I:Inv X pins σ H s)(h:CE X.stack X.prog X.w H s Q u s'):EP X pins σ Q u s':=by
 obtain⟨v,H',os,bare,un,hok,r,q⟩:=h
 obtain⟨hh,g,d,t,os'⟩:=s'
 obtain rfl:os'=s.os:=os
 exact⟨v,H',I.call (h':=hh) (g':=g) (d':=d) (t':=t) (ch:=[]) un hok bare (λb z=>absurd z (by simp)),r,q⟩
end
def tMake (C:Addr)(sp:Sp)(dvs:List V)(E:XK)(t:TA):TE:=λσ H Q=>t σ H λvs H1=>∀x dx,H1 x=none→H1 dx=none→dx≠x→
 sp (.ref x::(vs++dvs)) (upd (upd H1 dx (.own x)) x (.ins C dx [])) (λv H2=>v=.non∧Q (.ref x) H2) E
def zbI (K:PySem.W.Frag)(fd:FuncData)(ps:List Str)(ds:List Value):Prop:=
 ∀(s:Shared) (us:List Value),K.In s.heap→(us++ds).length=ps.length→BindsTo s fd ⟨us,[]⟩ (ps.zip (us++ds))
theorem zbI.all {K:PySem.W.Frag}{fd:FuncData}{ps:List Str}(h:∀us:List Value,us.length=ps.length→bindArgs fd ⟨us,[]⟩=pure (ps.zip us)):zbI K fd ps []:=λs us _ hl=>by
 rw[VaW] at hl ⊢
 exact .of_eq (h us hl)
def zkv (CX:CXT)(X:Cx)(E:XK):Prop:=∀(pins:List (Addr×Obj)) (σ:St) (H:Hp) (s:Shared) (e:Value) (s':Shared),Inv X pins σ H s→CX X.stack H s E e s'→X.xe e s'
section
variable {X:Cx}{CX:CXT}{k:Nat}{f C:Addr}{fd:FuncData}{ps:List Str}{sp:Sp}{dvs:List V}{ds:List Value}{E:XK}{x m:Str}{p pos apos:Pos}{e o:Expr}{es:List Expr}{ta:TE}{t:TA}
structure Mk (K:PySem.W.Frag)(C f:Addr):Prop where
 makes:PySem.W.makesIn K C=true
 init:PySem.W.findIn K (.ref C) "__init__"=some (some (.ref f))
 fn:PySem.W.isFn K (.ref f)=true
 kp:PySem.W.keepIn K (.ref C)=true
theorem zvD {pins:List (Addr×Obj)}{σ:St}{H:Hp}{s:Shared}{Q:VK}{us:List Value}{vs:List V}(M:Mk X.K C f)(F:zbj X.prog X.w X.K X.mg X.base CX k f fd ps sp)(hr:zaU (k+1) X.A)(hb:zbI X.K fd ps ds)(hd:zaD dvs ds)
  (hx:zkv CX X E)(I:Inv X pins σ H s)(r:zaD vs us)
  (h:∀x dx,H x=none→H dx=none→dx≠x→sp (.ref x::(vs++dvs)) (upd (upd H dx (.own x)) x (.ins C dx [])) (λv H2=>v=.non∧Q (.ref x) H2) E):
  wpAny (model X.prog X.w) X.A (call (.ref C) us) (EP X pins σ Q) X.xe s:=by
 have hq:=h (s.heap.objs.size+1) s.heap.objs.size (I.hok.fresh (Nat.le_succ _)) (I.hok.fresh (Vab _)) (Vao (Nat.lt_succ_self _))
 have I2:=Inv.made (C:=C) I
 have r2:zaD (V.ref (s.heap.objs.size+1)::(vs++dvs)) (Value.ref (s.heap.objs.size+1)::(us++ds)):=.cons rfl (r.append hd)
 have hl:(Value.ref (s.heap.objs.size+1)::us++ds).length=ps.length:=by
  have e:=r2.length
  rw[F.len _ _ _ _ hq] at e
  exact e.symm
 refine wpAny_call (zs0 (f:=f) I.kIn M.makes M.init (beq_iff_eq.mp M.fn) (codeAny_mono (F.run _ X.stack _ _ ⟨Value.ref (s.heap.objs.size+1)::us,[]⟩ (Value.ref (s.heap.objs.size+1)::(us++ds)) _ _ E (hr.make C us [])
  (I2.env0.make C us []) (hb _ (Value.ref (s.heap.objs.size+1)::us) I2.kIn hl) r2 hq) λr s' hq'=>?_))
 cases r with
 | error e=>exact hx pins σ _ _ e s' I2 hq'
 | ok fl=>
  cases fl with
  | ret u=>
   obtain⟨v,H',I3,rv,ev,q3⟩:=I2.after hq'
   subst ev
   exact⟨rv,⟨V.ref (s.heap.objs.size+1),H',I3,rfl,q3⟩⟩
  | next=>exact False.elim hq'
  | brk=>exact False.elim hq'
  | cont=>exact False.elim hq'
theorem zwF (M:Mk X.K C f)(F:zbj X.prog X.w X.K X.mg X.base CX k f fd ps sp)(hr:zaU (k+1) X.A)(hg:Gl X x)(hm:X.mg x=some (.ref C))(hb:zbI X.K fd ps ds)(hd:zaD dvs ds)(hx:zkv CX X E)
  (ha:PA X (e::es) t)(hdb:(x==("__debug__":Str))=false:=by decide)(he:starEach (e::es) X.env=(false,eval e X.env)::starEach es X.env:=by rfl)(hpl:(backTo pos (starEach es X.env)).any (·.1)=false:=by rfl):
  PE X (.Call (.Name x p) (e::es) [] pos) (tMake C sp dvs E t):=by
 intro pins s σ H Q I h
 refine wpAny_Call_Name_kw (zpT I hg hm ?_ hdb)
 refine PySem.W.callWith_K (h₀:=X.base) I.ok.mod.kin M.kp (thn (ha pos pins s σ H _ I h) λus s1 ⟨vs,H1,I1,r,q⟩=>⟨I1.kIn,?_⟩) he hpl
 exact zvD M F hr hb hd hx I1 r q
end
section
variable {X:Cx}{CX:CXT}{k:Nat}{f C:Addr}{fd:FuncData}{ps ks:List Str}{sp:Sp}{E:XK}{x m:Str}{p pos apos kpos:Pos}{e o:Expr}{es:List Expr}{kws:List Keyword}{te ta:TE}{t tk:TA}{nm:Option Str}
variable {g:List Value→List Value→List Value}{gV:List V→List V→List V}
end
structure zaw (N P:List Str)(sc:Scope):Prop where
 kind:sc.kind=.function
 co:sc.isCoroutine=false
 gen:sc.isGenerator=false
 nd:N.Nodup
 pre:N.take P.length=P
 par:∀x∈P,sc.names.lookup x=some .local∨sc.names.lookup x=some .cell
 nofree:∀y∈sc.names,y.2≠.free
theorem zp1 {kindOf:Str→Option NameKind}{x:Str}:∀ {binds:List (Str×Value)} {m:Str→Option Value},(∀v,(x,v) ∉ binds)→bindL kindOf binds m x=m x
 | [],_,_=>rfl
 | (n,v)::r,m,h=>by
  unfold bindL
  rw[zp1 λw hw=>h w (VaD _ hw)]
  split
  ·have:x≠n:=by rintro rfl; exact h v VaT
   simp[this]
  ·rfl
theorem zo9 {kindOf:Str→Option NameKind}{x:Str}:∀ {binds:List (Str×Value)} {m:Str→Option Value},(∀v,(x,v) ∉ binds)→bindC kindOf binds m x=m x
 | [],_,_=>rfl
 | (n,v)::r,m,h=>by
  unfold bindC
  rw[zo9 λw hw=>h w (VaD _ hw)]
  split
  ·rfl
  ·have:x≠n:=by rintro rfl; exact h v VaT
   simp[this]
theorem zqD {kindOf:Str→Option NameKind}{x:Str}{v:Value}:∀ {P:List Str} {vs:List Value} {i:Nat} {m:Str→Option Value},P.Nodup→P[i]?=some x→vs[i]?=some v→kindOf x=some .local→
  bindL kindOf (P.zip vs) m x=some v
 | [],_,_,_,_,h,_,_=>by simp at h
 | _::_,[],_,_,_,_,h,_=>by simp at h
 | p::P,w::vs,0,m,nd,h1,h2,hk=>by
  simp at h1 h2; subst h1; subst h2
  show bindL kindOf ((p,w)::P.zip vs) m p=_
  unfold bindL
  rw[zp1 λv hv=>(List.nodup_cons.mp nd).1 (List.of_mem_zip hv).1,if_pos hk]
  simp
 | p::P,w::vs,i+1,m,nd,h1,h2,hk=>by
  show bindL kindOf ((p,w)::P.zip vs) m x=_
  unfold bindL
  exact zqD (i:=i) (List.nodup_cons.mp nd).2 (by simpa using h1) (by simpa using h2) hk
theorem zp8 {kindOf:Str→Option NameKind}{x:Str}{v:Value}:∀ {P:List Str} {vs:List Value} {i:Nat} {m:Str→Option Value},P.Nodup→P[i]?=some x→vs[i]?=some v→kindOf x≠some .local→
  bindC kindOf (P.zip vs) m x=some v
 | [],_,_,_,_,h,_,_=>by simp at h
 | _::_,[],_,_,_,_,h,_=>by simp at h
 | p::P,w::vs,0,m,nd,h1,h2,hk=>by
  simp at h1 h2; subst h1; subst h2
  show bindC kindOf ((p,w)::P.zip vs) m p=_
  unfold bindC
  rw[zo9 λv hv=>(List.nodup_cons.mp nd).1 (List.of_mem_zip hv).1,if_neg hk]
  simp
 | p::P,w::vs,i+1,m,nd,h1,h2,hk=>by
  show bindC kindOf ((p,w)::P.zip vs) m x=_
  unfold bindC
  exact zp8 (i:=i) (List.nodup_cons.mp nd).2 (by simpa using h1) (by simpa using h2) hk
def zcI (N:List Str)(vs:List V):St:=vs.map some++List.replicate (N.length-vs.length) none
def zfG (CX:CXT)(P:Program)(w:World)(K:PySem.W.Frag)(mg:Str→Option Value)(base:Heap)(N:List Str)(qual:Str)(scope:Scope)(f:Addr)(cd:Value)(A:Around)(outer:List Env)(s:Shared)(H:Hp)(E:XK):Cx where
 prog:=P
 w:=w
 K:=K
 mg:=mg
 base:=base
 A:=A.deeper (envOfC qual scope s.heap.objs.size f cd)
 N:=N
 s₀:=s
 H₀:=H
 env:=envOfC qual scope s.heap.objs.size f cd
 outer:=outer
 stack:=envOfC qual scope s.heap.objs.size f cd::outer
 ex:=[]
 calm:=true
 fn:=λ_=>true
 pn:=[]
 xe:=λe s'=>wpAny (model P w) (A.deeper (envOfC qual scope s.heap.objs.size f cd)) (leaving (envOfC qual scope s.heap.objs.size f cd) e) (λ_ s''=>CX outer H s E e s'') (λe' s''=>CX outer H s E e' s'') s'
theorem zql {sc:Scope}{n:Nat}{x:Str}(h:sc.names.lookup x=some .cell):∃c,(cellsFrom n sc.names []).lookup x=some c:=by
 have q:=PySem.W.cellsFrom_some sc.names n [] (.inl h)
 exact VaX.mp q
theorem zsO {CX:CXT}{P:Program}{w:World}{K:PySem.W.Frag}{mg:Str→Option Value}{base:Heap}{N ps:List Str}{qual:Str}{scope:Scope}{f:Addr}{cd:Value}{A:Around}{outer:List Env}{s s1:Shared}{H:Hp}{E:XK}{us:List Value}{vs:List V}
  (S:zaw N ps scope)(hd:A.handled=none)(e0:zdQ P w K mg base A outer s H)(hl:vs.length=ps.length)(r:zaD vs us)
  (x:InCallC s s.heap.objs.size (bindL (envOfC qual scope s.heap.objs.size f cd).kindOf (ps.zip us) λ_=>none) (cellsFrom (s.heap.objs.size+1) scope.names []) (bindC (envOfC qual scope s.heap.objs.size f cd).kindOf (ps.zip us) λ_=>none) s1):
  Inv (zfG CX P w K mg base N qual scope f cd A outer s H E) [] (zcI N vs) H s1:=by
 have hpl:ps.length≤N.length:=by have:=congrArg List.length S.pre; rw[Var] at this; omega
 obtain⟨h1,tk,rfl,hk⟩:=x.done
 have noA:∀b:Addr,b ∉ (zfG CX P w K mg base N qual scope f cd A outer s H E).ex:=λb z=>absurd (show b∈([]:List Addr) from z) (by simp)
 refine⟨⟨e0.mod,S.kind,rfl,rfl,Vab _,λy z c h1 h2=>?_,λy hy=>?_,λy c _ h=>?_,λ_=>hd,Around.frames_deeper e0.frames,.inr ⟨rfl,rfl⟩,λb z=>absurd z (noA b),e0.bs,e0.bsz,λb _ _=>noA b,λb z=>absurd z (noA b),e0.funs,e0.frf⟩,
  rfl,e0.bare,Un.kept hk,⟨_,x.toInCall.ns,λi y v h1 h2 h3=>?_⟩,λy c h=>⟨_,x.cell y c h⟩,e0.hok.fresh (Vab _),λy c h=>?_,λp hp=>absurd (show p∈([]:List (Addr×Obj)) from hp) (by simp),e0.hok.kept hk,?_⟩
 ·exact name_of_addr x.apart (PySem.mem_of_lookup h1) (PySem.mem_of_lookup h2)
 ·have hy:scope.names.lookup y=some .cell∨scope.names.lookup y=some .free:=hy
  rcases hy with hy | hy
  ·exact zql hy
  ·exact absurd rfl (S.nofree _ (PySem.mem_of_lookup hy))
 ·exact VaS (x.above y c (PySem.mem_of_lookup h))
 ·have hi:i<vs.length:=by
   unfold zcI at h2
   by_cases hi:i<vs.length
   ·exact hi
   ·rw[VaP (by simpa using hi)] at h2
    rw[List.getElem?_replicate] at h2
    split at h2 <;> cases h2
  have ha:vs[i]?=some v:=by
   unfold zcI at h2
   rw[Vas (by simpa using hi),Vae] at h2
   cases e:vs[i]? with
   | none=>rw[e] at h2; cases h2
   | some a=>rw[e] at h2; cases h2; rfl
  obtain⟨u,hu,rv⟩:=r.get ha
  have hp:ps[i]?=some y:=by
   rw[← S.pre,List.getElem?_take_of_lt (by omega)]; exact h1
  have ndP:ps.Nodup:=by rw[← S.pre]; exact S.nd.sublist (List.take_sublist _ _)
  refine⟨u,rv,?_⟩
  rcases S.par y (Vaj hp) with k | k
  ·exact .inl ⟨k,zqD ndP hp hu k⟩
  ·obtain⟨c,e⟩:=zql (n:=s.heap.objs.size+1) k
   refine .inr ⟨.inl k,c,e,?_⟩
   have q:=x.cell y c e
   rw[zp8 ndP hp hu (by show scope.names.lookup y≠_; rw[k]; decide)] at q
   exact q
 ·exact e0.hok.fresh (VaS (x.above y c (PySem.mem_of_lookup h)))
 ·unfold zcI
  show _=N.length
  rw[Vay,Vaa,List.length_replicate]
  omega
theorem fn_of {CX:CXT}{P:Program}{w:World}{K:PySem.W.Frag}{mg:Str→Option Value}{base:Heap}{k:Nat}{f:Addr}{name qual:Str}{params:Arguments}{body:List Stmt}{scope:Scope}{dV kV doc pm cdv ct oc:Value}{an od:Option Addr}
  {osl:Array (Option Value)}{N ps:List Str}{sp:Sp}(lk:K.lookup f=some ⟨oc,od,.func (PySem.W.fnOf name qual params body scope dV kV doc pm an cdv ct),osl⟩)(hcd:PySem.W.codeIn K cdv qual=true)(S:zaw N ps scope)
  (len:∀vs H Q E,sp vs H Q E→vs.length=ps.length)
  (hbody:∀(A:Around) (outer:List Env) (s:Shared) (H:Hp) (vs:List V) (Q:VK) (E:XK),zaU k (A.deeper (envOfC qual scope s.heap.objs.size f cdv))→sp vs H Q E→
   ∃t,PSs (zfG CX P w K mg base N qual scope f cdv A outer s H E) body t∧t { nx:=λ_ H'=>Q .non H',rt:=Q } (zcI N vs) H):
  zbj P w K mg base CX (k+1) f (PySem.W.fnOf name qual params body scope dV kV doc pm an cdv ct) ps sp:=by
 refine⟨len,λA outer s H args us vs Q E hr e0 hb r hsp=>?_⟩
 have hl:=len _ _ _ _ hsp
 have KX:K.In s.heap:=e0.mod.kin.keeps λb o e=>(e0.bs b o e).1
 have lim:s.heap.NoLimit:=e0.mod.nolimit.keeps λb o e=>(e0.bs b o e).1
 have hkind:∀y∈ps.zip us,scope.names.lookup y.1=some .local∨(scope.names.lookup y.1=some .cell∧((cellsFrom (s.heap.objs.size+1) scope.names []).lookup y.1).isSome=true):=λ⟨n,v⟩ hy=>by
  rcases S.par n (List.of_mem_zip hy).1 with q | q
  ·exact .inl q
  ·exact .inr ⟨q,PySem.W.cellsFrom_some _ _ _ (.inl q)⟩
 refine codeAny_call_function hr.depth (KX _ _ lk) rfl S.co S.gen rfl (PySem.W.codeRec_of KX hcd) (hb _ _ _ _ ?_)
 refine wpAny_newFunctionEnv_cells S.kind hkind λenv he s1 x=>?_
 subst he
 refine⟨lim.keeps x.toInCall.keep,codeAny_func ?_⟩
 obtain⟨t,ht,hq⟩:=hbody A outer s H vs Q E (hr.deeper _) hsp
 have I:Inv (zfG CX P w K mg base N qual scope f cdv A outer s H E) [] (zcI N vs) H s1:=zsO S hr.hd e0 hl r x
 refine wpAny_mono (ht [] s1 (zcI N vs) H _ I hq) (λfl s' hs=>?_) λe s' hs=>hs
 have fin:∀ {σ':St} {H':Hp} {v:V} {u:Value},Inv (zfG CX P w K mg base N qual scope f cdv A outer s H E) [] σ' H' s'→zaz v u→Q v H'→CE outer P w H s Q u s':=
  λ{σ' H' v u} J rv q=>⟨v,H',J.os,J.bare,J.base,J.hok,rv,q⟩
 cases fl with
 | ret u=>
  obtain⟨v,σ',H',J,rv,q⟩:=hs
  exact fin J rv q
 | next=>
  obtain⟨σ',H',J,q⟩:=hs
  exact fin (v:=V.non) (u:=Value.none) J rfl q
 | brk=>
  obtain⟨_,_,_,q⟩:=hs
  exact False.elim q
 | cont=>
  obtain⟨_,_,_,q⟩:=hs
  exact False.elim q
end L2
namespace L2
open PySem PySem.Spec PyProof.Rows
section
variable {X:Cx}{x:Str}{p pos:Pos}{e:Expr}{es:List Expr}{t:TA}{id T:String}{r:List V→Hp→VK→Prop}
def tCB (r:List V→Hp→VK→Prop)(t:TA):TE:=λσ H Q=>t σ H λvs H1=>r vs H1 Q
theorem zo1 (hc:zbt X (.builtin id) r)(hg:Gl X x)(hm:X.mg x=none)(hv:bootBuiltins x=some (.builtin id))(ha:PA X (e::es) t)(hn:x≠"__name__":=by decide)(hdb:(x==("__debug__":Str))=false:=by decide)
  (he:starEach (e::es) X.env=(false,eval e X.env)::starEach es X.env:=by rfl)(hpl:(backTo pos (starEach es X.env)).any (·.1)=false:=by rfl):PE X (.Call (.Name x p) (e::es) [] pos) (tCB r t):=by
 intro pins s σ H Q I h
 refine wpAny_Call_Name_kw (ze4 I hg hm hv ?_ hn hdb)
 exact PyProof.Rows.callWith_builtin1 (thn (ha pos pins s σ H _ I h) λus s1 ⟨vs,H1,I1,r1,q1⟩=>hc pins s1 σ H1 vs us Q I1 r1 q1) he hpl
theorem zru (hc:zbt X (.type T) r)(hg:Gl X x)(hm:X.mg x=none)(hv:bootBuiltins x=some (.type T))(ha:PA X (e::es) t)(hn:x≠"__name__":=by decide)(hdb:(x==("__debug__":Str))=false:=by decide)
  (he:starEach (e::es) X.env=(false,eval e X.env)::starEach es X.env:=by rfl)(hpl:(backTo pos (starEach es X.env)).any (·.1)=false:=by rfl):PE X (.Call (.Name x p) (e::es) [] pos) (tCB r t):=by
 intro pins s σ H Q I h
 refine wpAny_Call_Name_kw (ze4 I hg hm hv ?_ hn hdb)
 exact PyProof.Rows.callWith_type1 (thn (ha pos pins s σ H _ I h) λus s1 ⟨vs,H1,I1,r1,q1⟩=>hc pins s1 σ H1 vs us Q I1 r1 q1) he hpl
end
end L2
namespace HT
open PySem PyProof.Rows
section
open PySem.SeqAt
open PySem.AutoSeq1 (wpAny_loadPart')
open PySem.MeetsSeq PySem.MeetsSeq2 PySem.MeetsSeq3
end
section
variable {prog:Program}{w:World}{A:Around}{E:Value→Shared→Prop}{s:Shared}
def sIx (n d:Nat):Option Int→Nat
 | none=>d
 | some v=>if v<0 then (v+(n:Int)).toNat else min v.toNat n
theorem sIx_none (n d:Nat):sIx n d none=d:=rfl
theorem sIx_nat (n d k:Nat):sIx n d (some (k:Int))=min k n:=by
 show (if (k:Int)<0 then ((k:Int)+(n:Int)).toNat else min (k:Int).toNat n)=min k n
 rw[if_neg (by omega),Vat]
end
end HT
namespace L2
open PySem PySem.Spec PyProof.Rows
abbrev TO:=St→Hp→(Option Int→Hp→Prop)→Prop
def PO (X:Cx)(e:Option Expr)(t:TO):Prop:=
 ∀(pins:List (Addr×Obj)) (s:Shared) (σ:St) (H:Hp) (Q:Option Int→Hp→Prop),Inv X pins σ H s→t σ H Q→
  wpAny (model X.prog X.w) X.A (evalPart e X.env) (λu s'=>∃o H',Inv X pins σ H' s'∧IsPart u o∧Q o H') X.xe s
def zv4:TO:=λ_ H Q=>Q none H
def tPart (t:TE):TO:=λσ H Q=>t σ H λx H1=>∃i,x=.int i∧Q (some i) H1
section
variable {X:Cx}{e:Expr}{te:TE}{lo hi:Option Expr}{tl th:TO}{pos p2:Pos}
theorem zsh:PO X none zv4:=by
 intro pins s σ H Q I h
 rw[evalPart_none]
 exact wpAny_pure ⟨none,H,I,.none,h⟩
theorem zuc (h:PE X e te):PO X (some e) (tPart te):=by
 intro pins s σ H Q I hw
 rw[evalPart_some]
 refine thn (h pins s σ H _ I hw) λu s1 ⟨x,H1,I1,r1,q1⟩=>?_
 obtain⟨i,rfl,q⟩:=q1
 obtain⟨t,rfl⟩:=r1
 exact⟨some i,H1,I1,.int i t,q⟩
def SlR (X:Cx)(r:V→Option Int→Option Int→Hp→VK→Prop):Prop:=
 ∀(pins:List (Addr×Obj)) (s:Shared) (σ:St) (H:Hp) (x:V) (v vl vu:Value) (lo hi:Option Int) (sl:Addr) (Q:VK),Inv X pins σ H s→zaz x v→s.heap.IsSliceOf sl vl vu .none→IsPart vl lo→IsPart vu hi→r x lo hi H Q→
  ∃T id,typeLookup (.type T) "__getitem__"=pure (some (.builtin id))∧s.TypeIs v T∧wpAny (model X.prog X.w) X.A (getItem v (.ref sl)) (EP X pins σ Q) X.xe s
def tSl (r:V→Option Int→Option Int→Hp→VK→Prop)(te:TE)(tl th:TO):TE:=λσ H Q=>te σ H λx H1=>tl σ H1 λl H2=>th σ H2 λu H3=>r x l u H3 Q
theorem zvk {r:V→Option Int→Option Int→Hp→VK→Prop}(hr:SlR X r)(he:PE X e te)(hl:PO X lo tl)(hu:PO X hi th):PE X (.Subscript e (.Slice lo hi none p2) pos) (tSl r te tl th):=by
 intro pins s σ H Q I h
 refine Subscript_ (thn (he pins s σ H _ I h) λv s1 ⟨x,H1,I1,r1,q1⟩=>?_)
 refine wpAny_Slice (thn (hl pins s1 σ H1 _ I1 q1) λvl s2 ⟨l,H2,I2,pl,q2⟩=>thn (hu pins s2 σ H2 _ I2 q2) λvu s3 ⟨u,H3,I3,pu,q3⟩=>?_)
 rw[evalPart_none]
 refine wpAny_pure ?_
 have I4:Inv X pins σ H3 { s3 with heap:=s3.heap.push { cls:=.type "slice",data:=.fields #[vl,vu,.none] } }:=I3.kept (t':=s3.toks) λb ob q=>Heap.get?_push_of_some _ q
 obtain⟨T,id,hT,ht,hg⟩:=hr pins { s3 with heap:=s3.heap.push { cls:=.type "slice",data:=.fields #[vl,vu,.none] } } σ H3 x v vl vu l u s3.heap.objs.size Q I4 r1 (Heap.IsSliceOf.new ..) pl pu q3
 show wpAny (model X.prog X.w) X.A (subscriptTail e (.Slice lo hi none p2) v (.ref s3.heap.objs.size)) (EP X pins σ Q) X.xe { s3 with heap:=s3.heap.push { cls:=.type "slice",data:=.fields #[vl,vu,.none] } }
 exact tail_any (ops:=[.ref s3.heap.objs.size,v]) ht hT hg (by with_unfolding_all rfl)
def zfy (xs:List V)(lo hi:Option Int):List V:=(xs.drop (HT.sIx xs.length 0 lo)).take (HT.sIx xs.length xs.length hi-HT.sIx xs.length 0 lo)
theorem ztR (xs:List V)(lo hi:Option Int):(zfy xs lo hi).length≤xs.length:=by
 unfold zfy
 rw[Var,List.length_drop]
 omega
end
end L2
namespace L2
open PySem PySem.Spec PyProof.Rows
def ixN (n:Nat)(i:Int):Option Nat:=if 0≤i then (if i<n then some i.toNat else none) else if -(n:Int)≤i then some (i+n).toNat else none
def atI {α:Type}(xs:List α)(i:Int):Option α:=(ixN xs.length i).bind λj=>xs[j]?
theorem zp6 {n:Nat}{i:Int}{j:Nat}(h:ixN n i=some j):seqIndex? i n=some j∧j<n∧-(n:Int)≤i∧i<n:=by
 unfold ixN at h
 by_cases h0:0≤i
 ·rw[if_pos h0] at h
  by_cases h1:i<n
  ·rw[if_pos h1] at h
   have e:i.toNat=j:=Option.some.inj h
   exact⟨by rw[seqIndex_of h0 h1,e],by omega,by omega,h1⟩
  ·rw[if_neg h1] at h; cases h
 ·rw[if_neg h0] at h
  by_cases h1:-(n:Int)≤i
  ·rw[if_pos h1] at h
   have e:(i+n).toNat=j:=Option.some.inj h
   exact⟨by rw[seqIndex_neg (by omega) h1,e],by omega,h1,by omega⟩
  ·rw[if_neg h1] at h; cases h
theorem zqJ {α:Type}{xs:List α}{i:Int}{v:α}(h:atI xs i=some v):∃j,seqIndex? i xs.length=some j∧xs[j]?=some v∧j<xs.length∧-(xs.length:Int)≤i∧i<xs.length:=by
 unfold atI at h
 cases e:ixN xs.length i with
 | none=>rw[e] at h; cases h
 | some j=>
  rw[e] at h
  obtain⟨h1,h2,h3,h4⟩:=zp6 e
  exact⟨j,h1,h,h2,h3,h4⟩
theorem zdq {α:Type}{xs:List α}{j:Nat}{v:α}(h:xs[j]?=some v):atI xs (j:Int)=some v:=by
 have hj:j<xs.length:=(Vac.mp h).1
 have e:ixN xs.length (j:Int)=some j:=by
  unfold ixN
  rw[if_pos (by omega),if_pos (by omega)]; simp
 unfold atI; rw[e]; exact h
def znh (b:Expr):Prop:=∀o i,subscripted b false o i=operate [o,i] (getItem o i)
def IxR (X:Cx)(r:R2):Prop:=
 ∀(value slice:Expr) (pins:List (Addr×Obj)) (s:Shared) (σ:St) (H:Hp) (x y:V) (v u:Value) (Q:VK),Inv X pins σ H s→zaz x v→zaz y u→r x y H Q→
  subscripted slice false v u=operate [v,u] (getItem v u)→wpAny (model X.prog X.w) X.A (subscriptTail value slice v u) (EP X pins σ Q) X.xe s
def MtR (X:Cx)(id:String)(r:V→List V→Hp→VK→Prop):Prop:=
 ∀(pins:List (Addr×Obj)) (s:Shared) (σ:St) (H:Hp) (x:V) (xs:List V) (v:Value) (us:List Value) (Q:VK),Inv X pins σ H s→zaz x v→zaD xs us→r x xs H Q→
  wpAny (model X.prog X.w) X.A (call (.builtin id) (v::us)) (EP X pins σ Q) X.xe s
section
variable {X:Cx}{a b:Expr}{ta tb:TE}{pos:Pos}
theorem pe_ix {r:R2}(hr:IxR X r)(ha:PE X a ta)(hb:PE X b tb)(hs:znh b):PE X (.Subscript a b pos) (tOp r ta tb):=by
 intro pins s σ H Q I h
 exact Subscript_ (binT ha hb I h λv u s2 x y H2 I2 rx ry q=>hr a b pins s2 σ H2 x y v u Q I2 rx ry q (hs _ _))
def rIxL (K:PySem.W.Frag):R2:=λx y H Q=>∃p xs i v,x=.ref p∧y=.int i∧SqL K H p xs∧atI xs i=some v∧Q v H
def rIxT (K:PySem.W.Frag):R2:=λx y H Q=>∃p xs i v,x=.ref p∧y=.int i∧SqT K H p xs∧atI xs i=some v∧Q v H
theorem zrO:IxR X (rIxL X.K):=by
 intro value slice pins s σ H x y v u Q I rx ry h hs
 obtain⟨p,xs,i,z,rfl,rfl,hq,he,q⟩:=h
 cases rx
 obtain⟨t,rfl⟩:=ry
 obtain⟨its,r,pl,hz⟩:=I.list hq
 obtain⟨j,h1,h2,h3,h4,h5⟩:=zqJ he
 obtain⟨w,ew,rw'⟩:=r.get h2
 have hl:=r.length
 have hn:=zhj
 have fin:EP X pins σ Q w s:=⟨z,H,I,rw',q⟩
 by_cases h0:0≤i
 ·have hj:i.toNat=j:=by
   rw[seqIndex_of h0 h5] at h1
   exact Option.some.inj h1
  exact item_listR pl.isList h0 (by omega) (by rw[hj]; simpa using ew) fin hs
 ·have hj:(i+(its.toArray.size:Int)).toNat=j:=by
   rw[seqIndex_neg (by omega) h4] at h1
   rw[Val,← hl]
   exact Option.some.inj h1
  exact subscriptTail_builtinR (x:=w) pl.isList.typeIs slot_list_getitem.lookup
   (wpAny_getItem_list_neg (Q:=λr s'=>r=w∧EP X pins σ Q r s') pl.isList (by omega) (by rw[Val] <;> omega) (by omega) (by rw[hj]; simpa using ew) ⟨rfl,fin⟩) hs
theorem zrc:IxR X (rIxT X.K):=by
 intro value slice pins s σ H x y v u Q I rx ry h hs
 obtain⟨p,xs,i,z,rfl,rfl,hq,he,q⟩:=h
 cases rx
 obtain⟨t,rfl⟩:=ry
 obtain⟨its,r,pl,hz⟩:=I.tuple hq
 obtain⟨j,h1,h2,h3,h4,h5⟩:=zqJ he
 obtain⟨w,ew,rw'⟩:=r.get h2
 have hl:=r.length
 have hn:=zhj
 have fin:EP X pins σ Q w s:=⟨z,H,I,rw',q⟩
 exact subscriptTail_builtinR (x:=w) pl.typeIs slot_tuple_getitem.lookup
  (getItem_tuple (j:=j) (Q:=λr s'=>r=w∧EP X pins σ Q r s') pl (by omega) (by omega) (by rw[Val,← hl]; exact h1) (by simpa using ew) ⟨rfl,fin⟩) hs
theorem zsM (its:List Value)(n j:Nat)(u:Value):Obj.mapSeq (·.setIfInBounds j u) { cls:=.type "list",data:=.seq its.toArray n }={ cls:=.type "list",data:=.seq (its.set j u).toArray n }:=by
 simp[Obj.mapSeq]
theorem Inv.lst {pins:List (Addr×Obj)}{σ:St}{H:Hp}{s:Shared}{p:Addr}{xs:List V}(I:Inv X pins σ H s)(h:H p=some (.lst xs)):
  ∃(its:List Value) (n:Nat),zaD xs its∧s.heap.get? p=some { cls:=.type "list",data:=.seq its.toArray n }∧xs.length≤sizeLine:=by
 obtain⟨z,its,n,r,e⟩:=I.hok p _ h
 exact⟨its,n,r,e,z⟩
theorem Inv.lstUpd {pins:List (Addr×Obj)}{σ:St}{H:Hp}{s:Shared}{p:Addr}{xs ys:List V}{its its':List Value}{n n':Nat}{f:Obj→Obj}(I:Inv X pins σ H s)(h:H p=some (.lst xs))
  (ho:s.heap.get? p=some { cls:=.type "list",data:=.seq its.toArray n })(hf:f { cls:=.type "list",data:=.seq its.toArray n }={ cls:=.type "list",data:=.seq its'.toArray n' })(r:zaD ys its')(hz:ys.length≤sizeLine)(t:Nat):
  Inv X pins σ (upd H p (.lst ys)) { s with heap:=s.heap.update p f,toks:=t }:=by
 have e:(s.heap.update p f).get? p=some { cls:=.type "list",data:=.seq its'.toArray n' }:=by
  rw[Heap.get?_update_self f ho (by rw[hf] <;> rfl),hf]
 refine I.write (x:=p) (e:=p) (by rw[h]; trivial) (.inl rfl) (λb u hb q=>(Heap.get?_update_other _ _ (Ne.symm hb)).trans q) ⟨_,e⟩ ?_
 exact⟨hz,its',n',r,e⟩
def rSetL:V→V→V→Hp→(Hp→Prop)→Prop:=λo i v H Q=>∃p xs k j,o=.ref p∧i=.int k∧H p=some (.lst xs)∧ixN xs.length k=some j∧Q (upd H p (.lst (xs.set j v)))
theorem zvf:PSet X rSetL:=by
 intro pins s σ H o i v ov iv u Q I ro ri rv h
 obtain⟨p,xs,k,j,rfl,rfl,hp,hj,q⟩:=h
 cases ro
 obtain⟨t,rfl⟩:=ri
 obtain⟨its,n,r,ho,hz⟩:=I.lst hp
 obtain⟨h1,h2,h3,h4⟩:=zp6 hj
 have hl:=r.length
 have hn:=zhj
 have I':Inv X pins σ (upd H p (.lst (xs.set j v))) { s with heap:=s.heap.update p (Obj.mapSeq (·.setIfInBounds j u)) }:=
  I.lstUpd hp ho (zsM its n j u) (r.set rv j) (by rw[VaG]; exact hz) s.toks
 by_cases h0:0≤k
 ·have hk:k.toNat=j:=by
   rw[seqIndex_of h0 h4] at h1
   exact Option.some.inj h1
  exact PySem.W.ki_setAt ho h0 (by omega) (by rw[Val,← hl]; exact h4) (by rw[hk]; exact⟨_,I',q⟩)
 ·have hk:(k+(its.toArray.size:Int)).toNat=j:=by
   rw[seqIndex_neg (by omega) h3] at h1
   rw[Val,← hl]
   exact Option.some.inj h1
  exact PySem.W.ki_setBack ho (by omega) (by rw[Val,← hl]; exact h3) (by omega) (by rw[hk]; exact⟨_,I',q⟩)
theorem zv3 (lo hi:Option Int)(n:Nat):(sliceBounds lo hi none n).1=((HT.sIx n 0 lo:Nat):Int)∧(sliceBounds lo hi none n).2.1=((HT.sIx n n hi:Nat):Int)∧(sliceBounds lo hi none n).2.2=1:=by
 refine⟨?_,?_,rfl⟩
 ·cases lo with
  | none=>simp[sliceBounds,HT.sIx]
  | some i=>
   simp only[sliceBounds,HT.sIx,Option.getD_none,show (1:Int) > 0 by decide,if_true]
   by_cases h:i<0
   ·simp only[h,if_true] <;> omega
   ·simp only[h,if_false] <;> omega
 ·cases hi with
  | none=>simp[sliceBounds,HT.sIx]
  | some i=>
   simp only[sliceBounds,HT.sIx,Option.getD_none,show (1:Int) > 0 by decide,if_true]
   by_cases h:i<0
   ·simp only[h,if_true] <;> omega
   ·simp only[h,if_false] <;> omega
theorem zrE (its:List Value)(lo hi:Option Int):slicePick its.toArray lo hi none=((its.drop (HT.sIx its.length 0 lo)).take (HT.sIx its.length its.length hi-HT.sIx its.length 0 lo)).toArray:=by
 obtain⟨h1,h2,h3⟩:=zv3 lo hi its.toArray.size
 unfold slicePick
 rw[h1,h2,h3]
 simp only[sliceRange_one,pick_run,Val] <;> rfl
def rSlL (K:PySem.W.Frag):V→Option Int→Option Int→Hp→VK→Prop:=λx lo hi H Q=>∃a xs,x=.ref a∧SqL K H a xs∧∀p,H p=none→Q (.ref p) (upd H p (.lst (zfy xs lo hi)))
theorem zt5:SlR X (rSlL X.K):=by
 intro pins s σ H x v vl vu lo hi sl Q I rx hs pl pu h
 obtain⟨a,xs,rfl,hx,q⟩:=h
 cases rx
 obtain⟨its,r,ht,hz⟩:=I.list hx
 have hlen:=r.length
 refine⟨"list",_,slot_list_getitem.lookup,ht.isList.typeIs,?_⟩
 refine wpAny_getItem_list_slice ht.isList hs pl pu .none (by simp) ?_ (by rw[Val] <;> omega)
 rw[zrE,← hlen]
 refine⟨.ref s.heap.objs.size,_,I.laid (t':=s.toks) (o:=.lst (zfy xs lo hi)) (λb ob q=>Heap.get?_push_of_some _ q) (Vab _) ?_,rfl,q _ (I.hok.fresh (Vab _))⟩
 exact⟨VaC (ztR xs lo hi) hz,_,0,(r.drop (HT.sIx xs.length 0 lo)).take (HT.sIx xs.length xs.length hi-HT.sIx xs.length 0 lo),Heap.get?_push_size _ rfl⟩
def zks:V→Bool
 | .non=>true
 | .bl _=>true
 | .int _=>true
 | .str _=>true
 | _=>false
def eqV:V→V→Bool
 | .non,.non=>true
 | .bl a,.bl b=>a==b
 | .bl a,.int b=>(if a then 1 else 0)==b
 | .int a,.bl b=>a==(if b then 1 else 0)
 | .int a,.int b=>a==b
 | .str a,.str b=>a==b
 | _,_=>false
theorem zrg {A:Around}{s:Shared}{y x:V}{u v:Value}(ry:zaz y u)(rx:zaz x v)(fy:zks y=true)(fx:zks x=true):SeqAt.EqAt A s u v (eqV y x):=by
 cases y with
 | non=>
  cases ry
  cases x with
  | non=>cases rx; exact SeqAt.EqAt.same _
  | bl b=>cases rx; exact SeqAt.EqAt.none_bool b
  | int b=>obtain⟨t,rfl⟩:=rx; exact SeqAt.EqAt.none_int b t
  | str b=>obtain⟨t,rfl⟩:=rx; exact SeqAt.EqAt.none_str b t
  | _=>exact absurd (show false=true from fx) Vak
 | bl a=>
  cases ry
  cases x with
  | non=>cases rx; exact SeqAt.EqAt.bool_none a
  | bl b=>cases rx; exact SeqAt.EqAt.bool_bool a b
  | int b=>obtain⟨t,rfl⟩:=rx; exact SeqAt.EqAt.bool_int a b t
  | str b=>obtain⟨t,rfl⟩:=rx; exact SeqAt.EqAt.bool_str a b t
  | _=>exact absurd (show false=true from fx) Vak
 | int a=>
  obtain⟨t',rfl⟩:=ry
  cases x with
  | non=>cases rx; exact SeqAt.EqAt.int_none a t'
  | bl b=>cases rx; exact SeqAt.EqAt.int_bool a t' b
  | int b=>obtain⟨t,rfl⟩:=rx; exact SeqAt.EqAt.int_int a t' b t
  | str b=>obtain⟨t,rfl⟩:=rx; exact SeqAt.EqAt.int_str a t' b t
  | _=>exact absurd (show false=true from fx) Vak
 | str a=>
  obtain⟨t',rfl⟩:=ry
  cases x with
  | non=>cases rx; exact SeqAt.EqAt.str_none a t'
  | bl b=>cases rx; exact SeqAt.EqAt.str_bool a t' b
  | int b=>obtain⟨t,rfl⟩:=rx; exact SeqAt.EqAt.str_int a t' b t
  | str b=>obtain⟨t,rfl⟩:=rx; exact SeqAt.EqAt.str_str a t' b t
  | _=>exact absurd (show false=true from fx) Vak
 | _=>exact absurd (show false=true from fy) Vak
theorem zq1:zbt X (.builtin "len") (λxs H Q=>∃p ys,xs=[.ref p]∧(SqL X.K H p ys∨SqT X.K H p ys)∧Q (.int ys.length) H):=by
 intro pins s σ H xs us Q I r h
 obtain⟨p,ys,rfl,hq,q⟩:=h
 obtain⟨u,rfl,rx⟩:=zeU r
 cases rx
 have hn:=zhj
 rcases hq with hq | hq
 ·obtain⟨its,r',pl,hz⟩:=I.list hq
  have hlen:=r'.length
  exact Calls.call_len_list pl.isList (by simp only[Val] <;> omega) ⟨.int ys.length,H,I.tok _,⟨s.toks+1,by rw[Val,hlen]⟩,q⟩
 ·obtain⟨its,r',pl,hz⟩:=I.tuple hq
  have hlen:=r'.length
  exact len_tuple pl (by simp only[Val] <;> omega) ⟨.int ys.length,H,I.tok _,⟨s.toks+1,by rw[Val,hlen]⟩,q⟩
theorem ztp:zbt X (.type "list") (λxs H Q=>∃p ys,xs=[.ref p]∧(SqL X.K H p ys∨SqT X.K H p ys)∧∀l,H l=none→Q (.ref l) (upd H l (.lst ys))):=by
 intro pins s σ H xs us Q I r h
 obtain⟨p,ys,rfl,hq,q⟩:=h
 obtain⟨u,rfl,rx⟩:=zeU r
 cases rx
 have fin:∀(its:List Value),zaD ys its→ys.length≤sizeLine→∀(h':Heap) (c':Nat),(∀b o',s.heap.get? b=some o'→h'.get? b=some o')→
   h'.get? s.heap.objs.size=some { cls:=.type "list",dict:=none,data:=.seq its.toArray c',slots:=#[] }→EP X pins σ Q (.ref s.heap.objs.size) { s with heap:=h' }:=λits r' hz h' c' kp e=>
  ⟨.ref s.heap.objs.size,_,I.laid (t':=s.toks) kp (Vab _) (show zbp X.prog X.w _ h' _ (.lst ys) from ⟨hz,its,c',r',e⟩),rfl,q _ (I.hok.fresh (Vab _))⟩
 rcases hq with hq | hq
 ·obtain⟨its,r',pl,hz⟩:=I.list hq
  have hlen:=r'.length
  obtain⟨o,ho,hc,n,hd⟩:=pl.isList
  exact call_list_seq p (.inl rfl) ho hc hd (λh' c' kp e=>fin its r' hz h' c' kp e) (by simp only[Val] <;> omega)
 ·obtain⟨its,r',pl,hz⟩:=I.tuple hq
  have hlen:=r'.length
  obtain⟨o,ho,hc,n,hd⟩:=pl
  exact call_list_seq p (.inr rfl) ho hc hd (λh' c' kp e=>fin its r' hz h' c' kp e) (by simp only[Val] <;> omega)
def tyV (K:PySem.W.Frag)(T:String)(x:V)(H:Hp):Prop:=match x with
 | .str _=>T="str"
 | .int _=>T="int"
 | .ref p=>(T="list"∧∃xs,SqL K H p xs)∨(T="tuple"∧∃o,K.lookup p=some o∧o.cls=.type "tuple"∧o.dict=none)∨
   (T="dict"∧((∃kvs,H p=some (.dK kvs))∨∃kvs,H p=some (.dT kvs)))∨(T="set"∧∃S n,H p=some (.set S n))
 | _=>False
theorem zpM {pins:List (Addr×Obj)}{σ:St}{H:Hp}{s:Shared}{T:String}{x:V}{v:Value}(I:Inv X pins σ H s)(r:zaz x v)(ty:tyV X.K T x H):
  s.TypeIs v T∧∀a,v=.ref a→∃ob,s.heap.get? a=some ob∧ob.dict=none:=by
 cases x with
 | str z=>
  obtain⟨t,rfl⟩:=r
  cases (show T="str" from ty)
  exact⟨typeIs_str s z t,λ_ e=>nomatch e⟩
 | int i=>
  obtain⟨t,rfl⟩:=r
  cases (show T="int" from ty)
  exact⟨typeIs_int s i t,λ_ e=>nomatch e⟩
 | ref p=>
  cases r
  rcases ty with ⟨rfl,xs,hq⟩ | ⟨rfl,o,hk,hc,hd⟩ | ⟨rfl,hk⟩ | ⟨rfl,S,n,hk⟩
  ·obtain⟨its,_,pl,_⟩:=I.list hq
   refine⟨pl.isList.typeIs,λa e=>?_⟩
   cases e
   obtain⟨o,n,e,c,hd,_⟩:=pl
   exact⟨o,e,hd⟩
  ·refine⟨⟨o,I.kIn p o hk,hc⟩,λa e=>?_⟩
   cases e
   exact⟨o,I.kIn _ o hk,hd⟩
  ·have z:∃o,s.heap.get? p=some o∧o.ExactDict:=by
    rcases hk with ⟨kvs,hk⟩ | ⟨kvs,hk⟩
    ·obtain⟨_,_,_,_,o,_,_,e,ex,_⟩:=I.hok p _ hk
     exact⟨o,e,ex⟩
    ·obtain⟨_,_,_,_,o,_,_,e,ex,_⟩:=I.hok p _ hk
     exact⟨o,e,ex⟩
   obtain⟨o,e,ex⟩:=z
   refine⟨⟨o,e,ex.1⟩,λa e2=>?_⟩
   cases e2
   exact⟨o,e,ex.2.1⟩
  ·obtain⟨o,_,_,_,e,ex,_⟩:=I.hok p _ hk
   refine⟨⟨o,e,ex.1⟩,λa e2=>?_⟩
   cases e2
   exact⟨o,e,ex.2.1⟩
 | _=>exact False.elim ty
def tBM0 (K:PySem.W.Frag)(T:String)(r:V→List V→Hp→VK→Prop)(to:TE):TE:=λσ H Q=>to σ H λx H1=>tyV K T x H1∧r x [] H1 Q
def tBM (K:PySem.W.Frag)(T:String)(r:V→List V→Hp→VK→Prop)(to:TE)(t:TA):TE:=λσ H Q=>to σ H λx H1=>tyV K T x H1∧t σ H1 λxs H2=>r x xs H2 Q
variable {o e:Expr}{es:List Expr}{to:TE}{t:TA}{name:Str}{apos cpos:Pos}{T id:String}{r:V→List V→Hp→VK→Prop}
theorem zrS (pa:PlainAttrs T)(slot:Slot T name id)(hty:typeOf (.builtin id)=pure (.type "method_descriptor"))(hm:MtR X id r)(ho:PE X o to)
  (hbase:attributeBase o name X.env (eval o X.env)=eval o X.env:=by rfl)(hline:(apos.endLine==cpos.line)=true:=by rfl):PE X (.Call (.Attribute o name apos) [] [] cpos) (tBM0 X.K T r to):=by
 intro pins s σ H Q I h
 refine wpAny_Call_method0_late hbase hline (thn (ho pins s σ H _ I h) λv s1 ⟨x,H1,I1,r1,ty,q1⟩=>?_)
 obtain⟨h1,h2⟩:=zpM I1 r1 ty
 exact⟨T,id,pa,slot,hty,h1,h2,Calls.callWith_builtin rfl (PySem.evalArgs_none (hm pins s1 σ H1 x [] v [] Q I1 r1 .nil q1))⟩
theorem zqn (pa:PlainAttrs T)(slot:Slot T name id)(hty:typeOf (.builtin id)=pure (.type "method_descriptor"))(hm:MtR X id r)(ho:PE X o to)(ha:PA X (e::es) t)
  (hbase:attributeBase o name X.env (eval o X.env)=eval o X.env:=by rfl)
  (hfew:((backTo cpos (starEach (e::es) X.env)).all (λx=>!x.1)&&(backToKw cpos (keywordEach [] X.env)).all (λx=>x.1.isSome)
  &&decide ((e::es).length+([]:List Keyword).length+(if ([]:List Keyword).isEmpty then 0 else 1)<30))=true:=by rfl)
  (hline:(apos.endLine==cpos.line)=true:=by rfl)(hs:starEach (e::es) X.env=(false,eval e X.env)::starEach es X.env:=by rfl)(hplain:(backTo cpos (starEach es X.env)).any (·.1)=false:=by rfl):
  PE X (.Call (.Attribute o name apos) (e::es) [] cpos) (tBM X.K T r to t):=by
 intro pins s σ H Q I h
 refine wpAny_Call_method_late hbase hfew hline rfl (thn (ho pins s σ H _ I h) λv s1 ⟨x,H1,I1,r1,ty,q1⟩=>?_)
 obtain⟨h1,h2⟩:=zpM I1 r1 ty
 refine⟨T,id,pa,slot,hty,h1,h2,?_⟩
 have hA:=ha cpos pins s1 σ H1 _ I1 q1
 rw[hs] at hA ⊢
 refine Calls.callWith_builtin (by show (false||(backTo cpos (starEach es X.env)).any (·.1))=false; rw[hplain] <;> rfl) (Calls.evalArgs_plain ?_)
 exact thn hA λus s2 ⟨vs,H2,I2,r2,q2⟩=>hm pins s2 σ H2 x vs v us Q I2 r1 r2 q2
end
end L2
namespace L2
open PySem PySem.Spec PyProof.Rows
def MtM (X:Cx)(id:String)(r:V→List V→Hp→VK→Prop):Prop:=
 ∀(pins:List (Addr×Obj)) (s:Shared) (σ:St) (H:Hp) (x:V) (xs:List V) (v:Value) (us:List Value) (Q:VK),Inv X pins σ H s→zaz x v→zaD xs us→r x xs H Q→
  wpAny (model X.prog X.w) X.A (call (.builtin id) (v::us)) (EP X pins σ Q) X.xe s
theorem zaD.one:∀ {x:V} {us:List Value},zaD [x] us→∃u,us=[u]∧zaz x u
 | _,_,.cons r .nil=>⟨_,rfl,r⟩
section
variable {X:Cx}{pins:List (Addr×Obj)}{σ:St}{H:Hp}{s:Shared}{l b:Addr}{xs ys zs:List V}
theorem Inv.lset {its its':List Value}{n:Nat}{f:Array Value→Array Value}{t':Nat}(I:Inv X pins σ H s)(hH:H l=some (.lst xs))
  (e:s.heap.get? l=some { cls:=.type "list",data:=.seq its.toArray n })(hf:f its.toArray=its'.toArray)(hv:zaD ys its')(hz:ys.length≤sizeLine):
  Inv X pins σ (upd H l (.lst ys)) { s with heap:=s.heap.update l (Obj.mapSeq f),toks:=t' }:=by
 have q:=PySem.IsL.update e f
 rw[hf] at q
 refine I.write (x:=l) (e:=l) (by rw[hH]; exact trivial) (.inl rfl) (λb' u hb hu=>(Heap.get?_update_other s.heap (Obj.mapSeq f) (Ne.symm hb)).trans hu) ⟨_,q⟩ ?_
 exact⟨hz,its',_,hv,q⟩
theorem Inv.lnew {its:List Value}{t':Nat}(I:Inv X pins σ H s)(hv:zaD ys its)(hz:ys.length≤sizeLine):
  Inv X pins σ (upd H s.heap.objs.size (.lst ys)) { s with heap:=s.heap.push { cls:=.type "list",data:=.seq its.toArray },toks:=t' }:=
 I.laid (λ_ _ q=>Heap.get?_push_of_some _ q) (Vab _) ⟨hz,its,0,hv,Heap.get?_push_size _ rfl⟩
theorem Inv.fresh (I:Inv X pins σ H s):H s.heap.objs.size=none:=I.hok.fresh (Vab _)
theorem Inv.lstM (I:Inv X pins σ H s)(hH:H l=some (.lst xs)):xs.length≤sizeLine∧∃(its:List Value) (n:Nat),zaD xs its∧xs.length=its.length∧s.heap.get? l=some { cls:=.type "list",data:=.seq its.toArray n }:=by
 obtain⟨z,its,n,r,e⟩:=I.hok l _ hH
 exact⟨z,its,n,r,r.length,e⟩
end
section
variable {X:Cx}
def zvR:V→List V→Hp→VK→Prop:=λx vs H Q=>∃l xs y,x=.ref l∧vs=[y]∧H l=some (.lst xs)∧xs.length<sizeLine∧Q .non (upd H l (.lst (xs++[y])))
theorem zqX:MtM X "list.append" zvR:=by
 intro pins s σ H x vs v us Q I rx rv h
 obtain⟨l,xs,y,rfl,rfl,hH,hz,q⟩:=h
 cases rx
 obtain⟨u,rfl,ru⟩:=rv.one
 obtain⟨z,its,n,r,hl,e⟩:=I.lstM hH
 refine call_meets F.slot_list_append ⟨_,e,rfl⟩ F.entry_list_append (F.args_list_append_2 _ _) (PySem.list_append l its.toArray n u (by rw[Val]; omega)) ⟨e,?_⟩
 refine⟨.non,_,I.lset (its':=its++[u]) hH e (by simp) (r.append (.cons ru .nil)) ?_,rfl,q⟩
 rw[Vay,List.length_singleton]
 omega
def rCat:R2:=λx y H Q=>∃l b xs zs,x=.ref l∧y=.ref b∧H l=some (.lst xs)∧H b=some (.lst zs)∧xs.length+zs.length≤sizeLine∧∀p,H p=none→Q (.ref p) (upd H p (.lst (xs++zs)))
theorem zwu:OpR X (binaryOp .Add) rCat:=by
 intro pins s σ H x y v u Q I rx ry h
 obtain⟨l,b,xs,zs,rfl,rfl,hH,hB,hz,q⟩:=h
 cases rx
 cases ry
 obtain⟨z,its,n,r,hl,e⟩:=I.lstM hH
 obtain⟨z2,its2,n2,r2,hl2,e2⟩:=I.lstM hB
 refine PySem.P.add_list e e2 ?_ (by rw[Val,Val]; omega)
 have ea:its.toArray++its2.toArray=(its++its2).toArray:=by simp
 rw[ea]
 exact⟨.ref _,_,I.lnew (t':=s.toks) (r.append r2) (by rw[Vay]; omega),rfl,q _ I.fresh⟩
end
section
variable {prog:Program}{w:World}{A:Around}{E:Value→Shared→Prop}{s:Shared}
set_option maxRecDepth 100000 in
end
section
variable {X:Cx}
end
end L2
namespace Att
open PySem PySem.W PySem.Calls PyProof.Rows
theorem zxB {P:Params}{h:Heap}:∀(ns:List Int) (vs:List Value),WellAll P h vs (ns.map WData.int)→IntsAre vs ns:=by
 intro ns
 induction ns with
 | nil=>
  intro vs w
  rw[List.map_nil] at w
  cases w
  exact .nil
 | cons n ns ih=>
  intro vs w
  rw[VaB] at w
  cases w with
  | cons a b=>
   cases a
   exact .cons _ _ (ih _ b)
theorem zu1 {l:OpenLaw}{n:Nat}(hn:l.most=some n){P:Params}{h:Heap}{args:List WData}{vals:List Value}
  (hpre:l.row.toRowW.claim.pre args=true)(hwl:WellAll P h vals args):
  ∃a vs ns,vals=[Value.ref a]∧args=[WData.list (ns.map WData.int)]∧h.get? a=some { cls:=.type "list",data:=.seq vs.toArray }∧IntsAre vs ns∧ns.length≤n:=by
 have hsh:WShape.hasAll [] args [.list .int]=true:=(pre_splitW hpre).1
 have hc:l.pre.holds [] { args:=args }=true:=(pre_splitW hpre).2
 obtain⟨d,r,rfl,h1,h2⟩:=hasAllW_cons hsh
 obtain rfl:=hasAllW_nil h2
 obtain⟨xs,rfl,h3⟩:=hasW_list h1
 obtain⟨ns,rfl⟩:=items_int h3
 have hlen:ns.length≤n:=by
  unfold OpenLaw.pre at hc
  have h4:(WTm.not (.lt (.lit (.int (n:Int))) (.len (.arg 0)))).holds [] { args:=[.list (ns.map .int)] }=true:=by
   have h4:=(holds_andW hc).1
   rw[hn] at h4
   exact h4
  have h5:=condW_of h4 (w_not (w_lt w_lit (w_len_list (w_arg rfl))))
  rw[Vaa] at h5
  refine Nat.le_of_not_lt λq=>?_
  have q':(n:Int)<((ns.length:Nat):Int):=by omega
  first
   | (rw[decide_eq_true q'] at h5; exact absurd h5 (by decide))
   | (simp at h5; omega)
 cases hwl with
 | cons w1 w2=>
  cases w2
  cases w1 with
  | list ho hall=>exact⟨_,_,ns,rfl,rfl,ho,zxB ns _ hall,hlen⟩
theorem zsW (l:OpenLaw)(args:List WData):l.row.toRowW.claim.post args (.bool true) args=true:=
 postW_of (r:=l.row.toRowW) (X:=(true==true))
  (show WShape.has [] (.bool true) .bool=true by first | rfl | decide | simp[WShape.has,WShape.arms,WShape.armsAll])
  (show (WTm.eq .res (.lit (.bool true))).value [] { args:=args,res:=some (.bool true),after:=args }=some (.bool (true==true)) from w_eq_bool (w_res rfl) w_lit) rfl
theorem attach_call {l:OpenLaw}{n:Nat}{q:Program}{loose:List Str}{XP:(Str→Option Value)→Heap→Prop}{YP:World→Heap→Prop}{d:DefRec}
  (hn:l.most=some n)(hdf:d.params.defaults=[])
  (call:∀(w:World) (s₀ s₁:Shared) (mg mb:Str→Option Value) (fa:Addr) (o:Obj) (pm cd doc:Value) (a:Addr) (vs:List Value) (ns:List Int),
   Ground q loose [] XP w s₀ mg mb s₁.heap→YP w s₁.heap→
   s₁.heap.get? fa=some o→o.data=.func (docDef d.name d.params d.body d.scope pm cd doc)→s₁.heap.CodeRec cd d.name→mg d.name=some (.ref fa)→
   s₁.heap.get? a=some { cls:=.type "list",data:=.seq vs.toArray }→IntsAre vs ns→ns.length≤n→s₁.gens=#[]→
   codeAny (model l.prog w) callerA (.call (.ref fa) ⟨[.ref a],[]⟩) (λr s'=>r=.ok (.ret (.bool true))∧OldK s₁.heap s'.heap∧s'.os=s₁.os∧AllBare s'.gens) s₁):
  WalkO q loose XP YP l.row.toRowW d [] (λf vs=>PySem.call f vs):=by
 intro w s₀ s₁ mg mb G Y fa o pm cd doc dV kV ho hd hcd hD hmg hg args vals as hpre hlay hrd hwl hlo
 obtain rfl:dV=.none:=Dflts.none hD hdf
 obtain rfl:kV=.none:=Dflts.noKw hD
 obtain⟨a,vs,ns,rfl,rfl,hobj,hints,hlen⟩:=zu1 hn hpre hwl
 refine enter_call (codeAny_mono (call w s₀ s₁ mg mb fa o pm cd doc a vs ns G Y ho (fd_plain hd) hcd hmg hobj hints hlen hg) λr s' hq=>?_)
 obtain⟨rfl,h2,h3,h4⟩:=hq
 exact⟨.inl ⟨.bool true,.bool true,[],rfl,λ_=>rfl,.bool true,zsW l _,λ_=>⟨List.Pairwise.nil,λ_ hm=>(nomatch hm)⟩⟩,h2,h3,h4⟩
section
variable {prog:Program}{w:World}{A:Around}{E:Value→Shared→Prop}{s:Shared}{K:Frag}
end
end Att
namespace L2
open PySem PySem.Spec PyProof.Rows
theorem zlN:∀ {vs:List Value} {ns:List Int},IntsAre vs ns→zaD (ns.map V.int) vs
 | _,_,.nil=>.nil
 | _,_,.cons n t h=>.cons ⟨t,rfl⟩ (zlN h)
def zhC (H:Hp):Prop:=∀b,H b=none∨∃o xs,H b=some (.frz o (.lst xs))
theorem ztS {P:Program}{w:World}{K:PySem.W.Frag}{mg mb:Str→Option Value}{CX:CXT}{k:Nat}{fa a:Addr}{fd:FuncData}{x:Str}{sp:Sp}{s₁:Shared}{vs:List Value}{ns:List Int}
  (KX:K.In s₁.heap)(hns:s₁.heap.Ns mainGlobals mg)(hb:s₁.heap.Ns builtinsNs mb)(hbb:∀x:Str,x≠"__name__"→mb x=bootBuiltins x)(hlim:s₁.heap.NoLimit)(hg:s₁.gens=#[])
  (ha:s₁.heap.get? a=some { cls:=.type "list",data:=.seq vs.toArray })(hi:IntsAre vs ns)(hl:ns.length≤sizeLine)(hr:zaU k callerA)
  (F:∀base:Heap,K.In base→base.Ns mainGlobals mg→zbj P w K mg base CX k fa fd [x] sp)(hbind:∀(s:Shared) (u:Value),BindsTo s fd ⟨[u],[]⟩ [(x,u)])
  (hsp:∀H:Hp,zhC H→SqL K H a (ns.map V.int)→sp [.ref a] H (λv _=>v=.bl true) λ_ _ _=>False)
  (hCX:∀H e s',CX [] H s₁ (λ_ _ _=>False) e s'→False):
  codeAny (model P w) callerA (.call (.ref fa) ⟨[.ref a],[]⟩) (λr s'=>r=.ok (.ret (.bool true))∧OldK s₁.heap s'.heap∧s'.os=s₁.os∧AllBare s'.gens) s₁:=by
 have rv:=zlN hi
 have lenV:=hi.length
 have core:∀H:Hp,zhC H→SqL K H a (ns.map V.int)→HOk P w H s₁.heap→(∀b,H b≠none→b=a)→(H a≠none→K.lookup a=none)→
   codeAny (model P w) callerA (.call (.ref fa) ⟨[.ref a],[]⟩) (λr s'=>r=.ok (.ret (.bool true))∧OldK s₁.heap s'.heap∧s'.os=s₁.os∧AllBare s'.gens) s₁:=by
  intro H hO hS hok hA hK
  have base_of:∀ {b:Addr} {o:Obj},s₁.heap.get? b=some o→H b=none→(zcU s₁.heap H).get? b=some o:=λe n=>zwP e n
  have noA:∀ {b:Addr} {o:Obj} {es:Array DictEntry} {ep:Nat},s₁.heap.get? b=some o→o.data=.dict es ep→H b=none:=λ{b o es ep} e d=>by
   cases q:H b with
   | none=>rfl
   | some u=>
    have e':b=a:=hA b (by rw[q]; simp)
    subst e'
    rw[ha] at e; cases e
    have d':Data.seq vs.toArray _=Data.dict es ep:=d
    cases d'
  have nsK:∀ {b:Addr} {m:Str→Option Value},s₁.heap.Ns b m→(zcU s₁.heap H).Ns b m:=λ{b m} ⟨o,es,ep,e,d,r⟩=>⟨o,es,ep,base_of e (noA e d),d,r⟩
  have hKb:K.In (zcU s₁.heap H):=λb o e=>base_of (KX b o e) (by
   cases q:H b with
   | none=>rfl
   | some u=>
    have e':b=a:=hA b (by rw[q]; simp)
    subst e'
    rw[hK (by rw[q]; simp)] at e; cases e)
  have hM:Mod K mg (zcU s₁.heap H):=⟨hKb,nsK hns,⟨mb,nsK hb,hbb⟩,let ⟨mc,h1,h2⟩:=hlim; ⟨mc,nsK h1,h2⟩⟩
  have e0:zdQ P w K mg (zcU s₁.heap H) callerA [] s₁ H:=⟨rfl,hM,λb o e=>zvO e,Nat.le_of_eq (zt4 _ _),trivial,λb hb=>absurd (show b∈([]:List Addr) from hb) (by simp),hok,.of_eq hg⟩
  refine codeAny_mono ((F _ hKb (nsK hns)).run callerA [] s₁ H ⟨[.ref a],[]⟩ [.ref a] [.ref a] _ _ hr e0 (hbind s₁ (.ref a)) (.cons rfl .nil) (hsp H hO hS)) λr s' h=>?_
  cases r with
  | error e=>exact(hCX H e s' h).elim
  | ok fl=>
   cases fl with
   | next=>exact False.elim h
   | brk=>exact False.elim h
   | cont=>exact False.elim h
   | ret u=>
    obtain⟨v,H',os,bare,un,hok',r',q⟩:=h
    have q':v=.bl true:=q
    subst q'
    obtain rfl:u=Value.bool true:=r'
    refine⟨rfl,OldK.of_keep λb o e=>?_,os,bare⟩
    cases q:H b with
    | none=>exact un.keep b o e q (by intro z; exact absurd (show b∈([]:List Addr) from z) (by simp)) (by simp)
    | some u=>
     rcases hO b with z | ⟨ob,xs,z⟩
     ·rw[q] at z; cases z
     ·have z2:=un.frzs b ob _ z
      obtain⟨e1,_⟩:=hok b _ z
      obtain⟨e2,_⟩:=hok' b _ z2
      rw[e] at e1; cases e1
      exact e2
 cases hk:K.lookup a with
 | some o=>
  have e:=KX a o hk
  rw[ha] at e
  cases e
  refine core (λ_=>none) (λ_=>.inl rfl) (.inr ⟨_,vs.toArray,_,hk,rfl,rfl,rfl,by rw[Val,lenV]; exact hl,by simpa using rv⟩) (λb u z=>by have z':(none:Option HO)=some u:=z; cases z') (λb z=>absurd rfl z) λz=>absurd rfl z
 | none=>
  refine core (λb=>if b=a then some (.frz { cls:=.type "list",data:=.seq vs.toArray } (.lst (ns.map V.int))) else none) (λb=>?_) (.inl (.inr ⟨{ cls:=.type "list",data:=.seq vs.toArray },if_pos rfl⟩)) (λb u z=>?_) (λb z=>?_) λ_=>hk
  ·by_cases hb:b=a
   ·exact .inr ⟨_,_,if_pos hb⟩
   ·exact .inl (if_neg hb)
  ·by_cases hb:b=a
   ·have z':=(if_pos hb).symm.trans z
    cases z'
    subst hb
    exact⟨ha,by rw[Vaa]; exact hl,vs,_,rv,ha⟩
   ·have z':=(if_neg hb).symm.trans z
    cases z'
  ·by_cases hb:b=a
   ·exact hb
   ·exact absurd (if_neg hb) z
end L2
namespace L2
open PySem PySem.Spec PyProof.Rows
theorem zt7 {l:PySem.W.OpenLaw}{n k:Nat}{q:Program}{loose:List Str}{XP:(Str→Option Value)→Heap→Prop}{YP:World→Heap→Prop}{d:DefRec}{K:Params→PySem.W.Frag}{CX:World→CXT}{sp:World→Sp}{x:Str}
  (hn:l.most=some n)(hn2:n≤sizeLine)(hdf:d.params.defaults=[])(hr:zaU k callerA)
  (hY:∀(w:World) (h:Heap),YP w h→(K w.params).In h)
  (F:∀(w:World) (mg:Str→Option Value) (fa:Addr) (h:Heap),(K w.params).In h→h.Ns mainGlobals mg→mg d.name=some (.ref fa)→
   ∃fd:FuncData,(∀(s:Shared) (u:Value),BindsTo s fd ⟨[u],[]⟩ [(x,u)])∧
    ∀base:Heap,(K w.params).In base→base.Ns mainGlobals mg→zbj l.prog w (K w.params) mg base (CX w) k fa fd [x] (sp w))
  (hsp:∀(w:World) (H:Hp) (a:Addr) (ns:List Int),ns.length≤n→zhC H→SqL (K w.params) H a (ns.map V.int)→sp w [.ref a] H (λv _=>v=.bl true) λ_ _ _=>False)
  (hCX:∀(w:World) (H:Hp) (s:Shared) (e:Value) (s':Shared),CX w [] H s (λ_ _ _=>False) e s'→False):
  PySem.W.WalkO q loose XP YP l.row.toRowW d [] (λf vs=>PySem.call f vs):=by
 refine Att.attach_call hn hdf λw s₀ s₁ mg mb fa o pm cd doc a vs ns G Y ho hd hcd hmg hobj hints hlen hg=>?_
 have KX:=hY w _ Y
 obtain⟨fd,hb,hF⟩:=F w mg fa _ KX G.T.g hmg
 exact ztS KX G.T.g G.T.b G.T.builtins G.T.nolimit hg hobj hints (VaC hlen hn2) hr hF hb (λH hO hS=>hsp w H a ns hlen hO hS) λH e s'=>hCX w H s₁ e s'
end L2
namespace L2
open PySem PySem.Spec PyProof.Rows
structure Fun (K:PySem.W.Frag)(x qual:Str)(st:Stmt)(f:Addr)(fd:FuncData):Prop where
 ex:∃(oc:Value) (od:Option Addr) (kV doc pm:Value) (an:Option Addr) (cdv ct:Value) (osl:Array (Option Value)),
  fd=PySem.W.fnOf x qual (zd6 st) (zdG st) (zas st) .none kV doc pm an cdv ct∧K.lookup f=some ⟨oc,od,.func fd,osl⟩∧PySem.W.codeIn K cdv qual=true
 kp:PySem.W.keepIn K (.ref f)=true
section
variable {P:Program}{w:World}{K:PySem.W.Frag}{mg:Str→Option Value}{base:Heap}
theorem Fun.binds {x qual:Str}{st:Stmt}{f:Addr}{fd:FuncData}{ps:List Str}(F:Fun K x qual st f fd)
  (h:∀(kV doc pm:Value) (an:Option Addr) (cdv ct:Value) (us:List Value),us.length=ps.length→bindArgs (PySem.W.fnOf x qual (zd6 st) (zdG st) (zas st) .none kV doc pm an cdv ct) ⟨us,[]⟩=pure (ps.zip us)):zbI K fd ps []:=by
 obtain⟨oc,od,kV,doc,pm,an,cdv,ct,osl,rfl,lk,hcd⟩:=F.ex
 exact .all (h kV doc pm an cdv ct)
theorem zkU {x qual:Str}{st:Stmt}{f:Addr}{oc:Value}{od an:Option Addr}{osl:Array (Option Value)}{kV doc pm cdv ct:Value}(l:K.lookup f=some ⟨oc,od,.func (PySem.W.fnOf x qual (zd6 st) (zdG st) (zas st) .none kV doc pm an cdv ct),osl⟩)
  (c:PySem.W.codeIn K cdv qual=true)(k:PySem.W.keepIn K (.ref f)=true):Fun K x qual st f (PySem.W.fnOf x qual (zd6 st) (zdG st) (zas st) .none kV doc pm an cdv ct):=⟨⟨oc,od,kV,doc,pm,an,cdv,ct,osl,rfl,l,c⟩,k⟩
end
theorem znv {n:Nat}(h:n≤1000):n<sizeLine:=Nat.lt_of_le_of_lt h (by decide)
section
variable {X:Cx}
theorem pv (i:Nat){x:Str}{pos:Pos}(hN:X.N[i]?=some x:=by rfl)(hv:Vis X.env.scope x:=by first | exact Or.inl rfl | exact Or.inr (Or.inl rfl) | exact Or.inr (Or.inr rfl))(hd:(x==("__debug__":Str))=false:=by decide)
  (hcd:(x==("__classdict__":Str))=false:=by decide):PE X (.Name x pos) (tVar i):=zpD hN hv hd hcd
end
theorem zbJ {A B:Prop}(h:B):if false=true then A else B:=by
 rw[if_neg Vak]
 exact h
theorem zck {A B:Prop}(h:A):if true=true then A else B:=by
 rw[if_pos rfl]
 exact h
theorem zey {c A B:Prop} [Decidable c] (h1:c→A)(h2:¬ c→B):if c then A else B:=by
 by_cases h:c
 ·rw[if_pos h]
  exact h1 h
 ·rw[if_neg h]
  exact h2 h
end L2
namespace L2
open PySem PySem.Spec PyProof.Rows
section
variable {κ:Type} [DecidableEq κ]
end
abbrev KT (H:Hp):List (List Key×V)→List (List Key×Addr×Value)→Prop:=Paired λp q=>p.1=q.1∧H q.2.1=some (.tup (p.1.map kV))∧zaz p.2 q.2.2
section
variable {P:Program}{w:World}{H:Hp}{h:Heap}{a:Addr}
end
section
variable {X:Cx}{pins:List (Addr×Obj)}{σ:St}{H:Hp}{s:Shared}{a:Addr}{y v:V}{u r:Value}{o:Option V}{A:Around}{E:Value→Shared→Prop}
end
section
variable {X:Cx}{pins:List (Addr×Obj)}{σ:St}{H:Hp}{s:Shared}{a:Addr}{kvs:List (Key×V)}{k:Key}{u:Value}{A:Around}{E:Value→Shared→Prop}
end
section
variable {X:Cx}{o i e value:Expr}{pos pos' tpos:Pos}{td ty tv:TE}
end
section
variable {X:Cx}{pos:Pos}
end
section
variable {X:Cx}{pins:List (Addr×Obj)}{σ:St}{H:Hp}{s:Shared}{a:Addr}{y d:V}{u r:Value}{o:Option V}{A:Around}{E:Value→Shared→Prop}
end
section
variable {X:Cx}{o e f:Expr}{apos cpos:Pos}{td ty tx:TE}
end
section
variable {X:Cx}{pins:List (Addr×Obj)}{σ:St}{H:Hp}{s:Shared}{a:Addr}{kvs:List (Key×V)}{A:Around}{E:Value→Shared→Prop}
end
section
variable {X:Cx}{pins:List (Addr×Obj)}{σ:St}{H:Hp}{s:Shared}{a:Addr}{y:V}{u:Value}{A:Around}{E:Value→Shared→Prop}
end
end L2
namespace L3
open PySem PySem.Spec PyProof.Rows L2
abbrev St:=L2.St
inductive D where
 | non | bl (b:Bool) | int (i:Int) | str (x:Str) | tup (xs:List D) | ref (n:Nat) | exc (c:Addr)
inductive Ob where
 | lst (xs:List D) | frz (xs:List D)
  | ins (C:Addr) (fs:List (Str×D))
  | dct (kvs:List (List Key×D))
abbrev Sto:=List Ob
abbrev Ev:=List (Option D)
abbrev DK:=D→Sto→Prop
abbrev TDE:=Ev→Sto→DK→Prop
abbrev TDT:=Ev→Sto→(Bool→Sto→Prop)→Prop
abbrev TDA:=Ev→Sto→(List D→Sto→Prop)→Prop
structure zcD where
 nx:Ev→Sto→Prop
 rt:DK
 bk:Ev→Sto→Prop:=λ_ _=>False
 ct:Ev→Sto→Prop:=λ_ _=>False
abbrev TDS:=zcD→Ev→Sto→Prop
def isX (a c:Addr):HO:=.ext λh=>∃o,h.get? a=some o∧o.cls=.ref c
inductive Rp (r:List Addr)(H:Hp):D→V→Prop
 | non:Rp r H .non .non
 | bl (b:Bool):Rp r H (.bl b) (.bl b)
 | int (i:Int):Rp r H (.int i) (.int i)
 | str (x:Str):Rp r H (.str x) (.str x)
 | tup {ds:List D} {xs:List V} {a:Addr}:H a=some (.tup xs)→ds.length=xs.length→(∀(i:Nat) (d:D) (v:V),ds[i]?=some d→xs[i]?=some v→Rp r H d v)→Rp r H (.tup ds) (.ref a)
 | ref {n:Nat} {a:Addr}:r[n]?=some a→Rp r H (.ref n) (.ref a)
 | exc {c a:Addr}:H a=some (isX a c)→Rp r H (.exc c) (.ref a)
def Rps (r:List Addr)(H:Hp)(ds:List D)(vs:List V):Prop:=ds.length=vs.length∧∀(i:Nat) (d:D) (v:V),ds[i]?=some d→vs[i]?=some v→Rp r H d v
structure Ext (r r':List Addr)(H H':Hp):Prop where
 adr:∀(n:Nat) (a:Addr),r[n]?=some a→r'[n]?=some a
 tup:∀a xs,H a=some (.tup xs)→H' a=some (.tup xs)
 xc:∀a c,H a=some (isX a c)→H' a=some (isX a c)
section
variable {r r' r2:List Addr}{H H' H2:Hp}{d:D}{v:V}{ds:List D}{vs:List V}
theorem Ext.refl:Ext r r H H:=⟨λ_ _ h=>h,λ_ _ h=>h,λ_ _ h=>h⟩
theorem Ext.trans (a:Ext r r' H H')(b:Ext r' r2 H' H2):Ext r r2 H H2:=⟨λn x h=>b.adr n x (a.adr n x h),λx y h=>b.tup x y (a.tup x y h),λx y h=>b.xc x y (a.xc x y h)⟩
theorem Rp.ext (h:Rp r H d v)(e:Ext r r' H H'):Rp r' H' d v:=by
 induction h with
 | non=>exact .non
 | bl b=>exact .bl b
 | int i=>exact .int i
 | str x=>exact .str x
 | tup h l _ ih=>exact .tup (e.tup _ _ h) l ih
 | ref h=>exact .ref (e.adr _ _ h)
 | exc h=>exact .exc (e.xc _ _ h)
theorem Rps.ext (h:Rps r H ds vs)(e:Ext r r' H H'):Rps r' H' ds vs:=⟨h.1,λi d v h1 h2=>(h.2 i d v h1 h2).ext e⟩
theorem Rps.nil:Rps r H [] []:=⟨rfl,λi d v h=>by simp at h⟩
theorem Rps.cons (h:Rp r H d v)(t:Rps r H ds vs):Rps r H (d::ds) (v::vs):=by
 refine⟨by simp[t.1],λi x y h1 h2=>?_⟩
 cases i with
 | zero=>
  simp at h1 h2
  subst h1; subst h2
  exact h
 | succ i=>exact t.2 i x y (by simpa using h1) (by simpa using h2)
theorem Rps.tail {y:V}(h:Rps r H (d::ds) (y::vs)):Rp r H d y∧Rps r H ds vs:=
 ⟨h.2 0 d y rfl rfl,by simpa using h.1,λi a b h1 h2=>h.2 (i+1) a b (by simpa using h1) (by simpa using h2)⟩
theorem Rps.uncons (h:Rps r H (d::ds) vs):∃v vs',vs=v::vs'∧Rp r H d v∧Rps r H ds vs':=by
 cases vs with
 | nil=>exact absurd h.1 (by simp)
 | cons v vs'=>exact⟨v,vs',rfl,h.tail⟩
theorem Rps.unnil (h:Rps r H [] vs):vs=[]:=by
 cases vs with
 | nil=>rfl
 | cons v vs'=>exact absurd h.1 (by simp)
theorem Rps.get {i:Nat}(h:Rps r H ds vs)(e:ds[i]?=some d):∃v,vs[i]?=some v∧Rp r H d v:=by
 have hi:i<ds.length:=(Vac.mp e).1
 have hv:i<vs.length:=by rw[← h.1]; exact hi
 exact⟨vs[i],by simp[hv],h.2 i d vs[i] e (by simp[hv])⟩
theorem Rps.get' {i:Nat}(h:Rps r H ds vs)(e:vs[i]?=some v):∃d,ds[i]?=some d∧Rp r H d v:=by
 have hv:i<vs.length:=(Vac.mp e).1
 have hi:i<ds.length:=by rw[h.1]; exact hv
 exact⟨ds[i],by simp[hi],h.2 i ds[i] v (by simp[hi]) e⟩
theorem Rps.snoc (h:Rps r H ds vs)(t:Rp r H d v):Rps r H (ds++[d]) (vs++[v]):=by
 refine⟨by simp[h.1],λi x y h1 h2=>?_⟩
 by_cases hi:i<ds.length
 ·rw[Vas hi] at h1
  rw[Vas (by rw[← h.1]; exact hi)] at h2
  exact h.2 i x y h1 h2
 ·have hl:i<(ds++[d]).length:=(Vac.mp h1).1
  have e:i=ds.length:=by simp at hl; omega
  subst e
  rw[VaP (Vab _)] at h1
  rw[h.1,VaP (Vab _)] at h2
  simp at h1 h2
  subst h1; subst h2
  exact t
theorem Rps.tupR {a:Addr}(h:Rps r H ds vs)(e:H a=some (.tup vs)):Rp r H (.tup ds) (.ref a):=.tup e h.1 h.2
theorem Rp.untup {vs:V}(h:Rp r H (.tup ds) vs):∃a xs,vs=.ref a∧H a=some (.tup xs)∧Rps r H ds xs:=by
 cases h with
 | tup e l f=>exact⟨_,_,rfl,e,l,f⟩
end
def SqF (K:PySem.W.Frag)(H:Hp)(a:Addr)(xs:List V):Prop:=
 (∃o,H a=some (.frz o (.lst xs)))∨
  ∃(o:Obj) (its:Array Value) (n:Nat),K.lookup a=some o∧o.cls=.type "list"∧o.dict=none∧o.data=.seq its n∧its.size≤sizeLine∧zaD xs its.toList
theorem SqF.sql {K:PySem.W.Frag}{H:Hp}{a:Addr}{xs:List V}(h:SqF K H a xs):SqL K H a xs:=by
 rcases h with ⟨o,h⟩ | h
 ·exact .inl (.inr ⟨o,h⟩)
 ·exact .inr h
def FR {α:Type}(r:List Addr)(H:Hp)(fs:List (α×D))(fs':List (α×V)):Prop:=fs.map (·.1)=fs'.map (·.1)∧Rps r H (fs.map (·.2)) (fs'.map (·.2))
theorem FR.ext {α:Type}{r r':List Addr}{H H':Hp}{fs:List (α×D)}{fs':List (α×V)}(h:FR r H fs fs')(e:Ext r r' H H'):FR r' H' fs fs':=⟨h.1,h.2.ext e⟩
theorem FR.nil {α:Type}{r:List Addr}{H:Hp}:FR (α:=α) r H [] []:=⟨rfl,Rps.nil⟩
def ObR (K:PySem.W.Frag)(r:List Addr)(H:Hp)(a:Addr):Ob→Prop
 | .lst ds=>∃xs,H a=some (.lst xs)∧Rps r H ds xs
 | .frz ds=>∃xs,SqF K H a xs∧Rps r H ds xs
 | .ins C fs=>∃dx fs',H a=some (.ins C dx fs')∧FR r H fs fs'
 | .dct kvs=>∃kvs',H a=some (.dT kvs')∧FR r H kvs kvs'
def zdH:Ob→Bool
 | .frz _=>false
 | _=>true
structure za5 (K:PySem.W.Frag)(r:List Addr)(S:Sto)(H:Hp):Prop where
 len:r.length=S.length
 ob:∀(n:Nat) (a:Addr) (o:Ob),r[n]?=some a→S[n]?=some o→ObR K r H a o
 nd:∀(n m:Nat) (a:Addr) (o u:Ob),r[n]?=some a→r[m]?=some a→S[n]?=some o→S[m]?=some u→zdH o=true→zdH u=true→n=m
def zat:Ob→List D
 | .lst ds=>ds
 | .frz ds=>ds
 | _=>[.exc 0]
def zb3:Ob→Option Ob
 | .lst ds=>some (.lst ds)
 | .frz ds=>some (.frz ds)
 | _=>none
def lAt (S:Sto)(n:Nat):Option Ob:=(S[n]?).bind zb3
theorem zr3 {o u:Ob}(h:zb3 o=some u):u=o:=by
 cases o <;> simp[zb3] at h <;> exact h.symm
theorem zbK {S:Sto}{n:Nat}{o:Ob}(h:lAt S n=some o):S[n]?=some o∧zb3 o=some o:=by
  unfold lAt at h
  cases q:S[n]? with
  | none=>
   rw[q] at h
   cases h
  | some u=>
    rw[q] at h
    have h':zb3 u=some o:=h
    have e:=zr3 h'
    subst e
    exact⟨rfl,h'⟩
theorem za9 {S:Sto}{n:Nat}{o:Ob}(h:S[n]?=some o)(hL:zb3 o=some o):lAt S n=some o:=by
 unfold lAt
 rw[h]
 exact hL
section
variable {K:PySem.W.Frag}{r r':List Addr}{S:Sto}{H H':Hp}{n:Nat}{a p:Addr}
theorem za5.at {o:Ob}(h:za5 K r S H)(e:S[n]?=some o):∃a,r[n]?=some a∧ObR K r H a o:=by
 have hn:n<S.length:=(Vac.mp e).1
 have hr:n<r.length:=by rw[h.len]; exact hn
 exact⟨r[n],by simp[hr],h.ob n r[n] o (by simp[hr]) e⟩
theorem ObR.list {o:Ob}(h:ObR K r H a o)(hL:zb3 o=some o):∃xs,SqL K H a xs∧Rps r H (zat o) xs:=by
 cases o with
 | lst ds=>obtain⟨xs,e,q⟩:=h; exact⟨xs,SqL.of e,q⟩
 | frz ds=>obtain⟨xs,e,q⟩:=h; exact⟨xs,e.sql,q⟩
 | ins C fs=>cases hL
 | dct kvs=>cases hL
theorem ObR.keep {o:Ob}(q:ObR K r H a o)(x:Ext r r' H H')(ha:∀u,H a=some u→H' a=some u):ObR K r' H' a o:=by
 cases o with
 | lst ds=>obtain⟨xs,h3,h4⟩:=q; exact⟨xs,ha _ h3,h4.ext x⟩
 | frz ds=>
  obtain⟨xs,h3,h4⟩:=q
  refine⟨xs,?_,h4.ext x⟩
  rcases h3 with ⟨o,h3⟩ | h3
  ·exact .inl ⟨o,ha _ h3⟩
  ·exact .inr h3
 | ins C fs=>obtain⟨dx,fs',h3,h4⟩:=q; exact⟨dx,fs',ha _ h3,h4.ext x⟩
 | dct kvs=>obtain⟨ks,h3,h4⟩:=q; exact⟨ks,ha _ h3,h4.ext x⟩
theorem ObR.own {o:Ob}(q:ObR K r H a o)(h:zdH o=true):∃u,H a=some u∧(∀xs,u≠HO.tup xs)∧(∀b c,u≠isX b c)∧∀z y,u≠HO.frz z y:=by
 cases o with
 | lst ds=>obtain⟨xs,h3,h4⟩:=q; exact⟨_,h3,(λ_ z=>by cases z),(λ_ _ z=>by cases z),(λ_ _ z=>by cases z)⟩
 | frz ds=>cases h
 | ins C fs=>obtain⟨dx,fs',h3,h4⟩:=q; exact⟨_,h3,(λ_ z=>by cases z),(λ_ _ z=>by cases z),(λ_ _ z=>by cases z)⟩
 | dct kvs=>obtain⟨ks,h3,h4⟩:=q; exact⟨_,h3,(λ_ z=>by cases z),(λ_ _ z=>by cases z),(λ_ _ z=>by cases z)⟩
theorem za5.same (h:za5 K r S H)(e:∀b o,H b=some o→H' b=some o):za5 K r S H':=
 ⟨h.len,λn a o h1 h2=>(h.ob n a o h1 h2).keep ⟨λ_ _ q=>q,λa xs q=>e _ _ q,λa c q=>e _ _ q⟩ (e a),h.nd⟩
theorem zdc {o:HO}(h:H p=none):∀b u,H b=some u→(upd H p o) b=some u:=λb u q=>by rw[zbc (zdp q h)]; exact q
theorem zlS {n:Nat}{b:Addr}(e:(r++[p])[n]?=some b):(n<r.length∧r[n]?=some b)∨(n=r.length∧b=p):=by
 by_cases hn:n<r.length
 ·rw[Vas hn] at e; exact .inl ⟨hn,e⟩
 ·have hl:n<(r++[p]).length:=(Vac.mp e).1
  have en:n=r.length:=by simp at hl; omega
  subst en
  rw[VaP (Vab _)] at e
  simp at e
  exact .inr ⟨rfl,e.symm⟩
theorem za5.pushO {o:Ob}(h:za5 K r S H)(hp:H p=none)(keep:∀b u,H b=some u→H' b=some u)(q:Ext r (r++[p]) H H'→ObR K (r++[p]) H' p o):za5 K (r++[p]) (S++[o]) H'∧Ext r (r++[p]) H H':=by
 have x:Ext r (r++[p]) H H':=⟨λn a e=>by
  have hn:n<r.length:=(Vac.mp e).1
  rw[Vas hn]; exact e,λa ys e=>keep _ _ e,λa c e=>keep _ _ e⟩
 have sS:∀ {n:Nat} {u:Ob},n<r.length→(S++[o])[n]?=some u→S[n]?=some u:=λ{n u} hn e=>by
  rw[Vas (by rw[← h.len]; exact hn)] at e; exact e
 refine⟨⟨by simp[h.len],λn a u h1 h2=>?_,λn m a u w h1 h2 h3 h4 o1 o2=>?_⟩,x⟩
 ·rcases zlS h1 with ⟨hn,e⟩ | ⟨rfl,rfl⟩
  ·exact(h.ob n a u e (sS hn h2)).keep x (keep a)
  ·rw[h.len,VaP (Vab _)] at h2
   simp at h2
   subst h2
   exact q x
 ·rcases zlS h1 with ⟨hn,e⟩ | ⟨rfl,rfl⟩
  ·rcases zlS h2 with ⟨hm,e'⟩ | ⟨rfl,rfl⟩
   ·exact h.nd n m a u w e e' (sS hn h3) (sS hm h4) o1 o2
   ·obtain⟨zs,h5,_⟩:=(h.ob n _ _ e (sS hn h3)).own o1
    rw[hp] at h5; cases h5
  ·rcases zlS h2 with ⟨hm,e'⟩ | ⟨rfl,_⟩
   ·obtain⟨zs,h5,_⟩:=(h.ob m _ _ e' (sS hm h4)).own o2
    rw[hp] at h5; cases h5
   ·rfl
theorem za5.push {ds:List D}{xs:List V}(h:za5 K r S H)(hp:H p=none)(q:Rps r H ds xs):za5 K (r++[p]) (S++[.lst ds]) (upd H p (.lst xs))∧Ext r (r++[p]) H (upd H p (.lst xs)):=
 h.pushO hp (zdc hp) λx=>⟨xs,zcL,q.ext x⟩
theorem za5.setO {o o':Ob}{u:HO}(h:za5 K r S H)(hn:r[n]?=some a)(hS:S[n]?=some o)(ho:zdH o=true)(ho':zdH o'=true)(q:Ext r r H (upd H a u)→ObR K r (upd H a u) a o'):za5 K r (S.set n o') (upd H a u)∧Ext r r H (upd H a u):=by
 obtain⟨u0,h0,t1,t2,t3⟩:=(h.ob n a _ hn hS).own ho
 have x:Ext r r H (upd H a u):=⟨λ_ _ e=>e,λb zs e=>by
  rw[zbc (znN e h0 (λz=>t1 zs z.symm))]; exact e,λb c e=>by
  rw[zbc (znN e h0 (λz=>t2 b c z.symm))]; exact e⟩
 have hlt:n<S.length:=(Vac.mp hS).1
 have off:∀ {m:Nat} {w:Ob},m≠n→(S.set n o')[m]?=some w→S[m]?=some w:=λ{m w} hm e=>by
  rw[VaO (Ne.symm hm)] at e; exact e
 refine⟨⟨by simp[h.len],λm b w h1 h2=>?_,λm k b w y h1 h2 h3 h4 o1 o2=>?_⟩,x⟩
 ·by_cases hm:m=n
  ·subst hm
   rw[hn] at h1; cases h1
   rw[VaN hlt] at h2
   cases h2
   exact q x
  ·have h2':=off hm h2
   have q':=h.ob m b w h1 h2'
   by_cases hw:zdH w=true
   ·have hb:b≠a:=λz=>hm (by subst z; exact h.nd m n b w o h1 hn h2' hS hw ho)
    exact q'.keep x λz e=>by rw[zbc hb]; exact e
   ·cases w with
    | frz es=>
     obtain⟨zs,h3,h4⟩:=q'
     refine⟨zs,?_,h4.ext x⟩
     rcases h3 with ⟨z,h3⟩ | h3
     ·exact .inl ⟨z,by rw[zbc (znN h3 h0 (λy=>t3 _ _ y.symm))]; exact h3⟩
     ·exact .inr h3
    | _=>exact absurd rfl hw
 ·have back:∀ {j:Nat} {w:Ob},(S.set n o')[j]?=some w→zdH w=true→∃y,S[j]?=some y∧zdH y=true:=λ{j w} e ow=>by
   by_cases hj:j=n
   ·subst hj; exact⟨o,hS,ho⟩
   ·exact⟨w,off hj e,ow⟩
  obtain⟨us',h3',q3⟩:=back h3 o1
  obtain⟨ws',h4',q4⟩:=back h4 o2
  exact h.nd m k b us' ws' h1 h2 h3' h4' q3 q4
theorem za5.set {ds ds':List D}{xs:List V}(h:za5 K r S H)(hn:r[n]?=some a)(hS:S[n]?=some (.lst ds))(q:Rps r H ds' xs):za5 K r (S.set n (.lst ds')) (upd H a (.lst xs))∧Ext r r H (upd H a (.lst xs)):=
 h.setO hn hS rfl rfl λx=>⟨xs,zcL,q.ext x⟩
end
def Rs (r:List Addr)(H:Hp)(dl:Ev)(σ:St):Prop:=dl.length=σ.length∧∀(i:Nat) (d:D),dl[i]?=some (some d)→∃v,σ[i]?=some (some v)∧Rp r H d v
theorem Rs.ext {r r':List Addr}{H H':Hp}{dl:Ev}{σ:St}(h:Rs r H dl σ)(e:Ext r r' H H'):Rs r' H' dl σ:=⟨h.1,λi d q=>by
 obtain⟨v,h1,h2⟩:=h.2 i d q
 exact⟨v,h1,h2.ext e⟩⟩
theorem Rs.set {r:List Addr}{H:Hp}{dl:Ev}{σ:St}{d:D}{v:V}(i:Nat)(h:Rs r H dl σ)(q:Rp r H d v):Rs r H (dl.set i (some d)) (σ.set i (some v)):=by
 refine⟨by simp[h.1],λj e hj=>?_⟩
 by_cases hij:i=j
 ·subst hij
  have hl:i<dl.length:=by
   have:=(Vac.mp hj).1
   simpa using this
  rw[VaN hl] at hj
  cases hj
  exact⟨v,by rw[VaN (by rw[← h.1]; exact hl)],q⟩
 ·rw[VaO hij] at hj
  obtain⟨v',h1,h2⟩:=h.2 j e hj
  exact⟨v',by rw[VaO hij]; exact h1,h2⟩
structure Zx where
 ex:Ev→Addr→Sto→Prop
 w:St→XK
abbrev Zc (ex:Addr→Sto→Prop)(E:XK):Zx:=⟨λ_=>ex,λ_=>E⟩
def zd9 (K:PySem.W.Frag)(Z:Zx)(r:List Addr)(H:Hp):Prop:=∀(dl:Ev) (σ:St) (c:Addr) (H':Hp) (r':List Addr) (S':Sto),Ext r r' H H'→Rs r' H' dl σ→za5 K r' S' H'→Z.ex dl c S'→Z.w σ (.ref c) none H'
theorem zd9.ext {K:PySem.W.Frag}{Z:Zx}{r r':List Addr}{H H':Hp}(h:zd9 K Z r H)(e:Ext r r' H H'):zd9 K Z r' H':=λdl σ c H2 r2 S2 x=>h dl σ c H2 r2 S2 (e.trans x)
structure Rel (K:PySem.W.Frag)(Z:Zx)(r:List Addr)(S:Sto)(H:Hp):Prop where
 b:za5 K r S H
 xw:zd9 K Z r H
section
variable {K:PySem.W.Frag}{Z:Zx}{r r':List Addr}{S:Sto}{H H':Hp}{n:Nat}{a p:Addr}
theorem Rel.len (h:Rel K Z r S H):r.length=S.length:=h.b.len
theorem Rel.at {o:Ob}(h:Rel K Z r S H)(e:S[n]?=some o):∃a,r[n]?=some a∧ObR K r H a o:=h.b.at e
theorem Rel.same (h:Rel K Z r S H)(e:∀b o,H b=some o→H' b=some o):Rel K Z r S H':=⟨h.b.same e,h.xw.ext ⟨λ_ _ q=>q,λa xs q=>e _ _ q,λa c q=>e _ _ q⟩⟩
theorem Rel.push {ds:List D}{xs:List V}(h:Rel K Z r S H)(hp:H p=none)(q:Rps r H ds xs):Rel K Z (r++[p]) (S++[.lst ds]) (upd H p (.lst xs))∧Ext r (r++[p]) H (upd H p (.lst xs)):=by
 obtain⟨h1,h2⟩:=h.b.push hp q
 exact⟨⟨h1,h.xw.ext h2⟩,h2⟩
theorem Rel.set {ds ds':List D}{xs:List V}(h:Rel K Z r S H)(hn:r[n]?=some a)(hS:S[n]?=some (.lst ds))(q:Rps r H ds' xs):Rel K Z r (S.set n (.lst ds')) (upd H a (.lst xs))∧Ext r r H (upd H a (.lst xs)):=by
 obtain⟨h1,h2⟩:=h.b.set hn hS q
 exact⟨⟨h1,h.xw.ext h2⟩,h2⟩
end
def Ret (K:PySem.W.Frag)(Z:Zx)(r:List Addr)(H:Hp)(Q:DK)(Qv:VK):Prop:=∀v H' r' d S',Ext r r' H H'→Rel K Z r' S' H'→Rp r' H' d v→Q d S'→Qv v H'
theorem Ret.ext {K:PySem.W.Frag}{Z:Zx}{r r':List Addr}{H H':Hp}{Q:DK}{Qv:VK}(h:Ret K Z r H Q Qv)(e:Ext r r' H H'):Ret K Z r' H' Q Qv:=λv H2 r2 d S2 x=>h v H2 r2 d S2 (e.trans x)
def up (K:PySem.W.Frag)(Z:Zx)(t:TDE):TE:=λσ H Qv=>∃r dl S Q,Rs r H dl σ∧Rel K Z r S H∧t dl S Q∧Ret K Z r H Q Qv
def upT (K:PySem.W.Frag)(Z:Zx)(t:TDT):TT:=λσ H Qb=>∃r dl S Q,Rs r H dl σ∧Rel K Z r S H∧t dl S Q∧∀b H' r' S',Ext r r' H H'→Rel K Z r' S' H'→Q b S'→Qb b H'
def upA (K:PySem.W.Frag)(Z:Zx)(t:TDA):TA:=λσ H Qv=>∃r dl S Q,Rs r H dl σ∧Rel K Z r S H∧t dl S Q∧∀vs H' r' ds S',Ext r r' H H'→Rel K Z r' S' H'→Rps r' H' ds vs→Q ds S'→Qv vs H'
structure ziY (K:PySem.W.Frag)(Z:Zx)(r:List Addr)(H:Hp)(E:zcD)(F:zc1):Prop where
 nx:∀σ' H' r' dl' S',Ext r r' H H'→Rs r' H' dl' σ'→Rel K Z r' S' H'→E.nx dl' S'→F.nx σ' H'
 bk:∀σ' H' r' dl' S',Ext r r' H H'→Rs r' H' dl' σ'→Rel K Z r' S' H'→E.bk dl' S'→F.bk σ' H'
 ct:∀σ' H' r' dl' S',Ext r r' H H'→Rs r' H' dl' σ'→Rel K Z r' S' H'→E.ct dl' S'→F.ct σ' H'
 rt:Ret K Z r H E.rt F.rt
theorem ziY.ext {K:PySem.W.Frag}{Z:Zx}{r r':List Addr}{H H':Hp}{E:zcD}{F:zc1}(h:ziY K Z r H E F)(e:Ext r r' H H'):ziY K Z r' H' E F:=
 ⟨λa b c d f x=>h.nx a b c d f (e.trans x),λa b c d f x=>h.bk a b c d f (e.trans x),λa b c d f x=>h.ct a b c d f (e.trans x),h.rt.ext e⟩
def upS (K:PySem.W.Frag)(Z:Zx)(t:TDS):TS:=λF σ H=>∃r dl S E,Rs r H dl σ∧Rel K Z r S H∧t E dl S∧ziY K Z r H E F
def PD (X:Cx)(Z:Zx)(e:Expr)(t:TDE):Prop:=PE X e (up X.K Z t)
def PDT (X:Cx)(Z:Zx)(e:Expr)(t:TDT):Prop:=PT X e (upT X.K Z t)
def PDW (X:Cx)(Z:Zx)(e:Expr)(t:TDT):Prop:=PW X e (upT X.K Z t)
def PDA (X:Cx)(Z:Zx)(es:List Expr)(t:TDA):Prop:=PA X es (upA X.K Z t)
def PDS (X:Cx)(Z:Zx)(st:Stmt)(t:TDS):Prop:=PS X st (upS X.K Z t)
def zcc (X:Cx)(Z:Zx)(st:List Stmt)(t:TDS):Prop:=PSs X st (upS X.K Z t)
section
variable {X:Cx}{Z:Zx}
theorem zbe {e:Expr}{t t':TE}(h:PE X e t)(f:∀σ H Q,t' σ H Q→t σ H Q):PE X e t':=λpins s σ H Q I q=>h pins s σ H Q I (f σ H Q q)
theorem ziK {e:Expr}{t t':TT}(h:PT X e t)(f:∀σ H Q,t' σ H Q→t σ H Q):PT X e t':=λpins s σ H Q I q=>h pins s σ H Q I (f σ H Q q)
theorem zqG {e:Expr}{t t':TT}(h:PW X e t)(f:∀σ H Q,t' σ H Q→t σ H Q):PW X e t':=λwh pins s σ H Q I q=>h wh pins s σ H Q I (f σ H Q q)
theorem zqs {e:List Expr}{t t':TA}(h:PA X e t)(f:∀σ H Q,t' σ H Q→t σ H Q):PA X e t':=λpos pins s σ H Q I q=>h pos pins s σ H Q I (f σ H Q q)
theorem zbG {e:Stmt}{t t':TS}(h:PS X e t)(f:∀F σ H,t' F σ H→t F σ H):PS X e t':=λpins s σ H F I q=>h pins s σ H F I (f F σ H q)
theorem zpN {e:List Stmt}{t t':TS}(h:PSs X e t)(f:∀F σ H,t' F σ H→t F σ H):PSs X e t':=λpins s σ H F I q=>h pins s σ H F I (f F σ H q)
theorem PDW.pt {e:Expr}{t:TDT}(h:PDW X Z e t):PDT X Z e t:=PW.pt h
def zkB (i:Nat):TDE:=λdl S Q=>match dl[i]? with
 | some (some d)=>Q d S
 | _=>False
def dC (d:D):TDE:=λ_ S Q=>Q d S
theorem zrK {e:Expr}{i:Nat}(h:PE X e (tVar i)):PD X Z e (zkB i):=zbe h λσ H Qv ⟨r,dl,S,Q,rs,rel,q,ret⟩=>by
 unfold zkB at q
 split at q
 ·rename_i d e
  obtain⟨v,h1,h2⟩:=rs.2 i d e
  exact⟨v,h1,ret v H r d S Ext.refl rel h2 q⟩
 ·exact q.elim
theorem dv (i:Nat){x:Str}{pos:Pos}(hN:X.N[i]?=some x:=by rfl)(hv:Vis X.env.scope x:=by first | exact Or.inl rfl | exact Or.inr (Or.inl rfl) | exact Or.inr (Or.inr rfl))(hd:(x==("__debug__":Str))=false:=by decide)
  (hcd:(x==("__classdict__":Str))=false:=by decide):PD X Z (.Name x pos) (zkB i):=zrK (zpD hN hv hd hcd)
theorem ziF {e:Expr}{d:D}{v:V}(h:PE X e (tC v))(q:∀r H,Rp r H d v):PD X Z e (dC d):=zbe h λσ H Qv ⟨r,dl,S,Q,rs,rel,h,ret⟩=>ret v H r d S Ext.refl rel (q r H) h
theorem zab {i j pos}:PD X Z (.Constant (.int i) j pos) (dC (.int i)):=ziF zwG λ_ _=>.int i
theorem zdD {b j pos}:PD X Z (.Constant (.bool b) j pos) (dC (.bl b)):=ziF pe_bl λ_ _=>.bl b
theorem zaK {j pos}:PD X Z (.Constant .none j pos) (dC .non):=ziF zuW λ_ _=>.non
theorem zaL {x j pos}:PD X Z (.Constant (.str x) j pos) (dC (.str x)):=ziF zwb λ_ _=>.str x
abbrev W2:=D→D→Sto→DK→Prop
abbrev W1:=D→Sto→DK→Prop
def upO (K:PySem.W.Frag)(Z:Zx)(w:W2):R2:=λx y H Qv=>∃r S dx dy Q,Rel K Z r S H∧Rp r H dx x∧Rp r H dy y∧w dx dy S Q∧Ret K Z r H Q Qv
def upU (K:PySem.W.Frag)(Z:Zx)(w:W1):V→Hp→VK→Prop:=λx H Qv=>∃r S dx Q,Rel K Z r S H∧Rp r H dx x∧w dx S Q∧Ret K Z r H Q Qv
def dOp (w:W2)(ta tb:TDE):TDE:=λdl S Q=>ta dl S λx S1=>tb dl S1 λy S2=>w x y S2 Q
def dUn (w:W1)(ta:TDE):TDE:=λdl S Q=>ta dl S λx S1=>w x S1 Q
variable {a b c:Expr}{ta tb tc:TDE}{pos:Pos}
theorem zlx {w:W2}{σ:St}{H:Hp}{Qv:VK}(h:up X.K Z (dOp w ta tb) σ H Qv):tOp (upO X.K Z w) (up X.K Z ta) (up X.K Z tb) σ H Qv:=by
 obtain⟨r,dl,S,Q,rs,rel,h,ret⟩:=h
 exact⟨r,dl,S,_,rs,rel,h,λv H1 r1 dx S1 e1 rel1 p1 h1=>⟨r1,dl,S1,_,rs.ext e1,rel1,h1,λv2 H2 r2 dy S2 e2 rel2 p2 h2=>⟨r2,S2,dx,dy,Q,rel2,p1.ext e2,p2,h2,ret.ext (e1.trans e2)⟩⟩⟩
theorem zaf {op:Operator}{w:W2}(ho:OpR X (binaryOp op) (upO X.K Z w))(ha:PD X Z a ta)(hb:PD X Z b tb):PD X Z (.BinOp a op b pos) (dOp w ta tb):=zbe (pe_op ho ha hb) λ_ _ _ h=>zlx h
theorem zaZ {op:UnaryOp}{w:W1}(ho:UnR X (unaryOp op) (upU X.K Z w))(ha:PD X Z a ta):PD X Z (.UnaryOp op a pos) (dUn w ta):=zbe (pe_un ho ha) λσ H Qv ⟨r,dl,S,Q,rs,rel,h,ret⟩=>
 ⟨r,dl,S,_,rs,rel,h,λv H1 r1 dx S1 e1 rel1 p1 h1=>⟨r1,S1,dx,Q,rel1,p1,h1,ret.ext e1⟩⟩
theorem zee {op:CmpOp}{w:W2}(ho:OpR X (compareOp op) (upO X.K Z w))(ha:PD X Z a ta)(hb:PD X Z b tb)(hm:behindInMarks op b=false):PD X Z (.Compare a [op] [b] pos) (dOp w ta tb):=zbe (zv2 ho ha hb hm) λ_ _ _ h=>zlx h
theorem ze6 {f:Value→Value→Sem Value}{r r':R2}(h:OpR X f r)(g:∀x y H Q,r' x y H Q→r x y H Q):OpR X f r':=λpins s σ H x y v u Q I rx ry q=>h pins s σ H x y v u Q I rx ry (g x y H Q q)
theorem ztN {f:Value→Sem Value}{r r':V→Hp→VK→Prop}(h:UnR X f r)(g:∀x H Q,r' x H Q→r x H Q):UnR X f r':=λpins s σ H x v Q I rx q=>h pins s σ H x v Q I rx (g x H Q q)
theorem zno {f:Value}{r r':List V→Hp→VK→Prop}(h:zbt X f r)(g:∀x H Q,r' x H Q→r x H Q):zbt X f r':=λpins s σ H xs us Q I rx q=>h pins s σ H xs us Q I rx (g xs H Q q)
def wI (C:Int→Int→Prop)(g:Int→Int→D):W2:=λx y S Q=>match x,y with
 | .int i,.int j=>C i j∧Q (g i j) S
 | _,_=>False
def wI0 (g:Int→Int→D):W2:=λx y S Q=>match x,y with
 | .int i,.int j=>Q (g i j) S
 | _,_=>False
theorem opD {f:Value→Value→Sem Value}{C:Int→Int→Prop}{g:Int→Int→V}{g':Int→Int→D}(h:OpR X f (rI C g))(hg:∀r H i j,Rp r H (g' i j) (g i j)):OpR X f (upO X.K Z (wI C g')):=
 ze6 h λx y H Qv ⟨r,S,dx,dy,Q,rel,px,py,q,ret⟩=>by
  cases px <;> cases py <;> first
   | exact⟨_,_,rfl,rfl,q.1,ret _ _ _ _ _ Ext.refl rel (hg _ _ _ _) q.2⟩
   | exact(show False from q).elim
theorem zek {f:Value→Value→Sem Value}{g:Int→Int→V}{g':Int→Int→D}(h:OpR X f (rI0 g))(hg:∀r H i j,Rp r H (g' i j) (g i j)):OpR X f (upO X.K Z (wI0 g')):=
 ze6 h λx y H Qv ⟨r,S,dx,dy,Q,rel,px,py,q,ret⟩=>by
  cases px <;> cases py <;> first
   | exact⟨_,_,rfl,rfl,ret _ _ _ _ _ Ext.refl rel (hg _ _ _ _) q⟩
   | exact(show False from q).elim
abbrev wAdd:W2:=wI0 λi j=>.int (i+j)
abbrev wSub:W2:=wI0 λi j=>.int (i-j)
abbrev wMul:W2:=wI IntMulOk λi j=>.int (i*j)
def CFd (_ j:Int):Prop:=0<j∧j.natAbs.log2<9000
abbrev wFdiv:W2:=wI CFd λi j=>.int (i/j)
abbrev wMod:W2:=wI (λ_ j=>0<j) λi j=>.int (i%j)
abbrev wPow:W2:=wI zjI λi j=>.int (i^j.toNat)
theorem zaY:OpR X (binaryOp .Add) (upO X.K Z wAdd):=zek zt8 λ_ _ _ _=>.int _
theorem zbf:OpR X (binaryOp .Sub) (upO X.K Z wSub):=zek zuV λ_ _ _ _=>.int _
theorem zaN:OpR X (binaryOp .Mult) (upO X.K Z wMul):=opD (opI λ_ _ _ _ _ _ _ hc q=>mul_int q hc) λ_ _ _ _=>.int _
theorem zbi:OpR X (binaryOp .FloorDiv) (upO X.K Z wFdiv):=opD (opI λi j _ _ _ _ _ hc q=>floordiv_int (by have h:0<j:=hc.1; omega) (by have h:0<j:=hc.1; rw[Int.fdiv_eq_ediv_of_nonneg i (by omega)]; exact q) (.inl (PyProof.noPylong_of_log2 hc.2))) λ_ _ _ _=>.int _
theorem zbb:OpR X (binaryOp .Mod) (upO X.K Z wMod):=opD ztO λ_ _ _ _=>.int _
theorem zso:OpR X (binaryOp .Pow) (upO X.K Z wPow):=opD zxV λ_ _ _ _=>.int _
abbrev wLt:W2:=wI0 λi j=>.bl (decide (i<j))
abbrev wLe:W2:=wI0 λi j=>.bl (decide (i≤j))
abbrev wGt:W2:=wI0 λi j=>.bl (decide (j<i))
abbrev wGe:W2:=wI0 λi j=>.bl (decide (j≤i))
theorem zbo:OpR X (compareOp .Lt) (upO X.K Z wLt):=zek op_lt λ_ _ _ _=>.bl _
theorem zcu:OpR X (compareOp .LtE) (upO X.K Z wLe):=zek op_le λ_ _ _ _=>.bl _
theorem zb4:OpR X (compareOp .Gt) (upO X.K Z wGt):=zek op_gt λ_ _ _ _=>.bl _
theorem znQ:OpR X (compareOp .GtE) (upO X.K Z wGe):=zek op_ge λ_ _ _ _=>.bl _
def wNeg:W1:=λx S Q=>match x with
 | .int i=>Q (.int (-i)) S
 | _=>False
theorem za0:UnR X (unaryOp .USub) (upU X.K Z wNeg):=ztN zsH λx H Qv ⟨r,S,dx,Q,rel,px,q,ret⟩=>by
 cases px <;> first
  | exact⟨_,rfl,ret _ _ _ _ _ Ext.refl rel (.int _) q⟩
  | exact(show False from q).elim
end
def eqF:D→D→Option Bool
 | .non,.non=>some true
 | .bl i,.bl j=>some (i==j)
 | .int i,.int j=>some (decide (i=j))
 | .str i,.str j=>some (decide (i=j))
 | .non,.int _=>some false | .int _,.non=>some false | .non,.bl _=>some false | .bl _,.non=>some false | .non,.str _=>some false | .str _,.non=>some false
 | .int _,.str _=>some false | .str _,.int _=>some false | .bl _,.str _=>some false | .str _,.bl _=>some false
 | _,_=>none
def eqL (f:D→D→Option Bool):List D→List D→Option Bool
 | [],[]=>some true
 | x::xs,y::ys=>match f x y,eqL f xs ys with
  | some b,some c=>some (b&&c)
  | _,_=>none
 | _,_=>some false
def eqT (f:D→D→Option Bool):D→D→Option Bool
 | .tup xs,.tup ys=>eqL f xs ys
 | x,y=>eqF x y
abbrev eq1:D→D→Option Bool:=eqT eqF
abbrev eq2:D→D→Option Bool:=eqT eq1
def zdv (n:Nat)(f:D→D→Option Bool):Prop:=∀(X:Cx) (pins:List (Addr×Obj)) (σ:St) (H:Hp) (s:Shared) (r:List Addr) (A:Around) (dx dy:D) (x y:V) (u v:Value) (b:Bool),
 Inv X pins σ H s→A.units+n<cLine→Rp r H dx x→Rp r H dy y→zaz x u→zaz y v→f dx dy=some b→SeqAt.EqAt A s u v b
def zew (f:D→D→Option Bool):Prop:=∀(r:List Addr) (H:Hp) (dx dy:D) (x:V) (b:Bool),Rp r H dx x→Rp r H dy x→f dx dy=some b→b=true
theorem zeE:zew eqF:=by
 intro r H dx dy x b px py e
 cases px <;> cases py <;> simp[eqF] at e <;> first | exact e.symm | exact e
theorem zpz {f:D→D→Option Bool}(hf:zew f){r:List Addr}{H:Hp}:∀ {xs ys:List D} {vs:List V} {b:Bool},Rps r H xs vs→Rps r H ys vs→eqL f xs ys=some b→b=true
 | [],[],_,b,_,_,e=>by simp[eqL] at e; exact e
 | [],y::ys,vs,b,p,q,e=>by
  have h1:=p.unnil
  subst h1
  exact absurd q.1 (by simp)
 | x::xs,[],vs,b,p,q,e=>by
  have h1:=q.unnil
  subst h1
  exact absurd p.1 (by simp)
 | x::xs,y::ys,vs,b,p,q,e=>by
  obtain⟨v,vs',rfl,p1,p2⟩:=p.uncons
  obtain⟨q1,q2⟩:=q.tail
  unfold eqL at e
  split at e
  ·rename_i b1 c1 e1 e2
   have h1:=hf r H x y v b1 p1 q1 e1
   have h2:=zpz hf p2 q2 e2
   subst h1; subst h2
   simp at e
   exact e
  ·cases e
theorem zqq {f:D→D→Option Bool}(hf:zew f):zew (eqT f):=by
 intro r H dx dy x b px py e
 cases px with
 | tup e1 l1 f1=>
  cases py with
  | tup e2 l2 f2=>
   rw[e1] at e2; cases e2
   exact zpz hf ⟨l1,f1⟩ ⟨l2,f2⟩ e
  | ref h=>simp[eqT,eqF] at e
  | exc h=>simp[eqT,eqF] at e
 | non=>exact zeE r H _ _ _ b .non py (by cases py <;> exact e)
 | bl i=>exact zeE r H _ _ _ b (.bl i) py (by cases py <;> exact e)
 | int i=>exact zeE r H _ _ _ b (.int i) py (by cases py <;> exact e)
 | str i=>exact zeE r H _ _ _ b (.str i) py (by cases py <;> exact e)
 | ref h=>cases py <;> simp[eqT,eqF] at e
 | exc h=>cases py <;> simp[eqT,eqF] at e
theorem zn8 (n:Nat):zdv n eqF:=by
 intro X pins σ H s r A dx dy x y u v b I hu px py rx ry e
 have fin:∀ {x y:V},zaz x u→zaz y v→zks x=true→zks y=true→eqV x y=b→SeqAt.EqAt A s u v b:=λrx ry fx fy e'=>by
  subst e'; exact zrg rx ry fx fy
 cases px <;> cases py <;> simp[eqF] at e <;> refine fin rx ry rfl rfl ?_ <;> simp[eqV,e] <;> first | exact e | (subst e; simp) | skip
theorem ze0 {X:Cx}{pins:List (Addr×Obj)}{σ:St}{H:Hp}{s:Shared}{a:Addr}{xs:List V}(I:Inv X pins σ H s)(h:H a=some (.tup xs)):∃its:List Value,zaD xs its∧IsTup s.heap a its.toArray∧xs.length≤sizeLine:=I.tuple (SqT.of h)
def zcp (f:D→D→Option Bool)(xs ys:List D)(j:Nat):Bool:=match xs[j]?,ys[j]? with
 | some x,some y=>(f x y).getD false
 | _,_=>false
theorem zpQ {f:D→D→Option Bool}:∀ {xs ys:List D} {b:Bool},eqL f xs ys=some b→(∀(j:Nat) (x y:D),xs[j]?=some x→ys[j]?=some y→∃c,f x y=some c)∧((List.range (min xs.length ys.length)).all (zcp f xs ys)&&xs.length==ys.length)=b
 | [],[],b,e=>by simp[eqL] at e; subst e; simp
 | [],y::ys,b,e=>by simp[eqL] at e; subst e; simp
 | x::xs,[],b,e=>by simp[eqL] at e; subst e; simp
 | x::xs,y::ys,b,e=>by
  unfold eqL at e
  split at e
  ·rename_i b1 c1 e1 e2
   obtain⟨h1,h2⟩:=zpQ e2
   refine⟨λj p q hp hq=>?_,?_⟩
   ·cases j with
    | zero=>simp at hp hq; subst hp; subst hq; exact⟨b1,e1⟩
    | succ j=>exact h1 j p q (by simpa using hp) (by simpa using hq)
   ·have z:min (x::xs).length (y::ys).length=min xs.length ys.length+1:=by simp[Nat.succ_min_succ]
    rw[z,List.range_succ_eq_map,List.all_cons,List.all_map]
    have e0:zcp f (x::xs) (y::ys) 0=b1:=by simp[zcp,e1]
    have es:(zcp f (x::xs) (y::ys) ∘ Nat.succ)=zcp f xs ys:=by funext j; simp[zcp]
    rw[e0,es]
    have e3:((x::xs).length==(y::ys).length)=(xs.length==ys.length):=by simp
    rw[e3,Bool.and_assoc,h2]
    simp at e
    exact e
  ·cases e
theorem zfM {n:Nat}{f:D→D→Option Bool}(hf:zdv n f){X:Cx}{pins:List (Addr×Obj)}{σ:St}{H:Hp}{s:Shared}{r:List Addr}{A:Around}{xs ys:List D}{us vs:List V}{is js:List Value}{b:Bool}
  (I:Inv X pins σ H s)(hu:A.units+n<cLine)(p:Rps r H xs us)(q:Rps r H ys vs)(ri:zaD us is)(rj:zaD vs js)(e:eqL f xs ys=some b):
  (∀j (h1:j<is.toArray.size) (h2:j<js.toArray.size),SeqAt.EqAt A s is.toArray[j] js.toArray[j] (zcp f xs ys j))∧((List.range (min is.toArray.size js.toArray.size)).all (zcp f xs ys)&&is.toArray.size==js.toArray.size)=b:=by
 obtain⟨h1,h2⟩:=zpQ e
 have l1:is.toArray.size=xs.length:=by rw[Val,← ri.length,p.1]
 have l2:js.toArray.size=ys.length:=by rw[Val,← rj.length,q.1]
 refine⟨λj hj1 hj2=>?_,by rw[l1,l2]; exact h2⟩
 have k1:j<xs.length:=by omega
 have k2:j<ys.length:=by omega
 have g1:xs[j]?=some xs[j]:=by simp[k1]
 have g2:ys[j]?=some ys[j]:=by simp[k2]
 obtain⟨x,gx,px⟩:=p.get g1
 obtain⟨y,gy,py⟩:=q.get g2
 obtain⟨u,gu,ru⟩:=ri.get gx
 obtain⟨v,gv,rv⟩:=rj.get gy
 obtain⟨c,hc⟩:=h1 j _ _ g1 g2
 have eu:is.toArray[j]=u:=by
  have z:=Vac.mp gu
  simpa using z.2
 have ev:js.toArray[j]=v:=by
  have z:=Vac.mp gv
  simpa using z.2
 have ec:zcp f xs ys j=c:=by simp[zcp,g1,g2,hc]
 rw[eu,ev,ec]
 exact hf X pins σ H s r A _ _ x y u v c I hu px py ru rv hc
theorem zqN {n:Nat}{f:D→D→Option Bool}(hf:zdv n f)(hs:zew f):zdv (n+1) (eqT f):=by
 intro X pins σ H s r A dx dy x y u v b I hu px py rx ry e
 have zaR:∀ {dx dy:D} {x y:V},Rp r H dx x→Rp r H dy y→zaz x u→zaz y v→eqF dx dy=some b→SeqAt.EqAt A s u v b:=λpx py rx ry e=>zn8 (n+1) X pins σ H s r A _ _ _ _ u v b I hu px py rx ry e
 cases px with
 | @tup ds xs a e1 l1 f1=>
  cases py with
  | @tup es ys a' e2 l2 f2=>
   cases rx
   cases ry
   by_cases z:a=a'
   ·subst z
    have hb:=zqq hs r H _ _ _ b (.tup e1 l1 f1) (.tup e2 l2 f2) e
    subst hb
    exact SeqAt.EqAt.same _
   ·obtain⟨is,ri,ti,_⟩:=ze0 I e1
    obtain⟨js,rj,tj,_⟩:=ze0 I e2
    obtain⟨g1,g2⟩:=zfM (A:=A.in1) hf I (by show A.units+1+n<_; omega) ⟨l1,f1⟩ ⟨l2,f2⟩ ri rj e
    have q:=SeqAt.RcAt.tuples (A:=A) ti tj (by omega) g1
    rw[g2] at q
    exact SeqAt.EqAt.of_refs z q
  | ref h=>simp[eqT,eqF] at e
  | _=>simp[eqT,eqF] at e
 | non=>exact zaR .non py rx ry (by cases py <;> exact e)
 | bl i=>exact zaR (.bl i) py rx ry (by cases py <;> exact e)
 | int i=>exact zaR (.int i) py rx ry (by cases py <;> exact e)
 | str i=>exact zaR (.str i) py rx ry (by cases py <;> exact e)
 | ref h=>cases py <;> simp[eqT,eqF] at e
 | exc h=>cases py <;> simp[eqT,eqF] at e
theorem zqL (n:Nat):zdv (n+1) eq1:=zqN (zn8 n) zeE
def wEq (f:D→D→Option Bool):W2:=λx y S Q=>match f x y with
 | some b=>Q (.bl b) S
 | none=>False
def wNe (f:D→D→Option Bool):W2:=λx y S Q=>match f x y with
 | some b=>Q (.bl (!b)) S
 | none=>False
section
variable {X:Cx}{Z:Zx}
theorem zpy {r:List Addr}{H:Hp}{dx dy:D}{x y:V}{b:Bool}(px:Rp r H dx x)(py:Rp r H dy y)(e:eqF dx dy=some b):zje x y=true∧decide (x=y)=b:=by
 cases px <;> cases py <;> simp[eqF] at e <;> simp[zje] <;> first | exact e | (subst e; simp) | skip
theorem zqd {n:Nat}{f:D→D→Option Bool}(hf:zdv n f)(hu:X.A.units+1+n<cLine):OpR X (compareOp .Eq) (upO X.K Z (wEq (eqT f))):=by
 intro pins s σ H x y v u Qv I rx ry h
 obtain⟨r,S,dx,dy,Q,rel,px,py,q,ret⟩:=h
 unfold wEq at q
 split at q
 ·rename_i b e
  have zaR:∀ {dx dy:D} {x y:V},Rp r H dx x→Rp r H dy y→zaz x v→zaz y u→eqF dx dy=some b→wpAny (model X.prog X.w) X.A (compareOp .Eq v u) (EP X pins σ Qv) X.xe s:=λpx py rx ry e=>by
   obtain⟨h1,h2⟩:=zpy px py e
   refine zor pins s σ H _ _ v u Qv I rx ry ⟨h1,?_⟩
   rw[h2]
   exact ret _ _ _ _ _ Ext.refl rel (.bl b) q
  cases px with
  | @tup ds xs a e1 l1 f1=>
   cases py with
   | @tup es ys a' e2 l2 f2=>
    cases rx
    cases ry
    obtain⟨is,ri,ti,_⟩:=ze0 I e1
    obtain⟨js,rj,tj,_⟩:=ze0 I e2
    obtain⟨g1,g2⟩:=zfM (A:=X.A.in1) hf I (by show X.A.units+1+n<_; omega) ⟨l1,f1⟩ ⟨l2,f2⟩ ri rj e
    refine SeqAt.eq_tupleAt (A:=X.A) ti tj (by omega) g1 ?_
    rw[g2]
    exact⟨.bl b,H,I,rfl,ret _ _ _ _ _ Ext.refl rel (.bl b) q⟩
   | _=>simp[eqT,eqF] at e
  | non=>exact zaR .non py rx ry (by cases py <;> exact e)
  | bl i=>exact zaR (.bl i) py rx ry (by cases py <;> exact e)
  | int i=>exact zaR (.int i) py rx ry (by cases py <;> exact e)
  | str i=>exact zaR (.str i) py rx ry (by cases py <;> exact e)
  | ref h=>cases py <;> simp[eqT,eqF] at e
  | exc h=>cases py <;> simp[eqT,eqF] at e
 ·exact q.elim
theorem zpv {n:Nat}{f:D→D→Option Bool}(hf:zdv n f)(hu:X.A.units+1+n<cLine):OpR X (compareOp .NotEq) (upO X.K Z (wNe (eqT f))):=by
 intro pins s σ H x y v u Qv I rx ry h
 obtain⟨r,S,dx,dy,Q,rel,px,py,q,ret⟩:=h
 unfold wNe at q
 split at q
 ·rename_i b e
  have zaR:∀ {dx dy:D} {x y:V},Rp r H dx x→Rp r H dy y→zaz x v→zaz y u→eqF dx dy=some b→wpAny (model X.prog X.w) X.A (compareOp .NotEq v u) (EP X pins σ Qv) X.xe s:=λpx py rx ry e=>by
   obtain⟨h1,h2⟩:=zpy px py e
   refine op_ne pins s σ H _ _ v u Qv I rx ry ⟨h1,?_⟩
   rw[h2]
   exact ret _ _ _ _ _ Ext.refl rel (.bl (!b)) q
  cases px with
  | @tup ds xs a e1 l1 f1=>
   cases py with
   | @tup es ys a' e2 l2 f2=>
    cases rx
    cases ry
    obtain⟨is,ri,ti,_⟩:=ze0 I e1
    obtain⟨js,rj,tj,_⟩:=ze0 I e2
    obtain⟨g1,g2⟩:=zfM (A:=X.A.in1) hf I (by show X.A.units+1+n<_; omega) ⟨l1,f1⟩ ⟨l2,f2⟩ ri rj e
    refine SeqAt.RcNeAt.tuples (A:=X.A) ti tj (by omega) g1 X.prog X.w _ _ ?_
    rw[g2]
    exact⟨.bl (!b),H,I,rfl,ret _ _ _ _ _ Ext.refl rel (.bl (!b)) q⟩
   | _=>simp[eqT,eqF] at e
  | non=>exact zaR .non py rx ry (by cases py <;> exact e)
  | bl i=>exact zaR (.bl i) py rx ry (by cases py <;> exact e)
  | int i=>exact zaR (.int i) py rx ry (by cases py <;> exact e)
  | str i=>exact zaR (.str i) py rx ry (by cases py <;> exact e)
  | ref h=>cases py <;> simp[eqT,eqF] at e
  | exc h=>cases py <;> simp[eqT,eqF] at e
 ·exact q.elim
theorem zaI {k:Nat}(hr:zaU k X.A):OpR X (compareOp .Eq) (upO X.K Z (wEq eq2)):=zqd (zqL 0) (by have:=hr.un; omega)
theorem zj1 {k:Nat}(hr:zaU k X.A):OpR X (compareOp .NotEq) (upO X.K Z (wNe eq2)):=zpv (zqL 0) (by have:=hr.un; omega)
end
section
variable {X:Cx}{Z:Zx}{a b c:Expr}{ta tb tc:TDE}{pos:Pos}{zbn:List Expr}
def zjJ (t:TDE):TDT:=λdl S Q=>t dl S λd S'=>match d with
 | .bl k=>Q k S'
 | _=>False
theorem znC {K:PySem.W.Frag}{Z:Zx}{r:List Addr}{H:Hp}{Q:Bool→Sto→Prop}{Qb:Bool→Hp→Prop}(h:∀b H' r' S',Ext r r' H H'→Rel K Z r' S' H'→Q b S'→Qb b H'):
  Ret K Z r H (λd S'=>match d with | .bl k=>Q k S' | _=>False) (λx H'=>∃k,x=.bl k∧Qb k H'):=λv H' r' d S' e rel p q=>by
 cases p with
 | bl k=>exact⟨k,rfl,h k H' r' S' e rel q⟩
 | _=>exact(show False from q).elim
theorem zar {op:CmpOp}{w:W2}(ho:OpR X (compareOp op) (upO X.K Z w))(ha:PD X Z a ta)(hb:PD X Z b tb)(hm:behindInMarks op b=false):PDT X Z (.Compare a [op] [b] pos) (zjJ (dOp w ta tb)):=
 ziK (zwn ho ha hb hm) λσ H Qb ⟨r,dl,S,Q,rs,rel,h,ret⟩=>zlx ⟨r,dl,S,_,rs,rel,h,znC ret⟩
theorem zdb {e:Expr}{t:TDE}(h:PD X Z e t)(he:∀whole,isTrue e X.env whole=(do let v ← whole; standAt e.pos; holding [v] (truthy v)):=by intro _; rfl):PDT X Z e (zjJ t):=
 ziK (ztJ h he) λσ H Qb ⟨r,dl,S,Q,rs,rel,h,ret⟩=>⟨r,dl,S,_,rs,rel,h,znC ret⟩
def dNot (t:TDT):TDT:=λdl S Q=>t dl S λk S'=>Q (!k) S'
theorem zlq {t:TDT}(ha:PDT X Z a t):PDT X Z (.UnaryOp .Not a pos) (dNot t):=
 ziK (zwL ha) λσ H Qb ⟨r,dl,S,Q,rs,rel,h,ret⟩=>⟨r,dl,S,_,rs,rel,h,λk H' r' S' e rel' q=>ret (!k) H' r' S' e rel' q⟩
def dAnd (t u:TDT):TDT:=λdl S Q=>t dl S λk S1=>if k=true then u dl S1 Q else Q false S1
def dOr (t u:TDT):TDT:=λdl S Q=>t dl S λk S1=>if k=true then Q true S1 else u dl S1 Q
theorem zdW {t:TDT}(ha:PDT X Z a t):PDW X Z (.BoolOp .And [a] pos) t:=zwc ha
theorem zcM {t:TDT}(ha:PDT X Z a t):PDW X Z (.BoolOp .Or [a] pos) t:=zsY ha
theorem zc8 {t u:TDT}(ha:PDT X Z a t)(hb:PDW X Z (.BoolOp .And (b::zbn) pos) u):PDW X Z (.BoolOp .And (a::b::zbn) pos) (dAnd t u):=
 zqG (zwe ha hb) λσ H Qb ⟨r,dl,S,Q,rs,rel,h,ret⟩=>⟨r,dl,S,_,rs,rel,h,λk H1 r1 S1 e1 rel1 q1=>by
  cases k with
  | true=>exact zck ⟨r1,dl,S1,Q,rs.ext e1,rel1,(by simpa using q1),λk' H2 r2 S2 e2=>ret k' H2 r2 S2 (e1.trans e2)⟩
  | false=>exact zbJ (ret false H1 r1 S1 e1 rel1 (by simpa using q1))⟩
theorem zcz {t u:TDT}(ha:PDT X Z a t)(hb:PDW X Z (.BoolOp .Or (b::zbn) pos) u):PDW X Z (.BoolOp .Or (a::b::zbn) pos) (dOr t u):=
 zqG (pw_or ha hb) λσ H Qb ⟨r,dl,S,Q,rs,rel,h,ret⟩=>⟨r,dl,S,_,rs,rel,h,λk H1 r1 S1 e1 rel1 q1=>by
  cases k with
  | true=>exact zck (ret true H1 r1 S1 e1 rel1 (by simpa using q1))
  | false=>exact zbJ ⟨r1,dl,S1,Q,rs.ext e1,rel1,(by simpa using q1),λk' H2 r2 S2 e2=>ret k' H2 r2 S2 (e1.trans e2)⟩⟩
def zqa (ta tb:TDE):TDE:=λdl S Q=>ta dl S λx S1=>match x with
 | .bl k=>if k=true then tb dl S1 Q else Q (.bl false) S1
 | _=>False
def dOrV (ta tb:TDE):TDE:=λdl S Q=>ta dl S λx S1=>match x with
 | .bl k=>if k=true then Q (.bl true) S1 else tb dl S1 Q
 | _=>False
def zpU (ta:TDE):TDE:=λdl S Q=>ta dl S λx S1=>match x with
 | .bl k=>Q (.bl (!k)) S1
 | _=>False
theorem zns {op}{t:TDE}(h:PD X Z a t):PD X Z (.BoolOp op [a] pos) t:=zsZ h
theorem zkl (ha:PD X Z a ta)(hb:PD X Z (.BoolOp .And (b::zbn) pos) tb):PD X Z (.BoolOp .And (a::b::zbn) pos) (zqa ta tb):=
 zbe (zug ha hb) λσ H Qv ⟨r,dl,S,Q,rs,rel,h,ret⟩=>⟨r,dl,S,_,rs,rel,h,λv H1 r1 d S1 e1 rel1 p q1=>by
  cases p with
  | bl k=>
   refine⟨k,rfl,?_⟩
   cases k with
   | true=>exact zck ⟨r1,dl,S1,Q,rs.ext e1,rel1,(by simpa using q1),ret.ext e1⟩
   | false=>exact zbJ (ret _ H1 r1 (.bl false) S1 e1 rel1 (.bl false) (by simpa using q1))
  | _=>exact(show False from q1).elim⟩
theorem zsc (ha:PD X Z a ta):PD X Z (.UnaryOp .Not a pos) (zpU ta):=
 zbe (zww ha) λσ H Qv ⟨r,dl,S,Q,rs,rel,h,ret⟩=>⟨r,dl,S,_,rs,rel,h,λv H1 r1 d S1 e1 rel1 p q1=>by
  cases p with
  | bl k=>exact⟨k,rfl,ret _ H1 r1 (.bl (!k)) S1 e1 rel1 (.bl (!k)) q1⟩
  | _=>exact(show False from q1).elim⟩
def dIfE (t:TDT)(ta tb:TDE):TDE:=λdl S Q=>t dl S λk S1=>if k=true then ta dl S1 Q else tb dl S1 Q
theorem zcG {t:TDT}(hc:PDT X Z c t)(ha:PD X Z a ta)(hb:PD X Z b tb):PD X Z (.IfExp c a b pos) (dIfE t ta tb):=
 zbe (zvt hc ha hb) λσ H Qv ⟨r,dl,S,Q,rs,rel,h,ret⟩=>⟨r,dl,S,_,rs,rel,h,λk H1 r1 S1 e1 rel1 q1=>by
  cases k with
  | true=>exact zck ⟨r1,dl,S1,Q,rs.ext e1,rel1,(by simpa using q1),ret.ext e1⟩
  | false=>exact zbJ ⟨r1,dl,S1,Q,rs.ext e1,rel1,(by simpa using q1),ret.ext e1⟩⟩
def zm4 (w w':W2)(ta tb tc:TDE):TDE:=λdl S Q=>ta dl S λx S1=>tb dl S1 λy S2=>w x y S2 λz S3=>match z with
 | .bl k=>if k=true then tc dl S3 λu S4=>w' y u S4 Q else Q (.bl false) S3
 | _=>False
theorem zqR {w w':W2}{σ:St}{H:Hp}{Qv:VK}(h:up X.K Z (zm4 w w' ta tb tc) σ H Qv):zoF (upO X.K Z w) (upO X.K Z w') (up X.K Z ta) (up X.K Z tb) (up X.K Z tc) σ H Qv:=by
 obtain⟨r,dl,S,Q,rs,rel,h,ret⟩:=h
 refine⟨r,dl,S,_,rs,rel,h,λv H1 r1 dx S1 e1 rel1 p1 h1=>⟨r1,dl,S1,_,rs.ext e1,rel1,h1,λv2 H2 r2 dy S2 e2 rel2 p2 h2=>⟨r2,S2,dx,dy,_,rel2,p1.ext e2,p2,h2,λv3 H3 r3 dz S3 e3 rel3 p3 h3=>?_⟩⟩⟩
 cases p3 with
 | bl k=>
  refine⟨k,rfl,?_⟩
  cases k with
  | true=>exact zck ⟨r3,dl,S3,_,rs.ext (e1.trans (e2.trans e3)),rel3,(by simpa using h3),λv4 H4 r4 du S4 e4 rel4 p4 h4=>⟨r4,S4,dy,du,Q,rel4,(p2.ext e3).ext e4,p4,h4,ret.ext (e1.trans (e2.trans (e3.trans e4)))⟩⟩
  | false=>exact zbJ (ret _ H3 r3 (.bl false) S3 (e1.trans (e2.trans e3)) rel3 (.bl false) (by simpa using h3))
 | _=>exact(show False from h3).elim
theorem zub {op op':CmpOp}{w w':W2}(ho:OpR X (compareOp op) (upO X.K Z w))(ho':OpR X (compareOp op') (upO X.K Z w'))(ha:PD X Z a ta)(hb:PD X Z b tb)(hc:PD X Z c tc)
  (hm:lastMarks [op,op'] [b,c]=false:=by with_unfolding_all rfl):PD X Z (.Compare a [op,op'] [b,c] pos) (zm4 w w' ta tb tc):=zbe (zw4 ho ho' ha hb hc hm) λ_ _ _ h=>zqR h
theorem zlH {op op':CmpOp}{w w':W2}(ho:OpR X (compareOp op) (upO X.K Z w))(ho':OpR X (compareOp op') (upO X.K Z w'))(ha:PD X Z a ta)(hb:PD X Z b tb)(hc:PD X Z c tc)
  (hm:lastMarks [op,op'] [b,c]=false:=by with_unfolding_all rfl):PDT X Z (.Compare a [op,op'] [b,c] pos) (zjJ (zm4 w w' ta tb tc)):=
 ziK (zr2 ho ho' ha hb hc hm) λσ H Qb ⟨r,dl,S,Q,rs,rel,h,ret⟩=>zqR ⟨r,dl,S,_,rs,rel,h,znC ret⟩
def zlQ:D→Bool
 | .non=>true
 | _=>false
def wIsN:W2:=λx y S Q=>match y with
 | .non=>Q (.bl (zlQ x)) S
 | _=>False
def zp7:W2:=λx y S Q=>match y with
 | .non=>Q (.bl (!zlQ x)) S
 | _=>False
theorem zqm {r:List Addr}{H:Hp}{d:D}{x:V}(p:Rp r H d x):decide (x=.non)=zlQ d:=by
 cases p <;> simp[zlQ]
theorem zbE:OpR X (compareOp .Is) (upO X.K Z wIsN):=ze6 ztC λx y H Qv ⟨r,S,dx,dy,Q,rel,px,py,q,ret⟩=>by
 cases py with
 | non=>exact⟨rfl,by rw[zqm px]; exact ret _ _ _ _ _ Ext.refl rel (.bl _) q⟩
 | _=>exact(show False from q).elim
theorem zga:OpR X (compareOp .IsNot) (upO X.K Z zp7):=ze6 zvJ λx y H Qv ⟨r,S,dx,dy,Q,rel,px,py,q,ret⟩=>by
 cases py with
 | non=>exact⟨rfl,by rw[zqm px]; exact ret _ _ _ _ _ Ext.refl rel (.bl _) q⟩
 | _=>exact(show False from q).elim
variable {e:Expr}{es:List Expr}
def dNil:TDA:=λ_ S Q=>Q [] S
def zpd (ta:TDE)(tr:TDA):TDA:=λdl S Q=>ta dl S λx S1=>tr dl S1 λxs S2=>Q (x::xs) S2
theorem zac:PDA X Z [] dNil:=zqs zkD λσ H Qv ⟨r,dl,S,Q,rs,rel,h,ret⟩=>ret [] H r [] S Ext.refl rel Rps.nil h
theorem zaa {te:TDE}{t:TDA}(ha:PD X Z e te)(hr:PDA X Z es t)(hs:starEach (e::es) X.env=(false,eval e X.env)::starEach es X.env:=by rfl):PDA X Z (e::es) (zpd te t):=
 zqs (zeD ha hr hs) λσ H Qv ⟨r,dl,S,Q,rs,rel,h,ret⟩=>⟨r,dl,S,_,rs,rel,h,λv H1 r1 d S1 e1 rel1 p1 h1=>⟨r1,dl,S1,_,rs.ext e1,rel1,h1,λvs H2 r2 ds S2 e2 rel2 p2 h2=>
  ret (v::vs) H2 r2 (d::ds) S2 (e1.trans e2) rel2 (Rps.cons (p1.ext e2) p2) h2⟩⟩
def dTup (t:TDA):TDE:=λdl S Q=>t dl S λds S1=>if ds.length≤1000 then Q (.tup ds) S1 else False
def dLst (t:TDA):TDE:=λdl S Q=>t dl S λds S1=>if ds.length≤1000 then Q (.ref S1.length) (S1++[.lst ds]) else False
theorem zmX {A:Prop}{p:Prop} [Decidable p] (h:if p then A else False):p∧A:=by
 split at h
 ·exact⟨by assumption,h⟩
 ·exact h.elim
theorem zlO {n:Nat}(h:n≤1000):n≤sizeLine:=VaS (znv h)
theorem zay {x1}{t:TDA}(h:PDA X Z es t):PD X Z (.Tuple es x1 pos) (dTup t):=
 zbe (zvo h) λσ H Qv ⟨r,dl,S,Q,rs,rel,h,ret⟩=>⟨r,dl,S,_,rs,rel,h,λvs H1 r1 ds S1 e1 rel1 p1 h1=>by
  obtain⟨hl,h1⟩:=zmX h1
  refine⟨by rw[← p1.1]; exact zlO hl,λp hp=>?_⟩
  have x:Ext r1 r1 H1 (upd H1 p (.tup vs)):=⟨λ_ _ q=>q,λa xs q=>zdc hp _ _ q,λa c q=>zdc hp _ _ q⟩
  exact ret _ _ r1 (.tup ds) S1 (e1.trans x) (rel1.same (zdc hp)) ((p1.ext x).tupR zcL) h1⟩
theorem zfq {r:List Addr}{p:Addr}{H:Hp}{n:Nat}(h:r.length=n):Rp (r++[p]) H (.ref n) (.ref p):=.ref (by subst h; simp)
theorem za6 {t:TDA}(h:PDA X Z es t):PD X Z (.List es pos) (dLst t):=
 zbe (zse h) λσ H Qv ⟨r,dl,S,Q,rs,rel,h,ret⟩=>⟨r,dl,S,_,rs,rel,h,λvs H1 r1 ds S1 e1 rel1 p1 h1=>by
  obtain⟨hl,h1⟩:=zmX h1
  refine⟨by rw[← p1.1]; exact zlO hl,λp hp=>?_⟩
  obtain⟨rel2,x⟩:=rel1.push hp p1
  exact ret _ _ _ (.ref S1.length) _ (e1.trans x) rel2 (zfq rel1.len) h1⟩
def wIx:W2:=λx y S Q=>match x,y with
 | .tup xs,.int i=>match atI xs i with
  | some d=>Q d S
  | none=>False
 | .ref n,.int i=>match lAt S n with
  | some o=>match atI (zat o) i with
   | some d=>Q d S
   | none=>False
  | none=>False
 | _,_=>False
theorem zpE {r:List Addr}{H:Hp}{ds:List D}{vs:List V}{i:Int}{d:D}(h:Rps r H ds vs)(e:atI ds i=some d):∃v,atI vs i=some v∧Rp r H d v:=by
  unfold atI at e ⊢
  rw[← h.1]
  cases q:ixN ds.length i with
  | none=>
   rw[q] at e
   cases e
  | some j=>
    rw[q] at e
    exact h.get e
theorem do_ix:IxR X (upO X.K Z wIx):=by
 intro value slice pins s σ H x y v u Qv I rx ry h hs
 obtain⟨r,S,dx,dy,Q,rel,px,py,q,ret⟩:=h
 cases px with
 | @tup ds xs a e1 l1 f1=>
  cases py with
  | int i=>
   have q':(match atI ds i with | some d=>Q d S | none=>False):=q
   split at q'
   ·rename_i d e
    obtain⟨w,hw,pw⟩:=zpE ⟨l1,f1⟩ e
    exact zrc value slice pins s σ H _ _ v u Qv I rx ry ⟨a,xs,i,w,rfl,rfl,SqT.of e1,hw,ret w H r d S Ext.refl rel pw q'⟩ hs
   ·exact q'.elim
  | _=>exact(show False from q).elim
 | @ref n a e1=>
  cases py with
  | int i=>
   have q':(match lAt S n with | some o=>(match atI (zat o) i with | some d=>Q d S | none=>False) | none=>False):=q
   split at q'
   ·rename_i o eo
    obtain⟨eo,eL⟩:=zbK eo
    obtain⟨a',ha,ob⟩:=rel.at eo
    rw[e1] at ha; cases ha
    obtain⟨xs,sq,pr⟩:=ob.list eL
    split at q'
    ·rename_i d e
     obtain⟨w,hw,pw⟩:=zpE pr e
     exact zrO value slice pins s σ H _ _ v u Qv I rx ry ⟨a,xs,i,w,rfl,rfl,sq,hw,ret w H r d S Ext.refl rel pw q'⟩ hs
    ·exact q'.elim
   ·exact q'.elim
  | _=>exact(show False from q).elim
 | _=>exact(show False from q).elim
theorem zad (ha:PD X Z a ta)(hb:PD X Z b tb)(hs:znh b):PD X Z (.Subscript a b pos) (dOp wIx ta tb):=zbe (pe_ix do_ix ha hb hs) λ_ _ _ h=>zlx h
end
structure Bk (fs:List Addr)(H H':Hp)(B h:Heap)(ea:Addr):Prop where
 trk:∀b u,H' b=some u→∃o,B.get? b=some o
 old:∀b o,h.get? b=some o→H b=none→b ∉ fs→B.get? b=some o
 all:∀b o,h.get? b=some o→b ∉ fs→∃o',B.get? b=some o'
 new:H' ea=none
def CXE (P:Program)(w:World):CXT:=λouter H s E e s'=>∃(ea c:Addr) (a0:Value) (B:Heap) (H':Hp),e=.ref ea∧s'.os=s.os∧AllBare s'.gens∧Un (frs outer) [] H H' s.heap s'.heap∧HOk P w H' s'.heap∧
 Heap.FlyingW B outer ea (.ref c) a0 s'.heap∧Bk (frs outer) H H' B s.heap ea∧E (.ref c) none H'
section
variable {X:Cx}{pins:List (Addr×Obj)}{σ:St}{H:Hp}{s:Shared}
end
section
variable {P:Program}{w:World}{K:PySem.W.Frag}{mg:Str→Option Value}{base:Heap}{N:List Str}{qual:Str}{scope:Scope}{f:Addr}{cdv:Value}{A:Around}{outer:List Env}{s0:Shared}{H0:Hp}{E:XK}
end
abbrev WC:=List D→Sto→DK→Prop
abbrev Sd:=List D→Sto→DK→(Addr→Sto→Prop)→Prop
def upC (K:PySem.W.Frag)(Z:Zx)(w:WC):List V→Hp→VK→Prop:=λxs H Qv=>∃r S ds Q,Rel K Z r S H∧Rps r H ds xs∧w ds S Q∧Ret K Z r H Q Qv
def upF (K:PySem.W.Frag)(sd:Sd):Sp:=λvs H Qv E=>∃ex:Addr→Sto→Prop,upC K (Zc ex E) (λds S Q=>sd ds S Q ex) vs H Qv
def zla (w:WC)(t:TDA):TDE:=λdl S Q=>t dl S λds S1=>w ds S1 Q
def zmP (ex:Ev→Addr→Sto→Prop)(sd:Sd)(t:TDA):TDE:=λdl S Q=>t dl S λds S1=>sd ds S1 Q (ex dl)
def zcZ (X:Cx)(W:St→XK):Prop:=∀(pins:List (Addr×Obj)) (σ:St) (H:Hp) (s:Shared) (e:Value) (s':Shared),Inv X pins σ H s→CXE X.prog X.w X.stack H s (W σ) e s'→X.xe e s'
section
variable {X:Cx}{k:Nat}{f:Addr}{fd:FuncData}{ps:List Str}{sp:Sp}{W:St→XK}{x:Str}{p pos:Pos}{e:Expr}{es:List Expr}{t:TA}
theorem zoQ {pins:List (Addr×Obj)}{σ:St}{H:Hp}{s:Shared}{Q:VK}{us:List Value}{vs:List V}(F:zbj X.prog X.w X.K X.mg X.base (CXE X.prog X.w) k f fd ps sp)(hr:zaU k X.A)(hb:zbI X.K fd ps [])(hx:zcZ X W)
  (I:Inv X pins σ H s)(r:zaD vs us)(h:sp vs H Q (W σ)):wpAny (model X.prog X.w) X.A (call (.ref f) us) (EP X pins σ Q) X.xe s:=by
 have hl:us.length=ps.length:=by rw[← r.length]; exact F.len _ _ _ _ h
 have hb':=hb s us I.kIn (by rw[VaW]; exact hl)
 rw[VaW] at hb'
 refine wpAny_call (codeAny_mono (F.run X.A X.stack s H ⟨us,[]⟩ us vs Q (W σ) hr I.env0 hb' r h) λz s' hq=>?_)
 cases z with
 | error ev=>exact hx pins σ H s ev s' I hq
 | ok fl=>
  cases fl with
  | ret u=>exact I.after hq
  | _=>exact False.elim hq
theorem zvX (F:zbj X.prog X.w X.K X.mg X.base (CXE X.prog X.w) k f fd ps sp)(hr:zaU k X.A)(hg:Gl X x)(hm:X.mg x=some (.ref f))(hk:PySem.W.keepIn X.K (.ref f)=true)(hb:zbI X.K fd ps [])(hx:zcZ X W)
  (ha:PA X (e::es) t)(hdb:(x==("__debug__":Str))=false)(he:starEach (e::es) X.env=(false,eval e X.env)::starEach es X.env)(hpl:(backTo pos (starEach es X.env)).any (·.1)=false):
  PE X (.Call (.Name x p) (e::es) [] pos) (λσ H Q=>t σ H λvs H1=>sp vs H1 Q (W σ)):=by
 intro pins s σ H Q I h
 refine wpAny_Call_Name_kw (zpT I hg hm ?_ hdb)
 exact PySem.W.callWith_K (h₀:=X.base) I.ok.mod.kin hk (thn (ha pos pins s σ H _ I h) λus s1 ⟨vs,H1,I1,r,q⟩=>⟨I1.kIn,zoQ F hr hb hx I1 r q⟩) he hpl
end
section
variable {X:Cx}{Z:Zx}{x:Str}{p pos:Pos}{e:Expr}{es:List Expr}{t:TDA}{id T:String}{w:WC}
theorem zpo {σ:St}{H:Hp}{Qv:VK}(h:up X.K Z (zla w t) σ H Qv):upA X.K Z t σ H λvs H1=>upC X.K Z w vs H1 Qv:=by
 obtain⟨r,dl,S,Q,rs,rel,h,ret⟩:=h
 exact⟨r,dl,S,_,rs,rel,h,λvs H1 r1 ds S1 e1 rel1 p1 h1=>⟨r1,S1,ds,Q,rel1,p1,h1,ret.ext e1⟩⟩
theorem zaF (hc:zbt X (.builtin id) (upC X.K Z w))(hg:Gl X x)(hm:X.mg x=none)(hv:bootBuiltins x=some (.builtin id))(ha:PDA X Z (e::es) t)(hn:x≠"__name__":=by decide)(hdb:(x==("__debug__":Str))=false:=by decide)
  (he:starEach (e::es) X.env=(false,eval e X.env)::starEach es X.env:=by rfl)(hpl:(backTo pos (starEach es X.env)).any (·.1)=false:=by rfl):PD X Z (.Call (.Name x p) (e::es) [] pos) (zla w t):=
 zbe (zo1 hc hg hm hv ha hn hdb he hpl) λ_ _ _ h=>zpo h
theorem zjA (hc:zbt X (.type T) (upC X.K Z w))(hg:Gl X x)(hm:X.mg x=none)(hv:bootBuiltins x=some (.type T))(ha:PDA X Z (e::es) t)(hn:x≠"__name__":=by decide)(hdb:(x==("__debug__":Str))=false:=by decide)
  (he:starEach (e::es) X.env=(false,eval e X.env)::starEach es X.env:=by rfl)(hpl:(backTo pos (starEach es X.env)).any (·.1)=false:=by rfl):PD X Z (.Call (.Name x p) (e::es) [] pos) (zla w t):=
 zbe (zru hc hg hm hv ha hn hdb he hpl) λ_ _ _ h=>zpo h
theorem znT {sd:Sd}{r:List Addr}{S:Sto}{H:Hp}{dl:Ev}{σ:St}{ds:List D}{vs:List V}{Q:DK}{Qv:VK}(rs:Rs r H dl σ)(rel:Rel X.K Z r S H)(p:Rps r H ds vs)(h:sd ds S Q (Z.ex dl))(ret:Ret X.K Z r H Q Qv):upF X.K sd vs H Qv (Z.w σ):=
 ⟨Z.ex dl,r,S,ds,Q,⟨rel.b,λ_ _ c H' r' S' x _ rb q=>rel.xw dl σ c H' r' S' x (rs.ext x) rb q⟩,p,h,λv H' r' d S' x rel' pv q=>ret v H' r' d S' x ⟨rel'.b,rel.xw.ext x⟩ pv q⟩
theorem zwm {k:Nat}{f:Addr}{fd:FuncData}{ps:List Str}{sd:Sd}(F:zbj X.prog X.w X.K X.mg X.base (CXE X.prog X.w) k f fd ps (upF X.K sd))(hr:zaU k X.A)(hg:Gl X x)(hm:X.mg x=some (.ref f))(hk:PySem.W.keepIn X.K (.ref f)=true)
  {ex:Ev→Addr→Sto→Prop}{W:St→XK}(hb:zbI X.K fd ps [])(hx:zcZ X W)(ha:PDA X ⟨ex,W⟩ (e::es) t)(hdb:(x==("__debug__":Str))=false:=by decide)(he:starEach (e::es) X.env=(false,eval e X.env)::starEach es X.env:=by rfl)
  (hpl:(backTo pos (starEach es X.env)).any (·.1)=false:=by rfl):PD X ⟨ex,W⟩ (.Call (.Name x p) (e::es) [] pos) (zmP ex sd t):=
 zbe (zvX F hr hg hm hk hb hx ha hdb he hpl) λσ H Qv ⟨r,dl,S,Q,rs,rel,h,ret⟩=>⟨r,dl,S,_,rs,rel,h,λvs H1 r1 ds S1 e1 rel1 p1 h1=>znT (Z:=⟨ex,W⟩) (rs.ext e1) rel1 p1 h1 (ret.ext e1)⟩
def wAbs:WC:=λds S Q=>match ds with
 | [.int i]=>Q (.int (if i<0 then -i else i)) S
 | _=>False
theorem zcV:zbt X (.builtin "abs") (upC X.K Z wAbs):=zno zvh λxs H Qv ⟨r,S,ds,Q,rel,ps,q,ret⟩=>by
 unfold wAbs at q
 split at q
 ·rename_i i
  obtain⟨v,vs,rfl,p1,p2⟩:=ps.uncons
  have z:=p2.unnil
  subst z
  cases p1
  exact⟨i,rfl,ret _ _ _ _ _ Ext.refl rel (.int _) q⟩
 ·exact q.elim
def zcQ:List D→Option (List Int)
 | []=>some []
 | .int i::r=>(zcQ r).map (i::·)
 | _::_=>none
def zec (le:Int→Int→Prop)(two:Int→Int→Int):WC:=λds S Q=>match ds with
 | [.int i,.int j]=>Q (.int (two i j)) S
 | [.ref n]=>match lAt S n with
  | some o=>match zcQ (zat o) with
   | some xs=>xs≠[]∧∀m,m∈xs→(∀y∈xs,le y m)→Q (.int m) S
   | none=>False
  | none=>False
 | _=>False
abbrev wMax:WC:=zec (λy m=>y≤m) λi j=>if j > i then j else i
abbrev wMin:WC:=zec (λy m=>m≤y) λi j=>if j<i then j else i
theorem zoI {r:List Addr}{H:Hp}:∀ {ds:List D} {ns:List Int} {vs:List V} {us:List Value},zcQ ds=some ns→Rps r H ds vs→zaD vs us→∃xs:List (Int×Tok),us.toArray=intItems xs.toArray∧xs.map (·.1)=ns
 | [],ns,vs,us,e,p,q=>by
  have z:=p.unnil
  subst z
  cases q
  simp[zcQ] at e
  subst e
  exact⟨[],by simp[intItems],rfl⟩
 | d::ds,ns,vs,us,e,p,q=>by
  obtain⟨v,vs',rfl,p1,p2⟩:=p.uncons
  cases d with
  | int i=>
   cases p1
   cases q with
   | cons q1 q2=>
    obtain⟨t,rfl⟩:=q1
    simp only[zcQ,Vah] at e
    obtain⟨ms,e1,rfl⟩:=e
    obtain⟨xs,h1,h2⟩:=zoI e1 p2 q2
    refine⟨(i,t)::xs,?_,by simp[h2]⟩
    simp[intItems] at h1 ⊢
    exact h1
  | _=>simp[zcQ] at e
theorem zqp (f:Nat→Int):∀k j,j≤k→f j≤f (argBest (λi j=>decide (f i > f j)) k)
 | 0,j,h=>by
  have z:j=0:=by omega
  subst z
  exact VaH _
 | k+1,j,h=>by
  have ih:=zqp f k
  unfold argBest
  split
  ·rename_i hb
   have hb':f (k+1) > f (argBest (λi j=>decide (f i > f j)) k):=of_decide_eq_true hb
   by_cases z:j=k+1
   ·subst z; exact VaH _
   ·have:=ih j (by omega); omega
  ·rename_i hb
   have hb':¬ f (k+1) > f (argBest (λi j=>decide (f i > f j)) k):=λq=>hb (decide_eq_true q)
   by_cases z:j=k+1
   ·subst z; omega
   ·exact ih j (by omega)
theorem zp2 (f:Nat→Int):∀k j,j≤k→f (argBest (λi j=>decide (f i<f j)) k)≤f j
 | 0,j,h=>by
  have z:j=0:=by omega
  subst z
  exact VaH _
 | k+1,j,h=>by
  have ih:=zp2 f k
  unfold argBest
  split
  ·rename_i hb
   have hb':f (k+1)<f (argBest (λi j=>decide (f i<f j)) k):=of_decide_eq_true hb
   by_cases z:j=k+1
   ·subst z; exact VaH _
   ·have:=ih j (by omega); omega
  ·rename_i hb
   have hb':¬ f (k+1)<f (argBest (λi j=>decide (f i<f j)) k):=λq=>hb (decide_eq_true q)
   by_cases z:j=k+1
   ·subst z; omega
   ·exact ih j (by omega)
theorem znt (bt:Nat→Nat→Bool):∀k,argBest bt k≤k
 | 0=>Vab _
 | k+1=>by
  unfold argBest
  split
  ·exact Vab _
  ·exact Nat.le_succ_of_le (znt bt k)
theorem zoo {xs:List (Int×Tok)}{ns:List Int}(h:xs.map (·.1)=ns){j:Nat}{y:Int}(e:ns[j]?=some y):numAt xs.toArray j=y:=by
  subst h
  unfold numAt
  rw[Vae] at e
  simp only[List.getElem?_toArray]
  cases q:xs[j]? with
  | none=>
   rw[q] at e
   cases e
  | some z=>rw[q] at e; simpa using e
theorem zps {xs:List (Int×Tok)}{ns:List Int}(h:xs.map (·.1)=ns){j:Nat}(hj:j<ns.length):numAt xs.toArray j∈ns:=by
 have e:ns[j]?=some ns[j]:=by simp[hj]
 rw[zoo h e]
 exact List.getElem_mem hj
theorem zbl (hc:X.calm=true):zbt X (.builtin "max") (upC X.K Z wMax):=by
 intro pins s σ H xs us Qv I rv h
 obtain⟨r,S,ds,Q,rel,ps,q,ret⟩:=h
 unfold wMax zec at q
 split at q
 ·rename_i i j
  obtain⟨v,vs,rfl,p1,p2⟩:=ps.uncons
  obtain⟨v2,vs2,rfl,p3,p4⟩:=p2.uncons
  have z:=p4.unnil
  subst z
  cases p1
  cases p3
  exact zuQ hc pins s σ H _ us Qv I rv ⟨i,j,rfl,ret _ _ _ _ _ Ext.refl rel (.int _) q⟩
 ·rename_i n
  obtain⟨v,vs,rfl,p1,p2⟩:=ps.uncons
  have z:=p2.unnil
  subst z
  split at q
  ·rename_i o eo
   split at q
   ·rename_i ns en
    obtain⟨hne,q⟩:=q
    obtain⟨eo,eL⟩:=zbK eo
    obtain⟨a,ha,ob⟩:=rel.at eo
    cases p1 with
    | ref h1=>
     rw[h1] at ha; cases ha
     obtain⟨ys,sq,pr⟩:=ob.list eL
     obtain⟨u,rfl,ru⟩:=zeU rv
     cases ru
     obtain⟨its,ri,pl,hz⟩:=I.list sq
     obtain⟨zs,hz1,hz2⟩:=zoI en pr ri
     have hl:zs.length=ns.length:=by rw[← hz2,Vaa]
     have hpos:0<ns.length:=List.length_pos_iff.mpr hne
     have isl:=pl.isList
     rw[hz1] at isl
     refine max_intList (I.ok.hd hc) isl (by simp; omega) λv h' tk hv hk=>?_
     have hvi:=intItems_at hv
     obtain⟨t,rfl⟩:=hvi
     have hb:=znt (λi j=>decide (numAt zs.toArray i > numAt zs.toArray j)) (zs.toArray.size-1)
     have hsz:zs.toArray.size=ns.length:=by simp[hl]
     refine⟨.int _,H,I.kept hk,⟨_,rfl⟩,ret _ _ _ _ _ Ext.refl rel (.int _) (q _ (zps hz2 (by omega)) λy hy=>?_)⟩
     obtain⟨j,hj,ej⟩:=VaL.mp hy
     have e1:=zoo hz2 (show ns[j]?=some y by simp[hj,ej])
     rw[← e1]
     exact zqp _ _ j (by omega)
   ·exact q.elim
  ·exact q.elim
 ·exact q.elim
theorem zcd (hc:X.calm=true):zbt X (.builtin "min") (upC X.K Z wMin):=by
 intro pins s σ H xs us Qv I rv h
 obtain⟨r,S,ds,Q,rel,ps,q,ret⟩:=h
 unfold wMin zec at q
 split at q
 ·rename_i i j
  obtain⟨v,vs,rfl,p1,p2⟩:=ps.uncons
  obtain⟨v2,vs2,rfl,p3,p4⟩:=p2.uncons
  have z:=p4.unnil
  subst z
  cases p1
  cases p3
  exact zsi hc pins s σ H _ us Qv I rv ⟨i,j,rfl,ret _ _ _ _ _ Ext.refl rel (.int _) q⟩
 ·rename_i n
  obtain⟨v,vs,rfl,p1,p2⟩:=ps.uncons
  have z:=p2.unnil
  subst z
  split at q
  ·rename_i o eo
   split at q
   ·rename_i ns en
    obtain⟨hne,q⟩:=q
    obtain⟨eo,eL⟩:=zbK eo
    obtain⟨a,ha,ob⟩:=rel.at eo
    cases p1 with
    | ref h1=>
     rw[h1] at ha; cases ha
     obtain⟨ys,sq,pr⟩:=ob.list eL
     obtain⟨u,rfl,ru⟩:=zeU rv
     cases ru
     obtain⟨its,ri,pl,hz⟩:=I.list sq
     obtain⟨zs,hz1,hz2⟩:=zoI en pr ri
     have hl:zs.length=ns.length:=by rw[← hz2,Vaa]
     have hpos:0<ns.length:=List.length_pos_iff.mpr hne
     have isl:=pl.isList
     rw[hz1] at isl
     refine min_intList (I.ok.hd hc) isl (by simp; omega) λv h' tk hv hk=>?_
     have hvi:=intItems_at hv
     obtain⟨t,rfl⟩:=hvi
     have hb:=znt (λi j=>decide (numAt zs.toArray i<numAt zs.toArray j)) (zs.toArray.size-1)
     have hsz:zs.toArray.size=ns.length:=by simp[hl]
     refine⟨.int _,H,I.kept hk,⟨_,rfl⟩,ret _ _ _ _ _ Ext.refl rel (.int _) (q _ (zps hz2 (by omega)) λy hy=>?_)⟩
     obtain⟨j,hj,ej⟩:=VaL.mp hy
     have e1:=zoo hz2 (show ns[j]?=some y by simp[hj,ej])
     rw[← e1]
     exact zp2 _ _ j (by omega)
   ·exact q.elim
  ·exact q.elim
 ·exact q.elim
def zia:WC:=λds S Q=>match ds with
 | [.tup xs]=>Q (.int xs.length) S
 | [.ref n]=>match lAt S n with
  | some o=>Q (.int (zat o).length) S
  | none=>False
 | _=>False
theorem zcf:zbt X (.builtin "len") (upC X.K Z zia):=zno zq1 λxs H Qv ⟨r,S,ds,Q,rel,ps,q,ret⟩=>by
 unfold zia at q
 split at q
 ·rename_i ys
  obtain⟨v,vs,rfl,p1,p2⟩:=ps.uncons
  have z:=p2.unnil
  subst z
  obtain⟨a,zs,rfl,h1,h2⟩:=p1.untup
  exact⟨a,zs,rfl,.inr (SqT.of h1),by rw[← h2.1]; exact ret _ _ _ _ _ Ext.refl rel (.int _) q⟩
 ·rename_i n
  obtain⟨v,vs,rfl,p1,p2⟩:=ps.uncons
  have z:=p2.unnil
  subst z
  split at q
  ·rename_i o eo
   obtain⟨eo,eL⟩:=zbK eo
   obtain⟨a,ha,ob⟩:=rel.at eo
   cases p1 with
   | ref h1=>
    rw[h1] at ha; cases ha
    obtain⟨ys,sq,pr⟩:=ob.list eL
    exact⟨_,ys,rfl,.inl sq,by rw[← pr.1]; exact ret _ _ _ _ _ Ext.refl rel (.int _) q⟩
  ·exact q.elim
 ·exact q.elim
def zcW (t T:String):Bool:=t==T||(t == "bool"&&T == "int")
def zqo (T:String)(te:TDE):TDE:=λdl S Q=>te dl S λd S1=>match d with
 | .ref _=>False
 | .exc _=>False
 | .non=>Q (.bl (zcW "NoneType" T)) S1
 | .bl _=>Q (.bl (zcW "bool" T)) S1
 | .int _=>Q (.bl (zcW "int" T)) S1
 | .str _=>Q (.bl (zcW "str" T)) S1
 | .tup _=>Q (.bl (zcW "tuple" T)) S1
def Kit (K:PySem.W.Frag)(T:String):Prop:=∀t∈["NoneType","bool","int","str","tuple"],PySem.W.kitOne K (.type t) (.type T)=some (zcW t T)
def rInst (K:PySem.W.Frag):List V→Hp→VK→Prop:=λxs H Qv=>∃x T t b,xs=[x,.ty T]∧zb7 K H x t∧PySem.W.kitOne K t (.type T)=some b∧Qv (.bl b) H
theorem zqv:zbt X (.builtin "isinstance") (rInst X.K):=by
 intro pins s σ H xs us Q I r h
 obtain⟨x,T,t,b,rfl,ty,e,q⟩:=h
 obtain⟨u,w',rfl,r1,r2⟩:=znK r
 cases r2
 exact zuL I r1 ty e λtk=>⟨.bl b,H,I.tok tk,rfl,q⟩
theorem zon {T:String}{te:TDE}{y:Str}{p2:Pos}(KT:Kit X.K T)(hg:Gl X "isinstance")(hm:X.mg "isinstance"=none)(hg2:Gl X y)(hm2:X.mg y=none)(hv2:bootBuiltins y=some (.type T))(ha:PD X Z e te)
  (hv:bootBuiltins "isinstance"=some (.builtin "isinstance"):=by exact PyProof.Rows.Boot.«isinstance»)
  (hn2:y≠"__name__":=by decide)(hd2:(y==("__debug__":Str))=false:=by decide)(he2:starEach [e,.Name y p2] X.env=(false,eval e X.env)::starEach [.Name y p2] X.env:=by rfl)
  (he3:starEach [.Name y p2] X.env=(false,eval (.Name y p2) X.env)::starEach [] X.env:=by rfl)(hpl:(backTo pos (starEach [.Name y p2] X.env)).any (·.1)=false:=by rfl):
  PD X Z (.Call (.Name "isinstance" p) [e,.Name y p2] [] pos) (zqo T te):=
 zbe (zo1 zqv hg hm hv (zeD ha (zeD (zqZ (v:=.ty T) hg2 hm2 hv2 rfl hn2 hd2) zkD he3) he2) (by decide) (by decide) he2 hpl) λσ H Qv ⟨r,dl,S,Q,rs,rel,h,ret⟩=>
  ⟨r,dl,S,_,rs,rel,h,λv H1 r1 d S1 e1 rel1 p1 h1=>by
   cases p1 with
   | non=>exact⟨_,T,_,_,rfl,.non,KT _ (by simp),ret _ _ _ _ _ e1 rel1 (.bl _) h1⟩
   | bl b=>exact⟨_,T,_,_,rfl,.bl b,KT _ (by simp),ret _ _ _ _ _ e1 rel1 (.bl _) h1⟩
   | int b=>exact⟨_,T,_,_,rfl,.int b,KT _ (by simp),ret _ _ _ _ _ e1 rel1 (.bl _) h1⟩
   | str b=>exact⟨_,T,_,_,rfl,.str b,KT _ (by simp),ret _ _ _ _ _ e1 rel1 (.bl _) h1⟩
   | tup e2 _ _=>exact⟨_,T,_,_,rfl,.tup e2,KT _ (by simp),ret _ _ _ _ _ e1 rel1 (.bl _) h1⟩
   | ref _=>exact(show False from h1).elim
   | exc _=>exact(show False from h1).elim⟩
end
section
variable {X:Cx}{Z:Zx}{st:Stmt}{zbn:List Stmt}{t u:TDS}{e:Expr}{te:TDE}{pos:Pos}
def zm6:TDS:=λE dl S=>E.nx dl S
def zcx (t u:TDS):TDS:=λE dl S=>t { nx:=λdl' S'=>u E dl' S',rt:=E.rt,bk:=E.bk,ct:=E.ct } dl S
theorem zav:zcc X Z [] zm6:=zpN zrF λF σ H ⟨r,dl,S,E,rs,rel,h,ret⟩=>ret.nx σ H r dl S Ext.refl rs rel h
theorem zae (h1:PDS X Z st t)(h2:zcc X Z zbn u):zcc X Z (st::zbn) (zcx t u):=
 zpN (zs8 h1 h2) λF σ H ⟨r,dl,S,E,rs,rel,h,ret⟩=>⟨r,dl,S,_,rs,rel,h,λσ' H' r' dl' S' x rs' rel' q=>⟨r',dl',S',E,rs',rel',q,ret.ext x⟩,ret.bk,ret.ct,ret.rt⟩
theorem zag (h1:PDS X Z st t):zcc X Z [st] t:=zuK h1
def zqr (te:TDE):TDS:=λE dl S=>te dl S λ_ S1=>E.nx dl S1
theorem zbV (he:PD X Z e te)(hs:swapsWith e none pos.line X.env=pure false:=by rfl):PDS X Z (.Expr e pos) (zqr te):=
 zbG (zvi he hs) λF σ H ⟨r,dl,S,E,rs,rel,h,ret⟩=>⟨r,dl,S,_,rs,rel,h,λv H1 r1 d S1 x rel1 p q=>ret.nx σ H1 r1 dl S1 x (rs.ext x) rel1 q⟩
def dRet (te:TDE):TDS:=λE dl S=>te dl S E.rt
theorem zak (he:PD X Z e te):PDS X Z (.Return (some e) pos) (dRet te):=
 zbG (zsD he) λF σ H ⟨r,dl,S,E,rs,rel,h,ret⟩=>⟨r,dl,S,_,rs,rel,h,ret.rt⟩
def dRetN:TDS:=λE _ S=>E.rt .non S
def dIf (c:TDT)(t u:TDS):TDS:=λE dl S=>c dl S λk S1=>if k=true then t E dl S1 else u E dl S1
theorem zau {c:Expr}{a b:List Stmt}{tc:TDT}(hc:PDT X Z c tc)(ha:zcc X Z a t)(hb:zcc X Z b u):PDS X Z (.If c a b pos) (dIf tc t u):=
 zbG (ps_if hc ha hb) λF σ H ⟨r,dl,S,E,rs,rel,h,ret⟩=>⟨r,dl,S,_,rs,rel,h,λk H1 r1 S1 x rel1 q=>by
  cases k with
  | true=>exact zck ⟨r1,dl,S1,E,rs.ext x,rel1,(by simpa using q),ret.ext x⟩
  | false=>exact zbJ ⟨r1,dl,S1,E,rs.ext x,rel1,(by simpa using q),ret.ext x⟩⟩
def zmc (i:Nat)(te:TDE):TDS:=λE dl S=>te dl S λd S1=>E.nx (dl.set i (some d)) S1
theorem zal {i:Nat}{x:Str}{pos':Pos}(hN:X.N.Nodup)(hi:X.N[i]?=some x)(hx:Loc X.env.scope x)(he:PD X Z e te)(hs:swapsWith e (some (.Name x pos')) pos.line X.env=pure false:=by rfl)
  (hf:X.fn x=true∨X.env.scope.names.lookup x=some .local:=by first | exact .inl rfl | exact .inr rfl | assumption):PDS X Z (.Assign [.Name x pos'] e pos) (zmc i te):=
 zbG (zwA hN hi hx he hs hf) λF σ H ⟨r,dl,S,E,rs,rel,h,ret⟩=>⟨r,dl,S,_,rs,rel,h,λv H1 r1 d S1 x rel1 p q=>ret.nx _ H1 r1 _ S1 x ((rs.ext x).set i p) rel1 q⟩
def zxZ (c:TDT)(tb:TDS):TDS:=λE dl S=>∃W:Nat→Ev→Sto→Prop,(∃m,W m dl S)∧∀m dl S,W m dl S→
 c dl S λk S1=>if k=true then tb { nx:=λdl' S'=>∃m',m'<m∧W m' dl' S',rt:=E.rt,bk:=E.nx,ct:=λdl' S'=>∃m',m'<m∧W m' dl' S' } dl S1 else E.nx dl S1
theorem zo0 {c:Expr}{body:List Stmt}{tc:TDT}{tb:TDS}(hp:PassesOwn (model X.prog X.w) X.A X.env X.xe)(hc:PDT X Z c tc)(hb:zcc X Z body tb):PDS X Z (.While c body [] pos) (zxZ tc tb):=
 zbG (zxI hp hc hb) λF σ H ⟨r,dl,S,E,rs,rel,⟨W,⟨m0,w0⟩,turn⟩,ret⟩=>by
  refine⟨λm σ' H'=>∃r' dl' S',Ext r r' H H'∧Rs r' H' dl' σ'∧Rel X.K Z r' S' H'∧W m dl' S',⟨m0,r,dl,S,Ext.refl,rs,rel,w0⟩,?_⟩
  rintro m σ1 H1 ⟨r1,dl1,S1,x1,rs1,rel1,w1⟩
  refine⟨r1,dl1,S1,_,rs1,rel1,turn m dl1 S1 w1,λk H2 r2 S2 x2 rel2 q2=>?_⟩
  cases k with
  | true=>
   refine zck ⟨λσ' H'=>∃m',m'<m∧∃r' dl' S',Ext r r' H H'∧Rs r' H' dl' σ'∧Rel X.K Z r' S' H'∧W m' dl' S',λ_ _ z=>z,r2,dl1,S2,_,rs1.ext x2,rel2,(by simpa using q2),?_⟩
   have go:∀σ' H' r' dl' S',Ext r2 r' H2 H'→Rs r' H' dl' σ'→Rel X.K Z r' S' H'→(∃m',m'<m∧W m' dl' S')→∃m',m'<m∧∃r' dl' S',Ext r r' H H'∧Rs r' H' dl' σ'∧Rel X.K Z r' S' H'∧W m' dl' S':=
    λσ' H' r' dl' S' x rs' rel' ⟨m',hm,w'⟩=>⟨m',hm,r',dl',S',x1.trans (x2.trans x),rs',rel',w'⟩
   exact⟨go,λσ' H' r' dl' S' x rs' rel' q=>ret.nx σ' H' r' dl' S' (x1.trans (x2.trans x)) rs' rel' q,go,ret.rt.ext (x1.trans x2)⟩
  | false=>exact zbJ (ret.nx σ1 H2 r2 dl1 S2 (x1.trans x2) (rs1.ext x2) rel2 (by simpa using q2))
def dFor (i:Nat)(tl:TDE)(tb:TDS):TDS:=λE dl S=>tl dl S λd S1=>match d with
 | .ref n=>(lAt S1 n).isSome=true∧∃W:Nat→Nat→Ev→Sto→Prop,(∃m,W 0 m dl S1)∧∀k m dl S,W k m dl S→match lAt S n with
  | some o=>match (zat o)[k]? with
   | some x=>tb { nx:=λdl' S'=>∃m',m'<m∧W (k+1) m' dl' S',rt:=E.rt,bk:=E.nx,ct:=λdl' S'=>∃m',m'<m∧W (k+1) m' dl' S' } (dl.set i (some x)) S
   | none=>E.nx dl S
  | none=>False
 | _=>False
theorem zcO {i:Nat}{x:Str}{pos':Pos}{iter:Expr}{body:List Stmt}{tl:TDE}{tb:TDS}(hp:PassesOwn (model X.prog X.w) X.A X.env X.xe)(hc:X.calm=true)(hN:X.N.Nodup)(hi:X.N[i]?=some x)(hx:Loc X.env.scope x)
  (hl:PD X Z iter tl)(hb:zcc X Z body tb)(hf:X.fn x=true∨X.env.scope.names.lookup x=some .local:=by first | exact .inl rfl | exact .inr rfl | assumption)
  (hs:∀y,foldedSetIterable iter X.env y=pure y:=by intro _; rfl):PDS X Z (.For (.Name x pos') iter body [] pos) (dFor i tl tb):=
 zbG (zhD hp hc (zkT hl) (zht hN hi hx hf) hb hs) λF σ H ⟨r,dl,S,E,rs,rel,h,ret⟩=>by
  refine⟨r,dl,S,_,rs,rel,h,λv H1 r1 d S1 x1 rel1 p1 q1=>?_⟩
  cases p1 with
  | @ref n a hn=>
   obtain⟨hsome,W,⟨m0,w0⟩,turn⟩:=q1
   have sql:∀ {r':List Addr} {S':Sto} {H':Hp} {o:Ob},Ext r1 r' H1 H'→Rel X.K Z r' S' H'→lAt S' n=some o→∃xs,SqL X.K H' a xs∧Rps r' H' (zat o) xs:=λ{r' S' H' o} x' rel' eo=>by
    obtain⟨eo,eL⟩:=zbK eo
    obtain⟨a',ha,ob⟩:=rel'.at eo
    rw[x'.adr n a hn] at ha; cases ha
    exact ob.list eL
   obtain⟨o1,eo1⟩:=VaX.mp hsome
   obtain⟨xs1,sq1,_⟩:=sql Ext.refl rel1 eo1
   refine⟨a,rfl,⟨xs1,sq1⟩,λk m σ' H'=>∃r' dl' S',Ext r1 r' H1 H'∧Rs r' H' dl' σ'∧Rel X.K Z r' S' H'∧W k m dl' S',⟨m0,r1,dl,S1,Ext.refl,rs.ext x1,rel1,w0⟩,?_⟩
   rintro k m σ2 H2 ⟨r2,dl2,S2,x2,rs2,rel2,w2⟩
   have q:=turn k m dl2 S2 w2
   split at q
   ·rename_i o eo
    obtain⟨xs,sq,pr⟩:=sql x2 rel2 eo
    split at q
    ·rename_i y ey
     obtain⟨v,hv,pv⟩:=pr.get ey
     have go:∀ {r3:List Addr} {H3:Hp},Ext r2 r3 H2 H3→∀σ' H' r' dl' S',Ext r3 r' H3 H'→Rs r' H' dl' σ'→Rel X.K Z r' S' H'→(∃m',m'<m∧W (k+1) m' dl' S')→∃m',m'<m∧∃r' dl' S',Ext r1 r' H1 H'∧Rs r' H' dl' σ'∧Rel X.K Z r' S' H'∧W (k+1) m' dl' S':=
      λ{r3 H3} x3 σ' H' r' dl' S' x rs' rel' ⟨m',hm,w'⟩=>⟨m',hm,r',dl',S',x2.trans (x3.trans x),rs',rel',w'⟩
     refine .inr ⟨⟨xs,v,sq,hv⟩,λσ' H'=>∃m',m'<m∧∃r' dl' S',Ext r1 r' H1 H'∧Rs r' H' dl' σ'∧Rel X.K Z r' S' H'∧W (k+1) m' dl' S',λ_ _ z=>z,λv' H' y'=>?_⟩
     obtain⟨eH,y'⟩:=y'
     subst eH
     have ev:v'=v:=by
      have z:=y' xs sq
      rw[hv] at z; exact(Option.some.inj z).symm
     subst ev
     exact⟨r2,_,S2,_,rs2.set i pv,rel2,q,go Ext.refl,λσ' H' r' dl' S' x rs' rel' z=>ret.nx σ' H' r' dl' S' (x1.trans (x2.trans x)) rs' rel' z,go Ext.refl,ret.rt.ext (x1.trans x2)⟩
    ·rename_i ey
     have hlen:(zat o).length≤k:=VaE.mp ey
     exact .inl ⟨⟨xs,sq,by rw[← pr.1]; exact hlen⟩,ret.nx σ2 H2 r2 dl2 S2 (x1.trans x2) rs2 rel2 q⟩
   ·exact q.elim
  | _=>exact(show False from q1).elim
def dForR (i:Nat)(ta:TDA)(tb:TDS):TDS:=λE dl S=>ta dl S λds S1=>match ds with
 | [.int j]=>(-(2^62)≤j∧j<2^62)∧∃W:Nat→Ev→Sto→Prop,W 0 dl S1∧∀k dl S,W k dl S→
   if k<j.toNat then tb { nx:=λdl' S'=>W (k+1) dl' S',rt:=E.rt,bk:=E.nx,ct:=λdl' S'=>W (k+1) dl' S' } (dl.set i (some (.int k))) S else E.nx dl S
 | _=>False
theorem znX {i:Nat}{x:Str}{pos2 pos' p:Pos}{a:Expr}{body:List Stmt}{ta:TDA}{tb:TDS}(hp:PassesOwn (model X.prog X.w) X.A X.env X.xe)(hc:X.calm=true)(hN:X.N.Nodup)(hi:X.N[i]?=some x)(hx:Loc X.env.scope x)
  (hg:Gl X "range")(hm:X.mg "range"=none)(ha:PDA X Z [a] ta)(hb:zcc X Z body tb)(hf:X.fn x=true∨X.env.scope.names.lookup x=some .local:=by first | exact .inl rfl | exact .inr rfl | assumption)
  (hs:∀y,foldedSetIterable (.Call (.Name "range" p) [a] [] pos) X.env y=pure y:=by intro _; rfl)(hst:starEach [a] X.env=[(false,eval a X.env)]:=by rfl):
  PDS X Z (.For (.Name x pos') (.Call (.Name "range" p) [a] [] pos) body [] pos2) (dForR i ta tb):=
 zbG (zhD hp hc (zqj hg hm ha hst) (zht hN hi hx hf) hb hs) λF σ H ⟨r,dl,S,E,rs,rel,h,ret⟩=>by
  refine⟨r,dl,S,_,rs,rel,h,λvs H1 r1 ds S1 x1 rel1 p1 q1=>?_⟩
  split at q1
  ·rename_i j
   obtain⟨v,vs',rfl,p2,p3⟩:=p1.uncons
   have z:=p3.unnil
   subst z
   cases p2
   obtain⟨⟨b1,b2⟩,W,w0,turn⟩:=q1
   refine⟨j,rfl,b1,b2,λk m σ' H'=>m=j.toNat-k∧∃r' dl' S',Ext r1 r' H1 H'∧Rs r' H' dl' σ'∧Rel X.K Z r' S' H'∧W k dl' S',⟨j.toNat,by simp,r1,dl,S1,Ext.refl,rs.ext x1,rel1,w0⟩,?_⟩
   rintro k m σ2 H2 ⟨em,r2,dl2,S2,x2,rs2,rel2,w2⟩
   have q:=turn k dl2 S2 w2
   split at q
   ·rename_i hk
    have go:∀σ' H' r' dl' S',Ext r2 r' H2 H'→Rs r' H' dl' σ'→Rel X.K Z r' S' H'→W (k+1) dl' S'→∃r' dl' S',Ext r1 r' H1 H'∧Rs r' H' dl' σ'∧Rel X.K Z r' S' H'∧W (k+1) dl' S':=
     λσ' H' r' dl' S' x rs' rel' w'=>⟨r',dl',S',x2.trans x,rs',rel',w'⟩
    have pk:Rp r2 H2 (.int (k:Int)) (.int (0+(k:Int))):=by rw[Int.zero_add]; exact .int _
    refine .inr ⟨hk,λσ' H'=>∃r' dl' S',Ext r1 r' H1 H'∧Rs r' H' dl' σ'∧Rel X.K Z r' S' H'∧W (k+1) dl' S',λσ' H' z=>⟨j.toNat-(k+1),by omega,rfl,z⟩,λv' H' y'=>?_⟩
    obtain⟨eH,y'⟩:=y'
    subst eH
    subst y'
    exact⟨r2,_,S2,_,rs2.set i pk,rel2,q,go,λσ' H' r' dl' S' x rs' rel' z=>ret.nx σ' H' r' dl' S' (x1.trans (x2.trans x)) rs' rel' z,go,ret.rt.ext (x1.trans x2)⟩
   ·rename_i hk
    exact .inl ⟨by show j.toNat≤k; omega,ret.nx σ2 H2 r2 dl2 S2 (x1.trans x2) rs2 rel2 q⟩
  ·exact q1.elim
end
def zeN (N:List Str)(ds:List D):Ev:=ds.map some++List.replicate (N.length-ds.length) none
theorem zsf {r:List Addr}{H:Hp}{N:List Str}{ds:List D}{vs:List V}(h:Rps r H ds vs):Rs r H (zeN N ds) (L2.zcI N vs):=by
  refine⟨by simp[zeN,L2.zcI,h.1],λi d e=>?_⟩
  unfold zeN at e
  by_cases hi:i<ds.length
  · rw[Vas (by simpa using hi),Vae] at e
    cases q:ds[i]? with
    | none=>
   rw[q] at e
   cases e
    | some z=>
      rw[q] at e
      cases e
      obtain⟨v,hv,pv⟩:=h.get q
      refine⟨v,?_,pv⟩
      unfold L2.zcI
      rw[Vas (by simpa [h.1] using hi),Vae,hv]
      rfl
  · rw[VaP (by simpa using hi),List.getElem?_replicate] at e
    split at e <;> cases e
section
variable {P:Program}{w:World}{K:PySem.W.Frag}{mg:Str→Option Value}{base:Heap}
abbrev Z0:Zx:=Zc (λ_ _=>False) (λ_ _ _=>False)
theorem zcE {X:Cx}:zcZ X Z0.w:=λ_ _ _ _ _ _ _ h=>by
 obtain⟨_,_,_,_,_,_,_,_,_,_,_,_,q⟩:=h
 exact q.elim
theorem zax {x qual:Str}{st:Stmt}{f:Addr}{fd:FuncData}{N ps:List Str}{k:Nat}{sd:Sd}(F:Fun K x qual st f fd)(Sc:zaw N ps (zas st))(len:∀ds S Q ex,sd ds S Q ex→ds.length=ps.length)
  (hbody:∀(cdv:Value) (A:Around) (outer:List Env) (s:Shared) (H:Hp) (E:XK),zaU k (A.deeper (envOfC qual (zas st) s.heap.objs.size f cdv))→
   ∃t,zcc (zfG (CXE P w) P w K mg base N qual (zas st) f cdv A outer s H E).nox Z0 (zdG st) t∧∀ds S Q ex,sd ds S Q ex→t { nx:=λ_ S'=>Q .non S',rt:=Q } (zeN N ds) S):zbj P w K mg base (CXE P w) (k+1) f fd ps (upF K sd):=by
 obtain⟨oc,od,kV,doc,pm,an,cdv,ct,osl,rfl,lk,hcd⟩:=F.ex
 refine fn_of lk hcd Sc (λvs H Q E h=>?_) λA outer s H vs Q E hr h=>?_
 ·obtain⟨ex,r,S,ds,Q',rel,p,q,ret⟩:=h
  rw[← p.1]
  exact len ds S Q' ex q
 ·obtain⟨ex,r,S,ds,Q',rel,p,q,ret⟩:=h
  obtain⟨t,ht,hq⟩:=hbody cdv A outer s H E hr
  have back:∀ {H':Hp} {r':List Addr} {S':Sto},Ext r r' H H'→Rel K Z0 r' S' H'→Rel K (Zc ex E) r' S' H':=λx rel'=>⟨rel'.b,rel.xw.ext x⟩
  refine⟨upS K Z0 t,ht.nox,r,zeN N ds,S,_,zsf p,⟨rel.b,λ_ _ _ _ _ _ _ _ _ z=>z.elim⟩,hq ds S Q' ex q,?_,?_,?_,?_⟩
  ·intro σ' H' r' dl' S' x _ rel' z
   exact ret .non H' r' .non S' x (back x rel') .non z
  ·intro σ' H' r' dl' S' x _ rel' z
   exact z
  ·intro σ' H' r' dl' S' x _ rel' z
   exact z
  ·intro v H' r' d S' x rel' p' z
   exact ret v H' r' d S' x (back x rel') p' z
end
open PySem
def Sz (n:Nat)(i:Int):Prop:=i.natAbs<2^n
theorem Sz.mono {m n:Nat}{i:Int}(h:Sz m i)(hn:m≤n):Sz n i:=Van h (Nat.pow_le_pow_right (by decide) hn)
theorem Sz.bits {n:Nat}{i:Int}(h:Sz n i):Builtin.Int.intBits i≤n:=by
 unfold Builtin.Int.intBits
 split
 ·exact Vau _
 ·rename_i hz
  have hp:i.natAbs≠0:=by
   intro z
   have z2:i=0:=by omega
   simp[z2] at hz
  have:=(Nat.log2_lt hp).mpr h
  omega
theorem zaG {m n:Nat}{i j:Int}(hi:Sz m i)(hj:Sz n j)(hm:m≤1048576:=by decide)(hn:n≤1048576:=by decide):IntMulOk i j:=by
 have e20:(2:Nat)^20=1048576:=by decide
 exact IntMulOk.of_bits (VaC hi.bits (by omega)) (VaC hj.bits (by omega))
theorem Sz.of {n:Nat}{i:Int}(m:Nat)(h:i.natAbs≤m)(hm:m<2^n:=by decide):Sz n i:=Nat.lt_of_le_of_lt h hm
theorem Sz.mul {m n:Nat}{i j:Int}(hi:Sz m i)(hj:Sz n j):Sz (m+n) (i*j):=by
 unfold Sz at *
 rw[Nat.pow_add,Int.natAbs_mul]
 exact Nat.mul_lt_mul'' hi hj
theorem Sz.add {m n:Nat}{i j:Int}(hi:Sz m i)(hj:Sz n j):Sz (max m n+1) (i+j):=by
 have h1:Sz (max m n) i:=hi.mono (Nat.le_max_left _ _)
 have h2:Sz (max m n) j:=hj.mono (Nat.le_max_right _ _)
 unfold Sz at *
 have e:(2:Nat)^(max m n+1)=2^max m n+2^max m n:=by rw[Nat.pow_succ]; omega
 rw[e]
 have:=Int.natAbs_add_le i j
 omega
theorem Sz.neg {m:Nat}{i:Int}(hi:Sz m i):Sz m (-i):=by
 unfold Sz at *
 rw[Int.natAbs_neg]; exact hi
theorem Sz.sub {m n:Nat}{i j:Int}(hi:Sz m i)(hj:Sz n j):Sz (max m n+1) (i-j):=by
 rw[Int.sub_eq_add_neg]; exact hi.add hj.neg
theorem Sz.log {n:Nat}{i:Int}(h:Sz n i)(hi:i≠0)(hn:n≤9000:=by decide):i.natAbs.log2<9000:=by
 have:=(Nat.log2_lt (by omega:i.natAbs≠0)).mpr h
 omega
theorem Sz.fd {n:Nat}{i:Int}(h:Sz n i)(hi:0<i)(hn:n≤9000:=by decide):0<i∧i.natAbs.log2<9000:=⟨hi,h.log (by omega) hn⟩
theorem za7 {a b:Int}(hb:0<b):0≤a%b∧a%b<b:=⟨Int.emod_nonneg _ (by omega),Int.emod_lt_of_pos _ hb⟩
theorem p40:((10:Int)^(40:Int).toNat)=10^40:=rfl
theorem p41:((10:Int)^(41:Int).toNat)=10^41:=rfl
theorem p20:((10:Int)^(20:Int).toNat)=10^20:=rfl
example (x:Int):-(10^40)≤x%(2*10^40+1)-10^40:=by omega
example (x:Int):x%(2*10^40+1)-10^40≤10^40:=by omega
example (x:Int) (h:-(10^40)≤x) (h2:x≤2*10^41):Sz 140 x:=Sz.of (2*10^41) (by omega)
theorem zsp (a b:Int):Int.gcd b (a%b)=Int.gcd a b:=by
 rw[Int.emod_def,show a-b*(a/b)=a-(a/b)*b by rw[VaU],Int.gcd_sub_mul_right_right,Int.gcd_comm]
def zdh (i:Int):Int:=if i<0 then -i else i
theorem zt2 (i:Int):0≤zdh i:=by unfold zdh; split <;> omega
theorem zrY (a b:Int):Int.gcd (zdh a) (zdh b)=Int.gcd a b:=by
 have h:∀i:Int,(zdh i).natAbs=i.natAbs:=λi=>by unfold zdh; split <;> omega
 unfold Int.gcd
 rw[h,h]
theorem zsI {T B d:Int}(hB:B≠0)(hd:d=(if B<0 then -((Int.gcd T B:Nat):Int) else ((Int.gcd T B:Nat):Int))):
  d≠0∧T.fdiv d*d=T∧B.fdiv d*d=B∧1≤B.fdiv d∧Int.gcd (T.fdiv d) (B.fdiv d)=1∧T.fdiv d*B=T*B.fdiv d:=by
 have g0:0<Int.gcd T B:=Nat.pos_of_ne_zero λz=>hB (Int.gcd_eq_zero_iff.mp z).2
 have dT:((Int.gcd T B:Nat):Int) ∣ T:=Int.gcd_dvd_left T B
 have dB:((Int.gcd T B:Nat):Int) ∣ B:=Int.gcd_dvd_right T B
 have hne:d≠0:=by
  rw[hd]; split <;> omega
 have eT:d ∣ T:=by rw[hd]; split <;> first | exact Int.neg_dvd.mpr dT | exact dT
 have eB:d ∣ B:=by rw[hd]; split <;> first | exact Int.neg_dvd.mpr dB | exact dB
 have fT:T.fdiv d=T/d:=Int.fdiv_eq_ediv_of_dvd eT
 have fB:B.fdiv d=B/d:=Int.fdiv_eq_ediv_of_dvd eB
 have mT:T.fdiv d*d=T:=by rw[fT]; exact Int.ediv_mul_cancel eT
 have mB:B.fdiv d*d=B:=by rw[fB]; exact Int.ediv_mul_cancel eB
 have gg:Int.gcd (T.fdiv d) (B.fdiv d)=1:=by
  have z:=Int.gcd_ediv_gcd_ediv_gcd g0
  rw[fT,fB,hd]
  split
  ·rw[Int.ediv_neg,Int.ediv_neg,Int.neg_gcd,Int.gcd_neg]; exact z
  ·exact z
 have pos:1≤B.fdiv d:=by
  by_cases hb:B<0
  ·have dn:d<0:=by rw[hd,if_pos hb]; omega
   by_cases q:B.fdiv d≤0
   ·have:=Int.mul_nonneg_of_nonpos_of_nonpos q (Vaf dn)
    omega
   ·omega
  ·have dp:0<d:=by rw[hd,if_neg hb]; omega
   by_cases q:B.fdiv d≤0
   ·have:=Vav (show 0≤-(B.fdiv d) by omega) (Vaf dp)
    rw[Vag] at this
    omega
   ·omega
 refine⟨hne,mT,mB,pos,gg,?_⟩
 calc T.fdiv d*B=T.fdiv d*(B.fdiv d*d):=by rw[mB]
  _=T.fdiv d*d*B.fdiv d:=by grind
  _=T*B.fdiv d:=by rw[mT]
theorem zpm {T d:Int}(hne:d≠0)(mT:T.fdiv d*d=T):(T.fdiv d).natAbs≤T.natAbs:=by
 have h:(T.fdiv d).natAbs*d.natAbs=T.natAbs:=by rw[← Int.natAbs_mul,mT]
 have hd:1≤d.natAbs:=by omega
 calc (T.fdiv d).natAbs=(T.fdiv d).natAbs*1:=by omega
  _≤(T.fdiv d).natAbs*d.natAbs:=Nat.mul_le_mul_left _ hd
  _=T.natAbs:=h
theorem zsy (m:Int){g:Int}(hg:0<g):m/g*g≤m∧m<(m/g+1)*g:=by
 have h1:=Int.emod_add_mul_ediv m g
 have h2:=Int.emod_nonneg m (show g≠0 by omega)
 have h3:=Int.emod_lt_of_pos m hg
 have e:(m/g+1)*g=g*(m/g)+g:=by grind
 have e2:m/g*g=g*(m/g):=VaU _ _
 omega
section
variable {X:Cx}{Z:Zx}
def wIf (C:Int→Int→Bool)(g:Int→Int→D):W2:=λx y S Q=>match x,y with
 | .int i,.int j=>if C i j=true then Q (g i j) S else False
 | _,_=>False
theorem opIf {f:Value→Value→Sem Value}{C:Int→Int→Prop}{C':Int→Int→Bool}{g:Int→Int→D}(h:OpR X f (upO X.K Z (wI C g)))(hc:∀i j,C' i j=true→C i j):OpR X f (upO X.K Z (wIf C' g)):=
 ze6 h λx y H Qv ⟨r,S,dx,dy,Q,rel,px,py,q,ret⟩=>⟨r,S,dx,dy,Q,rel,px,py,by
  unfold wIf at q
  split at q
  ·obtain⟨h1,h2⟩:=zmX q
   exact⟨hc _ _ h1,h2⟩
  ·exact q.elim,ret⟩
def zgm (_ j:Int):Bool:=decide (0<j)&&decide (j<1073741824)
abbrev zul:W2:=wIf zgm λi j=>.int (i/j)
abbrev wModL:W2:=wIf zgm λi j=>.int (i%j)
def powB (i j:Int):Bool:=decide (0≤j)&&decide (j≤1000)&&decide (-1000<i)&&decide (i<1000)
abbrev wPowL:W2:=wIf powB λi j=>.int (i^j.toNat)
theorem zqt {i j:Int}(h:zgm i j=true):0<j∧j<1073741824:=by
 unfold zgm at h
 simpa using h
theorem zb1:OpR X (binaryOp .FloorDiv) (upO X.K Z zul):=opIf zbi λi j h=>by
 obtain⟨h1,h2⟩:=zqt h
 refine⟨h1,?_⟩
 have:j.natAbs.log2<30:=(Nat.log2_lt (by omega)).mpr (by omega)
 omega
theorem zba:OpR X (binaryOp .Mod) (upO X.K Z wModL):=opIf zbb λi j h=>(zqt h).1
theorem zdd:OpR X (binaryOp .Pow) (upO X.K Z wPowL):=opIf zso λi j h=>by
 unfold powB at h
 simp at h
 refine⟨h.1.1.1,by have:=h.1.1.2; omega,?_⟩
 have h3:=h.1.2
 have h4:=h.2
 have big:(18446744073709551616:Nat)=2^64:=by decide
 omega
structure Df (K:PySem.W.Frag)(mg:Str→Option Value)(x:Str)(st:Stmt)(ps:List Str) where
 f:Addr
 fd:FuncData
 F:Fun K x x st f fd
 m:mg x=some (.ref f)
 b:zbI K fd ps []
structure Fk (P:Program)(w:World)(K:PySem.W.Frag)(mg:Str→Option Value)(base:Heap)(k:Nat)(x:Str)(ps:List Str)(sd:Sd) where
 f:Addr
 fd:FuncData
 ok:zbj P w K mg base (CXE P w) k f fd ps (upF K sd)
 m:mg x=some (.ref f)
 kp:PySem.W.keepIn K (.ref f)=true
 b:zbI K fd ps []
def Df.mk' {P:Program}{w:World}{K:PySem.W.Frag}{mg:Str→Option Value}{base:Heap}{k:Nat}{x:Str}{st:Stmt}{ps:List Str}{sd:Sd}(d:Df K mg x st ps)(h:zbj P w K mg base (CXE P w) k d.f d.fd ps (upF K sd)):Fk P w K mg base k x ps sd:=
 ⟨d.f,d.fd,h,d.m,d.F.kp,d.b⟩
theorem zn2 {x:Str}{p pos:Pos}{e:Expr}{es:List Expr}{t:TDA}{k:Nat}{ps:List Str}{sd:Sd}{ex:Ev→Addr→Sto→Prop}{W:St→XK}(G:Fk X.prog X.w X.K X.mg X.base k x ps sd)(hr:zaU k X.A)(hx:zcZ X W)(hg:Gl X x)(ha:PDA X ⟨ex,W⟩ (e::es) t)
  (hdb:(x==("__debug__":Str))=false:=by decide)(he:starEach (e::es) X.env=(false,eval e X.env)::starEach es X.env:=by rfl)(hpl:(backTo pos (starEach es X.env)).any (·.1)=false:=by rfl):
  PD X ⟨ex,W⟩ (.Call (.Name x p) (e::es) [] pos) (zmP ex sd t):=zwm G.ok hr hg G.m G.kp G.b hx ha hdb he hpl
theorem zue {st:Stmt}:PDS X Z st (λ_ _ _=>False):=zbG zu7 λF σ H ⟨_,_,_,_,_,_,h,_⟩=>h
end
def zev:Sd:=λds S Q _=>∃ns:List Int,ds=[.ref 0]∧S=[.frz (ns.map D.int)]∧ns.length≤63∧∀S',Q (.bl true) S'
theorem zsa:∀ds S Q ex,zev ds S Q ex→ds.length=1:=λds S Q ex h=>by
 obtain⟨ns,rfl,_⟩:=h
 rfl
theorem zuj {K:PySem.W.Frag}{H:Hp}{a:Addr}{xs:List V}(hO:zhC H)(h:SqL K H a xs):SqF K H a xs:=by
 rcases h with (h | ⟨o,h⟩) | h
 ·rcases hO a with z | ⟨o,ys,z⟩
  ·rw[h] at z; cases z
  ·rw[h] at z; cases z
 ·exact .inl ⟨o,h⟩
 ·exact .inr h
theorem zr8 {r:List Addr}{H:Hp}(ns:List Int):Rps r H (ns.map D.int) (ns.map V.int):=by
 refine⟨by simp,λi d v h1 h2=>?_⟩
 rw[Vae] at h1 h2
 cases q:ns[i]? with
 | none=>rw[q] at h1; cases h1
 | some z=>
  rw[q] at h1 h2
  cases h1
  cases h2
  exact .int z
theorem zt1 {K:PySem.W.Frag}{H:Hp}{a:Addr}{ns:List Int}(hl:ns.length≤63)(hO:zhC H)(hS:SqL K H a (ns.map V.int)):upF K zev [.ref a] H (λv _=>v=.bl true) λ_ _ _=>False:=by
 refine⟨λ_ _=>False,[a],[.frz (ns.map D.int)],[.ref 0],λd _=>d=.bl true,⟨⟨rfl,λn b o h1 h2=>?_,λn m b xs ys h1 h2 h3 h4 o1 o2=>?_⟩,λ_ _ _ _ _ _ _ _ _ z=>z.elim⟩,Rps.cons (.ref rfl) Rps.nil,⟨ns,rfl,rfl,hl,λ_=>rfl⟩,λv H' r' d S' e rel p q=>?_⟩
 ·cases n with
  | zero=>
   simp at h1 h2
   subst h1; subst h2
   exact⟨_,zuj hO hS,zr8 ns⟩
  | succ n=>simp at h1
 ·cases n with
  | zero=>
   simp at h3
   subst h3
   cases o1
  | succ n=>simp at h1
 ·subst q
  cases p
  rfl
theorem zrD {l:PySem.W.OpenLaw}{q:Program}{loose:List Str}{XP:(Str→Option Value)→Heap→Prop}{YP:World→Heap→Prop}{d:DefRec}{K:Params→PySem.W.Frag}{x:Str}(k:Nat)(hn:l.most=some 63)(hdf:d.params.defaults=[])(hr:zaU k callerA)
  (hY:∀(w:World) (h:Heap),YP w h→(K w.params).In h)
  (F:∀(w:World) (mg:Str→Option Value) (fa:Addr) (h:Heap),(K w.params).In h→h.Ns mainGlobals mg→mg d.name=some (.ref fa)→
   ∃fd:FuncData,(∀(s:Shared) (u:Value),BindsTo s fd ⟨[u],[]⟩ [(x,u)])∧∀base:Heap,(K w.params).In base→base.Ns mainGlobals mg→zbj l.prog w (K w.params) mg base (CXE l.prog w) k fa fd [x] (upF (K w.params) zev)):
  PySem.W.WalkO q loose XP YP l.row.toRowW d [] (λf vs=>PySem.call f vs):=
 L2.zt7 (n:=63) (k:=k) (x:=x) (CX:=λw=>CXE l.prog w) (sp:=λw=>upF (K w.params) zev) hn (by decide) hdf hr hY F (λ_ _ a ns hl hO hS=>zt1 hl hO hS) λ_ _ _ _ _ ⟨_,_,_,_,_,_,_,_,_,_,_,_,z⟩=>z
theorem znB (K:PySem.W.Frag)(T:String)(h:T∈["int","bool","tuple","str"]):Kit K T:=by
 intro t ht
 simp only[Vad,Vap,or_false] at h ht
 rcases h with rfl | rfl | rfl | rfl <;> rcases ht with rfl | rfl | rfl | rfl | rfl <;> kernel_rfl
theorem ifF {c:Bool}{A B:Prop}(h:c=false)(b:B):if c=true then A else B:=by rw[h]; exact zbJ b
theorem ifP {c A B:Prop} [Decidable c] (h:c)(a:A):if c then A else B:=by rw[if_pos h]; exact a
theorem ifD {c:Prop} [Decidable c] {A B:Prop}(h1:c→A)(h2:¬ c→B):if decide c=true then A else B:=by
 by_cases h:c
 ·rw[decide_eq_true h]; exact zck (h1 h)
 ·rw[decide_eq_false h]; exact zbJ (h2 h)
open PySem L2
open PySem L2
theorem Sz.pow {n:Nat}{i:Int}(h:Sz n i)(k:Nat):Sz (n*k+1) (i^k):=by
 unfold Sz at *
 rw[Int.natAbs_pow,Nat.pow_succ,Nat.pow_mul]
 have h1:i.natAbs^k≤(2^n)^k:=Nat.pow_le_pow_left (VaS h) k
 have h2:0<(2^n)^k:=Nat.pow_pos (Nat.pow_pos (by decide))
 omega
theorem ifN {c:Prop} [Decidable c] {A B:Prop}(h1:¬ c→A)(h2:c→B):if (!decide c)=true then A else B:=by
 by_cases h:c
 ·rw[decide_eq_true h]; exact L2.zbJ (h2 h)
 ·rw[decide_eq_false h]; exact L2.zck (h1 h)
section
variable {X:Cx}{Z:Zx}
end
section
variable {X:Cx}{k:Nat}{f:Addr}{fd:FuncData}{ps:List Str}{sp:Sp}{W:St→XK}{x:Str}{p pos:Pos}{e:Expr}{es:List Expr}{t:TA}
end
section
variable {X:Cx}{Z:Zx}{x:Str}{p pos:Pos}{e:Expr}{es:List Expr}{t:TDA}
end
section
variable {P:Program}{w:World}{K:PySem.W.Frag}{mg:Str→Option Value}{base:Heap}
end
section
variable {X:Cx}{Z:Zx}
theorem zw2 {r:List Addr}{H:Hp}{a:Addr}{o:HO}(h:H a=none):Ext r r H (upd H a o):=⟨λ_ _ q=>q,λ_ _ q=>zdc h _ _ q,λ_ _ q=>zdc h _ _ q⟩
open PySem.W in
end
end L3
namespace L3
open PySem PySem.Spec PyProof.Rows L2
theorem qt {Q:DK}{S:Sto}{b:Bool}(e:b=true)(h:Q (.bl true) S):Q (.bl b) S:=by rw[e]; exact h
theorem Sz.div {n:Nat}{i j:Int}(h:Sz n i)(hj:1≤j):Sz n (i/j):=by
 refine Nat.lt_of_le_of_lt ?_ h
 obtain⟨h1,h2⟩:=zsy i (show 0<j by omega)
 by_cases q:0≤i/j
 ·have:=Int.mul_le_mul_of_nonneg_left hj q
  omega
 ·have:=Int.mul_le_mul_of_nonneg_left hj (show 0≤-(i/j+1) by omega)
  have e:-(i/j+1)*j=-((i/j+1)*j):=Vag _ _
  omega
inductive Sco (n:Nat):D→Prop
 | non:Sco n .non
 | bl (b:Bool):Sco n (.bl b)
 | int (i:Int):Sco n (.int i)
 | str (x:Str):Sco n (.str x)
 | tup {ds:List D}:(∀d∈ds,Sco n d)→Sco n (.tup ds)
 | ref {m:Nat}:m<n→Sco n (.ref m)
 | exc (c:Addr):Sco n (.exc c)
theorem Rp.sco {r:List Addr}{H:Hp}{d:D}{v:V}(h:Rp r H d v):Sco r.length d:=by
 induction h with
 | non=>exact .non
 | bl b=>exact .bl b
 | int i=>exact .int i
 | str x=>exact .str x
 | @tup ds xs a _ l _ ih=>
  refine .tup λd hd=>?_
  obtain⟨i,hi,e⟩:=VaL.mp hd
  exact ih i d xs[i] (by simp[hi,e]) (by simp[l ▸ hi])
 | ref h=>exact .ref (Vac.mp h).1
 | exc _=>exact .exc _
theorem Rp.low {r r':List Addr}{H:Hp}{d:D}{v:V}(h:Rp r' H d v)(low:∀m a,m<r.length→r'[m]?=some a→r[m]?=some a)(s:Sco r.length d):Rp r H d v:=by
 induction h with
 | non=>exact .non
 | bl b=>exact .bl b
 | int i=>exact .int i
 | str x=>exact .str x
 | tup e l f ih=>
  cases s with
  | tup s=>exact .tup e l λi d v h1 h2=>ih i d v h1 h2 (s d (Vaj h1))
 | ref h=>
  cases s with
  | ref s=>exact .ref (low _ _ s h)
 | exc h=>exact .exc h
def Pre (S S':Sto):Prop:=∀(n:Nat) (o:Ob),S[n]?=some o→S'[n]?=some o
theorem Pre.refl {S:Sto}:Pre S S:=λ_ _ h=>h
theorem Pre.push {S S':Sto}{o:Ob}(h:Pre S S'):Pre S (S'++[o]):=λn u e=>by
 have z:=h n u e
 rw[Vas (Vac.mp z).1]; exact z
theorem Pre.trans {S S' S2:Sto}(h:Pre S S')(k:Pre S' S2):Pre S S2:=λn o e=>k n o (h n o e)
theorem zhw {r r':List Addr}{H H':Hp}(e:Ext r r' H H'):∀m a,m<r.length→r'[m]?=some a→r[m]?=some a:=λm a hm h=>by
 have z:r[m]?=some r[m]:=by simp[hm]
 rw[e.adr _ _ z] at h
 rw[z]; exact h
theorem za5.low {K:PySem.W.Frag}{r r':List Addr}{S S':Sto}{H H':Hp}(h:za5 K r S H)(e:Ext r r' H H')(h':za5 K r' S' H')(p:Pre S S'):za5 K r S H':=by
 have rl:∀ {ds:List D} {xs ys:List V},Rps r H ds xs→Rps r' H' ds ys→Rps r H' ds ys:=λ{ds xs ys} a b=>⟨b.1,λi d v h1 h2=>by
  obtain⟨v0,_,q⟩:=a.get h1
  exact(b.2 i d v h1 h2).low (zhw e) q.sco⟩
 refine⟨h.len,λn a o h1 h2=>?_,λn m a xs ys h1 h2 h3 h4 o1 o2=>h'.nd n m a xs ys (e.adr _ _ h1) (e.adr _ _ h2) (p _ _ h3) (p _ _ h4) o1 o2⟩
 have q:=h.ob n a o h1 h2
 have q':=h'.ob n a o (e.adr _ _ h1) (p _ _ h2)
 cases o with
 | lst ds=>
  obtain⟨xs,_,a1⟩:=q
  obtain⟨ys,b0,b1⟩:=q'
  exact⟨ys,b0,rl a1 b1⟩
 | frz ds=>
  obtain⟨xs,_,a1⟩:=q
  obtain⟨ys,b0,b1⟩:=q'
  exact⟨ys,b0,rl a1 b1⟩
 | ins C fs=>
  obtain⟨_,_,_,a1⟩:=q
  obtain⟨dx,fs',b0,b1⟩:=q'
  exact⟨dx,fs',b0,b1.1,rl a1.2 b1.2⟩
 | dct kvs=>
  obtain⟨_,_,a1⟩:=q
  obtain⟨ks,b0,b1⟩:=q'
  exact⟨ks,b0,b1.1,rl a1.2 b1.2⟩
def Gc (S:Sto)(Q:DK):DK:=λd S'=>Pre S S'∧Sco S.length d∧Q d S
def GcX (S:Sto)(ex:Addr→Sto→Prop):Addr→Sto→Prop:=λc S'=>Pre S S'∧ex c S
theorem Ret.gc {K:PySem.W.Frag}{Z Z':Zx}{r:List Addr}{S:Sto}{H:Hp}{Q:DK}{Qv:VK}(h:Ret K Z r H Q Qv)(rel:Rel K Z r S H):Ret K Z' r H (Gc S Q) Qv:=λv H' r' d S' e rel' p q=>by
 obtain⟨pre,sc,q⟩:=q
 have e':Ext r r H H':=⟨λ_ _ z=>z,e.tup,e.xc⟩
 rw[← rel.len] at sc
 exact h v H' r d S e' ⟨rel.b.low e rel'.b pre,rel.xw.ext e'⟩ (p.low (zhw e) sc) q
theorem zd9.gc {K:PySem.W.Frag}{ex:Addr→Sto→Prop}{E:XK}{r:List Addr}{S:Sto}{H:Hp}(rel:Rel K (Zc ex E) r S H):zd9 K (Zc (GcX S ex) E) r H:=λdl σ c H' r' S' e _ rb q=>by
 obtain⟨pre,q⟩:=q
 have e':Ext r r H H':=⟨λ_ _ z=>z,e.tup,e.xc⟩
 exact rel.xw [] [] c H' r S e' ⟨rfl,λi d z=>by simp at z⟩ (rel.b.low e rb pre) q
section
variable {P:Program}{w:World}{K:PySem.W.Frag}{mg:Str→Option Value}{base:Heap}
def gcS (sd:Sd):Sd:=λds S Q ex=>∃Q0 ex0,Q=Gc S Q0∧ex=GcX S ex0∧sd ds S Q0 ex0
theorem zeZ {CX:CXT}{k:Nat}{f:Addr}{fd:FuncData}{ps:List Str}{sd:Sd}(h:zbj P w K mg base CX k f fd ps (upF K (gcS sd))):zbj P w K mg base CX k f fd ps (upF K sd):=by
 have imp:∀vs H Q E,upF K sd vs H Q E→upF K (gcS sd) vs H Q E:=λvs H Qv E ⟨ex,r,S,ds,Q,rel,p,q,ret⟩=>
  ⟨GcX S ex,r,S,ds,Gc S Q,⟨rel.b,zd9.gc rel⟩,p,⟨Q,ex,rfl,rfl,q⟩,ret.gc rel⟩
 obtain⟨h1,h2⟩:=h
 exact⟨λvs H Q E q=>h1 vs H Q E (imp vs H Q E q),λA outer s H args us vs Q E hr e0 hb rv q=>h2 A outer s H args us vs Q E hr e0 hb rv (imp vs H Q E q)⟩
end
theorem zeW {sd:Sd}{n:Nat}(len:∀ds S Q ex,sd ds S Q ex→ds.length=n):∀ds S Q ex,gcS sd ds S Q ex→ds.length=n:=λds S Q ex h=>by
 obtain⟨Q0,ex0,_,_,h⟩:=h
 exact len _ _ _ _ h
structure zdn (sc around:Scope)(x:Str)(caps:List Str):Prop where
 kind:sc.kind=.function
 nocell:∀y∈sc.names,y.2≠.cell
 own:∀y∈sc.names,y.2=.local→sc.names.lookup y.1=some .local
 loc:sc.names.lookup x=some .local
 cap:∀y∈caps,sc.names.lookup y=some .free
 out:∀y∈sc.names,y.2=.free→around.names.lookup y.1=some .cell
theorem zos {α:Type}{y:Str}{v:α}:∀ {l:List (Str×α)},l.lookup y=some v→(y,v)∈l
 | [],h=>by simp at h
 | (n,k)::r,h=>by
  cases e:y==n with
  | true=>
   rw[Vaq,e] at h
   have z:k=v:=Option.some.inj h
   have z2:y=n:=by simpa using e
   rw[z,z2]; exact VaT
  | false=>
   rw[Vaq,e] at h
   exact VaD _ (zos h)
theorem zoz {env:Env}:∀(l:List (Str×NameKind)) (acc:List (Str×Addr)),(∀y∈l,y.2=.free→∃c,env.cells.lookup y.1=some c)→(∀x c,acc.lookup x=some c→env.cells.lookup x=some c)→
  ∃cl,(forIn l acc λx r=>(if (x.2==NameKind.free)=true then do let a ← cellOf env x.1; pure (ForInStep.yield ((x.1,a)::r)) else pure (ForInStep.yield r):Sem (ForInStep (List (Str×Addr)))))=pure cl∧
   (∀x c,cl.lookup x=some c→env.cells.lookup x=some c)∧(∀y∈l,y.2=.free→cl.lookup y.1=env.cells.lookup y.1)∧∀x c,acc.lookup x=some c→∃c',cl.lookup x=some c'
 | [],acc,_,ha=>⟨acc,by simp,ha,λy hy=>(by cases hy),λx c e=>⟨c,e⟩⟩
 | (n,k)::r,acc,h,ha=>by
  cases hk:(k==NameKind.free) with
  | false=>
   obtain⟨cl,h1,h2,h3,h4⟩:=zoz r acc (λy hy=>h y (VaD _ hy)) ha
   refine⟨cl,?_,h2,λy hy hf=>?_,h4⟩
   ·rw[List.forIn_cons]; simp[hk]; simpa using h1
   ·have hy':=Vad.mp hy
    rcases hy' with rfl | hy
    ·rw[show k=NameKind.free from hf] at hk; exact absurd hk (by decide)
    ·exact h3 y hy hf
  | true=>
   have hf:k=NameKind.free:=by simpa using hk
   obtain⟨c,hc⟩:=h (n,k) VaT hf
   obtain⟨cl,h1,h2,h3,h4⟩:=zoz r ((n,c)::acc) (λy hy=>h y (VaD _ hy)) (λx c' e=>by
    cases q:x==n with
    | true=>
     rw[Vaq,q] at e
     have z:x=n:=by simpa using q
     rw[z,hc]; exact e
    | false=>
     rw[Vaq,q] at e
     exact ha x c' e)
   refine⟨cl,?_,h2,λy hy hf=>?_,λx c' e=>?_⟩
   ·have ec:cellOf env n=pure c:=by unfold cellOf; rw[hc]
    rw[List.forIn_cons]; simp[hk,ec]; simpa using h1
   ·have hy':=Vad.mp hy
    rcases hy' with rfl | hy
    ·obtain⟨c',e⟩:=h4 n c (by simp)
     rw[e]; exact(h2 _ _ e).symm
    ·exact h3 y hy hf
   ·refine h4 x (if x==n then c else c') ?_
    cases q:x==n with
    | true=>simp[Vaq,q]
    | false=>simp[Vaq,q,e]
theorem zwE {sc:Scope}{env:Env}(h:∀y∈sc.names,y.2=.free→∃c,env.cells.lookup y.1=some c):
  ∃cl,closureFor sc env=pure cl∧(∀x c,cl.lookup x=some c→env.cells.lookup x=some c)∧∀y∈sc.names,y.2=.free→cl.lookup y.1=env.cells.lookup y.1:=by
 obtain⟨cl,h1,h2,h3,_⟩:=zoz sc.names [] h (λx c e=>by simp at e)
 refine⟨cl,?_,h2,h3⟩
 unfold closureFor
 simp only[bind_pure]
 exact h1
theorem zqB {env:Env}:∀ {names:List (Str×NameKind)} {x:Str},names.lookup x=some .free→
  (names.map λ(n,k)=>if (k==NameKind.free&&env.scope.kind==.function&&env.kindOf n==some .cell) then (n,NameKind.cell) else (n,k)).lookup x=some .cell∨
  (names.map λ(n,k)=>if (k==NameKind.free&&env.scope.kind==.function&&env.kindOf n==some .cell) then (n,NameKind.cell) else (n,k)).lookup x=some .free
 | [],_,h=>by simp at h
 | (n,k)::r,x,h=>by
  have ih:=@zqB env r x
  rw[VaB]
  cases hx:x==n with
  | true=>
   rw[Vaq,hx] at h
   have hk:k=.free:=Option.some.inj h
   subst hk
   dsimp only
   split
   ·left; simp[Vaq,hx]
   ·right; simp[Vaq,hx]
  | false=>
   rw[Vaq,hx] at h
   dsimp only
   split
   ·simp only[Vaq,hx]; exact ih h
   ·simp only[Vaq,hx]; exact ih h
theorem zpH {env:Env}:∀ {names:List (Str×NameKind)} {x:Str},(∀y∈names,y.2≠.cell)→
  ((names.map λ(n,k)=>if (k==NameKind.free&&env.scope.kind==.function&&env.kindOf n==some .cell) then (n,NameKind.cell) else (n,k)).lookup x=some .cell∨
  (names.map λ(n,k)=>if (k==NameKind.free&&env.scope.kind==.function&&env.kindOf n==some .cell) then (n,NameKind.cell) else (n,k)).lookup x=some .free)→names.lookup x=some .free
 | [],_,_,h=>by simp at h
 | (n,k)::r,x,hc,h=>by
  have ih:=@zpH env r x λy hy=>hc y (VaD _ hy)
  rw[VaB] at h
  cases hx:x==n with
  | true=>
   rw[Vaq,hx]
   dsimp only at h
   split at h
   ·rename_i q
    simp only[Bool.and_eq_true] at q
    have hk:k=.free:=by simpa using q.1.1
    rw[hk]
   ·simp only[Vaq,hx] at h
    rcases h with h | h
    ·exact absurd (Option.some.inj h) (hc (n,k) VaT)
    ·exact h
  | false=>
   rw[Vaq,hx]
   dsimp only at h
   split at h
   ·simp only[Vaq,hx] at h; exact ih h
   ·simp only[Vaq,hx] at h; exact ih h
abbrev Cx.comp (X:Cx)(sc:Scope)(N:List Str)(cl:List (Str×Addr))(C:Addr)(s0:Shared)(H0:Hp)(fp:List Addr)(pn:List (Addr×Obj)):Cx:=
 { X with N:=N,env:=compEnvC sc cl C X.env,s₀:=s0,H₀:=H0,outer:=X.stack,stack:=X.stack,ex:=fp,fn:=λ_=>false,pn:=pn,xe:=λ_ _=>False }
def zbP (caps:List Nat)(σ:St):St:=caps.map λj=>(σ[j]?).join
def zco (caps:List Nat)(dl:Ev):Ev:=caps.map λj=>(dl[j]?).join
def zgN (caps:List Nat)(wi:TI)(tc:TT)(te:TE):TE:=λσ H Q=>wi σ H λJ H1=>∀D,H1 D=none→∃W:Nat→Nat→Hp→Prop,(∃m,W 0 m (upd H1 D (.lst [])))∧∀i m H,W i m H→
 (J.stop i H∧Q (.ref D) H)∨(J.go i H∧∀x H',J.yld i H x H'→tc (some x::zbP caps σ) H' λb H2=>if b=true then te (some x::zbP caps σ) H2 λy H3=>∃ys,H3 D=some (.lst ys)∧ys.length<sizeLine∧∃m',m'<m∧W (i+1) m' (upd H3 D (.lst (ys++[y])))
  else ∃m',m'<m∧W (i+1) m' H2)
def PTs (Y:Cx)(ifs:List Expr)(tc:TT):Prop:=∀(pins:List (Addr×Obj)) (s:Shared) (σ:St) (H:Hp) (Q:Bool→Hp→Prop),Inv Y pins σ H s→tc σ H Q→
 wpAny (model Y.prog Y.w) Y.A (forIn ifs true λc r=>if r=true then do let ok ← isTrue c Y.env (eval c Y.env); pure (ForInStep.yield ok) else pure (ForInStep.yield r)) (TP Y pins σ Q) Y.xe s
theorem zrX {Y:Cx}:PTs Y [] (λ_ H Q=>Q true H):=λ_ _ _ H _ I h=>wpAny_tests_nil ⟨H,I,h⟩
theorem zte {Y:Cx}{c:Expr}{tc:TT}(h:PT Y c tc):PTs Y [c] tc:=λpins s σ H Q I q=>wpAny_tests_one (h pins s σ H Q I q)
section
variable {X:Cx}{pins:List (Addr×Obj)}{σ:St}{H:Hp}{s:Shared}
theorem zr6 {sc:Scope}{x:Str}{N:List Str}{caps:List Nat}{cl:List (Str×Addr)}{fp:List Addr}{h1:Heap}{m:Str→Option Value}{tk:Nat}(I:Inv X pins σ H s)(cs:zdn sc X.env.scope x N)
  (hN:∀(j:Nat) (y:Str),N[j]?=some y→∃i,caps[j]?=some i∧X.N[i]?=some y)(hlen:caps.length=N.length)
  (c1:∀x c,cl.lookup x=some c→X.env.cells.lookup x=some c)(c2:∀y∈sc.names,y.2=.free→cl.lookup y.1=X.env.cells.lookup y.1)
  (hf:∀b∈fp,zch X pins H b)(hfo:∀b∈fp,b<s.heap.objs.size)(hns:h1.Ns s.heap.objs.size m)(hk:∀b o,s.heap.get? b=some o→h1.get? b=some o):
  Inv (Cx.comp X sc (x::N) cl s.heap.objs.size s H fp (X.pn++pins)) [] (none::zbP caps σ) H { s with heap:=h1,toks:=tk }:=by
 have stk:∀b∈frs X.stack,b=X.env.locals∨b∈X.fs:=λb hb=>Vad.mp (I.stkSub b hb)
 refine⟨⟨I.ok.mod,cs.kind,I.ok.glob,I.ok.blt,Vab _,λa b c h1 h2=>I.ok.inj a b c (c1 _ _ h1) (c1 _ _ h2),λy hy=>?_,λ_ _ z=>Bool.noConfusion z,I.ok.hd,I.ok.frames,.inl rfl,λb hb=>⟨Vao (hfo b hb),λy c e=>(hf b hb).2.2.2.2.1 y c (c1 _ _ e)⟩,
  I.bs,VaC I.ok.bsz I.sz,λb o e hb=>?_,λb hb z=>?_,I.stack,I.stkFree⟩,rfl,I.bare,Un.kept hk,⟨m,hns,λi y v e1 e2 e3=>?_⟩,λy c e=>?_,I.hok.fresh (Vab _),λy c e=>I.freeC y c (c1 _ _ e),λp hp=>?_,I.hok.kept hk,?_⟩
 ·have hfr:sc.names.lookup y=some .free:=zpH cs.nocell hy
  have hm:=zos hfr
  obtain⟨c,e⟩:=I.ok.has y (.inl (cs.out _ hm rfl))
  exact⟨c,(c2 _ hm rfl).trans e⟩
 ·rcases (hf b hb).2.2.2.1 with z | z
  ·exact I.ok.noex b o e z
  ·exact absurd (Van (Heap.lt_size (I.ok.bs b o e).1) z) (VaI _)
 ·rcases stk b z with z | z
  ·exact(hf b hb).2.1 z
  ·exact(hf b hb).2.2.1 z
 ·cases i with
  | zero=>simp at e2
  | succ i=>
   have e1':N[i]?=some y:=by simpa using e1
   obtain⟨j,hj,hy⟩:=hN i y e1'
   have e2':σ[j]?=some (some v):=by
    simp only[List.getElem?_cons_succ,zbP,Vae,hj,Option.map_some,Option.some.injEq] at e2
    cases q:σ[j]? with
    | none=>rw[q] at e2; cases e2
    | some o=>rw[q] at e2; simp at e2; rw[e2]
   have hfr:sc.names.lookup y=some .free:=cs.cap y (Vaj e1')
   have hm:=zos hfr
   have hce:X.env.scope.names.lookup y=some .cell:=cs.out _ hm rfl
   obtain⟨m0,_,hl⟩:=I.loc
   obtain⟨u,r,l⟩:=hl j y v hy e2' (.inr (.inl hce))
   refine⟨u,r,.inr ⟨zqB hfr,?_⟩⟩
   rcases l with ⟨k,_⟩ | ⟨_,c,ec,hcell⟩
   ·rw[show X.env.kindOf y=some .cell from hce] at k; cases k
   ·exact⟨c,(c2 _ hm rfl).trans ec,hcell.keeps hk⟩
 ·obtain⟨v,z⟩:=I.cell y c (c1 _ _ e)
  exact⟨v,z.keeps hk⟩
 ·have hp':p∈X.pn++pins:=by simpa using hp
  obtain⟨p1,p2,p3,p4,p5⟩:=I.pin p hp'
  refine⟨hk _ _ p1,p2,Vao (Heap.lt_size p1),λz=>?_,p5⟩
  rcases stk _ z with z | z
  ·exact p3 z
  ·exact p4 z
 ·simp[zbP,hlen]
end
section
variable {X:Cx}{elt iter:Expr}{x:Str}{px pos:Pos}{ifs:List Expr}{sc:Scope}{N:List Str}{caps:List Nat}{wi:TI}{tc:TT}{te:TE}
structure zs6 (X:Cx)(pins:List (Addr×Obj))(σ:St)(C:Addr)(Q:VK)(D:Addr)(s':Shared):Prop where
 q:∃H',Inv X pins σ H' s'∧Q (.ref D) H'∧H' C=none
 ns:∃m,s'.heap.Ns C m
 loc:C≠X.env.locals
 old:X.s₀.heap.objs.size≤C
 cell:∀x c,X.env.cells.lookup x=some c→c≠C
 pin:∀p∈X.pn++pins,p.1≠C
theorem zpK {use:Option (Value→Sem Unit)}{Qr:Value→Shared→Prop}(hc:X.calm=true)(cs:zdn sc X.env.scope x N)(hN:∀(j:Nat) (y:Str),N[j]?=some y→∃i,caps[j]?=some i∧X.N[i]?=some y)(hlen:caps.length=N.length)(hnd:(x::N).Nodup)
  (hi:PI X (.Name x px) iter wi)(ht:∀cl C s0 H0 fp pn,PTs (Cx.comp X sc (x::N) cl C s0 H0 fp pn) ifs tc)(he:∀cl C s0 H0 fp pn,PE (Cx.comp X sc (x::N) cl C s0 H0 fp pn) elt te)
  (hs:∀y,foldedSetIterable iter X.env y=pure y)
  {pins:List (Addr×Obj)}{s:Shared}{σ:St}{H:Hp}{Q:VK}{p2:Pos}(I:Inv X pins σ H s)(h:zgN caps wi tc te σ H Q)
  (fin:∀D C s',zs6 X pins σ C Q D s'→compPost (model X.prog X.w) X.A X.xe use Qr (.ref D) C (.ok .next) s'):
  wpAny (model X.prog X.w) X.A (comprehension (.ListComp elt [⟨.Name x px,iter,ifs,0⟩] sc pos) sc X.env p2 (newList []) false (eval iter X.env) use) Qr X.xe s:=by
 obtain⟨cl,k1,k2,k3⟩:=zwE (sc:=sc) (env:=X.env) λy hy hf=>I.ok.has y.1 (.inl (cs.out y hy hf))
 refine wpAny_comprehension_free rfl hs k1 cs.kind cs.own (thn (hi pins s σ H _ I h) λv s1 h1=>thn h1 λitv s2 h2=>?_)
 obtain⟨it,fp,tn,J,H2,e,I2,T,st2,f2,body⟩:=h2
 subst e
 have hfo:∀b∈fp,b<s2.heap.objs.size:=λb hb=>by
  obtain⟨o,e,_⟩:=T.obj _ _ st2 b hb
  exact Heap.lt_size e
 have hD:H2 s2.heap.objs.size=none:=I2.hok.fresh (Vab _)
 obtain⟨W,⟨m0,w0⟩,turn⟩:=body _ hD
 refine wpAny_newObj_type ?_
 have I3:Inv X pins σ (upd H2 s2.heap.objs.size (.lst [])) { s2 with heap:=s2.heap.push { cls:=.type "list",dict:=none,data:=.seq ([]:List Value).toArray },toks:=s2.toks }:=
  I2.laid (t':=s2.toks) (λb u e=>Heap.get?_push_of_some _ e) (Vab _) ⟨Vau _,[],0,.nil,Heap.get?_push_size _ rfl⟩
 generalize hs3:({ s2 with heap:=s2.heap.push { cls:=.type "list",dict:=none,data:=.seq ([]:List Value).toArray },toks:=s2.toks }:Shared)=s3 at I3
 have es3:({ s2 with heap:=s2.heap.push { cls:=.type "list",dict:=none,data:=.seq ([]:List Value).toArray } }:Shared)=s3:=hs3
 try rw[es3]
 have f3:∀b∈fp,zch X pins (upd H2 s2.heap.objs.size (.lst [])) b:=λb hb=>⟨by rw[zbc (Vao (hfo b hb))]; exact(f2 b hb).1,(f2 b hb).2⟩
 have up3:∀b o,s2.heap.get? b=some o→s3.heap.get? b=some o:=λb o e=>by rw[← hs3]; exact Heap.get?_push_of_some _ e
 have st3:tn 0 s3.heap:=T.keep _ _ _ st2 λb _ o e=>up3 b o e
 have hfo3:∀b∈fp,b<s3.heap.objs.size:=λb hb=>by
  obtain⟨o,e,_⟩:=T.obj _ _ st3 b hb
  exact Heap.lt_size e
 refine wpAny_newFunctionEnv cs.nocell (λy hy=>by simp at hy) (λh4 ns4 sb4=>?_) cs.kind
 have hk4:∀b o,s3.heap.get? b=some o→h4.get? b=some o:=λb o e=>(sb4.2 b (Vao (Heap.lt_size e))).trans (Heap.get?_push_of_some _ e)
 have I4:=zr6 (tk:=s3.toks+([]:List (Str×Value)).length) I3 cs hN hlen k2 k3 f3 hfo3 ns4 hk4
 generalize hs4:({ s3 with heap:=h4,toks:=s3.toks+([]:List (Str×Value)).length }:Shared)=s4 at I4 ⊢
 have eh4:s4.heap=h4:=by rw[← hs4]
 have st4:tn 0 s4.heap:=by rw[eh4]; exact T.keep _ _ _ st3 λb _ o e=>hk4 b o e
 have fY:∀ {H':Hp},(∀b∈fp,H' b=none)→∀b∈fp,zch (Cx.comp X sc (x::N) cl s3.heap.objs.size s3 (upd H2 s2.heap.objs.size (.lst [])) fp (X.pn++pins)) [] H' b:=λhn b hb=>by
  obtain⟨_,z2,z3,z4,z5,z6⟩:=f3 b hb
  refine⟨hn b hb,Vao (hfo3 b hb),λz=>?_,.inl hb,λy c e=>z5 y c (k2 _ _ e),λp hp=>z6 p (by simpa using hp)⟩
  rcases Vad.mp (I3.stkSub b z) with z | z
  ·exact z2 z
  ·exact z3 z
 have locY:(Cx.comp X sc (x::N) cl s3.heap.objs.size s3 (upd H2 s2.heap.objs.size (.lst [])) fp (X.pn++pins)).env.scope.names.lookup x=some .local:=lookup_relabel_local cs.loc
 have loop:codeAny (model X.prog X.w) X.A (.compLoop (.ListComp elt [⟨.Name x px,iter,ifs,0⟩] sc pos) 0 (.ref it) (.ref s2.heap.objs.size) (compEnvC sc cl s3.heap.objs.size X.env))
   (compPost (model X.prog X.w) X.A X.xe use Qr (.ref s2.heap.objs.size) s3.heap.objs.size) s4:=by
  refine codeAny_compLoop_tests (λn s'=>∃i o H',Inv (Cx.comp X sc (x::N) cl s3.heap.objs.size s3 (upd H2 s2.heap.objs.size (.lst [])) fp (X.pn++pins)) [] (o::zbP caps σ) H' s'∧tn i s'.heap∧(∀b∈fp,H' b=none)∧W i n H') ?_ m0
   ⟨0,none,_,I4,st4,λb hb=>(f3 b hb).1,w0⟩
  rintro n s5 ⟨i,o,H5,I5,st5,fr5,w5⟩
  rcases turn i n H5 w5 with ⟨stop,q⟩ | ⟨go,step⟩
  ·refine thn (T.done (Cx.comp X sc (x::N) cl s3.heap.objs.size s3 (upd H2 s2.heap.objs.size (.lst [])) fp (X.pn++pins)) rfl rfl rfl hc i [] s5 _ H5 _ I5 (fY fr5) st5 stop) λr s6 ⟨hr,I6⟩=>?_
   subst hr
   refine fin _ _ _ ⟨⟨H5,I3.call' I6.os I6.base I6.hok I6.bare (λb hb=>?_),q,I6.free⟩,?_,Nat.ne_of_gt I3.lt,I3.sz,λy c e z=>?_,λp hp z=>?_⟩
   ·obtain⟨_,z2,z3,z4,z5,z6⟩:=f3 b hb
    exact⟨z4,z2,z5,z6⟩
   ·obtain⟨m,hm,_⟩:=I6.loc
    exact⟨m,hm⟩
   ·obtain⟨v,hv⟩:=I3.cell y c e
    exact absurd (z ▸ hv.lt) (VaI _)
   ·exact absurd (z ▸ Heap.lt_size (I3.pin p hp).1) (VaI _)
  ·refine thn (T.item (Cx.comp X sc (x::N) cl s3.heap.objs.size s3 (upd H2 s2.heap.objs.size (.lst [])) fp (X.pn++pins)) rfl rfl rfl hc i [] s5 _ H5 _ I5 (fY fr5) st5 go) λr s6 ⟨u,hr,h6⟩=>?_
   subst hr
   show wpAny _ _ (letOwnedTupleGo (.Name x px) (.ref it) u >>= λ_=>assign (.Name x px) (compEnvC sc cl s3.heap.objs.size X.env) u) _ _ s6
   refine wpAny_bind (thn h6 λ_ s7 ⟨y,H7,I7,r7,y7,st7,fr7⟩=>?_)
   have I7':=I7.pinned (fY fr7) (T.obj _ _ st7)
   refine wpAny_mono (zht (X:=Cx.comp X sc (x::N) cl s3.heap.objs.size s3 (upd H2 s2.heap.objs.size (.lst [])) fp (X.pn++pins)) (pos:=px) hnd (i:=0) rfl (.inl locY) (.inr locY) _ s7 _ H7 y u (λσ8 H8=>σ8=some y::zbP caps σ∧H8=H7) I7' r7 ⟨rfl,rfl⟩) (λ_ s8 ⟨σ8,H8,I8,e8,e8'⟩=>?_) λ_ _ z=>z.elim
   subst e8
   subst e8'
   have stay:∀ {H':Hp} {s':Shared},Inv (Cx.comp X sc (x::N) cl s3.heap.objs.size s3 (upd H2 s2.heap.objs.size (.lst [])) fp (X.pn++pins)) ([]++zfH fp s7.heap) (some y::zbP caps σ) H' s'→∀m',m'<n→W (i+1) m' H'→
     ∃m,m<n∧∃i o H',Inv (Cx.comp X sc (x::N) cl s3.heap.objs.size s3 (upd H2 s2.heap.objs.size (.lst [])) fp (X.pn++pins)) [] (o::zbP caps σ) H' s'∧tn i s'.heap∧(∀b∈fp,H' b=none)∧W i m H':=λ{H' s'} J m' hm w'=>by
    refine⟨m',hm,i+1,some y,H',J.unpinned,T.keep _ _ _ st7 λb hb o e=>(J.pin (b,o) (VaF _ (VaF _ (ziI hb e)))).1,λb hb=>?_,w'⟩
    obtain⟨o,e,d⟩:=T.obj _ _ st7 b hb
    exact(J.pin (b,o) (VaF _ (VaF _ (ziI hb e)))).2.1
   refine wpAny_mono (ht _ _ _ _ _ _ _ s8 _ H8 _ I8 (step y H8 y7)) (λb s9 ⟨H9,I9,q9⟩=>?_) λ_ _ z=>z.elim
   cases b with
   | false=>
    rw[if_neg Vak] at q9 ⊢
    obtain⟨m',hm,w9⟩:=q9
    exact stay I9 m' hm w9
   | true=>
    rw[if_pos rfl] at q9 ⊢
    refine wpAny_mono (he _ _ _ _ _ _ _ s9 _ H9 _ I9 q9) (λu2 s10 ⟨z,H10,I10,r10,q10⟩=>?_) λ_ _ z=>z.elim
    obtain⟨ys,hD10,hlt,m',hm,w10⟩:=q10
    refine wpAny_mono (zqX (X:=(Cx.comp X sc (x::N) cl s3.heap.objs.size s3 (upd H2 s2.heap.objs.size (.lst [])) fp (X.pn++pins))) _ s10 _ H10 (.ref s2.heap.objs.size) [z] (.ref s2.heap.objs.size) [u2] (λ_ H'=>H'=upd H10 s2.heap.objs.size (.lst (ys++[z]))) I10 rfl (.cons r10 .nil) ⟨_,ys,z,rfl,rfl,hD10,hlt,rfl⟩) (λ_ s11 ⟨_,H11,I11,_,e11⟩=>?_) λ_ _ z=>z.elim
    subst e11
    exact stay I11 m' hm w10
 exact codeAny_compStart_list loop (T.self _ 0 s4 _ _ st4 loop)
theorem zlv {X:Cx}{caps:List Nat}{N:List Str}(h:caps.map (λi=>X.N[i]?)=N.map some):(∀(j:Nat) (y:Str),N[j]?=some y→∃i,caps[j]?=some i∧X.N[i]?=some y)∧caps.length=N.length:=by
 refine⟨λj y e=>?_,by simpa using congrArg List.length h⟩
 have z:(caps.map (λi=>X.N[i]?))[j]?=some (some y):=by rw[h,Vae,e]; rfl
 rw[Vae] at z
 cases q:caps[j]? with
 | none=>rw[q] at z; cases z
 | some i=>rw[q] at z; exact⟨i,rfl,by simpa using z⟩
theorem zvp (hc:X.calm=true)(cs:zdn sc X.env.scope x N)(hN:caps.map (λi=>X.N[i]?)=N.map some)(hnd:(x::N).Nodup)
  (hi:PI X (.Name x px) iter wi)(ht:∀cl C s0 H0 fp pn,PTs (Cx.comp X sc (x::N) cl C s0 H0 fp pn) ifs tc)(he:∀cl C s0 H0 fp pn,PE (Cx.comp X sc (x::N) cl C s0 H0 fp pn) elt te)
  (hs:∀y,foldedSetIterable iter X.env y=pure y:=by intro _; rfl):PE X (.ListComp elt [⟨.Name x px,iter,ifs,0⟩] sc pos) (zgN caps wi tc te):=by
 intro pins s σ H Q I h
 rw[eval_ListComp]
 refine zpK (use:=none) hc cs (zlv hN).1 (zlv hN).2 hnd hi ht he hs I h λD C s' f=>?_
 obtain⟨⟨H',I',q,hC⟩,⟨m,ns⟩,l,o,c,p⟩:=f
 exact⟨m,ns,λh' sb=>⟨.ref D,H',I'.turned (t':=s'.toks) (λb ob hb e=>(sb.2 b hb).trans e) hC l (.inr o) c p,rfl,q⟩⟩
theorem zqM {i:Nat}{y:Str}{py spos:Pos}(hc:X.calm=true)(cs:zdn sc X.env.scope x N)(hN:caps.map (λi=>X.N[i]?)=N.map some)(hnd:(x::N).Nodup)
  (hi:PI X (.Name x px) iter wi)(ht:∀cl C s0 H0 fp pn,PTs (Cx.comp X sc (x::N) cl C s0 H0 fp pn) ifs tc)(he:∀cl C s0 H0 fp pn,PE (Cx.comp X sc (x::N) cl C s0 H0 fp pn) elt te)
  (hNd:X.N.Nodup)(hy:X.N[i]?=some y)(hl:X.env.scope.names.lookup y=some .local)
  (hsw:swapsWith (.ListComp elt [⟨.Name x px,iter,ifs,0⟩] sc pos) (some (.Name y py)) spos.line X.env=pure true)
  (hs:∀y,foldedSetIterable iter X.env y=pure y:=by intro _; rfl):PS X (.Assign [.Name y py] (.ListComp elt [⟨.Name x px,iter,ifs,0⟩] sc pos) spos) (λE σ H=>zgN caps wi tc te σ H λv H1=>E.nx (σ.set i (some v)) H1):=by
 intro pins s σ H E I h
 rw[exec_Assign_Name_used (hs:=hsw)]
 refine wpAny_bind (wpAny_standAt ?_); refine wpAny_bind ?_; show wpAny _ _ (comprehension _ sc X.env _ (newList []) false (eval iter X.env) (some (assign (.Name y py) X.env)) >>= λ_=>pure ()) _ _ s
 refine wpAny_bind (thn (zpK (use:=some (assign (.Name y py) X.env)) (Qr:=λ_ s'=>SP X pins E .next s') hc cs (zlv hN).1 (zlv hN).2 hnd hi ht he hs I h λD C s' f=>?_) λ_ s' hq=>wpAny_pure (wpAny_pure hq))
 obtain⟨⟨H',I',q,hC⟩,⟨m,ns⟩,l,o,c,p⟩:=f
 refine wpAny_assign_Name (zpF (v:=.ref D) I' hNd hy (.inl hl) rfl (λs'' I'' ⟨a,sb,ha⟩=>⟨m,ns.sameBut sb ?_,λh' sb'=>⟨_,H',I''.turned (t':=s''.toks) (λb ob hb e=>(sb'.2 b hb).trans e) hC l (.inr o) c p,q⟩⟩) (.inr hl))
 rcases ha with rfl | ha
 ·exact l
 ·exact Ne.symm (c _ _ ha)
end
section
variable {X:Cx}{Z:Zx}{elt iter:Expr}{x:Str}{px pos:Pos}{ifs:List Expr}{sc ar:Scope}{N:List Str}{caps:List Nat}
theorem zr9 {r:List Addr}{H:Hp}{dl:Ev}{σ:St}{d:D}{v:V}(h:Rs r H dl σ)(p:Rp r H d v):Rs r H (some d::zco caps dl) (some v::zbP caps σ):=by
 refine⟨by simp[zco,zbP],λi e hi=>?_⟩
 cases i with
 | zero=>simp at hi; subst hi; exact⟨v,rfl,p⟩
 | succ i=>
  simp only[List.getElem?_cons_succ,zco,Vae] at hi
  cases q:caps[i]? with
  | none=>rw[q] at hi; cases hi
  | some j=>
   rw[q] at hi
   simp only[Option.map_some,Option.some.injEq] at hi
   have hj:dl[j]?=some (some e):=by
    cases q2:dl[j]? with
    | none=>rw[q2] at hi; cases hi
    | some o=>rw[q2] at hi; simp at hi; rw[hi]
   obtain⟨w,h1,h2⟩:=h.2 j e hj
   refine⟨w,?_,h2⟩
   simp only[List.getElem?_cons_succ,zbP,Vae,q,Option.map_some,h1,Option.join_some]
def zhP (Y:Cx)(ifs:List Expr)(t:TDT):Prop:=PTs Y ifs (upT Y.K Z0 t)
def zc0:TDT:=λ_ S Q=>Q true S
theorem zcS {Y:Cx}:zhP Y [] zc0:=λpins s σ H Qb I ⟨r,dl,S,Q,rs,rel,q,ret⟩=>zrX pins s σ H Qb I (ret true H r S Ext.refl rel q)
theorem zvT {Y:Cx}{c:Expr}{t:TDT}(h:PDT Y Z0 c t):zhP Y [c] t:=zte h
def zdj (caps:List Nat)(tc:TDT)(te:TDE)(k:Nat)(dl:Ev)(d:D)(S:Sto)(nx:Sto→Prop):Prop:=
 tc (some d::zco caps dl) S λb S1=>if b=true then te (some d::zco caps dl) S1 λy S2=>match S2[k]? with
  | some (.lst ys)=>ys.length<1000∧nx (S2.set k (.lst (ys++[y])))
  | _=>False
 else nx S1
@[irreducible] def zb2 (caps:List Nat)(tl:TDE)(tc:TDT)(te:TDE):TDE:=λdl S Q=>tl dl S λd S1=>match d with
 | .ref n=>(lAt S1 n).isSome=true∧∃W:Nat→Nat→Sto→Prop,(∃m,W 0 m (S1++[.lst []]))∧∀k m S2,W k m S2→match lAt S2 n with
  | some o=>match (zat o)[k]? with
   | some y=>zdj caps tc te S1.length dl y S2 λS3=>∃m',m'<m∧W (k+1) m' S3
   | none=>Q (.ref S1.length) S2
  | none=>False
 | _=>False
@[irreducible] def zdY (caps:List Nat)(ta:TDA)(tc:TDT)(te:TDE):TDE:=λdl S Q=>ta dl S λds S1=>match ds with
 | [.int j]=>(-(2^62)≤j∧j<2^62)∧∃W:Nat→Sto→Prop,W 0 (S1++[.lst []])∧∀k S2,W k S2→
   if k<j.toNat then zdj caps tc te S1.length dl (.int k) S2 λS3=>W (k+1) S3 else Q (.ref S1.length) S2
 | _=>False
theorem zqy {tc:TDT}{te:TDE}{r2:List Addr}{H2:Hp}{S1 S2:Sto}{dl:Ev}{σ:St}{D0:Addr}{d:D}{v:V}{nx:Sto→Prop}{Nx:Hp→Prop}(rs:Rs r2 H2 dl σ)(ha:r2[S1.length]?=some D0)(rb:za5 X.K r2 S2 H2)(p:Rp r2 H2 d v)
  (h:zdj caps tc te S1.length dl d S2 nx)(hn:∀r' S' H',Ext r2 r' H2 H'→za5 X.K r' S' H'→nx S'→Nx H'):
  upT X.K Z0 tc (some v::zbP caps σ) H2 λb H3=>if b=true then up X.K Z0 te (some v::zbP caps σ) H3 λy H4=>∃ys,H4 D0=some (.lst ys)∧ys.length<sizeLine∧Nx (upd H4 D0 (.lst (ys++[y]))) else Nx H3:=by
 have rsY:Rs r2 H2 (some d::zco caps dl) (some v::zbP caps σ):=zr9 rs p
 refine⟨r2,_,S2,_,rsY,⟨rb,λ_ _ _ _ _ _ _ _ _ z=>z.elim⟩,h,λb H3 r3 S3 x3 rel3 q3=>?_⟩
 cases b with
 | false=>rw[if_neg Vak] at q3 ⊢; exact hn r3 S3 H3 x3 rel3.b q3
 | true=>
  rw[if_pos rfl] at q3 ⊢
  refine⟨r3,_,S3,_,rsY.ext x3,rel3,q3,λz H4 r4 dz S4 x4 rel4 p4 q4=>?_⟩
  split at q4
  ·rename_i ys eys
   obtain⟨hl,q4⟩:=q4
   have ha4:r4[S1.length]?=some D0:=x4.adr _ _ (x3.adr _ _ ha)
   obtain⟨zs,hD4,pz⟩:=rel4.b.ob _ _ _ ha4 eys
   obtain⟨rel5,x5⟩:=rel4.b.set ha4 eys (pz.snoc p4)
   exact⟨zs,hD4,by rw[← pz.1]; exact znv (VaS hl),hn r4 _ _ (x3.trans (x4.trans x5)) rel5 q4⟩
  ·exact q4.elim
theorem zoZ {r:List Addr}{D0:Addr}{n:Nat}(h:r.length=n):(r++[D0])[n]?=some D0:=by subst h; simp
theorem zpW {tl:TDE}{tc:TDT}{te:TDE}{σ:St}{H:Hp}{Qv:VK}(h:up X.K Z (zb2 caps tl tc te) σ H Qv):zgN caps (zpb X.K (up X.K Z tl)) (upT X.K Z0 tc) (up X.K Z0 te) σ H Qv:=by
 obtain⟨r,dl,S,Q,rs,rel,h,ret⟩:=h
 unfold zb2 at h
 refine⟨r,dl,S,_,rs,rel,h,λv H1 r1 d S1 x1 rel1 p1 q1=>?_⟩
 cases p1 with
 | @ref n a hn=>
  obtain⟨hsome,W,⟨m0,w0⟩,turn⟩:=q1
  have sql:∀ {r':List Addr} {S':Sto} {H':Hp} {o:Ob},Ext r1 r' H1 H'→za5 X.K r' S' H'→lAt S' n=some o→∃xs,SqL X.K H' a xs∧Rps r' H' (zat o) xs:=λ{r' S' H' o} x' rel' eo=>by
   obtain⟨eo,eL⟩:=zbK eo
   obtain⟨a',ha,ob⟩:=rel'.at eo
   rw[x'.adr n a hn] at ha; cases ha
   exact ob.list eL
  obtain⟨o1,eo1⟩:=VaX.mp hsome
  obtain⟨xs1,sq1,_⟩:=sql Ext.refl rel1.b eo1
  refine⟨a,rfl,⟨xs1,sq1⟩,λD0 hD=>?_⟩
  obtain⟨rel2,x2⟩:=rel1.b.push (ds:=[]) (xs:=[]) hD Rps.nil
  refine⟨λk m H'=>∃r' S',Ext (r1++[D0]) r' (upd H1 D0 (.lst [])) H'∧za5 X.K r' S' H'∧W k m S',⟨m0,_,_,Ext.refl,rel2,w0⟩,?_⟩
  rintro k m H2 ⟨r2,S2,x3,rb2,w2⟩
  have ha2:r2[S1.length]?=some D0:=x3.adr _ _ (zoZ rel1.len)
  have q:=turn k m S2 w2
  split at q
  ·rename_i o eo
   obtain⟨xs,sq,pr⟩:=sql (x2.trans x3) rb2 eo
   split at q
   ·rename_i y ey
    obtain⟨v,hv,pv⟩:=pr.get ey
    refine .inr ⟨⟨xs,v,sq,hv⟩,λv' H' y'=>?_⟩
    obtain⟨eH,y'⟩:=y'
    subst eH
    have ev:v'=v:=by
     have z:=y' xs sq
     rw[hv] at z; exact(Option.some.inj z).symm
    subst ev
    have z:=zqy (Nx:=λH'=>∃m',m'<m∧∃r' S',Ext (r1++[D0]) r' (upd H1 D0 (.lst [])) H'∧za5 X.K r' S' H'∧W (k+1) m' S') (rs.ext (x1.trans (x2.trans x3))) ha2 rb2 pv q λr' S' H' x' rb' ⟨m',hm,w'⟩=>⟨m',hm,r',S',x3.trans x',rb',w'⟩
    exact z
   ·rename_i ey
    have hlen:(zat o).length≤k:=VaE.mp ey
    exact .inl ⟨⟨xs,sq,by rw[← pr.1]; exact hlen⟩,ret _ H2 r2 _ S2 (x1.trans (x2.trans x3)) ⟨rb2,rel.xw.ext (x1.trans (x2.trans x3))⟩ (.ref ha2) q⟩
  ·exact q.elim
 | _=>exact(show False from q1).elim
theorem zuO {ta:TDA}{tc:TDT}{te:TDE}{σ:St}{H:Hp}{Qv:VK}(h:up X.K Z (zdY caps ta tc te) σ H Qv):zgN caps (zp5 (upA X.K Z ta)) (upT X.K Z0 tc) (up X.K Z0 te) σ H Qv:=by
 obtain⟨r,dl,S,Q,rs,rel,h,ret⟩:=h
 unfold zdY at h
 refine⟨r,dl,S,_,rs,rel,h,λvs H1 r1 ds S1 x1 rel1 p1 q1=>?_⟩
 split at q1
 ·rename_i j
  obtain⟨v,vs',rfl,p2,p3⟩:=p1.uncons
  have z:=p3.unnil
  subst z
  cases p2
  obtain⟨⟨b1,b2⟩,W,w0,turn⟩:=q1
  refine⟨j,rfl,b1,b2,λD0 hD=>?_⟩
  obtain⟨rel2,x2⟩:=rel1.b.push (ds:=[]) (xs:=[]) hD Rps.nil
  refine⟨λk m H'=>m=j.toNat-k∧∃r' S',Ext (r1++[D0]) r' (upd H1 D0 (.lst [])) H'∧za5 X.K r' S' H'∧W k S',⟨j.toNat,by simp,_,_,Ext.refl,rel2,w0⟩,?_⟩
  rintro k m H2 ⟨em,r2,S2,x3,rb2,w2⟩
  have ha2:r2[S1.length]?=some D0:=x3.adr _ _ (zoZ rel1.len)
  have q:=turn k S2 w2
  split at q
  ·rename_i hk
   refine .inr ⟨hk,λv' H' y'=>?_⟩
   obtain⟨eH,y'⟩:=y'
   subst eH
   subst y'
   have pk:Rp r2 H' (.int (k:Int)) (.int (0+(k:Int))):=by rw[Int.zero_add]; exact .int _
   have z:=zqy (Nx:=λH'=>∃m',m'<m∧m'=j.toNat-(k+1)∧∃r' S',Ext (r1++[D0]) r' (upd H1 D0 (.lst [])) H'∧za5 X.K r' S' H'∧W (k+1) S') (rs.ext (x1.trans (x2.trans x3))) ha2 rb2 pk q
    λr' S' H' x' rb' w'=>⟨j.toNat-(k+1),by omega,rfl,r',S',x3.trans x',rb',w'⟩
   exact z
  ·rename_i hk
   exact .inl ⟨by show j.toNat≤k; omega,ret _ H2 r2 _ S2 (x1.trans (x2.trans x3)) ⟨rb2,rel.xw.ext (x1.trans (x2.trans x3))⟩ (.ref ha2) q⟩
 ·exact q1.elim
theorem zji {tl:TDE}{tc:TDT}{te:TDE}(har:X.env.scope=ar)(hc:X.calm=true)(cs:zdn sc ar x N)(hN:caps.map (λi=>X.N[i]?)=N.map some)(hnd:(x::N).Nodup)(hl:PD X Z iter tl)
  (ht:∀cl C s0 H0 fp pn,zhP (Cx.comp X sc (x::N) cl C s0 H0 fp pn) ifs tc)(he:∀cl C s0 H0 fp pn,PD (Cx.comp X sc (x::N) cl C s0 H0 fp pn) Z0 elt te)
  (hs:∀y,foldedSetIterable iter X.env y=pure y:=by intro _; rfl):PD X Z (.ListComp elt [⟨.Name x px,iter,ifs,0⟩] sc pos) (zb2 caps tl tc te):=by
 subst har
 exact zbe (zvp hc cs hN hnd (tc:=upT X.K Z0 tc) (te:=up X.K Z0 te) (zkT hl) ht he hs) λ_ _ _ h=>zpW h
theorem zpk {t:TE}{td:TDE}{i:Nat}{F:zc1}{σ:St}{H:Hp}(imp:∀Qv,up X.K Z td σ H Qv→t σ H Qv)(h:upS X.K Z (λE dl S=>td dl S λd S1=>E.nx (dl.set i (some d)) S1) F σ H):t σ H λv H1=>F.nx (σ.set i (some v)) H1:=by
 obtain⟨r,dl,S,E,rs,rel,h,ret⟩:=h
 exact imp _ ⟨r,dl,S,_,rs,rel,h,λv H1 r1 d S1 x rel1 p q=>ret.nx _ H1 r1 _ S1 x ((rs.ext x).set i p) rel1 q⟩
theorem znE {tl:TDE}{tc:TDT}{te:TDE}{i:Nat}{y:Str}{py spos:Pos}(har:X.env.scope=ar)(hc:X.calm=true)(cs:zdn sc ar x N)(hN:caps.map (λi=>X.N[i]?)=N.map some)(hnd:(x::N).Nodup)(hNd:X.N.Nodup)(hy:X.N[i]?=some y)(hlo:ar.names.lookup y=some .local)
  (hl:PD X Z iter tl)(ht:∀cl C s0 H0 fp pn,zhP (Cx.comp X sc (x::N) cl C s0 H0 fp pn) ifs tc)(he:∀cl C s0 H0 fp pn,PD (Cx.comp X sc (x::N) cl C s0 H0 fp pn) Z0 elt te)
  (hsw:swapsWith (.ListComp elt [⟨.Name x px,iter,ifs,0⟩] sc pos) (some (.Name y py)) spos.line X.env=pure true:=by rfl)
  (hs:∀y,foldedSetIterable iter X.env y=pure y:=by intro _; rfl):PDS X Z (.Assign [.Name y py] (.ListComp elt [⟨.Name x px,iter,ifs,0⟩] sc pos) spos) (zmc i (zb2 caps tl tc te)):=by
 subst har
 exact zbG (zqM hc cs hN hnd (tc:=upT X.K Z0 tc) (te:=up X.K Z0 te) (zkT hl) ht he hNd hy hlo hsw hs) λF σ H h=>zpk (λ_ h=>zpW h) h
theorem zoN {ta:TDA}{tc:TDT}{te:TDE}{a:Expr}{p pos2:Pos}{i:Nat}{y:Str}{py spos:Pos}(har:X.env.scope=ar)(hc:X.calm=true)(cs:zdn sc ar x N)(hN:caps.map (λi=>X.N[i]?)=N.map some)(hnd:(x::N).Nodup)(hNd:X.N.Nodup)(hy:X.N[i]?=some y)
  (hlo:ar.names.lookup y=some .local)(hg:Gl X "range")(hm:X.mg "range"=none)(ha:PDA X Z [a] ta)
  (ht:∀cl C s0 H0 fp pn,zhP (Cx.comp X sc (x::N) cl C s0 H0 fp pn) ifs tc)(he:∀cl C s0 H0 fp pn,PD (Cx.comp X sc (x::N) cl C s0 H0 fp pn) Z0 elt te)
  (hsw:swapsWith (.ListComp elt [⟨.Name x px,.Call (.Name "range" p) [a] [] pos2,ifs,0⟩] sc pos) (some (.Name y py)) spos.line X.env=pure true:=by rfl)
  (hs:∀y,foldedSetIterable (.Call (.Name "range" p) [a] [] pos2) X.env y=pure y:=by intro _; rfl)(hst:starEach [a] X.env=[(false,eval a X.env)]:=by rfl):
  PDS X Z (.Assign [.Name y py] (.ListComp elt [⟨.Name x px,.Call (.Name "range" p) [a] [] pos2,ifs,0⟩] sc pos) spos) (zmc i (zdY caps ta tc te)):=by
 subst har
 exact zbG (zqM hc cs hN hnd (tc:=upT X.K Z0 tc) (te:=up X.K Z0 te) (zqj hg hm ha hst) ht he hNd hy hlo hsw hs) λF σ H h=>zpk (λ_ h=>zuO h) h
@[irreducible] def zfv (to te:TDE):TDE:=λdl S Q=>to dl S λx S1=>match x with
 | .ref n=>match S1[n]? with
  | some (.lst _)=>te dl S1 λy S2=>match S2[n]? with
   | some (.lst xs)=>if xs.length<1000 then Q .non (S2.set n (.lst (xs++[y]))) else False
   | _=>False
  | _=>False
 | _=>False
theorem zbX {o e:Expr}{to te:TDE}{apos cpos:Pos}(ho:PD X Z o to)(he:PD X Z e te)(hbase:attributeBase o "append" X.env (eval o X.env)=eval o X.env:=by rfl)
  (hfew:((backTo cpos (starEach [e] X.env)).all (λx=>!x.1)&&(backToKw cpos (keywordEach [] X.env)).all (λx=>x.1.isSome)
  &&decide (([e]:List Expr).length+([]:List Keyword).length+(if ([]:List Keyword).isEmpty then 0 else 1)<30))=true:=by rfl)
  (hline:(apos.endLine==cpos.line)=true:=by rfl)(hst:starEach [e] X.env=[(false,eval e X.env)]:=by rfl):
  PD X Z (.Call (.Attribute o "append" apos) [e] [] cpos) (zfv to te):=
 zbe (zqn PySem.F.plainAttrs_list PySem.F.slot_list_append PySem.F.type_list_append zqX ho (zeD he zkD hst) hbase hfew hline hst rfl) λσ H Qv h=>by
  obtain⟨r,dl,S,Q,rs,rel,h,ret⟩:=h
  unfold zfv at h
  refine⟨r,dl,S,_,rs,rel,h,λv H1 r1 d S1 x1 rel1 p1 h1=>?_⟩
  cases p1 with
  | @ref n a hn=>
   dsimp only at h1
   split at h1
   ·rename_i xs0 e0
    obtain⟨a',ha,ob⟩:=rel1.at e0
    rw[hn] at ha; cases ha
    obtain⟨ys,hH,_⟩:=ob
    refine⟨.inl ⟨rfl,ys,SqL.of hH⟩,r1,dl,S1,_,rs.ext x1,rel1,h1,λv2 H2 r2 d2 S2 x2 rel2 p2 h2=>?_⟩
    split at h2
    ·rename_i xs1 e1
     obtain⟨hlt,h2⟩:=zmX h2
     have ha2:=x2.adr n a hn
     obtain⟨zs,hH2,pz⟩:=rel2.b.ob n a _ ha2 e1
     obtain⟨rel3,x3⟩:=rel2.set ha2 e1 (pz.snoc p2)
     exact⟨a,zs,v2,rfl,rfl,hH2,by rw[← pz.1]; exact znv (VaS hlt),ret .non _ r2 .non _ (x1.trans (x2.trans x3)) rel3 .non h2⟩
    ·exact h2.elim
   ·exact h1.elim
  | _=>exact(show False from h1).elim
def ziR:WC:=λds S Q=>match ds with
 | [.tup xs]=>Q (.ref S.length) (S++[.lst xs])
 | [.ref n]=>match lAt S n with
  | some o=>Q (.ref S.length) (S++[.lst (zat o)])
  | none=>False
 | _=>False
theorem zm5:zbt X (.type "list") (upC X.K Z ziR):=zno ztp λxs H Qv ⟨r,S,ds,Q,rel,ps,q,ret⟩=>by
 unfold ziR at q
 split at q
 ·rename_i ys
  obtain⟨v,vs,rfl,p1,p2⟩:=ps.uncons
  have z:=p2.unnil
  subst z
  obtain⟨a,zs,rfl,h1,h2⟩:=p1.untup
  refine⟨a,zs,rfl,.inr (SqT.of h1),λl hl=>?_⟩
  obtain⟨rel2,x⟩:=rel.push hl h2
  exact ret _ _ _ (.ref S.length) _ x rel2 (zfq rel.len) q
 ·rename_i n
  obtain⟨v,vs,rfl,p1,p2⟩:=ps.uncons
  have z:=p2.unnil
  subst z
  split at q
  ·rename_i o eo
   obtain⟨eo,eL⟩:=zbK eo
   obtain⟨a,ha,ob⟩:=rel.at eo
   cases p1 with
   | ref h1=>
    rw[h1] at ha; cases ha
    obtain⟨ys,sq,pr⟩:=ob.list eL
    refine⟨_,ys,rfl,.inl sq,λl hl=>?_⟩
    obtain⟨rel2,x⟩:=rel.push hl pr
    exact ret _ _ _ (.ref S.length) _ x rel2 (zfq rel.len) q
  ·exact q.elim
 ·exact q.elim
@[irreducible] def irr (w:WC):WC:=w
@[irreducible] def zb0 (w:W2):W2:=w
theorem zio (w:WC):irr w=w:=by unfold irr; rfl
theorem zcv (w:W2):zb0 w=w:=by unfold zb0; rfl
theorem zbg {f:Value}{w:WC}(h:zbt X f (upC X.K Z w)):zbt X f (upC X.K Z (irr w)):=by rw[zio]; exact h
theorem zaJ {a b:Expr}{ta tb:TDE}(ha:PD X Z a ta)(hb:PD X Z b tb)(hs:znh b):PD X Z (.Subscript a b pos) (dOp (zb0 wIx) ta tb):=by rw[zcv]; exact zad ha hb hs
theorem zaB (S:Sto)(o:Ob):(S++[o])[S.length]?=some o:=by simp
theorem zlr {S:Sto}{o u:Ob}{n:Nat}(h:S[n]?=some o):(S++[u])[n]?=some o:=by
 rw[Vas (Vac.mp h).1]; exact h
theorem zfp {tl te:TDE}{dl:Ev}{S S1:Sto}{Q:DK}{n:Nat}{o:Ob}(g:D→D)(htl:∀K:DK,K (.ref n) S1→tl dl S K)(h1:S1[n]?=some o)(hl:(zat o).length≤1000)
  (ht:∀x∈zat o,∀(S2:Sto) (K:DK),Pre S1 S2→K (g x) S2→te (some x::zco caps dl) S2 K)(hq:Q (.ref S1.length) (S1++[.lst ((zat o).map g)]))(hL:zb3 o=some o:=by rfl):zb2 caps tl zc0 te dl S Q:=by
 unfold zb2
 refine htl _ ⟨by rw[za9 h1 hL]; rfl,λk m S2=>S2=S1++[.lst (((zat o).take k).map g)]∧m+k=(zat o).length,⟨(zat o).length,by simp,by omega⟩,?_⟩
 rintro k m S2 ⟨rfl,hm⟩
 rw[za9 (zlr h1) hL]
 dsimp only
 split
 ·rename_i x hx
  have hk:k<(zat o).length:=(Vac.mp hx).1
  unfold zdj zc0
  simp only[if_true]
  refine ht x (Vaj hx) _ _ Pre.refl.push ?_
  rw[zaB]
  refine⟨by simp; omega,m-1,by omega,?_,by omega⟩
  have e:(zat o).take (k+1)=(zat o).take k++[x]:=by rw[List.take_succ,hx]; rfl
  rw[e,Vaw,List.set_append_right _ _ (Vab _)]
  simp
 ·rename_i hx
  have hk:(zat o).length≤k:=VaE.mp hx
  rw[List.take_of_length_le hk]
  exact hq
theorem zwI {o:Ob}{xs:List Int}(h:zcQ (zat o)=some xs):zb3 o=some o:=by
 cases o <;> first | rfl | cases h
theorem zbC {le:Int→Int→Prop}{two:Int→Int→Int}{n:Nat}{S:Sto}{o:Ob}{xs:List Int}{Q:DK}(h:S[n]?=some o)(hb:zcQ (zat o)=some xs)(hne:xs≠[])(hq:∀m,m∈xs→(∀y∈xs,le y m)→Q (.int m) S):irr (zec le two) [.ref n] S Q:=by
 rw[zio]
 unfold zec
 simp only[za9 h (zwI hb),hb]
 exact⟨hne,hq⟩
theorem zjc {n:Nat}{S:Sto}{o:Ob}{Q:DK}(h:lAt S n=some o)(hq:Q (.ref S.length) (S++[.lst (zat o)])):irr ziR [.ref n] S Q:=by
 rw[zio]
 unfold ziR
 simp only[h]
 exact hq
theorem zcj {to te:TDE}{dl:Ev}{S S1:Sto}{Q:DK}{n:Nat}{xs:List D}{y:D}(hto:∀K:DK,K (.ref n) S1→to dl S K)(h:S1[n]?=some (.lst xs))(hte:∀K:DK,K y S1→te dl S1 K)(hl:xs.length<1000)(hq:Q .non (S1.set n (.lst (xs++[y])))):zfv to te dl S Q:=by
 unfold zfv
 refine hto _ ?_
 simp only[h]
 refine hte _ ?_
 simp only[h]
 exact ifP hl hq
end
theorem zce {n:Nat}{x y:Int}:Sco n (.tup [.int x,.int y]):=.tup λd hd=>by
 have z:d=.int x∨d=.int y:=by simpa using hd
 rcases z with rfl | rfl <;> exact .int _
open PySem PySem.Spec PyProof.Rows L2 PySem.W Builtin Builtin.ObjectAttr Builtin.Getset_descriptor
structure Nx (K:Frag)(D:Addr):Prop where
 ga:findIn K (.ref D) "__getattribute__"=some (some (.builtin "BaseException.__getattribute__"))
 hk:findIn K (.ref D) "__getattr__"=some none
 ha:findIn K (.ref D) "__class__"=some (some (.builtin "object.__class__"))
 hn:specialIn K (.builtin "object.__class__") "__get__"=some (some (.builtin "getset_descriptor.__get__"))
 ht:takesIn K (.builtin "object.__class__")=some true
 hm:mroIn K D (.type "object")=some true
 hb:mroIn K D (.type "BaseException")=some true
section
variable {X:Cx}{Z:Zx}
end
def eqN:Nat→D→D→Option Bool
 | 0=>eqF
 | k+1=>eqT (eqN k)
theorem zpt:∀k,zew (eqN k)
 | 0=>zeE
 | k+1=>zqq (zpt k)
theorem zd3:∀k,zdv k (eqN k)
 | 0=>zn8 0
 | k+1=>zqN (zd3 k) (zpt k)
def zdg (k:Nat)(S:Sto):D→D→Option Bool
 | .ref n,.ref m=>match lAt S n,lAt S m with
  | some o,some o'=>eqL (eqN k) (zat o) (zat o')
  | _,_=>none
 | x,y=>eqN (k+1) x y
def zdX (k:Nat):W2:=λx y S Q=>match zdg k S x y with
 | some b=>Q (.bl b) S
 | none=>False
def zdB (k:Nat):W2:=λx y S Q=>match zdg k S x y with
 | some b=>Q (.bl (!b)) S
 | none=>False
section
variable {X:Cx}{Z:Zx}
theorem ztT {k n m:Nat}{a a':Addr}{o o':Ob}{b:Bool}{pins:List (Addr×Obj)}{σ:St}{H:Hp}{s:Shared}{r:List Addr}{S:Sto}(I:Inv X pins σ H s)(rel:Rel X.K Z r S H)(hn:r[n]?=some a)(hm:r[m]?=some a')(eo:lAt S n=some o)(eo':lAt S m=some o')
  (e:eqL (eqN k) (zat o) (zat o')=some b)(hu:X.A.units+1+k<cLine):SeqAt.RcAt X.A s (.ref a) (.ref a') b:=by
 obtain⟨eo,eL⟩:=zbK eo
 obtain⟨eo',eL'⟩:=zbK eo'
 obtain⟨z,hz,ob⟩:=rel.at eo
 rw[hn] at hz; cases hz
 obtain⟨z,hz,ob'⟩:=rel.at eo'
 rw[hm] at hz; cases hz
 obtain⟨xs,sq,pr⟩:=ob.list eL
 obtain⟨ys,sq',pr'⟩:=ob'.list eL'
 obtain⟨is,ri,pl,_⟩:=I.list sq
 obtain⟨js,rj,pl',_⟩:=I.list sq'
 obtain⟨g1,g2⟩:=zfM (A:=X.A.in1) (zd3 k) I (by show X.A.units+1+k<_; omega) pr pr' ri rj e
 by_cases hs:is.toArray.size=js.toArray.size
 ·have q:=SeqAt.RcAt.lists (A:=X.A) pl.isList pl'.isList hs (by omega) g1
  have e2:(List.range is.toArray.size).all (zcp (eqN k) (zat o) (zat o'))=b:=by
   rw[← g2,← hs,Nat.min_self]; simp
  rw[e2] at q
  exact q
 ·have q:=SeqAt.RcAt.lists_lengths (A:=X.A) pl.isList pl'.isList (by simpa using hs) (by omega)
  have e2:b=false:=by
   rw[← g2,show (is.toArray.size==js.toArray.size)=false by simpa using hs,Bool.and_false]
  rw[e2]
  exact q
theorem zro (k:Nat){j:Nat}(hr:zaU j X.A)(hu:X.A.units+1+k<cLine):OpR X (compareOp .Eq) (upO X.K Z (zdX k)):=by
 intro pins s σ H x y v u Qv I rx ry h
 obtain⟨r,S,dx,dy,Q,rel,px,py,q,ret⟩:=h
 have zaR:∀ {dx dy:D} {x y:V},Rp r H dx x→Rp r H dy y→zaz x v→zaz y u→zdg k S dx dy=eqN (k+1) dx dy→zdX k dx dy S Q→wpAny (model X.prog X.w) X.A (compareOp .Eq v u) (EP X pins σ Qv) X.xe s:=λpx py rx ry e q=>by
  refine zqd (Z:=Z) (zd3 k) hu pins s σ H _ _ v u Qv I rx ry ⟨r,S,_,_,Q,rel,px,py,?_,ret⟩
  unfold zdX at q
  rw[e] at q
  exact q
 cases px with
 | @ref n a hn=>
  cases py with
  | @ref m a' hm=>
   cases rx
   cases ry
   unfold zdX zdg at q
   dsimp only at q
   split at q
   ·rename_i b e
    split at e
    ·rename_i o o' eo eo'
     exact ztT I rel hn hm eo eo' e hu X.prog X.w X.xe _ ⟨.bl b,H,I,rfl,ret _ _ _ _ _ Ext.refl rel (.bl b) q⟩
    ·cases e
   ·exact q.elim
  | non=>exact zaR (.ref hn) .non rx ry rfl q
  | bl i=>exact zaR (.ref hn) (.bl i) rx ry rfl q
  | int i=>exact zaR (.ref hn) (.int i) rx ry rfl q
  | str i=>exact zaR (.ref hn) (.str i) rx ry rfl q
  | tup a b c=>exact zaR (.ref hn) (.tup a b c) rx ry rfl q
  | exc a=>exact zaR (.ref hn) (.exc a) rx ry rfl q
 | non=>exact zaR .non py rx ry rfl q
 | bl i=>exact zaR (.bl i) py rx ry rfl q
 | int i=>exact zaR (.int i) py rx ry rfl q
 | str i=>exact zaR (.str i) py rx ry rfl q
 | tup a b c=>exact zaR (.tup a b c) py rx ry rfl q
 | exc a=>exact zaR (.exc a) py rx ry rfl q
def zbS (f:D→D→Option Bool):List D→D→Option Bool
 | [],_=>some false
 | y::ys,x=>match f y x,zbS f ys x with
  | some b,some c=>some (b||c)
  | _,_=>none
def wIn (k:Nat)(neg:Bool):W2:=λx y S Q=>match y with
 | .ref n=>match lAt S n with
  | some o=>match zbS (eqN k) (zat o) x with
   | some b=>Q (.bl (if neg then !b else b)) S
   | none=>False
  | none=>False
 | _=>False
theorem zph {v v':V}{u:Value}(h:zaz v u)(h':zaz v' u):v=v':=by
 cases v <;> cases v' <;> simp[L2.zaz] at h h' <;> first
  | rfl
  | (subst h; simp at h'; subst h'; rfl)
  | (obtain⟨t,rfl⟩:=h; simp at h'; subst h'; rfl)
  | (obtain⟨t,rfl⟩:=h; simp at h')
  | (subst h; simp at h')
  | skip
theorem zh3 {r:List Addr}{H:Hp}{d d' x:D}{v:V}{b b':Bool}(p:Rp r H d v)(p':Rp r H d' v)(e:eqF d x=some b)(e':eqF d' x=some b'):b=b':=by
 have z:d=d':=by
  cases p <;> cases p' <;> first
   | rfl
   | (cases x <;> simp[eqF] at e)
   | (cases x <;> simp[eqF] at e')
 subst z
 rw[e] at e'
 exact Option.some.inj e'
theorem zpa {f:D→D→Option Bool}{r:List Addr}{H:Hp}(hf:∀(d d' x:D) (v:V) (b b':Bool),Rp r H d v→Rp r H d' v→f d x=some b→f d' x=some b'→b=b'):
  ∀ {ds ds' zs:List D} {vs:List V} {b b':Bool},Rps r H ds vs→Rps r H ds' vs→eqL f ds zs=some b→eqL f ds' zs=some b'→b=b'
 | [],ds',zs,vs,b,b',p,p',e,e'=>by
  have z:=p.unnil
  subst z
  cases ds' with
  | nil=>rw[e] at e'; exact Option.some.inj e'
  | cons y ys=>exact absurd p'.1 (by simp)
 | d::ds,ds',zs,vs,b,b',p,p',e,e'=>by
  obtain⟨v,vs',rfl,p1,p2⟩:=p.uncons
  cases ds' with
  | nil=>exact absurd p'.1 (by simp)
  | cons d' ds'=>
   obtain⟨q1,q2⟩:=p'.tail
   cases zs with
   | nil=>
    simp only[eqL,Option.some.injEq] at e e'
    exact e.symm.trans e'
   | cons z zs=>
    unfold eqL at e e'
    split at e
    ·rename_i b1 c1 a1 a2
     split at e'
     ·rename_i b2 c2 a3 a4
      have h1:=hf d d' z v b1 b2 p1 q1 a1 a3
      have h2:=zpa hf p2 q2 a2 a4
      subst h1 h2
      simp only[Option.some.injEq] at e e'
      exact e.symm.trans e'
     ·cases e'
    ·cases e
theorem zoc:∀(k:Nat) {r:List Addr} {H:Hp} (d d' x:D) (v:V) (b b':Bool),Rp r H d v→Rp r H d' v→eqN k d x=some b→eqN k d' x=some b'→b=b'
 | 0,r,H,d,d',x,v,b,b',p,p',e,e'=>zh3 p p' e e'
 | k+1,r,H,d,d',x,v,b,b',p,p',e,e'=>by
  cases p with
  | tup h1 l1 f1=>
   cases p' with
   | tup h2 l2 f2=>
    rw[h1] at h2; cases h2
    cases x with
    | tup zs=>exact zpa (λd d' x v b b'=>zoc k d d' x v b b') ⟨l1,f1⟩ ⟨l2,f2⟩ e e'
    | _=>simp[eqN,eqT,eqF] at e
   | ref h=>cases x <;> simp[eqN,eqT,eqF] at e'
   | exc h=>cases x <;> simp[eqN,eqT,eqF] at e'
  | non=>exact zh3 (x:=x) .non p' (by cases x <;> exact e) (by cases p' <;> cases x <;> exact e')
  | bl i=>exact zh3 (x:=x) (.bl i) p' (by cases x <;> exact e) (by cases p' <;> cases x <;> exact e')
  | int i=>exact zh3 (x:=x) (.int i) p' (by cases x <;> exact e) (by cases p' <;> cases x <;> exact e')
  | str i=>exact zh3 (x:=x) (.str i) p' (by cases x <;> exact e) (by cases p' <;> cases x <;> exact e')
  | ref h=>cases x <;> simp[eqN,eqT,eqF] at e
  | exc h=>cases x <;> simp[eqN,eqT,eqF] at e
theorem zpY {f:D→D→Option Bool}{x:D}:∀ {ys:List D} {b:Bool},zbS f ys x=some b→(∀y∈ys,∃c,f y x=some c)∧(b=true↔∃y∈ys,f y x=some true)
 | [],b,e=>by
  simp only[zbS,Option.some.injEq] at e
  subst e
  simp
 | y::ys,b,e=>by
  unfold zbS at e
  split at e
  ·rename_i b1 c1 e1 e2
   obtain⟨h1,h2⟩:=zpY e2
   simp only[Option.some.injEq] at e
   subst e
   refine⟨λz hz=>?_,?_⟩
   ·rcases Vad.mp hz with rfl | hz'
    ·exact⟨b1,e1⟩
    ·exact h1 z hz'
   ·rw[Bool.or_eq_true,h2]
    refine⟨λq=>?_,λ⟨z,hz,q⟩=>?_⟩
    ·rcases q with q | ⟨z,hz,q⟩
     ·exact⟨y,VaT,by rw[e1,q]⟩
     ·exact⟨z,VaD _ hz,q⟩
    ·rcases Vad.mp hz with rfl | hz'
     ·left
      rw[e1] at q
      exact Option.some.inj q
     ·exact .inr ⟨z,hz',q⟩
  ·cases e
theorem zsg {k:Nat}{pins:List (Addr×Obj)}{σ:St}{H:Hp}{s:Shared}{r:List Addr}{A:Around}{ds:List D}{vs:List V}{us:List Value}{dx:D}{x:V}{u:Value}{b:Bool}(I:Inv X pins σ H s)(hu:A.units+k<cLine)
  (p:Rps r H ds vs)(rv:zaD vs us)(px:Rp r H dx x)(rx:zaz x u)(e:zbS (eqN k) ds dx=some b):∃g:Value→Bool,(∀y,y∈us.toArray→SeqAt.EqAt A s y u (g y))∧us.toArray.any g=b:=by
 obtain⟨h1,h2⟩:=zpY e
 have at_:∀y∈us,∃d v,d∈ds∧Rp r H d v∧zaz v y:=λy hy=>by
  obtain⟨j,hj,ej⟩:=VaL.mp hy
  have hv:j<vs.length:=by rw[rv.length]; exact hj
  have gv:vs[j]?=some vs[j]:=by simp[hv]
  obtain⟨w,gw,rw'⟩:=rv.get gv
  obtain⟨d,gd,pd⟩:=p.get' gv
  have ew:w=y:=by
   rw[Vam hj,ej] at gw
   exact(Option.some.inj gw).symm
  subst ew
  exact⟨d,_,Vaj gd,pd,rw'⟩
 classical
 refine⟨λy=>decide (∃d v,d∈ds∧Rp r H d v∧zaz v y∧eqN k d dx=some true),λy hy=>?_,?_⟩
 ·obtain⟨d,v,hd,pd,rd⟩:=at_ y (by simpa using hy)
  obtain⟨c,hc⟩:=h1 d hd
  have same:decide (∃d v,d∈ds∧Rp r H d v∧zaz v y∧eqN k d dx=some true)=c:=by
   cases c with
   | true=>exact decide_eq_true ⟨d,v,hd,pd,rd,hc⟩
   | false=>
    refine decide_eq_false λ⟨d',v',_,pd',rd',hc'⟩=>?_
    have ev:=zph rd rd'
    subst ev
    exact absurd (zoc k d d' dx v false true pd pd' hc hc') (by decide)
  show SeqAt.EqAt A s y u (decide _)
  rw[same]
  exact zd3 k X pins σ H s r A d dx v x y u c I hu pd px rd rx hc
 ·rw[Bool.eq_iff_iff,h2,List.any_toArray,List.any_eq_true]
  refine⟨λ⟨y,hy,q⟩=>?_,λ⟨d,hd,q⟩=>?_⟩
  ·obtain⟨d,v,hd,_,_,q'⟩:=of_decide_eq_true q
   exact⟨d,hd,q'⟩
  ·obtain⟨j,hj,ej⟩:=VaL.mp hd
   have gd:ds[j]?=some d:=by simp[hj,ej]
   obtain⟨v,gv,pv⟩:=p.get gd
   obtain⟨w,gw,rw'⟩:=rv.get gv
   exact⟨w,Vaj gw,decide_eq_true ⟨d,v,hd,pv,rw',q⟩⟩
theorem zrT (k:Nat)(hu:X.A.units+1+k<cLine):OpR X (compareOp .NotIn) (upO X.K Z (wIn k true)):=by
 intro pins s σ H x y v u Qv I rx ry h
 obtain⟨r,S,dx,dy,Q,rel,px,py,q,ret⟩:=h
 cases py with
 | @ref n a hn=>
  unfold wIn at q
  dsimp only at q
  split at q
  ·rename_i o eo
   split at q
   ·rename_i b eb
    cases ry
    obtain⟨eo,eL⟩:=zbK eo
    obtain⟨a',ha,ob⟩:=rel.at eo
    rw[hn] at ha; cases ha
    obtain⟨ys,sq,pr⟩:=ob.list eL
    obtain⟨us,ru,pl,_⟩:=I.list sq
    obtain⟨g,g1,g2⟩:=zsg (A:=X.A.in1) I (by show X.A.units+1+k<_; omega) pr ru px rx eb
    refine SeqAt.notIn_listAt g pl.isList g1 ?_
    rw[g2]
    exact⟨.bl (!b),H,I,rfl,ret _ _ _ _ _ Ext.refl rel (.bl (!b)) q⟩
   ·exact q.elim
  ·exact q.elim
 | _=>exact(show False from q).elim
end
section
variable {X:Cx}{Z:Zx}{pos:Pos}
def zdt:List Nat→List D→Ev→Ev
 | i::is,d::ds,dl=>zdt is ds (dl.set i (some d))
 | _,_,dl=>dl
def zjy:List Nat→List V→St→St
 | i::is,v::vs,σ=>zjy is vs (σ.set i (some v))
 | _,_,σ=>σ
theorem zmR {r:List Addr}{H:Hp}:∀ {is:List Nat} {ds:List D} {vs:List V} {dl:Ev} {σ:St},Rs r H dl σ→Rps r H ds vs→Rs r H (zdt is ds dl) (zjy is vs σ)
 | [],ds,vs,dl,σ,h,p=>by cases ds <;> cases vs <;> exact h
 | i::is,[],vs,dl,σ,h,p=>by
  have z:=p.unnil
  subst z
  exact h
 | i::is,d::ds,vs,dl,σ,h,p=>by
  obtain⟨v,vs',rfl,p1,p2⟩:=p.uncons
  show Rs r H (zdt is ds (dl.set i (some d))) (zjy is vs' (σ.set i (some v)))
  exact zmR (Rs.set i h p1) p2
inductive Nms (X:Cx):List Expr→List Nat→Prop
 | nil:Nms X [] []
 | cons {x:Str} {p:Pos} {i:Nat} {es:List Expr} {is:List Nat}:X.N[i]?=some x→Loc X.env.scope x→(X.fn x=true∨X.env.scope.names.lookup x=some .local)→Nms X es is→Nms X (.Name x p::es) (i::is)
def gAll (is:List Nat):TGs:=λvs σ H Q=>vs.length=is.length∧Q (zjy is vs σ) H
theorem zjD (hN:X.N.Nodup):∀ {es:List Expr} {is:List Nat},Nms X es is→PGs X es (gAll is)
 | _,_,.nil=>λpins s σ H vs us Q I r h=>by
  obtain⟨e,h⟩:=h
  have z:vs=[]:=by simpa using e
  subst z
  exact zum pins s σ H [] us Q I r ⟨rfl,h⟩
 | _,_,.cons (x:=x) (p:=p) (es:=es) (is:=is) h1 h2 h3 t=>λpins s σ H vs us Q I r h=>by
  obtain⟨e,h⟩:=h
  cases vs with
  | nil=>simp at e
  | cons v vs=>exact zxT (zht hN h1 h2 h3) (zjD hN t) rfl pins s σ H (v::vs) us Q I r ⟨v,vs,rfl,by simpa using e,h⟩
def dSetT (is:List Nat)(te:TDE):TDS:=λE dl S=>te dl S λd S1=>match d with
 | .tup xs=>xs.length=is.length∧E.nx (zdt is xs dl) S1
 | _=>False
theorem zs9 {es:List Expr}{e:Expr}{te:TDE}{k:Nat}{p:Pos}{is:List Nat}(hc:X.calm=true)(hN:X.N.Nodup)(hn:Nms X es is)(he:PD X Z e te)(hlen:(assignEach es X.env).length=is.length:=by rfl)(hst:(assignEach es X.env).findIdx? (·.1)=none:=by rfl)
  (hs:swapsWithSole [.Tuple es k p] e pos.line X.env=pure false:=by rfl)(hw:swappedStores [.Tuple es k p] e X.env=pure none:=by rfl)
  (h1:(assignEach [.Tuple es k p] X.env).map (·.2)=[assign (.Tuple es k p) X.env]:=by rfl):PDS X Z (.Assign [.Tuple es k p] e pos) (dSetT is te):=
 zbG (zqi he (znV hc (zjD hN hn) hlen hst) hs hw h1) λF σ H ⟨r,dl,S,E,rs,rel,h,ret⟩=>by
  refine⟨r,dl,S,_,rs,rel,h,λv H1 r1 d S1 x1 rel1 p1 q1=>?_⟩
  cases p1 with
  | @tup ds xs a e1 l1 f1=>
   obtain⟨hl,q⟩:=q1
   exact⟨a,xs,rfl,SqT.of e1,by rw[← l1]; exact hl,by rw[← l1]; exact hl,ret.nx _ H1 r1 _ S1 x1 (zmR (rs.ext x1) ⟨l1,f1⟩) rel1 q⟩
  | _=>exact(show False from q1).elim
end
open PySem L2
theorem zp9 (S:Sto)(o u:Ob):(S++[o]).set S.length u=S++[u]:=by simp
section
variable {X:Cx}{Z:Zx}
abbrev wShl:W2:=wI zjI λi j=>.int (i*2^j.toNat)
theorem zvU:OpR X (binaryOp .LShift) (upO X.K Z wShl):=opD zrl λ_ _ _ _=>.int _
def dBits (to:TDE):TDE:=λdl S Q=>to dl S λd S1=>match d with
 | .int i=>Q (.int (Builtin.Int.intBits i)) S1
 | _=>False
theorem zu5:MtR X "int.bit_length" (λx xs H Q=>∃i,x=.int i∧xs=[]∧Q (.int (Builtin.Int.intBits i)) H):=by
 intro pins s σ H x xs v us Q I rx rv h
 obtain⟨i,rfl,rfl,q⟩:=h
 obtain⟨t,rfl⟩:=rx
 cases rv
 exact call_int_bit_length ⟨.int _,H,I.tok _,⟨_,rfl⟩,q⟩
theorem zws {o:Expr}{to:TDE}{apos cpos:Pos}(ho:PD X Z o to)(hbase:attributeBase o "bit_length" X.env (eval o X.env)=eval o X.env:=by rfl)(hline:(apos.endLine==cpos.line)=true:=by rfl):
  PD X Z (.Call (.Attribute o "bit_length" apos) [] [] cpos) (dBits to):=
 zbe (zrS (T:="int") ⟨⟨_,ga_int,canon_ga_int⟩,no_getattr_int⟩ slot_int_bit_length type_int_bit_length zu5 ho hbase hline) λσ H Qv ⟨r,dl,S,Q,rs,rel,h,ret⟩=>⟨r,dl,S,_,rs,rel,h,λv H1 r1 d S1 e1 rel1 p1 q1=>by
  cases p1 with
  | int i=>exact⟨rfl,i,rfl,rfl,ret _ H1 r1 (.int _) S1 e1 rel1 (.int _) q1⟩
  | _=>exact(show False from q1).elim⟩
end
def zqY:Sd:=λ_ _ _ _=>False
def Df.never {P:Program}{w:World}{K:PySem.W.Frag}{mg:Str→Option Value}{base:Heap}{x:Str}{st:Stmt}{ps:List Str}(k:Nat)(d:Df K mg x st ps):Fk P w K mg base k x ps zqY:=
 ⟨d.f,d.fd,⟨λ_ _ _ _ ⟨_,_,_,_,_,_,_,z,_⟩=>z.elim,λ_ _ _ _ _ _ _ _ _ _ _ _ _ ⟨_,_,_,_,_,_,_,z,_⟩=>z.elim⟩,d.m,d.F.kp,d.b⟩
section
variable {X:Cx}{Z:Zx}{pos:Pos}
end
section
variable {X:Cx}{Z:Zx}{elt iter:Expr}{x:Str}{px pos:Pos}{ifs:List Expr}{sc ar:Scope}{N:List Str}{caps:List Nat}
theorem zxO {ta:TDA}{te:TDE}{dl:Ev}{S S1:Sto}{Q:DK}{j:Int}(g:Nat→D)(hta:∀K:List D→Sto→Prop,K [.int j] S1→ta dl S K)(hj:0≤j∧j≤1000)
  (ht:∀k:Nat,k<j.toNat→∀(S2:Sto) (K:DK),Pre S1 S2→K (g k) S2→te (some (.int k)::zco caps dl) S2 K)(hq:Q (.ref S1.length) (S1++[.lst ((List.range j.toNat).map g)])):zdY caps ta zc0 te dl S Q:=by
 unfold zdY
 refine hta _ ⟨⟨by omega,by omega⟩,λk S2=>S2=S1++[.lst ((List.range k).map g)]∧k≤j.toNat,⟨by simp,by omega⟩,?_⟩
 rintro k S2 ⟨rfl,hk⟩
 split
 ·rename_i hk'
  unfold zdj zc0
  simp only[if_true]
  refine ht k hk' _ _ Pre.refl.push ?_
  rw[zaB]
  refine⟨by simp; omega,?_,by omega⟩
  rw[List.range_succ,Vaw,List.set_append_right _ _ (Vab _)]
  simp
 ·have e:k=j.toNat:=by omega
  subst e
  exact hq
end
section
variable {X:Cx}{Z:Zx}{pos:Pos}
def zaR (zs:List Str):Str:=⟨(zs.flatMap λz=>z.cps.toList).toArray⟩
abbrev TDO:=Ev→Sto→(Option Int→Sto→Prop)→Prop
def upP (K:PySem.W.Frag)(Z:Zx)(t:TDO):TO:=λσ H Q=>∃(r:List Addr) (dl:Ev) (S:Sto) (Q':Option Int→Sto→Prop),Rs r H dl σ∧Rel K Z r S H∧t dl S Q'∧∀o H' r' S',Ext r r' H H'→Rel K Z r' S' H'→Q' o S'→Q o H'
def PDO (X:Cx)(Z:Zx)(e:Option Expr)(t:TDO):Prop:=PO X e (upP X.K Z t)
def ztU:TDO:=λ_ S Q=>Q none S
def dPart (t:TDE):TDO:=λdl S Q=>t dl S λd S1=>match d with
 | .int i=>Q (some i) S1
 | _=>False
theorem zqz {e:Option Expr}{t t':TO}(h:PO X e t)(g:∀σ H Q,t' σ H Q→t σ H Q):PO X e t':=λpins s σ H Q I q=>h pins s σ H Q I (g σ H Q q)
theorem zqP:PDO X Z none ztU:=zqz zsh λσ H Q ⟨r,dl,S,Q',rs,rel,h,ret⟩=>ret none H r S Ext.refl rel h
theorem zfd {e:Expr}{t:TDE}(he:PD X Z e t):PDO X Z (some e) (dPart t):=zqz (zuc he) λσ H Q ⟨r,dl,S,Q',rs,rel,h,ret⟩=>⟨r,dl,S,_,rs,rel,h,λv H1 r1 d S1 e1 rel1 p1 q1=>by
 cases p1 with
 | int i=>exact⟨i,rfl,ret (some i) H1 r1 S1 e1 rel1 q1⟩
 | _=>exact(show False from q1).elim⟩
end
section
variable {X:Cx}{Z:Zx}
end
section
variable {X:Cx}{Z:Zx}
end
theorem zaA {n:Nat}{S:Sto}{o:Ob}{Q:DK}{i:Int}{d:D}(ho:S[n]?=some o)(hd:atI (zat o) i=some d)(hq:Q d S)(hL:zb3 o=some o:=by rfl):zb0 wIx (.ref n) (.int i) S Q:=by
 rw[zcv]
 unfold wIx
 simp only[za9 ho hL,hd]
 exact hq
def zeh (f:Str)(v:D):List (Str×D)→List (Str×D)
 | []=>[(f,v)]
 | p::r=>if p.1=f then (f,v)::r else p::zeh f v r
theorem FR.lookup {r:List Addr}{H:Hp}{f:Str}:∀ {fs:List (Str×D)} {fs':List (Str×V)},FR r H fs fs'→(∀d,fs.lookup f=some d→∃v,fs'.lookup f=some v∧Rp r H d v)∧(fs.lookup f=none→fs'.lookup f=none)
 | [],fs',h=>by
  have e:fs'=[]:=by
   have:=h.1
   simpa using this.symm
  subst e
  exact⟨λd z=>by simp at z,λ_=>rfl⟩
 | p::fs,[],h=>by
  have:=h.1
  simp at this
 | p::fs,q::fs',h=>by
  obtain⟨h1,h2⟩:=h
  simp only[VaB,List.cons.injEq] at h1
  obtain⟨p1,p2⟩:=h2.tail
  obtain⟨i1,i2⟩:=FR.lookup (f:=f) (fs:=fs) (fs':=fs') ⟨h1.2,p2⟩
  obtain⟨pk,pv⟩:=p
  obtain⟨qk,qv⟩:=q
  have ek:pk=qk:=h1.1
  subst ek
  by_cases z:f=pk
  ·subst z
   simp only[List.lookup_cons_self]
   exact⟨λd hd=>⟨qv,rfl,by cases hd; exact p1⟩,λhd=>by cases hd⟩
  ·have zb:(f==pk)=false:=by simpa using z
   simp only[Vaq,zb]
   exact⟨i1,i2⟩
theorem FR.put {r:List Addr}{H:Hp}{f:Str}{d:D}{v:V}(q:Rp r H d v):∀ {fs:List (Str×D)} {fs':List (Str×V)},FR r H fs fs'→FR r H (zeh f d fs) (zbx f v fs')
 | [],fs',h=>by
  have e:fs'=[]:=by
   have:=h.1
   simpa using this.symm
  subst e
  exact⟨rfl,Rps.cons q Rps.nil⟩
 | p::fs,[],h=>by
  have:=h.1
  simp at this
 | p::fs,p'::fs',h=>by
  obtain⟨h1,h2⟩:=h
  simp only[VaB,List.cons.injEq] at h1
  obtain⟨p1,p2⟩:=h2.tail
  have ih:=FR.put (f:=f) q (fs:=fs) (fs':=fs') ⟨h1.2,p2⟩
  obtain⟨pk,pv⟩:=p
  obtain⟨qk,qv⟩:=p'
  have ek:pk=qk:=h1.1
  subst ek
  unfold zeh zbx
  by_cases z:pk=f
  ·rw[if_pos z,if_pos z]
   exact⟨by simp[h1.2,z],Rps.cons q p2⟩
  ·rw[if_neg z,if_neg z]
   exact⟨by simp[ih.1],Rps.cons p1 ih.2⟩
section
variable {X:Cx}{Z:Zx}{pos:Pos}
def zcK (C:Addr)(S:Sto):D→Option (Nat×List (Str×D))
 | .ref n=>match S[n]? with
  | some (.ins C' fs)=>if C'=C then some (n,fs) else none
  | _=>none
 | _=>none
theorem zox {C:Addr}{S:Sto}{d:D}{n:Nat}{fs:List (Str×D)}(h:zcK C S d=some (n,fs)):d=.ref n∧S[n]?=some (.ins C fs):=by
 unfold zcK at h
 split at h
 ·split at h
  ·rename_i m _ C' fs' e
   split at h
   ·rename_i ec
    subst ec
    simp only[Option.some.injEq,Prod.mk.injEq] at h
    obtain⟨rfl,rfl⟩:=h
    exact⟨rfl,e⟩
   ·cases h
  ·cases h
 ·cases h
@[irreducible] def zku (C:Addr)(f:Str)(to:TDE):TDE:=λdl S Q=>to dl S λd S1=>match zcK C S1 d with
 | some (_,fs)=>match fs.lookup f with
  | some v=>Q v S1
  | none=>False
 | none=>False
theorem zaV {C:Addr}{f:Str}{o:Expr}{to:TDE}(c:Cls X.K C)(n:zbr X.K C f)(ho:PD X Z o to)(hb:attributeBase o f X.env (eval o X.env)=eval o X.env:=by rfl):PD X Z (.Attribute o f pos) (zku C f to):=
 zbe (zuM ho hb) λσ H Qv ⟨r,dl,S,Q,rs,rel,h,ret⟩=>by unfold zku at h; exact⟨r,dl,S,_,rs,rel,h,λv H1 r1 d S1 e1 rel1 p1 q1=>by
  split at q1
  ·rename_i m fs ei
   obtain⟨rfl,eS⟩:=zox ei
   split at q1
   ·rename_i w ew
    obtain⟨a,ha,ob⟩:=rel1.at eS
    obtain⟨dx,fs',eH,fr⟩:=ob
    cases p1 with
    | ref hr=>
     rw[hr] at ha; cases ha
     obtain⟨u,hu,pu⟩:=fr.lookup.1 w ew
     exact⟨a,C,dx,fs',u,rfl,eH,c,n,hu,ret u H1 r1 w S1 e1 rel1 pu q1⟩
   ·exact q1.elim
  ·exact q1.elim⟩
@[irreducible] def zmg (C:Addr)(f:Str)(to te:TDE):TDS:=λE dl S=>te dl S λv S1=>to dl S1 λd S2=>match zcK C S2 d with
 | some (n,fs)=>fs.length<1000∧E.nx dl (S2.set n (.ins C (zeh f v fs)))
 | none=>False
theorem zcF {C:Addr}{f:Str}{o e:Expr}{to te:TDE}{p2:Pos}(c:Cls X.K C)(n:zbr X.K C f)(ho:PD X Z o to)(he:PD X Z e te)
  (hs:swapsWith e (some (.Attribute o f p2)) pos.line X.env=pure false:=by rfl):PDS X Z (.Assign [.Attribute o f p2] e pos) (zmg C f to te):=
 zbG (zxj ho he hs) λF σ H ⟨r,dl,S,E,rs,rel,h,ret⟩=>by unfold zmg at h; exact⟨r,dl,S,_,rs,rel,h,λv H1 r1 dv S1 e1 rel1 p1 q1=>⟨r1,dl,S1,_,rs.ext e1,rel1,q1,λw H2 r2 d S2 e2 rel2 p2' q2=>by
  split at q2
  ·rename_i m fs ei
   obtain⟨rfl,eS⟩:=zox ei
   obtain⟨hl,q2⟩:=q2
   obtain⟨a,ha,ob⟩:=rel2.at eS
   obtain⟨dx,fs',eH,fr⟩:=id ob
   cases p2' with
   | ref hr=>
    rw[hr] at ha; cases ha
    have hlen:fs'.length=fs.length:=by
     have:=congrArg List.length fr.1
     simpa using this.symm
    obtain⟨rb,x⟩:=rel2.b.setO (o':=.ins C (zeh f dv fs)) (u:=.ins C dx (zbx f v fs')) hr eS rfl rfl λx=>⟨dx,_,zcL,(fr.put (p1.ext e2)).ext x⟩
    exact⟨a,C,dx,fs',rfl,eH,c,n,by omega,ret.nx _ _ r2 _ _ (e1.trans (e2.trans x)) (rs.ext (e1.trans (e2.trans x))) ⟨rb,rel2.xw.ext x⟩ q2⟩
  ·exact q2.elim⟩⟩
@[irreducible] def zlg (C:Addr)(m:Str)(ex:Ev→Addr→Sto→Prop)(sd:Sd)(to:TDE)(t:TDA):TDE:=λdl S Q=>to dl S λd S1=>match zcK C S1 d with
 | some (_,fs)=>fs.lookup m=none∧t dl S1 λds S2=>sd (d::ds) S2 Q (ex dl)
 | none=>False
theorem zuH {C:Addr}{m:Str}{f:Addr}{fd:FuncData}{k:Nat}{ps:List Str}{sp:Sp}{W:St→XK}{o e:Expr}{es:List Expr}{ta:TE}{t:TA}{apos:Pos}{pl:Sem Bool}(he:PE X o ta)(c:Cls X.K C)(hm:zeP X.K C m f)
  (F:zbj X.prog X.w X.K X.mg X.base (CXE X.prog X.w) k f fd ps sp)(hr:zaU k X.A)(hb:zbI X.K fd ps [])(hx:zcZ X W)(ha:PA X (e::es) t)(hst:starEach (e::es) X.env=(false,eval e X.env)::starEach es X.env)(hpl:(backTo pos (starEach es X.env)).any (·.1)=false)
  (ht:eval (.Call (.Attribute o m apos) (e::es) [] pos) X.env=(do
   let ov ← eval o X.env
   standAt apos.atName
   let (f,first) ← holding [ov] (getMethod ov m pl)
   callWith pos f first (backTo pos (starEach (e::es) X.env)) (backToKw pos (keywordEach [] X.env)))):
  PE X (.Call (.Attribute o m apos) (e::es) [] pos) (λσ H Q=>ta σ H λx H1=>∃a dx fs,x=.ref a∧H1 a=some (.ins C dx fs)∧fs.lookup m=none∧t σ H1 λvs H2=>sp (x::vs) H2 Q (W σ)):=by
 intro pins s σ H Q I h
 refine PySem.W.methodCall_KW (pl:=pl) (thn (he pins s σ H _ I h) λu s1 ⟨x,H1,I1,rx,a,dx,fs,ex,ea,l,q⟩=>?_) ht
 subst ex
 obtain rfl:u=Value.ref a:=rx
 refine zqO I1 ea c hm l ?_
 exact PySem.W.callWith_K (first:=[.ref a]) (h₀:=X.base) I.ok.mod.kin hm.kp (thn (ha pos pins s1 σ H1 _ I1 q) λus s2 ⟨vs,H2,I2,r,q2⟩=>⟨I2.kIn,zoQ (us:=.ref a::us) (vs:=.ref a::vs) F hr hb hx I2 (.cons rfl r) q2⟩) hst hpl
theorem zqW {C:Addr}{r:List Addr}{S:Sto}{H:Hp}{d:D}{v:V}{n:Nat}{fs:List (Str×D)}(rel:za5 X.K r S H)(p:Rp r H d v)(h:zcK C S d=some (n,fs)):∃a dx fs',v=.ref a∧r[n]?=some a∧H a=some (.ins C dx fs')∧FR r H fs fs':=by
 obtain⟨rfl,eS⟩:=zox h
 obtain⟨a,ha,dx,fs',eH,fr⟩:=rel.at eS
 cases p with
 | ref hr=>
  rw[hr] at ha; cases ha
  exact⟨a,dx,fs',rfl,hr,eH,fr⟩
theorem zfw {C:Addr}{m:Str}{f:Addr}{fd:FuncData}{k:Nat}{ps:List Str}{sd:Sd}{o e:Expr}{es:List Expr}{to:TDE}{t:TDA}{apos:Pos}{pl:Sem Bool}{ex:Ev→Addr→Sto→Prop}{W:St→XK}(ho:PD X ⟨ex,W⟩ o to)(c:Cls X.K C)(hm:zeP X.K C m f)
  (F:zbj X.prog X.w X.K X.mg X.base (CXE X.prog X.w) k f fd ps (upF X.K sd))(hr:zaU k X.A)(hb:zbI X.K fd ps [])(hx:zcZ X W)(ha:PDA X ⟨ex,W⟩ (e::es) t)
  (hst:starEach (e::es) X.env=(false,eval e X.env)::starEach es X.env:=by rfl)(hpl:(backTo pos (starEach es X.env)).any (·.1)=false:=by rfl)
  (ht:eval (.Call (.Attribute o m apos) (e::es) [] pos) X.env=(do
   let ov ← eval o X.env
   standAt apos.atName
   let (f,first) ← holding [ov] (getMethod ov m pl)
   callWith pos f first (backTo pos (starEach (e::es) X.env)) (backToKw pos (keywordEach [] X.env))):=by rfl):PD X ⟨ex,W⟩ (.Call (.Attribute o m apos) (e::es) [] pos) (zlg C m ex sd to t):=
 zbe (zuH ho c hm F hr hb hx ha hst hpl ht) λσ H Qv ⟨r,dl,S,Q,rs,rel,h,ret⟩=>by unfold zlg at h; exact⟨r,dl,S,_,rs,rel,h,λv H1 r1 d S1 e1 rel1 p1 q1=>by
  split at q1
  ·rename_i n fs ei
   obtain⟨hl,q1⟩:=q1
   obtain⟨a,dx,fs',rfl,hr1,eH,fr⟩:=zqW rel1.b p1 ei
   exact⟨a,dx,fs',rfl,eH,fr.lookup.2 hl,r1,dl,S1,_,rs.ext e1,rel1,q1,λvs H2 r2 ds S2 e2 rel2 p2 q2=>znT (Z:=⟨ex,W⟩) (rs.ext (e1.trans e2)) rel2 (Rps.cons (p1.ext e2) p2) q2 (ret.ext (e1.trans e2))⟩
  ·exact q1.elim⟩
def dMake (C:Addr)(ex:Addr→Sto→Prop)(sd:Sd)(t:TDA):TDE:=λdl S Q=>t dl S λds S1=>sd (.ref S1.length::ds) (S1++[.ins C []]) (λd S2=>d=.non∧Q (.ref S1.length) S2) ex
theorem zva {C x dx:Addr}{r:List Addr}{S:Sto}{H:Hp}(rel:Rel X.K Z r S H)(h1:H x=none)(h2:H dx=none)(h3:dx≠x):
  Rel X.K Z (r++[x]) (S++[.ins C []]) (upd (upd H dx (.own x)) x (.ins C dx []))∧Ext r (r++[x]) H (upd (upd H dx (.own x)) x (.ins C dx [])):=by
 obtain⟨rb,e⟩:=rel.b.pushO (o:=.ins C []) (H':=upd (upd H dx (.own x)) x (.ins C dx [])) h1 (λb u q=>by rw[zbc (zdp q h1),zbc (zdp q h2)]; exact q) λ_=>⟨dx,[],zcL,FR.nil⟩
 exact⟨⟨rb,rel.xw.ext e⟩,e⟩
theorem zsT {C x:Addr}{r r':List Addr}{n:Nat}{H H':Hp}{Z:Zx}{K:PySem.W.Frag}{Q:DK}{Qv:VK}(ret:Ret K Z r H Q Qv)(e:Ext r r' H H')(hx:r'[n]?=some x):
  Ret K Z r' H' (λd S2=>d=.non∧Q (.ref n) S2) (λv H2=>v=.non∧Qv (.ref x) H2):=λv H2 r2 d S2 e2 rel2 p2 q2=>by
 obtain⟨rfl,q2⟩:=q2
 cases p2
 exact⟨rfl,ret _ H2 r2 (.ref n) S2 (e.trans e2) rel2 (.ref (e2.adr _ _ hx)) q2⟩
theorem zfE {C f:Addr}{fd:FuncData}{k:Nat}{ps:List Str}{sd:Sd}{ex:Addr→Sto→Prop}{W:XK}{x:Str}{p:Pos}{e:Expr}{es:List Expr}{t:TDA}(M:Mk X.K C f)
  (F:zbj X.prog X.w X.K X.mg X.base (CXE X.prog X.w) k f fd ps (upF X.K sd))(hr:zaU (k+1) X.A)(hg:Gl X x)(hm:X.mg x=some (.ref C))(hb:zbI X.K fd ps [])(hx:zkv (CXE X.prog X.w) X W)(ha:PDA X (Zc ex W) (e::es) t)
  (hdb:(x==("__debug__":Str))=false:=by decide)(he:starEach (e::es) X.env=(false,eval e X.env)::starEach es X.env:=by rfl)(hpl:(backTo pos (starEach es X.env)).any (·.1)=false:=by rfl):
  PD X (Zc ex W) (.Call (.Name x p) (e::es) [] pos) (dMake C ex sd t):=
 zbe (zwF M F hr hg hm hb .nil hx ha hdb he hpl) λσ H Qv ⟨r,dl,S,Q,rs,rel,h,ret⟩=>⟨r,dl,S,_,rs,rel,h,λvs H1 r1 ds S1 e1 rel1 p1 q1=>λx dx n1 n2 n3=>by
  obtain⟨rel2,e2⟩:=zva (C:=C) rel1 n1 n2 n3
  show upF X.K sd (.ref x::(vs++[])) _ _ W
  rw[VaW]
  exact⟨ex,_,_,.ref S1.length::ds,_,rel2,Rps.cons (zfq rel1.len) (p1.ext e2),q1,zsT (C:=C) ret (e1.trans e2) (zoZ rel1.len)⟩⟩
end
section
variable {κ:Type} [DecidableEq κ]
end
section
variable {X:Cx}{Z:Zx}{pos:Pos}
end
section
variable {X:Cx}{Z:Zx}{pos:Pos}
def zbv (xs:List D)(lo hi:Option Int):List D:=(xs.drop (HT.sIx xs.length 0 lo)).take (HT.sIx xs.length xs.length hi-HT.sIx xs.length 0 lo)
theorem Rps.drop {r:List Addr}{H:Hp}{ds:List D}{vs:List V}(h:Rps r H ds vs)(k:Nat):Rps r H (ds.drop k) (vs.drop k):=
 ⟨by simp[h.1],λi d v h1 h2=>h.2 (k+i) d v (by simpa using h1) (by simpa using h2)⟩
theorem Rps.take {r:List Addr}{H:Hp}{ds:List D}{vs:List V}(h:Rps r H ds vs)(k:Nat):Rps r H (ds.take k) (vs.take k):=by
 refine⟨by simp[h.1],λi d v h1 h2=>?_⟩
 rw[List.getElem?_take] at h1 h2
 split at h1
 ·rw[if_pos (by assumption)] at h2
  exact h.2 i d v h1 h2
 ·cases h1
theorem Rps.cut {r:List Addr}{H:Hp}{ds:List D}{vs:List V}(h:Rps r H ds vs)(lo hi:Option Int):Rps r H (zbv ds lo hi) (zfy vs lo hi):=by
 unfold zbv zfy
 rw[h.1]
 exact(h.drop _).take _
@[irreducible] def zl6 (te:TDE)(tl th:TDO):TDE:=λdl S Q=>te dl S λd S1=>tl dl S1 λl S2=>th dl S2 λu S3=>match d with
 | .ref n=>match lAt S3 n with
  | some o=>Q (.ref S3.length) (S3++[.lst (zbv (zat o) l u)])
  | none=>False
 | _=>False
theorem zj4 {e:Expr}{te:TDE}{lo hi:Option Expr}{tl th:TDO}{p2:Pos}(he:PD X Z e te)(hl:PDO X Z lo tl)(hu:PDO X Z hi th):PD X Z (.Subscript e (.Slice lo hi none p2) pos) (zl6 te tl th):=
 zbe (zvk zt5 he hl hu) λσ H Qv ⟨r,dl,S,Q,rs,rel,h,ret⟩=>by
  unfold zl6 at h
  refine⟨r,dl,S,_,rs,rel,h,λv H1 r1 d S1 e1 rel1 p1 q1=>⟨r1,dl,S1,_,rs.ext e1,rel1,q1,λl H2 r2 S2 e2 rel2 q2=>⟨r2,dl,S2,_,rs.ext (e1.trans e2),rel2,q2,λu H3 r3 S3 e3 rel3 q3=>?_⟩⟩⟩
  cases p1 with
  | @ref n a hn=>
   dsimp only at q3
   split at q3
   ·rename_i o eo
    obtain⟨eo,eL⟩:=zbK eo
    obtain⟨a',ha,ob⟩:=rel3.at eo
    rw[e3.adr _ _ (e2.adr _ _ hn)] at ha; cases ha
    obtain⟨xs,sq,pr⟩:=ob.list eL
    refine⟨a,xs,rfl,sq,λp hp=>?_⟩
    obtain⟨rel4,x⟩:=rel3.push hp (pr.cut l u)
    exact ret _ _ _ (.ref S3.length) _ (e1.trans (e2.trans (e3.trans x))) rel4 (zfq rel3.len) q3
   ·exact q3.elim
  | _=>exact(show False from q3).elim
theorem zle {te:TDE}{tl th:TDO}{dl:Ev}{S S3:Sto}{Q:DK}{n:Nat}{o:Ob}{lo hi:Option Int}(h:∀K:DK,K (.ref n) S3→te dl S K)(hl:∀K:Option Int→Sto→Prop,K lo S3→tl dl S3 K)(hh:∀K:Option Int→Sto→Prop,K hi S3→th dl S3 K)(ho:S3[n]?=some o)
  (hq:Q (.ref S3.length) (S3++[.lst (zbv (zat o) lo hi)]))(hL:zb3 o=some o:=by rfl):zl6 te tl th dl S Q:=by
 unfold zl6
 refine h _ (hl _ (hh _ ?_))
 simp only[za9 ho hL]
 exact hq
end
section
variable {X:Cx}{Z:Zx}{pos:Pos}
theorem Rps.put {r:List Addr}{H:Hp}{ds:List D}{vs:List V}{d:D}{v:V}(h:Rps r H ds vs)(p:Rp r H d v)(j:Nat):Rps r H (ds.set j d) (vs.set j v):=by
 refine⟨by simp[h.1],λi x y h1 h2=>?_⟩
 by_cases z:j=i
 ·subst z
  have hl:j<ds.length:=by
   have:=(Vac.mp h1).1
   simpa using this
  rw[VaN hl] at h1
  rw[VaN (by rw[← h.1]; exact hl)] at h2
  cases h1
  cases h2
  exact p
 ·rw[VaO z] at h1 h2
  exact h.2 i x y h1 h2
@[irreducible] def zlL (to ti te:TDE):TDS:=λE dl S=>te dl S λv S1=>to dl S1 λd S2=>ti dl S2 λi S3=>match d,i with
 | .ref n,.int k=>match S3[n]? with
  | some (.lst xs)=>match ixN xs.length k with
   | some j=>E.nx dl (S3.set n (.lst (xs.set j v)))
   | none=>False
  | _=>False
 | _,_=>False
theorem zfC {o i e:Expr}{to ti te:TDE}{p2:Pos}(ho:PD X Z o to)(hi:PD X Z i ti)(he:PD X Z e te)
  (hs:swapsWithSole [.Subscript o i p2] e pos.line X.env=pure false:=by rfl)(hw:swappedStores [.Subscript o i p2] e X.env=pure none:=by rfl)(h1:(assignEach [.Subscript o i p2] X.env).map (·.2)=[assign (.Subscript o i p2) X.env]:=by rfl)
  (ha:∀v,assign (.Subscript o i p2) X.env v=(do let ov ← holding [v] (eval o X.env); let iv ← holding [v,ov] (eval i X.env); standAt p2; holding [v,ov,iv] (setItem ov iv v); release [v,ov,iv] []):=by intro _; rfl):PDS X Z (.Assign [.Subscript o i p2] e pos) (zlL to ti te):=
 zbG (zqi he (zrG ho hi zvf ha) hs hw h1) λF σ H ⟨r,dl,S,E,rs,rel,h,ret⟩=>by
  unfold zlL at h
  refine⟨r,dl,S,_,rs,rel,h,λv H1 r1 dv S1 e1 rel1 p1 q1=>⟨r1,dl,S1,_,rs.ext e1,rel1,q1,λx H2 r2 d S2 e2 rel2 pd q2=>⟨r2,dl,S2,_,rs.ext (e1.trans e2),rel2,q2,λy H3 r3 di S3 e3 rel3 pi q3=>?_⟩⟩⟩
  cases pd with
  | @ref n a hn=>
   cases pi with
   | int k=>
    dsimp only at q3
    split at q3
    ·rename_i xs eS
     split at q3
     ·rename_i j ej
      have hn3:=e3.adr _ _ hn
      obtain⟨ys,eH,pr⟩:=rel3.b.ob n a _ hn3 eS
      obtain⟨rel4,x4⟩:=rel3.set hn3 eS (pr.put (p1.ext (e2.trans e3)) j)
      exact⟨a,ys,k,j,rfl,rfl,eH,by rw[← pr.1]; exact ej,ret.nx _ _ r3 _ _ (e1.trans (e2.trans (e3.trans x4))) (rs.ext (e1.trans (e2.trans (e3.trans x4)))) rel4 q3⟩
     ·exact q3.elim
    ·exact q3.elim
   | _=>exact(show False from q3).elim
  | _=>exact(show False from q3).elim
def zc9 (f:D→D→Option Bool):List D→D→Option (Option Nat)
 | [],_=>some none
 | y::ys,x=>match f y x,zc9 f ys x with
  | some true,some _=>some (some 0)
  | some false,some o=>some (o.map (·+1))
  | _,_=>none
theorem zoO {f:D→D→Option Bool}{x:D}:∀ {ys:List D} {o:Option Nat},zc9 f ys x=some o→(∀y∈ys,∃c,f y x=some c)∧∀j,o=some j→(∃y,ys[j]?=some y∧f y x=some true)∧∀m y,m<j→ys[m]?=some y→f y x=some false
 | [],o,e=>by
  have h:=Option.some.inj e
  subst h
  exact⟨(λy hy=>by cases hy),λj z=>by cases z⟩
 | y::ys,o,e=>by
  unfold zc9 at e
  split at e
  ·rename_i o1 e1 e2
   have h:=Option.some.inj e
   subst h
   obtain⟨h1,_⟩:=zoO e2
   refine⟨λz hz=>?_,λj hj=>?_⟩
   ·rcases Vad.mp hz with rfl | hz
    ·exact⟨true,e1⟩
    ·exact h1 z hz
   ·cases hj
    exact⟨⟨y,rfl,e1⟩,λm z hm=>by omega⟩
  ·rename_i o1 e1 e2
   have h:=Option.some.inj e
   subst h
   obtain⟨h1,h2⟩:=zoO e2
   refine⟨λz hz=>?_,λj hj=>?_⟩
   ·rcases Vad.mp hz with rfl | hz
    ·exact⟨false,e1⟩
    ·exact h1 z hz
   ·obtain⟨k,rfl,rfl⟩:=Vah.mp hj
    obtain⟨⟨z,hz1,hz2⟩,h3⟩:=h2 k rfl
    refine⟨⟨z,by simpa using hz1,hz2⟩,λm w hm hw=>?_⟩
    cases m with
    | zero=>
     have:w=y:=by simpa using hw.symm
     rw[this]; exact e1
    | succ m=>exact h3 m w (by omega) (by simpa using hw)
  ·cases e
theorem zq2 {k:Nat}{pins:List (Addr×Obj)}{σ:St}{H:Hp}{s:Shared}{r:List Addr}{A:Around}{ds:List D}{vs:List V}{us:List Value}{dx:D}{x:V}{u:Value}{j:Nat}(I:Inv X pins σ H s)(hu:A.units+k<cLine)
  (p:Rps r H ds vs)(rv:zaD vs us)(px:Rp r H dx x)(rx:zaz x u)(e:zc9 (eqN k) ds dx=some (some j)):
  ∃g:Value→Bool,(∀y,y∈us.toArray→SeqAt.EqAt A s y u (g y))∧∃hj:j<us.toArray.size,g us.toArray[j]=true∧∀m (hm:m<us.toArray.size),m<j→g us.toArray[m]=false:=by
 obtain⟨h1,h2⟩:=zoO e
 obtain⟨⟨yj,hyj,htj⟩,hno⟩:=h2 j rfl
 classical
 have at_:∀(m:Nat) (hm:m<us.length),∃d v,ds[m]?=some d∧Rp r H d v∧zaz v us[m]:=λm hm=>by
  have hv:m<vs.length:=by rw[rv.length]; exact hm
  have gv:vs[m]?=some vs[m]:=by simp[hv]
  obtain⟨w,gw,rw'⟩:=rv.get gv
  obtain⟨d,gd,pd⟩:=p.get' gv
  have ew:w=us[m]:=by
   rw[Vam hm] at gw
   exact(Option.some.inj gw).symm
  subst ew
  exact⟨d,_,gd,pd,rw'⟩
 have val:∀(m:Nat) (hm:m<us.length) (d:D) (c:Bool),ds[m]?=some d→eqN k d dx=some c→decide (∃d v,d∈ds∧Rp r H d v∧zaz v us[m]∧eqN k d dx=some true)=c:=λm hm d c hd hc=>by
  obtain⟨d',v',gd,pd,rd⟩:=at_ m hm
  rw[hd] at gd; cases gd
  cases c with
  | true=>exact decide_eq_true ⟨d,v',Vaj hd,pd,rd,hc⟩
  | false=>
   refine decide_eq_false λ⟨d2,v2,_,pd2,rd2,hc2⟩=>?_
   have ev:=zph rd rd2
   subst ev
   exact absurd (zoc k d d2 dx v' false true pd pd2 hc hc2) (by decide)
 refine⟨λy=>decide (∃d v,d∈ds∧Rp r H d v∧zaz v y∧eqN k d dx=some true),λy hy=>?_,?_⟩
 ·have hy':y∈us:=by simpa using hy
  obtain⟨m,hm,rfl⟩:=VaL.mp hy'
  obtain⟨d,v,gd,pd,rd⟩:=at_ m hm
  obtain⟨c,hc⟩:=h1 d (Vaj gd)
  show SeqAt.EqAt A s us[m] u (decide _)
  rw[val m hm d c gd hc]
  exact zd3 k X pins σ H s r A d dx v x _ u c I hu pd px rd rx hc
 ·have hjl:j<us.length:=by
   have:=(Vac.mp hyj).1
   rw[p.1,rv.length] at this
   exact this
  refine⟨by simpa using hjl,?_,λm hm hmj=>?_⟩
  ·have z:=val j hjl yj true hyj htj
   simpa using z
  ·have hm':m<us.length:=by simpa using hm
   obtain⟨d,v,gd,pd,rd⟩:=at_ m hm'
   have z:=val m hm' d false gd (hno m d hmj gd)
   simpa using z
def ziA (k:Nat)(d y:D)(S:Sto)(Q:DK):Prop:=match d with
 | .ref n=>match lAt S n with
  | some o=>match zc9 (eqN k) (zat o) y with
   | some (some j)=>Q (.int (j:Int)) S
   | _=>False
  | none=>False
 | _=>False
@[irreducible] def zig (k:Nat)(to:TDE)(t:TDA):TDE:=λdl S Q=>to dl S λd S1=>(match d with
 | .ref n=>(lAt S1 n).isSome=true∧t dl S1 λds S2=>match ds with
  | [y]=>ziA k d y S2 Q
  | _=>False
 | _=>False)
theorem zrh {k j:Nat}(hr:zaU j X.A)(hk:k≤3):MtR X "list.index" (λx xs H Qv=>∃(r:List Addr) (S:Sto) (d y:D) (v:V) (Q:DK),Rel X.K Z r S H∧Rp r H d x∧xs=[v]∧Rp r H y v∧ziA k d y S Q∧Ret X.K Z r H Q Qv):=by
 intro pins s σ H x xs v us Qv I rx rv h
 obtain⟨r,S,d,y,v1,Q,rel,pd,rfl,py,q,ret⟩:=h
 obtain⟨u,rfl,ru⟩:=zeU rv
 unfold ziA at q
 split at q
 ·rename_i n
  split at q
  ·rename_i o eo
   obtain⟨eo,eL⟩:=zbK eo
   split at q
   ·rename_i i ei
    cases pd with
    | @ref n a hn=>
     cases rx
     obtain⟨a',ha,ob⟩:=rel.at eo
     rw[hn] at ha; cases ha
     obtain⟨ys,sq,pr⟩:=ob.list eL
     obtain⟨its,ri,pl,hz⟩:=I.list sq
     have hun:=hr.un
     obtain⟨g,g1,hj,g2,g3⟩:=zq2 (A:=X.A.in1) I (by show X.A.units+1+k<_; omega) pr ri py ru ei
     obtain⟨ob2,m,e,c,hd,hdat⟩:=pl
     obtain⟨oc,od,odat,osl⟩:=ob2
     have c':oc=.type "list":=c
     have hdat':odat=.seq its.toArray m:=hdat
     subst c' hdat'
     refine call_meets PySem.F.slot_list_index ⟨_,e,rfl⟩ PySem.F.entry_list_index (PySem.F.args_list_index_2 _ _) (PySem.SeqAt.list_indexAt a its.toArray m od osl u g i hj (by
      have:its.toArray.size≤sizeLine:=by rw[Val,← ri.length]; exact hz
      have h2:=zhj
      omega) g2 λm hm h2=>g3 m hm h2) ⟨e,g1,?_⟩
     exact⟨.int (i:Int),H,I.tok _,⟨_,rfl⟩,ret _ H r (.int _) S Ext.refl rel (.int _) q⟩
   ·exact q.elim
  ·exact q.elim
 ·exact q.elim
theorem zpC {k j:Nat}{o e:Expr}{to:TDE}{t:TDA}{apos cpos:Pos}(hr:zaU j X.A)(hk:k≤3)(ho:PD X Z o to)(ha:PDA X Z [e] t)(hbase:attributeBase o "index" X.env (eval o X.env)=eval o X.env:=by rfl)
  (hfew:((backTo cpos (starEach [e] X.env)).all (λx=>!x.1)&&(backToKw cpos (keywordEach [] X.env)).all (λx=>x.1.isSome)
  &&decide ([e].length+([]:List Keyword).length+(if ([]:List Keyword).isEmpty then 0 else 1)<30))=true:=by rfl)
  (hline:(apos.endLine==cpos.line)=true:=by rfl)(hs:starEach [e] X.env=(false,eval e X.env)::starEach [] X.env:=by rfl)(hplain:(backTo cpos (starEach [] X.env)).any (·.1)=false:=by rfl):
  PD X Z (.Call (.Attribute o "index" apos) [e] [] cpos) (zig k to t):=
 zbe (zqn (T:="list") PySem.F.plainAttrs_list PySem.F.slot_list_index PySem.F.type_list_index (zrh (Z:=Z) hr hk) ho ha hbase hfew hline hs hplain) λσ H Qv ⟨r,dl,S,Q,rs,rel,h,ret⟩=>by
  unfold zig at h
  refine⟨r,dl,S,_,rs,rel,h,λv H1 r1 d S1 e1 rel1 p1 q1=>?_⟩
  cases p1 with
  | @ref n a hn=>
   obtain⟨hsome,q1⟩:=q1
   obtain⟨o1,eo⟩:=VaX.mp hsome
   obtain⟨eo,eL⟩:=zbK eo
   obtain⟨a',ha',ob⟩:=rel1.at eo
   rw[hn] at ha'; cases ha'
   obtain⟨xs,sq,_⟩:=ob.list eL
   refine⟨.inl ⟨rfl,xs,sq⟩,r1,dl,S1,_,rs.ext e1,rel1,q1,λvs H2 r2 ds S2 e2 rel2 p2 q2=>?_⟩
   split at q2
   ·rename_i y
    obtain⟨v2,vs',rfl,p3,p4⟩:=p2.uncons
    have z:=p4.unnil
    subst z
    exact⟨r2,S2,.ref n,y,v2,Q,rel2,.ref (e2.adr _ _ hn),rfl,p3,q2,ret.ext (e1.trans e2)⟩
   ·exact q2.elim
  | _=>exact(show False from q1).elim
end
section
variable {X:Cx}{pins:List (Addr×Obj)}{σ:St}{H:Hp}{s:Shared}{h':Heap}
theorem zxG {t':Nat}{ch:List Addr}{T:Addr}{xs:List V}{vals:Array Value}(I:Inv X pins σ H s)(k:∀b o,b ∉ ch→s.heap.get? b=some o→h'.get? b=some o)(hch:∀b∈ch,zch X pins H b)
  (hT:s.heap.objs.size≤T)(ht:h'.IsTuple T vals)(rv:zaD xs vals.toList)(hl:xs.length≤sizeLine):Inv X pins σ (upd H T (.tup xs)) { s with heap:=h',toks:=t' }:=by
 have hTn:H T=none:=I.hok.fresh hT
 have old:∀ {b:Addr} {o:Obj},s.heap.get? b=some o→b≠T:=λ{b o} e z=>absurd (Van (Heap.lt_size e) hT) (by rw[z]; exact VaI _)
 have trk:∀b u,H b=some u→b ∉ ch:=λb u e z=>by
  rw[(hch b z).1] at e; cases e
 have up:∀b u,H b=some u→(upd H T (.tup xs)) b=some u:=zdc hTn
 refine I.step (g':=s.gens) (d':=s.drawn) (ch:=ch) (λb hb=>?_) (λb o _ _ hc e _=>k b o hc e) (λb o _ _ hc e _=>⟨o.slots,k b o hc e⟩) (λb o _ e n=>by rw[zbc (old e)]; exact n)
  (λb o hc e=>⟨o,k b o hc e⟩) (λb ys e=>up _ _ e) (λb o u e=>up _ _ e) (λb ps e=>⟨#[],by rw[up _ _ e]; simp⟩) (λm hm=>?_) (λb u e=>?_) I.bare
 ·obtain⟨_,f1,_,f3,f4,f5⟩:=hch b hb
  exact⟨f3,f1,f4,f5⟩
 ·obtain⟨o,es,ep,ho,r⟩:=hm
  exact⟨o,es,ep,k _ o (λz=>(hch _ z).2.1 rfl) ho,r⟩
 ·by_cases hb:b=T
  ·subst hb
   rw[zcL] at e
   cases e
   exact⟨hl,vals.toList,rv,by rw[Array.toArray_toList]; exact ht⟩
  ·rw[zbc hb] at e
   refine(I.hok b u e).stay (λc v hc q=>k c v ?_ q) (λd z=>up _ _ z) λd ys z=>up _ _ z
   rcases hc with z | z
   ·rw[z]; exact trk b u e
   ·exact trk c _ z
theorem zqk {t':Nat}{ch:List Addr}(I:Inv X pins σ H s)(k:∀b o,b ∉ ch→s.heap.get? b=some o→h'.get? b=some o)(hch:∀b∈ch,zch X pins H b):Inv X pins σ H { s with heap:=h',toks:=t' }:=by
 have trk:∀b u,H b=some u→b ∉ ch:=λb u e z=>by
  rw[(hch b z).1] at e; cases e
 refine I.step (g':=s.gens) (d':=s.drawn) (ch:=ch) (λb hb=>?_) (λb o _ _ hc e _=>k b o hc e) (λb o _ _ hc e _=>⟨o.slots,k b o hc e⟩) (λb o _ e n=>n)
  (λb o hc e=>⟨o,k b o hc e⟩) (λb ys e=>e) (λb o u e=>e) (λb ps e=>⟨#[],by rw[e]; simp⟩) (λm hm=>?_) (λb u e=>?_) I.bare
 ·obtain⟨_,f1,_,f3,f4,f5⟩:=hch b hb
  exact⟨f3,f1,f4,f5⟩
 ·obtain⟨o,es,ep,ho,r⟩:=hm
  exact⟨o,es,ep,k _ o (λz=>(hch _ z).2.1 rfl) ho,r⟩
 ·refine(I.hok b u e).stay (λc v hc q=>k c v ?_ q) (λd z=>z) λd ys z=>z
  rcases hc with z | z
  ·rw[z]; exact trk b u e
  ·exact trk c _ z
end
def Ite (K:PySem.W.Frag)(a:Addr):It:=
 ⟨λi H=>∃xs x,SqL K H a xs∧xs[i]?=some x,λi H x H'=>∃T v,x=.ref T∧H T=none∧H'=upd H T (.tup [.int (i:Int),v])∧∀xs,SqL K H a xs→xs[i]?=some v,λi H=>∃xs,SqL K H a xs∧xs.length=i⟩
theorem zxE {P:Program}{w:World}{K:PySem.W.Frag}{elts:List Expr}{kk:Nat}{tp:Pos}(a e it:Addr)(hei:e≠it)(hae:a≠e)(hai:a≠it):
  zgC P w K (.Tuple elts kk tp) (Ite K a) [e,it] e (λi h=>(∃old,IsEnum h e it i old)∧h.IsListIter it a i) where
 mem:=by simp
 obj:=λi h st b hb=>by
  obtain⟨⟨old,he⟩,o,e1,c,d⟩:=st
  have hb':b=e∨b=it:=by simpa using hb
  rcases hb' with rfl | rfl
  ·exact⟨_,he,λv z=>by cases z⟩
  ·exact⟨o,e1,λv z=>by rw[d] at z; cases z⟩
 keep:=λi h h' st k=>by
  obtain⟨⟨old,he⟩,hit⟩:=st
  exact⟨⟨old,k e (by simp) _ he⟩,hit.at λo x=>k it (by simp) o x⟩
 item:=by
  intro X hP hw hK hc i pins s σ H E I hf st hg
  subst hP hw hK
  obtain⟨xs,x,hq,hx⟩:=hg
  obtain⟨its,rv,p,hz⟩:=I.list hq
  obtain⟨u,hu,ru⟩:=rv.get hx
  have hi:i<its.toArray.size:=by
   have:=(Vac.mp hu).1
   simpa using this
  have W:=WalksT.enumerate (prog:=X.prog) (w:=X.w) (A:=X.A) (I.ok.hd hc) e it a hei hae hai its.toArray
  refine W.item i s _ _ hi ⟨st.1,st.2,p.isList⟩ λT vals h' tk hP hT ht mid k1=>?_
  obtain⟨t,y,hy,rfl⟩:=hP
  have ey:y=u:=by
   have z:its[i]?=some y:=by simpa using hy
   rw[hu] at z; exact(Option.some.inj z).symm
  subst ey
  have hw:∀b∈[e,it],zch X pins H b:=hf
  have I1:Inv X pins σ (upd H T (.tup [.int (i:Int),x])) { s with heap:=h',toks:=tk }:=zxG I k1 hw hT ht (.cons ⟨t,rfl⟩ (.cons ru .nil)) (show 2≤sizeLine from zlO (by decide))
  have neT:∀b∈[e,it],b≠T:=λb hb z=>W.apart i T h' mid (z ▸ hb)
  have hf1:∀b∈[e,it],zch X pins (upd H T (.tup [.int (i:Int),x])) b:=λb hb=>⟨by rw[zbc (neT b hb)]; exact(hf b hb).1,(hf b hb).2⟩
  refine⟨.ref T,rfl,W.go elts kk tp i T _ _ _ mid λh2 st2 k2=>?_⟩
  have I2:Inv X pins σ (upd H T (.tup [.int (i:Int),x])) { s with heap:=h2,toks:=tk }:=zqk (s:={ s with heap:=h',toks:=tk }) (t':=tk) I1 k2 hf1
  exact⟨.ref T,_,I2,rfl,⟨T,x,rfl,I.hok.fresh hT,rfl,λys hy=>by rw[I.list_inj hy hq]; exact hx⟩,⟨st2.1,st2.2.1⟩,λb hb=>(hf1 b hb).1⟩
 done:=by
  intro X hP hw hK hc i pins s σ H E I hf st hg
  subst hP hw hK
  obtain⟨xs,hq,hx⟩:=hg
  obtain⟨its,rv,p,hz⟩:=I.list hq
  have W:=WalksT.enumerate (prog:=X.prog) (w:=X.w) (A:=X.A) (I.ok.hd hc) e it a hei hae hai its.toArray
  have hi:i=its.toArray.size:=by rw[Val,← rv.length]; exact hx.symm
  subst hi
  exact W.done s _ _ ⟨st.1,st.2,p.isList⟩ λh' tk k1=>⟨rfl,zqk (t':=tk) I k1 hf⟩
 self:=λA i s Q E st h=>by
  obtain⟨⟨old,he⟩,_⟩:=st
  exact wpAny_pyIter_enum he h
section
variable {X:Cx}
def iEnum (K:PySem.W.Frag)(ta:TA):TI:=λσ H R=>ta σ H λvs H1=>∃a,vs=[.ref a]∧(∃xs,SqL K H1 a xs)∧R (Ite K a) H1
theorem zwo {a:Expr}{ta:TA}{p pos tp:Pos}{elts:List Expr}{kk:Nat}(hg:Gl X "enumerate")(hm:X.mg "enumerate"=none)(hv:bootBuiltins "enumerate"=some (.type "enumerate"))(ha:PA X [a] ta)(hs:starEach [a] X.env=[(false,eval a X.env)]:=by rfl):
  PI X (.Tuple elts kk tp) (.Call (.Name "enumerate" p) [a] [] pos) (iEnum X.K ta):=by
 intro pins s σ H R I h
 refine Call_ (ze4 I hg hm hv (PyProof.Rows.callWith_type1 (thn (ha pos pins s σ H _ I h) λus s1 ⟨vs,H1,I1,r1,q1⟩=>?_) hs rfl))
 obtain⟨l,e,⟨xs,hq⟩,q⟩:=q1
 subst e
 cases r1 with
 | cons r rr=>
  cases rr
  cases r
  obtain⟨its,rv,pl,hz⟩:=I1.list hq
  have hll:l<s1.heap.objs.size:=by
   obtain⟨o,e,_⟩:=pl.isList
   exact Heap.lt_size e
  refine call_enumerate_list pl.isList λh' he hit hsz hk=>?_
  have I2:Inv X pins σ H1 { s1 with heap:=h' }:=I1.kept (t':=s1.toks) hk
  refine wpAny_pyIter_enum he ⟨s1.heap.objs.size+1,[s1.heap.objs.size+1,s1.heap.objs.size],_,_,H1,rfl,I2,zxE l _ _ (Nat.succ_ne_self _) (Vao (Nat.lt_succ_of_lt hll)) (Vao hll),⟨⟨_,he⟩,hit⟩,λb hb=>?_,q⟩
  have hb':b=s1.heap.objs.size+1∨b=s1.heap.objs.size:=by simpa using hb
  rcases hb' with rfl | rfl
  ·exact I1.fpOk (Nat.le_succ _) (I1.hok.fresh (Nat.le_succ _))
  ·exact I1.fpOk (Vab _) (I1.hok.fresh (Vab _))
end
section
variable {X:Cx}
end
section
variable {X:Cx}{Z:Zx}{pos:Pos}
@[irreducible] def zjX (is:List Nat)(ta:TDA)(tb:TDS):TDS:=λE dl S=>ta dl S λds S1=>match ds with
 | [.ref n]=>(lAt S1 n).isSome=true∧∃W:Nat→Nat→Ev→Sto→Prop,(∃m,W 0 m dl S1)∧∀k m dl S,W k m dl S→match lAt S n with
  | some o=>match (zat o)[k]? with
   | some x=>tb { nx:=λdl' S'=>∃m',m'<m∧W (k+1) m' dl' S',rt:=E.rt,bk:=E.nx,ct:=λdl' S'=>∃m',m'<m∧W (k+1) m' dl' S' } (zdt is [.int (k:Int),x] dl) S
   | none=>k=(zat o).length∧E.nx dl S
  | none=>False
 | _=>False
theorem zi8 {r r':List Addr}{S':Sto}{H':Hp}{n:Nat}{a:Addr}{o:Ob}(hn:r'[n]?=some a)(rel:za5 X.K r' S' H')(eo:lAt S' n=some o):∃xs,SqL X.K H' a xs∧Rps r' H' (zat o) xs:=by
 obtain⟨eo,eL⟩:=zbK eo
 obtain⟨a',ha,ob⟩:=rel.at eo
 rw[hn] at ha; cases ha
 exact ob.list eL
theorem zsb {iter:Expr}{body:List Stmt}{es:List Expr}{kk:Nat}{tp p pos2:Pos}{is:List Nat}{ta:TDA}{tb:TDS}(hp:PassesOwn (model X.prog X.w) X.A X.env X.xe)(hc:X.calm=true)(hN:X.N.Nodup)(hn:Nms X es is)(h2:is.length=2)
  (hg:Gl X "enumerate")(hm:X.mg "enumerate"=none)(hv:bootBuiltins "enumerate"=some (.type "enumerate"))(ha:PDA X Z [iter] ta)(hb:zcc X Z body tb)
  (hlen:(assignEach es X.env).length=is.length:=by rfl)(hst:(assignEach es X.env).findIdx? (·.1)=none:=by rfl)(hse:starEach [iter] X.env=[(false,eval iter X.env)]:=by rfl)
  (hs:∀y,foldedSetIterable (.Call (.Name "enumerate" p) [iter] [] pos2) X.env y=pure y:=by intro _; rfl):PDS X Z (.For (.Tuple es kk tp) (.Call (.Name "enumerate" p) [iter] [] pos2) body [] pos) (zjX is ta tb):=
 zbG (zhD hp hc (zwo hg hm hv ha hse) (znV hc (zjD hN hn) hlen hst) hb hs) λF σ H ⟨r,dl,S,E,rs,rel,h,ret⟩=>by
  unfold zjX at h
  refine⟨r,dl,S,_,rs,rel,h,λvs H1 r1 ds S1 x1 rel1 p1 q1=>?_⟩
  split at q1
  ·rename_i n
   obtain⟨v,vs',rfl,p2,p3⟩:=p1.uncons
   have z:=p3.unnil
   subst z
   cases p2 with
   | @ref n a hr=>
    obtain⟨hsome,W,⟨m0,w0⟩,turn⟩:=q1
    obtain⟨o1,eo1⟩:=VaX.mp hsome
    obtain⟨xs1,sq1,_⟩:=zi8 (r:=r1) hr rel1.b eo1
    refine⟨a,rfl,⟨xs1,sq1⟩,λk m σ' H'=>∃r' dl' S',Ext r1 r' H1 H'∧Rs r' H' dl' σ'∧Rel X.K Z r' S' H'∧W k m dl' S',⟨m0,r1,dl,S1,Ext.refl,rs.ext x1,rel1,w0⟩,?_⟩
    rintro k m σ2 H2 ⟨r2,dl2,S2,x2,rs2,rel2,w2⟩
    have q:=turn k m dl2 S2 w2
    split at q
    ·rename_i o eo
     obtain⟨xs,sq,pr⟩:=zi8 (r:=r2) (x2.adr _ _ hr) rel2.b eo
     split at q
     ·rename_i y ey
      obtain⟨v,hvv,pv⟩:=pr.get ey
      refine .inr ⟨⟨xs,v,sq,hvv⟩,λσ' H'=>∃m',m'<m∧∃r' dl' S',Ext r1 r' H1 H'∧Rs r' H' dl' σ'∧Rel X.K Z r' S' H'∧W (k+1) m' dl' S',λ_ _ z=>z,λv' H' y'=>?_⟩
      obtain⟨T,w,rfl,hT,rfl,hw⟩:=y'
      have ew:w=v:=by
       have z:=hw xs sq
       rw[hvv] at z; exact(Option.some.inj z).symm
      subst ew
      have x3:Ext r2 r2 H2 (upd H2 T (.tup [.int (k:Int),w])):=zw2 hT
      have pp:Rps r2 (upd H2 T (.tup [.int (k:Int),w])) [.int (k:Int),y] [.int (k:Int),w]:=Rps.cons (.int _) (Rps.cons (pv.ext x3) Rps.nil)
      have rel3:=rel2.same (zdc (o:=.tup [.int (k:Int),w]) hT)
      have go:∀σ' H' r' dl' S',Ext r2 r' (upd H2 T (.tup [.int (k:Int),w])) H'→Rs r' H' dl' σ'→Rel X.K Z r' S' H'→(∃m',m'<m∧W (k+1) m' dl' S')→∃m',m'<m∧∃r' dl' S',Ext r1 r' H1 H'∧Rs r' H' dl' σ'∧Rel X.K Z r' S' H'∧W (k+1) m' dl' S':=
       λσ' H' r' dl' S' x rs' rel' ⟨m',hm,w'⟩=>⟨m',hm,r',dl',S',x2.trans (x3.trans x),rs',rel',w'⟩
      refine⟨T,[.int (k:Int),w],rfl,SqT.of zcL,by rw[h2]; rfl,by rw[h2]; rfl,r2,_,S2,_,zmR (rs2.ext x3) pp,rel3,q,⟨go,λσ' H' r' dl' S' x rs' rel' z=>ret.nx σ' H' r' dl' S' (x1.trans (x2.trans (x3.trans x))) rs' rel' z,go,ret.rt.ext (x1.trans (x2.trans x3))⟩⟩
     ·obtain⟨hk,q⟩:=q
      exact .inl ⟨⟨xs,sq,by rw[← pr.1]; exact hk.symm⟩,ret.nx σ2 H2 r2 dl2 S2 (x1.trans x2) rs2 rel2 q⟩
    ·exact q.elim
  ·exact q1.elim
end
section
variable {X:Cx}{Z:Zx}{pos:Pos}
@[irreducible] def zkE (T:String)(te:TDE):TDE:=λdl S Q=>te dl S λd S1=>match d with
 | .ref n=>match S1[n]? with
  | some (.lst _)=>Q (.bl (zcW "list" T)) S1
  | _=>False
 | _=>False
theorem zrb {T:String}{e:Expr}{te:TDE}{y:Str}{p p2:Pos}(KT:PySem.W.kitOne X.K (.type "list") (.type T)=some (zcW "list" T))(hg:Gl X "isinstance")(hm:X.mg "isinstance"=none)(hg2:Gl X y)(hm2:X.mg y=none)(hv2:bootBuiltins y=some (.type T))(ha:PD X Z e te)
  (hv:bootBuiltins "isinstance"=some (.builtin "isinstance"):=by exact PyProof.Rows.Boot.«isinstance»)
  (hn2:y≠"__name__":=by decide)(hd2:(y==("__debug__":Str))=false:=by decide)(he2:starEach [e,.Name y p2] X.env=(false,eval e X.env)::starEach [.Name y p2] X.env:=by rfl)
  (he3:starEach [.Name y p2] X.env=(false,eval (.Name y p2) X.env)::starEach [] X.env:=by rfl)(hpl:(backTo pos (starEach [.Name y p2] X.env)).any (·.1)=false:=by rfl):
  PD X Z (.Call (.Name "isinstance" p) [e,.Name y p2] [] pos) (zkE T te):=
 zbe (zo1 zqv hg hm hv (zeD ha (zeD (zqZ (v:=.ty T) hg2 hm2 hv2 rfl hn2 hd2) zkD he3) he2) (by decide) (by decide) he2 hpl) λσ H Qv ⟨r,dl,S,Q,rs,rel,h,ret⟩=>
  by unfold zkE at h; exact⟨r,dl,S,_,rs,rel,h,λv H1 r1 d S1 e1 rel1 p1 h1=>by
   cases p1 with
   | @ref n a hr=>
    dsimp only at h1
    split at h1
    ·rename_i xs eS
     obtain⟨ys,eH,_⟩:=rel1.b.ob n a _ hr eS
     exact⟨_,T,_,_,rfl,.lst eH,KT,ret _ _ _ _ _ e1 rel1 (.bl _) h1⟩
    ·exact h1.elim
   | _=>exact(show False from h1).elim⟩
end
theorem zw1 (K:PySem.W.Frag):PySem.W.kitOne K (.type "list") (.type "list")=some (zcW "list" "list"):=by kernel_rfl
structure Dm (K:PySem.W.Frag)(C:Addr)(m qual:Str)(st:Stmt)(ps:List Str) where
 f:Addr
 fd:FuncData
 F:Fun K m qual st f fd
 m:zeP K C m f
 b:zbI K fd ps []
structure Fm (P:Program)(w:World)(K:PySem.W.Frag)(mg:Str→Option Value)(base:Heap)(k:Nat)(C:Addr)(x:Str)(ps:List Str)(sd:Sd) where
 f:Addr
 fd:FuncData
 ok:zbj P w K mg base (CXE P w) k f fd ps (upF K sd)
 m:zeP K C x f
 b:zbI K fd ps []
def Dm.mk' {P:Program}{w:World}{K:PySem.W.Frag}{mg:Str→Option Value}{base:Heap}{k:Nat}{C:Addr}{x qual:Str}{st:Stmt}{ps:List Str}{sd:Sd}(d:Dm K C x qual st ps)(h:zbj P w K mg base (CXE P w) k d.f d.fd ps (upF K sd)):Fm P w K mg base k C x ps sd:=
 ⟨d.f,d.fd,h,d.m,d.b⟩
theorem zfA {P:Program}{w:World}{X:Cx}:zkv (CXE P w) X (λ_ _ _=>False):=λ_ _ _ _ _ _ _ h=>by
 obtain⟨_,_,_,_,_,_,_,_,_,_,_,_,q⟩:=h
 exact q.elim
section
variable {X:Cx}{Z:Zx}
theorem zjG {k:Nat}(hr:zaU k X.A):OpR X (compareOp .NotIn) (upO X.K Z (zb0 (wIn 1 true))):=by rw[zcv]; exact zrT 1 (by have:=hr.un; omega)
theorem zqf {k:Nat}(hr:zaU k X.A):OpR X (compareOp .Eq) (upO X.K Z (zb0 (zdX 1))):=by rw[zcv]; exact zro 1 hr (by have:=hr.un; omega)
end
section
variable {X:Cx}{Z:Zx}{pos:Pos}
theorem zup {k n m:Nat}{a a':Addr}{o o':Ob}{b:Bool}{pins:List (Addr×Obj)}{σ:St}{H:Hp}{s:Shared}{r:List Addr}{S:Sto}(I:Inv X pins σ H s)(rel:Rel X.K Z r S H)(hn:r[n]?=some a)(hm:r[m]?=some a')(eo:lAt S n=some o)(eo':lAt S m=some o')
  (e:eqL (eqN k) (zat o) (zat o')=some b)(hu:X.A.units+1+k<cLine):SeqAt.RcNeAt X.A s (.ref a) (.ref a') (!b):=by
 obtain⟨eo,eL⟩:=zbK eo
 obtain⟨eo',eL'⟩:=zbK eo'
 obtain⟨z,hz,ob⟩:=rel.at eo
 rw[hn] at hz; cases hz
 obtain⟨z,hz,ob'⟩:=rel.at eo'
 rw[hm] at hz; cases hz
 obtain⟨xs,sq,pr⟩:=ob.list eL
 obtain⟨ys,sq',pr'⟩:=ob'.list eL'
 obtain⟨is,ri,pl,_⟩:=I.list sq
 obtain⟨js,rj,pl',_⟩:=I.list sq'
 obtain⟨g1,g2⟩:=zfM (A:=X.A.in1) (zd3 k) I (by show X.A.units+1+k<_; omega) pr pr' ri rj e
 by_cases hs:is.toArray.size=js.toArray.size
 ·have q:=SeqAt.RcNeAt.lists (A:=X.A) pl.isList pl'.isList hs (by omega) g1
  have e2:(List.range is.toArray.size).all (zcp (eqN k) (zat o) (zat o'))=b:=by
   rw[← g2,← hs,Nat.min_self]; simp
  rw[e2] at q
  exact q
 ·have q:=SeqAt.RcNeAt.lists_lengths (A:=X.A) pl.isList pl'.isList (by simpa using hs) (by omega)
  have e2:b=false:=by
   rw[← g2,show (is.toArray.size==js.toArray.size)=false by simpa using hs,Bool.and_false]
  rw[e2]
  exact q
theorem zv5 (k:Nat){j:Nat}(hr:zaU j X.A)(hu:X.A.units+1+k<cLine):OpR X (compareOp .NotEq) (upO X.K Z (zdB k)):=by
 intro pins s σ H x y v u Qv I rx ry h
 obtain⟨r,S,dx,dy,Q,rel,px,py,q,ret⟩:=h
 have zaR:∀ {dx dy:D} {x y:V},Rp r H dx x→Rp r H dy y→zaz x v→zaz y u→zdg k S dx dy=eqN (k+1) dx dy→zdB k dx dy S Q→wpAny (model X.prog X.w) X.A (compareOp .NotEq v u) (EP X pins σ Qv) X.xe s:=λpx py rx ry e q=>by
  refine zpv (Z:=Z) (zd3 k) hu pins s σ H _ _ v u Qv I rx ry ⟨r,S,_,_,Q,rel,px,py,?_,ret⟩
  unfold zdB at q
  rw[e] at q
  exact q
 cases px with
 | @ref n a hn=>
  cases py with
  | @ref m a' hm=>
   cases rx
   cases ry
   unfold zdB zdg at q
   dsimp only at q
   split at q
   ·rename_i b e
    split at e
    ·rename_i o o' eo eo'
     exact zup I rel hn hm eo eo' e hu X.prog X.w X.xe _ ⟨.bl (!b),H,I,rfl,ret _ _ _ _ _ Ext.refl rel (.bl (!b)) q⟩
    ·cases e
   ·exact q.elim
  | non=>exact zaR (.ref hn) .non rx ry rfl q
  | bl i=>exact zaR (.ref hn) (.bl i) rx ry rfl q
  | int i=>exact zaR (.ref hn) (.int i) rx ry rfl q
  | str i=>exact zaR (.ref hn) (.str i) rx ry rfl q
  | tup a b c=>exact zaR (.ref hn) (.tup a b c) rx ry rfl q
  | exc a=>exact zaR (.ref hn) (.exc a) rx ry rfl q
 | non=>exact zaR .non py rx ry rfl q
 | bl i=>exact zaR (.bl i) py rx ry rfl q
 | int i=>exact zaR (.int i) py rx ry rfl q
 | str i=>exact zaR (.str i) py rx ry rfl q
 | tup a b c=>exact zaR (.tup a b c) py rx ry rfl q
 | exc a=>exact zaR (.exc a) py rx ry rfl q
theorem zr7 {k:Nat}(hr:zaU k X.A):OpR X (compareOp .NotEq) (upO X.K Z (zb0 (zdB 1))):=by rw[zcv]; exact zv5 1 hr (by have:=hr.un; omega)
theorem zxW {k n m:Nat}{S:Sto}{Q:DK}{o o':Ob}{b:Bool}(h1:lAt S n=some o)(h2:lAt S m=some o')(e:eqL (eqN k) (zat o) (zat o')=some b)(hq:Q (.bl (!b)) S):zb0 (zdB k) (.ref n) (.ref m) S Q:=by
 rw[zcv]
 unfold zdB
 simp only[zdg,h1,h2,e]
 exact hq
def zkh:W2:=λx y S Q=>match x,y with
 | .ref n,.ref m=>match S[n]?,S[m]? with
  | some (.lst xs),some (.lst ys)=>xs.length+ys.length≤1000∧Q (.ref S.length) (S++[.lst (xs++ys)])
  | _,_=>False
 | _,_=>False
theorem Rps.app {r:List Addr}{H:Hp}:∀ {ds es:List D} {xs ys:List V},Rps r H ds xs→Rps r H es ys→Rps r H (ds++es) (xs++ys)
 | [],es,xs,ys,p,q=>by
  have z:=p.unnil
  subst z
  exact q
 | d::ds,es,xs,ys,p,q=>by
  obtain⟨v,vs,rfl,p1,p2⟩:=p.uncons
  exact Rps.cons p1 (p2.app q)
theorem ztB:OpR X (binaryOp .Add) (upO X.K Z (zb0 zkh)):=by
 rw[zcv]
 exact ze6 zwu λx y H Qv ⟨r,S,dx,dy,Q,rel,px,py,q,ret⟩=>by
  unfold zkh at q
  split at q
  ·rename_i n m
   split at q
   ·rename_i xs ys e1 e2
    obtain⟨hl,q⟩:=q
    cases px with
    | @ref _ a hn=>
     cases py with
     | @ref _ a' hm=>
      obtain⟨z,hz,ob⟩:=rel.at e1
      rw[hn] at hz; cases hz
      obtain⟨z,hz,ob'⟩:=rel.at e2
      rw[hm] at hz; cases hz
      obtain⟨us,h1,p1⟩:=ob
      obtain⟨vs,h2,p2⟩:=ob'
      refine⟨a,a',us,vs,rfl,rfl,h1,h2,?_,λp hp=>?_⟩
      ·rw[← p1.1,← p2.1]; exact zlO hl
      ·obtain⟨rel4,x⟩:=rel.push hp (p1.app p2)
       exact ret _ _ _ (.ref S.length) _ x rel4 (zfq rel.len) q
   ·exact q.elim
  ·exact q.elim
theorem zx8 {n m:Nat}{S:Sto}{Q:DK}{xs ys:List D}(h1:S[n]?=some (.lst xs))(h2:S[m]?=some (.lst ys))(hl:xs.length+ys.length≤1000)(hq:Q (.ref S.length) (S++[.lst (xs++ys)])):zb0 zkh (.ref n) (.ref m) S Q:=by
 rw[zcv]
 unfold zkh
 simp only[h1,h2]
 exact⟨hl,hq⟩
def MT (X:Cx)(m:Str)(tbl:List (Addr×Sd)):Prop:=∀C sd,(C,sd)∈tbl→Cls X.K C∧∃(f:Addr) (fd:FuncData) (k:Nat) (ps:List Str),zeP X.K C m f∧zbj X.prog X.w X.K X.mg X.base (CXE X.prog X.w) k f fd ps (upF X.K sd)∧zaU k X.A∧zbI X.K fd ps []
theorem zpR {m:Str}:MT X m []:=λ_ _ h=>by cases h
theorem zcq {C:Addr}{m:Str}{k:Nat}{ps:List Str}{sd:Sd}{tbl:List (Addr×Sd)}(c:Cls X.K C)(G:Fm X.prog X.w X.K X.mg X.base k C m ps sd)(hr:zaU k X.A)(h:MT X m tbl):MT X m ((C,sd)::tbl):=λC' sd' hm=>by
 rcases Vad.mp hm with e | e
 ·cases e
  exact⟨c,G.f,G.fd,k,ps,G.m,G.ok,hr,G.b⟩
 ·exact h C' sd' e
theorem ztf {m:Str}{W:St→XK}{o e:Expr}{es:List Expr}{ta:TE}{t:TA}{apos:Pos}{pl:Sem Bool}{tbl:List (Addr×Sd)}(he:PE X o ta)(M:MT X m tbl)(hx:zcZ X W)(ha:PA X (e::es) t)(hst:starEach (e::es) X.env=(false,eval e X.env)::starEach es X.env)(hpl:(backTo pos (starEach es X.env)).any (·.1)=false)
  (ht:eval (.Call (.Attribute o m apos) (e::es) [] pos) X.env=(do
   let ov ← eval o X.env
   standAt apos.atName
   let (f,first) ← holding [ov] (getMethod ov m pl)
   callWith pos f first (backTo pos (starEach (e::es) X.env)) (backToKw pos (keywordEach [] X.env)))):
  PE X (.Call (.Attribute o m apos) (e::es) [] pos) (λσ H Q=>ta σ H λx H1=>∃a C dx fs sd,x=.ref a∧H1 a=some (.ins C dx fs)∧(C,sd)∈tbl∧fs.lookup m=none∧t σ H1 λvs H2=>upF X.K sd (x::vs) H2 Q (W σ)):=by
 intro pins s σ H Q I h
 refine PySem.W.methodCall_KW (pl:=pl) (thn (he pins s σ H _ I h) λu s1 ⟨x,H1,I1,rx,a,C,dx,fs,sd,ex,ea,hm',l,q⟩=>?_) ht
 subst ex
 obtain rfl:u=Value.ref a:=rx
 obtain⟨c,f,fd,k,ps,hm,F,hr,hb⟩:=M C sd hm'
 refine zqO I1 ea c hm l ?_
 exact PySem.W.callWith_K (first:=[.ref a]) (h₀:=X.base) I.ok.mod.kin hm.kp (thn (ha pos pins s1 σ H1 _ I1 q) λus s2 ⟨vs,H2,I2,r,q2⟩=>⟨I2.kIn,zoQ (us:=.ref a::us) (vs:=.ref a::vs) F hr hb hx I2 (.cons rfl r) q2⟩) hst hpl
@[irreducible] def zma (tbl:List (Addr×Sd))(m:Str)(ex:Ev→Addr→Sto→Prop)(to:TDE)(t:TDA):TDE:=λdl S Q=>to dl S λd S1=>∃n C fs sd,d=.ref n∧S1[n]?=some (.ins C fs)∧(C,sd)∈tbl∧fs.lookup m=none∧t dl S1 λds S2=>sd (d::ds) S2 Q (ex dl)
theorem zo6 {m:Str}{o e:Expr}{es:List Expr}{to:TDE}{t:TDA}{apos:Pos}{pl:Sem Bool}{ex:Ev→Addr→Sto→Prop}{W:St→XK}{tbl:List (Addr×Sd)}(ho:PD X ⟨ex,W⟩ o to)(M:MT X m tbl)(hx:zcZ X W)(ha:PDA X ⟨ex,W⟩ (e::es) t)
  (hst:starEach (e::es) X.env=(false,eval e X.env)::starEach es X.env:=by rfl)(hpl:(backTo pos (starEach es X.env)).any (·.1)=false:=by rfl)
  (ht:eval (.Call (.Attribute o m apos) (e::es) [] pos) X.env=(do
   let ov ← eval o X.env
   standAt apos.atName
   let (f,first) ← holding [ov] (getMethod ov m pl)
   callWith pos f first (backTo pos (starEach (e::es) X.env)) (backToKw pos (keywordEach [] X.env))):=by rfl):PD X ⟨ex,W⟩ (.Call (.Attribute o m apos) (e::es) [] pos) (zma tbl m ex to t):=
 zbe (ztf ho M hx ha hst hpl ht) λσ H Qv ⟨r,dl,S,Q,rs,rel,h,ret⟩=>by
  unfold zma at h
  refine⟨r,dl,S,_,rs,rel,h,λv H1 r1 d S1 e1 rel1 p1 q1=>?_⟩
  obtain⟨n,C,fs,sd,rfl,eS,hm,hl,q1⟩:=q1
  obtain⟨a,dx,fs',rfl,hr1,eH,fr⟩:=zqW (C:=C) (n:=n) (fs:=fs) rel1.b p1 (by simp only[zcK,eS,if_pos])
  exact⟨a,C,dx,fs',sd,rfl,eH,hm,fr.lookup.2 hl,r1,dl,S1,_,rs.ext e1,rel1,q1,λvs H2 r2 ds S2 e2 rel2 p2 q2=>znT (Z:=⟨ex,W⟩) (rs.ext (e1.trans e2)) rel2 (Rps.cons (p1.ext e2) p2) q2 (ret.ext (e1.trans e2))⟩
theorem zqS {tbl:List (Addr×Sd)}{C:Addr}{m:Str}{ex:Ev→Addr→Sto→Prop}{sd:Sd}{to:TDE}{t:TDA}{dl:Ev}{S S1:Sto}{Q:DK}{n:Nat}{fs:List (Str×D)}(hto:∀K:DK,K (.ref n) S1→to dl S K)(h:S1[n]?=some (.ins C fs))(hm:(C,sd)∈tbl)(hf:fs.lookup m=none)(hq:t dl S1 λds S2=>sd (.ref n::ds) S2 Q (ex dl)):zma tbl m ex to t dl S Q:=by
 unfold zma
 exact hto _ ⟨n,C,fs,sd,rfl,h,hm,hf,hq⟩
structure Kx (K:PySem.W.Frag)(C:Addr):Prop where
 cl:Cls K C
 ha:PySem.W.findIn K (.ref C) "__class__"=some (some (.builtin "object.__class__"))
 hn:PySem.W.specialIn K (.builtin "object.__class__") "__get__"=some (some (.builtin "getset_descriptor.__get__"))
 ht:PySem.W.takesIn K (.builtin "object.__class__")=some true
 hm:PySem.W.mroIn K C (.type "object")=some true
def KT (K:PySem.W.Frag)(cv:Value)(ans:List (Addr×Bool)):Prop:=∀C b,(C,b)∈ans→PySem.W.kitOne K (.ref C) cv=some b∧Kx K C
end
section
variable {X:Cx}{Z:Zx}
end
section
variable {n:Nat}{I:Addr}{fp wr:List Addr}{P:Nat→Value→Prop}{St:Nat→Shared→Prop}{prog:Program}{w:World}{A:Around}{s:Shared}{E:Value→Shared→Prop}{G:Array GenState→Array GenState→Prop}
end
section
variable {X:Cx}{Z:Zx}
end
section
variable {X:Cx}{pins:List (Addr×Obj)}{σ:St}{H:Hp}{s:Shared}
end
section
variable {X:Cx}{elt iter:Expr}{elts:List Expr}{kk:Nat}{tp:Pos}{pos:Pos}{sc:Scope}{own N:List Str}{caps:List Nat}{wi:TI}{gt:TG}{te:TE}
end
section
variable {X:Cx}{Z:Zx}{elt:Expr}{pos:Pos}{sc ar:Scope}{N:List Str}{caps:List Nat}
end
section
variable {X:Cx}{Z:Zx}{pos:Pos}
@[irreducible] def zkA (is:List Nat)(tl:TDE)(tb:TDS):TDS:=λE dl S=>tl dl S λd S1=>match d with
 | .ref n=>(lAt S1 n).isSome=true∧∃W:Nat→Nat→Ev→Sto→Prop,(∃m,W 0 m dl S1)∧∀k m dl S,W k m dl S→match lAt S n with
  | some o=>match (zat o)[k]? with
   | some (.tup xs)=>xs.length=is.length∧tb { nx:=λdl' S'=>∃m',m'<m∧W (k+1) m' dl' S',rt:=E.rt,bk:=E.nx,ct:=λdl' S'=>∃m',m'<m∧W (k+1) m' dl' S' } (zdt is xs dl) S
   | some _=>False
   | none=>E.nx dl S
  | none=>False
 | _=>False
theorem ztb {es:List Expr}{kk:Nat}{tp:Pos}{iter:Expr}{body:List Stmt}{is:List Nat}{tl:TDE}{tb:TDS}(hp:PassesOwn (model X.prog X.w) X.A X.env X.xe)(hc:X.calm=true)(hN:X.N.Nodup)(hn:Nms X es is)
  (hl:PD X Z iter tl)(hb:zcc X Z body tb)(hlen:(assignEach es X.env).length=is.length:=by rfl)(hst:(assignEach es X.env).findIdx? (·.1)=none:=by rfl)
  (hs:∀y,foldedSetIterable iter X.env y=pure y:=by intro _; rfl):PDS X Z (.For (.Tuple es kk tp) iter body [] pos) (zkA is tl tb):=
 zbG (zhD hp hc (zkT hl) (znV hc (zjD hN hn) hlen hst) hb hs) λF σ H ⟨r,dl,S,E,rs,rel,h,ret⟩=>by
  unfold zkA at h
  refine⟨r,dl,S,_,rs,rel,h,λv H1 r1 d S1 x1 rel1 p1 q1=>?_⟩
  cases p1 with
  | @ref n a hn=>
   obtain⟨hsome,W,⟨m0,w0⟩,turn⟩:=q1
   obtain⟨o1,eo1⟩:=VaX.mp hsome
   obtain⟨xs1,sq1,_⟩:=zi8 (r:=r1) hn rel1.b eo1
   refine⟨a,rfl,⟨xs1,sq1⟩,λk m σ' H'=>∃r' dl' S',Ext r1 r' H1 H'∧Rs r' H' dl' σ'∧Rel X.K Z r' S' H'∧W k m dl' S',⟨m0,r1,dl,S1,Ext.refl,rs.ext x1,rel1,w0⟩,?_⟩
   rintro k m σ2 H2 ⟨r2,dl2,S2,x2,rs2,rel2,w2⟩
   have q:=turn k m dl2 S2 w2
   split at q
   ·rename_i o eo
    obtain⟨xs,sq,pr⟩:=zi8 (r:=r2) (x2.adr _ _ hn) rel2.b eo
    split at q
    ·rename_i ys ey
     obtain⟨v,hv,pv⟩:=pr.get ey
     have go:∀σ' H' r' dl' S',Ext r2 r' H2 H'→Rs r' H' dl' σ'→Rel X.K Z r' S' H'→(∃m',m'<m∧W (k+1) m' dl' S')→∃m',m'<m∧∃r' dl' S',Ext r1 r' H1 H'∧Rs r' H' dl' σ'∧Rel X.K Z r' S' H'∧W (k+1) m' dl' S':=
      λσ' H' r' dl' S' x rs' rel' ⟨m',hm,w'⟩=>⟨m',hm,r',dl',S',x2.trans x,rs',rel',w'⟩
     refine .inr ⟨⟨xs,v,sq,hv⟩,λσ' H'=>∃m',m'<m∧∃r' dl' S',Ext r1 r' H1 H'∧Rs r' H' dl' σ'∧Rel X.K Z r' S' H'∧W (k+1) m' dl' S',λ_ _ z=>z,λv' H' y'=>?_⟩
     obtain⟨eH,y'⟩:=y'
     subst eH
     have ev:v'=v:=by
      have z:=y' xs sq
      rw[hv] at z; exact(Option.some.inj z).symm
     subst ev
     obtain⟨q1,q⟩:=q
     obtain⟨T,vs,rfl,eT,ps⟩:=pv.untup
     exact⟨T,vs,rfl,SqT.of eT,by rw[← ps.1]; exact q1,by rw[← ps.1]; exact q1,r2,_,S2,_,zmR rs2 ps,rel2,q,⟨go,λσ' H' r' dl' S' x rs' rel' z=>ret.nx σ' H' r' dl' S' (x1.trans (x2.trans x)) rs' rel' z,go,ret.rt.ext (x1.trans x2)⟩⟩
    ·exact q.elim
    ·rename_i ey
     have hlen:(zat o).length≤k:=VaE.mp ey
     exact .inl ⟨⟨xs,sq,by rw[← pr.1]; exact hlen⟩,ret.nx σ2 H2 r2 dl2 S2 (x1.trans x2) rs2 rel2 q⟩
   ·exact q.elim
  | _=>exact(show False from q1).elim
end
section
variable {X:Cx}{Z:Zx}
end
section
variable {X:Cx}{Z:Zx}{pos:Pos}
theorem zlN:∀ {us:List Value} {ms:List Int},IntsAre us ms→zaD (ms.map V.int) us
 | _,_,.nil=>.nil
 | _,_,.cons n t h=>.cons ⟨t,rfl⟩ (zlN h)
end
section
variable {X:Cx}{Z:Zx}{elt:Expr}{pos:Pos}{sc ar:Scope}{N:List Str}{caps:List Nat}
end
section
variable {X:Cx}{Z:Zx}{pos:Pos}
end
section
variable {n:Nat}{I:Addr}{fp wr:List Addr}{P:Nat→Value→Prop}{St:Nat→Shared→Prop}{prog:Program}{w:World}{A:Around}{s:Shared}{E:Value→Shared→Prop}{G:Array GenState→Array GenState→Prop}
end
section
variable {X:Cx}{Z:Zx}{pos:Pos}
end
section
variable {X:Cx}{Z:Zx}{pos:Pos}
end
section
variable {X:Cx}{Z:Zx}{elt iter:Expr}{elts:List Expr}{kk:Nat}{tp pos:Pos}{sc ar:Scope}{own N:List Str}{caps:List Nat}{wi:TI}{gt:TG}
end
section
variable {X:Cx}{Z:Zx}
end
section
variable {X:Cx}{Z:Zx}{pos:Pos}
end
end L3
namespace L2
open PySem PySem.Spec PyProof.Rows
def Itd (lo:Int)(n:Nat):It:=⟨λi _=>i<n,λi H x H'=>H'=H∧x=.int (lo-i),λi _=>n≤i⟩
theorem zq6 {P:Program}{w:World}{K:PySem.W.Frag}{tg:Expr}(it:Addr)(lo:Int)(n:Nat):zgC P w K tg (Itd lo n) [it] it (λi h=>IsRangeIter h it (lo+(i:Nat)*(-1)) ((n:Int)-(i:Nat)) (-1)) where
 mem:=Vaz.mpr rfl
 obj:=λi h st b hb=>by
  cases Vaz.mp hb
  refine⟨_,st,λv z=>?_⟩
  have z':Data.fields _=Data.cell v:=z
  cases z'
 keep:=λi h h' st k=>k it (Vaz.mpr rfl) _ st
 item:=by
  intro X hP hw hK hc i pins s σ H E I hf st hg
  subst hP hw hK
  obtain⟨f0,f1,f2,f3,f4,f5⟩:=hf it (Vaz.mpr rfl)
  have W:=Walks.range (prog:=X.prog) (w:=X.w) (I.ok.hd hc) it lo (-1) n
  refine W.item i s _ _ hg st λv h' tk hv st' kk=>?_
  obtain⟨t,rfl⟩:=hv
  have I1:Inv X pins σ H { s with heap:=h',toks:=tk }:=I.turned (λb o hb e=>kk b o (λz=>hb (Vaz.mp z)) e) f0 f1 f3 f4 f5
  have ev:lo+(i:Int)*(-1)=lo-(i:Int):=by omega
  exact⟨_,rfl,znS (s:={ s with heap:=h',toks:=tk }) (n:="range_iterator") st' rfl rfl (by decide) ⟨.int (lo-i),H,I1,⟨t,by rw[ev]⟩,⟨rfl,rfl⟩,st',λb hb=>(hf b hb).1⟩⟩
 done:=by
  intro X hP hw hK hc i pins s σ H E I hf st hg
  subst hP hw hK
  obtain⟨f0,f1,f2,f3,f4,f5⟩:=hf it (Vaz.mpr rfl)
  have hg':n≤i:=hg
  exact wpAny_pyNext_range_end (I.ok.hd hc) st (by omega) λh' eb=>⟨rfl,I.turned (t':=s.toks) (λb o hb e=>eb b o hb e) f0 f1 f3 f4 f5⟩
 self:=λ_ _ _ _ _ st h=>wpAny_pyIter_rangeiter st h
section
variable {X:Cx}{tg:Expr}
theorem zrH {pins:List (Addr×Obj)}{σ:St}{H:Hp}{s:Shared}{R:It→Hp→Prop}{E:Value→Shared→Prop}{lo hi:Int}{t u v:Tok}{tk:Nat}(I:Inv X pins σ H s)(h1:-(2^62)≤lo)(h2:lo<2^62)(h3:-(2^62)≤hi)(h4:hi<2^62)
  (q:R (Itd lo (lo-hi).toNat) H):wpAny (model X.prog X.w) X.A (pyIter (.ref s.heap.objs.size)) (PIE X pins σ tg R) E { s with heap:=s.heap.push { cls:=.type "range",data:=.fields #[.int lo t,.int hi u,.int (-1) v] },toks:=tk }:=by
 have I1:Inv X pins σ H { s with heap:=s.heap.push { cls:=.type "range",data:=.fields #[.int lo t,.int hi u,.int (-1) v] },toks:=tk }:=I.kept λb o e=>Heap.get?_push_of_some _ e
 refine wpAny_pyIter_range (IsRange.new ..) (PySem.W.small_down h1 h2 h3 h4) ?_
 refine⟨(s.heap.push { cls:=.type "range",data:=.fields #[.int lo t,.int hi u,.int (-1) v] }).objs.size,[(s.heap.push { cls:=.type "range",data:=.fields #[.int lo t,.int hi u,.int (-1) v] }).objs.size],_,_,H,rfl,
  I1.kept (t':=tk) λb o e=>Heap.get?_push_of_some _ e,zq6 _ lo (lo-hi).toNat,?_,λb hb=>?_,q⟩
 ·show IsRangeIter _ _ (lo+((0:Nat):Int)*(-1)) ((((lo-hi).toNat:Nat):Int)-((0:Nat):Int)) (-1)
  rw[show lo+((0:Nat):Int)*(-1)=lo by simp,show (((lo-hi).toNat:Nat):Int)-((0:Nat):Int)=Builtin.Range.rangeSize lo hi (-1) by rw[PySem.W.rangeSize_downNat]; simp]
  exact Heap.get?_push_size _ rfl
 ·cases Vaz.mp hb
  exact I1.fpOk (Vab _) (I1.hok.fresh (Vab _))
def iRngD (ta:TA):TI:=λσ H R=>ta σ H λvs H1=>∃i j:Int,vs=[.int i,.int j,.int (-1)]∧(-(2^62)≤i∧i<2^62∧-(2^62)≤j∧j<2^62)∧R (Itd i (i-j).toNat) H1
theorem zvg {a b c:Expr}{ta:TA}{p pos:Pos}(hg:Gl X "range")(hm:X.mg "range"=none)(ha:PA X [a,b,c] ta)(hs:starEach [a,b,c] X.env=[(false,eval a X.env),(false,eval b X.env),(false,eval c X.env)]:=by rfl)(hs2:starEach [b,c] X.env=[(false,eval b X.env),(false,eval c X.env)]:=by rfl):
  PI X tg (.Call (.Name "range" p) [a,b,c] [] pos) (iRngD ta):=by
 intro pins s σ H R I h
 refine Call_ (ze4 I hg hm boot_range (PyProof.Rows.callWith_type1 (thn (ha pos pins s σ H _ I h) λus s1 ⟨vs,H1,I1,r1,q1⟩=>?_) (by rw[hs,hs2]) (by rw[hs2]; rfl)))
 obtain⟨i,j,e,⟨q1,q2,q3,q4⟩,q⟩:=q1
 subst e
 cases r1 with
 | cons r rr=>
  cases rr with
  | cons r' rr=>
   cases rr with
   | cons r2 rr=>
    cases rr
    obtain⟨t,rfl⟩:=r
    obtain⟨t',rfl⟩:=r'
    obtain⟨t2,rfl⟩:=r2
    exact call_range_3 (by decide) (zrH I1 q1 q2 q3 q4 q) (.inl (PyProof.noPylong_small (by omega)))
end
end L2
namespace L3
open PySem PySem.Spec PyProof.Rows L2
section
variable {X:Cx}{Z:Zx}{pos:Pos}
def zvS (i:Nat)(ta:TDA)(tb:TDS):TDS:=λE dl S=>ta dl S λds S1=>match ds with
 | [.int lo,.int hi,.int st]=>st=-1∧(-(2^62)≤lo∧lo<2^62∧-(2^62)≤hi∧hi<2^62)∧∃W:Nat→Ev→Sto→Prop,W 0 dl S1∧∀k dl S,W k dl S→
   if k<(lo-hi).toNat then tb { nx:=λdl' S'=>W (k+1) dl' S',rt:=E.rt,bk:=E.nx,ct:=λdl' S'=>W (k+1) dl' S' } (dl.set i (some (.int (lo-k)))) S else E.nx dl S
 | _=>False
theorem zpO {i:Nat}{x:Str}{pos2 pos' p:Pos}{a b c:Expr}{body:List Stmt}{ta:TDA}{tb:TDS}(hp:PassesOwn (model X.prog X.w) X.A X.env X.xe)(hc:X.calm=true)(hN:X.N.Nodup)(hi:X.N[i]?=some x)(hx:Loc X.env.scope x)
  (hg:Gl X "range")(hm:X.mg "range"=none)(ha:PDA X Z [a,b,c] ta)(hb:zcc X Z body tb)(hf:X.fn x=true∨X.env.scope.names.lookup x=some .local:=by first | exact .inl rfl | exact .inr rfl | assumption)
  (hs:∀y,foldedSetIterable (.Call (.Name "range" p) [a,b,c] [] pos) X.env y=pure y:=by intro _; rfl)(hst:starEach [a,b,c] X.env=[(false,eval a X.env),(false,eval b X.env),(false,eval c X.env)]:=by rfl)(hst2:starEach [b,c] X.env=[(false,eval b X.env),(false,eval c X.env)]:=by rfl):
  PDS X Z (.For (.Name x pos') (.Call (.Name "range" p) [a,b,c] [] pos) body [] pos2) (zvS i ta tb):=
 zbG (zhD hp hc (zvg hg hm ha hst hst2) (zht hN hi hx hf) hb hs) λF σ H ⟨r,dl,S,E,rs,rel,h,ret⟩=>by
  refine⟨r,dl,S,_,rs,rel,h,λvs H1 r1 ds S1 x1 rel1 p1 q1=>?_⟩
  split at q1
  ·rename_i lo hi st
   obtain⟨v,vs',rfl,p2,p3⟩:=p1.uncons
   obtain⟨v2,vs2,rfl,p4,p5⟩:=p3.uncons
   obtain⟨v3,vs3,rfl,p6,p7⟩:=p5.uncons
   have z:=p7.unnil
   subst z
   cases p2
   cases p4
   cases p6
   obtain⟨e3,bds,W,w0,turn⟩:=q1
   subst e3
   refine⟨lo,hi,rfl,bds,λk m σ' H'=>m=(lo-hi).toNat-k∧∃r' dl' S',Ext r1 r' H1 H'∧Rs r' H' dl' σ'∧Rel X.K Z r' S' H'∧W k dl' S',⟨(lo-hi).toNat,by simp,r1,dl,S1,Ext.refl,rs.ext x1,rel1,w0⟩,?_⟩
   rintro k m σ2 H2 ⟨em,r2,dl2,S2,x2,rs2,rel2,w2⟩
   have q:=turn k dl2 S2 w2
   split at q
   ·rename_i hk
    have go:∀σ' H' r' dl' S',Ext r2 r' H2 H'→Rs r' H' dl' σ'→Rel X.K Z r' S' H'→W (k+1) dl' S'→∃r' dl' S',Ext r1 r' H1 H'∧Rs r' H' dl' σ'∧Rel X.K Z r' S' H'∧W (k+1) dl' S':=
     λσ' H' r' dl' S' x rs' rel' w'=>⟨r',dl',S',x2.trans x,rs',rel',w'⟩
    have pk:Rp r2 H2 (.int (lo-(k:Int))) (.int (lo-(k:Int))):=.int _
    refine .inr ⟨hk,λσ' H'=>∃r' dl' S',Ext r1 r' H1 H'∧Rs r' H' dl' σ'∧Rel X.K Z r' S' H'∧W (k+1) dl' S',λσ' H' z=>⟨(lo-hi).toNat-(k+1),by omega,rfl,z⟩,λv' H' y'=>?_⟩
    obtain⟨eH,y'⟩:=y'
    subst eH
    subst y'
    exact⟨r2,_,S2,_,rs2.set i pk,rel2,q,go,λσ' H' r' dl' S' x rs' rel' z=>ret.nx σ' H' r' dl' S' (x1.trans (x2.trans x)) rs' rel' z,go,ret.rt.ext (x1.trans x2)⟩
   ·rename_i hk
    exact .inl ⟨by show (lo-hi).toNat≤k; omega,ret.nx σ2 H2 r2 dl2 S2 (x1.trans x2) rs2 rel2 q⟩
  ·exact q1.elim
end
end L3
set_option Elab.async false
set_option linter.all false
set_option maxRecDepth 100000
set_option maxHeartbeats 40000000
namespace Mine
open PySem PySem.Spec PyProof.Rows L2 L3
theorem fsc {N P:List Str}{sc:Scope}(a:sc.kind=.function:=by rfl)(b:sc.isCoroutine=false:=by rfl)(c:sc.isGenerator=false:=by rfl)(d:N.Nodup:=by decide +kernel)(e:N.take P.length=P:=by rfl)(f:∀x∈P,sc.names.lookup x=some .local∨sc.names.lookup x=some .cell:=by decide +kernel)(g:∀y∈sc.names,y.2≠.free:=by decide +kernel):zaw N P sc:=⟨a,b,c,d,e,f,g⟩
theorem csc {sc ar:Scope}{x:Str}{caps:List Str}(a:sc.kind=.function:=by rfl)(b:∀y∈sc.names,y.2≠.cell:=by decide +kernel)(c:∀y∈sc.names,y.2=.local→sc.names.lookup y.1=some .local:=by decide +kernel)(d:sc.names.lookup x=some .local:=by rfl)(e:∀y∈caps,sc.names.lookup y=some .free:=by decide +kernel)(f:∀y∈sc.names,y.2=.free→ar.names.lookup y.1=some .cell:=by decide +kernel):zdn sc ar x caps:=⟨a,b,c,d,e,f⟩
abbrev Ln (sp:Sd)(n:Nat):Prop:=∀ds S Q ex,sp ds S Q ex→ds.length=n
theorem zaq {X:Cx}{x:Str}{p pos:Pos}{e:Expr}{es:List Expr}{t:TDA}{k j:Nat}{ps:List Str}{sd:Sd}{ex:Ev→Addr→Sto→Prop}(G:Fk X.prog X.w X.K X.mg X.base k x ps sd)(hr:zaU j X.A)(ha:PDA X ⟨ex,Z0.w⟩ (e::es) t)(hk:k≤j:=by decide)(hg:Gl X x:=by rfl)
  (hdb:(x==("__debug__":Str))=false:=by decide)(he:starEach (e::es) X.env=(false,eval e X.env)::starEach es X.env:=by rfl)(hpl:(backTo pos (starEach es X.env)).any (·.1)=false:=by rfl):PD X ⟨ex,Z0.w⟩ (.Call (.Name x p) (e::es) [] pos) (zmP ex sd t):=zn2 G (hr.mono hk) zcE hg ha hdb he hpl
abbrev ziZ:Stmt:=top 51
abbrev zg6:List Str:=["_law_cell_here"]
theorem zpx:zaw ["_law_cell_here","_law_c"] zg6 (zas ziZ):=fsc
abbrev zmZ:Stmt:=top 49
abbrev zfU:List Str:=["_law_a","_law_b"]
theorem zja:zaw ["_law_a","_law_b","_law_rest"] zfU (zas zmZ):=fsc
abbrev zjj:Stmt:=top 50
abbrev zdR:List Str:=["_law_top","_law_bottom"]
theorem zpe:zaw ["_law_top","_law_bottom","_law_shared"] zdR (zas zjj):=fsc
abbrev zjS:Stmt:=top 54
abbrev zhB:List Str:=["_law_cell_here"]
theorem zjQ:zaw ["_law_cell_here","_law_c","_law_made"] zhB (zas zjS):=fsc
abbrev zk0:Stmt:=top 55
abbrev zh4:List Str:=["_law_cell_here","_law_size","_law_many"]
theorem zfo:zaw ["_law_cell_here","_law_size","_law_many","_law_c","_law_kind","_law_one"] zh4 (zas zk0):=fsc
abbrev zl0:Stmt:=top 56
abbrev zeo:List Str:=["_law_node_here","_law_weights"]
theorem zxy:zaw ["_law_node_here","_law_weights"] zeo (zas zl0):=fsc
abbrev zeQ:Stmt:=top 57
abbrev zf3:List Str:=["_law_cells","_law_many","_law_ahead","_law_heavy","_law_most"]
theorem zeb:zaw ["_law_cells","_law_many","_law_ahead","_law_heavy","_law_most","_law_nodes","_law_weights","_law_cell_here","_law_node_here","_law_weight_here"] zf3 (zas zeQ):=fsc
abbrev zjs:Stmt:=top 53
abbrev zdy:List Str:=["_law_a","_law_many"]
theorem zkR:zaw ["_law_a","_law_many","_law_found","_law_turn"] zdy (zas zjs):=fsc
abbrev zmL:Stmt:=top 58
abbrev zgM:List Str:=["_law_node_here","_law_spans","_law_box","_law_grid_here"]
theorem zdw:zaw ["_law_node_here","_law_spans","_law_box","_law_grid_here","_law_a","_law_share","_law_ends","_law_low","_law_b"] zgM (zas zmL):=fsc
abbrev zm3:Stmt:=top 59
abbrev zen:List Str:=["_law_nodes","_law_box","_law_grid_here"]
theorem zni:zaw ["_law_nodes","_law_box","_law_grid_here","_law_spans","_law_node_here"] zen (zas zm3):=fsc
abbrev zl3:Stmt:=top 60
abbrev zhe:List Str:=["_law_nodes","_law_box","_law_grid_here","_law_first","_law_cell_here"]
theorem zd4:zaw ["_law_nodes","_law_box","_law_grid_here","_law_first","_law_cell_here","_law_at","_law_word","_law_span_here","_law_place","_law_number_here","_law_far"] zhe (zas zl3):=fsc
abbrev zlI:Stmt:=top 73
abbrev zgg:List Str:=["_law_c"]
theorem zpf:zaw ["_law_c","_law_low"] zgg (zas zlI):=fsc
abbrev zkf:Stmt:=top 74
abbrev zhi:List Str:=["_law_c","_law_size","_law_many"]
theorem zlP:zaw ["_law_c","_law_size","_law_many","_law_kind","_law_made"] zhi (zas zkf):=fsc
abbrev zfs:Stmt:=top 75
abbrev zib:List Str:=["_law_script"]
theorem zcH:zaw ["_law_script","_law_some","_law_many","_law_box","_law_nodes","_law_weights","_law_c","_law_node_here","_law_weight_here","_law_row"] zib (zas zfs):=fsc
abbrev zlh:Stmt:=top 45
abbrev zgG:List Str:=["_law_script","_law_k"]
theorem zwQ:zaw ["_law_script","_law_k"] zgG (zas zlh):=fsc
abbrev zjM:Stmt:=top 52
abbrev zfK:List Str:=["_law_cell_here"]
theorem zdC:zaw ["_law_cell_here","_law_c","_law_way","_law_low","_law_wide"] zfK (zas zjM):=fsc
abbrev zhO:Stmt:=top 76
abbrev zgX:List Str:=["_law_script"]
theorem zdK:zaw ["_law_script","_law_grid_here","_law_first","_law_many","_law_box","_law_nodes","_law_row"] zgX (zas zhO):=fsc
abbrev ziE:Stmt:=top 6
abbrev zfI:List Str:=["a","b"]
theorem zq5:zaw ["a","b"] zfI (zas ziE):=fsc
abbrev zj2:Stmt:=top 8
abbrev zdA:List Str:=["top","bottom"]
theorem ztt:zaw ["top","bottom"] zdA (zas zj2):=fsc
abbrev ziC:Stmt:=top 9
abbrev zfP:List Str:=["low","high","grid"]
theorem zx3:zaw ["low","high","grid"] zfP (zas ziC):=fsc
abbrev zkX:Stmt:=zaM (top 30) 2
abbrev zfV:List Str:=["self","spans","box","grid"]
theorem zq0:zaw ["self","spans","box","grid","number"] zfV (zas zkX):=fsc
abbrev zlu:Stmt:=zaM (top 31) 2
abbrev zfR:List Str:=["self","spans","box","grid"]
theorem zwR:zaw ["self","spans","box","grid"] zfR (zas zlu):=fsc
abbrev ziS:Stmt:=top 10
abbrev zfg:List Str:=["a","b"]
theorem zuY:zaw ["a","b"] zfg (zas ziS):=fsc
abbrev zkq:Stmt:=zaM (top 33) 1
abbrev zg3:List Str:=["self","spans","box","grid"]
theorem zrC:zaw ["self","spans","box","grid"] zg3 (zas zkq):=fsc
abbrev zid:Stmt:=top 11
abbrev zdx:List Str:=["a","b"]
theorem zsn:zaw ["a","b"] zdx (zas zid):=fsc
abbrev zjF:Stmt:=zaM (top 34) 1
abbrev zgK:List Str:=["self","spans","box","grid"]
theorem zx5:zaw ["self","spans","box","grid"] zgK (zas zjF):=fsc
abbrev zki:Stmt:=top 12
abbrev zhQ:List Str:=["a","b","grid"]
theorem zqA:zaw ["a","b","grid","products"] zhQ (zas zki):=fsc
abbrev zme:Stmt:=zaM (top 35) 1
abbrev zf5:List Str:=["self","spans","box","grid"]
theorem zuG:zaw ["self","spans","box","grid"] zf5 (zas zme):=fsc
abbrev zjb:Stmt:=top 5
abbrev zda:List Str:=["number","many"]
theorem ziT:zaw ["number","many","worth","step"] zda (zas zjb):=fsc
abbrev zhr:Stmt:=top 13
abbrev zgi:List Str:=["a","many","grid"]
theorem zlc:zaw ["a","many","grid","places","powers","bottom"] zgi (zas zhr):=fsc
abbrev zmG:Stmt:=zaM (top 36) 2
abbrev zgs:List Str:=["self","spans","box","grid"]
theorem zu0:zaw ["self","spans","box","grid"] zgs (zas zmG):=fsc
abbrev ziM:Stmt:=zaM (top 36) 0
abbrev zgl:List Str:=["self","one","many"]
theorem zvb:zaw ["self","one","many"] zgl (zas ziM):=fsc
abbrev zmt:Stmt:=zaM (top 30) 0
abbrev zg8:List Str:=["self","top","bottom"]
theorem zwy:zaw ["self","top","bottom"] zg8 (zas zmt):=fsc
abbrev zi7:Stmt:=zaM (top 31) 0
abbrev zh9:List Str:=["self","place"]
theorem zwM:zaw ["self","place"] zh9 (zas zi7):=fsc
abbrev zk9:Stmt:=zaM (top 32) 0
abbrev zf9:List Str:=["self","one","other"]
theorem zvF:zaw ["self","one","other"] zf9 (zas zk9):=fsc
abbrev zkO:Stmt:=zaM (top 32) 0
abbrev zgY:List Str:=["self","one","other"]
theorem ztx:zaw ["self","one","other"] zgY (zas zkO):=fsc
abbrev zml:Stmt:=zaM (top 32) 0
abbrev zhn:List Str:=["self","one","other"]
theorem zrP:zaw ["self","one","other"] zhn (zas zml):=fsc
abbrev zj3:Stmt:=top 37
abbrev zff:List Str:=["node"]
theorem zxQ:zaw ["node"] zff (zas zj3):=fsc
abbrev zmH:Stmt:=top 39
abbrev zhE:List Str:=["nodes","box","grid"]
theorem znA:zaw ["nodes","box","grid","found","node"] zhE (zas zmH):=fsc
abbrev zlW:Stmt:=top 14
abbrev zcX:List Str:=["a","b"]
theorem zoW:zaw ["a","b","low","high"] zcX (zas zlW):=fsc
abbrev zkx:Stmt:=top 41
abbrev zhf:List Str:=["word","span"]
theorem zrw:zaw ["word","span"] zhf (zas zkx):=fsc
abbrev zmf:Stmt:=zaM (top 30) 3
abbrev zgt:List Str:=["self","spans","here","grid"]
theorem zxt:zaw ["self","spans","here","grid"] zgt (zas zmf):=fsc
abbrev ziG:Stmt:=zaM (top 31) 3
abbrev zg7:List Str:=["self","spans","here","grid"]
theorem zwz:zaw ["self","spans","here","grid"] zg7 (zas ziG):=fsc
abbrev zms:Stmt:=zaM (top 33) 2
abbrev zgH:List Str:=["self","here","x","y","grid"]
theorem ztD:zaw ["self","here","x","y","grid"] zgH (zas zms):=fsc
abbrev zlz:Stmt:=zaM (top 33) 3
abbrev zgz:List Str:=["self","here","x","y","grid"]
theorem zxK:zaw ["self","here","x","y","grid"] zgz (zas zlz):=fsc
abbrev zkC:Stmt:=zaM (top 32) 1
abbrev zh0:List Str:=["self","spans","here","grid"]
theorem zk6:zaw ["self","spans","here","grid","x","y"] zh0 (zas zkC):=fsc
abbrev zlj:Stmt:=zaM (top 34) 2
abbrev zhW:List Str:=["self","here","x","y","grid"]
theorem zuJ:zaw ["self","here","x","y","grid"] zhW (zas zlj):=fsc
abbrev zk2:Stmt:=zaM (top 34) 3
abbrev zhG:List Str:=["self","here","x","y","grid"]
theorem zxm:zaw ["self","here","x","y","grid"] zhG (zas zk2):=fsc
abbrev zi1:Stmt:=zaM (top 32) 1
abbrev zhg:List Str:=["self","spans","here","grid"]
theorem zl2:zaw ["self","spans","here","grid","x","y"] zhg (zas zi1):=fsc
abbrev ziX:Stmt:=top 17
abbrev zfS:List Str:=["span"]
theorem zu4:zaw ["span"] zfS (zas ziX):=fsc
abbrev zkj:Stmt:=top 20
abbrev zfB:List Str:=["x","low","high"]
theorem zuv:zaw ["x","low","high"] zfB (zas zkj):=fsc
abbrev zmQ:Stmt:=top 21
abbrev zf6:List Str:=["top","bottom"]
theorem zxh:zaw ["top","bottom"] zf6 (zas zmQ):=fsc
abbrev zij:Stmt:=top 22
abbrev zgv:List Str:=["products","x","y"]
theorem zg0:zaw ["products","x","y","low_by","high_by","low","high"] zgv (zas zij):=fsc
abbrev ziO:Stmt:=top 15
abbrev zhy:List Str:=["a","b"]
theorem zuz:zaw ["a","b"] zhy (zas ziO):=fsc
abbrev zmi:Stmt:=top 19
abbrev zeM:List Str:=["one","other"]
theorem zwC:zaw ["one","other"] zeM (zas zmi):=fsc
abbrev zjY:Stmt:=top 18
abbrev zdE:List Str:=["pair"]
theorem ztV:zaw ["pair"] zdE (zas zjY):=fsc
abbrev zkM:Stmt:=top 23
abbrev zeI:List Str:=["z","x","y","grid"]
theorem zfb:zaw ["z","x","y","grid","products","left","turned"] zeI (zas zkM):=fsc
abbrev zk7:Stmt:=zaM (top 35) 2
abbrev zfY:List Str:=["self","here","x","y","grid"]
theorem zxd:zaw ["self","here","x","y","grid"] zfY (zas zk7):=fsc
abbrev zjq:Stmt:=zaM (top 35) 3
abbrev zf1:List Str:=["self","here","x","y","grid"]
theorem zrA:zaw ["self","here","x","y","grid"] zf1 (zas zjq):=fsc
abbrev zjt:Stmt:=zaM (top 32) 1
abbrev zh5:List Str:=["self","spans","here","grid"]
theorem zl8:zaw ["self","spans","here","grid","x","y"] zh5 (zas zjt):=fsc
abbrev zlK:Stmt:=top 25
abbrev zhF:List Str:=["guess","number","many"]
theorem zsB:zaw ["guess","number","many"] zhF (zas zlK):=fsc
abbrev zmM:Stmt:=top 24
abbrev zeV:List Str:=["number","many"]
theorem zhT:zaw ["number","many","guess","better"] zeV (zas zmM):=fsc
abbrev zg1:Stmt:=top 26
abbrev zcY:List Str:=["number","many"]
theorem zjR:zaw ["number","many","below"] zcY (zas zg1):=fsc
abbrev zmC:Stmt:=top 27
abbrev zf2:List Str:=["z","x","many","grid"]
theorem zgO:zaw ["z","x","many","grid","scale","powers","low","high"] zf2 (zas zmC):=fsc
abbrev zlC:Stmt:=zaM (top 36) 3
abbrev zhJ:List Str:=["self","spans","here","grid"]
theorem zpl:zaw ["self","spans","here","grid","x"] zhJ (zas zlC):=fsc
abbrev zjv:Stmt:=top 42
abbrev zgU:List Str:=["nodes","row","box","grid"]
theorem zdL:zaw ["nodes","row","box","grid","at","spans","wished","number","left","part"] zgU (zas zjv):=fsc
abbrev zir:Stmt:=top 43
abbrev zgj:List Str:=["nodes","row","box","grid"]
theorem zhX:zaw ["nodes","row","box","grid","spans","left","number","span","node"] zgj (zas zir):=fsc
abbrev zkI:Stmt:=top 61
abbrev zft:List Str:=["_law_a","_law_b"]
theorem zq8:zaw ["_law_a","_law_b"] zft (zas zkI):=fsc
abbrev zd8:Stmt:=top 64
abbrev zeG:List Str:=["_law_spans"]
theorem zqH:zaw ["_law_spans","_law_kept_here"] zeG (zas zd8):=fsc
abbrev zkZ:Stmt:=top 63
abbrev zh2:List Str:=["_law_x","_law_piece"]
theorem zhu:zaw ["_law_x","_law_piece","_law_low","_law_high"] zh2 (zas zkZ):=fsc
abbrev zkG:Stmt:=top 62
abbrev zgr:List Str:=["_law_low","_law_high","_law_y"]
theorem zb8:zaw ["_law_low","_law_high","_law_y","_law_ends","_law_top","_law_bottom","_law_least","_law_most","_law_end","_law_pieces_here","_law_edge"] zgr (zas zkG):=fsc
abbrev zgw:Stmt:=top 65
abbrev zg2:List Str:=["_law_z","_law_x","_law_y","_law_grid_here"]
theorem zve:zaw ["_law_z","_law_x","_law_y","_law_grid_here"] zg2 (zas zgw):=fsc
abbrev zi2:Stmt:=top 70
abbrev zhp:List Str:=["_law_node_here","_law_z","_law_x","_law_y","_law_grid_here","_law_first"]
theorem zry:zaw ["_law_node_here","_law_z","_law_x","_law_y","_law_grid_here","_law_first"] zhp (zas zi2):=fsc
abbrev zmx:Stmt:=top 66
abbrev zhN:List Str:=["_law_bound","_law_many","_law_most"]
theorem zfu:zaw ["_law_bound","_law_many","_law_most","_law_low","_law_high","_law_place"] zhN (zas zmx):=fsc
abbrev zkK:Stmt:=top 67
abbrev zhV:List Str:=["_law_bound","_law_many","_law_most"]
theorem zn9:zaw ["_law_bound","_law_many","_law_most","_law_low"] zhV (zas zkK):=fsc
abbrev zmI:Stmt:=top 68
abbrev zgx:List Str:=["_law_x","_law_low","_law_high","_law_many"]
theorem zpL:zaw ["_law_x","_law_low","_law_high","_law_many","_law_most"] zgx (zas zmI):=fsc
abbrev zju:Stmt:=top 69
abbrev zgA:List Str:=["_law_z","_law_x","_law_many","_law_grid_here"]
theorem zd5:zaw ["_law_z","_law_x","_law_many","_law_grid_here","_law_share","_law_low","_law_high","_law_right","_law_left"] zgA (zas zju):=fsc
abbrev zlE:Stmt:=top 71
abbrev zhk:List Str:=["_law_node_here","_law_spans","_law_z","_law_grid_here"]
theorem zfz:zaw ["_law_node_here","_law_spans","_law_z","_law_grid_here","_law_x","_law_y"] zhk (zas zlE):=fsc
abbrev zih:Stmt:=top 72
abbrev zhd:List Str:=["_law_nodes","_law_row","_law_box","_law_grid_here"]
theorem zc3:zaw ["_law_nodes","_law_row","_law_box","_law_grid_here","_law_spans","_law_most","_law_k","_law_parts","_law_part","_law_span_here","_law_left"] zhd (zas zih):=fsc
abbrev zlD:Stmt:=top 46
abbrev zhK:List Str:=["_law_found"]
theorem zwj:zaw ["_law_found"] zhK (zas zlD):=fsc
abbrev zmW:Stmt:=top 47
abbrev zgo:List Str:=["_law_found"]
theorem ztl:zaw ["_law_found"] zgo (zas zmW):=fsc
abbrev zjn:Stmt:=top 48
abbrev zgq:List Str:=["_law_found","_law_many"]
theorem zqw:zaw ["_law_found","_law_many","_law_span_here"] zgq (zas zjn):=fsc
abbrev zdU:Stmt:=top 77
abbrev zix:List Str:=["_law_script"]
theorem ze7:zaw ["_law_script","_law_grid_here","_law_box","_law_nodes","_law_row","_law_many","_law_handed","_law_other","_law_found"] zix (zas zdU):=fsc
theorem kfo {K:PySem.W.Frag}{f c:Addr}{m:Value}{n q:Str}{st:Stmt}(l:K.lookup f=some (fo n q st m c)):PySem.W.keepIn K (.ref f)=true:=by
 unfold PySem.W.keepIn
 simp only[l]
theorem ifo {K:PySem.W.Frag}{f c:Addr}{m:Value}{n q:Str}{st:Stmt}(l:K.lookup f=some (fo n q st m c)):PySem.W.isFn K (.ref f)=true:=by
 unfold PySem.W.isFn PySem.W.typeIn
 simp only[l]
 rfl
theorem ln1 {P:List Value→Prop}(h:∀a,P [a]):∀us:List Value,us.length=1→P us
 | [a],_=>h a
theorem ln2 {P:List Value→Prop}(h:∀a b,P [a,b]):∀us:List Value,us.length=2→P us
 | [a,b],_=>h a b
theorem ln3 {P:List Value→Prop}(h:∀a b c,P [a,b,c]):∀us:List Value,us.length=3→P us
 | [a,b,c],_=>h a b c
theorem ln4 {P:List Value→Prop}(h:∀a b c d,P [a,b,c,d]):∀us:List Value,us.length=4→P us
 | [a,b,c,d],_=>h a b c d
theorem ln5 {P:List Value→Prop}(h:∀a b c d e,P [a,b,c,d,e]):∀us:List Value,us.length=5→P us
 | [a,b,c,d,e],_=>h a b c d e
theorem ln6 {P:List Value→Prop}(h:∀a b c d e f,P [a,b,c,d,e,f]):∀us:List Value,us.length=6→P us
 | [a,b,c,d,e,f],_=>h a b c d e f
abbrev Bn (n q:Str)(st:Stmt)(ps:List Str):Prop:=∀(kV doc pm:Value) (an:Option Addr) (cdv ct:Value) (us:List Value),us.length=ps.length→bindArgs (PySem.W.fnOf n q (zd6 st) (zdG st) (zas st) .none kV doc pm an cdv ct) ⟨us,[]⟩=pure (ps.zip us)
def dfo {K:PySem.W.Frag}{mg:Str→Option Value}{h:Heap}(X:K.In h)(G:h.Ns mainGlobals mg){n:Str}{st:Stmt}{f c:Addr}{m:Value}{ps:List Str}(a:PySem.W.nsIn K mainGlobals n=some (some (.ref f)))(l:K.lookup f=some (fo n n st m c))(e:PySem.W.codeIn K (.ref c) n=true)(b:Bn n n st ps):Df K mg n st ps:=⟨_,_,zkU (st:=st) l e (kfo l),PySem.W.mg_of X G a,(zkU (st:=st) l e (kfo l)).binds b⟩
def dmo {K:PySem.W.Frag}{C:Addr}{n q:Str}{st:Stmt}{f c:Addr}{m:Value}{ps:List Str}(a:PySem.W.findIn K (.ref C) n=some (some (.ref f)))(l:K.lookup f=some (fo n q st m c))(e:PySem.W.codeIn K (.ref c) q=true)(b:Bn n q st ps):Dm K C n q st ps:=⟨_,_,zkU (st:=st) l e (kfo l),⟨a,ifo l,kfo l⟩,(zkU (st:=st) l e (kfo l)).binds b⟩
abbrev nsA (K:PySem.W.Frag)(n:Str)(f:Addr):Prop:=PySem.W.nsIn K mainGlobals n=some (some (.ref f))
abbrev fdA (K:PySem.W.Frag)(C:Addr)(n:Str)(f:Addr):Prop:=PySem.W.findIn K (.ref C) n=some (some (.ref f))
abbrev lkA (K:PySem.W.Frag)(f:Addr)(n q:Str)(st:Stmt)(m:Value)(c:Addr):Prop:=K.lookup f=some (fo n q st m c)
abbrev cdA (K:PySem.W.Frag)(c:Addr)(q:Str):Prop:=PySem.W.codeIn K (.ref c) q=true
theorem zaQ {C:Addr}{f:Str}{to:TDE}{dl:Ev}{S S1:Sto}{Q:DK}{n:Nat}{fs:List (Str×D)}{v:D}(hto:∀K:DK,K (.ref n) S1→to dl S K)(h:S1[n]?=some (.ins C fs))(hf:fs.lookup f=some v)(hq:Q v S1):zku C f to dl S Q:=by
 unfold zku
 refine hto _ ?_
 simp only[zcK,h,if_pos,hf]
 exact hq
theorem zcA {C:Addr}{f:Str}{to te:TDE}{dl:Ev}{S S1 S2:Sto}{E:zcD}{n:Nat}{fs:List (Str×D)}{v:D}(hte:∀K:DK,K v S1→te dl S K)(hto:∀K:DK,K (.ref n) S2→to dl S1 K)(h:S2[n]?=some (.ins C fs))(hl:fs.length<1000)(hq:E.nx dl (S2.set n (.ins C (zeh f v fs)))):zmg C f to te E dl S:=by
 unfold zmg
 refine hte _ (hto _ ?_)
 simp only[zcK,h,if_pos]
 exact⟨hl,hq⟩
theorem zc7 {C:Addr}{m:Str}{ex:Ev→Addr→Sto→Prop}{sd:Sd}{to:TDE}{t:TDA}{dl:Ev}{S S1:Sto}{Q:DK}{n:Nat}{fs:List (Str×D)}(hto:∀K:DK,K (.ref n) S1→to dl S K)(h:S1[n]?=some (.ins C fs))(hf:fs.lookup m=none)(hq:t dl S1 λds S2=>sd (.ref n::ds) S2 Q (ex dl)):zlg C m ex sd to t dl S Q:=by
 unfold zlg
 refine hto _ ?_
 simp only[zcK,h,if_pos]
 exact⟨hf,hq⟩
theorem zwa {te:TDE}{dl:Ev}{S:Sto}{Q:DK}{n:Nat}{xs:List D}(ht:∀K:DK,K (.ref n) S→te dl S K)(h:S[n]?=some (.lst xs))(hq:Q (.bl true) S):zkE "list" te dl S Q:=by
 unfold zkE
 refine ht _ ?_
 simp only[h]
 exact hq
theorem zdM {to ti te:TDE}{dl:Ev}{S:Sto}{E:zcD}{n j:Nat}{k:Int}{xs:List D}{v:D}(hte:∀K:DK,K v S→te dl S K)(hto:∀K:DK,K (.ref n) S→to dl S K)(hti:∀K:DK,K (.int k) S→ti dl S K)(h:S[n]?=some (.lst xs))(hj:ixN xs.length k=some j)(hq:E.nx dl (S.set n (.lst (xs.set j v)))):zlL to ti te E dl S:=by
 unfold zlL
 refine hte _ (hto _ (hti _ ?_))
 simp only[h,hj]
 exact hq
theorem zcC {n:Nat}{S:Sto}{Q:DK}{xs:List D}(h:S[n]?=some (.lst xs))(hq:Q (.int (xs.length:Nat)) S):irr zia [.ref n] S Q:=by
 rw[zio]
 unfold zia
 simp only[za9 h rfl]
 exact hq
theorem zbq {S:Sto}{n a:Nat}{o u:Ob}(h:S[n]?=some o)(hn:a≠n):(S.set a u)[n]?=some o:=by rw[VaO hn]; exact h
theorem zbm {S:Sto}{n:Nat}{o u:Ob}(h:S[n]?=some o):(S.set n u)[n]?=some u:=by
 have hk:=(Vac.mp h).1
 simp[hk]
theorem zaH {S:Sto}{n:Nat}{o:Ob}{T:Sto}(h:S[n]?=some o):(S++T)[n]?=some o:=by
 have hk:=(Vac.mp h).1
 rw[Vas hk]
 exact h
theorem zcy (T R:Sto)(u:Ob):(T++u::R)[T.length]?=some u:=by simp
theorem zcB (T R:Sto)(u v:Ob):(T++u::R).set T.length v=T++v::R:=by simp
theorem zcg {S:Sto}{n:Nat}{o:Ob}(h:S[n]?=some o):n<S.length:=(Vac.mp h).1
theorem zkV {n m:Nat}{S:Sto}{Q:DK}{xs ys:List D}{b:Bool}(h1:S[n]?=some (.lst xs))(h2:S[m]?=some (.lst ys))(e:eqL (eqN 1) xs ys=some b)(hq:Q (.bl b) S):zb0 (zdX 1) (.ref n) (.ref m) S Q:=by
 rw[zcv]
 unfold zdX
 simp only[zdg,za9 h1 rfl,za9 h2 rfl,zat,e]
 exact hq
theorem zt9 {xs:List Int}{lo hi:Option Int}{k:Nat}{x:D}(h:(zbv (xs.map D.int) lo hi)[k]?=some x):∃c:Int,x=.int c:=by
 have m:=Vaj h
 unfold L3.zbv at m
 obtain⟨c,_,rfl⟩:=VaY.mp (List.mem_of_mem_drop (List.mem_of_mem_take m))
 exact⟨c,rfl⟩
theorem zb6 {i n:Nat}{tb:TDS}{E:zcD}{dl:Ev}{S:Sto}{o:Ob}(W:Nat→Ev→Sto→Prop)(h0:W 0 dl S)(hk:∀k dl' S',W k dl' S'→S'[n]?=some o)
  (ht:∀(k:Nat) (x:D) (dl':Ev) (S':Sto) (nx ct:Ev→Sto→Prop),(zat o)[k]?=some x→W k dl' S'→(∀dl2 S2,W (k+1) dl2 S2→nx dl2 S2)→tb { nx:=nx,rt:=E.rt,bk:=E.nx,ct:=ct } (dl'.set i (some x)) S')(he:∀dl' S',W (zat o).length dl' S'→E.nx dl' S')(hL:zb3 o=some o:=by rfl):
  (lAt S n).isSome=true∧∃W:Nat→Nat→Ev→Sto→Prop,(∃m,W 0 m dl S)∧∀k m dl S,W k m dl S→match lAt S n with
  | some o=>match (zat o)[k]? with
   | some x=>tb { nx:=λdl' S'=>∃m',m'<m∧W (k+1) m' dl' S',rt:=E.rt,bk:=E.nx,ct:=λdl' S'=>∃m',m'<m∧W (k+1) m' dl' S' } (dl.set i (some x)) S
   | none=>E.nx dl S
  | none=>False:=by
 refine⟨by rw[za9 (hk _ _ _ h0) hL]; rfl,λk m dl' S'=>m+k=(zat o).length∧W k dl' S',⟨(zat o).length,by omega,h0⟩,?_⟩
 rintro k m dl' S' ⟨hm,w⟩
 rw[za9 (hk _ _ _ w) hL]
 show (match (zat o)[k]? with
   | some x=>tb { nx:=λdl' S''=>∃m',m'<m∧(m'+(k+1)=(zat o).length∧W (k+1) dl' S''),rt:=E.rt,bk:=E.nx,ct:=λdl' S''=>∃m',m'<m∧(m'+(k+1)=(zat o).length∧W (k+1) dl' S'') } (dl'.set i (some x)) S'
   | none=>E.nx dl' S')
 split
 ·rename_i x hx
  have hk:k<(zat o).length:=(Vac.mp hx).1
  exact ht k x dl' S' _ _ hx w λdl2 S2 w2=>⟨m-1,by omega,by omega,w2⟩
 ·rename_i hx
  have hk:k=(zat o).length:=by
   have:=VaE.mp hx
   omega
  exact he dl' S' (hk ▸ w)
inductive Nd where
 | number (t b:Int) | unknown (k:Int) | plus (i j:Int) | minus (i j:Int) | times (i j:Int) | power (i n:Int)
def Nd.d:Nd→D
 | .number t b=>.tup [.str "number",.int t,.int b]
 | .unknown k=>.tup [.str "unknown",.int k]
 | .plus i j=>.tup [.str "plus",.int i,.int j]
 | .minus i j=>.tup [.str "minus",.int i,.int j]
 | .times i j=>.tup [.str "times",.int i,.int j]
 | .power i n=>.tup [.str "power",.int i,.int n]
def Nd.ob (cN cU cP cM cT cW:Addr):Nd→Ob
 | .number t b=>.ins cN [("top",.int t),("bottom",.int b)]
 | .unknown k=>.ins cU [("place",.int k)]
 | .plus i j=>.ins cP [("one",.int i),("other",.int j)]
 | .minus i j=>.ins cM [("one",.int i),("other",.int j)]
 | .times i j=>.ins cT [("one",.int i),("other",.int j)]
 | .power i n=>.ins cW [("one",.int i),("many",.int n)]
def inR (m i:Int):Prop:=0≤i∧i<m
def Nd.ok (m q:Int):Nd→Prop
 | .number t b=>(1≤b∧b≤10^9)∧Int.gcd t b=1∧t.natAbs≤10^9
 | .unknown k=>inR q k
 | .plus i j=>inR m i∧inR m j
 | .minus i j=>inR m i∧inR m j
 | .times i j=>inR m i∧inR m j
 | .power i n=>inR m i∧2≤n∧n≤6
def frD (p:Int×Int):D:=.tup [.int p.1,.int p.2]
abbrev gt (vs:List (Int×Int))(i:Int):Int×Int:=vs.getD i.toNat (0,1)
theorem zvd {vs:List (Int×Int)}{i:Int}(h:inR vs.length i):gt vs i∈vs:=by
 obtain⟨h0,h1⟩:=h
 have hk:i.toNat<vs.length:=by omega
 have e:gt vs i=vs[i.toNat]:=by simp[gt,hk]
 rw[e]
 exact List.getElem_mem hk
theorem zaP {vs:List (Int×Int)}{i:Int}(h:inR vs.length i):atI (vs.map frD) i=some (frD (gt vs i)):=by
 obtain⟨h0,h1⟩:=h
 have hk:i.toNat<vs.length:=by omega
 have z:=zdq (xs:=vs.map frD) (j:=i.toNat) (v:=frD (gt vs i)) (by rw[Vae,Vam hk]; simp[gt,hk])
 rw[show ((i.toNat:Nat):Int)=i by omega] at z
 exact z
theorem fr_eq (p q:Int×Int):eqN 1 (frD p) (frD q)=some (decide (p.1=q.1)&&(decide (p.2=q.2)&&true)):=by simp[frD,eqN,L3.eqT,eqL,eqF]
theorem zk5:∀vs:List (Int×Int),eqL (eqN 1) (vs.map frD) (vs.map frD)=some true
 | []=>rfl
 | u::us=>by
  show (match eqN 1 (frD u) (frD u),eqL (eqN 1) (us.map frD) (us.map frD) with | some b,some c=>some (b&&c) | _,_=>none)=_
  rw[fr_eq,zk5 us]
  simp
theorem znc {G:Int×Int→Prop}:∀xs:List D,(∀(k:Nat) (d:D),xs[k]?=some d→∃p,d=frD p∧G p)→∃vs:List (Int×Int),xs=vs.map frD∧∀p∈vs,G p
 | [],_=>⟨[],rfl,λp h=>by cases h⟩
 | x::xs,h=>by
  obtain⟨p,rfl,hp⟩:=h 0 x rfl
  obtain⟨vs,rfl,hv⟩:=znc xs λk d hd=>h (k+1) d hd
  exact⟨p::vs,rfl,λq hq=>by
   rcases Vad.mp hq with e | e
   ·subst e; exact hp
   ·exact hv q e⟩
theorem zp0 {xs:List D}{d e:D}{i:Nat}{P:Nat→D→Prop}(h:(xs++[d])[i]?=some e)(hp:∀i d,xs[i]?=some d→P i d)(hd:P xs.length d):P i e:=by
 by_cases hi:i<xs.length
 ·rw[Vas hi] at h
  exact hp i e h
 ·have hk:=(Vac.mp h).1
  simp only[Vay,VaK,List.length_nil] at hk
  have e1:i=xs.length:=by omega
  subst e1
  simp at h
  subst h
  exact hd
theorem zqx {caps:List Nat}{ta:TDA}{te:TDE}{dl:Ev}{S S1:Sto}{Q:DK}{j:Int}(P:Nat→D→Prop)(hta:∀K:List D→Sto→Prop,K [.int j] S1→ta dl S K)(hj:0≤j∧j≤1000)
  (ht:∀k:Nat,k<j.toNat→∀(S2:Sto) (K:DK),Pre S1 S2→(∀d,P k d→K d S2)→te (some (.int k)::zco caps dl) S2 K)(hq:∀xs:List D,xs.length=j.toNat→(∀k d,xs[k]?=some d→P k d)→Q (.ref S1.length) (S1++[.lst xs])):zdY caps ta zc0 te dl S Q:=by
 unfold zdY
 refine hta _ ⟨⟨by omega,by omega⟩,λk S2=>(∃xs:List D,S2=S1++[.lst xs]∧xs.length=k∧∀i d,xs[i]?=some d→P i d)∧k≤j.toNat,⟨⟨[],rfl,rfl,λi d h=>by simp at h⟩,by omega⟩,?_⟩
 rintro k S2 ⟨⟨xs,rfl,hx,hp⟩,hk⟩
 split
 ·rename_i hk'
  unfold zdj zc0
  simp only[if_true]
  refine ht k hk' _ _ Pre.refl.push λd hd=>?_
  rw[zaB]
  refine⟨by omega,⟨xs++[d],zp9 _ _ _,by simp[hx],λi e he=>zp0 he hp (hx ▸ hd)⟩,by omega⟩
 ·have e:k=j.toNat:=by omega
  subst e
  exact hq xs hx hp
theorem zpi {caps:List Nat}{tl te:TDE}{dl:Ev}{S S1:Sto}{Q:DK}{n:Nat}{o:Ob}(P:Nat→D→Prop)(htl:∀K:DK,K (.ref n) S1→tl dl S K)(h1:S1[n]?=some o)(hl:(zat o).length≤1000)
  (ht:∀(k:Nat) (x:D),(zat o)[k]?=some x→∀(S2:Sto) (K:DK),Pre S1 S2→(∀d,P k d→K d S2)→te (some x::zco caps dl) S2 K)(hq:∀xs:List D,xs.length=(zat o).length→(∀k d,xs[k]?=some d→P k d)→Q (.ref S1.length) (S1++[.lst xs]))(hL:zb3 o=some o:=by rfl):zb2 caps tl zc0 te dl S Q:=by
 unfold zb2
 refine htl _ ⟨by rw[za9 h1 hL]; rfl,λk m S2=>(∃xs:List D,S2=S1++[.lst xs]∧xs.length=k∧∀i d,xs[i]?=some d→P i d)∧m+k=(zat o).length,⟨(zat o).length,⟨[],rfl,rfl,λi d h=>by simp at h⟩,by omega⟩,?_⟩
 rintro k m S2 ⟨⟨xs,rfl,hx,hp⟩,hm⟩
 rw[za9 (zlr h1) hL]
 dsimp only
 split
 ·rename_i x hk
  have hk':k<(zat o).length:=(Vac.mp hk).1
  unfold zdj zc0
  simp only[if_true]
  refine ht k x hk _ _ Pre.refl.push λd hd=>?_
  rw[zaB]
  refine⟨by omega,m-1,by omega,⟨xs++[d],zp9 _ _ _,by simp[hx],λi e he=>zp0 he hp (hx ▸ hd)⟩,by omega⟩
 ·rename_i hk
  have hk':=VaE.mp hk
  exact hq xs (by omega) hp
theorem zwK {α:Type}{xs:List D}{lo hi:Option Int}:(zbv xs lo hi).length≤xs.length:=by
 unfold L3.zbv
 rw[Var,List.length_drop]
 omega
theorem zre {S T:Sto}(h:Pre S T){n:Nat}{o:Ob}(e:S[n]?=some o):T[n]?=some o:=h n o e
structure zdV (a b c d mn mx:Int):Prop where
 lo:mn=a*c∨mn=a*d∨mn=b*c∨mn=b*d
 l1:mn≤a*c
 l2:mn≤a*d
 l3:mn≤b*c
 l4:mn≤b*d
 hi:mx=a*c∨mx=a*d∨mx=b*c∨mx=b*d
 h1:a*c≤mx
 h2:a*d≤mx
 h3:b*c≤mx
 h4:b*d≤mx
theorem zdV.of {a b c d mn mx:Int}(m1:mn∈[a*c,a*d,b*c,b*d])(m2:∀y∈[a*c,a*d,b*c,b*d],mn≤y)(x1:mx∈[a*c,a*d,b*c,b*d])(x2:∀y∈[a*c,a*d,b*c,b*d],y≤mx):zdV a b c d mn mx:=by
 simp only[Vad,Vap,or_false] at m1 x1
 exact⟨m1,m2 _ (by simp),m2 _ (by simp),m2 _ (by simp),m2 _ (by simp),x1,x2 _ (by simp),x2 _ (by simp),x2 _ (by simp),x2 _ (by simp)⟩
structure zdl (a b:Int)(n:Nat)(m M:Int):Prop where
 lo:m=a^n∨m=b^n∨(a<0∧0<b∧m=0)
 l1:m≤a^n
 l2:m≤b^n
 l3:a<0→0<b→m≤0
 hi:M=a^n∨M=b^n
 h1:a^n≤M
 h2:b^n≤M
theorem zpow {n:Nat}(h:1≤n):(0:Int)^n=0:=by
 cases n with
 | zero=>omega
 | succ k=>rw[Vai,VaQ]
theorem zdl.of {a b g mn mx:Int}{n:Nat}(hg:1≤g){l:List Int}(hl:l=[a^n*g,b^n*g]∧¬ (a<0∧0<b)∨l=[a^n*g,b^n*g,0^n*g]∧a<0∧0<b)(hn:1≤n)(m1:mn∈l)(m2:∀y∈l,mn≤y)(x1:mx∈l)(x2:∀y∈l,y≤mx):
  ∃m M,zdl a b n m M∧mn=m*g∧mx=M*g:=by
 have can:∀ {x y:Int},x*g≤y*g→x≤y:=λ{x y} h=>Int.le_of_mul_le_mul_right h (by omega)
 rcases hl with ⟨rfl,hz⟩ | ⟨rfl,hz1,hz2⟩
 ·simp only[Vad,Vap,or_false] at m1 x1
  have a1:=m2 (a^n*g) (by simp)
  have a2:=m2 (b^n*g) (by simp)
  have b1:=x2 (a^n*g) (by simp)
  have b2:=x2 (b^n*g) (by simp)
  obtain⟨m,hm,em⟩:∃m,(m=a^n∨m=b^n)∧mn=m*g:=by
   rcases m1 with e | e
   ·exact⟨_,.inl rfl,e⟩
   ·exact⟨_,.inr rfl,e⟩
  obtain⟨M,hM,eM⟩:∃m,(m=a^n∨m=b^n)∧mx=m*g:=by
   rcases x1 with e | e
   ·exact⟨_,.inl rfl,e⟩
   ·exact⟨_,.inr rfl,e⟩
  subst em eM
  exact⟨m,M,⟨hm.elim .inl λe=>.inr (.inl e),can a1,can a2,λc1 c2=>absurd ⟨c1,c2⟩ hz,hM,can b1,can b2⟩,rfl,rfl⟩
 ·rw[zpow hn,Int.zero_mul] at m1 m2 x1 x2
  simp only[Vad,Vap,or_false] at m1 x1
  have a1:=m2 (a^n*g) (by simp)
  have a2:=m2 (b^n*g) (by simp)
  have a3:=m2 0 (by simp)
  have b1:=x2 (a^n*g) (by simp)
  have b2:=x2 (b^n*g) (by simp)
  have b3:=x2 0 (by simp)
  obtain⟨m,hm,em⟩:∃m,(m=a^n∨m=b^n∨m=0)∧mn=m*g:=by
   rcases m1 with e | e | e
   ·exact⟨_,.inl rfl,e⟩
   ·exact⟨_,.inr (.inl rfl),e⟩
   ·exact⟨0,.inr (.inr rfl),by rw[e,Int.zero_mul]⟩
  have bp:(0:Int)≤b^n:=Int.pow_nonneg (by omega)
  have bg:=Vav bp (show 0≤g by omega)
  obtain⟨M,hM,eM⟩:∃m,(m=a^n∨m=b^n)∧mx=m*g:=by
   rcases x1 with e | e | e
   ·exact⟨_,.inl rfl,e⟩
   ·exact⟨_,.inr rfl,e⟩
   ·exact⟨_,.inr rfl,by omega⟩
  subst em eM
  refine⟨m,M,⟨?_,can a1,can a2,λ_ _=>can (by rw[Int.zero_mul]; exact a3),hM,can b1,can b2⟩,rfl,rfl⟩
  rcases hm with e | e | e
  ·exact .inl e
  ·exact .inr (.inl e)
  ·exact .inr (.inr ⟨hz1,hz2,e⟩)
theorem zeR {m g:Int}{n:Nat}(hg:1≤g)(hn:1≤n):m*g/g^n=m/g^(n-1):=by
 obtain⟨k,rfl⟩:∃k,n=k+1:=⟨n-1,by omega⟩
 rw[Vai,Nat.add_sub_cancel,Int.mul_ediv_mul_of_pos_left _ _ (by omega)]
def mn4 (a b c d:Int):Int:=min (min (a*c) (a*d)) (min (b*c) (b*d))
def mx4 (a b c d:Int):Int:=max (max (a*c) (a*d)) (max (b*c) (b*d))
theorem zdV.eq {a b c d mn mx:Int}(h:zdV a b c d mn mx):mn=mn4 a b c d∧mx=mx4 a b c d:=by
 obtain⟨h0,h1,h2,h3,h4,h5,h6,h7,h8,h9⟩:=h
 unfold mn4 mx4
 omega
def zct (a b:Int)(n:Nat):Int:=if n%2=0∧a≤0∧0≤b then 0 else min (a^n) (b^n)
def zcJ (a b:Int)(n:Nat):Int:=max (a^n) (b^n)
theorem zkc {n:Nat}(h:n%2=0)(x:Int):0≤x^n:=by
 obtain⟨k,rfl⟩:∃k,n=k+k:=⟨n/2,by omega⟩
 rw[Int.pow_add]
 by_cases c:0≤x^k
 ·exact Vav c c
 ·have:=Vav (show 0≤-(x^k) by omega) (show 0≤-(x^k) by omega)
  rw[Int.neg_mul_neg] at this
  exact this
theorem zvW {n:Nat}(h:n%2=1){x:Int}(hx:x<0):x^n<0:=by
 obtain⟨k,rfl⟩:∃k,n=k+1:=⟨n-1,by omega⟩
 have z:=zkc (n:=k) (by omega) x
 have nz:∀k:Nat,x^k≠0:=λk=>by
  induction k with
  | zero=>rw[Int.pow_zero]; decide
  | succ k ih=>rw[Vai]; exact Int.mul_ne_zero ih (by omega)
 have nz:=nz k
 have:=Int.mul_pos (show 0<x^k by omega) (show 0 < -x by omega)
 rw[VaV] at this
 rw[Vai]
 omega
theorem zdl.eq {a b m M:Int}{n:Nat}(h:zdl a b n m M)(hn:1≤n):m=zct a b n∧M=zcJ a b n:=by
 obtain⟨h0,h1,h2,h3,h4,h5,h6⟩:=h
 refine⟨?_,by unfold zcJ; omega⟩
 unfold zct
 split
 ·rename_i c
  obtain⟨c1,c2,c3⟩:=c
  have e1:=zkc c1 a
  have e2:=zkc c1 b
  by_cases z:a<0∧0<b
  ·have:=h3 z.1 z.2
   omega
  ·have z':a=0∨b=0:=by omega
   rcases z' with rfl | rfl
   ·rw[zpow hn] at h1
    omega
   ·rw[zpow hn] at h2
    omega
 ·rename_i c
  have hz:a<0→0<b→m≠0:=λa1 b1 e=>by
   by_cases p:n%2=0
   ·exact c ⟨p,by omega,by omega⟩
   ·have:=zvW (n:=n) (by omega) a1
    omega
  omega
def Nd.fw (vs bs:List (Int×Int))(g:Int):Nd→Int×Int
 | .number t b=>(t*g/b,-(-(t*g)/b))
 | .unknown k=>gt bs k
 | .plus i j=>((gt vs i).1+(gt vs j).1,(gt vs i).2+(gt vs j).2)
 | .minus i j=>((gt vs i).1-(gt vs j).2,(gt vs i).2-(gt vs j).1)
 | .times i j=>(mn4 (gt vs i).1 (gt vs i).2 (gt vs j).1 (gt vs j).2/g,-(-mx4 (gt vs i).1 (gt vs i).2 (gt vs j).1 (gt vs j).2/g))
 | .power i n=>(zct (gt vs i).1 (gt vs i).2 n.toNat/g^(n.toNat-1),-(-zcJ (gt vs i).1 (gt vs i).2 n.toNat/g^(n.toNat-1)))
def Spn (B:Nat)(vs:List (Int×Int)):Prop:=∀p∈vs,p.1≤p.2∧Sz B p.1∧Sz B p.2
theorem Spn.at {B:Nat}{vs:List (Int×Int)}(h:Spn B vs){i:Int}(hi:inR vs.length i):(gt vs i).1≤(gt vs i).2∧Sz B (gt vs i).1∧Sz B (gt vs i).2:=h _ (zvd hi)
theorem Spn.mono {B C:Nat}{vs:List (Int×Int)}(h:Spn B vs)(hc:B≤C):Spn C vs:=λp hp=>⟨(h p hp).1,(h p hp).2.1.mono hc,(h p hp).2.2.mono hc⟩
theorem zof {m M g:Int}(hg:1≤g)(h:m≤M):m/g≤-(-M/g):=by
 have h1:=Int.ediv_mul_le m (show g≠0 by omega)
 have h2:=Int.ediv_mul_le (-M) (show g≠0 by omega)
 have:m/g*g≤-(-M/g)*g:=by rw[Vag]; omega
 exact Int.le_of_mul_le_mul_right this (by omega)
theorem zs7 (a b:Int)(n:Nat):zct a b n≤zcJ a b n:=by
 unfold zct zcJ
 split
 ·rename_i c
  have:=zkc c.1 a
  omega
 ·omega
theorem zur (a b c d:Int):mn4 a b c d≤mx4 a b c d:=by unfold mn4 mx4; omega
theorem Nd.fw_le {vs bs:List (Int×Int)}{g:Int}{B:Nat}(h1:Spn B vs)(h2:Spn B bs)(hg:1≤g):∀v:Nd,v.ok vs.length bs.length→(v.fw vs bs g).1≤(v.fw vs bs g).2
 | .number t b,ok=>zof ok.1.1 (VaH _)
 | .unknown k,ok=>(h2.at ok).1
 | .plus i j,ok=>by
  have a:=(h1.at ok.1).1
  have b:=(h1.at ok.2).1
  show (gt vs i).1+(gt vs j).1≤(gt vs i).2+(gt vs j).2
  omega
 | .minus i j,ok=>by
  have a:=(h1.at ok.1).1
  have b:=(h1.at ok.2).1
  show (gt vs i).1-(gt vs j).2≤(gt vs i).2-(gt vs j).1
  omega
 | .times i j,ok=>zof hg (zur _ _ _ _)
 | .power i n,ok=>zof (Vax (by omega)) (zs7 _ _ _)
theorem zdm {n:Nat}(v:Nd):Sco n v.d:=by
 cases v <;> exact .tup λd hd=>by
  simp only[Vad,Vap,or_false] at hd
  rcases hd with rfl | rfl | rfl <;> first | exact .str _ | exact .int _
theorem zsm {n:Nat}(p:Int×Int):Sco n (frD p):=zce
def zaT (p q:Int×Int):Option (Int×Int):=if (if q.2<p.2 then q.2 else p.2)<(if q.1 > p.1 then q.1 else p.1) then none else some (if q.1 > p.1 then q.1 else p.1,if q.2<p.2 then q.2 else p.2)
theorem zvn {p q r:Int×Int}(h:zaT p q=some r):r.1≤r.2:=by
 have go:∀lo hi:Int,(if hi<lo then none else some (lo,hi))=some r→r.1≤r.2:=λlo hi e=>by
  split at e
  ·cases e
  ·rename_i c
   cases e
   exact Int.not_lt.mp c
 exact go _ _ h
def ptD (q:Int×(Int×Int)):D:=.tup [.int q.1,.tup [.int q.2.1,.int q.2.2]]
theorem zoy {a b:TDS}{E:zcD}{dl:Ev}{S:Sto}(W:Ev→Sto→Prop)(ha:∀nx:Ev→Sto→Prop,(∀dl' S',W dl' S'→nx dl' S')→a { nx:=nx,rt:=E.rt,bk:=E.bk,ct:=E.ct } dl S)(hb:∀dl' S',W dl' S'→b E dl' S'):zcx a b E dl S:=ha _ hb
theorem zd2 {a b c:TDS}{E:zcD}{dl:Ev}{S:Sto}(W:Ev→Sto→Prop)(ha:∀nx:Ev→Sto→Prop,(∀dl' S',W dl' S'→nx dl' S')→zcx a b { nx:=nx,rt:=E.rt,bk:=E.bk,ct:=E.ct } dl S)(hb:∀dl' S',W dl' S'→c E dl' S'):zcx a (zcx b c) E dl S:=ha _ hb
theorem zoD {n:Nat}{m g:Int}(h:Sz n m)(hg:1≤g):Sz n (-(-m/g)):=(h.neg.div hg).neg
theorem zk3 {n:Nat}{a b:Int}(ha:Sz n a)(hb:Sz n b):Sz n (min a b):=by unfold Sz at *; omega
theorem zm7 {n:Nat}{a b:Int}(ha:Sz n a)(hb:Sz n b):Sz n (max a b):=by unfold Sz at *; omega
theorem ze5 (vs:List (Int×Int))(k:Nat)(p:Int×Int):(vs.map frD).set k (frD p)=(vs.set k p).map frD:=(List.map_set).symm
theorem zdJ {n:Nat}{i:Int}(h:inR n i):ixN n i=some i.toNat:=by
 obtain⟨h0,h1⟩:=h
 unfold ixN
 split <;> first | omega | rfl | (split <;> first | omega | rfl)
def Nd.wt (ws:List Nat):Nd→Nat
 | .number _ _=>1
 | .unknown _=>1
 | .plus i j=>ws.getD i.toNat 0+ws.getD j.toNat 0
 | .minus i j=>ws.getD i.toNat 0+ws.getD j.toNat 0
 | .times i j=>ws.getD i.toNat 0+ws.getD j.toNat 0
 | .power i n=>n.toNat*ws.getD i.toNat 0
structure zaO (q:Int)(ns:List Nd)(ws:List Nat):Prop where
 len:ws.length=ns.length
 ok:∀(k:Nat) (v:Nd),ns[k]?=some v→v.ok k q∧ws.getD k 0=v.wt ws∧1≤v.wt ws∧v.wt ws≤16
theorem zaO.nil (q:Int):zaO q [] []:=⟨rfl,λk v h=>by simp at h⟩
theorem zaO.w1 {q:Int}{ns:List Nd}{ws:List Nat}(h:zaO q ns ws){i:Int}(hi:inR ns.length i):1≤ws.getD i.toNat 0∧ws.getD i.toNat 0≤16:=by
 obtain⟨h0,h1⟩:=hi
 have hk:i.toNat<ns.length:=(by omega)
 obtain⟨_,e,a,b⟩:=h.ok i.toNat _ (Vam hk)
 omega
theorem zaO.w2 {q:Int}{ns:List Nd}{ws:List Nat}(h:zaO q ns ws):∀v:Nd,v.ok ns.length q→1≤v.wt ws∧v.wt ws≤96
 | .number _ _,_=>⟨Vab 1,show 1≤96 by decide⟩
 | .unknown _,_=>⟨Vab 1,show 1≤96 by decide⟩
 | .plus i j,ok=>by have a:=h.w1 ok.1; have b:=h.w1 ok.2; simp only[Nd.wt]; omega
 | .minus i j,ok=>by have a:=h.w1 ok.1; have b:=h.w1 ok.2; simp only[Nd.wt]; omega
 | .times i j,ok=>by have a:=h.w1 ok.1; have b:=h.w1 ok.2; simp only[Nd.wt]; omega
 | .power i n,ok=>by
  have a:=h.w1 ok.1
  have n2:=ok.2.1
  have n6:=ok.2.2
  have m1:=Nat.mul_le_mul (show 1≤n.toNat by omega) a.1
  have m2:=Nat.mul_le_mul (show n.toNat≤6 by omega) a.2
  simp only[Nd.wt]
  omega
theorem znG {ws:List Nat}{w:Nat}{k:Nat}(h:k<ws.length):(ws++[w]).getD k 0=ws.getD k 0:=by
 rw[VaA,VaA,Vas h]
theorem zpp {ws:List Nat}{w:Nat}{q:Int}{k:Nat}(hk:k≤ws.length):∀v:Nd,v.ok k q→v.wt (ws++[w])=v.wt ws:=by
 have e:∀i:Int,inR k i→(ws++[w]).getD i.toNat 0=ws.getD i.toNat 0:=λi hi=>znG (by have a:=hi.1; have b:=hi.2; omega)
 intro v ok
 cases v with
 | number _ _=>rfl
 | unknown _=>rfl
 | plus i j=>show _+_=_+_; rw[e i ok.1,e j ok.2]
 | minus i j=>show _+_=_+_; rw[e i ok.1,e j ok.2]
 | times i j=>show _+_=_+_; rw[e i ok.1,e j ok.2]
 | power i n=>show _*_=_*_; rw[e i ok.1]
theorem zaO.snoc {q:Int}{ns:List Nd}{ws:List Nat}(h:zaO q ns ws){v:Nd}(ok:v.ok ns.length q)(h16:v.wt ws≤16):zaO q (ns++[v]) (ws++[v.wt ws]):=by
 refine⟨by simp[h.len],λk u hu=>?_⟩
 by_cases hk:k<ns.length
 ·rw[Vas hk] at hu
  obtain⟨a,b,c,d⟩:=h.ok k u hu
  have e:=zpp (w:=v.wt ws) (q:=q) (k:=k) (by rw[h.len]; omega) u a
  rw[e,znG (by rw[h.len]; exact hk)]
  exact⟨a,b,c,d⟩
 ·have hl:=(Vac.mp hu).1
  simp only[Vay,VaK,List.length_nil] at hl
  have ek:k=ns.length:=by omega
  subst ek
  simp at hu
  subst hu
  have e:=zpp (w:=v.wt ws) (q:=q) (k:=ns.length) (by rw[h.len]; omega) v ok
  rw[e]
  refine⟨ok,?_,(h.w2 v ok).1,h16⟩
  rw[← h.len]
  simp
theorem zaO.take {q:Int}{ns:List Nd}{ws:List Nat}(h:zaO q ns ws)(n:Nat):zaO q (ns.take n) (ws.take n):=by
 have e:∀k:Nat,k<n→(ws.take n).getD k 0=ws.getD k 0:=λk hk=>by
  rw[VaA,VaA,List.getElem?_take_of_lt hk]
 refine⟨by simp[h.len],λk u hu=>?_⟩
 have hl:=(Vac.mp hu).1
 rw[Var] at hl
 have hk:k<n:=by omega
 rw[List.getElem?_take_of_lt hk] at hu
 obtain⟨a,b,c,d⟩:=h.ok k u hu
 have e2:u.wt (ws.take n)=u.wt ws:=by
  have f:∀i:Int,inR k i→(ws.take n).getD i.toNat 0=ws.getD i.toNat 0:=λi hi=>e _ (by have:=hi.1; have:=hi.2; omega)
  cases u with
  | number _ _=>rfl
  | unknown _=>rfl
  | plus i j=>show _+_=_+_; rw[f i a.1,f j a.2]
  | minus i j=>show _+_=_+_; rw[f i a.1,f j a.2]
  | times i j=>show _+_=_+_; rw[f i a.1,f j a.2]
  | power i m=>show _*_=_*_; rw[f i a.1]
 rw[e2,e k hk]
 exact⟨a,b,c,d⟩
def zaC (bs:List (Int×Int))(g:Int)(ns:List Nd):List (Int×Int):=ns.foldl (λacc v=>acc++[v.fw acc bs g]) []
theorem zkJ (bs:List (Int×Int))(g:Int)(ns:List Nd)(v:Nd):zaC bs g (ns++[v])=zaC bs g ns++[v.fw (zaC bs g ns) bs g]:=by
 unfold zaC
 rw[List.foldl_append]
 rfl
theorem zbL {α:Type}{xs:List α}{k:Nat}{x:α}(h:xs[k]?=some x):xs.take (k+1)=xs.take k++[x]:=by rw[List.take_succ,h]; rfl
theorem zc5 (bs:List (Int×Int))(g:Int)(ns:List Nd):(zaC bs g ns).length=ns.length:=by
 have z:∀k,k≤ns.length→(zaC bs g (ns.take k)).length=k:=λk=>by
  induction k with
  | zero=>intro _; rfl
  | succ k ih=>
   intro hk
   rw[zbL (Vam (show k<ns.length by omega)),zkJ]
   simp[ih (by omega)]
 have:=z ns.length (Vab _)
 rwa [VaM] at this
def SzW (ws:List Nat)(vs:List (Int×Int)):Prop:=∀(k:Nat) (p:Int×Int),vs[k]?=some p→p.1≤p.2∧Sz (60*ws.getD k 0-1) p.1∧Sz (60*ws.getD k 0-1) p.2
theorem SzW.at {ws:List Nat}{vs:List (Int×Int)}(h:SzW ws vs){i:Int}(hi:inR vs.length i):(gt vs i).1≤(gt vs i).2∧Sz (60*ws.getD i.toNat 0-1) (gt vs i).1∧Sz (60*ws.getD i.toNat 0-1) (gt vs i).2:=by
 obtain⟨h0,h1⟩:=hi
 have hk:i.toNat<vs.length:=by omega
 have e:gt vs i=vs[i.toNat]:=by simp[gt,hk]
 rw[e]
 exact h _ _ (Vam hk)
theorem fw_w {ws:List Nat}{vs bs:List (Int×Int)}{g:Int}(hs:SzW ws vs)(hb:Spn 51 bs)(hg:1≤g∧g≤1000000)(hw:∀i:Int,inR vs.length i→1≤ws.getD i.toNat 0):∀v:Nd,v.ok vs.length bs.length→Sz (60*v.wt ws-1) (v.fw vs bs g).1∧Sz (60*v.wt ws-1) (v.fw vs bs g).2
 | .number t b,ok=>by
  have z:Sz 52 (t*g):=(Sz.of (n:=31) (10^9) ok.2.2).mul (Sz.of (n:=21) (10^6) (show g.natAbs≤_ by omega))
  exact⟨(z.div ok.1.1).mono (show 52≤60*1-1 by decide),(zoD z ok.1.1).mono (show 52≤60*1-1 by decide)⟩
 | .unknown k,ok=>⟨(hb.at ok).2.1.mono (show 51≤60*1-1 by decide),(hb.at ok).2.2.mono (show 51≤60*1-1 by decide)⟩
 | .plus i j,ok=>by
  have a:=hs.at ok.1
  have b:=hs.at ok.2
  have p:=hw i ok.1
  have q:=hw j ok.2
  exact⟨(a.2.1.add b.2.1).mono (by simp only[Nd.wt]; omega),(a.2.2.add b.2.2).mono (by simp only[Nd.wt]; omega)⟩
 | .minus i j,ok=>by
  have a:=hs.at ok.1
  have b:=hs.at ok.2
  have p:=hw i ok.1
  have q:=hw j ok.2
  exact⟨(a.2.1.sub b.2.2).mono (by simp only[Nd.wt]; omega),(a.2.2.sub b.2.1).mono (by simp only[Nd.wt]; omega)⟩
 | .times i j,ok=>by
  have a:=hs.at ok.1
  have b:=hs.at ok.2
  have p:=hw i ok.1
  have q:=hw j ok.2
  have le:∀ {x y:Int},Sz (60*ws.getD i.toNat 0-1) x→Sz (60*ws.getD j.toNat 0-1) y→Sz (60*Nd.wt ws (.times i j)-1) (x*y):=λh1 h2=>(h1.mul h2).mono (by simp only[Nd.wt]; omega)
  have l:=zk3 (zk3 (le a.2.1 b.2.1) (le a.2.1 b.2.2)) (zk3 (le a.2.2 b.2.1) (le a.2.2 b.2.2))
  have u:=zm7 (zm7 (le a.2.1 b.2.1) (le a.2.1 b.2.2)) (zm7 (le a.2.2 b.2.1) (le a.2.2 b.2.2))
  exact⟨l.div hg.1,zoD u hg.1⟩
 | .power i n,ok=>by
  have a:=hs.at ok.1
  have p:=hw i ok.1
  have n2:=ok.2.1
  have gp:(1:Int)≤g^(n.toNat-1):=Vax (by omega)
  have hn:(60*ws.getD i.toNat 0-1)*n.toNat+1≤60*Nd.wt ws (.power i n)-1:=by
   simp only[Nd.wt]
   rw[Nat.sub_mul,Nat.one_mul]
   have e:60*ws.getD i.toNat 0*n.toNat=60*(n.toNat*ws.getD i.toNat 0):=by rw[Nat.mul_assoc,Nat.mul_comm (ws.getD i.toNat 0)]
   have m1:=Nat.mul_le_mul (Vab n.toNat) p
   omega
  have p1:Sz (60*Nd.wt ws (.power i n)-1) ((gt vs i).1^n.toNat):=(a.2.1.pow _).mono hn
  have p2:Sz (60*Nd.wt ws (.power i n)-1) ((gt vs i).2^n.toNat):=(a.2.2.pow _).mono hn
  have l:Sz (60*Nd.wt ws (.power i n)-1) (zct (gt vs i).1 (gt vs i).2 n.toNat):=by
   unfold zct
   split
   ·exact(Sz.of (n:=1) 0 (by decide)).mono (by have:=Nat.mul_le_mul (show 1≤n.toNat by omega) p; simp only[Nd.wt]; omega)
   ·exact zk3 p1 p2
  exact⟨l.div gp,zoD (zm7 p1 p2) gp⟩
theorem Spn.of_w {ws:List Nat}{vs:List (Int×Int)}(h:SzW ws vs)(hw:∀k:Nat,k<vs.length→ws.getD k 0≤16):Spn 1000 vs:=λp hp=>by
 obtain⟨k,hk,e⟩:=VaL.mp hp
 obtain⟨a,b,c⟩:=h k p (by rw[Vam hk,e])
 have:=hw k hk
 exact⟨a,b.mono (by omega),c.mono (by omega)⟩
theorem zta {q:Int}{ns:List Nd}{ws:List Nat}{bs:List (Int×Int)}{g:Int}(h:zaO q ns ws)(hq:q=bs.length)(hb:Spn 51 bs)(hg:1≤g∧g≤1000000):∀k,k≤ns.length→SzW ws (zaC bs g (ns.take k)):=λk=>by
 induction k with
 | zero=>intro _ i p hp; simp[zaC] at hp
 | succ k ih=>
  intro hk
  have hv:=Vam (show k<ns.length by omega)
  have s:=ih (by omega)
  have ln:(zaC bs g (ns.take k)).length=k:=by rw[zc5,Var]; omega
  obtain⟨ok,e,_,_⟩:=h.ok k _ hv
  rw[zbL hv,zkJ]
  have okv:(ns[k]).ok (zaC bs g (ns.take k)).length bs.length:=by rw[ln,← hq]; exact ok
  have w1:∀i:Int,inR (zaC bs g (ns.take k)).length i→1≤ws.getD i.toNat 0:=λi hi=>(h.w1 (i:=i) (by rw[ln] at hi; exact⟨hi.1,by have:=hi.2; omega⟩)).1
  have z:=fw_w s hb hg w1 ns[k] okv
  have l:((ns[k]).fw (zaC bs g (ns.take k)) bs g).1≤((ns[k]).fw (zaC bs g (ns.take k)) bs g).2:=by
   refine Nd.fw_le (B:=6000) ?_ (hb.mono (by decide)) hg.1 _ okv
   intro p hp
   obtain⟨i,hi,ei⟩:=VaL.mp hp
   obtain⟨a,b,c⟩:=s i p (by rw[Vam hi,ei])
   have:=(h.w1 (i:=i) ⟨by omega,by rw[ln] at hi; omega⟩).2
   rw[Vat] at this
   exact⟨a,b.mono (by omega),c.mono (by omega)⟩
  intro i p hp
  by_cases hi:i<k
  ·rw[Vas (by rw[ln]; exact hi)] at hp
   exact s i p hp
  ·have hl:=(Vac.mp hp).1
   simp only[Vay,VaK,List.length_nil,ln] at hl
   have ei:i=k:=by omega
   subst ei
   rw[VaP (by rw[ln]; exact Vab _),ln,Nat.sub_self] at hp
   simp at hp
   subst hp
   rw[e]
   exact⟨l,z⟩
theorem zd7 {q:Int}{ns:List Nd}{ws:List Nat}{bs:List (Int×Int)}{g:Int}(h:zaO q ns ws)(hq:q=bs.length)(hb:Spn 51 bs)(hg:1≤g∧g≤1000000)(k:Nat)(hk:k≤ns.length):Spn 1000 (zaC bs g (ns.take k)):=
 Spn.of_w (zta h hq hb hg k hk) λi hi=>by
  rw[zc5,Var] at hi
  have:=(h.w1 (i:=i) ⟨by omega,by omega⟩).2
  rwa [Vat] at this
theorem zby {S T:Sto}{n:Nat}{o:Ob}(h:Pre S T)(hn:S.length≤n):Pre S (T.set n o):=λk u e=>by
 have hk:=(Vac.mp e).1
 rw[VaO (by omega)]
 exact h k u e
theorem zbz {S T:Sto}(h:Pre S T)(U:Sto):Pre S (T++U):=λk u e=>zaH (h k u e)
theorem zqU {to te:TDE}{dl:Ev}{S S1 S2:Sto}{Q:DK}{n:Nat}{xs:List D}{y:D}(hto:∀K:DK,K (.ref n) S1→to dl S K)(h:S1[n]?=some (.lst xs))(hte:∀K:DK,K y S2→te dl S1 K)(h2:S2[n]?=some (.lst xs))(hl:xs.length<1000)(hq:Q .non (S2.set n (.lst (xs++[y])))):zfv to te dl S Q:=by
 unfold zfv
 refine hto _ ?_
 simp only[h]
 refine hte _ ?_
 simp only[h2,if_pos hl]
 exact hq
theorem zob (u v:Nd):∃b,eqN 1 u.d v.d=some b:=by cases u <;> cases v <;> exact⟨_,rfl⟩
theorem zqF (u:Nd):eqN 1 u.d u.d=some true:=by cases u <;> simp[Nd.d,eqN,L3.eqT,eqL,eqF]
theorem ziv (v:Nd):∀ns:List Nd,∃b,zbS (eqN 1) (ns.map Nd.d) v.d=some b
 | []=>⟨false,rfl⟩
 | u::us=>by
  obtain⟨b,e⟩:=zob u v
  obtain⟨c,e2⟩:=ziv v us
  refine⟨b||c,?_⟩
  show (match eqN 1 u.d v.d,zbS (eqN 1) (us.map Nd.d) v.d with | some b,some c=>some (b||c) | _,_=>none)=_
  rw[e,e2]
theorem zn1:∀ns:List Nd,eqL (eqN 1) (ns.map Nd.d) (ns.map Nd.d)=some true
 | []=>rfl
 | u::us=>by
  show (match eqN 1 u.d u.d,eqL (eqN 1) (us.map Nd.d) (us.map Nd.d) with | some b,some c=>some (b&&c) | _,_=>none)=_
  rw[zqF,zn1 us]
  rfl
theorem zo5 {v:Nd}{ns:List Nd}{n:Nat}{S:Sto}{Q:DK}(h:S[n]?=some (.lst (ns.map Nd.d)))(hq:∀b:Bool,Q (.bl b) S):zb0 (wIn 1 true) v.d (.ref n) S Q:=by
 obtain⟨b,e⟩:=ziv v ns
 rw[zcv]
 unfold wIn
 simp only[za9 h rfl,zat,e]
 exact hq _
def wtD (w:Nat):D:=.int (w:Int)
theorem zed {ws:List Nat}{i:Int}(h:inR ws.length i):atI (ws.map wtD) i=some (.int ((ws.getD i.toNat 0:Nat):Int)):=by
 obtain⟨h0,h1⟩:=h
 have hk:i.toNat<ws.length:=by omega
 have z:=zdq (xs:=ws.map wtD) (j:=i.toNat) (v:=wtD (ws.getD i.toNat 0)) (by rw[Vae,Vam hk]; simp[hk])
 rw[show ((i.toNat:Nat):Int)=i by omega] at z
 exact z
theorem zv0 (q:Nat):zaO q ((List.range q).map λ(k:Nat)=>Nd.unknown (k:Int)) ((List.range q).map λ_=>1):=by
 refine⟨by simp,λk v hv=>?_⟩
 have hl:=(Vac.mp hv).1
 simp only[Vaa,List.length_range] at hl
 rw[Vae,List.getElem?_range hl] at hv
 cases hv
 refine⟨⟨by omega,by omega⟩,?_,Vab _,show 1≤16 by decide⟩
 simp[Nd.wt,hl]
theorem zrr {u v:Nd}(h:eqN 1 u.d v.d=some true):u=v:=by
 cases u <;> cases v <;> simp[Nd.d,eqN,L3.eqT,eqL,eqF] at h
 all_goals first | (obtain⟨rfl,rfl⟩:=h; rfl) | (subst h; rfl) | exact absurd h.1 (by decide)
theorem zfZ (v:Nd):∀ns:List Nd,∃o:Option Nat,zc9 (eqN 1) (ns.map Nd.d) v.d=some o∧zbS (eqN 1) (ns.map Nd.d) v.d=some o.isSome∧∀j,o=some j→ns[j]?=some v
 | []=>⟨none,rfl,rfl,λj h=>by cases h⟩
 | u::us=>by
  obtain⟨b,e⟩:=zob u v
  obtain⟨o,h1,h2,h3⟩:=zfZ v us
  have f1:zc9 (eqN 1) ((u::us).map Nd.d) v.d=(match eqN 1 u.d v.d,zc9 (eqN 1) (us.map Nd.d) v.d with | some true,some _=>some (some 0) | some false,some o=>some (o.map (·+1)) | _,_=>none):=rfl
  have f2:zbS (eqN 1) ((u::us).map Nd.d) v.d=(match eqN 1 u.d v.d,zbS (eqN 1) (us.map Nd.d) v.d with | some b,some c=>some (b||c) | _,_=>none):=rfl
  rw[f1,f2,e,h1,h2]
  cases b with
  | true=>exact⟨some 0,rfl,rfl,λj hj=>by
    cases hj
    rw[zrr e]
    rfl⟩
  | false=>exact⟨o.map (·+1),rfl,by cases o <;> rfl,λj hj=>by
    cases o with
    | none=>cases hj
    | some i=>
     cases hj
     exact h3 i rfl⟩
theorem zpJ {v:Nd}{ns:List Nd}{n j:Nat}{to:TDE}{t:TDA}{dl:Ev}{S:Sto}{Q:DK}(hto:∀K:DK,K (.ref n) S→to dl S K)(ht:∀K:List D→Sto→Prop,K [v.d] S→t dl S K)(h:S[n]?=some (.lst (ns.map Nd.d)))(e:zc9 (eqN 1) (ns.map Nd.d) v.d=some (some j))(hq:Q (.int (j:Int)) S):zig 1 to t dl S Q:=by
 unfold zig
 refine hto _ ⟨by rw[za9 h rfl]; rfl,ht _ ?_⟩
 unfold ziA
 simp only[za9 h rfl,zat,e]
 exact hq
theorem zom {k m q:Int}(h:k≤m):∀ {v:Nd},v.ok k q→v.ok m q:=λ{v} ok=>by
 have z:∀i:Int,inR k i→inR m i:=λi hi=>⟨hi.1,by have:=hi.2; omega⟩
 cases v with
 | number _ _=>exact ok
 | unknown _=>exact ok
 | plus i j=>exact⟨z _ ok.1,z _ ok.2⟩
 | minus i j=>exact⟨z _ ok.1,z _ ok.2⟩
 | times i j=>exact⟨z _ ok.1,z _ ok.2⟩
 | power i n=>exact⟨z _ ok.1,ok.2⟩
theorem gt_at {vs:List (Int×Int)}{k:Nat}{p:Int×Int}(h:vs[k]?=some p):gt vs (k:Int)=p:=by
 unfold gt
 rw[VaA,Vat,h]
 rfl
theorem zpP {v:Nd}{ns:List Nd}{n:Nat}{S:Sto}{Q:DK}{o:Option Nat}(h:S[n]?=some (.lst (ns.map Nd.d)))(e:zbS (eqN 1) (ns.map Nd.d) v.d=some o.isSome)(hq:Q (.bl (!o.isSome)) S):zb0 (wIn 1 true) v.d (.ref n) S Q:=by
 rw[zcv]
 unfold wIn
 simp only[za9 h rfl,zat,e]
 exact hq
theorem any_some {v:Nd}:∀ {ns:List Nd} {k:Nat},ns[k]?=some v→zbS (eqN 1) (ns.map Nd.d) v.d≠some (none:Option Nat).isSome
 | [],k,h=>by simp at h
 | u::us,0,h=>by
  have e:u=v:=by simpa using h
  subst e
  show (match eqN 1 u.d u.d,zbS (eqN 1) (us.map Nd.d) u.d with | some b,some c=>some (b||c) | _,_=>none)≠_
  obtain⟨c,hc⟩:=ziv u us
  rw[zqF,hc]
  simp
 | u::us,k+1,h=>by
  have ih:=any_some (ns:=us) (k:=k) (by simpa using h)
  show (match eqN 1 u.d v.d,zbS (eqN 1) (us.map Nd.d) v.d with | some b,some c=>some (b||c) | _,_=>none)≠_
  obtain⟨b,hb⟩:=zob u v
  obtain⟨c,hc⟩:=ziv v us
  rw[hc] at ih
  rw[hb,hc]
  cases c
  ·exact absurd rfl ih
  ·simp
theorem zxw {ws us:List Nat}{i:Nat}(h:i<ws.length):(ws++us).getD i 0=ws.getD i 0:=by rw[VaA,VaA,Vas h]
structure Gr (q a c:Nat)(S:Sto)(ns:List Nd)(ws:List Nat)(T:Sto)(ns':List Nd)(ws':List Nat):Prop where
 net:zaO q ns' ws'
 pn:∃ms,ns'=ns++ms∧ms.length≤c
 pw:∃us,ws'=ws++us
 nd:T[a]?=some (.lst (ns'.map Nd.d))
 len:S.length≤T.length
 kp:∀(x:Nat) (o:Ob),x≠a→S[x]?=some o→T[x]?=some o
theorem Gr.refl {q a:Nat}{S:Sto}{ns:List Nd}{ws:List Nat}(net:zaO q ns ws)(h:S[a]?=some (.lst (ns.map Nd.d))):Gr q a 0 S ns ws S ns ws:=⟨net,⟨[],by simp,by simp⟩,⟨[],by simp⟩,h,Vab _,λ_ _ _ e=>e⟩
theorem Gr.trans {q a c d:Nat}{S T U:Sto}{ns ns' ns2:List Nd}{ws ws' ws2:List Nat}(h:Gr q a c S ns ws T ns' ws')(k:Gr q a d T ns' ws' U ns2 ws2):Gr q a (c+d) S ns ws U ns2 ws2:=by
 obtain⟨n1,⟨ms,rfl,l1⟩,⟨us,rfl⟩,a1,e1,k1⟩:=h
 obtain⟨n2,⟨ms2,rfl,l2⟩,⟨us2,rfl⟩,a2,e2,k2⟩:=k
 exact⟨n2,⟨ms++ms2,by rw[List.append_assoc],by rw[Vay]; omega⟩,⟨us++us2,by rw[List.append_assoc]⟩,a2,by omega,λx o hx e=>k2 x o hx (k1 x o hx e)⟩
theorem Gr.mono {q a c d:Nat}{S T:Sto}{ns ns':List Nd}{ws ws':List Nat}(h:Gr q a c S ns ws T ns' ws')(l:c≤d):Gr q a d S ns ws T ns' ws':=by
 obtain⟨n1,⟨ms,e,l1⟩,u,a1,e1,k1⟩:=h
 exact⟨n1,⟨ms,e,by omega⟩,u,a1,e1,k1⟩
theorem Gr.ln {q a c:Nat}{S T:Sto}{ns ns':List Nd}{ws ws':List Nat}(h:Gr q a c S ns ws T ns' ws'):ns.length≤ns'.length∧ns'.length≤ns.length+c:=by
 obtain⟨n1,⟨ms,rfl,l1⟩,_⟩:=h
 rw[Vay]
 omega
theorem Gr.wt {q a c:Nat}{S T:Sto}{ns ns':List Nd}{ws ws':List Nat}(h:Gr q a c S ns ws T ns' ws')(net:zaO q ns ws){i:Nat}(hi:i<ns.length):ws'.getD i 0=ws.getD i 0:=by
 obtain⟨us,rfl⟩:=h.pw
 exact zxw (by rw[net.len]; exact hi)
def Ans (lo hi y0 y1 p q:Int):Prop:=(p*y0≤hi*q∨p*y1≤hi*q)∧(lo*q≤p*y0∨lo*q≤p*y1)
structure za1 (x0 x1:Int)(V Sp:Int→Int→Prop)(L U:Int):Prop where
 all:∀p q,0<q→x0*q≤p→p≤x1*q→V p q→L*q≤p∧p≤U*q
 lo:∃p q,Sp p q∧0<q∧x0*q≤p∧p≤x1*q∧V p q∧p<(L+1)*q
 hi:∃p q,Sp p q∧0<q∧x0*q≤p∧p≤x1*q∧V p q∧(U-1)*q<p
theorem dl (m:Int){g:Int}(hg:0<g):m/g*g≤m∧m<(m/g+1)*g:=by
 have h1:=Int.emod_add_mul_ediv m g
 have h2:=Int.emod_nonneg m (show g≠0 by omega)
 have h3:=Int.emod_lt_of_pos m hg
 have e:(m/g+1)*g=g*(m/g)+g:=by grind
 have e2:m/g*g=g*(m/g):=VaU _ _
 omega
theorem dh (m:Int){g:Int}(hg:0<g):m≤-(-m/g)*g∧(-(-m/g)-1)*g<m:=by
 obtain⟨h1,h2⟩:=dl (-m) hg
 have e1:-(-m/g)*g=-(-m/g*g):=by rw[Vag]
 have e2:(-(-m/g)-1)*g=-((-m/g+1)*g):=by grind
 omega
theorem mlr {a b c:Int}(h:a≤b)(hc:0≤c):a*c≤b*c:=Int.mul_le_mul_of_nonneg_right h hc
theorem mll {a b c:Int}(h:a≤b)(hc:0≤c):c*a≤c*b:=Int.mul_le_mul_of_nonneg_left h hc
theorem can {a b c:Int}(h:a*c≤b*c)(hc:0<c):a≤b:=Int.le_of_mul_le_mul_right h hc
structure Low (x0 x1 lo hi lb hb L:Int):Prop where
 all:∀p q,0<q→x0*q≤p→lo*q≤p*lb→L*q≤p
 ex:∃p q,(p=x0∧q=1∨p=lo∧q=lb)∧0<q∧x0*q≤p∧p≤x1*q∧(lo*q≤p*lb∧p*hb≤hi*q)∧p<(L+1)*q
theorem zhw {x0 x1 lo hi lb hb L f:Int}(hx:x0≤x1)(hl:0≤lb)(hh:0≤hb)(l0:lb=0→lo≤0)(h0:hb=0→0≤hi)(cr:lo*hb≤hi*lb)(ef:lb≠0→f=lo/lb)(hc:lb≠0→-(-lo/lb)≤x1)(hr:hb≠0→x0≤hi/hb)
  (eL:L=x0∧(lb=0∨f≤x0)∨lb≠0∧L=f∧x0≤f):Low x0 x1 lo hi lb hb L:=by
 have xh:x0*hb≤hi:=by
  by_cases z:hb=0
  ·subst z; rw[VaQ]; exact h0 rfl
  ·exact VaZ (mlr (hr z) hh) (dl hi (by omega)).1
 refine⟨λp q hq h1 h2=>?_,?_⟩
 ·rcases eL with ⟨rfl,_⟩ | ⟨z,rfl,_⟩
  ·exact h1
  ·have e:=ef z
   subst e
   have d:=mlr (dl lo (show 0<lb by omega)).1 (Vaf hq)
   have e:lo/lb*lb*q=lo/lb*q*lb:=by grind
   exact can (show lo/lb*q*lb≤p*lb by omega) (by omega)
 ·by_cases z:lb=0
  ·refine⟨x0,1,.inl ⟨rfl,rfl⟩,by omega,by omega,by omega,⟨?_,by omega⟩,?_⟩
   ·have:=l0 z
    subst z; rw[VaQ]; omega
   ·rcases eL with ⟨rfl,_⟩ | ⟨z',_⟩
    ·omega
    ·exact absurd z z'
  ·have lp:0<lb:=by omega
   obtain⟨d1,d2⟩:=dl lo lp
   have e:=ef z
   subst e
   have hL:lo/lb≤L∧x0≤L:=by
    rcases eL with ⟨rfl,z' | z'⟩ | ⟨_,rfl,z'⟩ <;> omega
   by_cases c:lo≤x0*lb
   ·exact⟨x0,1,.inl ⟨rfl,rfl⟩,by omega,by omega,by omega,⟨by omega,by omega⟩,by omega⟩
   ·refine⟨lo,lb,.inr ⟨rfl,rfl⟩,lp,by omega,?_,⟨VaH _,cr⟩,?_⟩
    ·exact VaZ (dh lo lp).1 (mlr (hc z) hl)
    ·exact Int.lt_of_lt_of_le d2 (mlr (by omega) hl)
theorem zpI {x1 lo lb p q:Int}(hq:0<q)(lp:0<lb)(h:x1 < -(-lo/lb))(hp:p≤x1*q)(hv:lo*q≤p*lb):False:=by
 have d:=(dh lo lp).2
 have h1:x1*lb≤(-(-lo/lb)-1)*lb:=mlr (by omega) (Vaf lp)
 have h2:p*lb≤x1*q*lb:=mlr hp (Vaf lp)
 have h3:x1*lb*q<lo*q:=Int.mul_lt_mul_of_pos_right (by omega) hq
 have e:x1*lb*q=x1*q*lb:=by grind
 omega
theorem zfO {lo hi c d p q:Int}(h0:0≤c)(hcd:c≤d)(hd:0<d)(hq:0<q):Ans lo hi c d p q↔lo*q≤p*(if lo > 0 then d else c)∧p*(if hi<0 then d else c)≤hi*q:=by
 unfold Ans
 have sl:lo > 0→0<lo*q:=λh=>Int.mul_pos h hq
 have sl':¬ lo > 0→lo*q≤0:=λh=>by
  have:=mlr (show lo≤0 by omega) (Vaf hq)
  omega
 have sh:hi<0→hi*q<0:=λh=>by
  have:=Int.mul_lt_mul_of_pos_right h hq
  omega
 have sh':¬ hi<0→0≤hi*q:=λh=>Vav (by omega) (Vaf hq)
 by_cases z:0≤p
 ·have a1:=mll hcd z
  have a2:=Vav z h0
  split <;> split <;> omega
 ·have b1:=mll hcd (show 0≤-p by omega)
  have b2:=Vav (show 0≤-p by omega) h0
  simp only[Vag] at b1 b2
  split <;> split <;> omega
structure zbY (lo hi x0 x1 c d:Int):Prop where
 hz:lo≤hi
 hx:x0≤x1
 h0:0≤c
 hcd:c≤d
 hd:0<d
abbrev za3 (lo c d:Int):Int:=if lo > 0 then d else c
abbrev zaX (hi c d:Int):Int:=if hi<0 then d else c
section
variable {lo hi x0 x1 c d:Int}
theorem zbY.cross (h:zbY lo hi x0 x1 c d):lo*zaX hi c d≤hi*za3 lo c d:=by
 obtain⟨hz,hx,h0,hcd,hd⟩:=h
 unfold zaX za3
 split <;> split
 ·omega
 ·have a1:=mlr hz h0
  have a2:=mll hcd (show 0≤-lo by omega)
  simp only[Vag] at a2
  omega
 ·have a1:=mlr hz h0
  have a2:=mll hcd (show 0≤hi by omega)
  omega
 ·exact mlr hz h0
theorem zbY.l (h:zbY lo hi x0 x1 c d):0≤za3 lo c d∧(za3 lo c d=0→lo≤0):=by
 obtain⟨hz,hx,h0,hcd,hd⟩:=h
 unfold za3
 split <;> omega
theorem zbY.h (h:zbY lo hi x0 x1 c d):0≤zaX hi c d∧(zaX hi c d=0→0≤hi):=by
 obtain⟨hz,hx,h0,hcd,hd⟩:=h
 unfold zaX
 split <;> omega
theorem zbY.none1 (h:zbY lo hi x0 x1 c d)(n:za3 lo c d≠0)(e:x1 < -(-lo/za3 lo c d)):∀p q,0<q→x0*q≤p→p≤x1*q→¬ Ans lo hi c d p q:=λp q hq _ h2 hv=>
 zpI hq (by have:=h.l.1; omega) e h2 ((zfO h.h0 h.hcd h.hd hq).mp hv).1
theorem zbY.none2 (h:zbY lo hi x0 x1 c d)(n:zaX hi c d≠0)(e:hi/zaX hi c d<x0):∀p q,0<q→x0*q≤p→p≤x1*q→¬ Ans lo hi c d p q:=λp q hq h1 _ hv=>by
 have v:=((zfO h.h0 h.hcd h.hd hq).mp hv).2
 refine zpI (x1:=-x0) (lo:=-hi) (lb:=zaX hi c d) (p:=-p) hq (by have:=h.h.1; omega) (by rw[Va0]; omega) (by rw[Vag]; omega) ?_
 show -hi*q≤-p*zaX hi c d
 rw[Vag,Vag]
 exact Int.neg_le_neg v
def zb5 (lo hi x0 x1 c d p q:Int):Prop:=(p=x0∧q=1)∨(p=x1∧q=1)∨((p=lo∨p=hi)∧(q=c∨q=d))
theorem zbY.some (h:zbY lo hi x0 x1 c d){L U:Int}(hc:za3 lo c d≠0→-(-lo/za3 lo c d)≤x1)(hr:zaX hi c d≠0→x0≤hi/zaX hi c d)
  (eL:L=x0∧(za3 lo c d=0∨lo/za3 lo c d≤x0)∨za3 lo c d≠0∧L=lo/za3 lo c d∧x0≤lo/za3 lo c d)
  (eU:U=x1∧(zaX hi c d=0∨x1≤-(-hi/zaX hi c d))∨zaX hi c d≠0∧U=-(-hi/zaX hi c d)∧-(-hi/zaX hi c d)≤x1):za1 x0 x1 (Ans lo hi c d) (zb5 lo hi x0 x1 c d) L U:=by
 obtain⟨l1,l2⟩:=h.l
 obtain⟨h1,h2⟩:=h.h
 have cr:=h.cross
 have A:=zhw h.hx l1 h1 l2 h2 cr (λ_=>rfl) hc hr eL
 have B:=zhw (x0:=-x1) (x1:=-x0) (lo:=-hi) (hi:=-lo) (lb:=zaX hi c d) (hb:=za3 lo c d) (L:=-U) (f:=-hi/zaX hi c d) (by have:=h.hx; omega) h1 l1 (λz=>by have:=h2 z; omega) (λz=>by have:=l2 z; omega)
  (by rw[Vag,Vag]; exact Int.neg_le_neg cr) (λ_=>rfl) (λz=>by have:=hr z; rw[Va0]; omega) (λz=>by have:=hc z; omega) (by omega)
 refine⟨λp q hq p1 p2 hv=>?_,?_,?_⟩
 ·obtain⟨v1,v2⟩:=(zfO h.h0 h.hcd h.hd hq).mp hv
  refine⟨A.all p q hq p1 v1,?_⟩
  have:=B.all (-p) q hq (by rw[Vag]; omega) (by rw[Vag,Vag]; exact Int.neg_le_neg v2)
  rw[Vag] at this
  omega
 ·obtain⟨p,q,hs,hq,p1,p2,hv,t⟩:=A.ex
  refine⟨p,q,?_,hq,p1,p2,(zfO h.h0 h.hcd h.hd hq).mpr hv,t⟩
  unfold zb5
  unfold za3 at hs
  split at hs <;> omega
 ·obtain⟨p,q,hs,hq,p1,p2,hv,t⟩:=B.ex
  rw[Vag] at p1 p2
  have hv':lo*q≤-p*za3 lo c d∧-p*zaX hi c d≤hi*q:=by
   simp only[Vag] at hv ⊢
   exact⟨by omega,by omega⟩
  refine⟨-p,q,?_,hq,by omega,by omega,(zfO h.h0 h.hcd h.hd hq).mpr hv',?_⟩
  ·unfold zb5
   unfold zaX at hs
   split at hs <;> omega
  ·have e:(U-1)*q=-((-U+1)*q):=by grind
   omega
end
theorem za1.mono {x0 x1 L U:Int}{V V' Sp Sp':Int→Int→Prop}(h:za1 x0 x1 V Sp L U)(hv:∀p q,0<q→(V p q↔V' p q))(hs:∀p q,0<q→Sp p q→Sp' p q):za1 x0 x1 V' Sp' L U:=by
 refine⟨λp q hq h1 h2 v=>h.all p q hq h1 h2 ((hv p q hq).mpr v),?_,?_⟩
 ·obtain⟨p,q,s,hq,h1,h2,v,t⟩:=h.lo
  exact⟨p,q,hs p q hq s,hq,h1,h2,(hv p q hq).mp v,t⟩
 ·obtain⟨p,q,s,hq,h1,h2,v,t⟩:=h.hi
  exact⟨p,q,hs p q hq s,hq,h1,h2,(hv p q hq).mp v,t⟩
abbrev NoV (x0 x1:Int)(V:Int→Int→Prop):Prop:=∀p q,0<q→x0*q≤p→p≤x1*q→¬ V p q
theorem za1.left {x0 x1 L U:Int}{V V' Sp:Int→Int→Prop}(h:za1 x0 x1 V Sp L U)(n:NoV x0 x1 V'):za1 x0 x1 (λp q=>V p q∨V' p q) Sp L U:=by
 refine⟨λp q hq h1 h2 v=>h.all p q hq h1 h2 (v.resolve_right (n p q hq h1 h2)),?_,?_⟩
 ·obtain⟨p,q,s,hq,h1,h2,v,t⟩:=h.lo
  exact⟨p,q,s,hq,h1,h2,.inl v,t⟩
 ·obtain⟨p,q,s,hq,h1,h2,v,t⟩:=h.hi
  exact⟨p,q,s,hq,h1,h2,.inl v,t⟩
theorem za1.right {x0 x1 L U:Int}{V V' Sp:Int→Int→Prop}(h:za1 x0 x1 V' Sp L U)(n:NoV x0 x1 V):za1 x0 x1 (λp q=>V p q∨V' p q) Sp L U:=by
 refine⟨λp q hq h1 h2 v=>h.all p q hq h1 h2 (v.resolve_left (n p q hq h1 h2)),?_,?_⟩
 ·obtain⟨p,q,s,hq,h1,h2,v,t⟩:=h.lo
  exact⟨p,q,s,hq,h1,h2,.inr v,t⟩
 ·obtain⟨p,q,s,hq,h1,h2,v,t⟩:=h.hi
  exact⟨p,q,s,hq,h1,h2,.inr v,t⟩
theorem za1.both {x0 x1 L U L' U' l u:Int}{V V' Sp Sp':Int→Int→Prop}(h:za1 x0 x1 V Sp L U)(h':za1 x0 x1 V' Sp' L' U')(el:l=L∧L≤L'∨l=L'∧L'≤L)(eu:u=U∧U'≤U∨u=U'∧U≤U'):za1 x0 x1 (λp q=>V p q∨V' p q) (λp q=>Sp p q∨Sp' p q) l u:=by
 refine⟨λp q hq h1 h2 v=>?_,?_,?_⟩
 ·have hq':=Vaf hq
  rcases v with v | v
  ·obtain⟨a,b⟩:=h.all p q hq h1 h2 v
   exact⟨VaZ (mlr (by omega) hq') a,VaZ b (mlr (by omega) hq')⟩
  ·obtain⟨a,b⟩:=h'.all p q hq h1 h2 v
   exact⟨VaZ (mlr (by omega) hq') a,VaZ b (mlr (by omega) hq')⟩
 ·rcases el with ⟨rfl,_⟩ | ⟨rfl,_⟩
  ·obtain⟨p,q,s,hq,h1,h2,v,t⟩:=h.lo
   exact⟨p,q,.inl s,hq,h1,h2,.inl v,t⟩
  ·obtain⟨p,q,s,hq,h1,h2,v,t⟩:=h'.lo
   exact⟨p,q,.inr s,hq,h1,h2,.inr v,t⟩
 ·rcases eu with ⟨rfl,_⟩ | ⟨rfl,_⟩
  ·obtain⟨p,q,s,hq,h1,h2,v,t⟩:=h.hi
   exact⟨p,q,.inl s,hq,h1,h2,.inl v,t⟩
  ·obtain⟨p,q,s,hq,h1,h2,v,t⟩:=h'.hi
   exact⟨p,q,.inr s,hq,h1,h2,.inr v,t⟩
theorem za1.le {x0 x1 L U:Int}{V Sp:Int→Int→Prop}(h:za1 x0 x1 V Sp L U):L≤U:=by
 obtain⟨p,q,s,hq,h1,h2,v,t⟩:=h.lo
 obtain⟨a,b⟩:=h.all p q hq h1 h2 v
 exact can (show L*q≤U*q by omega) hq
theorem za1.within {x0 x1 L U:Int}{V Sp:Int→Int→Prop}(h:za1 x0 x1 V Sp L U):x0≤L∧U≤x1:=by
 constructor
 ·obtain⟨p,q,s,hq,h1,h2,v,t⟩:=h.lo
  have:=Int.lt_of_mul_lt_mul_right (show x0*q<(L+1)*q by omega) (Vaf hq)
  omega
 ·obtain⟨p,q,s,hq,h1,h2,v,t⟩:=h.hi
  have:=Int.lt_of_mul_lt_mul_right (show (U-1)*q<x1*q by omega) (Vaf hq)
  omega
abbrev tur (t e:Int):Int×Int:=(if e<0 then -t else t,if e<0 then -e else e)
def zeF (lo hi e:Int):List (Int×Int):=if e=0 then [] else [tur lo e,tur hi e]
def zoL (lo hi x0 x1 y0 y1:Int):List (Int×Int):=[(x0,1),(x1,1)]++zeF lo hi y0++zeF lo hi y1
abbrev SpY (lo hi x0 x1 y0 y1 p q:Int):Prop:=(p,q)∈zoL lo hi x0 x1 y0 y1
theorem zlG {lo hi e p q:Int}:(p,q)∈zeF lo hi e↔e≠0∧((p,q)=tur lo e∨(p,q)=tur hi e):=by
 unfold zeF
 split
 ·simp[*]
 ·rename_i h
  simp[h]
theorem zk8 {lo hi x0 x1 y0 y1 p q:Int}:(p,q)∈zoL lo hi x0 x1 y0 y1↔(p=x0∧q=1)∨(p=x1∧q=1)∨(p,q)∈zeF lo hi y0∨(p,q)∈zeF lo hi y1:=by
 unfold zoL
 simp[VaJ,or_assoc]
abbrev mx0 (a:Int):Int:=if 0 > a then 0 else a
theorem zea {lo hi y0 y1 p q:Int}(hz:lo≤hi)(hy:y0≤y1)(nb:¬ ((y0≤0∧0≤y1)∧lo≤0∧0≤hi))(hq:0<q):
  Ans lo hi y0 y1 p q↔(y1 > 0∧Ans lo hi (mx0 y0) y1 p q)∨(y0<0∧Ans (-hi) (-lo) (mx0 (-y1)) (-y0) p q):=by
 unfold Ans mx0
 have sl:lo > 0→0<lo*q:=λh=>Int.mul_pos h hq
 have sl':¬ lo > 0→lo*q≤0:=λh=>by
  have:=mlr (show lo≤0 by omega) (Vaf hq)
  omega
 have sh:hi<0→hi*q<0:=λh=>by
  have:=Int.mul_lt_mul_of_pos_right h hq
  omega
 have sh':¬ hi<0→0≤hi*q:=λh=>Vav (by omega) (Vaf hq)
 have zz:=mlr hz (Vaf hq)
 have f:∀y:Int,(0≤p→0≤y→0≤p*y)∧(0≤p→y≤0→p*y≤0)∧(p≤0→0≤y→p*y≤0)∧(p≤0→y≤0→0≤p*y):=λy=>
  ⟨Vav,Int.mul_nonpos_of_nonneg_of_nonpos,Int.mul_nonpos_of_nonpos_of_nonneg,Int.mul_nonneg_of_nonpos_of_nonpos⟩
 obtain⟨f1,f2,f3,f4⟩:=f y0
 obtain⟨g1,g2,g3,g4⟩:=f y1
 simp only[VaV,Vag]
 by_cases c1:0 > y0
 ·by_cases c2:0 > -y1
  ·rw[if_pos c1,if_pos c2,VaQ]
   omega
  ·rw[if_pos c1,if_neg c2,VaQ,VaV]
   omega
 ·by_cases c2:0 > -y1
  ·rw[if_neg c1,if_pos c2,VaQ]
   omega
  ·rw[if_neg c1,if_neg c2,VaV]
   have e0:y0=0:=by omega
   have e1:y1=0:=by omega
   subst e0 e1
   simp only[VaQ]
   omega
theorem zoq {lo hi x0 x1 y0 y1 p q:Int}(hy:y0≤y1)(hq:0<q)(h:zb5 lo hi x0 x1 (mx0 y0) y1 p q):SpY lo hi x0 x1 y0 y1 p q:=by
 unfold SpY
 rw[zk8,zlG,zlG]
 simp only[tur,Prod.mk.injEq]
 rcases h with h | h | ⟨h1,h2⟩
 ·exact .inl h
 ·exact .inr (.inl h)
 ·rcases h2 with e | e
  ·have c:¬ 0 > y0:=λc=>by rw[mx0,if_pos c] at e; omega
   rw[mx0,if_neg c] at e
   subst e
   refine .inr (.inr (.inl ⟨by omega,?_⟩))
   rw[if_neg (by omega),if_neg (by omega),if_neg (by omega)]
   omega
  ·subst e
   refine .inr (.inr (.inr ⟨by omega,?_⟩))
   rw[if_neg (by omega),if_neg (by omega),if_neg (by omega)]
   omega
theorem zo4 {lo hi x0 x1 y0 y1 p q:Int}(hy:y0≤y1)(hq:0<q)(h:zb5 (-hi) (-lo) x0 x1 (mx0 (-y1)) (-y0) p q):SpY lo hi x0 x1 y0 y1 p q:=by
 unfold SpY
 rw[zk8,zlG,zlG]
 simp only[tur,Prod.mk.injEq]
 rcases h with h | h | ⟨h1,h2⟩
 ·exact .inl h
 ·exact .inr (.inl h)
 ·rcases h2 with e | e
  ·have c:¬ 0 > -y1:=λc=>by rw[mx0,if_pos c] at e; omega
   rw[mx0,if_neg c] at e
   subst e
   refine .inr (.inr (.inr ⟨by omega,?_⟩))
   rw[if_pos (by omega),if_pos (by omega),if_pos (by omega)]
   omega
  ·subst e
   refine .inr (.inr (.inl ⟨by omega,?_⟩))
   rw[if_pos (by omega),if_pos (by omega),if_pos (by omega)]
   omega
abbrev zdT (lo hi x0 x1 y0 y1 L U:Int):Prop:=za1 x0 x1 (Ans lo hi y0 y1) (SpY lo hi x0 x1 y0 y1) L U
section
variable {lo hi x0 x1 y0 y1 L U L' U' l u:Int}
theorem zrQ (hx:x0≤x1)(hy:y0≤0∧0≤y1)(hz:lo≤0∧0≤hi):zdT lo hi x0 x1 y0 y1 x0 x1:=by
 have v:∀p:Int,Ans lo hi y0 y1 p 1:=λp=>by
  unfold Ans
  by_cases c:0≤p
  ·have:=Int.mul_nonpos_of_nonneg_of_nonpos c hy.1
   have:=Vav c hy.2
   omega
  ·have:=Int.mul_nonneg_of_nonpos_of_nonpos (show p≤0 by omega) hy.1
   have:=Int.mul_nonpos_of_nonpos_of_nonneg (show p≤0 by omega) hy.2
   omega
 refine⟨λp q hq h1 h2 _=>⟨h1,h2⟩,⟨x0,1,zk8.mpr (.inl ⟨rfl,rfl⟩),by omega,by omega,by omega,v _,by omega⟩,⟨x1,1,zk8.mpr (.inr (.inl ⟨rfl,rfl⟩)),by omega,by omega,by omega,v _,by omega⟩⟩
variable (hz:lo≤hi)(hy:y0≤y1)(nb:¬ ((y0≤0∧0≤y1)∧lo≤0∧0≤hi))
abbrev zdN (lo hi y0 y1:Int):Int→Int→Prop:=Ans lo hi (mx0 y0) y1
abbrev zdP (lo hi y0 y1:Int):Int→Int→Prop:=Ans (-hi) (-lo) (mx0 (-y1)) (-y0)
include hz hy nb
theorem zuh (c1:¬ y1 > 0)(c2:¬ y0<0):NoV x0 x1 (Ans lo hi y0 y1):=λp q hq _ _ v=>by
 rcases (zea hz hy nb hq).mp v with ⟨h,_⟩ | ⟨h,_⟩
 ·exact c1 h
 ·exact c2 h
theorem zv7 (h:NoV x0 x1 (zdN lo hi y0 y1))(c2:¬ y0<0):NoV x0 x1 (Ans lo hi y0 y1):=λp q hq h1 h2 v=>by
 rcases (zea hz hy nb hq).mp v with ⟨_,z⟩ | ⟨z,_⟩
 ·exact h p q hq h1 h2 z
 ·exact c2 z
theorem zwi (c1:¬ y1 > 0)(h:NoV x0 x1 (zdP lo hi y0 y1)):NoV x0 x1 (Ans lo hi y0 y1):=λp q hq h1 h2 v=>by
 rcases (zea hz hy nb hq).mp v with ⟨z,_⟩ | ⟨_,z⟩
 ·exact c1 z
 ·exact h p q hq h1 h2 z
theorem zrZ (h1:NoV x0 x1 (zdN lo hi y0 y1))(h2:NoV x0 x1 (zdP lo hi y0 y1)):NoV x0 x1 (Ans lo hi y0 y1):=λp q hq a b v=>by
 rcases (zea hz hy nb hq).mp v with ⟨_,z⟩ | ⟨_,z⟩
 ·exact h1 p q hq a b z
 ·exact h2 p q hq a b z
theorem ztc (c1:y1 > 0)(c2:¬ y0<0)(h:za1 x0 x1 (zdN lo hi y0 y1) (zb5 lo hi x0 x1 (mx0 y0) y1) L U):zdT lo hi x0 x1 y0 y1 L U:=
 h.mono (λp q hq=>by rw[zea hz hy nb hq]; exact⟨λz=>.inl ⟨c1,z⟩,λz=>z.elim (λz=>z.2) λz=>absurd z.1 c2⟩) λp q hq s=>zoq hy hq s
theorem zuD (c1:¬ y1 > 0)(c2:y0<0)(h:za1 x0 x1 (zdP lo hi y0 y1) (zb5 (-hi) (-lo) x0 x1 (mx0 (-y1)) (-y0)) L U):zdT lo hi x0 x1 y0 y1 L U:=
 h.mono (λp q hq=>by rw[zea hz hy nb hq]; exact⟨λz=>.inr ⟨c2,z⟩,λz=>z.elim (λz=>absurd z.1 c1) λz=>z.2⟩) λp q hq s=>zo4 hy hq s
theorem zog (c1:y1 > 0)(c2:y0<0):∀p q,0<q→(zdN lo hi y0 y1 p q∨zdP lo hi y0 y1 p q↔Ans lo hi y0 y1 p q):=λp q hq=>by
 rw[zea hz hy nb hq]
 exact⟨λz=>z.elim (λz=>.inl ⟨c1,z⟩) λz=>.inr ⟨c2,z⟩,λz=>z.elim (λz=>.inl z.2) λz=>.inr z.2⟩
theorem zwO (c1:y1 > 0)(c2:y0<0)(h:za1 x0 x1 (zdN lo hi y0 y1) (zb5 lo hi x0 x1 (mx0 y0) y1) L U)(n:NoV x0 x1 (zdP lo hi y0 y1)):zdT lo hi x0 x1 y0 y1 L U:=
 (h.left n).mono (zog hz hy nb c1 c2) λp q hq s=>zoq hy hq s
theorem ztK (c1:y1 > 0)(c2:y0<0)(n:NoV x0 x1 (zdN lo hi y0 y1))(h:za1 x0 x1 (zdP lo hi y0 y1) (zb5 (-hi) (-lo) x0 x1 (mx0 (-y1)) (-y0)) L U):zdT lo hi x0 x1 y0 y1 L U:=
 (h.right n).mono (zog hz hy nb c1 c2) λp q hq s=>zo4 hy hq s
theorem zsK (c1:y1 > 0)(c2:y0<0)(h:za1 x0 x1 (zdN lo hi y0 y1) (zb5 lo hi x0 x1 (mx0 y0) y1) L U)(h':za1 x0 x1 (zdP lo hi y0 y1) (zb5 (-hi) (-lo) x0 x1 (mx0 (-y1)) (-y0)) L' U'):zdT lo hi x0 x1 y0 y1 (if L'<L then L' else L) (if U' > U then U' else U):=
 (h.both h' (by split <;> omega) (by split <;> omega)).mono (zog hz hy nb c1 c2) λp q hq s=>s.elim (zoq hy hq) (zo4 hy hq)
end
theorem zxM {lo hi x0 x1 c d l0 l1 h0 h1:Int}(h:zbY lo hi x0 x1 c d)(hl:za3 lo c d=0∧l0=x0∧l1=x0∨za3 lo c d≠0∧l0=lo/za3 lo c d∧l1=-(-lo/za3 lo c d))
  (hh:zaX hi c d=0∧h0=x1∧h1=x1∨zaX hi c d≠0∧h0=hi/zaX hi c d∧h1=-(-hi/zaX hi c d)):
  (l1 > x1∨h0<x0→NoV x0 x1 (Ans lo hi c d))∧(¬ l1 > x1→¬ h0<x0→za1 x0 x1 (Ans lo hi c d) (zb5 lo hi x0 x1 c d) (if x0 > l0 then x0 else l0) (if x1<h1 then x1 else h1)):=by
 have hx:=h.hx
 refine⟨λz=>?_,λz1 z2=>h.some (λn=>?_) (λn=>?_) ?_ ?_⟩
 ·rcases z with z | z
  ·rcases hl with ⟨_,_,rfl⟩ | ⟨n,_,rfl⟩
   ·omega
   ·exact h.none1 n z
  ·rcases hh with ⟨_,rfl,_⟩ | ⟨n,rfl,_⟩
   ·omega
   ·exact h.none2 n z
 ·rcases hl with ⟨z,_⟩ | ⟨_,_,rfl⟩
  ·exact absurd z n
  ·omega
 ·rcases hh with ⟨z,_⟩ | ⟨_,rfl,_⟩
  ·exact absurd z n
  ·omega
 ·rcases hl with ⟨z,rfl,_⟩ | ⟨n,rfl,_⟩
  ·refine .inl ⟨by split <;> omega,.inl z⟩
  ·split <;> omega
 ·rcases hh with ⟨z,_,rfl⟩ | ⟨n,_,rfl⟩
  ·refine .inl ⟨by split <;> omega,.inl z⟩
  ·split <;> omega
theorem if2 {a b:Prop} [Decidable a] [Decidable b] {A B:Prop}(h1:a→b→A)(h2:¬ (a∧b)→B):if (decide a&&decide b)=true then A else B:=by
 by_cases z:a∧b
 ·rw[decide_eq_true z.1,decide_eq_true z.2]; exact zck (h1 z.1 z.2)
 ·have e:(decide a&&decide b)=false:=by
   simp only[Bool.and_eq_false_iff,decide_eq_false_iff_not]
   by_cases y:a
   ·exact .inr λy2=>z ⟨y,y2⟩
   ·exact .inl y
  rw[e]; exact zbJ (h2 z)
theorem and2 {a b:Prop} [Decidable a] [Decidable b] {Q:DK}{S:Sto}(h:Q (.bl (decide a&&decide b)) S):if decide a=true then Q (.bl (decide b)) S else Q (.bl false) S:=
 ifD (λe=>by rw[decide_eq_true e,Bool.true_and] at h; exact h) (λe=>by rw[decide_eq_false e,Bool.false_and] at h; exact h)
theorem zca (a:Int):0≤mx0 a:=by unfold mx0; split <;> omega
theorem zl1 {a b:Int}(h:a≤b)(h0:0≤b):mx0 a≤b:=by unfold mx0; split <;> omega
theorem zdr {a:Int}(h:Sz 1400 a):Sz 1400 (mx0 a):=by
 unfold mx0
 split
 ·exact Sz.of 0 (by decide)
 ·exact h
theorem zpG {a b:Int}{n:Nat}(ha:0≤a)(h:a≤b):a^n≤b^n:=by
 induction n with
 | zero=>simp
 | succ n ih=>
  rw[Vai,Vai]
  exact Int.mul_le_mul ih h ha (Int.pow_nonneg (by omega))
theorem zlw {a b:Int}{n:Nat}(ha:0≤a)(h:a<b)(hn:1≤n):a^n<b^n:=by
 obtain⟨k,rfl⟩:∃k,n=k+1:=⟨n-1,by omega⟩
 rw[Vai,Vai]
 have h1:a^k*a≤b^k*a:=Int.mul_le_mul_of_nonneg_right (zpG ha (by omega)) ha
 have h2:b^k*a<b^k*b:=Int.mul_lt_mul_of_pos_left h (Vax (by omega))
 omega
theorem plt {a b:Int}{n:Nat}(hb:0≤b)(h:a^n<b^n):a<b:=by
 by_cases c:a<b
 ·exact c
 ·have:=zpG (n:=n) hb (show b≤a by omega)
  omega
theorem zqK {r g:Int}(hr:0≤r)(hg:0≤g):∀k:Nat,((k:Int)+1)*g^k*r-(k:Int)*(g^k*g)≤r^k*r
 | 0=>by simp
 | k+1=>by
  have ih:=zqK hr hg k
  have m:=Int.mul_le_mul_of_nonneg_right ih hr
  have sq:0≤((k:Int)+1)*g^k*((r-g)*(r-g)):=by
   refine Vav (Vav (by omega) (Int.pow_nonneg hg)) ?_
   by_cases c:0≤r-g
   ·exact Vav c c
   ·exact Int.mul_nonneg_of_nonpos_of_nonpos (by omega) (by omega)
  rw[Vai,Vai]
  have e:((k:Int)+1+1)*(g^k*g)*r-((k:Int)+1)*(g^k*g*g)=(((k:Int)+1)*g^k*r-(k:Int)*(g^k*g))*r-((k:Int)+1)*g^k*((r-g)*(r-g)):=by
   grind
  have e2:(((k+1:Nat):Int)+1)*(g^k*g)*r-((k+1:Nat):Int)*(g^k*g*g)=((k:Int)+1+1)*(g^k*g)*r-((k:Int)+1)*(g^k*g*g):=by
   rw[Int.natCast_add]; rfl
  rw[e2,e]
  omega
theorem zrp {r g N:Int}{n:Nat}(hn:1≤n)(hr:0≤r)(hg:0<g)(h:r^n≤N):r≤(((n:Int)-1)*g+N/g^(n-1))/n:=by
 obtain⟨k,rfl⟩:∃k,n=k+1:=⟨n-1,by omega⟩
 have t:=zqK hr (Vaf hg) k
 rw[Vai] at h
 have gp:0<g^k:=Vax hg
 have e0:(((k+1:Nat):Int)-1)=k:=by omega
 rw[e0,Nat.add_sub_cancel]
 have q:((k:Int)+1)*r-k*g≤N/g^k:=by
  refine(Int.le_ediv_iff_mul_le gp).mpr ?_
  have e:(((k:Int)+1)*r-k*g)*g^k=((k:Int)+1)*g^k*r-(k:Int)*(g^k*g):=by grind
  omega
 refine(Int.le_ediv_iff_mul_le (by omega)).mpr ?_
 have e:r*((k+1:Nat):Int)=((k:Int)+1)*r:=by rw[VaU]; rfl
 omega
theorem zsU {g N:Int}{n:Nat}(hn:1≤n)(hg:0<g)(h:N<g^n):(((n:Int)-1)*g+N/g^(n-1))/n<g:=by
 obtain⟨k,rfl⟩:∃k,n=k+1:=⟨n-1,by omega⟩
 have gp:0<g^k:=Vax hg
 rw[Vai] at h
 have e0:(((k+1:Nat):Int)-1)=k:=by omega
 rw[e0,Nat.add_sub_cancel]
 have q:N/g^k<g:=(Int.ediv_lt_iff_lt_mul gp).mpr (by rw[VaU g]; exact h)
 refine(Int.ediv_lt_iff_lt_mul (by omega)).mpr ?_
 have e:g*((k+1:Nat):Int)=(k:Int)*g+g:=by
  rw[VaU,Int.natCast_add,Int.add_mul]
  simp
 omega
theorem zgE {n:Nat}(h:n%2=1)(a:Int):(-a)^n=-(a^n):=by
 obtain⟨k,rfl⟩:∃k,n=2*k+1:=⟨n/2,by omega⟩
 rw[Vai,Vai,Int.pow_mul,Int.pow_mul]
 have e:(-a)^2=a^2:=by rw[Vai,Vai,Vai,Vai]; grind
 rw[e]
 grind
theorem zsS {n:Nat}(h:n%2=1){a b:Int}(hab:a<b):a^n<b^n:=by
 by_cases c:0≤a
 ·exact zlw c hab (by omega)
 ·by_cases d:0≤b
  ·have h1:a^n=-((-a)^n):=by rw[zgE h,Va0]
   have h2:(0:Int)<(-a)^n:=Vax (by omega)
   have h3:(0:Int)≤b^n:=Int.pow_nonneg d
   omega
  ·have h1:=zlw (n:=n) (show 0≤-b by omega) (show -b < -a by omega) (by omega)
   rw[zgE h,zgE h] at h1
   omega
def Mt (n:Nat)(lo hi l h:Int):Prop:=((n%2=0∧l<0∧0<h)∧0≤hi∨¬ (n%2=0∧l<0∧0<h)∧(l^n≤hi∨h^n≤hi))∧(lo≤l^n∨lo≤h^n)
def zcm (n:Nat)(N a b:Int):Prop:=b=a∧a^n=N∨b=a+1∧a^n<N∧N<b^n
theorem zho {n:Nat}(hn:1≤n):(0:Int)^n=0:=by
 obtain⟨k,rfl⟩:∃k,n=k+1:=⟨n-1,by omega⟩
 rw[Vai,VaQ]
section
variable {n:Nat}{lo hi al bl ah bh:Int}
structure Least (n:Nat)(lo hi x0 x1 m:Int):Prop where
 a:x0≤m
 b:m≤x1
 c:Mt n lo hi x0 m
 d:∀k,x0≤k→k<m→¬ Mt n lo hi x0 k
def znL (n:Nat)(lo hi x0 x1 v:Int):Prop:=∃m,Least n lo hi x0 x1 m∧(m=x0∧v=x0∨m≠x0∧(((m-1)^n<lo∧m^n=lo∨(m-1)^n > hi∧m^n=hi)∧v=m∨¬ ((m-1)^n<lo∧m^n=lo∨(m-1)^n > hi∧m^n=hi)∧v=m-1))
end
structure zc1 (n:Nat)(lo hi x0 x1 L U:Int):Prop where
 m:Mt n lo hi x0 x1
 low:∀v,znL n lo hi x0 x1 v→v=L
 he:n%2=0→∀v,znL n lo hi (-x1) (-x0) v→v=-U
 ho:n%2=1→∀v,znL n (-hi) (-lo) (-x1) (-x0) v→v=-U
 lu:L≤U
 has:∀t,x0≤t→t≤x1→lo≤t^n→t^n≤hi→L≤t∧t≤U
section
variable {n:Nat}{lo hi al bl ah bh x0 x1:Int}
end
theorem zoJ {n:Nat}(hn:1≤n){N:Int}(h0:0≤N):∃r:Int,0≤r∧r^n≤N∧N<(r+1)^n:=by
 have key:∀k:Nat,N<((k:Int)+1)^n→∃r:Int,0≤r∧r^n≤N∧N<(r+1)^n:=by
  intro k
  induction k with
  | zero=>exact λh=>⟨0,by omega,by rw[zho hn]; exact h0,by simpa using h⟩
  | succ k ih=>
   intro h
   by_cases c:N<((k:Int)+1)^n
   ·exact ih c
   ·exact⟨(k:Int)+1,by omega,by omega,by simpa using h⟩
 refine key N.toNat ?_
 have h1:N<N+1:=by omega
 have h2:(N+1)^1≤(N+1)^n:=by
  obtain⟨k,rfl⟩:∃k,n=k+1:=⟨n-1,by omega⟩
  rw[Vai (N+1) k,Vai,Int.pow_zero]
  have:0<(N+1)^k:=Vax (by omega)
  exact Int.mul_le_mul_of_nonneg_right (show (1:Int)≤(N+1)^k by omega) (by omega)
 have e:((N.toNat:Nat):Int)=N:=by omega
 rw[e]
 have e1:(N+1)^1=N+1:=by rw[Vai,Int.pow_zero,Int.one_mul]
 omega
theorem zo7 {n:Nat}{N r:Int}(h1:r^n≤N)(h2:N<(r+1)^n):(r^n=N→zcm n N r r)∧(r^n≠N→zcm n N r (r+1)):=
 ⟨λe=>.inl ⟨rfl,e⟩,λe=>.inr ⟨rfl,by omega,h2⟩⟩
theorem zwW {n:Nat}{N a b:Int}(ho:n%2=1)(h:zcm n (-N) a b):zcm n N (-b) (-a):=by
 unfold zcm at h ⊢
 rw[zgE ho,zgE ho]
 rcases h with ⟨rfl,e⟩ | ⟨rfl,e1,e2⟩
 ·exact .inl ⟨rfl,by omega⟩
 ·exact .inr ⟨by omega,by omega,by omega⟩
theorem Sz.mid {n:Nat}{a b x:Int}(ha:Sz n a)(hb:Sz n b)(h1:a≤x)(h2:x≤b):Sz n x:=by
 unfold Sz at *
 generalize 2^n=B at *
 omega
theorem ztm (N:Int)(h:0≤N):N<2^(Builtin.Int.intBits N):=by
 unfold Builtin.Int.intBits
 split
 ·rename_i z
  have:N=0:=by simpa using z
  subst this
  decide
 ·have l:N.natAbs<2^(N.natAbs.log2+1):=Nat.lt_log2_self
  have e:((2^(N.natAbs.log2+1):Nat):Int)=2^(N.natAbs.log2+1):=by simp
  omega
theorem zsx {N n:Int}(h0:0≤N)(hn:1≤n):N<(1*2^((Builtin.Int.intBits N:Int)/n+1).toNat)^n.toNat:=by
 have b:=ztm N h0
 rw[Int.one_mul,← Int.pow_mul]
 refine Int.lt_of_lt_of_le b ?_
 have e:(2:Int)^(((Builtin.Int.intBits N:Int)/n+1).toNat*n.toNat)=((2^(((Builtin.Int.intBits N:Int)/n+1).toNat*n.toNat):Nat):Int):=by simp
 have e2:(2:Int)^(Builtin.Int.intBits N)=((2^(Builtin.Int.intBits N):Nat):Int):=by simp
 rw[e,e2]
 refine Int.ofNat_le.mpr (Nat.pow_le_pow_right (by decide) ?_)
 have d1:=Int.emod_add_mul_ediv (Builtin.Int.intBits N:Int) n
 have d2:=Int.emod_lt_of_pos (Builtin.Int.intBits N:Int) (show 0<n by omega)
 have d3:=Int.ediv_nonneg (show (0:Int)≤(Builtin.Int.intBits N:Int) by omega) (show 0≤n by omega)
 have m:(((((Builtin.Int.intBits N:Int)/n+1).toNat*n.toNat:Nat):Int))=n*((Builtin.Int.intBits N:Int)/n)+n:=by
  rw[Int.natCast_mul,Int.toNat_of_nonneg (by omega),Int.toNat_of_nonneg (by omega)]
  grind
 omega
theorem zwv {N n:Int}(hn:2≤n)(s:Sz 1300 N):Sz 652 (1*2^((Builtin.Int.intBits N:Int)/n+1).toNat):=by
 have b:=s.bits
 rw[Int.one_mul]
 unfold Sz
 rw[Int.natAbs_pow]
 have e:(2:Int).natAbs=2:=rfl
 rw[e]
 refine Nat.pow_lt_pow_right (by decide) ?_
 have d:(Builtin.Int.intBits N:Int)/n≤650:=by
  have h1:(Builtin.Int.intBits N:Int)/n≤(Builtin.Int.intBits N:Int)/2:=by
   refine(Int.le_ediv_iff_mul_le (by omega)).mpr ?_
   have d1:=Int.emod_add_mul_ediv (Builtin.Int.intBits N:Int) n
   have d2:=Int.emod_nonneg (Builtin.Int.intBits N:Int) (show n≠0 by omega)
   have d3:=Int.ediv_nonneg (show (0:Int)≤(Builtin.Int.intBits N:Int) by omega) (show 0≤n by omega)
   have d4:=Int.mul_le_mul_of_nonneg_right hn d3
   have d5:(Builtin.Int.intBits N:Int)/n*2=2*((Builtin.Int.intBits N:Int)/n):=VaU _ _
   omega
  omega
 omega
theorem zsv {n g N:Int}(hn:1≤n):((n-1)*g+N/g^(n-1).toNat)/n=((((n.toNat:Nat):Int)-1)*g+N/g^(n.toNat-1))/((n.toNat:Nat):Int):=by
 have e1:((n.toNat:Nat):Int)=n:=by omega
 have e2:(n-1).toNat=n.toNat-1:=by omega
 rw[e1,e2]
def bk2 (i j:Int)(f:Option (Int×Int))(s:Int×Int→Option (Int×Int)):Option (List (Int×(Int×Int))):=match f with
 | none=>none
 | some x=>match s x with
  | none=>none
  | some y=>some [(i,x),(j,y)]
theorem zgJ {vs:List Nd}{k:Nat}{v:Nd}(h:vs[k]?=some v):atI (vs.map Nd.d) (k:Int)=some v.d:=zdq (by rw[Vae,h]; rfl)
theorem zsE {is:List Nat}{ta:TDA}{tb:TDS}{E:zcD}{dl:Ev}{S S1:Sto}{n:Nat}{xs:List D}(W:Nat→Ev→Sto→Prop)(hta:∀K:List D→Sto→Prop,K [.ref n] S1→ta dl S K)(hk:∀k dl' S',W k dl' S'→S'[n]?=some (.lst xs))(h0:W 0 dl S1)
  (hb:∀(k:Nat) (x:D) (dl':Ev) (S':Sto) (nx ct:Ev→Sto→Prop),xs[k]?=some x→W k dl' S'→(∀dl2 S2,W (k+1) dl2 S2→nx dl2 S2)→tb { nx:=nx,rt:=E.rt,bk:=E.nx,ct:=ct } (zdt is [.int (k:Int),x] dl') S')(he:∀dl' S',W xs.length dl' S'→E.nx dl' S'):zjX is ta tb E dl S:=by
 unfold zjX
 refine hta _ ⟨by rw[za9 (hk _ _ _ h0) rfl]; rfl,λk m dl' S'=>W k dl' S'∧k+m=xs.length,⟨xs.length,h0,by omega⟩,?_⟩
 rintro k m dl' S' ⟨w,hm⟩
 rw[za9 (hk _ _ _ w) rfl]
 dsimp only[zat]
 split
 ·rename_i x e1
  have l1:=(Vac.mp e1).1
  exact hb k x dl' S' _ _ e1 w (λdl2 S2 w2=>⟨m-1,by omega,w2,by omega⟩)
 ·rename_i e1
  have l1:=VaE.mp e1
  have ek:k=xs.length:=by omega
  exact⟨ek,he _ _ (ek ▸ w)⟩
theorem zqV {xs:List D}{n:Int}(h0:0≤n)(h1:n≤xs.length):zbv xs none (some n)=xs.take n.toNat:=by
 unfold L3.zbv
 have e:HT.sIx xs.length xs.length (some n)=n.toNat:=by
  have z:=HT.sIx_nat xs.length xs.length n.toNat
  rw[Int.toNat_of_nonneg h0] at z
  rw[z]
  omega
 rw[e,HT.sIx_none,List.drop_zero,Nat.sub_zero]
def ptB (x l h:Int×Int):Option (Int×Int):=if l.2 > x.2 then none else if h.1<x.1 then none else some (if x.1 > l.1 then x.1 else l.1,if x.2<h.2 then x.2 else h.2)
def loE (lo:Int)(x:Int×Int)(lb:Int):Int×Int:=if lb=0 then (x.1,x.1) else (lo/lb,-(-lo/lb))
def hiE (hi:Int)(x:Int×Int)(hb:Int):Int×Int:=if hb=0 then (x.2,x.2) else (hi/hb,-(-hi/hb))
def sdS (lo hi:Int)(x:Int×Int)(c d:Int):Option (Int×Int):=ptB x (loE lo x (za3 lo c d)) (hiE hi x (zaX hi c d))
def joS:Option (Int×Int)→Option (Int×Int)→Option (Int×Int)
 | none,o=>o
 | some p,none=>some p
 | some p,some q=>some (if q.1<p.1 then q.1 else p.1,if q.2 > p.2 then q.2 else p.2)
def btS (z x y:Int×Int)(g:Int):Option (Int×Int):=
 if (y.1≤0∧0≤y.2)∧z.1≤0∧0≤z.2 then some x else
  joS (if y.2 > 0 then sdS (z.1*g) (z.2*g) x (mx0 y.1) y.2 else none) (if y.1<0 then sdS (-(z.2*g)) (-(z.1*g)) x (mx0 (-y.2)) (-y.1) else none)
theorem znR {lo hi c d:Int}{x:Int×Int}(h:zbY lo hi x.1 x.2 c d):(sdS lo hi x c d=none→NoV x.1 x.2 (Ans lo hi c d))∧∀p,sdS lo hi x c d=some p→za1 x.1 x.2 (Ans lo hi c d) (zb5 lo hi x.1 x.2 c d) p.1 p.2:=by
 have hl:za3 lo c d=0∧(loE lo x (za3 lo c d)).1=x.1∧(loE lo x (za3 lo c d)).2=x.1∨za3 lo c d≠0∧(loE lo x (za3 lo c d)).1=lo/za3 lo c d∧(loE lo x (za3 lo c d)).2=-(-lo/za3 lo c d):=by
  by_cases e:za3 lo c d=0
  ·exact .inl ⟨e,by rw[loE,if_pos e],by rw[loE,if_pos e]⟩
  ·exact .inr ⟨e,by rw[loE,if_neg e],by rw[loE,if_neg e]⟩
 have hh:zaX hi c d=0∧(hiE hi x (zaX hi c d)).1=x.2∧(hiE hi x (zaX hi c d)).2=x.2∨zaX hi c d≠0∧(hiE hi x (zaX hi c d)).1=hi/zaX hi c d∧(hiE hi x (zaX hi c d)).2=-(-hi/zaX hi c d):=by
  by_cases e:zaX hi c d=0
  ·exact .inl ⟨e,by rw[hiE,if_pos e],by rw[hiE,if_pos e]⟩
  ·exact .inr ⟨e,by rw[hiE,if_neg e],by rw[hiE,if_neg e]⟩
 have z:=zxM h hl hh
 unfold sdS ptB
 refine⟨λe=>?_,λp e=>?_⟩
 ·refine z.1 ?_
  split at e
  ·exact .inl ‹_›
  ·split at e
   ·exact .inr ‹_›
   ·cases e
 ·split at e
  ·cases e
  ·split at e
   ·cases e
   ·cases e
    exact z.2 ‹_› ‹_›
theorem zoe {z x y:Int×Int}{g:Int}(hz:z.1≤z.2)(hx:x.1≤x.2)(hy:y.1≤y.2)(hg:1≤g):(btS z x y g=none→NoV x.1 x.2 (Ans (z.1*g) (z.2*g) y.1 y.2))∧∀p,btS z x y g=some p→zdT (z.1*g) (z.2*g) x.1 x.2 y.1 y.2 p.1 p.2:=by
 have hzz:z.1*g≤z.2*g:=mlr hz (by omega)
 have zlo:z.1*g≤0∧0≤z.2*g↔z.1≤0∧0≤z.2:=by
  constructor
  ·rintro⟨a,b⟩
   exact⟨can (show z.1*g≤0*g by omega) (by omega),can (show 0*g≤z.2*g by omega) (by omega)⟩
  ·rintro⟨a,b⟩
   exact⟨Int.mul_nonpos_of_nonpos_of_nonneg a (by omega),Vav b (by omega)⟩
 unfold btS
 split
 ·rename_i c
  refine⟨λe=>(by cases e),λp e=>?_⟩
  cases e
  exact zrQ hx c.1 (zlo.mpr c.2)
 ·rename_i c
  have nb:¬ ((y.1≤0∧0≤y.2)∧z.1*g≤0∧0≤z.2*g):=λq=>c ⟨q.1,zlo.mp q.2⟩
  by_cases c1:y.2 > 0
  ·have S1:=znR (x:=x) (lo:=z.1*g) (hi:=z.2*g) (c:=mx0 y.1) (d:=y.2) ⟨hzz,hx,zca _,zl1 (by omega) (by omega),c1⟩
   rw[if_pos c1]
   by_cases c2:y.1<0
   ·have S2:=znR (x:=x) (lo:=-(z.2*g)) (hi:=-(z.1*g)) (c:=mx0 (-y.2)) (d:=-y.1) ⟨by omega,hx,zca _,zl1 (by omega) (by omega),by omega⟩
    rw[if_pos c2]
    generalize sdS (z.1*g) (z.2*g) x (mx0 y.1) y.2=o1 at S1
    generalize sdS (-(z.2*g)) (-(z.1*g)) x (mx0 (-y.2)) (-y.1)=o2 at S2
    cases o1 with
    | none=>cases o2 with
     | none=>exact⟨λ_=>zrZ hzz hy nb (S1.1 rfl) (S2.1 rfl),λp e=>by cases e⟩
     | some q=>exact⟨λe=>(by cases e),λp e=>by cases e; exact ztK hzz hy nb c1 c2 (S1.1 rfl) (S2.2 _ rfl)⟩
    | some p=>cases o2 with
     | none=>exact⟨λe=>(by cases e),λp e=>by cases e; exact zwO hzz hy nb c1 c2 (S1.2 _ rfl) (S2.1 rfl)⟩
     | some q=>exact⟨λe=>(by cases e),λp e=>by cases e; exact zsK hzz hy nb c1 c2 (S1.2 _ rfl) (S2.2 _ rfl)⟩
   ·rw[if_neg c2]
    generalize sdS (z.1*g) (z.2*g) x (mx0 y.1) y.2=o1 at S1
    cases o1 with
    | none=>exact⟨λ_=>zv7 hzz hy nb (S1.1 rfl) c2,λp e=>by cases e⟩
    | some p=>exact⟨λe=>(by cases e),λp e=>by cases e; exact ztc hzz hy nb c1 c2 (S1.2 _ rfl)⟩
  ·rw[if_neg c1]
   by_cases c2:y.1<0
   ·have S2:=znR (x:=x) (lo:=-(z.2*g)) (hi:=-(z.1*g)) (c:=mx0 (-y.2)) (d:=-y.1) ⟨by omega,hx,zca _,zl1 (by omega) (by omega),by omega⟩
    rw[if_pos c2]
    generalize sdS (-(z.2*g)) (-(z.1*g)) x (mx0 (-y.2)) (-y.1)=o2 at S2
    cases o2 with
    | none=>exact⟨λ_=>zwi hzz hy nb c1 (S2.1 rfl),λp e=>by cases e⟩
    | some q=>exact⟨λe=>(by cases e),λp e=>by cases e; exact zuD hzz hy nb c1 c2 (S2.2 _ rfl)⟩
   ·rw[if_neg c2]
    exact⟨λ_=>zuh hzz hy nb c1 c2,λp e=>by cases e⟩
def Sub (x:Int×Int)(o:Option (Int×Int)):Prop:=∀p,o=some p→p.1≤p.2∧x.1≤p.1∧p.2≤x.2
theorem zmk {z x y:Int×Int}{g:Int}(hz:z.1≤z.2)(hx:x.1≤x.2)(hy:y.1≤y.2)(hg:1≤g):Sub x (btS z x y g):=λp e=>by
 have W:=(zoe hz hx hy hg).2 p e
 exact⟨W.le,W.within.1,W.within.2⟩
noncomputable def rbS (N:Int)(n:Nat):Int:=open Classical in if h:∃r:Int,0≤r∧r^n≤N∧N<(r+1)^n then Classical.choose h else 0
theorem zeC {N r:Int}{n:Nat}(h0:0≤r)(h1:r^n≤N)(h2:N<(r+1)^n):r=rbS N n:=by
 have ex:∃r:Int,0≤r∧r^n≤N∧N<(r+1)^n:=⟨r,h0,h1,h2⟩
 have e:rbS N n=Classical.choose ex:=by unfold rbS; rw[dif_pos ex]
 obtain⟨c0,c1,c2⟩:=Classical.choose_spec ex
 rw[← e] at c0 c1 c2
 have a:=plt (n:=n) (show 0≤rbS N n+1 by omega) (Int.lt_of_le_of_lt h1 c2)
 have b:=plt (n:=n) (show 0≤r+1 by omega) (Int.lt_of_le_of_lt c1 h2)
 omega
noncomputable def rt0 (N:Int)(n:Nat):Int×Int:=if (rbS N n)^n=N then (rbS N n,rbS N n) else (rbS N n,rbS N n+1)
noncomputable def rtS (N:Int)(n:Nat):Int×Int:=if N<0 then (-(rt0 (-N) n).2,-(rt0 (-N) n).1) else rt0 N n
theorem zpZ {N:Int}{n:Nat}(hn:1≤n)(h0:0≤N):zcm n N (rt0 N n).1 (rt0 N n).2∧0≤(rt0 N n).1:=by
 obtain⟨r,r0,r1,r2⟩:=zoJ hn h0
 have e:=zeC r0 r1 r2
 unfold rt0
 rw[← e]
 split
 ·exact⟨(zo7 r1 r2).1 ‹_›,r0⟩
 ·exact⟨(zo7 r1 r2).2 ‹_›,r0⟩
theorem zj5 {N:Int}{n:Nat}(hn:1≤n)(h:n%2=1∨0≤N):zcm n N (rtS N n).1 (rtS N n).2∧(0≤N→0≤(rtS N n).1):=by
 unfold rtS
 split
 ·exact⟨zwW (by omega) (zpZ hn (by omega)).1,λz=>by omega⟩
 ·have z:=zpZ (N:=N) hn (by omega)
  exact⟨z.1,λ_=>z.2⟩
noncomputable def bpS (z x:Int×Int)(n g:Int):Option (Int×Int):=
 if n%2=1 then ptB x (rtS (z.1*g^(n-1).toNat) n.toNat) (rtS (z.2*g^(n-1).toNat) n.toNat) else
  if z.2*g^(n-1).toNat<0 then none else
   joS (ptB x (rtS (mx0 (z.1*g^(n-1).toNat)) n.toNat) (rtS (z.2*g^(n-1).toNat) n.toNat))
    (ptB x (-(rtS (z.2*g^(n-1).toNat) n.toNat).2,-(rtS (z.2*g^(n-1).toNat) n.toNat).1) (-(rtS (mx0 (z.1*g^(n-1).toNat)) n.toNat).2,-(rtS (mx0 (z.1*g^(n-1).toNat)) n.toNat).1))
theorem zcm.ab {n:Nat}{N a b:Int}(h:zcm n N a b):a≤b∧a^n≤N∧N≤b^n:=by
 unfold zcm at h
 rcases h with ⟨e,h⟩ | ⟨e,h1,h2⟩
 ·subst e; omega
 ·omega
theorem zn7 {x l h:Int×Int}(hx:x.1≤x.2)(hl:l.1≤l.2)(hh:h.1≤h.2)(lh:l.1≤h.2):Sub x (ptB x l h):=λp e=>by
 unfold ptB at e
 split at e
 ·cases e
 ·split at e
  ·cases e
  ·cases e
   dsimp only
   split <;> split <;> omega
theorem zv6 {x:Int×Int}{a b:Option (Int×Int)}(h1:Sub x a)(h2:Sub x b):Sub x (joS a b):=λp e=>by
 cases a with
 | none=>exact h2 p e
 | some q=>cases b with
  | none=>exact h1 p e
  | some r=>
   have z1:=h1 q rfl
   have z2:=h2 r rfl
   cases e
   dsimp only
   split <;> split <;> omega
theorem zpw {n:Nat}{N M al bl ah bh:Int}(hn:1≤n)(ok:n%2=1∨0≤al∧0≤ah)(h1:zcm n N al bl)(h2:zcm n M ah bh)(h:N≤M):al≤bh:=by
 have a:=h1.ab
 have b:=h2.ab
 by_cases c:al≤bh
 ·exact c
 ·rcases ok with ho | ⟨o1,o2⟩
  ·have:=zsS ho (show bh<al by omega)
   omega
  ·have:=zlw (n:=n) (show 0≤bh by omega) (show bh<al by omega) hn
   omega
theorem zuS {z x:Int×Int}{n g:Int}(hz:z.1≤z.2)(hx:x.1≤x.2)(hg:1≤g)(hn:2≤n):Sub x (bpS z x n g):=by
 have gp:(0:Int)<g^(n-1).toNat:=Vax (by omega)
 have hzz:z.1*g^(n-1).toNat≤z.2*g^(n-1).toNat:=mlr hz (by omega)
 unfold bpS
 generalize g^(n-1).toNat=G at gp hzz
 generalize z.1*G=lo at hzz
 generalize z.2*G=hi at hzz
 have hn1:1≤n.toNat:=by omega
 split
 ·have ho:n.toNat%2=1:=by omega
  have r1:=(zj5 (N:=lo) hn1 (.inl ho)).1
  have r2:=(zj5 (N:=hi) hn1 (.inl ho)).1
  exact zn7 hx r1.ab.1 r2.ab.1 (zpw hn1 (.inl ho) r1 r2 hzz)
 ·split
  ·exact λp e=>by cases e
  ·have m0:0≤mx0 lo:=zca lo
   have r1:=zj5 (N:=mx0 lo) hn1 (.inr m0)
   have r2:=zj5 (N:=hi) hn1 (.inr (by omega))
   have le:mx0 lo≤hi:=zl1 hzz (by omega)
   have k:=zpw hn1 (.inr ⟨r1.2 m0,r2.2 (by omega)⟩) r1.1 r2.1 le
   have a1:=r1.1.ab.1
   have a2:=r2.1.ab.1
   refine zv6 (zn7 hx a1 a2 k) (zn7 hx ?_ ?_ ?_)
   ·show -(rtS hi n.toNat).2≤-(rtS hi n.toNat).1
    omega
   ·show -(rtS (mx0 lo) n.toNat).2≤-(rtS (mx0 lo) n.toNat).1
    omega
   ·show -(rtS hi n.toNat).2≤-(rtS (mx0 lo) n.toNat).1
    omega
theorem zdO {p q:Int×Int}:Sub p (zaT p q):=λr e=>by
 refine⟨zvn e,?_⟩
 unfold zaT at e
 have go:∀lo hi:Int,p.1≤lo→hi≤p.2→(if hi<lo then none else some (lo,hi))=some r→p.1≤r.1∧r.2≤p.2:=λlo hi a b e=>by
  split at e
  ·cases e
  ·cases e
   exact⟨a,b⟩
 refine go _ _ ?_ ?_ e
 ·split <;> omega
 ·split <;> omega
noncomputable def Nd.bk (vs:List (Int×Int))(z:Int×Int)(g:Int):Nd→Option (List (Int×(Int×Int)))
 | .plus i j=>bk2 i j (zaT (gt vs i) (z.1-(gt vs j).2,z.2-(gt vs j).1)) λx=>zaT (if i=j then x else gt vs j) (z.1-x.2,z.2-x.1)
 | .minus i j=>bk2 i j (zaT (gt vs i) (z.1+(gt vs j).1,z.2+(gt vs j).2)) λx=>zaT (if i=j then x else gt vs j) (x.1-z.2,x.2-z.1)
 | .times i j=>bk2 i j (btS z (gt vs i) (gt vs j) g) λx=>btS z (if i=j then x else gt vs j) x g
 | .power i n=>match bpS z (gt vs i) n g with
  | none=>none
  | some x=>some [(i,x)]
 | _=>some []
theorem Sz.in2 {B:Nat}{x p:Int×Int}(h1:Sz B x.1)(h2:Sz B x.2)(h:p.1≤p.2∧x.1≤p.1∧p.2≤x.2):p.1≤p.2∧Sz B p.1∧Sz B p.2:=⟨h.1,Sz.mid h1 h2 h.2.1 (by omega),Sz.mid h1 h2 (by omega) h.2.2⟩
def Pts (B:Nat)(m:Int)(l:List (Int×(Int×Int))):Prop:=l.length≤2∧∀p∈l,inR m p.1∧p.2.1≤p.2.2∧Sz B p.2.1∧Sz B p.2.2
theorem znH {B:Nat}{vs:List (Int×Int)}{i j:Int}{f:Option (Int×Int)}{s:Int×Int→Option (Int×Int)}{l:List (Int×(Int×Int))}(hs:Spn B vs)(hi:inR vs.length i)(hj:inR vs.length j)(h1:Sub (gt vs i) f)(h2:∀x,f=some x→Sub (if i=j then x else gt vs j) (s x))(h:bk2 i j f s=some l):Pts B vs.length l:=by
 unfold bk2 at h
 split at h
 ·cases h
 ·rename_i x
  split at h
  ·cases h
  ·rename_i y ey
   cases h
   have a:=(hs.at hi).2
   have b:=(hs.at hj).2
   have zx:=Sz.in2 a.1 a.2 (h1 x rfl)
   have zy:y.1≤y.2∧Sz B y.1∧Sz B y.2:=by
    have q:=h2 x rfl y ey
    split at q
    ·exact Sz.in2 zx.2.1 zx.2.2 q
    ·exact Sz.in2 b.1 b.2 q
   refine⟨by simp,λp hp=>?_⟩
   simp only[Vad,Vap,or_false] at hp
   rcases hp with rfl | rfl
   ·exact⟨hi,zx⟩
   ·exact⟨hj,zy⟩
theorem Nd.bk_pts {B:Nat}{vs:List (Int×Int)}{z:Int×Int}{g q:Int}(hs:Spn B vs)(hz:z.1≤z.2)(hg:1≤g):∀(v:Nd) (l:List (Int×(Int×Int))),v.ok vs.length q→v.bk vs z g=some l→Pts B vs.length l
 | .number _ _,l,_,h=>by cases h; exact⟨by simp,λp hp=>nomatch hp⟩
 | .unknown _,l,_,h=>by cases h; exact⟨by simp,λp hp=>nomatch hp⟩
 | .plus i j,l,ok,h=>znH hs ok.1 ok.2 zdO (λx _=>zdO) h
 | .minus i j,l,ok,h=>znH hs ok.1 ok.2 zdO (λx _=>zdO) h
 | .times i j,l,ok,h=>by
  have a:=(hs.at ok.1).1
  have b:=(hs.at ok.2).1
  have s1:=zmk (z:=z) (x:=gt vs i) (y:=gt vs j) hz a b hg
  refine znH hs ok.1 ok.2 s1 (λx e=>?_) h
  have lx:=(s1 x e).1
  refine zmk hz ?_ lx hg
  split
  ·exact lx
  ·exact b
 | .power i n,l,ok,h=>by
  have a:=hs.at ok.1
  have s1:=zuS (z:=z) (x:=gt vs i) (n:=n) hz a.1 hg ok.2.1
  unfold Nd.bk at h
  dsimp only at h
  split at h
  ·cases h
  ·rename_i x ex
   cases h
   refine⟨by simp,λp hp=>?_⟩
   simp only[Vad,Vap,or_false] at hp
   subst hp
   exact⟨ok.1,Sz.in2 a.2.1 a.2.2 (s1 x ex)⟩
def zbN (vs:List (Int×Int))(l:List (Int×(Int×Int))):List (Int×Int):=l.foldl (λa p=>a.set p.1.toNat p.2) vs
theorem zpg (vs:List (Int×Int))(l:List (Int×(Int×Int)))(p:Int×(Int×Int)):zbN vs (l++[p])=(zbN vs l).set p.1.toNat p.2:=by
 unfold zbN
 rw[List.foldl_append]
 rfl
theorem zd0:∀(l:List (Int×(Int×Int))) (vs:List (Int×Int)),(zbN vs l).length=vs.length
 | [],vs=>rfl
 | p::r,vs=>by
  show (zbN (vs.set p.1.toNat p.2) r).length=_
  rw[zd0 r,VaG]
theorem zv9 {vs:List (Int×Int)}{k:Int}{i:Int}{p:Int×Int}(hi:inR vs.length i)(hk:inR vs.length k):gt (vs.set k.toNat p) i=if i=k then p else gt vs i:=by
 have h0:=hi.1
 have h1:=hi.2
 have k0:=hk.1
 unfold gt
 rw[VaA,VaA,List.getElem?_set]
 by_cases e:i=k
 ·subst e
  rw[if_pos rfl,if_pos (by omega),if_pos rfl]
  rfl
 ·rw[if_neg (by omega),if_neg e]
theorem Spn.set2 {B:Nat}{vs:List (Int×Int)}(h:Spn B vs){k:Nat}{u:Int×Int}(hu:u.1≤u.2∧Sz B u.1∧Sz B u.2):Spn B (vs.set k u):=λp hp=>by
 rcases List.mem_or_eq_of_mem_set hp with e | e
 ·exact h p e
 ·subst e; exact hu
theorem zmD {B:Nat}:∀(l:List (Int×(Int×Int))) (vs:List (Int×Int)),Spn B vs→(∀p∈l,p.2.1≤p.2.2∧Sz B p.2.1∧Sz B p.2.2)→Spn B (zbN vs l)
 | [],vs,h,_=>h
 | p::r,vs,h,hl=>zmD r _ (h.set2 (hl p (.head _))) λq hq=>hl q (.tail _ hq)
noncomputable def zb9 (g:Int)(ns:List Nd):Nat→List (Int×Int)→Option (List (Int×Int))
 | 0,vs=>some vs
 | k+1,vs=>match ns[k]? with
  | none=>none
  | some v=>match v.bk vs (gt vs (k:Int)) g with
   | none=>none
   | some l=>zb9 g ns k (zbN vs l)
theorem znD {g:Int}{ns:List Nd}{k:Nat}{vs:List (Int×Int)}{v:Nd}(hv:ns[k]?=some v)(h:v.bk vs (gt vs (k:Int)) g=none):zb9 g ns (k+1) vs=none:=by
 unfold zb9
 rw[hv]
 dsimp only
 rw[h]
theorem znY {g:Int}{ns:List Nd}{k:Nat}{vs:List (Int×Int)}{v:Nd}{l:List (Int×(Int×Int))}(hv:ns[k]?=some v)(h:v.bk vs (gt vs (k:Int)) g=some l):zb9 g ns (k+1) vs=zb9 g ns k (zbN vs l):=by
 conv=>lhs; unfold zb9
 rw[hv]
 dsimp only
 rw[h]
def zc2 (zero:Bool)(s:Int×Int):Option (Int×Int):=zaT s (if zero then (0,0) else (0,mx0 s.2))
noncomputable def sbS (ns:List Nd)(zero:Bool)(k:Nat)(bs:List (Int×Int))(g:Int):Option (List (Int×Int)):=match zc2 zero (gt (zaC bs g (ns.take (k+1))) (k:Int)) with
 | none=>none
 | some w=>zb9 g ns (k+1) ((zaC bs g (ns.take (k+1))).set k w)
def zbk (bs:List (Int×Int))(l:List (Nd×(Int×Int))):List (Int×Int):=l.foldl (λa p=>match p.1 with
 | .unknown u=>a.set u.toNat p.2
 | _=>a) bs
theorem znf (bs:List (Int×Int))(l:List (Nd×(Int×Int)))(p:Nd×(Int×Int)):zbk bs (l++[p])=match p.1 with
 | .unknown u=>(zbk bs l).set u.toNat p.2
 | _=>zbk bs l:=by
 unfold zbk
 rw[List.foldl_append]
 rfl
noncomputable def nwS (ns:List Nd)(zero:Bool)(k:Nat)(bs:List (Int×Int))(g:Int):Option (List (Int×Int)):=(sbS ns zero k bs g).map λus=>zbk bs (ns.zip us)
theorem zo2 {q:Nat}{ns:List Nd}{ws:List Nat}{bs us:List (Int×Int)}(net:zaO q ns ws)(hq:q=bs.length)(P:Int→Int×Int→Prop)(h0:∀i:Int,inR bs.length i→P i (gt bs i))(hu:∀(k:Nat) (u:Int),ns[k]?=some (.unknown u)→k<us.length→P u (gt us (k:Int))):∀k,k≤(ns.zip us).length→(zbk bs ((ns.zip us).take k)).length=bs.length∧∀i:Int,inR bs.length i→P i (gt (zbk bs ((ns.zip us).take k)) i):=by
 intro k
 induction k with
 | zero=>intro _; exact⟨rfl,h0⟩
 | succ k ih=>
  intro hk
  obtain⟨ln,ih⟩:=ih (by omega)
  have hl:k<ns.length∧k<us.length:=by rw[List.length_zip] at hk; omega
  have hz:(ns.zip us)[k]?=some (ns[k],us[k]):=by rw[Vam (by omega)]; simp
  have hv:ns[k]?=some ns[k]:=Vam hl.1
  have eu:us[k]=gt us (k:Int):=by simp[gt,hl.2]
  rw[zbL hz,znf]
  dsimp only
  generalize ns[k]=v at hv
  cases v with
  | unknown u=>
   dsimp only
   have ok:inR q u:=(net.ok k _ hv).1
   rw[hq] at ok
   refine⟨by rw[VaG]; exact ln,λi hi=>?_⟩
   rw[zv9 (by rw[ln]; exact hi) (by rw[ln]; exact ok)]
   split
   ·rename_i e
    subst e
    rw[eu]
    exact hu k i hv hl.2
   ·exact ih i hi
  | number _ _=>exact⟨ln,ih⟩
  | plus _ _=>exact⟨ln,ih⟩
  | minus _ _=>exact⟨ln,ih⟩
  | times _ _=>exact⟨ln,ih⟩
  | power _ _=>exact⟨ln,ih⟩
theorem zov {q:Nat}{ns:List Nd}{ws:List Nat}{B:Nat}{g:Int}(net:zaO q ns ws)(hg:1≤g):∀(k:Nat) (vs us:List (Int×Int)),k≤vs.length→Spn B vs→zb9 g ns k vs=some us→us.length=vs.length∧Spn B us
 | 0,vs,us,_,hs,e=>by cases e; exact⟨rfl,hs⟩
 | k+1,vs,us,hk,hs,e=>by
  cases hv:ns[k]? with
  | none=>
   unfold zb9 at e
   rw[hv] at e
   cases e
  | some v=>
   have ok:v.ok vs.length q:=zom (by omega) (net.ok k v hv).1
   have ik:inR ((vs.length:Nat):Int) (k:Int):=⟨by omega,by omega⟩
   cases el:v.bk vs (gt vs (k:Int)) g with
   | none=>rw[znD hv el] at e; cases e
   | some l=>
    have P:=v.bk_pts hs (hs.at ik).1 hg l ok el
    rw[znY hv el] at e
    have z:=zov net hg k (zbN vs l) us (by rw[zd0]; omega) (zmD l vs hs λp hp=>(P.2 p hp).2) e
    rw[zd0] at z
    exact z
theorem zlM {zero:Bool}{s:Int×Int}:Sub s (zc2 zero s):=zdO
theorem zvx {B:Nat}{vs:List (Int×Int)}(h:∀i:Int,inR vs.length i→(gt vs i).1≤(gt vs i).2∧Sz B (gt vs i).1∧Sz B (gt vs i).2):Spn B vs:=λp hp=>by
 obtain⟨k,hk,e⟩:=VaL.mp hp
 have z:=h (k:Int) ⟨by omega,by omega⟩
 have e2:gt vs (k:Int)=p:=by simp[gt,hk,e]
 rw[e2] at z
 exact z
theorem zrI {vs:List (Int×Int)}(h:Spn 51 vs):Spn 1000 vs:=h.mono (by decide)
theorem zxz {ns:List Nd}{ws:List Nat}{zero:Bool}{k:Nat}{bs r:List (Int×Int)}{g:Int}(net:zaO bs.length ns ws)(gp:Spn 51 bs)(hg:1≤g∧g≤1000000)(hk:k<ns.length)(e:nwS ns zero k bs g=some r):r.length=bs.length∧Spn 1000 r:=by
 unfold nwS at e
 obtain⟨us,eu,er⟩:=Vah.mp e
 have s1:Spn 1000 (zaC bs g (ns.take (k+1))):=zd7 net rfl gp hg (k+1) (by omega)
 have l1:(zaC bs g (ns.take (k+1))).length=k+1:=by rw[zc5,Var]; omega
 unfold sbS at eu
 split at eu
 ·cases eu
 ·rename_i w ew
  have a:=s1.at (i:=(k:Int)) ⟨by omega,by rw[l1]; omega⟩
  have zw:=Sz.in2 a.2.1 a.2.2 (zlM w ew)
  obtain⟨lu,su⟩:=zov net hg.1 (k+1) _ us (by rw[VaG,l1]; omega) (s1.set2 zw) eu
  rw[VaG,l1] at lu
  have lz:(ns.zip us).length=k+1:=by rw[List.length_zip]; omega
  obtain⟨lr,P⟩:=zo2 net rfl (us:=us) (bs:=bs) (λ_ p=>p.1≤p.2∧Sz 1000 p.1∧Sz 1000 p.2) (λi hi=>(zrI gp).at hi) (λj u _ hj=>su.at ⟨by omega,by omega⟩) (ns.zip us).length (Vab _)
  rw[VaM] at lr P
  subst er
  exact⟨lr,zvx λi hi=>P i (by rw[← lr]; exact hi)⟩
theorem zwt {ns:List Nd}{ws:List Nat}{zero:Bool}{k:Nat}{bs us:List (Int×Int)}{g:Int}(net:zaO bs.length ns ws)(gp:Spn 51 bs)(hg:1≤g∧g≤1000000)(hk:k<ns.length)(eu:sbS ns zero k bs g=some us):us.length=k+1:=by
 have s1:Spn 1000 (zaC bs g (ns.take (k+1))):=zd7 net rfl gp hg (k+1) (by omega)
 have l1:(zaC bs g (ns.take (k+1))).length=k+1:=by rw[zc5,Var]; omega
 unfold sbS at eu
 split at eu
 ·cases eu
 ·rename_i w ew
  have a:=s1.at (i:=(k:Int)) ⟨by omega,by rw[l1]; omega⟩
  have zw:=Sz.in2 a.2.1 a.2.2 (zlM w ew)
  obtain⟨lu,su⟩:=zov net hg.1 (k+1) _ us (by rw[VaG,l1]; omega) (s1.set2 zw) eu
  rw[VaG,l1] at lu
  exact lu
theorem zqg {ns:List Nd}{us:List (Int×Int)}{i:Nat}{v:Nd}{p:Int×Int}(h1:ns[i]?=some v)(h2:us[i]?=some p):(ns.zip us)[i]?=some (v,p):=by
 obtain⟨a1,rfl⟩:=Vac.mp h1
 obtain⟨a2,rfl⟩:=Vac.mp h2
 rw[Vam (by rw[List.length_zip]; omega)]
 simp
def rwW (zero:Bool)(w:Str):Prop:=zero=true∧w="zero"∨zero=false∧w="least"
def Hv (hv:Nat)(ws:List Nat):Prop:=∀k:Nat,ws.getD k 0≤hv
theorem zw5 {hv:Nat}(h:1≤hv)(ns:List Nd):Hv hv (ns.map λ_=>1):=λk=>by
 rw[VaA,Vae]
 cases ns[k]? with
 | none=>exact Vau _
 | some _=>exact h
theorem zpj {hv w:Nat}{ws:List Nat}(h:Hv hv ws)(hw:w≤hv):Hv hv (ws++[w]):=λk=>by
 by_cases c:k<ws.length
 ·rw[znG c]
  exact h k
 ·rw[VaA,VaP (by omega)]
  match k-ws.length with
  | 0=>exact hw
  | j+1=>exact Vau _
theorem Gr.pre {q a:Nat}{S T:Sto}{ns:List Nd}{ws:List Nat}(net:zaO q ns ws)(h:S[a]?=some (.lst (ns.map Nd.d)))(pr:Pre S T)(hl:S.length≤T.length):Gr q a 0 S ns ws T ns ws:=⟨net,⟨[],by simp,by simp⟩,⟨[],by simp⟩,pr _ _ h,hl,λx o _ e=>pr x o e⟩
def FdAt (o:Option (List (Int×Int)))(L:Nat)(S:Sto)(fd:D):Prop:=(fd=.non∧o=none)∨∃(r:List (Int×Int)) (mf:Nat),fd=.ref mf∧o=some r∧S[mf]?=some (.lst (r.map frD))∧L≤mf
theorem nine {i:Int}(h:(if i<0 then -i else i)<10^Int.toNat 9):i.natAbs≤10^9:=by
 have e:(10:Int)^Int.toNat 9=1000000000:=rfl
 split at h <;> omega
theorem nine3 {u:Int}(h:u<10^Int.toNat 9):u≤10^9:=by
 have e:(10:Int)^Int.toNat 9=1000000000:=rfl
 omega
theorem zrJ (hv:Nat):Hv hv []:=λk=>by simp
theorem za1.same {x0 x1 L U L' U':Int}{V Sp Sp':Int→Int→Prop}(h:za1 x0 x1 V Sp L U)(h':za1 x0 x1 V Sp' L' U'):L=L'∧U=U':=by
 obtain⟨a,b,_,b0,a0,a1,av,al⟩:=h.lo
 obtain⟨c,d,_,d0,c0,c1,cv,cl⟩:=h'.lo
 obtain⟨e,f,_,f0,e0,e1,ev,el⟩:=h.hi
 obtain⟨i,j,_,j0,i0,i1,iv,il⟩:=h'.hi
 have l1:=(h'.all a b b0 a0 a1 av).1
 have l2:=(h.all c d d0 c0 c1 cv).1
 have u1:=(h'.all e f f0 e0 e1 ev).2
 have u2:=(h.all i j j0 i0 i1 iv).2
 have k:∀ {m n q:Int},0<q→m*q<n*q→m<n:=λhq h=>Int.lt_of_mul_lt_mul_right h (Vaf hq)
 have z1:L'<L+1:=k b0 (by omega)
 have z2:L<L'+1:=k d0 (by omega)
 have z3:U-1<U':=k f0 (by omega)
 have z4:U'-1<U:=k j0 (by omega)
 omega
abbrev PcV (l h:Option (Int×Int))(p q:Int):Prop:=(∀a,l=some a→a.1*q≤p*a.2)∧∀b,h=some b→p*b.2≤b.1*q
abbrev PcS (x:Int×Int)(l h:Option (Int×Int))(p q:Int):Prop:=(p=x.1∧q=1)∨(p=x.2∧q=1)∨(∃a,l=some a∧p=a.1∧q=a.2)∨∃b,h=some b∧p=b.1∧q=b.2
def kpS (x:Int×Int)(l h:Option (Int×Int)):Option (Int×Int):=
 match (match l with
  | none=>some x.1
  | some a=>if a.1 > x.2*a.2 then none else some (if a.1/a.2 > x.1 then a.1/a.2 else x.1)) with
 | none=>none
 | some lo=>match h with
  | none=>some (lo,x.2)
  | some b=>if b.1<x.1*b.2 then none else some (lo,if -(-b.1/b.2)<x.2 then -(-b.1/b.2) else x.2)
theorem zw6 {x:Int×Int}{l h:Option (Int×Int)}(hx:x.1≤x.2)(hl:∀a,l=some a→0<a.2∧a.1≤x.2*a.2)(hh:∀b,h=some b→0<b.2∧x.1*b.2≤b.1)(lh:∀a b,l=some a→h=some b→a.1*b.2≤b.1*a.2){L:Int}(eL:(∀a,l=some a→L=if a.1/a.2 > x.1 then a.1/a.2 else x.1)∧(l=none→L=x.1)):(∀p q,0<q→x.1*q≤p→PcV l h p q→L*q≤p)∧∃p q,PcS x l h p q∧0<q∧x.1*q≤p∧p≤x.2*q∧PcV l h p q∧p<(L+1)*q:=by
 cases l with
 | none=>
  have e:=eL.2 rfl
  subst e
  refine⟨λp q _ h1 _=>h1,x.1,1,.inl ⟨rfl,rfl⟩,by decide,by omega,by omega,⟨λa e=>(by cases e),λb e=>?_⟩,by omega⟩
  have:=(hh b e).2
  omega
 | some a=>
  have e:=eL.1 a rfl
  obtain⟨a0,a1⟩:=hl a rfl
  obtain⟨d1,d2⟩:=dl a.1 a0
  have low:∀p q,0<q→a.1*q≤p*a.2→a.1/a.2*q≤p:=λp q hq h=>by
   have z:=mlr d1 (Vaf hq)
   have r:a.1/a.2*a.2*q=a.1/a.2*q*a.2:=by grind
   exact can (show a.1/a.2*q*a.2≤p*a.2 by omega) a0
  refine⟨λp q hq h1 v=>?_,?_⟩
  ·rw[e]
   split
   ·exact low p q hq (v.1 a rfl)
   ·exact h1
  ·by_cases c:a.1≤x.1*a.2
   ·have q1:a.1/a.2≤x.1:=by
     have:=can (show a.1/a.2*a.2≤x.1*a.2 by omega) a0
     exact this
    rw[if_neg (by omega)] at e
    subst e
    refine⟨x.1,1,.inl ⟨rfl,rfl⟩,by decide,by omega,by omega,⟨λb eb=>?_,λb eb=>?_⟩,by omega⟩
    ·cases eb
     omega
    ·have:=(hh b eb).2
     omega
   ·refine⟨a.1,a.2,.inr (.inr (.inl ⟨a,rfl,rfl,rfl⟩)),a0,by omega,a1,⟨λb eb=>?_,λb eb=>lh a b rfl eb⟩,?_⟩
    ·cases eb
     omega
    ·have le:a.1/a.2≤L:=by rw[e]; split <;> omega
     have:=mlr (show a.1/a.2+1≤L+1 by omega) (Vaf a0)
     omega
theorem zxN {x:Int×Int}{l h:Option (Int×Int)}(hx:x.1≤x.2)(hl:∀a,l=some a→0<a.2∧a.1≤x.2*a.2)(hh:∀b,h=some b→0<b.2∧x.1*b.2≤b.1)(lh:∀a b,l=some a→h=some b→a.1*b.2≤b.1*a.2){U:Int}(eU:(∀b,h=some b→U=if -(-b.1/b.2)<x.2 then -(-b.1/b.2) else x.2)∧(h=none→U=x.2)):(∀p q,0<q→p≤x.2*q→PcV l h p q→p≤U*q)∧∃p q,PcS x l h p q∧0<q∧x.1*q≤p∧p≤x.2*q∧PcV l h p q∧(U-1)*q<p:=by
 cases h with
 | none=>
  have e:=eU.2 rfl
  subst e
  refine⟨λp q _ h1 _=>h1,x.2,1,.inr (.inl ⟨rfl,rfl⟩),by decide,by omega,by omega,⟨λa e=>?_,λb e=>(by cases e)⟩,by omega⟩
  have:=(hl a e).2
  omega
 | some b=>
  have e:=eU.1 b rfl
  obtain⟨b0,b1⟩:=hh b rfl
  obtain⟨d1,d2⟩:=dh b.1 b0
  have high:∀p q,0<q→p*b.2≤b.1*q→p≤-(-b.1/b.2)*q:=λp q hq h=>by
   have z:=mlr d1 (Vaf hq)
   have r:-(-b.1/b.2)*b.2*q=-(-b.1/b.2)*q*b.2:=by grind
   exact can (show p*b.2≤-(-b.1/b.2)*q*b.2 by omega) b0
  refine⟨λp q hq h1 v=>?_,?_⟩
  ·rw[e]
   split
   ·exact high p q hq (v.2 b rfl)
   ·exact h1
  ·by_cases c:x.2*b.2≤b.1
   ·have q1:x.2≤-(-b.1/b.2):=can (show x.2*b.2≤-(-b.1/b.2)*b.2 by omega) b0
    rw[if_neg (by omega)] at e
    subst e
    refine⟨x.2,1,.inr (.inl ⟨rfl,rfl⟩),by decide,by omega,by omega,⟨λa ea=>?_,λa ea=>?_⟩,by omega⟩
    ·have:=(hl a ea).2
     omega
    ·cases ea
     omega
   ·refine⟨b.1,b.2,.inr (.inr (.inr ⟨b,rfl,rfl,rfl⟩)),b0,b1,by omega,⟨λa ea=>lh a b ea rfl,λa ea=>?_⟩,?_⟩
    ·cases ea
     omega
    ·have le:U≤-(-b.1/b.2):=by rw[e]; split <;> omega
     have:=mlr (show U-1≤-(-b.1/b.2)-1 by omega) (Vaf b0)
     omega
theorem zqE {x:Int×Int}{l h:Option (Int×Int)}(hx:x.1≤x.2)(hl:∀a,l=some a→0<a.2)(hh:∀b,h=some b→0<b.2)(lh:∀a b,l=some a→h=some b→a.1*b.2≤b.1*a.2):(kpS x l h=none→NoV x.1 x.2 (PcV l h))∧∀r,kpS x l h=some r→za1 x.1 x.2 (PcV l h) (PcS x l h) r.1 r.2:=by
 have nl:∀a,l=some a→a.1 > x.2*a.2→NoV x.1 x.2 (PcV l h):=λa e c p q hq _ h2 v=>by
  have a0:=hl a e
  have z:=v.1 a e
  have y:=mlr h2 (Vaf a0)
  have r:x.2*q*a.2=x.2*a.2*q:=by grind
  have:=can (show a.1*q≤x.2*a.2*q by omega) hq
  omega
 have nh:∀b,h=some b→b.1<x.1*b.2→NoV x.1 x.2 (PcV l h):=λb e c p q hq h1 _ v=>by
  have b0:=hh b e
  have z:=v.2 b e
  have y:=mlr h1 (Vaf b0)
  have r:x.1*q*b.2=x.1*b.2*q:=by grind
  have:=can (show x.1*b.2*q≤b.1*q by omega) hq
  omega
 have mk:∀ {L U:Int},(∀a,l=some a→a.1≤x.2*a.2)→(∀b,h=some b→x.1*b.2≤b.1)→((∀a,l=some a→L=if a.1/a.2 > x.1 then a.1/a.2 else x.1)∧(l=none→L=x.1))→((∀b,h=some b→U=if -(-b.1/b.2)<x.2 then -(-b.1/b.2) else x.2)∧(h=none→U=x.2))→za1 x.1 x.2 (PcV l h) (PcS x l h) L U:=λca cb eL eU=>by
  have A:=zw6 hx (λa e=>⟨hl a e,ca a e⟩) (λb e=>⟨hh b e,cb b e⟩) lh eL
  have B:=zxN hx (λa e=>⟨hl a e,ca a e⟩) (λb e=>⟨hh b e,cb b e⟩) lh eU
  exact⟨λp q hq h1 h2 v=>⟨A.1 p q hq h1 v,B.1 p q hq h2 v⟩,A.2,B.2⟩
 unfold kpS
 cases l with
 | none=>cases h with
  | none=>exact⟨λe=>(by cases e),λr e=>by cases e; exact mk (λa e=>(by cases e)) (λb e=>(by cases e)) ⟨λa e=>(by cases e),λ_=>rfl⟩ ⟨λb e=>(by cases e),λ_=>rfl⟩⟩
  | some b=>
   dsimp only
   split
   ·rename_i c
    exact⟨λ_=>nh b rfl c,λr e=>(by cases e)⟩
   ·rename_i c
    exact⟨λe=>(by cases e),λr e=>by cases e; exact mk (λa e=>(by cases e)) (λb' e=>by cases e; omega) ⟨λa e=>(by cases e),λ_=>rfl⟩ ⟨λb' e=>by cases e; rfl,λe=>(by cases e)⟩⟩
 | some a=>
  dsimp only
  by_cases ca:a.1 > x.2*a.2
  ·rw[if_pos ca]
   exact⟨λ_=>nl a rfl ca,λr e=>(by cases e)⟩
  ·rw[if_neg ca]
   dsimp only
   cases h with
   | none=>exact⟨λe=>(by cases e),λr e=>by cases e; exact mk (λa' e=>by cases e; omega) (λb e=>(by cases e)) ⟨λa' e=>by cases e; rfl,λe=>(by cases e)⟩ ⟨λb e=>(by cases e),λ_=>rfl⟩⟩
   | some b=>
    dsimp only
    split
    ·rename_i c
     exact⟨λ_=>nh b rfl c,λr e=>(by cases e)⟩
    ·rename_i c
     exact⟨λe=>(by cases e),λr e=>by cases e; exact mk (λa' e=>by cases e; omega) (λb' e=>by cases e; omega) ⟨λa' e=>by cases e; rfl,λe=>(by cases e)⟩ ⟨λb' e=>by cases e; rfl,λe=>(by cases e)⟩⟩
structure zbO (x:Int×Int)(V:Int→Int→Prop)(o:Option (Int×Int)):Prop where
 no:o=none→NoV x.1 x.2 V
 is:∀r,o=some r→∃Sp,za1 x.1 x.2 V Sp r.1 r.2
theorem zbO.same {x:Int×Int}{V:Int→Int→Prop}{o o':Option (Int×Int)}(h:zbO x V o)(h':zbO x V o'):o=o':=by
 have no:∀ {r:Int×Int} {Sp:Int→Int→Prop},za1 x.1 x.2 V Sp r.1 r.2→¬ NoV x.1 x.2 V:=λt n=>by
  obtain⟨p,q,_,q0,p0,p1,v,_⟩:=t.lo
  exact n p q q0 p0 p1 v
 cases o with
 | none=>cases o' with
  | none=>rfl
  | some r=>
   obtain⟨_,t⟩:=h'.is r rfl
   exact absurd (h.no rfl) (no t)
 | some r=>
  obtain⟨_,t⟩:=h.is r rfl
  cases o' with
  | none=>exact absurd (h'.no rfl) (no t)
  | some r'=>
   obtain⟨_,t'⟩:=h'.is r' rfl
   have z:=t.same t'
   exact congrArg some (Prod.ext z.1 z.2)
theorem zbO.mono {x:Int×Int}{V V':Int→Int→Prop}{o:Option (Int×Int)}(h:zbO x V o)(hv:∀p q,0<q→(V p q↔V' p q)):zbO x V' o:=
 ⟨λe p q hq h1 h2 v=>h.no e p q hq h1 h2 ((hv p q hq).mpr v),λr e=>by
  obtain⟨Sp,t⟩:=h.is r e
  exact⟨Sp,t.mono hv λ_ _ _ z=>z⟩⟩
theorem zbO.or {x:Int×Int}{V V':Int→Int→Prop}{o o':Option (Int×Int)}(h:zbO x V o)(h':zbO x V' o'):zbO x (λp q=>V p q∨V' p q) (joS o o'):=by
 cases o with
 | none=>cases o' with
  | none=>exact⟨λ_ p q hq h1 h2 v=>v.elim (h.no rfl p q hq h1 h2) (h'.no rfl p q hq h1 h2),λr e=>(by cases e)⟩
  | some r=>exact⟨λe=>(by cases e),λs e=>by
    cases e
    obtain⟨Sp,t⟩:=h'.is r rfl
    exact⟨Sp,t.right (h.no rfl)⟩⟩
 | some r=>
  obtain⟨Sp,t⟩:=h.is r rfl
  cases o' with
  | none=>exact⟨λe=>(by cases e),λs e=>by
    cases e
    exact⟨Sp,t.left (h'.no rfl)⟩⟩
  | some r'=>
   obtain⟨Sp',t'⟩:=h'.is r' rfl
   refine⟨λe=>(by cases e),λs e=>?_⟩
   cases e
   refine⟨_,t.both t' ?_ ?_⟩
   ·dsimp only
    split <;> omega
   ·dsimp only
    split <;> omega
theorem zo3 {x:Int×Int}{l h:Option (Int×Int)}(hx:x.1≤x.2)(hl:∀a,l=some a→0<a.2)(hh:∀b,h=some b→0<b.2)(lh:∀a b,l=some a→h=some b→a.1*b.2≤b.1*a.2):zbO x (PcV l h) (kpS x l h):=
 ⟨(zqE hx hl hh lh).1,λr e=>⟨_,(zqE hx hl hh lh).2 r e⟩⟩
theorem zpS {z x y:Int×Int}{g:Int}(hz:z.1≤z.2)(hx:x.1≤x.2)(hy:y.1≤y.2)(hg:1≤g):zbO x (Ans (z.1*g) (z.2*g) y.1 y.2) (btS z x y g):=
 ⟨(zoe hz hx hy hg).1,λr e=>⟨_,(zoe hz hx hy hg).2 r e⟩⟩
def nrm (t b:Int):Int×Int:=if b > 0 then (t,b) else (-t,-b)
def za8 (lo hi:Int)(y:Int×Int):List (Int×Int):=[nrm lo y.1,nrm lo y.2,nrm hi y.1,nrm hi y.2]
def zoU (es:List (Int×Int))(a:Int×Int):Prop:=a∈es∧∀e∈es,a.1*e.2≤e.1*a.2
def zok (es:List (Int×Int))(a:Int×Int):Prop:=a∈es∧∀e∈es,e.1*a.2≤a.1*e.2
theorem zqQ {a b c d p q:Int}(hq:0<q)(hb:0<b)(hd:0<d)(h1:a*d≤c*b)(h2:c*q≤p*d):a*q≤p*b:=by
 have e1:=mlr h1 (Vaf hq)
 have e2:=mlr h2 (Vaf hb)
 have r1:a*d*q=a*q*d:=by grind
 have r2:c*b*q=c*q*b:=by grind
 have r3:p*d*b=p*b*d:=by grind
 exact can (show a*q*d≤p*b*d by omega) hd
theorem zpV {a b c d p q:Int}(hq:0<q)(hb:0<b)(hd:0<d)(h1:c*b≤a*d)(h2:p*d≤c*q):p*b≤a*q:=by
 have e1:=mlr h1 (Vaf hq)
 have e2:=mlr h2 (Vaf hb)
 have r1:a*d*q=a*q*d:=by grind
 have r2:c*b*q=c*q*b:=by grind
 have r3:p*d*b=p*b*d:=by grind
 exact can (show p*b*d≤a*q*d by omega) hd
theorem zua {lo hi:Int}{y a b:Int×Int}(hz:lo≤hi)(hy:y.1≤y.2)(out:y.1 > 0∨y.2<0)(ha:zoU (za8 lo hi y) a)(hb:zok (za8 lo hi y) b):0<a.2∧0<b.2∧a.1*b.2≤b.1*a.2∧∀p q,0<q→(PcV (some a) (some b) p q↔Ans lo hi y.1 y.2 p q):=by
 have pos:∀e∈za8 lo hi y,0<e.2:=λe he=>by
  unfold za8 nrm at he
  simp only[Vad,Vap,or_false] at he
  rcases he with rfl | rfl | rfl | rfl <;> split <;> dsimp only <;> omega
 have a0:=pos a ha.1
 have b0:=pos b hb.1
 refine⟨a0,b0,ha.2 b hb.1,λp q hq=>?_⟩
 have lowI:a.1*q≤p*a.2↔∃e∈za8 lo hi y,e.1*q≤p*e.2:=⟨λh=>⟨a,ha.1,h⟩,λ⟨e,he,h⟩=>zqQ hq a0 (pos e he) (ha.2 e he) h⟩
 have hiI:p*b.2≤b.1*q↔∃e∈za8 lo hi y,p*e.2≤e.1*q:=⟨λh=>⟨b,hb.1,h⟩,λ⟨e,he,h⟩=>zpV hq b0 (pos e he) (hb.2 e he) h⟩
 have hlq:lo*q≤hi*q:=mlr hz (Vaf hq)
 have pc:PcV (some a) (some b) p q↔(∃e∈za8 lo hi y,e.1*q≤p*e.2)∧∃e∈za8 lo hi y,p*e.2≤e.1*q:=by
  rw[← lowI,← hiI]
  exact⟨λh=>⟨h.1 a rfl,h.2 b rfl⟩,λh=>⟨λc e=>by cases e; exact h.1,λc e=>by cases e; exact h.2⟩⟩
 rw[pc]
 unfold za8 Ans
 simp only[Vad,Vap,or_false,exists_eq_or_imp,exists_eq_left]
 rcases out with o | o
 ·have n1:∀t,nrm t y.1=(t,y.1):=λt=>if_pos (by omega)
  have n2:∀t,nrm t y.2=(t,y.2):=λt=>if_pos (by omega)
  rw[n1,n2,n1,n2]
  dsimp only
  omega
 ·have n1:∀t,nrm t y.1=(-t,-y.1):=λt=>if_neg (by omega)
  have n2:∀t,nrm t y.2=(-t,-y.2):=λt=>if_neg (by omega)
  rw[n1,n2,n1,n2]
  dsimp only
  simp only[Vag,VaV]
  omega
abbrev abI (i:Int):Int:=if i<0 then -i else i
def zaW (lo hi:Int):Int:=if hi<0 then hi else lo
def pcB (e b:Int):Option (Int×Int)×Option (Int×Int):=if decide (e > 0)=decide (b > 0) then (some (abI e,abI b),none) else (none,some (-abI e,abI b))
theorem zvA {lo hi e b:Int}{x:Int×Int}(hx:x.1≤x.2)(hb:b≠0)(he:e≠0):zbO x (λp q=>if e > 0 then e*q≤p*b else p*b≤e*q) (kpS x (pcB e b).1 (pcB e b).2):=by
 have ab:0<abI b:=by unfold abI; split <;> omega
 by_cases c:decide (e > 0)=decide (b > 0)
 ·rw[show pcB e b=(some (abI e,abI b),none) from if_pos c]
  refine(zo3 (l:=some (abI e,abI b)) (h:=none) hx (λa z=>by cases z; exact ab) (λb z=>(by cases z)) (λa b _ z=>(by cases z))).mono λp q hq=>?_
  have pc:PcV (some (abI e,abI b)) none p q↔abI e*q≤p*abI b:=⟨λh=>h.1 _ rfl,λh=>⟨λa z=>by cases z; exact h,λb z=>(by cases z)⟩⟩
  rw[pc]
  by_cases e0:e > 0
  ·have b0:b > 0:=by
    rw[decide_eq_true e0] at c
    exact of_decide_eq_true c.symm
   have q1:abI e=e:=if_neg (by omega)
   have q2:abI b=b:=if_neg (by omega)
   rw[if_pos e0,q1,q2]
  ·have b0:¬ b > 0:=by
    rw[decide_eq_false e0] at c
    exact of_decide_eq_false c.symm
   have q1:abI e=-e:=if_pos (by omega)
   have q2:abI b=-b:=if_pos (by omega)
   rw[if_neg e0,q1,q2,Vag,VaV]
   omega
 ·rw[show pcB e b=(none,some (-abI e,abI b)) from if_neg c]
  refine(zo3 (l:=none) (h:=some (-abI e,abI b)) hx (λa z=>(by cases z)) (λb z=>by cases z; exact ab) (λa b z=>(by cases z))).mono λp q hq=>?_
  have pc:PcV none (some (-abI e,abI b)) p q↔p*abI b≤-abI e*q:=⟨λh=>h.2 _ rfl,λh=>⟨λa z=>(by cases z),λb z=>by cases z; exact h⟩⟩
  rw[pc]
  by_cases e0:e > 0
  ·have b0:¬ b > 0:=λz=>c (by rw[decide_eq_true e0,decide_eq_true z])
   have q1:abI e=e:=if_neg (by omega)
   have q2:abI b=-b:=if_pos (by omega)
   rw[if_pos e0,q1,q2,Vag,VaV]
   omega
  ·have b0:b > 0:=by
    by_cases z:b > 0
    ·exact z
    ·exact absurd (by rw[decide_eq_false e0,decide_eq_false z]) c
   have q1:abI e=-e:=if_pos (by omega)
   have q2:abI b=b:=if_neg (by omega)
   rw[if_neg e0,q1,q2,Va0]
def qtB (e:Int)(x:Int×Int)(b:Int):Option (Int×Int):=if b=0 then none else kpS x (pcB e b).1 (pcB e b).2
theorem zwk {lo hi:Int}{x y:Int×Int}(hx:x.1≤x.2)(hz:lo≤hi)(y0:y.1≤0)(y1:0≤y.2)(nz:lo > 0∨hi<0):zbO x (Ans lo hi y.1 y.2) (joS (qtB (zaW lo hi) x y.1) (qtB (zaW lo hi) x y.2)):=by
 have he:zaW lo hi≠0:=by unfold zaW; split <;> omega
 have one:∀b,zbO x (λp q=>b≠0∧if zaW lo hi > 0 then zaW lo hi*q≤p*b else p*b≤zaW lo hi*q) (qtB (zaW lo hi) x b):=λb=>by
  by_cases c:b=0
  ·rw[show qtB (zaW lo hi) x b=none from if_pos c]
   exact⟨λ_ p q _ _ _ v=>v.1 c,λr e=>(by cases e)⟩
  ·rw[show qtB (zaW lo hi) x b=kpS x (pcB (zaW lo hi) b).1 (pcB (zaW lo hi) b).2 from if_neg c]
   exact(zvA (lo:=lo) (hi:=hi) hx c he).mono λp q _=>⟨λh=>⟨c,h⟩,λh=>h.2⟩
 refine((one y.1).or (one y.2)).mono λp q hq=>?_
 have m:p*y.1≤0∨p*y.2≤0:=by
  by_cases c:0≤p
  ·exact .inl (Int.mul_nonpos_of_nonneg_of_nonpos c y0)
  ·exact .inr (Int.mul_nonpos_of_nonpos_of_nonneg (by omega) y1)
 have n:0≤p*y.1∨0≤p*y.2:=by
  by_cases c:0≤p
  ·exact .inr (Vav c y1)
  ·exact .inl (Int.mul_nonneg_of_nonpos_of_nonpos (by omega) y0)
 have hlq:lo*q≤hi*q:=mlr hz (Vaf hq)
 unfold Ans
 rcases nz with c | c
 ·have ee:zaW lo hi=lo:=if_neg (by omega)
  have lp:=Int.mul_pos c hq
  rw[ee,if_pos c,if_pos c]
  have k1:lo*q≤p*y.1→y.1≠0:=λh e=>by rw[e] at h; omega
  have k2:lo*q≤p*y.2→y.2≠0:=λh e=>by rw[e] at h; omega
  omega
 ·have ee:zaW lo hi=hi:=if_pos c
  have hp:hi*q<0:=Int.mul_neg_of_neg_of_pos c hq
  rw[ee,if_neg (by omega),if_neg (by omega)]
  have k1:p*y.1≤hi*q→y.1≠0:=λh e=>by rw[e] at h; omega
  have k2:p*y.2≤hi*q→y.2≠0:=λh e=>by rw[e] at h; omega
  omega
theorem zwU {z x y:Int×Int}{g:Int}(hz:z.1≤z.2)(hx:x.1≤x.2)(hy:y.1≤y.2)(hg:1≤g)(y0:y.1≤0)(y1:0≤y.2)(nz:¬ (z.1≤0∧0≤z.2)):joS (qtB (zaW (z.1*g) (z.2*g)) x y.1) (qtB (zaW (z.1*g) (z.2*g)) x y.2)=btS z x y g:=by
 refine(zwk hx (mlr hz (by omega)) y0 y1 ?_).same (zpS hz hx hy hg)
 by_cases c:z.1 > 0
 ·exact .inl (Int.mul_pos c (by omega))
 ·exact .inr (Int.mul_neg_of_neg_of_pos (by omega) (by omega))
theorem zwS {z x y a b:Int×Int}{g:Int}(hz:z.1≤z.2)(hx:x.1≤x.2)(hy:y.1≤y.2)(hg:1≤g)(out:y.1 > 0∨y.2<0)(ha:zoU (za8 (z.1*g) (z.2*g) y) a)(hb:zok (za8 (z.1*g) (z.2*g) y) b):kpS x (some a) (some b)=btS z x y g:=by
 obtain⟨a0,b0,ab,iff⟩:=zua (mlr hz (by omega)) hy out ha hb
 exact((zo3 hx (λc e=>by cases e; exact a0) (λc e=>by cases e; exact b0) (λc d e f=>by cases e; cases f; exact ab)).mono iff).same (zpS hz hx hy hg)
theorem zne (N:Int)(n:Nat):(rt0 N n).1=rbS N n:=by
 unfold rt0
 split <;> rfl
theorem zoE (N:Int)(n:Nat):(rt0 N n).2=if (rbS N n)^n=N then rbS N n else rbS N n+1:=by
 unfold rt0
 split <;> rfl
theorem ziN {N:Int}{n:Nat}(hn:1≤n)(h0:0≤N):0≤rbS N n∧(rbS N n)^n≤N∧N<(rbS N n+1)^n:=by
 obtain⟨r,r0,r1,r2⟩:=zoJ hn h0
 rw[← zeC r0 r1 r2]
 exact⟨r0,r1,r2⟩
theorem zs2 {N r m:Int}{n:Nat}(hn:1≤n)(h0:0≤N)(r0:0≤r)(rm:r≤m)(r1:r^n≤N)(r2:r=m∨N<(r+1)^n):r=if rbS N n<m then rbS N n else m:=by
 obtain⟨b0,b1,b2⟩:=ziN hn h0
 have le:r≤rbS N n:=by
  have:=plt (n:=n) (show 0≤rbS N n+1 by omega) (Int.lt_of_le_of_lt r1 b2)
  omega
 rcases r2 with e | e
 ·subst e
  rw[if_neg (by omega)]
 ·have:=zeC r0 r1 e
  rw[← this]
  split <;> omega
noncomputable def dnS (N:Int)(n:Nat)(m:Int):Int:=if N≥0 then (if rbS N n<m then rbS N n else m) else -(if (rt0 (-N) n).2<m+1 then (rt0 (-N) n).2 else m+1)
theorem zuy {N m r:Int}{n:Nat}(hn:1≤n)(hN:N<0)(m0:0≤m)(er:r=if rbS (-N) n<m then rbS (-N) n else m):(if r^n < -N then -(r+1) else -r)=dnS N n m:=by
 obtain⟨b0,b1,b2⟩:=ziN (N:=-N) hn (by omega)
 have h2:=zoE (-N) n
 have ed:dnS N n m=-(if (rt0 (-N) n).2<m+1 then (rt0 (-N) n).2 else m+1):=if_neg (by omega)
 rw[ed,h2]
 clear ed h2
 by_cases c:rbS (-N) n<m
 ·rw[if_pos c] at er
  subst er
  by_cases d:(rbS (-N) n)^n=-N
  ·rw[if_pos d,if_neg (show ¬ (rbS (-N) n)^n < -N by omega),if_pos (show rbS (-N) n<m+1 by omega)]
  ·rw[if_neg d,if_pos (show (rbS (-N) n)^n < -N by omega)]
   split <;> omega
 ·rw[if_neg c] at er
  subst er
  by_cases e:rbS (-N) n=r
  ·rw[e] at b1 b2 ⊢
   by_cases d:r^n=-N
   ·rw[if_pos d,if_neg (show ¬ r^n < -N by omega),if_pos (show r<r+1 by omega)]
   ·rw[if_neg d,if_pos (show r^n < -N by omega)]
    split <;> omega
  ·have lt:r^n < -N:=by
    have:=zlw (n:=n) m0 (show r<rbS (-N) n by omega) hn
    omega
   rw[if_pos lt]
   split <;> split <;> omega
noncomputable def rkS (x:Int×Int)(lo hi:Int)(n:Nat)(m:Int):Option (Int×Int):=if -dnS (-lo) n m > x.2∨dnS hi n m<x.1 then none else some (if dnS lo n m > x.1 then dnS lo n m else x.1,if -dnS (-hi) n m<x.2 then -dnS (-hi) n m else x.2)
theorem clA {C m:Int}(h:0≤C)(hm:1≤m):-(if C<m+1 then C else m+1)=if -C < -(m+1) then -(m+1) else if -C<m then -C else m:=by
 split <;> split <;> (try split) <;> omega
theorem clB {R m:Int}(h:0≤R)(hm:1≤m):-(if R<m then R else m)=if -R < -m then -m else if -R<m+1 then -R else m+1:=by
 split <;> split <;> (try split) <;> omega
theorem clC {R m:Int}(h:0≤R)(hm:1≤m):(if R<m then R else m)=if R < -(m+1) then -(m+1) else if R<m then R else m:=by
 rw[if_neg (show ¬ R < -(m+1) by omega)]
theorem clD {C m:Int}(h:0≤C)(hm:1≤m):-(-(if C<m+1 then C else m+1))=if C < -m then -m else if C<m+1 then C else m+1:=by
 rw[Va0,if_neg (show ¬ C < -m by omega)]
theorem zo8 {N:Int}{n:Nat}(hn:1≤n)(h0:0≤N):0≤(rt0 N n).1∧(rt0 N n).1≤(rt0 N n).2∧(rt0 N n).2≤(rt0 N n).1+1:=by
 have b0:=(ziN hn h0).1
 rw[zne,zoE]
 split <;> omega
theorem ziW {N m:Int}{n:Nat}(h:0≤N):dnS N n m=if (rt0 N n).1<m then (rt0 N n).1 else m:=by
 rw[zne]
 exact if_pos h
theorem zp3 {N m:Int}{n:Nat}(h:N<0):dnS N n m=-(if (rt0 (-N) n).2<m+1 then (rt0 (-N) n).2 else m+1):=if_neg (by omega)
theorem zuE {n:Nat}{m:Int}(hn:1≤n)(hm:1≤m)(N:Int):∃a b:Int,rtS N n=(a,b)∧a≤b∧b≤a+1∧dnS N n m=(if a < -(m+1) then -(m+1) else if a<m then a else m)∧-dnS (-N) n m=(if b < -m then -m else if b<m+1 then b else m+1):=by
 rcases Int.lt_trichotomy N 0 with c | c | c
 ·have t:=zo8 (N:=-N) hn (by omega)
  refine⟨-(rt0 (-N) n).2,-(rt0 (-N) n).1,if_pos c,by omega,by omega,?_,?_⟩
  ·rw[zp3 c]
   exact clA (by omega) hm
  ·rw[ziW (by omega)]
   exact clB t.1 hm
 ·subst c
  have r0:rbS 0 n=0:=(zeC (VaH 0) (by rw[zho hn]; omega) (by rw[Int.zero_add,Int.one_pow]; decide)).symm
  have f:(rt0 0 n).1=0:=by rw[zne,r0]
  have g:(rt0 0 n).2=0:=by rw[zoE,r0,if_pos (zho hn)]
  refine⟨(rt0 0 n).1,(rt0 0 n).2,if_neg (by omega),by omega,by omega,?_,?_⟩
  ·rw[ziW (by omega),f]
   exact clC (by omega) hm
  ·rw[show -(0:Int)=0 from rfl,ziW (by omega),f,g,if_pos (by omega),if_neg (by omega),if_pos (by omega)]
   rfl
 ·have t:=zo8 (N:=N) hn (by omega)
  refine⟨(rt0 N n).1,(rt0 N n).2,if_neg (by omega),by omega,by omega,?_,?_⟩
  ·rw[ziW (by omega)]
   exact clC t.1 hm
  ·rw[zp3 (by omega),Va0 N]
   exact clD (by omega) hm
theorem rk_eq {x:Int×Int}{lo hi m:Int}{n:Nat}(hn:1≤n)(hx:x.1≤x.2)(m1:x.1.natAbs+1≤m)(m2:x.2.natAbs+1≤m):rkS x lo hi n m=ptB x (rtS lo n) (rtS hi n):=by
 have key:=zuE (n:=n) (m:=m) hn (by omega)
 obtain⟨a,b,e1,o1,o2,d1,d2⟩:=key lo
 obtain⟨c,d,e2,o3,o4,d3,d4⟩:=key hi
 unfold rkS ptB
 rw[e1,e2,d1,d2,d3,d4]
 dsimp only
 by_cases c1:b > x.2
 ·rw[if_pos c1,if_pos (.inl (by split <;> (try split) <;> omega))]
 ·rw[if_neg c1]
  by_cases c2:c<x.1
  ·rw[if_pos c2,if_pos (.inr (by split <;> (try split) <;> omega))]
  ·rw[if_neg c2,if_neg (by
    rintro(z | z)
    ·revert z
     split <;> (try split) <;> omega
    ·revert z
     split <;> (try split) <;> omega)]
   congr 1
   refine Prod.ext ?_ ?_
   ·dsimp only
    split <;> split <;> (try split) <;> (try split) <;> omega
   ·dsimp only
    split <;> split <;> (try split) <;> (try split) <;> omega
theorem zrt {x l h:Int×Int}:(ptB (-x.2,-x.1) l h).map (λr=>(-r.2,-r.1))=ptB x (-h.2,-h.1) (-l.2,-l.1):=by
 unfold ptB
 dsimp only
 by_cases c1:l.2 > -x.1
 ·rw[if_pos c1]
  by_cases d:-h.1 > x.2
  ·rw[if_pos d]; rfl
  ·rw[if_neg d,if_pos (show -l.2<x.1 by omega)]; rfl
 ·rw[if_neg c1]
  by_cases c2:h.1 < -x.2
  ·rw[if_pos c2,if_pos (show -h.1 > x.2 by omega)]; rfl
  ·rw[if_neg c2,if_neg (show ¬ -h.1 > x.2 by omega),if_neg (show ¬ -l.2<x.1 by omega)]
   show some _=some _
   congr 1
   refine Prod.ext ?_ ?_
   ·dsimp only
    split <;> split <;> omega
   ·dsimp only
    split <;> split <;> omega
noncomputable def zkp (o:Option (Int×Int)):Option (Int×Int):=o.map λr=>(-r.2,-r.1)
def opD:Option (Int×Int)→D
 | none=>.non
 | some p=>frD p
def pcD (p:Option (Int×Int)×Option (Int×Int)):D:=.tup [opD p.1,opD p.2]
theorem znx {lo hi:Int}{y:Int×Int}(hy:y.1≤y.2)(out:y.1 > 0∨y.2<0):∀e∈za8 lo hi y,0<e.2:=λe he=>by
 unfold za8 nrm at he
 simp only[Vad,Vap,or_false] at he
 rcases he with rfl | rfl | rfl | rfl <;> split <;> dsimp only <;> omega
theorem zpu {lo hi y0 y1:Int}{i j:Nat}{t b:Int}(h1:([lo,hi]:List Int)[i]?=some t)(h2:([y0,y1]:List Int)[j]?=some b):(za8 lo hi (y0,y1))[2*i+j]?=some (nrm t b):=by
 rcases i with _ | _ | i
 ·cases h1
  rcases j with _ | _ | j
  ·cases h2; rfl
  ·cases h2; rfl
  ·simp at h2
 ·cases h1
  rcases j with _ | _ | j
  ·cases h2; rfl
  ·cases h2; rfl
  ·simp at h2
 ·simp at h1
theorem zqh {c:Prop} [Decidable c] {t b:Int}{K:DK}{S:Sto}(hc:c=(b > 0))(hK:K (frD (nrm t b)) S):if decide c=true then K (.tup [.int t,.int b]) S else K (.tup [.int (-t),.int (-b)]) S:=by
 subst hc
 unfold nrm at hK
 by_cases z:b > 0
 ·rw[if_pos z] at hK
  rw[decide_eq_true z]
  exact hK
 ·rw[if_neg z] at hK
  rw[decide_eq_false z]
  exact hK
theorem zpq {es:List (Int×Int)}{i:Nat}{a e:Int×Int}(pos:∀e∈es,0<e.2)(he:es[i]?=some e)(ha:a∈es)(hl:∀x∈es.take i,a.1*x.2≤x.1*a.2):(e.1*a.2<a.1*e.2→∀x∈es.take (i+1),e.1*x.2≤x.1*e.2)∧(¬ e.1*a.2<a.1*e.2→∀x∈es.take (i+1),a.1*x.2≤x.1*a.2):=by
 have em:=Vaj he
 refine⟨λc x hx=>?_,λc x hx=>?_⟩
 ·rw[zbL he] at hx
  rcases VaJ.mp hx with z | z
  ·exact zqQ (pos x (List.mem_of_mem_take z)) (pos e em) (pos a ha) (Vaf c) (hl x z)
  ·cases Vaz.mp z
   exact VaH _
 ·rw[zbL he] at hx
  rcases VaJ.mp hx with z | z
  ·exact hl x z
  ·cases Vaz.mp z
   omega
theorem zpB {es:List (Int×Int)}{i:Nat}{a e:Int×Int}(pos:∀e∈es,0<e.2)(he:es[i]?=some e)(ha:a∈es)(hl:∀x∈es.take i,x.1*a.2≤a.1*x.2):(e.1*a.2 > a.1*e.2→∀x∈es.take (i+1),x.1*e.2≤e.1*x.2)∧(¬ e.1*a.2 > a.1*e.2→∀x∈es.take (i+1),x.1*a.2≤a.1*x.2):=by
 have em:=Vaj he
 refine⟨λc x hx=>?_,λc x hx=>?_⟩
 ·rw[zbL he] at hx
  rcases VaJ.mp hx with z | z
  ·exact zpV (pos x (List.mem_of_mem_take z)) (pos e em) (pos a ha) (Vaf c) (hl x z)
  ·cases Vaz.mp z
   exact VaH _
 ·rw[zbL he] at hx
  rcases VaJ.mp hx with z | z
  ·exact hl x z
  ·cases Vaz.mp z
   omega
def pcl (e:Int)(bs:List Int):List (Option (Int×Int)×Option (Int×Int)):=bs.flatMap λb=>if b=0 then [] else [pcB e b]
theorem zke (e:Int)(bs:List Int)(b:Int):pcl e (bs++[b])=pcl e bs++if b=0 then [] else [pcB e b]:=by
 unfold pcl
 rw[List.flatMap_append]
 simp
def zll (lo hi:Int)(y:Int×Int)(ps:List (Option (Int×Int)×Option (Int×Int))):Prop:=
 ((y.1 > 0∨y.2<0)∧∃a b,zoU (za8 lo hi y) a∧zok (za8 lo hi y) b∧ps=[(some a,some b)])∨(y.1≤0∧0≤y.2)∧ps=(if y.1=0 then [] else [pcB (zaW lo hi) y.1])++if y.2=0 then [] else [pcB (zaW lo hi) y.2]
theorem zsP {a b c d:TDS}{E:zcD}{dl:Ev}{S:Sto}(W:Ev→Sto→Prop)(ha:∀nx:Ev→Sto→Prop,(∀dl' S',W dl' S'→nx dl' S')→zcx a (zcx b c) { nx:=nx,rt:=E.rt,bk:=E.bk,ct:=E.ct } dl S)(hb:∀dl' S',W dl' S'→d E dl' S'):zcx a (zcx b (zcx c d)) E dl S:=ha _ hb
theorem zvy {caps:List Nat}{tl te:TDE}{tc:TDT}{dl:Ev}{S S1:Sto}{Q:DK}{n:Nat}{o:Ob}(p:D→Bool)(f:D→D)(htl:∀K:DK,K (.ref n) S1→tl dl S K)(h1:S1[n]?=some o)(hl:(zat o).length≤1000)
  (hc:∀x∈zat o,∀(S2:Sto) (K:Bool→Sto→Prop),Pre S1 S2→K (p x) S2→tc (some x::zco caps dl) S2 K)(ht:∀x∈zat o,p x=true→∀(S2:Sto) (K:DK),Pre S1 S2→K (f x) S2→te (some x::zco caps dl) S2 K)
  (hq:Q (.ref S1.length) (S1++[.lst (((zat o).filter p).map f)]))(hL:zb3 o=some o:=by rfl):zb2 caps tl tc te dl S Q:=by
 unfold zb2
 refine htl _ ⟨by rw[za9 h1 hL]; rfl,λk m S2=>S2=S1++[.lst ((((zat o).take k).filter p).map f)]∧m+k=(zat o).length,⟨(zat o).length,by simp,by omega⟩,?_⟩
 rintro k m S2 ⟨rfl,hm⟩
 rw[za9 (zlr h1) hL]
 dsimp only
 split
 ·rename_i x hx
  have hk:k<(zat o).length:=(Vac.mp hx).1
  have hxm:=Vaj hx
  have e:(zat o).take (k+1)=(zat o).take k++[x]:=by rw[List.take_succ,hx]; rfl
  unfold zdj
  refine hc x hxm _ _ Pre.refl.push ?_
  by_cases b:p x=true
  ·rw[if_pos b]
   refine ht x hxm b _ _ Pre.refl.push ?_
   rw[zaB]
   refine⟨?_,m-1,by omega,?_,by omega⟩
   ·have z1:=List.length_filter_le p ((zat o).take k)
    rw[Var] at z1
    rw[Vaa]
    omega
   ·rw[e,List.filter_append,List.filter_cons_of_pos b,List.filter_nil,Vaw,List.set_append_right _ _ (Vab _)]
    simp
  ·rw[if_neg b]
   refine⟨m-1,by omega,?_,by omega⟩
   rw[e,List.filter_append,List.filter_cons_of_neg b,List.filter_nil,VaW]
 ·rename_i hx
  have hk:(zat o).length≤k:=VaE.mp hx
  rw[List.take_of_length_le hk]
  exact hq
def hlS:List (Option (Int×Int))→Option (Int×Int)
 | []=>none
 | o::r=>joS o (hlS r)
def zes:D→Bool
 | .non=>false
 | _=>true
theorem zg5 (o:Option (Int×Int)):joS o none=o:=by cases o <;> rfl
theorem zoP:∀os:List (Option (Int×Int)),(os.map opD).filter zes=(os.filterMap id).map frD
 | []=>rfl
 | none::r=>by
  show (opD none::r.map opD).filter zes=_
  rw[List.filter_cons_of_neg (show ¬ zes (opD none)=true by decide)]
  exact zoP r
 | some p::r=>by
  show (frD p::r.map opD).filter zes=frD p::(r.filterMap id).map frD
  rw[List.filter_cons_of_pos (show zes (frD p)=true from rfl),zoP r]
theorem zn3:∀os:List (Option (Int×Int)),(os.filterMap id=[]→hlS os=none)∧(os.filterMap id≠[]→∃L U,hlS os=some (L,U)∧L∈(os.filterMap id).map (·.1)∧(∀y∈(os.filterMap id).map (·.1),L≤y)∧U∈(os.filterMap id).map (·.2)∧∀y∈(os.filterMap id).map (·.2),y≤U)
 | []=>⟨λ_=>rfl,λh=>absurd rfl h⟩
 | none::r=>zn3 r
 | some p::r=>by
  refine⟨λh=>by simp at h,λ_=>?_⟩
  have ih:=zn3 r
  show ∃L U,joS (some p) (hlS r)=some (L,U)∧_
  have ef:(some p::r).filterMap id=p::r.filterMap id:=rfl
  rw[ef]
  by_cases c:r.filterMap id=[]
  ·rw[ih.1 c,c]
   refine⟨p.1,p.2,rfl,by simp,λy hy=>?_,by simp,λy hy=>?_⟩
   ·have:y=p.1:=by simpa using hy
    omega
   ·have:y=p.2:=by simpa using hy
    omega
  ·obtain⟨L,U,e,l1,l2,u1,u2⟩:=ih.2 c
   rw[e]
   refine⟨if L<p.1 then L else p.1,if U > p.2 then U else p.2,rfl,?_,λy hy=>?_,?_,λy hy=>?_⟩
   ·rw[VaB]
    split
    ·exact .tail _ l1
    ·exact .head _
   ·rw[VaB] at hy
    rcases Vad.mp hy with z | z
    ·split <;> omega
    ·have:=l2 y z
     split <;> omega
   ·rw[VaB]
    split
    ·exact .tail _ u1
    ·exact .head _
   ·rw[VaB] at hy
    rcases Vad.mp hy with z | z
    ·split <;> omega
    ·have:=u2 y z
     split <;> omega
theorem zu2 {caps:List Nat}{tl te:TDE}{tc:TDT}{dl:Ev}{S:Sto}{Q:DK}(P:Sto→Nat→Prop)(htl:∀K:DK,(∀T m,P T m→K (.ref m) T)→tl dl S K)(h:∀T m,P T m→∀tl':TDE,(∀K:DK,K (.ref m) T→tl' dl S K)→zb2 caps tl' tc te dl S Q):zb2 caps tl tc te dl S Q:=by
 unfold zb2
 refine htl _ λT m p=>?_
 have z:=h T m p (λ_ _ K=>K (.ref m) T) λK hK=>hK
 unfold zb2 at z
 exact z
theorem zs3 {lo hi:Int}{y:Int×Int}{ps:List (Option (Int×Int)×Option (Int×Int))}(hy:y.1≤y.2)(s3:Sz 1100 y.1)(s4:Sz 1100 y.2)(h:zll lo hi y ps):ps.length≤2∧∀pc∈ps,(∀a,pc.1=some a→0<a.2∧Sz 1100 a.2)∧∀b,pc.2=some b→0<b.2∧Sz 1100 b.2:=by
 have ab:∀b:Int,b≠0→Sz 1100 b→0<abI b∧Sz 1100 (abI b):=λb b0 sb=>by
  unfold abI
  split
  ·exact⟨by omega,sb.neg⟩
  ·exact⟨by omega,sb⟩
 have one:∀e b:Int,b≠0→Sz 1100 b→(∀a,(pcB e b).1=some a→0<a.2∧Sz 1100 a.2)∧∀a,(pcB e b).2=some a→0<a.2∧Sz 1100 a.2:=λe b b0 sb=>by
  unfold pcB
  split
  ·exact⟨λa z=>by cases z; exact ab b b0 sb,λa z=>(by cases z)⟩
  ·exact⟨λa z=>(by cases z),λa z=>by cases z; exact ab b b0 sb⟩
 rcases h with ⟨out,a,b,ha,hb,rfl⟩ | ⟨_,rfl⟩
 ·have pos:=znx (lo:=lo) (hi:=hi) hy out
  have sz:∀e∈za8 lo hi y,Sz 1100 e.2:=λe he=>by
   unfold za8 nrm at he
   simp only[Vad,Vap,or_false] at he
   rcases he with rfl | rfl | rfl | rfl <;> split <;> first | exact s3 | exact s3.neg | exact s4 | exact s4.neg
  refine⟨by simp,λpc hp=>?_⟩
  cases Vaz.mp hp
  exact⟨λc z=>by cases z; exact⟨pos _ ha.1,sz _ ha.1⟩,λc z=>by cases z; exact⟨pos _ hb.1,sz _ hb.1⟩⟩
 ·refine⟨by split <;> split <;> simp,λpc hp=>?_⟩
  rcases VaJ.mp hp with z | z
  ·split at z
   ·cases z
   ·rename_i c
    cases Vaz.mp z
    exact one _ _ c s3
  ·split at z
   ·cases z
   ·rename_i c
    cases Vaz.mp z
    exact one _ _ c s4
theorem zsL {z x y:Int×Int}{g:Int}{ps:List (Option (Int×Int)×Option (Int×Int))}(hz:z.1≤z.2)(hx:x.1≤x.2)(hy:y.1≤y.2)(hg:1≤g)(nb:¬ ((y.1≤0∧0≤y.2)∧z.1≤0∧0≤z.2))(h:zll (z.1*g) (z.2*g) y ps):hlS (ps.map λpc=>kpS x pc.1 pc.2)=btS z x y g:=by
 rcases h with ⟨out,a,b,ha,hb,rfl⟩ | ⟨yy,rfl⟩
 ·show joS (kpS x (some a) (some b)) none=_
  rw[zg5]
  exact zwS hz hx hy hg out ha hb
 ·rw[← zwU hz hx hy hg yy.1 yy.2 (λq=>nb ⟨yy,q⟩)]
  unfold qtB
  by_cases c1:y.1=0
  ·rw[if_pos c1,if_pos c1]
   by_cases c2:y.2=0
   ·rw[if_pos c2,if_pos c2]
    rfl
   ·rw[if_neg c2,if_neg c2]
    exact zg5 _
  ·rw[if_neg c1,if_neg c1]
   by_cases c2:y.2=0
   ·rw[if_pos c2,if_pos c2]
    rfl
   ·rw[if_neg c2,if_neg c2]
    show joS _ (joS _ none)=_
    rw[zg5]
theorem zow:∀xs:List Int,zcQ (xs.map D.int)=some xs
 | []=>rfl
 | x::xs=>by
  have ih:=zow xs
  simp only[VaB,zcQ,ih] at *
  first | rfl | simp
theorem zvZ {cs:List Int}{i:Int}(h:inR cs.length i):atI (cs.map D.int) i=some (.int (cs.getD i.toNat 0)):=by
 obtain⟨h0,h1⟩:=h
 have hk:i.toNat<cs.length:=by omega
 have z:=zdq (xs:=cs.map D.int) (j:=i.toNat) (v:=.int (cs.getD i.toNat 0)) (by rw[Vae,Vam hk]; simp[hk])
 rw[show ((i.toNat:Nat):Int)=i by omega] at z
 exact z
theorem nn_of {xs:List D}(h:∀(k:Nat) (d:D),xs[k]?=some d→∃c:Int,d=.int c∧0≤c):∃cs:List Int,xs=cs.map D.int∧∀c∈cs,0≤c:=by
 induction xs with
 | nil=>exact⟨[],rfl,λc hc=>nomatch hc⟩
 | cons x xs ih=>
  obtain⟨c,rfl,hc⟩:=h 0 x rfl
  obtain⟨cs,rfl,hcs⟩:=ih λk d hd=>h (k+1) d hd
  exact⟨c::cs,rfl,λz hz=>by
   rcases Vad.mp hz with e | e
   ·subst e; exact hc
   ·exact hcs z e⟩
theorem znm {cs:List Int}(h:∀c∈cs,0≤c)(i:Nat):0≤cs.getD i 0:=by
 rw[VaA]
 cases e:cs[i]? with
 | none=>exact VaH _
 | some c=>exact h c (Vaj e)
theorem zrL {xs:List D}{lo hi:Option Int}{x:D}(h:x∈zbv xs lo hi):x∈xs:=by
 unfold L3.zbv at h
 exact List.mem_of_mem_drop (List.mem_of_mem_take h)
def hfS (z x y:Int×Int)(g:Int)(first:Bool):Nd→Option (Int×Int)
 | .plus _ _=>zaT x (z.1-y.2,z.2-y.1)
 | .times _ _=>btS z x y g
 | _=>if first then zaT x (z.1+y.1,z.2+y.2) else zaT x (y.1-z.2,y.2-z.1)
def zoS:Nd→Prop
 | .plus _ _=>True
 | .minus _ _=>True
 | .times _ _=>True
 | _=>False
def Nd.ij:Nd→Int×Int
 | .plus i j=>(i,j)
 | .minus i j=>(i,j)
 | .times i j=>(i,j)
 | _=>(0,0)
theorem znj {v:Nd}{vs:List (Int×Int)}{z:Int×Int}{g:Int}(h:zoS v):v.bk vs z g=bk2 v.ij.1 v.ij.2 (hfS z (gt vs v.ij.1) (gt vs v.ij.2) g true v) λx=>hfS z (if v.ij.1=v.ij.2 then x else gt vs v.ij.2) x g false v:=by
 cases v with
 | plus i j=>rfl
 | minus i j=>rfl
 | times i j=>rfl
 | number _ _=>exact h.elim
 | unknown _=>exact h.elim
 | power _ _=>exact h.elim
theorem zny {v:Nd}{z x y:Int×Int}{g:Int}{b:Bool}(h:zoS v)(hz:z.1≤z.2)(hx:x.1≤x.2)(hy:y.1≤y.2)(hg:1≤g):Sub x (hfS z x y g b v):=by
 cases v with
 | plus i j=>exact zdO
 | minus i j=>cases b <;> exact zdO
 | times i j=>exact zmk hz hx hy hg
 | number _ _=>exact h.elim
 | unknown _=>exact h.elim
 | power _ _=>exact h.elim
theorem zbZ {S T:Sto}(h:Pre S T):S.length≤T.length:=by
 by_cases c:S.length≤T.length
 ·exact c
 ·have e:=h T.length _ (Vam (by omega))
  have:=(Vac.mp e).1
  omega
theorem zsF {is:List Nat}{n:Nat}{tl:TDE}{tb:TDS}{E:zcD}{dl:Ev}{S:Sto}{xs:List D}(W:Nat→Ev→Sto→Prop)(htl:∀K:DK,K (.ref n) S→tl dl S K)(h0:W 0 dl S)(hk:∀k dl' S',W k dl' S'→S'[n]?=some (.lst xs))(hall:∀(k:Nat) (d:D),xs[k]?=some d→∃ys,d=.tup ys∧ys.length=is.length)
  (ht:∀(k:Nat) (ys:List D) (dl':Ev) (S':Sto) (nx ct:Ev→Sto→Prop),xs[k]?=some (.tup ys)→W k dl' S'→(∀dl2 S2,W (k+1) dl2 S2→nx dl2 S2)→tb { nx:=nx,rt:=E.rt,bk:=E.nx,ct:=ct } (zdt is ys dl') S')(he:∀dl' S',W xs.length dl' S'→E.nx dl' S'):zkA is tl tb E dl S:=by
 unfold zkA
 refine htl _ ⟨by rw[za9 (hk _ _ _ h0) rfl]; rfl,λk m dl' S'=>m+k=xs.length∧W k dl' S',⟨xs.length,by omega,h0⟩,?_⟩
 rintro k m dl' S' ⟨hm,w⟩
 rw[za9 (hk _ _ _ w) rfl]
 dsimp only[zat]
 split
 ·rename_i ys hx
  have l:k<xs.length:=(Vac.mp hx).1
  obtain⟨zs,e1,e2⟩:=hall k _ hx
  cases e1
  exact⟨e2,ht k ys dl' S' _ _ hx w λdl2 S2 w2=>⟨m-1,by omega,by omega,w2⟩⟩
 ·rename_i d hn hx
  obtain⟨zs,e1,_⟩:=hall k _ hx
  exact absurd e1 (hn zs)
 ·rename_i hx
  have l:k=xs.length:=by
   have:=VaE.mp hx
   omega
  exact he dl' S' (l ▸ w)
def zer (zero:Bool)(s:Int×Int):Int:=if zero then 0 else if s.2 > 0 then s.2 else 0
theorem zwg (zero:Bool)(s:Int×Int):zaT s (0,zer zero s)=zc2 zero s:=by
 unfold zc2 zer
 cases zero with
 | true=>rfl
 | false=>
  have e:(if s.2 > 0 then s.2 else 0)=mx0 s.2:=by
   unfold mx0
   split <;> split <;> omega
  show zaT s (0,if s.2 > 0 then s.2 else 0)=zaT s (0,mx0 s.2)
  rw[e]
theorem zx4 {S:Sto}{Q:DK}(hq:Q (.bl false) S):zb0 (zdB 1) .non .non S Q:=by
 rw[zcv]
 exact hq
structure zbB (K:PySem.W.Frag)(mg:Str→Option Value) where
 C:Addr
 m:mg "Number"=some (.ref C)
 cl:Cls K C
 n_bottom:zbr K C "bottom"
 n_top:zbr K C "top"
 makes:PySem.W.makesIn K C=true
 kp:PySem.W.keepIn K (.ref C)=true
structure zbD (K:PySem.W.Frag)(mg:Str→Option Value) where
 C:Addr
 m:mg "Unknown"=some (.ref C)
 cl:Cls K C
 n_place:zbr K C "place"
 makes:PySem.W.makesIn K C=true
 kp:PySem.W.keepIn K (.ref C)=true
structure zbw (K:PySem.W.Frag)(mg:Str→Option Value) where
 C:Addr
 m:mg "Plus"=some (.ref C)
 cl:Cls K C
 n_other:zbr K C "other"
 n_one:zbr K C "one"
 makes:PySem.W.makesIn K C=true
 kp:PySem.W.keepIn K (.ref C)=true
structure zbs (K:PySem.W.Frag)(mg:Str→Option Value) where
 C:Addr
 m:mg "Minus"=some (.ref C)
 cl:Cls K C
 n_other:zbr K C "other"
 n_one:zbr K C "one"
 makes:PySem.W.makesIn K C=true
 kp:PySem.W.keepIn K (.ref C)=true
structure zbu (K:PySem.W.Frag)(mg:Str→Option Value) where
 C:Addr
 m:mg "Times"=some (.ref C)
 cl:Cls K C
 n_other:zbr K C "other"
 n_one:zbr K C "one"
 makes:PySem.W.makesIn K C=true
 kp:PySem.W.keepIn K (.ref C)=true
structure zbF (K:PySem.W.Frag)(mg:Str→Option Value) where
 C:Addr
 m:mg "Power"=some (.ref C)
 cl:Cls K C
 n_many:zbr K C "many"
 n_one:zbr K C "one"
 makes:PySem.W.makesIn K C=true
 kp:PySem.W.keepIn K (.ref C)=true
def zgD:Sd:=λds S Q ex=>match ds with
 | [.int _]=>∀g:Int,1≤g→g≤1000000→Q (.int g) S
 | _=>False
theorem zrz:Ln (zgD) 1:=λds S Q ex h=>by unfold zgD at h; split at h <;> first | rfl | exact h.elim
def zfN:Sd:=λds S Q ex=>match ds with
 | [.int a,.int b]=>(0≤a∧0≤b)∧Q (.int ((Int.gcd a b:Nat):Int)) S
 | _=>False
theorem zxv:Ln (zfN) 2:=λds S Q ex h=>by unfold zfN at h; split at h <;> first | rfl | exact h.elim
def zdZ:Sd:=λds S Q ex=>match ds with
 | [.int T,.int B]=>(0<B∧Sz 4000 B)∧∀t b:Int,1≤b→Int.gcd t b=1→t*B=T*b→t.natAbs≤T.natAbs→b≤B→Q (.tup [.int t,.int b]) S
 | _=>False
theorem zvm:Ln (zdZ) 2:=λds S Q ex h=>by unfold zdZ at h; split at h <;> first | rfl | exact h.elim
def zfJ:Sd:=λds S Q ex=>match ds with
 | [.int _]=>∀t b:Int,(1≤b∧b≤10^9)→Int.gcd t b=1→t.natAbs≤10^9→Q (.tup [.str "number",.int t,.int b]) S
 | _=>False
theorem zvC:Ln (zfJ) 1:=λds S Q ex h=>by unfold zfJ at h; split at h <;> first | rfl | exact h.elim
def zhx:Sd:=λds S Q ex=>match ds with
 | [.int _,.int m,.int q]=>(0≤m∧m≤1000∧1≤q∧q≤4)∧∀v:Nd,v.ok m q→Q v.d S
 | _=>False
theorem zuB:Ln (zhx) 3:=λds S Q ex h=>by unfold zhx at h; split at h <;> first | rfl | exact h.elim
def zeS:Sd:=λds S Q ex=>match ds with
 | [d,.ref n]=>∃(v:Nd) (ws:List Nat) (q:Int),d=v.d∧S[n]?=some (Ob.lst (ws.map wtD))∧v.ok ws.length q∧(∀i:Int,inR ws.length i→ws.getD i.toNat 0≤16)∧Q (.int (v.wt ws:Nat)) S
 | _=>False
theorem zui:Ln (zeS) 2:=λds S Q ex h=>by unfold zeS at h; split at h <;> first | rfl | exact h.elim
def zgW:Sd:=λds S Q ex=>match ds with
 | [.ref c,.int q,.bl _,.int h16,.int most]=>∃(cs:List D) (qn hv:Nat),S[c]?=some (.lst cs)∧(∀x∈cs,∃i:Int,x=.int i)∧q=qn∧(1≤qn∧qn≤4)∧h16=(hv:Int)∧(1≤hv∧hv≤16)∧(1≤most∧most≤60)∧∀(ns:List Nd) (ws:List Nat) (T:Sto) (m:Nat),zaO qn ns ws→Hv hv ws→1≤ns.length→ns.length≤60→Pre S T→S.length≤m→T[m]?=some (.lst (ns.map Nd.d))→Q (.ref m) T
 | _=>False
theorem zvK:Ln (zgW) 5:=λds S Q ex h=>by unfold zgW at h; split at h <;> first | rfl | exact h.elim
def zdF:Sd:=λds S Q ex=>match ds with
 | [.int x,.int n]=>(0≤n∧n≤6∧Sz 2000 x)∧Q (.int (x^n.toNat)) S
 | _=>False
theorem zss:Ln (zdF) 2:=λds S Q ex h=>by unfold zdF at h; split at h <;> first | rfl | exact h.elim
def zgb:Sd:=λds S Q ex=>match ds with
 | [d,.ref w,.ref p,.int g]=>∃(v:Nd) (vs bs:List (Int×Int)),d=v.d∧S[w]?=some (.lst (vs.map frD))∧S[p]?=some (.lst (bs.map frD))∧v.ok vs.length bs.length∧Spn 1400 vs∧(1≤g∧g≤1000000)∧Q (frD (v.fw vs bs g)) S
 | _=>False
theorem zuq:Ln (zgb) 4:=λds S Q ex h=>by unfold zgb at h; split at h <;> first | rfl | exact h.elim
def zeK:Sd:=λds S Q ex=>match ds with
 | [.ref a,.ref b,.int g]=>∃(ns:List Nd) (ws:List Nat) (bs:List (Int×Int)),S[a]?=some (.lst (ns.map Nd.d))∧S[b]?=some (.lst (bs.map frD))∧zaO bs.length ns ws∧Spn 51 bs∧(1≤g∧g≤1000000)∧ns.length≤70∧∀(T:Sto) (m:Nat),Pre S T→S.length≤m→T[m]?=some (.lst ((zaC bs g ns).map frD))→Q (.ref m) T
 | _=>False
theorem zxo:Ln (zeK) 3:=λds S Q ex h=>by unfold zeK at h; split at h <;> first | rfl | exact h.elim
def zhb:Sd:=λds S Q ex=>match ds with
 | [.ref a,.ref b,.int g,.int f,.int _]=>∃(ns:List Nd) (ws:List Nat) (bs:List (Int×Int)),S[a]?=some (.lst (ns.map Nd.d))∧S[b]?=some (.lst (bs.map frD))∧a≠b∧zaO bs.length ns ws∧Hv 14 ws∧Spn 51 bs∧(1≤g∧g≤1000000)∧1≤ns.length∧ns.length≤60∧∀(T:Sto) (w:Str) (zero:Bool) (k:Nat) (ns':List Nd) (ws':List Nat),rwW zero w→Gr bs.length a 2 S ns ws T ns' ws'→k<ns'.length→Q (.tup [.str w,.int (k:Int)]) T
 | _=>False
theorem zvz:Ln (zhb) 5:=λds S Q ex h=>by unfold zhb at h; split at h <;> first | rfl | exact h.elim
def zgP:Sd:=λds S Q ex=>match ds with
 | [.int c]=>0≤c∧∀lo hi:Int,lo≤hi→lo.natAbs≤10^15→hi.natAbs≤10^15→Q (.tup [.int lo,.int hi]) S
 | _=>False
theorem zxH:Ln (zgP) 1:=λds S Q ex h=>by unfold zgP at h; split at h <;> first | rfl | exact h.elim
def zgh:Sd:=λds S Q ex=>match ds with
 | [.int c,.int m,.int q]=>(0≤m∧m≤1000∧1≤q∧q≤4∧0≤c)∧∀v:Nd,v.ok m q→Q v.d S
 | _=>False
theorem zwp:Ln (zgh) 3:=λds S Q ex h=>by unfold zgh at h; split at h <;> first | rfl | exact h.elim
def zhz:Sd:=λds S Q ex=>match ds with
 | [.ref s]=>∃ns:List Int,s=0∧S=[.frz (ns.map D.int)]∧ns.length≤63∧∀(T:Sto) (g:Int) (k:Nat) (bs:List (Int×Int)) (vs:List Nd) (ws:List Nat) (m1 m2:Nat) (w:Str) (zero:Bool),Pre S T→(1≤g∧g≤1000000)→T[m1]?=some (.lst (bs.map frD))→T[m2]?=some (.lst (vs.map Nd.d))→zaO bs.length vs ws→Spn 51 bs→(1≤bs.length∧bs.length≤4)→vs.length≤70→rwW zero w→k<vs.length→Q (.tup [.int g,.ref m1,.ref m2,.tup [.str w,.int (k:Int)]]) T
 | _=>False
theorem zuT:Ln (zhz) 1:=λds S Q ex h=>by unfold zhz at h; split at h <;> first | rfl | exact h.elim
def zge:Sd:=λds S Q ex=>match ds with
 | [.ref n,.int k]=>∃ns:List Int,S[n]?=some (.frz (ns.map D.int))∧0≤k∧Q (.int (ns.getD k.toNat 0)) S
 | _=>False
theorem zvN:Ln (zge) 2:=λds S Q ex h=>by unfold zge at h; split at h <;> first | rfl | exact h.elim
def zh1:Sd:=λds S Q ex=>match ds with
 | [.int _]=>∀lo hi:Int,lo≤hi→lo.natAbs≤10^15→hi.natAbs≤10^15→Q (.tup [.int lo,.int hi]) S
 | _=>False
theorem zxU:Ln (zh1) 1:=λds S Q ex h=>by unfold zh1 at h; split at h <;> first | rfl | exact h.elim
def zf7:Sd:=λds S Q ex=>match ds with
 | [.ref s]=>∃ns:List Int,s=0∧S=[.frz (ns.map D.int)]∧ns.length≤63∧∀(T:Sto) (g:Int) (k:Nat) (bs:List (Int×Int)) (vs:List Nd) (ws:List Nat) (m1 m2:Nat) (w:Str) (zero:Bool),Pre S T→(1≤g∧g≤1000000)→T[m1]?=some (.lst (bs.map frD))→T[m2]?=some (.lst (vs.map Nd.d))→zaO bs.length vs ws→Spn 51 bs→(1≤bs.length∧bs.length≤4)→vs.length≤70→rwW zero w→k<vs.length→Q (.tup [.int g,.ref m1,.ref m2,.tup [.str w,.int (k:Int)]]) T
 | _=>False
theorem ztq:Ln (zf7) 1:=λds S Q ex h=>by unfold zf7 at h; split at h <;> first | rfl | exact h.elim
def zgS:Sd:=λds S Q ex=>match ds with
 | [.tup [.int a,.int b],.tup [.int c,.int d]]=>(IntMulOk a d∧IntMulOk c b)∧Q (.bl (decide (a*d<c*b))) S
 | _=>False
theorem zx2:Ln (zgS) 2:=λds S Q ex h=>by unfold zgS at h; split at h <;> first | rfl | exact h.elim
def zdo:Sd:=λds S Q ex=>match ds with
 | [.int t,.int b]=>CFd 0 b∧Q (.int (-(-t/b))) S
 | _=>False
theorem zvw:Ln (zdo) 2:=λds S Q ex h=>by unfold zdo at h; split at h <;> first | rfl | exact h.elim
def zha:Sd:=λds S Q ex=>match ds with
 | [.tup [.int a,.int b],.tup [.int c,.int d],.int g]=>((IntMulOk c b∧IntMulOk a d)∧¬ c*b<a*d∧IntMulOk a g∧IntMulOk c g∧CFd 0 b∧CFd 0 d)∧Q (.tup [.int (a*g/b),.int (-(-(c*g)/d))]) S
 | _=>False
theorem zq4:Ln (zha) 3:=λds S Q ex h=>by unfold zha at h; split at h <;> first | rfl | exact h.elim
def zel (cNumber:Addr)(cUnknown:Addr)(cPlus:Addr)(cMinus:Addr)(cTimes:Addr)(cPower:Addr):Sd:=λds S Q ex=>match ds with
 | [.ref n,.ref w,.ref p,.int g]=>∃(x y:Int) (vs bs:List (Int×Int)),S[n]?=some (Nd.ob cNumber cUnknown cPlus cMinus cTimes cPower (Nd.number x y))∧S[w]?=some (.lst (vs.map frD))∧S[p]?=some (.lst (bs.map frD))∧Nd.ok vs.length bs.length (Nd.number x y)∧Spn 1400 vs∧(1≤g∧g≤1000000)∧Q (frD (Nd.fw vs bs g (Nd.number x y))) S
 | _=>False
theorem zt0 (cNumber:Addr)(cUnknown:Addr)(cPlus:Addr)(cMinus:Addr)(cTimes:Addr)(cPower:Addr):Ln (zel cNumber cUnknown cPlus cMinus cTimes cPower) 4:=λds S Q ex h=>by unfold zel at h; split at h <;> first | rfl | exact h.elim
def zef (cNumber:Addr)(cUnknown:Addr)(cPlus:Addr)(cMinus:Addr)(cTimes:Addr)(cPower:Addr):Sd:=λds S Q ex=>match ds with
 | [.ref n,.ref w,.ref p,.int g]=>∃(k:Int) (vs bs:List (Int×Int)),S[n]?=some (Nd.ob cNumber cUnknown cPlus cMinus cTimes cPower (Nd.unknown k))∧S[w]?=some (.lst (vs.map frD))∧S[p]?=some (.lst (bs.map frD))∧Nd.ok vs.length bs.length (Nd.unknown k)∧Spn 1400 vs∧(1≤g∧g≤1000000)∧Q (frD (Nd.fw vs bs g (Nd.unknown k))) S
 | _=>False
theorem zwJ (cNumber:Addr)(cUnknown:Addr)(cPlus:Addr)(cMinus:Addr)(cTimes:Addr)(cPower:Addr):Ln (zef cNumber cUnknown cPlus cMinus cTimes cPower) 4:=λds S Q ex h=>by unfold zef at h; split at h <;> first | rfl | exact h.elim
def zeB:Sd:=λds S Q ex=>match ds with
 | [.tup [.int a,.int b],.tup [.int c,.int d]]=>Q (.tup [.int (a+c),.int (b+d)]) S
 | _=>False
theorem zuU:Ln (zeB) 2:=λds S Q ex h=>by unfold zeB at h; split at h <;> first | rfl | exact h.elim
def zeu (cNumber:Addr)(cUnknown:Addr)(cPlus:Addr)(cMinus:Addr)(cTimes:Addr)(cPower:Addr):Sd:=λds S Q ex=>match ds with
 | [.ref n,.ref w,.ref p,.int g]=>∃(i j:Int) (vs bs:List (Int×Int)),S[n]?=some (Nd.ob cNumber cUnknown cPlus cMinus cTimes cPower (Nd.plus i j))∧S[w]?=some (.lst (vs.map frD))∧S[p]?=some (.lst (bs.map frD))∧Nd.ok vs.length bs.length (Nd.plus i j)∧Spn 1400 vs∧(1≤g∧g≤1000000)∧Q (frD (Nd.fw vs bs g (Nd.plus i j))) S
 | _=>False
theorem zvQ (cNumber:Addr)(cUnknown:Addr)(cPlus:Addr)(cMinus:Addr)(cTimes:Addr)(cPower:Addr):Ln (zeu cNumber cUnknown cPlus cMinus cTimes cPower) 4:=λds S Q ex h=>by unfold zeu at h; split at h <;> first | rfl | exact h.elim
def zdk:Sd:=λds S Q ex=>match ds with
 | [.tup [.int a,.int b],.tup [.int c,.int d]]=>Q (.tup [.int (a-d),.int (b-c)]) S
 | _=>False
theorem zxR:Ln (zdk) 2:=λds S Q ex h=>by unfold zdk at h; split at h <;> first | rfl | exact h.elim
def zfj (cNumber:Addr)(cUnknown:Addr)(cPlus:Addr)(cMinus:Addr)(cTimes:Addr)(cPower:Addr):Sd:=λds S Q ex=>match ds with
 | [.ref n,.ref w,.ref p,.int g]=>∃(i j:Int) (vs bs:List (Int×Int)),S[n]?=some (Nd.ob cNumber cUnknown cPlus cMinus cTimes cPower (Nd.minus i j))∧S[w]?=some (.lst (vs.map frD))∧S[p]?=some (.lst (bs.map frD))∧Nd.ok vs.length bs.length (Nd.minus i j)∧Spn 1400 vs∧(1≤g∧g≤1000000)∧Q (frD (Nd.fw vs bs g (Nd.minus i j))) S
 | _=>False
theorem zsG (cNumber:Addr)(cUnknown:Addr)(cPlus:Addr)(cMinus:Addr)(cTimes:Addr)(cPower:Addr):Ln (zfj cNumber cUnknown cPlus cMinus cTimes cPower) 4:=λds S Q ex h=>by unfold zfj at h; split at h <;> first | rfl | exact h.elim
def zhM:Sd:=λds S Q ex=>match ds with
 | [.tup [.int a,.int b],.tup [.int c,.int d],.int g]=>((IntMulOk a c∧IntMulOk a d∧IntMulOk b c∧IntMulOk b d)∧CFd 0 g)∧∀mn mx:Int,zdV a b c d mn mx→Q (.tup [.int (mn/g),.int (-(-mx/g))]) S
 | _=>False
theorem ztv:Ln (zhM) 3:=λds S Q ex h=>by unfold zhM at h; split at h <;> first | rfl | exact h.elim
def zfx (cNumber:Addr)(cUnknown:Addr)(cPlus:Addr)(cMinus:Addr)(cTimes:Addr)(cPower:Addr):Sd:=λds S Q ex=>match ds with
 | [.ref n,.ref w,.ref p,.int g]=>∃(i j:Int) (vs bs:List (Int×Int)),S[n]?=some (Nd.ob cNumber cUnknown cPlus cMinus cTimes cPower (Nd.times i j))∧S[w]?=some (.lst (vs.map frD))∧S[p]?=some (.lst (bs.map frD))∧Nd.ok vs.length bs.length (Nd.times i j)∧Spn 1400 vs∧(1≤g∧g≤1000000)∧Q (frD (Nd.fw vs bs g (Nd.times i j))) S
 | _=>False
theorem zxx (cNumber:Addr)(cUnknown:Addr)(cPlus:Addr)(cMinus:Addr)(cTimes:Addr)(cPower:Addr):Ln (zfx cNumber cUnknown cPlus cMinus cTimes cPower) 4:=λds S Q ex h=>by unfold zfx at h; split at h <;> first | rfl | exact h.elim
def zc4:Sd:=λds S Q ex=>match ds with
 | [.int x,.int n]=>(0≤n∧n≤6∧Sz 2000 x)∧Q (.int (x^n.toNat)) S
 | _=>False
theorem zwY:Ln (zc4) 2:=λds S Q ex h=>by unfold zc4 at h; split at h <;> first | rfl | exact h.elim
def zgd:Sd:=λds S Q ex=>match ds with
 | [.tup [.int a,.int b],.int n,.int g]=>(2≤n∧n≤6∧Sz 1400 a∧Sz 1400 b∧1≤g∧Sz 1400 g)∧∀m M:Int,zdl a b n.toNat m M→Q (.tup [.int (m/g^(n.toNat-1)),.int (-(-M/g^(n.toNat-1)))]) S
 | _=>False
theorem ztI:Ln (zgd) 3:=λds S Q ex h=>by unfold zgd at h; split at h <;> first | rfl | exact h.elim
def zeq (cNumber:Addr)(cUnknown:Addr)(cPlus:Addr)(cMinus:Addr)(cTimes:Addr)(cPower:Addr):Sd:=λds S Q ex=>match ds with
 | [.ref n,.ref w,.ref p,.int g]=>∃(i m:Int) (vs bs:List (Int×Int)),S[n]?=some (Nd.ob cNumber cUnknown cPlus cMinus cTimes cPower (Nd.power i m))∧S[w]?=some (.lst (vs.map frD))∧S[p]?=some (.lst (bs.map frD))∧Nd.ok vs.length bs.length (Nd.power i m)∧Spn 1400 vs∧(1≤g∧g≤1000000)∧Q (frD (Nd.fw vs bs g (Nd.power i m))) S
 | _=>False
theorem ztH (cNumber:Addr)(cUnknown:Addr)(cPlus:Addr)(cMinus:Addr)(cTimes:Addr)(cPower:Addr):Ln (zeq cNumber cUnknown cPlus cMinus cTimes cPower) 4:=λds S Q ex h=>by unfold zeq at h; split at h <;> first | rfl | exact h.elim
def zhm (cPower:Addr):Sd:=λds S Q ex=>match ds with
 | [.ref n,x,y]=>∃T:Sto,S=T++[.ins cPower []]∧n=T.length∧Q .non (T++[.ins cPower [("one",x),("many",y)]])
 | _=>False
theorem zuN (cPower:Addr):Ln (zhm cPower) 3:=λds S Q ex h=>by unfold zhm at h; split at h <;> first | rfl | exact h.elim
def zgu (cNumber:Addr):Sd:=λds S Q ex=>match ds with
 | [.ref n,x,y]=>∃T:Sto,S=T++[.ins cNumber []]∧n=T.length∧Q .non (T++[.ins cNumber [("top",x),("bottom",y)]])
 | _=>False
theorem zxs (cNumber:Addr):Ln (zgu cNumber) 3:=λds S Q ex h=>by unfold zgu at h; split at h <;> first | rfl | exact h.elim
def zhl (cUnknown:Addr):Sd:=λds S Q ex=>match ds with
 | [.ref n,x]=>∃T:Sto,S=T++[.ins cUnknown []]∧n=T.length∧Q .non (T++[.ins cUnknown [("place",x)]])
 | _=>False
theorem zxC (cUnknown:Addr):Ln (zhl cUnknown) 2:=λds S Q ex h=>by unfold zhl at h; split at h <;> first | rfl | exact h.elim
def zh7 (cPlus:Addr):Sd:=λds S Q ex=>match ds with
 | [.ref n,x,y]=>∃T:Sto,S=T++[.ins cPlus []]∧n=T.length∧Q .non (T++[.ins cPlus [("one",x),("other",y)]])
 | _=>False
theorem zw7 (cPlus:Addr):Ln (zh7 cPlus) 3:=λds S Q ex h=>by unfold zh7 at h; split at h <;> first | rfl | exact h.elim
def zgV (cMinus:Addr):Sd:=λds S Q ex=>match ds with
 | [.ref n,x,y]=>∃T:Sto,S=T++[.ins cMinus []]∧n=T.length∧Q .non (T++[.ins cMinus [("one",x),("other",y)]])
 | _=>False
theorem zrq (cMinus:Addr):Ln (zgV cMinus) 3:=λds S Q ex h=>by unfold zgV at h; split at h <;> first | rfl | exact h.elim
def zh8 (cTimes:Addr):Sd:=λds S Q ex=>match ds with
 | [.ref n,x,y]=>∃T:Sto,S=T++[.ins cTimes []]∧n=T.length∧Q .non (T++[.ins cTimes [("one",x),("other",y)]])
 | _=>False
theorem zsN (cTimes:Addr):Ln (zh8 cTimes) 3:=λds S Q ex h=>by unfold zh8 at h; split at h <;> first | rfl | exact h.elim
def zfa (cNumber:Addr)(cUnknown:Addr)(cPlus:Addr)(cMinus:Addr)(cTimes:Addr)(cPower:Addr):Sd:=λds S Q ex=>match ds with
 | [d]=>∃v:Nd,d=v.d∧Q (.ref S.length) (S++[v.ob cNumber cUnknown cPlus cMinus cTimes cPower])
 | _=>False
theorem zuk (cNumber:Addr)(cUnknown:Addr)(cPlus:Addr)(cMinus:Addr)(cTimes:Addr)(cPower:Addr):Ln (zfa cNumber cUnknown cPlus cMinus cTimes cPower) 1:=λds S Q ex h=>by unfold zfa at h; split at h <;> first | rfl | exact h.elim
def zg9:Sd:=λds S Q ex=>match ds with
 | [.ref a,.ref b,.int g]=>∃(ns:List Nd) (ws:List Nat) (bs:List (Int×Int)),S[a]?=some (.lst (ns.map Nd.d))∧S[b]?=some (.lst (bs.map frD))∧zaO bs.length ns ws∧Spn 51 bs∧(1≤g∧g≤1000000)∧ns.length≤70∧∀(T:Sto) (m:Nat),Pre S T→S.length≤m→T[m]?=some (.lst ((zaC bs g ns).map frD))→Q (.ref m) T
 | _=>False
theorem zsz:Ln (zg9) 3:=λds S Q ex h=>by unfold zg9 at h; split at h <;> first | rfl | exact h.elim
def zc6:Sd:=λds S Q ex=>match ds with
 | [.tup [.int a,.int b],.tup [.int c,.int d]]=>(zaT (a,b) (c,d)=none→Q .non S)∧∀p,zaT (a,b) (c,d)=some p→Q (frD p) S
 | _=>False
theorem zrf:Ln (zc6) 2:=λds S Q ex h=>by unfold zc6 at h; split at h <;> first | rfl | exact h.elim
def zgB:Sd:=λds S Q ex=>match ds with
 | [.str w,.tup [.int a,.int b]]=>∃zero:Bool,rwW zero w∧(zc2 zero (a,b)=none→Q .non S)∧∀p,zc2 zero (a,b)=some p→Q (frD p) S
 | _=>False
theorem zwT:Ln (zgB) 2:=λds S Q ex h=>by unfold zgB at h; split at h <;> first | rfl | exact h.elim
def zeY (cNumber:Addr)(cUnknown:Addr)(cPlus:Addr)(cMinus:Addr)(cTimes:Addr)(cPower:Addr):Sd:=λds S Q ex=>match ds with
 | [.ref n,.ref w,.tup [.int z0,.int z1],.int g]=>∃(x y:Int) (vs:List (Int×Int)) (q:Int),S[n]?=some (Nd.ob cNumber cUnknown cPlus cMinus cTimes cPower (Nd.number x y))∧S[w]?=some (.lst (vs.map frD))∧Nd.ok vs.length q (Nd.number x y)∧Spn 1000 vs∧(z0≤z1∧Sz 1000 z0∧Sz 1000 z1)∧(1≤g∧g≤1000000)∧(Nd.bk vs (z0,z1) g (Nd.number x y)=none→Q .non S)∧∀l,Nd.bk vs (z0,z1) g (Nd.number x y)=some l→Q (.ref S.length) (S++[.lst (l.map ptD)])
 | _=>False
theorem zwd (cNumber:Addr)(cUnknown:Addr)(cPlus:Addr)(cMinus:Addr)(cTimes:Addr)(cPower:Addr):Ln (zeY cNumber cUnknown cPlus cMinus cTimes cPower) 4:=λds S Q ex h=>by unfold zeY at h; split at h <;> first | rfl | exact h.elim
def zfh (cNumber:Addr)(cUnknown:Addr)(cPlus:Addr)(cMinus:Addr)(cTimes:Addr)(cPower:Addr):Sd:=λds S Q ex=>match ds with
 | [.ref n,.ref w,.tup [.int z0,.int z1],.int g]=>∃(k:Int) (vs:List (Int×Int)) (q:Int),S[n]?=some (Nd.ob cNumber cUnknown cPlus cMinus cTimes cPower (Nd.unknown k))∧S[w]?=some (.lst (vs.map frD))∧Nd.ok vs.length q (Nd.unknown k)∧Spn 1000 vs∧(z0≤z1∧Sz 1000 z0∧Sz 1000 z1)∧(1≤g∧g≤1000000)∧(Nd.bk vs (z0,z1) g (Nd.unknown k)=none→Q .non S)∧∀l,Nd.bk vs (z0,z1) g (Nd.unknown k)=some l→Q (.ref S.length) (S++[.lst (l.map ptD)])
 | _=>False
theorem ztd (cNumber:Addr)(cUnknown:Addr)(cPlus:Addr)(cMinus:Addr)(cTimes:Addr)(cPower:Addr):Ln (zfh cNumber cUnknown cPlus cMinus cTimes cPower) 4:=λds S Q ex h=>by unfold zfh at h; split at h <;> first | rfl | exact h.elim
def zfX:Sd:=λds S Q ex=>match ds with
 | [.ref _,.tup [.int z0,.int z1],.tup [.int x0,.int x1],.tup [.int y0,.int y1],.int _]=>(zaT (x0,x1) (z0-y1,z1-y0)=none→Q .non S)∧∀p,zaT (x0,x1) (z0-y1,z1-y0)=some p→Q (frD p) S
 | _=>False
theorem ztP:Ln (zfX) 5:=λds S Q ex h=>by unfold zfX at h; split at h <;> first | rfl | exact h.elim
def zhI:Sd:=λds S Q ex=>match ds with
 | [.ref _,.tup [.int z0,.int z1],.tup [.int x0,.int x1],.tup [.int y0,.int y1],.int _]=>(zaT (y0,y1) (z0-x1,z1-x0)=none→Q .non S)∧∀p,zaT (y0,y1) (z0-x1,z1-x0)=some p→Q (frD p) S
 | _=>False
theorem zrB:Ln (zhI) 5:=λds S Q ex h=>by unfold zhI at h; split at h <;> first | rfl | exact h.elim
def zex (cNumber:Addr)(cUnknown:Addr)(cPlus:Addr)(cMinus:Addr)(cTimes:Addr)(cPower:Addr):Sd:=λds S Q ex=>match ds with
 | [.ref n,.ref w,.tup [.int z0,.int z1],.int g]=>∃(i j:Int) (vs:List (Int×Int)) (q:Int),S[n]?=some (Nd.ob cNumber cUnknown cPlus cMinus cTimes cPower (Nd.plus i j))∧S[w]?=some (.lst (vs.map frD))∧Nd.ok vs.length q (Nd.plus i j)∧Spn 1000 vs∧(z0≤z1∧Sz 1000 z0∧Sz 1000 z1)∧(1≤g∧g≤1000000)∧(Nd.bk vs (z0,z1) g (Nd.plus i j)=none→Q .non S)∧∀l,Nd.bk vs (z0,z1) g (Nd.plus i j)=some l→Q (.ref S.length) (S++[.lst (l.map ptD)])
 | _=>False
theorem ztG (cNumber:Addr)(cUnknown:Addr)(cPlus:Addr)(cMinus:Addr)(cTimes:Addr)(cPower:Addr):Ln (zex cNumber cUnknown cPlus cMinus cTimes cPower) 4:=λds S Q ex h=>by unfold zex at h; split at h <;> first | rfl | exact h.elim
def zhq:Sd:=λds S Q ex=>match ds with
 | [.ref _,.tup [.int z0,.int z1],.tup [.int x0,.int x1],.tup [.int y0,.int y1],.int _]=>(zaT (x0,x1) (z0+y0,z1+y1)=none→Q .non S)∧∀p,zaT (x0,x1) (z0+y0,z1+y1)=some p→Q (frD p) S
 | _=>False
theorem zwr:Ln (zhq) 5:=λds S Q ex h=>by unfold zhq at h; split at h <;> first | rfl | exact h.elim
def zhY:Sd:=λds S Q ex=>match ds with
 | [.ref _,.tup [.int z0,.int z1],.tup [.int x0,.int x1],.tup [.int y0,.int y1],.int _]=>(zaT (y0,y1) (x0-z1,x1-z0)=none→Q .non S)∧∀p,zaT (y0,y1) (x0-z1,x1-z0)=some p→Q (frD p) S
 | _=>False
theorem zvl:Ln (zhY) 5:=λds S Q ex h=>by unfold zhY at h; split at h <;> first | rfl | exact h.elim
def zep (cNumber:Addr)(cUnknown:Addr)(cPlus:Addr)(cMinus:Addr)(cTimes:Addr)(cPower:Addr):Sd:=λds S Q ex=>match ds with
 | [.ref n,.ref w,.tup [.int z0,.int z1],.int g]=>∃(i j:Int) (vs:List (Int×Int)) (q:Int),S[n]?=some (Nd.ob cNumber cUnknown cPlus cMinus cTimes cPower (Nd.minus i j))∧S[w]?=some (.lst (vs.map frD))∧Nd.ok vs.length q (Nd.minus i j)∧Spn 1000 vs∧(z0≤z1∧Sz 1000 z0∧Sz 1000 z1)∧(1≤g∧g≤1000000)∧(Nd.bk vs (z0,z1) g (Nd.minus i j)=none→Q .non S)∧∀l,Nd.bk vs (z0,z1) g (Nd.minus i j)=some l→Q (.ref S.length) (S++[.lst (l.map ptD)])
 | _=>False
theorem zvu (cNumber:Addr)(cUnknown:Addr)(cPlus:Addr)(cMinus:Addr)(cTimes:Addr)(cPower:Addr):Ln (zep cNumber cUnknown cPlus cMinus cTimes cPower) 4:=λds S Q ex h=>by unfold zep at h; split at h <;> first | rfl | exact h.elim
def zgf:Sd:=λds S Q ex=>match ds with
 | [.tup [.int a,.int b]]=>Q (.bl (decide (a≤0)&&decide (0≤b))) S
 | _=>False
theorem zrW:Ln (zgf) 1:=λds S Q ex h=>by unfold zgf at h; split at h <;> first | rfl | exact h.elim
def zfc:Sd:=λds S Q ex=>match ds with
 | [.tup [.int x0,.int x1],.tup [.int l0,.int l1],.tup [.int h0,.int h1]]=>(ptB (x0,x1) (l0,l1) (h0,h1)=none→Q .non S)∧∀p,ptB (x0,x1) (l0,l1) (h0,h1)=some p→Q (frD p) S
 | _=>False
theorem ztE:Ln (zfc) 3:=λds S Q ex h=>by unfold zfc at h; split at h <;> first | rfl | exact h.elim
def zfW:Sd:=λds S Q ex=>match ds with
 | [.int t,.int b]=>CFd 0 b∧Q (.tup [.int (t/b),.int (-(-t/b))]) S
 | _=>False
theorem zsw:Ln (zfW) 2:=λds S Q ex h=>by unfold zfW at h; split at h <;> first | rfl | exact h.elim
def zhc:Sd:=λds S Q ex=>match ds with
 | [.tup [.int lo,.int hi],.tup [.int x0,.int x1],.tup [.int c,.int d]]=>(0≤c∧0<d∧Sz 1400 c∧Sz 1400 d)∧(sdS lo hi (x0,x1) c d=none→Q .non S)∧∀p,sdS lo hi (x0,x1) c d=some p→Q (frD p) S
 | _=>False
theorem zs5:Ln (zhc) 3:=λds S Q ex h=>by unfold zhc at h; split at h <;> first | rfl | exact h.elim
def zhZ:Sd:=λds S Q ex=>match ds with
 | [.tup [.int a,.int b],.tup [.int c,.int d]]=>Q (.tup [.int (if c<a then c else a),.int (if d > b then d else b)]) S
 | _=>False
theorem zu3:Ln (zhZ) 2:=λds S Q ex h=>by unfold zhZ at h; split at h <;> first | rfl | exact h.elim
def zfD:Sd:=λds S Q ex=>match ds with
 | [.non,y]=>Q y S
 | [.tup [.int a,.int b],.non]=>Q (.tup [.int a,.int b]) S
 | [.tup [.int a,.int b],.tup [.int c,.int d]]=>Q (.tup [.int (if c<a then c else a),.int (if d > b then d else b)]) S
 | _=>False
theorem zvY:Ln (zfD) 2:=λds S Q ex h=>by unfold zfD at h; split at h <;> first | rfl | exact h.elim
def zdI:Sd:=λds S Q ex=>match ds with
 | [.tup [.int a,.int b]]=>Q (.tup [.int (-b),.int (-a)]) S
 | _=>False
theorem ztL:Ln (zdI) 1:=λds S Q ex h=>by unfold zdI at h; split at h <;> first | rfl | exact h.elim
def zem:Sd:=λds S Q ex=>match ds with
 | [.tup [.int z0,.int z1],.tup [.int x0,.int x1],.tup [.int y0,.int y1],.int g]=>(y0≤y1∧Sz 1100 z0∧Sz 1100 z1∧Sz 1100 y0∧Sz 1100 y1∧Sz 30 g)∧(btS (z0,z1) (x0,x1) (y0,y1) g=none→Q .non S)∧∀p,btS (z0,z1) (x0,x1) (y0,y1) g=some p→Q (frD p) S
 | _=>False
theorem zvj:Ln (zem) 4:=λds S Q ex h=>by unfold zem at h; split at h <;> first | rfl | exact h.elim
def zg4:Sd:=λds S Q ex=>match ds with
 | [.ref _,.tup [.int z0,.int z1],.tup [.int x0,.int x1],.tup [.int y0,.int y1],.int g]=>(y0≤y1∧Sz 1100 z0∧Sz 1100 z1∧Sz 1100 y0∧Sz 1100 y1∧Sz 30 g)∧(btS (z0,z1) (x0,x1) (y0,y1) g=none→Q .non S)∧∀p,btS (z0,z1) (x0,x1) (y0,y1) g=some p→Q (frD p) S
 | _=>False
theorem zxn:Ln (zg4) 5:=λds S Q ex h=>by unfold zg4 at h; split at h <;> first | rfl | exact h.elim
def zfQ:Sd:=λds S Q ex=>match ds with
 | [.ref _,.tup [.int z0,.int z1],.tup [.int x0,.int x1],.tup [.int y0,.int y1],.int g]=>(x0≤x1∧Sz 1100 z0∧Sz 1100 z1∧Sz 1100 x0∧Sz 1100 x1∧Sz 30 g)∧(btS (z0,z1) (y0,y1) (x0,x1) g=none→Q .non S)∧∀p,btS (z0,z1) (y0,y1) (x0,x1) g=some p→Q (frD p) S
 | _=>False
theorem zsu:Ln (zfQ) 5:=λds S Q ex h=>by unfold zfQ at h; split at h <;> first | rfl | exact h.elim
def ze3 (cNumber:Addr)(cUnknown:Addr)(cPlus:Addr)(cMinus:Addr)(cTimes:Addr)(cPower:Addr):Sd:=λds S Q ex=>match ds with
 | [.ref n,.ref w,.tup [.int z0,.int z1],.int g]=>∃(i j:Int) (vs:List (Int×Int)) (q:Int),S[n]?=some (Nd.ob cNumber cUnknown cPlus cMinus cTimes cPower (Nd.times i j))∧S[w]?=some (.lst (vs.map frD))∧Nd.ok vs.length q (Nd.times i j)∧Spn 1000 vs∧(z0≤z1∧Sz 1000 z0∧Sz 1000 z1)∧(1≤g∧g≤1000000)∧(Nd.bk vs (z0,z1) g (Nd.times i j)=none→Q .non S)∧∀l,Nd.bk vs (z0,z1) g (Nd.times i j)=some l→Q (.ref S.length) (S++[.lst (l.map ptD)])
 | _=>False
theorem zsq (cNumber:Addr)(cUnknown:Addr)(cPlus:Addr)(cMinus:Addr)(cTimes:Addr)(cPower:Addr):Ln (ze3 cNumber cUnknown cPlus cMinus cTimes cPower) 4:=λds S Q ex h=>by unfold ze3 at h; split at h <;> first | rfl | exact h.elim
def zfL:Sd:=λds S Q ex=>match ds with
 | [.int g,.int N,.int n]=>(2≤n∧n≤6∧0<g∧Sz 800 g)∧Q (.int (((n-1)*g+N/g^(n-1).toNat)/n)) S
 | _=>False
theorem zr1:Ln (zfL) 3:=λds S Q ex h=>by unfold zfL at h; split at h <;> first | rfl | exact h.elim
def zeT:Sd:=λds S Q ex=>match ds with
 | [.int N,.int n]=>(2≤n∧n≤6∧0≤N∧Sz 1300 N)∧∀r:Int,0≤r→Sz 800 r→r^n.toNat≤N→N<(r+1)^n.toNat→Q (.int r) S
 | _=>False
theorem zsA:Ln (zeT) 2:=λds S Q ex h=>by unfold zeT at h; split at h <;> first | rfl | exact h.elim
def zgI:Sd:=λds S Q ex=>match ds with
 | [.int N,.int n]=>(2≤n∧n≤6∧0≤N∧Sz 1300 N)∧Q (frD (rt0 N n.toNat)) S
 | _=>False
theorem zq3:Ln (zgI) 2:=λds S Q ex h=>by unfold zgI at h; split at h <;> first | rfl | exact h.elim
def zgy:Sd:=λds S Q ex=>match ds with
 | [.int N,.int n]=>(2≤n∧n≤6∧(n%2=1∨0≤N)∧Sz 1300 N)∧Q (frD (rtS N n.toNat)) S
 | _=>False
theorem zya:Ln (zgy) 2:=λds S Q ex h=>by unfold zgy at h; split at h <;> first | rfl | exact h.elim
def zgn:Sd:=λds S Q ex=>match ds with
 | [.tup [.int z0,.int z1],.tup [.int x0,.int x1],.int n,.int g]=>(2≤n∧n≤6∧1≤g∧Sz 30 g∧Sz 1100 z0∧Sz 1100 z1)∧(bpS (z0,z1) (x0,x1) n g=none→Q .non S)∧∀p,bpS (z0,z1) (x0,x1) n g=some p→Q (frD p) S
 | _=>False
theorem zu6:Ln (zgn) 4:=λds S Q ex h=>by unfold zgn at h; split at h <;> first | rfl | exact h.elim
def zfn (cNumber:Addr)(cUnknown:Addr)(cPlus:Addr)(cMinus:Addr)(cTimes:Addr)(cPower:Addr):Sd:=λds S Q ex=>match ds with
 | [.ref n,.ref w,.tup [.int z0,.int z1],.int g]=>∃(i m:Int) (vs:List (Int×Int)) (q:Int),S[n]?=some (Nd.ob cNumber cUnknown cPlus cMinus cTimes cPower (Nd.power i m))∧S[w]?=some (.lst (vs.map frD))∧Nd.ok vs.length q (Nd.power i m)∧Spn 1000 vs∧(z0≤z1∧Sz 1000 z0∧Sz 1000 z1)∧(1≤g∧g≤1000000)∧(Nd.bk vs (z0,z1) g (Nd.power i m)=none→Q .non S)∧∀l,Nd.bk vs (z0,z1) g (Nd.power i m)=some l→Q (.ref S.length) (S++[.lst (l.map ptD)])
 | _=>False
theorem zxu (cNumber:Addr)(cUnknown:Addr)(cPlus:Addr)(cMinus:Addr)(cTimes:Addr)(cPower:Addr):Ln (zfn cNumber cUnknown cPlus cMinus cTimes cPower) 4:=λds S Q ex h=>by unfold zfn at h; split at h <;> first | rfl | exact h.elim
def zhA:Sd:=λds S Q ex=>match ds with
 | [.ref a,.tup [.str w,.int k],.ref b,.int g]=>∃(ns:List Nd) (ws:List Nat) (bs:List (Int×Int)) (zero:Bool),S[a]?=some (.lst (ns.map Nd.d))∧S[b]?=some (.lst (bs.map frD))∧rwW zero w∧inR ns.length k∧zaO bs.length ns ws∧Spn 51 bs∧(1≤g∧g≤1000000)∧ns.length≤70∧(sbS ns zero k.toNat bs g=none→∀T:Sto,Pre S T→Q .non T)∧∀(us:List (Int×Int)) (T:Sto) (m:Nat),sbS ns zero k.toNat bs g=some us→Pre S T→S.length≤m→T[m]?=some (.lst (us.map frD))→Q (.ref m) T
 | _=>False
theorem zuP:Ln (zhA) 4:=λds S Q ex h=>by unfold zhA at h; split at h <;> first | rfl | exact h.elim
def zhU:Sd:=λds S Q ex=>match ds with
 | [.ref a,.tup [.str w,.int k],.ref b,.int g]=>∃(ns:List Nd) (ws:List Nat) (bs:List (Int×Int)) (zero:Bool),S[a]?=some (.lst (ns.map Nd.d))∧S[b]?=some (.lst (bs.map frD))∧rwW zero w∧inR ns.length k∧zaO bs.length ns ws∧Spn 51 bs∧(1≤g∧g≤1000000)∧ns.length≤70∧(nwS ns zero k.toNat bs g=none→∀T:Sto,Pre S T→Q .non T)∧∀(us:List (Int×Int)) (T:Sto) (m:Nat),nwS ns zero k.toNat bs g=some us→Pre S T→S.length≤m→T[m]?=some (.lst (us.map frD))→Q (.ref m) T
 | _=>False
theorem zun:Ln (zhU) 4:=λds S Q ex h=>by unfold zhU at h; split at h <;> first | rfl | exact h.elim
def zeL:Sd:=λds S Q ex=>match ds with
 | [.tup [.int a,.int b],.tup [.int c,.int d]]=>(zaT (a,b) (c,d)=none→Q .non S)∧∀p,zaT (a,b) (c,d)=some p→Q (frD p) S
 | _=>False
theorem zsC:Ln (zeL) 2:=λds S Q ex h=>by unfold zeL at h; split at h <;> first | rfl | exact h.elim
def zeX:Sd:=λds S Q ex=>match ds with
 | [.ref a]=>∃os:List (Option (Int×Int)),S[a]?=some (.lst (os.map opD))∧os.length≤10∧(hlS os=none→∀T:Sto,Pre S T→Q .non T)∧∀p,hlS os=some p→∀T:Sto,Pre S T→Q (frD p) T
 | _=>False
theorem zvr:Ln (zeX) 1:=λds S Q ex h=>by unfold zeX at h; split at h <;> first | rfl | exact h.elim
def zgk:Sd:=λds S Q ex=>match ds with
 | [.tup [.int x0,.int x1],d]=>∃l h:Option (Int×Int),d=pcD (l,h)∧(Sz 1100 x0∧Sz 1100 x1)∧(∀a,l=some a→0<a.2∧Sz 1100 a.2)∧(∀b,h=some b→0<b.2∧Sz 1100 b.2)∧(kpS (x0,x1) l h=none→Q .non S)∧∀p,kpS (x0,x1) l h=some p→Q (frD p) S
 | _=>False
theorem zrm:Ln (zgk) 2:=λds S Q ex h=>by unfold zgk at h; split at h <;> first | rfl | exact h.elim
def zgc:Sd:=λds S Q ex=>match ds with
 | [.int lo,.int hi,.tup [.int y0,.int y1]]=>(y0≤y1∧Sz 1100 lo∧Sz 1100 hi∧Sz 1100 y0∧Sz 1100 y1)∧∀(T:Sto) (m:Nat) (ps:List (Option (Int×Int)×Option (Int×Int))),Pre S T→T[m]?=some (.lst (ps.map pcD))→zll lo hi (y0,y1) ps→Q (.ref m) T
 | _=>False
theorem zvq:Ln (zgc) 3:=λds S Q ex h=>by unfold zgc at h; split at h <;> first | rfl | exact h.elim
def zf0:Sd:=λds S Q ex=>match ds with
 | [.tup [.int z0,.int z1],.tup [.int x0,.int x1],.tup [.int y0,.int y1],.int g]=>((z0≤z1∧x0≤x1∧y0≤y1)∧(1≤g∧g≤1000000)∧Sz 1000 z0∧Sz 1000 z1∧Sz 1000 x0∧Sz 1000 x1∧Sz 1000 y0∧Sz 1000 y1)∧(btS (z0,z1) (x0,x1) (y0,y1) g=none→∀T:Sto,Pre S T→Q .non T)∧∀p,btS (z0,z1) (x0,x1) (y0,y1) g=some p→∀T:Sto,Pre S T→Q (frD p) T
 | _=>False
theorem zsX:Ln (zf0) 4:=λds S Q ex h=>by unfold zf0 at h; split at h <;> first | rfl | exact h.elim
def zgL:Sd:=λds S Q ex=>match ds with
 | [d,.tup [.int z0,.int z1],.tup [.int x0,.int x1],.tup [.int y0,.int y1],.int g,.bl b]=>∃v:Nd,d=v.d∧zoS v∧((z0≤z1∧x0≤x1∧y0≤y1)∧(1≤g∧g≤1000000)∧Sz 1000 z0∧Sz 1000 z1∧Sz 1000 x0∧Sz 1000 x1∧Sz 1000 y0∧Sz 1000 y1)∧(hfS (z0,z1) (x0,x1) (y0,y1) g b v=none→∀T:Sto,Pre S T→Q .non T)∧∀p,hfS (z0,z1) (x0,x1) (y0,y1) g b v=some p→∀T:Sto,Pre S T→Q (frD p) T
 | _=>False
theorem zxD:Ln (zgL) 6:=λds S Q ex h=>by unfold zgL at h; split at h <;> first | rfl | exact h.elim
def zhs:Sd:=λds S Q ex=>match ds with
 | [.int N,.int n,.int m]=>(2≤n∧n≤6∧0≤N∧0≤m∧Sz 1100 m)∧Q (.int (if rbS N n.toNat<m then rbS N n.toNat else m)) S
 | _=>False
theorem zvG:Ln (zhs) 3:=λds S Q ex h=>by unfold zhs at h; split at h <;> first | rfl | exact h.elim
def zh6:Sd:=λds S Q ex=>match ds with
 | [.int N,.int n,.int m]=>(2≤n∧n≤6∧0≤m∧Sz 1100 m)∧Q (.int (dnS N n.toNat m)) S
 | _=>False
theorem zvH:Ln (zh6) 3:=λds S Q ex h=>by unfold zh6 at h; split at h <;> first | rfl | exact h.elim
def zgQ:Sd:=λds S Q ex=>match ds with
 | [.tup [.int x0,.int x1],.int lo,.int hi,.int n]=>(2≤n∧n≤6∧x0≤x1∧Sz 1000 x0∧Sz 1000 x1)∧(ptB (x0,x1) (rtS lo n.toNat) (rtS hi n.toNat)=none→Q .non S)∧∀p,ptB (x0,x1) (rtS lo n.toNat) (rtS hi n.toNat)=some p→Q (frD p) S
 | _=>False
theorem zra:Ln (zgQ) 4:=λds S Q ex h=>by unfold zgQ at h; split at h <;> first | rfl | exact h.elim
def zhR:Sd:=λds S Q ex=>match ds with
 | [.tup [.int z0,.int z1],.tup [.int x0,.int x1],.int n,.int g]=>(2≤n∧n≤6∧(1≤g∧g≤1000000)∧x0≤x1∧Sz 1000 z0∧Sz 1000 z1∧Sz 1000 x0∧Sz 1000 x1)∧(bpS (z0,z1) (x0,x1) n g=none→∀T:Sto,Pre S T→Q .non T)∧∀p,bpS (z0,z1) (x0,x1) n g=some p→∀T:Sto,Pre S T→Q (frD p) T
 | _=>False
theorem zxq:Ln (zhR) 4:=λds S Q ex h=>by unfold zhR at h; split at h <;> first | rfl | exact h.elim
def zgR:Sd:=λds S Q ex=>match ds with
 | [d,.ref w,.tup [.int z0,.int z1],.int g]=>∃(v:Nd) (vs:List (Int×Int)) (q:Int),d=v.d∧S[w]?=some (.lst (vs.map frD))∧v.ok vs.length q∧Spn 1000 vs∧(z0≤z1∧Sz 1000 z0∧Sz 1000 z1)∧(1≤g∧g≤1000000)∧(v.bk vs (z0,z1) g=none→∀T:Sto,Pre S T→Q .non T)∧∀l,v.bk vs (z0,z1) g=some l→∀(T:Sto) (m:Nat),Pre S T→S.length≤m→T[m]?=some (.lst (l.map ptD))→Q (.ref m) T
 | _=>False
theorem zxY:Ln (zgR) 4:=λds S Q ex h=>by unfold zgR at h; split at h <;> first | rfl | exact h.elim
def zfT:Sd:=λds S Q ex=>match ds with
 | [.ref a,.tup [.str w,.int k],.ref b,.int g]=>∃(ns:List Nd) (ws:List Nat) (bs:List (Int×Int)) (zero:Bool),S[a]?=some (.lst (ns.map Nd.d))∧S[b]?=some (.lst (bs.map frD))∧rwW zero w∧inR ns.length k∧zaO bs.length ns ws∧Spn 51 bs∧(1≤g∧g≤1000000)∧ns.length≤70∧(nwS ns zero k.toNat bs g=none→∀T:Sto,Pre S T→Q .non T)∧∀(us:List (Int×Int)) (T:Sto) (m:Nat),nwS ns zero k.toNat bs g=some us→Pre S T→S.length≤m→T[m]?=some (.lst (us.map frD))→Q (.ref m) T
 | _=>False
theorem zut:Ln (zfT) 4:=λds S Q ex h=>by unfold zfT at h; split at h <;> first | rfl | exact h.elim
def zgF:Sd:=λds S Q ex=>match ds with
 | [.int _]=>Q (.bl true) S
 | _=>False
theorem zrv:Ln (zgF) 1:=λds S Q ex h=>by unfold zgF at h; split at h <;> first | rfl | exact h.elim
def zgZ:Sd:=λds S Q ex=>match ds with
 | [.tup [.int a,.int b]]=>a≤b∧Q (.bl true) S
 | _=>False
theorem ztY:Ln (zgZ) 1:=λds S Q ex h=>by unfold zgZ at h; split at h <;> first | rfl | exact h.elim
def zgT:Sd:=λds S Q ex=>match ds with
 | [.ref a,.int m]=>∃vs:List (Int×Int),S[a]?=some (.lst (vs.map frD))∧m=vs.length∧(∀p∈vs,p.1≤p.2)∧Q (.bl true) S
 | _=>False
theorem zuf:Ln (zgT) 2:=λds S Q ex h=>by unfold zgT at h; split at h <;> first | rfl | exact h.elim
section
variable {P:Program}{w:World}{K:PySem.W.Frag}{mg:Str→Option Value}{base:Heap}
def zxk  (ziq:Df K mg "_law_grid" ziZ zg6):Fk P w K mg base 1 "_law_grid" zg6 zgD:=
 ziq.mk' (zeZ (zax (k:=0) ziq.F zpx (zeW (zrz)) λcdv A outer s H E hr=>⟨_,(zae (zal (i:=1) zpx.nd rfl (Or.inl rfl) (zaf zbb (dv 0) (zaf zdd zab zab))) (zag (zak (zaf zaY zab (zaf zbb (zaf zbb (zaf zaN (zaf zb1 (dv 1) zab) zab) zab) (zaJ (za6 (zaa zab (zaa zab (zaa zab (zaa zab zac))))) (zaf zba (dv 1) zab) (λ_ _=>rfl))))))),λds S Q ex h=>by
  obtain⟨Q0,ex0,rfl,rfl,h⟩:=h
  unfold zgD at h
  split at h
  ·rename_i c
   have r0:=za7 (a:=c) (b:=10^Int.toNat 20) (by decide)
   have e20:(10:Int)^Int.toNat 20=100000000000000000000:=rfl
   have s0:Sz 70 (c%10^Int.toNat 20):=Sz.of (10^20) (by omega)
   have mo:=zaG (m:=70) (n:=17) (s0.div (j:=4) (by decide)) (j:=48271) (by unfold Sz; decide)
   refine⟨show (0:Int)<10^Int.toNat 20 by decide,mo,show (0:Int)<2147483647 by decide,?_⟩
   have four:∀i:Int,inR 4 i→∃x:Int,(1≤x∧x≤1000000)∧atI [D.int 1,D.int 12,D.int 1000,D.int 1000000] i=some (.int x):=λi hi=>by
    obtain⟨h0,h3⟩:=hi
    have z:i=0∨i=1∨i=2∨i=3:=by omega
    rcases z with rfl | rfl | rfl | rfl
    ·exact⟨_,by decide,rfl⟩
    ·exact⟨_,by decide,rfl⟩
    ·exact⟨_,by decide,rfl⟩
    ·exact⟨_,by decide,rfl⟩
   obtain⟨x,hx,ex'⟩:=four (c%10^Int.toNat 20%4) (za7 (by decide))
   refine zaA (o:=.lst [.int 1,.int 12,.int 1000,.int 1000000]) (zaB _ _) ex' ?_
   have px:0<x:=by omega
   have rx:=za7 (a:=c%10^Int.toNat 20/4*48271%2147483647) px
   exact⟨px,Pre.refl.push,.int _,h _ (by omega) (by omega)⟩
  ·exact h.elim⟩))
def zuZ  (zlU:Df K mg "_law_divisor" zmZ zfU):Fk P w K mg base 1 "_law_divisor" zfU zfN:=
 zlU.mk' (zax (k:=0) zlU.F zja (zxv) λcdv A outer s H E hr=>⟨_,(zae (zo0 PassesOwn.never (zar zb4 (dv 1) zab (zap _)) (zae (zal (i:=2) zja.nd rfl (Or.inl rfl) (zaf zbb (dv 0) (dv 1))) (zae (zal (i:=0) zja.nd rfl (Or.inl rfl) (dv 1)) (zag (zal (i:=1) zja.nd rfl (Or.inl rfl) (dv 2)))))) (zag (zak (dv 0)))),λds S Q ex h=>by
  unfold zfN at h
  split at h
  ·rename_i a b
   obtain⟨⟨ha,hb⟩,h⟩:=h
   refine⟨λm dl' S'=>S'=S∧∃(x y:Int) (o:Option D),dl'=[some (.int x),some (.int y),o]∧0≤x∧0≤y∧Int.gcd x y=Int.gcd a b∧m=y.toNat,⟨b.toNat,rfl,a,b,none,rfl,ha,hb,rfl,rfl⟩,?_⟩
   rintro m dl' S' ⟨rfl,x,y,o,rfl,hx,hy,hg,rfl⟩
   refine ifD (λc'=>?_) (λc=>?_)
   ·exact⟨c',⟨(x%y).toNat,by have:=za7 (a:=x) c'; omega,rfl,y,x%y,_,rfl,hy,(za7 (a:=x) c').1,(zsp x y).trans hg,rfl⟩⟩
   ·have c:y=0:=by omega
    subst c
    have e:((Int.gcd a b:Nat):Int)=x:=by rw[← hg,Int.gcd_zero_right]; omega
    rw[e] at h
    exact h
  ·exact h.elim⟩)
def zsk  (zl5:Df K mg "_law_fraction" zjj zdR)(zol:Fk P w K mg base 1 "_law_divisor" zfU zfN)(zbh:mg "abs"=none):Fk P w K mg base 2 "_law_fraction" zdR zdZ:=
 zl5.mk' (zax (k:=1) zl5.F zpe (zvm) λcdv A outer s H E hr=>⟨_,(zae (zal (i:=2) zpe.nd rfl (Or.inl rfl) (zaq zol hr (zaa (zaF zcV rfl zbh Boot.«abs» (zaa (dv 0) zac)) (zaa (dv 1) zac)))) (zag (zak (zay (zaa (zaf zbi (dv 0) (dv 2)) (zaa (zaf zbi (dv 1) (dv 2)) zac)))))),λds S Q ex h=>by
  unfold zdZ at h
  split at h
  ·rename_i T B
   obtain⟨⟨hB,sB⟩,h⟩:=h
   refine⟨⟨zt2 T,by omega⟩,?_⟩
   have eg:Int.gcd (if T<0 then -T else T) B=Int.gcd T B:=by
    have z:=zrY T B
    rw[show zdh B=B by unfold zdh; split <;> omega] at z
    exact z
   rw[eg]
   have f:=zsI (T:=T) (B:=B) (d:=((Int.gcd T B:Nat):Int)) (by omega) (by rw[if_neg (by omega)])
   obtain⟨f1,f2,f3,f4,f5,f6⟩:=f
   have gp:(0:Int)<((Int.gcd T B:Nat):Int):=by omega
   have gle:((Int.gcd T B:Nat):Int)≤B:=Int.le_of_dvd hB (Int.gcd_dvd_right T B)
   have sg:Sz 4000 ((Int.gcd T B:Nat):Int):=by
    unfold Sz at sB ⊢
    omega
   refine⟨sg.fd gp,sg.fd gp,?_⟩
   have e1:T/((Int.gcd T B:Nat):Int)=T.fdiv ((Int.gcd T B:Nat):Int):=(Int.fdiv_eq_ediv_of_nonneg _ (by omega)).symm
   have e2:B/((Int.gcd T B:Nat):Int)=B.fdiv ((Int.gcd T B:Nat):Int):=(Int.fdiv_eq_ediv_of_nonneg _ (by omega)).symm
   have q:=h _ _ f4 f5 f6 (zpm f1 f2) (by have:=zpm f1 f3; omega)
   rw[← e1,← e2] at q
   exact q
  ·exact h.elim⟩)
def zsV  (zkr:Df K mg "_law_number" zjS zhB)(zcP:Fk P w K mg base 2 "_law_fraction" zdR zdZ):Fk P w K mg base 3 "_law_number" zhB zfJ:=
 zkr.mk' (zax (k:=2) zkr.F zjQ (zvC) λcdv A outer s H E hr=>⟨_,(zae (zal (i:=1) zjQ.nd rfl (Or.inl rfl) (zaf zbb (dv 0) (zaf zdd zab zab))) (zae (zau (zar (zaI hr) (zaf zba (dv 1) zab) zab (zap _)) (zag (zal (i:=2) zjQ.nd rfl (Or.inl rfl) (zaq zcP hr (zaa (zaf zbf (zaf zbb (zaf zb1 (dv 1) zab) zab) zab) (zaa (zaf zaY zab (zaf zba (zaf zaN (dv 1) zab) zab)) zac))))) (zag (zal (i:=2) zjQ.nd rfl (Or.inl rfl) (zaq zcP hr (zaa (zaf zbf (zaf zba (zaf zb1 (dv 1) zab) zab) zab) (zaa (zaf zaY zab (zaf zba (zaf zbb (zaf zaN (dv 1) zab) zab) zab)) zac)))))) (zag (zak (zay (zaa zaL (zaa (zad (dv 2) zab (λ_ _=>rfl)) (zaa (zad (dv 2) zab (λ_ _=>rfl)) zac)))))))),λds S Q ex h=>by
  unfold zfJ at h
  split at h
  ·rename_i c
   have r0:=za7 (a:=c) (b:=10^Int.toNat 40) (by decide)
   have s0:Sz 140 (c%10^Int.toNat 40):=Sz.of (10^40) (by have e:(10:Int)^Int.toNat 40=10000000000000000000000000000000000000000:=rfl; omega)
   have k1:Sz 17 48271:=by unfold Sz; decide
   have mo:=zaG (m:=140) (n:=17) s0 k1
   refine⟨show (0:Int)<10^Int.toNat 40 by decide,?_⟩
   refine ifD (λe=>?_) (λe=>?_)
   ·have r1:=za7 (a:=c%10^Int.toNat 40/4) (b:=1999999999) (by decide)
    have r2:=za7 (a:=c%10^Int.toNat 40*48271) (b:=999999999) (by decide)
    refine⟨show (0:Int)<1999999999 by decide,mo,?_⟩
    refine⟨⟨show 0<1+c%10^Int.toNat 40*48271%999999999 by omega,Sz.of (10^10) (by show (1+c%10^Int.toNat 40*48271%999999999).natAbs≤_; omega)⟩,λt b h1 h2 h3 h4 h5=>?_⟩
    exact h t b ⟨h1,by omega⟩ h2 (by omega)
   ·have r2:=za7 (a:=c%10^Int.toNat 40*48271%2147483647) (b:=6) (by decide)
    refine⟨mo,show (0:Int)<2147483647 by decide,?_⟩
    refine⟨⟨show 0<1+c%10^Int.toNat 40*48271%2147483647%6 by omega,Sz.of (10^10) (by show (1+c%10^Int.toNat 40*48271%2147483647%6).natAbs≤_; omega)⟩,λt b h1 h2 h3 h4 h5=>?_⟩
    exact h t b ⟨h1,by omega⟩ h2 (by omega)
  ·exact h.elim⟩)
def zrU  (zmh:Df K mg "_law_node" zk0 zh4)(znZ:Fk P w K mg base 3 "_law_number" zhB zfJ):Fk P w K mg base 4 "_law_node" zh4 zhx:=
 zmh.mk' (zeZ (zax (k:=3) zmh.F zfo (zeW (zuB)) λcdv A outer s H E hr=>⟨_,(zae (zal (i:=3) zfo.nd rfl (Or.inl rfl) (zaf zbb (dv 0) (zaf zdd zab zab))) (zae (zal (i:=4) zfo.nd rfl (Or.inl rfl) (zaf zba (dv 3) zab)) (zae (zal (i:=3) zfo.nd rfl (Or.inl rfl) (zaf zb1 (dv 3) zab)) (zae (zau (zar (zaI hr) (dv 4) zab (zap _)) (zag (zak (zaq znZ hr (zaa (dv 3) zac)))) zav) (zae (zau (PDW.pt (zcz (zar (zaI hr) (dv 4) zab (zap _)) (zcM (zar (zaI hr) (dv 1) zab (zap _))))) (zag (zak (zay (zaa zaL (zaa (zaf zbb (dv 3) (dv 2)) zac))))) zav) (zae (zal (i:=5) zfo.nd rfl (Or.inl rfl) (zaf zbb (dv 3) (dv 1))) (zae (zau (zar (zaI hr) (zaf zba (dv 3) zab) zab (zap _)) (zag (zal (i:=5) zfo.nd rfl (Or.inl rfl) (zaf zbf (dv 1) zab))) zav) (zae (zau (zar (zaI hr) (dv 4) zab (zap _)) (zag (zak (zay (zaa zaL (zaa (dv 5) (zaa (zaf zaY zab (zaf zba (zaf zbb (zaf zaN (dv 3) zab) zab) zab)) zac)))))) zav) (zag (zak (zay (zaa (zaJ (za6 (zaa zaL (zaa zaL (zaa zaL zac)))) (zaf zba (dv 4) zab) (λ_ _=>rfl)) (zaa (dv 5) (zaa (zaf zbb (zaf zbb (zaf zaN (dv 3) zab) zab) (dv 1)) zac)))))))))))))),λds S Q ex h=>by
  obtain⟨Q0,ex0,rfl,rfl,h⟩:=h
  unfold zhx at h
  split at h
  ·rename_i c m q
   obtain⟨⟨m0,m1,q0,q1⟩,h⟩:=h
   have h':∀v:Nd,v.ok m q→Gc S Q0 v.d S:=λv z=>⟨Pre.refl,zdm v,h v z⟩
   have r0:=za7 (a:=c) (b:=10^Int.toNat 40) (by decide)
   have s0:Sz 140 (c%10^Int.toNat 40):=Sz.of (10^40) (by have e:(10:Int)^Int.toNat 40=10000000000000000000000000000000000000000:=rfl; omega)
   have s1:=s0.div (j:=8) (by decide)
   refine⟨show (0:Int)<10^Int.toNat 40 by decide,?_⟩
   refine ifD (λe=>?_) (λe=>?_)
   ·exact λt b h1 h2 h3=>h' (.number t b) ⟨h1,h2,h3⟩
   have pq:0<q:=by omega
   have rq:=za7 (a:=c%10^Int.toNat 40/8) pq
   have un:=h' (.unknown (c%10^Int.toNat 40/8%q)) rq
   refine ifD (λe=>⟨pq,un⟩) (λe=>?_)
   refine ifD (λe=>⟨pq,un⟩) (λe=>?_)
   have pm:0<m:=by omega
   have rm:=za7 (a:=c%10^Int.toNat 40/8) pm
   have r5:=za7 (a:=c%10^Int.toNat 40/8*69621%2147483629) (b:=5) (by decide)
   have rj:=za7 (a:=c%10^Int.toNat 40/8*48271%2147483647) pm
   have k1:Sz 17 48271:=by unfold Sz; decide
   have k2:Sz 17 69621:=by unfold Sz; decide
   refine⟨pm,?_⟩
   have last:∀(i:Int),inR m i→∀(x:Str),(x="plus"∨x="minus"∨x="times")→Gc S Q0 (.tup [.str x,.int i,.int (c%10^Int.toNat 40/8*48271%2147483647%m)]) (S++[.lst [.str "plus",.str "minus",.str "times"]]):=λi hi x hx=>by
    rcases hx with rfl | rfl | rfl
    ·exact⟨Pre.refl.push,zdm (.plus i _),h (.plus i _) ⟨hi,rj⟩⟩
    ·exact⟨Pre.refl.push,zdm (.minus i _),h (.minus i _) ⟨hi,rj⟩⟩
    ·exact⟨Pre.refl.push,zdm (.times i _),h (.times i _) ⟨hi,rj⟩⟩
   have three:∀i:Int,inR 3 i→∃x:Str,(x="plus"∨x="minus"∨x="times")∧atI [D.str "plus",D.str "minus",D.str "times"] i=some (.str x):=λi hi=>by
    obtain⟨h0,h3⟩:=hi
    have z:i=0∨i=1∨i=2:=by omega
    rcases z with rfl | rfl | rfl
    ·exact⟨_,.inl rfl,rfl⟩
    ·exact⟨_,.inr (.inl rfl),rfl⟩
    ·exact⟨_,.inr (.inr rfl),rfl⟩
   obtain⟨x,hx,ex'⟩:=three (c%10^Int.toNat 40%8%3) (za7 (by decide))
   refine ifD (λe=>?_) (λe=>?_)
   ·refine ifD (λe=>?_) (λe=>?_)
    ·exact⟨zaG (m:=140) (n:=17) s1 k2,show (0:Int)<2147483629 by decide,h' (.power (m-1) _) ⟨⟨by omega,by omega⟩,by omega,by omega⟩⟩
    ·refine zaA (o:=.lst [.str "plus",.str "minus",.str "times"]) (zaB _ _) ex' ?_
     exact⟨zaG (m:=140) (n:=17) s1 k1,show (0:Int)<2147483647 by decide,pm,last _ ⟨by omega,by omega⟩ x hx⟩
   ·refine ifD (λe=>?_) (λe=>?_)
    ·exact⟨zaG (m:=140) (n:=17) s1 k2,show (0:Int)<2147483629 by decide,h' (.power (c%10^Int.toNat 40/8%m) _) ⟨rm,by omega,by omega⟩⟩
    ·refine zaA (o:=.lst [.str "plus",.str "minus",.str "times"]) (zaB _ _) ex' ?_
     exact⟨zaG (m:=140) (n:=17) s1 k1,show (0:Int)<2147483647 by decide,pm,last _ rm x hx⟩
  ·exact h.elim⟩))
def zwq  (zlX:Df K mg "_law_weight" zl0 zeo):Fk P w K mg base 1 "_law_weight" zeo zeS:=
 zlX.mk' (zax (k:=0) zlX.F zxy (zui) λcdv A outer s H E hr=>⟨_,(zae (zau (PDW.pt (zcz (zar (zaI hr) (zad (dv 0) zab (λ_ _=>rfl)) zaL (zap _)) (zcM (zar (zaI hr) (zad (dv 0) zab (λ_ _=>rfl)) zaL (zap _))))) (zag (zak zab)) zav) (zae (zau (zar (zaI hr) (zad (dv 0) zab (λ_ _=>rfl)) zaL (zap _)) (zag (zak (zaf zaN (zad (dv 0) zab (λ_ _=>rfl)) (zaJ (dv 1) (zad (dv 0) zab (λ_ _=>rfl)) (λ_ _=>rfl))))) zav) (zag (zak (zaf zaY (zaJ (dv 1) (zad (dv 0) zab (λ_ _=>rfl)) (λ_ _=>rfl)) (zaJ (dv 1) (zad (dv 0) zab (λ_ _=>rfl)) (λ_ _=>rfl))))))),λds S Q ex h=>by
  unfold zeS at h
  split at h
  ·rename_i d r
   obtain⟨v,ws,q,rfl,hl,ok,sm,h⟩:=h
   cases v with
   | number t b=>exact h
   | unknown k=>exact h
   | power i n=>
    obtain⟨hi,n2,n6⟩:=ok
    have b:=sm i hi
    refine zaA (o:=.lst (ws.map wtD)) hl (zed hi) ?_
    refine⟨zaG (m:=400) (n:=400) (Sz.of (10^20) (by omega)) (Sz.of (10^20) (by omega)),?_⟩
    have e:n*((ws.getD i.toNat 0:Nat):Int)=((Nd.wt ws (.power i n):Nat):Int):=by
     simp only[Nd.wt]
     rw[Int.natCast_mul]
     rw[Int.toNat_of_nonneg (by omega)]
    show Q (.int (n*((ws.getD i.toNat 0:Nat):Int))) S
    rw[e]
    exact h
   | plus i j=>
    refine zaA (o:=.lst (ws.map wtD)) hl (zed ok.1) ?_
    exact zaA (o:=.lst (ws.map wtD)) hl (zed ok.2) h
   | minus i j=>
    refine zaA (o:=.lst (ws.map wtD)) hl (zed ok.1) ?_
    exact zaA (o:=.lst (ws.map wtD)) hl (zed ok.2) h
   | times i j=>
    refine zaA (o:=.lst (ws.map wtD)) hl (zed ok.1) ?_
    exact zaA (o:=.lst (ws.map wtD)) hl (zed ok.2) h
  ·exact h.elim⟩)
def zxg  (zlt:Df K mg "_law_net" zeQ zf3)(zez:Fk P w K mg base 1 "_law_weight" zeo zeS)(zod:Fk P w K mg base 4 "_law_node" zh4 zhx)(za2:mg "len"=none)(zbd:mg "range"=none):Fk P w K mg base 5 "_law_net" zf3 zgW:=
 zlt.mk' (zax (k:=4) zlt.F zeb (zvK) λcdv A outer s H E hr=>⟨_,(zae (zal (i:=5) zeb.nd rfl (Or.inl rfl) (za6 zac)) (zae (zau (zdb (dv 2)) (zag (zoN (x:="_law_k") (N:=[]) (caps:=[]) (ar:=zas zeQ) rfl rfl csc rfl (by decide) (i:=5) zeb.nd rfl rfl rfl zbd (zaa (dv 1) zac) (λ_ _ _ _ _ _=>zcS) (λ_ _ _ _ _ _=>(zay (zaa zaL (zaa (dv 0) zac)))))) zav) (zae (znE (x:="_law_node_here") (N:=[]) (caps:=[]) (ar:=zas zeQ) rfl rfl csc rfl (by decide) (i:=6) zeb.nd rfl rfl (dv 5) (λ_ _ _ _ _ _=>zcS) (λ_ _ _ _ _ _=>zab)) (zae (zcO (i:=7) PassesOwn.never rfl zeb.nd rfl (Or.inl rfl) (dv 0) (zae (zal (i:=8) zeb.nd rfl (Or.inl rfl) (zaq zod hr (zaa (dv 7) (zaa (zaF (zbg zcf) rfl za2 Boot.«len» (zaa (dv 5) zac)) (zaa (dv 1) zac))))) (zae (zal (i:=9) zeb.nd rfl (Or.inl rfl) (zaq zez hr (zaa (dv 8) (zaa (dv 6) zac)))) (zag (zau (PDW.pt (zc8 (zar zcu (dv 9) (dv 3) (zap _)) (zc8 (zar zbo (zaF (zbg zcf) rfl za2 Boot.«len» (zaa (dv 5) zac)) (dv 4) (zap _)) (zdW (zar (zjG hr) (dv 8) (dv 5) rfl))))) (zae (zbV (zbX (dv 5) (dv 8))) (zag (zbV (zbX (dv 6) (dv 9))))) zav))))) (zae (zau (zar (zaI hr) (zaF (zbg zcf) rfl za2 Boot.«len» (zaa (dv 5) zac)) zab (zap _)) (zag (zbV (zbX (dv 5) (zay (zaa zaL (zaa zab zac)))))) zav) (zag (zak (dv 5)))))))),λds S Q ex h=>by
  unfold zgW at h
  split at h
  ·rename_i c q b h16 most
   obtain⟨cs,qn,hv,hc,hint,rfl,hq,rfl,⟨hv1,hv2⟩,hm,h⟩:=h
   refine zd2 (λdl2 S2=>∃(ns:List Nd) (m:Nat),zaO qn ns (ns.map λ_=>1)∧ns.length≤4∧Pre S S2∧S.length≤m∧S2[m]?=some (.lst (ns.map Nd.d))∧dl2=[some (.ref c),some (.int (qn:Nat)),some (.bl b),some (.int (hv:Int)),some (.int most),some (.ref m),none,none,none,none]) (λnx hn=>?_) ?_
   ·cases b with
    | false=>exact hn _ _ ⟨[],S.length,zaO.nil _,by decide,Pre.refl.push,Vab _,zaB _ _,rfl⟩
    | true=>
     refine zxO (j:=(qn:Nat)) (S1:=S++[.lst []]) (λk=>.tup [.str "unknown",.int (k:Int)]) (λK hK=>by exact hK) ⟨by omega,by omega⟩ (λk hk S2 K pr hK=>by exact hK) ?_
     have z:=zv0 qn
     have e:((List.range ((qn:Nat):Int).toNat).map λ(k:Nat)=>D.tup [.str "unknown",.int (k:Int)])=((List.range qn).map λ(k:Nat)=>Nd.unknown (k:Int)).map Nd.d:=by
      rw[VaR,Vat]
      rfl
     rw[e]
     refine hn _ _ ⟨(List.range qn).map λ(k:Nat)=>Nd.unknown (k:Int),(S++[Ob.lst []]).length,?_,by simp; omega,Pre.refl.push.push,by simp,zaB _ _,rfl⟩
     rw[VaR]
     exact z
   rintro dl2 S2 ⟨ns,m,net,l4,pr,hm2,hS,rfl⟩
   refine zfp (n:=m) (o:=.lst (ns.map Nd.d)) (λ_=>.int 1) (λK hK=>by exact hK) hS (by show (ns.map Nd.d).length≤1000; rw[Vaa]; omega) (λx hx S3 K _ hK=>by exact hK) ?_
   have ew:(zat (.lst (ns.map Nd.d))).map (λ_=>D.int 1)=(ns.map λ_=>(1:Nat)).map wtD:=by
    show (ns.map Nd.d).map (λ_=>D.int 1)=_
    rw[VaR]
    rw[VaR]
    rfl
   rw[ew]
   dsimp only
   refine zoy (λdl2 S3=>∃(ns:List Nd) (ws:List Nat),zaO qn ns ws∧Hv hv ws∧ns.length≤60∧Pre S S3∧S3[m]?=some (.lst (ns.map Nd.d))∧∃u6 u7 u8 u9:Option D,dl2=[some (.ref c),some (.int (qn:Nat)),some (.bl b),some (.int (hv:Int)),some (.int most),some (.ref m),u6,u7,u8,u9]) (λnx hn=>?_) ?_
   ·have lm:=zcg hS
    refine zb6 (n:=c) (o:=.lst cs) (λk dl' S'=>∃(ns:List Nd) (ws:List Nat),zaO qn ns ws∧Hv hv ws∧ns.length≤60∧Pre S S'∧S'[m]?=some (.lst (ns.map Nd.d))∧S'[S2.length]?=some (.lst (ws.map wtD))∧∃u7 u8 u9:Option D,dl'=[some (.ref c),some (.int (qn:Nat)),some (.bl b),some (.int (hv:Int)),some (.int most),some (.ref m),some (.ref S2.length),u7,u8,u9]) ⟨ns,_,net,zw5 hv1 ns,by omega,pr.push,zaH hS,zaB _ _,_,_,_,rfl⟩ (λk dl' S' ⟨_,_,_,_,_,p,_⟩=>p _ _ hc) ?_ (λdl' S' ⟨ns,ws,a1,a0,a2,a3,a4,_,u7,u8,u9,e⟩=>hn _ _ ⟨ns,ws,a1,a0,a2,a3,a4,_,_,_,_,e⟩)
    rintro k x dl' S' nx ct ex' ⟨ns,ws,net,hvw,l60,pr',hS',hW',u7,u8,u9,rfl⟩ hn
    obtain⟨i,rfl⟩:=hint _ (Vaj ex')
    refine zcC hS' ?_
    rw[Vaa]
    refine⟨⟨by omega,by omega,by omega,by omega⟩,λv ok=>?_⟩
    have okw:v.ok ws.length (qn:Nat):=by rw[net.len]; exact ok
    refine⟨v,ws,_,rfl,hW',okw,λi hi=>(net.w1 (by rw[← net.len]; exact hi)).2,?_⟩
    have on:=hn _ _ ⟨ns,ws,net,hvw,l60,pr',hS',hW',some (.int i),some v.d,some (.int (v.wt ws:Nat)),rfl⟩
    refine ifD (λe1=>?_) (λe1=>on)
    refine zcC hS' ?_
    rw[Vaa]
    refine ifD (λe2=>?_) (λe2=>on)
    refine zo5 hS' λb=>?_
    cases b with
    | false=>exact on
    | true=>
     refine zcj (n:=m) (S1:=S') (xs:=ns.map Nd.d) (y:=v.d) (λK hK=>by exact hK) hS' (λK hK=>by exact hK) (by rw[Vaa]; omega) ?_
     have nmm:m≠S2.length:=by omega
     refine zcj (n:=S2.length) (S1:=S'.set m (.lst (ns.map Nd.d++[v.d]))) (xs:=ws.map wtD) (y:=wtD (v.wt ws)) (λK hK=>by exact hK) (zbq hW' nmm) (λK hK=>by exact hK) (by rw[Vaa,net.len]; omega) ?_
     have l2:S.length≤S2.length:=by omega
     refine hn _ _ ⟨ns++[v],ws++[v.wt ws],net.snoc ok (by omega),zpj hvw (by omega),by simp; omega,zby (zby pr' hm2) l2,?_,?_,_,_,_,rfl⟩
     ·rw[Vaw]
      exact zbq (zbm hS') (Ne.symm nmm)
     ·rw[Vaw]
      exact zbm (zbq hW' nmm)
   rintro dl2 S3 ⟨ns,ws,net,hvw,l60,pr',hS',u6,u7,u8,u9,rfl⟩
   refine zcC hS' ?_
   rw[Vaa]
   refine ifD (λe=>?_) (λe=>?_)
   ·refine zcj (n:=m) (S1:=S3) (xs:=ns.map Nd.d) (y:=Nd.d (.unknown 0)) (λK hK=>by exact hK) hS' (λK hK=>by exact hK) (by rw[Vaa]; omega) ?_
    have e0:ns=[]:=List.eq_nil_of_length_eq_zero (by omega)
    subst e0
    have w0:ws=[]:=List.eq_nil_of_length_eq_zero net.len
    subst w0
    exact h [.unknown 0] [1] _ _ (zaO.snoc (zaO.nil _) (v:=.unknown 0) ⟨by decide,by omega⟩ (show 1≤16 by decide)) (zpj (zrJ hv) hv1) (by decide) (by decide) (zby pr' hm2) hm2 (zbm hS')
   ·exact h ns ws _ _ net hvw (by omega) l60 pr' hm2 hS'
  ·exact h.elim⟩)
def zsj  (zi9:Df K mg "_law_power" zjs zdy)(zbd:mg "range"=none):Fk P w K mg base 1 "_law_power" zdy zdF:=
 zi9.mk' (zax (k:=0) zi9.F zkR (zss) λcdv A outer s H E hr=>⟨_,(zae (zal (i:=2) zkR.nd rfl (Or.inl rfl) zab) (zae (znX (i:=3) PassesOwn.never rfl zkR.nd rfl (Or.inl rfl) rfl zbd (zaa (dv 1) zac) (zag (zal (i:=2) zkR.nd rfl (Or.inl rfl) (zaf zaN (dv 2) (dv 0))))) (zag (zak (dv 2))))),λds S Q ex h=>by
  unfold zdF at h
  split at h
  ·rename_i x n
   obtain⟨⟨h0,h6,sx⟩,h⟩:=h
   refine⟨⟨by omega,by omega⟩,λk dl' S'=>S'=S∧k≤n.toNat∧∃(z:Int) (o:Option D),z=x^k∧dl'=[some (.int x),some (.int n),some (.int z),o],⟨rfl,Vau _,1,none,(Int.pow_zero x).symm,rfl⟩,?_⟩
   rintro k dl' S' ⟨rfl,hk,z,o,rfl,rfl⟩
   refine zey (λc=>?_) (λc=>?_)
   ·exact⟨zaG (m:=12001) (n:=2000) ((sx.pow k).mono (by omega)) sx,rfl,by omega,_,_,(Vai x k).symm,rfl⟩
   ·have e:k=n.toNat:=by omega
    subst e
    exact h
  ·exact h.elim⟩)
def zwH  (zlJ:Df K mg "_law_forth" zmL zgM)(zbW:Fk P w K mg base 1 "_law_power" zdy zdF)(zaE:mg "max"=none)(zaS:mg "min"=none):Fk P w K mg base 2 "_law_forth" zgM zgb:=
 zlJ.mk' (zeZ (zax (k:=1) zlJ.F zdw (zeW (zuq)) λcdv A outer s H E hr=>⟨_,(zae (zau (zar (zaI hr) (zad (dv 0) zab (λ_ _=>rfl)) zaL (zap _)) (zag (zak (zay (zaa (zaf zbi (zaf zaN (zad (dv 0) zab (λ_ _=>rfl)) (dv 3)) (zad (dv 0) zab (λ_ _=>rfl))) (zaa (zaZ za0 (zaf zbi (zaf zaN (zaZ za0 (zad (dv 0) zab (λ_ _=>rfl))) (dv 3)) (zad (dv 0) zab (λ_ _=>rfl)))) zac))))) zav) (zae (zau (zar (zaI hr) (zad (dv 0) zab (λ_ _=>rfl)) zaL (zap _)) (zag (zak (zaJ (dv 2) (zad (dv 0) zab (λ_ _=>rfl)) (λ_ _=>rfl)))) zav) (zae (zal (i:=4) zdw.nd rfl (Or.inl rfl) (zaJ (dv 1) (zad (dv 0) zab (λ_ _=>rfl)) (λ_ _=>rfl))) (zae (zau (zar (zaI hr) (zad (dv 0) zab (λ_ _=>rfl)) zaL (zap _)) (zae (zal (i:=5) zdw.nd rfl (Or.inl rfl) (zaq zbW hr (zaa (dv 3) (zaa (zaf zbf (zad (dv 0) zab (λ_ _=>rfl)) zab) zac)))) (zae (zal (i:=6) zdw.nd rfl (Or.inl rfl) (za6 (zaa (zaq zbW hr (zaa (zad (dv 4) zab (λ_ _=>rfl)) (zaa (zad (dv 0) zab (λ_ _=>rfl)) zac))) (zaa (zaq zbW hr (zaa (zad (dv 4) zab (λ_ _=>rfl)) (zaa (zad (dv 0) zab (λ_ _=>rfl)) zac))) zac)))) (zae (zal (i:=7) zdw.nd rfl (Or.inl rfl) (zaF (zbg (zcd rfl)) rfl zaS Boot.«min» (zaa (dv 6) zac))) (zae (zau (PDW.pt (zc8 (zar (zaI hr) (zaf zba (zad (dv 0) zab (λ_ _=>rfl)) zab) zab (zap _)) (zdW (zlH zcu zcu (zad (dv 4) zab (λ_ _=>rfl)) zab (zad (dv 4) zab (λ_ _=>rfl)))))) (zag (zal (i:=7) zdw.nd rfl (Or.inl rfl) zab)) zav) (zag (zak (zay (zaa (zaf zbi (dv 7) (dv 5)) (zaa (zaZ za0 (zaf zbi (zaZ za0 (zaF (zbg (zbl rfl)) rfl zaE Boot.«max» (zaa (dv 6) zac))) (dv 5))) zac))))))))) zav) (zae (zal (i:=8) zdw.nd rfl (Or.inl rfl) (zaJ (dv 1) (zad (dv 0) zab (λ_ _=>rfl)) (λ_ _=>rfl))) (zae (zau (zar (zaI hr) (zad (dv 0) zab (λ_ _=>rfl)) zaL (zap _)) (zag (zak (zay (zaa (zaf zaY (zad (dv 4) zab (λ_ _=>rfl)) (zad (dv 8) zab (λ_ _=>rfl))) (zaa (zaf zaY (zad (dv 4) zab (λ_ _=>rfl)) (zad (dv 8) zab (λ_ _=>rfl))) zac))))) zav) (zae (zau (zar (zaI hr) (zad (dv 0) zab (λ_ _=>rfl)) zaL (zap _)) (zag (zak (zay (zaa (zaf zbf (zad (dv 4) zab (λ_ _=>rfl)) (zad (dv 8) zab (λ_ _=>rfl))) (zaa (zaf zbf (zad (dv 4) zab (λ_ _=>rfl)) (zad (dv 8) zab (λ_ _=>rfl))) zac))))) zav) (zae (zal (i:=6) zdw.nd rfl (Or.inl rfl) (za6 (zaa (zaf zaN (zad (dv 4) zab (λ_ _=>rfl)) (zad (dv 8) zab (λ_ _=>rfl))) (zaa (zaf zaN (zad (dv 4) zab (λ_ _=>rfl)) (zad (dv 8) zab (λ_ _=>rfl))) (zaa (zaf zaN (zad (dv 4) zab (λ_ _=>rfl)) (zad (dv 8) zab (λ_ _=>rfl))) (zaa (zaf zaN (zad (dv 4) zab (λ_ _=>rfl)) (zad (dv 8) zab (λ_ _=>rfl))) zac)))))) (zag (zak (zay (zaa (zaf zbi (zaF (zbg (zcd rfl)) rfl zaS Boot.«min» (zaa (dv 6) zac)) (dv 3)) (zaa (zaZ za0 (zaf zbi (zaZ za0 (zaF (zbg (zbl rfl)) rfl zaE Boot.«max» (zaa (dv 6) zac))) (dv 3))) zac))))))))))))),λds S Q ex h=>by
  obtain⟨Q0,ex0,rfl,rfl,h⟩:=h
  unfold zgb at h
  split at h
  ·rename_i d w p g
   obtain⟨v,vs,bs,rfl,hw,hp,ok,s1,hg,h⟩:=h
   have sg:Sz 21 g:=Sz.of 1000000 (by omega)
   cases v with
   | number x y=>
    have sx:Sz 31 x:=Sz.of (10^9) ok.2.2
    have sy:Sz 31 y:=Sz.of (10^9) (by have:=ok.1; omega)
    refine⟨zaG sx sg,sy.fd (by have:=ok.1; omega),zaG sx.neg sg,sy.fd (by have:=ok.1; omega),Pre.refl,zce,?_⟩
    have e:-x*g=-(x*g):=Vag _ _
    show Q0 (.tup [.int (x*g/y),.int (-(-x*g/y))]) S
    rw[e]
    exact h
   | unknown k=>exact zaA (o:=.lst (bs.map frD)) hp (zaP ok) ⟨Pre.refl,zsm _,h⟩
   | power i m=>
    have a:=s1.at ok.1
    obtain⟨ok1,m2,m6⟩:=ok
    refine zaA (o:=.lst (vs.map frD)) hw (zaP ok1) ?_
    refine⟨⟨by omega,by omega,sg.mono (by decide)⟩,?_⟩
    refine⟨⟨by omega,m6,a.2.1.mono (by decide)⟩,⟨by omega,m6,a.2.2.mono (by decide)⟩,?_⟩
    have gp:(0:Int)<g^(m.toNat-1):=Vax (by omega)
    have egs:(m-1).toNat=m.toNat-1:=by omega
    have zs:Sz 200 (g^(m.toNat-1)):=(sg.pow _).mono (by omega)
    have zf:CFd 0 (g^(m-1).toNat):=by rw[egs]; exact zs.fd gp
    have fin:∀lo hi:Int,lo=zct (gt vs i).1 (gt vs i).2 m.toNat→hi=zcJ (gt vs i).1 (gt vs i).2 m.toNat→Q0 (.tup [.int (lo/g^(m-1).toNat),.int (-(-hi/g^(m-1).toNat))]) S:=λlo hi e1 e2=>by
     subst e1 e2
     rw[egs]
     exact h
    refine zbC (n:=S.length) (o:=.lst [.int ((gt vs i).1^m.toNat),.int ((gt vs i).2^m.toNat)]) (xs:=[(gt vs i).1^m.toNat,(gt vs i).2^m.toNat]) (zaB _ _) rfl (by simp) λmn q1 q2=>?_
    simp only[Vad,Vap,or_false] at q1
    have q3:=q2 ((gt vs i).1^m.toNat) (by simp)
    have q4:=q2 ((gt vs i).2^m.toNat) (by simp)
    refine ifD (λe=>?_) (λe=>?_)
    ·refine ifD (λc1=>?_) (λc1=>?_)
     ·refine ifD (λc2=>?_) (λc2=>?_)
      ·skip
       refine⟨zf,?_⟩
       refine zbC (n:=S.length) (o:=.lst [.int ((gt vs i).1^m.toNat),.int ((gt vs i).2^m.toNat)]) (xs:=[(gt vs i).1^m.toNat,(gt vs i).2^m.toNat]) (zaB _ _) rfl (by simp) λmx x1 x2=>?_
       simp only[Vad,Vap,or_false] at x1
       have x3:=x2 ((gt vs i).1^m.toNat) (by simp)
       have x4:=x2 ((gt vs i).2^m.toNat) (by simp)
       refine⟨zf,Pre.refl.push,zce,fin _ _ ?_ ?_⟩
       ·unfold zct
        rw[if_pos ⟨by omega,c1,c2⟩]
       ·unfold zcJ
        omega
      ·skip
       refine⟨zf,?_⟩
       refine zbC (n:=S.length) (o:=.lst [.int ((gt vs i).1^m.toNat),.int ((gt vs i).2^m.toNat)]) (xs:=[(gt vs i).1^m.toNat,(gt vs i).2^m.toNat]) (zaB _ _) rfl (by simp) λmx x1 x2=>?_
       simp only[Vad,Vap,or_false] at x1
       have x3:=x2 ((gt vs i).1^m.toNat) (by simp)
       have x4:=x2 ((gt vs i).2^m.toNat) (by simp)
       refine⟨zf,Pre.refl.push,zce,fin _ _ ?_ ?_⟩
       ·unfold zct
        rw[if_neg (λc=>c2 c.2.2)]
        omega
       ·unfold zcJ
        omega
     ·skip
      refine⟨zf,?_⟩
      refine zbC (n:=S.length) (o:=.lst [.int ((gt vs i).1^m.toNat),.int ((gt vs i).2^m.toNat)]) (xs:=[(gt vs i).1^m.toNat,(gt vs i).2^m.toNat]) (zaB _ _) rfl (by simp) λmx x1 x2=>?_
      simp only[Vad,Vap,or_false] at x1
      have x3:=x2 ((gt vs i).1^m.toNat) (by simp)
      have x4:=x2 ((gt vs i).2^m.toNat) (by simp)
      refine⟨zf,Pre.refl.push,zce,fin _ _ ?_ ?_⟩
      ·unfold zct
       rw[if_neg (λc=>c1 c.2.1)]
       omega
      ·unfold zcJ
       omega
    ·skip
     refine⟨zf,?_⟩
     refine zbC (n:=S.length) (o:=.lst [.int ((gt vs i).1^m.toNat),.int ((gt vs i).2^m.toNat)]) (xs:=[(gt vs i).1^m.toNat,(gt vs i).2^m.toNat]) (zaB _ _) rfl (by simp) λmx x1 x2=>?_
     simp only[Vad,Vap,or_false] at x1
     have x3:=x2 ((gt vs i).1^m.toNat) (by simp)
     have x4:=x2 ((gt vs i).2^m.toNat) (by simp)
     refine⟨zf,Pre.refl.push,zce,fin _ _ ?_ ?_⟩
     ·unfold zct
      rw[if_neg (λc=>e (by have:=c.1; omega))]
      omega
     ·unfold zcJ
      omega
   | times i j=>
    have a:=s1.at ok.1
    have b:=s1.at ok.2
    refine zaA (o:=.lst (vs.map frD)) hw (zaP ok.1) ?_
    refine zaA (o:=.lst (vs.map frD)) hw (zaP ok.2) ?_
    refine⟨zaG a.2.1 b.2.1,zaG a.2.1 b.2.2,zaG a.2.2 b.2.1,zaG a.2.2 b.2.2,?_⟩
    apply zbC
    ·exact zaB _ _
    ·rfl
    ·simp
    intro mn n1 n2
    refine⟨sg.fd (by omega),?_⟩
    apply zbC
    ·exact zaB _ _
    ·rfl
    ·simp
    intro mx x1 x2
    refine⟨sg.fd (by omega),Pre.refl.push,zce,?_⟩
    obtain⟨rfl,rfl⟩:=(zdV.of n1 n2 x1 x2).eq
    exact h
   | plus i j=>
    refine zaA (o:=.lst (vs.map frD)) hw (zaP ok.1) ?_
    refine zaA (o:=.lst (vs.map frD)) hw (zaP ok.2) ?_
    exact⟨Pre.refl,zce,h⟩
   | minus i j=>
    refine zaA (o:=.lst (vs.map frD)) hw (zaP ok.1) ?_
    refine zaA (o:=.lst (vs.map frD)) hw (zaP ok.2) ?_
    exact⟨Pre.refl,zce,h⟩
  ·exact h.elim⟩))
def ztW  (zj9:Df K mg "_law_worths" zm3 zen)(znd:Fk P w K mg base 2 "_law_forth" zgM zgb):Fk P w K mg base 3 "_law_worths" zen zeK:=
 zj9.mk' (zax (k:=2) zj9.F zni (zxo) λcdv A outer s H E hr=>⟨_,(zae (zal (i:=3) zni.nd rfl (Or.inl rfl) (za6 zac)) (zae (zcO (i:=4) PassesOwn.never rfl zni.nd rfl (Or.inl rfl) (dv 0) (zag (zbV (zbX (dv 3) (zaq znd hr (zaa (dv 4) (zaa (dv 3) (zaa (dv 1) (zaa (dv 2) zac))))))))) (zag (zak (dv 3))))),λds S Q ex h=>by
  unfold zeK at h
  split at h
  ·rename_i a b g
   obtain⟨ns,ws,bs,ha,hb,net,sb,hg,hl,h⟩:=h
   refine zb6 (n:=a) (o:=.lst (ns.map Nd.d)) (λk dl' S'=>k≤ns.length∧Pre S S'∧S'[S.length]?=some (.lst ((zaC bs g (ns.take k)).map frD))∧∃u:Option D,dl'=[some (.ref a),some (.ref b),some (.int g),some (.ref S.length),u]) ⟨Vau _,Pre.refl.push,zaB _ _,_,rfl⟩ (λk dl' S' w=>w.2.1 _ _ ha) ?_ ?_
   ·rintro k x dl' S' nx ct ex' ⟨hk,pr,hf,u,rfl⟩ hn
    have ex2:(ns.map Nd.d)[k]?=some x:=ex'
    rw[Vae] at ex2
    obtain⟨v,hv,rfl⟩:=Vah.mp ex2
    have hk':=(Vac.mp hv).1
    have ln:(zaC bs g (ns.take k)).length=k:=by rw[zc5,Var]; omega
    have okv:v.ok (zaC bs g (ns.take k)).length bs.length:=by rw[ln]; exact(net.ok k v hv).1
    refine zqU (n:=S.length) (S1:=S') (S2:=S') (xs:=(zaC bs g (ns.take k)).map frD) (y:=frD (v.fw (zaC bs g (ns.take k)) bs g)) (λK hK=>by exact hK) hf (λK hK=>?_) hf (by rw[Vaa,ln]; omega) ?_
    ·exact⟨v,_,bs,rfl,hf,pr _ _ hb,okv,(zd7 net rfl sb hg k hk).mono (by decide),hg,hK⟩
    ·refine hn _ _ ⟨by omega,zby pr (Vab _),?_,_,rfl⟩
     rw[zbL hv,zkJ,Vaw]
     exact zbm hf
   ·rintro dl' S' ⟨hk,pr,hf,u,rfl⟩
    refine h _ _ pr (Vab _) ?_
    have e:ns.take (zat (.lst (ns.map Nd.d))).length=ns:=by
     show ns.take (ns.map Nd.d).length=ns
     rw[Vaa,VaM]
    rw[e] at hf
    exact hf
  ·exact h.elim⟩)
def ztk  (zkS:Df K mg "_law_row_by" zl3 zhe)(zcP:Fk P w K mg base 2 "_law_fraction" zdR zdZ)(zfe:Fk P w K mg base 3 "_law_worths" zen zeK)(zbh:mg "abs"=none)(zaE:mg "max"=none)(za2:mg "len"=none):Fk P w K mg base 4 "_law_row_by" zhe zhb:=
 zkS.mk' (zax (k:=3) zkS.F zd4 (zvz) λcdv A outer s H E hr=>⟨_,(zae (zal (i:=5) zd4.nd rfl (Or.inl rfl) (zaF (zbl rfl) rfl zaE Boot.«max» (zaa zab (zaa (zaf zbf (zaf zbf (zaF (zbg zcf) rfl za2 Boot.«len» (zaa (dv 0) zac)) zab) (zaf zba (dv 3) zab)) zac)))) (zae (zal (i:=6) zd4.nd rfl (Or.inl rfl) (zaJ (za6 (zaa zaL (zaa zaL (zaa zaL (zaa zaL zac))))) (zaf zba (zaf zb1 (dv 3) zab) zab) (λ_ _=>rfl))) (zae (zal (i:=7) zd4.nd rfl (Or.inl rfl) (zaJ (zaq zfe hr (zaa (dv 0) (zaa (dv 1) (zaa (dv 2) zac)))) (dv 5) (λ_ _=>rfl))) (zae (zal (i:=8) zd4.nd rfl (Or.inl rfl) (zaq zcP hr (zaa (zaf zaY (zad (dv 7) zab (λ_ _=>rfl)) (zaf zbb (dv 4) (zaf zaY (zaf zbf (zad (dv 7) zab (λ_ _=>rfl)) (zad (dv 7) zab (λ_ _=>rfl))) zab))) (zaa (dv 2) zac)))) (zae (zau (PDW.pt (zcz (zar (zaI hr) (zaf zba (zaf zb1 (dv 3) zab) zab) zab (zap _)) (zcz (zar znQ (zaF zcV rfl zbh Boot.«abs» (zaa (zad (dv 8) zab (λ_ _=>rfl)) zac)) (zaf zdd zab zab) (zap _)) (zcM (zar znQ (zad (dv 8) zab (λ_ _=>rfl)) (zaf zdd zab zab) (zap _)))))) (zag (zak (zay (zaa (dv 6) (zaa (dv 5) zac))))) zav) (zae (zal (i:=9) zd4.nd rfl (Or.inl rfl) (zay (zaa zaL (zaa (zad (dv 8) zab (λ_ _=>rfl)) (zaa (zad (dv 8) zab (λ_ _=>rfl)) zac))))) (zae (zau (zar (zjG hr) (dv 9) (dv 0) rfl) (zag (zbV (zbX (dv 0) (dv 9)))) zav) (zae (zal (i:=10) zd4.nd rfl (Or.inl rfl) (zay (zaa zaL (zaa (dv 5) (zaa (zpC (k:=1) hr (by decide) (dv 0) (zaa (dv 9) zac)) zac))))) (zae (zau (zar (zjG hr) (dv 10) (dv 0) rfl) (zag (zbV (zbX (dv 0) (dv 10)))) zav) (zag (zak (zay (zaa (dv 6) (zaa (zpC (k:=1) hr (by decide) (dv 0) (zaa (dv 10) zac)) zac)))))))))))))),λds S Q ex h=>by
  unfold zhb at h
  split at h
  ·rename_i a b g f c
   obtain⟨ns,ws,bs,ha,hb,ab,net,hv,sb,hg,l1,l60,h⟩:=h
   refine zcC ha ?_
   rw[Vaa]
   have four:∀i:Int,inR 4 i→∃(x:Str) (zero:Bool),rwW zero x∧atI [D.str "zero",D.str "zero",D.str "zero",D.str "least"] i=some (.str x):=λi hi=>by
    obtain⟨h0,h3⟩:=hi
    have z:i=0∨i=1∨i=2∨i=3:=by omega
    rcases z with rfl | rfl | rfl | rfl
    ·exact⟨_,true,.inl ⟨rfl,rfl⟩,rfl⟩
    ·exact⟨_,true,.inl ⟨rfl,rfl⟩,rfl⟩
    ·exact⟨_,true,.inl ⟨rfl,rfl⟩,rfl⟩
    ·exact⟨_,false,.inr ⟨rfl,rfl⟩,rfl⟩
   obtain⟨x,zero,hx,ex'⟩:=four (f/12%4) (za7 (by decide))
   have atR:inR ((ns.length:Nat):Int) (if ((ns.length:Nat):Int)-1-f%3 > 0 then ((ns.length:Nat):Int)-1-f%3 else 0):=by
    have:=za7 (a:=f) (b:=3) (by decide)
    unfold inR
    split <;> omega
   refine zaA (o:=.lst [.str "zero",.str "zero",.str "zero",.str "least"]) (zaB _ _) ex' ?_
   refine⟨ns,ws,bs,zaH ha,zaH hb,net,sb,hg,by omega,λT m pr lm hf=>?_⟩
   have prS:Pre S T:=λn o e=>pr n o (zaH e)
   have s1:Spn 1000 (zaC bs g ns):=by
    have z:=zd7 net rfl sb hg ns.length (Vab _)
    rwa [VaM] at z
   have ik:inR (((zaC bs g ns).length:Nat):Int) (if ((ns.length:Nat):Int)-1-f%3 > 0 then ((ns.length:Nat):Int)-1-f%3 else 0):=by rw[zc5]; exact atR
   refine zaA (o:=.lst ((zaC bs g ns).map frD)) hf (zaP ik) ?_
   have sk:=s1.at ik
   have lT:S.length≤T.length:=zbZ prS
   have g0:=Gr.pre net ha prS lT
   obtain⟨tn,et⟩:∃tn:Nat,(if ((ns.length:Nat):Int)-1-f%3 > 0 then ((ns.length:Nat):Int)-1-f%3 else 0)=(tn:Int):=⟨((if ((ns.length:Nat):Int)-1-f%3 > 0 then ((ns.length:Nat):Int)-1-f%3 else 0)).toNat,by have:=atR.1; omega⟩
   rw[et] at atR sk ik
   have htn:tn<ns.length:=by have:=atR.2; omega
   have ret:Q (.tup [.str x,.int (if ((ns.length:Nat):Int)-1-f%3 > 0 then ((ns.length:Nat):Int)-1-f%3 else 0)]) T:=by
    rw[et]
    exact h T x zero tn ns ws hx (g0.mono (by decide)) htn
   refine⟨show 0<(gt (zaC bs g ns) (if ((ns.length:Nat):Int)-1-f%3 > 0 then ((ns.length:Nat):Int)-1-f%3 else 0)).2-(gt (zaC bs g ns) (if ((ns.length:Nat):Int)-1-f%3 > 0 then ((ns.length:Nat):Int)-1-f%3 else 0)).1+1 by rw[et]; omega,?_⟩
   refine⟨⟨by omega,Sz.of (n:=4000) 1000000 (by omega) (Van (show 1000000<2^21 by decide) (Nat.pow_le_pow_right (by decide) (by decide)))⟩,λt u q1 q2 q3 q4 q5=>?_⟩
   refine ifD (λe=>ret) (λ_=>?_)
   refine ifD (λe=>ret) (λc2=>?_)
   refine ifD (λe=>ret) (λc3=>?_)
   have e2':=nine (Int.not_le.mp c2)
   have e3':=nine3 (Int.not_le.mp c3)
   dsimp only[L3.zm6]
   refine zd2 (λdl2 S2=>∃(n1:List Nd) (w1:List Nat) (j:Nat),Gr bs.length a 1 T ns ws S2 n1 w1∧n1[j]?=some (.number t u)∧dl2=[some (.ref a),some (.ref b),some (.int g),some (.int f),some (.int c),some (.int (if ((ns.length:Nat):Int)-1-f%3 > 0 then ((ns.length:Nat):Int)-1-f%3 else 0)),some (.str x),some (frD (gt (zaC bs g ns) (if ((ns.length:Nat):Int)-1-f%3 > 0 then ((ns.length:Nat):Int)-1-f%3 else 0))),some (.tup [.int t,.int u]),some (.tup [.str "number",.int t,.int u]),none]) (λnx hn=>?_) ?_
   ·obtain⟨o,e1,e2,e3⟩:=zfZ (.number t u) ns
    refine zpP (o:=o) g0.nd e2 ?_
    cases o with
    | some j=>
     refine zbJ ?_
     exact hn _ _ ⟨ns,ws,j,(Gr.refl g0.net g0.nd).mono (by decide),e3 j rfl,rfl⟩
    | none=>
     refine zck ?_
     refine zcj (n:=a) (S1:=T) (xs:=List.map Nd.d ns) (y:=Nd.d (.number t u)) (λK hK=>by exact hK) g0.nd (λK hK=>by exact hK) (by rw[Vaa]; omega) ?_
     exact hn _ _ ⟨ns++[.number t u],ws++[Nd.wt ws (.number t u)],List.length ns,⟨g0.net.snoc (v:=.number t u) ⟨⟨q1,e3'⟩,q2,e2'⟩ (show 1≤16 by decide),⟨[.number t u],rfl,by simp⟩,⟨_,rfl⟩,by rw[Vaw]; exact zbm g0.nd,by simp,λx o hx e=>zbq e (Ne.symm hx)⟩,by simp,rfl⟩
   rintro dl2 S2 ⟨n1,w1,j0,g1,hj0,rfl⟩
   obtain⟨o,f1,f2,f3⟩:=zfZ (.number t u) n1
   cases o with
   | none=>exact absurd f2 (any_some hj0)
   | some j1=>
    have hj1:=f3 j1 rfl
    have lj1:=(Vac.mp hj1).1
    have nl:=g1.ln
    have w1e:w1.getD j1 0=1:=(g1.net.ok j1 _ hj1).2.1
    have wte:=g1.wt net htn
    have ht:=hv tn
    have w16:Nd.wt w1 (.minus (tn:Int) (j1:Int))≤16:=by
     show w1.getD ((tn:Nat):Int).toNat 0+w1.getD ((j1:Nat):Int).toNat 0≤16
     rw[Vat,Vat]
     omega
    refine zd2 (λdl2 S3=>∃(n2:List Nd) (w2:List Nat) (j:Nat),Gr bs.length a 1 S2 n1 w1 S3 n2 w2∧n2[j]?=some (.minus (tn:Int) (j1:Int))∧dl2=[some (.ref a),some (.ref b),some (.int g),some (.int f),some (.int c),some (.int (tn:Int)),some (.str x),some (frD (gt (zaC bs g ns) (tn:Int))),some (.tup [.int t,.int u]),some (.tup [.str "number",.int t,.int u]),some (.tup [.str "minus",.int (tn:Int),.int (j1:Int)])]) (λnx hn=>?_) ?_
    ·refine zpJ (n:=a) (v:=.number t u) (ns:=n1) (λK hK=>by exact hK) (λK hK=>by exact hK) g1.nd f1 ?_
     rw[et]
     obtain⟨o,e1,e2,e3⟩:=zfZ (.minus (tn:Int) (j1:Int)) n1
     refine zpP (v:=.minus (tn:Int) (j1:Int)) (o:=o) g1.nd e2 ?_
     cases o with
     | some j=>
      refine zbJ ?_
      exact hn _ _ ⟨n1,w1,j,(Gr.refl g1.net g1.nd).mono (by decide),e3 j rfl,rfl⟩
     | none=>
      refine zck ?_
      refine zcj (n:=a) (S1:=S2) (xs:=List.map Nd.d n1) (y:=Nd.d (.minus (tn:Int) (j1:Int))) (λK hK=>by exact hK) g1.nd (λK hK=>by exact hK) (by rw[Vaa]; omega) ?_
      exact hn _ _ ⟨n1++[.minus (tn:Int) (j1:Int)],w1++[Nd.wt w1 (.minus (tn:Int) (j1:Int))],List.length n1,⟨g1.net.snoc (v:=.minus (tn:Int) (j1:Int)) ⟨⟨by omega,by omega⟩,⟨by omega,by omega⟩⟩ w16,⟨[.minus (tn:Int) (j1:Int)],rfl,by simp⟩,⟨_,rfl⟩,by rw[Vaw]; exact zbm g1.nd,by simp,λx o hx e=>zbq e (Ne.symm hx)⟩,by simp,rfl⟩
    rintro dl2 S3 ⟨n2,w2,j2,g3,hj2,rfl⟩
    obtain⟨o,k1,k2,k3⟩:=zfZ (.minus (tn:Int) (j1:Int)) n2
    cases o with
    | none=>exact absurd k2 (any_some hj2)
    | some j3=>
     have hj3:=k3 j3 rfl
     refine zpJ (n:=a) (v:=.minus (tn:Int) (j1:Int)) (ns:=n2) (λK hK=>by exact hK) (λK hK=>by exact hK) g3.nd k1 ?_
     exact h S3 x zero j3 n2 w2 hx (((g0.trans g1).trans g3).mono (by decide)) (Vac.mp hj3).1
  ·exact h.elim⟩)
def zxc  (zj7:Df K mg "_law_digit_span" zlI zgg):Fk P w K mg base 1 "_law_digit_span" zgg zgP:=
 zj7.mk' (zax (k:=0) zj7.F zpf (zxH) λcdv A outer s H E hr=>⟨_,(zae (zal (i:=1) zpf.nd rfl (Or.inl rfl) (zaf zbf (zaf zbb (dv 0) zab) zab)) (zag (zak (zay (zaa (dv 1) (zaa (zaf zaY (dv 1) (zaf zbb (zaf zbi (dv 0) zab) (zaf zbf zab (dv 1)))) zac)))))),λds S Q ex h=>by
  unfold zgP at h
  split at h
  ·rename_i c
   obtain⟨c0,h⟩:=h
   have r0:=za7 (a:=c) (b:=1999999999999999) (by decide)
   have pd:(0:Int)<1000000000000000-(c%1999999999999999-999999999999999):=by omega
   have r1:=za7 (a:=c/1999999999999999) pd
   refine⟨show (0:Int)<1999999999999999 by decide,?_⟩
   refine⟨(Sz.of (n:=60) 1999999999999999 (by decide):Sz 60 1999999999999999).fd (by decide),?_⟩
   refine⟨pd,?_⟩
   exact h _ _ (by omega) (by omega) (by omega)
  ·exact h.elim⟩)
def zuA  (ziB:Df K mg "_law_digit_node" zkf zhi)(zcP:Fk P w K mg base 2 "_law_fraction" zdR zdZ):Fk P w K mg base 3 "_law_digit_node" zhi zgh:=
 ziB.mk' (zeZ (zax (k:=2) ziB.F zlP (zeW (zwp)) λcdv A outer s H E hr=>⟨_,(zae (zal (i:=3) zlP.nd rfl (Or.inl rfl) (zaf zba (dv 0) zab)) (zae (zal (i:=0) zlP.nd rfl (Or.inl rfl) (zaf zb1 (dv 0) zab)) (zae (zau (zar (zaI hr) (dv 3) zab (zap _)) (zae (zal (i:=4) zlP.nd rfl (Or.inl rfl) (zaq zcP hr (zaa (zaf zbf (zaf zbb (dv 0) zab) zab) (zaa (zaf zaY zab (zaf zba (zaf zbi (dv 0) zab) zab)) zac)))) (zag (zak (zay (zaa zaL (zaa (zad (dv 4) zab (λ_ _=>rfl)) (zaa (zad (dv 4) zab (λ_ _=>rfl)) zac))))))) zav) (zae (zau (PDW.pt (zcz (zar (zaI hr) (dv 3) zab (zap _)) (zcM (zar (zaI hr) (dv 1) zab (zap _))))) (zag (zak (zay (zaa zaL (zaa (zaf zbb (dv 0) (dv 2)) zac))))) zav) (zae (zau (zar (zaI hr) (dv 3) zab (zap _)) (zag (zak (zay (zaa zaL (zaa (zaf zbb (dv 0) (dv 1)) (zaa (zaf zaY zab (zaf zba (zaf zbi (dv 0) (dv 1)) zab)) zac)))))) zav) (zag (zak (zay (zaa (zaJ (za6 (zaa zaL (zaa zaL (zaa zaL zac)))) (zaf zbf (dv 3) zab) (λ_ _=>rfl)) (zaa (zaf zbb (dv 0) (dv 1)) (zaa (zaf zbb (zaf zbi (dv 0) (dv 1)) (dv 1)) zac))))))))))),λds S Q ex h=>by
  obtain⟨Q0,ex0,rfl,rfl,h⟩:=h
  unfold zgh at h
  split at h
  ·rename_i c m q
   obtain⟨⟨m0,m1,q0,q1,c0⟩,h⟩:=h
   have h':∀v:Nd,v.ok m q→Gc S Q0 v.d S:=λv z=>⟨Pre.refl,zdm v,h v z⟩
   refine ifD (λe=>?_) (λe=>?_)
   ·have r1:=za7 (a:=c/6) (b:=1999999999) (by decide)
    have r2:=za7 (a:=c/6/1999999999) (b:=999999999) (by decide)
    refine⟨show (0:Int)<1999999999 by decide,?_⟩
    refine⟨(Sz.of (n:=60) 1999999999 (by decide):Sz 60 1999999999).fd (by decide),?_⟩
    refine⟨⟨show 0<1+c/6/1999999999%999999999 by omega,Sz.of (10^10) (by show (1+c/6/1999999999%999999999).natAbs≤_; omega)⟩,λt b h1 h2 h3 h4 h5=>?_⟩
    exact h' (.number t b) ⟨⟨h1,by omega⟩,h2,by omega⟩
   have pq:0<q:=by omega
   have rq:=za7 (a:=c/6) pq
   have un:=h' (.unknown (c/6%q)) rq
   refine ifD (λe=>⟨pq,un⟩) (λe1=>?_)
   refine ifD (λe=>⟨pq,un⟩) (λe2=>?_)
   have pm:0<m:=by omega
   have rm:=za7 (a:=c/6) pm
   have fm:CFd 0 m:=(Sz.of (n:=20) 1000 (by omega):Sz 20 m).fd pm
   refine ifD (λe=>?_) (λe3=>?_)
   ·have r5:=za7 (a:=c/6/m) (b:=5) (by decide)
    exact⟨pm,fm,h' (.power (c/6%m) _) ⟨rm,by omega,by omega⟩⟩
   have rj:=za7 (a:=c/6/m) pm
   have three:∀i:Int,inR 3 i→∃x:Str,(x="plus"∨x="minus"∨x="times")∧atI [D.str "plus",D.str "minus",D.str "times"] i=some (.str x):=λi hi=>by
    obtain⟨h0,h3⟩:=hi
    have z:i=0∨i=1∨i=2:=by omega
    rcases z with rfl | rfl | rfl
    ·exact⟨_,.inl rfl,rfl⟩
    ·exact⟨_,.inr (.inl rfl),rfl⟩
    ·exact⟨_,.inr (.inr rfl),rfl⟩
   obtain⟨x,hx,ex'⟩:=three (c%6-3) ⟨by omega,by omega⟩
   refine zaA (o:=.lst [.str "plus",.str "minus",.str "times"]) (zaB _ _) ex' ?_
   refine⟨pm,fm,pm,?_⟩
   rcases hx with rfl | rfl | rfl
   ·exact⟨Pre.refl.push,zdm (.plus _ _),h (.plus _ _) ⟨rm,rj⟩⟩
   ·exact⟨Pre.refl.push,zdm (.minus _ _),h (.minus _ _) ⟨rm,rj⟩⟩
   ·exact⟨Pre.refl.push,zdm (.times _ _),h (.times _ _) ⟨rm,rj⟩⟩
  ·exact h.elim⟩))
def zxP  (zmT:Df K mg "_law_by_digits" zfs zib)(zez:Fk P w K mg base 1 "_law_weight" zeo zeS)(znn:Fk P w K mg base 3 "_law_digit_node" zhi zgh)(znU:Fk P w K mg base 1 "_law_digit_span" zgg zgP)(za2:mg "len"=none)(zbd:mg "range"=none)(zbh:mg "abs"=none):Fk P w K mg base 4 "_law_by_digits" zib zhz:=
 zmT.mk' (zax (k:=3) zmT.F zcH (zuT) λcdv A outer s H E hr=>⟨_,(zae (zal (i:=1) zcH.nd rfl (Or.inr rfl) (zaf ztB (zji (x:="_law_cell_here") (N:=[]) (caps:=[]) (ar:=zas zfs) rfl rfl csc rfl (by decide) (dv 0) (λ_ _ _ _ _ _=>zcS) (λ_ _ _ _ _ _=>(zaF zcV rfl zbh Boot.«abs» (zaa (dv 0) zac)))) (za6 (zaa zab (zaa zab (zaa zab (zaa zab (zaa zab (zaa zab (zaa zab zac)))))))))) (zae (zal (i:=2) zcH.nd rfl (Or.inl rfl) (zaf zaY zab (zaf zba (zaJ (dv 1) zab (λ_ _=>rfl)) zab))) (zae (zoN (x:="_law_k") (N:=["_law_some"]) (caps:=[1]) (ar:=zas zfs) rfl rfl csc rfl (by decide) (i:=3) zcH.nd rfl rfl rfl zbd (zaa (dv 2) zac) (λ_ _ _ _ _ _=>zcS) (λ_ _ _ _ _ _=>(zaq znU hr (zaa (zaJ (dv 1) (zaf zaY zab (dv 0)) (λ_ _=>rfl)) zac)))) (zae (zal (i:=4) zcH.nd rfl (Or.inl rfl) (za6 zac)) (zae (zal (i:=5) zcH.nd rfl (Or.inl rfl) (za6 zac)) (zae (zcO (i:=6) PassesOwn.never rfl zcH.nd rfl (Or.inl rfl) (zj4 (dv 1) (zfd zab) (zfd zab)) (zae (zal (i:=7) zcH.nd rfl (Or.inl rfl) (zaq znn hr (zaa (dv 6) (zaa (zaF (zbg zcf) rfl za2 Boot.«len» (zaa (dv 4) zac)) (zaa (dv 2) zac))))) (zae (zal (i:=8) zcH.nd rfl (Or.inl rfl) (zaq zez hr (zaa (dv 7) (zaa (dv 5) zac)))) (zag (zau (PDW.pt (zc8 (zar zcu (dv 8) zab (zap _)) (zc8 (zar zbo (zaF (zbg zcf) rfl za2 Boot.«len» (zaa (dv 4) zac)) zab (zap _)) (zdW (zar (zjG hr) (dv 7) (dv 4) rfl))))) (zae (zbV (zbX (dv 4) (dv 7))) (zag (zbV (zbX (dv 5) (dv 8))))) zav))))) (zae (zau (zar (zaI hr) (zaF (zbg zcf) rfl za2 Boot.«len» (zaa (dv 4) zac)) zab (zap _)) (zag (zbV (zbX (dv 4) (zay (zaa zaL (zaa zab zac)))))) zav) (zae (zal (i:=9) zcH.nd rfl (Or.inl rfl) (zay (zaa (zaJ (za6 (zaa zaL (zaa zaL zac))) (zaf zba (zaf zb1 (zaJ (dv 1) zab (λ_ _=>rfl)) zab) zab) (λ_ _=>rfl)) (zaa (zaf zbb (zaf zb1 (zaJ (dv 1) zab (λ_ _=>rfl)) zab) (zaF (zbg zcf) rfl za2 Boot.«len» (zaa (dv 4) zac))) zac)))) (zag (zak (zay (zaa (zaf zaY zab (zaf zba (zaJ (dv 1) zab (λ_ _=>rfl)) zab)) (zaa (dv 3) (zaa (dv 4) (zaa (dv 9) zac))))))))))))))),λds S Q ex h=>by
  unfold zhz at h
  split at h
  ·rename_i s
   obtain⟨ns,rfl,rfl,hl,h⟩:=h
   refine zpi (n:=0) (o:=.frz (ns.map D.int)) (S1:=[.frz (ns.map D.int)]) (λ_ d=>∃c:Int,d=.int c∧0≤c) (λK hK=>by exact hK) rfl (by show (ns.map D.int).length≤1000; rw[Vaa]; omega) (λk x hx S2 K pr hK=>?_) (λxs lx hx=>?_)
   ·have hx2:(ns.map D.int)[k]?=some x:=hx
    rw[Vae] at hx2
    obtain⟨c,_,rfl⟩:=Vah.mp hx2
    exact hK _ ⟨_,rfl,by split <;> omega⟩
   have lx2:xs.length=ns.length:=by rw[lx]; exact Vaa ..
   obtain⟨as,rfl,nas⟩:=nn_of hx
   rw[Vaa] at lx2
   refine zx8 (n:=1) (m:=2) (xs:=as.map D.int) (ys:=[0,0,0,0,0,0,0].map D.int) rfl rfl (by rw[Vaa,Vaa]; show as.length+7≤1000; omega) ?_
   rw[← Vaw]
   have ncs:∀c∈as++[0,0,0,0,0,0,0],(0:Int)≤c:=λc hc=>by
    rcases VaJ.mp hc with z | z
    ·exact nas c z
    ·simp only[Vad,Vap,or_false] at z
     omega
   have lcs:(as++[0,0,0,0,0,0,0]).length=as.length+7:=by simp
   generalize as++[0,0,0,0,0,0,0]=cs at ncs lcs
   have cat:∀ {i:Int},0≤i→i≤6→atI (cs.map D.int) i=some (.int (cs.getD i.toNat 0)):=λ{i} h0 h6=>zvZ ⟨h0,by omega⟩
   refine zaA (n:=3) (o:=.lst (cs.map D.int)) (i:=2) rfl (cat (by decide) (by decide)) ?_
   have c2:=znm ncs (2:Int).toNat
   have a2:=cat (i:=2) (by decide) (by decide)
   generalize cs.getD (2:Int).toNat 0=x2 at c2 a2
   have dr:∀a b:Int,a≤b→a.natAbs≤10^15→b.natAbs≤10^15→∃p:Int×Int,(D.tup [.int a,.int b])=frD p∧(p.1≤p.2∧Sz 51 p.1∧Sz 51 p.2):=λa b h1 h2 h3=>⟨(a,b),rfl,h1,(Sz.of (n:=51) (10^15) h2),(Sz.of (n:=51) (10^15) h3)⟩
   refine zqx (j:=1+x2%4) (S1:=[Ob.frz (ns.map D.int),Ob.lst (as.map D.int),Ob.lst ([0,0,0,0,0,0,0].map D.int),Ob.lst (cs.map D.int)]) (λ_ d=>∃p,d=frD p∧(p.1≤p.2∧Sz 51 p.1∧Sz 51 p.2)) (λK hK=>by exact hK) ⟨by omega,by omega⟩ (λk hk S2 K pr hK=>?_) (λxs lx hx=>?_)
   ·refine zaA (n:=3) (o:=.lst (cs.map D.int)) (i:=3+(k:Int)) (pr 3 _ rfl) (cat (by omega) (by omega)) ?_
    exact⟨znm ncs _,λt b h1 h2 h3=>hK _ (dr t b h1 h2 h3)⟩
   obtain⟨ps,rfl,gp⟩:=znc xs hx
   rw[Vaa] at lx
   have epl:1+x2%4=((ps.length:Nat):Int):=by omega
   have pl:1≤ps.length∧ps.length≤4:=by omega
   have lc:(zbv (cs.map D.int) (some 7) (some 63)).length≤70:=by
    have z:=zwK (α:=Nat) (xs:=cs.map D.int) (lo:=some 7) (hi:=some 63)
    rw[Vaa] at z
    omega
   refine zle (n:=3) (o:=.lst (cs.map D.int)) (lo:=some 7) (hi:=some 63) (S3:=[Ob.frz (ns.map D.int),Ob.lst (as.map D.int),Ob.lst ([0,0,0,0,0,0,0].map D.int),Ob.lst (cs.map D.int)]++[Ob.lst (ps.map frD)]++[Ob.lst []]++[Ob.lst []]) (λK hK=>by exact hK) (λK hK=>by exact hK) (λK hK=>by exact hK) rfl ?_
   rw[show zat (Ob.lst (cs.map D.int))=cs.map D.int from rfl]
   refine zb6 (n:=7) (o:=.lst (zbv (cs.map D.int) (some 7) (some 63))) (λi dl' S'=>∃(vs:List Nd) (ws:List Nat),zaO ps.length vs ws∧vs.length≤60∧Pre ([Ob.frz (ns.map D.int),Ob.lst (as.map D.int),Ob.lst ([0,0,0,0,0,0,0].map D.int),Ob.lst (cs.map D.int)]++[Ob.lst (ps.map frD)]) S'∧S'[5]?=some (.lst (vs.map Nd.d))∧S'[6]?=some (.lst (ws.map wtD))∧S'[7]?=some (.lst (zbv (cs.map D.int) (some 7) (some 63)))∧∃u6 u7 u8:Option D,dl'=[some (.ref 0),some (.ref 3),some (.int (1+x2%4)),some (.ref 4),some (.ref 5),some (.ref 6),u6,u7,u8,none]) ⟨[],[],zaO.nil _,by decide,λn o e=>zaH (zaH (zaH e)),rfl,rfl,rfl,_,_,_,rfl⟩ (λi dl' S' ⟨_,_,_,_,_,_,_,q,_⟩=>q) ?_ ?_
   ·rintro i x dl' S' nx ct ex' ⟨vs,ws,net,l60,pr',hS',hW',hC',u6,u7,u8,rfl⟩ hn
    have ex2:(zbv (cs.map D.int) (some 7) (some 63))[i]?=some x:=ex'
    have hxm:x∈cs.map D.int:=zrL (Vaj ex2)
    obtain⟨c,hcm,rfl⟩:=VaY.mp hxm
    refine zcC hS' ?_
    rw[Vaa]
    refine⟨⟨by omega,by omega,by omega,by omega,ncs c hcm⟩,λv ok=>?_⟩
    rw[epl] at ok
    have okw:v.ok ws.length ((ps.length:Nat):Int):=by rw[net.len]; exact ok
    refine⟨v,ws,_,rfl,hW',okw,λi hi=>(net.w1 (by rw[← net.len]; exact hi)).2,?_⟩
    have on:=hn _ _ ⟨vs,ws,net,l60,pr',hS',hW',hC',some (.int c),some v.d,some (.int (v.wt ws:Nat)),rfl⟩
    refine ifD (λe1=>?_) (λe1=>on)
    refine zcC hS' ?_
    rw[Vaa]
    refine ifD (λe2=>?_) (λe2=>on)
    refine zo5 hS' λb=>?_
    cases b with
    | false=>exact on
    | true=>
     refine zcj (n:=5) (S1:=S') (xs:=vs.map Nd.d) (y:=v.d) (λK hK=>by exact hK) hS' (λK hK=>by exact hK) (by rw[Vaa]; omega) ?_
     refine zcj (n:=6) (S1:=S'.set 5 (.lst (vs.map Nd.d++[v.d]))) (xs:=ws.map wtD) (y:=wtD (v.wt ws)) (λK hK=>by exact hK) (zbq hW' (by decide)) (λK hK=>by exact hK) (by rw[Vaa,net.len]; omega) ?_
     refine hn _ _ ⟨vs++[v],ws++[v.wt ws],net.snoc ok (by omega),by simp; omega,zby (zby pr' (show 5≤5 by decide)) (show 5≤6 by decide),?_,?_,zbq (zbq hC' (by decide)) (by decide),_,_,_,rfl⟩
     ·rw[Vaw]
      exact zbq (zbm hS') (by decide)
     ·rw[Vaw]
      exact zbm (zbq hW' (by decide))
   rintro dl' S' ⟨vs,ws,net,l60,pr',hS',hW',hC',u6,u7,u8,rfl⟩
   have c1:=znm ncs (1:Int).toNat
   have r1:=za7 (a:=cs.getD (1:Int).toNat 0) (b:=1000000) (by decide)
   have two:∀i:Int,inR 2 i→∃(x:Str) (zero:Bool),rwW zero x∧atI [D.str "zero",D.str "least"] i=some (.str x):=λi hi=>by
    obtain⟨h0,h3⟩:=hi
    have z:i=0∨i=1:=by omega
    rcases z with rfl | rfl
    ·exact⟨_,true,.inl ⟨rfl,rfl⟩,rfl⟩
    ·exact⟨_,false,.inr ⟨rfl,rfl⟩,rfl⟩
   have pre0:∀ {U:Sto},Pre ([Ob.frz (ns.map D.int),Ob.lst (as.map D.int),Ob.lst ([0,0,0,0,0,0,0].map D.int),Ob.lst (cs.map D.int)]++[Ob.lst (ps.map frD)]) U→Pre [Ob.frz (ns.map D.int)] U:=λq n o e=>q _ _ (by cases n with | zero=>exact e | succ n=>cases e)
   dsimp only
   refine zoy (λdl2 S3=>∃(vs:List Nd) (ws:List Nat),zaO ps.length vs ws∧vs.length≤60∧1≤vs.length∧Pre ([Ob.frz (ns.map D.int),Ob.lst (as.map D.int),Ob.lst ([0,0,0,0,0,0,0].map D.int),Ob.lst (cs.map D.int)]++[Ob.lst (ps.map frD)]) S3∧S3[5]?=some (.lst (vs.map Nd.d))∧dl2=[some (.ref 0),some (.ref 3),some (.int (1+x2%4)),some (.ref 4),some (.ref 5),some (.ref 6),u6,u7,u8,none]) (λnx hn=>?_) ?_
   ·refine zcC hS' ?_
    rw[Vaa]
    refine ifD (λe=>?_) (λe=>?_)
    ·refine zcj (n:=5) (S1:=S') (xs:=vs.map Nd.d) (y:=Nd.d (.unknown 0)) (λK hK=>by exact hK) hS' (λK hK=>by exact hK) (by rw[Vaa]; omega) ?_
     have e0:vs=[]:=List.eq_nil_of_length_eq_zero (by omega)
     subst e0
     have w0:ws=[]:=List.eq_nil_of_length_eq_zero net.len
     subst w0
     exact hn _ _ ⟨[.unknown 0],[1],zaO.snoc (zaO.nil _) (v:=.unknown 0) ⟨by decide,by omega⟩ (show 1≤16 by decide),by decide,by decide,zby pr' (show 5≤5 by decide),zbm hS',rfl⟩
    ·exact hn _ _ ⟨vs,ws,net,l60,by omega,pr',hS',rfl⟩
   clear hS' hW' hC' pr' net l60
   rintro dl2 S3 ⟨vs,ws,net,l60,l1,pr',hS',rfl⟩
   obtain⟨x,zero,hx,ex'⟩:=two (x2/4%2) (za7 (by decide))
   have pv:(0:Int)<((vs.length:Nat):Int):=by omega
   have rv:=za7 (a:=x2/8) pv
   obtain⟨kn,ek⟩:∃kn:Nat,x2/8%((vs.length:Nat):Int)=(kn:Int):=⟨(x2/8%((vs.length:Nat):Int)).toNat,by omega⟩
   refine zaA (n:=3) (o:=.lst (cs.map D.int)) (i:=2) (zaH (pr' 3 _ rfl)) a2 ?_
   refine zaA (o:=.lst [.str "zero",.str "least"]) (zaB _ _) ex' ?_
   refine zaA (n:=3) (o:=.lst (cs.map D.int)) (i:=2) (zaH (pr' 3 _ rfl)) a2 ?_
   refine zcC (zaH hS') ?_
   rw[Vaa]
   refine⟨pv,?_⟩
   refine zaA (n:=3) (o:=.lst (cs.map D.int)) (i:=1) (zaH (pr' 3 _ rfl)) (cat (by decide) (by decide)) ?_
   have z:=h (S3++[.lst [.str "zero",.str "least"]]) (1+cs.getD (1:Int).toNat 0%1000000) kn ps vs ws 4 5 x zero (zbz (pre0 pr') _) ⟨by omega,by omega⟩ (zaH (pr' 4 _ rfl)) (zaH hS') net gp pl (by omega) hx (by omega)
   rw[← ek] at z
   exact z
  ·exact h.elim⟩)
def zxA  (zit:Df K mg "_law_cell" zlh zgG)(za2:mg "len"=none):Fk P w K mg base 1 "_law_cell" zgG zge:=
 zit.mk' (zax (k:=0) zit.F zwQ (zvN) λcdv A outer s H E hr=>⟨_,(zae (zau (zar zbo (dv 1) (zaF zcf rfl za2 Boot.«len» (zaa (dv 0) zac)) (zap _)) (zag (zak (zad (dv 0) (dv 1) (λ_ _=>rfl)))) zav) (zag (zak zab))),λds S Q ex h=>by
  unfold zge at h
  split at h
  ·rename_i n k
   obtain⟨ns,h1,h2,h3⟩:=h
   simp only[zm6,zcx,zqr,dRet,dRetN,dIf,zmc,zkB,dC,dOp,dUn,wI,wI0,wIf,zjJ,dNot,dAnd,dOr,zqa,dOrV,zpU,dIfE,zm4,dNil,zpd,dTup,dLst,wIx,zla,zmP,zqo,wAbs,zec,zia,wEq,wNe,wIsN,zp7,wNeg,zeN,VaB,List.map_nil,VaK,List.length_nil,List.cons_append,List.nil_append,Nat.reduceAdd,Nat.reduceSub,List.replicate,List.getElem?_cons_zero,List.getElem?_cons_succ,List.set_cons_zero,List.set_cons_succ,ite_true,ite_false,if_true,if_false,Nat.reduceLeDiff,eq_self,p40,p41,p20,zgm,powB,Int.reduceLT,Int.reduceLE,Int.reduceNeg,decide_true,Bool.and_self,Bool.and_true,Bool.true_and,L3.eq1,L3.eq2,L3.eqT,L3.eqF,L3.eqL]
   have hA:lAt S n=some (.frz (ns.map D.int)):=za9 h1 rfl
   simp only[hA,zat,Vaa]
   refine zey (λc=>?_) (λc=>?_)
   ·have c':k<(ns.length:Int):=of_decide_eq_true c
    have hk:k.toNat<ns.length:=(by omega)
    have e:atI (ns.map D.int) k=some (.int ns[k.toNat]):=by
     have z:=zdq (xs:=ns.map D.int) (j:=k.toNat) (v:=.int ns[k.toNat]) (by simp[hk])
     rw[show ((k.toNat:Nat):Int)=k by omega] at z
     exact z
    simp only[e]
    rw[VaA,Vam hk] at h3
    exact h3
   ·have c':¬ k<(ns.length:Int):=λz=>c (decide_eq_true z)
    rw[VaA,List.getElem?_eq_none (by omega)] at h3
    exact h3
  ·exact h.elim⟩)
def zt3  (zlF:Df K mg "_law_span" zjM zfK)(zaS:mg "min"=none):Fk P w K mg base 1 "_law_span" zfK zh1:=
 zlF.mk' (zax (k:=0) zlF.F zdC (zxU) λcdv A outer s H E hr=>⟨_,(zae (zal (i:=1) zdC.nd rfl (Or.inl rfl) (zaf zbb (dv 0) (zaf zdd zab zab))) (zae (zal (i:=2) zdC.nd rfl (Or.inl rfl) (zaf zba (dv 1) zab)) (zae (zal (i:=1) zdC.nd rfl (Or.inl rfl) (zaf zb1 (dv 1) zab)) (zae (zau (zar (zaI hr) (dv 2) zab (zap _)) (zae (zal (i:=3) zdC.nd rfl (Or.inl rfl) (zaf zbf (zaf zbb (dv 1) zab) zab)) (zag (zak (zay (zaa (dv 3) (zaa (zaF (zcd rfl) rfl zaS Boot.«min» (zaa zab (zaa (zaf zaY (dv 3) (zaf zbb (zaf zaN (dv 1) zab) (zaf zdd zab zab))) zac))) zac)))))) zav) (zae (zal (i:=3) zdC.nd rfl (Or.inl rfl) (zaf zbf (zaf zba (dv 1) zab) zab)) (zae (zal (i:=4) zdC.nd rfl (Or.inl rfl) (zaf zba (zaf zbb (zaf zaN (dv 1) zab) zab) zab)) (zae (zau (zar (zaI hr) (dv 2) zab (zap _)) (zag (zal (i:=4) zdC.nd rfl (Or.inl rfl) (zaf zba (dv 4) zab))) zav) (zae (zau (zar (zaI hr) (dv 2) zab (zap _)) (zag (zak (zay (zaa (zaf zaN (dv 3) zab) (zaa (zaf zaY (zaf zaN (dv 3) zab) (zaf zaN (dv 4) zab)) zac))))) zav) (zag (zak (zay (zaa (dv 3) (zaa (zaf zaY (dv 3) (dv 4)) zac))))))))))))),λds S Q ex h=>by
  unfold zh1 at h
  split at h
  ·rename_i c
   have r0:=za7 (a:=c) (b:=10^Int.toNat 40) (by decide)
   have e16:(10:Int)^Int.toNat 16=10000000000000000:=rfl
   have s0:Sz 140 (c%10^Int.toNat 40):=Sz.of (10^40) (by have e:(10:Int)^Int.toNat 40=10000000000000000000000000000000000000000:=rfl; omega)
   have mo:=zaG (m:=140) (n:=17) (s0.div (j:=5) (by decide)) (j:=48271) (by unfold Sz; decide)
   have r1:=za7 (a:=c%10^Int.toNat 40/5*48271%2147483647) (b:=120) (by decide)
   refine⟨show (0:Int)<10^Int.toNat 40 by decide,?_⟩
   refine ifD (λe=>?_) (λe=>?_)
   ·have r2:=za7 (a:=c%10^Int.toNat 40/5*48271) (b:=10^Int.toNat 16) (by decide)
    refine⟨show (0:Int)<1999999999999999 by decide,mo,show (0:Int)<10^Int.toNat 16 by decide,?_⟩
    refine h _ _ ?_ (by omega) ?_
    ·dsimp only
     split <;> omega
    ·dsimp only
     split <;> omega
   ·refine⟨mo,show (0:Int)<2147483647 by decide,?_⟩
    refine ifD (λe=>?_) (λe=>?_)
    ·refine ifD (λe2=>absurd (e.symm.trans e2) (by decide)) (λe2=>?_)
     exact h _ _ (by omega) (by omega) (by omega)
    ·refine ifD (λe2=>?_) (λe2=>?_)
     ·have k1:=zaG (m:=20) (n:=20) (i:=c%10^Int.toNat 40/5%201-100) (j:=37) (Sz.of 100000 (by omega)) (by unfold Sz; decide)
      have k2:=zaG (m:=20) (n:=20) (i:=c%10^Int.toNat 40/5*48271%2147483647%120) (j:=41) (Sz.of 100000 (by omega)) (by unfold Sz; decide)
      exact⟨k1,k1,k2,h _ _ (by omega) (by omega) (by omega)⟩
     ·exact h _ _ (by omega) (by omega) (by omega)
  ·exact h.elim⟩)
def zvM  (zmV:Df K mg "_law_drawn" zhO zgX)(zoB:Fk P w K mg base 4 "_law_row_by" zhe zhb)(zd1:Fk P w K mg base 1 "_law_cell" zgG zge)(zng:Fk P w K mg base 5 "_law_net" zf3 zgW)(zn6:Fk P w K mg base 1 "_law_span" zfK zh1)(zop:Fk P w K mg base 1 "_law_grid" zg6 zgD)(zna:Fk P w K mg base 4 "_law_by_digits" zib zhz)(zbd:mg "range"=none):Fk P w K mg base 6 "_law_drawn" zgX zf7:=
 zmV.mk' (zax (k:=5) zmV.F zdK (ztq) λcdv A outer s H E hr=>⟨_,(zae (zau (zar (zaI hr) (zaf zba (zaq zd1 hr (zaa (dv 0) (zaa zab zac))) zab) zab (zap _)) (zag (zak (zaq zna hr (zaa (dv 0) zac)))) zav) (zae (zal (i:=1) zdK.nd rfl (Or.inl rfl) (zaq zop hr (zaa (zaf zb1 (zaq zd1 hr (zaa (dv 0) (zaa zab zac))) zab) zac))) (zae (zal (i:=2) zdK.nd rfl (Or.inl rfl) (zaf zbb (zaq zd1 hr (zaa (dv 0) (zaa zab zac))) (zaf zdd zab zab))) (zae (zal (i:=3) zdK.nd rfl (Or.inl rfl) (zaf zaY zab (zaf zba (dv 2) zab))) (zae (zoN (x:="_law_k") (N:=["_law_script"]) (caps:=[0]) (ar:=zas zhO) rfl rfl csc rfl (by decide) (i:=4) zdK.nd rfl rfl rfl zbd (zaa (dv 3) zac) (λ_ _ _ _ _ _=>zcS) (λ_ _ _ _ _ _=>(zaq zn6 hr (zaa (zaq zd1 hr (zaa (dv 1) (zaa (zaf zaY zab (dv 0)) zac))) zac)))) (zae (zal (i:=5) zdK.nd rfl (Or.inl rfl) (zaq zng hr (zaa (zj4 (dv 0) (zfd zab) (zfd zab)) (zaa (dv 3) (zaa (zee (zaI hr) (zaf zba (zaf zb1 (dv 2) zab) zab) zab (zap _)) (zaa zab (zaa zab zac))))))) (zae (zal (i:=6) zdK.nd rfl (Or.inl rfl) (zaq zoB hr (zaa (dv 5) (zaa (dv 4) (zaa (dv 1) (zaa (zaf zb1 (dv 2) zab) (zaa (zaq zd1 hr (zaa (dv 0) (zaa zab zac))) zac))))))) (zag (zak (zay (zaa (dv 1) (zaa (dv 4) (zaa (dv 5) (zaa (dv 6) zac)))))))))))))),λds S Q ex h=>by
  unfold zf7 at h
  split at h
  ·rename_i s
   obtain⟨ns,rfl,rfl,hl,h⟩:=h
   refine⟨ns,rfl,by decide,?_⟩
   refine ifD (λe=>?_) (λe=>?_)
   ·exact⟨ns,rfl,rfl,hl,h⟩
   ·refine⟨ns,rfl,by decide,?_⟩
    intro g hg g2
    refine⟨ns,rfl,by decide,?_⟩
    refine⟨show (0:Int)<10^Int.toNat 6 by decide,?_⟩
    have dr:∀a b:Int,a≤b→a.natAbs≤10^15→b.natAbs≤10^15→∃p:Int×Int,(D.tup [.int a,.int b])=frD p∧(p.1≤p.2∧Sz 51 p.1∧Sz 51 p.2):=λa b h1 h2 h3=>⟨(a,b),rfl,h1,(Sz.of (n:=51) (10^15) h2),(Sz.of (n:=51) (10^15) h3)⟩
    refine zqx (j:=(1+ns.getD (1:Int).toNat 0%10^Int.toNat 6%4)) (S1:=[.frz (ns.map D.int)]) (λ_ d=>∃p,d=frD p∧(p.1≤p.2∧Sz 51 p.1∧Sz 51 p.2)) (λK hK=>by exact hK) ⟨by omega,by omega⟩ (λk hk S2 K pr hK=>?_) (λxs lx hx=>?_)
    ·refine⟨ns,zre pr rfl,show (0:Int)≤2+(k:Int) by omega,?_⟩
     exact λt b h1 h2 h3=>hK _ (dr t b h1 h2 h3)
    obtain⟨ps,rfl,gp⟩:=znc xs hx
    rw[Vaa] at lx
    have epl:(1+ns.getD (1:Int).toNat 0%10^Int.toNat 6%4)=((ps.length:Nat):Int):=by omega
    refine zle (n:=0) (o:=.frz (ns.map D.int)) (lo:=some 8) (hi:=some 63) (S3:=[Ob.frz (ns.map D.int),Ob.lst (ps.map frD)]) (λK hK=>by exact hK) (λK hK=>by exact hK) (λK hK=>by exact hK) rfl ?_
    refine⟨zbv (ns.map D.int) (some 8) (some 63),ps.length,14,zaB _ _,λx hx=>?_,epl,⟨by omega,by omega⟩,rfl,⟨by decide,by decide⟩,⟨by decide,by decide⟩,λvs ws T m net hv l1 l60 pr lm hT=>?_⟩
    ·obtain⟨k,hk⟩:=List.mem_iff_getElem?.mp hx
     exact zt9 hk
    have prT:Pre [Ob.frz (ns.map D.int),Ob.lst (ps.map frD)] T:=λn o e=>pr _ _ (zaH e)
    have lm':3≤m:=lm
    refine⟨ns,prT 0 _ rfl,by decide,?_⟩
    refine⟨vs,ws,ps,hT,prT 1 _ rfl,(by show m≠1; omega),net,hv,gp,⟨hg,g2⟩,l1,l60,λT2 w zero k ns' ws' hw gr lk=>?_⟩
    have gl:=gr.ln
    exact h T2 g k ps ns' ws' 1 m w zero (λn o e=>gr.kp n o (by have:=zcg e; have e1:([Ob.frz (ns.map D.int)]:Sto).length=1:=rfl; omega) (prT _ _ (show ([Ob.frz (ns.map D.int),Ob.lst (ps.map frD)]:Sto)[n]?=some o from zaH e))) ⟨hg,g2⟩ (gr.kp 1 _ (by omega) (prT 1 _ rfl)) gr.nd gr.net gp ⟨by omega,by omega⟩ (by omega) hw lk
  ·exact h.elim⟩)
def zxF  (zmJ:Df K mg "less" ziE zfI):Fk P w K mg base 1 "less" zfI zgS:=
 zmJ.mk' (zax (k:=0) zmJ.F zq5 (zx2) λcdv A outer s H E hr=>⟨_,(zag (zak (zee zbo (zaf zaN (zad (dv 0) zab (λ_ _=>rfl)) (zad (dv 1) zab (λ_ _=>rfl))) (zaf zaN (zad (dv 1) zab (λ_ _=>rfl)) (zad (dv 0) zab (λ_ _=>rfl))) (zap _)))),λds S Q ex h=>by
  unfold zgS at h
  split at h
  ·obtain⟨⟨h1,h2⟩,h⟩:=h
   exact⟨h1,h2,h⟩
  ·exact h.elim⟩)
def zxb  (zkd:Df K mg "rounded_up" zj2 zdA):Fk P w K mg base 1 "rounded_up" zdA zdo:=
 zkd.mk' (zax (k:=0) zkd.F ztt (zvw) λcdv A outer s H E hr=>⟨_,(zag (zak (zaZ za0 (zaf zbi (zaZ za0 (dv 0)) (dv 1))))),λds S Q ex h=>by
  unfold zdo at h
  split at h
  ·exact h
  ·exact h.elim⟩)
def zrM  (zmO:Df K mg "span_of" ziC zfP)(zcr:Fk P w K mg base 1 "rounded_up" zdA zdo)(zoG:Fk P w K mg base 1 "less" zfI zgS):Fk P w K mg base 2 "span_of" zfP zha:=
 zmO.mk' (zax (k:=1) zmO.F zx3 (zq4) λcdv A outer s H E hr=>⟨_,(zae (zau (zdb (zaq zoG hr (zaa (dv 1) (zaa (dv 0) zac)))) (zag zue) zav) (zag (zak (zay (zaa (zaf zbi (zaf zaN (zad (dv 0) zab (λ_ _=>rfl)) (dv 2)) (zad (dv 0) zab (λ_ _=>rfl))) (zaa (zaq zcr hr (zaa (zaf zaN (zad (dv 1) zab (λ_ _=>rfl)) (dv 2)) (zaa (zad (dv 1) zab (λ_ _=>rfl)) zac))) zac)))))),λds S Q ex h=>by
  unfold zha at h
  split at h
  ·obtain⟨⟨⟨m1,m2⟩,nl,m3,m4,f1,f2⟩,h⟩:=h
   refine⟨⟨m1,m2⟩,ifF (decide_eq_false nl) ?_⟩
   exact⟨m3,f1,m4,f2,h⟩
  ·exact h.elim⟩)
def zwV  (zan:zbB K mg)(zao:zbD K mg)(zah:zbw K mg)(zaj:zbs K mg)(zai:zbu K mg)(zam:zbF K mg)(zmn:Dm K zan.C "forth" "Number.forth" zkX zfV)(znI:Fk P w K mg base 2 "span_of" zfP zha):Fm P w K mg base 3 zan.C "forth" zfV (zel zan.C zao.C zah.C zaj.C zai.C zam.C):=
 zmn.mk' (zax (k:=2) zmn.F zq0 (zt0 zan.C zao.C zah.C zaj.C zai.C zam.C) λcdv A outer s H E hr=>⟨_,(zae (zal (i:=4) zq0.nd rfl (Or.inl rfl) (zay (zaa (zaV zan.cl zan.n_top (dv 0)) (zaa (zaV zan.cl zan.n_bottom (dv 0)) zac)))) (zag (zak (zaq znI hr (zaa (dv 4) (zaa (dv 4) (zaa (dv 3) zac))))))),λds S Q ex h=>by
  unfold zel at h
  split at h
  ·rename_i n w p g
   obtain⟨x,y,vs,bs,hn,hw,hp,ok,s1,hg,h⟩:=h
   have sg:Sz 21 g:=Sz.of 1000000 (by omega)
   have sx:Sz 31 x:=Sz.of (10^9) ok.2.2
   have sy:Sz 31 y:=Sz.of (10^9) (by have:=ok.1; omega)
   refine zaQ (n:=n) (λK hK=>by exact hK) hn rfl ?_
   refine zaQ (n:=n) (λK hK=>by exact hK) hn rfl ?_
   exact⟨⟨⟨zaG sx sy,zaG sx sy⟩,by omega,zaG sx sg,zaG sx sg,sy.fd (by have:=ok.1; omega),sy.fd (by have:=ok.1; omega)⟩,h⟩
  ·exact h.elim⟩)
def ztX  (zao:zbD K mg)(zan:zbB K mg)(zah:zbw K mg)(zaj:zbs K mg)(zai:zbu K mg)(zam:zbF K mg)(zjH:Dm K zao.C "forth" "Unknown.forth" zlu zfR):Fm P w K mg base 1 zao.C "forth" zfR (zef zan.C zao.C zah.C zaj.C zai.C zam.C):=
 zjH.mk' (zax (k:=0) zjH.F zwR (zwJ zan.C zao.C zah.C zaj.C zai.C zam.C) λcdv A outer s H E hr=>⟨_,(zag (zak (zaJ (dv 2) (zaV zao.cl zao.n_place (dv 0)) (λ_ _=>rfl)))),λds S Q ex h=>by
  unfold zef at h
  split at h
  ·rename_i n w p g
   obtain⟨k,vs,bs,hn,hw,hp,ok,s1,hg,h⟩:=h
   refine zaQ (n:=n) (λK hK=>by exact hK) hn rfl ?_
   exact zaA (o:=.lst (bs.map frD)) hp (zaP ok) h
  ·exact h.elim⟩)
def ztZ  (zic:Df K mg "add_spans" ziS zfg):Fk P w K mg base 1 "add_spans" zfg zeB:=
 zic.mk' (zax (k:=0) zic.F zuY (zuU) λcdv A outer s H E hr=>⟨_,(zag (zak (zay (zaa (zaf zaY (zad (dv 0) zab (λ_ _=>rfl)) (zad (dv 1) zab (λ_ _=>rfl))) (zaa (zaf zaY (zad (dv 0) zab (λ_ _=>rfl)) (zad (dv 1) zab (λ_ _=>rfl))) zac))))),λds S Q ex h=>by
  unfold zeB at h
  split at h
  ·exact h
  ·exact h.elim⟩)
def zxe  (zah:zbw K mg)(zan:zbB K mg)(zao:zbD K mg)(zaj:zbs K mg)(zai:zbu K mg)(zam:zbF K mg)(ziL:Dm K zah.C "forth" "Plus.forth" zkq zg3)(ze8:Fk P w K mg base 1 "add_spans" zfg zeB):Fm P w K mg base 2 zah.C "forth" zg3 (zeu zan.C zao.C zah.C zaj.C zai.C zam.C):=
 ziL.mk' (zax (k:=1) ziL.F zrC (zvQ zan.C zao.C zah.C zaj.C zai.C zam.C) λcdv A outer s H E hr=>⟨_,(zag (zak (zaq ze8 hr (zaa (zaJ (dv 1) (zaV zah.cl zah.n_one (dv 0)) (λ_ _=>rfl)) (zaa (zaJ (dv 1) (zaV zah.cl zah.n_other (dv 0)) (λ_ _=>rfl)) zac))))),λds S Q ex h=>by
  unfold zeu at h
  split at h
  ·rename_i n w p g
   obtain⟨i,j,vs,bs,hn,hw,hp,ok,s1,hg,h⟩:=h
   refine zaQ (n:=n) (λK hK=>by exact hK) hn rfl ?_
   refine zaA (o:=.lst (vs.map frD)) hw (zaP ok.1) ?_
   refine zaQ (n:=n) (λK hK=>by exact hK) hn rfl ?_
   refine zaA (o:=.lst (vs.map frD)) hw (zaP ok.2) ?_
   exact h
  ·exact h.elim⟩)
def zxr  (zjC:Df K mg "take_spans" zid zdx):Fk P w K mg base 1 "take_spans" zdx zdk:=
 zjC.mk' (zax (k:=0) zjC.F zsn (zxR) λcdv A outer s H E hr=>⟨_,(zag (zak (zay (zaa (zaf zbf (zad (dv 0) zab (λ_ _=>rfl)) (zad (dv 1) zab (λ_ _=>rfl))) (zaa (zaf zbf (zad (dv 0) zab (λ_ _=>rfl)) (zad (dv 1) zab (λ_ _=>rfl))) zac))))),λds S Q ex h=>by
  unfold zdk at h
  split at h
  ·exact h
  ·exact h.elim⟩)
def zxX  (zaj:zbs K mg)(zan:zbB K mg)(zao:zbD K mg)(zah:zbw K mg)(zai:zbu K mg)(zam:zbF K mg)(zlb:Dm K zaj.C "forth" "Minus.forth" zjF zgK)(zcw:Fk P w K mg base 1 "take_spans" zdx zdk):Fm P w K mg base 2 zaj.C "forth" zgK (zfj zan.C zao.C zah.C zaj.C zai.C zam.C):=
 zlb.mk' (zax (k:=1) zlb.F zx5 (zsG zan.C zao.C zah.C zaj.C zai.C zam.C) λcdv A outer s H E hr=>⟨_,(zag (zak (zaq zcw hr (zaa (zaJ (dv 1) (zaV zaj.cl zaj.n_one (dv 0)) (λ_ _=>rfl)) (zaa (zaJ (dv 1) (zaV zaj.cl zaj.n_other (dv 0)) (λ_ _=>rfl)) zac))))),λds S Q ex h=>by
  unfold zfj at h
  split at h
  ·rename_i n w p g
   obtain⟨i,j,vs,bs,hn,hw,hp,ok,s1,hg,h⟩:=h
   refine zaQ (n:=n) (λK hK=>by exact hK) hn rfl ?_
   refine zaA (o:=.lst (vs.map frD)) hw (zaP ok.1) ?_
   refine zaQ (n:=n) (λK hK=>by exact hK) hn rfl ?_
   refine zaA (o:=.lst (vs.map frD)) hw (zaP ok.2) ?_
   exact h
  ·exact h.elim⟩)
def zwf  (zjk:Df K mg "mul_spans" zki zhQ)(zcr:Fk P w K mg base 1 "rounded_up" zdA zdo)(zaE:mg "max"=none)(zaS:mg "min"=none):Fk P w K mg base 2 "mul_spans" zhQ zhM:=
 zjk.mk' (zeZ (zax (k:=1) zjk.F zqA (zeW (ztv)) λcdv A outer s H E hr=>⟨_,(zae (zal (i:=3) zqA.nd rfl (Or.inl rfl) (za6 (zaa (zaf zaN (zad (dv 0) zab (λ_ _=>rfl)) (zad (dv 1) zab (λ_ _=>rfl))) (zaa (zaf zaN (zad (dv 0) zab (λ_ _=>rfl)) (zad (dv 1) zab (λ_ _=>rfl))) (zaa (zaf zaN (zad (dv 0) zab (λ_ _=>rfl)) (zad (dv 1) zab (λ_ _=>rfl))) (zaa (zaf zaN (zad (dv 0) zab (λ_ _=>rfl)) (zad (dv 1) zab (λ_ _=>rfl))) zac)))))) (zag (zak (zay (zaa (zaf zbi (zaF (zbg (zcd rfl)) rfl zaS Boot.«min» (zaa (dv 3) zac)) (dv 2)) (zaa (zaq zcr hr (zaa (zaF (zbg (zbl rfl)) rfl zaE Boot.«max» (zaa (dv 3) zac)) (zaa (dv 2) zac))) zac)))))),λds S Q ex h=>by
  obtain⟨Q0,ex0,rfl,rfl,h⟩:=h
  unfold zhM at h
  split at h
  ·rename_i a b c d g
   obtain⟨⟨⟨m1,m2,m3,m4⟩,hg⟩,h⟩:=h
   refine⟨m1,m2,m3,m4,?_⟩
   apply zbC
   ·exact zaB _ _
   ·rfl
   ·simp
   intro mn n1 n2
   refine⟨hg,?_⟩
   apply zbC
   ·exact zaB _ _
   ·rfl
   ·simp
   intro mx x1 x2
   refine⟨hg,?_⟩
   exact⟨Pre.refl.push,zce,h mn mx (zdV.of n1 n2 x1 x2)⟩
  ·exact h.elim⟩))
def zvI  (zai:zbu K mg)(zan:zbB K mg)(zao:zbD K mg)(zah:zbw K mg)(zaj:zbs K mg)(zam:zbF K mg)(zjW:Dm K zai.C "forth" "Times.forth" zme zf5)(zn4:Fk P w K mg base 2 "mul_spans" zhQ zhM):Fm P w K mg base 3 zai.C "forth" zf5 (zfx zan.C zao.C zah.C zaj.C zai.C zam.C):=
 zjW.mk' (zax (k:=2) zjW.F zuG (zxx zan.C zao.C zah.C zaj.C zai.C zam.C) λcdv A outer s H E hr=>⟨_,(zag (zak (zaq zn4 hr (zaa (zaJ (dv 1) (zaV zai.cl zai.n_one (dv 0)) (λ_ _=>rfl)) (zaa (zaJ (dv 1) (zaV zai.cl zai.n_other (dv 0)) (λ_ _=>rfl)) (zaa (dv 3) zac)))))),λds S Q ex h=>by
  unfold zfx at h
  split at h
  ·rename_i n w p g
   obtain⟨i,j,vs,bs,hn,hw,hp,ok,s1,hg,h⟩:=h
   refine zaQ (n:=n) (λK hK=>by exact hK) hn rfl ?_
   refine zaA (o:=.lst (vs.map frD)) hw (zaP ok.1) ?_
   refine zaQ (n:=n) (λK hK=>by exact hK) hn rfl ?_
   refine zaA (o:=.lst (vs.map frD)) hw (zaP ok.2) ?_
   have a:=s1.at ok.1
   have b:=s1.at ok.2
   have sg:Sz 21 g:=Sz.of 1000000 (by omega)
   refine⟨⟨⟨zaG a.2.1 b.2.1,zaG a.2.1 b.2.2,zaG a.2.2 b.2.1,zaG a.2.2 b.2.2⟩,sg.fd (by omega)⟩,λmn mx hc=>?_⟩
   obtain⟨rfl,rfl⟩:=hc.eq
   exact h
  ·exact h.elim⟩)
def zw8  (zls:Df K mg "raised" zjb zda)(zbd:mg "range"=none):Fk P w K mg base 1 "raised" zda zc4:=
 zls.mk' (zax (k:=0) zls.F ziT (zwY) λcdv A outer s H E hr=>⟨_,(zae (zal (i:=2) ziT.nd rfl (Or.inl rfl) zab) (zae (znX (i:=3) PassesOwn.never rfl ziT.nd rfl (Or.inl rfl) rfl zbd (zaa (dv 1) zac) (zag (zal (i:=2) ziT.nd rfl (Or.inl rfl) (zaf zaN (dv 2) (dv 0))))) (zag (zak (dv 2))))),λds S Q ex h=>by
  unfold zc4 at h
  split at h
  ·rename_i x n
   obtain⟨⟨h0,h6,sx⟩,h⟩:=h
   refine⟨⟨by omega,by omega⟩,λk dl' S'=>S'=S∧k≤n.toNat∧∃(z:Int) (o:Option D),z=x^k∧dl'=[some (.int x),some (.int n),some (.int z),o],⟨rfl,Vau _,1,none,(Int.pow_zero x).symm,rfl⟩,?_⟩
   rintro k dl' S' ⟨rfl,hk,z,o,rfl,rfl⟩
   refine zey (λc=>?_) (λc=>?_)
   ·exact⟨zaG (m:=12001) (n:=2000) ((sx.pow k).mono (by omega)) sx,rfl,by omega,_,_,(Vai x k).symm,rfl⟩
   ·have e:k=n.toNat:=by omega
    subst e
    exact h
  ·exact h.elim⟩)
def zw3  (zkN:Df K mg "raise_span" zhr zgi)(zcr:Fk P w K mg base 1 "rounded_up" zdA zdo)(zbH:Fk P w K mg base 1 "raised" zda zc4)(zaE:mg "max"=none)(zaS:mg "min"=none):Fk P w K mg base 2 "raise_span" zgi zgd:=
 zkN.mk' (zeZ (zax (k:=1) zkN.F zlc (zeW (ztI)) λcdv A outer s H E hr=>⟨_,(zae (zal (i:=3) zlc.nd rfl (Or.inl rfl) (za6 (zaa (zad (dv 0) zab (λ_ _=>rfl)) (zaa (zad (dv 0) zab (λ_ _=>rfl)) zac)))) (zae (zau (zlH zbo zbo (zad (dv 0) zab (λ_ _=>rfl)) zab (zad (dv 0) zab (λ_ _=>rfl))) (zag (zbV (zbX (dv 3) zab))) zav) (zae (znE (x:="place") (N:=["grid","many"]) (caps:=[2,1]) (ar:=zas zhr) rfl rfl csc rfl (by decide) (i:=4) zlc.nd rfl rfl (dv 3) (λ_ _ _ _ _ _=>zcS) (λ_ _ _ _ _ _=>(zaf zaN (zaq zbH hr (zaa (dv 0) (zaa (dv 2) zac))) (dv 1)))) (zae (zal (i:=5) zlc.nd rfl (Or.inl rfl) (zaq zbH hr (zaa (dv 2) (zaa (dv 1) zac)))) (zag (zak (zay (zaa (zaf zbi (zaF (zbg (zcd rfl)) rfl zaS Boot.«min» (zaa (dv 4) zac)) (dv 5)) (zaa (zaq zcr hr (zaa (zaF (zbg (zbl rfl)) rfl zaE Boot.«max» (zaa (dv 4) zac)) (zaa (dv 5) zac))) zac))))))))),λds S Q ex h=>by
  obtain⟨Q0,ex0,rfl,rfl,h⟩:=h
  unfold zgd at h
  split at h
  ·rename_i a b n g
   obtain⟨⟨n2,n6,za,zb,hg,zg⟩,h⟩:=h
   refine ifD (λc1=>?_) (λc1=>?_)
   ·refine ifD (λc2=>?_) (λc2=>?_)
    ·refine zcj (n:=S.length) (λK hK=>hK) (zaB _ _) (λK hK=>hK) (by simp) ?_
     refine zfp (n:=S.length) (o:=.lst [.int a,.int b,.int 0]) (λd=>match d with | .int v=>.int (v^n.toNat*g) | _=>.non) (λK hK=>hK) (by simp) (by simp[zat]) (λx hx S2 K _ hK=>?_) ?_
     ·have hx':x=.int a∨x=.int b∨x=.int 0:=by simpa [zat] using hx
      rcases hx' with rfl | rfl | rfl
      all_goals exact⟨⟨by omega,n6,by first | exact za.mono (by decide) | exact zb.mono (by decide) | exact Sz.of (n:=2000) 0 (by decide)⟩,zaG (m:=12001) (n:=1400) (((Sz.mono (n:=2000) (by first | exact za | exact zb | exact Sz.of (n:=1400) 0 (by decide)) (by decide)).pow _).mono (by omega)) zg,hK⟩
     refine⟨⟨by omega,n6,zg.mono (by decide)⟩,?_⟩
     have gp:(0:Int)<g^n.toNat:=Vax (by omega)
     have zgp:Sz 8401 (g^n.toNat):=(zg.pow _).mono (by omega)
     apply zbC
     ·exact zaB _ _
     ·rfl
     ·simp
     intro mn q1 q2
     refine⟨zgp.fd gp,?_⟩
     apply zbC
     ·exact zaB _ _
     ·rfl
     ·simp
     intro mx x1 x2
     refine⟨zgp.fd gp,?_⟩
     obtain⟨m,M,hP,rfl,rfl⟩:=zdl.of (n:=n.toNat) hg (.inr ⟨rfl,c1,c2⟩) (by omega) q1 q2 x1 x2
     have r:=h m M hP
     rw[← zeR hg (by omega),← zeR hg (by omega),Vag] at r
     exact⟨(λi o e=>zlr (by rw[List.set_append_right _ _ (Vab _),Vas (Vac.mp e).1]; exact e)),zce,r⟩
    ·skip
     refine zfp (n:=S.length) (o:=.lst [.int a,.int b]) (λd=>match d with | .int v=>.int (v^n.toNat*g) | _=>.non) (λK hK=>hK) (zaB _ _) (by simp[zat]) (λx hx S2 K _ hK=>?_) ?_
     ·have hx':x=.int a∨x=.int b:=by simpa [zat] using hx
      rcases hx' with rfl | rfl
      all_goals exact⟨⟨by omega,n6,by first | exact za.mono (by decide) | exact zb.mono (by decide) | exact Sz.of (n:=2000) 0 (by decide)⟩,zaG (m:=12001) (n:=1400) (((Sz.mono (n:=2000) (by first | exact za | exact zb | exact Sz.of (n:=1400) 0 (by decide)) (by decide)).pow _).mono (by omega)) zg,hK⟩
     refine⟨⟨by omega,n6,zg.mono (by decide)⟩,?_⟩
     have gp:(0:Int)<g^n.toNat:=Vax (by omega)
     have zgp:Sz 8401 (g^n.toNat):=(zg.pow _).mono (by omega)
     apply zbC
     ·exact zaB _ _
     ·rfl
     ·simp
     intro mn q1 q2
     refine⟨zgp.fd gp,?_⟩
     apply zbC
     ·exact zaB _ _
     ·rfl
     ·simp
     intro mx x1 x2
     refine⟨zgp.fd gp,?_⟩
     obtain⟨m,M,hP,rfl,rfl⟩:=zdl.of (n:=n.toNat) hg (.inl ⟨rfl,λc=>c2 c.2⟩) (by omega) q1 q2 x1 x2
     have r:=h m M hP
     rw[← zeR hg (by omega),← zeR hg (by omega),Vag] at r
     exact⟨Pre.refl.push.push,zce,r⟩
   ·skip
    refine zfp (n:=S.length) (o:=.lst [.int a,.int b]) (λd=>match d with | .int v=>.int (v^n.toNat*g) | _=>.non) (λK hK=>hK) (zaB _ _) (by simp[zat]) (λx hx S2 K _ hK=>?_) ?_
    ·have hx':x=.int a∨x=.int b:=by simpa [zat] using hx
     rcases hx' with rfl | rfl
     all_goals exact⟨⟨by omega,n6,by first | exact za.mono (by decide) | exact zb.mono (by decide) | exact Sz.of (n:=2000) 0 (by decide)⟩,zaG (m:=12001) (n:=1400) (((Sz.mono (n:=2000) (by first | exact za | exact zb | exact Sz.of (n:=1400) 0 (by decide)) (by decide)).pow _).mono (by omega)) zg,hK⟩
    refine⟨⟨by omega,n6,zg.mono (by decide)⟩,?_⟩
    have gp:(0:Int)<g^n.toNat:=Vax (by omega)
    have zgp:Sz 8401 (g^n.toNat):=(zg.pow _).mono (by omega)
    apply zbC
    ·exact zaB _ _
    ·rfl
    ·simp
    intro mn q1 q2
    refine⟨zgp.fd gp,?_⟩
    apply zbC
    ·exact zaB _ _
    ·rfl
    ·simp
    intro mx x1 x2
    refine⟨zgp.fd gp,?_⟩
    obtain⟨m,M,hP,rfl,rfl⟩:=zdl.of (n:=n.toNat) hg (.inl ⟨rfl,λc=>c1 c.1⟩) (by omega) q1 q2 x1 x2
    have r:=h m M hP
    rw[← zeR hg (by omega),← zeR hg (by omega),Vag] at r
    exact⟨Pre.refl.push.push,zce,r⟩
  ·exact h.elim⟩))
def zx6  (zam:zbF K mg)(zan:zbB K mg)(zao:zbD K mg)(zah:zbw K mg)(zaj:zbs K mg)(zai:zbu K mg)(zjL:Dm K zam.C "forth" "Power.forth" zmG zgs)(znq:Fk P w K mg base 2 "raise_span" zgi zgd):Fm P w K mg base 3 zam.C "forth" zgs (zeq zan.C zao.C zah.C zaj.C zai.C zam.C):=
 zjL.mk' (zax (k:=2) zjL.F zu0 (ztH zan.C zao.C zah.C zaj.C zai.C zam.C) λcdv A outer s H E hr=>⟨_,(zag (zak (zaq znq hr (zaa (zaJ (dv 1) (zaV zam.cl zam.n_one (dv 0)) (λ_ _=>rfl)) (zaa (zaV zam.cl zam.n_many (dv 0)) (zaa (dv 3) zac)))))),λds S Q ex h=>by
  unfold zeq at h
  split at h
  ·rename_i n w p g
   obtain⟨i,m,vs,bs,hn,hw,hp,ok,s1,hg,h⟩:=h
   refine zaQ (n:=n) (λK hK=>by exact hK) hn rfl ?_
   refine zaA (o:=.lst (vs.map frD)) hw (zaP ok.1) ?_
   refine zaQ (n:=n) (λK hK=>by exact hK) hn rfl ?_
   have a:=s1.at ok.1
   have sg:Sz 21 g:=Sz.of 1000000 (by omega)
   refine⟨⟨ok.2.1,ok.2.2,a.2.1,a.2.2,hg.1,sg.mono (by decide)⟩,λm' M' hP=>?_⟩
   obtain⟨rfl,rfl⟩:=hP.eq (by have:=ok.2.1; omega)
   exact h
  ·exact h.elim⟩)
def zq7  (zam:zbF K mg)(zmo:Dm K zam.C "__init__" "Power.__init__" ziM zgl):Fm P w K mg base 1 zam.C "__init__" zgl (zhm zam.C):=
 zmo.mk' (zax (k:=0) zmo.F zvb (zuN zam.C) λcdv A outer s H E hr=>⟨_,(zae (zcF zam.cl zam.n_one (dv 0) (dv 1)) (zag (zcF zam.cl zam.n_many (dv 0) (dv 2)))),λds S Q ex h=>by
  unfold zhm at h
  split at h
  ·rename_i n x y
   obtain⟨T,rfl,rfl,h⟩:=h
   refine zcA (v:=x) (S1:=T++[Ob.ins zam.C []]) (S2:=T++[Ob.ins zam.C []]) (n:=T.length) (fs:=[]) (λK hK=>by exact hK) (λK hK=>by exact hK) (zcy ..) (by simp) ?_
   rw[zcB]
   refine zcA (v:=y) (S1:=T++[Ob.ins zam.C [("one",x)]]) (S2:=T++[Ob.ins zam.C [("one",x)]]) (n:=T.length) (fs:=[("one",x)]) (λK hK=>by exact hK) (λK hK=>by exact hK) (zcy ..) (by simp) ?_
   rw[zcB]
   exact h
  ·exact h.elim⟩)
def ztz  (zan:zbB K mg)(zkm:Dm K zan.C "__init__" "Number.__init__" zmt zg8):Fm P w K mg base 1 zan.C "__init__" zg8 (zgu zan.C):=
 zkm.mk' (zax (k:=0) zkm.F zwy (zxs zan.C) λcdv A outer s H E hr=>⟨_,(zae (zcF zan.cl zan.n_top (dv 0) (dv 1)) (zag (zcF zan.cl zan.n_bottom (dv 0) (dv 2)))),λds S Q ex h=>by
  unfold zgu at h
  split at h
  ·rename_i n x y
   obtain⟨T,rfl,rfl,h⟩:=h
   refine zcA (v:=x) (S1:=T++[Ob.ins zan.C []]) (S2:=T++[Ob.ins zan.C []]) (n:=T.length) (fs:=[]) (λK hK=>by exact hK) (λK hK=>by exact hK) (zcy ..) (by simp) ?_
   rw[zcB]
   refine zcA (v:=y) (S1:=T++[Ob.ins zan.C [("top",x)]]) (S2:=T++[Ob.ins zan.C [("top",x)]]) (n:=T.length) (fs:=[("top",x)]) (λK hK=>by exact hK) (λK hK=>by exact hK) (zcy ..) (by simp) ?_
   rw[zcB]
   exact h
  ·exact h.elim⟩)
def zr4  (zao:zbD K mg)(zkL:Dm K zao.C "__init__" "Unknown.__init__" zi7 zh9):Fm P w K mg base 1 zao.C "__init__" zh9 (zhl zao.C):=
 zkL.mk' (zax (k:=0) zkL.F zwM (zxC zao.C) λcdv A outer s H E hr=>⟨_,(zag (zcF zao.cl zao.n_place (dv 0) (dv 1))),λds S Q ex h=>by
  unfold zhl at h
  split at h
  ·rename_i n x
   obtain⟨T,rfl,rfl,h⟩:=h
   refine zcA (v:=x) (S1:=T++[Ob.ins zao.C []]) (S2:=T++[Ob.ins zao.C []]) (n:=T.length) (fs:=[]) (λK hK=>by exact hK) (λK hK=>by exact hK) (zcy ..) (by simp) ?_
   rw[zcB]
   exact h
  ·exact h.elim⟩)
def zx9  (zah:zbw K mg)(zjP:Dm K zah.C "__init__" "Pair.__init__" zk9 zf9):Fm P w K mg base 1 zah.C "__init__" zf9 (zh7 zah.C):=
 zjP.mk' (zax (k:=0) zjP.F zvF (zw7 zah.C) λcdv A outer s H E hr=>⟨_,(zae (zcF zah.cl zah.n_one (dv 0) (dv 1)) (zag (zcF zah.cl zah.n_other (dv 0) (dv 2)))),λds S Q ex h=>by
  unfold zh7 at h
  split at h
  ·rename_i n x y
   obtain⟨T,rfl,rfl,h⟩:=h
   refine zcA (v:=x) (S1:=T++[Ob.ins zah.C []]) (S2:=T++[Ob.ins zah.C []]) (n:=T.length) (fs:=[]) (λK hK=>by exact hK) (λK hK=>by exact hK) (zcy ..) (by simp) ?_
   rw[zcB]
   refine zcA (v:=y) (S1:=T++[Ob.ins zah.C [("one",x)]]) (S2:=T++[Ob.ins zah.C [("one",x)]]) (n:=T.length) (fs:=[("one",x)]) (λK hK=>by exact hK) (λK hK=>by exact hK) (zcy ..) (by simp) ?_
   rw[zcB]
   exact h
  ·exact h.elim⟩)
def ztg  (zaj:zbs K mg)(zkF:Dm K zaj.C "__init__" "Pair.__init__" zkO zgY):Fm P w K mg base 1 zaj.C "__init__" zgY (zgV zaj.C):=
 zkF.mk' (zax (k:=0) zkF.F ztx (zrq zaj.C) λcdv A outer s H E hr=>⟨_,(zae (zcF zaj.cl zaj.n_one (dv 0) (dv 1)) (zag (zcF zaj.cl zaj.n_other (dv 0) (dv 2)))),λds S Q ex h=>by
  unfold zgV at h
  split at h
  ·rename_i n x y
   obtain⟨T,rfl,rfl,h⟩:=h
   refine zcA (v:=x) (S1:=T++[Ob.ins zaj.C []]) (S2:=T++[Ob.ins zaj.C []]) (n:=T.length) (fs:=[]) (λK hK=>by exact hK) (λK hK=>by exact hK) (zcy ..) (by simp) ?_
   rw[zcB]
   refine zcA (v:=y) (S1:=T++[Ob.ins zaj.C [("one",x)]]) (S2:=T++[Ob.ins zaj.C [("one",x)]]) (n:=T.length) (fs:=[("one",x)]) (λK hK=>by exact hK) (λK hK=>by exact hK) (zcy ..) (by simp) ?_
   rw[zcB]
   exact h
  ·exact h.elim⟩)
def zq9  (zai:zbu K mg)(ziV:Dm K zai.C "__init__" "Pair.__init__" zml zhn):Fm P w K mg base 1 zai.C "__init__" zhn (zh8 zai.C):=
 ziV.mk' (zax (k:=0) ziV.F zrP (zsN zai.C) λcdv A outer s H E hr=>⟨_,(zae (zcF zai.cl zai.n_one (dv 0) (dv 1)) (zag (zcF zai.cl zai.n_other (dv 0) (dv 2)))),λds S Q ex h=>by
  unfold zh8 at h
  split at h
  ·rename_i n x y
   obtain⟨T,rfl,rfl,h⟩:=h
   refine zcA (v:=x) (S1:=T++[Ob.ins zai.C []]) (S2:=T++[Ob.ins zai.C []]) (n:=T.length) (fs:=[]) (λK hK=>by exact hK) (λK hK=>by exact hK) (zcy ..) (by simp) ?_
   rw[zcB]
   refine zcA (v:=y) (S1:=T++[Ob.ins zai.C [("one",x)]]) (S2:=T++[Ob.ins zai.C [("one",x)]]) (n:=T.length) (fs:=[("one",x)]) (λK hK=>by exact hK) (λK hK=>by exact hK) (zcy ..) (by simp) ?_
   rw[zcB]
   exact h
  ·exact h.elim⟩)
def zw0  (zam:zbF K mg)(zai:zbu K mg)(zaj:zbs K mg)(zah:zbw K mg)(zao:zbD K mg)(zan:zbB K mg)(zim:Df K mg "kind_of" zj3 zff)(ze9:Fm P w K mg base 1 zam.C "__init__" zgl (zhm zam.C))(zeO:Fm P w K mg base 1 zai.C "__init__" zhn (zh8 zai.C))(zeg:Fm P w K mg base 1 zaj.C "__init__" zgY (zgV zaj.C))(zet:Fm P w K mg base 1 zah.C "__init__" zf9 (zh7 zah.C))(zej:Fm P w K mg base 1 zao.C "__init__" zh9 (zhl zao.C))(zfr:Fm P w K mg base 1 zan.C "__init__" zg8 (zgu zan.C)):Fk P w K mg base 3 "kind_of" zff (zfa zan.C zao.C zah.C zaj.C zai.C zam.C):=
 zim.mk' (zax (k:=2) zim.F zxQ (zuk zan.C zao.C zah.C zaj.C zai.C zam.C) λcdv A outer s H E hr=>⟨_,(zae (zau (zar (zaI hr) (zad (dv 0) zab (λ_ _=>rfl)) zaL (zap _)) (zag (zak (zfE ⟨zan.makes,zfr.m.at_,zfr.m.fn,zan.kp⟩ zfr.ok (hr.mono (by decide)) rfl zan.m zfr.b zfA (zaa (zad (dv 0) zab (λ_ _=>rfl)) (zaa (zad (dv 0) zab (λ_ _=>rfl)) zac))))) zav) (zae (zau (zar (zaI hr) (zad (dv 0) zab (λ_ _=>rfl)) zaL (zap _)) (zag (zak (zfE ⟨zao.makes,zej.m.at_,zej.m.fn,zao.kp⟩ zej.ok (hr.mono (by decide)) rfl zao.m zej.b zfA (zaa (zad (dv 0) zab (λ_ _=>rfl)) zac)))) zav) (zae (zau (zar (zaI hr) (zad (dv 0) zab (λ_ _=>rfl)) zaL (zap _)) (zag (zak (zfE ⟨zah.makes,zet.m.at_,zet.m.fn,zah.kp⟩ zet.ok (hr.mono (by decide)) rfl zah.m zet.b zfA (zaa (zad (dv 0) zab (λ_ _=>rfl)) (zaa (zad (dv 0) zab (λ_ _=>rfl)) zac))))) zav) (zae (zau (zar (zaI hr) (zad (dv 0) zab (λ_ _=>rfl)) zaL (zap _)) (zag (zak (zfE ⟨zaj.makes,zeg.m.at_,zeg.m.fn,zaj.kp⟩ zeg.ok (hr.mono (by decide)) rfl zaj.m zeg.b zfA (zaa (zad (dv 0) zab (λ_ _=>rfl)) (zaa (zad (dv 0) zab (λ_ _=>rfl)) zac))))) zav) (zae (zau (zar (zaI hr) (zad (dv 0) zab (λ_ _=>rfl)) zaL (zap _)) (zag (zak (zfE ⟨zai.makes,zeO.m.at_,zeO.m.fn,zai.kp⟩ zeO.ok (hr.mono (by decide)) rfl zai.m zeO.b zfA (zaa (zad (dv 0) zab (λ_ _=>rfl)) (zaa (zad (dv 0) zab (λ_ _=>rfl)) zac))))) zav) (zag (zak (zfE ⟨zam.makes,ze9.m.at_,ze9.m.fn,zam.kp⟩ ze9.ok (hr.mono (by decide)) rfl zam.m ze9.b zfA (zaa (zad (dv 0) zab (λ_ _=>rfl)) (zaa (zad (dv 0) zab (λ_ _=>rfl)) zac)))))))))),λds S Q ex h=>by
  unfold zfa at h
  split at h
  ·obtain⟨v,rfl,h⟩:=h
   cases v <;> exact⟨S,rfl,rfl,rfl,h⟩
  ·exact h.elim⟩)
def ztw  (zam:zbF K mg)(zai:zbu K mg)(zaj:zbs K mg)(zah:zbw K mg)(zao:zbD K mg)(zan:zbB K mg)(zkt:Df K mg "worths" zmH zhE)(znM:Fm P w K mg base 3 zam.C "forth" zgs (zeq zan.C zao.C zah.C zaj.C zai.C zam.C))(znk:Fm P w K mg base 3 zai.C "forth" zf5 (zfx zan.C zao.C zah.C zaj.C zai.C zam.C))(zoC:Fm P w K mg base 2 zaj.C "forth" zgK (zfj zan.C zao.C zah.C zaj.C zai.C zam.C))(znW:Fm P w K mg base 2 zah.C "forth" zg3 (zeu zan.C zao.C zah.C zaj.C zai.C zam.C))(znJ:Fm P w K mg base 1 zao.C "forth" zfR (zef zan.C zao.C zah.C zaj.C zai.C zam.C))(znu:Fm P w K mg base 3 zan.C "forth" zfV (zel zan.C zao.C zah.C zaj.C zai.C zam.C))(zfk:Fk P w K mg base 3 "kind_of" zff (zfa zan.C zao.C zah.C zaj.C zai.C zam.C)):Fk P w K mg base 4 "worths" zhE zg9:=
 zkt.mk' (zax (k:=3) zkt.F znA (zsz) λcdv A outer s H E hr=>⟨_,(zae (zal (i:=3) znA.nd rfl (Or.inl rfl) (za6 zac)) (zae (zcO (i:=4) PassesOwn.never rfl znA.nd rfl (Or.inl rfl) (dv 0) (zag (zbV (zbX (dv 3) (zo6 (zaq zfk hr (zaa (dv 4) zac)) (zcq zan.cl znu (hr.mono (by decide)) (zcq zao.cl znJ (hr.mono (by decide)) (zcq zah.cl znW (hr.mono (by decide)) (zcq zaj.cl zoC (hr.mono (by decide)) (zcq zai.cl znk (hr.mono (by decide)) (zcq zam.cl znM (hr.mono (by decide)) zpR)))))) zcE (zaa (dv 3) (zaa (dv 1) (zaa (dv 2) zac)))))))) (zag (zak (dv 3))))),λds S Q ex h=>by
  unfold zg9 at h
  split at h
  ·rename_i a b g
   obtain⟨ns,ws,bs,ha,hb,net,sb,hg,hl,h⟩:=h
   have disp:∀v:Nd,∃C fs sd,v.ob zan.C zao.C zah.C zaj.C zai.C zam.C=.ins C fs∧(C,sd)∈[(zan.C,zel zan.C zao.C zah.C zaj.C zai.C zam.C),(zao.C,zef zan.C zao.C zah.C zaj.C zai.C zam.C),(zah.C,zeu zan.C zao.C zah.C zaj.C zai.C zam.C),(zaj.C,zfj zan.C zao.C zah.C zaj.C zai.C zam.C),(zai.C,zfx zan.C zao.C zah.C zaj.C zai.C zam.C),(zam.C,zeq zan.C zao.C zah.C zaj.C zai.C zam.C)]∧fs.lookup ("forth":Str)=none∧∀(n w p:Nat) (g:Int) (S:Sto) (Q:DK) (ex:Addr→Sto→Prop) (vs bs:List (Int×Int)),S[n]?=some (v.ob zan.C zao.C zah.C zaj.C zai.C zam.C)→S[w]?=some (.lst (vs.map frD))→S[p]?=some (.lst (bs.map frD))→v.ok vs.length bs.length→Spn 1400 vs→(1≤g∧g≤1000000)→Q (frD (v.fw vs bs g)) S→sd [.ref n,.ref w,.ref p,.int g] S Q ex:=by
    intro v
    cases v with
    | number x y=>exact⟨_,_,_,rfl,(.head _),rfl,λn w p g S Q ex vs bs a1 a2 a3 a4 a5 a6 q=>⟨x,y,vs,bs,a1,a2,a3,a4,a5,a6,q⟩⟩
    | unknown k=>exact⟨_,_,_,rfl,(.tail _ (.head _)),rfl,λn w p g S Q ex vs bs a1 a2 a3 a4 a5 a6 q=>⟨k,vs,bs,a1,a2,a3,a4,a5,a6,q⟩⟩
    | plus i j=>exact⟨_,_,_,rfl,(.tail _ (.tail _ (.head _))),rfl,λn w p g S Q ex vs bs a1 a2 a3 a4 a5 a6 q=>⟨i,j,vs,bs,a1,a2,a3,a4,a5,a6,q⟩⟩
    | minus i j=>exact⟨_,_,_,rfl,(.tail _ (.tail _ (.tail _ (.head _)))),rfl,λn w p g S Q ex vs bs a1 a2 a3 a4 a5 a6 q=>⟨i,j,vs,bs,a1,a2,a3,a4,a5,a6,q⟩⟩
    | times i j=>exact⟨_,_,_,rfl,(.tail _ (.tail _ (.tail _ (.tail _ (.head _))))),rfl,λn w p g S Q ex vs bs a1 a2 a3 a4 a5 a6 q=>⟨i,j,vs,bs,a1,a2,a3,a4,a5,a6,q⟩⟩
    | power i m=>exact⟨_,_,_,rfl,(.tail _ (.tail _ (.tail _ (.tail _ (.tail _ (.head _)))))),rfl,λn w p g S Q ex vs bs a1 a2 a3 a4 a5 a6 q=>⟨i,m,vs,bs,a1,a2,a3,a4,a5,a6,q⟩⟩
   have la:=zcg ha
   have lb:=zcg hb
   refine zb6 (n:=a) (o:=.lst (ns.map Nd.d)) (λk dl' S'=>k≤ns.length∧Pre S S'∧S'[S.length]?=some (.lst ((zaC bs g (ns.take k)).map frD))∧∃u:Option D,dl'=[some (.ref a),some (.ref b),some (.int g),some (.ref S.length),u]) ⟨Vau _,Pre.refl.push,zaB _ _,_,rfl⟩ (λk dl' S' w=>w.2.1 _ _ ha) ?_ ?_
   ·rintro k x dl' S' nx ct ex' ⟨hk,pr,hf,u,rfl⟩ hn
    have ex2:(ns.map Nd.d)[k]?=some x:=ex'
    rw[Vae] at ex2
    obtain⟨v,hv,rfl⟩:=Vah.mp ex2
    have hk':=(Vac.mp hv).1
    have ln:(zaC bs g (ns.take k)).length=k:=by rw[zc5,Var]; omega
    have okv:v.ok (zaC bs g (ns.take k)).length bs.length:=by rw[ln]; exact(net.ok k v hv).1
    obtain⟨C,fs,sd,eo,hm,hf2,go⟩:=disp v
    have N1:=zaB S' (v.ob zan.C zao.C zah.C zaj.C zai.C zam.C)
    refine zqU (n:=S.length) (S1:=S') (S2:=S'++[v.ob zan.C zao.C zah.C zaj.C zai.C zam.C]) (xs:=(zaC bs g (ns.take k)).map frD) (y:=frD (v.fw (zaC bs g (ns.take k)) bs g)) (λK hK=>by exact hK) hf (λK hK=>?_) (zaH hf) (by rw[Vaa,ln]; omega) ?_
    ·refine zqS (n:=S'.length) (C:=C) (sd:=sd) (fs:=fs) (S1:=S'++[v.ob zan.C zao.C zah.C zaj.C zai.C zam.C]) (λK hK=>⟨v,rfl,by exact hK⟩) (by rw[← eo]; exact N1) hm hf2 ?_
     exact go _ _ _ _ _ _ _ (zaC bs g (ns.take k)) bs N1 (zaH hf) (zaH (pr _ _ hb)) okv ((zd7 net rfl sb hg k hk).mono (by decide)) hg hK
    ·refine hn _ _ ⟨by omega,zby (zbz pr _) (Vab _),?_,_,rfl⟩
     rw[zbL hv,zkJ,Vaw]
     exact zbm (zaH hf)
   ·rintro dl' S' ⟨hk,pr,hf,u,rfl⟩
    refine h _ _ pr (Vab _) ?_
    have e:ns.take (zat (.lst (ns.map Nd.d))).length=ns:=by
     show ns.take (ns.map Nd.d).length=ns
     rw[Vaa,VaM]
    rw[e] at hf
    exact hf
  ·exact h.elim⟩)
def zwN  (zjx:Df K mg "common" zlW zcX)(zaS:mg "min"=none)(zaE:mg "max"=none):Fk P w K mg base 1 "common" zcX zc6:=
 zjx.mk' (zax (k:=0) zjx.F zoW (zrf) λcdv A outer s H E hr=>⟨_,(zae (zal (i:=2) zoW.nd rfl (Or.inl rfl) (zaF (zbl rfl) rfl zaE Boot.«max» (zaa (zad (dv 0) zab (λ_ _=>rfl)) (zaa (zad (dv 1) zab (λ_ _=>rfl)) zac)))) (zae (zal (i:=3) zoW.nd rfl (Or.inl rfl) (zaF (zcd rfl) rfl zaS Boot.«min» (zaa (zad (dv 0) zab (λ_ _=>rfl)) (zaa (zad (dv 1) zab (λ_ _=>rfl)) zac)))) (zae (zau (zar zb4 (dv 2) (dv 3) (zap _)) (zag (zak zaK)) zav) (zag (zak (zay (zaa (dv 2) (zaa (dv 3) zac)))))))),λds S Q ex h=>by
  unfold zc6 at h
  split at h
  ·rename_i a b c d
   obtain⟨h1,h2⟩:=h
   unfold zaT at h1 h2
   refine ifD (λe=>?_) (λe=>?_)
   ·exact h1 (if_pos e)
   ·exact h2 _ (if_neg e)
  ·exact h.elim⟩)
def zrn  (zlV:Df K mg "asked_of" zkx zhf)(zbM:Fk P w K mg base 1 "common" zcX zc6)(zaE:mg "max"=none):Fk P w K mg base 2 "asked_of" zhf zgB:=
 zlV.mk' (zax (k:=1) zlV.F zrw (zwT) λcdv A outer s H E hr=>⟨_,(zae (zau (zar (zaI hr) (dv 0) zaL (zap _)) (zag (zak (zaq zbM hr (zaa (dv 1) (zaa (zay (zaa zab (zaa zab zac))) zac))))) zav) (zag (zak (zaq zbM hr (zaa (dv 1) (zaa (zay (zaa zab (zaa (zaF (zbl rfl) rfl zaE Boot.«max» (zaa (zad (dv 1) zab (λ_ _=>rfl)) (zaa zab zac))) zac))) zac)))))),λds S Q ex h=>by
  unfold zgB at h
  split at h
  ·rename_i w a b
   obtain⟨zero,hw,h⟩:=h
   rcases hw with ⟨rfl,rfl⟩ | ⟨rfl,rfl⟩
   ·exact h
   ·exact h
  ·exact h.elim⟩)
def zwh  (zan:zbB K mg)(zao:zbD K mg)(zah:zbw K mg)(zaj:zbs K mg)(zai:zbu K mg)(zam:zbF K mg)(zjd:Dm K zan.C "back" "Number.back" zmf zgt):Fm P w K mg base 1 zan.C "back" zgt (zeY zan.C zao.C zah.C zaj.C zai.C zam.C):=
 zjd.mk' (zax (k:=0) zjd.F zxt (zwd zan.C zao.C zah.C zaj.C zai.C zam.C) λcdv A outer s H E hr=>⟨_,(zag (zak (za6 zac))),λds S Q ex h=>by
  unfold zeY at h
  split at h
  ·rename_i n w z0 z1 g
   obtain⟨x,y,vs,q,hn,hw,ok,hs,⟨hz,sz0,sz1⟩,hg,h1,h2⟩:=h
   exact h2 [] rfl
  ·exact h.elim⟩)
def zsr  (zan:zbB K mg)(zao:zbD K mg)(zah:zbw K mg)(zaj:zbs K mg)(zai:zbu K mg)(zam:zbF K mg)(zjV:Dm K zao.C "back" "Unknown.back" ziG zg7):Fm P w K mg base 1 zao.C "back" zg7 (zfh zan.C zao.C zah.C zaj.C zai.C zam.C):=
 zjV.mk' (zax (k:=0) zjV.F zwz (ztd zan.C zao.C zah.C zaj.C zai.C zam.C) λcdv A outer s H E hr=>⟨_,(zag (zak (za6 zac))),λds S Q ex h=>by
  unfold zfh at h
  split at h
  ·rename_i n w z0 z1 g
   obtain⟨k,vs,q,hn,hw,ok,hs,⟨hz,sz0,sz1⟩,hg,h1,h2⟩:=h
   exact h2 [] rfl
  ·exact h.elim⟩)
def ztA  (zah:zbw K mg)(zjZ:Dm K zah.C "first_left" "Plus.first_left" zms zgH)(zbM:Fk P w K mg base 1 "common" zcX zc6)(zcw:Fk P w K mg base 1 "take_spans" zdx zdk):Fm P w K mg base 2 zah.C "first_left" zgH zfX:=
 zjZ.mk' (zax (k:=1) zjZ.F ztD (ztP) λcdv A outer s H E hr=>⟨_,(zag (zak (zaq zbM hr (zaa (dv 2) (zaa (zaq zcw hr (zaa (dv 1) (zaa (dv 3) zac))) zac))))),λds S Q ex h=>by
  unfold zfX at h
  split at h
  ·exact h
  ·exact h.elim⟩)
def zrs  (zah:zbw K mg)(zi6:Dm K zah.C "second_left" "Plus.second_left" zlz zgz)(zbM:Fk P w K mg base 1 "common" zcX zc6)(zcw:Fk P w K mg base 1 "take_spans" zdx zdk):Fm P w K mg base 2 zah.C "second_left" zgz zhI:=
 zi6.mk' (zax (k:=1) zi6.F zxK (zrB) λcdv A outer s H E hr=>⟨_,(zag (zak (zaq zbM hr (zaa (dv 3) (zaa (zaq zcw hr (zaa (dv 1) (zaa (dv 2) zac))) zac))))),λds S Q ex h=>by
  unfold zhI at h
  split at h
  ·exact h
  ·exact h.elim⟩)
def zrN  (zah:zbw K mg)(zan:zbB K mg)(zao:zbD K mg)(zaj:zbs K mg)(zai:zbu K mg)(zam:zbF K mg)(ziz:Dm K zah.C "back" "Pair.back" zkC zh0)(zf8:Fm P w K mg base 2 zah.C "second_left" zgz zhI)(zhv:Fm P w K mg base 2 zah.C "first_left" zgH zfX):Fm P w K mg base 3 zah.C "back" zh0 (zex zan.C zao.C zah.C zaj.C zai.C zam.C):=
 ziz.mk' (zax (k:=2) ziz.F zk6 (ztG zan.C zao.C zah.C zaj.C zai.C zam.C) λcdv A outer s H E hr=>⟨_,(zae (zal (i:=4) zk6.nd rfl (Or.inl rfl) (zfw (C:=zah.C) (dv 0) zah.cl zhv.m zhv.ok (hr.mono (by decide)) zhv.b zcE (zaa (dv 2) (zaa (zaJ (dv 1) (zaV zah.cl zah.n_one (dv 0)) (λ_ _=>rfl)) (zaa (zaJ (dv 1) (zaV zah.cl zah.n_other (dv 0)) (λ_ _=>rfl)) (zaa (dv 3) zac)))))) (zae (zau (zar zbE (dv 4) zaK (zap _)) (zag (zak zaK)) zav) (zae (zal (i:=5) zk6.nd rfl (Or.inl rfl) (zcG (zar (zaI hr) (zaV zah.cl zah.n_one (dv 0)) (zaV zah.cl zah.n_other (dv 0)) (zap _)) (dv 4) (zaJ (dv 1) (zaV zah.cl zah.n_other (dv 0)) (λ_ _=>rfl)))) (zae (zal (i:=5) zk6.nd rfl (Or.inl rfl) (zfw (C:=zah.C) (dv 0) zah.cl zf8.m zf8.ok (hr.mono (by decide)) zf8.b zcE (zaa (dv 2) (zaa (dv 4) (zaa (dv 5) (zaa (dv 3) zac)))))) (zae (zau (zar zbE (dv 5) zaK (zap _)) (zag (zak zaK)) zav) (zag (zak (za6 (zaa (zay (zaa (zaV zah.cl zah.n_one (dv 0)) (zaa (dv 4) zac))) (zaa (zay (zaa (zaV zah.cl zah.n_other (dv 0)) (zaa (dv 5) zac))) zac)))))))))),λds S Q ex h=>by
  unfold zex at h
  split at h
  ·rename_i n w z0 z1 g
   obtain⟨i,j,vs,q,hn,hw,ok,hs,⟨hz,sz0,sz1⟩,hg,h1,h2⟩:=h
   refine zc7 (n:=n) (fs:=[("one",.int i),("other",.int j)]) (λK hK=>by exact hK) hn rfl ?_
   refine zaQ (n:=n) (λK hK=>by exact hK) hn rfl ?_
   refine zaA (o:=.lst (vs.map frD)) hw (zaP ok.1) ?_
   refine zaQ (n:=n) (λK hK=>by exact hK) hn rfl ?_
   refine zaA (o:=.lst (vs.map frD)) hw (zaP ok.2) ?_
   refine⟨λe=>?_,λx' e=>?_⟩
   ·have e':zaT (gt vs i) (z0-(gt vs j).2,z1-(gt vs j).1)=none:=e
    refine h1 ?_
    unfold Nd.bk bk2
    dsimp only
    rw[e']
   ·have e':zaT (gt vs i) (z0-(gt vs j).2,z1-(gt vs j).1)=some x':=e
    refine zaQ (n:=n) (λK hK=>by exact hK) hn rfl ?_
    refine zaQ (n:=n) (λK hK=>by exact hK) hn rfl ?_
    refine ifD (λc=>?_) (λc=>?_)
    ·skip
     refine zc7 (n:=n) (fs:=[("one",.int i),("other",.int j)]) (λK hK=>by exact hK) hn rfl ?_
     refine⟨λe2=>?_,λy' e2=>?_⟩
     ·refine h1 ?_
      unfold Nd.bk bk2
      dsimp only
      rw[e']
      dsimp only
      rw[if_pos c,show zaT x' (z0-x'.2,z1-x'.1)=none from e2]
     ·refine zaQ (n:=n) (λK hK=>by exact hK) hn rfl ?_
      refine zaQ (n:=n) (λK hK=>by exact hK) hn rfl ?_
      refine h2 [(i,x'),(j,y')] ?_
      unfold Nd.bk bk2
      dsimp only
      rw[e']
      dsimp only
      rw[if_pos c,show zaT x' (z0-x'.2,z1-x'.1)=some y' from e2]
    ·refine zaQ (n:=n) (λK hK=>by exact hK) hn rfl ?_
     refine zaA (o:=.lst (vs.map frD)) hw (zaP ok.2) ?_
     refine zc7 (n:=n) (fs:=[("one",.int i),("other",.int j)]) (λK hK=>by exact hK) hn rfl ?_
     refine⟨λe2=>?_,λy' e2=>?_⟩
     ·refine h1 ?_
      unfold Nd.bk bk2
      dsimp only
      rw[e']
      dsimp only
      rw[if_neg c,show zaT (gt vs j) (z0-x'.2,z1-x'.1)=none from e2]
     ·refine zaQ (n:=n) (λK hK=>by exact hK) hn rfl ?_
      refine zaQ (n:=n) (λK hK=>by exact hK) hn rfl ?_
      refine h2 [(i,x'),(j,y')] ?_
      unfold Nd.bk bk2
      dsimp only
      rw[e']
      dsimp only
      rw[if_neg c,show zaT (gt vs j) (z0-x'.2,z1-x'.1)=some y' from e2]
  ·exact h.elim⟩)
def zs1  (zaj:zbs K mg)(zm9:Dm K zaj.C "first_left" "Minus.first_left" zlj zhW)(zbM:Fk P w K mg base 1 "common" zcX zc6)(ze8:Fk P w K mg base 1 "add_spans" zfg zeB):Fm P w K mg base 2 zaj.C "first_left" zhW zhq:=
 zm9.mk' (zax (k:=1) zm9.F zuJ (zwr) λcdv A outer s H E hr=>⟨_,(zag (zak (zaq zbM hr (zaa (dv 2) (zaa (zaq ze8 hr (zaa (dv 1) (zaa (dv 3) zac))) zac))))),λds S Q ex h=>by
  unfold zhq at h
  split at h
  ·exact h
  ·exact h.elim⟩)
def zsQ  (zaj:zbs K mg)(zj8:Dm K zaj.C "second_left" "Minus.second_left" zk2 zhG)(zbM:Fk P w K mg base 1 "common" zcX zc6)(zcw:Fk P w K mg base 1 "take_spans" zdx zdk):Fm P w K mg base 2 zaj.C "second_left" zhG zhY:=
 zj8.mk' (zax (k:=1) zj8.F zxm (zvl) λcdv A outer s H E hr=>⟨_,(zag (zak (zaq zbM hr (zaa (dv 3) (zaa (zaq zcw hr (zaa (dv 2) (zaa (dv 1) zac))) zac))))),λds S Q ex h=>by
  unfold zhY at h
  split at h
  ·exact h
  ·exact h.elim⟩)
def zvL  (zaj:zbs K mg)(zan:zbB K mg)(zao:zbD K mg)(zah:zbw K mg)(zai:zbu K mg)(zam:zbF K mg)(zjf:Dm K zaj.C "back" "Pair.back" zi1 zhg)(zhS:Fm P w K mg base 2 zaj.C "second_left" zhG zhY)(zhL:Fm P w K mg base 2 zaj.C "first_left" zhW zhq):Fm P w K mg base 3 zaj.C "back" zhg (zep zan.C zao.C zah.C zaj.C zai.C zam.C):=
 zjf.mk' (zax (k:=2) zjf.F zl2 (zvu zan.C zao.C zah.C zaj.C zai.C zam.C) λcdv A outer s H E hr=>⟨_,(zae (zal (i:=4) zl2.nd rfl (Or.inl rfl) (zfw (C:=zaj.C) (dv 0) zaj.cl zhL.m zhL.ok (hr.mono (by decide)) zhL.b zcE (zaa (dv 2) (zaa (zaJ (dv 1) (zaV zaj.cl zaj.n_one (dv 0)) (λ_ _=>rfl)) (zaa (zaJ (dv 1) (zaV zaj.cl zaj.n_other (dv 0)) (λ_ _=>rfl)) (zaa (dv 3) zac)))))) (zae (zau (zar zbE (dv 4) zaK (zap _)) (zag (zak zaK)) zav) (zae (zal (i:=5) zl2.nd rfl (Or.inl rfl) (zcG (zar (zaI hr) (zaV zaj.cl zaj.n_one (dv 0)) (zaV zaj.cl zaj.n_other (dv 0)) (zap _)) (dv 4) (zaJ (dv 1) (zaV zaj.cl zaj.n_other (dv 0)) (λ_ _=>rfl)))) (zae (zal (i:=5) zl2.nd rfl (Or.inl rfl) (zfw (C:=zaj.C) (dv 0) zaj.cl zhS.m zhS.ok (hr.mono (by decide)) zhS.b zcE (zaa (dv 2) (zaa (dv 4) (zaa (dv 5) (zaa (dv 3) zac)))))) (zae (zau (zar zbE (dv 5) zaK (zap _)) (zag (zak zaK)) zav) (zag (zak (za6 (zaa (zay (zaa (zaV zaj.cl zaj.n_one (dv 0)) (zaa (dv 4) zac))) (zaa (zay (zaa (zaV zaj.cl zaj.n_other (dv 0)) (zaa (dv 5) zac))) zac)))))))))),λds S Q ex h=>by
  unfold zep at h
  split at h
  ·rename_i n w z0 z1 g
   obtain⟨i,j,vs,q,hn,hw,ok,hs,⟨hz,sz0,sz1⟩,hg,h1,h2⟩:=h
   refine zc7 (n:=n) (fs:=[("one",.int i),("other",.int j)]) (λK hK=>by exact hK) hn rfl ?_
   refine zaQ (n:=n) (λK hK=>by exact hK) hn rfl ?_
   refine zaA (o:=.lst (vs.map frD)) hw (zaP ok.1) ?_
   refine zaQ (n:=n) (λK hK=>by exact hK) hn rfl ?_
   refine zaA (o:=.lst (vs.map frD)) hw (zaP ok.2) ?_
   refine⟨λe=>?_,λx' e=>?_⟩
   ·have e':zaT (gt vs i) (z0+(gt vs j).1,z1+(gt vs j).2)=none:=e
    refine h1 ?_
    unfold Nd.bk bk2
    dsimp only
    rw[e']
   ·have e':zaT (gt vs i) (z0+(gt vs j).1,z1+(gt vs j).2)=some x':=e
    refine zaQ (n:=n) (λK hK=>by exact hK) hn rfl ?_
    refine zaQ (n:=n) (λK hK=>by exact hK) hn rfl ?_
    refine ifD (λc=>?_) (λc=>?_)
    ·skip
     refine zc7 (n:=n) (fs:=[("one",.int i),("other",.int j)]) (λK hK=>by exact hK) hn rfl ?_
     refine⟨λe2=>?_,λy' e2=>?_⟩
     ·refine h1 ?_
      unfold Nd.bk bk2
      dsimp only
      rw[e']
      dsimp only
      rw[if_pos c,show zaT x' (x'.1-z1,x'.2-z0)=none from e2]
     ·refine zaQ (n:=n) (λK hK=>by exact hK) hn rfl ?_
      refine zaQ (n:=n) (λK hK=>by exact hK) hn rfl ?_
      refine h2 [(i,x'),(j,y')] ?_
      unfold Nd.bk bk2
      dsimp only
      rw[e']
      dsimp only
      rw[if_pos c,show zaT x' (x'.1-z1,x'.2-z0)=some y' from e2]
    ·refine zaQ (n:=n) (λK hK=>by exact hK) hn rfl ?_
     refine zaA (o:=.lst (vs.map frD)) hw (zaP ok.2) ?_
     refine zc7 (n:=n) (fs:=[("one",.int i),("other",.int j)]) (λK hK=>by exact hK) hn rfl ?_
     refine⟨λe2=>?_,λy' e2=>?_⟩
     ·refine h1 ?_
      unfold Nd.bk bk2
      dsimp only
      rw[e']
      dsimp only
      rw[if_neg c,show zaT (gt vs j) (x'.1-z1,x'.2-z0)=none from e2]
     ·refine zaQ (n:=n) (λK hK=>by exact hK) hn rfl ?_
      refine zaQ (n:=n) (λK hK=>by exact hK) hn rfl ?_
      refine h2 [(i,x'),(j,y')] ?_
      unfold Nd.bk bk2
      dsimp only
      rw[e']
      dsimp only
      rw[if_neg c,show zaT (gt vs j) (x'.1-z1,x'.2-z0)=some y' from e2]
  ·exact h.elim⟩)
def zst  (zjE:Df K mg "holds_nought" ziX zfS):Fk P w K mg base 1 "holds_nought" zfS zgf:=
 zjE.mk' (zax (k:=0) zjE.F zu4 (zrW) λcdv A outer s H E hr=>⟨_,(zag (zak (zub zcu zcu (zad (dv 0) zab (λ_ _=>rfl)) zab (zad (dv 0) zab (λ_ _=>rfl))))),λds S Q ex h=>by
  unfold zgf at h
  split at h
  ·exact and2 h
  ·exact h.elim⟩)
def zwZ  (zkP:Df K mg "part_between" zkj zfB)(zaS:mg "min"=none)(zaE:mg "max"=none):Fk P w K mg base 1 "part_between" zfB zfc:=
 zkP.mk' (zax (k:=0) zkP.F zuv (ztE) λcdv A outer s H E hr=>⟨_,(zae (zau (PDW.pt (zcz (zar zb4 (zad (dv 1) zab (λ_ _=>rfl)) (zad (dv 0) zab (λ_ _=>rfl)) (zap _)) (zcM (zar zbo (zad (dv 2) zab (λ_ _=>rfl)) (zad (dv 0) zab (λ_ _=>rfl)) (zap _))))) (zag (zak zaK)) zav) (zag (zak (zay (zaa (zaF (zbl rfl) rfl zaE Boot.«max» (zaa (zad (dv 1) zab (λ_ _=>rfl)) (zaa (zad (dv 0) zab (λ_ _=>rfl)) zac))) (zaa (zaF (zcd rfl) rfl zaS Boot.«min» (zaa (zad (dv 2) zab (λ_ _=>rfl)) (zaa (zad (dv 0) zab (λ_ _=>rfl)) zac))) zac)))))),λds S Q ex h=>by
  unfold zfc at h
  split at h
  ·rename_i x0 x1 l0 l1 k0 k1
   obtain⟨h1,h2⟩:=h
   unfold ptB at h1 h2
   refine ifD (λc=>h1 (if_pos c)) (λc1=>ifD (λc=>h1 (by rw[if_neg c1,if_pos c])) (λc2=>?_))
   have z:=h2 (if x0 > l0 then x0 else l0,if x1<k1 then x1 else k1) (by rw[if_neg c1,if_neg c2])
   exact z
  ·exact h.elim⟩)
def zx0  (zkw:Df K mg "quotient" zmQ zf6)(zcr:Fk P w K mg base 1 "rounded_up" zdA zdo):Fk P w K mg base 2 "quotient" zf6 zfW:=
 zkw.mk' (zax (k:=1) zkw.F zxh (zsw) λcdv A outer s H E hr=>⟨_,(zag (zak (zay (zaa (zaf zbi (dv 0) (dv 1)) (zaa (zaq zcr hr (zaa (dv 0) (zaa (dv 1) zac))) zac))))),λds S Q ex h=>by
  unfold zfW at h
  split at h
  ·obtain⟨hb,h⟩:=h
   exact⟨hb,hb,h⟩
  ·exact h.elim⟩)
def zud  (zii:Df K mg "back_by_side" zij zgv)(zdf:Fk P w K mg base 1 "part_between" zfB zfc)(zmY:Fk P w K mg base 2 "quotient" zf6 zfW):Fk P w K mg base 3 "back_by_side" zgv zhc:=
 zii.mk' (zax (k:=2) zii.F zg0 (zs5) λcdv A outer s H E hr=>⟨_,(zae (zal (i:=3) zg0.nd rfl (Or.inl rfl) (zcG (zar zb4 (zad (dv 0) zab (λ_ _=>rfl)) zab (zap _)) (zad (dv 2) zab (λ_ _=>rfl)) (zad (dv 2) zab (λ_ _=>rfl)))) (zae (zal (i:=4) zg0.nd rfl (Or.inl rfl) (zcG (zar zbo (zad (dv 0) zab (λ_ _=>rfl)) zab (zap _)) (zad (dv 2) zab (λ_ _=>rfl)) (zad (dv 2) zab (λ_ _=>rfl)))) (zae (zal (i:=5) zg0.nd rfl (Or.inl rfl) (zcG (zar (zaI hr) (dv 3) zab (zap _)) (zay (zaa (zad (dv 1) zab (λ_ _=>rfl)) (zaa (zad (dv 1) zab (λ_ _=>rfl)) zac))) (zaq zmY hr (zaa (zad (dv 0) zab (λ_ _=>rfl)) (zaa (dv 3) zac))))) (zae (zal (i:=6) zg0.nd rfl (Or.inl rfl) (zcG (zar (zaI hr) (dv 4) zab (zap _)) (zay (zaa (zad (dv 1) zab (λ_ _=>rfl)) (zaa (zad (dv 1) zab (λ_ _=>rfl)) zac))) (zaq zmY hr (zaa (zad (dv 0) zab (λ_ _=>rfl)) (zaa (dv 4) zac))))) (zag (zak (zaq zdf hr (zaa (dv 1) (zaa (dv 5) (zaa (dv 6) zac)))))))))),λds S Q ex h=>by
  unfold zhc at h
  split at h
  ·rename_i lo hi x0 x1 c d
   obtain⟨⟨h0,hd,zc,zd⟩,h⟩:=h
   unfold sdS loE hiE za3 zaX at h
   refine ifD (λe1=>?_) (λe1=>?_)
   all_goals first | rw[if_pos e1] at h | rw[if_neg e1] at h
   all_goals refine ifD (λe2=>?_) (λe2=>?_)
   all_goals first | rw[if_pos e2] at h | rw[if_neg e2] at h
   all_goals refine ifD (λe3=>?_) (λe3=>?_)
   all_goals try refine⟨⟨by omega,by first | exact zd.log (by omega) | exact zc.log (by omega)⟩,?_⟩
   all_goals refine ifD (λe4=>?_) (λe4=>?_)
   all_goals try refine⟨⟨by omega,by first | exact zd.log (by omega) | exact zc.log (by omega)⟩,?_⟩
   all_goals
    first | rw[if_pos e3] at h | rw[if_neg e3] at h
    try first | rw[if_pos e4] at h | rw[if_neg e4] at h
    exact h
  ·exact h.elim⟩)
def zxi  (ziy:Df K mg "hull" ziO zhy)(zaE:mg "max"=none)(zaS:mg "min"=none):Fk P w K mg base 1 "hull" zhy zhZ:=
 ziy.mk' (zax (k:=0) ziy.F zuz (zu3) λcdv A outer s H E hr=>⟨_,(zag (zak (zay (zaa (zaF (zcd rfl) rfl zaS Boot.«min» (zaa (zad (dv 0) zab (λ_ _=>rfl)) (zaa (zad (dv 1) zab (λ_ _=>rfl)) zac))) (zaa (zaF (zbl rfl) rfl zaE Boot.«max» (zaa (zad (dv 0) zab (λ_ _=>rfl)) (zaa (zad (dv 1) zab (λ_ _=>rfl)) zac))) zac))))),λds S Q ex h=>by
  unfold zhZ at h
  split at h
  ·exact h
  ·exact h.elim⟩)
def zsl  (zlB:Df K mg "joined" zmi zeM)(znb:Fk P w K mg base 1 "hull" zhy zhZ):Fk P w K mg base 2 "joined" zeM zfD:=
 zlB.mk' (zax (k:=1) zlB.F zwC (zvY) λcdv A outer s H E hr=>⟨_,(zae (zau (zar zbE (dv 0) zaK (zap _)) (zag (zak (dv 1))) zav) (zae (zau (zar zbE (dv 1) zaK (zap _)) (zag (zak (dv 0))) zav) (zag (zak (zaq znb hr (zaa (dv 0) (zaa (dv 1) zac))))))),λds S Q ex h=>by
  unfold zfD at h
  split at h
  ·exact h
  ·exact h
  ·exact h
  ·exact h.elim⟩)
def zu9  (ziH:Df K mg "opposite" zjY zdE):Fk P w K mg base 1 "opposite" zdE zdI:=
 ziH.mk' (zax (k:=0) ziH.F ztV (ztL) λcdv A outer s H E hr=>⟨_,(zag (zak (zay (zaa (zaZ za0 (zad (dv 0) zab (λ_ _=>rfl))) (zaa (zaZ za0 (zad (dv 0) zab (λ_ _=>rfl))) zac))))),λds S Q ex h=>by
  unfold zdI at h
  split at h
  ·exact h
  ·exact h.elim⟩)
def ztr  (zky:Df K mg "back_times" zkM zeI)(zei:Fk P w K mg base 2 "joined" zeM zfD)(zjl:Fk P w K mg base 3 "back_by_side" zgv zhc)(zcl:Fk P w K mg base 1 "opposite" zdE zdI)(ziQ:Fk P w K mg base 1 "holds_nought" zfS zgf)(zaE:mg "max"=none):Fk P w K mg base 4 "back_times" zeI zem:=
 zky.mk' (zax (k:=3) zky.F zfb (zvj) λcdv A outer s H E hr=>⟨_,(zae (zau (PDW.pt (zc8 (zdb (zaq ziQ hr (zaa (dv 2) zac))) (zdW (zdb (zaq ziQ hr (zaa (dv 0) zac)))))) (zag (zak (dv 1))) zav) (zae (zal (i:=4) zfb.nd rfl (Or.inl rfl) (zay (zaa (zaf zaN (zad (dv 0) zab (λ_ _=>rfl)) (dv 3)) (zaa (zaf zaN (zad (dv 0) zab (λ_ _=>rfl)) (dv 3)) zac)))) (zae (zal (i:=5) zfb.nd rfl (Or.inl rfl) zaK) (zae (zau (zar zb4 (zad (dv 2) zab (λ_ _=>rfl)) zab (zap _)) (zag (zal (i:=5) zfb.nd rfl (Or.inl rfl) (zaq zjl hr (zaa (dv 4) (zaa (dv 1) (zaa (zay (zaa (zaF (zbl rfl) rfl zaE Boot.«max» (zaa (zad (dv 2) zab (λ_ _=>rfl)) (zaa zab zac))) (zaa (zad (dv 2) zab (λ_ _=>rfl)) zac))) zac)))))) zav) (zae (zau (zar zbo (zad (dv 2) zab (λ_ _=>rfl)) zab (zap _)) (zae (zal (i:=6) zfb.nd rfl (Or.inl rfl) (zaq zjl hr (zaa (zaq zcl hr (zaa (dv 4) zac)) (zaa (dv 1) (zaa (zay (zaa (zaF (zbl rfl) rfl zaE Boot.«max» (zaa (zaZ za0 (zad (dv 2) zab (λ_ _=>rfl))) (zaa zab zac))) (zaa (zaZ za0 (zad (dv 2) zab (λ_ _=>rfl))) zac))) zac))))) (zag (zal (i:=5) zfb.nd rfl (Or.inl rfl) (zaq zei hr (zaa (dv 5) (zaa (dv 6) zac)))))) zav) (zag (zak (dv 5)))))))),λds S Q ex h=>by
  unfold zem at h
  split at h
  ·rename_i z0 z1 x0 x1 y0 y1 g
   obtain⟨⟨hy,sz0,sz1,sy0,sy1,sg⟩,hn,ht⟩:=h
   have eq:¬ ((y0≤0∧0≤y1)∧z0≤0∧0≤z1)→btS (z0,z1) (x0,x1) (y0,y1) g=joS (if y1 > 0 then sdS (z0*g) (z1*g) (x0,x1) (mx0 y0) y1 else none) (if y0<0 then sdS (-(z1*g)) (-(z0*g)) (x0,x1) (mx0 (-y1)) (-y0) else none):=λn=>if_neg n
   refine if2 (λa1 a2=>?_) (λn=>?_)
   ·refine if2 (λb1 b2=>?_) (λn=>?_)
    ·exact ht (x0,x1) (if_pos ⟨⟨a1,a2⟩,b1,b2⟩)
    ·have eb:=eq λz=>n z.2
     refine⟨zaG sz0 sg,zaG sz1 sg,?_⟩
     refine ifD (λc1=>?_) (λc1=>?_)
     ·refine⟨⟨zca _,c1,zdr (sy0.mono (by decide)),sy1.mono (by decide)⟩,λn1=>?_,λL t1=>?_⟩
      ·refine ifD (λc2=>?_) (λc2=>?_)
       ·refine⟨⟨zca _,by omega,zdr (sy1.neg.mono (by decide)),sy0.neg.mono (by decide)⟩,λn2=>?_,λL' t2=>?_⟩
        ·exact hn (by rw[eb,if_pos c1,if_pos c2,n1,n2]; rfl)
        ·exact ht _ (by rw[eb,if_pos c1,if_pos c2,n1,t2]; rfl)
       ·exact hn (by rw[eb,if_pos c1,if_neg c2,n1]; rfl)
      ·refine ifD (λc2=>?_) (λc2=>?_)
       ·refine⟨⟨zca _,by omega,zdr (sy1.neg.mono (by decide)),sy0.neg.mono (by decide)⟩,λn2=>?_,λL' t2=>?_⟩
        ·exact ht _ (by rw[eb,if_pos c1,if_pos c2,t1,n2]; rfl)
        ·have z:=ht (if L'.1<L.1 then L'.1 else L.1,if L'.2 > L.2 then L'.2 else L.2) (by rw[eb,if_pos c1,if_pos c2,t1,t2]; rfl)
         exact z
       ·exact ht _ (by rw[eb,if_pos c1,if_neg c2,t1]; rfl)
     ·refine ifD (λc2=>?_) (λc2=>?_)
      ·refine⟨⟨zca _,by omega,zdr (sy1.neg.mono (by decide)),sy0.neg.mono (by decide)⟩,λn2=>?_,λL' t2=>?_⟩
       ·exact hn (by rw[eb,if_neg c1,if_pos c2,n2]; rfl)
       ·exact ht _ (by rw[eb,if_neg c1,if_pos c2,t2]; rfl)
      ·exact hn (by rw[eb,if_neg c1,if_neg c2]; rfl)
   ·have eb:=eq λz=>n z.1
    refine⟨zaG sz0 sg,zaG sz1 sg,?_⟩
    refine ifD (λc1=>?_) (λc1=>?_)
    ·refine⟨⟨zca _,c1,zdr (sy0.mono (by decide)),sy1.mono (by decide)⟩,λn1=>?_,λL t1=>?_⟩
     ·refine ifD (λc2=>?_) (λc2=>?_)
      ·refine⟨⟨zca _,by omega,zdr (sy1.neg.mono (by decide)),sy0.neg.mono (by decide)⟩,λn2=>?_,λL' t2=>?_⟩
       ·exact hn (by rw[eb,if_pos c1,if_pos c2,n1,n2]; rfl)
       ·exact ht _ (by rw[eb,if_pos c1,if_pos c2,n1,t2]; rfl)
      ·exact hn (by rw[eb,if_pos c1,if_neg c2,n1]; rfl)
     ·refine ifD (λc2=>?_) (λc2=>?_)
      ·refine⟨⟨zca _,by omega,zdr (sy1.neg.mono (by decide)),sy0.neg.mono (by decide)⟩,λn2=>?_,λL' t2=>?_⟩
       ·exact ht _ (by rw[eb,if_pos c1,if_pos c2,t1,n2]; rfl)
       ·have z:=ht (if L'.1<L.1 then L'.1 else L.1,if L'.2 > L.2 then L'.2 else L.2) (by rw[eb,if_pos c1,if_pos c2,t1,t2]; rfl)
        exact z
      ·exact ht _ (by rw[eb,if_pos c1,if_neg c2,t1]; rfl)
    ·refine ifD (λc2=>?_) (λc2=>?_)
     ·refine⟨⟨zca _,by omega,zdr (sy1.neg.mono (by decide)),sy0.neg.mono (by decide)⟩,λn2=>?_,λL' t2=>?_⟩
      ·exact hn (by rw[eb,if_neg c1,if_pos c2,n2]; rfl)
      ·exact ht _ (by rw[eb,if_neg c1,if_pos c2,t2]; rfl)
     ·exact hn (by rw[eb,if_neg c1,if_neg c2]; rfl)
  ·exact h.elim⟩)
def zvs  (zai:zbu K mg)(zi5:Dm K zai.C "first_left" "Times.first_left" zk7 zfY)(zfi:Fk P w K mg base 4 "back_times" zeI zem):Fm P w K mg base 5 zai.C "first_left" zfY zg4:=
 zi5.mk' (zax (k:=4) zi5.F zxd (zxn) λcdv A outer s H E hr=>⟨_,(zag (zak (zaq zfi hr (zaa (dv 1) (zaa (dv 2) (zaa (dv 3) (zaa (dv 4) zac))))))),λds S Q ex h=>by
  unfold zg4 at h
  split at h
  ·exact h
  ·exact h.elim⟩)
def zsd  (zai:zbu K mg)(zjg:Dm K zai.C "second_left" "Times.second_left" zjq zf1)(zfi:Fk P w K mg base 4 "back_times" zeI zem):Fm P w K mg base 5 zai.C "second_left" zf1 zfQ:=
 zjg.mk' (zax (k:=4) zjg.F zrA (zsu) λcdv A outer s H E hr=>⟨_,(zag (zak (zaq zfi hr (zaa (dv 1) (zaa (dv 3) (zaa (dv 2) (zaa (dv 4) zac))))))),λds S Q ex h=>by
  unfold zfQ at h
  split at h
  ·exact h
  ·exact h.elim⟩)
def zxL  (zai:zbu K mg)(zan:zbB K mg)(zao:zbD K mg)(zah:zbw K mg)(zaj:zbs K mg)(zam:zbF K mg)(zjN:Dm K zai.C "back" "Pair.back" zjt zh5)(zhh:Fm P w K mg base 5 zai.C "second_left" zf1 zfQ)(zf4:Fm P w K mg base 5 zai.C "first_left" zfY zg4):Fm P w K mg base 6 zai.C "back" zh5 (ze3 zan.C zao.C zah.C zaj.C zai.C zam.C):=
 zjN.mk' (zax (k:=5) zjN.F zl8 (zsq zan.C zao.C zah.C zaj.C zai.C zam.C) λcdv A outer s H E hr=>⟨_,(zae (zal (i:=4) zl8.nd rfl (Or.inl rfl) (zfw (C:=zai.C) (dv 0) zai.cl zf4.m zf4.ok (hr.mono (by decide)) zf4.b zcE (zaa (dv 2) (zaa (zaJ (dv 1) (zaV zai.cl zai.n_one (dv 0)) (λ_ _=>rfl)) (zaa (zaJ (dv 1) (zaV zai.cl zai.n_other (dv 0)) (λ_ _=>rfl)) (zaa (dv 3) zac)))))) (zae (zau (zar zbE (dv 4) zaK (zap _)) (zag (zak zaK)) zav) (zae (zal (i:=5) zl8.nd rfl (Or.inl rfl) (zcG (zar (zaI hr) (zaV zai.cl zai.n_one (dv 0)) (zaV zai.cl zai.n_other (dv 0)) (zap _)) (dv 4) (zaJ (dv 1) (zaV zai.cl zai.n_other (dv 0)) (λ_ _=>rfl)))) (zae (zal (i:=5) zl8.nd rfl (Or.inl rfl) (zfw (C:=zai.C) (dv 0) zai.cl zhh.m zhh.ok (hr.mono (by decide)) zhh.b zcE (zaa (dv 2) (zaa (dv 4) (zaa (dv 5) (zaa (dv 3) zac)))))) (zae (zau (zar zbE (dv 5) zaK (zap _)) (zag (zak zaK)) zav) (zag (zak (za6 (zaa (zay (zaa (zaV zai.cl zai.n_one (dv 0)) (zaa (dv 4) zac))) (zaa (zay (zaa (zaV zai.cl zai.n_other (dv 0)) (zaa (dv 5) zac))) zac)))))))))),λds S Q ex h=>by
  unfold ze3 at h
  split at h
  ·rename_i n w z0 z1 g
   obtain⟨i,j,vs,q,hn,hw,ok,hs,⟨hz,sz0,sz1⟩,hg,h1,h2⟩:=h
   have a:=hs.at ok.1
   have b:=hs.at ok.2
   have sg:Sz 30 g:=Sz.of 1000000 (by omega)
   refine zc7 (n:=n) (fs:=[("one",.int i),("other",.int j)]) (λK hK=>by exact hK) hn rfl ?_
   refine zaQ (n:=n) (λK hK=>by exact hK) hn rfl ?_
   refine zaA (o:=.lst (vs.map frD)) hw (zaP ok.1) ?_
   refine zaQ (n:=n) (λK hK=>by exact hK) hn rfl ?_
   refine zaA (o:=.lst (vs.map frD)) hw (zaP ok.2) ?_
   refine⟨⟨b.1,sz0.mono (by decide),sz1.mono (by decide),b.2.1.mono (by decide),b.2.2.mono (by decide),sg⟩,λe=>?_,λx' e=>?_⟩
   ·have e':btS (z0,z1) (gt vs i) (gt vs j) g=none:=e
    refine h1 ?_
    unfold Nd.bk bk2
    dsimp only
    rw[e']
   ·have e':btS (z0,z1) (gt vs i) (gt vs j) g=some x':=e
    have zx:=Sz.in2 a.2.1 a.2.2 (zmk (z:=(z0,z1)) hz a.1 b.1 hg.1 x' e')
    refine zaQ (n:=n) (λK hK=>by exact hK) hn rfl ?_
    refine zaQ (n:=n) (λK hK=>by exact hK) hn rfl ?_
    refine ifD (λc=>?_) (λc=>?_)
    ·skip
     refine zc7 (n:=n) (fs:=[("one",.int i),("other",.int j)]) (λK hK=>by exact hK) hn rfl ?_
     refine⟨⟨zx.1,sz0.mono (by decide),sz1.mono (by decide),zx.2.1.mono (by decide),zx.2.2.mono (by decide),sg⟩,λe2=>?_,λy' e2=>?_⟩
     ·refine h1 ?_
      unfold Nd.bk bk2
      dsimp only
      rw[e']
      dsimp only
      rw[if_pos c,show btS (z0,z1) x' x' g=none from e2]
     ·refine zaQ (n:=n) (λK hK=>by exact hK) hn rfl ?_
      refine zaQ (n:=n) (λK hK=>by exact hK) hn rfl ?_
      refine h2 [(i,x'),(j,y')] ?_
      unfold Nd.bk bk2
      dsimp only
      rw[e']
      dsimp only
      rw[if_pos c,show btS (z0,z1) x' x' g=some y' from e2]
    ·refine zaQ (n:=n) (λK hK=>by exact hK) hn rfl ?_
     refine zaA (o:=.lst (vs.map frD)) hw (zaP ok.2) ?_
     refine zc7 (n:=n) (fs:=[("one",.int i),("other",.int j)]) (λK hK=>by exact hK) hn rfl ?_
     refine⟨⟨zx.1,sz0.mono (by decide),sz1.mono (by decide),zx.2.1.mono (by decide),zx.2.2.mono (by decide),sg⟩,λe2=>?_,λy' e2=>?_⟩
     ·refine h1 ?_
      unfold Nd.bk bk2
      dsimp only
      rw[e']
      dsimp only
      rw[if_neg c,show btS (z0,z1) (gt vs j) x' g=none from e2]
     ·refine zaQ (n:=n) (λK hK=>by exact hK) hn rfl ?_
      refine zaQ (n:=n) (λK hK=>by exact hK) hn rfl ?_
      refine h2 [(i,x'),(j,y')] ?_
      unfold Nd.bk bk2
      dsimp only
      rw[e']
      dsimp only
      rw[if_neg c,show btS (z0,z1) (gt vs j) x' g=some y' from e2]
  ·exact h.elim⟩)
def zsR  (zmy:Df K mg "next_guess" zlK zhF)(zbH:Fk P w K mg base 1 "raised" zda zc4):Fk P w K mg base 2 "next_guess" zhF zfL:=
 zmy.mk' (zax (k:=1) zmy.F zsB (zr1) λcdv A outer s H E hr=>⟨_,(zag (zak (zaf zbi (zaf zaY (zaf zaN (zaf zbf (dv 2) zab) (dv 0)) (zaf zbi (dv 1) (zaq zbH hr (zaa (dv 0) (zaa (zaf zbf (dv 2) zab) zac))))) (dv 2)))),λds S Q ex h=>by
  unfold zfL at h
  split at h
  ·rename_i g N n
   obtain⟨⟨n2,n6,hg,sg⟩,h⟩:=h
   have zn:Sz 800 (n-1):=Sz.of 6 (by omega)
   have gp:(0:Int)<g^(n-1).toNat:=Vax hg
   exact⟨zaG zn sg,⟨by omega,by omega,sg.mono (by decide)⟩,((sg.pow (n-1).toNat).mono (show _≤4001 by omega)).fd gp,(Sz.of (n:=800) 6 (by omega):Sz 800 n).fd (by omega),h⟩
  ·exact h.elim⟩)
def zuu  (zmE:Df K mg "root_below" zmM zeV)(zj0:Fk P w K mg base 2 "next_guess" zhF zfL):Fk P w K mg base 3 "root_below" zeV zeT:=
 zmE.mk' (zax (k:=2) zmE.F zhT (zsA) λcdv A outer s H E hr=>⟨_,(zae (zau (zar (zaI hr) (dv 0) zab (zap _)) (zag (zak zab)) zav) (zae (zal (i:=2) zhT.nd rfl (Or.inl rfl) (zaf zvU zab (zaf zaY (zaf zbi (zws (dv 0)) (dv 1)) zab))) (zae (zal (i:=3) zhT.nd rfl (Or.inl rfl) (zaq zj0 hr (zaa (dv 2) (zaa (dv 0) (zaa (dv 1) zac))))) (zae (zo0 PassesOwn.never (zar zbo (dv 3) (dv 2) (zap _)) (zae (zal (i:=2) zhT.nd rfl (Or.inl rfl) (dv 3)) (zag (zal (i:=3) zhT.nd rfl (Or.inl rfl) (zaq zj0 hr (zaa (dv 2) (zaa (dv 0) (zaa (dv 1) zac)))))))) (zag (zak (dv 2))))))),λds S Q ex h=>by
  unfold zeT at h
  split at h
  ·rename_i N n
   obtain⟨⟨n2,n6,h0,sN⟩,h⟩:=h
   have hn:1≤n.toNat:=by omega
   refine ifD (λc=>?_) (λc=>?_)
   ·subst c
    exact h 0 (by omega) (Sz.of 0 (by decide)) (by rw[zho hn]; omega) (by
     have:(0:Int)<(0+1)^n.toNat:=Vax (by omega)
     exact this)
   ·obtain⟨r,r0,r1,r2⟩:=zoJ hn h0
    have rp:1≤r:=by
     by_cases z:r=0
     ·subst z
      have e:((0:Int)+1)^n.toNat=1:=by rw[Int.zero_add]; exact Int.one_pow
      omega
     ·omega
    refine⟨(Sz.of (n:=800) 6 (by omega):Sz 800 n).fd (by omega),?_⟩
    have d3:=Int.ediv_nonneg (show (0:Int)≤(Builtin.Int.intBits N:Int) by omega) (show 0≤n by omega)
    have d4:(Builtin.Int.intBits N:Int)/n≤(Builtin.Int.intBits N:Int):=Int.ediv_le_self _ (by omega)
    have d5:=sN.bits
    refine⟨⟨by omega,by omega,by decide⟩,?_⟩
    have s0:=(zwv n2 sN).mono (show 652≤800 by decide)
    have g0:(0:Int)<1*2^((Builtin.Int.intBits N:Int)/n+1).toNat:=by rw[Int.one_mul]; exact Vax (by decide)
    have rg:r≤1*2^((Builtin.Int.intBits N:Int)/n+1).toNat:=by
     have:=plt (n:=n.toNat) (Vaf g0) (Int.lt_of_le_of_lt r1 (zsx h0 (by omega)))
     omega
    refine⟨⟨n2,n6,g0,s0⟩,?_⟩
    refine⟨λm dl' S'=>S'=S∧∃x:Int,dl'=[some (.int N),some (.int n),some (.int x),some (.int (((n-1)*x+N/x^(n-1).toNat)/n))]∧0<x∧r≤x∧Sz 800 x∧m=x.toNat,⟨_,rfl,_,rfl,g0,rg,s0,rfl⟩,?_⟩
    rintro m dl' S' ⟨rfl,x,rfl,x0,rx,sx,rfl⟩
    have e:=zsv (n:=n) (g:=x) (N:=N) (by omega)
    have ge:=zrp hn r0 x0 r1
    rw[← e] at ge
    refine ifD (λc=>?_) (λc=>?_)
    ·have s1:Sz 800 (((n-1)*x+N/x^(n-1).toNat)/n):=Sz.mid (a:=0) (Sz.of 0 (by decide)) sx (by omega) (by omega)
     exact⟨⟨n2,n6,by omega,s1⟩,_,by omega,rfl,_,rfl,by omega,by omega,s1,rfl⟩
    ·have xr:x=r:=by
      by_cases z:N<x^n.toNat
      ·have lt:=zsU hn x0 z
       rw[← e] at lt
       omega
      ·have:=plt (n:=n.toNat) (show 0≤r+1 by omega) (show x^n.toNat<(r+1)^n.toNat by omega)
       omega
     subst xr
     exact h x r0 sx r1 r2
  ·exact h.elim⟩)
def zvv (zcR:Df K mg "root" zg1 zcY)(zbH:Fk P w K mg base 1 "raised" zda zc4)(ze1:Fk P w K mg base 3 "root_below" zeV zeT)(zcl:Fk P w K mg base 1 "opposite" zdE zdI)(zoi:Fk P w K mg base 0 "root" zcY zqY):Fk P w K mg base 4 "root" zcY zgI:=
 zcR.mk' (zax (k:=3) zcR.F zjR zq3 λcdv A outer s H E hr=>⟨_,(zae (zau (zar zbo (dv 0) zab (zap _)) (zag (zak (zaq zcl hr (zaa (zn2 zoi (hr.mono (by decide)) zcE rfl (zaa (zaZ za0 (dv 0)) (zaa (dv 1) zac))) zac)))) zav) (zae (zal (i:=2) zjR.nd rfl (Or.inl rfl) (zaq ze1 hr (zaa (dv 0) (zaa (dv 1) zac)))) (zae (zau (zar (zaI hr) (zaq zbH hr (zaa (dv 2) (zaa (dv 1) zac))) (dv 0) (zap _)) (zag (zak (zay (zaa (dv 2) (zaa (dv 2) zac))))) zav) (zag (zak (zay (zaa (dv 2) (zaa (zaf zaY (dv 2) zab) zac)))))))),λds S Q ex h=>by
  unfold zgI at h
  split at h
  ·rename_i N n
   obtain⟨⟨n2,n6,h0,sN⟩,h⟩:=h
   refine ifD (λc=>absurd c (by omega)) (λc=>?_)
   refine⟨⟨n2,n6,h0,sN⟩,λr r0 sr r1 r2=>?_⟩
   have e:=zeC r0 r1 r2
   unfold rt0 at h
   rw[← e] at h
   refine⟨⟨by omega,n6,sr.mono (by decide)⟩,?_⟩
   refine ifD (λe2=>?_) (λe2=>?_)
   ·rw[if_pos e2] at h
    exact h
   ·rw[if_neg e2] at h
    exact h
  ·exact h.elim⟩)
def ztj (zcR:Df K mg "root" zg1 zcY)(zbH:Fk P w K mg base 1 "raised" zda zc4)(ze1:Fk P w K mg base 3 "root_below" zeV zeT)(zcl:Fk P w K mg base 1 "opposite" zdE zdI)(zoi:Fk P w K mg base 4 "root" zcY zgI):Fk P w K mg base 5 "root" zcY zgy:=
 zcR.mk' (zax (k:=4) zcR.F zjR zya λcdv A outer s H E hr=>⟨_,(zae (zau (zar zbo (dv 0) zab (zap _)) (zag (zak (zaq zcl hr (zaa (zn2 zoi (hr.mono (by decide)) zcE rfl (zaa (zaZ za0 (dv 0)) (zaa (dv 1) zac))) zac)))) zav) (zae (zal (i:=2) zjR.nd rfl (Or.inl rfl) (zaq ze1 hr (zaa (dv 0) (zaa (dv 1) zac)))) (zae (zau (zar (zaI hr) (zaq zbH hr (zaa (dv 2) (zaa (dv 1) zac))) (dv 0) (zap _)) (zag (zak (zay (zaa (dv 2) (zaa (dv 2) zac))))) zav) (zag (zak (zay (zaa (dv 2) (zaa (zaf zaY (dv 2) zab) zac)))))))),λds S Q ex h=>by
  unfold zgy at h
  split at h
  ·rename_i N n
   obtain⟨⟨n2,n6,ok,sN⟩,h⟩:=h
   unfold rtS at h
   refine ifD (λc=>?_) (λc=>?_)
   ·rw[if_pos c] at h
    exact⟨⟨n2,n6,by omega,sN.neg⟩,h⟩
   ·have h0:0≤N:=by omega
    rw[if_neg c] at h
    refine⟨⟨n2,n6,h0,sN⟩,λr r0 sr r1 r2=>?_⟩
    have e:=zeC r0 r1 r2
    unfold rt0 at h
    rw[← e] at h
    refine⟨⟨by omega,n6,sr.mono (by decide)⟩,?_⟩
    refine ifD (λe2=>?_) (λe2=>?_)
    ·rw[if_pos e2] at h
     exact h
    ·rw[if_neg e2] at h
     exact h
  ·exact h.elim⟩)
def zr5  (zjz:Df K mg "back_power" zmC zf2)(zei:Fk P w K mg base 2 "joined" zeM zfD)(zdf:Fk P w K mg base 1 "part_between" zfB zfc)(zcl:Fk P w K mg base 1 "opposite" zdE zdI)(zfl:Fk P w K mg base 5 "root" zcY zgy)(zbH:Fk P w K mg base 1 "raised" zda zc4)(zaE:mg "max"=none):Fk P w K mg base 6 "back_power" zf2 zgn:=
 zjz.mk' (zax (k:=5) zjz.F zgO (zu6) λcdv A outer s H E hr=>⟨_,(zae (zal (i:=4) zgO.nd rfl (Or.inl rfl) (zaq zbH hr (zaa (dv 3) (zaa (zaf zbf (dv 2) zab) zac)))) (zae (zal (i:=5) zgO.nd rfl (Or.inl rfl) (zay (zaa (zaf zaN (zad (dv 0) zab (λ_ _=>rfl)) (dv 4)) (zaa (zaf zaN (zad (dv 0) zab (λ_ _=>rfl)) (dv 4)) zac)))) (zae (zau (zar (zaI hr) (zaf zba (dv 2) zab) zab (zap _)) (zag (zak (zaq zdf hr (zaa (dv 1) (zaa (zaq zfl hr (zaa (zad (dv 5) zab (λ_ _=>rfl)) (zaa (dv 2) zac))) (zaa (zaq zfl hr (zaa (zad (dv 5) zab (λ_ _=>rfl)) (zaa (dv 2) zac))) zac)))))) zav) (zae (zau (zar zbo (zad (dv 5) zab (λ_ _=>rfl)) zab (zap _)) (zag (zak zaK)) zav) (zae (zal (i:=6) zgO.nd rfl (Or.inl rfl) (zaq zfl hr (zaa (zaF (zbl rfl) rfl zaE Boot.«max» (zaa (zad (dv 5) zab (λ_ _=>rfl)) (zaa zab zac))) (zaa (dv 2) zac)))) (zae (zal (i:=7) zgO.nd rfl (Or.inl rfl) (zaq zfl hr (zaa (zad (dv 5) zab (λ_ _=>rfl)) (zaa (dv 2) zac)))) (zag (zak (zaq zei hr (zaa (zaq zdf hr (zaa (dv 1) (zaa (dv 6) (zaa (dv 7) zac)))) (zaa (zaq zdf hr (zaa (dv 1) (zaa (zaq zcl hr (zaa (dv 7) zac)) (zaa (zaq zcl hr (zaa (dv 6) zac)) zac)))) zac))))))))))),λds S Q ex h=>by
  unfold zgn at h
  split at h
  ·rename_i z0 z1 x0 x1 n g
   obtain⟨⟨n2,n6,g1,sg,sz0,sz1⟩,hn,ht⟩:=h
   refine⟨⟨by omega,by omega,sg.mono (by decide)⟩,?_⟩
   have sgp:Sz 181 (g^(n-1).toNat):=(sg.pow _).mono (by omega)
   refine⟨zaG sz0 sgp,zaG sz1 sgp,?_⟩
   have slo:Sz 1300 (z0*g^(n-1).toNat):=(sz0.mul sgp).mono (by decide)
   have shi:Sz 1300 (z1*g^(n-1).toNat):=(sz1.mul sgp).mono (by decide)
   unfold bpS at hn ht
   dsimp only at hn ht
   generalize g^(n-1).toNat=G at *
   refine ifD (λe=>?_) (λe=>?_)
   ·rw[if_pos e] at hn ht
    exact⟨⟨n2,n6,.inl e,slo⟩,⟨n2,n6,.inl e,shi⟩,hn,ht⟩
   ·rw[if_neg e] at hn ht
    refine ifD (λe2=>?_) (λe2=>?_)
    ·exact hn (if_pos e2)
    ·rw[if_neg e2] at hn ht
     refine⟨⟨n2,n6,.inr (zca _),(by show Sz 1300 (mx0 (z0*G)); unfold mx0; split; exact Sz.of 0 (by decide) (Nat.pow_pos (by decide)); exact slo)⟩,?_⟩
     refine⟨⟨n2,n6,.inr (by omega),shi⟩,?_⟩
     refine⟨λq1=>?_,λp1 q1=>?_⟩
     ·refine⟨λq2=>hn ?_,λp2 q2=>ht _ ?_⟩
      ·rw[q1,q2]; rfl
      ·rw[q1,q2]; rfl
     ·refine⟨λq2=>ht _ ?_,λp2 q2=>?_⟩
      ·rw[q1,q2]; rfl
      ·have z:=ht (if p2.1<p1.1 then p2.1 else p1.1,if p2.2 > p1.2 then p2.2 else p1.2) (by rw[q1,q2]; rfl)
       exact z
  ·exact h.elim⟩)
def zxp  (zam:zbF K mg)(zan:zbB K mg)(zao:zbD K mg)(zah:zbw K mg)(zaj:zbs K mg)(zai:zbu K mg)(zl9:Dm K zam.C "back" "Power.back" zlC zhJ)(zoV:Fk P w K mg base 6 "back_power" zf2 zgn):Fm P w K mg base 7 zam.C "back" zhJ (zfn zan.C zao.C zah.C zaj.C zai.C zam.C):=
 zl9.mk' (zax (k:=6) zl9.F zpl (zxu zan.C zao.C zah.C zaj.C zai.C zam.C) λcdv A outer s H E hr=>⟨_,(zae (zal (i:=4) zpl.nd rfl (Or.inl rfl) (zaq zoV hr (zaa (dv 2) (zaa (zaJ (dv 1) (zaV zam.cl zam.n_one (dv 0)) (λ_ _=>rfl)) (zaa (zaV zam.cl zam.n_many (dv 0)) (zaa (dv 3) zac)))))) (zae (zau (zar zbE (dv 4) zaK (zap _)) (zag (zak zaK)) zav) (zag (zak (za6 (zaa (zay (zaa (zaV zam.cl zam.n_one (dv 0)) (zaa (dv 4) zac))) zac)))))),λds S Q ex h=>by
  unfold zfn at h
  split at h
  ·rename_i n w z0 z1 g
   obtain⟨i,m,vs,q,hn,hw,ok,hs,⟨hz,sz0,sz1⟩,hg,h1,h2⟩:=h
   refine zaQ (n:=n) (λK hK=>by exact hK) hn rfl ?_
   refine zaA (o:=.lst (vs.map frD)) hw (zaP ok.1) ?_
   refine zaQ (n:=n) (λK hK=>by exact hK) hn rfl ?_
   have sg:Sz 30 g:=Sz.of 1000000 (by omega)
   refine⟨⟨ok.2.1,ok.2.2,hg.1,sg,sz0.mono (by decide),sz1.mono (by decide)⟩,λe=>?_,λx' e=>?_⟩
   ·refine h1 ?_
    show (match bpS (z0,z1) (gt vs i) m g with | none=>none | some x=>some [(i,x)])=none
    rw[show bpS (z0,z1) (gt vs i) m g=none from e]
   ·refine zaQ (n:=n) (λK hK=>by exact hK) hn rfl ?_
    refine h2 [(i,x')] ?_
    show (match bpS (z0,z1) (gt vs i) m g with | none=>none | some x=>some [(i,x)])=_
    rw[show bpS (z0,z1) (gt vs i) m g=some x' from e]
  ·exact h.elim⟩)
def zuw  (zam:zbF K mg)(zai:zbu K mg)(zaj:zbs K mg)(zah:zbw K mg)(zao:zbD K mg)(zan:zbB K mg)(zli:Df K mg "spans_back" zjv zgU)(zoA:Fm P w K mg base 7 zam.C "back" zhJ (zfn zan.C zao.C zah.C zaj.C zai.C zam.C))(zn5:Fm P w K mg base 6 zai.C "back" zh5 (ze3 zan.C zao.C zah.C zaj.C zai.C zam.C))(znr:Fm P w K mg base 3 zaj.C "back" zhg (zep zan.C zao.C zah.C zaj.C zai.C zam.C))(zoh:Fm P w K mg base 3 zah.C "back" zh0 (zex zan.C zao.C zah.C zaj.C zai.C zam.C))(zoj:Fm P w K mg base 1 zao.C "back" zg7 (zfh zan.C zao.C zah.C zaj.C zai.C zam.C))(zot:Fm P w K mg base 1 zan.C "back" zgt (zeY zan.C zao.C zah.C zaj.C zai.C zam.C))(zfk:Fk P w K mg base 3 "kind_of" zff (zfa zan.C zao.C zah.C zaj.C zai.C zam.C))(znP:Fk P w K mg base 2 "asked_of" zhf zgB)(znO:Fk P w K mg base 4 "worths" zhE zg9)(zbd:mg "range"=none):Fk P w K mg base 8 "spans_back" zgU zhA:=
 zli.mk' (zax (k:=7) zli.F zdL (zuP) λcdv A outer s H E hr=>⟨_,(zae (zal (i:=4) zdL.nd rfl (Or.inl rfl) (zad (dv 1) zab (λ_ _=>rfl))) (zae (zal (i:=5) zdL.nd rfl (Or.inl rfl) (zaq znO hr (zaa (zj4 (dv 0) zqP (zfd (zaf zaY (dv 4) zab))) (zaa (dv 2) (zaa (dv 3) zac))))) (zae (zal (i:=6) zdL.nd rfl (Or.inl rfl) (zaq znP hr (zaa (zad (dv 1) zab (λ_ _=>rfl)) (zaa (zaJ (dv 5) (dv 4) (λ_ _=>rfl)) zac)))) (zae (zau (zar zbE (dv 6) zaK (zap _)) (zag (zak zaK)) zav) (zae (zfC (dv 5) (dv 4) (dv 6)) (zae (zpO (i:=7) PassesOwn.never rfl zdL.nd rfl (Or.inl rfl) rfl zbd (zaa (dv 4) (zaa (zaZ za0 zab) (zaa (zaZ za0 zab) zac))) (zae (zal (i:=8) zdL.nd rfl (Or.inl rfl) (zo6 (zaq zfk hr (zaa (zaJ (dv 0) (dv 7) (λ_ _=>rfl)) zac)) (zcq zan.cl zot (hr.mono (by decide)) (zcq zao.cl zoj (hr.mono (by decide)) (zcq zah.cl zoh (hr.mono (by decide)) (zcq zaj.cl znr (hr.mono (by decide)) (zcq zai.cl zn5 (hr.mono (by decide)) (zcq zam.cl zoA (hr.mono (by decide)) zpR)))))) zcE (zaa (dv 5) (zaa (zaJ (dv 5) (dv 7) (λ_ _=>rfl)) (zaa (dv 3) zac))))) (zae (zau (zar zbE (dv 8) zaK (zap _)) (zag (zak zaK)) zav) (zag (zcO (i:=9) PassesOwn.never rfl zdL.nd rfl (Or.inl rfl) (dv 8) (zag (zfC (dv 5) (zad (dv 9) zab (λ_ _=>rfl)) (zad (dv 9) zab (λ_ _=>rfl))))))))) (zag (zak (dv 5))))))))),λds S Q ex h=>by
  unfold zhA at h
  split at h
  ·rename_i a w k b g
   obtain⟨ns,ws,bs,zero,ha,hb,hw,⟨k0,k1⟩,net,sb,hg,hl,h1,h2⟩:=h
   have disp:∀v:Nd,∃C fs sd,v.ob zan.C zao.C zah.C zaj.C zai.C zam.C=.ins C fs∧(C,sd)∈[(zan.C,zeY zan.C zao.C zah.C zaj.C zai.C zam.C),(zao.C,zfh zan.C zao.C zah.C zaj.C zai.C zam.C),(zah.C,zex zan.C zao.C zah.C zaj.C zai.C zam.C),(zaj.C,zep zan.C zao.C zah.C zaj.C zai.C zam.C),(zai.C,ze3 zan.C zao.C zah.C zaj.C zai.C zam.C),(zam.C,zfn zan.C zao.C zah.C zaj.C zai.C zam.C)]∧fs.lookup ("back":Str)=none∧∀(n w:Nat) (z:Int×Int) (g q:Int) (S:Sto) (Q:DK) (ex:Addr→Sto→Prop) (vs:List (Int×Int)),S[n]?=some (v.ob zan.C zao.C zah.C zaj.C zai.C zam.C)→S[w]?=some (.lst (vs.map frD))→v.ok vs.length q→Spn 1000 vs→(z.1≤z.2∧Sz 1000 z.1∧Sz 1000 z.2)→(1≤g∧g≤1000000)→(v.bk vs z g=none→Q .non S)→(∀l,v.bk vs z g=some l→Q (.ref S.length) (S++[.lst (l.map ptD)]))→sd [.ref n,.ref w,frD z,.int g] S Q ex:=by
    intro v
    cases v with
    | number x y=>exact⟨_,_,_,rfl,(.head _),rfl,λn w z g q S Q ex vs a1 a2 a3 a4 a5 a6 q1 q2=>⟨x,y,vs,q,a1,a2,a3,a4,a5,a6,q1,q2⟩⟩
    | unknown k=>exact⟨_,_,_,rfl,(.tail _ (.head _)),rfl,λn w z g q S Q ex vs a1 a2 a3 a4 a5 a6 q1 q2=>⟨k,vs,q,a1,a2,a3,a4,a5,a6,q1,q2⟩⟩
    | plus i j=>exact⟨_,_,_,rfl,(.tail _ (.tail _ (.head _))),rfl,λn w z g q S Q ex vs a1 a2 a3 a4 a5 a6 q1 q2=>⟨i,j,vs,q,a1,a2,a3,a4,a5,a6,q1,q2⟩⟩
    | minus i j=>exact⟨_,_,_,rfl,(.tail _ (.tail _ (.tail _ (.head _)))),rfl,λn w z g q S Q ex vs a1 a2 a3 a4 a5 a6 q1 q2=>⟨i,j,vs,q,a1,a2,a3,a4,a5,a6,q1,q2⟩⟩
    | times i j=>exact⟨_,_,_,rfl,(.tail _ (.tail _ (.tail _ (.tail _ (.head _))))),rfl,λn w z g q S Q ex vs a1 a2 a3 a4 a5 a6 q1 q2=>⟨i,j,vs,q,a1,a2,a3,a4,a5,a6,q1,q2⟩⟩
    | power i m=>exact⟨_,_,_,rfl,(.tail _ (.tail _ (.tail _ (.tail _ (.tail _ (.head _)))))),rfl,λn w z g q S Q ex vs a1 a2 a3 a4 a5 a6 q1 q2=>⟨i,m,vs,q,a1,a2,a3,a4,a5,a6,q1,q2⟩⟩
   obtain⟨kn,rfl⟩:∃kn:Nat,k=(kn:Int):=⟨k.toNat,by omega⟩
   rw[Vat] at h1 h2
   have hk:kn<ns.length:=by omega
   refine zle (n:=a) (o:=.lst (ns.map Nd.d)) (lo:=none) (hi:=some ((kn:Int)+1)) (S3:=S) (λK hK=>by exact hK) (λK hK=>by exact hK) (λK hK=>by exact hK) ha ?_
   have ec:zbv (ns.map Nd.d) none (some ((kn:Int)+1))=(ns.take (kn+1)).map Nd.d:=by
    rw[zqV (by omega) (by rw[Vaa]; omega),List.map_take]
    rfl
   rw[show zat (Ob.lst (ns.map Nd.d))=ns.map Nd.d from rfl,ec]
   refine⟨ns.take (kn+1),ws.take (kn+1),bs,zaB _ _,zaH hb,net.take _,sb,hg,by rw[Var]; omega,λT m pr lm hf=>?_⟩
   have prS:Pre S T:=λn o e=>pr n o (zaH e)
   have lm':S.length≤m:=by
    have z:(S++[Ob.lst ((ns.take (kn+1)).map Nd.d)]).length≤m:=lm
    rw[Vay] at z
    omega
   have s1:Spn 1000 (zaC bs g (ns.take (kn+1))):=zd7 net rfl sb hg (kn+1) (by omega)
   have l1:(zaC bs g (ns.take (kn+1))).length=kn+1:=by rw[zc5,Var]; omega
   have ik:inR (((zaC bs g (ns.take (kn+1))).length:Nat):Int) (kn:Int):=⟨by omega,by omega⟩
   have a1:=s1.at ik
   refine zaA (o:=.lst ((zaC bs g (ns.take (kn+1))).map frD)) hf (zaP ik) ?_
   refine⟨zero,hw,λe=>?_,λwd e=>?_⟩
   ·refine h1 ?_ T prS
    unfold sbS
    rw[show zc2 zero (gt (zaC bs g (ns.take (kn+1))) (kn:Int))=none from e]
   have es:sbS ns zero kn bs g=zb9 g ns (kn+1) ((zaC bs g (ns.take (kn+1))).set kn wd):=by
    unfold sbS
    rw[show zc2 zero (gt (zaC bs g (ns.take (kn+1))) (kn:Int))=some wd from e]
   have zw:=Sz.in2 a1.2.1 a1.2.2 (zlM wd e)
   refine zdM (n:=m) (k:=(kn:Int)) (j:=kn) (xs:=(zaC bs g (ns.take (kn+1))).map frD) (v:=frD wd) (λK hK=>by exact hK) (λK hK=>by exact hK) (λK hK=>by exact hK) hf (by rw[Vaa,zdJ ik]; rfl) ?_
   rw[ze5]
   refine⟨rfl,⟨by omega,by omega,by omega,by omega⟩,λt dl' S'=>t≤kn+1∧Pre S S'∧∃us:List (Int×Int),S'[m]?=some (.lst (us.map frD))∧us.length=kn+1∧Spn 1000 us∧zb9 g ns (kn+1-t) us=sbS ns zero kn bs g∧∃u7 u8 u9:Option D,dl'=[some (.ref a),some (.tup [.str w,.int (kn:Int)]),some (.ref b),some (.int g),some (.int (kn:Int)),some (.ref m),some (frD wd),u7,u8,u9],⟨by omega,zby prS lm',_,zbm hf,by rw[VaG]; exact l1,s1.set2 zw,es.symm,_,_,_,rfl⟩,?_⟩
   rintro t dl' S' ⟨ht,prt,us,hu,lu,su,eb,u7,u8,u9,rfl⟩
   refine zey (λtc=>?_) (λtc=>?_)
   ·have tc':t<kn+1:=by
     have z:t<((kn:Int) - -1).toNat:=tc
     omega
    obtain⟨j,ej⟩:∃j:Nat,kn=j+t:=⟨kn-t,by omega⟩
    have en:(kn:Int)-(t:Int)=(j:Int):=by omega
    have ek:kn+1-t=j+1:=by omega
    have hv:ns[j]?=some ns[j]:=Vam (by omega)
    generalize ns[j]=v at hv
    have ok:v.ok us.length bs.length:=zom (by omega) (net.ok j v hv).1
    have ij:inR ((us.length:Nat):Int) (j:Int):=⟨by omega,by omega⟩
    obtain⟨C,fs,sd,eo,hm,hf2,go⟩:=disp v
    have N1:=zaB S' (v.ob zan.C zao.C zah.C zaj.C zai.C zam.C)
    rw[en]
    rw[ek] at eb
    refine zqS (n:=S'.length) (C:=C) (sd:=sd) (fs:=fs) (S1:=S'++[v.ob zan.C zao.C zah.C zaj.C zai.C zam.C]) (λK hK=>?_) (by rw[← eo]; exact N1) hm hf2 ?_
    ·refine zaA (o:=.lst (ns.map Nd.d)) (prt _ _ ha) (zgJ hv) ?_
     exact⟨v,rfl,by exact hK⟩
    refine zaA (o:=.lst (us.map frD)) (zaH hu) (zaP ij) ?_
    refine go _ _ (gt us (j:Int)) _ bs.length _ _ _ us N1 (zaH hu) ok su (su.at ij) hg (λe=>?_) (λl e=>?_)
    ·refine h1 ?_ _ (zbz prt _)
     rw[← eb,znD hv e]
    have P:=v.bk_pts su (su.at ij).1 hg.1 l ok e
    rw[znY hv e] at eb
    have lS:m<S'.length:=zcg hu
    refine zb6 (n:=(S'++[v.ob zan.C zao.C zah.C zaj.C zai.C zam.C]).length) (o:=.lst (l.map ptD)) (λi dl2 S2=>i≤l.length∧Pre S S2∧S2[m]?=some (.lst ((zbN us (l.take i)).map frD))∧S2[(S'++[v.ob zan.C zao.C zah.C zaj.C zai.C zam.C]).length]?=some (.lst (l.map ptD))∧∃u9:Option D,dl2=[some (.ref a),some (.tup [.str w,.int (kn:Int)]),some (.ref b),some (.int g),some (.int (kn:Int)),some (.ref m),some (frD wd),some (.int (j:Int)),some (.ref (S'++[v.ob zan.C zao.C zah.C zaj.C zai.C zam.C]).length),u9]) ⟨Vau _,zbz (zbz prt _) _,zaH (zaH hu),zaB _ _,_,rfl⟩ (λi dl2 S2 z=>z.2.2.2.1) ?_ ?_
    ·rintro i x dl2 S2 nx ct ex' ⟨hi,pr2,hu2,hl2,u9,rfl⟩ hn
     have ex2:(l.map ptD)[i]?=some x:=ex'
     rw[Vae] at ex2
     obtain⟨p,hp,rfl⟩:=Vah.mp ex2
     have hi':=(Vac.mp hp).1
     have Pp:=P.2 p (Vaj hp)
     have ipp:inR (((zbN us (l.take i)).length:Nat):Int) p.1:=by rw[zd0]; exact Pp.1
     refine zdM (n:=m) (k:=p.1) (j:=p.1.toNat) (xs:=(zbN us (l.take i)).map frD) (v:=frD p.2) (λK hK=>by exact hK) (λK hK=>by exact hK) (λK hK=>by exact hK) hu2 (by rw[Vaa]; exact zdJ ipp) ?_
     rw[ze5,← zpg,← zbL hp]
     refine hn _ _ ⟨by omega,zby pr2 lm',zbm hu2,zbq hl2 (by rw[Vay]; omega),_,rfl⟩
    ·rintro dl2 S2 ⟨hi,pr2,hu2,hl2,u9,rfl⟩
     have e9:l.take (zat (Ob.lst (l.map ptD))).length=l:=by
      show l.take (l.map ptD).length=l
      rw[Vaa,VaM]
     rw[e9] at hu2
     refine⟨by omega,pr2,_,hu2,by rw[zd0]; exact lu,zmD l us su λp hp=>(P.2 p hp).2,?_,_,_,_,rfl⟩
     rw[show kn+1-(t+1)=j by omega]
     exact eb
   ·have tc':¬ t<kn+1:=λz=>tc (show t<((kn:Int) - -1).toNat by omega)
    rw[show kn+1-t=0 by omega] at eb
    exact h2 us S' m eb.symm prt lm' hu
  ·exact h.elim⟩)
def zt6  (zjT:Df K mg "narrowed" zir zgj)(znF:Fk P w K mg base 8 "spans_back" zgU zhA)(zds:mg "enumerate"=none)(zbA:mg "list"=none):Fk P w K mg base 9 "narrowed" zgj zhU:=
 zjT.mk' (zax (k:=8) zjT.F zhX (zun) λcdv A outer s H E hr=>⟨_,(zae (zal (i:=4) zhX.nd rfl (Or.inl rfl) (zaq znF hr (zaa (dv 0) (zaa (dv 1) (zaa (dv 2) (zaa (dv 3) zac)))))) (zae (zau (zar zbE (dv 4) zaK (zap _)) (zag (zak zaK)) zav) (zae (zal (i:=5) zhX.nd rfl (Or.inl rfl) (zjA (zbg zm5) rfl zbA Boot.«list» (zaa (dv 2) zac))) (zae (zsb (is:=[6,7]) PassesOwn.never rfl zhX.nd (Nms.cons (i:=6) rfl (Or.inl rfl) (by first | exact .inl rfl | exact .inr rfl) (Nms.cons (i:=7) rfl (Or.inl rfl) (by first | exact .inl rfl | exact .inr rfl) Nms.nil)) rfl rfl zds Boot.«enumerate» (zaa (dv 4) zac) (zae (zal (i:=8) zhX.nd rfl (Or.inl rfl) (zaJ (dv 0) (dv 6) (λ_ _=>rfl))) (zag (zau (zar (zaI hr) (zad (dv 8) zab (λ_ _=>rfl)) zaL (zap _)) (zag (zfC (dv 5) (zad (dv 8) zab (λ_ _=>rfl)) (dv 7))) zav)))) (zag (zak (dv 5))))))),λds S Q ex h=>by
  unfold zhU at h
  split at h
  ·rename_i a w k b g
   obtain⟨ns,ws,bs,zero,ha,hb,hw,⟨k0,k1⟩,net,sb,hg,hl,h1,h2⟩:=h
   obtain⟨kn,rfl⟩:∃kn:Nat,k=(kn:Int):=⟨k.toNat,by omega⟩
   rw[Vat] at h1 h2
   refine⟨ns,ws,bs,zero,ha,hb,hw,⟨k0,k1⟩,net,sb,hg,hl,?_,?_⟩
   ·rw[Vat]
    intro e T pr
    exact h1 (by unfold nwS; rw[e]; rfl) T pr
   ·rw[Vat]
    intro us T m e pr lm hu
    have lu:=zwt net sb hg (show kn<ns.length by omega) e
    have lz:(ns.zip us).length=kn+1:=by rw[List.length_zip]; omega
    have en:nwS ns zero kn bs g=some (zbk bs (ns.zip us)):=by unfold nwS; rw[e]; rfl
    have lS:m<T.length:=zcg hu
    refine zjc (za9 (pr _ _ hb) rfl) ?_
    refine zsE (n:=m) (xs:=us.map frD) (S1:=T++[.lst (bs.map frD)]) (λi dl' S'=>i≤us.length∧Pre S S'∧S'[m]?=some (.lst (us.map frD))∧S'[T.length]?=some (.lst ((zbk bs ((ns.zip us).take i)).map frD))∧∃u6 u7 u8:Option D,dl'=[some (.ref a),some (.tup [.str w,.int (kn:Int)]),some (.ref b),some (.int g),some (.ref m),some (.ref T.length),u6,u7,u8]) (λK hK=>by exact hK) (λi dl' S' z=>z.2.2.1) ⟨Vau _,zbz pr _,zaH hu,zaB _ _,_,_,_,rfl⟩ ?_ ?_
    ·rintro i x dl' S' nx ct ex' ⟨hi,pr',hu',hl',u6,u7,u8,rfl⟩ hn
     rw[Vae] at ex'
     obtain⟨p,hp,rfl⟩:=Vah.mp ex'
     have hi':=(Vac.mp hp).1
     have hv:ns[i]?=some ns[i]:=Vam (by omega)
     generalize ns[i]=v at hv
     have hz:=zqg hv hp
     have lp:=(zo2 net rfl (us:=us) (bs:=bs) (λ_ _=>True) (λ_ _=>trivial) (λ_ _ _ _=>trivial) i (by omega)).1
     have es:zbk bs ((ns.zip us).take (i+1))=match v with
      | .unknown u=>(zbk bs ((ns.zip us).take i)).set u.toNat p
      | _=>zbk bs ((ns.zip us).take i):=by
      rw[zbL hz,znf]
      cases v <;> rfl
     have okv:=(net.ok i v hv).1
     refine zaA (o:=.lst (ns.map Nd.d)) (pr' _ _ ha) (zgJ hv) ?_
     cases v with
     | unknown u=>
      have oku:inR (((zbk bs ((ns.zip us).take i)).length:Nat):Int) u:=by rw[lp]; exact okv
      refine zdM (n:=T.length) (k:=u) (j:=u.toNat) (xs:=(zbk bs ((ns.zip us).take i)).map frD) (v:=frD p) (λK hK=>by exact hK) (λK hK=>by exact hK) (λK hK=>by exact hK) hl' (by rw[Vaa]; exact zdJ oku) ?_
      rw[ze5]
      refine hn _ _ ⟨by omega,zby pr' (by omega),zbq hu' (by omega),?_,_,_,_,rfl⟩
      rw[es]
      exact zbm hl'
     | number _ _=>exact hn _ _ ⟨by omega,pr',hu',by rw[es]; exact hl',_,_,_,rfl⟩
     | plus _ _=>exact hn _ _ ⟨by omega,pr',hu',by rw[es]; exact hl',_,_,_,rfl⟩
     | minus _ _=>exact hn _ _ ⟨by omega,pr',hu',by rw[es]; exact hl',_,_,_,rfl⟩
     | times _ _=>exact hn _ _ ⟨by omega,pr',hu',by rw[es]; exact hl',_,_,_,rfl⟩
     | power _ _=>exact hn _ _ ⟨by omega,pr',hu',by rw[es]; exact hl',_,_,_,rfl⟩
    ·rintro dl' S' ⟨hi,pr',hu',hl',u6,u7,u8,rfl⟩
     rw[Vaa,List.take_of_length_le (by omega)] at hl'
     exact h2 _ S' T.length en pr' (by omega) hl'
  ·exact h.elim⟩)
def zuI  (zlZ:Df K mg "_law_meet" zkI zft)(zaS:mg "min"=none)(zaE:mg "max"=none):Fk P w K mg base 1 "_law_meet" zft zeL:=
 zlZ.mk' (zax (k:=0) zlZ.F zq8 (zsC) λcdv A outer s H E hr=>⟨_,(zae (zau (zar zb4 (zaF (zbl rfl) rfl zaE Boot.«max» (zaa (zad (dv 0) zab (λ_ _=>rfl)) (zaa (zad (dv 1) zab (λ_ _=>rfl)) zac))) (zaF (zcd rfl) rfl zaS Boot.«min» (zaa (zad (dv 0) zab (λ_ _=>rfl)) (zaa (zad (dv 1) zab (λ_ _=>rfl)) zac))) (zap _)) (zag (zak zaK)) zav) (zag (zak (zay (zaa (zaF (zbl rfl) rfl zaE Boot.«max» (zaa (zad (dv 0) zab (λ_ _=>rfl)) (zaa (zad (dv 1) zab (λ_ _=>rfl)) zac))) (zaa (zaF (zcd rfl) rfl zaS Boot.«min» (zaa (zad (dv 0) zab (λ_ _=>rfl)) (zaa (zad (dv 1) zab (λ_ _=>rfl)) zac))) zac)))))),λds S Q ex h=>by
  unfold zeL at h
  split at h
  ·rename_i a b c d
   obtain⟨h1,h2⟩:=h
   unfold zaT at h1 h2
   refine ifD (λe=>?_) (λe=>?_)
   ·exact h1 (if_pos e)
   ·exact h2 _ (if_neg e)
  ·exact h.elim⟩)
def zvE  (zmw:Df K mg "_law_hulled" zd8 zeG)(zaE:mg "max"=none)(zaS:mg "min"=none)(za2:mg "len"=none):Fk P w K mg base 1 "_law_hulled" zeG zeX:=
 zmw.mk' (zax (k:=0) zmw.F zqH (zvr) λcdv A outer s H E hr=>⟨_,(zae (znE (x:="_law_span_here") (N:=[]) (caps:=[]) (ar:=zas zd8) rfl rfl csc rfl (by decide) (i:=1) zqH.nd rfl rfl (dv 0) (λ_ _ _ _ _ _=>zvT (zar zga (dv 0) zaK (zap _))) (λ_ _ _ _ _ _=>(dv 0))) (zae (zau (zar (zaI hr) (zaF (zbg zcf) rfl za2 Boot.«len» (zaa (dv 1) zac)) zab (zap _)) (zag (zak zaK)) zav) (zag (zak (zay (zaa (zaF (zbg (zcd rfl)) rfl zaS Boot.«min» (zaa (zji (x:="_law_span_here") (N:=[]) (caps:=[]) (ar:=zas zd8) rfl rfl csc rfl (by decide) (dv 1) (λ_ _ _ _ _ _=>zcS) (λ_ _ _ _ _ _=>(zad (dv 0) zab (λ_ _=>rfl)))) zac)) (zaa (zaF (zbg (zbl rfl)) rfl zaE Boot.«max» (zaa (zji (x:="_law_span_here") (N:=[]) (caps:=[]) (ar:=zas zd8) rfl rfl csc rfl (by decide) (dv 1) (λ_ _ _ _ _ _=>zcS) (λ_ _ _ _ _ _=>(zad (dv 0) zab (λ_ _=>rfl)))) zac)) zac))))))),λds S Q ex h=>by
  unfold zeX at h
  split at h
  ·rename_i a
   obtain⟨os,ha,l10,h1,h2⟩:=h
   have io:zat (Ob.lst (os.map opD))=os.map opD:=rfl
   refine zvy (n:=a) (o:=.lst (os.map opD)) (S1:=S) zes (λx=>x) (λK hK=>by exact hK) ha (by rw[io,Vaa]; omega) (λx hx S2 K pr hK=>?_) (λx hx b S2 K pr hK=>by exact hK) ?_
   ·obtain⟨o,_,rfl⟩:=VaY.mp hx
    cases o <;> exact hK
   rw[io,zoP,List.map_id']
   have sp:=zn3 os
   have lf:=List.length_filterMap_le id os
   generalize os.filterMap id=ps at sp lf
   refine zcC (zaB _ _) ?_
   rw[Vaa]
   refine ifD (λe=>?_) (λe=>?_)
   ·have e0:ps=[]:=List.eq_nil_of_length_eq_zero (by omega)
    exact h1 (sp.1 e0) _ Pre.refl.push
   ·have ne:ps≠[]:=λz=>e (by rw[z]; rfl)
    obtain⟨L,U,eq,l1,l2,u1,u2⟩:=sp.2 ne
    have i1:zat (Ob.lst (ps.map frD))=ps.map frD:=rfl
    refine zfp (n:=S.length) (o:=.lst (ps.map frD)) (S1:=S++[.lst (ps.map frD)]) (λd=>match d with | .tup [x,_]=>x | d=>d) (λK hK=>by exact hK) (zaB _ _) (by rw[i1,Vaa]; omega) (λx hx S2 K pr hK=>?_) ?_
    ·obtain⟨p,_,rfl⟩:=VaY.mp hx
     exact hK
    have m1:(zat (Ob.lst (ps.map frD))).map (λd=>match d with | .tup [x,_]=>x | d=>d)=(ps.map (·.1)).map D.int:=by
     rw[i1,VaR,VaR]
     rfl
    rw[m1]
    refine zbC (xs:=ps.map λp:Int×Int=>p.1) (zaB _ _) (zow _) (by simpa using ne) λmn n1 n2=>?_
    have emn:mn=L:=by
     have a1:=l2 mn n1
     have a2:mn≤L:=n2 L l1
     omega
    subst emn
    refine zfp (n:=S.length) (o:=.lst (ps.map frD)) (S1:=S++[.lst (ps.map frD)]++[.lst ((ps.map (·.1)).map D.int)]) (λd=>match d with | .tup [_,x]=>x | d=>d) (λK hK=>by exact hK) (zaH (zaB _ _)) (by rw[i1,Vaa]; omega) (λx hx S2 K pr hK=>?_) ?_
    ·obtain⟨p,_,rfl⟩:=VaY.mp hx
     exact hK
    have m2:(zat (Ob.lst (ps.map frD))).map (λd=>match d with | .tup [_,x]=>x | d=>d)=(ps.map (·.2)).map D.int:=by
     rw[i1,VaR,VaR]
     rfl
    rw[m2]
    refine zbC (xs:=ps.map λp:Int×Int=>p.2) (zaB _ _) (zow _) (by simpa using ne) λmx x1 x2=>?_
    have emx:mx=U:=by
     have a1:=u2 mx x1
     have a2:mx≥U:=x2 U u1
     omega
    subst emx
    exact h2 _ eq _ (λn o q=>zaH (zaH (zaH q)))
  ·exact h.elim⟩)
def zrV  (zm0:Df K mg "_law_kept" zkZ zh2)(zaS:mg "min"=none)(zaE:mg "max"=none):Fk P w K mg base 1 "_law_kept" zh2 zgk:=
 zm0.mk' (zax (k:=0) zm0.F zhu (zrm) λcdv A outer s H E hr=>⟨_,(zae (zal (i:=2) zhu.nd rfl (Or.inl rfl) (zad (dv 0) zab (λ_ _=>rfl))) (zae (zal (i:=3) zhu.nd rfl (Or.inl rfl) (zad (dv 0) zab (λ_ _=>rfl))) (zae (zau (zar zga (zad (dv 1) zab (λ_ _=>rfl)) zaK (zap _)) (zae (zau (zar zb4 (zad (zad (dv 1) zab (λ_ _=>rfl)) zab (λ_ _=>rfl)) (zaf zaN (zad (dv 0) zab (λ_ _=>rfl)) (zad (zad (dv 1) zab (λ_ _=>rfl)) zab (λ_ _=>rfl))) (zap _)) (zag (zak zaK)) zav) (zag (zal (i:=2) zhu.nd rfl (Or.inl rfl) (zaF (zbl rfl) rfl zaE Boot.«max» (zaa (dv 2) (zaa (zaf zbi (zad (zad (dv 1) zab (λ_ _=>rfl)) zab (λ_ _=>rfl)) (zad (zad (dv 1) zab (λ_ _=>rfl)) zab (λ_ _=>rfl))) zac)))))) zav) (zae (zau (zar zga (zad (dv 1) zab (λ_ _=>rfl)) zaK (zap _)) (zae (zau (zar zbo (zad (zad (dv 1) zab (λ_ _=>rfl)) zab (λ_ _=>rfl)) (zaf zaN (zad (dv 0) zab (λ_ _=>rfl)) (zad (zad (dv 1) zab (λ_ _=>rfl)) zab (λ_ _=>rfl))) (zap _)) (zag (zak zaK)) zav) (zag (zal (i:=3) zhu.nd rfl (Or.inl rfl) (zaF (zcd rfl) rfl zaS Boot.«min» (zaa (dv 3) (zaa (zaZ za0 (zaf zbi (zaZ za0 (zad (zad (dv 1) zab (λ_ _=>rfl)) zab (λ_ _=>rfl))) (zad (zad (dv 1) zab (λ_ _=>rfl)) zab (λ_ _=>rfl)))) zac)))))) zav) (zag (zak (zay (zaa (dv 2) (zaa (dv 3) zac))))))))),λds S Q ex h=>by
  unfold zgk at h
  split at h
  ·rename_i x0 x1 d
   obtain⟨l,hh,rfl,⟨s0,s1⟩,hl,hb,h1,h2⟩:=h
   unfold kpS at h1 h2
   cases l with
   | none=>cases hh with
    | none=>exact h2 (x0,x1) rfl
    | some b=>
     obtain⟨b0,sb⟩:=hb b rfl
     dsimp only at h1 h2
     refine⟨zaG s0 sb,?_⟩
     refine ifD (λc=>h1 (if_pos c)) (λc=>?_)
     refine⟨sb.fd b0,?_⟩
     exact h2 _ (if_neg c)
   | some a=>
    obtain⟨a0,sa⟩:=hl a rfl
    dsimp only at h1 h2
    refine⟨zaG s1 sa,?_⟩
    refine ifD (λc=>?_) (λc=>?_)
    ·rw[if_pos c] at h1
     exact h1 rfl
    rw[if_neg c] at h1 h2
    refine⟨sa.fd a0,?_⟩
    cases hh with
    | none=>exact h2 _ rfl
    | some b=>
     obtain⟨b0,sb⟩:=hb b rfl
     dsimp only at h1 h2
     refine⟨zaG s0 sb,?_⟩
     refine ifD (λd=>h1 (if_pos d)) (λd=>?_)
     refine⟨sb.fd b0,?_⟩
     exact h2 _ (if_neg d)
  ·exact h.elim⟩)
def zxf  (zm2:Df K mg "_law_pieces" zkG zgr)(zbh:mg "abs"=none):Fk P w K mg base 1 "_law_pieces" zgr zgc:=
 zm2.mk' (zax (k:=0) zm2.F zb8 (zvq) λcdv A outer s H E hr=>⟨_,(zae (zau (PDW.pt (zcz (zar zb4 (zad (dv 2) zab (λ_ _=>rfl)) zab (zap _)) (zcM (zar zbo (zad (dv 2) zab (λ_ _=>rfl)) zab (zap _))))) (zae (zal (i:=3) zb8.nd rfl (Or.inl rfl) (za6 zac)) (zae (zcO (i:=4) PassesOwn.never rfl zb8.nd rfl (Or.inl rfl) (za6 (zaa (dv 0) (zaa (dv 1) zac))) (zag (zcO (i:=5) PassesOwn.never rfl zb8.nd rfl (Or.inl rfl) (za6 (zaa (zad (dv 2) zab (λ_ _=>rfl)) (zaa (zad (dv 2) zab (λ_ _=>rfl)) zac))) (zag (zbV (zbX (dv 3) (zcG (zar zb4 (dv 5) zab (zap _)) (zay (zaa (dv 4) (zaa (dv 5) zac))) (zay (zaa (zaZ za0 (dv 4)) (zaa (zaZ za0 (dv 5)) zac)))))))))) (zae (zal (i:=6) zb8.nd rfl (Or.inl rfl) (zaJ (dv 3) zab (λ_ _=>rfl))) (zae (zal (i:=7) zb8.nd rfl (Or.inl rfl) (zaJ (dv 3) zab (λ_ _=>rfl))) (zae (zcO (i:=8) PassesOwn.never rfl zb8.nd rfl (Or.inl rfl) (dv 3) (zae (zau (zar zbo (zaf zaN (zad (dv 8) zab (λ_ _=>rfl)) (zad (dv 6) zab (λ_ _=>rfl))) (zaf zaN (zad (dv 6) zab (λ_ _=>rfl)) (zad (dv 8) zab (λ_ _=>rfl))) (zap _)) (zag (zal (i:=6) zb8.nd rfl (Or.inl rfl) (dv 8))) zav) (zag (zau (zar zb4 (zaf zaN (zad (dv 8) zab (λ_ _=>rfl)) (zad (dv 7) zab (λ_ _=>rfl))) (zaf zaN (zad (dv 7) zab (λ_ _=>rfl)) (zad (dv 8) zab (λ_ _=>rfl))) (zap _)) (zag (zal (i:=7) zb8.nd rfl (Or.inl rfl) (dv 8))) zav)))) (zag (zak (za6 (zaa (zay (zaa (dv 6) (zaa (dv 7) zac))) zac))))))))) zav) (zae (zal (i:=9) zb8.nd rfl (Or.inl rfl) (za6 zac)) (zae (zal (i:=10) zb8.nd rfl (Or.inl rfl) (dv 0)) (zae (zau (zar zbo (dv 1) zab (zap _)) (zag (zal (i:=10) zb8.nd rfl (Or.inl rfl) (dv 1))) zav) (zae (zcO (i:=5) PassesOwn.never rfl zb8.nd rfl (Or.inl rfl) (za6 (zaa (zad (dv 2) zab (λ_ _=>rfl)) (zaa (zad (dv 2) zab (λ_ _=>rfl)) zac))) (zag (zau (PDW.pt (zc8 (zar (zj1 hr) (dv 5) zab (zap _)) (zdW (zar (zaI hr) (zee zb4 (dv 10) zab (zap _)) (zee zb4 (dv 5) zab (zap _)) (zap _))))) (zag (zbV (zbX (dv 9) (zay (zaa (zay (zaa (zaF zcV rfl zbh Boot.«abs» (zaa (dv 10) zac)) (zaa (zaF zcV rfl zbh Boot.«abs» (zaa (dv 5) zac)) zac))) (zaa zaK zac)))))) (zag (zau (zar (zj1 hr) (dv 5) zab (zap _)) (zag (zbV (zbX (dv 9) (zay (zaa zaK (zaa (zay (zaa (zaZ za0 (zaF zcV rfl zbh Boot.«abs» (zaa (dv 10) zac))) (zaa (zaF zcV rfl zbh Boot.«abs» (zaa (dv 5) zac)) zac))) zac)))))) zav))))) (zag (zak (dv 9)))))))),λds S Q ex h=>by
  unfold zgc at h
  split at h
  ·rename_i lo hi y0 y1
   obtain⟨⟨hy,s1,s2,s3,s4⟩,h⟩:=h
   have hes:∀e∈za8 lo hi (y0,y1),Sz 1100 e.1∧Sz 1100 e.2:=λe he=>by
    unfold za8 nrm at he
    simp only[Vad,Vap,or_false] at he
    rcases he with rfl | rfl | rfl | rfl <;> split <;> first | exact⟨s1,s3⟩ | exact⟨s1.neg,s3.neg⟩ | exact⟨s1,s4⟩ | exact⟨s1.neg,s4.neg⟩ | exact⟨s2,s3⟩ | exact⟨s2.neg,s3.neg⟩ | exact⟨s2,s4⟩ | exact⟨s2.neg,s4.neg⟩
   refine ifD (λc=>?_) (λc=>?_)
   ·have out:y0 > 0∨y1<0:=.inl c
    refine zck ?_
    have pos:=znx (lo:=lo) (hi:=hi) (y:=(y0,y1)) hy out
    refine zd2 (λdl2 S2=>Pre S S2∧S2[S.length]?=some (.lst ((za8 lo hi (y0,y1)).map frD))∧∃u4 u5:Option D,dl2=[some (.int lo),some (.int hi),some (.tup [.int y0,.int y1]),some (.ref S.length),u4,u5,none,none,none,none,none]) (λnx hn=>?_) ?_
    ·refine zb6 (n:=(S++[Ob.lst []]).length) (o:=.lst ([lo,hi].map D.int)) (λi dl' S'=>i≤2∧Pre S S'∧S'[S.length]?=some (.lst (((za8 lo hi (y0,y1)).take (2*i)).map frD))∧S'[(S++[Ob.lst []]).length]?=some (.lst ([lo,hi].map D.int))∧∃u4 u5:Option D,dl'=[some (.int lo),some (.int hi),some (.tup [.int y0,.int y1]),some (.ref S.length),u4,u5,none,none,none,none,none]) ⟨by decide,λn o e=>zaH (zaH e),zaH (zaB _ _),zaB _ _,_,_,rfl⟩ (λi dl' S' z=>z.2.2.2.1) ?_ ?_
     ·rintro i x dl' S' nx ct ex' ⟨hi2,pr',hE,hO,u4,u5,rfl⟩ hn
      have ex2:([lo,hi].map D.int)[i]?=some x:=ex'
      rw[Vae] at ex2
      obtain⟨t,ht,rfl⟩:=Vah.mp ex2
      have hi3:=(Vac.mp ht).1
      have l2:[lo,hi].length=2:=rfl
      have lE:=zcg hE
      have lO:=zcg hO
      refine zb6 (n:=S'.length) (o:=.lst ([y0,y1].map D.int)) (λj dl' S2=>j≤2∧Pre S S2∧S2[S.length]?=some (.lst (((za8 lo hi (y0,y1)).take (2*i+j)).map frD))∧S2[(S++[Ob.lst []]).length]?=some (.lst ([lo,hi].map D.int))∧S2[S'.length]?=some (.lst ([y0,y1].map D.int))∧∃u5:Option D,dl'=[some (.int lo),some (.int hi),some (.tup [.int y0,.int y1]),some (.ref S.length),some (.int t),u5,none,none,none,none,none]) ⟨by decide,zbz pr' _,zaH hE,zaH hO,zaB _ _,_,rfl⟩ (λj dl' S2 z=>z.2.2.2.2.1) ?_ ?_
      ·rintro j x dl' S2 nx ct ex' ⟨hj2,pr2,hE2,hO2,hI2,u5,rfl⟩ hn
       have ex2:([y0,y1].map D.int)[j]?=some x:=ex'
       rw[Vae] at ex2
       obtain⟨b,hb,rfl⟩:=Vah.mp ex2
       have hj3:=(Vac.mp hb).1
       have l3:[y0,y1].length=2:=rfl
       have ea:=zpu ht hb
       refine zcj (n:=S.length) (S1:=S2) (xs:=((za8 lo hi (y0,y1)).take (2*i+j)).map frD) (y:=frD (nrm t b)) (λK hK=>by exact hK) hE2 (λK hK=>?_) (by rw[Vaa,Var]; omega) ?_
       ·exact zqh rfl hK
       ·refine hn _ _ ⟨by omega,zby pr2 (Vab _),?_,zbq hO2 (by rw[Vay]; have e1:([Ob.lst []]:Sto).length=1:=rfl; omega),zbq hI2 (by omega),_,rfl⟩
        rw[show 2*i+(j+1)=2*i+j+1 by omega,zbL ea,Vaw]
        exact zbm hE2
      ·rintro dl' S2 ⟨hj2,pr2,hE2,hO2,hI2,u5,rfl⟩
       exact hn _ _ ⟨by omega,pr2,hE2,hO2,_,_,rfl⟩
     ·rintro dl' S' ⟨hi2,pr',hE,hO,u4,u5,rfl⟩
      exact hn _ _ ⟨pr',hE,_,_,rfl⟩
    rintro dl2 T ⟨prT,hE,u4,u5,rfl⟩
    generalize hes4:za8 lo hi (y0,y1)=es at *
    have e0:es[0]?=some (nrm lo y0):=by rw[← hes4]; rfl
    have a0:nrm lo y0∈es:=Vaj e0
    have at0:atI (es.map frD) 0=some (frD (nrm lo y0)):=zdq (j:=0) (by rw[Vae,e0]; rfl)
    refine zaA (o:=.lst (es.map frD)) hE at0 ?_
    refine zaA (o:=.lst (es.map frD)) hE at0 ?_
    refine zb6 (n:=S.length) (o:=.lst (es.map frD)) (λi dl' S'=>T=S'∧∃(a b:Int×Int) (u8:Option D),a∈es∧(∀x∈es.take i,a.1*x.2≤x.1*a.2)∧b∈es∧(∀x∈es.take i,x.1*b.2≤b.1*x.2)∧dl'=[some (.int lo),some (.int hi),some (.tup [.int y0,.int y1]),some (.ref S.length),u4,u5,some (frD a),some (frD b),u8,none,none]) ⟨rfl,_,_,_,a0,λx hx=>(nomatch hx),a0,λx hx=>(nomatch hx),rfl⟩ (λi dl' S' z=>z.1 ▸ hE) ?_ ?_
    ·rintro i x dl' S' nx ct ex' ⟨rfl,a,b,u8,ha,la,hb,mb,rfl⟩ hn
     have ex2:(es.map frD)[i]?=some x:=ex'
     rw[Vae] at ex2
     obtain⟨e,he,rfl⟩:=Vah.mp ex2
     have em:=Vaj he
     have se:=hes e em
     have sa:=hes a ha
     have sb:=hes b hb
     have L:=zpq pos he ha la
     have M:=zpB pos he hb mb
     refine⟨zaG se.1 sa.2,zaG sa.1 se.2,?_⟩
     refine ifD (λc1=>?_) (λc1=>?_)
     ·refine⟨zaG se.1 sb.2,zaG sb.1 se.2,?_⟩
      refine ifD (λc2=>?_) (λc2=>?_)
      ·exact hn _ _ ⟨rfl,e,e,_,em,L.1 c1,em,M.1 c2,rfl⟩
      ·exact hn _ _ ⟨rfl,e,b,_,em,L.1 c1,hb,M.2 c2,rfl⟩
     ·refine⟨zaG se.1 sb.2,zaG sb.1 se.2,?_⟩
      refine ifD (λc2=>?_) (λc2=>?_)
      ·exact hn _ _ ⟨rfl,a,e,_,ha,L.2 c1,em,M.1 c2,rfl⟩
      ·exact hn _ _ ⟨rfl,a,b,_,ha,L.2 c1,hb,M.2 c2,rfl⟩
    ·rintro dl' S' ⟨rfl,a,b,u8,ha,la,hb,mb,rfl⟩
     rw[show (zat (Ob.lst (es.map frD))).length=es.length from Vaa ..,VaM] at la mb
     exact h _ _ [(some a,some b)] (zbz prT _) (zaB _ _) (.inl ⟨out,a,b,by rw[hes4]; exact⟨ha,la⟩,by rw[hes4]; exact⟨hb,mb⟩,rfl⟩)
   refine ifD (λd=>?_) (λd=>?_)
   ·have out:y0 > 0∨y1<0:=.inr d
    have pos:=znx (lo:=lo) (hi:=hi) (y:=(y0,y1)) hy out
    refine zd2 (λdl2 S2=>Pre S S2∧S2[S.length]?=some (.lst ((za8 lo hi (y0,y1)).map frD))∧∃u4 u5:Option D,dl2=[some (.int lo),some (.int hi),some (.tup [.int y0,.int y1]),some (.ref S.length),u4,u5,none,none,none,none,none]) (λnx hn=>?_) ?_
    ·refine zb6 (n:=(S++[Ob.lst []]).length) (o:=.lst ([lo,hi].map D.int)) (λi dl' S'=>i≤2∧Pre S S'∧S'[S.length]?=some (.lst (((za8 lo hi (y0,y1)).take (2*i)).map frD))∧S'[(S++[Ob.lst []]).length]?=some (.lst ([lo,hi].map D.int))∧∃u4 u5:Option D,dl'=[some (.int lo),some (.int hi),some (.tup [.int y0,.int y1]),some (.ref S.length),u4,u5,none,none,none,none,none]) ⟨by decide,λn o e=>zaH (zaH e),zaH (zaB _ _),zaB _ _,_,_,rfl⟩ (λi dl' S' z=>z.2.2.2.1) ?_ ?_
     ·rintro i x dl' S' nx ct ex' ⟨hi2,pr',hE,hO,u4,u5,rfl⟩ hn
      have ex2:([lo,hi].map D.int)[i]?=some x:=ex'
      rw[Vae] at ex2
      obtain⟨t,ht,rfl⟩:=Vah.mp ex2
      have hi3:=(Vac.mp ht).1
      have l2:[lo,hi].length=2:=rfl
      have lE:=zcg hE
      have lO:=zcg hO
      refine zb6 (n:=S'.length) (o:=.lst ([y0,y1].map D.int)) (λj dl' S2=>j≤2∧Pre S S2∧S2[S.length]?=some (.lst (((za8 lo hi (y0,y1)).take (2*i+j)).map frD))∧S2[(S++[Ob.lst []]).length]?=some (.lst ([lo,hi].map D.int))∧S2[S'.length]?=some (.lst ([y0,y1].map D.int))∧∃u5:Option D,dl'=[some (.int lo),some (.int hi),some (.tup [.int y0,.int y1]),some (.ref S.length),some (.int t),u5,none,none,none,none,none]) ⟨by decide,zbz pr' _,zaH hE,zaH hO,zaB _ _,_,rfl⟩ (λj dl' S2 z=>z.2.2.2.2.1) ?_ ?_
      ·rintro j x dl' S2 nx ct ex' ⟨hj2,pr2,hE2,hO2,hI2,u5,rfl⟩ hn
       have ex2:([y0,y1].map D.int)[j]?=some x:=ex'
       rw[Vae] at ex2
       obtain⟨b,hb,rfl⟩:=Vah.mp ex2
       have hj3:=(Vac.mp hb).1
       have l3:[y0,y1].length=2:=rfl
       have ea:=zpu ht hb
       refine zcj (n:=S.length) (S1:=S2) (xs:=((za8 lo hi (y0,y1)).take (2*i+j)).map frD) (y:=frD (nrm t b)) (λK hK=>by exact hK) hE2 (λK hK=>?_) (by rw[Vaa,Var]; omega) ?_
       ·exact zqh rfl hK
       ·refine hn _ _ ⟨by omega,zby pr2 (Vab _),?_,zbq hO2 (by rw[Vay]; have e1:([Ob.lst []]:Sto).length=1:=rfl; omega),zbq hI2 (by omega),_,rfl⟩
        rw[show 2*i+(j+1)=2*i+j+1 by omega,zbL ea,Vaw]
        exact zbm hE2
      ·rintro dl' S2 ⟨hj2,pr2,hE2,hO2,hI2,u5,rfl⟩
       exact hn _ _ ⟨by omega,pr2,hE2,hO2,_,_,rfl⟩
     ·rintro dl' S' ⟨hi2,pr',hE,hO,u4,u5,rfl⟩
      exact hn _ _ ⟨pr',hE,_,_,rfl⟩
    rintro dl2 T ⟨prT,hE,u4,u5,rfl⟩
    generalize hes4:za8 lo hi (y0,y1)=es at *
    have e0:es[0]?=some (nrm lo y0):=by rw[← hes4]; rfl
    have a0:nrm lo y0∈es:=Vaj e0
    have at0:atI (es.map frD) 0=some (frD (nrm lo y0)):=zdq (j:=0) (by rw[Vae,e0]; rfl)
    refine zaA (o:=.lst (es.map frD)) hE at0 ?_
    refine zaA (o:=.lst (es.map frD)) hE at0 ?_
    refine zb6 (n:=S.length) (o:=.lst (es.map frD)) (λi dl' S'=>T=S'∧∃(a b:Int×Int) (u8:Option D),a∈es∧(∀x∈es.take i,a.1*x.2≤x.1*a.2)∧b∈es∧(∀x∈es.take i,x.1*b.2≤b.1*x.2)∧dl'=[some (.int lo),some (.int hi),some (.tup [.int y0,.int y1]),some (.ref S.length),u4,u5,some (frD a),some (frD b),u8,none,none]) ⟨rfl,_,_,_,a0,λx hx=>(nomatch hx),a0,λx hx=>(nomatch hx),rfl⟩ (λi dl' S' z=>z.1 ▸ hE) ?_ ?_
    ·rintro i x dl' S' nx ct ex' ⟨rfl,a,b,u8,ha,la,hb,mb,rfl⟩ hn
     have ex2:(es.map frD)[i]?=some x:=ex'
     rw[Vae] at ex2
     obtain⟨e,he,rfl⟩:=Vah.mp ex2
     have em:=Vaj he
     have se:=hes e em
     have sa:=hes a ha
     have sb:=hes b hb
     have L:=zpq pos he ha la
     have M:=zpB pos he hb mb
     refine⟨zaG se.1 sa.2,zaG sa.1 se.2,?_⟩
     refine ifD (λc1=>?_) (λc1=>?_)
     ·refine⟨zaG se.1 sb.2,zaG sb.1 se.2,?_⟩
      refine ifD (λc2=>?_) (λc2=>?_)
      ·exact hn _ _ ⟨rfl,e,e,_,em,L.1 c1,em,M.1 c2,rfl⟩
      ·exact hn _ _ ⟨rfl,e,b,_,em,L.1 c1,hb,M.2 c2,rfl⟩
     ·refine⟨zaG se.1 sb.2,zaG sb.1 se.2,?_⟩
      refine ifD (λc2=>?_) (λc2=>?_)
      ·exact hn _ _ ⟨rfl,a,e,_,ha,L.2 c1,em,M.1 c2,rfl⟩
      ·exact hn _ _ ⟨rfl,a,b,_,ha,L.2 c1,hb,M.2 c2,rfl⟩
    ·rintro dl' S' ⟨rfl,a,b,u8,ha,la,hb,mb,rfl⟩
     rw[show (zat (Ob.lst (es.map frD))).length=es.length from Vaa ..,VaM] at la mb
     exact h _ _ [(some a,some b)] (zbz prT _) (zaB _ _) (.inl ⟨out,a,b,by rw[hes4]; exact⟨ha,la⟩,by rw[hes4]; exact⟨hb,mb⟩,rfl⟩)
   dsimp only[L3.zm6]
   refine zsP (λdl2 S2=>S++[Ob.lst []]=S2∧dl2=[some (.int lo),some (.int hi),some (.tup [.int y0,.int y1]),none,none,none,none,none,none,some (.ref S.length),some (.int (zaW lo hi))]) (λnx hn=>?_) ?_
   ·have ee:∀c:hi<0,zaW lo hi=hi:=λc=>if_pos c
    have en:∀c:¬ hi<0,zaW lo hi=lo:=λc=>if_neg c
    refine ifD (λc=>?_) (λc=>?_)
    ·exact hn _ _ ⟨rfl,by rw[ee c]; rfl⟩
    ·exact hn _ _ ⟨rfl,by rw[en c]; rfl⟩
   rintro dl2 S2 ⟨rfl,rfl⟩
   refine zb6 (n:=(S++[Ob.lst []]).length) (o:=.lst ([y0,y1].map D.int)) (λj dl' S'=>j≤2∧Pre S S'∧S'[S.length]?=some (.lst ((pcl (zaW lo hi) ([y0,y1].take j)).map pcD))∧S'[(S++[Ob.lst []]).length]?=some (.lst ([y0,y1].map D.int))∧∃u5:Option D,dl'=[some (.int lo),some (.int hi),some (.tup [.int y0,.int y1]),none,none,u5,none,none,none,some (.ref S.length),some (.int (zaW lo hi))]) ⟨by decide,λn o e=>zaH (zaH e),zaH (zaB _ _),zaB _ _,_,rfl⟩ (λj dl' S' z=>z.2.2.2.1) ?_ ?_
   ·rintro j x dl' S' nx ct ex' ⟨hj2,pr',hP,hO,u5,rfl⟩ hn
    have ex2:([y0,y1].map D.int)[j]?=some x:=ex'
    rw[Vae] at ex2
    obtain⟨b,hb,rfl⟩:=Vah.mp ex2
    have hj3:=(Vac.mp hb).1
    have l3:[y0,y1].length=2:=rfl
    have lP:=zcg hP
    have en:=zke (zaW lo hi) ([y0,y1].take j) b
    rw[← zbL hb] at en
    have lpc:(pcl (zaW lo hi) ([y0,y1].take j)).length≤2:=by
     rcases j with _ | _ | j
     ·exact Vau _
     ·show (pcl (zaW lo hi) ([]++[y0])).length≤2
      rw[zke]
      split <;> simp[pcl]
     ·omega
    have keep:b=0→nx [some (.int lo),some (.int hi),some (.tup [.int y0,.int y1]),none,none,some (.int b),none,none,none,some (.ref S.length),some (.int (zaW lo hi))] S':=λe=>hn _ _ ⟨by omega,pr',by rw[en,if_pos e,VaW]; exact hP,hO,_,rfl⟩
    have put:∀d:D,b≠0→d=pcD (pcB (zaW lo hi) b)→nx [some (.int lo),some (.int hi),some (.tup [.int y0,.int y1]),none,none,some (.int b),none,none,none,some (.ref S.length),some (.int (zaW lo hi))] (S'.set S.length (.lst ((pcl (zaW lo hi) ([y0,y1].take j)).map pcD++[d]))):=λd e ed=>hn _ _ ⟨by omega,zby pr' (Vab _),by rw[en,if_neg e,Vaw,ed]; exact zbm hP,zbq hO (by rw[Vay]; have e1:([Ob.lst []]:Sto).length=1:=rfl; omega),_,rfl⟩
    refine ifN (λc1=>?_) (λc1=>?_)
    ·refine ifD (λc2=>?_) (λc2=>?_)
     ·refine zcj (n:=S.length) (S1:=S') (xs:=(pcl (zaW lo hi) ([y0,y1].take j)).map pcD) (y:=.tup [.tup [.int (abI (zaW lo hi)),.int (abI b)],.non]) (λK hK=>by exact hK) hP (λK hK=>by exact hK) (by rw[Vaa]; omega) ?_
      exact put _ c1 (by unfold pcB; rw[if_pos c2]; rfl)
     ·refine ifN (λc3=>?_) (λc3=>absurd c3 c1)
      refine zcj (n:=S.length) (S1:=S') (xs:=(pcl (zaW lo hi) ([y0,y1].take j)).map pcD) (y:=.tup [.non,.tup [.int (-abI (zaW lo hi)),.int (abI b)]]) (λK hK=>by exact hK) hP (λK hK=>by exact hK) (by rw[Vaa]; omega) ?_
      exact put _ c1 (by unfold pcB; rw[if_neg c2]; rfl)
    ·refine ifN (λc3=>absurd c1 c3) (λ_=>?_)
     exact keep c1
   ·rintro dl' S' ⟨hj2,pr',hP,hO,u5,rfl⟩
    refine h S' S.length _ pr' hP (.inr ⟨⟨by omega,by omega⟩,?_⟩)
    show pcl (zaW lo hi) ([]++[y0]++[y1])=_
    rw[zke,zke]
    rfl
  ·exact h.elim⟩)
def zs4  (zk1:Df K mg "_law_quot" zgw zg2)(zeH:Fk P w K mg base 1 "_law_hulled" zeG zeX)(zoK:Fk P w K mg base 1 "_law_pieces" zgr zgc)(zoY:Fk P w K mg base 1 "_law_kept" zh2 zgk):Fk P w K mg base 2 "_law_quot" zg2 zf0:=
 zk1.mk' (zax (k:=1) zk1.F zve (zsX) λcdv A outer s H E hr=>⟨_,(zae (zau (PDW.pt (zc8 (zlH zcu zcu (zad (dv 0) zab (λ_ _=>rfl)) zab (zad (dv 0) zab (λ_ _=>rfl))) (zdW (zlH zcu zcu (zad (dv 2) zab (λ_ _=>rfl)) zab (zad (dv 2) zab (λ_ _=>rfl)))))) (zag (zak (dv 1))) zav) (zag (zak (zaq zeH hr (zaa (zji (x:="_law_piece") (N:=["_law_x"]) (caps:=[1]) (ar:=zas zgw) rfl rfl csc rfl (by decide) (zaq zoK hr (zaa (zaf zaN (zad (dv 0) zab (λ_ _=>rfl)) (dv 3)) (zaa (zaf zaN (zad (dv 0) zab (λ_ _=>rfl)) (dv 3)) (zaa (dv 2) zac)))) (λ_ _ _ _ _ _=>zcS) (λ_ _ _ _ _ _=>(zaq zoY hr (zaa (dv 1) (zaa (dv 0) zac))))) zac))))),λds S Q ex h=>by
  unfold zf0 at h
  split at h
  ·rename_i z0 z1 x0 x1 y0 y1 g
   obtain⟨⟨⟨hz,hx,hy⟩,hg,sz0,sz1,sx0,sx1,sy0,sy1⟩,h1,h2⟩:=h
   have sg:Sz 21 g:=Sz.of 1000000 (by omega)
   have m0:Sz 1100 (z0*g):=(sz0.mul sg).mono (by decide)
   have m1:Sz 1100 (z1*g):=(sz1.mul sg).mono (by decide)
   have m0:Sz 1100 (z0*g):=(sz0.mul sg).mono (by decide)
   have m1:Sz 1100 (z1*g):=(sz1.mul sg).mono (by decide)
   refine zoy (λdl2 S2=>S=S2∧¬ ((y0≤0∧0≤y1)∧z0≤0∧0≤z1)∧dl2=[some (.tup [.int z0,.int z1]),some (.tup [.int x0,.int x1]),some (.tup [.int y0,.int y1]),some (.int g)]) (λnx hn=>?_) ?_
   ·refine ifD (λc1=>?_) (λc1=>hn _ _ ⟨rfl,λq=>c1 q.2.1,rfl⟩)
    refine ifD (λc2=>?_) (λc2=>hn _ _ ⟨rfl,λq=>c2 q.2.2,rfl⟩)
    refine ifD (λc3=>?_) (λc3=>hn _ _ ⟨rfl,λq=>c3 q.1.1,rfl⟩)
    refine ifD (λc4=>?_) (λc4=>hn _ _ ⟨rfl,λq=>c4 q.1.2,rfl⟩)
    exact h2 (x0,x1) (if_pos ⟨⟨c3,c4⟩,c1,c2⟩) S Pre.refl
   rintro dl2 S2 ⟨rfl,nb,rfl⟩
   refine zu2 (λT m=>Pre S T∧∃ps:List (Option (Int×Int)×Option (Int×Int)),T[m]?=some (.lst (ps.map pcD))∧zll (z0*g) (z1*g) (y0,y1) ps) (λK hK=>?_) (λT m P tl' htl=>?_)
   ·exact⟨zaG sz0 sg,zaG sz1 sg,⟨hy,m0,m1,sy0.mono (by decide),sy1.mono (by decide)⟩,λT m ps pr hT ok=>hK T m ⟨pr,ps,hT,ok⟩⟩
   obtain⟨pr,ps,hT,ok⟩:=P
   obtain⟨l2,sz⟩:=zs3 (y:=(y0,y1)) hy (sy0.mono (by decide)) (sy1.mono (by decide)) ok
   have hl:=zsL (z:=(z0,z1)) (x:=(x0,x1)) (y:=(y0,y1)) hz hx hy hg.1 nb ok
   have ip:zat (Ob.lst (ps.map pcD))=ps.map pcD:=rfl
   refine zpi (n:=m) (o:=.lst (ps.map pcD)) (S1:=T) (λk d=>∃pc,ps[k]?=some pc∧d=opD (kpS (x0,x1) pc.1 pc.2)) htl hT (by rw[ip,Vaa]; omega) (λk x hx S2 K pr2 hK=>?_) (λxs lx hx=>?_)
   ·rw[ip,Vae] at hx
    obtain⟨pc,hpc,rfl⟩:=Vah.mp hx
    have z:=sz pc (Vaj hpc)
    exact⟨pc.1,pc.2,rfl,⟨sx0.mono (by decide),sx1.mono (by decide)⟩,z.1,z.2,λe=>hK _ ⟨pc,hpc,by rw[e]; rfl⟩,λp e=>hK _ ⟨pc,hpc,by rw[e]; rfl⟩⟩
   have exs:xs=(ps.map λpc=>kpS (x0,x1) pc.1 pc.2).map opD:=by
    refine List.ext_getElem? λk=>?_
    rw[Vae,Vae]
    cases e:xs[k]? with
    | some d=>
     obtain⟨pc,hpc,rfl⟩:=hx k d e
     rw[hpc]
     rfl
    | none=>
     have l:=VaE.mp e
     rw[lx,ip,Vaa] at l
     rw[VaE.mpr l]
     rfl
   subst exs
   refine⟨_,zaB _ _,by rw[Vaa]; omega,λe T2 pr2=>?_,λp e T2 pr2=>?_⟩
   ·exact h1 (by rw[← hl]; exact e) T2 (λn o q=>pr2 _ _ (zaH (pr _ _ q)))
   ·exact h2 p (by rw[← hl]; exact e) T2 (λn o q=>pr2 _ _ (zaH (pr _ _ q)))
  ·exact h.elim⟩)
def zuX  (zkW:Df K mg "_law_half" zi2 zhp)(zdi:Fk P w K mg base 1 "_law_meet" zft zeL)(znl:Fk P w K mg base 2 "_law_quot" zg2 zf0):Fk P w K mg base 3 "_law_half" zhp zgL:=
 zkW.mk' (zax (k:=2) zkW.F zry (zxD) λcdv A outer s H E hr=>⟨_,(zae (zau (zar (zaI hr) (zad (dv 0) zab (λ_ _=>rfl)) zaL (zap _)) (zag (zak (zaq zdi hr (zaa (dv 2) (zaa (zay (zaa (zaf zbf (zad (dv 1) zab (λ_ _=>rfl)) (zad (dv 3) zab (λ_ _=>rfl))) (zaa (zaf zbf (zad (dv 1) zab (λ_ _=>rfl)) (zad (dv 3) zab (λ_ _=>rfl))) zac))) zac))))) zav) (zae (zau (zar (zaI hr) (zad (dv 0) zab (λ_ _=>rfl)) zaL (zap _)) (zag (zak (zaq znl hr (zaa (dv 1) (zaa (dv 2) (zaa (dv 3) (zaa (dv 4) zac))))))) zav) (zae (zau (zdb (dv 5)) (zag (zak (zaq zdi hr (zaa (dv 2) (zaa (zay (zaa (zaf zaY (zad (dv 1) zab (λ_ _=>rfl)) (zad (dv 3) zab (λ_ _=>rfl))) (zaa (zaf zaY (zad (dv 1) zab (λ_ _=>rfl)) (zad (dv 3) zab (λ_ _=>rfl))) zac))) zac))))) zav) (zag (zak (zaq zdi hr (zaa (dv 2) (zaa (zay (zaa (zaf zbf (zad (dv 3) zab (λ_ _=>rfl)) (zad (dv 1) zab (λ_ _=>rfl))) (zaa (zaf zbf (zad (dv 3) zab (λ_ _=>rfl)) (zad (dv 1) zab (λ_ _=>rfl))) zac))) zac)))))))),λds S Q ex h=>by
  unfold zgL at h
  split at h
  ·rename_i d z0 z1 x0 x1 y0 y1 g b
   obtain⟨v,rfl,hv,hyp,h1,h2⟩:=h
   cases v with
   | plus i j=>exact⟨λe=>h1 e S Pre.refl,λp e=>h2 p e S Pre.refl⟩
   | minus i j=>
    cases b with
    | true=>exact⟨λe=>h1 e S Pre.refl,λp e=>h2 p e S Pre.refl⟩
    | false=>exact⟨λe=>h1 e S Pre.refl,λp e=>h2 p e S Pre.refl⟩
   | times i j=>exact⟨hyp,h1,h2⟩
   | number _ _=>exact hv.elim
   | unknown _=>exact hv.elim
   | power _ _=>exact hv.elim
  ·exact h.elim⟩)
def zx7  (zmp:Df K mg "_law_root" zmx zhN)(zbW:Fk P w K mg base 1 "_law_power" zdy zdF):Fk P w K mg base 2 "_law_root" zhN zhs:=
 zmp.mk' (zax (k:=1) zmp.F zfu (zvG) λcdv A outer s H E hr=>⟨_,(zae (zal (i:=3) zfu.nd rfl (Or.inl rfl) zab) (zae (zal (i:=4) zfu.nd rfl (Or.inl rfl) (zaf zaY (dv 2) zab)) (zae (zo0 PassesOwn.never (zar zb4 (zaf zbf (dv 4) (dv 3)) zab (zap _)) (zae (zal (i:=5) zfu.nd rfl (Or.inl rfl) (zaf zb1 (zaf zaY (dv 3) (dv 4)) zab)) (zag (zau (zar zcu (zaq zbW hr (zaa (dv 5) (zaa (dv 1) zac))) (dv 0) (zap _)) (zag (zal (i:=3) zfu.nd rfl (Or.inl rfl) (dv 5))) (zag (zal (i:=4) zfu.nd rfl (Or.inl rfl) (dv 5))))))) (zag (zak (dv 3)))))),λds S Q ex h=>by
  unfold zhs at h
  split at h
  ·rename_i N n m
   obtain⟨⟨n2,n6,h0,m0,sm⟩,h⟩:=h
   have hn:1≤n.toNat:=by omega
   refine⟨λk dl' S'=>S=S'∧∃(lo hi:Int) (u:Option D),dl'=[some (.int N),some (.int n),some (.int m),some (.int lo),some (.int hi),u]∧0≤lo∧lo<hi∧hi≤m+1∧lo^n.toNat≤N∧(hi=m+1∨N<hi^n.toNat)∧k=(hi-lo).toNat,⟨_,rfl,0,m+1,_,rfl,by omega,by omega,by omega,by rw[zho hn]; exact h0,.inl rfl,rfl⟩,?_⟩
   rintro k dl' S' ⟨rfl,lo,hi,u,rfl,l0,lh,hm,pl,ph,rfl⟩
   refine ifD (λc=>?_) (λc=>?_)
   ·have b1:lo<(lo+hi)/2:=by omega
    have b2:(lo+hi)/2<hi:=by omega
    have sp:Sz 1101 ((lo+hi)/2):=Sz.mid (a:=0) (b:=m+1) (Sz.of 0 (by decide) (Nat.pow_pos (by decide))) (sm.add (Sz.of (n:=1) 1 (by decide))) (by omega) (by omega)
    refine⟨⟨by omega,n6,sp.mono (by decide)⟩,?_⟩
    refine ifD (λe=>?_) (λe=>?_)
    ·exact⟨_,by omega,rfl,(lo+hi)/2,hi,_,rfl,by omega,b2,hm,e,ph,rfl⟩
    ·exact⟨_,by omega,rfl,lo,(lo+hi)/2,_,rfl,l0,b1,by omega,pl,.inr (by omega),rfl⟩
   ·have eh:hi=lo+1:=by omega
    subst eh
    have z:=zs2 hn h0 l0 (show lo≤m by omega) pl (by rcases ph with q | q; exact .inl (by omega); exact .inr q)
    rw[← z] at h
    exact h
  ·exact h.elim⟩)
def zwx  (zkn:Df K mg "_law_down" zkK zhV)(zbW:Fk P w K mg base 1 "_law_power" zdy zdF)(zld:Fk P w K mg base 2 "_law_root" zhN zhs):Fk P w K mg base 3 "_law_down" zhV zh6:=
 zkn.mk' (zax (k:=2) zkn.F zn9 (zvH) λcdv A outer s H E hr=>⟨_,(zae (zau (zar znQ (dv 0) zab (zap _)) (zag (zak (zaq zld hr (zaa (dv 0) (zaa (dv 1) (zaa (dv 2) zac)))))) zav) (zae (zal (i:=3) zn9.nd rfl (Or.inl rfl) (zaq zld hr (zaa (zaZ za0 (dv 0)) (zaa (dv 1) (zaa (dv 2) zac))))) (zae (zau (zar zbo (zaq zbW hr (zaa (dv 3) (zaa (dv 1) zac))) (zaZ za0 (dv 0)) (zap _)) (zag (zal (i:=3) zn9.nd rfl (Or.inl rfl) (zaf zaY (dv 3) zab))) zav) (zag (zak (zaZ za0 (dv 3))))))),λds S Q ex h=>by
  unfold zh6 at h
  split at h
  ·rename_i N n m
   obtain⟨⟨n2,n6,m0,sm⟩,h⟩:=h
   have hn:1≤n.toNat:=by omega
   refine ifD (λc=>?_) (λc=>?_)
   ·refine⟨⟨n2,n6,c,m0,sm⟩,?_⟩
    unfold dnS at h
    rw[if_pos c] at h
    exact h
   ·refine⟨⟨n2,n6,by omega,m0,sm⟩,?_⟩
    have z:=λr e=>zuy (N:=N) (m:=m) (r:=r) hn (by omega) m0 e
    have b0:=(ziN (N:=-N) hn (by omega)).1
    have z2:=z _ rfl
    have sr:Sz 2000 (if rbS (-N) n.toNat<m then rbS (-N) n.toNat else m):=Sz.mid (a:=0) (b:=m) (Sz.of 0 (by decide) (Nat.pow_pos (by decide))) (sm.mono (by decide)) (by split <;> omega) (by split <;> omega)
    refine⟨⟨by omega,n6,sr⟩,?_⟩
    rw[← z2] at h
    refine ifD (λe=>?_) (λe=>?_)
    ·rw[if_pos e] at h
     exact h
    ·rw[if_neg e] at h
     exact h
  ·exact h.elim⟩)
def zw9  (zmv:Df K mg "_law_root_kept" zmI zgx)(ze2:Fk P w K mg base 3 "_law_down" zhV zh6)(zaS:mg "min"=none)(zaE:mg "max"=none)(zbh:mg "abs"=none):Fk P w K mg base 4 "_law_root_kept" zgx zgQ:=
 zmv.mk' (zax (k:=3) zmv.F zpL (zra) λcdv A outer s H E hr=>⟨_,(zae (zal (i:=4) zpL.nd rfl (Or.inl rfl) (zaf zaY (zaF (zbl rfl) rfl zaE Boot.«max» (zaa (zaF zcV rfl zbh Boot.«abs» (zaa (zad (dv 0) zab (λ_ _=>rfl)) zac)) (zaa (zaF zcV rfl zbh Boot.«abs» (zaa (zad (dv 0) zab (λ_ _=>rfl)) zac)) zac))) zab)) (zae (zau (PDW.pt (zcz (zar zb4 (zaZ za0 (zaq ze2 hr (zaa (zaZ za0 (dv 1)) (zaa (dv 3) (zaa (dv 4) zac))))) (zad (dv 0) zab (λ_ _=>rfl)) (zap _)) (zcM (zar zbo (zaq ze2 hr (zaa (dv 2) (zaa (dv 3) (zaa (dv 4) zac)))) (zad (dv 0) zab (λ_ _=>rfl)) (zap _))))) (zag (zak zaK)) zav) (zag (zak (zay (zaa (zaF (zbl rfl) rfl zaE Boot.«max» (zaa (zad (dv 0) zab (λ_ _=>rfl)) (zaa (zaq ze2 hr (zaa (dv 1) (zaa (dv 3) (zaa (dv 4) zac)))) zac))) (zaa (zaF (zcd rfl) rfl zaS Boot.«min» (zaa (zad (dv 0) zab (λ_ _=>rfl)) (zaa (zaZ za0 (zaq ze2 hr (zaa (zaZ za0 (dv 2)) (zaa (dv 3) (zaa (dv 4) zac))))) zac))) zac))))))),λds S Q ex h=>by
  unfold zgQ at h
  split at h
  ·rename_i x0 x1 lo hi n
   obtain⟨⟨n2,n6,hx,s0,s1⟩,h1,h2⟩:=h
   have hn:1≤n.toNat:=by omega
   have a0:Sz 1000 (if x0<0 then -x0 else x0):=by split; exact s0.neg; exact s0
   have a1:Sz 1000 (if x1<0 then -x1 else x1):=by split; exact s1.neg; exact s1
   have p0:(if x0<0 then -x0 else x0)=(x0.natAbs:Int):=by split <;> omega
   have p1:(if x1<0 then -x1 else x1)=(x1.natAbs:Int):=by split <;> omega
   have big:∀u v:Int,0≤u→0≤v→Sz 1000 u→Sz 1000 v→(u+1≤(if v > u then v else u)+1∧v+1≤(if v > u then v else u)+1)∧Sz 1100 ((if v > u then v else u)+1):=λu v _ _ su sv=>by
    refine⟨by split <;> omega,Sz.mono (m:=1001) (Sz.add (m:=1000) (n:=1) ?_ (Sz.of 1 (by decide))) (by decide)⟩
    split
    ·exact sv
    ·exact su
   obtain⟨⟨m1,m2⟩,sm⟩:=big _ _ (by rw[p0]; omega) (by rw[p1]; omega) a0 a1
   have m1':(x0.natAbs:Int)+1≤((if (if x1<0 then -x1 else x1) > (if x0<0 then -x0 else x0) then (if x1<0 then -x1 else x1) else (if x0<0 then -x0 else x0))+1):=by rw[← p0]; exact m1
   have m2':(x1.natAbs:Int)+1≤((if (if x1<0 then -x1 else x1) > (if x0<0 then -x0 else x0) then (if x1<0 then -x1 else x1) else (if x0<0 then -x0 else x0))+1):=by rw[← p1]; exact m2
   have hr:=rk_eq (x:=(x0,x1)) (lo:=lo) (hi:=hi) (m:=((if (if x1<0 then -x1 else x1) > (if x0<0 then -x0 else x0) then (if x1<0 then -x1 else x1) else (if x0<0 then -x0 else x0))+1)) hn hx m1' m2'
   have m0:0≤((if (if x1<0 then -x1 else x1) > (if x0<0 then -x0 else x0) then (if x1<0 then -x1 else x1) else (if x0<0 then -x0 else x0))+1):=by omega
   rw[← hr] at h1 h2
   unfold rkS at h1 h2
   refine⟨⟨n2,n6,m0,sm⟩,?_⟩
   refine ifD (λc1=>h1 (if_pos (.inl c1))) (λc1=>?_)
   refine⟨⟨n2,n6,m0,sm⟩,?_⟩
   refine ifD (λc2=>h1 (if_pos (.inr c2))) (λc2=>?_)
   refine⟨⟨n2,n6,m0,sm⟩,?_⟩
   refine⟨⟨n2,n6,m0,sm⟩,?_⟩
   have z:=h2 (if dnS lo n.toNat ((if (if x1<0 then -x1 else x1) > (if x0<0 then -x0 else x0) then (if x1<0 then -x1 else x1) else (if x0<0 then -x0 else x0))+1) > x0 then dnS lo n.toNat ((if (if x1<0 then -x1 else x1) > (if x0<0 then -x0 else x0) then (if x1<0 then -x1 else x1) else (if x0<0 then -x0 else x0))+1) else x0,if -dnS (-hi) n.toNat ((if (if x1<0 then -x1 else x1) > (if x0<0 then -x0 else x0) then (if x1<0 then -x1 else x1) else (if x0<0 then -x0 else x0))+1)<x1 then -dnS (-hi) n.toNat ((if (if x1<0 then -x1 else x1) > (if x0<0 then -x0 else x0) then (if x1<0 then -x1 else x1) else (if x0<0 then -x0 else x0))+1) else x1) (if_neg λq=>q.elim c1 c2)
   exact z
  ·exact h.elim⟩)
def zux  (zkH:Df K mg "_law_rooted" zju zgA)(zeH:Fk P w K mg base 1 "_law_hulled" zeG zeX)(zhH:Fk P w K mg base 4 "_law_root_kept" zgx zgQ)(zbW:Fk P w K mg base 1 "_law_power" zdy zdF)(zaE:mg "max"=none):Fk P w K mg base 5 "_law_rooted" zgA zhR:=
 zkH.mk' (zax (k:=4) zkH.F zd5 (zxq) λcdv A outer s H E hr=>⟨_,(zae (zal (i:=4) zd5.nd rfl (Or.inl rfl) (zaq zbW hr (zaa (dv 3) (zaa (zaf zbf (dv 2) zab) zac)))) (zae (zal (i:=5) zd5.nd rfl (Or.inl rfl) (zaf zaN (zad (dv 0) zab (λ_ _=>rfl)) (dv 4))) (zae (zal (i:=6) zd5.nd rfl (Or.inl rfl) (zaf zaN (zad (dv 0) zab (λ_ _=>rfl)) (dv 4))) (zae (zau (zar (zaI hr) (zaf zba (dv 2) zab) zab (zap _)) (zag (zak (zaq zhH hr (zaa (dv 1) (zaa (dv 5) (zaa (dv 6) (zaa (dv 2) zac))))))) zav) (zae (zau (zar zbo (dv 6) zab (zap _)) (zag (zak zaK)) zav) (zae (zal (i:=7) zd5.nd rfl (Or.inl rfl) (zaq zhH hr (zaa (dv 1) (zaa (zaF (zbl rfl) rfl zaE Boot.«max» (zaa (dv 5) (zaa zab zac))) (zaa (dv 6) (zaa (dv 2) zac)))))) (zae (zal (i:=8) zd5.nd rfl (Or.inl rfl) (zaq zhH hr (zaa (zay (zaa (zaZ za0 (zad (dv 1) zab (λ_ _=>rfl))) (zaa (zaZ za0 (zad (dv 1) zab (λ_ _=>rfl))) zac))) (zaa (zaF (zbl rfl) rfl zaE Boot.«max» (zaa (dv 5) (zaa zab zac))) (zaa (dv 6) (zaa (dv 2) zac)))))) (zae (zau (zar zga (dv 8) zaK (zap _)) (zag (zal (i:=8) zd5.nd rfl (Or.inl rfl) (zay (zaa (zaZ za0 (zad (dv 8) zab (λ_ _=>rfl))) (zaa (zaZ za0 (zad (dv 8) zab (λ_ _=>rfl))) zac))))) zav) (zag (zak (zaq zeH hr (zaa (za6 (zaa (dv 7) (zaa (dv 8) zac))) zac)))))))))))),λds S Q ex h=>by
  unfold zhR at h
  split at h
  ·rename_i z0 z1 x0 x1 n g
   obtain⟨⟨n2,n6,hg,hx,sz0,sz1,sx0,sx1⟩,h1,h2⟩:=h
   have sg:Sz 21 g:=Sz.of 1000000 (by omega)
   have gp:Sz 181 (g^(n-1).toNat):=(sg.pow _).mono (by omega)
   refine⟨⟨by omega,by omega,sg.mono (by decide)⟩,?_⟩
   refine⟨zaG sz0 gp,zaG sz1 gp,?_⟩
   unfold bpS at h1 h2
   refine ifD (λe=>?_) (λe=>?_)
   ·rw[if_pos e] at h1 h2
    exact⟨⟨n2,n6,hx,sx0,sx1⟩,λq=>h1 q S Pre.refl,λp q=>h2 p q S Pre.refl⟩
   ·rw[if_neg e] at h1 h2
    refine ifD (λe2=>?_) (λe2=>?_)
    ·exact h1 (if_pos e2) S Pre.refl
    ·rw[if_neg e2] at h1 h2
     rw[← zrt] at h1 h2
     have last:∀o1 o2:Option (Int×Int),o1=ptB (x0,x1) (rtS (mx0 (z0*g^(n-1).toNat)) n.toNat) (rtS (z1*g^(n-1).toNat) n.toNat)→o2=ptB (-x1,-x0) (rtS (mx0 (z0*g^(n-1).toNat)) n.toNat) (rtS (z1*g^(n-1).toNat) n.toNat)→∃os:List (Option (Int×Int)),(S++[Ob.lst [opD o1,opD (zkp o2)]])[S.length]?=some (.lst (os.map opD))∧os.length≤10∧(hlS os=none→∀T:Sto,Pre (S++[Ob.lst [opD o1,opD (zkp o2)]]) T→Q .non T)∧∀p,hlS os=some p→∀T:Sto,Pre (S++[Ob.lst [opD o1,opD (zkp o2)]]) T→Q (frD p) T:=λo1 o2 e1 e2=>by
      subst e1 e2
      exact⟨[_,zkp _],zaB _ _,Nat.le_of_ble_eq_true rfl,λq T pr=>h1 (by rw[hlS,hlS,hlS,zg5] at q; exact q) T (λn o y=>pr _ _ (zaH y)),λp q T pr=>h2 p (by rw[hlS,hlS,hlS,zg5] at q; exact q) T (λn o y=>pr _ _ (zaH y))⟩
     refine⟨⟨n2,n6,hx,sx0,sx1⟩,λq1=>?_,λr1 q1=>?_⟩
     ·refine⟨⟨n2,n6,by omega,sx1.neg,sx0.neg⟩,λq2=>?_,λr2 q2=>?_⟩
      ·exact last none none q1.symm q2.symm
      ·exact last none (some r2) q1.symm q2.symm
     ·refine⟨⟨n2,n6,by omega,sx1.neg,sx0.neg⟩,λq2=>?_,λr2 q2=>?_⟩
      ·exact last (some r1) none q1.symm q2.symm
      ·exact last (some r1) (some r2) q1.symm q2.symm
  ·exact h.elim⟩)
def zwX  (zi4:Df K mg "_law_back" zlE zhk)(zlf:Fk P w K mg base 3 "_law_half" zhp zgL)(znp:Fk P w K mg base 5 "_law_rooted" zgA zhR):Fk P w K mg base 6 "_law_back" zhk zgR:=
 zi4.mk' (zax (k:=5) zi4.F zfz (zxY) λcdv A outer s H E hr=>⟨_,(zae (zau (PDW.pt (zcz (zar (zaI hr) (zad (dv 0) zab (λ_ _=>rfl)) zaL (zap _)) (zcM (zar (zaI hr) (zad (dv 0) zab (λ_ _=>rfl)) zaL (zap _))))) (zag (zak (za6 zac))) zav) (zae (zal (i:=4) zfz.nd rfl (Or.inl rfl) (zaJ (dv 1) (zad (dv 0) zab (λ_ _=>rfl)) (λ_ _=>rfl))) (zae (zau (zar (zaI hr) (zad (dv 0) zab (λ_ _=>rfl)) zaL (zap _)) (zae (zal (i:=4) zfz.nd rfl (Or.inl rfl) (zaq znp hr (zaa (dv 2) (zaa (dv 4) (zaa (zad (dv 0) zab (λ_ _=>rfl)) (zaa (dv 3) zac)))))) (zag (zak (zcG (zar zbE (dv 4) zaK (zap _)) zaK (za6 (zaa (zay (zaa (zad (dv 0) zab (λ_ _=>rfl)) (zaa (dv 4) zac))) zac)))))) zav) (zae (zal (i:=5) zfz.nd rfl (Or.inl rfl) (zaJ (dv 1) (zad (dv 0) zab (λ_ _=>rfl)) (λ_ _=>rfl))) (zae (zal (i:=4) zfz.nd rfl (Or.inl rfl) (zaq zlf hr (zaa (dv 0) (zaa (dv 2) (zaa (dv 4) (zaa (dv 5) (zaa (dv 3) (zaa zdD zac)))))))) (zae (zau (zar zbE (dv 4) zaK (zap _)) (zag (zak zaK)) zav) (zae (zal (i:=5) zfz.nd rfl (Or.inl rfl) (zaq zlf hr (zaa (dv 0) (zaa (dv 2) (zaa (zcG (zar (zaI hr) (zad (dv 0) zab (λ_ _=>rfl)) (zad (dv 0) zab (λ_ _=>rfl)) (zap _)) (dv 4) (dv 5)) (zaa (dv 4) (zaa (dv 3) (zaa zdD zac)))))))) (zag (zak (zcG (zar zbE (dv 5) zaK (zap _)) zaK (za6 (zaa (zay (zaa (zad (dv 0) zab (λ_ _=>rfl)) (zaa (dv 4) zac))) (zaa (zay (zaa (zad (dv 0) zab (λ_ _=>rfl)) (zaa (dv 5) zac))) zac))))))))))))),λds S Q ex h=>by
  unfold zgR at h
  split at h
  ·rename_i d w z0 z1 g
   obtain⟨v,vs,q,rfl,hw,ok,hs,⟨hz,sz0,sz1⟩,hg,h1,h2⟩:=h
   cases v with
   | number _ _=>exact h2 [] rfl _ _ Pre.refl.push (Vab _) (zaB _ _)
   | unknown _=>exact h2 [] rfl _ _ Pre.refl.push (Vab _) (zaB _ _)
   | power i n=>
    have a:=hs.at ok.1
    refine zaA (o:=.lst (vs.map frD)) hw (zaP ok.1) ?_
    refine⟨⟨ok.2.1,ok.2.2,hg,a.1,sz0,sz1,a.2.1,a.2.2⟩,λe T pr=>?_,λx' e T pr=>?_⟩
    ·refine h1 ?_ T pr
     show (match bpS (z0,z1) (gt vs i) n g with | none=>none | some x=>some [(i,x)])=none
     rw[show bpS (z0,z1) (gt vs i) n g=none from e]
    ·refine h2 [(i,x')] ?_ _ _ (zbz pr _) (zbZ pr) (zaB _ _)
     show (match bpS (z0,z1) (gt vs i) n g with | none=>none | some x=>some [(i,x)])=_
     rw[show bpS (z0,z1) (gt vs i) n g=some x' from e]
   | plus i j=>
    have ok':inR ((vs.length:Nat):Int) i∧inR ((vs.length:Nat):Int) j:=ok
    have a:=hs.at ok'.1
    have b:=hs.at ok'.2
    have eb:=znj (v:=.plus i j) (vs:=vs) (z:=(z0,z1)) (g:=g) trivial
    refine zaA (o:=.lst (vs.map frD)) hw (zaP ok'.1) ?_
    refine zaA (o:=.lst (vs.map frD)) hw (zaP ok'.2) ?_
    refine⟨.plus i j,rfl,trivial,⟨⟨hz,a.1,b.1⟩,hg,sz0,sz1,a.2.1,a.2.2,b.2.1,b.2.2⟩,λe T pr=>?_,λx' e T pr=>?_⟩
    ·refine h1 ?_ T pr
     rw[eb]
     unfold bk2
     rw[show hfS (z0,z1) (gt vs (Nd.ij (.plus i j)).1) (gt vs (Nd.ij (.plus i j)).2) g true (.plus i j)=none from e]
    have zx:=Sz.in2 a.2.1 a.2.2 (zny (v:=.plus i j) (z:=(z0,z1)) trivial hz a.1 b.1 hg.1 x' e)
    have fin:∀Y:Int×Int,Y=(if i=j then x' else gt vs j)→(Y.1≤Y.2∧Sz 1000 Y.1∧Sz 1000 Y.2)∧(hfS (z0,z1) Y x' g false (.plus i j)=none→Nd.bk vs (z0,z1) g (.plus i j)=none)∧∀y',hfS (z0,z1) Y x' g false (.plus i j)=some y'→Nd.bk vs (z0,z1) g (.plus i j)=some [(i,x'),(j,y')]:=λY eY=>by
     refine⟨?_,λe2=>?_,λy' e2=>?_⟩
     ·subst eY
      split
      ·exact zx
      ·exact b
     ·rw[eb]
      unfold bk2
      rw[show hfS (z0,z1) (gt vs (Nd.ij (.plus i j)).1) (gt vs (Nd.ij (.plus i j)).2) g true (.plus i j)=some x' from e]
      dsimp only
      rw[show (if (Nd.ij (.plus i j)).1=(Nd.ij (.plus i j)).2 then x' else gt vs (Nd.ij (.plus i j)).2)=Y from eY.symm,e2]
     ·rw[eb]
      unfold bk2
      rw[show hfS (z0,z1) (gt vs (Nd.ij (.plus i j)).1) (gt vs (Nd.ij (.plus i j)).2) g true (.plus i j)=some x' from e]
      dsimp only
      rw[show (if (Nd.ij (.plus i j)).1=(Nd.ij (.plus i j)).2 then x' else gt vs (Nd.ij (.plus i j)).2)=Y from eY.symm,e2]
      rfl
    refine ifD (λc=>?_) (λc=>?_)
    ·obtain⟨yz,f1,f2⟩:=fin x' (if_pos c).symm
     refine⟨.plus i j,rfl,trivial,⟨⟨hz,yz.1,zx.1⟩,hg,sz0,sz1,yz.2.1,yz.2.2,zx.2.1,zx.2.2⟩,λe2 T2 pr2=>?_,λy' e2 T2 pr2=>?_⟩
     ·exact h1 (f1 e2) T2 (pr.trans pr2)
     ·exact h2 _ (f2 y' e2) _ _ (zbz (pr.trans pr2) _) (by have z1:=zbZ pr; have z2:=zbZ pr2; omega) (zaB _ _)
    ·obtain⟨yz,f1,f2⟩:=fin (gt vs j) (if_neg c).symm
     refine⟨.plus i j,rfl,trivial,⟨⟨hz,yz.1,zx.1⟩,hg,sz0,sz1,yz.2.1,yz.2.2,zx.2.1,zx.2.2⟩,λe2 T2 pr2=>?_,λy' e2 T2 pr2=>?_⟩
     ·exact h1 (f1 e2) T2 (pr.trans pr2)
     ·exact h2 _ (f2 y' e2) _ _ (zbz (pr.trans pr2) _) (by have z1:=zbZ pr; have z2:=zbZ pr2; omega) (zaB _ _)
   | minus i j=>
    have ok':inR ((vs.length:Nat):Int) i∧inR ((vs.length:Nat):Int) j:=ok
    have a:=hs.at ok'.1
    have b:=hs.at ok'.2
    have eb:=znj (v:=.minus i j) (vs:=vs) (z:=(z0,z1)) (g:=g) trivial
    refine zaA (o:=.lst (vs.map frD)) hw (zaP ok'.1) ?_
    refine zaA (o:=.lst (vs.map frD)) hw (zaP ok'.2) ?_
    refine⟨.minus i j,rfl,trivial,⟨⟨hz,a.1,b.1⟩,hg,sz0,sz1,a.2.1,a.2.2,b.2.1,b.2.2⟩,λe T pr=>?_,λx' e T pr=>?_⟩
    ·refine h1 ?_ T pr
     rw[eb]
     unfold bk2
     rw[show hfS (z0,z1) (gt vs (Nd.ij (.minus i j)).1) (gt vs (Nd.ij (.minus i j)).2) g true (.minus i j)=none from e]
    have zx:=Sz.in2 a.2.1 a.2.2 (zny (v:=.minus i j) (z:=(z0,z1)) trivial hz a.1 b.1 hg.1 x' e)
    have fin:∀Y:Int×Int,Y=(if i=j then x' else gt vs j)→(Y.1≤Y.2∧Sz 1000 Y.1∧Sz 1000 Y.2)∧(hfS (z0,z1) Y x' g false (.minus i j)=none→Nd.bk vs (z0,z1) g (.minus i j)=none)∧∀y',hfS (z0,z1) Y x' g false (.minus i j)=some y'→Nd.bk vs (z0,z1) g (.minus i j)=some [(i,x'),(j,y')]:=λY eY=>by
     refine⟨?_,λe2=>?_,λy' e2=>?_⟩
     ·subst eY
      split
      ·exact zx
      ·exact b
     ·rw[eb]
      unfold bk2
      rw[show hfS (z0,z1) (gt vs (Nd.ij (.minus i j)).1) (gt vs (Nd.ij (.minus i j)).2) g true (.minus i j)=some x' from e]
      dsimp only
      rw[show (if (Nd.ij (.minus i j)).1=(Nd.ij (.minus i j)).2 then x' else gt vs (Nd.ij (.minus i j)).2)=Y from eY.symm,e2]
     ·rw[eb]
      unfold bk2
      rw[show hfS (z0,z1) (gt vs (Nd.ij (.minus i j)).1) (gt vs (Nd.ij (.minus i j)).2) g true (.minus i j)=some x' from e]
      dsimp only
      rw[show (if (Nd.ij (.minus i j)).1=(Nd.ij (.minus i j)).2 then x' else gt vs (Nd.ij (.minus i j)).2)=Y from eY.symm,e2]
      rfl
    refine ifD (λc=>?_) (λc=>?_)
    ·obtain⟨yz,f1,f2⟩:=fin x' (if_pos c).symm
     refine⟨.minus i j,rfl,trivial,⟨⟨hz,yz.1,zx.1⟩,hg,sz0,sz1,yz.2.1,yz.2.2,zx.2.1,zx.2.2⟩,λe2 T2 pr2=>?_,λy' e2 T2 pr2=>?_⟩
     ·exact h1 (f1 e2) T2 (pr.trans pr2)
     ·exact h2 _ (f2 y' e2) _ _ (zbz (pr.trans pr2) _) (by have z1:=zbZ pr; have z2:=zbZ pr2; omega) (zaB _ _)
    ·obtain⟨yz,f1,f2⟩:=fin (gt vs j) (if_neg c).symm
     refine⟨.minus i j,rfl,trivial,⟨⟨hz,yz.1,zx.1⟩,hg,sz0,sz1,yz.2.1,yz.2.2,zx.2.1,zx.2.2⟩,λe2 T2 pr2=>?_,λy' e2 T2 pr2=>?_⟩
     ·exact h1 (f1 e2) T2 (pr.trans pr2)
     ·exact h2 _ (f2 y' e2) _ _ (zbz (pr.trans pr2) _) (by have z1:=zbZ pr; have z2:=zbZ pr2; omega) (zaB _ _)
   | times i j=>
    have ok':inR ((vs.length:Nat):Int) i∧inR ((vs.length:Nat):Int) j:=ok
    have a:=hs.at ok'.1
    have b:=hs.at ok'.2
    have eb:=znj (v:=.times i j) (vs:=vs) (z:=(z0,z1)) (g:=g) trivial
    refine zaA (o:=.lst (vs.map frD)) hw (zaP ok'.1) ?_
    refine zaA (o:=.lst (vs.map frD)) hw (zaP ok'.2) ?_
    refine⟨.times i j,rfl,trivial,⟨⟨hz,a.1,b.1⟩,hg,sz0,sz1,a.2.1,a.2.2,b.2.1,b.2.2⟩,λe T pr=>?_,λx' e T pr=>?_⟩
    ·refine h1 ?_ T pr
     rw[eb]
     unfold bk2
     rw[show hfS (z0,z1) (gt vs (Nd.ij (.times i j)).1) (gt vs (Nd.ij (.times i j)).2) g true (.times i j)=none from e]
    have zx:=Sz.in2 a.2.1 a.2.2 (zny (v:=.times i j) (z:=(z0,z1)) trivial hz a.1 b.1 hg.1 x' e)
    have fin:∀Y:Int×Int,Y=(if i=j then x' else gt vs j)→(Y.1≤Y.2∧Sz 1000 Y.1∧Sz 1000 Y.2)∧(hfS (z0,z1) Y x' g false (.times i j)=none→Nd.bk vs (z0,z1) g (.times i j)=none)∧∀y',hfS (z0,z1) Y x' g false (.times i j)=some y'→Nd.bk vs (z0,z1) g (.times i j)=some [(i,x'),(j,y')]:=λY eY=>by
     refine⟨?_,λe2=>?_,λy' e2=>?_⟩
     ·subst eY
      split
      ·exact zx
      ·exact b
     ·rw[eb]
      unfold bk2
      rw[show hfS (z0,z1) (gt vs (Nd.ij (.times i j)).1) (gt vs (Nd.ij (.times i j)).2) g true (.times i j)=some x' from e]
      dsimp only
      rw[show (if (Nd.ij (.times i j)).1=(Nd.ij (.times i j)).2 then x' else gt vs (Nd.ij (.times i j)).2)=Y from eY.symm,e2]
     ·rw[eb]
      unfold bk2
      rw[show hfS (z0,z1) (gt vs (Nd.ij (.times i j)).1) (gt vs (Nd.ij (.times i j)).2) g true (.times i j)=some x' from e]
      dsimp only
      rw[show (if (Nd.ij (.times i j)).1=(Nd.ij (.times i j)).2 then x' else gt vs (Nd.ij (.times i j)).2)=Y from eY.symm,e2]
      rfl
    refine ifD (λc=>?_) (λc=>?_)
    ·obtain⟨yz,f1,f2⟩:=fin x' (if_pos c).symm
     refine⟨.times i j,rfl,trivial,⟨⟨hz,yz.1,zx.1⟩,hg,sz0,sz1,yz.2.1,yz.2.2,zx.2.1,zx.2.2⟩,λe2 T2 pr2=>?_,λy' e2 T2 pr2=>?_⟩
     ·exact h1 (f1 e2) T2 (pr.trans pr2)
     ·exact h2 _ (f2 y' e2) _ _ (zbz (pr.trans pr2) _) (by have z1:=zbZ pr; have z2:=zbZ pr2; omega) (zaB _ _)
    ·obtain⟨yz,f1,f2⟩:=fin (gt vs j) (if_neg c).symm
     refine⟨.times i j,rfl,trivial,⟨⟨hz,yz.1,zx.1⟩,hg,sz0,sz1,yz.2.1,yz.2.2,zx.2.1,zx.2.2⟩,λe2 T2 pr2=>?_,λy' e2 T2 pr2=>?_⟩
     ·exact h1 (f1 e2) T2 (pr.trans pr2)
     ·exact h2 _ (f2 y' e2) _ _ (zbz (pr.trans pr2) _) (by have z1:=zbZ pr; have z2:=zbZ pr2; omega) (zaB _ _)
  ·exact h.elim⟩)
def zrd  (zk4:Df K mg "_law_narrowed" zih zhd)(zoX:Fk P w K mg base 6 "_law_back" zhk zgR)(zdi:Fk P w K mg base 1 "_law_meet" zft zeL)(zfe:Fk P w K mg base 3 "_law_worths" zen zeK)(zbd:mg "range"=none)(zbA:mg "list"=none)(zaE:mg "max"=none):Fk P w K mg base 7 "_law_narrowed" zhd zfT:=
 zk4.mk' (zax (k:=6) zk4.F zc3 (zut) λcdv A outer s H E hr=>⟨_,(zae (zal (i:=4) zc3.nd rfl (Or.inl rfl) (zaq zfe hr (zaa (zj4 (dv 0) zqP (zfd (zaf zaY (zad (dv 1) zab (λ_ _=>rfl)) zab))) (zaa (dv 2) (zaa (dv 3) zac))))) (zae (zal (i:=5) zc3.nd rfl (Or.inl rfl) zab) (zae (zau (zar (zaI hr) (zad (dv 1) zab (λ_ _=>rfl)) zaL (zap _)) (zag (zal (i:=5) zc3.nd rfl (Or.inl rfl) (zaF (zbl rfl) rfl zaE Boot.«max» (zaa zab (zaa (zad (zaJ (dv 4) (zad (dv 1) zab (λ_ _=>rfl)) (λ_ _=>rfl)) zab (λ_ _=>rfl)) zac))))) zav) (zae (zfC (dv 4) (zad (dv 1) zab (λ_ _=>rfl)) (zaq zdi hr (zaa (zaJ (dv 4) (zad (dv 1) zab (λ_ _=>rfl)) (λ_ _=>rfl)) (zaa (zay (zaa zab (zaa (dv 5) zac))) zac)))) (zae (zau (zar zbE (zaJ (dv 4) (zad (dv 1) zab (λ_ _=>rfl)) (λ_ _=>rfl)) zaK (zap _)) (zag (zak zaK)) zav) (zae (zpO (i:=6) PassesOwn.never rfl zc3.nd rfl (Or.inl rfl) rfl zbd (zaa (zad (dv 1) zab (λ_ _=>rfl)) (zaa (zaZ za0 zab) (zaa (zaZ za0 zab) zac))) (zae (zal (i:=7) zc3.nd rfl (Or.inl rfl) (zaq zoX hr (zaa (zaJ (dv 0) (dv 6) (λ_ _=>rfl)) (zaa (dv 4) (zaa (zaJ (dv 4) (dv 6) (λ_ _=>rfl)) (zaa (dv 3) zac)))))) (zae (zau (zar zbE (dv 7) zaK (zap _)) (zag (zak zaK)) zav) (zag (ztb (is:=[8,9]) PassesOwn.never rfl zc3.nd (Nms.cons (i:=8) rfl (Or.inl rfl) (by first | exact .inl rfl | exact .inr rfl) (Nms.cons (i:=9) rfl (Or.inl rfl) (by first | exact .inl rfl | exact .inr rfl) Nms.nil)) (dv 7) (zag (zfC (dv 4) (dv 8) (dv 9)))))))) (zae (zal (i:=10) zc3.nd rfl (Or.inl rfl) (zjA (zbg zm5) rfl zbA Boot.«list» (zaa (dv 2) zac))) (zae (znX (i:=6) PassesOwn.never rfl zc3.nd rfl (Or.inl rfl) rfl zbd (zaa (zaf zaY (zad (dv 1) zab (λ_ _=>rfl)) zab) zac) (zag (zau (zar (zaI hr) (zad (zaJ (dv 0) (dv 6) (λ_ _=>rfl)) zab (λ_ _=>rfl)) zaL (zap _)) (zag (zfC (dv 10) (zad (zaJ (dv 0) (dv 6) (λ_ _=>rfl)) zab (λ_ _=>rfl)) (zaJ (dv 4) (dv 6) (λ_ _=>rfl)))) zav))) (zag (zak (dv 10))))))))))),λds S Q ex h=>by
  unfold zfT at h
  split at h
  ·rename_i a w k b g
   obtain⟨ns,ws,bs,zero,ha,hb,hw,⟨k0,k1⟩,net,sb,hg,hl,h1,h2⟩:=h
   obtain⟨kn,rfl⟩:∃kn:Nat,k=(kn:Int):=⟨k.toNat,by omega⟩
   rw[Vat] at h1 h2
   have hk:kn<ns.length:=by omega
   refine zle (n:=a) (o:=.lst (ns.map Nd.d)) (lo:=none) (hi:=some ((kn:Int)+1)) (S3:=S) (λK hK=>by exact hK) (λK hK=>by exact hK) (λK hK=>by exact hK) ha ?_
   have ec:zbv (ns.map Nd.d) none (some ((kn:Int)+1))=(ns.take (kn+1)).map Nd.d:=by
    rw[zqV (by omega) (by rw[Vaa]; omega),List.map_take]
    rfl
   rw[show zat (Ob.lst (ns.map Nd.d))=ns.map Nd.d from rfl,ec]
   refine⟨ns.take (kn+1),ws.take (kn+1),bs,zaB _ _,zaH hb,net.take _,sb,hg,by rw[Var]; omega,λT m pr lm hf=>?_⟩
   have prS:Pre S T:=λn o e=>pr n o (zaH e)
   have lm':S.length≤m:=by
    have z:(S++[Ob.lst ((ns.take (kn+1)).map Nd.d)]).length≤m:=lm
    rw[Vay] at z
    omega
   have s1:Spn 1000 (zaC bs g (ns.take (kn+1))):=zd7 net rfl sb hg (kn+1) (by omega)
   have l1:(zaC bs g (ns.take (kn+1))).length=kn+1:=by rw[zc5,Var]; omega
   have ik:inR (((zaC bs g (ns.take (kn+1))).length:Nat):Int) (kn:Int):=⟨by omega,by omega⟩
   have a1:=s1.at ik
   have am:=zwg zero (gt (zaC bs g (ns.take (kn+1))) (kn:Int))
   dsimp only
   refine zd2 (λdl2 S2=>T=S2∧dl2=[some (.ref a),some (.tup [.str w,.int (kn:Int)]),some (.ref b),some (.int g),some (.ref m),some (.int (zer zero (gt (zaC bs g (ns.take (kn+1))) (kn:Int)))),none,none,none,none,none]) (λnx hn=>?_) ?_
   ·rcases hw with ⟨rfl,rfl⟩ | ⟨rfl,rfl⟩
    ·exact hn _ _ ⟨rfl,rfl⟩
    ·refine zaA (o:=.lst ((zaC bs g (ns.take (kn+1))).map frD)) hf (zaP ik) ?_
     exact hn _ _ ⟨rfl,rfl⟩
   rintro dl2 S2 ⟨rfl,rfl⟩
   cases ea:zc2 zero (gt (zaC bs g (ns.take (kn+1))) (kn:Int)) with
   | none=>
    refine zdM (n:=m) (k:=(kn:Int)) (j:=kn) (xs:=(zaC bs g (ns.take (kn+1))).map frD) (v:=.non) (λK hK=>?_) (λK hK=>by exact hK) (λK hK=>by exact hK) hf (by rw[Vaa,zdJ ik]; rfl) ?_
    ·refine zaA (o:=.lst ((zaC bs g (ns.take (kn+1))).map frD)) hf (zaP ik) ?_
     exact⟨λ_=>hK,λp e=>absurd (am.symm.trans e) (by rw[ea]; simp)⟩
    refine zaA (o:=.lst (((zaC bs g (ns.take (kn+1))).map frD).set kn .non)) (zbm hf) (d:=.non) (zdq (by show (((zaC bs g (ns.take (kn+1))).map frD).set kn .non)[kn]?=_; rw[VaN (by rw[Vaa]; omega)])) ?_
    refine h1 ?_ _ (zby prS lm')
    unfold nwS sbS
    rw[ea]
    rfl
   | some wd=>
    have es:sbS ns zero kn bs g=zb9 g ns (kn+1) ((zaC bs g (ns.take (kn+1))).set kn wd):=by
     unfold sbS
     rw[ea]
    have zw:=Sz.in2 a1.2.1 a1.2.2 (zlM wd ea)
    refine zdM (n:=m) (k:=(kn:Int)) (j:=kn) (xs:=(zaC bs g (ns.take (kn+1))).map frD) (v:=frD wd) (λK hK=>?_) (λK hK=>by exact hK) (λK hK=>by exact hK) hf (by rw[Vaa,zdJ ik]; rfl) ?_
    ·refine zaA (o:=.lst ((zaC bs g (ns.take (kn+1))).map frD)) hf (zaP ik) ?_
     refine⟨λe=>absurd (am.symm.trans e) (by rw[ea]; simp),λp e=>?_⟩
     cases (ea.symm.trans (am.symm.trans e))
     exact hK
    rw[ze5]
    have ik2:inR ((((zaC bs g (ns.take (kn+1))).set kn wd).length:Nat):Int) (kn:Int):=by rw[VaG]; exact ik
    refine zaA (o:=.lst (((zaC bs g (ns.take (kn+1))).set kn wd).map frD)) (zbm hf) (zaP ik2) ?_
    refine⟨rfl,⟨by omega,by omega,by omega,by omega⟩,λt dl' S'=>t≤kn+1∧Pre S S'∧∃us:List (Int×Int),S'[m]?=some (.lst (us.map frD))∧us.length=kn+1∧Spn 1000 us∧zb9 g ns (kn+1-t) us=sbS ns zero kn bs g∧∃u6 u7 u8 u9:Option D,dl'=[some (.ref a),some (.tup [.str w,.int (kn:Int)]),some (.ref b),some (.int g),some (.ref m),some (.int (zer zero (gt (zaC bs g (ns.take (kn+1))) (kn:Int)))),u6,u7,u8,u9,none],⟨by omega,zby prS lm',_,zbm hf,by rw[VaG]; exact l1,s1.set2 zw,es.symm,_,_,_,_,rfl⟩,?_⟩
    rintro t dl' S' ⟨ht,prt,us,hu,lu,su,eb,u6,u7,u8,u9,rfl⟩
    refine zey (λtc=>?_) (λtc=>?_)
    ·have tc':t<kn+1:=by
      have z:t<((kn:Int) - -1).toNat:=tc
      omega
     obtain⟨j,ej⟩:∃j:Nat,kn=j+t:=⟨kn-t,by omega⟩
     have en:(kn:Int)-(t:Int)=(j:Int):=by omega
     have ek:kn+1-t=j+1:=by omega
     have hv:ns[j]?=some ns[j]:=Vam (by omega)
     generalize ns[j]=v at hv
     have ok:v.ok us.length bs.length:=zom (by omega) (net.ok j v hv).1
     have ij:inR ((us.length:Nat):Int) (j:Int):=⟨by omega,by omega⟩
     rw[en]
     rw[ek] at eb
     refine zaA (o:=.lst (ns.map Nd.d)) (prt _ _ ha) (zgJ hv) ?_
     refine zaA (o:=.lst (us.map frD)) hu (zaP ij) ?_
     refine⟨v,us,bs.length,rfl,hu,ok,su,su.at ij,hg,λe T9 pr9=>?_,λl e T9 m9 pr9 lm9 h9=>?_⟩
     ·refine h1 ?_ _ (prt.trans pr9)
      unfold nwS
      rw[← eb,znD hv e]
      rfl
     have P:=v.bk_pts su (su.at ij).1 hg.1 l ok e
     rw[znY hv e] at eb
     have lS:m<S'.length:=zcg hu
     refine zsF (n:=m9) (xs:=l.map ptD) (λi dl2 S2=>i≤l.length∧Pre S S2∧S2[m]?=some (.lst ((zbN us (l.take i)).map frD))∧S2[m9]?=some (.lst (l.map ptD))∧∃u8 u9:Option D,dl2=[some (.ref a),some (.tup [.str w,.int (kn:Int)]),some (.ref b),some (.int g),some (.ref m),some (.int (zer zero (gt (zaC bs g (ns.take (kn+1))) (kn:Int)))),some (.int (j:Int)),some (.ref m9),u8,u9,none]) (λK hK=>by exact hK) ⟨Vau _,prt.trans pr9,pr9 _ _ hu,h9,_,_,rfl⟩ (λi dl2 S2 z=>z.2.2.2.1) (λk d hd=>by rw[Vae] at hd; obtain⟨q,_,rfl⟩:=Vah.mp hd; exact⟨_,rfl,rfl⟩) ?_ ?_
     ·rintro i ys dl2 S2 nx ct ex' ⟨hi,pr2,hu2,hl2,u8,u9,rfl⟩ hn
      rw[Vae] at ex'
      obtain⟨p,hp,ey⟩:=Vah.mp ex'
      cases ey
      have hi':=(Vac.mp hp).1
      have Pp:=P.2 p (Vaj hp)
      have ipp:inR (((zbN us (l.take i)).length:Nat):Int) p.1:=by rw[zd0]; exact Pp.1
      refine zdM (n:=m) (k:=p.1) (j:=p.1.toNat) (xs:=(zbN us (l.take i)).map frD) (v:=frD p.2) (λK hK=>by exact hK) (λK hK=>by exact hK) (λK hK=>by exact hK) hu2 (by rw[Vaa]; exact zdJ ipp) ?_
      rw[ze5,← zpg,← zbL hp]
      refine hn _ _ ⟨by omega,zby pr2 lm',zbm hu2,zbq hl2 (by omega),_,_,rfl⟩
     ·rintro dl2 S2 ⟨hi,pr2,hu2,hl2,u8,u9,rfl⟩
      rw[Vaa,VaM] at hu2
      refine⟨by omega,pr2,_,hu2,by rw[zd0]; exact lu,zmD l us su λp hp=>(P.2 p hp).2,?_,_,_,_,_,rfl⟩
      rw[show kn+1-(t+1)=j by omega]
      exact eb
    ·have tc':¬ t<kn+1:=λz=>tc (show t<((kn:Int) - -1).toNat by omega)
     rw[show kn+1-t=0 by omega] at eb
     have e9:nwS ns zero kn bs g=some (zbk bs (ns.zip us)):=by
      unfold nwS
      rw[← eb]
      rfl
     have lz:(ns.zip us).length=kn+1:=by rw[List.length_zip]; omega
     have lS:m<S'.length:=zcg hu
     refine zjc (za9 (prt _ _ hb) rfl) ?_
     refine⟨⟨by omega,by omega⟩,λi dl' S2=>i≤kn+1∧Pre S S2∧S2[m]?=some (.lst (us.map frD))∧S2[S'.length]?=some (.lst ((zbk bs ((ns.zip us).take i)).map frD))∧∃u6 u7 u8 u9:Option D,dl'=[some (.ref a),some (.tup [.str w,.int (kn:Int)]),some (.ref b),some (.int g),some (.ref m),some (.int (zer zero (gt (zaC bs g (ns.take (kn+1))) (kn:Int)))),u6,u7,u8,u9,some (.ref S'.length)],⟨Vau _,zbz prt _,zaH hu,zaB _ _,_,_,_,_,rfl⟩,?_⟩
     rintro i dl' S2 ⟨hi,pr',hu',hl',u6,u7,u8,u9,rfl⟩
     refine zey (λic=>?_) (λic=>?_)
     ·have ic':i<kn+1:=by
       have z:i<((kn:Int)+1).toNat:=ic
       omega
      have hp:us[i]?=some us[i]:=Vam (by omega)
      have hv:ns[i]?=some ns[i]:=Vam (by omega)
      have eu:us[i]=gt us (i:Int):=(gt_at hp).symm
      generalize us[i]=p at hp eu
      generalize ns[i]=v at hv
      have hz:=zqg hv hp
      have iu:inR ((us.length:Nat):Int) (i:Int):=⟨by omega,by omega⟩
      have lp:=(zo2 net rfl (us:=us) (bs:=bs) (λ_ _=>True) (λ_ _=>trivial) (λ_ _ _ _=>trivial) i (by omega)).1
      have es':zbk bs ((ns.zip us).take (i+1))=match v with
       | .unknown u=>(zbk bs ((ns.zip us).take i)).set u.toNat p
       | _=>zbk bs ((ns.zip us).take i):=by
       rw[zbL hz,znf]
       cases v <;> rfl
      have okv:=(net.ok i v hv).1
      refine zaA (o:=.lst (ns.map Nd.d)) (pr' _ _ ha) (zgJ hv) ?_
      cases v with
      | unknown u=>
       have oku:inR (((zbk bs ((ns.zip us).take i)).length:Nat):Int) u:=by rw[lp]; exact okv
       refine zdM (n:=S'.length) (k:=u) (j:=u.toNat) (xs:=(zbk bs ((ns.zip us).take i)).map frD) (v:=frD p) (λK hK=>?_) (λK hK=>by exact hK) (λK hK=>?_) hl' (by rw[Vaa]; exact zdJ oku) ?_
       ·refine zaA (o:=.lst (us.map frD)) hu' (zaP iu) ?_
        rw[← eu]
        exact hK
       ·refine zaA (o:=.lst (ns.map Nd.d)) (pr' _ _ ha) (zgJ hv) ?_
        exact hK
       rw[ze5]
       refine⟨by omega,zby pr' (by omega),zbq hu' (by omega),?_,_,_,_,_,rfl⟩
       rw[es']
       exact zbm hl'
      | number _ _=>exact⟨by omega,pr',hu',by rw[es']; exact hl',_,_,_,_,rfl⟩
      | plus _ _=>exact⟨by omega,pr',hu',by rw[es']; exact hl',_,_,_,_,rfl⟩
      | minus _ _=>exact⟨by omega,pr',hu',by rw[es']; exact hl',_,_,_,_,rfl⟩
      | times _ _=>exact⟨by omega,pr',hu',by rw[es']; exact hl',_,_,_,_,rfl⟩
      | power _ _=>exact⟨by omega,pr',hu',by rw[es']; exact hl',_,_,_,_,rfl⟩
     ·have ei:i=kn+1:=by
       have z:¬ i<((kn:Int)+1).toNat:=ic
       omega
      subst ei
      rw[List.take_of_length_le (by omega)] at hl'
      exact h2 _ S2 S'.length e9 pr' (by omega) hl'
  ·exact h.elim⟩)
def zr0  (ziU:Df K mg "_law_whole" zlD zhK)(zbQ:mg "isinstance"=none)(zde:mg "bool"=none)(zdz:mg "int"=none)(zeJ:Kit K "bool")(zeA:Kit K "int"):Fk P w K mg base 1 "_law_whole" zhK zgF:=
 ziU.mk' (zax (k:=0) ziU.F zwj (zrv) λcdv A outer s H E hr=>⟨_,(zag (zak (zkl (zon zeA rfl zbQ rfl zdz Boot.«int» (dv 0)) (zns (zsc (zon zeJ rfl zbQ rfl zde Boot.«bool» (dv 0))))))),λds S Q ex h=>by
  unfold zgF at h
  split at h
  ·exact h
  ·exact h.elim⟩)
def zxJ  (zly:Df K mg "_law_span_is" zmW zgo)(zkY:Fk P w K mg base 1 "_law_whole" zhK zgF)(za2:mg "len"=none)(zbQ:mg "isinstance"=none)(zdu:mg "tuple"=none)(zfm:Kit K "tuple"):Fk P w K mg base 2 "_law_span_is" zgo zgZ:=
 zly.mk' (zax (k:=1) zly.F ztl (ztY) λcdv A outer s H E hr=>⟨_,(zae (zau (PDW.pt (zcz (zlq (zdb (zon zfm rfl zbQ rfl zdu Boot.«tuple» (dv 0)))) (zcM (zar (zj1 hr) (zaF zcf rfl za2 Boot.«len» (zaa (dv 0) zac)) zab (zap _))))) (zag (zak zdD)) zav) (zag (zak (zkl (zaq zkY hr (zaa (zad (dv 0) zab (λ_ _=>rfl)) zac)) (zkl (zaq zkY hr (zaa (zad (dv 0) zab (λ_ _=>rfl)) zac)) (zns (zee zcu (zad (dv 0) zab (λ_ _=>rfl)) (zad (dv 0) zab (λ_ _=>rfl)) (zap _)))))))),λds S Q ex h=>by
  unfold zgZ at h
  split at h
  ·obtain⟨hab,h⟩:=h
   exact qt (Q:=Q) (decide_eq_true hab) h
  ·exact h.elim⟩)
def zrj  (zl7:Df K mg "_law_spans_are" zjn zgq)(zoT:Fk P w K mg base 2 "_law_span_is" zgo zgZ)(za2:mg "len"=none)(zbQ:mg "isinstance"=none)(zbA:mg "list"=none):Fk P w K mg base 3 "_law_spans_are" zgq zgT:=
 zl7.mk' (zax (k:=2) zl7.F zqw (zuf) λcdv A outer s H E hr=>⟨_,(zae (zau (PDW.pt (zcz (zlq (zdb (zrb (zw1 _) rfl zbQ rfl zbA Boot.«list» (dv 0)))) (zcM (zar (zj1 hr) (zaF (zbg zcf) rfl za2 Boot.«len» (zaa (dv 0) zac)) (dv 1) (zap _))))) (zag (zak zdD)) zav) (zae (zcO (i:=2) PassesOwn.never rfl zqw.nd rfl (Or.inl rfl) (dv 0) (zag (zau (zlq (zdb (zaq zoT hr (zaa (dv 2) zac)))) (zag (zak zdD)) zav))) (zag (zak zdD)))),λds S Q ex h=>by
  unfold zgT at h
  split at h
  ·rename_i a m
   obtain⟨vs,h1,rfl,hp,h⟩:=h
   refine zwa (n:=a) (λK hK=>by exact hK) h1 ?_
   refine zbJ ?_
   refine zcC h1 ?_
   rw[Vaa]
   refine ifN (λc=>absurd rfl c) (λ_=>?_)
   refine zb6 (n:=a) (o:=.lst (vs.map frD)) (λk dl' S'=>S'=S∧∃u:Option D,dl'=[some (.ref a),some (.int (vs.length:Nat)),u]) ⟨rfl,_,rfl⟩ (λk dl' S' w=>by rw[w.1]; exact h1) ?_ (λdl' S' w=>by rw[w.1]; exact h)
   rintro k x dl' S' nx ct ex' ⟨rfl,u,rfl⟩ hn
   obtain⟨p,hpm,rfl⟩:=VaY.mp (Vaj ex')
   refine⟨hp p hpm,?_⟩
   exact hn _ _ ⟨rfl,_,rfl⟩
  ·exact h.elim⟩)
def zx1  (zmF:Df K mg "law" zdU zix)(zoH:Fk P w K mg base 7 "_law_narrowed" zhd zfT)(zoa:Fk P w K mg base 3 "_law_spans_are" zgq zgT)(znz:Fk P w K mg base 9 "narrowed" zgj zhU)(znw:Fk P w K mg base 6 "_law_drawn" zgX zf7)(zbA:mg "list"=none)(za2:mg "len"=none):Fk P w K mg base 10 "law" zix zev:=
 zmF.mk' (zax (k:=9) zmF.F ze7 zsa λcdv A outer s H E hr=>⟨_,(zae (zs9 (is:=[1,2,3,4]) rfl ze7.nd (Nms.cons (i:=1) rfl (Or.inl rfl) (by first | exact .inl rfl | exact .inr rfl) (Nms.cons (i:=2) rfl (Or.inl rfl) (by first | exact .inl rfl | exact .inr rfl) (Nms.cons (i:=3) rfl (Or.inl rfl) (by first | exact .inl rfl | exact .inr rfl) (Nms.cons (i:=4) rfl (Or.inl rfl) (by first | exact .inl rfl | exact .inr rfl) Nms.nil)))) (zaq znw hr (zaa (dv 0) zac))) (zae (zal (i:=5) ze7.nd rfl (Or.inl rfl) (zaF (zbg zcf) rfl za2 Boot.«len» (zaa (dv 2) zac))) (zae (zal (i:=6) ze7.nd rfl (Or.inl rfl) (zjA (zbg zm5) rfl zbA Boot.«list» (zaa (dv 3) zac))) (zae (zal (i:=7) ze7.nd rfl (Or.inl rfl) (zjA (zbg zm5) rfl zbA Boot.«list» (zaa (dv 2) zac))) (zae (zal (i:=8) ze7.nd rfl (Or.inl rfl) (zaq znz hr (zaa (dv 6) (zaa (dv 4) (zaa (dv 7) (zaa (dv 1) zac)))))) (zae (zau (PDW.pt (zc8 (zar zga (dv 8) zaK (zap _)) (zdW (zlq (zdb (zaq zoa hr (zaa (dv 8) (zaa (dv 5) zac)))))))) (zag (zak zdD)) zav) (zae (zau (zar (zr7 hr) (dv 8) (zaq zoH hr (zaa (dv 3) (zaa (dv 4) (zaa (dv 2) (zaa (dv 1) zac))))) (zap _)) (zag (zak zdD)) zav) (zag (zak (zkl (zee (zqf hr) (dv 6) (dv 3) (zap _)) (zns (zee (zqf hr) (dv 7) (dv 2) (zap _))))))))))))),λds S Q ex h=>by
  obtain⟨ns,rfl,rfl,hl,h⟩:=h
  refine⟨ns,rfl,rfl,hl,λT0 g k bs vs ws m1 m2 w zero pr0 hg hB hN net sb lb l70 hw lk=>?_⟩
  have hkk:inR ((vs.length:Nat):Int) (k:Int):=⟨by omega,by omega⟩
  refine⟨rfl,?_⟩
  refine zcC hB ?_
  rw[Vaa]
  refine zjc (za9 hN rfl) ?_
  refine zjc (za9 (zaH hB) rfl) ?_
  have H1:=zaH (T:=[.lst (bs.map frD)]) (zaB T0 (.lst (vs.map Nd.d)))
  have O1:=zaB (T0++[.lst (vs.map Nd.d)]) (.lst (bs.map frD))
  have lf:∀ {n:Nat} {o:Ob},T0[n]?=some o→(T0++[Ob.lst (vs.map Nd.d)]++[Ob.lst (bs.map frD)])[n]?=some o:=λe=>zaH (zaH e)
  have N1:=lf hN
  have B1:=lf hB
  dsimp only
  refine zd2 (λdl2 S3=>Pre (T0++[Ob.lst (vs.map Nd.d)]++[Ob.lst (bs.map frD)]) S3∧∃fd:D,FdAt (nwS vs zero k bs g) 0 S3 fd∧dl2=[some (.ref 0),some (.int g),some (.ref m1),some (.ref m2),some (.tup [.str w,.int (k:Int)]),some (.int ((bs.length:Nat):Int)),some (.ref T0.length),some (.ref (T0++[Ob.lst (vs.map Nd.d)]).length),some fd]) (λnx hn=>?_) ?_
  ·refine⟨vs,ws,bs,zero,H1,O1,hw,hkk,net,sb,hg,l70,?_,?_⟩
   ·rw[Vat]
    intro e T3 pr3
    exact hn _ _ ⟨pr3,.non,.inl ⟨rfl,e⟩,rfl⟩
   ·rw[Vat]
    intro r T3 mf e pr3 lm3 hr
    obtain⟨lr,sr⟩:=zxz net sb hg lk e
    refine⟨r,hr,by rw[lr],λp hp=>(sr p hp).1,?_⟩
    exact hn _ _ ⟨pr3,.ref mf,.inr ⟨r,mf,rfl,e,hr,Vau _⟩,rfl⟩
  rintro dl2 S3 ⟨prU,fd,hfd,rfl⟩
  refine⟨vs,ws,bs,zero,prU _ _ N1,prU _ _ B1,hw,hkk,net,sb,hg,l70,?_,?_⟩
  ·rw[Vat]
   intro e T4 pr4
   rcases hfd with ⟨rfl,_⟩ | ⟨r,mf,rfl,er,_⟩
   ·refine zx4 ?_
    refine zbJ ?_
    refine zkV (b:=true) (pr4 _ _ (prU _ _ H1)) (pr4 _ _ (prU _ _ N1)) (zn1 _) ?_
    refine zkV (b:=true) (pr4 _ _ (prU _ _ O1)) (pr4 _ _ (prU _ _ B1)) (zk5 _) ?_
    exact h _
   ·exact absurd (e.symm.trans er) (by simp)
  ·rw[Vat]
   intro r T4 m4 e pr4 lm4 hr4
   rcases hfd with ⟨rfl,en⟩ | ⟨r',mf,rfl,er,hmf,_⟩
   ·exact absurd (en.symm.trans e) (by simp)
   ·cases (er.symm.trans e)
    refine zxW (k:=1) (b:=true) (za9 (pr4 _ _ hmf) rfl) (za9 hr4 rfl) (zk5 _) ?_
    refine zbJ ?_
    refine zkV (b:=true) (pr4 _ _ (prU _ _ H1)) (pr4 _ _ (prU _ _ N1)) (zn1 _) ?_
    refine zkV (b:=true) (pr4 _ _ (prU _ _ O1)) (pr4 _ _ (prU _ _ B1)) (zk5 _) ?_
    exact h _⟩)
end
theorem zuF {l:PySem.W.OpenLaw}{w:World}{K:PySem.W.Frag}{h:Heap}{mg:Str→Option Value}{fa:Addr}(X:K.In h)(G:h.Ns mainGlobals mg)(hfa:mg "law"=some (.ref fa))
  {zci:Addr}(zjo:PySem.W.nsIn K mainGlobals "Number"=some (some (.ref zci)))(zkg:PySem.W.plainGet K zci Str.empty=true)(zis:PySem.W.hasDictIn K zci=true)(zi3:PySem.W.plainOver K zci=true)(zm1:PySem.W.findIn K (.ref zci) "__setattr__"=some (some (.builtin "object.__setattr__")))(zlk:PySem.W.makesIn K zci=true)(zi0:PySem.W.keepIn K (.ref zci)=true)
  (ziJ:PySem.W.findIn K (.ref zci) "bottom"=some none)
  (zm8:PySem.W.findIn K (.ref zci) "top"=some none)
  {zcs:Addr}(zmB:PySem.W.nsIn K mainGlobals "Unknown"=some (some (.ref zcs)))(zko:PySem.W.plainGet K zcs Str.empty=true)(zjU:PySem.W.hasDictIn K zcs=true)(zjO:PySem.W.plainOver K zcs=true)(zmu:PySem.W.findIn K (.ref zcs) "__setattr__"=some (some (.builtin "object.__setattr__")))(zjB:PySem.W.makesIn K zcs=true)(zmr:PySem.W.keepIn K (.ref zcs)=true)
  (zmS:PySem.W.findIn K (.ref zcs) "place"=some none)
  {zbU:Addr}(zkb:PySem.W.nsIn K mainGlobals "Plus"=some (some (.ref zbU)))(ziw:PySem.W.plainGet K zbU Str.empty=true)(zik:PySem.W.hasDictIn K zbU=true)(zjh:PySem.W.plainOver K zbU=true)(zj6:PySem.W.findIn K (.ref zbU) "__setattr__"=some (some (.builtin "object.__setattr__")))(zin:PySem.W.makesIn K zbU=true)(zln:PySem.W.keepIn K (.ref zbU)=true)
  (zkk:PySem.W.findIn K (.ref zbU) "other"=some none)
  (zlR:PySem.W.findIn K (.ref zbU) "one"=some none)
  {zbT:Addr}(zka:PySem.W.nsIn K mainGlobals "Minus"=some (some (.ref zbT)))(ziP:PySem.W.plainGet K zbT Str.empty=true)(zmq:PySem.W.hasDictIn K zbT=true)(zlm:PySem.W.plainOver K zbT=true)(zmm:PySem.W.findIn K (.ref zbT) "__setattr__"=some (some (.builtin "object.__setattr__")))(zie:PySem.W.makesIn K zbT=true)(zjr:PySem.W.keepIn K (.ref zbT)=true)
  (zmb:PySem.W.findIn K (.ref zbT) "other"=some none)
  (zjm:PySem.W.findIn K (.ref zbT) "one"=some none)
  {zbR:Addr}(zkQ:PySem.W.nsIn K mainGlobals "Times"=some (some (.ref zbR)))(zmA:PySem.W.plainGet K zbR Str.empty=true)(zlT:PySem.W.hasDictIn K zbR=true)(zlp:PySem.W.plainOver K zbR=true)(zjp:PySem.W.findIn K (.ref zbR) "__setattr__"=some (some (.builtin "object.__setattr__")))(ziu:PySem.W.makesIn K zbR=true)(zjw:PySem.W.keepIn K (.ref zbR)=true)
  (zl4:PySem.W.findIn K (.ref zbR) "other"=some none)
  (zif:PySem.W.findIn K (.ref zbR) "one"=some none)
  {zcb:Addr}(zil:PySem.W.nsIn K mainGlobals "Power"=some (some (.ref zcb)))(zmz:PySem.W.plainGet K zcb Str.empty=true)(zlA:PySem.W.hasDictIn K zcb=true)(zmd:PySem.W.plainOver K zcb=true)(zjK:PySem.W.findIn K (.ref zcb) "__setattr__"=some (some (.builtin "object.__setattr__")))(zmN:PySem.W.makesIn K zcb=true)(ziD:PySem.W.keepIn K (.ref zcb)=true)
  (zkz:PySem.W.findIn K (.ref zcb) "many"=some none)
  (zlY:PySem.W.findIn K (.ref zcb) "one"=some none)
  {f0 h0:Addr}{m0:Value}(a0:nsA K "_law_grid" f0)(l0:lkA K f0 "_law_grid" "_law_grid" ziZ m0 h0)(c0:cdA K h0 "_law_grid")
  {f1 h1:Addr}{m1:Value}(a1:nsA K "_law_divisor" f1)(l1:lkA K f1 "_law_divisor" "_law_divisor" zmZ m1 h1)(c1:cdA K h1 "_law_divisor")
  {f2 h2:Addr}{m2:Value}(a2:nsA K "_law_fraction" f2)(l2:lkA K f2 "_law_fraction" "_law_fraction" zjj m2 h2)(c2:cdA K h2 "_law_fraction")
  {f3 h3:Addr}{m3:Value}(a3:nsA K "_law_number" f3)(l3:lkA K f3 "_law_number" "_law_number" zjS m3 h3)(c3:cdA K h3 "_law_number")
  {f4 h4:Addr}{m4:Value}(a4:nsA K "_law_node" f4)(l4:lkA K f4 "_law_node" "_law_node" zk0 m4 h4)(c4:cdA K h4 "_law_node")
  {f5 h5:Addr}{m5:Value}(a5:nsA K "_law_weight" f5)(l5:lkA K f5 "_law_weight" "_law_weight" zl0 m5 h5)(c5:cdA K h5 "_law_weight")
  {f6 h6:Addr}{m6:Value}(a6:nsA K "_law_net" f6)(l6:lkA K f6 "_law_net" "_law_net" zeQ m6 h6)(c6:cdA K h6 "_law_net")
  {f7 h7:Addr}{m7:Value}(a7:nsA K "_law_power" f7)(l7:lkA K f7 "_law_power" "_law_power" zjs m7 h7)(c7:cdA K h7 "_law_power")
  {f8 h8:Addr}{m8:Value}(a8:nsA K "_law_forth" f8)(l8:lkA K f8 "_law_forth" "_law_forth" zmL m8 h8)(c8:cdA K h8 "_law_forth")
  {f9 h9:Addr}{m9:Value}(a9:nsA K "_law_worths" f9)(l9:lkA K f9 "_law_worths" "_law_worths" zm3 m9 h9)(c9:cdA K h9 "_law_worths")
  {f10 h10:Addr}{m10:Value}(a10:nsA K "_law_row_by" f10)(l10:lkA K f10 "_law_row_by" "_law_row_by" zl3 m10 h10)(c10:cdA K h10 "_law_row_by")
  {f11 h11:Addr}{m11:Value}(a11:nsA K "_law_digit_span" f11)(l11:lkA K f11 "_law_digit_span" "_law_digit_span" zlI m11 h11)(c11:cdA K h11 "_law_digit_span")
  {f12 h12:Addr}{m12:Value}(a12:nsA K "_law_digit_node" f12)(l12:lkA K f12 "_law_digit_node" "_law_digit_node" zkf m12 h12)(c12:cdA K h12 "_law_digit_node")
  {f13 h13:Addr}{m13:Value}(a13:nsA K "_law_by_digits" f13)(l13:lkA K f13 "_law_by_digits" "_law_by_digits" zfs m13 h13)(c13:cdA K h13 "_law_by_digits")
  {f14 h14:Addr}{m14:Value}(a14:nsA K "_law_cell" f14)(l14:lkA K f14 "_law_cell" "_law_cell" zlh m14 h14)(c14:cdA K h14 "_law_cell")
  {f15 h15:Addr}{m15:Value}(a15:nsA K "_law_span" f15)(l15:lkA K f15 "_law_span" "_law_span" zjM m15 h15)(c15:cdA K h15 "_law_span")
  {f16 h16:Addr}{m16:Value}(a16:nsA K "_law_drawn" f16)(l16:lkA K f16 "_law_drawn" "_law_drawn" zhO m16 h16)(c16:cdA K h16 "_law_drawn")
  {f17 h17:Addr}{m17:Value}(a17:nsA K "less" f17)(l17:lkA K f17 "less" "less" ziE m17 h17)(c17:cdA K h17 "less")
  {f18 h18:Addr}{m18:Value}(a18:nsA K "rounded_up" f18)(l18:lkA K f18 "rounded_up" "rounded_up" zj2 m18 h18)(c18:cdA K h18 "rounded_up")
  {f19 h19:Addr}{m19:Value}(a19:nsA K "span_of" f19)(l19:lkA K f19 "span_of" "span_of" ziC m19 h19)(c19:cdA K h19 "span_of")
  {f20 h20:Addr}{m20:Value}(a20:fdA K zci "forth" f20)(l20:lkA K f20 "forth" "Number.forth" zkX m20 h20)(c20:cdA K h20 "Number.forth")
  {f21 h21:Addr}{m21:Value}(a21:fdA K zcs "forth" f21)(l21:lkA K f21 "forth" "Unknown.forth" zlu m21 h21)(c21:cdA K h21 "Unknown.forth")
  {f22 h22:Addr}{m22:Value}(a22:nsA K "add_spans" f22)(l22:lkA K f22 "add_spans" "add_spans" ziS m22 h22)(c22:cdA K h22 "add_spans")
  {f23 h23:Addr}{m23:Value}(a23:fdA K zbU "forth" f23)(l23:lkA K f23 "forth" "Plus.forth" zkq m23 h23)(c23:cdA K h23 "Plus.forth")
  {f24 h24:Addr}{m24:Value}(a24:nsA K "take_spans" f24)(l24:lkA K f24 "take_spans" "take_spans" zid m24 h24)(c24:cdA K h24 "take_spans")
  {f25 h25:Addr}{m25:Value}(a25:fdA K zbT "forth" f25)(l25:lkA K f25 "forth" "Minus.forth" zjF m25 h25)(c25:cdA K h25 "Minus.forth")
  {f26 h26:Addr}{m26:Value}(a26:nsA K "mul_spans" f26)(l26:lkA K f26 "mul_spans" "mul_spans" zki m26 h26)(c26:cdA K h26 "mul_spans")
  {f27 h27:Addr}{m27:Value}(a27:fdA K zbR "forth" f27)(l27:lkA K f27 "forth" "Times.forth" zme m27 h27)(c27:cdA K h27 "Times.forth")
  {f28 h28:Addr}{m28:Value}(a28:nsA K "raised" f28)(l28:lkA K f28 "raised" "raised" zjb m28 h28)(c28:cdA K h28 "raised")
  {f29 h29:Addr}{m29:Value}(a29:nsA K "raise_span" f29)(l29:lkA K f29 "raise_span" "raise_span" zhr m29 h29)(c29:cdA K h29 "raise_span")
  {f30 h30:Addr}{m30:Value}(a30:fdA K zcb "forth" f30)(l30:lkA K f30 "forth" "Power.forth" zmG m30 h30)(c30:cdA K h30 "Power.forth")
  {f31 h31:Addr}{m31:Value}(a31:fdA K zcb "__init__" f31)(l31:lkA K f31 "__init__" "Power.__init__" ziM m31 h31)(c31:cdA K h31 "Power.__init__")
  {f32 h32:Addr}{m32:Value}(a32:fdA K zci "__init__" f32)(l32:lkA K f32 "__init__" "Number.__init__" zmt m32 h32)(c32:cdA K h32 "Number.__init__")
  {f33 h33:Addr}{m33:Value}(a33:fdA K zcs "__init__" f33)(l33:lkA K f33 "__init__" "Unknown.__init__" zi7 m33 h33)(c33:cdA K h33 "Unknown.__init__")
  {f34 h34:Addr}{m34:Value}(a34:fdA K zbU "__init__" f34)(l34:lkA K f34 "__init__" "Pair.__init__" zk9 m34 h34)(c34:cdA K h34 "Pair.__init__")
  {f35 h35:Addr}{m35:Value}(a35:fdA K zbT "__init__" f35)(l35:lkA K f35 "__init__" "Pair.__init__" zkO m35 h35)(c35:cdA K h35 "Pair.__init__")
  {f36 h36:Addr}{m36:Value}(a36:fdA K zbR "__init__" f36)(l36:lkA K f36 "__init__" "Pair.__init__" zml m36 h36)(c36:cdA K h36 "Pair.__init__")
  {f37 h37:Addr}{m37:Value}(a37:nsA K "kind_of" f37)(l37:lkA K f37 "kind_of" "kind_of" zj3 m37 h37)(c37:cdA K h37 "kind_of")
  {f38 h38:Addr}{m38:Value}(a38:nsA K "worths" f38)(l38:lkA K f38 "worths" "worths" zmH m38 h38)(c38:cdA K h38 "worths")
  {f39 h39:Addr}{m39:Value}(a39:nsA K "common" f39)(l39:lkA K f39 "common" "common" zlW m39 h39)(c39:cdA K h39 "common")
  {f40 h40:Addr}{m40:Value}(a40:nsA K "asked_of" f40)(l40:lkA K f40 "asked_of" "asked_of" zkx m40 h40)(c40:cdA K h40 "asked_of")
  {f41 h41:Addr}{m41:Value}(a41:fdA K zci "back" f41)(l41:lkA K f41 "back" "Number.back" zmf m41 h41)(c41:cdA K h41 "Number.back")
  {f42 h42:Addr}{m42:Value}(a42:fdA K zcs "back" f42)(l42:lkA K f42 "back" "Unknown.back" ziG m42 h42)(c42:cdA K h42 "Unknown.back")
  {f43 h43:Addr}{m43:Value}(a43:fdA K zbU "first_left" f43)(l43:lkA K f43 "first_left" "Plus.first_left" zms m43 h43)(c43:cdA K h43 "Plus.first_left")
  {f44 h44:Addr}{m44:Value}(a44:fdA K zbU "second_left" f44)(l44:lkA K f44 "second_left" "Plus.second_left" zlz m44 h44)(c44:cdA K h44 "Plus.second_left")
  {f45 h45:Addr}{m45:Value}(a45:fdA K zbU "back" f45)(l45:lkA K f45 "back" "Pair.back" zkC m45 h45)(c45:cdA K h45 "Pair.back")
  {f46 h46:Addr}{m46:Value}(a46:fdA K zbT "first_left" f46)(l46:lkA K f46 "first_left" "Minus.first_left" zlj m46 h46)(c46:cdA K h46 "Minus.first_left")
  {f47 h47:Addr}{m47:Value}(a47:fdA K zbT "second_left" f47)(l47:lkA K f47 "second_left" "Minus.second_left" zk2 m47 h47)(c47:cdA K h47 "Minus.second_left")
  {f48 h48:Addr}{m48:Value}(a48:fdA K zbT "back" f48)(l48:lkA K f48 "back" "Pair.back" zi1 m48 h48)(c48:cdA K h48 "Pair.back")
  {f49 h49:Addr}{m49:Value}(a49:nsA K "holds_nought" f49)(l49:lkA K f49 "holds_nought" "holds_nought" ziX m49 h49)(c49:cdA K h49 "holds_nought")
  {f50 h50:Addr}{m50:Value}(a50:nsA K "part_between" f50)(l50:lkA K f50 "part_between" "part_between" zkj m50 h50)(c50:cdA K h50 "part_between")
  {f51 h51:Addr}{m51:Value}(a51:nsA K "quotient" f51)(l51:lkA K f51 "quotient" "quotient" zmQ m51 h51)(c51:cdA K h51 "quotient")
  {f52 h52:Addr}{m52:Value}(a52:nsA K "back_by_side" f52)(l52:lkA K f52 "back_by_side" "back_by_side" zij m52 h52)(c52:cdA K h52 "back_by_side")
  {f53 h53:Addr}{m53:Value}(a53:nsA K "hull" f53)(l53:lkA K f53 "hull" "hull" ziO m53 h53)(c53:cdA K h53 "hull")
  {f54 h54:Addr}{m54:Value}(a54:nsA K "joined" f54)(l54:lkA K f54 "joined" "joined" zmi m54 h54)(c54:cdA K h54 "joined")
  {f55 h55:Addr}{m55:Value}(a55:nsA K "opposite" f55)(l55:lkA K f55 "opposite" "opposite" zjY m55 h55)(c55:cdA K h55 "opposite")
  {f56 h56:Addr}{m56:Value}(a56:nsA K "back_times" f56)(l56:lkA K f56 "back_times" "back_times" zkM m56 h56)(c56:cdA K h56 "back_times")
  {f57 h57:Addr}{m57:Value}(a57:fdA K zbR "first_left" f57)(l57:lkA K f57 "first_left" "Times.first_left" zk7 m57 h57)(c57:cdA K h57 "Times.first_left")
  {f58 h58:Addr}{m58:Value}(a58:fdA K zbR "second_left" f58)(l58:lkA K f58 "second_left" "Times.second_left" zjq m58 h58)(c58:cdA K h58 "Times.second_left")
  {f59 h59:Addr}{m59:Value}(a59:fdA K zbR "back" f59)(l59:lkA K f59 "back" "Pair.back" zjt m59 h59)(c59:cdA K h59 "Pair.back")
  {f60 h60:Addr}{m60:Value}(a60:nsA K "next_guess" f60)(l60:lkA K f60 "next_guess" "next_guess" zlK m60 h60)(c60:cdA K h60 "next_guess")
  {f61 h61:Addr}{m61:Value}(a61:nsA K "root_below" f61)(l61:lkA K f61 "root_below" "root_below" zmM m61 h61)(c61:cdA K h61 "root_below")
  {f62 h62:Addr}{m62:Value}(a62:nsA K "root" f62)(l62:lkA K f62 "root" "root" zg1 m62 h62)(c62:cdA K h62 "root")
  {f63 h63:Addr}{m63:Value}(a63:nsA K "back_power" f63)(l63:lkA K f63 "back_power" "back_power" zmC m63 h63)(c63:cdA K h63 "back_power")
  {f64 h64:Addr}{m64:Value}(a64:fdA K zcb "back" f64)(l64:lkA K f64 "back" "Power.back" zlC m64 h64)(c64:cdA K h64 "Power.back")
  {f65 h65:Addr}{m65:Value}(a65:nsA K "spans_back" f65)(l65:lkA K f65 "spans_back" "spans_back" zjv m65 h65)(c65:cdA K h65 "spans_back")
  {f66 h66:Addr}{m66:Value}(a66:nsA K "narrowed" f66)(l66:lkA K f66 "narrowed" "narrowed" zir m66 h66)(c66:cdA K h66 "narrowed")
  {f67 h67:Addr}{m67:Value}(a67:nsA K "_law_meet" f67)(l67:lkA K f67 "_law_meet" "_law_meet" zkI m67 h67)(c67:cdA K h67 "_law_meet")
  {f68 h68:Addr}{m68:Value}(a68:nsA K "_law_hulled" f68)(l68:lkA K f68 "_law_hulled" "_law_hulled" zd8 m68 h68)(c68:cdA K h68 "_law_hulled")
  {f69 h69:Addr}{m69:Value}(a69:nsA K "_law_kept" f69)(l69:lkA K f69 "_law_kept" "_law_kept" zkZ m69 h69)(c69:cdA K h69 "_law_kept")
  {f70 h70:Addr}{m70:Value}(a70:nsA K "_law_pieces" f70)(l70:lkA K f70 "_law_pieces" "_law_pieces" zkG m70 h70)(c70:cdA K h70 "_law_pieces")
  {f71 h71:Addr}{m71:Value}(a71:nsA K "_law_quot" f71)(l71:lkA K f71 "_law_quot" "_law_quot" zgw m71 h71)(c71:cdA K h71 "_law_quot")
  {f72 h72:Addr}{m72:Value}(a72:nsA K "_law_half" f72)(l72:lkA K f72 "_law_half" "_law_half" zi2 m72 h72)(c72:cdA K h72 "_law_half")
  {f73 h73:Addr}{m73:Value}(a73:nsA K "_law_root" f73)(l73:lkA K f73 "_law_root" "_law_root" zmx m73 h73)(c73:cdA K h73 "_law_root")
  {f74 h74:Addr}{m74:Value}(a74:nsA K "_law_down" f74)(l74:lkA K f74 "_law_down" "_law_down" zkK m74 h74)(c74:cdA K h74 "_law_down")
  {f75 h75:Addr}{m75:Value}(a75:nsA K "_law_root_kept" f75)(l75:lkA K f75 "_law_root_kept" "_law_root_kept" zmI m75 h75)(c75:cdA K h75 "_law_root_kept")
  {f76 h76:Addr}{m76:Value}(a76:nsA K "_law_rooted" f76)(l76:lkA K f76 "_law_rooted" "_law_rooted" zju m76 h76)(c76:cdA K h76 "_law_rooted")
  {f77 h77:Addr}{m77:Value}(a77:nsA K "_law_back" f77)(l77:lkA K f77 "_law_back" "_law_back" zlE m77 h77)(c77:cdA K h77 "_law_back")
  {f78 h78:Addr}{m78:Value}(a78:nsA K "_law_narrowed" f78)(l78:lkA K f78 "_law_narrowed" "_law_narrowed" zih m78 h78)(c78:cdA K h78 "_law_narrowed")
  {f79 h79:Addr}{m79:Value}(a79:nsA K "_law_whole" f79)(l79:lkA K f79 "_law_whole" "_law_whole" zlD m79 h79)(c79:cdA K h79 "_law_whole")
  {f80 h80:Addr}{m80:Value}(a80:nsA K "_law_span_is" f80)(l80:lkA K f80 "_law_span_is" "_law_span_is" zmW m80 h80)(c80:cdA K h80 "_law_span_is")
  {f81 h81:Addr}{m81:Value}(a81:nsA K "_law_spans_are" f81)(l81:lkA K f81 "_law_spans_are" "_law_spans_are" zjn m81 h81)(c81:cdA K h81 "_law_spans_are")
  {f82 h82:Addr}{m82:Value}(a82:nsA K "law" f82)(l82:lkA K f82 "law" "law" zdU m82 h82)(c82:cdA K h82 "law")
  (zbh:PySem.W.nsIn K mainGlobals "abs"=some none)
  (za2:PySem.W.nsIn K mainGlobals "len"=some none)
  (zbd:PySem.W.nsIn K mainGlobals "range"=some none)
  (zaE:PySem.W.nsIn K mainGlobals "max"=some none)
  (zaS:PySem.W.nsIn K mainGlobals "min"=some none)
  (zds:PySem.W.nsIn K mainGlobals "enumerate"=some none)
  (zbA:PySem.W.nsIn K mainGlobals "list"=some none)
  (zbQ:PySem.W.nsIn K mainGlobals "isinstance"=some none)
  (zde:PySem.W.nsIn K mainGlobals "bool"=some none)
  (zdz:PySem.W.nsIn K mainGlobals "int"=some none)
  (zdu:PySem.W.nsIn K mainGlobals "tuple"=some none)
  (zeJ:Kit K "bool")
  (zeA:Kit K "int")
  (zfm:Kit K "tuple")
  :∃fd:FuncData,(∀(s:Shared) (v:Value),BindsTo s fd ⟨[v],[]⟩ [("_law_script",v)])∧∀base:Heap,K.In base→base.Ns mainGlobals mg→zbj l.prog w K mg base (CXE l.prog w) 10 fa fd ["_law_script"] (upF K zev):=by
 have e:=hfa.symm.trans (PySem.W.mg_of X G a82)
 cases e
 let zan:zbB K mg:=⟨zci,PySem.W.mg_of X G zjo,⟨zkg,zis,zi3,zm1⟩,ziJ,zm8,zlk,zi0⟩
 let zao:zbD K mg:=⟨zcs,PySem.W.mg_of X G zmB,⟨zko,zjU,zjO,zmu⟩,zmS,zjB,zmr⟩
 let zah:zbw K mg:=⟨zbU,PySem.W.mg_of X G zkb,⟨ziw,zik,zjh,zj6⟩,zkk,zlR,zin,zln⟩
 let zaj:zbs K mg:=⟨zbT,PySem.W.mg_of X G zka,⟨ziP,zmq,zlm,zmm⟩,zmb,zjm,zie,zjr⟩
 let zai:zbu K mg:=⟨zbR,PySem.W.mg_of X G zkQ,⟨zmA,zlT,zlp,zjp⟩,zl4,zif,ziu,zjw⟩
 let zam:zbF K mg:=⟨zcb,PySem.W.mg_of X G zil,⟨zmz,zlA,zmd,zjK⟩,zkz,zlY,zmN,ziD⟩
 let ziq:Df K mg "_law_grid" ziZ zg6:=dfo X G a0 l0 c0 λ_ _ _ _ _ _=>ln1 λ_=>rfl
 let zlU:Df K mg "_law_divisor" zmZ zfU:=dfo X G a1 l1 c1 λ_ _ _ _ _ _=>ln2 λ_ _=>rfl
 let zl5:Df K mg "_law_fraction" zjj zdR:=dfo X G a2 l2 c2 λ_ _ _ _ _ _=>ln2 λ_ _=>rfl
 let zkr:Df K mg "_law_number" zjS zhB:=dfo X G a3 l3 c3 λ_ _ _ _ _ _=>ln1 λ_=>rfl
 let zmh:Df K mg "_law_node" zk0 zh4:=dfo X G a4 l4 c4 λ_ _ _ _ _ _=>ln3 λ_ _ _=>rfl
 let zlX:Df K mg "_law_weight" zl0 zeo:=dfo X G a5 l5 c5 λ_ _ _ _ _ _=>ln2 λ_ _=>rfl
 let zlt:Df K mg "_law_net" zeQ zf3:=dfo X G a6 l6 c6 λ_ _ _ _ _ _=>ln5 λ_ _ _ _ _=>rfl
 let zi9:Df K mg "_law_power" zjs zdy:=dfo X G a7 l7 c7 λ_ _ _ _ _ _=>ln2 λ_ _=>rfl
 let zlJ:Df K mg "_law_forth" zmL zgM:=dfo X G a8 l8 c8 λ_ _ _ _ _ _=>ln4 λ_ _ _ _=>rfl
 let zj9:Df K mg "_law_worths" zm3 zen:=dfo X G a9 l9 c9 λ_ _ _ _ _ _=>ln3 λ_ _ _=>rfl
 let zkS:Df K mg "_law_row_by" zl3 zhe:=dfo X G a10 l10 c10 λ_ _ _ _ _ _=>ln5 λ_ _ _ _ _=>rfl
 let zj7:Df K mg "_law_digit_span" zlI zgg:=dfo X G a11 l11 c11 λ_ _ _ _ _ _=>ln1 λ_=>rfl
 let ziB:Df K mg "_law_digit_node" zkf zhi:=dfo X G a12 l12 c12 λ_ _ _ _ _ _=>ln3 λ_ _ _=>rfl
 let zmT:Df K mg "_law_by_digits" zfs zib:=dfo X G a13 l13 c13 λ_ _ _ _ _ _=>ln1 λ_=>rfl
 let zit:Df K mg "_law_cell" zlh zgG:=dfo X G a14 l14 c14 λ_ _ _ _ _ _=>ln2 λ_ _=>rfl
 let zlF:Df K mg "_law_span" zjM zfK:=dfo X G a15 l15 c15 λ_ _ _ _ _ _=>ln1 λ_=>rfl
 let zmV:Df K mg "_law_drawn" zhO zgX:=dfo X G a16 l16 c16 λ_ _ _ _ _ _=>ln1 λ_=>rfl
 let zmJ:Df K mg "less" ziE zfI:=dfo X G a17 l17 c17 λ_ _ _ _ _ _=>ln2 λ_ _=>rfl
 let zkd:Df K mg "rounded_up" zj2 zdA:=dfo X G a18 l18 c18 λ_ _ _ _ _ _=>ln2 λ_ _=>rfl
 let zmO:Df K mg "span_of" ziC zfP:=dfo X G a19 l19 c19 λ_ _ _ _ _ _=>ln3 λ_ _ _=>rfl
 let zmn:Dm K zan.C "forth" "Number.forth" zkX zfV:=dmo a20 l20 c20 λ_ _ _ _ _ _=>ln4 λ_ _ _ _=>rfl
 let zjH:Dm K zao.C "forth" "Unknown.forth" zlu zfR:=dmo a21 l21 c21 λ_ _ _ _ _ _=>ln4 λ_ _ _ _=>rfl
 let zic:Df K mg "add_spans" ziS zfg:=dfo X G a22 l22 c22 λ_ _ _ _ _ _=>ln2 λ_ _=>rfl
 let ziL:Dm K zah.C "forth" "Plus.forth" zkq zg3:=dmo a23 l23 c23 λ_ _ _ _ _ _=>ln4 λ_ _ _ _=>rfl
 let zjC:Df K mg "take_spans" zid zdx:=dfo X G a24 l24 c24 λ_ _ _ _ _ _=>ln2 λ_ _=>rfl
 let zlb:Dm K zaj.C "forth" "Minus.forth" zjF zgK:=dmo a25 l25 c25 λ_ _ _ _ _ _=>ln4 λ_ _ _ _=>rfl
 let zjk:Df K mg "mul_spans" zki zhQ:=dfo X G a26 l26 c26 λ_ _ _ _ _ _=>ln3 λ_ _ _=>rfl
 let zjW:Dm K zai.C "forth" "Times.forth" zme zf5:=dmo a27 l27 c27 λ_ _ _ _ _ _=>ln4 λ_ _ _ _=>rfl
 let zls:Df K mg "raised" zjb zda:=dfo X G a28 l28 c28 λ_ _ _ _ _ _=>ln2 λ_ _=>rfl
 let zkN:Df K mg "raise_span" zhr zgi:=dfo X G a29 l29 c29 λ_ _ _ _ _ _=>ln3 λ_ _ _=>rfl
 let zjL:Dm K zam.C "forth" "Power.forth" zmG zgs:=dmo a30 l30 c30 λ_ _ _ _ _ _=>ln4 λ_ _ _ _=>rfl
 let zmo:Dm K zam.C "__init__" "Power.__init__" ziM zgl:=dmo a31 l31 c31 λ_ _ _ _ _ _=>ln3 λ_ _ _=>rfl
 let zkm:Dm K zan.C "__init__" "Number.__init__" zmt zg8:=dmo a32 l32 c32 λ_ _ _ _ _ _=>ln3 λ_ _ _=>rfl
 let zkL:Dm K zao.C "__init__" "Unknown.__init__" zi7 zh9:=dmo a33 l33 c33 λ_ _ _ _ _ _=>ln2 λ_ _=>rfl
 let zjP:Dm K zah.C "__init__" "Pair.__init__" zk9 zf9:=dmo a34 l34 c34 λ_ _ _ _ _ _=>ln3 λ_ _ _=>rfl
 let zkF:Dm K zaj.C "__init__" "Pair.__init__" zkO zgY:=dmo a35 l35 c35 λ_ _ _ _ _ _=>ln3 λ_ _ _=>rfl
 let ziV:Dm K zai.C "__init__" "Pair.__init__" zml zhn:=dmo a36 l36 c36 λ_ _ _ _ _ _=>ln3 λ_ _ _=>rfl
 let zim:Df K mg "kind_of" zj3 zff:=dfo X G a37 l37 c37 λ_ _ _ _ _ _=>ln1 λ_=>rfl
 let zkt:Df K mg "worths" zmH zhE:=dfo X G a38 l38 c38 λ_ _ _ _ _ _=>ln3 λ_ _ _=>rfl
 let zjx:Df K mg "common" zlW zcX:=dfo X G a39 l39 c39 λ_ _ _ _ _ _=>ln2 λ_ _=>rfl
 let zlV:Df K mg "asked_of" zkx zhf:=dfo X G a40 l40 c40 λ_ _ _ _ _ _=>ln2 λ_ _=>rfl
 let zjd:Dm K zan.C "back" "Number.back" zmf zgt:=dmo a41 l41 c41 λ_ _ _ _ _ _=>ln4 λ_ _ _ _=>rfl
 let zjV:Dm K zao.C "back" "Unknown.back" ziG zg7:=dmo a42 l42 c42 λ_ _ _ _ _ _=>ln4 λ_ _ _ _=>rfl
 let zjZ:Dm K zah.C "first_left" "Plus.first_left" zms zgH:=dmo a43 l43 c43 λ_ _ _ _ _ _=>ln5 λ_ _ _ _ _=>rfl
 let zi6:Dm K zah.C "second_left" "Plus.second_left" zlz zgz:=dmo a44 l44 c44 λ_ _ _ _ _ _=>ln5 λ_ _ _ _ _=>rfl
 let ziz:Dm K zah.C "back" "Pair.back" zkC zh0:=dmo a45 l45 c45 λ_ _ _ _ _ _=>ln4 λ_ _ _ _=>rfl
 let zm9:Dm K zaj.C "first_left" "Minus.first_left" zlj zhW:=dmo a46 l46 c46 λ_ _ _ _ _ _=>ln5 λ_ _ _ _ _=>rfl
 let zj8:Dm K zaj.C "second_left" "Minus.second_left" zk2 zhG:=dmo a47 l47 c47 λ_ _ _ _ _ _=>ln5 λ_ _ _ _ _=>rfl
 let zjf:Dm K zaj.C "back" "Pair.back" zi1 zhg:=dmo a48 l48 c48 λ_ _ _ _ _ _=>ln4 λ_ _ _ _=>rfl
 let zjE:Df K mg "holds_nought" ziX zfS:=dfo X G a49 l49 c49 λ_ _ _ _ _ _=>ln1 λ_=>rfl
 let zkP:Df K mg "part_between" zkj zfB:=dfo X G a50 l50 c50 λ_ _ _ _ _ _=>ln3 λ_ _ _=>rfl
 let zkw:Df K mg "quotient" zmQ zf6:=dfo X G a51 l51 c51 λ_ _ _ _ _ _=>ln2 λ_ _=>rfl
 let zii:Df K mg "back_by_side" zij zgv:=dfo X G a52 l52 c52 λ_ _ _ _ _ _=>ln3 λ_ _ _=>rfl
 let ziy:Df K mg "hull" ziO zhy:=dfo X G a53 l53 c53 λ_ _ _ _ _ _=>ln2 λ_ _=>rfl
 let zlB:Df K mg "joined" zmi zeM:=dfo X G a54 l54 c54 λ_ _ _ _ _ _=>ln2 λ_ _=>rfl
 let ziH:Df K mg "opposite" zjY zdE:=dfo X G a55 l55 c55 λ_ _ _ _ _ _=>ln1 λ_=>rfl
 let zky:Df K mg "back_times" zkM zeI:=dfo X G a56 l56 c56 λ_ _ _ _ _ _=>ln4 λ_ _ _ _=>rfl
 let zi5:Dm K zai.C "first_left" "Times.first_left" zk7 zfY:=dmo a57 l57 c57 λ_ _ _ _ _ _=>ln5 λ_ _ _ _ _=>rfl
 let zjg:Dm K zai.C "second_left" "Times.second_left" zjq zf1:=dmo a58 l58 c58 λ_ _ _ _ _ _=>ln5 λ_ _ _ _ _=>rfl
 let zjN:Dm K zai.C "back" "Pair.back" zjt zh5:=dmo a59 l59 c59 λ_ _ _ _ _ _=>ln4 λ_ _ _ _=>rfl
 let zmy:Df K mg "next_guess" zlK zhF:=dfo X G a60 l60 c60 λ_ _ _ _ _ _=>ln3 λ_ _ _=>rfl
 let zmE:Df K mg "root_below" zmM zeV:=dfo X G a61 l61 c61 λ_ _ _ _ _ _=>ln2 λ_ _=>rfl
 let zcR:Df K mg "root" zg1 zcY:=dfo X G a62 l62 c62 λ_ _ _ _ _ _=>ln2 λ_ _=>rfl
 let zjz:Df K mg "back_power" zmC zf2:=dfo X G a63 l63 c63 λ_ _ _ _ _ _=>ln4 λ_ _ _ _=>rfl
 let zl9:Dm K zam.C "back" "Power.back" zlC zhJ:=dmo a64 l64 c64 λ_ _ _ _ _ _=>ln4 λ_ _ _ _=>rfl
 let zli:Df K mg "spans_back" zjv zgU:=dfo X G a65 l65 c65 λ_ _ _ _ _ _=>ln4 λ_ _ _ _=>rfl
 let zjT:Df K mg "narrowed" zir zgj:=dfo X G a66 l66 c66 λ_ _ _ _ _ _=>ln4 λ_ _ _ _=>rfl
 let zlZ:Df K mg "_law_meet" zkI zft:=dfo X G a67 l67 c67 λ_ _ _ _ _ _=>ln2 λ_ _=>rfl
 let zmw:Df K mg "_law_hulled" zd8 zeG:=dfo X G a68 l68 c68 λ_ _ _ _ _ _=>ln1 λ_=>rfl
 let zm0:Df K mg "_law_kept" zkZ zh2:=dfo X G a69 l69 c69 λ_ _ _ _ _ _=>ln2 λ_ _=>rfl
 let zm2:Df K mg "_law_pieces" zkG zgr:=dfo X G a70 l70 c70 λ_ _ _ _ _ _=>ln3 λ_ _ _=>rfl
 let zk1:Df K mg "_law_quot" zgw zg2:=dfo X G a71 l71 c71 λ_ _ _ _ _ _=>ln4 λ_ _ _ _=>rfl
 let zkW:Df K mg "_law_half" zi2 zhp:=dfo X G a72 l72 c72 λ_ _ _ _ _ _=>ln6 λ_ _ _ _ _ _=>rfl
 let zmp:Df K mg "_law_root" zmx zhN:=dfo X G a73 l73 c73 λ_ _ _ _ _ _=>ln3 λ_ _ _=>rfl
 let zkn:Df K mg "_law_down" zkK zhV:=dfo X G a74 l74 c74 λ_ _ _ _ _ _=>ln3 λ_ _ _=>rfl
 let zmv:Df K mg "_law_root_kept" zmI zgx:=dfo X G a75 l75 c75 λ_ _ _ _ _ _=>ln4 λ_ _ _ _=>rfl
 let zkH:Df K mg "_law_rooted" zju zgA:=dfo X G a76 l76 c76 λ_ _ _ _ _ _=>ln4 λ_ _ _ _=>rfl
 let zi4:Df K mg "_law_back" zlE zhk:=dfo X G a77 l77 c77 λ_ _ _ _ _ _=>ln4 λ_ _ _ _=>rfl
 let zk4:Df K mg "_law_narrowed" zih zhd:=dfo X G a78 l78 c78 λ_ _ _ _ _ _=>ln4 λ_ _ _ _=>rfl
 let ziU:Df K mg "_law_whole" zlD zhK:=dfo X G a79 l79 c79 λ_ _ _ _ _ _=>ln1 λ_=>rfl
 let zly:Df K mg "_law_span_is" zmW zgo:=dfo X G a80 l80 c80 λ_ _ _ _ _ _=>ln1 λ_=>rfl
 let zl7:Df K mg "_law_spans_are" zjn zgq:=dfo X G a81 l81 c81 λ_ _ _ _ _ _=>ln2 λ_ _=>rfl
 let zmF:Df K mg "law" zdU zix:=dfo X G a82 l82 c82 λ_ _ _ _ _ _=>ln1 λ_=>rfl
 have zbh:=PySem.W.mg_none_of X G zbh
 have za2:=PySem.W.mg_none_of X G za2
 have zbd:=PySem.W.mg_none_of X G zbd
 have zaE:=PySem.W.mg_none_of X G zaE
 have zaS:=PySem.W.mg_none_of X G zaS
 have zds:=PySem.W.mg_none_of X G zds
 have zbA:=PySem.W.mg_none_of X G zbA
 have zbQ:=PySem.W.mg_none_of X G zbQ
 have zde:=PySem.W.mg_none_of X G zde
 have zdz:=PySem.W.mg_none_of X G zdz
 have zdu:=PySem.W.mg_none_of X G zdu
 refine⟨PySem.W.fnOf "law" "law" (zd6 zdU) (zdG zdU) (zas zdU) .none .none .none m82 none (.ref h82) .none,λs v=>.of_eq rfl,λbase _ _=>?_⟩
 let zop:=zxk (P:=l.prog) (w:=w) (base:=base) ziq
 let zol:=zuZ (P:=l.prog) (w:=w) (base:=base) zlU
 let zcP:=zsk (P:=l.prog) (w:=w) (base:=base) zl5 zol zbh
 let znZ:=zsV (P:=l.prog) (w:=w) (base:=base) zkr zcP
 let zod:=zrU (P:=l.prog) (w:=w) (base:=base) zmh znZ
 let zez:=zwq (P:=l.prog) (w:=w) (base:=base) zlX
 let zng:=zxg (P:=l.prog) (w:=w) (base:=base) zlt zez zod za2 zbd
 let zbW:=zsj (P:=l.prog) (w:=w) (base:=base) zi9 zbd
 let znd:=zwH (P:=l.prog) (w:=w) (base:=base) zlJ zbW zaE zaS
 let zfe:=ztW (P:=l.prog) (w:=w) (base:=base) zj9 znd
 let zoB:=ztk (P:=l.prog) (w:=w) (base:=base) zkS zcP zfe zbh zaE za2
 let znU:=zxc (P:=l.prog) (w:=w) (base:=base) zj7
 let znn:=zuA (P:=l.prog) (w:=w) (base:=base) ziB zcP
 let zna:=zxP (P:=l.prog) (w:=w) (base:=base) zmT zez znn znU za2 zbd zbh
 let zd1:=zxA (P:=l.prog) (w:=w) (base:=base) zit za2
 let zn6:=zt3 (P:=l.prog) (w:=w) (base:=base) zlF zaS
 let znw:=zvM (P:=l.prog) (w:=w) (base:=base) zmV zoB zd1 zng zn6 zop zna zbd
 let zoG:=zxF (P:=l.prog) (w:=w) (base:=base) zmJ
 let zcr:=zxb (P:=l.prog) (w:=w) (base:=base) zkd
 let znI:=zrM (P:=l.prog) (w:=w) (base:=base) zmO zcr zoG
 let znu:=zwV (P:=l.prog) (w:=w) (base:=base) zan zao zah zaj zai zam zmn znI
 let znJ:=ztX (P:=l.prog) (w:=w) (base:=base) zao zan zah zaj zai zam zjH
 let ze8:=ztZ (P:=l.prog) (w:=w) (base:=base) zic
 let znW:=zxe (P:=l.prog) (w:=w) (base:=base) zah zan zao zaj zai zam ziL ze8
 let zcw:=zxr (P:=l.prog) (w:=w) (base:=base) zjC
 let zoC:=zxX (P:=l.prog) (w:=w) (base:=base) zaj zan zao zah zai zam zlb zcw
 let zn4:=zwf (P:=l.prog) (w:=w) (base:=base) zjk zcr zaE zaS
 let znk:=zvI (P:=l.prog) (w:=w) (base:=base) zai zan zao zah zaj zam zjW zn4
 let zbH:=zw8 (P:=l.prog) (w:=w) (base:=base) zls zbd
 let znq:=zw3 (P:=l.prog) (w:=w) (base:=base) zkN zcr zbH zaE zaS
 let znM:=zx6 (P:=l.prog) (w:=w) (base:=base) zam zan zao zah zaj zai zjL znq
 let ze9:=zq7 (P:=l.prog) (w:=w) (base:=base) zam zmo
 let zfr:=ztz (P:=l.prog) (w:=w) (base:=base) zan zkm
 let zej:=zr4 (P:=l.prog) (w:=w) (base:=base) zao zkL
 let zet:=zx9 (P:=l.prog) (w:=w) (base:=base) zah zjP
 let zeg:=ztg (P:=l.prog) (w:=w) (base:=base) zaj zkF
 let zeO:=zq9 (P:=l.prog) (w:=w) (base:=base) zai ziV
 let zfk:=zw0 (P:=l.prog) (w:=w) (base:=base) zam zai zaj zah zao zan zim ze9 zeO zeg zet zej zfr
 let znO:=ztw (P:=l.prog) (w:=w) (base:=base) zam zai zaj zah zao zan zkt znM znk zoC znW znJ znu zfk
 let zbM:=zwN (P:=l.prog) (w:=w) (base:=base) zjx zaS zaE
 let znP:=zrn (P:=l.prog) (w:=w) (base:=base) zlV zbM zaE
 let zot:=zwh (P:=l.prog) (w:=w) (base:=base) zan zao zah zaj zai zam zjd
 let zoj:=zsr (P:=l.prog) (w:=w) (base:=base) zan zao zah zaj zai zam zjV
 let zhv:=ztA (P:=l.prog) (w:=w) (base:=base) zah zjZ zbM zcw
 let zf8:=zrs (P:=l.prog) (w:=w) (base:=base) zah zi6 zbM zcw
 let zoh:=zrN (P:=l.prog) (w:=w) (base:=base) zah zan zao zaj zai zam ziz zf8 zhv
 let zhL:=zs1 (P:=l.prog) (w:=w) (base:=base) zaj zm9 zbM ze8
 let zhS:=zsQ (P:=l.prog) (w:=w) (base:=base) zaj zj8 zbM zcw
 let znr:=zvL (P:=l.prog) (w:=w) (base:=base) zaj zan zao zah zai zam zjf zhS zhL
 let ziQ:=zst (P:=l.prog) (w:=w) (base:=base) zjE
 let zdf:=zwZ (P:=l.prog) (w:=w) (base:=base) zkP zaS zaE
 let zmY:=zx0 (P:=l.prog) (w:=w) (base:=base) zkw zcr
 let zjl:=zud (P:=l.prog) (w:=w) (base:=base) zii zdf zmY
 let znb:=zxi (P:=l.prog) (w:=w) (base:=base) ziy zaE zaS
 let zei:=zsl (P:=l.prog) (w:=w) (base:=base) zlB znb
 let zcl:=zu9 (P:=l.prog) (w:=w) (base:=base) ziH
 let zfi:=ztr (P:=l.prog) (w:=w) (base:=base) zky zei zjl zcl ziQ zaE
 let zf4:=zvs (P:=l.prog) (w:=w) (base:=base) zai zi5 zfi
 let zhh:=zsd (P:=l.prog) (w:=w) (base:=base) zai zjg zfi
 let zn5:=zxL (P:=l.prog) (w:=w) (base:=base) zai zan zao zah zaj zam zjN zhh zf4
 let zj0:=zsR (P:=l.prog) (w:=w) (base:=base) zmy zbH
 let ze1:=zuu (P:=l.prog) (w:=w) (base:=base) zmE zj0
 let N_root:=Df.never (P:=l.prog) (w:=w) (base:=base) 0 zcR
 let zxl:=zvv (P:=l.prog) (w:=w) (base:=base) zcR zbH ze1 zcl N_root
 let zfl:=ztj (P:=l.prog) (w:=w) (base:=base) zcR zbH ze1 zcl zxl
 let zoV:=zr5 (P:=l.prog) (w:=w) (base:=base) zjz zei zdf zcl zfl zbH zaE
 let zoA:=zxp (P:=l.prog) (w:=w) (base:=base) zam zan zao zah zaj zai zl9 zoV
 let znF:=zuw (P:=l.prog) (w:=w) (base:=base) zam zai zaj zah zao zan zli zoA zn5 znr zoh zoj zot zfk znP znO zbd
 let znz:=zt6 (P:=l.prog) (w:=w) (base:=base) zjT znF zds zbA
 let zdi:=zuI (P:=l.prog) (w:=w) (base:=base) zlZ zaS zaE
 let zeH:=zvE (P:=l.prog) (w:=w) (base:=base) zmw zaE zaS za2
 let zoY:=zrV (P:=l.prog) (w:=w) (base:=base) zm0 zaS zaE
 let zoK:=zxf (P:=l.prog) (w:=w) (base:=base) zm2 zbh
 let znl:=zs4 (P:=l.prog) (w:=w) (base:=base) zk1 zeH zoK zoY
 let zlf:=zuX (P:=l.prog) (w:=w) (base:=base) zkW zdi znl
 let zld:=zx7 (P:=l.prog) (w:=w) (base:=base) zmp zbW
 let ze2:=zwx (P:=l.prog) (w:=w) (base:=base) zkn zbW zld
 let zhH:=zw9 (P:=l.prog) (w:=w) (base:=base) zmv ze2 zaS zaE zbh
 let znp:=zux (P:=l.prog) (w:=w) (base:=base) zkH zeH zhH zbW zaE
 let zoX:=zwX (P:=l.prog) (w:=w) (base:=base) zi4 zlf znp
 let zoH:=zrd (P:=l.prog) (w:=w) (base:=base) zk4 zoX zdi zfe zbd zbA zaE
 let zkY:=zr0 (P:=l.prog) (w:=w) (base:=base) ziU zbQ zde zdz zeJ zeA
 let zoT:=zxJ (P:=l.prog) (w:=w) (base:=base) zly zkY za2 zbQ zdu zfm
 let zoa:=zrj (P:=l.prog) (w:=w) (base:=base) zl7 zoT za2 zbQ zbA
 let G_law:=zx1 (P:=l.prog) (w:=w) (base:=base) zmF zoH zoa znz znw zbA za2
 exact G_law.ok
end Mine
open PySem PySem.W PyProof.Rows
set_option maxRecDepth 100003 in
set_option maxHeartbeats 0 in
theorem PySem.Challenge.cw_boxnarrow_k37_whole_narrowing_by_a_model_holds : PySem.Challenge.rw_boxnarrow_k37_whole_narrowing_by_a_model.Holds := by
 w_on; refine PySem.W.holds_law Mine.ws_eq λsaid=>?_
 refine PySem.W.holds_open (q:=Mine.vw) (loose:=[]) (Xt:=Mine.xt) (XP:=XL Mine.vw []) (Yf:=Hook.obs (kHook Mine.kp Mine.ks Mine.zfF)) (Ya:=Hook.val (kHook Mine.kp Mine.ks Mine.zfF))
  (YP:=Hook.says (kHook Mine.kp Mine.ks Mine.zfF)) (N:=10580) Mine.left (Hook.of (kHook Mine.kp Mine.ks Mine.zfF)) (Hook.keeps (kHook Mine.kp Mine.ks Mine.zfF)) (λs e=>xl_of s (Bool.and_eq_true_iff.mp e).1) XL.keeps
  (by rfl) (by rfl) (by rfl) (λs e=>recFacts_of (Bool.and_eq_true_iff.mp e).2) (by rfl) (by first | assumption | decide +kernel)
  (by decide +kernel) ⟨rfl,rfl,rfl,rfl,rfl,by decide +kernel⟩ ?hw ?hc
 (case hw=>w_witness2)
 k_fill
 refine L3.zrD (l:=PySem.Challenge.rw_boxnarrow_k37_whole_narrowing_by_a_model) (x:="_law_script") 10 rfl rfl ⟨rfl,by decide,by decide⟩ (λw h Y=>PySem.W.kIn_of Y) ?F
 case F=>
  intro w mg fa h KX G hmg
  refine' Mine.zuF KX G hmg (zjo:=?zjo) (zkg:=?zkg) (zis:=?zis) (zi3:=?zi3) (zm1:=?zm1) (zlk:=?zlk) (zi0:=?zi0) (ziJ:=?ziJ) (zm8:=?zm8) (zmB:=?zmB) (zko:=?zko) (zjU:=?zjU) (zjO:=?zjO) (zmu:=?zmu) (zjB:=?zjB) (zmr:=?zmr) (zmS:=?zmS) (zkb:=?zkb) (ziw:=?ziw) (zik:=?zik) (zjh:=?zjh) (zj6:=?zj6) (zin:=?zin) (zln:=?zln) (zkk:=?zkk) (zlR:=?zlR) (zka:=?zka) (ziP:=?ziP) (zmq:=?zmq) (zlm:=?zlm) (zmm:=?zmm) (zie:=?zie) (zjr:=?zjr) (zmb:=?zmb) (zjm:=?zjm) (zkQ:=?zkQ) (zmA:=?zmA) (zlT:=?zlT) (zlp:=?zlp) (zjp:=?zjp) (ziu:=?ziu) (zjw:=?zjw) (zl4:=?zl4) (zif:=?zif) (zil:=?zil) (zmz:=?zmz) (zlA:=?zlA) (zmd:=?zmd) (zjK:=?zjK) (zmN:=?zmN) (ziD:=?ziD) (zkz:=?zkz) (zlY:=?zlY) (a0:=?a0) (l0:=?l0) (c0:=?c0) (a1:=?a1) (l1:=?l1) (c1:=?c1) (a2:=?a2) (l2:=?l2) (c2:=?c2) (a3:=?a3) (l3:=?l3) (c3:=?c3) (a4:=?a4) (l4:=?l4) (c4:=?c4) (a5:=?a5) (l5:=?l5) (c5:=?c5) (a6:=?a6) (l6:=?l6) (c6:=?c6) (a7:=?a7) (l7:=?l7) (c7:=?c7) (a8:=?a8) (l8:=?l8) (c8:=?c8) (a9:=?a9) (l9:=?l9) (c9:=?c9) (a10:=?a10) (l10:=?l10) (c10:=?c10) (a11:=?a11) (l11:=?l11) (c11:=?c11) (a12:=?a12) (l12:=?l12) (c12:=?c12) (a13:=?a13) (l13:=?l13) (c13:=?c13) (a14:=?a14) (l14:=?l14) (c14:=?c14) (a15:=?a15) (l15:=?l15) (c15:=?c15) (a16:=?a16) (l16:=?l16) (c16:=?c16) (a17:=?a17) (l17:=?l17) (c17:=?c17) (a18:=?a18) (l18:=?l18) (c18:=?c18) (a19:=?a19) (l19:=?l19) (c19:=?c19) (a20:=?a20) (l20:=?l20) (c20:=?c20) (a21:=?a21) (l21:=?l21) (c21:=?c21) (a22:=?a22) (l22:=?l22) (c22:=?c22) (a23:=?a23) (l23:=?l23) (c23:=?c23) (a24:=?a24) (l24:=?l24) (c24:=?c24) (a25:=?a25) (l25:=?l25) (c25:=?c25) (a26:=?a26) (l26:=?l26) (c26:=?c26) (a27:=?a27) (l27:=?l27) (c27:=?c27) (a28:=?a28) (l28:=?l28) (c28:=?c28) (a29:=?a29) (l29:=?l29) (c29:=?c29) (a30:=?a30) (l30:=?l30) (c30:=?c30) (a31:=?a31) (l31:=?l31) (c31:=?c31) (a32:=?a32) (l32:=?l32) (c32:=?c32) (a33:=?a33) (l33:=?l33) (c33:=?c33) (a34:=?a34) (l34:=?l34) (c34:=?c34) (a35:=?a35) (l35:=?l35) (c35:=?c35) (a36:=?a36) (l36:=?l36) (c36:=?c36) (a37:=?a37) (l37:=?l37) (c37:=?c37) (a38:=?a38) (l38:=?l38) (c38:=?c38) (a39:=?a39) (l39:=?l39) (c39:=?c39) (a40:=?a40) (l40:=?l40) (c40:=?c40) (a41:=?a41) (l41:=?l41) (c41:=?c41) (a42:=?a42) (l42:=?l42) (c42:=?c42) (a43:=?a43) (l43:=?l43) (c43:=?c43) (a44:=?a44) (l44:=?l44) (c44:=?c44) (a45:=?a45) (l45:=?l45) (c45:=?c45) (a46:=?a46) (l46:=?l46) (c46:=?c46) (a47:=?a47) (l47:=?l47) (c47:=?c47) (a48:=?a48) (l48:=?l48) (c48:=?c48) (a49:=?a49) (l49:=?l49) (c49:=?c49) (a50:=?a50) (l50:=?l50) (c50:=?c50) (a51:=?a51) (l51:=?l51) (c51:=?c51) (a52:=?a52) (l52:=?l52) (c52:=?c52) (a53:=?a53) (l53:=?l53) (c53:=?c53) (a54:=?a54) (l54:=?l54) (c54:=?c54) (a55:=?a55) (l55:=?l55) (c55:=?c55) (a56:=?a56) (l56:=?l56) (c56:=?c56) (a57:=?a57) (l57:=?l57) (c57:=?c57) (a58:=?a58) (l58:=?l58) (c58:=?c58) (a59:=?a59) (l59:=?l59) (c59:=?c59) (a60:=?a60) (l60:=?l60) (c60:=?c60) (a61:=?a61) (l61:=?l61) (c61:=?c61) (a62:=?a62) (l62:=?l62) (c62:=?c62) (a63:=?a63) (l63:=?l63) (c63:=?c63) (a64:=?a64) (l64:=?l64) (c64:=?c64) (a65:=?a65) (l65:=?l65) (c65:=?c65) (a66:=?a66) (l66:=?l66) (c66:=?c66) (a67:=?a67) (l67:=?l67) (c67:=?c67) (a68:=?a68) (l68:=?l68) (c68:=?c68) (a69:=?a69) (l69:=?l69) (c69:=?c69) (a70:=?a70) (l70:=?l70) (c70:=?c70) (a71:=?a71) (l71:=?l71) (c71:=?c71) (a72:=?a72) (l72:=?l72) (c72:=?c72) (a73:=?a73) (l73:=?l73) (c73:=?c73) (a74:=?a74) (l74:=?l74) (c74:=?c74) (a75:=?a75) (l75:=?l75) (c75:=?c75) (a76:=?a76) (l76:=?l76) (c76:=?c76) (a77:=?a77) (l77:=?l77) (c77:=?c77) (a78:=?a78) (l78:=?l78) (c78:=?c78) (a79:=?a79) (l79:=?l79) (c79:=?c79) (a80:=?a80) (l80:=?l80) (c80:=?c80) (a81:=?a81) (l81:=?l81) (c81:=?c81) (a82:=?a82) (l82:=?l82) (c82:=?c82) (zbh:=?zbh) (za2:=?za2) (zbd:=?zbd) (zaE:=?zaE) (zaS:=?zaS) (zds:=?zds) (zbA:=?zbA) (zbQ:=?zbQ) (zde:=?zde) (zdz:=?zdz) (zdu:=?zdu) (zeJ:=?zeJ) (zeA:=?zeA) (zfm:=?zfm)
  (case zjo | zkg | zis | zi3 | zm1 | zlk | zi0 | ziJ | zm8 | zmB | zko | zjU | zjO | zmu | zjB | zmr | zmS | zkb | ziw | zik | zjh | zj6 | zin | zln | zkk | zlR | zka | ziP | zmq | zlm | zmm | zie | zjr | zmb | zjm | zkQ | zmA | zlT | zlp | zjp | ziu | zjw | zl4 | zif | zil | zmz | zlA | zmd | zjK | zmN | ziD | zkz | zlY | zbh | za2 | zbd | zaE | zaS | zds | zbA | zbQ | zde | zdz | zdu=>k_is)
  (case a0 | a1 | a2 | a3 | a4 | a5 | a6 | a7 | a8 | a9 | a10 | a11 | a12 | a13 | a14 | a15 | a16 | a17 | a18 | a19 | a22 | a24 | a26 | a28 | a29 | a37 | a38 | a39 | a40 | a49 | a50 | a51 | a52 | a53 | a54 | a55 | a56 | a60 | a61 | a62 | a63 | a65 | a66 | a67 | a68 | a69 | a70 | a71 | a72 | a73 | a74 | a75 | a76 | a77 | a78 | a79 | a80 | a81 | a82=>delta Mine.nsA; k_is)
  (case a20 | a21 | a23 | a25 | a27 | a30 | a31 | a32 | a33 | a34 | a35 | a36 | a41 | a42 | a43 | a44 | a45 | a46 | a47 | a48 | a57 | a58 | a59 | a64=>delta Mine.fdA; k_is)
  (case l0 | l1 | l2 | l3 | l4 | l5 | l6 | l7 | l8 | l9 | l10 | l11 | l12 | l13 | l14 | l15 | l16 | l17 | l18 | l19 | l20 | l21 | l22 | l23 | l24 | l25 | l26 | l27 | l28 | l29 | l30 | l31 | l32 | l33 | l34 | l35 | l36 | l37 | l38 | l39 | l40 | l41 | l42 | l43 | l44 | l45 | l46 | l47 | l48 | l49 | l50 | l51 | l52 | l53 | l54 | l55 | l56 | l57 | l58 | l59 | l60 | l61 | l62 | l63 | l64 | l65 | l66 | l67 | l68 | l69 | l70 | l71 | l72 | l73 | l74 | l75 | l76 | l77 | l78 | l79 | l80 | l81 | l82=>delta Mine.lkA; k_is)
  (case c0 | c1 | c2 | c3 | c4 | c5 | c6 | c7 | c8 | c9 | c10 | c11 | c12 | c13 | c14 | c15 | c16 | c17 | c18 | c19 | c20 | c21 | c22 | c23 | c24 | c25 | c26 | c27 | c28 | c29 | c30 | c31 | c32 | c33 | c34 | c35 | c36 | c37 | c38 | c39 | c40 | c41 | c42 | c43 | c44 | c45 | c46 | c47 | c48 | c49 | c50 | c51 | c52 | c53 | c54 | c55 | c56 | c57 | c58 | c59 | c60 | c61 | c62 | c63 | c64 | c65 | c66 | c67 | c68 | c69 | c70 | c71 | c72 | c73 | c74 | c75 | c76 | c77 | c78 | c79 | c80 | c81 | c82=>delta Mine.cdA; k_is)
  (case zeJ=>exact L3.znB _ _ (by simp))
  (case zeA=>exact L3.znB _ _ (by simp))
  (case zfm=>exact L3.znB _ _ (by simp))
