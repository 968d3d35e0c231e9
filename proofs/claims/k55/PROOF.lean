import PyProof.Rows.All
import Wide.All
import OpenK.AllK
import Wide.FinOn
import Lean
import PyProof.EqAt
import PyProof.EqKinds
import PyProof.TupleCall
import KE.KLam
import KE.KMinKey
import PySem.Challenge.RW_boxnarrow_k55_small_is_small
theorem zA:type_of% @List.getElem?_eq_some_iff:=@List.getElem?_eq_some_iff
theorem zB:type_of% @List.length_map:=@List.length_map
theorem zC:type_of% @Nat.le_refl:=@Nat.le_refl
theorem zD:type_of% @List.getElem?_eq_getElem:=@List.getElem?_eq_getElem
theorem zE:type_of% @List.getElem?_map:=@List.getElem?_map
theorem zF:type_of% @List.mem_of_getElem?:=@List.mem_of_getElem?
theorem zG:type_of% @Option.map_eq_some_iff:=@Option.map_eq_some_iff
theorem zH:type_of% @List.size_toArray:=@List.size_toArray
theorem zI:type_of% @List.getElem?_append_left:=@List.getElem?_append_left
theorem zJ:type_of% @Bool.false_ne_true:=@Bool.false_ne_true
theorem zK:type_of% @Nat.zero_le:=@Nat.zero_le
theorem zL:type_of% @List.length_take:=@List.length_take
theorem zM:type_of% @Nat.ne_of_lt:=@Nat.ne_of_lt
theorem zN:type_of% @Int.toNat_natCast:=@Int.toNat_natCast
theorem zO:type_of% @List.mem_map:=@List.mem_map
theorem zP:type_of% @List.length_append:=@List.length_append
theorem zQ:type_of% @Nat.lt_of_lt_of_le:=@Nat.lt_of_lt_of_le
theorem zR:type_of% @List.mem_cons:=@List.mem_cons
theorem zS:type_of% @List.mem_singleton:=@List.mem_singleton
theorem zT:type_of% @List.getD_eq_getElem?_getD:=@List.getD_eq_getElem?_getD
theorem zU:type_of% @List.length_cons:=@List.length_cons
theorem zV:type_of% @List.lookup_cons:=@List.lookup_cons
theorem zW:type_of% @List.getElem?_set_ne:=@List.getElem?_set_ne
theorem zX:type_of% @List.map_map:=@List.map_map
theorem zY:type_of% @List.map_append:=@List.map_append
theorem zZ:type_of% @List.mem_append:=@List.mem_append
theorem yA:type_of% @Int.le_refl:=@Int.le_refl
theorem yB:type_of% @List.getElem?_append_right:=@List.getElem?_append_right
theorem yC:type_of% @List.length_set:=@List.length_set
theorem yD:type_of% @Nat.le_trans:=@Nat.le_trans
theorem yE:type_of% @Int.pow_pos:=@Int.pow_pos
theorem yF:type_of% @List.take_length:=@List.take_length
theorem yG:type_of% @Nat.pow_pos:=@Nat.pow_pos
theorem yH:type_of% @List.mem_cons_of_mem:=@List.mem_cons_of_mem
theorem yI:type_of% @List.getElem?_set_self:=@List.getElem?_set_self
theorem yJ:type_of% @List.map_cons:=@List.map_cons
theorem yK:type_of% @List.mem_iff_getElem:=@List.mem_iff_getElem
theorem yL:type_of% @Nat.lt_irrefl:=@Nat.lt_irrefl
theorem yM:type_of% @List.getElem_mem:=@List.getElem_mem
theorem yN:type_of% @Nat.le_of_lt:=@Nat.le_of_lt
theorem yO:type_of% @List.mem_append_right:=@List.mem_append_right
theorem yP:type_of% @Option.isSome_iff_exists:=@Option.isSome_iff_exists
theorem yQ:type_of% @List.getElem?_eq_none_iff:=@List.getElem?_eq_none_iff
theorem yR:type_of% @List.take_of_length_le:=@List.take_of_length_le
theorem yS:type_of% @List.mem_cons_self:=@List.mem_cons_self
theorem yT:type_of% @List.append_assoc:=@List.append_assoc
theorem yU:type_of% @Nat.ne_of_gt:=@Nat.ne_of_gt
theorem yV:type_of% @Bool.eq_iff_iff:=@Bool.eq_iff_iff
theorem yW:type_of% @List.replicate_succ:=@List.replicate_succ
theorem yX:type_of% @List.not_mem_nil:=@List.not_mem_nil
theorem yY:type_of% @List.length_nil:=@List.length_nil
theorem yZ:type_of% @List.mem_range:=@List.mem_range
theorem xA:type_of% @List.append_nil:=@List.append_nil
theorem xB:type_of% @List.nodup_cons:=@List.nodup_cons
theorem xC:type_of% @List.flatten_cons:=@List.flatten_cons
theorem xD:type_of% @Int.neg_mul:=@Int.neg_mul
theorem xE:type_of% @Int.pow_succ:=@Int.pow_succ
theorem xF:type_of% @List.map_take:=@List.map_take
theorem xG:type_of% @List.getElem?_eq_none:=@List.getElem?_eq_none
set_option Elab.async false
set_option linter.all false
set_option maxRecDepth 100000
set_option genSizeOf false
set_option genInjectivity false
set_option maxHeartbeats 40000000
abbrev LI:=List (Int×Int)
abbrev LA:=List (PySem.Addr×PySem.Obj)
abbrev QW:=PySem.Challenge.pw_boxnarrow_k55_small_is_small
abbrev Fg:=PySem.W.Frag
namespace L2
open PySem PySem.Spec PyProof.Rows
def ZA (s:Stmt)(j:Nat):Stmt:=match s with
 | .ClassDef _ _ _ body _ _ _ _ _ _ _=>body.getD j (.Pass ⟨0,0,0,0⟩)
 | _=>.Pass ⟨0,0,0,0⟩
def VU (s:Stmt):Arguments:=match s with
 | .FunctionDef _ a _ _ _ _ _ _ _ _=>a
 | _=>{ posonlyargs:=[],args:=[],vararg:=none,kwonlyargs:=[],kw_defaults:=[],kwarg:=none,defaults:=[] }
def Xy (s:Stmt):List Stmt:=match s with
 | .FunctionDef _ _ b _ _ _ _ _ _ _=>b
 | _=>[]
def Zm (s:Stmt):Scope:=match s with
 | .FunctionDef _ _ _ _ _ _ sc _ _ _=>sc
 | _=>{ kind:=.function,names:=[],isGenerator:=false,isCoroutine:=false }
end L2
namespace L3
open PySem PySem.W PyProof.Rows PySem.Calls
theorem JX {α β γ δ:Type}{f:α->Option β}{A:β->γ}{B:β->δ}{a:γ}{b:δ}(h1:(λx=>(f x).map A)=λ_=>some a)(h2:(λx=>(f x).map B)=λ_=>some b):(λx=>(f x).map λs=>(A s,B s))=λ_=>some (a,b):=by
 funext x;have e1:=congrFun h1 x
 have e2:=congrFun h2 x;cases h:f x with
 | none=>rw[h] at e1;cases e1
 | some s=>
  rw[h] at e1 e2;exact congrArg some (Prod.ext (Option.some.inj e1) (Option.some.inj e2))
def goT (tb:String->Option Builtin)(p:Program)(w:World)(n₀:Nat)(ann:Option Value):Nat->SharedT->Thread->Option SharedT
 | 0,_,_=>none
 | k+1,s,t=>bif through t then some s else bif stepOk n₀ ann t then (stepT (denote tb) p w s t).bind (λr=>goT tb p w n₀ ann k r.1 r.2) else none
theorem CN:∀ {n:Nat} {s s':SharedT} {t:Thread},goT tb p w n₀ ann n s t=some s'->topRun tb p w n₀ ann n s.abs t=some s'.abs
 | 0,_,_,_,q=>nomatch q
 | n+1,s,s',t,q=>by
  unfold goT at q;unfold topRun;cases c1:through t
  ·rw[c1] at q;cases c2:stepOk n₀ ann t
   ·rw[c2] at q;exact nomatch q
   ·rw[c2] at q;obtain⟨⟨s2,t2⟩,c3,q⟩:=Option.bind_eq_some_iff.mp q;rw[stepT_spec c3];exact CN q
  ·rw[c1] at q;cases q;rfl
def KL (os:Array Obj):Nat->Nat->Nat->BT
 | 0,_,_=>.nil
 | f+1,a,b=>match os[b]? with
  | some o=>.node o (KL os f (2*a) (a+b)) (KL os f (2*a) (2*a+b))
  | none=>.nil
noncomputable def bootT (P:Params):BT:=KL (boot_heap P).objs 6 1 0
noncomputable abbrev Pn (w:World)(os:OsState):SharedT:=⟨bootT w.params,11,(boot_heap w.params).life,Array.mk [],boot_drawn,boot_toks,os⟩
def Me (s:SharedT)(a:Addr):Option Obj:=if a<s.n then (match s.tree.get a with|some o=>alive o|none=>s.abs.heap.get? a) else none
theorem zil (s:SharedT)(a:Addr):s.abs.heap.get? a=Me s a:=by
 unfold Me;split
 ·rename_i h;cases e:s.tree.get a with
  | none=>rfl
  | some o=>exact abs_get h e
 ·rename_i h;exact abs_get_none h
theorem zfm (l:List Addr)(s:SharedT):l.map s.abs.heap.get?=l.map (Me s):=List.map_congr_left λa _=>zil s a
noncomputable abbrev seenT (p q:Program)(aG:List Str)(Xt:Shared->Bool){α:Type}(YT:SharedT->α)(g0:Bool)(w:World)(s:SharedT):=
 ((staticsOk (importedModules p.main.body) (boot_heap w.params) s.abs.heap&&namesBound p s.abs.heap&&gensDone s.abs&&laidKept (boot_heap w.params) s.abs.heap),openSeen q aG (importedModules p.main.body) Xt g0 s.abs,YT s)
noncomputable abbrev K7 (p:Program)(w:World)(s:SharedT):Bool:=staticsOk (importedModules p.main.body) (boot_heap w.params) s.abs.heap&&namesBound p s.abs.heap&&gensDone s.abs&&laidKept (boot_heap w.params) s.abs.heap
def goK (tb:String->Option Builtin)(p:Program)(w:World)(n₀:Nat)(ann:Option Value):Nat->SharedT->Thread->Option (SharedT×Thread)
 | 0,s,t=>some (s,t)
 | k+1,s,t=>bif through t then none else bif stepOk n₀ ann t then (stepT (denote tb) p w s t).bind (λr=>goK tb p w n₀ ann k r.1 r.2) else none
theorem E5:∀ {n:Nat} {s s':SharedT} {t t':Thread},goK tb p w n₀ ann n s t=some (s',t')->topGo tb p w n₀ ann n s.abs t=some (s'.abs,t')
 | 0,_,_,_,_,q=>by cases q;rfl
 | n+1,s,s',t,t',q=>by
  unfold goK at q;unfold topGo;cases c1:through t
  ·rw[c1] at q;cases c2:stepOk n₀ ann t
   ·rw[c2] at q;exact nomatch q
   ·rw[c2] at q;obtain⟨⟨s2,t2⟩,c3,q⟩:=Option.bind_eq_some_iff.mp q;rw[stepT_spec c3];exact E5 q
  ·rw[c1] at q;exact nomatch q
theorem zes {p:Program}{w:World}{os:OsState}{ann:Option Value}{env:Env}{c:Code}{posa posb q:Pos}{n0 nb N2 N:Nat}{Sa Sb s':SharedT}(hc:c=Code.body (behindTheImports p) env)
  (pre:goK treeTable p w 11 ann n0 (Pn w os) (topStub p)=some (Sa,⟨denote treeTable c,c,posa,[topFrame q]⟩))
  (block:segRunT treeTable p w 11 ann 1 nb Sa (blockOf (behindTheImports p) env c posa [topFrame q])=some (.next,Sb,c,posb))
  (e:n0+(nb+N2)=N)(r:topRun treeTable p w 11 ann N2 Sb.abs (restOf (behindTheImports p) env c posb [topFrame q])=some s'.abs):topRun treeTable p w 11 ann N (Pn w os).abs (topStub p)=some s'.abs:=by
 subst e hc;exact go_top (E5 pre) (piece_block (segRun_of block) r)
theorem zh6 {p:Program}{w:World}{ann:Option Value}{env:Env}{c:Code}{pos1 aK q:Pos}{l:List Stmt}{n1 N2 m:Nat}{S1 S2 s':SharedT}
  (p1:segRunT treeTable p w 11 ann 1 n1 S1 (piecesOf (l.take m) env c pos1 [topFrame q])=some (.next,S2,c,aK))
  (r:topRun treeTable p w 11 ann N2 S2.abs (restOf (l.drop m) env c aK [topFrame q])=some s'.abs):topRun treeTable p w 11 ann (n1+N2) S1.abs (restOf l env c pos1 [topFrame q])=some s'.abs:=by
 have z:=piece_app (segRun_of p1) r;rw[List.take_append_drop] at z;exact z
theorem AJ {p q:Program}{aG:List Str}{Xt:Shared->Bool}{α:Type}{Yf:Shared->α}{YT:SharedT->α}{Ya:World->α}{N:Nat}{g0:Bool}{ann:Option Value}{go:World->OsState->Option SharedT}(hY:∀s:SharedT,Yf s.abs=YT s)(e:opening p=plainProg p.main.scope.names)(hN:Nat.ble 600 N=true)(f:∀s,fenceModules? p s=some s)
  (size:∀w:World,((boot_heap w.params).isNs mainGlobals&&(Array.mk []:Array GenState).size==0,(boot_heap w.params).objs.size,(boot_heap w.params).nsMap mainGlobals "__annotations__")=(true,11,ann))
  (hgo:∀w os s',go w os=some s'->topRun treeTable p w 11 ann N (Pn w os).abs (topStub p)=some s'.abs)
  (run:∀w:World,(λos=>(go w os).map λs=>seenT p q aG Xt YT g0 w s)=λ_=>some (true,openGood q aG,Ya w)):LeftO p q aG Xt Yf Ya N g0:=λw=>by
 obtain⟨⟨h,gs,d,k,os⟩,e1,e'⟩:=zG.mp (boot_open e hN f w);obtain⟨rfl,rfl,rfl,rfl⟩:h=boot_heap w.params/\gs=Array.mk []/\d=boot_drawn/\k=boot_toks:=by simpa using e'
 obtain⟨y1,y2,y3⟩:_/\_/\_:=by simpa only [Prod.mk.injEq] using size w
 obtain⟨s',r1,r2⟩:=zG.mp (congrFun (run w) os);obtain⟨l1,l2,l3⟩:_/\_/\_:=by simpa only [Prod.mk.injEq] using r2
 have r:topRun treeTable p w 11 ann N ⟨boot_heap w.params,Array.mk [],boot_drawn,boot_toks,os⟩ (topStub p)=some s'.abs:=hgo w os s' r1
 have t:topFrom treeTable p w N ⟨boot_heap w.params,Array.mk [],boot_drawn,boot_toks,os⟩=some s'.abs:=by
  unfold topFrom;dsimp only;rw[y1,y2,y3,r];show (match staticsOk (importedModules p.main.body) (boot_heap w.params) s'.abs.heap&&namesBound p s'.abs.heap&&gensDone s'.abs&&laidKept (boot_heap w.params) s'.abs.heap with|true=>_|false=>_)=_;rw[l1]
 unfold openEnds;rw[e1];show Option.map _ (topFrom treeTable p w N _)=_;rw[t];exact congrArg some (Prod.ext l2 ((hY s').trans l3))
theorem zbe {p q:Program}{aG:List Str}{Xt:Shared->Bool}{α:Type}{Yf:Shared->α}{YT:SharedT->α}{Ya:World->α}{N:Nat}{g0:Bool}{ann:Option Value}{go:World->OsState->Option SharedT}(hY:∀s:SharedT,Yf s.abs=YT s)(e:opening p=plainProg p.main.scope.names)(hN:Nat.ble 600 N=true)(f:∀s,fenceModules? p s=some s)
  (size:∀w:World,((boot_heap w.params).isNs mainGlobals&&(Array.mk []:Array GenState).size==0,(boot_heap w.params).objs.size,(boot_heap w.params).nsMap mainGlobals "__annotations__")=(true,11,ann))
  (hgo:∀w os s',go w os=some s'->topRun treeTable p w 11 ann N (Pn w os).abs (topStub p)=some s'.abs)
  (ra:∀w:World,(λos=>(go w os).map λs=>(K7 p w s,(openSeen q aG (importedModules p.main.body) Xt g0 s.abs).1))=λ_=>some (true,(openGood q aG).1))
  (rb:∀w:World,(λos=>(go w os).map λs=>((openSeen q aG (importedModules p.main.body) Xt g0 s.abs).2.1,(openSeen q aG (importedModules p.main.body) Xt g0 s.abs).2.2.1))=λ_=>some ((openGood q aG).2.1,(openGood q aG).2.2.1))
  (rc:∀w:World,(λos=>(go w os).map λs=>(openSeen q aG (importedModules p.main.body) Xt g0 s.abs).2.2.2)=λ_=>some (openGood q aG).2.2.2)
  (objs:∀w:World,(λos=>(go w os).map YT)=λ_=>some (Ya w)):LeftO p q aG Xt Yf Ya N g0:=by
 refine AJ hY e hN f size hgo λw=>funext λos=>?_
 obtain⟨s1,a1,b1⟩:=zG.mp (congrFun (ra w) os);obtain⟨s2,a2,b2⟩:=zG.mp (congrFun (rb w) os);obtain⟨s3,a3,b3⟩:=zG.mp (congrFun (rc w) os);obtain⟨s4,a4,b4⟩:=zG.mp (congrFun (objs w) os);rw[a1] at a2 a3 a4;cases a2;cases a3;cases a4;obtain⟨l1,l2⟩:=Prod.mk.inj b1;obtain⟨l3,l4⟩:=Prod.mk.inj b2;have l5:openSeen q aG (importedModules p.main.body) Xt g0 s1.abs=openGood q aG:=Prod.ext l2 (Prod.ext l3 (Prod.ext l4 b3));rw[a1];show some (K7 p w s1,openSeen q aG (importedModules p.main.body) Xt g0 s1.abs,YT s1)=some (true,openGood q aG,Ya w);rw[l1,l5,b4]
def frc {α:Type}:BT->(BT->α)->α
 | .nil,k=>k .nil
 | .node o l r,k=>frc l λl'=>frc r λr'=>k (.node o l' r')
theorem Gv:∀(t:BT)(k:BT->α),frc t k=k t
 | .nil,_=>rfl
 | .node o l r,k=>by
  show frc l (λl'=>frc r λr'=>k (.node o l' r'))=_;rw[Gv l,Gv r]
def odB:List Obj->List Obj
 | x::_::r=>x::odB r
 | l=>l
def evB:List Obj->List Obj
 | _::y::r=>y::evB r
 | _=>[]
def mkB:Nat->List Obj->BT
 | d+1,o::l=>.node o (mkB d (odB l)) (mkB d (evB l))
 | _,_=>.nil
abbrev tpO (l:List Value):Obj:=⟨.type "tuple",none,.seq ⟨l⟩ 0,#[]⟩
abbrev fdO (l:List Value):Obj:=⟨.none,none,.fields ⟨l⟩,#[]⟩
def nmO:Nat->List Str->List Value
 | _,[]=>[]
 | t,x::r=>.str x t::nmO (t+1) r
abbrev coO (n q:Str)(t j:Nat)(i k:Int)(a s:Nat)(y z:Value)(f:Nat):Obj:=⟨.type "code",none,.fields #[.str n t,.str q (t+1),.str "/claim/cut.py" (t+2),.int i 0,.int k 0,.int 0 0,.int 0 0,.int 3 0,.ref a,.bool Bool.true,.int 181 0,.ref s,.none,y,z,.ref f,.int j 0,.int i 0,.str "/claim/cut.py" (j+1)],#[]⟩
abbrev fuO (n q:Str)(st:Stmt)(m d:Value):Obj:=⟨.type "function",none,.func (W.fnOf n q (L2.VU st) (L2.Xy st) (L2.Zm st) .none .none .none m none d .none),#[]⟩
abbrev fnO (n q:Str)(st:Stmt):Obj:=⟨.none,none,.func { W.fnOf n q (L2.VU st) (L2.Xy st) (L2.Zm st) .none .none .none .none none .none .none with globals:=0 },#[]⟩
def df (n q:Str)(st:Stmt)(m:Value)(i k:Int)(a t:Nat)(vs:List Str):List Obj:=[tpO [],fdO [],tpO (nmO (t+3) vs),tpO [],fnO n q st,coO n q t (t+3+vs.length) i k a (a+1) (.ref (a+2)) (.ref (a+3)) (a+4),fuO n q st m (.ref (a+5))]
def dg (n q:Str)(st:Stmt)(m:Value)(i k:Int)(a t:Nat):List Obj:=[tpO [],fdO [],fnO n q st,coO n q t (t+3) i k a (a+1) .none .none (a+2),fuO n q st m (.ref (a+3))]
end L3
namespace Mine
open PySem PySem.Spec PyProof.Rows L2 L3
theorem kId {α:Type}{p:α->Prop}(K:α)(h:p K):p K:=h
def top (i:Nat):Stmt:=QW.main.body.getD i (.Pass ⟨0,0,0,0⟩)
theorem ws_eq:W.OpenLaw.wellSaid PySem.Challenge.rw_boxnarrow_k55_small_is_small=true:=by
 unfold W.OpenLaw.wellSaid
 repeat' (with_reducible refine W.look_both ?_ ?_)
 all_goals decide +kernel
def vw:Program:={ QW with main:={ QW.main with body:=[top 0,top 2,top 3,top 4,top 5,top 6,top 7,top 8,top 10,top 11,top 13,top 14,top 16,top 17,top 18,top 19,top 20,top 21,top 22,top 23,top 24,top 25,top 26,top 27,top 29,top 30,top 31,top 32,top 33,top 34,top 35,top 36,top 37,top 38,top 39,top 41,top 42,top 43,top 44,top 45,top 46,top 47,top 48,top 49,top 51,top 52,top 53,top 55,top 57,top 58,top 59,top 60,top 61,top 62,top 63,top 64,top 65,top 66,top 67,top 68,top 69,top 71,top 72,top 73,top 75,top 76,top 77,top 78,top 79,top 80,top 82,top 83,top 84,top 85,top 86,top 87,top 88,top 89,top 90,top 91,top 92,top 93,top 95,top 96,top 97,top 98,top 99,top 100,top 101,top 102,top 103,top 104,top 105,top 106,top 107,top 108,top 109,top 110,top 111] } }
noncomputable abbrev de (P:Params)(s:Str)(t:Tok)(v:Value):DictEntry:=⟨PySem.PyData.keyHash P s,.str s t,v⟩
abbrev co (n q:Str)(a b c d:Tok)(i k:Int)(r s:Addr)(y z:Value)(t:Addr)(j:Int):Obj:=⟨.type "code",none,.fields #[.str n a,.str q b,.str "/claim/cut.py" c,.int i 0,.int k 0,.int 0 0,.int 0 0,.int 3 0,.ref r,.bool Bool.true,.int 181 0,.ref s,.none,y,z,.ref t,.int j 0,.int i 0,.str "/claim/cut.py" d],#[]⟩
abbrev fo (n q:Str)(st:Stmt)(m:Value)(c:Addr):Obj:=⟨.type "function",none,.func (W.fnOf n q (VU st) (Xy st) (Zm st) .none .none .none m none (.ref c) .none),#[]⟩
abbrev q0:Str:="boxnarrow.kinds"
abbrev q1:Str:="__static_attributes__"
abbrev q2:Str:="__init__"
abbrev q3:Str:="law_boxnarrow_k55_small_is_small"
abbrev q4:Str:="__firstlineno__"
abbrev q5:Str:="slope_of_both"
abbrev q6:Str:="forth"
abbrev q7:Str:="second_left"
abbrev q8:Str:="spans"
abbrev q9:Str:="boxnarrow.spans"
abbrev q10:Str:="first_left"
abbrev q11:Str:="slope"
abbrev q12:Str:="boxnarrow.backs"
abbrev q13:Str:="__module__"
abbrev q14:Str:="determinant"
abbrev q15:Str:="boxnarrow.search"
abbrev q16:Str:="boxnarrow.matrices"
abbrev q17:String:="object.__new__"
abbrev q18:String:="object.__init_subclass__"
abbrev q19:Str:="cofactor"
abbrev q20:Str:="number"
abbrev q21:Str:="nodes"
abbrev q22:Str:="take_spans"
abbrev q23:Str:="boxnarrow.alone"
abbrev q24:Str:="__doc__"
abbrev q25:Str:="add_spans"
abbrev q26:Str:="part_between"
abbrev q27:Str:="inverse_entry"
abbrev q28:Str:="rounded_up"
abbrev q29:Str:="box_of_middles"
abbrev q30:String:="object"
abbrev q31:Str:="cut_in_the_middle"
abbrev q32:Str:="sum_of_products"
abbrev q33:Str:="worths"
abbrev q34:Str:="holds_nought"
abbrev q35:Str:="back_by_side"
abbrev q36:Str:="Pair.__init__"
abbrev q37:String:="type.__prepare__"
abbrev q38:Str:="mul_spans"
abbrev q39:Str:="equation_places"
abbrev q40:Str:="leasts_are_sure"
abbrev q41:Str:="inverse_row"
abbrev q42:Str:="raise_span"
abbrev q43:Str:="back_times"
abbrev q44:Str:="root_below"
abbrev q45:Str:="_law_cell_at"
abbrev q46:Str:="exact"
abbrev q47:Str:="_law_nodes"
abbrev q48:Str:="opposite"
abbrev q49:Str:="slants"
abbrev q50:Str:="_law_node_here"
abbrev q51:Str:="scale_span"
abbrev q52:Str:="next_guess"
abbrev q53:Str:="back_power"
abbrev q54:Str:="_law_box_here"
abbrev q55:Str:="without"
abbrev q56:Str:="boxnarrow.errors"
abbrev q57:Str:="Pair.slope"
abbrev q58:Str:="_law_grid_here"
abbrev q59:Str:="_law_weight"
abbrev q60:Str:="fate_by_rows"
abbrev q61:Str:="is_much_less"
abbrev q62:Str:="_law_divisor"
abbrev q63:Str:="_law_rounded"
abbrev q64:Str:="__qualname__"
abbrev q65:String:="object.__setattr__"
abbrev q66:Str:="raised"
abbrev q67:Str:="common"
abbrev q68:Str:="_law_power"
abbrev q69:Str:="Pair.back"
abbrev q70:Str:="enumerate"
abbrev q71:Str:="quotient"
abbrev q72:Str:="thin_worths"
abbrev q73:Str:="fate_of_one"
abbrev q74:Str:="_law_exacts"
abbrev q75:Str:="unknowns"
abbrev q76:Str:="_law_script"
abbrev q77:Str:="signed"
abbrev q78:Str:="Minus.slope_of_both"
abbrev q79:Str:="Times.slope_of_both"
abbrev q80:Str:="with_span"
abbrev q81:Str:="is_barred"
abbrev q82:Str:="spans_back"
abbrev q83:Str:="_law_heavy"
abbrev q84:Str:="_law_worth"
abbrev q85:Str:="_law_small"
abbrev q86:Str:="Plus.slope_of_both"
abbrev q87:Str:="inverse"
abbrev q88:Str:="span_of"
abbrev q89:Str:="Minus.second_left"
abbrev q90:Str:="Times.second_left"
abbrev q91:Str:="boxnarrow.shaving"
abbrev q92:Str:="middle"
abbrev q93:Str:="joined"
abbrev q94:Str:="matrix"
abbrev q95:Str:="slopes_at"
abbrev q96:Str:="_law_node"
abbrev q97:Str:="_law_rows"
abbrev q98:Str:="_law_grid"
abbrev q99:Str:="kind_of"
abbrev U6:Str:="Unknown.__init__"
abbrev Rb:Str:="Plus.second_left"
abbrev TR:Str:="Minus.first_left"
abbrev SS:Str:="Times.first_left"
abbrev Xs:Str:="other"
abbrev Rc:Str:="Number.__init__"
abbrev Sq:Str:="Plus.first_left"
abbrev WT:Str:="all_deep"
abbrev WW:Str:="asked_of"
abbrev Vt:Str:="narrowed"
abbrev Vl:Str:="cut_back"
abbrev W9:Str:="is_shave"
abbrev W3:Str:="_law_net"
abbrev WO:Str:="_law_put"
abbrev WR:Str:="_law_row"
abbrev Vk:Str:="_law_box"
abbrev Wl:Str:="middles"
abbrev X5:Str:="widths"
abbrev Wa:Str:="widest"
abbrev Tx:Str:="Power.__init__"
abbrev V6:Str:="to_look_at"
abbrev X7:Str:="bottom"
abbrev XN:Str:="width"
abbrev UL:Str:="__weakref__"
abbrev XY:Str:="range"
abbrev U3:Str:="__setattr__"
abbrev W0:Str:="lacking"
abbrev W5:Str:="span_by"
abbrev Vm:Str:="step_by"
abbrev Vr:Str:="cut_off"
abbrev Vn:Str:="fate_of"
abbrev Tc:Str:="Unknown.forth"
abbrev Tj:Str:="Unknown.slope"
abbrev Vf:Str:="entries"
abbrev Wv:Str:="slopes"
abbrev Ws:Str:="picked"
abbrev WB:Str:="out_by"
abbrev VZ:Str:="put_entry"
abbrev Ua:Str:="_law_cell"
abbrev Py:Str:="Book.to_look_at"
abbrev UY:String:="ValueError"
abbrev NV:Str:="boxnarrow.fractions"
abbrev Rr:Str:="Number.forth"
abbrev TF:Str:="Number.slope"
abbrev SR:Str:="Unknown.back"
abbrev WV:Str:="shaves"
abbrev Vs:Str:="search"
abbrev Nk:String:="ValueError.__new__"
abbrev Ph:Str:="Book.put_entry"
abbrev Va:Str:="settle"
abbrev WX:Str:="column"
abbrev Ru:Str:="Number.back"
abbrev Tu:Str:="Minus.forth"
abbrev U5:Str:="Times.forth"
abbrev Tb:Str:="Power.forth"
abbrev SN:Str:="Power.slope"
abbrev Oi:Str:="Book.__init__"
abbrev Oz:Str:="_law_unknowns"
abbrev V0:Str:="Unknown"
abbrev Ri:Str:="Plus.forth"
abbrev Tr:Str:="Power.back"
abbrev UB:Str:="BoxError"
abbrev Vg:Str:="alone"
abbrev Vd:Str:="shave"
abbrev Oc:Str:="Book.entries"
abbrev WY:Str:="place"
abbrev UM:Str:="products"
abbrev NL:Str:="_law_heavy_here"
abbrev Ov:Str:="Book.settle"
abbrev Uc:Str:="Number"
abbrev NF:Str:="_law_rows_here"
abbrev Ui:Str:="places"
abbrev LH:String:="BaseException"
abbrev q173:String:="getset_descriptor"
abbrev O1:Str:="Book.part"
abbrev q175:Str:="boxnarrow.worths"
abbrev q176:Str:="boxnarrow.narrow"
abbrev r (n:Addr):Value:=.ref n
abbrev sr (n:Addr):Option Value:=some (.ref n)
noncomputable abbrev dr (P:Params)(s:Str)(t:Tok)(n:Addr):DictEntry:=de P s t (.ref n)
noncomputable abbrev dn (P:Params)(s:Str)(t:Tok):DictEntry:=de P s t .none
abbrev dO (l:Array DictEntry)(n:Nat):Obj:=.mk (.type "dict") none (.dict l n) #[]
abbrev bO (s:String)(v:Value):Obj:=.mk (.type "builtin_function_or_method") none (.fields #[.builtin s,v]) #[]
abbrev cO (a:Str)(t1:Tok)(b:Str)(t2 t3:Tok)(l:Int)(x:Addr)(m:Int)(y:Addr)(k l2:Int)(t4:Tok):Obj:=.mk (.type "code") none (.fields #[.str a t1,.str b t2,.str "/claim/cut.py" t3,.int l 0,.int 0 0,.int 0 0,.int 0 0,.int 0 0,.ref x,.bool Bool.false,.int m 0,.ref y,.none,.none,.none,.none,.int k 0,.int l2 0,.str "/claim/cut.py" t4]) #[]
abbrev gO (a b c:Addr)(s:Value)(d:Addr):Obj:=.mk (.type "frame") none .plain #[some (.ref a),some (.ref b),some (.ref c),none,some s,none,some (.ref d)]
abbrev cp (n q:Str)(t:Tok)(i k:Int)(a:Addr)(j:Tok):Obj:=co n q t (t+1) (t+2) (j+1) i k a (a+1) (.ref (a+2)) (.ref (a+3)) (a+4) j
abbrev fp (n q:Str)(k:Nat)(m:Str)(t:Tok)(c:Addr):Obj:=fo n q (top k) (.str m t) c
abbrev fq (l:List (Int×Addr))(c:Int):Obj:=fdO (l.flatMap λx=>[.int x.1 0,.int c 0,.ref x.2])
abbrev tyO (nw:String)(n:Str)(bs ms:List Value)(d:Addr)(ss:List Value)(b:Addr)(t1 t2:Tok):Obj:=.mk (.type "type") none (.cls (PySem.ClassData.mk n bs ms d n Bool.true [] ss Bool.false none Bool.false)) #[some (.ref b),none,some (.str n t1),some (.str n t2),some (.builtin nw),some (.bool Bool.true)]
abbrev uO (a:Addr):Obj:=.mk (.type "super") none (.fields #[.ref a,.ref a,.ref a]) #[]
noncomputable def kq:Params->PySem.W.Frag:=λP=>
 (nat_lit 3,(dO #[(de P "__name__" 165 (.str q3 1426)),(dn P q24 166),(dn P "__package__" 167),(de P "__loader__" 168 (.builtin "__main__.__loader__#opaque")),(dn P "__spec__" 169),(dr P "__annotations__" 170 6),(dr P "__builtins__" 171 4),(de P "__file__" 173 (.str "/claim/cut.py" 172)),(dn P "__cached__" 174),(dr P "_wall" 193 21),(dr P q77 203 28),(dr P q55 209 33),(dr P q19 218 40),(dr P q14 224 45),(dr P q27 235 52),(dr P q41 241 57),(dr P q87 247 62),(dr P UB 267 72),(dr P "NoSpan" 283 85),(dr P q66 295 94),(dr P "less" 303 101),(dr P q28 313 108),(dr P q88 322 115),(dr P q25 330 122),(dr P q22 338 129),(dr P q38 348 136),(dr P q42 354 141),(dr P q51 362 148),(dr P q67 372 155),(dr P "hull" 380 162),(dr P "deep" 388 169),(dr P XN 395 176),(dr P q92 402 183),(dr P q34 411 190),(dr P q48 418 197),(dr P q93 426 204),(dr P q26 435 211),(dr P q71 443 218),(dr P q35 456 225),(dr P q43 469 232),(dr P q44 479 239),(dr P q52 488 246),(dr P "root" 497 253),(dr P q53 511 260),(dr P "Node" 533 270),(dr P Uc 601 319),(dr P V0 661 364),(dr P "Pair" 706 395),(dr P "Plus" 775 442),(dr P "Minus" 844 489),(dr P "Times" 913 536),(dr P "Power" 976 581),(dr P q99 983 590),(dr P q33 996 597),(dr P "bars" 1004 604),(dr P "sure" 1012 611),(dr P Wv 1026 618),(dr P q39 1034 623),(dr P Ws 1040 628),(dr P Wl 1046 633),(dr P q29 1052 638),(dr P q32 1064 645),(dr P W0 1070 650),(dr P W5 1076 655),(dr P Vm 1082 660),(dr P q72 1092 667),(dr P q95 1102 674),(dr P q40 1108 679),(dr P WT 1114 684),(dr P Vg 1120 689),(dr P WW 1130 696),(dr P q82 1146 703),(dr P Vt 1161 710),(dr P q80 1172 717),(dr P q81 1183 724),(dr P Vr 1191 731),(dr P Vl 1199 738),(dr P W9 1212 745),(dr P WV 1228 752),(dr P X5 1236 757),(dr P Wa 1243 764),(dr P "Book" 1316 812),(dr P WB 1328 823),(dr P Vd 1345 830),(dr P q60 1351 835),(dr P q73 1364 842),(dr P Vn 1377 849),(dr P q61 1385 856),(dr P q31 1395 863),(dr P "look" 1410 870),(dr P Vs 1425 877),(dr P q45 1436 884),(dr P q96 1448 891),(dr P q59 1456 898),(dr P W3 1462 903),(dr P q62 1471 910),(dr P q68 1481 917),(dr P q74 1493 924),(dr P q83 1502 931),(dr P WO 1510 938),(dr P WR 1529 945),(dr P q97 1543 952),(dr P Vk 1555 959),(dr P q98 1562 966),(dr P q63 1570 973),(dr P q84 1583 980),(dr P q85 1589 985),(dr P "law" 1595 990)] 108))::
 (nat_lit 27,cp q77 q77 196 5 2 22 201)::
 (nat_lit 28,fp q77 q77 2 q16 194 27)::
 (nat_lit 32,co q55 q55 204 205 206 208 7 3 29 30 .none .none 31 207)::
 (nat_lit 33,fp q55 q55 3 q16 194 32)::
 (nat_lit 39,cp q19 q19 210 10 3 34 216)::
 (nat_lit 40,fp q19 q19 4 q16 194 39)::
 (nat_lit 44,co q14 q14 219 220 221 223 12 1 41 42 .none .none 43 222)::
 (nat_lit 45,fp q14 q14 5 q16 194 44)::
 (nat_lit 51,cp q27 q27 225 16 5 46 233)::
 (nat_lit 52,fp q27 q27 6 q16 194 51)::
 (nat_lit 56,co q41 q41 236 237 238 240 18 4 53 54 .none .none 55 239)::
 (nat_lit 57,fp q41 q41 7 q16 194 56)::
 (nat_lit 61,co q87 q87 242 243 244 246 20 2 58 59 .none .none 60 245)::
 (nat_lit 62,fp q87 q87 8 q16 194 61)::
 (nat_lit 71,(dO #[(de P q13 257 (.str q56 248)),(de P q4 261 (.int 26 260)),(dr P q1 262 70),(dr P UL 264 73),(dn P q24 265)] 3))::
 (nat_lit 72,(tyO Nk UB [(.type UY)] [(r 72),(.type UY),(.type "Exception"),(.type LH),(.type q30)] 71 [(r 85)] 63 250 258))::
 (nat_lit 84,(dO #[(de P q13 275 (.str q56 248)),(de P q4 279 (.int 28 278)),(dr P q1 280 83),(dn P q24 281)] 2))::
 (nat_lit 85,(tyO Nk "NoSpan" [(r 72)] [(r 85),(r 72),(.type UY),(.type "Exception"),(.type LH),(.type q30)] 84 [] 76 268 276))::
 (nat_lit 93,cp q66 q66 286 31 2 88 293)::
 (nat_lit 94,fp q66 q66 13 NV 284 93)::
 (nat_lit 100,cp "less" "less" 296 36 2 95 301)::
 (nat_lit 101,fp "less" "less" 14 NV 284 100)::
 (nat_lit 107,cp q28 q28 306 39 2 102 311)::
 (nat_lit 108,fp q28 q28 16 q9 304 107)::
 (nat_lit 114,cp q88 q88 314 41 3 109 320)::
 (nat_lit 115,fp q88 q88 17 q9 304 114)::
 (nat_lit 121,cp q25 q25 323 45 2 116 328)::
 (nat_lit 122,fp q25 q25 18 q9 304 121)::
 (nat_lit 128,cp q22 q22 331 47 2 123 336)::
 (nat_lit 129,fp q22 q22 19 q9 304 128)::
 (nat_lit 135,cp q38 q38 339 49 3 130 346)::
 (nat_lit 136,fp q38 q38 20 q9 304 135)::
 (nat_lit 140,co q42 q42 349 350 351 353 52 3 137 138 .none .none 139 352)::
 (nat_lit 141,fp q42 q42 21 q9 304 140)::
 (nat_lit 147,cp q51 q51 355 59 2 142 360)::
 (nat_lit 148,fp q51 q51 22 q9 304 147)::
 (nat_lit 154,cp q67 q67 363 61 2 149 370)::
 (nat_lit 155,fp q67 q67 23 q9 304 154)::
 (nat_lit 161,cp "hull" "hull" 373 67 2 156 378)::
 (nat_lit 162,fp "hull" "hull" 24 q9 304 161)::
 (nat_lit 168,cp "deep" "deep" 381 69 2 163 386)::
 (nat_lit 169,fp "deep" "deep" 25 q9 304 168)::
 (nat_lit 175,cp XN XN 389 71 1 170 393)::
 (nat_lit 176,fp XN XN 26 q9 304 175)::
 (nat_lit 182,cp q92 q92 396 73 1 177 400)::
 (nat_lit 183,fp q92 q92 27 q9 304 182)::
 (nat_lit 189,cp q34 q34 405 76 1 184 409)::
 (nat_lit 190,fp q34 q34 29 q12 403 189)::
 (nat_lit 196,cp q48 q48 412 78 1 191 416)::
 (nat_lit 197,fp q48 q48 30 q12 403 196)::
 (nat_lit 203,cp q93 q93 419 80 2 198 424)::
 (nat_lit 204,fp q93 q93 31 q12 403 203)::
 (nat_lit 210,cp q26 q26 427 86 3 205 433)::
 (nat_lit 211,fp q26 q26 32 q12 403 210)::
 (nat_lit 217,cp q71 q71 436 90 2 212 441)::
 (nat_lit 218,fp q71 q71 33 q12 403 217)::
 (nat_lit 224,cp q35 q35 444 92 3 219 454)::
 (nat_lit 225,fp q35 q35 34 q12 403 224)::
 (nat_lit 231,cp q43 q43 457 98 4 226 467)::
 (nat_lit 232,fp q43 q43 35 q12 403 231)::
 (nat_lit 238,cp q44 q44 470 109 2 233 477)::
 (nat_lit 239,fp q44 q44 36 q12 403 238)::
 (nat_lit 245,cp q52 q52 480 118 3 240 486)::
 (nat_lit 246,fp q52 q52 37 q12 403 245)::
 (nat_lit 252,cp "root" "root" 489 120 2 247 495)::
 (nat_lit 253,fp "root" "root" 38 q12 403 252)::
 (nat_lit 259,cp q53 q53 498 127 4 254 509)::
 (nat_lit 260,fp q53 q53 39 q12 403 259)::
 (nat_lit 269,(dO #[(de P q13 521 (.str q0 512)),(de P q4 525 (.int 138 524)),(dr P q1 526 268),(dr P "__dict__" 528 271),(dr P UL 530 272),(dn P q24 531)] 4))::
 (nat_lit 270,(.mk (.type "type") none (.cls (PySem.ClassData.mk "Node" [(.type q30)] [(r 270),(.type q30)] 269 "Node" Bool.true [] [(r 319),(r 364),(r 395),(r 581)] Bool.false none Bool.false)) #[none,none,(some (.str "Node" 514)),(some (.str "Node" 522)),(some (.builtin q17)),(some (.bool Bool.true))]))::
 (nat_lit 287,cp q2 Rc 546 142 3 282 552)::
 (nat_lit 288,fo q2 Rc (ZA (top 42) 0) (.str q0 512) 287)::
 (nat_lit 301,cp q6 Rr 564 149 4 296 572)::
 (nat_lit 302,fo q6 Rr (ZA (top 42) 2) (.str q0 512) 301)::
 (nat_lit 308,cp "back" Ru 575 153 4 303 582)::
 (nat_lit 309,fo "back" Ru (ZA (top 42) 3) (.str q0 512) 308)::
 (nat_lit 315,cp q11 TF 585 156 5 310 593)::
 (nat_lit 316,fo q11 TF (ZA (top 42) 4) (.str q0 512) 315)::
 (nat_lit 318,(dO #[(de P q13 541 (.str q0 512)),(de P q4 545 (.int 140 544)),(dr P q2 554 288),(dr P q46 563 295),(dr P q6 574 302),(dr P "back" 584 309),(dr P q11 595 316),(dr P q1 598 317),(dn P q24 599)] 2))::
 (nat_lit 319,(tyO q17 Uc [(r 270)] [(r 319),(r 270),(.type q30)] 318 [] 275 534 542))::
 (nat_lit 334,cp q2 U6 614 160 2 329 619)::
 (nat_lit 335,fo q2 U6 (ZA (top 43) 0) (.str q0 512) 334)::
 (nat_lit 348,cp q6 Tc 631 166 4 343 638)::
 (nat_lit 349,fo q6 Tc (ZA (top 43) 2) (.str q0 512) 348)::
 (nat_lit 355,cp "back" SR 641 169 4 350 648)::
 (nat_lit 356,fo "back" SR (ZA (top 43) 3) (.str q0 512) 355)::
 (nat_lit 360,co q11 Tj 651 652 653 655 172 5 357 358 .none .none 359 654)::
 (nat_lit 361,fo q11 Tj (ZA (top 43) 4) (.str q0 512) 360)::
 (nat_lit 363,(dO #[(de P q13 609 (.str q0 512)),(de P q4 613 (.int 158 612)),(dr P q2 621 335),(dr P q46 630 342),(dr P q6 640 349),(dr P "back" 650 356),(dr P q11 656 361),(dr P q1 658 362),(dn P q24 659)] 2))::
 (nat_lit 364,(tyO q17 V0 [(r 270)] [(r 364),(r 270),(.type q30)] 363 [] 322 602 610))::
 (nat_lit 379,cp q2 q36 674 176 3 374 680)::
 (nat_lit 380,fo q2 q36 (ZA (top 44) 0) (.str q0 512) 379)::
 (nat_lit 386,cp "back" q69 683 180 4 381 692)::
 (nat_lit 387,fo "back" q69 (ZA (top 44) 1) (.str q0 512) 386)::
 (nat_lit 391,co q11 q57 695 696 697 699 190 5 388 389 .none .none 390 698)::
 (nat_lit 392,fo q11 q57 (ZA (top 44) 2) (.str q0 512) 391)::
 (nat_lit 394,(dO #[(de P q13 669 (.str q0 512)),(de P q4 673 (.int 174 672)),(dr P q2 682 380),(dr P "back" 694 387),(dr P q11 700 392),(dr P q1 703 393),(dn P q24 704)] 2))::
 (nat_lit 395,(tyO q17 "Pair" [(r 270)] [(r 395),(r 270),(.type q30)] 394 [(r 442),(r 489),(r 536)] 367 662 670))::
 (nat_lit 417,cp q6 Ri 728 199 4 412 735)::
 (nat_lit 418,fo q6 Ri (ZA (top 45) 1) (.str q0 512) 417)::
 (nat_lit 424,cp q10 Sq 738 202 5 419 746)::
 (nat_lit 425,fo q10 Sq (ZA (top 45) 2) (.str q0 512) 424)::
 (nat_lit 431,cp q7 Rb 749 205 5 426 757)::
 (nat_lit 432,fo q7 Rb (ZA (top 45) 3) (.str q0 512) 431)::
 (nat_lit 438,cp q5 q86 760 208 6 433 769)::
 (nat_lit 439,fo q5 q86 (ZA (top 45) 4) (.str q0 512) 438)::
 (nat_lit 441,(dO #[(de P q13 714 (.str q0 512)),(de P q4 718 (.int 194 717)),(dr P q46 727 411),(dr P q6 737 418),(dr P q10 748 425),(dr P q7 759 432),(dr P q5 771 439),(dr P q1 772 440),(dn P q24 773)] 2))::
 (nat_lit 442,(tyO q17 "Plus" [(r 395)] [(r 442),(r 395),(r 270),(.type q30)] 441 [] 398 707 715))::
 (nat_lit 464,cp q6 Tu 797 215 4 459 804)::
 (nat_lit 465,fo q6 Tu (ZA (top 46) 1) (.str q0 512) 464)::
 (nat_lit 471,cp q10 TR 807 218 5 466 815)::
 (nat_lit 472,fo q10 TR (ZA (top 46) 2) (.str q0 512) 471)::
 (nat_lit 478,cp q7 q89 818 221 5 473 826)::
 (nat_lit 479,fo q7 q89 (ZA (top 46) 3) (.str q0 512) 478)::
 (nat_lit 485,cp q5 q78 829 224 6 480 838)::
 (nat_lit 486,fo q5 q78 (ZA (top 46) 4) (.str q0 512) 485)::
 (nat_lit 488,(dO #[(de P q13 783 (.str q0 512)),(de P q4 787 (.int 210 786)),(dr P q46 796 458),(dr P q6 806 465),(dr P q10 817 472),(dr P q7 828 479),(dr P q5 840 486),(dr P q1 841 487),(dn P q24 842)] 2))::
 (nat_lit 489,(tyO q17 "Minus" [(r 395)] [(r 489),(r 395),(r 270),(.type q30)] 488 [] 445 776 784))::
 (nat_lit 511,cp q6 U5 866 231 4 506 873)::
 (nat_lit 512,fo q6 U5 (ZA (top 47) 1) (.str q0 512) 511)::
 (nat_lit 518,cp q10 SS 876 234 5 513 884)::
 (nat_lit 519,fo q10 SS (ZA (top 47) 2) (.str q0 512) 518)::
 (nat_lit 525,cp q7 q90 887 237 5 520 895)::
 (nat_lit 526,fo q7 q90 (ZA (top 47) 3) (.str q0 512) 525)::
 (nat_lit 532,cp q5 q79 898 240 6 527 907)::
 (nat_lit 533,fo q5 q79 (ZA (top 47) 4) (.str q0 512) 532)::
 (nat_lit 535,(dO #[(de P q13 852 (.str q0 512)),(de P q4 856 (.int 226 855)),(dr P q46 865 505),(dr P q6 875 512),(dr P q10 886 519),(dr P q7 897 526),(dr P q5 909 533),(dr P q1 910 534),(dn P q24 911)] 2))::
 (nat_lit 536,(tyO q17 "Times" [(r 395)] [(r 536),(r 395),(r 270),(.type q30)] 535 [] 492 845 853))::
 (nat_lit 551,cp q2 Tx 926 244 3 546 932)::
 (nat_lit 552,fo q2 Tx (ZA (top 48) 0) (.str q0 512) 551)::
 (nat_lit 565,cp q6 Tb 944 251 4 560 951)::
 (nat_lit 566,fo q6 Tb (ZA (top 48) 2) (.str q0 512) 565)::
 (nat_lit 572,cp "back" Tr 954 254 4 567 962)::
 (nat_lit 573,fo "back" Tr (ZA (top 48) 3) (.str q0 512) 572)::
 (nat_lit 577,co q11 SN 965 966 967 969 260 5 574 575 .none .none 576 968)::
 (nat_lit 578,fo q11 SN (ZA (top 48) 4) (.str q0 512) 577)::
 (nat_lit 580,(dO #[(de P q13 921 (.str q0 512)),(de P q4 925 (.int 242 924)),(dr P q2 934 552),(dr P q46 943 559),(dr P q6 953 566),(dr P "back" 964 573),(dr P q11 970 578),(dr P q1 973 579),(dn P q24 974)] 2))::
 (nat_lit 581,(tyO q17 "Power" [(r 270)] [(r 581),(r 270),(.type q30)] 580 [] 539 914 922))::
 (nat_lit 589,cp q99 q99 977 264 1 584 981)::
 (nat_lit 590,fp q99 q99 49 q0 512 589)::
 (nat_lit 596,cp q33 q33 986 277 3 591 994)::
 (nat_lit 597,fp q33 q33 51 q175 984 596)::
 (nat_lit 603,cp "bars" "bars" 997 282 2 598 1002)::
 (nat_lit 604,fp "bars" "bars" 52 q175 984 603)::
 (nat_lit 610,cp "sure" "sure" 1005 286 2 605 1010)::
 (nat_lit 611,fp "sure" "sure" 53 q175 984 610)::
 (nat_lit 617,cp Wv Wv 1015 291 3 612 1024)::
 (nat_lit 618,fp Wv Wv 55 "boxnarrow.sloping" 1013 617)::
 (nat_lit 622,co q39 q39 1029 1030 1031 1033 298 1 619 620 .none .none 621 1032)::
 (nat_lit 623,fp q39 q39 57 q23 1027 622)::
 (nat_lit 627,co Ws Ws 1035 1036 1037 1039 300 2 624 625 .none .none 626 1038)::
 (nat_lit 628,fp Ws Ws 58 q23 1027 627)::
 (nat_lit 632,co Wl Wl 1041 1042 1043 1045 302 1 629 630 .none .none 631 1044)::
 (nat_lit 633,fp Wl Wl 59 q23 1027 632)::
 (nat_lit 637,co q29 q29 1047 1048 1049 1051 304 1 634 635 .none .none 636 1050)::
 (nat_lit 638,fp q29 q29 60 q23 1027 637)::
 (nat_lit 644,cp q32 q32 1053 306 3 639 1062)::
 (nat_lit 645,fp q32 q32 61 q23 1027 644)::
 (nat_lit 649,co W0 W0 1065 1066 1067 1069 311 5 646 647 .none .none 648 1068)::
 (nat_lit 650,fp W0 W0 62 q23 1027 649)::
 (nat_lit 654,co W5 W5 1071 1072 1073 1075 315 6 651 652 .none .none 653 1074)::
 (nat_lit 655,fp W5 W5 63 q23 1027 654)::
 (nat_lit 659,co Vm Vm 1077 1078 1079 1081 322 5 656 657 .none .none 658 1080)::
 (nat_lit 660,fp Vm Vm 64 q23 1027 659)::
 (nat_lit 666,cp q72 q72 1083 324 4 661 1090)::
 (nat_lit 667,fp q72 q72 65 q23 1027 666)::
 (nat_lit 673,cp q95 q95 1093 326 4 668 1100)::
 (nat_lit 674,fp q95 q95 66 q23 1027 673)::
 (nat_lit 678,co q40 q40 1103 1104 1105 1107 328 2 675 676 .none .none 677 1106)::
 (nat_lit 679,fp q40 q40 67 q23 1027 678)::
 (nat_lit 683,co WT WT 1109 1110 1111 1113 330 2 680 681 .none .none 682 1112)::
 (nat_lit 684,fp WT WT 68 q23 1027 683)::
 (nat_lit 688,co Vg Vg 1115 1116 1117 1119 332 4 685 686 .none .none 687 1118)::
 (nat_lit 689,fp Vg Vg 69 q23 1027 688)::
 (nat_lit 695,cp WW WW 1123 345 2 690 1128)::
 (nat_lit 696,fp WW WW 71 q176 1121 695)::
 (nat_lit 702,cp q82 q82 1131 349 4 697 1144)::
 (nat_lit 703,fp q82 q82 72 q176 1121 702)::
 (nat_lit 709,cp Vt Vt 1147 363 4 704 1159)::
 (nat_lit 710,fp Vt Vt 73 q176 1121 709)::
 (nat_lit 716,cp q80 q80 1164 374 3 711 1170)::
 (nat_lit 717,fp q80 q80 75 q91 1162 716)::
 (nat_lit 723,cp q81 q81 1173 376 4 718 1181)::
 (nat_lit 724,fp q81 q81 76 q91 1162 723)::
 (nat_lit 730,cp Vr Vr 1184 379 2 725 1189)::
 (nat_lit 731,fp Vr Vr 77 q91 1162 730)::
 (nat_lit 737,cp Vl Vl 1192 381 2 732 1197)::
 (nat_lit 738,fp Vl Vl 78 q91 1162 737)::
 (nat_lit 744,cp W9 W9 1200 383 5 739 1210)::
 (nat_lit 745,fp W9 W9 79 q91 1162 744)::
 (nat_lit 751,cp WV WV 1213 389 4 746 1226)::
 (nat_lit 752,fp WV WV 80 q91 1162 751)::
 (nat_lit 756,co X5 X5 1231 1232 1233 1235 404 1 753 754 .none .none 755 1234)::
 (nat_lit 757,fp X5 X5 82 q15 1229 756)::
 (nat_lit 763,cp Wa Wa 1237 406 1 758 1241)::
 (nat_lit 764,fp Wa Wa 83 q15 1229 763)::
 (nat_lit 777,cp q2 Oi 1256 410 2 772 1261)::
 (nat_lit 778,fo q2 Oi (ZA (top 84) 0) (.str q15 1229) 777)::
 (nat_lit 784,cp VZ Ph 1264 414 2 779 1269)::
 (nat_lit 785,fo VZ Ph (ZA (top 84) 1) (.str q15 1229) 784)::
 (nat_lit 791,cp Va Ov 1272 419 3 786 1278)::
 (nat_lit 792,fo Va Ov (ZA (top 84) 2) (.str q15 1229) 791)::
 (nat_lit 798,cp "part" O1 1281 422 4 793 1292)::
 (nat_lit 799,fo "part" O1 (ZA (top 84) 3) (.str q15 1229) 798)::
 (nat_lit 803,co V6 Py 1295 1296 1297 1299 430 1 800 801 .none .none 802 1298)::
 (nat_lit 804,fo V6 Py (ZA (top 84) 4) (.str q15 1229) 803)::
 (nat_lit 808,co Vf Oc 1301 1302 1303 1305 434 1 805 806 .none .none 807 1304)::
 (nat_lit 809,fo Vf Oc (ZA (top 84) 5) (.str q15 1229) 808)::
 (nat_lit 811,(dO #[(de P q13 1251 (.str q15 1229)),(de P q4 1255 (.int 408 1254)),(dr P q2 1263 778),(dr P VZ 1271 785),(dr P Va 1280 792),(dr P "part" 1294 799),(dr P V6 1300 804),(dr P Vf 1306 809),(dr P q1 1309 810),(dr P "__dict__" 1311 813),(dr P UL 1313 814),(dn P q24 1314)] 4))::
 (nat_lit 812,(.mk (.type "type") none (.cls (PySem.ClassData.mk "Book" [(.type q30)] [(r 812),(.type q30)] 811 "Book" Bool.true [] [] Bool.false none Bool.false)) #[none,none,(some (.str "Book" 1244)),(some (.str "Book" 1252)),(some (.builtin q17)),(some (.bool Bool.true))]))::
 (nat_lit 822,cp WB WB 1317 436 5 817 1326)::
 (nat_lit 823,fp WB WB 85 q15 1229 822)::
 (nat_lit 829,cp Vd Vd 1329 439 5 824 1343)::
 (nat_lit 830,fp Vd Vd 86 q15 1229 829)::
 (nat_lit 834,co q60 q60 1346 1347 1348 1350 451 5 831 832 .none .none 833 1349)::
 (nat_lit 835,fp q60 q60 87 q15 1229 834)::
 (nat_lit 841,cp q73 q73 1352 458 5 836 1362)::
 (nat_lit 842,fp q73 q73 88 q15 1229 841)::
 (nat_lit 848,cp Vn Vn 1365 464 5 843 1375)::
 (nat_lit 849,fp Vn Vn 89 q15 1229 848)::
 (nat_lit 855,cp q61 q61 1378 472 2 850 1383)::
 (nat_lit 856,fp q61 q61 90 q15 1229 855)::
 (nat_lit 862,cp q31 q31 1386 474 2 857 1393)::
 (nat_lit 863,fp q31 q31 91 q15 1229 862)::
 (nat_lit 869,cp "look" "look" 1396 478 6 864 1408)::
 (nat_lit 870,fp "look" "look" 92 q15 1229 869)::
 (nat_lit 876,cp Vs Vs 1411 489 6 871 1423)::
 (nat_lit 877,fp Vs Vs 93 q15 1229 876)::
 (nat_lit 883,cp q45 q45 1428 498 2 878 1434)::
 (nat_lit 884,fp q45 q45 95 q3 1426 883)::
 (nat_lit 890,cp q96 q96 1437 503 2 885 1446)::
 (nat_lit 891,fp q96 q96 96 q3 1426 890)::
 (nat_lit 897,cp q59 q59 1449 517 2 892 1454)::
 (nat_lit 898,fp q59 q59 97 q3 1426 897)::
 (nat_lit 902,co W3 W3 1457 1458 1459 1461 523 2 899 900 .none .none 901 1460)::
 (nat_lit 903,fp W3 W3 98 q3 1426 902)::
 (nat_lit 909,cp q62 q62 1463 533 2 904 1469)::
 (nat_lit 910,fp q62 q62 99 q3 1426 909)::
 (nat_lit 916,cp q68 q68 1472 541 2 911 1479)::
 (nat_lit 917,fp q68 q68 100 q3 1426 916)::
 (nat_lit 923,cp q74 q74 1482 546 2 918 1491)::
 (nat_lit 924,fp q74 q74 101 q3 1426 923)::
 (nat_lit 930,cp q83 q83 1494 566 1 925 1500)::
 (nat_lit 931,fp q83 q83 102 q3 1426 930)::
 (nat_lit 937,cp WO WO 1503 571 2 932 1508)::
 (nat_lit 938,fp WO WO 103 q3 1426 937)::
 (nat_lit 944,cp WR WR 1511 575 5 939 1527)::
 (nat_lit 945,fp WR WR 104 q3 1426 944)::
 (nat_lit 951,cp q97 q97 1530 589 4 946 1541)::
 (nat_lit 952,fp q97 q97 105 q3 1426 951)::
 (nat_lit 958,cp Vk Vk 1544 600 2 953 1553)::
 (nat_lit 959,fp Vk Vk 106 q3 1426 958)::
 (nat_lit 965,cp q98 q98 1556 617 1 960 1560)::
 (nat_lit 966,fp q98 q98 107 q3 1426 965)::
 (nat_lit 972,cp q63 q63 1563 621 2 967 1568)::
 (nat_lit 973,fp q63 q63 108 q3 1426 972)::
 (nat_lit 979,cp q84 q84 1571 623 4 974 1581)::
 (nat_lit 980,fp q84 q84 109 q3 1426 979)::
 (nat_lit 984,co q85 q85 1584 1585 1586 1588 640 5 981 982 .none .none 983 1587)::
 (nat_lit 985,fp q85 q85 110 q3 1426 984)::
 (nat_lit 989,co "law" "law" 1590 1591 1592 1594 653 1 986 987 .none .none 988 1593)::
 (nat_lit 990,fp "law" "law" 111 q3 1426 989)::[]
noncomputable def kp:Params->PySem.W.Frag:=λP=>(nat_lit 801,⟨.none,none,.fields #[],#[]⟩)::kq P
def ks:List Addr:=nat_lit 801::nat_lit 3::nat_lit 27::nat_lit 28::nat_lit 32::nat_lit 33::nat_lit 39::nat_lit 40::nat_lit 44::nat_lit 45::nat_lit 51::nat_lit 52::nat_lit 56::nat_lit 57::nat_lit 61::nat_lit 62::nat_lit 71::nat_lit 72::nat_lit 84::nat_lit 85::nat_lit 93::nat_lit 94::nat_lit 100::nat_lit 101::nat_lit 107::nat_lit 108::nat_lit 114::nat_lit 115::nat_lit 121::nat_lit 122::nat_lit 128::nat_lit 129::nat_lit 135::nat_lit 136::nat_lit 140::nat_lit 141::nat_lit 147::nat_lit 148::nat_lit 154::nat_lit 155::nat_lit 161::nat_lit 162::nat_lit 168::nat_lit 169::nat_lit 175::nat_lit 176::nat_lit 182::nat_lit 183::nat_lit 189::nat_lit 190::nat_lit 196::nat_lit 197::nat_lit 203::nat_lit 204::nat_lit 210::nat_lit 211::nat_lit 217::nat_lit 218::nat_lit 224::nat_lit 225::nat_lit 231::nat_lit 232::nat_lit 238::nat_lit 239::nat_lit 245::nat_lit 246::nat_lit 252::nat_lit 253::nat_lit 259::nat_lit 260::nat_lit 269::nat_lit 270::nat_lit 287::nat_lit 288::nat_lit 301::nat_lit 302::nat_lit 308::nat_lit 309::nat_lit 315::nat_lit 316::nat_lit 318::nat_lit 319::nat_lit 334::nat_lit 335::nat_lit 348::nat_lit 349::nat_lit 355::nat_lit 356::nat_lit 360::nat_lit 361::nat_lit 363::nat_lit 364::nat_lit 379::nat_lit 380::nat_lit 386::nat_lit 387::nat_lit 391::nat_lit 392::nat_lit 394::nat_lit 395::nat_lit 417::nat_lit 418::nat_lit 424::nat_lit 425::nat_lit 431::nat_lit 432::nat_lit 438::nat_lit 439::nat_lit 441::nat_lit 442::nat_lit 464::nat_lit 465::nat_lit 471::nat_lit 472::nat_lit 478::nat_lit 479::nat_lit 485::nat_lit 486::nat_lit 488::nat_lit 489::nat_lit 511::nat_lit 512::nat_lit 518::nat_lit 519::nat_lit 525::nat_lit 526::nat_lit 532::nat_lit 533::nat_lit 535::nat_lit 536::nat_lit 551::nat_lit 552::nat_lit 565::nat_lit 566::nat_lit 572::nat_lit 573::nat_lit 577::nat_lit 578::nat_lit 580::nat_lit 581::nat_lit 589::nat_lit 590::nat_lit 596::nat_lit 597::nat_lit 603::nat_lit 604::nat_lit 610::nat_lit 611::nat_lit 617::nat_lit 618::nat_lit 622::nat_lit 623::nat_lit 627::nat_lit 628::nat_lit 632::nat_lit 633::nat_lit 637::nat_lit 638::nat_lit 644::nat_lit 645::nat_lit 649::nat_lit 650::nat_lit 654::nat_lit 655::nat_lit 659::nat_lit 660::nat_lit 666::nat_lit 667::nat_lit 673::nat_lit 674::nat_lit 678::nat_lit 679::nat_lit 683::nat_lit 684::nat_lit 688::nat_lit 689::nat_lit 695::nat_lit 696::nat_lit 702::nat_lit 703::nat_lit 709::nat_lit 710::nat_lit 716::nat_lit 717::nat_lit 723::nat_lit 724::nat_lit 730::nat_lit 731::nat_lit 737::nat_lit 738::nat_lit 744::nat_lit 745::nat_lit 751::nat_lit 752::nat_lit 756::nat_lit 757::nat_lit 763::nat_lit 764::nat_lit 777::nat_lit 778::nat_lit 784::nat_lit 785::nat_lit 791::nat_lit 792::nat_lit 798::nat_lit 799::nat_lit 803::nat_lit 804::nat_lit 808::nat_lit 809::nat_lit 811::nat_lit 812::nat_lit 822::nat_lit 823::nat_lit 829::nat_lit 830::nat_lit 834::nat_lit 835::nat_lit 841::nat_lit 842::nat_lit 848::nat_lit 849::nat_lit 855::nat_lit 856::nat_lit 862::nat_lit 863::nat_lit 869::nat_lit 870::nat_lit 876::nat_lit 877::nat_lit 883::nat_lit 884::nat_lit 890::nat_lit 891::nat_lit 897::nat_lit 898::nat_lit 902::nat_lit 903::nat_lit 909::nat_lit 910::nat_lit 916::nat_lit 917::nat_lit 923::nat_lit 924::nat_lit 930::nat_lit 931::nat_lit 937::nat_lit 938::nat_lit 944::nat_lit 945::nat_lit 951::nat_lit 952::nat_lit 958::nat_lit 959::nat_lit 965::nat_lit 966::nat_lit 972::nat_lit 973::nat_lit 979::nat_lit 980::nat_lit 984::nat_lit 985::nat_lit 989::nat_lit 990::[]
theorem Uj (P:Params):ks=(kp P).map (·.1):=by kernel_rfl
noncomputable abbrev hk:W.Hook:=W.kHook kp ks Uj
abbrev xt (s:Shared):Bool:=W.xlAt vw [] s&&W.recOk (W.RowW.records (W.OpenRow.toRowW (W.OpenLaw.row PySem.Challenge.rw_boxnarrow_k55_small_is_small))) s
theorem FA:W.opening QW=W.plainProg QW.main.scope.names:=by kernel_rfl
theorem fe_eq (s:Shared):PySem.fenceModules? QW s=some s:=by kernel_rfl
theorem si_eq (w:World):((W.boot_heap w.params).isNs mainGlobals&&(Array.mk []:Array GenState).size==0,(W.boot_heap w.params).objs.size,(W.boot_heap w.params).nsMap mainGlobals "__annotations__")=(true,11,some (.ref 6)):=by kernel_rfl
open PySem.W PySem.Calls
def ev:Env:={ scope:=QW.main.scope,locals:=mainNs,globals:=mainNs,cells:=[],code:=.ref 13,frame:=some 14 }
abbrev bI:List Stmt:=behindTheImports QW
abbrev cE:Code:=Code.body bI ev
abbrev fT:List Frame:=[topFrame ⟨0,0,0,0⟩]
noncomputable abbrev mS (k:Nat)(l:Params->List Obj)(n t:Nat)(w:World)(os:OsState):SharedT:=⟨L3.mkB k (l w.params),n,(boot_heap w.params).life,Array.mk [],boot_drawn,t,os⟩
noncomputable def mO0 (P:Params):List Obj:=[boot_o_0 P,boot_o_1 P,boot_o_2 P,boot_o_3 P,boot_o_4 P,boot_o_5 P,boot_o_6 P,boot_o_7 P,boot_o_8 P,boot_o_9 P,boot_o_10 P]++[tpO [],fdO [],(cO "<module>" 182 "<module>" 183 184 1 11 181 12 185 1 186),(gO 13 3 3 (.str "__main__" 164) 0)]
noncomputable def S0:=mS 5 mO0 15 187
theorem zcm (w:World):(λos=>L3.goK treeTable QW w 11 (some (.ref 6)) 12 (L3.Pn w os) (topStub QW))=λos=>some (S0 w os,⟨denote treeTable cE,cE,⟨0,0,0,0⟩,fT⟩):=by kernel_rfl
theorem zaE (w:World):(λos=>segRunT treeTable QW w 11 (some (.ref 6)) 1 1 (S0 w os) (blockOf bI ev cE ⟨0,0,0,0⟩ fT))=λos=>some (.next,S0 w os,cE,⟨0,0,0,0⟩):=by kernel_rfl
noncomputable def mO1 (P:Params):List Obj:=[boot_o_0 P,boot_o_1 P,boot_o_2 P,(dO #[(de P "__name__" 165 (.str q0 512)),(dn P q24 166),(dn P "__package__" 167),(de P "__loader__" 168 (.builtin "__main__.__loader__#opaque")),(dn P "__spec__" 169),(dr P "__annotations__" 170 6),(dr P "__builtins__" 171 4),(de P "__file__" 173 (.str "/claim/cut.py" 172)),(dn P "__cached__" 174),(dr P "_wall" 193 21),(dr P q77 203 28),(dr P q55 209 33),(dr P q19 218 40),(dr P q14 224 45),(dr P q27 235 52),(dr P q41 241 57),(dr P q87 247 62),(dr P UB 267 72),(dr P "NoSpan" 283 85),(dr P q66 295 94),(dr P "less" 303 101),(dr P q28 313 108),(dr P q88 322 115),(dr P q25 330 122),(dr P q22 338 129),(dr P q38 348 136),(dr P q42 354 141),(dr P q51 362 148),(dr P q67 372 155),(dr P "hull" 380 162),(dr P "deep" 388 169),(dr P XN 395 176),(dr P q92 402 183),(dr P q34 411 190),(dr P q48 418 197),(dr P q93 426 204),(dr P q26 435 211),(dr P q71 443 218),(dr P q35 456 225),(dr P q43 469 232),(dr P q44 479 239),(dr P q52 488 246),(dr P "root" 497 253),(dr P q53 511 260),(dr P "Node" 533 270),(dr P Uc 601 319),(dr P V0 661 364),(dr P "Pair" 706 395),(dr P "Plus" 775 442),(dr P "Minus" 844 489),(dr P "Times" 913 536),(dr P "Power" 976 581)] 52),boot_o_4 P,boot_o_5 P,boot_o_6 P,boot_o_7 P,boot_o_8 P,boot_o_9 P,boot_o_10 P]++[tpO [],fq [(1,20),(5,27),(7,32),(10,39),(12,44),(16,51),(18,56),(20,61),(26,68),(28,81),(31,93),(36,100),(39,107),(41,114),(45,121),(47,128),(49,135),(52,140),(59,147),(61,154),(67,161),(69,168),(71,175),(73,182),(76,189),(78,196),(80,203),(86,210),(90,217),(92,224),(98,231),(109,238),(118,245),(120,252),(127,259),(138,266),(140,280),(158,327),(174,372),(194,403),(210,450),(226,497),(242,544)] 0,(cO "<module>" 182 "<module>" 183 184 1 11 181 12 185 1 186),(gO 13 3 3 (.str "__main__" 164) 0)]++
 df "_wall" "_wall" (top 0) (.str "__main__" 164) 1 1 15 187 ["k"]++
 df q77 q77 (top 2) (.str q16 194) 5 2 22 196 [q20,WY]++
 dg q55 q55 (top 3) (.str q16 194) 7 3 29 204++
 df q19 q19 (top 4) (.str q16 194) 10 3 34 210 [q94,"row",WX]++
 dg q14 q14 (top 5) (.str q16 194) 12 1 41 219++
 df q27 q27 (top 6) (.str q16 194) 16 5 46 225 [q94,"whole","row",WX,"grid"]++
 dg q41 q41 (top 7) (.str q16 194) 18 4 53 236++
 dg q87 q87 (top 8) (.str q16 194) 20 2 58 242++
 [tpO [(.type UY)],(bO q37 (.type "type")),(dO #[(de P q13 257 (.str q56 248)),(de P q64 259 (.str UB 258)),(de P q4 261 (.int 26 260)),(dr P q1 262 70)] 4),tpO [],fdO [],(cO UB 252 UB 253 254 26 66 181 67 255 26 256),(gO 68 3 65 (.str q56 248) 0),tpO [],(dO #[(de P q13 257 (.str q56 248)),(de P q4 261 (.int 26 260)),(dr P q1 262 70),(dr P UL 264 73),(dn P q24 265)] 3),(tyO Nk UB [(.type UY)] [(r 72),(.type UY),(.type "Exception"),(.type LH),(.type q30)] 71 [(r 85)] 63 250 258),(.mk (.type q173) none (.fields #[(.str UL 263),(r 72),(.builtin "ExceptionGroup.__weakref__"),.none]) #[]),(uO 72),(bO q18 (r 72)),tpO [(r 72)],(bO q37 (.type "type")),(dO #[(de P q13 275 (.str q56 248)),(de P q64 277 (.str "NoSpan" 276)),(de P q4 279 (.int 28 278)),(dr P q1 280 83)] 4),tpO [],fdO [],(cO "NoSpan" 270 "NoSpan" 271 272 28 79 181 80 273 28 274),(gO 81 3 78 (.str q56 248) 0),tpO [],(dO #[(de P q13 275 (.str q56 248)),(de P q4 279 (.int 28 278)),(dr P q1 280 83),(dn P q24 281)] 2),(tyO Nk "NoSpan" [(r 72)] [(r 85),(r 72),(.type UY),(.type "Exception"),(.type LH),(.type q30)] 84 [] 76 268 276),(uO 85),(bO q18 (r 85))]++
 df q66 q66 (top 13) (.str NV 284) 31 2 88 286 [q20,"many","worth","step"]++
 df "less" "less" (top 14) (.str NV 284) 36 2 95 296 ["a","b"]++
 df q28 q28 (top 16) (.str q9 304) 39 2 102 306 ["top",X7]++
 df q88 q88 (top 17) (.str q9 304) 41 3 109 314 ["low","high","grid"]++
 df q25 q25 (top 18) (.str q9 304) 45 2 116 323 ["a","b"]++
 df q22 q22 (top 19) (.str q9 304) 47 2 123 331 ["a","b"]++
 df q38 q38 (top 20) (.str q9 304) 49 3 130 339 ["a","b","grid",UM]++
 dg q42 q42 (top 21) (.str q9 304) 52 3 137 349++
 df q51 q51 (top 22) (.str q9 304) 59 2 142 355 ["a","many"]++
 df q67 q67 (top 23) (.str q9 304) 61 2 149 363 ["a","b","low","high"]++
 df "hull" "hull" (top 24) (.str q9 304) 67 2 156 373 ["a","b"]++
 df "deep" "deep" (top 25) (.str q9 304) 69 2 163 381 ["a","b"]++
 df XN XN (top 26) (.str q9 304) 71 1 170 389 ["a"]++
 df q92 q92 (top 27) (.str q9 304) 73 1 177 396 ["a"]++
 df q34 q34 (top 29) (.str q12 403) 76 1 184 405 ["span"]++
 df q48 q48 (top 30) (.str q12 403) 78 1 191 412 ["pair"]++
 df q93 q93 (top 31) (.str q12 403) 80 2 198 419 ["one",Xs]++
 df q26 q26 (top 32) (.str q12 403) 86 3 205 427 ["x","low","high"]++
 df q71 q71 (top 33) (.str q12 403) 90 2 212 436 ["top",X7]++
 df q35 q35 (top 34) (.str q12 403) 92 3 219 444 [UM,"x","y","low_by","high_by","low","high"]++
 df q43 q43 (top 35) (.str q12 403) 98 4 226 457 ["z","x","y","grid",UM,"left","turned"]++
 df q44 q44 (top 36) (.str q12 403) 109 2 233 470 [q20,"many","guess","better"]++
 df q52 q52 (top 37) (.str q12 403) 118 3 240 480 ["guess",q20,"many"]++
 df "root" "root" (top 38) (.str q12 403) 120 2 247 489 [q20,"many","below"]++
 df q53 q53 (top 39) (.str q12 403) 127 4 254 498 ["z","x","many","grid","scale","powers","low","high"]++
 [tpO [],(bO q37 (.type "type")),(dO #[(de P q13 521 (.str q0 512)),(de P q64 523 (.str "Node" 522)),(de P q4 525 (.int 138 524)),(dr P q1 526 268)] 4),tpO [],fdO [],(cO "Node" 516 "Node" 517 518 138 264 181 265 519 138 520),(gO 266 3 263 (.str q0 512) 0),tpO [],(dO #[(de P q13 521 (.str q0 512)),(de P q4 525 (.int 138 524)),(dr P q1 526 268),(dr P "__dict__" 528 271),(dr P UL 530 272),(dn P q24 531)] 4),(.mk (.type "type") none (.cls (PySem.ClassData.mk "Node" [(.type q30)] [(r 270),(.type q30)] 269 "Node" Bool.true [] [(r 319),(r 364),(r 395),(r 581)] Bool.false none Bool.false)) #[none,none,(some (.str "Node" 514)),(some (.str "Node" 522)),(some (.builtin q17)),(some (.bool Bool.true))]),(.mk (.type q173) none (.fields #[(.str "__dict__" 527),(r 270),(.builtin "function.__dict__"),(.builtin "function.__dict__#set")]) #[]),(.mk (.type q173) none (.fields #[(.str UL 529),(r 270),(.builtin "ExceptionGroup.__weakref__"),.none]) #[]),(uO 270),(bO q18 (r 270)),tpO [(r 270)],(bO q37 (.type "type")),(dO #[(de P q13 541 (.str q0 512)),(de P q64 543 (.str Uc 542)),(de P q4 545 (.int 140 544)),(dr P q2 554 288),(dr P q46 563 295),(dr P q6 574 302),(dr P "back" 584 309),(dr P q11 595 316),(dr P q1 598 317)] 9),tpO [],fq [(142,287),(146,294),(149,301),(153,308),(156,315)] 4,(cO Uc 536 Uc 537 538 140 278 181 279 539 140 540),(gO 280 3 277 (.str q0 512) 0)]++
 df q2 Rc (ZA (top 42) 0) (.str q0 512) 142 3 282 546 ["self","top",X7]++
 df q46 "Number.exact" (ZA (top 42) 1) (.str q0 512) 146 3 289 555 ["self",q33,"point"]++
 df q6 Rr (ZA (top 42) 2) (.str q0 512) 149 4 296 564 ["self",q8,"box","grid",q20]++
 df "back" Ru (ZA (top 42) 3) (.str q0 512) 153 4 303 575 ["self",q8,"here","grid"]++
 df q11 TF (ZA (top 42) 4) (.str q0 512) 156 5 310 585 ["self",q8,q49,q75,"grid"]++
 [tpO [(.str X7 596),(.str "top" 597)],(dO #[(de P q13 541 (.str q0 512)),(de P q4 545 (.int 140 544)),(dr P q2 554 288),(dr P q46 563 295),(dr P q6 574 302),(dr P "back" 584 309),(dr P q11 595 316),(dr P q1 598 317),(dn P q24 599)] 2),(tyO q17 Uc [(r 270)] [(r 319),(r 270),(.type q30)] 318 [] 275 534 542),(uO 319),(bO q18 (r 319)),tpO [(r 270)],(bO q37 (.type "type")),(dO #[(de P q13 609 (.str q0 512)),(de P q64 611 (.str V0 610)),(de P q4 613 (.int 158 612)),(dr P q2 621 335),(dr P q46 630 342),(dr P q6 640 349),(dr P "back" 650 356),(dr P q11 656 361),(dr P q1 658 362)] 9),tpO [],fq [(160,334),(163,341),(166,348),(169,355),(172,360)] 4,(cO V0 604 V0 605 606 158 325 181 326 607 158 608),(gO 327 3 324 (.str q0 512) 0)]++
 df q2 U6 (ZA (top 43) 0) (.str q0 512) 160 2 329 614 ["self",WY]++
 df q46 "Unknown.exact" (ZA (top 43) 1) (.str q0 512) 163 3 336 622 ["self",q33,"point"]++
 df q6 Tc (ZA (top 43) 2) (.str q0 512) 166 4 343 631 ["self",q8,"box","grid"]++
 df "back" SR (ZA (top 43) 3) (.str q0 512) 169 4 350 641 ["self",q8,"here","grid"]++
 dg q11 Tj (ZA (top 43) 4) (.str q0 512) 172 5 357 651++
 [tpO [(.str WY 657)],(dO #[(de P q13 609 (.str q0 512)),(de P q4 613 (.int 158 612)),(dr P q2 621 335),(dr P q46 630 342),(dr P q6 640 349),(dr P "back" 650 356),(dr P q11 656 361),(dr P q1 658 362),(dn P q24 659)] 2),(tyO q17 V0 [(r 270)] [(r 364),(r 270),(.type q30)] 363 [] 322 602 610),(uO 364),(bO q18 (r 364)),tpO [(r 270)],(bO q37 (.type "type")),(dO #[(de P q13 669 (.str q0 512)),(de P q64 671 (.str "Pair" 670)),(de P q4 673 (.int 174 672)),(dr P q2 682 380),(dr P "back" 694 387),(dr P q11 700 392),(dr P q1 703 393)] 7),tpO [],fq [(176,379),(180,386),(190,391)] 4,(cO "Pair" 664 "Pair" 665 666 174 370 181 371 667 174 668),(gO 372 3 369 (.str q0 512) 0)]++
 df q2 q36 (ZA (top 44) 0) (.str q0 512) 176 3 374 674 ["self","one",Xs]++
 df "back" q69 (ZA (top 44) 1) (.str q0 512) 180 4 381 683 ["self",q8,"here","grid","x","y"]++
 dg q11 q57 (ZA (top 44) 2) (.str q0 512) 190 5 388 695++
 [tpO [(.str "one" 701),(.str Xs 702)],(dO #[(de P q13 669 (.str q0 512)),(de P q4 673 (.int 174 672)),(dr P q2 682 380),(dr P "back" 694 387),(dr P q11 700 392),(dr P q1 703 393),(dn P q24 704)] 2),(tyO q17 "Pair" [(r 270)] [(r 395),(r 270),(.type q30)] 394 [(r 442),(r 489),(r 536)] 367 662 670),(uO 395),(bO q18 (r 395)),tpO [(r 395)],(bO q37 (.type "type")),(dO #[(de P q13 714 (.str q0 512)),(de P q64 716 (.str "Plus" 715)),(de P q4 718 (.int 194 717)),(dr P q46 727 411),(dr P q6 737 418),(dr P q10 748 425),(dr P q7 759 432),(dr P q5 771 439),(dr P q1 772 440)] 9),tpO [],fq [(196,410),(199,417),(202,424),(205,431),(208,438)] 4,(cO "Plus" 709 "Plus" 710 711 194 401 181 402 712 194 713),(gO 403 3 400 (.str q0 512) 0)]++
 df q46 "Plus.exact" (ZA (top 45) 0) (.str q0 512) 196 3 405 719 ["self",q33,"point"]++
 df q6 Ri (ZA (top 45) 1) (.str q0 512) 199 4 412 728 ["self",q8,"box","grid"]++
 df q10 Sq (ZA (top 45) 2) (.str q0 512) 202 5 419 738 ["self","here","x","y","grid"]++
 df q7 Rb (ZA (top 45) 3) (.str q0 512) 205 5 426 749 ["self","here","x","y","grid"]++
 df q5 q86 (ZA (top 45) 4) (.str q0 512) 208 6 433 760 ["self","x","y","a","b","grid"]++
 [tpO [],(dO #[(de P q13 714 (.str q0 512)),(de P q4 718 (.int 194 717)),(dr P q46 727 411),(dr P q6 737 418),(dr P q10 748 425),(dr P q7 759 432),(dr P q5 771 439),(dr P q1 772 440),(dn P q24 773)] 2),(tyO q17 "Plus" [(r 395)] [(r 442),(r 395),(r 270),(.type q30)] 441 [] 398 707 715),(uO 442),(bO q18 (r 442)),tpO [(r 395)],(bO q37 (.type "type")),(dO #[(de P q13 783 (.str q0 512)),(de P q64 785 (.str "Minus" 784)),(de P q4 787 (.int 210 786)),(dr P q46 796 458),(dr P q6 806 465),(dr P q10 817 472),(dr P q7 828 479),(dr P q5 840 486),(dr P q1 841 487)] 9),tpO [],fq [(212,457),(215,464),(218,471),(221,478),(224,485)] 4,(cO "Minus" 778 "Minus" 779 780 210 448 181 449 781 210 782),(gO 450 3 447 (.str q0 512) 0)]++
 df q46 "Minus.exact" (ZA (top 46) 0) (.str q0 512) 212 3 452 788 ["self",q33,"point"]++
 df q6 Tu (ZA (top 46) 1) (.str q0 512) 215 4 459 797 ["self",q8,"box","grid"]++
 df q10 TR (ZA (top 46) 2) (.str q0 512) 218 5 466 807 ["self","here","x","y","grid"]++
 df q7 q89 (ZA (top 46) 3) (.str q0 512) 221 5 473 818 ["self","here","x","y","grid"]++
 df q5 q78 (ZA (top 46) 4) (.str q0 512) 224 6 480 829 ["self","x","y","a","b","grid"]++
 [tpO [],(dO #[(de P q13 783 (.str q0 512)),(de P q4 787 (.int 210 786)),(dr P q46 796 458),(dr P q6 806 465),(dr P q10 817 472),(dr P q7 828 479),(dr P q5 840 486),(dr P q1 841 487),(dn P q24 842)] 2),(tyO q17 "Minus" [(r 395)] [(r 489),(r 395),(r 270),(.type q30)] 488 [] 445 776 784),(uO 489),(bO q18 (r 489)),tpO [(r 395)],(bO q37 (.type "type")),(dO #[(de P q13 852 (.str q0 512)),(de P q64 854 (.str "Times" 853)),(de P q4 856 (.int 226 855)),(dr P q46 865 505),(dr P q6 875 512),(dr P q10 886 519),(dr P q7 897 526),(dr P q5 909 533),(dr P q1 910 534)] 9),tpO [],fq [(228,504),(231,511),(234,518),(237,525),(240,532)] 4,(cO "Times" 847 "Times" 848 849 226 495 181 496 850 226 851),(gO 497 3 494 (.str q0 512) 0)]++
 df q46 "Times.exact" (ZA (top 47) 0) (.str q0 512) 228 3 499 857 ["self",q33,"point"]++
 df q6 U5 (ZA (top 47) 1) (.str q0 512) 231 4 506 866 ["self",q8,"box","grid"]++
 df q10 SS (ZA (top 47) 2) (.str q0 512) 234 5 513 876 ["self","here","x","y","grid"]++
 df q7 q90 (ZA (top 47) 3) (.str q0 512) 237 5 520 887 ["self","here","x","y","grid"]++
 df q5 q79 (ZA (top 47) 4) (.str q0 512) 240 6 527 898 ["self","x","y","a","b","grid"]++
 [tpO [],(dO #[(de P q13 852 (.str q0 512)),(de P q4 856 (.int 226 855)),(dr P q46 865 505),(dr P q6 875 512),(dr P q10 886 519),(dr P q7 897 526),(dr P q5 909 533),(dr P q1 910 534),(dn P q24 911)] 2),(tyO q17 "Times" [(r 395)] [(r 536),(r 395),(r 270),(.type q30)] 535 [] 492 845 853),(uO 536),(bO q18 (r 536)),tpO [(r 270)],(bO q37 (.type "type")),(dO #[(de P q13 921 (.str q0 512)),(de P q64 923 (.str "Power" 922)),(de P q4 925 (.int 242 924)),(dr P q2 934 552),(dr P q46 943 559),(dr P q6 953 566),(dr P "back" 964 573),(dr P q11 970 578),(dr P q1 973 579)] 9),tpO [],fq [(244,551),(248,558),(251,565),(254,572),(260,577)] 4,(cO "Power" 916 "Power" 917 918 242 542 181 543 919 242 920),(gO 544 3 541 (.str q0 512) 0)]++
 df q2 Tx (ZA (top 48) 0) (.str q0 512) 244 3 546 926 ["self","one","many"]++
 df q46 "Power.exact" (ZA (top 48) 1) (.str q0 512) 248 3 553 935 ["self",q33,"point"]++
 df q6 Tb (ZA (top 48) 2) (.str q0 512) 251 4 560 944 ["self",q8,"box","grid"]++
 df "back" Tr (ZA (top 48) 3) (.str q0 512) 254 4 567 954 ["self",q8,"here","grid","x"]++
 dg q11 SN (ZA (top 48) 4) (.str q0 512) 260 5 574 965++
 [tpO [(.str "many" 971),(.str "one" 972)],(dO #[(de P q13 921 (.str q0 512)),(de P q4 925 (.int 242 924)),(dr P q2 934 552),(dr P q46 943 559),(dr P q6 953 566),(dr P "back" 964 573),(dr P q11 970 578),(dr P q1 973 579),(dn P q24 974)] 2),(tyO q17 "Power" [(r 270)] [(r 581),(r 270),(.type q30)] 580 [] 539 914 922),(uO 581),(bO q18 (r 581))]
noncomputable def S1:=mS 12 mO1 584 977
theorem p1_eq (w:World):(λos=>segRunT treeTable QW w 11 (some (.ref 6)) 1 4284 (S0 w os) (piecesOf (bI.take 49) ev cE ⟨0,0,0,0⟩ fT))=λos=>some (.next,S1 w os,cE,⟨242,0,263,68⟩):=by kernel_rfl
theorem AZ (w:World):(λos=>(L3.frc (L3.mkB 12 (mO1 w.params)) λT=>L3.goT treeTable QW w 11 (some (.ref 6)) 4440 ⟨T,584,(boot_heap w.params).life,Array.mk [],boot_drawn,977,os⟩ (restOf (bI.drop 49) ev cE ⟨242,0,263,68⟩ fT)).map λs=>(L3.K7 QW w s))=λ_=>some (true):=by kernel_rfl
theorem zdU (w:World):(λos=>(L3.frc (L3.mkB 12 (mO1 w.params)) λT=>L3.goT treeTable QW w 11 (some (.ref 6)) 4440 ⟨T,584,(boot_heap w.params).life,Array.mk [],boot_drawn,977,os⟩ (restOf (bI.drop 49) ev cE ⟨242,0,263,68⟩ fT)).map λs=>(seen ((recsOf vw).map (·.name)) (ownsOf vw) [] { s.abs with gens:=#[] }))=λ_=>some (expectedOf vw):=by kernel_rfl
theorem ze8 (w:World):(λos=>(L3.frc (L3.mkB 12 (mO1 w.params)) λT=>L3.goT treeTable QW w 11 (some (.ref 6)) 4440 ⟨T,584,(boot_heap w.params).life,Array.mk [],boot_drawn,977,os⟩ (restOf (bI.drop 49) ev cE ⟨242,0,263,68⟩ fT)).map λs=>(s.abs.heap.bltView))=λ_=>some (bltViewBooted):=by kernel_rfl
theorem zgf (w:World):(λos=>(L3.frc (L3.mkB 12 (mO1 w.params)) λT=>L3.goT treeTable QW w 11 (some (.ref 6)) 4440 ⟨T,584,(boot_heap w.params).life,Array.mk [],boot_drawn,977,os⟩ (restOf (bI.drop 49) ev cE ⟨242,0,263,68⟩ fT)).map λs=>(s.abs.heap.keysOk (looseW vw []) ((recsOf vw).map (·.name)) ((litsOf vw).map (·.1)) ((clssOf vw (looseW vw [])).map (·.name))&&s.abs.heap.accountedOkI (importedModules QW.main.body)&&s.abs.heap.isNs mainGlobals&&s.abs.heap.isNs builtinsNs&&tablesOk vw s.abs.heap&&xt s.abs&&(if true then s.abs.gens.size==0 else !leftWithCleanup s.abs.gens)))=λ_=>some (true):=by kernel_rfl
theorem zgy (w:World):(λos=>(L3.frc (L3.mkB 12 (mO1 w.params)) λT=>L3.goT treeTable QW w 11 (some (.ref 6)) 4440 ⟨T,584,(boot_heap w.params).life,Array.mk [],boot_drawn,977,os⟩ (restOf (bI.drop 49) ev cE ⟨242,0,263,68⟩ fT)).map λs=>(tabsOk vw s.abs))=λ_=>some (true):=by kernel_rfl
theorem zgm (w:World):(λos=>(L3.frc (L3.mkB 12 (mO1 w.params)) λT=>L3.goT treeTable QW w 11 (some (.ref 6)) 4440 ⟨T,584,(boot_heap w.params).life,Array.mk [],boot_drawn,977,os⟩ (restOf (bI.drop 49) ev cE ⟨242,0,263,68⟩ fT)).map λs=>(pinSeenD vw (drecsOf vw) s.abs,plainSeenE vw (looseW vw []) s.abs,plainSeenD vw [] s.abs,wideSeen vw s.abs,clsSeenW vw [] s.abs))=λ_=>some (pinGoodD (drecsOf vw),plainGoodE vw (looseW vw []),plainGoodD vw [],wideGood vw,clsGoodW vw []):=by kernel_rfl
theorem ob_eq (w:World):(λos=>(L3.frc (L3.mkB 12 (mO1 w.params)) λT=>L3.goT treeTable QW w 11 (some (.ref 6)) 4440 ⟨T,584,(boot_heap w.params).life,Array.mk [],boot_drawn,977,os⟩ (restOf (bI.drop 49) ev cE ⟨242,0,263,68⟩ fT)).map λs=>ks.map (L3.Me s))=λ_=>some (hk.val w):=by kernel_rfl
theorem left:LeftO QW vw [] xt hk.obs hk.val 8737:=L3.zbe (L3.zfm ks) FA (by decide) fe_eq si_eq (λw os _ r=>L3.zes rfl (congrFun (zcm w) os) (congrFun (zaE w) os) (by decide) (L3.zh6 (congrFun (p1_eq w) os) (L3.CN ((L3.Gv _ _).symm.trans r)))) (λw=>L3.JX (AZ w) (zdU w)) (λw=>L3.JX (ze8 w) (zgf w)) (λw=>L3.JX (zgy w) (zgm w)) ob_eq
end Mine
namespace L2
open PySem PySem.Spec PyProof.Rows
abbrev Key:=Sum Int Str
def EY:Key->Value->Bool
 | .inl k,v=>Value.isInt k v
 | .inr x,v=>Value.isStrOf x v
def keyH (w:World):Key->Int
 | .inl k=>hashInt k
 | .inr x=>hashStr w x
theorem VW:∀ {k:Key} {v:Value},EY k v=true->(∃i t,k=Sum.inl i/\v=Value.int i t)\/(∃x t,k=Sum.inr x/\v=Value.str x t)
 | .inl i,v,h=>by
  obtain⟨t,e⟩:=Value.isInt_shape (k:=i) (v:=v) h;exact .inl ⟨i,t,rfl,e⟩
 | .inr x,v,h=>by
  obtain⟨t,e⟩:=Value.isStrOf_shape (x:=x) (v:=v) h;exact .inr ⟨x,t,rfl,e⟩
theorem zbh (a b:Int):decide ((Sum.inl a:Key)=Sum.inl b)=(a==b):=by
 by_cases e:a=b
 ·subst e;simp
 ·have h:¬ (Sum.inl a:Key)=Sum.inl b:=λq=>e (Sum.inl.inj q)
  rw[decide_eq_false h];exact(beq_eq_false_iff_ne.mpr e).symm
theorem zcw (a b:Str):decide ((Sum.inr a:Key)=Sum.inr b)=decide (a=b):=by
 by_cases e:a=b
 ·subst e;simp
 ·have h:¬ (Sum.inr a:Key)=Sum.inr b:=λq=>e (Sum.inr.inj q)
  rw[decide_eq_false h,decide_eq_false e]
theorem zbi (a:Int)(b:Str):decide ((Sum.inl a:Key)=Sum.inr b)=false:=decide_eq_false (λq=>nomatch q)
theorem zge (a:Str)(b:Int):decide ((Sum.inr a:Key)=Sum.inl b)=false:=decide_eq_false (λq=>nomatch q)
def CV (prog:Program)(w:World):PySem.KeyKind prog w Key where
 is:=EY
 hash:=keyH w
 inj:=λv a b ha hb=>by
  rcases VW ha with ⟨i,t,rfl,rfl⟩|⟨x,t,rfl,rfl⟩
  ·rcases VW hb with ⟨j,u,rfl,e⟩|⟨y,u,rfl,e⟩
   ·injection e with e1 _;rw[e1]
   ·exact nomatch e
  ·rcases VW hb with ⟨j,u,rfl,e⟩|⟨y,u,rfl,e⟩
   ·exact nomatch e
   ·injection e with e1 _;rw[e1]
 byValue:=λk v h=>by
  rcases VW h with ⟨i,t,rfl,rfl⟩|⟨x,t,rfl,rfl⟩<;>rfl
 pyHash:=λhv h=>by
  rcases VW hv with ⟨i,t,rfl,rfl⟩|⟨x,t,rfl,rfl⟩
  ·exact wpAny_pyHash_int h
  ·exact wpAny_pyHash_str h
 eqBool:=λhu hv h=>by
  rcases VW hu with ⟨i,t,rfl,rfl⟩|⟨x,t,rfl,rfl⟩
  ·rcases VW hv with ⟨j,u,rfl,rfl⟩|⟨y,u,rfl,rfl⟩
   ·rw[zbh] at h;exact wpAny_eqBool_int h
   ·rw[zbi] at h;exact SeqAt.EqAt.int_str i t y u _ _ _ _ h
  ·rcases VW hv with ⟨j,u,rfl,rfl⟩|⟨y,u,rfl,rfl⟩
   ·rw[zge] at h;exact SeqAt.EqAt.str_int x t j u _ _ _ _ h
   ·rw[zcw] at h;exact wpAny_eqBool_str h
 «strs»:=λk x t v h=>by
  rcases VW h with ⟨i,u,rfl,e⟩|⟨y,u,rfl,e⟩
  ·exact nomatch e
  ·injection e with e1 _
   subst e1;cases v<;>rfl
set_option genInjectivity true in
inductive V where
 | non|bl (b:Bool)|int (i:Int)|str (x:Str)|byt (b:Array UInt8)|flt (b:UInt64)|ref (a:Addr)|ty (n:String)
 deriving DecidableEq
def ZK:V->Value->Prop
 | .non,u=>u=Value.none
 | .bl b,u=>u=Value.bool b
 | .int i,u=>∃t,u=Value.int i t
 | .str x,u=>∃t,u=Value.str x t
 | .byt b,u=>∃t,u=Value.bytes b t
 | .flt b,u=>∃t,u=Value.float b t
 | .ref a,u=>u=Value.ref a
 | .ty n,u=>u=Value.type n
abbrev ZJ:List V->List Value->Prop:=Paired ZK
theorem ZJ.length {xs:List V}{us:List Value}(r:ZJ xs us):xs.length=us.length:=Paired.length r
theorem ZJ.get:∀ {xs:List V} {us:List Value} {i:Nat} {x:V},ZJ xs us->xs[i]?=some x->∃u,us[i]?=some u/\ZK x u
 | _,_,_,_,.nil,e=>by simp at e
 | _,_,0,_,.cons r _,e=>by simp at e;subst e;exact⟨_,rfl,r⟩
 | _,_,i+1,x,.cons _ t,e=>by
  obtain⟨u,h1,h2⟩:=ZJ.get (i:=i) (x:=x) t (by simpa using e);exact⟨u,by simpa using h1,h2⟩
theorem ZJ.set {x:V}{u:Value}(r:ZK x u):∀ {xs:List V} {us:List Value} (i:Nat),ZJ xs us->ZJ (xs.set i x) (us.set i u)
 | _,_,_,.nil=>.nil
 | _,_,0,.cons _ t=>.cons r t
 | _,_,i+1,.cons q t=>.cons q (ZJ.set r i t)
theorem ZJ.append:∀ {xs ys:List V} {us ws:List Value},ZJ xs us->ZJ ys ws->ZJ (xs++ys) (us++ws)
 | _,_,_,_,.nil,s=>s
 | _,_,_,_,.cons r t,s=>.cons r (ZJ.append t s)
theorem ZJ.take:∀ {xs:List V} {us:List Value} (n:Nat),ZJ xs us->ZJ (xs.take n) (us.take n)
 | _,_,0,_=>.nil
 | _,_,_+1,.nil=>.nil
 | _,_,n+1,.cons r t=>.cons r (ZJ.take n t)
theorem ZJ.drop:∀ {xs:List V} {us:List Value} (n:Nat),ZJ xs us->ZJ (xs.drop n) (us.drop n)
 | _,_,0,r=>r
 | _,_,_+1,.nil=>.nil
 | _,_,n+1,.cons _ t=>ZJ.drop n t
def WJ:Option V->Option Value->Prop
 | some v,some u=>ZK v u
 | none,none=>True
 | _,_=>False
def KV {κ:Type}:List (κ×V)->List (κ×Value)->Prop:=Paired λ(p:κ×V)(q:κ×Value)=>p.1=q.1/\ZK p.2 q.2
def kV:Key->V
 | .inl i=>.int i
 | .inr x=>.str x
inductive HO where
  | lst (xs:List V)
  | tup (xs:List V)
  | dK (aV:List (Key×V))|dT (aV:List (List Key×V))
  | set (S:Int->Bool) (n:Nat)
  | ins (C dx:Addr) (fs:List (Str×V))
  | own (x:Addr)
  | xd (fs:List (Str×V))
  | met (f x:Addr)
  | rng (lo hi:Int)
  | frz (o:Obj) (u:HO)
  | tbl (ps:Array Value)
  | ext (φ:Heap->Prop)
abbrev Hp:=Addr->Option HO
def upd (H:Hp)(a:Addr)(o:HO):Hp:=λb=>if b=a then some o else H b
theorem Y2 {H:Hp}{a:Addr}{o:HO}:upd H a o a=some o:=by unfold upd;rw[if_pos rfl]
theorem Z4 {H:Hp}{a b:Addr}{o:HO}(h:b≠a):upd H a o b=H b:=by unfold upd;rw[if_neg h]
theorem J1 {H:Hp}{a b:Addr}{o u:HO}(h:H a=some o)(h':H b=some u)(d:o≠u):a≠b:=by
 intro e;subst e;rw[h] at h';exact d (Option.some.inj h')
theorem Ue {H:Hp}{a b:Addr}{o:HO}(h:H a=some o)(h':H b=none):a≠b:=by
 intro e;subst e;rw[h] at h';cases h'
section
variable (P:Program)(w:World)
def XE (H:Hp)(h:Heap)(a:Addr):HO->Prop
 | .lst xs=>xs.length<=sizeLine/\∃(aX:List Value)(n:Nat),ZJ xs aX/\h.get? a=some { cls:=.type "list",data:=.seq aX.toArray n }
 | .tup xs=>xs.length<=sizeLine/\∃aX:List Value,ZJ xs aX/\IsTup h a aX.toArray
 | .dK aV=>aV.length<=sizeLine/\(a==sysModules)=false/\∃vs,KV aV vs/\h.DictOf (CV P w) a vs
 | .dT aV=>aV.length<=sizeLine/\(a==sysModules)=false/\∃xs:List (List Key×Addr×Value),
   Paired (λ(p:List Key×V)(q:List Key×Addr×Value)=>p.1=q.1/\H q.2.1=some (.tup (p.1.map kV))/\ZK p.2 q.2.2) aV xs/\
   ∃o es ep,h.get? a=some o/\o.ExactDict/\o.data=.dict es ep/\es.toList=xs.map (entryOfKey (tupleKind (CV P w)))/\(xs.map (·.1)).Nodup
 | .set S n=>h.SetOf (intKind P w) a S n
 | .ins C dx fs=>H dx=some (.own a)/\fs.length<=1000/\dx≠a/\h.get? a=some (W.instObj C dx)/\
   ∃mA,h.Ns1 dx mA/\(∀f,WJ (fs.lookup f) (mA f))/\PySem.Within mA (fs.map (·.1))
 | .own _=>∃o,h.get? a=some o
 | .xd fs=>∃mA,h.Ns1 a mA/\∀f,WJ (fs.lookup f) (mA f)
 | .rng lo hi=>∃t u v,h.get? a=some { cls:=.type "range",data:=.fields #[.int lo t,.int hi u,.int 1 v] }
 | .frz o u=>h.get? a=some o/\XE H h a u
 | .tbl ps=>h.get? a=some { cls:=.none,data:=.fields ps }
 | .met f x=>h.get? a=some (W.methodObj (.ref f) (.ref x))
 | .ext φ=>φ h/\(∃o,h.get? a=some o)/\∀h1 h2:Heap,φ h1->(∀o,h1.get? a=some o->h2.get? a=some o)->φ h2
def HOk (H:Hp)(h:Heap):Prop:=∀a o,H a=some o->XE P w H h a o
end
section
variable {P:Program}{w:World}{H H':Hp}{h h':Heap}{a:Addr}{o:HO}
theorem XE.lt (x:XE P w H h a o):a<h.objs.size:=by
 cases o with
 | lst xs=>obtain⟨_,_,_,_,e⟩:=x;exact Heap.lt_size e
 | tup xs=>obtain⟨_,_,_,p⟩:=x;exact p.lt
 | dK aV=>obtain⟨_,_,_,_,o,_,_,e,_⟩:=x;exact Heap.lt_size e
 | dT aV=>obtain⟨_,_,_,_,o,_,_,e,_⟩:=x;exact Heap.lt_size e
 | set S n=>obtain⟨o,_,_,_,e,_⟩:=x;exact Heap.lt_size e
 | ins C dx fs=>obtain⟨_,_,_,e,_⟩:=x;exact Heap.lt_size e
 | own y=>obtain⟨_,e⟩:=x;exact Heap.lt_size e
 | xd fs=>obtain⟨_,⟨_,_,_,e,_⟩,_⟩:=x;exact Heap.lt_size e
 | rng lo hi=>obtain⟨_,_,_,e⟩:=x;exact Heap.lt_size e
 | frz ob u=>obtain⟨e,_⟩:=x;exact Heap.lt_size e
 | tbl ps=>exact Heap.lt_size (show h.get? a=some _ from x)
 | met f y=>exact Heap.lt_size (show h.get? a=some _ from x)
 | ext φ=>obtain⟨_,⟨_,e⟩,_⟩:=x;exact Heap.lt_size e
theorem Paired.mapP:∀ {l₁:List α} {l₂:List β},Paired F l₁ l₂->(∀a b,F a b->G a b)->Paired G l₁ l₂
 | _,_,.nil,_=>.nil
 | _,_,.cons r t,f=>.cons (f _ _ r) (Paired.mapP t f)
theorem XE.stay (x:XE P w H h a o)(k:∀b u,(b=a\/H b=some (.own a))->h.get? b=some u->h'.get? b=some u)
  (ho:∀b,H b=some (.own a)->H' b=some (.own a))(ht:∀b xs,H b=some (.tup xs)->H' b=some (.tup xs)):XE P w H' h' a o:=by
 induction o with
 | lst xs=>obtain⟨z,aX,n,r,e⟩:=x;exact⟨z,aX,n,r,k _ _ (.inl rfl) e⟩
 | tup xs=>obtain⟨z,aX,r,ob,e,c⟩:=x;exact⟨z,aX,r,ob,k _ _ (.inl rfl) e,c⟩
 | dK aV=>obtain⟨z,y,vs,r,ob,es,ep,e,c⟩:=x;exact⟨z,y,vs,r,ob,es,ep,k _ _ (.inl rfl) e,c⟩
 | dT aV=>
  obtain⟨z,y,xs,r,ob,es,ep,e,c⟩:=x;exact⟨z,y,xs,Paired.mapP r λp q z=>⟨z.1,ht _ _ z.2.1,z.2.2⟩,ob,es,ep,k _ _ (.inl rfl) e,c⟩
 | set S n=>obtain⟨ob,es,ep,t,e,c⟩:=x;exact⟨ob,es,ep,t,k _ _ (.inl rfl) e,c⟩
 | ins C dx fs=>
  obtain⟨d,z,ne,e,mA,⟨od,es,ep,e2,c⟩,r⟩:=x;exact⟨ho _ d,z,ne,k _ _ (.inl rfl) e,mA,⟨od,es,ep,k _ _ (.inr d) e2,c⟩,r⟩
 | own y=>obtain⟨ob,e⟩:=x;exact⟨ob,k _ _ (.inl rfl) e⟩
 | xd fs=>obtain⟨mA,⟨od,es,ep,e,c⟩,r⟩:=x;exact⟨mA,⟨od,es,ep,k _ _ (.inl rfl) e,c⟩,r⟩
 | rng lo hi=>obtain⟨t,u,v,e⟩:=x;exact⟨t,u,v,k _ _ (.inl rfl) e⟩
 | frz ob u ih=>obtain⟨e,q⟩:=x;exact⟨k _ _ (.inl rfl) e,ih q⟩
 | tbl ps=>
  have e:h.get? a=some { cls:=.none,data:=.fields ps }:=x
  show h'.get? a=some { cls:=.none,data:=.fields ps };exact k a _ (.inl rfl) e
 | met f y=>
  have e:h.get? a=some (W.methodObj (.ref f) (.ref y)):=x
  show h'.get? a=some (W.methodObj (.ref f) (.ref y));exact k a _ (.inl rfl) e
 | ext φ=>obtain⟨p,⟨o,e⟩,st⟩:=x;exact⟨st _ _ p λo q=>k _ _ (.inl rfl) q,⟨o,k _ _ (.inl rfl) e⟩,st⟩
theorem HOk.lt (x:HOk P w H h)(e:H a=some o):a<h.objs.size:=(x a o e).lt
theorem HOk.fresh (x:HOk P w H h)(e:h.objs.size<=a):H a=none:=by
 cases q:H a with
 | none=>rfl
 | some u=>exact absurd (zQ (x.lt q) e) (yL _)
theorem HOk.kept (x:HOk P w H h)(k:∀b u,h.get? b=some u->h'.get? b=some u):HOk P w H h':=λa o e=>
 (x a o e).stay (λb u _ q=>k b u q) (λ_ q=>q) λ_ _ q=>q
theorem HOk.laid (x:HOk P w H h)(k:∀b u,h.get? b=some u->h'.get? b=some u)(hp:h.objs.size<=a)(new:XE P w (upd H a o) h' a o):HOk P w (upd H a o) h':=λb u e=>by
 have hn:=x.fresh hp;by_cases hb:b=a
 ·subst hb;rw[Y2] at e;cases e;exact new
 ·rw[Z4 hb] at e;exact(x b u e).stay (λc v _ q=>k c v q) (λc q=>by rw[Z4 (Ue q hn)];exact q) λc xs q=>by rw[Z4 (Ue q hn)];exact q
end
def Rd (H:Hp)(a:Addr)(u:HO):Prop:=H a=some u\/∃o,H a=some (.frz o u)
theorem Rd.ok {P:Program}{w:World}{H:Hp}{h:Heap}{a:Addr}{u:HO}(r:Rd H a u)(x:HOk P w H h):XE P w H h a u:=by
 rcases r with r|⟨o,r⟩
 ·exact x a u r
 ·obtain⟨_,q⟩:=x a _ r;exact q
def Mut:Option HO->Prop
 | some (.lst _)=>True
 | some (.dK _)=>True
 | some (.dT _)=>True
 | some (.set _ _)=>True
 | some (.ins _ _ _)=>True
 | some (.ext _)=>True
 | _=>False
section
variable {P:Program}{w:World}{H:Hp}{h h':Heap}{x e:Addr}{o':HO}
theorem HOk.write (ok:HOk P w H h)(mu:Mut (H x))(he:e=x\/H e=some (.own x))(k:∀b u,b≠e->h.get? b=some u->h'.get? b=some u)(heo:∃u,h'.get? e=some u)
  (new:XE P w (upd H x o') h' x o'):HOk P w (upd H x o') h':=λb u q=>by
 have nown:∀c y,H c=some (.own y)->c≠x:=λc y r z=>by subst z;rw[r] at mu;exact mu
 have ntup:∀c xs,H c=some (.tup xs)->c≠x:=λc xs r z=>by subst z;rw[r] at mu;exact mu
 by_cases hb:b=x
 ·subst hb;rw[Y2] at q;cases q;exact new
 ·rw[Z4 hb] at q;by_cases hbe:b=e
  ·have q':H b=some (.own x):=by
    rcases he with z|z
    ·exact absurd (hbe.trans z) hb
    ·rw[hbe];exact z
   rw[q] at q';cases q'
   obtain⟨v,hv⟩:=heo;exact⟨v,by rw[hbe];exact hv⟩
  ·refine(ok b u q).stay (λc v hc r=>k c v ?_ r) (λc r=>by rw[Z4 (nown c b r)];exact r) λc xs r=>by rw[Z4 (ntup c xs r)];exact r
   rcases hc with rfl|hc
   ·exact hbe
   ·rintro rfl;rcases he with z|z
    ·exact nown c b hc z
    ·rw[hc] at z;cases z;exact hb rfl
end
structure Un (fs ex:List Addr)(H H':Hp)(h h':Heap):Prop where
 keep:∀b o,h.get? b=some o->H b=none->b ∉ fs->b ∉ ex->h'.get? b=some o
 slot:∀b o,h.get? b=some o->H b=none->b∈fs->b ∉ ex->∃sl,h'.get? b=some { o with slots:=sl }
 free:∀b o,h.get? b=some o->H b=none->b ∉ ex->H' b=none
 there:∀b o,h.get? b=some o->b ∉ ex->∃o',h'.get? b=some o'
 tups:∀b xs,H b=some (.tup xs)->H' b=some (.tup xs)
 frzs:∀b o u,H b=some (.frz o u)->H' b=some (.frz o u)
 tbls:∀b ps,H b=some (.tbl ps)->∃more,H' b=some (.tbl (ps++more))
theorem Un.any (u:Un fs ex H H1 h h1){b:Addr}{ob:Obj}(q:h.get? b=some ob)(n:H b=none)(hx:b ∉ ex):∃sl,h1.get? b=some { ob with slots:=sl }:=by
 by_cases hb:b∈fs
 ·exact u.slot b ob q n hb hx
 ·exact⟨ob.slots,u.keep b ob q n hb hx⟩
theorem Un.trans (a:Un fs ex H H1 h h1)(b:Un fs ex H1 H2 h1 h2):Un fs ex H H2 h h2 where
 keep:=λc ob q n hc hx=>b.keep c ob (a.keep c ob q n hc hx) (a.free c ob q n hx) hc hx
 slot:=λc ob q n hc hx=>by
  obtain⟨sl,e1⟩:=a.slot c ob q n hc hx;obtain⟨sl',e2⟩:=b.slot c _ e1 (a.free c ob q n hx) hc hx;exact⟨sl',e2⟩
 free:=λc ob q n hx=>by
  obtain⟨o',e1⟩:=a.there c ob q hx;exact b.free c o' e1 (a.free c ob q n hx) hx
 there:=λc ob q hx=>by
  obtain⟨o',e1⟩:=a.there c ob q hx;exact b.there c o' e1 hx
 tups:=λc xs q=>b.tups c xs (a.tups c xs q)
 frzs:=λc ob xs q=>b.frzs c ob xs (a.frzs c ob xs q)
 tbls:=λc ps q=>by
  obtain⟨m1,e1⟩:=a.tbls c ps q;obtain⟨m2,e2⟩:=b.tbls c _ e1;exact⟨m1++m2,by rw[e2,Array.append_assoc]⟩
theorem Un.kept (k:∀b u,h.get? b=some u->h'.get? b=some u):Un fs ex H H h h':=
 ⟨λb ob q _ _ _=>k b ob q,λb ob q _ _ _=>⟨ob.slots,k b ob q⟩,λ_ _ _ n _=>n,λb ob q _=>⟨ob,k b ob q⟩,λ_ _ q=>q,λ_ _ _ q=>q,λ_ ps q=>⟨#[],by rw[q];simp⟩⟩
theorem Un.refl:Un fs ex H H h h:=Un.kept λ_ _ q=>q
theorem Un.laid (k:∀b u,h.get? b=some u->h'.get? b=some u)(hp:h.objs.size<=a)(hn:H a=none):Un fs ex H (upd H a o) h h' where
 keep:=λb u q _ _ _=>k b u q
 slot:=λb u q _ _ _=>⟨u.slots,k b u q⟩
 free:=λb u q n _=>by rw[Z4 (zM (zQ (Heap.lt_size q) hp))];exact n
 there:=λb u q _=>⟨u,k b u q⟩
 tups:=λb xs q=>by rw[Z4 (Ue q hn)];exact q
 frzs:=λb u xs q=>by rw[Z4 (Ue q hn)];exact q
 tbls:=λb ps q=>⟨#[],by rw[Z4 (Ue q hn),q];simp⟩
theorem Un.write (mu:Mut (H x))(he:e=x\/H e=some (.own x))(k:∀b u,b≠e->h.get? b=some u->h'.get? b=some u)(heo:∃u,h'.get? e=some u):Un fs ex H (upd H x o) h h':=by
 have hx:∀b,H b=none->b≠x:=λb n z=>by subst z;rw[n] at mu;exact mu
 have hb:∀b,H b=none->b≠e:=λb n z=>by
  subst z;rcases he with r|r
  ·exact hx b n r
  ·rw[n] at r;cases r
 have hm:∀b u,H b=some u->¬ Mut (some u)->b≠x:=λb u q nm z=>by subst z;rw[q] at mu;exact nm mu
 refine⟨λb u q n _ _=>k b u (hb b n) q,λb u q n _ _=>⟨u.slots,k b u (hb b n) q⟩,λb u q n _=>by rw[Z4 (hx b n)];exact n,λb u q _=>?_,
  λb xs q=>by rw[Z4 (hm b _ q λz=>z)];exact q,λb u xs q=>by rw[Z4 (hm b _ q λz=>z)];exact q,λb ps q=>⟨#[],by rw[Z4 (hm b _ q λz=>z),q];simp⟩⟩
 by_cases hbe:b=e
 ·subst hbe;exact heo
 ·exact⟨u,k b u hbe q⟩
theorem Un.mono (u:Un fs ex H H1 h h1)(hs:∀b∈fs,b∈fs')(hx:∀b∈ex,b∈ex'):Un fs' ex' H H1 h h1:=
 ⟨λb ob q n hb he=>u.keep b ob q n (λz=>hb (hs b z)) λz=>he (hx b z),λ_ _ q n _ he=>u.any q n λz=>he (hx _ z),λb ob q n he=>u.free b ob q n λz=>he (hx b z),λb ob q he=>u.there b ob q λz=>he (hx b z),u.tups,u.frzs,u.tbls⟩
def trk (h:Heap)(H:Hp):List Addr:=(List.range h.objs.size).filter λa=>(H a).isSome
def WQ (h:Heap)(H:Hp):Heap:=W.hideAll h (trk h H)
theorem zhF (h:Heap)(H:Hp):(WQ h H).objs.size=h.objs.size:=W.hideAll_size _ _
theorem A6 {h:Heap}{H:Hp}{b:Addr}{o:Obj}(e:h.get? b=some o)(n:H b=none):(WQ h H).get? b=some o:=
 W.hideAll_get _ e λhm=>by
  have q:(H b).isSome=true:=(List.mem_filter.mp hm).2;rw[n] at q;simp at q
theorem zdS {h:Heap}{H:Hp}{b:Addr}{o:Obj}(e:(WQ h H).get? b=some o):h.get? b=some o/\H b=none:=by
 have e':h.get? b=some o:=W.of_hideAll (trk h H) e;refine⟨e',?_⟩;cases q:H b with
 | none=>rfl
 | some x=>
  have hm:b∈trk h H:=List.mem_filter.mpr ⟨yZ.mpr (Heap.lt_size e'),by simp[q]⟩
  have z:(WQ h H).get? b=none:=W.hideAll_none (trk h H) hm;rw[z] at e;cases e
def zbE (g h:Heap)(L:Addr):LA:=(List.range h.objs.size).filterMap λa=>if a=L\/(g.get? a).isSome=true then none else (h.get? a).map λo=>(a,o)
def Yy (g h:Heap)(L d:Addr):LA:=(zbE g h L).filter λp=>decide (p.1≠d)
structure Mod (K:Fg)(mg:Str->Option Value)(base:Heap):Prop where
 kin:K.In base
 glob:base.Ns mainGlobals mg
 blt:∃mb,base.Ns builtinsNs mb/\∀x:Str,x≠"__name__"->mb x=bootBuiltins x
 nolimit:base.NoLimit
structure Cx where
 prog:Program
 w:World
 K:Fg
 mg:Str->Option Value
 base:Heap
 A:Around
 N:List Str
 s₀:Shared
 H₀:Hp
 env:Env
 outer:List Env
 stack:List Env
 ex:List Addr
 fn:Str->Bool
 calm:Bool
 pn:LA
 xe:Value->Shared->Prop
def frs (l:List Env):List Addr:=l.filterMap (·.frame)
abbrev Cx.fs (X:Cx):List Addr:=frs X.outer
def Vis (sc:Scope)(x:Str):Prop:=sc.names.lookup x=some .local\/sc.names.lookup x=some .cell\/sc.names.lookup x=some .free
def Loc (sc:Scope)(x:Str):Prop:=sc.names.lookup x=some .local\/sc.names.lookup x=some .cell
def Look (env:Env)(h:Heap)(m:Str->Option Value)(x:Str)(u:Value):Prop:=
 (env.kindOf x=some .local/\m x=some u)\/((env.kindOf x=some .cell\/env.kindOf x=some .free)/\∃c,env.cells.lookup x=some c/\h.IsCell c (some u))
structure Cx.Ok (X:Cx):Prop where
 mod:Mod X.K X.mg X.base
 kind:X.env.scope.kind=.function
 glob:X.env.globals=mainGlobals
 blt:X.env.builtins=builtinsNs
 above:X.s₀.heap.objs.size<=X.env.locals
 inj:∀x y c,X.env.cells.lookup x=some c->X.env.cells.lookup y=some c->x=y
 has:∀x,(X.env.kindOf x=some .cell\/X.env.kindOf x=some .free)->∃c,X.env.cells.lookup x=some c
 cab:∀x c,X.fn x=true->X.env.cells.lookup x=some c->X.s₀.heap.objs.size<=c
 hd:X.calm=true->X.A.handled=none
 frames:X.A.frames=some X.stack
 stk:X.stack=X.outer\/(X.stack=X.env::X.outer/\X.env.frame=some X.env.locals)
 exf:∀b∈X.ex,b≠X.env.locals/\∀x c,X.env.cells.lookup x=some c->c≠b
 bs:∀b o,X.base.get? b=some o->X.s₀.heap.get? b=some o/\X.H₀ b=none
 bsz:X.base.objs.size<=X.s₀.heap.objs.size
 noex:∀b o,X.base.get? b=some o->b ∉ X.ex
 exfs:∀b∈X.ex,b ∉ X.fs
 funs:X.s₀.heap.FunFrames X.base X.outer
 frf:∀b∈X.fs,X.H₀ b=none
structure Inv (X:Cx)(pins:LA)(σ:List (Option V))(H:Hp)(s:Shared):Prop where
 ok:X.Ok
 os:s.os=X.s₀.os
 bare:AllBare s.gens
 base:Un X.fs X.ex X.H₀ H X.s₀.heap s.heap
 loc:∃m,s.heap.Ns X.env.locals m/\∀(i:Nat)(x:Str)(v:V),X.N[i]?=some x->σ[i]?=some (some v)->Vis X.env.scope x->∃u,ZK v u/\Look X.env s.heap m x u
 cell:∀x c,X.env.cells.lookup x=some c->∃v,s.heap.IsCell c v
 free:H X.env.locals=none
 freeC:∀x c,X.env.cells.lookup x=some c->H c=none
 pin:∀p∈X.pn++pins,s.heap.get? p.1=some p.2/\H p.1=none/\p.1≠X.env.locals/\p.1 ∉ X.fs/\∀v,p.2.data≠.cell v
 hok:HOk X.prog X.w H s.heap
 len:σ.length=X.N.length
section
variable {X:Cx}{pins:LA}{σ:List (Option V)}{H H':Hp}{s:Shared}{h':Heap}
theorem Cx.Ok.nofr (ok:X.Ok)(e:X.base.get? b=some o):b ∉ X.fs:=λhb=>by
 have:=(ok.funs.mem hb).1;rw[e] at this;cases this
theorem Inv.bs (I:Inv X pins σ H s):∀b o,X.base.get? b=some o->s.heap.get? b=some o/\H b=none:=λb o e=>
 ⟨I.base.keep b o (I.ok.bs b o e).1 (I.ok.bs b o e).2 (I.ok.nofr e) (I.ok.noex b o e),I.base.free b o (I.ok.bs b o e).1 (I.ok.bs b o e).2 (I.ok.noex b o e)⟩
theorem Inv.bk (I:Inv X pins σ H s):∀b o,X.base.get? b=some o->s.heap.get? b=some o:=λb o e=>(I.bs b o e).1
theorem Inv.mod (I:Inv X pins σ H s):Mod X.K X.mg X.base:=I.ok.mod
theorem Inv.kIn (I:Inv X pins σ H s):X.K.In s.heap:=I.ok.mod.kin.keeps I.bk
theorem Inv.nolimit (I:Inv X pins σ H s):s.heap.NoLimit:=I.ok.mod.nolimit.keeps I.bk
theorem Inv.lt (I:Inv X pins σ H s):X.env.locals<s.heap.objs.size:=let ⟨_,hn,_⟩:=I.loc;hn.lt
theorem Inv.sz (I:Inv X pins σ H s):X.s₀.heap.objs.size<=s.heap.objs.size:=yD I.ok.above (yN I.lt)
theorem Inv.nofs (I:Inv X pins σ H s)(h:s.heap.objs.size<=a):a ∉ X.fs:=λhb=>by
 obtain⟨_,o,ho,_⟩:=I.ok.funs.mem hb;exact absurd (zQ (Heap.lt_size ho) (yD I.sz h)) (yL _)
theorem Inv.cne (I:Inv X pins σ H s):∀x c,X.env.cells.lookup x=some c->c≠X.env.locals:=λx c e z=>by
 obtain⟨v,o,ho,hd⟩:=I.cell x c e;obtain⟨m,⟨o',es,ep,ho',hd',_⟩,_⟩:=I.loc;rw[z,ho'] at ho;cases ho;rw[hd'] at hd;cases hd
theorem Inv.funs (I:Inv X pins σ H s):s.heap.FunFrames X.base X.outer:=by
 have all:∀(l:List Env),(∀b∈frs l,b∈X.fs)->X.s₀.heap.FunFrames X.base l->s.heap.FunFrames X.base l:=by
  intro l
  induction l with
  | nil=>intro _ _;trivial
  | cons env r ih=>
   intro hs hl;obtain⟨hk,⟨L,o,hf,hn,ho,hd⟩,hr⟩:=hl;have hL:L∈X.fs:=hs L (by unfold frs;rw[List.filterMap_cons,hf];exact yS);obtain⟨sl,e⟩:=I.base.slot L o ho (I.ok.frf L hL) hL λz=>I.ok.exfs L z hL
   exact⟨hk,⟨L,_,hf,hn,e,hd⟩,ih (λb hb=>hs b (by unfold frs;rw[List.filterMap_cons,hf];exact yH _ hb)) hr⟩
 exact all X.outer (λ_ hb=>hb) I.ok.funs
theorem Inv.stack (I:Inv X pins σ H s):s.heap.FunFrames X.base X.stack:=by
 rcases I.ok.stk with e|⟨e,hf⟩
 ·rw[e];exact I.funs
 ·rw[e];obtain⟨m,hn,_⟩:=I.loc;refine .cons (by rw[I.ok.kind];decide) hf hn ?_ I.funs;exact Heap.get?_none_of_le (yD I.ok.bsz I.ok.above)
theorem Inv.stkSub (I:Inv X pins σ H s):∀b∈frs X.stack,b∈X.env.locals::X.fs:=λb hb=>by
 rcases I.ok.stk with e|⟨e,hf⟩
 ·rw[e] at hb;exact yH _ hb
 ·rw[e] at hb;unfold frs at hb;rw[List.filterMap_cons,hf] at hb;exact hb
theorem Inv.stkFree (I:Inv X pins σ H s):∀b∈frs X.stack,H b=none:=λb hb=>by
 rcases zR.mp (I.stkSub b hb) with e|hb
 ·rw[e];exact I.free
 ·obtain⟨_,o,ho,_⟩:=I.ok.funs.mem hb;exact I.base.free b o ho (I.ok.frf b hb) λz=>I.ok.exfs b z hb
theorem Inv.step {g':Array GenState}{t':Nat}{d':Drawn}{ch:List Addr}(I:Inv X pins σ H s)
  (hch:∀b∈ch,(b∈X.ex\/X.s₀.heap.objs.size<=b)/\b≠X.env.locals/\(∀x c,X.env.cells.lookup x=some c->c≠b)/\∀p∈X.pn++pins,p.1≠b)
  (keep:∀b o,b≠X.env.locals->b ∉ X.fs->b ∉ ch->s.heap.get? b=some o->H b=none->h'.get? b=some o)
  (slot:∀b o,b≠X.env.locals->b∈X.fs->b ∉ ch->s.heap.get? b=some o->H b=none->∃sl,h'.get? b=some { o with slots:=sl })(free:∀b o,b ∉ ch->s.heap.get? b=some o->H b=none->H' b=none)
  (there:∀b o,b ∉ ch->s.heap.get? b=some o->∃o',h'.get? b=some o')
  (tups:∀b xs,H b=some (.tup xs)->H' b=some (.tup xs))(frzs:∀b o u,H b=some (.frz o u)->H' b=some (.frz o u))(tbls:∀b ps,H b=some (.tbl ps)->∃more,H' b=some (.tbl (ps++more)))
  (ns:∀m,s.heap.Ns X.env.locals m->h'.Ns X.env.locals m)(hok:HOk X.prog X.w H' h')(hg:AllBare g'):
  Inv X pins σ H' { s with heap:=h',gens:=g',drawn:=d',toks:=t' }:=by
 have neL:∀b o,X.s₀.heap.get? b=some o->b≠X.env.locals:=λb o e=>zM (zQ (Heap.lt_size e) I.ok.above)
 have neC:∀b o,X.s₀.heap.get? b=some o->b ∉ X.ex->b ∉ ch:=λb o e hx hb=>by
  rcases (hch b hb).1 with z|z
  ·exact hx z
  ·exact absurd (zQ (Heap.lt_size e) z) (yL _)
 have cellK:∀x c,X.env.cells.lookup x=some c->∀v,s.heap.IsCell c v->h'.IsCell c v:=λx c e v ⟨o,ho,hd⟩=>by
  have nch:c ∉ ch:=λz=>(hch c z).2.2.1 x c e rfl
  by_cases hc:c∈X.fs
  ·obtain⟨sl,q⟩:=slot c o (I.cne x c e) hc nch ho (I.freeC x c e);exact⟨_,q,hd⟩
  ·exact⟨o,keep c o (I.cne x c e) hc nch ho (I.freeC x c e),hd⟩
 refine⟨I.ok,I.os,hg,⟨λb o e n hb hx=>?_,λb o e n hb hx=>?_,λb o e n hx=>?_,λb o e hx=>?_,λb xs e=>tups b xs (I.base.tups b xs e),λb o xs e=>frzs b o xs (I.base.frzs b o xs e),λb ps e=>?_⟩,?_,λx c e=>?_,?_,λx c e=>?_,λp hp=>?_,hok,I.len⟩
 ·exact keep b o (neL b o e) hb (neC b o e hx) (I.base.keep b o e n hb hx) (I.base.free b o e n hx)
 ·obtain⟨sl,e1⟩:=I.base.slot b o e n hb hx;obtain⟨sl',e2⟩:=slot b _ (neL b o e) hb (neC b o e hx) e1 (I.base.free b o e n hx);exact⟨sl',e2⟩
 ·obtain⟨o',e1⟩:=I.base.there b o e hx;exact free b o' (neC b o e hx) e1 (I.base.free b o e n hx)
 ·obtain⟨o',e1⟩:=I.base.there b o e hx;exact there b o' (neC b o e hx) e1
 ·obtain⟨m1,e1⟩:=I.base.tbls b ps e;obtain⟨m2,e2⟩:=tbls b _ e1;exact⟨m1++m2,by rw[e2,Array.append_assoc]⟩
 ·obtain⟨m,hn,hl⟩:=I.loc;refine⟨m,ns m hn,λi x v e1 e2 e3=>?_⟩;obtain⟨u,r,l⟩:=hl i x v e1 e2 e3;refine⟨u,r,?_⟩;rcases l with l|⟨k,c,e,z⟩
  ·exact .inl l
  ·exact .inr ⟨k,c,e,cellK x c e _ z⟩
 ·obtain⟨v,z⟩:=I.cell x c e;exact⟨v,cellK x c e v z⟩
 ·obtain⟨m,⟨o,_,_,ho,_⟩,_⟩:=I.loc;exact free _ o (λz=>(hch _ z).2.1 rfl) ho I.free
 ·obtain⟨v,o,ho,hd⟩:=I.cell x c e;exact free c o (λz=>(hch c z).2.2.1 x c e rfl) ho (I.freeC x c e)
 ·obtain⟨e,n,ne,nf,d⟩:=I.pin p hp;have nch:p.1 ∉ ch:=λz=>(hch p.1 z).2.2.2 p hp rfl
  exact⟨keep p.1 p.2 ne nf nch e n,free p.1 p.2 nch e n,ne,nf,d⟩
theorem Inv.un {t':Nat}(I:Inv X pins σ H s)(u:Un X.fs [] H H' s.heap h')(hok:HOk X.prog X.w H' h'):Inv X pins σ H' { s with heap:=h',toks:=t' }:=by
 obtain⟨m,⟨o,es,ep,ho,r⟩,_⟩:=id I.loc;obtain⟨sl,hL⟩:=u.any ho I.free (by simp);exact I.step (g':=s.gens) (d':=s.drawn) (ch:=[]) (λ_ z=>nomatch z) (λb o _ hb _ e n=>u.keep b o e n hb (by simp)) (λb o _ hb _ e n=>u.slot b o e n hb (by simp)) (λb o _ e n=>u.free b o e n (by simp)) (λb o _ e=>u.there b o e (by simp)) u.tups u.frzs u.tbls (λm' hm=>by
  obtain⟨o',es',ep',ho',r'⟩:=hm;rw[ho] at ho';cases ho'
  exact⟨_,es',ep',hL,r'⟩) hok I.bare
theorem Inv.call {g':Array GenState}{t':Nat}{d':Drawn}{ch:List Addr}(I:Inv X pins σ H s)(u:Un (frs X.stack) ch H H' s.heap h')(hok:HOk X.prog X.w H' h')(hg:AllBare g')
  (hch:∀b∈ch,(b∈X.ex\/X.s₀.heap.objs.size<=b)/\b≠X.env.locals/\(∀x c,X.env.cells.lookup x=some c->c≠b)/\∀p∈X.pn++pins,p.1≠b):
  Inv X pins σ H' { s with heap:=h',gens:=g',drawn:=d',toks:=t' }:=by
 obtain⟨m,⟨o,es,ep,ho,r⟩,_⟩:=id I.loc;obtain⟨sl,hL⟩:=u.any ho I.free λz=>(hch _ z).2.1 rfl
 exact I.step (ch:=ch) hch (λb o hL hb hc e n=>u.keep b o e n (λz=>(zR.mp (I.stkSub b z)).elim hL hb) hc) (λb o _ _ hc e n=>u.any e n hc) (λb o hc e n=>u.free b o e n hc) (λb o hc e=>u.there b o e hc) u.tups u.frzs u.tbls (λm' hm=>by
  obtain⟨o',es',ep',ho',r'⟩:=hm;rw[ho] at ho';cases ho'
  exact⟨_,es',ep',hL,r'⟩) hok hg
theorem Inv.turned {t':Nat}{it:Addr}(I:Inv X pins σ H s)(k:∀b o,b≠it->s.heap.get? b=some o->h'.get? b=some o)(hn:H it=none)(hL:it≠X.env.locals)
  (h1:it∈X.ex\/X.s₀.heap.objs.size<=it)(h2:∀x c,X.env.cells.lookup x=some c->c≠it)(h3:∀p∈X.pn++pins,p.1≠it):Inv X pins σ H { s with heap:=h',toks:=t' }:=by
 have nit:∀b u,H b=some u->b≠it:=λb u e z=>by rw[z,hn] at e;cases e
 refine I.step (g':=s.gens) (d':=s.drawn) (ch:=[it]) (λb hb=>?_) (λb o _ _ hc e _=>k b o (λz=>hc (by simp[z])) e) (λb o _ _ hc e _=>⟨o.slots,k b o (λz=>hc (by simp[z])) e⟩) (λ_ _ _ _ n=>n)
  (λb o hc e=>⟨o,k b o (λz=>hc (by simp[z])) e⟩) (λ_ _ e=>e) (λ_ _ _ e=>e) (λb ps e=>⟨#[],by rw[e];simp⟩) (λm hm=>?_) (λb u e=>?_) I.bare
 ·have e:b=it:=by simpa using hb
  subst e;exact⟨h1,hL,h2,h3⟩
 ·obtain⟨o,es,ep,ho,r⟩:=hm;exact⟨o,es,ep,k _ o (Ne.symm hL) ho,r⟩
 ·refine(I.hok b u e).stay (λc v hc q=>k c v ?_ q) (λ_ q=>q) λ_ _ q=>q
  rcases hc with z|z
  ·rw[z];exact nit b u e
  ·exact nit c _ z
theorem Inv.tok (I:Inv X pins σ H s)(t:Nat):Inv X pins σ H { s with toks:=t }:=I.un (h':=s.heap) (t':=t) Un.refl I.hok
theorem Inv.kept {t':Nat}(I:Inv X pins σ H s)(k:∀b u,s.heap.get? b=some u->h'.get? b=some u):Inv X pins σ H { s with heap:=h',toks:=t' }:=I.un (Un.kept k) (I.hok.kept k)
theorem Inv.laid (I:Inv X pins σ H s)(k:∀b u,s.heap.get? b=some u->h'.get? b=some u)(hp:s.heap.objs.size<=a)(new:XE X.prog X.w (upd H a o) h' a o):
  Inv X pins σ (upd H a o) { s with heap:=h',toks:=t' }:=I.un (Un.laid k hp (I.hok.fresh hp)) (I.hok.laid k hp new)
theorem Inv.write (I:Inv X pins σ H s)(mu:Mut (H x))(he:e=x\/H e=some (.own x))(k:∀b u,b≠e->s.heap.get? b=some u->h'.get? b=some u)(heo:∃u,h'.get? e=some u)(new:XE X.prog X.w (upd H x o) h' x o):Inv X pins σ (upd H x o) { s with heap:=h',toks:=t' }:=I.un (Un.write mu he k heo) (I.hok.write mu he k heo new)
theorem Inv.pins_of (I:Inv X pins σ H s)(h:∀p∈pins',s.heap.get? p.1=some p.2/\H p.1=none/\p.1≠X.env.locals/\p.1 ∉ X.fs/\∀v,p.2.data≠.cell v):Inv X pins' σ H s:=
 ⟨I.ok,I.os,I.bare,I.base,I.loc,I.cell,I.free,I.freeC,λp hp=>(zZ.mp hp).elim (λz=>I.pin p (List.mem_append_left _ z)) (h p),I.hok,I.len⟩
theorem D4 {N:List Str}(hN:N.Nodup){i j:Nat}{x:Str}(a:N[i]?=some x)(b:N[j]?=some x):i=j:=by
 obtain⟨h1,e1⟩:=zA.mp a;obtain⟨h2,e2⟩:=zA.mp b;exact(List.getElem_inj hN).mp (e1.trans e2.symm)
theorem Ar {M:Model}{A:Around}{E:Value->Shared->Prop}{i:Nat}{x:Str}{v:V}{u:Value}{Q:Unit->Shared->Prop}(I:Inv X pins σ H s)(hN:X.N.Nodup)(hi:X.N[i]?=some x)(hx:Loc X.env.scope x)(r:ZK v u)
  (h:∀s',Inv X pins (σ.set i (some v)) H s'->(∃a,Heap.SameBut a s.heap s'.heap/\(a=X.env.locals\/X.env.cells.lookup x=some a))->Q () s')(hf:X.fn x=true\/X.env.scope.names.lookup x=some .local:=by first|exact .inl rfl|exact .inr rfl|assumption):wpAny M A (storeName X.env x u) Q E s:=by
 obtain⟨m,hn,hl⟩:=id I.loc;have hcls:(X.env.scope.kind==.class||(X.env.scope.kind==.module&&X.env.locals != X.env.globals))=false:=by rw[I.ok.kind];rfl
 have hiσ:i<σ.length:=by rw[I.len];exact(zA.mp hi).1
 have cne:=I.cne
 have tracked:∀ {a:Addr} {h':Heap},(∃o,s.heap.get? a=some o/\H a=none)->Heap.SameBut a s.heap h'->HOk X.prog X.w H h':=λ{a h'} ha hs b ob e=>by
  obtain⟨_,_,hfree⟩:=ha;refine(I.hok b ob e).stay (λc w' hc q=>(hs.2 c ?_).trans q) (λ_ q=>q) λ_ _ q=>q
  rintro rfl;rcases hc with rfl|hc
  ·rw[hfree] at e;cases e
  ·rw[hfree] at hc;cases hc
 rcases hx with hk|hk
 ·refine wpAny_storeName_local hk hn (λh' hn' hs=>?_) hcls;obtain⟨oL,_,_,hoL,_⟩:=id hn;refine h _ ⟨I.ok,I.os,I.bare,⟨λb o e n hb hx=>?_,λb o e n hb hx=>?_,I.base.free,λb o e hx=>?_,I.base.tups,I.base.frzs,I.base.tbls⟩,⟨_,hn',λj y v' e1 e2 e3=>?_⟩,λy c e=>?_,I.free,I.freeC,λp hp=>?_,tracked ⟨oL,hoL,I.free⟩ hs,by simpa using I.len⟩ ⟨_,hs,.inl rfl⟩
  ·exact(hs.2 b (zM (zQ (Heap.lt_size e) I.ok.above))).trans (I.base.keep b o e n hb hx)
  ·obtain⟨sl,e1⟩:=I.base.slot b o e n hb hx;exact⟨sl,(hs.2 b (zM (zQ (Heap.lt_size e) I.ok.above))).trans e1⟩
  ·obtain⟨o',e1⟩:=I.base.there b o e hx;exact⟨o',(hs.2 b (zM (zQ (Heap.lt_size e) I.ok.above))).trans e1⟩
  ·by_cases hj:j=i
   ·subst hj;rw[hi] at e1;cases e1
    rw[yI hiσ] at e2;cases e2;exact⟨u,r,.inl ⟨hk,by simp⟩⟩
   ·rw[zW (Ne.symm hj)] at e2;obtain⟨u',r',q⟩:=hl j y v' e1 e2 e3;refine⟨u',r',?_⟩;rcases q with ⟨k,e⟩|⟨k,c,e,z⟩
    ·refine .inl ⟨k,?_⟩;have:y≠x:=λe=>hj (D4 hN e1 (e ▸ hi))
     simp[this,e]
    ·exact .inr ⟨k,c,e,z.sameBut hs (cne y c e)⟩
  ·obtain⟨w',z⟩:=I.cell y c e;exact⟨w',z.sameBut hs (cne y c e)⟩
  ·obtain⟨e,n,ne,nf,d⟩:=I.pin p hp;exact⟨(hs.2 p.1 ne).trans e,n,ne,nf,d⟩
 ·have hfn:X.fn x=true:=by
   rcases hf with z|z
   ·exact z
   ·rw[z] at hk;cases hk
  obtain⟨c,hc⟩:=I.ok.has x (.inl hk);obtain⟨w',z⟩:=I.cell x c hc;refine wpAny_storeName_cell I.ok.kind hk hc z (λh' hc' hs=>?_);obtain⟨oc,hoc,hocd⟩:=id z;refine h { s with heap:=h' } ⟨I.ok,I.os,I.bare,⟨λb o e n hb hx=>?_,λb o e n hb hx=>?_,I.base.free,λb o e hx=>?_,I.base.tups,I.base.frzs,I.base.tbls⟩,⟨m,hn.sameBut hs (Ne.symm (cne x c hc)),λj y v' e1 e2 e3=>?_⟩,λy c' e=>?_,I.free,I.freeC,λp hp=>?_,tracked ⟨oc,hoc,I.freeC x c hc⟩ hs,by simpa using I.len⟩ ⟨c,hs,.inr hc⟩
  ·exact(hs.2 b (zM (zQ (Heap.lt_size e) (I.ok.cab x c hfn hc)))).trans (I.base.keep b o e n hb hx)
  ·obtain⟨sl,e1⟩:=I.base.slot b o e n hb hx;exact⟨sl,(hs.2 b (zM (zQ (Heap.lt_size e) (I.ok.cab x c hfn hc)))).trans e1⟩
  ·obtain⟨o',e1⟩:=I.base.there b o e hx;exact⟨o',(hs.2 b (zM (zQ (Heap.lt_size e) (I.ok.cab x c hfn hc)))).trans e1⟩
  ·by_cases hj:j=i
   ·subst hj;rw[hi] at e1;cases e1
    rw[yI hiσ] at e2;cases e2;exact⟨u,r,.inr ⟨.inl hk,c,hc,hc'⟩⟩
   ·rw[zW (Ne.symm hj)] at e2;obtain⟨u',r',q⟩:=hl j y v' e1 e2 e3;refine⟨u',r',?_⟩;rcases q with q|⟨k,c',e,z'⟩
    ·exact .inl q
    ·refine .inr ⟨k,c',e,z'.sameBut hs ?_⟩;rintro rfl;exact hj (D4 hN e1 (I.ok.inj _ _ _ e hc ▸ hi))
  ·by_cases hcc:c'=c
   ·subst hcc;exact⟨_,hc'⟩
   ·obtain⟨w2,z2⟩:=I.cell y c' e;exact⟨w2,z2.sameBut hs hcc⟩
  ·obtain⟨e,n,ne,nf,d⟩:=I.pin p hp;refine⟨(hs.2 p.1 ?_).trans e,n,ne,nf,d⟩;intro q;rw[q,hoc] at e;have q':oc=p.2:=Option.some.inj e;exact d w' (by rw[<- q'];exact hocd)
theorem Co (I:Inv X pins σ H s)(hN:X.N.Nodup)(hi:X.N[i]?=some x)(hx:Loc X.env.scope x)(r:ZK v u)(h:∀s',Inv X pins (σ.set i (some v)) H s'->Q () s')(hf:X.fn x=true\/X.env.scope.names.lookup x=some .local:=by first|exact .inl rfl|exact .inr rfl|assumption):wpAny M A (storeName X.env x u) Q E s:=
 Ar I hN hi hx r (λs' I' _=>h s' I') hf
theorem Inv.call' (I:Inv X pins σ H s)(ho:s'.os=s.os)(u:Un (frs X.stack) ch H H' s.heap s'.heap)(hok:HOk X.prog X.w H' s'.heap)(hg:AllBare s'.gens)(hch:∀b∈ch,(b∈X.ex\/X.s₀.heap.objs.size<=b)/\b≠X.env.locals/\(∀x c,X.env.cells.lookup x=some c->c≠b)/\∀p∈X.pn++pins,p.1≠b):Inv X pins σ H' s':=by
 obtain⟨h',g',d',t',o'⟩:=s';have e:o'=s.os:=ho;subst e;exact I.call (g':=g') (t':=t') (d':=d') u hok hg hch
end
abbrev XK:=Value->Option Addr->Hp->Prop
abbrev St:=List (Option V)
abbrev VK:=V->Hp->Prop
abbrev TE:=St->Hp->VK->Prop
abbrev TT:=St->Hp->(Bool->Hp->Prop)->Prop
abbrev TA:=St->Hp->(List V->Hp->Prop)->Prop
structure V4 where
 nx:St->Hp->Prop
 rt:VK
 bk:St->Hp->Prop:=λ_ _=>False
 ct:St->Hp->Prop:=λ_ _=>False
abbrev TS:=V4->St->Hp->Prop
def EP (X:Cx)(pins:LA)(σ:St)(Q:VK)(u:Value)(s':Shared):Prop:=∃v H',Inv X pins σ H' s'/\ZK v u/\Q v H'
def TP (X:Cx)(pins:LA)(σ:St)(Q:Bool->Hp->Prop)(b:Bool)(s':Shared):Prop:=∃H',Inv X pins σ H' s'/\Q b H'
def AP (X:Cx)(pins:LA)(σ:St)(Q:List V->Hp->Prop)(us:List Value)(s':Shared):Prop:=∃vs H',Inv X pins σ H' s'/\ZJ vs us/\Q vs H'
def SP (X:Cx)(pins:LA)(D:V4)(f:Flow)(s':Shared):Prop:=
 match f with
 | .next=>∃σ' H',Inv X pins σ' H' s'/\D.nx σ' H'
 | .brk=>∃σ' H',Inv X pins σ' H' s'/\D.bk σ' H'
 | .cont=>∃σ' H',Inv X pins σ' H' s'/\D.ct σ' H'
 | .ret u=>∃v σ' H',Inv X pins σ' H' s'/\ZK v u/\D.rt v H'
def PE (X:Cx)(e:Expr)(t:TE):Prop:=
 ∀(pins:LA)(s:Shared)(σ:St)(H:Hp)(Q:VK),Inv X pins σ H s->t σ H Q->wpAny (model X.prog X.w) X.A (eval e X.env) (EP X pins σ Q) X.xe s
def PT (X:Cx)(e:Expr)(t:TT):Prop:=
 ∀(pins:LA)(s:Shared)(σ:St)(H:Hp)(Q:Bool->Hp->Prop),Inv X pins σ H s->t σ H Q->wpAny (model X.prog X.w) X.A (isTrue e X.env (eval e X.env)) (TP X pins σ Q) X.xe s
def PW (X:Cx)(e:Expr)(t:TT):Prop:=
 ∀(aO:Sem Value)(pins:LA)(s:Shared)(σ:St)(H:Hp)(Q:Bool->Hp->Prop),Inv X pins σ H s->t σ H Q->wpAny (model X.prog X.w) X.A (isTrue e X.env aO) (TP X pins σ Q) X.xe s
theorem PW.pt (h:PW X e t):PT X e t:=h _
def PA (X:Cx)(es:List Expr)(t:TA):Prop:=
 ∀(pos:Pos)(pins:LA)(s:Shared)(σ:St)(H:Hp)(Q:List V->Hp->Prop),Inv X pins σ H s->t σ H Q->wpAny (model X.prog X.w) X.A (spliced (backTo pos (starEach es X.env))) (AP X pins σ Q) X.xe s
def PS (X:Cx)(st:Stmt)(t:TS):Prop:=
 ∀(pins:LA)(s:Shared)(σ:St)(H:Hp)(D:V4),Inv X pins σ H s->t D σ H->wpAny (model X.prog X.w) X.A (exec st X.env) (SP X pins D) X.xe s
def PSs (X:Cx)(st:List Stmt)(t:TS):Prop:=
 ∀(pins:LA)(s:Shared)(σ:St)(H:Hp)(D:V4),Inv X pins σ H s->t D σ H->wpAny (model X.prog X.w) X.A (execs st X.env) (SP X pins D) X.xe s
theorem thn {α:Type}{t:Sem α}{Q Q':α->Shared->Prop}{M:Model}{A:Around}{E:Value->Shared->Prop}{s:Shared}(h:wpAny M A t Q E s)(hQ:∀a s,Q a s->Q' a s):wpAny M A t Q' E s:=wpAny_mono h hQ λ_ _ x=>x
section
variable {X:Cx}
def tVar (i:Nat):TE:=λσ H Q=>∃v,σ[i]?=some (some v)/\Q v H
def tC (v:V):TE:=λ_ H Q=>Q v H
theorem zct (hN:X.N[i]?=some x)(hv:Vis X.env.scope x)(hd:(x==("__debug__":Str))=false:=by decide)(hcd:(x==("__classdict__":Str))=false:=by decide):PE X (.Name x pos) (tVar i):=by
 intro pins s σ H Q I h;obtain⟨v,e,h⟩:=h;obtain⟨m,hn,hl⟩:=I.loc;obtain⟨u,r,l⟩:=hl i x v hN e hv;have aY:EP X pins σ Q u s:=⟨v,H,I,r,h⟩;rcases l with ⟨hk,hm⟩|⟨hk,c,hc,hcell⟩
 ·exact wpAny_Name (wpAny_loadName_local I.ok.kind hk hn hm aY) hd
 ·rcases hk with hk|hk
  ·exact wpAny_Name (wpAny_loadName_cell I.ok.kind hk hc hcell aY) hd
  ·exact wpAny_Name (wpAny_loadName_free I.ok.kind hk hc hcell aY hcd) hd
theorem zaT {i j pos}:PE X (.Constant (.int i) j pos) (tC (.int i)):=λ_ _ _ H _ I h=>wpAny_Constant_int ⟨.int i,H,I.tok _,⟨_,rfl⟩,h⟩
theorem pe_bl {b j pos}:PE X (.Constant (.bool b) j pos) (tC (.bl b)):=λ_ _ _ H _ I h=>Constant_bool ⟨.bl b,H,I,rfl,h⟩
theorem zd8 {j pos}:PE X (.Constant .none j pos) (tC .non):=λ_ _ _ H _ I h=>Constant_none ⟨.non,H,I,rfl,h⟩
theorem zaR {x j pos}:PE X (.Constant (.str x) j pos) (tC (.str x)):=λ_ _ _ H _ I h=>Calls.Constant_str ⟨.str x,H,I.tok _,⟨_,rfl⟩,h⟩
def Gl (X:Cx)(x:Str):Prop:=X.env.kindOf x=some .globalImplicit
theorem BB (I:Inv X pins σ H s)(hg:Gl X x)(hm:X.mg x=some u)(h:Q u s)(hd:(x==("__debug__":Str))=false:=by decide):wpAny (model X.prog X.w) X.A (eval (.Name x pos) X.env) Q E s:=
 Calls.Name_function_global I.ok.kind hg (Calls.loadGlobal_global (by rw[I.ok.glob];exact I.mod.glob.keeps I.bk) hm h) hd
theorem VN (I:Inv X pins σ H s)(hg:Gl X x)(hm:X.mg x=none)(hv:bootBuiltins x=some u)(h:Q u s)(hn:x≠"__name__":=by decide)(hd:(x==("__debug__":Str))=false:=by decide):wpAny (model X.prog X.w) X.A (eval (.Name x pos) X.env) Q E s:=by
 obtain⟨mb,h1,h2⟩:=I.mod.blt;exact Calls.Name_function_global I.ok.kind hg (Calls.loadGlobal_builtin (by rw[I.ok.glob];exact I.mod.glob.keeps I.bk) hm (by rw[I.ok.blt];exact h1.keeps I.bk) ((h2 x hn).trans hv) h) hd
variable {a b:Expr}{ta tb:TE}{pos:Pos}
def tB (t:TE):TT:=λσ H Q=>t σ H λx H1=>∃c,x=.bl c/\Q c H1
theorem zgF (h:PE X e t)(he:∀aO,isTrue e X.env aO=(do let v <- aO;standAt e.pos;holding [v] (truthy v)):=by intro _;rfl):PT X e (tB t):=by
 intro pins s σ H Q I hw;refine isTrue_plain (thn (h pins s σ H _ I hw) λv s1 ⟨x,H1,I1,r1,q1⟩=>?_) (he _);obtain⟨d,rfl,q⟩:=q1;cases r1;exact wpAny_truthy_bool ⟨H1,I1,q⟩
variable {tA tB':TT}{Yy:List Expr}
def tAnd (t u:TT):TT:=λσ H Q=>t σ H λc H1=>if c=true then u σ H1 Q else Q false H1
def tOr (t u:TT):TT:=λσ H Q=>t σ H λc H1=>if c=true then Q true H1 else u σ H1 Q
def tNot (t:TT):TT:=λσ H Q=>t σ H λc H1=>Q (!c) H1
theorem zfI (ha:PT X a tA):PW X (.BoolOp .And [a] pos) tA:=by
 intro wh pins s σ H Q I h;refine isTrue_and (thn (ha pins s σ H Q I h) λc s1 e=>?_);cases c with
 | true=>exact isTrue_and_nil e
 | false=>exact e
theorem zgI (ha:PT X a tA):PW X (.BoolOp .Or [a] pos) tA:=by
 intro wh pins s σ H Q I h;refine isTrue_or (thn (ha pins s σ H Q I h) λc s1 e=>?_);cases c with
 | false=>exact isTrue_or_nil e
 | true=>exact e
theorem zgQ (ha:PT X a tA)(hb:PW X (.BoolOp .And (b::Yy) pos) tB'):PW X (.BoolOp .And (a::b::Yy) pos) (tAnd tA tB'):=by
 intro wh pins s σ H Q I h;refine isTrue_and (thn (ha pins s σ H _ I h) λc s1 ⟨H1,I1,q1⟩=>?_);cases c with
 | true=>exact hb wh pins s1 σ H1 Q I1 q1
 | false=>exact⟨H1,I1,q1⟩
theorem pw_or (ha:PT X a tA)(hb:PW X (.BoolOp .Or (b::Yy) pos) tB'):PW X (.BoolOp .Or (a::b::Yy) pos) (tOr tA tB'):=by
 intro wh pins s σ H Q I h;refine isTrue_or (thn (ha pins s σ H _ I h) λc s1 ⟨H1,I1,q1⟩=>?_);cases c with
 | true=>exact⟨H1,I1,q1⟩
 | false=>exact hb wh pins s1 σ H1 Q I1 q1
theorem zfP (ha:PT X a tA):PT X (.UnaryOp .Not a pos) (tNot tA):=by
 intro pins s σ H Q I h;exact isTrue_not (ha pins s σ H (λc H1=>Q (!c) H1) I h)
def tAndV (ta tb:TE):TE:=λσ H Q=>ta σ H λx H1=>∃c,x=.bl c/\if c=true then tb σ H1 Q else Q (.bl false) H1
def tOrV (ta tb:TE):TE:=λσ H Q=>ta σ H λx H1=>∃c,x=.bl c/\if c=true then Q (.bl true) H1 else tb σ H1 Q
def tNotV (ta:TE):TE:=λσ H Q=>ta σ H λx H1=>∃c,x=.bl c/\Q (.bl (!c)) H1
theorem zew {op}(h:PE X a t):PE X (.BoolOp op [a] pos) t:=λpins s σ H Q I hw=>BoolOp_one (h pins s σ H Q I hw)
theorem AV (ha:PE X a ta)(hb:PE X (.BoolOp .And (b::Yy) pos) tb):PE X (.BoolOp .And (a::b::Yy) pos) (tAndV ta tb):=by
 intro pins s σ H Q I h;refine BoolOp_and (thn (ha pins s σ H _ I h) λv s1 ⟨x,H1,I1,r1,q1⟩=>?_);obtain⟨c,rfl,q1⟩:=q1;cases r1;refine wpAny_truthy_bool ?_;cases c with
 | true=>exact hb pins s1 σ H1 Q I1 q1
 | false=>exact⟨.bl false,H1,I1,rfl,q1⟩
theorem pe_or (ha:PE X a ta)(hb:PE X (.BoolOp .Or (b::Yy) pos) tb):PE X (.BoolOp .Or (a::b::Yy) pos) (tOrV ta tb):=by
 intro pins s σ H Q I h;refine BoolOp_or (thn (ha pins s σ H _ I h) λv s1 ⟨x,H1,I1,r1,q1⟩=>?_);obtain⟨c,rfl,q1⟩:=q1;cases r1;refine wpAny_truthy_bool ?_;cases c with
 | false=>exact hb pins s1 σ H1 Q I1 q1
 | true=>exact⟨.bl true,H1,I1,rfl,q1⟩
theorem zcq (ha:PE X a ta):PE X (.UnaryOp .Not a pos) (tNotV ta):=by
 intro pins s σ H Q I h;refine UnaryOp_ (thn (ha pins s σ H _ I h) λv s1 ⟨x,H1,I1,r1,q1⟩=>?_);obtain⟨c,rfl,q1⟩:=q1;cases r1;exact not_of (wpAny_truthy_bool ⟨.bl (!c),H1,I1,rfl,q1⟩)
def tIf (t:TT)(ta tb:TE):TE:=λσ H Q=>t σ H λc H1=>if c=true then ta σ H1 Q else tb σ H1 Q
theorem zbM (hc:PT X c tA)(ha:PE X a ta)(hb:PE X b tb):PE X (.IfExp c a b pos) (tIf tA ta tb):=by
 intro pins s σ H Q I h;refine wpAny_IfExp (thn (hc pins s σ H _ I h) λd s1 ⟨H1,I1,q1⟩=>?_);cases d with
 | true=>exact ha pins s1 σ H1 Q I1 q1
 | false=>exact hb pins s1 σ H1 Q I1 q1
end
def SqL (K:Fg)(H:Hp)(a:Addr)(xs:List V):Prop:=
 Rd H a (.lst xs)\/
  ∃(o:Obj)(aX:Array Value)(n:Nat),K.lookup a=some o/\o.cls=.type "list"/\o.dict=none/\o.data=.seq aX n/\aX.size<=sizeLine/\ZJ xs aX.toList
def SqT (K:Fg)(H:Hp)(a:Addr)(xs:List V):Prop:=
 Rd H a (.tup xs)\/
  ∃(o:Obj)(aX:Array Value)(n:Nat),K.lookup a=some o/\o.cls=.type "tuple"/\o.data=.seq aX n/\aX.size<=sizeLine/\ZJ xs aX.toList
def absV:Value->Option V
 | .none=>some .non
 | .bool b=>some (.bl b)
 | .int i _=>some (.int i)
 | .str x _=>some (.str x)
 | .bytes b _=>some (.byt b)
 | .float b _=>some (.flt b)
 | .ref a=>some (.ref a)
 | .type n=>some (.ty n)
 | _=>none
theorem ZK.abs (r:ZK x u):absV u=some x:=by
 cases x with
 | non=>cases r;rfl
 | bl _=>cases r;rfl
 | int _=>obtain⟨t,rfl⟩:=r;rfl
 | str _=>obtain⟨t,rfl⟩:=r;rfl
 | byt _=>obtain⟨t,rfl⟩:=r;rfl
 | flt _=>obtain⟨t,rfl⟩:=r;rfl
 | ref _=>cases r;rfl
 | ty _=>cases r;rfl
theorem ZK.inj (r:ZK x u)(q:ZK y u):x=y:=Option.some.inj (r.abs.symm.trans q.abs)
theorem ZJ.inj:∀ {xs ys:List V} {us:List Value},ZJ xs us->ZJ ys us->xs=ys
 | _,_,_,.nil,.nil=>rfl
 | _,_,_,.cons r t,.cons r' t'=>by rw[r.inj r',ZJ.inj t t']
theorem SqL.of {K:Fg}(h:H a=some (.lst xs)):SqL K H a xs:=.inl (.inl h)
theorem SqT.of {K:Fg}(h:H a=some (.tup xs)):SqT K H a xs:=.inl (.inl h)
theorem Inv.list (I:Inv X pins σ H s)(h:SqL X.K H a xs):∃aX:List Value,ZJ xs aX/\PlainL s.heap a aX.toArray/\xs.length<=sizeLine:=by
 rcases h with h|⟨o,aX,n,hk,hc,hd,hs,hz,r⟩
 ·obtain⟨z,aX,n,r,e⟩:=h.ok I.hok;exact⟨aX,r,⟨_,n,e,rfl,rfl,rfl⟩,z⟩
 ·refine⟨aX.toList,r,⟨o,n,I.kIn a o hk,hc,hd,by simpa using hs⟩,?_⟩;have e:=r.length;simp only[Array.length_toList] at e;omega
theorem Inv.tuple (I:Inv X pins σ H s)(h:SqT X.K H a xs):∃aX:List Value,ZJ xs aX/\IsTup s.heap a aX.toArray/\xs.length<=sizeLine:=by
 rcases h with h|⟨o,aX,n,hk,hc,hs,hz,r⟩
 ·obtain⟨z,aX,r,p⟩:=h.ok I.hok;exact⟨aX,r,p,z⟩
 ·refine⟨aX.toList,r,⟨o,I.kIn a o hk,hc,n,by simpa using hs⟩,?_⟩;have e:=r.length;simp only[Array.length_toList] at e;omega
theorem Inv.list_inj (I:Inv X pins σ H s)(h:SqL X.K H a xs)(h':SqL X.K H a ys):xs=ys:=by
 obtain⟨aX,r,⟨o,n,e,_,_,d⟩,_⟩:=I.list h;obtain⟨its',r',⟨o',n',e',_,_,d'⟩,_⟩:=I.list h';rw[e] at e';cases e'
 rw[d] at d';injection d' with d1 _
 have:aX=its':=by simpa using congrArg Array.toList d1
 subst this;exact r.inj r'
theorem Inv.tuple_inj (I:Inv X pins σ H s)(h:SqT X.K H a xs)(h':SqT X.K H a ys):xs=ys:=by
 obtain⟨aX,r,⟨o,e,_,n,d⟩,_⟩:=I.tuple h;obtain⟨its',r',⟨o',e',_,n',d'⟩,_⟩:=I.tuple h';rw[e] at e';cases e'
 rw[d] at d';injection d' with d1 _
 have:aX=its':=by simpa using congrArg Array.toList d1
 subst this;exact r.inj r'
abbrev Cx.wish (X:Cx)(E:Value->Shared->Prop):Cx:={ X with xe:=E }
abbrev Cx.nox (X:Cx):Cx:=X.wish λ_ _=>False
theorem Cx.Ok.wish {X:Cx}(ok:X.Ok)(E:Value->Shared->Prop):(X.wish E).Ok:=
 ⟨ok.mod,ok.kind,ok.glob,ok.blt,ok.above,ok.inj,ok.has,ok.cab,ok.hd,ok.frames,ok.stk,ok.exf,ok.bs,ok.bsz,ok.noex,ok.exfs,ok.funs,ok.frf⟩
theorem Cx.Ok.unwish {X:Cx}{E:Value->Shared->Prop}(ok:(X.wish E).Ok):X.Ok:=
 ⟨ok.mod,ok.kind,ok.glob,ok.blt,ok.above,ok.inj,ok.has,ok.cab,ok.hd,ok.frames,ok.stk,ok.exf,ok.bs,ok.bsz,ok.noex,ok.exfs,ok.funs,ok.frf⟩
theorem Inv.wish (I:Inv X pins σ H s)(E:Value->Shared->Prop):Inv (X.wish E) pins σ H s:=⟨I.ok.wish E,I.os,I.bare,I.base,I.loc,I.cell,I.free,I.freeC,I.pin,I.hok,I.len⟩
theorem Inv.unwish (I:Inv (X.wish E) pins σ H s):Inv X pins σ H s:=⟨I.ok.unwish,I.os,I.bare,I.base,I.loc,I.cell,I.free,I.freeC,I.pin,I.hok,I.len⟩
theorem SP.unwish (h:SP (X.wish E) pins D f s'):SP X pins D f s':=by
 cases f with
 | next=>obtain⟨σ',H',I,q⟩:=h;exact⟨σ',H',I.unwish,q⟩
 | brk=>obtain⟨σ',H',I,q⟩:=h;exact⟨σ',H',I.unwish,q⟩
 | cont=>obtain⟨σ',H',I,q⟩:=h;exact⟨σ',H',I.unwish,q⟩
 | ret u=>obtain⟨v,σ',H',I,r,q⟩:=h;exact⟨v,σ',H',I.unwish,r,q⟩
theorem PSs.nox {st:List Stmt}{t:TS}(h:PSs X.nox st t):PSs X st t:=λpins s σ H D I hw=>
 wpAny_mono (h pins s σ H D (I.wish _) hw) (λ_ _ q=>q.unwish) λ_ _ z=>False.elim z
section
variable {X:Cx}{st:Stmt}{Yy:List Stmt}{t u:TS}{e:Expr}{te:TE}{pos:Pos}
def tNext:TS:=λD σ H=>D.nx σ H
def tSeq (t u:TS):TS:=λD σ H=>t { D with nx:=u D } σ H
theorem zcR:PSs X [] tNext:=λ_ _ σ H _ I h=>wpAny_execs_nil ⟨σ,H,I,h⟩
theorem zaq (h1:PS X st t)(h2:PSs X Yy u):PSs X (st::Yy) (tSeq t u):=by
 intro pins s σ H D I h;refine wpAny_execs_cons (thn (h1 pins s σ H { D with nx:=u D } I h) λf s1 q=>?_);cases f with
 | next=>
  obtain⟨σ',H',I',q⟩:=q;exact h2 pins s1 σ' H' D I' q
 | ret v=>exact q
 | brk=>exact q
 | cont=>exact q
theorem zbO (h1:PS X st t):PSs X [st] t:=by
 intro pins s σ H D I h;refine wpAny_execs_cons (thn (h1 pins s σ H D I h) λf s1 q=>?_);cases f with
 | next=>exact wpAny_execs_nil q
 | ret v=>exact q
 | brk=>exact q
 | cont=>exact q
def zcS:TS:=λD σ H=>D.bk σ H
theorem zbY:PS X (.Break pos) zcS:=λ_ _ σ H _ I h=>wpAny_Break ⟨σ,H,I,h⟩
theorem Inv.quiet (I:Inv X pins σ H s):interactive X.env=false:=by simp[interactive,I.ok.kind]
def tDrop (te:TE):TS:=λD σ H=>te σ H λ_ H1=>D.nx σ H1
theorem zbL (he:PE X e te)(hs:swapsWith e none pos.line X.env=pure false:=by rfl):PS X (.Expr e pos) (tDrop te):=by
 intro pins s σ H D I h;exact wpAny_Expr_any (thn (he pins s σ H _ I h) λv s1 ⟨x,H1,I1,r1,q1⟩=>⟨σ,H1,I1,q1⟩) I.quiet hs
def tRet (te:TE):TS:=λD σ H=>te σ H D.rt
theorem zdn (he:PE X e te):PS X (.Return (some e) pos) (tRet te):=by
 intro pins s σ H D I h;exact wpAny_Return_some (thn (he pins s σ H _ I h) λv s1 ⟨x,H1,I1,r1,q1⟩=>⟨x,σ,H1,I1,r1,q1⟩)
def tRetN:TS:=λD _ H=>D.rt .non H
theorem zcJ:PS X (.Return none pos) tRetN:=λ_ _ σ H _ I h=>wpAny_Return_none ⟨.non,σ,H,I,rfl,h⟩
def tIfS (c:TT)(t u:TS):TS:=λD σ H=>c σ H λb H1=>if b=true then t D σ H1 else u D σ H1
theorem ps_if (hc:PT X c tc)(ha:PSs X a t)(hb:PSs X b u):PS X (.If c a b pos) (tIfS tc t u):=by
 intro pins s σ H D I h;refine wpAny_If (thn (hc pins s σ H _ I h) λd s1 ⟨H1,I1,q1⟩=>?_);cases d with
 | true=>exact ha pins s1 σ H1 D I1 q1
 | false=>exact hb pins s1 σ H1 D I1 q1
def zas:TS:=λ_ _ _=>False
theorem zcr:PS X st zas:=λ_ _ _ _ _ _ h=>h.elim
end
abbrev TG:=V->St->Hp->(St->Hp->Prop)->Prop
abbrev TGs:=List V->St->Hp->(St->Hp->Prop)->Prop
def PG (X:Cx)(target:Expr)(t:TG):Prop:=
 ∀(pins:LA)(s:Shared)(σ:St)(H:Hp)(v:V)(u:Value)(Q:St->Hp->Prop),Inv X pins σ H s->ZK v u->t v σ H Q->
  wpAny (model X.prog X.w) X.A (assign target X.env u) (λ_ s'=>∃σ' H',Inv X pins σ' H' s'/\Q σ' H') X.xe s
def PGs (X:Cx)(ts:List Expr)(t:TGs):Prop:=
 ∀(pins:LA)(s:Shared)(σ:St)(H:Hp)(vs:List V)(us:List Value)(Q:St->Hp->Prop),Inv X pins σ H s->ZJ vs us->t vs σ H Q->
  wpAny (model X.prog X.w) X.A (assignInOrder ((assignEach ts X.env).map (·.2)) us) (λ_ s'=>∃σ' H',Inv X pins σ' H' s'/\Q σ' H') X.xe s
abbrev TSet:=V->V->V->Hp->(Hp->Prop)->Prop
def PSet (X:Cx)(t:TSet):Prop:=
 ∀(pins:LA)(s:Shared)(σ:St)(H:Hp)(o i v:V)(ov iv u:Value)(Q:Hp->Prop),Inv X pins σ H s->ZK o ov->ZK i iv->ZK v u->t o i v H Q->
  wpAny (model X.prog X.w) X.A (setItem ov iv u) (λ_ s'=>∃H',Inv X pins σ H' s'/\Q H') X.xe s
def HZ (i:Nat):TG:=λv σ H Q=>Q (σ.set i (some v)) H
theorem TY (hN:X.N.Nodup)(hi:X.N[i]?=some x)(hx:Loc X.env.scope x)(hf:X.fn x=true\/X.env.scope.names.lookup x=some .local:=by first|exact .inl rfl|exact .inr rfl|assumption):PG X (.Name x pos) (HZ i):=by
 intro pins s σ H v u Q I r h;exact wpAny_assign_Name (Co I hN hi hx r (λs' I'=>⟨_,H,I',h⟩) hf)
def gNil:TGs:=λvs σ H Q=>vs=[]/\Q σ H
def gCons (t:TG)(u:TGs):TGs:=λvs σ H Q=>∃v r,vs=v::r/\t v σ H λσ' H'=>u r σ' H' Q
theorem zcZ:PGs X [] gNil:=by
 intro pins s σ H vs us Q I r h;obtain⟨e,h⟩:=h;subst e;cases r;exact assignInOrder_nil ⟨σ,H,I,h⟩
theorem zhb (h1:PG X e t)(h2:PGs X es u)(hs:(assignEach (e::es) X.env).map (·.2)=assign e X.env::(assignEach es X.env).map (·.2):=by rfl):PGs X (e::es) (gCons t u):=by
 intro pins s σ H vs us Q I r h;obtain⟨v,vr,e1,h⟩:=h;subst e1;cases r with
 | cons r rr=>
  rw[hs];refine assignInOrder_cons (thn (h1 pins s σ H _ _ _ I r h) λ_ s1 ⟨σ1,H1,I1,q1⟩=>?_);exact h2 pins s1 σ1 H1 _ _ Q I1 rr q1
def U1 (K:Fg)(n:Nat)(t:TGs):TG:=λv σ H Q=>∃a xs,v=.ref a/\SqT K H a xs/\xs.length=n/\t xs σ H Q
theorem Rn (hc:X.calm=true)(h:PGs X es t)(hn:(assignEach es X.env).length=n:=by rfl)(hst:(assignEach es X.env).findIdx? (·.1)=none:=by rfl):PG X (.Tuple es k pos) (U1 X.K n t):=by
 intro pins s σ H v u Q I r hw;obtain⟨a,xs,e1,hq,hl,hw⟩:=hw;subst e1;cases r;obtain⟨aX,rv,ht,hz⟩:=I.tuple hq;refine assign_Tuple_tuple (I.ok.hd hc) ht (by simp[hn,<- hl,rv.length]) hst λh' hx=>?_
 have I1:Inv X pins σ H { s with heap:=h' }:=I.kept (t':=s.toks) λb o e=>hx b o (zM (Heap.lt_size e)) e
 exact h pins _ σ H xs _ Q I1 (by simpa using rv) hw
def gSub (to ti:TE)(t:TSet):TG:=λv σ H Q=>to σ H λo H1=>ti σ H1 λi H2=>t o i v H2 λH3=>Q σ H3
theorem zaG (ho:PE X o to)(hi:PE X i ti)(hs:PSet X t)(ha:∀v,assign (.Subscript o i pos) X.env v=(do
   let ov <- holding [v] (eval o X.env)
   let iv <- holding [v,ov] (eval i X.env)
   standAt pos
   holding [v,ov,iv] (setItem ov iv v)
   release [v,ov,iv] []):=by intro _;rfl):PG X (.Subscript o i pos) (gSub to ti t):=by
 intro pins s σ H v u Q I r h;rw[ha];refine wpAny_bind (wpAny_holding (thn (ho pins s σ H _ I h) λov s1 ⟨x,H1,I1,r1,q1⟩=>?_));refine wpAny_bind (wpAny_holding (thn (hi pins s1 σ H1 _ I1 q1) λiv s2 ⟨y,H2,I2,r2,q2⟩=>?_));refine wpAny_bind (wpAny_standAt (wpAny_bind (wpAny_holding (thn (hs pins s2 σ H2 x y v ov iv u _ I2 r1 r2 r q2) λ_ s3 ⟨H3,I3,q3⟩=>?_))));exact wpAny_release ⟨σ,H3,I3,q3⟩
def tAsg (te:TE)(g:TG):TS:=λD σ H=>te σ H λx H1=>g x σ H1 D.nx
theorem zgw (he:PE X e te)(hg:PG X tg g)(hs:swapsWithSole [tg] e pos.line X.env=pure false:=by rfl)(hw:swappedStores [tg] e X.env=pure none:=by rfl)(h1:(assignEach [tg] X.env).map (·.2)=[assign tg X.env]:=by rfl):PS X (.Assign [tg] e pos) (tAsg te g):=by
 intro pins s σ H D I h;refine wpAny_Assign_stores (thn (he pins s σ H _ I h) λv s1 ⟨x,H1,I1,r1,q1⟩=>?_) hs hw;rw[h1];exact thn (hg pins s1 σ H1 x v _ I1 r1 q1) λ_ s2 q=>q
theorem zeo (hN:X.N.Nodup)(hi:X.N[i]?=some x)(hx:Loc X.env.scope x)(he:PE X e te)(hs:swapsWith e (some (.Name x pos')) pos.line X.env=pure false:=by rfl)(hf:X.fn x=true\/X.env.scope.names.lookup x=some .local:=by first|exact .inl rfl|exact .inr rfl|assumption):
  PS X (.Assign [.Name x pos'] e pos) (tAsg te (HZ i)):=by
 intro pins s σ H D I h;refine wpAny_Assign_Name (thn (he pins s σ H _ I h) λv s1 ⟨y,H1,I1,r1,q1⟩=>?_) hs;exact Co I1 hN hi hx r1 (λs2 I2=>⟨_,H1,I2,q1⟩) hf
def zhC (c:TT)(tb:TS):TS:=λD σ H=>∃W:Nat->St->Hp->Prop,(∃m,W m σ H)/\∀m σ H,W m σ H->
 c σ H λb H1=>if b=true then ∃N:St->Hp->Prop,(∀σ' H',N σ' H'->∃m',m'<m/\W m' σ' H')/\tb { D with nx:=N,ct:=N,bk:=D.nx } σ H1 else D.nx σ H1
theorem A1 (hp:PassesOwn (model X.prog X.w) X.A X.env X.xe)(hc:PT X c tc)(hb:PSs X body tb):PS X (.While c body [] pos) (zhC tc tb):=by
 intro pins s σ H D I h;obtain⟨W,⟨m0,w0⟩,turn⟩:=h;refine wpAny_While (codeAny_whileLoop (λn s'=>∃σ' H',Inv X pins σ' H' s'/\W n σ' H') ?_ m0 ⟨σ,H,I,w0⟩);rintro n s1 ⟨σ1,H1,I1,w1⟩;refine wpAny_passesOwn hp (thn (hc pins s1 σ1 H1 _ I1 (turn n σ1 H1 w1)) λb s2 ⟨H2,I2,q2⟩=>?_);cases b with
 | true=>
  obtain⟨N,hN,q2⟩:=q2;rw[if_pos rfl];refine wpAny_passesOwn hp (thn (hb pins s2 σ1 H2 _ I2 q2) λf s3 q3=>?_);cases f with
  | next=>
   obtain⟨σ3,H3,I3,n3⟩:=q3;obtain⟨m',hm,w3⟩:=hN σ3 H3 n3;exact⟨m',hm,σ3,H3,I3,w3⟩
  | cont=>
   obtain⟨σ3,H3,I3,n3⟩:=q3;obtain⟨m',hm,w3⟩:=hN σ3 H3 n3;exact⟨m',hm,σ3,H3,I3,w3⟩
  | brk=>exact q3
  | ret v=>exact q3
 | false=>
  rw[if_neg zJ];exact wpAny_execs_nil ⟨σ1,H2,I2,q2⟩
structure It where
 go:Nat->Hp->Prop
 yld:Nat->Hp->V->Hp->Prop
 stop:Nat->Hp->Prop
def Yo (X:Cx)(pins:LA)(H:Hp)(b:Addr):Prop:=
 H b=none/\b≠X.env.locals/\b ∉ X.fs/\(b∈X.ex\/X.s₀.heap.objs.size<=b)/\(∀x c,X.env.cells.lookup x=some c->c≠b)/\∀p∈X.pn++pins,p.1≠b
theorem Inv.fpOk {X:Cx}{pins:LA}{σ:St}{H H':Hp}{s:Shared}{b:Addr}(I:Inv X pins σ H s)(hb:s.heap.objs.size<=b)(hn:H' b=none):Yo X pins H' b:=by
 refine⟨hn,yU (zQ I.lt hb),I.nofs hb,.inr (yD I.sz hb),λx c e z=>?_,λp hp z=>?_⟩
 ·obtain⟨v,q⟩:=I.cell x c e;exact absurd (zQ q.lt (by rw[z];exact hb)) (yL _)
 ·exact absurd (zQ (Heap.lt_size (I.pin p hp).1) (by rw[z];exact hb)) (yL _)
structure Uz (P:Program)(w:World)(K:Fg)(tg:Expr)(J:It)(fp:List Addr)(it:Addr)(tn:Nat->Heap->Prop):Prop where
 mem:it∈fp
 obj:∀i h,tn i h->∀b∈fp,∃o,h.get? b=some o/\∀v,o.data≠.cell v
 keep:∀i h h',tn i h->(∀b∈fp,∀o,h.get? b=some o->h'.get? b=some o)->tn i h'
 item:∀(X:Cx),X.prog=P->X.w=w->X.K=K->X.calm=true->∀(i:Nat)(pins:LA)(s:Shared)(σ:St)(H:Hp)(E:Value->Shared->Prop),Inv X pins σ H s->(∀b∈fp,Yo X pins H b)->tn i s.heap->J.go i H->
  wpAny (model P w) X.A (pyNext (.ref it)) (λr s1=>∃u,r=some u/\
   wpAny (model P w) X.A (letOwnedTupleGo tg (.ref it) u) (λ_ s2=>∃x H',Inv X pins σ H' s2/\ZK x u/\J.yld i H x H'/\tn (i+1) s2.heap/\∀b∈fp,H' b=none) E s1) E s
 done:∀(X:Cx),X.prog=P->X.w=w->X.K=K->X.calm=true->∀(i:Nat)(pins:LA)(s:Shared)(σ:St)(H:Hp)(E:Value->Shared->Prop),Inv X pins σ H s->(∀b∈fp,Yo X pins H b)->tn i s.heap->J.stop i H->
  wpAny (model P w) X.A (pyNext (.ref it)) (λr s1=>r=none/\Inv X pins σ H s1) E s
 self:∀(A:Around)(i:Nat)(s:Shared)(Q:Value->Shared->Prop)(E:Value->Shared->Prop),tn i s.heap->Q (.ref it) s->wpAny (model P w) A (pyIter (.ref it)) Q E s
abbrev TI:=St->Hp->(It->Hp->Prop)->Prop
def PIE (X:Cx)(pins:LA)(σ:St)(tg:Expr)(R:It->Hp->Prop)(itv:Value)(s2:Shared):Prop:=
 ∃(it:Addr)(fp:List Addr)(tn:Nat->Heap->Prop)(J:It)(H':Hp),itv=.ref it/\Inv X pins σ H' s2/\Uz X.prog X.w X.K tg J fp it tn/\tn 0 s2.heap/\(∀b∈fp,Yo X pins H' b)/\R J H'
def PI (X:Cx)(tg aU:Expr)(wi:TI):Prop:=
 ∀(pins:LA)(s:Shared)(σ:St)(H:Hp)(R:It->Hp->Prop),Inv X pins σ H s->wi σ H R->
  wpAny (model X.prog X.w) X.A (eval aU X.env) (λv s1=>wpAny (model X.prog X.w) X.A (pyIter v) (PIE X pins σ tg R) X.xe s1) X.xe s
theorem LX (ho:s.heap.get? it=some o)(hc:o.cls=.type n)(hd:o.data=.fields vs)(hn:["enumerate","zip","dict_itemiterator","dict_reverseitemiterator","odict_iterator","itertools.zip_longest","itertools.pairwise"].contains n=false)(hQ:Q () s):wpAny M A (letOwnedTupleGo tg (.ref it) u) Q E s:=by
  unfold letOwnedTupleGo;cases tg<;>first
    | exact wpAny_pure hQ
    | (cases u<;>first
        | exact wpAny_pure hQ
        | (refine wpAny_bind (wpAny_load ho ?_)
           rw[hc,hd];show wpAny M A (if (["enumerate","zip","dict_itemiterator","dict_reverseitemiterator","odict_iterator","itertools.zip_longest","itertools.pairwise"].contains n&&vs[0]?==some (rawInt _))=true then _ else _) Q E s;rw[if_neg (by intro h;rw[hn,Bool.false_and] at h;cases h)];exact wpAny_pure hQ))
def Itl (K:Fg)(a:Addr):It:=
 ⟨λi H=>∃xs x,SqL K H a xs/\xs[i]?=some x,λi H x H'=>H'=H/\∀xs,SqL K H a xs->xs[i]?=some x,λi H=>∃xs,SqL K H a xs/\xs.length<=i⟩
def Itt (K:Fg)(a:Addr):It:=
 ⟨λi H=>∃xs x,SqT K H a xs/\xs[i]?=some x,λi H x H'=>H'=H/\∀xs,SqT K H a xs->xs[i]?=some x,λi H=>∃xs,SqT K H a xs/\xs.length<=i⟩
def Itr (lo:Int)(n:Nat):It:=⟨λi _=>i<n,λi H x H'=>H'=H/\x=.int (lo+i),λi _=>n<=i⟩
theorem zaJ {P:Program}{w:World}{K:Fg}{tg:Expr}(a it:Addr):Uz P w K tg (Itl K a) [it] it (λi h=>h.IsListIter it a i) where
 mem:=by simp
 obj:=λi h st b hb=>by
  have e:b=it:=by simpa using hb
  subst e;obtain⟨o,e,c,d⟩:=st;exact⟨o,e,λv z=>by rw[d] at z;cases z⟩
 keep:=λi h h' st k=>st.at λo e=>k it (by simp) o e
 item:=by
  intro X hP hw hK hc i pins s σ H E I hf st hg;subst hP hw hK;obtain⟨xs,x,hq,hx⟩:=hg;obtain⟨aX,rv,p,hz⟩:=I.list hq;obtain⟨u,hu,ru⟩:=rv.get hx;obtain⟨f0,f1,f2,f3,f4,f5⟩:=hf it (by simp);refine wpAny_pyNext_list_item st p.isList (x:=u) (by simpa using hu) λh' st' sb=>?_
  have I1:Inv X pins σ H { s with heap:=h' }:=I.turned (t':=s.toks) (λb o hb e=>(sb.2 b hb).trans e) f0 f1 f3 f4 f5;obtain⟨o,e,c,d⟩:=id st';exact⟨u,rfl,LX (s:={ s with heap:=h' }) e c d (by decide) ⟨x,H,I1,ru,⟨rfl,λys hy=>by rw[I.list_inj hy hq];exact hx⟩,st',λb hb=>(hf b hb).1⟩⟩
 done:=by
  intro X hP hw hK hc i pins s σ H E I hf st hg;subst hP hw hK;obtain⟨xs,hq,hx⟩:=hg;obtain⟨aX,rv,p,hz⟩:=I.list hq;obtain⟨f0,f1,f2,f3,f4,f5⟩:=hf it (by simp);have hl:=rv.length;exact wpAny_pyNext_list_end (I.ok.hd hc) st p.isList (by simp;omega) λh' eb=>⟨rfl,I.turned (t':=s.toks) (λb o hb e=>eb b o hb e) f0 f1 f3 f4 f5⟩
 self:=λ_ _ _ _ _ st h=>wpAny_pyIter_listiter st h
theorem zhX {P:Program}{w:World}{K:Fg}{tg:Expr}(a it:Addr):Uz P w K tg (Itt K a) [it] it (λi h=>h.IsTupleIter it a i) where
 mem:=by simp
 obj:=λi h st b hb=>by
  have e:b=it:=by simpa using hb
  subst e;obtain⟨o,e,c,d⟩:=st;exact⟨o,e,λv z=>by rw[d] at z;cases z⟩
 keep:=λi h h' st k=>st.at λo e=>k it (by simp) o e
 item:=by
  intro X hP hw hK hc i pins s σ H E I hf st hg;subst hP hw hK;obtain⟨xs,x,hq,hx⟩:=hg;obtain⟨aX,rv,p,hz⟩:=I.tuple hq;obtain⟨u,hu,ru⟩:=rv.get hx;obtain⟨f0,f1,f2,f3,f4,f5⟩:=hf it (by simp);refine wpAny_pyNext_tuple_item st (show s.heap.IsTuple a aX.toArray from p) (x:=u) (by simpa using hu) λh' st' sb=>?_
  have I1:Inv X pins σ H { s with heap:=h' }:=I.turned (t':=s.toks) (λb o hb e=>(sb.2 b hb).trans e) f0 f1 f3 f4 f5;obtain⟨o,e,c,d⟩:=id st';exact⟨u,rfl,LX (s:={ s with heap:=h' }) e c d (by decide) ⟨x,H,I1,ru,⟨rfl,λys hy=>by rw[I.tuple_inj hy hq];exact hx⟩,st',λb hb=>(hf b hb).1⟩⟩
 done:=by
  intro X hP hw hK hc i pins s σ H E I hf st hg;subst hP hw hK;obtain⟨xs,hq,hx⟩:=hg;obtain⟨aX,rv,p,hz⟩:=I.tuple hq;obtain⟨f0,f1,f2,f3,f4,f5⟩:=hf it (by simp);have hl:=rv.length;exact wpAny_pyNext_tuple_end (I.ok.hd hc) st (show s.heap.IsTuple a aX.toArray from p) (by simp;omega) λh' eb=>⟨rfl,I.turned (t':=s.toks) (λb o hb e=>eb b o hb e) f0 f1 f3 f4 f5⟩
 self:=λ_ _ _ _ _ st h=>wpAny_pyIter_tupleiter st h
theorem AD {P:Program}{w:World}{K:Fg}{tg:Expr}(it:Addr)(lo:Int)(n:Nat):Uz P w K tg (Itr lo n) [it] it (λi h=>IsRangeIter h it (lo+(i:Nat)*1) ((n:Int)-(i:Nat)) 1) where
 mem:=by simp
 obj:=λi h st b hb=>by
  have e:b=it:=by simpa using hb
  subst e;exact⟨_,st,λv z=>by
   have z':Data.fields _=Data.cell v:=z;cases z'⟩
 keep:=λi h h' st k=>k it (by simp) _ st
 item:=by
  intro X hP hw hK hc i pins s σ H E I hf st hg;subst hP hw hK;obtain⟨f0,f1,f2,f3,f4,f5⟩:=hf it (by simp);have W:=Walks.range (prog:=X.prog) (w:=X.w) (I.ok.hd hc) it lo 1 n;refine W.item i s _ _ hg st λv h' tk hv st' kk=>?_
  obtain⟨t,rfl⟩:=hv;have I1:Inv X pins σ H { s with heap:=h',toks:=tk }:=I.turned (λb o hb e=>kk b o (by simpa using hb) e) f0 f1 f3 f4 f5;refine⟨_,rfl,LX (s:={ s with heap:=h',toks:=tk }) (n:="range_iterator") st' rfl rfl (by decide) ⟨.int (lo+i),H,I1,⟨t,?_⟩,⟨rfl,rfl⟩,st',λb hb=>(hf b hb).1⟩⟩;rw[Int.mul_one]
 done:=by
  intro X hP hw hK hc i pins s σ H E I hf st hg;subst hP hw hK;obtain⟨f0,f1,f2,f3,f4,f5⟩:=hf it (by simp);exact wpAny_pyNext_range_end (I.ok.hd hc) st (by have:n<=i:=hg;omega) λh' eb=>⟨rfl,I.turned (t':=s.toks) (λb o hb e=>eb b o hb e) f0 f1 f3 f4 f5⟩
 self:=λ_ _ _ _ _ st h=>wpAny_pyIter_rangeiter st h
def Dh (K:Fg)(tl:TE):TI:=λσ H R=>tl σ H λx H1=>∃a,x=.ref a/\(∃xs,SqL K H1 a xs)/\R (Itl K a) H1
def iTup (K:Fg)(tl:TE):TI:=λσ H R=>tl σ H λx H1=>∃a,x=.ref a/\(∃xs,SqT K H1 a xs)/\R (Itt K a) H1
theorem JA {l:Expr}{tl:TE}(hl:PE X l tl):PI X tg l (Dh X.K tl):=by
 intro pins s σ H R I h;refine thn (hl pins s σ H _ I h) λv s1 ⟨x,H1,I1,r1,q1⟩=>?_
 obtain⟨a,e,⟨xs,hq⟩,q⟩:=q1;subst e;cases r1;obtain⟨aX,rv,p,hz⟩:=I1.list hq;refine wpAny_pyIter_list p.isList ?_;refine⟨s1.heap.objs.size,[s1.heap.objs.size],_,_,H1,rfl,I1.kept (t':=s1.toks) λb o e=>Heap.get?_push_of_some _ e,zaJ a _,⟨_,Heap.get?_push_size _ rfl,rfl,rfl⟩,λb hb=>?_,q⟩;have e:b=s1.heap.objs.size:=by simpa using hb
 subst e;exact I1.fpOk (zC _) (I1.hok.fresh (zC _))
theorem zc2 {l:Expr}{tl:TE}(hl:PE X l tl):PI X tg l (iTup X.K tl):=by
 intro pins s σ H R I h;refine thn (hl pins s σ H _ I h) λv s1 ⟨x,H1,I1,r1,q1⟩=>?_
 obtain⟨a,e,⟨xs,hq⟩,q⟩:=q1;subst e;cases r1;obtain⟨aX,rv,p,hz⟩:=I1.tuple hq;refine wpAny_pyIter_tuple (show s1.heap.IsTuple a aX.toArray from p) ?_;refine⟨s1.heap.objs.size,[s1.heap.objs.size],_,_,H1,rfl,I1.kept (t':=s1.toks) λb o e=>Heap.get?_push_of_some _ e,zhX a _,⟨_,Heap.get?_push_size _ rfl,rfl,rfl⟩,λb hb=>?_,q⟩;have e:b=s1.heap.objs.size:=by simpa using hb
 subst e;exact I1.fpOk (zC _) (I1.hok.fresh (zC _))
theorem Cy {pins:LA}{σ:St}{H:Hp}{s:Shared}{R:It->Hp->Prop}{E:Value->Shared->Prop}{lo hi:Int}{t u v:Tok}{tk:Nat}(I:Inv X pins σ H s)(h1:-(2^62)<=lo)(h2:lo<2^62)(h3:-(2^62)<=hi)(h4:hi<2^62)
  (q:R (Itr lo (hi-lo).toNat) H):wpAny (model X.prog X.w) X.A (pyIter (.ref s.heap.objs.size)) (PIE X pins σ tg R) E { s with heap:=s.heap.push { cls:=.type "range",data:=.fields #[.int lo t,.int hi u,.int 1 v] },toks:=tk }:=by
 refine wpAny_pyIter_range (IsRange.new ..) (small_one h1 h2 h3 h4) ?_;have I1:Inv X pins σ H { s with heap:=s.heap.push { cls:=.type "range",data:=.fields #[.int lo t,.int hi u,.int 1 v] },toks:=tk }:=I.kept λb o e=>Heap.get?_push_of_some _ e
 refine⟨(s.heap.push { cls:=.type "range",data:=.fields #[.int lo t,.int hi u,.int 1 v] }).objs.size,[(s.heap.push { cls:=.type "range",data:=.fields #[.int lo t,.int hi u,.int 1 v] }).objs.size],_,_,H,rfl,
  I1.kept (t':=tk) λb o e=>Heap.get?_push_of_some _ e,AD _ lo (hi-lo).toNat,?_,λb hb=>?_,q⟩
 ·have e1:lo+((0:Nat):Int)*1=lo:=by simp
  have e2:(((hi-lo).toNat:Nat):Int)-((0:Nat):Int)=Builtin.Range.rangeSize lo hi 1:=by rw[rangeSize_one];split<;>omega
  show IsRangeIter _ _ (lo+((0:Nat):Int)*1) ((((hi-lo).toNat:Nat):Int)-((0:Nat):Int)) 1;rw[e1,e2];exact Heap.get?_push_size _ rfl
 ·have e:b=(s.heap.push { cls:=.type "range",data:=.fields #[.int lo t,.int hi u,.int 1 v] }).objs.size:=by simpa using hb
  subst e;exact I1.fpOk (zC _) (I1.hok.fresh (zC _))
def Bl (ta:TA):TI:=λσ H R=>ta σ H λvs H1=>∃j:Int,vs=[.int j]/\-(2^62)<=j/\j<2^62/\R (Itr 0 j.toNat) H1
def Dd (ta:TA):TI:=λσ H R=>ta σ H λvs H1=>∃i j:Int,vs=[.int i,.int j]/\(-(2^62)<=i/\i<2^62/\-(2^62)<=j/\j<2^62)/\R (Itr i (j-i).toNat) H1
theorem HL {a:Expr}{ta:TA}{p pos:Pos}(hg:Gl X "range")(hm:X.mg "range"=none)(ha:PA X [a] ta)(hs:starEach [a] X.env=[(false,eval a X.env)]:=by rfl):PI X tg (.Call (.Name "range" p) [a] [] pos) (Bl ta):=by
 intro pins s σ H R I h;refine Call_ (VN I hg hm boot_range (PyProof.Rows.callWith_type1 (thn (ha pos pins s σ H _ I h) λus s1 ⟨vs,H1,I1,r1,q1⟩=>?_) hs rfl));obtain⟨j,e,q1,q2,q⟩:=q1;subst e;cases r1 with
 | cons r rr=>
  cases rr;obtain⟨t,rfl⟩:=r;exact call_range_1 (Cy I1 (by omega) (by omega) q1 q2 (by simpa using q))
theorem zin (hg:Gl X "range")(hm:X.mg "range"=none)(ha:PA X [a,b] ta)(hs:starEach [a,b] X.env=[(false,eval a X.env),(false,eval b X.env)]:=by rfl)(hs2:starEach [b] X.env=[(false,eval b X.env)]:=by rfl):
  PI X tg (.Call (.Name "range" p) [a,b] [] pos) (Dd ta):=by
 intro pins s σ H R I h;refine Call_ (VN I hg hm boot_range (PyProof.Rows.callWith_type1 (thn (ha pos pins s σ H _ I h) λus s1 ⟨vs,H1,I1,r1,q1⟩=>?_) (by rw[hs,hs2]) (by rw[hs2];rfl)));obtain⟨i,j,e,⟨q1,q2,q3,q4⟩,q⟩:=q1;subst e;cases r1 with
 | cons r rr=>
  cases rr with
  | cons r' rr=>
   cases rr;obtain⟨t,rfl⟩:=r;obtain⟨t',rfl⟩:=r';exact call_range_2 (Cy I1 q1 q2 q3 q4 q)
def tFor (wi:TI)(g:TG)(tb:TS):TS:=λD σ H=>wi σ H λJ H1=>∃W:Nat->Nat->St->Hp->Prop,(∃m,W 0 m σ H1)/\∀i m σ H,W i m σ H->
 (J.stop i H/\D.nx σ H)\/(J.go i H/\∃N:St->Hp->Prop,(∀σ' H',N σ' H'->∃m',m'<m/\W (i+1) m' σ' H')/\∀x H',J.yld i H x H'->g x σ H' λσ2 H2=>tb { D with nx:=N,ct:=N,bk:=D.nx } σ2 H2)
def OT (fp:List Addr)(h:Heap):LA:=fp.filterMap λb=>(h.get? b).map λo=>(b,o)
theorem Mz {fp:List Addr}{h:Heap}{b:Addr}{o:Obj}(hb:b∈fp)(e:h.get? b=some o):(b,o)∈OT fp h:=List.mem_filterMap.mpr ⟨b,hb,by rw[e];rfl⟩
theorem zar {fp:List Addr}{h:Heap}{p:Addr×Obj}(hp:p∈OT fp h):p.1∈fp/\h.get? p.1=some p.2:=by
 obtain⟨b,hb,e⟩:=List.mem_filterMap.mp hp;cases q:h.get? b with
 | none=>rw[q] at e;cases e
 | some o=>
  rw[q] at e;have e':(b,o)=p:=Option.some.inj e;subst e';exact⟨hb,q⟩
theorem Inv.pinned {pins:LA}{σ:St}{H:Hp}{s:Shared}{fp:List Addr}(I:Inv X pins σ H s)(hf:∀b∈fp,Yo X pins H b)(ho:∀b∈fp,∃o,s.heap.get? b=some o/\∀v,o.data≠.cell v):Inv X (pins++OT fp s.heap) σ H s:=
 I.pins_of λp hp=>(zZ.mp hp).elim (λz=>I.pin p (yO _ z)) λz=>by
  obtain⟨hb,e⟩:=zar z;obtain⟨f0,f1,f2,_⟩:=hf p.1 hb;obtain⟨o,e',d⟩:=ho p.1 hb;rw[e] at e';cases e'
  exact⟨e,f0,f1,f2,d⟩
theorem Inv.unpinned (I:Inv X (pins++pl) σ H s):Inv X pins σ H s:=I.pins_of λp hp=>I.pin p (yO _ (List.mem_append_left _ hp))
theorem Sl (hp:PassesOwn (model X.prog X.w) X.A X.env X.xe)(hc:X.calm=true)(hi:PI X tg aU wi)(hg:PG X tg g)(hb:PSs X body tb)(hs:∀x,foldedSetIterable aU X.env x=pure x:=by intro _;rfl):PS X (.For tg aU body [] pos) (tFor wi g tb):=by
 intro pins s σ H D I h;refine wpAny_For (thn (hi pins s σ H _ I h) λv s1 h1=>thn h1 λitv s2 h2=>?_) hs;obtain⟨it,fp,tn,J,H2,e,I2,T,st2,f2,W,⟨m0,w0⟩,turn⟩:=h2;subst e;have stat:∀ {H':Hp},(∀b∈fp,H' b=none)->∀b∈fp,Yo X pins H' b:=λhn b hb=>⟨hn b hb,(f2 b hb).2⟩
 refine codeAny_forLoop_any (λn s'=>∃i σ' H',Inv X pins σ' H' s'/\tn i s'.heap/\(∀b∈fp,H' b=none)/\W i n σ' H') ?_ m0 ⟨0,σ,H2,I2,st2,λb hb=>(f2 b hb).1,w0⟩;rintro n s3 ⟨i,σ3,H3,I3,st3,fr3,w3⟩;rcases turn i n σ3 H3 w3 with ⟨stop,qn⟩|⟨go,N,hN,step⟩
 ·refine wpAny_passesOwn hp (thn (T.done X rfl rfl rfl hc i pins s3 σ3 H3 X.xe I3 (stat fr3) st3 stop) λr s4 ⟨hr,I4⟩=>?_);subst hr;exact wpAny_execs_nil ⟨σ3,H3,I4,qn⟩
 ·refine wpAny_passesOwn hp (thn (T.item X rfl rfl rfl hc i pins s3 σ3 H3 X.xe I3 (stat fr3) st3 go) λr s4 ⟨u,hr,h4⟩=>?_);subst hr;refine wpAny_passesOwn hp (thn h4 λ_ s5 ⟨x,H5,I5,r5,y5,st5,fr5⟩=>?_);have I5':=I5.pinned (stat fr5) (T.obj _ _ st5);refine wpAny_passesOwn hp (thn (hg _ s5 σ3 H5 x u _ I5' r5 (step x H5 y5)) λ_ s6 ⟨σ6,H6,I6,q6⟩=>?_);refine wpAny_passesOwn hp (thn (hb _ s6 σ6 H6 _ I6 q6) λf s7 q7=>?_);have again:∀ {σ7:St} {H7:Hp},Inv X (pins++OT fp s5.heap) σ7 H7 s7->N σ7 H7->∃m,m<n/\∃i σ' H',Inv X pins σ' H' s7/\tn i s7.heap/\(∀b∈fp,H' b=none)/\W i m σ' H':=λ{σ7 H7} I7 n7=>by
   obtain⟨m',hm,w7⟩:=hN σ7 H7 n7;refine⟨m',hm,i+1,σ7,H7,I7.unpinned,T.keep _ _ _ st5 λb hb o e=>(I7.pin (b,o) (yO _ (yO _ (Mz hb e)))).1,λb hb=>?_,w7⟩;obtain⟨o,e,d⟩:=T.obj _ _ st5 b hb;exact(I7.pin (b,o) (yO _ (yO _ (Mz hb e)))).2.1
  cases f with
  | next=>obtain⟨σ7,H7,I7,n7⟩:=q7;exact again I7 n7
  | cont=>obtain⟨σ7,H7,I7,n7⟩:=q7;exact again I7 n7
  | brk=>obtain⟨σ7,H7,I7,q7⟩:=q7;exact⟨σ7,H7,I7.unpinned,q7⟩
  | ret v=>obtain⟨x7,σ7,H7,I7,r7,q7⟩:=q7;exact⟨x7,σ7,H7,I7.unpinned,r7,q7⟩
abbrev R2:=V->V->Hp->VK->Prop
def OpR (X:Cx)(f:Value->Value->Sem Value)(r:R2):Prop:=
 ∀(pins:LA)(s:Shared)(σ:St)(H:Hp)(x y:V)(v u:Value)(Q:VK),Inv X pins σ H s->ZK x v->ZK y u->r x y H Q->
  wpAny (model X.prog X.w) X.A (f v u) (EP X pins σ Q) X.xe s
def UnR (X:Cx)(f:Value->Sem Value)(r:V->Hp->VK->Prop):Prop:=
 ∀(pins:LA)(s:Shared)(σ:St)(H:Hp)(x:V)(v:Value)(Q:VK),Inv X pins σ H s->ZK x v->r x H Q->
  wpAny (model X.prog X.w) X.A (f v) (EP X pins σ Q) X.xe s
def YD (X:Cx)(f:Value)(r:List V->Hp->VK->Prop):Prop:=
 ∀(pins:LA)(s:Shared)(σ:St)(H:Hp)(xs:List V)(us:List Value)(Q:VK),Inv X pins σ H s->ZJ xs us->r xs H Q->
  wpAny (model X.prog X.w) X.A (call f us) (EP X pins σ Q) X.xe s
def tOp (r:R2)(ta tb:TE):TE:=λσ H Q=>ta σ H λx H1=>tb σ H1 λy H2=>r x y H2 Q
def tUn (r:V->Hp->VK->Prop)(ta:TE):TE:=λσ H Q=>ta σ H λx H1=>r x H1 Q
def rI (C:Int->Int->Prop)(g:Int->Int->V):R2:=λx y H Q=>∃i j,x=.int i/\y=.int j/\C i j/\Q (g i j) H
def rI0 (g:Int->Int->V):R2:=λx y H Q=>∃i j,x=.int i/\y=.int j/\Q (g i j) H
def rU (g:Int->V):V->Hp->VK->Prop:=λx H Q=>∃i,x=.int i/\Q (g i) H
theorem binT (ha:PE X a ta)(hb:PE X b tb){pins:LA}{s:Shared}{σ:St}{H:Hp}{R:V->V->Hp->Prop}(I:Inv X pins σ H s)
  (h:ta σ H λx H1=>tb σ H1 λy H2=>R x y H2){Q:Value->Shared->Prop}{f:Value->Value->Sem Value}
  (hf:∀v u s2 x y H2,Inv X pins σ H2 s2->ZK x v->ZK y u->R x y H2->wpAny (model X.prog X.w) X.A (f v u) Q X.xe s2):
  wpAny (model X.prog X.w) X.A (eval a X.env) (λv s₁=>wpAny (model X.prog X.w) X.A (eval b X.env) (λu s₂=>wpAny (model X.prog X.w) X.A (f v u) Q X.xe s₂) X.xe s₁) X.xe s:=by
 refine thn (ha pins s σ H _ I h) λv s1 ⟨x,H1,I1,r1,q1⟩=>?_
 refine thn (hb pins s1 σ H1 _ I1 q1) λu s2 ⟨y,H2,I2,r2,q2⟩=>?_
 exact hf v u s2 x y H2 I2 r1 r2 q2
theorem pe_op {op:Operator}{r:R2}(ho:OpR X (binaryOp op) r)(ha:PE X a ta)(hb:PE X b tb):PE X (.BinOp a op b pos) (tOp r ta tb):=by
 intro pins s σ H Q I h;exact wpAny_BinOp (binT ha hb I h λv u s2 x y H2 I2 rx ry q=>ho pins s2 σ H2 x y v u Q I2 rx ry q)
theorem pe_un {op:UnaryOp}{r:V->Hp->VK->Prop}(ho:UnR X (unaryOp op) r)(ha:PE X a ta):PE X (.UnaryOp op a pos) (tUn r ta):=by
 intro pins s σ H Q I h;exact UnaryOp_ (thn (ha pins s σ H _ I h) λv s1 ⟨x,H1,I1,r1,q1⟩=>ho pins s1 σ H1 x v Q I1 r1 q1)
theorem opI {f:Value->Value->Sem Value}{C:Int->Int->Prop}{g:Int->Int->Int}
  (rule:∀(i j:Int)(t u:Tok)(s:Shared)(Q:Value->Shared->Prop)(E:Value->Shared->Prop),C i j->Q (.int (g i j) s.toks) { s with toks:=s.toks+1 }->wpAny (model X.prog X.w) X.A (f (.int i t) (.int j u)) Q E s):
  OpR X f (rI C λi j=>.int (g i j)):=by
 intro pins s σ H x y v u Q I rx ry h;obtain⟨i,j,rfl,rfl,hc,q⟩:=h;obtain⟨t,rfl⟩:=rx;obtain⟨t',rfl⟩:=ry;exact rule i j t t' s _ _ hc ⟨.int (g i j),H,I.tok _,⟨_,rfl⟩,q⟩
theorem opI0 {f:Value->Value->Sem Value}{g:Int->Int->Int}
  (rule:∀(i j:Int)(t u:Tok)(s:Shared)(Q:Value->Shared->Prop)(E:Value->Shared->Prop),Q (.int (g i j) s.toks) { s with toks:=s.toks+1 }->wpAny (model X.prog X.w) X.A (f (.int i t) (.int j u)) Q E s):
  OpR X f (rI0 λi j=>.int (g i j)):=by
 intro pins s σ H x y v u Q I rx ry h;obtain⟨i,j,rfl,rfl,q⟩:=h;obtain⟨t,rfl⟩:=rx;obtain⟨t',rfl⟩:=ry;exact rule i j t t' s _ _ ⟨.int (g i j),H,I.tok _,⟨_,rfl⟩,q⟩
theorem Ll {f:Value->Value->Sem Value}{g:Int->Int->Bool}
  (rule:∀(i j:Int)(t u:Tok)(s:Shared)(Q:Value->Shared->Prop)(E:Value->Shared->Prop),Q (.bool (g i j)) s->wpAny (model X.prog X.w) X.A (f (.int i t) (.int j u)) Q E s):
  OpR X f (rI0 λi j=>.bl (g i j)):=by
 intro pins s σ H x y v u Q I rx ry h;obtain⟨i,j,rfl,rfl,q⟩:=h;obtain⟨t,rfl⟩:=rx;obtain⟨t',rfl⟩:=ry;exact rule i j t t' s _ _ ⟨.bl (g i j),H,I,rfl,q⟩
def NH (i j:Int):Prop:=0<=j/\j<=1000000/\i.natAbs<2^64
theorem zfR:OpR X (binaryOp .Add) (rI0 λi j=>.int (i+j)):=opI0 λ_ _ _ _ _ _ _ q=>add_int q
theorem zhN:OpR X (binaryOp .Sub) (rI0 λi j=>.int (i-j)):=opI0 λ_ _ _ _ _ _ _ q=>sub_int q
theorem zbp:OpR X (binaryOp .Mod) (rI (λ_ j=>0<j) λi j=>.int (i%j)):=opI λi j _ _ _ _ _ hc q=>by
 have h1:(0:Int)<j:=hc;exact mod_int' (by omega) (by rw[Int.fmod_eq_emod_of_nonneg i (by omega)];exact q)
theorem zbU:OpR X (binaryOp .Pow) (rI NH λi j=>.int (i^j.toNat)):=opI λ_ _ _ _ _ _ _ hc q=>pow_int_small hc.1 hc.2.1 hc.2.2 q
theorem zfU:OpR X (binaryOp .LShift) (rI NH λi j=>.int (i*2^j.toNat)):=opI λ_ _ _ _ _ _ _ hc q=>lshift_int_small hc.1 hc.2.1 hc.2.2 q
theorem unI {f:Value->Sem Value}{g:Int->Int}
  (rule:∀(i:Int)(t:Tok)(s:Shared)(Q:Value->Shared->Prop)(E:Value->Shared->Prop),Q (.int (g i) s.toks) { s with toks:=s.toks+1 }->wpAny (model X.prog X.w) X.A (f (.int i t)) Q E s):
  UnR X f (rU λi=>.int (g i)):=by
 intro pins s σ H x v Q I rx h;obtain⟨i,rfl,q⟩:=h;obtain⟨t,rfl⟩:=rx;exact rule i t s _ _ ⟨.int (g i),H,I.tok _,⟨_,rfl⟩,q⟩
theorem zdF:UnR X (unaryOp .USub) (rU λi=>.int (-i)):=unI λ_ _ _ _ _ q=>neg_int q
def MD:V->V->Bool
 | .non,.non=>true|.non,.int _=>true|.int _,.non=>true|.non,.bl _=>true|.bl _,.non=>true|.non,.str _=>true|.str _,.non=>true
 | .int _,.int _=>true|.bl _,.bl _=>true|.str _,.str _=>true|.byt _,.byt _=>true
 | .int _,.str _=>true|.str _,.int _=>true|.bl _,.str _=>true|.str _,.bl _=>true
 | _,_=>false
def rEq:R2:=λx y H Q=>MD x y=true/\Q (.bl (decide (x=y))) H
def rNe:R2:=λx y H Q=>MD x y=true/\Q (.bl (!decide (x=y))) H
theorem C4:decide (V.int i=V.int j)=(i==j):=by
 rw[yV];simp
theorem DU:decide (V.bl i=V.bl j)=(i==j):=by
 rw[yV];simp
theorem E1:decide (V.str i=V.str j)=(i==j):=by
 rw[yV];simp
theorem EB:decide (V.byt i=V.byt j)=(i.toList==j.toList):=by
 rw[yV];cases i;cases j;simp
theorem Z7 (I:Inv X pins σ H s)(q:Q (.bl k) H)(e:k=k'):EP X pins σ Q (.bool k') s:=by
 subst e;exact⟨.bl k,H,I,rfl,q⟩
theorem FA:OpR X (compareOp .Eq) rEq:=by
 intro pins s σ H x y v u Q I rx ry h;obtain⟨hs,q⟩:=h;cases x with
 | non=>
  cases rx;cases y with
  | non=>cases ry;exact PySem.EqNone.eq_none_none (Z7 I q (by simp))
  | bl j=>cases ry;exact PySem.EqNone.eq_none_bool (Z7 I q (by simp))
  | int j=>obtain⟨t',rfl⟩:=ry;exact PySem.EqNone.eq_none_int (Z7 I q (by simp))
  | str j=>obtain⟨t',rfl⟩:=ry;exact PySem.EqNone.eq_none_str (Z7 I q (by simp))
  | _=>exact absurd (show false=true from hs) zJ
 | bl i=>
  cases rx;cases y with
  | non=>cases ry;exact PySem.EqNone.eq_bool_none (Z7 I q (by simp))
  | bl j=>cases ry;exact eq_bool (Z7 I q DU)
  | str j=>obtain⟨t',rfl⟩:=ry;exact PySem.EqMixed.eq_bool_str (Z7 I q (by simp))
  | _=>exact absurd (show false=true from hs) zJ
 | int i=>
  obtain⟨t,rfl⟩:=rx;cases y with
  | non=>cases ry;exact PySem.EqNone.eq_int_none (Z7 I q (by simp))
  | int j=>obtain⟨t',rfl⟩:=ry;exact eq_int (Z7 I q C4)
  | str j=>obtain⟨t',rfl⟩:=ry;exact PySem.EqMixed.eq_int_str (Z7 I q (by simp))
  | _=>exact absurd (show false=true from hs) zJ
 | str i=>
  obtain⟨t,rfl⟩:=rx;cases y with
  | non=>cases ry;exact PySem.EqNone.eq_str_none (Z7 I q (by simp))
  | bl j=>cases ry;exact PySem.EqMixed.eq_str_bool (Z7 I q (by simp))
  | int j=>obtain⟨t',rfl⟩:=ry;exact PySem.EqMixed.eq_str_int (Z7 I q (by simp))
  | str j=>obtain⟨t',rfl⟩:=ry;exact eq_str (Z7 I q E1)
  | _=>exact absurd (show false=true from hs) zJ
 | byt i=>
  obtain⟨t,rfl⟩:=rx;cases y with
  | byt j=>obtain⟨t',rfl⟩:=ry;exact W.eq_bytes (Z7 I q EB)
  | _=>exact absurd (show false=true from hs) zJ
 | _=>cases y<;>exact absurd (show false=true from hs) zJ
theorem op_ne:OpR X (compareOp .NotEq) rNe:=by
 intro pins s σ H x y v u Q I rx ry h;obtain⟨hs,q⟩:=h;cases x with
 | non=>
  cases rx;cases y with
  | non=>cases ry;exact PySem.EqNone.ne_none_none (Z7 I q (by simp))
  | bl j=>cases ry;exact PySem.EqNone.ne_none_bool (Z7 I q (by simp))
  | int j=>obtain⟨t',rfl⟩:=ry;exact PySem.EqNone.ne_none_int (Z7 I q (by simp))
  | str j=>obtain⟨t',rfl⟩:=ry;exact PySem.EqNone.ne_none_str (Z7 I q (by simp))
  | _=>exact absurd (show false=true from hs) zJ
 | bl i=>
  cases rx;cases y with
  | non=>cases ry;exact PySem.EqNone.ne_bool_none (Z7 I q (by simp))
  | bl j=>cases ry;exact ne_bool (Z7 I q (congrArg not DU))
  | str j=>obtain⟨t',rfl⟩:=ry;exact PySem.EqMixed.ne_bool_str (Z7 I q (by simp))
  | _=>exact absurd (show false=true from hs) zJ
 | int i=>
  obtain⟨t,rfl⟩:=rx;cases y with
  | non=>cases ry;exact PySem.EqNone.ne_int_none (Z7 I q (by simp))
  | int j=>obtain⟨t',rfl⟩:=ry;exact ne_int (Z7 I q (congrArg not C4))
  | str j=>obtain⟨t',rfl⟩:=ry;exact PySem.EqMixed.ne_int_str (Z7 I q (by simp))
  | _=>exact absurd (show false=true from hs) zJ
 | str i=>
  obtain⟨t,rfl⟩:=rx;cases y with
  | non=>cases ry;exact PySem.EqNone.ne_str_none (Z7 I q (by simp))
  | bl j=>cases ry;exact PySem.EqMixed.ne_str_bool (Z7 I q (by simp))
  | int j=>obtain⟨t',rfl⟩:=ry;exact PySem.EqMixed.ne_str_int (Z7 I q (by simp))
  | str j=>obtain⟨t',rfl⟩:=ry;exact ne_str (Z7 I q (congrArg not E1))
  | _=>exact absurd (show false=true from hs) zJ
 | byt i=>
  obtain⟨t,rfl⟩:=rx;cases y with
  | byt j=>obtain⟨t',rfl⟩:=ry;exact W.ne_bytes (Z7 I q (congrArg not EB))
  | _=>exact absurd (show false=true from hs) zJ
 | _=>cases y<;>exact absurd (show false=true from hs) zJ
theorem op_lt:OpR X (compareOp .Lt) (rI0 λi j=>.bl (decide (i<j))):=Ll λ_ _ _ _ _ _ _ q=>lt_int q
theorem op_le:OpR X (compareOp .LtE) (rI0 λi j=>.bl (decide (i<=j))):=Ll λ_ _ _ _ _ _ _ q=>le_int q
theorem op_gt:OpR X (compareOp .Gt) (rI0 λi j=>.bl (decide (j<i))):=Ll λ_ _ _ _ _ _ _ q=>gt_int q
theorem op_ge:OpR X (compareOp .GtE) (rI0 λi j=>.bl (decide (j<=i))):=Ll λ_ _ _ _ _ _ _ q=>ge_int q
theorem ze6:OpR X (compareOp .Is) (λx y H Q=>y=.non/\Q (.bl (decide (x=.non))) H):=by
 intro pins s σ H x y v u Q I rx ry h;obtain⟨rfl,q⟩:=h;cases ry;refine is_none_gen (Z7 I q ?_);cases x<;>first
  | (cases rx;rfl)
  | (obtain⟨t,rfl⟩:=rx;rfl)
theorem zhj:OpR X (compareOp .IsNot) (λx y H Q=>y=.non/\Q (.bl (!decide (x=.non))) H):=by
 intro pins s σ H x y v u Q I rx ry h;obtain⟨rfl,q⟩:=h;cases ry;refine isnot_none_gen (Z7 I q ?_);cases x<;>first
  | (cases rx;rfl)
  | (obtain⟨t,rfl⟩:=rx;rfl)
theorem Zw (b:Expr)(h:op≠.In:=by decide)(h2:op≠.NotIn:=by decide):behindInMarks op b=false:=by
 have e1:(op==CmpOp.In)=false:=by cases op<;>first|rfl|exact absurd rfl h
 have e2:(op==CmpOp.NotIn)=false:=by cases op<;>first|rfl|exact absurd rfl h2
 cases b<;>simp[behindInMarks,e1,e2]
theorem zeF {op:CmpOp}{r:R2}(ho:OpR X (compareOp op) r)(ha:PE X a ta)(hb:PE X b tb)(hm:behindInMarks op b=false):PE X (.Compare a [op] [b] pos) (tOp r ta tb):=by
 intro pins s σ H Q I h;exact wpAny_Compare1 (binT ha hb I h λv u s2 x y H2 I2 rx ry q=>ho pins s2 σ H2 x y v u Q I2 rx ry q) hm
def EA (t:TE):TT:=λσ H Q=>t σ H λx H'=>∃k,x=.bl k/\Q k H'
theorem zcI {op:CmpOp}{r:R2}(ho:OpR X (compareOp op) r)(ha:PE X a ta)(hb:PE X b tb)(hm:behindInMarks op b=false):PT X (.Compare a [op] [b] pos) (EA (tOp r ta tb)):=by
 intro pins s σ H Q I h;refine wpAny_isTrue_Compare1 (thn (ha pins s σ H _ I h) λv s1 ⟨x,H1,I1,r1,q1⟩=>thn (hb pins s1 σ H1 _ I1 q1) λu s2 ⟨y,H2,I2,r2,q2⟩=>
  thn (ho pins s2 σ H2 x y v u _ I2 r1 r2 q2) λc s3 ⟨z,H3,I3,r3,k,e,q3⟩=>?_) hm
 subst e;cases r3;exact wpAny_truthy_bool ⟨H3,I3,q3⟩
def Gu (r r':R2)(ta tb tc:TE):TE:=λσ H Q=>ta σ H λx H1=>tb σ H1 λy H2=>r x y H2 λz H3=>∃k,z=.bl k/\
 (if k=true then tc σ H3 λw' H4=>r' y w' H4 Q else Q (.bl false) H3)
theorem zdb {op op':CmpOp}{r r':R2}(ho:OpR X (compareOp op) r)(ho':OpR X (compareOp op') r')(ha:PE X a ta)(hb:PE X b tb)(hc:PE X c tc)
  (hm:lastMarks [op,op'] [b,c]=false:=by with_unfolding_all rfl):PE X (.Compare a [op,op'] [b,c] pos) (Gu r r' ta tb tc):=by
 intro pins s σ H Q I h;refine Compare_chain (thn (ha pins s σ H _ I h) λv s1 ⟨x,H1,I1,r1,q1⟩=>chain_link (thn (hb pins s1 σ H1 _ I1 q1) λu s2 ⟨y,H2,I2,r2,q2⟩=>
  thn (ho pins s2 σ H2 x y v u _ I2 r1 r2 q2) λd s3 ⟨z,H3,I3,r3,k,e,q3⟩=>?_)) hm
 subst e;cases r3;refine wpAny_truthy_bool ?_;cases k with
 | false=>exact ite_ff ⟨.bl false,H3,I3,rfl,q3⟩
 | true=>exact ite_tt (chain_last (thn (hc pins s3 σ H3 _ I3 q3) λw' s4 ⟨z',H4,I4,r4,q4⟩=>ho' pins s4 σ H4 y z' u w' Q I4 r2 r4 q4))
theorem zai {op op':CmpOp}{r r':R2}(ho:OpR X (compareOp op) r)(ho':OpR X (compareOp op') r')(ha:PE X a ta)(hb:PE X b tb)(hc:PE X c tc)
  (hm:lastMarks [op,op'] [b,c]=false:=by with_unfolding_all rfl):PT X (.Compare a [op,op'] [b,c] pos) (EA (Gu r r' ta tb tc)):=by
 intro pins s σ H Q I h;refine isTrue_chain (thn (ha pins s σ H _ I h) λv s1 ⟨x,H1,I1,r1,q1⟩=>test_link (thn (hb pins s1 σ H1 _ I1 q1) λu s2 ⟨y,H2,I2,r2,q2⟩=>
  thn (ho pins s2 σ H2 x y v u _ I2 r1 r2 q2) λd s3 ⟨z,H3,I3,r3,k,e,q3⟩=>?_)) hm
 subst e;cases r3;refine wpAny_truthy_bool ?_;cases k with
 | false=>
  obtain⟨k',e',q'⟩:=q3;cases e';exact ite_ff ⟨H3,I3,q'⟩
 | true=>
  refine ite_tt (test_last (thn (hc pins s3 σ H3 _ I3 q3) λw' s4 ⟨z',H4,I4,r4,q4⟩=>thn (ho' pins s4 σ H4 y z' u w' _ I4 r2 r4 q4) λd' s5 ⟨z2,H5,I5,r5,k2,e2,q5⟩=>?_));subst e2;cases r5;exact wpAny_truthy_bool ⟨H5,I5,q5⟩
theorem QR:(sizeLine:Nat)<2^63:=by rw[sizeLine_eq];decide
theorem Vq (r:ZJ [x] us):∃u,us=[u]/\ZK x u:=by
 cases r with
 | cons r1 r2=>cases r2;exact⟨_,rfl,r1⟩
theorem DF (r:ZJ [x,y] us):∃u w',us=[u,w']/\ZK x u/\ZK y w':=by
 cases r with
 | cons r1 r2=>
  cases r2 with
  | cons r3 r4=>cases r4;exact⟨_,_,rfl,r1,r3⟩
theorem A4:YD X (.builtin "abs") (λxs H Q=>∃i,xs=[.int i]/\Q (.int (if i<0 then -i else i)) H):=by
 intro pins s σ H xs us Q I r h;obtain⟨i,rfl,q⟩:=h;obtain⟨u,rfl,t,rfl⟩:=Vq r;exact call_abs_int λu tk=>⟨.int (if i<0 then -i else i),H,I.tok _,⟨_,rfl⟩,q⟩
theorem zik (hc:X.calm=true):YD X (.builtin "max") (λxs H Q=>∃i j,xs=[.int i,.int j]/\Q (.int (if j > i then j else i)) H):=by
 intro pins s σ H xs us Q I r h;obtain⟨i,j,rfl,q⟩:=h;obtain⟨u,w',rfl,⟨t,rfl⟩,⟨t',rfl⟩⟩:=DF r;refine max_two_ints (I.ok.hd hc) λh' tk k=>⟨_,H,I.kept k,?_,q⟩
 by_cases hj:j > i
 ·rw[if_pos hj,if_pos hj];exact⟨_,rfl⟩
 ·rw[if_neg hj,if_neg hj];exact⟨_,rfl⟩
theorem zhR (hc:X.calm=true):YD X (.builtin "min") (λxs H Q=>∃i j,xs=[.int i,.int j]/\Q (.int (if j<i then j else i)) H):=by
 intro pins s σ H xs us Q I r h;obtain⟨i,j,rfl,q⟩:=h;obtain⟨u,w',rfl,⟨t,rfl⟩,⟨t',rfl⟩⟩:=DF r;refine min_two_ints (I.ok.hd hc) λh' tk k=>⟨_,H,I.kept k,?_,q⟩
 by_cases hj:j<i
 ·rw[if_pos hj,if_pos hj];exact⟨_,rfl⟩
 ·rw[if_neg hj,if_neg hj];exact⟨_,rfl⟩
structure Uu (h:Heap)(x dx C:Addr)(mA:Str->Option Value):Prop where
 obj:h.get? x=some (W.instObj C dx)
 ns:h.Ns1 dx mA
 ne:dx≠x
theorem zcx {h:Heap}{dx:Addr}{mA:Str->Option Value}(n:h.Ns1 dx mA):∃od,h.get? dx=some od/\∀name,W.lookIn name od=some (mA name):=by
 obtain⟨o,es,ep,ho,hd,hk,_,hm⟩:=n;refine⟨o,ho,λname=>?_⟩;have e:=hm name;unfold nsFind findBy at e;rw[<- Array.find?_toList] at e;unfold W.lookIn;rw[hd];dsimp only;split
 ·rename_i y q;rw[q] at e;exact congrArg some e
 ·rename_i q;rw[q] at e;have a:es.toList.any (·.refKey)=false:=by
   rw[List.any_eq_false];intro y hy;obtain⟨z,t,hkey⟩:=hk y (Array.mem_toList_iff.mp hy);simp[DictEntry.refKey,hkey]
  have a':¬ es.toList.any (·.refKey)=true:=by rw[a];exact zJ
  rw[if_neg a'];exact congrArg some e
theorem Uu.look (I:Uu h x dx C mA):∃od,W.InstAt h x (W.instObj C dx) C (some od)/\∀name,W.lookIn name od=some (mA name):=
 let ⟨od,ho,hl⟩:=zcx I.ns
 ⟨od,⟨I.obj,rfl,rfl,ho⟩,hl⟩
section
variable {prog:Program}{w:World}{A:Around}{E:Value->Shared->Prop}{s:Shared}{K:Fg}{x dx C f:Addr}{mA:Str->Option Value}{name:Str}{v:Value}
theorem zbb (X:K.In s.heap)(I:Uu s.heap x dx C mA)(hg:W.plainGet K C name=true)(hh:W.hasDictIn K C=true)(ha:W.findIn K (.ref C) name=some none)(hv:mA name=some v)(hv':W.handedIn v=true)(h:Q v { s with toks:=s.toks+1 }):
  wpAny (model prog w) A (getAttr (.ref x) name expr) Q E s:=by
 obtain⟨od,J,hl⟩:=I.look;exact W.get_value X J (W.plainGet_of hg).1 (W.findObj_own hh ha rfl (by rw[hl,hv])) hv' h
theorem zfa (X:K.In s.heap)(I:Uu s.heap x dx C mA)(hg:W.plainGet K C name=true)(hf:W.findIn K (.ref C) name=some (some (.ref f)))(ht:W.isFn K (.ref f)=true)(hv:mA name=none)(h:Q (.ref f,[.ref x]) s):
  wpAny (model prog w) A (getMethod (.ref x) name pl) Q E s:=by
 obtain⟨od,J,hl⟩:=I.look;exact W.method_fn X J (W.plainGet_of hg).1 (W.plainGet_of hg).2 hf (beq_iff_eq.mp ht) (by show (W.lookIn name od).map (·.isSome)=some false;rw[hl,hv];rfl) h
theorem zez (X:K.In s.heap)(I:Uu s.heap x dx C mA)(hs:W.findIn K (.ref C) "__setattr__"=some (some (.builtin "object.__setattr__")))(hp:W.plainOver K C=true)(ht:W.takerIn K C name=some none)(hh:W.hasDictIn K C=true)(hw:PySem.Within mA ns)(hsz:ns.length<=sizeLine)(h:∀h',Uu h' x dx C (λy=>if y=name then some v else mA y)->Heap.SameBut dx s.heap h'->Q () { s with heap:=h',toks:=s.toks+2 }):
  wpAny (model prog w) A (setAttr (.ref x) name v) Q E s:=by
 obtain⟨od,J,hl⟩:=I.look;refine W.set_plain X J hs (W.osa_open (s:={ s with toks:=s.toks+1 }) (r:=none) X J hp ht λb=>?_);obtain⟨cd,hc,hd'⟩:=W.any_some hh;have hx:s.heap.get? x=some ⟨.ref C,some dx,.plain,#[]⟩:=I.obj;refine wpAny_bind (wpAny_pure (wpAny_bind (wpAny_bind (wpAny_loadPart hx (wpAny_bind (W.Looks.here (s:={ s with toks:=s.toks+1 }) (W.looks_clsIn X hc) ?_))))));rw[hd'];refine wpAny_pure (a:=some dx) (wpAny_bind (wpAny_pure (wpAny_bind ?_)));refine wpAny_nsSet1 (s:={ s with toks:=s.toks+1 }) I.ns λh' hn2 hs2=>?_
 obtain⟨oD,esD,epD,hoD,hdD,hcD⟩:=hn2.count (PySem.Within.cons name v hw);refine wpAny_bind (wpAny_lookBehind hoD (by rw[hdD];exact pastItsLine_dict (yD hcD (by rw[zU];omega))) ?_);exact wpAny_pure (h _ ⟨(hs2.2 _ (Ne.symm I.ne)).trans I.obj,hn2,I.ne⟩ hs2)
theorem zfh (X:K.In s.heap)(hm:W.makesIn K C=true)(hi:W.findIn K (.ref C) "__init__"=some (some (.ref f)))(hf:W.typeIn K (.ref f)=some (.type "function"))(h:codeAny (model prog w) (A.under (.builtin "type.__call__" ⟨.ref C::vs,kw⟩)) (.call (.ref f) ⟨.ref (s.heap.objs.size+1)::vs,kw⟩) (W.InitBack (s.heap.objs.size+1) R)
   { s with heap:=(s.heap.push W.emptyDict).push (W.instObj C s.heap.objs.size) }):
  codeAny (model prog w) A (.call (.ref C) ⟨vs,kw⟩) R s:=by
 obtain⟨hh,g,d,t,os⟩:=s;exact W.make_core (W.makes_of X hm) (W.looks_findIn X hi) (λself=>W.bind_fn X self hf) (.inl rfl) h
end
def YQ (f:Str)(v:V):List (Str×V)->List (Str×V)
 | []=>[(f,v)]
 | (g,x)::r=>if g=f then (g,v)::r else (g,x)::YQ f v r
theorem CU (f g:Str)(v:V):∀fs:List (Str×V),(YQ f v fs).lookup g=if g=f then some v else fs.lookup g
 | []=>by
  show List.lookup g [(f,v)]=_;by_cases h:g=f
  ·have hb:(g==f)=true:=beq_iff_eq.mpr h;simp only[List.lookup,hb,if_pos h]
  ·have hb:(g==f)=false:=beq_eq_false_iff_ne.mpr h;simp only[List.lookup,hb,if_neg h]
 | (k,x)::r=>by
  have ih:=CU f g v r;rw[show YQ f v ((k,x)::r)=(if k=f then (k,v)::r else (k,x)::YQ f v r) from rfl];by_cases hk:k=f
  ·rw[if_pos hk];by_cases h:g=k
   ·have hb:(g==k)=true:=beq_iff_eq.mpr h;simp only[List.lookup,hb,if_pos (h.trans hk)]
   ·have hb:(g==k)=false:=beq_eq_false_iff_ne.mpr h;simp only[List.lookup,hb,if_neg (λe:g=f=>h (e.trans hk.symm))]
  ·rw[if_neg hk];by_cases h:g=k
   ·have hb:(g==k)=true:=beq_iff_eq.mpr h;simp only[List.lookup,hb,if_neg (λe:g=f=>hk (h.symm.trans e))]
   ·have hb:(g==k)=false:=beq_eq_false_iff_ne.mpr h;simp only[List.lookup,hb];exact ih
theorem Hc (f:Str)(v:V):∀fs:List (Str×V),f∈(YQ f v fs).map (·.1)/\∀g,g∈fs.map (·.1)->g∈(YQ f v fs).map (·.1)
 | []=>⟨by simp[YQ],λg h=>by simp at h⟩
 | (k,x)::r=>by
  obtain⟨i1,i2⟩:=Hc f v r;rw[show YQ f v ((k,x)::r)=(if k=f then (k,v)::r else (k,x)::YQ f v r) from rfl];by_cases hk:k=f
  ·rw[if_pos hk];subst hk;exact⟨by simp,λg h=>by simpa using h⟩
  ·rw[if_neg hk];refine⟨?_,λg h=>?_⟩
   ·rw[yJ];exact yH _ i1
   ·rw[yJ] at h ⊢;rcases zR.mp h with e|e
    ·exact zR.mpr (.inl e)
    ·exact yH _ (i2 g e)
theorem Be (f:Str)(v:V):∀fs:List (Str×V),(YQ f v fs).length<=fs.length+1
 | []=>by simp[YQ]
 | (k,x)::r=>by
  have ih:=Be f v r;rw[show YQ f v ((k,x)::r)=(if k=f then (k,v)::r else (k,x)::YQ f v r) from rfl];by_cases hk:k=f
  ·rw[if_pos hk,zU,zU];omega
  ·rw[if_neg hk,zU,zU];omega
theorem WJ.some_of (r:WJ (some v) o):∃u,o=some u/\ZK v u:=by
 cases o with
 | none=>exact(show False from r).elim
 | some u=>exact⟨u,rfl,r⟩
theorem WJ.none_of (r:WJ none o):o=none:=by
 cases o with
 | none=>rfl
 | some u=>exact(show False from r).elim
theorem zdN (r:ZK v u):W.handedIn u=true:=by
 cases v with
 | non=>cases (show u=Value.none from r);rfl
 | bl b=>cases (show u=Value.bool b from r);rfl
 | int i=>obtain⟨t,e⟩:=(show ∃t,u=Value.int i t from r);cases e;rfl
 | str x=>obtain⟨t,e⟩:=(show ∃t,u=Value.str x t from r);cases e;rfl
 | byt b=>obtain⟨t,e⟩:=(show ∃t,u=Value.bytes b t from r);cases e;rfl
 | flt b=>obtain⟨t,e⟩:=(show ∃t,u=Value.float b t from r);cases e;rfl
 | ref a=>cases (show u=Value.ref a from r);rfl
 | ty n=>cases (show u=Value.type n from r);rfl
theorem HB (hok:HOk P w H h)(e:H a=some (.ins C dx fs)):∃mA,Uu h a dx C mA/\(∀f,WJ (fs.lookup f) (mA f))/\PySem.Within mA (fs.map (·.1))/\fs.length<=1000/\H dx=some (.own a):=by
 obtain⟨d,z,ne,ob,mA,n,r,q⟩:=(show XE P w H h a (.ins C dx fs) from hok a _ e);exact⟨mA,⟨ob,n,ne⟩,r,q,z,d⟩
structure Cls (K:Fg)(C:Addr):Prop where
 pg:W.plainGet K C Str.empty=true
 hd:W.hasDictIn K C=true
 po:W.plainOver K C=true
 sa:W.findIn K (.ref C) "__setattr__"=some (some (.builtin "object.__setattr__"))
theorem Cls.get {K:Fg}{C:Addr}(c:Cls K C)(f:Str):W.plainGet K C f=true:=c.pg
def YJ (K:Fg)(C:Addr)(f:Str):Prop:=W.findIn K (.ref C) f=some none
theorem YJ.taker {K:Fg}{C:Addr}{f:Str}(n:YJ K C f):W.takerIn K C f=some none:=by
 unfold W.takerIn;rw[show W.findIn K (.ref C) f=some none from n];rfl
structure Con (K:Fg)(C:Addr)(f:Str)(v:V)(u:Value):Prop where
 at_:W.findIn K (.ref C) f=some (some u)
 aZ:ZK v u
 get:W.specialIn K u "__get__"=some none
 cp:W.copiedNames.contains f=false
structure Ug (K:Fg)(C:Addr)(m:Str)(f:Addr):Prop where
 at_:W.findIn K (.ref C) m=some (some (.ref f))
 fn:W.isFn K (.ref f)=true
 kp:W.keepIn K (.ref f)=true
theorem za4 (I:Inv X pins σ H s)(e:H a=some (.ins C dx fs))(c:Cls X.K C)(n:YJ X.K C f)(l:fs.lookup f=some v)(h:∀u s',Inv X pins σ H s'->ZK v u->Q u s'):wpAny (model X.prog X.w) A (getAttr (.ref a) f b) Q E s:=by
 obtain⟨mA,O,r,_,_,_⟩:=HB I.hok e;obtain⟨u,hu,ru⟩:=WJ.some_of (v:=v) (o:=mA f) (by rw[<- l];exact r f);exact zbb I.kIn O (c.get f) c.hd n hu (zdN ru) (h u _ (I.tok _) ru)
theorem Jl (I:Inv X pins σ H s)(e:H a=some (.ins C dx fs))(c:Cls X.K C)(k:Ug X.K C m g)(l:fs.lookup m=none)(h:Q (.ref g,[.ref a]) s):wpAny (model X.prog X.w) A (getMethod (.ref a) m pl) Q E s:=by
 obtain⟨mA,O,r,_,_,_⟩:=HB I.hok e;have hn:mA m=none:=WJ.none_of (by rw[<- l];exact r m);exact zfa I.kIn O (c.get m) k.at_ k.fn hn h
theorem zh1 (I:Inv X pins σ H s)(e:H a=some (.ins C dx fs))(c:Cls X.K C)(n:YJ X.K C f)(hl:fs.length<1000)(ry:ZK y u)(h:∀s',Inv X pins σ (upd H a (.ins C dx (YQ f y fs))) s'->Q () s'):wpAny (model X.prog X.w) A (setAttr (.ref a) f u) Q E s:=by
 obtain⟨mA,O,r,wi,_,ho⟩:=HB I.hok e;have hz:(fs.map (·.1)).length<=sizeLine:=by rw[zB,sizeLine_eq];omega
 refine zez I.kIn O c.sa c.po n.taker c.hd wi hz λh' O' sb=>h _ ?_
 have hd:∃o,h'.get? dx=some o:=let ⟨o,_,_,e',_⟩:=O'.ns;⟨o,e'⟩
 refine I.write (x:=a) (e:=dx) (by rw[e];exact True.intro) (.inr ho) (λb q hb z=>(sb.2 b hb).trans z) hd ?_;refine⟨by rw[Z4 O.ne];exact ho,?_,O.ne,O'.obj,_,O'.ns,λg=>?_,λg hg=>?_⟩
 ·have:=Be f y fs;omega
 ·show WJ ((YQ f y fs).lookup g) (if g=f then some u else mA g);rw[CU];by_cases q:g=f
  ·rw[if_pos q,if_pos q];exact ry
  ·rw[if_neg q,if_neg q];exact r g
 ·by_cases q:g=f
  ·rw[q];exact(Hc f y fs).1
  ·refine(Hc f y fs).2 g (wi g λz=>hg ?_);show (if g=f then some u else mA g)=none;rw[if_neg q];exact z
theorem Inv.made (I:Inv X pins σ H s):Inv X pins σ (upd (upd H s.heap.objs.size (.own (s.heap.objs.size+1))) (s.heap.objs.size+1) (.ins C s.heap.objs.size []))
  { s with heap:=(s.heap.push W.emptyDict).push (W.instObj C s.heap.objs.size) }:=by
 have e1:(s.heap.push W.emptyDict).get? s.heap.objs.size=some W.emptyDict:=Heap.get?_push_size s.heap rfl
 have e2:((s.heap.push W.emptyDict).push (W.instObj C s.heap.objs.size)).get? (s.heap.objs.size+1)=some (W.instObj C s.heap.objs.size):=by
  have:=Heap.get?_push_size (s.heap.push W.emptyDict) (o:=W.instObj C s.heap.objs.size) rfl
  rwa [Heap.size_push] at this
 have e3:(s.heap.push W.emptyDict).Ns s.heap.objs.size (λ_=>none):=⟨W.emptyDict,#[],_,e1,rfl,(λe he=>absurd he (by simp)),λ_=>rfl⟩
 have I1:=I.laid (a:=s.heap.objs.size) (o:=.own (s.heap.objs.size+1)) (h':=s.heap.push W.emptyDict) (t':=s.toks) (λb u q=>Heap.get?_push_of_some _ q) (zC _) ⟨_,e1⟩;refine I1.laid (a:=s.heap.objs.size+1) (o:=.ins C s.heap.objs.size []) (t':=s.toks) (λb u q=>Heap.get?_push_of_some _ q) (Nat.le_of_eq (Heap.size_push _ _)) ?_;have ne:s.heap.objs.size≠s.heap.objs.size+1:=zM (Nat.lt_succ_self _);refine⟨by rw[Z4 ne,Y2],zK _,ne,e2,λ_=>none,(Heap.Ns1.of_empty e3).at λo q=>Heap.get?_push_of_some _ q,λ_=>True.intro,λy hy=>absurd rfl hy⟩
theorem zgU (hb:attributeBase e f env (eval e env)=eval e env)(h:wpAny (model prog w) A (eval e env) (λo s₁=>wpAny (model prog w) A (getAttr o f true) Q E s₁) E s):wpAny (model prog w) A (eval (.Attribute e f pos) env) Q E s:=
 Attribute_any_ h (by rw[arm_eval_Attribute,hb])
def tFld (K:Fg)(ta:TE)(f:Str):TE:=λσ H Q=>ta σ H λx H1=>∃a C dx fs v,x=.ref a/\H1 a=some (.ins C dx fs)/\Cls K C/\YJ K C f/\fs.lookup f=some v/\Q v H1
def sFld (K:Fg)(ta tv:TE)(f:Str):TS:=λD σ H=>tv σ H λy H1=>ta σ H1 λx H2=>∃a C dx fs,x=.ref a/\H2 a=some (.ins C dx fs)/\Cls K C/\YJ K C f/\fs.length<1000/\
 D.nx σ (upd H2 a (.ins C dx (YQ f y fs)))
theorem zaS (he:PE X e ta)(hb:attributeBase e f X.env (eval e X.env)=eval e X.env):PE X (.Attribute e f pos) (tFld X.K ta f):=by
 intro pins s σ H Q I h;refine zgU hb (thn (he pins s σ H _ I h) λu s1 ⟨x,H1,I1,rx,a,C,dx,fs,v,ex,ea,c,n,l,q⟩=>?_);subst ex;obtain rfl:u=Value.ref a:=rx;exact za4 I1 ea c n l λu' s2 I2 ru=>⟨v,H1,I2,ru,q⟩
theorem zax (ha:PE X o ta)(hv:PE X value tv)(hs:swapsWith value (some (.Attribute o f pos')) pos.line X.env=pure false):PS X (.Assign [.Attribute o f pos'] value pos) (sFld X.K ta tv f):=by
 intro pins s σ H D I h;refine plainObj_wpAny_Assign_Attribute (thn (hv pins s σ H _ I h) λu s1 ⟨y,H1,I1,ry,q⟩=>thn (ha pins s1 σ H1 _ I1 q) λov s2 ⟨x,H2,I2,rx,a,C,dx,fs,ex,ea,c,n,l,q2⟩=>?_) hs;subst ex;obtain rfl:ov=Value.ref a:=rx;exact zh1 I2 ea c n l ry λs3 I3=>⟨σ,_,I3,q2⟩
inductive Wr (K:Fg)(H:Hp):V->Value->Prop where
 | non:Wr K H .non (.type "NoneType")
 | bl (x:Bool):Wr K H (.bl x) (.type "bool")
 | int (i:Int):Wr K H (.int i) (.type "int")
 | str (x:Str):Wr K H (.str x) (.type "str")
 | flt (x:UInt64):Wr K H (.flt x) (.type "float")
 | lst {a:Addr} {xs:List V} (e:H a=some (.lst xs)):Wr K H (.ref a) (.type "list")
 | frz {a:Addr} {o:Obj} {xs:List V} (e:H a=some (.frz o (.lst xs))):Wr K H (.ref a) (.type "list")
 | tup {a:Addr} {xs:List V} (e:H a=some (.tup xs)):Wr K H (.ref a) (.type "tuple")
 | dK {a:Addr} {aV:List (Key×V)} (e:H a=some (.dK aV)):Wr K H (.ref a) (.type "dict")
 | dT {a:Addr} {aV:List (List Key×V)} (e:H a=some (.dT aV)):Wr K H (.ref a) (.type "dict")
 | ins {a C dx:Addr} {fs:List (Str×V)} (e:H a=some (.ins C dx fs)) (cl:Cls K C) (ha:W.findIn K (.ref C) "__class__"=some (some (.builtin "object.__class__")))
   (hn:W.specialIn K (.builtin "object.__class__") "__get__"=some (some (.builtin "getset_descriptor.__get__"))) (htk:W.takesIn K (.builtin "object.__class__")=some true)
   (hm:W.mroIn K C (.type "object")=some true):Wr K H (.ref a) (.ref C)
structure ZU (k:Nat)(A:Around):Prop where
 hd:A.handled=none
 dp:A.depth+3*k+5<recursionLimit
 un:A.units+16*k+200<cLine
theorem ZU.mono {j k:Nat}{A:Around}(r:ZU k A)(h:j<=k):ZU j A:=⟨r.hd,by have:=r.dp;omega,by have:=r.un;omega⟩
theorem ZU.deeper {k:Nat}{A:Around}(r:ZU (k+1) A)(env:Env):ZU k (A.deeper env):=
 ⟨r.hd,by have:=r.dp;show A.depth+1+3*k+5<_;omega,by have:=r.un;show A.units+3+16*k+200<_;omega⟩
theorem ZU.in1 {k:Nat}{A:Around}(r:ZU (k+1) A):ZU k A.in1:=
 ⟨r.hd,by have:=r.dp;show A.depth+3*k+5<_;omega,by have:=r.un;show A.units+1+16*k+200<_;omega⟩
theorem ze2 {A:Around}{C:Addr}{us:List Value}{kw:List (Str×Value)}:(A.under (.builtin "type.__call__" ⟨.ref C::us,kw⟩)).depth=A.depth+1:=by
 first|rfl|simp[Around.under,Code.weight,Code.isCreation,Code.isGuard,Code.isCaller,Code.frames,Code.isFrame,guardIds]
theorem zhO {A:Around}{C:Addr}{us:List Value}{kw:List (Str×Value)}:(A.under (.builtin "type.__call__" ⟨.ref C::us,kw⟩)).units=A.units+1:=by
 first|rfl|simp[Around.under,Code.cUnits,Code.frames,Code.isFrame]
theorem ZU.make {k:Nat}{A:Around}(r:ZU (k+1) A)(C:Addr)(us:List Value)(kw:List (Str×Value)):ZU k (A.under (.builtin "type.__call__" ⟨.ref C::us,kw⟩)):=
 ⟨r.hd,by have:=r.dp;rw[ze2];omega,by have:=r.un;rw[zhO];omega⟩
theorem ZU.depth {k:Nat}{A:Around}(r:ZU k A):A.depth<recursionLimit:=by have:=r.dp;omega
theorem ZU.units (r:ZU k A):A.units+64<cLine:=by have:=r.un;omega
def tNil:TA:=λ_ H Q=>Q [] H
def tCons (ta:TE)(tr:TA):TA:=λσ H Q=>ta σ H λx H1=>tr σ H1 λxs H2=>Q (x::xs) H2
theorem BH:PA X [] tNil:=λ_ _ _ _ H Q I h=>Calls.spliced_nil ⟨[],H,I,.nil,h⟩
theorem C3 (ha:PE X e te)(hr:PA X es t)(hs:starEach (e::es) X.env=(false,eval e X.env)::starEach es X.env:=by rfl):PA X (e::es) (tCons te t):=by
 intro pos pins s σ H Q I h;rw[hs];show wpAny _ _ (spliced ((false,eval e X.env)::backTo pos (starEach es X.env))) _ _ s;refine Calls.spliced_cons (thn (ha pins s σ H _ I h) λu s1 ⟨x,H1,I1,r1,q1⟩=>?_);exact thn (hr pos pins s1 σ H1 _ I1 q1) λus s2 ⟨xs,H2,I2,r2,q2⟩=>⟨x::xs,H2,I2,.cons r1 r2,q2⟩
def tTup (t:TA):TE:=λσ H Q=>t σ H λxs H1=>xs.length<=sizeLine/\∀p,H1 p=none->Q (.ref p) (upd H1 p (.tup xs))
def tLst (t:TA):TE:=λσ H Q=>t σ H λxs H1=>xs.length<=sizeLine/\∀p,H1 p=none->Q (.ref p) (upd H1 p (.lst xs))
theorem zbP {x1}(h:PA X es t):PE X (.Tuple es x1 pos) (tTup t):=by
 intro pins s σ H Q I hq;refine wpAny_Tuple_spliced (thn (h pos pins s σ H _ I hq) λus s1 ⟨xs,H1,I1,r,z,q⟩=>⟨by rw[<- r.length];exact z,?_⟩);have hf:H1 s1.heap.objs.size=none:=I1.hok.fresh (zC _);refine⟨.ref s1.heap.objs.size,upd H1 s1.heap.objs.size (.tup xs),I1.laid (t':=s1.toks) (λb u e=>Heap.get?_push_of_some _ e) (zC _) ?_,rfl,q _ hf⟩;exact⟨z,us,r,⟨_,Heap.get?_push_size _ rfl,rfl,_,rfl⟩⟩
theorem zgj (h:PA X es t):PE X (.List es pos) (tLst t):=by
 intro pins s σ H Q I hq;refine wpAny_List_spliced (thn (h pos pins s σ H _ I hq) λus s1 ⟨xs,H1,I1,r,z,q⟩=>⟨by rw[<- r.length];exact z,?_⟩);have hf:H1 s1.heap.objs.size=none:=I1.hok.fresh (zC _);refine⟨.ref s1.heap.objs.size,upd H1 s1.heap.objs.size (.lst xs),I1.laid (t':=s1.toks) (λb u e=>Heap.get?_push_of_some _ e) (zC _) ?_,rfl,q _ hf⟩;exact⟨z,us,0,r,Heap.get?_push_size _ rfl⟩
abbrev Sp:=List V->Hp->VK->XK->Prop
abbrev CXT:=List Env->Hp->Shared->XK->Value->Shared->Prop
structure Ul (P:Program)(w:World)(K:Fg)(mg:Str->Option Value)(base:Heap)(A:Around)(outer:List Env)(s:Shared)(H:Hp):Prop where
 frames:A.frames=some outer
 mod:Mod K mg base
 bs:∀b o,base.get? b=some o->s.heap.get? b=some o/\H b=none
 bsz:base.objs.size<=s.heap.objs.size
 funs:s.heap.FunFrames base outer
 frf:∀b∈frs outer,H b=none
 hok:HOk P w H s.heap
 bare:AllBare s.gens
def CE (outer:List Env)(P:Program)(w:World)(H:Hp)(s:Shared)(Q:VK)(u:Value)(s':Shared):Prop:=
 ∃v H',s'.os=s.os/\AllBare s'.gens/\Un (frs outer) [] H H' s.heap s'.heap/\HOk P w H' s'.heap/\ZK v u/\Q v H'
def CR (CX:CXT)(outer:List Env)(P:Program)(w:World)(H:Hp)(s:Shared)(Q:VK)(E:XK)(r:Result)(s':Shared):Prop:=
 match r with
 | .ok (.ret u)=>CE outer P w H s Q u s'
 | .ok _=>False
 | .error e=>CX outer H s E e s'
structure Yk (P:Program)(w:World)(K:Fg)(mg:Str->Option Value)(base:Heap)(CX:CXT)(k:Nat)(f:Addr)(fd:FuncData)(ps:List Str)(sp:Sp):Prop where
 len:∀vs H Q E,sp vs H Q E->vs.length=ps.length
 run:∀(A:Around)(outer:List Env)(s:Shared)(H:Hp)(args:Args)(us:List Value)(vs:List V)(Q:VK)(E:XK),ZU k A->Ul P w K mg base A outer s H->BindsTo s fd args (ps.zip us)->ZJ vs us->sp vs H Q E->
  codeAny (model P w) A (.call (.ref f) args) (CR CX outer P w H s Q E) s
theorem Yk.mono {P:Program}{w:World}{K:Fg}{mg:Str->Option Value}{base:Heap}{CX:CXT}{j k:Nat}{f:Addr}{fd:FuncData}{ps:List Str}{sp:Sp}(F:Yk P w K mg base CX j f fd ps sp)(h:j<=k):
  Yk P w K mg base CX k f fd ps sp:=⟨F.len,λA outer s H args us vs Q E hr=>F.run A outer s H args us vs Q E (hr.mono h)⟩
theorem Ul.make {P:Program}{w:World}{K:Fg}{mg:Str->Option Value}{base:Heap}{A:Around}{outer:List Env}{s:Shared}{H:Hp}(e:Ul P w K mg base A outer s H)(C:Addr)(us:List Value)(kw:List (Str×Value)):
  Ul P w K mg base (A.under (.builtin "type.__call__" ⟨.ref C::us,kw⟩)) outer s H:=⟨by first|exact e.frames|(simpa [Around.under,Code.envs,Code.isFrame,pushEnvs] using e.frames),e.mod,e.bs,e.bsz,e.funs,e.frf,e.hok,e.bare⟩
theorem Inv.env0 (I:Inv X pins σ H s):Ul X.prog X.w X.K X.mg X.base X.A X.stack s H:=
 ⟨I.ok.frames,I.ok.mod,I.bs,yD I.ok.bsz I.sz,I.stack,I.stkFree,I.hok,I.bare⟩
theorem Inv.after (I:Inv X pins σ H s)(h:CE X.stack X.prog X.w H s Q u s'):EP X pins σ Q u s':=by
 obtain⟨v,H',os,bare,un,hok,r,q⟩:=h;obtain⟨hh,g,d,t,os'⟩:=s';obtain rfl:os'=s.os:=os;exact⟨v,H',I.call (h':=hh) (g':=g) (d':=d) (t':=t) (ch:=[]) un hok bare (λb z=>absurd z (by simp)),r,q⟩
def tMake (C:Addr)(sp:Sp)(dvs:List V)(E:XK)(t:TA):TE:=λσ H Q=>t σ H λvs H1=>∀x dx,H1 x=none->H1 dx=none->dx≠x->
 sp (.ref x::(vs++dvs)) (upd (upd H1 dx (.own x)) x (.ins C dx [])) (λv H2=>v=.non/\Q (.ref x) H2) E
def YS (K:Fg)(fd:FuncData)(ps:List Str)(ds:List Value):Prop:=
 ∀(s:Shared)(us:List Value),K.In s.heap->(us++ds).length=ps.length->BindsTo s fd ⟨us,[]⟩ (ps.zip (us++ds))
theorem YS.all {K:Fg}{fd:FuncData}{ps:List Str}(h:∀us:List Value,us.length=ps.length->bindArgs fd ⟨us,[]⟩=pure (ps.zip us)):YS K fd ps []:=λs us _ hl=>by
 rw[xA] at hl ⊢;exact .of_eq (h us hl)
def O5 (CX:CXT)(X:Cx)(E:XK):Prop:=∀(pins:LA)(σ:St)(H:Hp)(s:Shared)(e:Value)(s':Shared),Inv X pins σ H s->CX X.stack H s E e s'->X.xe e s'
structure Mk (K:Fg)(C f:Addr):Prop where
 makes:W.makesIn K C=true
 init:W.findIn K (.ref C) "__init__"=some (some (.ref f))
 fn:W.isFn K (.ref f)=true
 kp:W.keepIn K (.ref C)=true
theorem zgY (M:Mk X.K C f)(F:Yk X.prog X.w X.K X.mg X.base CX k f fd ps sp)(hr:ZU (k+1) X.A)(hb:YS X.K fd ps ds)(hd:ZJ dvs ds)(hx:O5 CX X E)(I:Inv X pins σ H s)(r:ZJ vs us)(h:∀x dx,H x=none->H dx=none->dx≠x->sp (.ref x::(vs++dvs)) (upd (upd H dx (.own x)) x (.ins C dx [])) (λv H2=>v=.non/\Q (.ref x) H2) E):
  wpAny (model X.prog X.w) X.A (call (.ref C) us) (EP X pins σ Q) X.xe s:=by
 have hq:=h (s.heap.objs.size+1) s.heap.objs.size (I.hok.fresh (Nat.le_succ _)) (I.hok.fresh (zC _)) (zM (Nat.lt_succ_self _))
 have I2:=Inv.made (C:=C) I
 have r2:ZJ (V.ref (s.heap.objs.size+1)::(vs++dvs)) (Value.ref (s.heap.objs.size+1)::(us++ds)):=.cons rfl (r.append hd)
 have hl:(Value.ref (s.heap.objs.size+1)::us++ds).length=ps.length:=by
  have e:=r2.length;rw[F.len _ _ _ _ hq] at e;exact e.symm
 refine wpAny_call (zfh (f:=f) I.kIn M.makes M.init (beq_iff_eq.mp M.fn) (codeAny_mono (F.run _ X.stack _ _ ⟨Value.ref (s.heap.objs.size+1)::us,[]⟩ (Value.ref (s.heap.objs.size+1)::(us++ds)) _ _ E (hr.make C us [])
  (I2.env0.make C us []) (hb _ (Value.ref (s.heap.objs.size+1)::us) I2.kIn hl) r2 hq) λr s' hq'=>?_))
 cases r with
 | error e=>exact hx pins σ _ _ e s' I2 hq'
 | ok fl=>
  cases fl with
  | ret u=>
   obtain⟨v,H',I3,rv,ev,q3⟩:=I2.after hq';subst ev;exact⟨rv,⟨V.ref (s.heap.objs.size+1),H',I3,rfl,q3⟩⟩
  | next=>exact False.elim hq'
  | brk=>exact False.elim hq'
  | cont=>exact False.elim hq'
theorem zhW (M:Mk X.K C f)(F:Yk X.prog X.w X.K X.mg X.base CX k f fd ps sp)(hr:ZU (k+1) X.A)(hg:Gl X x)(hm:X.mg x=some (.ref C))(hb:YS X.K fd ps ds)(hd:ZJ dvs ds)(hx:O5 CX X E)
  (ha:PA X (e::es) t)(hdb:(x==("__debug__":Str))=false:=by decide)(he:starEach (e::es) X.env=(false,eval e X.env)::starEach es X.env:=by rfl)(hpl:(backTo pos (starEach es X.env)).any (·.1)=false:=by rfl):
  PE X (.Call (.Name x p) (e::es) [] pos) (tMake C sp dvs E t):=by
 intro pins s σ H Q I h;refine wpAny_Call_Name_kw (BB I hg hm ?_ hdb);refine W.callWith_K (h₀:=X.base) I.ok.mod.kin M.kp (thn (ha pos pins s σ H _ I h) λus s1 ⟨vs,H1,I1,r,q⟩=>⟨I1.kIn,?_⟩) he hpl;exact zgY M F hr hb hd hx I1 r q
section
structure KBinds (K:Fg)(fd:FuncData)(ps ks:List Str)(g:List Value->List Value->List Value)(gV:List V->List V->List V):Prop where
 to:∀(s:Shared)(us ws:List Value),K.In s.heap->(g us ws).length=ps.length->BindsTo s fd ⟨us,ks.zip ws⟩ (ps.zip (g us ws))
 aZ:∀ {vs:List V} {us:List Value} {zs:List V} {ws:List Value},ZJ vs us->ZJ zs ws->ZJ (gV vs zs) (g us ws)
variable {g:List Value->List Value->List Value}{gV:List V->List V->List V}
end
structure Zu (N P:List Str)(sc:Scope):Prop where
 kind:sc.kind=.function
 co:sc.isCoroutine=false
 gen:sc.isGenerator=false
 nd:N.Nodup
 pre:N.take P.length=P
 par:∀x∈P,sc.names.lookup x=some .local\/sc.names.lookup x=some .cell
 nofree:∀y∈sc.names,y.2≠.free
theorem De {kindOf:Str->Option NameKind}{x:Str}:∀ {binds:List (Str×Value)} {m:Str->Option Value},(∀v,(x,v) ∉ binds)->bindL kindOf binds m x=m x
 | [],_,_=>rfl
 | (n,v)::r,m,h=>by
  unfold bindL;rw[De λw hw=>h w (yH _ hw)];split
  ·have:x≠n:=by rintro rfl;exact h v yS
   simp[this]
  ·rfl
theorem Cr {kindOf:Str->Option NameKind}{x:Str}:∀ {binds:List (Str×Value)} {m:Str->Option Value},(∀v,(x,v) ∉ binds)->bindC kindOf binds m x=m x
 | [],_,_=>rfl
 | (n,v)::r,m,h=>by
  unfold bindC;rw[Cr λw hw=>h w (yH _ hw)];split
  ·rfl
  ·have:x≠n:=by rintro rfl;exact h v yS
   simp[this]
theorem Cn {kindOf:Str->Option NameKind}{x:Str}{v:Value}:∀ {P:List Str} {vs:List Value} {i:Nat} {m:Str->Option Value},P.Nodup->P[i]?=some x->vs[i]?=some v->kindOf x=some .local->
  bindL kindOf (P.zip vs) m x=some v
 | [],_,_,_,_,h,_,_=>by simp at h
 | _::_,[],_,_,_,_,h,_=>by simp at h
 | p::P,w::vs,0,m,nd,h1,h2,hk=>by
  simp at h1 h2;subst h1;subst h2
  show bindL kindOf ((p,w)::P.zip vs) m p=_;unfold bindL;rw[De λv hv=>(xB.mp nd).1 (List.of_mem_zip hv).1,if_pos hk];simp
 | p::P,w::vs,i+1,m,nd,h1,h2,hk=>by
  show bindL kindOf ((p,w)::P.zip vs) m x=_;unfold bindL;exact Cn (i:=i) (xB.mp nd).2 (by simpa using h1) (by simpa using h2) hk
theorem CQ {kindOf:Str->Option NameKind}{x:Str}{v:Value}:∀ {P:List Str} {vs:List Value} {i:Nat} {m:Str->Option Value},P.Nodup->P[i]?=some x->vs[i]?=some v->kindOf x≠some .local->
  bindC kindOf (P.zip vs) m x=some v
 | [],_,_,_,_,h,_,_=>by simp at h
 | _::_,[],_,_,_,_,h,_=>by simp at h
 | p::P,w::vs,0,m,nd,h1,h2,hk=>by
  simp at h1 h2;subst h1;subst h2
  show bindC kindOf ((p,w)::P.zip vs) m p=_;unfold bindC;rw[Cr λv hv=>(xB.mp nd).1 (List.of_mem_zip hv).1,if_neg hk];simp
 | p::P,w::vs,i+1,m,nd,h1,h2,hk=>by
  show bindC kindOf ((p,w)::P.zip vs) m x=_;unfold bindC;exact CQ (i:=i) (xB.mp nd).2 (by simpa using h1) (by simpa using h2) hk
def Wz (N:List Str)(vs:List V):St:=vs.map some++List.replicate (N.length-vs.length) none
def Wq (CX:CXT)(P:Program)(w:World)(K:Fg)(mg:Str->Option Value)(base:Heap)(N:List Str)(qual:Str)(scope:Scope)(f:Addr)(cd:Value)(A:Around)(outer:List Env)(s:Shared)(H:Hp)(E:XK):Cx where
 prog:=P
 w:=w
 K:=K
 mg:=mg
 base:=base
 A:=A.deeper (envOfC qual scope s.heap.objs.size f cd)
 N:=N
 s₀:=s
 H₀:=H
 env:=envOfC qual scope s.heap.objs.size f cd
 outer:=outer
 stack:=envOfC qual scope s.heap.objs.size f cd::outer
 ex:=[]
 calm:=true
 fn:=λ_=>true
 pn:=[]
 xe:=λe s'=>wpAny (model P w) (A.deeper (envOfC qual scope s.heap.objs.size f cd)) (leaving (envOfC qual scope s.heap.objs.size f cd) e) (λ_ s''=>CX outer H s E e s'') (λe' s''=>CX outer H s E e' s'') s'
theorem Bx {sc:Scope}{n:Nat}{x:Str}(h:sc.names.lookup x=some .cell):∃c,(cellsFrom n sc.names []).lookup x=some c:=by
 have q:=W.cellsFrom_some sc.names n [] (.inl h);exact yP.mp q
theorem zaN {CX:CXT}{P:Program}{w:World}{K:Fg}{mg:Str->Option Value}{base:Heap}{N ps:List Str}{qual:Str}{scope:Scope}{f:Addr}{cd:Value}{A:Around}{outer:List Env}{s s1:Shared}{H:Hp}{E:XK}{us:List Value}{vs:List V}
  (S:Zu N ps scope)(hd:A.handled=none)(e0:Ul P w K mg base A outer s H)(hl:vs.length=ps.length)(r:ZJ vs us)
  (x:InCallC s s.heap.objs.size (bindL (envOfC qual scope s.heap.objs.size f cd).kindOf (ps.zip us) λ_=>none) (cellsFrom (s.heap.objs.size+1) scope.names []) (bindC (envOfC qual scope s.heap.objs.size f cd).kindOf (ps.zip us) λ_=>none) s1):
  Inv (Wq CX P w K mg base N qual scope f cd A outer s H E) [] (Wz N vs) H s1:=by
 have hpl:ps.length<=N.length:=by have:=congrArg List.length S.pre;rw[zL] at this;omega
 obtain⟨h1,tk,rfl,hk⟩:=x.done;have noA:∀b:Addr,b ∉ (Wq CX P w K mg base N qual scope f cd A outer s H E).ex:=λb z=>absurd (show b∈([]:List Addr) from z) (by simp)
 refine⟨⟨e0.mod,S.kind,rfl,rfl,zC _,λy z c h1 h2=>?_,λy hy=>?_,λy c _ h=>?_,λ_=>hd,Around.frames_deeper e0.frames,.inr ⟨rfl,rfl⟩,λb z=>absurd z (noA b),e0.bs,e0.bsz,λb _ _=>noA b,λb z=>absurd z (noA b),e0.funs,e0.frf⟩,
  rfl,e0.bare,Un.kept hk,⟨_,x.toInCall.ns,λi y v h1 h2 h3=>?_⟩,λy c h=>⟨_,x.cell y c h⟩,e0.hok.fresh (zC _),λy c h=>?_,λp hp=>absurd (show p∈([]:LA) from hp) (by simp),e0.hok.kept hk,?_⟩
 ·exact name_of_addr x.apart (PySem.mem_of_lookup h1) (PySem.mem_of_lookup h2)
 ·have hy:scope.names.lookup y=some .cell\/scope.names.lookup y=some .free:=hy;rcases hy with hy|hy
  ·exact Bx hy
  ·exact absurd rfl (S.nofree _ (PySem.mem_of_lookup hy))
 ·exact yN (x.above y c (PySem.mem_of_lookup h))
 ·have hi:i<vs.length:=by
   unfold Wz at h2;by_cases hi:i<vs.length
   ·exact hi
   ·rw[yB (by simpa using hi)] at h2;rw[List.getElem?_replicate] at h2;split at h2<;>cases h2
  have ha:vs[i]?=some v:=by
   unfold Wz at h2;rw[zI (by simpa using hi),zE] at h2;cases e:vs[i]? with
   | none=>rw[e] at h2;cases h2
   | some a=>rw[e] at h2;cases h2;rfl
  obtain⟨u,hu,rv⟩:=r.get ha;have hp:ps[i]?=some y:=by
   rw[<- S.pre,List.getElem?_take_of_lt (by omega)];exact h1
  have ndP:ps.Nodup:=by rw[<- S.pre];exact S.nd.sublist (List.take_sublist _ _)
  refine⟨u,rv,?_⟩;rcases S.par y (zF hp) with k|k
  ·exact .inl ⟨k,Cn ndP hp hu k⟩
  ·obtain⟨c,e⟩:=Bx (n:=s.heap.objs.size+1) k;refine .inr ⟨.inl k,c,e,?_⟩;have q:=x.cell y c e;rw[CQ ndP hp hu (by show scope.names.lookup y≠_;rw[k];decide)] at q;exact q
 ·exact e0.hok.fresh (yN (x.above y c (PySem.mem_of_lookup h)))
 ·unfold Wz;show _=N.length;rw[zP,zB,List.length_replicate];omega
theorem F6 {CX:CXT}{P:Program}{w:World}{K:Fg}{mg:Str->Option Value}{base:Heap}{k:Nat}{f:Addr}{name qual:Str}{params:Arguments}{body:List Stmt}{scope:Scope}{dV kV doc pm cdv ct oc:Value}{an od:Option Addr}
  {osl:Array (Option Value)}{N ps:List Str}{sp:Sp}(lk:K.lookup f=some ⟨oc,od,.func (W.fnOf name qual params body scope dV kV doc pm an cdv ct),osl⟩)(hcd:W.codeIn K cdv qual=true)(S:Zu N ps scope)
  (len:∀vs H Q E,sp vs H Q E->vs.length=ps.length)
  (hbody:∀(A:Around)(outer:List Env)(s:Shared)(H:Hp)(vs:List V)(Q:VK)(E:XK),ZU k (A.deeper (envOfC qual scope s.heap.objs.size f cdv))->sp vs H Q E->
   ∃t,PSs (Wq CX P w K mg base N qual scope f cdv A outer s H E) body t/\t { nx:=λ_ H'=>Q .non H',rt:=Q } (Wz N vs) H):
  Yk P w K mg base CX (k+1) f (W.fnOf name qual params body scope dV kV doc pm an cdv ct) ps sp:=by
 refine⟨len,λA outer s H args us vs Q E hr e0 hb r hsp=>?_⟩;have hl:=len _ _ _ _ hsp
 have KX:K.In s.heap:=e0.mod.kin.keeps λb o e=>(e0.bs b o e).1
 have lim:s.heap.NoLimit:=e0.mod.nolimit.keeps λb o e=>(e0.bs b o e).1
 have hkind:∀y∈ps.zip us,scope.names.lookup y.1=some .local\/(scope.names.lookup y.1=some .cell/\((cellsFrom (s.heap.objs.size+1) scope.names []).lookup y.1).isSome=true):=λ⟨n,v⟩ hy=>by
  rcases S.par n (List.of_mem_zip hy).1 with q|q
  ·exact .inl q
  ·exact .inr ⟨q,W.cellsFrom_some _ _ _ (.inl q)⟩
 refine codeAny_call_function hr.depth (KX _ _ lk) rfl S.co S.gen rfl (W.codeRec_of KX hcd) (hb _ _ _ _ ?_);refine wpAny_newFunctionEnv_cells S.kind hkind λenv he s1 x=>?_
 subst he;refine⟨lim.keeps x.toInCall.keep,codeAny_func ?_⟩;obtain⟨t,ht,hq⟩:=hbody A outer s H vs Q E (hr.deeper _) hsp;have I:Inv (Wq CX P w K mg base N qual scope f cdv A outer s H E) [] (Wz N vs) H s1:=zaN S hr.hd e0 hl r x;refine wpAny_mono (ht [] s1 (Wz N vs) H _ I hq) (λfl s' hs=>?_) λe s' hs=>hs
 have aY:∀ {σ':St} {H':Hp} {v:V} {u:Value},Inv (Wq CX P w K mg base N qual scope f cdv A outer s H E) [] σ' H' s'->ZK v u->Q v H'->CE outer P w H s Q u s':=
  λ{σ' H' v u} J rv q=>⟨v,H',J.os,J.bare,J.base,J.hok,rv,q⟩
 cases fl with
 | ret u=>
  obtain⟨v,σ',H',J,rv,q⟩:=hs;exact aY J rv q
 | next=>
  obtain⟨σ',H',J,q⟩:=hs;exact aY (v:=V.non) (u:=Value.none) J rfl q
 | brk=>
  obtain⟨_,_,_,q⟩:=hs;exact False.elim q
 | cont=>
  obtain⟨_,_,_,q⟩:=hs;exact False.elim q
section
variable {X:Cx}{x:Str}{p pos:Pos}{e:Expr}{es:List Expr}{t:TA}{id T:String}{r:List V->Hp->VK->Prop}
def tCB (r:List V->Hp->VK->Prop)(t:TA):TE:=λσ H Q=>t σ H λvs H1=>r vs H1 Q
theorem zb0 (hc:YD X (.builtin id) r)(hg:Gl X x)(hm:X.mg x=none)(hv:bootBuiltins x=some (.builtin id))(ha:PA X (e::es) t)(hn:x≠"__name__":=by decide)(hdb:(x==("__debug__":Str))=false:=by decide)
  (he:starEach (e::es) X.env=(false,eval e X.env)::starEach es X.env:=by rfl)(hpl:(backTo pos (starEach es X.env)).any (·.1)=false:=by rfl):PE X (.Call (.Name x p) (e::es) [] pos) (tCB r t):=by
 intro pins s σ H Q I h;refine wpAny_Call_Name_kw (VN I hg hm hv ?_ hn hdb);exact PyProof.Rows.callWith_builtin1 (thn (ha pos pins s σ H _ I h) λus s1 ⟨vs,H1,I1,r1,q1⟩=>hc pins s1 σ H1 vs us Q I1 r1 q1) he hpl
theorem zhw (hc:YD X (.type T) r)(hg:Gl X x)(hm:X.mg x=none)(hv:bootBuiltins x=some (.type T))(ha:PA X (e::es) t)(hn:x≠"__name__":=by decide)(hdb:(x==("__debug__":Str))=false:=by decide)
  (he:starEach (e::es) X.env=(false,eval e X.env)::starEach es X.env:=by rfl)(hpl:(backTo pos (starEach es X.env)).any (·.1)=false:=by rfl):PE X (.Call (.Name x p) (e::es) [] pos) (tCB r t):=by
 intro pins s σ H Q I h;refine wpAny_Call_Name_kw (VN I hg hm hv ?_ hn hdb);exact PyProof.Rows.callWith_type1 (thn (ha pos pins s σ H _ I h) λus s1 ⟨vs,H1,I1,r1,q1⟩=>hc pins s1 σ H1 vs us Q I1 r1 q1) he hpl
end
end L2
namespace HT
open PySem PyProof.Rows
section
open PySem.SeqAt
open PySem.AutoSeq1 (wpAny_loadPart')
open PySem.MeetsSeq PySem.MeetsSeq2 PySem.MeetsSeq3
end
def sIx (n d:Nat):Option Int->Nat
 | none=>d
 | some v=>if v<0 then (v+(n:Int)).toNat else min v.toNat n
theorem sIx_none (n d:Nat):sIx n d none=d:=rfl
theorem sIx_nat (n d k:Nat):sIx n d (some (k:Int))=min k n:=by
 show (if (k:Int)<0 then ((k:Int)+(n:Int)).toNat else min (k:Int).toNat n)=min k n;rw[if_neg (by omega),zN]
end HT
namespace L2
open PySem PySem.Spec PyProof.Rows
abbrev TO:=St->Hp->(Option Int->Hp->Prop)->Prop
def PO (X:Cx)(e:Option Expr)(t:TO):Prop:=
 ∀(pins:LA)(s:Shared)(σ:St)(H:Hp)(Q:Option Int->Hp->Prop),Inv X pins σ H s->t σ H Q->
  wpAny (model X.prog X.w) X.A (evalPart e X.env) (λu s'=>∃o H',Inv X pins σ H' s'/\IsPart u o/\Q o H') X.xe s
def zde:TO:=λ_ H Q=>Q none H
def tPart (t:TE):TO:=λσ H Q=>t σ H λx H1=>∃i,x=.int i/\Q (some i) H1
theorem zdv:∀ {us:List Value},ZJ (ns.map V.int) us->IntsAre us ns:=by
 induction ns with
 | nil=>intro us r;rw[List.map_nil] at r;cases r;exact .nil
 | cons n ns ih=>
  intro us r;rw[yJ] at r;cases r with
  | cons r1 r2=>
   obtain⟨t,e⟩:=r1;subst e;exact .cons n t (ih r2)
section
variable {X:Cx}{e:Expr}{te:TE}{lo hi:Option Expr}{tl th:TO}{pos p2:Pos}
theorem zbZ:PO X none zde:=by
 intro pins s σ H Q I h;rw[evalPart_none];exact wpAny_pure ⟨none,H,I,.none,h⟩
theorem zeB (h:PE X e te):PO X (some e) (tPart te):=by
 intro pins s σ H Q I hw;rw[evalPart_some];refine thn (h pins s σ H _ I hw) λu s1 ⟨x,H1,I1,r1,q1⟩=>?_
 obtain⟨i,rfl,q⟩:=q1;obtain⟨t,rfl⟩:=r1;exact⟨some i,H1,I1,.int i t,q⟩
def SlR (X:Cx)(r:V->Option Int->Option Int->Hp->VK->Prop):Prop:=
 ∀(pins:LA)(s:Shared)(σ:St)(H:Hp)(x:V)(v vl vu:Value)(lo hi:Option Int)(sl:Addr)(Q:VK),Inv X pins σ H s->ZK x v->s.heap.IsSliceOf sl vl vu .none->IsPart vl lo->IsPart vu hi->r x lo hi H Q->
  ∃T id,typeLookup (.type T) "__getitem__"=pure (some (.builtin id))/\s.TypeIs v T/\wpAny (model X.prog X.w) X.A (getItem v (.ref sl)) (EP X pins σ Q) X.xe s
def tSl (r:V->Option Int->Option Int->Hp->VK->Prop)(te:TE)(tl th:TO):TE:=λσ H Q=>te σ H λx H1=>tl σ H1 λl H2=>th σ H2 λu H3=>r x l u H3 Q
theorem zb6 {r:V->Option Int->Option Int->Hp->VK->Prop}(hr:SlR X r)(he:PE X e te)(hl:PO X lo tl)(hu:PO X hi th):PE X (.Subscript e (.Slice lo hi none p2) pos) (tSl r te tl th):=by
 intro pins s σ H Q I h;refine Subscript_ (thn (he pins s σ H _ I h) λv s1 ⟨x,H1,I1,r1,q1⟩=>?_);refine wpAny_Slice (thn (hl pins s1 σ H1 _ I1 q1) λvl s2 ⟨l,H2,I2,pl,q2⟩=>thn (hu pins s2 σ H2 _ I2 q2) λvu s3 ⟨u,H3,I3,pu,q3⟩=>?_);rw[evalPart_none];refine wpAny_pure ?_;have I4:Inv X pins σ H3 { s3 with heap:=s3.heap.push { cls:=.type "slice",data:=.fields #[vl,vu,.none] } }:=I3.kept (t':=s3.toks) λb ob q=>Heap.get?_push_of_some _ q
 obtain⟨T,id,hT,ht,hg⟩:=hr pins { s3 with heap:=s3.heap.push { cls:=.type "slice",data:=.fields #[vl,vu,.none] } } σ H3 x v vl vu l u s3.heap.objs.size Q I4 r1 (Heap.IsSliceOf.new ..) pl pu q3;show wpAny (model X.prog X.w) X.A (subscriptTail e (.Slice lo hi none p2) v (.ref s3.heap.objs.size)) (EP X pins σ Q) X.xe { s3 with heap:=s3.heap.push { cls:=.type "slice",data:=.fields #[vl,vu,.none] } };exact tail_any (ops:=[.ref s3.heap.objs.size,v]) ht hT hg (by with_unfolding_all rfl)
def Ro (xs:List V)(lo hi:Option Int):List V:=(xs.drop (HT.sIx xs.length 0 lo)).take (HT.sIx xs.length xs.length hi-HT.sIx xs.length 0 lo)
theorem za1 (xs:List V)(lo hi:Option Int):(Ro xs lo hi).length<=xs.length:=by
 unfold Ro;rw[zL,List.length_drop];omega
end
def ixN (n:Nat)(i:Int):Option Nat:=if 0<=i then (if i<n then some i.toNat else none) else if -(n:Int)<=i then some (i+n).toNat else none
def atI {α:Type}(xs:List α)(i:Int):Option α:=(ixN xs.length i).bind λj=>xs[j]?
theorem Dc (h:ixN n i=some j):seqIndex? i n=some j/\j<n/\-(n:Int)<=i/\i<n:=by
 unfold ixN at h;by_cases h0:0<=i
 ·rw[if_pos h0] at h;by_cases h1:i<n
  ·rw[if_pos h1] at h;have e:i.toNat=j:=Option.some.inj h;exact⟨by rw[seqIndex_of h0 h1,e],by omega,by omega,h1⟩
  ·rw[if_neg h1] at h;cases h
 ·rw[if_neg h0] at h;by_cases h1:-(n:Int)<=i
  ·rw[if_pos h1] at h;have e:(i+n).toNat=j:=Option.some.inj h;exact⟨by rw[seqIndex_neg (by omega) h1,e],by omega,h1,by omega⟩
  ·rw[if_neg h1] at h;cases h
theorem Bo (h:atI xs i=some v):∃j,seqIndex? i xs.length=some j/\xs[j]?=some v/\j<xs.length/\-(xs.length:Int)<=i/\i<xs.length:=by
 unfold atI at h;cases e:ixN xs.length i with
 | none=>rw[e] at h;cases h
 | some j=>
  rw[e] at h;obtain⟨h1,h2,h3,h4⟩:=Dc e;exact⟨j,h1,h,h2,h3,h4⟩
theorem YF {α:Type}{xs:List α}{j:Nat}{v:α}(h:xs[j]?=some v):atI xs (j:Int)=some v:=by
 have hj:j<xs.length:=(zA.mp h).1
 have e:ixN xs.length (j:Int)=some j:=by
  unfold ixN;rw[if_pos (by omega),if_pos (by omega)];simp
 unfold atI;rw[e];exact h
def RZ (b:Expr):Prop:=∀o i,subscripted b false o i=operate [o,i] (getItem o i)
def IxR (X:Cx)(r:R2):Prop:=
 ∀(value slice:Expr)(pins:LA)(s:Shared)(σ:St)(H:Hp)(x y:V)(v u:Value)(Q:VK),Inv X pins σ H s->ZK x v->ZK y u->r x y H Q->
  subscripted slice false v u=operate [v,u] (getItem v u)->wpAny (model X.prog X.w) X.A (subscriptTail value slice v u) (EP X pins σ Q) X.xe s
def MtR (X:Cx)(id:String)(r:V->List V->Hp->VK->Prop):Prop:=
 ∀(pins:LA)(s:Shared)(σ:St)(H:Hp)(x:V)(xs:List V)(v:Value)(us:List Value)(Q:VK),Inv X pins σ H s->ZK x v->ZJ xs us->r x xs H Q->
  wpAny (model X.prog X.w) X.A (call (.builtin id) (v::us)) (EP X pins σ Q) X.xe s
section
variable {X:Cx}{a b:Expr}{ta tb:TE}{pos:Pos}
theorem pe_ix {r:R2}(hr:IxR X r)(ha:PE X a ta)(hb:PE X b tb)(hs:RZ b):PE X (.Subscript a b pos) (tOp r ta tb):=by
 intro pins s σ H Q I h;exact Subscript_ (binT ha hb I h λv u s2 x y H2 I2 rx ry q=>hr a b pins s2 σ H2 x y v u Q I2 rx ry q (hs _ _))
def rIxL (K:Fg):R2:=λx y H Q=>∃p xs i v,x=.ref p/\y=.int i/\SqL K H p xs/\atI xs i=some v/\Q v H
def rIxT (K:Fg):R2:=λx y H Q=>∃p xs i v,x=.ref p/\y=.int i/\SqT K H p xs/\atI xs i=some v/\Q v H
theorem zaA:IxR X (rIxL X.K):=by
 intro value slice pins s σ H x y v u Q I rx ry h hs;obtain⟨p,xs,i,z,rfl,rfl,hq,he,q⟩:=h;cases rx;obtain⟨t,rfl⟩:=ry;obtain⟨aX,r,pl,hz⟩:=I.list hq;obtain⟨j,h1,h2,h3,h4,h5⟩:=Bo he;obtain⟨w,ew,rw'⟩:=r.get h2;have hl:=r.length
 have hn:=QR
 have aY:EP X pins σ Q w s:=⟨z,H,I,rw',q⟩;by_cases h0:0<=i
 ·have hj:i.toNat=j:=by
   rw[seqIndex_of h0 h5] at h1;exact Option.some.inj h1
  exact item_listR pl.isList h0 (by omega) (by rw[hj];simpa using ew) aY hs
 ·have hj:(i+(aX.toArray.size:Int)).toNat=j:=by
   rw[seqIndex_neg (by omega) h4] at h1;rw[zH,<- hl];exact Option.some.inj h1
  exact subscriptTail_builtinR (x:=w) pl.isList.typeIs slot_list_getitem.lookup
   (wpAny_getItem_list_neg (Q:=λr s'=>r=w/\EP X pins σ Q r s') pl.isList (by omega) (by rw[zH]<;>omega) (by omega) (by rw[hj];simpa using ew) ⟨rfl,aY⟩) hs
theorem zcB:IxR X (rIxT X.K):=by
 intro value slice pins s σ H x y v u Q I rx ry h hs;obtain⟨p,xs,i,z,rfl,rfl,hq,he,q⟩:=h;cases rx;obtain⟨t,rfl⟩:=ry;obtain⟨aX,r,pl,hz⟩:=I.tuple hq;obtain⟨j,h1,h2,h3,h4,h5⟩:=Bo he;obtain⟨w,ew,rw'⟩:=r.get h2;have hl:=r.length
 have hn:=QR
 have aY:EP X pins σ Q w s:=⟨z,H,I,rw',q⟩;exact subscriptTail_builtinR (x:=w) pl.typeIs slot_tuple_getitem.lookup
  (getItem_tuple (j:=j) (Q:=λr s'=>r=w/\EP X pins σ Q r s') pl (by omega) (by omega) (by rw[zH,<- hl];exact h1) (by simpa using ew) ⟨rfl,aY⟩) hs
theorem zgZ (aX:List Value)(n j:Nat)(u:Value):Obj.mapSeq (·.setIfInBounds j u) { cls:=.type "list",data:=.seq aX.toArray n }={ cls:=.type "list",data:=.seq (aX.set j u).toArray n }:=by
 simp[Obj.mapSeq]
theorem Inv.lst {pins:LA}{σ:St}{H:Hp}{s:Shared}{p:Addr}{xs:List V}(I:Inv X pins σ H s)(h:H p=some (.lst xs)):
  ∃(aX:List Value)(n:Nat),ZJ xs aX/\s.heap.get? p=some { cls:=.type "list",data:=.seq aX.toArray n }/\xs.length<=sizeLine:=by
 obtain⟨z,aX,n,r,e⟩:=I.hok p _ h;exact⟨aX,n,r,e,z⟩
theorem Inv.lstUpd {pins:LA}{σ:St}{H:Hp}{s:Shared}{p:Addr}{xs ys:List V}{aX its':List Value}{n n':Nat}{f:Obj->Obj}(I:Inv X pins σ H s)(h:H p=some (.lst xs))
  (ho:s.heap.get? p=some { cls:=.type "list",data:=.seq aX.toArray n })(hf:f { cls:=.type "list",data:=.seq aX.toArray n }={ cls:=.type "list",data:=.seq its'.toArray n' })(r:ZJ ys its')(hz:ys.length<=sizeLine)(t:Nat):
  Inv X pins σ (upd H p (.lst ys)) { s with heap:=s.heap.update p f,toks:=t }:=by
 have e:(s.heap.update p f).get? p=some { cls:=.type "list",data:=.seq its'.toArray n' }:=by
  rw[Heap.get?_update_self f ho (by rw[hf]<;>rfl),hf]
 refine I.write (x:=p) (e:=p) (by rw[h];trivial) (.inl rfl) (λb u hb q=>(Heap.get?_update_other _ _ (Ne.symm hb)).trans q) ⟨_,e⟩ ?_;exact⟨hz,its',n',r,e⟩
def rSetL:V->V->V->Hp->(Hp->Prop)->Prop:=λo i v H Q=>∃p xs k j,o=.ref p/\i=.int k/\H p=some (.lst xs)/\ixN xs.length k=some j/\Q (upd H p (.lst (xs.set j v)))
theorem A9:PSet X rSetL:=by
 intro pins s σ H o i v ov iv u Q I ro ri rv h;obtain⟨p,xs,k,j,rfl,rfl,hp,hj,q⟩:=h;cases ro;obtain⟨t,rfl⟩:=ri;obtain⟨aX,n,r,ho,hz⟩:=I.lst hp;obtain⟨h1,h2,h3,h4⟩:=Dc hj;have hl:=r.length
 have hn:=QR
 have I':Inv X pins σ (upd H p (.lst (xs.set j v))) { s with heap:=s.heap.update p (Obj.mapSeq (·.setIfInBounds j u)) }:=
  I.lstUpd hp ho (zgZ aX n j u) (r.set rv j) (by rw[yC];exact hz) s.toks
 by_cases h0:0<=k
 ·have hk:k.toNat=j:=by
   rw[seqIndex_of h0 h4] at h1;exact Option.some.inj h1
  exact W.ki_setAt ho h0 (by omega) (by rw[zH,<- hl];exact h4) (by rw[hk];exact⟨_,I',q⟩)
 ·have hk:(k+(aX.toArray.size:Int)).toNat=j:=by
   rw[seqIndex_neg (by omega) h3] at h1;rw[zH,<- hl];exact Option.some.inj h1
  exact W.ki_setBack ho (by omega) (by rw[zH,<- hl];exact h3) (by omega) (by rw[hk];exact⟨_,I',q⟩)
theorem zeb (lo hi:Option Int)(n:Nat):(sliceBounds lo hi none n).1=((HT.sIx n 0 lo:Nat):Int)/\(sliceBounds lo hi none n).2.1=((HT.sIx n n hi:Nat):Int)/\(sliceBounds lo hi none n).2.2=1:=by
 refine⟨?_,?_,rfl⟩
 ·cases lo with
  | none=>simp[sliceBounds,HT.sIx]
  | some i=>
   simp only[sliceBounds,HT.sIx,Option.getD_none,show (1:Int) > 0 by decide,if_true];by_cases h:i<0
   ·simp only[h,if_true]<;>omega
   ·simp only[h,if_false]<;>omega
 ·cases hi with
  | none=>simp[sliceBounds,HT.sIx]
  | some i=>
   simp only[sliceBounds,HT.sIx,Option.getD_none,show (1:Int) > 0 by decide,if_true];by_cases h:i<0
   ·simp only[h,if_true]<;>omega
   ·simp only[h,if_false]<;>omega
theorem zeV (aX:List Value)(lo hi:Option Int):slicePick aX.toArray lo hi none=((aX.drop (HT.sIx aX.length 0 lo)).take (HT.sIx aX.length aX.length hi-HT.sIx aX.length 0 lo)).toArray:=by
 obtain⟨h1,h2,h3⟩:=zeb lo hi aX.toArray.size;unfold slicePick;rw[h1,h2,h3];simp only[sliceRange_one,pick_run,zH]<;>rfl
def rSlL (K:Fg):V->Option Int->Option Int->Hp->VK->Prop:=λx lo hi H Q=>∃a xs,x=.ref a/\SqL K H a xs/\∀p,H p=none->Q (.ref p) (upd H p (.lst (Ro xs lo hi)))
theorem zgx:SlR X (rSlL X.K):=by
 intro pins s σ H x v vl vu lo hi sl Q I rx hs pl pu h;obtain⟨a,xs,rfl,hx,q⟩:=h;cases rx;obtain⟨aX,r,ht,hz⟩:=I.list hx;have aM:=r.length;refine⟨"list",_,slot_list_getitem.lookup,ht.isList.typeIs,?_⟩;refine wpAny_getItem_list_slice ht.isList hs pl pu .none (by simp) ?_ (by rw[zH]<;>omega);rw[zeV,<- aM];refine⟨.ref s.heap.objs.size,_,I.laid (t':=s.toks) (o:=.lst (Ro xs lo hi)) (λb ob q=>Heap.get?_push_of_some _ q) (zC _) ?_,rfl,q _ (I.hok.fresh (zC _))⟩;exact⟨yD (za1 xs lo hi) hz,_,0,(r.drop (HT.sIx xs.length 0 lo)).take (HT.sIx xs.length xs.length hi-HT.sIx xs.length 0 lo),Heap.get?_push_size _ rfl⟩
def Li:V->Bool
 | .non=>true
 | .bl _=>true
 | .int _=>true
 | .str _=>true
 | _=>false
def eqV:V->V->Bool
 | .non,.non=>true
 | .bl a,.bl b=>a==b
 | .bl a,.int b=>(if a then 1 else 0)==b
 | .int a,.bl b=>a==(if b then 1 else 0)
 | .int a,.int b=>a==b
 | .str a,.str b=>a==b
 | _,_=>false
theorem zan (ry:ZK y u)(rx:ZK x v)(fy:Li y=true)(fx:Li x=true):SeqAt.EqAt A s u v (eqV y x):=by
 cases y with
 | non=>
  cases ry;cases x with
  | non=>cases rx;exact SeqAt.EqAt.same _
  | bl b=>cases rx;exact SeqAt.EqAt.none_bool b
  | int b=>obtain⟨t,rfl⟩:=rx;exact SeqAt.EqAt.none_int b t
  | str b=>obtain⟨t,rfl⟩:=rx;exact SeqAt.EqAt.none_str b t
  | _=>exact absurd (show false=true from fx) zJ
 | bl a=>
  cases ry;cases x with
  | non=>cases rx;exact SeqAt.EqAt.bool_none a
  | bl b=>cases rx;exact SeqAt.EqAt.bool_bool a b
  | int b=>obtain⟨t,rfl⟩:=rx;exact SeqAt.EqAt.bool_int a b t
  | str b=>obtain⟨t,rfl⟩:=rx;exact SeqAt.EqAt.bool_str a b t
  | _=>exact absurd (show false=true from fx) zJ
 | int a=>
  obtain⟨t',rfl⟩:=ry;cases x with
  | non=>cases rx;exact SeqAt.EqAt.int_none a t'
  | bl b=>cases rx;exact SeqAt.EqAt.int_bool a t' b
  | int b=>obtain⟨t,rfl⟩:=rx;exact SeqAt.EqAt.int_int a t' b t
  | str b=>obtain⟨t,rfl⟩:=rx;exact SeqAt.EqAt.int_str a t' b t
  | _=>exact absurd (show false=true from fx) zJ
 | str a=>
  obtain⟨t',rfl⟩:=ry;cases x with
  | non=>cases rx;exact SeqAt.EqAt.str_none a t'
  | bl b=>cases rx;exact SeqAt.EqAt.str_bool a t' b
  | int b=>obtain⟨t,rfl⟩:=rx;exact SeqAt.EqAt.str_int a t' b t
  | str b=>obtain⟨t,rfl⟩:=rx;exact SeqAt.EqAt.str_str a t' b t
  | _=>exact absurd (show false=true from fx) zJ
 | _=>exact absurd (show false=true from fy) zJ
theorem zb8:YD X (.builtin "len") (λxs H Q=>∃p ys,xs=[.ref p]/\(SqL X.K H p ys\/SqT X.K H p ys)/\Q (.int ys.length) H):=by
 intro pins s σ H xs us Q I r h;obtain⟨p,ys,rfl,hq,q⟩:=h;obtain⟨u,rfl,rx⟩:=Vq r;cases rx;have hn:=QR;rcases hq with hq|hq
 ·obtain⟨aX,r',pl,hz⟩:=I.list hq;have aM:=r'.length;exact Calls.call_len_list pl.isList (by simp only[zH]<;>omega) ⟨.int ys.length,H,I.tok _,⟨s.toks+1,by rw[zH,aM]⟩,q⟩
 ·obtain⟨aX,r',pl,hz⟩:=I.tuple hq;have aM:=r'.length;exact len_tuple pl (by simp only[zH]<;>omega) ⟨.int ys.length,H,I.tok _,⟨s.toks+1,by rw[zH,aM]⟩,q⟩
theorem zaI:YD X (.type "list") (λxs H Q=>∃p ys,xs=[.ref p]/\(SqL X.K H p ys\/SqT X.K H p ys)/\∀l,H l=none->Q (.ref l) (upd H l (.lst ys))):=by
 intro pins s σ H xs us Q I r h;obtain⟨p,ys,rfl,hq,q⟩:=h;obtain⟨u,rfl,rx⟩:=Vq r;cases rx;have aY:∀(aX:List Value),ZJ ys aX->ys.length<=sizeLine->∀(h':Heap)(c':Nat),(∀b o',s.heap.get? b=some o'->h'.get? b=some o')->
   h'.get? s.heap.objs.size=some { cls:=.type "list",dict:=none,data:=.seq aX.toArray c',slots:=#[] }->EP X pins σ Q (.ref s.heap.objs.size) { s with heap:=h' }:=λaX r' hz h' c' kp e=>
  ⟨.ref s.heap.objs.size,_,I.laid (t':=s.toks) kp (zC _) (show XE X.prog X.w _ h' _ (.lst ys) from ⟨hz,aX,c',r',e⟩),rfl,q _ (I.hok.fresh (zC _))⟩
 rcases hq with hq|hq
 ·obtain⟨aX,r',pl,hz⟩:=I.list hq;have aM:=r'.length;obtain⟨o,ho,hc,n,hd⟩:=pl.isList;exact call_list_seq p (.inl rfl) ho hc hd (λh' c' kp e=>aY aX r' hz h' c' kp e) (by simp only[zH]<;>omega)
 ·obtain⟨aX,r',pl,hz⟩:=I.tuple hq;have aM:=r'.length;obtain⟨o,ho,hc,n,hd⟩:=pl;exact call_list_seq p (.inr rfl) ho hc hd (λh' c' kp e=>aY aX r' hz h' c' kp e) (by simp only[zH]<;>omega)
def tyV (K:Fg)(T:String)(x:V)(H:Hp):Prop:=match x with
 | .str _=>T="str"
 | .int _=>T="int"
 | .ref p=>(T="list"/\∃xs,SqL K H p xs)\/(T="tuple"/\∃o,K.lookup p=some o/\o.cls=.type "tuple"/\o.dict=none)\/
   (T="dict"/\((∃aV,H p=some (.dK aV))\/∃aV,H p=some (.dT aV)))\/(T="set"/\∃S n,H p=some (.set S n))
 | _=>False
theorem BQ (I:Inv X pins σ H s)(r:ZK x v)(ty:tyV X.K T x H):
  s.TypeIs v T/\∀a,v=.ref a->∃ob,s.heap.get? a=some ob/\ob.dict=none:=by
 cases x with
 | str z=>
  obtain⟨t,rfl⟩:=r;cases (show T="str" from ty);exact⟨typeIs_str s z t,λ_ e=>nomatch e⟩
 | int i=>
  obtain⟨t,rfl⟩:=r;cases (show T="int" from ty);exact⟨typeIs_int s i t,λ_ e=>nomatch e⟩
 | ref p=>
  cases r;rcases ty with ⟨rfl,xs,hq⟩|⟨rfl,o,hk,hc,hd⟩|⟨rfl,hk⟩|⟨rfl,S,n,hk⟩
  ·obtain⟨aX,_,pl,_⟩:=I.list hq;refine⟨pl.isList.typeIs,λa e=>?_⟩;cases e;obtain⟨o,n,e,c,hd,_⟩:=pl;exact⟨o,e,hd⟩
  ·refine⟨⟨o,I.kIn p o hk,hc⟩,λa e=>?_⟩;cases e;exact⟨o,I.kIn _ o hk,hd⟩
  ·have z:∃o,s.heap.get? p=some o/\o.ExactDict:=by
    rcases hk with ⟨aV,hk⟩|⟨aV,hk⟩
    ·obtain⟨_,_,_,_,o,_,_,e,ex,_⟩:=I.hok p _ hk;exact⟨o,e,ex⟩
    ·obtain⟨_,_,_,_,o,_,_,e,ex,_⟩:=I.hok p _ hk;exact⟨o,e,ex⟩
   obtain⟨o,e,ex⟩:=z;refine⟨⟨o,e,ex.1⟩,λa e2=>?_⟩;cases e2;exact⟨o,e,ex.2.1⟩
  ·obtain⟨o,_,_,_,e,ex,_⟩:=I.hok p _ hk;refine⟨⟨o,e,ex.1⟩,λa e2=>?_⟩;cases e2;exact⟨o,e,ex.2.1⟩
 | _=>exact False.elim ty
def tBM0 (K:Fg)(T:String)(r:V->List V->Hp->VK->Prop)(to:TE):TE:=λσ H Q=>to σ H λx H1=>tyV K T x H1/\r x [] H1 Q
def tBM (K:Fg)(T:String)(r:V->List V->Hp->VK->Prop)(to:TE)(t:TA):TE:=λσ H Q=>to σ H λx H1=>tyV K T x H1/\t σ H1 λxs H2=>r x xs H2 Q
variable {o e:Expr}{es:List Expr}{to:TE}{t:TA}{name:Str}{aJ aH:Pos}{T id:String}{r:V->List V->Hp->VK->Prop}
theorem zhi (pa:PlainAttrs T)(slot:Slot T name id)(hty:typeOf (.builtin id)=pure (.type "method_descriptor"))(hm:MtR X id r)(ho:PE X o to)
  (hbase:attributeBase o name X.env (eval o X.env)=eval o X.env:=by rfl)(hline:(aJ.endLine==aH.line)=true:=by rfl):PE X (.Call (.Attribute o name aJ) [] [] aH) (tBM0 X.K T r to):=by
 intro pins s σ H Q I h;refine wpAny_Call_method0_late hbase hline (thn (ho pins s σ H _ I h) λv s1 ⟨x,H1,I1,r1,ty,q1⟩=>?_);obtain⟨h1,h2⟩:=BQ I1 r1 ty;exact⟨T,id,pa,slot,hty,h1,h2,Calls.callWith_builtin rfl (PySem.evalArgs_none (hm pins s1 σ H1 x [] v [] Q I1 r1 .nil q1))⟩
theorem Bj (pa:PlainAttrs T)(slot:Slot T name id)(hty:typeOf (.builtin id)=pure (.type "method_descriptor"))(hm:MtR X id r)(ho:PE X o to)(ha:PA X (e::es) t)
  (hbase:attributeBase o name X.env (eval o X.env)=eval o X.env:=by rfl)
  (hfew:((backTo aH (starEach (e::es) X.env)).all (λx=>!x.1)&&(backToKw aH (keywordEach [] X.env)).all (λx=>x.1.isSome)
  &&decide ((e::es).length+([]:List Keyword).length+(if ([]:List Keyword).isEmpty then 0 else 1)<30))=true:=by rfl)
  (hline:(aJ.endLine==aH.line)=true:=by rfl)(hs:starEach (e::es) X.env=(false,eval e X.env)::starEach es X.env:=by rfl)(hplain:(backTo aH (starEach es X.env)).any (·.1)=false:=by rfl):
  PE X (.Call (.Attribute o name aJ) (e::es) [] aH) (tBM X.K T r to t):=by
 intro pins s σ H Q I h;refine wpAny_Call_method_late hbase hfew hline rfl (thn (ho pins s σ H _ I h) λv s1 ⟨x,H1,I1,r1,ty,q1⟩=>?_);obtain⟨h1,h2⟩:=BQ I1 r1 ty;refine⟨T,id,pa,slot,hty,h1,h2,?_⟩;have hA:=ha aH pins s1 σ H1 _ I1 q1;rw[hs] at hA ⊢;refine Calls.callWith_builtin (by show (false||(backTo aH (starEach es X.env)).any (·.1))=false;rw[hplain]<;>rfl) (Calls.evalArgs_plain ?_);exact thn hA λus s2 ⟨vs,H2,I2,r2,q2⟩=>hm pins s2 σ H2 x vs v us Q I2 r1 r2 q2
end
def MtM (X:Cx)(id:String)(r:V->List V->Hp->VK->Prop):Prop:=
 ∀(pins:LA)(s:Shared)(σ:St)(H:Hp)(x:V)(xs:List V)(v:Value)(us:List Value)(Q:VK),Inv X pins σ H s->ZK x v->ZJ xs us->r x xs H Q->
  wpAny (model X.prog X.w) X.A (call (.builtin id) (v::us)) (EP X pins σ Q) X.xe s
theorem ZJ.one:∀ {x:V} {us:List Value},ZJ [x] us->∃u,us=[u]/\ZK x u
 | _,_,.cons r .nil=>⟨_,rfl,r⟩
theorem ZJ.rep (h:ZJ xs us):∀k:Nat,ZJ (List.replicate k xs).flatten (List.replicate k us).flatten
 | 0=>.nil
 | k+1=>by
  rw[yW,yW,xC,xC];exact ZJ.append h (ZJ.rep h k)
theorem ES (aX:List Value):∀(k:Nat)(acc:List Value),
  List.foldl (λx1 x2=>x1++x2) acc.toArray (List.replicate k aX.toArray)=(acc++(List.replicate k aX).flatten).toArray
 | 0,acc=>by simp
 | k+1,acc=>by
  have e:acc.toArray++aX.toArray=(acc++aX).toArray:=by simp
  have e2:(acc++aX)++(List.replicate k aX).flatten=acc++(List.replicate (k+1) aX).flatten:=by
   rw[yW,xC,yT]
  rw[<- e2,<- ES aX k (acc++aX),<- e,yW,List.foldl_cons]
theorem Inv.lset {aX its':List Value}{n:Nat}{f:Array Value->Array Value}{t':Nat}(I:Inv X pins σ H s)(hH:H l=some (.lst xs))
  (e:s.heap.get? l=some { cls:=.type "list",data:=.seq aX.toArray n })(hf:f aX.toArray=its'.toArray)(hv:ZJ ys its')(hz:ys.length<=sizeLine):
  Inv X pins σ (upd H l (.lst ys)) { s with heap:=s.heap.update l (Obj.mapSeq f),toks:=t' }:=by
 have q:=PySem.IsL.update e f;rw[hf] at q;refine I.write (x:=l) (e:=l) (by rw[hH];exact trivial) (.inl rfl) (λb' u hb hu=>(Heap.get?_update_other s.heap (Obj.mapSeq f) (Ne.symm hb)).trans hu) ⟨_,q⟩ ?_;exact⟨hz,its',_,hv,q⟩
theorem Inv.lnew (I:Inv X pins σ H s)(hv:ZJ ys aX)(hz:ys.length<=sizeLine):
  Inv X pins σ (upd H s.heap.objs.size (.lst ys)) { s with heap:=s.heap.push { cls:=.type "list",data:=.seq aX.toArray },toks:=t' }:=
 I.laid (λ_ _ q=>Heap.get?_push_of_some _ q) (zC _) ⟨hz,aX,0,hv,Heap.get?_push_size _ rfl⟩
theorem Inv.fresh (I:Inv X pins σ H s):H s.heap.objs.size=none:=I.hok.fresh (zC _)
theorem Inv.lstM (I:Inv X pins σ H s)(hH:H l=some (.lst xs)):xs.length<=sizeLine/\∃(aX:List Value)(n:Nat),ZJ xs aX/\xs.length=aX.length/\s.heap.get? l=some { cls:=.type "list",data:=.seq aX.toArray n }:=by
 obtain⟨z,aX,n,r,e⟩:=I.hok l _ hH;exact⟨z,aX,n,r,r.length,e⟩
theorem zfu {n:Nat}(h:n<=sizeLine):Builtin.List.listTooLong n=false:=by
 unfold Builtin.List.listTooLong;exact decide_eq_false (by omega)
def zay:V->List V->Hp->VK->Prop:=λx vs H Q=>∃l xs y,x=.ref l/\vs=[y]/\H l=some (.lst xs)/\xs.length<sizeLine/\Q .non (upd H l (.lst (xs++[y])))
theorem Eu:MtM X "list.append" zay:=by
 intro pins s σ H x vs v us Q I rx rv h;obtain⟨l,xs,y,rfl,rfl,hH,hz,q⟩:=h;cases rx;obtain⟨u,rfl,ru⟩:=rv.one;obtain⟨z,aX,n,r,hl,e⟩:=I.lstM hH;refine call_meets F.slot_list_append ⟨_,e,rfl⟩ F.entry_list_append (F.args_list_append_2 _ _) (PySem.list_append l aX.toArray n u (by rw[zH];omega)) ⟨e,?_⟩;refine⟨.non,_,I.lset (its':=aX++[u]) hH e (by simp) (r.append (.cons ru .nil)) ?_,rfl,q⟩;rw[zP,List.length_singleton];omega
def rCat:R2:=λx y H Q=>∃l b xs zs,x=.ref l/\y=.ref b/\H l=some (.lst xs)/\H b=some (.lst zs)/\xs.length+zs.length<=sizeLine/\∀p,H p=none->Q (.ref p) (upd H p (.lst (xs++zs)))
theorem zig:OpR X (binaryOp .Add) rCat:=by
 intro pins s σ H x y v u Q I rx ry h;obtain⟨l,b,xs,zs,rfl,rfl,hH,hB,hz,q⟩:=h;cases rx;cases ry;obtain⟨z,aX,n,r,hl,e⟩:=I.lstM hH;obtain⟨z2,its2,n2,r2,hl2,e2⟩:=I.lstM hB;refine PySem.P.add_list e e2 ?_ (by rw[zH,zH];omega);have ea:aX.toArray++its2.toArray=(aX++its2).toArray:=by simp
 rw[ea];exact⟨.ref _,_,I.lnew (t':=s.toks) (r.append r2) (by rw[zP];omega),rfl,q _ I.fresh⟩
def rRep:R2:=λx y H Q=>∃l k xs,x=.ref l/\y=.int k/\H l=some (.lst xs)/\-(2^63)<=k/\k<2^63/\xs.length*k.toNat<=sizeLine/\
 ∀p,H p=none->Q (.ref p) (upd H p (.lst (List.replicate k.toNat xs).flatten))
theorem zdh (xs:List α)(k:Nat):(List.replicate k xs).flatten.length=k*xs.length:=by
 induction k with
 | zero=>simp
 | succ k ih=>rw[yW,xC,zP,ih,Nat.succ_mul,Nat.add_comm]
theorem zaU:OpR X (binaryOp .Mult) rRep:=by
 intro pins s σ H x y v u Q I rx ry h;obtain⟨l,k,xs,rfl,rfl,hH,h1,h2,hz,q⟩:=h;cases rx;obtain⟨t,rfl⟩:=ry;obtain⟨z,aX,n,r,hl,e⟩:=I.lstM hH;have aM:aX.toArray.size*k.toNat<=sizeLine:=by rw[zH,<- hl];exact hz
 have hcap:¬ aX.toArray.size*k.toNat > (2^63-1)/8:=by
  have:(sizeLine:Nat)<=(2^63-1)/8:=by decide
  omega
 have hfit:¬ (!Builtin.List.listFitsIndex k)=true:=by
  rw[fitsIndex_both h1 h2];exact zJ
 have hlong:¬ Builtin.List.listTooLong (aX.toArray.size*k.toNat)=true:=by
  rw[zfu aM];exact zJ
 have hnew:List.foldl (λx1 x2=>x1++x2) #[] (List.replicate (if aX.toArray.isEmpty=true then 0 else k.toNat) aX.toArray)=(List.replicate k.toNat aX).flatten.toArray:=by
  have f0:∀m:Nat,List.foldl (λx1 x2=>x1++x2) #[] (List.replicate m aX.toArray)=(List.replicate m aX).flatten.toArray:=λm=>by
   have:=ES aX m [];rw[List.nil_append] at this;exact this
  rw[f0];cases aX with
  | nil=>simp
  | cons a r'=>rw[if_neg (by simp)]
 refine wpAny_binaryOp_repeat_ref (T:="list") (U:="int") (by decide) ⟨_,e,rfl⟩ (λs'=>typeIs_int s' k t) noFill_list_mul F.fills_int_mul F.slot_int_rmul repeat_list F.slot_int_index.lookup
  (call_meets F.slot_int_rmul (typeIs_int s k t) F.entry_int_rmul (F.args_int_rmul_2 _ _) (int___rmul___int_list k t l aX.toArray n)
   ⟨e,rfl,⟨_,e,rfl⟩,call_meets F.slot_list_mul ⟨_,e,rfl⟩ F.entry_list_mul (F.args_list_mul_2 _ _) (AutoListH.list___mul___list_int_3 l aX.toArray n k t hfit hcap hlong) ⟨e,?_⟩⟩)
 rw[hnew];exact⟨.ref _,_,I.lnew (t':=s.toks) (r.rep k.toNat) (by rw[zdh,Nat.mul_comm];exact hz),rfl,q _ I.fresh⟩
section
variable {prog:Program}{w:World}{A:Around}{E:Value->Shared->Prop}{s:Shared}
set_option maxRecDepth 100000 in
end
section
variable {X:Cx}
end
end L2
namespace Att
open PySem PySem.W PySem.Calls PyProof.Rows
theorem zbq {P:Params}{h:Heap}:∀(ns:List Int)(vs:List Value),WellAll P h vs (ns.map WData.int)->IntsAre vs ns:=by
 intro ns
 induction ns with
 | nil=>
  intro vs w;rw[List.map_nil] at w;cases w;exact .nil
 | cons n ns ih=>
  intro vs w;rw[yJ] at w;cases w with
  | cons a b=>
   cases a;exact .cons _ _ (ih _ b)
theorem zeO {l:OpenLaw}{n:Nat}(hn:l.most=some n){P:Params}{h:Heap}{args:List WData}{vals:List Value}
  (hpre:l.row.toRowW.claim.pre args=true)(hwl:WellAll P h vals args):
  ∃a vs ns,vals=[Value.ref a]/\args=[WData.list (ns.map WData.int)]/\h.get? a=some { cls:=.type "list",data:=.seq vs.toArray }/\IntsAre vs ns/\ns.length<=n:=by
 have hsh:WShape.hasAll [] args [.list .int]=true:=(pre_splitW hpre).1
 have hc:l.pre.holds [] { args:=args }=true:=(pre_splitW hpre).2;obtain⟨d,r,rfl,h1,h2⟩:=hasAllW_cons hsh;obtain rfl:=hasAllW_nil h2;obtain⟨xs,rfl,h3⟩:=hasW_list h1;obtain⟨ns,rfl⟩:=items_int h3;have aM:ns.length<=n:=by
  unfold OpenLaw.pre at hc;have h4:(WTm.not (.lt (.lit (.int (n:Int))) (.len (.arg 0)))).holds [] { args:=[.list (ns.map .int)] }=true:=by
   have h4:=(holds_andW hc).1;rw[hn] at h4;exact h4
  have h5:=condW_of h4 (w_not (w_lt w_lit (w_len_list (w_arg rfl))));rw[zB] at h5;refine Nat.le_of_not_lt λq=>?_
  have q':(n:Int)<((ns.length:Nat):Int):=by omega
  first
   | (rw[decide_eq_true q'] at h5;exact absurd h5 (by decide))
   | (simp at h5;omega)
 cases hwl with
 | cons w1 w2=>
  cases w2;cases w1 with
  | list ho hall=>exact⟨_,_,ns,rfl,rfl,ho,zbq ns _ hall,aM⟩
theorem zaV (l:OpenLaw)(args:List WData):l.row.toRowW.claim.post args (.bool true) args=true:=
 postW_of (r:=l.row.toRowW) (X:=(true==true))
  (show WShape.has [] (.bool true) .bool=true by first|rfl|decide|simp[WShape.has,WShape.arms,WShape.armsAll])
  (show (WTm.eq .res (.lit (.bool true))).value [] { args:=args,res:=some (.bool true),after:=args }=some (.bool (true==true)) from w_eq_bool (w_res rfl) w_lit) rfl
theorem attach_call {l:OpenLaw}{n:Nat}{q:Program}{aG:List Str}{XP:(Str->Option Value)->Heap->Prop}{YP:World->Heap->Prop}{d:DefRec}
  (hn:l.most=some n)(hdf:d.params.defaults=[])
  (call:∀(w:World)(s₀ s₁:Shared)(mg mb:Str->Option Value)(fa:Addr)(o:Obj)(pm cd doc:Value)(a:Addr)(vs:List Value)(ns:List Int),
   Ground q aG [] XP w s₀ mg mb s₁.heap->YP w s₁.heap->
   s₁.heap.get? fa=some o->o.data=.func (docDef d.name d.params d.body d.scope pm cd doc)->s₁.heap.CodeRec cd d.name->mg d.name=some (.ref fa)->
   s₁.heap.get? a=some { cls:=.type "list",data:=.seq vs.toArray }->IntsAre vs ns->ns.length<=n->s₁.gens=#[]->
   codeAny (model l.prog w) callerA (.call (.ref fa) ⟨[.ref a],[]⟩) (λr s'=>r=.ok (.ret (.bool true))/\OldK s₁.heap s'.heap/\s'.os=s₁.os/\AllBare s'.gens) s₁):
  WalkO q aG XP YP l.row.toRowW d [] (λf vs=>PySem.call f vs):=by
 intro w s₀ s₁ mg mb G Y fa o pm cd doc dV kV ho hd hcd hD hmg hg args vals as hpre hlay hrd hwl hlo;obtain rfl:dV=.none:=Dflts.none hD hdf;obtain rfl:kV=.none:=Dflts.noKw hD;obtain⟨a,vs,ns,rfl,rfl,hobj,hints,aM⟩:=zeO hn hpre hwl;refine enter_call (codeAny_mono (call w s₀ s₁ mg mb fa o pm cd doc a vs ns G Y ho (fd_plain hd) hcd hmg hobj hints aM hg) λr s' hq=>?_);obtain⟨rfl,h2,h3,h4⟩:=hq;exact⟨.inl ⟨.bool true,.bool true,[],rfl,λ_=>rfl,.bool true,zaV l _,λ_=>⟨List.Pairwise.nil,λ_ hm=>(nomatch hm)⟩⟩,h2,h3,h4⟩
section
variable {prog:Program}{w:World}{A:Around}{E:Value->Shared->Prop}{s:Shared}{K:Frag}
end
end Att
namespace L2
open PySem PySem.Spec PyProof.Rows
theorem O8:∀ {vs:List Value} {ns:List Int},IntsAre vs ns->ZJ (ns.map V.int) vs
 | _,_,.nil=>.nil
 | _,_,.cons n t h=>.cons ⟨t,rfl⟩ (O8 h)
end L2
namespace L2
open PySem PySem.Spec PyProof.Rows
abbrev CX0:CXT:=λ_ _ _ _ _ _=>False
structure Fun (K:Fg)(x qual:Str)(st:Stmt)(f:Addr)(fd:FuncData):Prop where
 ex:∃(oc:Value)(od:Option Addr)(kV doc pm:Value)(an:Option Addr)(cdv ct:Value)(osl:Array (Option Value)),
  fd=W.fnOf x qual (VU st) (Xy st) (Zm st) .none kV doc pm an cdv ct/\K.lookup f=some ⟨oc,od,.func fd,osl⟩/\W.codeIn K cdv qual=true
 kp:W.keepIn K (.ref f)=true
section
variable {P:Program}{w:World}{K:Fg}{mg:Str->Option Value}{base:Heap}
theorem Fun.ok {x qual:Str}{st:Stmt}{f:Addr}{fd:FuncData}{N ps:List Str}{k:Nat}{sp:Sp}(F:Fun K x qual st f fd)(S:Zu N ps (Zm st))(len:∀vs H Q E,sp vs H Q E->vs.length=ps.length)
  (hbody:∀(cdv:Value)(A:Around)(outer:List Env)(s:Shared)(H:Hp)(vs:List V)(Q:VK)(E:XK),ZU k (A.deeper (envOfC qual (Zm st) s.heap.objs.size f cdv))->sp vs H Q E->
   ∃t,PSs (Wq CX0 P w K mg base N qual (Zm st) f cdv A outer s H E).nox (Xy st) t/\t { nx:=λ_ H'=>Q .non H',rt:=Q } (Wz N vs) H):Yk P w K mg base CX0 (k+1) f fd ps sp:=by
 obtain⟨oc,od,kV,doc,pm,an,cdv,ct,osl,rfl,lk,hcd⟩:=F.ex;refine F6 lk hcd S len λA outer s H vs Q E hr hsp=>?_
 obtain⟨t,h,q⟩:=hbody cdv A outer s H vs Q E hr hsp;exact⟨t,h.nox,q⟩
theorem Fun.binds {x qual:Str}{st:Stmt}{f:Addr}{fd:FuncData}{ps:List Str}(F:Fun K x qual st f fd)
  (h:∀(kV doc pm:Value)(an:Option Addr)(cdv ct:Value)(us:List Value),us.length=ps.length->bindArgs (W.fnOf x qual (VU st) (Xy st) (Zm st) .none kV doc pm an cdv ct) ⟨us,[]⟩=pure (ps.zip us)):YS K fd ps []:=by
 obtain⟨oc,od,kV,doc,pm,an,cdv,ct,osl,rfl,lk,hcd⟩:=F.ex;exact .all (h kV doc pm an cdv ct)
theorem M5 {x qual:Str}{st:Stmt}{f:Addr}{oc:Value}{od an:Option Addr}{osl:Array (Option Value)}{kV doc pm cdv ct:Value}(l:K.lookup f=some ⟨oc,od,.func (W.fnOf x qual (VU st) (Xy st) (Zm st) .none kV doc pm an cdv ct),osl⟩)
  (c:W.codeIn K cdv qual=true)(k:W.keepIn K (.ref f)=true):Fun K x qual st f (W.fnOf x qual (VU st) (Xy st) (Zm st) .none kV doc pm an cdv ct):=⟨⟨oc,od,kV,doc,pm,an,cdv,ct,osl,rfl,l,c⟩,k⟩
end
theorem QJ (h:n<=1000):n<sizeLine:=Nat.lt_of_le_of_lt h (by decide)
section
variable {X:Cx}
end
theorem YY {A B:Prop}(h:B):if false=true then A else B:=by
 rw[if_neg zJ];exact h
theorem Y4 {A B:Prop}(h:A):if true=true then A else B:=by
 rw[if_pos rfl];exact h
theorem ite2 {c A B:Prop} [Decidable c] (h1:c->A)(h2:¬ c->B):if c then A else B:=by
 by_cases h:c
 ·rw[if_pos h];exact h1 h
 ·rw[if_neg h];exact h2 h
section
variable {κ:Type} [DecidableEq κ]
end
section
variable {P:Program}{w:World}{H:Hp}{h:Heap}{a:Addr}
end
section
variable {X:Cx}{pins:LA}{σ:St}{H:Hp}{s:Shared}{a:Addr}{y v:V}{u r:Value}{o:Option V}{A:Around}{E:Value->Shared->Prop}
end
section
variable {X:Cx}{pins:LA}{σ:St}{H:Hp}{s:Shared}{a:Addr}{aV:List (Key×V)}{k:Key}{u:Value}{A:Around}{E:Value->Shared->Prop}
end
section
variable {X:Cx}{o i e value:Expr}{pos pos' tpos:Pos}{td ty tv:TE}
end
section
variable {X:Cx}{pos:Pos}
end
structure M1 (X:Cx)(o:Expr)(m:Str)(aJ:Pos)(e:Expr)(aH:Pos):Prop where
 base:attributeBase o m X.env (eval o X.env)=eval o X.env
 few:((backTo aH (starEach [e] X.env)).all (λx=>!x.1)&&(backToKw aH (keywordEach [] X.env)).all (λx=>x.1.isSome)
 &&decide (([e]:List Expr).length+([]:List Keyword).length+(if ([]:List Keyword).isEmpty then 0 else 1)<30))=true
 line:(aJ.endLine==aH.line)=true
 trees:backTo aH (starEach [e] X.env)=[(false,eval e X.env)]
structure M2 (X:Cx)(o:Expr)(m:Str)(aJ:Pos)(e f:Expr)(aH:Pos):Prop where
 base:attributeBase o m X.env (eval o X.env)=eval o X.env
 few:((backTo aH (starEach [e,f] X.env)).all (λx=>!x.1)&&(backToKw aH (keywordEach [] X.env)).all (λx=>x.1.isSome)
 &&decide (([e,f]:List Expr).length+([]:List Keyword).length+(if ([]:List Keyword).isEmpty then 0 else 1)<30))=true
 line:(aJ.endLine==aH.line)=true
 trees:backTo aH (starEach [e,f] X.env)=[(false,eval e X.env),(false,eval f X.env)]
section
variable {X:Cx}{pins:LA}{σ:St}{H:Hp}{s:Shared}{a:Addr}{y d:V}{u r:Value}{o:Option V}{A:Around}{E:Value->Shared->Prop}
end
section
variable {X:Cx}{o e f:Expr}{aJ aH:Pos}{td ty tx:TE}
end
section
variable {X:Cx}{pins:LA}{σ:St}{H:Hp}{s:Shared}{a:Addr}{aV:List (Key×V)}{A:Around}{E:Value->Shared->Prop}
end
section
variable {X:Cx}{pins:LA}{σ:St}{H:Hp}{s:Shared}{a:Addr}{y:V}{u:Value}{A:Around}{E:Value->Shared->Prop}
end
end L2
namespace L3
open PySem PySem.Spec PyProof.Rows L2
abbrev St:=L2.St
inductive D where
 | non|bl (b:Bool)|int (i:Int)|str (x:Str)|tup (xs:List D)|ref (n:Nat)|exc (c:Addr)
inductive Ob where
 | lst (xs:List D)|frz (xs:List D)
  | ins (C:Addr) (fs:List (Str×D))
  | dct (aV:List (List Key×D))
  | tpl (ws:List Str)
  | dck (aV:List (Key×D))
  | cod (P:Addr) (pos:Pos) (q:Str)
abbrev Sto:=List Ob
abbrev Ev:=List (Option D)
abbrev DK:=D->Sto->Prop
abbrev TDE:=Ev->Sto->DK->Prop
abbrev TDT:=Ev->Sto->(Bool->Sto->Prop)->Prop
abbrev TDA:=Ev->Sto->(List D->Sto->Prop)->Prop
structure Wj where
 nx:Ev->Sto->Prop
 rt:DK
 bk:Ev->Sto->Prop:=λ_ _=>False
 ct:Ev->Sto->Prop:=λ_ _=>False
abbrev TDS:=Wj->Ev->Sto->Prop
def isX (a c:Addr):HO:=.ext λh=>∃o,h.get? a=some o/\o.cls=.ref c
inductive Rp (r:List Addr)(H:Hp):D->V->Prop
 | non:Rp r H .non .non
 | bl (b:Bool):Rp r H (.bl b) (.bl b)
 | int (i:Int):Rp r H (.int i) (.int i)
 | str (x:Str):Rp r H (.str x) (.str x)
 | tup {ds:List D} {xs:List V} {a:Addr}:H a=some (.tup xs)->ds.length=xs.length->(∀(i:Nat)(d:D)(v:V),ds[i]?=some d->xs[i]?=some v->Rp r H d v)->Rp r H (.tup ds) (.ref a)
 | ref {n:Nat} {a:Addr}:r[n]?=some a->Rp r H (.ref n) (.ref a)
 | exc {c a:Addr}:H a=some (isX a c)->Rp r H (.exc c) (.ref a)
def Rps (r:List Addr)(H:Hp)(ds:List D)(vs:List V):Prop:=ds.length=vs.length/\∀(i:Nat)(d:D)(v:V),ds[i]?=some d->vs[i]?=some v->Rp r H d v
structure Ext (r r':List Addr)(H H':Hp):Prop where
 adr:∀(n:Nat)(a:Addr),r[n]?=some a->r'[n]?=some a
 tup:∀a xs,H a=some (.tup xs)->H' a=some (.tup xs)
 xc:∀a φ,H a=some (.ext φ)->H' a=some (.ext φ)
theorem Ext.refl:Ext r r H H:=⟨λ_ _ h=>h,λ_ _ h=>h,λ_ _ h=>h⟩
theorem Ext.trans (a:Ext r r' H H')(b:Ext r' r2 H' H2):Ext r r2 H H2:=⟨λn x h=>b.adr n x (a.adr n x h),λx y h=>b.tup x y (a.tup x y h),λx y h=>b.xc x y (a.xc x y h)⟩
theorem Rp.ext (h:Rp r H d v)(e:Ext r r' H H'):Rp r' H' d v:=by
 induction h with
 | non=>exact .non
 | bl b=>exact .bl b
 | int i=>exact .int i
 | str x=>exact .str x
 | tup h l _ ih=>exact .tup (e.tup _ _ h) l ih
 | ref h=>exact .ref (e.adr _ _ h)
 | exc h=>exact .exc (e.xc _ _ h)
theorem Rps.ext (h:Rps r H ds vs)(e:Ext r r' H H'):Rps r' H' ds vs:=⟨h.1,λi d v h1 h2=>(h.2 i d v h1 h2).ext e⟩
theorem Rps.nil:Rps r H [] []:=⟨rfl,λi d v h=>by simp at h⟩
theorem Rps.cons (h:Rp r H d v)(t:Rps r H ds vs):Rps r H (d::ds) (v::vs):=by
 refine⟨by simp[t.1],λi x y h1 h2=>?_⟩;cases i with
 | zero=>
  simp at h1 h2;subst h1;subst h2
  exact h
 | succ i=>exact t.2 i x y (by simpa using h1) (by simpa using h2)
theorem Rps.tail (h:Rps r H (d::ds) (y::vs)):Rp r H d y/\Rps r H ds vs:=
 ⟨h.2 0 d y rfl rfl,by simpa using h.1,λi a b h1 h2=>h.2 (i+1) a b (by simpa using h1) (by simpa using h2)⟩
theorem Rps.uncons (h:Rps r H (d::ds) vs):∃v vs',vs=v::vs'/\Rp r H d v/\Rps r H ds vs':=by
 cases vs with
 | nil=>exact absurd h.1 (by simp)
 | cons v vs'=>exact⟨v,vs',rfl,h.tail⟩
theorem Rps.unnil (h:Rps r H [] vs):vs=[]:=by
 cases vs with
 | nil=>rfl
 | cons v vs'=>exact absurd h.1 (by simp)
theorem Rps.get {i:Nat}(h:Rps r H ds vs)(e:ds[i]?=some d):∃v,vs[i]?=some v/\Rp r H d v:=by
 have hi:i<ds.length:=(zA.mp e).1
 have hv:i<vs.length:=by rw[<- h.1];exact hi
 exact⟨vs[i],by simp[hv],h.2 i d vs[i] e (by simp[hv])⟩
theorem Rps.get' {i:Nat}(h:Rps r H ds vs)(e:vs[i]?=some v):∃d,ds[i]?=some d/\Rp r H d v:=by
 have hv:i<vs.length:=(zA.mp e).1
 have hi:i<ds.length:=by rw[h.1];exact hv
 exact⟨ds[i],by simp[hi],h.2 i ds[i] v (by simp[hi]) e⟩
theorem Rps.snoc (h:Rps r H ds vs)(t:Rp r H d v):Rps r H (ds++[d]) (vs++[v]):=by
 refine⟨by simp[h.1],λi x y h1 h2=>?_⟩;by_cases hi:i<ds.length
 ·rw[zI hi] at h1;rw[zI (by rw[<- h.1];exact hi)] at h2;exact h.2 i x y h1 h2
 ·have hl:i<(ds++[d]).length:=(zA.mp h1).1
  have e:i=ds.length:=by simp at hl;omega
  subst e;rw[yB (zC _)] at h1;rw[h.1,yB (zC _)] at h2;simp at h1 h2;subst h1;subst h2
  exact t
theorem Rps.tupR (h:Rps r H ds vs)(e:H a=some (.tup vs)):Rp r H (.tup ds) (.ref a):=.tup e h.1 h.2
theorem Rp.untup {vs:V}(h:Rp r H (.tup ds) vs):∃a xs,vs=.ref a/\H a=some (.tup xs)/\Rps r H ds xs:=by
 cases h with
 | tup e l f=>exact⟨_,_,rfl,e,l,f⟩
def SqF (K:Fg)(H:Hp)(a:Addr)(xs:List V):Prop:=
 (∃o,H a=some (.frz o (.lst xs)))\/
  ∃(o:Obj)(aX:Array Value)(n:Nat),K.lookup a=some o/\o.cls=.type "list"/\o.dict=none/\o.data=.seq aX n/\aX.size<=sizeLine/\ZJ xs aX.toList
theorem SqF.sql {K:Fg}{H:Hp}{a:Addr}{xs:List V}(h:SqF K H a xs):SqL K H a xs:=by
 rcases h with ⟨o,h⟩|h
 ·exact .inl (.inr ⟨o,h⟩)
 ·exact .inr h
def FR {α:Type}(r:List Addr)(H:Hp)(fs:List (α×D))(fs':List (α×V)):Prop:=fs.map (·.1)=fs'.map (·.1)/\Rps r H (fs.map (·.2)) (fs'.map (·.2))
theorem FR.ext {α:Type}{r r':List Addr}{H H':Hp}{fs:List (α×D)}{fs':List (α×V)}(h:FR r H fs fs')(e:Ext r r' H H'):FR r' H' fs fs':=⟨h.1,h.2.ext e⟩
theorem FR.nil {α:Type}{r:List Addr}{H:Hp}:FR (α:=α) r H [] []:=⟨rfl,Rps.nil⟩
def Tab (pos:Pos)(q:Str)(H:Hp)(ps:Array Value):Prop:=TriplesOk ps.toList/\(codeAmong pos ps.toList=none\/∃c,codeAmong pos ps.toList=some (.ref c)/\H c=some (.ext λh=>h.CodeRec (.ref c) q))
theorem Tab.same {pos:Pos}{q:Str}{H H':Hp}{ps:Array Value}(h:Tab pos q H ps)(e:∀b φ,H b=some (.ext φ)->H' b=some (.ext φ)):Tab pos q H' ps:=⟨h.1,h.2.imp id λ⟨c,a,b⟩=>⟨c,a,e _ _ b⟩⟩
def ObR (K:Fg)(r:List Addr)(H:Hp)(a:Addr):Ob->Prop
 | .lst ds=>∃xs,H a=some (.lst xs)/\Rps r H ds xs
 | .frz ds=>∃xs,SqF K H a xs/\Rps r H ds xs
 | .ins C fs=>∃dx fs',H a=some (.ins C dx fs')/\FR r H fs fs'
 | .dct aV=>∃kvs',H a=some (.dT kvs')/\FR r H aV kvs'
 | .dck aV=>∃kvs',H a=some (.dK kvs')/\FR r H aV kvs'
 | .tpl ws=>∃(o:Obj)(aX:Array Value)(n:Nat),K.lookup a=some o/\o.cls=.type "tuple"/\o.data=.seq aX n/\aX.size<=sizeLine/\ZJ (ws.map V.str) aX.toList
 | .cod P pos q=>a=P/\∃ps,H a=some (.tbl ps)/\Tab pos q H ps
def VD:Ob->Bool
 | .frz _=>false
 | .tpl _=>false
 | _=>true
structure Z3 (K:Fg)(r:List Addr)(S:Sto)(H:Hp):Prop where
 len:r.length=S.length
 ob:∀(n:Nat)(a:Addr)(o:Ob),r[n]?=some a->S[n]?=some o->ObR K r H a o
 nd:∀(n m:Nat)(a:Addr)(o u:Ob),r[n]?=some a->r[m]?=some a->S[n]?=some o->S[m]?=some u->VD o=true->VD u=true->n=m
def Zv:Ob->List D
 | .lst ds=>ds
 | .frz ds=>ds
 | _=>[.exc 0]
def Xl:Ob->Option Ob
 | .lst ds=>some (.lst ds)
 | .frz ds=>some (.frz ds)
 | _=>none
def lAt (S:Sto)(n:Nat):Option Ob:=(S[n]?).bind Xl
theorem zd9 (h:Xl o=some u):u=o:=by
 cases o<;>simp[Xl] at h<;>exact h.symm
theorem Xf {S:Sto}{n:Nat}{o:Ob}(h:lAt S n=some o):S[n]?=some o/\Xl o=some o:=by
  unfold lAt at h;cases q:S[n]? with
  | none=>
   rw[q] at h;cases h
  | some u=>
    rw[q] at h;have h':Xl u=some o:=h
    have e:=zd9 h';subst e;exact⟨rfl,h'⟩
theorem ZZ {S:Sto}{n:Nat}{o:Ob}(h:S[n]?=some o)(hL:Xl o=some o):lAt S n=some o:=by
 unfold lAt;rw[h];exact hL
section
variable {K:Fg}{r r':List Addr}{S:Sto}{H H':Hp}{n:Nat}{a p:Addr}
theorem Z3.at {o:Ob}(h:Z3 K r S H)(e:S[n]?=some o):∃a,r[n]?=some a/\ObR K r H a o:=by
 have hn:n<S.length:=(zA.mp e).1
 have hr:n<r.length:=by rw[h.len];exact hn
 exact⟨r[n],by simp[hr],h.ob n r[n] o (by simp[hr]) e⟩
theorem ObR.list {o:Ob}(h:ObR K r H a o)(hL:Xl o=some o):∃xs,SqL K H a xs/\Rps r H (Zv o) xs:=by
 cases o with
 | lst ds=>obtain⟨xs,e,q⟩:=h;exact⟨xs,SqL.of e,q⟩
 | frz ds=>obtain⟨xs,e,q⟩:=h;exact⟨xs,e.sql,q⟩
 | ins C fs=>cases hL
 | dct aV=>cases hL
 | dck aV=>cases hL
 | tpl ws=>cases hL
 | cod P pos q=>cases hL
theorem ObR.keep {o:Ob}(q:ObR K r H a o)(x:Ext r r' H H')(ha:∀u,H a=some u->H' a=some u):ObR K r' H' a o:=by
 cases o with
 | lst ds=>obtain⟨xs,h3,h4⟩:=q;exact⟨xs,ha _ h3,h4.ext x⟩
 | frz ds=>
  obtain⟨xs,h3,h4⟩:=q;refine⟨xs,?_,h4.ext x⟩;rcases h3 with ⟨o,h3⟩|h3
  ·exact .inl ⟨o,ha _ h3⟩
  ·exact .inr h3
 | ins C fs=>obtain⟨dx,fs',h3,h4⟩:=q;exact⟨dx,fs',ha _ h3,h4.ext x⟩
 | dct aV=>obtain⟨ks,h3,h4⟩:=q;exact⟨ks,ha _ h3,h4.ext x⟩
 | dck aV=>obtain⟨ks,h3,h4⟩:=q;exact⟨ks,ha _ h3,h4.ext x⟩
 | tpl ws=>exact q
 | cod P pos q'=>obtain⟨e,ps,h3,h4⟩:=q;exact⟨e,ps,ha _ h3,h4.same x.xc⟩
theorem ObR.own {o:Ob}(q:ObR K r H a o)(h:VD o=true):∃u,H a=some u/\(∀xs,u≠HO.tup xs)/\(∀φ,u≠HO.ext φ)/\∀z y,u≠HO.frz z y:=by
 cases o with
 | lst ds=>obtain⟨xs,h3,h4⟩:=q;exact⟨_,h3,(λ_ z=>by cases z),(λ_ z=>by cases z),(λ_ _ z=>by cases z)⟩
 | frz ds=>cases h
 | tpl ws=>cases h
 | ins C fs=>obtain⟨dx,fs',h3,h4⟩:=q;exact⟨_,h3,(λ_ z=>by cases z),(λ_ z=>by cases z),(λ_ _ z=>by cases z)⟩
 | dct aV=>obtain⟨ks,h3,h4⟩:=q;exact⟨_,h3,(λ_ z=>by cases z),(λ_ z=>by cases z),(λ_ _ z=>by cases z)⟩
 | dck aV=>obtain⟨ks,h3,h4⟩:=q;exact⟨_,h3,(λ_ z=>by cases z),(λ_ z=>by cases z),(λ_ _ z=>by cases z)⟩
 | cod P pos q'=>obtain⟨_,ps,h3,_⟩:=q;exact⟨_,h3,(λ_ z=>by cases z),(λ_ z=>by cases z),(λ_ _ z=>by cases z)⟩
theorem Z3.same (h:Z3 K r S H)(e:∀b o,H b=some o->H' b=some o):Z3 K r S H':=
 ⟨h.len,λn a o h1 h2=>(h.ob n a o h1 h2).keep ⟨λ_ _ q=>q,λa xs q=>e _ _ q,λa c q=>e _ _ q⟩ (e a),h.nd⟩
theorem Wi {o:HO}(h:H p=none):∀b u,H b=some u->(upd H p o) b=some u:=λb u q=>by rw[Z4 (Ue q h)];exact q
theorem KD (e:(r++[p])[n]?=some b):(n<r.length/\r[n]?=some b)\/(n=r.length/\b=p):=by
 by_cases hn:n<r.length
 ·rw[zI hn] at e;exact .inl ⟨hn,e⟩
 ·have hl:n<(r++[p]).length:=(zA.mp e).1
  have en:n=r.length:=by simp at hl;omega
  subst en;rw[yB (zC _)] at e;simp at e;exact .inr ⟨rfl,e.symm⟩
theorem Z3.pushO (h:Z3 K r S H)(hp:H p=none)(keep:∀b u,H b=some u->H' b=some u)(q:Ext r (r++[p]) H H'->ObR K (r++[p]) H' p o):Z3 K (r++[p]) (S++[o]) H'/\Ext r (r++[p]) H H':=by
 have x:Ext r (r++[p]) H H':=⟨λn a e=>by
  have hn:n<r.length:=(zA.mp e).1;rw[zI hn];exact e,λa ys e=>keep _ _ e,λa c e=>keep _ _ e⟩
 have sS:∀ {n:Nat} {u:Ob},n<r.length->(S++[o])[n]?=some u->S[n]?=some u:=λ{n u} hn e=>by
  rw[zI (by rw[<- h.len];exact hn)] at e;exact e
 refine⟨⟨by simp[h.len],λn a u h1 h2=>?_,λn m a u w h1 h2 h3 h4 o1 o2=>?_⟩,x⟩
 ·rcases KD h1 with ⟨hn,e⟩|⟨rfl,rfl⟩
  ·exact(h.ob n a u e (sS hn h2)).keep x (keep a)
  ·rw[h.len,yB (zC _)] at h2;simp at h2;subst h2;exact q x
 ·rcases KD h1 with ⟨hn,e⟩|⟨rfl,rfl⟩
  ·rcases KD h2 with ⟨hm,e'⟩|⟨rfl,rfl⟩
   ·exact h.nd n m a u w e e' (sS hn h3) (sS hm h4) o1 o2
   ·obtain⟨zs,h5,_⟩:=(h.ob n _ _ e (sS hn h3)).own o1;rw[hp] at h5;cases h5
  ·rcases KD h2 with ⟨hm,e'⟩|⟨rfl,_⟩
   ·obtain⟨zs,h5,_⟩:=(h.ob m _ _ e' (sS hm h4)).own o2;rw[hp] at h5;cases h5
   ·rfl
theorem Z3.push {ds:List D}{xs:List V}(h:Z3 K r S H)(hp:H p=none)(q:Rps r H ds xs):Z3 K (r++[p]) (S++[.lst ds]) (upd H p (.lst xs))/\Ext r (r++[p]) H (upd H p (.lst xs)):=
 h.pushO hp (Wi hp) λx=>⟨xs,Y2,q.ext x⟩
theorem Z3.setO (h:Z3 K r S H)(hn:r[n]?=some a)(hS:S[n]?=some o)(ho:VD o=true)(ho':VD o'=true)(q:Ext r r H (upd H a u)->ObR K r (upd H a u) a o'):Z3 K r (S.set n o') (upd H a u)/\Ext r r H (upd H a u):=by
 obtain⟨u0,h0,t1,t2,t3⟩:=(h.ob n a _ hn hS).own ho;have x:Ext r r H (upd H a u):=⟨λ_ _ e=>e,λb zs e=>by
  rw[Z4 (J1 e h0 (λz=>t1 zs z.symm))];exact e,λb c e=>by
  rw[Z4 (J1 e h0 (λz=>t2 c z.symm))];exact e⟩
 have hlt:n<S.length:=(zA.mp hS).1
 have off:∀ {m:Nat} {w:Ob},m≠n->(S.set n o')[m]?=some w->S[m]?=some w:=λ{m w} hm e=>by
  rw[zW (Ne.symm hm)] at e;exact e
 refine⟨⟨by simp[h.len],λm b w h1 h2=>?_,λm k b w y h1 h2 h3 h4 o1 o2=>?_⟩,x⟩
 ·by_cases hm:m=n
  ·subst hm;rw[hn] at h1;cases h1
   rw[yI hlt] at h2;cases h2;exact q x
  ·have h2':=off hm h2
   have q':=h.ob m b w h1 h2';by_cases hw:VD w=true
   ·have hb:b≠a:=λz=>hm (by subst z;exact h.nd m n b w o h1 hn h2' hS hw ho)
    exact q'.keep x λz e=>by rw[Z4 hb];exact e
   ·cases w with
    | frz es=>
     obtain⟨zs,h3,h4⟩:=q';refine⟨zs,?_,h4.ext x⟩;rcases h3 with ⟨z,h3⟩|h3
     ·exact .inl ⟨z,by rw[Z4 (J1 h3 h0 (λy=>t3 _ _ y.symm))];exact h3⟩
     ·exact .inr h3
    | tpl ws=>exact q'
    | _=>exact absurd rfl hw
 ·have back:∀ {j:Nat} {w:Ob},(S.set n o')[j]?=some w->VD w=true->∃y,S[j]?=some y/\VD y=true:=λ{j w} e ow=>by
   by_cases hj:j=n
   ·subst hj;exact⟨o,hS,ho⟩
   ·exact⟨w,off hj e,ow⟩
  obtain⟨us',h3',q3⟩:=back h3 o1;obtain⟨ws',h4',q4⟩:=back h4 o2;exact h.nd m k b us' ws' h1 h2 h3' h4' q3 q4
theorem Z3.set {ds ds':List D}{xs:List V}(h:Z3 K r S H)(hn:r[n]?=some a)(hS:S[n]?=some (.lst ds))(q:Rps r H ds' xs):Z3 K r (S.set n (.lst ds')) (upd H a (.lst xs))/\Ext r r H (upd H a (.lst xs)):=
 h.setO hn hS rfl rfl λx=>⟨xs,Y2,q.ext x⟩
end
def Rs (r:List Addr)(H:Hp)(dl:Ev)(σ:St):Prop:=dl.length=σ.length/\∀(i:Nat)(d:D),dl[i]?=some (some d)->∃v,σ[i]?=some (some v)/\Rp r H d v
theorem Rs.ext {r r':List Addr}{H H':Hp}{dl:Ev}{σ:St}(h:Rs r H dl σ)(e:Ext r r' H H'):Rs r' H' dl σ:=⟨h.1,λi d q=>by
 obtain⟨v,h1,h2⟩:=h.2 i d q;exact⟨v,h1,h2.ext e⟩⟩
theorem Rs.set {r:List Addr}{H:Hp}{dl:Ev}{σ:St}{d:D}{v:V}(i:Nat)(h:Rs r H dl σ)(q:Rp r H d v):Rs r H (dl.set i (some d)) (σ.set i (some v)):=by
 refine⟨by simp[h.1],λj e hj=>?_⟩;by_cases hij:i=j
 ·subst hij;have hl:i<dl.length:=by
   have:=(zA.mp hj).1;simpa using this
  rw[yI hl] at hj;cases hj;exact⟨v,by rw[yI (by rw[<- h.1];exact hl)],q⟩
 ·rw[zW hij] at hj;obtain⟨v',h1,h2⟩:=h.2 j e hj;exact⟨v',by rw[zW hij];exact h1,h2⟩
structure Zx where
 ex:Ev->Addr->Sto->Prop
 w:St->XK
abbrev Zc (ex:Addr->Sto->Prop)(E:XK):Zx:=⟨λ_=>ex,λ_=>E⟩
def UA (K:Fg)(Z:Zx)(r:List Addr)(H:Hp):Prop:=∀(dl:Ev)(σ:St)(c:Addr)(H':Hp)(r':List Addr)(S':Sto),Ext r r' H H'->Rs r' H' dl σ->Z3 K r' S' H'->Z.ex dl c S'->Z.w σ (.ref c) none H'
theorem UA.ext {K:Fg}{Z:Zx}{r r':List Addr}{H H':Hp}(h:UA K Z r H)(e:Ext r r' H H'):UA K Z r' H':=λdl σ c H2 r2 S2 x=>h dl σ c H2 r2 S2 (e.trans x)
structure Rel (K:Fg)(Z:Zx)(r:List Addr)(S:Sto)(H:Hp):Prop where
 b:Z3 K r S H
 xw:UA K Z r H
section
variable {K:Fg}{Z:Zx}{r r':List Addr}{S:Sto}{H H':Hp}{n:Nat}{a p:Addr}
theorem Rel.len (h:Rel K Z r S H):r.length=S.length:=h.b.len
theorem Rel.at {o:Ob}(h:Rel K Z r S H)(e:S[n]?=some o):∃a,r[n]?=some a/\ObR K r H a o:=h.b.at e
theorem Rel.same (h:Rel K Z r S H)(e:∀b o,H b=some o->H' b=some o):Rel K Z r S H':=⟨h.b.same e,h.xw.ext ⟨λ_ _ q=>q,λa xs q=>e _ _ q,λa c q=>e _ _ q⟩⟩
theorem Rel.push {ds:List D}{xs:List V}(h:Rel K Z r S H)(hp:H p=none)(q:Rps r H ds xs):Rel K Z (r++[p]) (S++[.lst ds]) (upd H p (.lst xs))/\Ext r (r++[p]) H (upd H p (.lst xs)):=by
 obtain⟨h1,h2⟩:=h.b.push hp q;exact⟨⟨h1,h.xw.ext h2⟩,h2⟩
theorem Rel.set {ds ds':List D}{xs:List V}(h:Rel K Z r S H)(hn:r[n]?=some a)(hS:S[n]?=some (.lst ds))(q:Rps r H ds' xs):Rel K Z r (S.set n (.lst ds')) (upd H a (.lst xs))/\Ext r r H (upd H a (.lst xs)):=by
 obtain⟨h1,h2⟩:=h.b.set hn hS q;exact⟨⟨h1,h.xw.ext h2⟩,h2⟩
end
def Ret (K:Fg)(Z:Zx)(r:List Addr)(H:Hp)(Q:DK)(Qv:VK):Prop:=∀v H' r' d S',Ext r r' H H'->Rel K Z r' S' H'->Rp r' H' d v->Q d S'->Qv v H'
theorem Ret.ext {K:Fg}{Z:Zx}{r r':List Addr}{H H':Hp}{Q:DK}{Qv:VK}(h:Ret K Z r H Q Qv)(e:Ext r r' H H'):Ret K Z r' H' Q Qv:=λv H2 r2 d S2 x=>h v H2 r2 d S2 (e.trans x)
def up (K:Fg)(Z:Zx)(t:TDE):TE:=λσ H Qv=>∃r dl S Q,Rs r H dl σ/\Rel K Z r S H/\t dl S Q/\Ret K Z r H Q Qv
def upT (K:Fg)(Z:Zx)(t:TDT):TT:=λσ H Qb=>∃r dl S Q,Rs r H dl σ/\Rel K Z r S H/\t dl S Q/\∀b H' r' S',Ext r r' H H'->Rel K Z r' S' H'->Q b S'->Qb b H'
def upA (K:Fg)(Z:Zx)(t:TDA):TA:=λσ H Qv=>∃r dl S Q,Rs r H dl σ/\Rel K Z r S H/\t dl S Q/\∀vs H' r' ds S',Ext r r' H H'->Rel K Z r' S' H'->Rps r' H' ds vs->Q ds S'->Qv vs H'
structure Lu (K:Fg)(Z:Zx)(r:List Addr)(H:Hp)(E:Wj)(F:V4):Prop where
 nx:∀σ' H' r' dl' S',Ext r r' H H'->Rs r' H' dl' σ'->Rel K Z r' S' H'->E.nx dl' S'->F.nx σ' H'
 bk:∀σ' H' r' dl' S',Ext r r' H H'->Rs r' H' dl' σ'->Rel K Z r' S' H'->E.bk dl' S'->F.bk σ' H'
 ct:∀σ' H' r' dl' S',Ext r r' H H'->Rs r' H' dl' σ'->Rel K Z r' S' H'->E.ct dl' S'->F.ct σ' H'
 rt:Ret K Z r H E.rt F.rt
theorem Lu.ext {K:Fg}{Z:Zx}{r r':List Addr}{H H':Hp}{E:Wj}{F:V4}(h:Lu K Z r H E F)(e:Ext r r' H H'):Lu K Z r' H' E F:=
 ⟨λa b c d f x=>h.nx a b c d f (e.trans x),λa b c d f x=>h.bk a b c d f (e.trans x),λa b c d f x=>h.ct a b c d f (e.trans x),h.rt.ext e⟩
def upS (K:Fg)(Z:Zx)(t:TDS):TS:=λF σ H=>∃r dl S E,Rs r H dl σ/\Rel K Z r S H/\t E dl S/\Lu K Z r H E F
def PD (X:Cx)(Z:Zx)(e:Expr)(t:TDE):Prop:=PE X e (up X.K Z t)
def PDT (X:Cx)(Z:Zx)(e:Expr)(t:TDT):Prop:=PT X e (upT X.K Z t)
def PDW (X:Cx)(Z:Zx)(e:Expr)(t:TDT):Prop:=PW X e (upT X.K Z t)
def PDA (X:Cx)(Z:Zx)(es:List Expr)(t:TDA):Prop:=PA X es (upA X.K Z t)
def PDS (X:Cx)(Z:Zx)(st:Stmt)(t:TDS):Prop:=PS X st (upS X.K Z t)
def YZ (X:Cx)(Z:Zx)(st:List Stmt)(t:TDS):Prop:=PSs X st (upS X.K Z t)
section
variable {X:Cx}{Z:Zx}
theorem Z9 (h:PE X e t)(f:∀σ H Q,t' σ H Q->t σ H Q):PE X e t':=λpins s σ H Q I q=>h pins s σ H Q I (f σ H Q q)
theorem N6 (h:PT X e t)(f:∀σ H Q,t' σ H Q->t σ H Q):PT X e t':=λpins s σ H Q I q=>h pins s σ H Q I (f σ H Q q)
theorem EO (h:PW X e t)(f:∀σ H Q,t' σ H Q->t σ H Q):PW X e t':=λwh pins s σ H Q I q=>h wh pins s σ H Q I (f σ H Q q)
theorem ER (h:PA X e t)(f:∀σ H Q,t' σ H Q->t σ H Q):PA X e t':=λpos pins s σ H Q I q=>h pos pins s σ H Q I (f σ H Q q)
theorem YN {e:Stmt}{t t':TS}(h:PS X e t)(f:∀F σ H,t' F σ H->t F σ H):PS X e t':=λpins s σ H F I q=>h pins s σ H F I (f F σ H q)
theorem EH (h:PSs X e t)(f:∀F σ H,t' F σ H->t F σ H):PSs X e t':=λpins s σ H F I q=>h pins s σ H F I (f F σ H q)
theorem PDW.pt (h:PDW X Z e t):PDT X Z e t:=PW.pt h
def Wn (i:Nat):TDE:=λdl S Q=>match dl[i]? with
 | some (some d)=>Q d S
 | _=>False
def dC (d:D):TDE:=λ_ S Q=>Q d S
theorem Ax (h:PE X e (tVar i)):PD X Z e (Wn i):=Z9 h λσ H Qv ⟨r,dl,S,Q,rs,aZ,q,ret⟩=>by
 unfold Wn at q;split at q
 ·rename_i d e;obtain⟨v,h1,h2⟩:=rs.2 i d e;exact⟨v,h1,ret v H r d S Ext.refl aZ h2 q⟩
 ·exact q.elim
theorem dv (i:Nat)(hN:X.N[i]?=some x:=by rfl)(hv:Vis X.env.scope x:=by first|exact Or.inl rfl|exact Or.inr (Or.inl rfl)|exact Or.inr (Or.inr rfl))(hd:(x==("__debug__":Str))=false:=by decide)(hcd:(x==("__classdict__":Str))=false:=by decide):PD X Z (.Name x pos) (Wn i):=Ax (zct hN hv hd hcd)
theorem ND (h:PE X e (tC v))(q:∀r H,Rp r H d v):PD X Z e (dC d):=Z9 h λσ H Qv ⟨r,dl,S,Q,rs,aZ,h,ret⟩=>ret v H r d S Ext.refl aZ (q r H) h
theorem Zb {i j pos}:PD X Z (.Constant (.int i) j pos) (dC (.int i)):=ND zaT λ_ _=>.int i
theorem O3 {b j pos}:PD X Z (.Constant (.bool b) j pos) (dC (.bl b)):=ND pe_bl λ_ _=>.bl b
theorem ZX {j pos}:PD X Z (.Constant .none j pos) (dC .non):=ND zd8 λ_ _=>.non
theorem ZW {x j pos}:PD X Z (.Constant (.str x) j pos) (dC (.str x)):=ND zaR λ_ _=>.str x
abbrev W2:=D->D->Sto->DK->Prop
abbrev W1:=D->Sto->DK->Prop
def upO (K:Fg)(Z:Zx)(w:W2):R2:=λx y H Qv=>∃r S dx dy Q,Rel K Z r S H/\Rp r H dx x/\Rp r H dy y/\w dx dy S Q/\Ret K Z r H Q Qv
def upU (K:Fg)(Z:Zx)(w:W1):V->Hp->VK->Prop:=λx H Qv=>∃r S dx Q,Rel K Z r S H/\Rp r H dx x/\w dx S Q/\Ret K Z r H Q Qv
def dOp (w:W2)(ta tb:TDE):TDE:=λdl S Q=>ta dl S λx S1=>tb dl S1 λy S2=>w x y S2 Q
def dUn (w:W1)(ta:TDE):TDE:=λdl S Q=>ta dl S λx S1=>w x S1 Q
variable {a b c:Expr}{ta tb tc:TDE}{pos:Pos}
theorem LK (h:up X.K Z (dOp w ta tb) σ H Qv):tOp (upO X.K Z w) (up X.K Z ta) (up X.K Z tb) σ H Qv:=by
 obtain⟨r,dl,S,Q,rs,aZ,h,ret⟩:=h;exact⟨r,dl,S,_,rs,aZ,h,λv H1 r1 dx S1 e1 aB p1 h1=>⟨r1,dl,S1,_,rs.ext e1,aB,h1,λv2 H2 r2 dy S2 e2 aC p2 h2=>⟨r2,S2,dx,dy,Q,aC,p1.ext e2,p2,h2,ret.ext (e1.trans e2)⟩⟩⟩
theorem Zl (ho:OpR X (binaryOp op) (upO X.K Z w))(ha:PD X Z a ta)(hb:PD X Z b tb):PD X Z (.BinOp a op b pos) (dOp w ta tb):=Z9 (pe_op ho ha hb) λ_ _ _ h=>LK h
theorem XR (ho:UnR X (unaryOp op) (upU X.K Z w))(ha:PD X Z a ta):PD X Z (.UnaryOp op a pos) (dUn w ta):=Z9 (pe_un ho ha) λσ H Qv ⟨r,dl,S,Q,rs,aZ,h,ret⟩=>
 ⟨r,dl,S,_,rs,aZ,h,λv H1 r1 dx S1 e1 aB p1 h1=>⟨r1,S1,dx,Q,aB,p1,h1,ret.ext e1⟩⟩
theorem Xx (ho:OpR X (compareOp op) (upO X.K Z w))(ha:PD X Z a ta)(hb:PD X Z b tb)(hm:behindInMarks op b=false):PD X Z (.Compare a [op] [b] pos) (dOp w ta tb):=Z9 (zeF ho ha hb hm) λ_ _ _ h=>LK h
theorem UG {f:Value->Value->Sem Value}{r r':R2}(h:OpR X f r)(g:∀x y H Q,r' x y H Q->r x y H Q):OpR X f r':=λpins s σ H x y v u Q I rx ry q=>h pins s σ H x y v u Q I rx ry (g x y H Q q)
theorem zhQ {f:Value->Sem Value}{r r':V->Hp->VK->Prop}(h:UnR X f r)(g:∀x H Q,r' x H Q->r x H Q):UnR X f r':=λpins s σ H x v Q I rx q=>h pins s σ H x v Q I rx (g x H Q q)
theorem G0 {f:Value}{r r':List V->Hp->VK->Prop}(h:YD X f r)(g:∀x H Q,r' x H Q->r x H Q):YD X f r':=λpins s σ H xs us Q I rx q=>h pins s σ H xs us Q I rx (g xs H Q q)
def wI (C:Int->Int->Prop)(g:Int->Int->D):W2:=λx y S Q=>match x,y with
 | .int i,.int j=>C i j/\Q (g i j) S
 | _,_=>False
def wI0 (g:Int->Int->D):W2:=λx y S Q=>match x,y with
 | .int i,.int j=>Q (g i j) S
 | _,_=>False
theorem opD (h:OpR X f (rI C g))(hg:∀r H i j,Rp r H (g' i j) (g i j)):OpR X f (upO X.K Z (wI C g')):=
 UG h λx y H Qv ⟨r,S,dx,dy,Q,aZ,px,py,q,ret⟩=>by
  cases px<;>cases py<;>first
   | exact⟨_,_,rfl,rfl,q.1,ret _ _ _ _ _ Ext.refl aZ (hg _ _ _ _) q.2⟩
   | exact(show False from q).elim
theorem Rm (h:OpR X f (rI0 g))(hg:∀r H i j,Rp r H (g' i j) (g i j)):OpR X f (upO X.K Z (wI0 g')):=
 UG h λx y H Qv ⟨r,S,dx,dy,Q,aZ,px,py,q,ret⟩=>by
  cases px<;>cases py<;>first
   | exact⟨_,_,rfl,rfl,ret _ _ _ _ _ Ext.refl aZ (hg _ _ _ _) q⟩
   | exact(show False from q).elim
abbrev wAdd:W2:=wI0 λi j=>.int (i+j)
abbrev wSub:W2:=wI0 λi j=>.int (i-j)
abbrev RP:W2:=wI IntMulOk λi j=>.int (i*j)
def CFd (_ j:Int):Prop:=0<j/\j.natAbs.log2<9000
abbrev wFdiv:W2:=wI CFd λi j=>.int (i/j)
def CFn (_ j:Int):Prop:=j≠0/\j.natAbs.log2<9000
abbrev zgG:W2:=wI CFn λi j=>.int (i.fdiv j)
abbrev wMod:W2:=wI (λ_ j=>0<j) λi j=>.int (i%j)
abbrev wPow:W2:=wI NH λi j=>.int (i^j.toNat)
theorem Z5:OpR X (binaryOp .Add) (upO X.K Z wAdd):=Rm zfR λ_ _ _ _=>.int _
theorem Yt:OpR X (binaryOp .Sub) (upO X.K Z wSub):=Rm zhN λ_ _ _ _=>.int _
theorem ZS:OpR X (binaryOp .Mult) (upO X.K Z RP):=opD (opI λ_ _ _ _ _ _ _ hc q=>mul_int q hc) λ_ _ _ _=>.int _
theorem Xw:OpR X (binaryOp .FloorDiv) (upO X.K Z wFdiv):=opD (opI λi j _ _ _ _ _ hc q=>floordiv_int (by have h:0<j:=hc.1;omega) (by have h:0<j:=hc.1;rw[Int.fdiv_eq_ediv_of_nonneg i (by omega)];exact q) (.inl (PyProof.noPylong_of_log2 hc.2))) λ_ _ _ _=>.int _
theorem zco:OpR X (binaryOp .FloorDiv) (upO X.K Z zgG):=opD (opI λ_ _ _ _ _ _ _ hc q=>floordiv_int hc.1 q (.inl (PyProof.noPylong_of_log2 hc.2))) λ_ _ _ _=>.int _
theorem Wf:OpR X (binaryOp .Mod) (upO X.K Z wMod):=opD zbp λ_ _ _ _=>.int _
theorem zc7:OpR X (binaryOp .Pow) (upO X.K Z wPow):=opD zbU λ_ _ _ _=>.int _
abbrev wLt:W2:=wI0 λi j=>.bl (decide (i<j))
abbrev wLe:W2:=wI0 λi j=>.bl (decide (i<=j))
abbrev wGt:W2:=wI0 λi j=>.bl (decide (j<i))
abbrev wGe:W2:=wI0 λi j=>.bl (decide (j<=i))
theorem YK:OpR X (compareOp .Lt) (upO X.K Z wLt):=Rm op_lt λ_ _ _ _=>.bl _
theorem RM:OpR X (compareOp .LtE) (upO X.K Z wLe):=Rm op_le λ_ _ _ _=>.bl _
theorem X0:OpR X (compareOp .Gt) (upO X.K Z wGt):=Rm op_gt λ_ _ _ _=>.bl _
theorem Kr:OpR X (compareOp .GtE) (upO X.K Z wGe):=Rm op_ge λ_ _ _ _=>.bl _
def wNeg:W1:=λx S Q=>match x with
 | .int i=>Q (.int (-i)) S
 | _=>False
theorem XS:UnR X (unaryOp .USub) (upU X.K Z wNeg):=zhQ zdF λx H Qv ⟨r,S,dx,Q,aZ,px,q,ret⟩=>by
 cases px<;>first
  | exact⟨_,rfl,ret _ _ _ _ _ Ext.refl aZ (.int _) q⟩
  | exact(show False from q).elim
end
def eqF:D->D->Option Bool
 | .non,.non=>some true
 | .bl i,.bl j=>some (i==j)
 | .int i,.int j=>some (decide (i=j))
 | .str i,.str j=>some (decide (i=j))
 | .non,.int _=>some false|.int _,.non=>some false|.non,.bl _=>some false|.bl _,.non=>some false|.non,.str _=>some false|.str _,.non=>some false
 | .int _,.str _=>some false|.str _,.int _=>some false|.bl _,.str _=>some false|.str _,.bl _=>some false
 | _,_=>none
def eqL (f:D->D->Option Bool):List D->List D->Option Bool
 | [],[]=>some true
 | x::xs,y::ys=>match f x y,eqL f xs ys with
  | some b,some c=>some (b&&c)
  | _,_=>none
 | _,_=>some false
def eqT (f:D->D->Option Bool):D->D->Option Bool
 | .tup xs,.tup ys=>eqL f xs ys
 | x,y=>eqF x y
abbrev eq1:D->D->Option Bool:=eqT eqF
abbrev eq2:D->D->Option Bool:=eqT eq1
def Uh (n:Nat)(f:D->D->Option Bool):Prop:=∀(X:Cx)(pins:LA)(σ:St)(H:Hp)(s:Shared)(r:List Addr)(A:Around)(dx dy:D)(x y:V)(u v:Value)(b:Bool),
 Inv X pins σ H s->A.units+n<cLine->Rp r H dx x->Rp r H dy y->ZK x u->ZK y v->f dx dy=some b->SeqAt.EqAt A s u v b
def Rg (f:D->D->Option Bool):Prop:=∀(r:List Addr)(H:Hp)(dx dy:D)(x:V)(b:Bool),Rp r H dx x->Rp r H dy x->f dx dy=some b->b=true
theorem Sw:Rg eqF:=by
 intro r H dx dy x b px py e;cases px<;>cases py<;>simp[eqF] at e<;>first|exact e.symm|exact e
theorem D1 {f:D->D->Option Bool}(hf:Rg f){r:List Addr}{H:Hp}:∀ {xs ys:List D} {vs:List V} {b:Bool},Rps r H xs vs->Rps r H ys vs->eqL f xs ys=some b->b=true
 | [],[],_,b,_,_,e=>by simp[eqL] at e;exact e
 | [],y::ys,vs,b,p,q,e=>by
  have h1:=p.unnil;subst h1;exact absurd q.1 (by simp)
 | x::xs,[],vs,b,p,q,e=>by
  have h1:=q.unnil;subst h1;exact absurd p.1 (by simp)
 | x::xs,y::ys,vs,b,p,q,e=>by
  obtain⟨v,vs',rfl,p1,p2⟩:=p.uncons;obtain⟨q1,q2⟩:=q.tail;unfold eqL at e;split at e
  ·rename_i b1 c1 e1 e2;have h1:=hf r H x y v b1 p1 q1 e1
   have h2:=D1 hf p2 q2 e2;subst h1;subst h2
   simp at e;exact e
  ·cases e
theorem DP (hf:Rg f):Rg (eqT f):=by
 intro r H dx dy x b px py e;cases px with
 | tup e1 l1 f1=>
  cases py with
  | tup e2 l2 f2=>
   rw[e1] at e2;cases e2
   exact D1 hf ⟨l1,f1⟩ ⟨l2,f2⟩ e
  | ref h=>simp[eqT,eqF] at e
  | exc h=>simp[eqT,eqF] at e
 | non=>exact Sw r H _ _ _ b .non py (by cases py<;>exact e)
 | bl i=>exact Sw r H _ _ _ b (.bl i) py (by cases py<;>exact e)
 | int i=>exact Sw r H _ _ _ b (.int i) py (by cases py<;>exact e)
 | str i=>exact Sw r H _ _ _ b (.str i) py (by cases py<;>exact e)
 | ref h=>cases py<;>simp[eqT,eqF] at e
 | exc h=>cases py<;>simp[eqT,eqF] at e
theorem Mx (n:Nat):Uh n eqF:=by
 intro X pins σ H s r A dx dy x y u v b I hu px py rx ry e;have aY:∀ {x y:V},ZK x u->ZK y v->Li x=true->Li y=true->eqV x y=b->SeqAt.EqAt A s u v b:=λrx ry fx fy e'=>by
  subst e';exact zan rx ry fx fy
 cases px<;>cases py<;>simp[eqF] at e<;>refine aY rx ry rfl rfl ?_<;>simp[eqV,e]<;>first|exact e|(subst e;simp)|skip
theorem Tw (I:Inv X pins σ H s)(h:H a=some (.tup xs)):∃aX:List Value,ZJ xs aX/\IsTup s.heap a aX.toArray/\xs.length<=sizeLine:=I.tuple (SqT.of h)
def Vo (f:D->D->Option Bool)(xs ys:List D)(j:Nat):Bool:=match xs[j]?,ys[j]? with
 | some x,some y=>(f x y).getD false
 | _,_=>false
theorem CG:∀ {xs ys:List D} {b:Bool},eqL f xs ys=some b->(∀(j:Nat)(x y:D),xs[j]?=some x->ys[j]?=some y->∃c,f x y=some c)/\((List.range (min xs.length ys.length)).all (Vo f xs ys)&&xs.length==ys.length)=b
 | [],[],b,e=>by simp[eqL] at e;subst e;simp
 | [],y::ys,b,e=>by simp[eqL] at e;subst e;simp
 | x::xs,[],b,e=>by simp[eqL] at e;subst e;simp
 | x::xs,y::ys,b,e=>by
  unfold eqL at e;split at e
  ·rename_i b1 c1 e1 e2;obtain⟨h1,h2⟩:=CG e2;refine⟨λj p q hp hq=>?_,?_⟩
   ·cases j with
    | zero=>simp at hp hq;subst hp;subst hq;exact⟨b1,e1⟩
    | succ j=>exact h1 j p q (by simpa using hp) (by simpa using hq)
   ·have z:min (x::xs).length (y::ys).length=min xs.length ys.length+1:=by simp[Nat.succ_min_succ]
    rw[z,List.range_succ_eq_map,List.all_cons,List.all_map];have e0:Vo f (x::xs) (y::ys) 0=b1:=by simp[Vo,e1]
    have es:(Vo f (x::xs) (y::ys) ∘ Nat.succ)=Vo f xs ys:=by funext j;simp[Vo]
    rw[e0,es];have e3:((x::xs).length==(y::ys).length)=(xs.length==ys.length):=by simp
    rw[e3,Bool.and_assoc,h2];simp at e;exact e
  ·cases e
theorem K3 {n:Nat}{f:D->D->Option Bool}(hf:Uh n f){X:Cx}{pins:LA}{σ:St}{H:Hp}{s:Shared}{r:List Addr}{A:Around}{xs ys:List D}{us vs:List V}{is js:List Value}{b:Bool}
  (I:Inv X pins σ H s)(hu:A.units+n<cLine)(p:Rps r H xs us)(q:Rps r H ys vs)(ri:ZJ us is)(rj:ZJ vs js)(e:eqL f xs ys=some b):
  (∀j (h1:j<is.toArray.size) (h2:j<js.toArray.size),SeqAt.EqAt A s is.toArray[j] js.toArray[j] (Vo f xs ys j))/\((List.range (min is.toArray.size js.toArray.size)).all (Vo f xs ys)&&is.toArray.size==js.toArray.size)=b:=by
 obtain⟨h1,h2⟩:=CG e;have l1:is.toArray.size=xs.length:=by rw[zH,<- ri.length,p.1]
 have l2:js.toArray.size=ys.length:=by rw[zH,<- rj.length,q.1]
 refine⟨λj hj1 hj2=>?_,by rw[l1,l2];exact h2⟩;have k1:j<xs.length:=by omega
 have k2:j<ys.length:=by omega
 have g1:xs[j]?=some xs[j]:=by simp[k1]
 have g2:ys[j]?=some ys[j]:=by simp[k2]
 obtain⟨x,gx,px⟩:=p.get g1;obtain⟨y,gy,py⟩:=q.get g2;obtain⟨u,gu,ru⟩:=ri.get gx;obtain⟨v,gv,rv⟩:=rj.get gy;obtain⟨c,hc⟩:=h1 j _ _ g1 g2;have eu:is.toArray[j]=u:=by
  have z:=zA.mp gu;simpa using z.2
 have ev:js.toArray[j]=v:=by
  have z:=zA.mp gv;simpa using z.2
 have ec:Vo f xs ys j=c:=by simp[Vo,g1,g2,hc]
 rw[eu,ev,ec];exact hf X pins σ H s r A _ _ x y u v c I hu px py ru rv hc
theorem Bp (hf:Uh n f)(hs:Rg f):Uh (n+1) (eqT f):=by
 intro X pins σ H s r A dx dy x y u v b I hu px py rx ry e;have flat:∀ {dx dy:D} {x y:V},Rp r H dx x->Rp r H dy y->ZK x u->ZK y v->eqF dx dy=some b->SeqAt.EqAt A s u v b:=λpx py rx ry e=>Mx (n+1) X pins σ H s r A _ _ _ _ u v b I hu px py rx ry e
 cases px with
 | @tup ds xs a e1 l1 f1=>
  cases py with
  | @tup es ys a' e2 l2 f2=>
   cases rx;cases ry;by_cases z:a=a'
   ·subst z;have hb:=DP hs r H _ _ _ b (.tup e1 l1 f1) (.tup e2 l2 f2) e;subst hb;exact SeqAt.EqAt.same _
   ·obtain⟨is,ri,ti,_⟩:=Tw I e1;obtain⟨js,rj,tj,_⟩:=Tw I e2;obtain⟨g1,g2⟩:=K3 (A:=A.in1) hf I (by show A.units+1+n<_;omega) ⟨l1,f1⟩ ⟨l2,f2⟩ ri rj e;have q:=SeqAt.RcAt.tuples (A:=A) ti tj (by omega) g1;rw[g2] at q;exact SeqAt.EqAt.of_refs z q
  | ref h=>simp[eqT,eqF] at e
  | _=>simp[eqT,eqF] at e
 | non=>exact flat .non py rx ry (by cases py<;>exact e)
 | bl i=>exact flat (.bl i) py rx ry (by cases py<;>exact e)
 | int i=>exact flat (.int i) py rx ry (by cases py<;>exact e)
 | str i=>exact flat (.str i) py rx ry (by cases py<;>exact e)
 | ref h=>cases py<;>simp[eqT,eqF] at e
 | exc h=>cases py<;>simp[eqT,eqF] at e
theorem EU (n:Nat):Uh (n+1) eq1:=Bp (Mx n) Sw
def wEq (f:D->D->Option Bool):W2:=λx y S Q=>match f x y with
 | some b=>Q (.bl b) S
 | none=>False
def wNe (f:D->D->Option Bool):W2:=λx y S Q=>match f x y with
 | some b=>Q (.bl (!b)) S
 | none=>False
theorem Cw {r:List Addr}{H:Hp}{dx dy:D}{x y:V}{b:Bool}(px:Rp r H dx x)(py:Rp r H dy y)(e:eqF dx dy=some b):MD x y=true/\decide (x=y)=b:=by
 cases px<;>cases py<;>simp[eqF] at e<;>simp[MD]<;>first|exact e|(subst e;simp)|skip
theorem zcH (hf:Uh n f)(hu:X.A.units+1+n<cLine):OpR X (compareOp .Eq) (upO X.K Z (wEq (eqT f))):=by
 intro pins s σ H x y v u Qv I rx ry h;obtain⟨r,S,dx,dy,Q,aZ,px,py,q,ret⟩:=h;unfold wEq at q;split at q
 ·rename_i b e;have flat:∀ {dx dy:D} {x y:V},Rp r H dx x->Rp r H dy y->ZK x v->ZK y u->eqF dx dy=some b->wpAny (model X.prog X.w) X.A (compareOp .Eq v u) (EP X pins σ Qv) X.xe s:=λpx py rx ry e=>by
   obtain⟨h1,h2⟩:=Cw px py e;refine FA pins s σ H _ _ v u Qv I rx ry ⟨h1,?_⟩;rw[h2];exact ret _ _ _ _ _ Ext.refl aZ (.bl b) q
  cases px with
  | @tup ds xs a e1 l1 f1=>
   cases py with
   | @tup es ys a' e2 l2 f2=>
    cases rx;cases ry;obtain⟨is,ri,ti,_⟩:=Tw I e1;obtain⟨js,rj,tj,_⟩:=Tw I e2;obtain⟨g1,g2⟩:=K3 (A:=X.A.in1) hf I (by show X.A.units+1+n<_;omega) ⟨l1,f1⟩ ⟨l2,f2⟩ ri rj e;refine SeqAt.eq_tupleAt (A:=X.A) ti tj (by omega) g1 ?_;rw[g2];exact⟨.bl b,H,I,rfl,ret _ _ _ _ _ Ext.refl aZ (.bl b) q⟩
   | _=>simp[eqT,eqF] at e
  | non=>exact flat .non py rx ry (by cases py<;>exact e)
  | bl i=>exact flat (.bl i) py rx ry (by cases py<;>exact e)
  | int i=>exact flat (.int i) py rx ry (by cases py<;>exact e)
  | str i=>exact flat (.str i) py rx ry (by cases py<;>exact e)
  | ref h=>cases py<;>simp[eqT,eqF] at e
  | exc h=>cases py<;>simp[eqT,eqF] at e
 ·exact q.elim
theorem zeu (hf:Uh n f)(hu:X.A.units+1+n<cLine):OpR X (compareOp .NotEq) (upO X.K Z (wNe (eqT f))):=by
 intro pins s σ H x y v u Qv I rx ry h;obtain⟨r,S,dx,dy,Q,aZ,px,py,q,ret⟩:=h;unfold wNe at q;split at q
 ·rename_i b e;have flat:∀ {dx dy:D} {x y:V},Rp r H dx x->Rp r H dy y->ZK x v->ZK y u->eqF dx dy=some b->wpAny (model X.prog X.w) X.A (compareOp .NotEq v u) (EP X pins σ Qv) X.xe s:=λpx py rx ry e=>by
   obtain⟨h1,h2⟩:=Cw px py e;refine op_ne pins s σ H _ _ v u Qv I rx ry ⟨h1,?_⟩;rw[h2];exact ret _ _ _ _ _ Ext.refl aZ (.bl (!b)) q
  cases px with
  | @tup ds xs a e1 l1 f1=>
   cases py with
   | @tup es ys a' e2 l2 f2=>
    cases rx;cases ry;obtain⟨is,ri,ti,_⟩:=Tw I e1;obtain⟨js,rj,tj,_⟩:=Tw I e2;obtain⟨g1,g2⟩:=K3 (A:=X.A.in1) hf I (by show X.A.units+1+n<_;omega) ⟨l1,f1⟩ ⟨l2,f2⟩ ri rj e;refine SeqAt.RcNeAt.tuples (A:=X.A) ti tj (by omega) g1 X.prog X.w _ _ ?_;rw[g2];exact⟨.bl (!b),H,I,rfl,ret _ _ _ _ _ Ext.refl aZ (.bl (!b)) q⟩
   | _=>simp[eqT,eqF] at e
  | non=>exact flat .non py rx ry (by cases py<;>exact e)
  | bl i=>exact flat (.bl i) py rx ry (by cases py<;>exact e)
  | int i=>exact flat (.int i) py rx ry (by cases py<;>exact e)
  | str i=>exact flat (.str i) py rx ry (by cases py<;>exact e)
  | ref h=>cases py<;>simp[eqT,eqF] at e
  | exc h=>cases py<;>simp[eqT,eqF] at e
 ·exact q.elim
theorem ZO (hr:ZU k X.A):OpR X (compareOp .Eq) (upO X.K Z (wEq eq2)):=zcH (EU 0) (by have:=hr.un;omega)
theorem do_ne (hr:ZU k X.A):OpR X (compareOp .NotEq) (upO X.K Z (wNe eq2)):=zeu (EU 0) (by have:=hr.un;omega)
section
variable {X:Cx}{Z:Zx}{a b c:Expr}{ta tb tc:TDE}{pos:Pos}{Yy:List Expr}
def Q7 (t:TDE):TDT:=λdl S Q=>t dl S λd S'=>match d with
 | .bl k=>Q k S'
 | _=>False
theorem JF {K:Fg}{Z:Zx}{r:List Addr}{H:Hp}{Q:Bool->Sto->Prop}{Qb:Bool->Hp->Prop}(h:∀b H' r' S',Ext r r' H H'->Rel K Z r' S' H'->Q b S'->Qb b H'):
  Ret K Z r H (λd S'=>match d with|.bl k=>Q k S'|_=>False) (λx H'=>∃k,x=.bl k/\Qb k H'):=λv H' r' d S' e aZ p q=>by
 cases p with
 | bl k=>exact⟨k,rfl,h k H' r' S' e aZ q⟩
 | _=>exact(show False from q).elim
theorem Zy {op:CmpOp}{w:W2}(ho:OpR X (compareOp op) (upO X.K Z w))(ha:PD X Z a ta)(hb:PD X Z b tb)(hm:behindInMarks op b=false):PDT X Z (.Compare a [op] [b] pos) (Q7 (dOp w ta tb)):=
 N6 (zcI ho ha hb hm) λσ H Qb ⟨r,dl,S,Q,rs,aZ,h,ret⟩=>LK ⟨r,dl,S,_,rs,aZ,h,JF ret⟩
theorem Wm {e:Expr}{t:TDE}(h:PD X Z e t)(he:∀aO,isTrue e X.env aO=(do let v <- aO;standAt e.pos;holding [v] (truthy v)):=by intro _;rfl):PDT X Z e (Q7 t):=
 N6 (zgF h he) λσ H Qb ⟨r,dl,S,Q,rs,aZ,h,ret⟩=>⟨r,dl,S,_,rs,aZ,h,JF ret⟩
def dNot (t:TDT):TDT:=λdl S Q=>t dl S λk S'=>Q (!k) S'
theorem Mf (ha:PDT X Z a t):PDT X Z (.UnaryOp .Not a pos) (dNot t):=
 N6 (zfP ha) λσ H Qb ⟨r,dl,S,Q,rs,aZ,h,ret⟩=>⟨r,dl,S,_,rs,aZ,h,λk H' r' S' e rel' q=>ret (!k) H' r' S' e rel' q⟩
def dAnd (t u:TDT):TDT:=λdl S Q=>t dl S λk S1=>if k=true then u dl S1 Q else Q false S1
def dOr (t u:TDT):TDT:=λdl S Q=>t dl S λk S1=>if k=true then Q true S1 else u dl S1 Q
theorem VX (ha:PDT X Z a t):PDW X Z (.BoolOp .And [a] pos) t:=zfI ha
theorem OW (ha:PDT X Z a t):PDW X Z (.BoolOp .Or [a] pos) t:=zgI ha
theorem VY (ha:PDT X Z a t)(hb:PDW X Z (.BoolOp .And (b::Yy) pos) u):PDW X Z (.BoolOp .And (a::b::Yy) pos) (dAnd t u):=
 EO (zgQ ha hb) λσ H Qb ⟨r,dl,S,Q,rs,aZ,h,ret⟩=>⟨r,dl,S,_,rs,aZ,h,λk H1 r1 S1 e1 aB q1=>by
  cases k with
  | true=>exact Y4 ⟨r1,dl,S1,Q,rs.ext e1,aB,(by simpa using q1),λk' H2 r2 S2 e2=>ret k' H2 r2 S2 (e1.trans e2)⟩
  | false=>exact YY (ret false H1 r1 S1 e1 aB (by simpa using q1))⟩
theorem UC (ha:PDT X Z a t)(hb:PDW X Z (.BoolOp .Or (b::Yy) pos) u):PDW X Z (.BoolOp .Or (a::b::Yy) pos) (dOr t u):=
 EO (pw_or ha hb) λσ H Qb ⟨r,dl,S,Q,rs,aZ,h,ret⟩=>⟨r,dl,S,_,rs,aZ,h,λk H1 r1 S1 e1 aB q1=>by
  cases k with
  | true=>exact Y4 (ret true H1 r1 S1 e1 aB (by simpa using q1))
  | false=>exact YY ⟨r1,dl,S1,Q,rs.ext e1,aB,(by simpa using q1),λk' H2 r2 S2 e2=>ret k' H2 r2 S2 (e1.trans e2)⟩⟩
def dAndV (ta tb:TDE):TDE:=λdl S Q=>ta dl S λx S1=>match x with
 | .bl k=>if k=true then tb dl S1 Q else Q (.bl false) S1
 | _=>False
def dOrV (ta tb:TDE):TDE:=λdl S Q=>ta dl S λx S1=>match x with
 | .bl k=>if k=true then Q (.bl true) S1 else tb dl S1 Q
 | _=>False
def dNotV (ta:TDE):TDE:=λdl S Q=>ta dl S λx S1=>match x with
 | .bl k=>Q (.bl (!k)) S1
 | _=>False
theorem RH {op}(h:PD X Z a t):PD X Z (.BoolOp op [a] pos) t:=zew h
theorem Kv (ha:PD X Z a ta)(hb:PD X Z (.BoolOp .And (b::Yy) pos) tb):PD X Z (.BoolOp .And (a::b::Yy) pos) (dAndV ta tb):=
 Z9 (AV ha hb) λσ H Qv ⟨r,dl,S,Q,rs,aZ,h,ret⟩=>⟨r,dl,S,_,rs,aZ,h,λv H1 r1 d S1 e1 aB p q1=>by
  cases p with
  | bl k=>
   refine⟨k,rfl,?_⟩;cases k with
   | true=>exact Y4 ⟨r1,dl,S1,Q,rs.ext e1,aB,(by simpa using q1),ret.ext e1⟩
   | false=>exact YY (ret _ H1 r1 (.bl false) S1 e1 aB (.bl false) (by simpa using q1))
  | _=>exact(show False from q1).elim⟩
theorem Cv (ha:PD X Z a ta)(hb:PD X Z (.BoolOp .Or (b::Yy) pos) tb):PD X Z (.BoolOp .Or (a::b::Yy) pos) (dOrV ta tb):=
 Z9 (pe_or ha hb) λσ H Qv ⟨r,dl,S,Q,rs,aZ,h,ret⟩=>⟨r,dl,S,_,rs,aZ,h,λv H1 r1 d S1 e1 aB p q1=>by
  cases p with
  | bl k=>
   refine⟨k,rfl,?_⟩;cases k with
   | true=>exact Y4 (ret _ H1 r1 (.bl true) S1 e1 aB (.bl true) (by simpa using q1))
   | false=>exact YY ⟨r1,dl,S1,Q,rs.ext e1,aB,(by simpa using q1),ret.ext e1⟩
  | _=>exact(show False from q1).elim⟩
theorem zgN (ha:PD X Z a ta):PD X Z (.UnaryOp .Not a pos) (dNotV ta):=
 Z9 (zcq ha) λσ H Qv ⟨r,dl,S,Q,rs,aZ,h,ret⟩=>⟨r,dl,S,_,rs,aZ,h,λv H1 r1 d S1 e1 aB p q1=>by
  cases p with
  | bl k=>exact⟨k,rfl,ret _ H1 r1 (.bl (!k)) S1 e1 aB (.bl (!k)) q1⟩
  | _=>exact(show False from q1).elim⟩
def dIfE (t:TDT)(ta tb:TDE):TDE:=λdl S Q=>t dl S λk S1=>if k=true then ta dl S1 Q else tb dl S1 Q
theorem XH (hc:PDT X Z c t)(ha:PD X Z a ta)(hb:PD X Z b tb):PD X Z (.IfExp c a b pos) (dIfE t ta tb):=
 Z9 (zbM hc ha hb) λσ H Qv ⟨r,dl,S,Q,rs,aZ,h,ret⟩=>⟨r,dl,S,_,rs,aZ,h,λk H1 r1 S1 e1 aB q1=>by
  cases k with
  | true=>exact Y4 ⟨r1,dl,S1,Q,rs.ext e1,aB,(by simpa using q1),ret.ext e1⟩
  | false=>exact YY ⟨r1,dl,S1,Q,rs.ext e1,aB,(by simpa using q1),ret.ext e1⟩⟩
def JK (w w':W2)(ta tb tc:TDE):TDE:=λdl S Q=>ta dl S λx S1=>tb dl S1 λy S2=>w x y S2 λz S3=>match z with
 | .bl k=>if k=true then tc dl S3 λu S4=>w' y u S4 Q else Q (.bl false) S3
 | _=>False
theorem Bq (h:up X.K Z (JK w w' ta tb tc) σ H Qv):Gu (upO X.K Z w) (upO X.K Z w') (up X.K Z ta) (up X.K Z tb) (up X.K Z tc) σ H Qv:=by
 obtain⟨r,dl,S,Q,rs,aZ,h,ret⟩:=h;refine⟨r,dl,S,_,rs,aZ,h,λv H1 r1 dx S1 e1 aB p1 h1=>⟨r1,dl,S1,_,rs.ext e1,aB,h1,λv2 H2 r2 dy S2 e2 aC p2 h2=>⟨r2,S2,dx,dy,_,aC,p1.ext e2,p2,h2,λv3 H3 r3 dz S3 e3 aE p3 h3=>?_⟩⟩⟩;cases p3 with
 | bl k=>
  refine⟨k,rfl,?_⟩;cases k with
  | true=>exact Y4 ⟨r3,dl,S3,_,rs.ext (e1.trans (e2.trans e3)),aE,(by simpa using h3),λv4 H4 r4 du S4 e4 aF p4 h4=>⟨r4,S4,dy,du,Q,aF,(p2.ext e3).ext e4,p4,h4,ret.ext (e1.trans (e2.trans (e3.trans e4)))⟩⟩
  | false=>exact YY (ret _ H3 r3 (.bl false) S3 (e1.trans (e2.trans e3)) aE (.bl false) (by simpa using h3))
 | _=>exact(show False from h3).elim
theorem zdy (ho:OpR X (compareOp op) (upO X.K Z w))(ho':OpR X (compareOp op') (upO X.K Z w'))(ha:PD X Z a ta)(hb:PD X Z b tb)(hc:PD X Z c tc)(hm:lastMarks [op,op'] [b,c]=false:=by with_unfolding_all rfl):PD X Z (.Compare a [op,op'] [b,c] pos) (JK w w' ta tb tc):=Z9 (zdb ho ho' ha hb hc hm) λ_ _ _ h=>Bq h
theorem B9 {op op':CmpOp}{w w':W2}(ho:OpR X (compareOp op) (upO X.K Z w))(ho':OpR X (compareOp op') (upO X.K Z w'))(ha:PD X Z a ta)(hb:PD X Z b tb)(hc:PD X Z c tc)
  (hm:lastMarks [op,op'] [b,c]=false:=by with_unfolding_all rfl):PDT X Z (.Compare a [op,op'] [b,c] pos) (Q7 (JK w w' ta tb tc)):=
 N6 (zai ho ho' ha hb hc hm) λσ H Qb ⟨r,dl,S,Q,rs,aZ,h,ret⟩=>Bq ⟨r,dl,S,_,rs,aZ,h,JF ret⟩
def Lv:D->Bool
 | .non=>true
 | _=>false
def wIsN:W2:=λx y S Q=>match y with
 | .non=>Q (.bl (Lv x)) S
 | _=>False
def wNotN:W2:=λx y S Q=>match y with
 | .non=>Q (.bl (!Lv x)) S
 | _=>False
theorem Av {r:List Addr}{H:Hp}{d:D}{x:V}(p:Rp r H d x):decide (x=.non)=Lv d:=by
 cases p<;>simp[Lv]
theorem YH:OpR X (compareOp .Is) (upO X.K Z wIsN):=UG ze6 λx y H Qv ⟨r,S,dx,dy,Q,aZ,px,py,q,ret⟩=>by
 cases py with
 | non=>exact⟨rfl,by rw[Av px];exact ret _ _ _ _ _ Ext.refl aZ (.bl _) q⟩
 | _=>exact(show False from q).elim
theorem Dr:OpR X (compareOp .IsNot) (upO X.K Z wNotN):=UG zhj λx y H Qv ⟨r,S,dx,dy,Q,aZ,px,py,q,ret⟩=>by
 cases py with
 | non=>exact⟨rfl,by rw[Av px];exact ret _ _ _ _ _ Ext.refl aZ (.bl _) q⟩
 | _=>exact(show False from q).elim
variable {e:Expr}{es:List Expr}
def Kc:TDA:=λ_ S Q=>Q [] S
def J2 (ta:TDE)(tr:TDA):TDA:=λdl S Q=>ta dl S λx S1=>tr dl S1 λxs S2=>Q (x::xs) S2
theorem Zd:PDA X Z [] Kc:=ER BH λσ H Qv ⟨r,dl,S,Q,rs,aZ,h,ret⟩=>ret [] H r [] S Ext.refl aZ Rps.nil h
theorem Za (ha:PD X Z e te)(hr:PDA X Z es t)(hs:starEach (e::es) X.env=(false,eval e X.env)::starEach es X.env:=by rfl):PDA X Z (e::es) (J2 te t):=
 ER (C3 ha hr hs) λσ H Qv ⟨r,dl,S,Q,rs,aZ,h,ret⟩=>⟨r,dl,S,_,rs,aZ,h,λv H1 r1 d S1 e1 aB p1 h1=>⟨r1,dl,S1,_,rs.ext e1,aB,h1,λvs H2 r2 ds S2 e2 aC p2 h2=>
  ret (v::vs) H2 r2 (d::ds) S2 (e1.trans e2) aC (Rps.cons (p1.ext e2) p2) h2⟩⟩
def dTup (t:TDA):TDE:=λdl S Q=>t dl S λds S1=>if ds.length<=1000 then Q (.tup ds) S1 else False
def dLst (t:TDA):TDE:=λdl S Q=>t dl S λds S1=>if ds.length<=1000 then Q (.ref S1.length) (S1++[.lst ds]) else False
theorem Kg [Decidable p] (h:if p then A else False):p/\A:=by
 split at h
 ·exact⟨by assumption,h⟩
 ·exact h.elim
theorem Tv (h:n<=1000):n<=sizeLine:=yN (QJ h)
theorem ZG {x1}(h:PDA X Z es t):PD X Z (.Tuple es x1 pos) (dTup t):=
 Z9 (zbP h) λσ H Qv ⟨r,dl,S,Q,rs,aZ,h,ret⟩=>⟨r,dl,S,_,rs,aZ,h,λvs H1 r1 ds S1 e1 aB p1 h1=>by
  obtain⟨hl,h1⟩:=Kg h1;refine⟨by rw[<- p1.1];exact Tv hl,λp hp=>?_⟩;have x:Ext r1 r1 H1 (upd H1 p (.tup vs)):=⟨λ_ _ q=>q,λa xs q=>Wi hp _ _ q,λa c q=>Wi hp _ _ q⟩;exact ret _ _ r1 (.tup ds) S1 (e1.trans x) (aB.same (Wi hp)) ((p1.ext x).tupR Y2) h1⟩
theorem UK {r:List Addr}{p:Addr}{H:Hp}{n:Nat}(h:r.length=n):Rp (r++[p]) H (.ref n) (.ref p):=.ref (by subst h;simp)
theorem Yi (h:PDA X Z es t):PD X Z (.List es pos) (dLst t):=
 Z9 (zgj h) λσ H Qv ⟨r,dl,S,Q,rs,aZ,h,ret⟩=>⟨r,dl,S,_,rs,aZ,h,λvs H1 r1 ds S1 e1 aB p1 h1=>by
  obtain⟨hl,h1⟩:=Kg h1;refine⟨by rw[<- p1.1];exact Tv hl,λp hp=>?_⟩;obtain⟨aC,x⟩:=aB.push hp p1;exact ret _ _ _ (.ref S1.length) _ (e1.trans x) aC (UK aB.len) h1⟩
def wIx:W2:=λx y S Q=>match x,y with
 | .tup xs,.int i=>match atI xs i with
  | some d=>Q d S
  | none=>False
 | .ref n,.int i=>match lAt S n with
  | some o=>match atI (Zv o) i with
   | some d=>Q d S
   | none=>False
  | none=>False
 | _,_=>False
theorem EE {r:List Addr}{H:Hp}{ds:List D}{vs:List V}{i:Int}{d:D}(h:Rps r H ds vs)(e:atI ds i=some d):∃v,atI vs i=some v/\Rp r H d v:=by
  unfold atI at e ⊢;rw[<- h.1];cases q:ixN ds.length i with
  | none=>
   rw[q] at e;cases e
  | some j=>
    rw[q] at e;exact h.get e
theorem do_ix:IxR X (upO X.K Z wIx):=by
 intro value slice pins s σ H x y v u Qv I rx ry h hs;obtain⟨r,S,dx,dy,Q,aZ,px,py,q,ret⟩:=h;cases px with
 | @tup ds xs a e1 l1 f1=>
  cases py with
  | int i=>
   have q':(match atI ds i with|some d=>Q d S|none=>False):=q;split at q'
   ·rename_i d e;obtain⟨w,hw,pw⟩:=EE ⟨l1,f1⟩ e;exact zcB value slice pins s σ H _ _ v u Qv I rx ry ⟨a,xs,i,w,rfl,rfl,SqT.of e1,hw,ret w H r d S Ext.refl aZ pw q'⟩ hs
   ·exact q'.elim
  | _=>exact(show False from q).elim
 | @ref n a e1=>
  cases py with
  | int i=>
   have q':(match lAt S n with|some o=>(match atI (Zv o) i with|some d=>Q d S|none=>False)|none=>False):=q;split at q'
   ·rename_i o eo;obtain⟨eo,eL⟩:=Xf eo;obtain⟨a',ha,ob⟩:=aZ.at eo;rw[e1] at ha;cases ha
    obtain⟨xs,sq,pr⟩:=ob.list eL;split at q'
    ·rename_i d e;obtain⟨w,hw,pw⟩:=EE pr e;exact zaA value slice pins s σ H _ _ v u Qv I rx ry ⟨a,xs,i,w,rfl,rfl,sq,hw,ret w H r d S Ext.refl aZ pw q'⟩ hs
    ·exact q'.elim
   ·exact q'.elim
  | _=>exact(show False from q).elim
 | _=>exact(show False from q).elim
theorem Aa (ha:PD X Z a ta)(hb:PD X Z b tb)(hs:RZ b):PD X Z (.Subscript a b pos) (dOp wIx ta tb):=Z9 (pe_ix do_ix ha hb hs) λ_ _ _ h=>LK h
theorem Zg (ha:PD X Z a ta)(hb:PD X Z b tb)(hs:RZ b:=by exact λ_ _=>rfl):PD X Z (.Subscript a b pos) (dOp wIx ta tb):=Aa ha hb hs
end
structure Bk (fs:List Addr)(H H':Hp)(B h:Heap)(ea:Addr):Prop where
 trk:∀b u,H' b=some u->∃o,B.get? b=some o
 old:∀b o,h.get? b=some o->H b=none->b ∉ fs->B.get? b=some o
 all:∀b o,h.get? b=some o->b ∉ fs->∃o',B.get? b=some o'
 new:H' ea=none
def CXE (P:Program)(w:World):CXT:=λouter H s E e s'=>∃(ea c:Addr)(a0:Value)(B:Heap)(H':Hp),e=.ref ea/\s'.os=s.os/\AllBare s'.gens/\Un (frs outer) [] H H' s.heap s'.heap/\HOk P w H' s'.heap/\
 Heap.FlyingW B outer ea (.ref c) a0 s'.heap/\Bk (frs outer) H H' B s.heap ea/\E (.ref c) none H'
section
variable {X:Cx}{pins:LA}{σ:St}{H:Hp}{s:Shared}
end
section
variable {P:Program}{w:World}{K:Fg}{mg:Str->Option Value}{base:Heap}{N:List Str}{qual:Str}{scope:Scope}{f:Addr}{cdv:Value}{A:Around}{outer:List Env}{s0:Shared}{H0:Hp}{E:XK}
end
structure Xc (K:Fg)(mg:Str->Option Value)(x:Str)(C:Addr)(bm:List Value)(nid:String):Prop where
 bound:mg x=some (.ref C)
 ex:W.excIn K C bm nid=true
abbrev WC:=List D->Sto->DK->Prop
abbrev Sd:=List D->Sto->DK->(Addr->Sto->Prop)->Prop
def upC (K:Fg)(Z:Zx)(w:WC):List V->Hp->VK->Prop:=λxs H Qv=>∃r S ds Q,Rel K Z r S H/\Rps r H ds xs/\w ds S Q/\Ret K Z r H Q Qv
def upF (K:Fg)(sd:Sd):Sp:=λvs H Qv E=>∃ex:Addr->Sto->Prop,upC K (Zc ex E) (λds S Q=>sd ds S Q ex) vs H Qv
def Jd (w:WC)(t:TDA):TDE:=λdl S Q=>t dl S λds S1=>w ds S1 Q
def Fy (ex:Ev->Addr->Sto->Prop)(sd:Sd)(t:TDA):TDE:=λdl S Q=>t dl S λds S1=>sd ds S1 Q (ex dl)
def Wy (X:Cx)(W:St->XK):Prop:=∀(pins:LA)(σ:St)(H:Hp)(s:Shared)(e:Value)(s':Shared),Inv X pins σ H s->CXE X.prog X.w X.stack H s (W σ) e s'->X.xe e s'
theorem Ka (F:Yk X.prog X.w X.K X.mg X.base (CXE X.prog X.w) k f fd ps sp)(hr:ZU k X.A)(hb:YS X.K fd ps [])(hx:Wy X W)(I:Inv X pins σ H s)(r:ZJ vs us)(h:sp vs H Q (W σ)):wpAny (model X.prog X.w) X.A (call (.ref f) us) (EP X pins σ Q) X.xe s:=by
 have hl:us.length=ps.length:=by rw[<- r.length];exact F.len _ _ _ _ h
 have hb':=hb s us I.kIn (by rw[xA];exact hl);rw[xA] at hb';refine wpAny_call (codeAny_mono (F.run X.A X.stack s H ⟨us,[]⟩ us vs Q (W σ) hr I.env0 hb' r h) λz s' hq=>?_);cases z with
 | error ev=>exact hx pins σ H s ev s' I hq
 | ok fl=>
  cases fl with
  | ret u=>exact I.after hq
  | _=>exact False.elim hq
theorem zci (F:Yk X.prog X.w X.K X.mg X.base (CXE X.prog X.w) k f fd ps sp)(hr:ZU k X.A)(hg:Gl X x)(hm:X.mg x=some (.ref f))(hk:PySem.W.keepIn X.K (.ref f)=true)(hb:YS X.K fd ps [])(hx:Wy X W)
  (ha:PA X (e::es) t)(hdb:(x==("__debug__":Str))=false)(he:starEach (e::es) X.env=(false,eval e X.env)::starEach es X.env)(hpl:(backTo pos (starEach es X.env)).any (·.1)=false):
  PE X (.Call (.Name x p) (e::es) [] pos) (λσ H Q=>t σ H λvs H1=>sp vs H1 Q (W σ)):=by
 intro pins s σ H Q I h;refine wpAny_Call_Name_kw (BB I hg hm ?_ hdb);exact PySem.W.callWith_K (h₀:=X.base) I.ok.mod.kin hk (thn (ha pos pins s σ H _ I h) λus s1 ⟨vs,H1,I1,r,q⟩=>⟨I1.kIn,Ka F hr hb hx I1 r q⟩) he hpl
section
variable {X:Cx}{Z:Zx}{x:Str}{p pos:Pos}{e:Expr}{es:List Expr}{t:TDA}{id T:String}{w:WC}
theorem CH (h:up X.K Z (Jd w t) σ H Qv):upA X.K Z t σ H λvs H1=>upC X.K Z w vs H1 Qv:=by
 obtain⟨r,dl,S,Q,rs,aZ,h,ret⟩:=h;exact⟨r,dl,S,_,rs,aZ,h,λvs H1 r1 ds S1 e1 aB p1 h1=>⟨r1,S1,ds,Q,aB,p1,h1,ret.ext e1⟩⟩
theorem ZR (hc:YD X (.builtin id) (upC X.K Z w))(hg:Gl X x)(hm:X.mg x=none)(hv:bootBuiltins x=some (.builtin id))(ha:PDA X Z (e::es) t)(hn:x≠"__name__":=by decide)(hdb:(x==("__debug__":Str))=false:=by decide)
  (he:starEach (e::es) X.env=(false,eval e X.env)::starEach es X.env:=by rfl)(hpl:(backTo pos (starEach es X.env)).any (·.1)=false:=by rfl):PD X Z (.Call (.Name x p) (e::es) [] pos) (Jd w t):=
 Z9 (zb0 hc hg hm hv ha hn hdb he hpl) λ_ _ _ h=>CH h
theorem S6 (hc:YD X (.type T) (upC X.K Z w))(hg:Gl X x)(hm:X.mg x=none)(hv:bootBuiltins x=some (.type T))(ha:PDA X Z (e::es) t)(hn:x≠"__name__":=by decide)(hdb:(x==("__debug__":Str))=false:=by decide)
  (he:starEach (e::es) X.env=(false,eval e X.env)::starEach es X.env:=by rfl)(hpl:(backTo pos (starEach es X.env)).any (·.1)=false:=by rfl):PD X Z (.Call (.Name x p) (e::es) [] pos) (Jd w t):=
 Z9 (zhw hc hg hm hv ha hn hdb he hpl) λ_ _ _ h=>CH h
theorem Mq {sd:Sd}{r:List Addr}{S:Sto}{H:Hp}{dl:Ev}{σ:St}{ds:List D}{vs:List V}{Q:DK}{Qv:VK}(rs:Rs r H dl σ)(aZ:Rel X.K Z r S H)(p:Rps r H ds vs)(h:sd ds S Q (Z.ex dl))(ret:Ret X.K Z r H Q Qv):upF X.K sd vs H Qv (Z.w σ):=
 ⟨Z.ex dl,r,S,ds,Q,⟨aZ.b,λ_ _ c H' r' S' x _ rb q=>aZ.xw dl σ c H' r' S' x (rs.ext x) rb q⟩,p,h,λv H' r' d S' x rel' pv q=>ret v H' r' d S' x ⟨rel'.b,aZ.xw.ext x⟩ pv q⟩
theorem zbV (F:Yk X.prog X.w X.K X.mg X.base (CXE X.prog X.w) k f fd ps (upF X.K sd))(hr:ZU k X.A)(hg:Gl X x)(hm:X.mg x=some (.ref f))(hk:PySem.W.keepIn X.K (.ref f)=true)(hb:YS X.K fd ps [])(hx:Wy X W)(ha:PDA X ⟨ex,W⟩ (e::es) t)(hdb:(x==("__debug__":Str))=false:=by decide)(he:starEach (e::es) X.env=(false,eval e X.env)::starEach es X.env:=by rfl)(hpl:(backTo pos (starEach es X.env)).any (·.1)=false:=by rfl):PD X ⟨ex,W⟩ (.Call (.Name x p) (e::es) [] pos) (Fy ex sd t):=
 Z9 (zci F hr hg hm hk hb hx ha hdb he hpl) λσ H Qv ⟨r,dl,S,Q,rs,aZ,h,ret⟩=>⟨r,dl,S,_,rs,aZ,h,λvs H1 r1 ds S1 e1 aB p1 h1=>Mq (Z:=⟨ex,W⟩) (rs.ext e1) aB p1 h1 (ret.ext e1)⟩
def wAbs:WC:=λds S Q=>match ds with
 | [.int i]=>Q (.int (if i<0 then -i else i)) S
 | _=>False
theorem FK:YD X (.builtin "abs") (upC X.K Z wAbs):=G0 A4 λxs H Qv ⟨r,S,ds,Q,aZ,ps,q,ret⟩=>by
 unfold wAbs at q;split at q
 ·rename_i i;obtain⟨v,vs,rfl,p1,p2⟩:=ps.uncons;have z:=p2.unnil;subst z;cases p1;exact⟨i,rfl,ret _ _ _ _ _ Ext.refl aZ (.int _) q⟩
 ·exact q.elim
def Y5:List D->Option (List Int)
 | []=>some []
 | .int i::r=>(Y5 r).map (i::·)
 | _::_=>none
def S5 (le:Int->Int->Prop)(two:Int->Int->Int):WC:=λds S Q=>match ds with
 | [.int i,.int j]=>Q (.int (two i j)) S
 | [.ref n]=>match lAt S n with
  | some o=>match Y5 (Zv o) with
   | some xs=>xs≠[]/\∀m,m∈xs->(∀y∈xs,le y m)->Q (.int m) S
   | none=>False
  | none=>False
 | _=>False
abbrev wMax:WC:=S5 (λy m=>y<=m) λi j=>if j > i then j else i
abbrev wMin:WC:=S5 (λy m=>m<=y) λi j=>if j<i then j else i
theorem Kj {r:List Addr}{H:Hp}:∀ {ds:List D} {ns:List Int} {vs:List V} {us:List Value},Y5 ds=some ns->Rps r H ds vs->ZJ vs us->∃xs:List (Int×Tok),us.toArray=intItems xs.toArray/\xs.map (·.1)=ns
 | [],ns,vs,us,e,p,q=>by
  have z:=p.unnil;subst z;cases q;simp[Y5] at e;subst e;exact⟨[],by simp[intItems],rfl⟩
 | d::ds,ns,vs,us,e,p,q=>by
  obtain⟨v,vs',rfl,p1,p2⟩:=p.uncons;cases d with
  | int i=>
   cases p1;cases q with
   | cons q1 q2=>
    obtain⟨t,rfl⟩:=q1;simp only[Y5,zG] at e;obtain⟨ms,e1,rfl⟩:=e;obtain⟨xs,h1,h2⟩:=Kj e1 p2 q2;refine⟨(i,t)::xs,?_,by simp[h2]⟩;simp[intItems] at h1 ⊢;exact h1
  | _=>simp[Y5] at e
theorem Aw (f:Nat->Int):∀k j,j<=k->f j<=f (argBest (λi j=>decide (f i > f j)) k)
 | 0,j,h=>by
  have z:j=0:=by omega
  subst z;exact yA _
 | k+1,j,h=>by
  have ih:=Aw f k;unfold argBest;split
  ·rename_i hb;have hb':f (k+1) > f (argBest (λi j=>decide (f i > f j)) k):=of_decide_eq_true hb;by_cases z:j=k+1
   ·subst z;exact yA _
   ·have:=ih j (by omega);omega
  ·rename_i hb;have hb':¬ f (k+1) > f (argBest (λi j=>decide (f i > f j)) k):=λq=>hb (decide_eq_true q)
   by_cases z:j=k+1
   ·subst z;omega
   ·exact ih j (by omega)
theorem Bf (f:Nat->Int):∀k j,j<=k->f (argBest (λi j=>decide (f i<f j)) k)<=f j
 | 0,j,h=>by
  have z:j=0:=by omega
  subst z;exact yA _
 | k+1,j,h=>by
  have ih:=Bf f k;unfold argBest;split
  ·rename_i hb;have hb':f (k+1)<f (argBest (λi j=>decide (f i<f j)) k):=of_decide_eq_true hb;by_cases z:j=k+1
   ·subst z;exact yA _
   ·have:=ih j (by omega);omega
  ·rename_i hb;have hb':¬ f (k+1)<f (argBest (λi j=>decide (f i<f j)) k):=λq=>hb (decide_eq_true q)
   by_cases z:j=k+1
   ·subst z;omega
   ·exact ih j (by omega)
theorem IB (bt:Nat->Nat->Bool):∀k,argBest bt k<=k
 | 0=>zC _
 | k+1=>by
  unfold argBest;split
  ·exact zC _
  ·exact Nat.le_succ_of_le (IB bt k)
theorem Hf {xs:List (Int×Tok)}{ns:List Int}(h:xs.map (·.1)=ns){j:Nat}{y:Int}(e:ns[j]?=some y):numAt xs.toArray j=y:=by
  subst h;unfold numAt;rw[zE] at e;simp only[List.getElem?_toArray];cases q:xs[j]? with
  | none=>
   rw[q] at e;cases e
  | some z=>rw[q] at e;simpa using e
theorem C5 {xs:List (Int×Tok)}{ns:List Int}(h:xs.map (·.1)=ns){j:Nat}(hj:j<ns.length):numAt xs.toArray j∈ns:=by
 have e:ns[j]?=some ns[j]:=by simp[hj]
 rw[Hf h e];exact yM hj
theorem WA (hc:X.calm=true):YD X (.builtin "max") (upC X.K Z wMax):=by
 intro pins s σ H xs us Qv I rv h;obtain⟨r,S,ds,Q,aZ,ps,q,ret⟩:=h;unfold wMax S5 at q;split at q
 ·rename_i i j;obtain⟨v,vs,rfl,p1,p2⟩:=ps.uncons;obtain⟨v2,vs2,rfl,p3,p4⟩:=p2.uncons;have z:=p4.unnil;subst z;cases p1;cases p3;exact zik hc pins s σ H _ us Qv I rv ⟨i,j,rfl,ret _ _ _ _ _ Ext.refl aZ (.int _) q⟩
 ·rename_i n;obtain⟨v,vs,rfl,p1,p2⟩:=ps.uncons;have z:=p2.unnil;subst z;split at q
  ·rename_i o eo;split at q
   ·rename_i ns en;obtain⟨hne,q⟩:=q;obtain⟨eo,eL⟩:=Xf eo;obtain⟨a,ha,ob⟩:=aZ.at eo;cases p1 with
    | ref h1=>
     rw[h1] at ha;cases ha
     obtain⟨ys,sq,pr⟩:=ob.list eL;obtain⟨u,rfl,ru⟩:=Vq rv;cases ru;obtain⟨aX,ri,pl,hz⟩:=I.list sq;obtain⟨zs,hz1,hz2⟩:=Kj en pr ri;have hl:zs.length=ns.length:=by rw[<- hz2,zB]
     have hpos:0<ns.length:=List.length_pos_iff.mpr hne
     have isl:=pl.isList;rw[hz1] at isl;refine max_intList (I.ok.hd hc) isl (by simp;omega) λv h' tk hv hk=>?_
     have hvi:=intItems_at hv;obtain⟨t,rfl⟩:=hvi;have hb:=IB (λi j=>decide (numAt zs.toArray i > numAt zs.toArray j)) (zs.toArray.size-1)
     have hsz:zs.toArray.size=ns.length:=by simp[hl]
     refine⟨.int _,H,I.kept hk,⟨_,rfl⟩,ret _ _ _ _ _ Ext.refl aZ (.int _) (q _ (C5 hz2 (by omega)) λy hy=>?_)⟩;obtain⟨j,hj,ej⟩:=yK.mp hy;have e1:=Hf hz2 (show ns[j]?=some y by simp[hj,ej]);rw[<- e1];exact Aw _ _ j (by omega)
   ·exact q.elim
  ·exact q.elim
 ·exact q.elim
theorem VA (hc:X.calm=true):YD X (.builtin "min") (upC X.K Z wMin):=by
 intro pins s σ H xs us Qv I rv h;obtain⟨r,S,ds,Q,aZ,ps,q,ret⟩:=h;unfold wMin S5 at q;split at q
 ·rename_i i j;obtain⟨v,vs,rfl,p1,p2⟩:=ps.uncons;obtain⟨v2,vs2,rfl,p3,p4⟩:=p2.uncons;have z:=p4.unnil;subst z;cases p1;cases p3;exact zhR hc pins s σ H _ us Qv I rv ⟨i,j,rfl,ret _ _ _ _ _ Ext.refl aZ (.int _) q⟩
 ·rename_i n;obtain⟨v,vs,rfl,p1,p2⟩:=ps.uncons;have z:=p2.unnil;subst z;split at q
  ·rename_i o eo;split at q
   ·rename_i ns en;obtain⟨hne,q⟩:=q;obtain⟨eo,eL⟩:=Xf eo;obtain⟨a,ha,ob⟩:=aZ.at eo;cases p1 with
    | ref h1=>
     rw[h1] at ha;cases ha
     obtain⟨ys,sq,pr⟩:=ob.list eL;obtain⟨u,rfl,ru⟩:=Vq rv;cases ru;obtain⟨aX,ri,pl,hz⟩:=I.list sq;obtain⟨zs,hz1,hz2⟩:=Kj en pr ri;have hl:zs.length=ns.length:=by rw[<- hz2,zB]
     have hpos:0<ns.length:=List.length_pos_iff.mpr hne
     have isl:=pl.isList;rw[hz1] at isl;refine min_intList (I.ok.hd hc) isl (by simp;omega) λv h' tk hv hk=>?_
     have hvi:=intItems_at hv;obtain⟨t,rfl⟩:=hvi;have hb:=IB (λi j=>decide (numAt zs.toArray i<numAt zs.toArray j)) (zs.toArray.size-1)
     have hsz:zs.toArray.size=ns.length:=by simp[hl]
     refine⟨.int _,H,I.kept hk,⟨_,rfl⟩,ret _ _ _ _ _ Ext.refl aZ (.int _) (q _ (C5 hz2 (by omega)) λy hy=>?_)⟩;obtain⟨j,hj,ej⟩:=yK.mp hy;have e1:=Hf hz2 (show ns[j]?=some y by simp[hj,ej]);rw[<- e1];exact Bf _ _ j (by omega)
   ·exact q.elim
  ·exact q.elim
 ·exact q.elim
def T8:WC:=λds S Q=>match ds with
 | [.tup xs]=>Q (.int xs.length) S
 | [.ref n]=>match lAt S n with
  | some o=>Q (.int (Zv o).length) S
  | none=>False
 | _=>False
theorem YW:YD X (.builtin "len") (upC X.K Z T8):=G0 zb8 λxs H Qv ⟨r,S,ds,Q,aZ,ps,q,ret⟩=>by
 unfold T8 at q;split at q
 ·rename_i ys;obtain⟨v,vs,rfl,p1,p2⟩:=ps.uncons;have z:=p2.unnil;subst z;obtain⟨a,zs,rfl,h1,h2⟩:=p1.untup;exact⟨a,zs,rfl,.inr (SqT.of h1),by rw[<- h2.1];exact ret _ _ _ _ _ Ext.refl aZ (.int _) q⟩
 ·rename_i n;obtain⟨v,vs,rfl,p1,p2⟩:=ps.uncons;have z:=p2.unnil;subst z;split at q
  ·rename_i o eo;obtain⟨eo,eL⟩:=Xf eo;obtain⟨a,ha,ob⟩:=aZ.at eo;cases p1 with
   | ref h1=>
    rw[h1] at ha;cases ha
    obtain⟨ys,sq,pr⟩:=ob.list eL;exact⟨_,ys,rfl,.inl sq,by rw[<- pr.1];exact ret _ _ _ _ _ Ext.refl aZ (.int _) q⟩
  ·exact q.elim
 ·exact q.elim
end
section
variable {X:Cx}{Z:Zx}{st:Stmt}{Yy:List Stmt}{t u:TDS}{e:Expr}{te:TDE}{pos:Pos}
def Dv:TDS:=λE dl S=>E.nx dl S
def Wx (t u:TDS):TDS:=λE dl S=>t { nx:=λdl' S'=>u E dl' S',rt:=E.rt,bk:=E.bk,ct:=E.ct } dl S
theorem ZH:YZ X Z [] Dv:=EH zcR λF σ H ⟨r,dl,S,E,rs,aZ,h,ret⟩=>ret.nx σ H r dl S Ext.refl rs aZ h
theorem Zf (h1:PDS X Z st t)(h2:YZ X Z Yy u):YZ X Z (st::Yy) (Wx t u):=
 EH (zaq h1 h2) λF σ H ⟨r,dl,S,E,rs,aZ,h,ret⟩=>⟨r,dl,S,_,rs,aZ,h,λσ' H' r' dl' S' x rs' rel' q=>⟨r',dl',S',E,rs',rel',q,ret.ext x⟩,ret.bk,ret.ct,ret.rt⟩
theorem Ze (h1:PDS X Z st t):YZ X Z [st] t:=zbO h1
def zeW:TDS:=λE dl S=>E.bk dl S
theorem zgh:PDS X Z (.Break pos) zeW:=YN zbY λF σ H ⟨r,dl,S,E,rs,aZ,h,ret⟩=>ret.bk σ H r dl S Ext.refl rs aZ h
def dDrop (te:TDE):TDS:=λE dl S=>te dl S λ_ S1=>E.nx dl S1
theorem Ye (he:PD X Z e te)(hs:swapsWith e none pos.line X.env=pure false:=by rfl):PDS X Z (.Expr e pos) (dDrop te):=
 YN (zbL he hs) λF σ H ⟨r,dl,S,E,rs,aZ,h,ret⟩=>⟨r,dl,S,_,rs,aZ,h,λv H1 r1 d S1 x aB p q=>ret.nx σ H1 r1 dl S1 x (rs.ext x) aB q⟩
def dRet (te:TDE):TDS:=λE dl S=>te dl S E.rt
theorem Zn (he:PD X Z e te):PDS X Z (.Return (some e) pos) (dRet te):=
 YN (zdn he) λF σ H ⟨r,dl,S,E,rs,aZ,h,ret⟩=>⟨r,dl,S,_,rs,aZ,h,ret.rt⟩
def dRetN:TDS:=λE _ S=>E.rt .non S
theorem zeN:PDS X Z (.Return none pos) dRetN:=YN zcJ λF σ H ⟨r,dl,S,E,rs,aZ,h,ret⟩=>ret.rt _ _ _ _ _ Ext.refl aZ .non h
def dIf (c:TDT)(t u:TDS):TDS:=λE dl S=>c dl S λk S1=>if k=true then t E dl S1 else u E dl S1
theorem ZD (hc:PDT X Z c tc)(ha:YZ X Z a t)(hb:YZ X Z b u):PDS X Z (.If c a b pos) (dIf tc t u):=
 YN (ps_if hc ha hb) λF σ H ⟨r,dl,S,E,rs,aZ,h,ret⟩=>⟨r,dl,S,_,rs,aZ,h,λk H1 r1 S1 x aB q=>by
  cases k with
  | true=>exact Y4 ⟨r1,dl,S1,E,rs.ext x,aB,(by simpa using q),ret.ext x⟩
  | false=>exact YY ⟨r1,dl,S1,E,rs.ext x,aB,(by simpa using q),ret.ext x⟩⟩
def To (i:Nat)(te:TDE):TDS:=λE dl S=>te dl S λd S1=>E.nx (dl.set i (some d)) S1
theorem XA (hN:X.N.Nodup)(hi:X.N[i]?=some x)(hx:Loc X.env.scope x)(he:PD X Z e te)(hs:swapsWith e (some (.Name x pos')) pos.line X.env=pure false:=by rfl)(hf:X.fn x=true\/X.env.scope.names.lookup x=some .local:=by first|exact .inl rfl|exact .inr rfl|assumption):PDS X Z (.Assign [.Name x pos'] e pos) (To i te):=
 YN (zeo hN hi hx he hs hf) λF σ H ⟨r,dl,S,E,rs,aZ,h,ret⟩=>⟨r,dl,S,_,rs,aZ,h,λv H1 r1 d S1 x aB p q=>ret.nx _ H1 r1 _ S1 x ((rs.ext x).set i p) aB q⟩
theorem Zt {i:Nat}{x:Str}{pos':Pos}(hN:X.N.Nodup)(he:PD X Z e te)(hi:X.N[i]?=some x:=by rfl)(hx:Loc X.env.scope x:=by exact Or.inl rfl)(hs:swapsWith e (some (.Name x pos')) pos.line X.env=pure false:=by rfl)
  (hf:X.fn x=true\/X.env.scope.names.lookup x=some .local:=by first|exact .inl rfl|exact .inr rfl|assumption):PDS X Z (.Assign [.Name x pos'] e pos) (To i te):=XA hN hi hx he hs hf
def zbf (c:TDT)(tb:TDS):TDS:=λE dl S=>∃W:Nat->Ev->Sto->Prop,(∃m,W m dl S)/\∀m dl S,W m dl S->
 c dl S λk S1=>if k=true then tb { nx:=λdl' S'=>∃m',m'<m/\W m' dl' S',rt:=E.rt,bk:=E.nx,ct:=λdl' S'=>∃m',m'<m/\W m' dl' S' } dl S1 else E.nx dl S1
theorem E9 (hp:PassesOwn (model X.prog X.w) X.A X.env X.xe)(hc:PDT X Z c tc)(hb:YZ X Z body tb):PDS X Z (.While c body [] pos) (zbf tc tb):=
 YN (A1 hp hc hb) λF σ H ⟨r,dl,S,E,rs,aZ,⟨W,⟨m0,w0⟩,turn⟩,ret⟩=>by
  refine⟨λm σ' H'=>∃r' dl' S',Ext r r' H H'/\Rs r' H' dl' σ'/\Rel X.K Z r' S' H'/\W m dl' S',⟨m0,r,dl,S,Ext.refl,rs,aZ,w0⟩,?_⟩;rintro m σ1 H1 ⟨r1,dl1,S1,x1,rs1,aB,w1⟩;refine⟨r1,dl1,S1,_,rs1,aB,turn m dl1 S1 w1,λk H2 r2 S2 x2 aC q2=>?_⟩;cases k with
  | true=>
   refine Y4 ⟨λσ' H'=>∃m',m'<m/\∃r' dl' S',Ext r r' H H'/\Rs r' H' dl' σ'/\Rel X.K Z r' S' H'/\W m' dl' S',λ_ _ z=>z,r2,dl1,S2,_,rs1.ext x2,aC,(by simpa using q2),?_⟩;have go:∀σ' H' r' dl' S',Ext r2 r' H2 H'->Rs r' H' dl' σ'->Rel X.K Z r' S' H'->(∃m',m'<m/\W m' dl' S')->∃m',m'<m/\∃r' dl' S',Ext r r' H H'/\Rs r' H' dl' σ'/\Rel X.K Z r' S' H'/\W m' dl' S':=
    λσ' H' r' dl' S' x rs' rel' ⟨m',hm,w'⟩=>⟨m',hm,r',dl',S',x1.trans (x2.trans x),rs',rel',w'⟩
   exact⟨go,λσ' H' r' dl' S' x rs' rel' q=>ret.nx σ' H' r' dl' S' (x1.trans (x2.trans x)) rs' rel' q,go,ret.rt.ext (x1.trans x2)⟩
  | false=>exact YY (ret.nx σ1 H2 r2 dl1 S2 (x1.trans x2) (rs1.ext x2) aC (by simpa using q2))
def dFor (i:Nat)(tl:TDE)(tb:TDS):TDS:=λE dl S=>tl dl S λd S1=>match d with
 | .ref n=>(lAt S1 n).isSome=true/\∃W:Nat->Nat->Ev->Sto->Prop,(∃m,W 0 m dl S1)/\∀k m dl S,W k m dl S->match lAt S n with
  | some o=>match (Zv o)[k]? with
   | some x=>tb { nx:=λdl' S'=>∃m',m'<m/\W (k+1) m' dl' S',rt:=E.rt,bk:=E.nx,ct:=λdl' S'=>∃m',m'<m/\W (k+1) m' dl' S' } (dl.set i (some x)) S
   | none=>E.nx dl S
  | none=>False
 | _=>False
theorem WD (hp:PassesOwn (model X.prog X.w) X.A X.env X.xe)(hc:X.calm=true)(hN:X.N.Nodup)(hi:X.N[i]?=some x)(hx:Loc X.env.scope x)(hl:PD X Z aU tl)(hb:YZ X Z body tb)(hf:X.fn x=true\/X.env.scope.names.lookup x=some .local:=by first|exact .inl rfl|exact .inr rfl|assumption)(hs:∀y,foldedSetIterable aU X.env y=pure y:=by intro _;rfl):PDS X Z (.For (.Name x pos') aU body [] pos) (dFor i tl tb):=
 YN (Sl hp hc (JA hl) (TY hN hi hx hf) hb hs) λF σ H ⟨r,dl,S,E,rs,aZ,h,ret⟩=>by
  refine⟨r,dl,S,_,rs,aZ,h,λv H1 r1 d S1 x1 aB p1 q1=>?_⟩;cases p1 with
  | @ref n a hn=>
   obtain⟨aQ,W,⟨m0,w0⟩,turn⟩:=q1;have sql:∀ {r':List Addr} {S':Sto} {H':Hp} {o:Ob},Ext r1 r' H1 H'->Rel X.K Z r' S' H'->lAt S' n=some o->∃xs,SqL X.K H' a xs/\Rps r' H' (Zv o) xs:=λ{r' S' H' o} x' rel' eo=>by
    obtain⟨eo,eL⟩:=Xf eo;obtain⟨a',ha,ob⟩:=rel'.at eo;rw[x'.adr n a hn] at ha;cases ha
    exact ob.list eL
   obtain⟨o1,eo1⟩:=yP.mp aQ;obtain⟨xs1,sq1,_⟩:=sql Ext.refl aB eo1;refine⟨a,rfl,⟨xs1,sq1⟩,λk m σ' H'=>∃r' dl' S',Ext r1 r' H1 H'/\Rs r' H' dl' σ'/\Rel X.K Z r' S' H'/\W k m dl' S',⟨m0,r1,dl,S1,Ext.refl,rs.ext x1,aB,w0⟩,?_⟩;rintro k m σ2 H2 ⟨r2,dl2,S2,x2,rs2,aC,w2⟩;have q:=turn k m dl2 S2 w2;split at q
   ·rename_i o eo;obtain⟨xs,sq,pr⟩:=sql x2 aC eo;split at q
    ·rename_i y ey;obtain⟨v,hv,pv⟩:=pr.get ey;have go:∀ {r3:List Addr} {H3:Hp},Ext r2 r3 H2 H3->∀σ' H' r' dl' S',Ext r3 r' H3 H'->Rs r' H' dl' σ'->Rel X.K Z r' S' H'->(∃m',m'<m/\W (k+1) m' dl' S')->∃m',m'<m/\∃r' dl' S',Ext r1 r' H1 H'/\Rs r' H' dl' σ'/\Rel X.K Z r' S' H'/\W (k+1) m' dl' S':=
      λ{r3 H3} x3 σ' H' r' dl' S' x rs' rel' ⟨m',hm,w'⟩=>⟨m',hm,r',dl',S',x2.trans (x3.trans x),rs',rel',w'⟩
     refine .inr ⟨⟨xs,v,sq,hv⟩,λσ' H'=>∃m',m'<m/\∃r' dl' S',Ext r1 r' H1 H'/\Rs r' H' dl' σ'/\Rel X.K Z r' S' H'/\W (k+1) m' dl' S',λ_ _ z=>z,λv' H' y'=>?_⟩;obtain⟨eH,y'⟩:=y';subst eH;have ev:v'=v:=by
      have z:=y' xs sq;rw[hv] at z;exact(Option.some.inj z).symm
     subst ev;exact⟨r2,_,S2,_,rs2.set i pv,aC,q,go Ext.refl,λσ' H' r' dl' S' x rs' rel' z=>ret.nx σ' H' r' dl' S' (x1.trans (x2.trans x)) rs' rel' z,go Ext.refl,ret.rt.ext (x1.trans x2)⟩
    ·rename_i ey;have aM:(Zv o).length<=k:=yQ.mp ey;exact .inl ⟨⟨xs,sq,by rw[<- pr.1];exact aM⟩,ret.nx σ2 H2 r2 dl2 S2 (x1.trans x2) rs2 aC q⟩
   ·exact q.elim
  | _=>exact(show False from q1).elim
def dForR (i:Nat)(ta:TDA)(tb:TDS):TDS:=λE dl S=>ta dl S λds S1=>match ds with
 | [.int j]=>(-(2^62)<=j/\j<2^62)/\∃W:Nat->Ev->Sto->Prop,W 0 dl S1/\∀k dl S,W k dl S->
   if k<j.toNat then tb { nx:=λdl' S'=>W (k+1) dl' S',rt:=E.rt,bk:=E.nx,ct:=λdl' S'=>W (k+1) dl' S' } (dl.set i (some (.int k))) S else E.nx dl S
 | _=>False
theorem P9 (hp:PassesOwn (model X.prog X.w) X.A X.env X.xe)(hc:X.calm=true)(hN:X.N.Nodup)(hi:X.N[i]?=some x)(hx:Loc X.env.scope x)(hg:Gl X "range")(hm:X.mg "range"=none)(ha:PDA X Z [a] ta)(hb:YZ X Z body tb)(hf:X.fn x=true\/X.env.scope.names.lookup x=some .local:=by first|exact .inl rfl|exact .inr rfl|assumption)(hs:∀y,foldedSetIterable (.Call (.Name "range" p) [a] [] pos) X.env y=pure y:=by intro _;rfl)(hst:starEach [a] X.env=[(false,eval a X.env)]:=by rfl):
  PDS X Z (.For (.Name x pos') (.Call (.Name "range" p) [a] [] pos) body [] aK) (dForR i ta tb):=
 YN (Sl hp hc (HL hg hm ha hst) (TY hN hi hx hf) hb hs) λF σ H ⟨r,dl,S,E,rs,aZ,h,ret⟩=>by
  refine⟨r,dl,S,_,rs,aZ,h,λvs H1 r1 ds S1 x1 aB p1 q1=>?_⟩;split at q1
  ·rename_i j;obtain⟨v,vs',rfl,p2,p3⟩:=p1.uncons;have z:=p3.unnil;subst z;cases p2;obtain⟨⟨b1,b2⟩,W,w0,turn⟩:=q1;refine⟨j,rfl,b1,b2,λk m σ' H'=>m=j.toNat-k/\∃r' dl' S',Ext r1 r' H1 H'/\Rs r' H' dl' σ'/\Rel X.K Z r' S' H'/\W k dl' S',⟨j.toNat,by simp,r1,dl,S1,Ext.refl,rs.ext x1,aB,w0⟩,?_⟩;rintro k m σ2 H2 ⟨em,r2,dl2,S2,x2,rs2,aC,w2⟩;have q:=turn k dl2 S2 w2;split at q
   ·rename_i hk;have go:∀σ' H' r' dl' S',Ext r2 r' H2 H'->Rs r' H' dl' σ'->Rel X.K Z r' S' H'->W (k+1) dl' S'->∃r' dl' S',Ext r1 r' H1 H'/\Rs r' H' dl' σ'/\Rel X.K Z r' S' H'/\W (k+1) dl' S':=
     λσ' H' r' dl' S' x rs' rel' w'=>⟨r',dl',S',x2.trans x,rs',rel',w'⟩
    have pk:Rp r2 H2 (.int (k:Int)) (.int (0+(k:Int))):=by rw[Int.zero_add];exact .int _
    refine .inr ⟨hk,λσ' H'=>∃r' dl' S',Ext r1 r' H1 H'/\Rs r' H' dl' σ'/\Rel X.K Z r' S' H'/\W (k+1) dl' S',λσ' H' z=>⟨j.toNat-(k+1),by omega,rfl,z⟩,λv' H' y'=>?_⟩;obtain⟨eH,y'⟩:=y';subst eH;subst y';exact⟨r2,_,S2,_,rs2.set i pk,aC,q,go,λσ' H' r' dl' S' x rs' rel' z=>ret.nx σ' H' r' dl' S' (x1.trans (x2.trans x)) rs' rel' z,go,ret.rt.ext (x1.trans x2)⟩
   ·rename_i hk;exact .inl ⟨by show j.toNat<=k;omega,ret.nx σ2 H2 r2 dl2 S2 (x1.trans x2) rs2 aC q⟩
  ·exact q1.elim
end
def We (N:List Str)(ds:List D):Ev:=ds.map some++List.replicate (N.length-ds.length) none
theorem EN {r:List Addr}{H:Hp}{N:List Str}{ds:List D}{vs:List V}(h:Rps r H ds vs):Rs r H (We N ds) (L2.Wz N vs):=by
  refine⟨by simp[We,L2.Wz,h.1],λi d e=>?_⟩;unfold We at e;by_cases hi:i<ds.length
  · rw[zI (by simpa using hi),zE] at e
    cases q:ds[i]? with
    | none=>
   rw[q] at e;cases e
    | some z=>
      rw[q] at e;cases e;obtain⟨v,hv,pv⟩:=h.get q;refine⟨v,?_,pv⟩;unfold L2.Wz;rw[zI (by simpa [h.1] using hi),zE,hv];rfl
  · rw[yB (by simpa using hi),List.getElem?_replicate] at e
    split at e<;>cases e
section
variable {P:Program}{w:World}{K:Fg}{mg:Str->Option Value}{base:Heap}
abbrev Z0:Zx:=Zc (λ_ _=>False) (λ_ _ _=>False)
theorem Yq:Wy X Z0.w:=λ_ _ _ _ _ _ _ h=>by
 obtain⟨_,_,_,_,_,_,_,_,_,_,_,_,q⟩:=h;exact q.elim
theorem Xo {x qual:Str}{st:Stmt}{f:Addr}{fd:FuncData}{N ps:List Str}{k:Nat}{sd:Sd}(F:Fun K x qual st f fd)(Sc:Zu N ps (Zm st))(len:∀ds S Q ex,sd ds S Q ex->ds.length=ps.length)
  (hbody:∀(cdv:Value)(A:Around)(outer:List Env)(s:Shared)(H:Hp)(E:XK),ZU k (A.deeper (envOfC qual (Zm st) s.heap.objs.size f cdv))->
   ∃t,YZ (Wq (CXE P w) P w K mg base N qual (Zm st) f cdv A outer s H E).nox Z0 (Xy st) t/\∀ds S Q ex,sd ds S Q ex->t { nx:=λ_ S'=>Q .non S',rt:=Q } (We N ds) S):Yk P w K mg base (CXE P w) (k+1) f fd ps (upF K sd):=by
 obtain⟨oc,od,kV,doc,pm,an,cdv,ct,osl,rfl,lk,hcd⟩:=F.ex;refine F6 lk hcd Sc (λvs H Q E h=>?_) λA outer s H vs Q E hr h=>?_
 ·obtain⟨ex,r,S,ds,Q',aZ,p,q,ret⟩:=h;rw[<- p.1];exact len ds S Q' ex q
 ·obtain⟨ex,r,S,ds,Q',aZ,p,q,ret⟩:=h;obtain⟨t,ht,hq⟩:=hbody cdv A outer s H E hr;have back:∀ {H':Hp} {r':List Addr} {S':Sto},Ext r r' H H'->Rel K Z0 r' S' H'->Rel K (Zc ex E) r' S' H':=λx rel'=>⟨rel'.b,aZ.xw.ext x⟩
  refine⟨upS K Z0 t,ht.nox,r,We N ds,S,_,EN p,⟨aZ.b,λ_ _ _ _ _ _ _ _ _ z=>z.elim⟩,hq ds S Q' ex q,?_,?_,?_,?_⟩
  ·intro σ' H' r' dl' S' x _ rel' z;exact ret .non H' r' .non S' x (back x rel') .non z
  ·intro σ' H' r' dl' S' x _ rel' z;exact z
  ·intro σ' H' r' dl' S' x _ rel' z;exact z
  ·intro v H' r' d S' x rel' p' z;exact ret v H' r' d S' x (back x rel') p' z
end
open PySem
def Sz (n:Nat)(i:Int):Prop:=i.natAbs<2^n
theorem Sz.mono (h:Sz m i)(hn:m<=n):Sz n i:=zQ h (Nat.pow_le_pow_right (by decide) hn)
theorem Sz.bits (h:Sz n i):Builtin.Int.intBits i<=n:=by
 unfold Builtin.Int.intBits;split
 ·exact zK _
 ·rename_i hz;have hp:i.natAbs≠0:=by
   intro z;have z2:i=0:=by omega
   simp[z2] at hz
  have:=(Nat.log2_lt hp).mpr h;omega
theorem ZN (hi:Sz m i)(hj:Sz n j)(hm:m<=1048576:=by decide)(hn:n<=1048576:=by decide):IntMulOk i j:=by
 have e20:(2:Nat)^20=1048576:=by decide
 exact IntMulOk.of_bits (yD hi.bits (by omega)) (yD hj.bits (by omega))
theorem Sz.of {n:Nat}{i:Int}(m:Nat)(h:i.natAbs<=m)(hm:m<2^n:=by decide):Sz n i:=Nat.lt_of_le_of_lt h hm
theorem Sz.mul (hi:Sz m i)(hj:Sz n j):Sz (m+n) (i*j):=by
 unfold Sz at *
 rw[Nat.pow_add,Int.natAbs_mul];exact Nat.mul_lt_mul'' hi hj
theorem Sz.add (hi:Sz m i)(hj:Sz n j):Sz (max m n+1) (i+j):=by
 have h1:Sz (max m n) i:=hi.mono (Nat.le_max_left _ _)
 have h2:Sz (max m n) j:=hj.mono (Nat.le_max_right _ _);unfold Sz at *
 have e:(2:Nat)^(max m n+1)=2^max m n+2^max m n:=by rw[Nat.pow_succ];omega
 rw[e];have:=Int.natAbs_add_le i j;omega
theorem Sz.neg (hi:Sz m i):Sz m (-i):=by
 unfold Sz at *
 rw[Int.natAbs_neg];exact hi
theorem Sz.sub (hi:Sz m i)(hj:Sz n j):Sz (max m n+1) (i-j):=by
 rw[Int.sub_eq_add_neg];exact hi.add hj.neg
theorem Sz.log (h:Sz n i)(hi:i≠0)(hn:n<=9000:=by decide):i.natAbs.log2<9000:=by
 have:=(Nat.log2_lt (by omega:i.natAbs≠0)).mpr h;omega
theorem Sz.fd {n:Nat}{i:Int}(h:Sz n i)(hi:0<i)(hn:n<=9000:=by decide):0<i/\i.natAbs.log2<9000:=⟨hi,h.log (by omega) hn⟩
theorem X6 {a b:Int}(hb:0<b):0<=a%b/\a%b<b:=⟨Int.emod_nonneg _ (by omega),Int.emod_lt_of_pos _ hb⟩
example (x:Int):-(10^40)<=x%(2*10^40+1)-10^40:=by omega
example (x:Int):x%(2*10^40+1)-10^40<=10^40:=by omega
example (x:Int) (h:-(10^40)<=x) (h2:x<=2*10^41):Sz 140 x:=Sz.of (2*10^41) (by omega)
theorem zhg (a b:Int):Int.gcd b (a%b)=Int.gcd a b:=by
 rw[Int.emod_def,show a-b*(a/b)=a-(a/b)*b by rw[Int.mul_comm],Int.gcd_sub_mul_right_right,Int.gcd_comm]
def W4 (i:Int):Int:=if i<0 then -i else i
theorem DV (i:Int):0<=W4 i:=by unfold W4;split<;>omega
theorem zaM (a b:Int):Int.gcd (W4 a) (W4 b)=Int.gcd a b:=by
 have h:∀i:Int,(W4 i).natAbs=i.natAbs:=λi=>by unfold W4;split<;>omega
 unfold Int.gcd;rw[h,h]
theorem F8 (m:Int)(hg:0<g):m/g*g<=m/\m<(m/g+1)*g:=by
 have h1:=Int.emod_add_mul_ediv m g
 have h2:=Int.emod_nonneg m (show g≠0 by omega)
 have h3:=Int.emod_lt_of_pos m hg
 have e:(m/g+1)*g=g*(m/g)+g:=by grind
 have e2:m/g*g=g*(m/g):=Int.mul_comm _ _;omega
theorem zaC (m:Int)(hg:0<g):m<=-(-m/g)*g/\(-(-m/g)-1)*g<m:=by
 obtain⟨h1,h2⟩:=F8 (-m) hg;have e1:-(-m/g)*g=-(-m/g*g):=by rw[xD]
 have e2:(-(-m/g)-1)*g=-((-m/g+1)*g):=by grind
 omega
def wIf (C:Int->Int->Bool)(g:Int->Int->D):W2:=λx y S Q=>match x,y with
 | .int i,.int j=>if C i j=true then Q (g i j) S else False
 | _,_=>False
theorem opIf (h:OpR X f (upO X.K Z (wI C g)))(hc:∀i j,C' i j=true->C i j):OpR X f (upO X.K Z (wIf C' g)):=
 UG h λx y H Qv ⟨r,S,dx,dy,Q,aZ,px,py,q,ret⟩=>⟨r,S,dx,dy,Q,aZ,px,py,by
  unfold wIf at q;split at q
  ·obtain⟨h1,h2⟩:=Kg q;exact⟨hc _ _ h1,h2⟩
  ·exact q.elim,ret⟩
def Lb (_ j:Int):Bool:=decide (0<j)&&decide (j<1073741824)
abbrev zg9:W2:=wIf Lb λi j=>.int (i/j)
abbrev wModL:W2:=wIf Lb λi j=>.int (i%j)
def powB (i j:Int):Bool:=decide (0<=j)&&decide (j<=1000)&&decide (-1000<i)&&decide (i<1000)
abbrev wPowL:W2:=wIf powB λi j=>.int (i^j.toNat)
theorem ET (h:Lb i j=true):0<j/\j<1073741824:=by
 unfold Lb at h;simpa using h
theorem YV:OpR X (binaryOp .FloorDiv) (upO X.K Z zg9):=opIf Xw λi j h=>by
 obtain⟨h1,h2⟩:=ET h;refine⟨h1,?_⟩;have:j.natAbs.log2<30:=(Nat.log2_lt (by omega)).mpr (by omega);omega
theorem Yp:OpR X (binaryOp .Mod) (upO X.K Z wModL):=opIf Wf λi j h=>(ET h).1
theorem Sg:OpR X (binaryOp .Pow) (upO X.K Z wPowL):=opIf zc7 λi j h=>by
 unfold powB at h;simp at h;refine⟨h.1.1.1,by have:=h.1.1.2;omega,?_⟩;have h3:=h.1.2
 have h4:=h.2
 have big:(18446744073709551616:Nat)=2^64:=by decide
 omega
structure Df (K:Fg)(mg:Str->Option Value)(x:Str)(st:Stmt)(ps:List Str) where
 f:Addr
 fd:FuncData
 F:Fun K x x st f fd
 m:mg x=some (.ref f)
 b:YS K fd ps []
structure Fk (P:Program)(w:World)(K:Fg)(mg:Str->Option Value)(base:Heap)(k:Nat)(x:Str)(ps:List Str)(sd:Sd) where
 f:Addr
 fd:FuncData
 ok:Yk P w K mg base (CXE P w) k f fd ps (upF K sd)
 m:mg x=some (.ref f)
 kp:W.keepIn K (.ref f)=true
 b:YS K fd ps []
def Df.mk' {P:Program}{w:World}{K:Fg}{mg:Str->Option Value}{base:Heap}{k:Nat}{x:Str}{st:Stmt}{ps:List Str}{sd:Sd}(d:Df K mg x st ps)(h:Yk P w K mg base (CXE P w) k d.f d.fd ps (upF K sd)):Fk P w K mg base k x ps sd:=
 ⟨d.f,d.fd,h,d.m,d.F.kp,d.b⟩
theorem Je (G:Fk X.prog X.w X.K X.mg X.base k x ps sd)(hr:ZU k X.A)(hx:Wy X W)(hg:Gl X x)(ha:PDA X ⟨ex,W⟩ (e::es) t)(hdb:(x==("__debug__":Str))=false:=by decide)(he:starEach (e::es) X.env=(false,eval e X.env)::starEach es X.env:=by rfl)(hpl:(backTo pos (starEach es X.env)).any (·.1)=false:=by rfl):
  PD X ⟨ex,W⟩ (.Call (.Name x p) (e::es) [] pos) (Fy ex sd t):=zbV G.ok hr hg G.m G.kp G.b hx ha hdb he hpl
theorem zim {st:Stmt}:PDS X Z st (λ_ _ _=>False):=YN zcr λF σ H ⟨_,_,_,_,_,_,h,_⟩=>h
theorem zeG {r:List Addr}{H:Hp}(ns:List Int):Rps r H (ns.map D.int) (ns.map V.int):=by
 refine⟨by simp,λi d v h1 h2=>?_⟩;rw[zE] at h1 h2;cases q:ns[i]? with
 | none=>rw[q] at h1;cases h1
 | some z=>
  rw[q] at h1 h2;cases h1;cases h2;exact .int z
theorem ifF {c:Bool}{A B:Prop}(h:c=false)(b:B):if c=true then A else B:=by rw[h];exact YY b
theorem ifP {c A B:Prop} [Decidable c] (h:c)(a:A):if c then A else B:=by rw[if_pos h];exact a
theorem ifD {c:Prop} [Decidable c] {A B:Prop}(h1:c->A)(h2:¬ c->B):if decide c=true then A else B:=by
 by_cases h:c
 ·rw[decide_eq_true h];exact Y4 (h1 h)
 ·rw[decide_eq_false h];exact YY (h2 h)
open PySem L2
open PySem L2
theorem Sz.pow (h:Sz n i)(k:Nat):Sz (n*k+1) (i^k):=by
 unfold Sz at *
 rw[Int.natAbs_pow,Nat.pow_succ,Nat.pow_mul];have h1:i.natAbs^k<=(2^n)^k:=Nat.pow_le_pow_left (yN h) k
 have h2:0<(2^n)^k:=yG (yG (by decide));omega
theorem ifN {c:Prop} [Decidable c] {A B:Prop}(h1:¬ c->A)(h2:c->B):if (!decide c)=true then A else B:=by
 by_cases h:c
 ·rw[decide_eq_true h];exact L2.YY (h2 h)
 ·rw[decide_eq_false h];exact L2.Y4 (h1 h)
section
variable {X:Cx}{Z:Zx}
end
structure UX (k:Nat)(A:Around):Prop where
 dp:A.depth+3*k+5<recursionLimit
 un:A.units+16*k+200<cLine
theorem UX.mono (r:UX k A)(h:j<=k):UX j A:=⟨by have:=r.dp;omega,by have:=r.un;omega⟩
theorem UX.deeper {k:Nat}{A:Around}(r:UX (k+1) A)(env:Env):UX k (A.deeper env):=
 ⟨by have:=r.dp;show A.depth+1+3*k+5<_;omega,by have:=r.un;show A.units+3+16*k+200<_;omega⟩
structure FnOkN (P:Program)(w:World)(K:Fg)(mg:Str->Option Value)(base:Heap)(k:Nat)(f:Addr)(fd:FuncData)(ps:List Str)(sp:Sp):Prop where
 len:∀vs H Q E,sp vs H Q E->vs.length=ps.length
 run:∀(A:Around)(outer:List Env)(s:Shared)(H:Hp)(args:Args)(us:List Value)(vs:List V)(Q:VK)(E:XK),UX k A->Ul P w K mg base A outer s H->BindsTo s fd args (ps.zip us)->ZJ vs us->sp vs H Q E->
  codeAny (model P w) A (.call (.ref f) args) (CR (CXE P w) outer P w H s Q E) s
section
variable {X:Cx}{k:Nat}{f:Addr}{fd:FuncData}{ps:List Str}{sp:Sp}{W:St->XK}{x:Str}{p pos:Pos}{e:Expr}{es:List Expr}{t:TA}
end
section
variable {X:Cx}{Z:Zx}{x:Str}{p pos:Pos}{e:Expr}{es:List Expr}{t:TDA}
end
section
variable {P:Program}{w:World}{K:Fg}{mg:Str->Option Value}{base:Heap}
end
structure FkN (P:Program)(w:World)(K:Fg)(mg:Str->Option Value)(base:Heap)(k:Nat)(x:Str)(ps:List Str)(sd:Sd) where
 f:Addr
 fd:FuncData
 ok:FnOkN P w K mg base k f fd ps (upF K sd)
 m:mg x=some (.ref f)
 kp:W.keepIn K (.ref f)=true
 b:YS K fd ps []
theorem NK {r:List Addr}{H:Hp}{a:Addr}{o:HO}(h:H a=none):Ext r r H (upd H a o):=⟨λ_ _ q=>q,λ_ _ q=>Wi h _ _ q,λ_ _ q=>Wi h _ _ q⟩
open PySem.W in
abbrev VE:List Value:=[.type "ValueError",.type "Exception",.type "BaseException",.type "object"]
structure Ec (K:Fg)(mg:Str->Option Value)(x:Str) where
 c:Addr
 xc:Xc K mg x c VE "ValueError.__new__"
theorem Sz.div (h:Sz n i)(hj:1<=j):Sz n (i/j):=by
 refine Nat.lt_of_le_of_lt ?_ h;obtain⟨h1,h2⟩:=F8 i (show 0<j by omega);by_cases q:0<=i/j
 ·have:=Int.mul_le_mul_of_nonneg_left hj q;omega
 ·have:=Int.mul_le_mul_of_nonneg_left hj (show 0<=-(i/j+1) by omega)
  have e:-(i/j+1)*j=-((i/j+1)*j):=xD _ _;omega
inductive Sco (n:Nat):D->Prop
 | non:Sco n .non
 | bl (b:Bool):Sco n (.bl b)
 | int (i:Int):Sco n (.int i)
 | str (x:Str):Sco n (.str x)
 | tup {ds:List D}:(∀d∈ds,Sco n d)->Sco n (.tup ds)
 | ref {m:Nat}:m<n->Sco n (.ref m)
 | exc (c:Addr):Sco n (.exc c)
theorem Rp.sco {r:List Addr}{H:Hp}{d:D}{v:V}(h:Rp r H d v):Sco r.length d:=by
 induction h with
 | non=>exact .non
 | bl b=>exact .bl b
 | int i=>exact .int i
 | str x=>exact .str x
 | @tup ds xs a _ l _ ih=>
  refine .tup λd hd=>?_
  obtain⟨i,hi,e⟩:=yK.mp hd;exact ih i d xs[i] (by simp[hi,e]) (by simp[l ▸ hi])
 | ref h=>exact .ref (zA.mp h).1
 | exc _=>exact .exc _
theorem Rp.low {r r':List Addr}{H:Hp}{d:D}{v:V}(h:Rp r' H d v)(low:∀m a,m<r.length->r'[m]?=some a->r[m]?=some a)(s:Sco r.length d):Rp r H d v:=by
 induction h with
 | non=>exact .non
 | bl b=>exact .bl b
 | int i=>exact .int i
 | str x=>exact .str x
 | tup e l f ih=>
  cases s with
  | tup s=>exact .tup e l λi d v h1 h2=>ih i d v h1 h2 (s d (zF h1))
 | ref h=>
  cases s with
  | ref s=>exact .ref (low _ _ s h)
 | exc h=>exact .exc h
def Pre (S S':Sto):Prop:=∀(n:Nat)(o:Ob),S[n]?=some o->S'[n]?=some o
theorem Pre.refl {S:Sto}:Pre S S:=λ_ _ h=>h
theorem Pre.push {S S':Sto}{o:Ob}(h:Pre S S'):Pre S (S'++[o]):=λn u e=>by
 have z:=h n u e;rw[zI (zA.mp z).1];exact z
theorem Pre.trans {S S' S2:Sto}(h:Pre S S')(k:Pre S' S2):Pre S S2:=λn o e=>k n o (h n o e)
theorem JS {r r':List Addr}{H H':Hp}(e:Ext r r' H H'):∀m a,m<r.length->r'[m]?=some a->r[m]?=some a:=λm a hm h=>by
 have z:r[m]?=some r[m]:=by simp[hm]
 rw[e.adr _ _ z] at h;rw[z];exact h
theorem Z3.low {K:Fg}{r r':List Addr}{S S':Sto}{H H':Hp}(h:Z3 K r S H)(e:Ext r r' H H')(h':Z3 K r' S' H')(p:Pre S S'):Z3 K r S H':=by
 have rl:∀ {ds:List D} {xs ys:List V},Rps r H ds xs->Rps r' H' ds ys->Rps r H' ds ys:=λ{ds xs ys} a b=>⟨b.1,λi d v h1 h2=>by
  obtain⟨v0,_,q⟩:=a.get h1;exact(b.2 i d v h1 h2).low (JS e) q.sco⟩
 refine⟨h.len,λn a o h1 h2=>?_,λn m a xs ys h1 h2 h3 h4 o1 o2=>h'.nd n m a xs ys (e.adr _ _ h1) (e.adr _ _ h2) (p _ _ h3) (p _ _ h4) o1 o2⟩;have q:=h.ob n a o h1 h2
 have q':=h'.ob n a o (e.adr _ _ h1) (p _ _ h2);cases o with
 | lst ds=>
  obtain⟨xs,_,a1⟩:=q;obtain⟨ys,b0,b1⟩:=q';exact⟨ys,b0,rl a1 b1⟩
 | frz ds=>
  obtain⟨xs,_,a1⟩:=q;obtain⟨ys,b0,b1⟩:=q';exact⟨ys,b0,rl a1 b1⟩
 | ins C fs=>
  obtain⟨_,_,_,a1⟩:=q;obtain⟨dx,fs',b0,b1⟩:=q';exact⟨dx,fs',b0,b1.1,rl a1.2 b1.2⟩
 | dct aV=>
  obtain⟨_,_,a1⟩:=q;obtain⟨ks,b0,b1⟩:=q';exact⟨ks,b0,b1.1,rl a1.2 b1.2⟩
 | dck aV=>
  obtain⟨_,_,a1⟩:=q;obtain⟨ks,b0,b1⟩:=q';exact⟨ks,b0,b1.1,rl a1.2 b1.2⟩
 | tpl ws=>exact q'
 | cod P pos q0=>exact q'
def Gc (S:Sto)(Q:DK):DK:=λd S'=>Pre S S'/\Sco S.length d/\Q d S
def GcX (S:Sto)(ex:Addr->Sto->Prop):Addr->Sto->Prop:=λc S'=>Pre S S'/\ex c S
theorem Ret.gc {K:Fg}{Z Z':Zx}{r:List Addr}{S:Sto}{H:Hp}{Q:DK}{Qv:VK}(h:Ret K Z r H Q Qv)(aZ:Rel K Z r S H):Ret K Z' r H (Gc S Q) Qv:=λv H' r' d S' e rel' p q=>by
 obtain⟨pre,sc,q⟩:=q;have e':Ext r r H H':=⟨λ_ _ z=>z,e.tup,e.xc⟩;rw[<- aZ.len] at sc;exact h v H' r d S e' ⟨aZ.b.low e rel'.b pre,aZ.xw.ext e'⟩ (p.low (JS e) sc) q
theorem UA.gc {K:Fg}{ex:Addr->Sto->Prop}{E:XK}{r:List Addr}{S:Sto}{H:Hp}(aZ:Rel K (Zc ex E) r S H):UA K (Zc (GcX S ex) E) r H:=λdl σ c H' r' S' e _ rb q=>by
 obtain⟨pre,q⟩:=q;have e':Ext r r H H':=⟨λ_ _ z=>z,e.tup,e.xc⟩;exact aZ.xw [] [] c H' r S e' ⟨rfl,λi d z=>by simp at z⟩ (aZ.b.low e rb pre) q
section
variable {P:Program}{w:World}{K:Fg}{mg:Str->Option Value}{base:Heap}
def gcS (sd:Sd):Sd:=λds S Q ex=>∃Q0 ex0,Q=Gc S Q0/\ex=GcX S ex0/\sd ds S Q0 ex0
theorem WG (h:Yk P w K mg base CX k f fd ps (upF K (gcS sd))):Yk P w K mg base CX k f fd ps (upF K sd):=by
 have imp:∀vs H Q E,upF K sd vs H Q E->upF K (gcS sd) vs H Q E:=λvs H Qv E ⟨ex,r,S,ds,Q,aZ,p,q,ret⟩=>
  ⟨GcX S ex,r,S,ds,Gc S Q,⟨aZ.b,UA.gc aZ⟩,p,⟨Q,ex,rfl,rfl,q⟩,ret.gc aZ⟩
 obtain⟨h1,h2⟩:=h;exact⟨λvs H Q E q=>h1 vs H Q E (imp vs H Q E q),λA outer s H args us vs Q E hr e0 hb rv q=>h2 A outer s H args us vs Q E hr e0 hb rv (imp vs H Q E q)⟩
end
theorem Vb (len:∀ds S Q ex,sd ds S Q ex->ds.length=n):∀ds S Q ex,gcS sd ds S Q ex->ds.length=n:=λds S Q ex h=>by
 obtain⟨Q0,ex0,_,_,h⟩:=h;exact len _ _ _ _ h
structure Vx (sc around:Scope)(x:Str)(caps:List Str):Prop where
 kind:sc.kind=.function
 nocell:∀y∈sc.names,y.2≠.cell
 own:∀y∈sc.names,y.2=.local->sc.names.lookup y.1=some .local
 loc:sc.names.lookup x=some .local
 cap:∀y∈caps,sc.names.lookup y=some .free
 out:∀y∈sc.names,y.2=.free->around.names.lookup y.1=some .cell
theorem Sv {α:Type}{y:Str}{v:α}:∀ {l:List (Str×α)},l.lookup y=some v->(y,v)∈l
 | [],h=>by simp at h
 | (n,k)::r,h=>by
  cases e:y==n with
  | true=>
   rw[zV,e] at h;have z:k=v:=Option.some.inj h
   have z2:y=n:=by simpa using e
   rw[z,z2];exact yS
  | false=>
   rw[zV,e] at h;exact yH _ (Sv h)
theorem Ha:∀(l:List (Str×NameKind))(acc:List (Str×Addr)),(∀y∈l,y.2=.free->∃c,env.cells.lookup y.1=some c)->(∀x c,acc.lookup x=some c->env.cells.lookup x=some c)->
  ∃cl,(forIn l acc λx r=>(if (x.2==NameKind.free)=true then do let a <- cellOf env x.1;pure (ForInStep.yield ((x.1,a)::r)) else pure (ForInStep.yield r):Sem (ForInStep (List (Str×Addr)))))=pure cl/\
   (∀x c,cl.lookup x=some c->env.cells.lookup x=some c)/\(∀y∈l,y.2=.free->cl.lookup y.1=env.cells.lookup y.1)/\∀x c,acc.lookup x=some c->∃c',cl.lookup x=some c'
 | [],acc,_,ha=>⟨acc,by simp,ha,λy hy=>(by cases hy),λx c e=>⟨c,e⟩⟩
 | (n,k)::r,acc,h,ha=>by
  cases hk:(k==NameKind.free) with
  | false=>
   obtain⟨cl,h1,h2,h3,h4⟩:=Ha r acc (λy hy=>h y (yH _ hy)) ha;refine⟨cl,?_,h2,λy hy hf=>?_,h4⟩
   ·rw[List.forIn_cons];simp[hk];simpa using h1
   ·have hy':=zR.mp hy;rcases hy' with rfl|hy
    ·rw[show k=NameKind.free from hf] at hk;exact absurd hk (by decide)
    ·exact h3 y hy hf
  | true=>
   have hf:k=NameKind.free:=by simpa using hk
   obtain⟨c,hc⟩:=h (n,k) yS hf;obtain⟨cl,h1,h2,h3,h4⟩:=Ha r ((n,c)::acc) (λy hy=>h y (yH _ hy)) (λx c' e=>by
    cases q:x==n with
    | true=>
     rw[zV,q] at e;have z:x=n:=by simpa using q
     rw[z,hc];exact e
    | false=>
     rw[zV,q] at e;exact ha x c' e)
   refine⟨cl,?_,h2,λy hy hf=>?_,λx c' e=>?_⟩
   ·have ec:cellOf env n=pure c:=by unfold cellOf;rw[hc]
    rw[List.forIn_cons];simp[hk,ec];simpa using h1
   ·have hy':=zR.mp hy;rcases hy' with rfl|hy
    ·obtain⟨c',e⟩:=h4 n c (by simp);rw[e];exact(h2 _ _ e).symm
    ·exact h3 y hy hf
   ·refine h4 x (if x==n then c else c') ?_;cases q:x==n with
    | true=>simp[zV,q]
    | false=>simp[zV,q,e]
theorem Af (h:∀y∈sc.names,y.2=.free->∃c,env.cells.lookup y.1=some c):
  ∃cl,closureFor sc env=pure cl/\(∀x c,cl.lookup x=some c->env.cells.lookup x=some c)/\∀y∈sc.names,y.2=.free->cl.lookup y.1=env.cells.lookup y.1:=by
 obtain⟨cl,h1,h2,h3,_⟩:=Ha sc.names [] h (λx c e=>by simp at e);refine⟨cl,?_,h2,h3⟩;unfold closureFor;simp only[bind_pure];exact h1
theorem DC {env:Env}:∀ {names:List (Str×NameKind)} {x:Str},names.lookup x=some .free->
  (names.map λ(n,k)=>if (k==NameKind.free&&env.scope.kind==.function&&env.kindOf n==some .cell) then (n,NameKind.cell) else (n,k)).lookup x=some .cell\/
  (names.map λ(n,k)=>if (k==NameKind.free&&env.scope.kind==.function&&env.kindOf n==some .cell) then (n,NameKind.cell) else (n,k)).lookup x=some .free
 | [],_,h=>by simp at h
 | (n,k)::r,x,h=>by
  have ih:=@DC env r x;rw[yJ];cases hx:x==n with
  | true=>
   rw[zV,hx] at h;have hk:k=.free:=Option.some.inj h;subst hk;dsimp only;split
   ·left;simp[zV,hx]
   ·right;simp[zV,hx]
  | false=>
   rw[zV,hx] at h;dsimp only;split
   ·simp only[zV,hx];exact ih h
   ·simp only[zV,hx];exact ih h
theorem CS {env:Env}:∀ {names:List (Str×NameKind)} {x:Str},(∀y∈names,y.2≠.cell)->
  ((names.map λ(n,k)=>if (k==NameKind.free&&env.scope.kind==.function&&env.kindOf n==some .cell) then (n,NameKind.cell) else (n,k)).lookup x=some .cell\/
  (names.map λ(n,k)=>if (k==NameKind.free&&env.scope.kind==.function&&env.kindOf n==some .cell) then (n,NameKind.cell) else (n,k)).lookup x=some .free)->names.lookup x=some .free
 | [],_,_,h=>by simp at h
 | (n,k)::r,x,hc,h=>by
  have ih:=@CS env r x λy hy=>hc y (yH _ hy)
  rw[yJ] at h;cases hx:x==n with
  | true=>
   rw[zV,hx];dsimp only at h;split at h
   ·rename_i q;simp only[Bool.and_eq_true] at q;have hk:k=.free:=by simpa using q.1.1
    rw[hk]
   ·simp only[zV,hx] at h;rcases h with h|h
    ·exact absurd (Option.some.inj h) (hc (n,k) yS)
    ·exact h
  | false=>
   rw[zV,hx];dsimp only at h;split at h
   ·simp only[zV,hx] at h;exact ih h
   ·simp only[zV,hx] at h;exact ih h
abbrev Cx.comp (X:Cx)(sc:Scope)(N:List Str)(cl:List (Str×Addr))(C:Addr)(s0:Shared)(H0:Hp)(fp:List Addr)(pn:LA):Cx:=
 { X with N:=N,env:=compEnvC sc cl C X.env,s₀:=s0,H₀:=H0,outer:=X.stack,stack:=X.stack,ex:=fp,fn:=λ_=>false,pn:=pn,xe:=λ_ _=>False }
def Yn (caps:List Nat)(σ:St):St:=caps.map λj=>(σ[j]?).join
def Yc (caps:List Nat)(dl:Ev):Ev:=caps.map λj=>(dl[j]?).join
def Rk (caps:List Nat)(wi:TI)(tc:TT)(te:TE):TE:=λσ H Q=>wi σ H λJ H1=>∀D,H1 D=none->∃W:Nat->Nat->Hp->Prop,(∃m,W 0 m (upd H1 D (.lst [])))/\∀i m H,W i m H->
 (J.stop i H/\Q (.ref D) H)\/(J.go i H/\∀x H',J.yld i H x H'->tc (some x::Yn caps σ) H' λb H2=>if b=true then te (some x::Yn caps σ) H2 λy H3=>∃ys,H3 D=some (.lst ys)/\ys.length<sizeLine/\∃m',m'<m/\W (i+1) m' (upd H3 D (.lst (ys++[y])))
  else ∃m',m'<m/\W (i+1) m' H2)
def PTs (Y:Cx)(ifs:List Expr)(tc:TT):Prop:=∀(pins:LA)(s:Shared)(σ:St)(H:Hp)(Q:Bool->Hp->Prop),Inv Y pins σ H s->tc σ H Q->
 wpAny (model Y.prog Y.w) Y.A (forIn ifs true λc r=>if r=true then do let ok <- isTrue c Y.env (eval c Y.env);pure (ForInStep.yield ok) else pure (ForInStep.yield r)) (TP Y pins σ Q) Y.xe s
theorem Cd:PTs Y [] (λ_ H Q=>Q true H):=λ_ _ _ H _ I h=>wpAny_tests_nil ⟨H,I,h⟩
theorem zeD (h:PT Y c tc):PTs Y [c] tc:=λpins s σ H Q I q=>wpAny_tests_one (h pins s σ H Q I q)
section
variable {X:Cx}{pins:LA}{σ:St}{H:Hp}{s:Shared}
end
structure OE (X:Cx)(pins:LA)(σ:St)(C:Addr)(Q:VK)(D:Addr)(s':Shared):Prop where
 q:∃H',Inv X pins σ H' s'/\Q (.ref D) H'/\H' C=none
 ns:∃m,s'.heap.Ns C m
 loc:C≠X.env.locals
 old:X.s₀.heap.objs.size<=C
 cell:∀x c,X.env.cells.lookup x=some c->c≠C
 pin:∀p∈X.pn++pins,p.1≠C
theorem zaD {aW aU:Expr}{tg:Expr}{ifs:List Expr}{scope:Scope}{pos:Pos}{it acc:Value}{env:Env}{R:Result->Shared->Prop}(I:Nat->Shared->Prop)
  (turn:∀n s,I n s->wpAny (model prog w) A (pyNext it) (λr s1=>match r with
   | none=>R (.ok .next) s1
   | some v=>wpAny (model prog w) A (letOwnedTupleGo tg it v) (λ_ s2=>wpAny (model prog w) A (assign tg env v) (λ_ s3=>
     wpAny (model prog w) A (forIn ifs true λc r=>if r=true then do let ok <- isTrue c env (eval c env);pure (ForInStep.yield ok) else pure (ForInStep.yield r)) (λok s4=>
      if ok=true then wpAny (model prog w) A (eval aW env) (λx s5=>
       wpAny (model prog w) A (call (.builtin "list.append") [acc,x]) (λ_ s6=>∃m,m<n/\I m s6) (notedBy (model prog w) A env λe s'=>R (.error e) s') s5) (notedBy (model prog w) A env λe s'=>R (.error e) s') s4
      else ∃m,m<n/\I m s4) (notedBy (model prog w) A env λe s'=>R (.error e) s') s3)
     (notedBy (model prog w) A env λe s'=>R (.error e) s') s2) (notedBy (model prog w) A env λe s'=>R (.error e) s') s1) (notedBy (model prog w) A env λe s'=>R (.error e) s') s)
  (n:Nat)(h:I n s):codeAny (model prog w) A (.compLoop (.ListComp aW [⟨tg,aU,ifs,0⟩] scope pos) 0 it acc env) R s:=by
 refine codeAny_loop rfl I (λj t hI=>?_) n h;show wpAny _ A ((compTurn (.ListComp aW [⟨tg,aU,ifs,0⟩] scope pos) 0 it acc env).onRaise (λx=>do noteFrame x env;theTreesLotGoes x)) _ _ t;refine wpAny_noted ?_;rw[compTurn_list];refine wpAny_bind (wpAny_standAt (wpAny_bind (wpAny_mono (turn j t hI) (λr s1 h1=>?_) λ_ _ z=>z)));cases r with
 | none=>exact wpAny_pure h1
 | some v=>
  refine wpAny_bind (wpAny_mono h1 (λ_ s2 h2=>?_) λ_ _ z=>z);refine wpAny_bind (wpAny_mono h2 (λ_ s3 h3=>wpAny_bind (wpAny_mono h3 (λok s4 h4=>?_) λ_ _ z=>z)) λ_ _ z=>z);cases ok with
  | false=>exact wpAny_pure ⟨rfl,h4⟩
  | true=>exact wpAny_bind (wpAny_bind (wpAny_mono h4 (λx s5 h5=>wpAny_bind (wpAny_mono h5 (λ_ s6 h6=>wpAny_pure (wpAny_pure ⟨rfl,h6⟩)) λ_ _ z=>z)) λ_ _ z=>z))
structure X4 (sc around:Scope)(own caps:List Str):Prop where
 kind:sc.kind=.function
 nocell:∀y∈sc.names,y.2≠.cell
 own:∀y∈sc.names,y.2=.local->sc.names.lookup y.1=some .local
 cap:∀y∈caps,sc.names.lookup y=some .free
 out:∀y∈sc.names,y.2=.free->around.names.lookup y.1=some .cell
theorem za0 {sc:Scope}{own N:List Str}{caps:List Nat}{cl:List (Str×Addr)}{fp:List Addr}{h1:Heap}{m:Str->Option Value}{tk:Nat}(I:Inv X pins σ H s)(cs:X4 sc X.env.scope own N)
  (hN:∀(j:Nat)(y:Str),N[j]?=some y->∃i,caps[j]?=some i/\X.N[i]?=some y)(aM:caps.length=N.length)
  (c1:∀x c,cl.lookup x=some c->X.env.cells.lookup x=some c)(c2:∀y∈sc.names,y.2=.free->cl.lookup y.1=X.env.cells.lookup y.1)
  (hf:∀b∈fp,Yo X pins H b)(hfo:∀b∈fp,b<s.heap.objs.size)(hns:h1.Ns s.heap.objs.size m)(hk:∀b o,s.heap.get? b=some o->h1.get? b=some o):
  Inv (Cx.comp X sc (own++N) cl s.heap.objs.size s H fp (X.pn++pins)) [] (List.replicate own.length none++Yn caps σ) H { s with heap:=h1,toks:=tk }:=by
 have stk:∀b∈frs X.stack,b=X.env.locals\/b∈X.fs:=λb hb=>zR.mp (I.stkSub b hb)
 refine⟨⟨I.ok.mod,cs.kind,I.ok.glob,I.ok.blt,zC _,λa b c h1 h2=>I.ok.inj a b c (c1 _ _ h1) (c1 _ _ h2),λy hy=>?_,λ_ _ z=>Bool.noConfusion z,I.ok.hd,I.ok.frames,.inl rfl,λb hb=>⟨zM (hfo b hb),λy c e=>(hf b hb).2.2.2.2.1 y c (c1 _ _ e)⟩,
  I.bs,yD I.ok.bsz I.sz,λb o e hb=>?_,λb hb z=>?_,I.stack,I.stkFree⟩,rfl,I.bare,Un.kept hk,⟨m,hns,λi y v e1 e2 e3=>?_⟩,λy c e=>?_,I.hok.fresh (zC _),λy c e=>I.freeC y c (c1 _ _ e),λp hp=>?_,I.hok.kept hk,?_⟩
 ·have hfr:sc.names.lookup y=some .free:=CS cs.nocell hy
  have hm:=Sv hfr;obtain⟨c,e⟩:=I.ok.has y (.inl (cs.out _ hm rfl));exact⟨c,(c2 _ hm rfl).trans e⟩
 ·rcases (hf b hb).2.2.2.1 with z|z
  ·exact I.ok.noex b o e z
  ·exact absurd (zQ (Heap.lt_size (I.ok.bs b o e).1) z) (yL _)
 ·rcases stk b z with z|z
  ·exact(hf b hb).2.1 z
  ·exact(hf b hb).2.2.1 z
 ·rcases Nat.lt_or_ge i own.length with hi|hi
  ·rw[zI (by simpa using hi),List.getElem?_replicate] at e2;simp[hi] at e2
  ·obtain⟨i,rfl⟩:∃k,i=own.length+k:=⟨i-own.length,by omega⟩;have e1':N[i]?=some y:=by
    rw[yB hi] at e1;simpa using e1
   have e2:(Yn caps σ)[i]?=some (some v):=by
    rw[yB (by simp)] at e2;simpa using e2
   obtain⟨j,hj,hy⟩:=hN i y e1';have e2':σ[j]?=some (some v):=by
    simp only[Yn,zE,hj,Option.map_some,Option.some.injEq] at e2;cases q:σ[j]? with
    | none=>rw[q] at e2;cases e2
    | some o=>rw[q] at e2;simp at e2;rw[e2]
   have hfr:sc.names.lookup y=some .free:=cs.cap y (zF e1')
   have hm:=Sv hfr
   have hce:X.env.scope.names.lookup y=some .cell:=cs.out _ hm rfl;obtain⟨m0,_,hl⟩:=I.loc;obtain⟨u,r,l⟩:=hl j y v hy e2' (.inr (.inl hce));refine⟨u,r,.inr ⟨DC hfr,?_⟩⟩;rcases l with ⟨k,_⟩|⟨_,c,ec,hcell⟩
   ·rw[show X.env.kindOf y=some .cell from hce] at k;cases k
   ·exact⟨c,(c2 _ hm rfl).trans ec,hcell.keeps hk⟩
 ·obtain⟨v,z⟩:=I.cell y c (c1 _ _ e);exact⟨v,z.keeps hk⟩
 ·have hp':p∈X.pn++pins:=by simpa using hp
  obtain⟨p1,p2,p3,p4,p5⟩:=I.pin p hp';refine⟨hk _ _ p1,p2,zM (Heap.lt_size p1),λz=>?_,p5⟩;rcases stk _ z with z|z
  ·exact p3 z
  ·exact p4 z
 ·simp[Yn,aM]
theorem Gy {tg:Expr}{K:It->Hp->Prop}{ifs:List Expr}{tc:TT}{use:Option (Value->Sem Unit)}{Qr:Value->Shared->Prop}(hc:X.calm=true)(cs:X4 sc X.env.scope own N)(hN:∀(j:Nat)(y:Str),N[j]?=some y->∃i,caps[j]?=some i/\X.N[i]?=some y)(aM:caps.length=N.length)
  (hi:PI X tg aU wi)(hg:∀cl C s0 H0 fp pn,PG (Cx.comp X sc (own++N) cl C s0 H0 fp pn) tg gt)(he:∀cl C s0 H0 fp pn,PE (Cx.comp X sc (own++N) cl C s0 H0 fp pn) aW te)
  (ht:∀cl C s0 H0 fp pn,PTs (Cx.comp X sc (own++N) cl C s0 H0 fp pn) ifs tc)(hs:∀y,foldedSetIterable aU X.env y=pure y)
  {pins:LA}{s:Shared}{σ:L2.St}{H:Hp}{Q:VK}{p2:Pos}(I:Inv X pins σ H s)(h:wi σ H K)(hK:∀J H1,K J H1->∀D,H1 D=none->∃W:Nat->Nat->Hp->Prop,(∃m,W 0 m (upd H1 D (.lst [])))/\∀i m H,W i m H->(J.stop i H/\Q (.ref D) H)\/(J.go i H/\∀x H',J.yld i H x H'->∀o:L2.St,o.length=own.length->gt x (o++Yn caps σ) H' λσ8 H8=>(∃o8:L2.St,o8.length=own.length/\σ8=o8++Yn caps σ)/\tc σ8 H8 λb H9=>if b=true then te σ8 H9 λy H3=>∃ys,H3 D=some (.lst ys)/\ys.length<sizeLine/\∃m',m'<m/\W (i+1) m' (upd H3 D (.lst (ys++[y]))) else ∃m',m'<m/\W (i+1) m' H9))
  (aY:∀D C s',OE X pins σ C Q D s'->compPost (model X.prog X.w) X.A X.xe use Qr (.ref D) C (.ok .next) s'):
  wpAny (model X.prog X.w) X.A (comprehension (.ListComp aW [⟨tg,aU,ifs,0⟩] sc pos) sc X.env p2 (newList []) false (eval aU X.env) use) Qr X.xe s:=by
 obtain⟨cl,k1,k2,k3⟩:=Af (sc:=sc) (env:=X.env) λy hy hf=>I.ok.has y.1 (.inl (cs.out y hy hf))
 refine wpAny_comprehension_free rfl hs k1 cs.kind cs.own (thn (hi pins s σ H _ I h) λv s1 h1=>thn h1 λitv s2 h2=>?_);obtain⟨it,fp,tn,J,H2,e,I2,T,st2,f2,body⟩:=h2;subst e;have hfo:∀b∈fp,b<s2.heap.objs.size:=λb hb=>by
  obtain⟨o,e,_⟩:=T.obj _ _ st2 b hb;exact Heap.lt_size e
 have hD:H2 s2.heap.objs.size=none:=I2.hok.fresh (zC _);obtain⟨W,⟨m0,w0⟩,turn⟩:=hK _ _ body _ hD;refine wpAny_newObj_type ?_;have I3:Inv X pins σ (upd H2 s2.heap.objs.size (.lst [])) { s2 with heap:=s2.heap.push { cls:=.type "list",dict:=none,data:=.seq ([]:List Value).toArray },toks:=s2.toks }:=
  I2.laid (t':=s2.toks) (λb u e=>Heap.get?_push_of_some _ e) (zC _) ⟨zK _,[],0,.nil,Heap.get?_push_size _ rfl⟩
 generalize hs3:({ s2 with heap:=s2.heap.push { cls:=.type "list",dict:=none,data:=.seq ([]:List Value).toArray },toks:=s2.toks }:Shared)=s3 at I3;have es3:({ s2 with heap:=s2.heap.push { cls:=.type "list",dict:=none,data:=.seq ([]:List Value).toArray } }:Shared)=s3:=hs3
 try rw[es3]
 have f3:∀b∈fp,Yo X pins (upd H2 s2.heap.objs.size (.lst [])) b:=λb hb=>⟨by rw[Z4 (zM (hfo b hb))];exact(f2 b hb).1,(f2 b hb).2⟩
 have up3:∀b o,s2.heap.get? b=some o->s3.heap.get? b=some o:=λb o e=>by rw[<- hs3];exact Heap.get?_push_of_some _ e
 have st3:tn 0 s3.heap:=T.keep _ _ _ st2 λb _ o e=>up3 b o e
 have hfo3:∀b∈fp,b<s3.heap.objs.size:=λb hb=>by
  obtain⟨o,e,_⟩:=T.obj _ _ st3 b hb;exact Heap.lt_size e
 refine wpAny_newFunctionEnv cs.nocell (λy hy=>by simp at hy) (λh4 ns4 sb4=>?_) cs.kind;have hk4:∀b o,s3.heap.get? b=some o->h4.get? b=some o:=λb o e=>(sb4.2 b (zM (Heap.lt_size e))).trans (Heap.get?_push_of_some _ e)
 have I4:=za0 (tk:=s3.toks+([]:List (Str×Value)).length) I3 cs hN aM k2 k3 f3 hfo3 ns4 hk4;generalize hs4:({ s3 with heap:=h4,toks:=s3.toks+([]:List (Str×Value)).length }:Shared)=s4 at I4 ⊢;have eh4:s4.heap=h4:=by rw[<- hs4]
 have st4:tn 0 s4.heap:=by rw[eh4];exact T.keep _ _ _ st3 λb _ o e=>hk4 b o e
 have fY:∀ {H':Hp},(∀b∈fp,H' b=none)->∀b∈fp,Yo (Cx.comp X sc (own++N) cl s3.heap.objs.size s3 (upd H2 s2.heap.objs.size (.lst [])) fp (X.pn++pins)) [] H' b:=λhn b hb=>by
  obtain⟨_,z2,z3,z4,z5,z6⟩:=f3 b hb;refine⟨hn b hb,zM (hfo3 b hb),λz=>?_,.inl hb,λy c e=>z5 y c (k2 _ _ e),λp hp=>z6 p (by simpa using hp)⟩;rcases zR.mp (I3.stkSub b z) with z|z
  ·exact z2 z
  ·exact z3 z
 have loop:codeAny (model X.prog X.w) X.A (.compLoop (.ListComp aW [⟨tg,aU,ifs,0⟩] sc pos) 0 (.ref it) (.ref s2.heap.objs.size) (compEnvC sc cl s3.heap.objs.size X.env))
   (compPost (model X.prog X.w) X.A X.xe use Qr (.ref s2.heap.objs.size) s3.heap.objs.size) s4:=by
  refine zaD (λn s'=>∃i o H',o.length=own.length/\Inv (Cx.comp X sc (own++N) cl s3.heap.objs.size s3 (upd H2 s2.heap.objs.size (.lst [])) fp (X.pn++pins)) [] (o++Yn caps σ) H' s'/\tn i s'.heap/\(∀b∈fp,H' b=none)/\W i n H') ?_ m0
   ⟨0,_,_,List.length_replicate,I4,st4,λb hb=>(f3 b hb).1,w0⟩
  rintro n s5 ⟨i,o,H5,ho,I5,st5,fr5,w5⟩;rcases turn i n H5 w5 with ⟨stop,q⟩|⟨go,step⟩
  ·refine thn (T.done (Cx.comp X sc (own++N) cl s3.heap.objs.size s3 (upd H2 s2.heap.objs.size (.lst [])) fp (X.pn++pins)) rfl rfl rfl hc i [] s5 _ H5 _ I5 (fY fr5) st5 stop) λr s6 ⟨hr,I6⟩=>?_
   subst hr;refine aY _ _ _ ⟨⟨H5,I3.call' I6.os I6.base I6.hok I6.bare (λb hb=>?_),q,I6.free⟩,?_,yU I3.lt,I3.sz,λy c e z=>?_,λp hp z=>?_⟩
   ·obtain⟨_,z2,z3,z4,z5,z6⟩:=f3 b hb;exact⟨z4,z2,z5,z6⟩
   ·obtain⟨m,hm,_⟩:=I6.loc;exact⟨m,hm⟩
   ·obtain⟨v,hv⟩:=I3.cell y c e;exact absurd (z ▸ hv.lt) (yL _)
   ·exact absurd (z ▸ Heap.lt_size (I3.pin p hp).1) (yL _)
  ·refine thn (T.item (Cx.comp X sc (own++N) cl s3.heap.objs.size s3 (upd H2 s2.heap.objs.size (.lst [])) fp (X.pn++pins)) rfl rfl rfl hc i [] s5 _ H5 _ I5 (fY fr5) st5 go) λr s6 ⟨u,hr,h6⟩=>?_
   subst hr;refine wpAny_mono h6 (λ_ s7 ⟨y,H7,I7,r7,y7,st7,fr7⟩=>?_) λ_ _ z=>z
   have I7':=I7.pinned (fY fr7) (T.obj _ _ st7);refine wpAny_mono (hg _ _ _ _ _ _ _ s7 _ H7 y u _ I7' r7 (step y H7 y7 o ho)) (λ_ s8 ⟨σ8,H8,I8,⟨o8,ho8,e8⟩,q8⟩=>?_) λ_ _ z=>z.elim
   subst e8;have stay:∀ {H':Hp} {s':Shared},Inv (Cx.comp X sc (own++N) cl s3.heap.objs.size s3 (upd H2 s2.heap.objs.size (.lst [])) fp (X.pn++pins)) ([]++OT fp s7.heap) (o8++Yn caps σ) H' s'->∀m',m'<n->W (i+1) m' H'->
     ∃m,m<n/\∃i o H',o.length=own.length/\Inv (Cx.comp X sc (own++N) cl s3.heap.objs.size s3 (upd H2 s2.heap.objs.size (.lst [])) fp (X.pn++pins)) [] (o++Yn caps σ) H' s'/\tn i s'.heap/\(∀b∈fp,H' b=none)/\W i m H':=λ{H' s'} J m' hm w'=>by
    refine⟨m',hm,i+1,o8,H',ho8,J.unpinned,T.keep _ _ _ st7 λb hb o e=>(J.pin (b,o) (yO _ (yO _ (Mz hb e)))).1,λb hb=>?_,w'⟩;obtain⟨o,e,d⟩:=T.obj _ _ st7 b hb;exact(J.pin (b,o) (yO _ (yO _ (Mz hb e)))).2.1
   refine wpAny_mono (ht _ _ _ _ _ _ _ s8 _ H8 _ I8 q8) (λb s9 ⟨H9,I9,q9⟩=>?_) λ_ _ z=>z.elim
   cases b with
   | false=>
    rw[if_neg zJ] at q9 ⊢;obtain⟨m',hm,w9⟩:=q9;exact stay I9 m' hm w9
   | true=>
    rw[if_pos rfl] at q9 ⊢;refine wpAny_mono (he _ _ _ _ _ _ _ s9 _ H9 _ I9 q9) (λu2 s10 ⟨z,H10,I10,r10,q10⟩=>?_) λ_ _ z=>z.elim
    obtain⟨ys,hD10,hlt,m',hm,w10⟩:=q10;refine wpAny_mono (Eu (X:=(Cx.comp X sc (own++N) cl s3.heap.objs.size s3 (upd H2 s2.heap.objs.size (.lst [])) fp (X.pn++pins))) _ s10 _ H10 (.ref s2.heap.objs.size) [z] (.ref s2.heap.objs.size) [u2] (λ_ H'=>H'=upd H10 s2.heap.objs.size (.lst (ys++[z]))) I10 rfl (.cons r10 .nil) ⟨_,ys,z,rfl,rfl,hD10,hlt,rfl⟩) (λ_ s11 ⟨_,H11,I11,_,e11⟩=>?_) λ_ _ z=>z.elim
    subst e11;exact stay I11 m' hm w10
 exact codeAny_compStart_list loop (T.self _ 0 s4 _ _ st4 loop)
section
variable {X:Cx}{aW aU:Expr}{x:Str}{px pos:Pos}{ifs:List Expr}{sc:Scope}{N:List Str}{caps:List Nat}{wi:TI}{tc:TT}{te:TE}
theorem DX (hc:X.calm=true)(cs:Vx sc X.env.scope x N)(hN:∀(j:Nat)(y:Str),N[j]?=some y->∃i,caps[j]?=some i/\X.N[i]?=some y)(aM:caps.length=N.length)(hnd:(x::N).Nodup)(hi:PI X (.Name x px) aU wi)(ht:∀cl C s0 H0 fp pn,PTs (Cx.comp X sc (x::N) cl C s0 H0 fp pn) ifs tc)(he:∀cl C s0 H0 fp pn,PE (Cx.comp X sc (x::N) cl C s0 H0 fp pn) aW te)(hs:∀y,foldedSetIterable aU X.env y=pure y)(I:Inv X pins σ H s)(h:Rk caps wi tc te σ H Q)(aY:∀D C s',OE X pins σ C Q D s'->compPost (model X.prog X.w) X.A X.xe use Qr (.ref D) C (.ok .next) s'):
  wpAny (model X.prog X.w) X.A (comprehension (.ListComp aW [⟨.Name x px,aU,ifs,0⟩] sc pos) sc X.env p2 (newList []) false (eval aU X.env) use) Qr X.xe s:=by
 refine Gy (own:=[x]) (gt:=HZ 0) hc ⟨cs.kind,cs.nocell,cs.own,cs.cap,cs.out⟩ hN aM hi (λcl C s0 H0 fp pn=>TY hnd rfl (.inl (lookup_relabel_local cs.loc)) (.inr (lookup_relabel_local cs.loc))) he ht hs I h (λJ H1 b D hD=>?_) aY;obtain⟨W,w0,turn⟩:=b D hD;refine⟨W,w0,λi m H w=>(turn i m H w).imp id λ⟨go,st⟩=>⟨go,λv H' y o ho=>?_⟩⟩
 match o,ho with
 | [_],_=>exact⟨⟨[some v],rfl,rfl⟩,st v H' y⟩
theorem XB (h:caps.map (λi=>X.N[i]?)=N.map some):(∀(j:Nat)(y:Str),N[j]?=some y->∃i,caps[j]?=some i/\X.N[i]?=some y)/\caps.length=N.length:=by
 refine⟨λj y e=>?_,by simpa using congrArg List.length h⟩;have z:(caps.map (λi=>X.N[i]?))[j]?=some (some y):=by rw[h,zE,e];rfl
 rw[zE] at z;cases q:caps[j]? with
 | none=>rw[q] at z;cases z
 | some i=>rw[q] at z;exact⟨i,rfl,by simpa using z⟩
theorem K6 (hc:X.calm=true)(cs:Vx sc X.env.scope x N)(hN:caps.map (λi=>X.N[i]?)=N.map some)(hnd:(x::N).Nodup)
  (hi:PI X (.Name x px) aU wi)(ht:∀cl C s0 H0 fp pn,PTs (Cx.comp X sc (x::N) cl C s0 H0 fp pn) ifs tc)(he:∀cl C s0 H0 fp pn,PE (Cx.comp X sc (x::N) cl C s0 H0 fp pn) aW te)
  (hs:∀y,foldedSetIterable aU X.env y=pure y:=by intro _;rfl):PE X (.ListComp aW [⟨.Name x px,aU,ifs,0⟩] sc pos) (Rk caps wi tc te):=by
 intro pins s σ H Q I h;rw[eval_ListComp];refine DX (use:=none) hc cs (XB hN).1 (XB hN).2 hnd hi ht he hs I h λD C s' f=>?_
 obtain⟨⟨H',I',q,hC⟩,⟨m,ns⟩,l,o,c,p⟩:=f;exact⟨m,ns,λh' sb=>⟨.ref D,H',I'.turned (t':=s'.toks) (λb ob hb e=>(sb.2 b hb).trans e) hC l (.inr o) c p,rfl,q⟩⟩
theorem HC {tg:Expr}{ifs:List Expr}{T:TE}{i:Nat}{y:Str}{py spos:Pos}
  (core:∀ {use:Option (Value->Sem Unit)} {Qr:Value->Shared->Prop} {pins:LA} {s:Shared} {σ:St} {H:Hp} {Q:VK} {p2:Pos},Inv X pins σ H s->T σ H Q->(∀D C s',OE X pins σ C Q D s'->compPost (model X.prog X.w) X.A X.xe use Qr (.ref D) C (.ok .next) s')->
   wpAny (model X.prog X.w) X.A (comprehension (.ListComp aW [⟨tg,aU,ifs,0⟩] sc pos) sc X.env p2 (newList []) false (eval aU X.env) use) Qr X.xe s)
  (hNd:X.N.Nodup)(hy:X.N[i]?=some y)(hl:X.env.scope.names.lookup y=some .local)(hsw:swapsWith (.ListComp aW [⟨tg,aU,ifs,0⟩] sc pos) (some (.Name y py)) spos.line X.env=pure true):
  PS X (.Assign [.Name y py] (.ListComp aW [⟨tg,aU,ifs,0⟩] sc pos) spos) (λE σ H=>T σ H λv H1=>E.nx (σ.set i (some v)) H1):=by
 intro pins s σ H E I h;rw[exec_Assign_Name_used (hs:=hsw)];refine wpAny_bind (wpAny_standAt ?_);refine wpAny_bind ?_;show wpAny _ _ (comprehension _ sc X.env _ (newList []) false (eval aU X.env) (some (assign (.Name y py) X.env)) >>= λ_=>pure ()) _ _ s
 refine wpAny_bind (thn (core (use:=some (assign (.Name y py) X.env)) (Qr:=λ_ s'=>SP X pins E .next s') I h λD C s' f=>?_) λ_ s' hq=>wpAny_pure (wpAny_pure hq));obtain⟨⟨H',I',q,hC⟩,⟨m,ns⟩,l,o,c,p⟩:=f;refine wpAny_assign_Name (Ar (v:=.ref D) I' hNd hy (.inl hl) rfl (λs'' I'' ⟨a,sb,ha⟩=>⟨m,ns.sameBut sb ?_,λh' sb'=>⟨_,H',I''.turned (t':=s''.toks) (λb ob hb e=>(sb'.2 b hb).trans e) hC l (.inr o) c p,q⟩⟩) (.inr hl));rcases ha with rfl|ha
 ·exact l
 ·exact Ne.symm (c _ _ ha)
theorem Bm (hc:X.calm=true)(cs:Vx sc X.env.scope x N)(hN:caps.map (λi=>X.N[i]?)=N.map some)(hnd:(x::N).Nodup)(hi:PI X (.Name x px) aU wi)(ht:∀cl C s0 H0 fp pn,PTs (Cx.comp X sc (x::N) cl C s0 H0 fp pn) ifs tc)(he:∀cl C s0 H0 fp pn,PE (Cx.comp X sc (x::N) cl C s0 H0 fp pn) aW te)(hNd:X.N.Nodup)(hy:X.N[i]?=some y)(hl:X.env.scope.names.lookup y=some .local)(hsw:swapsWith (.ListComp aW [⟨.Name x px,aU,ifs,0⟩] sc pos) (some (.Name y py)) spos.line X.env=pure true)(hs:∀y,foldedSetIterable aU X.env y=pure y:=by intro _;rfl):PS X (.Assign [.Name y py] (.ListComp aW [⟨.Name x px,aU,ifs,0⟩] sc pos) spos) (λE σ H=>Rk caps wi tc te σ H λv H1=>E.nx (σ.set i (some v)) H1):=
 HC (λI h aY=>DX hc cs (XB hN).1 (XB hN).2 hnd hi ht he hs I h aY) hNd hy hl hsw
end
section
variable {X:Cx}{Z:Zx}{aW aU:Expr}{x:Str}{px pos:Pos}{ifs:List Expr}{sc ar:Scope}{N:List Str}{caps:List Nat}
theorem Jc {r:List Addr}{H:Hp}{dl:Ev}{σ:St}{d:D}{v:V}(h:Rs r H dl σ)(p:Rp r H d v):Rs r H (some d::Yc caps dl) (some v::Yn caps σ):=by
 refine⟨by simp[Yc,Yn],λi e hi=>?_⟩;cases i with
 | zero=>simp at hi;subst hi;exact⟨v,rfl,p⟩
 | succ i=>
  simp only[List.getElem?_cons_succ,Yc,zE] at hi;cases q:caps[i]? with
  | none=>rw[q] at hi;cases hi
  | some j=>
   rw[q] at hi;simp only[Option.map_some,Option.some.injEq] at hi;have hj:dl[j]?=some (some e):=by
    cases q2:dl[j]? with
    | none=>rw[q2] at hi;cases hi
    | some o=>rw[q2] at hi;simp at hi;rw[hi]
   obtain⟨w,h1,h2⟩:=h.2 j e hj;refine⟨w,?_,h2⟩;simp only[List.getElem?_cons_succ,Yn,zE,q,Option.map_some,h1,Option.join_some]
def VG (Y:Cx)(ifs:List Expr)(t:TDT):Prop:=PTs Y ifs (upT Y.K Z0 t)
def Xa:TDT:=λ_ S Q=>Q true S
theorem Yr:VG Y [] Xa:=λpins s σ H Qb I ⟨r,dl,S,Q,rs,aZ,q,ret⟩=>Cd pins s σ H Qb I (ret true H r S Ext.refl aZ q)
theorem Nb (h:PDT Y Z0 c t):VG Y [c] t:=zeD h
def WM (caps:List Nat)(tc:TDT)(te:TDE)(k:Nat)(dl:Ev)(d:D)(S:Sto)(nx:Sto->Prop):Prop:=
 tc (some d::Yc caps dl) S λb S1=>if b=true then te (some d::Yc caps dl) S1 λy S2=>match S2[k]? with
  | some (.lst ys)=>ys.length<1000/\nx (S2.set k (.lst (ys++[y])))
  | _=>False
 else nx S1
@[irreducible] def X9 (caps:List Nat)(tl:TDE)(tc:TDT)(te:TDE):TDE:=λdl S Q=>tl dl S λd S1=>match d with
 | .ref n=>(lAt S1 n).isSome=true/\∃W:Nat->Nat->Sto->Prop,(∃m,W 0 m (S1++[.lst []]))/\∀k m S2,W k m S2->match lAt S2 n with
  | some o=>match (Zv o)[k]? with
   | some y=>WM caps tc te S1.length dl y S2 λS3=>∃m',m'<m/\W (k+1) m' S3
   | none=>Q (.ref S1.length) S2
  | none=>False
 | _=>False
@[irreducible] def W7 (caps:List Nat)(ta:TDA)(tc:TDT)(te:TDE):TDE:=λdl S Q=>ta dl S λds S1=>match ds with
 | [.int j]=>(-(2^62)<=j/\j<2^62)/\∃W:Nat->Sto->Prop,W 0 (S1++[.lst []])/\∀k S2,W k S2->
   if k<j.toNat then WM caps tc te S1.length dl (.int k) S2 λS3=>W (k+1) S3 else Q (.ref S1.length) S2
 | _=>False
theorem HJ {tc:TDT}{te:TDE}{r2:List Addr}{H2:Hp}{S1 S2:Sto}{dl:Ev}{σ:St}{D0:Addr}{d:D}{v:V}{nx:Sto->Prop}{Nx:Hp->Prop}(rs:Rs r2 H2 dl σ)(ha:r2[S1.length]?=some D0)(rb:Z3 X.K r2 S2 H2)(p:Rp r2 H2 d v)
  (h:WM caps tc te S1.length dl d S2 nx)(hn:∀r' S' H',Ext r2 r' H2 H'->Z3 X.K r' S' H'->nx S'->Nx H'):
  upT X.K Z0 tc (some v::Yn caps σ) H2 λb H3=>if b=true then up X.K Z0 te (some v::Yn caps σ) H3 λy H4=>∃ys,H4 D0=some (.lst ys)/\ys.length<sizeLine/\Nx (upd H4 D0 (.lst (ys++[y]))) else Nx H3:=by
 have rsY:Rs r2 H2 (some d::Yc caps dl) (some v::Yn caps σ):=Jc rs p;refine⟨r2,_,S2,_,rsY,⟨rb,λ_ _ _ _ _ _ _ _ _ z=>z.elim⟩,h,λb H3 r3 S3 x3 aE q3=>?_⟩;cases b with
 | false=>rw[if_neg zJ] at q3 ⊢;exact hn r3 S3 H3 x3 aE.b q3
 | true=>
  rw[if_pos rfl] at q3 ⊢;refine⟨r3,_,S3,_,rsY.ext x3,aE,q3,λz H4 r4 dz S4 x4 aF p4 q4=>?_⟩;split at q4
  ·rename_i ys eys;obtain⟨hl,q4⟩:=q4;have ha4:r4[S1.length]?=some D0:=x4.adr _ _ (x3.adr _ _ ha);obtain⟨zs,hD4,pz⟩:=aF.b.ob _ _ _ ha4 eys;obtain⟨rel5,x5⟩:=aF.b.set ha4 eys (pz.snoc p4);exact⟨zs,hD4,by rw[<- pz.1];exact QJ (yN hl),hn r4 _ _ (x3.trans (x4.trans x5)) rel5 q4⟩
  ·exact q4.elim
theorem Tn {r:List Addr}{D0:Addr}{n:Nat}(h:r.length=n):(r++[D0])[n]?=some D0:=by subst h;simp
theorem BE {tl:TDE}{tc:TDT}{te:TDE}{σ:St}{H:Hp}{Qv:VK}(h:up X.K Z (X9 caps tl tc te) σ H Qv):Rk caps (Dh X.K (up X.K Z tl)) (upT X.K Z0 tc) (up X.K Z0 te) σ H Qv:=by
 obtain⟨r,dl,S,Q,rs,aZ,h,ret⟩:=h;unfold X9 at h;refine⟨r,dl,S,_,rs,aZ,h,λv H1 r1 d S1 x1 aB p1 q1=>?_⟩;cases p1 with
 | @ref n a hn=>
  obtain⟨aQ,W,⟨m0,w0⟩,turn⟩:=q1;have sql:∀ {r':List Addr} {S':Sto} {H':Hp} {o:Ob},Ext r1 r' H1 H'->Z3 X.K r' S' H'->lAt S' n=some o->∃xs,SqL X.K H' a xs/\Rps r' H' (Zv o) xs:=λ{r' S' H' o} x' rel' eo=>by
   obtain⟨eo,eL⟩:=Xf eo;obtain⟨a',ha,ob⟩:=rel'.at eo;rw[x'.adr n a hn] at ha;cases ha
   exact ob.list eL
  obtain⟨o1,eo1⟩:=yP.mp aQ;obtain⟨xs1,sq1,_⟩:=sql Ext.refl aB.b eo1;refine⟨a,rfl,⟨xs1,sq1⟩,λD0 hD=>?_⟩;obtain⟨aC,x2⟩:=aB.b.push (ds:=[]) (xs:=[]) hD Rps.nil;refine⟨λk m H'=>∃r' S',Ext (r1++[D0]) r' (upd H1 D0 (.lst [])) H'/\Z3 X.K r' S' H'/\W k m S',⟨m0,_,_,Ext.refl,aC,w0⟩,?_⟩;rintro k m H2 ⟨r2,S2,x3,rb2,w2⟩;have ha2:r2[S1.length]?=some D0:=x3.adr _ _ (Tn aB.len)
  have q:=turn k m S2 w2;split at q
  ·rename_i o eo;obtain⟨xs,sq,pr⟩:=sql (x2.trans x3) rb2 eo;split at q
   ·rename_i y ey;obtain⟨v,hv,pv⟩:=pr.get ey;refine .inr ⟨⟨xs,v,sq,hv⟩,λv' H' y'=>?_⟩;obtain⟨eH,y'⟩:=y';subst eH;have ev:v'=v:=by
     have z:=y' xs sq;rw[hv] at z;exact(Option.some.inj z).symm
    subst ev;have z:=HJ (Nx:=λH'=>∃m',m'<m/\∃r' S',Ext (r1++[D0]) r' (upd H1 D0 (.lst [])) H'/\Z3 X.K r' S' H'/\W (k+1) m' S') (rs.ext (x1.trans (x2.trans x3))) ha2 rb2 pv q λr' S' H' x' rb' ⟨m',hm,w'⟩=>⟨m',hm,r',S',x3.trans x',rb',w'⟩
    exact z
   ·rename_i ey;have aM:(Zv o).length<=k:=yQ.mp ey;exact .inl ⟨⟨xs,sq,by rw[<- pr.1];exact aM⟩,ret _ H2 r2 _ S2 (x1.trans (x2.trans x3)) ⟨rb2,aZ.xw.ext (x1.trans (x2.trans x3))⟩ (.ref ha2) q⟩
  ·exact q.elim
 | _=>exact(show False from q1).elim
theorem CY {ta:TDA}{tc:TDT}{te:TDE}{σ:St}{H:Hp}{Qv:VK}(h:up X.K Z (W7 caps ta tc te) σ H Qv):Rk caps (Bl (upA X.K Z ta)) (upT X.K Z0 tc) (up X.K Z0 te) σ H Qv:=by
 obtain⟨r,dl,S,Q,rs,aZ,h,ret⟩:=h;unfold W7 at h;refine⟨r,dl,S,_,rs,aZ,h,λvs H1 r1 ds S1 x1 aB p1 q1=>?_⟩;split at q1
 ·rename_i j;obtain⟨v,vs',rfl,p2,p3⟩:=p1.uncons;have z:=p3.unnil;subst z;cases p2;obtain⟨⟨b1,b2⟩,W,w0,turn⟩:=q1;refine⟨j,rfl,b1,b2,λD0 hD=>?_⟩;obtain⟨aC,x2⟩:=aB.b.push (ds:=[]) (xs:=[]) hD Rps.nil;refine⟨λk m H'=>m=j.toNat-k/\∃r' S',Ext (r1++[D0]) r' (upd H1 D0 (.lst [])) H'/\Z3 X.K r' S' H'/\W k S',⟨j.toNat,by simp,_,_,Ext.refl,aC,w0⟩,?_⟩;rintro k m H2 ⟨em,r2,S2,x3,rb2,w2⟩;have ha2:r2[S1.length]?=some D0:=x3.adr _ _ (Tn aB.len)
  have q:=turn k S2 w2;split at q
  ·rename_i hk;refine .inr ⟨hk,λv' H' y'=>?_⟩;obtain⟨eH,y'⟩:=y';subst eH;subst y';have pk:Rp r2 H' (.int (k:Int)) (.int (0+(k:Int))):=by rw[Int.zero_add];exact .int _
   have z:=HJ (Nx:=λH'=>∃m',m'<m/\m'=j.toNat-(k+1)/\∃r' S',Ext (r1++[D0]) r' (upd H1 D0 (.lst [])) H'/\Z3 X.K r' S' H'/\W (k+1) S') (rs.ext (x1.trans (x2.trans x3))) ha2 rb2 pk q
    λr' S' H' x' rb' w'=>⟨j.toNat-(k+1),by omega,rfl,r',S',x3.trans x',rb',w'⟩
   exact z
  ·rename_i hk;exact .inl ⟨by show j.toNat<=k;omega,ret _ H2 r2 _ S2 (x1.trans (x2.trans x3)) ⟨rb2,aZ.xw.ext (x1.trans (x2.trans x3))⟩ (.ref ha2) q⟩
 ·exact q1.elim
theorem XQ (har:X.env.scope=ar)(hc:X.calm=true)(cs:Vx sc ar x N)(hN:caps.map (λi=>X.N[i]?)=N.map some)(hnd:(x::N).Nodup)(hl:PD X Z aU tl)(ht:∀cl C s0 H0 fp pn,VG (Cx.comp X sc (x::N) cl C s0 H0 fp pn) ifs tc)(he:∀cl C s0 H0 fp pn,PD (Cx.comp X sc (x::N) cl C s0 H0 fp pn) Z0 aW te)(hs:∀y,foldedSetIterable aU X.env y=pure y:=by intro _;rfl):PD X Z (.ListComp aW [⟨.Name x px,aU,ifs,0⟩] sc pos) (X9 caps tl tc te):=by
 subst har;exact Z9 (K6 hc cs hN hnd (tc:=upT X.K Z0 tc) (te:=up X.K Z0 te) (JA hl) ht he hs) λ_ _ _ h=>BE h
theorem FU (har:X.env.scope=ar)(hc:X.calm=true)(cs:Vx sc ar x N)(hN:caps.map (λi=>X.N[i]?)=N.map some)(hnd:(x::N).Nodup)(hg:Gl X "range")(hm:X.mg "range"=none)(ha:PDA X Z [a] ta)(ht:∀cl C s0 H0 fp pn,VG (Cx.comp X sc (x::N) cl C s0 H0 fp pn) ifs tc)(he:∀cl C s0 H0 fp pn,PD (Cx.comp X sc (x::N) cl C s0 H0 fp pn) Z0 aW te)(hs:∀y,foldedSetIterable (.Call (.Name "range" p) [a] [] aK) X.env y=pure y:=by intro _;rfl)(hst:starEach [a] X.env=[(false,eval a X.env)]:=by rfl):
  PD X Z (.ListComp aW [⟨.Name x px,.Call (.Name "range" p) [a] [] aK,ifs,0⟩] sc pos) (W7 caps ta tc te):=by
 subst har;exact Z9 (K6 hc cs hN hnd (tc:=upT X.K Z0 tc) (te:=up X.K Z0 te) (HL hg hm ha hst) ht he hs) λ_ _ _ h=>CY h
theorem Lk {t:TE}{td:TDE}{i:Nat}{F:V4}{σ:St}{H:Hp}(imp:∀Qv,up X.K Z td σ H Qv->t σ H Qv)(h:upS X.K Z (λE dl S=>td dl S λd S1=>E.nx (dl.set i (some d)) S1) F σ H):t σ H λv H1=>F.nx (σ.set i (some v)) H1:=by
 obtain⟨r,dl,S,E,rs,aZ,h,ret⟩:=h;exact imp _ ⟨r,dl,S,_,rs,aZ,h,λv H1 r1 d S1 x aB p q=>ret.nx _ H1 r1 _ S1 x ((rs.ext x).set i p) aB q⟩
theorem C6 {tl:TDE}{tc:TDT}{te:TDE}{i:Nat}{y:Str}{py spos:Pos}(har:X.env.scope=ar)(hc:X.calm=true)(cs:Vx sc ar x N)(hN:caps.map (λi=>X.N[i]?)=N.map some)(hnd:(x::N).Nodup)(hNd:X.N.Nodup)(hy:X.N[i]?=some y)(hlo:ar.names.lookup y=some .local)
  (hl:PD X Z aU tl)(ht:∀cl C s0 H0 fp pn,VG (Cx.comp X sc (x::N) cl C s0 H0 fp pn) ifs tc)(he:∀cl C s0 H0 fp pn,PD (Cx.comp X sc (x::N) cl C s0 H0 fp pn) Z0 aW te)
  (hsw:swapsWith (.ListComp aW [⟨.Name x px,aU,ifs,0⟩] sc pos) (some (.Name y py)) spos.line X.env=pure true:=by rfl)
  (hs:∀y,foldedSetIterable aU X.env y=pure y:=by intro _;rfl):PDS X Z (.Assign [.Name y py] (.ListComp aW [⟨.Name x px,aU,ifs,0⟩] sc pos) spos) (To i (X9 caps tl tc te)):=by
 subst har;exact YN (Bm hc cs hN hnd (tc:=upT X.K Z0 tc) (te:=up X.K Z0 te) (JA hl) ht he hNd hy hlo hsw hs) λF σ H h=>Lk (λ_ h=>BE h) h
theorem Gh {ta:TDA}{tc:TDT}{te:TDE}{a:Expr}{p aK:Pos}{i:Nat}{y:Str}{py spos:Pos}(har:X.env.scope=ar)(hc:X.calm=true)(cs:Vx sc ar x N)(hN:caps.map (λi=>X.N[i]?)=N.map some)(hnd:(x::N).Nodup)(hNd:X.N.Nodup)(hy:X.N[i]?=some y)
  (hlo:ar.names.lookup y=some .local)(hg:Gl X "range")(hm:X.mg "range"=none)(ha:PDA X Z [a] ta)
  (ht:∀cl C s0 H0 fp pn,VG (Cx.comp X sc (x::N) cl C s0 H0 fp pn) ifs tc)(he:∀cl C s0 H0 fp pn,PD (Cx.comp X sc (x::N) cl C s0 H0 fp pn) Z0 aW te)
  (hsw:swapsWith (.ListComp aW [⟨.Name x px,.Call (.Name "range" p) [a] [] aK,ifs,0⟩] sc pos) (some (.Name y py)) spos.line X.env=pure true:=by rfl)
  (hs:∀y,foldedSetIterable (.Call (.Name "range" p) [a] [] aK) X.env y=pure y:=by intro _;rfl)(hst:starEach [a] X.env=[(false,eval a X.env)]:=by rfl):
  PDS X Z (.Assign [.Name y py] (.ListComp aW [⟨.Name x px,.Call (.Name "range" p) [a] [] aK,ifs,0⟩] sc pos) spos) (To i (W7 caps ta tc te)):=by
 subst har;exact YN (Bm hc cs hN hnd (tc:=upT X.K Z0 tc) (te:=up X.K Z0 te) (HL hg hm ha hst) ht he hNd hy hlo hsw hs) λF σ H h=>Lk (λ_ h=>CY h) h
@[irreducible] def WL (to te:TDE):TDE:=λdl S Q=>to dl S λx S1=>match x with
 | .ref n=>match S1[n]? with
  | some (.lst _)=>te dl S1 λy S2=>match S2[n]? with
   | some (.lst xs)=>if xs.length<1000 then Q .non (S2.set n (.lst (xs++[y]))) else False
   | _=>False
  | _=>False
 | _=>False
theorem YI (ho:PD X Z o to)(he:PD X Z e te)(hbase:attributeBase o "append" X.env (eval o X.env)=eval o X.env:=by rfl)(hfew:((backTo aH (starEach [e] X.env)).all (λx=>!x.1)&&(backToKw aH (keywordEach [] X.env)).all (λx=>x.1.isSome)
  &&decide (([e]:List Expr).length+([]:List Keyword).length+(if ([]:List Keyword).isEmpty then 0 else 1)<30))=true:=by rfl)(hline:(aJ.endLine==aH.line)=true:=by rfl)(hst:starEach [e] X.env=[(false,eval e X.env)]:=by rfl):
  PD X Z (.Call (.Attribute o "append" aJ) [e] [] aH) (WL to te):=
 Z9 (Bj PySem.F.plainAttrs_list PySem.F.slot_list_append PySem.F.type_list_append Eu ho (C3 he BH hst) hbase hfew hline hst rfl) λσ H Qv h=>by
  obtain⟨r,dl,S,Q,rs,aZ,h,ret⟩:=h;unfold WL at h;refine⟨r,dl,S,_,rs,aZ,h,λv H1 r1 d S1 x1 aB p1 h1=>?_⟩;cases p1 with
  | @ref n a hn=>
   dsimp only at h1;split at h1
   ·rename_i xs0 e0;obtain⟨a',ha,ob⟩:=aB.at e0;rw[hn] at ha;cases ha
    obtain⟨ys,hH,_⟩:=ob;refine⟨.inl ⟨rfl,ys,SqL.of hH⟩,r1,dl,S1,_,rs.ext x1,aB,h1,λv2 H2 r2 d2 S2 x2 aC p2 h2=>?_⟩;split at h2
    ·rename_i xs1 e1;obtain⟨hlt,h2⟩:=Kg h2;have ha2:=x2.adr n a hn;obtain⟨zs,hH2,pz⟩:=aC.b.ob n a _ ha2 e1;obtain⟨aE,x3⟩:=aC.set ha2 e1 (pz.snoc p2);exact⟨a,zs,v2,rfl,rfl,hH2,by rw[<- pz.1];exact QJ (yN hlt),ret .non _ r2 .non _ (x1.trans (x2.trans x3)) aE .non h2⟩
    ·exact h2.elim
   ·exact h1.elim
  | _=>exact(show False from h1).elim
def NP:WC:=λds S Q=>match ds with
 | [.tup xs]=>Q (.ref S.length) (S++[.lst xs])
 | [.ref n]=>match lAt S n with
  | some o=>Q (.ref S.length) (S++[.lst (Zv o)])
  | none=>False
 | _=>False
theorem TX:YD X (.type "list") (upC X.K Z NP):=G0 zaI λxs H Qv ⟨r,S,ds,Q,aZ,ps,q,ret⟩=>by
 unfold NP at q;split at q
 ·rename_i ys;obtain⟨v,vs,rfl,p1,p2⟩:=ps.uncons;have z:=p2.unnil;subst z;obtain⟨a,zs,rfl,h1,h2⟩:=p1.untup;refine⟨a,zs,rfl,.inr (SqT.of h1),λl hl=>?_⟩;obtain⟨aC,x⟩:=aZ.push hl h2;exact ret _ _ _ (.ref S.length) _ x aC (UK aZ.len) q
 ·rename_i n;obtain⟨v,vs,rfl,p1,p2⟩:=ps.uncons;have z:=p2.unnil;subst z;split at q
  ·rename_i o eo;obtain⟨eo,eL⟩:=Xf eo;obtain⟨a,ha,ob⟩:=aZ.at eo;cases p1 with
   | ref h1=>
    rw[h1] at ha;cases ha
    obtain⟨ys,sq,pr⟩:=ob.list eL;refine⟨_,ys,rfl,.inl sq,λl hl=>?_⟩;obtain⟨aC,x⟩:=aZ.push hl pr;exact ret _ _ _ (.ref S.length) _ x aC (UK aZ.len) q
  ·exact q.elim
 ·exact q.elim
def YO:List D->Option (List Bool)
 | []=>some []
 | .bl b::r=>(YO r).map (b::·)
 | _::_=>none
def Sm (g:List Bool->Bool):WC:=λds S Q=>match ds with
 | [.ref n]=>match lAt S n with
  | some o=>match YO (Zv o) with
   | some bs=>Q (.bl (g bs)) S
   | none=>False
  | none=>False
 | _=>False
theorem E0 {r:List Addr}{H:Hp}:∀ {ds:List D} {bs:List Bool} {vs:List V} {us:List Value},YO ds=some bs->Rps r H ds vs->ZJ vs us->us=bs.map Value.bool
 | [],bs,vs,us,e,p,q=>by
  have z:=p.unnil;subst z;cases q;simp[YO] at e;subst e;rfl
 | d::ds,bs,vs,us,e,p,q=>by
  obtain⟨v,vs',rfl,p1,p2⟩:=p.uncons;cases d with
  | bl b=>
   cases p1;cases q with
   | cons q1 q2=>
    have q1':_=Value.bool b:=q1;subst q1';simp only[YO,zG] at e;obtain⟨ms,e1,rfl⟩:=e;rw[E0 e1 p2 q2];rfl
  | _=>simp[YO] at e
theorem zbg {bs:List Bool}:(List.range bs.length).all (λi=>bs.getD i false)=bs.all id:=by
 rw[yV];rw[List.all_eq_true,List.all_eq_true];refine⟨λh b hb=>?_,λh i hi=>?_⟩
 ·obtain⟨i,hi,e⟩:=yK.mp hb;have hb':=h i (yZ.mpr hi);simpa [hi,e] using hb'
 ·have hi':i<bs.length:=yZ.mp hi
  have:=h bs[i] (yM hi');simpa [hi'] using this
theorem zeh {bs:List Bool}:(List.range bs.length).any (λi=>bs.getD i false)=bs.any id:=by
 rw[yV];rw[List.any_eq_true,List.any_eq_true];refine⟨λ⟨i,hi,h⟩=>?_,λ⟨b,hb,h⟩=>?_⟩
 ·have hi':i<bs.length:=yZ.mp hi;exact⟨bs[i],yM hi',by simpa [hi'] using h⟩
 ·obtain⟨i,hi,e⟩:=yK.mp hb;exact⟨i,yZ.mpr hi,by simpa [hi,e] using h⟩
theorem zbz {prog:Program}{w:World}{A:Around}{bs:List Bool}:TruthOf prog w A (λi v=>(bs.map Value.bool).toArray[i]?=some v) λi=>bs.getD i false:=λi v s Q E hP hQ=>by
  have e:(bs.map Value.bool)[i]?=some v:=by simpa using hP
  rw[zE] at e;cases q:bs[i]? with
  | none=>
   rw[q] at e;cases e
  | some b=>
    rw[q] at e;have z:Value.bool b=v:=by simpa using e
    subst z;have z2:bs.getD i false=b:=by simp[zT,q]
    have hQ':Q (bs.getD i false) s:=hQ;rw[z2] at hQ';exact wpAny_truthy_bool hQ'
theorem DG {n:Nat}{a:Addr}{o:Ob}{bs:List Bool}{pins:LA}{σ:St}{H:Hp}{s:Shared}{r:List Addr}{S:Sto}{Q:DK}{Qv:VK}{E:Value->Shared->Prop}{g:List Bool->Bool}(G:List Nat->(Nat->Bool)->Bool)
  (hG:G (List.range bs.length) (λi=>bs.getD i false)=g bs)(hc:X.calm=true)(I:Inv X pins σ H s)(aZ:Rel X.K Z r S H)(hn:r[n]?=some a)(eo:lAt S n=some o)(eb:YO (Zv o)=some bs)(q:Q (.bl (g bs)) S)(ret:Ret X.K Z r H Q Qv):
  wpAny (model X.prog X.w) X.A.in1 (pyIter (.ref a)) (λit s₂=>∃I fp wr n P' St tr,it=.ref I/\Walks X.prog X.w X.A.in1 I fp wr n P' St/\St 0 s₂.heap/\TruthOf X.prog X.w X.A.in1 P' tr/\
   ∀h' tk,(∀b o,b ∉ wr->s₂.heap.get? b=some o->h'.get? b=some o)->EP X pins σ Qv (.bool (G (List.range n) tr)) { s₂ with heap:=h',toks:=tk }) E s:=by
 obtain⟨eo,eL⟩:=Xf eo;obtain⟨a',ha,ob⟩:=aZ.at eo;rw[hn] at ha;cases ha
 obtain⟨ys,sq,pr⟩:=ob.list eL;obtain⟨aX,ri,pl,hz⟩:=I.list sq;have eits:=E0 eb pr ri;subst eits;refine wpAny_pyIter_list pl.isList ?_;have hne:a≠s.heap.objs.size:=zM (by
  obtain⟨ob,e,_⟩:=pl.isList;exact Heap.lt_size e)
 refine⟨s.heap.objs.size,_,_,_,_,_,λi=>bs.getD i false,rfl,Walks.list (show X.A.in1.handled=none from I.ok.hd hc) _ a hne (bs.map Value.bool).toArray,⟨⟨_,Heap.get?_push_size _ rfl,rfl,rfl⟩,pl.isList.at λo e=>Heap.get?_push_of_some _ e⟩,zbz,λh' tk hk=>?_⟩;have ez:(bs.map Value.bool).toArray.size=bs.length:=by simp
 rw[ez,hG];refine⟨.bl (g bs),H,I.kept λb o e=>hk b o (λz=>?_) (Heap.get?_push_of_some _ e),rfl,ret _ _ _ _ _ Ext.refl aZ (.bl _) q⟩;have z':b=s.heap.objs.size:=by simpa using z
 exact absurd (z' ▸ Heap.lt_size e) (yL _)
theorem Dq {id:String}{g:List Bool->Bool}(rule:∀(pins:LA)(σ:St)(H:Hp)(s:Shared)(r:List Addr)(S:Sto)(Q:DK)(Qv:VK)(n:Nat)(a:Addr)(o:Ob)(bs:List Bool),Inv X pins σ H s->Rel X.K Z r S H->r[n]?=some a->lAt S n=some o->YO (Zv o)=some bs->
   Q (.bl (g bs)) S->Ret X.K Z r H Q Qv->wpAny (model X.prog X.w) X.A (call (.builtin id) [.ref a]) (EP X pins σ Qv) X.xe s):YD X (.builtin id) (upC X.K Z (Sm g)):=by
 intro pins s σ H xs us Qv I rv h;obtain⟨r,S,ds,Q,aZ,ps,q,ret⟩:=h;unfold Sm at q;split at q
 ·rename_i n;obtain⟨v,vs,rfl,p1,p2⟩:=ps.uncons;have z:=p2.unnil;subst z;split at q
  ·rename_i o eo;split at q
   ·rename_i bs eb;cases p1 with
    | ref h1=>
     obtain⟨u,rfl,ru⟩:=Vq rv;cases ru;exact rule pins σ H s r S Q Qv n _ o bs I aZ h1 eo eb q ret
   ·exact q.elim
  ·exact q.elim
 ·exact q.elim
theorem LW (hc:X.calm=true):YD X (.builtin "all") (upC X.K Z (Sm λbs=>bs.all id)):=
 Dq λ_ _ _ _ _ _ _ _ _ _ _ _ I aZ h1 eo eb q ret=>call_all_walk (DG (g:=λbs=>bs.all id) (λl f=>l.all f) zbg hc I aZ h1 eo eb q ret)
theorem zcs (hc:X.calm=true):YD X (.builtin "any") (upC X.K Z (Sm λbs=>bs.any id)):=
 Dq λ_ _ _ _ _ _ _ _ _ _ _ _ I aZ h1 eo eb q ret=>call_any_walk (DG (g:=λbs=>bs.any id) (λl f=>l.any f) zeh hc I aZ h1 eo eb q ret)
@[irreducible] def irr (w:WC):WC:=w
@[irreducible] def Xh (w:W2):W2:=w
theorem U2 (w:WC):irr w=w:=by unfold irr;rfl
theorem Ww (w:W2):Xh w=w:=by unfold Xh;rfl
theorem ZY (h:YD X f (upC X.K Z w)):YD X f (upC X.K Z (irr w)):=by rw[U2];exact h
theorem zfx (ha:PD X Z a ta)(hb:PD X Z b tb)(hs:RZ b):PD X Z (.Subscript a b pos) (dOp (Xh wIx) ta tb):=by rw[Ww];exact Aa ha hb hs
theorem ZI {a b:Expr}{ta tb:TDE}(ha:PD X Z a ta)(hb:PD X Z b tb)(hs:RZ b:=by exact λ_ _=>rfl):PD X Z (.Subscript a b pos) (dOp (Xh wIx) ta tb):=zfx ha hb hs
theorem Zz (S:Sto)(o:Ob):(S++[o])[S.length]?=some o:=by simp
theorem VR {S:Sto}{o u:Ob}{n:Nat}(h:S[n]?=some o):(S++[u])[n]?=some o:=by
 rw[zI (zA.mp h).1];exact h
theorem WH {tl te:TDE}{dl:Ev}{S S1:Sto}{Q:DK}{n:Nat}{o:Ob}(g:D->D)(htl:∀K:DK,K (.ref n) S1->tl dl S K)(h1:S1[n]?=some o)(hl:(Zv o).length<=1000)
  (ht:∀x∈Zv o,∀(S2:Sto)(K:DK),Pre S1 S2->K (g x) S2->te (some x::Yc caps dl) S2 K)(hq:Q (.ref S1.length) (S1++[.lst ((Zv o).map g)]))(hL:Xl o=some o:=by rfl):X9 caps tl Xa te dl S Q:=by
 unfold X9;refine htl _ ⟨by rw[ZZ h1 hL];rfl,λk m S2=>S2=S1++[.lst (((Zv o).take k).map g)]/\m+k=(Zv o).length,⟨(Zv o).length,by simp,by omega⟩,?_⟩;rintro k m S2 ⟨rfl,hm⟩;rw[ZZ (VR h1) hL];dsimp only;split
 ·rename_i x hx;have hk:k<(Zv o).length:=(zA.mp hx).1;unfold WM Xa;simp only[if_true];refine ht x (zF hx) _ _ Pre.refl.push ?_;rw[Zz];refine⟨by simp;omega,m-1,by omega,?_,by omega⟩;have e:(Zv o).take (k+1)=(Zv o).take k++[x]:=by rw[List.take_succ,hx];rfl
  rw[e,zY,List.set_append_right _ _ (zC _)];simp
 ·rename_i hx;have hk:(Zv o).length<=k:=yQ.mp hx;rw[yR hk];exact hq
theorem zfD (h:YO (Zv o)=some bs):Xl o=some o:=by
 cases o<;>first|rfl|cases h
theorem DQ (h:Y5 (Zv o)=some xs):Xl o=some o:=by
 cases o<;>first|rfl|cases h
theorem Rw (h:S[n]?=some o)(hb:YO (Zv o)=some bs)(hq:Q (.bl (g bs)) S):irr (Sm g) [.ref n] S Q:=by
 rw[U2];unfold Sm;simp only[ZZ h (zfD hb),hb];exact hq
theorem W6 (h:S[n]?=some o)(hb:Y5 (Zv o)=some xs)(hne:xs≠[])(hq:∀m,m∈xs->(∀y∈xs,le y m)->Q (.int m) S):irr (S5 le two) [.ref n] S Q:=by
 rw[U2];unfold S5;simp only[ZZ h (DQ hb),hb];exact⟨hne,hq⟩
theorem TU (h:lAt S n=some o)(hq:Q (.ref S.length) (S++[.lst (Zv o)])):irr NP [.ref n] S Q:=by
 rw[U2];unfold NP;simp only[h];exact hq
theorem YR {to te:TDE}{dl:Ev}{S S1:Sto}{Q:DK}{n:Nat}{xs:List D}{y:D}(hto:∀K:DK,K (.ref n) S1->to dl S K)(h:S1[n]?=some (.lst xs))(hte:∀K:DK,K y S1->te dl S1 K)(hl:xs.length<1000)(hq:Q .non (S1.set n (.lst (xs++[y])))):WL to te dl S Q:=by
 unfold WL;refine hto _ ?_;simp only[h];refine hte _ ?_;simp only[h];exact ifP hl hq
end
theorem VL:Sco n (.tup [.int x,.int y]):=.tup λd hd=>by
 have z:d=.int x\/d=.int y:=by simpa using hd
 rcases z with rfl|rfl<;>exact .int _
open PySem PySem.Spec PyProof.Rows L2 PySem.W Builtin Builtin.ObjectAttr Builtin.Getset_descriptor
structure Nx (K:Frag)(D:Addr):Prop where
 ga:findIn K (.ref D) "__getattribute__"=some (some (.builtin "BaseException.__getattribute__"))
 hk:findIn K (.ref D) "__getattr__"=some none
 ha:findIn K (.ref D) "__class__"=some (some (.builtin "object.__class__"))
 hn:specialIn K (.builtin "object.__class__") "__get__"=some (some (.builtin "getset_descriptor.__get__"))
 ht:takesIn K (.builtin "object.__class__")=some true
 hm:mroIn K D (.type "object")=some true
 hb:mroIn K D (.type "BaseException")=some true
section
variable {X:Cx}{Z:Zx}
end
def eqN:Nat->D->D->Option Bool
 | 0=>eqF
 | k+1=>eqT (eqN k)
theorem D5:∀k,Rg (eqN k)
 | 0=>Sw
 | k+1=>DP (D5 k)
theorem Hv:∀k,Uh k (eqN k)
 | 0=>Mx 0
 | k+1=>Bp (Hv k) (D5 k)
def Xr (f:D->D->Option Bool):List D->D->Option Bool
 | [],_=>some false
 | y::ys,x=>match f y x,Xr f ys x with
  | some b,some c=>some (b||c)
  | _,_=>none
def wIn (k:Nat)(neg:Bool):W2:=λx y S Q=>match y with
 | .ref n=>match lAt S n with
  | some o=>match Xr (eqN k) (Zv o) x with
   | some b=>Q (.bl (if neg then !b else b)) S
   | none=>False
  | none=>False
 | _=>False
theorem BD (h:ZK v u)(h':ZK v' u):v=v':=by
 cases v<;>cases v'<;>simp[L2.ZK] at h h'<;>first
  | rfl
  | (subst h;simp at h';subst h';rfl)
  | (obtain⟨t,rfl⟩:=h;simp at h';subst h';rfl)
  | (obtain⟨t,rfl⟩:=h;simp at h')
  | (subst h;simp at h')
  | skip
theorem Po {r:List Addr}{H:Hp}{d d' x:D}{v:V}{b b':Bool}(p:Rp r H d v)(p':Rp r H d' v)(e:eqF d x=some b)(e':eqF d' x=some b'):b=b':=by
 have z:d=d':=by
  cases p<;>cases p'<;>first
   | rfl
   | (cases x<;>simp[eqF] at e)
   | (cases x<;>simp[eqF] at e')
 subst z;rw[e] at e';exact Option.some.inj e'
theorem DD {f:D->D->Option Bool}{r:List Addr}{H:Hp}(hf:∀(d d' x:D)(v:V)(b b':Bool),Rp r H d v->Rp r H d' v->f d x=some b->f d' x=some b'->b=b'):
  ∀ {ds ds' zs:List D} {vs:List V} {b b':Bool},Rps r H ds vs->Rps r H ds' vs->eqL f ds zs=some b->eqL f ds' zs=some b'->b=b'
 | [],ds',zs,vs,b,b',p,p',e,e'=>by
  have z:=p.unnil;subst z;cases ds' with
  | nil=>rw[e] at e';exact Option.some.inj e'
  | cons y ys=>exact absurd p'.1 (by simp)
 | d::ds,ds',zs,vs,b,b',p,p',e,e'=>by
  obtain⟨v,vs',rfl,p1,p2⟩:=p.uncons;cases ds' with
  | nil=>exact absurd p'.1 (by simp)
  | cons d' ds'=>
   obtain⟨q1,q2⟩:=p'.tail;cases zs with
   | nil=>
    simp only[eqL,Option.some.injEq] at e e';exact e.symm.trans e'
   | cons z zs=>
    unfold eqL at e e';split at e
    ·rename_i b1 c1 a1 a2;split at e'
     ·rename_i b2 c2 a3 a4;have h1:=hf d d' z v b1 b2 p1 q1 a1 a3
      have h2:=DD hf p2 q2 a2 a4;subst h1 h2;simp only[Option.some.injEq] at e e';exact e.symm.trans e'
     ·cases e'
    ·cases e
theorem Hb:∀(k:Nat) {r:List Addr} {H:Hp} (d d' x:D) (v:V) (b b':Bool),Rp r H d v->Rp r H d' v->eqN k d x=some b->eqN k d' x=some b'->b=b'
 | 0,r,H,d,d',x,v,b,b',p,p',e,e'=>Po p p' e e'
 | k+1,r,H,d,d',x,v,b,b',p,p',e,e'=>by
  cases p with
  | tup h1 l1 f1=>
   cases p' with
   | tup h2 l2 f2=>
    rw[h1] at h2;cases h2
    cases x with
    | tup zs=>exact DD (λd d' x v b b'=>Hb k d d' x v b b') ⟨l1,f1⟩ ⟨l2,f2⟩ e e'
    | _=>simp[eqN,eqT,eqF] at e
   | ref h=>cases x<;>simp[eqN,eqT,eqF] at e'
   | exc h=>cases x<;>simp[eqN,eqT,eqF] at e'
  | non=>exact Po (x:=x) .non p' (by cases x<;>exact e) (by cases p'<;>cases x<;>exact e')
  | bl i=>exact Po (x:=x) (.bl i) p' (by cases x<;>exact e) (by cases p'<;>cases x<;>exact e')
  | int i=>exact Po (x:=x) (.int i) p' (by cases x<;>exact e) (by cases p'<;>cases x<;>exact e')
  | str i=>exact Po (x:=x) (.str i) p' (by cases x<;>exact e) (by cases p'<;>cases x<;>exact e')
  | ref h=>cases x<;>simp[eqN,eqT,eqF] at e
  | exc h=>cases x<;>simp[eqN,eqT,eqF] at e
theorem Br:∀ {ys:List D} {b:Bool},Xr f ys x=some b->(∀y∈ys,∃c,f y x=some c)/\(b=true↔∃y∈ys,f y x=some true)
 | [],b,e=>by
  simp only[Xr,Option.some.injEq] at e;subst e;simp
 | y::ys,b,e=>by
  unfold Xr at e;split at e
  ·rename_i b1 c1 e1 e2;obtain⟨h1,h2⟩:=Br e2;simp only[Option.some.injEq] at e;subst e;refine⟨λz hz=>?_,?_⟩
   ·rcases zR.mp hz with rfl|hz'
    ·exact⟨b1,e1⟩
    ·exact h1 z hz'
   ·rw[Bool.or_eq_true,h2];refine⟨λq=>?_,λ⟨z,hz,q⟩=>?_⟩
    ·rcases q with q|⟨z,hz,q⟩
     ·exact⟨y,yS,by rw[e1,q]⟩
     ·exact⟨z,yH _ hz,q⟩
    ·rcases zR.mp hz with rfl|hz'
     ·left
      rw[e1] at q;exact Option.some.inj q
     ·exact .inr ⟨z,hz',q⟩
  ·cases e
theorem zfA {k:Nat}{pins:LA}{σ:St}{H:Hp}{s:Shared}{r:List Addr}{A:Around}{ds:List D}{vs:List V}{us:List Value}{dx:D}{x:V}{u:Value}{b:Bool}(I:Inv X pins σ H s)(hu:A.units+k<cLine)
  (p:Rps r H ds vs)(rv:ZJ vs us)(px:Rp r H dx x)(rx:ZK x u)(e:Xr (eqN k) ds dx=some b):∃g:Value->Bool,(∀y,y∈us.toArray->SeqAt.EqAt A s y u (g y))/\us.toArray.any g=b:=by
 obtain⟨h1,h2⟩:=Br e;have at_:∀y∈us,∃d v,d∈ds/\Rp r H d v/\ZK v y:=λy hy=>by
  obtain⟨j,hj,ej⟩:=yK.mp hy;have hv:j<vs.length:=by rw[rv.length];exact hj
  have gv:vs[j]?=some vs[j]:=by simp[hv]
  obtain⟨w,gw,rw'⟩:=rv.get gv;obtain⟨d,gd,pd⟩:=p.get' gv;have ew:w=y:=by
   rw[zD hj,ej] at gw;exact(Option.some.inj gw).symm
  subst ew;exact⟨d,_,zF gd,pd,rw'⟩
 classical
 refine⟨λy=>decide (∃d v,d∈ds/\Rp r H d v/\ZK v y/\eqN k d dx=some true),λy hy=>?_,?_⟩
 ·obtain⟨d,v,hd,pd,rd⟩:=at_ y (by simpa using hy);obtain⟨c,hc⟩:=h1 d hd;have same:decide (∃d v,d∈ds/\Rp r H d v/\ZK v y/\eqN k d dx=some true)=c:=by
   cases c with
   | true=>exact decide_eq_true ⟨d,v,hd,pd,rd,hc⟩
   | false=>
    refine decide_eq_false λ⟨d',v',_,pd',rd',hc'⟩=>?_
    have ev:=BD rd rd';subst ev;exact absurd (Hb k d d' dx v false true pd pd' hc hc') (by decide)
  show SeqAt.EqAt A s y u (decide _);rw[same];exact Hv k X pins σ H s r A d dx v x y u c I hu pd px rd rx hc
 ·rw[yV,h2,List.any_toArray,List.any_eq_true];refine⟨λ⟨y,hy,q⟩=>?_,λ⟨d,hd,q⟩=>?_⟩
  ·obtain⟨d,v,hd,_,_,q'⟩:=of_decide_eq_true q;exact⟨d,hd,q'⟩
  ·obtain⟨j,hj,ej⟩:=yK.mp hd;have gd:ds[j]?=some d:=by simp[hj,ej]
   obtain⟨v,gv,pv⟩:=p.get gd;obtain⟨w,gw,rw'⟩:=rv.get gv;exact⟨w,zF gw,decide_eq_true ⟨d,v,hd,pv,rw',q⟩⟩
theorem zhn (k:Nat)(hu:X.A.units+1+k<cLine):OpR X (compareOp .NotIn) (upO X.K Z (wIn k true)):=by
 intro pins s σ H x y v u Qv I rx ry h;obtain⟨r,S,dx,dy,Q,aZ,px,py,q,ret⟩:=h;cases py with
 | @ref n a hn=>
  unfold wIn at q;dsimp only at q;split at q
  ·rename_i o eo;split at q
   ·rename_i b eb;cases ry;obtain⟨eo,eL⟩:=Xf eo;obtain⟨a',ha,ob⟩:=aZ.at eo;rw[hn] at ha;cases ha
    obtain⟨ys,sq,pr⟩:=ob.list eL;obtain⟨us,ru,pl,_⟩:=I.list sq;obtain⟨g,g1,g2⟩:=zfA (A:=X.A.in1) I (by show X.A.units+1+k<_;omega) pr ru px rx eb;refine SeqAt.notIn_listAt g pl.isList g1 ?_;rw[g2];exact⟨.bl (!b),H,I,rfl,ret _ _ _ _ _ Ext.refl aZ (.bl (!b)) q⟩
   ·exact q.elim
  ·exact q.elim
 | _=>exact(show False from q).elim
def dForT (i:Nat)(tl:TDE)(tb:TDS):TDS:=λE dl S=>tl dl S λd S1=>match d with
 | .tup xs=>∃W:Nat->Ev->Sto->Prop,W 0 dl S1/\∀k dl S,W k dl S->match xs[k]? with
  | some x=>tb { nx:=λdl' S'=>W (k+1) dl' S',rt:=E.rt,bk:=E.nx,ct:=λdl' S'=>W (k+1) dl' S' } (dl.set i (some x)) S
  | none=>E.nx dl S
 | _=>False
theorem zfc (hp:PassesOwn (model X.prog X.w) X.A X.env X.xe)(hc:X.calm=true)(hN:X.N.Nodup)(hi:X.N[i]?=some x)(hx:Loc X.env.scope x)(hl:PD X Z aU tl)(hb:YZ X Z body tb)(hf:X.fn x=true\/X.env.scope.names.lookup x=some .local:=by first|exact .inl rfl|exact .inr rfl|assumption)(hs:∀y,foldedSetIterable aU X.env y=pure y:=by intro _;rfl):PDS X Z (.For (.Name x pos') aU body [] pos) (dForT i tl tb):=
 YN (Sl hp hc (zc2 hl) (TY hN hi hx hf) hb hs) λF σ H ⟨r,dl,S,E,rs,aZ,h,ret⟩=>by
  refine⟨r,dl,S,_,rs,aZ,h,λv H1 r1 d S1 x1 aB p1 q1=>?_⟩;cases p1 with
  | @tup ds xs a e1 l1 f1=>
   obtain⟨W,w0,turn⟩:=q1;have sq:∀ {r':List Addr} {H':Hp},Ext r1 r' H1 H'->SqT X.K H' a xs:=λ{r' H'} x'=>SqT.of (x'.tup _ _ e1)
   refine⟨a,rfl,⟨xs,sq Ext.refl⟩,λk m σ' H'=>m+k=xs.length/\∃r' dl' S',Ext r1 r' H1 H'/\Rs r' H' dl' σ'/\Rel X.K Z r' S' H'/\W k dl' S',⟨xs.length,by omega,r1,dl,S1,Ext.refl,rs.ext x1,aB,w0⟩,?_⟩;rintro k m σ2 H2 ⟨em,r2,dl2,S2,x2,rs2,aC,w2⟩;have q:=turn k dl2 S2 w2;split at q
   ·rename_i y ey;have hk:k<ds.length:=(zA.mp ey).1
    have hkx:k<xs.length:=by rw[<- l1];exact hk
    have pv:Rp r2 H2 y xs[k]:=(f1 k y xs[k] ey (by simp[hkx])).ext x2
    have go:∀σ' H' r' dl' S',Ext r2 r' H2 H'->Rs r' H' dl' σ'->Rel X.K Z r' S' H'->W (k+1) dl' S'->∃r' dl' S',Ext r1 r' H1 H'/\Rs r' H' dl' σ'/\Rel X.K Z r' S' H'/\W (k+1) dl' S':=
     λσ' H' r' dl' S' x rs' rel' w'=>⟨r',dl',S',x2.trans x,rs',rel',w'⟩
    refine .inr ⟨⟨xs,xs[k],sq x2,by simp[hkx]⟩,λσ' H'=>∃r' dl' S',Ext r1 r' H1 H'/\Rs r' H' dl' σ'/\Rel X.K Z r' S' H'/\W (k+1) dl' S',λσ' H' z=>⟨m-1,by omega,by omega,z⟩,λv' H' y'=>?_⟩;obtain⟨eH,y'⟩:=y';subst eH;have ev:v'=xs[k]:=by
     have z:=y' xs (sq x2);rw[zD hkx] at z;exact(Option.some.inj z).symm
    subst ev;exact⟨r2,_,S2,_,rs2.set i pv,aC,q,go,λσ' H' r' dl' S' x rs' rel' z=>ret.nx σ' H' r' dl' S' (x1.trans (x2.trans x)) rs' rel' z,go,ret.rt.ext (x1.trans x2)⟩
   ·rename_i ey;have aM:ds.length<=k:=yQ.mp ey;exact .inl ⟨⟨xs,sq x2,by rw[<- l1];exact aM⟩,ret.nx σ2 H2 r2 dl2 S2 (x1.trans x2) rs2 aC q⟩
  | _=>exact(show False from q1).elim
def UU:List Nat->List D->Ev->Ev
 | i::is,d::ds,dl=>UU is ds (dl.set i (some d))
 | _,_,dl=>dl
def Ku:List Nat->List V->St->St
 | i::is,v::vs,σ=>Ku is vs (σ.set i (some v))
 | _,_,σ=>σ
theorem IG {r:List Addr}{H:Hp}:∀ {is:List Nat} {ds:List D} {vs:List V} {dl:Ev} {σ:St},Rs r H dl σ->Rps r H ds vs->Rs r H (UU is ds dl) (Ku is vs σ)
 | [],ds,vs,dl,σ,h,p=>by cases ds<;>cases vs<;>exact h
 | i::is,[],vs,dl,σ,h,p=>by
  have z:=p.unnil;subst z;exact h
 | i::is,d::ds,vs,dl,σ,h,p=>by
  obtain⟨v,vs',rfl,p1,p2⟩:=p.uncons;show Rs r H (UU is ds (dl.set i (some d))) (Ku is vs' (σ.set i (some v)));exact IG (Rs.set i h p1) p2
inductive Nms (X:Cx):List Expr->List Nat->Prop
 | nil:Nms X [] []
 | cons {x:Str} {p:Pos} {i:Nat} {es:List Expr} {is:List Nat}:X.N[i]?=some x->Loc X.env.scope x->(X.fn x=true\/X.env.scope.names.lookup x=some .local)->Nms X es is->Nms X (.Name x p::es) (i::is)
def Uo (is:List Nat):TGs:=λvs σ H Q=>vs.length=is.length/\Q (Ku is vs σ) H
theorem UD (hN:X.N.Nodup):∀ {es:List Expr} {is:List Nat},Nms X es is->PGs X es (Uo is)
 | _,_,.nil=>λpins s σ H vs us Q I r h=>by
  obtain⟨e,h⟩:=h;have z:vs=[]:=by simpa using e
  subst z;exact zcZ pins s σ H [] us Q I r ⟨rfl,h⟩
 | _,_,.cons (x:=x) (p:=p) (es:=es) (is:=is) h1 h2 h3 t=>λpins s σ H vs us Q I r h=>by
  obtain⟨e,h⟩:=h;cases vs with
  | nil=>simp at e
  | cons v vs=>exact zhb (TY hN h1 h2 h3) (UD hN t) rfl pins s σ H (v::vs) us Q I r ⟨v,vs,rfl,by simpa using e,h⟩
open PySem L2
theorem Vi (S:Sto)(o u:Ob):(S++[o]).set S.length u=S++[u]:=by simp
abbrev wShl:W2:=wI NH λi j=>.int (i*2^j.toNat)
theorem zhu:OpR X (binaryOp .LShift) (upO X.K Z wShl):=opD zfU λ_ _ _ _=>.int _
def dBits (to:TDE):TDE:=λdl S Q=>to dl S λd S1=>match d with
 | .int i=>Q (.int (Builtin.Int.intBits i)) S1
 | _=>False
theorem zih:MtR X "int.bit_length" (λx xs H Q=>∃i,x=.int i/\xs=[]/\Q (.int (Builtin.Int.intBits i)) H):=by
 intro pins s σ H x xs v us Q I rx rv h;obtain⟨i,rfl,rfl,q⟩:=h;obtain⟨t,rfl⟩:=rx;cases rv;exact call_int_bit_length ⟨.int _,H,I.tok _,⟨_,rfl⟩,q⟩
theorem zhV (ho:PD X Z o to)(hbase:attributeBase o "bit_length" X.env (eval o X.env)=eval o X.env:=by rfl)(hline:(aJ.endLine==aH.line)=true:=by rfl):
  PD X Z (.Call (.Attribute o "bit_length" aJ) [] [] aH) (dBits to):=
 Z9 (zhi (T:="int") ⟨⟨_,ga_int,canon_ga_int⟩,no_getattr_int⟩ slot_int_bit_length type_int_bit_length zih ho hbase hline) λσ H Qv ⟨r,dl,S,Q,rs,aZ,h,ret⟩=>⟨r,dl,S,_,rs,aZ,h,λv H1 r1 d S1 e1 aB p1 q1=>by
  cases p1 with
  | int i=>exact⟨rfl,i,rfl,rfl,ret _ H1 r1 (.int _) S1 e1 aB (.int _) q1⟩
  | _=>exact(show False from q1).elim⟩
def Fe:Sd:=λ_ _ _ _=>False
def Df.never {P:Program}{w:World}{K:Fg}{mg:Str->Option Value}{base:Heap}{x:Str}{st:Stmt}{ps:List Str}(k:Nat)(d:Df K mg x st ps):Fk P w K mg base k x ps Fe:=
 ⟨d.f,d.fd,⟨λ_ _ _ _ ⟨_,_,_,_,_,_,_,z,_⟩=>z.elim,λ_ _ _ _ _ _ _ _ _ _ _ _ _ ⟨_,_,_,_,_,_,_,z,_⟩=>z.elim⟩,d.m,d.F.kp,d.b⟩
section
variable {X:Cx}{Z:Zx}{pos:Pos}
end
theorem Ic {ta:TDA}{te:TDE}{dl:Ev}{S S1:Sto}{Q:DK}{j:Int}(g:Nat->D)(hta:∀K:List D->Sto->Prop,K [.int j] S1->ta dl S K)(hj:0<=j/\j<=1000)
  (ht:∀k:Nat,k<j.toNat->∀(S2:Sto)(K:DK),Pre S1 S2->K (g k) S2->te (some (.int k)::Yc caps dl) S2 K)(hq:Q (.ref S1.length) (S1++[.lst ((List.range j.toNat).map g)])):W7 caps ta Xa te dl S Q:=by
 unfold W7;refine hta _ ⟨⟨by omega,by omega⟩,λk S2=>S2=S1++[.lst ((List.range k).map g)]/\k<=j.toNat,⟨by simp,by omega⟩,?_⟩;rintro k S2 ⟨rfl,hk⟩;split
 ·rename_i hk';unfold WM Xa;simp only[if_true];refine ht k hk' _ _ Pre.refl.push ?_;rw[Zz];refine⟨by simp;omega,?_,by omega⟩;rw[List.range_succ,zY,List.set_append_right _ _ (zC _)];simp
 ·have e:k=j.toNat:=by omega
  subst e;exact hq
abbrev TDO:=Ev->Sto->(Option Int->Sto->Prop)->Prop
def upP (K:Fg)(Z:Zx)(t:TDO):TO:=λσ H Q=>∃(r:List Addr)(dl:Ev)(S:Sto)(Q':Option Int->Sto->Prop),Rs r H dl σ/\Rel K Z r S H/\t dl S Q'/\∀o H' r' S',Ext r r' H H'->Rel K Z r' S' H'->Q' o S'->Q o H'
def PDO (X:Cx)(Z:Zx)(e:Option Expr)(t:TDO):Prop:=PO X e (upP X.K Z t)
def HP:TDO:=λ_ S Q=>Q none S
def Eo (t:TDE):TDO:=λdl S Q=>t dl S λd S1=>match d with
 | .int i=>Q (some i) S1
 | _=>False
theorem CT (h:PO X e t)(g:∀σ H Q,t' σ H Q->t σ H Q):PO X e t':=λpins s σ H Q I q=>h pins s σ H Q I (g σ H Q q)
theorem Vj:PDO X Z none HP:=CT zbZ λσ H Q ⟨r,dl,S,Q',rs,aZ,h,ret⟩=>ret none H r S Ext.refl aZ h
theorem WS (he:PD X Z e t):PDO X Z (some e) (Eo t):=CT (zeB he) λσ H Q ⟨r,dl,S,Q',rs,aZ,h,ret⟩=>⟨r,dl,S,_,rs,aZ,h,λv H1 r1 d S1 e1 aB p1 q1=>by
 cases p1 with
 | int i=>exact⟨i,rfl,ret (some i) H1 r1 S1 e1 aB q1⟩
 | _=>exact(show False from q1).elim⟩
section
variable {X:Cx}{Z:Zx}
end
section
variable {X:Cx}{Z:Zx}
end
theorem ZE (ho:S[n]?=some o)(hd:atI (Zv o) i=some d)(hq:Q d S)(hL:Xl o=some o:=by rfl):Xh wIx (.ref n) (.int i) S Q:=by
 rw[Ww];unfold wIx;simp only[ZZ ho hL,hd];exact hq
def SE (f:Str)(v:D):List (Str×D)->List (Str×D)
 | []=>[(f,v)]
 | p::r=>if p.1=f then (f,v)::r else p::SE f v r
theorem FR.lookup {r:List Addr}{H:Hp}{f:Str}:∀ {fs:List (Str×D)} {fs':List (Str×V)},FR r H fs fs'->(∀d,fs.lookup f=some d->∃v,fs'.lookup f=some v/\Rp r H d v)/\(fs.lookup f=none->fs'.lookup f=none)
 | [],fs',h=>by
  have e:fs'=[]:=by
   have:=h.1;simpa using this.symm
  subst e;exact⟨λd z=>by simp at z,λ_=>rfl⟩
 | p::fs,[],h=>by
  have:=h.1;simp at this
 | p::fs,q::fs',h=>by
  obtain⟨h1,h2⟩:=h;simp only[yJ,List.cons.injEq] at h1;obtain⟨p1,p2⟩:=h2.tail;obtain⟨i1,i2⟩:=FR.lookup (f:=f) (fs:=fs) (fs':=fs') ⟨h1.2,p2⟩;obtain⟨pk,pv⟩:=p;obtain⟨qk,qv⟩:=q;have ek:pk=qk:=h1.1;subst ek;by_cases z:f=pk
  ·subst z;simp only[List.lookup_cons_self];exact⟨λd hd=>⟨qv,rfl,by cases hd;exact p1⟩,λhd=>by cases hd⟩
  ·have zb:(f==pk)=false:=by simpa using z
   simp only[zV,zb];exact⟨i1,i2⟩
theorem FR.put {r:List Addr}{H:Hp}{f:Str}{d:D}{v:V}(q:Rp r H d v):∀ {fs:List (Str×D)} {fs':List (Str×V)},FR r H fs fs'->FR r H (SE f d fs) (YQ f v fs')
 | [],fs',h=>by
  have e:fs'=[]:=by
   have:=h.1;simpa using this.symm
  subst e;exact⟨rfl,Rps.cons q Rps.nil⟩
 | p::fs,[],h=>by
  have:=h.1;simp at this
 | p::fs,p'::fs',h=>by
  obtain⟨h1,h2⟩:=h;simp only[yJ,List.cons.injEq] at h1;obtain⟨p1,p2⟩:=h2.tail;have ih:=FR.put (f:=f) q (fs:=fs) (fs':=fs') ⟨h1.2,p2⟩;obtain⟨pk,pv⟩:=p;obtain⟨qk,qv⟩:=p';have ek:pk=qk:=h1.1;subst ek;unfold SE YQ;by_cases z:pk=f
  ·rw[if_pos z,if_pos z];exact⟨by simp[h1.2,z],Rps.cons q p2⟩
  ·rw[if_neg z,if_neg z];exact⟨by simp[ih.1],Rps.cons p1 ih.2⟩
section
variable {X:Cx}{Z:Zx}{pos:Pos}
def WI (C:Addr)(S:Sto):D->Option (Nat×List (Str×D))
 | .ref n=>match S[n]? with
  | some (.ins C' fs)=>if C'=C then some (n,fs) else none
  | _=>none
 | _=>none
theorem GQ (h:WI C S d=some (n,fs)):d=.ref n/\S[n]?=some (.ins C fs):=by
 unfold WI at h;split at h
 ·split at h
  ·rename_i m _ C' fs' e;split at h
   ·rename_i ec;subst ec;simp only[Option.some.injEq,Prod.mk.injEq] at h;obtain⟨rfl,rfl⟩:=h;exact⟨rfl,e⟩
   ·cases h
  ·cases h
 ·cases h
@[irreducible] def MH (C:Addr)(f:Str)(to:TDE):TDE:=λdl S Q=>to dl S λd S1=>match WI C S1 d with
 | some (_,fs)=>match fs.lookup f with
  | some v=>Q v S1
  | none=>False
 | none=>False
theorem ZM (c:Cls X.K C)(n:YJ X.K C f)(ho:PD X Z o to)(hb:attributeBase o f X.env (eval o X.env)=eval o X.env:=by rfl):PD X Z (.Attribute o f pos) (MH C f to):=
 Z9 (zaS ho hb) λσ H Qv ⟨r,dl,S,Q,rs,aZ,h,ret⟩=>by unfold MH at h;exact⟨r,dl,S,_,rs,aZ,h,λv H1 r1 d S1 e1 aB p1 q1=>by
  split at q1
  ·rename_i m fs ei;obtain⟨rfl,eS⟩:=GQ ei;split at q1
   ·rename_i w ew;obtain⟨a,ha,ob⟩:=aB.at eS;obtain⟨dx,fs',eH,fr⟩:=ob;cases p1 with
    | ref hr=>
     rw[hr] at ha;cases ha
     obtain⟨u,hu,pu⟩:=fr.lookup.1 w ew;exact⟨a,C,dx,fs',u,rfl,eH,c,n,hu,ret u H1 r1 w S1 e1 aB pu q1⟩
   ·exact q1.elim
  ·exact q1.elim⟩
@[irreducible] def N7 (C:Addr)(f:Str)(to te:TDE):TDS:=λE dl S=>te dl S λv S1=>to dl S1 λd S2=>match WI C S2 d with
 | some (n,fs)=>fs.length<1000/\E.nx dl (S2.set n (.ins C (SE f v fs)))
 | none=>False
theorem XI (c:Cls X.K C)(n:YJ X.K C f)(ho:PD X Z o to)(he:PD X Z e te)(hs:swapsWith e (some (.Attribute o f p2)) pos.line X.env=pure false:=by rfl):PDS X Z (.Assign [.Attribute o f p2] e pos) (N7 C f to te):=
 YN (zax ho he hs) λF σ H ⟨r,dl,S,E,rs,aZ,h,ret⟩=>by unfold N7 at h;exact⟨r,dl,S,_,rs,aZ,h,λv H1 r1 dv S1 e1 aB p1 q1=>⟨r1,dl,S1,_,rs.ext e1,aB,q1,λw H2 r2 d S2 e2 aC p2' q2=>by
  split at q2
  ·rename_i m fs ei;obtain⟨rfl,eS⟩:=GQ ei;obtain⟨hl,q2⟩:=q2;obtain⟨a,ha,ob⟩:=aC.at eS;obtain⟨dx,fs',eH,fr⟩:=id ob;cases p2' with
   | ref hr=>
    rw[hr] at ha;cases ha
    have aM:fs'.length=fs.length:=by
     have:=congrArg List.length fr.1;simpa using this.symm
    obtain⟨rb,x⟩:=aC.b.setO (o':=.ins C (SE f dv fs)) (u:=.ins C dx (YQ f v fs')) hr eS rfl rfl λx=>⟨dx,_,Y2,(fr.put (p1.ext e2)).ext x⟩
    exact⟨a,C,dx,fs',rfl,eH,c,n,by omega,ret.nx _ _ r2 _ _ (e1.trans (e2.trans x)) (rs.ext (e1.trans (e2.trans x))) ⟨rb,aC.xw.ext x⟩ q2⟩
  ·exact q2.elim⟩⟩
@[irreducible] def U7 (C:Addr)(m:Str)(ex:Ev->Addr->Sto->Prop)(sd:Sd)(to:TDE)(t:TDA):TDE:=λdl S Q=>to dl S λd S1=>match WI C S1 d with
 | some (_,fs)=>fs.lookup m=none/\t dl S1 λds S2=>sd (d::ds) S2 Q (ex dl)
 | none=>False
theorem zhA (he:PE X o ta)(c:Cls X.K C)(hm:Ug X.K C m f)(F:Yk X.prog X.w X.K X.mg X.base (CXE X.prog X.w) k f fd ps sp)(hr:ZU k X.A)(hb:YS X.K fd ps [])(hx:Wy X W)(ha:PA X (e::es) t)(hst:starEach (e::es) X.env=(false,eval e X.env)::starEach es X.env)(hpl:(backTo pos (starEach es X.env)).any (·.1)=false)(ht:eval (.Call (.Attribute o m aJ) (e::es) [] pos) X.env=(do
   let ov <- eval o X.env
   standAt aJ.atName
   let (f,first) <- holding [ov] (getMethod ov m pl)
   callWith pos f first (backTo pos (starEach (e::es) X.env)) (backToKw pos (keywordEach [] X.env)))):
  PE X (.Call (.Attribute o m aJ) (e::es) [] pos) (λσ H Q=>ta σ H λx H1=>∃a dx fs,x=.ref a/\H1 a=some (.ins C dx fs)/\fs.lookup m=none/\t σ H1 λvs H2=>sp (x::vs) H2 Q (W σ)):=by
 intro pins s σ H Q I h;refine PySem.W.methodCall_KW (pl:=pl) (thn (he pins s σ H _ I h) λu s1 ⟨x,H1,I1,rx,a,dx,fs,ex,ea,l,q⟩=>?_) ht;subst ex;obtain rfl:u=Value.ref a:=rx;refine Jl I1 ea c hm l ?_;exact PySem.W.callWith_K (first:=[.ref a]) (h₀:=X.base) I.ok.mod.kin hm.kp (thn (ha pos pins s1 σ H1 _ I1 q) λus s2 ⟨vs,H2,I2,r,q2⟩=>⟨I2.kIn,Ka (us:=.ref a::us) (vs:=.ref a::vs) F hr hb hx I2 (.cons rfl r) q2⟩) hst hpl
theorem zcX (he:PE X o ta)(c:Cls X.K C)(hm:Ug X.K C m f)(F:Yk X.prog X.w X.K X.mg X.base (CXE X.prog X.w) k f fd ps sp)(hr:ZU k X.A)(hb:YS X.K fd ps [])(hx:Wy X W)(ht:eval (.Call (.Attribute o m aJ) [] [] pos) X.env=(do
   let ov <- eval o X.env
   standAt aJ.atName
   let (f,first) <- holding [ov] (getMethod ov m pl)
   callWith pos f first (backTo pos (starEach [] X.env)) (backToKw pos (keywordEach [] X.env)))):
  PE X (.Call (.Attribute o m aJ) [] [] pos) (λσ H Q=>ta σ H λx H1=>∃a dx fs,x=.ref a/\H1 a=some (.ins C dx fs)/\fs.lookup m=none/\sp [x] H1 Q (W σ)):=by
 intro pins s σ H Q I h;refine PySem.W.methodCall_KW (pl:=pl) (thn (he pins s σ H _ I h) λu s1 ⟨x,H1,I1,rx,a,dx,fs,ex,ea,l,q⟩=>?_) ht;subst ex;obtain rfl:u=Value.ref a:=rx;refine Jl I1 ea c hm l ?_;exact PySem.W.callWith_K0 (first:=[.ref a]) I1.kIn hm.kp (Ka (us:=[.ref a]) (vs:=[.ref a]) F hr hb hx I1 (.cons rfl .nil) q)
theorem KJ {C:Addr}{r:List Addr}{S:Sto}{H:Hp}{d:D}{v:V}{n:Nat}{fs:List (Str×D)}(aZ:Z3 X.K r S H)(p:Rp r H d v)(h:WI C S d=some (n,fs)):∃a dx fs',v=.ref a/\r[n]?=some a/\H a=some (.ins C dx fs')/\FR r H fs fs':=by
 obtain⟨rfl,eS⟩:=GQ h;obtain⟨a,ha,dx,fs',eH,fr⟩:=aZ.at eS;cases p with
 | ref hr=>
  rw[hr] at ha;cases ha
  exact⟨a,dx,fs',rfl,hr,eH,fr⟩
theorem Y7 (ho:PD X ⟨ex,W⟩ o to)(c:Cls X.K C)(hm:Ug X.K C m f)(F:Yk X.prog X.w X.K X.mg X.base (CXE X.prog X.w) k f fd ps (upF X.K sd))(hr:ZU k X.A)(hb:YS X.K fd ps [])(hx:Wy X W)(ha:PDA X ⟨ex,W⟩ (e::es) t)(hst:starEach (e::es) X.env=(false,eval e X.env)::starEach es X.env:=by rfl)(hpl:(backTo pos (starEach es X.env)).any (·.1)=false:=by rfl)(ht:eval (.Call (.Attribute o m aJ) (e::es) [] pos) X.env=(do
   let ov <- eval o X.env
   standAt aJ.atName
   let (f,first) <- holding [ov] (getMethod ov m pl)
   callWith pos f first (backTo pos (starEach (e::es) X.env)) (backToKw pos (keywordEach [] X.env))):=by rfl):PD X ⟨ex,W⟩ (.Call (.Attribute o m aJ) (e::es) [] pos) (U7 C m ex sd to t):=
 Z9 (zhA ho c hm F hr hb hx ha hst hpl ht) λσ H Qv ⟨r,dl,S,Q,rs,aZ,h,ret⟩=>by unfold U7 at h;exact⟨r,dl,S,_,rs,aZ,h,λv H1 r1 d S1 e1 aB p1 q1=>by
  split at q1
  ·rename_i n fs ei;obtain⟨hl,q1⟩:=q1;obtain⟨a,dx,fs',rfl,hr1,eH,fr⟩:=KJ aB.b p1 ei;exact⟨a,dx,fs',rfl,eH,fr.lookup.2 hl,r1,dl,S1,_,rs.ext e1,aB,q1,λvs H2 r2 ds S2 e2 aC p2 q2=>Mq (Z:=⟨ex,W⟩) (rs.ext (e1.trans e2)) aC (Rps.cons (p1.ext e2) p2) q2 (ret.ext (e1.trans e2))⟩
  ·exact q1.elim⟩
theorem Dg (ho:PD X ⟨ex,W⟩ o to)(c:Cls X.K C)(hm:Ug X.K C m f)(F:Yk X.prog X.w X.K X.mg X.base (CXE X.prog X.w) k f fd ps (upF X.K sd))(hr:ZU k X.A)(hb:YS X.K fd ps [])(hx:Wy X W)(ht:eval (.Call (.Attribute o m aJ) [] [] pos) X.env=(do
   let ov <- eval o X.env
   standAt aJ.atName
   let (f,first) <- holding [ov] (getMethod ov m pl)
   callWith pos f first (backTo pos (starEach [] X.env)) (backToKw pos (keywordEach [] X.env))):=by rfl):PD X ⟨ex,W⟩ (.Call (.Attribute o m aJ) [] [] pos) (U7 C m ex sd to Kc):=
 Z9 (zcX ho c hm F hr hb hx ht) λσ H Qv ⟨r,dl,S,Q,rs,aZ,h,ret⟩=>by unfold U7 at h;exact⟨r,dl,S,_,rs,aZ,h,λv H1 r1 d S1 e1 aB p1 q1=>by
  split at q1
  ·rename_i n fs ei;obtain⟨hl,q1⟩:=q1;obtain⟨a,dx,fs',rfl,hr1,eH,fr⟩:=KJ aB.b p1 ei;exact⟨a,dx,fs',rfl,eH,fr.lookup.2 hl,Mq (Z:=⟨ex,W⟩) (rs.ext e1) aB (Rps.cons p1 Rps.nil) q1 (ret.ext e1)⟩
  ·exact q1.elim⟩
def dMake (C:Addr)(ex:Addr->Sto->Prop)(sd:Sd)(t:TDA):TDE:=λdl S Q=>t dl S λds S1=>sd (.ref S1.length::ds) (S1++[.ins C []]) (λd S2=>d=.non/\Q (.ref S1.length) S2) ex
theorem zen {C x dx:Addr}{r:List Addr}{S:Sto}{H:Hp}(aZ:Rel X.K Z r S H)(h1:H x=none)(h2:H dx=none)(h3:dx≠x):
  Rel X.K Z (r++[x]) (S++[.ins C []]) (upd (upd H dx (.own x)) x (.ins C dx []))/\Ext r (r++[x]) H (upd (upd H dx (.own x)) x (.ins C dx [])):=by
 obtain⟨rb,e⟩:=aZ.b.pushO (o:=.ins C []) (H':=upd (upd H dx (.own x)) x (.ins C dx [])) h1 (λb u q=>by rw[Z4 (Ue q h1),Z4 (Ue q h2)];exact q) λ_=>⟨dx,[],Y2,FR.nil⟩
 exact⟨⟨rb,aZ.xw.ext e⟩,e⟩
theorem zfw {C x:Addr}{r r':List Addr}{n:Nat}{H H':Hp}{Z:Zx}{K:Fg}{Q:DK}{Qv:VK}(ret:Ret K Z r H Q Qv)(e:Ext r r' H H')(hx:r'[n]?=some x):
  Ret K Z r' H' (λd S2=>d=.non/\Q (.ref n) S2) (λv H2=>v=.non/\Qv (.ref x) H2):=λv H2 r2 d S2 e2 aC p2 q2=>by
 obtain⟨rfl,q2⟩:=q2;cases p2;exact⟨rfl,ret _ H2 r2 (.ref n) S2 (e.trans e2) aC (.ref (e2.adr _ _ hx)) q2⟩
theorem Ut {C f:Addr}{fd:FuncData}{k:Nat}{ps:List Str}{sd:Sd}{ex:Addr->Sto->Prop}{W:XK}{x:Str}{p:Pos}{e:Expr}{es:List Expr}{t:TDA}(M:Mk X.K C f)
  (F:Yk X.prog X.w X.K X.mg X.base (CXE X.prog X.w) k f fd ps (upF X.K sd))(hr:ZU (k+1) X.A)(hg:Gl X x)(hm:X.mg x=some (.ref C))(hb:YS X.K fd ps [])(hx:O5 (CXE X.prog X.w) X W)(ha:PDA X (Zc ex W) (e::es) t)
  (hdb:(x==("__debug__":Str))=false:=by decide)(he:starEach (e::es) X.env=(false,eval e X.env)::starEach es X.env:=by rfl)(hpl:(backTo pos (starEach es X.env)).any (·.1)=false:=by rfl):
  PD X (Zc ex W) (.Call (.Name x p) (e::es) [] pos) (dMake C ex sd t):=
 Z9 (zhW M F hr hg hm hb .nil hx ha hdb he hpl) λσ H Qv ⟨r,dl,S,Q,rs,aZ,h,ret⟩=>⟨r,dl,S,_,rs,aZ,h,λvs H1 r1 ds S1 e1 aB p1 q1=>λx dx n1 n2 n3=>by
  obtain⟨aC,e2⟩:=zen (C:=C) aB n1 n2 n3;show upF X.K sd (.ref x::(vs++[])) _ _ W;rw[xA];exact⟨ex,_,_,.ref S1.length::ds,_,aC,Rps.cons (UK aB.len) (p1.ext e2),q1,zfw (C:=C) ret (e1.trans e2) (Tn aB.len)⟩⟩
end
section
variable {κ:Type} [DecidableEq κ]
end
section
variable {X:Cx}{Z:Zx}{pos:Pos}
end
section
variable {X:Cx}{Z:Zx}{pos:Pos}
end
def Yd (xs:List D)(lo hi:Option Int):List D:=(xs.drop (HT.sIx xs.length 0 lo)).take (HT.sIx xs.length xs.length hi-HT.sIx xs.length 0 lo)
theorem Rps.drop {r:List Addr}{H:Hp}{ds:List D}{vs:List V}(h:Rps r H ds vs)(k:Nat):Rps r H (ds.drop k) (vs.drop k):=
 ⟨by simp[h.1],λi d v h1 h2=>h.2 (k+i) d v (by simpa using h1) (by simpa using h2)⟩
theorem Rps.take {r:List Addr}{H:Hp}{ds:List D}{vs:List V}(h:Rps r H ds vs)(k:Nat):Rps r H (ds.take k) (vs.take k):=by
 refine⟨by simp[h.1],λi d v h1 h2=>?_⟩;rw[List.getElem?_take] at h1 h2;split at h1
 ·rw[if_pos (by assumption)] at h2;exact h.2 i d v h1 h2
 ·cases h1
theorem Rps.cut {r:List Addr}{H:Hp}{ds:List D}{vs:List V}(h:Rps r H ds vs)(lo hi:Option Int):Rps r H (Yd ds lo hi) (Ro vs lo hi):=by
 unfold Yd Ro;rw[h.1];exact(h.drop _).take _
@[irreducible] def T9 (te:TDE)(tl th:TDO):TDE:=λdl S Q=>te dl S λd S1=>tl dl S1 λl S2=>th dl S2 λu S3=>match d with
 | .ref n=>match lAt S3 n with
  | some o=>Q (.ref S3.length) (S3++[.lst (Yd (Zv o) l u)])
  | none=>False
 | _=>False
theorem W8 {e:Expr}{te:TDE}{lo hi:Option Expr}{tl th:TDO}{p2:Pos}(he:PD X Z e te)(hl:PDO X Z lo tl)(hu:PDO X Z hi th):PD X Z (.Subscript e (.Slice lo hi none p2) pos) (T9 te tl th):=
 Z9 (zb6 zgx he hl hu) λσ H Qv ⟨r,dl,S,Q,rs,aZ,h,ret⟩=>by
  unfold T9 at h;refine⟨r,dl,S,_,rs,aZ,h,λv H1 r1 d S1 e1 aB p1 q1=>⟨r1,dl,S1,_,rs.ext e1,aB,q1,λl H2 r2 S2 e2 aC q2=>⟨r2,dl,S2,_,rs.ext (e1.trans e2),aC,q2,λu H3 r3 S3 e3 aE q3=>?_⟩⟩⟩;cases p1 with
  | @ref n a hn=>
   dsimp only at q3;split at q3
   ·rename_i o eo;obtain⟨eo,eL⟩:=Xf eo;obtain⟨a',ha,ob⟩:=aE.at eo;rw[e3.adr _ _ (e2.adr _ _ hn)] at ha;cases ha
    obtain⟨xs,sq,pr⟩:=ob.list eL;refine⟨a,xs,rfl,sq,λp hp=>?_⟩;obtain⟨aF,x⟩:=aE.push hp (pr.cut l u);exact ret _ _ _ (.ref S3.length) _ (e1.trans (e2.trans (e3.trans x))) aF (UK aE.len) q3
   ·exact q3.elim
  | _=>exact(show False from q3).elim
theorem WU {te:TDE}{tl th:TDO}{dl:Ev}{S S3:Sto}{Q:DK}{n:Nat}{o:Ob}{lo hi:Option Int}(h:∀K:DK,K (.ref n) S3->te dl S K)(hl:∀K:Option Int->Sto->Prop,K lo S3->tl dl S3 K)(hh:∀K:Option Int->Sto->Prop,K hi S3->th dl S3 K)(ho:S3[n]?=some o)
  (hq:Q (.ref S3.length) (S3++[.lst (Yd (Zv o) lo hi)]))(hL:Xl o=some o:=by rfl):T9 te tl th dl S Q:=by
 unfold T9;refine h _ (hl _ (hh _ ?_));simp only[ZZ ho hL];exact hq
theorem Rps.put {r:List Addr}{H:Hp}{ds:List D}{vs:List V}{d:D}{v:V}(h:Rps r H ds vs)(p:Rp r H d v)(j:Nat):Rps r H (ds.set j d) (vs.set j v):=by
 refine⟨by simp[h.1],λi x y h1 h2=>?_⟩;by_cases z:j=i
 ·subst z;have hl:j<ds.length:=by
   have:=(zA.mp h1).1;simpa using this
  rw[yI hl] at h1;rw[yI (by rw[<- h.1];exact hl)] at h2;cases h1;cases h2;exact p
 ·rw[zW z] at h1 h2;exact h.2 i x y h1 h2
@[irreducible] def MS (to ti te:TDE):TDS:=λE dl S=>te dl S λv S1=>to dl S1 λd S2=>ti dl S2 λi S3=>match d,i with
 | .ref n,.int k=>match S3[n]? with
  | some (.lst xs)=>match ixN xs.length k with
   | some j=>E.nx dl (S3.set n (.lst (xs.set j v)))
   | none=>False
  | _=>False
 | _,_=>False
theorem R4 (ho:PD X Z o to)(hi:PD X Z i ti)(he:PD X Z e te)(hs:swapsWithSole [.Subscript o i p2] e pos.line X.env=pure false:=by rfl)(hw:swappedStores [.Subscript o i p2] e X.env=pure none:=by rfl)(h1:(assignEach [.Subscript o i p2] X.env).map (·.2)=[assign (.Subscript o i p2) X.env]:=by rfl)(ha:∀v,assign (.Subscript o i p2) X.env v=(do let ov <- holding [v] (eval o X.env);let iv <- holding [v,ov] (eval i X.env);standAt p2;holding [v,ov,iv] (setItem ov iv v);release [v,ov,iv] []):=by intro _;rfl):PDS X Z (.Assign [.Subscript o i p2] e pos) (MS to ti te):=
 YN (zgw he (zaG ho hi A9 ha) hs hw h1) λF σ H ⟨r,dl,S,E,rs,aZ,h,ret⟩=>by
  unfold MS at h;refine⟨r,dl,S,_,rs,aZ,h,λv H1 r1 dv S1 e1 aB p1 q1=>⟨r1,dl,S1,_,rs.ext e1,aB,q1,λx H2 r2 d S2 e2 aC pd q2=>⟨r2,dl,S2,_,rs.ext (e1.trans e2),aC,q2,λy H3 r3 di S3 e3 aE pi q3=>?_⟩⟩⟩;cases pd with
  | @ref n a hn=>
   cases pi with
   | int k=>
    dsimp only at q3;split at q3
    ·rename_i xs eS;split at q3
     ·rename_i j ej;have hn3:=e3.adr _ _ hn;obtain⟨ys,eH,pr⟩:=aE.b.ob n a _ hn3 eS;obtain⟨aF,x4⟩:=aE.set hn3 eS (pr.put (p1.ext (e2.trans e3)) j);exact⟨a,ys,k,j,rfl,rfl,eH,by rw[<- pr.1];exact ej,ret.nx _ _ r3 _ _ (e1.trans (e2.trans (e3.trans x4))) (rs.ext (e1.trans (e2.trans (e3.trans x4)))) aF q3⟩
     ·exact q3.elim
    ·exact q3.elim
   | _=>exact(show False from q3).elim
  | _=>exact(show False from q3).elim
def XJ (f:D->D->Option Bool):List D->D->Option (Option Nat)
 | [],_=>some none
 | y::ys,x=>match f y x,XJ f ys x with
  | some true,some _=>some (some 0)
  | some false,some o=>some (o.map (·+1))
  | _,_=>none
theorem HE:∀ {ys:List D} {o:Option Nat},XJ f ys x=some o->(∀y∈ys,∃c,f y x=some c)/\∀j,o=some j->(∃y,ys[j]?=some y/\f y x=some true)/\∀m y,m<j->ys[m]?=some y->f y x=some false
 | [],o,e=>by
  have h:=Option.some.inj e;subst h;exact⟨(λy hy=>by cases hy),λj z=>by cases z⟩
 | y::ys,o,e=>by
  unfold XJ at e;split at e
  ·rename_i o1 e1 e2;have h:=Option.some.inj e;subst h;obtain⟨h1,_⟩:=HE e2;refine⟨λz hz=>?_,λj hj=>?_⟩
   ·rcases zR.mp hz with rfl|hz
    ·exact⟨true,e1⟩
    ·exact h1 z hz
   ·cases hj;exact⟨⟨y,rfl,e1⟩,λm z hm=>by omega⟩
  ·rename_i o1 e1 e2;have h:=Option.some.inj e;subst h;obtain⟨h1,h2⟩:=HE e2;refine⟨λz hz=>?_,λj hj=>?_⟩
   ·rcases zR.mp hz with rfl|hz
    ·exact⟨false,e1⟩
    ·exact h1 z hz
   ·obtain⟨k,rfl,rfl⟩:=zG.mp hj;obtain⟨⟨z,hz1,hz2⟩,h3⟩:=h2 k rfl;refine⟨⟨z,by simpa using hz1,hz2⟩,λm w hm hw=>?_⟩;cases m with
    | zero=>
     have:w=y:=by simpa using hw.symm
     rw[this];exact e1
    | succ m=>exact h3 m w (by omega) (by simpa using hw)
  ·cases e
theorem zhr {k:Nat}{pins:LA}{σ:St}{H:Hp}{s:Shared}{r:List Addr}{A:Around}{ds:List D}{vs:List V}{us:List Value}{dx:D}{x:V}{u:Value}{j:Nat}(I:Inv X pins σ H s)(hu:A.units+k<cLine)
  (p:Rps r H ds vs)(rv:ZJ vs us)(px:Rp r H dx x)(rx:ZK x u)(e:XJ (eqN k) ds dx=some (some j)):
  ∃g:Value->Bool,(∀y,y∈us.toArray->SeqAt.EqAt A s y u (g y))/\∃hj:j<us.toArray.size,g us.toArray[j]=true/\∀m (hm:m<us.toArray.size),m<j->g us.toArray[m]=false:=by
 obtain⟨h1,h2⟩:=HE e;obtain⟨⟨yj,hyj,htj⟩,hno⟩:=h2 j rfl
 classical
 have at_:∀(m:Nat)(hm:m<us.length),∃d v,ds[m]?=some d/\Rp r H d v/\ZK v us[m]:=λm hm=>by
  have hv:m<vs.length:=by rw[rv.length];exact hm
  have gv:vs[m]?=some vs[m]:=by simp[hv]
  obtain⟨w,gw,rw'⟩:=rv.get gv;obtain⟨d,gd,pd⟩:=p.get' gv;have ew:w=us[m]:=by
   rw[zD hm] at gw;exact(Option.some.inj gw).symm
  subst ew;exact⟨d,_,gd,pd,rw'⟩
 have val:∀(m:Nat)(hm:m<us.length)(d:D)(c:Bool),ds[m]?=some d->eqN k d dx=some c->decide (∃d v,d∈ds/\Rp r H d v/\ZK v us[m]/\eqN k d dx=some true)=c:=λm hm d c hd hc=>by
  obtain⟨d',v',gd,pd,rd⟩:=at_ m hm;rw[hd] at gd;cases gd
  cases c with
  | true=>exact decide_eq_true ⟨d,v',zF hd,pd,rd,hc⟩
  | false=>
   refine decide_eq_false λ⟨d2,v2,_,pd2,rd2,hc2⟩=>?_
   have ev:=BD rd rd2;subst ev;exact absurd (Hb k d d2 dx v' false true pd pd2 hc hc2) (by decide)
 refine⟨λy=>decide (∃d v,d∈ds/\Rp r H d v/\ZK v y/\eqN k d dx=some true),λy hy=>?_,?_⟩
 ·have hy':y∈us:=by simpa using hy
  obtain⟨m,hm,rfl⟩:=yK.mp hy';obtain⟨d,v,gd,pd,rd⟩:=at_ m hm;obtain⟨c,hc⟩:=h1 d (zF gd);show SeqAt.EqAt A s us[m] u (decide _);rw[val m hm d c gd hc];exact Hv k X pins σ H s r A d dx v x _ u c I hu pd px rd rx hc
 ·have hjl:j<us.length:=by
   have:=(zA.mp hyj).1;rw[p.1,rv.length] at this;exact this
  refine⟨by simpa using hjl,?_,λm hm hmj=>?_⟩
  ·have z:=val j hjl yj true hyj htj;simpa using z
  ·have hm':m<us.length:=by simpa using hm
   obtain⟨d,v,gd,pd,rd⟩:=at_ m hm';have z:=val m hm' d false gd (hno m d hmj gd);simpa using z
def QD (k:Nat)(d y:D)(S:Sto)(Q:DK):Prop:=match d with
 | .ref n=>match lAt S n with
  | some o=>match XJ (eqN k) (Zv o) y with
   | some (some j)=>Q (.int (j:Int)) S
   | _=>False
  | none=>False
 | _=>False
@[irreducible] def Sn (k:Nat)(to:TDE)(t:TDA):TDE:=λdl S Q=>to dl S λd S1=>(match d with
 | .ref n=>(lAt S1 n).isSome=true/\t dl S1 λds S2=>match ds with
  | [y]=>QD k d y S2 Q
  | _=>False
 | _=>False)
theorem zdd (hr:ZU j X.A)(hk:k<=3):MtR X "list.index" (λx xs H Qv=>∃(r:List Addr)(S:Sto)(d y:D)(v:V)(Q:DK),Rel X.K Z r S H/\Rp r H d x/\xs=[v]/\Rp r H y v/\QD k d y S Q/\Ret X.K Z r H Q Qv):=by
 intro pins s σ H x xs v us Qv I rx rv h;obtain⟨r,S,d,y,v1,Q,aZ,pd,rfl,py,q,ret⟩:=h;obtain⟨u,rfl,ru⟩:=Vq rv;unfold QD at q;split at q
 ·rename_i n;split at q
  ·rename_i o eo;obtain⟨eo,eL⟩:=Xf eo;split at q
   ·rename_i i ei;cases pd with
    | @ref n a hn=>
     cases rx;obtain⟨a',ha,ob⟩:=aZ.at eo;rw[hn] at ha;cases ha
     obtain⟨ys,sq,pr⟩:=ob.list eL;obtain⟨aX,ri,pl,hz⟩:=I.list sq;have hun:=hr.un;obtain⟨g,g1,hj,g2,g3⟩:=zhr (A:=X.A.in1) I (by show X.A.units+1+k<_;omega) pr ri py ru ei;obtain⟨ob2,m,e,c,hd,hdat⟩:=pl;obtain⟨oc,od,odat,osl⟩:=ob2;have c':oc=.type "list":=c
     have hdat':odat=.seq aX.toArray m:=hdat;subst c' hdat';refine call_meets PySem.F.slot_list_index ⟨_,e,rfl⟩ PySem.F.entry_list_index (PySem.F.args_list_index_2 _ _) (PySem.SeqAt.list_indexAt a aX.toArray m od osl u g i hj (by
      have:aX.toArray.size<=sizeLine:=by rw[zH,<- ri.length];exact hz
      have h2:=QR;omega) g2 λm hm h2=>g3 m hm h2) ⟨e,g1,?_⟩
     exact⟨.int (i:Int),H,I.tok _,⟨_,rfl⟩,ret _ H r (.int _) S Ext.refl aZ (.int _) q⟩
   ·exact q.elim
  ·exact q.elim
 ·exact q.elim
theorem Ez (hr:ZU j X.A)(hk:k<=3)(ho:PD X Z o to)(ha:PDA X Z [e] t)(hbase:attributeBase o "index" X.env (eval o X.env)=eval o X.env:=by rfl)(hfew:((backTo aH (starEach [e] X.env)).all (λx=>!x.1)&&(backToKw aH (keywordEach [] X.env)).all (λx=>x.1.isSome)
  &&decide ([e].length+([]:List Keyword).length+(if ([]:List Keyword).isEmpty then 0 else 1)<30))=true:=by rfl)(hline:(aJ.endLine==aH.line)=true:=by rfl)(hs:starEach [e] X.env=(false,eval e X.env)::starEach [] X.env:=by rfl)(hplain:(backTo aH (starEach [] X.env)).any (·.1)=false:=by rfl):
  PD X Z (.Call (.Attribute o "index" aJ) [e] [] aH) (Sn k to t):=
 Z9 (Bj (T:="list") PySem.F.plainAttrs_list PySem.F.slot_list_index PySem.F.type_list_index (zdd (Z:=Z) hr hk) ho ha hbase hfew hline hs hplain) λσ H Qv ⟨r,dl,S,Q,rs,aZ,h,ret⟩=>by
  unfold Sn at h;refine⟨r,dl,S,_,rs,aZ,h,λv H1 r1 d S1 e1 aB p1 q1=>?_⟩;cases p1 with
  | @ref n a hn=>
   obtain⟨aQ,q1⟩:=q1;obtain⟨o1,eo⟩:=yP.mp aQ;obtain⟨eo,eL⟩:=Xf eo;obtain⟨a',ha',ob⟩:=aB.at eo;rw[hn] at ha';cases ha'
   obtain⟨xs,sq,_⟩:=ob.list eL;refine⟨.inl ⟨rfl,xs,sq⟩,r1,dl,S1,_,rs.ext e1,aB,q1,λvs H2 r2 ds S2 e2 aC p2 q2=>?_⟩;split at q2
   ·rename_i y;obtain⟨v2,vs',rfl,p3,p4⟩:=p2.uncons;have z:=p4.unnil;subst z;exact⟨r2,S2,.ref n,y,v2,Q,aC,.ref (e2.adr _ _ hn),rfl,p3,q2,ret.ext (e1.trans e2)⟩
   ·exact q2.elim
  | _=>exact(show False from q1).elim
theorem Ds {t':Nat}{ch:List Addr}{T:Addr}{xs:List V}{vals:Array Value}(I:Inv X pins σ H s)(k:∀b o,b ∉ ch->s.heap.get? b=some o->h'.get? b=some o)(hch:∀b∈ch,Yo X pins H b)
  (hT:s.heap.objs.size<=T)(ht:h'.IsTuple T vals)(rv:ZJ xs vals.toList)(hl:xs.length<=sizeLine):Inv X pins σ (upd H T (.tup xs)) { s with heap:=h',toks:=t' }:=by
 have hTn:H T=none:=I.hok.fresh hT
 have old:∀ {b:Addr} {o:Obj},s.heap.get? b=some o->b≠T:=λ{b o} e z=>absurd (zQ (Heap.lt_size e) hT) (by rw[z];exact yL _)
 have trk:∀b u,H b=some u->b ∉ ch:=λb u e z=>by
  rw[(hch b z).1] at e;cases e
 have up:∀b u,H b=some u->(upd H T (.tup xs)) b=some u:=Wi hTn;refine I.step (g':=s.gens) (d':=s.drawn) (ch:=ch) (λb hb=>?_) (λb o _ _ hc e _=>k b o hc e) (λb o _ _ hc e _=>⟨o.slots,k b o hc e⟩) (λb o _ e n=>by rw[Z4 (old e)];exact n)
  (λb o hc e=>⟨o,k b o hc e⟩) (λb ys e=>up _ _ e) (λb o u e=>up _ _ e) (λb ps e=>⟨#[],by rw[up _ _ e];simp⟩) (λm hm=>?_) (λb u e=>?_) I.bare
 ·obtain⟨_,f1,_,f3,f4,f5⟩:=hch b hb;exact⟨f3,f1,f4,f5⟩
 ·obtain⟨o,es,ep,ho,r⟩:=hm;exact⟨o,es,ep,k _ o (λz=>(hch _ z).2.1 rfl) ho,r⟩
 ·by_cases hb:b=T
  ·subst hb;rw[Y2] at e;cases e;exact⟨hl,vals.toList,rv,by rw[Array.toArray_toList];exact ht⟩
  ·rw[Z4 hb] at e;refine(I.hok b u e).stay (λc v hc q=>k c v ?_ q) (λd z=>up _ _ z) λd ys z=>up _ _ z
   rcases hc with z|z
   ·rw[z];exact trk b u e
   ·exact trk c _ z
theorem MM {t':Nat}{ch:List Addr}(I:Inv X pins σ H s)(k:∀b o,b ∉ ch->s.heap.get? b=some o->h'.get? b=some o)(hch:∀b∈ch,Yo X pins H b):Inv X pins σ H { s with heap:=h',toks:=t' }:=by
 have trk:∀b u,H b=some u->b ∉ ch:=λb u e z=>by
  rw[(hch b z).1] at e;cases e
 refine I.step (g':=s.gens) (d':=s.drawn) (ch:=ch) (λb hb=>?_) (λb o _ _ hc e _=>k b o hc e) (λb o _ _ hc e _=>⟨o.slots,k b o hc e⟩) (λb o _ e n=>n)
  (λb o hc e=>⟨o,k b o hc e⟩) (λb ys e=>e) (λb o u e=>e) (λb ps e=>⟨#[],by rw[e];simp⟩) (λm hm=>?_) (λb u e=>?_) I.bare
 ·obtain⟨_,f1,_,f3,f4,f5⟩:=hch b hb;exact⟨f3,f1,f4,f5⟩
 ·obtain⟨o,es,ep,ho,r⟩:=hm;exact⟨o,es,ep,k _ o (λz=>(hch _ z).2.1 rfl) ho,r⟩
 ·refine(I.hok b u e).stay (λc v hc q=>k c v ?_ q) (λd z=>z) λd ys z=>z
  rcases hc with z|z
  ·rw[z];exact trk b u e
  ·exact trk c _ z
def Ite (K:Fg)(a:Addr):It:=
 ⟨λi H=>∃xs x,SqL K H a xs/\xs[i]?=some x,λi H x H'=>∃T v,x=.ref T/\H T=none/\H'=upd H T (.tup [.int (i:Int),v])/\∀xs,SqL K H a xs->xs[i]?=some v,λi H=>∃xs,SqL K H a xs/\xs.length=i⟩
theorem zaH {P:Program}{w:World}{K:Fg}{aL:List Expr}{kk:Nat}{tp:Pos}(a e it:Addr)(hei:e≠it)(hae:a≠e)(hai:a≠it):
  Uz P w K (.Tuple aL kk tp) (Ite K a) [e,it] e (λi h=>(∃old,IsEnum h e it i old)/\h.IsListIter it a i) where
 mem:=by simp
 obj:=λi h st b hb=>by
  obtain⟨⟨old,he⟩,o,e1,c,d⟩:=st;have hb':b=e\/b=it:=by simpa using hb
  rcases hb' with rfl|rfl
  ·exact⟨_,he,λv z=>by cases z⟩
  ·exact⟨o,e1,λv z=>by rw[d] at z;cases z⟩
 keep:=λi h h' st k=>by
  obtain⟨⟨old,he⟩,hit⟩:=st;exact⟨⟨old,k e (by simp) _ he⟩,hit.at λo x=>k it (by simp) o x⟩
 item:=by
  intro X hP hw hK hc i pins s σ H E I hf st hg;subst hP hw hK;obtain⟨xs,x,hq,hx⟩:=hg;obtain⟨aX,rv,p,hz⟩:=I.list hq;obtain⟨u,hu,ru⟩:=rv.get hx;have hi:i<aX.toArray.size:=by
   have:=(zA.mp hu).1;simpa using this
  have W:=WalksT.enumerate (prog:=X.prog) (w:=X.w) (A:=X.A) (I.ok.hd hc) e it a hei hae hai aX.toArray;refine W.item i s _ _ hi ⟨st.1,st.2,p.isList⟩ λT vals h' tk hP hT ht mid k1=>?_
  obtain⟨t,y,hy,rfl⟩:=hP;have ey:y=u:=by
   have z:aX[i]?=some y:=by simpa using hy
   rw[hu] at z;exact(Option.some.inj z).symm
  subst ey;have hw:∀b∈[e,it],Yo X pins H b:=hf
  have I1:Inv X pins σ (upd H T (.tup [.int (i:Int),x])) { s with heap:=h',toks:=tk }:=Ds I k1 hw hT ht (.cons ⟨t,rfl⟩ (.cons ru .nil)) (show 2<=sizeLine from Tv (by decide))
  have neT:∀b∈[e,it],b≠T:=λb hb z=>W.apart i T h' mid (z ▸ hb)
  have hf1:∀b∈[e,it],Yo X pins (upd H T (.tup [.int (i:Int),x])) b:=λb hb=>⟨by rw[Z4 (neT b hb)];exact(hf b hb).1,(hf b hb).2⟩
  refine⟨.ref T,rfl,W.go aL kk tp i T _ _ _ mid λh2 st2 k2=>?_⟩;have I2:Inv X pins σ (upd H T (.tup [.int (i:Int),x])) { s with heap:=h2,toks:=tk }:=MM (s:={ s with heap:=h',toks:=tk }) (t':=tk) I1 k2 hf1;exact⟨.ref T,_,I2,rfl,⟨T,x,rfl,I.hok.fresh hT,rfl,λys hy=>by rw[I.list_inj hy hq];exact hx⟩,⟨st2.1,st2.2.1⟩,λb hb=>(hf1 b hb).1⟩
 done:=by
  intro X hP hw hK hc i pins s σ H E I hf st hg;subst hP hw hK;obtain⟨xs,hq,hx⟩:=hg;obtain⟨aX,rv,p,hz⟩:=I.list hq;have W:=WalksT.enumerate (prog:=X.prog) (w:=X.w) (A:=X.A) (I.ok.hd hc) e it a hei hae hai aX.toArray
  have hi:i=aX.toArray.size:=by rw[zH,<- rv.length];exact hx.symm
  subst hi;exact W.done s _ _ ⟨st.1,st.2,p.isList⟩ λh' tk k1=>⟨rfl,MM (t':=tk) I k1 hf⟩
 self:=λA i s Q E st h=>by
  obtain⟨⟨old,he⟩,_⟩:=st;exact wpAny_pyIter_enum he h
def Dz (K:Fg)(ta:TA):TI:=λσ H R=>ta σ H λvs H1=>∃a,vs=[.ref a]/\(∃xs,SqL K H1 a xs)/\R (Ite K a) H1
theorem F4 {a:Expr}{ta:TA}{p pos tp:Pos}{aL:List Expr}{kk:Nat}(hg:Gl X "enumerate")(hm:X.mg "enumerate"=none)(hv:bootBuiltins "enumerate"=some (.type "enumerate"))(ha:PA X [a] ta)(hs:starEach [a] X.env=[(false,eval a X.env)]:=by rfl):
  PI X (.Tuple aL kk tp) (.Call (.Name "enumerate" p) [a] [] pos) (Dz X.K ta):=by
 intro pins s σ H R I h;refine Call_ (VN I hg hm hv (PyProof.Rows.callWith_type1 (thn (ha pos pins s σ H _ I h) λus s1 ⟨vs,H1,I1,r1,q1⟩=>?_) hs rfl));obtain⟨l,e,⟨xs,hq⟩,q⟩:=q1;subst e;cases r1 with
 | cons r rr=>
  cases rr;cases r;obtain⟨aX,rv,pl,hz⟩:=I1.list hq;have hll:l<s1.heap.objs.size:=by
   obtain⟨o,e,_⟩:=pl.isList;exact Heap.lt_size e
  refine call_enumerate_list pl.isList λh' he hit hsz hk=>?_
  have I2:Inv X pins σ H1 { s1 with heap:=h' }:=I1.kept (t':=s1.toks) hk;refine wpAny_pyIter_enum he ⟨s1.heap.objs.size+1,[s1.heap.objs.size+1,s1.heap.objs.size],_,_,H1,rfl,I2,zaH l _ _ (Nat.succ_ne_self _) (zM (Nat.lt_succ_of_lt hll)) (zM hll),⟨⟨_,he⟩,hit⟩,λb hb=>?_,q⟩;have hb':b=s1.heap.objs.size+1\/b=s1.heap.objs.size:=by simpa using hb
  rcases hb' with rfl|rfl
  ·exact I1.fpOk (Nat.le_succ _) (I1.hok.fresh (Nat.le_succ _))
  ·exact I1.fpOk (zC _) (I1.hok.fresh (zC _))
def Itz (K:Fg)(a b:Addr):It:=
  ⟨λi H=>∃xs ys x y,SqL K H a xs/\SqL K H b ys/\xs[i]?=some x/\ys[i]?=some y,
   λi H x H'=>∃T v u,x=.ref T/\H T=none/\H'=upd H T (.tup [v,u])/\(∀xs,SqL K H a xs->xs[i]?=some v)/\∀ys,SqL K H b ys->ys[i]?=some u,
   λi H=>∃xs ys,SqL K H a xs/\SqL K H b ys/\min xs.length ys.length=i⟩
theorem zaX {P:Program}{w:World}{K:Fg}{aL:List Expr}{kk:Nat}{tp:Pos}(a b z TI TO i1 i2:Addr)(D:ZipApart z TI TO i1 i2 a b):
  Uz P w K (.Tuple aL kk tp) (Itz K a b) [z,TI,TO,i1,i2] z (λi h=>IsZip h z TI TO .none/\IsPair h TI (.ref i1) (.ref i2)/\(∃p q,IsPair h TO p q)/\h.IsListIter i1 a i/\h.IsListIter i2 b i) where
 mem:=by simp
 obj:=λi h st c hc=>by
  obtain⟨hz,hTI,⟨p,q,hTO⟩,⟨o1,e1,c1,d1⟩,o2,e2,c2,d2⟩:=st;have hc':c=z\/c=TI\/c=TO\/c=i1\/c=i2:=by simpa using hc
  rcases hc' with rfl|rfl|rfl|rfl|rfl
  ·exact⟨_,hz,λv y=>by cases y⟩
  ·exact⟨_,hTI,λv y=>by cases y⟩
  ·exact⟨_,hTO,λv y=>by cases y⟩
  ·exact⟨o1,e1,λv y=>by rw[d1] at y;cases y⟩
  ·exact⟨o2,e2,λv y=>by rw[d2] at y;cases y⟩
 keep:=λi h h' st k=>by
  obtain⟨hz,hTI,⟨p,q,hTO⟩,h1,h2⟩:=st;exact⟨k z (by simp) _ hz,k TI (by simp) _ hTI,⟨p,q,k TO (by simp) _ hTO⟩,h1.at λo x=>k i1 (by simp) o x,h2.at λo x=>k i2 (by simp) o x⟩
 item:=by
  intro X hP hw hK hc i pins s σ H E I hf st hg;subst hP hw hK;obtain⟨xs,ys,x,y,hq,hq2,hx,hy⟩:=hg;obtain⟨aX,rv,p,_⟩:=I.list hq;obtain⟨jts,rv2,p2,_⟩:=I.list hq2;obtain⟨u,hu,ru⟩:=rv.get hx;obtain⟨u2,hu2,ru2⟩:=rv2.get hy;have hi:i<min aX.toArray.size jts.toArray.size:=by
   have z1:=(zA.mp hu).1
   have z2:=(zA.mp hu2).1
   have sizes:aX.toArray.size=aX.length/\jts.toArray.size=jts.length:=⟨by simp,by simp⟩;omega
  have W:=WalksT.zip2 (prog:=X.prog) (w:=X.w) (A:=X.A) (I.ok.hd hc) z TI TO i1 i2 a b D aX.toArray jts.toArray;obtain⟨s1,s2,s3,s4,s5⟩:=st;refine W.item i s _ _ hi ⟨s1,s2,s3,s4,s5,p.isList,p2.isList⟩ λT vals h' tk hP hT ht mid k1=>?_
  obtain⟨v1,v2,hv1,hv2,rfl⟩:=hP;have e1:v1=u:=by
   have z:aX[i]?=some v1:=by simpa using hv1
   rw[hu] at z;exact(Option.some.inj z).symm
  have e2:v2=u2:=by
   have z:jts[i]?=some v2:=by simpa using hv2
   rw[hu2] at z;exact(Option.some.inj z).symm
  subst e1 e2;have sub:∀c∈[z,TO,i1,i2],c∈[z,TI,TO,i1,i2]:=λc hc=>by
   have hc':c=z\/c=TO\/c=i1\/c=i2:=by simpa using hc
   rcases hc' with rfl|rfl|rfl|rfl<;>simp
  have I1:Inv X pins σ (upd H T (.tup [x,y])) { s with heap:=h',toks:=tk }:=Ds I k1 (λc hc=>hf c (sub c hc)) hT ht (.cons ru (.cons ru2 .nil)) (show 2<=sizeLine from Tv (by decide))
  have tiT:TI≠T:=λq=>by
   have hl:TI<s.heap.objs.size:=Heap.lt_size s2;rw[q] at hl;exact absurd (zQ hl hT) (yL _)
  have neT:∀c∈[z,TI,TO,i1,i2],c≠T:=λc hc q=>by
   have hc':c=TI\/c∈[z,TO,i1,i2]:=by
    have hc2:c=z\/c=TI\/c=TO\/c=i1\/c=i2:=by simpa using hc
    rcases hc2 with rfl|rfl|rfl|rfl|rfl<;>simp
   rcases hc' with rfl|hc'
   ·exact tiT q
   ·exact W.apart i T h' mid (q ▸ hc')
  have hf1:∀c∈[z,TI,TO,i1,i2],Yo X pins (upd H T (.tup [x,y])) c:=λc hc=>⟨by rw[Z4 (neT c hc)];exact(hf c hc).1,(hf c hc).2⟩
  refine⟨.ref T,rfl,W.go aL kk tp i T _ _ _ mid λh2 st2 k2=>?_⟩;have I2:Inv X pins σ (upd H T (.tup [x,y])) { s with heap:=h2,toks:=tk }:=MM (s:={ s with heap:=h',toks:=tk }) (t':=tk) I1 k2 λc hc=>hf1 c (sub c hc)
  obtain⟨t1,t2,t3,t4,t5,_,_⟩:=st2;exact⟨.ref T,_,I2,rfl,⟨T,x,y,rfl,I.hok.fresh hT,rfl,λzs hz=>by rw[I.list_inj hz hq];exact hx,λzs hz=>by rw[I.list_inj hz hq2];exact hy⟩,⟨t1,t2,t3,t4,t5⟩,λc hc=>(hf1 c hc).1⟩
 done:=by
  intro X hP hw hK hc i pins s σ H E I hf st hg;subst hP hw hK;obtain⟨xs,ys,hq,hq2,hx⟩:=hg;obtain⟨aX,rv,p,_⟩:=I.list hq;obtain⟨jts,rv2,p2,_⟩:=I.list hq2;have W:=WalksT.zip2 (prog:=X.prog) (w:=X.w) (A:=X.A) (I.ok.hd hc) z TI TO i1 i2 a b D aX.toArray jts.toArray
  have hi:i=min aX.toArray.size jts.toArray.size:=by rw[zH,zH,<- rv.length,<- rv2.length];exact hx.symm
  subst hi;have sub:∀c∈[z,TO,i1,i2],c∈[z,TI,TO,i1,i2]:=λc hc=>by
   have hc':c=z\/c=TO\/c=i1\/c=i2:=by simpa using hc
   rcases hc' with rfl|rfl|rfl|rfl<;>simp
  obtain⟨s1,s2,s3,s4,s5⟩:=st;exact W.done s _ _ ⟨s1,s2,s3,s4,s5,p.isList,p2.isList⟩ λh' tk k1=>⟨rfl,MM (t':=tk) I k1 λc hc=>hf c (sub c hc)⟩
 self:=λA i s Q E st h=>wpAny_pyIter_zip st.1 h
theorem zgK {n l m:Nat}(h1:l<n)(h2:m<n):ZipApart (n+4) (n+2) (n+3) n (n+1) l m:=by
 have ne:∀ {i j:Nat},i<j\/j<i->i≠j:=λ{i j} h z=>by omega
 exact⟨ne (by omega),ne (by omega),ne (by omega),ne (by omega),ne (by omega),ne (by omega),ne (by omega),ne (by omega),ne (by omega),ne (by omega),ne (by omega),ne (by omega),ne (by omega),ne (by omega),ne (by omega),ne (by omega),ne (by omega),ne (by omega)⟩
def iZip (K:Fg)(ta:TA):TI:=λσ H R=>ta σ H λvs H1=>∃a b,vs=[.ref a,.ref b]/\(∃xs,SqL K H1 a xs)/\(∃ys,SqL K H1 b ys)/\R (Itz K a b) H1
theorem Iw {a b:Expr}{ta:TA}{p pos tp:Pos}{aL:List Expr}{kk:Nat}(hg:Gl X "zip")(hm:X.mg "zip"=none)(hv:bootBuiltins "zip"=some (.type "zip"))(ha:PA X [a,b] ta)
  (hs:starEach [a,b] X.env=[(false,eval a X.env),(false,eval b X.env)]:=by rfl)(hs2:starEach [b] X.env=[(false,eval b X.env)]:=by rfl):PI X (.Tuple aL kk tp) (.Call (.Name "zip" p) [a,b] [] pos) (iZip X.K ta):=by
 intro pins s σ H R I h;refine Call_ (VN I hg hm hv (PyProof.Rows.callWith_type1 (thn (ha pos pins s σ H _ I h) λus s1 ⟨vs,H1,I1,r1,q1⟩=>?_) (by rw[hs,hs2]) (by rw[hs2];rfl)));obtain⟨l,m,e,⟨xs,hq⟩,⟨ys,hq2⟩,q⟩:=q1;subst e;cases r1 with
 | cons r rr=>
  cases rr with
  | cons r2 rr=>
   cases rr;cases r;cases r2;obtain⟨aX,rv,pl,_⟩:=I1.list hq;obtain⟨jts,rv2,pl2,_⟩:=I1.list hq2;have h1:l<s1.heap.objs.size:=by
    obtain⟨o,e,_⟩:=pl.isList;exact Heap.lt_size e
   have h2:m<s1.heap.objs.size:=by
    obtain⟨o,e,_⟩:=pl2.isList;exact Heap.lt_size e
   refine call_zip_2 pl.isList pl2.isList λh' hz hTI hTO hi1 hi2 hsz hk=>?_
   have I2:Inv X pins σ H1 { s1 with heap:=h' }:=I1.kept (t':=s1.toks) hk
   have D:=zgK h1 h2;refine wpAny_pyIter_zip hz ⟨s1.heap.objs.size+4,[s1.heap.objs.size+4,s1.heap.objs.size+2,s1.heap.objs.size+3,s1.heap.objs.size,s1.heap.objs.size+1],_,_,H1,rfl,I2,zaX l m _ _ _ _ _ D,⟨hz,hTI,⟨_,_,hTO⟩,hi1,hi2⟩,λc hc=>?_,q⟩;have hge:s1.heap.objs.size<=c:=by
    have hc':c=s1.heap.objs.size+4\/c=s1.heap.objs.size+2\/c=s1.heap.objs.size+3\/c=s1.heap.objs.size\/c=s1.heap.objs.size+1:=by simpa using hc
    rcases hc' with rfl|rfl|rfl|rfl|rfl
    ·exact Nat.le_add_right _ _
    ·exact Nat.le_add_right _ _
    ·exact Nat.le_add_right _ _
    ·exact zC _
    ·exact Nat.le_add_right _ _
   exact I1.fpOk hge (I1.hok.fresh hge)
section
variable {X:Cx}{Z:Zx}{pos:Pos}
@[irreducible] def NT (is:List Nat)(ta:TDA)(tb:TDS):TDS:=λE dl S=>ta dl S λds S1=>match ds with
 | [.ref n]=>(lAt S1 n).isSome=true/\∃W:Nat->Nat->Ev->Sto->Prop,(∃m,W 0 m dl S1)/\∀k m dl S,W k m dl S->match lAt S n with
  | some o=>match (Zv o)[k]? with
   | some x=>tb { nx:=λdl' S'=>∃m',m'<m/\W (k+1) m' dl' S',rt:=E.rt,bk:=E.nx,ct:=λdl' S'=>∃m',m'<m/\W (k+1) m' dl' S' } (UU is [.int (k:Int),x] dl) S
   | none=>k=(Zv o).length/\E.nx dl S
  | none=>False
 | _=>False
theorem Wb {r r':List Addr}{S':Sto}{H':Hp}{n:Nat}{a:Addr}{o:Ob}(hn:r'[n]?=some a)(aZ:Z3 X.K r' S' H')(eo:lAt S' n=some o):∃xs,SqL X.K H' a xs/\Rps r' H' (Zv o) xs:=by
 obtain⟨eo,eL⟩:=Xf eo;obtain⟨a',ha,ob⟩:=aZ.at eo;rw[hn] at ha;cases ha
 exact ob.list eL
theorem Lc {aU:Expr}{body:List Stmt}{es:List Expr}{kk:Nat}{tp p aK:Pos}{is:List Nat}{ta:TDA}{tb:TDS}(hp:PassesOwn (model X.prog X.w) X.A X.env X.xe)(hc:X.calm=true)(hN:X.N.Nodup)(hn:Nms X es is)(h2:is.length=2)
  (hg:Gl X "enumerate")(hm:X.mg "enumerate"=none)(hv:bootBuiltins "enumerate"=some (.type "enumerate"))(ha:PDA X Z [aU] ta)(hb:YZ X Z body tb)
  (aM:(assignEach es X.env).length=is.length:=by rfl)(hst:(assignEach es X.env).findIdx? (·.1)=none:=by rfl)(hse:starEach [aU] X.env=[(false,eval aU X.env)]:=by rfl)
  (hs:∀y,foldedSetIterable (.Call (.Name "enumerate" p) [aU] [] aK) X.env y=pure y:=by intro _;rfl):PDS X Z (.For (.Tuple es kk tp) (.Call (.Name "enumerate" p) [aU] [] aK) body [] pos) (NT is ta tb):=
 YN (Sl hp hc (F4 hg hm hv ha hse) (Rn hc (UD hN hn) aM hst) hb hs) λF σ H ⟨r,dl,S,E,rs,aZ,h,ret⟩=>by
  unfold NT at h;refine⟨r,dl,S,_,rs,aZ,h,λvs H1 r1 ds S1 x1 aB p1 q1=>?_⟩;split at q1
  ·rename_i n;obtain⟨v,vs',rfl,p2,p3⟩:=p1.uncons;have z:=p3.unnil;subst z;cases p2 with
   | @ref n a hr=>
    obtain⟨aQ,W,⟨m0,w0⟩,turn⟩:=q1;obtain⟨o1,eo1⟩:=yP.mp aQ;obtain⟨xs1,sq1,_⟩:=Wb (r:=r1) hr aB.b eo1;refine⟨a,rfl,⟨xs1,sq1⟩,λk m σ' H'=>∃r' dl' S',Ext r1 r' H1 H'/\Rs r' H' dl' σ'/\Rel X.K Z r' S' H'/\W k m dl' S',⟨m0,r1,dl,S1,Ext.refl,rs.ext x1,aB,w0⟩,?_⟩;rintro k m σ2 H2 ⟨r2,dl2,S2,x2,rs2,aC,w2⟩;have q:=turn k m dl2 S2 w2;split at q
    ·rename_i o eo;obtain⟨xs,sq,pr⟩:=Wb (r:=r2) (x2.adr _ _ hr) aC.b eo;split at q
     ·rename_i y ey;obtain⟨v,hvv,pv⟩:=pr.get ey;refine .inr ⟨⟨xs,v,sq,hvv⟩,λσ' H'=>∃m',m'<m/\∃r' dl' S',Ext r1 r' H1 H'/\Rs r' H' dl' σ'/\Rel X.K Z r' S' H'/\W (k+1) m' dl' S',λ_ _ z=>z,λv' H' y'=>?_⟩;obtain⟨T,w,rfl,hT,rfl,hw⟩:=y';have ew:w=v:=by
       have z:=hw xs sq;rw[hvv] at z;exact(Option.some.inj z).symm
      subst ew;have x3:Ext r2 r2 H2 (upd H2 T (.tup [.int (k:Int),w])):=NK hT
      have pp:Rps r2 (upd H2 T (.tup [.int (k:Int),w])) [.int (k:Int),y] [.int (k:Int),w]:=Rps.cons (.int _) (Rps.cons (pv.ext x3) Rps.nil)
      have aE:=aC.same (Wi (o:=.tup [.int (k:Int),w]) hT)
      have go:∀σ' H' r' dl' S',Ext r2 r' (upd H2 T (.tup [.int (k:Int),w])) H'->Rs r' H' dl' σ'->Rel X.K Z r' S' H'->(∃m',m'<m/\W (k+1) m' dl' S')->∃m',m'<m/\∃r' dl' S',Ext r1 r' H1 H'/\Rs r' H' dl' σ'/\Rel X.K Z r' S' H'/\W (k+1) m' dl' S':=
       λσ' H' r' dl' S' x rs' rel' ⟨m',hm,w'⟩=>⟨m',hm,r',dl',S',x2.trans (x3.trans x),rs',rel',w'⟩
      refine⟨T,[.int (k:Int),w],rfl,SqT.of Y2,by rw[h2];rfl,by rw[h2];rfl,r2,_,S2,_,IG (rs2.ext x3) pp,aE,q,⟨go,λσ' H' r' dl' S' x rs' rel' z=>ret.nx σ' H' r' dl' S' (x1.trans (x2.trans (x3.trans x))) rs' rel' z,go,ret.rt.ext (x1.trans (x2.trans x3))⟩⟩
     ·obtain⟨hk,q⟩:=q;exact .inl ⟨⟨xs,sq,by rw[<- pr.1];exact hk.symm⟩,ret.nx σ2 H2 r2 dl2 S2 (x1.trans x2) rs2 aC q⟩
    ·exact q.elim
  ·exact q1.elim
@[irreducible] def L8 (is:List Nat)(ta:TDA)(tb:TDS):TDS:=λE dl S=>ta dl S λds S1=>match ds with
 | [.ref n,.ref n']=>((lAt S1 n).isSome=true/\(lAt S1 n').isSome=true)/\∃W:Nat->Nat->Ev->Sto->Prop,(∃m,W 0 m dl S1)/\∀k m dl S,W k m dl S->match lAt S n,lAt S n' with
  | some o,some o'=>match (Zv o)[k]?,(Zv o')[k]? with
   | some x,some y=>tb { nx:=λdl' S'=>∃m',m'<m/\W (k+1) m' dl' S',rt:=E.rt,bk:=E.nx,ct:=λdl' S'=>∃m',m'<m/\W (k+1) m' dl' S' } (UU is [x,y] dl) S
   | _,_=>k=min (Zv o).length (Zv o').length/\E.nx dl S
  | _,_=>False
 | _=>False
theorem zbK {i1 i2:Expr}{body:List Stmt}{es:List Expr}{kk:Nat}{tp p aK:Pos}{is:List Nat}{ta:TDA}{tb:TDS}(hp:PassesOwn (model X.prog X.w) X.A X.env X.xe)(hc:X.calm=true)(hN:X.N.Nodup)(hn:Nms X es is)(h2:is.length=2)
  (hg:Gl X "zip")(hm:X.mg "zip"=none)(hv:bootBuiltins "zip"=some (.type "zip"))(ha:PDA X Z [i1,i2] ta)(hb:YZ X Z body tb)
  (aM:(assignEach es X.env).length=is.length:=by rfl)(hst:(assignEach es X.env).findIdx? (·.1)=none:=by rfl)(hse:starEach [i1,i2] X.env=[(false,eval i1 X.env),(false,eval i2 X.env)]:=by rfl)(hse2:starEach [i2] X.env=[(false,eval i2 X.env)]:=by rfl)
  (hs:∀y,foldedSetIterable (.Call (.Name "zip" p) [i1,i2] [] aK) X.env y=pure y:=by intro _;rfl):PDS X Z (.For (.Tuple es kk tp) (.Call (.Name "zip" p) [i1,i2] [] aK) body [] pos) (L8 is ta tb):=
 YN (Sl hp hc (Iw hg hm hv ha hse hse2) (Rn hc (UD hN hn) aM hst) hb hs) λF σ H ⟨r,dl,S,E,rs,aZ,h,ret⟩=>by
  unfold L8 at h;refine⟨r,dl,S,_,rs,aZ,h,λvs H1 r1 ds S1 x1 aB p1 q1=>?_⟩;split at q1
  ·rename_i n n';obtain⟨v,vs',rfl,p2,p3⟩:=p1.uncons;obtain⟨v',vs2,rfl,p4,p5⟩:=p3.uncons;have z:=p5.unnil;subst z;cases p2 with
   | @ref n a hr=>
    cases p4 with
    | @ref n' a' hr'=>
     obtain⟨⟨aQ,hsome'⟩,W,⟨m0,w0⟩,turn⟩:=q1;obtain⟨o1,eo1⟩:=yP.mp aQ;obtain⟨o2,eo2⟩:=yP.mp hsome';obtain⟨xs1,sq1,_⟩:=Wb (r:=r1) hr aB.b eo1;obtain⟨ys1,sq2,_⟩:=Wb (r:=r1) hr' aB.b eo2;refine⟨a,a',rfl,⟨xs1,sq1⟩,⟨ys1,sq2⟩,λk m σ' H'=>∃r' dl' S',Ext r1 r' H1 H'/\Rs r' H' dl' σ'/\Rel X.K Z r' S' H'/\W k m dl' S',⟨m0,r1,dl,S1,Ext.refl,rs.ext x1,aB,w0⟩,?_⟩;rintro k m σ2 H2 ⟨r2,dl2,S2,x2,rs2,aC,w2⟩;have q:=turn k m dl2 S2 w2;split at q
     ·rename_i o o' eo eo';obtain⟨xs,sq,pr⟩:=Wb (r:=r2) (x2.adr _ _ hr) aC.b eo;obtain⟨ys,sq',pr'⟩:=Wb (r:=r2) (x2.adr _ _ hr') aC.b eo';split at q
      ·rename_i y y2 ey ey2;obtain⟨v,hvv,pv⟩:=pr.get ey;obtain⟨u,hvu,pu⟩:=pr'.get ey2;refine .inr ⟨⟨xs,ys,v,u,sq,sq',hvv,hvu⟩,λσ' H'=>∃m',m'<m/\∃r' dl' S',Ext r1 r' H1 H'/\Rs r' H' dl' σ'/\Rel X.K Z r' S' H'/\W (k+1) m' dl' S',λ_ _ z=>z,λv' H' y'=>?_⟩;obtain⟨T,w,w2',rfl,hT,rfl,hw,hw2⟩:=y';have ew:w=v:=by
        have z:=hw xs sq;rw[hvv] at z;exact(Option.some.inj z).symm
       have ew2:w2'=u:=by
        have z:=hw2 ys sq';rw[hvu] at z;exact(Option.some.inj z).symm
       subst ew ew2;have x3:Ext r2 r2 H2 (upd H2 T (.tup [w,w2'])):=NK hT
       have pp:Rps r2 (upd H2 T (.tup [w,w2'])) [y,y2] [w,w2']:=Rps.cons (pv.ext x3) (Rps.cons (pu.ext x3) Rps.nil)
       have aE:=aC.same (Wi (o:=.tup [w,w2']) hT)
       have go:∀σ' H' r' dl' S',Ext r2 r' (upd H2 T (.tup [w,w2'])) H'->Rs r' H' dl' σ'->Rel X.K Z r' S' H'->(∃m',m'<m/\W (k+1) m' dl' S')->∃m',m'<m/\∃r' dl' S',Ext r1 r' H1 H'/\Rs r' H' dl' σ'/\Rel X.K Z r' S' H'/\W (k+1) m' dl' S':=
        λσ' H' r' dl' S' x rs' rel' ⟨m',hm,w'⟩=>⟨m',hm,r',dl',S',x2.trans (x3.trans x),rs',rel',w'⟩
       exact⟨T,[w,w2'],rfl,SqT.of Y2,by rw[h2];rfl,by rw[h2];rfl,r2,_,S2,_,IG (rs2.ext x3) pp,aE,q,⟨go,λσ' H' r' dl' S' x rs' rel' z=>ret.nx σ' H' r' dl' S' (x1.trans (x2.trans (x3.trans x))) rs' rel' z,go,ret.rt.ext (x1.trans (x2.trans x3))⟩⟩
      ·obtain⟨hk,q⟩:=q;exact .inl ⟨⟨xs,ys,sq,sq',by rw[<- pr.1,<- pr'.1];exact hk.symm⟩,ret.nx σ2 H2 r2 dl2 S2 (x1.trans x2) rs2 aC q⟩
     ·exact q.elim
  ·exact q1.elim
end
section
variable {X:Cx}{Z:Zx}{pos:Pos}
end
structure Dm (K:Fg)(C:Addr)(m qual:Str)(st:Stmt)(ps:List Str) where
 f:Addr
 fd:FuncData
 F:Fun K m qual st f fd
 m:Ug K C m f
 b:YS K fd ps []
structure Fm (P:Program)(w:World)(K:Fg)(mg:Str->Option Value)(base:Heap)(k:Nat)(C:Addr)(x:Str)(ps:List Str)(sd:Sd) where
 f:Addr
 fd:FuncData
 ok:Yk P w K mg base (CXE P w) k f fd ps (upF K sd)
 m:Ug K C x f
 b:YS K fd ps []
def Dm.mk' {P:Program}{w:World}{K:Fg}{mg:Str->Option Value}{base:Heap}{k:Nat}{C:Addr}{x qual:Str}{st:Stmt}{ps:List Str}{sd:Sd}(d:Dm K C x qual st ps)(h:Yk P w K mg base (CXE P w) k d.f d.fd ps (upF K sd)):Fm P w K mg base k C x ps sd:=
 ⟨d.f,d.fd,h,d.m,d.b⟩
theorem UE:O5 (CXE P w) X (λ_ _ _=>False):=λ_ _ _ _ _ _ _ h=>by
 obtain⟨_,_,_,_,_,_,_,_,_,_,_,_,q⟩:=h;exact q.elim
theorem BP (hr:ZU k X.A):OpR X (compareOp .NotIn) (upO X.K Z (Xh (wIn 1 true))):=by rw[Ww];exact zhn 1 (by have:=hr.un;omega)
def Qc:W2:=λx y S Q=>match x,y with
 | .ref n,.ref m=>match S[n]?,S[m]? with
  | some (.lst xs),some (.lst ys)=>xs.length+ys.length<=1000/\Q (.ref S.length) (S++[.lst (xs++ys)])
  | _,_=>False
 | _,_=>False
theorem Rps.app {r:List Addr}{H:Hp}:∀ {ds es:List D} {xs ys:List V},Rps r H ds xs->Rps r H es ys->Rps r H (ds++es) (xs++ys)
 | [],es,xs,ys,p,q=>by
  have z:=p.unnil;subst z;exact q
 | d::ds,es,xs,ys,p,q=>by
  obtain⟨v,vs,rfl,p1,p2⟩:=p.uncons;exact Rps.cons p1 (p2.app q)
theorem Nz:OpR X (binaryOp .Add) (upO X.K Z (Xh Qc)):=by
 rw[Ww];exact UG zig λx y H Qv ⟨r,S,dx,dy,Q,aZ,px,py,q,ret⟩=>by
  unfold Qc at q;split at q
  ·rename_i n m;split at q
   ·rename_i xs ys e1 e2;obtain⟨hl,q⟩:=q;cases px with
    | @ref _ a hn=>
     cases py with
     | @ref _ a' hm=>
      obtain⟨z,hz,ob⟩:=aZ.at e1;rw[hn] at hz;cases hz
      obtain⟨z,hz,ob'⟩:=aZ.at e2;rw[hm] at hz;cases hz
      obtain⟨us,h1,p1⟩:=ob;obtain⟨vs,h2,p2⟩:=ob';refine⟨a,a',us,vs,rfl,rfl,h1,h2,?_,λp hp=>?_⟩
      ·rw[<- p1.1,<- p2.1];exact Tv hl
      ·obtain⟨aF,x⟩:=aZ.push hp (p1.app p2);exact ret _ _ _ (.ref S.length) _ x aF (UK aZ.len) q
   ·exact q.elim
  ·exact q.elim
theorem L0 (h1:S[n]?=some (.lst xs))(h2:S[m]?=some (.lst ys))(hl:xs.length+ys.length<=1000)(hq:Q (.ref S.length) (S++[.lst (xs++ys)])):Xh Qc (.ref n) (.ref m) S Q:=by
 rw[Ww];unfold Qc;simp only[h1,h2];exact⟨hl,hq⟩
def MT (X:Cx)(m:Str)(tbl:List (Addr×Sd)):Prop:=∀C sd,(C,sd)∈tbl->Cls X.K C/\∃(f:Addr)(fd:FuncData)(k:Nat)(ps:List Str),Ug X.K C m f/\Yk X.prog X.w X.K X.mg X.base (CXE X.prog X.w) k f fd ps (upF X.K sd)/\ZU k X.A/\YS X.K fd ps []
theorem HI:MT X m []:=λ_ _ h=>by cases h
theorem Y3 (c:Cls X.K C)(G:Fm X.prog X.w X.K X.mg X.base k C m ps sd)(hr:ZU k X.A)(h:MT X m tbl):MT X m ((C,sd)::tbl):=λC' sd' hm=>by
 rcases zR.mp hm with e|e
 ·cases e;exact⟨c,G.f,G.fd,k,ps,G.m,G.ok,hr,G.b⟩
 ·exact h C' sd' e
theorem zaZ (he:PE X o ta)(M:MT X m tbl)(hx:Wy X W)(ha:PA X (e::es) t)(hst:starEach (e::es) X.env=(false,eval e X.env)::starEach es X.env)(hpl:(backTo pos (starEach es X.env)).any (·.1)=false)(ht:eval (.Call (.Attribute o m aJ) (e::es) [] pos) X.env=(do
   let ov <- eval o X.env
   standAt aJ.atName
   let (f,first) <- holding [ov] (getMethod ov m pl)
   callWith pos f first (backTo pos (starEach (e::es) X.env)) (backToKw pos (keywordEach [] X.env)))):
  PE X (.Call (.Attribute o m aJ) (e::es) [] pos) (λσ H Q=>ta σ H λx H1=>∃a C dx fs sd,x=.ref a/\H1 a=some (.ins C dx fs)/\(C,sd)∈tbl/\fs.lookup m=none/\t σ H1 λvs H2=>upF X.K sd (x::vs) H2 Q (W σ)):=by
 intro pins s σ H Q I h;refine PySem.W.methodCall_KW (pl:=pl) (thn (he pins s σ H _ I h) λu s1 ⟨x,H1,I1,rx,a,C,dx,fs,sd,ex,ea,hm',l,q⟩=>?_) ht;subst ex;obtain rfl:u=Value.ref a:=rx;obtain⟨c,f,fd,k,ps,hm,F,hr,hb⟩:=M C sd hm';refine Jl I1 ea c hm l ?_;exact PySem.W.callWith_K (first:=[.ref a]) (h₀:=X.base) I.ok.mod.kin hm.kp (thn (ha pos pins s1 σ H1 _ I1 q) λus s2 ⟨vs,H2,I2,r,q2⟩=>⟨I2.kIn,Ka (us:=.ref a::us) (vs:=.ref a::vs) F hr hb hx I2 (.cons rfl r) q2⟩) hst hpl
@[irreducible] def Nc (tbl:List (Addr×Sd))(m:Str)(ex:Ev->Addr->Sto->Prop)(to:TDE)(t:TDA):TDE:=λdl S Q=>to dl S λd S1=>∃n C fs sd,d=.ref n/\S1[n]?=some (.ins C fs)/\(C,sd)∈tbl/\fs.lookup m=none/\t dl S1 λds S2=>sd (d::ds) S2 Q (ex dl)
theorem JQ (ho:PD X ⟨ex,W⟩ o to)(M:MT X m tbl)(hx:Wy X W)(ha:PDA X ⟨ex,W⟩ (e::es) t)(hst:starEach (e::es) X.env=(false,eval e X.env)::starEach es X.env:=by rfl)(hpl:(backTo pos (starEach es X.env)).any (·.1)=false:=by rfl)(ht:eval (.Call (.Attribute o m aJ) (e::es) [] pos) X.env=(do
   let ov <- eval o X.env
   standAt aJ.atName
   let (f,first) <- holding [ov] (getMethod ov m pl)
   callWith pos f first (backTo pos (starEach (e::es) X.env)) (backToKw pos (keywordEach [] X.env))):=by rfl):PD X ⟨ex,W⟩ (.Call (.Attribute o m aJ) (e::es) [] pos) (Nc tbl m ex to t):=
 Z9 (zaZ ho M hx ha hst hpl ht) λσ H Qv ⟨r,dl,S,Q,rs,aZ,h,ret⟩=>by
  unfold Nc at h;refine⟨r,dl,S,_,rs,aZ,h,λv H1 r1 d S1 e1 aB p1 q1=>?_⟩;obtain⟨n,C,fs,sd,rfl,eS,hm,hl,q1⟩:=q1;obtain⟨a,dx,fs',rfl,hr1,eH,fr⟩:=KJ (C:=C) (n:=n) (fs:=fs) aB.b p1 (by simp only[WI,eS,if_pos]);exact⟨a,C,dx,fs',sd,rfl,eH,hm,fr.lookup.2 hl,r1,dl,S1,_,rs.ext e1,aB,q1,λvs H2 r2 ds S2 e2 aC p2 q2=>Mq (Z:=⟨ex,W⟩) (rs.ext (e1.trans e2)) aC (Rps.cons (p1.ext e2) p2) q2 (ret.ext (e1.trans e2))⟩
theorem JC {tbl:List (Addr×Sd)}{C:Addr}{m:Str}{ex:Ev->Addr->Sto->Prop}{sd:Sd}{to:TDE}{t:TDA}{dl:Ev}{S S1:Sto}{Q:DK}{n:Nat}{fs:List (Str×D)}(hto:∀K:DK,K (.ref n) S1->to dl S K)(h:S1[n]?=some (.ins C fs))(hm:(C,sd)∈tbl)(hf:fs.lookup m=none)(hq:t dl S1 λds S2=>sd (.ref n::ds) S2 Q (ex dl)):Nc tbl m ex to t dl S Q:=by
 unfold Nc;exact hto _ ⟨n,C,fs,sd,rfl,h,hm,hf,hq⟩
structure Kx (K:Fg)(C:Addr):Prop where
 cl:Cls K C
 ha:W.findIn K (.ref C) "__class__"=some (some (.builtin "object.__class__"))
 hn:W.specialIn K (.builtin "object.__class__") "__get__"=some (some (.builtin "getset_descriptor.__get__"))
 ht:W.takesIn K (.builtin "object.__class__")=some true
 hm:W.mroIn K C (.type "object")=some true
section
variable {X:Cx}{Z:Zx}
end
section
variable {n:Nat}{I:Addr}{fp wr:List Addr}{P:Nat->Value->Prop}{St:Nat->Shared->Prop}{prog:Program}{w:World}{A:Around}{s:Shared}{E:Value->Shared->Prop}{G:Array GenState->Array GenState->Prop}
end
section
variable {X:Cx}{Z:Zx}
end
def Mj (k:Nat)(caps:List Nat)(wi:TI)(gt:TG)(te:TE):TE:=λσ H Q=>wi σ H λJ H1=>∀D,H1 D=none->∃W:Nat->Nat->Hp->Prop,(∃m,W 0 m (upd H1 D (.lst [])))/\∀i m H,W i m H->
 (J.stop i H/\Q (.ref D) H)\/(J.go i H/\∀x H',J.yld i H x H'->∀o:St,o.length=k->gt x (o++Yn caps σ) H' λσ8 H8=>(∃o8:St,o8.length=k/\σ8=o8++Yn caps σ)/\
  te σ8 H8 λy H3=>∃ys,H3 D=some (.lst ys)/\ys.length<sizeLine/\∃m',m'<m/\W (i+1) m' (upd H3 D (.lst (ys++[y]))))
section
variable {X:Cx}{pins:LA}{σ:St}{H:Hp}{s:Shared}
end
theorem CL (hc:X.calm=true)(cs:X4 sc X.env.scope own N)(hN:∀(j:Nat)(y:Str),N[j]?=some y->∃i,caps[j]?=some i/\X.N[i]?=some y)(aM:caps.length=N.length)(hi:PI X (.Tuple aL kk tp) aU wi)(hg:∀cl C s0 H0 fp pn,PG (Cx.comp X sc (own++N) cl C s0 H0 fp pn) (.Tuple aL kk tp) gt)(he:∀cl C s0 H0 fp pn,PE (Cx.comp X sc (own++N) cl C s0 H0 fp pn) aW te)(hs:∀y,foldedSetIterable aU X.env y=pure y)(I:Inv X pins σ H s)(h:Mj own.length caps wi gt te σ H Q)(aY:∀D C s',OE X pins σ C Q D s'->compPost (model X.prog X.w) X.A X.xe use Qr (.ref D) C (.ok .next) s'):
  wpAny (model X.prog X.w) X.A (comprehension (.ListComp aW [⟨.Tuple aL kk tp,aU,[],0⟩] sc pos) sc X.env p2 (newList []) false (eval aU X.env) use) Qr X.xe s:=
 Gy (tc:=λ_ H K=>K true H) hc cs hN aM hi hg he (λ_ _ _ _ _ _=>Cd) hs I h (λ_ _ b=>b) aY
theorem zeR (hc:X.calm=true)(cs:X4 sc X.env.scope own N)(hN:caps.map (λi=>X.N[i]?)=N.map some)
  (hi:PI X (.Tuple aL kk tp) aU wi)(hg:∀cl C s0 H0 fp pn,PG (Cx.comp X sc (own++N) cl C s0 H0 fp pn) (.Tuple aL kk tp) gt)(he:∀cl C s0 H0 fp pn,PE (Cx.comp X sc (own++N) cl C s0 H0 fp pn) aW te)
  (hs:∀y,foldedSetIterable aU X.env y=pure y:=by intro _;rfl):PE X (.ListComp aW [⟨.Tuple aL kk tp,aU,[],0⟩] sc pos) (Mj own.length caps wi gt te):=by
 intro pins s σ H Q I h;rw[eval_ListComp];refine CL (use:=none) hc cs (XB hN).1 (XB hN).2 hi hg he hs I h λD C s' f=>?_
 obtain⟨⟨H',I',q,hC⟩,⟨m,ns⟩,l,o,c,p⟩:=f;exact⟨m,ns,λh' sb=>⟨.ref D,H',I'.turned (t':=s'.toks) (λb ob hb e=>(sb.2 b hb).trans e) hC l (.inr o) c p,rfl,q⟩⟩
section
variable {X:Cx}{Z:Zx}{aW:Expr}{pos:Pos}{sc ar:Scope}{N:List Str}{caps:List Nat}
def Cf (caps:List Nat)(te:TDE)(k:Nat)(dl:Ev)(d1 d2:D)(S:Sto)(nx:Sto->Prop):Prop:=
 te (some d1::some d2::Yc caps dl) S λy S2=>match S2[k]? with
  | some (.lst ys)=>ys.length<1000/\nx (S2.set k (.lst (ys++[y])))
  | _=>False
theorem D8 {r:List Addr}{H:Hp}{dl:Ev}{σ:St}{d1 d2:D}{v1 v2:V}(h:Rs r H dl σ)(p1:Rp r H d1 v1)(p2:Rp r H d2 v2):Rs r H (some d1::some d2::Yc caps dl) (some v1::some v2::Yn caps σ):=by
 have z:=Jc (caps:=caps) h p2;refine⟨by have:=z.1;simp only[zU] at this ⊢;omega,λi e hi=>?_⟩;cases i with
 | zero=>simp at hi;subst hi;exact⟨v1,rfl,p1⟩
 | succ i=>exact z.2 i e (by simpa using hi)
end
def M7:WC:=λds S Q=>match ds with
 | [.ref n]=>match lAt S n with
  | some o=>match Y5 (Zv o) with
   | some ns=>Q (.int ns.sum) S
   | none=>False
  | none=>False
 | _=>False
theorem UH (hc:X.calm=true):YD X (.builtin "sum") (upC X.K Z M7):=by
 intro pins s σ H xs us Qv I rv h;obtain⟨r,S,ds,Q,aZ,ps,q,ret⟩:=h;unfold M7 at q;split at q
 ·rename_i n;obtain⟨v,vs,rfl,p1,p2⟩:=ps.uncons;have z:=p2.unnil;subst z;split at q
  ·rename_i o eo;split at q
   ·rename_i ns en;cases p1 with
    | ref h1=>
     obtain⟨eo,eL⟩:=Xf eo;obtain⟨a,ha,ob⟩:=aZ.at eo;rw[h1] at ha;cases ha
     obtain⟨ys,sq,pr⟩:=ob.list eL;obtain⟨u,rfl,ru⟩:=Vq rv;cases ru;obtain⟨aX,ri,pl,hz⟩:=I.list sq;obtain⟨zs,hz1,hz2⟩:=Kj en pr ri;have isl:=pl.isList;rw[hz1] at isl;refine sum_intListG (I.ok.hd hc) isl λh' tk t' hk=>?_
     have e:preSum (numAt zs.toArray) zs.toArray.size=ns.sum:=by
      rw[preSum_eq,yR (by simp)];show (zs.map (·.1)).sum=ns.sum;rw[hz2]
     rw[e];exact⟨.int _,H,I.kept hk,⟨_,rfl⟩,ret _ _ _ _ _ Ext.refl aZ (.int _) q⟩
   ·exact q.elim
  ·exact q.elim
 ·exact q.elim
section
variable {X:Cx}{Z:Zx}
end
theorem O8:∀ {us:List Value} {ms:List Int},IntsAre us ms->ZJ (ms.map V.int) us
 | _,_,.nil=>.nil
 | _,_,.cons n t h=>.cons ⟨t,rfl⟩ (O8 h)
def My:W2:=λx y S Q=>match x,y with
 | .ref n,.int k=>match S[n]? with
  | some (.lst xs)=>(0<=k/\k<=1000/\xs.length*k.toNat<=1000)/\Q (.ref S.length) (S++[.lst (List.replicate k.toNat xs).flatten])
  | _=>False
 | _,_=>False
theorem Rps.rep {r:List Addr}{H:Hp}{ds:List D}{xs:List V}(h:Rps r H ds xs):∀k:Nat,Rps r H (List.replicate k ds).flatten (List.replicate k xs).flatten
 | 0=>Rps.nil
 | k+1=>by
  simp only[yW,xC];exact h.app (Rps.rep h k)
theorem zfL:OpR X (binaryOp .Mult) (upO X.K Z (Xh My)):=by
 rw[Ww];exact UG zaU λx y H Qv ⟨r,S,dx,dy,Q,aZ,px,py,q,ret⟩=>by
  unfold My at q;split at q
  ·rename_i n k;split at q
   ·rename_i xs e1;obtain⟨⟨h0,h1,hl⟩,q⟩:=q;cases py;cases px with
    | @ref _ a hn=>
     obtain⟨z,hz,ob⟩:=aZ.at e1;rw[hn] at hz;cases hz
     obtain⟨us,g1,p1⟩:=ob;refine⟨a,k,us,rfl,rfl,g1,by omega,by omega,by rw[<- p1.1];exact Tv hl,λp hp=>?_⟩;obtain⟨aF,x⟩:=aZ.push hp (p1.rep k.toNat);exact ret _ _ _ (.ref S.length) _ x aF (UK aZ.len) q
   ·exact q.elim
  ·exact q.elim
theorem zcz (h1:S[n]?=some (.lst xs))(hk:0<=k/\k<=1000)(hl:xs.length*k.toNat<=1000)(hq:Q (.ref S.length) (S++[.lst (List.replicate k.toNat xs).flatten])):Xh My (.ref n) (.int k) S Q:=by
 rw[Ww];unfold My;simp only[h1];exact⟨⟨hk.1,hk.2,hl⟩,hq⟩
section
variable {X:Cx}{Z:Zx}{aW:Expr}{pos:Pos}{sc ar:Scope}{N:List Str}{caps:List Nat}
@[irreducible] def SF (caps:List Nat)(ta:TDA)(te:TDE):TDE:=λdl S Q=>ta dl S λds S1=>match ds with
 | [.ref n,.ref n']=>((lAt S1 n).isSome=true/\(lAt S1 n').isSome=true)/\∃W:Nat->Nat->Sto->Prop,(∃m,W 0 m (S1++[.lst []]))/\∀k m S2,W k m S2->match lAt S2 n,lAt S2 n' with
  | some o,some o'=>match (Zv o)[k]?,(Zv o')[k]? with
   | some x,some y=>Cf caps te S1.length dl x y S2 λS3=>∃m',m'<m/\W (k+1) m' S3
   | _,_=>k=min (Zv o).length (Zv o').length/\Q (.ref S1.length) S2
  | _,_=>False
 | _=>False
theorem E3 (h:up X.K Z (SF caps ta te) σ H Qv):
  Mj 2 caps (iZip X.K (upA X.K Z ta)) (U1 X.K 2 (Uo [0,1])) (up X.K Z0 te) σ H Qv:=by
 obtain⟨r,dl,S,Q,rs,aZ,h,ret⟩:=h;unfold SF at h;refine⟨r,dl,S,_,rs,aZ,h,λvs H1 r1 ds S1 x1 aB p1 q1=>?_⟩;split at q1
 ·rename_i n n';obtain⟨v,vs',rfl,p2,p3⟩:=p1.uncons;obtain⟨v',vs2,rfl,p4,p5⟩:=p3.uncons;have z:=p5.unnil;subst z;cases p2 with
  | @ref n a hr=>
   cases p4 with
   | @ref n' a' hr'=>
    obtain⟨⟨aQ,hsome'⟩,W,⟨m0,w0⟩,turn⟩:=q1;obtain⟨o1,eo1⟩:=yP.mp aQ;obtain⟨o2,eo2⟩:=yP.mp hsome';obtain⟨xs1,sq1,_⟩:=Wb (r:=r1) hr aB.b eo1;obtain⟨ys1,sq2,_⟩:=Wb (r:=r1) hr' aB.b eo2;refine⟨a,a',rfl,⟨xs1,sq1⟩,⟨ys1,sq2⟩,λD0 hD=>?_⟩;obtain⟨aC,x2⟩:=aB.b.push (ds:=[]) (xs:=[]) hD Rps.nil;refine⟨λk m H'=>∃r' S',Ext (r1++[D0]) r' (upd H1 D0 (.lst [])) H'/\Z3 X.K r' S' H'/\W k m S',⟨m0,_,_,Ext.refl,aC,w0⟩,?_⟩;rintro k m H2 ⟨r2,S2,x3,rb2,w2⟩;have ha2:r2[S1.length]?=some D0:=x3.adr _ _ (Tn aB.len)
    have hr2:r2[n]?=some a:=(x2.trans x3).adr _ _ hr
    have hr2':r2[n']?=some a':=(x2.trans x3).adr _ _ hr'
    have q:=turn k m S2 w2;split at q
    ·rename_i o o' eo eo';obtain⟨xs,sq,pr⟩:=Wb (r:=r2) hr2 rb2 eo;obtain⟨ys,sq',pr'⟩:=Wb (r:=r2) hr2' rb2 eo';split at q
     ·rename_i y y2 ey ey2;obtain⟨v,hv,pv⟩:=pr.get ey;obtain⟨u,hvu,pu⟩:=pr'.get ey2;refine .inr ⟨⟨xs,ys,v,u,sq,sq',hv,hvu⟩,λv' H' y' o8 ho8=>?_⟩;obtain⟨T,w,w2',rfl,hT,rfl,hw,hw2⟩:=y';have ew:w=v:=by
       have z:=hw xs sq;rw[hv] at z;exact(Option.some.inj z).symm
      have ew2:w2'=u:=by
       have z:=hw2 ys sq';rw[hvu] at z;exact(Option.some.inj z).symm
      subst ew ew2;obtain⟨c1,c2,rfl⟩:∃c1 c2,o8=[c1,c2]:=by
       match o8,ho8 with
       | [c1,c2],_=>exact⟨c1,c2,rfl⟩
      have x4:Ext r2 r2 H2 (upd H2 T (.tup [w,w2'])):=NK hT
      have rb3:=rb2.same (Wi (o:=.tup [w,w2']) hT)
      have rs3:=rs.ext (x1.trans (x2.trans (x3.trans x4)));refine⟨T,[w,w2'],rfl,SqT.of Y2,rfl,rfl,⟨[some w,some w2'],rfl,rfl⟩,?_⟩;have rsY:=D8 (caps:=caps) rs3 (pv.ext x4) (pu.ext x4);refine⟨r2,_,S2,_,rsY,⟨rb3,λ_ _ _ _ _ _ _ _ _ z=>z.elim⟩,q,λz H4 r4 dz S4 x6 aF p4 q4=>?_⟩;split at q4
      ·rename_i ys eys;obtain⟨hl,m',hm,q4⟩:=q4;have ha4:r4[S1.length]?=some D0:=x6.adr _ _ ha2;obtain⟨zs,hD4,pz⟩:=aF.b.ob _ _ _ ha4 eys;obtain⟨rel5,x7⟩:=aF.b.set ha4 eys (pz.snoc p4);exact⟨zs,hD4,by rw[<- pz.1];exact QJ (yN hl),m',hm,r4,_,x3.trans (x4.trans (x6.trans x7)),rel5,q4⟩
      ·exact q4.elim
     ·obtain⟨hk,q⟩:=q;exact .inl ⟨⟨xs,ys,sq,sq',by rw[<- pr.1,<- pr'.1];exact hk.symm⟩,ret _ H2 r2 _ S2 (x1.trans (x2.trans x3)) ⟨rb2,aZ.xw.ext (x1.trans (x2.trans x3))⟩ (.ref ha2) q⟩
    ·exact q.elim
 ·exact q1.elim
theorem OD (har:X.env.scope=ar)(hc:X.calm=true)(cs:X4 sc ar [x1,x2] N)(hl1:sc.names.lookup x1=some .local)(hl2:sc.names.lookup x2=some .local)(hN:caps.map (λi=>X.N[i]?)=N.map some)(hnd:([x1,x2]++N).Nodup)(hg:Gl X "zip")(hm:X.mg "zip"=none)(hv:bootBuiltins "zip"=some (.type "zip"))(ha:PDA X Z [a,b] ta)(he:∀cl C s0 H0 fp pn,PD (Cx.comp X sc ([x1,x2]++N) cl C s0 H0 fp pn) Z0 aW te)(hse:starEach [a,b] X.env=[(false,eval a X.env),(false,eval b X.env)]:=by rfl)(hse2:starEach [b] X.env=[(false,eval b X.env)]:=by rfl)(hs:∀y,foldedSetIterable (.Call (.Name "zip" p) [a,b] [] aK) X.env y=pure y:=by intro _;rfl):
  PD X Z (.ListComp aW [⟨.Tuple [.Name x1 p1,.Name x2 p2] kk tp,.Call (.Name "zip" p) [a,b] [] aK,[],0⟩] sc pos) (SF caps ta te):=by
 subst har;refine Z9 (zeR hc cs hN (gt:=U1 X.K 2 (Uo [0,1])) (te:=up X.K Z0 te) (Iw hg hm hv ha hse hse2) (λcl C s0 H0 fp pn=>?_) he hs) λ_ _ _ h=>E3 h
 have l1:(Cx.comp X sc ([x1,x2]++N) cl C s0 H0 fp pn).env.scope.names.lookup x1=some .local:=lookup_relabel_local hl1
 have l2:(Cx.comp X sc ([x1,x2]++N) cl C s0 H0 fp pn).env.scope.names.lookup x2=some .local:=lookup_relabel_local hl2;exact Rn hc (UD hnd (.cons rfl (.inl l1) (.inr l1) (.cons rfl (.inl l2) (.inr l2) .nil))) rfl rfl
end
section
variable {X:Cx}{Z:Zx}{pos:Pos}
end
section
variable {n:Nat}{I:Addr}{fp wr:List Addr}{P:Nat->Value->Prop}{St:Nat->Shared->Prop}{prog:Program}{w:World}{A:Around}{s:Shared}{E:Value->Shared->Prop}{G:Array GenState->Array GenState->Prop}
end
section
variable {X:Cx}{Z:Zx}{pos:Pos}
end
theorem Rps.ins {r:List Addr}{H:Hp}{y:D}{w:V}(hy:Rp r H y w):∀ {ds:List D} {xs:List V} (k:Nat),Rps r H ds xs->Rps r H (ds.take k++y::ds.drop k) (xs.take k++w::xs.drop k)
 | [],xs,k,h=>by
  have z:=h.unnil;subst z;simpa using Rps.cons hy h
 | d::ds,xs,0,h=>Rps.cons hy h
 | d::ds,xs,k+1,h=>by
  obtain⟨v,vs,rfl,p1,p2⟩:=h.uncons;exact Rps.cons p1 (Rps.ins hy k p2)
theorem EZ {P:Sto->D->D->Prop}{A:Around}{H:Hp}{s:Shared}{r:List Addr}{S:Sto}{ds es:List D}{xs ys:List V}{is js:List Value}(f:∀ {d e:D} {v1 v2:V} {u1 u2:Value},P S d e->Rp r H d v1->Rp r H e v2->ZK v1 u1->ZK v2 u2->SeqAt.EqAt A s u1 u2 true)(pr:Rps r H ds xs)(pr':Rps r H es ys)(ri:ZJ xs is)(rj:ZJ ys js)(hall:∀(k:Nat)(d e:D),ds[k]?=some d->es[k]?=some e->P S d e):
  ∀(k:Nat)(h1:k<is.toArray.size)(h2:k<js.toArray.size),SeqAt.EqAt A s is.toArray[k] js.toArray[k] true:=λk h1 h2=>by
 have l3:=ri.length
 have l4:=rj.length
 have k1:k<is.length:=by simpa using h1
 have k2:k<js.length:=by simpa using h2
 obtain⟨d,hd,pd⟩:=pr.get' (zD (l:=xs) (i:=k) (by omega));obtain⟨e,he,pe⟩:=pr'.get' (zD (l:=ys) (i:=k) (by omega));obtain⟨u1,hu1,ru1⟩:=ri.get (zD (l:=xs) (i:=k) (by omega));obtain⟨u2,hu2,ru2⟩:=rj.get (zD (l:=ys) (i:=k) (by omega));have z1:is.toArray[k]=u1:=by
  rw[zD k1] at hu1;simpa using Option.some.inj hu1
 have z2:js.toArray[k]=u2:=by
  rw[zD k2] at hu2;simpa using Option.some.inj hu2
 rw[z1,z2];exact f (hall k d e hd he) pd pe ru1 ru2
theorem zfq (hc:X.calm=true)(cs:X4 sc X.env.scope own N)(hN:caps.map (λi=>X.N[i]?)=N.map some)(hi:PI X (.Tuple aL kk tp) aU wi)(hg:∀cl C s0 H0 fp pn,PG (Cx.comp X sc (own++N) cl C s0 H0 fp pn) (.Tuple aL kk tp) gt)(he:∀cl C s0 H0 fp pn,PE (Cx.comp X sc (own++N) cl C s0 H0 fp pn) aW te)(hNd:X.N.Nodup)(hy:X.N[i]?=some y)(hl:X.env.scope.names.lookup y=some .local)(hsw:swapsWith (.ListComp aW [⟨.Tuple aL kk tp,aU,[],0⟩] sc pos) (some (.Name y py)) spos.line X.env=pure true)(hs:∀y,foldedSetIterable aU X.env y=pure y:=by intro _;rfl):PS X (.Assign [.Name y py] (.ListComp aW [⟨.Tuple aL kk tp,aU,[],0⟩] sc pos) spos) (λE σ H=>Mj own.length caps wi gt te σ H λv H1=>E.nx (σ.set i (some v)) H1):=
 HC (λI h aY=>CL hc cs (XB hN).1 (XB hN).2 hi hg he hs I h aY) hNd hy hl hsw
theorem zhI (har:X.env.scope=ar)(hc:X.calm=true)(cs:X4 sc ar [x1,x2] N)(hl1:sc.names.lookup x1=some .local)(hl2:sc.names.lookup x2=some .local)(hN:caps.map (λi=>X.N[i]?)=N.map some)(hnd:([x1,x2]++N).Nodup)(hNd:X.N.Nodup)(hy:X.N[i]?=some y)(hlo:ar.names.lookup y=some .local)(hg:Gl X "zip")(hm:X.mg "zip"=none)(hv:bootBuiltins "zip"=some (.type "zip"))(ha:PDA X Z [a,b] ta)(he:∀cl C s0 H0 fp pn,PD (Cx.comp X sc ([x1,x2]++N) cl C s0 H0 fp pn) Z0 aW te)(hsw:swapsWith (.ListComp aW [⟨.Tuple [.Name x1 p1,.Name x2 p2] kk tp,.Call (.Name "zip" p) [a,b] [] aK,[],0⟩] sc pos) (some (.Name y py)) spos.line X.env=pure true:=by rfl)(hse:starEach [a,b] X.env=[(false,eval a X.env),(false,eval b X.env)]:=by rfl)(hse2:starEach [b] X.env=[(false,eval b X.env)]:=by rfl)(hs:∀y,foldedSetIterable (.Call (.Name "zip" p) [a,b] [] aK) X.env y=pure y:=by intro _;rfl):
  PDS X Z (.Assign [.Name y py] (.ListComp aW [⟨.Tuple [.Name x1 p1,.Name x2 p2] kk tp,.Call (.Name "zip" p) [a,b] [] aK,[],0⟩] sc pos) spos) (To i (SF caps ta te)):=by
 subst har;refine YN (zfq hc cs hN (gt:=U1 X.K 2 (Uo [0,1])) (te:=up X.K Z0 te) (Iw hg hm hv ha hse hse2) (λcl C s0 H0 fp pn=>?_) he hNd hy hlo hsw hs) λF σ H h=>Lk (λ_ h=>E3 h) h
 have l1:(Cx.comp X sc ([x1,x2]++N) cl C s0 H0 fp pn).env.scope.names.lookup x1=some .local:=lookup_relabel_local hl1
 have l2:(Cx.comp X sc ([x1,x2]++N) cl C s0 H0 fp pn).env.scope.names.lookup x2=some .local:=lookup_relabel_local hl2;exact Rn hc (UD hnd (.cons rfl (.inl l1) (.inr l1) (.cons rfl (.inl l2) (.inr l2) .nil))) rfl rfl
section
variable {X:Cx}{Z:Zx}
end
section
variable {X:Cx}{Z:Zx}{pos:Pos}
end
end L3
namespace L2
open PySem PySem.Spec PyProof.Rows
def Itd (lo:Int)(n:Nat):It:=⟨λi _=>i<n,λi H x H'=>H'=H/\x=.int (lo-i),λi _=>n<=i⟩
theorem zcj {P:Program}{w:World}{K:Fg}{tg:Expr}(it:Addr)(lo:Int)(n:Nat):Uz P w K tg (Itd lo n) [it] it (λi h=>IsRangeIter h it (lo+(i:Nat)*(-1)) ((n:Int)-(i:Nat)) (-1)) where
 mem:=zS.mpr rfl
 obj:=λi h st b hb=>by
  cases zS.mp hb;refine⟨_,st,λv z=>?_⟩;have z':Data.fields _=Data.cell v:=z;cases z'
 keep:=λi h h' st k=>k it (zS.mpr rfl) _ st
 item:=by
  intro X hP hw hK hc i pins s σ H E I hf st hg;subst hP hw hK;obtain⟨f0,f1,f2,f3,f4,f5⟩:=hf it (zS.mpr rfl);have W:=Walks.range (prog:=X.prog) (w:=X.w) (I.ok.hd hc) it lo (-1) n;refine W.item i s _ _ hg st λv h' tk hv st' kk=>?_
  obtain⟨t,rfl⟩:=hv;have I1:Inv X pins σ H { s with heap:=h',toks:=tk }:=I.turned (λb o hb e=>kk b o (λz=>hb (zS.mp z)) e) f0 f1 f3 f4 f5
  have ev:lo+(i:Int)*(-1)=lo-(i:Int):=by omega
  exact⟨_,rfl,LX (s:={ s with heap:=h',toks:=tk }) (n:="range_iterator") st' rfl rfl (by decide) ⟨.int (lo-i),H,I1,⟨t,by rw[ev]⟩,⟨rfl,rfl⟩,st',λb hb=>(hf b hb).1⟩⟩
 done:=by
  intro X hP hw hK hc i pins s σ H E I hf st hg;subst hP hw hK;obtain⟨f0,f1,f2,f3,f4,f5⟩:=hf it (zS.mpr rfl);have hg':n<=i:=hg;exact wpAny_pyNext_range_end (I.ok.hd hc) st (by omega) λh' eb=>⟨rfl,I.turned (t':=s.toks) (λb o hb e=>eb b o hb e) f0 f1 f3 f4 f5⟩
 self:=λ_ _ _ _ _ st h=>wpAny_pyIter_rangeiter st h
theorem zer {pins:LA}{σ:St}{H:Hp}{s:Shared}{R:It->Hp->Prop}{E:Value->Shared->Prop}{lo hi:Int}{t u v:Tok}{tk:Nat}(I:Inv X pins σ H s)(h1:-(2^62)<=lo)(h2:lo<2^62)(h3:-(2^62)<=hi)(h4:hi<2^62)
  (q:R (Itd lo (lo-hi).toNat) H):wpAny (model X.prog X.w) X.A (pyIter (.ref s.heap.objs.size)) (PIE X pins σ tg R) E { s with heap:=s.heap.push { cls:=.type "range",data:=.fields #[.int lo t,.int hi u,.int (-1) v] },toks:=tk }:=by
 have I1:Inv X pins σ H { s with heap:=s.heap.push { cls:=.type "range",data:=.fields #[.int lo t,.int hi u,.int (-1) v] },toks:=tk }:=I.kept λb o e=>Heap.get?_push_of_some _ e
 refine wpAny_pyIter_range (IsRange.new ..) (W.small_down h1 h2 h3 h4) ?_;refine⟨(s.heap.push { cls:=.type "range",data:=.fields #[.int lo t,.int hi u,.int (-1) v] }).objs.size,[(s.heap.push { cls:=.type "range",data:=.fields #[.int lo t,.int hi u,.int (-1) v] }).objs.size],_,_,H,rfl,
  I1.kept (t':=tk) λb o e=>Heap.get?_push_of_some _ e,zcj _ lo (lo-hi).toNat,?_,λb hb=>?_,q⟩
 ·show IsRangeIter _ _ (lo+((0:Nat):Int)*(-1)) ((((lo-hi).toNat:Nat):Int)-((0:Nat):Int)) (-1);rw[show lo+((0:Nat):Int)*(-1)=lo by simp,show (((lo-hi).toNat:Nat):Int)-((0:Nat):Int)=Builtin.Range.rangeSize lo hi (-1) by rw[W.rangeSize_downNat];simp];exact(Heap.get?_push_size _ rfl)
 ·cases zS.mp hb;exact I1.fpOk (zC _) (I1.hok.fresh (zC _))
def iRngD (ta:TA):TI:=λσ H R=>ta σ H λvs H1=>∃i j:Int,vs=[.int i,.int j,.int (-1)]/\(-(2^62)<=i/\i<2^62/\-(2^62)<=j/\j<2^62)/\R (Itd i (i-j).toNat) H1
theorem zej {a b c:Expr}{ta:TA}{p pos:Pos}(hg:Gl X "range")(hm:X.mg "range"=none)(ha:PA X [a,b,c] ta)(hs:starEach [a,b,c] X.env=[(false,eval a X.env),(false,eval b X.env),(false,eval c X.env)]:=by rfl)(hs2:starEach [b,c] X.env=[(false,eval b X.env),(false,eval c X.env)]:=by rfl):
  PI X tg (.Call (.Name "range" p) [a,b,c] [] pos) (iRngD ta):=by
 intro pins s σ H R I h;refine Call_ (VN I hg hm boot_range (PyProof.Rows.callWith_type1 (thn (ha pos pins s σ H _ I h) λus s1 ⟨vs,H1,I1,r1,q1⟩=>?_) (by rw[hs,hs2]) (by rw[hs2];rfl)));obtain⟨i,j,e,⟨q1,q2,q3,q4⟩,q⟩:=q1;subst e;cases r1 with
 | cons r rr=>
  cases rr with
  | cons r' rr=>
   cases rr with
   | cons r2 rr=>
    cases rr;obtain⟨t,rfl⟩:=r;obtain⟨t',rfl⟩:=r';obtain⟨t2,rfl⟩:=r2;exact call_range_3 (by decide) (zer I1 q1 q2 q3 q4 q) (.inl (PyProof.noPylong_small (by omega)))
end L2
namespace L3
open PySem PySem.Spec PyProof.Rows L2
def zgq (i:Nat)(ta:TDA)(tb:TDS):TDS:=λE dl S=>ta dl S λds S1=>match ds with
 | [.int lo,.int hi,.int st]=>st=-1/\(-(2^62)<=lo/\lo<2^62/\-(2^62)<=hi/\hi<2^62)/\∃W:Nat->Ev->Sto->Prop,W 0 dl S1/\∀k dl S,W k dl S->
   if k<(lo-hi).toNat then tb { nx:=λdl' S'=>W (k+1) dl' S',rt:=E.rt,bk:=E.nx,ct:=λdl' S'=>W (k+1) dl' S' } (dl.set i (some (.int (lo-k)))) S else E.nx dl S
 | _=>False
theorem zbR (hp:PassesOwn (model X.prog X.w) X.A X.env X.xe)(hc:X.calm=true)(hN:X.N.Nodup)(hi:X.N[i]?=some x)(hx:Loc X.env.scope x)(hg:Gl X "range")(hm:X.mg "range"=none)(ha:PDA X Z [a,b,c] ta)(hb:YZ X Z body tb)(hf:X.fn x=true\/X.env.scope.names.lookup x=some .local:=by first|exact .inl rfl|exact .inr rfl|assumption)(hs:∀y,foldedSetIterable (.Call (.Name "range" p) [a,b,c] [] pos) X.env y=pure y:=by intro _;rfl)(hst:starEach [a,b,c] X.env=[(false,eval a X.env),(false,eval b X.env),(false,eval c X.env)]:=by rfl)(hst2:starEach [b,c] X.env=[(false,eval b X.env),(false,eval c X.env)]:=by rfl):
  PDS X Z (.For (.Name x pos') (.Call (.Name "range" p) [a,b,c] [] pos) body [] aK) (zgq i ta tb):=
 YN (Sl hp hc (zej hg hm ha hst hst2) (TY hN hi hx hf) hb hs) λF σ H ⟨r,dl,S,E,rs,aZ,h,ret⟩=>by
  refine⟨r,dl,S,_,rs,aZ,h,λvs H1 r1 ds S1 x1 aB p1 q1=>?_⟩;split at q1
  ·rename_i lo hi st;obtain⟨v,vs',rfl,p2,p3⟩:=p1.uncons;obtain⟨v2,vs2,rfl,p4,p5⟩:=p3.uncons;obtain⟨v3,vs3,rfl,p6,p7⟩:=p5.uncons;have z:=p7.unnil;subst z;cases p2;cases p4;cases p6;obtain⟨e3,bds,W,w0,turn⟩:=q1;subst e3;refine⟨lo,hi,rfl,bds,λk m σ' H'=>m=(lo-hi).toNat-k/\∃r' dl' S',Ext r1 r' H1 H'/\Rs r' H' dl' σ'/\Rel X.K Z r' S' H'/\W k dl' S',⟨(lo-hi).toNat,by simp,r1,dl,S1,Ext.refl,rs.ext x1,aB,w0⟩,?_⟩;rintro k m σ2 H2 ⟨em,r2,dl2,S2,x2,rs2,aC,w2⟩;have q:=turn k dl2 S2 w2;split at q
   ·rename_i hk;have go:∀σ' H' r' dl' S',Ext r2 r' H2 H'->Rs r' H' dl' σ'->Rel X.K Z r' S' H'->W (k+1) dl' S'->∃r' dl' S',Ext r1 r' H1 H'/\Rs r' H' dl' σ'/\Rel X.K Z r' S' H'/\W (k+1) dl' S':=
     λσ' H' r' dl' S' x rs' rel' w'=>⟨r',dl',S',x2.trans x,rs',rel',w'⟩
    have pk:Rp r2 H2 (.int (lo-(k:Int))) (.int (lo-(k:Int))):=.int _;refine .inr ⟨hk,λσ' H'=>∃r' dl' S',Ext r1 r' H1 H'/\Rs r' H' dl' σ'/\Rel X.K Z r' S' H'/\W (k+1) dl' S',λσ' H' z=>⟨(lo-hi).toNat-(k+1),by omega,rfl,z⟩,λv' H' y'=>?_⟩;obtain⟨eH,y'⟩:=y';subst eH;subst y';exact⟨r2,_,S2,_,rs2.set i pk,aC,q,go,λσ' H' r' dl' S' x rs' rel' z=>ret.nx σ' H' r' dl' S' (x1.trans (x2.trans x)) rs' rel' z,go,ret.rt.ext (x1.trans x2)⟩
   ·rename_i hk;exact .inl ⟨by show (lo-hi).toNat<=k;omega,ret.nx σ2 H2 r2 dl2 S2 (x1.trans x2) rs2 aC q⟩
  ·exact q1.elim
open PySem PySem.Spec PyProof.Rows L2 PySem.W
structure Nt (sc around:Scope)(own caps:List Str):Prop where
 kind:sc.kind=.function
 co:sc.isCoroutine=false
 gen:sc.isGenerator=false
 nocell:∀y∈sc.names,y.2≠.cell
 loc:∀y∈own,sc.names.lookup y=some .local
 cap:∀y∈caps,sc.names.lookup y=some .free
 out:∀y∈sc.names,y.2=.free->around.names.lookup y.1=some .cell
 nd:own.Nodup
theorem Ai:∀ {l:List (Str×α)},(l.map (·.1)).Nodup->(y,v)∈l->l.lookup y=some v
 | (n,k)::r,nd,h=>by
  rw[zV];rcases zR.mp h with e|e
  ·cases e;simp
  ·have hn:n ∉ r.map (·.1):=(xB.mp nd).1
   have ne:(y==n)=false:=by
    cases q:y==n with
    | false=>rfl
    | true=>
     have z:y=n:=by simpa using q
     subst z;exact absurd (zO.mpr ⟨_,e,rfl⟩) hn
   rw[ne];exact Ai (xB.mp nd).2 e
abbrev Lr (qual:Str)(sc:Scope)(L f:Addr)(cd:Value)(cl:List (Str×Addr)):Env:=newEnv sc L mainGlobals cl (qual++".<locals>.") (some f) cd none builtinsNs
abbrev Cx.lam (X:Cx)(A:Around)(sc:Scope)(N:List Str)(qual:Str)(f:Addr)(cd:Value)(cl:List (Str×Addr))(L:Addr)(s0:Shared)(H0:Hp):Cx:=
 { prog:=X.prog,w:=X.w,K:=X.K,mg:=X.mg,base:=X.base,A:=A.deeper (Lr qual sc L f cd cl),N:=N,s₀:=s0,H₀:=H0,env:=Lr qual sc L f cd cl,outer:=X.stack,stack:=Lr qual sc L f cd cl::X.stack,ex:=[],fn:=λ_=>false,calm:=true,pn:=[],xe:=λ_ _=>False }
theorem zeT (I:Inv X pins σ H s)(cs:Nt sc X.env.scope own N)(hN:∀(j:Nat)(y:Str),N[j]?=some y->∃i,caps[j]?=some i/\X.N[i]?=some y)(aM:caps.length=N.length)(c1:∀x c,cl.lookup x=some c->X.env.cells.lookup x=some c)(c2:∀y∈sc.names,y.2=.free->cl.lookup y.1=X.env.cells.lookup y.1)(hh:A.handled=none)(hfr:A.frames=some X.stack)(hv:ZJ vs us)(hlv:vs.length=own.length)(hns:h1.Ns s.heap.objs.size (λx=>(own.zip us).reverse.lookup x))(hk:∀b o,s.heap.get? b=some o->h1.get? b=some o):
  Inv (Cx.lam X A sc (own++N) qual f cd cl s.heap.objs.size s H) [] (vs.map some++Yn caps σ) H { s with heap:=h1,toks:=tk }:=by
 have noA:∀b:Addr,b ∉ (Cx.lam X A sc (own++N) qual f cd cl s.heap.objs.size s H).ex:=λb z=>absurd (show b∈([]:List Addr) from z) (by simp)
 refine⟨⟨I.ok.mod,cs.kind,rfl,rfl,zC _,λa b c h1 h2=>I.ok.inj a b c (c1 _ _ h1) (c1 _ _ h2),λy hy=>?_,λ_ _ z=>Bool.noConfusion z,λ_=>hh,Around.frames_deeper hfr,.inr ⟨rfl,rfl⟩,λb z=>absurd z (noA b),
  I.bs,yD I.ok.bsz I.sz,λb _ _=>noA b,λb z=>absurd z (noA b),I.stack,I.stkFree⟩,rfl,I.bare,Un.kept hk,⟨_,hns,λi y v e1 e2 e3=>?_⟩,λy c e=>?_,I.hok.fresh (zC _),λy c e=>I.freeC y c (c1 _ _ e),λp hp=>absurd (show p∈([]:LA) from hp) (by simp),I.hok.kept hk,?_⟩
 ·have hfree:sc.names.lookup y=some .free:=by
   rcases (show sc.names.lookup y=some .cell\/sc.names.lookup y=some .free from hy) with z|z
   ·exact absurd rfl (cs.nocell _ (Sv z))
   ·exact z
  have hm:=Sv hfree;obtain⟨c,e⟩:=I.ok.has y (.inl (cs.out _ hm rfl));exact⟨c,(c2 _ hm rfl).trans e⟩
 ·rcases Nat.lt_or_ge i own.length with hi|hi
  ·have e1':own[i]?=some y:=by rw[zI hi] at e1;exact e1
   have e2':vs[i]?=some v:=by
    rw[zI (by rw[zB];omega),zE] at e2;cases e:vs[i]? with
    | none=>rw[e] at e2;cases e2
    | some a=>rw[e] at e2;cases e2;rfl
   obtain⟨u,hu,rv⟩:=hv.get e2';refine⟨u,rv,.inl ⟨cs.loc y (zF e1'),?_⟩⟩;have z:(y,u)∈(own.zip us).reverse:=by
    rw[List.mem_reverse];exact zF (i:=i) (by rw[List.getElem?_zip_eq_some];exact⟨e1',hu⟩)
   have nd:((own.zip us).reverse.map (·.1)).Nodup:=by
    rw[List.map_reverse,List.map_fst_zip (by rw[<- hv.length];omega)];exact List.pairwise_reverse.mpr (cs.nd.imp λh=>Ne.symm h)
   exact Ai nd z
  ·obtain⟨i,rfl⟩:∃k,i=own.length+k:=⟨i-own.length,by omega⟩;have e1':N[i]?=some y:=by
    rw[yB hi] at e1;simpa using e1
   have e2:(Yn caps σ)[i]?=some (some v):=by
    rw[yB (by rw[zB];omega),zB] at e2;simpa [hlv] using e2
   obtain⟨j,hj,hy⟩:=hN i y e1';have e2':σ[j]?=some (some v):=by
    simp only[Yn,zE,hj,Option.map_some,Option.some.injEq] at e2;cases q:σ[j]? with
    | none=>rw[q] at e2;cases e2
    | some o=>rw[q] at e2;simp at e2;rw[e2]
   have hfree:sc.names.lookup y=some .free:=cs.cap y (zF e1')
   have hm:=Sv hfree
   have hce:X.env.scope.names.lookup y=some .cell:=cs.out _ hm rfl;obtain⟨m0,_,hl⟩:=I.loc;obtain⟨u,r,l⟩:=hl j y v hy e2' (.inr (.inl hce));refine⟨u,r,.inr ⟨.inr hfree,?_⟩⟩;rcases l with ⟨k,_⟩|⟨_,c,ec,hcell⟩
   ·rw[show X.env.kindOf y=some .cell from hce] at k;cases k
   ·exact⟨c,(c2 _ hm rfl).trans ec,hcell.keeps hk⟩
 ·obtain⟨v,z⟩:=I.cell y c (c1 _ _ e);exact⟨v,z.keeps hk⟩
 ·simp[Yn,aM,hlv]
abbrev VB (qual:Str)(params:Arguments)(body:Expr)(sc:Scope)(cl:List (Str×Addr))(pm:Value)(cd:Value)(ctv:Value):Obj:={ cls:=.type "function",data:=.func (kla_fn "<lambda>" qual params body sc cl pm cd ctv) }
theorem zcu (I:Inv X pins σ H s)(cs:Nt sc X.env.scope own N)(hN:∀(j:Nat)(y:Str),N[j]?=some y->∃i,caps[j]?=some i/\X.N[i]?=some y)(aM:caps.length=N.length)(c1:∀x c,cl.lookup x=some c->X.env.cells.lookup x=some c)(c2:∀y∈sc.names,y.2=.free->cl.lookup y.1=X.env.cells.lookup y.1)(hh:A.handled=none)(hfr:A.frames=some X.stack)(hv:ZJ vs us)(hlv:vs.length=own.length)(hroom:A.depth<recursionLimit)(ho:s.heap.get? f=some (VB qual params body sc cl pm cd ctv))(hcd:s.heap.CodeRec cd qual)(hb:bindArgs (kla_fn "<lambda>" qual params body sc cl pm cd ctv) ⟨us,[]⟩=pure (own.zip us))(he:PE (Cx.lam X A sc (own++N) qual f cd cl s.heap.objs.size s H) body te)(h:te (vs.map some++Yn caps σ) H Q):
  codeAny (model X.prog X.w) A (.call (.ref f) ⟨us,[]⟩) (λr s'=>match r with|.ok (.ret u)=>CE X.stack X.prog X.w H s Q u s'|_=>False) s:=by
 refine kla_callFunE hroom ho rfl cs.co cs.gen rfl hcd ?_;rw[hb];have lim:s.heap.NoLimit:=I.ok.mod.nolimit.keeps λb o e=>(I.bs b o e).1
 refine wpAny_pure (wpAny_newFunctionEnv cs.nocell (λy hy=>cs.loc y.1 (List.of_mem_zip hy).1) (λh₁ hns hsb=>?_) cs.kind);have hk₁:∀b o,s.heap.get? b=some o->h₁.get? b=some o:=λb o e=>hsb.extBut b o (zM (Heap.lt_size e)) (Heap.get?_push_of_some _ e)
 refine⟨lim.keeps hk₁,?_⟩;refine kla_codeExpr ?_;have J:=zeT (A:=A) (qual:=qual) (f:=f) (cd:=cd) (tk:=s.toks+(own.zip us).length) I cs hN aM c1 c2 hh hfr hv hlv hns hk₁;exact wpAny_mono (he [] _ _ H _ J h) (λu s' ⟨v,H',J',rv,q⟩=>⟨v,H',J'.os,J'.bare,J'.base,J'.hok,rv,q⟩) λ_ _ z=>z.elim
theorem CC {h1 h2:Heap}{c:Addr}{q:Str}(h:h1.CodeRec (.ref c) q)(k:∀o,h1.get? c=some o->h2.get? c=some o):h2.CodeRec (.ref c) q:=by
 obtain⟨c2,o,vs,t,e,h1,h3,h4⟩:=h;cases e;exact⟨c,o,vs,t,rfl,k _ h1,h3,h4⟩
theorem zb2 {sc:Scope}{cl:List (Str×Addr)}{qual:Str}{params:Arguments}{body:Expr}{c P:Addr}{ps:Array Value}{pos:Pos}{fl:Nat}{Q:Value->Shared->Prop}(I:Inv X pins σ H s)(hcl:closureFor sc X.env=pure cl)
  (hcode:X.env.code=.ref c)(C:CodeHd X.base c P)(hb:∃bm o,X.mg "__builtins__"=some (.ref bm)/\bm≠builtinsNs/\bm≠mainGlobals/\X.base.get? bm=some o/\o.cls=.type "module"/\o.dict=some builtinsNs/\o.data=.plain)
  (hP:H P=some (.tbl ps))(tab:Tab pos qual H ps)
  (h:∀(f:Addr)(cd ctv:Value)(H':Hp)(ps':Array Value)(s':Shared),Inv X pins σ H' s'->H' P=some (.tbl ps')->Tab pos qual H' ps'->(∀b o,H b=some o->b≠P->H' b=some o)->s'.heap.CodeRec cd qual->(∃c',cd=.ref c'/\H' c'=some (.ext λh=>h.CodeRec (.ref c') qual))->
   s'.heap.get? f=some (VB qual params body sc cl ((X.mg "__name__").getD .none) cd ctv)->Yo X pins H' f->Q (.ref f) s'):
  wpAny (model X.prog X.w) X.A (makeFunction "<lambda>" qual params (.expr body) sc X.env [] [] [] pos fl) Q X.xe s:=by
 have hg:s.heap.Ns mainGlobals X.mg:=I.ok.mod.glob.keeps I.bk
 have hPs:s.heap.get? P=some (tabObj ps):=I.hok P _ hP
 have nP:∀b,H b=none->b≠P:=λb n e=>by rw[e,hP] at n;cases n
 have gP:mainGlobals≠P:=by
  obtain⟨o,es,ep,e,_⟩:=I.ok.mod.glob;exact nP _ (I.bs _ _ e).2
 obtain⟨bm,ob,b1,b2,b3,b4,b5,b6,b7⟩:=hb;have bP:bm≠P:=nP _ (I.bs _ _ b4).2
 have BA:s.heap.BuiltinsAt X.mg P:=⟨bm,ob,b1,b2,b3,bP,(I.bs _ _ b4).1,b5,b6,b7⟩;obtain⟨tr,alt⟩:=tab;rcases alt with hn|⟨c',hf,hc'⟩
 ·refine kla_makeFunction hcl I.ok.glob hg hcode (C.keeps I.bk) hPs tr hn gP BA λc' ctv h' tk hx hge hlt hrec htb=>?_
  have lt:∀b o,H b=some o->b<s.heap.objs.size:=λb o e=>I.hok.lt e
  have ltP:=lt P _ hP
  have ncP:c'≠P:=yU (zQ ltP hge)
  have up:∀b o,b≠P->s.heap.get? b=some o->(h'.push (VB qual params body sc cl ((X.mg "__name__").getD .none) (.ref c') ctv)).get? b=some o:=λb o n e=>Heap.get?_push_of_some _ (hx b o n e)
  have upP:=Heap.get?_push_of_some (VB qual params body sc cl ((X.mg "__name__").getD .none) (.ref c') ctv) htb
  have rec2:(h'.push (VB qual params body sc cl ((X.mg "__name__").getD .none) (.ref c') ctv)).CodeRec (.ref c') qual:=CC hrec λo e=>Heap.get?_push_of_some _ e
  have hH:∀b o,H b=some o->b≠P->upd (upd H c' (.ext λh=>h.CodeRec (.ref c') qual)) P (.tbl (ps++#[rawInt pos.line,rawInt pos.col,.ref c'])) b=some o:=λb o e n=>by
   rw[Z4 n,Z4 (zM (zQ (lt b o e) hge))];exact e
  have hc2:upd (upd H c' (.ext λh=>h.CodeRec (.ref c') qual)) P (.tbl (ps++#[rawInt pos.line,rawInt pos.col,.ref c'])) c'=some (.ext λh=>h.CodeRec (.ref c') qual):=by
   rw[Z4 ncP,Y2]
  have un:Un X.fs [] H (upd (upd H c' (.ext λh=>h.CodeRec (.ref c') qual)) P (.tbl (ps++#[rawInt pos.line,rawInt pos.col,.ref c']))) s.heap (h'.push (VB qual params body sc cl ((X.mg "__name__").getD .none) (.ref c') ctv)):=
   ⟨λb o e n _ _=>up b o (nP b n) e,λb o e n _ _=>⟨o.slots,up b o (nP b n) e⟩,λb o e n _=>by
    rw[Z4 (nP b n),Z4 (zM (zQ (Heap.lt_size e) hge))];exact n,λb o e _=>by
    by_cases q:b=P
    ·rw[q];exact⟨_,upP⟩
    ·exact⟨_,up b o q e⟩,λb xs e=>hH b _ e (λq=>by rw[q,hP] at e;cases e),λb o u e=>hH b _ e (λq=>by rw[q,hP] at e;cases e),λb qs e=>by
    by_cases q:b=P
    ·subst q;rw[hP] at e;cases e;exact⟨_,Y2⟩
    ·exact⟨#[],by rw[hH b _ e q];simp⟩⟩
  have hok:HOk X.prog X.w (upd (upd H c' (.ext λh=>h.CodeRec (.ref c') qual)) P (.tbl (ps++#[rawInt pos.line,rawInt pos.col,.ref c']))) (h'.push (VB qual params body sc cl ((X.mg "__name__").getD .none) (.ref c') ctv)):=λa o e=>by
   by_cases q:a=P
   ·subst q;rw[Y2] at e;cases e;exact upP
   ·rw[Z4 q] at e;by_cases q2:a=c'
    ·subst q2;rw[Y2] at e;cases e;obtain⟨_,o2,_,_,e2,e3,_⟩:=id rec2;cases e2;exact⟨rec2,⟨o2,e3⟩,λh1 h2 p k=>CC p k⟩
    ·rw[Z4 q2] at e;refine(I.hok a o e).stay (λb u hb r=>up b u (λz=>?_) r) (λb r=>hH b _ r λz=>by rw[z,hP] at r;cases r) λb xs r=>hH b _ r λz=>by rw[z,hP] at r;cases r
     rcases hb with hb|hb
     ·exact q (hb ▸ z)
     ·rw[z,hP] at hb;cases hb
  have I2:Inv X pins σ _ { s with heap:=h'.push (VB qual params body sc cl ((X.mg "__name__").getD .none) (.ref c') ctv),toks:=tk }:=I.un (t':=tk) un hok
  have fresh:s.heap.objs.size<=h'.objs.size:=yD hge (yN hlt)
  have ff:=I.fpOk (H':=upd (upd H c' (.ext λh=>h.CodeRec (.ref c') qual)) P (.tbl (ps++#[rawInt pos.line,rawInt pos.col,.ref c']))) fresh (by
   rw[Z4 (yU (zQ ltP fresh)),Z4 (yU hlt)];exact I.hok.fresh fresh)
  refine h _ (.ref c') ctv _ _ _ I2 Y2 ⟨?_,.inr ⟨c',?_,hc2⟩⟩ hH rec2 ⟨c',rfl,hc2⟩ (Heap.get?_push_size _ rfl) ff
  ·rw[Array.toList_append];exact TriplesOk_snoc _ _ _ _ tr
  ·rw[Array.toList_append];exact codeAmong_snoc _ tr hn
 ·refine kla_makeFunctionHit hcl I.ok.glob hg hcode (C.keeps I.bk) hPs tr hf BA λctv h' tk hk hsz=>?_
  have I2:Inv X pins σ H { s with heap:=h'.push (VB qual params body sc cl ((X.mg "__name__").getD .none) (.ref c') ctv),toks:=tk }:=I.kept (t':=tk) λb u e=>Heap.get?_push_of_some _ (hk b u e)
  exact h _ (.ref c') ctv H ps _ I2 hP ⟨tr,.inr ⟨c',hf,hc'⟩⟩ (λb o e _=>e) (I2.hok c' _ hc').1 ⟨c',rfl,hc'⟩ (Heap.get?_push_size _ rfl) (I.fpOk hsz (I.hok.fresh hsz))
theorem UO {h':Heap}{t':Nat}{b:Addr}(I:Inv X pins σ H s)(f:Yo X pins H b)(k:∀a o,a≠b->s.heap.get? a=some o->h'.get? a=some o):Inv X pins σ H { s with heap:=h',toks:=t' }:=
 I.turned k f.1 f.2.1 f.2.2.2.1 f.2.2.2.2.1 f.2.2.2.2.2
theorem B7 {b:Addr}(I:Inv X pins σ H s)(f:Yo X pins H b):b ∉ frs X.stack:=λz=>by
 rcases zR.mp (I.stkSub b z) with e|e
 ·exact f.2.1 e
 ·exact f.2.2.1 e
theorem zgz (hc:X.calm=true){l it S f:Addr}{of:Obj}{N:Nat}{M:Nat->V->Hp->Prop}{W:Nat->Hp->Prop}{Q:VK}{kw:List (Str×Value)}(hsq:∀i H',W i H'->∃xs,SqL X.K H' l xs/\xs.length=N/\∀(j:Nat)(v:V),xs[j]?=some v->M j v H')
  (turn:∀(i:Nat)(v:V)(u:Value)(H':Hp)(s':Shared),M i v H'->ZK v u->W i H'->Inv X pins σ H' s'->s'.heap.get? f=some of->codeAny (model X.prog X.w) X.A.in1 (.call (.ref f) ⟨[u],[]⟩) (λr s''=>match r with|.ok (.ret u')=>CE X.stack X.prog X.w H' s' (λy H''=>(∃n:Int,y=.int n)/\W (i+1) H''/\∀(k:Nat)(v:V),M k v H'->M k v H'') u' s''|_=>False) s')
  (hQ:∀H',W N H'->∀(i:Nat)(v:V),M i v H'->Q v H')(hlI:l≠it)(hIS:it≠S)(hIf:it≠f)(hSf:S≠f):
  ∀(n j:Nat)(H:Hp)(s:Shared)(vb:Value)(kb:Int)(tb:Tok)(c:Nat),N-j=n->j<=N->Inv X pins σ H s->W j H->Yo X pins H it->Yo X pins H S->Yo X pins H f->s.heap.IsListIter it l j->s.heap.get? S=some (seqObj "list" #[vb,.int kb tb] c)->s.heap.get? f=some of->(∃(i:Nat)(v:V),M i v H/\ZK v vb)->
   codeAny (model X.prog X.w) X.A (.builtin "max.loop" ⟨[.ref it,.ref f,.ref S],kw⟩) (λr s'=>match r with|.ok (.ret u)=>EP X pins σ Q u s'|.ok _=>False|.error e=>X.xe e s') s:=by
 have hname:(toString "max"++toString ".loop":String)="max.loop":=by decide
 intro n
 induction n with
 | zero=>
  intro j H s vb kb tb c hn hj I w fI fS ff hit hS hf hvb;obtain⟨xs,hxs,lxs,mxs⟩:=hsq j H w;obtain⟨aX,rv,pl,hz⟩:=I.list hxs;have aM:=rv.length
  have ej:j=aX.length:=by omega
  have Wk:=Walks.list (prog:=X.prog) (w:=X.w) (A:=X.A.in1) (I.ok.hd hc) it l hlI aX.toArray;refine codeAny_builtin PySem.F.entry_max_loop ?_;rw[Around.under_plainId PySem.F.plain_max_loop _];show wpAny _ X.A.in1 (seqItems? (.ref S) >>= _) _ _ _;refine wpAny_bind (wpAny_seqItems hS rfl ?_);show wpAny _ X.A.in1 (tryCatch (pyNext (.ref it)) _ >>= _) _ _ _;refine wpAny_bind (wpAny_tryCatch (Wk.done _ _ _ ⟨by rw[zH,<- ej];exact hit,pl.isList⟩ λh' tk' hk'=>?_));have I1:Inv X pins σ H { s with heap:=h',toks:=tk' }:=UO (t':=tk') I fI λa o na e=>hk' a o (by simpa using na) e
  have hS':=hk' S _ (by simpa using hIS.symm) hS
  show wpAny _ X.A.in1 (updateSeq S (λ_=>#[]) >>= _) _ _ _;refine wpAny_bind ?_;refine wpAny_updateSeq hS' rfl (wpAny_bind (wpAny_letGo (wpAny_pure ?_)));have s1:=Heap.SameBut.update h' S (Obj.mapSeq λ_=>(#[]:Array Value));obtain⟨i,v,hv,r⟩:=hvb;exact⟨v,H,UO (t':=tk') I1 fS λa o na e=>(s1.2 a na).trans e,r,hQ H (by rw[show N=j by omega];exact w) i v hv⟩
 | succ n ih=>
  intro j H s vb kb tb c hn hj I w fI fS ff hit hS hf hvb;obtain⟨xs,hxs,lxs,mxs⟩:=hsq j H w;obtain⟨aX,rv,pl,hz⟩:=I.list hxs;have aM:=rv.length
  have Wk:=Walks.list (prog:=X.prog) (w:=X.w) (A:=X.A.in1) (I.ok.hd hc) it l hlI aX.toArray;refine codeAny_builtin PySem.F.entry_max_loop ?_;rw[Around.under_plainId PySem.F.plain_max_loop _];show wpAny _ X.A.in1 (seqItems? (.ref S) >>= _) _ _ _;refine wpAny_bind (wpAny_seqItems hS rfl ?_);show wpAny _ X.A.in1 (tryCatch (pyNext (.ref it)) _ >>= _) _ _ _;refine wpAny_bind (wpAny_tryCatch (Wk.item j _ _ _ (by rw[zH];omega) ⟨hit,pl.isList⟩ λu h' tk' hP hst' hk'=>?_));have hu:aX[j]?=some u:=by simpa using hP
  have hk1:∀a o,a≠it->s.heap.get? a=some o->h'.get? a=some o:=λa o na e=>hk' a o (by simpa using na) e
  have I1:Inv X pins σ H { s with heap:=h',toks:=tk' }:=UO (t':=tk') I fI hk1;obtain⟨v,hv⟩:∃v,xs[j]?=some v:=⟨_,zD (by omega)⟩;obtain⟨u2,hu2,rvu⟩:=rv.get hv;rw[hu] at hu2;cases hu2;have hS1:=hk1 S _ hIS.symm hS
  have hf1:=hk1 f _ hIf.symm hf;obtain⟨oI,hoI,hoc,hod⟩:=id hst'.1;show wpAny _ X.A.in1 (tryCatch (holding [u] (call (.ref f) [u])) _ >>= _) _ _ _;refine wpAny_bind (wpAny_tryCatch (wpAny_holding (wpAny_call (codeAny_mono (turn j v u H _ (mxs j v hv) rvu w I1 hf1) λr s2 h2=>?_))));cases r with
  | error e=>exact h2.elim
  | ok fl=>
   cases fl with
   | next=>exact h2.elim
   | brk=>exact h2.elim
   | cont=>exact h2.elim
   | ret ku=>
    obtain⟨y,H2,os2,bare2,un2,hok2,ry,⟨k2,rfl⟩,w2,up2⟩:=(show CE X.stack X.prog X.w H _ _ ku s2 from h2);obtain⟨t2,rfl⟩:=ry;have I2:Inv X pins σ H2 s2:=I1.call' (ch:=[]) os2 un2 hok2 bare2 (λb hb=>by simp at hb)
    have kp:∀b o,Yo X pins H b->h'.get? b=some o->s2.heap.get? b=some o/\Yo X pins H2 b:=λb o fb e=>⟨un2.keep b o e fb.1 (B7 I1 fb) (by simp),un2.free b o e fb.1 (by simp),fb.2⟩
    obtain⟨hI2,fI2⟩:=kp it oI fI hoI;obtain⟨hS2,fS2⟩:=kp S _ fS hS1;obtain⟨hf2,ff2⟩:=kp f _ ff hf1;show wpAny _ X.A.in1 (tryCatch (holding [u,.int k2 t2] (richCompare .Gt (.int k2 t2) (.int kb tb) >>= _)) _ >>= _) _ _ _;refine wpAny_bind (wpAny_tryCatch (wpAny_holding (wpAny_bind (CmpOf.ints_gt (prog:=X.prog) (w:=X.w) (A:=X.A.in1) (P:=λi v=>∃t,v=.int (([k2,kb]:List Int).getD i 0) t) (λi=>([k2,kb]:List Int).getD i 0) (λi v h=>h) 0 1 _ _ _ _ _ ⟨t2,rfl⟩ ⟨tb,rfl⟩ ?_))));refine wpAny_bind (wpAny_holding (wpAny_truthy_bool ?_));refine wpAny_bind (wpAny_letGo (wpAny_pure ?_));by_cases hb':([k2,kb]:List Int).getD 0 0 > ([k2,kb]:List Int).getD 1 0
    ·simp only[hb',decide_true,if_true];have s1:=Heap.SameBut.update s2.heap S (Obj.mapSeq λ_=>#[u,.int k2 t2]);obtain⟨c2,hc2⟩:∃c2,(s2.heap.update S (Obj.mapSeq λ_=>#[u,.int k2 t2])).get? S=some (seqObj "list" #[u,.int k2 t2] c2):=⟨_,get?_update_seq hS2 λ_=>#[u,.int k2 t2]⟩;refine wpAny_bind ?_;refine wpAny_updateSeq hS2 rfl (wpAny_bind (wpAny_letGo ?_));rw[hname];have I3:Inv X pins σ H2 { s2 with heap:=s2.heap.update S (Obj.mapSeq λ_=>#[u,.int k2 t2]) }:=UO (t':=s2.toks) I2 fS2 λa o na e=>(s1.2 a na).trans e
     exact wpAny_pure ⟨plainId_quiet PySem.F.plain_max_loop _,ih (j+1) H2 _ u k2 t2 c2 (by omega) (by omega) I3 w2 fI2 fS2 ff2 ⟨oI,(s1.2 it hIS).trans hI2,hoc,hod⟩ hc2 ((s1.2 f hSf.symm).trans hf2) ⟨j,v,up2 j v (mxs j v hv),rvu⟩⟩
    ·simp only[hb',decide_false,Bool.false_eq_true,if_false];refine wpAny_bind (wpAny_letGo ?_);rw[hname];exact wpAny_pure ⟨plainId_quiet PySem.F.plain_max_loop _,ih (j+1) H2 _ vb kb tb c (by omega) (by omega) I2 w2 fI2 fS2 ff2 ⟨oI,hI2,hoc,hod⟩ hS2 hf2 (by obtain⟨i,v,hv,r⟩:=hvb;exact⟨i,v,up2 i v hv,r⟩)⟩
theorem zet (a v d:Value):argsOk "max" ⟨[a],[(Str.ofString "key",v),(Str.ofString "default",d)]⟩:=by unfold argsOk;kernel_rfl
theorem zcG (hc:X.calm=true){l f:Addr}{of:Obj}{N:Nat}{M:Nat->V->Hp->Prop}{W:Nat->Hp->Prop}{Q:VK}{d:V}{dv:Value}(I:Inv X pins σ H s)(w0:W 0 H)(hsq:∀i H',W i H'->∃xs,SqL X.K H' l xs/\xs.length=N/\∀(j:Nat)(v:V),xs[j]?=some v->M j v H')
  (turn:∀(i:Nat)(v:V)(u:Value)(H':Hp)(s':Shared),M i v H'->ZK v u->W i H'->Inv X pins σ H' s'->s'.heap.get? f=some of->codeAny (model X.prog X.w) X.A.in1 (.call (.ref f) ⟨[u],[]⟩) (λr s''=>match r with|.ok (.ret u')=>CE X.stack X.prog X.w H' s' (λy H''=>(∃n:Int,y=.int n)/\W (i+1) H''/\∀(k:Nat)(v:V),M k v H'->M k v H'') u' s''|_=>False) s')
  (hQ:∀H',W N H'->∀(i:Nat)(v:V),M i v H'->Q v H')(ff:Yo X pins H f)(hf:s.heap.get? f=some of)(rd:ZK d dv)(h0:N=0->Q d H):
  wpAny (model X.prog X.w) X.A (call (.builtin "max") [.ref l] [(Str.ofString "key",.ref f),(Str.ofString "default",dv)]) (EP X pins σ Q) X.xe s:=by
 have hname:(toString "max"++toString ".loop":String)="max.loop":=by decide
 obtain⟨xs,hxs,lxs,mxs⟩:=hsq 0 H w0;obtain⟨aX,rv,pl,hz⟩:=I.list hxs;have aM:=rv.length
 have hls:=pl.isList;obtain⟨ol,hol,_⟩:=id hls;have hll:l<s.heap.objs.size:=Heap.lt_size hol
 have hlf:f<s.heap.objs.size:=Heap.lt_size hf;refine kmk_tree PySem.F.kind_max PySem.F.plain_max PySem.F.entry_max (zet _ _ _) ?_;show wpAny _ X.A.in1 (Builtin.Builtins.bindParams "max" ["key","default"] 0 ⟨[],[(Str.ofString "key",.ref f),(Str.ofString "default",dv)]⟩ >>= _) _ _ s;refine wpAny_bind (wpAny_of_eq (show Builtin.Builtins.bindParams "max" ["key","default"] 0 ⟨[],[(Str.ofString "key",.ref f),(Str.ofString "default",dv)]⟩=pure [some (.ref f),some dv] from rfl) ?_);refine wpAny_bind (wpAny_pure ?_);refine wpAny_bind (wpAny_pyIter_list hls ?_);refine wpAny_bind (wpAny_newList ?_ (zK _));rw[hname];have hS:(s.heap.push { cls:=.type "list_iterator",data:=.fields #[.ref l,.int 0 0] }).objs.size=s.heap.objs.size+1:=size_push' ..;refine wpAny_pure ⟨plainId_quiet PySem.F.plain_max_loop _,?_⟩;generalize ePI:s.heap.push { cls:=.type "list_iterator",data:=.fields #[.ref l,.int 0 0] }=hI at hS ⊢;have hk0:∀b o,s.heap.get? b=some o->(hI.push (seqObj "list" #[] 0)).get? b=some o:=λb o e=>Heap.get?_push_of_some _ (by rw[<- ePI];exact Heap.get?_push_of_some _ e)
 have gI:(hI.push (seqObj "list" #[] 0)).get? s.heap.objs.size=some { cls:=.type "list_iterator",data:=.fields #[.ref l,.int 0 0] }:=Heap.get?_push_of_some _ (by rw[<- ePI];exact Heap.get?_push_size _ rfl)
 have gS:(hI.push (seqObj "list" #[] 0)).get? hI.objs.size=some (seqObj "list" #[] 0):=Heap.get?_push_size _ rfl
 have I0:Inv X pins σ H { s with heap:=hI.push (seqObj "list" #[] 0) }:=I.kept (t':=s.toks) hk0
 have fI:Yo X pins H s.heap.objs.size:=I.fpOk (zC _) (I.hok.fresh (zC _))
 have leS:s.heap.objs.size<=hI.objs.size:=by rw[hS];exact Nat.le_succ _
 have fS:Yo X pins H hI.objs.size:=I.fpOk leS (I.hok.fresh leS)
 have hlI:l≠s.heap.objs.size:=zM hll
 have hIS:s.heap.objs.size≠hI.objs.size:=by rw[hS];exact zM (Nat.lt_succ_self _)
 have hIf:s.heap.objs.size≠f:=yU hlf
 have hSf:hI.objs.size≠f:=yU (zQ hlf leS)
 have hf0:=hk0 f _ hf;obtain⟨its0,rv0,pl0,_⟩:=I0.list hxs;have hlen0:=rv0.length;generalize hI.objs.size=S at gS fS hIS hSf ⊢;generalize s.heap.objs.size=it at gI fI hlI hIS hIf ⊢;have Wk:=Walks.list (prog:=X.prog) (w:=X.w) (A:=X.A.in1) (I.ok.hd hc) it l hlI its0.toArray
 have loop:=zgz (pins:=pins) (σ:=σ) hc (kw:=[(Str.ofString "default",dv)]) hsq turn hQ hlI hIS hIf hSf;refine codeAny_builtin PySem.F.entry_max_loop ?_;rw[Around.under_plainId PySem.F.plain_max_loop _];show wpAny _ X.A.in1 (seqItems? (.ref S) >>= _) _ _ _;refine wpAny_bind (wpAny_seqItems gS rfl ?_);show wpAny _ X.A.in1 (tryCatch (pyNext (.ref it)) _ >>= _) _ _ _;cases hx:xs with
 | nil=>
  have e0:its0.length=0:=by rw[<- hlen0,hx];rfl
  refine wpAny_bind (wpAny_tryCatch (Wk.done _ _ _ ⟨by rw[zH,e0];exact⟨_,gI,rfl,rfl⟩,pl0.isList⟩ λh' tk' hk'=>?_));have I1:Inv X pins σ H { s with heap:=h',toks:=tk' }:=UO (s:={ s with heap:=hI.push (seqObj "list" #[] 0) }) (t':=tk') I0 fI λa o na e=>hk' a o (by simpa using na) e
  refine wpAny_bind (wpAny_rule (wpAny_pure ?_));exact⟨d,H,I1,rd,h0 (by rw[<- lxs,hx];rfl)⟩
 | cons x0 xr=>
  have hv:xs[0]?=some x0:=by rw[hx];rfl
  have l1:1<=N:=by rw[<- lxs,hx];simp
  refine wpAny_bind (wpAny_tryCatch (Wk.item 0 _ _ _ (by rw[zH];omega) ⟨⟨_,gI,rfl,rfl⟩,pl0.isList⟩ λu h' tk' hP hst' hk'=>?_));have hu:its0[0]?=some u:=by simpa using hP
  have hk1:∀a o,a≠it->(hI.push (seqObj "list" #[] 0)).get? a=some o->h'.get? a=some o:=λa o na e=>hk' a o (by simpa using na) e
  have I1:Inv X pins σ H { s with heap:=h',toks:=tk' }:=UO (s:={ s with heap:=hI.push (seqObj "list" #[] 0) }) (t':=tk') I0 fI hk1;obtain⟨u2,hu2,rvu⟩:=rv0.get hv;rw[hu] at hu2;cases hu2;have hS1:=hk1 S _ hIS.symm gS
  have hf1:=hk1 f _ hIf.symm hf0;obtain⟨oI,hoI,hoc,hod⟩:=id hst'.1;show wpAny _ X.A.in1 (tryCatch (holding [u] (call (.ref f) [u])) _ >>= _) _ _ _;refine wpAny_bind (wpAny_tryCatch (wpAny_holding (wpAny_call (codeAny_mono (turn 0 x0 u H _ (mxs 0 x0 hv) rvu w0 I1 hf1) λr s2 h2=>?_))));cases r with
  | error e=>exact h2.elim
  | ok fl=>
   cases fl with
   | next=>exact h2.elim
   | brk=>exact h2.elim
   | cont=>exact h2.elim
   | ret ku=>
    obtain⟨y,H2,os2,bare2,un2,hok2,ry,⟨k2,rfl⟩,w2,up2⟩:=(show CE X.stack X.prog X.w H _ _ ku s2 from h2);obtain⟨t2,rfl⟩:=ry;have I2:Inv X pins σ H2 s2:=I1.call' (ch:=[]) os2 un2 hok2 bare2 (λb hb=>by simp at hb)
    have kp:∀b o,Yo X pins H b->h'.get? b=some o->s2.heap.get? b=some o/\Yo X pins H2 b:=λb o fb e=>⟨un2.keep b o e fb.1 (B7 I1 fb) (by simp),un2.free b o e fb.1 (by simp),fb.2⟩
    obtain⟨hI2,fI2⟩:=kp it oI fI hoI;obtain⟨hS2,fS2⟩:=kp S _ fS hS1;obtain⟨hf2,ff2⟩:=kp f _ ff hf1;have s1:=Heap.SameBut.update s2.heap S (Obj.mapSeq λ_=>#[u,.int k2 t2]);obtain⟨c2,hc2⟩:∃c2,(s2.heap.update S (Obj.mapSeq λ_=>#[u,.int k2 t2])).get? S=some (seqObj "list" #[u,.int k2 t2] c2):=⟨_,get?_update_seq hS2 λ_=>#[u,.int k2 t2]⟩;show wpAny _ X.A.in1 (updateSeq S (λ_=>#[u,.int k2 t2]) >>= _) _ _ _;refine wpAny_bind ?_;refine wpAny_updateSeq hS2 rfl ?_;rw[hname];have I3:Inv X pins σ H2 { s2 with heap:=s2.heap.update S (Obj.mapSeq λ_=>#[u,.int k2 t2]) }:=UO (t':=s2.toks) I2 fS2 λa o na e=>(s1.2 a na).trans e
    exact wpAny_pure ⟨plainId_quiet PySem.F.plain_max_loop _,loop _ 1 H2 _ u k2 t2 c2 rfl l1 I3 w2 fI2 fS2 ff2 ⟨oI,(s1.2 it hIS).trans hI2,hoc,hod⟩ hc2 ((s1.2 f hSf.symm).trans hf2) ⟨0,x0,up2 0 x0 (mxs 0 x0 hv),rvu⟩⟩
section
variable {X:Cx}{Z:Zx}{pins:LA}{σ:St}{H H2:Hp}{s:Shared}
theorem zbr {r:List Addr}{S:Sto}{n:Nat}{P:Addr}{lp:Pos}{q:Str}{ps ps':Array Value}(kn:∀o,X.K.lookup P≠some o)(aZ:Rel X.K Z r S H)(hS:S[n]?=some (.cod P lp q))(hP:H P=some (.tbl ps))(hP2:H2 P=some (.tbl ps'))(tab:Tab lp q H2 ps')(hH:∀b o,H b=some o->b≠P->H2 b=some o):
  Rel X.K Z r S H2/\Ext r r H H2:=by
 have x:Ext r r H H2:=⟨λ_ _ e=>e,λa xs e=>hH a _ e λz=>(by rw[z,hP] at e;cases e),λa φ e=>hH a _ e λz=>(by rw[z,hP] at e;cases e)⟩;obtain⟨a0,ea0,e0,_⟩:=aZ.at hS;subst e0;refine⟨⟨⟨aZ.b.len,λm a o h1 h2=>?_,aZ.b.nd⟩,aZ.xw.ext x⟩,x⟩;have q0:=aZ.b.ob m a o h1 h2;by_cases z:a=a0
 ·subst z;by_cases ho:VD o=true
  ·have e:m=n:=aZ.b.nd m n a o _ h1 ea0 h2 hS ho rfl;subst e;rw[hS] at h2;cases h2;exact⟨rfl,ps',hP2,tab⟩
  ·cases o with
   | frz ds=>
    obtain⟨xs,y,_⟩:=q0;rcases y with ⟨o,y⟩|⟨o,_,_,y,_⟩
    ·rw[hP] at y;cases y
    ·exact absurd y (kn o)
   | tpl ws=>
    obtain⟨o,_,_,y,_⟩:=q0;exact absurd y (kn o)
   | lst _=>exact absurd rfl ho
   | ins _ _=>exact absurd rfl ho
   | dct _=>exact absurd rfl ho
   | dck _=>exact absurd rfl ho
   | cod _ _ _=>exact absurd rfl ho
 ·exact q0.keep x λu e=>hH a u e z
def Qs (caps:List Nat)(P:Addr)(lp:Pos)(q:Str)(te:TDE)(dl:Ev)(Q:DK)(d:D)(S1:Sto):Prop:=match d with
 | .ref n=>(∃t:Nat,S1[t]?=some (Ob.cod P lp q))/\match lAt S1 n with
  | some o=>(Zv o=[]->Q .non S1)/\(∀(i:Nat)(v:D)(S2:Sto),(Zv o)[i]?=some v->Pre S1 S2->te (some v::Yc caps dl) S2 λy S3=>(∃k:Int,y=.int k)/\Pre S1 S3)/\∀(i:Nat)(v:D)(S2:Sto),(Zv o)[i]?=some v->Pre S1 S2->Q v S2
  | none=>False
 | _=>False
@[irreducible] def MZ (caps:List Nat)(P:Addr)(lp:Pos)(q:Str)(tl te:TDE):TDE:=λdl S Q=>tl dl S (Qs caps P lp q te dl Q)
def BM (mg:Str->Option Value)(base:Heap):Prop:=∃bm o,mg "__builtins__"=some (.ref bm)/\bm≠builtinsNs/\bm≠mainGlobals/\base.get? bm=some o/\o.cls=.type "module"/\o.dict=some builtinsNs/\o.data=.plain
theorem zgS {a body:Expr}{tl te:TDE}{x:Str}{N:List Str}{caps:List Nat}{params:Arguments}{sc ar:Scope}{c P:Addr}{q:Str}{lp p pos kp dp np:Pos}{j:Nat}(har:X.env.scope=ar)(hc:X.calm=true)(cs:Nt sc ar [x] N)(hN:caps.map (λi=>X.N[i]?)=N.map some)
  (hg:Gl X "max")(hm:X.mg "max"=none)(hv:bootBuiltins "max"=some (.builtin "max"))(hr:X.A.in1.depth<recursionLimit)(hcode:X.env.code=.ref c)(C:CodeHd X.base c P)(hb:BM X.mg X.base)(kn:∀o,X.K.lookup P≠some o)(hq:X.env.qual++"<lambda>"=q)
  (ha:PD X Z a tl)(he:∀f cd cl L s0 H0,PD (Cx.lam X X.A.in1 sc ([x]++N) q f cd cl L s0 H0) Z0 body te)
  (hbind:∀cl pm cd ctv u,bindArgs (kla_fn "<lambda>" q params body sc cl pm cd ctv) ⟨[u],[]⟩=pure ([x].zip [u]):=by intros;rfl)(hdef:defaultsOf params X.env=([],[]):=by rfl)(hs:starEach [a] X.env=[(false,eval a X.env)]:=by rfl):
  PD X Z (.Call (.Name "max" p) [a] [⟨some "key",.Lambda params body sc lp,kp⟩,⟨some "default",.Constant .none j np,dp⟩] pos) (MZ caps P lp q tl te):=by
 subst har;subst hq;intro pins s σ H Qv I h;obtain⟨r,dl,S,Q,rs,aZ,h,ret⟩:=h;unfold MZ at h;refine wpAny_Call_Name_kw (VN I hg hm hv ?_ (by decide) (by decide));have hda:PDA X Z [a] (J2 tl Kc):=Za ha Zd hs;refine PyProof.Rows.callWith_kw (thn (hda pos pins s σ H (λvs H1=>∃(r1:List Addr)(S1:Sto)(d:D)(v:V),vs=[v]/\Ext r r1 H H1/\Rel X.K Z r1 S1 H1/\Rp r1 H1 d v/\Qs caps P lp (X.env.qual++"<lambda>") te dl Q d S1) I ?_) λus s1 ⟨vs,H1,I1,rvs,r1,S1,d,v,evs,x1,aB,pd,hk⟩=>?_) (by show backTo pos (starEach [a] X.env)=_;rw[hs];rfl) (by rw[hs];rfl)
 ·refine⟨r,dl,S,λds S1=>match ds with|[d]=>Qs caps P lp (X.env.qual++"<lambda>") te dl Q d S1|_=>False,rs,aZ,h,λvs H1 r1 ds S1 e1 aB p1 q1=>?_⟩;dsimp only at q1;split at q1
  ·rename_i d;obtain⟨v,vs',rfl,p2,p3⟩:=p1.uncons;have z:=p3.unnil;subst z;exact⟨r1,S1,d,v,rfl,e1,aB,p2,q1⟩
  ·exact q1.elim
 unfold Qs at hk;split at hk
 rotate_left
 ·exact hk.elim
 rename_i n;cases pd with
 | @ref _ a0 ha0=>
  obtain⟨⟨t,ht⟩,hk⟩:=hk;split at hk
  rotate_left
  ·exact hk.elim
  rename_i o ho;obtain⟨q0,q1,q2⟩:=hk;subst evs;obtain⟨u0,rfl,ru0⟩:=Vq rvs;cases ru0;obtain⟨cl,k1,k2,k3⟩:=Af (sc:=sc) (env:=X.env) λy hy hf=>I.ok.has y.1 (.inl (cs.out y hy hf))
  obtain⟨aP,eaP,eP,ps,hP,tab⟩:=aB.at ht;subst eP;refine PyProof.Rows.kws_cons (kla_eval hdef (zb2 I1 k1 hcode C hb hP tab λf cd ctv H2 ps' s2 I2 hP2 tab2 hH hrec hc' hf ff=>?_));obtain⟨aC,x2⟩:=zbr kn aB ht hP hP2 tab2 hH;refine PyProof.Rows.kws_cons (Constant_none (PyProof.Rows.kws_nil ?_));obtain⟨c',rfl,hc'⟩:=hc';obtain⟨hSn,hkL⟩:=Xf ho;have hob:=aC.b.ob n a0 o ha0 hSn;obtain⟨xs0,sq0,rp0⟩:=hob.list hkL;have x12:Ext r r1 H H2:=x1.trans x2;refine zcG hc (N:=(Zv o).length) (M:=λi v H'=>∃d,(Zv o)[i]?=some d/\Rp r1 H' d v) (W:=λ_ H'=>∃r2 S2,Ext r1 r2 H2 H'/\Z3 X.K r2 S2 H'/\Pre S1 S2) (Q:=Qv) (d:=.non) I2 ⟨r1,S1,Ext.refl,aC.b,Pre.refl⟩ ?_ ?_ ?_ ff hf rfl ?_
  ·rintro i H' ⟨r2,S2,e2,rb,pr⟩;obtain⟨xs,sq,rp⟩:=(rb.ob n a0 o (e2.adr _ _ ha0) (pr _ _ hSn)).list hkL;refine⟨xs,sq,rp.1.symm,λj v hv=>?_⟩;have lj:j<(Zv o).length:=by
    have:=(zA.mp hv).1;rw[rp.1];exact this
   have hd:=zD lj;obtain⟨v0,_,p0⟩:=rp0.get hd;exact⟨_,hd,(rp.2 j _ v hd hv).low (JS e2) p0.sco⟩
  ·rintro i v u H' s' ⟨d,hd,pv⟩ ru ⟨r2,S2,e2,rb,pr⟩ I' hf';have hcr:s'.heap.CodeRec (.ref c') (X.env.qual++"<lambda>"):=(I'.hok c' _ (e2.xc _ _ hc')).1
   have eL:Ext r1 r2 H' H':=⟨e2.adr,λ_ _ z=>z,λ_ _ z=>z⟩;refine zcu (vs:=[v]) (us:=[u]) (te:=up X.K Z0 te) I' cs (XB hN).1 (XB hN).2 k2 k3 (I'.ok.hd hc) I'.ok.frames (.cons ru .nil) rfl hr hf' hcr (hbind _ _ _ _ _) (he _ _ _ _ _ _) ?_;refine⟨r2,some d::Yc caps dl,S2,_,Jc ((rs.ext x12).ext e2) (pv.ext eL),⟨rb,λ_ _ _ _ _ _ _ _ _ z=>z.elim⟩,q1 i d S2 hd pr,λy H3 r3 dy S3 x3 aE p3 ⟨⟨k,ek⟩,pr3⟩=>?_⟩;subst ek;cases p3;refine⟨⟨k,rfl⟩,⟨r3,S3,e2.trans x3,aE.b,pr3⟩,λk v ⟨d,hd,pv⟩=>⟨d,hd,pv.ext ⟨λ_ _ z=>z,x3.tup,x3.xc⟩⟩⟩
  ·rintro H' ⟨r2,S2,e2,rb,pr⟩ i v ⟨d,hd,pv⟩;have eL:Ext r1 r2 H' H':=⟨e2.adr,λ_ _ z=>z,λ_ _ z=>z⟩;exact ret v H' r2 d S2 (x12.trans e2) ⟨rb,(aZ.xw.ext x12).ext e2⟩ (pv.ext eL) (q2 i d S2 hd pr)
  ·intro e;exact ret .non H2 r1 .non S1 x12 aC .non (q0 (List.length_eq_zero_iff.mp e))
end
def F5 (P:Addr)(ps:Array Value)(H:Hp):Prop:=H P=some (.tbl ps)/\∀b,b≠P->H b=none\/∃o xs,H b=some (.frz o (.lst xs))
theorem zeM {Pg:Program}{w:World}{K:Fg}{mg mb:Str->Option Value}{CX:CXT}{k:Nat}{fa a P:Addr}{ps:Array Value}{fd:FuncData}{x:Str}{sp:Sp}{s₁:Shared}{vs:List Value}{ns:List Int}
  (KX:K.In s₁.heap)(hns:s₁.heap.Ns mainGlobals mg)(hb:s₁.heap.Ns builtinsNs mb)(hbb:∀x:Str,x≠"__name__"->mb x=bootBuiltins x)(hlim:s₁.heap.NoLimit)(hg:s₁.gens=#[])
  (ha:s₁.heap.get? a=some { cls:=.type "list",data:=.seq vs.toArray })(hi:IntsAre vs ns)(hl:ns.length<=sizeLine)(hr:ZU k callerA)(hP:s₁.heap.get? P=some { cls:=.none,data:=.fields ps })(ht:isCodeTable s₁.heap P)(kP:K.lookup P=none)(hbm:BM mg s₁.heap)
  (F:∀base:Heap,K.In base->base.Ns mainGlobals mg->BM mg base->Yk Pg w K mg base CX k fa fd [x] sp)(hbind:∀(s:Shared)(u:Value),BindsTo s fd ⟨[u],[]⟩ [(x,u)])
  (hsp:∀H:Hp,F5 P ps H->a≠P->SqL K H a (ns.map V.int)->sp [.ref a] H (λv _=>v=.bl true) λ_ _ _=>False)
  (hCX:∀H e s',CX [] H s₁ (λ_ _ _=>False) e s'->False):
  codeAny (model Pg w) callerA (.call (.ref fa) ⟨[.ref a],[]⟩) (λr s'=>r=.ok (.ret (.bool true))/\OldK s₁.heap s'.heap/\s'.os=s₁.os/\AllBare s'.gens) s₁:=by
 have rv:=O8 hi
 have lenV:=hi.length
 have aP:a≠P:=λe=>by rw[e,hP] at ha;cases ha
 have core:∀H:Hp,F5 P ps H->SqL K H a (ns.map V.int)->HOk Pg w H s₁.heap->(∀b,H b≠none->b=a\/b=P)->(H a≠none->K.lookup a=none)->
   codeAny (model Pg w) callerA (.call (.ref fa) ⟨[.ref a],[]⟩) (λr s'=>r=.ok (.ret (.bool true))/\OldK s₁.heap s'.heap/\s'.os=s₁.os/\AllBare s'.gens) s₁:=by
  intro H hO hS hok hA hK;have base_of:∀ {b:Addr} {o:Obj},s₁.heap.get? b=some o->H b=none->(WQ s₁.heap H).get? b=some o:=λe n=>A6 e n
  have noA:∀ {b:Addr} {o:Obj},s₁.heap.get? b=some o->(∀aX n,o.data≠.seq aX n)->(∀f,o.data≠.fields f)->H b=none:=λ{b o} e d1 d2=>by
   cases q:H b with
   | none=>rfl
   | some u=>
    rcases hA b (by rw[q];simp) with e'|e'
    ·subst e';rw[ha] at e;cases e
     exact absurd rfl (d1 _ _)
    ·subst e';rw[hP] at e;cases e
     exact absurd rfl (d2 _)
  have nsK:∀ {b:Addr} {m:Str->Option Value},s₁.heap.Ns b m->(WQ s₁.heap H).Ns b m:=λ{b m} ⟨o,es,ep,e,d,r⟩=>⟨o,es,ep,base_of e (noA e (λ_ _ z=>by rw[d] at z;cases z) (λ_ z=>by rw[d] at z;cases z)),d,r⟩
  have hKb:K.In (WQ s₁.heap H):=λb o e=>base_of (KX b o e) (by
   cases q:H b with
   | none=>rfl
   | some u=>
    rcases hA b (by rw[q];simp) with e'|e'
    ·subst e';rw[hK (by rw[q];simp)] at e;cases e
    ·subst e';rw[kP] at e;cases e)
  have hM:Mod K mg (WQ s₁.heap H):=⟨hKb,nsK hns,⟨mb,nsK hb,hbb⟩,let ⟨mc,h1,h2⟩:=hlim;⟨mc,nsK h1,h2⟩⟩
  have hB:BM mg (WQ s₁.heap H):=by
   obtain⟨bm,o,b1,b2,b3,b4,b5,b6,b7⟩:=hbm;exact⟨bm,o,b1,b2,b3,base_of b4 (noA b4 (λ_ _ z=>by rw[b7] at z;cases z) (λ_ z=>by rw[b7] at z;cases z)),b5,b6,b7⟩
  have e0:Ul Pg w K mg (WQ s₁.heap H) callerA [] s₁ H:=⟨rfl,hM,λb o e=>zdS e,Nat.le_of_eq (zhF _ _),trivial,λb hb=>absurd (show b∈([]:List Addr) from hb) (by simp),hok,.of_eq hg⟩;refine codeAny_mono ((F _ hKb (nsK hns) hB).run callerA [] s₁ H ⟨[.ref a],[]⟩ [.ref a] [.ref a] _ _ hr e0 (hbind s₁ (.ref a)) (.cons rfl .nil) (hsp H hO aP hS)) λr s' h=>?_
  cases r with
  | error e=>exact(hCX H e s' h).elim
  | ok fl=>
   cases fl with
   | next=>exact False.elim h
   | brk=>exact False.elim h
   | cont=>exact False.elim h
   | ret u=>
    obtain⟨v,H',os,bare,un,hok',r',q⟩:=h;have q':v=.bl true:=q;subst q';obtain rfl:u=Value.bool true:=r';refine⟨rfl,⟨λb o e=>?_,λb o e=>un.there b o e (by simp)⟩,os,bare⟩;by_cases z:b=P
    ·subst z;obtain⟨more,em⟩:=un.tbls b ps hO.1;have e2:=hok' b _ em;rw[hP] at e;cases e;exact .inr (.inl ⟨ht,rfl,ps,more,rfl,e2⟩)
    ·refine .inl ?_;cases q:H b with
     | none=>exact un.keep b o e q (by intro z;exact absurd (show b∈([]:List Addr) from z) (by simp)) (by simp)
     | some u=>
      rcases hO.2 b z with z|⟨ob,xs,z⟩
      ·rw[q] at z;cases z
      ·have z2:=un.frzs b ob _ z;obtain⟨e1,_⟩:=hok b _ z;obtain⟨e2,_⟩:=hok' b _ z2;rw[e] at e1;cases e1
       exact e2
 cases hk:K.lookup a with
 | some o=>
  have e:=KX a o hk;rw[ha] at e;cases e;refine core (λb=>if b=P then some (.tbl ps) else none) ⟨if_pos rfl,λb nb=>.inl (if_neg nb)⟩ (.inr ⟨_,vs.toArray,_,hk,rfl,rfl,rfl,by rw[zH,lenV];exact hl,by simpa using rv⟩) (λb u z=>?_) (λb z=>?_) λz=>absurd (if_neg aP) z
  ·by_cases hb:b=P
   ·have z':=(if_pos hb).symm.trans z;cases z';subst hb;exact hP
   ·have z':=(if_neg hb).symm.trans z;cases z'
  ·by_cases hb:b=P
   ·exact .inr hb
   ·exact absurd (if_neg hb) z
 | none=>
  refine core (λb=>if b=P then some (.tbl ps) else if b=a then some (.frz { cls:=.type "list",data:=.seq vs.toArray } (.lst (ns.map V.int))) else none) ⟨if_pos rfl,λb nb=>?_⟩ (.inl (.inr ⟨{ cls:=.type "list",data:=.seq vs.toArray },(if_neg aP).trans (if_pos rfl)⟩)) (λb u z=>?_) (λb z=>?_) λ_=>hk
  ·by_cases hb:b=a
   ·exact .inr ⟨_,_,(if_neg nb).trans (if_pos hb)⟩
   ·exact .inl ((if_neg nb).trans (if_neg hb))
  ·by_cases hp:b=P
   ·have z':=(if_pos hp).symm.trans z;cases z';subst hp;exact hP
   ·by_cases hb:b=a
    ·have z':=((if_neg hp).trans (if_pos hb)).symm.trans z;cases z';subst hb;exact⟨ha,by rw[zB];exact hl,vs,_,rv,ha⟩
    ·have z':=((if_neg hp).trans (if_neg hb)).symm.trans z;cases z'
  ·by_cases hp:b=P
   ·exact .inr hp
   ·by_cases hb:b=a
    ·exact .inl hb
    ·exact absurd ((if_neg hp).trans (if_neg hb)) z
def OP (P:Addr)(lp:Pos)(q:Str):Sd:=λds S Q _=>∃ns:List Int,ds=[.ref 0]/\S=[.frz (ns.map D.int),.cod P lp q]/\ns.length<=63/\∀S',Q (.bl true) S'
theorem zfC:∀ds S Q ex,OP P lp q ds S Q ex->ds.length=1:=λds S Q ex h=>by
 obtain⟨ns,rfl,_⟩:=h;rfl
theorem zcV {K:Fg}{H:Hp}{a P:Addr}{ps:Array Value}{lp:Pos}{q:Str}{ns:List Int}(hl:ns.length<=63)(hO:F5 P ps H)(aP:a≠P)(tr:TriplesOk ps.toList)(hn:codeAmong lp ps.toList=none)(hS:SqL K H a (ns.map V.int)):upF K (OP P lp q) [.ref a] H (λv _=>v=.bl true) λ_ _ _=>False:=by
 have sf:SqF K H a (ns.map V.int):=by
  rcases hS with (h|⟨o,h⟩)|h
  ·rcases hO.2 a aP with z|⟨o,ys,z⟩
   ·rw[h] at z;cases z
   ·rw[h] at z;cases z
  ·exact .inl ⟨o,h⟩
  ·exact .inr h
 refine⟨λ_ _=>False,[a,P],[.frz (ns.map D.int),.cod P lp q],[.ref 0],λd _=>d=.bl true,⟨⟨rfl,λn b o h1 h2=>?_,λn m b xs ys h1 h2 h3 h4 o1 o2=>?_⟩,λ_ _ _ _ _ _ _ _ _ z=>z.elim⟩,Rps.cons (.ref rfl) Rps.nil,⟨ns,rfl,rfl,hl,λ_=>rfl⟩,λv H' r' d S' e aZ p q=>?_⟩
 ·match n,h1,h2 with
  | 0,h1,h2=>
   cases h1;cases h2
   exact⟨_,sf,zeG ns⟩
  | 1,h1,h2=>
   cases h1;cases h2
   exact⟨rfl,ps,hO.1,tr,.inl hn⟩
  | n+2,h1,h2=>cases h1
 ·match n,m,h1,h2,h3,h4 with
  | 0,m,h1,h2,h3,h4=>cases h3;cases o1
  | 1,0,h1,h2,h3,h4=>cases h4;cases o2
  | 1,1,h1,h2,h3,h4=>rfl
  | 1,m+2,h1,h2,h3,h4=>cases h2
  | n+2,m,h1,h2,h3,h4=>cases h1
 ·subst q;cases p;rfl
theorem za8 {l:W.OpenLaw}{q:Program}{aG:List Str}{XP:(Str->Option Value)->Heap->Prop}{YP:World->Heap->Prop}{d:DefRec}{K:Params->Fg}{x:Str}{P c:Addr}{ps:Array Value}{lp:Pos}{lq:Str}(k:Nat)(hn:l.most=some 63)(hdf:d.params.defaults=[])(hr:ZU k callerA)
  (hY:∀(w:World)(h:Heap),YP w h->(K w.params).In h/\h.get? P=some { cls:=.none,data:=.fields ps })(hC:∀(p:Params)(h:Heap),(K p).In h->CodeHd h c P)(kP:∀p:Params,(K p).lookup P=none)(tr:TriplesOk ps.toList)(hcn:codeAmong lp ps.toList=none)
  (F:∀(w:World)(mg:Str->Option Value)(fa:Addr)(h:Heap),(K w.params).In h->h.Ns mainGlobals mg->mg d.name=some (.ref fa)->
   ∃fd:FuncData,(∀(s:Shared)(u:Value),BindsTo s fd ⟨[u],[]⟩ [(x,u)])/\∀base:Heap,(K w.params).In base->base.Ns mainGlobals mg->BM mg base->Yk l.prog w (K w.params) mg base (CXE l.prog w) k fa fd [x] (upF (K w.params) (OP P lp lq))):
  W.WalkO q aG XP YP l.row.toRowW d [] (λf vs=>PySem.call f vs):=by
 refine Att.attach_call hn hdf λw s₀ s₁ mg mb fa o pm cd doc a vs ns G Y ho hd hcd hmg hobj hints aM hg=>?_
 obtain⟨KX,hP⟩:=hY w _ Y;obtain⟨fd,hb,hF⟩:=F w mg fa _ KX G.T.g hmg;have hbm:BM mg s₁.heap:=by
  obtain⟨bm,ob,b1,b2,b3,b4,b5,b6⟩:=G.T.bmain;refine⟨bm,ob,b1,b2,λe=>?_,b3,b4,b5,b6⟩;obtain⟨o,es,ep,e2,hd,_⟩:=G.T.g;rw[e,e2] at b3;cases b3;rw[hd] at b6;cases b6
 exact zeM KX G.T.g G.T.b G.T.builtins G.T.nolimit hg hobj hints (yD aM (by decide)) hr hP ((hC _ _ KX).tab hP).isCodeTable (kP _) hbm hF hb (λH hO aP hS=>zcV aM hO aP tr hcn hS) λ_ _ _ ⟨_,_,_,_,_,_,_,_,_,_,_,_,z⟩=>z
theorem zhE {prog:Program}{w:World}{A:Around}{R:Result->Shared->Prop}(hh:A.handled=none){l it S:Addr}{zs:List Int}{aX:List Value}(hi:IntsAre aX zs)(hlI:l≠it)(hlS:l≠S)(hIS:it≠S){kw:List (Str×Value)}{h₀:Heap}{g:Array GenState}{dr:Drawn}{os:OsState}
  (hR:∀(b:Int)(t:Tok)(h':Heap)(tk':Nat),b∈zs->(∀y∈zs,y<=b)->(∀a o,a≠it->a≠S->h₀.get? a=some o->h'.get? a=some o)->R (.ok (.ret (.int b t))) ⟨h',g,dr,tk',os⟩):
  ∀(n j:Nat)(h:Heap)(tk:Nat)(b:Int)(t:Tok)(c:Nat),zs.length-j=n->j<=zs.length->h.IsList l aX.toArray->(∀a o,a≠it->a≠S->h₀.get? a=some o->h.get? a=some o)->h.IsListIter it l j->h.get? S=some (seqObj "list" #[.int b t,.int b t] c)->b∈zs->(∀y∈zs.take j,y<=b)->
   codeAny (model prog w) A (.builtin "max.loop" ⟨[.ref it,.none,.ref S],kw⟩) R ⟨h,g,dr,tk,os⟩:=by
 have hname:(toString "max"++toString ".loop":String)="max.loop":=by decide
 have Wk:=Walks.list (prog:=prog) (w:=w) (A:=A.in1) hh it l hlI aX.toArray
 have aM:=hi.length;intro n
 induction n with
 | zero=>
  intro j h tk b t c hn hj hl kp hit hS hb hbest;have ej:j=aX.length:=by omega
  refine codeAny_builtin PySem.F.entry_max_loop ?_;rw[Around.under_plainId PySem.F.plain_max_loop _];show wpAny _ A.in1 (seqItems? (.ref S) >>= _) _ _ _;refine wpAny_bind (wpAny_seqItems hS rfl ?_);show wpAny _ A.in1 (tryCatch (pyNext (.ref it)) _ >>= _) _ _ _;refine wpAny_bind (wpAny_tryCatch (Wk.done _ _ _ ⟨by rw[zH,<- ej];exact hit,hl⟩ λh' tk' hk'=>?_));have hS':=hk' S _ (by simpa using hIS.symm) hS
  show wpAny _ A.in1 (updateSeq S (λ_=>#[]) >>= _) _ _ _;refine wpAny_bind ?_;refine wpAny_updateSeq hS' rfl (wpAny_bind (wpAny_letGo (wpAny_pure ?_)));have s1:=Heap.SameBut.update h' S (Obj.mapSeq λ_=>(#[]:Array Value));refine hR b t _ _ hb (λy hy=>hbest y (by rw[yR (by omega)];exact hy)) λa o n1 n2 e=>(s1.2 a n2).trans (hk' a o (by simpa using n1) (kp a o n1 n2 e))
 | succ n ih=>
  intro j h tk b t c hn hj hl kp hit hS hb hbest;refine codeAny_builtin PySem.F.entry_max_loop ?_;rw[Around.under_plainId PySem.F.plain_max_loop _];show wpAny _ A.in1 (seqItems? (.ref S) >>= _) _ _ _;refine wpAny_bind (wpAny_seqItems hS rfl ?_);show wpAny _ A.in1 (tryCatch (pyNext (.ref it)) _ >>= _) _ _ _;refine wpAny_bind (wpAny_tryCatch (Wk.item j _ _ _ (by rw[zH];omega) ⟨hit,hl⟩ λu h' tk' hP hst' hk'=>?_));have hu:aX[j]?=some u:=by simpa using hP
  obtain⟨z,hz⟩:∃z,zs[j]?=some z:=⟨_,zD (by omega)⟩;obtain⟨t2,ht2⟩:=hi.get j z hz;rw[hu] at ht2;cases ht2;have hk1:∀a o,a≠it->h.get? a=some o->h'.get? a=some o:=λa o na e=>hk' a o (by simpa using na) e
  have hS1:=hk1 S _ hIS.symm hS
  have tk1:zs.take (j+1)=zs.take j++[z]:=by rw[List.take_add_one,hz];rfl
  show wpAny _ A.in1 (tryCatch (holding [.int z t2,.int z t2] (richCompare .Gt (.int z t2) (.int b t) >>= _)) _ >>= _) _ _ _;refine wpAny_bind (wpAny_tryCatch (wpAny_holding (wpAny_bind (CmpOf.ints_gt (prog:=prog) (w:=w) (A:=A.in1) (P:=λi v=>∃t,v=.int (([z,b]:List Int).getD i 0) t) (λi=>([z,b]:List Int).getD i 0) (λi v h=>h) 0 1 _ _ _ _ _ ⟨t2,rfl⟩ ⟨t,rfl⟩ ?_))));refine wpAny_bind (wpAny_holding (wpAny_truthy_bool ?_));refine wpAny_bind (wpAny_letGo (wpAny_pure ?_));by_cases hb':([z,b]:List Int).getD 0 0 > ([z,b]:List Int).getD 1 0
  ·simp only[hb',decide_true,if_true];have hb2:z > b:=hb'
   have s1:=Heap.SameBut.update h' S (Obj.mapSeq λ_=>#[.int z t2,.int z t2]);obtain⟨c2,hc2⟩:∃c2,(h'.update S (Obj.mapSeq λ_=>#[.int z t2,.int z t2])).get? S=some (seqObj "list" #[.int z t2,.int z t2] c2):=⟨_,get?_update_seq hS1 λ_=>#[.int z t2,.int z t2]⟩;refine wpAny_bind ?_;refine wpAny_updateSeq hS1 rfl (wpAny_bind (wpAny_letGo ?_));rw[hname];obtain⟨oI,hoI,hoc,hod⟩:=id hst'.1;obtain⟨ol,hol,r⟩:=id hst'.2;refine wpAny_pure ⟨plainId_quiet PySem.F.plain_max_loop _,ih (j+1) _ _ z t2 c2 (by omega) (by omega) ⟨ol,(s1.2 l hlS).trans hol,r⟩ (λa o n1 n2 e=>(s1.2 a n2).trans (hk1 a o n1 (kp a o n1 n2 e))) ⟨oI,(s1.2 it hIS).trans hoI,hoc,hod⟩ hc2 (zF hz) λy hy=>?_⟩;rw[tk1] at hy;rcases zZ.1 hy with hy|hy
   ·have:=hbest y hy;omega
   ·rw[zS.mp hy];exact yA _
  ·simp only[hb',decide_false,Bool.false_eq_true,if_false];have hb2:¬ z > b:=hb';refine wpAny_bind (wpAny_letGo ?_);rw[hname];refine wpAny_pure ⟨plainId_quiet PySem.F.plain_max_loop _,ih (j+1) _ _ b t c (by omega) (by omega) hst'.2 (λa o n1 n2 e=>hk1 a o n1 (kp a o n1 n2 e)) hst'.1 hS1 hb λy hy=>?_⟩;rw[tk1] at hy;rcases zZ.1 hy with hy|hy
   ·exact hbest y hy
   ·rw[zS.mp hy];omega
theorem zec (a d:Value):argsOk "max" ⟨[a],[(Str.ofString "default",d)]⟩:=by unfold argsOk;kernel_rfl
theorem zex (hc:X.calm=true){l:Addr}{zs:List Int}{Q:VK}{d:V}{dv:Value}(I:Inv X pins σ H s)(hsq:SqL X.K H l (zs.map V.int))(rd:ZK d dv)(h0:zs=[]->Q d H)(hQ:∀m,m∈zs->(∀y∈zs,y<=m)->Q (.int m) H):
  wpAny (model X.prog X.w) X.A (call (.builtin "max") [.ref l] [(Str.ofString "default",dv)]) (EP X pins σ Q) X.xe s:=by
 have hname:(toString "max"++toString ".loop":String)="max.loop":=by decide
 obtain⟨aX,rv,pl,hz⟩:=I.list hsq;have hi:=zdv rv
 have aM:=hi.length
 have hls:=pl.isList;obtain⟨ol,hol,hrl⟩:=id hls;have hll:l<s.heap.objs.size:=Heap.lt_size hol;refine kmk_tree PySem.F.kind_max PySem.F.plain_max PySem.F.entry_max (zec _ _) ?_;show wpAny _ X.A.in1 (Builtin.Builtins.bindParams "max" ["key","default"] 0 ⟨[],[(Str.ofString "default",dv)]⟩ >>= _) _ _ s;refine wpAny_bind (wpAny_of_eq (show Builtin.Builtins.bindParams "max" ["key","default"] 0 ⟨[],[(Str.ofString "default",dv)]⟩=pure [none,some dv] from rfl) ?_);refine wpAny_bind (wpAny_pure ?_);refine wpAny_bind (wpAny_pyIter_list hls ?_);refine wpAny_bind (wpAny_newList ?_ (zK _));rw[hname];have hS:(s.heap.push { cls:=.type "list_iterator",data:=.fields #[.ref l,.int 0 0] }).objs.size=s.heap.objs.size+1:=size_push' ..;refine wpAny_pure ⟨plainId_quiet PySem.F.plain_max_loop _,?_⟩;generalize ePI:s.heap.push { cls:=.type "list_iterator",data:=.fields #[.ref l,.int 0 0] }=hI at hS ⊢;have hk0:∀b o,s.heap.get? b=some o->(hI.push (seqObj "list" #[] 0)).get? b=some o:=λb o e=>Heap.get?_push_of_some _ (by rw[<- ePI];exact Heap.get?_push_of_some _ e)
 have gI:(hI.push (seqObj "list" #[] 0)).get? s.heap.objs.size=some { cls:=.type "list_iterator",data:=.fields #[.ref l,.int 0 0] }:=Heap.get?_push_of_some _ (by rw[<- ePI];exact Heap.get?_push_size _ rfl)
 have gS:(hI.push (seqObj "list" #[] 0)).get? hI.objs.size=some (seqObj "list" #[] 0):=Heap.get?_push_size _ rfl
 have leS:s.heap.objs.size<=hI.objs.size:=by rw[hS];exact Nat.le_succ _
 have hlI:l≠s.heap.objs.size:=zM hll
 have hlS:l≠hI.objs.size:=zM (zQ hll leS)
 have hIS:s.heap.objs.size≠hI.objs.size:=by rw[hS];exact zM (Nat.lt_succ_self _)
 have old:∀a o,s.heap.get? a=some o->a≠s.heap.objs.size/\a≠hI.objs.size:=λa o e=>⟨zM (Heap.lt_size e),zM (zQ (Heap.lt_size e) leS)⟩
 have aY:∀(h':Heap)(tk':Nat),(∀a o,a≠s.heap.objs.size->a≠hI.objs.size->(hI.push (seqObj "list" #[] 0)).get? a=some o->h'.get? a=some o)->Inv X pins σ H { s with heap:=h',toks:=tk' }:=λh' tk' k=>I.kept (t':=tk') λb u e=>k b u (old b u e).1 (old b u e).2 (hk0 b u e)
 have ls0:(hI.push (seqObj "list" #[] 0)).IsList l aX.toArray:=⟨ol,hk0 _ _ hol,hrl⟩
 have loop:=zhE (prog:=X.prog) (w:=X.w) (A:=X.A) (R:=λr s'=>match r with|.ok (.ret u)=>EP X pins σ Q u s'|.ok _=>False|.error e=>X.xe e s') (I.ok.hd hc) hi hlI hlS hIS (kw:=[(Str.ofString "default",dv)]) (h₀:=hI.push (seqObj "list" #[] 0)) (g:=s.gens) (dr:=s.drawn) (os:=s.os) (λb t h' tk' hb hbest k=>⟨.int b,H,aY h' tk' k,⟨t,rfl⟩,hQ b hb hbest⟩);generalize hI.objs.size=S at gS hlS hIS aY loop ⊢;generalize s.heap.objs.size=it at gI hlI hIS aY loop ⊢;have Wk:=Walks.list (prog:=X.prog) (w:=X.w) (A:=X.A.in1) (I.ok.hd hc) it l hlI aX.toArray;refine codeAny_builtin PySem.F.entry_max_loop ?_;rw[Around.under_plainId PySem.F.plain_max_loop _];show wpAny _ X.A.in1 (seqItems? (.ref S) >>= _) _ _ _;refine wpAny_bind (wpAny_seqItems gS rfl ?_);show wpAny _ X.A.in1 (tryCatch (pyNext (.ref it)) _ >>= _) _ _ _;cases hx:zs with
 | nil=>
  have e0:aX.length=0:=by rw[aM,hx];rfl
  refine wpAny_bind (wpAny_tryCatch (Wk.done _ _ _ ⟨by rw[zH,e0];exact⟨_,gI,rfl,rfl⟩,ls0⟩ λh' tk' hk'=>?_));refine wpAny_bind (wpAny_rule (wpAny_pure ?_));exact⟨d,H,aY h' tk' λa o n1 n2 e=>hk' a o (by simpa using n1) e,rd,h0 hx⟩
 | cons z zr=>
  have hz0:zs[0]?=some z:=by rw[hx];rfl
  have l1:1<=zs.length:=by rw[hx];simp
  refine wpAny_bind (wpAny_tryCatch (Wk.item 0 _ _ _ (by rw[zH];omega) ⟨⟨_,gI,rfl,rfl⟩,ls0⟩ λu h' tk' hP hst' hk'=>?_));have hu:aX[0]?=some u:=by simpa using hP
  obtain⟨t2,ht2⟩:=hi.get 0 z hz0;rw[hu] at ht2;cases ht2;have hk1:∀a o,a≠it->(hI.push (seqObj "list" #[] 0)).get? a=some o->h'.get? a=some o:=λa o na e=>hk' a o (by simpa using na) e
  have hS1:=hk1 S _ hIS.symm gS
  have s1:=Heap.SameBut.update h' S (Obj.mapSeq λ_=>#[.int z t2,.int z t2]);obtain⟨c2,hc2⟩:∃c2,(h'.update S (Obj.mapSeq λ_=>#[.int z t2,.int z t2])).get? S=some (seqObj "list" #[.int z t2,.int z t2] c2):=⟨_,get?_update_seq hS1 λ_=>#[.int z t2,.int z t2]⟩;show wpAny _ X.A.in1 (updateSeq S (λ_=>#[.int z t2,.int z t2]) >>= _) _ _ _;refine wpAny_bind ?_;refine wpAny_updateSeq hS1 rfl ?_;rw[hname];obtain⟨oI,hoI,hoc,hod⟩:=id hst'.1;obtain⟨ol2,hol2,r2⟩:=id hst'.2;refine wpAny_pure ⟨plainId_quiet PySem.F.plain_max_loop _,loop _ 1 _ _ z t2 c2 rfl l1 ⟨ol2,(s1.2 l hlS).trans hol2,r2⟩ (λa o n1 n2 e=>(s1.2 a n2).trans (hk1 a o n1 e)) ⟨oI,(s1.2 it hIS).trans hoI,hoc,hod⟩ hc2 (zF hz0) λy hy=>?_⟩;rw[hx] at hy;have e:y=z:=by simpa using hy
  rw[e];exact yA _
theorem zbS {r:List Addr}:∀ {ds:List D} {zs:List Int} {vs:List V},Y5 ds=some zs->Rps r H ds vs->vs=zs.map V.int:=λ{ds}=>by
 induction ds with
 | nil=>
  intro zs vs h p;have z:=p.unnil;subst z;simp[Y5] at h;subst h;rfl
 | cons d ds ih=>
  intro zs vs h p;obtain⟨v,vs',rfl,p1,p2⟩:=p.uncons;cases d with
  | int i=>
   simp only[Y5,zG] at h;obtain⟨zr,h,rfl⟩:=h;cases p1;rw[ih h p2];rfl
  | _=>simp[Y5] at h
def Rv (Q:DK)(d e:D)(S:Sto):Prop:=match d with
 | .ref n=>match lAt S n with
  | some o=>∃zs,Y5 (Zv o)=some zs/\(zs=[]->Q e S)/\∀m,m∈zs->(∀y∈zs,y<=m)->Q (.int m) S
  | none=>False
 | _=>False
@[irreducible] def N0 (tl td:TDE):TDE:=λdl S Q=>tl dl S λd S1=>td dl S1 λe S2=>Rv Q d e S2
theorem AE (hc:X.calm=true)(hg:Gl X "max")(hm:X.mg "max"=none)(hv:bootBuiltins "max"=some (.builtin "max"))(ha:PD X Z a tl)(hd:PD X Z b td)(hs:starEach [a] X.env=[(false,eval a X.env)]:=by rfl):
  PD X Z (.Call (.Name "max" p) [a] [⟨some "default",b,dp⟩] pos) (N0 tl td):=by
 intro pins s σ H Qv I h;obtain⟨r,dl,S,Q,rs,aZ,h,ret⟩:=h;unfold N0 at h;refine wpAny_Call_Name_kw (VN I hg hm hv ?_ (by decide) (by decide));have hda:PDA X Z [a] (J2 tl Kc):=Za ha Zd hs;refine PyProof.Rows.callWith_kw (thn (hda pos pins s σ H (λvs H1=>∃(r1:List Addr)(S1:Sto)(d:D)(v:V),vs=[v]/\Ext r r1 H H1/\Rel X.K Z r1 S1 H1/\Rp r1 H1 d v/\td dl S1 λe S2=>Rv Q d e S2) I ?_) λus s1 ⟨vs,H1,I1,rvs,r1,S1,d,v,evs,x1,aB,pd,hk⟩=>?_) (by show backTo pos (starEach [a] X.env)=_;rw[hs];rfl) (by rw[hs];rfl)
 ·refine⟨r,dl,S,λds S1=>match ds with|[d]=>td dl S1 λe S2=>Rv Q d e S2|_=>False,rs,aZ,h,λvs H1 r1 ds S1 e1 aB p1 q1=>?_⟩;dsimp only at q1;split at q1
  ·rename_i d;obtain⟨v,vs',rfl,p2,p3⟩:=p1.uncons;have z:=p3.unnil;subst z;exact⟨r1,S1,d,v,rfl,e1,aB,p2,q1⟩
  ·exact q1.elim
 subst evs;obtain⟨u0,rfl,ru0⟩:=Vq rvs;refine PyProof.Rows.kws_cons (thn (hd pins s1 σ H1 (λe H2=>∃(r2:List Addr)(S2:Sto)(de:D),Ext r1 r2 H1 H2/\Rel X.K Z r2 S2 H2/\Rp r2 H2 de e/\Rv Q d de S2) I1 ⟨r1,dl,S1,_,rs.ext x1,aB,hk,λe H2 r2 de S2 x2 aC p2 q2=>⟨r2,S2,de,x2,aC,p2,q2⟩⟩) λue s2 ⟨e,H2,I2,re,r2,S2,de,x2,aC,pe,hk⟩=>PyProof.Rows.kws_nil ?_);unfold Rv at hk;split at hk
 rotate_left
 ·exact hk.elim
 rename_i n hk0 ep;cases pd with
 | @ref _ a0 ha0=>
  cases ru0;split at hk
  rotate_left
  ·exact hk.elim
  rename_i o ho;obtain⟨zs,hz,q0,q1⟩:=hk;obtain⟨hSn,hkL⟩:=Xf ho;obtain⟨xs,sq,rp⟩:=(aC.b.ob n a0 o (x2.adr _ _ ha0) hSn).list hkL;rw[zbS hz rp] at sq;exact zex hc I2 sq re (λz=>ret _ H2 r2 de S2 (x1.trans x2) aC pe (q0 z)) λm hm hb=>ret _ H2 r2 (.int m) S2 (x1.trans x2) aC (.int m) (q1 m hm hb)
open PySem PySem.Spec PyProof.Rows L2 PySem.W
section
variable {s:Shared}{A:Around}{w:World}{prog:Program}
end
def HY (k:Nat)(caps:List Nat)(wi:TI)(gt:TG)(tc:TT)(te:TE):TE:=λσ H Q=>wi σ H λJ H1=>∀D,H1 D=none->∃W:Nat->Nat->Hp->Prop,(∃m,W 0 m (upd H1 D (.lst [])))/\∀i m H,W i m H->
 (J.stop i H/\Q (.ref D) H)\/(J.go i H/\∀x H',J.yld i H x H'->∀o:L2.St,o.length=k->gt x (o++Yn caps σ) H' λσ8 H8=>(∃o8:L2.St,o8.length=k/\σ8=o8++Yn caps σ)/\
  tc σ8 H8 λb H9=>if b=true then te σ8 H9 λy H3=>∃ys,H3 D=some (.lst ys)/\ys.length<sizeLine/\∃m',m'<m/\W (i+1) m' (upd H3 D (.lst (ys++[y]))) else ∃m',m'<m/\W (i+1) m' H9)
theorem Ao (hc:X.calm=true)(cs:X4 sc X.env.scope own N)(hN:∀(j:Nat)(y:Str),N[j]?=some y->∃i,caps[j]?=some i/\X.N[i]?=some y)(aM:caps.length=N.length)(hi:PI X (.Tuple aL kk tp) aU wi)(hg:∀cl C s0 H0 fp pn,PG (Cx.comp X sc (own++N) cl C s0 H0 fp pn) (.Tuple aL kk tp) gt)(he:∀cl C s0 H0 fp pn,PE (Cx.comp X sc (own++N) cl C s0 H0 fp pn) aW te)(ht:∀cl C s0 H0 fp pn,PTs (Cx.comp X sc (own++N) cl C s0 H0 fp pn) ifs tc)(hs:∀y,foldedSetIterable aU X.env y=pure y)(I:Inv X pins σ H s)(h:HY own.length caps wi gt tc te σ H Q)(aY:∀D C s',OE X pins σ C Q D s'->compPost (model X.prog X.w) X.A X.xe use Qr (.ref D) C (.ok .next) s'):
  wpAny (model X.prog X.w) X.A (comprehension (.ListComp aW [⟨.Tuple aL kk tp,aU,ifs,0⟩] sc pos) sc X.env p2 (newList []) false (eval aU X.env) use) Qr X.xe s:=
 Gy hc cs hN aM hi hg he ht hs I h (λ_ _ b=>b) aY
section
variable {X:Cx}{Z:Zx}{aW:Expr}{pos:Pos}{sc ar:Scope}{N:List Str}{caps:List Nat}
def Cu (caps:List Nat)(tc:TDT)(te:TDE)(k:Nat)(dl:Ev)(d1 d2:D)(S:Sto)(nx:Sto->Prop):Prop:=
 tc (some d1::some d2::Yc caps dl) S λb S1=>if b=true then te (some d1::some d2::Yc caps dl) S1 λy S2=>match S2[k]? with
  | some (.lst ys)=>ys.length<1000/\nx (S2.set k (.lst (ys++[y])))
  | _=>False
 else nx S1
@[irreducible] def U0 (caps:List Nat)(ta:TDA)(tc:TDT)(te:TDE):TDE:=λdl S Q=>ta dl S λds S1=>match ds with
 | [.ref n]=>(lAt S1 n).isSome=true/\∃W:Nat->Nat->Sto->Prop,(∃m,W 0 m (S1++[.lst []]))/\∀k m S2,W k m S2->match lAt S2 n with
  | some o=>match (Zv o)[k]? with
   | some y=>Cu caps tc te S1.length dl (.int (k:Int)) y S2 λS3=>∃m',m'<m/\W (k+1) m' S3
   | none=>k=(Zv o).length/\Q (.ref S1.length) S2
  | none=>False
 | _=>False
theorem EW {ta:TDA}{tc:TDT}{te:TDE}{σ:L2.St}{H:Hp}{Qv:VK}(h:up X.K Z (U0 caps ta tc te) σ H Qv):
  HY 2 caps (Dz X.K (upA X.K Z ta)) (U1 X.K 2 (Uo [0,1])) (upT X.K Z0 tc) (up X.K Z0 te) σ H Qv:=by
 obtain⟨r,dl,S,Q,rs,aZ,h,ret⟩:=h;unfold U0 at h;refine⟨r,dl,S,_,rs,aZ,h,λvs H1 r1 ds S1 x1 aB p1 q1=>?_⟩;split at q1
 ·rename_i n;obtain⟨v,vs',rfl,p2,p3⟩:=p1.uncons;have z:=p3.unnil;subst z;cases p2 with
  | @ref n a hr=>
   obtain⟨aQ,W,⟨m0,w0⟩,turn⟩:=q1;obtain⟨o1,eo1⟩:=yP.mp aQ;obtain⟨xs1,sq1,_⟩:=Wb (r:=r1) hr aB.b eo1;refine⟨a,rfl,⟨xs1,sq1⟩,λD0 hD=>?_⟩;obtain⟨aC,x2⟩:=aB.b.push (ds:=[]) (xs:=[]) hD Rps.nil;refine⟨λk m H'=>∃r' S',Ext (r1++[D0]) r' (upd H1 D0 (.lst [])) H'/\Z3 X.K r' S' H'/\W k m S',⟨m0,_,_,Ext.refl,aC,w0⟩,?_⟩;rintro k m H2 ⟨r2,S2,x3,rb2,w2⟩;have ha2:r2[S1.length]?=some D0:=x3.adr _ _ (Tn aB.len)
   have hr2:r2[n]?=some a:=(x2.trans x3).adr _ _ hr
   have q:=turn k m S2 w2;split at q
   ·rename_i o eo;obtain⟨xs,sq,pr⟩:=Wb (r:=r2) hr2 rb2 eo;split at q
    ·rename_i y ey;obtain⟨v,hv,pv⟩:=pr.get ey;refine .inr ⟨⟨xs,v,sq,hv⟩,λv' H' y' o8 ho8=>?_⟩;obtain⟨T,w,rfl,hT,rfl,hw⟩:=y';have ew:w=v:=by
      have z:=hw xs sq;rw[hv] at z;exact(Option.some.inj z).symm
     subst ew;obtain⟨c1,c2,rfl⟩:∃c1 c2,o8=[c1,c2]:=by
      match o8,ho8 with
      | [c1,c2],_=>exact⟨c1,c2,rfl⟩
     have x4:Ext r2 r2 H2 (upd H2 T (.tup [.int (k:Int),w])):=NK hT
     have rb3:=rb2.same (Wi (o:=.tup [.int (k:Int),w]) hT)
     have rs3:=rs.ext (x1.trans (x2.trans (x3.trans x4)));refine⟨T,[.int (k:Int),w],rfl,SqT.of Y2,rfl,rfl,⟨[some (.int (k:Int)),some w],rfl,rfl⟩,?_⟩;have rsY:=D8 (caps:=caps) rs3 (.int (k:Int)) (pv.ext x4);refine⟨r2,_,S2,_,rsY,⟨rb3,λ_ _ _ _ _ _ _ _ _ z=>z.elim⟩,q,λb H9 r9 S9 x9 rel9 q9=>?_⟩;cases b with
     | false=>
      rw[if_neg zJ] at q9 ⊢;obtain⟨m',hm,q9⟩:=q9;exact⟨m',hm,r9,S9,x3.trans (x4.trans x9),rel9.b,q9⟩
     | true=>
      rw[if_pos rfl] at q9 ⊢;refine⟨r9,_,S9,_,rsY.ext x9,rel9,q9,λz H4 r4 dz S4 x6 aF p4 q4=>?_⟩;split at q4
      ·rename_i ys eys;obtain⟨hl,m',hm,q4⟩:=q4;have ha4:r4[S1.length]?=some D0:=x6.adr _ _ (x9.adr _ _ ha2);obtain⟨zs,hD4,pz⟩:=aF.b.ob _ _ _ ha4 eys;obtain⟨rel5,x7⟩:=aF.b.set ha4 eys (pz.snoc p4);exact⟨zs,hD4,by rw[<- pz.1];exact QJ (yN hl),m',hm,r4,_,x3.trans (x4.trans (x9.trans (x6.trans x7))),rel5,q4⟩
      ·exact q4.elim
    ·obtain⟨hk,q⟩:=q;exact .inl ⟨⟨xs,sq,by rw[<- pr.1];exact hk.symm⟩,ret _ H2 r2 _ S2 (x1.trans (x2.trans x3)) ⟨rb2,aZ.xw.ext (x1.trans (x2.trans x3))⟩ (.ref ha2) q⟩
   ·exact q.elim
 ·exact q1.elim
theorem Tp (har:X.env.scope=ar)(hc:X.calm=true)(cs:X4 sc ar [x1,x2] N)(hl1:sc.names.lookup x1=some .local)(hl2:sc.names.lookup x2=some .local)(hN:caps.map (λi=>X.N[i]?)=N.map some)(hnd:([x1,x2]++N).Nodup)(hg:Gl X "enumerate")(hm:X.mg "enumerate"=none)(hv:bootBuiltins "enumerate"=some (.type "enumerate"))(ha:PDA X Z [a] ta)(ht:∀cl C s0 H0 fp pn,VG (Cx.comp X sc ([x1,x2]++N) cl C s0 H0 fp pn) ifs tc)(he:∀cl C s0 H0 fp pn,PD (Cx.comp X sc ([x1,x2]++N) cl C s0 H0 fp pn) Z0 aW te)(hse:starEach [a] X.env=[(false,eval a X.env)]:=by rfl)(hs:∀y,foldedSetIterable (.Call (.Name "enumerate" p) [a] [] aK) X.env y=pure y:=by intro _;rfl):
  PD X Z (.ListComp aW [⟨.Tuple [.Name x1 p1,.Name x2 p2] kk tp,.Call (.Name "enumerate" p) [a] [] aK,ifs,0⟩] sc pos) (U0 caps ta tc te):=by
 subst har;intro pins s σ H Q I h;rw[eval_ListComp];have h:=EW h;refine Ao (use:=none) (ifs:=ifs) (tc:=upT X.K Z0 tc) (gt:=U1 X.K 2 (Uo [0,1])) (te:=up X.K Z0 te) hc cs (XB hN).1 (XB hN).2 (F4 hg hm hv ha hse) (λcl C s0 H0 fp pn=>?_) he ht hs I h λD C s' f=>?_
 ·have l1:(Cx.comp X sc ([x1,x2]++N) cl C s0 H0 fp pn).env.scope.names.lookup x1=some .local:=lookup_relabel_local hl1
  have l2:(Cx.comp X sc ([x1,x2]++N) cl C s0 H0 fp pn).env.scope.names.lookup x2=some .local:=lookup_relabel_local hl2;exact Rn hc (UD hnd (.cons rfl (.inl l1) (.inr l1) (.cons rfl (.inl l2) (.inr l2) .nil))) rfl rfl
 ·obtain⟨⟨H',I',q,hC⟩,⟨m,ns⟩,l,o,c,p⟩:=f;exact⟨m,ns,λh' sb=>⟨.ref D,H',I'.turned (t':=s'.toks) (λb ob hb e=>(sb.2 b hb).trans e) hC l (.inr o) c p,rfl,q⟩⟩
end
section
variable {P:Program}{w:World}{K:Fg}{mg:Str->Option Value}{base:Heap}
structure Lm (K:Fg)(mg:Str->Option Value)(base:Heap)(fd:FuncData)(T:Addr) where
 c:Addr
 code:fd.code=.ref c
 hd:CodeHd base c T
 bm:BM mg base
 kn:∀o,K.lookup T≠some o
theorem zfb {x qual:Str}{st:Stmt}{f c:Addr}{fd:FuncData}{N ps:List Str}{k:Nat}{sd:Sd}(F:Fun K x qual st f fd)(Sc:Zu N ps (Zm st))(len:∀ds S Q ex,sd ds S Q ex->ds.length=ps.length)(hcd:fd.code=.ref c)
  (hbody:∀(A:Around)(outer:List Env)(s:Shared)(H:Hp)(E:XK),ZU k (A.deeper (envOfC qual (Zm st) s.heap.objs.size f (.ref c)))->
   ∃t,YZ (Wq (CXE P w) P w K mg base N qual (Zm st) f (.ref c) A outer s H E).nox Z0 (Xy st) t/\∀ds S Q ex,sd ds S Q ex->t { nx:=λ_ S'=>Q .non S',rt:=Q } (We N ds) S):Yk P w K mg base (CXE P w) (k+1) f fd ps (upF K sd):=by
 obtain⟨oc,od,kV,doc,pm,an,cdv,ct,osl,rfl,lk,hcd'⟩:=F.ex;have e:cdv=.ref c:=hcd;subst e;refine F6 lk hcd' Sc (λvs H Q E h=>?_) λA outer s H vs Q E hr h=>?_
 ·obtain⟨ex,r,S,ds,Q',aZ,p,q,ret⟩:=h;rw[<- p.1];exact len ds S Q' ex q
 ·obtain⟨ex,r,S,ds,Q',aZ,p,q,ret⟩:=h;obtain⟨t,ht,hq⟩:=hbody A outer s H E hr;have back:∀ {H':Hp} {r':List Addr} {S':Sto},Ext r r' H H'->Rel K Z0 r' S' H'->Rel K (Zc ex E) r' S' H':=λx rel'=>⟨rel'.b,aZ.xw.ext x⟩
  refine⟨upS K Z0 t,ht.nox,r,We N ds,S,_,EN p,⟨aZ.b,λ_ _ _ _ _ _ _ _ _ z=>z.elim⟩,hq ds S Q' ex q,?_,?_,?_,?_⟩
  ·intro σ' H' r' dl' S' x _ rel' z;exact ret .non H' r' .non S' x (back x rel') .non z
  ·intro σ' H' r' dl' S' x _ rel' z;exact z
  ·intro σ' H' r' dl' S' x _ rel' z;exact z
  ·intro v H' r' d S' x rel' p' z;exact ret v H' r' d S' x (back x rel') p' z
theorem zc9 (hr:ZU k A)(env:Env)(h:j+2<=k:=by decide):ZU j (A.in1.deeper env):=(ZU.in1 (k:=j+1) (hr.mono h)).deeper env
theorem zfN (hr:ZU k A)(h:j+1<=k:=by decide):A.in1.depth<recursionLimit:=(ZU.in1 (k:=j) (hr.mono h)).depth
theorem lsc (a:sc.kind=.function:=by rfl)(b:sc.isCoroutine=false:=by rfl)(c:sc.isGenerator=false:=by rfl)(d:∀y∈sc.names,y.2≠.cell:=by decide +kernel)(e:∀y∈own,sc.names.lookup y=some .local:=by decide +kernel)(f:∀y∈caps,sc.names.lookup y=some .free:=by decide +kernel)(g:∀y∈sc.names,y.2=.free->ar.names.lookup y.1=some .cell:=by decide +kernel)(i:own.Nodup:=by decide +kernel):Nt sc ar own caps:=⟨a,b,c,d,e,f,g,i⟩
end
section
variable {X:Cx}{Z:Zx}{aW aU:Expr}{aL:List Expr}{kk:Nat}{tp pos:Pos}{sc ar:Scope}{own N:List Str}{caps:List Nat}{wi:TI}{gt:TG}{te:TE}
theorem zeq {ifs:List Expr}{tc:TT}{i:Nat}{y:Str}{py spos:Pos}(hc:X.calm=true)(cs:X4 sc X.env.scope own N)(hN:caps.map (λi=>X.N[i]?)=N.map some)
  (hi:PI X (.Tuple aL kk tp) aU wi)(hg:∀cl C s0 H0 fp pn,PG (Cx.comp X sc (own++N) cl C s0 H0 fp pn) (.Tuple aL kk tp) gt)(he:∀cl C s0 H0 fp pn,PE (Cx.comp X sc (own++N) cl C s0 H0 fp pn) aW te)(ht:∀cl C s0 H0 fp pn,PTs (Cx.comp X sc (own++N) cl C s0 H0 fp pn) ifs tc)
  (hNd:X.N.Nodup)(hy:X.N[i]?=some y)(hl:X.env.scope.names.lookup y=some .local)
  (hsw:swapsWith (.ListComp aW [⟨.Tuple aL kk tp,aU,ifs,0⟩] sc pos) (some (.Name y py)) spos.line X.env=pure true)
  (hs:∀y,foldedSetIterable aU X.env y=pure y:=by intro _;rfl):PS X (.Assign [.Name y py] (.ListComp aW [⟨.Tuple aL kk tp,aU,ifs,0⟩] sc pos) spos) (λE σ H=>HY own.length caps wi gt tc te σ H λv H1=>E.nx (σ.set i (some v)) H1):=
 HC (λI h aY=>Ao hc cs (XB hN).1 (XB hN).2 hi hg he ht hs I h aY) hNd hy hl hsw
theorem zbQ {ifs:List Expr}{ta:TDA}{tc:TDT}{te:TDE}{x1 x2:Str}{p1 p2 p aK:Pos}{a:Expr}{i:Nat}{y:Str}{py spos:Pos}(har:X.env.scope=ar)(hc:X.calm=true)(cs:X4 sc ar [x1,x2] N)(hl1:sc.names.lookup x1=some .local)(hl2:sc.names.lookup x2=some .local)
  (hN:caps.map (λi=>X.N[i]?)=N.map some)(hnd:([x1,x2]++N).Nodup)(hNd:X.N.Nodup)(hy:X.N[i]?=some y)(hlo:ar.names.lookup y=some .local)(hg:Gl X "enumerate")(hm:X.mg "enumerate"=none)(hv:bootBuiltins "enumerate"=some (.type "enumerate"))(ha:PDA X Z [a] ta)
  (ht:∀cl C s0 H0 fp pn,VG (Cx.comp X sc ([x1,x2]++N) cl C s0 H0 fp pn) ifs tc)
  (he:∀cl C s0 H0 fp pn,PD (Cx.comp X sc ([x1,x2]++N) cl C s0 H0 fp pn) Z0 aW te)
  (hsw:swapsWith (.ListComp aW [⟨.Tuple [.Name x1 p1,.Name x2 p2] kk tp,.Call (.Name "enumerate" p) [a] [] aK,ifs,0⟩] sc pos) (some (.Name y py)) spos.line X.env=pure true:=by rfl)
  (hse:starEach [a] X.env=[(false,eval a X.env)]:=by rfl)(hs:∀y,foldedSetIterable (.Call (.Name "enumerate" p) [a] [] aK) X.env y=pure y:=by intro _;rfl):
  PDS X Z (.Assign [.Name y py] (.ListComp aW [⟨.Tuple [.Name x1 p1,.Name x2 p2] kk tp,.Call (.Name "enumerate" p) [a] [] aK,ifs,0⟩] sc pos) spos) (To i (U0 caps ta tc te)):=by
 subst har;refine YN (zeq hc cs hN (gt:=U1 X.K 2 (Uo [0,1])) (tc:=upT X.K Z0 tc) (te:=up X.K Z0 te) (F4 hg hm hv ha hse) (λcl C s0 H0 fp pn=>?_) he ht hNd hy hlo hsw hs) λF σ H h=>Lk (λ_ h=>EW h) h
 have l1:(Cx.comp X sc ([x1,x2]++N) cl C s0 H0 fp pn).env.scope.names.lookup x1=some .local:=lookup_relabel_local hl1
 have l2:(Cx.comp X sc ([x1,x2]++N) cl C s0 H0 fp pn).env.scope.names.lookup x2=some .local:=lookup_relabel_local hl2;exact Rn hc (UD hnd (.cons rfl (.inl l1) (.inr l1) (.cons rfl (.inl l2) (.inr l2) .nil))) rfl rfl
@[irreducible] def Qq (caps:List Nat)(ta:TDA)(tc:TDT)(te:TDE):TDE:=λdl S Q=>ta dl S λds S1=>match ds with
 | [.int lo,.int hi]=>(-(2^62)<=lo/\lo<2^62/\-(2^62)<=hi/\hi<2^62)/\∃W:Nat->Sto->Prop,W 0 (S1++[.lst []])/\∀k S2,W k S2->
   if k<(hi-lo).toNat then WM caps tc te S1.length dl (.int (lo+k)) S2 (W (k+1)) else Q (.ref S1.length) S2
 | _=>False
theorem zeQ {ta:TDA}{tc:TDT}{te:TDE}{σ:L2.St}{H:Hp}{Qv:VK}(h:up X.K Z (Qq caps ta tc te) σ H Qv):Rk caps (Dd (upA X.K Z ta)) (upT X.K Z0 tc) (up X.K Z0 te) σ H Qv:=by
 obtain⟨r,dl,S,Q,rs,aZ,h,ret⟩:=h;unfold Qq at h;refine⟨r,dl,S,_,rs,aZ,h,λvs H1 r1 ds S1 x1 aB p1 q1=>?_⟩;split at q1
 ·rename_i lo hi;obtain⟨v,vs',rfl,p2,p3⟩:=p1.uncons;obtain⟨v2,vs2,rfl,p4,p5⟩:=p3.uncons;have z:=p5.unnil;subst z;cases p2;cases p4;obtain⟨⟨b1,b2,b3,b4⟩,W,w0,turn⟩:=q1;refine⟨lo,hi,rfl,⟨b1,b2,b3,b4⟩,λD0 hD=>?_⟩;obtain⟨aC,x2⟩:=aB.b.push (ds:=[]) (xs:=[]) hD Rps.nil;refine⟨λk m H'=>m=(hi-lo).toNat-k/\∃r' S',Ext (r1++[D0]) r' (upd H1 D0 (.lst [])) H'/\Z3 X.K r' S' H'/\W k S',⟨(hi-lo).toNat,by simp,_,_,Ext.refl,aC,w0⟩,?_⟩;rintro k m H2 ⟨em,r2,S2,x3,rb2,w2⟩;have ha2:r2[S1.length]?=some D0:=x3.adr _ _ (Tn aB.len)
  have q:=turn k S2 w2;split at q
  ·rename_i hk;refine .inr ⟨hk,λv' H' y'=>?_⟩;obtain⟨eH,y'⟩:=y';subst eH;subst y';have pk:Rp r2 H' (.int (lo+(k:Int))) (.int (lo+(k:Int))):=.int _
   have z:=HJ (Nx:=λH'=>∃m',m'<m/\m'=(hi-lo).toNat-(k+1)/\∃r' S',Ext (r1++[D0]) r' (upd H1 D0 (.lst [])) H'/\Z3 X.K r' S' H'/\W (k+1) S') (rs.ext (x1.trans (x2.trans x3))) ha2 rb2 pk q
    λr' S' H' x' rb' w'=>⟨(hi-lo).toNat-(k+1),by omega,rfl,r',S',x3.trans x',rb',w'⟩
   exact z
  ·rename_i hk;exact .inl ⟨by show (hi-lo).toNat<=k;omega,ret _ H2 r2 _ S2 (x1.trans (x2.trans x3)) ⟨rb2,aZ.xw.ext (x1.trans (x2.trans x3))⟩ (.ref ha2) q⟩
 ·exact q1.elim
theorem zd0 {x:Str}{px:Pos}{ifs:List Expr}{ta:TDA}{tc:TDT}{te:TDE}{a b:Expr}{p aK:Pos}(har:X.env.scope=ar)(hc:X.calm=true)(cs:Vx sc ar x N)(hN:caps.map (λi=>X.N[i]?)=N.map some)(hnd:(x::N).Nodup)(hg:Gl X "range")(hm:X.mg "range"=none)(ha:PDA X Z [a,b] ta)
  (ht:∀cl C s0 H0 fp pn,VG (Cx.comp X sc (x::N) cl C s0 H0 fp pn) ifs tc)(he:∀cl C s0 H0 fp pn,PD (Cx.comp X sc (x::N) cl C s0 H0 fp pn) Z0 aW te)
  (hs:∀y,foldedSetIterable (.Call (.Name "range" p) [a,b] [] aK) X.env y=pure y:=by intro _;rfl)(hst:starEach [a,b] X.env=[(false,eval a X.env),(false,eval b X.env)]:=by rfl)(hst2:starEach [b] X.env=[(false,eval b X.env)]:=by rfl):
  PD X Z (.ListComp aW [⟨.Name x px,.Call (.Name "range" p) [a,b] [] aK,ifs,0⟩] sc pos) (Qq caps ta tc te):=by
 subst har;exact Z9 (K6 hc cs hN hnd (tc:=upT X.K Z0 tc) (te:=up X.K Z0 te) (zin hg hm ha hst hst2) ht he hs) λ_ _ _ h=>zeQ h
end
end L3
namespace Mine
open PySem PySem.Spec PyProof.Rows L2 L3
abbrev LT:Addr:=801
abbrev LP:Pos:=⟨432,32,432,73⟩
abbrev LQ:Str:="Book.to_look_at.<locals>.<lambda>"
theorem fsc {N P:List Str}{sc:Scope}(a:sc.kind=.function:=by rfl)(b:sc.isCoroutine=false:=by rfl)(c:sc.isGenerator=false:=by rfl)(d:N.Nodup:=by decide +kernel)(e:N.take P.length=P:=by rfl)(f:∀x∈P,sc.names.lookup x=some .local\/sc.names.lookup x=some .cell:=by decide +kernel)(g:∀y∈sc.names,y.2≠.free:=by decide +kernel):Zu N P sc:=⟨a,b,c,d,e,f,g⟩
theorem csc {sc ar:Scope}{x:Str}{caps:List Str}(a:sc.kind=.function:=by rfl)(b:∀y∈sc.names,y.2≠.cell:=by decide +kernel)(c:∀y∈sc.names,y.2=.local->sc.names.lookup y.1=some .local:=by decide +kernel)(d:sc.names.lookup x=some .local:=by rfl)(e:∀y∈caps,sc.names.lookup y=some .free:=by decide +kernel)(f:∀y∈sc.names,y.2=.free->ar.names.lookup y.1=some .cell:=by decide +kernel):Vx sc ar x caps:=⟨a,b,c,d,e,f⟩
theorem XM {sc ar:Scope}{own caps:List Str}(a:sc.kind=.function:=by rfl)(b:∀y∈sc.names,y.2≠.cell:=by decide +kernel)(c:∀y∈sc.names,y.2=.local->sc.names.lookup y.1=some .local:=by decide +kernel)(e:∀y∈caps,sc.names.lookup y=some .free:=by decide +kernel)(f:∀y∈sc.names,y.2=.free->ar.names.lookup y.1=some .cell:=by decide +kernel):X4 sc ar own caps:=⟨a,b,c,e,f⟩
abbrev Ln (sp:Sd)(n:Nat):Prop:=∀ds S Q ex,sp ds S Q ex->ds.length=n
theorem Zk {X:Cx}{x:Str}{p pos:Pos}{e:Expr}{es:List Expr}{t:TDA}{k j:Nat}{ps:List Str}{sd:Sd}{ex:Ev->Addr->Sto->Prop}(G:Fk X.prog X.w X.K X.mg X.base k x ps sd)(hr:ZU j X.A)(ha:PDA X ⟨ex,Z0.w⟩ (e::es) t)(hk:k<=j:=by decide)(hg:Gl X x:=by rfl)
  (hdb:(x==("__debug__":Str))=false:=by decide)(he:starEach (e::es) X.env=(false,eval e X.env)::starEach es X.env:=by rfl)(hpl:(backTo pos (starEach es X.env)).any (·.1)=false:=by rfl):PD X ⟨ex,Z0.w⟩ (.Call (.Name x p) (e::es) [] pos) (Fy ex sd t):=Je G (hr.mono hk) Yq hg ha hdb he hpl
abbrev Mh:Stmt:=top 107
abbrev Q1:List Str:=[Ua]
theorem zcQ:Zu [Ua] Q1 (Zm Mh):=fsc
abbrev NA:Stmt:=top 95
abbrev UQ:List Str:=[q76,"_law_k"]
theorem Jy:Zu [q76,"_law_k",Ua] UQ (Zm NA):=fsc
abbrev LG:Stmt:=top 106
abbrev Pm:List Str:=[q76,Oz]
theorem WK:Zu [q76,Oz,q54,"_law_at","_law_low","_law_wide"] Pm (Zm LG):=fsc
abbrev N5:Stmt:=top 96
abbrev OV:List Str:=[Ua,"_law_size"]
theorem Pc:Zu [Ua,"_law_size","_law_kind","_law_part","_law_bottom","_law_word"] OV (Zm N5):=fsc
abbrev LJ:Stmt:=top 97
abbrev Se:List Str:=[q50,NL]
theorem zio:Zu [q50,NL] Se (Zm LJ):=fsc
abbrev Td:Stmt:=top 98
abbrev Oo:List Str:=["_law_cells",Oz]
theorem TC:Zu ["_law_cells",Oz,q47,NL,Ua,q50,"_law_weight_here"] Oo (Zm Td):=fsc
abbrev MO:Stmt:=top 99
abbrev Q2:List Str:=["_law_a","_law_b"]
theorem Rl:Zu ["_law_a","_law_b","_law_rest"] Q2 (Zm MO):=fsc
abbrev LS:Stmt:=top 100
abbrev TV:List Str:=["_law_a","_law_many"]
theorem NX:Zu ["_law_a","_law_many","_law_found","_law_turn"] TV (Zm LS):=fsc
abbrev Mu:Stmt:=top 101
abbrev Pw:List Str:=[q47,"_law_point"]
theorem SH:Zu [q47,"_law_point","_law_found",q50,"_law_a","_law_b"] Pw (Zm Mu):=fsc
abbrev NO:Stmt:=top 103
abbrev Oa:List Str:=[q47,q50]
theorem zbk:Zu [q47,q50] Oa (Zm NO):=fsc
abbrev NB:Stmt:=top 102
abbrev OU:List Str:=[q47]
theorem Gx:Zu [q47,NL,q50] OU (Zm NB):=fsc
abbrev Ng:Stmt:=top 104
abbrev OQ:List Str:=[q47,q54,q58,Ua,"_law_place"]
theorem WE:Zu [q47,q54,q58,Ua,"_law_place","_law_at","_law_word","_law_point","_law_span","_law_a","_law_shared","_law_top","_law_bottom"] OQ (Zm Ng):=fsc
abbrev LO:Stmt:=top 105
abbrev OZ:List Str:=[q76,q47,q54,q58]
theorem UI:Zu [q76,q47,q54,q58,NF,"_law_many","_law_k","_law_place"] OZ (Zm LO):=fsc
abbrev M4:Stmt:=ZA (top 84) 0
abbrev RR:List Str:=["self","box"]
theorem zaO:Zu ["self","box"] RR (Zm M4):=fsc
abbrev Qw:Stmt:=ZA (top 84) 5
abbrev QC:List Str:=["self"]
theorem zbG:Zu ["self"] QC (Zm Qw):=fsc
abbrev LR:Stmt:=top 26
abbrev R6:List Str:=["a"]
theorem zad:Zu ["a"] R6 (Zm LR):=fsc
abbrev RJ:Stmt:=top 82
abbrev UP:List Str:=["box"]
theorem zdJ:Zu ["box"] UP (Zm RJ):=fsc
abbrev LF:Stmt:=top 83
abbrev UJ:List Str:=["box"]
theorem zdp:Zu ["box"] UJ (Zm LF):=fsc
abbrev SG:Stmt:=ZA (top 84) 4
abbrev RA:List Str:=["self"]
theorem DH:Zu ["self","waiting"] RA (Zm SG):=fsc
abbrev Kf:Stmt:=top 52
abbrev Rt:List Str:=["word","span"]
theorem zaF:Zu ["word","span"] Rt (Zm Kf):=fsc
abbrev NN:Stmt:=top 14
abbrev Ot:List Str:=["a","b"]
theorem zgT:Zu ["a","b"] Ot (Zm NN):=fsc
abbrev MU:Stmt:=top 16
abbrev Ub:List Str:=["top",X7]
theorem zcK:Zu ["top",X7] Ub (Zm MU):=fsc
abbrev Ny:Stmt:=top 17
abbrev RX:List Str:=["low","high","grid"]
theorem zii:Zu ["low","high","grid"] RX (Zm Ny):=fsc
abbrev N4:Stmt:=ZA (top 42) 2
abbrev Q6:List Str:=["self",q8,"box","grid"]
theorem Dt:Zu ["self",q8,"box","grid",q20] Q6 (Zm N4):=fsc
abbrev Kt:Stmt:=ZA (top 43) 2
abbrev Rz:List Str:=["self",q8,"box","grid"]
theorem zhq:Zu ["self",q8,"box","grid"] Rz (Zm Kt):=fsc
abbrev Mn:Stmt:=top 18
abbrev Vu:List Str:=["a","b"]
theorem zh9:Zu ["a","b"] Vu (Zm Mn):=fsc
abbrev Mm:Stmt:=ZA (top 45) 1
abbrev Og:List Str:=["self",q8,"box","grid"]
theorem zgV:Zu ["self",q8,"box","grid"] Og (Zm Mm):=fsc
abbrev Lx:Stmt:=top 19
abbrev Wt:List Str:=["a","b"]
theorem zf0:Zu ["a","b"] Wt (Zm Lx):=fsc
abbrev LU:Stmt:=ZA (top 46) 1
abbrev Pk:List Str:=["self",q8,"box","grid"]
theorem zia:Zu ["self",q8,"box","grid"] Pk (Zm LU):=fsc
abbrev La:Stmt:=top 20
abbrev Uk:List Str:=["a","b","grid"]
theorem Cs:Zu ["a","b","grid",UM] Uk (Zm La):=fsc
abbrev Ky:Stmt:=ZA (top 47) 1
abbrev Oy:List Str:=["self",q8,"box","grid"]
theorem za7:Zu ["self",q8,"box","grid"] Oy (Zm Ky):=fsc
abbrev NW:Stmt:=top 13
abbrev VP:List Str:=[q20,"many"]
theorem Ls:Zu [q20,"many","worth","step"] VP (Zm NW):=fsc
abbrev PF:Stmt:=top 21
abbrev Tt:List Str:=["a","many","grid"]
theorem L7:Zu ["a","many","grid",Ui,"powers",X7] Tt (Zm PF):=fsc
abbrev Na:Stmt:=ZA (top 48) 2
abbrev Ol:List Str:=["self",q8,"box","grid"]
theorem zcF:Zu ["self",q8,"box","grid"] Ol (Zm Na):=fsc
abbrev Mv:Stmt:=ZA (top 48) 0
abbrev Qy:List Str:=["self","one","many"]
theorem zbs:Zu ["self","one","many"] Qy (Zm Mv):=fsc
abbrev L5:Stmt:=ZA (top 42) 0
abbrev OX:List Str:=["self","top",X7]
theorem zbm:Zu ["self","top",X7] OX (Zm L5):=fsc
abbrev MQ:Stmt:=ZA (top 43) 0
abbrev PZ:List Str:=["self",WY]
theorem zf6:Zu ["self",WY] PZ (Zm MQ):=fsc
abbrev N8:Stmt:=ZA (top 44) 0
abbrev QZ:List Str:=["self","one",Xs]
theorem zfE:Zu ["self","one",Xs] QZ (Zm N8):=fsc
abbrev MN:Stmt:=ZA (top 44) 0
abbrev QH:List Str:=["self","one",Xs]
theorem zb4:Zu ["self","one",Xs] QH (Zm MN):=fsc
abbrev M8:Stmt:=ZA (top 44) 0
abbrev OF:List Str:=["self","one",Xs]
theorem zcg:Zu ["self","one",Xs] OF (Zm M8):=fsc
abbrev Ml:Stmt:=top 49
abbrev Um:List Str:=["node"]
theorem zcl:Zu ["node"] Um (Zm Ml):=fsc
abbrev ME:Stmt:=top 51
abbrev X1:List Str:=[q21,"box","grid"]
theorem J8:Zu [q21,"box","grid","found","node"] X1 (Zm ME):=fsc
abbrev NS:Stmt:=top 76
abbrev SD:List Str:=[q21,"row","box","grid"]
theorem EC:Zu [q21,"row","box","grid","at"] SD (Zm NS):=fsc
abbrev Mb:Stmt:=top 23
abbrev VF:List Str:=["a","b"]
theorem FY:Zu ["a","b","low","high"] VF (Zm Mb):=fsc
abbrev MY:Stmt:=top 71
abbrev Pq:List Str:=["word","span"]
theorem zeZ:Zu ["word","span"] Pq (Zm MY):=fsc
abbrev Ks:Stmt:=ZA (top 42) 3
abbrev PX:List Str:=["self",q8,"here","grid"]
theorem AO:Zu ["self",q8,"here","grid"] PX (Zm Ks):=fsc
abbrev Km:Stmt:=ZA (top 43) 3
abbrev Qp:List Str:=["self",q8,"here","grid"]
theorem zcL:Zu ["self",q8,"here","grid"] Qp (Zm Km):=fsc
abbrev Lz:Stmt:=ZA (top 45) 2
abbrev R7:List Str:=["self","here","x","y","grid"]
theorem zdr:Zu ["self","here","x","y","grid"] R7 (Zm Lz):=fsc
abbrev Nq:Stmt:=ZA (top 45) 3
abbrev QK:List Str:=["self","here","x","y","grid"]
theorem ze9:Zu ["self","here","x","y","grid"] QK (Zm Nq):=fsc
abbrev Lh:Stmt:=ZA (top 44) 1
abbrev RN:List Str:=["self",q8,"here","grid"]
theorem Np:Zu ["self",q8,"here","grid","x","y"] RN (Zm Lh):=fsc
abbrev Nm:Stmt:=ZA (top 46) 2
abbrev P6:List Str:=["self","here","x","y","grid"]
theorem za6:Zu ["self","here","x","y","grid"] P6 (Zm Nm):=fsc
abbrev MJ:Stmt:=ZA (top 46) 3
abbrev PM:List Str:=["self","here","x","y","grid"]
theorem zb5:Zu ["self","here","x","y","grid"] PM (Zm MJ):=fsc
abbrev Lw:Stmt:=ZA (top 44) 1
abbrev RG:List Str:=["self",q8,"here","grid"]
theorem Mi:Zu ["self",q8,"here","grid","x","y"] RG (Zm Lw):=fsc
abbrev NI:Stmt:=top 29
abbrev Ou:List Str:=["span"]
theorem AS:Zu ["span"] Ou (Zm NI):=fsc
abbrev Kw:Stmt:=top 32
abbrev Te:List Str:=["x","low","high"]
theorem zdV:Zu ["x","low","high"] Te (Zm Kw):=fsc
abbrev Mw:Stmt:=top 33
abbrev Pu:List Str:=["top",X7]
theorem zf7:Zu ["top",X7] Pu (Zm Mw):=fsc
abbrev Nv:Stmt:=top 34
abbrev QV:List Str:=[UM,"x","y"]
theorem Oe:Zu [UM,"x","y","low_by","high_by","low","high"] QV (Zm Nv):=fsc
abbrev LD:Stmt:=top 24
abbrev Ql:List Str:=["a","b"]
theorem zgb:Zu ["a","b"] Ql (Zm LD):=fsc
abbrev Nw:Stmt:=top 31
abbrev SW:List Str:=["one",Xs]
theorem zhx:Zu ["one",Xs] SW (Zm Nw):=fsc
abbrev MP:Stmt:=top 30
abbrev V1:List Str:=["pair"]
theorem AG:Zu ["pair"] V1 (Zm MP):=fsc
abbrev MK:Stmt:=top 35
abbrev Sk:List Str:=["z","x","y","grid"]
theorem SV:Zu ["z","x","y","grid",UM,"left","turned"] Sk (Zm MK):=fsc
abbrev M9:Stmt:=ZA (top 47) 2
abbrev QG:List Str:=["self","here","x","y","grid"]
theorem zhk:Zu ["self","here","x","y","grid"] QG (Zm M9):=fsc
abbrev L1:Stmt:=ZA (top 47) 3
abbrev Qk:List Str:=["self","here","x","y","grid"]
theorem zda:Zu ["self","here","x","y","grid"] Qk (Zm L1):=fsc
abbrev Kk:Stmt:=ZA (top 44) 1
abbrev QN:List Str:=["self",q8,"here","grid"]
theorem Nn:Zu ["self",q8,"here","grid","x","y"] QN (Zm Kk):=fsc
abbrev LY:Stmt:=top 37
abbrev RL:List Str:=["guess",q20,"many"]
theorem zgC:Zu ["guess",q20,"many"] RL (Zm LY):=fsc
abbrev Ma:Stmt:=top 36
abbrev TN:List Str:=[q20,"many"]
theorem OS:Zu [q20,"many","guess","better"] TN (Zm Ma):=fsc
abbrev OL:Stmt:=top 38
abbrev VM:List Str:=[q20,"many"]
theorem NZ:Zu [q20,"many","below"] VM (Zm OL):=fsc
abbrev Lp:Stmt:=top 39
abbrev OR:List Str:=["z","x","many","grid"]
theorem Oj:Zu ["z","x","many","grid","scale","powers","low","high"] OR (Zm Lp):=fsc
abbrev Ly:Stmt:=ZA (top 48) 3
abbrev PV:List Str:=["self",q8,"here","grid"]
theorem BK:Zu ["self",q8,"here","grid","x"] PV (Zm Ly):=fsc
abbrev Kh:Stmt:=top 72
abbrev P7:List Str:=[q21,"row","box","grid"]
theorem Us:Zu [q21,"row","box","grid","at",q8,"wished",q20,"left","part"] P7 (Zm Kh):=fsc
abbrev LV:Stmt:=top 73
abbrev PR:List Str:=[q21,"row","box","grid"]
theorem Pd:Zu [q21,"row","box","grid",q8,"left",q20,"span","node"] PR (Zm LV):=fsc
abbrev Nj:Stmt:=top 75
abbrev Sx:List Str:=["box","k","span"]
theorem zfy:Zu ["box","k","span"] Sx (Zm Nj):=fsc
abbrev Mc:Stmt:=top 77
abbrev Q8:List Str:=["span","cut"]
theorem zaL:Zu ["span","cut"] Q8 (Zm Mc):=fsc
abbrev Ke:Stmt:=top 79
abbrev P8:List Str:=[q21,"row","box","grid","cut"]
theorem K5:Zu [q21,"row","box","grid","cut","k","span"] P8 (Zm Ke):=fsc
abbrev MV:Stmt:=top 78
abbrev Pb:List Str:=["span","cut"]
theorem zds:Zu ["span","cut"] Pb (Zm MV):=fsc
abbrev M0:Stmt:=top 80
abbrev QE:List Str:=[q21,"row","box","grid"]
theorem Rh:Zu [q21,"row","box","grid","left","wished","cuts","k","span","cut"] QE (Zm M0):=fsc
abbrev KC:Stmt:=ZA (top 84) 2
abbrev UT:List Str:=["self",q20,"fate"]
theorem zc3:Zu ["self",q20,"fate"] UT (Zm KC):=fsc
abbrev Mg:Stmt:=ZA (top 84) 1
abbrev Qu:List Str:=["self","box"]
theorem zcP:Zu ["self","box"] Qu (Zm Mg):=fsc
abbrev Kq:Stmt:=ZA (top 84) 3
abbrev SM:List Str:=["self",q20,"k",WY]
theorem Qx:Zu ["self",q20,"k",WY,"box","span","a","b"] SM (Zm Kq):=fsc
abbrev Nf:Stmt:=top 85
abbrev SQ:List Str:=[q21,"rows","r","box","grid"]
theorem EF:Zu [q21,"rows","r","box","grid","at"] SQ (Zm Nf):=fsc
abbrev Kn:Stmt:=top 86
abbrev QL:List Str:=["book",q21,"rows","grid",q20]
theorem US:Zu ["book",q21,"rows","grid",q20,"r","row","found","cut","parts","thrown"] QL (Zm Kn):=fsc
abbrev NR:Stmt:=top 53
abbrev TB:List Str:=["word","span"]
theorem zh0:Zu ["word","span"] TB (Zm NR):=fsc
abbrev PH:Stmt:=top 87
abbrev QA:List Str:=[q21,"rows","box","grid",q8]
theorem Aj:Zu [q21,"rows","box","grid",q8,"r","row"] QA (Zm PH):=fsc
abbrev Qa:Stmt:=top 57
abbrev R5:List Str:=["rows"]
theorem zcy:Zu ["rows"] R5 (Zm Qa):=fsc
abbrev Od:Stmt:=top 58
abbrev So:List Str:=["each",Ui]
theorem zg1:Zu ["each",Ui] So (Zm Od):=fsc
abbrev Kz:Stmt:=ZA (top 42) 4
abbrev Om:List Str:=["self",q8,q49,q75,"grid"]
theorem zhs:Zu ["self",q8,q49,q75,"grid"] Om (Zm Kz):=fsc
abbrev R8:Stmt:=ZA (top 43) 4
abbrev Oq:List Str:=["self",q8,q49,q75,"grid"]
theorem zcv:Zu ["self",q8,q49,q75,"grid"] Oq (Zm R8):=fsc
abbrev O6:Stmt:=ZA (top 45) 4
abbrev Pt:List Str:=["self","x","y","a","b","grid"]
theorem zf9:Zu ["self","x","y","a","b","grid"] Pt (Zm O6):=fsc
abbrev PC:Stmt:=ZA (top 44) 2
abbrev RC:List Str:=["self",q8,q49,q75,"grid"]
theorem JE:Zu ["self",q8,q49,q75,"grid","x","y"] RC (Zm PC):=fsc
abbrev Kb:Stmt:=ZA (top 46) 4
abbrev Pf:List Str:=["self","x","y","a","b","grid"]
theorem zdP:Zu ["self","x","y","a","b","grid"] Pf (Zm Kb):=fsc
abbrev PB:Stmt:=ZA (top 44) 2
abbrev QT:List Str:=["self",q8,q49,q75,"grid"]
theorem Hs:Zu ["self",q8,q49,q75,"grid","x","y"] QT (Zm PB):=fsc
abbrev L9:Stmt:=ZA (top 47) 4
abbrev Qn:List Str:=["self","x","y","a","b","grid"]
theorem zcM:Zu ["self","x","y","a","b","grid"] Qn (Zm L9):=fsc
abbrev Pp:Stmt:=ZA (top 44) 2
abbrev Qf:List Str:=["self",q8,q49,q75,"grid"]
theorem Im:Zu ["self",q8,q49,q75,"grid","x","y"] Qf (Zm Pp):=fsc
abbrev MC:Stmt:=top 22
abbrev PL:List Str:=["a","many"]
theorem zeH:Zu ["a","many"] PL (Zm MC):=fsc
abbrev OK:Stmt:=ZA (top 48) 4
abbrev O4:List Str:=["self",q8,q49,q75,"grid"]
theorem GN:Zu ["self",q8,q49,q75,"grid","lower","steep"] O4 (Zm OK):=fsc
abbrev L6:Stmt:=top 55
abbrev Si:List Str:=[q21,"box","grid"]
theorem Md:Zu [q21,"box","grid",q8,"found","node"] Si (Zm L6):=fsc
abbrev Lq:Stmt:=top 66
abbrev QM:List Str:=[q21,Ui,"box","grid"]
theorem zei:Zu [q21,Ui,"box","grid"] QM (Zm Lq):=fsc
abbrev Kl:Stmt:=top 2
abbrev Ud:List Str:=[q20,WY]
theorem zaP:Zu [q20,WY] Ud (Zm Kl):=fsc
abbrev Qe:Stmt:=top 3
abbrev V7:List Str:=[q94,"row",WX]
theorem BC:Zu [q94,"row",WX,"rest"] V7 (Zm Qe):=fsc
abbrev Uq:Stmt:=top 4
abbrev Xp:List Str:=[q94,"row",WX]
theorem O7:Zu [q94,"row",WX] Xp (Zm Uq):=fsc
abbrev XT:Stmt:=top 5
abbrev Y8:List Str:=[q94]
theorem Pa:Zu [q94] Y8 (Zm XT):=fsc
abbrev MW:Stmt:=top 6
abbrev Oh:List Str:=[q94,"whole","row",WX,"grid"]
theorem zat:Zu [q94,"whole","row",WX,"grid"] Oh (Zm MW):=fsc
abbrev Qm:Stmt:=top 7
abbrev RS:List Str:=[q94,"whole","row","grid"]
theorem zfQ:Zu [q94,"whole","row","grid"] RS (Zm Qm):=fsc
abbrev PJ:Stmt:=top 8
abbrev QY:List Str:=[q94,"grid"]
theorem Ad:Zu [q94,"grid","whole"] QY (Zm PJ):=fsc
abbrev N3:Stmt:=top 27
abbrev Sf:List Str:=["a"]
theorem zdI:Zu ["a"] Sf (Zm N3):=fsc
abbrev Qi:Stmt:=top 59
abbrev S7:List Str:=[q8]
theorem zev:Zu [q8] S7 (Zm Qi):=fsc
abbrev PN:Stmt:=top 60
abbrev UZ:List Str:=["box"]
theorem zgP:Zu ["box"] UZ (Zm PN):=fsc
abbrev Nr:Stmt:=top 61
abbrev Ti:List Str:=["ones","others","grid"]
theorem NJ:Zu ["ones","others","grid","total","one",Xs] Ti (Zm Nr):=fsc
abbrev OG:Stmt:=top 62
abbrev PQ:List Str:=["k",WX,"turns",q49,"grid"]
theorem El:Zu ["k",WX,"turns",q49,"grid","whole","column_slants"] PQ (Zm OG):=fsc
abbrev Uv:Stmt:=top 63
abbrev Qo:List Str:=["k","box","grid",Vf,"thin",q49]
theorem Sy:Zu ["k","box","grid",Vf,"thin",q49,"turns","centres","moved","lacks","ways"] Qo (Zm Uv):=fsc
abbrev RQ:Stmt:=top 64
abbrev Rx:List Str:=["box","grid","turn","thin",q49]
theorem AU:Zu ["box","grid","turn","thin",q49] Rx (Zm RQ):=fsc
abbrev LM:Stmt:=top 65
abbrev QF:List Str:=[q21,Ui,"box","grid"]
theorem zhM:Zu [q21,Ui,"box","grid"] QF (Zm LM):=fsc
abbrev NY:Stmt:=top 25
abbrev Ox:List Str:=["a","b"]
theorem zcp:Zu ["a","b"] Ox (Zm NY):=fsc
abbrev R0:Stmt:=top 68
abbrev RK:List Str:=["near","box"]
theorem zfk:Zu ["near","box"] RK (Zm R0):=fsc
abbrev QI:Stmt:=top 67
abbrev OI:List Str:=["rows",q8]
theorem zaa:Zu ["rows",q8] OI (Zm QI):=fsc
abbrev QQ:Stmt:=top 69
abbrev QO:List Str:=[q21,"rows","box","grid"]
theorem QS:Zu [q21,"rows","box","grid",Ui,q49,"turn","near"] QO (Zm QQ):=fsc
abbrev Ms:Stmt:=top 88
abbrev Ry:List Str:=[q21,"rows","box","grid",q8]
theorem Eg:Zu [q21,"rows","box","grid",q8,"found","thin"] Ry (Zm Ms):=fsc
abbrev ML:Stmt:=top 89
abbrev PY:List Str:=[q21,"rows","box","grid","fine"]
theorem MB:Zu [q21,"rows","box","grid","fine",q8,"fate"] PY (Zm ML):=fsc
abbrev Nh:Stmt:=top 90
abbrev OO:List Str:=["box","began"]
theorem zcn:Zu ["box","began"] OO (Zm Nh):=fsc
abbrev Nl:Stmt:=top 91
abbrev R9:List Str:=["book",q20]
theorem HX:Zu ["book",q20,"box","k"] R9 (Zm Nl):=fsc
abbrev LB:Stmt:=top 92
abbrev Of:List Str:=["book",q21,"rows","grid","fine",q20]
theorem Pr:Zu ["book",q21,"rows","grid","fine",q20,"began","box","fate"] Of (Zm LB):=fsc
abbrev MR:Stmt:=top 93
abbrev RE:List Str:=[q21,"rows","box","grid","fine","looks"]
theorem LN:Zu [q21,"rows","box","grid","fine","looks","book","time",q20] RE (Zm MR):=fsc
abbrev KA:Stmt:=top 108
abbrev RO:List Str:=["_law_ends","_law_share"]
theorem zfe:Zu ["_law_ends","_law_share"] RO (Zm KA):=fsc
abbrev Nu:Stmt:=top 109
abbrev OY:List Str:=[q50,"_law_spans",q54,q58]
theorem NU:Zu [q50,"_law_spans",q54,q58,"_law_a","_law_ends","_law_b"] OY (Zm Nu):=fsc
abbrev RV:Stmt:=top 110
abbrev Q4:List Str:=[q54,q47,NF,q58,"_law_fine"]
theorem UN:Zu [q54,q47,NF,q58,"_law_fine","_law_spans",q50,"_law_safe","_law_row_here","_law_span"] Q4 (Zm RV):=fsc
abbrev VI:Stmt:=top 111
abbrev Mo:List Str:=[q76]
theorem Ve:Zu [q76,Oz,q58,q54,q47,NF,"_law_fine","_law_looks","_law_book"] Mo (Zm VI):=fsc
theorem kfo {K:Fg}{f c:Addr}{m:Value}{n q:Str}{st:Stmt}(l:K.lookup f=some (fo n q st m c)):W.keepIn K (.ref f)=true:=by
 unfold W.keepIn;simp only[l]
theorem ifo {K:Fg}{f c:Addr}{m:Value}{n q:Str}{st:Stmt}(l:K.lookup f=some (fo n q st m c)):W.isFn K (.ref f)=true:=by
 unfold W.isFn W.typeIn;simp only[l];rfl
theorem lnc {n:Nat}{P:List Value->Prop}(h:∀a (us:List Value),us.length=n->P (a::us))(us:List Value)(e:us.length=n+1):P us:=by
 cases us with
 | nil=>cases e
 | cons a r=>exact h a r (Nat.succ.inj e)
theorem ln0 {P:List Value->Prop}(h:P []):∀us:List Value,us.length=0->P us:=λus e=>List.eq_nil_of_length_eq_zero e ▸ h
theorem ln1 {P:List Value->Prop}(h:∀a,P [a]):∀us:List Value,us.length=1->P us:=lnc λa=>ln0 (h a)
theorem ln2 {P:List Value->Prop}(h:∀a b,P [a,b]):∀us:List Value,us.length=2->P us:=lnc λa=>ln1 (h a)
theorem ln3 {P:List Value->Prop}(h:∀a b c,P [a,b,c]):∀us:List Value,us.length=3->P us:=lnc λa=>ln2 (h a)
theorem ln4 {P:List Value->Prop}(h:∀a b c d,P [a,b,c,d]):∀us:List Value,us.length=4->P us:=lnc λa=>ln3 (h a)
theorem ln5 {P:List Value->Prop}(h:∀a b c d e,P [a,b,c,d,e]):∀us:List Value,us.length=5->P us:=lnc λa=>ln4 (h a)
theorem ln6 {P:List Value->Prop}(h:∀a b c d e f,P [a,b,c,d,e,f]):∀us:List Value,us.length=6->P us:=lnc λa=>ln5 (h a)
abbrev Bn (n q:Str)(st:Stmt)(ps:List Str):Prop:=∀(kV doc pm:Value)(an:Option Addr)(cdv ct:Value)(us:List Value),us.length=ps.length->bindArgs (W.fnOf n q (VU st) (Xy st) (Zm st) .none kV doc pm an cdv ct) ⟨us,[]⟩=pure (ps.zip us)
abbrev fnA (K:Fg)(n:Str)(st:Stmt)(f:Addr)(m:Value)(c:Addr):Prop:=W.nsIn K mainGlobals n=some (some (.ref f))/\K.lookup f=some (fo n n st m c)/\W.codeIn K (.ref c) n=true
abbrev mdA (K:Fg)(C:Addr)(n q:Str)(st:Stmt)(f:Addr)(m:Value)(c:Addr):Prop:=W.findIn K (.ref C) n=some (some (.ref f))/\K.lookup f=some (fo n q st m c)/\W.codeIn K (.ref c) q=true
def dfo {K:Fg}{mg:Str->Option Value}{h:Heap}(X:K.In h)(G:h.Ns mainGlobals mg){n:Str}{st:Stmt}{f c:Addr}{m:Value}{ps:List Str}(a:fnA K n st f m c)(b:Bn n n st ps:=by first|exact λ_ _ _ _ _ _=>ln2 λ_ _=>rfl|exact λ_ _ _ _ _ _=>ln3 λ_ _ _=>rfl|exact λ_ _ _ _ _ _=>ln1 λ_=>rfl|exact λ_ _ _ _ _ _=>ln4 λ_ _ _ _=>rfl|exact λ_ _ _ _ _ _=>ln5 λ_ _ _ _ _=>rfl|exact λ_ _ _ _ _ _=>ln6 λ_ _ _ _ _ _=>rfl|exact λ_ _ _ _ _ _=>ln0 rfl):Df K mg n st ps:=⟨_,_,M5 (st:=st) a.2.1 a.2.2 (kfo a.2.1),W.mg_of X G a.1,(M5 (st:=st) a.2.1 a.2.2 (kfo a.2.1)).binds b⟩
def dmo {K:Fg}{C:Addr}{n q:Str}{st:Stmt}{f c:Addr}{m:Value}{ps:List Str}(a:mdA K C n q st f m c)(b:Bn n q st ps:=by first|exact λ_ _ _ _ _ _=>ln2 λ_ _=>rfl|exact λ_ _ _ _ _ _=>ln3 λ_ _ _=>rfl|exact λ_ _ _ _ _ _=>ln1 λ_=>rfl|exact λ_ _ _ _ _ _=>ln4 λ_ _ _ _=>rfl|exact λ_ _ _ _ _ _=>ln5 λ_ _ _ _ _=>rfl|exact λ_ _ _ _ _ _=>ln6 λ_ _ _ _ _ _=>rfl|exact λ_ _ _ _ _ _=>ln0 rfl):Dm K C n q st ps:=⟨_,_,M5 (st:=st) a.2.1 a.2.2 (kfo a.2.1),⟨a.1,ifo a.2.1,kfo a.2.1⟩,(M5 (st:=st) a.2.1 a.2.2 (kfo a.2.1)).binds b⟩
theorem J3 (P:Params):(kq P).lookup (nat_lit 801)=none:=by kernel_rfl
theorem in_kq {w:World}{h:Heap}(Y:(W.kHook kp ks Uj).says w h):(kq w.params).In h:=λa o e=>(show (kp w.params).In h from Y) a o (by
 show List.lookup a ((nat_lit 801,_)::kq w.params)=some o;rw[zV];cases q:a==nat_lit 801 with
 | false=>exact e
 | true=>
  rw[show a=nat_lit 801 by simpa using q,J3] at e;cases e)
theorem zch {w:World}{h:Heap}(Y:(W.kHook kp ks Uj).says w h):h.get? (nat_lit 801)=some { cls:=.none,data:=.fields #[] }:=(show (kp w.params).In h from Y) _ _ (by
 show List.lookup _ ((nat_lit 801,_)::kq w.params)=_;rw[zV];rfl)
theorem cd_eq (P:Params):(kq P).lookup (nat_lit 803)=some (co "to_look_at" "Book.to_look_at" 1295 1296 1297 1299 430 1 800 801 .none .none 802 1298):=by kernel_rfl
theorem An (P:Params)(h:Heap)(X:(kq P).In h):W.CodeHd h (nat_lit 803) (nat_lit 801):=⟨_,_,_,_,_,_,_,_,_,X _ _ (cd_eq P),rfl,rfl,rfl,rfl,rfl,rfl,rfl,rfl,by decide⟩
theorem ZL {C:Addr}{f:Str}{to:TDE}{dl:Ev}{S S1:Sto}{Q:DK}{n:Nat}{fs:List (Str×D)}{v:D}(hto:∀K:DK,K (.ref n) S1->to dl S K)(h:S1[n]?=some (.ins C fs))(hf:fs.lookup f=some v)(hq:Q v S1):MH C f to dl S Q:=by
 unfold MH;refine hto _ ?_;simp only[WI,h,if_pos,hf];exact hq
theorem XX {C:Addr}{f:Str}{to te:TDE}{dl:Ev}{S S1 S2:Sto}{E:Wj}{n:Nat}{fs:List (Str×D)}{v:D}(hte:∀K:DK,K v S1->te dl S K)(hto:∀K:DK,K (.ref n) S2->to dl S1 K)(h:S2[n]?=some (.ins C fs))(hl:fs.length<1000)(hq:E.nx dl (S2.set n (.ins C (SE f v fs)))):N7 C f to te E dl S:=by
 unfold N7;refine hte _ (hto _ ?_);simp only[WI,h,if_pos];exact⟨hl,hq⟩
theorem YL {C:Addr}{m:Str}{ex:Ev->Addr->Sto->Prop}{sd:Sd}{to:TDE}{t:TDA}{dl:Ev}{S S1:Sto}{Q:DK}{n:Nat}{fs:List (Str×D)}(hto:∀K:DK,K (.ref n) S1->to dl S K)(h:S1[n]?=some (.ins C fs))(hf:fs.lookup m=none)(hq:t dl S1 λds S2=>sd (.ref n::ds) S2 Q (ex dl)):U7 C m ex sd to t dl S Q:=by
 unfold U7;refine hto _ ?_;simp only[WI,h,if_pos];exact⟨hf,hq⟩
theorem T7 {to ti te:TDE}{dl:Ev}{S:Sto}{E:Wj}{n j:Nat}{k:Int}{xs:List D}{v:D}(hte:∀K:DK,K v S->te dl S K)(hto:∀K:DK,K (.ref n) S->to dl S K)(hti:∀K:DK,K (.int k) S->ti dl S K)(h:S[n]?=some (.lst xs))(hj:ixN xs.length k=some j)(hq:E.nx dl (S.set n (.lst (xs.set j v)))):MS to ti te E dl S:=by
 unfold MS;refine hte _ (hto _ (hti _ ?_));simp only[h,hj];exact hq
theorem Xg (h:S[n]?=some (.lst xs))(hq:Q (.int (xs.length:Nat)) S):irr T8 [.ref n] S Q:=by
 rw[U2];unfold T8;simp only[ZZ h rfl];exact hq
theorem Yg {S:Sto}{n a:Nat}{o u:Ob}(h:S[n]?=some o)(hn:a≠n):(S.set a u)[n]?=some o:=by rw[zW hn];exact h
theorem YE {S:Sto}{n:Nat}{o u:Ob}(h:S[n]?=some o):(S.set n u)[n]?=some u:=by
 have hk:=(zA.mp h).1;simp[hk]
theorem ZF {S:Sto}{n:Nat}{o:Ob}{T:Sto}(h:S[n]?=some o):(S++T)[n]?=some o:=by
 have hk:=(zA.mp h).1;rw[zI hk];exact h
theorem XD (T R:Sto)(u:Ob):(T++u::R)[T.length]?=some u:=by simp
theorem XG (T R:Sto)(u v:Ob):(T++u::R).set T.length v=T++v::R:=by simp
theorem Z8 {S:Sto}{n:Nat}{o:Ob}(h:S[n]?=some o):n<S.length:=(zA.mp h).1
theorem Vp {i n:Nat}{tb:TDS}{E:Wj}{dl:Ev}{S:Sto}{o:Ob}(W:Nat->Ev->Sto->Prop)(h0:W 0 dl S)(hk:∀k dl' S',W k dl' S'->S'[n]?=some o)
  (ht:∀(k:Nat)(x:D)(dl':Ev)(S':Sto)(nx ct:Ev->Sto->Prop),(Zv o)[k]?=some x->W k dl' S'->(∀dl2 S2,W (k+1) dl2 S2->nx dl2 S2)->tb { nx:=nx,rt:=E.rt,bk:=E.nx,ct:=ct } (dl'.set i (some x)) S')(he:∀dl' S',W (Zv o).length dl' S'->E.nx dl' S')(hL:Xl o=some o:=by rfl):
  (lAt S n).isSome=true/\∃W:Nat->Nat->Ev->Sto->Prop,(∃m,W 0 m dl S)/\∀k m dl S,W k m dl S->match lAt S n with
  | some o=>match (Zv o)[k]? with
   | some x=>tb { nx:=λdl' S'=>∃m',m'<m/\W (k+1) m' dl' S',rt:=E.rt,bk:=E.nx,ct:=λdl' S'=>∃m',m'<m/\W (k+1) m' dl' S' } (dl.set i (some x)) S
   | none=>E.nx dl S
  | none=>False:=by
 refine⟨by rw[ZZ (hk _ _ _ h0) hL];rfl,λk m dl' S'=>m+k=(Zv o).length/\W k dl' S',⟨(Zv o).length,by lia,h0⟩,?_⟩;rintro k m dl' S' ⟨hm,w⟩;rw[ZZ (hk _ _ _ w) hL];show (match (Zv o)[k]? with
   | some x=>tb { nx:=λdl' S''=>∃m',m'<m/\(m'+(k+1)=(Zv o).length/\W (k+1) dl' S''),rt:=E.rt,bk:=E.nx,ct:=λdl' S''=>∃m',m'<m/\(m'+(k+1)=(Zv o).length/\W (k+1) dl' S'') } (dl'.set i (some x)) S'
   | none=>E.nx dl' S')
 split
 ·rename_i x hx;have hk:k<(Zv o).length:=(zA.mp hx).1;exact ht k x dl' S' _ _ hx w λdl2 S2 w2=>⟨m-1,by lia,by lia,w2⟩
 ·rename_i hx;have hk:k=(Zv o).length:=by
   have:=yQ.mp hx;lia
  exact he dl' S' (hk ▸ w)
inductive Nd where
 | number (t b:Int)|unknown (k:Int)|plus (i j:Int)|minus (i j:Int)|times (i j:Int)|power (i n:Int)
def Nd.d:Nd->D
 | .number t b=>.tup [.str "number",.int t,.int b]
 | .unknown k=>.tup [.str "unknown",.int k]
 | .plus i j=>.tup [.str "plus",.int i,.int j]
 | .minus i j=>.tup [.str "minus",.int i,.int j]
 | .times i j=>.tup [.str "times",.int i,.int j]
 | .power i n=>.tup [.str "power",.int i,.int n]
def Nd.ob (cN cU cP cM cT cW:Addr):Nd->Ob
 | .number t b=>.ins cN [("top",.int t),("bottom",.int b)]
 | .unknown k=>.ins cU [("place",.int k)]
 | .plus i j=>.ins cP [("one",.int i),("other",.int j)]
 | .minus i j=>.ins cM [("one",.int i),("other",.int j)]
 | .times i j=>.ins cT [("one",.int i),("other",.int j)]
 | .power i n=>.ins cW [("one",.int i),("many",.int n)]
def inR (m i:Int):Prop:=0<=i/\i<m
def Nd.ok (m q:Int):Nd->Prop
 | .number t b=>(1<=b/\b<=10^9)/\Int.gcd t b=1/\t.natAbs<=10^9
 | .unknown k=>inR q k
 | .plus i j=>inR m i/\inR m j
 | .minus i j=>inR m i/\inR m j
 | .times i j=>inR m i/\inR m j
 | .power i n=>inR m i/\2<=n/\n<=6
def frD (p:Int×Int):D:=.tup [.int p.1,.int p.2]
abbrev gt (vs:LI)(i:Int):Int×Int:=vs.getD i.toNat (0,1)
theorem Ko (h:inR vs.length i):gt vs i∈vs:=by
 obtain⟨h0,h1⟩:=h;have hk:i.toNat<vs.length:=by lia
 have e:gt vs i=vs[i.toNat]:=by simp[gt,hk]
 rw[e];exact yM hk
theorem ZP (h:inR vs.length i):atI (vs.map frD) i=some (frD (gt vs i)):=by
 obtain⟨h0,h1⟩:=h;have hk:i.toNat<vs.length:=by lia
 have z:=YF (xs:=vs.map frD) (j:=i.toNat) (v:=frD (gt vs i)) (by rw[zE,zD hk];simp[gt,hk]);rw[show ((i.toNat:Nat):Int)=i by lia] at z;exact z
theorem BR {α:Type}{xs:List D}{lo hi:Option Int}:(Yd xs lo hi).length<=xs.length:=by
 unfold L3.Yd;rw[zL,List.length_drop];lia
structure UW (a b c d mn mx:Int):Prop where
 lo:mn=a*c\/mn=a*d\/mn=b*c\/mn=b*d
 l1:mn<=a*c
 l2:mn<=a*d
 l3:mn<=b*c
 l4:mn<=b*d
 hi:mx=a*c\/mx=a*d\/mx=b*c\/mx=b*d
 h1:a*c<=mx
 h2:a*d<=mx
 h3:b*c<=mx
 h4:b*d<=mx
theorem UW.of {a b c d mn mx:Int}(m1:mn∈[a*c,a*d,b*c,b*d])(m2:∀y∈[a*c,a*d,b*c,b*d],mn<=y)(x1:mx∈[a*c,a*d,b*c,b*d])(x2:∀y∈[a*c,a*d,b*c,b*d],y<=mx):UW a b c d mn mx:=by
 simp only[zR,yX,or_false] at m1 x1;exact⟨m1,m2 _ (by simp),m2 _ (by simp),m2 _ (by simp),m2 _ (by simp),x1,x2 _ (by simp),x2 _ (by simp),x2 _ (by simp),x2 _ (by simp)⟩
structure WZ (a b:Int)(n:Nat)(m M:Int):Prop where
 lo:m=a^n\/m=b^n\/(a<0/\0<b/\m=0)
 l1:m<=a^n
 l2:m<=b^n
 l3:a<0->0<b->m<=0
 hi:M=a^n\/M=b^n
 h1:a^n<=M
 h2:b^n<=M
theorem zpow (h:1<=n):(0:Int)^n=0:=by
 cases n with
 | zero=>lia
 | succ k=>rw[xE,Int.mul_zero]
theorem WZ.of {a b g mn mx:Int}{n:Nat}(hg:1<=g){l:List Int}(hl:l=[a^n*g,b^n*g]/\¬ (a<0/\0<b)\/l=[a^n*g,b^n*g,0^n*g]/\a<0/\0<b)(hn:1<=n)(m1:mn∈l)(m2:∀y∈l,mn<=y)(x1:mx∈l)(x2:∀y∈l,y<=mx):
  ∃m M,WZ a b n m M/\mn=m*g/\mx=M*g:=by
 have can:∀ {x y:Int},x*g<=y*g->x<=y:=λ{x y} h=>Int.le_of_mul_le_mul_right h (by omega)
 rcases hl with ⟨rfl,hz⟩|⟨rfl,hz1,hz2⟩
 ·simp only[zR,yX,or_false] at m1 x1;have a1:=m2 (a^n*g) (by simp)
  have a2:=m2 (b^n*g) (by simp)
  have b1:=x2 (a^n*g) (by simp)
  have b2:=x2 (b^n*g) (by simp);obtain⟨m,hm,em⟩:∃m,(m=a^n\/m=b^n)/\mn=m*g:=by
   rcases m1 with e|e
   ·exact⟨_,.inl rfl,e⟩
   ·exact⟨_,.inr rfl,e⟩
  obtain⟨M,hM,eM⟩:∃m,(m=a^n\/m=b^n)/\mx=m*g:=by
   rcases x1 with e|e
   ·exact⟨_,.inl rfl,e⟩
   ·exact⟨_,.inr rfl,e⟩
  subst em eM;exact⟨m,M,⟨hm.elim .inl λe=>.inr (.inl e),can a1,can a2,λc1 c2=>absurd ⟨c1,c2⟩ hz,hM,can b1,can b2⟩,rfl,rfl⟩
 ·rw[zpow hn,Int.zero_mul] at m1 m2 x1 x2;simp only[zR,yX,or_false] at m1 x1;have a1:=m2 (a^n*g) (by simp)
  have a2:=m2 (b^n*g) (by simp)
  have a3:=m2 0 (by simp)
  have b1:=x2 (a^n*g) (by simp)
  have b2:=x2 (b^n*g) (by simp)
  have b3:=x2 0 (by simp);obtain⟨m,hm,em⟩:∃m,(m=a^n\/m=b^n\/m=0)/\mn=m*g:=by
   rcases m1 with e|e|e
   ·exact⟨_,.inl rfl,e⟩
   ·exact⟨_,.inr (.inl rfl),e⟩
   ·exact⟨0,.inr (.inr rfl),by rw[e,Int.zero_mul]⟩
  have bp:(0:Int)<=b^n:=Int.pow_nonneg (by omega)
  have bg:=Int.mul_nonneg bp (show 0<=g by omega);obtain⟨M,hM,eM⟩:∃m,(m=a^n\/m=b^n)/\mx=m*g:=by
   rcases x1 with e|e|e
   ·exact⟨_,.inl rfl,e⟩
   ·exact⟨_,.inr rfl,e⟩
   ·exact⟨_,.inr rfl,by omega⟩
  subst em eM;refine⟨m,M,⟨?_,can a1,can a2,λ_ _=>can (by rw[Int.zero_mul];exact a3),hM,can b1,can b2⟩,rfl,rfl⟩;rcases hm with e|e|e
  ·exact .inl e
  ·exact .inr (.inl e)
  ·exact .inr (.inr ⟨hz1,hz2,e⟩)
theorem Tz {m g:Int}{n:Nat}(hg:1<=g)(hn:1<=n):m*g/g^n=m/g^(n-1):=by
 obtain⟨k,rfl⟩:∃k,n=k+1:=⟨n-1,by lia⟩;rw[xE,Nat.add_sub_cancel,Int.mul_ediv_mul_of_pos_left _ _ (by lia)]
def mn4 (a b c d:Int):Int:=min (min (a*c) (a*d)) (min (b*c) (b*d))
def mx4 (a b c d:Int):Int:=max (max (a*c) (a*d)) (max (b*c) (b*d))
theorem UW.eq {a b c d mn mx:Int}(h:UW a b c d mn mx):mn=mn4 a b c d/\mx=mx4 a b c d:=by
 obtain⟨h0,h1,h2,h3,h4,h5,h6,h7,h8,h9⟩:=h;unfold mn4 mx4;omega
def Xj (a b:Int)(n:Nat):Int:=if n%2=0/\a<=0/\0<=b then 0 else min (a^n) (b^n)
def Vv (a b:Int)(n:Nat):Int:=max (a^n) (b^n)
theorem MF {n:Nat}(h:n%2=0)(x:Int):0<=x^n:=by
 obtain⟨k,rfl⟩:∃k,n=k+k:=⟨n/2,by lia⟩;rw[Int.pow_add];by_cases c:0<=x^k
 ·exact Int.mul_nonneg c c
 ·have:=Int.mul_nonneg (show 0<=-(x^k) by lia) (show 0<=-(x^k) by lia);rw[Int.neg_mul_neg] at this;exact this
theorem zhz {n:Nat}(h:n%2=1){x:Int}(hx:x<0):x^n<0:=by
 obtain⟨k,rfl⟩:∃k,n=k+1:=⟨n-1,by lia⟩;have z:=MF (n:=k) (by lia) x
 have nz:∀k:Nat,x^k≠0:=λk=>by
  induction k with
  | zero=>rw[Int.pow_zero];decide
  | succ k ih=>rw[xE];exact Int.mul_ne_zero ih (by lia)
 have nz:=nz k
 have:=Int.mul_pos (show 0<x^k by lia) (show 0 < -x by lia);rw[Int.mul_neg] at this;rw[xE];lia
theorem WZ.eq {a b m M:Int}{n:Nat}(h:WZ a b n m M)(hn:1<=n):m=Xj a b n/\M=Vv a b n:=by
 obtain⟨h0,h1,h2,h3,h4,h5,h6⟩:=h;refine⟨?_,by unfold Vv;lia⟩;unfold Xj;split
 ·rename_i c;obtain⟨c1,c2,c3⟩:=c;have e1:=MF c1 a
  have e2:=MF c1 b;by_cases z:a<0/\0<b
  ·have:=h3 z.1 z.2;lia
  ·have z':a=0\/b=0:=by lia
   rcases z' with rfl|rfl
   ·rw[zpow hn] at h1;lia
   ·rw[zpow hn] at h2;lia
 ·rename_i c;have hz:a<0->0<b->m≠0:=λa1 b1 e=>by
   by_cases p:n%2=0
   ·exact c ⟨p,by lia,by lia⟩
   ·have:=zhz (n:=n) (by lia) a1;lia
  lia
def Nd.fw (vs bs:LI)(g:Int):Nd->Int×Int
 | .number t b=>(t*g/b,-(-(t*g)/b))
 | .unknown k=>gt bs k
 | .plus i j=>((gt vs i).1+(gt vs j).1,(gt vs i).2+(gt vs j).2)
 | .minus i j=>((gt vs i).1-(gt vs j).2,(gt vs i).2-(gt vs j).1)
 | .times i j=>(mn4 (gt vs i).1 (gt vs i).2 (gt vs j).1 (gt vs j).2/g,-(-mx4 (gt vs i).1 (gt vs i).2 (gt vs j).1 (gt vs j).2/g))
 | .power i n=>(Xj (gt vs i).1 (gt vs i).2 n.toNat/g^(n.toNat-1),-(-Vv (gt vs i).1 (gt vs i).2 n.toNat/g^(n.toNat-1)))
def Spn (B:Nat)(vs:LI):Prop:=∀p∈vs,p.1<=p.2/\Sz B p.1/\Sz B p.2
theorem Spn.at {B:Nat}{vs:LI}(h:Spn B vs){i:Int}(hi:inR vs.length i):(gt vs i).1<=(gt vs i).2/\Sz B (gt vs i).1/\Sz B (gt vs i).2:=h _ (Ko hi)
theorem Spn.mono {B C:Nat}{vs:LI}(h:Spn B vs)(hc:B<=C):Spn C vs:=λp hp=>⟨(h p hp).1,(h p hp).2.1.mono hc,(h p hp).2.2.mono hc⟩
theorem TJ (hg:1<=g)(h:m<=M):m/g<=-(-M/g):=by
 have h1:=Int.ediv_mul_le m (show g≠0 by lia)
 have h2:=Int.ediv_mul_le (-M) (show g≠0 by lia)
 have:m/g*g<=-(-M/g)*g:=by rw[xD];lia
 exact Int.le_of_mul_le_mul_right this (by lia)
theorem GO (a b:Int)(n:Nat):Xj a b n<=Vv a b n:=by
 unfold Xj Vv;split
 ·rename_i c;have:=MF c.1 a;lia
 ·lia
theorem DW (a b c d:Int):mn4 a b c d<=mx4 a b c d:=by unfold mn4 mx4;lia
theorem Nd.fw_le (h1:Spn B vs)(h2:Spn B bs)(hg:1<=g):∀v:Nd,v.ok vs.length bs.length->(v.fw vs bs g).1<=(v.fw vs bs g).2
 | .number t b,ok=>TJ ok.1.1 (yA _)
 | .unknown k,ok=>(h2.at ok).1
 | .plus i j,ok=>by
  have a:=(h1.at ok.1).1
  have b:=(h1.at ok.2).1
  show (gt vs i).1+(gt vs j).1<=(gt vs i).2+(gt vs j).2;lia
 | .minus i j,ok=>by
  have a:=(h1.at ok.1).1
  have b:=(h1.at ok.2).1
  show (gt vs i).1-(gt vs j).2<=(gt vs i).2-(gt vs j).1;lia
 | .times i j,ok=>TJ hg (DW _ _ _ _)
 | .power i n,ok=>TJ (yE (by lia)) (GO _ _ _)
theorem TQ (p:Int×Int):Sco n (frD p):=VL
def U4 (p q:Int×Int):Option (Int×Int):=if (if q.2<p.2 then q.2 else p.2)<(if q.1 > p.1 then q.1 else p.1) then none else some (if q.1 > p.1 then q.1 else p.1,if q.2<p.2 then q.2 else p.2)
theorem zft {p q r:Int×Int}(h:U4 p q=some r):r.1<=r.2:=by
 have go:∀lo hi:Int,(if hi<lo then none else some (lo,hi))=some r->r.1<=r.2:=λlo hi e=>by
  split at e
  ·cases e
  ·rename_i c;cases e;exact Int.not_lt.mp c
 exact go _ _ h
def ptD (q:Int×(Int×Int)):D:=.tup [.int q.1,.tup [.int q.2.1,.int q.2.2]]
theorem YX {a b:TDS}{E:Wj}{dl:Ev}{S:Sto}(W:Ev->Sto->Prop)(ha:∀nx:Ev->Sto->Prop,(∀dl' S',W dl' S'->nx dl' S')->a { nx:=nx,rt:=E.rt,bk:=E.bk,ct:=E.ct } dl S)(hb:∀dl' S',W dl' S'->b E dl' S'):Wx a b E dl S:=ha _ hb
theorem FQ {a b c:TDS}{E:Wj}{dl:Ev}{S:Sto}(W:Ev->Sto->Prop)(ha:∀nx:Ev->Sto->Prop,(∀dl' S',W dl' S'->nx dl' S')->Wx a b { nx:=nx,rt:=E.rt,bk:=E.bk,ct:=E.ct } dl S)(hb:∀dl' S',W dl' S'->c E dl' S'):Wx a (Wx b c) E dl S:=ha _ hb
theorem Uw (h:Sz n m)(hg:1<=g):Sz n (-(-m/g)):=(h.neg.div hg).neg
theorem VJ (ha:Sz n a)(hb:Sz n b):Sz n (min a b):=by unfold Sz at *;lia
theorem Vh (ha:Sz n a)(hb:Sz n b):Sz n (max a b):=by unfold Sz at *;lia
theorem QP (vs:LI)(k:Nat)(p:Int×Int):(vs.map frD).set k (frD p)=(vs.set k p).map frD:=(List.map_set).symm
theorem TK {n:Nat}{i:Int}(h:inR n i):ixN n i=some i.toNat:=by
 obtain⟨h0,h1⟩:=h;unfold ixN;split<;>first|lia|rfl|(split<;>first|lia|rfl)
def Nd.wt (ws:List Nat):Nd->Nat
 | .number _ _=>1
 | .unknown _=>1
 | .plus i j=>ws.getD i.toNat 0+ws.getD j.toNat 0
 | .minus i j=>ws.getD i.toNat 0+ws.getD j.toNat 0
 | .times i j=>ws.getD i.toNat 0+ws.getD j.toNat 0
 | .power i n=>n.toNat*ws.getD i.toNat 0
structure ZT (q:Int)(ns:List Nd)(ws:List Nat):Prop where
 len:ws.length=ns.length
 ok:∀(k:Nat)(v:Nd),ns[k]?=some v->v.ok k q/\ws.getD k 0=v.wt ws/\1<=v.wt ws/\v.wt ws<=16
theorem ZT.w1 {q:Int}{ns:List Nd}{ws:List Nat}(h:ZT q ns ws){i:Int}(hi:inR ns.length i):1<=ws.getD i.toNat 0/\ws.getD i.toNat 0<=16:=by
 obtain⟨h0,h1⟩:=hi;have hk:i.toNat<ns.length:=(by lia);obtain⟨_,e,a,b⟩:=h.ok i.toNat _ (zD hk);lia
theorem ZT.w2 {q:Int}{ns:List Nd}{ws:List Nat}(h:ZT q ns ws):∀v:Nd,v.ok ns.length q->1<=v.wt ws/\v.wt ws<=96
 | .number _ _,_=>⟨zC 1,show 1<=96 by decide⟩
 | .unknown _,_=>⟨zC 1,show 1<=96 by decide⟩
 | .plus i j,ok=>by have a:=h.w1 ok.1;have b:=h.w1 ok.2;simp only[Nd.wt];lia
 | .minus i j,ok=>by have a:=h.w1 ok.1;have b:=h.w1 ok.2;simp only[Nd.wt];lia
 | .times i j,ok=>by have a:=h.w1 ok.1;have b:=h.w1 ok.2;simp only[Nd.wt];lia
 | .power i n,ok=>by
  have a:=h.w1 ok.1
  have n2:=ok.2.1
  have n6:=ok.2.2
  have m1:=Nat.mul_le_mul (show 1<=n.toNat by lia) a.1
  have m2:=Nat.mul_le_mul (show n.toNat<=6 by lia) a.2;simp only[Nd.wt];lia
theorem Cz (h:k<ws.length):(ws++[w]).getD k 0=ws.getD k 0:=by
 rw[zT,zT,zI h]
theorem CD (hk:k<=ws.length):∀v:Nd,v.ok k q->v.wt (ws++[w])=v.wt ws:=by
 have e:∀i:Int,inR k i->(ws++[w]).getD i.toNat 0=ws.getD i.toNat 0:=λi hi=>Cz (by have a:=hi.1;have b:=hi.2;lia)
 intro v ok;cases v with
 | number _ _=>rfl
 | unknown _=>rfl
 | plus i j=>show _+_=_+_;rw[e i ok.1,e j ok.2]
 | minus i j=>show _+_=_+_;rw[e i ok.1,e j ok.2]
 | times i j=>show _+_=_+_;rw[e i ok.1,e j ok.2]
 | power i n=>show _*_=_*_;rw[e i ok.1]
theorem ZT.snoc {q:Int}{ns:List Nd}{ws:List Nat}(h:ZT q ns ws){v:Nd}(ok:v.ok ns.length q)(h16:v.wt ws<=16):ZT q (ns++[v]) (ws++[v.wt ws]):=by
 refine⟨by simp[h.len],λk u hu=>?_⟩;by_cases hk:k<ns.length
 ·rw[zI hk] at hu;obtain⟨a,b,c,d⟩:=h.ok k u hu;have e:=CD (w:=v.wt ws) (q:=q) (k:=k) (by rw[h.len];lia) u a;rw[e,Cz (by rw[h.len];exact hk)];exact⟨a,b,c,d⟩
 ·have hl:=(zA.mp hu).1;simp only[zP,zU,yY] at hl;have ek:k=ns.length:=by lia
  subst ek;simp at hu;subst hu;have e:=CD (w:=v.wt ws) (q:=q) (k:=ns.length) (by rw[h.len];lia) v ok;rw[e];refine⟨ok,?_,(h.w2 v ok).1,h16⟩;rw[<- h.len];simp
theorem ZT.take {q:Int}{ns:List Nd}{ws:List Nat}(h:ZT q ns ws)(n:Nat):ZT q (ns.take n) (ws.take n):=by
 have e:∀k:Nat,k<n->(ws.take n).getD k 0=ws.getD k 0:=λk hk=>by
  rw[zT,zT,List.getElem?_take_of_lt hk]
 refine⟨by simp[h.len],λk u hu=>?_⟩;have hl:=(zA.mp hu).1;rw[zL] at hl;have hk:k<n:=by lia
 rw[List.getElem?_take_of_lt hk] at hu;obtain⟨a,b,c,d⟩:=h.ok k u hu;have e2:u.wt (ws.take n)=u.wt ws:=by
  have f:∀i:Int,inR k i->(ws.take n).getD i.toNat 0=ws.getD i.toNat 0:=λi hi=>e _ (by have:=hi.1;have:=hi.2;lia)
  cases u with
  | number _ _=>rfl
  | unknown _=>rfl
  | plus i j=>show _+_=_+_;rw[f i a.1,f j a.2]
  | minus i j=>show _+_=_+_;rw[f i a.1,f j a.2]
  | times i j=>show _+_=_+_;rw[f i a.1,f j a.2]
  | power i m=>show _*_=_*_;rw[f i a.1]
 rw[e2,e k hk];exact⟨a,b,c,d⟩
def ZC (bs:LI)(g:Int)(ns:List Nd):LI:=ns.foldl (λacc v=>acc++[v.fw acc bs g]) []
theorem OA (bs:LI)(g:Int)(ns:List Nd)(v:Nd):ZC bs g (ns++[v])=ZC bs g ns++[v.fw (ZC bs g ns) bs g]:=by
 unfold ZC;rw[List.foldl_append];rfl
theorem Y9 {α:Type}{xs:List α}{k:Nat}{x:α}(h:xs[k]?=some x):xs.take (k+1)=xs.take k++[x]:=by rw[List.take_succ,h];rfl
theorem Xk (bs:LI)(g:Int)(ns:List Nd):(ZC bs g ns).length=ns.length:=by
 have z:∀k,k<=ns.length->(ZC bs g (ns.take k)).length=k:=λk=>by
  induction k with
  | zero=>intro _;rfl
  | succ k ih=>
   intro hk;rw[Y9 (zD (show k<ns.length by lia)),OA];simp[ih (by lia)]
 have:=z ns.length (zC _)
 rwa [yF] at this
theorem zfK (bs:LI)(g:Int)(ns:List Nd)(k:Nat):k<=ns.length->(ZC bs g ns).take k=ZC bs g (ns.take k):=by
 have z:∀m,k<=m->m<=ns.length->(ZC bs g (ns.take m)).take k=ZC bs g (ns.take k):=λm=>by
  induction m with
  | zero=>
   intro h1 _;have:k=0:=by lia
   subst this;rfl
  | succ m ih=>
   intro h1 h2;by_cases e:k=m+1
   ·subst e;rw[yR (by rw[Xk,zL];lia)]
   ·rw[Y9 (zD (show m<ns.length by lia)),OA,List.take_append_of_le_length (by rw[Xk,zL];lia)];exact ih (by lia) (by lia)
 intro hk;have:=z ns.length hk (zC _)
 rwa [yF] at this
def SzW (ws:List Nat)(vs:LI):Prop:=∀(k:Nat)(p:Int×Int),vs[k]?=some p->p.1<=p.2/\Sz (60*ws.getD k 0-1) p.1/\Sz (60*ws.getD k 0-1) p.2
theorem SzW.at {ws:List Nat}{vs:LI}(h:SzW ws vs){i:Int}(hi:inR vs.length i):(gt vs i).1<=(gt vs i).2/\Sz (60*ws.getD i.toNat 0-1) (gt vs i).1/\Sz (60*ws.getD i.toNat 0-1) (gt vs i).2:=by
 obtain⟨h0,h1⟩:=hi;have hk:i.toNat<vs.length:=by lia
 have e:gt vs i=vs[i.toNat]:=by simp[gt,hk]
 rw[e];exact h _ _ (zD hk)
theorem fw_w (hs:SzW ws vs)(hb:Spn 51 bs)(hg:1<=g/\g<=1000000)(hw:∀i:Int,inR vs.length i->1<=ws.getD i.toNat 0):∀v:Nd,v.ok vs.length bs.length->Sz (60*v.wt ws-1) (v.fw vs bs g).1/\Sz (60*v.wt ws-1) (v.fw vs bs g).2
 | .number t b,ok=>by
  have z:Sz 52 (t*g):=(Sz.of (n:=31) (10^9) ok.2.2).mul (Sz.of (n:=21) (10^6) (show g.natAbs<=_ by lia));exact⟨(z.div ok.1.1).mono (show 52<=60*1-1 by decide),(Uw z ok.1.1).mono (show 52<=60*1-1 by decide)⟩
 | .unknown k,ok=>⟨(hb.at ok).2.1.mono (show 51<=60*1-1 by decide),(hb.at ok).2.2.mono (show 51<=60*1-1 by decide)⟩
 | .plus i j,ok=>by
  have a:=hs.at ok.1
  have b:=hs.at ok.2
  have p:=hw i ok.1
  have q:=hw j ok.2;exact⟨(a.2.1.add b.2.1).mono (by simp only[Nd.wt];lia),(a.2.2.add b.2.2).mono (by simp only[Nd.wt];lia)⟩
 | .minus i j,ok=>by
  have a:=hs.at ok.1
  have b:=hs.at ok.2
  have p:=hw i ok.1
  have q:=hw j ok.2;exact⟨(a.2.1.sub b.2.2).mono (by simp only[Nd.wt];lia),(a.2.2.sub b.2.1).mono (by simp only[Nd.wt];lia)⟩
 | .times i j,ok=>by
  have a:=hs.at ok.1
  have b:=hs.at ok.2
  have p:=hw i ok.1
  have q:=hw j ok.2
  have le:∀ {x y:Int},Sz (60*ws.getD i.toNat 0-1) x->Sz (60*ws.getD j.toNat 0-1) y->Sz (60*Nd.wt ws (.times i j)-1) (x*y):=λh1 h2=>(h1.mul h2).mono (by simp only[Nd.wt];lia)
  have l:=VJ (VJ (le a.2.1 b.2.1) (le a.2.1 b.2.2)) (VJ (le a.2.2 b.2.1) (le a.2.2 b.2.2))
  have u:=Vh (Vh (le a.2.1 b.2.1) (le a.2.1 b.2.2)) (Vh (le a.2.2 b.2.1) (le a.2.2 b.2.2));exact⟨l.div hg.1,Uw u hg.1⟩
 | .power i n,ok=>by
  have a:=hs.at ok.1
  have p:=hw i ok.1
  have n2:=ok.2.1
  have gp:(1:Int)<=g^(n.toNat-1):=yE (by lia)
  have hn:(60*ws.getD i.toNat 0-1)*n.toNat+1<=60*Nd.wt ws (.power i n)-1:=by
   simp only[Nd.wt];rw[Nat.sub_mul,Nat.one_mul];have e:60*ws.getD i.toNat 0*n.toNat=60*(n.toNat*ws.getD i.toNat 0):=by rw[Nat.mul_assoc,Nat.mul_comm (ws.getD i.toNat 0)]
   have m1:=Nat.mul_le_mul (zC n.toNat) p;lia
  have p1:Sz (60*Nd.wt ws (.power i n)-1) ((gt vs i).1^n.toNat):=(a.2.1.pow _).mono hn
  have p2:Sz (60*Nd.wt ws (.power i n)-1) ((gt vs i).2^n.toNat):=(a.2.2.pow _).mono hn
  have l:Sz (60*Nd.wt ws (.power i n)-1) (Xj (gt vs i).1 (gt vs i).2 n.toNat):=by
   unfold Xj;split
   ·exact(Sz.of (n:=1) 0 (by decide)).mono (by have:=Nat.mul_le_mul (show 1<=n.toNat by lia) p;simp only[Nd.wt];lia)
   ·exact VJ p1 p2
  exact⟨l.div gp,Uw (Vh p1 p2) gp⟩
theorem Spn.of_w {ws:List Nat}{vs:LI}(h:SzW ws vs)(hw:∀k:Nat,k<vs.length->ws.getD k 0<=16):Spn 1000 vs:=λp hp=>by
 obtain⟨k,hk,e⟩:=yK.mp hp;obtain⟨a,b,c⟩:=h k p (by rw[zD hk,e]);have:=hw k hk;exact⟨a,b.mono (by lia),c.mono (by lia)⟩
theorem Cq {q:Int}{ns:List Nd}{ws:List Nat}{bs:LI}{g:Int}(h:ZT q ns ws)(hq:q=bs.length)(hb:Spn 51 bs)(hg:1<=g/\g<=1000000):∀k,k<=ns.length->SzW ws (ZC bs g (ns.take k)):=λk=>by
 induction k with
 | zero=>intro _ i p hp;simp[ZC] at hp
 | succ k ih=>
  intro hk;have hv:=zD (show k<ns.length by lia)
  have s:=ih (by lia)
  have ln:(ZC bs g (ns.take k)).length=k:=by rw[Xk,zL];lia
  obtain⟨ok,e,_,_⟩:=h.ok k _ hv;rw[Y9 hv,OA];have okv:(ns[k]).ok (ZC bs g (ns.take k)).length bs.length:=by rw[ln,<- hq];exact ok
  have w1:∀i:Int,inR (ZC bs g (ns.take k)).length i->1<=ws.getD i.toNat 0:=λi hi=>(h.w1 (i:=i) (by rw[ln] at hi;exact⟨hi.1,by have:=hi.2;lia⟩)).1
  have z:=fw_w s hb hg w1 ns[k] okv
  have l:((ns[k]).fw (ZC bs g (ns.take k)) bs g).1<=((ns[k]).fw (ZC bs g (ns.take k)) bs g).2:=by
   refine Nd.fw_le (B:=6000) ?_ (hb.mono (by decide)) hg.1 _ okv;intro p hp;obtain⟨i,hi,ei⟩:=yK.mp hp;obtain⟨a,b,c⟩:=s i p (by rw[zD hi,ei]);have:=(h.w1 (i:=i) ⟨by lia,by rw[ln] at hi;lia⟩).2;rw[zN] at this;exact⟨a,b.mono (by lia),c.mono (by lia)⟩
  intro i p hp;by_cases hi:i<k
  ·rw[zI (by rw[ln];exact hi)] at hp;exact s i p hp
  ·have hl:=(zA.mp hp).1;simp only[zP,zU,yY,ln] at hl;have ei:i=k:=by lia
   subst ei;rw[yB (by rw[ln];exact zC _),ln,Nat.sub_self] at hp;simp at hp;subst hp;rw[e];exact⟨l,z⟩
theorem NG {q:Int}{ns:List Nd}{ws:List Nat}{bs:LI}{g:Int}(h:ZT q ns ws)(hq:q=bs.length)(hb:Spn 51 bs)(hg:1<=g/\g<=1000000)(k:Nat)(hk:k<=ns.length):Spn 1000 (ZC bs g (ns.take k)):=
 Spn.of_w (Cq h hq hb hg k hk) λi hi=>by
  rw[Xk,zL] at hi;have:=(h.w1 (i:=i) ⟨by lia,by lia⟩).2
  rwa [zN] at this
theorem Xz (h:Pre S T)(hn:S.length<=n):Pre S (T.set n o):=λk u e=>by
 have hk:=(zA.mp e).1;rw[zW (by lia)];exact h k u e
theorem Wg (h:Pre S T)(U:Sto):Pre S (T++U):=λk u e=>ZF (h k u e)
theorem zg3 {to te:TDE}{dl:Ev}{S S1 S2:Sto}{Q:DK}{n:Nat}{xs:List D}{y:D}(hto:∀K:DK,K (.ref n) S1->to dl S K)(h:S1[n]?=some (.lst xs))(hte:∀K:DK,K y S2->te dl S1 K)(h2:S2[n]?=some (.lst xs))(hl:xs.length<1000)(hq:Q .non (S2.set n (.lst (xs++[y])))):WL to te dl S Q:=by
 unfold WL;refine hto _ ?_;simp only[h];refine hte _ ?_;simp only[h2,if_pos hl];exact hq
theorem Hw (u v:Nd):∃b,eqN 1 u.d v.d=some b:=by cases u<;>cases v<;>exact⟨_,rfl⟩
theorem zdG (u:Nd):eqN 1 u.d u.d=some true:=by cases u<;>simp[Nd.d,eqN,L3.eqT,eqL,eqF]
theorem Kd (v:Nd):∀ns:List Nd,∃b,Xr (eqN 1) (ns.map Nd.d) v.d=some b
 | []=>⟨false,rfl⟩
 | u::us=>by
  obtain⟨b,e⟩:=Hw u v;obtain⟨c,e2⟩:=Kd v us;refine⟨b||c,?_⟩;show (match eqN 1 u.d v.d,Xr (eqN 1) (us.map Nd.d) v.d with|some b,some c=>some (b||c)|_,_=>none)=_;rw[e,e2]
theorem zij {v:Nd}{ns:List Nd}{n:Nat}{S:Sto}{Q:DK}(h:S[n]?=some (.lst (ns.map Nd.d)))(hq:∀b:Bool,Q (.bl b) S):Xh (wIn 1 true) v.d (.ref n) S Q:=by
 obtain⟨b,e⟩:=Kd v ns;rw[Ww];unfold wIn;simp only[ZZ h rfl,Zv,e];exact hq _
def wtD (w:Nat):D:=.int (w:Int)
theorem V9 {ws:List Nat}{i:Int}(h:inR ws.length i):atI (ws.map wtD) i=some (.int ((ws.getD i.toNat 0:Nat):Int)):=by
 obtain⟨h0,h1⟩:=h;have hk:i.toNat<ws.length:=by lia
 have z:=YF (xs:=ws.map wtD) (j:=i.toNat) (v:=wtD (ws.getD i.toNat 0)) (by rw[zE,zD hk];simp[hk]);rw[show ((i.toNat:Nat):Int)=i by lia] at z;exact z
theorem zcT (q:Nat):ZT q ((List.range q).map λ(k:Nat)=>Nd.unknown (k:Int)) ((List.range q).map λ_=>1):=by
 refine⟨by simp,λk v hv=>?_⟩;have hl:=(zA.mp hv).1;simp only[zB,List.length_range] at hl;rw[zE,List.getElem?_range hl] at hv;cases hv;refine⟨⟨by lia,by lia⟩,?_,zC _,show 1<=16 by decide⟩;simp[Nd.wt,hl]
theorem zgd {u v:Nd}(h:eqN 1 u.d v.d=some true):u=v:=by
 cases u<;>cases v<;>simp[Nd.d,eqN,L3.eqT,eqL,eqF] at h
 all_goals first|(obtain⟨rfl,rfl⟩:=h;rfl)|(subst h;rfl)|exact absurd h.1 (by decide)
theorem IC (v:Nd):∀ns:List Nd,∃o:Option Nat,XJ (eqN 1) (ns.map Nd.d) v.d=some o/\Xr (eqN 1) (ns.map Nd.d) v.d=some o.isSome/\∀j,o=some j->ns[j]?=some v
 | []=>⟨none,rfl,rfl,λj h=>by cases h⟩
 | u::us=>by
  obtain⟨b,e⟩:=Hw u v;obtain⟨o,h1,h2,h3⟩:=IC v us;have f1:XJ (eqN 1) ((u::us).map Nd.d) v.d=(match eqN 1 u.d v.d,XJ (eqN 1) (us.map Nd.d) v.d with|some true,some _=>some (some 0)|some false,some o=>some (o.map (·+1))|_,_=>none):=rfl
  have f2:Xr (eqN 1) ((u::us).map Nd.d) v.d=(match eqN 1 u.d v.d,Xr (eqN 1) (us.map Nd.d) v.d with|some b,some c=>some (b||c)|_,_=>none):=rfl;rw[f1,f2,e,h1,h2];cases b with
  | true=>exact⟨some 0,rfl,rfl,λj hj=>by
    cases hj;rw[zgd e];rfl⟩
  | false=>exact⟨o.map (·+1),rfl,by cases o<;>rfl,λj hj=>by
    cases o with
    | none=>cases hj
    | some i=>
     cases hj;exact h3 i rfl⟩
theorem Al {v:Nd}{ns:List Nd}{n j:Nat}{to:TDE}{t:TDA}{dl:Ev}{S:Sto}{Q:DK}(hto:∀K:DK,K (.ref n) S->to dl S K)(ht:∀K:List D->Sto->Prop,K [v.d] S->t dl S K)(h:S[n]?=some (.lst (ns.map Nd.d)))(e:XJ (eqN 1) (ns.map Nd.d) v.d=some (some j))(hq:Q (.int (j:Int)) S):Sn 1 to t dl S Q:=by
 unfold Sn;refine hto _ ⟨by rw[ZZ h rfl];rfl,ht _ ?_⟩;unfold QD;simp only[ZZ h rfl,Zv,e];exact hq
theorem Tg {caps:List Nat}{ta:TDA}{te:TDE}{dl:Ev}{S S1:Sto}{Q:DK}{n n':Nat}{xs ys:List D}(g:D->D->D)(hta:∀K:List D->Sto->Prop,K [.ref n,.ref n'] S1->ta dl S K)(h1:S1[n]?=some (.lst xs))(h2:S1[n']?=some (.lst ys))(hl:xs.length<=1000)
  (ht:∀(k:Nat)(x y:D),xs[k]?=some x->ys[k]?=some y->∀(S2:Sto)(K:DK),Pre S1 S2->K (g x y) S2->te (some x::some y::Yc caps dl) S2 K)(hq:Q (.ref S1.length) (S1++[.lst (List.zipWith g xs ys)])):SF caps ta te dl S Q:=by
 unfold SF;refine hta _ ⟨⟨by rw[ZZ h1 rfl];rfl,by rw[ZZ h2 rfl];rfl⟩,λk m S2=>S2=S1++[.lst (List.zipWith g (xs.take k) (ys.take k))]/\m+k=min xs.length ys.length,⟨min xs.length ys.length,by simp,by lia⟩,?_⟩;rintro k m S2 ⟨rfl,hm⟩;rw[ZZ (VR h1) rfl,ZZ (VR h2) rfl];dsimp only[Zv];split
 ·rename_i x y hx hy;have hk:k<xs.length:=(zA.mp hx).1
  have hk':k<ys.length:=(zA.mp hy).1;unfold Cf;refine ht k x y hx hy _ _ Pre.refl.push ?_;rw[Zz];refine⟨by simp;lia,m-1,by lia,?_,by lia⟩;have e:xs.take (k+1)=xs.take k++[x]:=by rw[List.take_succ,hx];rfl
  have e':ys.take (k+1)=ys.take k++[y]:=by rw[List.take_succ,hy];rfl
  rw[e,e',List.zipWith_append (by rw[zL,zL];lia),Vi];rfl
 ·rename_i no;have hk:min xs.length ys.length<=k:=by
   by_cases l:k<min xs.length ys.length
   ·exact absurd (zD (l:=ys) (i:=k) (by lia)) (no _ _ (zD (l:=xs) (i:=k) (by lia)))
   ·lia
  refine⟨by lia,?_⟩;have e:List.zipWith g (xs.take k) (ys.take k)=List.zipWith g xs ys:=by
   rw[<- List.take_zipWith,yR (by rw[List.length_zipWith];exact hk)]
  rw[e];exact hq
theorem zhH (h:k<=m):∀ {v:Nd},v.ok k q->v.ok m q:=λ{v} ok=>by
 have z:∀i:Int,inR k i->inR m i:=λi hi=>⟨hi.1,by have:=hi.2;lia⟩
 cases v with
 | number _ _=>exact ok
 | unknown _=>exact ok
 | plus i j=>exact⟨z _ ok.1,z _ ok.2⟩
 | minus i j=>exact⟨z _ ok.1,z _ ok.2⟩
 | times i j=>exact⟨z _ ok.1,z _ ok.2⟩
 | power i n=>exact⟨z _ ok.1,ok.2⟩
theorem zdD {vs:LI}{k:Nat}{i:Int}(h:inR k i):gt (vs.take k) i=gt vs i:=by
 have:=h.1
 have:=h.2;unfold gt;rw[zT,zT,List.getElem?_take_of_lt (by lia)]
theorem zdQ {vs us:LI}{k:Nat}{i:Int}(h:inR k i)(hk:k<=vs.length):gt (vs++us) i=gt vs i:=by
 have:=h.1
 have:=h.2;unfold gt;rw[zT,zT,zI (by lia)]
theorem gt_at {vs:LI}{k:Nat}{p:Int×Int}(h:vs[k]?=some p):gt vs (k:Int)=p:=by
 unfold gt;rw[zT,zN,h];rfl
theorem Sz.pow' (h:Sz n i)(hk:1<=k):Sz (n*k) (i^k):=by
 unfold Sz at *
 rw[Int.natAbs_pow,Nat.pow_mul];exact Nat.pow_lt_pow_left h (by lia)
theorem SzW.spn (h:SzW ws vs)(hw:∀k:Nat,k<vs.length->ws.getD k 0<=16):Spn 1000 vs:=Spn.of_w h hw
theorem zht {vs:LI}{p:Int×Int}{k:Nat}(h:vs.length=k):gt (vs++[p]) (k:Int)=p:=by
 subst h;simp[gt]
def Pz (B:Nat)(vs:LI):Prop:=∀p∈vs,1<=p.2/\Sz B p.1/\Sz B p.2
theorem Pz.at {B:Nat}{vs:LI}(h:Pz B vs){i:Int}(hi:inR vs.length i):1<=(gt vs i).2/\Sz B (gt vs i).1/\Sz B (gt vs i).2:=h _ (Ko hi)
def Nd.due (vs ps:LI):Nd->Int×Int
 | .number t b=>(t,b)
 | .unknown k=>gt ps k
 | .plus i j=>((gt vs i).1*(gt vs j).2+(gt vs j).1*(gt vs i).2,(gt vs i).2*(gt vs j).2)
 | .minus i j=>((gt vs i).1*(gt vs j).2-(gt vs j).1*(gt vs i).2,(gt vs i).2*(gt vs j).2)
 | .times i j=>((gt vs i).1*(gt vs j).1,(gt vs i).2*(gt vs j).2)
 | .power i n=>((gt vs i).1^n.toNat,(gt vs i).2^n.toNat)
def PzW (ws:List Nat)(vs:LI):Prop:=∀(k:Nat)(p:Int×Int),vs[k]?=some p->1<=p.2/\Sz (112*ws.getD k 0-2) p.1/\Sz (112*ws.getD k 0-2) p.2
theorem PzW.at {ws:List Nat}{vs:LI}(h:PzW ws vs){i:Int}(hi:inR vs.length i):1<=(gt vs i).2/\Sz (112*ws.getD i.toNat 0-2) (gt vs i).1/\Sz (112*ws.getD i.toNat 0-2) (gt vs i).2:=by
 obtain⟨h0,h1⟩:=hi;have hk:i.toNat<vs.length:=by lia
 have e:gt vs i=vs[i.toNat]:=by simp[gt,hk]
 rw[e];exact h _ _ (zD hk)
theorem due_w (hs:PzW ws vs)(hp:Pz 110 ps)(hw:∀i:Int,inR vs.length i->1<=ws.getD i.toNat 0):∀v:Nd,v.ok vs.length ps.length->1<=(v.due vs ps).2/\Sz (112*v.wt ws-2) (v.due vs ps).1/\Sz (112*v.wt ws-2) (v.due vs ps).2
 | .number t b,ok=>⟨ok.1.1,(Sz.of (n:=31) (10^9) ok.2.2).mono (show 31<=112*1-2 by decide),(Sz.of (n:=31) (10^9) (by have:=ok.1;show b.natAbs<=_;lia)).mono (show 31<=112*1-2 by decide)⟩
 | .unknown k,ok=>⟨(hp.at ok).1,(hp.at ok).2.1.mono (show 110<=112*1-2 by decide),(hp.at ok).2.2.mono (show 110<=112*1-2 by decide)⟩
 | .plus i j,ok=>by
  have a:=hs.at ok.1
  have b:=hs.at ok.2
  have p:=hw i ok.1
  have q:=hw j ok.2;exact⟨Int.mul_pos (show 0<_ by lia) (show 0<_ by lia),((a.2.1.mul b.2.2).add (b.2.1.mul a.2.2)).mono (by simp only[Nd.wt];lia),(a.2.2.mul b.2.2).mono (by simp only[Nd.wt];lia)⟩
 | .minus i j,ok=>by
  have a:=hs.at ok.1
  have b:=hs.at ok.2
  have p:=hw i ok.1
  have q:=hw j ok.2;exact⟨Int.mul_pos (show 0<_ by lia) (show 0<_ by lia),((a.2.1.mul b.2.2).sub (b.2.1.mul a.2.2)).mono (by simp only[Nd.wt];lia),(a.2.2.mul b.2.2).mono (by simp only[Nd.wt];lia)⟩
 | .times i j,ok=>by
  have a:=hs.at ok.1
  have b:=hs.at ok.2
  have p:=hw i ok.1
  have q:=hw j ok.2;exact⟨Int.mul_pos (show 0<_ by lia) (show 0<_ by lia),(a.2.1.mul b.2.1).mono (by simp only[Nd.wt];lia),(a.2.2.mul b.2.2).mono (by simp only[Nd.wt];lia)⟩
 | .power i n,ok=>by
  have a:=hs.at ok.1
  have p:=hw i ok.1
  have n2:=ok.2.1
  have hn:(112*ws.getD i.toNat 0-2)*n.toNat+1<=112*Nd.wt ws (.power i n)-2:=by
   simp only[Nd.wt];rw[Nat.sub_mul];have e:112*ws.getD i.toNat 0*n.toNat=112*(n.toNat*ws.getD i.toNat 0):=by rw[Nat.mul_assoc,Nat.mul_comm (ws.getD i.toNat 0)]
   have m1:=Nat.mul_le_mul (zC n.toNat) p;lia
  exact⟨yE (show 0<_ by lia),(a.2.1.pow _).mono hn,(a.2.2.pow _).mono hn⟩
def ZQ (ps:LI)(ns:List Nd):LI:=ns.foldl (λacc v=>acc++[v.due acc ps]) []
theorem Q9 (ps:LI)(ns:List Nd)(v:Nd):ZQ ps (ns++[v])=ZQ ps ns++[v.due (ZQ ps ns) ps]:=by
 unfold ZQ;rw[List.foldl_append];rfl
theorem Pe (ps:LI)(ns:List Nd):(ZQ ps ns).length=ns.length:=by
 have z:∀k,k<=ns.length->(ZQ ps (ns.take k)).length=k:=λk=>by
  induction k with
  | zero=>intro _;rfl
  | succ k ih=>
   intro hk;rw[Y9 (zD (show k<ns.length by lia)),Q9];simp[ih (by lia)]
 have y:=z ns.length (zC _)
 rwa [yF] at y
theorem zgl (h:PzW ws vs)(lk:vs.length=k)(hp:1<=p.2/\Sz (112*ws.getD k 0-2) p.1/\Sz (112*ws.getD k 0-2) p.2):PzW ws (vs++[p]):=λi q hq=>by
 by_cases hi:i<k
 ·rw[zI (by lia)] at hq;exact h i q hq
 ·have hl:=(zA.mp hq).1;simp only[zP,zU,yY,lk] at hl;have ei:i=k:=by lia
  subst ei;rw[yB (by lia),lk,Nat.sub_self] at hq;simp at hq;subst hq;exact hp
theorem zeS {q:Int}{ns:List Nd}{ws:List Nat}(h:ZT q ns ws){k:Nat}{vs:LI}(hk:k<=ns.length)(lv:vs.length=k):∀i:Int,inR vs.length i->1<=ws.getD i.toNat 0:=λi hi=>(h.w1 (i:=i) ⟨hi.1,by have:=hi.2;lia⟩).1
theorem CI {q:Int}{ns:List Nd}{ws:List Nat}{ps:LI}(h:ZT q ns ws)(hq:q=ps.length)(hp:Pz 110 ps):∀k,k<=ns.length->PzW ws (ZQ ps (ns.take k)):=by
 intro k
 induction k with
 | zero=>intro _ i p hp;simp[ZQ] at hp
 | succ k ih=>
  intro hk;have hv:=zD (show k<ns.length by lia)
  have s:=ih (by lia)
  have ln:(ZQ ps (ns.take k)).length=k:=by rw[Pe,zL];lia
  obtain⟨ok,e,_,_⟩:=h.ok k _ hv;rw[Y9 hv,Q9];refine zgl s ln ?_;rw[e];exact due_w s hp (zeS h (by lia) ln) _ (by rw[ln,<- hq];exact ok)
theorem Pz.of_w {ws:List Nat}{vs:LI}(h:PzW ws vs)(hw:∀k:Nat,k<vs.length->ws.getD k 0<=16):Pz 1800 vs:=λp hp=>by
 obtain⟨k,hk,e⟩:=yK.mp hp;obtain⟨a,b,c⟩:=h k p (by rw[zD hk,e]);have:=hw k hk;exact⟨a,b.mono (by lia),c.mono (by lia)⟩
theorem zdR {v:Nd}{ns:List Nd}{n:Nat}{S:Sto}{Q:DK}{o:Option Nat}(h:S[n]?=some (.lst (ns.map Nd.d)))(e:Xr (eqN 1) (ns.map Nd.d) v.d=some o.isSome)(hq:Q (.bl (!o.isSome)) S):Xh (wIn 1 true) v.d (.ref n) S Q:=by
 rw[Ww];unfold wIn;simp only[ZZ h rfl,Zv,e];exact hq
theorem any_some:∀ {ns:List Nd} {k:Nat},ns[k]?=some v->Xr (eqN 1) (ns.map Nd.d) v.d≠some (none:Option Nat).isSome
 | [],k,h=>by simp at h
 | u::us,0,h=>by
  have e:u=v:=by simpa using h
  subst e;show (match eqN 1 u.d u.d,Xr (eqN 1) (us.map Nd.d) u.d with|some b,some c=>some (b||c)|_,_=>none)≠_;obtain⟨c,hc⟩:=Kd u us;rw[zdG,hc];simp
 | u::us,k+1,h=>by
  have ih:=any_some (ns:=us) (k:=k) (by simpa using h)
  show (match eqN 1 u.d v.d,Xr (eqN 1) (us.map Nd.d) v.d with|some b,some c=>some (b||c)|_,_=>none)≠_;obtain⟨b,hb⟩:=Hw u v;obtain⟨c,hc⟩:=Kd v us;rw[hc] at ih;rw[hb,hc];cases c
  ·exact absurd rfl ih
  ·simp
theorem Cp {vs us ps:LI}{k:Nat}{q:Int}(h:∀i:Int,inR k i->gt vs i=gt us i):∀v:Nd,v.ok k q->v.due vs ps=v.due us ps
 | .number _ _,_=>rfl
 | .unknown _,_=>rfl
 | .plus i j,ok=>by simp only[Nd.due,h i ok.1,h j ok.2]
 | .minus i j,ok=>by simp only[Nd.due,h i ok.1,h j ok.2]
 | .times i j,ok=>by simp only[Nd.due,h i ok.1,h j ok.2]
 | .power i n,ok=>by simp only[Nd.due,h i ok.1]
theorem E4 (P:LI)(ns:List Nd):∀ms:List Nd,∃r,ZQ P (ns++ms)=ZQ P ns++r
 | []=>⟨[],by rw[xA,xA]⟩
 | v::ms=>by
  obtain⟨r,e⟩:=E4 P (ns++[v]) ms;rw[yT] at e;refine⟨v.due (ZQ P ns) P::r,?_⟩;rw[show ns++v::ms=ns++([v]++ms) from rfl,e,Q9,yT];rfl
theorem K0 {P:LI}{ns ms:List Nd}{i:Int}(h:inR ns.length i):gt (ZQ P (ns++ms)) i=gt (ZQ P ns) i:=by
 obtain⟨r,e⟩:=E4 P ns ms;rw[e];exact zdQ (k:=ns.length) h (by rw[Pe];exact zC _)
theorem zae {P:LI}{ns:List Nd}{ws:List Nat}{q:Int}{j:Nat}{v:Nd}(net:ZT q ns ws)(h:ns[j]?=some v):gt (ZQ P ns) (j:Int)=v.due (ZQ P ns) P:=by
 have hj:=(zA.mp h).1
 have e:ns=ns.take (j+1)++ns.drop (j+1):=(List.take_append_drop _ _).symm
 have e2:ns=ns.take j++ns.drop j:=(List.take_append_drop _ _).symm
 have l:(ns.take (j+1)).length=j+1:=by rw[zL];lia
 have lj:(ns.take j).length=j:=by rw[zL];lia
 have g1:gt (ZQ P ns) (j:Int)=gt (ZQ P (ns.take (j+1))) (j:Int):=by
  have z:=K0 (P:=P) (ns:=ns.take (j+1)) (ms:=ns.drop (j+1)) (i:=(j:Int)) ⟨by lia,by rw[l];lia⟩;rw[<- e] at z;exact z
 rw[g1,Y9 h,Q9,zht (by rw[Pe,lj])];refine Cp (k:=j) (q:=q) (λi hi=>?_) v (net.ok j v h).1;have z:=K0 (P:=P) (ns:=ns.take j) (ms:=ns.drop j) (i:=i) (by rw[lj];exact hi);rw[<- e2] at z;exact z.symm
theorem zbu {ws us:List Nat}{i:Nat}(h:i<ws.length):(ws++us).getD i 0=ws.getD i 0:=by rw[zT,zT,zI h]
structure Gr (q a c:Nat)(S:Sto)(ns:List Nd)(ws:List Nat)(T:Sto)(ns':List Nd)(ws':List Nat):Prop where
 net:ZT q ns' ws'
 pn:∃ms,ns'=ns++ms/\ms.length<=c
 pw:∃us,ws'=ws++us
 nd:T[a]?=some (.lst (ns'.map Nd.d))
 len:S.length<=T.length
 kp:∀(x:Nat)(o:Ob),x≠a->S[x]?=some o->T[x]?=some o
theorem Gr.refl {q a:Nat}{S:Sto}{ns:List Nd}{ws:List Nat}(net:ZT q ns ws)(h:S[a]?=some (.lst (ns.map Nd.d))):Gr q a 0 S ns ws S ns ws:=⟨net,⟨[],by simp,by simp⟩,⟨[],by simp⟩,h,zC _,λ_ _ _ e=>e⟩
theorem Gr.trans {q a c d:Nat}{S T U:Sto}{ns ns' ns2:List Nd}{ws ws' ws2:List Nat}(h:Gr q a c S ns ws T ns' ws')(k:Gr q a d T ns' ws' U ns2 ws2):Gr q a (c+d) S ns ws U ns2 ws2:=by
 obtain⟨n1,⟨ms,rfl,l1⟩,⟨us,rfl⟩,a1,e1,k1⟩:=h;obtain⟨n2,⟨ms2,rfl,l2⟩,⟨us2,rfl⟩,a2,e2,k2⟩:=k;exact⟨n2,⟨ms++ms2,by rw[yT],by rw[zP];lia⟩,⟨us++us2,by rw[yT]⟩,a2,by lia,λx o hx e=>k2 x o hx (k1 x o hx e)⟩
theorem Gr.mono {q a c d:Nat}{S T:Sto}{ns ns':List Nd}{ws ws':List Nat}(h:Gr q a c S ns ws T ns' ws')(l:c<=d):Gr q a d S ns ws T ns' ws':=by
 obtain⟨n1,⟨ms,e,l1⟩,u,a1,e1,k1⟩:=h;exact⟨n1,⟨ms,e,by lia⟩,u,a1,e1,k1⟩
theorem Gr.ln {q a c:Nat}{S T:Sto}{ns ns':List Nd}{ws ws':List Nat}(h:Gr q a c S ns ws T ns' ws'):ns.length<=ns'.length/\ns'.length<=ns.length+c:=by
 obtain⟨n1,⟨ms,rfl,l1⟩,_⟩:=h;rw[zP];lia
theorem Gr.wt {q a c:Nat}{S T:Sto}{ns ns':List Nd}{ws ws':List Nat}(h:Gr q a c S ns ws T ns' ws')(net:ZT q ns ws){i:Nat}(hi:i<ns.length):ws'.getD i 0=ws.getD i 0:=by
 obtain⟨us,rfl⟩:=h.pw;exact zbu (by rw[net.len];exact hi)
theorem Gr.due {q a c:Nat}{S T:Sto}{ns ns':List Nd}{ws ws':List Nat}(h:Gr q a c S ns ws T ns' ws')(P:LI){i:Nat}(hi:i<ns.length):gt (ZQ P ns') (i:Int)=gt (ZQ P ns) (i:Int):=by
 obtain⟨ms,rfl,_⟩:=h.pn;exact K0 ⟨by lia,by lia⟩
theorem Gr.put {q a c n:Nat}{S T:Sto}{ns ns':List Nd}{ws ws':List Nat}{o:Ob}(h:Gr q a c S ns ws T ns' ws')(ha:n≠a)(hn:S.length<=n):Gr q a c S ns ws (T.set n o) ns' ws':=by
 obtain⟨n1,pn,pw,a1,e1,k1⟩:=h;refine⟨n1,pn,pw,Yg a1 ha,by rw[yC];exact e1,λx u hx e=>Yg (k1 x u hx e) ?_⟩;have:=Z8 e;lia
theorem Gr.push {q a:Nat}{S:Sto}{ns:List Nd}{ws:List Nat}(net:ZT q ns ws)(h:S[a]?=some (.lst (ns.map Nd.d)))(U:Sto):Gr q a 0 S ns ws (S++U) ns ws:=⟨net,⟨[],by simp,by simp⟩,⟨[],by simp⟩,ZF h,by simp,λ_ _ _ e=>ZF e⟩
structure Zr (P:LI)(ns:List Nd)(ws:List Nat)(w i:Nat):Prop where
 lt:i<ns.length
 wt:ws.getD i 0<=w
 due:(gt (ZQ P ns) (i:Int)).1=0
theorem zfz {q a c:Nat}{S T:Sto}{ns ns':List Nd}{ws ws':List Nat}(h:Gr q a c S ns ws T ns' ws')(net:ZT q ns ws){v:Nd}(ok:v.ok ns.length q):v.wt ws'=v.wt ws:=by
 have z:∀i:Int,inR (ns.length:Nat) i->ws'.getD i.toNat 0=ws.getD i.toNat 0:=λi hi=>by
  have h0:=hi.1
  have h1:=hi.2;exact h.wt net (by lia)
 cases v with
 | number _ _=>rfl
 | unknown _=>rfl
 | plus i j=>show ws'.getD i.toNat 0+ws'.getD j.toNat 0=ws.getD i.toNat 0+ws.getD j.toNat 0;rw[z i ok.1,z j ok.2]
 | minus i j=>show ws'.getD i.toNat 0+ws'.getD j.toNat 0=ws.getD i.toNat 0+ws.getD j.toNat 0;rw[z i ok.1,z j ok.2]
 | times i j=>show ws'.getD i.toNat 0+ws'.getD j.toNat 0=ws.getD i.toNat 0+ws.getD j.toNat 0;rw[z i ok.1,z j ok.2]
 | power i n=>show n.toNat*ws'.getD i.toNat 0=n.toNat*ws.getD i.toNat 0;rw[z i ok.1]
theorem zaw {q a c j:Nat}{S T:Sto}{ns ns':List Nd}{ws ws':List Nat}(h:Gr q a c S ns ws T ns' ws'){v:Nd}(ok:v.ok ns.length q)(hj:ns'[j]?=some v)(P:LI):gt (ZQ P ns') (j:Int)=v.due (ZQ P ns) P:=by
 rw[zae (P:=P) h.net hj];refine Cp (k:=ns.length) (q:=q) (λi hi=>?_) v ok;have h0:=hi.1
 have h1:=hi.2
 have z:=h.due P (i:=i.toNat) (by lia);rw[show ((i.toNat:Nat):Int)=i by lia] at z;exact z
structure Tight (x0 x1:Int)(V Sp:Int->Int->Prop)(L U:Int):Prop where
 all:∀p q,0<q->x0*q<=p->p<=x1*q->V p q->L*q<=p/\p<=U*q
 lo:∃p q,Sp p q/\0<q/\x0*q<=p/\p<=x1*q/\V p q/\p<(L+1)*q
 hi:∃p q,Sp p q/\0<q/\x0*q<=p/\p<=x1*q/\V p q/\(U-1)*q<p
theorem dl (m:Int){g:Int}(hg:0<g):m/g*g<=m/\m<(m/g+1)*g:=by
 have h1:=Int.emod_add_mul_ediv m g
 have h2:=Int.emod_nonneg m (show g≠0 by lia)
 have h3:=Int.emod_lt_of_pos m hg
 have e:(m/g+1)*g=g*(m/g)+g:=by grind
 have e2:m/g*g=g*(m/g):=Int.mul_comm _ _;lia
theorem can {a b c:Int}(h:a*c<=b*c)(hc:0<c):a<=b:=Int.le_of_mul_le_mul_right h hc
structure Low (x0 x1 lo hi lb hb L:Int):Prop where
 all:∀p q,0<q->x0*q<=p->lo*q<=p*lb->L*q<=p
 ex:∃p q,(p=x0/\q=1\/p=lo/\q=lb)/\0<q/\x0*q<=p/\p<=x1*q/\(lo*q<=p*lb/\p*hb<=hi*q)/\p<(L+1)*q
structure Side (lo hi x0 x1 c d:Int):Prop where
 hz:lo<=hi
 hx:x0<=x1
 h0:0<=c
 hcd:c<=d
 hd:0<d
section
variable {lo hi x0 x1 c d:Int}
end
abbrev mx0 (a:Int):Int:=if 0 > a then 0 else a
section
variable {lo hi x0 x1 y0 y1 L U L' U' l u:Int}
variable (hz:lo<=hi)(hy:y0<=y1)(nb:¬ ((y0<=0/\0<=y1)/\lo<=0/\0<=hi))
include hz hy nb
end
theorem if2 {a b:Prop} [Decidable a] [Decidable b] {A B:Prop}(h1:a->b->A)(h2:¬ (a/\b)->B):if (decide a&&decide b)=true then A else B:=by
 by_cases z:a/\b
 ·rw[decide_eq_true z.1,decide_eq_true z.2];exact Y4 (h1 z.1 z.2)
 ·have e:(decide a&&decide b)=false:=by
   simp only[Bool.and_eq_false_iff,decide_eq_false_iff_not];by_cases y:a
   ·exact .inr λy2=>z ⟨y,y2⟩
   ·exact .inl y
  rw[e];exact YY (h2 z)
theorem and2 {a b:Prop} [Decidable a] [Decidable b] {Q:DK}{S:Sto}(h:Q (.bl (decide a&&decide b)) S):if decide a=true then Q (.bl (decide b)) S else Q (.bl false) S:=
 ifD (λe=>by rw[decide_eq_true e,Bool.true_and] at h;exact h) (λe=>by rw[decide_eq_false e,Bool.false_and] at h;exact h)
theorem Ak (a:Int):0<=mx0 a:=by unfold mx0;split<;>lia
theorem D6 (h:Sz 1400 a):Sz 1400 (mx0 a):=by
 unfold mx0;split
 ·exact Sz.of 0 (by decide)
 ·exact h
theorem cut {a b c t2:TDS}{E:Wj}{dl:Ev}{S:Sto}{α:Type}(G:α->Ev)(P:α->Prop)(h:(∀a,P a->t2 E (G a) S)->Wx a (Wx b (Wx c t2)) E dl S)(main:∀a,P a->t2 E (G a) S):Wx a (Wx b (Wx c t2)) E dl S:=h main
def Mt (n:Nat)(lo hi l h:Int):Prop:=((n%2=0/\l<0/\0<h)/\0<=hi\/¬ (n%2=0/\l<0/\0<h)/\(l^n<=hi\/h^n<=hi))/\(lo<=l^n\/lo<=h^n)
structure Rts (n:Nat)(lo hi al bl ah bh:Int):Prop where
 hz:lo<=hi
 hn:1<=n
 nn:n%2=0->0<=al/\0<=ah
 up:∀t:Int,n%2=1\/0<=t->(t^n<=hi↔t<=ah)
 dn:∀t:Int,n%2=1\/0<=t->(lo<=t^n↔bl<=t)
 el:bl=al/\(bl^n=lo\/bl=0/\n%2=0)\/bl=al+1/\bl^n≠lo
 eh:bh=ah/\ah^n=hi\/bh=ah+1/\ah^n≠hi
section
variable {n:Nat}{lo hi al bl ah bh:Int}
structure Least (n:Nat)(lo hi x0 x1 m:Int):Prop where
 a:x0<=m
 b:m<=x1
 c:Mt n lo hi x0 m
 d:∀k,x0<=k->k<m->¬ Mt n lo hi x0 k
def Em (n:Nat)(lo hi x0 x1 v:Int):Prop:=∃m,Least n lo hi x0 x1 m/\(m=x0/\v=x0\/m≠x0/\(((m-1)^n<lo/\m^n=lo\/(m-1)^n > hi/\m^n=hi)/\v=m\/¬ ((m-1)^n<lo/\m^n=lo\/(m-1)^n > hi/\m^n=hi)/\v=m-1))
end
structure V4 (n:Nat)(lo hi x0 x1 L U:Int):Prop where
 m:Mt n lo hi x0 x1
 low:∀v,Em n lo hi x0 x1 v->v=L
 he:n%2=0->∀v,Em n lo hi (-x1) (-x0) v->v=-U
 ho:n%2=1->∀v,Em n (-hi) (-lo) (-x1) (-x0) v->v=-U
 lu:L<=U
 has:∀t,x0<=t->t<=x1->lo<=t^n->t^n<=hi->L<=t/\t<=U
section
variable {n:Nat}{lo hi al bl ah bh x0 x1:Int}
end
theorem Sz.mid {n:Nat}{a b x:Int}(ha:Sz n a)(hb:Sz n b)(h1:a<=x)(h2:x<=b):Sz n x:=by
 unfold Sz at *
 generalize 2^n=B at *
 lia
theorem zg0 (hn:2<=n)(s:Sz 1300 N):Sz 652 (1*2^((Builtin.Int.intBits N:Int)/n+1).toNat):=by
 have b:=s.bits;rw[Int.one_mul];unfold Sz;rw[Int.natAbs_pow];have e:(2:Int).natAbs=2:=rfl;rw[e];refine Nat.pow_lt_pow_right (by decide) ?_;have d:(Builtin.Int.intBits N:Int)/n<=650:=by
  have h1:(Builtin.Int.intBits N:Int)/n<=(Builtin.Int.intBits N:Int)/2:=by
   refine(Int.le_ediv_iff_mul_le (by lia)).mpr ?_;have d1:=Int.emod_add_mul_ediv (Builtin.Int.intBits N:Int) n
   have d2:=Int.emod_nonneg (Builtin.Int.intBits N:Int) (show n≠0 by lia)
   have d3:=Int.ediv_nonneg (show (0:Int)<=(Builtin.Int.intBits N:Int) by lia) (show 0<=n by lia)
   have d4:=Int.mul_le_mul_of_nonneg_right hn d3
   have d5:(Builtin.Int.intBits N:Int)/n*2=2*((Builtin.Int.intBits N:Int)/n):=Int.mul_comm _ _;lia
  lia
 lia
theorem Aq {caps:List Nat}{tl te:TDE}{dl:Ev}{S S1:Sto}{Q:DK}{n:Nat}{o:Ob}(W:Nat->List D->Sto->Prop)(htl:∀K:DK,K (.ref n) S1->tl dl S K)(h1:S1[n]?=some o)(hw:∀k ys S2,W k ys S2->S2[n]?=some o/\S2[S1.length]?=some (.lst ys)/\ys.length=k)(hl:(Zv o).length<=1000)(h0:W 0 [] (S1++[.lst []]))
  (ht:∀(k:Nat)(x:D)(ys:List D)(S2:Sto)(K:DK),(Zv o)[k]?=some x->W k ys S2->(∀y S3,S3[S1.length]?=some (.lst ys)->W (k+1) (ys++[y]) (S3.set S1.length (.lst (ys++[y])))->K y S3)->te (some x::Yc caps dl) S2 K)
  (hq:∀ys S2,W (Zv o).length ys S2->Q (.ref S1.length) S2)(hL:Xl o=some o:=by rfl):X9 caps tl Xa te dl S Q:=by
 unfold X9;refine htl _ ⟨by rw[ZZ h1 hL];rfl,λk m S2=>(∃ys,W k ys S2)/\m+k=(Zv o).length,⟨(Zv o).length,⟨_,h0⟩,by lia⟩,?_⟩;rintro k m S2 ⟨⟨ys,w⟩,hm⟩;obtain⟨w1,w2,w3⟩:=hw _ _ _ w;rw[ZZ w1 hL];dsimp only;split
 ·rename_i x hx;have hk:k<(Zv o).length:=(zA.mp hx).1;unfold WM Xa;simp only[if_true];refine ht k x ys S2 _ hx w λy S3 e3 w4=>?_
  rw[e3];exact⟨by lia,m-1,by lia,⟨_,w4⟩,by lia⟩
 ·rename_i hx;have hk:k=(Zv o).length:=by
   have:=yQ.mp hx;lia
  exact hq ys S2 (hk ▸ w)
theorem CP {caps:List Nat}{ta:TDA}{te:TDE}{dl:Ev}{S S1:Sto}{Q:DK}{j:Int}(W:Nat->List D->Sto->Prop)(hta:∀K:List D->Sto->Prop,K [.int j] S1->ta dl S K)(hj:0<=j/\j<=1000)(hw:∀k ys S2,W k ys S2->S2[S1.length]?=some (.lst ys)/\ys.length=k)(h0:W 0 [] (S1++[.lst []]))
  (ht:∀(k:Nat)(ys:List D)(S2:Sto)(K:DK),k<j.toNat->W k ys S2->(∀y S3,S3[S1.length]?=some (.lst ys)->W (k+1) (ys++[y]) (S3.set S1.length (.lst (ys++[y])))->K y S3)->te (some (.int (k:Int))::Yc caps dl) S2 K)
  (hq:∀ys S2,W j.toNat ys S2->Q (.ref S1.length) S2):W7 caps ta Xa te dl S Q:=by
 unfold W7;refine hta _ ⟨⟨by lia,by lia⟩,λk S2=>k<=j.toNat/\∃ys,W k ys S2,⟨zK _,_,h0⟩,?_⟩;rintro k S2 ⟨hk,ys,w⟩;obtain⟨w2,w3⟩:=hw _ _ _ w;split
 ·rename_i c;unfold WM Xa;simp only[if_true];refine ht k ys S2 _ c w λy S3 e3 w4=>?_
  rw[e3];exact⟨by lia,by lia,_,w4⟩
 ·rename_i c;have hk:k=j.toNat:=by lia
  exact hq ys S2 (hk ▸ w)
theorem Bi {S T:Sto}{n:Nat}{o:Ob}(h:Pre S T)(hn:S.length<=n):Pre S (T.set n o):=λk u e=>by
 have l:=(zA.mp e).1;rw[zW (by lia)];exact h k u e
theorem EX {vs:List Nd}{k:Nat}{v:Nd}(h:vs[k]?=some v):atI (vs.map Nd.d) (k:Int)=some v.d:=YF (by rw[zE,h];rfl)
theorem N9 {is:List Nat}{ta:TDA}{tb:TDS}{E:Wj}{dl:Ev}{S S1:Sto}{n:Nat}{xs:List D}(W:Nat->Ev->Sto->Prop)(hta:∀K:List D->Sto->Prop,K [.ref n] S1->ta dl S K)(hk:∀k dl' S',W k dl' S'->S'[n]?=some (.lst xs))(h0:W 0 dl S1)
  (hb:∀(k:Nat)(x:D)(dl':Ev)(S':Sto)(nx ct:Ev->Sto->Prop),xs[k]?=some x->W k dl' S'->(∀dl2 S2,W (k+1) dl2 S2->nx dl2 S2)->tb { nx:=nx,rt:=E.rt,bk:=E.nx,ct:=ct } (UU is [.int (k:Int),x] dl') S')(he:∀dl' S',W xs.length dl' S'->E.nx dl' S'):NT is ta tb E dl S:=by
 unfold NT;refine hta _ ⟨by rw[ZZ (hk _ _ _ h0) rfl];rfl,λk m dl' S'=>W k dl' S'/\k+m=xs.length,⟨xs.length,h0,by lia⟩,?_⟩;rintro k m dl' S' ⟨w,hm⟩;rw[ZZ (hk _ _ _ w) rfl];dsimp only[Zv];split
 ·rename_i x e1;have l1:=(zA.mp e1).1;exact hb k x dl' S' _ _ e1 w (λdl2 S2 w2=>⟨m-1,by lia,w2,by lia⟩)
 ·rename_i e1;have l1:=yQ.mp e1
  have ek:k=xs.length:=by lia
  exact⟨ek,he _ _ (ek ▸ w)⟩
theorem OJ (h0:0<=n)(h1:n<=xs.length):Yd xs none (some n)=xs.take n.toNat:=by
 unfold L3.Yd;have e:HT.sIx xs.length xs.length (some n)=n.toNat:=by
  have z:=HT.sIx_nat xs.length xs.length n.toNat;rw[Int.toNat_of_nonneg h0] at z;rw[z];lia
 rw[e,HT.sIx_none,List.drop_zero,Nat.sub_zero]
def Sub (x:Int×Int)(o:Option (Int×Int)):Prop:=∀p,o=some p->p.1<=p.2/\x.1<=p.1/\p.2<=x.2
theorem A7:Sub p (U4 p q):=λr e=>by
 refine⟨zft e,?_⟩;unfold U4 at e;have go:∀lo hi:Int,p.1<=lo->hi<=p.2->(if hi<lo then none else some (lo,hi))=some r->p.1<=r.1/\r.2<=p.2:=λlo hi a b e=>by
  split at e
  ·cases e
  ·cases e;exact⟨a,b⟩
 refine go _ _ ?_ ?_ e
 ·split<;>lia
 ·split<;>lia
theorem Spn.set2 (h:Spn B vs)(hu:u.1<=u.2/\Sz B u.1/\Sz B u.2):Spn B (vs.set k u):=λp hp=>by
 rcases List.mem_or_eq_of_mem_set hp with e|e
 ·exact h p e
 ·subst e;exact hu
def rwW (zero:Bool)(w:Str):Prop:=zero=true/\w="zero"\/zero=false/\w="least"
theorem Gr.pre {q a:Nat}{S T:Sto}{ns:List Nd}{ws:List Nat}(net:ZT q ns ws)(h:S[a]?=some (.lst (ns.map Nd.d)))(pr:Pre S T)(hl:S.length<=T.length):Gr q a 0 S ns ws T ns ws:=⟨net,⟨[],by simp,by simp⟩,⟨[],by simp⟩,pr _ _ h,hl,λx o _ e=>pr x o e⟩
def FdAt (o:Option LI)(L:Nat)(S:Sto)(fd:D):Prop:=(fd=.non/\o=none)\/∃(r:LI)(mf:Nat),fd=.ref mf/\o=some r/\S[mf]?=some (.lst (r.map frD))/\L<=mf
theorem Xv (h:Pre S T):S.length<=T.length:=by
 by_cases c:S.length<=T.length
 ·exact c
 ·have e:=h T.length _ (zD (by lia))
  have:=(zA.mp e).1;lia
structure Ct where
 k:Nat
 p:Int
 s:Bool
def Ct.d (c:Ct):D:=.tup [.int (c.k:Int),.int c.p,.int (if c.s then 1 else 0)]
def brS (zero:Bool)(s:Int×Int):Bool:=if zero then decide (0<s.1)||decide (s.2<0) else decide (s.2<0)
def ibS (ns:List Nd)(zero:Bool)(k:Nat)(bs:LI)(g:Int):Bool:=brS zero (gt (ZC bs g (ns.take (k+1))) (k:Int))
def Ct.off (c:Ct)(s:Int×Int):Int×Int:=if c.s then (c.p,s.2) else (s.1,c.p)
def Ct.back (c:Ct)(s:Int×Int):Int×Int:=if c.s then (s.1,c.p) else (c.p,s.2)
def isS (ns:List Nd)(zero:Bool)(k:Nat)(g:Int)(bs:LI)(c:Ct):Bool:=(decide ((gt bs (c.k:Int)).1<c.p)&&decide (c.p<(gt bs (c.k:Int)).2))&&ibS ns zero k (bs.set c.k (c.off (gt bs (c.k:Int)))) g
def ctP (bs:LI)(c:Ct):LI:=bs.set c.k (c.back (gt bs (c.k:Int)))
def M3 (ns:List Nd)(zero:Bool)(k:Nat)(g:Int)(a:List Ct×LI)(c:Ct):List Ct×LI:=if isS ns zero k g a.2 c then (a.1++[c],ctP a.2 c) else a
def ctA (bs:LI)(cs:List Ct):LI:=cs.foldl ctP bs
theorem EI (bs:LI)(cs:List Ct)(c:Ct):ctA bs (cs++[c])=ctP (ctA bs cs) c:=by
 unfold ctA;rw[List.foldl_append];rfl
def Ct.ix (c:Ct):Nat:=2*c.k+(if c.s then 1 else 0)
structure Q5 (ns:List Nd)(zero:Bool)(k:Nat)(g:Int)(bs:LI)(n:Nat)(q:List Ct×LI):Prop where
 left:q.2=ctA bs q.1
 len:q.2.length=bs.length
 spn:Spn 51 q.2
 is:∀(i:Nat)(c:Ct),q.1[i]?=some c->isS ns zero k g (ctA bs (q.1.take i)) c=true/\c.k<bs.length
 lt:∀c∈q.1,c.ix<n
 ord:∀(i j:Nat)(c d:Ct),i<j->q.1[i]?=some c->q.1[j]?=some d->c.ix<d.ix
 few:q.1.length<=n
theorem Du {ns:List Nd}{zero:Bool}{k:Nat}{g:Int}{bs:LI}{c:Ct}(h:isS ns zero k g bs c=true):(gt bs (c.k:Int)).1<c.p/\c.p<(gt bs (c.k:Int)).2:=by
 unfold isS at h;simp only[Bool.and_eq_true,decide_eq_true_eq] at h;exact h.1
theorem Au {c:Ct}{s:Int×Int}(h1:s.1<c.p)(h2:c.p<s.2)(z1:Sz 51 s.1)(z2:Sz 51 s.2):((c.back s).1<=(c.back s).2/\Sz 51 (c.back s).1/\Sz 51 (c.back s).2)/\(c.off s).1<=(c.off s).2/\Sz 51 (c.off s).1/\Sz 51 (c.off s).2:=by
 have zp:Sz 51 c.p:=Sz.mid z1 z2 (by lia) (by lia);unfold Ct.back Ct.off;cases c.s with
 | true=>exact⟨⟨by show s.1<=c.p;lia,z1,zp⟩,by show c.p<=s.2;lia,zp,z2⟩
 | false=>exact⟨⟨by show c.p<=s.2;lia,zp,z2⟩,by show s.1<=c.p;lia,z1,zp⟩
theorem Q5.step {ns:List Nd}{zero:Bool}{k n:Nat}{g:Int}{bs:LI}{q:List Ct×LI}(h:Q5 ns zero k g bs n q){c:Ct}(hc:c.k<bs.length)(hn:c.ix=n):Q5 ns zero k g bs (n+1) (M3 ns zero k g q c):=by
 unfold M3;split
 ·rename_i e;have ik:inR ((q.2.length:Nat):Int) (c.k:Int):=⟨by lia,by have:=h.len;lia⟩
  have a:=h.spn.at ik
  have b:=Du e;refine⟨by rw[EI,<- h.left],by show (q.2.set _ _).length=_;rw[yC];exact h.len,h.spn.set2 (Au b.1 b.2 a.2.1 a.2.2).1,λi d hd=>?_,λd hd=>?_,λi j x y hij hx hy=>?_,by show (q.1++[c]).length<=_;rw[zP];have:=h.few;simp;lia⟩
  ·show isS ns zero k g (ctA bs ((q.1++[c]).take i)) d=true/\_;by_cases hi:i<q.1.length
   ·have hd2:(q.1++[c])[i]?=some d:=hd;rw[zI hi] at hd2;rw[List.take_append_of_le_length (by lia)];exact h.is i d hd2
   ·have hd2:(q.1++[c])[i]?=some d:=hd
    have hl:=(zA.mp hd2).1;simp only[zP,zU,yY] at hl;have ei:i=q.1.length:=by lia
    subst ei;simp at hd2;subst hd2;rw[List.take_append_of_le_length (zC _),yF,<- h.left];exact⟨e,hc⟩
  ·have hd2:d∈q.1++[c]:=hd;rcases zZ.mp hd2 with z|z
   ·have:=h.lt d z;lia
   ·cases zS.mp z;lia
  ·have hx2:(q.1++[c])[i]?=some x:=hx
   have hy2:(q.1++[c])[j]?=some y:=hy
   have hl:=(zA.mp hy2).1;simp only[zP,zU,yY] at hl;rw[zI (by lia)] at hx2;by_cases hj:j<q.1.length
   ·rw[zI hj] at hy2;exact h.ord i j x y hij hx2 hy2
   ·have ej:j=q.1.length:=by lia
    subst ej;simp at hy2;subst hy2;have:=h.lt x (zF hx2);lia
 ·exact⟨h.left,h.len,h.spn,h.is,λd hd=>by have:=h.lt d hd;lia,h.ord,by have:=h.few;lia⟩
theorem Ay (bs:LI):∀cs:List Ct,(ctA bs cs).length=bs.length:=λcs=>by
 unfold ctA
 induction cs generalizing bs with
 | nil=>rfl
 | cons c cs ih=>
  show (cs.foldl ctP (ctP bs c)).length=_;rw[ih];exact yC ..
theorem AR {α:Type}{bs:LI}{k:Nat}{p:Int×Int}(h:k<bs.length):Yd (bs.map frD) none (some (k:Int))++[frD p]++Yd (bs.map frD) (some ((k:Int)+1)) none=(bs.set k p).map frD:=by
 rw[OJ (by lia) (by rw[zB];lia),zN];have e:Yd (bs.map frD) (some ((k:Int)+1)) none=(bs.map frD).drop (k+1):=by
  unfold L3.Yd;have z:=HT.sIx_nat (bs.map frD).length 0 (k+1);rw[show (((k+1:Nat):Int))=(k:Int)+1 by lia] at z;rw[z,HT.sIx_none,yR (by rw[List.length_drop];lia),Nat.min_eq_left (by rw[zB];lia)]
 rw[e,List.set_eq_take_append_cons_drop,if_pos h,zY,yJ,xF,List.map_drop,yT];rfl
theorem zbT {to te:TDE}{dl:Ev}{S:Sto}{Q:DK}{n:Nat}{xs:List D}(hto:∀K:DK,K (.ref n) S->to dl S K)(h:S[n]?=some (.lst xs))(hte:∀K:DK,(∀(y:D)(S2:Sto),S2[n]?=some (.lst xs)->Q .non (S2.set n (.lst (xs++[y])))->K y S2)->te dl S K)(hl:xs.length<1000):WL to te dl S Q:=by
 unfold WL;refine hto _ ?_;simp only[h];refine hte _ λy S2 h2 q=>?_
 simp only[h2,if_pos hl];exact q
def Ym (S:Sto)(lo:Nat)(ds:List D)(R:List LI):Prop:=ds.length=R.length/\∀(k:Nat)(d:D)(r:LI),ds[k]?=some d->R[k]?=some r->∃a,d=.ref a/\lo<=a/\S[a]?=some (.lst (r.map frD))
theorem Ym.nil {S:Sto}{lo:Nat}:Ym S lo [] []:=⟨rfl,λk d r h=>by simp at h⟩
theorem Ym.pre {S T:Sto}{lo:Nat}{ds:List D}{R:List LI}(h:Ym S lo ds R)(p:Pre S T):Ym T lo ds R:=⟨h.1,λk d r hd hr=>by
 obtain⟨a,e,l,s⟩:=h.2 k d r hd hr;exact⟨a,e,l,p _ _ s⟩⟩
theorem Ym.low {S:Sto}{lo lo':Nat}{ds:List D}{R:List LI}(h:Ym S lo ds R)(l:lo'<=lo):Ym S lo' ds R:=⟨h.1,λk d r hd hr=>by
 obtain⟨a,e,l,s⟩:=h.2 k d r hd hr;exact⟨a,e,by lia,s⟩⟩
theorem Ym.keep {S T:Sto}{lo:Nat}{ds:List D}{R:List LI}(h:Ym S lo ds R)(p:∀(x:Nat)(o:Ob),lo<=x->S[x]?=some o->T[x]?=some o):Ym T lo ds R:=⟨h.1,λk d r hd hr=>by
 obtain⟨a,e,l,s⟩:=h.2 k d r hd hr;exact⟨a,e,l,p _ _ l s⟩⟩
theorem Ym.at {S:Sto}{lo:Nat}{ds:List D}{R:List LI}(h:Ym S lo ds R){i:Int}(hi:inR R.length i):∃a,atI ds i=some (.ref a)/\lo<=a/\S[a]?=some (.lst ((R.getD i.toNat []).map frD)):=by
 obtain⟨h0,h1⟩:=hi;have hk:i.toNat<R.length:=by lia
 have hk':i.toNat<ds.length:=by rw[h.1];exact hk
 obtain⟨a,e,l,s⟩:=h.2 i.toNat _ _ (zD hk') (zD hk);refine⟨a,?_,l,?_⟩
 ·have z:=YF (xs:=ds) (j:=i.toNat) (v:=.ref a) (by rw[zD hk',e]);rw[show ((i.toNat:Nat):Int)=i by lia] at z;exact z
 ·rw[s];simp[hk]
theorem Ym.snoc {S:Sto}{lo:Nat}{ds:List D}{R:List LI}{a:Nat}{r:LI}(h:Ym S lo ds R)(hl:lo<=a)(hs:S[a]?=some (.lst (r.map frD))):Ym S lo (ds++[.ref a]) (R++[r]):=⟨by rw[zP,zP,h.1];rfl,λk d r' hd hr=>by
 by_cases hk:k<ds.length
 ·rw[zI hk] at hd;rw[zI (by rw[<- h.1];exact hk)] at hr;exact h.2 k d r' hd hr
 ·have l:=(zA.mp hd).1;simp only[zP,zU,yY] at l;have ek:k=ds.length:=by lia
  subst ek;rw[yB (zC _),Nat.sub_self] at hd;rw[h.1,yB (zC _),Nat.sub_self] at hr;cases hd;cases hr;exact⟨a,rfl,hl,hs⟩⟩
abbrev gs (sl:List LI)(i:Int)(l:Nat):Int×Int:=(sl.getD i.toNat []).getD l (0,0)
def Yz (p q:Int×Int)(g:Int):Int×Int:=(mn4 p.1 p.2 q.1 q.2/g,-(-mx4 p.1 p.2 q.1 q.2/g))
def Xi (p:Int×Int)(n g:Int):Int×Int:=(Xj p.1 p.2 (n-1).toNat/g^((n-1).toNat-1)*n,-(-Vv p.1 p.2 (n-1).toNat/g^((n-1).toNat-1))*n)
def Nd.sl (vs:LI)(sl:List LI)(g:Int)(l:Nat):Nd->Int×Int
 | .number _ _=>(0,0)
 | .unknown k=>if (l:Int)=k then (g,g) else (0,0)
 | .plus i j=>((gs sl i l).1+(gs sl j l).1,(gs sl i l).2+(gs sl j l).2)
 | .minus i j=>((gs sl i l).1-(gs sl j l).2,(gs sl i l).2-(gs sl j l).1)
 | .times i j=>((Yz (gt vs i) (gs sl j l) g).1+(Yz (gt vs j) (gs sl i l) g).1,(Yz (gt vs i) (gs sl j l) g).2+(Yz (gt vs j) (gs sl i l) g).2)
 | .power i n=>Yz (Xi (gt vs i) n g) (gs sl i l) g
def Yx (vs:LI)(sl:List LI)(g:Int)(q:Nat)(v:Nd):LI:=(List.range q).map λl=>v.sl vs sl g l
theorem AW {vs:LI}{sl:List LI}{g:Int}{q:Nat}{v:Nd}:(Yx vs sl g q v).length=q:=by simp[Yx]
theorem zak (f:Int×Int->α)(r:LI)(h:r.length=q):r.map f=(List.range q).map λl=>f (r.getD l (0,0)):=by
 subst h;refine List.ext_getElem? λk=>?_
 by_cases hk:k<r.length
 ·rw[zE,zE,List.getElem?_range hk,zD hk];simp[hk]
 ·rw[xG (by simpa using hk),xG (by simpa using hk)]
theorem Hm (f:Int×Int->Int×Int->α)(r s:LI)(h:r.length=q)(h':s.length=q):List.zipWith f r s=(List.range q).map λl=>f (r.getD l (0,0)) (s.getD l (0,0)):=by
 subst h;refine List.ext_getElem? λk=>?_
 by_cases hk:k<r.length
 ·rw[List.getElem?_zipWith,zE,List.getElem?_range hk,zD hk,zD (show k<s.length by lia)];simp[hk,show k<s.length by lia]
 ·rw[xG (by rw[List.length_zipWith];lia),xG (by simpa using hk)]
theorem Az (x:D)(q:Nat):(List.replicate q [x]).flatten=(List.range q).map λ_=>x:=by
 refine List.ext_getElem? λk=>?_
 have l:(List.replicate q [x]).flatten=List.replicate q x:=by
  induction q with
  | zero=>rfl
  | succ q ih=>rw[yW,xC,ih];rfl
 rw[l];by_cases hk:k<q
 ·rw[zE,List.getElem?_range hk,List.getElem?_replicate,if_pos hk];rfl
 ·rw[xG (by simpa using hk),xG (by simpa using hk)]
theorem IV (p q:Int×Int)(hg:1<=g):(Yz p q g).1<=(Yz p q g).2:=TJ hg (DW _ _ _ _)
theorem zdZ (p:Int×Int)(hn:0<=n)(hg:1<=g):(Xi p n g).1<=(Xi p n g).2:=Int.mul_le_mul_of_nonneg_right (TJ (yE (by lia)) (GO _ _ _)) hn
def Ys (vs:LI)(g:Int)(q:Nat)(ns:List Nd):List LI:=ns.foldl (λacc v=>acc++[Yx vs acc g q v]) []
theorem Jg (vs:LI)(g:Int)(q:Nat)(ns:List Nd)(v:Nd):Ys vs g q (ns++[v])=Ys vs g q ns++[Yx vs (Ys vs g q ns) g q v]:=by
 unfold Ys;rw[List.foldl_append];rfl
theorem LZ (vs:LI)(g:Int)(q:Nat)(ns:List Nd):(Ys vs g q ns).length=ns.length:=by
 have z:∀k,k<=ns.length->(Ys vs g q (ns.take k)).length=k:=λk=>by
  induction k with
  | zero=>intro _;rfl
  | succ k ih=>
   intro hk;rw[Y9 (zD (show k<ns.length by lia)),Jg];simp[ih (by lia)]
 have:=z ns.length (zC _)
 rwa [yF] at this
def SlW (q:Nat)(ws:List Nat)(sl:List LI):Prop:=∀(k:Nat)(r:LI),sl[k]?=some r->r.length=q/\∀p∈r,p.1<=p.2/\Sz (64*ws.getD k 0-1) p.1/\Sz (64*ws.getD k 0-1) p.2
theorem SlW.at {q:Nat}{ws:List Nat}{sl:List LI}(h:SlW q ws sl){i:Int}(hi:inR sl.length i):(sl.getD i.toNat []).length=q/\∀l,l<q->(gs sl i l).1<=(gs sl i l).2/\Sz (64*ws.getD i.toNat 0-1) (gs sl i l).1/\Sz (64*ws.getD i.toNat 0-1) (gs sl i l).2:=by
 obtain⟨h0,h1⟩:=hi;have hk:i.toNat<sl.length:=by lia
 obtain⟨a,b⟩:=h i.toNat _ (zD hk);have e:sl.getD i.toNat []=sl[i.toNat]:=by simp[hk]
 refine⟨by rw[e];exact a,λl hl=>?_⟩;have e2:gs sl i l=sl[i.toNat][l]'(by rw[a];exact hl):=by
  unfold gs;rw[e];simp[show l<sl[i.toNat].length by rw[a];exact hl]
 rw[e2];exact b _ (yM _)
theorem SlW.snoc {q:Nat}{ws:List Nat}{sl:List LI}{r:LI}(h:SlW q ws sl)(hr:r.length=q)(hp:∀p∈r,p.1<=p.2/\Sz (64*ws.getD sl.length 0-1) p.1/\Sz (64*ws.getD sl.length 0-1) p.2):SlW q ws (sl++[r]):=λk u hu=>by
 by_cases hk:k<sl.length
 ·rw[zI hk] at hu;exact h k u hu
 ·have l:=(zA.mp hu).1;simp only[zP,zU,yY] at l;have ek:k=sl.length:=by lia
  subst ek;rw[yB (zC _),Nat.sub_self] at hu;cases hu;exact⟨hr,hp⟩
theorem NC (hg:1<=g)(h1:Sz m p.1)(h2:Sz m p.2)(h3:Sz n q.1)(h4:Sz n q.2):Sz (m+n) (Yz p q g).1/\Sz (m+n) (Yz p q g).2:=
 ⟨(VJ (VJ (h1.mul h3) (h1.mul h4)) (VJ (h2.mul h3) (h2.mul h4))).div hg,Uw (Vh (Vh (h1.mul h3) (h1.mul h4)) (Vh (h2.mul h3) (h2.mul h4))) hg⟩
theorem zcN:∀n:Nat,2<=n->n<=6->n<=2^(n-1):=λn h1 h2=>by
 have:n=2\/n=3\/n=4\/n=5\/n=6:=by lia
 rcases this with rfl|rfl|rfl|rfl|rfl<;>decide
theorem Lf (h:Sz m x)(hn:n.natAbs<=2^e)(hp:1<=n.natAbs):Sz (m+e) (x*n):=by
 unfold Sz at *
 rw[Nat.pow_add,Int.natAbs_mul];exact Nat.mul_lt_mul_of_lt_of_le h hn (yG (by decide))
theorem zbN (hg:1<=g)(n2:2<=n)(n6:n<=6)(h1:Sz m p.1)(h2:Sz m p.2):Sz (m*(n.toNat-1)+(n.toNat-1)) (Xi p n g).1/\Sz (m*(n.toNat-1)+(n.toNat-1)) (Xi p n g).2:=by
 have en:(n-1).toNat=n.toNat-1:=by lia
 have gp:(1:Int)<=g^((n-1).toNat-1):=yE (by lia)
 have p1:Sz (m*(n.toNat-1)) (p.1^(n-1).toNat):=by rw[en];exact Sz.pow' h1 (by lia)
 have p2:Sz (m*(n.toNat-1)) (p.2^(n-1).toNat):=by rw[en];exact Sz.pow' h2 (by lia)
 have lo:Sz (m*(n.toNat-1)) (Xj p.1 p.2 (n-1).toNat):=by
  unfold Xj;split
  ·show (0:Int).natAbs<_;exact yG (by decide)
  ·exact VJ p1 p2
 have nb:n.natAbs<=2^(n.toNat-1):=by
  have:=zcN n.toNat (by lia) (by lia);lia
 exact⟨Lf (lo.div gp) nb (by lia),Lf (Uw (Vh p1 p2) gp) nb (by lia)⟩
theorem sl_ok {q:Nat}{ws:List Nat}{vs:LI}{sl:List LI}{g:Int}(hs:SzW ws vs)(hl:SlW q ws sl)(hg:1<=g/\g<=1000000)(hv:sl.length<=vs.length)(hw:∀i:Int,inR vs.length i->1<=ws.getD i.toNat 0){l:Nat}(hq:l<q):∀v:Nd,v.ok sl.length q->1<=v.wt ws->(v.sl vs sl g l).1<=(v.sl vs sl g l).2/\Sz (64*v.wt ws-2) (v.sl vs sl g l).1/\Sz (64*v.wt ws-2) (v.sl vs sl g l).2
 | .number t b,ok,h1=>⟨yA _,by show Sz _ 0;exact yG (by decide),by show Sz _ 0;exact yG (by decide)⟩
 | .unknown k,ok,h1=>by
  have sg:Sz (64*Nd.wt ws (.unknown k)-2) g:=(Sz.of (n:=21) (10^6) (show g.natAbs<=_ by lia)).mono (by show 21<=64*1-2;decide)
  show (if (l:Int)=k then (g,g) else (0,0)).1<=(if (l:Int)=k then (g,g) else (0,0)).2/\Sz _ (if (l:Int)=k then (g,g) else (0,0)).1/\Sz _ (if (l:Int)=k then (g,g) else (0,0)).2;split
  ·exact⟨yA _,sg,sg⟩
  ·exact⟨yA _,yG (by decide),yG (by decide)⟩
 | .plus i j,ok,h1=>by
  have a:=(hl.at ok.1).2 l hq
  have b:=(hl.at ok.2).2 l hq
  have p:=hw i ⟨ok.1.1,by have:=ok.1.2;lia⟩
  have q:=hw j ⟨ok.2.1,by have:=ok.2.2;lia⟩;refine⟨?_,(a.2.1.add b.2.1).mono (by simp only[Nd.wt];lia),(a.2.2.add b.2.2).mono (by simp only[Nd.wt];lia)⟩;show (gs sl i l).1+(gs sl j l).1<=(gs sl i l).2+(gs sl j l).2;lia
 | .minus i j,ok,h1=>by
  have a:=(hl.at ok.1).2 l hq
  have b:=(hl.at ok.2).2 l hq
  have p:=hw i ⟨ok.1.1,by have:=ok.1.2;lia⟩
  have q:=hw j ⟨ok.2.1,by have:=ok.2.2;lia⟩;refine⟨?_,(a.2.1.sub b.2.2).mono (by simp only[Nd.wt];lia),(a.2.2.sub b.2.1).mono (by simp only[Nd.wt];lia)⟩;show (gs sl i l).1-(gs sl j l).2<=(gs sl i l).2-(gs sl j l).1;lia
 | .times i j,ok,h1=>by
  have oi:inR vs.length i:=⟨ok.1.1,by have:=ok.1.2;lia⟩
  have oj:inR vs.length j:=⟨ok.2.1,by have:=ok.2.2;lia⟩
  have a:=(hl.at ok.1).2 l hq
  have b:=(hl.at ok.2).2 l hq
  have c:=hs.at oi
  have d:=hs.at oj
  have p:=hw i oi
  have q:=hw j oj
  have z1:=NC hg.1 c.2.1 c.2.2 b.2.1 b.2.2
  have z2:=NC hg.1 d.2.1 d.2.2 a.2.1 a.2.2;refine⟨?_,(z1.1.add z2.1).mono (by simp only[Nd.wt];lia),(z1.2.add z2.2).mono (by simp only[Nd.wt];lia)⟩;have m1:=IV (gt vs i) (gs sl j l) hg.1
  have m2:=IV (gt vs j) (gs sl i l) hg.1
  show (Yz (gt vs i) (gs sl j l) g).1+(Yz (gt vs j) (gs sl i l) g).1<=(Yz (gt vs i) (gs sl j l) g).2+(Yz (gt vs j) (gs sl i l) g).2;lia
 | .power i n,ok,h1=>by
  have oi:inR vs.length i:=⟨ok.1.1,by have:=ok.1.2;lia⟩
  have a:=(hl.at ok.1).2 l hq
  have c:=hs.at oi
  have p:=hw i oi
  have n2:=ok.2.1
  have f:=zbN hg.1 ok.2.1 ok.2.2 c.2.1 c.2.2
  have z:=NC hg.1 f.1 f.2 a.2.1 a.2.2
  have hn:(60*ws.getD i.toNat 0-1)*(n.toNat-1)+(n.toNat-1)+(64*ws.getD i.toNat 0-1)<=64*Nd.wt ws (.power i n)-2:=by
   simp only[Nd.wt];generalize ws.getD i.toNat 0=w at p;obtain⟨k,hk⟩:∃k,n.toNat=k+2:=⟨n.toNat-2,by lia⟩;rw[hk,show k+2-1=k+1 by lia,Nat.sub_mul,Nat.one_mul];have e1:60*w*(k+1)=60*(k*w)+60*w:=by rw[Nat.mul_add,Nat.mul_one,Nat.mul_assoc,Nat.mul_comm w k]
   have e2:(k+2)*w=k*w+2*w:=Nat.add_mul ..
   have e3:k+1<=60*w*(k+1):=Nat.le_mul_of_pos_left _ (by lia);rw[e2];lia
  exact⟨IV _ _ hg.1,z.1.mono hn,z.2.mono hn⟩
theorem DO {q:Nat}{ns:List Nd}{ws:List Nat}{vs:LI}{g:Int}(h:ZT q ns ws)(hs:SzW ws vs)(hv:vs.length=ns.length)(hg:1<=g/\g<=1000000):∀k,k<=ns.length->SlW q ws (Ys vs g q (ns.take k)):=λk=>by
 induction k with
 | zero=>intro _ i p hp;simp[Ys] at hp
 | succ k ih=>
  intro hk;have hv':=zD (show k<ns.length by lia)
  have s:=ih (by lia)
  have ln:(Ys vs g q (ns.take k)).length=k:=by rw[LZ,zL];lia
  obtain⟨ok,e,p1,_⟩:=h.ok k _ hv';rw[Y9 hv',Jg];refine s.snoc AW λp hp=>?_
  obtain⟨l,hl,rfl⟩:=zO.mp hp;have z:=sl_ok hs s hg (by lia) (λi hi=>(h.w1 (by rw[<- hv];exact hi)).1) (yZ.mp hl) ns[k] (by rw[ln];exact ok) p1;rw[ln,e];exact⟨z.1,z.2.1.mono (by lia),z.2.2.mono (by lia)⟩
theorem Dw {q:Int}{ns:List Nd}{ws:List Nat}{bs:LI}{g:Int}(h:ZT q ns ws)(hq:q=bs.length)(hb:Spn 51 bs)(hg:1<=g/\g<=1000000):SzW ws (ZC bs g ns):=by
 have z:=Cq h hq hb hg ns.length (zC _)
 rwa [yF] at z
theorem SlW.spn (h:SlW q ws sl)(hw:∀k:Nat,k<sl.length->ws.getD k 0<=16):∀i:Int,inR sl.length i->(sl.getD i.toNat []).length=q/\∀l,l<q->(gs sl i l).1<=(gs sl i l).2/\Sz 1100 (gs sl i l).1/\Sz 1100 (gs sl i l).2:=λi hi=>by
 obtain⟨a,b⟩:=h.at hi;refine⟨a,λl hl=>?_⟩;obtain⟨c,d,e⟩:=b l hl;have:=hw i.toNat (by have:=hi.1;have:=hi.2;lia);exact⟨c,d.mono (by lia),e.mono (by lia)⟩
def mid (p:Int×Int):Int:=(p.1+p.2)/2
def Wc (p:Int×Int):Int×Int:=(mid p,mid p)
def addS (p q:Int×Int):Int×Int:=(p.1+q.1,p.2+q.2)
def JO (p q:Int×Int):Int×Int:=(p.1-q.2,p.2-q.1)
def X8 (g:Int)(us vs:LI):Int×Int:=(List.zip us vs).foldl (λt z=>addS t (Yz z.1 z.2 g)) (0,0)
def rwD (r:Bool×Nat):D:=.tup [.str (if r.1 then "zero" else "least"),.int (r.2:Int)]
def eqs (rows:List (Bool×Nat)):List Nat:=rows.filterMap λr=>if r.1 then some r.2 else none
theorem GC {caps:List Nat}{tl te:TDE}{tc:TDT}{dl:Ev}{S S1:Sto}{Q:DK}{n:Nat}{o:Ob}(f:D->Option D)(htl:∀K:DK,K (.ref n) S1->tl dl S K)(h1:S1[n]?=some o)(hl:(Zv o).length<=1000)
  (hc:∀x∈Zv o,∀(S2:Sto)(K:Bool->Sto->Prop),Pre S1 S2->K (f x).isSome S2->tc (some x::Yc caps dl) S2 K)(ht:∀x∈Zv o,∀y,f x=some y->∀(S2:Sto)(K:DK),Pre S1 S2->K y S2->te (some x::Yc caps dl) S2 K)(hq:Q (.ref S1.length) (S1++[.lst ((Zv o).filterMap f)]))(hL:Xl o=some o:=by rfl):X9 caps tl tc te dl S Q:=by
 unfold X9;refine htl _ ⟨by rw[ZZ h1 hL];rfl,λk m S2=>S2=S1++[.lst (((Zv o).take k).filterMap f)]/\m+k=(Zv o).length,⟨(Zv o).length,by simp,by lia⟩,?_⟩;rintro k m S2 ⟨rfl,hm⟩;rw[ZZ (VR h1) hL];dsimp only;split
 ·rename_i x hx;have hk:k<(Zv o).length:=(zA.mp hx).1
  have e:(Zv o).take (k+1)=(Zv o).take k++[x]:=by rw[List.take_succ,hx];rfl
  unfold WM;refine hc x (zF hx) _ _ Pre.refl.push ?_;cases ef:f x with
  | none=>
   refine YY ?_;refine⟨m-1,by lia,?_,by lia⟩;rw[e,List.filterMap_append];simp[ef]
  | some y=>
   refine Y4 ?_;refine ht x (zF hx) y ef _ _ Pre.refl.push ?_;rw[Zz];have ll:=List.length_filterMap_le f ((Zv o).take k);refine⟨by rw[zL] at ll;lia,m-1,by lia,?_,by lia⟩;rw[e,List.filterMap_append,Vi];simp[ef]
 ·rename_i hx;have hk:(Zv o).length<=k:=yQ.mp hx;rw[yR hk];exact hq
theorem BU (g:Int)(us vs:LI)(k:Nat){u v:Int×Int}(hu:us[k]?=some u)(hv:vs[k]?=some v):X8 g (us.take (k+1)) (vs.take (k+1))=addS (X8 g (us.take k) (vs.take k)) (Yz u v g):=by
 unfold X8;have l1:=(zA.mp hu).1
 have l2:=(zA.mp hv).1;rw[Y9 hu,Y9 hv,List.zip_append (by rw[zL,zL];lia),List.foldl_append];rfl
theorem DY (g:Int)(us vs:LI):X8 g (us.take (min us.length vs.length)) (vs.take (min us.length vs.length))=X8 g us vs:=by
 unfold X8;congr 1;show List.zipWith Prod.mk _ _=List.zipWith Prod.mk _ _;rw[<- List.take_zipWith,yR (by rw[List.length_zipWith];exact zC _)]
def Bd (B:Nat)(vs:LI):Prop:=∀p∈vs,Sz B p.1/\Sz B p.2
theorem BO (hg:1<=g)(h1:Bd A us)(h2:Bd B vs):∀k:Nat,k<=us.length->k<=vs.length->Sz (A+B+k+1) (X8 g (us.take k) (vs.take k)).1/\Sz (A+B+k+1) (X8 g (us.take k) (vs.take k)).2
 | 0,_,_=>⟨yG (by decide),yG (by decide)⟩
 | k+1,l1,l2=>by
  have hu:=zD (show k<us.length by lia)
  have hv:=zD (show k<vs.length by lia);rw[BU g us vs k hu hv];have ih:=BO hg h1 h2 k (by lia) (by lia)
  have a:=h1 _ (zF hu)
  have b:=h2 _ (zF hv)
  have m:=NC hg a.1 a.2 b.1 b.2;exact⟨(ih.1.add m.1).mono (by lia),(ih.2.add m.2).mono (by lia)⟩
theorem zby (hg:1<=g)(h1:Bd A us)(h2:Bd B vs)(l:us.length<=60):Sz (A+B+61) (X8 g us vs).1/\Sz (A+B+61) (X8 g us vs).2:=by
 rw[<- DY];have z:=BO hg h1 h2 (min us.length vs.length) (by lia) (by lia);exact⟨z.1.mono (by lia),z.2.mono (by lia)⟩
theorem zdT {is:List Nat}{ta:TDA}{tb:TDS}{E:Wj}{dl:Ev}{S:Sto}{n n':Nat}{xs ys:List D}(W:Nat->Ev->Prop)(hta:∀K:List D->Sto->Prop,K [.ref n,.ref n'] S->ta dl S K)(h1:S[n]?=some (.lst xs))(h2:S[n']?=some (.lst ys))(h0:W 0 dl)
  (hb:∀(k:Nat)(x y:D)(dl':Ev)(nx ct:Ev->Sto->Prop),xs[k]?=some x->ys[k]?=some y->W k dl'->(∀dl2,W (k+1) dl2->nx dl2 S)->tb { nx:=nx,rt:=E.rt,bk:=E.nx,ct:=ct } (UU is [x,y] dl') S)(he:∀dl',W (min xs.length ys.length) dl'->E.nx dl' S):L8 is ta tb E dl S:=by
 unfold L8;refine hta _ ⟨⟨by rw[ZZ h1 rfl];rfl,by rw[ZZ h2 rfl];rfl⟩,λk m dl' S'=>S'=S/\W k dl'/\k+m=min xs.length ys.length,⟨min xs.length ys.length,rfl,h0,by simp⟩,?_⟩;rintro k m dl' S' ⟨rfl,w,hk⟩;simp only[ZZ h1 rfl,ZZ h2 rfl,Zv];split
 ·rename_i x y e1 e2;have l1:=(zA.mp e1).1
  have l2:=(zA.mp e2).1;exact hb k x y dl' _ _ e1 e2 w (λdl2 w2=>⟨m-1,by lia,rfl,w2,by lia⟩)
 ·rename_i no;have ek:k=min xs.length ys.length:=by
   by_cases l:k<min xs.length ys.length
   ·exact absurd (zD (l:=ys) (i:=k) (by lia)) (no _ _ (zD (l:=xs) (i:=k) (by lia)))
   ·lia
  exact⟨ek,he _ (ek ▸ w)⟩
theorem BY {B:Nat}{p:Int×Int}(h1:Sz B p.1)(h2:Sz B p.2):Sz (B+1) (mid p):=(h1.add h2).div (by decide) |>.mono (by lia)
theorem zfo (hp:Sz B p.1/\Sz B p.2)(hq:Sz C q.1/\Sz C q.2):Sz (max B C+1) (JO p q).1/\Sz (max B C+1) (JO p q).2:=⟨hp.1.sub hq.2,hp.2.sub hq.1⟩
theorem zfj {p:Int×Int}(h:p.1<=p.2):p.1<=mid p/\mid p<=p.2:=by unfold mid;lia
theorem Ek {B:Nat}{bs:LI}(h:Spn B bs):Spn B (bs.map Wc):=λp hp=>by
 obtain⟨x,hx,rfl⟩:=zO.mp hp;obtain⟨a,b,c⟩:=h x hx;have z:=zfj a
 have s:Sz B (mid x):=by
  unfold Sz at *
  lia
 exact⟨yA _,s,s⟩
def hs:Nat->Int->Int->Int
 | 0,_,_=>0
 | k+1,x,y=>x*hs k x y+y^k
def In (p:Int×Int)(x:Rat):Prop:=(p.1:Rat)<=x/\x<=(p.2:Rat)
theorem AQ {ns:List Nd}{ws:List Nat}{bs:LI}{g:Int}{is:List Nat}(net:ZT bs.length ns ws)(sb:Spn 51 bs)(hg:1<=g/\g<=1000000)(hi:∀i∈is,i<ns.length):∀r∈(is.map λ(i:Nat)=>(Ys (ZC bs g ns) g bs.length ns).getD i []),r.length=bs.length/\Bd 1023 r:=λr hr=>by
 have szw:=Dw net rfl sb hg
 have slw:SlW bs.length ws (Ys (ZC bs g ns) g bs.length ns):=by
  have z:=DO net szw (Xk _ _ _) hg ns.length (zC _)
  rwa [yF] at z
 obtain⟨i,him,rfl⟩:=zO.mp hr;have hin:=hi i him
 have hl:i<(Ys (ZC bs g ns) g bs.length ns).length:=by rw[LZ];exact hin
 have e:(Ys (ZC bs g ns) g bs.length ns).getD i []=(Ys (ZC bs g ns) g bs.length ns)[i]:=by simp[hl]
 obtain⟨z1,z2⟩:=slw i _ (zD hl);rw[e];have w:=(net.w1 (i:=(i:Int)) ⟨by lia,by lia⟩).2;rw[zN] at w;exact⟨z1,λp hp=>⟨(z2 p hp).2.1.mono (by lia),(z2 p hp).2.2.mono (by lia)⟩⟩
def sgn (i:Int)(k:Nat):Int:=if k%2=1 then -i else i
inductive Rows (S:Sto)(b:Nat):List D->List (List Int)->Prop
 | nil:Rows S b [] []
 | cons {a:Nat} {r:List Int} {ds:List D} {M:List (List Int)}:b<=a->S[a]?=some (.lst (r.map D.int))->Rows S b ds M->Rows S b (.ref a::ds) (r::M)
theorem B6 {B:Nat}:∀ {l:List Int},(∀x∈l,x.natAbs<=B)->l.sum.natAbs<=l.length*B
 | [],_=>by simp
 | x::l,h=>by
  have h1:=h x (by simp)
  have h2:=B6 (l:=l) λy hy=>h y (by simp[hy])
  rw[List.sum_cons,zU,Nat.succ_mul];lia
theorem Lg {k:Nat}{l:List Int}(h:∀x∈l,Sz k x)(hl:l.length<=4):Sz (k+2) l.sum:=by
 have hp:0<2^k:=Nat.two_pow_pos k
 have h1:=B6 (B:=2^k-1) (l:=l) λx hx=>by have:=h x hx;unfold Sz at this;lia
 have h2:l.length*(2^k-1)<=4*(2^k-1):=Nat.mul_le_mul_right _ hl;unfold Sz;rw[Nat.pow_add];lia
theorem LC {k n:Nat}{i:Int}(h:Sz k i):Sz k (sgn i n):=by
 unfold sgn;split
 ·exact h.neg
 ·exact h
theorem Sj (h:S[n]?=some o)(hb:Y5 (Zv o)=some ns)(hq:Q (.int ns.sum) S):irr M7 [.ref n] S Q:=by
 rw[U2];unfold M7;simp only[ZZ h (DQ hb),hb];exact hq
theorem Vy (l:List Int):Y5 (l.map D.int)=some l:=by
 induction l with
 | nil=>rfl
 | cons x l ih=>simp only[yJ,Y5,ih,Option.map_some]
inductive Ords (S:Sto)(b:Nat):List D->List (List Int×Int)->Prop
 | nil:Ords S b [] []
 | cons {a:Nat} {o:List Int×Int} {ds:List D} {os:List (List Int×Int)}:b<=a->S[a]?=some (.lst (o.1.map D.int))->Ords S b ds os->Ords S b (.tup [.ref a,.int o.2]::ds) (o::os)
def Fit (n:Nat)(o:List Int×Int):Prop:=o.1.length=n/\(∀x∈o.1,0<=x/\x<n)/\(o.2=1\/o.2=-1)
instance (n:Nat) (o:List Int×Int):Decidable (Fit n o):=by unfold Fit;infer_instance
theorem Ey {xs:List D}{i:Nat}:Yd xs none (some (i:Int))=xs.take i:=by
 unfold L3.Yd;rw[HT.sIx_none,HT.sIx_nat,List.drop_zero,Nat.sub_zero];rw[List.take_eq_take_iff];lia
theorem DN {xs:List D}{i:Nat}:Yd xs (some (i:Int)) none=xs.drop i:=by
 unfold L3.Yd;rw[HT.sIx_none,HT.sIx_nat];rcases Nat.le_total i xs.length with h|h
 ·rw[Nat.min_eq_left h];exact yR (by rw[List.length_drop];exact zC _)
 ·rw[Nat.min_eq_right h,List.drop_of_length_le (zC _),List.drop_of_length_le h];simp
theorem MA {m a:Nat}{S:Sto}{ds:List D}{K:List D->Sto->Prop}(hm:S[m]?=some (.lst ds))(hd:ds[0]?=some (.ref a))(hK:K [.ref a] S):wIx (.ref m) (.int 0) S (λx S1=>K [x] S1):=by
 have z:=ZE (n:=m) (S:=S) (o:=.lst ds) (i:=0) (d:=.ref a) (Q:=λx S1=>K [x] S1) hm (YF (j:=0) hd) hK;rw[Ww] at z;exact z
theorem zdW (h:i∈eqs rows):(true,i)∈rows:=by
 obtain⟨⟨b,n⟩,hr,e⟩:=List.mem_filterMap.mp h;cases b
 ·cases e
 ·cases e;exact hr
theorem IZ (vs:LI):∀rows:List (Bool×Nat),YO (((rows.map rwD)).filterMap (λd=>match d with|.tup [.str w,.int at']=>if w="least" then some (.bl (decide (0<=(gt vs at').1))) else none|_=>none))=some (rows.filterMap λr=>if r.1 then none else some (decide (0<=(gt vs (r.2:Int)).1)))
 | []=>rfl
 | (false,n)::rs=>by
  show (YO ((rs.map rwD).filterMap _)).map _=_;rw[IZ vs rs];rfl
 | (true,n)::rs=>IZ vs rs
def Bc (p q:Int×Int):Bool:=decide (q.1<p.1)&&decide (p.2<q.2)
theorem AY (us vs:LI):YO (List.zipWith (λx y=>match x,y with|.tup [.int a,.int b],.tup [.int c,.int d]=>.bl (decide (c<a)&&decide (b<d))|_,_=>.non) (us.map frD) (vs.map frD))=some (List.zipWith Bc us vs):=by
 induction us generalizing vs with
 | nil=>rfl
 | cons u us ih=>
  cases vs with
  | nil=>rfl
  | cons v vs=>
   show (YO (List.zipWith _ (us.map frD) (vs.map frD))).map _=_;rw[ih];rfl
theorem zhL (t w:Int)(hw:w≠0):(t.fdiv w).natAbs<=t.natAbs+1:=by
 rcases Int.lt_or_lt_of_ne hw with h|h
 ·have e:t.fdiv w=(-t).fdiv (-w):=by rw[Int.neg_fdiv_neg]
  rw[e,Int.fdiv_eq_ediv_of_nonneg _ (by lia)];have:=Int.natAbs_ediv_le_natAbs (-t) (-w);lia
 ·rw[Int.fdiv_eq_ediv_of_nonneg _ (by lia)];have:=Int.natAbs_ediv_le_natAbs t w;lia
theorem Ba {caps:List Nat}{ta:TDA}{tc:TDT}{te:TDE}{dl:Ev}{S S1:Sto}{Q:DK}{n:Nat}{xs:List D}(W:Nat->List D->Sto->Prop)(b:Nat->D->Bool)(hta:∀K:List D->Sto->Prop,K [.ref n] S1->ta dl S K)(h1:S1[n]?=some (.lst xs))(hw:∀k ys S2,W k ys S2->S2[n]?=some (.lst xs)/\S2[S1.length]?=some (.lst ys)/\ys.length<=k)(hl:xs.length<=900)(h0:W 0 [] (S1++[.lst []]))
  (hc:∀(k:Nat)(x:D)(ys:List D)(S2:Sto)(K:Bool->Sto->Prop),xs[k]?=some x->W k ys S2->K (b k x) S2->tc (some (.int (k:Int))::some x::Yc caps dl) S2 K)
  (hno:∀(k:Nat)(x:D)(ys:List D)(S2:Sto),xs[k]?=some x->b k x=false->W k ys S2->W (k+1) ys S2)
  (ht:∀(k:Nat)(x:D)(ys:List D)(S2:Sto)(K:DK),xs[k]?=some x->b k x=true->W k ys S2->(∀y S3,S3[S1.length]?=some (.lst ys)->W (k+1) (ys++[y]) (S3.set S1.length (.lst (ys++[y])))->K y S3)->te (some (.int (k:Int))::some x::Yc caps dl) S2 K)
  (hq:∀ys S2,W xs.length ys S2->Q (.ref S1.length) S2):U0 caps ta tc te dl S Q:=by
 unfold U0;refine hta _ ⟨by rw[ZZ h1 rfl];rfl,λk m S2=>(∃ys,W k ys S2)/\m+k=xs.length,⟨xs.length,⟨_,h0⟩,by lia⟩,?_⟩;rintro k m S2 ⟨⟨ys,w⟩,hm⟩;obtain⟨w1,w2,w3⟩:=hw _ _ _ w;rw[ZZ w1 rfl];dsimp only[Zv];split
 ·rename_i x hx;have hk:k<xs.length:=(zA.mp hx).1;unfold Cu;refine hc k x ys S2 _ hx w ?_;cases e:b k x with
  | false=>
   rw[if_neg (zJ)];exact⟨m-1,by lia,⟨_,hno k x ys S2 hx e w⟩,by lia⟩
  | true=>
   rw[if_pos rfl];refine ht k x ys S2 _ hx e w λy S3 e3 w4=>?_
   rw[e3];exact⟨by lia,m-1,by lia,⟨_,w4⟩,by lia⟩
 ·rename_i hx;have hk:k=xs.length:=by
   have:=yQ.mp hx;lia
  exact⟨hk,hq ys S2 (hk ▸ w)⟩
theorem Px {xs:List D}{k:Nat}{d:D}{S:Sto}{Q:DK}(h:xs[k]?=some d)(hq:Q d S):Xh wIx (.tup xs) (.int (k:Int)) S Q:=by
 rw[Ww];show (match atI xs (k:Int) with|some d=>Q d S|none=>False);rw[YF h];exact hq
inductive Ft where
 | wait|small|one
 | cut (k:Nat) (p:Int) (a b:Nat)
 | out (r:Nat) (vs:LI)
 | full (vs:LI)
def VV (a b:Nat)(S:Sto)(m:Nat)(vs:LI):Prop:=m≠a/\m≠b/\S[m]?=some (.lst (vs.map frD))
def V8 (a b:Nat)(S:Sto)(d:D):Ft->Prop
 | .wait=>d=.non
 | .small=>d=.tup [.str "small"]
 | .one=>∃d1 d2 d3 d4 d5,d=.tup [.str "one",d1,d2,d3,d4,d5]
 | .cut k p x y=>d=.tup [.str "cut",.int k,.int p,.int x,.int y]
 | .out r vs=>∃m,d=.tup [.str "out",.int r,.ref m]/\VV a b S m vs
 | .full vs=>∃m,d=.tup [.str "full",.ref m]/\VV a b S m vs
def Cg (a b:Nat)(S T:Sto):Prop:=S.length<=T.length/\∀(x:Nat)(o:Ob),x≠a->x≠b->S[x]?=some o->T[x]?=some o
theorem Cg.refl:Cg a b S S:=⟨zC _,λ_ _ _ _ e=>e⟩
theorem Cg.trans {a b:Nat}{S T U:Sto}(h:Cg a b S T)(k:Cg a b T U):Cg a b S U:=⟨yD h.1 k.1,λx o na nb e=>k.2 x o na nb (h.2 x o na nb e)⟩
theorem Cg.pre {a b:Nat}{S T:Sto}(h:Pre S T):Cg a b S T:=⟨Xv h,λx o _ _ e=>h x o e⟩
theorem Cg.seta (u:Ob):Cg a b S (S.set a u):=⟨by rw[yC];exact zC _,λx o na _ e=>Yg e (Ne.symm na)⟩
theorem Cg.setb (u:Ob):Cg a b S (S.set b u):=⟨by rw[yC];exact zC _,λx o _ nb e=>Yg e (Ne.symm nb)⟩
theorem VV.cg (h:VV a b S m vs)(c:Cg a b S T):VV a b T m vs:=⟨h.1,h.2.1,c.2 _ _ h.1 h.2.1 h.2.2⟩
theorem V8.cg (h:V8 a b S d f)(c:Cg a b S T):V8 a b T d f:=by
 cases f with
 | out r vs=>obtain⟨m,e,o⟩:=h;exact⟨m,e,o.cg c⟩
 | full vs=>obtain⟨m,e,o⟩:=h;exact⟨m,e,o.cg c⟩
 | wait=>exact h
 | small=>exact h
 | one=>exact h
 | cut k p x y=>exact h
structure Bk (C:Addr)(S:Sto)(n a b:Nat)(es:List LI)(fs:List Ft):Prop where
 ins:S[n]?=some (.ins C [("boxes",.ref a),("fates",.ref b)])
 bx:∃bs:List D,S[a]?=some (.lst bs)/\bs.length=es.length/\∀(i:Nat)(e:LI),es[i]?=some e->∃m,bs[i]?=some (.ref m)/\VV a b S m e
 ft:∃ds:List D,S[b]?=some (.lst ds)/\ds.length=fs.length/\∀(i:Nat)(f:Ft),fs[i]?=some f->∃d,ds[i]?=some d/\V8 a b S d f
 ne:a≠b
 len:es.length=fs.length
theorem Bk.na (h:Bk C S n a b es fs):n≠a/\n≠b:=by
 obtain⟨bs,h1,_⟩:=h.bx;obtain⟨ds,h2,_⟩:=h.ft;refine⟨λe=>?_,λe=>?_⟩
 ·have:=h.ins;rw[e,h1] at this;cases this
 ·have:=h.ins;rw[e,h2] at this;cases this
theorem Bk.pre {C:Addr}{S T:Sto}{n a b:Nat}{es:List LI}{fs:List Ft}(h:Bk C S n a b es fs)(p:Pre S T):Bk C T n a b es fs:=by
 obtain⟨bs,h1,h2,h3⟩:=h.bx;obtain⟨ds,k1,k2,k3⟩:=h.ft;refine⟨p _ _ h.ins,⟨bs,p _ _ h1,h2,λi e he=>?_⟩,⟨ds,p _ _ k1,k2,λi f hf=>?_⟩,h.ne,h.len⟩
 ·obtain⟨m,e1,e2⟩:=h3 i e he;exact⟨m,e1,e2.cg (.pre p)⟩
 ·obtain⟨d,e1,e2⟩:=k3 i f hf;exact⟨d,e1,e2.cg (.pre p)⟩
theorem NQ (h:(xs++[x])[i]?=some y):xs[i]?=some y\/(i=xs.length/\y=x):=by
 by_cases c:i<xs.length
 ·rw[zI c] at h;exact .inl h
 ·have l:=(zA.mp h).1;rw[zP] at l;have e:i=xs.length:=by simp at l;lia
  subst e;simp at h;exact .inr ⟨rfl,h.symm⟩
theorem Bk.put {C:Addr}{S:Sto}{n a b m:Nat}{es:List LI}{fs:List Ft}{e:LI}{bs ds:List D}(h:Bk C S n a b es fs)(o:VV a b S m e)(h1:S[a]?=some (.lst bs))(k1:S[b]?=some (.lst ds)):
  Bk C ((S.set a (.lst (bs++[.ref m]))).set b (.lst (ds++[.non]))) n a b (es++[e]) (fs++[.wait])/\Cg a b S ((S.set a (.lst (bs++[.ref m]))).set b (.lst (ds++[.non]))):=by
 have cg:Cg a b S ((S.set a (.lst (bs++[.ref m]))).set b (.lst (ds++[.non]))):=(Cg.seta _).trans (Cg.setb _);obtain⟨bs',h1',h2,h3⟩:=h.bx;rw[h1] at h1';cases h1'
 obtain⟨ds',k1',k2,k3⟩:=h.ft;rw[k1] at k1';cases k1'
 refine⟨⟨cg.2 _ _ h.na.1 h.na.2 h.ins,⟨_,Yg (YE h1) (Ne.symm h.ne),by simp[h2],λi x hx=>?_⟩,⟨_,YE (Yg k1 h.ne),by simp[k2],λi f hf=>?_⟩,h.ne,by simp[h.len]⟩,cg⟩
 ·rcases NQ hx with z|⟨rfl,rfl⟩
  ·obtain⟨q,q1,q2⟩:=h3 i x z;exact⟨q,by rw[zI (zA.mp q1).1];exact q1,q2.cg cg⟩
  ·exact⟨m,by rw[<- h2];simp,o.cg cg⟩
 ·rcases NQ hf with z|⟨rfl,rfl⟩
  ·obtain⟨q,q1,q2⟩:=k3 i f z;exact⟨q,by rw[zI (zA.mp q1).1];exact q1,q2.cg cg⟩
  ·exact⟨.non,by rw[<- k2];simp,rfl⟩
theorem Bk.fate (h:Bk C S n a b es fs)(o:V8 a b S d f)(k1:S[b]?=some (.lst ds)):
  Bk C (S.set b (.lst (ds.set i d))) n a b es (fs.set i f)/\Cg a b S (S.set b (.lst (ds.set i d))):=by
 have cg:Cg a b S (S.set b (.lst (ds.set i d))):=Cg.setb _;obtain⟨bs,h1,h2,h3⟩:=h.bx;obtain⟨ds',k1',k2,k3⟩:=h.ft;rw[k1] at k1';cases k1'
 refine⟨⟨cg.2 _ _ h.na.1 h.na.2 h.ins,⟨bs,Yg h1 (Ne.symm h.ne),h2,λj x hx=>?_⟩,⟨_,YE k1,by simp[k2],λj x hx=>?_⟩,h.ne,by simp[h.len]⟩,cg⟩
 ·obtain⟨q,q1,q2⟩:=h3 j x hx;exact⟨q,q1,q2.cg cg⟩
 ·by_cases c:i=j
  ·subst c;have l:i<fs.length:=by
    have:=(zA.mp hx).1
    rwa [yC] at this
   rw[yI l] at hx;cases hx;exact⟨d,by rw[yI (by lia)],o.cg cg⟩
  ·rw[zW c] at hx;obtain⟨q,q1,q2⟩:=k3 j x hx;exact⟨q,by rw[zW c];exact q1,q2.cg cg⟩
theorem Bk.box {C:Addr}{S:Sto}{n a b i:Nat}{es:List LI}{fs:List Ft}{e:LI}(h:Bk C S n a b es fs)(he:es[i]?=some e):∃(bs:List D)(m:Nat),S[a]?=some (.lst bs)/\bs[i]?=some (.ref m)/\VV a b S m e:=by
 obtain⟨bs,h1,h2,h3⟩:=h.bx;obtain⟨m,q1,q2⟩:=h3 i e he;exact⟨bs,m,h1,q1,q2⟩
def wd (p:Int×Int):Int:=p.2-p.1
def Wst (bs:LI)(m:Int):Prop:=(∀p∈bs,wd p<=m)/\(bs=[]/\m=0\/∃p∈bs,m=wd p)
def suB (zero:Bool)(s:Int×Int):Bool:=if zero then decide (s.1=0)&&decide (s.2=0) else decide (0<=s.1)
def suS (ns:List Nd)(rows:List (Bool×Nat))(e:LI)(g:Int):Bool:=rows.all λr=>suB r.1 (gt (ZC e g ns) (r.2:Int))
def FOk (g fine:Int)(ns:List Nd)(rows:List (Bool×Nat))(e:LI):Ft->Prop
 | .out r vs=>∃row,rows[r]?=some row/\vs=ZC e g (ns.take (row.2+1))/\ibS ns row.1 row.2 e g=true
 | .full vs=>vs=ZC e g ns/\(∀row∈rows,ibS ns row.1 row.2 e g=false)/\suS ns rows e g=true
 | .one=>True
 | .small=>(∀p∈e,wd p<=fine)/\(∀row∈rows,ibS ns row.1 row.2 e g=false)/\suS ns rows e g=false
 | _=>False
inductive Bks (g fine:Int)(ns:List Nd)(rows:List (Bool×Nat))(b0:LI):List LI->List Ft->Prop
 | new:Bks g fine ns rows b0 [b0] [.wait]
 | cut {es:List LI} {fs:List Ft} {i k:Nat} {e:LI} {s:Int×Int} {p:Int}:Bks g fine ns rows b0 es fs->fs[i]?=some .wait->es[i]?=some e->e[k]?=some s->s.1<p->p<s.2->
   Bks g fine ns rows b0 (es++[e.set k (s.1,p)]++[e.set k (p,s.2)]) ((fs++[Ft.wait]++[Ft.wait]).set i (.cut k p es.length (es.length+1)))
 | put {es:List LI} {fs:List Ft} {i:Nat} {e:LI} {f:Ft}:Bks g fine ns rows b0 es fs->fs[i]?=some .wait->es[i]?=some e->FOk g fine ns rows e f->Bks g fine ns rows b0 es (fs.set i f)
theorem CM (h:Spn n e)(hp:p.1<=p.2/\Sz n p.1/\Sz n p.2):Spn n (e.set k p):=λq hq=>by
 rcases List.mem_or_eq_of_mem_set hq with z|rfl
 ·exact h q z
 ·exact hp
theorem Bks.ok (sb:Spn 51 b0)(h:Bks g fine ns rows b0 es fs):es.length=fs.length/\∀e∈es,e.length=b0.length/\Spn 51 e:=by
 induction h with
 | new=>exact⟨rfl,λe he=>by cases zS.mp he;exact⟨rfl,sb⟩⟩
 | @cut es fs i k e s p _ hw he hs h1 h2 ih=>
  obtain⟨l,a⟩:=ih;obtain⟨le,se⟩:=a e (zF he);have ss:=se s (zF hs)
  have zp:Sz 51 p:=Sz.mid ss.2.1 ss.2.2 (by lia) (by lia);refine⟨by simp[l],λx hx=>?_⟩;rcases zZ.mp hx with hx|hx
  ·rcases zZ.mp hx with hx|hx
   ·exact a x hx
   ·cases zS.mp hx;exact⟨by rw[yC];exact le,CM se ⟨by show s.1<=p;lia,ss.2.1,zp⟩⟩
  ·cases zS.mp hx;exact⟨by rw[yC];exact le,CM se ⟨by show p<=s.2;lia,zp,ss.2.2⟩⟩
 | put _ _ _ _ ih=>exact⟨by rw[yC];exact ih.1,ih.2⟩
theorem Bks.shave {g fine:Int}{ns:List Nd}{rows:List (Bool×Nat)}{b0 e:LI}{es:List LI}{fs:List Ft}{j r:Nat}{row:Bool×Nat}{c:Ct}(h:Bks g fine ns rows b0 es fs)(l:es.length=fs.length)(hw:fs[j]?=some .wait)(he:es[j]?=some e)(hk:c.k<e.length)(hs:isS ns row.1 row.2 g e c=true)(hr:rows[r]?=some row):
  e[c.k]?=some (gt e (c.k:Int))/\
  (es++[e.set c.k ((gt e (c.k:Int)).1,c.p)]++[e.set c.k (c.p,(gt e (c.k:Int)).2)])[es.length+(if c.s then 1 else 0)]?=some (e.set c.k (c.off (gt e (c.k:Int))))/\
  ((fs++[Ft.wait]++[Ft.wait]).set j (.cut c.k c.p es.length (es.length+1)))[es.length+(if c.s then 1 else 0)]?=some .wait/\
  Bks g fine ns rows b0 (es++[e.set c.k ((gt e (c.k:Int)).1,c.p)]++[e.set c.k (c.p,(gt e (c.k:Int)).2)]) (((fs++[Ft.wait]++[Ft.wait]).set j (.cut c.k c.p es.length (es.length+1))).set (es.length+(if c.s then 1 else 0)) (.out r (ZC (e.set c.k (c.off (gt e (c.k:Int)))) g (ns.take (row.2+1)))))/\
  (es++[e.set c.k ((gt e (c.k:Int)).1,c.p)]++[e.set c.k (c.p,(gt e (c.k:Int)).2)])[es.length+(if c.s then 0 else 1)]?=some (ctP e c)/\
  (((fs++[Ft.wait]++[Ft.wait]).set j (.cut c.k c.p es.length (es.length+1))).set (es.length+(if c.s then 1 else 0)) (.out r (ZC (e.set c.k (c.off (gt e (c.k:Int)))) g (ns.take (row.2+1)))))[es.length+(if c.s then 0 else 1)]?=some .wait:=by
 have hek:e[c.k]?=some (gt e (c.k:Int)):=by
  have z:=zD hk;rw[z,gt_at z]
 obtain⟨h1,h2⟩:=Du hs;have B:=h.cut hw he hek h1 h2
 have ib:ibS ns row.1 row.2 (e.set c.k (c.off (gt e (c.k:Int)))) g=true:=by
  unfold isS at hs;rw[Bool.and_eq_true] at hs;exact hs.2
 have lj:=(zA.mp hw).1;obtain⟨ck,cp,cs⟩:=c;cases cs with
 | true=>
  have e1:(es++[e.set ck ((gt e (ck:Int)).1,cp)]++[e.set ck (cp,(gt e (ck:Int)).2)])[es.length+1]?=some (e.set ck (cp,(gt e (ck:Int)).2)):=by simp
  have e2:(es++[e.set ck ((gt e (ck:Int)).1,cp)]++[e.set ck (cp,(gt e (ck:Int)).2)])[es.length]?=some (e.set ck ((gt e (ck:Int)).1,cp)):=by simp
  have f1:((fs++[Ft.wait]++[Ft.wait]).set j (.cut ck cp es.length (es.length+1)))[es.length+1]?=some .wait:=by
   rw[zW (by lia),l];simp
  have f2:((fs++[Ft.wait]++[Ft.wait]).set j (.cut ck cp es.length (es.length+1)))[es.length]?=some .wait:=by
   rw[zW (by lia),l];simp
  refine⟨hek,e1,f1,B.put f1 e1 ⟨row,hr,rfl,ib⟩,e2,?_⟩;rw[if_pos rfl,if_pos rfl,zW (by lia)];exact f2
 | false=>
  have e1:(es++[e.set ck ((gt e (ck:Int)).1,cp)]++[e.set ck (cp,(gt e (ck:Int)).2)])[es.length+1]?=some (e.set ck (cp,(gt e (ck:Int)).2)):=by simp
  have e2:(es++[e.set ck ((gt e (ck:Int)).1,cp)]++[e.set ck (cp,(gt e (ck:Int)).2)])[es.length]?=some (e.set ck ((gt e (ck:Int)).1,cp)):=by simp
  have f1:((fs++[Ft.wait]++[Ft.wait]).set j (.cut ck cp es.length (es.length+1)))[es.length+1]?=some .wait:=by
   rw[zW (by lia),l];simp
  have f2:((fs++[Ft.wait]++[Ft.wait]).set j (.cut ck cp es.length (es.length+1)))[es.length]?=some .wait:=by
   rw[zW (by lia),l];simp
  refine⟨hek,e2,f2,B.put f2 e2 ⟨row,hr,rfl,ib⟩,e1,?_⟩;rw[if_neg zJ,if_neg zJ,zW (by lia)];exact f1
structure Sr (S:Sto)(nd rw:Nat)(g:Int)(ns:List Nd)(ws:List Nat)(rows:List (Bool×Nat))(u:Nat):Prop where
 nd:S[nd]?=some (.lst (ns.map Nd.d))
 rw:S[rw]?=some (.lst (rows.map rwD))
 net:ZT u ns ws
 hg:1<=g/\g<=1000000
 l70:ns.length<=70
 rl:rows.length<=4
 ri:∀r∈rows,r.2<ns.length
 u1:1<=u/\u<=4
theorem Sr.pre {S T:Sto}{nd rw u:Nat}{g:Int}{ns:List Nd}{ws:List Nat}{rows:List (Bool×Nat)}(h:Sr S nd rw g ns ws rows u)(p:Pre S T):Sr T nd rw g ns ws rows u:=⟨p _ _ h.nd,p _ _ h.rw,h.net,h.hg,h.l70,h.rl,h.ri,h.u1⟩
def Apt (nd rw a b:Nat):Prop:=(nd≠a/\nd≠b)/\rw≠a/\rw≠b
theorem Sr.cg {S T:Sto}{nd rw u a b:Nat}{g:Int}{ns:List Nd}{ws:List Nat}{rows:List (Bool×Nat)}(h:Sr S nd rw g ns ws rows u)(p:Apt nd rw a b)(c:Cg a b S T):Sr T nd rw g ns ws rows u:=⟨c.2 _ _ p.1.1 p.1.2 h.nd,c.2 _ _ p.2.1 p.2.2 h.rw,h.net,h.hg,h.l70,h.rl,h.ri,h.u1⟩
theorem rww (b:Bool):rwW b (if b then "zero" else "least"):=by
 cases b
 ·exact .inr ⟨rfl,rfl⟩
 ·exact .inl ⟨rfl,rfl⟩
theorem zgB {bs:LI}{cs:List Ct}{i:Nat}{c:Ct}(h:cs[i]?=some c):ctA bs (cs.take (i+1))=ctP (ctA bs (cs.take i)) c:=by
 rw[Y9 h,EI]
def Shd (es:List LI)(j:Nat)(es':List LI)(j':Nat):Prop:=es.length<=es'.length/\(es'.length=es.length->es'=es/\j'=j)
def FoAt (S:Sto)(d:D):Ft->Prop
 | .wait=>d=.tup [.str "waits"]
 | f=>∃a b,V8 a b S d f
def En (T:Sto)(ds:List D)(es:List LI)(fs:List Ft):Prop:=ds.length=es.length/\es.length=fs.length/\∀(i:Nat)(e:LI)(f:Ft),es[i]?=some e->fs[i]?=some f->∃(m:Nat)(d:D),ds[i]?=some (.tup [.ref m,d])/\T[m]?=some (.lst (e.map frD))/\FoAt T d f
def waD:D->D
 | .non=>.tup [.str "waits"]
 | d=>d
def DI (x y:D):D:=.tup [x,waD y]
theorem Bk.told (h:Bk C S n a b es fs)(h1:S[a]?=some (.lst bs))(k1:S[b]?=some (.lst ds))(U:Sto):En (S++U) (List.zipWith DI bs ds) es fs:=by
 obtain⟨bs',h1',h2,h3⟩:=h.bx;rw[h1] at h1';cases h1'
 obtain⟨ds',k1',k2,k3⟩:=h.ft;rw[k1] at k1';cases k1'
 have ll:=h.len;refine⟨by rw[List.length_zipWith];lia,h.len,λi e f he hf=>?_⟩;obtain⟨m,m1,m2⟩:=h3 i e he;obtain⟨d,d1,d2⟩:=k3 i f hf;refine⟨m,waD d,by rw[List.getElem?_zipWith,m1,d1];rfl,ZF m2.2.2,?_⟩;have d3:=d2.cg (T:=S++U) (.pre λx o e=>ZF e);cases f with
 | wait=>cases d2;rfl
 | small=>cases d2;exact⟨a,b,d3⟩
 | one=>obtain⟨_,_,_,_,_,rfl⟩:=d2;exact⟨a,b,d3⟩
 | cut _ _ _ _=>cases d2;exact⟨a,b,d3⟩
 | out _ _=>obtain⟨_,rfl,_⟩:=d2;exact⟨a,b,d3⟩
 | full _=>obtain⟨_,rfl,_⟩:=d2;exact⟨a,b,d3⟩
theorem DA (k:Nat)(v:Int):∀zs:List Int,∃o,XJ (eqN k) (zs.map D.int) (.int v)=some o
 | []=>⟨none,rfl⟩
 | z::zs=>by
  obtain⟨o,ho⟩:=DA k v zs;have e:eqN k (.int z) (.int v)=some (decide (z=v)):=by cases k<;>rfl
  rw[yJ];unfold XJ;rw[e,ho];cases decide (z=v)
  ·exact⟨_,rfl⟩
  ·exact⟨_,rfl⟩
theorem BX {k:Nat}{v:Int}:∀ {zs:List Int},v∈zs->∃j,XJ (eqN k) (zs.map D.int) (.int v)=some (some j)/\zs[j]?=some v
 | z::zs,h=>by
  obtain⟨o,ho⟩:=DA k v zs;have e:eqN k (.int z) (.int v)=some (decide (z=v)):=by cases k<;>rfl
  rw[yJ];unfold XJ;rw[e];by_cases c:z=v
  ·subst c;rw[decide_eq_true rfl,ho];exact⟨0,rfl,rfl⟩
  ·have hm:v∈zs:=by
    rcases zR.mp h with q|q
    ·exact absurd q.symm c
    ·exact q
   obtain⟨j,h1,h2⟩:=BX (k:=k) hm;rw[decide_eq_false c,h1];exact⟨j+1,rfl,h2⟩
theorem zhp {k:Nat}{to:TDE}{t:TDA}{dl:Ev}{S S1:Sto}{Q:DK}{n:Nat}{zs:List Int}(R:Int->Sto->Prop)(hto:∀K:DK,K (.ref n) S1->to dl S K)(ht:∀K:List D->Sto->Prop,(∀v S2,R v S2->K [.int v] S2)->t dl S1 K)(h1:S1[n]?=some (.lst (zs.map D.int)))(hR:∀v S2,R v S2->S2[n]?=some (.lst (zs.map D.int))/\v∈zs)(hq:∀v S2 (j:Nat),R v S2->zs[j]?=some v->Q (.int (j:Int)) S2):Sn k to t dl S Q:=by
 unfold Sn;refine hto _ ⟨by rw[ZZ h1 rfl];rfl,ht _ λv S2 r=>?_⟩;obtain⟨h2,hv⟩:=hR v S2 r;unfold QD;dsimp only;rw[ZZ h2 rfl];dsimp only[Zv];obtain⟨j,e1,e2⟩:=BX (k:=k) hv;rw[e1];exact hq v S2 j r e2
theorem Di {e:LI}{g:Int}{ns:List Nd}{k:Nat}(hk:k<ns.length):gt (ZC e g (ns.take (k+1))) (k:Int)=gt (ZC e g ns) (k:Int):=by
 rw[<- zfK e g ns (k+1) (by lia),zdD ⟨by lia,by lia⟩]
theorem CJ (ns:List Nd)(e:LI)(g:Int):∀rows:List (Bool×Nat),YO ((rows.map rwD).map (λd=>match d with|.tup [.str w,.int at']=>.bl (suB (decide (w="zero")) (gt (ZC e g ns) at'))|_=>.non))=some (rows.map λr=>suB r.1 (gt (ZC e g ns) (r.2:Int)))
 | []=>rfl
 | (b,n)::rs=>by
  show (YO ((rs.map rwD).map _)).map _=_;rw[CJ ns e g rs];cases b<;>rfl
theorem ze1 (ns:List Nd)(e:LI)(g:Int):∀rows:List (Bool×Nat),((rows.map λr=>suB r.1 (gt (ZC e g ns) (r.2:Int))).all id)=suS ns rows e g:=λrows=>by
 unfold suS;rw[List.all_map];rfl
def VC (bs:LI):Int:=(bs.map wd).sum
theorem M6:∀ {bs:LI},Spn 51 bs->0<=VC bs/\VC bs<=bs.length*2^52/\∀p∈bs,wd p<=VC bs
 | [],_=>⟨yA 0,by decide,λp hp=>(nomatch hp)⟩
 | p::bs,h=>by
  obtain⟨h1,h2,h3⟩:=M6 (bs:=bs) λq hq=>h q (yH _ hq)
  obtain⟨a,b,c⟩:=h p (yS ..);have e:VC (p::bs)=wd p+VC bs:=rfl;unfold Sz at b c;have w0:0<=wd p:=by unfold wd;lia
  have w1:wd p<=2^52:=by unfold wd;lia
  rw[e];refine⟨by lia,by rw[zU];lia,λq hq=>?_⟩;rcases zR.mp hq with rfl|z
  ·lia
  ·have:=h3 q z;lia
theorem zdB {tl td:TDE}{dl:Ev}{S S1 S2:Sto}{Q:DK}{n:Nat}{zs:List Int}{e:D}(htl:∀K:DK,K (.ref n) S1->tl dl S K)(htd:∀K:DK,K e S2->td dl S1 K)(h:S2[n]?=some (.lst (zs.map D.int)))(h0:zs=[]->Q e S2)(hq:∀m,m∈zs->(∀y∈zs,y<=m)->Q (.int m) S2):N0 tl td dl S Q:=by
 unfold N0;refine htl _ (htd _ ?_);unfold Rv;dsimp only;rw[ZZ h rfl];exact⟨zs,Vy zs,h0,hq⟩
theorem zeP {caps:List Nat}{P:Addr}{lp:Pos}{q:Str}{tl te:TDE}{dl:Ev}{S S1:Sto}{Q:DK}{n t:Nat}{xs:List D}(htl:∀K:DK,K (.ref n) S1->tl dl S K)(ht:S1[t]?=some (.cod P lp q))(h:S1[n]?=some (.lst xs))(h0:xs=[]->Q .non S1)
  (hk:∀(v:D)(S2:Sto)(K:DK),v∈xs->Pre S1 S2->(∀(k:Int)(S3:Sto),Pre S2 S3->K (.int k) S3)->te (some v::Yc caps dl) S2 K)(hq:∀(v:D)(S2:Sto),v∈xs->Pre S1 S2->Q v S2):MZ caps P lp q tl te dl S Q:=by
 unfold MZ;refine htl _ ?_;unfold Qs;refine⟨⟨t,ht⟩,?_⟩;rw[ZZ h rfl];dsimp only[Zv];exact⟨h0,λi v S2 hv p=>hk v S2 _ (zF hv) p λk S3 p3=>⟨⟨k,rfl⟩,λx o e=>p3 _ _ (p _ _ e)⟩,λi v S2 hv p=>hq v S2 (zF hv) p⟩
theorem Rf {xs:List D}{i:Int}(k:Nat){d:D}{S:Sto}{Q:DK}(hi:i=(k:Int))(h:xs[k]?=some d)(hq:Q d S):Xh wIx (.tup xs) (.int i) S Q:=by
 subst hi;exact Px h hq
theorem C9 (h:S[n]?=some (.frz xs))(hq:Q (.int (xs.length:Nat)) S):irr T8 [.ref n] S Q:=by
 rw[U2];unfold T8;simp only[ZZ h rfl];exact hq
theorem zgt {ns:List Int}{k:Int}(h0:0<=k)(h1:k<(ns.length:Int)):atI (ns.map D.int) k=some (.int (ns.getD k.toNat 0)):=by
 have hk:k.toNat<ns.length:=by lia
 have z:=YF (xs:=ns.map D.int) (j:=k.toNat) (v:=.int (ns.getD k.toNat 0)) (by simp[hk]);rw[show ((k.toNat:Nat):Int)=k by lia] at z;exact z
theorem CA (t:Int):Int.gcd t 1=1:=by simp
theorem zfX (b k:Int):Int.gcd (b*k+1) b=1:=by
 have h:=Int.gcd_dvd_left (a:=b*k+1) (b:=b)
 have h2:=Int.gcd_dvd_right (a:=b*k+1) (b:=b)
 have h3:((Int.gcd (b*k+1) b:Nat):Int) ∣ 1:=by
  have z:=Int.dvd_sub h (Int.dvd_trans h2 (Int.dvd_mul_right b k))
  rwa [show b*k+1-b*k=1 by lia] at z
 have:=Int.eq_one_of_dvd_one (by lia) h3;lia
theorem zf4 (net:ZT q ns ws)(hv:ns[k]?=some v):v.ok (ws.take k).length q/\v.wt (ws.take k)=ws.getD k 0/\(∀i:Int,inR (ws.take k).length i->(ws.take k).getD i.toNat 0<=16):=by
 obtain⟨ok,e,_,_⟩:=net.ok k v hv;have lk:=(zA.mp hv).1
 have ln:(ws.take k).length=k:=by rw[zL,net.len];lia
 have g:∀i:Int,inR (k:Nat) i->(ws.take k).getD i.toNat 0=ws.getD i.toNat 0:=λi hi=>by
  have h0:=hi.1
  have h1:=hi.2;rw[zT,zT,List.getElem?_take,if_pos (by lia)]
 rw[ln];refine⟨ok,?_,λi hi=>?_⟩
 ·rw[e];cases v with
  | number t b=>rfl
  | unknown j=>rfl
  | plus i j=>simp only[Nd.wt];rw[g i ok.1,g j ok.2]
  | minus i j=>simp only[Nd.wt];rw[g i ok.1,g j ok.2]
  | times i j=>simp only[Nd.wt];rw[g i ok.1,g j ok.2]
  | power i n=>simp only[Nd.wt];rw[g i ok.1]
 ·rw[g i hi];exact(net.w1 ⟨hi.1,by have:=hi.2;lia⟩).2
theorem zca {to te:TDE}{dl:Ev}{S S1:Sto}{Q:DK}{n:Nat}{xs:List D}(R:D->Sto->Prop)(hto:∀K:DK,K (.ref n) S1->to dl S K)(h:S1[n]?=some (.lst xs))(hte:∀K:DK,(∀y T,R y T->K y T)->te dl S1 K)(h2:∀y T,R y T->T[n]?=some (.lst xs))(hl:xs.length<1000)(hq:∀y T,R y T->Q .non (T.set n (.lst (xs++[y])))):WL to te dl S Q:=by
 unfold WL;refine hto _ ?_;simp only[h];refine hte _ λy T r=>?_
 simp only[h2 y T r,if_pos hl];exact hq y T r
theorem Ap (fine:Int):∀e:LI,YO ((e.map frD).map (λd=>match d with|.tup [.int a,.int b]=>.bl (decide (b-a > fine))|_=>.non))=some (e.map λp=>decide (p.2-p.1 > fine))
 | []=>rfl
 | p::e=>by
  show (YO ((e.map frD).map _)).map _=_;rw[Ap fine e];rfl
theorem zhB {fine:Int}{e:LI}(h:∀p∈e,wd p<=fine):(e.map λp=>decide (p.2-p.1 > fine)).any id=false:=by
 rw[List.any_eq_false];intro b hb;obtain⟨p,hp,rfl⟩:=zO.mp hb;have:=h p hp;unfold wd at this;show ¬ decide (p.2-p.1 > fine)=true;rw[decide_eq_true_eq];lia
def sfA (ns:List Nd)(rows:List (Bool×Nat))(e:LI)(g:Int)(k:Nat):Bool:=(rows.take k).all λr=>suB r.1 (gt (ZC e g ns) (r.2:Int))
theorem zdY {ns:List Nd}{rows:List (Bool×Nat)}{e:LI}{g:Int}{k:Nat}{r:Bool×Nat}(h:rows[k]?=some r):sfA ns rows e g (k+1)=(sfA ns rows e g k&&suB r.1 (gt (ZC e g ns) (r.2:Int))):=by
 unfold sfA;rw[Y9 h,List.all_append];simp
section
variable {X:Cx}{Z:Zx}{pos:Pos}
def Alk (S:Sto):Nat->D->D->Prop
 | 0,d,e=>eqF d e=some true
 | n+1,d,e=>Alk S n d e\/(∃xs ys,d=.tup xs/\e=.tup ys/\xs.length=ys.length/\∀(k:Nat)(x y:D),xs[k]?=some x->ys[k]?=some y->Alk S n x y)\/
  ∃a b xs ys,d=.ref a/\e=.ref b/\S[a]?=some (.lst xs)/\S[b]?=some (.lst ys)/\xs.length=ys.length/\∀(k:Nat)(x y:D),xs[k]?=some x->ys[k]?=some y->Alk S n x y
theorem Ew (n:Nat):(List.range n).all (λ_=>true)=true:=by simp
theorem Dp {n:Nat}{A:Around}{pins:LA}{σ:L3.St}{H:Hp}{s:Shared}{r:List Addr}{S:Sto}(I:Inv X pins σ H s)(aZ:Rel X.K Z r S H){a b:Nat}{xs ys:List D}{p p':Addr}(hp:r[a]?=some p)(hp':r[b]?=some p')(s1:S[a]?=some (.lst xs))(s2:S[b]?=some (.lst ys))(l:xs.length=ys.length)(hu:A.units<cLine)
  (f:∀ {d e:D} {v1 v2:V} {u1 u2:Value},Alk S n d e->Rp r H d v1->Rp r H e v2->ZK v1 u1->ZK v2 u2->SeqAt.EqAt A.in1 s u1 u2 true)(al:∀(k:Nat)(x y:D),xs[k]?=some x->ys[k]?=some y->Alk S n x y):SeqAt.RcAt A s (.ref p) (.ref p') true:=by
 obtain⟨z,hz,ob⟩:=aZ.at s1;rw[hp] at hz;cases hz
 obtain⟨z,hz,ob'⟩:=aZ.at s2;rw[hp'] at hz;cases hz
 obtain⟨vs,sq,pr⟩:=ob.list rfl;obtain⟨ws,sq',pr'⟩:=ob'.list rfl;obtain⟨is,ri,pl,_⟩:=I.list sq;obtain⟨js,rj,pl',_⟩:=I.list sq';have g1:=EZ (P:=λS=>Alk S n) (S:=S) f pr pr' ri rj al
 have hs:is.toArray.size=js.toArray.size:=by
  have a1:=ri.length
  have a2:=rj.length
  have a3:=pr.1
  have a4:=pr'.1;simp only[zH];show is.length=js.length
  have a3:xs.length=vs.length:=a3
  have a4:ys.length=ws.length:=a4;lia
 have q:=SeqAt.RcAt.lists (A:=A) (e:=λ_=>true) pl.isList pl'.isList hs hu g1;rw[Ew] at q;exact q
theorem MG:∀(n:Nat) {A:Around} {pins:LA} {σ:L3.St} {H:Hp} {s:Shared} {r:List Addr} {S:Sto} {d e:D} {v1 v2:V} {u1 u2:Value},Inv X pins σ H s->Rel X.K Z r S H->Alk S n d e->Rp r H d v1->Rp r H e v2->ZK v1 u1->ZK v2 u2->A.units+n<cLine->SeqAt.EqAt A s u1 u2 true
 | 0,A,pins,σ,H,s,r,S,d,e,v1,v2,u1,u2,I,aZ,h,pd,pe,ru1,ru2,hu=>Mx 0 X pins σ H s r A d e v1 v2 u1 u2 true I hu pd pe ru1 ru2 h
 | n+1,A,pins,σ,H,s,r,S,d,e,v1,v2,u1,u2,I,aZ,h,pd,pe,ru1,ru2,hu=>by
  rcases h with h|⟨xs,ys,rfl,rfl,l,al⟩|⟨a,b,xs,ys,rfl,rfl,s1,s2,l,al⟩
  ·exact MG n I aZ h pd pe ru1 ru2 (by lia)
  ·cases pd with
   | @tup _ vs a h1 l1 f1=>
    cases pe with
    | @tup _ ws b h2 l2 f2=>
     cases ru1;cases ru2;by_cases hne:a=b
     ·subst hne;exact SeqAt.EqAt.same _
     ·obtain⟨is,ri,pl,_⟩:=I.tuple (SqT.of h1);obtain⟨js,rj,pl',_⟩:=I.tuple (SqT.of h2);have g1:=EZ (P:=λS=>Alk S n) (S:=S) (A:=A.in1) (λh p q r1 r2=>MG n I aZ h p q r1 r2 (by show A.units+1+n<_;lia)) ⟨l1,f1⟩ ⟨l2,f2⟩ ri rj al
      have q:=SeqAt.RcAt.tuples (A:=A) (e:=λ_=>true) pl pl' (by lia) g1
      have hs:(is.toArray.size==js.toArray.size)=true:=by
       have a1:=ri.length
       have a2:=rj.length;simp only[zH,beq_iff_eq];show is.length=js.length;lia
      rw[Ew,hs] at q;exact SeqAt.EqAt.of_refs hne q
  ·cases pd with
   | @ref _ p hp=>
    cases pe with
    | @ref _ p' hp'=>
     cases ru1;cases ru2;by_cases hne:p=p'
     ·subst hne;exact SeqAt.EqAt.same _
     ·exact SeqAt.EqAt.of_refs hne (Dp I aZ hp hp' s1 s2 l (by lia) (λh p q r1 r2=>MG n I aZ h p q r1 r2 (by show A.units+1+n<_;lia)) al)
def wEqK:W2:=λx y S Q=>match x,y with
 | .ref a,.ref b=>(∃xs ys,S[a]?=some (.lst xs)/\S[b]?=some (.lst ys)/\xs.length=ys.length/\∀(k:Nat)(x y:D),xs[k]?=some x->ys[k]?=some y->Alk S 5 x y)/\Q (.bl true) S
 | _,_=>False
theorem zaz {j:Nat}(hr:ZU j X.A):OpR X (compareOp .Eq) (upO X.K Z wEqK):=by
 have hu:=hr.un;intro pins s σ H x y v u Qv I rx ry h;obtain⟨r,S,dx,dy,Q,aZ,px,py,q,ret⟩:=h;cases px with
 | @ref n a hn=>
  cases py with
  | @ref m a' hm=>
   cases rx;cases ry;obtain⟨⟨xs,ys,s1,s2,l,al⟩,q⟩:=(show (∃xs ys,_)/\_ from q);exact Dp I aZ hn hm s1 s2 l (by lia) (λh p q r1 r2=>MG 5 I aZ h p q r1 r2 (by show X.A.units+1+5<_;lia)) al X.prog X.w X.xe _ ⟨.bl true,H,I,rfl,ret _ _ _ _ _ Ext.refl aZ (.bl true) q⟩
  | _=>exact(show False from q).elim
 | _=>exact(show False from q).elim
end
theorem alk0 (h:eqF d e=some true):∀n,Alk S n d e
 | 0=>h
 | n+1=>.inl (alk0 h n)
theorem Dx (h:∀x∈xs,eqF x x=some true):Alk S (n+1) (.tup xs) (.tup xs):=.inr (.inl ⟨xs,xs,rfl,rfl,rfl,λk x y hx hy=>by
 rw[hx] at hy;cases hy;exact alk0 (h x (zF hx)) n⟩)
theorem zbw (i:Int):eqF (.int i) (.int i)=some true:=by simp[eqF]
theorem zdH (p:Int×Int):Alk S (n+1) (frD p) (frD p):=Dx λx hx=>by
 simp only[zR,yX,or_false] at hx;rcases hx with rfl|rfl<;>exact zbw _
theorem zao {S:Sto}{n a b:Nat}{α:Type}{f:α->D}{xs:List α}(hf:∀x,Alk S n (f x) (f x))(h1:S[a]?=some (.lst (xs.map f)))(h2:S[b]?=some (.lst (xs.map f))):Alk S (n+1) (.ref a) (.ref b):=.inr (.inr ⟨a,b,_,_,rfl,rfl,h1,h2,rfl,λk x y hx hy=>by
 rw[hx] at hy;cases hy;rw[zE] at hx;obtain⟨z,_,rfl⟩:=zG.mp hx;exact hf z⟩)
theorem eq_at (h:f x y=some b)(hq:Q (.bl b) S):wEq f x y S Q:=by
 unfold wEq;rw[h];exact hq
theorem Dy {ta tb:TDE}{dl:Ev}{S:Sto}{K:Bool->Sto->Prop}{x y:D}{b:Bool}(hx:∀Q:DK,Q x S->ta dl S Q)(hy:∀Q:DK,Q y S->tb dl S Q)(h:eq2 x y=some b)(hK:K b S):Q7 (dOp (wEq eq2) ta tb) dl S K:=by
 unfold Q7 dOp;exact hx _ (hy _ (eq_at h hK))
theorem zfT {caps:List Nat}{ta:TDA}{te:TDE}{dl:Ev}{S S1:Sto}{Q:DK}{lo hi:Int}(P:Int->Prop)(hta:∀K:List D->Sto->Prop,K [.int lo,.int hi] S1->ta dl S K)(hb:(0<=lo/\lo<=1000)/\0<=hi/\hi<=1000)
  (ht:∀(k:Int)(S2:Sto)(K:DK),lo<=k->k<hi->Pre S1 S2->(∀c,P c->K (.int c) S2)->te (some (.int k)::Yc caps dl) S2 K)(hq:∀cs:List Int,cs.length=(hi-lo).toNat->(∀c∈cs,P c)->Q (.ref S1.length) (S1++[.lst (cs.map D.int)])):Qq caps ta Xa te dl S Q:=by
 unfold Qq;refine hta _ ⟨⟨by lia,by lia,by lia,by lia⟩,λk S2=>k<=(hi-lo).toNat/\∃cs:List Int,cs.length=k/\(∀c∈cs,P c)/\S2=S1++[.lst (cs.map D.int)],⟨zK _,[],rfl,λc hc=>(nomatch hc),rfl⟩,?_⟩;rintro k S2 ⟨hk,cs,lc,pc,rfl⟩;split
 ·rename_i c;unfold WM Xa;simp only[if_true];refine ht _ _ _ (by lia) (by lia) Pre.refl.push λv hv=>?_
  rw[Zz];dsimp only;refine⟨by rw[zB];lia,by lia,cs++[v],by simp[lc],λx hx=>?_,by rw[Vi,zY];rfl⟩;rcases zZ.mp hx with z|z
  ·exact pc x z
  ·cases zS.mp z;exact hv
 ·rename_i c;exact hq cs (by lia) pc
def smD:D->Option D
 | .tup [.ref _,.tup [.str w]]=>if w="small" then some (.bl true) else none
 | _=>none
theorem Ac:∀xs:List D,∃n,YO (xs.filterMap smD)=some (List.replicate n true)
 | []=>⟨0,rfl⟩
 | x::xs=>by
  obtain⟨n,h⟩:=Ac xs;cases e:smD x with
  | none=>rw[List.filterMap_cons_none e];exact⟨n,h⟩
  | some y=>
   have ey:y=.bl true:=by
    unfold smD at e;split at e
    ·split at e
     ·exact(Option.some.inj e).symm
     ·cases e
    ·cases e
   subst ey;rw[List.filterMap_cons_some e];refine⟨n+1,?_⟩;show (YO (xs.filterMap smD)).map _=_;rw[h];rfl
theorem J6 (h:FoAt S d f):(∃xs,d=.tup xs)/\(f≠.wait->eq2 d (.tup [.str "waits"])=some false)/\∀m:Nat,eq2 d (.tup [.str "small"])=some (smD (.tup [.ref m,d])).isSome/\((smD (.tup [.ref m,d])).isSome=true->f=.small):=by
 cases f with
 | wait=>cases h;exact⟨⟨_,rfl⟩,λz=>absurd rfl z,λm=>⟨rfl,λz=>by cases z⟩⟩
 | small=>obtain⟨a,b,rfl⟩:=h;exact⟨⟨_,rfl⟩,λ_=>rfl,λm=>⟨rfl,λ_=>rfl⟩⟩
 | one=>obtain⟨a,b,_,_,_,_,_,rfl⟩:=h;exact⟨⟨_,rfl⟩,λ_=>rfl,λm=>⟨rfl,λz=>by cases z⟩⟩
 | cut _ _ _ _=>obtain⟨a,b,rfl⟩:=h;exact⟨⟨_,rfl⟩,λ_=>rfl,λm=>⟨rfl,λz=>by cases z⟩⟩
 | out _ _=>obtain⟨a,b,m,rfl,_⟩:=h;exact⟨⟨_,rfl⟩,λ_=>rfl,λm=>⟨rfl,λz=>by cases z⟩⟩
 | full _=>obtain⟨a,b,m,rfl,_⟩:=h;exact⟨⟨_,rfl⟩,λ_=>rfl,λm=>⟨rfl,λz=>by cases z⟩⟩
theorem Bks.small (h:Bks g fine ns rows b0 es fs):es.length=fs.length/\∀(i:Nat)(e:LI)(f:Ft),es[i]?=some e->fs[i]?=some f->f=.wait\/(∃k p a b,f=.cut k p a b)\/FOk g fine ns rows e f:=by
 induction h with
 | new=>exact⟨rfl,λi e f he hf=>by
   match i,hf with
   | 0,hf=>cases hf;exact .inl rfl⟩
 | @cut es fs i k e s p _ hw he hs h1 h2 ih=>
  obtain⟨l,a⟩:=ih;have li:=(zA.mp hw).1;refine⟨by simp[l],λj x f hx hf=>?_⟩;by_cases c:j=i
  ·subst c;rw[yI (by simp;lia)] at hf;cases hf;exact .inr (.inl ⟨_,_,_,_,rfl⟩)
  ·rw[zW (Ne.symm c)] at hf;by_cases cj:j<fs.length
   ·rw[yT,zI cj] at hf;rw[yT,zI (by lia)] at hx;exact a j x f hx hf
   ·left
    rcases NQ hf with z|⟨_,z⟩
    ·rcases NQ z with z|⟨_,z⟩
     ·exact absurd (zA.mp z).1 cj
     ·exact z
    ·exact z
 | @put es fs i e f _ hw he ok ih=>
  obtain⟨l,a⟩:=ih;have li:=(zA.mp hw).1;refine⟨by rw[yC];exact l,λj x f' hx hf=>?_⟩;by_cases c:j=i
  ·subst c;rw[yI li] at hf;cases hf;rw[he] at hx;cases hx;exact .inr (.inr ok)
  ·rw[zW (Ne.symm c)] at hf;exact a j x f' hx hf
theorem Sz.btw (h1:Sz B a)(h2:Sz B b)(h:(a<=p\/b<=p)/\(p<=a\/p<=b)):Sz B p:=by
 unfold Sz at *
 generalize 2^B=n at *
 lia
def Le (x:Int×Int)(a b:Int):Prop:=∀B,Sz B x.1->Sz B x.2->Sz B a/\Sz B b
theorem CZ (h:0<b):t/b<=-(-t/b):=can (Int.le_trans (F8 t h).1 (zaC t h).1) h
theorem Le.hull (h:Le x a b)(k:Le x c d):Le x (if c<a then c else a) (if d > b then d else b):=λB z1 z2=>by
 obtain⟨p,q⟩:=h B z1 z2;obtain⟨r,s⟩:=k B z1 z2;exact⟨by split<;>assumption,by split<;>assumption⟩
theorem OC {p q r:Int×Int}(e:U4 p q=some r):Le p r.1 r.2:=λB z1 z2=>by
 obtain⟨a,b,c⟩:=A7 r e;exact⟨Sz.btw z1 z2 (by lia),Sz.btw z1 z2 (by lia)⟩
theorem AH {n x N:Int}(hn:2<=n)(hx:0<x)(hN:0<N):0<((n-1)*x+N/x^(n-1).toNat)/n:=by
 have k:n<=(n-1)*x+N/x^(n-1).toNat:=by
  by_cases c:x=1
  ·subst c;rw[Int.one_pow,Int.ediv_one,Int.mul_one];lia
  ·have a:=Int.mul_le_mul_of_nonneg_left (show 2<=x by lia) (show 0<=n-1 by lia)
   have b:0<=N/x^(n-1).toNat:=Int.ediv_nonneg (by lia) (Int.le_of_lt (yE hx));lia
 have:=Int.le_ediv_of_mul_le (show 0<n by lia) (show 1*n<=_ by rw[Int.one_mul];exact k);lia
theorem Bd.at (h:Bd B vs)(hi:inR vs.length i):Sz B (gt vs i).1/\Sz B (gt vs i).2:=h _ (Ko hi)
theorem Bd.put {B:Nat}{vs:LI}(h:Bd B vs){k:Nat}{u:Int×Int}(hu:Sz B u.1/\Sz B u.2):Bd B (vs.set k u):=λp hp=>by
 rcases List.mem_or_eq_of_mem_set hp with e|e
 ·exact h p e
 ·subst e;exact hu
def Ptw (m:Int)(l:List (Int×(Int×Int))):Prop:=l.length<=2/\∀p∈l,inR m p.1/\Sz 1000 p.2.1/\Sz 1000 p.2.2
theorem Gb (hi:inR m i)(hj:inR m j)(h1:Sz 1000 a/\Sz 1000 b)(h2:Sz 1000 c/\Sz 1000 d):Ptw m [(i,a,b),(j,c,d)]:=⟨by simp,λp hp=>by
 simp only[zR,yX,or_false] at hp;rcases hp with rfl|rfl
 ·exact⟨hi,h1⟩
 ·exact⟨hj,h2⟩⟩
def ShOk (ns:List Nd)(zero:Bool)(k:Nat)(e:LI)(g:Int)(cs:List Ct)(o:Option LI):Prop:=(o=none->ibS ns zero k e g=true)/\cs.length<=2*e.length/\∀(i:Nat)(c:Ct),cs[i]?=some c->isS ns zero k g (ctA e (cs.take i)) c=true/\c.k<e.length
theorem D3 (h:o=none->ibS ns zero k e g=true):ShOk ns zero k e g [] o:=⟨h,zK _,λi c hc=>by simp at hc⟩
theorem ixT2 {L U i v:Int}{S:Sto}{Q:DK}(h:i=0/\v=L\/i=1/\v=U)(hq:Q (.int v) S):Xh wIx (.tup [.int L,.int U]) (.int i) S Q:=by
 rcases h with ⟨rfl,rfl⟩|⟨rfl,rfl⟩
 ·exact Px (k:=0) rfl hq
 ·exact Px (k:=1) rfl hq
theorem all_map {α:Type}{c:α->D}{P:α->Prop}:∀ {xs:List D},(∀d∈xs,∃x,d=c x/\P x)->∃r:List α,xs=r.map c/\∀x∈r,P x
 | [],_=>⟨[],rfl,λ_ h=>nomatch h⟩
 | d::xs,h=>by
  obtain⟨x,rfl,px⟩:=h d (by simp);obtain⟨r,rfl,pr⟩:=all_map (xs:=xs) λe he=>h e (by simp[he])
  exact⟨x::r,rfl,λy hy=>(zR.mp hy).elim (λz=>z ▸ px) (pr y)⟩
theorem Bd.up (h:Bd A vs)(l:A<=B):Bd B vs:=λp hp=>⟨(h p hp).1.mono l,(h p hp).2.mono l⟩
def RI (B q:Nat)(xs:List D):Prop:=∃r:List Int,xs=r.map D.int/\r.length=q/\∀x∈r,Sz B x
def RF (B q:Nat)(xs:List D):Prop:=∃r:LI,xs=r.map frD/\r.length=q/\Bd B r
def Mr (R:List D->Prop)(lo:Nat)(S:Sto)(ds:List D):Prop:=∀d∈ds,∃(a:Nat)(xs:List D),d=.ref a/\lo<=a/\S[a]?=some (.lst xs)/\R xs
theorem Mr.pre {R:List D->Prop}{lo:Nat}{S T:Sto}{ds:List D}(h:Mr R lo S ds)(p:Pre S T):Mr R lo T ds:=λd hd=>by
 obtain⟨a,xs,e,l,s,r⟩:=h d hd;exact⟨a,xs,e,l,p _ _ s,r⟩
theorem Mr.low {R:List D->Prop}{lo:Nat}{S:Sto}{ds:List D}(h:Mr R lo S ds):Mr R 0 S ds:=λd hd=>by
 obtain⟨a,xs,e,l,s,r⟩:=h d hd;exact⟨a,xs,e,zK _,s,r⟩
theorem Mr.put {R:List D->Prop}{L b:Nat}{S:Sto}{ys xs:List D}{o:Ob}(h:Mr R (L+1) S ys)(hb:L<b)(e:S[b]?=some (.lst xs))(r:R xs):Mr R (L+1) (S.set L o) (ys++[.ref b]):=λd hd=>by
 rcases zZ.mp hd with z|z
 ·obtain⟨a,xs,e,l,s,r⟩:=h d z;exact⟨a,xs,e,l,Yg s (by lia),r⟩
 ·exact⟨b,xs,zS.mp z,hb,Yg e (by lia),r⟩
theorem DS {caps:List Nat}{tl te:TDE}{dl:Ev}{S T0:Sto}{Q:DK}{n:Nat}{ds:List D}(R R':List D->Prop)(htl:∀K:DK,K (.ref n) T0->tl dl S K)(hn:T0[n]?=some (.lst ds))(rows:Mr R 0 T0 ds)(hl:ds.length<=1000)
  (ht:∀(a:Nat)(xs:List D)(S2:Sto)(K:DK),R xs->S2[a]?=some (.lst xs)->(∀(S3:Sto)(b:Nat)(ys:List D),Pre S2 S3->S2.length<=b->S3[b]?=some (.lst ys)->R' ys->K (.ref b) S3)->te (some (.ref a)::Yc caps dl) S2 K)
  (hq:∀(S2:Sto)(ys:List D),Pre T0 S2->S2[T0.length]?=some (.lst ys)->ys.length=ds.length->Mr R' 0 S2 ys->Q (.ref T0.length) S2):X9 caps tl Xa te dl S Q:=by
 refine Aq (S1:=T0) (n:=n) (o:=.lst ds) (λk ys S2=>Pre T0 S2/\S2[T0.length]?=some (.lst ys)/\ys.length=k/\Mr R' (T0.length+1) S2 ys) htl hn (λk ys S2 w=>⟨w.1 _ _ hn,w.2.1,w.2.2.1⟩) hl ⟨Pre.refl.push,Zz _ _,rfl,λ_ h=>nomatch h⟩ (λk x ys S2 K hx w hK=>?_) (λys S2 w=>hq S2 ys w.1 w.2.1 w.2.2.1 w.2.2.2.low);obtain⟨w1,w2,w3,w4⟩:=w;obtain⟨a,xs,rfl,_,ha,r⟩:=rows x (zF hx);refine ht a xs S2 K r (w1 _ _ ha) λS3 b zs p3 hb e3 r3=>?_
 have hlt:=Z8 w2;exact hK _ S3 (p3 _ _ w2) ⟨Bi (w1.trans p3) (zC _),YE (p3 _ _ w2),by simp[w3],(w4.pre p3).put (by lia) e3 r3⟩
theorem zdC {caps:List Nat}{ta:TDA}{te:TDE}{dl:Ev}{S T0:Sto}{Q:DK}{j:Nat}(R':List D->Prop)(hta:∀K:List D->Sto->Prop,K [.int (j:Int)] T0->ta dl S K)(hj:j<=1000)
  (ht:∀(k:Nat)(S2:Sto)(K:DK),k<j->Pre T0 S2->(∀(S3:Sto)(b:Nat)(ys:List D),Pre S2 S3->S2.length<=b->S3[b]?=some (.lst ys)->R' ys->K (.ref b) S3)->te (some (.int (k:Int))::Yc caps dl) S2 K)
  (hq:∀(S2:Sto)(ys:List D),Pre T0 S2->S2[T0.length]?=some (.lst ys)->ys.length=j->Mr R' 0 S2 ys->Q (.ref T0.length) S2):W7 caps ta Xa te dl S Q:=by
 refine CP (S1:=T0) (j:=(j:Int)) (λk ys S2=>Pre T0 S2/\S2[T0.length]?=some (.lst ys)/\ys.length=k/\Mr R' (T0.length+1) S2 ys) hta (by lia) (λk ys S2 w=>⟨w.2.1,w.2.2.1⟩) ⟨Pre.refl.push,Zz _ _,rfl,λ_ h=>nomatch h⟩ (λk ys S2 K hk w hK=>?_) (λys S2 w=>hq S2 ys w.1 w.2.1 w.2.2.1 w.2.2.2.low);obtain⟨w1,w2,w3,w4⟩:=w;refine ht k S2 K (by lia) w1 λS3 b zs p3 hb e3 r3=>?_
 have hlt:=Z8 w2;exact hK _ S3 (p3 _ _ w2) ⟨Bi (w1.trans p3) (zC _),YE (p3 _ _ w2),by simp[w3],(w4.pre p3).put (by lia) e3 r3⟩
theorem Jr {P:D->Prop}{ys:List D}{d:D}(h:∀y∈ys,P y)(hd:P d):∀y∈ys++[d],P y:=λy hy=>(zZ.mp hy).elim (h y) λz=>zS.mp z ▸ hd
theorem BS {caps:List Nat}{tl te:TDE}{dl:Ev}{S S1:Sto}{Q:DK}{n:Nat}{o:Ob}(P:D->Prop)(htl:∀K:DK,K (.ref n) S1->tl dl S K)(h1:S1[n]?=some o)(hl:(Zv o).length<=1000)
  (ht:∀x∈Zv o,∀(S2:Sto)(K:DK),Pre S1 S2->(∀d,P d->K d S2)->te (some x::Yc caps dl) S2 K)(hq:∀xs:List D,xs.length=(Zv o).length->(∀d∈xs,P d)->Q (.ref S1.length) (S1++[.lst xs]))(hL:Xl o=some o:=by rfl):X9 caps tl Xa te dl S Q:=
 Aq (S1:=S1) (n:=n) (o:=o) (λk ys S2=>S2=S1++[.lst ys]/\ys.length=k/\∀d∈ys,P d) htl h1 (λk ys S2 w=>by obtain⟨rfl,w⟩:=w;exact⟨ZF h1,Zz _ _,w.1⟩) hl ⟨rfl,rfl,λ_ h=>nomatch h⟩ (λk x ys S2 K hx w hK=>by
  obtain⟨rfl,w2,w3⟩:=w;exact ht x (zF hx) _ K Pre.refl.push λd hd=>hK d _ (Zz _ _) ⟨Vi _ _ _,by simp[w2],Jr w3 hd⟩) (λys S2 w=>by obtain⟨rfl,w⟩:=w;exact hq ys w.1 w.2) hL
theorem E6 {caps:List Nat}{ta:TDA}{te:TDE}{dl:Ev}{S S1:Sto}{Q:DK}{j:Nat}(P:D->Prop)(hta:∀K:List D->Sto->Prop,K [.int (j:Int)] S1->ta dl S K)(hj:j<=1000)
  (ht:∀(k:Nat)(S2:Sto)(K:DK),k<j->Pre S1 S2->(∀d,P d->K d S2)->te (some (.int (k:Int))::Yc caps dl) S2 K)(hq:∀xs:List D,xs.length=j->(∀d∈xs,P d)->Q (.ref S1.length) (S1++[.lst xs])):W7 caps ta Xa te dl S Q:=
 CP (S1:=S1) (j:=(j:Int)) (λk ys S2=>S2=S1++[.lst ys]/\ys.length=k/\∀d∈ys,P d) hta (by lia) (λk ys S2 w=>by obtain⟨rfl,w⟩:=w;exact⟨Zz _ _,w.1⟩) ⟨rfl,rfl,λ_ h=>nomatch h⟩ (λk ys S2 K hk w hK=>by
  obtain⟨rfl,w2,w3⟩:=w;exact ht k _ K (by lia) Pre.refl.push λd hd=>hK d _ (Zz _ _) ⟨Vi _ _ _,by simp[w2],Jr w3 hd⟩) (λys S2 w=>by obtain⟨rfl,w⟩:=w;exact hq ys w.1 w.2)
theorem RB {caps:List Nat}{ta:TDA}{te:TDE}{dl:Ev}{S S1:Sto}{Q:DK}{n:Nat}{xs:List D}(P:D->Prop)(hta:∀K:List D->Sto->Prop,K [.ref n] S1->ta dl S K)(h1:S1[n]?=some (.lst xs))(hl:xs.length<=900)
  (ht:∀(k:Nat)(x:D),xs[k]?=some x->∀(S2:Sto)(K:DK),Pre S1 S2->(∀d,P d->K d S2)->te (some (.int (k:Int))::some x::Yc caps dl) S2 K)(hq:∀ys:List D,ys.length=xs.length->(∀d∈ys,P d)->Q (.ref S1.length) (S1++[.lst ys])):U0 caps ta Xa te dl S Q:=
 Ba (n:=n) (xs:=xs) (S1:=S1) (λk ys S2=>S2=S1++[.lst ys]/\ys.length=k/\∀d∈ys,P d) (λ_ _=>true) hta h1 (λk ys S2 w=>by obtain⟨rfl,w,_⟩:=w;exact⟨ZF h1,Zz _ _,by lia⟩) hl ⟨rfl,rfl,λ_ h=>nomatch h⟩ (λk x ys S2 K hx w hK=>by exact hK) (λk x ys S2 hx hb=>by cases hb) (λk x ys S2 K hx _ w hK=>by
  obtain⟨rfl,w2,w3⟩:=w;exact ht k x hx _ K Pre.refl.push λd hd=>hK d _ (Zz _ _) ⟨Vi _ _ _,by simp[w2],Jr w3 hd⟩) (λys S2 w=>by obtain⟨rfl,w⟩:=w;exact hq ys w.1 w.2)
theorem Mr.cut (h:Mr (RI B q) 0 S ds):Mr (RI B q) 0 S (ds.take i++ds.drop (i+1)):=λd hd=>h d ((zZ.mp hd).elim List.mem_of_mem_take List.mem_of_mem_drop)
theorem zhJ (hj:j<=n)(h:RI B (n+1) xs):RI B n (xs.take j++xs.drop (j+1)):=by
 obtain⟨r,rfl,l,z⟩:=h;exact⟨r.take j++r.drop (j+1),by rw[zY,xF,List.map_drop],by simp;lia,λx hx=>z x ((zZ.mp hx).elim List.mem_of_mem_take List.mem_of_mem_drop)⟩
theorem zgW (h:Sz (3121+20+20) t)(hw:w≠0):Sz 3200 (t.fdiv w):=by
 have a:=zhL t w hw
 have b:t.natAbs<2^3161:=h
 have c:(2:Nat)^3200=2^3161*2^39:=by rw[<- Nat.pow_add]
 show (t.fdiv w).natAbs<2^3200;rw[c];generalize 2^3161=n at *
 lia
structure Wu (K:Fg)(mg:Str->Option Value) where
 C:Addr
 m:mg "Book"=some (.ref C)
 cl:Cls K C
 n_fates:YJ K C "fates"
 n_boxes:YJ K C "boxes"
 makes:W.makesIn K C=true
 kp:W.keepIn K (.ref C)=true
structure Yv (K:Fg)(mg:Str->Option Value) where
 C:Addr
 m:mg "Number"=some (.ref C)
 cl:Cls K C
 n_bottom:YJ K C "bottom"
 n_top:YJ K C "top"
 makes:W.makesIn K C=true
 kp:W.keepIn K (.ref C)=true
structure YA (K:Fg)(mg:Str->Option Value) where
 C:Addr
 m:mg "Unknown"=some (.ref C)
 cl:Cls K C
 n_place:YJ K C "place"
 makes:W.makesIn K C=true
 kp:W.keepIn K (.ref C)=true
structure Yh (K:Fg)(mg:Str->Option Value) where
 C:Addr
 m:mg "Plus"=some (.ref C)
 cl:Cls K C
 n_other:YJ K C "other"
 n_one:YJ K C "one"
 makes:W.makesIn K C=true
 kp:W.keepIn K (.ref C)=true
structure Yj (K:Fg)(mg:Str->Option Value) where
 C:Addr
 m:mg "Minus"=some (.ref C)
 cl:Cls K C
 n_other:YJ K C "other"
 n_one:YJ K C "one"
 makes:W.makesIn K C=true
 kp:W.keepIn K (.ref C)=true
structure Yl (K:Fg)(mg:Str->Option Value) where
 C:Addr
 m:mg "Times"=some (.ref C)
 cl:Cls K C
 n_other:YJ K C "other"
 n_one:YJ K C "one"
 makes:W.makesIn K C=true
 kp:W.keepIn K (.ref C)=true
structure Yu (K:Fg)(mg:Str->Option Value) where
 C:Addr
 m:mg "Power"=some (.ref C)
 cl:Cls K C
 n_many:YJ K C "many"
 n_one:YJ K C "one"
 makes:W.makesIn K C=true
 kp:W.keepIn K (.ref C)=true
def aN (p:Prop):List D->Prop
 | []=>p
 | _=>False
theorem aN_e {p:Prop}:∀ {ds:List D},aN p ds->ds=[]/\p
 | [],h=>⟨rfl,h⟩
 | _::_,h=>h.elim
theorem nN {p:Prop}{ds:List D}(h:aN p ds):ds.length=0:=by rw[(aN_e h).1];rfl
def aR (f:Nat->List D->Prop):List D->Prop
 | .ref a::r=>f a r
 | _=>False
theorem aR_e {f:Nat->List D->Prop}{ds:List D}(h:aR f ds):∃a r,ds=.ref a::r/\f a r:=by
 match ds,h with
 | .ref a::r,h=>exact⟨a,r,rfl,h⟩
theorem nR {f:Nat->List D->Prop}{n:Nat}(k:∀a {r:List D},f a r->r.length=n){ds:List D}(h:aR f ds):ds.length=n+1:=by
 obtain⟨a,r,rfl,h⟩:=aR_e h;rw[zU,k a h]
def aI (f:Int->List D->Prop):List D->Prop
 | .int a::r=>f a r
 | _=>False
theorem aI_e {f:Int->List D->Prop}{ds:List D}(h:aI f ds):∃a r,ds=.int a::r/\f a r:=by
 match ds,h with
 | .int a::r,h=>exact⟨a,r,rfl,h⟩
theorem nI {f:Int->List D->Prop}{n:Nat}(k:∀a {r:List D},f a r->r.length=n){ds:List D}(h:aI f ds):ds.length=n+1:=by
 obtain⟨a,r,rfl,h⟩:=aI_e h;rw[zU,k a h]
def aS (f:Str->List D->Prop):List D->Prop
 | .str a::r=>f a r
 | _=>False
theorem aS_e {f:Str->List D->Prop}{ds:List D}(h:aS f ds):∃a r,ds=.str a::r/\f a r:=by
 match ds,h with
 | .str a::r,h=>exact⟨a,r,rfl,h⟩
theorem nS {f:Str->List D->Prop}{n:Nat}(k:∀a {r:List D},f a r->r.length=n){ds:List D}(h:aS f ds):ds.length=n+1:=by
 obtain⟨a,r,rfl,h⟩:=aS_e h;rw[zU,k a h]
def aP (f:Int->Int->List D->Prop):List D->Prop
 | .tup [.int a,.int b]::r=>f a b r
 | _=>False
theorem aP_e {f:Int->Int->List D->Prop}{ds:List D}(h:aP f ds):∃a b r,ds=.tup [.int a,.int b]::r/\f a b r:=by
 match ds,h with
 | .tup [.int a,.int b]::r,h=>exact⟨a,b,r,rfl,h⟩
theorem nP {f:Int->Int->List D->Prop}{n:Nat}(k:∀a b {r:List D},f a b r->r.length=n){ds:List D}(h:aP f ds):ds.length=n+1:=by
 obtain⟨a,b,r,rfl,h⟩:=aP_e h;rw[zU,k a b h]
def aT (f:Str->Int->List D->Prop):List D->Prop
 | .tup [.str a,.int b]::r=>f a b r
 | _=>False
theorem aT_e {f:Str->Int->List D->Prop}{ds:List D}(h:aT f ds):∃a b r,ds=.tup [.str a,.int b]::r/\f a b r:=by
 match ds,h with
 | .tup [.str a,.int b]::r,h=>exact⟨a,b,r,rfl,h⟩
theorem nT {f:Str->Int->List D->Prop}{n:Nat}(k:∀a b {r:List D},f a b r->r.length=n){ds:List D}(h:aT f ds):ds.length=n+1:=by
 obtain⟨a,b,r,rfl,h⟩:=aT_e h;rw[zU,k a b h]
def aD (f:D->List D->Prop):List D->Prop
 | a::r=>f a r
 | []=>False
theorem aD_e {f:D->List D->Prop}:∀ {ds:List D},aD f ds->∃a r,ds=a::r/\f a r
 | a::r,h=>⟨a,r,rfl,h⟩
 | [],h=>h.elim
theorem nD {f:D->List D->Prop}{n:Nat}(k:∀a {r:List D},f a r->r.length=n){ds:List D}(h:aD f ds):ds.length=n+1:=by
 obtain⟨a,r,rfl,h⟩:=aD_e h;rw[zU,k a h]
theorem eR {f:Nat->Prop}{ds:List D}(h:(aR λa0=>aN (f a0)) ds):∃a0,ds=[.ref a0]/\f a0:=by
 obtain⟨a0,_,e0,h⟩:=aR_e h;obtain⟨e,h⟩:=aN_e h;exact⟨a0,by rw[e0,e],h⟩
def D2:Sd:=λds S Q ex=>(aI λc=>aN (0<=c/\∀g:Int,1<=g->g<=1000000->Q (.int g) S)) ds
def Mp:Sd:=λds S Q ex=>(aR λn=>aI λk=>aN (∃ns:List Int,S[n]?=some (.frz (ns.map D.int))/\(0<=k/\k<=1000)/\∀c:Int,(0<=c/\c<2147483629)->Q (.int c) S)) ds
def Bb:Sd:=λds S Q ex=>(aR λn=>aI λu=>aN (∃(ns:List Int)(q:Nat),S[n]?=some (.frz (ns.map D.int))/\u=(q:Int)/\(1<=q/\q<=4)/\∀bs:LI,bs.length=q->Spn 51 bs->Q (.ref S.length) (S++[.lst (bs.map frD)]))) ds
def CF:Sd:=λds S Q ex=>(aI λc=>aI λm=>aN ((0<=c/\c<2147483629/\1<=m/\m<=60)/\∀v:Nd,(∀q:Int,v.ok m q)->Q v.d S)) ds
def JD:Sd:=λds S Q ex=>(aD λd=>aR λn=>aN (∃(v:Nd)(ws:List Nat)(q:Int),d=v.d/\S[n]?=some (Ob.lst (ws.map wtD))/\v.ok ws.length q/\(∀i:Int,inR ws.length i->ws.getD i.toNat 0<=16)/\Q (.int (v.wt ws:Nat)) S)) ds
def EL:Sd:=λds S Q ex=>(aR λc=>aI λq=>aN (∃(cs:List D)(qn:Nat),S[c]?=some (.lst cs)/\(∀x∈cs,∃i:Int,x=.int i/\0<=i/\i<2147483629)/\q=qn/\(1<=qn/\qn<=4)/\cs.length<=20/\∀(ns:List Nd)(ws:List Nat)(T:Sto)(m:Nat),ZT qn ns ws->1<=ns.length->ns.length<=24->Pre S T->S.length<=m->T[m]?=some (.lst (ns.map Nd.d))->Q (.ref m) T)) ds
def Cc:Sd:=λds S Q ex=>(aI λa=>aI λb=>aN (Q (.int ((Int.gcd a b:Nat):Int)) S)) ds
def Ib:Sd:=λds S Q ex=>(aI λx=>aI λn=>aN ((0<=n/\n<=6/\Sz 2000 x)/\Q (.int (x^n.toNat)) S)) ds
def BI:Sd:=λds S Q ex=>(aR λa=>aR λb=>aN (∃(ns:List Nd)(ws:List Nat)(ps:LI),S[a]?=some (.lst (ns.map Nd.d))/\S[b]?=some (.lst (ps.map frD))/\ZT ps.length ns ws/\Pz 110 ps/\ns.length<=70/\∀(T:Sto)(m:Nat),Pre S T->S.length<=m->T[m]?=some (.lst ((ZQ ps ns).map frD))->Q (.ref m) T)) ds
def Ah:Sd:=λds S Q ex=>(aR λa=>aD λd=>aN (∃(q:Nat)(v:Nd)(ns:List Nd)(ws:List Nat),d=v.d/\S[a]?=some (.lst (ns.map Nd.d))/\ns.length<900/\ZT q ns ws/\v.ok ns.length q/\v.wt ws<=16/\∀(T:Sto)(j:Nat)(ns':List Nd)(ws':List Nat),Gr q a 1 S ns ws T ns' ws'->j<ns'.length->ns'[j]?=some v->ws'.getD j 0=v.wt ws->(∀P,gt (ZQ P ns') (j:Int)=v.due (ZQ P ns) P)->Q (.int (j:Int)) T)) ds
def EM:Sd:=λds S Q ex=>(aR λa=>aN (∃(ns:List Nd)(ws:List Nat)(q:Int),S[a]?=some (.lst (ns.map Nd.d))/\ZT q ns ws/\ns.length<=70/\∀T:Sto,Pre S T->T[S.length]?=some (.lst (ws.map wtD))->Q (.ref S.length) T)) ds
def DE:Sd:=λds S Q ex=>(aR λa=>aR λb=>aI λg=>aI λc=>aI λpl=>aN (∃(q:Nat)(ns:List Nd)(ws:List Nat)(bs:LI),S[a]?=some (.lst (ns.map Nd.d))/\S[b]?=some (.lst (bs.map frD))/\ZT q ns ws/\bs.length=q/\q<=4/\Spn 51 bs/\(1<=g/\g<=1000000)/\0<=c/\0<=pl/\(1<=ns.length/\ns.length<=60)/\∀(T:Sto)(ns':List Nd)(ws':List Nat)(r:Bool×Nat),Gr q a 2 S ns ws T ns' ws'->r.2<ns'.length->Q (rwD r) T)) ds
def BG:Sd:=λds S Q ex=>(aR λn=>aR λa=>aR λb=>aI λg=>aN (∃(q:Nat)(xs:List Int)(ns:List Nd)(ws:List Nat)(bs:LI),S[n]?=some (.frz (xs.map D.int))/\S[a]?=some (.lst (ns.map Nd.d))/\S[b]?=some (.lst (bs.map frD))/\a≠b/\ZT q ns ws/\bs.length=q/\q<=4/\Spn 51 bs/\(1<=g/\g<=1000000)/\(1<=ns.length/\ns.length<=50)/\∀(T:Sto)(m:Nat)(ns':List Nd)(ws':List Nat)(rows:List (Bool×Nat)),Gr q a 6 S ns ws T ns' ws'->rows.length<=3->(∀r∈rows,r.2<ns'.length)->S.length<=m->T[m]?=some (.lst (rows.map rwD))->Q (.ref m) T)) ds
def DT (cBook:Addr):Sd:=λds S Q ex=>(aR λn=>aR λx=>aN (∃(T:Sto)(b0:LI),S=T++[.ins cBook []]/\n=T.length/\T[x]?=some (.lst (b0.map frD))/\∀(U:Sto)(a b:Nat),T.length<a->T.length<b->Pre T U->Bk cBook U n a b [b0] [.wait]->Q .non U)) ds
def BZ (cBook:Addr):Sd:=λds S Q ex=>(aR λn=>aN (∃(a b:Nat)(es:List LI)(fs:List Ft),Bk cBook S n a b es fs/\es.length<=900/\∀(T:Sto)(ds:List D),Pre S T->T[S.length]?=some (.lst ds)->En T ds es fs->Q (.ref S.length) T)) ds
def DZ:Sd:=λds S Q ex=>(aP λa b=>aN (Q (.int (b-a)) S)) ds
def Ld:Sd:=λds S Q ex=>(aR λn=>aN (∃bs:LI,S[n]?=some (.lst (bs.map frD))/\bs.length<=900/\Q (.ref S.length) (S++[.lst ((bs.map wd).map D.int)]))) ds
def O9:Sd:=λds S Q ex=>(aR λn=>aN (∃bs:LI,S[n]?=some (.lst (bs.map frD))/\bs.length<=900/\∀(m:Int)(T:Sto),Pre S T->Wst bs m->Q (.int m) T)) ds
def Ji (cBook:Addr):Sd:=λds S Q ex=>(aR λn=>aN (∃(a b t:Nat)(es:List LI)(fs:List Ft),Bk cBook S n a b es fs/\S[t]?=some (.cod LT LP LQ)/\es.length<=900/\(∀e∈es,e.length<=900)/\((∀f∈fs,f≠.wait)->∀T:Sto,Pre S T->Q .non T)/\∀(i:Nat)(T:Sto),fs[i]?=some .wait->Pre S T->Q (.int (i:Int)) T)) ds
def Jb:Sd:=λds S Q ex=>(aS λw=>aP λa b=>aN ((w="zero"/\Q (.bl (decide (0<a)||decide (b<0))) S)\/(w="least"/\Q (.bl (decide (b<0))) S))) ds
def Bt:Sd:=λds S Q ex=>(aP λa b=>aP λc d=>aN ((IntMulOk a d/\IntMulOk c b)/\Q (.bl (decide (a*d<c*b))) S)) ds
def Qg:Sd:=λds S Q ex=>(aI λt=>aI λb=>aN (CFd 0 b/\Q (.int (-(-t/b))) S)) ds
def Dl:Sd:=λds S Q ex=>(aP λa b=>aP λc d=>aI λg=>aN (((IntMulOk c b/\IntMulOk a d)/\¬ c*b<a*d/\IntMulOk a g/\IntMulOk c g/\CFd 0 b/\CFd 0 d)/\Q (.tup [.int (a*g/b),.int (-(-(c*g)/d))]) S)) ds
def Il (cNumber:Addr)(cUnknown:Addr)(cPlus:Addr)(cMinus:Addr)(cTimes:Addr)(cPower:Addr):Sd:=λds S Q ex=>(aR λn=>aR λw=>aR λp=>aI λg=>aN (∃(x y:Int)(vs bs:LI),S[n]?=some (Nd.ob cNumber cUnknown cPlus cMinus cTimes cPower (Nd.number x y))/\S[w]?=some (.lst (vs.map frD))/\S[p]?=some (.lst (bs.map frD))/\Nd.ok vs.length bs.length (Nd.number x y)/\Spn 1400 vs/\(1<=g/\g<=1000000)/\Q (frD (Nd.fw vs bs g (Nd.number x y))) S)) ds
def KO (cNumber:Addr)(cUnknown:Addr)(cPlus:Addr)(cMinus:Addr)(cTimes:Addr)(cPower:Addr):Sd:=λds S Q ex=>(aR λn=>aR λw=>aR λp=>aI λg=>aN (∃(k:Int)(vs bs:LI),S[n]?=some (Nd.ob cNumber cUnknown cPlus cMinus cTimes cPower (Nd.unknown k))/\S[w]?=some (.lst (vs.map frD))/\S[p]?=some (.lst (bs.map frD))/\Nd.ok vs.length bs.length (Nd.unknown k)/\Spn 1400 vs/\(1<=g/\g<=1000000)/\Q (frD (Nd.fw vs bs g (Nd.unknown k))) S)) ds
def UR:Sd:=λds S Q ex=>(aP λa b=>aP λc d=>aN (Q (.tup [.int (a+c),.int (b+d)]) S)) ds
def HR (cNumber:Addr)(cUnknown:Addr)(cPlus:Addr)(cMinus:Addr)(cTimes:Addr)(cPower:Addr):Sd:=λds S Q ex=>(aR λn=>aR λw=>aR λp=>aI λg=>aN (∃(i j:Int)(vs bs:LI),S[n]?=some (Nd.ob cNumber cUnknown cPlus cMinus cTimes cPower (Nd.plus i j))/\S[w]?=some (.lst (vs.map frD))/\S[p]?=some (.lst (bs.map frD))/\Nd.ok vs.length bs.length (Nd.plus i j)/\Spn 1400 vs/\(1<=g/\g<=1000000)/\Q (frD (Nd.fw vs bs g (Nd.plus i j))) S)) ds
def V5:Sd:=λds S Q ex=>(aP λa b=>aP λc d=>aN (Q (.tup [.int (a-d),.int (b-c)]) S)) ds
def Fn (cNumber:Addr)(cUnknown:Addr)(cPlus:Addr)(cMinus:Addr)(cTimes:Addr)(cPower:Addr):Sd:=λds S Q ex=>(aR λn=>aR λw=>aR λp=>aI λg=>aN (∃(i j:Int)(vs bs:LI),S[n]?=some (Nd.ob cNumber cUnknown cPlus cMinus cTimes cPower (Nd.minus i j))/\S[w]?=some (.lst (vs.map frD))/\S[p]?=some (.lst (bs.map frD))/\Nd.ok vs.length bs.length (Nd.minus i j)/\Spn 1400 vs/\(1<=g/\g<=1000000)/\Q (frD (Nd.fw vs bs g (Nd.minus i j))) S)) ds
def Q3:Sd:=λds S Q ex=>(aP λa b=>aP λc d=>aI λg=>aN (((IntMulOk a c/\IntMulOk a d/\IntMulOk b c/\IntMulOk b d)/\CFd 0 g)/\∀mn mx:Int,UW a b c d mn mx->Q (.tup [.int (mn/g),.int (-(-mx/g))]) S)) ds
def Hg (cNumber:Addr)(cUnknown:Addr)(cPlus:Addr)(cMinus:Addr)(cTimes:Addr)(cPower:Addr):Sd:=λds S Q ex=>(aR λn=>aR λw=>aR λp=>aI λg=>aN (∃(i j:Int)(vs bs:LI),S[n]?=some (Nd.ob cNumber cUnknown cPlus cMinus cTimes cPower (Nd.times i j))/\S[w]?=some (.lst (vs.map frD))/\S[p]?=some (.lst (bs.map frD))/\Nd.ok vs.length bs.length (Nd.times i j)/\Spn 1400 vs/\(1<=g/\g<=1000000)/\Q (frD (Nd.fw vs bs g (Nd.times i j))) S)) ds
def Ss:Sd:=λds S Q ex=>(aI λx=>aI λn=>aN ((0<=n/\n<=6/\Sz 2000 x)/\Q (.int (x^n.toNat)) S)) ds
def IK:Sd:=λds S Q ex=>(aP λa b=>aI λn=>aI λg=>aN ((1<=n/\n<=6/\Sz 1400 a/\Sz 1400 b/\1<=g/\Sz 1400 g)/\∀m M:Int,WZ a b n.toNat m M->Q (.tup [.int (m/g^(n.toNat-1)),.int (-(-M/g^(n.toNat-1)))]) S)) ds
def IW (cNumber:Addr)(cUnknown:Addr)(cPlus:Addr)(cMinus:Addr)(cTimes:Addr)(cPower:Addr):Sd:=λds S Q ex=>(aR λn=>aR λw=>aR λp=>aI λg=>aN (∃(i m:Int)(vs bs:LI),S[n]?=some (Nd.ob cNumber cUnknown cPlus cMinus cTimes cPower (Nd.power i m))/\S[w]?=some (.lst (vs.map frD))/\S[p]?=some (.lst (bs.map frD))/\Nd.ok vs.length bs.length (Nd.power i m)/\Spn 1400 vs/\(1<=g/\g<=1000000)/\Q (frD (Nd.fw vs bs g (Nd.power i m))) S)) ds
def ED (cPower:Addr):Sd:=λds S Q ex=>(aR λn=>aD λx=>aD λy=>aN (∃T:Sto,S=T++[.ins cPower []]/\n=T.length/\Q .non (T++[.ins cPower [("one",x),("many",y)]]))) ds
def Bg (cNumber:Addr):Sd:=λds S Q ex=>(aR λn=>aD λx=>aD λy=>aN (∃T:Sto,S=T++[.ins cNumber []]/\n=T.length/\Q .non (T++[.ins cNumber [("top",x),("bottom",y)]]))) ds
def CO (cUnknown:Addr):Sd:=λds S Q ex=>(aR λn=>aD λx=>aN (∃T:Sto,S=T++[.ins cUnknown []]/\n=T.length/\Q .non (T++[.ins cUnknown [("place",x)]]))) ds
def Cb (cPlus:Addr):Sd:=λds S Q ex=>(aR λn=>aD λx=>aD λy=>aN (∃T:Sto,S=T++[.ins cPlus []]/\n=T.length/\Q .non (T++[.ins cPlus [("one",x),("other",y)]]))) ds
def EV (cMinus:Addr):Sd:=λds S Q ex=>(aR λn=>aD λx=>aD λy=>aN (∃T:Sto,S=T++[.ins cMinus []]/\n=T.length/\Q .non (T++[.ins cMinus [("one",x),("other",y)]]))) ds
def CK (cTimes:Addr):Sd:=λds S Q ex=>(aR λn=>aD λx=>aD λy=>aN (∃T:Sto,S=T++[.ins cTimes []]/\n=T.length/\Q .non (T++[.ins cTimes [("one",x),("other",y)]]))) ds
def Lj (cNumber:Addr)(cUnknown:Addr)(cPlus:Addr)(cMinus:Addr)(cTimes:Addr)(cPower:Addr):Sd:=λds S Q ex=>(aD λd=>aN (∃v:Nd,d=v.d/\Q (.ref S.length) (S++[v.ob cNumber cUnknown cPlus cMinus cTimes cPower]))) ds
def VH:Sd:=λds S Q ex=>(aR λa=>aR λb=>aI λg=>aN (∃(ns:List Nd)(ws:List Nat)(bs:LI),S[a]?=some (.lst (ns.map Nd.d))/\S[b]?=some (.lst (bs.map frD))/\ZT bs.length ns ws/\Spn 51 bs/\(1<=g/\g<=1000000)/\ns.length<=70/\∀(T:Sto)(m:Nat),Pre S T->S.length<=m->T[m]?=some (.lst ((ZC bs g ns).map frD))->Q (.ref m) T)) ds
def FL:Sd:=λds S Q ex=>(aR λa=>aT λw k=>aR λb=>aI λg=>aN (∃(ns:List Nd)(ws:List Nat)(bs:LI)(zero:Bool),S[a]?=some (.lst (ns.map Nd.d))/\S[b]?=some (.lst (bs.map frD))/\rwW zero w/\inR ns.length k/\ZT bs.length ns ws/\Spn 51 bs/\(1<=g/\g<=1000000)/\ns.length<=70/\∀T:Sto,Pre S T->Q (.bl (ibS ns zero k.toNat bs g)) T)) ds
def SI:Sd:=λds S Q ex=>(aP λa b=>aP λc d=>aN ((U4 (a,b) (c,d)=none->Q .non S)/\∀p,U4 (a,b) (c,d)=some p->Q (frD p) S)) ds
def BV:Sd:=λds S Q ex=>(aS λw=>aP λa b=>aN (∃zero:Bool,rwW zero w/\(Q .non S/\∀c d:Int,Le (a,b) c d->Q (.tup [.int c,.int d]) S))) ds
def Fh (cNumber:Addr)(cUnknown:Addr)(cPlus:Addr)(cMinus:Addr)(cTimes:Addr)(cPower:Addr):Sd:=λds S Q ex=>(aR λn=>aR λw=>aP λz0 z1=>aI λg=>aN (∃(x y:Int)(vs:LI)(q:Int),S[n]?=some (Nd.ob cNumber cUnknown cPlus cMinus cTimes cPower (Nd.number x y))/\S[w]?=some (.lst (vs.map frD))/\Nd.ok vs.length q (Nd.number x y)/\(Bd 1000 vs/\(Sz 1000 z0/\Sz 1000 z1)/\(1<=g/\g<=1000000))/\Q .non S/\∀l,Ptw vs.length l->Q (.ref S.length) (S++[.lst (l.map ptD)]))) ds
def KW (cNumber:Addr)(cUnknown:Addr)(cPlus:Addr)(cMinus:Addr)(cTimes:Addr)(cPower:Addr):Sd:=λds S Q ex=>(aR λn=>aR λw=>aP λz0 z1=>aI λg=>aN (∃(k:Int)(vs:LI)(q:Int),S[n]?=some (Nd.ob cNumber cUnknown cPlus cMinus cTimes cPower (Nd.unknown k))/\S[w]?=some (.lst (vs.map frD))/\Nd.ok vs.length q (Nd.unknown k)/\(Bd 1000 vs/\(Sz 1000 z0/\Sz 1000 z1)/\(1<=g/\g<=1000000))/\Q .non S/\∀l,Ptw vs.length l->Q (.ref S.length) (S++[.lst (l.map ptD)]))) ds
def Cm:Sd:=λds S Q ex=>(aR λx_0=>aP λz0 z1=>aP λx0 x1=>aP λy0 y1=>aI λg=>aN ((Sz 1100 z0/\Sz 1100 z1/\Sz 1100 y0/\Sz 1100 y1/\Sz 30 g)/\(Q .non S/\∀a b:Int,Le (x0,x1) a b->Q (.tup [.int a,.int b]) S))) ds
def Dk:Sd:=λds S Q ex=>(aR λx_0=>aP λz0 z1=>aP λx0 x1=>aP λy0 y1=>aI λg=>aN ((Sz 1100 z0/\Sz 1100 z1/\Sz 1100 x0/\Sz 1100 x1/\Sz 30 g)/\(Q .non S/\∀a b:Int,Le (y0,y1) a b->Q (.tup [.int a,.int b]) S))) ds
def GZ (cNumber:Addr)(cUnknown:Addr)(cPlus:Addr)(cMinus:Addr)(cTimes:Addr)(cPower:Addr):Sd:=λds S Q ex=>(aR λn=>aR λw=>aP λz0 z1=>aI λg=>aN (∃(i j:Int)(vs:LI)(q:Int),S[n]?=some (Nd.ob cNumber cUnknown cPlus cMinus cTimes cPower (Nd.plus i j))/\S[w]?=some (.lst (vs.map frD))/\Nd.ok vs.length q (Nd.plus i j)/\(Bd 1000 vs/\(Sz 1000 z0/\Sz 1000 z1)/\(1<=g/\g<=1000000))/\Q .non S/\∀l,Ptw vs.length l->Q (.ref S.length) (S++[.lst (l.map ptD)]))) ds
def Ab:Sd:=λds S Q ex=>(aR λx_0=>aP λz0 z1=>aP λx0 x1=>aP λy0 y1=>aI λg=>aN ((Sz 1100 z0/\Sz 1100 z1/\Sz 1100 y0/\Sz 1100 y1/\Sz 30 g)/\(Q .non S/\∀a b:Int,Le (x0,x1) a b->Q (.tup [.int a,.int b]) S))) ds
def Bv:Sd:=λds S Q ex=>(aR λx_0=>aP λz0 z1=>aP λx0 x1=>aP λy0 y1=>aI λg=>aN ((Sz 1100 z0/\Sz 1100 z1/\Sz 1100 x0/\Sz 1100 x1/\Sz 30 g)/\(Q .non S/\∀a b:Int,Le (y0,y1) a b->Q (.tup [.int a,.int b]) S))) ds
def Iu (cNumber:Addr)(cUnknown:Addr)(cPlus:Addr)(cMinus:Addr)(cTimes:Addr)(cPower:Addr):Sd:=λds S Q ex=>(aR λn=>aR λw=>aP λz0 z1=>aI λg=>aN (∃(i j:Int)(vs:LI)(q:Int),S[n]?=some (Nd.ob cNumber cUnknown cPlus cMinus cTimes cPower (Nd.minus i j))/\S[w]?=some (.lst (vs.map frD))/\Nd.ok vs.length q (Nd.minus i j)/\(Bd 1000 vs/\(Sz 1000 z0/\Sz 1000 z1)/\(1<=g/\g<=1000000))/\Q .non S/\∀l,Ptw vs.length l->Q (.ref S.length) (S++[.lst (l.map ptD)]))) ds
def Bu:Sd:=λds S Q ex=>(aP λa b=>aN (Q (.bl (decide (a<=0)&&decide (0<=b))) S)) ds
def II:Sd:=λds S Q ex=>(aP λx0 x1=>aP λl0 l1=>aP λh0 h1=>aN ((l0<=l1/\h0<=h1)/\(Q .non S/\∀a b:Int,Le (x0,x1) a b->Q (.tup [.int a,.int b]) S))) ds
def B8:Sd:=λds S Q ex=>(aI λt=>aI λb=>aN (CFd 0 b/\Q (.tup [.int (t/b),.int (-(-t/b))]) S)) ds
def Ce:Sd:=λds S Q ex=>(aP λlo hi=>aP λx0 x1=>aP λc d=>aN ((0<=c/\0<d/\Sz 1400 c/\Sz 1400 d)/\(Q .non S/\∀a b:Int,Le (x0,x1) a b->Q (.tup [.int a,.int b]) S))) ds
def Am:Sd:=λds S Q ex=>(aP λa b=>aP λc d=>aN (Q (.tup [.int (if c<a then c else a),.int (if d > b then d else b)]) S)) ds
def Rj:Sd:=λds S Q ex=>match ds with
 | [.non,y]=>Q y S
 | [.tup [.int a,.int b],.non]=>Q (.tup [.int a,.int b]) S
 | [.tup [.int a,.int b],.tup [.int c,.int d]]=>Q (.tup [.int (if c<a then c else a),.int (if d > b then d else b)]) S
 | _=>False
theorem zbc:Ln (Rj) 2:=λds S Q ex h=>by unfold Rj at h;split at h<;>first|rfl|exact h.elim
def O0:Sd:=λds S Q ex=>(aP λa b=>aN (Q (.tup [.int (-b),.int (-a)]) S)) ds
def IU:Sd:=λds S Q ex=>(aP λz0 z1=>aP λx0 x1=>aP λy0 y1=>aI λg=>aN ((Sz 1100 z0/\Sz 1100 z1/\Sz 1100 y0/\Sz 1100 y1/\Sz 30 g)/\(Q .non S/\∀a b:Int,Le (x0,x1) a b->Q (.tup [.int a,.int b]) S))) ds
def BL:Sd:=λds S Q ex=>(aR λx_0=>aP λz0 z1=>aP λx0 x1=>aP λy0 y1=>aI λg=>aN ((Sz 1100 z0/\Sz 1100 z1/\Sz 1100 y0/\Sz 1100 y1/\Sz 30 g)/\(Q .non S/\∀a b:Int,Le (x0,x1) a b->Q (.tup [.int a,.int b]) S))) ds
def DM:Sd:=λds S Q ex=>(aR λx_0=>aP λz0 z1=>aP λx0 x1=>aP λy0 y1=>aI λg=>aN ((Sz 1100 z0/\Sz 1100 z1/\Sz 1100 x0/\Sz 1100 x1/\Sz 30 g)/\(Q .non S/\∀a b:Int,Le (y0,y1) a b->Q (.tup [.int a,.int b]) S))) ds
def Ep (cNumber:Addr)(cUnknown:Addr)(cPlus:Addr)(cMinus:Addr)(cTimes:Addr)(cPower:Addr):Sd:=λds S Q ex=>(aR λn=>aR λw=>aP λz0 z1=>aI λg=>aN (∃(i j:Int)(vs:LI)(q:Int),S[n]?=some (Nd.ob cNumber cUnknown cPlus cMinus cTimes cPower (Nd.times i j))/\S[w]?=some (.lst (vs.map frD))/\Nd.ok vs.length q (Nd.times i j)/\(Bd 1000 vs/\(Sz 1000 z0/\Sz 1000 z1)/\(1<=g/\g<=1000000))/\Q .non S/\∀l,Ptw vs.length l->Q (.ref S.length) (S++[.lst (l.map ptD)]))) ds
def DL:Sd:=λds S Q ex=>(aI λg=>aI λN=>aI λn=>aN ((2<=n/\n<=6/\0<g/\Sz 800 g)/\Q (.int (((n-1)*g+N/g^(n-1).toNat)/n)) S)) ds
def Iy:Sd:=λds S Q ex=>(aI λN=>aI λn=>aN ((2<=n/\n<=6/\0<=N/\Sz 1300 N)/\∀r:Int,0<=r->Sz 800 r->Q (.int r) S)) ds
def RT:Sd:=λds S Q ex=>match ds with
 | [.int N,.int n]=>(2<=n/\n<=6/\0<=N/\Sz 1300 N)/\∀a b:Int,a<=b->Q (.tup [.int a,.int b]) S
 | _=>False
theorem zfZ:Ln (RT) 2:=λds S Q ex h=>by unfold RT at h;split at h<;>first|rfl|exact h.elim
def Qd:Sd:=λds S Q ex=>match ds with
 | [.int N,.int n]=>(2<=n/\n<=6/\Sz 1300 N)/\∀a b:Int,a<=b->Q (.tup [.int a,.int b]) S
 | _=>False
theorem zef:Ln (Qd) 2:=λds S Q ex h=>by unfold Qd at h;split at h<;>first|rfl|exact h.elim
def C0:Sd:=λds S Q ex=>(aP λz0 z1=>aP λx0 x1=>aI λn=>aI λg=>aN ((2<=n/\n<=6/\Sz 30 g/\Sz 1100 z0/\Sz 1100 z1)/\(Q .non S/\∀a b:Int,Le (x0,x1) a b->Q (.tup [.int a,.int b]) S))) ds
def IH (cNumber:Addr)(cUnknown:Addr)(cPlus:Addr)(cMinus:Addr)(cTimes:Addr)(cPower:Addr):Sd:=λds S Q ex=>(aR λn=>aR λw=>aP λz0 z1=>aI λg=>aN (∃(i m:Int)(vs:LI)(q:Int),S[n]?=some (Nd.ob cNumber cUnknown cPlus cMinus cTimes cPower (Nd.power i m))/\S[w]?=some (.lst (vs.map frD))/\Nd.ok vs.length q (Nd.power i m)/\(Bd 1000 vs/\(Sz 1000 z0/\Sz 1000 z1)/\(1<=g/\g<=1000000))/\Q .non S/\∀l,Ptw vs.length l->Q (.ref S.length) (S++[.lst (l.map ptD)]))) ds
def C8:Sd:=λds S Q ex=>(aR λa=>aT λw k=>aR λb=>aI λg=>aN (∃(ns:List Nd)(ws:List Nat)(bs:LI)(zero:Bool),S[a]?=some (.lst (ns.map Nd.d))/\S[b]?=some (.lst (bs.map frD))/\rwW zero w/\inR ns.length k/\ZT bs.length ns ws/\Spn 51 bs/\(1<=g/\g<=1000000)/\ns.length<=70/\(∀T:Sto,Pre S T->Q .non T)/\∀(us:LI)(T:Sto)(m:Nat),us.length=k.toNat+1->Pre S T->S.length<=m->T[m]?=some (.lst (us.map frD))->Q (.ref m) T)) ds
def E2:Sd:=λds S Q ex=>(aR λa=>aT λw k=>aR λb=>aI λg=>aN (∃(ns:List Nd)(ws:List Nat)(bs:LI)(zero:Bool),S[a]?=some (.lst (ns.map Nd.d))/\S[b]?=some (.lst (bs.map frD))/\rwW zero w/\inR ns.length k/\ZT bs.length ns ws/\Spn 51 bs/\(1<=g/\g<=1000000)/\ns.length<=70/\(∀T:Sto,Pre S T->Q .non T)/\∀(us:LI)(T:Sto)(m:Nat),us.length=bs.length->Pre S T->S.length<=m->T[m]?=some (.lst (us.map frD))->Q (.ref m) T)) ds
def JT:Sd:=λds S Q ex=>(aR λb=>aI λk=>aD λd=>aN (∃(bs:LI)(p:Int×Int),S[b]?=some (.lst (bs.map frD))/\inR bs.length k/\bs.length<=4/\d=frD p/\∀(T:Sto)(m:Nat),Pre S T->S.length<=m->T[m]?=some (.lst ((bs.set k.toNat p).map frD))->Q (.ref m) T)) ds
def BJ:Sd:=λds S Q ex=>(aP λa b=>aD λd=>aN (∃c:Ct,d=c.d/\Q (frD (c.off (a,b))) S)) ds
def CW:Sd:=λds S Q ex=>(aR λa=>aT λw k=>aR λb=>aI λg=>aD λd=>aN (∃(ns:List Nd)(ws:List Nat)(bs:LI)(zero:Bool)(c:Ct),S[a]?=some (.lst (ns.map Nd.d))/\S[b]?=some (.lst (bs.map frD))/\rwW zero w/\inR ns.length k/\ZT bs.length ns ws/\Spn 51 bs/\(1<=g/\g<=1000000)/\ns.length<=70/\d=c.d/\c.k<bs.length/\bs.length<=4/\∀T:Sto,Pre S T->Q (.bl (isS ns zero k.toNat g bs c)) T)) ds
def EK:Sd:=λds S Q ex=>(aP λa b=>aD λd=>aN (∃c:Ct,d=c.d/\Q (frD (c.back (a,b))) S)) ds
def EJ:Sd:=λds S Q ex=>(aR λa=>aT λw k=>aR λb=>aI λg=>aN (∃(ns:List Nd)(ws:List Nat)(bs:LI)(zero:Bool),S[a]?=some (.lst (ns.map Nd.d))/\S[b]?=some (.lst (bs.map frD))/\rwW zero w/\inR ns.length k/\ZT bs.length ns ws/\Spn 51 bs/\(1<=g/\g<=1000000)/\ns.length<=70/\bs.length<=4/\∀(T:Sto)(mc:Nat)(fd:D)(cs:List Ct)(o:Option LI),ShOk ns zero k.toNat bs g cs o->Pre S T->S.length<=mc->T[mc]?=some (.lst (cs.map Ct.d))->FdAt o S.length T fd->Q (.tup [.ref mc,fd]) T)) ds
def MI (cBook:Addr):Sd:=λds S Q ex=>(aR λn=>aI λi=>aD λd=>aN (∃(a b j:Nat)(es:List LI)(fs:List Ft)(f:Ft),Bk cBook S n a b es fs/\i=(j:Int)/\j<fs.length/\V8 a b S d f/\∀T:Sto,Bk cBook T n a b es (fs.set j f)->Cg a b S T->Q .non T)) ds
def As (cBook:Addr):Sd:=λds S Q ex=>(aR λn=>aR λm=>aN (∃(a b:Nat)(es:List LI)(fs:List Ft)(e:LI),Bk cBook S n a b es fs/\VV a b S m e/\es.length<990/\∀T:Sto,Bk cBook T n a b (es++[e]) (fs++[.wait])->Cg a b S T->Q (.int (es.length:Int)) T)) ds
def GX (cBook:Addr):Sd:=λds S Q ex=>(aR λn=>aI λi=>aI λkk=>aI λp=>aN (∃(a b j k:Nat)(es:List LI)(fs:List Ft)(e:LI)(s:Int×Int),Bk cBook S n a b es fs/\i=(j:Int)/\kk=(k:Int)/\es[j]?=some e/\e[k]?=some s/\e.length<=4/\es.length<980/\∀T:Sto,Bk cBook T n a b (es++[e.set k (s.1,p)]++[e.set k (p,s.2)]) ((fs++[Ft.wait]++[Ft.wait]).set j (.cut k p es.length (es.length+1)))->Cg a b S T->Q (.tup [.int (es.length:Int),.int ((es.length:Int)+1)]) T)) ds
def Ip:Sd:=λds S Q ex=>(aR λnd=>aR λrw=>aI λr=>aR λbx=>aI λg=>aN (∃(k u:Nat)(ns:List Nd)(ws:List Nat)(rows:List (Bool×Nat))(e:LI)(row:Bool×Nat),Sr S nd rw g ns ws rows u/\S[bx]?=some (.lst (e.map frD))/\e.length=u/\Spn 51 e/\r=(k:Int)/\rows[k]?=some row/\∀(T:Sto)(m:Nat),Pre S T->S.length<=m->T[m]?=some (.lst ((ZC e g (ns.take (row.2+1))).map frD))->Q (.tup [.str "out",.int r,.ref m]) T)) ds
def By (cBook:Addr):Sd:=λds S Q ex=>(aR λn=>aR λnd=>aR λrw=>aI λg=>aI λi=>aN (∃(a b j u:Nat)(ns:List Nd)(ws:List Nat)(rows:List (Bool×Nat))(b0 e:LI)(es:List LI)(fs:List Ft)(fine:Int),Bk cBook S n a b es fs/\Sr S nd rw g ns ws rows u/\Apt nd rw a b/\Bks g fine ns rows b0 es fs/\Spn 51 b0/\b0.length=u/\i=(j:Int)/\fs[j]?=some .wait/\es[j]?=some e/\es.length<=900/\∀(T:Sto)(es':List LI)(fs':List Ft)(j':Nat),Bk cBook T n a b es' fs'->Bks g fine ns rows b0 es' fs'->Cg a b S T->es'.length<=es.length+64->Shd es j es' j'->j'<es'.length->Q (.int (j':Int)) T)) ds
def IX:Sd:=λds S Q ex=>(aS λw=>aP λa b=>aN ((w="zero"/\Q (.bl (decide (a=0)&&decide (b=0))) S)\/(w="least"/\Q (.bl (decide (0<=a))) S))) ds
def Cj:Sd:=λds S Q ex=>(aR λnd=>aR λrw=>aR λbx=>aI λg=>aR λsp=>aN (∃(u:Nat)(ns:List Nd)(ws:List Nat)(rows:List (Bool×Nat))(e:LI),Sr S nd rw g ns ws rows u/\S[bx]?=some (.lst (e.map frD))/\e.length=u/\Spn 51 e/\S[sp]?=some (.lst ((ZC e g ns).map frD))/\(∀(T:Sto)(k m:Nat)(row:Bool×Nat),Pre S T->S.length<=m->rows[k]?=some row->ibS ns row.1 row.2 e g=true->T[m]?=some (.lst ((ZC e g (ns.take (row.2+1))).map frD))->Q (.tup [.str "out",.int (k:Int),.ref m]) T)/\((∀row∈rows,ibS ns row.1 row.2 e g=false)->suS ns rows e g=true->∀T:Sto,Pre S T->Q (.tup [.str "full",.ref sp]) T)/\((∀row∈rows,ibS ns row.1 row.2 e g=false)->suS ns rows e g=false->∀T:Sto,Pre S T->Q .non T))) ds
def Ae:Sd:=λds S Q ex=>(aR λr=>aN (∃rows:List (Bool×Nat),S[r]?=some (.lst (rows.map rwD))/\rows.length<=900/\Q (.ref S.length) (S++[.lst ((eqs rows).map wtD)]))) ds
def GS:Sd:=λds S Q ex=>(aR λe=>aR λp=>aN (∃(xs:List D)(is:List Nat),S[e]?=some (.lst xs)/\S[p]?=some (.lst (is.map wtD))/\is.length<=900/\(∀i∈is,i<xs.length)/\Q (.ref S.length) (S++[.lst (is.map λi=>xs.getD i .non)]))) ds
def IQ (cNumber:Addr)(cUnknown:Addr)(cPlus:Addr)(cMinus:Addr)(cTimes:Addr)(cPower:Addr):Sd:=λds S Q ex=>(aR λn=>aR λw=>aR λs=>aI λqi=>aI λg=>aN (∃(x y:Int)(q:Nat)(vs:LI)(sl:List LI)(ds:List D),S[n]?=some (Nd.ob cNumber cUnknown cPlus cMinus cTimes cPower (Nd.number x y))/\S[w]?=some (.lst (vs.map frD))/\S[s]?=some (.lst ds)/\Ym S 0 ds sl/\(∀i:Int,inR sl.length i->(sl.getD i.toNat []).length=q/\∀l,l<q->(gs sl i l).1<=(gs sl i l).2/\Sz 1100 (gs sl i l).1/\Sz 1100 (gs sl i l).2)/\(qi=(q:Nat)/\q<=900)/\Nd.ok sl.length q (Nd.number x y)/\sl.length<=vs.length/\Spn 1000 vs/\(1<=g/\g<=1000000)/\∀(T:Sto)(mm:Nat),Pre S T->S.length<=mm->T[mm]?=some (.lst ((Yx vs sl g q (Nd.number x y)).map frD))->Q (.ref mm) T)) ds
def FT (cNumber:Addr)(cUnknown:Addr)(cPlus:Addr)(cMinus:Addr)(cTimes:Addr)(cPower:Addr):Sd:=λds S Q ex=>(aR λn=>aR λw=>aR λs=>aI λqi=>aI λg=>aN (∃(k:Int)(q:Nat)(vs:LI)(sl:List LI)(ds:List D),S[n]?=some (Nd.ob cNumber cUnknown cPlus cMinus cTimes cPower (Nd.unknown k))/\S[w]?=some (.lst (vs.map frD))/\S[s]?=some (.lst ds)/\Ym S 0 ds sl/\(∀i:Int,inR sl.length i->(sl.getD i.toNat []).length=q/\∀l,l<q->(gs sl i l).1<=(gs sl i l).2/\Sz 1100 (gs sl i l).1/\Sz 1100 (gs sl i l).2)/\(qi=(q:Nat)/\q<=900)/\Nd.ok sl.length q (Nd.unknown k)/\sl.length<=vs.length/\Spn 1000 vs/\(1<=g/\g<=1000000)/\∀(T:Sto)(mm:Nat),Pre S T->S.length<=mm->T[mm]?=some (.lst ((Yx vs sl g q (Nd.unknown k)).map frD))->Q (.ref mm) T)) ds
def Bs (cPlus:Addr):Sd:=λds S Q ex=>(aR λx_0=>aD λx_1=>aD λx_2=>aP λa b=>aP λc d=>aI λx_7=>aN (Q (.tup [.int (a+c),.int (b+d)]) S)) ds
def K1 (cNumber:Addr)(cUnknown:Addr)(cPlus:Addr)(cMinus:Addr)(cTimes:Addr)(cPower:Addr):Sd:=λds S Q ex=>(aR λn=>aR λw=>aR λs=>aI λqi=>aI λg=>aN (∃(i j:Int)(q:Nat)(vs:LI)(sl:List LI)(ds:List D),S[n]?=some (Nd.ob cNumber cUnknown cPlus cMinus cTimes cPower (Nd.plus i j))/\S[w]?=some (.lst (vs.map frD))/\S[s]?=some (.lst ds)/\Ym S 0 ds sl/\(∀i:Int,inR sl.length i->(sl.getD i.toNat []).length=q/\∀l,l<q->(gs sl i l).1<=(gs sl i l).2/\Sz 1100 (gs sl i l).1/\Sz 1100 (gs sl i l).2)/\(qi=(q:Nat)/\q<=900)/\Nd.ok sl.length q (Nd.plus i j)/\sl.length<=vs.length/\Spn 1000 vs/\(1<=g/\g<=1000000)/\∀(T:Sto)(mm:Nat),Pre S T->S.length<=mm->T[mm]?=some (.lst ((Yx vs sl g q (Nd.plus i j)).map frD))->Q (.ref mm) T)) ds
def Dj (cMinus:Addr):Sd:=λds S Q ex=>(aR λx_0=>aD λx_1=>aD λx_2=>aP λa b=>aP λc d=>aI λx_7=>aN (Q (.tup [.int (a-d),.int (b-c)]) S)) ds
def IT (cNumber:Addr)(cUnknown:Addr)(cPlus:Addr)(cMinus:Addr)(cTimes:Addr)(cPower:Addr):Sd:=λds S Q ex=>(aR λn=>aR λw=>aR λs=>aI λqi=>aI λg=>aN (∃(i j:Int)(q:Nat)(vs:LI)(sl:List LI)(ds:List D),S[n]?=some (Nd.ob cNumber cUnknown cPlus cMinus cTimes cPower (Nd.minus i j))/\S[w]?=some (.lst (vs.map frD))/\S[s]?=some (.lst ds)/\Ym S 0 ds sl/\(∀i:Int,inR sl.length i->(sl.getD i.toNat []).length=q/\∀l,l<q->(gs sl i l).1<=(gs sl i l).2/\Sz 1100 (gs sl i l).1/\Sz 1100 (gs sl i l).2)/\(qi=(q:Nat)/\q<=900)/\Nd.ok sl.length q (Nd.minus i j)/\sl.length<=vs.length/\Spn 1000 vs/\(1<=g/\g<=1000000)/\∀(T:Sto)(mm:Nat),Pre S T->S.length<=mm->T[mm]?=some (.lst ((Yx vs sl g q (Nd.minus i j)).map frD))->Q (.ref mm) T)) ds
def Bw (cTimes:Addr):Sd:=λds S Q ex=>(aR λx_0=>aP λx1 x2=>aP λy1 y2=>aP λa b=>aP λc d=>aI λg=>aN ((Sz 1400 x1/\Sz 1400 x2/\Sz 1400 y1/\Sz 1400 y2/\Sz 1400 a/\Sz 1400 b/\Sz 1400 c/\Sz 1400 d/\1<=g/\g<=1000000)/\Q (.tup [.int ((Yz (x1,x2) (c,d) g).1+(Yz (y1,y2) (a,b) g).1),.int ((Yz (x1,x2) (c,d) g).2+(Yz (y1,y2) (a,b) g).2)]) S)) ds
def GY (cNumber:Addr)(cUnknown:Addr)(cPlus:Addr)(cMinus:Addr)(cTimes:Addr)(cPower:Addr):Sd:=λds S Q ex=>(aR λn=>aR λw=>aR λs=>aI λqi=>aI λg=>aN (∃(i j:Int)(q:Nat)(vs:LI)(sl:List LI)(ds:List D),S[n]?=some (Nd.ob cNumber cUnknown cPlus cMinus cTimes cPower (Nd.times i j))/\S[w]?=some (.lst (vs.map frD))/\S[s]?=some (.lst ds)/\Ym S 0 ds sl/\(∀i:Int,inR sl.length i->(sl.getD i.toNat []).length=q/\∀l,l<q->(gs sl i l).1<=(gs sl i l).2/\Sz 1100 (gs sl i l).1/\Sz 1100 (gs sl i l).2)/\(qi=(q:Nat)/\q<=900)/\Nd.ok sl.length q (Nd.times i j)/\sl.length<=vs.length/\Spn 1000 vs/\(1<=g/\g<=1000000)/\∀(T:Sto)(mm:Nat),Pre S T->S.length<=mm->T[mm]?=some (.lst ((Yx vs sl g q (Nd.times i j)).map frD))->Q (.ref mm) T)) ds
def EG:Sd:=λds S Q ex=>(aP λa b=>aI λm=>aN ((IntMulOk a m/\IntMulOk b m)/\Q (.tup [.int (if b*m<a*m then b*m else a*m),.int (if b*m > a*m then b*m else a*m)]) S)) ds
def Ja (cNumber:Addr)(cUnknown:Addr)(cPlus:Addr)(cMinus:Addr)(cTimes:Addr)(cPower:Addr):Sd:=λds S Q ex=>(aR λn=>aR λw=>aR λs=>aI λqi=>aI λg=>aN (∃(i m:Int)(q:Nat)(vs:LI)(sl:List LI)(ds:List D),S[n]?=some (Nd.ob cNumber cUnknown cPlus cMinus cTimes cPower (Nd.power i m))/\S[w]?=some (.lst (vs.map frD))/\S[s]?=some (.lst ds)/\Ym S 0 ds sl/\(∀i:Int,inR sl.length i->(sl.getD i.toNat []).length=q/\∀l,l<q->(gs sl i l).1<=(gs sl i l).2/\Sz 1100 (gs sl i l).1/\Sz 1100 (gs sl i l).2)/\(qi=(q:Nat)/\q<=900)/\Nd.ok sl.length q (Nd.power i m)/\sl.length<=vs.length/\Spn 1000 vs/\(1<=g/\g<=1000000)/\∀(T:Sto)(mm:Nat),Pre S T->S.length<=mm->T[mm]?=some (.lst ((Yx vs sl g q (Nd.power i m)).map frD))->Q (.ref mm) T)) ds
def JY:Sd:=λds S Q ex=>(aR λa=>aR λb=>aI λg=>aN (∃(ns:List Nd)(ws:List Nat)(bs:LI),S[a]?=some (.lst (ns.map Nd.d))/\S[b]?=some (.lst (bs.map frD))/\ZT bs.length ns ws/\Spn 51 bs/\bs.length<=900/\(1<=g/\g<=1000000)/\ns.length<=70/\∀(T:Sto)(m:Nat)(ds:List D),Pre S T->S.length<=m->T[m]?=some (.lst ds)->Ym T (m+1) ds (Ys (ZC bs g ns) g bs.length ns)->Q (.ref m) T)) ds
def D7:Sd:=λds S Q ex=>(aR λa=>aR λp=>aR λb=>aI λg=>aN (∃(ns:List Nd)(ws:List Nat)(bs:LI)(is:List Nat),S[a]?=some (.lst (ns.map Nd.d))/\S[b]?=some (.lst (bs.map frD))/\ZT bs.length ns ws/\Spn 51 bs/\(1<=g/\g<=1000000)/\ns.length<=70/\bs.length<=900/\S[p]?=some (.lst (is.map wtD))/\is.length<=900/\(∀i∈is,i<ns.length)/\∀(T:Sto)(m:Nat)(ds:List D),Pre S T->T[m]?=some (.lst ds)->ds.length=is.length->Mr (RF 1023 bs.length) 0 T ds->Q (.ref m) T)) ds
def Ow:Sd:=λds S Q ex=>(aI λi=>aI λk=>aN (∃n:Nat,k=n/\Q (.int (sgn i n)) S)) ds
def ON:Sd:=λds S Q ex=>(aR λm=>aI λr=>aI λc=>aN (∃(ds:List D)(i j n:Nat),r=i/\c=j/\S[m]?=some (.lst ds)/\ds.length=n+1/\Mr (RI 1024 (n+1)) 0 S ds/\n<=3/\i<=n/\j<=n/\∀(T:Sto)(k:Nat)(es:List D),Pre S T->T[k]?=some (.lst es)->es.length=n->Mr (RI 1024 n) 0 T es->Q (.ref k) T)) ds
def Ts:Sd:=λds S Q ex=>match ds with
 | [.ref m,.int r,.int c]=>∃(ds:List D)(i j n:Nat),n<=0/\r=i/\c=j/\i<=n/\j<=n/\S[m]?=some (.lst ds)/\ds.length=n+1/\Mr (RI 1024 (n+1)) 0 S ds/\∀x:Int,Sz (1040*n+1) x->Q (.int x) S
 | _=>False
theorem A2:Ln (Ts) 3:=λds S Q ex h=>by unfold Ts at h;split at h<;>first|rfl|exact h.elim
def S8:Sd:=λds S Q ex=>match ds with
 | [.ref m,.int r,.int c]=>∃(ds:List D)(i j n:Nat),n<=1/\r=i/\c=j/\i<=n/\j<=n/\S[m]?=some (.lst ds)/\ds.length=n+1/\Mr (RI 1024 (n+1)) 0 S ds/\∀x:Int,Sz (1040*n+1) x->Q (.int x) S
 | _=>False
theorem zeC:Ln (S8) 3:=λds S Q ex h=>by unfold S8 at h;split at h<;>first|rfl|exact h.elim
def Sh:Sd:=λds S Q ex=>match ds with
 | [.ref m,.int r,.int c]=>∃(ds:List D)(i j n:Nat),n<=2/\r=i/\c=j/\i<=n/\j<=n/\S[m]?=some (.lst ds)/\ds.length=n+1/\Mr (RI 1024 (n+1)) 0 S ds/\∀x:Int,Sz (1040*n+1) x->Q (.int x) S
 | _=>False
theorem AI:Ln (Sh) 3:=λds S Q ex h=>by unfold Sh at h;split at h<;>first|rfl|exact h.elim
def Ur:Sd:=λds S Q ex=>match ds with
 | [.ref m,.int r,.int c]=>∃(ds:List D)(i j n:Nat),n<=3/\r=i/\c=j/\i<=n/\j<=n/\S[m]?=some (.lst ds)/\ds.length=n+1/\Mr (RI 1024 (n+1)) 0 S ds/\∀x:Int,Sz (1040*n+1) x->Q (.int x) S
 | _=>False
theorem zhc:Ln (Ur) 3:=λds S Q ex h=>by unfold Ur at h;split at h<;>first|rfl|exact h.elim
def RD:Sd:=λds S Q ex=>match ds with
 | [.ref m]=>∃(ds:List D)(n:Nat),n<=0/\S[m]?=some (.lst ds)/\ds.length=n/\Mr (RI 1024 (n)) 0 S ds/\∀x:Int,Sz (1040*n+1) x->Q (.int x) S
 | _=>False
theorem zc4:Ln (RD) 1:=λds S Q ex h=>by unfold RD at h;split at h<;>first|rfl|exact h.elim
def QU:Sd:=λds S Q ex=>match ds with
 | [.ref m]=>∃(ds:List D)(n:Nat),n<=1/\S[m]?=some (.lst ds)/\ds.length=n/\Mr (RI 1024 (n)) 0 S ds/\∀x:Int,Sz (1040*n+1) x->Q (.int x) S
 | _=>False
theorem zbX:Ln (QU) 1:=λds S Q ex h=>by unfold QU at h;split at h<;>first|rfl|exact h.elim
def PU:Sd:=λds S Q ex=>match ds with
 | [.ref m]=>∃(ds:List D)(n:Nat),n<=2/\S[m]?=some (.lst ds)/\ds.length=n/\Mr (RI 1024 (n)) 0 S ds/\∀x:Int,Sz (1040*n+1) x->Q (.int x) S
 | _=>False
theorem zfg:Ln (PU) 1:=λds S Q ex h=>by unfold PU at h;split at h<;>first|rfl|exact h.elim
def Qj:Sd:=λds S Q ex=>match ds with
 | [.ref m]=>∃(ds:List D)(n:Nat),n<=3/\S[m]?=some (.lst ds)/\ds.length=n/\Mr (RI 1024 (n)) 0 S ds/\∀x:Int,Sz (1040*n+1) x->Q (.int x) S
 | _=>False
theorem zc6:Ln (Qj) 1:=λds S Q ex h=>by unfold Qj at h;split at h<;>first|rfl|exact h.elim
def QB:Sd:=λds S Q ex=>match ds with
 | [.ref m]=>∃(ds:List D)(n:Nat),n<=4/\S[m]?=some (.lst ds)/\ds.length=n/\Mr (RI 1024 (n)) 0 S ds/\∀x:Int,Sz (1040*n+1) x->Q (.int x) S
 | _=>False
theorem zcO:Ln (QB) 1:=λds S Q ex h=>by unfold QB at h;split at h<;>first|rfl|exact h.elim
def C7:Sd:=λds S Q ex=>(aR λm=>aI λw=>aI λr=>aI λc=>aI λg=>aN (∃(ds:List D)(i j n:Nat),n<=3/\r=i/\c=j/\i<=n/\j<=n/\S[m]?=some (.lst ds)/\ds.length=n+1/\Mr (RI 1024 (n+1)) 0 S ds/\(w≠0/\Sz 4200 w)/\(1<=g/\g<=1000000)/\∀x:Int,Sz 3200 x->Q (.int x) S)) ds
def BW:Sd:=λds S Q ex=>(aR λm=>aI λw=>aI λr=>aI λg=>aN (∃(ds:List D)(i n:Nat),n<=3/\r=i/\i<=n/\S[m]?=some (.lst ds)/\ds.length=n+1/\Mr (RI 1024 (n+1)) 0 S ds/\(w≠0/\Sz 4200 w)/\(1<=g/\g<=1000000)/\∀xs:List D,RI 3200 (n+1) xs->Q (.ref S.length) (S++[.lst xs]))) ds
def Bh:Sd:=λds S Q ex=>(aR λm=>aI λg=>aN (∃(ds:List D)(n:Nat),(1<=n/\n<=4)/\S[m]?=some (.lst ds)/\ds.length=n/\Mr (RI 1024 (n)) 0 S ds/\(1<=g/\g<=1000000)/\Q .non S/\∀(T:Sto)(k:Nat)(es:List D),Pre S T->T[k]?=some (.lst es)->es.length=n->Mr (RI 3200 n) 0 T es->Q (.ref k) T)) ds
def IS:Sd:=λds S Q ex=>(aP λa b=>aN (Q (.int ((a+b)/2)) S)) ds
def IJ:Sd:=λds S Q ex=>(aR λs=>aN (∃vs:LI,S[s]?=some (.lst (vs.map frD))/\vs.length<=900/\Q (.ref S.length) (S++[.lst (vs.map λp=>.int (mid p))]))) ds
def MX:Sd:=λds S Q ex=>(aR λb=>aN (∃vs:LI,S[b]?=some (.lst (vs.map frD))/\vs.length<=900/\∀(T:Sto)(m:Nat),Pre S T->S.length<=m->T[m]?=some (.lst ((vs.map Wc).map frD))->Q (.ref m) T)) ds
def IY:Sd:=λds S Q ex=>(aR λa=>aR λb=>aI λg=>aN (∃(us vs:LI),S[a]?=some (.lst (us.map frD))/\S[b]?=some (.lst (vs.map frD))/\us.length<=60/\Bd 20000 us/\Bd 20000 vs/\(1<=g/\g<=1000000)/\Q (frD (X8 g us vs)) S)) ds
def Ci:Sd:=λds S Q ex=>(aI λk=>aI λc=>aR λt=>aR λs=>aI λg=>aN (∃(q cn:Nat)(ts:LI)(ds:List D),c=(cn:Nat)/\S[t]?=some (.lst (ts.map frD))/\S[s]?=some (.lst ds)/\Mr (RF 1023 q) 0 S ds/\cn<q/\ts.length<=60/\ds.length<=60/\Bd 3200 ts/\(1<=g/\g<=1000000)/\∀a b:Int,Sz 20000 a->Sz 20000 b->Q (.tup [.int a,.int b]) S)) ds
def CB:Sd:=λds S Q ex=>(aI λki=>aR λb=>aI λg=>aR λe=>aR λt=>aR λs=>aN (∃(k:Nat)(box aA:LI)(es:List Int)(ds:List D),ki=(k:Nat)/\k<box.length/\S[e]?=some (.lst (es.map D.int))/\es.length<=4/\(∀x∈es,Sz 3200 x)/\S[b]?=some (.lst (box.map frD))/\S[t]?=some (.lst (aA.map frD))/\S[s]?=some (.lst ds)/\Mr (RF 1023 box.length) 0 S ds/\(1<=box.length/\box.length<=4)/\ds.length<=4/\Bd 60 box/\Bd 2000 aA/\(1<=g/\g<=1000000)/\∀a b:Int,Q (.tup [.int a,.int b]) S)) ds
def DJ:Sd:=λds S Q ex=>(aR λb=>aI λg=>aR λu=>aR λt=>aR λs=>aN (∃(box aA:LI)(ms ds:List D),S[u]?=some (.lst ms)/\ms.length=box.length/\Mr (RI 3200 box.length) 0 S ms/\S[b]?=some (.lst (box.map frD))/\S[t]?=some (.lst (aA.map frD))/\S[s]?=some (.lst ds)/\Mr (RF 1023 box.length) 0 S ds/\(1<=box.length/\box.length<=4)/\ds.length<=4/\Bd 60 box/\Bd 2000 aA/\(1<=g/\g<=1000000)/\∀vs:LI,vs.length<=4->Q (.ref S.length) (S++[.lst (vs.map frD)]))) ds
def Ck:Sd:=λds S Q ex=>(aR λa=>aR λp=>aR λb=>aI λg=>aN (∃(ns:List Nd)(ws:List Nat)(bs:LI)(is:List Nat),S[a]?=some (.lst (ns.map Nd.d))/\S[b]?=some (.lst (bs.map frD))/\ZT bs.length ns ws/\Spn 51 bs/\(1<=g/\g<=1000000)/\ns.length<=70/\bs.length<=900/\S[p]?=some (.lst (is.map wtD))/\is.length<=900/\(∀i∈is,i<ns.length)/\∀(T:Sto)(m:Nat)(vs:LI),Pre S T->S.length<=m->T[m]?=some (.lst (vs.map frD))->Bd 2000 vs->Q (.ref m) T)) ds
def BN:Sd:=λds S Q ex=>(aP λa b=>aP λc d=>aN (Q (.bl (decide (c<a)&&decide (b<d))) S)) ds
def Ca:Sd:=λds S Q ex=>(aR λm=>aR λn=>aN (∃us vs:LI,S[m]?=some (.lst (us.map frD))/\S[n]?=some (.lst (vs.map frD))/\us.length<=1000/\∀b:Bool,Q (.bl b) S)) ds
def Ex:Sd:=λds S Q ex=>(aR λr=>aR λs=>aN (∃(rows:List (Bool×Nat))(vs:LI),S[r]?=some (.lst (rows.map rwD))/\S[s]?=some (.lst (vs.map frD))/\rows.length<=900/\(∀r∈rows,r.2<vs.length)/\∀b:Bool,Q (.bl b) S)) ds
def Dn:Sd:=λds S Q ex=>(aR λa=>aR λr=>aR λb=>aI λg=>aN (∃(ns:List Nd)(ws:List Nat)(bs:LI)(rows:List (Bool×Nat)),S[a]?=some (.lst (ns.map Nd.d))/\S[b]?=some (.lst (bs.map frD))/\ZT bs.length ns ws/\Spn 51 bs/\(1<=g/\g<=1000000)/\ns.length<=70/\bs.length<=900/\S[r]?=some (.lst (rows.map rwD))/\rows.length<=900/\(∀r∈rows,r.2<ns.length)/\(1<=bs.length/\bs.length<=4)/\(∀T:Sto,Pre S T->Q .non T)/\∀(T:Sto)(d e:D),Pre S T->Q (.tup [d,e]) T)) ds
def D9:Sd:=λds S Q ex=>(aR λnd=>aR λrw=>aR λbx=>aI λg=>aR λsp=>aN (∃(u:Nat)(ns:List Nd)(ws:List Nat)(rows:List (Bool×Nat))(e:LI),Sr S nd rw g ns ws rows u/\S[bx]?=some (.lst (e.map frD))/\e.length=u/\Spn 51 e/\(∀T:Sto,Pre S T->Q .non T)/\(∀(T:Sto)(d1 d2 d3 d4 d5:D),Pre S T->Q (.tup [.str "one",d1,d2,d3,d4,d5]) T))) ds
def BF:Sd:=λds S Q ex=>(aR λnd=>aR λrw=>aR λbx=>aI λg=>aI λfine=>aN (∃(u:Nat)(ns:List Nd)(ws:List Nat)(rows:List (Bool×Nat))(e:LI),Sr S nd rw g ns ws rows u/\S[bx]?=some (.lst (e.map frD))/\e.length=u/\Spn 51 e/\(∀(T:Sto)(f:Ft)(d:D),Pre S T->FOk g fine ns rows e f->(∀a b:Nat,a<S.length->b<S.length->V8 a b T d f)->Q d T)/\∀T:Sto,Pre S T->(∃p∈e,fine<wd p)->Q .non T)) ds
def Ag:Sd:=λds S Q ex=>(aR λx=>aR λy=>aN (∃bs cs:LI,S[x]?=some (.lst (bs.map frD))/\S[y]?=some (.lst (cs.map frD))/\Spn 51 bs/\Spn 51 cs/\bs.length<=4/\cs.length<=4/\∀T:Sto,Pre S T->Q (.bl (decide (4*VC bs<=3*VC cs))) T)) ds
def Bz (cBook:Addr):Sd:=λds S Q ex=>(aR λn=>aI λi=>aN (∃(a b j:Nat)(es:List LI)(fs:List Ft)(e:LI),Bk cBook S n a b es fs/\i=(j:Int)/\es[j]?=some e/\e.length<=4/\e≠[]/\es.length<980/\∀(T:Sto)(k:Nat)(s:Int×Int),e[k]?=some s->Wst e (wd s)->Bk cBook T n a b (es++[e.set k (s.1,(s.1+s.2)/2)]++[e.set k ((s.1+s.2)/2,s.2)]) ((fs++[Ft.wait]++[Ft.wait]).set j (.cut k ((s.1+s.2)/2) es.length (es.length+1)))->Cg a b S T->Q .non T)) ds
def E8 (cBook:Addr):Sd:=λds S Q ex=>(aR λn=>aR λnd=>aR λrw=>aI λg=>aI λfine=>aI λi=>aN (∃(a b j u:Nat)(ns:List Nd)(ws:List Nat)(rows:List (Bool×Nat))(b0 e:LI)(es:List LI)(fs:List Ft),Bk cBook S n a b es fs/\Sr S nd rw g ns ws rows u/\Apt nd rw a b/\Bks g fine ns rows b0 es fs/\Spn 51 b0/\b0.length=u/\i=(j:Int)/\fs[j]?=some .wait/\es[j]?=some e/\1<=fine/\es.length<=800/\∀(T:Sto)(es':List LI)(fs':List Ft),Bk cBook T n a b es' fs'->Bks g fine ns rows b0 es' fs'->Cg a b S T->es'.length<=es.length+66->(es.length<es'.length\/es'.length=es.length/\fs'[j]?≠some .wait)->Q .non T)) ds
def C2:Sd:=λds S Q ex=>(aR λnd=>aR λrw=>aR λbx=>aI λg=>aI λfine=>aI λlooks=>aN (∃(u t:Nat)(ns:List Nd)(ws:List Nat)(rows:List (Bool×Nat))(b0:LI),Sr S nd rw g ns ws rows u/\S[bx]?=some (.lst (b0.map frD))/\b0.length=u/\Spn 51 b0/\1<=fine/\(0<=looks/\looks<=8)/\S[t]?=some (.cod LT LP LQ)/\∀(T:Sto)(m:Nat)(ds:List D)(es:List LI)(fs:List Ft),Pre S T->S.length<=m->T[m]?=some (.lst ds)->En T ds es fs->Bks g fine ns rows b0 es fs->es.length<=900->(looks=0->es=[b0]/\fs=[.wait])->(0<looks->es.length=1->fs[0]?≠some .wait)->Q (.ref m) T)) ds
def DR:Sd:=λds S Q ex=>(aR λn=>aI λs=>aN (∃zs:List Int,S[n]?=some (.lst (zs.map D.int))/\zs≠[]/\CFd 0 s/\∀lo hi:Int,lo∈zs->(∀z∈zs,lo<=z)->hi∈zs->(∀z∈zs,z<=hi)->Q (frD (lo/s,-(-hi/s))) S)) ds
def DB:Sd:=λds S Q ex=>(aD λd=>aR λw=>aR λp=>aI λg=>aN (∃(v:Nd)(vs bs:LI),d=v.d/\S[w]?=some (.lst (vs.map frD))/\S[p]?=some (.lst (bs.map frD))/\v.ok vs.length bs.length/\Spn 1400 vs/\(1<=g/\g<=1000000)/\Q (frD (v.fw vs bs g)) S)) ds
def E7:Sd:=λds S Q ex=>(aR λbx=>aR λnd=>aR λrw=>aI λg=>aI λfine=>aN (∃(u:Nat)(ns:List Nd)(ws:List Nat)(rows:List (Bool×Nat))(e:LI),Sr S nd rw g ns ws rows u/\S[bx]?=some (.lst (e.map frD))/\e.length=u/\Spn 51 e/\FOk g fine ns rows e .small/\Q (.bl true) S)) ds
abbrev Imp (p G:List D->Prop):Prop:=∀ds,p ds->G ds
theorem kN {p:Prop}{G:List D->Prop}(k:p->G []):Imp (aN p) G:=λds h=>by
 obtain⟨rfl,h⟩:=aN_e h;exact k h
theorem kR {f:Nat->List D->Prop}{G:List D->Prop}(k:∀a,Imp (f a) λr=>G (.ref a::r)):Imp (aR f) G:=λds h=>by
 obtain⟨a,r,rfl,h⟩:=aR_e h;exact k a r h
theorem kI {f:Int->List D->Prop}{G:List D->Prop}(k:∀a,Imp (f a) λr=>G (.int a::r)):Imp (aI f) G:=λds h=>by
 obtain⟨a,r,rfl,h⟩:=aI_e h;exact k a r h
theorem kS {f:Str->List D->Prop}{G:List D->Prop}(k:∀a,Imp (f a) λr=>G (.str a::r)):Imp (aS f) G:=λds h=>by
 obtain⟨a,r,rfl,h⟩:=aS_e h;exact k a r h
theorem kP {f:Int->Int->List D->Prop}{G:List D->Prop}(k:∀a b,Imp (f a b) λr=>G (.tup [.int a,.int b]::r)):Imp (aP f) G:=λds h=>by
 obtain⟨a,b,r,rfl,h⟩:=aP_e h;exact k a b r h
theorem kT {f:Str->Int->List D->Prop}{G:List D->Prop}(k:∀a b,Imp (f a b) λr=>G (.tup [.str a,.int b]::r)):Imp (aT f) G:=λds h=>by
 obtain⟨a,b,r,rfl,h⟩:=aT_e h;exact k a b r h
theorem kD {f:D->List D->Prop}{G:List D->Prop}(k:∀a,Imp (f a) λr=>G (a::r)):Imp (aD f) G:=λds h=>by
 obtain⟨a,r,rfl,h⟩:=aD_e h;exact k a r h
section
variable {P:Program}{w:World}{K:Fg}{mg:Str->Option Value}{base:Heap}{k:Nat}{C:Addr}{x qual:Str}{st:Stmt}{ps N:List Str}{sd:Sd}{t:TDS}
theorem zhf (hp:∀S Q ex,Imp (λds=>sd ds S Q ex) λds=>t { nx:=λ_ S'=>Gc S Q .non S',rt:=Gc S Q } (We N ds) S):∀ds S Q ex,gcS sd ds S Q ex->t { nx:=λ_ S'=>Q .non S',rt:=Q } (We N ds) S:=λds S Q ex h=>by
 obtain⟨Q0,ex0,rfl,rfl,h⟩:=h;exact hp S Q0 ex0 ds h
def mkF (d:Df K mg x st ps)(Sc:Zu N ps (Zm st))(ht:∀ {cdv:Value} {A:Around} {outer:List Env} {s:Shared} {H:Hp} {E:XK},ZU k (A.deeper (envOfC x (Zm st) s.heap.objs.size d.f cdv))->YZ (Wq (CXE P w) P w K mg base N x (Zm st) d.f cdv A outer s H E).nox Z0 (Xy st) t)(hp:∀S Q ex,Imp (λds=>sd ds S Q ex) λds=>t { nx:=λ_ S'=>Q .non S',rt:=Q } (We N ds) S)(len:Ln sd ps.length:=by exact λ_ _ _ _=>by repeat (first|exact nN|refine nR λ_=>?_|refine nI λ_=>?_|refine nP λ_ _=>?_|refine nT λ_ _=>?_|refine nD λ_=>?_|refine nS λ_=>?_)):Fk P w K mg base (k+1) x ps sd:=d.mk' (Xo d.F Sc len λ_ _ _ _ _ _ hr=>⟨t,ht hr,λds S Q ex=>hp S Q ex ds⟩)
def mkG (d:Df K mg x st ps)(Sc:Zu N ps (Zm st))(ht:∀ {cdv:Value} {A:Around} {outer:List Env} {s:Shared} {H:Hp} {E:XK},ZU k (A.deeper (envOfC x (Zm st) s.heap.objs.size d.f cdv))->YZ (Wq (CXE P w) P w K mg base N x (Zm st) d.f cdv A outer s H E).nox Z0 (Xy st) t)(hp:∀S Q ex,Imp (λds=>sd ds S Q ex) λds=>t { nx:=λ_ S'=>Gc S Q .non S',rt:=Gc S Q } (We N ds) S)(len:Ln sd ps.length:=by exact λ_ _ _ _=>by repeat (first|exact nN|refine nR λ_=>?_|refine nI λ_=>?_|refine nP λ_ _=>?_|refine nT λ_ _=>?_|refine nD λ_=>?_|refine nS λ_=>?_)):Fk P w K mg base (k+1) x ps sd:=d.mk' (WG (Xo d.F Sc (Vb len) λ_ _ _ _ _ _ hr=>⟨t,ht hr,zhf hp⟩))
def mkM (d:Dm K C x qual st ps)(Sc:Zu N ps (Zm st))(ht:∀ {cdv:Value} {A:Around} {outer:List Env} {s:Shared} {H:Hp} {E:XK},ZU k (A.deeper (envOfC qual (Zm st) s.heap.objs.size d.f cdv))->YZ (Wq (CXE P w) P w K mg base N qual (Zm st) d.f cdv A outer s H E).nox Z0 (Xy st) t)(hp:∀S Q ex,Imp (λds=>sd ds S Q ex) λds=>t { nx:=λ_ S'=>Q .non S',rt:=Q } (We N ds) S)(len:Ln sd ps.length:=by exact λ_ _ _ _=>by repeat (first|exact nN|refine nR λ_=>?_|refine nI λ_=>?_|refine nP λ_ _=>?_|refine nT λ_ _=>?_|refine nD λ_=>?_|refine nS λ_=>?_)):Fm P w K mg base (k+1) C x ps sd:=d.mk' (Xo d.F Sc len λ_ _ _ _ _ _ hr=>⟨t,ht hr,λds S Q ex=>hp S Q ex ds⟩)
end
class Ev5 where
 P:Program
 w:World
 K:Fg
 mg:Str->Option Value
 base:Heap
abbrev Fkz [e:Ev5] (k:Nat)(x:Str)(ps:List Str)(sd:Sd):=Fk e.P e.w e.K e.mg e.base k x ps sd
abbrev Fmz [e:Ev5] (k:Nat)(C:Addr)(x:Str)(ps:List Str)(sd:Sd):=Fm e.P e.w e.K e.mg e.base k C x ps sd
abbrev Dfz [e:Ev5] (x:Str)(st:Stmt)(ps:List Str):=Df e.K e.mg x st ps
abbrev Dmz [e:Ev5] (C:Addr)(x q:Str)(st:Stmt)(ps:List Str):=Dm e.K C x q st ps
section
variable [e:Ev5]
def zem  (Jk:Dfz q98 Mh Q1):Fkz 1 q98 Q1 D2:=
 mkF Jk zcQ (λhr=>(Zf (ZD (Zy (ZO hr) (Zl Yp (dv 0) Zb) Zb (Zw _)) (Ze (Zn (Zl Z5 Zb (Zl Yp (Zl YV (dv 0) Zb) Zb)))) ZH) (Ze (Zn (Zl Z5 Zb (Zl Yp (Zl YV (dv 0) Zb) Zb)))))) λS Q ex=>by
  refine kI λc=>kN λh=>?_
  obtain⟨c0,h⟩:=h;refine ifD (λe=>?_) (λe=>?_)
  ·refine h _ ?_ ?_<;>lia
  ·refine h _ ?_ ?_<;>lia
def zhT  (JP:Dfz q45 NA UQ)(ZV:e.mg "len"=none):Fkz 1 q45 UQ Mp:=
 mkF JP Jy (λhr=>(Zf (Zt (i:=2) Jy.nd Zb) (Zf (ZD (Zy YK (dv 1) (ZR (ZY YW) rfl ZV Boot.«len» (Za (dv 0) Zd)) (Zw _)) (Ze (Zt (i:=2) Jy.nd (Zl Wf (ZI (dv 0) (dv 1)) (Zl Sg Zb Zb)))) ZH) (Ze (Zn (Zl Wf (Zl ZS (Zl Wf (Zl Z5 (Zl ZS (dv 2) Zb) (Zl ZS Zb (dv 1))) Zb) Zb) Zb)))))) λS Q ex=>by
  refine kR λn=>kI λk=>kN λh=>?_
  obtain⟨ns,hn,⟨k0,k1⟩,h⟩:=h;have aY:∀x:Int,(0<=x/\x<10^18)->IntMulOk x 48271/\IntMulOk 16807 k/\(0:Int)<2147483647/\IntMulOk ((x*48271+16807*k)%2147483647) 69621/\(0:Int)<2147483629/\Q (.int ((x*48271+16807*k)%2147483647*69621%2147483629)) S:=λx hx=>by
   have z1:Sz 80 x:=Sz.of (10^20) (by lia)
   have z2:Sz 80 k:=Sz.of (10^20) (by lia)
   have r:=X6 (a:=x*48271+16807*k) (b:=2147483647) (by decide);refine⟨ZN z1 (Sz.of (n:=80) (10^20) (by decide)),ZN (Sz.of (n:=80) (10^20) (by decide)) z2,by decide,ZN (Sz.of (n:=80) (10^20) (by lia)) (Sz.of (n:=80) (10^20) (by decide)),by decide,h _ ?_⟩;exact X6 (by decide)
  refine C9 hn ?_;rw[zB];refine ifD (λc=>?_) (λc=>?_)
  ·refine ZE (o:=.frz (ns.map D.int)) hn (zgt k0 c) ?_;have r:=X6 (a:=ns.getD k.toNat 0) (b:=10^Int.toNat 18) (by decide);exact⟨show (0:Int)<10^Int.toNat 18 by decide,aY _ r⟩
  ·exact aY 0 (by decide)
def zf3  (F3:Dfz Vk LG Pm)(YU:Fkz 1 q45 UQ Mp)(Z1:e.mg XY=none):Fkz 2 Vk Pm Bb:=
 mkF F3 WK (λhr=>(Zf (Zt (i:=2) WK.nd (Yi Zd)) (Zf (P9 (i:=3) PassesOwn.never rfl WK.nd rfl (Or.inl rfl) rfl Z1 (Za (dv 1) Zd) (Zf (Zt (i:=4) WK.nd (Zk YU hr (Za (dv 0) (Za (ZI (ZG (Za Zb (Za Zb (Za Zb (Za Zb Zd))))) (dv 3)) Zd)))) (Zf (Zt (i:=5) WK.nd (Zk YU hr (Za (dv 0) (Za (ZI (ZG (Za Zb (Za Zb (Za Zb (Za Zb Zd))))) (dv 3)) Zd)))) (Zf (ZD (Zy (ZO hr) (Zl Yp (dv 4) Zb) Zb (Zw _)) (Ze (Zt (i:=4) WK.nd (Zl Yt (Zl Wf (Zl ZS (Zl YV (dv 4) Zb) Zb) (Zl ZS Zb (Zl Sg Zb Zb))) (Zl Sg Zb Zb)))) (Ze (Zt (i:=4) WK.nd (Zl Yt (Zl Yp (Zl YV (dv 4) Zb) Zb) Zb)))) (Zf (ZD (PDW.pt (VY (Zy X0 (dv 3) Zb (Zw _)) (VX (Zy (ZO hr) (Zl Yp (dv 5) Zb) Zb (Zw _))))) (Ze (Zt (i:=5) WK.nd (Zl Yt (Zg (ZI (dv 2) Zb) Zb) (Zg (ZI (dv 2) Zb) Zb)))) (Ze (ZD (Zy (ZO hr) (Zl Yp (dv 5) Zb) Zb (Zw _)) (Ze (Zt (i:=5) WK.nd (Zl Wf (Zl ZS (Zl YV (dv 5) Zb) Zb) (Zl Sg Zb Zb)))) (Ze (Zt (i:=5) WK.nd (Zl Yp (Zl YV (dv 5) Zb) Zb)))))) (Ze (Ye (YI (dv 2) (ZG (Za (dv 4) (Za (Zl Z5 (dv 4) (dv 5)) Zd))))))))))) (Ze (Zn (dv 2)))))) λS Q ex=>by
  refine kR λn=>kI λu=>kN λh=>?_
  obtain⟨ns,q,hn,rfl,hq,h⟩:=h;have lt:=Z8 hn;refine⟨⟨by lia,by lia⟩,λk dl' S'=>k<=q/\∃bs:LI,bs.length=k/\(∀p∈bs,(-10^14<=p.1/\p.1<=10^14)/\0<=p.2-p.1/\p.2-p.1<10^14)/\S'=S++[.lst (bs.map frD)]/\∃u3 u4 u5:Option D,dl'=[some (.ref n),some (.int (q:Int)),some (.ref S.length),u3,u4,u5],⟨zK _,[],rfl,λp hp=>(nomatch hp),rfl,_,_,_,rfl⟩,?_⟩;rintro k dl' S' ⟨hk,bs,lb,ob,rfl,u3,u4,u5,rfl⟩;split
  ·rename_i c;have ck:k<q:=by rw[zN] at c;exact c
   have k4:k=0\/k=1\/k=2\/k=3:=by lia
   have hn':(S++[Ob.lst (bs.map frD)])[n]?=some (.frz (ns.map D.int)):=ZF hn;obtain⟨v1,e1,b1⟩:∃v:Int,([.int 5,.int 7,.int 44,.int 46]:List D)[k]?=some (.int v)/\0<=v/\v<=1000:=by
    rcases k4 with rfl|rfl|rfl|rfl
    ·exact⟨5,rfl,by decide⟩
    ·exact⟨7,rfl,by decide⟩
    ·exact⟨44,rfl,by decide⟩
    ·exact⟨46,rfl,by decide⟩
   obtain⟨v2,e2,b2⟩:∃v:Int,([.int 6,.int 8,.int 45,.int 47]:List D)[k]?=some (.int v)/\0<=v/\v<=1000:=by
    rcases k4 with rfl|rfl|rfl|rfl
    ·exact⟨6,rfl,by decide⟩
    ·exact⟨8,rfl,by decide⟩
    ·exact⟨45,rfl,by decide⟩
    ·exact⟨47,rfl,by decide⟩
   refine Px e1 ?_;refine⟨ns,hn',b1,λlo hlo=>?_⟩;refine Px e2 ?_;refine⟨ns,hn',b2,λwi hwi=>?_⟩;dsimp only;refine YX (λdl2 S2=>S2=S++[.lst (bs.map frD)]/\∃lo:Int,(-10^14<=lo/\lo<=10^14)/\dl2=[some (.ref n),some (.int (q:Int)),some (.ref S.length),some (.int (k:Int)),some (.int lo),some (.int wi)]) (λnx hx=>?_) ?_
   ·skip
    refine ifD (λ_=>?_) (λ_=>?_)
    ·have zl:Sz 80 (lo/9):=Sz.of (10^20) (by lia)
     have r:=X6 (a:=lo/9*900001) (b:=2*10^Int.toNat 14) (by decide);refine⟨ZN zl (Sz.of (n:=80) (10^20) (by decide)),ZN (m:=80) (n:=80) (Sz.of (10^20) (by decide)) (Sz.of (10^20) (by decide)),show (0:Int)<2*10^Int.toNat 14 by decide,?_⟩;have t14:(10:Int)^Int.toNat 14=10^14:=rfl;exact hx _ _ ⟨rfl,_,⟨by lia,by lia⟩,rfl⟩
    ·exact hx _ _ ⟨rfl,_,⟨by lia,by lia⟩,rfl⟩
   rintro dl2 S2 ⟨rfl,low,hlow,rfl⟩;refine YX (λdl2 S2=>S2=S++[.lst (bs.map frD)]/\∃wi:Int,(0<=wi/\wi<10^14)/\dl2=[some (.ref n),some (.int (q:Int)),some (.ref S.length),some (.int (k:Int)),some (.int low),some (.int wi)]) (λnx hx=>?_) ?_
   ·refine ifD (λc1=>?_) (λc1=>?_)
    ·refine ifD (λc2=>?_) (λc2=>?_)
     ·have h0:0<bs.length:=by lia
      have i0:inR ((bs.length:Nat):Int) (0:Int):=⟨by lia,by lia⟩
      have q0:=ob _ (Ko (vs:=bs) (i:=(0:Int)) i0);refine ZE (o:=.lst (bs.map frD)) (Zz _ _) (ZP i0) ?_;refine ZE (o:=.lst (bs.map frD)) (Zz _ _) (ZP i0) ?_;exact hx _ _ ⟨rfl,_,q0.2,rfl⟩
     ·skip
      refine ifD (λ_=>?_) (λ_=>?_)
      ·have zl:Sz 80 (wi/9):=Sz.of (10^20) (by lia)
       have r:=X6 (a:=wi/9*300007) (b:=10^Int.toNat 14) (by decide);refine⟨ZN zl (Sz.of (n:=80) (10^20) (by decide)),show (0:Int)<10^Int.toNat 14 by decide,?_⟩;exact hx _ _ ⟨rfl,_,r,rfl⟩
      ·exact hx _ _ ⟨rfl,_,⟨by lia,by lia⟩,rfl⟩
    ·skip
     refine ifD (λ_=>?_) (λ_=>?_)
     ·have zl:Sz 80 (wi/9):=Sz.of (10^20) (by lia)
      have r:=X6 (a:=wi/9*300007) (b:=10^Int.toNat 14) (by decide);refine⟨ZN zl (Sz.of (n:=80) (10^20) (by decide)),show (0:Int)<10^Int.toNat 14 by decide,?_⟩;exact hx _ _ ⟨rfl,_,r,rfl⟩
     ·exact hx _ _ ⟨rfl,_,⟨by lia,by lia⟩,rfl⟩
   rintro dl2 S2 ⟨rfl,wid,hwid,rfl⟩;refine YR (n:=S.length) (S1:=S++[.lst (bs.map frD)]) (xs:=bs.map frD) (y:=frD (low,low+wid)) kId (Zz _ _) kId (by rw[zB];lia) ?_;refine⟨by lia,bs++[(low,low+wid)],by simp[lb],λp hp=>?_,by rw[Vi,zY];rfl,_,_,_,rfl⟩;rcases zZ.mp hp with z|z
   ·exact ob p z
   ·cases zS.mp z;exact⟨hlow,by show 0<=low+wid-low;lia,by show low+wid-low<_;lia⟩
  ·rename_i c;have ek:k=q:=by rw[zN] at c;lia
   subst ek;refine h bs lb λp hp=>?_
   obtain⟨⟨p1,p2⟩,p3,p4⟩:=ob p hp;unfold Sz;exact⟨by lia,by lia,by lia⟩
def zfM  (F7:Dfz q96 N5 OV):Fkz 1 q96 OV CF:=
 mkF F7 Pc (λhr=>(Zf (Zt (i:=2) Pc.nd (Zl Yp (dv 0) Zb)) (Zf (Zt (i:=3) Pc.nd (Zl YV (dv 0) Zb)) (Zf (ZD (PDW.pt (VY (Zy (ZO hr) (dv 2) Zb (Zw _)) (VX (Zy (ZO hr) (Zl Yp (dv 3) Zb) Zb (Zw _))))) (Ze (Zn (ZG (Za ZW (Za (Zl Yt (Zl Wf (Zl YV (dv 3) Zb) Zb) Zb) (Za Zb Zd)))))) ZH) (Zf (ZD (Zy (ZO hr) (dv 2) Zb (Zw _)) (Ze (Zn (ZG (Za ZW (Za (Zl Yt (Zl Yp (Zl YV (dv 3) Zb) Zb) Zb) (Za Zb Zd)))))) ZH) (Zf (ZD (Zy (ZO hr) (dv 2) Zb (Zw _)) (Zf (Zt (i:=4) Pc.nd (Zl Z5 Zb (Zl Yp (dv 3) Zb))) (Ze (Zn (ZG (Za ZW (Za (Zl Z5 (Zl ZS (dv 4) (Zl Yt (Zl Yp (Zl YV (dv 3) Zb) Zb) Zb)) Zb) (Za (dv 4) Zd))))))) ZH) (Zf (ZD (Zy (ZO hr) (dv 2) Zb (Zw _)) (Ze (Zn (ZG (Za ZW (Za (Zl Wf (dv 3) (dv 1)) (Za (Zl Z5 Zb (Zl Yp (Zl Xw (dv 3) (dv 1)) Zb)) Zd)))))) ZH) (Zf (Zt (i:=5) Pc.nd (ZI (ZG (Za ZW (Za ZW (Za ZW (Za ZW Zd))))) (Zl Yt (dv 2) Zb))) (Ze (Zn (ZG (Za (dv 5) (Za (Zl Wf (dv 3) (dv 1)) (Za (Zl Wf (Zl Xw (dv 3) (dv 1)) (dv 1)) Zd)))))))))))))) λS Q ex=>by
  refine kI λc=>kI λm=>kN λh=>?_
  obtain⟨⟨c0,c1,m1,m60⟩,h⟩:=h;have zm:Sz 100 m:=Sz.of (10^20) (by lia)
  have r1:=X6 (a:=c/7) (b:=m) (by lia)
  have r2:=X6 (a:=c/7/m) (b:=m) (by lia)
  have two:∀w:Str,w="plus"\/w="minus"\/w="times"->Q (.tup [.str w,.int (c/7%m),.int (c/7/m%m)]) S:=λw hw=>by
   rcases hw with rfl|rfl|rfl
   ·exact h (.plus _ _) λq=>⟨r1,r2⟩
   ·exact h (.minus _ _) λq=>⟨r1,r2⟩
   ·exact h (.times _ _) λq=>⟨r1,r2⟩
  have num:∀t b:Int,1<=b->b<=10^9->Int.gcd t b=1->t.natAbs<=10^9->Q (.tup [.str "number",.int t,.int b]) S:=λt b a1 a2 a3 a4=>h (.number t b) λq=>⟨⟨a1,a2⟩,a3,a4⟩
  refine ifD (λe0=>?_) (λe0=>?_)
  ·refine ifD (λe1=>?_) (λe1=>?_)
   ·have r:=X6 (a:=c/7/5) (b:=1999999999) (by decide);exact⟨show (0:Int)<1999999999 by decide,num (c/7/5%1999999999-999999999) 1 (by decide) (by decide) (CA _) (by lia)⟩
   ·refine ifD (λ_=>?_) (λz=>absurd e0 z);exact num (c/7/5%41-20) 1 (by decide) (by decide) (CA _) (by lia)
  ·refine ifD (λz=>absurd z e0) (λ_=>?_);refine ifD (λe1=>?_) (λe1=>?_)
   ·have a1:0<=c/7%8/\c/7%8<8:=⟨by lia,by lia⟩
    have a2:0<=c/7/8%25/\c/7/8%25<25:=⟨by lia,by lia⟩
    have z1:Sz 10 (2+c/7%8):=Sz.of 1000 (by lia)
    have z2:Sz 10 (c/7/8%25-12):=Sz.of 1000 (by lia);refine⟨ZN z1 z2,num _ _ (by lia) (by lia) (zfX _ _) ?_⟩;have z3:=z1.mul z2;unfold Sz at z3;lia
   ·refine ifD (λe2=>?_) (λe2=>?_)
    ·exact⟨by lia,zm.fd (by lia),h (.power (c/7%m) (2+c/7/m%3)) λq=>⟨r1,by lia,by lia⟩⟩
    ·have e3:c%7=3\/c%7=4\/c%7=5\/c%7=6:=by lia
     rcases e3 with e|e|e|e
     ·exact Rf 0 (by lia) rfl ⟨by lia,zm.fd (by lia),by lia,two _ (.inl rfl)⟩
     ·exact Rf 1 (by lia) rfl ⟨by lia,zm.fd (by lia),by lia,two _ (.inr (.inl rfl))⟩
     ·exact Rf 2 (by lia) rfl ⟨by lia,zm.fd (by lia),by lia,two _ (.inr (.inr rfl))⟩
     ·exact Rf 3 (by lia) rfl ⟨by lia,zm.fd (by lia),by lia,two _ (.inr (.inr rfl))⟩
def zel  (J0:Dfz q59 LJ Se):Fkz 1 q59 Se JD:=
 mkF J0 zio (λhr=>(Zf (ZD (PDW.pt (UC (Zy (ZO hr) (Zg (dv 0) Zb) ZW (Zw _)) (OW (Zy (ZO hr) (Zg (dv 0) Zb) ZW (Zw _))))) (Ze (Zn Zb)) ZH) (Zf (ZD (Zy (ZO hr) (Zg (dv 0) Zb) ZW (Zw _)) (Ze (Zn (Zl ZS (ZI (dv 1) (Zg (dv 0) Zb)) (Zg (dv 0) Zb)))) ZH) (Ze (Zn (Zl Z5 (ZI (dv 1) (Zg (dv 0) Zb)) (ZI (dv 1) (Zg (dv 0) Zb)))))))) λS Q ex=>by
  refine kD λd=>kR λr=>kN λh=>?_
  obtain⟨v,ws,q,rfl,hl,ok,sm,h⟩:=h;cases v with
  | number t b=>exact h
  | unknown k=>exact h
  | power i n=>
   obtain⟨hi,n2,n6⟩:=ok;have b:=sm i hi;refine ZE (o:=.lst (ws.map wtD)) hl (V9 hi) ?_;refine⟨ZN (m:=400) (n:=400) (Sz.of (10^20) (by lia)) (Sz.of (10^20) (by lia)),?_⟩;have e:((ws.getD i.toNat 0:Nat):Int)*n=((Nd.wt ws (.power i n):Nat):Int):=by
    simp only[Nd.wt];rw[Int.natCast_mul];rw[Int.toNat_of_nonneg (by lia),Int.mul_comm]
   show Q (.int (((ws.getD i.toNat 0:Nat):Int)*n)) S;rw[e];exact h
  | plus i j=>
   refine ZE (o:=.lst (ws.map wtD)) hl (V9 ok.1) ?_;exact ZE (o:=.lst (ws.map wtD)) hl (V9 ok.2) h
  | minus i j=>
   refine ZE (o:=.lst (ws.map wtD)) hl (V9 ok.1) ?_;exact ZE (o:=.lst (ws.map wtD)) hl (V9 ok.2) h
  | times i j=>
   refine ZE (o:=.lst (ws.map wtD)) hl (V9 ok.1) ?_;exact ZE (o:=.lst (ws.map wtD)) hl (V9 ok.2) h
def zbB  (Iz:Dfz W3 Td Oo)(Rq:Fkz 1 q59 Se JD)(Hx:Fkz 1 q96 OV CF)(ZV:e.mg "len"=none)(Z1:e.mg XY=none):Fkz 2 W3 Oo EL:=
 mkF Iz TC (λhr=>(Zf (Gh (x:="_law_k") (N:=[]) (caps:=[]) (ar:=Zm Td) rfl rfl csc rfl (by decide) (i:=2) TC.nd rfl rfl rfl Z1 (Za (dv 1) Zd) (λ_ _ _ _ _ _=>Yr) (λ_ _ _ _ _ _=>(ZG (Za ZW (Za (dv 0) Zd))))) (Zf (Gh (x:="_law_k") (N:=[]) (caps:=[]) (ar:=Zm Td) rfl rfl csc rfl (by decide) (i:=3) TC.nd rfl rfl rfl Z1 (Za (dv 1) Zd) (λ_ _ _ _ _ _=>Yr) (λ_ _ _ _ _ _=>Zb)) (Zf (WD (i:=4) PassesOwn.never rfl TC.nd rfl (Or.inl rfl) (dv 0) (Zf (Zt (i:=5) TC.nd (Zk Hx hr (Za (dv 4) (Za (ZR (ZY YW) rfl ZV Boot.«len» (Za (dv 2) Zd)) Zd)))) (Zf (Zt (i:=6) TC.nd (Zk Rq hr (Za (dv 5) (Za (dv 3) Zd)))) (Ze (ZD (PDW.pt (VY (Zy RM (dv 6) Zb (Zw _)) (VX (Zy (BP hr) (dv 5) (dv 2) rfl)))) (Zf (Ye (YI (dv 2) (dv 5))) (Ze (Ye (YI (dv 3) (dv 6))))) ZH))))) (Ze (Zn (dv 2))))))) λS Q ex=>by
  refine kR λc=>kI λq=>kN λh=>?_
  obtain⟨cs,qn,hc,hint,rfl,hq,lc,h⟩:=h;refine Ic (j:=(qn:Nat)) (S1:=S) (λk=>.tup [.str "unknown",.int (k:Int)]) kId ⟨by lia,by lia⟩ (λk hk S2 K pr hK=>by exact hK) ?_;have e:((List.range ((qn:Nat):Int).toNat).map λ(k:Nat)=>D.tup [.str "unknown",.int (k:Int)])=((List.range qn).map λ(k:Nat)=>Nd.unknown (k:Int)).map Nd.d:=by
   rw[zX,zN];rfl
  rw[e];refine Ic (j:=(qn:Nat)) (S1:=S++[.lst (((List.range qn).map λ(k:Nat)=>Nd.unknown (k:Int)).map Nd.d)]) (λk=>.int 1) kId ⟨by lia,by lia⟩ (λk hk S2 K pr hK=>by exact hK) ?_;have e2:((List.range ((qn:Nat):Int).toNat).map λ(k:Nat)=>D.int 1)=((List.range qn).map λ_=>(1:Nat)).map wtD:=by
   rw[zX,zN];rfl
  rw[e2];have l1:(S++[Ob.lst (((List.range qn).map λ(k:Nat)=>Nd.unknown (k:Int)).map Nd.d)]).length=S.length+1:=by simp
  refine Vp (n:=c) (o:=.lst cs) (λk dl' S'=>k<=cs.length/\∃(ns:List Nd)(ws:List Nat),ZT qn ns ws/\1<=ns.length/\ns.length<=4+k/\Pre S S'/\S'[S.length]?=some (.lst (ns.map Nd.d))/\S'[S.length+1]?=some (.lst (ws.map wtD))/\∃u4 u5 u6:Option D,dl'=[some (.ref c),some (.int (qn:Nat)),some (.ref S.length),some (.ref (S.length+1)),u4,u5,u6]) ⟨zK _,_,_,zcT qn,by simp;lia,by simp;lia,Pre.refl.push.push,ZF (Zz _ _),by rw[<- l1];exact Zz _ _,_,_,_,by rw[<- l1];rfl⟩ (λk dl' S' z=>?_) ?_ ?_
  ·obtain⟨_,_,_,_,_,_,p,_⟩:=z;exact p _ _ hc
  ·rintro k x dl' S' nx ct ex' ⟨hk,ns,ws,net,n1,n4,pr',hS',hW',u4,u5,u6,rfl⟩ hn;have hk':=(zA.mp ex').1
   have hk'':k<cs.length:=hk';obtain⟨i,rfl,i0,i1⟩:=hint _ (zF ex');refine Xg hS' ?_;rw[zB];refine⟨⟨i0,i1,by lia,by lia⟩,λv ok=>?_⟩;have okw:v.ok ws.length (qn:Nat):=by rw[net.len];exact ok _
   refine⟨v,ws,_,rfl,hW',okw,λi hi=>(net.w1 (by rw[<- net.len];exact hi)).2,?_⟩;have on:=hn _ _ ⟨by lia,ns,ws,net,n1,by lia,pr',hS',hW',some (.int i),some v.d,some (.int (v.wt ws:Nat)),rfl⟩;refine ifD (λe1=>?_) (λe1=>on);refine zij hS' λb=>?_
   cases b with
   | false=>exact on
   | true=>
    refine YR (n:=S.length) (S1:=S') (xs:=ns.map Nd.d) (y:=v.d) kId hS' kId (by rw[zB];lia) ?_;have nmm:S.length≠S.length+1:=by lia
    refine YR (n:=S.length+1) (S1:=S'.set S.length (.lst (ns.map Nd.d++[v.d]))) (xs:=ws.map wtD) (y:=wtD (v.wt ws)) kId (Yg hW' nmm) kId (by rw[zB,net.len];lia) ?_;refine hn _ _ ⟨by lia,ns++[v],ws++[v.wt ws],net.snoc (ok _) (by lia),by simp,by simp;lia,Xz (Xz pr' (zC _)) (by lia),?_,?_,_,_,_,rfl⟩
    ·rw[zY];exact Yg (YE hS') (Ne.symm nmm)
    ·rw[zY];exact YE (Yg hW' nmm)
  ·rintro dl' S' ⟨hk,ns,ws,net,n1,n4,pr',hS',hW',u4,u5,u6,rfl⟩;exact h ns ws _ _ net n1 (by lia) pr' (zC _) hS'
def zga  (FH:Dfz q62 MO Q2)(VO:e.mg "abs"=none):Fkz 1 q62 Q2 Cc:=
 mkF FH Rl (λhr=>(Zf (Zt (i:=0) Rl.nd (ZR FK rfl VO Boot.«abs» (Za (dv 0) Zd))) (Zf (Zt (i:=1) Rl.nd (ZR FK rfl VO Boot.«abs» (Za (dv 1) Zd))) (Zf (E9 PassesOwn.never (Zy X0 (dv 1) Zb (Zw _)) (Zf (Zt (i:=2) Rl.nd (Zl Wf (dv 0) (dv 1))) (Zf (Zt (i:=0) Rl.nd (dv 1)) (Ze (Zt (i:=1) Rl.nd (dv 2)))))) (Ze (Zn (dv 0))))))) λS Q ex=>by
  refine kI λa=>kI λb=>kN λh=>?_
  refine⟨λm dl' S'=>S'=S/\∃(x y:Int)(o:Option D),dl'=[some (.int x),some (.int y),o]/\0<=x/\0<=y/\Int.gcd x y=Int.gcd a b/\m=y.toNat,⟨(W4 b).toNat,rfl,W4 a,W4 b,none,rfl,DV a,DV b,zaM a b,rfl⟩,?_⟩;rintro m dl' S' ⟨rfl,x,y,o,rfl,hx,hy,hg,rfl⟩;refine ifD (λc=>?_) (λc=>?_)
  ·exact⟨c,⟨(x%y).toNat,by have:=X6 (a:=x) c;lia,rfl,y,x%y,_,rfl,hy,(X6 (a:=x) c).1,(zhg x y).trans hg,rfl⟩⟩
  ·have hy0:y=0:=by lia
   subst hy0;have e:((Int.gcd a b:Nat):Int)=x:=by rw[<- hg,Int.gcd_zero_right];lia
   rw[e] at h;exact h
def zbH  (JB:Dfz q68 LS TV)(Z1:e.mg XY=none):Fkz 1 q68 TV Ib:=
 mkF JB NX (λhr=>(Zf (Zt (i:=2) NX.nd Zb) (Zf (P9 (i:=3) PassesOwn.never rfl NX.nd rfl (Or.inl rfl) rfl Z1 (Za (dv 1) Zd) (Ze (Zt (i:=2) NX.nd (Zl ZS (dv 2) (dv 0))))) (Ze (Zn (dv 2)))))) λS Q ex=>by
  refine kI λx=>kI λn=>kN λh=>?_
  obtain⟨⟨h0,h6,sx⟩,h⟩:=h;refine⟨⟨by lia,by lia⟩,λk dl' S'=>S'=S/\k<=n.toNat/\∃(z:Int)(o:Option D),z=x^k/\dl'=[some (.int x),some (.int n),some (.int z),o],⟨rfl,zK _,1,none,(Int.pow_zero x).symm,rfl⟩,?_⟩;rintro k dl' S' ⟨rfl,hk,z,o,rfl,rfl⟩;refine ite2 (λc=>?_) (λc=>?_)
  ·exact⟨ZN (m:=12001) (n:=2000) ((sx.pow k).mono (by lia)) sx,rfl,by lia,_,_,(xE x k).symm,rfl⟩
  ·have e:k=n.toNat:=by lia
   subst e;exact h
def zgA  (Io:Dfz q74 Mu Pw)(Vz:Fkz 1 q68 TV Ib):Fkz 2 q74 Pw BI:=
 mkF Io SH (λhr=>(Zf (Zt (i:=2) SH.nd (Yi Zd)) (Zf (WD (i:=3) PassesOwn.never rfl SH.nd rfl (Or.inl rfl) (dv 0) (Ze (ZD (Zy (ZO hr) (Zg (dv 3) Zb) ZW (Zw _)) (Ze (Ye (YI (dv 2) (ZG (Za (Zg (dv 3) Zb) (Za (Zg (dv 3) Zb) Zd)))))) (Ze (ZD (Zy (ZO hr) (Zg (dv 3) Zb) ZW (Zw _)) (Ze (Ye (YI (dv 2) (ZI (dv 1) (Zg (dv 3) Zb))))) (Ze (ZD (Zy (ZO hr) (Zg (dv 3) Zb) ZW (Zw _)) (Zf (Zt (i:=4) SH.nd (ZI (dv 2) (Zg (dv 3) Zb))) (Ze (Ye (YI (dv 2) (ZG (Za (Zk Vz hr (Za (Zg (dv 4) Zb) (Za (Zg (dv 3) Zb) Zd))) (Za (Zk Vz hr (Za (Zg (dv 4) Zb) (Za (Zg (dv 3) Zb) Zd))) Zd))))))) (Zf (Zt (i:=4) SH.nd (ZI (dv 2) (Zg (dv 3) Zb))) (Zf (Zt (i:=5) SH.nd (ZI (dv 2) (Zg (dv 3) Zb))) (Ze (ZD (Zy (ZO hr) (Zg (dv 3) Zb) ZW (Zw _)) (Ze (Ye (YI (dv 2) (ZG (Za (Zl ZS (Zg (dv 4) Zb) (Zg (dv 5) Zb)) (Za (Zl ZS (Zg (dv 4) Zb) (Zg (dv 5) Zb)) Zd)))))) (Ze (ZD (Zy (ZO hr) (Zg (dv 3) Zb) ZW (Zw _)) (Ze (Ye (YI (dv 2) (ZG (Za (Zl Z5 (Zl ZS (Zg (dv 4) Zb) (Zg (dv 5) Zb)) (Zl ZS (Zg (dv 5) Zb) (Zg (dv 4) Zb))) (Za (Zl ZS (Zg (dv 4) Zb) (Zg (dv 5) Zb)) Zd)))))) (Ze (Ye (YI (dv 2) (ZG (Za (Zl Yt (Zl ZS (Zg (dv 4) Zb) (Zg (dv 5) Zb)) (Zl ZS (Zg (dv 5) Zb) (Zg (dv 4) Zb))) (Za (Zl ZS (Zg (dv 4) Zb) (Zg (dv 5) Zb)) Zd))))))))))))))))))) (Ze (Zn (dv 2)))))) λS Q ex=>by
  refine kR λa=>kR λb=>kN λh=>?_
  obtain⟨ns,ws,ps,ha,hb,net,zp,hl,h⟩:=h;refine Vp (n:=a) (o:=.lst (ns.map Nd.d)) (λk dl' S'=>k<=ns.length/\Pre S S'/\S'[S.length]?=some (.lst ((ZQ ps (ns.take k)).map frD))/\∃u3 u4 u5:Option D,dl'=[some (.ref a),some (.ref b),some (.ref S.length),u3,u4,u5]) ⟨zK _,Pre.refl.push,Zz _ _,_,_,_,rfl⟩ (λk dl' S' z=>z.2.1 _ _ ha) ?_ ?_
  ·rintro k x dl' S' nx ct ex' ⟨hk,pr,hf,u3,u4,u5,rfl⟩ hn;have ex2:(ns.map Nd.d)[k]?=some x:=ex';rw[zE] at ex2;obtain⟨v,hv,rfl⟩:=zG.mp ex2;have hk':=(zA.mp hv).1
   have ln:(ZQ ps (ns.take k)).length=k:=by rw[Pe,zL];lia
   have okv:v.ok (ZQ ps (ns.take k)).length ps.length:=by rw[ln];exact(net.ok k v hv).1
   have pz:Pz 1800 (ZQ ps (ns.take k)):=Pz.of_w (CI net rfl zp k (by lia)) λj hj=>(net.w1 (i:=j) ⟨by lia,by lia⟩).2
   have aY:∀u3 u4 u5:Option D,nx [some (.ref a),some (.ref b),some (.ref S.length),u3,u4,u5] (S'.set S.length (.lst ((ZQ ps (ns.take k)).map frD++[frD (v.due (ZQ ps (ns.take k)) ps)]))):=λu3 u4 u5=>by
    refine hn _ _ ⟨by lia,Xz pr (zC _),?_,_,_,_,rfl⟩;rw[Y9 hv,Q9,zY];exact YE hf
   cases v with
   | number t d=>
    refine YR (n:=S.length) (S1:=S') (xs:=(ZQ ps (ns.take k)).map frD) (y:=frD (t,d)) kId hf kId (by rw[zB,ln];lia) ?_;exact aY _ _ _
   | unknown j=>
    refine YR (n:=S.length) (S1:=S') (xs:=(ZQ ps (ns.take k)).map frD) (y:=frD (gt ps j)) kId hf (λK hK=>ZE (o:=.lst (ps.map frD)) (pr _ _ hb) (ZP okv) hK) (by rw[zB,ln];lia) ?_;exact aY _ _ _
   | power i n=>
    obtain⟨ii,n2,n6⟩:=okv;have bi:=pz.at ii;refine ZE (o:=.lst ((ZQ ps (ns.take k)).map frD)) hf (ZP ii) ?_;refine YR (n:=S.length) (S1:=S') (xs:=(ZQ ps (ns.take k)).map frD) (y:=frD (Nd.due (ZQ ps (ns.take k)) ps (.power i n))) kId hf (λK hK=>by exact⟨⟨by lia,n6,bi.2.1.mono (by decide)⟩,⟨by lia,n6,bi.2.2.mono (by decide)⟩,hK⟩) (by rw[zB,ln];lia) ?_;exact aY _ _ _
   | times i j=>
    have ii:=okv.1
    have jj:=okv.2
    have bi:=pz.at ii
    have bj:=pz.at jj;refine ZE (o:=.lst ((ZQ ps (ns.take k)).map frD)) hf (ZP ii) ?_;refine ZE (o:=.lst ((ZQ ps (ns.take k)).map frD)) hf (ZP jj) ?_;refine YR (n:=S.length) (S1:=S') (xs:=(ZQ ps (ns.take k)).map frD) (y:=frD (Nd.due (ZQ ps (ns.take k)) ps (.times i j))) kId hf (λK hK=>by exact⟨ZN bi.2.1 bj.2.1,ZN bi.2.2 bj.2.2,hK⟩) (by rw[zB,ln];lia) ?_;exact aY _ _ _
   | plus i j=>
    have ii:=okv.1
    have jj:=okv.2
    have bi:=pz.at ii
    have bj:=pz.at jj;refine ZE (o:=.lst ((ZQ ps (ns.take k)).map frD)) hf (ZP ii) ?_;refine ZE (o:=.lst ((ZQ ps (ns.take k)).map frD)) hf (ZP jj) ?_;refine YR (n:=S.length) (S1:=S') (xs:=(ZQ ps (ns.take k)).map frD) (y:=frD (Nd.due (ZQ ps (ns.take k)) ps (.plus i j))) kId hf (λK hK=>by exact⟨ZN bi.2.1 bj.2.2,ZN bj.2.1 bi.2.2,ZN bi.2.2 bj.2.2,hK⟩) (by rw[zB,ln];lia) ?_;exact aY _ _ _
   | minus i j=>
    have ii:=okv.1
    have jj:=okv.2
    have bi:=pz.at ii
    have bj:=pz.at jj;refine ZE (o:=.lst ((ZQ ps (ns.take k)).map frD)) hf (ZP ii) ?_;refine ZE (o:=.lst ((ZQ ps (ns.take k)).map frD)) hf (ZP jj) ?_;refine YR (n:=S.length) (S1:=S') (xs:=(ZQ ps (ns.take k)).map frD) (y:=frD (Nd.due (ZQ ps (ns.take k)) ps (.minus i j))) kId hf (λK hK=>by exact⟨ZN bi.2.1 bj.2.2,ZN bj.2.1 bi.2.2,ZN bi.2.2 bj.2.2,hK⟩) (by rw[zB,ln];lia) ?_;exact aY _ _ _
  ·rintro dl' S' ⟨hk,pr,hf,u3,u4,u5,rfl⟩;have e:ns.take (Zv (.lst (ns.map Nd.d))).length=ns:=by
    show ns.take (ns.map Nd.d).length=ns;rw[zB,yF]
   rw[e] at hf;exact h _ _ pr (zC _) hf
def zff  (HN:Dfz WO NO Oa):Fkz 1 WO Oa Ah:=
 mkF HN zbk (λhr=>(Zf (ZD (Zy (BP hr) (dv 1) (dv 0) rfl) (Ze (Ye (YI (dv 0) (dv 1)))) ZH) (Ze (Zn (Ez (k:=1) hr (by decide) (dv 0) (Za (dv 1) Zd)))))) λS Q ex=>by
  refine kR λa=>kD λd=>kN λh=>?_
  obtain⟨q,v,ns,ws,rfl,ha,l9,net,ok,h16,h⟩:=h;have aY:∀(T:Sto)(j:Nat)(ns':List Nd)(ws':List Nat),Gr q a 1 S ns ws T ns' ws'->ns'[j]?=some v->Q (.int (j:Int)) T:=λT j ns' ws' gr hj=>by
   refine h T j ns' ws' gr (zA.mp hj).1 hj ?_ (zaw gr ok hj);rw[(gr.net.ok j v hj).2.1];exact zfz gr net ok
  obtain⟨o,e1,e2,e3⟩:=IC v ns;refine zdR (o:=o) ha e2 ?_;cases o with
  | some j=>
   refine YY ?_;refine Al (n:=a) (v:=v) (ns:=ns) kId kId ha e1 ?_;exact aY S j ns ws ((Gr.refl net ha).mono (by decide)) (e3 j rfl)
  | none=>
   refine Y4 ?_;refine YR (n:=a) (S1:=S) (xs:=ns.map Nd.d) (y:=v.d) kId ha kId (by rw[zB];lia) ?_;have hm:(S.set a (.lst (ns.map Nd.d++[v.d])))[a]?=some (.lst ((ns++[v]).map Nd.d)):=by
    rw[zY];exact YE ha
   obtain⟨o2,f1,f2,f3⟩:=IC v (ns++[v]);cases o2 with
   | none=>
    obtain⟨k,hk⟩:∃k,(ns++[v])[k]?=some v:=⟨ns.length,by simp⟩;exact absurd f2 (any_some hk)
   | some j=>
    refine Al (n:=a) (v:=v) (ns:=ns++[v]) kId kId hm f1 ?_;exact aY _ j (ns++[v]) (ws++[v.wt ws]) ⟨net.snoc ok h16,⟨[v],rfl,by simp⟩,⟨_,rfl⟩,hm,by simp,λx o hx e=>Yg e (Ne.symm hx)⟩ (f3 j rfl)
def ze7  (IL:Dfz q83 NB OU)(Rq:Fkz 1 q59 Se JD):Fkz 2 q83 OU EM:=
 mkF IL Gx (λhr=>(Zf (Zt (i:=1) Gx.nd (Yi Zd)) (Zf (WD (i:=2) PassesOwn.never rfl Gx.nd rfl (Or.inl rfl) (dv 0) (Ze (Ye (YI (dv 1) (Zk Rq hr (Za (dv 2) (Za (dv 1) Zd))))))) (Ze (Zn (dv 1)))))) λS Q ex=>by
  refine kR λa=>kN λh=>?_
  obtain⟨ns,ws,q,ha,net,l70,h⟩:=h;refine Vp (n:=a) (o:=.lst (ns.map Nd.d)) (λk dl' S'=>k<=ns.length/\Pre S S'/\S'[S.length]?=some (.lst ((ws.take k).map wtD))/\∃u:Option D,dl'=[some (.ref a),some (.ref S.length),u]) ⟨zK _,Pre.refl.push,Zz _ _,_,rfl⟩ (λk dl' S' z=>z.2.1 _ _ ha) ?_ ?_
  ·rintro k x dl' S' nx ct ex' ⟨hk,pr,hf,u,rfl⟩ hn;have ex2:(ns.map Nd.d)[k]?=some x:=ex';rw[zE] at ex2;obtain⟨v,hv,rfl⟩:=zG.mp ex2;have hk':=(zA.mp hv).1;obtain⟨okv,ew,sm⟩:=zf4 net hv;have ln:(ws.take k).length=k:=by rw[zL,net.len];lia
   refine YR (n:=S.length) (S1:=S') (xs:=(ws.take k).map wtD) (y:=wtD (ws.getD k 0)) kId hf (λK hK=>?_) (by rw[zB,ln];lia) ?_
   ·refine⟨v,ws.take k,q,rfl,hf,okv,sm,?_⟩;rw[ew];exact hK
   ·refine hn _ _ ⟨by lia,Xz pr (zC _),?_,_,rfl⟩;have ek:ws[k]?=some (ws.getD k 0):=by
     rw[zT,zD (by rw[net.len];lia)];rfl
    rw[Y9 ek,zY];exact YE hf
  ·rintro dl' S' ⟨hk,pr,hf,u,rfl⟩;have e:ws.take (Zv (.lst (ns.map Nd.d))).length=ws:=by
    show ws.take (ns.map Nd.d).length=ws;rw[zB,<- net.len,yF]
   rw[e] at hf;exact h _ pr hf
def zfr  (JN:Dfz WR Ng OQ)(Kp:Fkz 1 WO Oa Ah)(Er:Fkz 2 q83 OU EM)(Fu:Fkz 1 q62 Q2 Cc)(GG:Fkz 2 q74 Pw BI)(VO:e.mg "abs"=none)(ZV:e.mg "len"=none)(Yb:e.mg "min"=none):Fkz 3 WR OQ DE:=
 mkF JN WE (λhr=>(Zf (Zt (i:=5) WE.nd (Zl Yt (Zl Yt (ZR (ZY YW) rfl ZV Boot.«len» (Za (dv 0) Zd)) Zb) (Zl Wf (Zl YV (dv 3) Zb) (ZR (VA rfl) rfl Yb Boot.«min» (Za (ZR (ZY YW) rfl ZV Boot.«len» (Za (dv 0) Zd)) (Za Zb Zd)))))) (Zf (Zt (i:=6) WE.nd (ZI (ZG (Za ZW (Za ZW (Za ZW Zd)))) (Zl Yp (dv 3) Zb))) (Zf (Zt (i:=7) WE.nd (Yi Zd)) (Zf (WD (i:=8) PassesOwn.never rfl WE.nd rfl (Or.inl rfl) (dv 1) (Zf (Ye (YI (dv 7) (ZG (Za (Zl Z5 (Zg (dv 8) Zb) (Zl YV (Zl ZS (Zl Yt (Zg (dv 8) Zb) (Zg (dv 8) Zb)) (Zl Yp (dv 4) Zb)) Zb)) (Za (dv 2) Zd))))) (Ze (Zt (i:=4) WE.nd (Zl YV (dv 4) Zb))))) (Zf (Zt (i:=9) WE.nd (ZI (Zk GG hr (Za (W8 (dv 0) Vj (WS (Zl Z5 (dv 5) Zb))) (Za (dv 7) Zd))) (dv 5))) (Zf (Zt (i:=10) WE.nd (Zk Fu hr (Za (Zg (dv 9) Zb) (Za (Zg (dv 9) Zb) Zd)))) (Zf (Zt (i:=11) WE.nd (Zl Xw (Zg (dv 9) Zb) (dv 10))) (Zf (Zt (i:=12) WE.nd (Zl Xw (Zg (dv 9) Zb) (dv 10))) (Zf (ZD (PDW.pt (UC (Zy (ZO hr) (Zl Yp (Zl YV (dv 3) Zb) Zb) Zb (Zw _)) (UC (Zy Kr (ZR FK rfl VO Boot.«abs» (Za (dv 11) Zd)) (Zl Sg Zb Zb) (Zw _)) (UC (Zy Kr (dv 12) (Zl Sg Zb Zb) (Zw _)) (OW (Zy X0 (ZI (Zk Er hr (Za (dv 0) Zd)) (dv 5)) Zb (Zw _))))))) (Ze (Zn (ZG (Za (dv 6) (Za (dv 5) Zd))))) ZH) (Ze (Zn (ZG (Za (dv 6) (Za (Zk Kp hr (Za (dv 0) (Za (ZG (Za ZW (Za (dv 5) (Za (Zk Kp hr (Za (dv 0) (Za (ZG (Za ZW (Za (dv 11) (Za (dv 12) Zd)))) Zd))) Zd)))) Zd))) Zd))))))))))))))) λS Q ex=>by
  refine kR λa=>kR λb=>kI λg=>kI λc=>kI λpl=>kN λh=>?_
  obtain⟨q,ns,ws,bs,ha,hb,net,lb,q4,sb,hg,c0,p0,l60,h⟩:=h;have lt:=Z8 ha
  have lt2:=Z8 hb;obtain⟨zr,wz,ez⟩:∃(zero:Bool)(k:Nat),c%3=(k:Int)/\([.str "zero",.str "zero",.str "least"]:List D)[k]?=some (.str (if zero then "zero" else "least")):=by
   have:c%3=0\/c%3=1\/c%3=2:=by lia
   rcases this with e|e|e
   ·exact⟨true,0,e,rfl⟩
   ·exact⟨true,1,e,rfl⟩
   ·exact⟨false,2,e,rfl⟩
  refine YX (λdl2 S2=>S=S2/\∃k:Nat,k<ns.length/\dl2=[some (.ref a),some (.ref b),some (.int g),some (.int c),some (.int pl),some (.int (k:Int)),none,none,none,none,none,none,none]) (λnx hx=>?_) ?_
  ·refine Xg ha ?_;refine Xg ha ?_;rw[zB];have em:0<(if (4:Int)<(ns.length:Int) then 4 else (ns.length:Int))/\(if (4:Int)<(ns.length:Int) then 4 else (ns.length:Int))<=ns.length:=by split<;>lia
   have rm:=X6 (a:=c/3) em.1;refine⟨em.1,hx _ _ ⟨rfl,((ns.length:Int)-1-c/3%(if (4:Int)<(ns.length:Int) then 4 else (ns.length:Int))).toNat,by lia,?_⟩⟩;rw[Int.toNat_of_nonneg (by lia)];rfl
  rintro dl2 S2 ⟨rfl,at',lat,rfl⟩;refine YX (λdl2 S2=>S=S2/\dl2=[some (.ref a),some (.ref b),some (.int g),some (.int c),some (.int pl),some (.int (at':Int)),some (.str (if zr then "zero" else "least")),none,none,none,none,none,none]) (λnx hx=>?_) ?_
  ·exact Rf wz ez.1 ez.2 (hx _ _ ⟨rfl,rfl⟩)
  rintro dl2 S2 ⟨rfl,rfl⟩;refine FQ (λdl2 S2=>∃ps:LI,ps.length=bs.length/\Pz 110 ps/\S2=S++[.lst (ps.map frD)]/\∃x4 x8:Option D,dl2=[some (.ref a),some (.ref b),some (.int g),some (.int c),x4,some (.int (at':Int)),some (.str (if zr then "zero" else "least")),some (.ref S.length),x8,none,none,none,none]) (λnx hx=>?_) ?_
  ·refine Vp (n:=b) (o:=.lst (bs.map frD)) (λi dl' S'=>i<=bs.length/\∃(ps:LI)(pl:Int),ps.length=i/\Pz 110 ps/\0<=pl/\S'=S++[.lst (ps.map frD)]/\∃x8:Option D,dl'=[some (.ref a),some (.ref b),some (.int g),some (.int c),some (.int pl),some (.int (at':Int)),some (.str (if zr then "zero" else "least")),some (.ref S.length),x8,none,none,none,none]) ⟨zK _,[],pl,rfl,λp hp=>(nomatch hp),p0,rfl,_,rfl⟩ (λi dl' S' z=>?_) ?_ ?_
   ·obtain⟨_,_,_,_,_,_,rfl,_⟩:=z;exact ZF hb
   ·rintro i x dl' S' nx2 ct hx2 ⟨hi,ps,pl,lp,zp,pl0,rfl,x8,rfl⟩ hn;have hx3:(bs.map frD)[i]?=some x:=hx2;rw[zE] at hx3;obtain⟨s,hs,rfl⟩:=zG.mp hx3;have li:=(zA.mp hs).1;obtain⟨s1,s2,s3⟩:=sb s (zF hs);have z1:Sz 53 (s.2-s.1):=by unfold Sz at *;lia
    have z2:Sz 5 (pl%9):=Sz.of 16 (by lia)
    have z3:=(z1.mul z2).div (j:=8) (by decide);refine YR (n:=S.length) (S1:=S++[.lst (ps.map frD)]) (xs:=ps.map frD) (y:=frD (s.1+(s.2-s.1)*(pl%9)/8,g)) kId (Zz _ _) (λK hK=>⟨ZN z1 z2,hK⟩) (by rw[zB];lia) ?_;refine hn _ _ ⟨by lia,ps++[(s.1+(s.2-s.1)*(pl%9)/8,g)],pl/9,by simp[lp],λp hp=>?_,by lia,by rw[Vi,zY];rfl,_,rfl⟩;rcases zZ.mp hp with z|z
    ·exact zp p z
    ·cases zS.mp z;unfold Sz at *
     refine⟨hg.1,?_,?_⟩
     ·show (s.1+(s.2-s.1)*(pl%9)/8).natAbs<_;lia
     ·show g.natAbs<_;lia
   ·rintro dl' S' ⟨hi,ps,pl,lp,zp,pl0,rfl,x8,rfl⟩;refine hx _ _ ⟨ps,?_,zp,rfl,_,_,rfl⟩;rw[lp];exact zB ..
  rintro dl2 S2 ⟨ps,lp,zp,rfl,x4,x8,rfl⟩;have at7:=Zz S (.lst (ps.map frD));refine WU (n:=a) (o:=.lst (ns.map Nd.d)) (lo:=none) (hi:=some ((at':Int)+1)) (S3:=S++[.lst (ps.map frD)]) kId kId kId (ZF ha) ?_;have ec:Yd (ns.map Nd.d) none (some ((at':Int)+1))=(ns.take (at'+1)).map Nd.d:=by
   rw[OJ (by lia) (by rw[zB];lia),xF];rfl
  rw[show Zv (Ob.lst (ns.map Nd.d))=ns.map Nd.d from rfl,ec];have netP:ZT ((ps.length:Nat):Int) ns ws:=by rw[lp,lb];exact net
  refine⟨ns.take (at'+1),ws.take (at'+1),ps,Zz _ _,ZF at7,netP.take _,zp,by rw[zL];lia,λT m pr lm hf=>?_⟩;have prS:Pre S T:=λn o e=>pr n o (ZF (ZF e))
  have l1:(ZQ ps (ns.take (at'+1))).length=at'+1:=by rw[Pe,zL];lia
  have ik:inR (((ZQ ps (ns.take (at'+1))).length:Nat):Int) (at':Int):=⟨by lia,by lia⟩
  have pz:Pz 1800 (ZQ ps (ns.take (at'+1))):=Pz.of_w (CI netP rfl zp (at'+1) (by lia)) λj hj=>(net.w1 (i:=j) ⟨by lia,by lia⟩).2
  obtain⟨d1,d2,d3⟩:=pz.at ik;refine ZE (o:=.lst ((ZQ ps (ns.take (at'+1))).map frD)) hf (ZP ik) ?_;generalize gt (ZQ ps (ns.take (at'+1))) (at':Int)=d at d1 d2 d3;have gp:0<Int.gcd d.1 d.2:=Int.gcd_pos_of_ne_zero_right _ (by lia)
  have g1:((Int.gcd d.1 d.2:Nat):Int) ∣ d.2:=Int.gcd_dvd_right ..
  have gl:((Int.gcd d.1 d.2:Nat):Int)<=d.2:=Int.le_of_dvd (by lia) g1
  have zg:Sz 1800 ((Int.gcd d.1 d.2:Nat):Int):=by unfold Sz at *;lia
  have cop:=Int.gcd_ediv_gcd_ediv_gcd gp
  have bp:1<=d.2/((Int.gcd d.1 d.2:Nat):Int):=by
   have:=Int.ediv_mul_cancel g1;by_cases z:1<=d.2/((Int.gcd d.1 d.2:Nat):Int)
   ·exact z
   ·have w:=Int.mul_le_mul_of_nonneg_right (show d.2/((Int.gcd d.1 d.2:Nat):Int)<=0 by lia) (show (0:Int)<=((Int.gcd d.1 d.2:Nat):Int) by lia);lia
  refine⟨zg.fd (by lia),zg.fd (by lia),?_⟩;generalize ((Int.gcd d.1 d.2:Nat):Int)=s at cop bp;have t9:(10:Int)^Int.toNat 9=10^9:=rfl
  have ret:∀T:Sto,Pre S T->Q (rwD (zr,at')) T:=λT p=>h T ns ws (zr,at') ((Gr.pre net ha p (Xv p)).mono (by lia)) lat
  refine ifD (λ_=>ret T prS) (λ_=>?_);refine ifD (λ_=>ret T prS) (λc2=>?_);refine ifD (λ_=>ret T prS) (λc3=>?_);refine⟨ns,ws,q,prS _ _ ha,net,by lia,λT2 p2 h2=>?_⟩;have P2:Pre S T2:=λn o e=>p2 n o (prS _ _ e)
  refine ZE (o:=.lst (ws.map wtD)) h2 (V9 (i:=(at':Int)) ⟨by lia,by rw[net.len];lia⟩) ?_;refine ifD (λ_=>ret T2 P2) (λc4=>?_);rw[zN] at c4;have a2:(d.1/s).natAbs<=10^9:=by
   unfold W4 at c2;split at c2<;>lia
  have g0:=Gr.pre net ha P2 (Xv P2);refine⟨q,.number (d.1/s) (d.2/s),ns,ws,rfl,g0.nd,by lia,net,⟨⟨bp,by lia⟩,cop,a2⟩,show 1<=16 by decide,λT3 j ns3 ws3 gr3 lj hj wj dj=>?_⟩;have ln3:=gr3.ln
  have w1:=gr3.wt net lat
  have wj1:ws3.getD j 0=1:=wj;refine⟨q,.minus at' j,ns3,ws3,rfl,gr3.nd,by lia,gr3.net,⟨⟨by lia,by lia⟩,by lia,by lia⟩,?_,λT4 j4 ns4 ws4 gr4 lj4 _ _ _=>?_⟩
  ·simp only[Nd.wt,zN];lia
  ·exact h T4 ns4 ws4 (zr,j4) (((g0.trans gr3).trans gr4).mono (by lia)) lj4
def zhS  (Fq:Dfz q97 LO OZ)(Hu:Fkz 3 WR OQ DE)(YU:Fkz 1 q45 UQ Mp)(Z1:e.mg XY=none):Fkz 4 q97 OZ BG:=
 mkF Fq UI (λhr=>(Zf (Zt (i:=4) UI.nd (Yi Zd)) (Zf (Zt (i:=5) UI.nd (Zl Yp (Zk YU hr (Za (dv 0) (Za Zb Zd))) Zb)) (Zf (ZD (Zy X0 (dv 5) Zb (Zw _)) (Ze (Zt (i:=5) UI.nd (Zl Z5 Zb (Zl Yp (dv 5) Zb)))) ZH) (Zf (P9 (i:=6) PassesOwn.never rfl UI.nd rfl (Or.inl rfl) rfl Z1 (Za (dv 5) Zd) (Zf (Zt (i:=7) UI.nd (Zl YV (Zk YU hr (Za (dv 0) (Za Zb Zd))) Zb)) (Zf (ZD (Zy (ZO hr) (Zl Yp (Zl YV (Zk YU hr (Za (dv 0) (Za Zb Zd))) Zb) Zb) Zb (Zw _)) (Ze (Zt (i:=7) UI.nd (Zl YV (Zk YU hr (Za (dv 0) (Za (Zl Z5 Zb (dv 6)) Zd))) Zb))) ZH) (Ze (Ye (YI (dv 4) (Zk Hu hr (Za (dv 1) (Za (dv 2) (Za (dv 3) (Za (Zk YU hr (Za (dv 0) (Za (Zl Z5 Zb (dv 6)) Zd))) (Za (dv 7) Zd)))))))))))) (Ze (Zn (dv 4)))))))) λS Q ex=>by
  refine kR λn=>kR λa=>kR λb=>kI λg=>kN λh=>?_
  obtain⟨q,xs,ns,ws,bs,hn,ha,hb,nab,net,lb,q4,sb,hg,l50,h⟩:=h;have lt:=Z8 ha
  have na:n≠a:=λe=>by rw[e,ha] at hn;cases hn
  have g0:=Gr.push net ha [.lst []]
  have at0:=Zz S (.lst []);refine FQ (λdl2 S2=>S2=S++[.lst []]/\∃k:Int,(0<=k/\k<8)/\dl2=[some (.ref n),some (.ref a),some (.ref b),some (.int g),some (.ref S.length),some (.int k),none,none]) (λnx hx=>?_) ?_
  ·refine⟨xs,ZF hn,⟨by decide,by decide⟩,λc hc=>?_⟩;exact hx _ _ ⟨rfl,_,⟨by lia,by lia⟩,rfl⟩
  rintro dl2 S2 ⟨rfl,k0,hk0,rfl⟩;refine YX (λdl2 S2=>S2=S++[.lst []]/\∃k:Nat,k<=3/\dl2=[some (.ref n),some (.ref a),some (.ref b),some (.int g),some (.ref S.length),some (.int (k:Int)),none,none]) (λnx hx=>?_) ?_
  ·refine ifD (λc=>?_) (λc=>?_)
   ·refine hx _ _ ⟨rfl,(1+k0%3).toNat,by lia,?_⟩;rw[Int.toNat_of_nonneg (by lia)];rfl
   ·refine hx _ _ ⟨rfl,k0.toNat,by lia,?_⟩;rw[Int.toNat_of_nonneg (by lia)]
  rintro dl2 S2 ⟨rfl,many,hm,rfl⟩;refine⟨⟨by lia,by lia⟩,λk dl' S'=>k<=many/\∃(ns':List Nd)(ws':List Nat)(rows:List (Bool×Nat)),Gr q a (2*k) S ns ws S' ns' ws'/\rows.length=k/\(∀r∈rows,r.2<ns'.length)/\S'[S.length]?=some (.lst (rows.map rwD))/\∃u6 u7:Option D,dl'=[some (.ref n),some (.ref a),some (.ref b),some (.int g),some (.ref S.length),some (.int (many:Int)),u6,u7],⟨zK _,ns,ws,[],g0,rfl,λr hr=>(nomatch hr),at0,_,_,rfl⟩,?_⟩;rintro k dl' S' ⟨hk,ns',ws',rows,gr,lr,ri,hr,u6,u7,rfl⟩;have gl:=gr.ln;split
  ·rename_i c;have ck:k<many:=by rw[zN] at c;exact c
   have hn':=gr.kp _ _ na hn
   have hb':=gr.kp _ _ (Ne.symm nab) hb;refine YX (λdl2 S2=>S'=S2/\∃p:Int,0<=p/\dl2=[some (.ref n),some (.ref a),some (.ref b),some (.int g),some (.ref S.length),some (.int (many:Int)),some (.int (k:Int)),some (.int p)]) (λnx hx=>?_) ?_
   ·refine⟨xs,hn',⟨by decide,by decide⟩,λc1 hc1=>?_⟩;exact hx _ _ ⟨rfl,c1/97,by lia,rfl⟩
   rintro dl2 S2 ⟨rfl,pp,pp0,rfl⟩;refine YX (λdl2 S2=>S'=S2/\∃p:Int,0<=p/\dl2=[some (.ref n),some (.ref a),some (.ref b),some (.int g),some (.ref S.length),some (.int (many:Int)),some (.int (k:Int)),some (.int p)]) (λnx hx=>?_) ?_
   ·refine⟨xs,hn',⟨by decide,by decide⟩,λc2 hc2=>?_⟩;refine ifD (λ_=>?_) (λ_=>?_)
    ·refine⟨xs,hn',⟨by lia,by lia⟩,λc3 hc3=>?_⟩;exact hx _ _ ⟨rfl,c3/97,by lia,rfl⟩
    ·exact hx _ _ ⟨rfl,pp,pp0,rfl⟩
   rintro dl2 S2 ⟨rfl,p,p0,rfl⟩;refine zca (n:=S.length) (S1:=S') (xs:=rows.map rwD) (λy T=>∃(ns2:List Nd)(ws2:List Nat)(r:Bool×Nat),y=rwD r/\Gr q a 2 S' ns' ws' T ns2 ws2/\r.2<ns2.length) kId hr (λK hK=>?_) (λy T z=>?_) (by rw[zB];lia) λy T z=>?_
   ·refine⟨xs,hn',⟨by lia,by lia⟩,λc4 hc4=>?_⟩;exact⟨q,ns',ws',bs,gr.nd,hb',gr.net,lb,q4,sb,hg,hc4.1,p0,⟨by lia,by lia⟩,λT ns2 ws2 r g2 lr2=>hK _ _ ⟨ns2,ws2,r,rfl,g2,lr2⟩⟩
   ·obtain⟨ns2,ws2,r,rfl,g2,lr2⟩:=z;exact g2.kp _ _ (by lia) hr
   ·obtain⟨ns2,ws2,r,rfl,g2,lr2⟩:=z;have gl2:=g2.ln;refine⟨by lia,ns2,ws2,rows++[r],((gr.trans g2).put (n:=S.length) (by lia) (zC _)).mono (by lia),by simp[lr],λx hx=>?_,?_,_,_,rfl⟩
    ·rcases zZ.mp hx with z|z
     ·have:=ri x z;lia
     ·cases zS.mp z;exact lr2
    ·rw[zY];exact YE (g2.kp _ _ (by lia) hr)
  ·rename_i c;have ek:k=many:=by rw[zN] at c;lia
   exact h S' S.length ns' ws' rows (gr.mono (by lia)) (by lia) ri (zC _) hr
def zc1  (Zs:Wu e.K e.mg)(Ga:Dmz Zs.C q2 Oi M4 RR)(Xb:e.mg "list"=none):Fmz 1 Zs.C q2 RR (DT Zs.C):=
 mkM Ga zaO (λhr=>(Zf (XI Zs.cl Zs.n_boxes (dv 0) (Yi (Za (S6 (ZY TX) rfl Xb Boot.«list» (Za (dv 1) Zd)) Zd))) (Ze (XI Zs.cl Zs.n_fates (dv 0) (Yi (Za ZX Zd)))))) λS Q ex=>by
  refine kR λn=>kR λx=>kN λh=>?_
  obtain⟨T,b0,rfl,rfl,hx,h⟩:=h;refine XX (v:=.ref (T.length+2)) (S1:=T++[Ob.ins Zs.C [],.lst (b0.map frD),.lst [.ref (T.length+1)]]) (S2:=T++[Ob.ins Zs.C [],.lst (b0.map frD),.lst [.ref (T.length+1)]]) (n:=T.length) (fs:=[]) (λK hK=>?_) kId (XD ..) (by simp) ?_
  ·refine TU (ZZ (ZF hx) rfl) ?_;show (if ([D.ref (T++[Ob.ins Zs.C []]).length]:List D).length<=1000 then K (.ref (T++[Ob.ins Zs.C []]++[Ob.lst (b0.map frD)]).length) (T++[Ob.ins Zs.C []]++[Ob.lst (b0.map frD)]++[.lst [D.ref (T++[Ob.ins Zs.C []]).length]]) else False);rw[if_pos (by simp)];simpa using hK
  rw[XG];refine XX (v:=.ref (T.length+3)) (S1:=T++[Ob.ins Zs.C [("boxes",.ref (T.length+2))],.lst (b0.map frD),.lst [.ref (T.length+1)],.lst [.non]]) (S2:=T++[Ob.ins Zs.C [("boxes",.ref (T.length+2))],.lst (b0.map frD),.lst [.ref (T.length+1)],.lst [.non]]) (n:=T.length) (fs:=[("boxes",.ref (T.length+2))]) (λK hK=>?_) kId (XD ..) (by simp) ?_
  ·show (if ([D.non]:List D).length<=1000 then K (.ref (T++[Ob.ins Zs.C [("boxes",.ref (T.length+2))],.lst (b0.map frD),.lst [.ref (T.length+1)]]).length) (T++[Ob.ins Zs.C [("boxes",.ref (T.length+2))],.lst (b0.map frD),.lst [.ref (T.length+1)]]++[.lst [.non]]) else False);rw[if_pos (by decide)];simpa using hK
  rw[XG];refine h _ (T.length+2) (T.length+3) (by lia) (by lia) (λi o e=>ZF e) ⟨XD ..,⟨[.ref (T.length+1)],by simp,rfl,λi e he=>?_⟩,⟨[.non],by simp,rfl,λi f hf=>?_⟩,by lia,rfl⟩
  ·match i,he with
   | 0,he=>cases he;exact⟨T.length+1,rfl,by lia,by lia,by simp⟩
  ·match i,hf with
   | 0,hf=>cases hf;exact⟨.non,rfl,rfl⟩
def zg2  (Zs:Wu e.K e.mg)(Ik:Dmz Zs.C Vf Oc Qw QC)(YB:e.mg "zip"=none):Fmz 1 Zs.C Vf QC (BZ Zs.C):=
 mkM Ik zbG (λhr=>(Ze (Zn (OD (x1:="box") (x2:="fate") (N:=[]) (caps:=[]) (ar:=Zm Qw) rfl rfl XM rfl rfl rfl (by decide) rfl YB Boot.«zip» (Za (ZM Zs.cl Zs.n_boxes (dv 0)) (Za (ZM Zs.cl Zs.n_fates (dv 0)) Zd)) (λ_ _ _ _ _ _=>(ZG (Za (dv 0) (Za (XH (Zy YH (dv 1) ZX (Zw _)) (ZG (Za ZW Zd)) (dv 1)) Zd)))))))) λS Q ex=>by
  refine kR λn=>kN λh=>?_
  obtain⟨a,b,es,fs,B,l9,h⟩:=h;obtain⟨bs,h1,h2,_⟩:=B.bx;obtain⟨ds,k1,k2,k3⟩:=B.ft;refine Tg (n:=a) (n':=b) (S1:=S) (xs:=bs) (ys:=ds) DI (λK hK=>?_) h1 k1 (by lia) (λk x y hx hy S2 K pr hK=>?_) ?_
  ·exact ZL (n:=n) kId B.ins rfl (ZL (n:=n) kId B.ins rfl hK)
  ·cases y<;>exact hK
  ·exact h _ _ Pre.refl.push (Zz _ _) (B.told h1 k1 _)
def zfB  (Jz:Dfz XN LR R6):Fkz 1 XN R6 DZ:=
 mkF Jz zad (λhr=>(Ze (Zn (Zl Yt (Zg (dv 0) Zb) (Zg (dv 0) Zb))))) λS Q ex=>by
  refine kP λ_ _=>kN λh=>?_
  exact h
def zcY  (Ee:Dfz X5 RJ UP)(K8:Fkz 1 XN R6 DZ):Fkz 2 X5 UP Ld:=
 mkF Ee zdJ (λhr=>(Ze (Zn (XQ (x:="span") (N:=[]) (caps:=[]) (ar:=Zm RJ) rfl rfl csc rfl (by decide) (dv 0) (λ_ _ _ _ _ _=>Yr) (λ_ _ _ _ _ _=>(Zk K8 hr (Za (dv 0) Zd))))))) λS Q ex=>by
  refine kR λs=>kN λh=>?_
  obtain⟨vs,hs,l9,h⟩:=h;refine WH (n:=s) (S1:=S) (o:=.lst (vs.map frD)) (λd=>match d with|.tup [.int a,.int b]=>.int (b-a)|_=>.non) kId hs (by show (vs.map frD).length<=1000;rw[zB];lia) (λx hx S2 K pr hK=>?_) ?_
  ·have hx':x∈vs.map frD:=hx;obtain⟨p,_,rfl⟩:=zO.mp hx';exact hK
  ·have e2:(Zv (.lst (vs.map frD))).map (λd=>match d with|.tup [.int a,.int b]=>.int (b-a)|_=>.non)=(vs.map wd).map D.int:=by
    show (vs.map frD).map _=_;rw[zX,zX];rfl
   rw[e2];exact h
def zdw  (Ef:Dfz Wa LF UJ)(Vc:Fkz 2 X5 UP Ld)(Z2:e.mg "max"=none):Fkz 3 Wa UJ O9:=
 mkF Ef zdp (λhr=>(Ze (Zn (AE rfl rfl Z2 Boot.«max» (Zk Vc hr (Za (dv 0) Zd)) Zb)))) λS Q ex=>by
  refine kR λn=>kN λh=>?_
  obtain⟨bs,hb,l9,h⟩:=h;refine zdB (n:=S.length) (S1:=S++[.lst ((bs.map wd).map D.int)]) (S2:=S++[.lst ((bs.map wd).map D.int)]) (zs:=bs.map wd) (e:=.int 0) (λK hK=>⟨bs,hb,l9,hK⟩) kId (Zz _ _) (λe=>?_) λm hm hx=>?_
  ·exact h 0 _ Pre.refl.push ⟨λp hp=>(by rw[List.map_eq_nil_iff.mp e] at hp;exact(nomatch hp)),.inl ⟨List.map_eq_nil_iff.mp e,rfl⟩⟩
  ·obtain⟨p,hp,rfl⟩:=zO.mp hm;exact h _ _ Pre.refl.push ⟨λq hq=>hx _ (zO.mpr ⟨q,hq,rfl⟩),.inr ⟨p,hp,rfl⟩⟩
def zey (Zs:Wu e.K e.mg)(Ra:Dmz Zs.C V6 Py SG RA)(LM_Book_to_look_at:Lm e.K e.mg e.base Ra.fd LT)(VT:Fkz 3 Wa UJ O9)(Z2:e.mg "max"=none)(Z6:e.mg q70=none):Fmz 6 Zs.C V6 RA (Ji Zs.C):=
 Ra.mk' (zfb (k:=5) Ra.F DH (λ_ _ _ _=>nR λ_=>nN:Ln (Ji Zs.C) 1) LM_Book_to_look_at.code λA outer s H E hr=>⟨_,(Zf (zbQ (x1:="number") (x2:="fate") (N:=[]) (caps:=[]) (ar:=Zm SG) rfl rfl XM rfl rfl rfl (by decide) (i:=1) DH.nd rfl rfl rfl Z6 Boot.«enumerate» (Za (ZM Zs.cl Zs.n_fates (dv 0)) Zd) (λ_ _ _ _ _ _=>Nb (Zy YH (dv 1) ZX (Zw _))) (λ_ _ _ _ _ _=>(dv 0))) (Ze (Zn (zgS (x:="number") (N:=["self"]) (caps:=[0]) (ar:=Zm SG) (P:=LT) (q:=LQ) rfl rfl lsc rfl rfl Z2 Boot.«max» (zfN (j:=0) hr) rfl LM_Book_to_look_at.hd LM_Book_to_look_at.bm LM_Book_to_look_at.kn rfl (dv 1) (λ_ _ _ L _ _=>have hr:=zc9 (j:=3) hr (Lr _ _ L _ _ _);(Zk VT hr (Za (ZI (ZM Zs.cl Zs.n_boxes (dv 1)) (dv 0)) Zd))))))),λds S Q ex h=>by
  replace h:=eR h;obtain⟨n,rfl,h⟩:=h;obtain⟨a,b,t,es,fs,B,ht,l9,le,h0,hi⟩:=h;obtain⟨ds,k1,k2,k3⟩:=B.ft;have lf:=B.len
  have tb:t≠b:=λe=>by rw[e,k1] at ht;cases ht
  refine Ba (n:=b) (S1:=S) (xs:=ds) (λk ys S2=>S2=S++[.lst ys]/\ys.length<=k/\(∀y∈ys,∃i:Nat,fs[i]?=some .wait/\y=.int (i:Int))/\(ys=[]->∀i:Nat,i<k->fs[i]?≠some .wait)) (λk x=>match x with|.non=>true|_=>false) (λK hK=>by exact ZL (n:=n) kId B.ins rfl hK) k1 (λk ys S2 w=>by obtain⟨rfl,w2,_⟩:=w;exact⟨ZF k1,Zz _ _,w2⟩) (by lia) ⟨rfl,zC _,λy hy=>(nomatch hy),λ_ i hi=>absurd hi (by lia)⟩ ?_ ?_ ?_ ?_
  ·intro k x ys S2 K hx w hK;obtain⟨f,hf⟩:∃f,fs[k]?=some f:=⟨_,zD (show k<fs.length by have:=(zA.mp hx).1;lia)⟩;obtain⟨d,hd,o⟩:=k3 k f hf;rw[hx] at hd;cases hd;cases f with
   | wait=>cases o;exact hK
   | small=>cases o;exact hK
   | one=>obtain⟨_,_,_,_,_,rfl⟩:=o;exact hK
   | cut _ _ _ _=>cases o;exact hK
   | out _ _=>obtain⟨_,rfl,_⟩:=o;exact hK
   | full _=>obtain⟨_,rfl,_⟩:=o;exact hK
  ·rintro k x ys S2 hx hb ⟨rfl,w2,w3,w4⟩;refine⟨rfl,by lia,w3,λe i hi=>?_⟩;by_cases c:i=k
   ·subst c;intro z;obtain⟨d,hd,o⟩:=k3 i _ z;rw[hx] at hd;cases hd;cases o;cases hb
   ·exact w4 e i (by lia)
  ·rintro k x ys S2 K hx hb ⟨rfl,w2,w3,w4⟩ hK;obtain⟨f,hf⟩:∃f,fs[k]?=some f:=⟨_,zD (show k<fs.length by have:=(zA.mp hx).1;lia)⟩;have ew:f=.wait:=by
    obtain⟨d,hd,o⟩:=k3 k f hf;rw[hx] at hd;cases hd;cases f with
    | wait=>rfl
    | small=>cases o;cases hb
    | one=>obtain⟨_,_,_,_,_,rfl⟩:=o;cases hb
    | cut _ _ _ _=>cases o;cases hb
    | out _ _=>obtain⟨_,rfl,_⟩:=o;cases hb
    | full _=>obtain⟨_,rfl,_⟩:=o;cases hb
   subst ew;refine hK _ _ (Zz _ _) ⟨by rw[Vi],by simp;lia,λy hy=>?_,λe=>absurd e (by simp)⟩;rcases zZ.mp hy with z|z
   ·exact w3 y z
   ·cases zS.mp z;exact⟨k,hf,rfl⟩
  ·rintro ys S2 ⟨rfl,w2,w3,w4⟩;refine zeP (n:=S.length) (t:=t) (S1:=S++[.lst ys]) (xs:=ys) kId (ZF ht) (Zz _ _) (λe=>?_) (λv S3 K hv p hK=>?_) λv S3 hv p=>?_
   ·refine h0 (λf hf z=>?_) _ Pre.refl.push;obtain⟨i,hi'⟩:=List.mem_iff_getElem?.mp hf;subst z;exact w4 e i (by rw[k2];exact(zA.mp hi').1) hi'
   ·obtain⟨i,hf,rfl⟩:=w3 v hv;have li:=(zA.mp hf).1
    have B3:=(B.pre (T:=S++[.lst ys]) Pre.refl.push).pre p
    have he:=zD (show i<es.length by lia);obtain⟨bs,m,h1,h2,o⟩:=B3.box he;refine ZL (n:=n) kId B3.ins rfl ?_;refine ZE (o:=.lst bs) h1 (YF (j:=i) h2) ?_;exact⟨_,o.2.2,le _ (yM ..),λm T p2 _=>hK _ _ p2⟩
   ·obtain⟨i,hf,rfl⟩:=w3 v hv;exact hi i _ hf λx o e=>p _ _ (ZF e)⟩)
def zeX  (Hz:Dfz "bars" Kf Rt):Fkz 1 "bars" Rt Jb:=
 mkF Hz zaF (λhr=>(Zf (ZD (Zy (ZO hr) (dv 0) ZW (Zw _)) (Ze (Zn (Cv (Xx X0 (Zg (dv 1) Zb) Zb (Zw _)) (RH (Xx YK (Zg (dv 1) Zb) Zb (Zw _)))))) ZH) (Ze (Zn (Xx YK (Zg (dv 1) Zb) Zb (Zw _)))))) λS Q ex=>by
  refine kS λ_=>kP λ_ _=>kN λh=>?_
  rcases h with ⟨rfl,h⟩|⟨rfl,h⟩
  ·refine ifD (λc=>?_) (λc=>?_)
   ·rw[decide_eq_true c,Bool.true_or] at h;exact h
   ·rw[decide_eq_false c,Bool.false_or] at h;exact h
  ·exact h
def AN  (Gq:Dfz "less" NN Ot):Fkz 1 "less" Ot Bt:=
 mkF Gq zgT (λhr=>(Ze (Zn (Xx YK (Zl ZS (Zg (dv 0) Zb) (Zg (dv 1) Zb)) (Zl ZS (Zg (dv 1) Zb) (Zg (dv 0) Zb)) (Zw _))))) λS Q ex=>by
  refine kP λ_ _=>kP λ_ _=>kN λh=>?_
  obtain⟨⟨h1,h2⟩,h⟩:=h;exact⟨h1,h2,h⟩
def zcb  (FX:Dfz q28 MU Ub):Fkz 1 q28 Ub Qg:=
 mkF FX zcK (λhr=>(Ze (Zn (XR XS (Zl Xw (XR XS (dv 0)) (dv 1)))))) λS Q ex=>by
  refine kI λ_=>kI λ_=>kN λh=>?_
  exact h
def zf1  (GR:Dfz q88 Ny RX)(Wh:Fkz 1 q28 Ub Qg)(Jt:Fkz 1 "less" Ot Bt):Fkz 2 q88 RX Dl:=
 mkF GR zii (λhr=>(Zf (ZD (Wm (Zk Jt hr (Za (dv 1) (Za (dv 0) Zd)))) (Ze zim) ZH) (Ze (Zn (ZG (Za (Zl Xw (Zl ZS (Zg (dv 0) Zb) (dv 2)) (Zg (dv 0) Zb)) (Za (Zk Wh hr (Za (Zl ZS (Zg (dv 1) Zb) (dv 2)) (Za (Zg (dv 1) Zb) Zd))) Zd))))))) λS Q ex=>by
  refine kP λ_ _=>kP λ_ _=>kI λ_=>kN λh=>?_
  obtain⟨⟨⟨m1,m2⟩,nl,m3,m4,f1,f2⟩,h⟩:=h;refine⟨⟨m1,m2⟩,ifF (decide_eq_false nl) ?_⟩;exact⟨m3,f1,m4,f2,h⟩
def zdM  (Zp:Yv e.K e.mg)(Zq:YA e.K e.mg)(Zi:Yh e.K e.mg)(Zh:Yj e.K e.mg)(Zj:Yl e.K e.mg)(Zo:Yu e.K e.mg)(IF:Dmz Zp.C q6 Rr N4 Q6)(Jn:Fkz 2 q88 RX Dl):Fmz 3 Zp.C q6 Q6 (Il Zp.C Zq.C Zi.C Zh.C Zj.C Zo.C):=
 mkM IF Dt (λhr=>(Zf (Zt (i:=4) Dt.nd (ZG (Za (ZM Zp.cl Zp.n_top (dv 0)) (Za (ZM Zp.cl Zp.n_bottom (dv 0)) Zd)))) (Ze (Zn (Zk Jn hr (Za (dv 4) (Za (dv 4) (Za (dv 3) Zd)))))))) λS Q ex=>by
  refine kR λn=>kR λw=>kR λp=>kI λg=>kN λh=>?_
  obtain⟨x,y,vs,bs,hn,hw,hp,ok,s1,hg,h⟩:=h;have sg:Sz 21 g:=Sz.of 1000000 (by lia)
  have sx:Sz 31 x:=Sz.of (10^9) ok.2.2
  have sy:Sz 31 y:=Sz.of (10^9) (by have:=ok.1;lia);refine ZL (n:=n) kId hn rfl ?_;refine ZL (n:=n) kId hn rfl ?_;exact⟨⟨⟨ZN sx sy,ZN sx sy⟩,by lia,ZN sx sg,ZN sx sg,sy.fd (by have:=ok.1;lia),sy.fd (by have:=ok.1;lia)⟩,h⟩
def zd5  (Zq:YA e.K e.mg)(Zp:Yv e.K e.mg)(Zi:Yh e.K e.mg)(Zh:Yj e.K e.mg)(Zj:Yl e.K e.mg)(Zo:Yu e.K e.mg)(Ea:Dmz Zq.C q6 Tc Kt Rz):Fmz 1 Zq.C q6 Rz (KO Zp.C Zq.C Zi.C Zh.C Zj.C Zo.C):=
 mkM Ea zhq (λhr=>(Ze (Zn (ZI (dv 2) (ZM Zq.cl Zq.n_place (dv 0)))))) λS Q ex=>by
  refine kR λn=>kR λw=>kR λp=>kI λg=>kN λh=>?_
  obtain⟨k,vs,bs,hn,hw,hp,ok,s1,hg,h⟩:=h;refine ZL (n:=n) kId hn rfl ?_;exact ZE (o:=.lst (bs.map frD)) hp (ZP ok) h
def zdg  (KZ:Dfz q25 Mn Vu):Fkz 1 q25 Vu UR:=
 mkF KZ zh9 (λhr=>(Ze (Zn (ZG (Za (Zl Z5 (Zg (dv 0) Zb) (Zg (dv 1) Zb)) (Za (Zl Z5 (Zg (dv 0) Zb) (Zg (dv 1) Zb)) Zd)))))) λS Q ex=>by
  refine kP λ_ _=>kP λ_ _=>kN λh=>?_
  exact h
def zb7  (Zi:Yh e.K e.mg)(Zp:Yv e.K e.mg)(Zq:YA e.K e.mg)(Zh:Yj e.K e.mg)(Zj:Yl e.K e.mg)(Zo:Yu e.K e.mg)(Ho:Dmz Zi.C q6 Ri Mm Og)(Y0:Fkz 1 q25 Vu UR):Fmz 2 Zi.C q6 Og (HR Zp.C Zq.C Zi.C Zh.C Zj.C Zo.C):=
 mkM Ho zgV (λhr=>(Ze (Zn (Zk Y0 hr (Za (ZI (dv 1) (ZM Zi.cl Zi.n_one (dv 0))) (Za (ZI (dv 1) (ZM Zi.cl Zi.n_other (dv 0))) Zd)))))) λS Q ex=>by
  refine kR λn=>kR λw=>kR λp=>kI λg=>kN λh=>?_
  obtain⟨i,j,vs,bs,hn,hw,hp,ok,s1,hg,h⟩:=h;refine ZL (n:=n) kId hn rfl ?_;refine ZE (o:=.lst (vs.map frD)) hw (ZP ok.1) ?_;refine ZL (n:=n) kId hn rfl ?_;refine ZE (o:=.lst (vs.map frD)) hw (ZP ok.2) ?_;exact h
def zh4  (Fo:Dfz q22 Lx Wt):Fkz 1 q22 Wt V5:=
 mkF Fo zf0 (λhr=>(Ze (Zn (ZG (Za (Zl Yt (Zg (dv 0) Zb) (Zg (dv 1) Zb)) (Za (Zl Yt (Zg (dv 0) Zb) (Zg (dv 1) Zb)) Zd)))))) λS Q ex=>by
  refine kP λ_ _=>kP λ_ _=>kN λh=>?_
  exact h
def za5  (Zh:Yj e.K e.mg)(Zp:Yv e.K e.mg)(Zq:YA e.K e.mg)(Zi:Yh e.K e.mg)(Zj:Yl e.K e.mg)(Zo:Yu e.K e.mg)(Fs:Dmz Zh.C q6 Tu LU Pk)(YC:Fkz 1 q22 Wt V5):Fmz 2 Zh.C q6 Pk (Fn Zp.C Zq.C Zi.C Zh.C Zj.C Zo.C):=
 mkM Fs zia (λhr=>(Ze (Zn (Zk YC hr (Za (ZI (dv 1) (ZM Zh.cl Zh.n_one (dv 0))) (Za (ZI (dv 1) (ZM Zh.cl Zh.n_other (dv 0))) Zd)))))) λS Q ex=>by
  refine kR λn=>kR λw=>kR λp=>kI λg=>kN λh=>?_
  obtain⟨i,j,vs,bs,hn,hw,hp,ok,s1,hg,h⟩:=h;refine ZL (n:=n) kId hn rfl ?_;refine ZE (o:=.lst (vs.map frD)) hw (ZP ok.1) ?_;refine ZL (n:=n) kId hn rfl ?_;refine ZE (o:=.lst (vs.map frD)) hw (ZP ok.2) ?_;exact h
def zgR  (Jw:Dfz q38 La Uk)(Wh:Fkz 1 q28 Ub Qg)(Z2:e.mg "max"=none)(Yb:e.mg "min"=none):Fkz 2 q38 Uk Q3:=
 mkG Jw Cs (λhr=>(Zf (Zt (i:=3) Cs.nd (Yi (Za (Zl ZS (Zg (dv 0) Zb) (Zg (dv 1) Zb)) (Za (Zl ZS (Zg (dv 0) Zb) (Zg (dv 1) Zb)) (Za (Zl ZS (Zg (dv 0) Zb) (Zg (dv 1) Zb)) (Za (Zl ZS (Zg (dv 0) Zb) (Zg (dv 1) Zb)) Zd)))))) (Ze (Zn (ZG (Za (Zl Xw (ZR (ZY (VA rfl)) rfl Yb Boot.«min» (Za (dv 3) Zd)) (dv 2)) (Za (Zk Wh hr (Za (ZR (ZY (WA rfl)) rfl Z2 Boot.«max» (Za (dv 3) Zd)) (Za (dv 2) Zd))) Zd))))))) λS Q0 ex0=>by
  refine kP λa b=>kP λc d=>kI λg=>kN λh=>?_
  obtain⟨⟨⟨m1,m2,m3,m4⟩,hg⟩,h⟩:=h;refine⟨m1,m2,m3,m4,?_⟩;apply W6
  ·exact Zz _ _
  ·rfl
  ·simp
  intro mn n1 n2;refine⟨hg,?_⟩;apply W6
  ·exact Zz _ _
  ·rfl
  ·simp
  intro mx x1 x2;refine⟨hg,?_⟩;exact⟨Pre.refl.push,VL,h mn mx (UW.of n1 n2 x1 x2)⟩
def zhP  (Zj:Yl e.K e.mg)(Zp:Yv e.K e.mg)(Zq:YA e.K e.mg)(Zi:Yh e.K e.mg)(Zh:Yj e.K e.mg)(Zo:Yu e.K e.mg)(G4:Dmz Zj.C q6 U5 Ky Oy)(XU:Fkz 2 q38 Uk Q3):Fmz 3 Zj.C q6 Oy (Hg Zp.C Zq.C Zi.C Zh.C Zj.C Zo.C):=
 mkM G4 za7 (λhr=>(Ze (Zn (Zk XU hr (Za (ZI (dv 1) (ZM Zj.cl Zj.n_one (dv 0))) (Za (ZI (dv 1) (ZM Zj.cl Zj.n_other (dv 0))) (Za (dv 3) Zd))))))) λS Q ex=>by
  refine kR λn=>kR λw=>kR λp=>kI λg=>kN λh=>?_
  obtain⟨i,j,vs,bs,hn,hw,hp,ok,s1,hg,h⟩:=h;refine ZL (n:=n) kId hn rfl ?_;refine ZE (o:=.lst (vs.map frD)) hw (ZP ok.1) ?_;refine ZL (n:=n) kId hn rfl ?_;refine ZE (o:=.lst (vs.map frD)) hw (ZP ok.2) ?_;have a:=s1.at ok.1
  have b:=s1.at ok.2
  have sg:Sz 21 g:=Sz.of 1000000 (by lia);refine⟨⟨⟨ZN a.2.1 b.2.1,ZN a.2.1 b.2.2,ZN a.2.2 b.2.1,ZN a.2.2 b.2.2⟩,sg.fd (by lia)⟩,λmn mx hc=>?_⟩;obtain⟨rfl,rfl⟩:=hc.eq;exact h
def zgi  (Hn:Dfz q66 NW VP)(Z1:e.mg XY=none):Fkz 1 q66 VP Ss:=
 mkF Hn Ls (λhr=>(Zf (Zt (i:=2) Ls.nd Zb) (Zf (P9 (i:=3) PassesOwn.never rfl Ls.nd rfl (Or.inl rfl) rfl Z1 (Za (dv 1) Zd) (Ze (Zt (i:=2) Ls.nd (Zl ZS (dv 2) (dv 0))))) (Ze (Zn (dv 2)))))) λS Q ex=>by
  refine kI λx=>kI λn=>kN λh=>?_
  obtain⟨⟨h0,h6,sx⟩,h⟩:=h;refine⟨⟨by lia,by lia⟩,λk dl' S'=>S'=S/\k<=n.toNat/\∃(z:Int)(o:Option D),z=x^k/\dl'=[some (.int x),some (.int n),some (.int z),o],⟨rfl,zK _,1,none,(Int.pow_zero x).symm,rfl⟩,?_⟩;rintro k dl' S' ⟨rfl,hk,z,o,rfl,rfl⟩;refine ite2 (λc=>?_) (λc=>?_)
  ·exact⟨ZN (m:=12001) (n:=2000) ((sx.pow k).mono (by lia)) sx,rfl,by lia,_,_,(xE x k).symm,rfl⟩
  ·have e:k=n.toNat:=by lia
   subst e;exact h
def zfW  (Jv:Dfz q42 PF Tt)(Wh:Fkz 1 q28 Ub Qg)(Xd:Fkz 1 q66 VP Ss)(Z2:e.mg "max"=none)(Yb:e.mg "min"=none):Fkz 2 q42 Tt IK:=
 mkG Jv L7 (λhr=>(Zf (Zt (i:=3) L7.nd (Yi (Za (Zg (dv 0) Zb) (Za (Zg (dv 0) Zb) Zd)))) (Zf (ZD (B9 YK YK (Zg (dv 0) Zb) Zb (Zg (dv 0) Zb)) (Ze (Ye (YI (dv 3) Zb))) ZH) (Zf (C6 (x:="place") (N:=["grid","many"]) (caps:=[2,1]) (ar:=Zm PF) rfl rfl csc rfl (by decide) (i:=4) L7.nd rfl rfl (dv 3) (λ_ _ _ _ _ _=>Yr) (λ_ _ _ _ _ _=>(Zl ZS (Zk Xd hr (Za (dv 0) (Za (dv 2) Zd))) (dv 1)))) (Zf (Zt (i:=5) L7.nd (Zk Xd hr (Za (dv 2) (Za (dv 1) Zd)))) (Ze (Zn (ZG (Za (Zl Xw (ZR (ZY (VA rfl)) rfl Yb Boot.«min» (Za (dv 4) Zd)) (dv 5)) (Za (Zk Wh hr (Za (ZR (ZY (WA rfl)) rfl Z2 Boot.«max» (Za (dv 4) Zd)) (Za (dv 5) Zd))) Zd)))))))))) λS Q0 ex0=>by
  refine kP λa b=>kI λn=>kI λg=>kN λh=>?_
  obtain⟨⟨n2,n6,za,zb,hg,zg⟩,h⟩:=h;refine ifD (λc1=>?_) (λc1=>?_)
  ·refine ifD (λc2=>?_) (λc2=>?_)
   ·refine YR (n:=S.length) (λK hK=>hK) (Zz _ _) (λK hK=>hK) (by simp) ?_;refine WH (n:=S.length) (o:=.lst [.int a,.int b,.int 0]) (λd=>match d with|.int v=>.int (v^n.toNat*g)|_=>.non) (λK hK=>hK) (by simp) (by simp[Zv]) (λx hx S2 K _ hK=>?_) ?_
    ·have hx':x=.int a\/x=.int b\/x=.int 0:=by simpa [Zv] using hx
     rcases hx' with rfl|rfl|rfl
     all_goals exact⟨⟨by lia,n6,by first|exact za.mono (by decide)|exact zb.mono (by decide)|exact Sz.of (n:=2000) 0 (by decide)⟩,ZN (m:=12001) (n:=1400) (((Sz.mono (n:=2000) (by first|exact za|exact zb|exact Sz.of (n:=1400) 0 (by decide)) (by decide)).pow _).mono (by lia)) zg,hK⟩
    refine⟨⟨by lia,n6,zg.mono (by decide)⟩,?_⟩;have gp:(0:Int)<g^n.toNat:=yE (by lia)
    have zgp:Sz 8401 (g^n.toNat):=(zg.pow _).mono (by lia);apply W6
    ·exact Zz _ _
    ·rfl
    ·simp
    intro mn q1 q2;refine⟨zgp.fd gp,?_⟩;apply W6
    ·exact Zz _ _
    ·rfl
    ·simp
    intro mx x1 x2;refine⟨zgp.fd gp,?_⟩;obtain⟨m,M,hP,rfl,rfl⟩:=WZ.of (n:=n.toNat) hg (.inr ⟨rfl,c1,c2⟩) (by lia) q1 q2 x1 x2;have r:=h m M hP;rw[<- Tz hg (by lia),<- Tz hg (by lia),xD] at r;exact⟨(λi o e=>VR (by rw[List.set_append_right _ _ (zC _),zI (zA.mp e).1];exact e)),VL,r⟩
   ·skip
    refine WH (n:=S.length) (o:=.lst [.int a,.int b]) (λd=>match d with|.int v=>.int (v^n.toNat*g)|_=>.non) (λK hK=>hK) (Zz _ _) (by simp[Zv]) (λx hx S2 K _ hK=>?_) ?_
    ·have hx':x=.int a\/x=.int b:=by simpa [Zv] using hx
     rcases hx' with rfl|rfl
     all_goals exact⟨⟨by lia,n6,by first|exact za.mono (by decide)|exact zb.mono (by decide)|exact Sz.of (n:=2000) 0 (by decide)⟩,ZN (m:=12001) (n:=1400) (((Sz.mono (n:=2000) (by first|exact za|exact zb|exact Sz.of (n:=1400) 0 (by decide)) (by decide)).pow _).mono (by lia)) zg,hK⟩
    refine⟨⟨by lia,n6,zg.mono (by decide)⟩,?_⟩;have gp:(0:Int)<g^n.toNat:=yE (by lia)
    have zgp:Sz 8401 (g^n.toNat):=(zg.pow _).mono (by lia);apply W6
    ·exact Zz _ _
    ·rfl
    ·simp
    intro mn q1 q2;refine⟨zgp.fd gp,?_⟩;apply W6
    ·exact Zz _ _
    ·rfl
    ·simp
    intro mx x1 x2;refine⟨zgp.fd gp,?_⟩;obtain⟨m,M,hP,rfl,rfl⟩:=WZ.of (n:=n.toNat) hg (.inl ⟨rfl,λc=>c2 c.2⟩) (by lia) q1 q2 x1 x2;have r:=h m M hP;rw[<- Tz hg (by lia),<- Tz hg (by lia),xD] at r;exact⟨Pre.refl.push.push,VL,r⟩
  ·skip
   refine WH (n:=S.length) (o:=.lst [.int a,.int b]) (λd=>match d with|.int v=>.int (v^n.toNat*g)|_=>.non) (λK hK=>hK) (Zz _ _) (by simp[Zv]) (λx hx S2 K _ hK=>?_) ?_
   ·have hx':x=.int a\/x=.int b:=by simpa [Zv] using hx
    rcases hx' with rfl|rfl
    all_goals exact⟨⟨by lia,n6,by first|exact za.mono (by decide)|exact zb.mono (by decide)|exact Sz.of (n:=2000) 0 (by decide)⟩,ZN (m:=12001) (n:=1400) (((Sz.mono (n:=2000) (by first|exact za|exact zb|exact Sz.of (n:=1400) 0 (by decide)) (by decide)).pow _).mono (by lia)) zg,hK⟩
   refine⟨⟨by lia,n6,zg.mono (by decide)⟩,?_⟩;have gp:(0:Int)<g^n.toNat:=yE (by lia)
   have zgp:Sz 8401 (g^n.toNat):=(zg.pow _).mono (by lia);apply W6
   ·exact Zz _ _
   ·rfl
   ·simp
   intro mn q1 q2;refine⟨zgp.fd gp,?_⟩;apply W6
   ·exact Zz _ _
   ·rfl
   ·simp
   intro mx x1 x2;refine⟨zgp.fd gp,?_⟩;obtain⟨m,M,hP,rfl,rfl⟩:=WZ.of (n:=n.toNat) hg (.inl ⟨rfl,λc=>c1 c.1⟩) (by lia) q1 q2 x1 x2;have r:=h m M hP;rw[<- Tz hg (by lia),<- Tz hg (by lia),xD] at r;exact⟨Pre.refl.push.push,VL,r⟩
def zed  (Zo:Yu e.K e.mg)(Zp:Yv e.K e.mg)(Zq:YA e.K e.mg)(Zi:Yh e.K e.mg)(Zh:Yj e.K e.mg)(Zj:Yl e.K e.mg)(Jh:Dmz Zo.C q6 Tb Na Ol)(TM:Fkz 2 q42 Tt IK):Fmz 3 Zo.C q6 Ol (IW Zp.C Zq.C Zi.C Zh.C Zj.C Zo.C):=
 mkM Jh zcF (λhr=>(Ze (Zn (Zk TM hr (Za (ZI (dv 1) (ZM Zo.cl Zo.n_one (dv 0))) (Za (ZM Zo.cl Zo.n_many (dv 0)) (Za (dv 3) Zd))))))) λS Q ex=>by
  refine kR λn=>kR λw=>kR λp=>kI λg=>kN λh=>?_
  obtain⟨i,m,vs,bs,hn,hw,hp,ok,s1,hg,h⟩:=h;refine ZL (n:=n) kId hn rfl ?_;refine ZE (o:=.lst (vs.map frD)) hw (ZP ok.1) ?_;refine ZL (n:=n) kId hn rfl ?_;have a:=s1.at ok.1
  have sg:Sz 21 g:=Sz.of 1000000 (by lia);refine⟨⟨by have:=ok.2.1;lia,ok.2.2,a.2.1,a.2.2,hg.1,sg.mono (by decide)⟩,λm' M' hP=>?_⟩;obtain⟨rfl,rfl⟩:=hP.eq (by have:=ok.2.1;lia);exact h
def zgv  (Zo:Yu e.K e.mg)(GF:Dmz Zo.C q2 Tx Mv Qy):Fmz 1 Zo.C q2 Qy (ED Zo.C):=
 mkM GF zbs (λhr=>(Zf (XI Zo.cl Zo.n_one (dv 0) (dv 1)) (Ze (XI Zo.cl Zo.n_many (dv 0) (dv 2))))) λS Q ex=>by
  refine kR λn=>kD λx=>kD λy=>kN λh=>?_
  obtain⟨T,rfl,rfl,h⟩:=h;refine XX (v:=x) (S1:=T++[Ob.ins Zo.C []]) (S2:=T++[Ob.ins Zo.C []]) (n:=T.length) (fs:=[]) kId kId (XD ..) (by simp) ?_;rw[XG];refine XX (v:=y) (S1:=T++[Ob.ins Zo.C [("one",x)]]) (S2:=T++[Ob.ins Zo.C [("one",x)]]) (n:=T.length) (fs:=[("one",x)]) kId kId (XD ..) (by simp) ?_;rw[XG];exact h
def zh8  (Zp:Yv e.K e.mg)(Gs:Dmz Zp.C q2 Rc L5 OX):Fmz 1 Zp.C q2 OX (Bg Zp.C):=
 mkM Gs zbm (λhr=>(Zf (XI Zp.cl Zp.n_top (dv 0) (dv 1)) (Ze (XI Zp.cl Zp.n_bottom (dv 0) (dv 2))))) λS Q ex=>by
  refine kR λn=>kD λx=>kD λy=>kN λh=>?_
  obtain⟨T,rfl,rfl,h⟩:=h;refine XX (v:=x) (S1:=T++[Ob.ins Zp.C []]) (S2:=T++[Ob.ins Zp.C []]) (n:=T.length) (fs:=[]) kId kId (XD ..) (by simp) ?_;rw[XG];refine XX (v:=y) (S1:=T++[Ob.ins Zp.C [("top",x)]]) (S2:=T++[Ob.ins Zp.C [("top",x)]]) (n:=T.length) (fs:=[("top",x)]) kId kId (XD ..) (by simp) ?_;rw[XG];exact h
def zdm  (Zq:YA e.K e.mg)(Ge:Dmz Zq.C q2 U6 MQ PZ):Fmz 1 Zq.C q2 PZ (CO Zq.C):=
 mkM Ge zf6 (λhr=>(Ze (XI Zq.cl Zq.n_place (dv 0) (dv 1)))) λS Q ex=>by
  refine kR λn=>kD λx=>kN λh=>?_
  obtain⟨T,rfl,rfl,h⟩:=h;refine XX (v:=x) (S1:=T++[Ob.ins Zq.C []]) (S2:=T++[Ob.ins Zq.C []]) (n:=T.length) (fs:=[]) kId kId (XD ..) (by simp) ?_;rw[XG];exact h
def zbt  (Zi:Yh e.K e.mg)(JZ:Dmz Zi.C q2 q36 N8 QZ):Fmz 1 Zi.C q2 QZ (Cb Zi.C):=
 mkM JZ zfE (λhr=>(Zf (XI Zi.cl Zi.n_one (dv 0) (dv 1)) (Ze (XI Zi.cl Zi.n_other (dv 0) (dv 2))))) λS Q ex=>by
  refine kR λn=>kD λx=>kD λy=>kN λh=>?_
  obtain⟨T,rfl,rfl,h⟩:=h;refine XX (v:=x) (S1:=T++[Ob.ins Zi.C []]) (S2:=T++[Ob.ins Zi.C []]) (n:=T.length) (fs:=[]) kId kId (XD ..) (by simp) ?_;rw[XG];refine XX (v:=y) (S1:=T++[Ob.ins Zi.C [("one",x)]]) (S2:=T++[Ob.ins Zi.C [("one",x)]]) (n:=T.length) (fs:=[("one",x)]) kId kId (XD ..) (by simp) ?_;rw[XG];exact h
def ze3  (Zh:Yj e.K e.mg)(KS:Dmz Zh.C q2 q36 MN QH):Fmz 1 Zh.C q2 QH (EV Zh.C):=
 mkM KS zb4 (λhr=>(Zf (XI Zh.cl Zh.n_one (dv 0) (dv 1)) (Ze (XI Zh.cl Zh.n_other (dv 0) (dv 2))))) λS Q ex=>by
  refine kR λn=>kD λx=>kD λy=>kN λh=>?_
  obtain⟨T,rfl,rfl,h⟩:=h;refine XX (v:=x) (S1:=T++[Ob.ins Zh.C []]) (S2:=T++[Ob.ins Zh.C []]) (n:=T.length) (fs:=[]) kId kId (XD ..) (by simp) ?_;rw[XG];refine XX (v:=y) (S1:=T++[Ob.ins Zh.C [("one",x)]]) (S2:=T++[Ob.ins Zh.C [("one",x)]]) (n:=T.length) (fs:=[("one",x)]) kId kId (XD ..) (by simp) ?_;rw[XG];exact h
def za3  (Zj:Yl e.K e.mg)(FF:Dmz Zj.C q2 q36 M8 OF):Fmz 1 Zj.C q2 OF (CK Zj.C):=
 mkM FF zcg (λhr=>(Zf (XI Zj.cl Zj.n_one (dv 0) (dv 1)) (Ze (XI Zj.cl Zj.n_other (dv 0) (dv 2))))) λS Q ex=>by
  refine kR λn=>kD λx=>kD λy=>kN λh=>?_
  obtain⟨T,rfl,rfl,h⟩:=h;refine XX (v:=x) (S1:=T++[Ob.ins Zj.C []]) (S2:=T++[Ob.ins Zj.C []]) (n:=T.length) (fs:=[]) kId kId (XD ..) (by simp) ?_;rw[XG];refine XX (v:=y) (S1:=T++[Ob.ins Zj.C [("one",x)]]) (S2:=T++[Ob.ins Zj.C [("one",x)]]) (n:=T.length) (fs:=[("one",x)]) kId kId (XD ..) (by simp) ?_;rw[XG];exact h
def zfH  (Zo:Yu e.K e.mg)(Zj:Yl e.K e.mg)(Zh:Yj e.K e.mg)(Zi:Yh e.K e.mg)(Zq:YA e.K e.mg)(Zp:Yv e.K e.mg)(Hk:Dfz q99 Ml Um)(SU:Fmz 1 Zo.C q2 Qy (ED Zo.C))(U9:Fmz 1 Zj.C q2 OF (CK Zj.C))(Tq:Fmz 1 Zh.C q2 QH (EV Zh.C))(SX:Fmz 1 Zi.C q2 QZ (Cb Zi.C))(SJ:Fmz 1 Zq.C q2 PZ (CO Zq.C))(U8:Fmz 1 Zp.C q2 OX (Bg Zp.C)):Fkz 3 q99 Um (Lj Zp.C Zq.C Zi.C Zh.C Zj.C Zo.C):=
 mkF Hk zcl (λhr=>(Zf (ZD (Zy (ZO hr) (Zg (dv 0) Zb) ZW (Zw _)) (Ze (Zn (Ut ⟨Zp.makes,U8.m.at_,U8.m.fn,Zp.kp⟩ U8.ok (hr.mono (by decide)) rfl Zp.m U8.b UE (Za (Zg (dv 0) Zb) (Za (Zg (dv 0) Zb) Zd))))) ZH) (Zf (ZD (Zy (ZO hr) (Zg (dv 0) Zb) ZW (Zw _)) (Ze (Zn (Ut ⟨Zq.makes,SJ.m.at_,SJ.m.fn,Zq.kp⟩ SJ.ok (hr.mono (by decide)) rfl Zq.m SJ.b UE (Za (Zg (dv 0) Zb) Zd)))) ZH) (Zf (ZD (Zy (ZO hr) (Zg (dv 0) Zb) ZW (Zw _)) (Ze (Zn (Ut ⟨Zi.makes,SX.m.at_,SX.m.fn,Zi.kp⟩ SX.ok (hr.mono (by decide)) rfl Zi.m SX.b UE (Za (Zg (dv 0) Zb) (Za (Zg (dv 0) Zb) Zd))))) ZH) (Zf (ZD (Zy (ZO hr) (Zg (dv 0) Zb) ZW (Zw _)) (Ze (Zn (Ut ⟨Zh.makes,Tq.m.at_,Tq.m.fn,Zh.kp⟩ Tq.ok (hr.mono (by decide)) rfl Zh.m Tq.b UE (Za (Zg (dv 0) Zb) (Za (Zg (dv 0) Zb) Zd))))) ZH) (Zf (ZD (Zy (ZO hr) (Zg (dv 0) Zb) ZW (Zw _)) (Ze (Zn (Ut ⟨Zj.makes,U9.m.at_,U9.m.fn,Zj.kp⟩ U9.ok (hr.mono (by decide)) rfl Zj.m U9.b UE (Za (Zg (dv 0) Zb) (Za (Zg (dv 0) Zb) Zd))))) ZH) (Ze (Zn (Ut ⟨Zo.makes,SU.m.at_,SU.m.fn,Zo.kp⟩ SU.ok (hr.mono (by decide)) rfl Zo.m SU.b UE (Za (Zg (dv 0) Zb) (Za (Zg (dv 0) Zb) Zd))))))))))) λS Q ex=>by
  refine kD λ_=>kN λh=>?_
  obtain⟨v,rfl,h⟩:=h;cases v<;>exact⟨S,rfl,rfl,rfl,h⟩
def zag  (Zo:Yu e.K e.mg)(Zj:Yl e.K e.mg)(Zh:Yj e.K e.mg)(Zi:Yh e.K e.mg)(Zq:YA e.K e.mg)(Zp:Yv e.K e.mg)(Fc:Dfz q33 ME X1)(Gj:Fmz 3 Zo.C q6 Ol (IW Zp.C Zq.C Zi.C Zh.C Zj.C Zo.C))(IE:Fmz 3 Zj.C q6 Oy (Hg Zp.C Zq.C Zi.C Zh.C Zj.C Zo.C))(J5:Fmz 2 Zh.C q6 Pk (Fn Zp.C Zq.C Zi.C Zh.C Zj.C Zo.C))(Gw:Fmz 2 Zi.C q6 Og (HR Zp.C Zq.C Zi.C Zh.C Zj.C Zo.C))(Jm:Fmz 1 Zq.C q6 Rz (KO Zp.C Zq.C Zi.C Zh.C Zj.C Zo.C))(Jq:Fmz 3 Zp.C q6 Q6 (Il Zp.C Zq.C Zi.C Zh.C Zj.C Zo.C))(VS:Fkz 3 q99 Um (Lj Zp.C Zq.C Zi.C Zh.C Zj.C Zo.C)):Fkz 4 q33 X1 VH:=
 mkF Fc J8 (λhr=>(Zf (Zt (i:=3) J8.nd (Yi Zd)) (Zf (WD (i:=4) PassesOwn.never rfl J8.nd rfl (Or.inl rfl) (dv 0) (Ze (Ye (YI (dv 3) (JQ (Zk VS hr (Za (dv 4) Zd)) (Y3 Zp.cl Jq (hr.mono (by decide)) (Y3 Zq.cl Jm (hr.mono (by decide)) (Y3 Zi.cl Gw (hr.mono (by decide)) (Y3 Zh.cl J5 (hr.mono (by decide)) (Y3 Zj.cl IE (hr.mono (by decide)) (Y3 Zo.cl Gj (hr.mono (by decide)) HI)))))) Yq (Za (dv 3) (Za (dv 1) (Za (dv 2) Zd)))))))) (Ze (Zn (dv 3)))))) λS Q ex=>by
  refine kR λa=>kR λb=>kI λg=>kN λh=>?_
  obtain⟨ns,ws,bs,ha,hb,net,sb,hg,hl,h⟩:=h;have disp:∀v:Nd,∃C fs sd,v.ob Zp.C Zq.C Zi.C Zh.C Zj.C Zo.C=.ins C fs/\(C,sd)∈[(Zp.C,Il Zp.C Zq.C Zi.C Zh.C Zj.C Zo.C),(Zq.C,KO Zp.C Zq.C Zi.C Zh.C Zj.C Zo.C),(Zi.C,HR Zp.C Zq.C Zi.C Zh.C Zj.C Zo.C),(Zh.C,Fn Zp.C Zq.C Zi.C Zh.C Zj.C Zo.C),(Zj.C,Hg Zp.C Zq.C Zi.C Zh.C Zj.C Zo.C),(Zo.C,IW Zp.C Zq.C Zi.C Zh.C Zj.C Zo.C)]/\fs.lookup ("forth":Str)=none/\∀(n w p:Nat)(g:Int)(S:Sto)(Q:DK)(ex:Addr->Sto->Prop)(vs bs:LI),S[n]?=some (v.ob Zp.C Zq.C Zi.C Zh.C Zj.C Zo.C)->S[w]?=some (.lst (vs.map frD))->S[p]?=some (.lst (bs.map frD))->v.ok vs.length bs.length->Spn 1400 vs->(1<=g/\g<=1000000)->Q (frD (v.fw vs bs g)) S->sd [.ref n,.ref w,.ref p,.int g] S Q ex:=by
   intro v;cases v with
   | number x y=>exact⟨_,_,_,rfl,(.head _),rfl,λn w p g S Q ex vs bs a1 a2 a3 a4 a5 a6 q=>⟨x,y,vs,bs,a1,a2,a3,a4,a5,a6,q⟩⟩
   | unknown k=>exact⟨_,_,_,rfl,(.tail _ (.head _)),rfl,λn w p g S Q ex vs bs a1 a2 a3 a4 a5 a6 q=>⟨k,vs,bs,a1,a2,a3,a4,a5,a6,q⟩⟩
   | plus i j=>exact⟨_,_,_,rfl,(.tail _ (.tail _ (.head _))),rfl,λn w p g S Q ex vs bs a1 a2 a3 a4 a5 a6 q=>⟨i,j,vs,bs,a1,a2,a3,a4,a5,a6,q⟩⟩
   | minus i j=>exact⟨_,_,_,rfl,(.tail _ (.tail _ (.tail _ (.head _)))),rfl,λn w p g S Q ex vs bs a1 a2 a3 a4 a5 a6 q=>⟨i,j,vs,bs,a1,a2,a3,a4,a5,a6,q⟩⟩
   | times i j=>exact⟨_,_,_,rfl,(.tail _ (.tail _ (.tail _ (.tail _ (.head _))))),rfl,λn w p g S Q ex vs bs a1 a2 a3 a4 a5 a6 q=>⟨i,j,vs,bs,a1,a2,a3,a4,a5,a6,q⟩⟩
   | power i m=>exact⟨_,_,_,rfl,(.tail _ (.tail _ (.tail _ (.tail _ (.tail _ (.head _)))))),rfl,λn w p g S Q ex vs bs a1 a2 a3 a4 a5 a6 q=>⟨i,m,vs,bs,a1,a2,a3,a4,a5,a6,q⟩⟩
  have la:=Z8 ha
  have lb:=Z8 hb;refine Vp (n:=a) (o:=.lst (ns.map Nd.d)) (λk dl' S'=>k<=ns.length/\Pre S S'/\S'[S.length]?=some (.lst ((ZC bs g (ns.take k)).map frD))/\∃u:Option D,dl'=[some (.ref a),some (.ref b),some (.int g),some (.ref S.length),u]) ⟨zK _,Pre.refl.push,Zz _ _,_,rfl⟩ (λk dl' S' w=>w.2.1 _ _ ha) ?_ ?_
  ·rintro k x dl' S' nx ct ex' ⟨hk,pr,hf,u,rfl⟩ hn;have ex2:(ns.map Nd.d)[k]?=some x:=ex';rw[zE] at ex2;obtain⟨v,hv,rfl⟩:=zG.mp ex2;have hk':=(zA.mp hv).1
   have ln:(ZC bs g (ns.take k)).length=k:=by rw[Xk,zL];lia
   have okv:v.ok (ZC bs g (ns.take k)).length bs.length:=by rw[ln];exact(net.ok k v hv).1
   obtain⟨C,fs,sd,eo,hm,hf2,go⟩:=disp v;have N1:=Zz S' (v.ob Zp.C Zq.C Zi.C Zh.C Zj.C Zo.C);refine zg3 (n:=S.length) (S1:=S') (S2:=S'++[v.ob Zp.C Zq.C Zi.C Zh.C Zj.C Zo.C]) (xs:=(ZC bs g (ns.take k)).map frD) (y:=frD (v.fw (ZC bs g (ns.take k)) bs g)) kId hf (λK hK=>?_) (ZF hf) (by rw[zB,ln];lia) ?_
   ·refine JC (n:=S'.length) (C:=C) (sd:=sd) (fs:=fs) (S1:=S'++[v.ob Zp.C Zq.C Zi.C Zh.C Zj.C Zo.C]) (λK hK=>⟨v,rfl,by exact hK⟩) (by rw[<- eo];exact N1) hm hf2 ?_;exact go _ _ _ _ _ _ _ (ZC bs g (ns.take k)) bs N1 (ZF hf) (ZF (pr _ _ hb)) okv ((NG net rfl sb hg k hk).mono (by decide)) hg hK
   ·refine hn _ _ ⟨by lia,Xz (Wg pr _) (zC _),?_,_,rfl⟩;rw[Y9 hv,OA,zY];exact YE (ZF hf)
  ·rintro dl' S' ⟨hk,pr,hf,u,rfl⟩;refine h _ _ pr (zC _) ?_;have e:ns.take (Zv (.lst (ns.map Nd.d))).length=ns:=by
    show ns.take (ns.map Nd.d).length=ns;rw[zB,yF]
   rw[e] at hf;exact hf
def zhh  (Ih:Dfz q81 NS SD)(TL:Fkz 1 "bars" Rt Jb)(Yw:Fkz 4 q33 X1 VH):Fkz 5 q81 SD FL:=
 mkF Ih EC (λhr=>(Zf (Zt (i:=4) EC.nd (Zg (dv 1) Zb)) (Ze (Zn (Zk TL hr (Za (Zg (dv 1) Zb) (Za (ZI (Zk Yw hr (Za (W8 (dv 0) Vj (WS (Zl Z5 (dv 4) Zb))) (Za (dv 2) (Za (dv 3) Zd)))) (dv 4)) Zd))))))) λS Q ex=>by
  refine kR λa=>kT λw k=>kR λb=>kI λg=>kN λh=>?_
  obtain⟨ns,ws,bs,zero,ha,hb,hw,⟨k0,k1⟩,net,sb,hg,hl,h⟩:=h;obtain⟨kn,rfl⟩:∃kn:Nat,k=(kn:Int):=⟨k.toNat,by lia⟩;rw[zN] at h;refine WU (n:=a) (o:=.lst (ns.map Nd.d)) (lo:=none) (hi:=some ((kn:Int)+1)) (S3:=S) kId kId kId ha ?_;have ec:Yd (ns.map Nd.d) none (some ((kn:Int)+1))=(ns.take (kn+1)).map Nd.d:=by
   rw[OJ (by lia) (by rw[zB];lia),xF];rfl
  rw[show Zv (Ob.lst (ns.map Nd.d))=ns.map Nd.d from rfl,ec];refine⟨ns.take (kn+1),ws.take (kn+1),bs,Zz _ _,ZF hb,net.take _,sb,hg,by rw[zL];lia,λT m pr lm hf=>?_⟩;have prS:Pre S T:=λn o e=>pr n o (ZF e)
  have l1:(ZC bs g (ns.take (kn+1))).length=kn+1:=by rw[Xk,zL];lia
  have ik:inR (((ZC bs g (ns.take (kn+1))).length:Nat):Int) (kn:Int):=⟨by lia,by lia⟩;refine ZE (o:=.lst ((ZC bs g (ns.take (kn+1))).map frD)) hf (ZP ik) ?_;rcases hw with ⟨rfl,rfl⟩|⟨rfl,rfl⟩
  ·exact .inl ⟨rfl,h T prS⟩
  ·exact .inr ⟨rfl,h T prS⟩
def zeA  (GH:Dfz q67 Mb VF)(Yb:e.mg "min"=none)(Z2:e.mg "max"=none):Fkz 1 q67 VF SI:=
 mkF GH FY (λhr=>(Zf (Zt (i:=2) FY.nd (ZR (WA rfl) rfl Z2 Boot.«max» (Za (Zg (dv 0) Zb) (Za (Zg (dv 1) Zb) Zd)))) (Zf (Zt (i:=3) FY.nd (ZR (VA rfl) rfl Yb Boot.«min» (Za (Zg (dv 0) Zb) (Za (Zg (dv 1) Zb) Zd)))) (Zf (ZD (Zy X0 (dv 2) (dv 3) (Zw _)) (Ze (Zn ZX)) ZH) (Ze (Zn (ZG (Za (dv 2) (Za (dv 3) Zd))))))))) λS Q ex=>by
  refine kP λa b=>kP λc d=>kN λh=>?_
  obtain⟨h1,h2⟩:=h;unfold U4 at h1 h2;refine ifD (λe=>?_) (λe=>?_)
  ·exact h1 (if_pos e)
  ·exact h2 _ (if_neg e)
def zdq  (Ei:Dfz WW MY Pq)(Xn:Fkz 1 q67 VF SI)(Z2:e.mg "max"=none):Fkz 2 WW Pq BV:=
 mkF Ei zeZ (λhr=>(Zf (ZD (Zy (ZO hr) (dv 0) ZW (Zw _)) (Ze (Zn (Zk Xn hr (Za (dv 1) (Za (ZG (Za Zb (Za Zb Zd))) Zd))))) ZH) (Ze (Zn (Zk Xn hr (Za (dv 1) (Za (ZG (Za Zb (Za (ZR (WA rfl) rfl Z2 Boot.«max» (Za (Zg (dv 1) Zb) (Za Zb Zd))) Zd))) Zd))))))) λS Q ex=>by
  refine kS λw=>kP λa b=>kN λh=>?_
  obtain⟨zero,hw,h1,h2⟩:=h;rcases hw with ⟨rfl,rfl⟩|⟨rfl,rfl⟩
  all_goals exact⟨λ_=>h1,λp e=>h2 p.1 p.2 (OC e)⟩
def zap  (Zp:Yv e.K e.mg)(Zq:YA e.K e.mg)(Zi:Yh e.K e.mg)(Zh:Yj e.K e.mg)(Zj:Yl e.K e.mg)(Zo:Yu e.K e.mg)(JG:Dmz Zp.C "back" Ru Ks PX):Fmz 1 Zp.C "back" PX (Fh Zp.C Zq.C Zi.C Zh.C Zj.C Zo.C):=
 mkM JG AO (λhr=>(Ze (Zn (Yi Zd)))) λS Q ex=>by
  refine kR λn=>kR λw=>kP λz0 z1=>kI λg=>kN λh=>?_
  obtain⟨x,y,vs,q,hn,hw,ok,⟨hs,⟨sz0,sz1⟩,hg⟩,h1,h2⟩:=h;exact h2 [] ⟨by simp,λp hp=>nomatch hp⟩
def zdk  (Zp:Yv e.K e.mg)(Zq:YA e.K e.mg)(Zi:Yh e.K e.mg)(Zh:Yj e.K e.mg)(Zj:Yl e.K e.mg)(Zo:Yu e.K e.mg)(HM:Dmz Zq.C "back" SR Km Qp):Fmz 1 Zq.C "back" Qp (KW Zp.C Zq.C Zi.C Zh.C Zj.C Zo.C):=
 mkM HM zcL (λhr=>(Ze (Zn (Yi Zd)))) λS Q ex=>by
  refine kR λn=>kR λw=>kP λz0 z1=>kI λg=>kN λh=>?_
  obtain⟨k,vs,q,hn,hw,ok,⟨hs,⟨sz0,sz1⟩,hg⟩,h1,h2⟩:=h;exact h2 [] ⟨by simp,λp hp=>nomatch hp⟩
def zc5  (Zi:Yh e.K e.mg)(FV:Dmz Zi.C q10 Sq Lz R7)(Xn:Fkz 1 q67 VF SI)(YC:Fkz 1 q22 Wt V5):Fmz 2 Zi.C q10 R7 Cm:=
 mkM FV zdr (λhr=>(Ze (Zn (Zk Xn hr (Za (dv 2) (Za (Zk YC hr (Za (dv 1) (Za (dv 3) Zd))) Zd)))))) λS Q ex=>by
  refine kR λ_=>kP λ_ _=>kP λ_ _=>kP λ_ _=>kI λ_=>kN λh=>?_
  exact⟨λ_=>h.2.1,λp e=>h.2.2 p.1 p.2 (OC e)⟩
def zfn  (Zi:Yh e.K e.mg)(GJ:Dmz Zi.C q7 Rb Nq QK)(Xn:Fkz 1 q67 VF SI)(YC:Fkz 1 q22 Wt V5):Fmz 2 Zi.C q7 QK Dk:=
 mkM GJ ze9 (λhr=>(Ze (Zn (Zk Xn hr (Za (dv 3) (Za (Zk YC hr (Za (dv 1) (Za (dv 2) Zd))) Zd)))))) λS Q ex=>by
  refine kR λ_=>kP λ_ _=>kP λ_ _=>kP λ_ _=>kI λ_=>kN λh=>?_
  exact⟨λ_=>h.2.1,λp e=>h.2.2 p.1 p.2 (OC e)⟩
def zfY  (Zi:Yh e.K e.mg)(Zp:Yv e.K e.mg)(Zq:YA e.K e.mg)(Zh:Yj e.K e.mg)(Zj:Yl e.K e.mg)(Zo:Yu e.K e.mg)(KU:Dmz Zi.C "back" q69 Lh RN)(PK:Fmz 2 Zi.C q7 QK Dk)(Qz:Fmz 2 Zi.C q10 R7 Cm):Fmz 3 Zi.C "back" RN (GZ Zp.C Zq.C Zi.C Zh.C Zj.C Zo.C):=
 mkM KU Np (λhr=>(Zf (Zt (i:=4) Np.nd (Y7 (C:=Zi.C) (dv 0) Zi.cl Qz.m Qz.ok (hr.mono (by decide)) Qz.b Yq (Za (dv 2) (Za (ZI (dv 1) (ZM Zi.cl Zi.n_one (dv 0))) (Za (ZI (dv 1) (ZM Zi.cl Zi.n_other (dv 0))) (Za (dv 3) Zd)))))) (Zf (ZD (Zy YH (dv 4) ZX (Zw _)) (Ze (Zn ZX)) ZH) (Zf (Zt (i:=5) Np.nd (XH (Zy (ZO hr) (ZM Zi.cl Zi.n_one (dv 0)) (ZM Zi.cl Zi.n_other (dv 0)) (Zw _)) (dv 4) (ZI (dv 1) (ZM Zi.cl Zi.n_other (dv 0))))) (Zf (Zt (i:=5) Np.nd (Y7 (C:=Zi.C) (dv 0) Zi.cl PK.m PK.ok (hr.mono (by decide)) PK.b Yq (Za (dv 2) (Za (dv 4) (Za (dv 5) (Za (dv 3) Zd)))))) (Zf (ZD (Zy YH (dv 5) ZX (Zw _)) (Ze (Zn ZX)) ZH) (Ze (Zn (Yi (Za (ZG (Za (ZM Zi.cl Zi.n_one (dv 0)) (Za (dv 4) Zd))) (Za (ZG (Za (ZM Zi.cl Zi.n_other (dv 0)) (Za (dv 5) Zd))) Zd))))))))))) λS Q ex=>by
  refine kR λn=>kR λw=>kP λz0 z1=>kI λg=>kN λh=>?_
  obtain⟨i,j,vs,q,hn,hw,ok,⟨hs,⟨sz0,sz1⟩,hg⟩,h1,h2⟩:=h;have a:=hs.at ok.1
  have b:=hs.at ok.2
  have up:∀ {x:Int},Sz 1000 x->Sz 1100 x:=λz=>z.mono (by decide)
  refine YL (n:=n) (fs:=[("one",.int i),("other",.int j)]) kId hn rfl ?_;refine ZL (n:=n) kId hn rfl ?_;refine ZE (o:=.lst (vs.map frD)) hw (ZP ok.1) ?_;refine ZL (n:=n) kId hn rfl ?_;refine ZE (o:=.lst (vs.map frD)) hw (ZP ok.2) ?_;refine⟨⟨up sz0,up sz1,up b.1,up b.2,Sz.of 1000000 (by lia)⟩,h1,λp p' l=>?_⟩;have z:=l _ a.1 a.2;refine ZL (n:=n) kId hn rfl ?_;refine ZL (n:=n) kId hn rfl ?_;refine ifD (λc=>?_) (λc=>?_)
  all_goals try refine ZL (n:=n) kId hn rfl ?_
  all_goals try refine ZE (o:=.lst (vs.map frD)) hw (ZP ok.2) ?_
  all_goals
   refine YL (n:=n) (fs:=[("one",.int i),("other",.int j)]) kId hn rfl ?_;refine⟨⟨up sz0,up sz1,up z.1,up z.2,Sz.of 1000000 (by lia)⟩,h1,λr r' k=>?_⟩;refine ZL (n:=n) kId hn rfl ?_;refine ZL (n:=n) kId hn rfl ?_;exact h2 [(i,p,p'),(j,r,r')] (Gb ok.1 ok.2 z (k _ (by first|exact z.1|exact b.1) (by first|exact z.2|exact b.2)))
def zah  (Zh:Yj e.K e.mg)(Fx:Dmz Zh.C q10 TR Nm P6)(Xn:Fkz 1 q67 VF SI)(Y0:Fkz 1 q25 Vu UR):Fmz 2 Zh.C q10 P6 Ab:=
 mkM Fx za6 (λhr=>(Ze (Zn (Zk Xn hr (Za (dv 2) (Za (Zk Y0 hr (Za (dv 1) (Za (dv 3) Zd))) Zd)))))) λS Q ex=>by
  refine kR λ_=>kP λ_ _=>kP λ_ _=>kP λ_ _=>kI λ_=>kN λh=>?_
  exact⟨λ_=>h.2.1,λp e=>h.2.2 p.1 p.2 (OC e)⟩
def zee  (Zh:Yj e.K e.mg)(Hj:Dmz Zh.C q7 q89 MJ PM)(Xn:Fkz 1 q67 VF SI)(YC:Fkz 1 q22 Wt V5):Fmz 2 Zh.C q7 PM Bv:=
 mkM Hj zb5 (λhr=>(Ze (Zn (Zk Xn hr (Za (dv 3) (Za (Zk YC hr (Za (dv 2) (Za (dv 1) Zd))) Zd)))))) λS Q ex=>by
  refine kR λ_=>kP λ_ _=>kP λ_ _=>kP λ_ _=>kI λ_=>kN λh=>?_
  exact⟨λ_=>h.2.1,λp e=>h.2.2 p.1 p.2 (OC e)⟩
def zek  (Zh:Yj e.K e.mg)(Zp:Yv e.K e.mg)(Zq:YA e.K e.mg)(Zi:Yh e.K e.mg)(Zj:Yl e.K e.mg)(Zo:Yu e.K e.mg)(Ii:Dmz Zh.C "back" q69 Lw RG)(O2:Fmz 2 Zh.C q7 PM Bv)(Qt:Fmz 2 Zh.C q10 P6 Ab):Fmz 3 Zh.C "back" RG (Iu Zp.C Zq.C Zi.C Zh.C Zj.C Zo.C):=
 mkM Ii Mi (λhr=>(Zf (Zt (i:=4) Mi.nd (Y7 (C:=Zh.C) (dv 0) Zh.cl Qt.m Qt.ok (hr.mono (by decide)) Qt.b Yq (Za (dv 2) (Za (ZI (dv 1) (ZM Zh.cl Zh.n_one (dv 0))) (Za (ZI (dv 1) (ZM Zh.cl Zh.n_other (dv 0))) (Za (dv 3) Zd)))))) (Zf (ZD (Zy YH (dv 4) ZX (Zw _)) (Ze (Zn ZX)) ZH) (Zf (Zt (i:=5) Mi.nd (XH (Zy (ZO hr) (ZM Zh.cl Zh.n_one (dv 0)) (ZM Zh.cl Zh.n_other (dv 0)) (Zw _)) (dv 4) (ZI (dv 1) (ZM Zh.cl Zh.n_other (dv 0))))) (Zf (Zt (i:=5) Mi.nd (Y7 (C:=Zh.C) (dv 0) Zh.cl O2.m O2.ok (hr.mono (by decide)) O2.b Yq (Za (dv 2) (Za (dv 4) (Za (dv 5) (Za (dv 3) Zd)))))) (Zf (ZD (Zy YH (dv 5) ZX (Zw _)) (Ze (Zn ZX)) ZH) (Ze (Zn (Yi (Za (ZG (Za (ZM Zh.cl Zh.n_one (dv 0)) (Za (dv 4) Zd))) (Za (ZG (Za (ZM Zh.cl Zh.n_other (dv 0)) (Za (dv 5) Zd))) Zd))))))))))) λS Q ex=>by
  refine kR λn=>kR λw=>kP λz0 z1=>kI λg=>kN λh=>?_
  obtain⟨i,j,vs,q,hn,hw,ok,⟨hs,⟨sz0,sz1⟩,hg⟩,h1,h2⟩:=h;have a:=hs.at ok.1
  have b:=hs.at ok.2
  have up:∀ {x:Int},Sz 1000 x->Sz 1100 x:=λz=>z.mono (by decide)
  refine YL (n:=n) (fs:=[("one",.int i),("other",.int j)]) kId hn rfl ?_;refine ZL (n:=n) kId hn rfl ?_;refine ZE (o:=.lst (vs.map frD)) hw (ZP ok.1) ?_;refine ZL (n:=n) kId hn rfl ?_;refine ZE (o:=.lst (vs.map frD)) hw (ZP ok.2) ?_;refine⟨⟨up sz0,up sz1,up b.1,up b.2,Sz.of 1000000 (by lia)⟩,h1,λp p' l=>?_⟩;have z:=l _ a.1 a.2;refine ZL (n:=n) kId hn rfl ?_;refine ZL (n:=n) kId hn rfl ?_;refine ifD (λc=>?_) (λc=>?_)
  all_goals try refine ZL (n:=n) kId hn rfl ?_
  all_goals try refine ZE (o:=.lst (vs.map frD)) hw (ZP ok.2) ?_
  all_goals
   refine YL (n:=n) (fs:=[("one",.int i),("other",.int j)]) kId hn rfl ?_;refine⟨⟨up sz0,up sz1,up z.1,up z.2,Sz.of 1000000 (by lia)⟩,h1,λr r' k=>?_⟩;refine ZL (n:=n) kId hn rfl ?_;refine ZL (n:=n) kId hn rfl ?_;exact h2 [(i,p,p'),(j,r,r')] (Gb ok.1 ok.2 z (k _ (by first|exact z.1|exact b.1) (by first|exact z.2|exact b.2)))
def zg4  (Gi:Dfz q34 NI Ou):Fkz 1 q34 Ou Bu:=
 mkF Gi AS (λhr=>(Ze (Zn (zdy RM RM (Zg (dv 0) Zb) Zb (Zg (dv 0) Zb))))) λS Q ex=>by
  refine kP λ_ _=>kN λh=>?_
  exact and2 h
def zdX  (JL:Dfz q26 Kw Te)(Yb:e.mg "min"=none)(Z2:e.mg "max"=none):Fkz 1 q26 Te II:=
 mkF JL zdV (λhr=>(Zf (ZD (PDW.pt (UC (Zy X0 (Zg (dv 1) Zb) (Zg (dv 0) Zb) (Zw _)) (OW (Zy YK (Zg (dv 2) Zb) (Zg (dv 0) Zb) (Zw _))))) (Ze (Zn ZX)) ZH) (Ze (Zn (ZG (Za (ZR (WA rfl) rfl Z2 Boot.«max» (Za (Zg (dv 1) Zb) (Za (Zg (dv 0) Zb) Zd))) (Za (ZR (VA rfl) rfl Yb Boot.«min» (Za (Zg (dv 2) Zb) (Za (Zg (dv 0) Zb) Zd))) Zd))))))) λS Q ex=>by
  refine kP λx0 x1=>kP λl0 l1=>kP λk0 k1=>kN λh=>?_
  obtain⟨⟨a1,a2⟩,h1,h2⟩:=h;refine ifD (λc=>h1) (λc1=>ifD (λc=>h1) (λc2=>?_));exact h2 (if x0 > l0 then x0 else l0) (if x1<k1 then x1 else k1) λB z0 z1=>⟨Sz.btw z0 z1 (by dsimp only;split<;>lia),Sz.btw z0 z1 (by dsimp only;split<;>lia)⟩
def zdf  (Jx:Dfz q71 Mw Pu)(Wh:Fkz 1 q28 Ub Qg):Fkz 2 q71 Pu B8:=
 mkF Jx zf7 (λhr=>(Ze (Zn (ZG (Za (Zl Xw (dv 0) (dv 1)) (Za (Zk Wh hr (Za (dv 0) (Za (dv 1) Zd))) Zd)))))) λS Q ex=>by
  refine kI λ_=>kI λ_=>kN λh=>?_
  obtain⟨hb,h⟩:=h;exact⟨hb,hb,h⟩
def zgJ  (KH:Dfz q35 Nv QV)(V3:Fkz 1 q26 Te II)(L4:Fkz 2 q71 Pu B8):Fkz 3 q35 QV Ce:=
 mkF KH Oe (λhr=>(Zf (Zt (i:=3) Oe.nd (XH (Zy X0 (Zg (dv 0) Zb) Zb (Zw _)) (Zg (dv 2) Zb) (Zg (dv 2) Zb))) (Zf (Zt (i:=4) Oe.nd (XH (Zy YK (Zg (dv 0) Zb) Zb (Zw _)) (Zg (dv 2) Zb) (Zg (dv 2) Zb))) (Zf (Zt (i:=5) Oe.nd (XH (Zy (ZO hr) (dv 3) Zb (Zw _)) (ZG (Za (Zg (dv 1) Zb) (Za (Zg (dv 1) Zb) Zd))) (Zk L4 hr (Za (Zg (dv 0) Zb) (Za (dv 3) Zd))))) (Zf (Zt (i:=6) Oe.nd (XH (Zy (ZO hr) (dv 4) Zb (Zw _)) (ZG (Za (Zg (dv 1) Zb) (Za (Zg (dv 1) Zb) Zd))) (Zk L4 hr (Za (Zg (dv 0) Zb) (Za (dv 4) Zd))))) (Ze (Zn (Zk V3 hr (Za (dv 1) (Za (dv 5) (Za (dv 6) Zd))))))))))) λS Q ex=>by
  refine kP λlo hi=>kP λx0 x1=>kP λc d=>kN λh=>?_
  obtain⟨⟨h0,hd,zc,zd⟩,h⟩:=h;refine ifD (λe1=>?_) (λe1=>?_)
  all_goals refine ifD (λe2=>?_) (λe2=>?_)
  all_goals refine ifD (λe3=>?_) (λe3=>?_)
  all_goals try refine⟨⟨by lia,by first|exact zd.log (by lia)|exact zc.log (by lia)⟩,?_⟩
  all_goals refine ifD (λe4=>?_) (λe4=>?_)
  all_goals try refine⟨⟨by lia,by first|exact zd.log (by lia)|exact zc.log (by lia)⟩,?_⟩
  all_goals exact⟨⟨by first|exact yA _|exact CZ (by lia),by first|exact yA _|exact CZ (by lia)⟩,h⟩
def zfd  (J7:Dfz "hull" LD Ql)(Z2:e.mg "max"=none)(Yb:e.mg "min"=none):Fkz 1 "hull" Ql Am:=
 mkF J7 zgb (λhr=>(Ze (Zn (ZG (Za (ZR (VA rfl) rfl Yb Boot.«min» (Za (Zg (dv 0) Zb) (Za (Zg (dv 1) Zb) Zd))) (Za (ZR (WA rfl) rfl Z2 Boot.«max» (Za (Zg (dv 0) Zb) (Za (Zg (dv 1) Zb) Zd))) Zd)))))) λS Q ex=>by
  refine kP λ_ _=>kP λ_ _=>kN λh=>?_
  exact h
def zdo  (NM:Dfz q93 Nw SW)(G1:Fkz 1 "hull" Ql Am):Fkz 2 q93 SW Rj:=
 NM.mk' (Xo (k:=1) NM.F zhx (zbc) λ_ _ _ _ _ _ hr=>⟨_,(Zf (ZD (Zy YH (dv 0) ZX (Zw _)) (Ze (Zn (dv 1))) ZH) (Zf (ZD (Zy YH (dv 1) ZX (Zw _)) (Ze (Zn (dv 0))) ZH) (Ze (Zn (Zk G1 hr (Za (dv 0) (Za (dv 1) Zd))))))),λds S Q ex h=>by
  unfold Rj at h;split at h
  ·exact h
  ·exact h
  ·exact h
  ·exact h.elim⟩)
def zfs  (He:Dfz q48 MP V1):Fkz 1 q48 V1 O0:=
 mkF He AG (λhr=>(Ze (Zn (ZG (Za (XR XS (Zg (dv 0) Zb)) (Za (XR XS (Zg (dv 0) Zb)) Zd)))))) λS Q ex=>by
  refine kP λ_ _=>kN λh=>?_
  exact h
def zfp  (HD:Dfz q43 MK Sk)(SO:Fkz 2 q93 SW Rj)(Ni:Fkz 3 q35 QV Ce)(XZ:Fkz 1 q48 V1 O0)(Ki:Fkz 1 q34 Ou Bu)(Z2:e.mg "max"=none):Fkz 4 q43 Sk IU:=
 mkF HD SV (λhr=>(Zf (ZD (PDW.pt (VY (Wm (Zk Ki hr (Za (dv 2) Zd))) (VX (Wm (Zk Ki hr (Za (dv 0) Zd)))))) (Ze (Zn (dv 1))) ZH) (Zf (Zt (i:=4) SV.nd (ZG (Za (Zl ZS (Zg (dv 0) Zb) (dv 3)) (Za (Zl ZS (Zg (dv 0) Zb) (dv 3)) Zd)))) (Zf (Zt (i:=5) SV.nd ZX) (Zf (ZD (Zy X0 (Zg (dv 2) Zb) Zb (Zw _)) (Ze (Zt (i:=5) SV.nd (Zk Ni hr (Za (dv 4) (Za (dv 1) (Za (ZG (Za (ZR (WA rfl) rfl Z2 Boot.«max» (Za (Zg (dv 2) Zb) (Za Zb Zd))) (Za (Zg (dv 2) Zb) Zd))) Zd)))))) ZH) (Zf (ZD (Zy YK (Zg (dv 2) Zb) Zb (Zw _)) (Zf (Zt (i:=6) SV.nd (Zk Ni hr (Za (Zk XZ hr (Za (dv 4) Zd)) (Za (dv 1) (Za (ZG (Za (ZR (WA rfl) rfl Z2 Boot.«max» (Za (XR XS (Zg (dv 2) Zb)) (Za Zb Zd))) (Za (XR XS (Zg (dv 2) Zb)) Zd))) Zd))))) (Ze (Zt (i:=5) SV.nd (Zk SO hr (Za (dv 5) (Za (dv 6) Zd)))))) ZH) (Ze (Zn (dv 5))))))))) λS Q ex=>by
  refine kP λz0 z1=>kP λx0 x1=>kP λy0 y1=>kI λg=>kN λh=>?_
  obtain⟨⟨sz0,sz1,sy0,sy1,sg⟩,hn,ht⟩:=h;refine if2 (λa1 a2=>if2 (λb1 b2=>ht x0 x1 λB z z'=>⟨z,z'⟩) (λn=>?_)) (λn=>?_)
  all_goals refine⟨ZN sz0 sg,ZN sz1 sg,?_⟩
  all_goals refine ifD (λc1=>?_) (λc1=>?_)
  all_goals try refine⟨⟨Ak _,c1,D6 (sy0.mono (by decide)),sy1.mono (by decide)⟩,?_,λa b l=>?_⟩
  all_goals refine ifD (λc2=>?_) (λc2=>?_)
  all_goals try refine⟨⟨Ak _,by lia,D6 (sy1.neg.mono (by decide)),sy0.neg.mono (by decide)⟩,?_,λa' b' l'=>?_⟩
  all_goals first|exact hn|exact ht _ _ l'|exact ht _ _ l|exact ht (if a'<a then a' else a) (if b' > b then b' else b) (l.hull l')
def zdx  (Zj:Yl e.K e.mg)(IP:Dmz Zj.C q10 SS M9 QG)(Th:Fkz 4 q43 Sk IU):Fmz 5 Zj.C q10 QG BL:=
 mkM IP zhk (λhr=>(Ze (Zn (Zk Th hr (Za (dv 1) (Za (dv 2) (Za (dv 3) (Za (dv 4) Zd)))))))) λS Q ex=>by
  refine kR λ_=>kP λ_ _=>kP λ_ _=>kP λ_ _=>kI λ_=>kN λh=>?_
  exact h
def zg8  (Zj:Yl e.K e.mg)(FI:Dmz Zj.C q7 q90 L1 Qk)(Th:Fkz 4 q43 Sk IU):Fmz 5 Zj.C q7 Qk DM:=
 mkM FI zda (λhr=>(Ze (Zn (Zk Th hr (Za (dv 1) (Za (dv 3) (Za (dv 2) (Za (dv 4) Zd)))))))) λS Q ex=>by
  refine kR λ_=>kP λ_ _=>kP λ_ _=>kP λ_ _=>kI λ_=>kN λh=>?_
  exact h
def zgr  (Zj:Yl e.K e.mg)(Zp:Yv e.K e.mg)(Zq:YA e.K e.mg)(Zi:Yh e.K e.mg)(Zh:Yj e.K e.mg)(Zo:Yu e.K e.mg)(Jo:Dmz Zj.C "back" q69 Kk QN)(OB:Fmz 5 Zj.C q7 Qk DM)(OH:Fmz 5 Zj.C q10 QG BL):Fmz 6 Zj.C "back" QN (Ep Zp.C Zq.C Zi.C Zh.C Zj.C Zo.C):=
 mkM Jo Nn (λhr=>(Zf (Zt (i:=4) Nn.nd (Y7 (C:=Zj.C) (dv 0) Zj.cl OH.m OH.ok (hr.mono (by decide)) OH.b Yq (Za (dv 2) (Za (ZI (dv 1) (ZM Zj.cl Zj.n_one (dv 0))) (Za (ZI (dv 1) (ZM Zj.cl Zj.n_other (dv 0))) (Za (dv 3) Zd)))))) (Zf (ZD (Zy YH (dv 4) ZX (Zw _)) (Ze (Zn ZX)) ZH) (Zf (Zt (i:=5) Nn.nd (XH (Zy (ZO hr) (ZM Zj.cl Zj.n_one (dv 0)) (ZM Zj.cl Zj.n_other (dv 0)) (Zw _)) (dv 4) (ZI (dv 1) (ZM Zj.cl Zj.n_other (dv 0))))) (Zf (Zt (i:=5) Nn.nd (Y7 (C:=Zj.C) (dv 0) Zj.cl OB.m OB.ok (hr.mono (by decide)) OB.b Yq (Za (dv 2) (Za (dv 4) (Za (dv 5) (Za (dv 3) Zd)))))) (Zf (ZD (Zy YH (dv 5) ZX (Zw _)) (Ze (Zn ZX)) ZH) (Ze (Zn (Yi (Za (ZG (Za (ZM Zj.cl Zj.n_one (dv 0)) (Za (dv 4) Zd))) (Za (ZG (Za (ZM Zj.cl Zj.n_other (dv 0)) (Za (dv 5) Zd))) Zd))))))))))) λS Q ex=>by
  refine kR λn=>kR λw=>kP λz0 z1=>kI λg=>kN λh=>?_
  obtain⟨i,j,vs,q,hn,hw,ok,⟨hs,⟨sz0,sz1⟩,hg⟩,h1,h2⟩:=h;have a:=hs.at ok.1
  have b:=hs.at ok.2
  have up:∀ {x:Int},Sz 1000 x->Sz 1100 x:=λz=>z.mono (by decide)
  refine YL (n:=n) (fs:=[("one",.int i),("other",.int j)]) kId hn rfl ?_;refine ZL (n:=n) kId hn rfl ?_;refine ZE (o:=.lst (vs.map frD)) hw (ZP ok.1) ?_;refine ZL (n:=n) kId hn rfl ?_;refine ZE (o:=.lst (vs.map frD)) hw (ZP ok.2) ?_;refine⟨⟨up sz0,up sz1,up b.1,up b.2,Sz.of 1000000 (by lia)⟩,h1,λp p' l=>?_⟩;have z:=l _ a.1 a.2;refine ZL (n:=n) kId hn rfl ?_;refine ZL (n:=n) kId hn rfl ?_;refine ifD (λc=>?_) (λc=>?_)
  all_goals try refine ZL (n:=n) kId hn rfl ?_
  all_goals try refine ZE (o:=.lst (vs.map frD)) hw (ZP ok.2) ?_
  all_goals
   refine YL (n:=n) (fs:=[("one",.int i),("other",.int j)]) kId hn rfl ?_;refine⟨⟨up sz0,up sz1,up z.1,up z.2,Sz.of 1000000 (by lia)⟩,h1,λr r' k=>?_⟩;refine ZL (n:=n) kId hn rfl ?_;refine ZL (n:=n) kId hn rfl ?_;exact h2 [(i,p,p'),(j,r,r')] (Gb ok.1 ok.2 z (k _ (by first|exact z.1|exact b.1) (by first|exact z.2|exact b.2)))
def zfV  (Fw:Dfz q52 LY RL)(Xd:Fkz 1 q66 VP Ss):Fkz 2 q52 RL DL:=
 mkF Fw zgC (λhr=>(Ze (Zn (Zl Xw (Zl Z5 (Zl ZS (Zl Yt (dv 2) Zb) (dv 0)) (Zl Xw (dv 1) (Zk Xd hr (Za (dv 0) (Za (Zl Yt (dv 2) Zb) Zd))))) (dv 2))))) λS Q ex=>by
  refine kI λg=>kI λN=>kI λn=>kN λh=>?_
  obtain⟨⟨n2,n6,hg,sg⟩,h⟩:=h;have zn:Sz 800 (n-1):=Sz.of 6 (by lia)
  have gp:(0:Int)<g^(n-1).toNat:=yE hg;exact⟨ZN zn sg,⟨by lia,by lia,sg.mono (by decide)⟩,((sg.pow (n-1).toNat).mono (show _<=4001 by lia)).fd gp,(Sz.of (n:=800) 6 (by lia):Sz 800 n).fd (by lia),h⟩
def zdO  (FE:Dfz q44 Ma TN)(LL:Fkz 2 q52 RL DL):Fkz 3 q44 TN Iy:=
 mkF FE OS (λhr=>(Zf (ZD (Zy (ZO hr) (dv 0) Zb (Zw _)) (Ze (Zn Zb)) ZH) (Zf (Zt (i:=2) OS.nd (Zl zhu Zb (Zl Z5 (Zl Xw (zhV (dv 0)) (dv 1)) Zb))) (Zf (Zt (i:=3) OS.nd (Zk LL hr (Za (dv 2) (Za (dv 0) (Za (dv 1) Zd))))) (Zf (E9 PassesOwn.never (Zy YK (dv 3) (dv 2) (Zw _)) (Zf (Zt (i:=2) OS.nd (dv 3)) (Ze (Zt (i:=3) OS.nd (Zk LL hr (Za (dv 2) (Za (dv 0) (Za (dv 1) Zd)))))))) (Ze (Zn (dv 2)))))))) λS Q ex=>by
  refine kI λN=>kI λn=>kN λh=>?_
  obtain⟨⟨n2,n6,h0,sN⟩,h⟩:=h;refine ifD (λc=>?_) (λc=>?_)
  ·exact h 0 (by lia) (Sz.of 0 (by decide))
  ·refine⟨(Sz.of (n:=800) 6 (by lia):Sz 800 n).fd (by lia),?_⟩;have d3:=Int.ediv_nonneg (show (0:Int)<=(Builtin.Int.intBits N:Int) by lia) (show 0<=n by lia)
   have d4:(Builtin.Int.intBits N:Int)/n<=(Builtin.Int.intBits N:Int):=Int.ediv_le_self _ (by lia)
   have d5:=sN.bits;refine⟨⟨by lia,by lia,by decide⟩,?_⟩;have s0:=(zg0 n2 sN).mono (show 652<=800 by decide)
   have g0:(0:Int)<1*2^((Builtin.Int.intBits N:Int)/n+1).toNat:=by rw[Int.one_mul];exact yE (by decide)
   refine⟨⟨n2,n6,g0,s0⟩,?_⟩;refine⟨λm dl' S'=>S'=S/\∃x:Int,dl'=[some (.int N),some (.int n),some (.int x),some (.int (((n-1)*x+N/x^(n-1).toNat)/n))]/\0<x/\Sz 800 x/\m=x.toNat,⟨_,rfl,_,rfl,g0,s0,rfl⟩,?_⟩;rintro m dl' S' ⟨rfl,x,rfl,x0,sx,rfl⟩;have ge:=AH (N:=N) n2 x0 (by lia);refine ifD (λc=>?_) (λc=>?_)
   ·have s1:Sz 800 (((n-1)*x+N/x^(n-1).toNat)/n):=Sz.mid (a:=0) (Sz.of 0 (by decide)) sx (by lia) (by lia);exact⟨⟨n2,n6,ge,s1⟩,_,by lia,rfl,_,rfl,ge,s1,rfl⟩
   ·exact h x (by lia) sx
def zce (VQ:Dfz "root" OL VM)(Xd:Fkz 1 q66 VP Ss)(SY:Fkz 3 q44 TN Iy)(XZ:Fkz 1 q48 V1 O0)(G6:Fkz 0 "root" VM Fe):Fkz 4 "root" VM RT:=
 VQ.mk' (Xo (k:=3) VQ.F NZ zfZ λ_ _ _ _ _ _ hr=>⟨_,(Zf (ZD (Zy YK (dv 0) Zb (Zw _)) (Ze (Zn (Zk XZ hr (Za (Je G6 (hr.mono (by decide)) Yq rfl (Za (XR XS (dv 0)) (Za (dv 1) Zd))) Zd)))) ZH) (Zf (Zt (i:=2) NZ.nd (Zk SY hr (Za (dv 0) (Za (dv 1) Zd)))) (Zf (ZD (Zy (ZO hr) (Zk Xd hr (Za (dv 2) (Za (dv 1) Zd))) (dv 0) (Zw _)) (Ze (Zn (ZG (Za (dv 2) (Za (dv 2) Zd))))) ZH) (Ze (Zn (ZG (Za (dv 2) (Za (Zl Z5 (dv 2) Zb) Zd)))))))),λds S Q ex h=>by
  unfold RT at h;split at h
  ·rename_i N n;obtain⟨⟨n2,n6,h0,sN⟩,h⟩:=h;exact ifD (λc=>absurd c (by lia)) (λc=>⟨⟨n2,n6,by lia,sN⟩,λr r0 sr=>⟨⟨by lia,n6,sr.mono (by decide)⟩,ifD (λ_=>h r r (yA _)) (λ_=>h r (r+1) (by lia))⟩⟩)
  ·exact h.elim⟩)
def zb1 (VQ:Dfz "root" OL VM)(Xd:Fkz 1 q66 VP Ss)(SY:Fkz 3 q44 TN Iy)(XZ:Fkz 1 q48 V1 O0)(G6:Fkz 4 "root" VM RT):Fkz 5 "root" VM Qd:=
 VQ.mk' (Xo (k:=4) VQ.F NZ zef λ_ _ _ _ _ _ hr=>⟨_,(Zf (ZD (Zy YK (dv 0) Zb (Zw _)) (Ze (Zn (Zk XZ hr (Za (Je G6 (hr.mono (by decide)) Yq rfl (Za (XR XS (dv 0)) (Za (dv 1) Zd))) Zd)))) ZH) (Zf (Zt (i:=2) NZ.nd (Zk SY hr (Za (dv 0) (Za (dv 1) Zd)))) (Zf (ZD (Zy (ZO hr) (Zk Xd hr (Za (dv 2) (Za (dv 1) Zd))) (dv 0) (Zw _)) (Ze (Zn (ZG (Za (dv 2) (Za (dv 2) Zd))))) ZH) (Ze (Zn (ZG (Za (dv 2) (Za (Zl Z5 (dv 2) Zb) Zd)))))))),λds S Q ex h=>by
  unfold Qd at h;split at h
  ·rename_i N n;obtain⟨⟨n2,n6,sN⟩,h⟩:=h;exact ifD (λc=>⟨⟨n2,n6,by lia,sN.neg⟩,λa b l=>h (-b) (-a) (by lia)⟩) (λc=>⟨⟨n2,n6,by lia,sN⟩,λr r0 sr=>⟨⟨by lia,n6,sr.mono (by decide)⟩,ifD (λ_=>h r r (yA _)) (λ_=>h r (r+1) (by lia))⟩⟩)
  ·exact h.elim⟩)
def zdu  (G2:Dfz q53 Lp OR)(SO:Fkz 2 q93 SW Rj)(V3:Fkz 1 q26 Te II)(XZ:Fkz 1 q48 V1 O0)(T6:Fkz 5 "root" VM Qd)(Xd:Fkz 1 q66 VP Ss)(Z2:e.mg "max"=none):Fkz 6 q53 OR C0:=
 mkF G2 Oj (λhr=>(Zf (Zt (i:=4) Oj.nd (Zk Xd hr (Za (dv 3) (Za (Zl Yt (dv 2) Zb) Zd)))) (Zf (Zt (i:=5) Oj.nd (ZG (Za (Zl ZS (Zg (dv 0) Zb) (dv 4)) (Za (Zl ZS (Zg (dv 0) Zb) (dv 4)) Zd)))) (Zf (ZD (Zy (ZO hr) (Zl Yp (dv 2) Zb) Zb (Zw _)) (Ze (Zn (Zk V3 hr (Za (dv 1) (Za (Zk T6 hr (Za (Zg (dv 5) Zb) (Za (dv 2) Zd))) (Za (Zk T6 hr (Za (Zg (dv 5) Zb) (Za (dv 2) Zd))) Zd)))))) ZH) (Zf (ZD (Zy YK (Zg (dv 5) Zb) Zb (Zw _)) (Ze (Zn ZX)) ZH) (Zf (Zt (i:=6) Oj.nd (Zk T6 hr (Za (ZR (WA rfl) rfl Z2 Boot.«max» (Za (Zg (dv 5) Zb) (Za Zb Zd))) (Za (dv 2) Zd)))) (Zf (Zt (i:=7) Oj.nd (Zk T6 hr (Za (Zg (dv 5) Zb) (Za (dv 2) Zd)))) (Ze (Zn (Zk SO hr (Za (Zk V3 hr (Za (dv 1) (Za (dv 6) (Za (dv 7) Zd)))) (Za (Zk V3 hr (Za (dv 1) (Za (Zk XZ hr (Za (dv 7) Zd)) (Za (Zk XZ hr (Za (dv 6) Zd)) Zd)))) Zd)))))))))))) λS Q ex=>by
  refine kP λz0 z1=>kP λx0 x1=>kI λn=>kI λg=>kN λh=>?_
  obtain⟨⟨n2,n6,sg,sz0,sz1⟩,hn,ht⟩:=h;refine⟨⟨by lia,by lia,sg.mono (by decide)⟩,?_⟩;have sgp:Sz 181 (g^(n-1).toNat):=(sg.pow _).mono (by lia);refine⟨ZN sz0 sgp,ZN sz1 sgp,?_⟩;have slo:Sz 1300 (z0*g^(n-1).toNat):=(sz0.mul sgp).mono (by decide)
  have shi:Sz 1300 (z1*g^(n-1).toNat):=(sz1.mul sgp).mono (by decide);generalize g^(n-1).toNat=G at *
  refine ifD (λe=>?_) (λe=>?_)
  ·exact⟨⟨n2,n6,slo⟩,λa b l=>⟨⟨n2,n6,shi⟩,λc d k=>⟨⟨l,k⟩,hn,ht⟩⟩⟩
  ·refine ifD (λe2=>hn) (λe2=>?_);refine⟨⟨n2,n6,(by show Sz 1300 (mx0 (z0*G));unfold mx0;split;exact Sz.of 0 (by decide) (yG (by decide));exact slo)⟩,λa b l=>⟨⟨n2,n6,shi⟩,λc d k=>?_⟩⟩;refine⟨⟨l,k⟩,⟨⟨by lia,by lia⟩,hn,λp q r=>ht p q r⟩,λp q r=>⟨⟨by lia,by lia⟩,ht p q r,λp' q' r'=>?_⟩⟩;exact ht (if p'<p then p' else p) (if q' > q then q' else q) (r.hull r')
def zcf  (Zo:Yu e.K e.mg)(Zp:Yv e.K e.mg)(Zq:YA e.K e.mg)(Zi:Yh e.K e.mg)(Zh:Yj e.K e.mg)(Zj:Yl e.K e.mg)(K4:Dmz Zo.C "back" Tr Ly PV)(HH:Fkz 6 q53 OR C0):Fmz 7 Zo.C "back" PV (IH Zp.C Zq.C Zi.C Zh.C Zj.C Zo.C):=
 mkM K4 BK (λhr=>(Zf (Zt (i:=4) BK.nd (Zk HH hr (Za (dv 2) (Za (ZI (dv 1) (ZM Zo.cl Zo.n_one (dv 0))) (Za (ZM Zo.cl Zo.n_many (dv 0)) (Za (dv 3) Zd)))))) (Zf (ZD (Zy YH (dv 4) ZX (Zw _)) (Ze (Zn ZX)) ZH) (Ze (Zn (Yi (Za (ZG (Za (ZM Zo.cl Zo.n_one (dv 0)) (Za (dv 4) Zd))) Zd))))))) λS Q ex=>by
  refine kR λn=>kR λw=>kP λz0 z1=>kI λg=>kN λh=>?_
  obtain⟨i,m,vs,q,hn,hw,ok,⟨hs,⟨sz0,sz1⟩,hg⟩,h1,h2⟩:=h;refine ZL (n:=n) kId hn rfl ?_;refine ZE (o:=.lst (vs.map frD)) hw (ZP ok.1) ?_;refine ZL (n:=n) kId hn rfl ?_;have a:=hs.at ok.1;refine⟨⟨ok.2.1,ok.2.2,Sz.of 1000000 (by lia),sz0.mono (by decide),sz1.mono (by decide)⟩,h1,λp p' l=>?_⟩;refine ZL (n:=n) kId hn rfl ?_;exact h2 [(i,p,p')] ⟨by simp,λr hr=>by cases zS.mp hr;exact⟨ok.1,l _ a.1 a.2⟩⟩
def A0  (Zo:Yu e.K e.mg)(Zj:Yl e.K e.mg)(Zh:Yj e.K e.mg)(Zi:Yh e.K e.mg)(Zq:YA e.K e.mg)(Zp:Yv e.K e.mg)(K9:Dfz q82 Kh P7)(FC:Fmz 7 Zo.C "back" PV (IH Zp.C Zq.C Zi.C Zh.C Zj.C Zo.C))(G5:Fmz 6 Zj.C "back" QN (Ep Zp.C Zq.C Zi.C Zh.C Zj.C Zo.C))(JM:Fmz 3 Zh.C "back" RG (Iu Zp.C Zq.C Zi.C Zh.C Zj.C Zo.C))(JJ:Fmz 3 Zi.C "back" RN (GZ Zp.C Zq.C Zi.C Zh.C Zj.C Zo.C))(GW:Fmz 1 Zq.C "back" Qp (KW Zp.C Zq.C Zi.C Zh.C Zj.C Zo.C))(HU:Fmz 1 Zp.C "back" PX (Fh Zp.C Zq.C Zi.C Zh.C Zj.C Zo.C))(VS:Fkz 3 q99 Um (Lj Zp.C Zq.C Zi.C Zh.C Zj.C Zo.C))(GL:Fkz 2 WW Pq BV)(Yw:Fkz 4 q33 X1 VH)(Z1:e.mg XY=none):Fkz 8 q82 P7 C8:=
 mkF K9 Us (λhr=>(Zf (Zt (i:=4) Us.nd (Zg (dv 1) Zb)) (Zf (Zt (i:=5) Us.nd (Zk Yw hr (Za (W8 (dv 0) Vj (WS (Zl Z5 (dv 4) Zb))) (Za (dv 2) (Za (dv 3) Zd))))) (Zf (Zt (i:=6) Us.nd (Zk GL hr (Za (Zg (dv 1) Zb) (Za (ZI (dv 5) (dv 4)) Zd)))) (Zf (ZD (Zy YH (dv 6) ZX (Zw _)) (Ze (Zn ZX)) ZH) (Zf (R4 (dv 5) (dv 4) (dv 6)) (Zf (zbR (i:=7) PassesOwn.never rfl Us.nd rfl (Or.inl rfl) rfl Z1 (Za (dv 4) (Za (XR XS Zb) (Za (XR XS Zb) Zd))) (Zf (Zt (i:=8) Us.nd (JQ (Zk VS hr (Za (ZI (dv 0) (dv 7)) Zd)) (Y3 Zp.cl HU (hr.mono (by decide)) (Y3 Zq.cl GW (hr.mono (by decide)) (Y3 Zi.cl JJ (hr.mono (by decide)) (Y3 Zh.cl JM (hr.mono (by decide)) (Y3 Zj.cl G5 (hr.mono (by decide)) (Y3 Zo.cl FC (hr.mono (by decide)) HI)))))) Yq (Za (dv 5) (Za (ZI (dv 5) (dv 7)) (Za (dv 3) Zd))))) (Zf (ZD (Zy YH (dv 8) ZX (Zw _)) (Ze (Zn ZX)) ZH) (Ze (WD (i:=9) PassesOwn.never rfl Us.nd rfl (Or.inl rfl) (dv 8) (Ze (R4 (dv 5) (Zg (dv 9) Zb) (Zg (dv 9) Zb)))))))) (Ze (Zn (dv 5)))))))))) λS Q ex=>by
  refine kR λa=>kT λw k=>kR λb=>kI λg=>kN λh=>?_
  obtain⟨ns,ws,bs,zero,ha,hb,hw,⟨k0,k1⟩,net,sb,hg,hl,h1,h2⟩:=h;have disp:∀v:Nd,∃C fs sd,v.ob Zp.C Zq.C Zi.C Zh.C Zj.C Zo.C=.ins C fs/\(C,sd)∈[(Zp.C,Fh Zp.C Zq.C Zi.C Zh.C Zj.C Zo.C),(Zq.C,KW Zp.C Zq.C Zi.C Zh.C Zj.C Zo.C),(Zi.C,GZ Zp.C Zq.C Zi.C Zh.C Zj.C Zo.C),(Zh.C,Iu Zp.C Zq.C Zi.C Zh.C Zj.C Zo.C),(Zj.C,Ep Zp.C Zq.C Zi.C Zh.C Zj.C Zo.C),(Zo.C,IH Zp.C Zq.C Zi.C Zh.C Zj.C Zo.C)]/\fs.lookup ("back":Str)=none/\∀(n w:Nat)(z:Int×Int)(g q:Int)(S:Sto)(Q:DK)(ex:Addr->Sto->Prop)(vs:LI),S[n]?=some (v.ob Zp.C Zq.C Zi.C Zh.C Zj.C Zo.C)->S[w]?=some (.lst (vs.map frD))->v.ok vs.length q->(Bd 1000 vs/\(Sz 1000 z.1/\Sz 1000 z.2)/\(1<=g/\g<=1000000))->Q .non S->(∀l,Ptw vs.length l->Q (.ref S.length) (S++[.lst (l.map ptD)]))->sd [.ref n,.ref w,frD z,.int g] S Q ex:=by
   intro v;cases v with
   | number x y=>exact⟨_,_,_,rfl,(.head _),rfl,λn w z g q S Q ex vs a1 a2 a3 a4 q1 q2=>⟨x,y,vs,q,a1,a2,a3,a4,q1,q2⟩⟩
   | unknown k=>exact⟨_,_,_,rfl,(.tail _ (.head _)),rfl,λn w z g q S Q ex vs a1 a2 a3 a4 q1 q2=>⟨k,vs,q,a1,a2,a3,a4,q1,q2⟩⟩
   | plus i j=>exact⟨_,_,_,rfl,(.tail _ (.tail _ (.head _))),rfl,λn w z g q S Q ex vs a1 a2 a3 a4 q1 q2=>⟨i,j,vs,q,a1,a2,a3,a4,q1,q2⟩⟩
   | minus i j=>exact⟨_,_,_,rfl,(.tail _ (.tail _ (.tail _ (.head _)))),rfl,λn w z g q S Q ex vs a1 a2 a3 a4 q1 q2=>⟨i,j,vs,q,a1,a2,a3,a4,q1,q2⟩⟩
   | times i j=>exact⟨_,_,_,rfl,(.tail _ (.tail _ (.tail _ (.tail _ (.head _))))),rfl,λn w z g q S Q ex vs a1 a2 a3 a4 q1 q2=>⟨i,j,vs,q,a1,a2,a3,a4,q1,q2⟩⟩
   | power i m=>exact⟨_,_,_,rfl,(.tail _ (.tail _ (.tail _ (.tail _ (.tail _ (.head _)))))),rfl,λn w z g q S Q ex vs a1 a2 a3 a4 q1 q2=>⟨i,m,vs,q,a1,a2,a3,a4,q1,q2⟩⟩
  obtain⟨kn,rfl⟩:∃kn:Nat,k=(kn:Int):=⟨k.toNat,by lia⟩;rw[zN] at h2;have hk:kn<ns.length:=by lia
  refine WU (n:=a) (o:=.lst (ns.map Nd.d)) (lo:=none) (hi:=some ((kn:Int)+1)) (S3:=S) kId kId kId ha ?_;have ec:Yd (ns.map Nd.d) none (some ((kn:Int)+1))=(ns.take (kn+1)).map Nd.d:=by
   rw[OJ (by lia) (by rw[zB];lia),xF];rfl
  rw[show Zv (Ob.lst (ns.map Nd.d))=ns.map Nd.d from rfl,ec];refine⟨ns.take (kn+1),ws.take (kn+1),bs,Zz _ _,ZF hb,net.take _,sb,hg,by rw[zL];lia,λT m pr lm hf=>?_⟩;have prS:Pre S T:=λn o e=>pr n o (ZF e)
  have lm':S.length<=m:=by
   have z:(S++[Ob.lst ((ns.take (kn+1)).map Nd.d)]).length<=m:=lm;rw[zP] at z;lia
  have s1:Bd 1000 (ZC bs g (ns.take (kn+1))):=λp hp=>(NG net rfl sb hg (kn+1) (by lia) p hp).2
  have l1:(ZC bs g (ns.take (kn+1))).length=kn+1:=by rw[Xk,zL];lia
  generalize ZC bs g (ns.take (kn+1))=fs at hf s1 l1;have ik:inR ((fs.length:Nat):Int) (kn:Int):=⟨by lia,by lia⟩
  have a1:=s1.at ik;refine ZE (o:=.lst (fs.map frD)) hf (ZP ik) ?_;refine⟨zero,hw,h1 T prS,λp p' le=>?_⟩;refine T7 (n:=m) (k:=(kn:Int)) (j:=kn) (xs:=fs.map frD) (v:=frD (p,p')) kId kId kId hf (by rw[zB,TK ik];rfl) ?_;rw[QP];refine⟨rfl,⟨by lia,by lia,by lia,by lia⟩,λt dl' S'=>t<=kn+1/\Pre S S'/\∃us:LI,S'[m]?=some (.lst (us.map frD))/\us.length=kn+1/\Bd 1000 us/\∃u7 u8 u9:Option D,dl'=[some (.ref a),some (.tup [.str w,.int (kn:Int)]),some (.ref b),some (.int g),some (.int (kn:Int)),some (.ref m),some (frD (p,p')),u7,u8,u9],⟨by lia,Xz prS lm',_,YE hf,by rw[yC];exact l1,s1.put (le _ a1.1 a1.2),_,_,_,rfl⟩,?_⟩;rintro t dl' S' ⟨ht,prt,us,hu,lu,su,u7,u8,u9,rfl⟩;refine ite2 (λtc=>?_) (λtc=>?_)
  ·have tc':t<kn+1:=by
    have z:t<((kn:Int) - -1).toNat:=tc;lia
   obtain⟨j,ej⟩:∃j:Nat,kn=j+t:=⟨kn-t,by lia⟩;have en:(kn:Int)-(t:Int)=(j:Int):=by lia
   have hv:ns[j]?=some ns[j]:=zD (by lia);generalize ns[j]=v at hv;have ok:v.ok us.length bs.length:=zhH (by lia) (net.ok j v hv).1
   have ij:inR ((us.length:Nat):Int) (j:Int):=⟨by lia,by lia⟩;obtain⟨C,gs,sd,eo,hm,hf2,go⟩:=disp v;have N1:=Zz S' (v.ob Zp.C Zq.C Zi.C Zh.C Zj.C Zo.C);rw[en];refine JC (n:=S'.length) (C:=C) (sd:=sd) (fs:=gs) (S1:=S'++[v.ob Zp.C Zq.C Zi.C Zh.C Zj.C Zo.C]) (λK hK=>?_) (by rw[<- eo];exact N1) hm hf2 ?_
   ·refine ZE (o:=.lst (ns.map Nd.d)) (prt _ _ ha) (EX hv) ?_;exact⟨v,rfl,by exact hK⟩
   refine ZE (o:=.lst (us.map frD)) (ZF hu) (ZP ij) ?_;refine go _ _ (gt us (j:Int)) _ bs.length _ _ _ us N1 (ZF hu) ok ⟨su,su.at ij,hg⟩ (h1 _ (Wg prt _)) (λl P=>?_);have lS:m<S'.length:=Z8 hu;refine Vp (n:=(S'++[v.ob Zp.C Zq.C Zi.C Zh.C Zj.C Zo.C]).length) (o:=.lst (l.map ptD)) (λi dl2 S2=>Pre S S2/\S2[(S'++[v.ob Zp.C Zq.C Zi.C Zh.C Zj.C Zo.C]).length]?=some (.lst (l.map ptD))/\∃(vs:LI)(u9:Option D),S2[m]?=some (.lst (vs.map frD))/\vs.length=kn+1/\Bd 1000 vs/\dl2=[some (.ref a),some (.tup [.str w,.int (kn:Int)]),some (.ref b),some (.int g),some (.int (kn:Int)),some (.ref m),some (frD (p,p')),some (.int (j:Int)),some (.ref (S'++[v.ob Zp.C Zq.C Zi.C Zh.C Zj.C Zo.C]).length),u9]) ⟨Wg (Wg prt _) _,Zz _ _,us,_,ZF (ZF hu),lu,su,rfl⟩ (λi dl2 S2 z=>z.2.1) ?_ ?_
   ·rintro i x dl2 S2 nx ct ex' ⟨pr2,hl2,vs,u9,hu2,lv,sv,rfl⟩ hn;have ex2:(l.map ptD)[i]?=some x:=ex';rw[zE] at ex2;obtain⟨p,hp,rfl⟩:=zG.mp ex2;obtain⟨q1,q2⟩:=P.2 p (zF hp);refine T7 (n:=m) (k:=p.1) (j:=p.1.toNat) (xs:=vs.map frD) (v:=frD p.2) kId kId kId hu2 (by rw[zB,lv,<- lu];exact TK q1) ?_;rw[QP];refine hn _ _ ⟨Xz pr2 lm',Yg hl2 (by rw[zP];lia),_,_,YE hu2,by rw[yC];exact lv,sv.put q2,rfl⟩
   ·rintro dl2 S2 ⟨pr2,hl2,vs,u9,hu2,lv,sv,rfl⟩;exact⟨by lia,pr2,vs,hu2,lv,sv,_,_,_,rfl⟩
  ·exact h2 us S' m lu prt lm' hu
def zdA  (FN:Dfz Vt LV PR)(Hd:Fkz 8 q82 P7 C8)(Z6:e.mg q70=none)(Xb:e.mg "list"=none):Fkz 9 Vt PR E2:=
 mkF FN Pd (λhr=>(Zf (Zt (i:=4) Pd.nd (Zk Hd hr (Za (dv 0) (Za (dv 1) (Za (dv 2) (Za (dv 3) Zd)))))) (Zf (ZD (Zy YH (dv 4) ZX (Zw _)) (Ze (Zn ZX)) ZH) (Zf (Zt (i:=5) Pd.nd (S6 (ZY TX) rfl Xb Boot.«list» (Za (dv 2) Zd))) (Zf (Lc (is:=[6,7]) PassesOwn.never rfl Pd.nd (Nms.cons (i:=6) rfl (Or.inl rfl) (by first|exact .inl rfl|exact .inr rfl) (Nms.cons (i:=7) rfl (Or.inl rfl) (by first|exact .inl rfl|exact .inr rfl) Nms.nil)) rfl rfl Z6 Boot.«enumerate» (Za (dv 4) Zd) (Zf (Zt (i:=8) Pd.nd (ZI (dv 0) (dv 6))) (Ze (ZD (Zy (ZO hr) (Zg (dv 8) Zb) ZW (Zw _)) (Ze (R4 (dv 5) (Zg (dv 8) Zb) (dv 7))) ZH)))) (Ze (Zn (dv 5)))))))) λS Q ex=>by
  refine kR λa=>kT λw k=>kR λb=>kI λg=>kN λh=>?_
  obtain⟨ns,ws,bs,zero,ha,hb,hw,⟨k0,k1⟩,net,sb,hg,hl,h1,h2⟩:=h;refine⟨ns,ws,bs,zero,ha,hb,hw,⟨k0,k1⟩,net,sb,hg,hl,h1,λus T m lu pr lm hu=>?_⟩;have lS:m<T.length:=Z8 hu;refine TU (ZZ (pr _ _ hb) rfl) ?_;refine N9 (n:=m) (xs:=us.map frD) (S1:=T++[.lst (bs.map frD)]) (λi dl' S'=>Pre S S'/\S'[m]?=some (.lst (us.map frD))/\∃(vs:LI)(u6 u7 u8:Option D),S'[T.length]?=some (.lst (vs.map frD))/\vs.length=bs.length/\dl'=[some (.ref a),some (.tup [.str w,.int k]),some (.ref b),some (.int g),some (.ref m),some (.ref T.length),u6,u7,u8]) kId (λi dl' S' z=>z.2.1) ⟨Wg pr _,ZF hu,bs,_,_,_,Zz _ _,rfl,rfl⟩ ?_ ?_
  ·rintro i x dl' S' nx ct ex' ⟨pr',hu',vs,u6,u7,u8,hl',lv,rfl⟩ hn;rw[zE] at ex';obtain⟨p,hp,rfl⟩:=zG.mp ex';have hi':=(zA.mp hp).1
   have hv:ns[i]?=some ns[i]:=zD (by lia);generalize ns[i]=v at hv;have okv:=(net.ok i v hv).1;refine ZE (o:=.lst (ns.map Nd.d)) (pr' _ _ ha) (EX hv) ?_;have no:=hn _ _ ⟨pr',hu',vs,some (.int (i:Int)),some (frD p),some v.d,hl',lv,rfl⟩;cases v with
   | unknown u=>
    have oku:inR ((vs.length:Nat):Int) u:=by rw[lv];exact okv
    refine T7 (n:=T.length) (k:=u) (j:=u.toNat) (xs:=vs.map frD) (v:=frD p) kId kId kId hl' (by rw[zB];exact TK oku) ?_;rw[QP];exact hn _ _ ⟨Xz pr' (Xv pr),Yg hu' (by lia),_,_,_,_,YE hl',by rw[yC];exact lv,rfl⟩
   | number _ _=>exact no
   | plus _ _=>exact no
   | minus _ _=>exact no
   | times _ _=>exact no
   | power _ _=>exact no
  ·rintro dl' S' ⟨pr',hu',vs,u6,u7,u8,hl',lv,rfl⟩;exact h2 vs S' T.length lv pr' (Xv pr) hl'
def zdt  (JV:Dfz q80 Nj Sx):Fkz 1 q80 Sx JT:=
 mkF JV zfy (λhr=>(Ze (Zn (Zl Nz (Zl Nz (W8 (dv 0) Vj (WS (dv 1))) (Yi (Za (dv 2) Zd))) (W8 (dv 0) (WS (Zl Z5 (dv 1) Zb)) Vj))))) λS Q ex=>by
  refine kR λb=>kI λk=>kD λd=>kN λh=>?_
  obtain⟨bs,p,hb,⟨k0,k1⟩,l4,rfl,h⟩:=h;obtain⟨kn,rfl⟩:∃kn:Nat,k=(kn:Int):=⟨k.toNat,by lia⟩;rw[zN] at h;have c1:=BR (α:=Nat) (xs:=bs.map frD) (lo:=none) (hi:=some (kn:Int))
  have c2:=BR (α:=Nat) (xs:=bs.map frD) (lo:=some ((kn:Int)+1)) (hi:=none);rw[zB] at c1 c2;refine WU (n:=b) (o:=.lst (bs.map frD)) (lo:=none) (hi:=some (kn:Int)) (S3:=S) kId kId kId hb ?_;rw[show Zv (Ob.lst (bs.map frD))=bs.map frD from rfl];refine L0 (n:=S.length) (m:=(S++[Ob.lst (Yd (bs.map frD) none (some (kn:Int)))]).length) (xs:=Yd (bs.map frD) none (some (kn:Int))) (ys:=[frD p]) (ZF (Zz _ _)) (Zz _ _) (by show (Yd (bs.map frD) none (some (kn:Int))).length+1<=1000;lia) ?_;refine WU (n:=b) (o:=.lst (bs.map frD)) (lo:=some ((kn:Int)+1)) (hi:=none) (S3:=S++[Ob.lst (Yd (bs.map frD) none (some (kn:Int)))]++[Ob.lst [frD p]]++[Ob.lst (Yd (bs.map frD) none (some (kn:Int))++[frD p])]) kId kId kId (ZF (ZF (ZF hb))) ?_;rw[show Zv (Ob.lst (bs.map frD))=bs.map frD from rfl];refine L0 (xs:=Yd (bs.map frD) none (some (kn:Int))++[frD p]) (ys:=Yd (bs.map frD) (some ((kn:Int)+1)) none) (ZF (Zz _ _)) (Zz _ _) (by rw[zP];show (Yd (bs.map frD) none (some (kn:Int))).length+1+_<=1000;lia) ?_;rw[AR (α:=Nat) (by lia)];refine h _ _ ?_ ?_ (Zz _ _)
  ·exact λn o e=>ZF (ZF (ZF (ZF (ZF e))))
  ·simp only[zP];lia
def zba  (Es:Dfz Vr Mc Q8):Fkz 1 Vr Q8 BJ:=
 mkF Es zaL (λhr=>(Ze (Zn (XH (Zy (ZO hr) (Zg (dv 1) Zb) Zb (Zw _)) (ZG (Za (Zg (dv 0) Zb) (Za (Zg (dv 1) Zb) Zd))) (ZG (Za (Zg (dv 1) Zb) (Za (Zg (dv 0) Zb) Zd))))))) λS Q ex=>by
  refine kP λa b=>kD λd=>kN λh=>?_
  obtain⟨⟨k,p,s⟩,rfl,h⟩:=h;cases s<;>exact h
def zgk  (GP:Dfz W9 Ke P8)(Su:Fkz 5 q81 SD FL)(Ux:Fkz 1 q80 Sx JT)(Ie:Fkz 1 Vr Q8 BJ):Fkz 6 W9 P8 CW:=
 mkF GP K5 (λhr=>(Zf (Zt (i:=5) K5.nd (Zg (dv 4) Zb)) (Zf (Zt (i:=6) K5.nd (ZI (dv 2) (dv 5))) (Zf (ZD (Mf (B9 YK YK (Zg (dv 6) Zb) (Zg (dv 4) Zb) (Zg (dv 6) Zb))) (Ze (Zn O3)) ZH) (Ze (Zn (Zk Su hr (Za (dv 0) (Za (dv 1) (Za (Zk Ux hr (Za (dv 2) (Za (dv 5) (Za (Zk Ie hr (Za (dv 6) (Za (dv 4) Zd))) Zd)))) (Za (dv 3) Zd))))))))))) λS Q ex=>by
  refine kR λa=>kT λw k=>kR λb=>kI λg=>kD λd=>kN λh=>?_
  obtain⟨ns,ws,bs,zero,c,ha,hb,hw,hk,net,sb,hg,hl,rfl,hc,l4,h⟩:=h;have ik:inR ((bs.length:Nat):Int) (c.k:Int):=⟨by lia,by lia⟩
  have sz:=sb.at ik;refine ZE (o:=.lst (bs.map frD)) hb (ZP ik) ?_;have no:¬ ((gt bs (c.k:Int)).1<c.p/\c.p<(gt bs (c.k:Int)).2)->Q (.bl false) S:=λn=>by
   have z:=h S Pre.refl
   have e:isS ns zero k.toNat g bs c=false:=by
    unfold isS;rw[show (decide ((gt bs (c.k:Int)).1<c.p)&&decide (c.p<(gt bs (c.k:Int)).2))=false by
     rw[<- Bool.not_eq_true,Bool.and_eq_true,decide_eq_true_eq,decide_eq_true_eq];exact n]
    rfl
   rw[e] at z;exact z
  refine ifD (λc1=>?_) (λc1=>no λz=>c1 z.1);refine ifN (λc2=>no λz=>c2 z.2) (λc2=>?_);have q:=Au (c:=c) c1 c2 sz.2.1 sz.2.2;refine⟨c,rfl,?_⟩;refine⟨bs,c.off (gt bs (c.k:Int)),hb,ik,l4,rfl,λT m pr lm hT=>?_⟩;rw[zN] at hT;have ln:(bs.set c.k (c.off (gt bs (c.k:Int)))).length=bs.length:=yC ..;refine⟨ns,ws,_,zero,pr _ _ ha,hT,hw,hk,by rw[ln];exact net,sb.set2 q.2,hg,hl,λT2 pr2=>?_⟩;have z:=h T2 (pr.trans pr2)
  have e:isS ns zero k.toNat g bs c=ibS ns zero k.toNat (bs.set c.k (c.off (gt bs (c.k:Int)))) g:=by
   unfold isS;rw[decide_eq_true c1,decide_eq_true c2];rfl
  rw[e] at z;exact z
def zhv  (KN:Dfz Vl MV Pb):Fkz 1 Vl Pb EK:=
 mkF KN zds (λhr=>(Ze (Zn (XH (Zy (ZO hr) (Zg (dv 1) Zb) Zb (Zw _)) (ZG (Za (Zg (dv 1) Zb) (Za (Zg (dv 0) Zb) Zd))) (ZG (Za (Zg (dv 0) Zb) (Za (Zg (dv 1) Zb) Zd))))))) λS Q ex=>by
  refine kP λa b=>kD λd=>kN λh=>?_
  obtain⟨⟨k,p,s⟩,rfl,h⟩:=h;cases s<;>exact h
def zaW  (Ia:Dfz WV M0 QE)(GI:Fkz 6 W9 P8 CW)(F0:Fkz 1 Vl Pb EK)(HS:Fkz 9 Vt PR E2)(Su:Fkz 5 q81 SD FL)(Z6:e.mg q70=none)(Xb:e.mg "list"=none):Fkz 10 WV QE EJ:=
 mkF Ia Rh (λhr=>(Zf (ZD (Wm (Zk Su hr (Za (dv 0) (Za (dv 1) (Za (dv 2) (Za (dv 3) Zd)))))) (Ze (Zn (ZG (Za (Yi Zd) (Za ZX Zd))))) ZH) (Zf (Zt (i:=4) Rh.nd (S6 (ZY TX) rfl Xb Boot.«list» (Za (dv 2) Zd))) (Zf (Zt (i:=5) Rh.nd (Zk HS hr (Za (dv 0) (Za (dv 1) (Za (dv 2) (Za (dv 3) Zd)))))) (Zf (ZD (Zy YH (dv 5) ZX (Zw _)) (Ze (Zn (ZG (Za (Yi Zd) (Za (dv 4) Zd))))) ZH) (Zf (Zt (i:=6) Rh.nd (Yi Zd)) (Zf (Lc (is:=[7,8]) PassesOwn.never rfl Rh.nd (Nms.cons (i:=7) rfl (Or.inl rfl) (by first|exact .inl rfl|exact .inr rfl) (Nms.cons (i:=8) rfl (Or.inl rfl) (by first|exact .inl rfl|exact .inr rfl) Nms.nil)) rfl rfl Z6 Boot.«enumerate» (Za (dv 5) Zd) (Ze (zfc (i:=9) PassesOwn.never rfl Rh.nd rfl (Or.inl rfl) (ZG (Za (ZG (Za (dv 7) (Za (Zl Yt (Zg (dv 8) Zb) Zb) (Za Zb Zd)))) (Za (ZG (Za (dv 7) (Za (Zl Z5 (Zg (dv 8) Zb) Zb) (Za Zb Zd)))) Zd))) (Ze (ZD (Wm (Zk GI hr (Za (dv 0) (Za (dv 1) (Za (dv 4) (Za (dv 3) (Za (dv 9) Zd))))))) (Zf (Ye (YI (dv 6) (dv 9))) (Ze (R4 (dv 4) (dv 7) (Zk F0 hr (Za (ZI (dv 4) (dv 7)) (Za (dv 9) Zd)))))) ZH))))) (Ze (Zn (ZG (Za (dv 6) (Za (dv 4) Zd)))))))))))) λS Q ex=>by
  refine kR λa=>kT λw k=>kR λb=>kI λg=>kN λh=>?_
  obtain⟨ns,ws,bs,zero,ha,hb,hw,hk,net,sb,hg,hl,l4,h⟩:=h;obtain⟨kn,rfl⟩:∃kn:Nat,k=(kn:Int):=⟨k.toNat,by have:=hk.1;lia⟩;rw[zN] at h;refine⟨ns,ws,bs,zero,ha,hb,hw,hk,net,sb,hg,hl,λT pr=>?_⟩;rw[zN];have lST:=Xv pr;cases hi:ibS ns zero kn bs g with
  | true=>exact h _ T.length .non [] none (D3 λ_=>hi) (Wg pr _) lST (Zz _ _) (.inl ⟨rfl,rfl⟩)
  | false=>
   refine TU (ZZ (pr _ _ hb) rfl) ?_;refine⟨ns,ws,bs,zero,ZF (pr _ _ ha),ZF (pr _ _ hb),hw,hk,net,sb,hg,hl,λT2 pr2=>?_,λr T2 m2 lr pr2 lm2 hr2=>?_⟩
   all_goals
    have hml:T2[T.length]?=some (.lst (bs.map frD)):=pr2 _ _ (Zz _ _)
    have lT2:=Z8 hml
    have prS2:Pre S T2:=λn o e=>pr2 _ _ (ZF (pr _ _ e))
   ·exact h _ T2.length (.ref T.length) [] (some bs) (D3 λz=>nomatch z) (Wg prS2 _) (by lia) (Zz _ _) (.inr ⟨bs,T.length,rfl,rfl,ZF hml,lST⟩)
   ·rw[zP] at lm2;have lm2':T.length<m2:=lm2
    have l22:m2<T2.length:=Z8 hr2;refine N9 (n:=m2) (xs:=r.map frD) (S1:=T2++[.lst []]) (λi dl' S'=>i<=r.length/\Pre S S'/\S'[m2]?=some (.lst (r.map frD))/\∃q:List Ct×LI,Q5 ns zero kn g bs (2*i) q/\S'[T2.length]?=some (.lst (q.1.map Ct.d))/\S'[T.length]?=some (.lst (q.2.map frD))/\∃u7 u8 u9:Option D,dl'=[some (.ref a),some (.tup [.str w,.int (kn:Int)]),some (.ref b),some (.int g),some (.ref T.length),some (.ref m2),some (.ref T2.length),u7,u8,u9]) kId (λi dl' S' z=>z.2.2.1) ⟨zK _,Wg prS2 _,ZF hr2,([],bs),⟨rfl,rfl,sb,λi c hc=>by simp at hc,λc hc=>(by simp at hc),λi j c d _ hc=>by simp at hc,zC _⟩,Zz _ _,ZF hml,_,_,_,rfl⟩ ?_ ?_
    ·rintro i x dl' S' nx ct ex' ⟨hi',pr',hu',q,C,hc',hl',u7,u8,u9,rfl⟩ hn;rw[zE] at ex';obtain⟨p,hp,rfl⟩:=zG.mp ex';have hii:=(zA.mp hp).1;refine⟨λj dl2 S2=>j<=2/\Pre S S2/\S2[m2]?=some (.lst (r.map frD))/\∃q:List Ct×LI,Q5 ns zero kn g bs (2*i+j) q/\S2[T2.length]?=some (.lst (q.1.map Ct.d))/\S2[T.length]?=some (.lst (q.2.map frD))/\∃u9:Option D,dl2=[some (.ref a),some (.tup [.str w,.int (kn:Int)]),some (.ref b),some (.int g),some (.ref T.length),some (.ref m2),some (.ref T2.length),some (.int (i:Int)),some (frD p),u9],⟨by decide,pr',hu',q,C,hc',hl',_,rfl⟩,?_⟩;rintro j dl2 S2 ⟨hj,pr4,hu4,q,C,hc4,hl4,u9,rfl⟩;rcases j with _|_|j
     ·skip
      refine⟨ns,ws,q.2,zero,(⟨i,p.1-1,false⟩:Ct),pr4 _ _ ha,hl4,hw,hk,by rw[C.len];exact net,C.spn,hg,hl,rfl,by rw[C.len];show i<_;lia,by rw[C.len];exact l4,λT5 pr5=>?_⟩;rw[zN];have iI:inR ((q.2.length:Nat):Int) (i:Int):=⟨by lia,by rw[C.len];lia⟩
      have pr6:Pre S T5:=λn o e=>pr5 _ _ (pr4 _ _ e)
      have C1:=C.step (c:=(⟨i,p.1-1,false⟩:Ct)) (by show i<_;lia) (by show 2*i+0=_;lia);unfold M3 at C1;cases hs:isS ns zero kn g q.2 (⟨i,p.1-1,false⟩:Ct) with
      | false=>
       rw[hs,if_neg zJ] at C1;exact⟨by lia,pr6,pr5 _ _ hu4,q,C1,pr5 _ _ hc4,pr5 _ _ hl4,_,rfl⟩
      | true=>
       rw[hs,if_pos rfl] at C1;refine YR (n:=T2.length) (S1:=T5) (xs:=q.1.map Ct.d) (y:=Ct.d (⟨i,p.1-1,false⟩:Ct)) kId (pr5 _ _ hc4) kId (by rw[zB];have:=C.few;lia) ?_;have z4:=Yg (u:=.lst (q.1.map Ct.d++[Ct.d (⟨i,p.1-1,false⟩:Ct)])) (pr5 _ _ hl4) (show T2.length≠T.length by lia);refine T7 (n:=T.length) (k:=(i:Int)) (j:=i) (xs:=q.2.map frD) (v:=frD (Ct.back (⟨i,p.1-1,false⟩:Ct) (gt q.2 (i:Int)))) (λK hK=>ZE (o:=.lst (q.2.map frD)) z4 (ZP iI) ⟨(⟨i,p.1-1,false⟩:Ct),rfl,hK⟩) kId kId z4 (by rw[zB,TK iI];rfl) ?_;rw[QP];exact⟨by lia,Xz (Xz pr6 (by lia)) (by lia),Yg (Yg (pr5 _ _ hu4) (by lia)) (by lia),_,C1,by rw[zY];exact Yg (YE (pr5 _ _ hc4)) (by lia),YE z4,_,rfl⟩
     ·skip
      refine⟨ns,ws,q.2,zero,(⟨i,p.2+1,true⟩:Ct),pr4 _ _ ha,hl4,hw,hk,by rw[C.len];exact net,C.spn,hg,hl,rfl,by rw[C.len];show i<_;lia,by rw[C.len];exact l4,λT5 pr5=>?_⟩;rw[zN];have iI:inR ((q.2.length:Nat):Int) (i:Int):=⟨by lia,by rw[C.len];lia⟩
      have pr6:Pre S T5:=λn o e=>pr5 _ _ (pr4 _ _ e)
      have C1:=C.step (c:=(⟨i,p.2+1,true⟩:Ct)) (by show i<_;lia) (by show 2*i+1=_;lia);unfold M3 at C1;cases hs:isS ns zero kn g q.2 (⟨i,p.2+1,true⟩:Ct) with
      | false=>
       rw[hs,if_neg zJ] at C1;exact⟨by lia,pr6,pr5 _ _ hu4,q,C1,pr5 _ _ hc4,pr5 _ _ hl4,_,rfl⟩
      | true=>
       rw[hs,if_pos rfl] at C1;refine YR (n:=T2.length) (S1:=T5) (xs:=q.1.map Ct.d) (y:=Ct.d (⟨i,p.2+1,true⟩:Ct)) kId (pr5 _ _ hc4) kId (by rw[zB];have:=C.few;lia) ?_;have z4:=Yg (u:=.lst (q.1.map Ct.d++[Ct.d (⟨i,p.2+1,true⟩:Ct)])) (pr5 _ _ hl4) (show T2.length≠T.length by lia);refine T7 (n:=T.length) (k:=(i:Int)) (j:=i) (xs:=q.2.map frD) (v:=frD (Ct.back (⟨i,p.2+1,true⟩:Ct) (gt q.2 (i:Int)))) (λK hK=>ZE (o:=.lst (q.2.map frD)) z4 (ZP iI) ⟨(⟨i,p.2+1,true⟩:Ct),rfl,hK⟩) kId kId z4 (by rw[zB,TK iI];rfl) ?_;rw[QP];exact⟨by lia,Xz (Xz pr6 (by lia)) (by lia),Yg (Yg (pr5 _ _ hu4) (by lia)) (by lia),_,C1,by rw[zY];exact Yg (YE (pr5 _ _ hc4)) (by lia),YE z4,_,rfl⟩
     ·have ej:j=0:=by lia
      subst ej;exact hn _ _ ⟨by lia,pr4,hu4,q,by rw[show 2*(i+1)=2*i+2 by lia];exact C,hc4,hl4,_,_,_,rfl⟩
    ·rintro dl' S' ⟨hi',pr',hu',q,C,hc',hl',u7,u8,u9,rfl⟩;rw[zB] at C;exact h S' T2.length (.ref T.length) q.1 (some q.2) ⟨λz=>(nomatch z),by rw[<- lr];exact C.few,C.is⟩ pr' (by lia) hc' (.inr ⟨_,T.length,rfl,rfl,hl',by lia⟩)
def zb9  (Zs:Wu e.K e.mg)(Gn:Dmz Zs.C Va Ov KC UT):Fmz 1 Zs.C Va UT (MI Zs.C):=
 mkM Gn zc3 (λhr=>(Ze (R4 (ZM Zs.cl Zs.n_fates (dv 0)) (dv 1) (dv 2)))) λS Q ex=>by
  refine kR λn=>kI λi=>kD λd=>kN λh=>?_
  obtain⟨a,b,j,es,fs,f,B,rfl,lj,o,h⟩:=h;obtain⟨ds,k1,k2,_⟩:=B.ft;obtain⟨B2,cg⟩:=B.fate (i:=j) o k1;refine T7 (n:=b) (k:=(j:Int)) (j:=j) (xs:=ds) (v:=d) kId (λK hK=>by exact ZL (n:=n) kId B.ins rfl hK) kId k1 (TK (i:=(j:Int)) ⟨by lia,by lia⟩) ?_;exact h _ B2 cg
def zam  (Zs:Wu e.K e.mg)(F9:Dmz Zs.C VZ Ph Mg Qu)(ZV:e.mg "len"=none):Fmz 1 Zs.C VZ Qu (As Zs.C):=
 mkM F9 zcP (λhr=>(Zf (Ye (YI (ZM Zs.cl Zs.n_boxes (dv 0)) (dv 1))) (Zf (Ye (YI (ZM Zs.cl Zs.n_fates (dv 0)) ZX)) (Ze (Zn (Zl Yt (ZR (ZY YW) rfl ZV Boot.«len» (Za (ZM Zs.cl Zs.n_boxes (dv 0)) Zd)) Zb)))))) λS Q ex=>by
  refine kR λn=>kR λm=>kN λh=>?_
  obtain⟨a,b,es,fs,e,B,o,l9,h⟩:=h;obtain⟨bs,h1,h2,_⟩:=B.bx;obtain⟨ds,k1,k2,_⟩:=B.ft;have ll:=B.len;obtain⟨B2,cg⟩:=B.put o h1 k1;refine YR (n:=a) (S1:=S) (xs:=bs) (y:=.ref m) (λK hK=>by exact ZL (n:=n) kId B.ins rfl hK) h1 kId (by lia) ?_;have n1:=Yg (u:=.lst (bs++[.ref m])) B.ins (Ne.symm B.na.1)
  have w1:=Yg (u:=.lst (bs++[.ref m])) k1 B.ne;refine YR (n:=b) (S1:=S.set a (.lst (bs++[.ref m]))) (xs:=ds) (y:=.non) (λK hK=>by exact ZL (n:=n) kId n1 rfl hK) w1 kId (by lia) ?_;refine ZL (n:=n) kId B2.ins rfl ?_;refine Xg (Yg (YE h1) (Ne.symm B.ne)) ?_;have e1:(((bs++[D.ref m]).length:Nat):Int)-1=(es.length:Int):=by rw[zP,h2];show ((es.length+1:Nat):Int)-1=_;lia
  have z:=h _ B2 cg;rw[<- e1] at z;exact z
def zbI  (Zs:Wu e.K e.mg)(IM:Dmz Zs.C "part" O1 Kq SM)(Y1:Fmz 1 Zs.C Va UT (MI Zs.C))(V2:Fmz 1 Zs.C VZ Qu (As Zs.C))(Ux:Fkz 1 q80 Sx JT):Fmz 2 Zs.C "part" SM (GX Zs.C):=
 mkM IM Qx (λhr=>(Zf (Zt (i:=4) Qx.nd (ZI (ZM Zs.cl Zs.n_boxes (dv 0)) (dv 1))) (Zf (Zt (i:=5) Qx.nd (ZI (dv 4) (dv 2))) (Zf (Zt (i:=6) Qx.nd (Y7 (C:=Zs.C) (dv 0) Zs.cl V2.m V2.ok (hr.mono (by decide)) V2.b Yq (Za (Zk Ux hr (Za (dv 4) (Za (dv 2) (Za (ZG (Za (Zg (dv 5) Zb) (Za (dv 3) Zd))) Zd)))) Zd))) (Zf (Zt (i:=7) Qx.nd (Y7 (C:=Zs.C) (dv 0) Zs.cl V2.m V2.ok (hr.mono (by decide)) V2.b Yq (Za (Zk Ux hr (Za (dv 4) (Za (dv 2) (Za (ZG (Za (dv 3) (Za (Zg (dv 5) Zb) Zd))) Zd)))) Zd))) (Zf (Ye (Y7 (C:=Zs.C) (dv 0) Zs.cl Y1.m Y1.ok (hr.mono (by decide)) Y1.b Yq (Za (dv 1) (Za (ZG (Za ZW (Za (dv 2) (Za (dv 3) (Za (dv 6) (Za (dv 7) Zd)))))) Zd)))) (Ze (Zn (ZG (Za (dv 6) (Za (dv 7) Zd))))))))))) λS Q ex=>by
  refine kR λn=>kI λi=>kI λkk=>kI λp=>kN λh=>?_
  obtain⟨a,b,j,k,es,fs,e,s,B,rfl,rfl,he,hs,l4,l9,h⟩:=h;obtain⟨bs,m,h1,h2,o⟩:=B.box he;have lj:=(zA.mp he).1
  have lk:=(zA.mp hs).1
  have lf:=B.len;refine ZL (n:=n) kId B.ins rfl ?_;refine ZE (o:=.lst bs) h1 (YF (j:=j) h2) ?_;have es':atI (e.map frD) (k:Int)=some (frD s):=YF (j:=k) (by rw[zE,hs];rfl);refine ZE (o:=.lst (e.map frD)) o.2.2 es' ?_;refine YL (n:=n) kId B.ins rfl ?_;refine⟨e,(s.1,p),o.2.2,⟨by lia,by lia⟩,l4,rfl,λT1 m1 p1 l1 h1'=>?_⟩;rw[zN] at h1';have na:a<S.length:=Z8 h1;obtain⟨ds,k1,_⟩:=B.ft;have nb:b<S.length:=Z8 k1;refine⟨a,b,es,fs,_,B.pre p1,⟨by lia,by lia,h1'⟩,by lia,λT2 B2 cg2=>?_⟩;refine YL (n:=n) kId B2.ins rfl ?_;have o2:=(o.cg (.pre p1)).cg cg2;refine⟨e,(p,s.2),o2.2.2,⟨by lia,by lia⟩,l4,rfl,λT3 m3 p3 l3 h3'=>?_⟩;rw[zN] at h3';have:=Xv p1
  have:=cg2.1;refine⟨a,b,_,_,_,B2.pre p3,⟨by lia,by lia,h3'⟩,by rw[zP];show es.length+1<990;lia,λT4 B4 cg4=>?_⟩;have e5:(((es++[e.set k (s.1,p)]).length:Nat):Int)=(es.length:Int)+1:=by rw[zP];show ((es.length+1:Nat):Int)=_;lia
  rw[e5];refine YL (n:=n) kId B4.ins rfl ?_;refine⟨a,b,j,_,_,.cut k p es.length (es.length+1),B4,rfl,by simp;lia,rfl,λT5 B5 cg5=>?_⟩;exact h T5 B5 ((((Cg.pre p1).trans cg2).trans (.pre p3)).trans (cg4.trans cg5))
def zf8  (HK:Dfz WB Nf SQ)(Yw:Fkz 4 q33 X1 VH):Fkz 5 WB SQ Ip:=
 mkF HK EF (λhr=>(Zf (Zt (i:=5) EF.nd (Zg (ZI (dv 1) (dv 2)) Zb)) (Ze (Zn (ZG (Za ZW (Za (dv 2) (Za (Zk Yw hr (Za (W8 (dv 0) Vj (WS (Zl Z5 (dv 5) Zb))) (Za (dv 3) (Za (dv 4) Zd)))) Zd)))))))) λS Q ex=>by
  refine kR λnd=>kR λrw=>kI λr=>kR λbx=>kI λg=>kN λh=>?_
  obtain⟨k,u,ns,ws,rows,e,row,R,hb,lu,se,rfl,hr,h⟩:=h;have hi:row.2<ns.length:=R.ri row (zF hr);refine ZE (o:=.lst (rows.map rwD)) R.rw (YF (j:=k) (v:=rwD row) (by show (rows.map rwD)[k]?=_;rw[zE,hr];rfl)) ?_;refine WU (n:=nd) (o:=.lst (ns.map Nd.d)) (lo:=none) (hi:=some ((row.2:Int)+1)) (S3:=S) kId kId kId R.nd ?_;have ec:Yd (ns.map Nd.d) none (some ((row.2:Int)+1))=(ns.take (row.2+1)).map Nd.d:=by
   rw[OJ (by lia) (by rw[zB];lia),xF];rfl
  rw[show Zv (Ob.lst (ns.map Nd.d))=ns.map Nd.d from rfl,ec];refine⟨ns.take (row.2+1),ws.take (row.2+1),e,Zz _ _,ZF hb,by rw[lu];exact R.net.take _,se,R.hg,by rw[zL];have:=R.l70;lia,λT m pr lm hf=>?_⟩;exact h T m (λx o z=>pr _ _ (ZF z)) (by rw[zP] at lm;lia) hf
def zhy  (Zs:Wu e.K e.mg)(Js:Dfz Vd Kn QL)(Y1:Fmz 1 Zs.C Va UT (MI Zs.C))(Uy:Fkz 5 WB SQ Ip)(WN:Fmz 2 Zs.C "part" SM (GX Zs.C))(GU:Fkz 10 WV QE EJ)(Z6:e.mg q70=none):Fkz 11 Vd QL (By Zs.C):=
 mkF Js US (λhr=>(Zf (Lc (is:=[5,6]) PassesOwn.never rfl US.nd (Nms.cons (i:=5) rfl (Or.inl rfl) (by first|exact .inl rfl|exact .inr rfl) (Nms.cons (i:=6) rfl (Or.inl rfl) (by first|exact .inl rfl|exact .inr rfl) Nms.nil)) rfl rfl Z6 Boot.«enumerate» (Za (dv 2) Zd) (Zf (Zt (i:=7) US.nd (Zk GU hr (Za (dv 1) (Za (dv 6) (Za (ZI (ZM Zs.cl Zs.n_boxes (dv 0)) (dv 4)) (Za (dv 3) Zd)))))) (Zf (ZD (Zy YH (Zg (dv 7) Zb) ZX (Zw _)) (Zf (Ye (Y7 (C:=Zs.C) (dv 0) Zs.cl Y1.m Y1.ok (hr.mono (by decide)) Y1.b Yq (Za (dv 4) (Za (Zk Uy hr (Za (dv 1) (Za (dv 2) (Za (dv 5) (Za (ZI (ZM Zs.cl Zs.n_boxes (dv 0)) (dv 4)) (Za (dv 3) Zd)))))) Zd)))) (Ze (Zn (dv 4)))) ZH) (Ze (WD (i:=8) PassesOwn.never rfl US.nd rfl (Or.inl rfl) (Zg (dv 7) Zb) (Zf (Zt (i:=9) US.nd (Y7 (C:=Zs.C) (dv 0) Zs.cl WN.m WN.ok (hr.mono (by decide)) WN.b Yq (Za (dv 4) (Za (Zg (dv 8) Zb) (Za (Zg (dv 8) Zb) Zd))))) (Zf (Zt (i:=10) US.nd (ZI (dv 9) (Zg (dv 8) Zb))) (Zf (Ye (Y7 (C:=Zs.C) (dv 0) Zs.cl Y1.m Y1.ok (hr.mono (by decide)) Y1.b Yq (Za (dv 10) (Za (Zk Uy hr (Za (dv 1) (Za (dv 2) (Za (dv 5) (Za (ZI (ZM Zs.cl Zs.n_boxes (dv 0)) (dv 10)) (Za (dv 3) Zd)))))) Zd)))) (Ze (Zt (i:=4) US.nd (ZI (dv 9) (Zl Yt Zb (Zg (dv 8) Zb))))))))))))) (Ze (Zn (dv 4))))) λS Q ex=>by
  refine kR λn=>kR λnd=>kR λrw=>kI λg=>kI λi=>kN λh=>?_
  obtain⟨a,b,j,u,ns,ws,rows,b0,e,es,fs,fine,B,R,A,K,sb,lb,rfl,hw,he,l9,h⟩:=h;have r4:=R.rl
  have u4:=R.u1;refine N9 (n:=rw) (xs:=rows.map rwD) (S1:=S) (λk dl' S'=>k<=rows.length/\∃(es':List LI)(fs':List Ft)(j':Nat)(e':LI),Bk Zs.C S' n a b es' fs'/\Bks g fine ns rows b0 es' fs'/\Cg a b S S'/\es'.length<=es.length+16*k/\Shd es j es' j'/\fs'[j']?=some .wait/\es'[j']?=some e'/\∃x5 x6 x7 x8 x9 x10:Option D,dl'=[some (.ref n),some (.ref nd),some (.ref rw),some (.int g),some (.int (j':Int)),x5,x6,x7,x8,x9,x10]) kId (λk dl' S' z=>?_) ?_ ?_ ?_
  ·obtain⟨_,es',fs',j',e',B',K',cg,_⟩:=z;exact(R.cg A cg).rw
  ·exact⟨zK _,es,fs,j,e,B,K,.refl,by lia,⟨zC _,λ_=>⟨rfl,rfl⟩⟩,hw,he,_,_,_,_,_,_,rfl⟩
  ·rintro k x dl' S' nx ct hx ⟨hk,es',fs',j',e',B',K',cg,l',sh,hw',he',x5,x6,x7,x8,x9,x10,rfl⟩ hn;rw[zE] at hx;obtain⟨row,hr,rfl⟩:=zG.mp hx;have hk':=(zA.mp hr).1
   have R':=R.cg A cg
   have hi:row.2<ns.length:=R.ri row (zF hr);obtain⟨ll',oks⟩:=K'.ok sb;obtain⟨le',se'⟩:=oks e' (zF he');have net':ZT ((e'.length:Nat):Int) ns ws:=by rw[le',lb];exact R.net
   obtain⟨bs,m,h1,h2,o⟩:=B'.box he';have lj':=(zA.mp he').1
   have la:a<S'.length:=Z8 h1
   have lb':b<S'.length:=by
    obtain⟨_,z,_⟩:=B'.ft;exact Z8 z
   refine ZL (n:=n) kId B'.ins rfl ?_;refine ZE (o:=.lst bs) h1 (YF (j:=j') h2) ?_;refine⟨ns,ws,e',row.1,R'.nd,o.2.2,rww row.1,⟨by lia,by lia⟩,net',se',R.hg,R.l70,by lia,λT mc fd cs o' sok p1 lmc hmc hfd=>?_⟩;rw[zN] at sok;obtain⟨i1,i2,i3⟩:=sok;have B1:=B'.pre p1
   have R1:=R'.pre p1
   have o1:=o.cg (.pre p1)
   have h11:=p1 _ _ h1;rcases hfd with ⟨rfl,hN⟩|⟨left,mf,rfl,hS,hmf,lmf⟩
   ·refine YL (n:=n) kId B1.ins rfl ?_;refine ZL (n:=n) kId B1.ins rfl ?_;refine ZE (o:=.lst bs) h11 (YF (j:=j') h2) ?_;refine⟨k,u,ns,ws,rows,e',row,R1,o1.2.2,by lia,se',rfl,hr,λT2 m2 p2 l2 h2'=>?_⟩;have:=Xv p1;refine⟨a,b,j',es',fs',.out k (ZC e' g (ns.take (row.2+1))),B1.pre p2,rfl,by lia,⟨m2,rfl,by lia,by lia,h2'⟩,λT3 B3 cg3=>?_⟩;exact h T3 es' _ j' B3 (K'.put hw' he' ⟨row,hr,rfl,i1 hN⟩) (cg.trans ((Cg.pre p1).trans ((Cg.pre p2).trans cg3))) (by lia) sh lj'
   ·refine Vp (n:=mc) (o:=.lst (cs.map Ct.d)) (λq dl2 S2=>∃(es2:List LI)(fs2:List Ft)(j2:Nat),Bk Zs.C S2 n a b es2 fs2/\Bks g fine ns rows b0 es2 fs2/\Cg a b T S2/\es2.length=es'.length+2*q/\(q=0->es2=es'/\j2=j')/\fs2[j2]?=some .wait/\es2[j2]?=some (ctA e' (cs.take q))/\q<=cs.length/\∃x8 x9 x10:Option D,dl2=[some (.ref n),some (.ref nd),some (.ref rw),some (.int g),some (.int (j2:Int)),some (.int (k:Int)),some (rwD row),some (.tup [.ref mc,.ref mf]),x8,x9,x10]) ?_ (λq dl2 S2 z=>?_) ?_ ?_
    ·exact⟨es',fs',j',B1,K',.refl,by lia,λ_=>⟨rfl,rfl⟩,hw',he',zK _,_,_,_,rfl⟩
    ·obtain⟨es2,fs2,j2,_,_,cg2,_⟩:=z;exact cg2.2 _ _ (by lia) (by lia) hmc
    ·rintro q x dl2 S2 nx2 ct2 hx2 ⟨es2,fs2,j2,B2,K2,cg2,l2,s2,hw2,he2,q2,x8,x9,x10,rfl⟩ hn2;have hx3:(cs.map Ct.d)[q]?=some x:=hx2;rw[zE] at hx3;obtain⟨c,hc,hcx⟩:=zG.mp hx3;obtain⟨s',hs',hx4⟩:∃s':Int,(c.s=true/\s'=1\/c.s=false/\s'=0)/\x=.tup [.int (c.k:Int),.int c.p,.int s']:=⟨if c.s then 1 else 0,by cases c.s<;>simp,hcx.symm⟩;subst hx4;have lq:=(zA.mp hc).1;obtain⟨isc,lc⟩:=i3 q c hc;have lA:=Ay e' (cs.take q)
     have oks2:=(K2.ok sb).1;obtain⟨y1,y2,y3,y4,y5,y6⟩:=K2.shave oks2 hw2 he2 (by rw[lA];exact lc) isc hr;refine YL (n:=n) kId B2.ins rfl ?_;refine⟨a,b,j2,c.k,es2,fs2,_,_,B2,rfl,rfl,he2,y1,by rw[lA];lia,by lia,λT3 B3 cg3=>?_⟩;have R3:=R1.cg A (cg2.trans cg3);generalize hth:es2.length+(if c.s then 1 else 0)=th at y2 y3 y4 y5 y6;generalize hnj:es2.length+(if c.s then 0 else 1)=nj at y5 y6;have et:(s'=0/\(th:Int)=es2.length\/s'=1/\(th:Int)=(es2.length:Int)+1)/\(1-s'=0/\(nj:Int)=es2.length\/1-s'=1/\(nj:Int)=(es2.length:Int)+1):=by
      rcases hs' with ⟨ec,rfl⟩|⟨ec,rfl⟩<;>simp only[ec,if_true,Bool.false_eq_true,if_false] at hth hnj<;>lia
     refine ixT2 et.1 ?_;obtain⟨l3,oks3⟩:=y4.ok sb;obtain⟨bs3,m3,h13,h23,o3⟩:=B3.box y2;obtain⟨lt3,st3⟩:=oks3 _ (zF y2);have lth:=(zA.mp y3).1
     have la3:a<T3.length:=Z8 h13
     have lb3:b<T3.length:=by
      obtain⟨_,z,_⟩:=B3.ft;exact Z8 z
     refine YL (n:=n) kId B3.ins rfl ?_;refine ZL (n:=n) kId B3.ins rfl ?_;refine ZE (o:=.lst bs3) h13 (YF (j:=th) h23) ?_;refine⟨k,u,ns,ws,rows,_,row,R3,o3.2.2,by lia,st3,rfl,hr,λT4 m4 p4 l4 h4=>?_⟩;have:=Xv p4;refine⟨a,b,th,_,_,.out k (ZC _ g (ns.take (row.2+1))),B3.pre p4,rfl,lth,⟨m4,rfl,by lia,by lia,h4⟩,λT5 B5 cg5=>?_⟩;refine ixT2 et.2 ?_;refine hn2 _ _ ⟨_,_,nj,B5,y4,cg2.trans (cg3.trans ((Cg.pre p4).trans cg5)),by simp;lia,λz=>absurd z (by lia),y6,?_,by lia,_,_,_,rfl⟩;rw[zgB hc];exact y5
    ·rintro dl2 S2 ⟨es2,fs2,j2,B2,K2,cg2,l2,s2,hw2,he2,q2,x8,x9,x10,rfl⟩;refine hn _ _ ⟨by lia,es2,fs2,j2,_,B2,K2,cg.trans ((Cg.pre p1).trans cg2),?_,?_,hw2,he2,_,_,_,_,_,_,rfl⟩
     ·rw[show (Zv (.lst (cs.map Ct.d))).length=cs.length from zB ..] at l2;lia
     ·refine⟨by have:=sh.1;lia,λz=>?_⟩;have q0:(Zv (.lst (cs.map Ct.d))).length=0:=by have:=sh.1;lia
      obtain⟨rfl,rfl⟩:=s2 q0;exact sh.2 z
  ·rintro dl' S' ⟨hk,es',fs',j',e',B',K',cg,l',sh,hw',he',x5,x6,x7,x8,x9,x10,rfl⟩;rw[zB] at l';exact h S' es' fs' j' B' K' cg (by lia) sh (zA.mp he').1
def zif  (Gz:Dfz "sure" NR TB):Fkz 1 "sure" TB IX:=
 mkF Gz zh0 (λhr=>(Zf (ZD (Zy (ZO hr) (dv 0) ZW (Zw _)) (Ze (Zn (Kv (Xx (ZO hr) (Zg (dv 1) Zb) Zb (Zw _)) (RH (Xx (ZO hr) (Zg (dv 1) Zb) Zb (Zw _)))))) ZH) (Ze (Zn (Xx Kr (Zg (dv 1) Zb) Zb (Zw _)))))) λS Q ex=>by
  refine kS λ_=>kP λ_ _=>kN λh=>?_
  rcases h with ⟨rfl,h⟩|⟨rfl,h⟩
  ·refine ifD (λc=>?_) (λc=>?_)
   ·rw[decide_eq_true c,Bool.true_and] at h;exact h
   ·rw[decide_eq_false c,Bool.false_and] at h;exact h
  ·exact h
def zbn  (IA:Dfz q60 PH QA)(SK:Fkz 1 "sure" TB IX)(TL:Fkz 1 "bars" Rt Jb)(Uy:Fkz 5 WB SQ Ip)(XC:e.mg "all"=none)(Z6:e.mg q70=none):Fkz 6 q60 QA Cj:=
 mkF IA Aj (λhr=>(Zf (Lc (is:=[5,6]) PassesOwn.never rfl Aj.nd (Nms.cons (i:=5) rfl (Or.inl rfl) (by first|exact .inl rfl|exact .inr rfl) (Nms.cons (i:=6) rfl (Or.inl rfl) (by first|exact .inl rfl|exact .inr rfl) Nms.nil)) rfl rfl Z6 Boot.«enumerate» (Za (dv 1) Zd) (Ze (ZD (Wm (Zk TL hr (Za (Zg (dv 6) Zb) (Za (ZI (dv 4) (Zg (dv 6) Zb)) Zd)))) (Ze (Zn (Zk Uy hr (Za (dv 0) (Za (dv 1) (Za (dv 5) (Za (dv 2) (Za (dv 3) Zd)))))))) ZH))) (Zf (ZD (Wm (ZR (ZY (LW rfl)) rfl XC Boot.«all» (Za (XQ (x:="row") (N:=["spans"]) (caps:=[4]) (ar:=Zm PH) rfl rfl csc rfl (by decide) (dv 1) (λ_ _ _ _ _ _=>Yr) (λ_ _ _ _ _ _=>(Zk SK hr (Za (Zg (dv 0) Zb) (Za (ZI (dv 1) (Zg (dv 0) Zb)) Zd))))) Zd))) (Ze (Zn (ZG (Za ZW (Za (dv 4) Zd))))) ZH) (Ze (Zn ZX))))) λS Q ex=>by
  refine kR λnd=>kR λrw=>kR λbx=>kI λg=>kR λsp=>kN λh=>?_
  obtain⟨u,ns,ws,rows,e,R,hb,lu,se,hs,ho,hf,hn⟩:=h;have r4:=R.rl;refine N9 (n:=rw) (xs:=rows.map rwD) (S1:=S) (λk dl' S'=>S=S'/\k<=rows.length/\(∀(i:Nat)(row:Bool×Nat),i<k->rows[i]?=some row->ibS ns row.1 row.2 e g=false)/\∃x5 x6:Option D,dl'=[some (.ref nd),some (.ref rw),some (.ref bx),some (.int g),some (.ref sp),x5,x6]) kId (λk dl' S' z=>z.1 ▸ R.rw) ⟨rfl,zK _,λi row hi=>absurd hi (by lia),_,_,rfl⟩ ?_ ?_
  ·rintro k x dl' S' nx ct hx ⟨rfl,hk,hno,x5,x6,rfl⟩ hn2;rw[zE] at hx;obtain⟨row,hr,rfl⟩:=zG.mp hx;have hi:row.2<ns.length:=R.ri row (zF hr)
   have lk:=(zA.mp hr).1;refine ZE (o:=.lst ((ZC e g ns).map frD)) hs (ZP (vs:=ZC e g ns) (i:=(row.2:Int)) ⟨by lia,by rw[Xk];lia⟩) ?_;have eb:ibS ns row.1 row.2 e g=brS row.1 (gt (ZC e g ns) (row.2:Int)):=by unfold ibS;rw[Di hi]
   have key:∀b:Bool,ibS ns row.1 row.2 e g=b->if b=true then (∃(k' u:Nat)(ns:List Nd)(ws:List Nat)(rows:List (Bool×Nat))(e:LI)(row:Bool×Nat),Sr S nd rw g ns ws rows u/\S[bx]?=some (.lst (e.map frD))/\e.length=u/\Spn 51 e/\(k:Int)=(k':Int)/\rows[k']?=some row/\∀(T:Sto)(m:Nat),Pre S T->S.length<=m->T[m]?=some (.lst ((ZC e g (ns.take (row.2+1))).map frD))->Q (.tup [.str "out",.int (k:Int),.ref m]) T) else nx [some (.ref nd),some (.ref rw),some (.ref bx),some (.int g),some (.ref sp),some (.int (k:Int)),some (rwD row)] S:=λb hb'=>by
    cases b with
    | true=>
     rw[if_pos rfl];exact⟨k,u,ns,ws,rows,e,row,R,hb,lu,se,rfl,hr,λT m p l hm=>ho T k m row p l hr hb' hm⟩
    | false=>
     rw[if_neg zJ];refine hn2 _ _ ⟨rfl,by lia,λi row' hi' hr'=>?_,_,_,rfl⟩;by_cases c:i=k
     ·subst c;rw[hr] at hr';cases hr';exact hb'
     ·exact hno i row' (by lia) hr'
   rcases row with ⟨_|_,rn⟩
   ·exact .inr ⟨rfl,key _ eb⟩
   ·exact .inl ⟨rfl,key _ eb⟩
  ·rintro dl' S' ⟨rfl,hk,hno,x5,x6,rfl⟩;rw[zB] at hno;have nb:∀row∈rows,ibS ns row.1 row.2 e g=false:=λrow hr=>by
    obtain⟨i,hi⟩:=List.mem_iff_getElem?.mp hr;exact hno i row (zA.mp hi).1 hi
   refine WH (n:=rw) (S1:=S) (o:=.lst (rows.map rwD)) (λd=>match d with|.tup [.str w,.int at']=>.bl (suB (decide (w="zero")) (gt (ZC e g ns) at'))|_=>.non) kId R.rw (by show (rows.map rwD).length<=1000;rw[zB];lia) (λx hx S2 K pr hK=>?_) ?_
   ·have hx':x∈rows.map rwD:=hx;obtain⟨⟨b,n⟩,hm,rfl⟩:=zO.mp hx';refine ZE (o:=.lst ((ZC e g ns).map frD)) (pr _ _ hs) (ZP (vs:=ZC e g ns) (i:=(n:Int)) ⟨by lia,by rw[Xk];have:=R.ri _ hm;dsimp only at this;lia⟩) ?_;cases b
    ·exact .inr ⟨rfl,hK⟩
    ·exact .inl ⟨rfl,hK⟩
   ·refine Rw (n:=S.length) (o:=.lst _) (Zz _ _) (CJ ns e g rows) ?_;rw[ze1];cases es:suS ns rows e g with
    | true=>exact Y4 (hf nb es _ Pre.refl.push)
    | false=>exact YY (hn nb es _ Pre.refl.push)
def zgD  (Jp:Dfz q39 Qa R5):Fkz 1 q39 R5 Ae:=
 mkF Jp zcy (λhr=>(Ze (Zn (XQ (x:="row") (N:=[]) (caps:=[]) (ar:=Zm Qa) rfl rfl csc rfl (by decide) (dv 0) (λ_ _ _ _ _ _=>Nb (Zy (ZO hr) (Zg (dv 0) Zb) ZW (Zw _))) (λ_ _ _ _ _ _=>(Zg (dv 0) Zb)))))) λS Q ex=>by
  refine kR λr=>kN λh=>?_
  obtain⟨rows,hr,l9,h⟩:=h;refine GC (n:=r) (S1:=S) (o:=.lst (rows.map rwD)) (λd=>match d with|.tup [.str w,.int at']=>if w="zero" then some (.int at') else none|_=>none) kId hr (by show (rows.map rwD).length<=1000;rw[zB];lia) (λx hx S2 K pr hK=>?_) (λx hx y hy S2 K pr hK=>?_) ?_
  ·have hx':x∈rows.map rwD:=hx;obtain⟨⟨b,n⟩,_,rfl⟩:=zO.mp hx';cases b
   ·exact hK
   ·exact hK
  ·have hx':x∈rows.map rwD:=hx;obtain⟨⟨b,n⟩,_,rfl⟩:=zO.mp hx';cases b
   ·exact absurd hy (by
     simp[rwD];intro z;exact absurd z (by decide))
   ·cases hy;exact hK
  ·have e:(Zv (.lst (rows.map rwD))).filterMap (λd=>match d with|.tup [.str w,.int at']=>if w="zero" then some (.int at') else none|_=>none)=(eqs rows).map wtD:=by
    show (rows.map rwD).filterMap _=_;unfold eqs;rw[List.filterMap_map,List.map_filterMap];congr 1;funext ⟨b,n⟩;cases b<;>rfl
   rw[e];exact h
def A8  (KP:Dfz Ws Od So):Fkz 1 Ws So GS:=
 mkF KP zg1 (λhr=>(Ze (Zn (XQ (x:="place") (N:=["each"]) (caps:=[0]) (ar:=Zm Od) rfl rfl csc rfl (by decide) (dv 1) (λ_ _ _ _ _ _=>Yr) (λ_ _ _ _ _ _=>(ZI (dv 1) (dv 0))))))) λS Q ex=>by
  refine kR λe=>kR λp=>kN λh=>?_
  obtain⟨xs,is,he,hp,l9,hi,h⟩:=h;refine WH (n:=p) (S1:=S) (o:=.lst (is.map wtD)) (λd=>match d with|.int i=>xs.getD i.toNat .non|_=>.non) kId hp (by show (is.map wtD).length<=1000;rw[zB];lia) (λx hx S2 K pr hK=>?_) ?_
  ·have hx':x∈is.map wtD:=hx;obtain⟨i,him,rfl⟩:=zO.mp hx';have hl:=hi i him;refine ZE (o:=.lst xs) (pr _ _ he) (YF (j:=i) (v:=xs.getD i .non) (by show xs[i]?=_;rw[zD hl];simp[hl])) ?_;exact hK
  ·have e2:(Zv (.lst (is.map wtD))).map (λd=>match d with|.int i=>xs.getD i.toNat .non|_=>.non)=is.map λi=>xs.getD i .non:=by
    show (is.map wtD).map _=_;rw[zX];rfl
   rw[e2];exact h
def AA  (Zp:Yv e.K e.mg)(Zq:YA e.K e.mg)(Zi:Yh e.K e.mg)(Zh:Yj e.K e.mg)(Zj:Yl e.K e.mg)(Zo:Yu e.K e.mg)(GB:Dmz Zp.C q11 TF Kz Om):Fmz 1 Zp.C q11 Om (IQ Zp.C Zq.C Zi.C Zh.C Zj.C Zo.C):=
 mkM GB zhs (λhr=>(Ze (Zn (Zl zfL (Yi (Za (ZG (Za Zb (Za Zb Zd))) Zd)) (dv 3))))) λS Q ex=>by
  refine kR λn=>kR λw=>kR λs=>kI λqi=>kI λg=>kN λh=>?_
  obtain⟨x,y,q,vs,sl,ds,hn,hw,hs,rows,sz,⟨rfl,hq⟩,ok,lv,s1,hg,h⟩:=h;have sg:Sz 21 g:=Sz.of 1000000 (by lia)
  have aY:∀ys:List D,ys=(Yx vs sl g q (Nd.number x y)).map frD->Q (.ref (S++[Ob.lst [frD (0,0)]]).length) ((S++[.lst [frD (0,0)]])++[.lst ys]):=λys e=>by
   subst e;exact h _ _ Pre.refl.push.push (by simp) (Zz _ _)
  refine zcz (n:=S.length) (k:=((q:Nat):Int)) (xs:=[frD (0,0)]) (Zz _ _) ⟨by lia,by lia⟩ (by simp;lia) ?_;refine aY _ ?_;rw[zN,Az];unfold Yx;rw[zX];rfl
def zaB  (Zq:YA e.K e.mg)(Zp:Yv e.K e.mg)(Zi:Yh e.K e.mg)(Zh:Yj e.K e.mg)(Zj:Yl e.K e.mg)(Zo:Yu e.K e.mg)(Ju:Dmz Zq.C q11 Tj R8 Oq)(Z1:e.mg XY=none):Fmz 1 Zq.C q11 Oq (FT Zp.C Zq.C Zi.C Zh.C Zj.C Zo.C):=
 mkM Ju zcv (λhr=>(Ze (Zn (FU (x:="k") (N:=["grid","self"]) (caps:=[4,0]) (ar:=Zm R8) rfl rfl csc rfl (by decide) rfl Z1 (Za (dv 3) Zd) (λ_ _ _ _ _ _=>Yr) (λ_ _ _ _ _ _=>(XH (Zy (ZO hr) (dv 0) (ZM Zq.cl Zq.n_place (dv 2)) (Zw _)) (ZG (Za (dv 1) (Za (dv 1) Zd))) (ZG (Za Zb (Za Zb Zd))))))))) λS Q ex=>by
  refine kR λn=>kR λw=>kR λs=>kI λqi=>kI λg=>kN λh=>?_
  obtain⟨k,q,vs,sl,ds,hn,hw,hs,rows,sz,⟨rfl,hq⟩,ok,lv,s1,hg,h⟩:=h;have sg:Sz 21 g:=Sz.of 1000000 (by lia)
  have aY:∀ys:List D,ys=(Yx vs sl g q (Nd.unknown k)).map frD->Q (.ref S.length) (S++[.lst ys]):=λys e=>by
   subst e;exact h _ _ Pre.refl.push (by simp) (Zz _ _)
  refine Ic (j:=((q:Nat):Int)) (S1:=S) (λl=>frD (if (l:Int)=k then (g,g) else (0,0))) kId ⟨by lia,by lia⟩ (λl hl S2 K pr hK=>?_) ?_
  ·refine ZL (n:=n) kId (pr _ _ hn) rfl ?_;refine ifD (λe=>?_) (λe=>?_)
   ·rw[if_pos e] at hK;exact hK
   ·rw[if_neg e] at hK;exact hK
  ·refine aY _ ?_;rw[zN];unfold Yx;rw[zX];rfl
def zcD  (Zi:Yh e.K e.mg)(Gf:Dmz Zi.C q5 q86 O6 Pt)(Y0:Fkz 1 q25 Vu UR):Fmz 2 Zi.C q5 Pt (Bs Zi.C):=
 mkM Gf zf9 (λhr=>(Ze (Zn (Zk Y0 hr (Za (dv 3) (Za (dv 4) Zd)))))) λS Q ex=>by
  refine kR λ_=>kD λ_=>kD λ_=>kP λ_ _=>kP λ_ _=>kI λ_=>kN λh=>?_
  exact h
def ziq  (Zi:Yh e.K e.mg)(Zp:Yv e.K e.mg)(Zq:YA e.K e.mg)(Zh:Yj e.K e.mg)(Zj:Yl e.K e.mg)(Zo:Yu e.K e.mg)(Fj:Dmz Zi.C q11 q57 PC RC)(Qh:Fmz 2 Zi.C q5 Pt (Bs Zi.C))(YB:e.mg "zip"=none):Fmz 3 Zi.C q11 RC (K1 Zp.C Zq.C Zi.C Zh.C Zj.C Zo.C):=
 mkM Fj JE (λhr=>(Zf (XA (i:=5) JE.nd rfl (Or.inr rfl) (ZI (dv 1) (ZM Zi.cl Zi.n_one (dv 0)))) (Zf (XA (i:=6) JE.nd rfl (Or.inr rfl) (ZI (dv 1) (ZM Zi.cl Zi.n_other (dv 0)))) (Ze (Zn (OD (x1:="a") (x2:="b") (N:=["x","y","grid","self"]) (caps:=[5,6,4,0]) (ar:=Zm PC) rfl rfl XM rfl rfl rfl (by decide) rfl YB Boot.«zip» (Za (ZI (dv 2) (ZM Zi.cl Zi.n_one (dv 0))) (Za (ZI (dv 2) (ZM Zi.cl Zi.n_other (dv 0))) Zd)) (λ_ _ _ _ _ _=>(Y7 (C:=Zi.C) (dv 5) Zi.cl Qh.m Qh.ok (hr.mono (by decide)) Qh.b Yq (Za (dv 2) (Za (dv 3) (Za (dv 0) (Za (dv 1) (Za (dv 4) Zd))))))))))))) λS Q ex=>by
  refine kR λn=>kR λw=>kR λs=>kI λqi=>kI λg=>kN λh=>?_
  obtain⟨i,j,q,vs,sl,ds,hn,hw,hs,rows,sz,⟨rfl,hq⟩,ok,lv,s1,hg,h⟩:=h;have sg:Sz 21 g:=Sz.of 1000000 (by lia)
  have aY:∀ys:List D,ys=(Yx vs sl g q (Nd.plus i j)).map frD->Q (.ref S.length) (S++[.lst ys]):=λys e=>by
   subst e;exact h _ _ Pre.refl.push (by simp) (Zz _ _)
  refine ZL (n:=n) kId hn rfl ?_;refine ZE (o:=.lst (vs.map frD)) hw (ZP (i:=i) ⟨ok.1.1,by have:=ok.1.2;lia⟩) ?_;refine ZL (n:=n) kId hn rfl ?_;refine ZE (o:=.lst (vs.map frD)) hw (ZP (i:=j) ⟨ok.2.1,by have:=ok.2.2;lia⟩) ?_;obtain⟨a1,ea,_,ha⟩:=rows.at ok.1;obtain⟨a2,eb,_,hb⟩:=rows.at ok.2;obtain⟨la,za⟩:=sz i ok.1;obtain⟨lb,zb⟩:=sz j ok.2;have ci:=s1.at (i:=i) ⟨ok.1.1,by have:=ok.1.2;lia⟩
  have cj:=s1.at (i:=j) ⟨ok.2.1,by have:=ok.2.2;lia⟩;refine Tg (n:=a1) (n':=a2) (S1:=S) (xs:=(sl.getD i.toNat []).map frD) (ys:=(sl.getD j.toNat []).map frD) (λx y=>match x,y with|.tup [.int a,.int b],.tup [.int c,.int d]=>.tup [.int (a+c),.int (b+d)]|_,_=>.non) (λK hK=>by
   refine ZL (n:=n) kId hn rfl ?_;refine ZE (o:=.lst ds) hs ea ?_;refine ZL (n:=n) kId hn rfl ?_;exact ZE (o:=.lst ds) hs eb hK) ha hb (by rw[zB,la];lia) (λk x y hx hy S2 K pr hK=>?_) ?_
  ·rw[zE] at hx hy;obtain⟨p,hp,rfl⟩:=zG.mp hx;obtain⟨r,hr,rfl⟩:=zG.mp hy;have kq:k<q:=by
    have:=(zA.mp hp).1;lia
   have e1:gs sl i k=p:=by
    unfold gs;rw[zT,hp];rfl
   have e2:gs sl j k=r:=by
    unfold gs;rw[zT,hr];rfl
   have z1:=za k kq
   have z2:=zb k kq;rw[e1] at z1;rw[e2] at z2;refine YL (n:=n) (fs:=[("one",.int i),("other",.int j)]) kId (pr _ _ hn) rfl ?_;exact hK
  ·refine aY _ ?_;rw[List.zipWith_map];unfold Yx;rw[zX];rw[Hm _ _ _ la lb];rfl
def zcW  (Zh:Yj e.K e.mg)(Gm:Dmz Zh.C q5 q78 Kb Pf)(YC:Fkz 1 q22 Wt V5):Fmz 2 Zh.C q5 Pf (Dj Zh.C):=
 mkM Gm zdP (λhr=>(Ze (Zn (Zk YC hr (Za (dv 3) (Za (dv 4) Zd)))))) λS Q ex=>by
  refine kR λ_=>kD λ_=>kD λ_=>kP λ_ _=>kP λ_ _=>kI λ_=>kN λh=>?_
  exact h
def zeY  (Zh:Yj e.K e.mg)(Zp:Yv e.K e.mg)(Zq:YA e.K e.mg)(Zi:Yh e.K e.mg)(Zj:Yl e.K e.mg)(Zo:Yu e.K e.mg)(Fv:Dmz Zh.C q11 q57 PB QT)(QX:Fmz 2 Zh.C q5 Pf (Dj Zh.C))(YB:e.mg "zip"=none):Fmz 3 Zh.C q11 QT (IT Zp.C Zq.C Zi.C Zh.C Zj.C Zo.C):=
 mkM Fv Hs (λhr=>(Zf (XA (i:=5) Hs.nd rfl (Or.inr rfl) (ZI (dv 1) (ZM Zh.cl Zh.n_one (dv 0)))) (Zf (XA (i:=6) Hs.nd rfl (Or.inr rfl) (ZI (dv 1) (ZM Zh.cl Zh.n_other (dv 0)))) (Ze (Zn (OD (x1:="a") (x2:="b") (N:=["x","y","grid","self"]) (caps:=[5,6,4,0]) (ar:=Zm PB) rfl rfl XM rfl rfl rfl (by decide) rfl YB Boot.«zip» (Za (ZI (dv 2) (ZM Zh.cl Zh.n_one (dv 0))) (Za (ZI (dv 2) (ZM Zh.cl Zh.n_other (dv 0))) Zd)) (λ_ _ _ _ _ _=>(Y7 (C:=Zh.C) (dv 5) Zh.cl QX.m QX.ok (hr.mono (by decide)) QX.b Yq (Za (dv 2) (Za (dv 3) (Za (dv 0) (Za (dv 1) (Za (dv 4) Zd))))))))))))) λS Q ex=>by
  refine kR λn=>kR λw=>kR λs=>kI λqi=>kI λg=>kN λh=>?_
  obtain⟨i,j,q,vs,sl,ds,hn,hw,hs,rows,sz,⟨rfl,hq⟩,ok,lv,s1,hg,h⟩:=h;have sg:Sz 21 g:=Sz.of 1000000 (by lia)
  have aY:∀ys:List D,ys=(Yx vs sl g q (Nd.minus i j)).map frD->Q (.ref S.length) (S++[.lst ys]):=λys e=>by
   subst e;exact h _ _ Pre.refl.push (by simp) (Zz _ _)
  refine ZL (n:=n) kId hn rfl ?_;refine ZE (o:=.lst (vs.map frD)) hw (ZP (i:=i) ⟨ok.1.1,by have:=ok.1.2;lia⟩) ?_;refine ZL (n:=n) kId hn rfl ?_;refine ZE (o:=.lst (vs.map frD)) hw (ZP (i:=j) ⟨ok.2.1,by have:=ok.2.2;lia⟩) ?_;obtain⟨a1,ea,_,ha⟩:=rows.at ok.1;obtain⟨a2,eb,_,hb⟩:=rows.at ok.2;obtain⟨la,za⟩:=sz i ok.1;obtain⟨lb,zb⟩:=sz j ok.2;have ci:=s1.at (i:=i) ⟨ok.1.1,by have:=ok.1.2;lia⟩
  have cj:=s1.at (i:=j) ⟨ok.2.1,by have:=ok.2.2;lia⟩;refine Tg (n:=a1) (n':=a2) (S1:=S) (xs:=(sl.getD i.toNat []).map frD) (ys:=(sl.getD j.toNat []).map frD) (λx y=>match x,y with|.tup [.int a,.int b],.tup [.int c,.int d]=>.tup [.int (a-d),.int (b-c)]|_,_=>.non) (λK hK=>by
   refine ZL (n:=n) kId hn rfl ?_;refine ZE (o:=.lst ds) hs ea ?_;refine ZL (n:=n) kId hn rfl ?_;exact ZE (o:=.lst ds) hs eb hK) ha hb (by rw[zB,la];lia) (λk x y hx hy S2 K pr hK=>?_) ?_
  ·rw[zE] at hx hy;obtain⟨p,hp,rfl⟩:=zG.mp hx;obtain⟨r,hr,rfl⟩:=zG.mp hy;have kq:k<q:=by
    have:=(zA.mp hp).1;lia
   have e1:gs sl i k=p:=by
    unfold gs;rw[zT,hp];rfl
   have e2:gs sl j k=r:=by
    unfold gs;rw[zT,hr];rfl
   have z1:=za k kq
   have z2:=zb k kq;rw[e1] at z1;rw[e2] at z2;refine YL (n:=n) (fs:=[("one",.int i),("other",.int j)]) kId (pr _ _ hn) rfl ?_;exact hK
  ·refine aY _ ?_;rw[List.zipWith_map];unfold Yx;rw[zX];rw[Hm _ _ _ la lb];rfl
def zcA  (Zj:Yl e.K e.mg)(Iq:Dmz Zj.C q5 q79 L9 Qn)(Y0:Fkz 1 q25 Vu UR)(XU:Fkz 2 q38 Uk Q3):Fmz 3 Zj.C q5 Qn (Bw Zj.C):=
 mkM Iq zcM (λhr=>(Ze (Zn (Zk Y0 hr (Za (Zk XU hr (Za (dv 1) (Za (dv 4) (Za (dv 5) Zd)))) (Za (Zk XU hr (Za (dv 2) (Za (dv 3) (Za (dv 5) Zd)))) Zd)))))) λS Q ex=>by
  refine kR λ_=>kP λx1 x2=>kP λy1 y2=>kP λa b=>kP λc d=>kI λg=>kN λh=>?_
  obtain⟨⟨h1,h2,h3,h4,h5,h6,h7,h8,g1,g2⟩,h⟩:=h;have sg:Sz 21 g:=Sz.of 1000000 (by lia);refine⟨⟨⟨ZN h1 h7,ZN h1 h8,ZN h2 h7,ZN h2 h8⟩,sg.fd (by lia)⟩,λmn mx hc=>?_⟩;obtain⟨rfl,rfl⟩:=hc.eq;refine⟨⟨⟨ZN h3 h5,ZN h3 h6,ZN h4 h5,ZN h4 h6⟩,sg.fd (by lia)⟩,λmn mx hc=>?_⟩;obtain⟨rfl,rfl⟩:=hc.eq;exact h
def zeI  (Zj:Yl e.K e.mg)(Zp:Yv e.K e.mg)(Zq:YA e.K e.mg)(Zi:Yh e.K e.mg)(Zh:Yj e.K e.mg)(Zo:Yu e.K e.mg)(Hl:Dmz Zj.C q11 q57 Pp Qf)(RW:Fmz 3 Zj.C q5 Qn (Bw Zj.C))(YB:e.mg "zip"=none):Fmz 4 Zj.C q11 Qf (GY Zp.C Zq.C Zi.C Zh.C Zj.C Zo.C):=
 mkM Hl Im (λhr=>(Zf (XA (i:=5) Im.nd rfl (Or.inr rfl) (ZI (dv 1) (ZM Zj.cl Zj.n_one (dv 0)))) (Zf (XA (i:=6) Im.nd rfl (Or.inr rfl) (ZI (dv 1) (ZM Zj.cl Zj.n_other (dv 0)))) (Ze (Zn (OD (x1:="a") (x2:="b") (N:=["x","y","grid","self"]) (caps:=[5,6,4,0]) (ar:=Zm Pp) rfl rfl XM rfl rfl rfl (by decide) rfl YB Boot.«zip» (Za (ZI (dv 2) (ZM Zj.cl Zj.n_one (dv 0))) (Za (ZI (dv 2) (ZM Zj.cl Zj.n_other (dv 0))) Zd)) (λ_ _ _ _ _ _=>(Y7 (C:=Zj.C) (dv 5) Zj.cl RW.m RW.ok (hr.mono (by decide)) RW.b Yq (Za (dv 2) (Za (dv 3) (Za (dv 0) (Za (dv 1) (Za (dv 4) Zd))))))))))))) λS Q ex=>by
  refine kR λn=>kR λw=>kR λs=>kI λqi=>kI λg=>kN λh=>?_
  obtain⟨i,j,q,vs,sl,ds,hn,hw,hs,rows,sz,⟨rfl,hq⟩,ok,lv,s1,hg,h⟩:=h;have sg:Sz 21 g:=Sz.of 1000000 (by lia)
  have aY:∀ys:List D,ys=(Yx vs sl g q (Nd.times i j)).map frD->Q (.ref S.length) (S++[.lst ys]):=λys e=>by
   subst e;exact h _ _ Pre.refl.push (by simp) (Zz _ _)
  refine ZL (n:=n) kId hn rfl ?_;refine ZE (o:=.lst (vs.map frD)) hw (ZP (i:=i) ⟨ok.1.1,by have:=ok.1.2;lia⟩) ?_;refine ZL (n:=n) kId hn rfl ?_;refine ZE (o:=.lst (vs.map frD)) hw (ZP (i:=j) ⟨ok.2.1,by have:=ok.2.2;lia⟩) ?_;obtain⟨a1,ea,_,ha⟩:=rows.at ok.1;obtain⟨a2,eb,_,hb⟩:=rows.at ok.2;obtain⟨la,za⟩:=sz i ok.1;obtain⟨lb,zb⟩:=sz j ok.2;have ci:=s1.at (i:=i) ⟨ok.1.1,by have:=ok.1.2;lia⟩
  have cj:=s1.at (i:=j) ⟨ok.2.1,by have:=ok.2.2;lia⟩;refine Tg (n:=a1) (n':=a2) (S1:=S) (xs:=(sl.getD i.toNat []).map frD) (ys:=(sl.getD j.toNat []).map frD) (λx y=>match x,y with|.tup [.int a,.int b],.tup [.int c,.int d]=>.tup [.int ((Yz (gt vs i) (c,d) g).1+(Yz (gt vs j) (a,b) g).1),.int ((Yz (gt vs i) (c,d) g).2+(Yz (gt vs j) (a,b) g).2)]|_,_=>.non) (λK hK=>by
   refine ZL (n:=n) kId hn rfl ?_;refine ZE (o:=.lst ds) hs ea ?_;refine ZL (n:=n) kId hn rfl ?_;exact ZE (o:=.lst ds) hs eb hK) ha hb (by rw[zB,la];lia) (λk x y hx hy S2 K pr hK=>?_) ?_
  ·rw[zE] at hx hy;obtain⟨p,hp,rfl⟩:=zG.mp hx;obtain⟨r,hr,rfl⟩:=zG.mp hy;have kq:k<q:=by
    have:=(zA.mp hp).1;lia
   have e1:gs sl i k=p:=by
    unfold gs;rw[zT,hp];rfl
   have e2:gs sl j k=r:=by
    unfold gs;rw[zT,hr];rfl
   have z1:=za k kq
   have z2:=zb k kq;rw[e1] at z1;rw[e2] at z2;refine YL (n:=n) (fs:=[("one",.int i),("other",.int j)]) kId (pr _ _ hn) rfl ?_;exact⟨⟨ci.2.1.mono (by decide),ci.2.2.mono (by decide),cj.2.1.mono (by decide),cj.2.2.mono (by decide),z1.2.1.mono (by decide),z1.2.2.mono (by decide),z2.2.1.mono (by decide),z2.2.2.mono (by decide),hg.1,hg.2⟩,hK⟩
  ·refine aY _ ?_;rw[List.zipWith_map];unfold Yx;rw[zX];rw[Hm _ _ _ la lb];rfl
def zb3  (JR:Dfz q51 MC PL)(Z2:e.mg "max"=none)(Yb:e.mg "min"=none):Fkz 1 q51 PL EG:=
 mkF JR zeH (λhr=>(Ze (Zn (ZG (Za (ZR (VA rfl) rfl Yb Boot.«min» (Za (Zl ZS (Zg (dv 0) Zb) (dv 1)) (Za (Zl ZS (Zg (dv 0) Zb) (dv 1)) Zd))) (Za (ZR (WA rfl) rfl Z2 Boot.«max» (Za (Zl ZS (Zg (dv 0) Zb) (dv 1)) (Za (Zl ZS (Zg (dv 0) Zb) (dv 1)) Zd))) Zd)))))) λS Q ex=>by
  refine kP λ_ _=>kI λ_=>kN λh=>?_
  obtain⟨⟨h1,h2⟩,h⟩:=h;exact⟨h1,h2,h1,h2,h⟩
def AX  (Zo:Yu e.K e.mg)(Zp:Yv e.K e.mg)(Zq:YA e.K e.mg)(Zi:Yh e.K e.mg)(Zh:Yj e.K e.mg)(Zj:Yl e.K e.mg)(HV:Dmz Zo.C q11 SN OK O4)(XU:Fkz 2 q38 Uk Q3)(HA:Fkz 1 q51 PL EG)(TM:Fkz 2 q42 Tt IK):Fmz 3 Zo.C q11 O4 (Ja Zp.C Zq.C Zi.C Zh.C Zj.C Zo.C):=
 mkM HV GN (λhr=>(Zf (Zt (i:=5) GN.nd (Zk TM hr (Za (ZI (dv 1) (ZM Zo.cl Zo.n_one (dv 0))) (Za (Zl Yt (ZM Zo.cl Zo.n_many (dv 0)) Zb) (Za (dv 4) Zd))))) (Zf (XA (i:=6) GN.nd rfl (Or.inr rfl) (Zk HA hr (Za (dv 5) (Za (ZM Zo.cl Zo.n_many (dv 0)) Zd)))) (Ze (Zn (XQ (x:="a") (N:=["steep","grid"]) (caps:=[6,4]) (ar:=Zm OK) rfl rfl csc rfl (by decide) (ZI (dv 2) (ZM Zo.cl Zo.n_one (dv 0))) (λ_ _ _ _ _ _=>Yr) (λ_ _ _ _ _ _=>(Zk XU hr (Za (dv 1) (Za (dv 0) (Za (dv 2) Zd))))))))))) λS Q ex=>by
  refine kR λn=>kR λw=>kR λs=>kI λqi=>kI λg=>kN λh=>?_
  obtain⟨i,m,q,vs,sl,ds,hn,hw,hs,rows,sz,⟨rfl,hq⟩,ok,lv,s1,hg,h⟩:=h;have sg:Sz 21 g:=Sz.of 1000000 (by lia)
  have aY:∀ys:List D,ys=(Yx vs sl g q (Nd.power i m)).map frD->Q (.ref S.length) (S++[.lst ys]):=λys e=>by
   subst e;exact h _ _ Pre.refl.push (by simp) (Zz _ _)
  obtain⟨a1,ea,_,ha⟩:=rows.at ok.1;obtain⟨la,za⟩:=sz i ok.1;have ci:=s1.at (i:=i) ⟨ok.1.1,by have:=ok.1.2;lia⟩;obtain⟨ok1,m2,m6⟩:=ok;refine ZL (n:=n) kId hn rfl ?_;refine ZE (o:=.lst (vs.map frD)) hw (ZP (i:=i) ⟨ok1.1,by have:=ok1.2;lia⟩) ?_;refine ZL (n:=n) kId hn rfl ?_;refine⟨⟨by lia,by lia,ci.2.1.mono (by decide),ci.2.2.mono (by decide),hg.1,sg.mono (by decide)⟩,λm' M' hP=>?_⟩;obtain⟨rfl,rfl⟩:=hP.eq (by lia);have gp:(1:Int)<=g^((m-1).toNat-1):=yE (by lia)
  have lo:=TJ gp (GO (gt vs i).1 (gt vs i).2 (m-1).toNat)
  have fl:=zdZ (gt vs i) (n:=m) (by lia) hg.1
  have p1:Sz 6000 ((gt vs i).1^(m-1).toNat):=(ci.2.1.pow _).mono (by lia)
  have p2:Sz 6000 ((gt vs i).2^(m-1).toNat):=(ci.2.2.pow _).mono (by lia)
  have pl:Sz 6000 (Xj (gt vs i).1 (gt vs i).2 (m-1).toNat):=by
   unfold Xj;split
   ·exact yG (by decide)
   ·exact VJ p1 p2
  have sm:Sz 10 m:=Sz.of 6 (by lia);refine ZL (n:=n) kId hn rfl ?_;refine⟨⟨ZN (pl.div gp) sm,ZN (Uw (Vh p1 p2) gp) sm⟩,?_⟩;have e1:(if -(-Vv (gt vs i).1 (gt vs i).2 (m-1).toNat/g^((m-1).toNat-1))*m<Xj (gt vs i).1 (gt vs i).2 (m-1).toNat/g^((m-1).toNat-1)*m then -(-Vv (gt vs i).1 (gt vs i).2 (m-1).toNat/g^((m-1).toNat-1))*m else Xj (gt vs i).1 (gt vs i).2 (m-1).toNat/g^((m-1).toNat-1)*m)=(Xi (gt vs i) m g).1:=by
   rw[if_neg (by have z:(Xi (gt vs i) m g).1<=(Xi (gt vs i) m g).2:=fl;exact Int.not_lt.mpr z)];rfl
  have e2:(if -(-Vv (gt vs i).1 (gt vs i).2 (m-1).toNat/g^((m-1).toNat-1))*m > Xj (gt vs i).1 (gt vs i).2 (m-1).toNat/g^((m-1).toNat-1)*m then -(-Vv (gt vs i).1 (gt vs i).2 (m-1).toNat/g^((m-1).toNat-1))*m else Xj (gt vs i).1 (gt vs i).2 (m-1).toNat/g^((m-1).toNat-1)*m)=(Xi (gt vs i) m g).2:=by
   split
   ·rfl
   ·rename_i c;have z:¬ (Xi (gt vs i) m g).1<(Xi (gt vs i) m g).2:=c
    have z2:(Xi (gt vs i) m g).1=(Xi (gt vs i) m g).2:=by lia
    exact z2
  rw[e1,e2];have f1:Sz 6010 (Xi (gt vs i) m g).1:=Lf (e:=10) (pl.div gp) (by lia) (by lia)
  have f2:Sz 6010 (Xi (gt vs i) m g).2:=Lf (e:=10) (Uw (Vh p1 p2) gp) (by lia) (by lia);generalize hfc:Xi (gt vs i) m g=fc at f1 f2;refine WH (n:=a1) (S1:=S) (o:=.lst ((sl.getD i.toNat []).map frD)) (λx=>match x with|.tup [.int a,.int b]=>frD (Yz fc (a,b) g)|_=>.non) (λK hK=>by
   refine ZL (n:=n) kId hn rfl ?_;exact ZE (o:=.lst ds) hs ea hK) ha (by show ((sl.getD i.toNat []).map frD).length<=1000;rw[zB,la];lia) (λx hx S2 K pr hK=>?_) ?_
  ·have hx':x∈(sl.getD i.toNat []).map frD:=hx;obtain⟨p,hp,rfl⟩:=zO.mp hx';obtain⟨k,hk,ek⟩:=yK.mp hp;have z1:=za k (by lia)
   have e1:gs sl i k=p:=by
    unfold gs;rw[zT,zD hk,ek];rfl
   rw[e1] at z1;refine⟨⟨⟨ZN f1 z1.2.1,ZN f1 z1.2.2,ZN f2 z1.2.1,ZN f2 z1.2.2⟩,sg.fd (by lia)⟩,λmn mx hc=>?_⟩;obtain⟨rfl,rfl⟩:=hc.eq;exact hK
  ·refine aY _ ?_;show ((sl.getD i.toNat []).map frD).map _=_;rw[zX,zak _ _ la];unfold Yx;rw[zX];subst hfc;rfl
def zgu  (Zo:Yu e.K e.mg)(Zj:Yl e.K e.mg)(Zh:Yj e.K e.mg)(Zi:Yh e.K e.mg)(Zq:YA e.K e.mg)(Zp:Yv e.K e.mg)(Hy:Dfz Wv L6 Si)(G7:Fmz 3 Zo.C q11 O4 (Ja Zp.C Zq.C Zi.C Zh.C Zj.C Zo.C))(GV:Fmz 4 Zj.C q11 Qf (GY Zp.C Zq.C Zi.C Zh.C Zj.C Zo.C))(KG:Fmz 3 Zh.C q11 QT (IT Zp.C Zq.C Zi.C Zh.C Zj.C Zo.C))(FD:Fmz 3 Zi.C q11 RC (K1 Zp.C Zq.C Zi.C Zh.C Zj.C Zo.C))(JI:Fmz 1 Zq.C q11 Oq (FT Zp.C Zq.C Zi.C Zh.C Zj.C Zo.C))(Gp:Fmz 1 Zp.C q11 Om (IQ Zp.C Zq.C Zi.C Zh.C Zj.C Zo.C))(VS:Fkz 3 q99 Um (Lj Zp.C Zq.C Zi.C Zh.C Zj.C Zo.C))(Yw:Fkz 4 q33 X1 VH)(ZV:e.mg "len"=none):Fkz 5 Wv Si JY:=
 mkF Hy Md (λhr=>(Zf (Zt (i:=3) Md.nd (Zk Yw hr (Za (dv 0) (Za (dv 1) (Za (dv 2) Zd))))) (Zf (Zt (i:=4) Md.nd (Yi Zd)) (Zf (WD (i:=5) PassesOwn.never rfl Md.nd rfl (Or.inl rfl) (dv 0) (Ze (Ye (YI (dv 4) (JQ (Zk VS hr (Za (dv 5) Zd)) (Y3 Zp.cl Gp (hr.mono (by decide)) (Y3 Zq.cl JI (hr.mono (by decide)) (Y3 Zi.cl FD (hr.mono (by decide)) (Y3 Zh.cl KG (hr.mono (by decide)) (Y3 Zj.cl GV (hr.mono (by decide)) (Y3 Zo.cl G7 (hr.mono (by decide)) HI)))))) Yq (Za (dv 3) (Za (dv 4) (Za (ZR (ZY YW) rfl ZV Boot.«len» (Za (dv 1) Zd)) (Za (dv 2) Zd))))))))) (Ze (Zn (dv 4))))))) λS Q ex=>by
  refine kR λa=>kR λb=>kI λg=>kN λh=>?_
  obtain⟨ns,ws,bs,ha,hb,net,sb,hq9,hg,hl,h⟩:=h;have disp:∀v:Nd,∃C fs sd,v.ob Zp.C Zq.C Zi.C Zh.C Zj.C Zo.C=.ins C fs/\(C,sd)∈[(Zp.C,IQ Zp.C Zq.C Zi.C Zh.C Zj.C Zo.C),(Zq.C,FT Zp.C Zq.C Zi.C Zh.C Zj.C Zo.C),(Zi.C,K1 Zp.C Zq.C Zi.C Zh.C Zj.C Zo.C),(Zh.C,IT Zp.C Zq.C Zi.C Zh.C Zj.C Zo.C),(Zj.C,GY Zp.C Zq.C Zi.C Zh.C Zj.C Zo.C),(Zo.C,Ja Zp.C Zq.C Zi.C Zh.C Zj.C Zo.C)]/\fs.lookup ("slope":Str)=none/\∀(n w s:Nat)(q:Nat)(g:Int)(S:Sto)(Q:DK)(ex:Addr->Sto->Prop)(vs:LI)(sl:List LI)(ds:List D),S[n]?=some (v.ob Zp.C Zq.C Zi.C Zh.C Zj.C Zo.C)->S[w]?=some (.lst (vs.map frD))->S[s]?=some (.lst ds)->Ym S 0 ds sl->(∀i:Int,inR sl.length i->(sl.getD i.toNat []).length=q/\∀l,l<q->(gs sl i l).1<=(gs sl i l).2/\Sz 1100 (gs sl i l).1/\Sz 1100 (gs sl i l).2)->q<=900->v.ok sl.length q->sl.length<=vs.length->Spn 1000 vs->(1<=g/\g<=1000000)->(∀(T:Sto)(m:Nat),Pre S T->S.length<=m->T[m]?=some (.lst ((Yx vs sl g q v).map frD))->Q (.ref m) T)->sd [.ref n,.ref w,.ref s,.int (q:Nat),.int g] S Q ex:=by
   intro v;cases v with
   | number x y=>exact⟨_,_,_,rfl,(.head _),rfl,λn w s q g S Q ex vs sl ds a1 a2 a3 a4 a5 a6 a7 a8 a9 b1 b2=>⟨x,y,q,vs,sl,ds,a1,a2,a3,a4,a5,⟨rfl,a6⟩,a7,a8,a9,b1,b2⟩⟩
   | unknown k=>exact⟨_,_,_,rfl,(.tail _ (.head _)),rfl,λn w s q g S Q ex vs sl ds a1 a2 a3 a4 a5 a6 a7 a8 a9 b1 b2=>⟨k,q,vs,sl,ds,a1,a2,a3,a4,a5,⟨rfl,a6⟩,a7,a8,a9,b1,b2⟩⟩
   | plus i j=>exact⟨_,_,_,rfl,(.tail _ (.tail _ (.head _))),rfl,λn w s q g S Q ex vs sl ds a1 a2 a3 a4 a5 a6 a7 a8 a9 b1 b2=>⟨i,j,q,vs,sl,ds,a1,a2,a3,a4,a5,⟨rfl,a6⟩,a7,a8,a9,b1,b2⟩⟩
   | minus i j=>exact⟨_,_,_,rfl,(.tail _ (.tail _ (.tail _ (.head _)))),rfl,λn w s q g S Q ex vs sl ds a1 a2 a3 a4 a5 a6 a7 a8 a9 b1 b2=>⟨i,j,q,vs,sl,ds,a1,a2,a3,a4,a5,⟨rfl,a6⟩,a7,a8,a9,b1,b2⟩⟩
   | times i j=>exact⟨_,_,_,rfl,(.tail _ (.tail _ (.tail _ (.tail _ (.head _))))),rfl,λn w s q g S Q ex vs sl ds a1 a2 a3 a4 a5 a6 a7 a8 a9 b1 b2=>⟨i,j,q,vs,sl,ds,a1,a2,a3,a4,a5,⟨rfl,a6⟩,a7,a8,a9,b1,b2⟩⟩
   | power i m=>exact⟨_,_,_,rfl,(.tail _ (.tail _ (.tail _ (.tail _ (.tail _ (.head _)))))),rfl,λn w s q g S Q ex vs sl ds a1 a2 a3 a4 a5 a6 a7 a8 a9 b1 b2=>⟨i,m,q,vs,sl,ds,a1,a2,a3,a4,a5,⟨rfl,a6⟩,a7,a8,a9,b1,b2⟩⟩
  refine⟨ns,ws,bs,ha,hb,net,sb,hg,hl,λT1 w pr1 lw hw=>?_⟩;have szw:=Dw net rfl sb hg
  have lf:(ZC bs g ns).length=ns.length:=Xk _ _ _
  have spn:Spn 1000 (ZC bs g ns):=szw.spn λk hk=>by
   have z:=(net.w1 (i:=(k:Int)) ⟨by lia,by lia⟩).2
   rwa [zN] at z
  refine Vp (n:=a) (o:=.lst (ns.map Nd.d)) (λk dl' S'=>k<=ns.length/\Pre T1 S'/\(∃ds:List D,S'[T1.length]?=some (.lst ds)/\Ym S' (T1.length+1) ds (Ys (ZC bs g ns) g bs.length (ns.take k)))/\∃u:Option D,dl'=[some (.ref a),some (.ref b),some (.int g),some (.ref w),some (.ref T1.length),u]) ⟨zK _,Pre.refl.push,⟨[],Zz _ _,Ym.nil⟩,_,rfl⟩ (λk dl' S' z=>z.2.1 _ _ (pr1 _ _ ha)) ?_ ?_
  ·rintro k x dl' S' nx ct ex' ⟨hk,pr,⟨ds,hf,rows⟩,u,rfl⟩ hn;have ex2:(ns.map Nd.d)[k]?=some x:=ex';rw[zE] at ex2;obtain⟨v,hv,rfl⟩:=zG.mp ex2;have hk':=(zA.mp hv).1
   have ln:(Ys (ZC bs g ns) g bs.length (ns.take k)).length=k:=by rw[LZ,zL];lia
   have okv:v.ok (Ys (ZC bs g ns) g bs.length (ns.take k)).length bs.length:=by rw[ln];exact(net.ok k v hv).1
   have slw:=DO net szw lf hg k hk
   have ss:=slw.spn λi hi=>by
    have z:=(net.w1 (i:=(i:Int)) ⟨by lia,by lia⟩).2
    rwa [zN] at z
   obtain⟨C,fs,sd,eo,hm,hf2,go⟩:=disp v;have N1:=Zz S' (v.ob Zp.C Zq.C Zi.C Zh.C Zj.C Zo.C)
   have ld:ds.length=k:=by rw[rows.1,ln]
   have lt:=Z8 hf;refine zbT (n:=T1.length) (xs:=ds) kId hf (λK hK=>?_) (by lia);refine JC (n:=S'.length) (C:=C) (sd:=sd) (fs:=fs) (S1:=S'++[v.ob Zp.C Zq.C Zi.C Zh.C Zj.C Zo.C]) (λK hK=>⟨v,rfl,by exact hK⟩) (by rw[<- eo];exact N1) hm hf2 ?_;refine Xg (ZF (pr _ _ (pr1 _ _ hb))) ?_;rw[zB];refine go _ _ _ bs.length _ _ _ _ (ZC bs g ns) (Ys (ZC bs g ns) g bs.length (ns.take k)) ds N1 (ZF (pr _ _ hw)) (ZF hf) ((rows.low (zK _)).pre (Wg Pre.refl _)) ss hq9 okv (by lia) spn hg λT m prT lm hT=>?_
   have hf3:=prT _ _ (ZF hf);refine hK _ _ hf3 ?_;have lS:(S'++[v.ob Zp.C Zq.C Zi.C Zh.C Zj.C Zo.C]).length=S'.length+1:=by simp
   have rows3:Ym T (T1.length+1) ds (Ys (ZC bs g ns) g bs.length (ns.take k)):=rows.pre λi o e=>prT _ _ (ZF e)
   refine hn _ _ ⟨by lia,Xz (pr.trans λi o e=>prT _ _ (ZF e)) (zC _),⟨ds++[.ref m],YE hf3,?_⟩,_,rfl⟩;rw[Y9 hv,Jg];have r4:=rows3.snoc (a:=m) (r:=Yx (ZC bs g ns) (Ys (ZC bs g ns) g bs.length (ns.take k)) g bs.length v) (by lia) hT;exact r4.keep λx o hx e=>Yg e (by lia)
  ·rintro dl' S' ⟨hk,pr,⟨ds,hf,rows⟩,u,rfl⟩;have e:ns.take (Zv (.lst (ns.map Nd.d))).length=ns:=by
    show ns.take (ns.map Nd.d).length=ns;rw[zB,yF]
   rw[e] at rows;refine h _ _ ds (pr1.trans pr) ?_ hf rows;exact Xv pr1
def zaK  (Iv:Dfz q95 Lq QM)(TZ:Fkz 1 Ws So GS)(SA:Fkz 5 Wv Si JY):Fkz 6 q95 QM D7:=
 mkF Iv zei (λhr=>(Ze (Zn (Zk TZ hr (Za (Zk SA hr (Za (dv 0) (Za (dv 2) (Za (dv 3) Zd)))) (Za (dv 1) Zd)))))) λS Q ex=>by
  refine kR λa=>kR λp=>kR λb=>kI λg=>kN λh=>?_
  obtain⟨ns,ws,bs,is,ha,hb,net,sb,hg,l7,b9,hp,i9,hi,h⟩:=h;refine⟨ns,ws,bs,ha,hb,net,sb,b9,hg,l7,λT m ds pr lm hm rows=>?_⟩;have ls:=LZ (ZC bs g ns) g bs.length ns
  have ld:ds.length=ns.length:=by rw[rows.1,ls]
  refine⟨ds,is,hm,pr _ _ hp,i9,λi him=>by rw[ld];exact hi i him,?_⟩;refine h _ _ (is.map λi=>ds.getD i .non) (λx o z=>ZF (pr _ _ z)) (Zz _ _) (zB ..) λd hd=>?_
  obtain⟨i,him,rfl⟩:=zO.mp hd;have hin:=hi i him
  have h1:ds[i]?=some (ds.getD i .non):=by rw[zD (show i<ds.length by lia)];simp[show i<ds.length by lia]
  have h2:(Ys (ZC bs g ns) g bs.length ns)[i]?=some ((Ys (ZC bs g ns) g bs.length ns).getD i []):=by rw[zD (show i<(Ys (ZC bs g ns) g bs.length ns).length by lia)];simp[show i<(Ys (ZC bs g ns) g bs.length ns).length by lia]
  obtain⟨q,eq,_,sq⟩:=rows.2 i _ _ h1 h2;exact⟨q,_,eq,zK _,ZF sq,_,rfl,AQ net sb hg hi _ (zO.mpr ⟨i,him,rfl⟩)⟩
def zab  (G9:Dfz q77 Kl Ud):Fkz 1 q77 Ud Ow:=
 mkF G9 zaP (λhr=>(Ze (Zn (XH (Zy (ZO hr) (Zl Yp (dv 1) Zb) Zb (Zw _)) (XR XS (dv 0)) (dv 0))))) λS Q ex=>by
  refine kI λi=>kI λk=>kN λh=>?_
  obtain⟨n,rfl,h⟩:=h;refine ifD (λe=>?_) (λe=>?_)
  ·have z:sgn i n=-i:=by unfold sgn;rw[if_pos (by lia)]
   rw[z] at h;exact h
  ·have z:sgn i n=i:=by unfold sgn;rw[if_neg (by lia)]
   rw[z] at h;exact h
def zc0  (FP:Dfz q55 Qe V7):Fkz 1 q55 V7 ON:=
 mkF FP BC (λhr=>(Zf (Zt (i:=3) BC.nd (Zl Nz (W8 (dv 0) Vj (WS (dv 1))) (W8 (dv 0) (WS (Zl Z5 (dv 1) Zb)) Vj))) (Ze (Zn (XQ (x:="entries") (N:=["column"]) (caps:=[2]) (ar:=Zm Qe) rfl rfl csc rfl (by decide) (dv 3) (λ_ _ _ _ _ _=>Yr) (λ_ _ _ _ _ _=>(Zl Nz (W8 (dv 0) Vj (WS (dv 1))) (W8 (dv 0) (WS (Zl Z5 (dv 1) Zb)) Vj)))))))) λS Q ex=>by
  refine kR λm=>kI λr=>kI λc=>kN λh=>?_
  obtain⟨ds,i,j,n,rfl,rfl,hm,lm,rows,hn,hi,hj,h⟩:=h;refine WU (n:=m) (o:=.lst ds) (lo:=none) (hi:=some (i:Int)) kId kId kId hm ?_;refine WU (n:=m) (o:=.lst ds) (lo:=some ((i+1:Nat):Int)) (hi:=none) kId kId kId (VR hm) ?_;dsimp only[Zv];rw[Ey,DN];refine L0 (xs:=ds.take i) (ys:=ds.drop (i+1)) (VR (Zz _ _)) (Zz _ _) (by simp;lia) ?_;have p0:Pre S (S++[.lst (ds.take i)]++[.lst (ds.drop (i+1))]++[.lst (ds.take i++ds.drop (i+1))]):=Pre.refl.push.push.push;refine DS (n:=(S++[Ob.lst (ds.take i)]++[Ob.lst (ds.drop (i+1))]).length) (RI 1024 (n+1)) (RI 1024 n) kId (Zz _ _) (rows.cut.pre p0) (by simp;lia) (λa xs S2 K hx ha hK=>?_) (λS2 ys p2 e2 l2 r2=>?_)
  ·have lr:xs.length<=n+1:=by obtain⟨r,rfl,l,_⟩:=hx;simp[l]
   show dOp (Xh Qc) (T9 (Wn 0) HP (Eo (Wn 1))) (T9 (Wn 0) (Eo (dOp wAdd (Wn 1) (dC (D.int 1)))) HP) [some (.ref a),some (.int (j:Int))] S2 K;simp only[dOp];refine WU (n:=a) (o:=.lst xs) (lo:=none) (hi:=some (j:Int)) kId kId kId ha ?_;refine WU (n:=a) (o:=.lst xs) (lo:=some ((j+1:Nat):Int)) (hi:=none) kId kId kId (VR ha) ?_;dsimp only[Zv];rw[Ey,DN];refine L0 (xs:=xs.take j) (ys:=xs.drop (j+1)) (VR (Zz _ _)) (Zz _ _) (by simp;lia) ?_;exact hK _ _ _ Pre.refl.push.push.push (by simp) (Zz _ _) (zhJ hj hx)
  ·exact h S2 _ ys (p0.trans p2) e2 (by rw[l2];simp;lia) r2
def zie (YM:Dfz q14 XT Y8)(XF:Fkz 0 q19 Xp Fe)(YG:e.mg "sum"=none)(Z6:e.mg q70=none)(ZV:e.mg "len"=none):Fkz 1 q14 Y8 RD:=
 YM.mk' (WG (Xo (k:=0) YM.F Pa (Vb zc4) λ_ _ _ _ _ _ hr=>⟨_,(Zf (ZD (Zy (ZO hr) (ZR (ZY YW) rfl ZV Boot.«len» (Za (dv 0) Zd)) Zb (Zw _)) (Ze (Zn Zb)) ZH) (Ze (Zn (ZR (ZY (UH rfl)) rfl YG Boot.«sum» (Za (Tp (x1:="column") (x2:="entry") (N:=["matrix"]) (caps:=[0]) (ar:=Zm XT) rfl rfl XM rfl rfl rfl (by decide) rfl Z6 Boot.«enumerate» (Za (Zg (dv 0) Zb) Zd) (λ_ _ _ _ _ _=>Yr) (λ_ _ _ _ _ _=>(Zl ZS (dv 1) (Zk XF hr (Za (dv 2) (Za Zb (Za (dv 0) Zd))))))) Zd))))),λds S Q ex h=>by
  obtain⟨Q0,ex0,rfl,rfl,h⟩:=h;unfold RD at h;split at h
  ·rename_i m;obtain⟨ds,n,hn,hm,lm,rows,h⟩:=h;refine Xg hm ?_;refine ifD (λe=>⟨Pre.refl,.int _,h 1 (Nat.one_lt_two_pow (by lia))⟩) (λe=>?_);exact absurd (show ((ds.length:Nat):Int)=0 by lia) e
  ·exact h.elim⟩))
def zgE (Y6:Dfz q19 Uq Xp)(X2:Fkz 1 q77 Ud Ow)(Wo:Fkz 1 q14 Y8 RD)(Wd:Fkz 1 q55 V7 ON):Fkz 2 q19 Xp Ts:=
 Y6.mk' (WG (Xo (k:=1) Y6.F O7 (Vb A2) λ_ _ _ _ _ _ hr=>⟨_,(Ze (Zn (Zk X2 hr (Za (Zk Wo hr (Za (Zk Wd hr (Za (dv 0) (Za (dv 1) (Za (dv 2) Zd)))) Zd)) (Za (Zl Z5 (dv 1) (dv 2)) Zd))))),λds S Q ex h=>by
  obtain⟨Q0,ex0,rfl,rfl,h⟩:=h;unfold Ts at h;split at h
  ·rename_i m r c;obtain⟨ds,i,j,n,hn,rfl,rfl,hi,hj,hm,lm,rows,h⟩:=h;refine⟨ds,i,j,n,rfl,rfl,hm,lm,rows,by lia,hi,hj,λT k es pt e1 e2 e3=>?_⟩;exact⟨es,n,hn,e1,e2,e3,λx hx=>⟨i+j,by lia,pt,.int _,h _ (LC hx)⟩⟩
  ·exact h.elim⟩))
def zgo (YM:Dfz q14 XT Y8)(XF:Fkz 2 q19 Xp Ts)(YG:e.mg "sum"=none)(Z6:e.mg q70=none)(ZV:e.mg "len"=none):Fkz 3 q14 Y8 QU:=
 YM.mk' (WG (Xo (k:=2) YM.F Pa (Vb zbX) λ_ _ _ _ _ _ hr=>⟨_,(Zf (ZD (Zy (ZO hr) (ZR (ZY YW) rfl ZV Boot.«len» (Za (dv 0) Zd)) Zb (Zw _)) (Ze (Zn Zb)) ZH) (Ze (Zn (ZR (ZY (UH rfl)) rfl YG Boot.«sum» (Za (Tp (x1:="column") (x2:="entry") (N:=["matrix"]) (caps:=[0]) (ar:=Zm XT) rfl rfl XM rfl rfl rfl (by decide) rfl Z6 Boot.«enumerate» (Za (Zg (dv 0) Zb) Zd) (λ_ _ _ _ _ _=>Yr) (λ_ _ _ _ _ _=>(Zl ZS (dv 1) (Zk XF hr (Za (dv 2) (Za Zb (Za (dv 0) Zd))))))) Zd))))),λds S Q ex h=>by
  obtain⟨Q0,ex0,rfl,rfl,h⟩:=h;unfold QU at h;split at h
  ·rename_i m;obtain⟨ds,n,hn,hm,lm,rows,h⟩:=h;refine Xg hm ?_;refine ifD (λe=>⟨Pre.refl,.int _,h 1 (Nat.one_lt_two_pow (by lia))⟩) (λe=>?_);obtain⟨n,rfl⟩:∃k,n=k+1:=⟨n-1,by lia⟩;obtain⟨a,xs,hd,_,ha,r,rfl,lr,zr⟩:=rows _ (yM (show 0<ds.length by lia));have hd0:ds[0]?=some (.ref a):=by rw[<- hd];exact zD (by lia)
   refine RB (n:=a) (xs:=r.map D.int) (S1:=S) (λd=>∃x,d=.int x/\Sz (1040*n+1031) x) (λK hK=>?_) ha (by simp;lia) (λk x hx S2 K p2 hK=>?_) λys ly hy=>?_
   ·show dOp wIx (Wn 0) (dC (D.int 0)) [some (.ref m)] S λx S1=>K [x] S1
    exact MA hm hd0 hK
   ·rw[zE] at hx;obtain⟨y,hy,rfl⟩:=zG.mp hx;have hk:=(zA.mp hy).1
    have sy:=zr y (zF hy)
    show Ts [.ref m,.int 0,.int (k:Int)] S2 (λz S3=>RP (.int y) z S3 K) (λ_ _=>False);exact⟨ds,0,k,n,by lia,rfl,rfl,zK _,by lia,p2 _ _ hm,lm,rows.pre p2,λz sz=>⟨ZN sy (sz.mono (show _<=6000 by lia)),hK _ ⟨_,rfl,(sy.mul sz).mono (by lia)⟩⟩⟩
   ·obtain⟨zs,rfl,bz⟩:=all_map hy;rw[zB,zB] at ly;refine Sj (Zz _ _) (Vy zs) ⟨Pre.refl.push,.int _,h _ ((Lg bz (by lia)).mono (by lia))⟩
  ·exact h.elim⟩))
def zha (Y6:Dfz q19 Uq Xp)(X2:Fkz 1 q77 Ud Ow)(Wo:Fkz 3 q14 Y8 QU)(Wd:Fkz 1 q55 V7 ON):Fkz 4 q19 Xp S8:=
 Y6.mk' (WG (Xo (k:=3) Y6.F O7 (Vb zeC) λ_ _ _ _ _ _ hr=>⟨_,(Ze (Zn (Zk X2 hr (Za (Zk Wo hr (Za (Zk Wd hr (Za (dv 0) (Za (dv 1) (Za (dv 2) Zd)))) Zd)) (Za (Zl Z5 (dv 1) (dv 2)) Zd))))),λds S Q ex h=>by
  obtain⟨Q0,ex0,rfl,rfl,h⟩:=h;unfold S8 at h;split at h
  ·rename_i m r c;obtain⟨ds,i,j,n,hn,rfl,rfl,hi,hj,hm,lm,rows,h⟩:=h;refine⟨ds,i,j,n,rfl,rfl,hm,lm,rows,by lia,hi,hj,λT k es pt e1 e2 e3=>?_⟩;exact⟨es,n,hn,e1,e2,e3,λx hx=>⟨i+j,by lia,pt,.int _,h _ (LC hx)⟩⟩
  ·exact h.elim⟩))
def A5 (YM:Dfz q14 XT Y8)(XF:Fkz 4 q19 Xp S8)(YG:e.mg "sum"=none)(Z6:e.mg q70=none)(ZV:e.mg "len"=none):Fkz 5 q14 Y8 PU:=
 YM.mk' (WG (Xo (k:=4) YM.F Pa (Vb zfg) λ_ _ _ _ _ _ hr=>⟨_,(Zf (ZD (Zy (ZO hr) (ZR (ZY YW) rfl ZV Boot.«len» (Za (dv 0) Zd)) Zb (Zw _)) (Ze (Zn Zb)) ZH) (Ze (Zn (ZR (ZY (UH rfl)) rfl YG Boot.«sum» (Za (Tp (x1:="column") (x2:="entry") (N:=["matrix"]) (caps:=[0]) (ar:=Zm XT) rfl rfl XM rfl rfl rfl (by decide) rfl Z6 Boot.«enumerate» (Za (Zg (dv 0) Zb) Zd) (λ_ _ _ _ _ _=>Yr) (λ_ _ _ _ _ _=>(Zl ZS (dv 1) (Zk XF hr (Za (dv 2) (Za Zb (Za (dv 0) Zd))))))) Zd))))),λds S Q ex h=>by
  obtain⟨Q0,ex0,rfl,rfl,h⟩:=h;unfold PU at h;split at h
  ·rename_i m;obtain⟨ds,n,hn,hm,lm,rows,h⟩:=h;refine Xg hm ?_;refine ifD (λe=>⟨Pre.refl,.int _,h 1 (Nat.one_lt_two_pow (by lia))⟩) (λe=>?_);obtain⟨n,rfl⟩:∃k,n=k+1:=⟨n-1,by lia⟩;obtain⟨a,xs,hd,_,ha,r,rfl,lr,zr⟩:=rows _ (yM (show 0<ds.length by lia));have hd0:ds[0]?=some (.ref a):=by rw[<- hd];exact zD (by lia)
   refine RB (n:=a) (xs:=r.map D.int) (S1:=S) (λd=>∃x,d=.int x/\Sz (1040*n+1031) x) (λK hK=>?_) ha (by simp;lia) (λk x hx S2 K p2 hK=>?_) λys ly hy=>?_
   ·show dOp wIx (Wn 0) (dC (D.int 0)) [some (.ref m)] S λx S1=>K [x] S1
    exact MA hm hd0 hK
   ·rw[zE] at hx;obtain⟨y,hy,rfl⟩:=zG.mp hx;have hk:=(zA.mp hy).1
    have sy:=zr y (zF hy)
    show S8 [.ref m,.int 0,.int (k:Int)] S2 (λz S3=>RP (.int y) z S3 K) (λ_ _=>False);exact⟨ds,0,k,n,by lia,rfl,rfl,zK _,by lia,p2 _ _ hm,lm,rows.pre p2,λz sz=>⟨ZN sy (sz.mono (show _<=6000 by lia)),hK _ ⟨_,rfl,(sy.mul sz).mono (by lia)⟩⟩⟩
   ·obtain⟨zs,rfl,bz⟩:=all_map hy;rw[zB,zB] at ly;refine Sj (Zz _ _) (Vy zs) ⟨Pre.refl.push,.int _,h _ ((Lg bz (by lia)).mono (by lia))⟩
  ·exact h.elim⟩))
def zhd (Y6:Dfz q19 Uq Xp)(X2:Fkz 1 q77 Ud Ow)(Wo:Fkz 5 q14 Y8 PU)(Wd:Fkz 1 q55 V7 ON):Fkz 6 q19 Xp Sh:=
 Y6.mk' (WG (Xo (k:=5) Y6.F O7 (Vb AI) λ_ _ _ _ _ _ hr=>⟨_,(Ze (Zn (Zk X2 hr (Za (Zk Wo hr (Za (Zk Wd hr (Za (dv 0) (Za (dv 1) (Za (dv 2) Zd)))) Zd)) (Za (Zl Z5 (dv 1) (dv 2)) Zd))))),λds S Q ex h=>by
  obtain⟨Q0,ex0,rfl,rfl,h⟩:=h;unfold Sh at h;split at h
  ·rename_i m r c;obtain⟨ds,i,j,n,hn,rfl,rfl,hi,hj,hm,lm,rows,h⟩:=h;refine⟨ds,i,j,n,rfl,rfl,hm,lm,rows,by lia,hi,hj,λT k es pt e1 e2 e3=>?_⟩;exact⟨es,n,hn,e1,e2,e3,λx hx=>⟨i+j,by lia,pt,.int _,h _ (LC hx)⟩⟩
  ·exact h.elim⟩))
def zhe (YM:Dfz q14 XT Y8)(XF:Fkz 6 q19 Xp Sh)(YG:e.mg "sum"=none)(Z6:e.mg q70=none)(ZV:e.mg "len"=none):Fkz 7 q14 Y8 Qj:=
 YM.mk' (WG (Xo (k:=6) YM.F Pa (Vb zc6) λ_ _ _ _ _ _ hr=>⟨_,(Zf (ZD (Zy (ZO hr) (ZR (ZY YW) rfl ZV Boot.«len» (Za (dv 0) Zd)) Zb (Zw _)) (Ze (Zn Zb)) ZH) (Ze (Zn (ZR (ZY (UH rfl)) rfl YG Boot.«sum» (Za (Tp (x1:="column") (x2:="entry") (N:=["matrix"]) (caps:=[0]) (ar:=Zm XT) rfl rfl XM rfl rfl rfl (by decide) rfl Z6 Boot.«enumerate» (Za (Zg (dv 0) Zb) Zd) (λ_ _ _ _ _ _=>Yr) (λ_ _ _ _ _ _=>(Zl ZS (dv 1) (Zk XF hr (Za (dv 2) (Za Zb (Za (dv 0) Zd))))))) Zd))))),λds S Q ex h=>by
  obtain⟨Q0,ex0,rfl,rfl,h⟩:=h;unfold Qj at h;split at h
  ·rename_i m;obtain⟨ds,n,hn,hm,lm,rows,h⟩:=h;refine Xg hm ?_;refine ifD (λe=>⟨Pre.refl,.int _,h 1 (Nat.one_lt_two_pow (by lia))⟩) (λe=>?_);obtain⟨n,rfl⟩:∃k,n=k+1:=⟨n-1,by lia⟩;obtain⟨a,xs,hd,_,ha,r,rfl,lr,zr⟩:=rows _ (yM (show 0<ds.length by lia));have hd0:ds[0]?=some (.ref a):=by rw[<- hd];exact zD (by lia)
   refine RB (n:=a) (xs:=r.map D.int) (S1:=S) (λd=>∃x,d=.int x/\Sz (1040*n+1031) x) (λK hK=>?_) ha (by simp;lia) (λk x hx S2 K p2 hK=>?_) λys ly hy=>?_
   ·show dOp wIx (Wn 0) (dC (D.int 0)) [some (.ref m)] S λx S1=>K [x] S1
    exact MA hm hd0 hK
   ·rw[zE] at hx;obtain⟨y,hy,rfl⟩:=zG.mp hx;have hk:=(zA.mp hy).1
    have sy:=zr y (zF hy)
    show Sh [.ref m,.int 0,.int (k:Int)] S2 (λz S3=>RP (.int y) z S3 K) (λ_ _=>False);exact⟨ds,0,k,n,by lia,rfl,rfl,zK _,by lia,p2 _ _ hm,lm,rows.pre p2,λz sz=>⟨ZN sy (sz.mono (show _<=6000 by lia)),hK _ ⟨_,rfl,(sy.mul sz).mono (by lia)⟩⟩⟩
   ·obtain⟨zs,rfl,bz⟩:=all_map hy;rw[zB,zB] at ly;refine Sj (Zz _ _) (Vy zs) ⟨Pre.refl.push,.int _,h _ ((Lg bz (by lia)).mono (by lia))⟩
  ·exact h.elim⟩))
def zdE (Y6:Dfz q19 Uq Xp)(X2:Fkz 1 q77 Ud Ow)(Wo:Fkz 7 q14 Y8 Qj)(Wd:Fkz 1 q55 V7 ON):Fkz 8 q19 Xp Ur:=
 Y6.mk' (WG (Xo (k:=7) Y6.F O7 (Vb zhc) λ_ _ _ _ _ _ hr=>⟨_,(Ze (Zn (Zk X2 hr (Za (Zk Wo hr (Za (Zk Wd hr (Za (dv 0) (Za (dv 1) (Za (dv 2) Zd)))) Zd)) (Za (Zl Z5 (dv 1) (dv 2)) Zd))))),λds S Q ex h=>by
  obtain⟨Q0,ex0,rfl,rfl,h⟩:=h;unfold Ur at h;split at h
  ·rename_i m r c;obtain⟨ds,i,j,n,hn,rfl,rfl,hi,hj,hm,lm,rows,h⟩:=h;refine⟨ds,i,j,n,rfl,rfl,hm,lm,rows,by lia,hi,hj,λT k es pt e1 e2 e3=>?_⟩;exact⟨es,n,hn,e1,e2,e3,λx hx=>⟨i+j,by lia,pt,.int _,h _ (LC hx)⟩⟩
  ·exact h.elim⟩))
def zav (YM:Dfz q14 XT Y8)(XF:Fkz 8 q19 Xp Ur)(YG:e.mg "sum"=none)(Z6:e.mg q70=none)(ZV:e.mg "len"=none):Fkz 9 q14 Y8 QB:=
 YM.mk' (WG (Xo (k:=8) YM.F Pa (Vb zcO) λ_ _ _ _ _ _ hr=>⟨_,(Zf (ZD (Zy (ZO hr) (ZR (ZY YW) rfl ZV Boot.«len» (Za (dv 0) Zd)) Zb (Zw _)) (Ze (Zn Zb)) ZH) (Ze (Zn (ZR (ZY (UH rfl)) rfl YG Boot.«sum» (Za (Tp (x1:="column") (x2:="entry") (N:=["matrix"]) (caps:=[0]) (ar:=Zm XT) rfl rfl XM rfl rfl rfl (by decide) rfl Z6 Boot.«enumerate» (Za (Zg (dv 0) Zb) Zd) (λ_ _ _ _ _ _=>Yr) (λ_ _ _ _ _ _=>(Zl ZS (dv 1) (Zk XF hr (Za (dv 2) (Za Zb (Za (dv 0) Zd))))))) Zd))))),λds S Q ex h=>by
  obtain⟨Q0,ex0,rfl,rfl,h⟩:=h;unfold QB at h;split at h
  ·rename_i m;obtain⟨ds,n,hn,hm,lm,rows,h⟩:=h;refine Xg hm ?_;refine ifD (λe=>⟨Pre.refl,.int _,h 1 (Nat.one_lt_two_pow (by lia))⟩) (λe=>?_);obtain⟨n,rfl⟩:∃k,n=k+1:=⟨n-1,by lia⟩;obtain⟨a,xs,hd,_,ha,r,rfl,lr,zr⟩:=rows _ (yM (show 0<ds.length by lia));have hd0:ds[0]?=some (.ref a):=by rw[<- hd];exact zD (by lia)
   refine RB (n:=a) (xs:=r.map D.int) (S1:=S) (λd=>∃x,d=.int x/\Sz (1040*n+1031) x) (λK hK=>?_) ha (by simp;lia) (λk x hx S2 K p2 hK=>?_) λys ly hy=>?_
   ·show dOp wIx (Wn 0) (dC (D.int 0)) [some (.ref m)] S λx S1=>K [x] S1
    exact MA hm hd0 hK
   ·rw[zE] at hx;obtain⟨y,hy,rfl⟩:=zG.mp hx;have hk:=(zA.mp hy).1
    have sy:=zr y (zF hy)
    show Ur [.ref m,.int 0,.int (k:Int)] S2 (λz S3=>RP (.int y) z S3 K) (λ_ _=>False);exact⟨ds,0,k,n,by lia,rfl,rfl,zK _,by lia,p2 _ _ hm,lm,rows.pre p2,λz sz=>⟨ZN sy (sz.mono (show _<=6000 by lia)),hK _ ⟨_,rfl,(sy.mul sz).mono (by lia)⟩⟩⟩
   ·obtain⟨zs,rfl,bz⟩:=all_map hy;rw[zB,zB] at ly;refine Sj (Zz _ _) (Vy zs) ⟨Pre.refl.push,.int _,h _ ((Lg bz (by lia)).mono (by lia))⟩
  ·exact h.elim⟩))
def zgs  (Ff:Dfz q27 MW Oh)(XF:Fkz 8 q19 Xp Ur):Fkz 9 q27 Oh C7:=
 mkF Ff zat (λhr=>(Ze (Zn (Zl zco (Zl ZS (Zl ZS (Zk XF hr (Za (dv 0) (Za (dv 3) (Za (dv 2) Zd)))) (dv 4)) (dv 4)) (dv 1))))) λS Q ex=>by
  refine kR λm=>kI λw=>kI λr=>kI λc=>kI λg=>kN λh=>?_
  obtain⟨ds,i,j,n,hn,rfl,rfl,hi,hj,hm,lm,rows,hw,hg,h⟩:=h;refine⟨ds,j,i,n,hn,rfl,rfl,hj,hi,hm,lm,rows,λx hx=>?_⟩;have e2:Sz 3121 x:=hx.mono (by lia)
  have eg:Sz 20 g:=Sz.of 1000000 (by lia);refine⟨ZN e2 eg,ZN (e2.mul eg) eg,⟨hw.1,hw.2.log hw.1⟩,h _ ?_⟩;exact zgW ((e2.mul eg).mul eg) hw.1
def zep  (Fd:Dfz q41 Qm RS)(Jf:Fkz 9 q27 Oh C7)(Z1:e.mg XY=none)(ZV:e.mg "len"=none):Fkz 10 q41 RS BW:=
 mkF Fd zfQ (λhr=>(Ze (Zn (FU (x:="column") (N:=["matrix","whole","row","grid"]) (caps:=[0,1,2,3]) (ar:=Zm Qm) rfl rfl csc rfl (by decide) rfl Z1 (Za (ZR (ZY YW) rfl ZV Boot.«len» (Za (dv 0) Zd)) Zd) (λ_ _ _ _ _ _=>Yr) (λ_ _ _ _ _ _=>(Zk Jf hr (Za (dv 1) (Za (dv 2) (Za (dv 3) (Za (dv 0) (Za (dv 4) Zd))))))))))) λS Q ex=>by
  refine kR λm=>kI λw=>kI λr=>kI λg=>kN λh=>?_
  obtain⟨ds,i,n,hn,rfl,hi,hm,lm,rows,hw,hg,h⟩:=h;refine E6 (j:=n+1) (S1:=S) (λd=>∃x,d=.int x/\Sz 3200 x) (λK hK=>?_) (by lia) (λk S2 K hk p2 hK=>?_) λxs lx hx=>?_
  ·refine Xg hm ?_;rw[lm];exact hK
  ·exact⟨ds,i,k,n,hn,rfl,rfl,hi,by lia,p2 _ _ hm,lm,rows.pre p2,hw,hg,λx hx=>hK _ ⟨x,rfl,hx⟩⟩
  ·obtain⟨r,rfl,zr⟩:=all_map hx;exact h _ ⟨r,rfl,by rw[<- lx,zB],zr⟩
def zcC  (Fb:Dfz q87 PJ QY)(HW:Fkz 10 q41 RS BW)(Wo:Fkz 9 q14 Y8 QB)(Z1:e.mg XY=none)(ZV:e.mg "len"=none):Fkz 11 q87 QY Bh:=
 mkF Fb Ad (λhr=>(Zf (XA (i:=2) Ad.nd rfl (Or.inr rfl) (Zk Wo hr (Za (dv 0) Zd))) (Zf (ZD (Zy (ZO hr) (dv 2) Zb (Zw _)) (Ze (Zn ZX)) ZH) (Ze (Zn (FU (x:="row") (N:=["matrix","whole","grid"]) (caps:=[0,2,1]) (ar:=Zm PJ) rfl rfl csc rfl (by decide) rfl Z1 (Za (ZR (ZY YW) rfl ZV Boot.«len» (Za (dv 0) Zd)) Zd) (λ_ _ _ _ _ _=>Yr) (λ_ _ _ _ _ _=>(Zk HW hr (Za (dv 1) (Za (dv 2) (Za (dv 0) (Za (dv 3) Zd)))))))))))) λS Q ex=>by
  refine kR λm=>kI λg=>kN λh=>?_
  obtain⟨ds,n,⟨n1,n4⟩,hm,lm,rows,hg,h0,h1⟩:=h;obtain⟨n,rfl⟩:∃k,n=k+1:=⟨n-1,by lia⟩;refine⟨ds,n+1,by lia,hm,lm,rows,λx hx=>?_⟩;refine ifD (c:=x=0) (λc=>h0) (λc=>?_);refine zdC (j:=n+1) (T0:=S) (RI 3200 (n+1)) (λK hK=>?_) (by lia) (λk S2 K hk p2 hK=>?_) (λS2 ys p2 e2 l2 r2=>h1 S2 _ ys p2 e2 l2 r2)
  ·refine Xg hm ?_;rw[lm];exact hK
  ·exact⟨ds,k,n,by lia,rfl,by lia,p2 _ _ hm,lm,rows.pre p2,⟨c,hx.mono (by lia)⟩,hg,λxs hx=>hK _ _ _ Pre.refl.push (zC _) (Zz _ _) hx⟩
def zdK  (J9:Dfz q92 N3 Sf):Fkz 1 q92 Sf IS:=
 mkF J9 zdI (λhr=>(Ze (Zn (Zl YV (Zl Z5 (Zg (dv 0) Zb) (Zg (dv 0) Zb)) Zb)))) λS Q ex=>by
  refine kP λ_ _=>kN λh=>?_
  exact h
def zac  (Ij:Dfz Wl Qi S7)(TH:Fkz 1 q92 Sf IS):Fkz 2 Wl S7 IJ:=
 mkF Ij zev (λhr=>(Ze (Zn (XQ (x:="span") (N:=[]) (caps:=[]) (ar:=Zm Qi) rfl rfl csc rfl (by decide) (dv 0) (λ_ _ _ _ _ _=>Yr) (λ_ _ _ _ _ _=>(Zk TH hr (Za (dv 0) Zd))))))) λS Q ex=>by
  refine kR λs=>kN λh=>?_
  obtain⟨vs,hs,l9,h⟩:=h;refine WH (n:=s) (S1:=S) (o:=.lst (vs.map frD)) (λd=>match d with|.tup [.int a,.int b]=>.int ((a+b)/2)|_=>.non) kId hs (by show (vs.map frD).length<=1000;rw[zB];lia) (λx hx S2 K pr hK=>?_) ?_
  ·have hx':x∈vs.map frD:=hx;obtain⟨p,_,rfl⟩:=zO.mp hx';exact hK
  ·have e2:(Zv (.lst (vs.map frD))).map (λd=>match d with|.tup [.int a,.int b]=>.int ((a+b)/2)|_=>.non)=vs.map λp=>D.int (mid p):=by
    show (vs.map frD).map _=_;rw[zX];rfl
   rw[e2];exact h
def zhl  (Ed:Dfz q29 PN UZ)(Tf:Fkz 2 Wl S7 IJ):Fkz 3 q29 UZ MX:=
 mkF Ed zgP (λhr=>(Ze (Zn (XQ (x:="place") (N:=[]) (caps:=[]) (ar:=Zm PN) rfl rfl csc rfl (by decide) (Zk Tf hr (Za (dv 0) Zd)) (λ_ _ _ _ _ _=>Yr) (λ_ _ _ _ _ _=>(ZG (Za (dv 0) (Za (dv 0) Zd)))))))) λS Q ex=>by
  refine kR λb=>kN λh=>?_
  obtain⟨vs,hb,l9,h⟩:=h;refine WH (n:=S.length) (S1:=S++[.lst (vs.map λp=>.int (mid p))]) (o:=.lst (vs.map λp=>.int (mid p))) (λd=>.tup [d,d]) (λK hK=>⟨vs,hb,l9,hK⟩) (Zz _ _) (by show (vs.map _).length<=1000;rw[zB];lia) (λx hx S2 K pr hK=>by exact hK) ?_;refine h _ _ Pre.refl.push.push (by simp) ?_;have e:(Zv (.lst (vs.map λp=>D.int (mid p)))).map (λd=>D.tup [d,d])=(vs.map Wc).map frD:=by
   show (vs.map λp=>D.int (mid p)).map _=_;rw[zX];rw[zX];rfl
  rw[e];exact Zz _ _
def zbl  (Eh:Dfz q32 Nr Ti)(Y0:Fkz 1 q25 Vu UR)(XU:Fkz 2 q38 Uk Q3)(YB:e.mg "zip"=none):Fkz 3 q32 Ti IY:=
 mkF Eh NJ (λhr=>(Zf (Zt (i:=3) NJ.nd (ZG (Za Zb (Za Zb Zd)))) (Zf (zbK (is:=[4,5]) PassesOwn.never rfl NJ.nd (Nms.cons (i:=4) rfl (Or.inl rfl) (by first|exact .inl rfl|exact .inr rfl) (Nms.cons (i:=5) rfl (Or.inl rfl) (by first|exact .inl rfl|exact .inr rfl) Nms.nil)) rfl rfl YB Boot.«zip» (Za (dv 0) (Za (dv 1) Zd)) (Ze (Zt (i:=3) NJ.nd (Zk Y0 hr (Za (dv 3) (Za (Zk XU hr (Za (dv 4) (Za (dv 5) (Za (dv 2) Zd)))) Zd)))))) (Ze (Zn (dv 3)))))) λS Q ex=>by
  refine kR λa=>kR λb=>kI λg=>kN λh=>?_
  obtain⟨us,vs,ha,hb,l6,z1,z2,hg,h⟩:=h;have sg:Sz 21 g:=Sz.of 1000000 (by lia);refine zdT (n:=a) (n':=b) (xs:=us.map frD) (ys:=vs.map frD) (S:=S) (λk dl'=>∃u1 u2:Option D,dl'=[some (.ref a),some (.ref b),some (.int g),some (frD (X8 g (us.take k) (vs.take k))),u1,u2]) kId ha hb ⟨_,_,rfl⟩ ?_ ?_
  ·rintro k x y dl' nx ct hx hy ⟨u1,u2,rfl⟩ hn;rw[zE] at hx hy;obtain⟨p,hp,rfl⟩:=zG.mp hx;obtain⟨r,hr,rfl⟩:=zG.mp hy;have zp:=z1 _ (zF hp)
   have zr:=z2 _ (zF hr);refine⟨⟨⟨ZN zp.1 zr.1,ZN zp.1 zr.2,ZN zp.2 zr.1,ZN zp.2 zr.2⟩,sg.fd (by lia)⟩,λmn mx hc=>?_⟩;obtain⟨rfl,rfl⟩:=hc.eq;refine hn _ ⟨some (frD p),some (frD r),?_⟩;rw[BU g us vs k hp hr];rfl
  ·rintro dl' ⟨u1,u2,rfl⟩;rw[zB,zB,DY];exact h
def zbW  (JU:Dfz W0 OG PQ)(YC:Fkz 1 q22 Wt V5)(Up:Fkz 3 q32 Ti IY):Fkz 4 W0 PQ Ci:=
 mkG JU El (λhr=>(Zf (Zt (i:=5) El.nd (XH (Zy (ZO hr) (dv 0) (dv 1) (Zw _)) (ZG (Za (dv 4) (Za (dv 4) Zd))) (ZG (Za Zb (Za Zb Zd))))) (Zf (C6 (x:="slant") (N:=["column"]) (caps:=[1]) (ar:=Zm OG) rfl rfl csc rfl (by decide) (i:=6) El.nd rfl rfl (dv 3) (λ_ _ _ _ _ _=>Yr) (λ_ _ _ _ _ _=>(ZI (dv 0) (dv 1)))) (Ze (Zn (Zk YC hr (Za (dv 5) (Za (Zk Up hr (Za (dv 2) (Za (dv 6) (Za (dv 4) Zd)))) Zd)))))))) λS Q0 ex0=>by
  refine kI λk=>kI λc=>kR λt=>kR λs=>kI λg=>kN λh=>?_
  obtain⟨q,cn,ts,ds,rfl,ht,hs,rows,hc,l6,r6,z1,hg,h⟩:=h;have sg:Sz 21 g:=Sz.of 1000000 (by lia)
  have s0:Sz 21 0:=yG (by decide);refine ifD (λe=>?_) (λe=>?_)
  all_goals
   refine BS (n:=s) (S1:=S) (o:=.lst ds) (λd=>∃p,d=frD p/\Sz 1023 p.1/\Sz 1023 p.2) kId hs (by show ds.length<=1000;lia) (λx hx S2 K pr hK=>?_) (λxs lx hx=>?_)
   ·obtain⟨a,_,rfl,_,ha,r,rfl,lr,br⟩:=rows x hx;have ic:inR ((r.length:Nat):Int) (cn:Int):=⟨by lia,by lia⟩;exact ZE (o:=.lst _) (pr _ _ ha) (ZP ic) (hK _ ⟨_,rfl,br.at ic⟩)
   ·obtain⟨vs,rfl,bv⟩:=all_map hx;have z:=zby hg.1 z1 bv l6;refine⟨ts,vs,ZF ht,Zz _ _,l6,z1.up (by decide),Bd.up bv (by decide),hg,?_⟩;exact⟨Pre.refl.push,VL,h _ _ ((Sz.sub (by first|exact sg|exact s0) z.2).mono (by decide)) ((Sz.sub (by first|exact sg|exact s0) z.1).mono (by decide))⟩
def zau  (HF:Dfz W5 Uv Qo)(Y0:Fkz 1 q25 Vu UR)(Up:Fkz 3 q32 Ti IY)(YC:Fkz 1 q22 Wt V5)(Hh:Fkz 4 W0 PQ Ci)(Vw:Fkz 3 q29 UZ MX)(YB:e.mg "zip"=none)(Z1:e.mg XY=none)(ZV:e.mg "len"=none):Fkz 5 W5 Qo CB:=
 mkG HF Sy (λhr=>(Zf (XA (i:=6) Sy.nd rfl (Or.inr rfl) (XQ (x:="entry") (N:=[]) (caps:=[]) (ar:=Zm Uv) rfl rfl csc rfl (by decide) (dv 3) (λ_ _ _ _ _ _=>Yr) (λ_ _ _ _ _ _=>(ZG (Za (dv 0) (Za (dv 0) Zd)))))) (Zf (Zt (i:=7) Sy.nd (Zk Vw hr (Za (dv 1) Zd))) (Zf (Zt (i:=8) Sy.nd (Zk YC hr (Za (ZI (dv 7) (dv 0)) (Za (Zk Up hr (Za (dv 6) (Za (dv 4) (Za (dv 2) Zd)))) Zd)))) (Zf (Gh (x:="column") (N:=["k","turns","slants","grid"]) (caps:=[0,6,5,2]) (ar:=Zm Uv) rfl rfl csc rfl (by decide) (i:=9) Sy.nd rfl rfl rfl Z1 (Za (ZR (ZY YW) rfl ZV Boot.«len» (Za (dv 1) Zd)) Zd) (λ_ _ _ _ _ _=>Yr) (λ_ _ _ _ _ _=>(Zk Hh hr (Za (dv 1) (Za (dv 0) (Za (dv 2) (Za (dv 3) (Za (dv 4) Zd)))))))) (Zf (zhI (x1:="span") (x2:="centre") (N:=[]) (caps:=[]) (ar:=Zm Uv) rfl rfl XM rfl rfl rfl (by decide) (i:=10) Sy.nd rfl rfl rfl YB Boot.«zip» (Za (dv 1) (Za (dv 7) Zd)) (λ_ _ _ _ _ _=>(Zk YC hr (Za (dv 0) (Za (dv 1) Zd))))) (Ze (Zn (Zk Y0 hr (Za (dv 8) (Za (Zk Up hr (Za (dv 9) (Za (dv 10) (Za (dv 2) Zd)))) Zd))))))))))) λS Q0 ex0=>by
  refine kI λki=>kR λb=>kI λg=>kR λe=>kR λt=>kR λs=>kN λh=>?_
  obtain⟨k,box,aA,es,ds,rfl,hk,he,e4,ze,hb,ht,hs,rows,bl,r4,zb,zt,hg,h⟩:=h;refine BS (n:=e) (S1:=S) (o:=.lst (es.map D.int)) (λd=>∃p,d=frD p/\Sz 3200 p.1/\Sz 3200 p.2) kId he (by show (es.map D.int).length<=1000;rw[zB];lia) (λx hx S2 K pr hK=>?_) (λxs lx hx=>?_)
  ·obtain⟨i,hi,rfl⟩:=zO.mp (show x∈es.map D.int from hx);exact hK _ ⟨(i,i),rfl,ze i hi,ze i hi⟩
  obtain⟨ts,rfl,bt⟩:=all_map hx;have lt:(ts.map frD).length=(es.map D.int).length:=lx;rw[zB,zB] at lt;refine⟨box,ZF hb,by lia,λT m pr lm hm=>?_⟩;have P0:Pre S T:=λx o z=>pr _ _ (ZF z)
  have hT:=pr _ _ (Zz S (.lst (ts.map frD)));refine ZE (o:=.lst ((box.map Wc).map frD)) hm (ZP (i:=(k:Int)) ⟨by lia,by rw[zB];lia⟩) ?_;refine⟨ts,aA,hT,P0 _ _ ht,by lia,Bd.up bt (by decide),zt.up (by decide),hg,?_⟩;refine E6 (j:=box.length) (S1:=T) (λd=>∃p,d=frD p/\Sz 20000 p.1/\Sz 20000 p.2) (λK hK=>by
   refine Xg (P0 _ _ hb) ?_;rw[zB];exact hK) (by lia) (λc S2 K hc p2 hK=>?_) (λls ll hl=>?_)
  ·exact⟨box.length,c,ts,ds,rfl,p2 _ _ hT,p2 _ _ (P0 _ _ hs),(rows.pre P0).pre p2,hc,by lia,by lia,bt,hg,λa b ha hb=>hK _ ⟨(a,b),rfl,ha,hb⟩⟩
  obtain⟨lv,rfl,bv⟩:=all_map hl;rw[zB] at ll;refine Tg (n:=b) (n':=m) (S1:=T++[.lst (lv.map frD)]) (xs:=box.map frD) (ys:=(box.map Wc).map frD) (λx y=>match x,y with|.tup [.int a,.int b],.tup [.int c,.int d]=>.tup [.int (a-d),.int (b-c)]|_,_=>.non) kId (ZF (P0 _ _ hb)) (ZF hm) (by rw[zB];lia) (λj x y hx hy S2 K p2 hK=>?_) ?_
  ·rw[zE] at hx hy;obtain⟨p,hp,rfl⟩:=zG.mp hx;obtain⟨r,hr,rfl⟩:=zG.mp hy;exact hK
  have eW:List.zipWith (λx y=>match x,y with|.tup [.int a,.int b],.tup [.int c,.int d]=>.tup [.int (a-d),.int (b-c)]|_,_=>.non) (box.map frD) ((box.map Wc).map frD)=(box.map λp=>JO p (Wc p)).map frD:=by
   rw[zX,List.zipWith_map,zX,List.zipWith_self];rfl
  rw[eW];refine⟨lv,_,ZF (Zz _ _),Zz _ _,by lia,bv,λp hp=>?_,hg,λx o z=>ZF (ZF (P0 _ _ z)),VL,h _ _⟩;obtain⟨x,hx,rfl⟩:=zO.mp hp;have z:=zb x hx
  have zmid:=BY z.1 z.2;exact(zfo (B:=60) (C:=61) z ⟨zmid,zmid⟩).imp (λz=>z.mono (by decide)) (λz=>z.mono (by decide))
def zbJ  (Ig:Dfz Vm RQ Rx)(Gd:Fkz 5 W5 Qo CB)(Z6:e.mg q70=none):Fkz 6 Vm Rx DJ:=
 mkF Ig AU (λhr=>(Ze (Zn (Tp (x1:="k") (x2:="entries") (N:=["box","grid","thin","slants"]) (caps:=[0,1,3,4]) (ar:=Zm RQ) rfl rfl XM rfl rfl rfl (by decide) rfl Z6 Boot.«enumerate» (Za (dv 2) Zd) (λ_ _ _ _ _ _=>Yr) (λ_ _ _ _ _ _=>(Zk Gd hr (Za (dv 0) (Za (dv 2) (Za (dv 3) (Za (dv 1) (Za (dv 4) (Za (dv 5) Zd)))))))))))) λS Q ex=>by
  refine kR λb=>kI λg=>kR λu=>kR λt=>kR λs=>kN λh=>?_
  obtain⟨box,aA,ms,ds,hu,lm,mi,hb,ht,hs,rows,bl,r4,zb,zt,hg,h⟩:=h;refine RB (n:=u) (S1:=S) (xs:=ms) (λd=>∃p,d=frD p/\True) kId hu (by lia) (λk x hx S2 K pr hK=>?_) λys ly hy=>?_
  ·have hk:=(zA.mp hx).1;obtain⟨a,_,rfl,_,ha,r,rfl,lr,zr⟩:=mi x (zF hx);exact⟨k,box,aA,r,ds,rfl,by lia,pr _ _ ha,by lia,zr,pr _ _ hb,pr _ _ ht,pr _ _ hs,rows.pre pr,bl,r4,zb,zt,hg,λa b=>hK _ ⟨(a,b),rfl,trivial⟩⟩
  ·obtain⟨vs,rfl,_⟩:=all_map hy;exact h vs (by rw[zB] at ly;lia)
def zeJ  (HG:Dfz q72 LM QF)(TZ:Fkz 1 Ws So GS)(Yw:Fkz 4 q33 X1 VH)(Vw:Fkz 3 q29 UZ MX):Fkz 5 q72 QF Ck:=
 mkF HG zhM (λhr=>(Ze (Zn (Zk TZ hr (Za (Zk Yw hr (Za (dv 0) (Za (Zk Vw hr (Za (dv 2) Zd)) (Za (dv 3) Zd)))) (Za (dv 1) Zd)))))) λS Q ex=>by
  refine kR λa=>kR λp=>kR λb=>kI λg=>kN λh=>?_
  obtain⟨ns,ws,bs,is,ha,hb,net,sb,hg,l7,b9,hp,i9,hi,h⟩:=h;refine⟨bs,hb,b9,λT m pr lm hm=>?_⟩;refine⟨ns,ws,bs.map Wc,pr _ _ ha,hm,by rw[zB];exact net,Ek sb,hg,l7,λT1 m1 pr1 lm1 h1=>?_⟩;refine⟨_,is,h1,pr1 _ _ (pr _ _ hp),i9,λi him=>by rw[zB,Xk];exact hi i him,?_⟩;have s1:Spn 1000 (ZC (bs.map Wc) g (ns.take ns.length)):=NG (by rw[zB];exact net) rfl (Ek sb) hg ns.length (zC _);rw[yF] at s1;obtain⟨vs,ev,bv⟩:=all_map (c:=frD) (P:=λp=>Sz 2000 p.1/\Sz 2000 p.2) (xs:=is.map λi=>((ZC (bs.map Wc) g ns).map frD).getD i .non) λd hd=>by
   obtain⟨i,him,rfl⟩:=zO.mp hd;have hl:i<(ZC (bs.map Wc) g ns).length:=by rw[Xk];exact hi i him
   have z:=s1 _ (yM hl);exact⟨_,by simp[hl],z.2.1.mono (by decide),z.2.2.mono (by decide)⟩
  rw[ev];refine h _ _ vs (λx o z=>ZF (pr1 _ _ (pr _ _ z))) ?_ (Zz _ _) bv;have:=Xv pr
  have:=Xv pr1;lia
def zfv  (FO:Dfz "deep" NY Ox):Fkz 1 "deep" Ox BN:=
 mkF FO zcp (λhr=>(Ze (Zn (Kv (Xx YK (Zg (dv 1) Zb) (Zg (dv 0) Zb) (Zw _)) (RH (Xx YK (Zg (dv 0) Zb) (Zg (dv 1) Zb) (Zw _))))))) λS Q ex=>by
  refine kP λ_ _=>kP λ_ _=>kN λh=>?_
  refine ifD (λe=>?_) (λe=>?_)
  ·rw[decide_eq_true e,Bool.true_and] at h;exact h
  ·rw[decide_eq_false e,Bool.false_and] at h;exact h
def zeK  (KQ:Dfz WT R0 RK)(Hq:Fkz 1 "deep" Ox BN)(XC:e.mg "all"=none)(YB:e.mg "zip"=none):Fkz 2 WT RK Ca:=
 mkG KQ zfk (λhr=>(Ze (Zn (ZR (ZY (LW rfl)) rfl XC Boot.«all» (Za (OD (x1:="new") (x2:="old") (N:=[]) (caps:=[]) (ar:=Zm R0) rfl rfl XM rfl rfl rfl (by decide) rfl YB Boot.«zip» (Za (dv 0) (Za (dv 1) Zd)) (λ_ _ _ _ _ _=>(Zk Hq hr (Za (dv 0) (Za (dv 1) Zd))))) Zd))))) λS Q0 ex0=>by
  refine kR λm=>kR λn=>kN λh=>?_
  obtain⟨us,vs,h1,h2,hl,h⟩:=h;refine Tg (n:=m) (n':=n) (S1:=S) (xs:=us.map frD) (ys:=vs.map frD) (λx y=>match x,y with|.tup [.int a,.int b],.tup [.int c,.int d]=>.bl (decide (c<a)&&decide (b<d))|_,_=>.non) kId h1 h2 (by rw[zB];exact hl) (λk x y hx hy S2 K pr hK=>?_) ?_
  ·obtain⟨p,_,rfl⟩:=zO.mp (zF hx);obtain⟨q,_,rfl⟩:=zO.mp (zF hy);exact hK
  ·refine Rw (n:=S.length) (o:=.lst _) (bs:=List.zipWith Bc us vs) (Zz _ _) (AY us vs) ?_;exact⟨Pre.refl.push,.bl _,h _⟩
def zbF  (HQ:Dfz q40 QI OI)(SK:Fkz 1 "sure" TB IX)(XC:e.mg "all"=none):Fkz 2 q40 OI Ex:=
 mkG HQ zaa (λhr=>(Ze (Zn (ZR (ZY (LW rfl)) rfl XC Boot.«all» (Za (XQ (x:="row") (N:=["spans"]) (caps:=[1]) (ar:=Zm QI) rfl rfl csc rfl (by decide) (dv 0) (λ_ _ _ _ _ _=>Nb (Zy (ZO hr) (Zg (dv 0) Zb) ZW (Zw _))) (λ_ _ _ _ _ _=>(Zk SK hr (Za (Zg (dv 0) Zb) (Za (ZI (dv 1) (Zg (dv 0) Zb)) Zd))))) Zd))))) λS Q0 ex0=>by
  refine kR λr=>kR λs=>kN λh=>?_
  obtain⟨rows,vs,hr,hs,l9,hi,h⟩:=h;refine GC (n:=r) (S1:=S) (o:=.lst (rows.map rwD)) (λd=>match d with|.tup [.str w,.int at']=>if w="least" then some (.bl (decide (0<=(gt vs at').1))) else none|_=>none) kId hr (by show (rows.map rwD).length<=1000;rw[zB];lia) (λx hx S2 K pr hK=>?_) (λx hx y hy S2 K pr hK=>?_) ?_
  ·have hx':x∈rows.map rwD:=hx;obtain⟨⟨b,n⟩,_,rfl⟩:=zO.mp hx';cases b
   ·exact hK
   ·exact hK
  ·have hx':x∈rows.map rwD:=hx;obtain⟨⟨b,n⟩,hm,rfl⟩:=zO.mp hx';cases b
   ·cases hy;refine ZE (o:=.lst (vs.map frD)) (pr _ _ hs) (ZP (vs:=vs) (i:=(n:Int)) ⟨by lia,by have:=hi _ hm;dsimp only at this;lia⟩) ?_;exact .inr ⟨rfl,hK⟩
   ·exact absurd hy (by
     simp[rwD];intro z;exact absurd z (by decide))
  ·refine Rw (n:=S.length) (o:=.lst _) (Zz _ _) (IZ vs rows) ?_;exact⟨Pre.refl.push,.bl _,h _⟩
def zeL  (ID:Dfz Vg QQ QO)(GD:Fkz 2 WT RK Ca)(FG:Fkz 6 Vm Rx DJ)(JH:Fkz 5 q72 QF Ck)(F2:Fkz 11 q87 QY Bh)(Tf:Fkz 2 Wl S7 IJ)(Eb:Fkz 6 q95 QM D7)(Ej:Fkz 2 q40 OI Ex)(Yw:Fkz 4 q33 X1 VH)(KI:Fkz 1 q39 R5 Ae)(ZV:e.mg "len"=none):Fkz 12 Vg QO Dn:=
 mkF ID QS (λhr=>(Zf (Zt (i:=4) QS.nd (Zk KI hr (Za (dv 1) Zd))) (Zf (ZD (PDW.pt (UC (Zy (do_ne hr) (ZR (ZY YW) rfl ZV Boot.«len» (Za (dv 4) Zd)) (ZR (ZY YW) rfl ZV Boot.«len» (Za (dv 2) Zd)) (Zw _)) (OW (Mf (Wm (Zk Ej hr (Za (dv 1) (Za (Zk Yw hr (Za (dv 0) (Za (dv 2) (Za (dv 3) Zd)))) Zd)))))))) (Ze (Zn ZX)) ZH) (Zf (Zt (i:=5) QS.nd (Zk Eb hr (Za (dv 0) (Za (dv 4) (Za (dv 2) (Za (dv 3) Zd)))))) (Zf (Zt (i:=6) QS.nd (Zk F2 hr (Za (XQ (x:="slant") (N:=[]) (caps:=[]) (ar:=Zm QQ) rfl rfl csc rfl (by decide) (dv 5) (λ_ _ _ _ _ _=>Yr) (λ_ _ _ _ _ _=>(Zk Tf hr (Za (dv 0) Zd)))) (Za (dv 3) Zd)))) (Zf (ZD (Zy YH (dv 6) ZX (Zw _)) (Ze (Zn ZX)) ZH) (Zf (Zt (i:=7) QS.nd (Zk FG hr (Za (dv 2) (Za (dv 3) (Za (dv 6) (Za (Zk JH hr (Za (dv 0) (Za (dv 4) (Za (dv 2) (Za (dv 3) Zd))))) (Za (dv 5) Zd))))))) (Zf (ZD (Mf (Wm (Zk GD hr (Za (dv 7) (Za (dv 2) Zd))))) (Ze (Zn ZX)) ZH) (Ze (Zn (ZG (Za (dv 6) (Za (dv 7) Zd))))))))))))) λS Q ex=>by
  refine kR λa=>kR λr=>kR λb=>kI λg=>kN λh=>?_
  obtain⟨ns,ws,bs,rows,ha,hb,net,sb,hg,l7,b9,hr,r9,hi,bl,hN,hY⟩:=h;have hi':∀i∈eqs rows,i<ns.length:=λi him=>hi _ (zdW him)
  refine⟨rows,hr,r9,?_⟩;have P0:Pre S (S++[Ob.lst ((eqs rows).map wtD)]):=Pre.refl.push
  have hp:=Zz S (.lst ((eqs rows).map wtD));refine Xg hp ?_;refine Xg (P0 _ _ hb) ?_;rw[zB,zB];refine ifN (λc=>Y4 (hN _ P0)) (λc=>?_);have lq:(eqs rows).length=bs.length:=by lia
  refine⟨ns,ws,bs,P0 _ _ ha,P0 _ _ hb,net,sb,hg,l7,λT1 m1 p1 lm1 h1=>?_⟩;have P1:Pre S T1:=λx o z=>p1 _ _ (P0 _ _ z)
  refine⟨rows,ZC bs g ns,P1 _ _ hr,h1,r9,λr hr=>by rw[Xk];exact hi r hr,λb=>?_⟩;cases b
  ·exact Y4 (hN _ P1)
  refine YY ?_;refine⟨ns,ws,bs,eqs rows,P1 _ _ ha,P1 _ _ hb,net,sb,hg,l7,b9,p1 _ _ hp,by lia,hi',λT2 m2 ds p2 h2 ld rowsT=>?_⟩;have P2:Pre S T2:=λx o z=>p2 _ _ (P1 _ _ z)
  have hp2:=p2 _ _ (p1 _ _ hp);refine DS (n:=m2) (T0:=T2) (RF 1023 bs.length) (RI 1024 bs.length) kId h2 rowsT (by lia) (λa xs S2 K hx ha hK=>?_) (λS2 ys y1 y2 y3 y4=>?_)
  ·obtain⟨r,rfl,lr,br⟩:=hx;refine⟨r,ha,by lia,hK _ _ _ Pre.refl.push (zC _) (Zz _ _) ⟨r.map mid,by rw[zX];rfl,by rw[zB];exact lr,λx hx=>?_⟩⟩;obtain⟨p,hp,rfl⟩:=zO.mp hx;exact BY (br p hp).1 (br p hp).2
  have P3:Pre S S2:=λx o z=>y1 _ _ (P2 _ _ z)
  refine⟨ys,bs.length,bl,y2,by lia,y4,hg,hN _ P3,λT4 k4 es p4 e4 l4 r4=>?_⟩;have P4:Pre S T4:=λx o z=>p4 _ _ (P3 _ _ z)
  refine⟨ns,ws,bs,eqs rows,P4 _ _ ha,P4 _ _ hb,net,sb,hg,l7,b9,p4 _ _ (y1 _ _ hp2),by lia,hi',λT5 m5 vs p5 lm5 h5 bv=>?_⟩;have P5:Pre S T5:=λx o z=>p5 _ _ (P4 _ _ z)
  refine⟨bs,vs,es,ds,p5 _ _ e4,l4,r4.pre p5,P5 _ _ hb,h5,p5 _ _ (p4 _ _ (y1 _ _ h2)),((rowsT.pre y1).pre p4).pre p5,bl,by lia,λp hp=>⟨(sb p hp).2.1.mono (by decide),(sb p hp).2.2.mono (by decide)⟩,bv,hg,λus lu=>?_⟩;refine⟨us,bs,Zz _ _,ZF (P5 _ _ hb),by lia,λb=>?_⟩;cases b
  ·exact Y4 (hN _ (Wg P5 _))
  ·exact YY (hY _ _ _ (Wg P5 _))
def zal  (GA:Dfz q73 Ms Ry)(SA:Fkz 5 Wv Si JY)(Yw:Fkz 4 q33 X1 VH)(Vw:Fkz 3 q29 UZ MX)(Fi:Fkz 12 Vg QO Dn):Fkz 13 q73 Ry D9:=
 mkF GA Eg (λhr=>(Zf (Zt (i:=5) Eg.nd (Zk Fi hr (Za (dv 0) (Za (dv 1) (Za (dv 2) (Za (dv 3) Zd)))))) (Zf (ZD (Zy YH (dv 5) ZX (Zw _)) (Ze (Zn ZX)) ZH) (Zf (Zt (i:=6) Eg.nd (Zk Yw hr (Za (dv 0) (Za (Zk Vw hr (Za (dv 2) Zd)) (Za (dv 3) Zd))))) (Ze (Zn (ZG (Za ZW (Za (Zg (dv 5) Zb) (Za (Zg (dv 5) Zb) (Za (dv 4) (Za (dv 6) (Za (Zk SA hr (Za (dv 0) (Za (dv 2) (Za (dv 3) Zd)))) Zd))))))))))))) λS Q ex=>by
  refine kR λnd=>kR λrw=>kR λbx=>kI λg=>kR λsp=>kN λh=>?_
  obtain⟨u,ns,ws,rows,e,R,hb,lu,se,hn,hy⟩:=h;have net':ZT ((e.length:Nat):Int) ns ws:=by rw[lu];exact R.net
  have u4:=R.u1
  have r4:=R.rl;refine⟨ns,ws,e,rows,R.nd,hb,net',se,R.hg,R.l70,by lia,R.rw,by lia,R.ri,by lia,hn,λT _ _ p=>?_⟩
  ·refine⟨e,p _ _ hb,by lia,λT2 m2 p2 l2 h2'=>?_⟩;have P2:Pre S T2:=λx o z=>p2 _ _ (p _ _ z)
   refine⟨ns,ws,e.map Wc,P2 _ _ R.nd,h2',by rw[zB];exact net',Ek se,R.hg,R.l70,λT3 m3 p3 l3 h3'=>?_⟩;have P3:Pre S T3:=λx o z=>p3 _ _ (P2 _ _ z)
   refine⟨ns,ws,e,P3 _ _ R.nd,P3 _ _ hb,net',se,by lia,R.hg,R.l70,λT4 m4 ds p4 l4 h4' _=>?_⟩;exact hy _ _ _ _ _ _ λx o z=>p4 _ _ (P3 _ _ z)
def zd1  (Et:Dfz Vn ML PY)(VT:Fkz 3 Wa UJ O9)(Ht:Fkz 13 q73 Ry D9)(KY:Fkz 6 q60 QA Cj)(Yw:Fkz 4 q33 X1 VH):Fkz 14 Vn PY BF:=
 mkF Et MB (λhr=>(Zf (Zt (i:=5) MB.nd (Zk Yw hr (Za (dv 0) (Za (dv 2) (Za (dv 3) Zd))))) (Zf (Zt (i:=6) MB.nd (Zk KY hr (Za (dv 0) (Za (dv 1) (Za (dv 2) (Za (dv 3) (Za (dv 5) Zd))))))) (Zf (ZD (Zy YH (dv 6) ZX (Zw _)) (Ze (Zt (i:=6) MB.nd (Zk Ht hr (Za (dv 0) (Za (dv 1) (Za (dv 2) (Za (dv 3) (Za (dv 5) Zd)))))))) ZH) (Zf (ZD (PDW.pt (VY (Zy YH (dv 6) ZX (Zw _)) (VX (Zy RM (Zk VT hr (Za (dv 2) Zd)) (dv 4) (Zw _))))) (Ze (Zn (ZG (Za ZW Zd)))) ZH) (Ze (Zn (dv 6)))))))) λS Q ex=>by
  refine kR λnd=>kR λrw=>kR λbx=>kI λg=>kI λfine=>kN λh=>?_
  obtain⟨u,ns,ws,rows,e,R,hb,lu,se,hf,hn⟩:=h;have net':ZT ((e.length:Nat):Int) ns ws:=by rw[lu];exact R.net
  have u4:=R.u1;refine⟨ns,ws,e,R.nd,hb,net',se,R.hg,R.l70,λT m p l hm=>?_⟩;have R1:=R.pre p;refine⟨u,ns,ws,rows,e,R1,p _ _ hb,lu,se,hm,λT2 k m2 row p2 l2 hr ib h2=>?_,λnb su T2 p2=>?_,λnb su T2 p2=>?_⟩
  ·have:=Xv p;exact hf T2 (.out k _) _ (λx o z=>p2 _ _ (p _ _ z)) ⟨row,hr,rfl,ib⟩ λa b ha hb'=>⟨m2,rfl,by lia,by lia,h2⟩
  ·exact hf T2 (.full _) _ (λx o z=>p2 _ _ (p _ _ z)) ⟨rfl,nb,su⟩ λa b ha hb'=>⟨m,rfl,by lia,by lia,p2 _ _ hm⟩
  ·have P2:Pre S T2:=λx o z=>p2 _ _ (p _ _ z)
   refine⟨u,ns,ws,rows,e,R.pre P2,P2 _ _ hb,lu,se,λT3 p3=>?_,λT3 d1 d2 d3 d4 d5 p3=>?_⟩
   ·have P3:Pre S T3:=λx o z=>p3 _ _ (P2 _ _ z)
    refine⟨e,P3 _ _ hb,by lia,λw T4 p4 hw=>?_⟩;have P4:Pre S T4:=λx o z=>p4 _ _ (P3 _ _ z)
    refine ifD (λc=>?_) (λc=>?_)
    ·exact hf T4 .small _ P4 ⟨λq hq=>Int.le_trans (hw.1 q hq) c,nb,su⟩ λ_ _ _ _=>rfl
    ·rcases hw.2 with ⟨z,_⟩|⟨q,hq,z⟩
     ·rw[z] at lu;exact absurd lu (by show ¬ (0=u);lia)
     ·exact hn T4 P4 ⟨q,hq,by lia⟩
   ·exact hf T3 .one _ (λx o z=>p3 _ _ (P2 _ _ z)) trivial λ_ _ _ _=>⟨_,_,_,_,_,rfl⟩
def zho  (GK:Dfz q61 Nh OO)(Vc:Fkz 2 X5 UP Ld)(YG:e.mg "sum"=none):Fkz 3 q61 OO Ag:=
 mkF GK zcn (λhr=>(Ze (Zn (Xx RM (Zl ZS Zb (ZR (ZY (UH rfl)) rfl YG Boot.«sum» (Za (Zk Vc hr (Za (dv 0) Zd)) Zd))) (Zl ZS Zb (ZR (ZY (UH rfl)) rfl YG Boot.«sum» (Za (Zk Vc hr (Za (dv 1) Zd)) Zd))) (Zw _))))) λS Q ex=>by
  refine kR λx=>kR λy=>kN λh=>?_
  obtain⟨bs,cs,h1,h2,s1,s2,l1,l2,h⟩:=h;obtain⟨a1,a2,_⟩:=M6 s1;obtain⟨b1,b2,_⟩:=M6 s2;have z4:Sz 60 (4:Int):=Sz.of (10^3) (by lia)
  have z3:Sz 60 (3:Int):=Sz.of (10^3) (by lia)
  have z1:Sz 60 (VC bs):=by unfold Sz;lia
  have z2:Sz 60 (VC cs):=by unfold Sz;lia
  refine⟨bs,h1,by lia,?_⟩;refine Sj (n:=S.length) (Zz _ _) (Vy (bs.map wd)) ?_;refine⟨ZN z4 z1,?_⟩;refine⟨cs,ZF h2,by lia,?_⟩;refine Sj (Zz _ _) (Vy (cs.map wd)) ?_;refine⟨ZN z3 z2,?_⟩;exact h _ λi o z=>ZF (ZF z)
def za9  (Zs:Wu e.K e.mg)(Hr:Dfz q31 Nl R9)(WN:Fmz 2 Zs.C "part" SM (GX Zs.C))(TH:Fkz 1 q92 Sf IS)(Vc:Fkz 2 X5 UP Ld)(VT:Fkz 3 Wa UJ O9):Fkz 4 q31 R9 (Bz Zs.C):=
 mkF Hr HX (λhr=>(Zf (Zt (i:=2) HX.nd (ZI (ZM Zs.cl Zs.n_boxes (dv 0)) (dv 1))) (Zf (Zt (i:=3) HX.nd (Ez (k:=1) hr (by decide) (Zk Vc hr (Za (dv 2) Zd)) (Za (Zk VT hr (Za (dv 2) Zd)) Zd))) (Ze (Ye (Y7 (C:=Zs.C) (dv 0) Zs.cl WN.m WN.ok (hr.mono (by decide)) WN.b Yq (Za (dv 1) (Za (dv 3) (Za (Zk TH hr (Za (ZI (dv 2) (dv 3)) Zd)) Zd))))))))) λS Q ex=>by
  refine kR λn=>kI λi=>kN λh=>?_
  obtain⟨a,b,j,es,fs,e,B,rfl,he,l4,ne,l9,h⟩:=h;obtain⟨bs,m,h1,h2,o⟩:=B.box he;refine ZL (n:=n) kId B.ins rfl ?_;refine ZE (o:=.lst bs) h1 (YF (j:=j) h2) ?_;refine zhp (n:=S.length) (S1:=S++[.lst ((e.map wd).map D.int)]) (zs:=e.map wd) (λv S2=>Pre S S2/\S2[S.length]?=some (.lst ((e.map wd).map D.int))/\Wst e v) (λK hK=>⟨e,o.2.2,by lia,hK⟩) (λK hK=>⟨e,ZF o.2.2,by lia,λw T p hw=>hK _ _ ⟨λx o z=>p _ _ (ZF z),p _ _ (Zz _ _),hw⟩⟩) (Zz _ _) (λv S2 r=>⟨r.2.1,?_⟩) λv S2 k r hk=>?_
  ·rcases r.2.2.2 with ⟨z,_⟩|⟨p,hp,rfl⟩
   ·exact absurd z ne
   ·exact zO.mpr ⟨p,hp,rfl⟩
  obtain⟨p,_,hw⟩:=r;rw[zE] at hk;obtain⟨s,hs,rfl⟩:=zG.mp hk;have lk:=(zA.mp hs).1
  have B2:=B.pre p
  have hs2:atI (e.map frD) (k:Int)=some (frD s):=YF (j:=k) (by rw[zE,hs];rfl);refine YL (n:=n) kId B2.ins rfl ?_;refine ZE (o:=.lst (e.map frD)) (p _ _ o.2.2) hs2 ?_;exact⟨a,b,j,k,es,fs,e,s,B2,rfl,rfl,he,hs,l4,l9,λT B3 cg=>h T k s hs hw B3 ((Cg.pre p).trans cg)⟩
def zf5  (Zs:Wu e.K e.mg)(Fp:Dfz "look" LB Of)(Y1:Fmz 1 Zs.C Va UT (MI Zs.C))(G3:Fkz 3 q61 OO Ag)(Gg:Fkz 4 q31 R9 (Bz Zs.C))(J4:Fkz 14 Vn PY BF)(Ir:Fkz 11 Vd QL (By Zs.C)):Fkz 15 "look" Of (E8 Zs.C):=
 mkF Fp Pr (λhr=>(Zf (Zt (i:=6) Pr.nd (ZI (ZM Zs.cl Zs.n_boxes (dv 0)) (dv 5))) (Zf (Zt (i:=5) Pr.nd (Zk Ir hr (Za (dv 0) (Za (dv 1) (Za (dv 2) (Za (dv 3) (Za (dv 5) Zd))))))) (Zf (ZD (Zy Dr (ZI (ZM Zs.cl Zs.n_fates (dv 0)) (dv 5)) ZX (Zw _)) (Ze zeN) ZH) (Zf (Zt (i:=7) Pr.nd (ZI (ZM Zs.cl Zs.n_boxes (dv 0)) (dv 5))) (Zf (Zt (i:=8) Pr.nd (Zk J4 hr (Za (dv 1) (Za (dv 2) (Za (dv 7) (Za (dv 3) (Za (dv 4) Zd))))))) (Ze (ZD (Zy Dr (dv 8) ZX (Zw _)) (Ze (Ye (Y7 (C:=Zs.C) (dv 0) Zs.cl Y1.m Y1.ok (hr.mono (by decide)) Y1.b Yq (Za (dv 5) (Za (dv 8) Zd))))) (Ze (ZD (Mf (Wm (Zk G3 hr (Za (dv 7) (Za (dv 6) Zd))))) (Ze (Ye (Zk Gg hr (Za (dv 0) (Za (dv 5) Zd))))) ZH)))))))))) λS Q ex=>by
  refine kR λn=>kR λnd=>kR λrw=>kI λg=>kI λfine=>kI λi=>kN λh=>?_
  obtain⟨a,b,j,u,ns,ws,rows,b0,e,es,fs,B,R,A,K,sb,lb,rfl,hw,he,f1,l9,h⟩:=h;have u4:=R.u1;obtain⟨bs,m,h1,h2,o⟩:=B.box he;refine ZL (n:=n) kId B.ins rfl ?_;refine ZE (o:=.lst bs) h1 (YF (j:=j) h2) ?_;refine⟨a,b,j,u,ns,ws,rows,b0,e,es,fs,fine,B,R,A,K,sb,lb,rfl,hw,he,by lia,λT es' fs' j' B' K' cg l' sh lj=>?_⟩;obtain⟨ll,oks⟩:=K.ok sb;obtain⟨ll',oks'⟩:=K'.ok sb;obtain⟨le,se⟩:=oks e (zF he);have he':=zD lj;generalize es'[j']=e' at he';obtain⟨le',se'⟩:=oks' e' (zF he');have hf':=zD (show j'<fs'.length by lia);generalize fs'[j']=f' at hf';obtain⟨ds,k1,k2,k3⟩:=B'.ft;obtain⟨d,d1,d2⟩:=k3 j' f' hf';refine ZL (n:=n) kId B'.ins rfl ?_;refine ZE (o:=.lst ds) k1 (YF (j:=j') d1) ?_;have done:f'≠.wait->Q .non T:=λnw=>by
   refine h T es' fs' B' K' cg (by lia) ?_;by_cases c:es'.length=es.length
   ·obtain⟨_,rfl⟩:=sh.2 c;exact .inr ⟨c,λz=>nw (by rw[hf'] at z;exact Option.some.inj z)⟩
   ·exact .inl (by have:=sh.1;lia)
  have R':=R.cg A cg
  have la:a<T.length:=by
   obtain⟨_,z,_⟩:=B'.bx;exact Z8 z
  have lb':b<T.length:=Z8 k1;cases f' with
  | wait=>
   cases d2;obtain⟨bs',m',h1',h2',o'⟩:=B'.box he';refine ZL (n:=n) kId B'.ins rfl ?_;refine ZE (o:=.lst bs') h1' (YF (j:=j') h2') ?_;refine⟨u,ns,ws,rows,e',R',o'.2.2,by lia,se',λT2 f d p2 fok fat=>?_,λT2 p2 big=>?_⟩
   ·have B2:=B'.pre p2
    have fa:=fat a b la lb'
    have fw:f≠.wait:=λz=>by subst z;exact fok.elim
    obtain⟨xs,rfl⟩:∃xs,d=.tup xs:=by
     cases f with
     | wait=>exact fok.elim
     | cut _ _ _ _=>exact fok.elim
     | small=>exact⟨_,fa⟩
     | one=>obtain⟨_,_,_,_,_,z⟩:=fa;exact⟨_,z⟩
     | out _ _=>obtain⟨_,z,_⟩:=fa;exact⟨_,z⟩
     | full _=>obtain⟨_,z,_⟩:=fa;exact⟨_,z⟩
    refine YL (n:=n) kId B2.ins rfl ?_;refine⟨a,b,j',es',fs',f,B2,rfl,by lia,fa,λT3 B3 cg3=>h T3 es' _ B3 (K'.put hf' he' fok) (cg.trans ((Cg.pre p2).trans cg3)) (by lia) ?_⟩;by_cases c:es'.length=es.length
    ·obtain⟨_,rfl⟩:=sh.2 c;refine .inr ⟨c,λz=>?_⟩;rw[yI (by lia)] at z;exact fw (Option.some.inj z)
    ·exact .inl (by have:=sh.1;lia)
   ·have B2:=B'.pre p2;obtain⟨p,hp,wp⟩:=big;refine⟨e',e,p2 _ _ o'.2.2,p2 _ _ (o.cg cg).2.2,se',se,by lia,by lia,λT3 p3=>?_⟩;have B3:=B2.pre p3;refine ifN (λc=>?_) (λc=>?_)
    ·refine⟨a,b,j',es',fs',e',B3,rfl,he',by lia,λz=>?_,by lia,λT4 k s hs ws' B4 cg4=>?_⟩
     ·rw[z] at hp;cases hp
     ·have w1:=ws'.1 p hp;unfold wd at w1 wp;refine h T4 _ _ B4 (K'.cut hf' he' hs (by lia) (by lia)) (cg.trans ((Cg.pre p2).trans ((Cg.pre p3).trans cg4))) (by simp;lia) (.inl (by have:=sh.1;simp;lia))
    ·refine h T3 es' fs' B3 K' (cg.trans ((Cg.pre p2).trans (.pre p3))) (by lia) (.inl ?_);have s1:=sh.1;by_cases z:es'.length=es.length
     ·obtain⟨rfl,rfl⟩:=sh.2 z;rw[he] at he';cases he';have:=(M6 se).2.2 p hp;lia
     ·lia
  | small=>cases d2;exact done (by intro z;cases z)
  | one=>obtain⟨_,_,_,_,_,rfl⟩:=d2;exact done (by intro z;cases z)
  | cut _ _ _ _=>cases d2;exact done (by intro z;cases z)
  | out _ _=>obtain⟨_,rfl,_⟩:=d2;exact done (by intro z;cases z)
  | full _=>obtain⟨_,rfl,_⟩:=d2;exact done (by intro z;cases z)
def zgn  (Zs:Wu e.K e.mg)(Gk:Dfz Vs MR RE)(RY:Fmz 1 Zs.C Vf QC (BZ Zs.C))(Jj:Fkz 15 "look" Of (E8 Zs.C))(Pl:Fmz 6 Zs.C V6 RA (Ji Zs.C))(Ta:Fmz 1 Zs.C q2 RR (DT Zs.C))(Z1:e.mg XY=none):Fkz 16 Vs RE C2:=
 mkF Gk LN (λhr=>(Zf (Zt (i:=6) LN.nd (Ut ⟨Zs.makes,Ta.m.at_,Ta.m.fn,Zs.kp⟩ Ta.ok (hr.mono (by decide)) rfl Zs.m Ta.b UE (Za (dv 2) Zd))) (Zf (P9 (i:=7) PassesOwn.never rfl LN.nd rfl (Or.inl rfl) rfl Z1 (Za (dv 5) Zd) (Zf (Zt (i:=8) LN.nd (Dg (C:=Zs.C) (dv 6) Zs.cl Pl.m Pl.ok (hr.mono (by decide)) Pl.b Yq)) (Zf (ZD (Zy YH (dv 8) ZX (Zw _)) (Ze zgh) ZH) (Ze (Ye (Zk Jj hr (Za (dv 6) (Za (dv 0) (Za (dv 1) (Za (dv 3) (Za (dv 4) (Za (dv 8) Zd)))))))))))) (Ze (Zn (Dg (C:=Zs.C) (dv 6) Zs.cl RY.m RY.ok (hr.mono (by decide)) RY.b Yq)))))) λS Q ex=>by
  refine kR λnd=>kR λrw=>kR λbx=>kI λg=>kI λfine=>kI λlooks=>kN λh=>?_
  obtain⟨u,t,ns,ws,rows,b0,R,hb,lu,sb,f1,⟨k0,k8⟩,ht,h⟩:=h;have u4:=R.u1;refine⟨S,b0,rfl,rfl,hb,λU a b la lb pU B0=>⟨rfl,?_⟩⟩;have A:Apt nd rw a b:=⟨⟨by have:=Z8 R.nd;lia,by have:=Z8 R.nd;lia⟩,by have:=Z8 R.rw;lia,by have:=Z8 R.rw;lia⟩
  have RU:=R.pre pU
  have tt:=Z8 ht
  have lU:S.length<U.length:=Z8 B0.ins
  have back:∀ {S' T:Sto},Cg a b U S'->Pre S' T->Pre S T:=λ{S' T} cg p x o z=>p _ _ (cg.2 _ _ (by have:=Z8 z;lia) (by have:=Z8 z;lia) (pU _ _ z))
  refine⟨⟨by lia,by lia⟩,λk dl' S'=>(k:Int)<=looks/\∃(es:List LI)(fs:List Ft),Bk Zs.C S' S.length a b es fs/\Bks g fine ns rows b0 es fs/\Cg a b U S'/\es.length<=1+66*k/\(k=0->es=[b0]/\fs=[.wait])/\(0<k->es.length=1->fs[0]?≠some .wait)/\∃x7 x8:Option D,dl'=[some (.ref nd),some (.ref rw),some (.ref bx),some (.int g),some (.int fine),some (.int looks),some (.ref S.length),x7,x8],⟨by lia,[b0],[.wait],B0,.new,.refl,by simp,λ_=>⟨rfl,rfl⟩,λz=>absurd z (by lia),_,_,rfl⟩,?_⟩;rintro k dl' S' ⟨hk,es,fs,B,K,cg,l9,c0,c1,x7,x8,rfl⟩;split
  ·rename_i c;refine YL (n:=S.length) kId B.ins rfl ?_;refine⟨a,b,t,es,fs,B,cg.2 _ _ (by lia) (by lia) (pU _ _ ht),by lia,λe he=>by rw[((K.ok sb).2 e he).1];lia,λnw T p=>?_,λi T hw p=>?_⟩
   ·refine YL (n:=S.length) kId (B.pre p).ins rfl ?_;refine⟨a,b,es,fs,B.pre p,by lia,λT2 ds p2 h2 en=>h T2 T.length ds es fs (back (cg.trans (.pre p)) p2) ?_ h2 en K (by lia) (λz=>absurd z (by lia)) λ_ e1 z=>nw _ (zF z) rfl⟩;have:=Xv p
    have:=cg.1;lia
   ·have ll:=(K.ok sb).1
    have li:=(zA.mp hw).1
    have he:=zD (show i<es.length by lia);refine⟨a,b,i,u,ns,ws,rows,b0,_,es,fs,B.pre p,(RU.cg A cg).pre p,A,K,sb,lu,rfl,hw,he,f1,by lia,λT2 es' fs' B2 K2 cg2 l2 c2=>?_⟩;refine⟨by lia,es',fs',B2,K2,cg.trans ((Cg.pre p).trans cg2),by lia,λz=>absurd z (by lia),λ_ e1=>?_,_,_,rfl⟩;rcases c2 with c2|⟨c2,c3⟩
    ·lia
    ·rw[show i=0 by lia] at c3;exact c3
  ·rename_i c;refine YL (n:=S.length) kId B.ins rfl ?_;refine⟨a,b,es,fs,B,by lia,λT2 ds p2 h2 en=>h T2 S'.length ds es fs (back cg p2) (by have:=cg.1;lia) h2 en K (by lia) (λz=>c0 (by lia)) λz=>c1 (by lia)⟩
def zbD  (G8:Dfz q63 KA RO)(Z2:e.mg "max"=none)(Yb:e.mg "min"=none):Fkz 1 q63 RO DR:=
 mkF G8 zfe (λhr=>(Ze (Zn (ZG (Za (Zl Xw (ZR (ZY (VA rfl)) rfl Yb Boot.«min» (Za (dv 0) Zd)) (dv 1)) (Za (XR XS (Zl Xw (XR XS (ZR (ZY (WA rfl)) rfl Z2 Boot.«max» (Za (dv 0) Zd))) (dv 1))) Zd)))))) λS Q ex=>by
  refine kR λn=>kI λs=>kN λh=>?_
  obtain⟨zs,hz,ne,hs,h⟩:=h;refine W6 (n:=n) (o:=.lst (zs.map D.int)) (xs:=zs) hz (Vy zs) ne λlo l1 l2=>?_
  refine⟨hs,?_⟩;refine W6 (n:=n) (o:=.lst (zs.map D.int)) (xs:=zs) hz (Vy zs) ne λhi h1 h2=>?_
  exact⟨hs,h lo hi l1 l2 h1 h2⟩
def zh3  (KR:Dfz q84 Nu OY)(Pj:Fkz 1 q63 RO DR)(Vz:Fkz 1 q68 TV Ib):Fkz 2 q84 OY DB:=
 mkG KR NU (λhr=>(Zf (ZD (Zy (ZO hr) (Zg (dv 0) Zb) ZW (Zw _)) (Ze (Zn (Zk Pj hr (Za (Yi (Za (Zl ZS (Zg (dv 0) Zb) (dv 3)) Zd)) (Za (Zg (dv 0) Zb) Zd))))) ZH) (Zf (ZD (Zy (ZO hr) (Zg (dv 0) Zb) ZW (Zw _)) (Ze (Zn (ZI (dv 2) (Zg (dv 0) Zb)))) ZH) (Zf (Zt (i:=4) NU.nd (ZI (dv 1) (Zg (dv 0) Zb))) (Zf (ZD (Zy (ZO hr) (Zg (dv 0) Zb) ZW (Zw _)) (Zf (Zt (i:=5) NU.nd (Yi (Za (Zk Vz hr (Za (Zg (dv 4) Zb) (Za (Zg (dv 0) Zb) Zd))) (Za (Zk Vz hr (Za (Zg (dv 4) Zb) (Za (Zg (dv 0) Zb) Zd))) Zd)))) (Zf (ZD (PDW.pt (VY (Zy YK (Zg (dv 4) Zb) Zb (Zw _)) (VX (Zy YK Zb (Zg (dv 4) Zb) (Zw _))))) (Ze (Ye (YI (dv 5) Zb))) ZH) (Ze (Zn (Zk Pj hr (Za (dv 5) (Za (Zk Vz hr (Za (dv 3) (Za (Zl Yt (Zg (dv 0) Zb) Zb) Zd))) Zd))))))) ZH) (Zf (Zt (i:=6) NU.nd (ZI (dv 1) (Zg (dv 0) Zb))) (Zf (ZD (Zy (ZO hr) (Zg (dv 0) Zb) ZW (Zw _)) (Ze (Zn (Zk Pj hr (Za (Yi (Za (Zl ZS (Zg (dv 4) Zb) (Zg (dv 6) Zb)) (Za (Zl ZS (Zg (dv 4) Zb) (Zg (dv 6) Zb)) (Za (Zl ZS (Zg (dv 4) Zb) (Zg (dv 6) Zb)) (Za (Zl ZS (Zg (dv 4) Zb) (Zg (dv 6) Zb)) Zd))))) (Za (dv 3) Zd))))) ZH) (Zf (ZD (Zy (ZO hr) (Zg (dv 0) Zb) ZW (Zw _)) (Ze (Zn (ZG (Za (Zl Z5 (Zg (dv 4) Zb) (Zg (dv 6) Zb)) (Za (Zl Z5 (Zg (dv 4) Zb) (Zg (dv 6) Zb)) Zd))))) ZH) (Ze (Zn (ZG (Za (Zl Yt (Zg (dv 4) Zb) (Zg (dv 6) Zb)) (Za (Zl Yt (Zg (dv 4) Zb) (Zg (dv 6) Zb)) Zd))))))))))))) λS Q0 ex0=>by
  refine kD λd=>kR λw=>kR λp=>kI λg=>kN λh=>?_
  obtain⟨v,vs,bs,rfl,hw,hp,ok,s1,hg,h⟩:=h;have sg:Sz 21 g:=Sz.of 1000000 (by lia);cases v with
  | number x y=>
   have sx:Sz 31 x:=Sz.of (10^9) ok.2.2
   have sy:Sz 31 y:=Sz.of (10^9) (by have:=ok.1;lia);refine⟨ZN sx sg,?_⟩;refine⟨[x*g],Zz _ _,by simp,sy.fd (by have:=ok.1;lia),λlo hi l1 _ h1 _=>?_⟩;cases zS.mp l1;cases zS.mp h1;exact⟨Pre.refl.push,TQ _,h⟩
  | unknown k=>exact ZE (o:=.lst (bs.map frD)) hp (ZP ok) ⟨Pre.refl,TQ _,h⟩
  | power i m=>
   obtain⟨ok1,m2,m6⟩:=ok;have a:=s1.at ok1;refine ZE (o:=.lst (vs.map frD)) hw (ZP ok1) ?_;refine⟨⟨by lia,m6,a.2.1.mono (by decide)⟩,⟨by lia,m6,a.2.2.mono (by decide)⟩,?_⟩;have gp:(0:Int)<g^(m-1).toNat:=yE (by lia)
   have zs:Sz 200 (g^(m-1).toNat):=(sg.pow _).mono (by lia)
   have zf:CFd 0 (g^(m-1).toNat):=zs.fd gp
   have aY:∀l h':Int,WZ (gt vs i).1 (gt vs i).2 m.toNat l h'->Q0 (frD (l/g^(m-1).toNat,-(-h'/g^(m-1).toNat))) S:=λl h' hP=>by
    obtain⟨rfl,rfl⟩:=hP.eq (by lia);rw[show (m-1).toNat=m.toNat-1 by lia];exact h
   have two:¬ ((gt vs i).1<0/\0<(gt vs i).2)->∀l h':Int,l∈[(gt vs i).1^m.toNat,(gt vs i).2^m.toNat]->(∀z∈[(gt vs i).1^m.toNat,(gt vs i).2^m.toNat],l<=z)->h'∈[(gt vs i).1^m.toNat,(gt vs i).2^m.toNat]->(∀z∈[(gt vs i).1^m.toNat,(gt vs i).2^m.toNat],z<=h')->WZ (gt vs i).1 (gt vs i).2 m.toNat l h':=λnz l h' l1 l2 h1 h2=>by
    simp only[zR,yX,or_false] at l1 h1;exact⟨l1.imp_right .inl,l2 _ (by simp),l2 _ (by simp),λx y=>absurd ⟨x,y⟩ nz,h1,h2 _ (by simp),h2 _ (by simp)⟩
   refine ifD (λc1=>?_) (λc1=>?_)
   ·refine ifD (λc2=>?_) (λc2=>?_)
    ·refine YR (n:=S.length) (xs:=[.int ((gt vs i).1^m.toNat),.int ((gt vs i).2^m.toNat)]) (y:=.int 0) kId (Zz _ _) kId (by simp) ?_;rw[Vi];refine⟨⟨by lia,by lia,sg.mono (by decide)⟩,?_⟩;refine⟨[(gt vs i).1^m.toNat,(gt vs i).2^m.toNat,0],Zz _ _,by simp,zf,λl h' l1 l2 h1 h2=>?_⟩;refine⟨Pre.refl.push,TQ _,aY l h' ?_⟩;simp only[zR,yX,or_false] at l1 h1;have pp:0<(gt vs i).2^m.toNat:=yE c2
     have h3:=h2 ((gt vs i).2^m.toNat) (by simp);refine⟨?_,l2 _ (by simp),l2 _ (by simp),λ_ _=>l2 _ (by simp),?_,h2 _ (by simp),h3⟩
     ·rcases l1 with z|z|z
      ·exact .inl z
      ·exact .inr (.inl z)
      ·exact .inr (.inr ⟨c1,c2,z⟩)
     ·rcases h1 with z|z|z
      ·exact .inl z
      ·exact .inr z
      ·lia
    ·skip
     refine⟨⟨by lia,by lia,sg.mono (by decide)⟩,?_⟩;exact⟨[(gt vs i).1^m.toNat,(gt vs i).2^m.toNat],Zz _ _,by simp,zf,λl h' l1 l2 h1 h2=>⟨Pre.refl.push,TQ _,aY l h' (two (λz=>c2 z.2) l h' l1 l2 h1 h2)⟩⟩
   ·skip
    refine⟨⟨by lia,by lia,sg.mono (by decide)⟩,?_⟩;exact⟨[(gt vs i).1^m.toNat,(gt vs i).2^m.toNat],Zz _ _,by simp,zf,λl h' l1 l2 h1 h2=>⟨Pre.refl.push,TQ _,aY l h' (two (λz=>c1 z.1) l h' l1 l2 h1 h2)⟩⟩
  | times i j=>
   have a:=s1.at ok.1
   have b:=s1.at ok.2;refine ZE (o:=.lst (vs.map frD)) hw (ZP ok.1) ?_;refine ZE (o:=.lst (vs.map frD)) hw (ZP ok.2) ?_;refine⟨ZN a.2.1 b.2.1,ZN a.2.1 b.2.2,ZN a.2.2 b.2.1,ZN a.2.2 b.2.2,?_⟩;refine⟨[(gt vs i).1*(gt vs j).1,(gt vs i).1*(gt vs j).2,(gt vs i).2*(gt vs j).1,(gt vs i).2*(gt vs j).2],Zz _ _,by simp,sg.fd (by lia),λlo hi l1 l2 h1 h2=>?_⟩;obtain⟨rfl,rfl⟩:=(UW.of l1 l2 h1 h2).eq;exact⟨Pre.refl.push,TQ _,h⟩
  | plus i j=>
   refine ZE (o:=.lst (vs.map frD)) hw (ZP ok.1) ?_;refine ZE (o:=.lst (vs.map frD)) hw (ZP ok.2) ?_;exact⟨Pre.refl,VL,h⟩
  | minus i j=>
   refine ZE (o:=.lst (vs.map frD)) hw (ZP ok.1) ?_;refine ZE (o:=.lst (vs.map frD)) hw (ZP ok.2) ?_;exact⟨Pre.refl,VL,h⟩
def zgc  (Fl:Dfz q85 RV Q4)(Fz:Fkz 2 q84 OY DB)(OM:e.mg "any"=none):Fkz 3 q85 Q4 E7:=
 mkG Fl UN (λhr=>(Zf (ZD (Wm (ZR (ZY (zcs rfl)) rfl OM Boot.«any» (Za (XQ (x:="_law_span") (N:=["_law_fine"]) (caps:=[4]) (ar:=Zm RV) rfl rfl csc rfl (by decide) (dv 0) (λ_ _ _ _ _ _=>Yr) (λ_ _ _ _ _ _=>(Xx X0 (Zl Yt (Zg (dv 0) Zb) (Zg (dv 0) Zb)) (dv 1) (Zw _)))) Zd))) (Ze (Zn O3)) ZH) (Zf (Zt (i:=5) UN.nd (Yi Zd)) (Zf (WD (i:=6) PassesOwn.never rfl UN.nd rfl (Or.inl rfl) (dv 1) (Ze (Ye (YI (dv 5) (Zk Fz hr (Za (dv 6) (Za (dv 5) (Za (dv 0) (Za (dv 3) Zd))))))))) (Zf (Zt (i:=7) UN.nd O3) (Zf (WD (i:=8) PassesOwn.never rfl UN.nd rfl (Or.inl rfl) (dv 2) (Zf (Zt (i:=9) UN.nd (ZI (dv 5) (Zg (dv 8) Zb))) (Zf (ZD (PDW.pt (UC (Zy YK (Zg (dv 9) Zb) Zb (Zw _)) (OW (PDW.pt (VY (Zy (ZO hr) (Zg (dv 8) Zb) ZW (Zw _)) (VX (Zy X0 (Zg (dv 9) Zb) Zb (Zw _)))))))) (Ze (Zn O3)) ZH) (Ze (Zt (i:=7) UN.nd (Kv (dv 7) (Kv (Xx Kr (Zg (dv 9) Zb) Zb (Zw _)) (RH (Cv (Xx (ZO hr) (Zg (dv 8) Zb) ZW (Zw _)) (RH (Xx (ZO hr) (Zg (dv 9) Zb) Zb (Zw _)))))))))))) (Ze (Zn (zgN (dv 7)))))))))) λS Q0 ex0=>by
  refine kR λbx=>kR λnd=>kR λrw=>kI λg=>kI λfine=>kN λh=>?_
  obtain⟨u,ns,ws,rows,e,R,hb,lu,se,⟨w1,nb,su⟩,h⟩:=h;have u4:=R.u1
  have r4:=R.rl
  have l70:=R.l70
  have net':ZT ((e.length:Nat):Int) ns ws:=by rw[lu];exact R.net
  refine WH (n:=bx) (S1:=S) (o:=.lst (e.map frD)) (λd=>match d with|.tup [.int a,.int b]=>.bl (decide (b-a > fine))|_=>.non) kId hb (by show (e.map frD).length<=1000;rw[zB];lia) (λx hx S2 K pr hK=>?_) ?_
  ·have hx':x∈e.map frD:=hx;obtain⟨p,_,rfl⟩:=zO.mp hx';exact hK
  refine Rw (n:=S.length) (o:=.lst _) (Zz _ _) (Ap fine e) ?_;rw[zhB w1];refine YY ?_;have P0:Pre S (S++[Ob.lst ((Zv (.lst (e.map frD))).map (λd=>match d with|.tup [.int a,.int b]=>.bl (decide (b-a > fine))|_=>.non))]):=Pre.refl.push;generalize S++[Ob.lst ((Zv (.lst (e.map frD))).map (λd=>match d with|.tup [.int a,.int b]=>.bl (decide (b-a > fine))|_=>.non))]=S0 at P0;have l0:=Xv P0;dsimp only[Dv];refine FQ (λdl2 S2=>Pre S S2/\∃(m:Nat)(u6:Option D),S2[m]?=some (.lst ((ZC e g ns).map frD))/\dl2=[some (.ref bx),some (.ref nd),some (.ref rw),some (.int g),some (.int fine),some (.ref m),u6,none,none,none]) (λnx hx=>?_) ?_
  ·refine Vp (n:=nd) (o:=.lst (ns.map Nd.d)) (λk dl' S'=>k<=ns.length/\Pre S S'/\S'[S0.length]?=some (.lst ((ZC e g (ns.take k)).map frD))/\∃u6:Option D,dl'=[some (.ref bx),some (.ref nd),some (.ref rw),some (.int g),some (.int fine),some (.ref S0.length),u6,none,none,none]) ⟨zK _,Wg P0 _,Zz _ _,_,rfl⟩ (λk dl' S' z=>z.2.1 _ _ R.nd) ?_ ?_
   ·rintro k x dl' S' nx2 ct ex' ⟨hk,pr,hf,u6,rfl⟩ hn;have ex2:(ns.map Nd.d)[k]?=some x:=ex';rw[zE] at ex2;obtain⟨v,hv,rfl⟩:=zG.mp ex2;have hk':=(zA.mp hv).1
    have ln:(ZC e g (ns.take k)).length=k:=by rw[Xk,zL];lia
    have okv:v.ok (ZC e g (ns.take k)).length e.length:=by rw[ln];exact(net'.ok k v hv).1
    refine YR (n:=S0.length) (S1:=S') (xs:=(ZC e g (ns.take k)).map frD) (y:=frD (v.fw (ZC e g (ns.take k)) e g)) kId hf (λK hK=>⟨v,_,e,rfl,hf,pr _ _ hb,okv,(NG net' rfl se R.hg k hk).mono (by decide),R.hg,hK⟩) (by rw[zB,ln];lia) ?_;refine hn _ _ ⟨by lia,Xz pr l0,?_,_,rfl⟩;rw[Y9 hv,OA,zY];exact YE hf
   ·rintro dl' S' ⟨hk,pr,hf,u6,rfl⟩;have e9:ns.take (Zv (.lst (ns.map Nd.d))).length=ns:=by
     show ns.take (ns.map Nd.d).length=ns;rw[zB,yF]
    rw[e9] at hf;exact hx _ _ ⟨pr,S0.length,u6,hf,rfl⟩
  rintro dl2 S2 ⟨P2,m,u6,hm,rfl⟩;refine Vp (n:=rw) (o:=.lst (rows.map rwD)) (λk dl' S'=>k<=rows.length/\S2=S'/\∃(b:Bool)(u8 u9:Option D),b=sfA ns rows e g k/\dl'=[some (.ref bx),some (.ref nd),some (.ref rw),some (.int g),some (.int fine),some (.ref m),u6,some (.bl b),u8,u9]) ⟨zK _,rfl,true,_,_,rfl,rfl⟩ (λk dl' S' z=>z.2.1 ▸ P2 _ _ R.rw) ?_ ?_
  ·rintro k x dl' S' nx2 ct ex' ⟨hk,rfl,b,u8,u9,eb,rfl⟩ hn;have ex2:(rows.map rwD)[k]?=some x:=ex';rw[zE] at ex2;obtain⟨row,hr,rfl⟩:=zG.mp ex2;have hk':=(zA.mp hr).1
   have hi:row.2<ns.length:=R.ri row (zF hr)
   have nbr:=nb row (zF hr)
   have ek:=zdY (ns:=ns) (e:=e) (g:=g) hr;rw[<- eb] at ek;refine ZE (o:=.lst ((ZC e g ns).map frD)) hm (ZP (vs:=ZC e g ns) (i:=(row.2:Int)) ⟨by lia,by rw[Xk];lia⟩) ?_;unfold ibS brS at nbr;rw[Di hi] at nbr;have go:∀b':Bool,b'=(b&&suB row.1 (gt (ZC e g ns) (row.2:Int)))->nx2 [some (.ref bx),some (.ref nd),some (.ref rw),some (.int g),some (.int fine),some (.ref m),u6,some (.bl b'),some (rwD row),some (frD (gt (ZC e g ns) (row.2:Int)))] S2:=λb' hb'=>hn _ _ ⟨by lia,rfl,b',_,_,by rw[hb',ek],rfl⟩
   generalize gt (ZC e g ns) (row.2:Int)=s at nbr go;rcases row with ⟨_|_,rn⟩
   ·have n2:¬ s.2<0:=by simpa using nbr
    refine ifD (λc=>absurd c n2) (λ_=>?_);cases b with
    | false=>exact go false rfl
    | true=>
     refine ifD (λc=>?_) (λc=>?_)
     ·refine go true ?_;simp[suB,c]
     ·refine go false ?_;simp[suB,c]
   ·have n2:¬ 0<s.1/\¬ s.2<0:=by simpa using nbr
    refine ifD (λc=>absurd c n2.2) (λ_=>?_);refine ifD (λc=>absurd c n2.1) (λ_=>?_);cases b with
    | false=>exact go false rfl
    | true=>
     refine ifD (λc=>?_) (λc=>?_)
     ·have z0:s.1=0:=by have:=n2.1;lia
      refine go (decide (s.2=0)) ?_;simp[suB,z0]
     ·have z0:s.1≠0:=by lia
      refine go false ?_;simp[suB,z0]
  ·rintro dl' S' ⟨hk,rfl,b,u8,u9,eb,rfl⟩;have e9:sfA ns rows e g (Zv (.lst (rows.map rwD))).length=suS ns rows e g:=by
    show sfA ns rows e g (rows.map rwD).length=_;unfold sfA suS;rw[zB,yF]
   rw[e9,su] at eb;subst eb;exact⟨P2,.bl _,h⟩
def ze4  (Lo:Dfz "law" VI Mo)(F1:Fkz 3 q85 Q4 E7)(JW:Fkz 16 Vs RE C2)(YU:Fkz 1 q45 UQ Mp)(FJ:Fkz 4 q97 OZ BG)(FZ:Fkz 2 W3 Oo EL)(Hi:Fkz 2 Vk Pm Bb)(FW:Fkz 1 q98 Q1 D2)(XC:e.mg "all"=none)(ZV:e.mg "len"=none)(Xb:e.mg "list"=none)(Z1:e.mg XY=none)(Yb:e.mg "min"=none):Fkz 17 "law" Mo (OP LT LP LQ):=
 Lo.mk' (Xo (k:=16) Lo.F Ve zfC λ_ _ _ _ _ _ hr=>⟨_,(Zf (Zt (i:=1) Ve.nd (ZI (ZG (Za Zb (Za Zb (Za Zb (Za Zb (Za Zb (Za Zb Zd))))))) (Zl Yp (Zk YU hr (Za (dv 0) (Za Zb Zd))) Zb))) (Zf (XA (i:=2) Ve.nd rfl (Or.inr rfl) (Zk FW hr (Za (Zk YU hr (Za (dv 0) (Za Zb Zd))) Zd))) (Zf (Zt (i:=3) Ve.nd (Zk Hi hr (Za (dv 0) (Za (dv 1) Zd)))) (Zf (XA (i:=4) Ve.nd rfl (Or.inr rfl) (Zk FZ hr (Za (zd0 (x:="_law_k") (N:=["_law_script"]) (caps:=[0]) (ar:=Zm VI) rfl rfl csc rfl (by decide) rfl Z1 (Za Zb (Za (ZR (VA rfl) rfl Yb Boot.«min» (Za (ZR (ZY YW) rfl ZV Boot.«len» (Za (dv 0) Zd)) (Za Zb Zd))) Zd)) (λ_ _ _ _ _ _=>Yr) (λ_ _ _ _ _ _=>(Zk YU hr (Za (dv 1) (Za (dv 0) Zd))))) (Za (dv 1) Zd)))) (Zf (XA (i:=5) Ve.nd rfl (Or.inr rfl) (Zk FJ hr (Za (dv 0) (Za (dv 4) (Za (dv 3) (Za (dv 2) Zd)))))) (Zf (XA (i:=6) Ve.nd rfl (Or.inr rfl) (Zl Z5 Zb (Zl Yp (Zk YU hr (Za (dv 0) (Za Zb Zd))) Zb))) (Zf (Zt (i:=7) Ve.nd (Zl Yp (Zk YU hr (Za (dv 0) (Za Zb Zd))) Zb)) (Zf (ZD (Zy X0 (dv 1) Zb (Zw _)) (Ze (Zt (i:=7) Ve.nd (Zl Yp (dv 7) Zb))) ZH) (Zf (Zt (i:=8) Ve.nd (Zk JW hr (Za (S6 (ZY TX) rfl Xb Boot.«list» (Za (dv 4) Zd)) (Za (S6 (ZY TX) rfl Xb Boot.«list» (Za (dv 5) Zd)) (Za (S6 (ZY TX) rfl Xb Boot.«list» (Za (dv 3) Zd)) (Za (dv 2) (Za (dv 6) (Za (dv 7) Zd)))))))) (Zf (ZD (Zy (ZO hr) (dv 7) Zb (Zw _)) (Ze (Zn (Xx (zaz hr) (dv 8) (Yi (Za (ZG (Za (dv 3) (Za (ZG (Za ZW Zd)) Zd))) Zd)) (Zw _)))) ZH) (Zf (ZD (PDW.pt (VY (Zy (ZO hr) (ZR (ZY YW) rfl ZV Boot.«len» (Za (dv 8) Zd)) Zb (Zw _)) (VX (Zy (ZO hr) (Zg (ZI (dv 8) Zb) Zb) (ZG (Za ZW Zd)) (Zw _))))) (Ze (Zn O3)) ZH) (Ze (Zn (ZR (ZY (LW rfl)) rfl XC Boot.«all» (Za (XQ (x:="_law_entry") (N:=["_law_nodes","_law_rows_here","_law_grid_here","_law_fine"]) (caps:=[4,5,2,6]) (ar:=Zm VI) rfl rfl csc rfl (by decide) (dv 8) (λ_ _ _ _ _ _=>Nb (Zy (ZO hr) (Zg (dv 0) Zb) (ZG (Za ZW Zd)) (Zw _))) (λ_ _ _ _ _ _=>(Zk F1 hr (Za (Zg (dv 0) Zb) (Za (dv 1) (Za (dv 2) (Za (dv 3) (Za (dv 4) Zd)))))))) Zd))))))))))))))),λds S Q ex h=>by
  obtain⟨ns,rfl,rfl,hl,h⟩:=h;refine YX (λdl S=>S=[.frz (ns.map D.int),.cod LT LP LQ]/\∃q:Nat,(1<=q/\q<=4)/\dl=[some (.ref 0),some (.int (q:Int)),none,none,none,none,none,none,none]) (λnx hx=>?_) ?_
  ·refine⟨ns,rfl,⟨by decide,by decide⟩,λc hc=>?_⟩;obtain⟨q,k,hq,ek,eq⟩:∃q k:Nat,(1<=q/\q<=4)/\c%6=(k:Int)/\([.int 1,.int 2,.int 1,.int 2,.int 3,.int 4]:List D)[k]?=some (.int (q:Int)):=by
    have:c%6=0\/c%6=1\/c%6=2\/c%6=3\/c%6=4\/c%6=5:=by lia
    rcases this with e|e|e|e|e|e
    ·exact⟨1,0,by decide,e,rfl⟩
    ·exact⟨2,1,by decide,e,rfl⟩
    ·exact⟨1,2,by decide,e,rfl⟩
    ·exact⟨2,3,by decide,e,rfl⟩
    ·exact⟨3,4,by decide,e,rfl⟩
    ·exact⟨4,5,by decide,e,rfl⟩
   exact Rf k ek eq (hx _ _ ⟨rfl,q,hq,rfl⟩)
  rintro dl S ⟨rfl,q,hq,rfl⟩;refine YX (λdl S=>S=[.frz (ns.map D.int),.cod LT LP LQ]/\∃g:Int,(1<=g/\g<=1000000)/\dl=[some (.ref 0),some (.int (q:Int)),some (.int g),none,none,none,none,none,none]) (λnx hx=>?_) ?_
  ·refine⟨ns,rfl,⟨by decide,by decide⟩,λc hc=>?_⟩;exact⟨hc.1,λg g1 g2=>hx _ _ ⟨rfl,g,⟨g1,g2⟩,rfl⟩⟩
  rintro dl S ⟨rfl,g,hg,rfl⟩;refine YX (λdl S=>∃bs:LI,bs.length=q/\Spn 51 bs/\S=[.frz (ns.map D.int),.cod LT LP LQ]++[.lst (bs.map frD)]/\dl=[some (.ref 0),some (.int (q:Int)),some (.int g),some (.ref 2),none,none,none,none,none]) (λnx hx=>?_) ?_
  ·exact⟨ns,q,rfl,rfl,hq,λbs lb sb=>hx _ _ ⟨bs,lb,sb,rfl,rfl⟩⟩
  rintro dl S ⟨bs,lb,sb,rfl,rfl⟩;refine YX (λdl S=>∃(vs:List Nd)(ws:List Nat)(m:Nat),ZT q vs ws/\(1<=vs.length/\vs.length<=24)/\(S[0]?=some (.frz (ns.map D.int))/\S[1]?=some (.cod LT LP LQ)/\S[2]?=some (.lst (bs.map frD))/\bs.length=q/\Spn 51 bs)/\3<=m/\S[m]?=some (.lst (vs.map Nd.d))/\dl=[some (.ref 0),some (.int (q:Int)),some (.int g),some (.ref 2),some (.ref m),none,none,none,none]) (λnx hx=>?_) ?_
  ·have lm:0<=(if (19:Int)<(ns.length:Int) then 19 else (ns.length:Int))/\(if (19:Int)<(ns.length:Int) then 19 else (ns.length:Int))<=19:=by split<;>lia
   refine zfT (S1:=[.frz (ns.map D.int),.cod LT LP LQ]++[.lst (bs.map frD)]) (lo:=12) (hi:=if (19:Int)<(ns.length:Int) then 19 else (ns.length:Int)) (λc=>0<=c/\c<2147483629) (λK hK=>?_) ⟨by decide,lm.1,by lia⟩ (λk S2' K k0 k1 pr hK=>?_) λcs lc pc=>?_
   ·refine C9 (xs:=ns.map D.int) rfl ?_;rw[zB];exact hK
   ·exact⟨ns,pr 0 _ rfl,⟨by lia,by lia⟩,λc hc=>hK c hc⟩
   ·refine⟨cs.map D.int,q,Zz _ _,λx hx=>?_,rfl,hq,by rw[zB];lia,λvs ws T m net n1 n2 pr lm' hT=>?_⟩
    ·obtain⟨c,hc,rfl⟩:=zO.mp hx;exact⟨c,rfl,pc c hc⟩
    ·have l3:4<=m:=lm';exact hx _ _ ⟨vs,ws,m,net,⟨n1,n2⟩,⟨pr 0 _ rfl,pr 1 _ rfl,pr 2 _ rfl,lb,sb⟩,by lia,hT,rfl⟩
  rintro dl S ⟨vs,ws,m,net,hn,⟨h0,h1,h2,_,_⟩,m3,hm,rfl⟩;refine YX (λdl S=>∃(vs:List Nd)(ws:List Nat)(rows:List (Bool×Nat))(mr:Nat),ZT q vs ws/\(1<=vs.length/\vs.length<=30)/\(S[0]?=some (.frz (ns.map D.int))/\S[1]?=some (.cod LT LP LQ)/\S[2]?=some (.lst (bs.map frD))/\bs.length=q/\Spn 51 bs)/\S[m]?=some (.lst (vs.map Nd.d))/\S[mr]?=some (.lst (rows.map rwD))/\rows.length<=3/\(∀r∈rows,r.2<vs.length)/\dl=[some (.ref 0),some (.int (q:Int)),some (.int g),some (.ref 2),some (.ref m),some (.ref mr),none,none,none]) (λnx hx=>?_) ?_
  ·refine⟨q,ns,vs,ws,bs,h0,hm,h2,by lia,net,lb,by lia,sb,hg,⟨by lia,by lia⟩,λT mr ns' ws' rows gr rl ri lr hr=>?_⟩;have gl:=gr.ln;exact hx _ _ ⟨ns',ws',rows,mr,gr.net,⟨by lia,by lia⟩,⟨gr.kp _ _ (by lia) h0,gr.kp _ _ (by lia) h1,gr.kp _ _ (by lia) h2,lb,sb⟩,gr.nd,hr,rl,ri,rfl⟩
  clear hm h0 h1 h2 hn net;rintro dl S ⟨vs,ws,rows,mr,net,hn,⟨h0,h1,h2,_,_⟩,hm,hr,rl,ri,rfl⟩;refine YX (λdl S'=>S=S'/\∃f:Int,1<=f/\dl=[some (.ref 0),some (.int (q:Int)),some (.int g),some (.ref 2),some (.ref m),some (.ref mr),some (.int f),none,none]) (λnx hx=>?_) ?_
  ·exact⟨ns,h0,⟨by decide,by decide⟩,λc hc=>hx _ _ ⟨rfl,1+c%60,by lia,rfl⟩⟩
  rintro dl S' ⟨rfl,fine,f1,rfl⟩;refine YX (λdl S'=>S=S'/\∃k:Int,(0<=k/\k<=8)/\dl=[some (.ref 0),some (.int (q:Int)),some (.int g),some (.ref 2),some (.ref m),some (.ref mr),some (.int fine),some (.int k),none]) (λnx hx=>?_) ?_
  ·exact⟨ns,h0,⟨by decide,by decide⟩,λc hc=>hx _ _ ⟨rfl,c%9,by lia,rfl⟩⟩
  rintro dl S' ⟨rfl,k,hk,rfl⟩;refine YX (λdl S'=>S=S'/\∃k:Int,(0<=k/\k<=8)/\dl=[some (.ref 0),some (.int (q:Int)),some (.int g),some (.ref 2),some (.ref m),some (.ref mr),some (.int fine),some (.int k),none]) (λnx hx=>?_) ?_
  ·refine ifD (λ_=>?_) (λ_=>?_)
   ·exact hx _ _ ⟨rfl,k%5,by lia,rfl⟩
   ·exact hx _ _ ⟨rfl,k,hk,rfl⟩
  clear hk k;rintro dl S' ⟨rfl,k,hk,rfl⟩;refine YX (λdl S'=>Pre S S'/\∃(mb:Nat)(ds:List D)(es:List LI)(fs:List Ft),S'[mb]?=some (.lst ds)/\En S' ds es fs/\Bks g fine vs rows bs es fs/\es.length<=900/\(k=0->es=[bs]/\fs=[.wait])/\(0<k->es.length=1->fs[0]?≠some .wait)/\dl=[some (.ref 0),some (.int (q:Int)),some (.int g),some (.ref 2),some (.ref m),some (.ref mr),some (.int fine),some (.int k),some (.ref mb)]) (λnx hx=>?_) ?_
  ·refine TU (ZZ hm rfl) ?_;refine TU (ZZ (ZF hr) rfl) ?_;refine TU (ZZ (ZF (ZF h2)) rfl) ?_;refine⟨q,1,vs,ws,rows,bs,⟨ZF (ZF (Zz _ _)),ZF (Zz _ _),net,hg,by lia,by lia,ri,hq⟩,Zz _ _,lb,sb,f1,hk,ZF (ZF (ZF h1)),λT mb ds es fs p lm hT en K l9 c0 c1=>?_⟩;exact hx _ _ ⟨λx o z=>p _ _ (ZF (ZF (ZF z))),mb,ds,es,fs,hT,en,K,l9,c0,c1,rfl⟩
  rintro dl T ⟨P,mb,ds,es,fs,hT,⟨ln,lf,en⟩,K,l9,c0,c1,rfl⟩;refine YX (λdl S'=>T=S'/\0<k/\dl=[some (.ref 0),some (.int (q:Int)),some (.int g),some (.ref 2),some (.ref m),some (.ref mr),some (.int fine),some (.int k),some (.ref mb)]) (λnx hx=>?_) ?_
  ·refine ifD (λz=>?_) (λz=>hx _ _ ⟨rfl,by lia,rfl⟩);obtain⟨rfl,rfl⟩:=c0 z;obtain⟨m1,d1,e1,e2,e3⟩:=en 0 bs .wait rfl rfl;cases e3;obtain⟨x0,rfl⟩:∃x,ds=[x]:=List.length_eq_one_iff.mp ln;cases e1;refine⟨⟨_,_,ZF hT,Zz _ _,rfl,λi x y hx' hy=>?_⟩,h _⟩
   match i,hx',hy with
   | 0,hx',hy=>
    cases hx';cases hy;refine .inr (.inl ⟨_,_,rfl,rfl,rfl,λj x y hx' hy=>?_⟩)
    match j,hx',hy with
    | 0,hx',hy=>
     cases hx';cases hy;exact zao (λp=>zdH p) (ZF e2) (ZF (P _ _ h2))
    | 1,hx',hy=>
     cases hx';cases hy;exact Dx λx hx=>by cases zS.mp hx;rfl
  rintro dl S' ⟨rfl,k1,rfl⟩;refine YX (λdl S'=>T=S'/\dl=[some (.ref 0),some (.int (q:Int)),some (.int g),some (.ref 2),some (.ref m),some (.ref mr),some (.int fine),some (.int k),some (.ref mb)]) (λnx hx=>?_) ?_
  ·refine Xg hT ?_;refine ifD (λz=>?_) (λz=>hx _ _ ⟨rfl,rfl⟩);have le1:es.length=1:=by lia
   have he:=zD (show 0<es.length by lia)
   have hf:=zD (show 0<fs.length by lia);obtain⟨m1,d1,e1,e2,e3⟩:=en 0 _ _ he hf;obtain⟨⟨xs,rfl⟩,q1,_⟩:=J6 e3;have q2:=q1 λz=>c1 k1 le1 (by rw[hf,z])
   refine Dy (x:=.tup xs) (y:=.tup [.str "waits"]) (λQ hQ=>by exact ZE (o:=.lst ds) hT (YF (j:=0) e1) hQ) (λQ hQ=>by exact hQ) q2 ?_;exact hx _ _ ⟨rfl,rfl⟩
  rintro dl S' ⟨rfl,rfl⟩;have ok:=K.small
  have KK:=K;refine GC (n:=mb) (S1:=T) (o:=.lst ds) smD kId hT (by show ds.length<=1000;lia) (λx hx S2' K pr hK=>?_) (λx hx y hy S2' K pr hK=>?_) ?_
  ·obtain⟨i,hi⟩:=List.mem_iff_getElem?.mp (show x∈ds from hx);have li:=(zA.mp hi).1;obtain⟨m1,d1,e1,e2,e3⟩:=en i _ _ (zD (show i<es.length by lia)) (zD (show i<fs.length by lia));rw[hi] at e1;cases e1;exact Dy (x:=d1) (y:=.tup [.str "small"]) (λQ hQ=>by exact hQ) (λQ hQ=>by exact hQ) ((J6 e3).2.2 m1).1 hK
  ·obtain⟨i,hi⟩:=List.mem_iff_getElem?.mp (show x∈ds from hx);have li:=(zA.mp hi).1
   have he:=zD (show i<es.length by lia)
   have hf:=zD (show i<fs.length by lia);obtain⟨m1,d1,e1,e2,e3⟩:=en i _ _ he hf;rw[hi] at e1;cases e1;have fsm:=((J6 e3).2.2 m1).2 (by rw[hy];rfl)
   have fk:=ok.2 i _ _ he hf;rw[fsm] at fk;have ey:y=.bl true:=by
    have z:=hy;unfold smD at z;split at z
    ·split at z
     ·exact(Option.some.inj z).symm
     ·cases z
    ·cases z
   subst ey;obtain⟨ee,se⟩:=(KK.ok sb).2 _ (zF he);have P':Pre S S2':=λx o z=>pr _ _ (P _ _ z)
   refine⟨q,vs,ws,rows,_,⟨P' _ _ hm,P' _ _ hr,net,hg,by lia,by lia,ri,hq⟩,pr _ _ e2,by lia,se,?_,hK⟩;rcases fk with z|⟨_,_,_,_,z⟩|z
   ·cases z
   ·cases z
   ·exact z
  ·obtain⟨n,hb⟩:=Ac ds;refine Rw (n:=T.length) (o:=.lst _) (Zz _ _) hb ?_;rw[show (List.replicate n true).all id=true by simp];exact h _⟩)
end
theorem zhG {l:W.OpenLaw}{w:World}{K:Fg}{h:Heap}{mg:Str->Option Value}{fa:Addr}(X:K.In h)(G:h.Ns mainGlobals mg)(hfa:mg "law"=some (.ref fa))
  (zhD:W.nsIn K mainGlobals "Book"=some (some (.ref Xu)))(zbo:W.plainGet K Xu Str.empty=true)(zdl:W.hasDictIn K Xu=true)(zf2:W.plainOver K Xu=true)(za2:W.findIn K (.ref Xu) U3=some (some (.builtin q65)))(zaY:W.makesIn K Xu=true)(zaj:W.keepIn K (.ref Xu)=true)
  (zdj:W.findIn K (.ref Xu) "fates"=some none)
  (ze0:W.findIn K (.ref Xu) "boxes"=some none)
  (zhm:W.nsIn K mainGlobals Uc=some (some (.ref XW)))(zdz:W.plainGet K XW Str.empty=true)(zcc:W.hasDictIn K XW=true)(zd4:W.plainOver K XW=true)(zd6:W.findIn K (.ref XW) U3=some (some (.builtin q65)))(zgL:W.makesIn K XW=true)(zcd:W.keepIn K (.ref XW)=true)
  (zeU:W.findIn K (.ref XW) X7=some none)
  (zfF:W.findIn K (.ref XW) "top"=some none)
  (zfl:W.nsIn K mainGlobals V0=some (some (.ref X3)))(zib:W.plainGet K X3 Str.empty=true)(zdi:W.hasDictIn K X3=true)(zgH:W.plainOver K X3=true)(AK:W.findIn K (.ref X3) U3=some (some (.builtin q65)))(zhY:W.makesIn K X3=true)(AM:W.keepIn K (.ref X3)=true)
  (zbj:W.findIn K (.ref X3) WY=some none)
  (zea:W.nsIn K mainGlobals "Plus"=some (some (.ref Xm)))(zh7:W.plainGet K Xm Str.empty=true)(zbA:W.hasDictIn K Xm=true)(AL:W.plainOver K Xm=true)(zid:W.findIn K (.ref Xm) U3=some (some (.builtin q65)))(zfO:W.makesIn K Xm=true)(zg5:W.keepIn K (.ref Xm)=true)
  (zfi:W.findIn K (.ref Xm) Xs=some none)
  (zbC:W.findIn K (.ref Xm) "one"=some none)
  (zg6:W.nsIn K mainGlobals "Minus"=some (some (.ref Xe)))(zhU:W.plainGet K Xe Str.empty=true)(zdL:W.hasDictIn K Xe=true)(zbx:W.plainOver K Xe=true)(zd3:W.findIn K (.ref Xe) U3=some (some (.builtin q65)))(AF:W.makesIn K Xe=true)(zck:W.keepIn K (.ref Xe)=true)
  (zfG:W.findIn K (.ref Xe) Xs=some none)
  (zg7:W.findIn K (.ref Xe) "one"=some none)
  (zh5:W.nsIn K mainGlobals "Times"=some (some (.ref Xq)))(zh2:W.plainGet K Xq Str.empty=true)(zeE:W.hasDictIn K Xq=true)(zc8:W.plainOver K Xq=true)(ze5:W.findIn K (.ref Xq) U3=some (some (.builtin q65)))(zaQ:W.makesIn K Xq=true)(zhK:W.keepIn K (.ref Xq)=true)
  (zgX:W.findIn K (.ref Xq) Xs=some none)
  (zcE:W.findIn K (.ref Xq) "one"=some none)
  (zfS:W.nsIn K mainGlobals "Power"=some (some (.ref XO)))(zic:W.plainGet K XO Str.empty=true)(zhZ:W.hasDictIn K XO=true)(zeg:W.plainOver K XO=true)(zfJ:W.findIn K (.ref XO) U3=some (some (.builtin q65)))(AB:W.makesIn K XO=true)(zaf:W.keepIn K (.ref XO)=true)
  (zbv:W.findIn K (.ref XO) "many"=some none)
  (zbd:W.findIn K (.ref XO) "one"=some none)
  (a0:fnA K q98 Mh f0 m0 h0)
  (a1:fnA K q45 NA f1 m1 h1)
  (a2:fnA K Vk LG f2 m2 h2)
  (a3:fnA K q96 N5 f3 m3 h3)
  (a4:fnA K q59 LJ f4 m4 h4)
  (a5:fnA K W3 Td f5 m5 h5)
  (a6:fnA K q62 MO f6 m6 h6)
  (a7:fnA K q68 LS f7 m7 h7)
  (a8:fnA K q74 Mu f8 m8 h8)
  (a9:fnA K WO NO f9 m9 h9)
  (a10:fnA K q83 NB f10 m10 h10)
  (a11:fnA K WR Ng f11 m11 h11)
  (a12:fnA K q97 LO f12 m12 h12)
  (a13:mdA K Xu q2 Oi M4 f13 m13 h13)
  (a14:mdA K Xu Vf Oc Qw f14 m14 h14)
  (a15:fnA K XN LR f15 m15 h15)
  (a16:fnA K X5 RJ f16 m16 h16)
  (a17:fnA K Wa LF f17 m17 h17)
  (a18:mdA K Xu V6 Py SG f18 m18 h18)
  (a19:fnA K "bars" Kf f19 m19 h19)
  (a20:fnA K "less" NN f20 m20 h20)
  (a21:fnA K q28 MU f21 m21 h21)
  (a22:fnA K q88 Ny f22 m22 h22)
  (a23:mdA K XW q6 Rr N4 f23 m23 h23)
  (a24:mdA K X3 q6 Tc Kt f24 m24 h24)
  (a25:fnA K q25 Mn f25 m25 h25)
  (a26:mdA K Xm q6 Ri Mm f26 m26 h26)
  (a27:fnA K q22 Lx f27 m27 h27)
  (a28:mdA K Xe q6 Tu LU f28 m28 h28)
  (a29:fnA K q38 La f29 m29 h29)
  (a30:mdA K Xq q6 U5 Ky f30 m30 h30)
  (a31:fnA K q66 NW f31 m31 h31)
  (a32:fnA K q42 PF f32 m32 h32)
  (a33:mdA K XO q6 Tb Na f33 m33 h33)
  (a34:mdA K XO q2 Tx Mv f34 m34 h34)
  (a35:mdA K XW q2 Rc L5 f35 m35 h35)
  (a36:mdA K X3 q2 U6 MQ f36 m36 h36)
  (a37:mdA K Xm q2 q36 N8 f37 m37 h37)
  (a38:mdA K Xe q2 q36 MN f38 m38 h38)
  (a39:mdA K Xq q2 q36 M8 f39 m39 h39)
  (a40:fnA K q99 Ml f40 m40 h40)
  (a41:fnA K q33 ME f41 m41 h41)
  (a42:fnA K q81 NS f42 m42 h42)
  (a43:fnA K q67 Mb f43 m43 h43)
  (a44:fnA K WW MY f44 m44 h44)
  (a45:mdA K XW "back" Ru Ks f45 m45 h45)
  (a46:mdA K X3 "back" SR Km f46 m46 h46)
  (a47:mdA K Xm q10 Sq Lz f47 m47 h47)
  (a48:mdA K Xm q7 Rb Nq f48 m48 h48)
  (a49:mdA K Xm "back" q69 Lh f49 m49 h49)
  (a50:mdA K Xe q10 TR Nm f50 m50 h50)
  (a51:mdA K Xe q7 q89 MJ f51 m51 h51)
  (a52:mdA K Xe "back" q69 Lw f52 m52 h52)
  (a53:fnA K q34 NI f53 m53 h53)
  (a54:fnA K q26 Kw f54 m54 h54)
  (a55:fnA K q71 Mw f55 m55 h55)
  (a56:fnA K q35 Nv f56 m56 h56)
  (a57:fnA K "hull" LD f57 m57 h57)
  (a58:fnA K q93 Nw f58 m58 h58)
  (a59:fnA K q48 MP f59 m59 h59)
  (a60:fnA K q43 MK f60 m60 h60)
  (a61:mdA K Xq q10 SS M9 f61 m61 h61)
  (a62:mdA K Xq q7 q90 L1 f62 m62 h62)
  (a63:mdA K Xq "back" q69 Kk f63 m63 h63)
  (a64:fnA K q52 LY f64 m64 h64)
  (a65:fnA K q44 Ma f65 m65 h65)
  (a66:fnA K "root" OL f66 m66 h66)
  (a67:fnA K q53 Lp f67 m67 h67)
  (a68:mdA K XO "back" Tr Ly f68 m68 h68)
  (a69:fnA K q82 Kh f69 m69 h69)
  (a70:fnA K Vt LV f70 m70 h70)
  (a71:fnA K q80 Nj f71 m71 h71)
  (a72:fnA K Vr Mc f72 m72 h72)
  (a73:fnA K W9 Ke f73 m73 h73)
  (a74:fnA K Vl MV f74 m74 h74)
  (a75:fnA K WV M0 f75 m75 h75)
  (a76:mdA K Xu Va Ov KC f76 m76 h76)
  (a77:mdA K Xu VZ Ph Mg f77 m77 h77)
  (a78:mdA K Xu "part" O1 Kq f78 m78 h78)
  (a79:fnA K WB Nf f79 m79 h79)
  (a80:fnA K Vd Kn f80 m80 h80)
  (a81:fnA K "sure" NR f81 m81 h81)
  (a82:fnA K q60 PH f82 m82 h82)
  (a83:fnA K q39 Qa f83 m83 h83)
  (a84:fnA K Ws Od f84 m84 h84)
  (a85:mdA K XW q11 TF Kz f85 m85 h85)
  (a86:mdA K X3 q11 Tj R8 f86 m86 h86)
  (a87:mdA K Xm q5 q86 O6 f87 m87 h87)
  (a88:mdA K Xm q11 q57 PC f88 m88 h88)
  (a89:mdA K Xe q5 q78 Kb f89 m89 h89)
  (a90:mdA K Xe q11 q57 PB f90 m90 h90)
  (a91:mdA K Xq q5 q79 L9 f91 m91 h91)
  (a92:mdA K Xq q11 q57 Pp f92 m92 h92)
  (a93:fnA K q51 MC f93 m93 h93)
  (a94:mdA K XO q11 SN OK f94 m94 h94)
  (a95:fnA K Wv L6 f95 m95 h95)
  (a96:fnA K q95 Lq f96 m96 h96)
  (a97:fnA K q77 Kl f97 m97 h97)
  (a98:fnA K q55 Qe f98 m98 h98)
  (a99:fnA K q19 Uq f99 m99 h99)
  (a100:fnA K q14 XT f100 m100 h100)
  (a101:fnA K q27 MW f101 m101 h101)
  (a102:fnA K q41 Qm f102 m102 h102)
  (a103:fnA K q87 PJ f103 m103 h103)
  (a104:fnA K q92 N3 f104 m104 h104)
  (a105:fnA K Wl Qi f105 m105 h105)
  (a106:fnA K q29 PN f106 m106 h106)
  (a107:fnA K q32 Nr f107 m107 h107)
  (a108:fnA K W0 OG f108 m108 h108)
  (a109:fnA K W5 Uv f109 m109 h109)
  (a110:fnA K Vm RQ f110 m110 h110)
  (a111:fnA K q72 LM f111 m111 h111)
  (a112:fnA K "deep" NY f112 m112 h112)
  (a113:fnA K WT R0 f113 m113 h113)
  (a114:fnA K q40 QI f114 m114 h114)
  (a115:fnA K Vg QQ f115 m115 h115)
  (a116:fnA K q73 Ms f116 m116 h116)
  (a117:fnA K Vn ML f117 m117 h117)
  (a118:fnA K q61 Nh f118 m118 h118)
  (a119:fnA K q31 Nl f119 m119 h119)
  (a120:fnA K "look" LB f120 m120 h120)
  (a121:fnA K Vs MR f121 m121 h121)
  (a122:fnA K q63 KA f122 m122 h122)
  (a123:fnA K q84 Nu f123 m123 h123)
  (a124:fnA K q85 RV f124 m124 h124)
  (a125:fnA K "law" VI f125 m125 h125)
  (ZV:W.nsIn K mainGlobals "len"=some none)
  (Z1:W.nsIn K mainGlobals XY=some none)
  (VO:W.nsIn K mainGlobals "abs"=some none)
  (Yb:W.nsIn K mainGlobals "min"=some none)
  (Xb:W.nsIn K mainGlobals "list"=some none)
  (YB:W.nsIn K mainGlobals "zip"=some none)
  (Z2:W.nsIn K mainGlobals "max"=some none)
  (Z6:W.nsIn K mainGlobals q70=some none)
  (XC:W.nsIn K mainGlobals "all"=some none)
  (YG:W.nsIn K mainGlobals "sum"=some none)
  (OM:W.nsIn K mainGlobals "any"=some none)
  (lmc:∀base:Heap,K.In base->W.CodeHd base h18 LT)(lmk:K.lookup LT=none)
  :∃fd:FuncData,(∀(s:Shared)(v:Value),BindsTo s fd ⟨[v],[]⟩ [(q76,v)])/\∀base:Heap,K.In base->base.Ns mainGlobals mg->BM mg base->Yk l.prog w K mg base (CXE l.prog w) 17 fa fd [q76] (upF K (OP LT LP LQ)):=by
 have e:=hfa.symm.trans (W.mg_of X G a125.1);cases e
 let Zs:Wu K mg:=⟨Xu,W.mg_of X G zhD,⟨zbo,zdl,zf2,za2⟩,zdj,ze0,zaY,zaj⟩
 let Zp:Yv K mg:=⟨XW,W.mg_of X G zhm,⟨zdz,zcc,zd4,zd6⟩,zeU,zfF,zgL,zcd⟩
 let Zq:YA K mg:=⟨X3,W.mg_of X G zfl,⟨zib,zdi,zgH,AK⟩,zbj,zhY,AM⟩
 let Zi:Yh K mg:=⟨Xm,W.mg_of X G zea,⟨zh7,zbA,AL,zid⟩,zfi,zbC,zfO,zg5⟩
 let Zh:Yj K mg:=⟨Xe,W.mg_of X G zg6,⟨zhU,zdL,zbx,zd3⟩,zfG,zg7,AF,zck⟩
 let Zj:Yl K mg:=⟨Xq,W.mg_of X G zh5,⟨zh2,zeE,zc8,ze5⟩,zgX,zcE,zaQ,zhK⟩
 let Zo:Yu K mg:=⟨XO,W.mg_of X G zfS,⟨zic,zhZ,zeg,zfJ⟩,zbv,zbd,AB,zaf⟩
 let Jk:Df K mg q98 Mh Q1:=dfo X G a0
 let JP:Df K mg q45 NA UQ:=dfo X G a1
 let F3:Df K mg Vk LG Pm:=dfo X G a2
 let F7:Df K mg q96 N5 OV:=dfo X G a3
 let J0:Df K mg q59 LJ Se:=dfo X G a4
 let Iz:Df K mg W3 Td Oo:=dfo X G a5
 let FH:Df K mg q62 MO Q2:=dfo X G a6
 let JB:Df K mg q68 LS TV:=dfo X G a7
 let Io:Df K mg q74 Mu Pw:=dfo X G a8
 let HN:Df K mg WO NO Oa:=dfo X G a9
 let IL:Df K mg q83 NB OU:=dfo X G a10
 let JN:Df K mg WR Ng OQ:=dfo X G a11
 let Fq:Df K mg q97 LO OZ:=dfo X G a12
 let Ga:Dm K Zs.C q2 Oi M4 RR:=dmo a13
 let Ik:Dm K Zs.C Vf Oc Qw QC:=dmo a14
 let Jz:Df K mg XN LR R6:=dfo X G a15
 let Ee:Df K mg X5 RJ UP:=dfo X G a16
 let Ef:Df K mg Wa LF UJ:=dfo X G a17
 let Ra:Dm K Zs.C V6 Py SG RA:=dmo a18
 let Hz:Df K mg "bars" Kf Rt:=dfo X G a19
 let Gq:Df K mg "less" NN Ot:=dfo X G a20
 let FX:Df K mg q28 MU Ub:=dfo X G a21
 let GR:Df K mg q88 Ny RX:=dfo X G a22
 let IF:Dm K Zp.C q6 Rr N4 Q6:=dmo a23
 let Ea:Dm K Zq.C q6 Tc Kt Rz:=dmo a24
 let KZ:Df K mg q25 Mn Vu:=dfo X G a25
 let Ho:Dm K Zi.C q6 Ri Mm Og:=dmo a26
 let Fo:Df K mg q22 Lx Wt:=dfo X G a27
 let Fs:Dm K Zh.C q6 Tu LU Pk:=dmo a28
 let Jw:Df K mg q38 La Uk:=dfo X G a29
 let G4:Dm K Zj.C q6 U5 Ky Oy:=dmo a30
 let Hn:Df K mg q66 NW VP:=dfo X G a31
 let Jv:Df K mg q42 PF Tt:=dfo X G a32
 let Jh:Dm K Zo.C q6 Tb Na Ol:=dmo a33
 let GF:Dm K Zo.C q2 Tx Mv Qy:=dmo a34
 let Gs:Dm K Zp.C q2 Rc L5 OX:=dmo a35
 let Ge:Dm K Zq.C q2 U6 MQ PZ:=dmo a36
 let JZ:Dm K Zi.C q2 q36 N8 QZ:=dmo a37
 let KS:Dm K Zh.C q2 q36 MN QH:=dmo a38
 let FF:Dm K Zj.C q2 q36 M8 OF:=dmo a39
 let Hk:Df K mg q99 Ml Um:=dfo X G a40
 let Fc:Df K mg q33 ME X1:=dfo X G a41
 let Ih:Df K mg q81 NS SD:=dfo X G a42
 let GH:Df K mg q67 Mb VF:=dfo X G a43
 let Ei:Df K mg WW MY Pq:=dfo X G a44
 let JG:Dm K Zp.C "back" Ru Ks PX:=dmo a45
 let HM:Dm K Zq.C "back" SR Km Qp:=dmo a46
 let FV:Dm K Zi.C q10 Sq Lz R7:=dmo a47
 let GJ:Dm K Zi.C q7 Rb Nq QK:=dmo a48
 let KU:Dm K Zi.C "back" q69 Lh RN:=dmo a49
 let Fx:Dm K Zh.C q10 TR Nm P6:=dmo a50
 let Hj:Dm K Zh.C q7 q89 MJ PM:=dmo a51
 let Ii:Dm K Zh.C "back" q69 Lw RG:=dmo a52
 let Gi:Df K mg q34 NI Ou:=dfo X G a53
 let JL:Df K mg q26 Kw Te:=dfo X G a54
 let Jx:Df K mg q71 Mw Pu:=dfo X G a55
 let KH:Df K mg q35 Nv QV:=dfo X G a56
 let J7:Df K mg "hull" LD Ql:=dfo X G a57
 let NM:Df K mg q93 Nw SW:=dfo X G a58
 let He:Df K mg q48 MP V1:=dfo X G a59
 let HD:Df K mg q43 MK Sk:=dfo X G a60
 let IP:Dm K Zj.C q10 SS M9 QG:=dmo a61
 let FI:Dm K Zj.C q7 q90 L1 Qk:=dmo a62
 let Jo:Dm K Zj.C "back" q69 Kk QN:=dmo a63
 let Fw:Df K mg q52 LY RL:=dfo X G a64
 let FE:Df K mg q44 Ma TN:=dfo X G a65
 let VQ:Df K mg "root" OL VM:=dfo X G a66
 let G2:Df K mg q53 Lp OR:=dfo X G a67
 let K4:Dm K Zo.C "back" Tr Ly PV:=dmo a68
 let K9:Df K mg q82 Kh P7:=dfo X G a69
 let FN:Df K mg Vt LV PR:=dfo X G a70
 let JV:Df K mg q80 Nj Sx:=dfo X G a71
 let Es:Df K mg Vr Mc Q8:=dfo X G a72
 let GP:Df K mg W9 Ke P8:=dfo X G a73
 let KN:Df K mg Vl MV Pb:=dfo X G a74
 let Ia:Df K mg WV M0 QE:=dfo X G a75
 let Gn:Dm K Zs.C Va Ov KC UT:=dmo a76
 let F9:Dm K Zs.C VZ Ph Mg Qu:=dmo a77
 let IM:Dm K Zs.C "part" O1 Kq SM:=dmo a78
 let HK:Df K mg WB Nf SQ:=dfo X G a79
 let Js:Df K mg Vd Kn QL:=dfo X G a80
 let Gz:Df K mg "sure" NR TB:=dfo X G a81
 let IA:Df K mg q60 PH QA:=dfo X G a82
 let Jp:Df K mg q39 Qa R5:=dfo X G a83
 let KP:Df K mg Ws Od So:=dfo X G a84
 let GB:Dm K Zp.C q11 TF Kz Om:=dmo a85
 let Ju:Dm K Zq.C q11 Tj R8 Oq:=dmo a86
 let Gf:Dm K Zi.C q5 q86 O6 Pt:=dmo a87
 let Fj:Dm K Zi.C q11 q57 PC RC:=dmo a88
 let Gm:Dm K Zh.C q5 q78 Kb Pf:=dmo a89
 let Fv:Dm K Zh.C q11 q57 PB QT:=dmo a90
 let Iq:Dm K Zj.C q5 q79 L9 Qn:=dmo a91
 let Hl:Dm K Zj.C q11 q57 Pp Qf:=dmo a92
 let JR:Df K mg q51 MC PL:=dfo X G a93
 let HV:Dm K Zo.C q11 SN OK O4:=dmo a94
 let Hy:Df K mg Wv L6 Si:=dfo X G a95
 let Iv:Df K mg q95 Lq QM:=dfo X G a96
 let G9:Df K mg q77 Kl Ud:=dfo X G a97
 let FP:Df K mg q55 Qe V7:=dfo X G a98
 let Y6:Df K mg q19 Uq Xp:=dfo X G a99
 let YM:Df K mg q14 XT Y8:=dfo X G a100
 let Ff:Df K mg q27 MW Oh:=dfo X G a101
 let Fd:Df K mg q41 Qm RS:=dfo X G a102
 let Fb:Df K mg q87 PJ QY:=dfo X G a103
 let J9:Df K mg q92 N3 Sf:=dfo X G a104
 let Ij:Df K mg Wl Qi S7:=dfo X G a105
 let Ed:Df K mg q29 PN UZ:=dfo X G a106
 let Eh:Df K mg q32 Nr Ti:=dfo X G a107
 let JU:Df K mg W0 OG PQ:=dfo X G a108
 let HF:Df K mg W5 Uv Qo:=dfo X G a109
 let Ig:Df K mg Vm RQ Rx:=dfo X G a110
 let HG:Df K mg q72 LM QF:=dfo X G a111
 let FO:Df K mg "deep" NY Ox:=dfo X G a112
 let KQ:Df K mg WT R0 RK:=dfo X G a113
 let HQ:Df K mg q40 QI OI:=dfo X G a114
 let ID:Df K mg Vg QQ QO:=dfo X G a115
 let GA:Df K mg q73 Ms Ry:=dfo X G a116
 let Et:Df K mg Vn ML PY:=dfo X G a117
 let GK:Df K mg q61 Nh OO:=dfo X G a118
 let Hr:Df K mg q31 Nl R9:=dfo X G a119
 let Fp:Df K mg "look" LB Of:=dfo X G a120
 let Gk:Df K mg Vs MR RE:=dfo X G a121
 let G8:Df K mg q63 KA RO:=dfo X G a122
 let KR:Df K mg q84 Nu OY:=dfo X G a123
 let Fl:Df K mg q85 RV Q4:=dfo X G a124
 let Lo:Df K mg "law" VI Mo:=dfo X G a125
 have ZV:=W.mg_none_of X G ZV
 have Z1:=W.mg_none_of X G Z1
 have VO:=W.mg_none_of X G VO
 have Yb:=W.mg_none_of X G Yb
 have Xb:=W.mg_none_of X G Xb
 have YB:=W.mg_none_of X G YB
 have Z2:=W.mg_none_of X G Z2
 have Z6:=W.mg_none_of X G Z6
 have XC:=W.mg_none_of X G XC
 have YG:=W.mg_none_of X G YG
 have OM:=W.mg_none_of X G OM;refine⟨W.fnOf "law" "law" (VU VI) (Xy VI) (Zm VI) .none .none .none m125 none (.ref h125) .none,λs v=>.of_eq rfl,λbase kin _ hbm=>?_⟩;have LM_Book_to_look_at:Lm K mg base Ra.fd LT:=⟨h18,rfl,lmc base kin,hbm,λo e=>by rw[lmk] at e;cases e⟩
 letI e:Ev5:=⟨l.prog,w,K,mg,base⟩
 let FW:=zem Jk
 let YU:=zhT JP ZV
 let Hi:=zf3 F3 YU Z1
 let Hx:=zfM F7
 let Rq:=zel J0
 let FZ:=zbB Iz Rq Hx ZV Z1
 let Fu:=zga FH VO
 let Vz:=zbH JB Z1
 let GG:=zgA Io Vz
 let Kp:=zff HN
 let Er:=ze7 IL Rq
 let Hu:=zfr JN Kp Er Fu GG VO ZV Yb
 let FJ:=zhS Fq Hu YU Z1
 let Ta:=zc1 Zs Ga Xb
 let RY:=zg2 Zs Ik YB
 let K8:=zfB Jz
 let Vc:=zcY Ee K8
 let VT:=zdw Ef Vc Z2
 let Pl:=zey Zs Ra LM_Book_to_look_at VT Z2 Z6
 let TL:=zeX Hz
 let Jt:=AN Gq
 let Wh:=zcb FX
 let Jn:=zf1 GR Wh Jt
 let Jq:=zdM Zp Zq Zi Zh Zj Zo IF Jn
 let Jm:=zd5 Zq Zp Zi Zh Zj Zo Ea
 let Y0:=zdg KZ
 let Gw:=zb7 Zi Zp Zq Zh Zj Zo Ho Y0
 let YC:=zh4 Fo
 let J5:=za5 Zh Zp Zq Zi Zj Zo Fs YC
 let XU:=zgR Jw Wh Z2 Yb
 let IE:=zhP Zj Zp Zq Zi Zh Zo G4 XU
 let Xd:=zgi Hn Z1
 let TM:=zfW Jv Wh Xd Z2 Yb
 let Gj:=zed Zo Zp Zq Zi Zh Zj Jh TM
 let SU:=zgv Zo GF
 let U8:=zh8 Zp Gs
 let SJ:=zdm Zq Ge
 let SX:=zbt Zi JZ
 let Tq:=ze3 Zh KS
 let U9:=za3 Zj FF
 let VS:=zfH Zo Zj Zh Zi Zq Zp Hk SU U9 Tq SX SJ U8
 let Yw:=zag Zo Zj Zh Zi Zq Zp Fc Gj IE J5 Gw Jm Jq VS
 let Su:=zhh Ih TL Yw
 let Xn:=zeA GH Yb Z2
 let GL:=zdq Ei Xn Z2
 let HU:=zap Zp Zq Zi Zh Zj Zo JG
 let GW:=zdk Zp Zq Zi Zh Zj Zo HM
 let Qz:=zc5 Zi FV Xn YC
 let PK:=zfn Zi GJ Xn YC
 let JJ:=zfY Zi Zp Zq Zh Zj Zo KU PK Qz
 let Qt:=zah Zh Fx Xn Y0
 let O2:=zee Zh Hj Xn YC
 let JM:=zek Zh Zp Zq Zi Zj Zo Ii O2 Qt
 let Ki:=zg4 Gi
 let V3:=zdX JL Yb Z2
 let L4:=zdf Jx Wh
 let Ni:=zgJ KH V3 L4
 let G1:=zfd J7 Z2 Yb
 let SO:=zdo NM G1
 let XZ:=zfs He
 let Th:=zfp HD SO Ni XZ Ki Z2
 let OH:=zdx Zj IP Th
 let OB:=zg8 Zj FI Th
 let G5:=zgr Zj Zp Zq Zi Zh Zo Jo OB OH
 let LL:=zfV Fw Xd
 let SY:=zdO FE LL
 let N_root:=Df.never (P:=l.prog) (w:=w) (base:=base) 0 VQ
 let A3:=zce VQ Xd SY XZ N_root
 let T6:=zb1 VQ Xd SY XZ A3
 let HH:=zdu G2 SO V3 XZ T6 Xd Z2
 let FC:=zcf Zo Zp Zq Zi Zh Zj K4 HH
 let Hd:=A0 Zo Zj Zh Zi Zq Zp K9 FC G5 JM JJ GW HU VS GL Yw Z1
 let HS:=zdA FN Hd Z6 Xb
 let Ux:=zdt JV
 let Ie:=zba Es
 let GI:=zgk GP Su Ux Ie
 let F0:=zhv KN
 let GU:=zaW Ia GI F0 HS Su Z6 Xb
 let Y1:=zb9 Zs Gn
 let V2:=zam Zs F9 ZV
 let WN:=zbI Zs IM Y1 V2 Ux
 let Uy:=zf8 HK Yw
 let Ir:=zhy Zs Js Y1 Uy WN GU Z6
 let SK:=zif Gz
 let KY:=zbn IA SK TL Uy XC Z6
 let KI:=zgD Jp
 let TZ:=A8 KP
 let Gp:=AA Zp Zq Zi Zh Zj Zo GB
 let JI:=zaB Zq Zp Zi Zh Zj Zo Ju Z1
 let Qh:=zcD Zi Gf Y0
 let FD:=ziq Zi Zp Zq Zh Zj Zo Fj Qh YB
 let QX:=zcW Zh Gm YC
 let KG:=zeY Zh Zp Zq Zi Zj Zo Fv QX YB
 let RW:=zcA Zj Iq Y0 XU
 let GV:=zeI Zj Zp Zq Zi Zh Zo Hl RW YB
 let HA:=zb3 JR Z2 Yb
 let G7:=AX Zo Zp Zq Zi Zh Zj HV XU HA TM
 let SA:=zgu Zo Zj Zh Zi Zq Zp Hy G7 GV KG FD JI Gp VS Yw ZV
 let Eb:=zaK Iv TZ SA
 let X2:=zab G9
 let Wd:=zc0 FP
 let zcU:=zie YM (Df.never (P:=l.prog) (w:=w) (base:=base) 0 Y6) YG Z6 ZV
 let zgO:=zgE Y6 X2 zcU Wd
 let zgM:=zgo YM zgO YG Z6 ZV
 let zd2:=zha Y6 X2 zgM Wd
 let zd7:=A5 YM zd2 YG Z6 ZV
 let zgg:=zhd Y6 X2 zd7 Wd
 let zdc:=zhe YM zgg YG Z6 ZV
 let XF:=zdE Y6 X2 zdc Wd
 let Wo:=zav YM XF YG Z6 ZV
 let Jf:=zgs Ff XF
 let HW:=zep Fd Jf Z1 ZV
 let F2:=zcC Fb HW Wo Z1 ZV
 let TH:=zdK J9
 let Tf:=zac Ij TH
 let Vw:=zhl Ed Tf
 let Up:=zbl Eh Y0 XU YB
 let Hh:=zbW JU YC Up
 let Gd:=zau HF Y0 Up YC Hh Vw YB Z1 ZV
 let FG:=zbJ Ig Gd Z6
 let JH:=zeJ HG TZ Yw Vw
 let Hq:=zfv FO
 let GD:=zeK KQ Hq XC YB
 let Ej:=zbF HQ SK XC
 let Fi:=zeL ID GD FG JH F2 Tf Eb Ej Yw KI ZV
 let Ht:=zal GA SA Yw Vw Fi
 let J4:=zd1 Et VT Ht KY Yw
 let G3:=zho GK Vc YG
 let Gg:=za9 Zs Hr WN TH Vc VT
 let Jj:=zf5 Zs Fp Y1 G3 Gg J4 Ir
 let JW:=zgn Zs Gk RY Jj Pl Ta Z1
 let Pj:=zbD G8 Z2 Yb
 let Fz:=zh3 KR Pj Vz
 let F1:=zgc Fl Fz OM
 let G_law:=ze4 Lo F1 JW YU FJ FZ Hi FW XC ZV Xb Z1 Yb
 exact G_law.ok
end Mine
open PySem PySem.W PyProof.Rows
set_option maxRecDepth 100003 in
set_option maxHeartbeats 0 in
theorem PySem.Challenge.cw_boxnarrow_k55_small_is_small_holds : PySem.Challenge.rw_boxnarrow_k55_small_is_small.Holds := by
 w_on;refine PySem.W.holds_law Mine.ws_eq λsaid=>?_
 refine PySem.W.holds_open (q:=Mine.vw) (loose:=[]) (Xt:=Mine.xt) (XP:=XL Mine.vw []) (Yf:=Hook.obs (kHook Mine.kp Mine.ks Mine.Uj)) (Ya:=Hook.val (kHook Mine.kp Mine.ks Mine.Uj))
  (YP:=Hook.says (kHook Mine.kp Mine.ks Mine.Uj)) (N:=8737) Mine.left (Hook.of (kHook Mine.kp Mine.ks Mine.Uj)) (Hook.keeps (kHook Mine.kp Mine.ks Mine.Uj)) (λs e=>xl_of s (Bool.and_eq_true_iff.mp e).1) XL.keeps
  (by rfl) (by rfl) (by rfl) (λs e=>recFacts_of (Bool.and_eq_true_iff.mp e).2) (by rfl) (by first|assumption|decide +kernel)
  (by decide +kernel) ⟨rfl,rfl,rfl,rfl,rfl,by decide +kernel⟩ ?hw ?hc
 (case hw=>w_witness2)
 refine L3.za8 (l:=PySem.Challenge.rw_boxnarrow_k55_small_is_small) (x:="_law_script") (K:=Mine.kq) (P:=Mine.LT) (c:=nat_lit 803) (ps:=#[]) (lp:=Mine.LP) (lq:=Mine.LQ) 17 rfl rfl ⟨rfl,by decide,by decide⟩ (λw h Y=>⟨Mine.in_kq Y,Mine.zch Y⟩) Mine.An Mine.J3 trivial rfl ?F
 case F=>
  k_fill
  intro w mg fa h KX G hmg;apply Mine.zhG KX G hmg (lmc:=Mine.An _) (lmk:=Mine.J3 _)
  all_goals (try delta Mine.fnA Mine.mdA)
  all_goals (try refine⟨?_,?_,?_⟩)
  all_goals first|k_is
