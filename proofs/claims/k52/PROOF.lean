import PyProof.Rows.All
import Wide.All
import OpenK.AllK
import Wide.FinOn
import Lean
import PyProof.EqAt
import PyProof.EqKinds
import PyProof.TupleCall
import KE.KLam
import KE.KMinKey
import PySem.Challenge.RW_boxnarrow_k52_thrown_are_barred
theorem zA:type_of% @List.length_map:=@List.length_map
theorem zB:type_of% @List.getElem?_eq_some_iff:=@List.getElem?_eq_some_iff
theorem zC:type_of% @Nat.le_refl:=@Nat.le_refl
theorem zD:type_of% @List.getElem?_eq_getElem:=@List.getElem?_eq_getElem
theorem zE:type_of% @List.mem_of_getElem?:=@List.mem_of_getElem?
theorem zF:type_of% @List.getElem?_map:=@List.getElem?_map
theorem zG:type_of% @List.length_take:=@List.length_take
theorem zH:type_of% @List.size_toArray:=@List.size_toArray
theorem zI:type_of% @List.getElem?_append_left:=@List.getElem?_append_left
theorem zJ:type_of% @Bool.false_ne_true:=@Bool.false_ne_true
theorem zK:type_of% @Int.toNat_natCast:=@Int.toNat_natCast
theorem zL:type_of% @Option.map_eq_some_iff:=@Option.map_eq_some_iff
theorem zM:type_of% @Nat.ne_of_lt:=@Nat.ne_of_lt
theorem zN:type_of% @List.mem_map:=@List.mem_map
theorem zO:type_of% @List.mem_cons:=@List.mem_cons
theorem zP:type_of% @Nat.zero_le:=@Nat.zero_le
theorem zQ:type_of% @List.length_append:=@List.length_append
theorem zR:type_of% @Nat.lt_of_lt_of_le:=@Nat.lt_of_lt_of_le
theorem zS:type_of% @Int.le_refl:=@Int.le_refl
theorem zT:type_of% @List.mem_singleton:=@List.mem_singleton
theorem zU:type_of% @List.length_cons:=@List.length_cons
theorem zV:type_of% @List.lookup_cons:=@List.lookup_cons
theorem zW:type_of% @List.getElem?_set_ne:=@List.getElem?_set_ne
theorem zX:type_of% @List.getD_eq_getElem?_getD:=@List.getD_eq_getElem?_getD
theorem zY:type_of% @List.mem_append:=@List.mem_append
theorem zZ:type_of% @List.map_append:=@List.map_append
theorem yA:type_of% @List.map_map:=@List.map_map
theorem yB:type_of% @List.getElem?_append_right:=@List.getElem?_append_right
theorem yC:type_of% @List.length_set:=@List.length_set
theorem yD:type_of% @Nat.le_trans:=@Nat.le_trans
theorem yE:type_of% @Nat.pow_pos:=@Nat.pow_pos
theorem yF:type_of% @Int.pow_pos:=@Int.pow_pos
theorem yG:type_of% @List.take_length:=@List.take_length
theorem yH:type_of% @List.mem_cons_of_mem:=@List.mem_cons_of_mem
theorem yI:type_of% @List.getElem?_set_self:=@List.getElem?_set_self
theorem yJ:type_of% @List.map_cons:=@List.map_cons
theorem yK:type_of% @Nat.lt_irrefl:=@Nat.lt_irrefl
theorem yL:type_of% @List.mem_iff_getElem:=@List.mem_iff_getElem
theorem yM:type_of% @Nat.le_of_lt:=@Nat.le_of_lt
theorem yN:type_of% @List.mem_append_right:=@List.mem_append_right
theorem yO:type_of% @Option.isSome_iff_exists:=@Option.isSome_iff_exists
theorem yP:type_of% @List.getElem?_eq_none_iff:=@List.getElem?_eq_none_iff
theorem yQ:type_of% @List.take_of_length_le:=@List.take_of_length_le
theorem yR:type_of% @List.mem_cons_self:=@List.mem_cons_self
theorem yS:type_of% @List.append_assoc:=@List.append_assoc
theorem yT:type_of% @List.not_mem_nil:=@List.not_mem_nil
theorem yU:type_of% @Nat.ne_of_gt:=@Nat.ne_of_gt
theorem yV:type_of% @List.replicate_succ:=@List.replicate_succ
theorem yW:type_of% @List.getElem_mem:=@List.getElem_mem
theorem yX:type_of% @List.length_nil:=@List.length_nil
theorem yY:type_of% @Bool.eq_iff_iff:=@Bool.eq_iff_iff
theorem yZ:type_of% @List.append_nil:=@List.append_nil
theorem xA:type_of% @List.nodup_cons:=@List.nodup_cons
theorem xB:type_of% @List.flatten_cons:=@List.flatten_cons
theorem xC:type_of% @Int.neg_mul:=@Int.neg_mul
theorem xD:type_of% @Int.pow_succ:=@Int.pow_succ
theorem xE:type_of% @List.map_take:=@List.map_take
theorem xF:type_of% @List.getElem?_eq_none:=@List.getElem?_eq_none
set_option Elab.async false
set_option linter.all false
set_option maxRecDepth 100000
set_option genSizeOf false
set_option genInjectivity false
set_option maxHeartbeats 40000000
abbrev LI:=List (Int×Int)
abbrev LA:=List (PySem.Addr×PySem.Obj)
abbrev QW:=PySem.Challenge.pw_boxnarrow_k52_thrown_are_barred
abbrev Fg:=PySem.W.Frag
namespace L2
open PySem PySem.Spec PyProof.Rows
def Zq (s:Stmt)(j:Nat):Stmt:=match s with
 | .ClassDef _ _ _ body _ _ _ _ _ _ _=>body.getD j (.Pass ⟨0,0,0,0⟩)
 | _=>.Pass ⟨0,0,0,0⟩
def Vw (s:Stmt):Arguments:=match s with
 | .FunctionDef _ a _ _ _ _ _ _ _ _=>a
 | _=>{ posonlyargs:=[],args:=[],vararg:=none,kwonlyargs:=[],kw_defaults:=[],kwarg:=none,defaults:=[] }
def Xa (s:Stmt):List Stmt:=match s with
 | .FunctionDef _ _ b _ _ _ _ _ _ _=>b
 | _=>[]
def Zj (s:Stmt):Scope:=match s with
 | .FunctionDef _ _ _ _ _ _ sc _ _ _=>sc
 | _=>{ kind:=.function,names:=[],isGenerator:=false,isCoroutine:=false }
end L2
namespace L3
open PySem PySem.W PyProof.Rows PySem.Calls
theorem JI {α β γ δ:Type}{f:α->Option β}{A:β->γ}{B:β->δ}{a:γ}{b:δ}(h1:(λx=>(f x).map A)=λ_=>some a)(h2:(λx=>(f x).map B)=λ_=>some b):(λx=>(f x).map λs=>(A s,B s))=λ_=>some (a,b):=by
 funext x;have e1:=congrFun h1 x
 have e2:=congrFun h2 x;cases h:f x with
 | none=>rw[h] at e1;cases e1
 | some s=>
  rw[h] at e1 e2;exact congrArg some (Prod.ext (Option.some.inj e1) (Option.some.inj e2))
def goT (tb:String->Option Builtin)(p:Program)(w:World)(n₀:Nat)(ann:Option Value):Nat->SharedT->Thread->Option SharedT
 | 0,_,_=>none
 | k+1,s,t=>bif through t then some s else bif stepOk n₀ ann t then (stepT (denote tb) p w s t).bind (λr=>goT tb p w n₀ ann k r.1 r.2) else none
theorem BY:∀ {n:Nat} {s s':SharedT} {t:Thread},goT tb p w n₀ ann n s t=some s'->topRun tb p w n₀ ann n s.abs t=some s'.abs
 | 0,_,_,_,q=>nomatch q
 | n+1,s,s',t,q=>by
  unfold goT at q;unfold topRun;cases c1:through t
  .rw[c1] at q;cases c2:stepOk n₀ ann t
   .rw[c2] at q;exact nomatch q
   .rw[c2] at q;obtain⟨⟨s2,t2⟩,c3,q⟩:=Option.bind_eq_some_iff.mp q;rw[stepT_spec c3];exact BY q
  .rw[c1] at q;cases q;rfl
def Ih (os:Array Obj):Nat->Nat->Nat->BT
 | 0,_,_=>.nil
 | f+1,a,b=>match os[b]? with
  | some o=>.node o (Ih os f (2*a) (a+b)) (Ih os f (2*a) (2*a+b))
  | none=>.nil
noncomputable def bootT (P:Params):BT:=Ih (boot_heap P).objs 6 1 0
noncomputable abbrev Rr (w:World)(os:OsState):SharedT:=⟨bootT w.params,11,(boot_heap w.params).life,Array.mk [],boot_drawn,boot_toks,os⟩
def Ke (s:SharedT)(a:Addr):Option Obj:=if a<s.n then (match s.tree.get a with|some o=>alive o|none=>s.abs.heap.get? a) else none
theorem zay (s:SharedT)(a:Addr):s.abs.heap.get? a=Ke s a:=by
 unfold Ke;split
 .rename_i h;cases e:s.tree.get a with
  | none=>rfl
  | some o=>exact abs_get h e
 .rename_i h;exact abs_get_none h
theorem zg4 (l:List Addr)(s:SharedT):l.map s.abs.heap.get?=l.map (Ke s):=List.map_congr_left λa _=>zay s a
noncomputable abbrev seenT (p q:Program)(aG:List Str)(Xt:Shared->Bool){α:Type}(YT:SharedT->α)(g0:Bool)(w:World)(s:SharedT):=
 ((staticsOk (importedModules p.main.body) (boot_heap w.params) s.abs.heap&&namesBound p s.abs.heap&&gensDone s.abs&&laidKept (boot_heap w.params) s.abs.heap),openSeen q aG (importedModules p.main.body) Xt g0 s.abs,YT s)
noncomputable abbrev GY (p:Program)(w:World)(s:SharedT):Bool:=staticsOk (importedModules p.main.body) (boot_heap w.params) s.abs.heap&&namesBound p s.abs.heap&&gensDone s.abs&&laidKept (boot_heap w.params) s.abs.heap
def goK (tb:String->Option Builtin)(p:Program)(w:World)(n₀:Nat)(ann:Option Value):Nat->SharedT->Thread->Option (SharedT×Thread)
 | 0,s,t=>some (s,t)
 | k+1,s,t=>bif through t then none else bif stepOk n₀ ann t then (stepT (denote tb) p w s t).bind (λr=>goK tb p w n₀ ann k r.1 r.2) else none
theorem Ci:∀ {n:Nat} {s s':SharedT} {t t':Thread},goK tb p w n₀ ann n s t=some (s',t')->topGo tb p w n₀ ann n s.abs t=some (s'.abs,t')
 | 0,_,_,_,_,q=>by cases q;rfl
 | n+1,s,s',t,t',q=>by
  unfold goK at q;unfold topGo;cases c1:through t
  .rw[c1] at q;cases c2:stepOk n₀ ann t
   .rw[c2] at q;exact nomatch q
   .rw[c2] at q;obtain⟨⟨s2,t2⟩,c3,q⟩:=Option.bind_eq_some_iff.mp q;rw[stepT_spec c3];exact Ci q
  .rw[c1] at q;exact nomatch q
theorem AL {p:Program}{w:World}{os:OsState}{ann:Option Value}{env:Env}{c:Code}{posa posb q:Pos}{n0 nb N2 N:Nat}{Sa Sb s':SharedT}(hc:c=Code.body (behindTheImports p) env)
  (pre:goK treeTable p w 11 ann n0 (Rr w os) (topStub p)=some (Sa,⟨denote treeTable c,c,posa,[topFrame q]⟩))
  (block:segRunT treeTable p w 11 ann 1 nb Sa (blockOf (behindTheImports p) env c posa [topFrame q])=some (.next,Sb,c,posb))
  (e:n0+(nb+N2)=N)(r:topRun treeTable p w 11 ann N2 Sb.abs (restOf (behindTheImports p) env c posb [topFrame q])=some s'.abs):topRun treeTable p w 11 ann N (Rr w os).abs (topStub p)=some s'.abs:=by
 subst e hc;exact go_top (Ci pre) (piece_block (segRun_of block) r)
theorem zf6 {p:Program}{w:World}{ann:Option Value}{env:Env}{c:Code}{pos1 aK q:Pos}{l:List Stmt}{n1 N2 m:Nat}{S1 S2 s':SharedT}
  (p1:segRunT treeTable p w 11 ann 1 n1 S1 (piecesOf (l.take m) env c pos1 [topFrame q])=some (.next,S2,c,aK))
  (r:topRun treeTable p w 11 ann N2 S2.abs (restOf (l.drop m) env c aK [topFrame q])=some s'.abs):topRun treeTable p w 11 ann (n1+N2) S1.abs (restOf l env c pos1 [topFrame q])=some s'.abs:=by
 have z:=piece_app (segRun_of p1) r;rw[List.take_append_drop] at z;exact z
theorem zhb {p q:Program}{aG:List Str}{Xt:Shared->Bool}{α:Type}{Yf:Shared->α}{YT:SharedT->α}{Ya:World->α}{N:Nat}{g0:Bool}{ann:Option Value}{go:World->OsState->Option SharedT}(hY:∀s:SharedT,Yf s.abs=YT s)(e:opening p=plainProg p.main.scope.names)(hN:Nat.ble 600 N=true)(f:∀s,fenceModules? p s=some s)
  (size:∀w:World,((boot_heap w.params).isNs mainGlobals&&(Array.mk []:Array GenState).size==0,(boot_heap w.params).objs.size,(boot_heap w.params).nsMap mainGlobals "__annotations__")=(true,11,ann))
  (hgo:∀w os s',go w os=some s'->topRun treeTable p w 11 ann N (Rr w os).abs (topStub p)=some s'.abs)
  (run:∀w:World,(λos=>(go w os).map λs=>seenT p q aG Xt YT g0 w s)=λ_=>some (true,openGood q aG,Ya w)):LeftO p q aG Xt Yf Ya N g0:=λw=>by
 obtain⟨⟨h,gs,d,k,os⟩,e1,e'⟩:=zL.mp (boot_open e hN f w);obtain⟨rfl,rfl,rfl,rfl⟩:h=boot_heap w.params/\gs=Array.mk []/\d=boot_drawn/\k=boot_toks:=by simpa using e'
 obtain⟨y1,y2,y3⟩:_/\_/\_:=by simpa only [Prod.mk.injEq] using size w
 obtain⟨s',r1,r2⟩:=zL.mp (congrFun (run w) os);obtain⟨l1,l2,l3⟩:_/\_/\_:=by simpa only [Prod.mk.injEq] using r2
 have r:topRun treeTable p w 11 ann N ⟨boot_heap w.params,Array.mk [],boot_drawn,boot_toks,os⟩ (topStub p)=some s'.abs:=hgo w os s' r1
 have t:topFrom treeTable p w N ⟨boot_heap w.params,Array.mk [],boot_drawn,boot_toks,os⟩=some s'.abs:=by
  unfold topFrom;dsimp only;rw[y1,y2,y3,r];show (match staticsOk (importedModules p.main.body) (boot_heap w.params) s'.abs.heap&&namesBound p s'.abs.heap&&gensDone s'.abs&&laidKept (boot_heap w.params) s'.abs.heap with|true=>_|false=>_)=_;rw[l1]
 unfold openEnds;rw[e1];show Option.map _ (topFrom treeTable p w N _)=_;rw[t];exact congrArg some (Prod.ext l2 ((hY s').trans l3))
theorem zdm {p q:Program}{aG:List Str}{Xt:Shared->Bool}{α:Type}{Yf:Shared->α}{YT:SharedT->α}{Ya:World->α}{N:Nat}{g0:Bool}{ann:Option Value}{go:World->OsState->Option SharedT}(hY:∀s:SharedT,Yf s.abs=YT s)(e:opening p=plainProg p.main.scope.names)(hN:Nat.ble 600 N=true)(f:∀s,fenceModules? p s=some s)
  (size:∀w:World,((boot_heap w.params).isNs mainGlobals&&(Array.mk []:Array GenState).size==0,(boot_heap w.params).objs.size,(boot_heap w.params).nsMap mainGlobals "__annotations__")=(true,11,ann))
  (hgo:∀w os s',go w os=some s'->topRun treeTable p w 11 ann N (Rr w os).abs (topStub p)=some s'.abs)
  (ra:∀w:World,(λos=>(go w os).map λs=>(GY p w s,(openSeen q aG (importedModules p.main.body) Xt g0 s.abs).1))=λ_=>some (true,(openGood q aG).1))
  (rb:∀w:World,(λos=>(go w os).map λs=>((openSeen q aG (importedModules p.main.body) Xt g0 s.abs).2.1,(openSeen q aG (importedModules p.main.body) Xt g0 s.abs).2.2.1))=λ_=>some ((openGood q aG).2.1,(openGood q aG).2.2.1))
  (rc:∀w:World,(λos=>(go w os).map λs=>(openSeen q aG (importedModules p.main.body) Xt g0 s.abs).2.2.2)=λ_=>some (openGood q aG).2.2.2)
  (objs:∀w:World,(λos=>(go w os).map YT)=λ_=>some (Ya w)):LeftO p q aG Xt Yf Ya N g0:=by
 refine zhb hY e hN f size hgo λw=>funext λos=>?_
 obtain⟨s1,a1,b1⟩:=zL.mp (congrFun (ra w) os);obtain⟨s2,a2,b2⟩:=zL.mp (congrFun (rb w) os);obtain⟨s3,a3,b3⟩:=zL.mp (congrFun (rc w) os);obtain⟨s4,a4,b4⟩:=zL.mp (congrFun (objs w) os);rw[a1] at a2 a3 a4;cases a2;cases a3;cases a4;obtain⟨l1,l2⟩:=Prod.mk.inj b1;obtain⟨l3,l4⟩:=Prod.mk.inj b2;have l5:openSeen q aG (importedModules p.main.body) Xt g0 s1.abs=openGood q aG:=Prod.ext l2 (Prod.ext l3 (Prod.ext l4 b3));rw[a1];show some (GY p w s1,openSeen q aG (importedModules p.main.body) Xt g0 s1.abs,YT s1)=some (true,openGood q aG,Ya w);rw[l1,l5,b4]
def frc {α:Type}:BT->(BT->α)->α
 | .nil,k=>k .nil
 | .node o l r,k=>frc l λl'=>frc r λr'=>k (.node o l' r')
theorem GZ:∀(t:BT)(k:BT->α),frc t k=k t
 | .nil,_=>rfl
 | .node o l r,k=>by
  show frc l (λl'=>frc r λr'=>k (.node o l' r'))=_;rw[GZ l,GZ r]
def odB:List Obj->List Obj
 | x::_::r=>x::odB r
 | l=>l
def evB:List Obj->List Obj
 | _::y::r=>y::evB r
 | _=>[]
def mkB:Nat->List Obj->BT
 | d+1,o::l=>.node o (mkB d (odB l)) (mkB d (evB l))
 | _,_=>.nil
abbrev tpO (l:List Value):Obj:=⟨.type "tuple",none,.seq ⟨l⟩ 0,#[]⟩
abbrev fdO (l:List Value):Obj:=⟨.none,none,.fields ⟨l⟩,#[]⟩
def nmO:Nat->List Str->List Value
 | _,[]=>[]
 | t,x::r=>.str x t::nmO (t+1) r
abbrev coO (n q:Str)(t j:Nat)(i k:Int)(a s:Nat)(y z:Value)(f:Nat):Obj:=⟨.type "code",none,.fields #[.str n t,.str q (t+1),.str "/claim/cut.py" (t+2),.int i 0,.int k 0,.int 0 0,.int 0 0,.int 3 0,.ref a,.bool Bool.true,.int 181 0,.ref s,.none,y,z,.ref f,.int j 0,.int i 0,.str "/claim/cut.py" (j+1)],#[]⟩
abbrev fuO (n q:Str)(st:Stmt)(m d:Value):Obj:=⟨.type "function",none,.func (W.fnOf n q (L2.Vw st) (L2.Xa st) (L2.Zj st) .none .none .none m none d .none),#[]⟩
abbrev fnO (n q:Str)(st:Stmt):Obj:=⟨.none,none,.func { W.fnOf n q (L2.Vw st) (L2.Xa st) (L2.Zj st) .none .none .none .none none .none .none with globals:=0 },#[]⟩
def df (n q:Str)(st:Stmt)(m:Value)(i k:Int)(a t:Nat)(vs:List Str):List Obj:=[tpO [],fdO [],tpO (nmO (t+3) vs),tpO [],fnO n q st,coO n q t (t+3+vs.length) i k a (a+1) (.ref (a+2)) (.ref (a+3)) (a+4),fuO n q st m (.ref (a+5))]
def dg (n q:Str)(st:Stmt)(m:Value)(i k:Int)(a t:Nat):List Obj:=[tpO [],fdO [],fnO n q st,coO n q t (t+3) i k a (a+1) .none .none (a+2),fuO n q st m (.ref (a+3))]
end L3
namespace Mine
open PySem PySem.Spec PyProof.Rows L2 L3
theorem kId {α:Type}{p:α->Prop}(K:α)(h:p K):p K:=h
def top (i:Nat):Stmt:=QW.main.body.getD i (.Pass ⟨0,0,0,0⟩)
theorem ws_eq:W.OpenLaw.wellSaid PySem.Challenge.rw_boxnarrow_k52_thrown_are_barred=true:=by
 unfold W.OpenLaw.wellSaid
 repeat' (with_reducible refine W.look_both ?_ ?_)
 all_goals decide +kernel
def vw:Program:={ QW with main:={ QW.main with body:=[top 0,top 2,top 3,top 4,top 5,top 6,top 7,top 8,top 10,top 11,top 13,top 14,top 16,top 17,top 18,top 19,top 20,top 21,top 22,top 23,top 24,top 25,top 26,top 27,top 29,top 30,top 31,top 32,top 33,top 34,top 35,top 36,top 37,top 38,top 39,top 41,top 42,top 43,top 44,top 45,top 46,top 47,top 48,top 49,top 51,top 52,top 53,top 55,top 57,top 58,top 59,top 60,top 61,top 62,top 63,top 64,top 65,top 66,top 67,top 68,top 69,top 71,top 72,top 73,top 75,top 76,top 77,top 78,top 79,top 80,top 82,top 83,top 84,top 85,top 86,top 87,top 88,top 89,top 90,top 91,top 92,top 93,top 95,top 96,top 97,top 98,top 99,top 100,top 101,top 102,top 103,top 104,top 105,top 106,top 107,top 108,top 109,top 110,top 111,top 112,top 113,top 114,top 115] } }
noncomputable abbrev de (P:Params)(s:Str)(t:Tok)(v:Value):DictEntry:=⟨PySem.PyData.keyHash P s,.str s t,v⟩
abbrev co (n q:Str)(a b c d:Tok)(i k:Int)(r s:Addr)(y z:Value)(t:Addr)(j:Int):Obj:=⟨.type "code",none,.fields #[.str n a,.str q b,.str "/claim/cut.py" c,.int i 0,.int k 0,.int 0 0,.int 0 0,.int 3 0,.ref r,.bool Bool.true,.int 181 0,.ref s,.none,y,z,.ref t,.int j 0,.int i 0,.str "/claim/cut.py" d],#[]⟩
abbrev fo (n q:Str)(st:Stmt)(m:Value)(c:Addr):Obj:=⟨.type "function",none,.func (W.fnOf n q (Vw st) (Xa st) (Zj st) .none .none .none m none (.ref c) .none),#[]⟩
abbrev q0:Str:="boxnarrow.kinds"
abbrev q1:Str:="law_boxnarrow_k52_thrown_are_barred"
abbrev q2:Str:="__static_attributes__"
abbrev q3:Str:="__init__"
abbrev q4:Str:="__firstlineno__"
abbrev q5:Str:="slope_of_both"
abbrev q6:Str:="forth"
abbrev q7:Str:="boxnarrow.alone"
abbrev q8:Str:="boxnarrow.spans"
abbrev q9:Str:="spans"
abbrev q10:Str:="second_left"
abbrev q11:Str:="boxnarrow.backs"
abbrev q12:Str:="__module__"
abbrev q13:Str:="first_left"
abbrev q14:Str:="slope"
abbrev q15:Str:="boxnarrow.search"
abbrev q16:Str:="nodes"
abbrev q17:Str:="boxnarrow.matrices"
abbrev q18:String:="object.__new__"
abbrev q19:String:="object.__init_subclass__"
abbrev q20:Str:="number"
abbrev q21:Str:="box_of_middles"
abbrev q22:Str:="sum_of_products"
abbrev q23:Str:="take_spans"
abbrev q24:Str:="boxnarrow.shaving"
abbrev q25:Str:="equation_places"
abbrev q26:Str:="leasts_are_sure"
abbrev q27:Str:="determinant"
abbrev q28:Str:="worths"
abbrev q29:Str:="__doc__"
abbrev q30:Str:="add_spans"
abbrev q31:Str:="part_between"
abbrev q32:Str:="inverse_entry"
abbrev q33:Str:="rounded_up"
abbrev q34:String:="object"
abbrev q35:Str:="cut_in_the_middle"
abbrev q36:Str:="holds_nought"
abbrev q37:Str:="back_by_side"
abbrev q38:Str:="Pair.__init__"
abbrev q39:String:="type.__prepare__"
abbrev q40:Str:="mul_spans"
abbrev q41:Str:="inverse_row"
abbrev q42:Str:="thin_worths"
abbrev q43:Str:="raise_span"
abbrev q44:Str:="back_times"
abbrev q45:Str:="root_below"
abbrev q46:Str:="_law_cell_at"
abbrev q47:Str:="exact"
abbrev q48:Str:="_law_nodes"
abbrev q49:Str:="opposite"
abbrev q50:Str:="scale_span"
abbrev q51:Str:="next_guess"
abbrev q52:Str:="back_power"
abbrev q53:Str:="spans_back"
abbrev q54:Str:="with_span"
abbrev q55:Str:="is_barred"
abbrev q56:Str:="cofactor"
abbrev q57:Str:="_law_box_here"
abbrev q58:Str:="boxnarrow.errors"
abbrev q59:Str:="slants"
abbrev q60:Str:="_law_node_here"
abbrev q61:Str:="_law_grid_here"
abbrev q62:Str:="_law_span_here"
abbrev q63:Str:="slopes_at"
abbrev q64:Str:="_law_weight"
abbrev q65:Str:="fate_by_rows"
abbrev q66:Str:="is_much_less"
abbrev q67:Str:="_law_divisor"
abbrev q68:Str:="__qualname__"
abbrev q69:Str:="raised"
abbrev q70:Str:="common"
abbrev q71:Str:="kind_of"
abbrev q72:Str:="_law_power"
abbrev q73:Str:="quotient"
abbrev q74:Str:="all_deep"
abbrev q75:Str:="asked_of"
abbrev q76:Str:="narrowed"
abbrev q77:Str:="cut_back"
abbrev q78:Str:="is_shave"
abbrev q79:Str:="fate_of_one"
abbrev q80:Str:="_law_exacts"
abbrev q81:Str:="_law_covers"
abbrev q82:Str:="_law_claims"
abbrev q83:Str:="_law_barred"
abbrev q84:Str:="_law_script"
abbrev q85:Str:="middles"
abbrev q86:Str:="Minus.slope_of_both"
abbrev q87:Str:="Times.slope_of_both"
abbrev q88:Str:="_law_whole"
abbrev q89:Str:="_law_heavy"
abbrev q90:Str:="_law_claim"
abbrev q91:Str:="Pair.slope"
abbrev q92:Str:="Plus.slope_of_both"
abbrev q93:Str:="without"
abbrev q94:Str:="inverse"
abbrev q95:Str:="span_of"
abbrev q96:Str:="lacking"
abbrev q97:Str:="span_by"
abbrev q98:Str:="step_by"
abbrev q99:Str:="cut_off"
abbrev SG:Str:="Minus.second_left"
abbrev Ra:Str:="Times.second_left"
abbrev Xm:Str:="middle"
abbrev Xo:Str:="joined"
abbrev Xk:Str:="slopes"
abbrev Xf:Str:="picked"
abbrev Xi:Str:="matrix"
abbrev Y7:Str:="other"
abbrev WM:Str:="_law_span"
abbrev WW:Str:="_law_node"
abbrev WY:Str:="_law_rows"
abbrev WG:Str:="_law_grid"
abbrev W5:Str:="_law_sure"
abbrev WQ:Str:="Pair.back"
abbrev Wd:Str:="unknowns"
abbrev Tq:Str:="Unknown.__init__"
abbrev Tb:Str:="Plus.second_left"
abbrev Ta:Str:="Minus.first_left"
abbrev Tx:Str:="Times.first_left"
abbrev U1:Str:="boxnarrow.worths"
abbrev TU:Str:="boxnarrow.narrow"
abbrev Xu:Str:="signed"
abbrev Xr:Str:="shaves"
abbrev SX:Str:="Number.__init__"
abbrev Sf:Str:="Plus.first_left"
abbrev WI:Str:="_law_net"
abbrev WH:Str:="_law_put"
abbrev WA:Str:="_law_row"
abbrev WD:Str:="_law_box"
abbrev XD:Str:="widths"
abbrev XE:Str:="widest"
abbrev Tr:Str:="Power.__init__"
abbrev VN:Str:="to_look_at"
abbrev XO:Str:="bottom"
abbrev Xq:Str:="width"
abbrev Xs:Str:="alone"
abbrev Uw:Str:="__weakref__"
abbrev Wj:Str:="fate_of"
abbrev Se:Str:="Unknown.forth"
abbrev UW:Str:="Unknown.slope"
abbrev Wm:Str:="entries"
abbrev X8:Str:="out_by"
abbrev V0:Str:="put_entry"
abbrev VZ:Str:="_law_cell"
abbrev P9:Str:="Book.to_look_at"
abbrev UD:String:="ValueError"
abbrev Kr:Str:="boxnarrow.fractions"
abbrev U0:Str:="Number.forth"
abbrev SM:Str:="Number.slope"
abbrev U2:Str:="Unknown.back"
abbrev WK:Str:="search"
abbrev Nn:String:="ValueError.__new__"
abbrev Ol:Str:="Book.put_entry"
abbrev WJ:Str:="settle"
abbrev WZ:Str:="column"
abbrev WS:Str:="places"
abbrev Rk:Str:="Number.back"
abbrev So:Str:="Minus.forth"
abbrev TK:Str:="Times.forth"
abbrev Tu:Str:="Power.forth"
abbrev SV:Str:="Power.slope"
abbrev Pb:Str:="Book.__init__"
abbrev Q5:Str:="_law_unknowns"
abbrev PY:Str:="_law_row_here"
abbrev VM:Str:="Unknown"
abbrev Td:Str:="Plus.forth"
abbrev Tz:Str:="Power.back"
abbrev Tj:Str:="_law_found"
abbrev V5:Str:="BoxError"
abbrev W4:Str:="shave"
abbrev Oc:Str:="Book.entries"
abbrev Wv:Str:="place"
abbrev Uq:Str:="products"
abbrev L4:Str:="_law_heavy_here"
abbrev Pq:Str:="Book.settle"
abbrev VV:Str:="Number"
abbrev MR:String:="BaseException"
abbrev q177:String:="getset_descriptor"
abbrev P8:Str:="Book.part"
abbrev Pw:Str:="_law_many"
abbrev r (n:Addr):Value:=.ref n
abbrev sr (n:Addr):Option Value:=some (.ref n)
noncomputable abbrev dr (P:Params)(s:Str)(t:Tok)(n:Addr):DictEntry:=de P s t (.ref n)
noncomputable abbrev dn (P:Params)(s:Str)(t:Tok):DictEntry:=de P s t .none
abbrev dO (l:Array DictEntry)(n:Nat):Obj:=.mk (.type "dict") none (.dict l n) #[]
abbrev bO (s:String)(v:Value):Obj:=.mk (.type "builtin_function_or_method") none (.fields #[.builtin s,v]) #[]
abbrev cO (a:Str)(t1:Tok)(b:Str)(t2 t3:Tok)(l:Int)(x:Addr)(m:Int)(y:Addr)(k l2:Int)(t4:Tok):Obj:=.mk (.type "code") none (.fields #[.str a t1,.str b t2,.str "/claim/cut.py" t3,.int l 0,.int 0 0,.int 0 0,.int 0 0,.int 0 0,.ref x,.bool Bool.false,.int m 0,.ref y,.none,.none,.none,.none,.int k 0,.int l2 0,.str "/claim/cut.py" t4]) #[]
abbrev gO (a b c:Addr)(s:Value)(d:Addr):Obj:=.mk (.type "frame") none .plain #[some (.ref a),some (.ref b),some (.ref c),none,some s,none,some (.ref d)]
abbrev cp (n q:Str)(t:Tok)(i k:Int)(a:Addr)(j:Tok):Obj:=co n q t (t+1) (t+2) (j+1) i k a (a+1) (.ref (a+2)) (.ref (a+3)) (a+4) j
abbrev fp (n q:Str)(k:Nat)(m:Str)(t:Tok)(c:Addr):Obj:=fo n q (top k) (.str m t) c
abbrev fq (l:List (Int×Addr))(c:Int):Obj:=fdO (l.flatMap λx=>[.int x.1 0,.int c 0,.ref x.2])
abbrev tyO (nw:String)(n:Str)(bs ms:List Value)(d:Addr)(ss:List Value)(b:Addr)(t1 t2:Tok):Obj:=.mk (.type "type") none (.cls (PySem.ClassData.mk n bs ms d n Bool.true [] ss Bool.false none Bool.false)) #[some (.ref b),none,some (.str n t1),some (.str n t2),some (.builtin nw),some (.bool Bool.true)]
abbrev uO (a:Addr):Obj:=.mk (.type "super") none (.fields #[.ref a,.ref a,.ref a]) #[]
noncomputable def kq:Params->PySem.W.Frag:=λP=>
 (nat_lit 3,(dO #[(de P "__name__" 165 (.str q1 1426)),(dn P q29 166),(dn P "__package__" 167),(de P "__loader__" 168 (.builtin "__main__.__loader__#opaque")),(dn P "__spec__" 169),(dr P "__annotations__" 170 6),(dr P "__builtins__" 171 4),(de P "__file__" 173 (.str "/claim/cut.py" 172)),(dn P "__cached__" 174),(dr P "_wall" 193 21),(dr P Xu 203 28),(dr P q93 209 33),(dr P q56 218 40),(dr P q27 224 45),(dr P q32 235 52),(dr P q41 241 57),(dr P q94 247 62),(dr P V5 267 72),(dr P "NoSpan" 283 85),(dr P q69 295 94),(dr P "less" 303 101),(dr P q33 313 108),(dr P q95 322 115),(dr P q30 330 122),(dr P q23 338 129),(dr P q40 348 136),(dr P q43 354 141),(dr P q50 362 148),(dr P q70 372 155),(dr P "hull" 380 162),(dr P "deep" 388 169),(dr P Xq 395 176),(dr P Xm 402 183),(dr P q36 411 190),(dr P q49 418 197),(dr P Xo 426 204),(dr P q31 435 211),(dr P q73 443 218),(dr P q37 456 225),(dr P q44 469 232),(dr P q45 479 239),(dr P q51 488 246),(dr P "root" 497 253),(dr P q52 511 260),(dr P "Node" 533 270),(dr P VV 601 319),(dr P VM 661 364),(dr P "Pair" 706 395),(dr P "Plus" 775 442),(dr P "Minus" 844 489),(dr P "Times" 913 536),(dr P "Power" 976 581),(dr P q71 983 590),(dr P q28 996 597),(dr P "bars" 1004 604),(dr P "sure" 1012 611),(dr P Xk 1026 618),(dr P q25 1034 623),(dr P Xf 1040 628),(dr P q85 1046 633),(dr P q21 1052 638),(dr P q22 1064 645),(dr P q96 1070 650),(dr P q97 1076 655),(dr P q98 1082 660),(dr P q42 1092 667),(dr P q63 1102 674),(dr P q26 1108 679),(dr P q74 1114 684),(dr P Xs 1120 689),(dr P q75 1130 696),(dr P q53 1146 703),(dr P q76 1161 710),(dr P q54 1172 717),(dr P q55 1183 724),(dr P q99 1191 731),(dr P q77 1199 738),(dr P q78 1212 745),(dr P Xr 1228 752),(dr P XD 1236 757),(dr P XE 1243 764),(dr P "Book" 1316 812),(dr P X8 1328 823),(dr P W4 1345 830),(dr P q65 1351 835),(dr P q79 1364 842),(dr P Wj 1377 849),(dr P q66 1385 856),(dr P q35 1395 863),(dr P "look" 1410 870),(dr P WK 1425 877),(dr P q46 1436 884),(dr P q88 1443 891),(dr P WM 1450 898),(dr P WW 1462 905),(dr P q64 1470 912),(dr P WI 1476 917),(dr P q67 1485 924),(dr P q72 1495 931),(dr P q80 1507 938),(dr P q89 1516 945),(dr P WH 1524 952),(dr P WA 1543 959),(dr P WY 1557 966),(dr P WD 1569 973),(dr P WG 1576 980),(dr P q81 1582 985),(dr P q90 1598 992),(dr P q82 1604 997),(dr P q83 1612 1004),(dr P W5 1620 1011),(dr P "law" 1626 1016)] 112))::
 (nat_lit 27,cp Xu Xu 196 5 2 22 201)::
 (nat_lit 28,fp Xu Xu 2 q17 194 27)::
 (nat_lit 32,co q93 q93 204 205 206 208 7 3 29 30 .none .none 31 207)::
 (nat_lit 33,fp q93 q93 3 q17 194 32)::
 (nat_lit 39,cp q56 q56 210 10 3 34 216)::
 (nat_lit 40,fp q56 q56 4 q17 194 39)::
 (nat_lit 44,co q27 q27 219 220 221 223 12 1 41 42 .none .none 43 222)::
 (nat_lit 45,fp q27 q27 5 q17 194 44)::
 (nat_lit 51,cp q32 q32 225 16 5 46 233)::
 (nat_lit 52,fp q32 q32 6 q17 194 51)::
 (nat_lit 56,co q41 q41 236 237 238 240 18 4 53 54 .none .none 55 239)::
 (nat_lit 57,fp q41 q41 7 q17 194 56)::
 (nat_lit 61,co q94 q94 242 243 244 246 20 2 58 59 .none .none 60 245)::
 (nat_lit 62,fp q94 q94 8 q17 194 61)::
 (nat_lit 71,(dO #[(de P q12 257 (.str q58 248)),(de P q4 261 (.int 26 260)),(dr P q2 262 70),(dr P Uw 264 73),(dn P q29 265)] 3))::
 (nat_lit 72,(tyO Nn V5 [(.type UD)] [(r 72),(.type UD),(.type "Exception"),(.type MR),(.type q34)] 71 [(r 85)] 63 250 258))::
 (nat_lit 84,(dO #[(de P q12 275 (.str q58 248)),(de P q4 279 (.int 28 278)),(dr P q2 280 83),(dn P q29 281)] 2))::
 (nat_lit 85,(tyO Nn "NoSpan" [(r 72)] [(r 85),(r 72),(.type UD),(.type "Exception"),(.type MR),(.type q34)] 84 [] 76 268 276))::
 (nat_lit 93,cp q69 q69 286 31 2 88 293)::
 (nat_lit 94,fp q69 q69 13 Kr 284 93)::
 (nat_lit 100,cp "less" "less" 296 36 2 95 301)::
 (nat_lit 101,fp "less" "less" 14 Kr 284 100)::
 (nat_lit 107,cp q33 q33 306 39 2 102 311)::
 (nat_lit 108,fp q33 q33 16 q8 304 107)::
 (nat_lit 114,cp q95 q95 314 41 3 109 320)::
 (nat_lit 115,fp q95 q95 17 q8 304 114)::
 (nat_lit 121,cp q30 q30 323 45 2 116 328)::
 (nat_lit 122,fp q30 q30 18 q8 304 121)::
 (nat_lit 128,cp q23 q23 331 47 2 123 336)::
 (nat_lit 129,fp q23 q23 19 q8 304 128)::
 (nat_lit 135,cp q40 q40 339 49 3 130 346)::
 (nat_lit 136,fp q40 q40 20 q8 304 135)::
 (nat_lit 140,co q43 q43 349 350 351 353 52 3 137 138 .none .none 139 352)::
 (nat_lit 141,fp q43 q43 21 q8 304 140)::
 (nat_lit 147,cp q50 q50 355 59 2 142 360)::
 (nat_lit 148,fp q50 q50 22 q8 304 147)::
 (nat_lit 154,cp q70 q70 363 61 2 149 370)::
 (nat_lit 155,fp q70 q70 23 q8 304 154)::
 (nat_lit 161,cp "hull" "hull" 373 67 2 156 378)::
 (nat_lit 162,fp "hull" "hull" 24 q8 304 161)::
 (nat_lit 168,cp "deep" "deep" 381 69 2 163 386)::
 (nat_lit 169,fp "deep" "deep" 25 q8 304 168)::
 (nat_lit 175,cp Xq Xq 389 71 1 170 393)::
 (nat_lit 176,fp Xq Xq 26 q8 304 175)::
 (nat_lit 182,cp Xm Xm 396 73 1 177 400)::
 (nat_lit 183,fp Xm Xm 27 q8 304 182)::
 (nat_lit 189,cp q36 q36 405 76 1 184 409)::
 (nat_lit 190,fp q36 q36 29 q11 403 189)::
 (nat_lit 196,cp q49 q49 412 78 1 191 416)::
 (nat_lit 197,fp q49 q49 30 q11 403 196)::
 (nat_lit 203,cp Xo Xo 419 80 2 198 424)::
 (nat_lit 204,fp Xo Xo 31 q11 403 203)::
 (nat_lit 210,cp q31 q31 427 86 3 205 433)::
 (nat_lit 211,fp q31 q31 32 q11 403 210)::
 (nat_lit 217,cp q73 q73 436 90 2 212 441)::
 (nat_lit 218,fp q73 q73 33 q11 403 217)::
 (nat_lit 224,cp q37 q37 444 92 3 219 454)::
 (nat_lit 225,fp q37 q37 34 q11 403 224)::
 (nat_lit 231,cp q44 q44 457 98 4 226 467)::
 (nat_lit 232,fp q44 q44 35 q11 403 231)::
 (nat_lit 238,cp q45 q45 470 109 2 233 477)::
 (nat_lit 239,fp q45 q45 36 q11 403 238)::
 (nat_lit 245,cp q51 q51 480 118 3 240 486)::
 (nat_lit 246,fp q51 q51 37 q11 403 245)::
 (nat_lit 252,cp "root" "root" 489 120 2 247 495)::
 (nat_lit 253,fp "root" "root" 38 q11 403 252)::
 (nat_lit 259,cp q52 q52 498 127 4 254 509)::
 (nat_lit 260,fp q52 q52 39 q11 403 259)::
 (nat_lit 269,(dO #[(de P q12 521 (.str q0 512)),(de P q4 525 (.int 138 524)),(dr P q2 526 268),(dr P "__dict__" 528 271),(dr P Uw 530 272),(dn P q29 531)] 4))::
 (nat_lit 270,(.mk (.type "type") none (.cls (PySem.ClassData.mk "Node" [(.type q34)] [(r 270),(.type q34)] 269 "Node" Bool.true [] [(r 319),(r 364),(r 395),(r 581)] Bool.false none Bool.false)) #[none,none,(some (.str "Node" 514)),(some (.str "Node" 522)),(some (.builtin q18)),(some (.bool Bool.true))]))::
 (nat_lit 287,cp q3 SX 546 142 3 282 552)::
 (nat_lit 288,fo q3 SX (Zq (top 42) 0) (.str q0 512) 287)::
 (nat_lit 301,cp q6 U0 564 149 4 296 572)::
 (nat_lit 302,fo q6 U0 (Zq (top 42) 2) (.str q0 512) 301)::
 (nat_lit 308,cp "back" Rk 575 153 4 303 582)::
 (nat_lit 309,fo "back" Rk (Zq (top 42) 3) (.str q0 512) 308)::
 (nat_lit 315,cp q14 SM 585 156 5 310 593)::
 (nat_lit 316,fo q14 SM (Zq (top 42) 4) (.str q0 512) 315)::
 (nat_lit 318,(dO #[(de P q12 541 (.str q0 512)),(de P q4 545 (.int 140 544)),(dr P q3 554 288),(dr P q47 563 295),(dr P q6 574 302),(dr P "back" 584 309),(dr P q14 595 316),(dr P q2 598 317),(dn P q29 599)] 2))::
 (nat_lit 319,(tyO q18 VV [(r 270)] [(r 319),(r 270),(.type q34)] 318 [] 275 534 542))::
 (nat_lit 334,cp q3 Tq 614 160 2 329 619)::
 (nat_lit 335,fo q3 Tq (Zq (top 43) 0) (.str q0 512) 334)::
 (nat_lit 348,cp q6 Se 631 166 4 343 638)::
 (nat_lit 349,fo q6 Se (Zq (top 43) 2) (.str q0 512) 348)::
 (nat_lit 355,cp "back" U2 641 169 4 350 648)::
 (nat_lit 356,fo "back" U2 (Zq (top 43) 3) (.str q0 512) 355)::
 (nat_lit 360,co q14 UW 651 652 653 655 172 5 357 358 .none .none 359 654)::
 (nat_lit 361,fo q14 UW (Zq (top 43) 4) (.str q0 512) 360)::
 (nat_lit 363,(dO #[(de P q12 609 (.str q0 512)),(de P q4 613 (.int 158 612)),(dr P q3 621 335),(dr P q47 630 342),(dr P q6 640 349),(dr P "back" 650 356),(dr P q14 656 361),(dr P q2 658 362),(dn P q29 659)] 2))::
 (nat_lit 364,(tyO q18 VM [(r 270)] [(r 364),(r 270),(.type q34)] 363 [] 322 602 610))::
 (nat_lit 379,cp q3 q38 674 176 3 374 680)::
 (nat_lit 380,fo q3 q38 (Zq (top 44) 0) (.str q0 512) 379)::
 (nat_lit 386,cp "back" WQ 683 180 4 381 692)::
 (nat_lit 387,fo "back" WQ (Zq (top 44) 1) (.str q0 512) 386)::
 (nat_lit 391,co q14 q91 695 696 697 699 190 5 388 389 .none .none 390 698)::
 (nat_lit 392,fo q14 q91 (Zq (top 44) 2) (.str q0 512) 391)::
 (nat_lit 394,(dO #[(de P q12 669 (.str q0 512)),(de P q4 673 (.int 174 672)),(dr P q3 682 380),(dr P "back" 694 387),(dr P q14 700 392),(dr P q2 703 393),(dn P q29 704)] 2))::
 (nat_lit 395,(tyO q18 "Pair" [(r 270)] [(r 395),(r 270),(.type q34)] 394 [(r 442),(r 489),(r 536)] 367 662 670))::
 (nat_lit 417,cp q6 Td 728 199 4 412 735)::
 (nat_lit 418,fo q6 Td (Zq (top 45) 1) (.str q0 512) 417)::
 (nat_lit 424,cp q13 Sf 738 202 5 419 746)::
 (nat_lit 425,fo q13 Sf (Zq (top 45) 2) (.str q0 512) 424)::
 (nat_lit 431,cp q10 Tb 749 205 5 426 757)::
 (nat_lit 432,fo q10 Tb (Zq (top 45) 3) (.str q0 512) 431)::
 (nat_lit 438,cp q5 q92 760 208 6 433 769)::
 (nat_lit 439,fo q5 q92 (Zq (top 45) 4) (.str q0 512) 438)::
 (nat_lit 441,(dO #[(de P q12 714 (.str q0 512)),(de P q4 718 (.int 194 717)),(dr P q47 727 411),(dr P q6 737 418),(dr P q13 748 425),(dr P q10 759 432),(dr P q5 771 439),(dr P q2 772 440),(dn P q29 773)] 2))::
 (nat_lit 442,(tyO q18 "Plus" [(r 395)] [(r 442),(r 395),(r 270),(.type q34)] 441 [] 398 707 715))::
 (nat_lit 464,cp q6 So 797 215 4 459 804)::
 (nat_lit 465,fo q6 So (Zq (top 46) 1) (.str q0 512) 464)::
 (nat_lit 471,cp q13 Ta 807 218 5 466 815)::
 (nat_lit 472,fo q13 Ta (Zq (top 46) 2) (.str q0 512) 471)::
 (nat_lit 478,cp q10 SG 818 221 5 473 826)::
 (nat_lit 479,fo q10 SG (Zq (top 46) 3) (.str q0 512) 478)::
 (nat_lit 485,cp q5 q86 829 224 6 480 838)::
 (nat_lit 486,fo q5 q86 (Zq (top 46) 4) (.str q0 512) 485)::
 (nat_lit 488,(dO #[(de P q12 783 (.str q0 512)),(de P q4 787 (.int 210 786)),(dr P q47 796 458),(dr P q6 806 465),(dr P q13 817 472),(dr P q10 828 479),(dr P q5 840 486),(dr P q2 841 487),(dn P q29 842)] 2))::
 (nat_lit 489,(tyO q18 "Minus" [(r 395)] [(r 489),(r 395),(r 270),(.type q34)] 488 [] 445 776 784))::
 (nat_lit 511,cp q6 TK 866 231 4 506 873)::
 (nat_lit 512,fo q6 TK (Zq (top 47) 1) (.str q0 512) 511)::
 (nat_lit 518,cp q13 Tx 876 234 5 513 884)::
 (nat_lit 519,fo q13 Tx (Zq (top 47) 2) (.str q0 512) 518)::
 (nat_lit 525,cp q10 Ra 887 237 5 520 895)::
 (nat_lit 526,fo q10 Ra (Zq (top 47) 3) (.str q0 512) 525)::
 (nat_lit 532,cp q5 q87 898 240 6 527 907)::
 (nat_lit 533,fo q5 q87 (Zq (top 47) 4) (.str q0 512) 532)::
 (nat_lit 535,(dO #[(de P q12 852 (.str q0 512)),(de P q4 856 (.int 226 855)),(dr P q47 865 505),(dr P q6 875 512),(dr P q13 886 519),(dr P q10 897 526),(dr P q5 909 533),(dr P q2 910 534),(dn P q29 911)] 2))::
 (nat_lit 536,(tyO q18 "Times" [(r 395)] [(r 536),(r 395),(r 270),(.type q34)] 535 [] 492 845 853))::
 (nat_lit 551,cp q3 Tr 926 244 3 546 932)::
 (nat_lit 552,fo q3 Tr (Zq (top 48) 0) (.str q0 512) 551)::
 (nat_lit 565,cp q6 Tu 944 251 4 560 951)::
 (nat_lit 566,fo q6 Tu (Zq (top 48) 2) (.str q0 512) 565)::
 (nat_lit 572,cp "back" Tz 954 254 4 567 962)::
 (nat_lit 573,fo "back" Tz (Zq (top 48) 3) (.str q0 512) 572)::
 (nat_lit 577,co q14 SV 965 966 967 969 260 5 574 575 .none .none 576 968)::
 (nat_lit 578,fo q14 SV (Zq (top 48) 4) (.str q0 512) 577)::
 (nat_lit 580,(dO #[(de P q12 921 (.str q0 512)),(de P q4 925 (.int 242 924)),(dr P q3 934 552),(dr P q47 943 559),(dr P q6 953 566),(dr P "back" 964 573),(dr P q14 970 578),(dr P q2 973 579),(dn P q29 974)] 2))::
 (nat_lit 581,(tyO q18 "Power" [(r 270)] [(r 581),(r 270),(.type q34)] 580 [] 539 914 922))::
 (nat_lit 589,cp q71 q71 977 264 1 584 981)::
 (nat_lit 590,fp q71 q71 49 q0 512 589)::
 (nat_lit 596,cp q28 q28 986 277 3 591 994)::
 (nat_lit 597,fp q28 q28 51 U1 984 596)::
 (nat_lit 603,cp "bars" "bars" 997 282 2 598 1002)::
 (nat_lit 604,fp "bars" "bars" 52 U1 984 603)::
 (nat_lit 610,cp "sure" "sure" 1005 286 2 605 1010)::
 (nat_lit 611,fp "sure" "sure" 53 U1 984 610)::
 (nat_lit 617,cp Xk Xk 1015 291 3 612 1024)::
 (nat_lit 618,fp Xk Xk 55 "boxnarrow.sloping" 1013 617)::
 (nat_lit 622,co q25 q25 1029 1030 1031 1033 298 1 619 620 .none .none 621 1032)::
 (nat_lit 623,fp q25 q25 57 q7 1027 622)::
 (nat_lit 627,co Xf Xf 1035 1036 1037 1039 300 2 624 625 .none .none 626 1038)::
 (nat_lit 628,fp Xf Xf 58 q7 1027 627)::
 (nat_lit 632,co q85 q85 1041 1042 1043 1045 302 1 629 630 .none .none 631 1044)::
 (nat_lit 633,fp q85 q85 59 q7 1027 632)::
 (nat_lit 637,co q21 q21 1047 1048 1049 1051 304 1 634 635 .none .none 636 1050)::
 (nat_lit 638,fp q21 q21 60 q7 1027 637)::
 (nat_lit 644,cp q22 q22 1053 306 3 639 1062)::
 (nat_lit 645,fp q22 q22 61 q7 1027 644)::
 (nat_lit 649,co q96 q96 1065 1066 1067 1069 311 5 646 647 .none .none 648 1068)::
 (nat_lit 650,fp q96 q96 62 q7 1027 649)::
 (nat_lit 654,co q97 q97 1071 1072 1073 1075 315 6 651 652 .none .none 653 1074)::
 (nat_lit 655,fp q97 q97 63 q7 1027 654)::
 (nat_lit 659,co q98 q98 1077 1078 1079 1081 322 5 656 657 .none .none 658 1080)::
 (nat_lit 660,fp q98 q98 64 q7 1027 659)::
 (nat_lit 666,cp q42 q42 1083 324 4 661 1090)::
 (nat_lit 667,fp q42 q42 65 q7 1027 666)::
 (nat_lit 673,cp q63 q63 1093 326 4 668 1100)::
 (nat_lit 674,fp q63 q63 66 q7 1027 673)::
 (nat_lit 678,co q26 q26 1103 1104 1105 1107 328 2 675 676 .none .none 677 1106)::
 (nat_lit 679,fp q26 q26 67 q7 1027 678)::
 (nat_lit 683,co q74 q74 1109 1110 1111 1113 330 2 680 681 .none .none 682 1112)::
 (nat_lit 684,fp q74 q74 68 q7 1027 683)::
 (nat_lit 688,co Xs Xs 1115 1116 1117 1119 332 4 685 686 .none .none 687 1118)::
 (nat_lit 689,fp Xs Xs 69 q7 1027 688)::
 (nat_lit 695,cp q75 q75 1123 345 2 690 1128)::
 (nat_lit 696,fp q75 q75 71 TU 1121 695)::
 (nat_lit 702,cp q53 q53 1131 349 4 697 1144)::
 (nat_lit 703,fp q53 q53 72 TU 1121 702)::
 (nat_lit 709,cp q76 q76 1147 363 4 704 1159)::
 (nat_lit 710,fp q76 q76 73 TU 1121 709)::
 (nat_lit 716,cp q54 q54 1164 374 3 711 1170)::
 (nat_lit 717,fp q54 q54 75 q24 1162 716)::
 (nat_lit 723,cp q55 q55 1173 376 4 718 1181)::
 (nat_lit 724,fp q55 q55 76 q24 1162 723)::
 (nat_lit 730,cp q99 q99 1184 379 2 725 1189)::
 (nat_lit 731,fp q99 q99 77 q24 1162 730)::
 (nat_lit 737,cp q77 q77 1192 381 2 732 1197)::
 (nat_lit 738,fp q77 q77 78 q24 1162 737)::
 (nat_lit 744,cp q78 q78 1200 383 5 739 1210)::
 (nat_lit 745,fp q78 q78 79 q24 1162 744)::
 (nat_lit 751,cp Xr Xr 1213 389 4 746 1226)::
 (nat_lit 752,fp Xr Xr 80 q24 1162 751)::
 (nat_lit 756,co XD XD 1231 1232 1233 1235 404 1 753 754 .none .none 755 1234)::
 (nat_lit 757,fp XD XD 82 q15 1229 756)::
 (nat_lit 763,cp XE XE 1237 406 1 758 1241)::
 (nat_lit 764,fp XE XE 83 q15 1229 763)::
 (nat_lit 777,cp q3 Pb 1256 410 2 772 1261)::
 (nat_lit 778,fo q3 Pb (Zq (top 84) 0) (.str q15 1229) 777)::
 (nat_lit 784,cp V0 Ol 1264 414 2 779 1269)::
 (nat_lit 785,fo V0 Ol (Zq (top 84) 1) (.str q15 1229) 784)::
 (nat_lit 791,cp WJ Pq 1272 419 3 786 1278)::
 (nat_lit 792,fo WJ Pq (Zq (top 84) 2) (.str q15 1229) 791)::
 (nat_lit 798,cp "part" P8 1281 422 4 793 1292)::
 (nat_lit 799,fo "part" P8 (Zq (top 84) 3) (.str q15 1229) 798)::
 (nat_lit 803,co VN P9 1295 1296 1297 1299 430 1 800 801 .none .none 802 1298)::
 (nat_lit 804,fo VN P9 (Zq (top 84) 4) (.str q15 1229) 803)::
 (nat_lit 808,co Wm Oc 1301 1302 1303 1305 434 1 805 806 .none .none 807 1304)::
 (nat_lit 809,fo Wm Oc (Zq (top 84) 5) (.str q15 1229) 808)::
 (nat_lit 811,(dO #[(de P q12 1251 (.str q15 1229)),(de P q4 1255 (.int 408 1254)),(dr P q3 1263 778),(dr P V0 1271 785),(dr P WJ 1280 792),(dr P "part" 1294 799),(dr P VN 1300 804),(dr P Wm 1306 809),(dr P q2 1309 810),(dr P "__dict__" 1311 813),(dr P Uw 1313 814),(dn P q29 1314)] 4))::
 (nat_lit 812,(.mk (.type "type") none (.cls (PySem.ClassData.mk "Book" [(.type q34)] [(r 812),(.type q34)] 811 "Book" Bool.true [] [] Bool.false none Bool.false)) #[none,none,(some (.str "Book" 1244)),(some (.str "Book" 1252)),(some (.builtin q18)),(some (.bool Bool.true))]))::
 (nat_lit 822,cp X8 X8 1317 436 5 817 1326)::
 (nat_lit 823,fp X8 X8 85 q15 1229 822)::
 (nat_lit 829,cp W4 W4 1329 439 5 824 1343)::
 (nat_lit 830,fp W4 W4 86 q15 1229 829)::
 (nat_lit 834,co q65 q65 1346 1347 1348 1350 451 5 831 832 .none .none 833 1349)::
 (nat_lit 835,fp q65 q65 87 q15 1229 834)::
 (nat_lit 841,cp q79 q79 1352 458 5 836 1362)::
 (nat_lit 842,fp q79 q79 88 q15 1229 841)::
 (nat_lit 848,cp Wj Wj 1365 464 5 843 1375)::
 (nat_lit 849,fp Wj Wj 89 q15 1229 848)::
 (nat_lit 855,cp q66 q66 1378 472 2 850 1383)::
 (nat_lit 856,fp q66 q66 90 q15 1229 855)::
 (nat_lit 862,cp q35 q35 1386 474 2 857 1393)::
 (nat_lit 863,fp q35 q35 91 q15 1229 862)::
 (nat_lit 869,cp "look" "look" 1396 478 6 864 1408)::
 (nat_lit 870,fp "look" "look" 92 q15 1229 869)::
 (nat_lit 876,cp WK WK 1411 489 6 871 1423)::
 (nat_lit 877,fp WK WK 93 q15 1229 876)::
 (nat_lit 883,cp q46 q46 1428 498 2 878 1434)::
 (nat_lit 884,fp q46 q46 95 q1 1426 883)::
 (nat_lit 890,cp q88 q88 1437 503 1 885 1441)::
 (nat_lit 891,fp q88 q88 96 q1 1426 890)::
 (nat_lit 897,cp WM WM 1444 505 1 892 1448)::
 (nat_lit 898,fp WM WM 97 q1 1426 897)::
 (nat_lit 904,cp WW WW 1451 509 2 899 1460)::
 (nat_lit 905,fp WW WW 98 q1 1426 904)::
 (nat_lit 911,cp q64 q64 1463 523 2 906 1468)::
 (nat_lit 912,fp q64 q64 99 q1 1426 911)::
 (nat_lit 916,co WI WI 1471 1472 1473 1475 529 2 913 914 .none .none 915 1474)::
 (nat_lit 917,fp WI WI 100 q1 1426 916)::
 (nat_lit 923,cp q67 q67 1477 539 2 918 1483)::
 (nat_lit 924,fp q67 q67 101 q1 1426 923)::
 (nat_lit 930,cp q72 q72 1486 547 2 925 1493)::
 (nat_lit 931,fp q72 q72 102 q1 1426 930)::
 (nat_lit 937,cp q80 q80 1496 552 2 932 1505)::
 (nat_lit 938,fp q80 q80 103 q1 1426 937)::
 (nat_lit 944,cp q89 q89 1508 572 1 939 1514)::
 (nat_lit 945,fp q89 q89 104 q1 1426 944)::
 (nat_lit 951,cp WH WH 1517 577 2 946 1522)::
 (nat_lit 952,fp WH WH 105 q1 1426 951)::
 (nat_lit 958,cp WA WA 1525 581 5 953 1541)::
 (nat_lit 959,fp WA WA 106 q1 1426 958)::
 (nat_lit 965,cp WY WY 1544 595 4 960 1555)::
 (nat_lit 966,fp WY WY 107 q1 1426 965)::
 (nat_lit 972,cp WD WD 1558 606 2 967 1567)::
 (nat_lit 973,fp WD WD 108 q1 1426 972)::
 (nat_lit 979,cp WG WG 1570 623 1 974 1574)::
 (nat_lit 980,fp WG WG 109 q1 1426 979)::
 (nat_lit 984,co q81 q81 1577 1578 1579 1581 627 4 981 982 .none .none 983 1580)::
 (nat_lit 985,fp q81 q81 110 q1 1426 984)::
 (nat_lit 991,cp q90 q90 1583 629 5 986 1596)::
 (nat_lit 992,fp q90 q90 111 q1 1426 991)::
 (nat_lit 996,co q82 q82 1599 1600 1601 1603 649 5 993 994 .none .none 995 1602)::
 (nat_lit 997,fp q82 q82 112 q1 1426 996)::
 (nat_lit 1003,cp q83 q83 1605 653 2 998 1610)::
 (nat_lit 1004,fp q83 q83 113 q1 1426 1003)::
 (nat_lit 1010,cp W5 W5 1613 657 2 1005 1618)::
 (nat_lit 1011,fp W5 W5 114 q1 1426 1010)::
 (nat_lit 1015,co "law" "law" 1621 1622 1623 1625 661 1 1012 1013 .none .none 1014 1624)::
 (nat_lit 1016,fp "law" "law" 115 q1 1426 1015)::[]
noncomputable def kp:Params->PySem.W.Frag:=λP=>(nat_lit 801,⟨.none,none,.fields #[],#[]⟩)::kq P
def ks:List Addr:=nat_lit 801::nat_lit 3::nat_lit 27::nat_lit 28::nat_lit 32::nat_lit 33::nat_lit 39::nat_lit 40::nat_lit 44::nat_lit 45::nat_lit 51::nat_lit 52::nat_lit 56::nat_lit 57::nat_lit 61::nat_lit 62::nat_lit 71::nat_lit 72::nat_lit 84::nat_lit 85::nat_lit 93::nat_lit 94::nat_lit 100::nat_lit 101::nat_lit 107::nat_lit 108::nat_lit 114::nat_lit 115::nat_lit 121::nat_lit 122::nat_lit 128::nat_lit 129::nat_lit 135::nat_lit 136::nat_lit 140::nat_lit 141::nat_lit 147::nat_lit 148::nat_lit 154::nat_lit 155::nat_lit 161::nat_lit 162::nat_lit 168::nat_lit 169::nat_lit 175::nat_lit 176::nat_lit 182::nat_lit 183::nat_lit 189::nat_lit 190::nat_lit 196::nat_lit 197::nat_lit 203::nat_lit 204::nat_lit 210::nat_lit 211::nat_lit 217::nat_lit 218::nat_lit 224::nat_lit 225::nat_lit 231::nat_lit 232::nat_lit 238::nat_lit 239::nat_lit 245::nat_lit 246::nat_lit 252::nat_lit 253::nat_lit 259::nat_lit 260::nat_lit 269::nat_lit 270::nat_lit 287::nat_lit 288::nat_lit 301::nat_lit 302::nat_lit 308::nat_lit 309::nat_lit 315::nat_lit 316::nat_lit 318::nat_lit 319::nat_lit 334::nat_lit 335::nat_lit 348::nat_lit 349::nat_lit 355::nat_lit 356::nat_lit 360::nat_lit 361::nat_lit 363::nat_lit 364::nat_lit 379::nat_lit 380::nat_lit 386::nat_lit 387::nat_lit 391::nat_lit 392::nat_lit 394::nat_lit 395::nat_lit 417::nat_lit 418::nat_lit 424::nat_lit 425::nat_lit 431::nat_lit 432::nat_lit 438::nat_lit 439::nat_lit 441::nat_lit 442::nat_lit 464::nat_lit 465::nat_lit 471::nat_lit 472::nat_lit 478::nat_lit 479::nat_lit 485::nat_lit 486::nat_lit 488::nat_lit 489::nat_lit 511::nat_lit 512::nat_lit 518::nat_lit 519::nat_lit 525::nat_lit 526::nat_lit 532::nat_lit 533::nat_lit 535::nat_lit 536::nat_lit 551::nat_lit 552::nat_lit 565::nat_lit 566::nat_lit 572::nat_lit 573::nat_lit 577::nat_lit 578::nat_lit 580::nat_lit 581::nat_lit 589::nat_lit 590::nat_lit 596::nat_lit 597::nat_lit 603::nat_lit 604::nat_lit 610::nat_lit 611::nat_lit 617::nat_lit 618::nat_lit 622::nat_lit 623::nat_lit 627::nat_lit 628::nat_lit 632::nat_lit 633::nat_lit 637::nat_lit 638::nat_lit 644::nat_lit 645::nat_lit 649::nat_lit 650::nat_lit 654::nat_lit 655::nat_lit 659::nat_lit 660::nat_lit 666::nat_lit 667::nat_lit 673::nat_lit 674::nat_lit 678::nat_lit 679::nat_lit 683::nat_lit 684::nat_lit 688::nat_lit 689::nat_lit 695::nat_lit 696::nat_lit 702::nat_lit 703::nat_lit 709::nat_lit 710::nat_lit 716::nat_lit 717::nat_lit 723::nat_lit 724::nat_lit 730::nat_lit 731::nat_lit 737::nat_lit 738::nat_lit 744::nat_lit 745::nat_lit 751::nat_lit 752::nat_lit 756::nat_lit 757::nat_lit 763::nat_lit 764::nat_lit 777::nat_lit 778::nat_lit 784::nat_lit 785::nat_lit 791::nat_lit 792::nat_lit 798::nat_lit 799::nat_lit 803::nat_lit 804::nat_lit 808::nat_lit 809::nat_lit 811::nat_lit 812::nat_lit 822::nat_lit 823::nat_lit 829::nat_lit 830::nat_lit 834::nat_lit 835::nat_lit 841::nat_lit 842::nat_lit 848::nat_lit 849::nat_lit 855::nat_lit 856::nat_lit 862::nat_lit 863::nat_lit 869::nat_lit 870::nat_lit 876::nat_lit 877::nat_lit 883::nat_lit 884::nat_lit 890::nat_lit 891::nat_lit 897::nat_lit 898::nat_lit 904::nat_lit 905::nat_lit 911::nat_lit 912::nat_lit 916::nat_lit 917::nat_lit 923::nat_lit 924::nat_lit 930::nat_lit 931::nat_lit 937::nat_lit 938::nat_lit 944::nat_lit 945::nat_lit 951::nat_lit 952::nat_lit 958::nat_lit 959::nat_lit 965::nat_lit 966::nat_lit 972::nat_lit 973::nat_lit 979::nat_lit 980::nat_lit 984::nat_lit 985::nat_lit 991::nat_lit 992::nat_lit 996::nat_lit 997::nat_lit 1003::nat_lit 1004::nat_lit 1010::nat_lit 1011::nat_lit 1015::nat_lit 1016::[]
theorem VL (P:Params):ks=(kp P).map (·.1):=by kernel_rfl
noncomputable abbrev hk:W.Hook:=W.kHook kp ks VL
abbrev xt (s:Shared):Bool:=W.xlAt vw [] s&&W.recOk (W.RowW.records (W.OpenRow.toRowW (W.OpenLaw.row PySem.Challenge.rw_boxnarrow_k52_thrown_are_barred))) s
theorem Fw:W.opening QW=W.plainProg QW.main.scope.names:=by kernel_rfl
theorem fe_eq (s:Shared):PySem.fenceModules? QW s=some s:=by kernel_rfl
theorem si_eq (w:World):((W.boot_heap w.params).isNs mainGlobals&&(Array.mk []:Array GenState).size==0,(W.boot_heap w.params).objs.size,(W.boot_heap w.params).nsMap mainGlobals "__annotations__")=(true,11,some (.ref 6)):=by kernel_rfl
open PySem.W PySem.Calls
def ev:Env:={ scope:=QW.main.scope,locals:=mainNs,globals:=mainNs,cells:=[],code:=.ref 13,frame:=some 14 }
abbrev bI:List Stmt:=behindTheImports QW
abbrev cE:Code:=Code.body bI ev
abbrev fT:List Frame:=[topFrame ⟨0,0,0,0⟩]
noncomputable abbrev mS (k:Nat)(l:Params->List Obj)(n t:Nat)(w:World)(os:OsState):SharedT:=⟨L3.mkB k (l w.params),n,(boot_heap w.params).life,Array.mk [],boot_drawn,t,os⟩
noncomputable def mO0 (P:Params):List Obj:=[boot_o_0 P,boot_o_1 P,boot_o_2 P,boot_o_3 P,boot_o_4 P,boot_o_5 P,boot_o_6 P,boot_o_7 P,boot_o_8 P,boot_o_9 P,boot_o_10 P]++[tpO [],fdO [],(cO "<module>" 182 "<module>" 183 184 1 11 181 12 185 1 186),(gO 13 3 3 (.str "__main__" 164) 0)]
noncomputable def S0:=mS 5 mO0 15 187
theorem zdu (w:World):(λos=>L3.goK treeTable QW w 11 (some (.ref 6)) 12 (L3.Rr w os) (topStub QW))=λos=>some (S0 w os,⟨denote treeTable cE,cE,⟨0,0,0,0⟩,fT⟩):=by kernel_rfl
theorem zdD (w:World):(λos=>segRunT treeTable QW w 11 (some (.ref 6)) 1 1 (S0 w os) (blockOf bI ev cE ⟨0,0,0,0⟩ fT))=λos=>some (.next,S0 w os,cE,⟨0,0,0,0⟩):=by kernel_rfl
noncomputable def mO1 (P:Params):List Obj:=[boot_o_0 P,boot_o_1 P,boot_o_2 P,(dO #[(de P "__name__" 165 (.str q15 1229)),(dn P q29 166),(dn P "__package__" 167),(de P "__loader__" 168 (.builtin "__main__.__loader__#opaque")),(dn P "__spec__" 169),(dr P "__annotations__" 170 6),(dr P "__builtins__" 171 4),(de P "__file__" 173 (.str "/claim/cut.py" 172)),(dn P "__cached__" 174),(dr P "_wall" 193 21),(dr P Xu 203 28),(dr P q93 209 33),(dr P q56 218 40),(dr P q27 224 45),(dr P q32 235 52),(dr P q41 241 57),(dr P q94 247 62),(dr P V5 267 72),(dr P "NoSpan" 283 85),(dr P q69 295 94),(dr P "less" 303 101),(dr P q33 313 108),(dr P q95 322 115),(dr P q30 330 122),(dr P q23 338 129),(dr P q40 348 136),(dr P q43 354 141),(dr P q50 362 148),(dr P q70 372 155),(dr P "hull" 380 162),(dr P "deep" 388 169),(dr P Xq 395 176),(dr P Xm 402 183),(dr P q36 411 190),(dr P q49 418 197),(dr P Xo 426 204),(dr P q31 435 211),(dr P q73 443 218),(dr P q37 456 225),(dr P q44 469 232),(dr P q45 479 239),(dr P q51 488 246),(dr P "root" 497 253),(dr P q52 511 260),(dr P "Node" 533 270),(dr P VV 601 319),(dr P VM 661 364),(dr P "Pair" 706 395),(dr P "Plus" 775 442),(dr P "Minus" 844 489),(dr P "Times" 913 536),(dr P "Power" 976 581),(dr P q71 983 590),(dr P q28 996 597),(dr P "bars" 1004 604),(dr P "sure" 1012 611),(dr P Xk 1026 618),(dr P q25 1034 623),(dr P Xf 1040 628),(dr P q85 1046 633),(dr P q21 1052 638),(dr P q22 1064 645),(dr P q96 1070 650),(dr P q97 1076 655),(dr P q98 1082 660),(dr P q42 1092 667),(dr P q63 1102 674),(dr P q26 1108 679),(dr P q74 1114 684),(dr P Xs 1120 689),(dr P q75 1130 696),(dr P q53 1146 703),(dr P q76 1161 710),(dr P q54 1172 717),(dr P q55 1183 724),(dr P q99 1191 731),(dr P q77 1199 738),(dr P q78 1212 745),(dr P Xr 1228 752)] 79),boot_o_4 P,boot_o_5 P,boot_o_6 P,boot_o_7 P,boot_o_8 P,boot_o_9 P,boot_o_10 P]++[tpO [],fq [(1,20),(5,27),(7,32),(10,39),(12,44),(16,51),(18,56),(20,61),(26,68),(28,81),(31,93),(36,100),(39,107),(41,114),(45,121),(47,128),(49,135),(52,140),(59,147),(61,154),(67,161),(69,168),(71,175),(73,182),(76,189),(78,196),(80,203),(86,210),(90,217),(92,224),(98,231),(109,238),(118,245),(120,252),(127,259),(138,266),(140,280),(158,327),(174,372),(194,403),(210,450),(226,497),(242,544),(264,589),(277,596),(282,603),(286,610),(291,617),(298,622),(300,627),(302,632),(304,637),(306,644),(311,649),(315,654),(322,659),(324,666),(326,673),(328,678),(330,683),(332,688),(345,695),(349,702),(363,709),(374,716),(376,723),(379,730),(381,737),(383,744),(389,751)] 0,(cO "<module>" 182 "<module>" 183 184 1 11 181 12 185 1 186),(gO 13 3 3 (.str "__main__" 164) 0)]++
 df "_wall" "_wall" (top 0) (.str "__main__" 164) 1 1 15 187 ["k"]++
 df Xu Xu (top 2) (.str q17 194) 5 2 22 196 [q20,Wv]++
 dg q93 q93 (top 3) (.str q17 194) 7 3 29 204++
 df q56 q56 (top 4) (.str q17 194) 10 3 34 210 [Xi,"row",WZ]++
 dg q27 q27 (top 5) (.str q17 194) 12 1 41 219++
 df q32 q32 (top 6) (.str q17 194) 16 5 46 225 [Xi,"whole","row",WZ,"grid"]++
 dg q41 q41 (top 7) (.str q17 194) 18 4 53 236++
 dg q94 q94 (top 8) (.str q17 194) 20 2 58 242++
 [tpO [(.type UD)],(bO q39 (.type "type")),(dO #[(de P q12 257 (.str q58 248)),(de P q68 259 (.str V5 258)),(de P q4 261 (.int 26 260)),(dr P q2 262 70)] 4),tpO [],fdO [],(cO V5 252 V5 253 254 26 66 181 67 255 26 256),(gO 68 3 65 (.str q58 248) 0),tpO [],(dO #[(de P q12 257 (.str q58 248)),(de P q4 261 (.int 26 260)),(dr P q2 262 70),(dr P Uw 264 73),(dn P q29 265)] 3),(tyO Nn V5 [(.type UD)] [(r 72),(.type UD),(.type "Exception"),(.type MR),(.type q34)] 71 [(r 85)] 63 250 258),(.mk (.type q177) none (.fields #[(.str Uw 263),(r 72),(.builtin "ExceptionGroup.__weakref__"),.none]) #[]),(uO 72),(bO q19 (r 72)),tpO [(r 72)],(bO q39 (.type "type")),(dO #[(de P q12 275 (.str q58 248)),(de P q68 277 (.str "NoSpan" 276)),(de P q4 279 (.int 28 278)),(dr P q2 280 83)] 4),tpO [],fdO [],(cO "NoSpan" 270 "NoSpan" 271 272 28 79 181 80 273 28 274),(gO 81 3 78 (.str q58 248) 0),tpO [],(dO #[(de P q12 275 (.str q58 248)),(de P q4 279 (.int 28 278)),(dr P q2 280 83),(dn P q29 281)] 2),(tyO Nn "NoSpan" [(r 72)] [(r 85),(r 72),(.type UD),(.type "Exception"),(.type MR),(.type q34)] 84 [] 76 268 276),(uO 85),(bO q19 (r 85))]++
 df q69 q69 (top 13) (.str Kr 284) 31 2 88 286 [q20,"many","worth","step"]++
 df "less" "less" (top 14) (.str Kr 284) 36 2 95 296 ["a","b"]++
 df q33 q33 (top 16) (.str q8 304) 39 2 102 306 ["top",XO]++
 df q95 q95 (top 17) (.str q8 304) 41 3 109 314 ["low","high","grid"]++
 df q30 q30 (top 18) (.str q8 304) 45 2 116 323 ["a","b"]++
 df q23 q23 (top 19) (.str q8 304) 47 2 123 331 ["a","b"]++
 df q40 q40 (top 20) (.str q8 304) 49 3 130 339 ["a","b","grid",Uq]++
 dg q43 q43 (top 21) (.str q8 304) 52 3 137 349++
 df q50 q50 (top 22) (.str q8 304) 59 2 142 355 ["a","many"]++
 df q70 q70 (top 23) (.str q8 304) 61 2 149 363 ["a","b","low","high"]++
 df "hull" "hull" (top 24) (.str q8 304) 67 2 156 373 ["a","b"]++
 df "deep" "deep" (top 25) (.str q8 304) 69 2 163 381 ["a","b"]++
 df Xq Xq (top 26) (.str q8 304) 71 1 170 389 ["a"]++
 df Xm Xm (top 27) (.str q8 304) 73 1 177 396 ["a"]++
 df q36 q36 (top 29) (.str q11 403) 76 1 184 405 ["span"]++
 df q49 q49 (top 30) (.str q11 403) 78 1 191 412 ["pair"]++
 df Xo Xo (top 31) (.str q11 403) 80 2 198 419 ["one",Y7]++
 df q31 q31 (top 32) (.str q11 403) 86 3 205 427 ["x","low","high"]++
 df q73 q73 (top 33) (.str q11 403) 90 2 212 436 ["top",XO]++
 df q37 q37 (top 34) (.str q11 403) 92 3 219 444 [Uq,"x","y","low_by","high_by","low","high"]++
 df q44 q44 (top 35) (.str q11 403) 98 4 226 457 ["z","x","y","grid",Uq,"left","turned"]++
 df q45 q45 (top 36) (.str q11 403) 109 2 233 470 [q20,"many","guess","better"]++
 df q51 q51 (top 37) (.str q11 403) 118 3 240 480 ["guess",q20,"many"]++
 df "root" "root" (top 38) (.str q11 403) 120 2 247 489 [q20,"many","below"]++
 df q52 q52 (top 39) (.str q11 403) 127 4 254 498 ["z","x","many","grid","scale","powers","low","high"]++
 [tpO [],(bO q39 (.type "type")),(dO #[(de P q12 521 (.str q0 512)),(de P q68 523 (.str "Node" 522)),(de P q4 525 (.int 138 524)),(dr P q2 526 268)] 4),tpO [],fdO [],(cO "Node" 516 "Node" 517 518 138 264 181 265 519 138 520),(gO 266 3 263 (.str q0 512) 0),tpO [],(dO #[(de P q12 521 (.str q0 512)),(de P q4 525 (.int 138 524)),(dr P q2 526 268),(dr P "__dict__" 528 271),(dr P Uw 530 272),(dn P q29 531)] 4),(.mk (.type "type") none (.cls (PySem.ClassData.mk "Node" [(.type q34)] [(r 270),(.type q34)] 269 "Node" Bool.true [] [(r 319),(r 364),(r 395),(r 581)] Bool.false none Bool.false)) #[none,none,(some (.str "Node" 514)),(some (.str "Node" 522)),(some (.builtin q18)),(some (.bool Bool.true))]),(.mk (.type q177) none (.fields #[(.str "__dict__" 527),(r 270),(.builtin "function.__dict__"),(.builtin "function.__dict__#set")]) #[]),(.mk (.type q177) none (.fields #[(.str Uw 529),(r 270),(.builtin "ExceptionGroup.__weakref__"),.none]) #[]),(uO 270),(bO q19 (r 270)),tpO [(r 270)],(bO q39 (.type "type")),(dO #[(de P q12 541 (.str q0 512)),(de P q68 543 (.str VV 542)),(de P q4 545 (.int 140 544)),(dr P q3 554 288),(dr P q47 563 295),(dr P q6 574 302),(dr P "back" 584 309),(dr P q14 595 316),(dr P q2 598 317)] 9),tpO [],fq [(142,287),(146,294),(149,301),(153,308),(156,315)] 4,(cO VV 536 VV 537 538 140 278 181 279 539 140 540),(gO 280 3 277 (.str q0 512) 0)]++
 df q3 SX (Zq (top 42) 0) (.str q0 512) 142 3 282 546 ["self","top",XO]++
 df q47 "Number.exact" (Zq (top 42) 1) (.str q0 512) 146 3 289 555 ["self",q28,"point"]++
 df q6 U0 (Zq (top 42) 2) (.str q0 512) 149 4 296 564 ["self",q9,"box","grid",q20]++
 df "back" Rk (Zq (top 42) 3) (.str q0 512) 153 4 303 575 ["self",q9,"here","grid"]++
 df q14 SM (Zq (top 42) 4) (.str q0 512) 156 5 310 585 ["self",q9,q59,Wd,"grid"]++
 [tpO [(.str XO 596),(.str "top" 597)],(dO #[(de P q12 541 (.str q0 512)),(de P q4 545 (.int 140 544)),(dr P q3 554 288),(dr P q47 563 295),(dr P q6 574 302),(dr P "back" 584 309),(dr P q14 595 316),(dr P q2 598 317),(dn P q29 599)] 2),(tyO q18 VV [(r 270)] [(r 319),(r 270),(.type q34)] 318 [] 275 534 542),(uO 319),(bO q19 (r 319)),tpO [(r 270)],(bO q39 (.type "type")),(dO #[(de P q12 609 (.str q0 512)),(de P q68 611 (.str VM 610)),(de P q4 613 (.int 158 612)),(dr P q3 621 335),(dr P q47 630 342),(dr P q6 640 349),(dr P "back" 650 356),(dr P q14 656 361),(dr P q2 658 362)] 9),tpO [],fq [(160,334),(163,341),(166,348),(169,355),(172,360)] 4,(cO VM 604 VM 605 606 158 325 181 326 607 158 608),(gO 327 3 324 (.str q0 512) 0)]++
 df q3 Tq (Zq (top 43) 0) (.str q0 512) 160 2 329 614 ["self",Wv]++
 df q47 "Unknown.exact" (Zq (top 43) 1) (.str q0 512) 163 3 336 622 ["self",q28,"point"]++
 df q6 Se (Zq (top 43) 2) (.str q0 512) 166 4 343 631 ["self",q9,"box","grid"]++
 df "back" U2 (Zq (top 43) 3) (.str q0 512) 169 4 350 641 ["self",q9,"here","grid"]++
 dg q14 UW (Zq (top 43) 4) (.str q0 512) 172 5 357 651++
 [tpO [(.str Wv 657)],(dO #[(de P q12 609 (.str q0 512)),(de P q4 613 (.int 158 612)),(dr P q3 621 335),(dr P q47 630 342),(dr P q6 640 349),(dr P "back" 650 356),(dr P q14 656 361),(dr P q2 658 362),(dn P q29 659)] 2),(tyO q18 VM [(r 270)] [(r 364),(r 270),(.type q34)] 363 [] 322 602 610),(uO 364),(bO q19 (r 364)),tpO [(r 270)],(bO q39 (.type "type")),(dO #[(de P q12 669 (.str q0 512)),(de P q68 671 (.str "Pair" 670)),(de P q4 673 (.int 174 672)),(dr P q3 682 380),(dr P "back" 694 387),(dr P q14 700 392),(dr P q2 703 393)] 7),tpO [],fq [(176,379),(180,386),(190,391)] 4,(cO "Pair" 664 "Pair" 665 666 174 370 181 371 667 174 668),(gO 372 3 369 (.str q0 512) 0)]++
 df q3 q38 (Zq (top 44) 0) (.str q0 512) 176 3 374 674 ["self","one",Y7]++
 df "back" WQ (Zq (top 44) 1) (.str q0 512) 180 4 381 683 ["self",q9,"here","grid","x","y"]++
 dg q14 q91 (Zq (top 44) 2) (.str q0 512) 190 5 388 695++
 [tpO [(.str "one" 701),(.str Y7 702)],(dO #[(de P q12 669 (.str q0 512)),(de P q4 673 (.int 174 672)),(dr P q3 682 380),(dr P "back" 694 387),(dr P q14 700 392),(dr P q2 703 393),(dn P q29 704)] 2),(tyO q18 "Pair" [(r 270)] [(r 395),(r 270),(.type q34)] 394 [(r 442),(r 489),(r 536)] 367 662 670),(uO 395),(bO q19 (r 395)),tpO [(r 395)],(bO q39 (.type "type")),(dO #[(de P q12 714 (.str q0 512)),(de P q68 716 (.str "Plus" 715)),(de P q4 718 (.int 194 717)),(dr P q47 727 411),(dr P q6 737 418),(dr P q13 748 425),(dr P q10 759 432),(dr P q5 771 439),(dr P q2 772 440)] 9),tpO [],fq [(196,410),(199,417),(202,424),(205,431),(208,438)] 4,(cO "Plus" 709 "Plus" 710 711 194 401 181 402 712 194 713),(gO 403 3 400 (.str q0 512) 0)]++
 df q47 "Plus.exact" (Zq (top 45) 0) (.str q0 512) 196 3 405 719 ["self",q28,"point"]++
 df q6 Td (Zq (top 45) 1) (.str q0 512) 199 4 412 728 ["self",q9,"box","grid"]++
 df q13 Sf (Zq (top 45) 2) (.str q0 512) 202 5 419 738 ["self","here","x","y","grid"]++
 df q10 Tb (Zq (top 45) 3) (.str q0 512) 205 5 426 749 ["self","here","x","y","grid"]++
 df q5 q92 (Zq (top 45) 4) (.str q0 512) 208 6 433 760 ["self","x","y","a","b","grid"]++
 [tpO [],(dO #[(de P q12 714 (.str q0 512)),(de P q4 718 (.int 194 717)),(dr P q47 727 411),(dr P q6 737 418),(dr P q13 748 425),(dr P q10 759 432),(dr P q5 771 439),(dr P q2 772 440),(dn P q29 773)] 2),(tyO q18 "Plus" [(r 395)] [(r 442),(r 395),(r 270),(.type q34)] 441 [] 398 707 715),(uO 442),(bO q19 (r 442)),tpO [(r 395)],(bO q39 (.type "type")),(dO #[(de P q12 783 (.str q0 512)),(de P q68 785 (.str "Minus" 784)),(de P q4 787 (.int 210 786)),(dr P q47 796 458),(dr P q6 806 465),(dr P q13 817 472),(dr P q10 828 479),(dr P q5 840 486),(dr P q2 841 487)] 9),tpO [],fq [(212,457),(215,464),(218,471),(221,478),(224,485)] 4,(cO "Minus" 778 "Minus" 779 780 210 448 181 449 781 210 782),(gO 450 3 447 (.str q0 512) 0)]++
 df q47 "Minus.exact" (Zq (top 46) 0) (.str q0 512) 212 3 452 788 ["self",q28,"point"]++
 df q6 So (Zq (top 46) 1) (.str q0 512) 215 4 459 797 ["self",q9,"box","grid"]++
 df q13 Ta (Zq (top 46) 2) (.str q0 512) 218 5 466 807 ["self","here","x","y","grid"]++
 df q10 SG (Zq (top 46) 3) (.str q0 512) 221 5 473 818 ["self","here","x","y","grid"]++
 df q5 q86 (Zq (top 46) 4) (.str q0 512) 224 6 480 829 ["self","x","y","a","b","grid"]++
 [tpO [],(dO #[(de P q12 783 (.str q0 512)),(de P q4 787 (.int 210 786)),(dr P q47 796 458),(dr P q6 806 465),(dr P q13 817 472),(dr P q10 828 479),(dr P q5 840 486),(dr P q2 841 487),(dn P q29 842)] 2),(tyO q18 "Minus" [(r 395)] [(r 489),(r 395),(r 270),(.type q34)] 488 [] 445 776 784),(uO 489),(bO q19 (r 489)),tpO [(r 395)],(bO q39 (.type "type")),(dO #[(de P q12 852 (.str q0 512)),(de P q68 854 (.str "Times" 853)),(de P q4 856 (.int 226 855)),(dr P q47 865 505),(dr P q6 875 512),(dr P q13 886 519),(dr P q10 897 526),(dr P q5 909 533),(dr P q2 910 534)] 9),tpO [],fq [(228,504),(231,511),(234,518),(237,525),(240,532)] 4,(cO "Times" 847 "Times" 848 849 226 495 181 496 850 226 851),(gO 497 3 494 (.str q0 512) 0)]++
 df q47 "Times.exact" (Zq (top 47) 0) (.str q0 512) 228 3 499 857 ["self",q28,"point"]++
 df q6 TK (Zq (top 47) 1) (.str q0 512) 231 4 506 866 ["self",q9,"box","grid"]++
 df q13 Tx (Zq (top 47) 2) (.str q0 512) 234 5 513 876 ["self","here","x","y","grid"]++
 df q10 Ra (Zq (top 47) 3) (.str q0 512) 237 5 520 887 ["self","here","x","y","grid"]++
 df q5 q87 (Zq (top 47) 4) (.str q0 512) 240 6 527 898 ["self","x","y","a","b","grid"]++
 [tpO [],(dO #[(de P q12 852 (.str q0 512)),(de P q4 856 (.int 226 855)),(dr P q47 865 505),(dr P q6 875 512),(dr P q13 886 519),(dr P q10 897 526),(dr P q5 909 533),(dr P q2 910 534),(dn P q29 911)] 2),(tyO q18 "Times" [(r 395)] [(r 536),(r 395),(r 270),(.type q34)] 535 [] 492 845 853),(uO 536),(bO q19 (r 536)),tpO [(r 270)],(bO q39 (.type "type")),(dO #[(de P q12 921 (.str q0 512)),(de P q68 923 (.str "Power" 922)),(de P q4 925 (.int 242 924)),(dr P q3 934 552),(dr P q47 943 559),(dr P q6 953 566),(dr P "back" 964 573),(dr P q14 970 578),(dr P q2 973 579)] 9),tpO [],fq [(244,551),(248,558),(251,565),(254,572),(260,577)] 4,(cO "Power" 916 "Power" 917 918 242 542 181 543 919 242 920),(gO 544 3 541 (.str q0 512) 0)]++
 df q3 Tr (Zq (top 48) 0) (.str q0 512) 244 3 546 926 ["self","one","many"]++
 df q47 "Power.exact" (Zq (top 48) 1) (.str q0 512) 248 3 553 935 ["self",q28,"point"]++
 df q6 Tu (Zq (top 48) 2) (.str q0 512) 251 4 560 944 ["self",q9,"box","grid"]++
 df "back" Tz (Zq (top 48) 3) (.str q0 512) 254 4 567 954 ["self",q9,"here","grid","x"]++
 dg q14 SV (Zq (top 48) 4) (.str q0 512) 260 5 574 965++
 [tpO [(.str "many" 971),(.str "one" 972)],(dO #[(de P q12 921 (.str q0 512)),(de P q4 925 (.int 242 924)),(dr P q3 934 552),(dr P q47 943 559),(dr P q6 953 566),(dr P "back" 964 573),(dr P q14 970 578),(dr P q2 973 579),(dn P q29 974)] 2),(tyO q18 "Power" [(r 270)] [(r 581),(r 270),(.type q34)] 580 [] 539 914 922),(uO 581),(bO q19 (r 581))]++
 df q71 q71 (top 49) (.str q0 512) 264 1 584 977 ["node"]++
 df q28 q28 (top 51) (.str U1 984) 277 3 591 986 [q16,"box","grid","found","node"]++
 df "bars" "bars" (top 52) (.str U1 984) 282 2 598 997 ["word","span"]++
 df "sure" "sure" (top 53) (.str U1 984) 286 2 605 1005 ["word","span"]++
 df Xk Xk (top 55) (.str "boxnarrow.sloping" 1013) 291 3 612 1015 [q16,"box","grid",q9,"found","node"]++
 dg q25 q25 (top 57) (.str q7 1027) 298 1 619 1029++
 dg Xf Xf (top 58) (.str q7 1027) 300 2 624 1035++
 dg q85 q85 (top 59) (.str q7 1027) 302 1 629 1041++
 dg q21 q21 (top 60) (.str q7 1027) 304 1 634 1047++
 df q22 q22 (top 61) (.str q7 1027) 306 3 639 1053 ["ones","others","grid","total","one",Y7]++
 dg q96 q96 (top 62) (.str q7 1027) 311 5 646 1065++
 dg q97 q97 (top 63) (.str q7 1027) 315 6 651 1071++
 dg q98 q98 (top 64) (.str q7 1027) 322 5 656 1077++
 df q42 q42 (top 65) (.str q7 1027) 324 4 661 1083 [q16,WS,"box","grid"]++
 df q63 q63 (top 66) (.str q7 1027) 326 4 668 1093 [q16,WS,"box","grid"]++
 dg q26 q26 (top 67) (.str q7 1027) 328 2 675 1103++
 dg q74 q74 (top 68) (.str q7 1027) 330 2 680 1109++
 dg Xs Xs (top 69) (.str q7 1027) 332 4 685 1115++
 df q75 q75 (top 71) (.str TU 1121) 345 2 690 1123 ["word","span"]++
 df q53 q53 (top 72) (.str TU 1121) 349 4 697 1131 [q16,"row","box","grid","at",q9,"wished",q20,"left","part"]++
 df q76 q76 (top 73) (.str TU 1121) 363 4 704 1147 [q16,"row","box","grid",q9,"left",q20,"span","node"]++
 df q54 q54 (top 75) (.str q24 1162) 374 3 711 1164 ["box","k","span"]++
 df q55 q55 (top 76) (.str q24 1162) 376 4 718 1173 [q16,"row","box","grid","at"]++
 df q99 q99 (top 77) (.str q24 1162) 379 2 725 1184 ["span","cut"]++
 df q77 q77 (top 78) (.str q24 1162) 381 2 732 1192 ["span","cut"]++
 df q78 q78 (top 79) (.str q24 1162) 383 5 739 1200 [q16,"row","box","grid","cut","k","span"]++
 df Xr Xr (top 80) (.str q24 1162) 389 4 746 1213 [q16,"row","box","grid","left","wished","cuts","k","span","cut"]
noncomputable def S1:=mS 12 mO1 753 1231
theorem p1_eq (w:World):(λos=>segRunT treeTable QW w 11 (some (.ref 6)) 1 5154 (S0 w os) (piecesOf (bI.take 82) ev cE ⟨0,0,0,0⟩ fT))=λos=>some (.next,S1 w os,cE,⟨403,0,403,8⟩):=by kernel_rfl
theorem zea (w:World):(λos=>(L3.frc (L3.mkB 12 (mO1 w.params)) λT=>L3.goT treeTable QW w 11 (some (.ref 6)) 2934 ⟨T,753,(boot_heap w.params).life,Array.mk [],boot_drawn,1231,os⟩ (restOf (bI.drop 82) ev cE ⟨403,0,403,8⟩ fT)).map λs=>(L3.GY QW w s))=λ_=>some (true):=by kernel_rfl
theorem zfk (w:World):(λos=>(L3.frc (L3.mkB 12 (mO1 w.params)) λT=>L3.goT treeTable QW w 11 (some (.ref 6)) 2934 ⟨T,753,(boot_heap w.params).life,Array.mk [],boot_drawn,1231,os⟩ (restOf (bI.drop 82) ev cE ⟨403,0,403,8⟩ fT)).map λs=>(seen ((recsOf vw).map (·.name)) (ownsOf vw) [] { s.abs with gens:=#[] }))=λ_=>some (expectedOf vw):=by kernel_rfl
theorem zb9 (w:World):(λos=>(L3.frc (L3.mkB 12 (mO1 w.params)) λT=>L3.goT treeTable QW w 11 (some (.ref 6)) 2934 ⟨T,753,(boot_heap w.params).life,Array.mk [],boot_drawn,1231,os⟩ (restOf (bI.drop 82) ev cE ⟨403,0,403,8⟩ fT)).map λs=>(s.abs.heap.bltView))=λ_=>some (bltViewBooted):=by kernel_rfl
theorem zfL (w:World):(λos=>(L3.frc (L3.mkB 12 (mO1 w.params)) λT=>L3.goT treeTable QW w 11 (some (.ref 6)) 2934 ⟨T,753,(boot_heap w.params).life,Array.mk [],boot_drawn,1231,os⟩ (restOf (bI.drop 82) ev cE ⟨403,0,403,8⟩ fT)).map λs=>(s.abs.heap.keysOk (looseW vw []) ((recsOf vw).map (·.name)) ((litsOf vw).map (·.1)) ((clssOf vw (looseW vw [])).map (·.name))&&s.abs.heap.accountedOkI (importedModules QW.main.body)&&s.abs.heap.isNs mainGlobals&&s.abs.heap.isNs builtinsNs&&tablesOk vw s.abs.heap&&xt s.abs&&(if true then s.abs.gens.size==0 else !leftWithCleanup s.abs.gens)))=λ_=>some (true):=by kernel_rfl
theorem zfl (w:World):(λos=>(L3.frc (L3.mkB 12 (mO1 w.params)) λT=>L3.goT treeTable QW w 11 (some (.ref 6)) 2934 ⟨T,753,(boot_heap w.params).life,Array.mk [],boot_drawn,1231,os⟩ (restOf (bI.drop 82) ev cE ⟨403,0,403,8⟩ fT)).map λs=>(tabsOk vw s.abs))=λ_=>some (true):=by kernel_rfl
theorem zde (w:World):(λos=>(L3.frc (L3.mkB 12 (mO1 w.params)) λT=>L3.goT treeTable QW w 11 (some (.ref 6)) 2934 ⟨T,753,(boot_heap w.params).life,Array.mk [],boot_drawn,1231,os⟩ (restOf (bI.drop 82) ev cE ⟨403,0,403,8⟩ fT)).map λs=>(pinSeenD vw (drecsOf vw) s.abs,plainSeenE vw (looseW vw []) s.abs,plainSeenD vw [] s.abs,wideSeen vw s.abs,clsSeenW vw [] s.abs))=λ_=>some (pinGoodD (drecsOf vw),plainGoodE vw (looseW vw []),plainGoodD vw [],wideGood vw,clsGoodW vw []):=by kernel_rfl
theorem ob_eq (w:World):(λos=>(L3.frc (L3.mkB 12 (mO1 w.params)) λT=>L3.goT treeTable QW w 11 (some (.ref 6)) 2934 ⟨T,753,(boot_heap w.params).life,Array.mk [],boot_drawn,1231,os⟩ (restOf (bI.drop 82) ev cE ⟨403,0,403,8⟩ fT)).map λs=>ks.map (L3.Ke s))=λ_=>some (hk.val w):=by kernel_rfl
theorem left:LeftO QW vw [] xt hk.obs hk.val 8101:=L3.zdm (L3.zg4 ks) Fw (by decide) fe_eq si_eq (λw os _ r=>L3.AL rfl (congrFun (zdu w) os) (congrFun (zdD w) os) (by decide) (L3.zf6 (congrFun (p1_eq w) os) (L3.BY ((L3.GZ _ _).symm.trans r)))) (λw=>L3.JI (zea w) (zfk w)) (λw=>L3.JI (zb9 w) (zfL w)) (λw=>L3.JI (zfl w) (zde w)) ob_eq
end Mine
namespace L2
open PySem PySem.Spec PyProof.Rows
abbrev Key:=Sum Int Str
def CS:Key->Value->Bool
 | .inl k,v=>Value.isInt k v
 | .inr x,v=>Value.isStrOf x v
def keyH (w:World):Key->Int
 | .inl k=>hashInt k
 | .inr x=>hashStr w x
theorem Vd:∀ {k:Key} {v:Value},CS k v=true->(∃i t,k=Sum.inl i/\v=Value.int i t)\/(∃x t,k=Sum.inr x/\v=Value.str x t)
 | .inl i,v,h=>by
  obtain⟨t,e⟩:=Value.isInt_shape (k:=i) (v:=v) h;exact .inl ⟨i,t,rfl,e⟩
 | .inr x,v,h=>by
  obtain⟨t,e⟩:=Value.isStrOf_shape (x:=x) (v:=v) h;exact .inr ⟨x,t,rfl,e⟩
theorem zfd (a b:Int):decide ((Sum.inl a:Key)=Sum.inl b)=(a==b):=by
 by_cases e:a=b
 .subst e;simp
 .have h:¬ (Sum.inl a:Key)=Sum.inl b:=λq=>e (Sum.inl.inj q)
  rw[decide_eq_false h];exact(beq_eq_false_iff_ne.mpr e).symm
theorem zcs (a b:Str):decide ((Sum.inr a:Key)=Sum.inr b)=decide (a=b):=by
 by_cases e:a=b
 .subst e;simp
 .have h:¬ (Sum.inr a:Key)=Sum.inr b:=λq=>e (Sum.inr.inj q)
  rw[decide_eq_false h,decide_eq_false e]
theorem zfw (a:Int)(b:Str):decide ((Sum.inl a:Key)=Sum.inr b)=false:=decide_eq_false (λq=>nomatch q)
theorem zaG (a:Str)(b:Int):decide ((Sum.inr a:Key)=Sum.inl b)=false:=decide_eq_false (λq=>nomatch q)
def Cn (prog:Program)(w:World):PySem.KeyKind prog w Key where
 is:=CS
 hash:=keyH w
 inj:=λv a b ha hb=>by
  rcases Vd ha with ⟨i,t,rfl,rfl⟩|⟨x,t,rfl,rfl⟩
  .rcases Vd hb with ⟨j,u,rfl,e⟩|⟨y,u,rfl,e⟩
   .injection e with e1 _;rw[e1]
   .exact nomatch e
  .rcases Vd hb with ⟨j,u,rfl,e⟩|⟨y,u,rfl,e⟩
   .exact nomatch e
   .injection e with e1 _;rw[e1]
 byValue:=λk v h=>by
  rcases Vd h with ⟨i,t,rfl,rfl⟩|⟨x,t,rfl,rfl⟩<;>rfl
 pyHash:=λhv h=>by
  rcases Vd hv with ⟨i,t,rfl,rfl⟩|⟨x,t,rfl,rfl⟩
  .exact wpAny_pyHash_int h
  .exact wpAny_pyHash_str h
 eqBool:=λhu hv h=>by
  rcases Vd hu with ⟨i,t,rfl,rfl⟩|⟨x,t,rfl,rfl⟩
  .rcases Vd hv with ⟨j,u,rfl,rfl⟩|⟨y,u,rfl,rfl⟩
   .rw[zfd] at h;exact wpAny_eqBool_int h
   .rw[zfw] at h;exact SeqAt.EqAt.int_str i t y u _ _ _ _ h
  .rcases Vd hv with ⟨j,u,rfl,rfl⟩|⟨y,u,rfl,rfl⟩
   .rw[zaG] at h;exact SeqAt.EqAt.str_int x t j u _ _ _ _ h
   .rw[zcs] at h;exact wpAny_eqBool_str h
 «strs»:=λk x t v h=>by
  rcases Vd h with ⟨i,u,rfl,e⟩|⟨y,u,rfl,e⟩
  .exact nomatch e
  .injection e with e1 _
   subst e1;cases v<;>rfl
set_option genInjectivity true in
inductive V where
 | non|bl (b:Bool)|int (i:Int)|str (x:Str)|byt (b:Array UInt8)|flt (b:UInt64)|ref (a:Addr)|ty (n:String)
 deriving DecidableEq
def ZD:V->Value->Prop
 | .non,u=>u=Value.none
 | .bl b,u=>u=Value.bool b
 | .int i,u=>∃t,u=Value.int i t
 | .str x,u=>∃t,u=Value.str x t
 | .byt b,u=>∃t,u=Value.bytes b t
 | .flt b,u=>∃t,u=Value.float b t
 | .ref a,u=>u=Value.ref a
 | .ty n,u=>u=Value.type n
abbrev ZC:List V->List Value->Prop:=Paired ZD
theorem ZC.length {xs:List V}{us:List Value}(r:ZC xs us):xs.length=us.length:=Paired.length r
theorem ZC.get:∀ {xs:List V} {us:List Value} {i:Nat} {x:V},ZC xs us->xs[i]?=some x->∃u,us[i]?=some u/\ZD x u
 | _,_,_,_,.nil,e=>by simp at e
 | _,_,0,_,.cons r _,e=>by simp at e;subst e;exact⟨_,rfl,r⟩
 | _,_,i+1,x,.cons _ t,e=>by
  obtain⟨u,h1,h2⟩:=ZC.get (i:=i) (x:=x) t (by simpa using e);exact⟨u,by simpa using h1,h2⟩
theorem ZC.set {x:V}{u:Value}(r:ZD x u):∀ {xs:List V} {us:List Value} (i:Nat),ZC xs us->ZC (xs.set i x) (us.set i u)
 | _,_,_,.nil=>.nil
 | _,_,0,.cons _ t=>.cons r t
 | _,_,i+1,.cons q t=>.cons q (ZC.set r i t)
theorem ZC.append:∀ {xs ys:List V} {us ws:List Value},ZC xs us->ZC ys ws->ZC (xs++ys) (us++ws)
 | _,_,_,_,.nil,s=>s
 | _,_,_,_,.cons r t,s=>.cons r (ZC.append t s)
theorem ZC.take:∀ {xs:List V} {us:List Value} (n:Nat),ZC xs us->ZC (xs.take n) (us.take n)
 | _,_,0,_=>.nil
 | _,_,_+1,.nil=>.nil
 | _,_,n+1,.cons r t=>.cons r (ZC.take n t)
theorem ZC.drop:∀ {xs:List V} {us:List Value} (n:Nat),ZC xs us->ZC (xs.drop n) (us.drop n)
 | _,_,0,r=>r
 | _,_,_+1,.nil=>.nil
 | _,_,n+1,.cons _ t=>ZC.drop n t
def WO:Option V->Option Value->Prop
 | some v,some u=>ZD v u
 | none,none=>True
 | _,_=>False
def KV {κ:Type}:List (κ×V)->List (κ×Value)->Prop:=Paired λ(p:κ×V)(q:κ×Value)=>p.1=q.1/\ZD p.2 q.2
def kV:Key->V
 | .inl i=>.int i
 | .inr x=>.str x
inductive HO where
  | lst (xs:List V)
  | tup (xs:List V)
  | dK (aV:List (Key×V))|dT (aV:List (List Key×V))
  | set (S:Int->Bool) (n:Nat)
  | ins (C dx:Addr) (fs:List (Str×V))
  | own (x:Addr)
  | xd (fs:List (Str×V))
  | met (f x:Addr)
  | rng (lo hi:Int)
  | frz (o:Obj) (u:HO)
  | tbl (ps:Array Value)
  | ext (φ:Heap->Prop)
abbrev Hp:=Addr->Option HO
def upd (H:Hp)(a:Addr)(o:HO):Hp:=λb=>if b=a then some o else H b
theorem YH {H:Hp}{a:Addr}{o:HO}:upd H a o a=some o:=by unfold upd;rw[if_pos rfl]
theorem Z1 {H:Hp}{a b:Addr}{o:HO}(h:b≠a):upd H a o b=H b:=by unfold upd;rw[if_neg h]
theorem Gv {H:Hp}{a b:Addr}{o u:HO}(h:H a=some o)(h':H b=some u)(d:o≠u):a≠b:=by
 intro e;subst e;rw[h] at h';exact d (Option.some.inj h')
theorem VF {H:Hp}{a b:Addr}{o:HO}(h:H a=some o)(h':H b=none):a≠b:=by
 intro e;subst e;rw[h] at h';cases h'
section
variable (P:Program)(w:World)
def YD (H:Hp)(h:Heap)(a:Addr):HO->Prop
 | .lst xs=>xs.length<=sizeLine/\∃(aX:List Value)(n:Nat),ZC xs aX/\h.get? a=some { cls:=.type "list",data:=.seq aX.toArray n }
 | .tup xs=>xs.length<=sizeLine/\∃aX:List Value,ZC xs aX/\IsTup h a aX.toArray
 | .dK aV=>aV.length<=sizeLine/\(a==sysModules)=false/\∃vs,KV aV vs/\h.DictOf (Cn P w) a vs
 | .dT aV=>aV.length<=sizeLine/\(a==sysModules)=false/\∃xs:List (List Key×Addr×Value),
   Paired (λ(p:List Key×V)(q:List Key×Addr×Value)=>p.1=q.1/\H q.2.1=some (.tup (p.1.map kV))/\ZD p.2 q.2.2) aV xs/\
   ∃o es ep,h.get? a=some o/\o.ExactDict/\o.data=.dict es ep/\es.toList=xs.map (entryOfKey (tupleKind (Cn P w)))/\(xs.map (·.1)).Nodup
 | .set S n=>h.SetOf (intKind P w) a S n
 | .ins C dx fs=>H dx=some (.own a)/\fs.length<=1000/\dx≠a/\h.get? a=some (W.instObj C dx)/\
   ∃mA,h.Ns1 dx mA/\(∀f,WO (fs.lookup f) (mA f))/\PySem.Within mA (fs.map (·.1))
 | .own _=>∃o,h.get? a=some o
 | .xd fs=>∃mA,h.Ns1 a mA/\∀f,WO (fs.lookup f) (mA f)
 | .rng lo hi=>∃t u v,h.get? a=some { cls:=.type "range",data:=.fields #[.int lo t,.int hi u,.int 1 v] }
 | .frz o u=>h.get? a=some o/\YD H h a u
 | .tbl ps=>h.get? a=some { cls:=.none,data:=.fields ps }
 | .met f x=>h.get? a=some (W.methodObj (.ref f) (.ref x))
 | .ext φ=>φ h/\(∃o,h.get? a=some o)/\∀h1 h2:Heap,φ h1->(∀o,h1.get? a=some o->h2.get? a=some o)->φ h2
def HOk (H:Hp)(h:Heap):Prop:=∀a o,H a=some o->YD P w H h a o
end
section
variable {P:Program}{w:World}{H H':Hp}{h h':Heap}{a:Addr}{o:HO}
theorem YD.lt (x:YD P w H h a o):a<h.objs.size:=by
 cases o with
 | lst xs=>obtain⟨_,_,_,_,e⟩:=x;exact Heap.lt_size e
 | tup xs=>obtain⟨_,_,_,p⟩:=x;exact p.lt
 | dK aV=>obtain⟨_,_,_,_,o,_,_,e,_⟩:=x;exact Heap.lt_size e
 | dT aV=>obtain⟨_,_,_,_,o,_,_,e,_⟩:=x;exact Heap.lt_size e
 | set S n=>obtain⟨o,_,_,_,e,_⟩:=x;exact Heap.lt_size e
 | ins C dx fs=>obtain⟨_,_,_,e,_⟩:=x;exact Heap.lt_size e
 | own y=>obtain⟨_,e⟩:=x;exact Heap.lt_size e
 | xd fs=>obtain⟨_,⟨_,_,_,e,_⟩,_⟩:=x;exact Heap.lt_size e
 | rng lo hi=>obtain⟨_,_,_,e⟩:=x;exact Heap.lt_size e
 | frz ob u=>obtain⟨e,_⟩:=x;exact Heap.lt_size e
 | tbl ps=>exact Heap.lt_size (show h.get? a=some _ from x)
 | met f y=>exact Heap.lt_size (show h.get? a=some _ from x)
 | ext φ=>obtain⟨_,⟨_,e⟩,_⟩:=x;exact Heap.lt_size e
theorem Paired.mapP:∀ {l₁:List α} {l₂:List β},Paired F l₁ l₂->(∀a b,F a b->G a b)->Paired G l₁ l₂
 | _,_,.nil,_=>.nil
 | _,_,.cons r t,f=>.cons (f _ _ r) (Paired.mapP t f)
theorem YD.stay (x:YD P w H h a o)(k:∀b u,(b=a\/H b=some (.own a))->h.get? b=some u->h'.get? b=some u)
  (ho:∀b,H b=some (.own a)->H' b=some (.own a))(ht:∀b xs,H b=some (.tup xs)->H' b=some (.tup xs)):YD P w H' h' a o:=by
 induction o with
 | lst xs=>obtain⟨z,aX,n,r,e⟩:=x;exact⟨z,aX,n,r,k _ _ (.inl rfl) e⟩
 | tup xs=>obtain⟨z,aX,r,ob,e,c⟩:=x;exact⟨z,aX,r,ob,k _ _ (.inl rfl) e,c⟩
 | dK aV=>obtain⟨z,y,vs,r,ob,es,ep,e,c⟩:=x;exact⟨z,y,vs,r,ob,es,ep,k _ _ (.inl rfl) e,c⟩
 | dT aV=>
  obtain⟨z,y,xs,r,ob,es,ep,e,c⟩:=x;exact⟨z,y,xs,Paired.mapP r λp q z=>⟨z.1,ht _ _ z.2.1,z.2.2⟩,ob,es,ep,k _ _ (.inl rfl) e,c⟩
 | set S n=>obtain⟨ob,es,ep,t,e,c⟩:=x;exact⟨ob,es,ep,t,k _ _ (.inl rfl) e,c⟩
 | ins C dx fs=>
  obtain⟨d,z,ne,e,mA,⟨od,es,ep,e2,c⟩,r⟩:=x;exact⟨ho _ d,z,ne,k _ _ (.inl rfl) e,mA,⟨od,es,ep,k _ _ (.inr d) e2,c⟩,r⟩
 | own y=>obtain⟨ob,e⟩:=x;exact⟨ob,k _ _ (.inl rfl) e⟩
 | xd fs=>obtain⟨mA,⟨od,es,ep,e,c⟩,r⟩:=x;exact⟨mA,⟨od,es,ep,k _ _ (.inl rfl) e,c⟩,r⟩
 | rng lo hi=>obtain⟨t,u,v,e⟩:=x;exact⟨t,u,v,k _ _ (.inl rfl) e⟩
 | frz ob u ih=>obtain⟨e,q⟩:=x;exact⟨k _ _ (.inl rfl) e,ih q⟩
 | tbl ps=>
  have e:h.get? a=some { cls:=.none,data:=.fields ps }:=x
  show h'.get? a=some { cls:=.none,data:=.fields ps };exact k a _ (.inl rfl) e
 | met f y=>
  have e:h.get? a=some (W.methodObj (.ref f) (.ref y)):=x
  show h'.get? a=some (W.methodObj (.ref f) (.ref y));exact k a _ (.inl rfl) e
 | ext φ=>obtain⟨p,⟨o,e⟩,st⟩:=x;exact⟨st _ _ p λo q=>k _ _ (.inl rfl) q,⟨o,k _ _ (.inl rfl) e⟩,st⟩
theorem HOk.lt (x:HOk P w H h)(e:H a=some o):a<h.objs.size:=(x a o e).lt
theorem HOk.fresh (x:HOk P w H h)(e:h.objs.size<=a):H a=none:=by
 cases q:H a with
 | none=>rfl
 | some u=>exact absurd (zR (x.lt q) e) (yK _)
theorem HOk.kept (x:HOk P w H h)(k:∀b u,h.get? b=some u->h'.get? b=some u):HOk P w H h':=λa o e=>
 (x a o e).stay (λb u _ q=>k b u q) (λ_ q=>q) λ_ _ q=>q
theorem HOk.laid (x:HOk P w H h)(k:∀b u,h.get? b=some u->h'.get? b=some u)(hp:h.objs.size<=a)(new:YD P w (upd H a o) h' a o):HOk P w (upd H a o) h':=λb u e=>by
 have hn:=x.fresh hp;by_cases hb:b=a
 .subst hb;rw[YH] at e;cases e;exact new
 .rw[Z1 hb] at e;exact(x b u e).stay (λc v _ q=>k c v q) (λc q=>by rw[Z1 (VF q hn)];exact q) λc xs q=>by rw[Z1 (VF q hn)];exact q
end
def Rd (H:Hp)(a:Addr)(u:HO):Prop:=H a=some u\/∃o,H a=some (.frz o u)
theorem Rd.ok {P:Program}{w:World}{H:Hp}{h:Heap}{a:Addr}{u:HO}(r:Rd H a u)(x:HOk P w H h):YD P w H h a u:=by
 rcases r with r|⟨o,r⟩
 .exact x a u r
 .obtain⟨_,q⟩:=x a _ r;exact q
def Mut:Option HO->Prop
 | some (.lst _)=>True
 | some (.dK _)=>True
 | some (.dT _)=>True
 | some (.set _ _)=>True
 | some (.ins _ _ _)=>True
 | some (.ext _)=>True
 | _=>False
section
variable {P:Program}{w:World}{H:Hp}{h h':Heap}{x e:Addr}{o':HO}
theorem HOk.write (ok:HOk P w H h)(mu:Mut (H x))(he:e=x\/H e=some (.own x))(k:∀b u,b≠e->h.get? b=some u->h'.get? b=some u)(heo:∃u,h'.get? e=some u)
  (new:YD P w (upd H x o') h' x o'):HOk P w (upd H x o') h':=λb u q=>by
 have nown:∀c y,H c=some (.own y)->c≠x:=λc y r z=>by subst z;rw[r] at mu;exact mu
 have ntup:∀c xs,H c=some (.tup xs)->c≠x:=λc xs r z=>by subst z;rw[r] at mu;exact mu
 by_cases hb:b=x
 .subst hb;rw[YH] at q;cases q;exact new
 .rw[Z1 hb] at q;by_cases hbe:b=e
  .have q':H b=some (.own x):=by
    rcases he with z|z
    .exact absurd (hbe.trans z) hb
    .rw[hbe];exact z
   rw[q] at q';cases q'
   obtain⟨v,hv⟩:=heo;exact⟨v,by rw[hbe];exact hv⟩
  .refine(ok b u q).stay (λc v hc r=>k c v ?_ r) (λc r=>by rw[Z1 (nown c b r)];exact r) λc xs r=>by rw[Z1 (ntup c xs r)];exact r
   rcases hc with rfl|hc
   .exact hbe
   .rintro rfl;rcases he with z|z
    .exact nown c b hc z
    .rw[hc] at z;cases z;exact hb rfl
end
structure Un (fs ex:List Addr)(H H':Hp)(h h':Heap):Prop where
 keep:∀b o,h.get? b=some o->H b=none->b ∉ fs->b ∉ ex->h'.get? b=some o
 slot:∀b o,h.get? b=some o->H b=none->b∈fs->b ∉ ex->∃sl,h'.get? b=some { o with slots:=sl }
 free:∀b o,h.get? b=some o->H b=none->b ∉ ex->H' b=none
 there:∀b o,h.get? b=some o->b ∉ ex->∃o',h'.get? b=some o'
 tups:∀b xs,H b=some (.tup xs)->H' b=some (.tup xs)
 frzs:∀b o u,H b=some (.frz o u)->H' b=some (.frz o u)
 tbls:∀b ps,H b=some (.tbl ps)->∃more,H' b=some (.tbl (ps++more))
theorem Un.any (u:Un fs ex H H1 h h1){b:Addr}{ob:Obj}(q:h.get? b=some ob)(n:H b=none)(hx:b ∉ ex):∃sl,h1.get? b=some { ob with slots:=sl }:=by
 by_cases hb:b∈fs
 .exact u.slot b ob q n hb hx
 .exact⟨ob.slots,u.keep b ob q n hb hx⟩
theorem Un.trans (a:Un fs ex H H1 h h1)(b:Un fs ex H1 H2 h1 h2):Un fs ex H H2 h h2 where
 keep:=λc ob q n hc hx=>b.keep c ob (a.keep c ob q n hc hx) (a.free c ob q n hx) hc hx
 slot:=λc ob q n hc hx=>by
  obtain⟨sl,e1⟩:=a.slot c ob q n hc hx;obtain⟨sl',e2⟩:=b.slot c _ e1 (a.free c ob q n hx) hc hx;exact⟨sl',e2⟩
 free:=λc ob q n hx=>by
  obtain⟨o',e1⟩:=a.there c ob q hx;exact b.free c o' e1 (a.free c ob q n hx) hx
 there:=λc ob q hx=>by
  obtain⟨o',e1⟩:=a.there c ob q hx;exact b.there c o' e1 hx
 tups:=λc xs q=>b.tups c xs (a.tups c xs q)
 frzs:=λc ob xs q=>b.frzs c ob xs (a.frzs c ob xs q)
 tbls:=λc ps q=>by
  obtain⟨m1,e1⟩:=a.tbls c ps q;obtain⟨m2,e2⟩:=b.tbls c _ e1;exact⟨m1++m2,by rw[e2,Array.append_assoc]⟩
theorem Un.kept (k:∀b u,h.get? b=some u->h'.get? b=some u):Un fs ex H H h h':=
 ⟨λb ob q _ _ _=>k b ob q,λb ob q _ _ _=>⟨ob.slots,k b ob q⟩,λ_ _ _ n _=>n,λb ob q _=>⟨ob,k b ob q⟩,λ_ _ q=>q,λ_ _ _ q=>q,λ_ ps q=>⟨#[],by rw[q];simp⟩⟩
theorem Un.refl:Un fs ex H H h h:=Un.kept λ_ _ q=>q
theorem Un.laid (k:∀b u,h.get? b=some u->h'.get? b=some u)(hp:h.objs.size<=a)(hn:H a=none):Un fs ex H (upd H a o) h h' where
 keep:=λb u q _ _ _=>k b u q
 slot:=λb u q _ _ _=>⟨u.slots,k b u q⟩
 free:=λb u q n _=>by rw[Z1 (zM (zR (Heap.lt_size q) hp))];exact n
 there:=λb u q _=>⟨u,k b u q⟩
 tups:=λb xs q=>by rw[Z1 (VF q hn)];exact q
 frzs:=λb u xs q=>by rw[Z1 (VF q hn)];exact q
 tbls:=λb ps q=>⟨#[],by rw[Z1 (VF q hn),q];simp⟩
theorem Un.write (mu:Mut (H x))(he:e=x\/H e=some (.own x))(k:∀b u,b≠e->h.get? b=some u->h'.get? b=some u)(heo:∃u,h'.get? e=some u):Un fs ex H (upd H x o) h h':=by
 have hx:∀b,H b=none->b≠x:=λb n z=>by subst z;rw[n] at mu;exact mu
 have hb:∀b,H b=none->b≠e:=λb n z=>by
  subst z;rcases he with r|r
  .exact hx b n r
  .rw[n] at r;cases r
 have hm:∀b u,H b=some u->¬ Mut (some u)->b≠x:=λb u q nm z=>by subst z;rw[q] at mu;exact nm mu
 refine⟨λb u q n _ _=>k b u (hb b n) q,λb u q n _ _=>⟨u.slots,k b u (hb b n) q⟩,λb u q n _=>by rw[Z1 (hx b n)];exact n,λb u q _=>?_,
  λb xs q=>by rw[Z1 (hm b _ q λz=>z)];exact q,λb u xs q=>by rw[Z1 (hm b _ q λz=>z)];exact q,λb ps q=>⟨#[],by rw[Z1 (hm b _ q λz=>z),q];simp⟩⟩
 by_cases hbe:b=e
 .subst hbe;exact heo
 .exact⟨u,k b u hbe q⟩
theorem Un.mono (u:Un fs ex H H1 h h1)(hs:∀b∈fs,b∈fs')(hx:∀b∈ex,b∈ex'):Un fs' ex' H H1 h h1:=
 ⟨λb ob q n hb he=>u.keep b ob q n (λz=>hb (hs b z)) λz=>he (hx b z),λ_ _ q n _ he=>u.any q n λz=>he (hx _ z),λb ob q n he=>u.free b ob q n λz=>he (hx b z),λb ob q he=>u.there b ob q λz=>he (hx b z),u.tups,u.frzs,u.tbls⟩
def trk (h:Heap)(H:Hp):List Addr:=(List.range h.objs.size).filter λa=>(H a).isSome
def Ww (h:Heap)(H:Hp):Heap:=W.hideAll h (trk h H)
theorem zah (h:Heap)(H:Hp):(Ww h H).objs.size=h.objs.size:=W.hideAll_size _ _
theorem zaB {h:Heap}{H:Hp}{b:Addr}{o:Obj}(e:h.get? b=some o)(n:H b=none):(Ww h H).get? b=some o:=
 W.hideAll_get _ e λhm=>by
  have q:(H b).isSome=true:=(List.mem_filter.mp hm).2;rw[n] at q;simp at q
theorem zgU {h:Heap}{H:Hp}{b:Addr}{o:Obj}(e:(Ww h H).get? b=some o):h.get? b=some o/\H b=none:=by
 have e':h.get? b=some o:=W.of_hideAll (trk h H) e;refine⟨e',?_⟩;cases q:H b with
 | none=>rfl
 | some x=>
  have hm:b∈trk h H:=List.mem_filter.mpr ⟨List.mem_range.mpr (Heap.lt_size e'),by simp[q]⟩
  have z:(Ww h H).get? b=none:=W.hideAll_none (trk h H) hm;rw[z] at e;cases e
def zb8 (g h:Heap)(L:Addr):LA:=(List.range h.objs.size).filterMap λa=>if a=L\/(g.get? a).isSome=true then none else (h.get? a).map λo=>(a,o)
def Ym (g h:Heap)(L d:Addr):LA:=(zb8 g h L).filter λp=>decide (p.1≠d)
structure Mod (K:Fg)(mg:Str->Option Value)(base:Heap):Prop where
 kin:K.In base
 glob:base.Ns mainGlobals mg
 blt:∃mb,base.Ns builtinsNs mb/\∀x:Str,x≠"__name__"->mb x=bootBuiltins x
 nolimit:base.NoLimit
structure Cx where
 prog:Program
 w:World
 K:Fg
 mg:Str->Option Value
 base:Heap
 A:Around
 N:List Str
 s₀:Shared
 H₀:Hp
 env:Env
 outer:List Env
 stack:List Env
 ex:List Addr
 fn:Str->Bool
 calm:Bool
 pn:LA
 xe:Value->Shared->Prop
def frs (l:List Env):List Addr:=l.filterMap (·.frame)
abbrev Cx.fs (X:Cx):List Addr:=frs X.outer
def Vis (sc:Scope)(x:Str):Prop:=sc.names.lookup x=some .local\/sc.names.lookup x=some .cell\/sc.names.lookup x=some .free
def Loc (sc:Scope)(x:Str):Prop:=sc.names.lookup x=some .local\/sc.names.lookup x=some .cell
def Look (env:Env)(h:Heap)(m:Str->Option Value)(x:Str)(u:Value):Prop:=
 (env.kindOf x=some .local/\m x=some u)\/((env.kindOf x=some .cell\/env.kindOf x=some .free)/\∃c,env.cells.lookup x=some c/\h.IsCell c (some u))
structure Cx.Ok (X:Cx):Prop where
 mod:Mod X.K X.mg X.base
 kind:X.env.scope.kind=.function
 glob:X.env.globals=mainGlobals
 blt:X.env.builtins=builtinsNs
 above:X.s₀.heap.objs.size<=X.env.locals
 inj:∀x y c,X.env.cells.lookup x=some c->X.env.cells.lookup y=some c->x=y
 has:∀x,(X.env.kindOf x=some .cell\/X.env.kindOf x=some .free)->∃c,X.env.cells.lookup x=some c
 cab:∀x c,X.fn x=true->X.env.cells.lookup x=some c->X.s₀.heap.objs.size<=c
 hd:X.calm=true->X.A.handled=none
 frames:X.A.frames=some X.stack
 stk:X.stack=X.outer\/(X.stack=X.env::X.outer/\X.env.frame=some X.env.locals)
 exf:∀b∈X.ex,b≠X.env.locals/\∀x c,X.env.cells.lookup x=some c->c≠b
 bs:∀b o,X.base.get? b=some o->X.s₀.heap.get? b=some o/\X.H₀ b=none
 bsz:X.base.objs.size<=X.s₀.heap.objs.size
 noex:∀b o,X.base.get? b=some o->b ∉ X.ex
 exfs:∀b∈X.ex,b ∉ X.fs
 funs:X.s₀.heap.FunFrames X.base X.outer
 frf:∀b∈X.fs,X.H₀ b=none
structure Inv (X:Cx)(pins:LA)(σ:List (Option V))(H:Hp)(s:Shared):Prop where
 ok:X.Ok
 os:s.os=X.s₀.os
 bare:AllBare s.gens
 base:Un X.fs X.ex X.H₀ H X.s₀.heap s.heap
 loc:∃m,s.heap.Ns X.env.locals m/\∀(i:Nat)(x:Str)(v:V),X.N[i]?=some x->σ[i]?=some (some v)->Vis X.env.scope x->∃u,ZD v u/\Look X.env s.heap m x u
 cell:∀x c,X.env.cells.lookup x=some c->∃v,s.heap.IsCell c v
 free:H X.env.locals=none
 freeC:∀x c,X.env.cells.lookup x=some c->H c=none
 pin:∀p∈X.pn++pins,s.heap.get? p.1=some p.2/\H p.1=none/\p.1≠X.env.locals/\p.1 ∉ X.fs/\∀v,p.2.data≠.cell v
 hok:HOk X.prog X.w H s.heap
 len:σ.length=X.N.length
section
variable {X:Cx}{pins:LA}{σ:List (Option V)}{H H':Hp}{s:Shared}{h':Heap}
theorem Cx.Ok.nofr (ok:X.Ok)(e:X.base.get? b=some o):b ∉ X.fs:=λhb=>by
 have:=(ok.funs.mem hb).1;rw[e] at this;cases this
theorem Inv.bs (I:Inv X pins σ H s):∀b o,X.base.get? b=some o->s.heap.get? b=some o/\H b=none:=λb o e=>
 ⟨I.base.keep b o (I.ok.bs b o e).1 (I.ok.bs b o e).2 (I.ok.nofr e) (I.ok.noex b o e),I.base.free b o (I.ok.bs b o e).1 (I.ok.bs b o e).2 (I.ok.noex b o e)⟩
theorem Inv.bk (I:Inv X pins σ H s):∀b o,X.base.get? b=some o->s.heap.get? b=some o:=λb o e=>(I.bs b o e).1
theorem Inv.mod (I:Inv X pins σ H s):Mod X.K X.mg X.base:=I.ok.mod
theorem Inv.kIn (I:Inv X pins σ H s):X.K.In s.heap:=I.ok.mod.kin.keeps I.bk
theorem Inv.nolimit (I:Inv X pins σ H s):s.heap.NoLimit:=I.ok.mod.nolimit.keeps I.bk
theorem Inv.lt (I:Inv X pins σ H s):X.env.locals<s.heap.objs.size:=let ⟨_,hn,_⟩:=I.loc;hn.lt
theorem Inv.sz (I:Inv X pins σ H s):X.s₀.heap.objs.size<=s.heap.objs.size:=yD I.ok.above (yM I.lt)
theorem Inv.nofs (I:Inv X pins σ H s)(h:s.heap.objs.size<=a):a ∉ X.fs:=λhb=>by
 obtain⟨_,o,ho,_⟩:=I.ok.funs.mem hb;exact absurd (zR (Heap.lt_size ho) (yD I.sz h)) (yK _)
theorem Inv.cne (I:Inv X pins σ H s):∀x c,X.env.cells.lookup x=some c->c≠X.env.locals:=λx c e z=>by
 obtain⟨v,o,ho,hd⟩:=I.cell x c e;obtain⟨m,⟨o',es,ep,ho',hd',_⟩,_⟩:=I.loc;rw[z,ho'] at ho;cases ho;rw[hd'] at hd;cases hd
theorem Inv.funs (I:Inv X pins σ H s):s.heap.FunFrames X.base X.outer:=by
 have all:∀(l:List Env),(∀b∈frs l,b∈X.fs)->X.s₀.heap.FunFrames X.base l->s.heap.FunFrames X.base l:=by
  intro l
  induction l with
  | nil=>intro _ _;trivial
  | cons env r ih=>
   intro hs hl;obtain⟨hk,⟨L,o,hf,hn,ho,hd⟩,hr⟩:=hl;have hL:L∈X.fs:=hs L (by unfold frs;rw[List.filterMap_cons,hf];exact yR);obtain⟨sl,e⟩:=I.base.slot L o ho (I.ok.frf L hL) hL λz=>I.ok.exfs L z hL
   exact⟨hk,⟨L,_,hf,hn,e,hd⟩,ih (λb hb=>hs b (by unfold frs;rw[List.filterMap_cons,hf];exact yH _ hb)) hr⟩
 exact all X.outer (λ_ hb=>hb) I.ok.funs
theorem Inv.stack (I:Inv X pins σ H s):s.heap.FunFrames X.base X.stack:=by
 rcases I.ok.stk with e|⟨e,hf⟩
 .rw[e];exact I.funs
 .rw[e];obtain⟨m,hn,_⟩:=I.loc;refine .cons (by rw[I.ok.kind];decide) hf hn ?_ I.funs;exact Heap.get?_none_of_le (yD I.ok.bsz I.ok.above)
theorem Inv.stkSub (I:Inv X pins σ H s):∀b∈frs X.stack,b∈X.env.locals::X.fs:=λb hb=>by
 rcases I.ok.stk with e|⟨e,hf⟩
 .rw[e] at hb;exact yH _ hb
 .rw[e] at hb;unfold frs at hb;rw[List.filterMap_cons,hf] at hb;exact hb
theorem Inv.stkFree (I:Inv X pins σ H s):∀b∈frs X.stack,H b=none:=λb hb=>by
 rcases zO.mp (I.stkSub b hb) with e|hb
 .rw[e];exact I.free
 .obtain⟨_,o,ho,_⟩:=I.ok.funs.mem hb;exact I.base.free b o ho (I.ok.frf b hb) λz=>I.ok.exfs b z hb
theorem Inv.step {g':Array GenState}{t':Nat}{d':Drawn}{ch:List Addr}(I:Inv X pins σ H s)
  (hch:∀b∈ch,(b∈X.ex\/X.s₀.heap.objs.size<=b)/\b≠X.env.locals/\(∀x c,X.env.cells.lookup x=some c->c≠b)/\∀p∈X.pn++pins,p.1≠b)
  (keep:∀b o,b≠X.env.locals->b ∉ X.fs->b ∉ ch->s.heap.get? b=some o->H b=none->h'.get? b=some o)
  (slot:∀b o,b≠X.env.locals->b∈X.fs->b ∉ ch->s.heap.get? b=some o->H b=none->∃sl,h'.get? b=some { o with slots:=sl })(free:∀b o,b ∉ ch->s.heap.get? b=some o->H b=none->H' b=none)
  (there:∀b o,b ∉ ch->s.heap.get? b=some o->∃o',h'.get? b=some o')
  (tups:∀b xs,H b=some (.tup xs)->H' b=some (.tup xs))(frzs:∀b o u,H b=some (.frz o u)->H' b=some (.frz o u))(tbls:∀b ps,H b=some (.tbl ps)->∃more,H' b=some (.tbl (ps++more)))
  (ns:∀m,s.heap.Ns X.env.locals m->h'.Ns X.env.locals m)(hok:HOk X.prog X.w H' h')(hg:AllBare g'):
  Inv X pins σ H' { s with heap:=h',gens:=g',drawn:=d',toks:=t' }:=by
 have neL:∀b o,X.s₀.heap.get? b=some o->b≠X.env.locals:=λb o e=>zM (zR (Heap.lt_size e) I.ok.above)
 have neC:∀b o,X.s₀.heap.get? b=some o->b ∉ X.ex->b ∉ ch:=λb o e hx hb=>by
  rcases (hch b hb).1 with z|z
  .exact hx z
  .exact absurd (zR (Heap.lt_size e) z) (yK _)
 have cellK:∀x c,X.env.cells.lookup x=some c->∀v,s.heap.IsCell c v->h'.IsCell c v:=λx c e v ⟨o,ho,hd⟩=>by
  have nch:c ∉ ch:=λz=>(hch c z).2.2.1 x c e rfl
  by_cases hc:c∈X.fs
  .obtain⟨sl,q⟩:=slot c o (I.cne x c e) hc nch ho (I.freeC x c e);exact⟨_,q,hd⟩
  .exact⟨o,keep c o (I.cne x c e) hc nch ho (I.freeC x c e),hd⟩
 refine⟨I.ok,I.os,hg,⟨λb o e n hb hx=>?_,λb o e n hb hx=>?_,λb o e n hx=>?_,λb o e hx=>?_,λb xs e=>tups b xs (I.base.tups b xs e),λb o xs e=>frzs b o xs (I.base.frzs b o xs e),λb ps e=>?_⟩,?_,λx c e=>?_,?_,λx c e=>?_,λp hp=>?_,hok,I.len⟩
 .exact keep b o (neL b o e) hb (neC b o e hx) (I.base.keep b o e n hb hx) (I.base.free b o e n hx)
 .obtain⟨sl,e1⟩:=I.base.slot b o e n hb hx;obtain⟨sl',e2⟩:=slot b _ (neL b o e) hb (neC b o e hx) e1 (I.base.free b o e n hx);exact⟨sl',e2⟩
 .obtain⟨o',e1⟩:=I.base.there b o e hx;exact free b o' (neC b o e hx) e1 (I.base.free b o e n hx)
 .obtain⟨o',e1⟩:=I.base.there b o e hx;exact there b o' (neC b o e hx) e1
 .obtain⟨m1,e1⟩:=I.base.tbls b ps e;obtain⟨m2,e2⟩:=tbls b _ e1;exact⟨m1++m2,by rw[e2,Array.append_assoc]⟩
 .obtain⟨m,hn,hl⟩:=I.loc;refine⟨m,ns m hn,λi x v e1 e2 e3=>?_⟩;obtain⟨u,r,l⟩:=hl i x v e1 e2 e3;refine⟨u,r,?_⟩;rcases l with l|⟨k,c,e,z⟩
  .exact .inl l
  .exact .inr ⟨k,c,e,cellK x c e _ z⟩
 .obtain⟨v,z⟩:=I.cell x c e;exact⟨v,cellK x c e v z⟩
 .obtain⟨m,⟨o,_,_,ho,_⟩,_⟩:=I.loc;exact free _ o (λz=>(hch _ z).2.1 rfl) ho I.free
 .obtain⟨v,o,ho,hd⟩:=I.cell x c e;exact free c o (λz=>(hch c z).2.2.1 x c e rfl) ho (I.freeC x c e)
 .obtain⟨e,n,ne,nf,d⟩:=I.pin p hp;have nch:p.1 ∉ ch:=λz=>(hch p.1 z).2.2.2 p hp rfl
  exact⟨keep p.1 p.2 ne nf nch e n,free p.1 p.2 nch e n,ne,nf,d⟩
theorem Inv.un {t':Nat}(I:Inv X pins σ H s)(u:Un X.fs [] H H' s.heap h')(hok:HOk X.prog X.w H' h'):Inv X pins σ H' { s with heap:=h',toks:=t' }:=by
 obtain⟨m,⟨o,es,ep,ho,r⟩,_⟩:=id I.loc;obtain⟨sl,hL⟩:=u.any ho I.free (by simp);exact I.step (g':=s.gens) (d':=s.drawn) (ch:=[]) (λ_ z=>nomatch z) (λb o _ hb _ e n=>u.keep b o e n hb (by simp)) (λb o _ hb _ e n=>u.slot b o e n hb (by simp)) (λb o _ e n=>u.free b o e n (by simp)) (λb o _ e=>u.there b o e (by simp)) u.tups u.frzs u.tbls (λm' hm=>by
  obtain⟨o',es',ep',ho',r'⟩:=hm;rw[ho] at ho';cases ho'
  exact⟨_,es',ep',hL,r'⟩) hok I.bare
theorem Inv.call {g':Array GenState}{t':Nat}{d':Drawn}{ch:List Addr}(I:Inv X pins σ H s)(u:Un (frs X.stack) ch H H' s.heap h')(hok:HOk X.prog X.w H' h')(hg:AllBare g')
  (hch:∀b∈ch,(b∈X.ex\/X.s₀.heap.objs.size<=b)/\b≠X.env.locals/\(∀x c,X.env.cells.lookup x=some c->c≠b)/\∀p∈X.pn++pins,p.1≠b):
  Inv X pins σ H' { s with heap:=h',gens:=g',drawn:=d',toks:=t' }:=by
 obtain⟨m,⟨o,es,ep,ho,r⟩,_⟩:=id I.loc;obtain⟨sl,hL⟩:=u.any ho I.free λz=>(hch _ z).2.1 rfl
 exact I.step (ch:=ch) hch (λb o hL hb hc e n=>u.keep b o e n (λz=>(zO.mp (I.stkSub b z)).elim hL hb) hc) (λb o _ _ hc e n=>u.any e n hc) (λb o hc e n=>u.free b o e n hc) (λb o hc e=>u.there b o e hc) u.tups u.frzs u.tbls (λm' hm=>by
  obtain⟨o',es',ep',ho',r'⟩:=hm;rw[ho] at ho';cases ho'
  exact⟨_,es',ep',hL,r'⟩) hok hg
theorem Inv.turned {t':Nat}{it:Addr}(I:Inv X pins σ H s)(k:∀b o,b≠it->s.heap.get? b=some o->h'.get? b=some o)(hn:H it=none)(hL:it≠X.env.locals)
  (h1:it∈X.ex\/X.s₀.heap.objs.size<=it)(h2:∀x c,X.env.cells.lookup x=some c->c≠it)(h3:∀p∈X.pn++pins,p.1≠it):Inv X pins σ H { s with heap:=h',toks:=t' }:=by
 have nit:∀b u,H b=some u->b≠it:=λb u e z=>by rw[z,hn] at e;cases e
 refine I.step (g':=s.gens) (d':=s.drawn) (ch:=[it]) (λb hb=>?_) (λb o _ _ hc e _=>k b o (λz=>hc (by simp[z])) e) (λb o _ _ hc e _=>⟨o.slots,k b o (λz=>hc (by simp[z])) e⟩) (λ_ _ _ _ n=>n)
  (λb o hc e=>⟨o,k b o (λz=>hc (by simp[z])) e⟩) (λ_ _ e=>e) (λ_ _ _ e=>e) (λb ps e=>⟨#[],by rw[e];simp⟩) (λm hm=>?_) (λb u e=>?_) I.bare
 .have e:b=it:=by simpa using hb
  subst e;exact⟨h1,hL,h2,h3⟩
 .obtain⟨o,es,ep,ho,r⟩:=hm;exact⟨o,es,ep,k _ o (Ne.symm hL) ho,r⟩
 .refine(I.hok b u e).stay (λc v hc q=>k c v ?_ q) (λ_ q=>q) λ_ _ q=>q
  rcases hc with z|z
  .rw[z];exact nit b u e
  .exact nit c _ z
theorem Inv.tok (I:Inv X pins σ H s)(t:Nat):Inv X pins σ H { s with toks:=t }:=I.un (h':=s.heap) (t':=t) Un.refl I.hok
theorem Inv.kept {t':Nat}(I:Inv X pins σ H s)(k:∀b u,s.heap.get? b=some u->h'.get? b=some u):Inv X pins σ H { s with heap:=h',toks:=t' }:=I.un (Un.kept k) (I.hok.kept k)
theorem Inv.laid (I:Inv X pins σ H s)(k:∀b u,s.heap.get? b=some u->h'.get? b=some u)(hp:s.heap.objs.size<=a)(new:YD X.prog X.w (upd H a o) h' a o):
  Inv X pins σ (upd H a o) { s with heap:=h',toks:=t' }:=I.un (Un.laid k hp (I.hok.fresh hp)) (I.hok.laid k hp new)
theorem Inv.write (I:Inv X pins σ H s)(mu:Mut (H x))(he:e=x\/H e=some (.own x))(k:∀b u,b≠e->s.heap.get? b=some u->h'.get? b=some u)(heo:∃u,h'.get? e=some u)(new:YD X.prog X.w (upd H x o) h' x o):Inv X pins σ (upd H x o) { s with heap:=h',toks:=t' }:=I.un (Un.write mu he k heo) (I.hok.write mu he k heo new)
theorem Inv.pins_of (I:Inv X pins σ H s)(h:∀p∈pins',s.heap.get? p.1=some p.2/\H p.1=none/\p.1≠X.env.locals/\p.1 ∉ X.fs/\∀v,p.2.data≠.cell v):Inv X pins' σ H s:=
 ⟨I.ok,I.os,I.bare,I.base,I.loc,I.cell,I.free,I.freeC,λp hp=>(zY.mp hp).elim (λz=>I.pin p (List.mem_append_left _ z)) (h p),I.hok,I.len⟩
theorem Bt {N:List Str}(hN:N.Nodup){i j:Nat}{x:Str}(a:N[i]?=some x)(b:N[j]?=some x):i=j:=by
 obtain⟨h1,e1⟩:=zB.mp a;obtain⟨h2,e2⟩:=zB.mp b;exact(List.getElem_inj hN).mp (e1.trans e2.symm)
theorem DZ {M:Model}{A:Around}{E:Value->Shared->Prop}{i:Nat}{x:Str}{v:V}{u:Value}{Q:Unit->Shared->Prop}(I:Inv X pins σ H s)(hN:X.N.Nodup)(hi:X.N[i]?=some x)(hx:Loc X.env.scope x)(r:ZD v u)
  (h:∀s',Inv X pins (σ.set i (some v)) H s'->(∃a,Heap.SameBut a s.heap s'.heap/\(a=X.env.locals\/X.env.cells.lookup x=some a))->Q () s')(hf:X.fn x=true\/X.env.scope.names.lookup x=some .local:=by first|exact .inl rfl|exact .inr rfl|assumption):wpAny M A (storeName X.env x u) Q E s:=by
 obtain⟨m,hn,hl⟩:=id I.loc;have hcls:(X.env.scope.kind==.class||(X.env.scope.kind==.module&&X.env.locals != X.env.globals))=false:=by rw[I.ok.kind];rfl
 have hiσ:i<σ.length:=by rw[I.len];exact(zB.mp hi).1
 have cne:=I.cne
 have tracked:∀ {a:Addr} {h':Heap},(∃o,s.heap.get? a=some o/\H a=none)->Heap.SameBut a s.heap h'->HOk X.prog X.w H h':=λ{a h'} ha hs b ob e=>by
  obtain⟨_,_,hfree⟩:=ha;refine(I.hok b ob e).stay (λc w' hc q=>(hs.2 c ?_).trans q) (λ_ q=>q) λ_ _ q=>q
  rintro rfl;rcases hc with rfl|hc
  .rw[hfree] at e;cases e
  .rw[hfree] at hc;cases hc
 rcases hx with hk|hk
 .refine wpAny_storeName_local hk hn (λh' hn' hs=>?_) hcls;obtain⟨oL,_,_,hoL,_⟩:=id hn;refine h _ ⟨I.ok,I.os,I.bare,⟨λb o e n hb hx=>?_,λb o e n hb hx=>?_,I.base.free,λb o e hx=>?_,I.base.tups,I.base.frzs,I.base.tbls⟩,⟨_,hn',λj y v' e1 e2 e3=>?_⟩,λy c e=>?_,I.free,I.freeC,λp hp=>?_,tracked ⟨oL,hoL,I.free⟩ hs,by simpa using I.len⟩ ⟨_,hs,.inl rfl⟩
  .exact(hs.2 b (zM (zR (Heap.lt_size e) I.ok.above))).trans (I.base.keep b o e n hb hx)
  .obtain⟨sl,e1⟩:=I.base.slot b o e n hb hx;exact⟨sl,(hs.2 b (zM (zR (Heap.lt_size e) I.ok.above))).trans e1⟩
  .obtain⟨o',e1⟩:=I.base.there b o e hx;exact⟨o',(hs.2 b (zM (zR (Heap.lt_size e) I.ok.above))).trans e1⟩
  .by_cases hj:j=i
   .subst hj;rw[hi] at e1;cases e1
    rw[yI hiσ] at e2;cases e2;exact⟨u,r,.inl ⟨hk,by simp⟩⟩
   .rw[zW (Ne.symm hj)] at e2;obtain⟨u',r',q⟩:=hl j y v' e1 e2 e3;refine⟨u',r',?_⟩;rcases q with ⟨k,e⟩|⟨k,c,e,z⟩
    .refine .inl ⟨k,?_⟩;have:y≠x:=λe=>hj (Bt hN e1 (e ▸ hi))
     simp[this,e]
    .exact .inr ⟨k,c,e,z.sameBut hs (cne y c e)⟩
  .obtain⟨w',z⟩:=I.cell y c e;exact⟨w',z.sameBut hs (cne y c e)⟩
  .obtain⟨e,n,ne,nf,d⟩:=I.pin p hp;exact⟨(hs.2 p.1 ne).trans e,n,ne,nf,d⟩
 .have hfn:X.fn x=true:=by
   rcases hf with z|z
   .exact z
   .rw[z] at hk;cases hk
  obtain⟨c,hc⟩:=I.ok.has x (.inl hk);obtain⟨w',z⟩:=I.cell x c hc;refine wpAny_storeName_cell I.ok.kind hk hc z (λh' hc' hs=>?_);obtain⟨oc,hoc,hocd⟩:=id z;refine h { s with heap:=h' } ⟨I.ok,I.os,I.bare,⟨λb o e n hb hx=>?_,λb o e n hb hx=>?_,I.base.free,λb o e hx=>?_,I.base.tups,I.base.frzs,I.base.tbls⟩,⟨m,hn.sameBut hs (Ne.symm (cne x c hc)),λj y v' e1 e2 e3=>?_⟩,λy c' e=>?_,I.free,I.freeC,λp hp=>?_,tracked ⟨oc,hoc,I.freeC x c hc⟩ hs,by simpa using I.len⟩ ⟨c,hs,.inr hc⟩
  .exact(hs.2 b (zM (zR (Heap.lt_size e) (I.ok.cab x c hfn hc)))).trans (I.base.keep b o e n hb hx)
  .obtain⟨sl,e1⟩:=I.base.slot b o e n hb hx;exact⟨sl,(hs.2 b (zM (zR (Heap.lt_size e) (I.ok.cab x c hfn hc)))).trans e1⟩
  .obtain⟨o',e1⟩:=I.base.there b o e hx;exact⟨o',(hs.2 b (zM (zR (Heap.lt_size e) (I.ok.cab x c hfn hc)))).trans e1⟩
  .by_cases hj:j=i
   .subst hj;rw[hi] at e1;cases e1
    rw[yI hiσ] at e2;cases e2;exact⟨u,r,.inr ⟨.inl hk,c,hc,hc'⟩⟩
   .rw[zW (Ne.symm hj)] at e2;obtain⟨u',r',q⟩:=hl j y v' e1 e2 e3;refine⟨u',r',?_⟩;rcases q with q|⟨k,c',e,z'⟩
    .exact .inl q
    .refine .inr ⟨k,c',e,z'.sameBut hs ?_⟩;rintro rfl;exact hj (Bt hN e1 (I.ok.inj _ _ _ e hc ▸ hi))
  .by_cases hcc:c'=c
   .subst hcc;exact⟨_,hc'⟩
   .obtain⟨w2,z2⟩:=I.cell y c' e;exact⟨w2,z2.sameBut hs hcc⟩
  .obtain⟨e,n,ne,nf,d⟩:=I.pin p hp;refine⟨(hs.2 p.1 ?_).trans e,n,ne,nf,d⟩;intro q;rw[q,hoc] at e;have q':oc=p.2:=Option.some.inj e;exact d w' (by rw[<- q'];exact hocd)
theorem D1 (I:Inv X pins σ H s)(hN:X.N.Nodup)(hi:X.N[i]?=some x)(hx:Loc X.env.scope x)(r:ZD v u)(h:∀s',Inv X pins (σ.set i (some v)) H s'->Q () s')(hf:X.fn x=true\/X.env.scope.names.lookup x=some .local:=by first|exact .inl rfl|exact .inr rfl|assumption):wpAny M A (storeName X.env x u) Q E s:=
 DZ I hN hi hx r (λs' I' _=>h s' I') hf
theorem Inv.call' (I:Inv X pins σ H s)(ho:s'.os=s.os)(u:Un (frs X.stack) ch H H' s.heap s'.heap)(hok:HOk X.prog X.w H' s'.heap)(hg:AllBare s'.gens)(hch:∀b∈ch,(b∈X.ex\/X.s₀.heap.objs.size<=b)/\b≠X.env.locals/\(∀x c,X.env.cells.lookup x=some c->c≠b)/\∀p∈X.pn++pins,p.1≠b):Inv X pins σ H' s':=by
 obtain⟨h',g',d',t',o'⟩:=s';have e:o'=s.os:=ho;subst e;exact I.call (g':=g') (t':=t') (d':=d') u hok hg hch
end
abbrev XK:=Value->Option Addr->Hp->Prop
abbrev St:=List (Option V)
abbrev VK:=V->Hp->Prop
abbrev TE:=St->Hp->VK->Prop
abbrev TT:=St->Hp->(Bool->Hp->Prop)->Prop
abbrev TA:=St->Hp->(List V->Hp->Prop)->Prop
structure VQ where
 nx:St->Hp->Prop
 rt:VK
 bk:St->Hp->Prop:=λ_ _=>False
 ct:St->Hp->Prop:=λ_ _=>False
abbrev TS:=VQ->St->Hp->Prop
def EP (X:Cx)(pins:LA)(σ:St)(Q:VK)(u:Value)(s':Shared):Prop:=∃v H',Inv X pins σ H' s'/\ZD v u/\Q v H'
def TP (X:Cx)(pins:LA)(σ:St)(Q:Bool->Hp->Prop)(b:Bool)(s':Shared):Prop:=∃H',Inv X pins σ H' s'/\Q b H'
def AP (X:Cx)(pins:LA)(σ:St)(Q:List V->Hp->Prop)(us:List Value)(s':Shared):Prop:=∃vs H',Inv X pins σ H' s'/\ZC vs us/\Q vs H'
def SP (X:Cx)(pins:LA)(D:VQ)(f:Flow)(s':Shared):Prop:=
 match f with
 | .next=>∃σ' H',Inv X pins σ' H' s'/\D.nx σ' H'
 | .brk=>∃σ' H',Inv X pins σ' H' s'/\D.bk σ' H'
 | .cont=>∃σ' H',Inv X pins σ' H' s'/\D.ct σ' H'
 | .ret u=>∃v σ' H',Inv X pins σ' H' s'/\ZD v u/\D.rt v H'
def PE (X:Cx)(e:Expr)(t:TE):Prop:=
 ∀(pins:LA)(s:Shared)(σ:St)(H:Hp)(Q:VK),Inv X pins σ H s->t σ H Q->wpAny (model X.prog X.w) X.A (eval e X.env) (EP X pins σ Q) X.xe s
def PT (X:Cx)(e:Expr)(t:TT):Prop:=
 ∀(pins:LA)(s:Shared)(σ:St)(H:Hp)(Q:Bool->Hp->Prop),Inv X pins σ H s->t σ H Q->wpAny (model X.prog X.w) X.A (isTrue e X.env (eval e X.env)) (TP X pins σ Q) X.xe s
def PW (X:Cx)(e:Expr)(t:TT):Prop:=
 ∀(aO:Sem Value)(pins:LA)(s:Shared)(σ:St)(H:Hp)(Q:Bool->Hp->Prop),Inv X pins σ H s->t σ H Q->wpAny (model X.prog X.w) X.A (isTrue e X.env aO) (TP X pins σ Q) X.xe s
theorem PW.pt (h:PW X e t):PT X e t:=h _
def PA (X:Cx)(es:List Expr)(t:TA):Prop:=
 ∀(pos:Pos)(pins:LA)(s:Shared)(σ:St)(H:Hp)(Q:List V->Hp->Prop),Inv X pins σ H s->t σ H Q->wpAny (model X.prog X.w) X.A (spliced (backTo pos (starEach es X.env))) (AP X pins σ Q) X.xe s
def PS (X:Cx)(st:Stmt)(t:TS):Prop:=
 ∀(pins:LA)(s:Shared)(σ:St)(H:Hp)(D:VQ),Inv X pins σ H s->t D σ H->wpAny (model X.prog X.w) X.A (exec st X.env) (SP X pins D) X.xe s
def PSs (X:Cx)(st:List Stmt)(t:TS):Prop:=
 ∀(pins:LA)(s:Shared)(σ:St)(H:Hp)(D:VQ),Inv X pins σ H s->t D σ H->wpAny (model X.prog X.w) X.A (execs st X.env) (SP X pins D) X.xe s
theorem thn {α:Type}{t:Sem α}{Q Q':α->Shared->Prop}{M:Model}{A:Around}{E:Value->Shared->Prop}{s:Shared}(h:wpAny M A t Q E s)(hQ:∀a s,Q a s->Q' a s):wpAny M A t Q' E s:=wpAny_mono h hQ λ_ _ x=>x
section
variable {X:Cx}
def tVar (i:Nat):TE:=λσ H Q=>∃v,σ[i]?=some (some v)/\Q v H
def tC (v:V):TE:=λ_ H Q=>Q v H
theorem Ag (hN:X.N[i]?=some x)(hv:Vis X.env.scope x)(hd:(x==("__debug__":Str))=false:=by decide)(hcd:(x==("__classdict__":Str))=false:=by decide):PE X (.Name x pos) (tVar i):=by
 intro pins s σ H Q I h;obtain⟨v,e,h⟩:=h;obtain⟨m,hn,hl⟩:=I.loc;obtain⟨u,r,l⟩:=hl i x v hN e hv;have aY:EP X pins σ Q u s:=⟨v,H,I,r,h⟩;rcases l with ⟨hk,hm⟩|⟨hk,c,hc,hcell⟩
 .exact wpAny_Name (wpAny_loadName_local I.ok.kind hk hn hm aY) hd
 .rcases hk with hk|hk
  .exact wpAny_Name (wpAny_loadName_cell I.ok.kind hk hc hcell aY) hd
  .exact wpAny_Name (wpAny_loadName_free I.ok.kind hk hc hcell aY hcd) hd
theorem zgb {i j pos}:PE X (.Constant (.int i) j pos) (tC (.int i)):=λ_ _ _ H _ I h=>wpAny_Constant_int ⟨.int i,H,I.tok _,⟨_,rfl⟩,h⟩
theorem pe_bl {b j pos}:PE X (.Constant (.bool b) j pos) (tC (.bl b)):=λ_ _ _ H _ I h=>Constant_bool ⟨.bl b,H,I,rfl,h⟩
theorem zd7 {j pos}:PE X (.Constant .none j pos) (tC .non):=λ_ _ _ H _ I h=>Constant_none ⟨.non,H,I,rfl,h⟩
theorem zfQ {x j pos}:PE X (.Constant (.str x) j pos) (tC (.str x)):=λ_ _ _ H _ I h=>Calls.Constant_str ⟨.str x,H,I.tok _,⟨_,rfl⟩,h⟩
def Gl (X:Cx)(x:Str):Prop:=X.env.kindOf x=some .globalImplicit
theorem DU (I:Inv X pins σ H s)(hg:Gl X x)(hm:X.mg x=some u)(h:Q u s)(hd:(x==("__debug__":Str))=false:=by decide):wpAny (model X.prog X.w) X.A (eval (.Name x pos) X.env) Q E s:=
 Calls.Name_function_global I.ok.kind hg (Calls.loadGlobal_global (by rw[I.ok.glob];exact I.mod.glob.keeps I.bk) hm h) hd
theorem WE (I:Inv X pins σ H s)(hg:Gl X x)(hm:X.mg x=none)(hv:bootBuiltins x=some u)(h:Q u s)(hn:x≠"__name__":=by decide)(hd:(x==("__debug__":Str))=false:=by decide):wpAny (model X.prog X.w) X.A (eval (.Name x pos) X.env) Q E s:=by
 obtain⟨mb,h1,h2⟩:=I.mod.blt;exact Calls.Name_function_global I.ok.kind hg (Calls.loadGlobal_builtin (by rw[I.ok.glob];exact I.mod.glob.keeps I.bk) hm (by rw[I.ok.blt];exact h1.keeps I.bk) ((h2 x hn).trans hv) h) hd
theorem AA (hg:Gl X x)(hm:X.mg x=none)(hv:bootBuiltins x=some u)(r:ZD v u)(hn:x≠"__name__":=by decide)(hd:(x==("__debug__":Str))=false:=by decide):PE X (.Name x pos) (tC v):=
 λ_ _ _ H _ I h=>WE I hg hm hv ⟨v,H,I,r,h⟩ hn hd
variable {a b:Expr}{ta tb:TE}{pos:Pos}
def tB (t:TE):TT:=λσ H Q=>t σ H λx H1=>∃c,x=.bl c/\Q c H1
theorem zgj (h:PE X e t)(he:∀aO,isTrue e X.env aO=(do let v <- aO;standAt e.pos;holding [v] (truthy v)):=by intro _;rfl):PT X e (tB t):=by
 intro pins s σ H Q I hw;refine isTrue_plain (thn (h pins s σ H _ I hw) λv s1 ⟨x,H1,I1,r1,q1⟩=>?_) (he _);obtain⟨d,rfl,q⟩:=q1;cases r1;exact wpAny_truthy_bool ⟨H1,I1,q⟩
variable {tA tB':TT}{Ym:List Expr}
def tAnd (t u:TT):TT:=λσ H Q=>t σ H λc H1=>if c=true then u σ H1 Q else Q false H1
def tOr (t u:TT):TT:=λσ H Q=>t σ H λc H1=>if c=true then Q true H1 else u σ H1 Q
def tNot (t:TT):TT:=λσ H Q=>t σ H λc H1=>Q (!c) H1
theorem AN (ha:PT X a tA):PW X (.BoolOp .And [a] pos) tA:=by
 intro wh pins s σ H Q I h;refine isTrue_and (thn (ha pins s σ H Q I h) λc s1 e=>?_);cases c with
 | true=>exact isTrue_and_nil e
 | false=>exact e
theorem zfa (ha:PT X a tA):PW X (.BoolOp .Or [a] pos) tA:=by
 intro wh pins s σ H Q I h;refine isTrue_or (thn (ha pins s σ H Q I h) λc s1 e=>?_);cases c with
 | false=>exact isTrue_or_nil e
 | true=>exact e
theorem zf7 (ha:PT X a tA)(hb:PW X (.BoolOp .And (b::Ym) pos) tB'):PW X (.BoolOp .And (a::b::Ym) pos) (tAnd tA tB'):=by
 intro wh pins s σ H Q I h;refine isTrue_and (thn (ha pins s σ H _ I h) λc s1 ⟨H1,I1,q1⟩=>?_);cases c with
 | true=>exact hb wh pins s1 σ H1 Q I1 q1
 | false=>exact⟨H1,I1,q1⟩
theorem pw_or (ha:PT X a tA)(hb:PW X (.BoolOp .Or (b::Ym) pos) tB'):PW X (.BoolOp .Or (a::b::Ym) pos) (tOr tA tB'):=by
 intro wh pins s σ H Q I h;refine isTrue_or (thn (ha pins s σ H _ I h) λc s1 ⟨H1,I1,q1⟩=>?_);cases c with
 | true=>exact⟨H1,I1,q1⟩
 | false=>exact hb wh pins s1 σ H1 Q I1 q1
theorem zb3 (ha:PT X a tA):PT X (.UnaryOp .Not a pos) (tNot tA):=by
 intro pins s σ H Q I h;exact isTrue_not (ha pins s σ H (λc H1=>Q (!c) H1) I h)
def tAndV (ta tb:TE):TE:=λσ H Q=>ta σ H λx H1=>∃c,x=.bl c/\if c=true then tb σ H1 Q else Q (.bl false) H1
def tOrV (ta tb:TE):TE:=λσ H Q=>ta σ H λx H1=>∃c,x=.bl c/\if c=true then Q (.bl true) H1 else tb σ H1 Q
def tNotV (ta:TE):TE:=λσ H Q=>ta σ H λx H1=>∃c,x=.bl c/\Q (.bl (!c)) H1
theorem zd6 {op}(h:PE X a t):PE X (.BoolOp op [a] pos) t:=λpins s σ H Q I hw=>BoolOp_one (h pins s σ H Q I hw)
theorem zaA (ha:PE X a ta)(hb:PE X (.BoolOp .And (b::Ym) pos) tb):PE X (.BoolOp .And (a::b::Ym) pos) (tAndV ta tb):=by
 intro pins s σ H Q I h;refine BoolOp_and (thn (ha pins s σ H _ I h) λv s1 ⟨x,H1,I1,r1,q1⟩=>?_);obtain⟨c,rfl,q1⟩:=q1;cases r1;refine wpAny_truthy_bool ?_;cases c with
 | true=>exact hb pins s1 σ H1 Q I1 q1
 | false=>exact⟨.bl false,H1,I1,rfl,q1⟩
theorem pe_or (ha:PE X a ta)(hb:PE X (.BoolOp .Or (b::Ym) pos) tb):PE X (.BoolOp .Or (a::b::Ym) pos) (tOrV ta tb):=by
 intro pins s σ H Q I h;refine BoolOp_or (thn (ha pins s σ H _ I h) λv s1 ⟨x,H1,I1,r1,q1⟩=>?_);obtain⟨c,rfl,q1⟩:=q1;cases r1;refine wpAny_truthy_bool ?_;cases c with
 | false=>exact hb pins s1 σ H1 Q I1 q1
 | true=>exact⟨.bl true,H1,I1,rfl,q1⟩
theorem zcu (ha:PE X a ta):PE X (.UnaryOp .Not a pos) (tNotV ta):=by
 intro pins s σ H Q I h;refine UnaryOp_ (thn (ha pins s σ H _ I h) λv s1 ⟨x,H1,I1,r1,q1⟩=>?_);obtain⟨c,rfl,q1⟩:=q1;cases r1;exact not_of (wpAny_truthy_bool ⟨.bl (!c),H1,I1,rfl,q1⟩)
def tIf (t:TT)(ta tb:TE):TE:=λσ H Q=>t σ H λc H1=>if c=true then ta σ H1 Q else tb σ H1 Q
theorem zhT (hc:PT X c tA)(ha:PE X a ta)(hb:PE X b tb):PE X (.IfExp c a b pos) (tIf tA ta tb):=by
 intro pins s σ H Q I h;refine wpAny_IfExp (thn (hc pins s σ H _ I h) λd s1 ⟨H1,I1,q1⟩=>?_);cases d with
 | true=>exact ha pins s1 σ H1 Q I1 q1
 | false=>exact hb pins s1 σ H1 Q I1 q1
end
def SqL (K:Fg)(H:Hp)(a:Addr)(xs:List V):Prop:=
 Rd H a (.lst xs)\/
  ∃(o:Obj)(aX:Array Value)(n:Nat),K.lookup a=some o/\o.cls=.type "list"/\o.dict=none/\o.data=.seq aX n/\aX.size<=sizeLine/\ZC xs aX.toList
def SqT (K:Fg)(H:Hp)(a:Addr)(xs:List V):Prop:=
 Rd H a (.tup xs)\/
  ∃(o:Obj)(aX:Array Value)(n:Nat),K.lookup a=some o/\o.cls=.type "tuple"/\o.data=.seq aX n/\aX.size<=sizeLine/\ZC xs aX.toList
def absV:Value->Option V
 | .none=>some .non
 | .bool b=>some (.bl b)
 | .int i _=>some (.int i)
 | .str x _=>some (.str x)
 | .bytes b _=>some (.byt b)
 | .float b _=>some (.flt b)
 | .ref a=>some (.ref a)
 | .type n=>some (.ty n)
 | _=>none
theorem ZD.abs (r:ZD x u):absV u=some x:=by
 cases x with
 | non=>cases r;rfl
 | bl _=>cases r;rfl
 | int _=>obtain⟨t,rfl⟩:=r;rfl
 | str _=>obtain⟨t,rfl⟩:=r;rfl
 | byt _=>obtain⟨t,rfl⟩:=r;rfl
 | flt _=>obtain⟨t,rfl⟩:=r;rfl
 | ref _=>cases r;rfl
 | ty _=>cases r;rfl
theorem ZD.inj (r:ZD x u)(q:ZD y u):x=y:=Option.some.inj (r.abs.symm.trans q.abs)
theorem ZC.inj:∀ {xs ys:List V} {us:List Value},ZC xs us->ZC ys us->xs=ys
 | _,_,_,.nil,.nil=>rfl
 | _,_,_,.cons r t,.cons r' t'=>by rw[r.inj r',ZC.inj t t']
theorem SqL.of {K:Fg}(h:H a=some (.lst xs)):SqL K H a xs:=.inl (.inl h)
theorem SqT.of {K:Fg}(h:H a=some (.tup xs)):SqT K H a xs:=.inl (.inl h)
theorem Inv.list (I:Inv X pins σ H s)(h:SqL X.K H a xs):∃aX:List Value,ZC xs aX/\PlainL s.heap a aX.toArray/\xs.length<=sizeLine:=by
 rcases h with h|⟨o,aX,n,hk,hc,hd,hs,hz,r⟩
 .obtain⟨z,aX,n,r,e⟩:=h.ok I.hok;exact⟨aX,r,⟨_,n,e,rfl,rfl,rfl⟩,z⟩
 .refine⟨aX.toList,r,⟨o,n,I.kIn a o hk,hc,hd,by simpa using hs⟩,?_⟩;have e:=r.length;simp only[Array.length_toList] at e;omega
theorem Inv.tuple (I:Inv X pins σ H s)(h:SqT X.K H a xs):∃aX:List Value,ZC xs aX/\IsTup s.heap a aX.toArray/\xs.length<=sizeLine:=by
 rcases h with h|⟨o,aX,n,hk,hc,hs,hz,r⟩
 .obtain⟨z,aX,r,p⟩:=h.ok I.hok;exact⟨aX,r,p,z⟩
 .refine⟨aX.toList,r,⟨o,I.kIn a o hk,hc,n,by simpa using hs⟩,?_⟩;have e:=r.length;simp only[Array.length_toList] at e;omega
theorem Inv.list_inj (I:Inv X pins σ H s)(h:SqL X.K H a xs)(h':SqL X.K H a ys):xs=ys:=by
 obtain⟨aX,r,⟨o,n,e,_,_,d⟩,_⟩:=I.list h;obtain⟨its',r',⟨o',n',e',_,_,d'⟩,_⟩:=I.list h';rw[e] at e';cases e'
 rw[d] at d';injection d' with d1 _
 have:aX=its':=by simpa using congrArg Array.toList d1
 subst this;exact r.inj r'
theorem Inv.tuple_inj (I:Inv X pins σ H s)(h:SqT X.K H a xs)(h':SqT X.K H a ys):xs=ys:=by
 obtain⟨aX,r,⟨o,e,_,n,d⟩,_⟩:=I.tuple h;obtain⟨its',r',⟨o',e',_,n',d'⟩,_⟩:=I.tuple h';rw[e] at e';cases e'
 rw[d] at d';injection d' with d1 _
 have:aX=its':=by simpa using congrArg Array.toList d1
 subst this;exact r.inj r'
abbrev Cx.wish (X:Cx)(E:Value->Shared->Prop):Cx:={ X with xe:=E }
abbrev Cx.nox (X:Cx):Cx:=X.wish λ_ _=>False
theorem Cx.Ok.wish {X:Cx}(ok:X.Ok)(E:Value->Shared->Prop):(X.wish E).Ok:=
 ⟨ok.mod,ok.kind,ok.glob,ok.blt,ok.above,ok.inj,ok.has,ok.cab,ok.hd,ok.frames,ok.stk,ok.exf,ok.bs,ok.bsz,ok.noex,ok.exfs,ok.funs,ok.frf⟩
theorem Cx.Ok.unwish {X:Cx}{E:Value->Shared->Prop}(ok:(X.wish E).Ok):X.Ok:=
 ⟨ok.mod,ok.kind,ok.glob,ok.blt,ok.above,ok.inj,ok.has,ok.cab,ok.hd,ok.frames,ok.stk,ok.exf,ok.bs,ok.bsz,ok.noex,ok.exfs,ok.funs,ok.frf⟩
theorem Inv.wish (I:Inv X pins σ H s)(E:Value->Shared->Prop):Inv (X.wish E) pins σ H s:=⟨I.ok.wish E,I.os,I.bare,I.base,I.loc,I.cell,I.free,I.freeC,I.pin,I.hok,I.len⟩
theorem Inv.unwish (I:Inv (X.wish E) pins σ H s):Inv X pins σ H s:=⟨I.ok.unwish,I.os,I.bare,I.base,I.loc,I.cell,I.free,I.freeC,I.pin,I.hok,I.len⟩
theorem SP.unwish (h:SP (X.wish E) pins D f s'):SP X pins D f s':=by
 cases f with
 | next=>obtain⟨σ',H',I,q⟩:=h;exact⟨σ',H',I.unwish,q⟩
 | brk=>obtain⟨σ',H',I,q⟩:=h;exact⟨σ',H',I.unwish,q⟩
 | cont=>obtain⟨σ',H',I,q⟩:=h;exact⟨σ',H',I.unwish,q⟩
 | ret u=>obtain⟨v,σ',H',I,r,q⟩:=h;exact⟨v,σ',H',I.unwish,r,q⟩
theorem PE.nox {e:Expr}{t:TE}(h:PE X.nox e t):PE X e t:=λpins s σ H Q I hw=>
 wpAny_mono (h pins s σ H Q (I.wish _) hw) (λ_ _ ⟨v,H',I',r,q⟩=>⟨v,H',I'.unwish,r,q⟩) λ_ _ z=>False.elim z
theorem PSs.nox {st:List Stmt}{t:TS}(h:PSs X.nox st t):PSs X st t:=λpins s σ H D I hw=>
 wpAny_mono (h pins s σ H D (I.wish _) hw) (λ_ _ q=>q.unwish) λ_ _ z=>False.elim z
section
variable {X:Cx}{st:Stmt}{Ym:List Stmt}{t u:TS}{e:Expr}{te:TE}{pos:Pos}
def tNext:TS:=λD σ H=>D.nx σ H
def tSeq (t u:TS):TS:=λD σ H=>t { D with nx:=u D } σ H
theorem za7:PSs X [] tNext:=λ_ _ σ H _ I h=>wpAny_execs_nil ⟨σ,H,I,h⟩
theorem zhn (h1:PS X st t)(h2:PSs X Ym u):PSs X (st::Ym) (tSeq t u):=by
 intro pins s σ H D I h;refine wpAny_execs_cons (thn (h1 pins s σ H { D with nx:=u D } I h) λf s1 q=>?_);cases f with
 | next=>
  obtain⟨σ',H',I',q⟩:=q;exact h2 pins s1 σ' H' D I' q
 | ret v=>exact q
 | brk=>exact q
 | cont=>exact q
theorem zb2 (h1:PS X st t):PSs X [st] t:=by
 intro pins s σ H D I h;refine wpAny_execs_cons (thn (h1 pins s σ H D I h) λf s1 q=>?_);cases f with
 | next=>exact wpAny_execs_nil q
 | ret v=>exact q
 | brk=>exact q
 | cont=>exact q
def zdA:TS:=λD σ H=>D.bk σ H
theorem AJ:PS X (.Break pos) zdA:=λ_ _ σ H _ I h=>wpAny_Break ⟨σ,H,I,h⟩
theorem Inv.quiet (I:Inv X pins σ H s):interactive X.env=false:=by simp[interactive,I.ok.kind]
def tDrop (te:TE):TS:=λD σ H=>te σ H λ_ H1=>D.nx σ H1
theorem zbo (he:PE X e te)(hs:swapsWith e none pos.line X.env=pure false:=by rfl):PS X (.Expr e pos) (tDrop te):=by
 intro pins s σ H D I h;exact wpAny_Expr_any (thn (he pins s σ H _ I h) λv s1 ⟨x,H1,I1,r1,q1⟩=>⟨σ,H1,I1,q1⟩) I.quiet hs
def tRet (te:TE):TS:=λD σ H=>te σ H D.rt
theorem zeY (he:PE X e te):PS X (.Return (some e) pos) (tRet te):=by
 intro pins s σ H D I h;exact wpAny_Return_some (thn (he pins s σ H _ I h) λv s1 ⟨x,H1,I1,r1,q1⟩=>⟨x,σ,H1,I1,r1,q1⟩)
def tRetN:TS:=λD _ H=>D.rt .non H
theorem zcU:PS X (.Return none pos) tRetN:=λ_ _ σ H _ I h=>wpAny_Return_none ⟨.non,σ,H,I,rfl,h⟩
def tIfS (c:TT)(t u:TS):TS:=λD σ H=>c σ H λb H1=>if b=true then t D σ H1 else u D σ H1
theorem ps_if (hc:PT X c tc)(ha:PSs X a t)(hb:PSs X b u):PS X (.If c a b pos) (tIfS tc t u):=by
 intro pins s σ H D I h;refine wpAny_If (thn (hc pins s σ H _ I h) λd s1 ⟨H1,I1,q1⟩=>?_);cases d with
 | true=>exact ha pins s1 σ H1 D I1 q1
 | false=>exact hb pins s1 σ H1 D I1 q1
def zbR:TS:=λ_ _ _=>False
theorem zdP:PS X st zbR:=λ_ _ _ _ _ _ h=>h.elim
end
abbrev TG:=V->St->Hp->(St->Hp->Prop)->Prop
abbrev TGs:=List V->St->Hp->(St->Hp->Prop)->Prop
def PG (X:Cx)(target:Expr)(t:TG):Prop:=
 ∀(pins:LA)(s:Shared)(σ:St)(H:Hp)(v:V)(u:Value)(Q:St->Hp->Prop),Inv X pins σ H s->ZD v u->t v σ H Q->
  wpAny (model X.prog X.w) X.A (assign target X.env u) (λ_ s'=>∃σ' H',Inv X pins σ' H' s'/\Q σ' H') X.xe s
def PGs (X:Cx)(ts:List Expr)(t:TGs):Prop:=
 ∀(pins:LA)(s:Shared)(σ:St)(H:Hp)(vs:List V)(us:List Value)(Q:St->Hp->Prop),Inv X pins σ H s->ZC vs us->t vs σ H Q->
  wpAny (model X.prog X.w) X.A (assignInOrder ((assignEach ts X.env).map (·.2)) us) (λ_ s'=>∃σ' H',Inv X pins σ' H' s'/\Q σ' H') X.xe s
abbrev TSet:=V->V->V->Hp->(Hp->Prop)->Prop
def PSet (X:Cx)(t:TSet):Prop:=
 ∀(pins:LA)(s:Shared)(σ:St)(H:Hp)(o i v:V)(ov iv u:Value)(Q:Hp->Prop),Inv X pins σ H s->ZD o ov->ZD i iv->ZD v u->t o i v H Q->
  wpAny (model X.prog X.w) X.A (setItem ov iv u) (λ_ s'=>∃H',Inv X pins σ H' s'/\Q H') X.xe s
def F1 (i:Nat):TG:=λv σ H Q=>Q (σ.set i (some v)) H
theorem U9 (hN:X.N.Nodup)(hi:X.N[i]?=some x)(hx:Loc X.env.scope x)(hf:X.fn x=true\/X.env.scope.names.lookup x=some .local:=by first|exact .inl rfl|exact .inr rfl|assumption):PG X (.Name x pos) (F1 i):=by
 intro pins s σ H v u Q I r h;exact wpAny_assign_Name (D1 I hN hi hx r (λs' I'=>⟨_,H,I',h⟩) hf)
def gNil:TGs:=λvs σ H Q=>vs=[]/\Q σ H
def gCons (t:TG)(u:TGs):TGs:=λvs σ H Q=>∃v r,vs=v::r/\t v σ H λσ' H'=>u r σ' H' Q
theorem zg3:PGs X [] gNil:=by
 intro pins s σ H vs us Q I r h;obtain⟨e,h⟩:=h;subst e;cases r;exact assignInOrder_nil ⟨σ,H,I,h⟩
theorem zcF (h1:PG X e t)(h2:PGs X es u)(hs:(assignEach (e::es) X.env).map (·.2)=assign e X.env::(assignEach es X.env).map (·.2):=by rfl):PGs X (e::es) (gCons t u):=by
 intro pins s σ H vs us Q I r h;obtain⟨v,vr,e1,h⟩:=h;subst e1;cases r with
 | cons r rr=>
  rw[hs];refine assignInOrder_cons (thn (h1 pins s σ H _ _ _ I r h) λ_ s1 ⟨σ1,H1,I1,q1⟩=>?_);exact h2 pins s1 σ1 H1 _ _ Q I1 rr q1
def Uo (K:Fg)(n:Nat)(t:TGs):TG:=λv σ H Q=>∃a xs,v=.ref a/\SqT K H a xs/\xs.length=n/\t xs σ H Q
theorem Sw (hc:X.calm=true)(h:PGs X es t)(hn:(assignEach es X.env).length=n:=by rfl)(hst:(assignEach es X.env).findIdx? (·.1)=none:=by rfl):PG X (.Tuple es k pos) (Uo X.K n t):=by
 intro pins s σ H v u Q I r hw;obtain⟨a,xs,e1,hq,hl,hw⟩:=hw;subst e1;cases r;obtain⟨aX,rv,ht,hz⟩:=I.tuple hq;refine assign_Tuple_tuple (I.ok.hd hc) ht (by simp[hn,<- hl,rv.length]) hst λh' hx=>?_
 have I1:Inv X pins σ H { s with heap:=h' }:=I.kept (t':=s.toks) λb o e=>hx b o (zM (Heap.lt_size e)) e
 exact h pins _ σ H xs _ Q I1 (by simpa using rv) hw
def gSub (to ti:TE)(t:TSet):TG:=λv σ H Q=>to σ H λo H1=>ti σ H1 λi H2=>t o i v H2 λH3=>Q σ H3
theorem zhR (ho:PE X o to)(hi:PE X i ti)(hs:PSet X t)(ha:∀v,assign (.Subscript o i pos) X.env v=(do
   let ov <- holding [v] (eval o X.env)
   let iv <- holding [v,ov] (eval i X.env)
   standAt pos
   holding [v,ov,iv] (setItem ov iv v)
   release [v,ov,iv] []):=by intro _;rfl):PG X (.Subscript o i pos) (gSub to ti t):=by
 intro pins s σ H v u Q I r h;rw[ha];refine wpAny_bind (wpAny_holding (thn (ho pins s σ H _ I h) λov s1 ⟨x,H1,I1,r1,q1⟩=>?_));refine wpAny_bind (wpAny_holding (thn (hi pins s1 σ H1 _ I1 q1) λiv s2 ⟨y,H2,I2,r2,q2⟩=>?_));refine wpAny_bind (wpAny_standAt (wpAny_bind (wpAny_holding (thn (hs pins s2 σ H2 x y v ov iv u _ I2 r1 r2 r q2) λ_ s3 ⟨H3,I3,q3⟩=>?_))));exact wpAny_release ⟨σ,H3,I3,q3⟩
def tAsg (te:TE)(g:TG):TS:=λD σ H=>te σ H λx H1=>g x σ H1 D.nx
theorem A1 (he:PE X e te)(hg:PG X tg g)(hs:swapsWithSole [tg] e pos.line X.env=pure false:=by rfl)(hw:swappedStores [tg] e X.env=pure none:=by rfl)(h1:(assignEach [tg] X.env).map (·.2)=[assign tg X.env]:=by rfl):PS X (.Assign [tg] e pos) (tAsg te g):=by
 intro pins s σ H D I h;refine wpAny_Assign_stores (thn (he pins s σ H _ I h) λv s1 ⟨x,H1,I1,r1,q1⟩=>?_) hs hw;rw[h1];exact thn (hg pins s1 σ H1 x v _ I1 r1 q1) λ_ s2 q=>q
theorem zbi (hN:X.N.Nodup)(hi:X.N[i]?=some x)(hx:Loc X.env.scope x)(he:PE X e te)(hs:swapsWith e (some (.Name x pos')) pos.line X.env=pure false:=by rfl)(hf:X.fn x=true\/X.env.scope.names.lookup x=some .local:=by first|exact .inl rfl|exact .inr rfl|assumption):
  PS X (.Assign [.Name x pos'] e pos) (tAsg te (F1 i)):=by
 intro pins s σ H D I h;refine wpAny_Assign_Name (thn (he pins s σ H _ I h) λv s1 ⟨y,H1,I1,r1,q1⟩=>?_) hs;exact D1 I1 hN hi hx r1 (λs2 I2=>⟨_,H1,I2,q1⟩) hf
def zgF (c:TT)(tb:TS):TS:=λD σ H=>∃W:Nat->St->Hp->Prop,(∃m,W m σ H)/\∀m σ H,W m σ H->
 c σ H λb H1=>if b=true then ∃N:St->Hp->Prop,(∀σ' H',N σ' H'->∃m',m'<m/\W m' σ' H')/\tb { D with nx:=N,ct:=N,bk:=D.nx } σ H1 else D.nx σ H1
theorem zaN (hp:PassesOwn (model X.prog X.w) X.A X.env X.xe)(hc:PT X c tc)(hb:PSs X body tb):PS X (.While c body [] pos) (zgF tc tb):=by
 intro pins s σ H D I h;obtain⟨W,⟨m0,w0⟩,turn⟩:=h;refine wpAny_While (codeAny_whileLoop (λn s'=>∃σ' H',Inv X pins σ' H' s'/\W n σ' H') ?_ m0 ⟨σ,H,I,w0⟩);rintro n s1 ⟨σ1,H1,I1,w1⟩;refine wpAny_passesOwn hp (thn (hc pins s1 σ1 H1 _ I1 (turn n σ1 H1 w1)) λb s2 ⟨H2,I2,q2⟩=>?_);cases b with
 | true=>
  obtain⟨N,hN,q2⟩:=q2;rw[if_pos rfl];refine wpAny_passesOwn hp (thn (hb pins s2 σ1 H2 _ I2 q2) λf s3 q3=>?_);cases f with
  | next=>
   obtain⟨σ3,H3,I3,n3⟩:=q3;obtain⟨m',hm,w3⟩:=hN σ3 H3 n3;exact⟨m',hm,σ3,H3,I3,w3⟩
  | cont=>
   obtain⟨σ3,H3,I3,n3⟩:=q3;obtain⟨m',hm,w3⟩:=hN σ3 H3 n3;exact⟨m',hm,σ3,H3,I3,w3⟩
  | brk=>exact q3
  | ret v=>exact q3
 | false=>
  rw[if_neg zJ];exact wpAny_execs_nil ⟨σ1,H2,I2,q2⟩
structure It where
 go:Nat->Hp->Prop
 yld:Nat->Hp->V->Hp->Prop
 stop:Nat->Hp->Prop
def Yd (X:Cx)(pins:LA)(H:Hp)(b:Addr):Prop:=
 H b=none/\b≠X.env.locals/\b ∉ X.fs/\(b∈X.ex\/X.s₀.heap.objs.size<=b)/\(∀x c,X.env.cells.lookup x=some c->c≠b)/\∀p∈X.pn++pins,p.1≠b
theorem Inv.fpOk {X:Cx}{pins:LA}{σ:St}{H H':Hp}{s:Shared}{b:Addr}(I:Inv X pins σ H s)(hb:s.heap.objs.size<=b)(hn:H' b=none):Yd X pins H' b:=by
 refine⟨hn,yU (zR I.lt hb),I.nofs hb,.inr (yD I.sz hb),λx c e z=>?_,λp hp z=>?_⟩
 .obtain⟨v,q⟩:=I.cell x c e;exact absurd (zR q.lt (by rw[z];exact hb)) (yK _)
 .exact absurd (zR (Heap.lt_size (I.pin p hp).1) (by rw[z];exact hb)) (yK _)
structure Uh (P:Program)(w:World)(K:Fg)(tg:Expr)(J:It)(fp:List Addr)(it:Addr)(tn:Nat->Heap->Prop):Prop where
 mem:it∈fp
 obj:∀i h,tn i h->∀b∈fp,∃o,h.get? b=some o/\∀v,o.data≠.cell v
 keep:∀i h h',tn i h->(∀b∈fp,∀o,h.get? b=some o->h'.get? b=some o)->tn i h'
 item:∀(X:Cx),X.prog=P->X.w=w->X.K=K->X.calm=true->∀(i:Nat)(pins:LA)(s:Shared)(σ:St)(H:Hp)(E:Value->Shared->Prop),Inv X pins σ H s->(∀b∈fp,Yd X pins H b)->tn i s.heap->J.go i H->
  wpAny (model P w) X.A (pyNext (.ref it)) (λr s1=>∃u,r=some u/\
   wpAny (model P w) X.A (letOwnedTupleGo tg (.ref it) u) (λ_ s2=>∃x H',Inv X pins σ H' s2/\ZD x u/\J.yld i H x H'/\tn (i+1) s2.heap/\∀b∈fp,H' b=none) E s1) E s
 done:∀(X:Cx),X.prog=P->X.w=w->X.K=K->X.calm=true->∀(i:Nat)(pins:LA)(s:Shared)(σ:St)(H:Hp)(E:Value->Shared->Prop),Inv X pins σ H s->(∀b∈fp,Yd X pins H b)->tn i s.heap->J.stop i H->
  wpAny (model P w) X.A (pyNext (.ref it)) (λr s1=>r=none/\Inv X pins σ H s1) E s
 self:∀(A:Around)(i:Nat)(s:Shared)(Q:Value->Shared->Prop)(E:Value->Shared->Prop),tn i s.heap->Q (.ref it) s->wpAny (model P w) A (pyIter (.ref it)) Q E s
abbrev TI:=St->Hp->(It->Hp->Prop)->Prop
def PIE (X:Cx)(pins:LA)(σ:St)(tg:Expr)(R:It->Hp->Prop)(itv:Value)(s2:Shared):Prop:=
 ∃(it:Addr)(fp:List Addr)(tn:Nat->Heap->Prop)(J:It)(H':Hp),itv=.ref it/\Inv X pins σ H' s2/\Uh X.prog X.w X.K tg J fp it tn/\tn 0 s2.heap/\(∀b∈fp,Yd X pins H' b)/\R J H'
def PI (X:Cx)(tg aU:Expr)(wi:TI):Prop:=
 ∀(pins:LA)(s:Shared)(σ:St)(H:Hp)(R:It->Hp->Prop),Inv X pins σ H s->wi σ H R->
  wpAny (model X.prog X.w) X.A (eval aU X.env) (λv s1=>wpAny (model X.prog X.w) X.A (pyIter v) (PIE X pins σ tg R) X.xe s1) X.xe s
theorem OF (ho:s.heap.get? it=some o)(hc:o.cls=.type n)(hd:o.data=.fields vs)(hn:["enumerate","zip","dict_itemiterator","dict_reverseitemiterator","odict_iterator","itertools.zip_longest","itertools.pairwise"].contains n=false)(hQ:Q () s):wpAny M A (letOwnedTupleGo tg (.ref it) u) Q E s:=by
  unfold letOwnedTupleGo;cases tg<;>first
    | exact wpAny_pure hQ
    | (cases u<;>first
        | exact wpAny_pure hQ
        | (refine wpAny_bind (wpAny_load ho ?_)
           rw[hc,hd];show wpAny M A (if (["enumerate","zip","dict_itemiterator","dict_reverseitemiterator","odict_iterator","itertools.zip_longest","itertools.pairwise"].contains n&&vs[0]?==some (rawInt _))=true then _ else _) Q E s;rw[if_neg (by intro h;rw[hn,Bool.false_and] at h;cases h)];exact wpAny_pure hQ))
def Itl (K:Fg)(a:Addr):It:=
 ⟨λi H=>∃xs x,SqL K H a xs/\xs[i]?=some x,λi H x H'=>H'=H/\∀xs,SqL K H a xs->xs[i]?=some x,λi H=>∃xs,SqL K H a xs/\xs.length<=i⟩
def Itt (K:Fg)(a:Addr):It:=
 ⟨λi H=>∃xs x,SqT K H a xs/\xs[i]?=some x,λi H x H'=>H'=H/\∀xs,SqT K H a xs->xs[i]?=some x,λi H=>∃xs,SqT K H a xs/\xs.length<=i⟩
def Itr (lo:Int)(n:Nat):It:=⟨λi _=>i<n,λi H x H'=>H'=H/\x=.int (lo+i),λi _=>n<=i⟩
theorem zbb {P:Program}{w:World}{K:Fg}{tg:Expr}(a it:Addr):Uh P w K tg (Itl K a) [it] it (λi h=>h.IsListIter it a i) where
 mem:=by simp
 obj:=λi h st b hb=>by
  have e:b=it:=by simpa using hb
  subst e;obtain⟨o,e,c,d⟩:=st;exact⟨o,e,λv z=>by rw[d] at z;cases z⟩
 keep:=λi h h' st k=>st.at λo e=>k it (by simp) o e
 item:=by
  intro X hP hw hK hc i pins s σ H E I hf st hg;subst hP hw hK;obtain⟨xs,x,hq,hx⟩:=hg;obtain⟨aX,rv,p,hz⟩:=I.list hq;obtain⟨u,hu,ru⟩:=rv.get hx;obtain⟨f0,f1,f2,f3,f4,f5⟩:=hf it (by simp);refine wpAny_pyNext_list_item st p.isList (x:=u) (by simpa using hu) λh' st' sb=>?_
  have I1:Inv X pins σ H { s with heap:=h' }:=I.turned (t':=s.toks) (λb o hb e=>(sb.2 b hb).trans e) f0 f1 f3 f4 f5;obtain⟨o,e,c,d⟩:=id st';exact⟨u,rfl,OF (s:={ s with heap:=h' }) e c d (by decide) ⟨x,H,I1,ru,⟨rfl,λys hy=>by rw[I.list_inj hy hq];exact hx⟩,st',λb hb=>(hf b hb).1⟩⟩
 done:=by
  intro X hP hw hK hc i pins s σ H E I hf st hg;subst hP hw hK;obtain⟨xs,hq,hx⟩:=hg;obtain⟨aX,rv,p,hz⟩:=I.list hq;obtain⟨f0,f1,f2,f3,f4,f5⟩:=hf it (by simp);have hl:=rv.length;exact wpAny_pyNext_list_end (I.ok.hd hc) st p.isList (by simp;omega) λh' eb=>⟨rfl,I.turned (t':=s.toks) (λb o hb e=>eb b o hb e) f0 f1 f3 f4 f5⟩
 self:=λ_ _ _ _ _ st h=>wpAny_pyIter_listiter st h
theorem zhm {P:Program}{w:World}{K:Fg}{tg:Expr}(a it:Addr):Uh P w K tg (Itt K a) [it] it (λi h=>h.IsTupleIter it a i) where
 mem:=by simp
 obj:=λi h st b hb=>by
  have e:b=it:=by simpa using hb
  subst e;obtain⟨o,e,c,d⟩:=st;exact⟨o,e,λv z=>by rw[d] at z;cases z⟩
 keep:=λi h h' st k=>st.at λo e=>k it (by simp) o e
 item:=by
  intro X hP hw hK hc i pins s σ H E I hf st hg;subst hP hw hK;obtain⟨xs,x,hq,hx⟩:=hg;obtain⟨aX,rv,p,hz⟩:=I.tuple hq;obtain⟨u,hu,ru⟩:=rv.get hx;obtain⟨f0,f1,f2,f3,f4,f5⟩:=hf it (by simp);refine wpAny_pyNext_tuple_item st (show s.heap.IsTuple a aX.toArray from p) (x:=u) (by simpa using hu) λh' st' sb=>?_
  have I1:Inv X pins σ H { s with heap:=h' }:=I.turned (t':=s.toks) (λb o hb e=>(sb.2 b hb).trans e) f0 f1 f3 f4 f5;obtain⟨o,e,c,d⟩:=id st';exact⟨u,rfl,OF (s:={ s with heap:=h' }) e c d (by decide) ⟨x,H,I1,ru,⟨rfl,λys hy=>by rw[I.tuple_inj hy hq];exact hx⟩,st',λb hb=>(hf b hb).1⟩⟩
 done:=by
  intro X hP hw hK hc i pins s σ H E I hf st hg;subst hP hw hK;obtain⟨xs,hq,hx⟩:=hg;obtain⟨aX,rv,p,hz⟩:=I.tuple hq;obtain⟨f0,f1,f2,f3,f4,f5⟩:=hf it (by simp);have hl:=rv.length;exact wpAny_pyNext_tuple_end (I.ok.hd hc) st (show s.heap.IsTuple a aX.toArray from p) (by simp;omega) λh' eb=>⟨rfl,I.turned (t':=s.toks) (λb o hb e=>eb b o hb e) f0 f1 f3 f4 f5⟩
 self:=λ_ _ _ _ _ st h=>wpAny_pyIter_tupleiter st h
theorem zac {P:Program}{w:World}{K:Fg}{tg:Expr}(it:Addr)(lo:Int)(n:Nat):Uh P w K tg (Itr lo n) [it] it (λi h=>IsRangeIter h it (lo+(i:Nat)*1) ((n:Int)-(i:Nat)) 1) where
 mem:=by simp
 obj:=λi h st b hb=>by
  have e:b=it:=by simpa using hb
  subst e;exact⟨_,st,λv z=>by
   have z':Data.fields _=Data.cell v:=z;cases z'⟩
 keep:=λi h h' st k=>k it (by simp) _ st
 item:=by
  intro X hP hw hK hc i pins s σ H E I hf st hg;subst hP hw hK;obtain⟨f0,f1,f2,f3,f4,f5⟩:=hf it (by simp);have W:=Walks.range (prog:=X.prog) (w:=X.w) (I.ok.hd hc) it lo 1 n;refine W.item i s _ _ hg st λv h' tk hv st' kk=>?_
  obtain⟨t,rfl⟩:=hv;have I1:Inv X pins σ H { s with heap:=h',toks:=tk }:=I.turned (λb o hb e=>kk b o (by simpa using hb) e) f0 f1 f3 f4 f5;refine⟨_,rfl,OF (s:={ s with heap:=h',toks:=tk }) (n:="range_iterator") st' rfl rfl (by decide) ⟨.int (lo+i),H,I1,⟨t,?_⟩,⟨rfl,rfl⟩,st',λb hb=>(hf b hb).1⟩⟩;rw[Int.mul_one]
 done:=by
  intro X hP hw hK hc i pins s σ H E I hf st hg;subst hP hw hK;obtain⟨f0,f1,f2,f3,f4,f5⟩:=hf it (by simp);exact wpAny_pyNext_range_end (I.ok.hd hc) st (by have:n<=i:=hg;omega) λh' eb=>⟨rfl,I.turned (t':=s.toks) (λb o hb e=>eb b o hb e) f0 f1 f3 f4 f5⟩
 self:=λ_ _ _ _ _ st h=>wpAny_pyIter_rangeiter st h
def C7 (K:Fg)(tl:TE):TI:=λσ H R=>tl σ H λx H1=>∃a,x=.ref a/\(∃xs,SqL K H1 a xs)/\R (Itl K a) H1
def iTup (K:Fg)(tl:TE):TI:=λσ H R=>tl σ H λx H1=>∃a,x=.ref a/\(∃xs,SqT K H1 a xs)/\R (Itt K a) H1
theorem J9 {l:Expr}{tl:TE}(hl:PE X l tl):PI X tg l (C7 X.K tl):=by
 intro pins s σ H R I h;refine thn (hl pins s σ H _ I h) λv s1 ⟨x,H1,I1,r1,q1⟩=>?_
 obtain⟨a,e,⟨xs,hq⟩,q⟩:=q1;subst e;cases r1;obtain⟨aX,rv,p,hz⟩:=I1.list hq;refine wpAny_pyIter_list p.isList ?_;refine⟨s1.heap.objs.size,[s1.heap.objs.size],_,_,H1,rfl,I1.kept (t':=s1.toks) λb o e=>Heap.get?_push_of_some _ e,zbb a _,⟨_,Heap.get?_push_size _ rfl,rfl,rfl⟩,λb hb=>?_,q⟩;have e:b=s1.heap.objs.size:=by simpa using hb
 subst e;exact I1.fpOk (zC _) (I1.hok.fresh (zC _))
theorem zhe {l:Expr}{tl:TE}(hl:PE X l tl):PI X tg l (iTup X.K tl):=by
 intro pins s σ H R I h;refine thn (hl pins s σ H _ I h) λv s1 ⟨x,H1,I1,r1,q1⟩=>?_
 obtain⟨a,e,⟨xs,hq⟩,q⟩:=q1;subst e;cases r1;obtain⟨aX,rv,p,hz⟩:=I1.tuple hq;refine wpAny_pyIter_tuple (show s1.heap.IsTuple a aX.toArray from p) ?_;refine⟨s1.heap.objs.size,[s1.heap.objs.size],_,_,H1,rfl,I1.kept (t':=s1.toks) λb o e=>Heap.get?_push_of_some _ e,zhm a _,⟨_,Heap.get?_push_size _ rfl,rfl,rfl⟩,λb hb=>?_,q⟩;have e:b=s1.heap.objs.size:=by simpa using hb
 subst e;exact I1.fpOk (zC _) (I1.hok.fresh (zC _))
theorem CB {pins:LA}{σ:St}{H:Hp}{s:Shared}{R:It->Hp->Prop}{E:Value->Shared->Prop}{lo hi:Int}{t u v:Tok}{tk:Nat}(I:Inv X pins σ H s)(h1:-(2^62)<=lo)(h2:lo<2^62)(h3:-(2^62)<=hi)(h4:hi<2^62)
  (q:R (Itr lo (hi-lo).toNat) H):wpAny (model X.prog X.w) X.A (pyIter (.ref s.heap.objs.size)) (PIE X pins σ tg R) E { s with heap:=s.heap.push { cls:=.type "range",data:=.fields #[.int lo t,.int hi u,.int 1 v] },toks:=tk }:=by
 refine wpAny_pyIter_range (IsRange.new ..) (small_one h1 h2 h3 h4) ?_;have I1:Inv X pins σ H { s with heap:=s.heap.push { cls:=.type "range",data:=.fields #[.int lo t,.int hi u,.int 1 v] },toks:=tk }:=I.kept λb o e=>Heap.get?_push_of_some _ e
 refine⟨(s.heap.push { cls:=.type "range",data:=.fields #[.int lo t,.int hi u,.int 1 v] }).objs.size,[(s.heap.push { cls:=.type "range",data:=.fields #[.int lo t,.int hi u,.int 1 v] }).objs.size],_,_,H,rfl,
  I1.kept (t':=tk) λb o e=>Heap.get?_push_of_some _ e,zac _ lo (hi-lo).toNat,?_,λb hb=>?_,q⟩
 .have e1:lo+((0:Nat):Int)*1=lo:=by simp
  have e2:(((hi-lo).toNat:Nat):Int)-((0:Nat):Int)=Builtin.Range.rangeSize lo hi 1:=by rw[rangeSize_one];split<;>omega
  show IsRangeIter _ _ (lo+((0:Nat):Int)*1) ((((hi-lo).toNat:Nat):Int)-((0:Nat):Int)) 1;rw[e1,e2];exact Heap.get?_push_size _ rfl
 .have e:b=(s.heap.push { cls:=.type "range",data:=.fields #[.int lo t,.int hi u,.int 1 v] }).objs.size:=by simpa using hb
  subst e;exact I1.fpOk (zC _) (I1.hok.fresh (zC _))
def Ek (ta:TA):TI:=λσ H R=>ta σ H λvs H1=>∃j:Int,vs=[.int j]/\-(2^62)<=j/\j<2^62/\R (Itr 0 j.toNat) H1
def CH (ta:TA):TI:=λσ H R=>ta σ H λvs H1=>∃i j:Int,vs=[.int i,.int j]/\(-(2^62)<=i/\i<2^62/\-(2^62)<=j/\j<2^62)/\R (Itr i (j-i).toNat) H1
theorem HW {a:Expr}{ta:TA}{p pos:Pos}(hg:Gl X "range")(hm:X.mg "range"=none)(ha:PA X [a] ta)(hs:starEach [a] X.env=[(false,eval a X.env)]:=by rfl):PI X tg (.Call (.Name "range" p) [a] [] pos) (Ek ta):=by
 intro pins s σ H R I h;refine Call_ (WE I hg hm boot_range (PyProof.Rows.callWith_type1 (thn (ha pos pins s σ H _ I h) λus s1 ⟨vs,H1,I1,r1,q1⟩=>?_) hs rfl));obtain⟨j,e,q1,q2,q⟩:=q1;subst e;cases r1 with
 | cons r rr=>
  cases rr;obtain⟨t,rfl⟩:=r;exact call_range_1 (CB I1 (by omega) (by omega) q1 q2 (by simpa using q))
theorem zhg (hg:Gl X "range")(hm:X.mg "range"=none)(ha:PA X [a,b] ta)(hs:starEach [a,b] X.env=[(false,eval a X.env),(false,eval b X.env)]:=by rfl)(hs2:starEach [b] X.env=[(false,eval b X.env)]:=by rfl):
  PI X tg (.Call (.Name "range" p) [a,b] [] pos) (CH ta):=by
 intro pins s σ H R I h;refine Call_ (WE I hg hm boot_range (PyProof.Rows.callWith_type1 (thn (ha pos pins s σ H _ I h) λus s1 ⟨vs,H1,I1,r1,q1⟩=>?_) (by rw[hs,hs2]) (by rw[hs2];rfl)));obtain⟨i,j,e,⟨q1,q2,q3,q4⟩,q⟩:=q1;subst e;cases r1 with
 | cons r rr=>
  cases rr with
  | cons r' rr=>
   cases rr;obtain⟨t,rfl⟩:=r;obtain⟨t',rfl⟩:=r';exact call_range_2 (CB I1 q1 q2 q3 q4 q)
def tFor (wi:TI)(g:TG)(tb:TS):TS:=λD σ H=>wi σ H λJ H1=>∃W:Nat->Nat->St->Hp->Prop,(∃m,W 0 m σ H1)/\∀i m σ H,W i m σ H->
 (J.stop i H/\D.nx σ H)\/(J.go i H/\∃N:St->Hp->Prop,(∀σ' H',N σ' H'->∃m',m'<m/\W (i+1) m' σ' H')/\∀x H',J.yld i H x H'->g x σ H' λσ2 H2=>tb { D with nx:=N,ct:=N,bk:=D.nx } σ2 H2)
def QF (fp:List Addr)(h:Heap):LA:=fp.filterMap λb=>(h.get? b).map λo=>(b,o)
theorem Nb {fp:List Addr}{h:Heap}{b:Addr}{o:Obj}(hb:b∈fp)(e:h.get? b=some o):(b,o)∈QF fp h:=List.mem_filterMap.mpr ⟨b,hb,by rw[e];rfl⟩
theorem zbM {fp:List Addr}{h:Heap}{p:Addr×Obj}(hp:p∈QF fp h):p.1∈fp/\h.get? p.1=some p.2:=by
 obtain⟨b,hb,e⟩:=List.mem_filterMap.mp hp;cases q:h.get? b with
 | none=>rw[q] at e;cases e
 | some o=>
  rw[q] at e;have e':(b,o)=p:=Option.some.inj e;subst e';exact⟨hb,q⟩
theorem Inv.pinned {pins:LA}{σ:St}{H:Hp}{s:Shared}{fp:List Addr}(I:Inv X pins σ H s)(hf:∀b∈fp,Yd X pins H b)(ho:∀b∈fp,∃o,s.heap.get? b=some o/\∀v,o.data≠.cell v):Inv X (pins++QF fp s.heap) σ H s:=
 I.pins_of λp hp=>(zY.mp hp).elim (λz=>I.pin p (yN _ z)) λz=>by
  obtain⟨hb,e⟩:=zbM z;obtain⟨f0,f1,f2,_⟩:=hf p.1 hb;obtain⟨o,e',d⟩:=ho p.1 hb;rw[e] at e';cases e'
  exact⟨e,f0,f1,f2,d⟩
theorem Inv.unpinned (I:Inv X (pins++pl) σ H s):Inv X pins σ H s:=I.pins_of λp hp=>I.pin p (yN _ (List.mem_append_left _ hp))
theorem SO (hp:PassesOwn (model X.prog X.w) X.A X.env X.xe)(hc:X.calm=true)(hi:PI X tg aU wi)(hg:PG X tg g)(hb:PSs X body tb)(hs:∀x,foldedSetIterable aU X.env x=pure x:=by intro _;rfl):PS X (.For tg aU body [] pos) (tFor wi g tb):=by
 intro pins s σ H D I h;refine wpAny_For (thn (hi pins s σ H _ I h) λv s1 h1=>thn h1 λitv s2 h2=>?_) hs;obtain⟨it,fp,tn,J,H2,e,I2,T,st2,f2,W,⟨m0,w0⟩,turn⟩:=h2;subst e;have stat:∀ {H':Hp},(∀b∈fp,H' b=none)->∀b∈fp,Yd X pins H' b:=λhn b hb=>⟨hn b hb,(f2 b hb).2⟩
 refine codeAny_forLoop_any (λn s'=>∃i σ' H',Inv X pins σ' H' s'/\tn i s'.heap/\(∀b∈fp,H' b=none)/\W i n σ' H') ?_ m0 ⟨0,σ,H2,I2,st2,λb hb=>(f2 b hb).1,w0⟩;rintro n s3 ⟨i,σ3,H3,I3,st3,fr3,w3⟩;rcases turn i n σ3 H3 w3 with ⟨stop,qn⟩|⟨go,N,hN,step⟩
 .refine wpAny_passesOwn hp (thn (T.done X rfl rfl rfl hc i pins s3 σ3 H3 X.xe I3 (stat fr3) st3 stop) λr s4 ⟨hr,I4⟩=>?_);subst hr;exact wpAny_execs_nil ⟨σ3,H3,I4,qn⟩
 .refine wpAny_passesOwn hp (thn (T.item X rfl rfl rfl hc i pins s3 σ3 H3 X.xe I3 (stat fr3) st3 go) λr s4 ⟨u,hr,h4⟩=>?_);subst hr;refine wpAny_passesOwn hp (thn h4 λ_ s5 ⟨x,H5,I5,r5,y5,st5,fr5⟩=>?_);have I5':=I5.pinned (stat fr5) (T.obj _ _ st5);refine wpAny_passesOwn hp (thn (hg _ s5 σ3 H5 x u _ I5' r5 (step x H5 y5)) λ_ s6 ⟨σ6,H6,I6,q6⟩=>?_);refine wpAny_passesOwn hp (thn (hb _ s6 σ6 H6 _ I6 q6) λf s7 q7=>?_);have again:∀ {σ7:St} {H7:Hp},Inv X (pins++QF fp s5.heap) σ7 H7 s7->N σ7 H7->∃m,m<n/\∃i σ' H',Inv X pins σ' H' s7/\tn i s7.heap/\(∀b∈fp,H' b=none)/\W i m σ' H':=λ{σ7 H7} I7 n7=>by
   obtain⟨m',hm,w7⟩:=hN σ7 H7 n7;refine⟨m',hm,i+1,σ7,H7,I7.unpinned,T.keep _ _ _ st5 λb hb o e=>(I7.pin (b,o) (yN _ (yN _ (Nb hb e)))).1,λb hb=>?_,w7⟩;obtain⟨o,e,d⟩:=T.obj _ _ st5 b hb;exact(I7.pin (b,o) (yN _ (yN _ (Nb hb e)))).2.1
  cases f with
  | next=>obtain⟨σ7,H7,I7,n7⟩:=q7;exact again I7 n7
  | cont=>obtain⟨σ7,H7,I7,n7⟩:=q7;exact again I7 n7
  | brk=>obtain⟨σ7,H7,I7,q7⟩:=q7;exact⟨σ7,H7,I7.unpinned,q7⟩
  | ret v=>obtain⟨x7,σ7,H7,I7,r7,q7⟩:=q7;exact⟨x7,σ7,H7,I7.unpinned,r7,q7⟩
abbrev R2:=V->V->Hp->VK->Prop
def OpR (X:Cx)(f:Value->Value->Sem Value)(r:R2):Prop:=
 ∀(pins:LA)(s:Shared)(σ:St)(H:Hp)(x y:V)(v u:Value)(Q:VK),Inv X pins σ H s->ZD x v->ZD y u->r x y H Q->
  wpAny (model X.prog X.w) X.A (f v u) (EP X pins σ Q) X.xe s
def UnR (X:Cx)(f:Value->Sem Value)(r:V->Hp->VK->Prop):Prop:=
 ∀(pins:LA)(s:Shared)(σ:St)(H:Hp)(x:V)(v:Value)(Q:VK),Inv X pins σ H s->ZD x v->r x H Q->
  wpAny (model X.prog X.w) X.A (f v) (EP X pins σ Q) X.xe s
def Yr (X:Cx)(f:Value)(r:List V->Hp->VK->Prop):Prop:=
 ∀(pins:LA)(s:Shared)(σ:St)(H:Hp)(xs:List V)(us:List Value)(Q:VK),Inv X pins σ H s->ZC xs us->r xs H Q->
  wpAny (model X.prog X.w) X.A (call f us) (EP X pins σ Q) X.xe s
def tOp (r:R2)(ta tb:TE):TE:=λσ H Q=>ta σ H λx H1=>tb σ H1 λy H2=>r x y H2 Q
def tUn (r:V->Hp->VK->Prop)(ta:TE):TE:=λσ H Q=>ta σ H λx H1=>r x H1 Q
def rI (C:Int->Int->Prop)(g:Int->Int->V):R2:=λx y H Q=>∃i j,x=.int i/\y=.int j/\C i j/\Q (g i j) H
def rI0 (g:Int->Int->V):R2:=λx y H Q=>∃i j,x=.int i/\y=.int j/\Q (g i j) H
def rU (g:Int->V):V->Hp->VK->Prop:=λx H Q=>∃i,x=.int i/\Q (g i) H
theorem binT (ha:PE X a ta)(hb:PE X b tb){pins:LA}{s:Shared}{σ:St}{H:Hp}{R:V->V->Hp->Prop}(I:Inv X pins σ H s)
  (h:ta σ H λx H1=>tb σ H1 λy H2=>R x y H2){Q:Value->Shared->Prop}{f:Value->Value->Sem Value}
  (hf:∀v u s2 x y H2,Inv X pins σ H2 s2->ZD x v->ZD y u->R x y H2->wpAny (model X.prog X.w) X.A (f v u) Q X.xe s2):
  wpAny (model X.prog X.w) X.A (eval a X.env) (λv s₁=>wpAny (model X.prog X.w) X.A (eval b X.env) (λu s₂=>wpAny (model X.prog X.w) X.A (f v u) Q X.xe s₂) X.xe s₁) X.xe s:=by
 refine thn (ha pins s σ H _ I h) λv s1 ⟨x,H1,I1,r1,q1⟩=>?_
 refine thn (hb pins s1 σ H1 _ I1 q1) λu s2 ⟨y,H2,I2,r2,q2⟩=>?_
 exact hf v u s2 x y H2 I2 r1 r2 q2
theorem pe_op {op:Operator}{r:R2}(ho:OpR X (binaryOp op) r)(ha:PE X a ta)(hb:PE X b tb):PE X (.BinOp a op b pos) (tOp r ta tb):=by
 intro pins s σ H Q I h;exact wpAny_BinOp (binT ha hb I h λv u s2 x y H2 I2 rx ry q=>ho pins s2 σ H2 x y v u Q I2 rx ry q)
theorem pe_un {op:UnaryOp}{r:V->Hp->VK->Prop}(ho:UnR X (unaryOp op) r)(ha:PE X a ta):PE X (.UnaryOp op a pos) (tUn r ta):=by
 intro pins s σ H Q I h;exact UnaryOp_ (thn (ha pins s σ H _ I h) λv s1 ⟨x,H1,I1,r1,q1⟩=>ho pins s1 σ H1 x v Q I1 r1 q1)
theorem opI {f:Value->Value->Sem Value}{C:Int->Int->Prop}{g:Int->Int->Int}
  (rule:∀(i j:Int)(t u:Tok)(s:Shared)(Q:Value->Shared->Prop)(E:Value->Shared->Prop),C i j->Q (.int (g i j) s.toks) { s with toks:=s.toks+1 }->wpAny (model X.prog X.w) X.A (f (.int i t) (.int j u)) Q E s):
  OpR X f (rI C λi j=>.int (g i j)):=by
 intro pins s σ H x y v u Q I rx ry h;obtain⟨i,j,rfl,rfl,hc,q⟩:=h;obtain⟨t,rfl⟩:=rx;obtain⟨t',rfl⟩:=ry;exact rule i j t t' s _ _ hc ⟨.int (g i j),H,I.tok _,⟨_,rfl⟩,q⟩
theorem opI0 {f:Value->Value->Sem Value}{g:Int->Int->Int}
  (rule:∀(i j:Int)(t u:Tok)(s:Shared)(Q:Value->Shared->Prop)(E:Value->Shared->Prop),Q (.int (g i j) s.toks) { s with toks:=s.toks+1 }->wpAny (model X.prog X.w) X.A (f (.int i t) (.int j u)) Q E s):
  OpR X f (rI0 λi j=>.int (g i j)):=by
 intro pins s σ H x y v u Q I rx ry h;obtain⟨i,j,rfl,rfl,q⟩:=h;obtain⟨t,rfl⟩:=rx;obtain⟨t',rfl⟩:=ry;exact rule i j t t' s _ _ ⟨.int (g i j),H,I.tok _,⟨_,rfl⟩,q⟩
theorem NT {f:Value->Value->Sem Value}{g:Int->Int->Bool}
  (rule:∀(i j:Int)(t u:Tok)(s:Shared)(Q:Value->Shared->Prop)(E:Value->Shared->Prop),Q (.bool (g i j)) s->wpAny (model X.prog X.w) X.A (f (.int i t) (.int j u)) Q E s):
  OpR X f (rI0 λi j=>.bl (g i j)):=by
 intro pins s σ H x y v u Q I rx ry h;obtain⟨i,j,rfl,rfl,q⟩:=h;obtain⟨t,rfl⟩:=rx;obtain⟨t',rfl⟩:=ry;exact rule i j t t' s _ _ ⟨.bl (g i j),H,I,rfl,q⟩
def Lo (i j:Int):Prop:=0<=j/\j<=1000000/\i.natAbs<2^64
theorem zfh:OpR X (binaryOp .Add) (rI0 λi j=>.int (i+j)):=opI0 λ_ _ _ _ _ _ _ q=>add_int q
theorem zas:OpR X (binaryOp .Sub) (rI0 λi j=>.int (i-j)):=opI0 λ_ _ _ _ _ _ _ q=>sub_int q
theorem zbr:OpR X (binaryOp .Mod) (rI (λ_ j=>0<j) λi j=>.int (i%j)):=opI λi j _ _ _ _ _ hc q=>by
 have h1:(0:Int)<j:=hc;exact mod_int' (by omega) (by rw[Int.fmod_eq_emod_of_nonneg i (by omega)];exact q)
theorem zaC:OpR X (binaryOp .Pow) (rI Lo λi j=>.int (i^j.toNat)):=opI λ_ _ _ _ _ _ _ hc q=>pow_int_small hc.1 hc.2.1 hc.2.2 q
theorem za5:OpR X (binaryOp .LShift) (rI Lo λi j=>.int (i*2^j.toNat)):=opI λ_ _ _ _ _ _ _ hc q=>lshift_int_small hc.1 hc.2.1 hc.2.2 q
theorem unI {f:Value->Sem Value}{g:Int->Int}
  (rule:∀(i:Int)(t:Tok)(s:Shared)(Q:Value->Shared->Prop)(E:Value->Shared->Prop),Q (.int (g i) s.toks) { s with toks:=s.toks+1 }->wpAny (model X.prog X.w) X.A (f (.int i t)) Q E s):
  UnR X f (rU λi=>.int (g i)):=by
 intro pins s σ H x v Q I rx h;obtain⟨i,rfl,q⟩:=h;obtain⟨t,rfl⟩:=rx;exact rule i t s _ _ ⟨.int (g i),H,I.tok _,⟨_,rfl⟩,q⟩
theorem zgX:UnR X (unaryOp .USub) (rU λi=>.int (-i)):=unI λ_ _ _ _ _ q=>neg_int q
def Ly:V->V->Bool
 | .non,.non=>true|.non,.int _=>true|.int _,.non=>true|.non,.bl _=>true|.bl _,.non=>true|.non,.str _=>true|.str _,.non=>true
 | .int _,.int _=>true|.bl _,.bl _=>true|.str _,.str _=>true|.byt _,.byt _=>true
 | .int _,.str _=>true|.str _,.int _=>true|.bl _,.str _=>true|.str _,.bl _=>true
 | _,_=>false
def rEq:R2:=λx y H Q=>Ly x y=true/\Q (.bl (decide (x=y))) H
def rNe:R2:=λx y H Q=>Ly x y=true/\Q (.bl (!decide (x=y))) H
theorem E5:decide (V.int i=V.int j)=(i==j):=by
 rw[yY];simp
theorem EV:decide (V.bl i=V.bl j)=(i==j):=by
 rw[yY];simp
theorem CG:decide (V.str i=V.str j)=(i==j):=by
 rw[yY];simp
theorem DP:decide (V.byt i=V.byt j)=(i.toList==j.toList):=by
 rw[yY];cases i;cases j;simp
theorem Z3 (I:Inv X pins σ H s)(q:Q (.bl k) H)(e:k=k'):EP X pins σ Q (.bool k') s:=by
 subst e;exact⟨.bl k,H,I,rfl,q⟩
theorem Fw:OpR X (compareOp .Eq) rEq:=by
 intro pins s σ H x y v u Q I rx ry h;obtain⟨hs,q⟩:=h;cases x with
 | non=>
  cases rx;cases y with
  | non=>cases ry;exact PySem.EqNone.eq_none_none (Z3 I q (by simp))
  | bl j=>cases ry;exact PySem.EqNone.eq_none_bool (Z3 I q (by simp))
  | int j=>obtain⟨t',rfl⟩:=ry;exact PySem.EqNone.eq_none_int (Z3 I q (by simp))
  | str j=>obtain⟨t',rfl⟩:=ry;exact PySem.EqNone.eq_none_str (Z3 I q (by simp))
  | _=>exact absurd (show false=true from hs) zJ
 | bl i=>
  cases rx;cases y with
  | non=>cases ry;exact PySem.EqNone.eq_bool_none (Z3 I q (by simp))
  | bl j=>cases ry;exact eq_bool (Z3 I q EV)
  | str j=>obtain⟨t',rfl⟩:=ry;exact PySem.EqMixed.eq_bool_str (Z3 I q (by simp))
  | _=>exact absurd (show false=true from hs) zJ
 | int i=>
  obtain⟨t,rfl⟩:=rx;cases y with
  | non=>cases ry;exact PySem.EqNone.eq_int_none (Z3 I q (by simp))
  | int j=>obtain⟨t',rfl⟩:=ry;exact eq_int (Z3 I q E5)
  | str j=>obtain⟨t',rfl⟩:=ry;exact PySem.EqMixed.eq_int_str (Z3 I q (by simp))
  | _=>exact absurd (show false=true from hs) zJ
 | str i=>
  obtain⟨t,rfl⟩:=rx;cases y with
  | non=>cases ry;exact PySem.EqNone.eq_str_none (Z3 I q (by simp))
  | bl j=>cases ry;exact PySem.EqMixed.eq_str_bool (Z3 I q (by simp))
  | int j=>obtain⟨t',rfl⟩:=ry;exact PySem.EqMixed.eq_str_int (Z3 I q (by simp))
  | str j=>obtain⟨t',rfl⟩:=ry;exact eq_str (Z3 I q CG)
  | _=>exact absurd (show false=true from hs) zJ
 | byt i=>
  obtain⟨t,rfl⟩:=rx;cases y with
  | byt j=>obtain⟨t',rfl⟩:=ry;exact W.eq_bytes (Z3 I q DP)
  | _=>exact absurd (show false=true from hs) zJ
 | _=>cases y<;>exact absurd (show false=true from hs) zJ
theorem op_ne:OpR X (compareOp .NotEq) rNe:=by
 intro pins s σ H x y v u Q I rx ry h;obtain⟨hs,q⟩:=h;cases x with
 | non=>
  cases rx;cases y with
  | non=>cases ry;exact PySem.EqNone.ne_none_none (Z3 I q (by simp))
  | bl j=>cases ry;exact PySem.EqNone.ne_none_bool (Z3 I q (by simp))
  | int j=>obtain⟨t',rfl⟩:=ry;exact PySem.EqNone.ne_none_int (Z3 I q (by simp))
  | str j=>obtain⟨t',rfl⟩:=ry;exact PySem.EqNone.ne_none_str (Z3 I q (by simp))
  | _=>exact absurd (show false=true from hs) zJ
 | bl i=>
  cases rx;cases y with
  | non=>cases ry;exact PySem.EqNone.ne_bool_none (Z3 I q (by simp))
  | bl j=>cases ry;exact ne_bool (Z3 I q (congrArg not EV))
  | str j=>obtain⟨t',rfl⟩:=ry;exact PySem.EqMixed.ne_bool_str (Z3 I q (by simp))
  | _=>exact absurd (show false=true from hs) zJ
 | int i=>
  obtain⟨t,rfl⟩:=rx;cases y with
  | non=>cases ry;exact PySem.EqNone.ne_int_none (Z3 I q (by simp))
  | int j=>obtain⟨t',rfl⟩:=ry;exact ne_int (Z3 I q (congrArg not E5))
  | str j=>obtain⟨t',rfl⟩:=ry;exact PySem.EqMixed.ne_int_str (Z3 I q (by simp))
  | _=>exact absurd (show false=true from hs) zJ
 | str i=>
  obtain⟨t,rfl⟩:=rx;cases y with
  | non=>cases ry;exact PySem.EqNone.ne_str_none (Z3 I q (by simp))
  | bl j=>cases ry;exact PySem.EqMixed.ne_str_bool (Z3 I q (by simp))
  | int j=>obtain⟨t',rfl⟩:=ry;exact PySem.EqMixed.ne_str_int (Z3 I q (by simp))
  | str j=>obtain⟨t',rfl⟩:=ry;exact ne_str (Z3 I q (congrArg not CG))
  | _=>exact absurd (show false=true from hs) zJ
 | byt i=>
  obtain⟨t,rfl⟩:=rx;cases y with
  | byt j=>obtain⟨t',rfl⟩:=ry;exact W.ne_bytes (Z3 I q (congrArg not DP))
  | _=>exact absurd (show false=true from hs) zJ
 | _=>cases y<;>exact absurd (show false=true from hs) zJ
theorem op_lt:OpR X (compareOp .Lt) (rI0 λi j=>.bl (decide (i<j))):=NT λ_ _ _ _ _ _ _ q=>lt_int q
theorem op_le:OpR X (compareOp .LtE) (rI0 λi j=>.bl (decide (i<=j))):=NT λ_ _ _ _ _ _ _ q=>le_int q
theorem op_gt:OpR X (compareOp .Gt) (rI0 λi j=>.bl (decide (j<i))):=NT λ_ _ _ _ _ _ _ q=>gt_int q
theorem op_ge:OpR X (compareOp .GtE) (rI0 λi j=>.bl (decide (j<=i))):=NT λ_ _ _ _ _ _ _ q=>ge_int q
theorem zbT:OpR X (compareOp .Is) (λx y H Q=>y=.non/\Q (.bl (decide (x=.non))) H):=by
 intro pins s σ H x y v u Q I rx ry h;obtain⟨rfl,q⟩:=h;cases ry;refine is_none_gen (Z3 I q ?_);cases x<;>first
  | (cases rx;rfl)
  | (obtain⟨t,rfl⟩:=rx;rfl)
theorem zad:OpR X (compareOp .IsNot) (λx y H Q=>y=.non/\Q (.bl (!decide (x=.non))) H):=by
 intro pins s σ H x y v u Q I rx ry h;obtain⟨rfl,q⟩:=h;cases ry;refine isnot_none_gen (Z3 I q ?_);cases x<;>first
  | (cases rx;rfl)
  | (obtain⟨t,rfl⟩:=rx;rfl)
theorem Zn (b:Expr)(h:op≠.In:=by decide)(h2:op≠.NotIn:=by decide):behindInMarks op b=false:=by
 have e1:(op==CmpOp.In)=false:=by cases op<;>first|rfl|exact absurd rfl h
 have e2:(op==CmpOp.NotIn)=false:=by cases op<;>first|rfl|exact absurd rfl h2
 cases b<;>simp[behindInMarks,e1,e2]
theorem zgv {op:CmpOp}{r:R2}(ho:OpR X (compareOp op) r)(ha:PE X a ta)(hb:PE X b tb)(hm:behindInMarks op b=false):PE X (.Compare a [op] [b] pos) (tOp r ta tb):=by
 intro pins s σ H Q I h;exact wpAny_Compare1 (binT ha hb I h λv u s2 x y H2 I2 rx ry q=>ho pins s2 σ H2 x y v u Q I2 rx ry q) hm
def Bh (t:TE):TT:=λσ H Q=>t σ H λx H'=>∃k,x=.bl k/\Q k H'
theorem zeb {op:CmpOp}{r:R2}(ho:OpR X (compareOp op) r)(ha:PE X a ta)(hb:PE X b tb)(hm:behindInMarks op b=false):PT X (.Compare a [op] [b] pos) (Bh (tOp r ta tb)):=by
 intro pins s σ H Q I h;refine wpAny_isTrue_Compare1 (thn (ha pins s σ H _ I h) λv s1 ⟨x,H1,I1,r1,q1⟩=>thn (hb pins s1 σ H1 _ I1 q1) λu s2 ⟨y,H2,I2,r2,q2⟩=>
  thn (ho pins s2 σ H2 x y v u _ I2 r1 r2 q2) λc s3 ⟨z,H3,I3,r3,k,e,q3⟩=>?_) hm
 subst e;cases r3;exact wpAny_truthy_bool ⟨H3,I3,q3⟩
def Iy (r r':R2)(ta tb tc:TE):TE:=λσ H Q=>ta σ H λx H1=>tb σ H1 λy H2=>r x y H2 λz H3=>∃k,z=.bl k/\
 (if k=true then tc σ H3 λw' H4=>r' y w' H4 Q else Q (.bl false) H3)
theorem zb4 {op op':CmpOp}{r r':R2}(ho:OpR X (compareOp op) r)(ho':OpR X (compareOp op') r')(ha:PE X a ta)(hb:PE X b tb)(hc:PE X c tc)
  (hm:lastMarks [op,op'] [b,c]=false:=by with_unfolding_all rfl):PE X (.Compare a [op,op'] [b,c] pos) (Iy r r' ta tb tc):=by
 intro pins s σ H Q I h;refine Compare_chain (thn (ha pins s σ H _ I h) λv s1 ⟨x,H1,I1,r1,q1⟩=>chain_link (thn (hb pins s1 σ H1 _ I1 q1) λu s2 ⟨y,H2,I2,r2,q2⟩=>
  thn (ho pins s2 σ H2 x y v u _ I2 r1 r2 q2) λd s3 ⟨z,H3,I3,r3,k,e,q3⟩=>?_)) hm
 subst e;cases r3;refine wpAny_truthy_bool ?_;cases k with
 | false=>exact ite_ff ⟨.bl false,H3,I3,rfl,q3⟩
 | true=>exact ite_tt (chain_last (thn (hc pins s3 σ H3 _ I3 q3) λw' s4 ⟨z',H4,I4,r4,q4⟩=>ho' pins s4 σ H4 y z' u w' Q I4 r2 r4 q4))
theorem zhk {op op':CmpOp}{r r':R2}(ho:OpR X (compareOp op) r)(ho':OpR X (compareOp op') r')(ha:PE X a ta)(hb:PE X b tb)(hc:PE X c tc)
  (hm:lastMarks [op,op'] [b,c]=false:=by with_unfolding_all rfl):PT X (.Compare a [op,op'] [b,c] pos) (Bh (Iy r r' ta tb tc)):=by
 intro pins s σ H Q I h;refine isTrue_chain (thn (ha pins s σ H _ I h) λv s1 ⟨x,H1,I1,r1,q1⟩=>test_link (thn (hb pins s1 σ H1 _ I1 q1) λu s2 ⟨y,H2,I2,r2,q2⟩=>
  thn (ho pins s2 σ H2 x y v u _ I2 r1 r2 q2) λd s3 ⟨z,H3,I3,r3,k,e,q3⟩=>?_)) hm
 subst e;cases r3;refine wpAny_truthy_bool ?_;cases k with
 | false=>
  obtain⟨k',e',q'⟩:=q3;cases e';exact ite_ff ⟨H3,I3,q'⟩
 | true=>
  refine ite_tt (test_last (thn (hc pins s3 σ H3 _ I3 q3) λw' s4 ⟨z',H4,I4,r4,q4⟩=>thn (ho' pins s4 σ H4 y z' u w' _ I4 r2 r4 q4) λd' s5 ⟨z2,H5,I5,r5,k2,e2,q5⟩=>?_));subst e2;cases r5;exact wpAny_truthy_bool ⟨H5,I5,q5⟩
theorem RJ:(sizeLine:Nat)<2^63:=by rw[sizeLine_eq];decide
theorem WN (r:ZC [x] us):∃u,us=[u]/\ZD x u:=by
 cases r with
 | cons r1 r2=>cases r2;exact⟨_,rfl,r1⟩
theorem Hv (r:ZC [x,y] us):∃u w',us=[u,w']/\ZD x u/\ZD y w':=by
 cases r with
 | cons r1 r2=>
  cases r2 with
  | cons r3 r4=>cases r4;exact⟨_,_,rfl,r1,r3⟩
theorem A8:Yr X (.builtin "abs") (λxs H Q=>∃i,xs=[.int i]/\Q (.int (if i<0 then -i else i)) H):=by
 intro pins s σ H xs us Q I r h;obtain⟨i,rfl,q⟩:=h;obtain⟨u,rfl,t,rfl⟩:=WN r;exact call_abs_int λu tk=>⟨.int (if i<0 then -i else i),H,I.tok _,⟨_,rfl⟩,q⟩
theorem zbt (hc:X.calm=true):Yr X (.builtin "max") (λxs H Q=>∃i j,xs=[.int i,.int j]/\Q (.int (if j > i then j else i)) H):=by
 intro pins s σ H xs us Q I r h;obtain⟨i,j,rfl,q⟩:=h;obtain⟨u,w',rfl,⟨t,rfl⟩,⟨t',rfl⟩⟩:=Hv r;refine max_two_ints (I.ok.hd hc) λh' tk k=>⟨_,H,I.kept k,?_,q⟩
 by_cases hj:j > i
 .rw[if_pos hj,if_pos hj];exact⟨_,rfl⟩
 .rw[if_neg hj,if_neg hj];exact⟨_,rfl⟩
theorem zfM (hc:X.calm=true):Yr X (.builtin "min") (λxs H Q=>∃i j,xs=[.int i,.int j]/\Q (.int (if j<i then j else i)) H):=by
 intro pins s σ H xs us Q I r h;obtain⟨i,j,rfl,q⟩:=h;obtain⟨u,w',rfl,⟨t,rfl⟩,⟨t',rfl⟩⟩:=Hv r;refine min_two_ints (I.ok.hd hc) λh' tk k=>⟨_,H,I.kept k,?_,q⟩
 by_cases hj:j<i
 .rw[if_pos hj,if_pos hj];exact⟨_,rfl⟩
 .rw[if_neg hj,if_neg hj];exact⟨_,rfl⟩
structure Uu (h:Heap)(x dx C:Addr)(mA:Str->Option Value):Prop where
 obj:h.get? x=some (W.instObj C dx)
 ns:h.Ns1 dx mA
 ne:dx≠x
theorem zaR {h:Heap}{dx:Addr}{mA:Str->Option Value}(n:h.Ns1 dx mA):∃od,h.get? dx=some od/\∀name,W.lookIn name od=some (mA name):=by
 obtain⟨o,es,ep,ho,hd,hk,_,hm⟩:=n;refine⟨o,ho,λname=>?_⟩;have e:=hm name;unfold nsFind findBy at e;rw[<- Array.find?_toList] at e;unfold W.lookIn;rw[hd];dsimp only;split
 .rename_i y q;rw[q] at e;exact congrArg some e
 .rename_i q;rw[q] at e;have a:es.toList.any (·.refKey)=false:=by
   rw[List.any_eq_false];intro y hy;obtain⟨z,t,hkey⟩:=hk y (Array.mem_toList_iff.mp hy);simp[DictEntry.refKey,hkey]
  have a':¬ es.toList.any (·.refKey)=true:=by rw[a];exact zJ
  rw[if_neg a'];exact congrArg some e
theorem Uu.look (I:Uu h x dx C mA):∃od,W.InstAt h x (W.instObj C dx) C (some od)/\∀name,W.lookIn name od=some (mA name):=
 let ⟨od,ho,hl⟩:=zaR I.ns
 ⟨od,⟨I.obj,rfl,rfl,ho⟩,hl⟩
section
variable {prog:Program}{w:World}{A:Around}{E:Value->Shared->Prop}{s:Shared}{K:Fg}{x dx C f:Addr}{mA:Str->Option Value}{name:Str}{v:Value}
theorem zfc (X:K.In s.heap)(I:Uu s.heap x dx C mA)(hg:W.plainGet K C name=true)(hh:W.hasDictIn K C=true)(ha:W.findIn K (.ref C) name=some none)(hv:mA name=some v)(hv':W.handedIn v=true)(h:Q v { s with toks:=s.toks+1 }):
  wpAny (model prog w) A (getAttr (.ref x) name expr) Q E s:=by
 obtain⟨od,J,hl⟩:=I.look;exact W.get_value X J (W.plainGet_of hg).1 (W.findObj_own hh ha rfl (by rw[hl,hv])) hv' h
theorem zgl (X:K.In s.heap)(I:Uu s.heap x dx C mA)(hg:W.plainGet K C name=true)(hf:W.findIn K (.ref C) name=some (some (.ref f)))(ht:W.isFn K (.ref f)=true)(hv:mA name=none)(h:Q (.ref f,[.ref x]) s):
  wpAny (model prog w) A (getMethod (.ref x) name pl) Q E s:=by
 obtain⟨od,J,hl⟩:=I.look;exact W.method_fn X J (W.plainGet_of hg).1 (W.plainGet_of hg).2 hf (beq_iff_eq.mp ht) (by show (W.lookIn name od).map (·.isSome)=some false;rw[hl,hv];rfl) h
theorem zfb (X:K.In s.heap)(I:Uu s.heap x dx C mA)(hs:W.findIn K (.ref C) "__setattr__"=some (some (.builtin "object.__setattr__")))(hp:W.plainOver K C=true)(ht:W.takerIn K C name=some none)(hh:W.hasDictIn K C=true)(hw:PySem.Within mA ns)(hsz:ns.length<=sizeLine)(h:∀h',Uu h' x dx C (λy=>if y=name then some v else mA y)->Heap.SameBut dx s.heap h'->Q () { s with heap:=h',toks:=s.toks+2 }):
  wpAny (model prog w) A (setAttr (.ref x) name v) Q E s:=by
 obtain⟨od,J,hl⟩:=I.look;refine W.set_plain X J hs (W.osa_open (s:={ s with toks:=s.toks+1 }) (r:=none) X J hp ht λb=>?_);obtain⟨cd,hc,hd'⟩:=W.any_some hh;have hx:s.heap.get? x=some ⟨.ref C,some dx,.plain,#[]⟩:=I.obj;refine wpAny_bind (wpAny_pure (wpAny_bind (wpAny_bind (wpAny_loadPart hx (wpAny_bind (W.Looks.here (s:={ s with toks:=s.toks+1 }) (W.looks_clsIn X hc) ?_))))));rw[hd'];refine wpAny_pure (a:=some dx) (wpAny_bind (wpAny_pure (wpAny_bind ?_)));refine wpAny_nsSet1 (s:={ s with toks:=s.toks+1 }) I.ns λh' hn2 hs2=>?_
 obtain⟨oD,esD,epD,hoD,hdD,hcD⟩:=hn2.count (PySem.Within.cons name v hw);refine wpAny_bind (wpAny_lookBehind hoD (by rw[hdD];exact pastItsLine_dict (yD hcD (by rw[zU];omega))) ?_);exact wpAny_pure (h _ ⟨(hs2.2 _ (Ne.symm I.ne)).trans I.obj,hn2,I.ne⟩ hs2)
theorem zeo (X:K.In s.heap)(hm:W.makesIn K C=true)(hi:W.findIn K (.ref C) "__init__"=some (some (.ref f)))(hf:W.typeIn K (.ref f)=some (.type "function"))(h:codeAny (model prog w) (A.under (.builtin "type.__call__" ⟨.ref C::vs,kw⟩)) (.call (.ref f) ⟨.ref (s.heap.objs.size+1)::vs,kw⟩) (W.InitBack (s.heap.objs.size+1) R)
   { s with heap:=(s.heap.push W.emptyDict).push (W.instObj C s.heap.objs.size) }):
  codeAny (model prog w) A (.call (.ref C) ⟨vs,kw⟩) R s:=by
 obtain⟨hh,g,d,t,os⟩:=s;exact W.make_core (W.makes_of X hm) (W.looks_findIn X hi) (λself=>W.bind_fn X self hf) (.inl rfl) h
end
def YA (f:Str)(v:V):List (Str×V)->List (Str×V)
 | []=>[(f,v)]
 | (g,x)::r=>if g=f then (g,v)::r else (g,x)::YA f v r
theorem EJ (f g:Str)(v:V):∀fs:List (Str×V),(YA f v fs).lookup g=if g=f then some v else fs.lookup g
 | []=>by
  show List.lookup g [(f,v)]=_;by_cases h:g=f
  .have hb:(g==f)=true:=beq_iff_eq.mpr h;simp only[List.lookup,hb,if_pos h]
  .have hb:(g==f)=false:=beq_eq_false_iff_ne.mpr h;simp only[List.lookup,hb,if_neg h]
 | (k,x)::r=>by
  have ih:=EJ f g v r;rw[show YA f v ((k,x)::r)=(if k=f then (k,v)::r else (k,x)::YA f v r) from rfl];by_cases hk:k=f
  .rw[if_pos hk];by_cases h:g=k
   .have hb:(g==k)=true:=beq_iff_eq.mpr h;simp only[List.lookup,hb,if_pos (h.trans hk)]
   .have hb:(g==k)=false:=beq_eq_false_iff_ne.mpr h;simp only[List.lookup,hb,if_neg (λe:g=f=>h (e.trans hk.symm))]
  .rw[if_neg hk];by_cases h:g=k
   .have hb:(g==k)=true:=beq_iff_eq.mpr h;simp only[List.lookup,hb,if_neg (λe:g=f=>hk (h.symm.trans e))]
   .have hb:(g==k)=false:=beq_eq_false_iff_ne.mpr h;simp only[List.lookup,hb];exact ih
theorem Fo (f:Str)(v:V):∀fs:List (Str×V),f∈(YA f v fs).map (·.1)/\∀g,g∈fs.map (·.1)->g∈(YA f v fs).map (·.1)
 | []=>⟨by simp[YA],λg h=>by simp at h⟩
 | (k,x)::r=>by
  obtain⟨i1,i2⟩:=Fo f v r;rw[show YA f v ((k,x)::r)=(if k=f then (k,v)::r else (k,x)::YA f v r) from rfl];by_cases hk:k=f
  .rw[if_pos hk];subst hk;exact⟨by simp,λg h=>by simpa using h⟩
  .rw[if_neg hk];refine⟨?_,λg h=>?_⟩
   .rw[yJ];exact yH _ i1
   .rw[yJ] at h ⊢;rcases zO.mp h with e|e
    .exact zO.mpr (.inl e)
    .exact yH _ (i2 g e)
theorem C2 (f:Str)(v:V):∀fs:List (Str×V),(YA f v fs).length<=fs.length+1
 | []=>by simp[YA]
 | (k,x)::r=>by
  have ih:=C2 f v r;rw[show YA f v ((k,x)::r)=(if k=f then (k,v)::r else (k,x)::YA f v r) from rfl];by_cases hk:k=f
  .rw[if_pos hk,zU,zU];omega
  .rw[if_neg hk,zU,zU];omega
theorem WO.some_of (r:WO (some v) o):∃u,o=some u/\ZD v u:=by
 cases o with
 | none=>exact(show False from r).elim
 | some u=>exact⟨u,rfl,r⟩
theorem WO.none_of (r:WO none o):o=none:=by
 cases o with
 | none=>rfl
 | some u=>exact(show False from r).elim
theorem zeU (r:ZD v u):W.handedIn u=true:=by
 cases v with
 | non=>cases (show u=Value.none from r);rfl
 | bl b=>cases (show u=Value.bool b from r);rfl
 | int i=>obtain⟨t,e⟩:=(show ∃t,u=Value.int i t from r);cases e;rfl
 | str x=>obtain⟨t,e⟩:=(show ∃t,u=Value.str x t from r);cases e;rfl
 | byt b=>obtain⟨t,e⟩:=(show ∃t,u=Value.bytes b t from r);cases e;rfl
 | flt b=>obtain⟨t,e⟩:=(show ∃t,u=Value.float b t from r);cases e;rfl
 | ref a=>cases (show u=Value.ref a from r);rfl
 | ty n=>cases (show u=Value.type n from r);rfl
theorem NQ (hok:HOk P w H h)(e:H a=some (.ins C dx fs)):∃mA,Uu h a dx C mA/\(∀f,WO (fs.lookup f) (mA f))/\PySem.Within mA (fs.map (·.1))/\fs.length<=1000/\H dx=some (.own a):=by
 obtain⟨d,z,ne,ob,mA,n,r,q⟩:=(show YD P w H h a (.ins C dx fs) from hok a _ e);exact⟨mA,⟨ob,n,ne⟩,r,q,z,d⟩
structure Cls (K:Fg)(C:Addr):Prop where
 pg:W.plainGet K C Str.empty=true
 hd:W.hasDictIn K C=true
 po:W.plainOver K C=true
 sa:W.findIn K (.ref C) "__setattr__"=some (some (.builtin "object.__setattr__"))
theorem Cls.get {K:Fg}{C:Addr}(c:Cls K C)(f:Str):W.plainGet K C f=true:=c.pg
def Yp (K:Fg)(C:Addr)(f:Str):Prop:=W.findIn K (.ref C) f=some none
theorem Yp.taker {K:Fg}{C:Addr}{f:Str}(n:Yp K C f):W.takerIn K C f=some none:=by
 unfold W.takerIn;rw[show W.findIn K (.ref C) f=some none from n];rfl
structure Con (K:Fg)(C:Addr)(f:Str)(v:V)(u:Value):Prop where
 at_:W.findIn K (.ref C) f=some (some u)
 aZ:ZD v u
 get:W.specialIn K u "__get__"=some none
 cp:W.copiedNames.contains f=false
structure VR (K:Fg)(C:Addr)(m:Str)(f:Addr):Prop where
 at_:W.findIn K (.ref C) m=some (some (.ref f))
 fn:W.isFn K (.ref f)=true
 kp:W.keepIn K (.ref f)=true
theorem zby (I:Inv X pins σ H s)(e:H a=some (.ins C dx fs))(c:Cls X.K C)(n:Yp X.K C f)(l:fs.lookup f=some v)(h:∀u s',Inv X pins σ H s'->ZD v u->Q u s'):wpAny (model X.prog X.w) A (getAttr (.ref a) f b) Q E s:=by
 obtain⟨mA,O,r,_,_,_⟩:=NQ I.hok e;obtain⟨u,hu,ru⟩:=WO.some_of (v:=v) (o:=mA f) (by rw[<- l];exact r f);exact zfc I.kIn O (c.get f) c.hd n hu (zeU ru) (h u _ (I.tok _) ru)
theorem JR (I:Inv X pins σ H s)(e:H a=some (.ins C dx fs))(c:Cls X.K C)(k:VR X.K C m g)(l:fs.lookup m=none)(h:Q (.ref g,[.ref a]) s):wpAny (model X.prog X.w) A (getMethod (.ref a) m pl) Q E s:=by
 obtain⟨mA,O,r,_,_,_⟩:=NQ I.hok e;have hn:mA m=none:=WO.none_of (by rw[<- l];exact r m);exact zgl I.kIn O (c.get m) k.at_ k.fn hn h
theorem AZ (I:Inv X pins σ H s)(e:H a=some (.ins C dx fs))(c:Cls X.K C)(n:Yp X.K C f)(hl:fs.length<1000)(ry:ZD y u)(h:∀s',Inv X pins σ (upd H a (.ins C dx (YA f y fs))) s'->Q () s'):wpAny (model X.prog X.w) A (setAttr (.ref a) f u) Q E s:=by
 obtain⟨mA,O,r,wi,_,ho⟩:=NQ I.hok e;have hz:(fs.map (·.1)).length<=sizeLine:=by rw[zA,sizeLine_eq];omega
 refine zfb I.kIn O c.sa c.po n.taker c.hd wi hz λh' O' sb=>h _ ?_
 have hd:∃o,h'.get? dx=some o:=let ⟨o,_,_,e',_⟩:=O'.ns;⟨o,e'⟩
 refine I.write (x:=a) (e:=dx) (by rw[e];exact True.intro) (.inr ho) (λb q hb z=>(sb.2 b hb).trans z) hd ?_;refine⟨by rw[Z1 O.ne];exact ho,?_,O.ne,O'.obj,_,O'.ns,λg=>?_,λg hg=>?_⟩
 .have:=C2 f y fs;omega
 .show WO ((YA f y fs).lookup g) (if g=f then some u else mA g);rw[EJ];by_cases q:g=f
  .rw[if_pos q,if_pos q];exact ry
  .rw[if_neg q,if_neg q];exact r g
 .by_cases q:g=f
  .rw[q];exact(Fo f y fs).1
  .refine(Fo f y fs).2 g (wi g λz=>hg ?_);show (if g=f then some u else mA g)=none;rw[if_neg q];exact z
theorem Inv.made (I:Inv X pins σ H s):Inv X pins σ (upd (upd H s.heap.objs.size (.own (s.heap.objs.size+1))) (s.heap.objs.size+1) (.ins C s.heap.objs.size []))
  { s with heap:=(s.heap.push W.emptyDict).push (W.instObj C s.heap.objs.size) }:=by
 have e1:(s.heap.push W.emptyDict).get? s.heap.objs.size=some W.emptyDict:=Heap.get?_push_size s.heap rfl
 have e2:((s.heap.push W.emptyDict).push (W.instObj C s.heap.objs.size)).get? (s.heap.objs.size+1)=some (W.instObj C s.heap.objs.size):=by
  have:=Heap.get?_push_size (s.heap.push W.emptyDict) (o:=W.instObj C s.heap.objs.size) rfl
  rwa [Heap.size_push] at this
 have e3:(s.heap.push W.emptyDict).Ns s.heap.objs.size (λ_=>none):=⟨W.emptyDict,#[],_,e1,rfl,(λe he=>absurd he (by simp)),λ_=>rfl⟩
 have I1:=I.laid (a:=s.heap.objs.size) (o:=.own (s.heap.objs.size+1)) (h':=s.heap.push W.emptyDict) (t':=s.toks) (λb u q=>Heap.get?_push_of_some _ q) (zC _) ⟨_,e1⟩;refine I1.laid (a:=s.heap.objs.size+1) (o:=.ins C s.heap.objs.size []) (t':=s.toks) (λb u q=>Heap.get?_push_of_some _ q) (Nat.le_of_eq (Heap.size_push _ _)) ?_;have ne:s.heap.objs.size≠s.heap.objs.size+1:=zM (Nat.lt_succ_self _);refine⟨by rw[Z1 ne,YH],zP _,ne,e2,λ_=>none,(Heap.Ns1.of_empty e3).at λo q=>Heap.get?_push_of_some _ q,λ_=>True.intro,λy hy=>absurd rfl hy⟩
theorem zdO (hb:attributeBase e f env (eval e env)=eval e env)(h:wpAny (model prog w) A (eval e env) (λo s₁=>wpAny (model prog w) A (getAttr o f true) Q E s₁) E s):wpAny (model prog w) A (eval (.Attribute e f pos) env) Q E s:=
 Attribute_any_ h (by rw[arm_eval_Attribute,hb])
def tFld (K:Fg)(ta:TE)(f:Str):TE:=λσ H Q=>ta σ H λx H1=>∃a C dx fs v,x=.ref a/\H1 a=some (.ins C dx fs)/\Cls K C/\Yp K C f/\fs.lookup f=some v/\Q v H1
def sFld (K:Fg)(ta tv:TE)(f:Str):TS:=λD σ H=>tv σ H λy H1=>ta σ H1 λx H2=>∃a C dx fs,x=.ref a/\H2 a=some (.ins C dx fs)/\Cls K C/\Yp K C f/\fs.length<1000/\
 D.nx σ (upd H2 a (.ins C dx (YA f y fs)))
theorem ze6 (he:PE X e ta)(hb:attributeBase e f X.env (eval e X.env)=eval e X.env):PE X (.Attribute e f pos) (tFld X.K ta f):=by
 intro pins s σ H Q I h;refine zdO hb (thn (he pins s σ H _ I h) λu s1 ⟨x,H1,I1,rx,a,C,dx,fs,v,ex,ea,c,n,l,q⟩=>?_);subst ex;obtain rfl:u=Value.ref a:=rx;exact zby I1 ea c n l λu' s2 I2 ru=>⟨v,H1,I2,ru,q⟩
theorem zaa (ha:PE X o ta)(hv:PE X value tv)(hs:swapsWith value (some (.Attribute o f pos')) pos.line X.env=pure false):PS X (.Assign [.Attribute o f pos'] value pos) (sFld X.K ta tv f):=by
 intro pins s σ H D I h;refine plainObj_wpAny_Assign_Attribute (thn (hv pins s σ H _ I h) λu s1 ⟨y,H1,I1,ry,q⟩=>thn (ha pins s1 σ H1 _ I1 q) λov s2 ⟨x,H2,I2,rx,a,C,dx,fs,ex,ea,c,n,l,q2⟩=>?_) hs;subst ex;obtain rfl:ov=Value.ref a:=rx;exact AZ I2 ea c n l ry λs3 I3=>⟨σ,_,I3,q2⟩
inductive XA (K:Fg)(H:Hp):V->Value->Prop where
 | non:XA K H .non (.type "NoneType")
 | bl (x:Bool):XA K H (.bl x) (.type "bool")
 | int (i:Int):XA K H (.int i) (.type "int")
 | str (x:Str):XA K H (.str x) (.type "str")
 | flt (x:UInt64):XA K H (.flt x) (.type "float")
 | lst {a:Addr} {xs:List V} (e:H a=some (.lst xs)):XA K H (.ref a) (.type "list")
 | frz {a:Addr} {o:Obj} {xs:List V} (e:H a=some (.frz o (.lst xs))):XA K H (.ref a) (.type "list")
 | tup {a:Addr} {xs:List V} (e:H a=some (.tup xs)):XA K H (.ref a) (.type "tuple")
 | dK {a:Addr} {aV:List (Key×V)} (e:H a=some (.dK aV)):XA K H (.ref a) (.type "dict")
 | dT {a:Addr} {aV:List (List Key×V)} (e:H a=some (.dT aV)):XA K H (.ref a) (.type "dict")
 | ins {a C dx:Addr} {fs:List (Str×V)} (e:H a=some (.ins C dx fs)) (cl:Cls K C) (ha:W.findIn K (.ref C) "__class__"=some (some (.builtin "object.__class__")))
   (hn:W.specialIn K (.builtin "object.__class__") "__get__"=some (some (.builtin "getset_descriptor.__get__"))) (htk:W.takesIn K (.builtin "object.__class__")=some true)
   (hm:W.mroIn K C (.type "object")=some true):XA K H (.ref a) (.ref C)
theorem zhP (I:Inv X pins σ H s)(rx:ZD x u)(ty:XA X.K H x t)(e:W.kitOne X.K t c=some b)(h:∀tk,Q (.bool b) { s with toks:=tk }):
  wpAny (model X.prog X.w) A (call (.builtin "isinstance") [u,c]) Q E s:=by
 cases ty with
 | non=>cases (show u=Value.none from rx);exact W.kia_one W.kitx_none I.kIn True.intro e (λz=>nomatch z) h
 | bl y=>cases (show u=Value.bool y from rx);exact W.kia_one W.kitx_bool I.kIn True.intro e (λz=>nomatch z) h
 | int i=>obtain⟨t,q⟩:=(show ∃t,u=Value.int i t from rx);cases q;exact W.kia_one W.kitx_int I.kIn True.intro e (λz=>nomatch z) h
 | str y=>obtain⟨t,q⟩:=(show ∃t,u=Value.str y t from rx);cases q;exact W.kia_one W.kitx_str I.kIn True.intro e (λz=>nomatch z) h
 | flt y=>obtain⟨t,q⟩:=(show ∃t,u=Value.float y t from rx);cases q;exact W.kia_one W.kitx_float I.kIn True.intro e (λz=>nomatch z) h
 | @lst a xs ea=>
  cases (show u=Value.ref a from rx);obtain⟨_,_,n,_,h1⟩:=(show YD X.prog X.w H s.heap a (.lst xs) from I.hok a _ ea);exact W.kia_one W.kitx_list I.kIn ⟨_,h1,rfl⟩ e (λz=>nomatch z) h
 | @frz a ob xs ea=>
  cases (show u=Value.ref a from rx);obtain⟨_,_,_,n,_,h1⟩:=(show YD X.prog X.w H s.heap a (.frz ob (.lst xs)) from I.hok a _ ea);exact W.kia_one W.kitx_list I.kIn ⟨_,h1,rfl⟩ e (λz=>nomatch z) h
 | @tup a xs ea=>
  cases (show u=Value.ref a from rx);obtain⟨_,_,_,p⟩:=(show YD X.prog X.w H s.heap a (.tup xs) from I.hok a _ ea);obtain⟨o,h1,h2,_⟩:=p;exact W.kia_one W.kitx_tuple I.kIn ⟨o,h1,h2⟩ e (λz=>nomatch z) h
 | @dK a aV ea=>
  cases (show u=Value.ref a from rx);obtain⟨_,_,vs,_,p⟩:=(show YD X.prog X.w H s.heap a (.dK aV) from I.hok a _ ea);obtain⟨o,es,ep,h1,h2,_⟩:=p;exact W.kia_one W.kitx_dict I.kIn ⟨o,h1,h2.1⟩ e (λz=>nomatch z) h
 | @dT a aV ea=>
  cases (show u=Value.ref a from rx);obtain⟨_,_,xs,_,o,es,ep,h1,h2,_⟩:=(show YD X.prog X.w H s.heap a (.dT aV) from I.hok a _ ea);exact W.kia_one W.kitx_dict I.kIn ⟨o,h1,h2.1⟩ e (λz=>nomatch z) h
 | @ins a C dx fs ea cl ha hn htk hm=>
  cases (show u=Value.ref a from rx);obtain⟨mA,O,_⟩:=NQ I.hok ea;obtain⟨od,J,_⟩:=O.look;exact W.kia_one (W.kitx_own (cl.get _) cl.hd ha hn htk hm) I.kIn J e (λz=>nomatch z) h
structure ZP (k:Nat)(A:Around):Prop where
 hd:A.handled=none
 dp:A.depth+3*k+5<recursionLimit
 un:A.units+16*k+200<cLine
theorem ZP.mono {j k:Nat}{A:Around}(r:ZP k A)(h:j<=k):ZP j A:=⟨r.hd,by have:=r.dp;omega,by have:=r.un;omega⟩
theorem ZP.deeper {k:Nat}{A:Around}(r:ZP (k+1) A)(env:Env):ZP k (A.deeper env):=
 ⟨r.hd,by have:=r.dp;show A.depth+1+3*k+5<_;omega,by have:=r.un;show A.units+3+16*k+200<_;omega⟩
theorem ZP.in1 {k:Nat}{A:Around}(r:ZP (k+1) A):ZP k A.in1:=
 ⟨r.hd,by have:=r.dp;show A.depth+3*k+5<_;omega,by have:=r.un;show A.units+1+16*k+200<_;omega⟩
theorem zaJ {A:Around}{C:Addr}{us:List Value}{kw:List (Str×Value)}:(A.under (.builtin "type.__call__" ⟨.ref C::us,kw⟩)).depth=A.depth+1:=by
 first|rfl|simp[Around.under,Code.weight,Code.isCreation,Code.isGuard,Code.isCaller,Code.frames,Code.isFrame,guardIds]
theorem zf3 {A:Around}{C:Addr}{us:List Value}{kw:List (Str×Value)}:(A.under (.builtin "type.__call__" ⟨.ref C::us,kw⟩)).units=A.units+1:=by
 first|rfl|simp[Around.under,Code.cUnits,Code.frames,Code.isFrame]
theorem ZP.make {k:Nat}{A:Around}(r:ZP (k+1) A)(C:Addr)(us:List Value)(kw:List (Str×Value)):ZP k (A.under (.builtin "type.__call__" ⟨.ref C::us,kw⟩)):=
 ⟨r.hd,by have:=r.dp;rw[zaJ];omega,by have:=r.un;rw[zf3];omega⟩
theorem ZP.depth {k:Nat}{A:Around}(r:ZP k A):A.depth<recursionLimit:=by have:=r.dp;omega
theorem ZP.units (r:ZP k A):A.units+64<cLine:=by have:=r.un;omega
def tNil:TA:=λ_ H Q=>Q [] H
def tCons (ta:TE)(tr:TA):TA:=λσ H Q=>ta σ H λx H1=>tr σ H1 λxs H2=>Q (x::xs) H2
theorem LX:PA X [] tNil:=λ_ _ _ _ H Q I h=>Calls.spliced_nil ⟨[],H,I,.nil,h⟩
theorem Tn (ha:PE X e te)(hr:PA X es t)(hs:starEach (e::es) X.env=(false,eval e X.env)::starEach es X.env:=by rfl):PA X (e::es) (tCons te t):=by
 intro pos pins s σ H Q I h;rw[hs];show wpAny _ _ (spliced ((false,eval e X.env)::backTo pos (starEach es X.env))) _ _ s;refine Calls.spliced_cons (thn (ha pins s σ H _ I h) λu s1 ⟨x,H1,I1,r1,q1⟩=>?_);exact thn (hr pos pins s1 σ H1 _ I1 q1) λus s2 ⟨xs,H2,I2,r2,q2⟩=>⟨x::xs,H2,I2,.cons r1 r2,q2⟩
def tTup (t:TA):TE:=λσ H Q=>t σ H λxs H1=>xs.length<=sizeLine/\∀p,H1 p=none->Q (.ref p) (upd H1 p (.tup xs))
def tLst (t:TA):TE:=λσ H Q=>t σ H λxs H1=>xs.length<=sizeLine/\∀p,H1 p=none->Q (.ref p) (upd H1 p (.lst xs))
theorem zal {x1}(h:PA X es t):PE X (.Tuple es x1 pos) (tTup t):=by
 intro pins s σ H Q I hq;refine wpAny_Tuple_spliced (thn (h pos pins s σ H _ I hq) λus s1 ⟨xs,H1,I1,r,z,q⟩=>⟨by rw[<- r.length];exact z,?_⟩);have hf:H1 s1.heap.objs.size=none:=I1.hok.fresh (zC _);refine⟨.ref s1.heap.objs.size,upd H1 s1.heap.objs.size (.tup xs),I1.laid (t':=s1.toks) (λb u e=>Heap.get?_push_of_some _ e) (zC _) ?_,rfl,q _ hf⟩;exact⟨z,us,r,⟨_,Heap.get?_push_size _ rfl,rfl,_,rfl⟩⟩
theorem zhL (h:PA X es t):PE X (.List es pos) (tLst t):=by
 intro pins s σ H Q I hq;refine wpAny_List_spliced (thn (h pos pins s σ H _ I hq) λus s1 ⟨xs,H1,I1,r,z,q⟩=>⟨by rw[<- r.length];exact z,?_⟩);have hf:H1 s1.heap.objs.size=none:=I1.hok.fresh (zC _);refine⟨.ref s1.heap.objs.size,upd H1 s1.heap.objs.size (.lst xs),I1.laid (t':=s1.toks) (λb u e=>Heap.get?_push_of_some _ e) (zC _) ?_,rfl,q _ hf⟩;exact⟨z,us,0,r,Heap.get?_push_size _ rfl⟩
abbrev Sp:=List V->Hp->VK->XK->Prop
abbrev CXT:=List Env->Hp->Shared->XK->Value->Shared->Prop
structure VU (P:Program)(w:World)(K:Fg)(mg:Str->Option Value)(base:Heap)(A:Around)(outer:List Env)(s:Shared)(H:Hp):Prop where
 frames:A.frames=some outer
 mod:Mod K mg base
 bs:∀b o,base.get? b=some o->s.heap.get? b=some o/\H b=none
 bsz:base.objs.size<=s.heap.objs.size
 funs:s.heap.FunFrames base outer
 frf:∀b∈frs outer,H b=none
 hok:HOk P w H s.heap
 bare:AllBare s.gens
def CE (outer:List Env)(P:Program)(w:World)(H:Hp)(s:Shared)(Q:VK)(u:Value)(s':Shared):Prop:=
 ∃v H',s'.os=s.os/\AllBare s'.gens/\Un (frs outer) [] H H' s.heap s'.heap/\HOk P w H' s'.heap/\ZD v u/\Q v H'
def CR (CX:CXT)(outer:List Env)(P:Program)(w:World)(H:Hp)(s:Shared)(Q:VK)(E:XK)(r:Result)(s':Shared):Prop:=
 match r with
 | .ok (.ret u)=>CE outer P w H s Q u s'
 | .ok _=>False
 | .error e=>CX outer H s E e s'
structure Yc (P:Program)(w:World)(K:Fg)(mg:Str->Option Value)(base:Heap)(CX:CXT)(k:Nat)(f:Addr)(fd:FuncData)(ps:List Str)(sp:Sp):Prop where
 len:∀vs H Q E,sp vs H Q E->vs.length=ps.length
 run:∀(A:Around)(outer:List Env)(s:Shared)(H:Hp)(args:Args)(us:List Value)(vs:List V)(Q:VK)(E:XK),ZP k A->VU P w K mg base A outer s H->BindsTo s fd args (ps.zip us)->ZC vs us->sp vs H Q E->
  codeAny (model P w) A (.call (.ref f) args) (CR CX outer P w H s Q E) s
theorem Yc.mono {P:Program}{w:World}{K:Fg}{mg:Str->Option Value}{base:Heap}{CX:CXT}{j k:Nat}{f:Addr}{fd:FuncData}{ps:List Str}{sp:Sp}(F:Yc P w K mg base CX j f fd ps sp)(h:j<=k):
  Yc P w K mg base CX k f fd ps sp:=⟨F.len,λA outer s H args us vs Q E hr=>F.run A outer s H args us vs Q E (hr.mono h)⟩
theorem VU.make {P:Program}{w:World}{K:Fg}{mg:Str->Option Value}{base:Heap}{A:Around}{outer:List Env}{s:Shared}{H:Hp}(e:VU P w K mg base A outer s H)(C:Addr)(us:List Value)(kw:List (Str×Value)):
  VU P w K mg base (A.under (.builtin "type.__call__" ⟨.ref C::us,kw⟩)) outer s H:=⟨by first|exact e.frames|(simpa [Around.under,Code.envs,Code.isFrame,pushEnvs] using e.frames),e.mod,e.bs,e.bsz,e.funs,e.frf,e.hok,e.bare⟩
theorem Inv.env0 (I:Inv X pins σ H s):VU X.prog X.w X.K X.mg X.base X.A X.stack s H:=
 ⟨I.ok.frames,I.ok.mod,I.bs,yD I.ok.bsz I.sz,I.stack,I.stkFree,I.hok,I.bare⟩
theorem Inv.after (I:Inv X pins σ H s)(h:CE X.stack X.prog X.w H s Q u s'):EP X pins σ Q u s':=by
 obtain⟨v,H',os,bare,un,hok,r,q⟩:=h;obtain⟨hh,g,d,t,os'⟩:=s';obtain rfl:os'=s.os:=os;exact⟨v,H',I.call (h':=hh) (g':=g) (d':=d) (t':=t) (ch:=[]) un hok bare (λb z=>absurd z (by simp)),r,q⟩
def tMake (C:Addr)(sp:Sp)(dvs:List V)(E:XK)(t:TA):TE:=λσ H Q=>t σ H λvs H1=>∀x dx,H1 x=none->H1 dx=none->dx≠x->
 sp (.ref x::(vs++dvs)) (upd (upd H1 dx (.own x)) x (.ins C dx [])) (λv H2=>v=.non/\Q (.ref x) H2) E
def YB (K:Fg)(fd:FuncData)(ps:List Str)(ds:List Value):Prop:=
 ∀(s:Shared)(us:List Value),K.In s.heap->(us++ds).length=ps.length->BindsTo s fd ⟨us,[]⟩ (ps.zip (us++ds))
theorem YB.all {K:Fg}{fd:FuncData}{ps:List Str}(h:∀us:List Value,us.length=ps.length->bindArgs fd ⟨us,[]⟩=pure (ps.zip us)):YB K fd ps []:=λs us _ hl=>by
 rw[yZ] at hl ⊢;exact .of_eq (h us hl)
def Ma (CX:CXT)(X:Cx)(E:XK):Prop:=∀(pins:LA)(σ:St)(H:Hp)(s:Shared)(e:Value)(s':Shared),Inv X pins σ H s->CX X.stack H s E e s'->X.xe e s'
structure Mk (K:Fg)(C f:Addr):Prop where
 makes:W.makesIn K C=true
 init:W.findIn K (.ref C) "__init__"=some (some (.ref f))
 fn:W.isFn K (.ref f)=true
 kp:W.keepIn K (.ref C)=true
theorem zg5 (M:Mk X.K C f)(F:Yc X.prog X.w X.K X.mg X.base CX k f fd ps sp)(hr:ZP (k+1) X.A)(hb:YB X.K fd ps ds)(hd:ZC dvs ds)(hx:Ma CX X E)(I:Inv X pins σ H s)(r:ZC vs us)(h:∀x dx,H x=none->H dx=none->dx≠x->sp (.ref x::(vs++dvs)) (upd (upd H dx (.own x)) x (.ins C dx [])) (λv H2=>v=.non/\Q (.ref x) H2) E):
  wpAny (model X.prog X.w) X.A (call (.ref C) us) (EP X pins σ Q) X.xe s:=by
 have hq:=h (s.heap.objs.size+1) s.heap.objs.size (I.hok.fresh (Nat.le_succ _)) (I.hok.fresh (zC _)) (zM (Nat.lt_succ_self _))
 have I2:=Inv.made (C:=C) I
 have r2:ZC (V.ref (s.heap.objs.size+1)::(vs++dvs)) (Value.ref (s.heap.objs.size+1)::(us++ds)):=.cons rfl (r.append hd)
 have hl:(Value.ref (s.heap.objs.size+1)::us++ds).length=ps.length:=by
  have e:=r2.length;rw[F.len _ _ _ _ hq] at e;exact e.symm
 refine wpAny_call (zeo (f:=f) I.kIn M.makes M.init (beq_iff_eq.mp M.fn) (codeAny_mono (F.run _ X.stack _ _ ⟨Value.ref (s.heap.objs.size+1)::us,[]⟩ (Value.ref (s.heap.objs.size+1)::(us++ds)) _ _ E (hr.make C us [])
  (I2.env0.make C us []) (hb _ (Value.ref (s.heap.objs.size+1)::us) I2.kIn hl) r2 hq) λr s' hq'=>?_))
 cases r with
 | error e=>exact hx pins σ _ _ e s' I2 hq'
 | ok fl=>
  cases fl with
  | ret u=>
   obtain⟨v,H',I3,rv,ev,q3⟩:=I2.after hq';subst ev;exact⟨rv,⟨V.ref (s.heap.objs.size+1),H',I3,rfl,q3⟩⟩
  | next=>exact False.elim hq'
  | brk=>exact False.elim hq'
  | cont=>exact False.elim hq'
theorem zfE (M:Mk X.K C f)(F:Yc X.prog X.w X.K X.mg X.base CX k f fd ps sp)(hr:ZP (k+1) X.A)(hg:Gl X x)(hm:X.mg x=some (.ref C))(hb:YB X.K fd ps ds)(hd:ZC dvs ds)(hx:Ma CX X E)
  (ha:PA X (e::es) t)(hdb:(x==("__debug__":Str))=false:=by decide)(he:starEach (e::es) X.env=(false,eval e X.env)::starEach es X.env:=by rfl)(hpl:(backTo pos (starEach es X.env)).any (·.1)=false:=by rfl):
  PE X (.Call (.Name x p) (e::es) [] pos) (tMake C sp dvs E t):=by
 intro pins s σ H Q I h;refine wpAny_Call_Name_kw (DU I hg hm ?_ hdb);refine W.callWith_K (h₀:=X.base) I.ok.mod.kin M.kp (thn (ha pos pins s σ H _ I h) λus s1 ⟨vs,H1,I1,r,q⟩=>⟨I1.kIn,?_⟩) he hpl;exact zg5 M F hr hb hd hx I1 r q
section
structure KBinds (K:Fg)(fd:FuncData)(ps ks:List Str)(g:List Value->List Value->List Value)(gV:List V->List V->List V):Prop where
 to:∀(s:Shared)(us ws:List Value),K.In s.heap->(g us ws).length=ps.length->BindsTo s fd ⟨us,ks.zip ws⟩ (ps.zip (g us ws))
 aZ:∀ {vs:List V} {us:List Value} {zs:List V} {ws:List Value},ZC vs us->ZC zs ws->ZC (gV vs zs) (g us ws)
variable {g:List Value->List Value->List Value}{gV:List V->List V->List V}
end
structure Zm (N P:List Str)(sc:Scope):Prop where
 kind:sc.kind=.function
 co:sc.isCoroutine=false
 gen:sc.isGenerator=false
 nd:N.Nodup
 pre:N.take P.length=P
 par:∀x∈P,sc.names.lookup x=some .local\/sc.names.lookup x=some .cell
 nofree:∀y∈sc.names,y.2≠.free
theorem Em {kindOf:Str->Option NameKind}{x:Str}:∀ {binds:List (Str×Value)} {m:Str->Option Value},(∀v,(x,v) ∉ binds)->bindL kindOf binds m x=m x
 | [],_,_=>rfl
 | (n,v)::r,m,h=>by
  unfold bindL;rw[Em λw hw=>h w (yH _ hw)];split
  .have:x≠n:=by rintro rfl;exact h v yR
   simp[this]
  .rfl
theorem Dg {kindOf:Str->Option NameKind}{x:Str}:∀ {binds:List (Str×Value)} {m:Str->Option Value},(∀v,(x,v) ∉ binds)->bindC kindOf binds m x=m x
 | [],_,_=>rfl
 | (n,v)::r,m,h=>by
  unfold bindC;rw[Dg λw hw=>h w (yH _ hw)];split
  .rfl
  .have:x≠n:=by rintro rfl;exact h v yR
   simp[this]
theorem BK {kindOf:Str->Option NameKind}{x:Str}{v:Value}:∀ {P:List Str} {vs:List Value} {i:Nat} {m:Str->Option Value},P.Nodup->P[i]?=some x->vs[i]?=some v->kindOf x=some .local->
  bindL kindOf (P.zip vs) m x=some v
 | [],_,_,_,_,h,_,_=>by simp at h
 | _::_,[],_,_,_,_,h,_=>by simp at h
 | p::P,w::vs,0,m,nd,h1,h2,hk=>by
  simp at h1 h2;subst h1;subst h2
  show bindL kindOf ((p,w)::P.zip vs) m p=_;unfold bindL;rw[Em λv hv=>(xA.mp nd).1 (List.of_mem_zip hv).1,if_pos hk];simp
 | p::P,w::vs,i+1,m,nd,h1,h2,hk=>by
  show bindL kindOf ((p,w)::P.zip vs) m x=_;unfold bindL;exact BK (i:=i) (xA.mp nd).2 (by simpa using h1) (by simpa using h2) hk
theorem Cp {kindOf:Str->Option NameKind}{x:Str}{v:Value}:∀ {P:List Str} {vs:List Value} {i:Nat} {m:Str->Option Value},P.Nodup->P[i]?=some x->vs[i]?=some v->kindOf x≠some .local->
  bindC kindOf (P.zip vs) m x=some v
 | [],_,_,_,_,h,_,_=>by simp at h
 | _::_,[],_,_,_,_,h,_=>by simp at h
 | p::P,w::vs,0,m,nd,h1,h2,hk=>by
  simp at h1 h2;subst h1;subst h2
  show bindC kindOf ((p,w)::P.zip vs) m p=_;unfold bindC;rw[Dg λv hv=>(xA.mp nd).1 (List.of_mem_zip hv).1,if_neg hk];simp
 | p::P,w::vs,i+1,m,nd,h1,h2,hk=>by
  show bindC kindOf ((p,w)::P.zip vs) m x=_;unfold bindC;exact Cp (i:=i) (xA.mp nd).2 (by simpa using h1) (by simpa using h2) hk
def X0 (N:List Str)(vs:List V):St:=vs.map some++List.replicate (N.length-vs.length) none
def X6 (CX:CXT)(P:Program)(w:World)(K:Fg)(mg:Str->Option Value)(base:Heap)(N:List Str)(qual:Str)(scope:Scope)(f:Addr)(cd:Value)(A:Around)(outer:List Env)(s:Shared)(H:Hp)(E:XK):Cx where
 prog:=P
 w:=w
 K:=K
 mg:=mg
 base:=base
 A:=A.deeper (envOfC qual scope s.heap.objs.size f cd)
 N:=N
 s₀:=s
 H₀:=H
 env:=envOfC qual scope s.heap.objs.size f cd
 outer:=outer
 stack:=envOfC qual scope s.heap.objs.size f cd::outer
 ex:=[]
 calm:=true
 fn:=λ_=>true
 pn:=[]
 xe:=λe s'=>wpAny (model P w) (A.deeper (envOfC qual scope s.heap.objs.size f cd)) (leaving (envOfC qual scope s.heap.objs.size f cd) e) (λ_ s''=>CX outer H s E e s'') (λe' s''=>CX outer H s E e' s'') s'
theorem CI {sc:Scope}{n:Nat}{x:Str}(h:sc.names.lookup x=some .cell):∃c,(cellsFrom n sc.names []).lookup x=some c:=by
 have q:=W.cellsFrom_some sc.names n [] (.inl h);exact yO.mp q
theorem zbu {CX:CXT}{P:Program}{w:World}{K:Fg}{mg:Str->Option Value}{base:Heap}{N ps:List Str}{qual:Str}{scope:Scope}{f:Addr}{cd:Value}{A:Around}{outer:List Env}{s s1:Shared}{H:Hp}{E:XK}{us:List Value}{vs:List V}
  (S:Zm N ps scope)(hd:A.handled=none)(e0:VU P w K mg base A outer s H)(hl:vs.length=ps.length)(r:ZC vs us)
  (x:InCallC s s.heap.objs.size (bindL (envOfC qual scope s.heap.objs.size f cd).kindOf (ps.zip us) λ_=>none) (cellsFrom (s.heap.objs.size+1) scope.names []) (bindC (envOfC qual scope s.heap.objs.size f cd).kindOf (ps.zip us) λ_=>none) s1):
  Inv (X6 CX P w K mg base N qual scope f cd A outer s H E) [] (X0 N vs) H s1:=by
 have hpl:ps.length<=N.length:=by have:=congrArg List.length S.pre;rw[zG] at this;omega
 obtain⟨h1,tk,rfl,hk⟩:=x.done;have noA:∀b:Addr,b ∉ (X6 CX P w K mg base N qual scope f cd A outer s H E).ex:=λb z=>absurd (show b∈([]:List Addr) from z) (by simp)
 refine⟨⟨e0.mod,S.kind,rfl,rfl,zC _,λy z c h1 h2=>?_,λy hy=>?_,λy c _ h=>?_,λ_=>hd,Around.frames_deeper e0.frames,.inr ⟨rfl,rfl⟩,λb z=>absurd z (noA b),e0.bs,e0.bsz,λb _ _=>noA b,λb z=>absurd z (noA b),e0.funs,e0.frf⟩,
  rfl,e0.bare,Un.kept hk,⟨_,x.toInCall.ns,λi y v h1 h2 h3=>?_⟩,λy c h=>⟨_,x.cell y c h⟩,e0.hok.fresh (zC _),λy c h=>?_,λp hp=>absurd (show p∈([]:LA) from hp) (by simp),e0.hok.kept hk,?_⟩
 .exact name_of_addr x.apart (PySem.mem_of_lookup h1) (PySem.mem_of_lookup h2)
 .have hy:scope.names.lookup y=some .cell\/scope.names.lookup y=some .free:=hy;rcases hy with hy|hy
  .exact CI hy
  .exact absurd rfl (S.nofree _ (PySem.mem_of_lookup hy))
 .exact yM (x.above y c (PySem.mem_of_lookup h))
 .have hi:i<vs.length:=by
   unfold X0 at h2;by_cases hi:i<vs.length
   .exact hi
   .rw[yB (by simpa using hi)] at h2;rw[List.getElem?_replicate] at h2;split at h2<;>cases h2
  have ha:vs[i]?=some v:=by
   unfold X0 at h2;rw[zI (by simpa using hi),zF] at h2;cases e:vs[i]? with
   | none=>rw[e] at h2;cases h2
   | some a=>rw[e] at h2;cases h2;rfl
  obtain⟨u,hu,rv⟩:=r.get ha;have hp:ps[i]?=some y:=by
   rw[<- S.pre,List.getElem?_take_of_lt (by omega)];exact h1
  have ndP:ps.Nodup:=by rw[<- S.pre];exact S.nd.sublist (List.take_sublist _ _)
  refine⟨u,rv,?_⟩;rcases S.par y (zE hp) with k|k
  .exact .inl ⟨k,BK ndP hp hu k⟩
  .obtain⟨c,e⟩:=CI (n:=s.heap.objs.size+1) k;refine .inr ⟨.inl k,c,e,?_⟩;have q:=x.cell y c e;rw[Cp ndP hp hu (by show scope.names.lookup y≠_;rw[k];decide)] at q;exact q
 .exact e0.hok.fresh (yM (x.above y c (PySem.mem_of_lookup h)))
 .unfold X0;show _=N.length;rw[zQ,zA,List.length_replicate];omega
theorem JC {CX:CXT}{P:Program}{w:World}{K:Fg}{mg:Str->Option Value}{base:Heap}{k:Nat}{f:Addr}{name qual:Str}{params:Arguments}{body:List Stmt}{scope:Scope}{dV kV doc pm cdv ct oc:Value}{an od:Option Addr}
  {osl:Array (Option Value)}{N ps:List Str}{sp:Sp}(lk:K.lookup f=some ⟨oc,od,.func (W.fnOf name qual params body scope dV kV doc pm an cdv ct),osl⟩)(hcd:W.codeIn K cdv qual=true)(S:Zm N ps scope)
  (len:∀vs H Q E,sp vs H Q E->vs.length=ps.length)
  (hbody:∀(A:Around)(outer:List Env)(s:Shared)(H:Hp)(vs:List V)(Q:VK)(E:XK),ZP k (A.deeper (envOfC qual scope s.heap.objs.size f cdv))->sp vs H Q E->
   ∃t,PSs (X6 CX P w K mg base N qual scope f cdv A outer s H E) body t/\t { nx:=λ_ H'=>Q .non H',rt:=Q } (X0 N vs) H):
  Yc P w K mg base CX (k+1) f (W.fnOf name qual params body scope dV kV doc pm an cdv ct) ps sp:=by
 refine⟨len,λA outer s H args us vs Q E hr e0 hb r hsp=>?_⟩;have hl:=len _ _ _ _ hsp
 have KX:K.In s.heap:=e0.mod.kin.keeps λb o e=>(e0.bs b o e).1
 have lim:s.heap.NoLimit:=e0.mod.nolimit.keeps λb o e=>(e0.bs b o e).1
 have hkind:∀y∈ps.zip us,scope.names.lookup y.1=some .local\/(scope.names.lookup y.1=some .cell/\((cellsFrom (s.heap.objs.size+1) scope.names []).lookup y.1).isSome=true):=λ⟨n,v⟩ hy=>by
  rcases S.par n (List.of_mem_zip hy).1 with q|q
  .exact .inl q
  .exact .inr ⟨q,W.cellsFrom_some _ _ _ (.inl q)⟩
 refine codeAny_call_function hr.depth (KX _ _ lk) rfl S.co S.gen rfl (W.codeRec_of KX hcd) (hb _ _ _ _ ?_);refine wpAny_newFunctionEnv_cells S.kind hkind λenv he s1 x=>?_
 subst he;refine⟨lim.keeps x.toInCall.keep,codeAny_func ?_⟩;obtain⟨t,ht,hq⟩:=hbody A outer s H vs Q E (hr.deeper _) hsp;have I:Inv (X6 CX P w K mg base N qual scope f cdv A outer s H E) [] (X0 N vs) H s1:=zbu S hr.hd e0 hl r x;refine wpAny_mono (ht [] s1 (X0 N vs) H _ I hq) (λfl s' hs=>?_) λe s' hs=>hs
 have aY:∀ {σ':St} {H':Hp} {v:V} {u:Value},Inv (X6 CX P w K mg base N qual scope f cdv A outer s H E) [] σ' H' s'->ZD v u->Q v H'->CE outer P w H s Q u s':=
  λ{σ' H' v u} J rv q=>⟨v,H',J.os,J.bare,J.base,J.hok,rv,q⟩
 cases fl with
 | ret u=>
  obtain⟨v,σ',H',J,rv,q⟩:=hs;exact aY J rv q
 | next=>
  obtain⟨σ',H',J,q⟩:=hs;exact aY (v:=V.non) (u:=Value.none) J rfl q
 | brk=>
  obtain⟨_,_,_,q⟩:=hs;exact False.elim q
 | cont=>
  obtain⟨_,_,_,q⟩:=hs;exact False.elim q
section
variable {X:Cx}{x:Str}{p pos:Pos}{e:Expr}{es:List Expr}{t:TA}{id T:String}{r:List V->Hp->VK->Prop}
def tCB (r:List V->Hp->VK->Prop)(t:TA):TE:=λσ H Q=>t σ H λvs H1=>r vs H1 Q
theorem Ir (hc:Yr X (.builtin id) r)(hg:Gl X x)(hm:X.mg x=none)(hv:bootBuiltins x=some (.builtin id))(ha:PA X (e::es) t)(hn:x≠"__name__":=by decide)(hdb:(x==("__debug__":Str))=false:=by decide)
  (he:starEach (e::es) X.env=(false,eval e X.env)::starEach es X.env:=by rfl)(hpl:(backTo pos (starEach es X.env)).any (·.1)=false:=by rfl):PE X (.Call (.Name x p) (e::es) [] pos) (tCB r t):=by
 intro pins s σ H Q I h;refine wpAny_Call_Name_kw (WE I hg hm hv ?_ hn hdb);exact PyProof.Rows.callWith_builtin1 (thn (ha pos pins s σ H _ I h) λus s1 ⟨vs,H1,I1,r1,q1⟩=>hc pins s1 σ H1 vs us Q I1 r1 q1) he hpl
theorem zbX (hc:Yr X (.type T) r)(hg:Gl X x)(hm:X.mg x=none)(hv:bootBuiltins x=some (.type T))(ha:PA X (e::es) t)(hn:x≠"__name__":=by decide)(hdb:(x==("__debug__":Str))=false:=by decide)
  (he:starEach (e::es) X.env=(false,eval e X.env)::starEach es X.env:=by rfl)(hpl:(backTo pos (starEach es X.env)).any (·.1)=false:=by rfl):PE X (.Call (.Name x p) (e::es) [] pos) (tCB r t):=by
 intro pins s σ H Q I h;refine wpAny_Call_Name_kw (WE I hg hm hv ?_ hn hdb);exact PyProof.Rows.callWith_type1 (thn (ha pos pins s σ H _ I h) λus s1 ⟨vs,H1,I1,r1,q1⟩=>hc pins s1 σ H1 vs us Q I1 r1 q1) he hpl
end
end L2
namespace HT
open PySem PyProof.Rows
section
open PySem.SeqAt
open PySem.AutoSeq1 (wpAny_loadPart')
open PySem.MeetsSeq PySem.MeetsSeq2 PySem.MeetsSeq3
end
def sIx (n d:Nat):Option Int->Nat
 | none=>d
 | some v=>if v<0 then (v+(n:Int)).toNat else min v.toNat n
theorem sIx_none (n d:Nat):sIx n d none=d:=rfl
theorem sIx_nat (n d k:Nat):sIx n d (some (k:Int))=min k n:=by
 show (if (k:Int)<0 then ((k:Int)+(n:Int)).toNat else min (k:Int).toNat n)=min k n;rw[if_neg (by omega),zK]
end HT
namespace L2
open PySem PySem.Spec PyProof.Rows
abbrev TO:=St->Hp->(Option Int->Hp->Prop)->Prop
def PO (X:Cx)(e:Option Expr)(t:TO):Prop:=
 ∀(pins:LA)(s:Shared)(σ:St)(H:Hp)(Q:Option Int->Hp->Prop),Inv X pins σ H s->t σ H Q->
  wpAny (model X.prog X.w) X.A (evalPart e X.env) (λu s'=>∃o H',Inv X pins σ H' s'/\IsPart u o/\Q o H') X.xe s
def zef:TO:=λ_ H Q=>Q none H
def tPart (t:TE):TO:=λσ H Q=>t σ H λx H1=>∃i,x=.int i/\Q (some i) H1
theorem zbg:∀ {us:List Value},ZC (ns.map V.int) us->IntsAre us ns:=by
 induction ns with
 | nil=>intro us r;rw[List.map_nil] at r;cases r;exact .nil
 | cons n ns ih=>
  intro us r;rw[yJ] at r;cases r with
  | cons r1 r2=>
   obtain⟨t,e⟩:=r1;subst e;exact .cons n t (ih r2)
section
variable {X:Cx}{e:Expr}{te:TE}{lo hi:Option Expr}{tl th:TO}{pos p2:Pos}
theorem zdK:PO X none zef:=by
 intro pins s σ H Q I h;rw[evalPart_none];exact wpAny_pure ⟨none,H,I,.none,h⟩
theorem zew (h:PE X e te):PO X (some e) (tPart te):=by
 intro pins s σ H Q I hw;rw[evalPart_some];refine thn (h pins s σ H _ I hw) λu s1 ⟨x,H1,I1,r1,q1⟩=>?_
 obtain⟨i,rfl,q⟩:=q1;obtain⟨t,rfl⟩:=r1;exact⟨some i,H1,I1,.int i t,q⟩
def SlR (X:Cx)(r:V->Option Int->Option Int->Hp->VK->Prop):Prop:=
 ∀(pins:LA)(s:Shared)(σ:St)(H:Hp)(x:V)(v vl vu:Value)(lo hi:Option Int)(sl:Addr)(Q:VK),Inv X pins σ H s->ZD x v->s.heap.IsSliceOf sl vl vu .none->IsPart vl lo->IsPart vu hi->r x lo hi H Q->
  ∃T id,typeLookup (.type T) "__getitem__"=pure (some (.builtin id))/\s.TypeIs v T/\wpAny (model X.prog X.w) X.A (getItem v (.ref sl)) (EP X pins σ Q) X.xe s
def tSl (r:V->Option Int->Option Int->Hp->VK->Prop)(te:TE)(tl th:TO):TE:=λσ H Q=>te σ H λx H1=>tl σ H1 λl H2=>th σ H2 λu H3=>r x l u H3 Q
theorem zbI {r:V->Option Int->Option Int->Hp->VK->Prop}(hr:SlR X r)(he:PE X e te)(hl:PO X lo tl)(hu:PO X hi th):PE X (.Subscript e (.Slice lo hi none p2) pos) (tSl r te tl th):=by
 intro pins s σ H Q I h;refine Subscript_ (thn (he pins s σ H _ I h) λv s1 ⟨x,H1,I1,r1,q1⟩=>?_);refine wpAny_Slice (thn (hl pins s1 σ H1 _ I1 q1) λvl s2 ⟨l,H2,I2,pl,q2⟩=>thn (hu pins s2 σ H2 _ I2 q2) λvu s3 ⟨u,H3,I3,pu,q3⟩=>?_);rw[evalPart_none];refine wpAny_pure ?_;have I4:Inv X pins σ H3 { s3 with heap:=s3.heap.push { cls:=.type "slice",data:=.fields #[vl,vu,.none] } }:=I3.kept (t':=s3.toks) λb ob q=>Heap.get?_push_of_some _ q
 obtain⟨T,id,hT,ht,hg⟩:=hr pins { s3 with heap:=s3.heap.push { cls:=.type "slice",data:=.fields #[vl,vu,.none] } } σ H3 x v vl vu l u s3.heap.objs.size Q I4 r1 (Heap.IsSliceOf.new ..) pl pu q3;show wpAny (model X.prog X.w) X.A (subscriptTail e (.Slice lo hi none p2) v (.ref s3.heap.objs.size)) (EP X pins σ Q) X.xe { s3 with heap:=s3.heap.push { cls:=.type "slice",data:=.fields #[vl,vu,.none] } };exact tail_any (ops:=[.ref s3.heap.objs.size,v]) ht hT hg (by with_unfolding_all rfl)
def TY (xs:List V)(lo hi:Option Int):List V:=(xs.drop (HT.sIx xs.length 0 lo)).take (HT.sIx xs.length xs.length hi-HT.sIx xs.length 0 lo)
theorem zbY (xs:List V)(lo hi:Option Int):(TY xs lo hi).length<=xs.length:=by
 unfold TY;rw[zG,List.length_drop];omega
end
def ixN (n:Nat)(i:Int):Option Nat:=if 0<=i then (if i<n then some i.toNat else none) else if -(n:Int)<=i then some (i+n).toNat else none
def atI {α:Type}(xs:List α)(i:Int):Option α:=(ixN xs.length i).bind λj=>xs[j]?
theorem BW (h:ixN n i=some j):seqIndex? i n=some j/\j<n/\-(n:Int)<=i/\i<n:=by
 unfold ixN at h;by_cases h0:0<=i
 .rw[if_pos h0] at h;by_cases h1:i<n
  .rw[if_pos h1] at h;have e:i.toNat=j:=Option.some.inj h;exact⟨by rw[seqIndex_of h0 h1,e],by omega,by omega,h1⟩
  .rw[if_neg h1] at h;cases h
 .rw[if_neg h0] at h;by_cases h1:-(n:Int)<=i
  .rw[if_pos h1] at h;have e:(i+n).toNat=j:=Option.some.inj h;exact⟨by rw[seqIndex_neg (by omega) h1,e],by omega,h1,by omega⟩
  .rw[if_neg h1] at h;cases h
theorem Ad (h:atI xs i=some v):∃j,seqIndex? i xs.length=some j/\xs[j]?=some v/\j<xs.length/\-(xs.length:Int)<=i/\i<xs.length:=by
 unfold atI at h;cases e:ixN xs.length i with
 | none=>rw[e] at h;cases h
 | some j=>
  rw[e] at h;obtain⟨h1,h2,h3,h4⟩:=BW e;exact⟨j,h1,h,h2,h3,h4⟩
theorem Yx {α:Type}{xs:List α}{j:Nat}{v:α}(h:xs[j]?=some v):atI xs (j:Int)=some v:=by
 have hj:j<xs.length:=(zB.mp h).1
 have e:ixN xs.length (j:Int)=some j:=by
  unfold ixN;rw[if_pos (by omega),if_pos (by omega)];simp
 unfold atI;rw[e];exact h
def Ph (b:Expr):Prop:=∀o i,subscripted b false o i=operate [o,i] (getItem o i)
def IxR (X:Cx)(r:R2):Prop:=
 ∀(value slice:Expr)(pins:LA)(s:Shared)(σ:St)(H:Hp)(x y:V)(v u:Value)(Q:VK),Inv X pins σ H s->ZD x v->ZD y u->r x y H Q->
  subscripted slice false v u=operate [v,u] (getItem v u)->wpAny (model X.prog X.w) X.A (subscriptTail value slice v u) (EP X pins σ Q) X.xe s
def MtR (X:Cx)(id:String)(r:V->List V->Hp->VK->Prop):Prop:=
 ∀(pins:LA)(s:Shared)(σ:St)(H:Hp)(x:V)(xs:List V)(v:Value)(us:List Value)(Q:VK),Inv X pins σ H s->ZD x v->ZC xs us->r x xs H Q->
  wpAny (model X.prog X.w) X.A (call (.builtin id) (v::us)) (EP X pins σ Q) X.xe s
section
variable {X:Cx}{a b:Expr}{ta tb:TE}{pos:Pos}
theorem pe_ix {r:R2}(hr:IxR X r)(ha:PE X a ta)(hb:PE X b tb)(hs:Ph b):PE X (.Subscript a b pos) (tOp r ta tb):=by
 intro pins s σ H Q I h;exact Subscript_ (binT ha hb I h λv u s2 x y H2 I2 rx ry q=>hr a b pins s2 σ H2 x y v u Q I2 rx ry q (hs _ _))
def rIxL (K:Fg):R2:=λx y H Q=>∃p xs i v,x=.ref p/\y=.int i/\SqL K H p xs/\atI xs i=some v/\Q v H
def rIxT (K:Fg):R2:=λx y H Q=>∃p xs i v,x=.ref p/\y=.int i/\SqT K H p xs/\atI xs i=some v/\Q v H
theorem zbO:IxR X (rIxL X.K):=by
 intro value slice pins s σ H x y v u Q I rx ry h hs;obtain⟨p,xs,i,z,rfl,rfl,hq,he,q⟩:=h;cases rx;obtain⟨t,rfl⟩:=ry;obtain⟨aX,r,pl,hz⟩:=I.list hq;obtain⟨j,h1,h2,h3,h4,h5⟩:=Ad he;obtain⟨w,ew,rw'⟩:=r.get h2;have hl:=r.length
 have hn:=RJ
 have aY:EP X pins σ Q w s:=⟨z,H,I,rw',q⟩;by_cases h0:0<=i
 .have hj:i.toNat=j:=by
   rw[seqIndex_of h0 h5] at h1;exact Option.some.inj h1
  exact item_listR pl.isList h0 (by omega) (by rw[hj];simpa using ew) aY hs
 .have hj:(i+(aX.toArray.size:Int)).toNat=j:=by
   rw[seqIndex_neg (by omega) h4] at h1;rw[zH,<- hl];exact Option.some.inj h1
  exact subscriptTail_builtinR (x:=w) pl.isList.typeIs slot_list_getitem.lookup
   (wpAny_getItem_list_neg (Q:=λr s'=>r=w/\EP X pins σ Q r s') pl.isList (by omega) (by rw[zH]<;>omega) (by omega) (by rw[hj];simpa using ew) ⟨rfl,aY⟩) hs
theorem zf2:IxR X (rIxT X.K):=by
 intro value slice pins s σ H x y v u Q I rx ry h hs;obtain⟨p,xs,i,z,rfl,rfl,hq,he,q⟩:=h;cases rx;obtain⟨t,rfl⟩:=ry;obtain⟨aX,r,pl,hz⟩:=I.tuple hq;obtain⟨j,h1,h2,h3,h4,h5⟩:=Ad he;obtain⟨w,ew,rw'⟩:=r.get h2;have hl:=r.length
 have hn:=RJ
 have aY:EP X pins σ Q w s:=⟨z,H,I,rw',q⟩;exact subscriptTail_builtinR (x:=w) pl.typeIs slot_tuple_getitem.lookup
  (getItem_tuple (j:=j) (Q:=λr s'=>r=w/\EP X pins σ Q r s') pl (by omega) (by omega) (by rw[zH,<- hl];exact h1) (by simpa using ew) ⟨rfl,aY⟩) hs
theorem zeF (aX:List Value)(n j:Nat)(u:Value):Obj.mapSeq (·.setIfInBounds j u) { cls:=.type "list",data:=.seq aX.toArray n }={ cls:=.type "list",data:=.seq (aX.set j u).toArray n }:=by
 simp[Obj.mapSeq]
theorem Inv.lst {pins:LA}{σ:St}{H:Hp}{s:Shared}{p:Addr}{xs:List V}(I:Inv X pins σ H s)(h:H p=some (.lst xs)):
  ∃(aX:List Value)(n:Nat),ZC xs aX/\s.heap.get? p=some { cls:=.type "list",data:=.seq aX.toArray n }/\xs.length<=sizeLine:=by
 obtain⟨z,aX,n,r,e⟩:=I.hok p _ h;exact⟨aX,n,r,e,z⟩
theorem Inv.lstUpd {pins:LA}{σ:St}{H:Hp}{s:Shared}{p:Addr}{xs ys:List V}{aX its':List Value}{n n':Nat}{f:Obj->Obj}(I:Inv X pins σ H s)(h:H p=some (.lst xs))
  (ho:s.heap.get? p=some { cls:=.type "list",data:=.seq aX.toArray n })(hf:f { cls:=.type "list",data:=.seq aX.toArray n }={ cls:=.type "list",data:=.seq its'.toArray n' })(r:ZC ys its')(hz:ys.length<=sizeLine)(t:Nat):
  Inv X pins σ (upd H p (.lst ys)) { s with heap:=s.heap.update p f,toks:=t }:=by
 have e:(s.heap.update p f).get? p=some { cls:=.type "list",data:=.seq its'.toArray n' }:=by
  rw[Heap.get?_update_self f ho (by rw[hf]<;>rfl),hf]
 refine I.write (x:=p) (e:=p) (by rw[h];trivial) (.inl rfl) (λb u hb q=>(Heap.get?_update_other _ _ (Ne.symm hb)).trans q) ⟨_,e⟩ ?_;exact⟨hz,its',n',r,e⟩
def rSetL:V->V->V->Hp->(Hp->Prop)->Prop:=λo i v H Q=>∃p xs k j,o=.ref p/\i=.int k/\H p=some (.lst xs)/\ixN xs.length k=some j/\Q (upd H p (.lst (xs.set j v)))
theorem zaz:PSet X rSetL:=by
 intro pins s σ H o i v ov iv u Q I ro ri rv h;obtain⟨p,xs,k,j,rfl,rfl,hp,hj,q⟩:=h;cases ro;obtain⟨t,rfl⟩:=ri;obtain⟨aX,n,r,ho,hz⟩:=I.lst hp;obtain⟨h1,h2,h3,h4⟩:=BW hj;have hl:=r.length
 have hn:=RJ
 have I':Inv X pins σ (upd H p (.lst (xs.set j v))) { s with heap:=s.heap.update p (Obj.mapSeq (·.setIfInBounds j u)) }:=
  I.lstUpd hp ho (zeF aX n j u) (r.set rv j) (by rw[yC];exact hz) s.toks
 by_cases h0:0<=k
 .have hk:k.toNat=j:=by
   rw[seqIndex_of h0 h4] at h1;exact Option.some.inj h1
  exact W.ki_setAt ho h0 (by omega) (by rw[zH,<- hl];exact h4) (by rw[hk];exact⟨_,I',q⟩)
 .have hk:(k+(aX.toArray.size:Int)).toNat=j:=by
   rw[seqIndex_neg (by omega) h3] at h1;rw[zH,<- hl];exact Option.some.inj h1
  exact W.ki_setBack ho (by omega) (by rw[zH,<- hl];exact h3) (by omega) (by rw[hk];exact⟨_,I',q⟩)
theorem za8 (lo hi:Option Int)(n:Nat):(sliceBounds lo hi none n).1=((HT.sIx n 0 lo:Nat):Int)/\(sliceBounds lo hi none n).2.1=((HT.sIx n n hi:Nat):Int)/\(sliceBounds lo hi none n).2.2=1:=by
 refine⟨?_,?_,rfl⟩
 .cases lo with
  | none=>simp[sliceBounds,HT.sIx]
  | some i=>
   simp only[sliceBounds,HT.sIx,Option.getD_none,show (1:Int) > 0 by decide,if_true];by_cases h:i<0
   .simp only[h,if_true]<;>omega
   .simp only[h,if_false]<;>omega
 .cases hi with
  | none=>simp[sliceBounds,HT.sIx]
  | some i=>
   simp only[sliceBounds,HT.sIx,Option.getD_none,show (1:Int) > 0 by decide,if_true];by_cases h:i<0
   .simp only[h,if_true]<;>omega
   .simp only[h,if_false]<;>omega
theorem za4 (aX:List Value)(lo hi:Option Int):slicePick aX.toArray lo hi none=((aX.drop (HT.sIx aX.length 0 lo)).take (HT.sIx aX.length aX.length hi-HT.sIx aX.length 0 lo)).toArray:=by
 obtain⟨h1,h2,h3⟩:=za8 lo hi aX.toArray.size;unfold slicePick;rw[h1,h2,h3];simp only[sliceRange_one,pick_run,zH]<;>rfl
def rSlL (K:Fg):V->Option Int->Option Int->Hp->VK->Prop:=λx lo hi H Q=>∃a xs,x=.ref a/\SqL K H a xs/\∀p,H p=none->Q (.ref p) (upd H p (.lst (TY xs lo hi)))
theorem zhh:SlR X (rSlL X.K):=by
 intro pins s σ H x v vl vu lo hi sl Q I rx hs pl pu h;obtain⟨a,xs,rfl,hx,q⟩:=h;cases rx;obtain⟨aX,r,ht,hz⟩:=I.list hx;have aM:=r.length;refine⟨"list",_,slot_list_getitem.lookup,ht.isList.typeIs,?_⟩;refine wpAny_getItem_list_slice ht.isList hs pl pu .none (by simp) ?_ (by rw[zH]<;>omega);rw[za4,<- aM];refine⟨.ref s.heap.objs.size,_,I.laid (t':=s.toks) (o:=.lst (TY xs lo hi)) (λb ob q=>Heap.get?_push_of_some _ q) (zC _) ?_,rfl,q _ (I.hok.fresh (zC _))⟩;exact⟨yD (zbY xs lo hi) hz,_,0,(r.drop (HT.sIx xs.length 0 lo)).take (HT.sIx xs.length xs.length hi-HT.sIx xs.length 0 lo),Heap.get?_push_size _ rfl⟩
def OZ:V->Bool
 | .non=>true
 | .bl _=>true
 | .int _=>true
 | .str _=>true
 | _=>false
def eqV:V->V->Bool
 | .non,.non=>true
 | .bl a,.bl b=>a==b
 | .bl a,.int b=>(if a then 1 else 0)==b
 | .int a,.bl b=>a==(if b then 1 else 0)
 | .int a,.int b=>a==b
 | .str a,.str b=>a==b
 | _,_=>false
theorem zgN (ry:ZD y u)(rx:ZD x v)(fy:OZ y=true)(fx:OZ x=true):SeqAt.EqAt A s u v (eqV y x):=by
 cases y with
 | non=>
  cases ry;cases x with
  | non=>cases rx;exact SeqAt.EqAt.same _
  | bl b=>cases rx;exact SeqAt.EqAt.none_bool b
  | int b=>obtain⟨t,rfl⟩:=rx;exact SeqAt.EqAt.none_int b t
  | str b=>obtain⟨t,rfl⟩:=rx;exact SeqAt.EqAt.none_str b t
  | _=>exact absurd (show false=true from fx) zJ
 | bl a=>
  cases ry;cases x with
  | non=>cases rx;exact SeqAt.EqAt.bool_none a
  | bl b=>cases rx;exact SeqAt.EqAt.bool_bool a b
  | int b=>obtain⟨t,rfl⟩:=rx;exact SeqAt.EqAt.bool_int a b t
  | str b=>obtain⟨t,rfl⟩:=rx;exact SeqAt.EqAt.bool_str a b t
  | _=>exact absurd (show false=true from fx) zJ
 | int a=>
  obtain⟨t',rfl⟩:=ry;cases x with
  | non=>cases rx;exact SeqAt.EqAt.int_none a t'
  | bl b=>cases rx;exact SeqAt.EqAt.int_bool a t' b
  | int b=>obtain⟨t,rfl⟩:=rx;exact SeqAt.EqAt.int_int a t' b t
  | str b=>obtain⟨t,rfl⟩:=rx;exact SeqAt.EqAt.int_str a t' b t
  | _=>exact absurd (show false=true from fx) zJ
 | str a=>
  obtain⟨t',rfl⟩:=ry;cases x with
  | non=>cases rx;exact SeqAt.EqAt.str_none a t'
  | bl b=>cases rx;exact SeqAt.EqAt.str_bool a t' b
  | int b=>obtain⟨t,rfl⟩:=rx;exact SeqAt.EqAt.str_int a t' b t
  | str b=>obtain⟨t,rfl⟩:=rx;exact SeqAt.EqAt.str_str a t' b t
  | _=>exact absurd (show false=true from fx) zJ
 | _=>exact absurd (show false=true from fy) zJ
theorem zel:Yr X (.builtin "len") (λxs H Q=>∃p ys,xs=[.ref p]/\(SqL X.K H p ys\/SqT X.K H p ys)/\Q (.int ys.length) H):=by
 intro pins s σ H xs us Q I r h;obtain⟨p,ys,rfl,hq,q⟩:=h;obtain⟨u,rfl,rx⟩:=WN r;cases rx;have hn:=RJ;rcases hq with hq|hq
 .obtain⟨aX,r',pl,hz⟩:=I.list hq;have aM:=r'.length;exact Calls.call_len_list pl.isList (by simp only[zH]<;>omega) ⟨.int ys.length,H,I.tok _,⟨s.toks+1,by rw[zH,aM]⟩,q⟩
 .obtain⟨aX,r',pl,hz⟩:=I.tuple hq;have aM:=r'.length;exact len_tuple pl (by simp only[zH]<;>omega) ⟨.int ys.length,H,I.tok _,⟨s.toks+1,by rw[zH,aM]⟩,q⟩
theorem zgI:Yr X (.type "list") (λxs H Q=>∃p ys,xs=[.ref p]/\(SqL X.K H p ys\/SqT X.K H p ys)/\∀l,H l=none->Q (.ref l) (upd H l (.lst ys))):=by
 intro pins s σ H xs us Q I r h;obtain⟨p,ys,rfl,hq,q⟩:=h;obtain⟨u,rfl,rx⟩:=WN r;cases rx;have aY:∀(aX:List Value),ZC ys aX->ys.length<=sizeLine->∀(h':Heap)(c':Nat),(∀b o',s.heap.get? b=some o'->h'.get? b=some o')->
   h'.get? s.heap.objs.size=some { cls:=.type "list",dict:=none,data:=.seq aX.toArray c',slots:=#[] }->EP X pins σ Q (.ref s.heap.objs.size) { s with heap:=h' }:=λaX r' hz h' c' kp e=>
  ⟨.ref s.heap.objs.size,_,I.laid (t':=s.toks) kp (zC _) (show YD X.prog X.w _ h' _ (.lst ys) from ⟨hz,aX,c',r',e⟩),rfl,q _ (I.hok.fresh (zC _))⟩
 rcases hq with hq|hq
 .obtain⟨aX,r',pl,hz⟩:=I.list hq;have aM:=r'.length;obtain⟨o,ho,hc,n,hd⟩:=pl.isList;exact call_list_seq p (.inl rfl) ho hc hd (λh' c' kp e=>aY aX r' hz h' c' kp e) (by simp only[zH]<;>omega)
 .obtain⟨aX,r',pl,hz⟩:=I.tuple hq;have aM:=r'.length;obtain⟨o,ho,hc,n,hd⟩:=pl;exact call_list_seq p (.inr rfl) ho hc hd (λh' c' kp e=>aY aX r' hz h' c' kp e) (by simp only[zH]<;>omega)
def tyV (K:Fg)(T:String)(x:V)(H:Hp):Prop:=match x with
 | .str _=>T="str"
 | .int _=>T="int"
 | .ref p=>(T="list"/\∃xs,SqL K H p xs)\/(T="tuple"/\∃o,K.lookup p=some o/\o.cls=.type "tuple"/\o.dict=none)\/
   (T="dict"/\((∃aV,H p=some (.dK aV))\/∃aV,H p=some (.dT aV)))\/(T="set"/\∃S n,H p=some (.set S n))
 | _=>False
theorem Cq (I:Inv X pins σ H s)(r:ZD x v)(ty:tyV X.K T x H):
  s.TypeIs v T/\∀a,v=.ref a->∃ob,s.heap.get? a=some ob/\ob.dict=none:=by
 cases x with
 | str z=>
  obtain⟨t,rfl⟩:=r;cases (show T="str" from ty);exact⟨typeIs_str s z t,λ_ e=>nomatch e⟩
 | int i=>
  obtain⟨t,rfl⟩:=r;cases (show T="int" from ty);exact⟨typeIs_int s i t,λ_ e=>nomatch e⟩
 | ref p=>
  cases r;rcases ty with ⟨rfl,xs,hq⟩|⟨rfl,o,hk,hc,hd⟩|⟨rfl,hk⟩|⟨rfl,S,n,hk⟩
  .obtain⟨aX,_,pl,_⟩:=I.list hq;refine⟨pl.isList.typeIs,λa e=>?_⟩;cases e;obtain⟨o,n,e,c,hd,_⟩:=pl;exact⟨o,e,hd⟩
  .refine⟨⟨o,I.kIn p o hk,hc⟩,λa e=>?_⟩;cases e;exact⟨o,I.kIn _ o hk,hd⟩
  .have z:∃o,s.heap.get? p=some o/\o.ExactDict:=by
    rcases hk with ⟨aV,hk⟩|⟨aV,hk⟩
    .obtain⟨_,_,_,_,o,_,_,e,ex,_⟩:=I.hok p _ hk;exact⟨o,e,ex⟩
    .obtain⟨_,_,_,_,o,_,_,e,ex,_⟩:=I.hok p _ hk;exact⟨o,e,ex⟩
   obtain⟨o,e,ex⟩:=z;refine⟨⟨o,e,ex.1⟩,λa e2=>?_⟩;cases e2;exact⟨o,e,ex.2.1⟩
  .obtain⟨o,_,_,_,e,ex,_⟩:=I.hok p _ hk;refine⟨⟨o,e,ex.1⟩,λa e2=>?_⟩;cases e2;exact⟨o,e,ex.2.1⟩
 | _=>exact False.elim ty
def tBM0 (K:Fg)(T:String)(r:V->List V->Hp->VK->Prop)(to:TE):TE:=λσ H Q=>to σ H λx H1=>tyV K T x H1/\r x [] H1 Q
def tBM (K:Fg)(T:String)(r:V->List V->Hp->VK->Prop)(to:TE)(t:TA):TE:=λσ H Q=>to σ H λx H1=>tyV K T x H1/\t σ H1 λxs H2=>r x xs H2 Q
variable {o e:Expr}{es:List Expr}{to:TE}{t:TA}{name:Str}{aJ aH:Pos}{T id:String}{r:V->List V->Hp->VK->Prop}
theorem zeT (pa:PlainAttrs T)(slot:Slot T name id)(hty:typeOf (.builtin id)=pure (.type "method_descriptor"))(hm:MtR X id r)(ho:PE X o to)
  (hbase:attributeBase o name X.env (eval o X.env)=eval o X.env:=by rfl)(hline:(aJ.endLine==aH.line)=true:=by rfl):PE X (.Call (.Attribute o name aJ) [] [] aH) (tBM0 X.K T r to):=by
 intro pins s σ H Q I h;refine wpAny_Call_method0_late hbase hline (thn (ho pins s σ H _ I h) λv s1 ⟨x,H1,I1,r1,ty,q1⟩=>?_);obtain⟨h1,h2⟩:=Cq I1 r1 ty;exact⟨T,id,pa,slot,hty,h1,h2,Calls.callWith_builtin rfl (PySem.evalArgs_none (hm pins s1 σ H1 x [] v [] Q I1 r1 .nil q1))⟩
theorem BN (pa:PlainAttrs T)(slot:Slot T name id)(hty:typeOf (.builtin id)=pure (.type "method_descriptor"))(hm:MtR X id r)(ho:PE X o to)(ha:PA X (e::es) t)
  (hbase:attributeBase o name X.env (eval o X.env)=eval o X.env:=by rfl)
  (hfew:((backTo aH (starEach (e::es) X.env)).all (λx=>!x.1)&&(backToKw aH (keywordEach [] X.env)).all (λx=>x.1.isSome)
  &&decide ((e::es).length+([]:List Keyword).length+(if ([]:List Keyword).isEmpty then 0 else 1)<30))=true:=by rfl)
  (hline:(aJ.endLine==aH.line)=true:=by rfl)(hs:starEach (e::es) X.env=(false,eval e X.env)::starEach es X.env:=by rfl)(hplain:(backTo aH (starEach es X.env)).any (·.1)=false:=by rfl):
  PE X (.Call (.Attribute o name aJ) (e::es) [] aH) (tBM X.K T r to t):=by
 intro pins s σ H Q I h;refine wpAny_Call_method_late hbase hfew hline rfl (thn (ho pins s σ H _ I h) λv s1 ⟨x,H1,I1,r1,ty,q1⟩=>?_);obtain⟨h1,h2⟩:=Cq I1 r1 ty;refine⟨T,id,pa,slot,hty,h1,h2,?_⟩;have hA:=ha aH pins s1 σ H1 _ I1 q1;rw[hs] at hA ⊢;refine Calls.callWith_builtin (by show (false||(backTo aH (starEach es X.env)).any (·.1))=false;rw[hplain]<;>rfl) (Calls.evalArgs_plain ?_);exact thn hA λus s2 ⟨vs,H2,I2,r2,q2⟩=>hm pins s2 σ H2 x vs v us Q I2 r1 r2 q2
end
def MtM (X:Cx)(id:String)(r:V->List V->Hp->VK->Prop):Prop:=
 ∀(pins:LA)(s:Shared)(σ:St)(H:Hp)(x:V)(xs:List V)(v:Value)(us:List Value)(Q:VK),Inv X pins σ H s->ZD x v->ZC xs us->r x xs H Q->
  wpAny (model X.prog X.w) X.A (call (.builtin id) (v::us)) (EP X pins σ Q) X.xe s
theorem ZC.one:∀ {x:V} {us:List Value},ZC [x] us->∃u,us=[u]/\ZD x u
 | _,_,.cons r .nil=>⟨_,rfl,r⟩
theorem ZC.rep (h:ZC xs us):∀k:Nat,ZC (List.replicate k xs).flatten (List.replicate k us).flatten
 | 0=>.nil
 | k+1=>by
  rw[yV,yV,xB,xB];exact ZC.append h (ZC.rep h k)
theorem Ah (aX:List Value):∀(k:Nat)(acc:List Value),
  List.foldl (λx1 x2=>x1++x2) acc.toArray (List.replicate k aX.toArray)=(acc++(List.replicate k aX).flatten).toArray
 | 0,acc=>by simp
 | k+1,acc=>by
  have e:acc.toArray++aX.toArray=(acc++aX).toArray:=by simp
  have e2:(acc++aX)++(List.replicate k aX).flatten=acc++(List.replicate (k+1) aX).flatten:=by
   rw[yV,xB,yS]
  rw[<- e2,<- Ah aX k (acc++aX),<- e,yV,List.foldl_cons]
theorem Inv.lset {aX its':List Value}{n:Nat}{f:Array Value->Array Value}{t':Nat}(I:Inv X pins σ H s)(hH:H l=some (.lst xs))
  (e:s.heap.get? l=some { cls:=.type "list",data:=.seq aX.toArray n })(hf:f aX.toArray=its'.toArray)(hv:ZC ys its')(hz:ys.length<=sizeLine):
  Inv X pins σ (upd H l (.lst ys)) { s with heap:=s.heap.update l (Obj.mapSeq f),toks:=t' }:=by
 have q:=PySem.IsL.update e f;rw[hf] at q;refine I.write (x:=l) (e:=l) (by rw[hH];exact trivial) (.inl rfl) (λb' u hb hu=>(Heap.get?_update_other s.heap (Obj.mapSeq f) (Ne.symm hb)).trans hu) ⟨_,q⟩ ?_;exact⟨hz,its',_,hv,q⟩
theorem Inv.lnew (I:Inv X pins σ H s)(hv:ZC ys aX)(hz:ys.length<=sizeLine):
  Inv X pins σ (upd H s.heap.objs.size (.lst ys)) { s with heap:=s.heap.push { cls:=.type "list",data:=.seq aX.toArray },toks:=t' }:=
 I.laid (λ_ _ q=>Heap.get?_push_of_some _ q) (zC _) ⟨hz,aX,0,hv,Heap.get?_push_size _ rfl⟩
theorem Inv.fresh (I:Inv X pins σ H s):H s.heap.objs.size=none:=I.hok.fresh (zC _)
theorem Inv.lstM (I:Inv X pins σ H s)(hH:H l=some (.lst xs)):xs.length<=sizeLine/\∃(aX:List Value)(n:Nat),ZC xs aX/\xs.length=aX.length/\s.heap.get? l=some { cls:=.type "list",data:=.seq aX.toArray n }:=by
 obtain⟨z,aX,n,r,e⟩:=I.hok l _ hH;exact⟨z,aX,n,r,r.length,e⟩
theorem zbZ {n:Nat}(h:n<=sizeLine):Builtin.List.listTooLong n=false:=by
 unfold Builtin.List.listTooLong;exact decide_eq_false (by omega)
def zgA:V->List V->Hp->VK->Prop:=λx vs H Q=>∃l xs y,x=.ref l/\vs=[y]/\H l=some (.lst xs)/\xs.length<sizeLine/\Q .non (upd H l (.lst (xs++[y])))
theorem Dj:MtM X "list.append" zgA:=by
 intro pins s σ H x vs v us Q I rx rv h;obtain⟨l,xs,y,rfl,rfl,hH,hz,q⟩:=h;cases rx;obtain⟨u,rfl,ru⟩:=rv.one;obtain⟨z,aX,n,r,hl,e⟩:=I.lstM hH;refine call_meets F.slot_list_append ⟨_,e,rfl⟩ F.entry_list_append (F.args_list_append_2 _ _) (PySem.list_append l aX.toArray n u (by rw[zH];omega)) ⟨e,?_⟩;refine⟨.non,_,I.lset (its':=aX++[u]) hH e (by simp) (r.append (.cons ru .nil)) ?_,rfl,q⟩;rw[zQ,List.length_singleton];omega
def rCat:R2:=λx y H Q=>∃l b xs zs,x=.ref l/\y=.ref b/\H l=some (.lst xs)/\H b=some (.lst zs)/\xs.length+zs.length<=sizeLine/\∀p,H p=none->Q (.ref p) (upd H p (.lst (xs++zs)))
theorem zbU:OpR X (binaryOp .Add) rCat:=by
 intro pins s σ H x y v u Q I rx ry h;obtain⟨l,b,xs,zs,rfl,rfl,hH,hB,hz,q⟩:=h;cases rx;cases ry;obtain⟨z,aX,n,r,hl,e⟩:=I.lstM hH;obtain⟨z2,its2,n2,r2,hl2,e2⟩:=I.lstM hB;refine PySem.P.add_list e e2 ?_ (by rw[zH,zH];omega);have ea:aX.toArray++its2.toArray=(aX++its2).toArray:=by simp
 rw[ea];exact⟨.ref _,_,I.lnew (t':=s.toks) (r.append r2) (by rw[zQ];omega),rfl,q _ I.fresh⟩
def rRep:R2:=λx y H Q=>∃l k xs,x=.ref l/\y=.int k/\H l=some (.lst xs)/\-(2^63)<=k/\k<2^63/\xs.length*k.toNat<=sizeLine/\
 ∀p,H p=none->Q (.ref p) (upd H p (.lst (List.replicate k.toNat xs).flatten))
theorem zdS (xs:List α)(k:Nat):(List.replicate k xs).flatten.length=k*xs.length:=by
 induction k with
 | zero=>simp
 | succ k ih=>rw[yV,xB,zQ,ih,Nat.succ_mul,Nat.add_comm]
theorem zcV:OpR X (binaryOp .Mult) rRep:=by
 intro pins s σ H x y v u Q I rx ry h;obtain⟨l,k,xs,rfl,rfl,hH,h1,h2,hz,q⟩:=h;cases rx;obtain⟨t,rfl⟩:=ry;obtain⟨z,aX,n,r,hl,e⟩:=I.lstM hH;have aM:aX.toArray.size*k.toNat<=sizeLine:=by rw[zH,<- hl];exact hz
 have hcap:¬ aX.toArray.size*k.toNat > (2^63-1)/8:=by
  have:(sizeLine:Nat)<=(2^63-1)/8:=by decide
  omega
 have hfit:¬ (!Builtin.List.listFitsIndex k)=true:=by
  rw[fitsIndex_both h1 h2];exact zJ
 have hlong:¬ Builtin.List.listTooLong (aX.toArray.size*k.toNat)=true:=by
  rw[zbZ aM];exact zJ
 have hnew:List.foldl (λx1 x2=>x1++x2) #[] (List.replicate (if aX.toArray.isEmpty=true then 0 else k.toNat) aX.toArray)=(List.replicate k.toNat aX).flatten.toArray:=by
  have f0:∀m:Nat,List.foldl (λx1 x2=>x1++x2) #[] (List.replicate m aX.toArray)=(List.replicate m aX).flatten.toArray:=λm=>by
   have:=Ah aX m [];rw[List.nil_append] at this;exact this
  rw[f0];cases aX with
  | nil=>simp
  | cons a r'=>rw[if_neg (by simp)]
 refine wpAny_binaryOp_repeat_ref (T:="list") (U:="int") (by decide) ⟨_,e,rfl⟩ (λs'=>typeIs_int s' k t) noFill_list_mul F.fills_int_mul F.slot_int_rmul repeat_list F.slot_int_index.lookup
  (call_meets F.slot_int_rmul (typeIs_int s k t) F.entry_int_rmul (F.args_int_rmul_2 _ _) (int___rmul___int_list k t l aX.toArray n)
   ⟨e,rfl,⟨_,e,rfl⟩,call_meets F.slot_list_mul ⟨_,e,rfl⟩ F.entry_list_mul (F.args_list_mul_2 _ _) (AutoListH.list___mul___list_int_3 l aX.toArray n k t hfit hcap hlong) ⟨e,?_⟩⟩)
 rw[hnew];exact⟨.ref _,_,I.lnew (t':=s.toks) (r.rep k.toNat) (by rw[zdS,Nat.mul_comm];exact hz),rfl,q _ I.fresh⟩
section
variable {prog:Program}{w:World}{A:Around}{E:Value->Shared->Prop}{s:Shared}
set_option maxRecDepth 100000 in
end
section
variable {X:Cx}
end
end L2
namespace Att
open PySem PySem.W PySem.Calls PyProof.Rows
theorem zbj {P:Params}{h:Heap}:∀(ns:List Int)(vs:List Value),WellAll P h vs (ns.map WData.int)->IntsAre vs ns:=by
 intro ns
 induction ns with
 | nil=>
  intro vs w;rw[List.map_nil] at w;cases w;exact .nil
 | cons n ns ih=>
  intro vs w;rw[yJ] at w;cases w with
  | cons a b=>
   cases a;exact .cons _ _ (ih _ b)
theorem zgK {l:OpenLaw}{n:Nat}(hn:l.most=some n){P:Params}{h:Heap}{args:List WData}{vals:List Value}
  (hpre:l.row.toRowW.claim.pre args=true)(hwl:WellAll P h vals args):
  ∃a vs ns,vals=[Value.ref a]/\args=[WData.list (ns.map WData.int)]/\h.get? a=some { cls:=.type "list",data:=.seq vs.toArray }/\IntsAre vs ns/\ns.length<=n:=by
 have hsh:WShape.hasAll [] args [.list .int]=true:=(pre_splitW hpre).1
 have hc:l.pre.holds [] { args:=args }=true:=(pre_splitW hpre).2;obtain⟨d,r,rfl,h1,h2⟩:=hasAllW_cons hsh;obtain rfl:=hasAllW_nil h2;obtain⟨xs,rfl,h3⟩:=hasW_list h1;obtain⟨ns,rfl⟩:=items_int h3;have aM:ns.length<=n:=by
  unfold OpenLaw.pre at hc;have h4:(WTm.not (.lt (.lit (.int (n:Int))) (.len (.arg 0)))).holds [] { args:=[.list (ns.map .int)] }=true:=by
   have h4:=(holds_andW hc).1;rw[hn] at h4;exact h4
  have h5:=condW_of h4 (w_not (w_lt w_lit (w_len_list (w_arg rfl))));rw[zA] at h5;refine Nat.le_of_not_lt λq=>?_
  have q':(n:Int)<((ns.length:Nat):Int):=by omega
  first
   | (rw[decide_eq_true q'] at h5;exact absurd h5 (by decide))
   | (simp at h5;omega)
 cases hwl with
 | cons w1 w2=>
  cases w2;cases w1 with
  | list ho hall=>exact⟨_,_,ns,rfl,rfl,ho,zbj ns _ hall,aM⟩
theorem zaT (l:OpenLaw)(args:List WData):l.row.toRowW.claim.post args (.bool true) args=true:=
 postW_of (r:=l.row.toRowW) (X:=(true==true))
  (show WShape.has [] (.bool true) .bool=true by first|rfl|decide|simp[WShape.has,WShape.arms,WShape.armsAll])
  (show (WTm.eq .res (.lit (.bool true))).value [] { args:=args,res:=some (.bool true),after:=args }=some (.bool (true==true)) from w_eq_bool (w_res rfl) w_lit) rfl
theorem attach_call {l:OpenLaw}{n:Nat}{q:Program}{aG:List Str}{XP:(Str->Option Value)->Heap->Prop}{YP:World->Heap->Prop}{d:DefRec}
  (hn:l.most=some n)(hdf:d.params.defaults=[])
  (call:∀(w:World)(s₀ s₁:Shared)(mg mb:Str->Option Value)(fa:Addr)(o:Obj)(pm cd doc:Value)(a:Addr)(vs:List Value)(ns:List Int),
   Ground q aG [] XP w s₀ mg mb s₁.heap->YP w s₁.heap->
   s₁.heap.get? fa=some o->o.data=.func (docDef d.name d.params d.body d.scope pm cd doc)->s₁.heap.CodeRec cd d.name->mg d.name=some (.ref fa)->
   s₁.heap.get? a=some { cls:=.type "list",data:=.seq vs.toArray }->IntsAre vs ns->ns.length<=n->s₁.gens=#[]->
   codeAny (model l.prog w) callerA (.call (.ref fa) ⟨[.ref a],[]⟩) (λr s'=>r=.ok (.ret (.bool true))/\OldK s₁.heap s'.heap/\s'.os=s₁.os/\AllBare s'.gens) s₁):
  WalkO q aG XP YP l.row.toRowW d [] (λf vs=>PySem.call f vs):=by
 intro w s₀ s₁ mg mb G Y fa o pm cd doc dV kV ho hd hcd hD hmg hg args vals as hpre hlay hrd hwl hlo;obtain rfl:dV=.none:=Dflts.none hD hdf;obtain rfl:kV=.none:=Dflts.noKw hD;obtain⟨a,vs,ns,rfl,rfl,hobj,hints,aM⟩:=zgK hn hpre hwl;refine enter_call (codeAny_mono (call w s₀ s₁ mg mb fa o pm cd doc a vs ns G Y ho (fd_plain hd) hcd hmg hobj hints aM hg) λr s' hq=>?_);obtain⟨rfl,h2,h3,h4⟩:=hq;exact⟨.inl ⟨.bool true,.bool true,[],rfl,λ_=>rfl,.bool true,zaT l _,λ_=>⟨List.Pairwise.nil,λ_ hm=>(nomatch hm)⟩⟩,h2,h3,h4⟩
section
variable {prog:Program}{w:World}{A:Around}{E:Value->Shared->Prop}{s:Shared}{K:Frag}
end
end Att
namespace L2
open PySem PySem.Spec PyProof.Rows
theorem MJ:∀ {vs:List Value} {ns:List Int},IntsAre vs ns->ZC (ns.map V.int) vs
 | _,_,.nil=>.nil
 | _,_,.cons n t h=>.cons ⟨t,rfl⟩ (MJ h)
end L2
namespace L2
open PySem PySem.Spec PyProof.Rows
abbrev CX0:CXT:=λ_ _ _ _ _ _=>False
structure Fun (K:Fg)(x qual:Str)(st:Stmt)(f:Addr)(fd:FuncData):Prop where
 ex:∃(oc:Value)(od:Option Addr)(kV doc pm:Value)(an:Option Addr)(cdv ct:Value)(osl:Array (Option Value)),
  fd=W.fnOf x qual (Vw st) (Xa st) (Zj st) .none kV doc pm an cdv ct/\K.lookup f=some ⟨oc,od,.func fd,osl⟩/\W.codeIn K cdv qual=true
 kp:W.keepIn K (.ref f)=true
section
variable {P:Program}{w:World}{K:Fg}{mg:Str->Option Value}{base:Heap}
theorem Fun.ok {x qual:Str}{st:Stmt}{f:Addr}{fd:FuncData}{N ps:List Str}{k:Nat}{sp:Sp}(F:Fun K x qual st f fd)(S:Zm N ps (Zj st))(len:∀vs H Q E,sp vs H Q E->vs.length=ps.length)
  (hbody:∀(cdv:Value)(A:Around)(outer:List Env)(s:Shared)(H:Hp)(vs:List V)(Q:VK)(E:XK),ZP k (A.deeper (envOfC qual (Zj st) s.heap.objs.size f cdv))->sp vs H Q E->
   ∃t,PSs (X6 CX0 P w K mg base N qual (Zj st) f cdv A outer s H E).nox (Xa st) t/\t { nx:=λ_ H'=>Q .non H',rt:=Q } (X0 N vs) H):Yc P w K mg base CX0 (k+1) f fd ps sp:=by
 obtain⟨oc,od,kV,doc,pm,an,cdv,ct,osl,rfl,lk,hcd⟩:=F.ex;refine JC lk hcd S len λA outer s H vs Q E hr hsp=>?_
 obtain⟨t,h,q⟩:=hbody cdv A outer s H vs Q E hr hsp;exact⟨t,h.nox,q⟩
theorem Fun.binds {x qual:Str}{st:Stmt}{f:Addr}{fd:FuncData}{ps:List Str}(F:Fun K x qual st f fd)
  (h:∀(kV doc pm:Value)(an:Option Addr)(cdv ct:Value)(us:List Value),us.length=ps.length->bindArgs (W.fnOf x qual (Vw st) (Xa st) (Zj st) .none kV doc pm an cdv ct) ⟨us,[]⟩=pure (ps.zip us)):YB K fd ps []:=by
 obtain⟨oc,od,kV,doc,pm,an,cdv,ct,osl,rfl,lk,hcd⟩:=F.ex;exact .all (h kV doc pm an cdv ct)
theorem MZ {x qual:Str}{st:Stmt}{f:Addr}{oc:Value}{od an:Option Addr}{osl:Array (Option Value)}{kV doc pm cdv ct:Value}(l:K.lookup f=some ⟨oc,od,.func (W.fnOf x qual (Vw st) (Xa st) (Zj st) .none kV doc pm an cdv ct),osl⟩)
  (c:W.codeIn K cdv qual=true)(k:W.keepIn K (.ref f)=true):Fun K x qual st f (W.fnOf x qual (Vw st) (Xa st) (Zj st) .none kV doc pm an cdv ct):=⟨⟨oc,od,kV,doc,pm,an,cdv,ct,osl,rfl,l,c⟩,k⟩
end
theorem P6 (h:n<=1000):n<sizeLine:=Nat.lt_of_le_of_lt h (by decide)
section
variable {X:Cx}
theorem pv (i:Nat)(hN:X.N[i]?=some x:=by rfl)(hv:Vis X.env.scope x:=by first|exact Or.inl rfl|exact Or.inr (Or.inl rfl)|exact Or.inr (Or.inr rfl))(hd:(x==("__debug__":Str))=false:=by decide)(hcd:(x==("__classdict__":Str))=false:=by decide):PE X (.Name x pos) (tVar i):=Ag hN hv hd hcd
end
theorem Yq {A B:Prop}(h:B):if false=true then A else B:=by
 rw[if_neg zJ];exact h
theorem YU {A B:Prop}(h:A):if true=true then A else B:=by
 rw[if_pos rfl];exact h
theorem ite2 {c A B:Prop} [Decidable c] (h1:c->A)(h2:¬ c->B):if c then A else B:=by
 by_cases h:c
 .rw[if_pos h];exact h1 h
 .rw[if_neg h];exact h2 h
section
variable {κ:Type} [DecidableEq κ]
end
section
variable {P:Program}{w:World}{H:Hp}{h:Heap}{a:Addr}
end
section
variable {X:Cx}{pins:LA}{σ:St}{H:Hp}{s:Shared}{a:Addr}{y v:V}{u r:Value}{o:Option V}{A:Around}{E:Value->Shared->Prop}
end
section
variable {X:Cx}{pins:LA}{σ:St}{H:Hp}{s:Shared}{a:Addr}{aV:List (Key×V)}{k:Key}{u:Value}{A:Around}{E:Value->Shared->Prop}
end
section
variable {X:Cx}{o i e value:Expr}{pos pos' tpos:Pos}{td ty tv:TE}
end
section
variable {X:Cx}{pos:Pos}
end
structure M1 (X:Cx)(o:Expr)(m:Str)(aJ:Pos)(e:Expr)(aH:Pos):Prop where
 base:attributeBase o m X.env (eval o X.env)=eval o X.env
 few:((backTo aH (starEach [e] X.env)).all (λx=>!x.1)&&(backToKw aH (keywordEach [] X.env)).all (λx=>x.1.isSome)
 &&decide (([e]:List Expr).length+([]:List Keyword).length+(if ([]:List Keyword).isEmpty then 0 else 1)<30))=true
 line:(aJ.endLine==aH.line)=true
 trees:backTo aH (starEach [e] X.env)=[(false,eval e X.env)]
structure M2 (X:Cx)(o:Expr)(m:Str)(aJ:Pos)(e f:Expr)(aH:Pos):Prop where
 base:attributeBase o m X.env (eval o X.env)=eval o X.env
 few:((backTo aH (starEach [e,f] X.env)).all (λx=>!x.1)&&(backToKw aH (keywordEach [] X.env)).all (λx=>x.1.isSome)
 &&decide (([e,f]:List Expr).length+([]:List Keyword).length+(if ([]:List Keyword).isEmpty then 0 else 1)<30))=true
 line:(aJ.endLine==aH.line)=true
 trees:backTo aH (starEach [e,f] X.env)=[(false,eval e X.env),(false,eval f X.env)]
section
variable {X:Cx}{pins:LA}{σ:St}{H:Hp}{s:Shared}{a:Addr}{y d:V}{u r:Value}{o:Option V}{A:Around}{E:Value->Shared->Prop}
end
section
variable {X:Cx}{o e f:Expr}{aJ aH:Pos}{td ty tx:TE}
end
section
variable {X:Cx}{pins:LA}{σ:St}{H:Hp}{s:Shared}{a:Addr}{aV:List (Key×V)}{A:Around}{E:Value->Shared->Prop}
end
section
variable {X:Cx}{pins:LA}{σ:St}{H:Hp}{s:Shared}{a:Addr}{y:V}{u:Value}{A:Around}{E:Value->Shared->Prop}
end
end L2
namespace L3
open PySem PySem.Spec PyProof.Rows L2
abbrev St:=L2.St
inductive D where
 | non|bl (b:Bool)|int (i:Int)|str (x:Str)|tup (xs:List D)|ref (n:Nat)|exc (c:Addr)
inductive Ob where
 | lst (xs:List D)|frz (xs:List D)
  | ins (C:Addr) (fs:List (Str×D))
  | dct (aV:List (List Key×D))
  | tpl (ws:List Str)
  | dck (aV:List (Key×D))
  | cod (P:Addr) (pos:Pos) (q:Str)
abbrev Sto:=List Ob
abbrev Ev:=List (Option D)
abbrev DK:=D->Sto->Prop
abbrev TDE:=Ev->Sto->DK->Prop
abbrev TDT:=Ev->Sto->(Bool->Sto->Prop)->Prop
abbrev TDA:=Ev->Sto->(List D->Sto->Prop)->Prop
structure X9 where
 nx:Ev->Sto->Prop
 rt:DK
 bk:Ev->Sto->Prop:=λ_ _=>False
 ct:Ev->Sto->Prop:=λ_ _=>False
abbrev TDS:=X9->Ev->Sto->Prop
def isX (a c:Addr):HO:=.ext λh=>∃o,h.get? a=some o/\o.cls=.ref c
inductive Rp (r:List Addr)(H:Hp):D->V->Prop
 | non:Rp r H .non .non
 | bl (b:Bool):Rp r H (.bl b) (.bl b)
 | int (i:Int):Rp r H (.int i) (.int i)
 | str (x:Str):Rp r H (.str x) (.str x)
 | tup {ds:List D} {xs:List V} {a:Addr}:H a=some (.tup xs)->ds.length=xs.length->(∀(i:Nat)(d:D)(v:V),ds[i]?=some d->xs[i]?=some v->Rp r H d v)->Rp r H (.tup ds) (.ref a)
 | ref {n:Nat} {a:Addr}:r[n]?=some a->Rp r H (.ref n) (.ref a)
 | exc {c a:Addr}:H a=some (isX a c)->Rp r H (.exc c) (.ref a)
def Rps (r:List Addr)(H:Hp)(ds:List D)(vs:List V):Prop:=ds.length=vs.length/\∀(i:Nat)(d:D)(v:V),ds[i]?=some d->vs[i]?=some v->Rp r H d v
structure Ext (r r':List Addr)(H H':Hp):Prop where
 adr:∀(n:Nat)(a:Addr),r[n]?=some a->r'[n]?=some a
 tup:∀a xs,H a=some (.tup xs)->H' a=some (.tup xs)
 xc:∀a φ,H a=some (.ext φ)->H' a=some (.ext φ)
theorem Ext.refl:Ext r r H H:=⟨λ_ _ h=>h,λ_ _ h=>h,λ_ _ h=>h⟩
theorem Ext.trans (a:Ext r r' H H')(b:Ext r' r2 H' H2):Ext r r2 H H2:=⟨λn x h=>b.adr n x (a.adr n x h),λx y h=>b.tup x y (a.tup x y h),λx y h=>b.xc x y (a.xc x y h)⟩
theorem Rp.ext (h:Rp r H d v)(e:Ext r r' H H'):Rp r' H' d v:=by
 induction h with
 | non=>exact .non
 | bl b=>exact .bl b
 | int i=>exact .int i
 | str x=>exact .str x
 | tup h l _ ih=>exact .tup (e.tup _ _ h) l ih
 | ref h=>exact .ref (e.adr _ _ h)
 | exc h=>exact .exc (e.xc _ _ h)
theorem Rps.ext (h:Rps r H ds vs)(e:Ext r r' H H'):Rps r' H' ds vs:=⟨h.1,λi d v h1 h2=>(h.2 i d v h1 h2).ext e⟩
theorem Rps.nil:Rps r H [] []:=⟨rfl,λi d v h=>by simp at h⟩
theorem Rps.cons (h:Rp r H d v)(t:Rps r H ds vs):Rps r H (d::ds) (v::vs):=by
 refine⟨by simp[t.1],λi x y h1 h2=>?_⟩;cases i with
 | zero=>
  simp at h1 h2;subst h1;subst h2
  exact h
 | succ i=>exact t.2 i x y (by simpa using h1) (by simpa using h2)
theorem Rps.tail (h:Rps r H (d::ds) (y::vs)):Rp r H d y/\Rps r H ds vs:=
 ⟨h.2 0 d y rfl rfl,by simpa using h.1,λi a b h1 h2=>h.2 (i+1) a b (by simpa using h1) (by simpa using h2)⟩
theorem Rps.uncons (h:Rps r H (d::ds) vs):∃v vs',vs=v::vs'/\Rp r H d v/\Rps r H ds vs':=by
 cases vs with
 | nil=>exact absurd h.1 (by simp)
 | cons v vs'=>exact⟨v,vs',rfl,h.tail⟩
theorem Rps.unnil (h:Rps r H [] vs):vs=[]:=by
 cases vs with
 | nil=>rfl
 | cons v vs'=>exact absurd h.1 (by simp)
theorem Rps.get {i:Nat}(h:Rps r H ds vs)(e:ds[i]?=some d):∃v,vs[i]?=some v/\Rp r H d v:=by
 have hi:i<ds.length:=(zB.mp e).1
 have hv:i<vs.length:=by rw[<- h.1];exact hi
 exact⟨vs[i],by simp[hv],h.2 i d vs[i] e (by simp[hv])⟩
theorem Rps.get' {i:Nat}(h:Rps r H ds vs)(e:vs[i]?=some v):∃d,ds[i]?=some d/\Rp r H d v:=by
 have hv:i<vs.length:=(zB.mp e).1
 have hi:i<ds.length:=by rw[h.1];exact hv
 exact⟨ds[i],by simp[hi],h.2 i ds[i] v (by simp[hi]) e⟩
theorem Rps.snoc (h:Rps r H ds vs)(t:Rp r H d v):Rps r H (ds++[d]) (vs++[v]):=by
 refine⟨by simp[h.1],λi x y h1 h2=>?_⟩;by_cases hi:i<ds.length
 .rw[zI hi] at h1;rw[zI (by rw[<- h.1];exact hi)] at h2;exact h.2 i x y h1 h2
 .have hl:i<(ds++[d]).length:=(zB.mp h1).1
  have e:i=ds.length:=by simp at hl;omega
  subst e;rw[yB (zC _)] at h1;rw[h.1,yB (zC _)] at h2;simp at h1 h2;subst h1;subst h2
  exact t
theorem Rps.tupR (h:Rps r H ds vs)(e:H a=some (.tup vs)):Rp r H (.tup ds) (.ref a):=.tup e h.1 h.2
theorem Rp.untup {vs:V}(h:Rp r H (.tup ds) vs):∃a xs,vs=.ref a/\H a=some (.tup xs)/\Rps r H ds xs:=by
 cases h with
 | tup e l f=>exact⟨_,_,rfl,e,l,f⟩
def SqF (K:Fg)(H:Hp)(a:Addr)(xs:List V):Prop:=
 (∃o,H a=some (.frz o (.lst xs)))\/
  ∃(o:Obj)(aX:Array Value)(n:Nat),K.lookup a=some o/\o.cls=.type "list"/\o.dict=none/\o.data=.seq aX n/\aX.size<=sizeLine/\ZC xs aX.toList
theorem SqF.sql {K:Fg}{H:Hp}{a:Addr}{xs:List V}(h:SqF K H a xs):SqL K H a xs:=by
 rcases h with ⟨o,h⟩|h
 .exact .inl (.inr ⟨o,h⟩)
 .exact .inr h
def FR {α:Type}(r:List Addr)(H:Hp)(fs:List (α×D))(fs':List (α×V)):Prop:=fs.map (·.1)=fs'.map (·.1)/\Rps r H (fs.map (·.2)) (fs'.map (·.2))
theorem FR.ext {α:Type}{r r':List Addr}{H H':Hp}{fs:List (α×D)}{fs':List (α×V)}(h:FR r H fs fs')(e:Ext r r' H H'):FR r' H' fs fs':=⟨h.1,h.2.ext e⟩
theorem FR.nil {α:Type}{r:List Addr}{H:Hp}:FR (α:=α) r H [] []:=⟨rfl,Rps.nil⟩
def Tab (pos:Pos)(q:Str)(H:Hp)(ps:Array Value):Prop:=TriplesOk ps.toList/\(codeAmong pos ps.toList=none\/∃c,codeAmong pos ps.toList=some (.ref c)/\H c=some (.ext λh=>h.CodeRec (.ref c) q))
theorem Tab.same {pos:Pos}{q:Str}{H H':Hp}{ps:Array Value}(h:Tab pos q H ps)(e:∀b φ,H b=some (.ext φ)->H' b=some (.ext φ)):Tab pos q H' ps:=⟨h.1,h.2.imp id λ⟨c,a,b⟩=>⟨c,a,e _ _ b⟩⟩
def ObR (K:Fg)(r:List Addr)(H:Hp)(a:Addr):Ob->Prop
 | .lst ds=>∃xs,H a=some (.lst xs)/\Rps r H ds xs
 | .frz ds=>∃xs,SqF K H a xs/\Rps r H ds xs
 | .ins C fs=>∃dx fs',H a=some (.ins C dx fs')/\FR r H fs fs'
 | .dct aV=>∃kvs',H a=some (.dT kvs')/\FR r H aV kvs'
 | .dck aV=>∃kvs',H a=some (.dK kvs')/\FR r H aV kvs'
 | .tpl ws=>∃(o:Obj)(aX:Array Value)(n:Nat),K.lookup a=some o/\o.cls=.type "tuple"/\o.data=.seq aX n/\aX.size<=sizeLine/\ZC (ws.map V.str) aX.toList
 | .cod P pos q=>a=P/\∃ps,H a=some (.tbl ps)/\Tab pos q H ps
def Vg:Ob->Bool
 | .frz _=>false
 | .tpl _=>false
 | _=>true
structure ZZ (K:Fg)(r:List Addr)(S:Sto)(H:Hp):Prop where
 len:r.length=S.length
 ob:∀(n:Nat)(a:Addr)(o:Ob),r[n]?=some a->S[n]?=some o->ObR K r H a o
 nd:∀(n m:Nat)(a:Addr)(o u:Ob),r[n]?=some a->r[m]?=some a->S[n]?=some o->S[m]?=some u->Vg o=true->Vg u=true->n=m
def Zo:Ob->List D
 | .lst ds=>ds
 | .frz ds=>ds
 | _=>[.exc 0]
def Y2:Ob->Option Ob
 | .lst ds=>some (.lst ds)
 | .frz ds=>some (.frz ds)
 | _=>none
def lAt (S:Sto)(n:Nat):Option Ob:=(S[n]?).bind Y2
theorem zcw (h:Y2 o=some u):u=o:=by
 cases o<;>simp[Y2] at h<;>exact h.symm
theorem YY {S:Sto}{n:Nat}{o:Ob}(h:lAt S n=some o):S[n]?=some o/\Y2 o=some o:=by
  unfold lAt at h;cases q:S[n]? with
  | none=>
   rw[q] at h;cases h
  | some u=>
    rw[q] at h;have h':Y2 u=some o:=h
    have e:=zcw h';subst e;exact⟨rfl,h'⟩
theorem ZV {S:Sto}{n:Nat}{o:Ob}(h:S[n]?=some o)(hL:Y2 o=some o):lAt S n=some o:=by
 unfold lAt;rw[h];exact hL
section
variable {K:Fg}{r r':List Addr}{S:Sto}{H H':Hp}{n:Nat}{a p:Addr}
theorem ZZ.at {o:Ob}(h:ZZ K r S H)(e:S[n]?=some o):∃a,r[n]?=some a/\ObR K r H a o:=by
 have hn:n<S.length:=(zB.mp e).1
 have hr:n<r.length:=by rw[h.len];exact hn
 exact⟨r[n],by simp[hr],h.ob n r[n] o (by simp[hr]) e⟩
theorem ObR.list {o:Ob}(h:ObR K r H a o)(hL:Y2 o=some o):∃xs,SqL K H a xs/\Rps r H (Zo o) xs:=by
 cases o with
 | lst ds=>obtain⟨xs,e,q⟩:=h;exact⟨xs,SqL.of e,q⟩
 | frz ds=>obtain⟨xs,e,q⟩:=h;exact⟨xs,e.sql,q⟩
 | ins C fs=>cases hL
 | dct aV=>cases hL
 | dck aV=>cases hL
 | tpl ws=>cases hL
 | cod P pos q=>cases hL
theorem ObR.keep {o:Ob}(q:ObR K r H a o)(x:Ext r r' H H')(ha:∀u,H a=some u->H' a=some u):ObR K r' H' a o:=by
 cases o with
 | lst ds=>obtain⟨xs,h3,h4⟩:=q;exact⟨xs,ha _ h3,h4.ext x⟩
 | frz ds=>
  obtain⟨xs,h3,h4⟩:=q;refine⟨xs,?_,h4.ext x⟩;rcases h3 with ⟨o,h3⟩|h3
  .exact .inl ⟨o,ha _ h3⟩
  .exact .inr h3
 | ins C fs=>obtain⟨dx,fs',h3,h4⟩:=q;exact⟨dx,fs',ha _ h3,h4.ext x⟩
 | dct aV=>obtain⟨ks,h3,h4⟩:=q;exact⟨ks,ha _ h3,h4.ext x⟩
 | dck aV=>obtain⟨ks,h3,h4⟩:=q;exact⟨ks,ha _ h3,h4.ext x⟩
 | tpl ws=>exact q
 | cod P pos q'=>obtain⟨e,ps,h3,h4⟩:=q;exact⟨e,ps,ha _ h3,h4.same x.xc⟩
theorem ObR.own {o:Ob}(q:ObR K r H a o)(h:Vg o=true):∃u,H a=some u/\(∀xs,u≠HO.tup xs)/\(∀φ,u≠HO.ext φ)/\∀z y,u≠HO.frz z y:=by
 cases o with
 | lst ds=>obtain⟨xs,h3,h4⟩:=q;exact⟨_,h3,(λ_ z=>by cases z),(λ_ z=>by cases z),(λ_ _ z=>by cases z)⟩
 | frz ds=>cases h
 | tpl ws=>cases h
 | ins C fs=>obtain⟨dx,fs',h3,h4⟩:=q;exact⟨_,h3,(λ_ z=>by cases z),(λ_ z=>by cases z),(λ_ _ z=>by cases z)⟩
 | dct aV=>obtain⟨ks,h3,h4⟩:=q;exact⟨_,h3,(λ_ z=>by cases z),(λ_ z=>by cases z),(λ_ _ z=>by cases z)⟩
 | dck aV=>obtain⟨ks,h3,h4⟩:=q;exact⟨_,h3,(λ_ z=>by cases z),(λ_ z=>by cases z),(λ_ _ z=>by cases z)⟩
 | cod P pos q'=>obtain⟨_,ps,h3,_⟩:=q;exact⟨_,h3,(λ_ z=>by cases z),(λ_ z=>by cases z),(λ_ _ z=>by cases z)⟩
theorem ZZ.same (h:ZZ K r S H)(e:∀b o,H b=some o->H' b=some o):ZZ K r S H':=
 ⟨h.len,λn a o h1 h2=>(h.ob n a o h1 h2).keep ⟨λ_ _ q=>q,λa xs q=>e _ _ q,λa c q=>e _ _ q⟩ (e a),h.nd⟩
theorem X2 {o:HO}(h:H p=none):∀b u,H b=some u->(upd H p o) b=some u:=λb u q=>by rw[Z1 (VF q h)];exact q
theorem NH (e:(r++[p])[n]?=some b):(n<r.length/\r[n]?=some b)\/(n=r.length/\b=p):=by
 by_cases hn:n<r.length
 .rw[zI hn] at e;exact .inl ⟨hn,e⟩
 .have hl:n<(r++[p]).length:=(zB.mp e).1
  have en:n=r.length:=by simp at hl;omega
  subst en;rw[yB (zC _)] at e;simp at e;exact .inr ⟨rfl,e.symm⟩
theorem ZZ.pushO (h:ZZ K r S H)(hp:H p=none)(keep:∀b u,H b=some u->H' b=some u)(q:Ext r (r++[p]) H H'->ObR K (r++[p]) H' p o):ZZ K (r++[p]) (S++[o]) H'/\Ext r (r++[p]) H H':=by
 have x:Ext r (r++[p]) H H':=⟨λn a e=>by
  have hn:n<r.length:=(zB.mp e).1;rw[zI hn];exact e,λa ys e=>keep _ _ e,λa c e=>keep _ _ e⟩
 have sS:∀ {n:Nat} {u:Ob},n<r.length->(S++[o])[n]?=some u->S[n]?=some u:=λ{n u} hn e=>by
  rw[zI (by rw[<- h.len];exact hn)] at e;exact e
 refine⟨⟨by simp[h.len],λn a u h1 h2=>?_,λn m a u w h1 h2 h3 h4 o1 o2=>?_⟩,x⟩
 .rcases NH h1 with ⟨hn,e⟩|⟨rfl,rfl⟩
  .exact(h.ob n a u e (sS hn h2)).keep x (keep a)
  .rw[h.len,yB (zC _)] at h2;simp at h2;subst h2;exact q x
 .rcases NH h1 with ⟨hn,e⟩|⟨rfl,rfl⟩
  .rcases NH h2 with ⟨hm,e'⟩|⟨rfl,rfl⟩
   .exact h.nd n m a u w e e' (sS hn h3) (sS hm h4) o1 o2
   .obtain⟨zs,h5,_⟩:=(h.ob n _ _ e (sS hn h3)).own o1;rw[hp] at h5;cases h5
  .rcases NH h2 with ⟨hm,e'⟩|⟨rfl,_⟩
   .obtain⟨zs,h5,_⟩:=(h.ob m _ _ e' (sS hm h4)).own o2;rw[hp] at h5;cases h5
   .rfl
theorem ZZ.push {ds:List D}{xs:List V}(h:ZZ K r S H)(hp:H p=none)(q:Rps r H ds xs):ZZ K (r++[p]) (S++[.lst ds]) (upd H p (.lst xs))/\Ext r (r++[p]) H (upd H p (.lst xs)):=
 h.pushO hp (X2 hp) λx=>⟨xs,YH,q.ext x⟩
theorem ZZ.setO (h:ZZ K r S H)(hn:r[n]?=some a)(hS:S[n]?=some o)(ho:Vg o=true)(ho':Vg o'=true)(q:Ext r r H (upd H a u)->ObR K r (upd H a u) a o'):ZZ K r (S.set n o') (upd H a u)/\Ext r r H (upd H a u):=by
 obtain⟨u0,h0,t1,t2,t3⟩:=(h.ob n a _ hn hS).own ho;have x:Ext r r H (upd H a u):=⟨λ_ _ e=>e,λb zs e=>by
  rw[Z1 (Gv e h0 (λz=>t1 zs z.symm))];exact e,λb c e=>by
  rw[Z1 (Gv e h0 (λz=>t2 c z.symm))];exact e⟩
 have hlt:n<S.length:=(zB.mp hS).1
 have off:∀ {m:Nat} {w:Ob},m≠n->(S.set n o')[m]?=some w->S[m]?=some w:=λ{m w} hm e=>by
  rw[zW (Ne.symm hm)] at e;exact e
 refine⟨⟨by simp[h.len],λm b w h1 h2=>?_,λm k b w y h1 h2 h3 h4 o1 o2=>?_⟩,x⟩
 .by_cases hm:m=n
  .subst hm;rw[hn] at h1;cases h1
   rw[yI hlt] at h2;cases h2;exact q x
  .have h2':=off hm h2
   have q':=h.ob m b w h1 h2';by_cases hw:Vg w=true
   .have hb:b≠a:=λz=>hm (by subst z;exact h.nd m n b w o h1 hn h2' hS hw ho)
    exact q'.keep x λz e=>by rw[Z1 hb];exact e
   .cases w with
    | frz es=>
     obtain⟨zs,h3,h4⟩:=q';refine⟨zs,?_,h4.ext x⟩;rcases h3 with ⟨z,h3⟩|h3
     .exact .inl ⟨z,by rw[Z1 (Gv h3 h0 (λy=>t3 _ _ y.symm))];exact h3⟩
     .exact .inr h3
    | tpl ws=>exact q'
    | _=>exact absurd rfl hw
 .have back:∀ {j:Nat} {w:Ob},(S.set n o')[j]?=some w->Vg w=true->∃y,S[j]?=some y/\Vg y=true:=λ{j w} e ow=>by
   by_cases hj:j=n
   .subst hj;exact⟨o,hS,ho⟩
   .exact⟨w,off hj e,ow⟩
  obtain⟨us',h3',q3⟩:=back h3 o1;obtain⟨ws',h4',q4⟩:=back h4 o2;exact h.nd m k b us' ws' h1 h2 h3' h4' q3 q4
theorem ZZ.set {ds ds':List D}{xs:List V}(h:ZZ K r S H)(hn:r[n]?=some a)(hS:S[n]?=some (.lst ds))(q:Rps r H ds' xs):ZZ K r (S.set n (.lst ds')) (upd H a (.lst xs))/\Ext r r H (upd H a (.lst xs)):=
 h.setO hn hS rfl rfl λx=>⟨xs,YH,q.ext x⟩
end
def Rs (r:List Addr)(H:Hp)(dl:Ev)(σ:St):Prop:=dl.length=σ.length/\∀(i:Nat)(d:D),dl[i]?=some (some d)->∃v,σ[i]?=some (some v)/\Rp r H d v
theorem Rs.ext {r r':List Addr}{H H':Hp}{dl:Ev}{σ:St}(h:Rs r H dl σ)(e:Ext r r' H H'):Rs r' H' dl σ:=⟨h.1,λi d q=>by
 obtain⟨v,h1,h2⟩:=h.2 i d q;exact⟨v,h1,h2.ext e⟩⟩
theorem Rs.set {r:List Addr}{H:Hp}{dl:Ev}{σ:St}{d:D}{v:V}(i:Nat)(h:Rs r H dl σ)(q:Rp r H d v):Rs r H (dl.set i (some d)) (σ.set i (some v)):=by
 refine⟨by simp[h.1],λj e hj=>?_⟩;by_cases hij:i=j
 .subst hij;have hl:i<dl.length:=by
   have:=(zB.mp hj).1;simpa using this
  rw[yI hl] at hj;cases hj;exact⟨v,by rw[yI (by rw[<- h.1];exact hl)],q⟩
 .rw[zW hij] at hj;obtain⟨v',h1,h2⟩:=h.2 j e hj;exact⟨v',by rw[zW hij];exact h1,h2⟩
structure Zx where
 ex:Ev->Addr->Sto->Prop
 w:St->XK
abbrev Zc (ex:Addr->Sto->Prop)(E:XK):Zx:=⟨λ_=>ex,λ_=>E⟩
def UE (K:Fg)(Z:Zx)(r:List Addr)(H:Hp):Prop:=∀(dl:Ev)(σ:St)(c:Addr)(H':Hp)(r':List Addr)(S':Sto),Ext r r' H H'->Rs r' H' dl σ->ZZ K r' S' H'->Z.ex dl c S'->Z.w σ (.ref c) none H'
theorem UE.ext {K:Fg}{Z:Zx}{r r':List Addr}{H H':Hp}(h:UE K Z r H)(e:Ext r r' H H'):UE K Z r' H':=λdl σ c H2 r2 S2 x=>h dl σ c H2 r2 S2 (e.trans x)
structure Rel (K:Fg)(Z:Zx)(r:List Addr)(S:Sto)(H:Hp):Prop where
 b:ZZ K r S H
 xw:UE K Z r H
section
variable {K:Fg}{Z:Zx}{r r':List Addr}{S:Sto}{H H':Hp}{n:Nat}{a p:Addr}
theorem Rel.len (h:Rel K Z r S H):r.length=S.length:=h.b.len
theorem Rel.at {o:Ob}(h:Rel K Z r S H)(e:S[n]?=some o):∃a,r[n]?=some a/\ObR K r H a o:=h.b.at e
theorem Rel.same (h:Rel K Z r S H)(e:∀b o,H b=some o->H' b=some o):Rel K Z r S H':=⟨h.b.same e,h.xw.ext ⟨λ_ _ q=>q,λa xs q=>e _ _ q,λa c q=>e _ _ q⟩⟩
theorem Rel.push {ds:List D}{xs:List V}(h:Rel K Z r S H)(hp:H p=none)(q:Rps r H ds xs):Rel K Z (r++[p]) (S++[.lst ds]) (upd H p (.lst xs))/\Ext r (r++[p]) H (upd H p (.lst xs)):=by
 obtain⟨h1,h2⟩:=h.b.push hp q;exact⟨⟨h1,h.xw.ext h2⟩,h2⟩
theorem Rel.set {ds ds':List D}{xs:List V}(h:Rel K Z r S H)(hn:r[n]?=some a)(hS:S[n]?=some (.lst ds))(q:Rps r H ds' xs):Rel K Z r (S.set n (.lst ds')) (upd H a (.lst xs))/\Ext r r H (upd H a (.lst xs)):=by
 obtain⟨h1,h2⟩:=h.b.set hn hS q;exact⟨⟨h1,h.xw.ext h2⟩,h2⟩
end
def Ret (K:Fg)(Z:Zx)(r:List Addr)(H:Hp)(Q:DK)(Qv:VK):Prop:=∀v H' r' d S',Ext r r' H H'->Rel K Z r' S' H'->Rp r' H' d v->Q d S'->Qv v H'
theorem Ret.ext {K:Fg}{Z:Zx}{r r':List Addr}{H H':Hp}{Q:DK}{Qv:VK}(h:Ret K Z r H Q Qv)(e:Ext r r' H H'):Ret K Z r' H' Q Qv:=λv H2 r2 d S2 x=>h v H2 r2 d S2 (e.trans x)
def up (K:Fg)(Z:Zx)(t:TDE):TE:=λσ H Qv=>∃r dl S Q,Rs r H dl σ/\Rel K Z r S H/\t dl S Q/\Ret K Z r H Q Qv
def upT (K:Fg)(Z:Zx)(t:TDT):TT:=λσ H Qb=>∃r dl S Q,Rs r H dl σ/\Rel K Z r S H/\t dl S Q/\∀b H' r' S',Ext r r' H H'->Rel K Z r' S' H'->Q b S'->Qb b H'
def upA (K:Fg)(Z:Zx)(t:TDA):TA:=λσ H Qv=>∃r dl S Q,Rs r H dl σ/\Rel K Z r S H/\t dl S Q/\∀vs H' r' ds S',Ext r r' H H'->Rel K Z r' S' H'->Rps r' H' ds vs->Q ds S'->Qv vs H'
structure O1 (K:Fg)(Z:Zx)(r:List Addr)(H:Hp)(E:X9)(F:VQ):Prop where
 nx:∀σ' H' r' dl' S',Ext r r' H H'->Rs r' H' dl' σ'->Rel K Z r' S' H'->E.nx dl' S'->F.nx σ' H'
 bk:∀σ' H' r' dl' S',Ext r r' H H'->Rs r' H' dl' σ'->Rel K Z r' S' H'->E.bk dl' S'->F.bk σ' H'
 ct:∀σ' H' r' dl' S',Ext r r' H H'->Rs r' H' dl' σ'->Rel K Z r' S' H'->E.ct dl' S'->F.ct σ' H'
 rt:Ret K Z r H E.rt F.rt
theorem O1.ext {K:Fg}{Z:Zx}{r r':List Addr}{H H':Hp}{E:X9}{F:VQ}(h:O1 K Z r H E F)(e:Ext r r' H H'):O1 K Z r' H' E F:=
 ⟨λa b c d f x=>h.nx a b c d f (e.trans x),λa b c d f x=>h.bk a b c d f (e.trans x),λa b c d f x=>h.ct a b c d f (e.trans x),h.rt.ext e⟩
def upS (K:Fg)(Z:Zx)(t:TDS):TS:=λF σ H=>∃r dl S E,Rs r H dl σ/\Rel K Z r S H/\t E dl S/\O1 K Z r H E F
def PD (X:Cx)(Z:Zx)(e:Expr)(t:TDE):Prop:=PE X e (up X.K Z t)
def PDT (X:Cx)(Z:Zx)(e:Expr)(t:TDT):Prop:=PT X e (upT X.K Z t)
def PDW (X:Cx)(Z:Zx)(e:Expr)(t:TDT):Prop:=PW X e (upT X.K Z t)
def PDA (X:Cx)(Z:Zx)(es:List Expr)(t:TDA):Prop:=PA X es (upA X.K Z t)
def PDS (X:Cx)(Z:Zx)(st:Stmt)(t:TDS):Prop:=PS X st (upS X.K Z t)
def YE (X:Cx)(Z:Zx)(st:List Stmt)(t:TDS):Prop:=PSs X st (upS X.K Z t)
section
variable {X:Cx}{Z:Zx}
theorem Z4 (h:PE X e t)(f:∀σ H Q,t' σ H Q->t σ H Q):PE X e t':=λpins s σ H Q I q=>h pins s σ H Q I (f σ H Q q)
theorem Nf (h:PT X e t)(f:∀σ H Q,t' σ H Q->t σ H Q):PT X e t':=λpins s σ H Q I q=>h pins s σ H Q I (f σ H Q q)
theorem ER (h:PW X e t)(f:∀σ H Q,t' σ H Q->t σ H Q):PW X e t':=λwh pins s σ H Q I q=>h wh pins s σ H Q I (f σ H Q q)
theorem DC (h:PA X e t)(f:∀σ H Q,t' σ H Q->t σ H Q):PA X e t':=λpos pins s σ H Q I q=>h pos pins s σ H Q I (f σ H Q q)
theorem Yz {e:Stmt}{t t':TS}(h:PS X e t)(f:∀F σ H,t' F σ H->t F σ H):PS X e t':=λpins s σ H F I q=>h pins s σ H F I (f F σ H q)
theorem Bl (h:PSs X e t)(f:∀F σ H,t' F σ H->t F σ H):PSs X e t':=λpins s σ H F I q=>h pins s σ H F I (f F σ H q)
theorem PDW.pt (h:PDW X Z e t):PDT X Z e t:=PW.pt h
def XU (i:Nat):TDE:=λdl S Q=>match dl[i]? with
 | some (some d)=>Q d S
 | _=>False
def dC (d:D):TDE:=λ_ S Q=>Q d S
theorem zbW (h:PE X e (tVar i)):PD X Z e (XU i):=Z4 h λσ H Qv ⟨r,dl,S,Q,rs,aZ,q,ret⟩=>by
 unfold XU at q;split at q
 .rename_i d e;obtain⟨v,h1,h2⟩:=rs.2 i d e;exact⟨v,h1,ret v H r d S Ext.refl aZ h2 q⟩
 .exact q.elim
theorem dv (i:Nat)(hN:X.N[i]?=some x:=by rfl)(hv:Vis X.env.scope x:=by first|exact Or.inl rfl|exact Or.inr (Or.inl rfl)|exact Or.inr (Or.inr rfl))(hd:(x==("__debug__":Str))=false:=by decide)(hcd:(x==("__classdict__":Str))=false:=by decide):PD X Z (.Name x pos) (XU i):=zbW (Ag hN hv hd hcd)
theorem O9 (h:PE X e (tC v))(q:∀r H,Rp r H d v):PD X Z e (dC d):=Z4 h λσ H Qv ⟨r,dl,S,Q,rs,aZ,h,ret⟩=>ret v H r d S Ext.refl aZ (q r H) h
theorem Za {i j pos}:PD X Z (.Constant (.int i) j pos) (dC (.int i)):=O9 zgb λ_ _=>.int i
theorem UL {b j pos}:PD X Z (.Constant (.bool b) j pos) (dC (.bl b)):=O9 pe_bl λ_ _=>.bl b
theorem ZY {j pos}:PD X Z (.Constant .none j pos) (dC .non):=O9 zd7 λ_ _=>.non
theorem ZR {x j pos}:PD X Z (.Constant (.str x) j pos) (dC (.str x)):=O9 zfQ λ_ _=>.str x
abbrev W2:=D->D->Sto->DK->Prop
abbrev W1:=D->Sto->DK->Prop
def upO (K:Fg)(Z:Zx)(w:W2):R2:=λx y H Qv=>∃r S dx dy Q,Rel K Z r S H/\Rp r H dx x/\Rp r H dy y/\w dx dy S Q/\Ret K Z r H Q Qv
def upU (K:Fg)(Z:Zx)(w:W1):V->Hp->VK->Prop:=λx H Qv=>∃r S dx Q,Rel K Z r S H/\Rp r H dx x/\w dx S Q/\Ret K Z r H Q Qv
def dOp (w:W2)(ta tb:TDE):TDE:=λdl S Q=>ta dl S λx S1=>tb dl S1 λy S2=>w x y S2 Q
def dUn (w:W1)(ta:TDE):TDE:=λdl S Q=>ta dl S λx S1=>w x S1 Q
variable {a b c:Expr}{ta tb tc:TDE}{pos:Pos}
theorem OO (h:up X.K Z (dOp w ta tb) σ H Qv):tOp (upO X.K Z w) (up X.K Z ta) (up X.K Z tb) σ H Qv:=by
 obtain⟨r,dl,S,Q,rs,aZ,h,ret⟩:=h;exact⟨r,dl,S,_,rs,aZ,h,λv H1 r1 dx S1 e1 aB p1 h1=>⟨r1,dl,S1,_,rs.ext e1,aB,h1,λv2 H2 r2 dy S2 e2 aC p2 h2=>⟨r2,S2,dx,dy,Q,aC,p1.ext e2,p2,h2,ret.ext (e1.trans e2)⟩⟩⟩
theorem Zi (ho:OpR X (binaryOp op) (upO X.K Z w))(ha:PD X Z a ta)(hb:PD X Z b tb):PD X Z (.BinOp a op b pos) (dOp w ta tb):=Z4 (pe_op ho ha hb) λ_ _ _ h=>OO h
theorem Wf (ho:UnR X (unaryOp op) (upU X.K Z w))(ha:PD X Z a ta):PD X Z (.UnaryOp op a pos) (dUn w ta):=Z4 (pe_un ho ha) λσ H Qv ⟨r,dl,S,Q,rs,aZ,h,ret⟩=>
 ⟨r,dl,S,_,rs,aZ,h,λv H1 r1 dx S1 e1 aB p1 h1=>⟨r1,S1,dx,Q,aB,p1,h1,ret.ext e1⟩⟩
theorem Ye (ho:OpR X (compareOp op) (upO X.K Z w))(ha:PD X Z a ta)(hb:PD X Z b tb)(hm:behindInMarks op b=false):PD X Z (.Compare a [op] [b] pos) (dOp w ta tb):=Z4 (zgv ho ha hb hm) λ_ _ _ h=>OO h
theorem UA {f:Value->Value->Sem Value}{r r':R2}(h:OpR X f r)(g:∀x y H Q,r' x y H Q->r x y H Q):OpR X f r':=λpins s σ H x y v u Q I rx ry q=>h pins s σ H x y v u Q I rx ry (g x y H Q q)
theorem zcJ {f:Value->Sem Value}{r r':V->Hp->VK->Prop}(h:UnR X f r)(g:∀x H Q,r' x H Q->r x H Q):UnR X f r':=λpins s σ H x v Q I rx q=>h pins s σ H x v Q I rx (g x H Q q)
theorem JP {f:Value}{r r':List V->Hp->VK->Prop}(h:Yr X f r)(g:∀x H Q,r' x H Q->r x H Q):Yr X f r':=λpins s σ H xs us Q I rx q=>h pins s σ H xs us Q I rx (g xs H Q q)
def wI (C:Int->Int->Prop)(g:Int->Int->D):W2:=λx y S Q=>match x,y with
 | .int i,.int j=>C i j/\Q (g i j) S
 | _,_=>False
def wI0 (g:Int->Int->D):W2:=λx y S Q=>match x,y with
 | .int i,.int j=>Q (g i j) S
 | _,_=>False
theorem opD (h:OpR X f (rI C g))(hg:∀r H i j,Rp r H (g' i j) (g i j)):OpR X f (upO X.K Z (wI C g')):=
 UA h λx y H Qv ⟨r,S,dx,dy,Q,aZ,px,py,q,ret⟩=>by
  cases px<;>cases py<;>first
   | exact⟨_,_,rfl,rfl,q.1,ret _ _ _ _ _ Ext.refl aZ (hg _ _ _ _) q.2⟩
   | exact(show False from q).elim
theorem S6 (h:OpR X f (rI0 g))(hg:∀r H i j,Rp r H (g' i j) (g i j)):OpR X f (upO X.K Z (wI0 g')):=
 UA h λx y H Qv ⟨r,S,dx,dy,Q,aZ,px,py,q,ret⟩=>by
  cases px<;>cases py<;>first
   | exact⟨_,_,rfl,rfl,ret _ _ _ _ _ Ext.refl aZ (hg _ _ _ _) q⟩
   | exact(show False from q).elim
abbrev wAdd:W2:=wI0 λi j=>.int (i+j)
abbrev wSub:W2:=wI0 λi j=>.int (i-j)
abbrev wMul:W2:=wI IntMulOk λi j=>.int (i*j)
def CFd (_ j:Int):Prop:=0<j/\j.natAbs.log2<9000
abbrev wFdiv:W2:=wI CFd λi j=>.int (i/j)
def CFn (_ j:Int):Prop:=j≠0/\j.natAbs.log2<9000
abbrev zgC:W2:=wI CFn λi j=>.int (i.fdiv j)
abbrev wMod:W2:=wI (λ_ j=>0<j) λi j=>.int (i%j)
abbrev wPow:W2:=wI Lo λi j=>.int (i^j.toNat)
theorem Z2:OpR X (binaryOp .Add) (upO X.K Z wAdd):=S6 zfh λ_ _ _ _=>.int _
theorem Yl:OpR X (binaryOp .Sub) (upO X.K Z wSub):=S6 zas λ_ _ _ _=>.int _
theorem ZK:OpR X (binaryOp .Mult) (upO X.K Z wMul):=opD (opI λ_ _ _ _ _ _ _ hc q=>mul_int q hc) λ_ _ _ _=>.int _
theorem Xx:OpR X (binaryOp .FloorDiv) (upO X.K Z wFdiv):=opD (opI λi j _ _ _ _ _ hc q=>floordiv_int (by have h:0<j:=hc.1;omega) (by have h:0<j:=hc.1;rw[Int.fdiv_eq_ediv_of_nonneg i (by omega)];exact q) (.inl (PyProof.noPylong_of_log2 hc.2))) λ_ _ _ _=>.int _
theorem zcq:OpR X (binaryOp .FloorDiv) (upO X.K Z zgC):=opD (opI λ_ _ _ _ _ _ _ hc q=>floordiv_int hc.1 q (.inl (PyProof.noPylong_of_log2 hc.2))) λ_ _ _ _=>.int _
theorem XT:OpR X (binaryOp .Mod) (upO X.K Z wMod):=opD zbr λ_ _ _ _=>.int _
theorem ze0:OpR X (binaryOp .Pow) (upO X.K Z wPow):=opD zaC λ_ _ _ _=>.int _
abbrev wLt:W2:=wI0 λi j=>.bl (decide (i<j))
abbrev wLe:W2:=wI0 λi j=>.bl (decide (i<=j))
abbrev wGt:W2:=wI0 λi j=>.bl (decide (j<i))
abbrev wGe:W2:=wI0 λi j=>.bl (decide (j<=i))
theorem Yv:OpR X (compareOp .Lt) (upO X.K Z wLt):=S6 op_lt λ_ _ _ _=>.bl _
theorem YX:OpR X (compareOp .LtE) (upO X.K Z wLe):=S6 op_le λ_ _ _ _=>.bl _
theorem Wc:OpR X (compareOp .Gt) (upO X.K Z wGt):=S6 op_gt λ_ _ _ _=>.bl _
theorem NK:OpR X (compareOp .GtE) (upO X.K Z wGe):=S6 op_ge λ_ _ _ _=>.bl _
def wNeg:W1:=λx S Q=>match x with
 | .int i=>Q (.int (-i)) S
 | _=>False
theorem X5:UnR X (unaryOp .USub) (upU X.K Z wNeg):=zcJ zgX λx H Qv ⟨r,S,dx,Q,aZ,px,q,ret⟩=>by
 cases px<;>first
  | exact⟨_,rfl,ret _ _ _ _ _ Ext.refl aZ (.int _) q⟩
  | exact(show False from q).elim
end
def eqF:D->D->Option Bool
 | .non,.non=>some true
 | .bl i,.bl j=>some (i==j)
 | .int i,.int j=>some (decide (i=j))
 | .str i,.str j=>some (decide (i=j))
 | .non,.int _=>some false|.int _,.non=>some false|.non,.bl _=>some false|.bl _,.non=>some false|.non,.str _=>some false|.str _,.non=>some false
 | .int _,.str _=>some false|.str _,.int _=>some false|.bl _,.str _=>some false|.str _,.bl _=>some false
 | _,_=>none
def eqL (f:D->D->Option Bool):List D->List D->Option Bool
 | [],[]=>some true
 | x::xs,y::ys=>match f x y,eqL f xs ys with
  | some b,some c=>some (b&&c)
  | _,_=>none
 | _,_=>some false
def eqT (f:D->D->Option Bool):D->D->Option Bool
 | .tup xs,.tup ys=>eqL f xs ys
 | x,y=>eqF x y
abbrev eq1:D->D->Option Bool:=eqT eqF
abbrev eq2:D->D->Option Bool:=eqT eq1
def VY (n:Nat)(f:D->D->Option Bool):Prop:=∀(X:Cx)(pins:LA)(σ:St)(H:Hp)(s:Shared)(r:List Addr)(A:Around)(dx dy:D)(x y:V)(u v:Value)(b:Bool),
 Inv X pins σ H s->A.units+n<cLine->Rp r H dx x->Rp r H dy y->ZD x u->ZD y v->f dx dy=some b->SeqAt.EqAt A s u v b
def Tf (f:D->D->Option Bool):Prop:=∀(r:List Addr)(H:Hp)(dx dy:D)(x:V)(b:Bool),Rp r H dx x->Rp r H dy x->f dx dy=some b->b=true
theorem Tg:Tf eqF:=by
 intro r H dx dy x b px py e;cases px<;>cases py<;>simp[eqF] at e<;>first|exact e.symm|exact e
theorem ES {f:D->D->Option Bool}(hf:Tf f){r:List Addr}{H:Hp}:∀ {xs ys:List D} {vs:List V} {b:Bool},Rps r H xs vs->Rps r H ys vs->eqL f xs ys=some b->b=true
 | [],[],_,b,_,_,e=>by simp[eqL] at e;exact e
 | [],y::ys,vs,b,p,q,e=>by
  have h1:=p.unnil;subst h1;exact absurd q.1 (by simp)
 | x::xs,[],vs,b,p,q,e=>by
  have h1:=q.unnil;subst h1;exact absurd p.1 (by simp)
 | x::xs,y::ys,vs,b,p,q,e=>by
  obtain⟨v,vs',rfl,p1,p2⟩:=p.uncons;obtain⟨q1,q2⟩:=q.tail;unfold eqL at e;split at e
  .rename_i b1 c1 e1 e2;have h1:=hf r H x y v b1 p1 q1 e1
   have h2:=ES hf p2 q2 e2;subst h1;subst h2
   simp at e;exact e
  .cases e
theorem DH (hf:Tf f):Tf (eqT f):=by
 intro r H dx dy x b px py e;cases px with
 | tup e1 l1 f1=>
  cases py with
  | tup e2 l2 f2=>
   rw[e1] at e2;cases e2
   exact ES hf ⟨l1,f1⟩ ⟨l2,f2⟩ e
  | ref h=>simp[eqT,eqF] at e
  | exc h=>simp[eqT,eqF] at e
 | non=>exact Tg r H _ _ _ b .non py (by cases py<;>exact e)
 | bl i=>exact Tg r H _ _ _ b (.bl i) py (by cases py<;>exact e)
 | int i=>exact Tg r H _ _ _ b (.int i) py (by cases py<;>exact e)
 | str i=>exact Tg r H _ _ _ b (.str i) py (by cases py<;>exact e)
 | ref h=>cases py<;>simp[eqT,eqF] at e
 | exc h=>cases py<;>simp[eqT,eqF] at e
theorem Fu (n:Nat):VY n eqF:=by
 intro X pins σ H s r A dx dy x y u v b I hu px py rx ry e;have aY:∀ {x y:V},ZD x u->ZD y v->OZ x=true->OZ y=true->eqV x y=b->SeqAt.EqAt A s u v b:=λrx ry fx fy e'=>by
  subst e';exact zgN rx ry fx fy
 cases px<;>cases py<;>simp[eqF] at e<;>refine aY rx ry rfl rfl ?_<;>simp[eqV,e]<;>first|exact e|(subst e;simp)|skip
theorem Rf (I:Inv X pins σ H s)(h:H a=some (.tup xs)):∃aX:List Value,ZC xs aX/\IsTup s.heap a aX.toArray/\xs.length<=sizeLine:=I.tuple (SqT.of h)
def Wl (f:D->D->Option Bool)(xs ys:List D)(j:Nat):Bool:=match xs[j]?,ys[j]? with
 | some x,some y=>(f x y).getD false
 | _,_=>false
theorem Dl:∀ {xs ys:List D} {b:Bool},eqL f xs ys=some b->(∀(j:Nat)(x y:D),xs[j]?=some x->ys[j]?=some y->∃c,f x y=some c)/\((List.range (min xs.length ys.length)).all (Wl f xs ys)&&xs.length==ys.length)=b
 | [],[],b,e=>by simp[eqL] at e;subst e;simp
 | [],y::ys,b,e=>by simp[eqL] at e;subst e;simp
 | x::xs,[],b,e=>by simp[eqL] at e;subst e;simp
 | x::xs,y::ys,b,e=>by
  unfold eqL at e;split at e
  .rename_i b1 c1 e1 e2;obtain⟨h1,h2⟩:=Dl e2;refine⟨λj p q hp hq=>?_,?_⟩
   .cases j with
    | zero=>simp at hp hq;subst hp;subst hq;exact⟨b1,e1⟩
    | succ j=>exact h1 j p q (by simpa using hp) (by simpa using hq)
   .have z:min (x::xs).length (y::ys).length=min xs.length ys.length+1:=by simp[Nat.succ_min_succ]
    rw[z,List.range_succ_eq_map,List.all_cons,List.all_map];have e0:Wl f (x::xs) (y::ys) 0=b1:=by simp[Wl,e1]
    have es:(Wl f (x::xs) (y::ys) ∘ Nat.succ)=Wl f xs ys:=by funext j;simp[Wl]
    rw[e0,es];have e3:((x::xs).length==(y::ys).length)=(xs.length==ys.length):=by simp
    rw[e3,Bool.and_assoc,h2];simp at e;exact e
  .cases e
theorem Gq {n:Nat}{f:D->D->Option Bool}(hf:VY n f){X:Cx}{pins:LA}{σ:St}{H:Hp}{s:Shared}{r:List Addr}{A:Around}{xs ys:List D}{us vs:List V}{is js:List Value}{b:Bool}
  (I:Inv X pins σ H s)(hu:A.units+n<cLine)(p:Rps r H xs us)(q:Rps r H ys vs)(ri:ZC us is)(rj:ZC vs js)(e:eqL f xs ys=some b):
  (∀j (h1:j<is.toArray.size) (h2:j<js.toArray.size),SeqAt.EqAt A s is.toArray[j] js.toArray[j] (Wl f xs ys j))/\((List.range (min is.toArray.size js.toArray.size)).all (Wl f xs ys)&&is.toArray.size==js.toArray.size)=b:=by
 obtain⟨h1,h2⟩:=Dl e;have l1:is.toArray.size=xs.length:=by rw[zH,<- ri.length,p.1]
 have l2:js.toArray.size=ys.length:=by rw[zH,<- rj.length,q.1]
 refine⟨λj hj1 hj2=>?_,by rw[l1,l2];exact h2⟩;have k1:j<xs.length:=by omega
 have k2:j<ys.length:=by omega
 have g1:xs[j]?=some xs[j]:=by simp[k1]
 have g2:ys[j]?=some ys[j]:=by simp[k2]
 obtain⟨x,gx,px⟩:=p.get g1;obtain⟨y,gy,py⟩:=q.get g2;obtain⟨u,gu,ru⟩:=ri.get gx;obtain⟨v,gv,rv⟩:=rj.get gy;obtain⟨c,hc⟩:=h1 j _ _ g1 g2;have eu:is.toArray[j]=u:=by
  have z:=zB.mp gu;simpa using z.2
 have ev:js.toArray[j]=v:=by
  have z:=zB.mp gv;simpa using z.2
 have ec:Wl f xs ys j=c:=by simp[Wl,g1,g2,hc]
 rw[eu,ev,ec];exact hf X pins σ H s r A _ _ x y u v c I hu px py ru rv hc
theorem EE (hf:VY n f)(hs:Tf f):VY (n+1) (eqT f):=by
 intro X pins σ H s r A dx dy x y u v b I hu px py rx ry e;have flat:∀ {dx dy:D} {x y:V},Rp r H dx x->Rp r H dy y->ZD x u->ZD y v->eqF dx dy=some b->SeqAt.EqAt A s u v b:=λpx py rx ry e=>Fu (n+1) X pins σ H s r A _ _ _ _ u v b I hu px py rx ry e
 cases px with
 | @tup ds xs a e1 l1 f1=>
  cases py with
  | @tup es ys a' e2 l2 f2=>
   cases rx;cases ry;by_cases z:a=a'
   .subst z;have hb:=DH hs r H _ _ _ b (.tup e1 l1 f1) (.tup e2 l2 f2) e;subst hb;exact SeqAt.EqAt.same _
   .obtain⟨is,ri,ti,_⟩:=Rf I e1;obtain⟨js,rj,tj,_⟩:=Rf I e2;obtain⟨g1,g2⟩:=Gq (A:=A.in1) hf I (by show A.units+1+n<_;omega) ⟨l1,f1⟩ ⟨l2,f2⟩ ri rj e;have q:=SeqAt.RcAt.tuples (A:=A) ti tj (by omega) g1;rw[g2] at q;exact SeqAt.EqAt.of_refs z q
  | ref h=>simp[eqT,eqF] at e
  | _=>simp[eqT,eqF] at e
 | non=>exact flat .non py rx ry (by cases py<;>exact e)
 | bl i=>exact flat (.bl i) py rx ry (by cases py<;>exact e)
 | int i=>exact flat (.int i) py rx ry (by cases py<;>exact e)
 | str i=>exact flat (.str i) py rx ry (by cases py<;>exact e)
 | ref h=>cases py<;>simp[eqT,eqF] at e
 | exc h=>cases py<;>simp[eqT,eqF] at e
theorem DX (n:Nat):VY (n+1) eq1:=EE (Fu n) Tg
def wEq (f:D->D->Option Bool):W2:=λx y S Q=>match f x y with
 | some b=>Q (.bl b) S
 | none=>False
def wNe (f:D->D->Option Bool):W2:=λx y S Q=>match f x y with
 | some b=>Q (.bl (!b)) S
 | none=>False
theorem B7 {r:List Addr}{H:Hp}{dx dy:D}{x y:V}{b:Bool}(px:Rp r H dx x)(py:Rp r H dy y)(e:eqF dx dy=some b):Ly x y=true/\decide (x=y)=b:=by
 cases px<;>cases py<;>simp[eqF] at e<;>simp[Ly]<;>first|exact e|(subst e;simp)|skip
theorem zhw (hf:VY n f)(hu:X.A.units+1+n<cLine):OpR X (compareOp .Eq) (upO X.K Z (wEq (eqT f))):=by
 intro pins s σ H x y v u Qv I rx ry h;obtain⟨r,S,dx,dy,Q,aZ,px,py,q,ret⟩:=h;unfold wEq at q;split at q
 .rename_i b e;have flat:∀ {dx dy:D} {x y:V},Rp r H dx x->Rp r H dy y->ZD x v->ZD y u->eqF dx dy=some b->wpAny (model X.prog X.w) X.A (compareOp .Eq v u) (EP X pins σ Qv) X.xe s:=λpx py rx ry e=>by
   obtain⟨h1,h2⟩:=B7 px py e;refine Fw pins s σ H _ _ v u Qv I rx ry ⟨h1,?_⟩;rw[h2];exact ret _ _ _ _ _ Ext.refl aZ (.bl b) q
  cases px with
  | @tup ds xs a e1 l1 f1=>
   cases py with
   | @tup es ys a' e2 l2 f2=>
    cases rx;cases ry;obtain⟨is,ri,ti,_⟩:=Rf I e1;obtain⟨js,rj,tj,_⟩:=Rf I e2;obtain⟨g1,g2⟩:=Gq (A:=X.A.in1) hf I (by show X.A.units+1+n<_;omega) ⟨l1,f1⟩ ⟨l2,f2⟩ ri rj e;refine SeqAt.eq_tupleAt (A:=X.A) ti tj (by omega) g1 ?_;rw[g2];exact⟨.bl b,H,I,rfl,ret _ _ _ _ _ Ext.refl aZ (.bl b) q⟩
   | _=>simp[eqT,eqF] at e
  | non=>exact flat .non py rx ry (by cases py<;>exact e)
  | bl i=>exact flat (.bl i) py rx ry (by cases py<;>exact e)
  | int i=>exact flat (.int i) py rx ry (by cases py<;>exact e)
  | str i=>exact flat (.str i) py rx ry (by cases py<;>exact e)
  | ref h=>cases py<;>simp[eqT,eqF] at e
  | exc h=>cases py<;>simp[eqT,eqF] at e
 .exact q.elim
theorem zcr (hf:VY n f)(hu:X.A.units+1+n<cLine):OpR X (compareOp .NotEq) (upO X.K Z (wNe (eqT f))):=by
 intro pins s σ H x y v u Qv I rx ry h;obtain⟨r,S,dx,dy,Q,aZ,px,py,q,ret⟩:=h;unfold wNe at q;split at q
 .rename_i b e;have flat:∀ {dx dy:D} {x y:V},Rp r H dx x->Rp r H dy y->ZD x v->ZD y u->eqF dx dy=some b->wpAny (model X.prog X.w) X.A (compareOp .NotEq v u) (EP X pins σ Qv) X.xe s:=λpx py rx ry e=>by
   obtain⟨h1,h2⟩:=B7 px py e;refine op_ne pins s σ H _ _ v u Qv I rx ry ⟨h1,?_⟩;rw[h2];exact ret _ _ _ _ _ Ext.refl aZ (.bl (!b)) q
  cases px with
  | @tup ds xs a e1 l1 f1=>
   cases py with
   | @tup es ys a' e2 l2 f2=>
    cases rx;cases ry;obtain⟨is,ri,ti,_⟩:=Rf I e1;obtain⟨js,rj,tj,_⟩:=Rf I e2;obtain⟨g1,g2⟩:=Gq (A:=X.A.in1) hf I (by show X.A.units+1+n<_;omega) ⟨l1,f1⟩ ⟨l2,f2⟩ ri rj e;refine SeqAt.RcNeAt.tuples (A:=X.A) ti tj (by omega) g1 X.prog X.w _ _ ?_;rw[g2];exact⟨.bl (!b),H,I,rfl,ret _ _ _ _ _ Ext.refl aZ (.bl (!b)) q⟩
   | _=>simp[eqT,eqF] at e
  | non=>exact flat .non py rx ry (by cases py<;>exact e)
  | bl i=>exact flat (.bl i) py rx ry (by cases py<;>exact e)
  | int i=>exact flat (.int i) py rx ry (by cases py<;>exact e)
  | str i=>exact flat (.str i) py rx ry (by cases py<;>exact e)
  | ref h=>cases py<;>simp[eqT,eqF] at e
  | exc h=>cases py<;>simp[eqT,eqF] at e
 .exact q.elim
theorem ZG (hr:ZP k X.A):OpR X (compareOp .Eq) (upO X.K Z (wEq eq2)):=zhw (DX 0) (by have:=hr.un;omega)
theorem Fi (hr:ZP k X.A):OpR X (compareOp .NotEq) (upO X.K Z (wNe eq2)):=zcr (DX 0) (by have:=hr.un;omega)
section
variable {X:Cx}{Z:Zx}{a b c:Expr}{ta tb tc:TDE}{pos:Pos}{Ym:List Expr}
def F8 (t:TDE):TDT:=λdl S Q=>t dl S λd S'=>match d with
 | .bl k=>Q k S'
 | _=>False
theorem Ed {K:Fg}{Z:Zx}{r:List Addr}{H:Hp}{Q:Bool->Sto->Prop}{Qb:Bool->Hp->Prop}(h:∀b H' r' S',Ext r r' H H'->Rel K Z r' S' H'->Q b S'->Qb b H'):
  Ret K Z r H (λd S'=>match d with|.bl k=>Q k S'|_=>False) (λx H'=>∃k,x=.bl k/\Qb k H'):=λv H' r' d S' e aZ p q=>by
 cases p with
 | bl k=>exact⟨k,rfl,h k H' r' S' e aZ q⟩
 | _=>exact(show False from q).elim
theorem Zu {op:CmpOp}{w:W2}(ho:OpR X (compareOp op) (upO X.K Z w))(ha:PD X Z a ta)(hb:PD X Z b tb)(hm:behindInMarks op b=false):PDT X Z (.Compare a [op] [b] pos) (F8 (dOp w ta tb)):=
 Nf (zeb ho ha hb hm) λσ H Qb ⟨r,dl,S,Q,rs,aZ,h,ret⟩=>OO ⟨r,dl,S,_,rs,aZ,h,Ed ret⟩
theorem YS {e:Expr}{t:TDE}(h:PD X Z e t)(he:∀aO,isTrue e X.env aO=(do let v <- aO;standAt e.pos;holding [v] (truthy v)):=by intro _;rfl):PDT X Z e (F8 t):=
 Nf (zgj h he) λσ H Qb ⟨r,dl,S,Q,rs,aZ,h,ret⟩=>⟨r,dl,S,_,rs,aZ,h,Ed ret⟩
def dNot (t:TDT):TDT:=λdl S Q=>t dl S λk S'=>Q (!k) S'
theorem Wg (ha:PDT X Z a t):PDT X Z (.UnaryOp .Not a pos) (dNot t):=
 Nf (zb3 ha) λσ H Qb ⟨r,dl,S,Q,rs,aZ,h,ret⟩=>⟨r,dl,S,_,rs,aZ,h,λk H' r' S' e rel' q=>ret (!k) H' r' S' e rel' q⟩
def dAnd (t u:TDT):TDT:=λdl S Q=>t dl S λk S1=>if k=true then u dl S1 Q else Q false S1
def dOr (t u:TDT):TDT:=λdl S Q=>t dl S λk S1=>if k=true then Q true S1 else u dl S1 Q
theorem U7 (ha:PDT X Z a t):PDW X Z (.BoolOp .And [a] pos) t:=AN ha
theorem Ue (ha:PDT X Z a t):PDW X Z (.BoolOp .Or [a] pos) t:=zfa ha
theorem Sh (ha:PDT X Z a t)(hb:PDW X Z (.BoolOp .And (b::Ym) pos) u):PDW X Z (.BoolOp .And (a::b::Ym) pos) (dAnd t u):=
 ER (zf7 ha hb) λσ H Qb ⟨r,dl,S,Q,rs,aZ,h,ret⟩=>⟨r,dl,S,_,rs,aZ,h,λk H1 r1 S1 e1 aB q1=>by
  cases k with
  | true=>exact YU ⟨r1,dl,S1,Q,rs.ext e1,aB,(by simpa using q1),λk' H2 r2 S2 e2=>ret k' H2 r2 S2 (e1.trans e2)⟩
  | false=>exact Yq (ret false H1 r1 S1 e1 aB (by simpa using q1))⟩
theorem Wi (ha:PDT X Z a t)(hb:PDW X Z (.BoolOp .Or (b::Ym) pos) u):PDW X Z (.BoolOp .Or (a::b::Ym) pos) (dOr t u):=
 ER (pw_or ha hb) λσ H Qb ⟨r,dl,S,Q,rs,aZ,h,ret⟩=>⟨r,dl,S,_,rs,aZ,h,λk H1 r1 S1 e1 aB q1=>by
  cases k with
  | true=>exact YU (ret true H1 r1 S1 e1 aB (by simpa using q1))
  | false=>exact Yq ⟨r1,dl,S1,Q,rs.ext e1,aB,(by simpa using q1),λk' H2 r2 S2 e2=>ret k' H2 r2 S2 (e1.trans e2)⟩⟩
def dAndV (ta tb:TDE):TDE:=λdl S Q=>ta dl S λx S1=>match x with
 | .bl k=>if k=true then tb dl S1 Q else Q (.bl false) S1
 | _=>False
def dOrV (ta tb:TDE):TDE:=λdl S Q=>ta dl S λx S1=>match x with
 | .bl k=>if k=true then Q (.bl true) S1 else tb dl S1 Q
 | _=>False
def dNotV (ta:TDE):TDE:=λdl S Q=>ta dl S λx S1=>match x with
 | .bl k=>Q (.bl (!k)) S1
 | _=>False
theorem X3 {op}(h:PD X Z a t):PD X Z (.BoolOp op [a] pos) t:=zd6 h
theorem Wo (ha:PD X Z a ta)(hb:PD X Z (.BoolOp .And (b::Ym) pos) tb):PD X Z (.BoolOp .And (a::b::Ym) pos) (dAndV ta tb):=
 Z4 (zaA ha hb) λσ H Qv ⟨r,dl,S,Q,rs,aZ,h,ret⟩=>⟨r,dl,S,_,rs,aZ,h,λv H1 r1 d S1 e1 aB p q1=>by
  cases p with
  | bl k=>
   refine⟨k,rfl,?_⟩;cases k with
   | true=>exact YU ⟨r1,dl,S1,Q,rs.ext e1,aB,(by simpa using q1),ret.ext e1⟩
   | false=>exact Yq (ret _ H1 r1 (.bl false) S1 e1 aB (.bl false) (by simpa using q1))
  | _=>exact(show False from q1).elim⟩
theorem Du (ha:PD X Z a ta)(hb:PD X Z (.BoolOp .Or (b::Ym) pos) tb):PD X Z (.BoolOp .Or (a::b::Ym) pos) (dOrV ta tb):=
 Z4 (pe_or ha hb) λσ H Qv ⟨r,dl,S,Q,rs,aZ,h,ret⟩=>⟨r,dl,S,_,rs,aZ,h,λv H1 r1 d S1 e1 aB p q1=>by
  cases p with
  | bl k=>
   refine⟨k,rfl,?_⟩;cases k with
   | true=>exact YU (ret _ H1 r1 (.bl true) S1 e1 aB (.bl true) (by simpa using q1))
   | false=>exact Yq ⟨r1,dl,S1,Q,rs.ext e1,aB,(by simpa using q1),ret.ext e1⟩
  | _=>exact(show False from q1).elim⟩
theorem zeu (ha:PD X Z a ta):PD X Z (.UnaryOp .Not a pos) (dNotV ta):=
 Z4 (zcu ha) λσ H Qv ⟨r,dl,S,Q,rs,aZ,h,ret⟩=>⟨r,dl,S,_,rs,aZ,h,λv H1 r1 d S1 e1 aB p q1=>by
  cases p with
  | bl k=>exact⟨k,rfl,ret _ H1 r1 (.bl (!k)) S1 e1 aB (.bl (!k)) q1⟩
  | _=>exact(show False from q1).elim⟩
def dIfE (t:TDT)(ta tb:TDE):TDE:=λdl S Q=>t dl S λk S1=>if k=true then ta dl S1 Q else tb dl S1 Q
theorem X4 (hc:PDT X Z c t)(ha:PD X Z a ta)(hb:PD X Z b tb):PD X Z (.IfExp c a b pos) (dIfE t ta tb):=
 Z4 (zhT hc ha hb) λσ H Qv ⟨r,dl,S,Q,rs,aZ,h,ret⟩=>⟨r,dl,S,_,rs,aZ,h,λk H1 r1 S1 e1 aB q1=>by
  cases k with
  | true=>exact YU ⟨r1,dl,S1,Q,rs.ext e1,aB,(by simpa using q1),ret.ext e1⟩
  | false=>exact Yq ⟨r1,dl,S1,Q,rs.ext e1,aB,(by simpa using q1),ret.ext e1⟩⟩
def Eb (w w':W2)(ta tb tc:TDE):TDE:=λdl S Q=>ta dl S λx S1=>tb dl S1 λy S2=>w x y S2 λz S3=>match z with
 | .bl k=>if k=true then tc dl S3 λu S4=>w' y u S4 Q else Q (.bl false) S3
 | _=>False
theorem Bp (h:up X.K Z (Eb w w' ta tb tc) σ H Qv):Iy (upO X.K Z w) (upO X.K Z w') (up X.K Z ta) (up X.K Z tb) (up X.K Z tc) σ H Qv:=by
 obtain⟨r,dl,S,Q,rs,aZ,h,ret⟩:=h;refine⟨r,dl,S,_,rs,aZ,h,λv H1 r1 dx S1 e1 aB p1 h1=>⟨r1,dl,S1,_,rs.ext e1,aB,h1,λv2 H2 r2 dy S2 e2 aC p2 h2=>⟨r2,S2,dx,dy,_,aC,p1.ext e2,p2,h2,λv3 H3 r3 dz S3 e3 aE p3 h3=>?_⟩⟩⟩;cases p3 with
 | bl k=>
  refine⟨k,rfl,?_⟩;cases k with
  | true=>exact YU ⟨r3,dl,S3,_,rs.ext (e1.trans (e2.trans e3)),aE,(by simpa using h3),λv4 H4 r4 du S4 e4 aF p4 h4=>⟨r4,S4,dy,du,Q,aF,(p2.ext e3).ext e4,p4,h4,ret.ext (e1.trans (e2.trans (e3.trans e4)))⟩⟩
  | false=>exact Yq (ret _ H3 r3 (.bl false) S3 (e1.trans (e2.trans e3)) aE (.bl false) (by simpa using h3))
 | _=>exact(show False from h3).elim
theorem zhi (ho:OpR X (compareOp op) (upO X.K Z w))(ho':OpR X (compareOp op') (upO X.K Z w'))(ha:PD X Z a ta)(hb:PD X Z b tb)(hc:PD X Z c tc)(hm:lastMarks [op,op'] [b,c]=false:=by with_unfolding_all rfl):PD X Z (.Compare a [op,op'] [b,c] pos) (Eb w w' ta tb tc):=Z4 (zb4 ho ho' ha hb hc hm) λ_ _ _ h=>Bp h
theorem Ey {op op':CmpOp}{w w':W2}(ho:OpR X (compareOp op) (upO X.K Z w))(ho':OpR X (compareOp op') (upO X.K Z w'))(ha:PD X Z a ta)(hb:PD X Z b tb)(hc:PD X Z c tc)
  (hm:lastMarks [op,op'] [b,c]=false:=by with_unfolding_all rfl):PDT X Z (.Compare a [op,op'] [b,c] pos) (F8 (Eb w w' ta tb tc)):=
 Nf (zhk ho ho' ha hb hc hm) λσ H Qb ⟨r,dl,S,Q,rs,aZ,h,ret⟩=>Bp ⟨r,dl,S,_,rs,aZ,h,Ed ret⟩
def L1:D->Bool
 | .non=>true
 | _=>false
def wIsN:W2:=λx y S Q=>match y with
 | .non=>Q (.bl (L1 x)) S
 | _=>False
def wNotN:W2:=λx y S Q=>match y with
 | .non=>Q (.bl (!L1 x)) S
 | _=>False
theorem D8 {r:List Addr}{H:Hp}{d:D}{x:V}(p:Rp r H d x):decide (x=.non)=L1 d:=by
 cases p<;>simp[L1]
theorem YW:OpR X (compareOp .Is) (upO X.K Z wIsN):=UA zbT λx y H Qv ⟨r,S,dx,dy,Q,aZ,px,py,q,ret⟩=>by
 cases py with
 | non=>exact⟨rfl,by rw[D8 px];exact ret _ _ _ _ _ Ext.refl aZ (.bl _) q⟩
 | _=>exact(show False from q).elim
theorem Ao:OpR X (compareOp .IsNot) (upO X.K Z wNotN):=UA zad λx y H Qv ⟨r,S,dx,dy,Q,aZ,px,py,q,ret⟩=>by
 cases py with
 | non=>exact⟨rfl,by rw[D8 px];exact ret _ _ _ _ _ Ext.refl aZ (.bl _) q⟩
 | _=>exact(show False from q).elim
variable {e:Expr}{es:List Expr}
def PB:TDA:=λ_ S Q=>Q [] S
def QK (ta:TDE)(tr:TDA):TDA:=λdl S Q=>ta dl S λx S1=>tr dl S1 λxs S2=>Q (x::xs) S2
theorem Zg:PDA X Z [] PB:=DC LX λσ H Qv ⟨r,dl,S,Q,rs,aZ,h,ret⟩=>ret [] H r [] S Ext.refl aZ Rps.nil h
theorem Zb (ha:PD X Z e te)(hr:PDA X Z es t)(hs:starEach (e::es) X.env=(false,eval e X.env)::starEach es X.env:=by rfl):PDA X Z (e::es) (QK te t):=
 DC (Tn ha hr hs) λσ H Qv ⟨r,dl,S,Q,rs,aZ,h,ret⟩=>⟨r,dl,S,_,rs,aZ,h,λv H1 r1 d S1 e1 aB p1 h1=>⟨r1,dl,S1,_,rs.ext e1,aB,h1,λvs H2 r2 ds S2 e2 aC p2 h2=>
  ret (v::vs) H2 r2 (d::ds) S2 (e1.trans e2) aC (Rps.cons (p1.ext e2) p2) h2⟩⟩
def dTup (t:TDA):TDE:=λdl S Q=>t dl S λds S1=>if ds.length<=1000 then Q (.tup ds) S1 else False
def dLst (t:TDA):TDE:=λdl S Q=>t dl S λds S1=>if ds.length<=1000 then Q (.ref S1.length) (S1++[.lst ds]) else False
theorem L5 [Decidable p] (h:if p then A else False):p/\A:=by
 split at h
 .exact⟨by assumption,h⟩
 .exact h.elim
theorem TZ (h:n<=1000):n<=sizeLine:=yM (P6 h)
theorem Zy {x1}(h:PDA X Z es t):PD X Z (.Tuple es x1 pos) (dTup t):=
 Z4 (zal h) λσ H Qv ⟨r,dl,S,Q,rs,aZ,h,ret⟩=>⟨r,dl,S,_,rs,aZ,h,λvs H1 r1 ds S1 e1 aB p1 h1=>by
  obtain⟨hl,h1⟩:=L5 h1;refine⟨by rw[<- p1.1];exact TZ hl,λp hp=>?_⟩;have x:Ext r1 r1 H1 (upd H1 p (.tup vs)):=⟨λ_ _ q=>q,λa xs q=>X2 hp _ _ q,λa c q=>X2 hp _ _ q⟩;exact ret _ _ r1 (.tup ds) S1 (e1.trans x) (aB.same (X2 hp)) ((p1.ext x).tupR YH) h1⟩
theorem UB {r:List Addr}{p:Addr}{H:Hp}{n:Nat}(h:r.length=n):Rp (r++[p]) H (.ref n) (.ref p):=.ref (by subst h;simp)
theorem Yu (h:PDA X Z es t):PD X Z (.List es pos) (dLst t):=
 Z4 (zhL h) λσ H Qv ⟨r,dl,S,Q,rs,aZ,h,ret⟩=>⟨r,dl,S,_,rs,aZ,h,λvs H1 r1 ds S1 e1 aB p1 h1=>by
  obtain⟨hl,h1⟩:=L5 h1;refine⟨by rw[<- p1.1];exact TZ hl,λp hp=>?_⟩;obtain⟨aC,x⟩:=aB.push hp p1;exact ret _ _ _ (.ref S1.length) _ (e1.trans x) aC (UB aB.len) h1⟩
def wIx:W2:=λx y S Q=>match x,y with
 | .tup xs,.int i=>match atI xs i with
  | some d=>Q d S
  | none=>False
 | .ref n,.int i=>match lAt S n with
  | some o=>match atI (Zo o) i with
   | some d=>Q d S
   | none=>False
  | none=>False
 | _,_=>False
theorem Bs {r:List Addr}{H:Hp}{ds:List D}{vs:List V}{i:Int}{d:D}(h:Rps r H ds vs)(e:atI ds i=some d):∃v,atI vs i=some v/\Rp r H d v:=by
  unfold atI at e ⊢;rw[<- h.1];cases q:ixN ds.length i with
  | none=>
   rw[q] at e;cases e
  | some j=>
    rw[q] at e;exact h.get e
theorem do_ix:IxR X (upO X.K Z wIx):=by
 intro value slice pins s σ H x y v u Qv I rx ry h hs;obtain⟨r,S,dx,dy,Q,aZ,px,py,q,ret⟩:=h;cases px with
 | @tup ds xs a e1 l1 f1=>
  cases py with
  | int i=>
   have q':(match atI ds i with|some d=>Q d S|none=>False):=q;split at q'
   .rename_i d e;obtain⟨w,hw,pw⟩:=Bs ⟨l1,f1⟩ e;exact zf2 value slice pins s σ H _ _ v u Qv I rx ry ⟨a,xs,i,w,rfl,rfl,SqT.of e1,hw,ret w H r d S Ext.refl aZ pw q'⟩ hs
   .exact q'.elim
  | _=>exact(show False from q).elim
 | @ref n a e1=>
  cases py with
  | int i=>
   have q':(match lAt S n with|some o=>(match atI (Zo o) i with|some d=>Q d S|none=>False)|none=>False):=q;split at q'
   .rename_i o eo;obtain⟨eo,eL⟩:=YY eo;obtain⟨a',ha,ob⟩:=aZ.at eo;rw[e1] at ha;cases ha
    obtain⟨xs,sq,pr⟩:=ob.list eL;split at q'
    .rename_i d e;obtain⟨w,hw,pw⟩:=Bs pr e;exact zbO value slice pins s σ H _ _ v u Qv I rx ry ⟨a,xs,i,w,rfl,rfl,sq,hw,ret w H r d S Ext.refl aZ pw q'⟩ hs
    .exact q'.elim
   .exact q'.elim
  | _=>exact(show False from q).elim
 | _=>exact(show False from q).elim
theorem BE (ha:PD X Z a ta)(hb:PD X Z b tb)(hs:Ph b):PD X Z (.Subscript a b pos) (dOp wIx ta tb):=Z4 (pe_ix do_ix ha hb hs) λ_ _ _ h=>OO h
theorem Zd (ha:PD X Z a ta)(hb:PD X Z b tb)(hs:Ph b:=by exact λ_ _=>rfl):PD X Z (.Subscript a b pos) (dOp wIx ta tb):=BE ha hb hs
end
structure Bk (fs:List Addr)(H H':Hp)(B h:Heap)(ea:Addr):Prop where
 trk:∀b u,H' b=some u->∃o,B.get? b=some o
 old:∀b o,h.get? b=some o->H b=none->b ∉ fs->B.get? b=some o
 all:∀b o,h.get? b=some o->b ∉ fs->∃o',B.get? b=some o'
 new:H' ea=none
def CXE (P:Program)(w:World):CXT:=λouter H s E e s'=>∃(ea c:Addr)(a0:Value)(B:Heap)(H':Hp),e=.ref ea/\s'.os=s.os/\AllBare s'.gens/\Un (frs outer) [] H H' s.heap s'.heap/\HOk P w H' s'.heap/\
 Heap.FlyingW B outer ea (.ref c) a0 s'.heap/\Bk (frs outer) H H' B s.heap ea/\E (.ref c) none H'
section
variable {X:Cx}{pins:LA}{σ:St}{H:Hp}{s:Shared}
end
section
variable {P:Program}{w:World}{K:Fg}{mg:Str->Option Value}{base:Heap}{N:List Str}{qual:Str}{scope:Scope}{f:Addr}{cdv:Value}{A:Around}{outer:List Env}{s0:Shared}{H0:Hp}{E:XK}
end
structure Xc (K:Fg)(mg:Str->Option Value)(x:Str)(C:Addr)(bm:List Value)(nid:String):Prop where
 bound:mg x=some (.ref C)
 ex:W.excIn K C bm nid=true
abbrev WC:=List D->Sto->DK->Prop
abbrev Sd:=List D->Sto->DK->(Addr->Sto->Prop)->Prop
def upC (K:Fg)(Z:Zx)(w:WC):List V->Hp->VK->Prop:=λxs H Qv=>∃r S ds Q,Rel K Z r S H/\Rps r H ds xs/\w ds S Q/\Ret K Z r H Q Qv
def upF (K:Fg)(sd:Sd):Sp:=λvs H Qv E=>∃ex:Addr->Sto->Prop,upC K (Zc ex E) (λds S Q=>sd ds S Q ex) vs H Qv
def GF (w:WC)(t:TDA):TDE:=λdl S Q=>t dl S λds S1=>w ds S1 Q
def G1 (ex:Ev->Addr->Sto->Prop)(sd:Sd)(t:TDA):TDE:=λdl S Q=>t dl S λds S1=>sd ds S1 Q (ex dl)
def Wa (X:Cx)(W:St->XK):Prop:=∀(pins:LA)(σ:St)(H:Hp)(s:Shared)(e:Value)(s':Shared),Inv X pins σ H s->CXE X.prog X.w X.stack H s (W σ) e s'->X.xe e s'
theorem Ls (F:Yc X.prog X.w X.K X.mg X.base (CXE X.prog X.w) k f fd ps sp)(hr:ZP k X.A)(hb:YB X.K fd ps [])(hx:Wa X W)(I:Inv X pins σ H s)(r:ZC vs us)(h:sp vs H Q (W σ)):wpAny (model X.prog X.w) X.A (call (.ref f) us) (EP X pins σ Q) X.xe s:=by
 have hl:us.length=ps.length:=by rw[<- r.length];exact F.len _ _ _ _ h
 have hb':=hb s us I.kIn (by rw[yZ];exact hl);rw[yZ] at hb';refine wpAny_call (codeAny_mono (F.run X.A X.stack s H ⟨us,[]⟩ us vs Q (W σ) hr I.env0 hb' r h) λz s' hq=>?_);cases z with
 | error ev=>exact hx pins σ H s ev s' I hq
 | ok fl=>
  cases fl with
  | ret u=>exact I.after hq
  | _=>exact False.elim hq
theorem zbL (F:Yc X.prog X.w X.K X.mg X.base (CXE X.prog X.w) k f fd ps sp)(hr:ZP k X.A)(hg:Gl X x)(hm:X.mg x=some (.ref f))(hk:PySem.W.keepIn X.K (.ref f)=true)(hb:YB X.K fd ps [])(hx:Wa X W)
  (ha:PA X (e::es) t)(hdb:(x==("__debug__":Str))=false)(he:starEach (e::es) X.env=(false,eval e X.env)::starEach es X.env)(hpl:(backTo pos (starEach es X.env)).any (·.1)=false):
  PE X (.Call (.Name x p) (e::es) [] pos) (λσ H Q=>t σ H λvs H1=>sp vs H1 Q (W σ)):=by
 intro pins s σ H Q I h;refine wpAny_Call_Name_kw (DU I hg hm ?_ hdb);exact PySem.W.callWith_K (h₀:=X.base) I.ok.mod.kin hk (thn (ha pos pins s σ H _ I h) λus s1 ⟨vs,H1,I1,r,q⟩=>⟨I1.kIn,Ls F hr hb hx I1 r q⟩) he hpl
section
variable {X:Cx}{Z:Zx}{x:Str}{p pos:Pos}{e:Expr}{es:List Expr}{t:TDA}{id T:String}{w:WC}
theorem Ay (h:up X.K Z (GF w t) σ H Qv):upA X.K Z t σ H λvs H1=>upC X.K Z w vs H1 Qv:=by
 obtain⟨r,dl,S,Q,rs,aZ,h,ret⟩:=h;exact⟨r,dl,S,_,rs,aZ,h,λvs H1 r1 ds S1 e1 aB p1 h1=>⟨r1,S1,ds,Q,aB,p1,h1,ret.ext e1⟩⟩
theorem ZO (hc:Yr X (.builtin id) (upC X.K Z w))(hg:Gl X x)(hm:X.mg x=none)(hv:bootBuiltins x=some (.builtin id))(ha:PDA X Z (e::es) t)(hn:x≠"__name__":=by decide)(hdb:(x==("__debug__":Str))=false:=by decide)
  (he:starEach (e::es) X.env=(false,eval e X.env)::starEach es X.env:=by rfl)(hpl:(backTo pos (starEach es X.env)).any (·.1)=false:=by rfl):PD X Z (.Call (.Name x p) (e::es) [] pos) (GF w t):=
 Z4 (Ir hc hg hm hv ha hn hdb he hpl) λ_ _ _ h=>Ay h
theorem Ud (hc:Yr X (.type T) (upC X.K Z w))(hg:Gl X x)(hm:X.mg x=none)(hv:bootBuiltins x=some (.type T))(ha:PDA X Z (e::es) t)(hn:x≠"__name__":=by decide)(hdb:(x==("__debug__":Str))=false:=by decide)
  (he:starEach (e::es) X.env=(false,eval e X.env)::starEach es X.env:=by rfl)(hpl:(backTo pos (starEach es X.env)).any (·.1)=false:=by rfl):PD X Z (.Call (.Name x p) (e::es) [] pos) (GF w t):=
 Z4 (zbX hc hg hm hv ha hn hdb he hpl) λ_ _ _ h=>Ay h
theorem NI {sd:Sd}{r:List Addr}{S:Sto}{H:Hp}{dl:Ev}{σ:St}{ds:List D}{vs:List V}{Q:DK}{Qv:VK}(rs:Rs r H dl σ)(aZ:Rel X.K Z r S H)(p:Rps r H ds vs)(h:sd ds S Q (Z.ex dl))(ret:Ret X.K Z r H Q Qv):upF X.K sd vs H Qv (Z.w σ):=
 ⟨Z.ex dl,r,S,ds,Q,⟨aZ.b,λ_ _ c H' r' S' x _ rb q=>aZ.xw dl σ c H' r' S' x (rs.ext x) rb q⟩,p,h,λv H' r' d S' x rel' pv q=>ret v H' r' d S' x ⟨rel'.b,aZ.xw.ext x⟩ pv q⟩
theorem zht (F:Yc X.prog X.w X.K X.mg X.base (CXE X.prog X.w) k f fd ps (upF X.K sd))(hr:ZP k X.A)(hg:Gl X x)(hm:X.mg x=some (.ref f))(hk:PySem.W.keepIn X.K (.ref f)=true)(hb:YB X.K fd ps [])(hx:Wa X W)(ha:PDA X ⟨ex,W⟩ (e::es) t)(hdb:(x==("__debug__":Str))=false:=by decide)(he:starEach (e::es) X.env=(false,eval e X.env)::starEach es X.env:=by rfl)(hpl:(backTo pos (starEach es X.env)).any (·.1)=false:=by rfl):PD X ⟨ex,W⟩ (.Call (.Name x p) (e::es) [] pos) (G1 ex sd t):=
 Z4 (zbL F hr hg hm hk hb hx ha hdb he hpl) λσ H Qv ⟨r,dl,S,Q,rs,aZ,h,ret⟩=>⟨r,dl,S,_,rs,aZ,h,λvs H1 r1 ds S1 e1 aB p1 h1=>NI (Z:=⟨ex,W⟩) (rs.ext e1) aB p1 h1 (ret.ext e1)⟩
def wAbs:WC:=λds S Q=>match ds with
 | [.int i]=>Q (.int (if i<0 then -i else i)) S
 | _=>False
theorem JX:Yr X (.builtin "abs") (upC X.K Z wAbs):=JP A8 λxs H Qv ⟨r,S,ds,Q,aZ,ps,q,ret⟩=>by
 unfold wAbs at q;split at q
 .rename_i i;obtain⟨v,vs,rfl,p1,p2⟩:=ps.uncons;have z:=p2.unnil;subst z;cases p1;exact⟨i,rfl,ret _ _ _ _ _ Ext.refl aZ (.int _) q⟩
 .exact q.elim
def YR:List D->Option (List Int)
 | []=>some []
 | .int i::r=>(YR r).map (i::·)
 | _::_=>none
def TL (le:Int->Int->Prop)(two:Int->Int->Int):WC:=λds S Q=>match ds with
 | [.int i,.int j]=>Q (.int (two i j)) S
 | [.ref n]=>match lAt S n with
  | some o=>match YR (Zo o) with
   | some xs=>xs≠[]/\∀m,m∈xs->(∀y∈xs,le y m)->Q (.int m) S
   | none=>False
  | none=>False
 | _=>False
abbrev wMax:WC:=TL (λy m=>y<=m) λi j=>if j > i then j else i
abbrev wMin:WC:=TL (λy m=>m<=y) λi j=>if j<i then j else i
theorem Kc {r:List Addr}{H:Hp}:∀ {ds:List D} {ns:List Int} {vs:List V} {us:List Value},YR ds=some ns->Rps r H ds vs->ZC vs us->∃xs:List (Int×Tok),us.toArray=intItems xs.toArray/\xs.map (·.1)=ns
 | [],ns,vs,us,e,p,q=>by
  have z:=p.unnil;subst z;cases q;simp[YR] at e;subst e;exact⟨[],by simp[intItems],rfl⟩
 | d::ds,ns,vs,us,e,p,q=>by
  obtain⟨v,vs',rfl,p1,p2⟩:=p.uncons;cases d with
  | int i=>
   cases p1;cases q with
   | cons q1 q2=>
    obtain⟨t,rfl⟩:=q1;simp only[YR,zL] at e;obtain⟨ms,e1,rfl⟩:=e;obtain⟨xs,h1,h2⟩:=Kc e1 p2 q2;refine⟨(i,t)::xs,?_,by simp[h2]⟩;simp[intItems] at h1 ⊢;exact h1
  | _=>simp[YR] at e
theorem EC (f:Nat->Int):∀k j,j<=k->f j<=f (argBest (λi j=>decide (f i > f j)) k)
 | 0,j,h=>by
  have z:j=0:=by omega
  subst z;exact zS _
 | k+1,j,h=>by
  have ih:=EC f k;unfold argBest;split
  .rename_i hb;have hb':f (k+1) > f (argBest (λi j=>decide (f i > f j)) k):=of_decide_eq_true hb;by_cases z:j=k+1
   .subst z;exact zS _
   .have:=ih j (by omega);omega
  .rename_i hb;have hb':¬ f (k+1) > f (argBest (λi j=>decide (f i > f j)) k):=λq=>hb (decide_eq_true q)
   by_cases z:j=k+1
   .subst z;omega
   .exact ih j (by omega)
theorem Cj (f:Nat->Int):∀k j,j<=k->f (argBest (λi j=>decide (f i<f j)) k)<=f j
 | 0,j,h=>by
  have z:j=0:=by omega
  subst z;exact zS _
 | k+1,j,h=>by
  have ih:=Cj f k;unfold argBest;split
  .rename_i hb;have hb':f (k+1)<f (argBest (λi j=>decide (f i<f j)) k):=of_decide_eq_true hb;by_cases z:j=k+1
   .subst z;exact zS _
   .have:=ih j (by omega);omega
  .rename_i hb;have hb':¬ f (k+1)<f (argBest (λi j=>decide (f i<f j)) k):=λq=>hb (decide_eq_true q)
   by_cases z:j=k+1
   .subst z;omega
   .exact ih j (by omega)
theorem Gi (bt:Nat->Nat->Bool):∀k,argBest bt k<=k
 | 0=>zC _
 | k+1=>by
  unfold argBest;split
  .exact zC _
  .exact Nat.le_succ_of_le (Gi bt k)
theorem FC {xs:List (Int×Tok)}{ns:List Int}(h:xs.map (·.1)=ns){j:Nat}{y:Int}(e:ns[j]?=some y):numAt xs.toArray j=y:=by
  subst h;unfold numAt;rw[zF] at e;simp only[List.getElem?_toArray];cases q:xs[j]? with
  | none=>
   rw[q] at e;cases e
  | some z=>rw[q] at e;simpa using e
theorem C4 {xs:List (Int×Tok)}{ns:List Int}(h:xs.map (·.1)=ns){j:Nat}(hj:j<ns.length):numAt xs.toArray j∈ns:=by
 have e:ns[j]?=some ns[j]:=by simp[hj]
 rw[FC h e];exact yW hj
theorem W3 (hc:X.calm=true):Yr X (.builtin "max") (upC X.K Z wMax):=by
 intro pins s σ H xs us Qv I rv h;obtain⟨r,S,ds,Q,aZ,ps,q,ret⟩:=h;unfold wMax TL at q;split at q
 .rename_i i j;obtain⟨v,vs,rfl,p1,p2⟩:=ps.uncons;obtain⟨v2,vs2,rfl,p3,p4⟩:=p2.uncons;have z:=p4.unnil;subst z;cases p1;cases p3;exact zbt hc pins s σ H _ us Qv I rv ⟨i,j,rfl,ret _ _ _ _ _ Ext.refl aZ (.int _) q⟩
 .rename_i n;obtain⟨v,vs,rfl,p1,p2⟩:=ps.uncons;have z:=p2.unnil;subst z;split at q
  .rename_i o eo;split at q
   .rename_i ns en;obtain⟨hne,q⟩:=q;obtain⟨eo,eL⟩:=YY eo;obtain⟨a,ha,ob⟩:=aZ.at eo;cases p1 with
    | ref h1=>
     rw[h1] at ha;cases ha
     obtain⟨ys,sq,pr⟩:=ob.list eL;obtain⟨u,rfl,ru⟩:=WN rv;cases ru;obtain⟨aX,ri,pl,hz⟩:=I.list sq;obtain⟨zs,hz1,hz2⟩:=Kc en pr ri;have hl:zs.length=ns.length:=by rw[<- hz2,zA]
     have hpos:0<ns.length:=List.length_pos_iff.mpr hne
     have isl:=pl.isList;rw[hz1] at isl;refine max_intList (I.ok.hd hc) isl (by simp;omega) λv h' tk hv hk=>?_
     have hvi:=intItems_at hv;obtain⟨t,rfl⟩:=hvi;have hb:=Gi (λi j=>decide (numAt zs.toArray i > numAt zs.toArray j)) (zs.toArray.size-1)
     have hsz:zs.toArray.size=ns.length:=by simp[hl]
     refine⟨.int _,H,I.kept hk,⟨_,rfl⟩,ret _ _ _ _ _ Ext.refl aZ (.int _) (q _ (C4 hz2 (by omega)) λy hy=>?_)⟩;obtain⟨j,hj,ej⟩:=yL.mp hy;have e1:=FC hz2 (show ns[j]?=some y by simp[hj,ej]);rw[<- e1];exact EC _ _ j (by omega)
   .exact q.elim
  .exact q.elim
 .exact q.elim
theorem V1 (hc:X.calm=true):Yr X (.builtin "min") (upC X.K Z wMin):=by
 intro pins s σ H xs us Qv I rv h;obtain⟨r,S,ds,Q,aZ,ps,q,ret⟩:=h;unfold wMin TL at q;split at q
 .rename_i i j;obtain⟨v,vs,rfl,p1,p2⟩:=ps.uncons;obtain⟨v2,vs2,rfl,p3,p4⟩:=p2.uncons;have z:=p4.unnil;subst z;cases p1;cases p3;exact zfM hc pins s σ H _ us Qv I rv ⟨i,j,rfl,ret _ _ _ _ _ Ext.refl aZ (.int _) q⟩
 .rename_i n;obtain⟨v,vs,rfl,p1,p2⟩:=ps.uncons;have z:=p2.unnil;subst z;split at q
  .rename_i o eo;split at q
   .rename_i ns en;obtain⟨hne,q⟩:=q;obtain⟨eo,eL⟩:=YY eo;obtain⟨a,ha,ob⟩:=aZ.at eo;cases p1 with
    | ref h1=>
     rw[h1] at ha;cases ha
     obtain⟨ys,sq,pr⟩:=ob.list eL;obtain⟨u,rfl,ru⟩:=WN rv;cases ru;obtain⟨aX,ri,pl,hz⟩:=I.list sq;obtain⟨zs,hz1,hz2⟩:=Kc en pr ri;have hl:zs.length=ns.length:=by rw[<- hz2,zA]
     have hpos:0<ns.length:=List.length_pos_iff.mpr hne
     have isl:=pl.isList;rw[hz1] at isl;refine min_intList (I.ok.hd hc) isl (by simp;omega) λv h' tk hv hk=>?_
     have hvi:=intItems_at hv;obtain⟨t,rfl⟩:=hvi;have hb:=Gi (λi j=>decide (numAt zs.toArray i<numAt zs.toArray j)) (zs.toArray.size-1)
     have hsz:zs.toArray.size=ns.length:=by simp[hl]
     refine⟨.int _,H,I.kept hk,⟨_,rfl⟩,ret _ _ _ _ _ Ext.refl aZ (.int _) (q _ (C4 hz2 (by omega)) λy hy=>?_)⟩;obtain⟨j,hj,ej⟩:=yL.mp hy;have e1:=FC hz2 (show ns[j]?=some y by simp[hj,ej]);rw[<- e1];exact Cj _ _ j (by omega)
   .exact q.elim
  .exact q.elim
 .exact q.elim
def S5:WC:=λds S Q=>match ds with
 | [.tup xs]=>Q (.int xs.length) S
 | [.ref n]=>match lAt S n with
  | some o=>Q (.int (Zo o).length) S
  | none=>False
 | _=>False
theorem YV:Yr X (.builtin "len") (upC X.K Z S5):=JP zel λxs H Qv ⟨r,S,ds,Q,aZ,ps,q,ret⟩=>by
 unfold S5 at q;split at q
 .rename_i ys;obtain⟨v,vs,rfl,p1,p2⟩:=ps.uncons;have z:=p2.unnil;subst z;obtain⟨a,zs,rfl,h1,h2⟩:=p1.untup;exact⟨a,zs,rfl,.inr (SqT.of h1),by rw[<- h2.1];exact ret _ _ _ _ _ Ext.refl aZ (.int _) q⟩
 .rename_i n;obtain⟨v,vs,rfl,p1,p2⟩:=ps.uncons;have z:=p2.unnil;subst z;split at q
  .rename_i o eo;obtain⟨eo,eL⟩:=YY eo;obtain⟨a,ha,ob⟩:=aZ.at eo;cases p1 with
   | ref h1=>
    rw[h1] at ha;cases ha
    obtain⟨ys,sq,pr⟩:=ob.list eL;exact⟨_,ys,rfl,.inl sq,by rw[<- pr.1];exact ret _ _ _ _ _ Ext.refl aZ (.int _) q⟩
  .exact q.elim
 .exact q.elim
def Vb (t T:String):Bool:=t==T||(t == "bool"&&T == "int")
def dInst (T:String)(te:TDE):TDE:=λdl S Q=>te dl S λd S1=>match d with
 | .ref _=>False
 | .exc _=>False
 | .non=>Q (.bl (Vb "NoneType" T)) S1
 | .bl _=>Q (.bl (Vb "bool" T)) S1
 | .int _=>Q (.bl (Vb "int" T)) S1
 | .str _=>Q (.bl (Vb "str" T)) S1
 | .tup _=>Q (.bl (Vb "tuple" T)) S1
def Kit (K:Fg)(T:String):Prop:=∀t∈["NoneType","bool","int","str","tuple"],W.kitOne K (.type t) (.type T)=some (Vb t T)
def rInst (K:Fg):List V->Hp->VK->Prop:=λxs H Qv=>∃x T t b,xs=[x,.ty T]/\XA K H x t/\W.kitOne K t (.type T)=some b/\Qv (.bl b) H
theorem DN:Yr X (.builtin "isinstance") (rInst X.K):=by
 intro pins s σ H xs us Q I r h;obtain⟨x,T,t,b,rfl,ty,e,q⟩:=h;obtain⟨u,w',rfl,r1,r2⟩:=Hv r;cases r2;exact zhP I r1 ty e λtk=>⟨.bl b,H,I.tok tk,rfl,q⟩
theorem IZ (KT:Kit X.K T)(hg:Gl X "isinstance")(hm:X.mg "isinstance"=none)(hg2:Gl X y)(hm2:X.mg y=none)(hv2:bootBuiltins y=some (.type T))(ha:PD X Z e te)(hv:bootBuiltins "isinstance"=some (.builtin "isinstance"):=by exact PyProof.Rows.Boot.«isinstance»)(hn2:y≠"__name__":=by decide)(hd2:(y==("__debug__":Str))=false:=by decide)(he2:starEach [e,.Name y p2] X.env=(false,eval e X.env)::starEach [.Name y p2] X.env:=by rfl)(he3:starEach [.Name y p2] X.env=(false,eval (.Name y p2) X.env)::starEach [] X.env:=by rfl)(hpl:(backTo pos (starEach [.Name y p2] X.env)).any (·.1)=false:=by rfl):
  PD X Z (.Call (.Name "isinstance" p) [e,.Name y p2] [] pos) (dInst T te):=
 Z4 (Ir DN hg hm hv (Tn ha (Tn (AA (v:=.ty T) hg2 hm2 hv2 rfl hn2 hd2) LX he3) he2) (by decide) (by decide) he2 hpl) λσ H Qv ⟨r,dl,S,Q,rs,aZ,h,ret⟩=>
  ⟨r,dl,S,_,rs,aZ,h,λv H1 r1 d S1 e1 aB p1 h1=>by
   cases p1 with
   | non=>exact⟨_,T,_,_,rfl,.non,KT _ (by simp),ret _ _ _ _ _ e1 aB (.bl _) h1⟩
   | bl b=>exact⟨_,T,_,_,rfl,.bl b,KT _ (by simp),ret _ _ _ _ _ e1 aB (.bl _) h1⟩
   | int b=>exact⟨_,T,_,_,rfl,.int b,KT _ (by simp),ret _ _ _ _ _ e1 aB (.bl _) h1⟩
   | str b=>exact⟨_,T,_,_,rfl,.str b,KT _ (by simp),ret _ _ _ _ _ e1 aB (.bl _) h1⟩
   | tup e2 _ _=>exact⟨_,T,_,_,rfl,.tup e2,KT _ (by simp),ret _ _ _ _ _ e1 aB (.bl _) h1⟩
   | ref _=>exact(show False from h1).elim
   | exc _=>exact(show False from h1).elim⟩
end
section
variable {X:Cx}{Z:Zx}{st:Stmt}{Ym:List Stmt}{t u:TDS}{e:Expr}{te:TDE}{pos:Pos}
def dNext:TDS:=λE dl S=>E.nx dl S
def We (t u:TDS):TDS:=λE dl S=>t { nx:=λdl' S'=>u E dl' S',rt:=E.rt,bk:=E.bk,ct:=E.ct } dl S
theorem Zz:YE X Z [] dNext:=Bl za7 λF σ H ⟨r,dl,S,E,rs,aZ,h,ret⟩=>ret.nx σ H r dl S Ext.refl rs aZ h
theorem Zf (h1:PDS X Z st t)(h2:YE X Z Ym u):YE X Z (st::Ym) (We t u):=
 Bl (zhn h1 h2) λF σ H ⟨r,dl,S,E,rs,aZ,h,ret⟩=>⟨r,dl,S,_,rs,aZ,h,λσ' H' r' dl' S' x rs' rel' q=>⟨r',dl',S',E,rs',rel',q,ret.ext x⟩,ret.bk,ret.ct,ret.rt⟩
theorem Ze (h1:PDS X Z st t):YE X Z [st] t:=zb2 h1
def zf1:TDS:=λE dl S=>E.bk dl S
theorem zaQ:PDS X Z (.Break pos) zf1:=Yz AJ λF σ H ⟨r,dl,S,E,rs,aZ,h,ret⟩=>ret.bk σ H r dl S Ext.refl rs aZ h
def dDrop (te:TDE):TDS:=λE dl S=>te dl S λ_ S1=>E.nx dl S1
theorem Z9 (he:PD X Z e te)(hs:swapsWith e none pos.line X.env=pure false:=by rfl):PDS X Z (.Expr e pos) (dDrop te):=
 Yz (zbo he hs) λF σ H ⟨r,dl,S,E,rs,aZ,h,ret⟩=>⟨r,dl,S,_,rs,aZ,h,λv H1 r1 d S1 x aB p q=>ret.nx σ H1 r1 dl S1 x (rs.ext x) aB q⟩
def dRet (te:TDE):TDS:=λE dl S=>te dl S E.rt
theorem Zk (he:PD X Z e te):PDS X Z (.Return (some e) pos) (dRet te):=
 Yz (zeY he) λF σ H ⟨r,dl,S,E,rs,aZ,h,ret⟩=>⟨r,dl,S,_,rs,aZ,h,ret.rt⟩
def dRetN:TDS:=λE _ S=>E.rt .non S
theorem zfU:PDS X Z (.Return none pos) dRetN:=Yz zcU λF σ H ⟨r,dl,S,E,rs,aZ,h,ret⟩=>ret.rt _ _ _ _ _ Ext.refl aZ .non h
def dIf (c:TDT)(t u:TDS):TDS:=λE dl S=>c dl S λk S1=>if k=true then t E dl S1 else u E dl S1
theorem Zw (hc:PDT X Z c tc)(ha:YE X Z a t)(hb:YE X Z b u):PDS X Z (.If c a b pos) (dIf tc t u):=
 Yz (ps_if hc ha hb) λF σ H ⟨r,dl,S,E,rs,aZ,h,ret⟩=>⟨r,dl,S,_,rs,aZ,h,λk H1 r1 S1 x aB q=>by
  cases k with
  | true=>exact YU ⟨r1,dl,S1,E,rs.ext x,aB,(by simpa using q),ret.ext x⟩
  | false=>exact Yq ⟨r1,dl,S1,E,rs.ext x,aB,(by simpa using q),ret.ext x⟩⟩
def S7 (i:Nat)(te:TDE):TDS:=λE dl S=>te dl S λd S1=>E.nx (dl.set i (some d)) S1
theorem UI (hN:X.N.Nodup)(hi:X.N[i]?=some x)(hx:Loc X.env.scope x)(he:PD X Z e te)(hs:swapsWith e (some (.Name x pos')) pos.line X.env=pure false:=by rfl)(hf:X.fn x=true\/X.env.scope.names.lookup x=some .local:=by first|exact .inl rfl|exact .inr rfl|assumption):PDS X Z (.Assign [.Name x pos'] e pos) (S7 i te):=
 Yz (zbi hN hi hx he hs hf) λF σ H ⟨r,dl,S,E,rs,aZ,h,ret⟩=>⟨r,dl,S,_,rs,aZ,h,λv H1 r1 d S1 x aB p q=>ret.nx _ H1 r1 _ S1 x ((rs.ext x).set i p) aB q⟩
theorem Zl {i:Nat}{x:Str}{pos':Pos}(hN:X.N.Nodup)(he:PD X Z e te)(hi:X.N[i]?=some x:=by rfl)(hx:Loc X.env.scope x:=by exact Or.inl rfl)(hs:swapsWith e (some (.Name x pos')) pos.line X.env=pure false:=by rfl)
  (hf:X.fn x=true\/X.env.scope.names.lookup x=some .local:=by first|exact .inl rfl|exact .inr rfl|assumption):PDS X Z (.Assign [.Name x pos'] e pos) (S7 i te):=UI hN hi hx he hs hf
def zge (c:TDT)(tb:TDS):TDS:=λE dl S=>∃W:Nat->Ev->Sto->Prop,(∃m,W m dl S)/\∀m dl S,W m dl S->
 c dl S λk S1=>if k=true then tb { nx:=λdl' S'=>∃m',m'<m/\W m' dl' S',rt:=E.rt,bk:=E.nx,ct:=λdl' S'=>∃m',m'<m/\W m' dl' S' } dl S1 else E.nx dl S1
theorem Ew (hp:PassesOwn (model X.prog X.w) X.A X.env X.xe)(hc:PDT X Z c tc)(hb:YE X Z body tb):PDS X Z (.While c body [] pos) (zge tc tb):=
 Yz (zaN hp hc hb) λF σ H ⟨r,dl,S,E,rs,aZ,⟨W,⟨m0,w0⟩,turn⟩,ret⟩=>by
  refine⟨λm σ' H'=>∃r' dl' S',Ext r r' H H'/\Rs r' H' dl' σ'/\Rel X.K Z r' S' H'/\W m dl' S',⟨m0,r,dl,S,Ext.refl,rs,aZ,w0⟩,?_⟩;rintro m σ1 H1 ⟨r1,dl1,S1,x1,rs1,aB,w1⟩;refine⟨r1,dl1,S1,_,rs1,aB,turn m dl1 S1 w1,λk H2 r2 S2 x2 aC q2=>?_⟩;cases k with
  | true=>
   refine YU ⟨λσ' H'=>∃m',m'<m/\∃r' dl' S',Ext r r' H H'/\Rs r' H' dl' σ'/\Rel X.K Z r' S' H'/\W m' dl' S',λ_ _ z=>z,r2,dl1,S2,_,rs1.ext x2,aC,(by simpa using q2),?_⟩;have go:∀σ' H' r' dl' S',Ext r2 r' H2 H'->Rs r' H' dl' σ'->Rel X.K Z r' S' H'->(∃m',m'<m/\W m' dl' S')->∃m',m'<m/\∃r' dl' S',Ext r r' H H'/\Rs r' H' dl' σ'/\Rel X.K Z r' S' H'/\W m' dl' S':=
    λσ' H' r' dl' S' x rs' rel' ⟨m',hm,w'⟩=>⟨m',hm,r',dl',S',x1.trans (x2.trans x),rs',rel',w'⟩
   exact⟨go,λσ' H' r' dl' S' x rs' rel' q=>ret.nx σ' H' r' dl' S' (x1.trans (x2.trans x)) rs' rel' q,go,ret.rt.ext (x1.trans x2)⟩
  | false=>exact Yq (ret.nx σ1 H2 r2 dl1 S2 (x1.trans x2) (rs1.ext x2) aC (by simpa using q2))
def dFor (i:Nat)(tl:TDE)(tb:TDS):TDS:=λE dl S=>tl dl S λd S1=>match d with
 | .ref n=>(lAt S1 n).isSome=true/\∃W:Nat->Nat->Ev->Sto->Prop,(∃m,W 0 m dl S1)/\∀k m dl S,W k m dl S->match lAt S n with
  | some o=>match (Zo o)[k]? with
   | some x=>tb { nx:=λdl' S'=>∃m',m'<m/\W (k+1) m' dl' S',rt:=E.rt,bk:=E.nx,ct:=λdl' S'=>∃m',m'<m/\W (k+1) m' dl' S' } (dl.set i (some x)) S
   | none=>E.nx dl S
  | none=>False
 | _=>False
theorem W7 (hp:PassesOwn (model X.prog X.w) X.A X.env X.xe)(hc:X.calm=true)(hN:X.N.Nodup)(hi:X.N[i]?=some x)(hx:Loc X.env.scope x)(hl:PD X Z aU tl)(hb:YE X Z body tb)(hf:X.fn x=true\/X.env.scope.names.lookup x=some .local:=by first|exact .inl rfl|exact .inr rfl|assumption)(hs:∀y,foldedSetIterable aU X.env y=pure y:=by intro _;rfl):PDS X Z (.For (.Name x pos') aU body [] pos) (dFor i tl tb):=
 Yz (SO hp hc (J9 hl) (U9 hN hi hx hf) hb hs) λF σ H ⟨r,dl,S,E,rs,aZ,h,ret⟩=>by
  refine⟨r,dl,S,_,rs,aZ,h,λv H1 r1 d S1 x1 aB p1 q1=>?_⟩;cases p1 with
  | @ref n a hn=>
   obtain⟨aQ,W,⟨m0,w0⟩,turn⟩:=q1;have sql:∀ {r':List Addr} {S':Sto} {H':Hp} {o:Ob},Ext r1 r' H1 H'->Rel X.K Z r' S' H'->lAt S' n=some o->∃xs,SqL X.K H' a xs/\Rps r' H' (Zo o) xs:=λ{r' S' H' o} x' rel' eo=>by
    obtain⟨eo,eL⟩:=YY eo;obtain⟨a',ha,ob⟩:=rel'.at eo;rw[x'.adr n a hn] at ha;cases ha
    exact ob.list eL
   obtain⟨o1,eo1⟩:=yO.mp aQ;obtain⟨xs1,sq1,_⟩:=sql Ext.refl aB eo1;refine⟨a,rfl,⟨xs1,sq1⟩,λk m σ' H'=>∃r' dl' S',Ext r1 r' H1 H'/\Rs r' H' dl' σ'/\Rel X.K Z r' S' H'/\W k m dl' S',⟨m0,r1,dl,S1,Ext.refl,rs.ext x1,aB,w0⟩,?_⟩;rintro k m σ2 H2 ⟨r2,dl2,S2,x2,rs2,aC,w2⟩;have q:=turn k m dl2 S2 w2;split at q
   .rename_i o eo;obtain⟨xs,sq,pr⟩:=sql x2 aC eo;split at q
    .rename_i y ey;obtain⟨v,hv,pv⟩:=pr.get ey;have go:∀ {r3:List Addr} {H3:Hp},Ext r2 r3 H2 H3->∀σ' H' r' dl' S',Ext r3 r' H3 H'->Rs r' H' dl' σ'->Rel X.K Z r' S' H'->(∃m',m'<m/\W (k+1) m' dl' S')->∃m',m'<m/\∃r' dl' S',Ext r1 r' H1 H'/\Rs r' H' dl' σ'/\Rel X.K Z r' S' H'/\W (k+1) m' dl' S':=
      λ{r3 H3} x3 σ' H' r' dl' S' x rs' rel' ⟨m',hm,w'⟩=>⟨m',hm,r',dl',S',x2.trans (x3.trans x),rs',rel',w'⟩
     refine .inr ⟨⟨xs,v,sq,hv⟩,λσ' H'=>∃m',m'<m/\∃r' dl' S',Ext r1 r' H1 H'/\Rs r' H' dl' σ'/\Rel X.K Z r' S' H'/\W (k+1) m' dl' S',λ_ _ z=>z,λv' H' y'=>?_⟩;obtain⟨eH,y'⟩:=y';subst eH;have ev:v'=v:=by
      have z:=y' xs sq;rw[hv] at z;exact(Option.some.inj z).symm
     subst ev;exact⟨r2,_,S2,_,rs2.set i pv,aC,q,go Ext.refl,λσ' H' r' dl' S' x rs' rel' z=>ret.nx σ' H' r' dl' S' (x1.trans (x2.trans x)) rs' rel' z,go Ext.refl,ret.rt.ext (x1.trans x2)⟩
    .rename_i ey;have aM:(Zo o).length<=k:=yP.mp ey;exact .inl ⟨⟨xs,sq,by rw[<- pr.1];exact aM⟩,ret.nx σ2 H2 r2 dl2 S2 (x1.trans x2) rs2 aC q⟩
   .exact q.elim
  | _=>exact(show False from q1).elim
def dForR (i:Nat)(ta:TDA)(tb:TDS):TDS:=λE dl S=>ta dl S λds S1=>match ds with
 | [.int j]=>(-(2^62)<=j/\j<2^62)/\∃W:Nat->Ev->Sto->Prop,W 0 dl S1/\∀k dl S,W k dl S->
   if k<j.toNat then tb { nx:=λdl' S'=>W (k+1) dl' S',rt:=E.rt,bk:=E.nx,ct:=λdl' S'=>W (k+1) dl' S' } (dl.set i (some (.int k))) S else E.nx dl S
 | _=>False
theorem Om (hp:PassesOwn (model X.prog X.w) X.A X.env X.xe)(hc:X.calm=true)(hN:X.N.Nodup)(hi:X.N[i]?=some x)(hx:Loc X.env.scope x)(hg:Gl X "range")(hm:X.mg "range"=none)(ha:PDA X Z [a] ta)(hb:YE X Z body tb)(hf:X.fn x=true\/X.env.scope.names.lookup x=some .local:=by first|exact .inl rfl|exact .inr rfl|assumption)(hs:∀y,foldedSetIterable (.Call (.Name "range" p) [a] [] pos) X.env y=pure y:=by intro _;rfl)(hst:starEach [a] X.env=[(false,eval a X.env)]:=by rfl):
  PDS X Z (.For (.Name x pos') (.Call (.Name "range" p) [a] [] pos) body [] aK) (dForR i ta tb):=
 Yz (SO hp hc (HW hg hm ha hst) (U9 hN hi hx hf) hb hs) λF σ H ⟨r,dl,S,E,rs,aZ,h,ret⟩=>by
  refine⟨r,dl,S,_,rs,aZ,h,λvs H1 r1 ds S1 x1 aB p1 q1=>?_⟩;split at q1
  .rename_i j;obtain⟨v,vs',rfl,p2,p3⟩:=p1.uncons;have z:=p3.unnil;subst z;cases p2;obtain⟨⟨b1,b2⟩,W,w0,turn⟩:=q1;refine⟨j,rfl,b1,b2,λk m σ' H'=>m=j.toNat-k/\∃r' dl' S',Ext r1 r' H1 H'/\Rs r' H' dl' σ'/\Rel X.K Z r' S' H'/\W k dl' S',⟨j.toNat,by simp,r1,dl,S1,Ext.refl,rs.ext x1,aB,w0⟩,?_⟩;rintro k m σ2 H2 ⟨em,r2,dl2,S2,x2,rs2,aC,w2⟩;have q:=turn k dl2 S2 w2;split at q
   .rename_i hk;have go:∀σ' H' r' dl' S',Ext r2 r' H2 H'->Rs r' H' dl' σ'->Rel X.K Z r' S' H'->W (k+1) dl' S'->∃r' dl' S',Ext r1 r' H1 H'/\Rs r' H' dl' σ'/\Rel X.K Z r' S' H'/\W (k+1) dl' S':=
     λσ' H' r' dl' S' x rs' rel' w'=>⟨r',dl',S',x2.trans x,rs',rel',w'⟩
    have pk:Rp r2 H2 (.int (k:Int)) (.int (0+(k:Int))):=by rw[Int.zero_add];exact .int _
    refine .inr ⟨hk,λσ' H'=>∃r' dl' S',Ext r1 r' H1 H'/\Rs r' H' dl' σ'/\Rel X.K Z r' S' H'/\W (k+1) dl' S',λσ' H' z=>⟨j.toNat-(k+1),by omega,rfl,z⟩,λv' H' y'=>?_⟩;obtain⟨eH,y'⟩:=y';subst eH;subst y';exact⟨r2,_,S2,_,rs2.set i pk,aC,q,go,λσ' H' r' dl' S' x rs' rel' z=>ret.nx σ' H' r' dl' S' (x1.trans (x2.trans x)) rs' rel' z,go,ret.rt.ext (x1.trans x2)⟩
   .rename_i hk;exact .inl ⟨by show j.toNat<=k;omega,ret.nx σ2 H2 r2 dl2 S2 (x1.trans x2) rs2 aC q⟩
  .exact q1.elim
end
def XG (N:List Str)(ds:List D):Ev:=ds.map some++List.replicate (N.length-ds.length) none
theorem Dk {r:List Addr}{H:Hp}{N:List Str}{ds:List D}{vs:List V}(h:Rps r H ds vs):Rs r H (XG N ds) (L2.X0 N vs):=by
  refine⟨by simp[XG,L2.X0,h.1],λi d e=>?_⟩;unfold XG at e;by_cases hi:i<ds.length
  · rw[zI (by simpa using hi),zF] at e
    cases q:ds[i]? with
    | none=>
   rw[q] at e;cases e
    | some z=>
      rw[q] at e;cases e;obtain⟨v,hv,pv⟩:=h.get q;refine⟨v,?_,pv⟩;unfold L2.X0;rw[zI (by simpa [h.1] using hi),zF,hv];rfl
  · rw[yB (by simpa using hi),List.getElem?_replicate] at e
    split at e<;>cases e
section
variable {P:Program}{w:World}{K:Fg}{mg:Str->Option Value}{base:Heap}
abbrev Z0:Zx:=Zc (λ_ _=>False) (λ_ _ _=>False)
theorem YC:Wa X Z0.w:=λ_ _ _ _ _ _ _ h=>by
 obtain⟨_,_,_,_,_,_,_,_,_,_,_,_,q⟩:=h;exact q.elim
theorem UC {x qual:Str}{st:Stmt}{f:Addr}{fd:FuncData}{N ps:List Str}{k:Nat}{sd:Sd}(F:Fun K x qual st f fd)(Sc:Zm N ps (Zj st))(len:∀ds S Q ex,sd ds S Q ex->ds.length=ps.length)
  (hbody:∀(cdv:Value)(A:Around)(outer:List Env)(s:Shared)(H:Hp)(E:XK),ZP k (A.deeper (envOfC qual (Zj st) s.heap.objs.size f cdv))->
   ∃t,YE (X6 (CXE P w) P w K mg base N qual (Zj st) f cdv A outer s H E).nox Z0 (Xa st) t/\∀ds S Q ex,sd ds S Q ex->t { nx:=λ_ S'=>Q .non S',rt:=Q } (XG N ds) S):Yc P w K mg base (CXE P w) (k+1) f fd ps (upF K sd):=by
 obtain⟨oc,od,kV,doc,pm,an,cdv,ct,osl,rfl,lk,hcd⟩:=F.ex;refine JC lk hcd Sc (λvs H Q E h=>?_) λA outer s H vs Q E hr h=>?_
 .obtain⟨ex,r,S,ds,Q',aZ,p,q,ret⟩:=h;rw[<- p.1];exact len ds S Q' ex q
 .obtain⟨ex,r,S,ds,Q',aZ,p,q,ret⟩:=h;obtain⟨t,ht,hq⟩:=hbody cdv A outer s H E hr;have back:∀ {H':Hp} {r':List Addr} {S':Sto},Ext r r' H H'->Rel K Z0 r' S' H'->Rel K (Zc ex E) r' S' H':=λx rel'=>⟨rel'.b,aZ.xw.ext x⟩
  refine⟨upS K Z0 t,ht.nox,r,XG N ds,S,_,Dk p,⟨aZ.b,λ_ _ _ _ _ _ _ _ _ z=>z.elim⟩,hq ds S Q' ex q,?_,?_,?_,?_⟩
  .intro σ' H' r' dl' S' x _ rel' z;exact ret .non H' r' .non S' x (back x rel') .non z
  .intro σ' H' r' dl' S' x _ rel' z;exact z
  .intro σ' H' r' dl' S' x _ rel' z;exact z
  .intro v H' r' d S' x rel' p' z;exact ret v H' r' d S' x (back x rel') p' z
end
open PySem
def Sz (n:Nat)(i:Int):Prop:=i.natAbs<2^n
theorem Sz.mono (h:Sz m i)(hn:m<=n):Sz n i:=zR h (Nat.pow_le_pow_right (by decide) hn)
theorem Sz.bits (h:Sz n i):Builtin.Int.intBits i<=n:=by
 unfold Builtin.Int.intBits;split
 .exact zP _
 .rename_i hz;have hp:i.natAbs≠0:=by
   intro z;have z2:i=0:=by omega
   simp[z2] at hz
  have:=(Nat.log2_lt hp).mpr h;omega
theorem ZF (hi:Sz m i)(hj:Sz n j)(hm:m<=1048576:=by decide)(hn:n<=1048576:=by decide):IntMulOk i j:=by
 have e20:(2:Nat)^20=1048576:=by decide
 exact IntMulOk.of_bits (yD hi.bits (by omega)) (yD hj.bits (by omega))
theorem Sz.of {n:Nat}{i:Int}(m:Nat)(h:i.natAbs<=m)(hm:m<2^n:=by decide):Sz n i:=Nat.lt_of_le_of_lt h hm
theorem Sz.mul (hi:Sz m i)(hj:Sz n j):Sz (m+n) (i*j):=by
 unfold Sz at *
 rw[Nat.pow_add,Int.natAbs_mul];exact Nat.mul_lt_mul'' hi hj
theorem Sz.add (hi:Sz m i)(hj:Sz n j):Sz (max m n+1) (i+j):=by
 have h1:Sz (max m n) i:=hi.mono (Nat.le_max_left _ _)
 have h2:Sz (max m n) j:=hj.mono (Nat.le_max_right _ _);unfold Sz at *
 have e:(2:Nat)^(max m n+1)=2^max m n+2^max m n:=by rw[Nat.pow_succ];omega
 rw[e];have:=Int.natAbs_add_le i j;omega
theorem Sz.neg (hi:Sz m i):Sz m (-i):=by
 unfold Sz at *
 rw[Int.natAbs_neg];exact hi
theorem Sz.sub (hi:Sz m i)(hj:Sz n j):Sz (max m n+1) (i-j):=by
 rw[Int.sub_eq_add_neg];exact hi.add hj.neg
theorem Sz.log (h:Sz n i)(hi:i≠0)(hn:n<=9000:=by decide):i.natAbs.log2<9000:=by
 have:=(Nat.log2_lt (by omega:i.natAbs≠0)).mpr h;omega
theorem Sz.fd {n:Nat}{i:Int}(h:Sz n i)(hi:0<i)(hn:n<=9000:=by decide):0<i/\i.natAbs.log2<9000:=⟨hi,h.log (by omega) hn⟩
theorem XF {a b:Int}(hb:0<b):0<=a%b/\a%b<b:=⟨Int.emod_nonneg _ (by omega),Int.emod_lt_of_pos _ hb⟩
example (x:Int):-(10^40)<=x%(2*10^40+1)-10^40:=by omega
example (x:Int):x%(2*10^40+1)-10^40<=10^40:=by omega
example (x:Int) (h:-(10^40)<=x) (h2:x<=2*10^41):Sz 140 x:=Sz.of (2*10^41) (by omega)
theorem zaS (a b:Int):Int.gcd b (a%b)=Int.gcd a b:=by
 rw[Int.emod_def,show a-b*(a/b)=a-(a/b)*b by rw[Int.mul_comm],Int.gcd_sub_mul_right_right,Int.gcd_comm]
def WT (i:Int):Int:=if i<0 then -i else i
theorem ET (i:Int):0<=WT i:=by unfold WT;split<;>omega
theorem ze1 (a b:Int):Int.gcd (WT a) (WT b)=Int.gcd a b:=by
 have h:∀i:Int,(WT i).natAbs=i.natAbs:=λi=>by unfold WT;split<;>omega
 unfold Int.gcd;rw[h,h]
theorem LF (m:Int)(hg:0<g):m/g*g<=m/\m<(m/g+1)*g:=by
 have h1:=Int.emod_add_mul_ediv m g
 have h2:=Int.emod_nonneg m (show g≠0 by omega)
 have h3:=Int.emod_lt_of_pos m hg
 have e:(m/g+1)*g=g*(m/g)+g:=by grind
 have e2:m/g*g=g*(m/g):=Int.mul_comm _ _;omega
theorem E2 (m:Int)(hg:0<g):m<=-(-m/g)*g/\(-(-m/g)-1)*g<m:=by
 obtain⟨h1,h2⟩:=LF (-m) hg;have e1:-(-m/g)*g=-(-m/g*g):=by rw[xC]
 have e2:(-(-m/g)-1)*g=-((-m/g+1)*g):=by grind
 omega
def wIf (C:Int->Int->Bool)(g:Int->Int->D):W2:=λx y S Q=>match x,y with
 | .int i,.int j=>if C i j=true then Q (g i j) S else False
 | _,_=>False
theorem opIf (h:OpR X f (upO X.K Z (wI C g)))(hc:∀i j,C' i j=true->C i j):OpR X f (upO X.K Z (wIf C' g)):=
 UA h λx y H Qv ⟨r,S,dx,dy,Q,aZ,px,py,q,ret⟩=>⟨r,S,dx,dy,Q,aZ,px,py,by
  unfold wIf at q;split at q
  .obtain⟨h1,h2⟩:=L5 q;exact⟨hc _ _ h1,h2⟩
  .exact q.elim,ret⟩
def NC (_ j:Int):Bool:=decide (0<j)&&decide (j<1073741824)
abbrev zfH:W2:=wIf NC λi j=>.int (i/j)
abbrev wModL:W2:=wIf NC λi j=>.int (i%j)
def powB (i j:Int):Bool:=decide (0<=j)&&decide (j<=1000)&&decide (-1000<i)&&decide (i<1000)
abbrev wPowL:W2:=wIf powB λi j=>.int (i^j.toNat)
theorem D2 (h:NC i j=true):0<j/\j<1073741824:=by
 unfold NC at h;simpa using h
theorem YK:OpR X (binaryOp .FloorDiv) (upO X.K Z zfH):=opIf Xx λi j h=>by
 obtain⟨h1,h2⟩:=D2 h;refine⟨h1,?_⟩;have:j.natAbs.log2<30:=(Nat.log2_lt (by omega)).mpr (by omega);omega
theorem Yg:OpR X (binaryOp .Mod) (upO X.K Z wModL):=opIf XT λi j h=>(D2 h).1
theorem TQ:OpR X (binaryOp .Pow) (upO X.K Z wPowL):=opIf ze0 λi j h=>by
 unfold powB at h;simp at h;refine⟨h.1.1.1,by have:=h.1.1.2;omega,?_⟩;have h3:=h.1.2
 have h4:=h.2
 have big:(18446744073709551616:Nat)=2^64:=by decide
 omega
structure Df (K:Fg)(mg:Str->Option Value)(x:Str)(st:Stmt)(ps:List Str) where
 f:Addr
 fd:FuncData
 F:Fun K x x st f fd
 m:mg x=some (.ref f)
 b:YB K fd ps []
structure Fk (P:Program)(w:World)(K:Fg)(mg:Str->Option Value)(base:Heap)(k:Nat)(x:Str)(ps:List Str)(sd:Sd) where
 f:Addr
 fd:FuncData
 ok:Yc P w K mg base (CXE P w) k f fd ps (upF K sd)
 m:mg x=some (.ref f)
 kp:W.keepIn K (.ref f)=true
 b:YB K fd ps []
def Df.mk' {P:Program}{w:World}{K:Fg}{mg:Str->Option Value}{base:Heap}{k:Nat}{x:Str}{st:Stmt}{ps:List Str}{sd:Sd}(d:Df K mg x st ps)(h:Yc P w K mg base (CXE P w) k d.f d.fd ps (upF K sd)):Fk P w K mg base k x ps sd:=
 ⟨d.f,d.fd,h,d.m,d.F.kp,d.b⟩
theorem F6 (G:Fk X.prog X.w X.K X.mg X.base k x ps sd)(hr:ZP k X.A)(hx:Wa X W)(hg:Gl X x)(ha:PDA X ⟨ex,W⟩ (e::es) t)(hdb:(x==("__debug__":Str))=false:=by decide)(he:starEach (e::es) X.env=(false,eval e X.env)::starEach es X.env:=by rfl)(hpl:(backTo pos (starEach es X.env)).any (·.1)=false:=by rfl):
  PD X ⟨ex,W⟩ (.Call (.Name x p) (e::es) [] pos) (G1 ex sd t):=zht G.ok hr hg G.m G.kp G.b hx ha hdb he hpl
theorem zbh {st:Stmt}:PDS X Z st (λ_ _ _=>False):=Yz zdP λF σ H ⟨_,_,_,_,_,_,h,_⟩=>h
theorem zb7 {r:List Addr}{H:Hp}(ns:List Int):Rps r H (ns.map D.int) (ns.map V.int):=by
 refine⟨by simp,λi d v h1 h2=>?_⟩;rw[zF] at h1 h2;cases q:ns[i]? with
 | none=>rw[q] at h1;cases h1
 | some z=>
  rw[q] at h1 h2;cases h1;cases h2;exact .int z
theorem zd0 (K:Fg)(T:String)(h:T∈["int","bool","tuple","str"]):Kit K T:=by
 intro t ht;simp only[zO,yT,or_false] at h ht;rcases h with rfl|rfl|rfl|rfl<;>rcases ht with rfl|rfl|rfl|rfl|rfl<;>kernel_rfl
theorem ifF {c:Bool}{A B:Prop}(h:c=false)(b:B):if c=true then A else B:=by rw[h];exact Yq b
theorem ifP {c A B:Prop} [Decidable c] (h:c)(a:A):if c then A else B:=by rw[if_pos h];exact a
theorem ifD {c:Prop} [Decidable c] {A B:Prop}(h1:c->A)(h2:¬ c->B):if decide c=true then A else B:=by
 by_cases h:c
 .rw[decide_eq_true h];exact YU (h1 h)
 .rw[decide_eq_false h];exact Yq (h2 h)
open PySem L2
open PySem L2
theorem Sz.pow (h:Sz n i)(k:Nat):Sz (n*k+1) (i^k):=by
 unfold Sz at *
 rw[Int.natAbs_pow,Nat.pow_succ,Nat.pow_mul];have h1:i.natAbs^k<=(2^n)^k:=Nat.pow_le_pow_left (yM h) k
 have h2:0<(2^n)^k:=yE (yE (by decide));omega
theorem ifN {c:Prop} [Decidable c] {A B:Prop}(h1:¬ c->A)(h2:c->B):if (!decide c)=true then A else B:=by
 by_cases h:c
 .rw[decide_eq_true h];exact L2.Yq (h2 h)
 .rw[decide_eq_false h];exact L2.YU (h1 h)
section
variable {X:Cx}{Z:Zx}
end
structure UP (k:Nat)(A:Around):Prop where
 dp:A.depth+3*k+5<recursionLimit
 un:A.units+16*k+200<cLine
theorem UP.mono (r:UP k A)(h:j<=k):UP j A:=⟨by have:=r.dp;omega,by have:=r.un;omega⟩
theorem UP.deeper {k:Nat}{A:Around}(r:UP (k+1) A)(env:Env):UP k (A.deeper env):=
 ⟨by have:=r.dp;show A.depth+1+3*k+5<_;omega,by have:=r.un;show A.units+3+16*k+200<_;omega⟩
structure FnOkN (P:Program)(w:World)(K:Fg)(mg:Str->Option Value)(base:Heap)(k:Nat)(f:Addr)(fd:FuncData)(ps:List Str)(sp:Sp):Prop where
 len:∀vs H Q E,sp vs H Q E->vs.length=ps.length
 run:∀(A:Around)(outer:List Env)(s:Shared)(H:Hp)(args:Args)(us:List Value)(vs:List V)(Q:VK)(E:XK),UP k A->VU P w K mg base A outer s H->BindsTo s fd args (ps.zip us)->ZC vs us->sp vs H Q E->
  codeAny (model P w) A (.call (.ref f) args) (CR (CXE P w) outer P w H s Q E) s
section
variable {X:Cx}{k:Nat}{f:Addr}{fd:FuncData}{ps:List Str}{sp:Sp}{W:St->XK}{x:Str}{p pos:Pos}{e:Expr}{es:List Expr}{t:TA}
end
section
variable {X:Cx}{Z:Zx}{x:Str}{p pos:Pos}{e:Expr}{es:List Expr}{t:TDA}
end
section
variable {P:Program}{w:World}{K:Fg}{mg:Str->Option Value}{base:Heap}
end
structure FkN (P:Program)(w:World)(K:Fg)(mg:Str->Option Value)(base:Heap)(k:Nat)(x:Str)(ps:List Str)(sd:Sd) where
 f:Addr
 fd:FuncData
 ok:FnOkN P w K mg base k f fd ps (upF K sd)
 m:mg x=some (.ref f)
 kp:W.keepIn K (.ref f)=true
 b:YB K fd ps []
theorem Mc {r:List Addr}{H:Hp}{a:Addr}{o:HO}(h:H a=none):Ext r r H (upd H a o):=⟨λ_ _ q=>q,λ_ _ q=>X2 h _ _ q,λ_ _ q=>X2 h _ _ q⟩
open PySem.W in
abbrev VE:List Value:=[.type "ValueError",.type "Exception",.type "BaseException",.type "object"]
structure Ec (K:Fg)(mg:Str->Option Value)(x:Str) where
 c:Addr
 xc:Xc K mg x c VE "ValueError.__new__"
theorem qt {Q:DK}{S:Sto}{b:Bool}(e:b=true)(h:Q (.bl true) S):Q (.bl b) S:=by rw[e];exact h
theorem Sz.div (h:Sz n i)(hj:1<=j):Sz n (i/j):=by
 refine Nat.lt_of_le_of_lt ?_ h;obtain⟨h1,h2⟩:=LF i (show 0<j by omega);by_cases q:0<=i/j
 .have:=Int.mul_le_mul_of_nonneg_left hj q;omega
 .have:=Int.mul_le_mul_of_nonneg_left hj (show 0<=-(i/j+1) by omega)
  have e:-(i/j+1)*j=-((i/j+1)*j):=xC _ _;omega
inductive Sco (n:Nat):D->Prop
 | non:Sco n .non
 | bl (b:Bool):Sco n (.bl b)
 | int (i:Int):Sco n (.int i)
 | str (x:Str):Sco n (.str x)
 | tup {ds:List D}:(∀d∈ds,Sco n d)->Sco n (.tup ds)
 | ref {m:Nat}:m<n->Sco n (.ref m)
 | exc (c:Addr):Sco n (.exc c)
theorem Rp.sco {r:List Addr}{H:Hp}{d:D}{v:V}(h:Rp r H d v):Sco r.length d:=by
 induction h with
 | non=>exact .non
 | bl b=>exact .bl b
 | int i=>exact .int i
 | str x=>exact .str x
 | @tup ds xs a _ l _ ih=>
  refine .tup λd hd=>?_
  obtain⟨i,hi,e⟩:=yL.mp hd;exact ih i d xs[i] (by simp[hi,e]) (by simp[l ▸ hi])
 | ref h=>exact .ref (zB.mp h).1
 | exc _=>exact .exc _
theorem Rp.low {r r':List Addr}{H:Hp}{d:D}{v:V}(h:Rp r' H d v)(low:∀m a,m<r.length->r'[m]?=some a->r[m]?=some a)(s:Sco r.length d):Rp r H d v:=by
 induction h with
 | non=>exact .non
 | bl b=>exact .bl b
 | int i=>exact .int i
 | str x=>exact .str x
 | tup e l f ih=>
  cases s with
  | tup s=>exact .tup e l λi d v h1 h2=>ih i d v h1 h2 (s d (zE h1))
 | ref h=>
  cases s with
  | ref s=>exact .ref (low _ _ s h)
 | exc h=>exact .exc h
def Pre (S S':Sto):Prop:=∀(n:Nat)(o:Ob),S[n]?=some o->S'[n]?=some o
theorem Pre.refl {S:Sto}:Pre S S:=λ_ _ h=>h
theorem Pre.push {S S':Sto}{o:Ob}(h:Pre S S'):Pre S (S'++[o]):=λn u e=>by
 have z:=h n u e;rw[zI (zB.mp z).1];exact z
theorem Pre.trans {S S' S2:Sto}(h:Pre S S')(k:Pre S' S2):Pre S S2:=λn o e=>k n o (h n o e)
theorem G9 {r r':List Addr}{H H':Hp}(e:Ext r r' H H'):∀m a,m<r.length->r'[m]?=some a->r[m]?=some a:=λm a hm h=>by
 have z:r[m]?=some r[m]:=by simp[hm]
 rw[e.adr _ _ z] at h;rw[z];exact h
theorem ZZ.low {K:Fg}{r r':List Addr}{S S':Sto}{H H':Hp}(h:ZZ K r S H)(e:Ext r r' H H')(h':ZZ K r' S' H')(p:Pre S S'):ZZ K r S H':=by
 have rl:∀ {ds:List D} {xs ys:List V},Rps r H ds xs->Rps r' H' ds ys->Rps r H' ds ys:=λ{ds xs ys} a b=>⟨b.1,λi d v h1 h2=>by
  obtain⟨v0,_,q⟩:=a.get h1;exact(b.2 i d v h1 h2).low (G9 e) q.sco⟩
 refine⟨h.len,λn a o h1 h2=>?_,λn m a xs ys h1 h2 h3 h4 o1 o2=>h'.nd n m a xs ys (e.adr _ _ h1) (e.adr _ _ h2) (p _ _ h3) (p _ _ h4) o1 o2⟩;have q:=h.ob n a o h1 h2
 have q':=h'.ob n a o (e.adr _ _ h1) (p _ _ h2);cases o with
 | lst ds=>
  obtain⟨xs,_,a1⟩:=q;obtain⟨ys,b0,b1⟩:=q';exact⟨ys,b0,rl a1 b1⟩
 | frz ds=>
  obtain⟨xs,_,a1⟩:=q;obtain⟨ys,b0,b1⟩:=q';exact⟨ys,b0,rl a1 b1⟩
 | ins C fs=>
  obtain⟨_,_,_,a1⟩:=q;obtain⟨dx,fs',b0,b1⟩:=q';exact⟨dx,fs',b0,b1.1,rl a1.2 b1.2⟩
 | dct aV=>
  obtain⟨_,_,a1⟩:=q;obtain⟨ks,b0,b1⟩:=q';exact⟨ks,b0,b1.1,rl a1.2 b1.2⟩
 | dck aV=>
  obtain⟨_,_,a1⟩:=q;obtain⟨ks,b0,b1⟩:=q';exact⟨ks,b0,b1.1,rl a1.2 b1.2⟩
 | tpl ws=>exact q'
 | cod P pos q0=>exact q'
def Gc (S:Sto)(Q:DK):DK:=λd S'=>Pre S S'/\Sco S.length d/\Q d S
def GcX (S:Sto)(ex:Addr->Sto->Prop):Addr->Sto->Prop:=λc S'=>Pre S S'/\ex c S
theorem Ret.gc {K:Fg}{Z Z':Zx}{r:List Addr}{S:Sto}{H:Hp}{Q:DK}{Qv:VK}(h:Ret K Z r H Q Qv)(aZ:Rel K Z r S H):Ret K Z' r H (Gc S Q) Qv:=λv H' r' d S' e rel' p q=>by
 obtain⟨pre,sc,q⟩:=q;have e':Ext r r H H':=⟨λ_ _ z=>z,e.tup,e.xc⟩;rw[<- aZ.len] at sc;exact h v H' r d S e' ⟨aZ.b.low e rel'.b pre,aZ.xw.ext e'⟩ (p.low (G9 e) sc) q
theorem UE.gc {K:Fg}{ex:Addr->Sto->Prop}{E:XK}{r:List Addr}{S:Sto}{H:Hp}(aZ:Rel K (Zc ex E) r S H):UE K (Zc (GcX S ex) E) r H:=λdl σ c H' r' S' e _ rb q=>by
 obtain⟨pre,q⟩:=q;have e':Ext r r H H':=⟨λ_ _ z=>z,e.tup,e.xc⟩;exact aZ.xw [] [] c H' r S e' ⟨rfl,λi d z=>by simp at z⟩ (aZ.b.low e rb pre) q
section
variable {P:Program}{w:World}{K:Fg}{mg:Str->Option Value}{base:Heap}
def gcS (sd:Sd):Sd:=λds S Q ex=>∃Q0 ex0,Q=Gc S Q0/\ex=GcX S ex0/\sd ds S Q0 ex0
theorem fn_gc (h:Yc P w K mg base CX k f fd ps (upF K (gcS sd))):Yc P w K mg base CX k f fd ps (upF K sd):=by
 have imp:∀vs H Q E,upF K sd vs H Q E->upF K (gcS sd) vs H Q E:=λvs H Qv E ⟨ex,r,S,ds,Q,aZ,p,q,ret⟩=>
  ⟨GcX S ex,r,S,ds,Gc S Q,⟨aZ.b,UE.gc aZ⟩,p,⟨Q,ex,rfl,rfl,q⟩,ret.gc aZ⟩
 obtain⟨h1,h2⟩:=h;exact⟨λvs H Q E q=>h1 vs H Q E (imp vs H Q E q),λA outer s H args us vs Q E hr e0 hb rv q=>h2 A outer s H args us vs Q E hr e0 hb rv (imp vs H Q E q)⟩
end
theorem zgt (len:∀ds S Q ex,sd ds S Q ex->ds.length=n):∀ds S Q ex,gcS sd ds S Q ex->ds.length=n:=λds S Q ex h=>by
 obtain⟨Q0,ex0,_,_,h⟩:=h;exact len _ _ _ _ h
structure Vp (sc around:Scope)(x:Str)(caps:List Str):Prop where
 kind:sc.kind=.function
 nocell:∀y∈sc.names,y.2≠.cell
 own:∀y∈sc.names,y.2=.local->sc.names.lookup y.1=some .local
 loc:sc.names.lookup x=some .local
 cap:∀y∈caps,sc.names.lookup y=some .free
 out:∀y∈sc.names,y.2=.free->around.names.lookup y.1=some .cell
theorem U6 {α:Type}{y:Str}{v:α}:∀ {l:List (Str×α)},l.lookup y=some v->(y,v)∈l
 | [],h=>by simp at h
 | (n,k)::r,h=>by
  cases e:y==n with
  | true=>
   rw[zV,e] at h;have z:k=v:=Option.some.inj h
   have z2:y=n:=by simpa using e
   rw[z,z2];exact yR
  | false=>
   rw[zV,e] at h;exact yH _ (U6 h)
theorem HG:∀(l:List (Str×NameKind))(acc:List (Str×Addr)),(∀y∈l,y.2=.free->∃c,env.cells.lookup y.1=some c)->(∀x c,acc.lookup x=some c->env.cells.lookup x=some c)->
  ∃cl,(forIn l acc λx r=>(if (x.2==NameKind.free)=true then do let a <- cellOf env x.1;pure (ForInStep.yield ((x.1,a)::r)) else pure (ForInStep.yield r):Sem (ForInStep (List (Str×Addr)))))=pure cl/\
   (∀x c,cl.lookup x=some c->env.cells.lookup x=some c)/\(∀y∈l,y.2=.free->cl.lookup y.1=env.cells.lookup y.1)/\∀x c,acc.lookup x=some c->∃c',cl.lookup x=some c'
 | [],acc,_,ha=>⟨acc,by simp,ha,λy hy=>(by cases hy),λx c e=>⟨c,e⟩⟩
 | (n,k)::r,acc,h,ha=>by
  cases hk:(k==NameKind.free) with
  | false=>
   obtain⟨cl,h1,h2,h3,h4⟩:=HG r acc (λy hy=>h y (yH _ hy)) ha;refine⟨cl,?_,h2,λy hy hf=>?_,h4⟩
   .rw[List.forIn_cons];simp[hk];simpa using h1
   .have hy':=zO.mp hy;rcases hy' with rfl|hy
    .rw[show k=NameKind.free from hf] at hk;exact absurd hk (by decide)
    .exact h3 y hy hf
  | true=>
   have hf:k=NameKind.free:=by simpa using hk
   obtain⟨c,hc⟩:=h (n,k) yR hf;obtain⟨cl,h1,h2,h3,h4⟩:=HG r ((n,c)::acc) (λy hy=>h y (yH _ hy)) (λx c' e=>by
    cases q:x==n with
    | true=>
     rw[zV,q] at e;have z:x=n:=by simpa using q
     rw[z,hc];exact e
    | false=>
     rw[zV,q] at e;exact ha x c' e)
   refine⟨cl,?_,h2,λy hy hf=>?_,λx c' e=>?_⟩
   .have ec:cellOf env n=pure c:=by unfold cellOf;rw[hc]
    rw[List.forIn_cons];simp[hk,ec];simpa using h1
   .have hy':=zO.mp hy;rcases hy' with rfl|hy
    .obtain⟨c',e⟩:=h4 n c (by simp);rw[e];exact(h2 _ _ e).symm
    .exact h3 y hy hf
   .refine h4 x (if x==n then c else c') ?_;cases q:x==n with
    | true=>simp[zV,q]
    | false=>simp[zV,q,e]
theorem DY (h:∀y∈sc.names,y.2=.free->∃c,env.cells.lookup y.1=some c):
  ∃cl,closureFor sc env=pure cl/\(∀x c,cl.lookup x=some c->env.cells.lookup x=some c)/\∀y∈sc.names,y.2=.free->cl.lookup y.1=env.cells.lookup y.1:=by
 obtain⟨cl,h1,h2,h3,_⟩:=HG sc.names [] h (λx c e=>by simp at e);refine⟨cl,?_,h2,h3⟩;unfold closureFor;simp only[bind_pure];exact h1
theorem Ax {env:Env}:∀ {names:List (Str×NameKind)} {x:Str},names.lookup x=some .free->
  (names.map λ(n,k)=>if (k==NameKind.free&&env.scope.kind==.function&&env.kindOf n==some .cell) then (n,NameKind.cell) else (n,k)).lookup x=some .cell\/
  (names.map λ(n,k)=>if (k==NameKind.free&&env.scope.kind==.function&&env.kindOf n==some .cell) then (n,NameKind.cell) else (n,k)).lookup x=some .free
 | [],_,h=>by simp at h
 | (n,k)::r,x,h=>by
  have ih:=@Ax env r x;rw[yJ];cases hx:x==n with
  | true=>
   rw[zV,hx] at h;have hk:k=.free:=Option.some.inj h;subst hk;dsimp only;split
   .left;simp[zV,hx]
   .right;simp[zV,hx]
  | false=>
   rw[zV,hx] at h;dsimp only;split
   .simp only[zV,hx];exact ih h
   .simp only[zV,hx];exact ih h
theorem DI {env:Env}:∀ {names:List (Str×NameKind)} {x:Str},(∀y∈names,y.2≠.cell)->
  ((names.map λ(n,k)=>if (k==NameKind.free&&env.scope.kind==.function&&env.kindOf n==some .cell) then (n,NameKind.cell) else (n,k)).lookup x=some .cell\/
  (names.map λ(n,k)=>if (k==NameKind.free&&env.scope.kind==.function&&env.kindOf n==some .cell) then (n,NameKind.cell) else (n,k)).lookup x=some .free)->names.lookup x=some .free
 | [],_,_,h=>by simp at h
 | (n,k)::r,x,hc,h=>by
  have ih:=@DI env r x λy hy=>hc y (yH _ hy)
  rw[yJ] at h;cases hx:x==n with
  | true=>
   rw[zV,hx];dsimp only at h;split at h
   .rename_i q;simp only[Bool.and_eq_true] at q;have hk:k=.free:=by simpa using q.1.1
    rw[hk]
   .simp only[zV,hx] at h;rcases h with h|h
    .exact absurd (Option.some.inj h) (hc (n,k) yR)
    .exact h
  | false=>
   rw[zV,hx];dsimp only at h;split at h
   .simp only[zV,hx] at h;exact ih h
   .simp only[zV,hx] at h;exact ih h
abbrev Cx.comp (X:Cx)(sc:Scope)(N:List Str)(cl:List (Str×Addr))(C:Addr)(s0:Shared)(H0:Hp)(fp:List Addr)(pn:LA):Cx:=
 { X with N:=N,env:=compEnvC sc cl C X.env,s₀:=s0,H₀:=H0,outer:=X.stack,stack:=X.stack,ex:=fp,fn:=λ_=>false,pn:=pn,xe:=λ_ _=>False }
def Yb (caps:List Nat)(σ:St):St:=caps.map λj=>(σ[j]?).join
def Z8 (caps:List Nat)(dl:Ev):Ev:=caps.map λj=>(dl[j]?).join
def SI (caps:List Nat)(wi:TI)(tc:TT)(te:TE):TE:=λσ H Q=>wi σ H λJ H1=>∀D,H1 D=none->∃W:Nat->Nat->Hp->Prop,(∃m,W 0 m (upd H1 D (.lst [])))/\∀i m H,W i m H->
 (J.stop i H/\Q (.ref D) H)\/(J.go i H/\∀x H',J.yld i H x H'->tc (some x::Yb caps σ) H' λb H2=>if b=true then te (some x::Yb caps σ) H2 λy H3=>∃ys,H3 D=some (.lst ys)/\ys.length<sizeLine/\∃m',m'<m/\W (i+1) m' (upd H3 D (.lst (ys++[y])))
  else ∃m',m'<m/\W (i+1) m' H2)
def PTs (Y:Cx)(ifs:List Expr)(tc:TT):Prop:=∀(pins:LA)(s:Shared)(σ:St)(H:Hp)(Q:Bool->Hp->Prop),Inv Y pins σ H s->tc σ H Q->
 wpAny (model Y.prog Y.w) Y.A (forIn ifs true λc r=>if r=true then do let ok <- isTrue c Y.env (eval c Y.env);pure (ForInStep.yield ok) else pure (ForInStep.yield r)) (TP Y pins σ Q) Y.xe s
theorem Bq:PTs Y [] (λ_ H Q=>Q true H):=λ_ _ _ H _ I h=>wpAny_tests_nil ⟨H,I,h⟩
theorem zeG (h:PT Y c tc):PTs Y [c] tc:=λpins s σ H Q I q=>wpAny_tests_one (h pins s σ H Q I q)
section
variable {X:Cx}{pins:LA}{σ:St}{H:Hp}{s:Shared}
end
structure Qu (X:Cx)(pins:LA)(σ:St)(C:Addr)(Q:VK)(D:Addr)(s':Shared):Prop where
 q:∃H',Inv X pins σ H' s'/\Q (.ref D) H'/\H' C=none
 ns:∃m,s'.heap.Ns C m
 loc:C≠X.env.locals
 old:X.s₀.heap.objs.size<=C
 cell:∀x c,X.env.cells.lookup x=some c->c≠C
 pin:∀p∈X.pn++pins,p.1≠C
theorem zaF {aW aU:Expr}{tg:Expr}{ifs:List Expr}{scope:Scope}{pos:Pos}{it acc:Value}{env:Env}{R:Result->Shared->Prop}(I:Nat->Shared->Prop)
  (turn:∀n s,I n s->wpAny (model prog w) A (pyNext it) (λr s1=>match r with
   | none=>R (.ok .next) s1
   | some v=>wpAny (model prog w) A (letOwnedTupleGo tg it v) (λ_ s2=>wpAny (model prog w) A (assign tg env v) (λ_ s3=>
     wpAny (model prog w) A (forIn ifs true λc r=>if r=true then do let ok <- isTrue c env (eval c env);pure (ForInStep.yield ok) else pure (ForInStep.yield r)) (λok s4=>
      if ok=true then wpAny (model prog w) A (eval aW env) (λx s5=>
       wpAny (model prog w) A (call (.builtin "list.append") [acc,x]) (λ_ s6=>∃m,m<n/\I m s6) (notedBy (model prog w) A env λe s'=>R (.error e) s') s5) (notedBy (model prog w) A env λe s'=>R (.error e) s') s4
      else ∃m,m<n/\I m s4) (notedBy (model prog w) A env λe s'=>R (.error e) s') s3)
     (notedBy (model prog w) A env λe s'=>R (.error e) s') s2) (notedBy (model prog w) A env λe s'=>R (.error e) s') s1) (notedBy (model prog w) A env λe s'=>R (.error e) s') s)
  (n:Nat)(h:I n s):codeAny (model prog w) A (.compLoop (.ListComp aW [⟨tg,aU,ifs,0⟩] scope pos) 0 it acc env) R s:=by
 refine codeAny_loop rfl I (λj t hI=>?_) n h;show wpAny _ A ((compTurn (.ListComp aW [⟨tg,aU,ifs,0⟩] scope pos) 0 it acc env).onRaise (λx=>do noteFrame x env;theTreesLotGoes x)) _ _ t;refine wpAny_noted ?_;rw[compTurn_list];refine wpAny_bind (wpAny_standAt (wpAny_bind (wpAny_mono (turn j t hI) (λr s1 h1=>?_) λ_ _ z=>z)));cases r with
 | none=>exact wpAny_pure h1
 | some v=>
  refine wpAny_bind (wpAny_mono h1 (λ_ s2 h2=>?_) λ_ _ z=>z);refine wpAny_bind (wpAny_mono h2 (λ_ s3 h3=>wpAny_bind (wpAny_mono h3 (λok s4 h4=>?_) λ_ _ z=>z)) λ_ _ z=>z);cases ok with
  | false=>exact wpAny_pure ⟨rfl,h4⟩
  | true=>exact wpAny_bind (wpAny_bind (wpAny_mono h4 (λx s5 h5=>wpAny_bind (wpAny_mono h5 (λ_ s6 h6=>wpAny_pure (wpAny_pure ⟨rfl,h6⟩)) λ_ _ z=>z)) λ_ _ z=>z))
structure XQ (sc around:Scope)(own caps:List Str):Prop where
 kind:sc.kind=.function
 nocell:∀y∈sc.names,y.2≠.cell
 own:∀y∈sc.names,y.2=.local->sc.names.lookup y.1=some .local
 cap:∀y∈caps,sc.names.lookup y=some .free
 out:∀y∈sc.names,y.2=.free->around.names.lookup y.1=some .cell
theorem zbS {sc:Scope}{own N:List Str}{caps:List Nat}{cl:List (Str×Addr)}{fp:List Addr}{h1:Heap}{m:Str->Option Value}{tk:Nat}(I:Inv X pins σ H s)(cs:XQ sc X.env.scope own N)
  (hN:∀(j:Nat)(y:Str),N[j]?=some y->∃i,caps[j]?=some i/\X.N[i]?=some y)(aM:caps.length=N.length)
  (c1:∀x c,cl.lookup x=some c->X.env.cells.lookup x=some c)(c2:∀y∈sc.names,y.2=.free->cl.lookup y.1=X.env.cells.lookup y.1)
  (hf:∀b∈fp,Yd X pins H b)(hfo:∀b∈fp,b<s.heap.objs.size)(hns:h1.Ns s.heap.objs.size m)(hk:∀b o,s.heap.get? b=some o->h1.get? b=some o):
  Inv (Cx.comp X sc (own++N) cl s.heap.objs.size s H fp (X.pn++pins)) [] (List.replicate own.length none++Yb caps σ) H { s with heap:=h1,toks:=tk }:=by
 have stk:∀b∈frs X.stack,b=X.env.locals\/b∈X.fs:=λb hb=>zO.mp (I.stkSub b hb)
 refine⟨⟨I.ok.mod,cs.kind,I.ok.glob,I.ok.blt,zC _,λa b c h1 h2=>I.ok.inj a b c (c1 _ _ h1) (c1 _ _ h2),λy hy=>?_,λ_ _ z=>Bool.noConfusion z,I.ok.hd,I.ok.frames,.inl rfl,λb hb=>⟨zM (hfo b hb),λy c e=>(hf b hb).2.2.2.2.1 y c (c1 _ _ e)⟩,
  I.bs,yD I.ok.bsz I.sz,λb o e hb=>?_,λb hb z=>?_,I.stack,I.stkFree⟩,rfl,I.bare,Un.kept hk,⟨m,hns,λi y v e1 e2 e3=>?_⟩,λy c e=>?_,I.hok.fresh (zC _),λy c e=>I.freeC y c (c1 _ _ e),λp hp=>?_,I.hok.kept hk,?_⟩
 .have hfr:sc.names.lookup y=some .free:=DI cs.nocell hy
  have hm:=U6 hfr;obtain⟨c,e⟩:=I.ok.has y (.inl (cs.out _ hm rfl));exact⟨c,(c2 _ hm rfl).trans e⟩
 .rcases (hf b hb).2.2.2.1 with z|z
  .exact I.ok.noex b o e z
  .exact absurd (zR (Heap.lt_size (I.ok.bs b o e).1) z) (yK _)
 .rcases stk b z with z|z
  .exact(hf b hb).2.1 z
  .exact(hf b hb).2.2.1 z
 .rcases Nat.lt_or_ge i own.length with hi|hi
  .rw[zI (by simpa using hi),List.getElem?_replicate] at e2;simp[hi] at e2
  .obtain⟨i,rfl⟩:∃k,i=own.length+k:=⟨i-own.length,by omega⟩;have e1':N[i]?=some y:=by
    rw[yB hi] at e1;simpa using e1
   have e2:(Yb caps σ)[i]?=some (some v):=by
    rw[yB (by simp)] at e2;simpa using e2
   obtain⟨j,hj,hy⟩:=hN i y e1';have e2':σ[j]?=some (some v):=by
    simp only[Yb,zF,hj,Option.map_some,Option.some.injEq] at e2;cases q:σ[j]? with
    | none=>rw[q] at e2;cases e2
    | some o=>rw[q] at e2;simp at e2;rw[e2]
   have hfr:sc.names.lookup y=some .free:=cs.cap y (zE e1')
   have hm:=U6 hfr
   have hce:X.env.scope.names.lookup y=some .cell:=cs.out _ hm rfl;obtain⟨m0,_,hl⟩:=I.loc;obtain⟨u,r,l⟩:=hl j y v hy e2' (.inr (.inl hce));refine⟨u,r,.inr ⟨Ax hfr,?_⟩⟩;rcases l with ⟨k,_⟩|⟨_,c,ec,hcell⟩
   .rw[show X.env.kindOf y=some .cell from hce] at k;cases k
   .exact⟨c,(c2 _ hm rfl).trans ec,hcell.keeps hk⟩
 .obtain⟨v,z⟩:=I.cell y c (c1 _ _ e);exact⟨v,z.keeps hk⟩
 .have hp':p∈X.pn++pins:=by simpa using hp
  obtain⟨p1,p2,p3,p4,p5⟩:=I.pin p hp';refine⟨hk _ _ p1,p2,zM (Heap.lt_size p1),λz=>?_,p5⟩;rcases stk _ z with z|z
  .exact p3 z
  .exact p4 z
 .simp[Yb,aM]
theorem Gz {tg:Expr}{K:It->Hp->Prop}{ifs:List Expr}{tc:TT}{use:Option (Value->Sem Unit)}{Qr:Value->Shared->Prop}(hc:X.calm=true)(cs:XQ sc X.env.scope own N)(hN:∀(j:Nat)(y:Str),N[j]?=some y->∃i,caps[j]?=some i/\X.N[i]?=some y)(aM:caps.length=N.length)
  (hi:PI X tg aU wi)(hg:∀cl C s0 H0 fp pn,PG (Cx.comp X sc (own++N) cl C s0 H0 fp pn) tg gt)(he:∀cl C s0 H0 fp pn,PE (Cx.comp X sc (own++N) cl C s0 H0 fp pn) aW te)
  (ht:∀cl C s0 H0 fp pn,PTs (Cx.comp X sc (own++N) cl C s0 H0 fp pn) ifs tc)(hs:∀y,foldedSetIterable aU X.env y=pure y)
  {pins:LA}{s:Shared}{σ:L2.St}{H:Hp}{Q:VK}{p2:Pos}(I:Inv X pins σ H s)(h:wi σ H K)(hK:∀J H1,K J H1->∀D,H1 D=none->∃W:Nat->Nat->Hp->Prop,(∃m,W 0 m (upd H1 D (.lst [])))/\∀i m H,W i m H->(J.stop i H/\Q (.ref D) H)\/(J.go i H/\∀x H',J.yld i H x H'->∀o:L2.St,o.length=own.length->gt x (o++Yb caps σ) H' λσ8 H8=>(∃o8:L2.St,o8.length=own.length/\σ8=o8++Yb caps σ)/\tc σ8 H8 λb H9=>if b=true then te σ8 H9 λy H3=>∃ys,H3 D=some (.lst ys)/\ys.length<sizeLine/\∃m',m'<m/\W (i+1) m' (upd H3 D (.lst (ys++[y]))) else ∃m',m'<m/\W (i+1) m' H9))
  (aY:∀D C s',Qu X pins σ C Q D s'->compPost (model X.prog X.w) X.A X.xe use Qr (.ref D) C (.ok .next) s'):
  wpAny (model X.prog X.w) X.A (comprehension (.ListComp aW [⟨tg,aU,ifs,0⟩] sc pos) sc X.env p2 (newList []) false (eval aU X.env) use) Qr X.xe s:=by
 obtain⟨cl,k1,k2,k3⟩:=DY (sc:=sc) (env:=X.env) λy hy hf=>I.ok.has y.1 (.inl (cs.out y hy hf))
 refine wpAny_comprehension_free rfl hs k1 cs.kind cs.own (thn (hi pins s σ H _ I h) λv s1 h1=>thn h1 λitv s2 h2=>?_);obtain⟨it,fp,tn,J,H2,e,I2,T,st2,f2,body⟩:=h2;subst e;have hfo:∀b∈fp,b<s2.heap.objs.size:=λb hb=>by
  obtain⟨o,e,_⟩:=T.obj _ _ st2 b hb;exact Heap.lt_size e
 have hD:H2 s2.heap.objs.size=none:=I2.hok.fresh (zC _);obtain⟨W,⟨m0,w0⟩,turn⟩:=hK _ _ body _ hD;refine wpAny_newObj_type ?_;have I3:Inv X pins σ (upd H2 s2.heap.objs.size (.lst [])) { s2 with heap:=s2.heap.push { cls:=.type "list",dict:=none,data:=.seq ([]:List Value).toArray },toks:=s2.toks }:=
  I2.laid (t':=s2.toks) (λb u e=>Heap.get?_push_of_some _ e) (zC _) ⟨zP _,[],0,.nil,Heap.get?_push_size _ rfl⟩
 generalize hs3:({ s2 with heap:=s2.heap.push { cls:=.type "list",dict:=none,data:=.seq ([]:List Value).toArray },toks:=s2.toks }:Shared)=s3 at I3;have es3:({ s2 with heap:=s2.heap.push { cls:=.type "list",dict:=none,data:=.seq ([]:List Value).toArray } }:Shared)=s3:=hs3
 try rw[es3]
 have f3:∀b∈fp,Yd X pins (upd H2 s2.heap.objs.size (.lst [])) b:=λb hb=>⟨by rw[Z1 (zM (hfo b hb))];exact(f2 b hb).1,(f2 b hb).2⟩
 have up3:∀b o,s2.heap.get? b=some o->s3.heap.get? b=some o:=λb o e=>by rw[<- hs3];exact Heap.get?_push_of_some _ e
 have st3:tn 0 s3.heap:=T.keep _ _ _ st2 λb _ o e=>up3 b o e
 have hfo3:∀b∈fp,b<s3.heap.objs.size:=λb hb=>by
  obtain⟨o,e,_⟩:=T.obj _ _ st3 b hb;exact Heap.lt_size e
 refine wpAny_newFunctionEnv cs.nocell (λy hy=>by simp at hy) (λh4 ns4 sb4=>?_) cs.kind;have hk4:∀b o,s3.heap.get? b=some o->h4.get? b=some o:=λb o e=>(sb4.2 b (zM (Heap.lt_size e))).trans (Heap.get?_push_of_some _ e)
 have I4:=zbS (tk:=s3.toks+([]:List (Str×Value)).length) I3 cs hN aM k2 k3 f3 hfo3 ns4 hk4;generalize hs4:({ s3 with heap:=h4,toks:=s3.toks+([]:List (Str×Value)).length }:Shared)=s4 at I4 ⊢;have eh4:s4.heap=h4:=by rw[<- hs4]
 have st4:tn 0 s4.heap:=by rw[eh4];exact T.keep _ _ _ st3 λb _ o e=>hk4 b o e
 have fY:∀ {H':Hp},(∀b∈fp,H' b=none)->∀b∈fp,Yd (Cx.comp X sc (own++N) cl s3.heap.objs.size s3 (upd H2 s2.heap.objs.size (.lst [])) fp (X.pn++pins)) [] H' b:=λhn b hb=>by
  obtain⟨_,z2,z3,z4,z5,z6⟩:=f3 b hb;refine⟨hn b hb,zM (hfo3 b hb),λz=>?_,.inl hb,λy c e=>z5 y c (k2 _ _ e),λp hp=>z6 p (by simpa using hp)⟩;rcases zO.mp (I3.stkSub b z) with z|z
  .exact z2 z
  .exact z3 z
 have loop:codeAny (model X.prog X.w) X.A (.compLoop (.ListComp aW [⟨tg,aU,ifs,0⟩] sc pos) 0 (.ref it) (.ref s2.heap.objs.size) (compEnvC sc cl s3.heap.objs.size X.env))
   (compPost (model X.prog X.w) X.A X.xe use Qr (.ref s2.heap.objs.size) s3.heap.objs.size) s4:=by
  refine zaF (λn s'=>∃i o H',o.length=own.length/\Inv (Cx.comp X sc (own++N) cl s3.heap.objs.size s3 (upd H2 s2.heap.objs.size (.lst [])) fp (X.pn++pins)) [] (o++Yb caps σ) H' s'/\tn i s'.heap/\(∀b∈fp,H' b=none)/\W i n H') ?_ m0
   ⟨0,_,_,List.length_replicate,I4,st4,λb hb=>(f3 b hb).1,w0⟩
  rintro n s5 ⟨i,o,H5,ho,I5,st5,fr5,w5⟩;rcases turn i n H5 w5 with ⟨stop,q⟩|⟨go,step⟩
  .refine thn (T.done (Cx.comp X sc (own++N) cl s3.heap.objs.size s3 (upd H2 s2.heap.objs.size (.lst [])) fp (X.pn++pins)) rfl rfl rfl hc i [] s5 _ H5 _ I5 (fY fr5) st5 stop) λr s6 ⟨hr,I6⟩=>?_
   subst hr;refine aY _ _ _ ⟨⟨H5,I3.call' I6.os I6.base I6.hok I6.bare (λb hb=>?_),q,I6.free⟩,?_,yU I3.lt,I3.sz,λy c e z=>?_,λp hp z=>?_⟩
   .obtain⟨_,z2,z3,z4,z5,z6⟩:=f3 b hb;exact⟨z4,z2,z5,z6⟩
   .obtain⟨m,hm,_⟩:=I6.loc;exact⟨m,hm⟩
   .obtain⟨v,hv⟩:=I3.cell y c e;exact absurd (z ▸ hv.lt) (yK _)
   .exact absurd (z ▸ Heap.lt_size (I3.pin p hp).1) (yK _)
  .refine thn (T.item (Cx.comp X sc (own++N) cl s3.heap.objs.size s3 (upd H2 s2.heap.objs.size (.lst [])) fp (X.pn++pins)) rfl rfl rfl hc i [] s5 _ H5 _ I5 (fY fr5) st5 go) λr s6 ⟨u,hr,h6⟩=>?_
   subst hr;refine wpAny_mono h6 (λ_ s7 ⟨y,H7,I7,r7,y7,st7,fr7⟩=>?_) λ_ _ z=>z
   have I7':=I7.pinned (fY fr7) (T.obj _ _ st7);refine wpAny_mono (hg _ _ _ _ _ _ _ s7 _ H7 y u _ I7' r7 (step y H7 y7 o ho)) (λ_ s8 ⟨σ8,H8,I8,⟨o8,ho8,e8⟩,q8⟩=>?_) λ_ _ z=>z.elim
   subst e8;have stay:∀ {H':Hp} {s':Shared},Inv (Cx.comp X sc (own++N) cl s3.heap.objs.size s3 (upd H2 s2.heap.objs.size (.lst [])) fp (X.pn++pins)) ([]++QF fp s7.heap) (o8++Yb caps σ) H' s'->∀m',m'<n->W (i+1) m' H'->
     ∃m,m<n/\∃i o H',o.length=own.length/\Inv (Cx.comp X sc (own++N) cl s3.heap.objs.size s3 (upd H2 s2.heap.objs.size (.lst [])) fp (X.pn++pins)) [] (o++Yb caps σ) H' s'/\tn i s'.heap/\(∀b∈fp,H' b=none)/\W i m H':=λ{H' s'} J m' hm w'=>by
    refine⟨m',hm,i+1,o8,H',ho8,J.unpinned,T.keep _ _ _ st7 λb hb o e=>(J.pin (b,o) (yN _ (yN _ (Nb hb e)))).1,λb hb=>?_,w'⟩;obtain⟨o,e,d⟩:=T.obj _ _ st7 b hb;exact(J.pin (b,o) (yN _ (yN _ (Nb hb e)))).2.1
   refine wpAny_mono (ht _ _ _ _ _ _ _ s8 _ H8 _ I8 q8) (λb s9 ⟨H9,I9,q9⟩=>?_) λ_ _ z=>z.elim
   cases b with
   | false=>
    rw[if_neg zJ] at q9 ⊢;obtain⟨m',hm,w9⟩:=q9;exact stay I9 m' hm w9
   | true=>
    rw[if_pos rfl] at q9 ⊢;refine wpAny_mono (he _ _ _ _ _ _ _ s9 _ H9 _ I9 q9) (λu2 s10 ⟨z,H10,I10,r10,q10⟩=>?_) λ_ _ z=>z.elim
    obtain⟨ys,hD10,hlt,m',hm,w10⟩:=q10;refine wpAny_mono (Dj (X:=(Cx.comp X sc (own++N) cl s3.heap.objs.size s3 (upd H2 s2.heap.objs.size (.lst [])) fp (X.pn++pins))) _ s10 _ H10 (.ref s2.heap.objs.size) [z] (.ref s2.heap.objs.size) [u2] (λ_ H'=>H'=upd H10 s2.heap.objs.size (.lst (ys++[z]))) I10 rfl (.cons r10 .nil) ⟨_,ys,z,rfl,rfl,hD10,hlt,rfl⟩) (λ_ s11 ⟨_,H11,I11,_,e11⟩=>?_) λ_ _ z=>z.elim
    subst e11;exact stay I11 m' hm w10
 exact codeAny_compStart_list loop (T.self _ 0 s4 _ _ st4 loop)
section
variable {X:Cx}{aW aU:Expr}{x:Str}{px pos:Pos}{ifs:List Expr}{sc:Scope}{N:List Str}{caps:List Nat}{wi:TI}{tc:TT}{te:TE}
theorem DS (hc:X.calm=true)(cs:Vp sc X.env.scope x N)(hN:∀(j:Nat)(y:Str),N[j]?=some y->∃i,caps[j]?=some i/\X.N[i]?=some y)(aM:caps.length=N.length)(hnd:(x::N).Nodup)(hi:PI X (.Name x px) aU wi)(ht:∀cl C s0 H0 fp pn,PTs (Cx.comp X sc (x::N) cl C s0 H0 fp pn) ifs tc)(he:∀cl C s0 H0 fp pn,PE (Cx.comp X sc (x::N) cl C s0 H0 fp pn) aW te)(hs:∀y,foldedSetIterable aU X.env y=pure y)(I:Inv X pins σ H s)(h:SI caps wi tc te σ H Q)(aY:∀D C s',Qu X pins σ C Q D s'->compPost (model X.prog X.w) X.A X.xe use Qr (.ref D) C (.ok .next) s'):
  wpAny (model X.prog X.w) X.A (comprehension (.ListComp aW [⟨.Name x px,aU,ifs,0⟩] sc pos) sc X.env p2 (newList []) false (eval aU X.env) use) Qr X.xe s:=by
 refine Gz (own:=[x]) (gt:=F1 0) hc ⟨cs.kind,cs.nocell,cs.own,cs.cap,cs.out⟩ hN aM hi (λcl C s0 H0 fp pn=>U9 hnd rfl (.inl (lookup_relabel_local cs.loc)) (.inr (lookup_relabel_local cs.loc))) he ht hs I h (λJ H1 b D hD=>?_) aY;obtain⟨W,w0,turn⟩:=b D hD;refine⟨W,w0,λi m H w=>(turn i m H w).imp id λ⟨go,st⟩=>⟨go,λv H' y o ho=>?_⟩⟩
 match o,ho with
 | [_],_=>exact⟨⟨[some v],rfl,rfl⟩,st v H' y⟩
theorem Xl (h:caps.map (λi=>X.N[i]?)=N.map some):(∀(j:Nat)(y:Str),N[j]?=some y->∃i,caps[j]?=some i/\X.N[i]?=some y)/\caps.length=N.length:=by
 refine⟨λj y e=>?_,by simpa using congrArg List.length h⟩;have z:(caps.map (λi=>X.N[i]?))[j]?=some (some y):=by rw[h,zF,e];rfl
 rw[zF] at z;cases q:caps[j]? with
 | none=>rw[q] at z;cases z
 | some i=>rw[q] at z;exact⟨i,rfl,by simpa using z⟩
theorem J3 (hc:X.calm=true)(cs:Vp sc X.env.scope x N)(hN:caps.map (λi=>X.N[i]?)=N.map some)(hnd:(x::N).Nodup)
  (hi:PI X (.Name x px) aU wi)(ht:∀cl C s0 H0 fp pn,PTs (Cx.comp X sc (x::N) cl C s0 H0 fp pn) ifs tc)(he:∀cl C s0 H0 fp pn,PE (Cx.comp X sc (x::N) cl C s0 H0 fp pn) aW te)
  (hs:∀y,foldedSetIterable aU X.env y=pure y:=by intro _;rfl):PE X (.ListComp aW [⟨.Name x px,aU,ifs,0⟩] sc pos) (SI caps wi tc te):=by
 intro pins s σ H Q I h;rw[eval_ListComp];refine DS (use:=none) hc cs (Xl hN).1 (Xl hN).2 hnd hi ht he hs I h λD C s' f=>?_
 obtain⟨⟨H',I',q,hC⟩,⟨m,ns⟩,l,o,c,p⟩:=f;exact⟨m,ns,λh' sb=>⟨.ref D,H',I'.turned (t':=s'.toks) (λb ob hb e=>(sb.2 b hb).trans e) hC l (.inr o) c p,rfl,q⟩⟩
theorem GA {tg:Expr}{ifs:List Expr}{T:TE}{i:Nat}{y:Str}{py spos:Pos}
  (core:∀ {use:Option (Value->Sem Unit)} {Qr:Value->Shared->Prop} {pins:LA} {s:Shared} {σ:St} {H:Hp} {Q:VK} {p2:Pos},Inv X pins σ H s->T σ H Q->(∀D C s',Qu X pins σ C Q D s'->compPost (model X.prog X.w) X.A X.xe use Qr (.ref D) C (.ok .next) s')->
   wpAny (model X.prog X.w) X.A (comprehension (.ListComp aW [⟨tg,aU,ifs,0⟩] sc pos) sc X.env p2 (newList []) false (eval aU X.env) use) Qr X.xe s)
  (hNd:X.N.Nodup)(hy:X.N[i]?=some y)(hl:X.env.scope.names.lookup y=some .local)(hsw:swapsWith (.ListComp aW [⟨tg,aU,ifs,0⟩] sc pos) (some (.Name y py)) spos.line X.env=pure true):
  PS X (.Assign [.Name y py] (.ListComp aW [⟨tg,aU,ifs,0⟩] sc pos) spos) (λE σ H=>T σ H λv H1=>E.nx (σ.set i (some v)) H1):=by
 intro pins s σ H E I h;rw[exec_Assign_Name_used (hs:=hsw)];refine wpAny_bind (wpAny_standAt ?_);refine wpAny_bind ?_;show wpAny _ _ (comprehension _ sc X.env _ (newList []) false (eval aU X.env) (some (assign (.Name y py) X.env)) >>= λ_=>pure ()) _ _ s
 refine wpAny_bind (thn (core (use:=some (assign (.Name y py) X.env)) (Qr:=λ_ s'=>SP X pins E .next s') I h λD C s' f=>?_) λ_ s' hq=>wpAny_pure (wpAny_pure hq));obtain⟨⟨H',I',q,hC⟩,⟨m,ns⟩,l,o,c,p⟩:=f;refine wpAny_assign_Name (DZ (v:=.ref D) I' hNd hy (.inl hl) rfl (λs'' I'' ⟨a,sb,ha⟩=>⟨m,ns.sameBut sb ?_,λh' sb'=>⟨_,H',I''.turned (t':=s''.toks) (λb ob hb e=>(sb'.2 b hb).trans e) hC l (.inr o) c p,q⟩⟩) (.inr hl));rcases ha with rfl|ha
 .exact l
 .exact Ne.symm (c _ _ ha)
theorem Af (hc:X.calm=true)(cs:Vp sc X.env.scope x N)(hN:caps.map (λi=>X.N[i]?)=N.map some)(hnd:(x::N).Nodup)(hi:PI X (.Name x px) aU wi)(ht:∀cl C s0 H0 fp pn,PTs (Cx.comp X sc (x::N) cl C s0 H0 fp pn) ifs tc)(he:∀cl C s0 H0 fp pn,PE (Cx.comp X sc (x::N) cl C s0 H0 fp pn) aW te)(hNd:X.N.Nodup)(hy:X.N[i]?=some y)(hl:X.env.scope.names.lookup y=some .local)(hsw:swapsWith (.ListComp aW [⟨.Name x px,aU,ifs,0⟩] sc pos) (some (.Name y py)) spos.line X.env=pure true)(hs:∀y,foldedSetIterable aU X.env y=pure y:=by intro _;rfl):PS X (.Assign [.Name y py] (.ListComp aW [⟨.Name x px,aU,ifs,0⟩] sc pos) spos) (λE σ H=>SI caps wi tc te σ H λv H1=>E.nx (σ.set i (some v)) H1):=
 GA (λI h aY=>DS hc cs (Xl hN).1 (Xl hN).2 hnd hi ht he hs I h aY) hNd hy hl hsw
end
section
variable {X:Cx}{Z:Zx}{aW aU:Expr}{x:Str}{px pos:Pos}{ifs:List Expr}{sc ar:Scope}{N:List Str}{caps:List Nat}
theorem K4 {r:List Addr}{H:Hp}{dl:Ev}{σ:St}{d:D}{v:V}(h:Rs r H dl σ)(p:Rp r H d v):Rs r H (some d::Z8 caps dl) (some v::Yb caps σ):=by
 refine⟨by simp[Z8,Yb],λi e hi=>?_⟩;cases i with
 | zero=>simp at hi;subst hi;exact⟨v,rfl,p⟩
 | succ i=>
  simp only[List.getElem?_cons_succ,Z8,zF] at hi;cases q:caps[i]? with
  | none=>rw[q] at hi;cases hi
  | some j=>
   rw[q] at hi;simp only[Option.map_some,Option.some.injEq] at hi;have hj:dl[j]?=some (some e):=by
    cases q2:dl[j]? with
    | none=>rw[q2] at hi;cases hi
    | some o=>rw[q2] at hi;simp at hi;rw[hi]
   obtain⟨w,h1,h2⟩:=h.2 j e hj;refine⟨w,?_,h2⟩;simp only[List.getElem?_cons_succ,Yb,zF,q,Option.map_some,h1,Option.join_some]
def W6 (Y:Cx)(ifs:List Expr)(t:TDT):Prop:=PTs Y ifs (upT Y.K Z0 t)
def Y6:TDT:=λ_ S Q=>Q true S
theorem Yh:W6 Y [] Y6:=λpins s σ H Qb I ⟨r,dl,S,Q,rs,aZ,q,ret⟩=>Bq pins s σ H Qb I (ret true H r S Ext.refl aZ q)
theorem JO (h:PDT Y Z0 c t):W6 Y [c] t:=zeG h
def Wr (caps:List Nat)(tc:TDT)(te:TDE)(k:Nat)(dl:Ev)(d:D)(S:Sto)(nx:Sto->Prop):Prop:=
 tc (some d::Z8 caps dl) S λb S1=>if b=true then te (some d::Z8 caps dl) S1 λy S2=>match S2[k]? with
  | some (.lst ys)=>ys.length<1000/\nx (S2.set k (.lst (ys++[y])))
  | _=>False
 else nx S1
@[irreducible] def XM (caps:List Nat)(tl:TDE)(tc:TDT)(te:TDE):TDE:=λdl S Q=>tl dl S λd S1=>match d with
 | .ref n=>(lAt S1 n).isSome=true/\∃W:Nat->Nat->Sto->Prop,(∃m,W 0 m (S1++[.lst []]))/\∀k m S2,W k m S2->match lAt S2 n with
  | some o=>match (Zo o)[k]? with
   | some y=>Wr caps tc te S1.length dl y S2 λS3=>∃m',m'<m/\W (k+1) m' S3
   | none=>Q (.ref S1.length) S2
  | none=>False
 | _=>False
@[irreducible] def Wx (caps:List Nat)(ta:TDA)(tc:TDT)(te:TDE):TDE:=λdl S Q=>ta dl S λds S1=>match ds with
 | [.int j]=>(-(2^62)<=j/\j<2^62)/\∃W:Nat->Sto->Prop,W 0 (S1++[.lst []])/\∀k S2,W k S2->
   if k<j.toNat then Wr caps tc te S1.length dl (.int k) S2 λS3=>W (k+1) S3 else Q (.ref S1.length) S2
 | _=>False
theorem JY {tc:TDT}{te:TDE}{r2:List Addr}{H2:Hp}{S1 S2:Sto}{dl:Ev}{σ:St}{D0:Addr}{d:D}{v:V}{nx:Sto->Prop}{Nx:Hp->Prop}(rs:Rs r2 H2 dl σ)(ha:r2[S1.length]?=some D0)(rb:ZZ X.K r2 S2 H2)(p:Rp r2 H2 d v)
  (h:Wr caps tc te S1.length dl d S2 nx)(hn:∀r' S' H',Ext r2 r' H2 H'->ZZ X.K r' S' H'->nx S'->Nx H'):
  upT X.K Z0 tc (some v::Yb caps σ) H2 λb H3=>if b=true then up X.K Z0 te (some v::Yb caps σ) H3 λy H4=>∃ys,H4 D0=some (.lst ys)/\ys.length<sizeLine/\Nx (upd H4 D0 (.lst (ys++[y]))) else Nx H3:=by
 have rsY:Rs r2 H2 (some d::Z8 caps dl) (some v::Yb caps σ):=K4 rs p;refine⟨r2,_,S2,_,rsY,⟨rb,λ_ _ _ _ _ _ _ _ _ z=>z.elim⟩,h,λb H3 r3 S3 x3 aE q3=>?_⟩;cases b with
 | false=>rw[if_neg zJ] at q3 ⊢;exact hn r3 S3 H3 x3 aE.b q3
 | true=>
  rw[if_pos rfl] at q3 ⊢;refine⟨r3,_,S3,_,rsY.ext x3,aE,q3,λz H4 r4 dz S4 x4 aF p4 q4=>?_⟩;split at q4
  .rename_i ys eys;obtain⟨hl,q4⟩:=q4;have ha4:r4[S1.length]?=some D0:=x4.adr _ _ (x3.adr _ _ ha);obtain⟨zs,hD4,pz⟩:=aF.b.ob _ _ _ ha4 eys;obtain⟨rel5,x5⟩:=aF.b.set ha4 eys (pz.snoc p4);exact⟨zs,hD4,by rw[<- pz.1];exact P6 (yM hl),hn r4 _ _ (x3.trans (x4.trans x5)) rel5 q4⟩
  .exact q4.elim
theorem SY {r:List Addr}{D0:Addr}{n:Nat}(h:r.length=n):(r++[D0])[n]?=some D0:=by subst h;simp
theorem Aj {tl:TDE}{tc:TDT}{te:TDE}{σ:St}{H:Hp}{Qv:VK}(h:up X.K Z (XM caps tl tc te) σ H Qv):SI caps (C7 X.K (up X.K Z tl)) (upT X.K Z0 tc) (up X.K Z0 te) σ H Qv:=by
 obtain⟨r,dl,S,Q,rs,aZ,h,ret⟩:=h;unfold XM at h;refine⟨r,dl,S,_,rs,aZ,h,λv H1 r1 d S1 x1 aB p1 q1=>?_⟩;cases p1 with
 | @ref n a hn=>
  obtain⟨aQ,W,⟨m0,w0⟩,turn⟩:=q1;have sql:∀ {r':List Addr} {S':Sto} {H':Hp} {o:Ob},Ext r1 r' H1 H'->ZZ X.K r' S' H'->lAt S' n=some o->∃xs,SqL X.K H' a xs/\Rps r' H' (Zo o) xs:=λ{r' S' H' o} x' rel' eo=>by
   obtain⟨eo,eL⟩:=YY eo;obtain⟨a',ha,ob⟩:=rel'.at eo;rw[x'.adr n a hn] at ha;cases ha
   exact ob.list eL
  obtain⟨o1,eo1⟩:=yO.mp aQ;obtain⟨xs1,sq1,_⟩:=sql Ext.refl aB.b eo1;refine⟨a,rfl,⟨xs1,sq1⟩,λD0 hD=>?_⟩;obtain⟨aC,x2⟩:=aB.b.push (ds:=[]) (xs:=[]) hD Rps.nil;refine⟨λk m H'=>∃r' S',Ext (r1++[D0]) r' (upd H1 D0 (.lst [])) H'/\ZZ X.K r' S' H'/\W k m S',⟨m0,_,_,Ext.refl,aC,w0⟩,?_⟩;rintro k m H2 ⟨r2,S2,x3,rb2,w2⟩;have ha2:r2[S1.length]?=some D0:=x3.adr _ _ (SY aB.len)
  have q:=turn k m S2 w2;split at q
  .rename_i o eo;obtain⟨xs,sq,pr⟩:=sql (x2.trans x3) rb2 eo;split at q
   .rename_i y ey;obtain⟨v,hv,pv⟩:=pr.get ey;refine .inr ⟨⟨xs,v,sq,hv⟩,λv' H' y'=>?_⟩;obtain⟨eH,y'⟩:=y';subst eH;have ev:v'=v:=by
     have z:=y' xs sq;rw[hv] at z;exact(Option.some.inj z).symm
    subst ev;have z:=JY (Nx:=λH'=>∃m',m'<m/\∃r' S',Ext (r1++[D0]) r' (upd H1 D0 (.lst [])) H'/\ZZ X.K r' S' H'/\W (k+1) m' S') (rs.ext (x1.trans (x2.trans x3))) ha2 rb2 pv q λr' S' H' x' rb' ⟨m',hm,w'⟩=>⟨m',hm,r',S',x3.trans x',rb',w'⟩
    exact z
   .rename_i ey;have aM:(Zo o).length<=k:=yP.mp ey;exact .inl ⟨⟨xs,sq,by rw[<- pr.1];exact aM⟩,ret _ H2 r2 _ S2 (x1.trans (x2.trans x3)) ⟨rb2,aZ.xw.ext (x1.trans (x2.trans x3))⟩ (.ref ha2) q⟩
  .exact q.elim
 | _=>exact(show False from q1).elim
theorem Bz {ta:TDA}{tc:TDT}{te:TDE}{σ:St}{H:Hp}{Qv:VK}(h:up X.K Z (Wx caps ta tc te) σ H Qv):SI caps (Ek (upA X.K Z ta)) (upT X.K Z0 tc) (up X.K Z0 te) σ H Qv:=by
 obtain⟨r,dl,S,Q,rs,aZ,h,ret⟩:=h;unfold Wx at h;refine⟨r,dl,S,_,rs,aZ,h,λvs H1 r1 ds S1 x1 aB p1 q1=>?_⟩;split at q1
 .rename_i j;obtain⟨v,vs',rfl,p2,p3⟩:=p1.uncons;have z:=p3.unnil;subst z;cases p2;obtain⟨⟨b1,b2⟩,W,w0,turn⟩:=q1;refine⟨j,rfl,b1,b2,λD0 hD=>?_⟩;obtain⟨aC,x2⟩:=aB.b.push (ds:=[]) (xs:=[]) hD Rps.nil;refine⟨λk m H'=>m=j.toNat-k/\∃r' S',Ext (r1++[D0]) r' (upd H1 D0 (.lst [])) H'/\ZZ X.K r' S' H'/\W k S',⟨j.toNat,by simp,_,_,Ext.refl,aC,w0⟩,?_⟩;rintro k m H2 ⟨em,r2,S2,x3,rb2,w2⟩;have ha2:r2[S1.length]?=some D0:=x3.adr _ _ (SY aB.len)
  have q:=turn k S2 w2;split at q
  .rename_i hk;refine .inr ⟨hk,λv' H' y'=>?_⟩;obtain⟨eH,y'⟩:=y';subst eH;subst y';have pk:Rp r2 H' (.int (k:Int)) (.int (0+(k:Int))):=by rw[Int.zero_add];exact .int _
   have z:=JY (Nx:=λH'=>∃m',m'<m/\m'=j.toNat-(k+1)/\∃r' S',Ext (r1++[D0]) r' (upd H1 D0 (.lst [])) H'/\ZZ X.K r' S' H'/\W (k+1) S') (rs.ext (x1.trans (x2.trans x3))) ha2 rb2 pk q
    λr' S' H' x' rb' w'=>⟨j.toNat-(k+1),by omega,rfl,r',S',x3.trans x',rb',w'⟩
   exact z
  .rename_i hk;exact .inl ⟨by show j.toNat<=k;omega,ret _ H2 r2 _ S2 (x1.trans (x2.trans x3)) ⟨rb2,aZ.xw.ext (x1.trans (x2.trans x3))⟩ (.ref ha2) q⟩
 .exact q1.elim
theorem Xb (har:X.env.scope=ar)(hc:X.calm=true)(cs:Vp sc ar x N)(hN:caps.map (λi=>X.N[i]?)=N.map some)(hnd:(x::N).Nodup)(hl:PD X Z aU tl)(ht:∀cl C s0 H0 fp pn,W6 (Cx.comp X sc (x::N) cl C s0 H0 fp pn) ifs tc)(he:∀cl C s0 H0 fp pn,PD (Cx.comp X sc (x::N) cl C s0 H0 fp pn) Z0 aW te)(hs:∀y,foldedSetIterable aU X.env y=pure y:=by intro _;rfl):PD X Z (.ListComp aW [⟨.Name x px,aU,ifs,0⟩] sc pos) (XM caps tl tc te):=by
 subst har;exact Z4 (J3 hc cs hN hnd (tc:=upT X.K Z0 tc) (te:=up X.K Z0 te) (J9 hl) ht he hs) λ_ _ _ h=>Aj h
theorem MF (har:X.env.scope=ar)(hc:X.calm=true)(cs:Vp sc ar x N)(hN:caps.map (λi=>X.N[i]?)=N.map some)(hnd:(x::N).Nodup)(hg:Gl X "range")(hm:X.mg "range"=none)(ha:PDA X Z [a] ta)(ht:∀cl C s0 H0 fp pn,W6 (Cx.comp X sc (x::N) cl C s0 H0 fp pn) ifs tc)(he:∀cl C s0 H0 fp pn,PD (Cx.comp X sc (x::N) cl C s0 H0 fp pn) Z0 aW te)(hs:∀y,foldedSetIterable (.Call (.Name "range" p) [a] [] aK) X.env y=pure y:=by intro _;rfl)(hst:starEach [a] X.env=[(false,eval a X.env)]:=by rfl):
  PD X Z (.ListComp aW [⟨.Name x px,.Call (.Name "range" p) [a] [] aK,ifs,0⟩] sc pos) (Wx caps ta tc te):=by
 subst har;exact Z4 (J3 hc cs hN hnd (tc:=upT X.K Z0 tc) (te:=up X.K Z0 te) (HW hg hm ha hst) ht he hs) λ_ _ _ h=>Bz h
theorem Nw {t:TE}{td:TDE}{i:Nat}{F:VQ}{σ:St}{H:Hp}(imp:∀Qv,up X.K Z td σ H Qv->t σ H Qv)(h:upS X.K Z (λE dl S=>td dl S λd S1=>E.nx (dl.set i (some d)) S1) F σ H):t σ H λv H1=>F.nx (σ.set i (some v)) H1:=by
 obtain⟨r,dl,S,E,rs,aZ,h,ret⟩:=h;exact imp _ ⟨r,dl,S,_,rs,aZ,h,λv H1 r1 d S1 x aB p q=>ret.nx _ H1 r1 _ S1 x ((rs.ext x).set i p) aB q⟩
theorem E1 {tl:TDE}{tc:TDT}{te:TDE}{i:Nat}{y:Str}{py spos:Pos}(har:X.env.scope=ar)(hc:X.calm=true)(cs:Vp sc ar x N)(hN:caps.map (λi=>X.N[i]?)=N.map some)(hnd:(x::N).Nodup)(hNd:X.N.Nodup)(hy:X.N[i]?=some y)(hlo:ar.names.lookup y=some .local)
  (hl:PD X Z aU tl)(ht:∀cl C s0 H0 fp pn,W6 (Cx.comp X sc (x::N) cl C s0 H0 fp pn) ifs tc)(he:∀cl C s0 H0 fp pn,PD (Cx.comp X sc (x::N) cl C s0 H0 fp pn) Z0 aW te)
  (hsw:swapsWith (.ListComp aW [⟨.Name x px,aU,ifs,0⟩] sc pos) (some (.Name y py)) spos.line X.env=pure true:=by rfl)
  (hs:∀y,foldedSetIterable aU X.env y=pure y:=by intro _;rfl):PDS X Z (.Assign [.Name y py] (.ListComp aW [⟨.Name x px,aU,ifs,0⟩] sc pos) spos) (S7 i (XM caps tl tc te)):=by
 subst har;exact Yz (Af hc cs hN hnd (tc:=upT X.K Z0 tc) (te:=up X.K Z0 te) (J9 hl) ht he hNd hy hlo hsw hs) λF σ H h=>Nw (λ_ h=>Aj h) h
theorem GP {ta:TDA}{tc:TDT}{te:TDE}{a:Expr}{p aK:Pos}{i:Nat}{y:Str}{py spos:Pos}(har:X.env.scope=ar)(hc:X.calm=true)(cs:Vp sc ar x N)(hN:caps.map (λi=>X.N[i]?)=N.map some)(hnd:(x::N).Nodup)(hNd:X.N.Nodup)(hy:X.N[i]?=some y)
  (hlo:ar.names.lookup y=some .local)(hg:Gl X "range")(hm:X.mg "range"=none)(ha:PDA X Z [a] ta)
  (ht:∀cl C s0 H0 fp pn,W6 (Cx.comp X sc (x::N) cl C s0 H0 fp pn) ifs tc)(he:∀cl C s0 H0 fp pn,PD (Cx.comp X sc (x::N) cl C s0 H0 fp pn) Z0 aW te)
  (hsw:swapsWith (.ListComp aW [⟨.Name x px,.Call (.Name "range" p) [a] [] aK,ifs,0⟩] sc pos) (some (.Name y py)) spos.line X.env=pure true:=by rfl)
  (hs:∀y,foldedSetIterable (.Call (.Name "range" p) [a] [] aK) X.env y=pure y:=by intro _;rfl)(hst:starEach [a] X.env=[(false,eval a X.env)]:=by rfl):
  PDS X Z (.Assign [.Name y py] (.ListComp aW [⟨.Name x px,.Call (.Name "range" p) [a] [] aK,ifs,0⟩] sc pos) spos) (S7 i (Wx caps ta tc te)):=by
 subst har;exact Yz (Af hc cs hN hnd (tc:=upT X.K Z0 tc) (te:=up X.K Z0 te) (HW hg hm ha hst) ht he hNd hy hlo hsw hs) λF σ H h=>Nw (λ_ h=>Bz h) h
@[irreducible] def WL (to te:TDE):TDE:=λdl S Q=>to dl S λx S1=>match x with
 | .ref n=>match S1[n]? with
  | some (.lst _)=>te dl S1 λy S2=>match S2[n]? with
   | some (.lst xs)=>if xs.length<1000 then Q .non (S2.set n (.lst (xs++[y]))) else False
   | _=>False
  | _=>False
 | _=>False
theorem Yy (ho:PD X Z o to)(he:PD X Z e te)(hbase:attributeBase o "append" X.env (eval o X.env)=eval o X.env:=by rfl)(hfew:((backTo aH (starEach [e] X.env)).all (λx=>!x.1)&&(backToKw aH (keywordEach [] X.env)).all (λx=>x.1.isSome)
  &&decide (([e]:List Expr).length+([]:List Keyword).length+(if ([]:List Keyword).isEmpty then 0 else 1)<30))=true:=by rfl)(hline:(aJ.endLine==aH.line)=true:=by rfl)(hst:starEach [e] X.env=[(false,eval e X.env)]:=by rfl):
  PD X Z (.Call (.Attribute o "append" aJ) [e] [] aH) (WL to te):=
 Z4 (BN PySem.F.plainAttrs_list PySem.F.slot_list_append PySem.F.type_list_append Dj ho (Tn he LX hst) hbase hfew hline hst rfl) λσ H Qv h=>by
  obtain⟨r,dl,S,Q,rs,aZ,h,ret⟩:=h;unfold WL at h;refine⟨r,dl,S,_,rs,aZ,h,λv H1 r1 d S1 x1 aB p1 h1=>?_⟩;cases p1 with
  | @ref n a hn=>
   dsimp only at h1;split at h1
   .rename_i xs0 e0;obtain⟨a',ha,ob⟩:=aB.at e0;rw[hn] at ha;cases ha
    obtain⟨ys,hH,_⟩:=ob;refine⟨.inl ⟨rfl,ys,SqL.of hH⟩,r1,dl,S1,_,rs.ext x1,aB,h1,λv2 H2 r2 d2 S2 x2 aC p2 h2=>?_⟩;split at h2
    .rename_i xs1 e1;obtain⟨hlt,h2⟩:=L5 h2;have ha2:=x2.adr n a hn;obtain⟨zs,hH2,pz⟩:=aC.b.ob n a _ ha2 e1;obtain⟨aE,x3⟩:=aC.set ha2 e1 (pz.snoc p2);exact⟨a,zs,v2,rfl,rfl,hH2,by rw[<- pz.1];exact P6 (yM hlt),ret .non _ r2 .non _ (x1.trans (x2.trans x3)) aE .non h2⟩
    .exact h2.elim
   .exact h1.elim
  | _=>exact(show False from h1).elim
def OW:WC:=λds S Q=>match ds with
 | [.tup xs]=>Q (.ref S.length) (S++[.lst xs])
 | [.ref n]=>match lAt S n with
  | some o=>Q (.ref S.length) (S++[.lst (Zo o)])
  | none=>False
 | _=>False
theorem UO:Yr X (.type "list") (upC X.K Z OW):=JP zgI λxs H Qv ⟨r,S,ds,Q,aZ,ps,q,ret⟩=>by
 unfold OW at q;split at q
 .rename_i ys;obtain⟨v,vs,rfl,p1,p2⟩:=ps.uncons;have z:=p2.unnil;subst z;obtain⟨a,zs,rfl,h1,h2⟩:=p1.untup;refine⟨a,zs,rfl,.inr (SqT.of h1),λl hl=>?_⟩;obtain⟨aC,x⟩:=aZ.push hl h2;exact ret _ _ _ (.ref S.length) _ x aC (UB aZ.len) q
 .rename_i n;obtain⟨v,vs,rfl,p1,p2⟩:=ps.uncons;have z:=p2.unnil;subst z;split at q
  .rename_i o eo;obtain⟨eo,eL⟩:=YY eo;obtain⟨a,ha,ob⟩:=aZ.at eo;cases p1 with
   | ref h1=>
    rw[h1] at ha;cases ha
    obtain⟨ys,sq,pr⟩:=ob.list eL;refine⟨_,ys,rfl,.inl sq,λl hl=>?_⟩;obtain⟨aC,x⟩:=aZ.push hl pr;exact ret _ _ _ (.ref S.length) _ x aC (UB aZ.len) q
  .exact q.elim
 .exact q.elim
def YJ:List D->Option (List Bool)
 | []=>some []
 | .bl b::r=>(YJ r).map (b::·)
 | _::_=>none
def Th (g:List Bool->Bool):WC:=λds S Q=>match ds with
 | [.ref n]=>match lAt S n with
  | some o=>match YJ (Zo o) with
   | some bs=>Q (.bl (g bs)) S
   | none=>False
  | none=>False
 | _=>False
theorem EY {r:List Addr}{H:Hp}:∀ {ds:List D} {bs:List Bool} {vs:List V} {us:List Value},YJ ds=some bs->Rps r H ds vs->ZC vs us->us=bs.map Value.bool
 | [],bs,vs,us,e,p,q=>by
  have z:=p.unnil;subst z;cases q;simp[YJ] at e;subst e;rfl
 | d::ds,bs,vs,us,e,p,q=>by
  obtain⟨v,vs',rfl,p1,p2⟩:=p.uncons;cases d with
  | bl b=>
   cases p1;cases q with
   | cons q1 q2=>
    have q1':_=Value.bool b:=q1;subst q1';simp only[YJ,zL] at e;obtain⟨ms,e1,rfl⟩:=e;rw[EY e1 p2 q2];rfl
  | _=>simp[YJ] at e
theorem zaE {bs:List Bool}:(List.range bs.length).all (λi=>bs.getD i false)=bs.all id:=by
 rw[yY];rw[List.all_eq_true,List.all_eq_true];refine⟨λh b hb=>?_,λh i hi=>?_⟩
 .obtain⟨i,hi,e⟩:=yL.mp hb;have hb':=h i (List.mem_range.mpr hi);simpa [hi,e] using hb'
 .have hi':i<bs.length:=List.mem_range.mp hi
  have:=h bs[i] (yW hi');simpa [hi'] using this
theorem zek {prog:Program}{w:World}{A:Around}{bs:List Bool}:TruthOf prog w A (λi v=>(bs.map Value.bool).toArray[i]?=some v) λi=>bs.getD i false:=λi v s Q E hP hQ=>by
  have e:(bs.map Value.bool)[i]?=some v:=by simpa using hP
  rw[zF] at e;cases q:bs[i]? with
  | none=>
   rw[q] at e;cases e
  | some b=>
    rw[q] at e;have z:Value.bool b=v:=by simpa using e
    subst z;have z2:bs.getD i false=b:=by simp[zX,q]
    have hQ':Q (bs.getD i false) s:=hQ;rw[z2] at hQ';exact wpAny_truthy_bool hQ'
theorem zdq {n:Nat}{a:Addr}{o:Ob}{bs:List Bool}{pins:LA}{σ:St}{H:Hp}{s:Shared}{r:List Addr}{S:Sto}{Q:DK}{Qv:VK}{E:Value->Shared->Prop}{g:List Bool->Bool}(G:List Nat->(Nat->Bool)->Bool)
  (hG:G (List.range bs.length) (λi=>bs.getD i false)=g bs)(hc:X.calm=true)(I:Inv X pins σ H s)(aZ:Rel X.K Z r S H)(hn:r[n]?=some a)(eo:lAt S n=some o)(eb:YJ (Zo o)=some bs)(q:Q (.bl (g bs)) S)(ret:Ret X.K Z r H Q Qv):
  wpAny (model X.prog X.w) X.A.in1 (pyIter (.ref a)) (λit s₂=>∃I fp wr n P' St tr,it=.ref I/\Walks X.prog X.w X.A.in1 I fp wr n P' St/\St 0 s₂.heap/\TruthOf X.prog X.w X.A.in1 P' tr/\
   ∀h' tk,(∀b o,b ∉ wr->s₂.heap.get? b=some o->h'.get? b=some o)->EP X pins σ Qv (.bool (G (List.range n) tr)) { s₂ with heap:=h',toks:=tk }) E s:=by
 obtain⟨eo,eL⟩:=YY eo;obtain⟨a',ha,ob⟩:=aZ.at eo;rw[hn] at ha;cases ha
 obtain⟨ys,sq,pr⟩:=ob.list eL;obtain⟨aX,ri,pl,hz⟩:=I.list sq;have eits:=EY eb pr ri;subst eits;refine wpAny_pyIter_list pl.isList ?_;have hne:a≠s.heap.objs.size:=zM (by
  obtain⟨ob,e,_⟩:=pl.isList;exact Heap.lt_size e)
 refine⟨s.heap.objs.size,_,_,_,_,_,λi=>bs.getD i false,rfl,Walks.list (show X.A.in1.handled=none from I.ok.hd hc) _ a hne (bs.map Value.bool).toArray,⟨⟨_,Heap.get?_push_size _ rfl,rfl,rfl⟩,pl.isList.at λo e=>Heap.get?_push_of_some _ e⟩,zek,λh' tk hk=>?_⟩;have ez:(bs.map Value.bool).toArray.size=bs.length:=by simp
 rw[ez,hG];refine⟨.bl (g bs),H,I.kept λb o e=>hk b o (λz=>?_) (Heap.get?_push_of_some _ e),rfl,ret _ _ _ _ _ Ext.refl aZ (.bl _) q⟩;have z':b=s.heap.objs.size:=by simpa using z
 exact absurd (z' ▸ Heap.lt_size e) (yK _)
theorem zcn {id:String}{g:List Bool->Bool}(rule:∀(pins:LA)(σ:St)(H:Hp)(s:Shared)(r:List Addr)(S:Sto)(Q:DK)(Qv:VK)(n:Nat)(a:Addr)(o:Ob)(bs:List Bool),Inv X pins σ H s->Rel X.K Z r S H->r[n]?=some a->lAt S n=some o->YJ (Zo o)=some bs->
   Q (.bl (g bs)) S->Ret X.K Z r H Q Qv->wpAny (model X.prog X.w) X.A (call (.builtin id) [.ref a]) (EP X pins σ Qv) X.xe s):Yr X (.builtin id) (upC X.K Z (Th g)):=by
 intro pins s σ H xs us Qv I rv h;obtain⟨r,S,ds,Q,aZ,ps,q,ret⟩:=h;unfold Th at q;split at q
 .rename_i n;obtain⟨v,vs,rfl,p1,p2⟩:=ps.uncons;have z:=p2.unnil;subst z;split at q
  .rename_i o eo;split at q
   .rename_i bs eb;cases p1 with
    | ref h1=>
     obtain⟨u,rfl,ru⟩:=WN rv;cases ru;exact rule pins σ H s r S Q Qv n _ o bs I aZ h1 eo eb q ret
   .exact q.elim
  .exact q.elim
 .exact q.elim
theorem VJ (hc:X.calm=true):Yr X (.builtin "all") (upC X.K Z (Th λbs=>bs.all id)):=
 zcn λ_ _ _ _ _ _ _ _ _ _ _ _ I aZ h1 eo eb q ret=>call_all_walk (zdq (g:=λbs=>bs.all id) (λl f=>l.all f) zaE hc I aZ h1 eo eb q ret)
@[irreducible] def irr (w:WC):WC:=w
@[irreducible] def Y5 (w:W2):W2:=w
theorem V3 (w:WC):irr w=w:=by unfold irr;rfl
theorem X1 (w:W2):Y5 w=w:=by unfold Y5;rfl
theorem ZW (h:Yr X f (upC X.K Z w)):Yr X f (upC X.K Z (irr w)):=by rw[V3];exact h
theorem zgn (ha:PD X Z a ta)(hb:PD X Z b tb)(hs:Ph b):PD X Z (.Subscript a b pos) (dOp (Y5 wIx) ta tb):=by rw[X1];exact BE ha hb hs
theorem ZE {a b:Expr}{ta tb:TDE}(ha:PD X Z a ta)(hb:PD X Z b tb)(hs:Ph b:=by exact λ_ _=>rfl):PD X Z (.Subscript a b pos) (dOp (Y5 wIx) ta tb):=zgn ha hb hs
theorem Zs (S:Sto)(o:Ob):(S++[o])[S.length]?=some o:=by simp
theorem Vf {S:Sto}{o u:Ob}{n:Nat}(h:S[n]?=some o):(S++[u])[n]?=some o:=by
 rw[zI (zB.mp h).1];exact h
theorem Vi {tl te:TDE}{dl:Ev}{S S1:Sto}{Q:DK}{n:Nat}{o:Ob}(g:D->D)(htl:∀K:DK,K (.ref n) S1->tl dl S K)(h1:S1[n]?=some o)(hl:(Zo o).length<=1000)
  (ht:∀x∈Zo o,∀(S2:Sto)(K:DK),Pre S1 S2->K (g x) S2->te (some x::Z8 caps dl) S2 K)(hq:Q (.ref S1.length) (S1++[.lst ((Zo o).map g)]))(hL:Y2 o=some o:=by rfl):XM caps tl Y6 te dl S Q:=by
 unfold XM;refine htl _ ⟨by rw[ZV h1 hL];rfl,λk m S2=>S2=S1++[.lst (((Zo o).take k).map g)]/\m+k=(Zo o).length,⟨(Zo o).length,by simp,by omega⟩,?_⟩;rintro k m S2 ⟨rfl,hm⟩;rw[ZV (Vf h1) hL];dsimp only;split
 .rename_i x hx;have hk:k<(Zo o).length:=(zB.mp hx).1;unfold Wr Y6;simp only[if_true];refine ht x (zE hx) _ _ Pre.refl.push ?_;rw[Zs];refine⟨by simp;omega,m-1,by omega,?_,by omega⟩;have e:(Zo o).take (k+1)=(Zo o).take k++[x]:=by rw[List.take_succ,hx];rfl
  rw[e,zZ,List.set_append_right _ _ (zC _)];simp
 .rename_i hx;have hk:(Zo o).length<=k:=yP.mp hx;rw[yQ hk];exact hq
theorem zeK (h:YJ (Zo o)=some bs):Y2 o=some o:=by
 cases o<;>first|rfl|cases h
theorem Ap (h:YR (Zo o)=some xs):Y2 o=some o:=by
 cases o<;>first|rfl|cases h
theorem MX (h:S[n]?=some o)(hb:YJ (Zo o)=some bs)(hq:Q (.bl (g bs)) S):irr (Th g) [.ref n] S Q:=by
 rw[V3];unfold Th;simp only[ZV h (zeK hb),hb];exact hq
theorem Vy (h:S[n]?=some o)(hb:YR (Zo o)=some xs)(hne:xs≠[])(hq:∀m,m∈xs->(∀y∈xs,le y m)->Q (.int m) S):irr (TL le two) [.ref n] S Q:=by
 rw[V3];unfold TL;simp only[ZV h (Ap hb),hb];exact⟨hne,hq⟩
theorem UR (h:lAt S n=some o)(hq:Q (.ref S.length) (S++[.lst (Zo o)])):irr OW [.ref n] S Q:=by
 rw[V3];unfold OW;simp only[h];exact hq
theorem YO {to te:TDE}{dl:Ev}{S S1:Sto}{Q:DK}{n:Nat}{xs:List D}{y:D}(hto:∀K:DK,K (.ref n) S1->to dl S K)(h:S1[n]?=some (.lst xs))(hte:∀K:DK,K y S1->te dl S1 K)(hl:xs.length<1000)(hq:Q .non (S1.set n (.lst (xs++[y])))):WL to te dl S Q:=by
 unfold WL;refine hto _ ?_;simp only[h];refine hte _ ?_;simp only[h];exact ifP hl hq
end
theorem SR:Sco n (.tup [.int x,.int y]):=.tup λd hd=>by
 have z:d=.int x\/d=.int y:=by simpa using hd
 rcases z with rfl|rfl<;>exact .int _
open PySem PySem.Spec PyProof.Rows L2 PySem.W Builtin Builtin.ObjectAttr Builtin.Getset_descriptor
structure Nx (K:Frag)(D:Addr):Prop where
 ga:findIn K (.ref D) "__getattribute__"=some (some (.builtin "BaseException.__getattribute__"))
 hk:findIn K (.ref D) "__getattr__"=some none
 ha:findIn K (.ref D) "__class__"=some (some (.builtin "object.__class__"))
 hn:specialIn K (.builtin "object.__class__") "__get__"=some (some (.builtin "getset_descriptor.__get__"))
 ht:takesIn K (.builtin "object.__class__")=some true
 hm:mroIn K D (.type "object")=some true
 hb:mroIn K D (.type "BaseException")=some true
section
variable {X:Cx}{Z:Zx}
end
def eqN:Nat->D->D->Option Bool
 | 0=>eqF
 | k+1=>eqT (eqN k)
theorem CA:∀k,Tf (eqN k)
 | 0=>Tg
 | k+1=>DH (CA k)
theorem Fl:∀k,VY k (eqN k)
 | 0=>Fu 0
 | k+1=>EE (Fl k) (CA k)
def Y8 (f:D->D->Option Bool):List D->D->Option Bool
 | [],_=>some false
 | y::ys,x=>match f y x,Y8 f ys x with
  | some b,some c=>some (b||c)
  | _,_=>none
def wIn (k:Nat)(neg:Bool):W2:=λx y S Q=>match y with
 | .ref n=>match lAt S n with
  | some o=>match Y8 (eqN k) (Zo o) x with
   | some b=>Q (.bl (if neg then !b else b)) S
   | none=>False
  | none=>False
 | _=>False
theorem CK (h:ZD v u)(h':ZD v' u):v=v':=by
 cases v<;>cases v'<;>simp[L2.ZD] at h h'<;>first
  | rfl
  | (subst h;simp at h';subst h';rfl)
  | (obtain⟨t,rfl⟩:=h;simp at h';subst h';rfl)
  | (obtain⟨t,rfl⟩:=h;simp at h')
  | (subst h;simp at h')
  | skip
theorem Ox {r:List Addr}{H:Hp}{d d' x:D}{v:V}{b b':Bool}(p:Rp r H d v)(p':Rp r H d' v)(e:eqF d x=some b)(e':eqF d' x=some b'):b=b':=by
 have z:d=d':=by
  cases p<;>cases p'<;>first
   | rfl
   | (cases x<;>simp[eqF] at e)
   | (cases x<;>simp[eqF] at e')
 subst z;rw[e] at e';exact Option.some.inj e'
theorem DJ {f:D->D->Option Bool}{r:List Addr}{H:Hp}(hf:∀(d d' x:D)(v:V)(b b':Bool),Rp r H d v->Rp r H d' v->f d x=some b->f d' x=some b'->b=b'):
  ∀ {ds ds' zs:List D} {vs:List V} {b b':Bool},Rps r H ds vs->Rps r H ds' vs->eqL f ds zs=some b->eqL f ds' zs=some b'->b=b'
 | [],ds',zs,vs,b,b',p,p',e,e'=>by
  have z:=p.unnil;subst z;cases ds' with
  | nil=>rw[e] at e';exact Option.some.inj e'
  | cons y ys=>exact absurd p'.1 (by simp)
 | d::ds,ds',zs,vs,b,b',p,p',e,e'=>by
  obtain⟨v,vs',rfl,p1,p2⟩:=p.uncons;cases ds' with
  | nil=>exact absurd p'.1 (by simp)
  | cons d' ds'=>
   obtain⟨q1,q2⟩:=p'.tail;cases zs with
   | nil=>
    simp only[eqL,Option.some.injEq] at e e';exact e.symm.trans e'
   | cons z zs=>
    unfold eqL at e e';split at e
    .rename_i b1 c1 a1 a2;split at e'
     .rename_i b2 c2 a3 a4;have h1:=hf d d' z v b1 b2 p1 q1 a1 a3
      have h2:=DJ hf p2 q2 a2 a4;subst h1 h2;simp only[Option.some.injEq] at e e';exact e.symm.trans e'
     .cases e'
    .cases e
theorem HX:∀(k:Nat) {r:List Addr} {H:Hp} (d d' x:D) (v:V) (b b':Bool),Rp r H d v->Rp r H d' v->eqN k d x=some b->eqN k d' x=some b'->b=b'
 | 0,r,H,d,d',x,v,b,b',p,p',e,e'=>Ox p p' e e'
 | k+1,r,H,d,d',x,v,b,b',p,p',e,e'=>by
  cases p with
  | tup h1 l1 f1=>
   cases p' with
   | tup h2 l2 f2=>
    rw[h1] at h2;cases h2
    cases x with
    | tup zs=>exact DJ (λd d' x v b b'=>HX k d d' x v b b') ⟨l1,f1⟩ ⟨l2,f2⟩ e e'
    | _=>simp[eqN,eqT,eqF] at e
   | ref h=>cases x<;>simp[eqN,eqT,eqF] at e'
   | exc h=>cases x<;>simp[eqN,eqT,eqF] at e'
  | non=>exact Ox (x:=x) .non p' (by cases x<;>exact e) (by cases p'<;>cases x<;>exact e')
  | bl i=>exact Ox (x:=x) (.bl i) p' (by cases x<;>exact e) (by cases p'<;>cases x<;>exact e')
  | int i=>exact Ox (x:=x) (.int i) p' (by cases x<;>exact e) (by cases p'<;>cases x<;>exact e')
  | str i=>exact Ox (x:=x) (.str i) p' (by cases x<;>exact e) (by cases p'<;>cases x<;>exact e')
  | ref h=>cases x<;>simp[eqN,eqT,eqF] at e
  | exc h=>cases x<;>simp[eqN,eqT,eqF] at e
theorem ED:∀ {ys:List D} {b:Bool},Y8 f ys x=some b->(∀y∈ys,∃c,f y x=some c)/\(b=true↔∃y∈ys,f y x=some true)
 | [],b,e=>by
  simp only[Y8,Option.some.injEq] at e;subst e;simp
 | y::ys,b,e=>by
  unfold Y8 at e;split at e
  .rename_i b1 c1 e1 e2;obtain⟨h1,h2⟩:=ED e2;simp only[Option.some.injEq] at e;subst e;refine⟨λz hz=>?_,?_⟩
   .rcases zO.mp hz with rfl|hz'
    .exact⟨b1,e1⟩
    .exact h1 z hz'
   .rw[Bool.or_eq_true,h2];refine⟨λq=>?_,λ⟨z,hz,q⟩=>?_⟩
    .rcases q with q|⟨z,hz,q⟩
     .exact⟨y,yR,by rw[e1,q]⟩
     .exact⟨z,yH _ hz,q⟩
    .rcases zO.mp hz with rfl|hz'
     .left
      rw[e1] at q;exact Option.some.inj q
     .exact .inr ⟨z,hz',q⟩
  .cases e
theorem zdc {k:Nat}{pins:LA}{σ:St}{H:Hp}{s:Shared}{r:List Addr}{A:Around}{ds:List D}{vs:List V}{us:List Value}{dx:D}{x:V}{u:Value}{b:Bool}(I:Inv X pins σ H s)(hu:A.units+k<cLine)
  (p:Rps r H ds vs)(rv:ZC vs us)(px:Rp r H dx x)(rx:ZD x u)(e:Y8 (eqN k) ds dx=some b):∃g:Value->Bool,(∀y,y∈us.toArray->SeqAt.EqAt A s y u (g y))/\us.toArray.any g=b:=by
 obtain⟨h1,h2⟩:=ED e;have at_:∀y∈us,∃d v,d∈ds/\Rp r H d v/\ZD v y:=λy hy=>by
  obtain⟨j,hj,ej⟩:=yL.mp hy;have hv:j<vs.length:=by rw[rv.length];exact hj
  have gv:vs[j]?=some vs[j]:=by simp[hv]
  obtain⟨w,gw,rw'⟩:=rv.get gv;obtain⟨d,gd,pd⟩:=p.get' gv;have ew:w=y:=by
   rw[zD hj,ej] at gw;exact(Option.some.inj gw).symm
  subst ew;exact⟨d,_,zE gd,pd,rw'⟩
 classical
 refine⟨λy=>decide (∃d v,d∈ds/\Rp r H d v/\ZD v y/\eqN k d dx=some true),λy hy=>?_,?_⟩
 .obtain⟨d,v,hd,pd,rd⟩:=at_ y (by simpa using hy);obtain⟨c,hc⟩:=h1 d hd;have same:decide (∃d v,d∈ds/\Rp r H d v/\ZD v y/\eqN k d dx=some true)=c:=by
   cases c with
   | true=>exact decide_eq_true ⟨d,v,hd,pd,rd,hc⟩
   | false=>
    refine decide_eq_false λ⟨d',v',_,pd',rd',hc'⟩=>?_
    have ev:=CK rd rd';subst ev;exact absurd (HX k d d' dx v false true pd pd' hc hc') (by decide)
  show SeqAt.EqAt A s y u (decide _);rw[same];exact Fl k X pins σ H s r A d dx v x y u c I hu pd px rd rx hc
 .rw[yY,h2,List.any_toArray,List.any_eq_true];refine⟨λ⟨y,hy,q⟩=>?_,λ⟨d,hd,q⟩=>?_⟩
  .obtain⟨d,v,hd,_,_,q'⟩:=of_decide_eq_true q;exact⟨d,hd,q'⟩
  .obtain⟨j,hj,ej⟩:=yL.mp hd;have gd:ds[j]?=some d:=by simp[hj,ej]
   obtain⟨v,gv,pv⟩:=p.get gd;obtain⟨w,gw,rw'⟩:=rv.get gv;exact⟨w,zE gw,decide_eq_true ⟨d,v,hd,pv,rw',q⟩⟩
theorem zgW (k:Nat)(hu:X.A.units+1+k<cLine):OpR X (compareOp .NotIn) (upO X.K Z (wIn k true)):=by
 intro pins s σ H x y v u Qv I rx ry h;obtain⟨r,S,dx,dy,Q,aZ,px,py,q,ret⟩:=h;cases py with
 | @ref n a hn=>
  unfold wIn at q;dsimp only at q;split at q
  .rename_i o eo;split at q
   .rename_i b eb;cases ry;obtain⟨eo,eL⟩:=YY eo;obtain⟨a',ha,ob⟩:=aZ.at eo;rw[hn] at ha;cases ha
    obtain⟨ys,sq,pr⟩:=ob.list eL;obtain⟨us,ru,pl,_⟩:=I.list sq;obtain⟨g,g1,g2⟩:=zdc (A:=X.A.in1) I (by show X.A.units+1+k<_;omega) pr ru px rx eb;refine SeqAt.notIn_listAt g pl.isList g1 ?_;rw[g2];exact⟨.bl (!b),H,I,rfl,ret _ _ _ _ _ Ext.refl aZ (.bl (!b)) q⟩
   .exact q.elim
  .exact q.elim
 | _=>exact(show False from q).elim
def dForT (i:Nat)(tl:TDE)(tb:TDS):TDS:=λE dl S=>tl dl S λd S1=>match d with
 | .tup xs=>∃W:Nat->Ev->Sto->Prop,W 0 dl S1/\∀k dl S,W k dl S->match xs[k]? with
  | some x=>tb { nx:=λdl' S'=>W (k+1) dl' S',rt:=E.rt,bk:=E.nx,ct:=λdl' S'=>W (k+1) dl' S' } (dl.set i (some x)) S
  | none=>E.nx dl S
 | _=>False
theorem zcp (hp:PassesOwn (model X.prog X.w) X.A X.env X.xe)(hc:X.calm=true)(hN:X.N.Nodup)(hi:X.N[i]?=some x)(hx:Loc X.env.scope x)(hl:PD X Z aU tl)(hb:YE X Z body tb)(hf:X.fn x=true\/X.env.scope.names.lookup x=some .local:=by first|exact .inl rfl|exact .inr rfl|assumption)(hs:∀y,foldedSetIterable aU X.env y=pure y:=by intro _;rfl):PDS X Z (.For (.Name x pos') aU body [] pos) (dForT i tl tb):=
 Yz (SO hp hc (zhe hl) (U9 hN hi hx hf) hb hs) λF σ H ⟨r,dl,S,E,rs,aZ,h,ret⟩=>by
  refine⟨r,dl,S,_,rs,aZ,h,λv H1 r1 d S1 x1 aB p1 q1=>?_⟩;cases p1 with
  | @tup ds xs a e1 l1 f1=>
   obtain⟨W,w0,turn⟩:=q1;have sq:∀ {r':List Addr} {H':Hp},Ext r1 r' H1 H'->SqT X.K H' a xs:=λ{r' H'} x'=>SqT.of (x'.tup _ _ e1)
   refine⟨a,rfl,⟨xs,sq Ext.refl⟩,λk m σ' H'=>m+k=xs.length/\∃r' dl' S',Ext r1 r' H1 H'/\Rs r' H' dl' σ'/\Rel X.K Z r' S' H'/\W k dl' S',⟨xs.length,by omega,r1,dl,S1,Ext.refl,rs.ext x1,aB,w0⟩,?_⟩;rintro k m σ2 H2 ⟨em,r2,dl2,S2,x2,rs2,aC,w2⟩;have q:=turn k dl2 S2 w2;split at q
   .rename_i y ey;have hk:k<ds.length:=(zB.mp ey).1
    have hkx:k<xs.length:=by rw[<- l1];exact hk
    have pv:Rp r2 H2 y xs[k]:=(f1 k y xs[k] ey (by simp[hkx])).ext x2
    have go:∀σ' H' r' dl' S',Ext r2 r' H2 H'->Rs r' H' dl' σ'->Rel X.K Z r' S' H'->W (k+1) dl' S'->∃r' dl' S',Ext r1 r' H1 H'/\Rs r' H' dl' σ'/\Rel X.K Z r' S' H'/\W (k+1) dl' S':=
     λσ' H' r' dl' S' x rs' rel' w'=>⟨r',dl',S',x2.trans x,rs',rel',w'⟩
    refine .inr ⟨⟨xs,xs[k],sq x2,by simp[hkx]⟩,λσ' H'=>∃r' dl' S',Ext r1 r' H1 H'/\Rs r' H' dl' σ'/\Rel X.K Z r' S' H'/\W (k+1) dl' S',λσ' H' z=>⟨m-1,by omega,by omega,z⟩,λv' H' y'=>?_⟩;obtain⟨eH,y'⟩:=y';subst eH;have ev:v'=xs[k]:=by
     have z:=y' xs (sq x2);rw[zD hkx] at z;exact(Option.some.inj z).symm
    subst ev;exact⟨r2,_,S2,_,rs2.set i pv,aC,q,go,λσ' H' r' dl' S' x rs' rel' z=>ret.nx σ' H' r' dl' S' (x1.trans (x2.trans x)) rs' rel' z,go,ret.rt.ext (x1.trans x2)⟩
   .rename_i ey;have aM:ds.length<=k:=yP.mp ey;exact .inl ⟨⟨xs,sq x2,by rw[<- l1];exact aM⟩,ret.nx σ2 H2 r2 dl2 S2 (x1.trans x2) rs2 aC q⟩
  | _=>exact(show False from q1).elim
def V9:List Nat->List D->Ev->Ev
 | i::is,d::ds,dl=>V9 is ds (dl.set i (some d))
 | _,_,dl=>dl
def L0:List Nat->List V->St->St
 | i::is,v::vs,σ=>L0 is vs (σ.set i (some v))
 | _,_,σ=>σ
theorem FL {r:List Addr}{H:Hp}:∀ {is:List Nat} {ds:List D} {vs:List V} {dl:Ev} {σ:St},Rs r H dl σ->Rps r H ds vs->Rs r H (V9 is ds dl) (L0 is vs σ)
 | [],ds,vs,dl,σ,h,p=>by cases ds<;>cases vs<;>exact h
 | i::is,[],vs,dl,σ,h,p=>by
  have z:=p.unnil;subst z;exact h
 | i::is,d::ds,vs,dl,σ,h,p=>by
  obtain⟨v,vs',rfl,p1,p2⟩:=p.uncons;show Rs r H (V9 is ds (dl.set i (some d))) (L0 is vs' (σ.set i (some v)));exact FL (Rs.set i h p1) p2
inductive Nms (X:Cx):List Expr->List Nat->Prop
 | nil:Nms X [] []
 | cons {x:Str} {p:Pos} {i:Nat} {es:List Expr} {is:List Nat}:X.N[i]?=some x->Loc X.env.scope x->(X.fn x=true\/X.env.scope.names.lookup x=some .local)->Nms X es is->Nms X (.Name x p::es) (i::is)
def UN (is:List Nat):TGs:=λvs σ H Q=>vs.length=is.length/\Q (L0 is vs σ) H
theorem Uk (hN:X.N.Nodup):∀ {es:List Expr} {is:List Nat},Nms X es is->PGs X es (UN is)
 | _,_,.nil=>λpins s σ H vs us Q I r h=>by
  obtain⟨e,h⟩:=h;have z:vs=[]:=by simpa using e
  subst z;exact zg3 pins s σ H [] us Q I r ⟨rfl,h⟩
 | _,_,.cons (x:=x) (p:=p) (es:=es) (is:=is) h1 h2 h3 t=>λpins s σ H vs us Q I r h=>by
  obtain⟨e,h⟩:=h;cases vs with
  | nil=>simp at e
  | cons v vs=>exact zcF (U9 hN h1 h2 h3) (Uk hN t) rfl pins s σ H (v::vs) us Q I r ⟨v,vs,rfl,by simpa using e,h⟩
open PySem L2
theorem Ve (S:Sto)(o u:Ob):(S++[o]).set S.length u=S++[u]:=by simp
abbrev wShl:W2:=wI Lo λi j=>.int (i*2^j.toNat)
theorem zgm:OpR X (binaryOp .LShift) (upO X.K Z wShl):=opD za5 λ_ _ _ _=>.int _
def dBits (to:TDE):TDE:=λdl S Q=>to dl S λd S1=>match d with
 | .int i=>Q (.int (Builtin.Int.intBits i)) S1
 | _=>False
theorem zf5:MtR X "int.bit_length" (λx xs H Q=>∃i,x=.int i/\xs=[]/\Q (.int (Builtin.Int.intBits i)) H):=by
 intro pins s σ H x xs v us Q I rx rv h;obtain⟨i,rfl,rfl,q⟩:=h;obtain⟨t,rfl⟩:=rx;cases rv;exact call_int_bit_length ⟨.int _,H,I.tok _,⟨_,rfl⟩,q⟩
theorem zhc (ho:PD X Z o to)(hbase:attributeBase o "bit_length" X.env (eval o X.env)=eval o X.env:=by rfl)(hline:(aJ.endLine==aH.line)=true:=by rfl):
  PD X Z (.Call (.Attribute o "bit_length" aJ) [] [] aH) (dBits to):=
 Z4 (zeT (T:="int") ⟨⟨_,ga_int,canon_ga_int⟩,no_getattr_int⟩ slot_int_bit_length type_int_bit_length zf5 ho hbase hline) λσ H Qv ⟨r,dl,S,Q,rs,aZ,h,ret⟩=>⟨r,dl,S,_,rs,aZ,h,λv H1 r1 d S1 e1 aB p1 q1=>by
  cases p1 with
  | int i=>exact⟨rfl,i,rfl,rfl,ret _ H1 r1 (.int _) S1 e1 aB (.int _) q1⟩
  | _=>exact(show False from q1).elim⟩
def IB:Sd:=λ_ _ _ _=>False
def Df.never {P:Program}{w:World}{K:Fg}{mg:Str->Option Value}{base:Heap}{x:Str}{st:Stmt}{ps:List Str}(k:Nat)(d:Df K mg x st ps):Fk P w K mg base k x ps IB:=
 ⟨d.f,d.fd,⟨λ_ _ _ _ ⟨_,_,_,_,_,_,_,z,_⟩=>z.elim,λ_ _ _ _ _ _ _ _ _ _ _ _ _ ⟨_,_,_,_,_,_,_,z,_⟩=>z.elim⟩,d.m,d.F.kp,d.b⟩
section
variable {X:Cx}{Z:Zx}{pos:Pos}
end
theorem Ga {ta:TDA}{te:TDE}{dl:Ev}{S S1:Sto}{Q:DK}{j:Int}(g:Nat->D)(hta:∀K:List D->Sto->Prop,K [.int j] S1->ta dl S K)(hj:0<=j/\j<=1000)
  (ht:∀k:Nat,k<j.toNat->∀(S2:Sto)(K:DK),Pre S1 S2->K (g k) S2->te (some (.int k)::Z8 caps dl) S2 K)(hq:Q (.ref S1.length) (S1++[.lst ((List.range j.toNat).map g)])):Wx caps ta Y6 te dl S Q:=by
 unfold Wx;refine hta _ ⟨⟨by omega,by omega⟩,λk S2=>S2=S1++[.lst ((List.range k).map g)]/\k<=j.toNat,⟨by simp,by omega⟩,?_⟩;rintro k S2 ⟨rfl,hk⟩;split
 .rename_i hk';unfold Wr Y6;simp only[if_true];refine ht k hk' _ _ Pre.refl.push ?_;rw[Zs];refine⟨by simp;omega,?_,by omega⟩;rw[List.range_succ,zZ,List.set_append_right _ _ (zC _)];simp
 .have e:k=j.toNat:=by omega
  subst e;exact hq
abbrev TDO:=Ev->Sto->(Option Int->Sto->Prop)->Prop
def upP (K:Fg)(Z:Zx)(t:TDO):TO:=λσ H Q=>∃(r:List Addr)(dl:Ev)(S:Sto)(Q':Option Int->Sto->Prop),Rs r H dl σ/\Rel K Z r S H/\t dl S Q'/\∀o H' r' S',Ext r r' H H'->Rel K Z r' S' H'->Q' o S'->Q o H'
def PDO (X:Cx)(Z:Zx)(e:Option Expr)(t:TDO):Prop:=PO X e (upP X.K Z t)
def Jq:TDO:=λ_ S Q=>Q none S
def FO (t:TDE):TDO:=λdl S Q=>t dl S λd S1=>match d with
 | .int i=>Q (some i) S1
 | _=>False
theorem Ba (h:PO X e t)(g:∀σ H Q,t' σ H Q->t σ H Q):PO X e t':=λpins s σ H Q I q=>h pins s σ H Q I (g σ H Q q)
theorem Wt:PDO X Z none Jq:=Ba zdK λσ H Q ⟨r,dl,S,Q',rs,aZ,h,ret⟩=>ret none H r S Ext.refl aZ h
theorem WU (he:PD X Z e t):PDO X Z (some e) (FO t):=Ba (zew he) λσ H Q ⟨r,dl,S,Q',rs,aZ,h,ret⟩=>⟨r,dl,S,_,rs,aZ,h,λv H1 r1 d S1 e1 aB p1 q1=>by
 cases p1 with
 | int i=>exact⟨i,rfl,ret (some i) H1 r1 S1 e1 aB q1⟩
 | _=>exact(show False from q1).elim⟩
section
variable {X:Cx}{Z:Zx}
end
section
variable {X:Cx}{Z:Zx}
end
theorem ZA (ho:S[n]?=some o)(hd:atI (Zo o) i=some d)(hq:Q d S)(hL:Y2 o=some o:=by rfl):Y5 wIx (.ref n) (.int i) S Q:=by
 rw[X1];unfold wIx;simp only[ZV ho hL,hd];exact hq
def U3 (f:Str)(v:D):List (Str×D)->List (Str×D)
 | []=>[(f,v)]
 | p::r=>if p.1=f then (f,v)::r else p::U3 f v r
theorem FR.lookup {r:List Addr}{H:Hp}{f:Str}:∀ {fs:List (Str×D)} {fs':List (Str×V)},FR r H fs fs'->(∀d,fs.lookup f=some d->∃v,fs'.lookup f=some v/\Rp r H d v)/\(fs.lookup f=none->fs'.lookup f=none)
 | [],fs',h=>by
  have e:fs'=[]:=by
   have:=h.1;simpa using this.symm
  subst e;exact⟨λd z=>by simp at z,λ_=>rfl⟩
 | p::fs,[],h=>by
  have:=h.1;simp at this
 | p::fs,q::fs',h=>by
  obtain⟨h1,h2⟩:=h;simp only[yJ,List.cons.injEq] at h1;obtain⟨p1,p2⟩:=h2.tail;obtain⟨i1,i2⟩:=FR.lookup (f:=f) (fs:=fs) (fs':=fs') ⟨h1.2,p2⟩;obtain⟨pk,pv⟩:=p;obtain⟨qk,qv⟩:=q;have ek:pk=qk:=h1.1;subst ek;by_cases z:f=pk
  .subst z;simp only[List.lookup_cons_self];exact⟨λd hd=>⟨qv,rfl,by cases hd;exact p1⟩,λhd=>by cases hd⟩
  .have zb:(f==pk)=false:=by simpa using z
   simp only[zV,zb];exact⟨i1,i2⟩
theorem FR.put {r:List Addr}{H:Hp}{f:Str}{d:D}{v:V}(q:Rp r H d v):∀ {fs:List (Str×D)} {fs':List (Str×V)},FR r H fs fs'->FR r H (U3 f d fs) (YA f v fs')
 | [],fs',h=>by
  have e:fs'=[]:=by
   have:=h.1;simpa using this.symm
  subst e;exact⟨rfl,Rps.cons q Rps.nil⟩
 | p::fs,[],h=>by
  have:=h.1;simp at this
 | p::fs,p'::fs',h=>by
  obtain⟨h1,h2⟩:=h;simp only[yJ,List.cons.injEq] at h1;obtain⟨p1,p2⟩:=h2.tail;have ih:=FR.put (f:=f) q (fs:=fs) (fs':=fs') ⟨h1.2,p2⟩;obtain⟨pk,pv⟩:=p;obtain⟨qk,qv⟩:=p';have ek:pk=qk:=h1.1;subst ek;unfold U3 YA;by_cases z:pk=f
  .rw[if_pos z,if_pos z];exact⟨by simp[h1.2,z],Rps.cons q p2⟩
  .rw[if_neg z,if_neg z];exact⟨by simp[ih.1],Rps.cons p1 ih.2⟩
section
variable {X:Cx}{Z:Zx}{pos:Pos}
def WX (C:Addr)(S:Sto):D->Option (Nat×List (Str×D))
 | .ref n=>match S[n]? with
  | some (.ins C' fs)=>if C'=C then some (n,fs) else none
  | _=>none
 | _=>none
theorem Gw (h:WX C S d=some (n,fs)):d=.ref n/\S[n]?=some (.ins C fs):=by
 unfold WX at h;split at h
 .split at h
  .rename_i m _ C' fs' e;split at h
   .rename_i ec;subst ec;simp only[Option.some.injEq,Prod.mk.injEq] at h;obtain⟨rfl,rfl⟩:=h;exact⟨rfl,e⟩
   .cases h
  .cases h
 .cases h
@[irreducible] def Kl (C:Addr)(f:Str)(to:TDE):TDE:=λdl S Q=>to dl S λd S1=>match WX C S1 d with
 | some (_,fs)=>match fs.lookup f with
  | some v=>Q v S1
  | none=>False
 | none=>False
theorem ZT (c:Cls X.K C)(n:Yp X.K C f)(ho:PD X Z o to)(hb:attributeBase o f X.env (eval o X.env)=eval o X.env:=by rfl):PD X Z (.Attribute o f pos) (Kl C f to):=
 Z4 (ze6 ho hb) λσ H Qv ⟨r,dl,S,Q,rs,aZ,h,ret⟩=>by unfold Kl at h;exact⟨r,dl,S,_,rs,aZ,h,λv H1 r1 d S1 e1 aB p1 q1=>by
  split at q1
  .rename_i m fs ei;obtain⟨rfl,eS⟩:=Gw ei;split at q1
   .rename_i w ew;obtain⟨a,ha,ob⟩:=aB.at eS;obtain⟨dx,fs',eH,fr⟩:=ob;cases p1 with
    | ref hr=>
     rw[hr] at ha;cases ha
     obtain⟨u,hu,pu⟩:=fr.lookup.1 w ew;exact⟨a,C,dx,fs',u,rfl,eH,c,n,hu,ret u H1 r1 w S1 e1 aB pu q1⟩
   .exact q1.elim
  .exact q1.elim⟩
@[irreducible] def NA (C:Addr)(f:Str)(to te:TDE):TDS:=λE dl S=>te dl S λv S1=>to dl S1 λd S2=>match WX C S2 d with
 | some (n,fs)=>fs.length<1000/\E.nx dl (S2.set n (.ins C (U3 f v fs)))
 | none=>False
theorem Xw (c:Cls X.K C)(n:Yp X.K C f)(ho:PD X Z o to)(he:PD X Z e te)(hs:swapsWith e (some (.Attribute o f p2)) pos.line X.env=pure false:=by rfl):PDS X Z (.Assign [.Attribute o f p2] e pos) (NA C f to te):=
 Yz (zaa ho he hs) λF σ H ⟨r,dl,S,E,rs,aZ,h,ret⟩=>by unfold NA at h;exact⟨r,dl,S,_,rs,aZ,h,λv H1 r1 dv S1 e1 aB p1 q1=>⟨r1,dl,S1,_,rs.ext e1,aB,q1,λw H2 r2 d S2 e2 aC p2' q2=>by
  split at q2
  .rename_i m fs ei;obtain⟨rfl,eS⟩:=Gw ei;obtain⟨hl,q2⟩:=q2;obtain⟨a,ha,ob⟩:=aC.at eS;obtain⟨dx,fs',eH,fr⟩:=id ob;cases p2' with
   | ref hr=>
    rw[hr] at ha;cases ha
    have aM:fs'.length=fs.length:=by
     have:=congrArg List.length fr.1;simpa using this.symm
    obtain⟨rb,x⟩:=aC.b.setO (o':=.ins C (U3 f dv fs)) (u:=.ins C dx (YA f v fs')) hr eS rfl rfl λx=>⟨dx,_,YH,(fr.put (p1.ext e2)).ext x⟩
    exact⟨a,C,dx,fs',rfl,eH,c,n,by omega,ret.nx _ _ r2 _ _ (e1.trans (e2.trans x)) (rs.ext (e1.trans (e2.trans x))) ⟨rb,aC.xw.ext x⟩ q2⟩
  .exact q2.elim⟩⟩
@[irreducible] def TF (C:Addr)(m:Str)(ex:Ev->Addr->Sto->Prop)(sd:Sd)(to:TDE)(t:TDA):TDE:=λdl S Q=>to dl S λd S1=>match WX C S1 d with
 | some (_,fs)=>fs.lookup m=none/\t dl S1 λds S2=>sd (d::ds) S2 Q (ex dl)
 | none=>False
theorem zbG (he:PE X o ta)(c:Cls X.K C)(hm:VR X.K C m f)(F:Yc X.prog X.w X.K X.mg X.base (CXE X.prog X.w) k f fd ps sp)(hr:ZP k X.A)(hb:YB X.K fd ps [])(hx:Wa X W)(ha:PA X (e::es) t)(hst:starEach (e::es) X.env=(false,eval e X.env)::starEach es X.env)(hpl:(backTo pos (starEach es X.env)).any (·.1)=false)(ht:eval (.Call (.Attribute o m aJ) (e::es) [] pos) X.env=(do
   let ov <- eval o X.env
   standAt aJ.atName
   let (f,first) <- holding [ov] (getMethod ov m pl)
   callWith pos f first (backTo pos (starEach (e::es) X.env)) (backToKw pos (keywordEach [] X.env)))):
  PE X (.Call (.Attribute o m aJ) (e::es) [] pos) (λσ H Q=>ta σ H λx H1=>∃a dx fs,x=.ref a/\H1 a=some (.ins C dx fs)/\fs.lookup m=none/\t σ H1 λvs H2=>sp (x::vs) H2 Q (W σ)):=by
 intro pins s σ H Q I h;refine PySem.W.methodCall_KW (pl:=pl) (thn (he pins s σ H _ I h) λu s1 ⟨x,H1,I1,rx,a,dx,fs,ex,ea,l,q⟩=>?_) ht;subst ex;obtain rfl:u=Value.ref a:=rx;refine JR I1 ea c hm l ?_;exact PySem.W.callWith_K (first:=[.ref a]) (h₀:=X.base) I.ok.mod.kin hm.kp (thn (ha pos pins s1 σ H1 _ I1 q) λus s2 ⟨vs,H2,I2,r,q2⟩=>⟨I2.kIn,Ls (us:=.ref a::us) (vs:=.ref a::vs) F hr hb hx I2 (.cons rfl r) q2⟩) hst hpl
theorem zbc (he:PE X o ta)(c:Cls X.K C)(hm:VR X.K C m f)(F:Yc X.prog X.w X.K X.mg X.base (CXE X.prog X.w) k f fd ps sp)(hr:ZP k X.A)(hb:YB X.K fd ps [])(hx:Wa X W)(ht:eval (.Call (.Attribute o m aJ) [] [] pos) X.env=(do
   let ov <- eval o X.env
   standAt aJ.atName
   let (f,first) <- holding [ov] (getMethod ov m pl)
   callWith pos f first (backTo pos (starEach [] X.env)) (backToKw pos (keywordEach [] X.env)))):
  PE X (.Call (.Attribute o m aJ) [] [] pos) (λσ H Q=>ta σ H λx H1=>∃a dx fs,x=.ref a/\H1 a=some (.ins C dx fs)/\fs.lookup m=none/\sp [x] H1 Q (W σ)):=by
 intro pins s σ H Q I h;refine PySem.W.methodCall_KW (pl:=pl) (thn (he pins s σ H _ I h) λu s1 ⟨x,H1,I1,rx,a,dx,fs,ex,ea,l,q⟩=>?_) ht;subst ex;obtain rfl:u=Value.ref a:=rx;refine JR I1 ea c hm l ?_;exact PySem.W.callWith_K0 (first:=[.ref a]) I1.kIn hm.kp (Ls (us:=[.ref a]) (vs:=[.ref a]) F hr hb hx I1 (.cons rfl .nil) q)
theorem IK {C:Addr}{r:List Addr}{S:Sto}{H:Hp}{d:D}{v:V}{n:Nat}{fs:List (Str×D)}(aZ:ZZ X.K r S H)(p:Rp r H d v)(h:WX C S d=some (n,fs)):∃a dx fs',v=.ref a/\r[n]?=some a/\H a=some (.ins C dx fs')/\FR r H fs fs':=by
 obtain⟨rfl,eS⟩:=Gw h;obtain⟨a,ha,dx,fs',eH,fr⟩:=aZ.at eS;cases p with
 | ref hr=>
  rw[hr] at ha;cases ha
  exact⟨a,dx,fs',rfl,hr,eH,fr⟩
theorem Wb (ho:PD X ⟨ex,W⟩ o to)(c:Cls X.K C)(hm:VR X.K C m f)(F:Yc X.prog X.w X.K X.mg X.base (CXE X.prog X.w) k f fd ps (upF X.K sd))(hr:ZP k X.A)(hb:YB X.K fd ps [])(hx:Wa X W)(ha:PDA X ⟨ex,W⟩ (e::es) t)(hst:starEach (e::es) X.env=(false,eval e X.env)::starEach es X.env:=by rfl)(hpl:(backTo pos (starEach es X.env)).any (·.1)=false:=by rfl)(ht:eval (.Call (.Attribute o m aJ) (e::es) [] pos) X.env=(do
   let ov <- eval o X.env
   standAt aJ.atName
   let (f,first) <- holding [ov] (getMethod ov m pl)
   callWith pos f first (backTo pos (starEach (e::es) X.env)) (backToKw pos (keywordEach [] X.env))):=by rfl):PD X ⟨ex,W⟩ (.Call (.Attribute o m aJ) (e::es) [] pos) (TF C m ex sd to t):=
 Z4 (zbG ho c hm F hr hb hx ha hst hpl ht) λσ H Qv ⟨r,dl,S,Q,rs,aZ,h,ret⟩=>by unfold TF at h;exact⟨r,dl,S,_,rs,aZ,h,λv H1 r1 d S1 e1 aB p1 q1=>by
  split at q1
  .rename_i n fs ei;obtain⟨hl,q1⟩:=q1;obtain⟨a,dx,fs',rfl,hr1,eH,fr⟩:=IK aB.b p1 ei;exact⟨a,dx,fs',rfl,eH,fr.lookup.2 hl,r1,dl,S1,_,rs.ext e1,aB,q1,λvs H2 r2 ds S2 e2 aC p2 q2=>NI (Z:=⟨ex,W⟩) (rs.ext (e1.trans e2)) aC (Rps.cons (p1.ext e2) p2) q2 (ret.ext (e1.trans e2))⟩
  .exact q1.elim⟩
theorem Ce (ho:PD X ⟨ex,W⟩ o to)(c:Cls X.K C)(hm:VR X.K C m f)(F:Yc X.prog X.w X.K X.mg X.base (CXE X.prog X.w) k f fd ps (upF X.K sd))(hr:ZP k X.A)(hb:YB X.K fd ps [])(hx:Wa X W)(ht:eval (.Call (.Attribute o m aJ) [] [] pos) X.env=(do
   let ov <- eval o X.env
   standAt aJ.atName
   let (f,first) <- holding [ov] (getMethod ov m pl)
   callWith pos f first (backTo pos (starEach [] X.env)) (backToKw pos (keywordEach [] X.env))):=by rfl):PD X ⟨ex,W⟩ (.Call (.Attribute o m aJ) [] [] pos) (TF C m ex sd to PB):=
 Z4 (zbc ho c hm F hr hb hx ht) λσ H Qv ⟨r,dl,S,Q,rs,aZ,h,ret⟩=>by unfold TF at h;exact⟨r,dl,S,_,rs,aZ,h,λv H1 r1 d S1 e1 aB p1 q1=>by
  split at q1
  .rename_i n fs ei;obtain⟨hl,q1⟩:=q1;obtain⟨a,dx,fs',rfl,hr1,eH,fr⟩:=IK aB.b p1 ei;exact⟨a,dx,fs',rfl,eH,fr.lookup.2 hl,NI (Z:=⟨ex,W⟩) (rs.ext e1) aB (Rps.cons p1 Rps.nil) q1 (ret.ext e1)⟩
  .exact q1.elim⟩
def dMake (C:Addr)(ex:Addr->Sto->Prop)(sd:Sd)(t:TDA):TDE:=λdl S Q=>t dl S λds S1=>sd (.ref S1.length::ds) (S1++[.ins C []]) (λd S2=>d=.non/\Q (.ref S1.length) S2) ex
theorem zdf {C x dx:Addr}{r:List Addr}{S:Sto}{H:Hp}(aZ:Rel X.K Z r S H)(h1:H x=none)(h2:H dx=none)(h3:dx≠x):
  Rel X.K Z (r++[x]) (S++[.ins C []]) (upd (upd H dx (.own x)) x (.ins C dx []))/\Ext r (r++[x]) H (upd (upd H dx (.own x)) x (.ins C dx [])):=by
 obtain⟨rb,e⟩:=aZ.b.pushO (o:=.ins C []) (H':=upd (upd H dx (.own x)) x (.ins C dx [])) h1 (λb u q=>by rw[Z1 (VF q h1),Z1 (VF q h2)];exact q) λ_=>⟨dx,[],YH,FR.nil⟩
 exact⟨⟨rb,aZ.xw.ext e⟩,e⟩
theorem A0 {C x:Addr}{r r':List Addr}{n:Nat}{H H':Hp}{Z:Zx}{K:Fg}{Q:DK}{Qv:VK}(ret:Ret K Z r H Q Qv)(e:Ext r r' H H')(hx:r'[n]?=some x):
  Ret K Z r' H' (λd S2=>d=.non/\Q (.ref n) S2) (λv H2=>v=.non/\Qv (.ref x) H2):=λv H2 r2 d S2 e2 aC p2 q2=>by
 obtain⟨rfl,q2⟩:=q2;cases p2;exact⟨rfl,ret _ H2 r2 (.ref n) S2 (e.trans e2) aC (.ref (e2.adr _ _ hx)) q2⟩
theorem UQ {C f:Addr}{fd:FuncData}{k:Nat}{ps:List Str}{sd:Sd}{ex:Addr->Sto->Prop}{W:XK}{x:Str}{p:Pos}{e:Expr}{es:List Expr}{t:TDA}(M:Mk X.K C f)
  (F:Yc X.prog X.w X.K X.mg X.base (CXE X.prog X.w) k f fd ps (upF X.K sd))(hr:ZP (k+1) X.A)(hg:Gl X x)(hm:X.mg x=some (.ref C))(hb:YB X.K fd ps [])(hx:Ma (CXE X.prog X.w) X W)(ha:PDA X (Zc ex W) (e::es) t)
  (hdb:(x==("__debug__":Str))=false:=by decide)(he:starEach (e::es) X.env=(false,eval e X.env)::starEach es X.env:=by rfl)(hpl:(backTo pos (starEach es X.env)).any (·.1)=false:=by rfl):
  PD X (Zc ex W) (.Call (.Name x p) (e::es) [] pos) (dMake C ex sd t):=
 Z4 (zfE M F hr hg hm hb .nil hx ha hdb he hpl) λσ H Qv ⟨r,dl,S,Q,rs,aZ,h,ret⟩=>⟨r,dl,S,_,rs,aZ,h,λvs H1 r1 ds S1 e1 aB p1 q1=>λx dx n1 n2 n3=>by
  obtain⟨aC,e2⟩:=zdf (C:=C) aB n1 n2 n3;show upF X.K sd (.ref x::(vs++[])) _ _ W;rw[yZ];exact⟨ex,_,_,.ref S1.length::ds,_,aC,Rps.cons (UB aB.len) (p1.ext e2),q1,A0 (C:=C) ret (e1.trans e2) (SY aB.len)⟩⟩
end
section
variable {κ:Type} [DecidableEq κ]
end
section
variable {X:Cx}{Z:Zx}{pos:Pos}
end
section
variable {X:Cx}{Z:Zx}{pos:Pos}
end
def Z7 (xs:List D)(lo hi:Option Int):List D:=(xs.drop (HT.sIx xs.length 0 lo)).take (HT.sIx xs.length xs.length hi-HT.sIx xs.length 0 lo)
theorem Rps.drop {r:List Addr}{H:Hp}{ds:List D}{vs:List V}(h:Rps r H ds vs)(k:Nat):Rps r H (ds.drop k) (vs.drop k):=
 ⟨by simp[h.1],λi d v h1 h2=>h.2 (k+i) d v (by simpa using h1) (by simpa using h2)⟩
theorem Rps.take {r:List Addr}{H:Hp}{ds:List D}{vs:List V}(h:Rps r H ds vs)(k:Nat):Rps r H (ds.take k) (vs.take k):=by
 refine⟨by simp[h.1],λi d v h1 h2=>?_⟩;rw[List.getElem?_take] at h1 h2;split at h1
 .rw[if_pos (by assumption)] at h2;exact h.2 i d v h1 h2
 .cases h1
theorem Rps.cut {r:List Addr}{H:Hp}{ds:List D}{vs:List V}(h:Rps r H ds vs)(lo hi:Option Int):Rps r H (Z7 ds lo hi) (TY vs lo hi):=by
 unfold Z7 TY;rw[h.1];exact(h.drop _).take _
@[irreducible] def TR (te:TDE)(tl th:TDO):TDE:=λdl S Q=>te dl S λd S1=>tl dl S1 λl S2=>th dl S2 λu S3=>match d with
 | .ref n=>match lAt S3 n with
  | some o=>Q (.ref S3.length) (S3++[.lst (Z7 (Zo o) l u)])
  | none=>False
 | _=>False
theorem Wq {e:Expr}{te:TDE}{lo hi:Option Expr}{tl th:TDO}{p2:Pos}(he:PD X Z e te)(hl:PDO X Z lo tl)(hu:PDO X Z hi th):PD X Z (.Subscript e (.Slice lo hi none p2) pos) (TR te tl th):=
 Z4 (zbI zhh he hl hu) λσ H Qv ⟨r,dl,S,Q,rs,aZ,h,ret⟩=>by
  unfold TR at h;refine⟨r,dl,S,_,rs,aZ,h,λv H1 r1 d S1 e1 aB p1 q1=>⟨r1,dl,S1,_,rs.ext e1,aB,q1,λl H2 r2 S2 e2 aC q2=>⟨r2,dl,S2,_,rs.ext (e1.trans e2),aC,q2,λu H3 r3 S3 e3 aE q3=>?_⟩⟩⟩;cases p1 with
  | @ref n a hn=>
   dsimp only at q3;split at q3
   .rename_i o eo;obtain⟨eo,eL⟩:=YY eo;obtain⟨a',ha,ob⟩:=aE.at eo;rw[e3.adr _ _ (e2.adr _ _ hn)] at ha;cases ha
    obtain⟨xs,sq,pr⟩:=ob.list eL;refine⟨a,xs,rfl,sq,λp hp=>?_⟩;obtain⟨aF,x⟩:=aE.push hp (pr.cut l u);exact ret _ _ _ (.ref S3.length) _ (e1.trans (e2.trans (e3.trans x))) aF (UB aE.len) q3
   .exact q3.elim
  | _=>exact(show False from q3).elim
theorem WV {te:TDE}{tl th:TDO}{dl:Ev}{S S3:Sto}{Q:DK}{n:Nat}{o:Ob}{lo hi:Option Int}(h:∀K:DK,K (.ref n) S3->te dl S K)(hl:∀K:Option Int->Sto->Prop,K lo S3->tl dl S3 K)(hh:∀K:Option Int->Sto->Prop,K hi S3->th dl S3 K)(ho:S3[n]?=some o)
  (hq:Q (.ref S3.length) (S3++[.lst (Z7 (Zo o) lo hi)]))(hL:Y2 o=some o:=by rfl):TR te tl th dl S Q:=by
 unfold TR;refine h _ (hl _ (hh _ ?_));simp only[ZV ho hL];exact hq
theorem Rps.put {r:List Addr}{H:Hp}{ds:List D}{vs:List V}{d:D}{v:V}(h:Rps r H ds vs)(p:Rp r H d v)(j:Nat):Rps r H (ds.set j d) (vs.set j v):=by
 refine⟨by simp[h.1],λi x y h1 h2=>?_⟩;by_cases z:j=i
 .subst z;have hl:j<ds.length:=by
   have:=(zB.mp h1).1;simpa using this
  rw[yI hl] at h1;rw[yI (by rw[<- h.1];exact hl)] at h2;cases h1;cases h2;exact p
 .rw[zW z] at h1 h2;exact h.2 i x y h1 h2
@[irreducible] def Kf (to ti te:TDE):TDS:=λE dl S=>te dl S λv S1=>to dl S1 λd S2=>ti dl S2 λi S3=>match d,i with
 | .ref n,.int k=>match S3[n]? with
  | some (.lst xs)=>match ixN xs.length k with
   | some j=>E.nx dl (S3.set n (.lst (xs.set j v)))
   | none=>False
  | _=>False
 | _,_=>False
theorem Qp (ho:PD X Z o to)(hi:PD X Z i ti)(he:PD X Z e te)(hs:swapsWithSole [.Subscript o i p2] e pos.line X.env=pure false:=by rfl)(hw:swappedStores [.Subscript o i p2] e X.env=pure none:=by rfl)(h1:(assignEach [.Subscript o i p2] X.env).map (·.2)=[assign (.Subscript o i p2) X.env]:=by rfl)(ha:∀v,assign (.Subscript o i p2) X.env v=(do let ov <- holding [v] (eval o X.env);let iv <- holding [v,ov] (eval i X.env);standAt p2;holding [v,ov,iv] (setItem ov iv v);release [v,ov,iv] []):=by intro _;rfl):PDS X Z (.Assign [.Subscript o i p2] e pos) (Kf to ti te):=
 Yz (A1 he (zhR ho hi zaz ha) hs hw h1) λF σ H ⟨r,dl,S,E,rs,aZ,h,ret⟩=>by
  unfold Kf at h;refine⟨r,dl,S,_,rs,aZ,h,λv H1 r1 dv S1 e1 aB p1 q1=>⟨r1,dl,S1,_,rs.ext e1,aB,q1,λx H2 r2 d S2 e2 aC pd q2=>⟨r2,dl,S2,_,rs.ext (e1.trans e2),aC,q2,λy H3 r3 di S3 e3 aE pi q3=>?_⟩⟩⟩;cases pd with
  | @ref n a hn=>
   cases pi with
   | int k=>
    dsimp only at q3;split at q3
    .rename_i xs eS;split at q3
     .rename_i j ej;have hn3:=e3.adr _ _ hn;obtain⟨ys,eH,pr⟩:=aE.b.ob n a _ hn3 eS;obtain⟨aF,x4⟩:=aE.set hn3 eS (pr.put (p1.ext (e2.trans e3)) j);exact⟨a,ys,k,j,rfl,rfl,eH,by rw[<- pr.1];exact ej,ret.nx _ _ r3 _ _ (e1.trans (e2.trans (e3.trans x4))) (rs.ext (e1.trans (e2.trans (e3.trans x4)))) aF q3⟩
     .exact q3.elim
    .exact q3.elim
   | _=>exact(show False from q3).elim
  | _=>exact(show False from q3).elim
def XB (f:D->D->Option Bool):List D->D->Option (Option Nat)
 | [],_=>some none
 | y::ys,x=>match f y x,XB f ys x with
  | some true,some _=>some (some 0)
  | some false,some o=>some (o.map (·+1))
  | _,_=>none
theorem KW:∀ {ys:List D} {o:Option Nat},XB f ys x=some o->(∀y∈ys,∃c,f y x=some c)/\∀j,o=some j->(∃y,ys[j]?=some y/\f y x=some true)/\∀m y,m<j->ys[m]?=some y->f y x=some false
 | [],o,e=>by
  have h:=Option.some.inj e;subst h;exact⟨(λy hy=>by cases hy),λj z=>by cases z⟩
 | y::ys,o,e=>by
  unfold XB at e;split at e
  .rename_i o1 e1 e2;have h:=Option.some.inj e;subst h;obtain⟨h1,_⟩:=KW e2;refine⟨λz hz=>?_,λj hj=>?_⟩
   .rcases zO.mp hz with rfl|hz
    .exact⟨true,e1⟩
    .exact h1 z hz
   .cases hj;exact⟨⟨y,rfl,e1⟩,λm z hm=>by omega⟩
  .rename_i o1 e1 e2;have h:=Option.some.inj e;subst h;obtain⟨h1,h2⟩:=KW e2;refine⟨λz hz=>?_,λj hj=>?_⟩
   .rcases zO.mp hz with rfl|hz
    .exact⟨false,e1⟩
    .exact h1 z hz
   .obtain⟨k,rfl,rfl⟩:=zL.mp hj;obtain⟨⟨z,hz1,hz2⟩,h3⟩:=h2 k rfl;refine⟨⟨z,by simpa using hz1,hz2⟩,λm w hm hw=>?_⟩;cases m with
    | zero=>
     have:w=y:=by simpa using hw.symm
     rw[this];exact e1
    | succ m=>exact h3 m w (by omega) (by simpa using hw)
  .cases e
theorem zbq {k:Nat}{pins:LA}{σ:St}{H:Hp}{s:Shared}{r:List Addr}{A:Around}{ds:List D}{vs:List V}{us:List Value}{dx:D}{x:V}{u:Value}{j:Nat}(I:Inv X pins σ H s)(hu:A.units+k<cLine)
  (p:Rps r H ds vs)(rv:ZC vs us)(px:Rp r H dx x)(rx:ZD x u)(e:XB (eqN k) ds dx=some (some j)):
  ∃g:Value->Bool,(∀y,y∈us.toArray->SeqAt.EqAt A s y u (g y))/\∃hj:j<us.toArray.size,g us.toArray[j]=true/\∀m (hm:m<us.toArray.size),m<j->g us.toArray[m]=false:=by
 obtain⟨h1,h2⟩:=KW e;obtain⟨⟨yj,hyj,htj⟩,hno⟩:=h2 j rfl
 classical
 have at_:∀(m:Nat)(hm:m<us.length),∃d v,ds[m]?=some d/\Rp r H d v/\ZD v us[m]:=λm hm=>by
  have hv:m<vs.length:=by rw[rv.length];exact hm
  have gv:vs[m]?=some vs[m]:=by simp[hv]
  obtain⟨w,gw,rw'⟩:=rv.get gv;obtain⟨d,gd,pd⟩:=p.get' gv;have ew:w=us[m]:=by
   rw[zD hm] at gw;exact(Option.some.inj gw).symm
  subst ew;exact⟨d,_,gd,pd,rw'⟩
 have val:∀(m:Nat)(hm:m<us.length)(d:D)(c:Bool),ds[m]?=some d->eqN k d dx=some c->decide (∃d v,d∈ds/\Rp r H d v/\ZD v us[m]/\eqN k d dx=some true)=c:=λm hm d c hd hc=>by
  obtain⟨d',v',gd,pd,rd⟩:=at_ m hm;rw[hd] at gd;cases gd
  cases c with
  | true=>exact decide_eq_true ⟨d,v',zE hd,pd,rd,hc⟩
  | false=>
   refine decide_eq_false λ⟨d2,v2,_,pd2,rd2,hc2⟩=>?_
   have ev:=CK rd rd2;subst ev;exact absurd (HX k d d2 dx v' false true pd pd2 hc hc2) (by decide)
 refine⟨λy=>decide (∃d v,d∈ds/\Rp r H d v/\ZD v y/\eqN k d dx=some true),λy hy=>?_,?_⟩
 .have hy':y∈us:=by simpa using hy
  obtain⟨m,hm,rfl⟩:=yL.mp hy';obtain⟨d,v,gd,pd,rd⟩:=at_ m hm;obtain⟨c,hc⟩:=h1 d (zE gd);show SeqAt.EqAt A s us[m] u (decide _);rw[val m hm d c gd hc];exact Fl k X pins σ H s r A d dx v x _ u c I hu pd px rd rx hc
 .have hjl:j<us.length:=by
   have:=(zB.mp hyj).1;rw[p.1,rv.length] at this;exact this
  refine⟨by simpa using hjl,?_,λm hm hmj=>?_⟩
  .have z:=val j hjl yj true hyj htj;simpa using z
  .have hm':m<us.length:=by simpa using hm
   obtain⟨d,v,gd,pd,rd⟩:=at_ m hm';have z:=val m hm' d false gd (hno m d hmj gd);simpa using z
def RK (k:Nat)(d y:D)(S:Sto)(Q:DK):Prop:=match d with
 | .ref n=>match lAt S n with
  | some o=>match XB (eqN k) (Zo o) y with
   | some (some j)=>Q (.int (j:Int)) S
   | _=>False
  | none=>False
 | _=>False
@[irreducible] def TC (k:Nat)(to:TDE)(t:TDA):TDE:=λdl S Q=>to dl S λd S1=>(match d with
 | .ref n=>(lAt S1 n).isSome=true/\t dl S1 λds S2=>match ds with
  | [y]=>RK k d y S2 Q
  | _=>False
 | _=>False)
theorem zcG (hr:ZP j X.A)(hk:k<=3):MtR X "list.index" (λx xs H Qv=>∃(r:List Addr)(S:Sto)(d y:D)(v:V)(Q:DK),Rel X.K Z r S H/\Rp r H d x/\xs=[v]/\Rp r H y v/\RK k d y S Q/\Ret X.K Z r H Q Qv):=by
 intro pins s σ H x xs v us Qv I rx rv h;obtain⟨r,S,d,y,v1,Q,aZ,pd,rfl,py,q,ret⟩:=h;obtain⟨u,rfl,ru⟩:=WN rv;unfold RK at q;split at q
 .rename_i n;split at q
  .rename_i o eo;obtain⟨eo,eL⟩:=YY eo;split at q
   .rename_i i ei;cases pd with
    | @ref n a hn=>
     cases rx;obtain⟨a',ha,ob⟩:=aZ.at eo;rw[hn] at ha;cases ha
     obtain⟨ys,sq,pr⟩:=ob.list eL;obtain⟨aX,ri,pl,hz⟩:=I.list sq;have hun:=hr.un;obtain⟨g,g1,hj,g2,g3⟩:=zbq (A:=X.A.in1) I (by show X.A.units+1+k<_;omega) pr ri py ru ei;obtain⟨ob2,m,e,c,hd,hdat⟩:=pl;obtain⟨oc,od,odat,osl⟩:=ob2;have c':oc=.type "list":=c
     have hdat':odat=.seq aX.toArray m:=hdat;subst c' hdat';refine call_meets PySem.F.slot_list_index ⟨_,e,rfl⟩ PySem.F.entry_list_index (PySem.F.args_list_index_2 _ _) (PySem.SeqAt.list_indexAt a aX.toArray m od osl u g i hj (by
      have:aX.toArray.size<=sizeLine:=by rw[zH,<- ri.length];exact hz
      have h2:=RJ;omega) g2 λm hm h2=>g3 m hm h2) ⟨e,g1,?_⟩
     exact⟨.int (i:Int),H,I.tok _,⟨_,rfl⟩,ret _ H r (.int _) S Ext.refl aZ (.int _) q⟩
   .exact q.elim
  .exact q.elim
 .exact q.elim
theorem DA (hr:ZP j X.A)(hk:k<=3)(ho:PD X Z o to)(ha:PDA X Z [e] t)(hbase:attributeBase o "index" X.env (eval o X.env)=eval o X.env:=by rfl)(hfew:((backTo aH (starEach [e] X.env)).all (λx=>!x.1)&&(backToKw aH (keywordEach [] X.env)).all (λx=>x.1.isSome)
  &&decide ([e].length+([]:List Keyword).length+(if ([]:List Keyword).isEmpty then 0 else 1)<30))=true:=by rfl)(hline:(aJ.endLine==aH.line)=true:=by rfl)(hs:starEach [e] X.env=(false,eval e X.env)::starEach [] X.env:=by rfl)(hplain:(backTo aH (starEach [] X.env)).any (·.1)=false:=by rfl):
  PD X Z (.Call (.Attribute o "index" aJ) [e] [] aH) (TC k to t):=
 Z4 (BN (T:="list") PySem.F.plainAttrs_list PySem.F.slot_list_index PySem.F.type_list_index (zcG (Z:=Z) hr hk) ho ha hbase hfew hline hs hplain) λσ H Qv ⟨r,dl,S,Q,rs,aZ,h,ret⟩=>by
  unfold TC at h;refine⟨r,dl,S,_,rs,aZ,h,λv H1 r1 d S1 e1 aB p1 q1=>?_⟩;cases p1 with
  | @ref n a hn=>
   obtain⟨aQ,q1⟩:=q1;obtain⟨o1,eo⟩:=yO.mp aQ;obtain⟨eo,eL⟩:=YY eo;obtain⟨a',ha',ob⟩:=aB.at eo;rw[hn] at ha';cases ha'
   obtain⟨xs,sq,_⟩:=ob.list eL;refine⟨.inl ⟨rfl,xs,sq⟩,r1,dl,S1,_,rs.ext e1,aB,q1,λvs H2 r2 ds S2 e2 aC p2 q2=>?_⟩;split at q2
   .rename_i y;obtain⟨v2,vs',rfl,p3,p4⟩:=p2.uncons;have z:=p4.unnil;subst z;exact⟨r2,S2,.ref n,y,v2,Q,aC,.ref (e2.adr _ _ hn),rfl,p3,q2,ret.ext (e1.trans e2)⟩
   .exact q2.elim
  | _=>exact(show False from q1).elim
theorem CN {t':Nat}{ch:List Addr}{T:Addr}{xs:List V}{vals:Array Value}(I:Inv X pins σ H s)(k:∀b o,b ∉ ch->s.heap.get? b=some o->h'.get? b=some o)(hch:∀b∈ch,Yd X pins H b)
  (hT:s.heap.objs.size<=T)(ht:h'.IsTuple T vals)(rv:ZC xs vals.toList)(hl:xs.length<=sizeLine):Inv X pins σ (upd H T (.tup xs)) { s with heap:=h',toks:=t' }:=by
 have hTn:H T=none:=I.hok.fresh hT
 have old:∀ {b:Addr} {o:Obj},s.heap.get? b=some o->b≠T:=λ{b o} e z=>absurd (zR (Heap.lt_size e) hT) (by rw[z];exact yK _)
 have trk:∀b u,H b=some u->b ∉ ch:=λb u e z=>by
  rw[(hch b z).1] at e;cases e
 have up:∀b u,H b=some u->(upd H T (.tup xs)) b=some u:=X2 hTn;refine I.step (g':=s.gens) (d':=s.drawn) (ch:=ch) (λb hb=>?_) (λb o _ _ hc e _=>k b o hc e) (λb o _ _ hc e _=>⟨o.slots,k b o hc e⟩) (λb o _ e n=>by rw[Z1 (old e)];exact n)
  (λb o hc e=>⟨o,k b o hc e⟩) (λb ys e=>up _ _ e) (λb o u e=>up _ _ e) (λb ps e=>⟨#[],by rw[up _ _ e];simp⟩) (λm hm=>?_) (λb u e=>?_) I.bare
 .obtain⟨_,f1,_,f3,f4,f5⟩:=hch b hb;exact⟨f3,f1,f4,f5⟩
 .obtain⟨o,es,ep,ho,r⟩:=hm;exact⟨o,es,ep,k _ o (λz=>(hch _ z).2.1 rfl) ho,r⟩
 .by_cases hb:b=T
  .subst hb;rw[YH] at e;cases e;exact⟨hl,vals.toList,rv,by rw[Array.toArray_toList];exact ht⟩
  .rw[Z1 hb] at e;refine(I.hok b u e).stay (λc v hc q=>k c v ?_ q) (λd z=>up _ _ z) λd ys z=>up _ _ z
   rcases hc with z|z
   .rw[z];exact trk b u e
   .exact trk c _ z
theorem NW {t':Nat}{ch:List Addr}(I:Inv X pins σ H s)(k:∀b o,b ∉ ch->s.heap.get? b=some o->h'.get? b=some o)(hch:∀b∈ch,Yd X pins H b):Inv X pins σ H { s with heap:=h',toks:=t' }:=by
 have trk:∀b u,H b=some u->b ∉ ch:=λb u e z=>by
  rw[(hch b z).1] at e;cases e
 refine I.step (g':=s.gens) (d':=s.drawn) (ch:=ch) (λb hb=>?_) (λb o _ _ hc e _=>k b o hc e) (λb o _ _ hc e _=>⟨o.slots,k b o hc e⟩) (λb o _ e n=>n)
  (λb o hc e=>⟨o,k b o hc e⟩) (λb ys e=>e) (λb o u e=>e) (λb ps e=>⟨#[],by rw[e];simp⟩) (λm hm=>?_) (λb u e=>?_) I.bare
 .obtain⟨_,f1,_,f3,f4,f5⟩:=hch b hb;exact⟨f3,f1,f4,f5⟩
 .obtain⟨o,es,ep,ho,r⟩:=hm;exact⟨o,es,ep,k _ o (λz=>(hch _ z).2.1 rfl) ho,r⟩
 .refine(I.hok b u e).stay (λc v hc q=>k c v ?_ q) (λd z=>z) λd ys z=>z
  rcases hc with z|z
  .rw[z];exact trk b u e
  .exact trk c _ z
def Ite (K:Fg)(a:Addr):It:=
 ⟨λi H=>∃xs x,SqL K H a xs/\xs[i]?=some x,λi H x H'=>∃T v,x=.ref T/\H T=none/\H'=upd H T (.tup [.int (i:Int),v])/\∀xs,SqL K H a xs->xs[i]?=some v,λi H=>∃xs,SqL K H a xs/\xs.length=i⟩
theorem ze5 {P:Program}{w:World}{K:Fg}{aL:List Expr}{kk:Nat}{tp:Pos}(a e it:Addr)(hei:e≠it)(hae:a≠e)(hai:a≠it):
  Uh P w K (.Tuple aL kk tp) (Ite K a) [e,it] e (λi h=>(∃old,IsEnum h e it i old)/\h.IsListIter it a i) where
 mem:=by simp
 obj:=λi h st b hb=>by
  obtain⟨⟨old,he⟩,o,e1,c,d⟩:=st;have hb':b=e\/b=it:=by simpa using hb
  rcases hb' with rfl|rfl
  .exact⟨_,he,λv z=>by cases z⟩
  .exact⟨o,e1,λv z=>by rw[d] at z;cases z⟩
 keep:=λi h h' st k=>by
  obtain⟨⟨old,he⟩,hit⟩:=st;exact⟨⟨old,k e (by simp) _ he⟩,hit.at λo x=>k it (by simp) o x⟩
 item:=by
  intro X hP hw hK hc i pins s σ H E I hf st hg;subst hP hw hK;obtain⟨xs,x,hq,hx⟩:=hg;obtain⟨aX,rv,p,hz⟩:=I.list hq;obtain⟨u,hu,ru⟩:=rv.get hx;have hi:i<aX.toArray.size:=by
   have:=(zB.mp hu).1;simpa using this
  have W:=WalksT.enumerate (prog:=X.prog) (w:=X.w) (A:=X.A) (I.ok.hd hc) e it a hei hae hai aX.toArray;refine W.item i s _ _ hi ⟨st.1,st.2,p.isList⟩ λT vals h' tk hP hT ht mid k1=>?_
  obtain⟨t,y,hy,rfl⟩:=hP;have ey:y=u:=by
   have z:aX[i]?=some y:=by simpa using hy
   rw[hu] at z;exact(Option.some.inj z).symm
  subst ey;have hw:∀b∈[e,it],Yd X pins H b:=hf
  have I1:Inv X pins σ (upd H T (.tup [.int (i:Int),x])) { s with heap:=h',toks:=tk }:=CN I k1 hw hT ht (.cons ⟨t,rfl⟩ (.cons ru .nil)) (show 2<=sizeLine from TZ (by decide))
  have neT:∀b∈[e,it],b≠T:=λb hb z=>W.apart i T h' mid (z ▸ hb)
  have hf1:∀b∈[e,it],Yd X pins (upd H T (.tup [.int (i:Int),x])) b:=λb hb=>⟨by rw[Z1 (neT b hb)];exact(hf b hb).1,(hf b hb).2⟩
  refine⟨.ref T,rfl,W.go aL kk tp i T _ _ _ mid λh2 st2 k2=>?_⟩;have I2:Inv X pins σ (upd H T (.tup [.int (i:Int),x])) { s with heap:=h2,toks:=tk }:=NW (s:={ s with heap:=h',toks:=tk }) (t':=tk) I1 k2 hf1;exact⟨.ref T,_,I2,rfl,⟨T,x,rfl,I.hok.fresh hT,rfl,λys hy=>by rw[I.list_inj hy hq];exact hx⟩,⟨st2.1,st2.2.1⟩,λb hb=>(hf1 b hb).1⟩
 done:=by
  intro X hP hw hK hc i pins s σ H E I hf st hg;subst hP hw hK;obtain⟨xs,hq,hx⟩:=hg;obtain⟨aX,rv,p,hz⟩:=I.list hq;have W:=WalksT.enumerate (prog:=X.prog) (w:=X.w) (A:=X.A) (I.ok.hd hc) e it a hei hae hai aX.toArray
  have hi:i=aX.toArray.size:=by rw[zH,<- rv.length];exact hx.symm
  subst hi;exact W.done s _ _ ⟨st.1,st.2,p.isList⟩ λh' tk k1=>⟨rfl,NW (t':=tk) I k1 hf⟩
 self:=λA i s Q E st h=>by
  obtain⟨⟨old,he⟩,_⟩:=st;exact wpAny_pyIter_enum he h
def BF (K:Fg)(ta:TA):TI:=λσ H R=>ta σ H λvs H1=>∃a,vs=[.ref a]/\(∃xs,SqL K H1 a xs)/\R (Ite K a) H1
theorem Eg {a:Expr}{ta:TA}{p pos tp:Pos}{aL:List Expr}{kk:Nat}(hg:Gl X "enumerate")(hm:X.mg "enumerate"=none)(hv:bootBuiltins "enumerate"=some (.type "enumerate"))(ha:PA X [a] ta)(hs:starEach [a] X.env=[(false,eval a X.env)]:=by rfl):
  PI X (.Tuple aL kk tp) (.Call (.Name "enumerate" p) [a] [] pos) (BF X.K ta):=by
 intro pins s σ H R I h;refine Call_ (WE I hg hm hv (PyProof.Rows.callWith_type1 (thn (ha pos pins s σ H _ I h) λus s1 ⟨vs,H1,I1,r1,q1⟩=>?_) hs rfl));obtain⟨l,e,⟨xs,hq⟩,q⟩:=q1;subst e;cases r1 with
 | cons r rr=>
  cases rr;cases r;obtain⟨aX,rv,pl,hz⟩:=I1.list hq;have hll:l<s1.heap.objs.size:=by
   obtain⟨o,e,_⟩:=pl.isList;exact Heap.lt_size e
  refine call_enumerate_list pl.isList λh' he hit hsz hk=>?_
  have I2:Inv X pins σ H1 { s1 with heap:=h' }:=I1.kept (t':=s1.toks) hk;refine wpAny_pyIter_enum he ⟨s1.heap.objs.size+1,[s1.heap.objs.size+1,s1.heap.objs.size],_,_,H1,rfl,I2,ze5 l _ _ (Nat.succ_ne_self _) (zM (Nat.lt_succ_of_lt hll)) (zM hll),⟨⟨_,he⟩,hit⟩,λb hb=>?_,q⟩;have hb':b=s1.heap.objs.size+1\/b=s1.heap.objs.size:=by simpa using hb
  rcases hb' with rfl|rfl
  .exact I1.fpOk (Nat.le_succ _) (I1.hok.fresh (Nat.le_succ _))
  .exact I1.fpOk (zC _) (I1.hok.fresh (zC _))
def Itz (K:Fg)(a b:Addr):It:=
  ⟨λi H=>∃xs ys x y,SqL K H a xs/\SqL K H b ys/\xs[i]?=some x/\ys[i]?=some y,
   λi H x H'=>∃T v u,x=.ref T/\H T=none/\H'=upd H T (.tup [v,u])/\(∀xs,SqL K H a xs->xs[i]?=some v)/\∀ys,SqL K H b ys->ys[i]?=some u,
   λi H=>∃xs ys,SqL K H a xs/\SqL K H b ys/\min xs.length ys.length=i⟩
theorem zbH {P:Program}{w:World}{K:Fg}{aL:List Expr}{kk:Nat}{tp:Pos}(a b z TI TO i1 i2:Addr)(D:ZipApart z TI TO i1 i2 a b):
  Uh P w K (.Tuple aL kk tp) (Itz K a b) [z,TI,TO,i1,i2] z (λi h=>IsZip h z TI TO .none/\IsPair h TI (.ref i1) (.ref i2)/\(∃p q,IsPair h TO p q)/\h.IsListIter i1 a i/\h.IsListIter i2 b i) where
 mem:=by simp
 obj:=λi h st c hc=>by
  obtain⟨hz,hTI,⟨p,q,hTO⟩,⟨o1,e1,c1,d1⟩,o2,e2,c2,d2⟩:=st;have hc':c=z\/c=TI\/c=TO\/c=i1\/c=i2:=by simpa using hc
  rcases hc' with rfl|rfl|rfl|rfl|rfl
  .exact⟨_,hz,λv y=>by cases y⟩
  .exact⟨_,hTI,λv y=>by cases y⟩
  .exact⟨_,hTO,λv y=>by cases y⟩
  .exact⟨o1,e1,λv y=>by rw[d1] at y;cases y⟩
  .exact⟨o2,e2,λv y=>by rw[d2] at y;cases y⟩
 keep:=λi h h' st k=>by
  obtain⟨hz,hTI,⟨p,q,hTO⟩,h1,h2⟩:=st;exact⟨k z (by simp) _ hz,k TI (by simp) _ hTI,⟨p,q,k TO (by simp) _ hTO⟩,h1.at λo x=>k i1 (by simp) o x,h2.at λo x=>k i2 (by simp) o x⟩
 item:=by
  intro X hP hw hK hc i pins s σ H E I hf st hg;subst hP hw hK;obtain⟨xs,ys,x,y,hq,hq2,hx,hy⟩:=hg;obtain⟨aX,rv,p,_⟩:=I.list hq;obtain⟨jts,rv2,p2,_⟩:=I.list hq2;obtain⟨u,hu,ru⟩:=rv.get hx;obtain⟨u2,hu2,ru2⟩:=rv2.get hy;have hi:i<min aX.toArray.size jts.toArray.size:=by
   have z1:=(zB.mp hu).1
   have z2:=(zB.mp hu2).1
   have sizes:aX.toArray.size=aX.length/\jts.toArray.size=jts.length:=⟨by simp,by simp⟩;omega
  have W:=WalksT.zip2 (prog:=X.prog) (w:=X.w) (A:=X.A) (I.ok.hd hc) z TI TO i1 i2 a b D aX.toArray jts.toArray;obtain⟨s1,s2,s3,s4,s5⟩:=st;refine W.item i s _ _ hi ⟨s1,s2,s3,s4,s5,p.isList,p2.isList⟩ λT vals h' tk hP hT ht mid k1=>?_
  obtain⟨v1,v2,hv1,hv2,rfl⟩:=hP;have e1:v1=u:=by
   have z:aX[i]?=some v1:=by simpa using hv1
   rw[hu] at z;exact(Option.some.inj z).symm
  have e2:v2=u2:=by
   have z:jts[i]?=some v2:=by simpa using hv2
   rw[hu2] at z;exact(Option.some.inj z).symm
  subst e1 e2;have sub:∀c∈[z,TO,i1,i2],c∈[z,TI,TO,i1,i2]:=λc hc=>by
   have hc':c=z\/c=TO\/c=i1\/c=i2:=by simpa using hc
   rcases hc' with rfl|rfl|rfl|rfl<;>simp
  have I1:Inv X pins σ (upd H T (.tup [x,y])) { s with heap:=h',toks:=tk }:=CN I k1 (λc hc=>hf c (sub c hc)) hT ht (.cons ru (.cons ru2 .nil)) (show 2<=sizeLine from TZ (by decide))
  have tiT:TI≠T:=λq=>by
   have hl:TI<s.heap.objs.size:=Heap.lt_size s2;rw[q] at hl;exact absurd (zR hl hT) (yK _)
  have neT:∀c∈[z,TI,TO,i1,i2],c≠T:=λc hc q=>by
   have hc':c=TI\/c∈[z,TO,i1,i2]:=by
    have hc2:c=z\/c=TI\/c=TO\/c=i1\/c=i2:=by simpa using hc
    rcases hc2 with rfl|rfl|rfl|rfl|rfl<;>simp
   rcases hc' with rfl|hc'
   .exact tiT q
   .exact W.apart i T h' mid (q ▸ hc')
  have hf1:∀c∈[z,TI,TO,i1,i2],Yd X pins (upd H T (.tup [x,y])) c:=λc hc=>⟨by rw[Z1 (neT c hc)];exact(hf c hc).1,(hf c hc).2⟩
  refine⟨.ref T,rfl,W.go aL kk tp i T _ _ _ mid λh2 st2 k2=>?_⟩;have I2:Inv X pins σ (upd H T (.tup [x,y])) { s with heap:=h2,toks:=tk }:=NW (s:={ s with heap:=h',toks:=tk }) (t':=tk) I1 k2 λc hc=>hf1 c (sub c hc)
  obtain⟨t1,t2,t3,t4,t5,_,_⟩:=st2;exact⟨.ref T,_,I2,rfl,⟨T,x,y,rfl,I.hok.fresh hT,rfl,λzs hz=>by rw[I.list_inj hz hq];exact hx,λzs hz=>by rw[I.list_inj hz hq2];exact hy⟩,⟨t1,t2,t3,t4,t5⟩,λc hc=>(hf1 c hc).1⟩
 done:=by
  intro X hP hw hK hc i pins s σ H E I hf st hg;subst hP hw hK;obtain⟨xs,ys,hq,hq2,hx⟩:=hg;obtain⟨aX,rv,p,_⟩:=I.list hq;obtain⟨jts,rv2,p2,_⟩:=I.list hq2;have W:=WalksT.zip2 (prog:=X.prog) (w:=X.w) (A:=X.A) (I.ok.hd hc) z TI TO i1 i2 a b D aX.toArray jts.toArray
  have hi:i=min aX.toArray.size jts.toArray.size:=by rw[zH,zH,<- rv.length,<- rv2.length];exact hx.symm
  subst hi;have sub:∀c∈[z,TO,i1,i2],c∈[z,TI,TO,i1,i2]:=λc hc=>by
   have hc':c=z\/c=TO\/c=i1\/c=i2:=by simpa using hc
   rcases hc' with rfl|rfl|rfl|rfl<;>simp
  obtain⟨s1,s2,s3,s4,s5⟩:=st;exact W.done s _ _ ⟨s1,s2,s3,s4,s5,p.isList,p2.isList⟩ λh' tk k1=>⟨rfl,NW (t':=tk) I k1 λc hc=>hf c (sub c hc)⟩
 self:=λA i s Q E st h=>wpAny_pyIter_zip st.1 h
theorem zf4 {n l m:Nat}(h1:l<n)(h2:m<n):ZipApart (n+4) (n+2) (n+3) n (n+1) l m:=by
 have ne:∀ {i j:Nat},i<j\/j<i->i≠j:=λ{i j} h z=>by omega
 exact⟨ne (by omega),ne (by omega),ne (by omega),ne (by omega),ne (by omega),ne (by omega),ne (by omega),ne (by omega),ne (by omega),ne (by omega),ne (by omega),ne (by omega),ne (by omega),ne (by omega),ne (by omega),ne (by omega),ne (by omega),ne (by omega)⟩
def iZip (K:Fg)(ta:TA):TI:=λσ H R=>ta σ H λvs H1=>∃a b,vs=[.ref a,.ref b]/\(∃xs,SqL K H1 a xs)/\(∃ys,SqL K H1 b ys)/\R (Itz K a b) H1
theorem J5 {a b:Expr}{ta:TA}{p pos tp:Pos}{aL:List Expr}{kk:Nat}(hg:Gl X "zip")(hm:X.mg "zip"=none)(hv:bootBuiltins "zip"=some (.type "zip"))(ha:PA X [a,b] ta)
  (hs:starEach [a,b] X.env=[(false,eval a X.env),(false,eval b X.env)]:=by rfl)(hs2:starEach [b] X.env=[(false,eval b X.env)]:=by rfl):PI X (.Tuple aL kk tp) (.Call (.Name "zip" p) [a,b] [] pos) (iZip X.K ta):=by
 intro pins s σ H R I h;refine Call_ (WE I hg hm hv (PyProof.Rows.callWith_type1 (thn (ha pos pins s σ H _ I h) λus s1 ⟨vs,H1,I1,r1,q1⟩=>?_) (by rw[hs,hs2]) (by rw[hs2];rfl)));obtain⟨l,m,e,⟨xs,hq⟩,⟨ys,hq2⟩,q⟩:=q1;subst e;cases r1 with
 | cons r rr=>
  cases rr with
  | cons r2 rr=>
   cases rr;cases r;cases r2;obtain⟨aX,rv,pl,_⟩:=I1.list hq;obtain⟨jts,rv2,pl2,_⟩:=I1.list hq2;have h1:l<s1.heap.objs.size:=by
    obtain⟨o,e,_⟩:=pl.isList;exact Heap.lt_size e
   have h2:m<s1.heap.objs.size:=by
    obtain⟨o,e,_⟩:=pl2.isList;exact Heap.lt_size e
   refine call_zip_2 pl.isList pl2.isList λh' hz hTI hTO hi1 hi2 hsz hk=>?_
   have I2:Inv X pins σ H1 { s1 with heap:=h' }:=I1.kept (t':=s1.toks) hk
   have D:=zf4 h1 h2;refine wpAny_pyIter_zip hz ⟨s1.heap.objs.size+4,[s1.heap.objs.size+4,s1.heap.objs.size+2,s1.heap.objs.size+3,s1.heap.objs.size,s1.heap.objs.size+1],_,_,H1,rfl,I2,zbH l m _ _ _ _ _ D,⟨hz,hTI,⟨_,_,hTO⟩,hi1,hi2⟩,λc hc=>?_,q⟩;have hge:s1.heap.objs.size<=c:=by
    have hc':c=s1.heap.objs.size+4\/c=s1.heap.objs.size+2\/c=s1.heap.objs.size+3\/c=s1.heap.objs.size\/c=s1.heap.objs.size+1:=by simpa using hc
    rcases hc' with rfl|rfl|rfl|rfl|rfl
    .exact Nat.le_add_right _ _
    .exact Nat.le_add_right _ _
    .exact Nat.le_add_right _ _
    .exact zC _
    .exact Nat.le_add_right _ _
   exact I1.fpOk hge (I1.hok.fresh hge)
section
variable {X:Cx}{Z:Zx}{pos:Pos}
@[irreducible] def MU (is:List Nat)(ta:TDA)(tb:TDS):TDS:=λE dl S=>ta dl S λds S1=>match ds with
 | [.ref n]=>(lAt S1 n).isSome=true/\∃W:Nat->Nat->Ev->Sto->Prop,(∃m,W 0 m dl S1)/\∀k m dl S,W k m dl S->match lAt S n with
  | some o=>match (Zo o)[k]? with
   | some x=>tb { nx:=λdl' S'=>∃m',m'<m/\W (k+1) m' dl' S',rt:=E.rt,bk:=E.nx,ct:=λdl' S'=>∃m',m'<m/\W (k+1) m' dl' S' } (V9 is [.int (k:Int),x] dl) S
   | none=>k=(Zo o).length/\E.nx dl S
  | none=>False
 | _=>False
theorem XW {r r':List Addr}{S':Sto}{H':Hp}{n:Nat}{a:Addr}{o:Ob}(hn:r'[n]?=some a)(aZ:ZZ X.K r' S' H')(eo:lAt S' n=some o):∃xs,SqL X.K H' a xs/\Rps r' H' (Zo o) xs:=by
 obtain⟨eo,eL⟩:=YY eo;obtain⟨a',ha,ob⟩:=aZ.at eo;rw[hn] at ha;cases ha
 exact ob.list eL
theorem LK {aU:Expr}{body:List Stmt}{es:List Expr}{kk:Nat}{tp p aK:Pos}{is:List Nat}{ta:TDA}{tb:TDS}(hp:PassesOwn (model X.prog X.w) X.A X.env X.xe)(hc:X.calm=true)(hN:X.N.Nodup)(hn:Nms X es is)(h2:is.length=2)
  (hg:Gl X "enumerate")(hm:X.mg "enumerate"=none)(hv:bootBuiltins "enumerate"=some (.type "enumerate"))(ha:PDA X Z [aU] ta)(hb:YE X Z body tb)
  (aM:(assignEach es X.env).length=is.length:=by rfl)(hst:(assignEach es X.env).findIdx? (·.1)=none:=by rfl)(hse:starEach [aU] X.env=[(false,eval aU X.env)]:=by rfl)
  (hs:∀y,foldedSetIterable (.Call (.Name "enumerate" p) [aU] [] aK) X.env y=pure y:=by intro _;rfl):PDS X Z (.For (.Tuple es kk tp) (.Call (.Name "enumerate" p) [aU] [] aK) body [] pos) (MU is ta tb):=
 Yz (SO hp hc (Eg hg hm hv ha hse) (Sw hc (Uk hN hn) aM hst) hb hs) λF σ H ⟨r,dl,S,E,rs,aZ,h,ret⟩=>by
  unfold MU at h;refine⟨r,dl,S,_,rs,aZ,h,λvs H1 r1 ds S1 x1 aB p1 q1=>?_⟩;split at q1
  .rename_i n;obtain⟨v,vs',rfl,p2,p3⟩:=p1.uncons;have z:=p3.unnil;subst z;cases p2 with
   | @ref n a hr=>
    obtain⟨aQ,W,⟨m0,w0⟩,turn⟩:=q1;obtain⟨o1,eo1⟩:=yO.mp aQ;obtain⟨xs1,sq1,_⟩:=XW (r:=r1) hr aB.b eo1;refine⟨a,rfl,⟨xs1,sq1⟩,λk m σ' H'=>∃r' dl' S',Ext r1 r' H1 H'/\Rs r' H' dl' σ'/\Rel X.K Z r' S' H'/\W k m dl' S',⟨m0,r1,dl,S1,Ext.refl,rs.ext x1,aB,w0⟩,?_⟩;rintro k m σ2 H2 ⟨r2,dl2,S2,x2,rs2,aC,w2⟩;have q:=turn k m dl2 S2 w2;split at q
    .rename_i o eo;obtain⟨xs,sq,pr⟩:=XW (r:=r2) (x2.adr _ _ hr) aC.b eo;split at q
     .rename_i y ey;obtain⟨v,hvv,pv⟩:=pr.get ey;refine .inr ⟨⟨xs,v,sq,hvv⟩,λσ' H'=>∃m',m'<m/\∃r' dl' S',Ext r1 r' H1 H'/\Rs r' H' dl' σ'/\Rel X.K Z r' S' H'/\W (k+1) m' dl' S',λ_ _ z=>z,λv' H' y'=>?_⟩;obtain⟨T,w,rfl,hT,rfl,hw⟩:=y';have ew:w=v:=by
       have z:=hw xs sq;rw[hvv] at z;exact(Option.some.inj z).symm
      subst ew;have x3:Ext r2 r2 H2 (upd H2 T (.tup [.int (k:Int),w])):=Mc hT
      have pp:Rps r2 (upd H2 T (.tup [.int (k:Int),w])) [.int (k:Int),y] [.int (k:Int),w]:=Rps.cons (.int _) (Rps.cons (pv.ext x3) Rps.nil)
      have aE:=aC.same (X2 (o:=.tup [.int (k:Int),w]) hT)
      have go:∀σ' H' r' dl' S',Ext r2 r' (upd H2 T (.tup [.int (k:Int),w])) H'->Rs r' H' dl' σ'->Rel X.K Z r' S' H'->(∃m',m'<m/\W (k+1) m' dl' S')->∃m',m'<m/\∃r' dl' S',Ext r1 r' H1 H'/\Rs r' H' dl' σ'/\Rel X.K Z r' S' H'/\W (k+1) m' dl' S':=
       λσ' H' r' dl' S' x rs' rel' ⟨m',hm,w'⟩=>⟨m',hm,r',dl',S',x2.trans (x3.trans x),rs',rel',w'⟩
      refine⟨T,[.int (k:Int),w],rfl,SqT.of YH,by rw[h2];rfl,by rw[h2];rfl,r2,_,S2,_,FL (rs2.ext x3) pp,aE,q,⟨go,λσ' H' r' dl' S' x rs' rel' z=>ret.nx σ' H' r' dl' S' (x1.trans (x2.trans (x3.trans x))) rs' rel' z,go,ret.rt.ext (x1.trans (x2.trans x3))⟩⟩
     .obtain⟨hk,q⟩:=q;exact .inl ⟨⟨xs,sq,by rw[<- pr.1];exact hk.symm⟩,ret.nx σ2 H2 r2 dl2 S2 (x1.trans x2) rs2 aC q⟩
    .exact q.elim
  .exact q1.elim
@[irreducible] def NO (is:List Nat)(ta:TDA)(tb:TDS):TDS:=λE dl S=>ta dl S λds S1=>match ds with
 | [.ref n,.ref n']=>((lAt S1 n).isSome=true/\(lAt S1 n').isSome=true)/\∃W:Nat->Nat->Ev->Sto->Prop,(∃m,W 0 m dl S1)/\∀k m dl S,W k m dl S->match lAt S n,lAt S n' with
  | some o,some o'=>match (Zo o)[k]?,(Zo o')[k]? with
   | some x,some y=>tb { nx:=λdl' S'=>∃m',m'<m/\W (k+1) m' dl' S',rt:=E.rt,bk:=E.nx,ct:=λdl' S'=>∃m',m'<m/\W (k+1) m' dl' S' } (V9 is [x,y] dl) S
   | _,_=>k=min (Zo o).length (Zo o').length/\E.nx dl S
  | _,_=>False
 | _=>False
theorem zdw {i1 i2:Expr}{body:List Stmt}{es:List Expr}{kk:Nat}{tp p aK:Pos}{is:List Nat}{ta:TDA}{tb:TDS}(hp:PassesOwn (model X.prog X.w) X.A X.env X.xe)(hc:X.calm=true)(hN:X.N.Nodup)(hn:Nms X es is)(h2:is.length=2)
  (hg:Gl X "zip")(hm:X.mg "zip"=none)(hv:bootBuiltins "zip"=some (.type "zip"))(ha:PDA X Z [i1,i2] ta)(hb:YE X Z body tb)
  (aM:(assignEach es X.env).length=is.length:=by rfl)(hst:(assignEach es X.env).findIdx? (·.1)=none:=by rfl)(hse:starEach [i1,i2] X.env=[(false,eval i1 X.env),(false,eval i2 X.env)]:=by rfl)(hse2:starEach [i2] X.env=[(false,eval i2 X.env)]:=by rfl)
  (hs:∀y,foldedSetIterable (.Call (.Name "zip" p) [i1,i2] [] aK) X.env y=pure y:=by intro _;rfl):PDS X Z (.For (.Tuple es kk tp) (.Call (.Name "zip" p) [i1,i2] [] aK) body [] pos) (NO is ta tb):=
 Yz (SO hp hc (J5 hg hm hv ha hse hse2) (Sw hc (Uk hN hn) aM hst) hb hs) λF σ H ⟨r,dl,S,E,rs,aZ,h,ret⟩=>by
  unfold NO at h;refine⟨r,dl,S,_,rs,aZ,h,λvs H1 r1 ds S1 x1 aB p1 q1=>?_⟩;split at q1
  .rename_i n n';obtain⟨v,vs',rfl,p2,p3⟩:=p1.uncons;obtain⟨v',vs2,rfl,p4,p5⟩:=p3.uncons;have z:=p5.unnil;subst z;cases p2 with
   | @ref n a hr=>
    cases p4 with
    | @ref n' a' hr'=>
     obtain⟨⟨aQ,hsome'⟩,W,⟨m0,w0⟩,turn⟩:=q1;obtain⟨o1,eo1⟩:=yO.mp aQ;obtain⟨o2,eo2⟩:=yO.mp hsome';obtain⟨xs1,sq1,_⟩:=XW (r:=r1) hr aB.b eo1;obtain⟨ys1,sq2,_⟩:=XW (r:=r1) hr' aB.b eo2;refine⟨a,a',rfl,⟨xs1,sq1⟩,⟨ys1,sq2⟩,λk m σ' H'=>∃r' dl' S',Ext r1 r' H1 H'/\Rs r' H' dl' σ'/\Rel X.K Z r' S' H'/\W k m dl' S',⟨m0,r1,dl,S1,Ext.refl,rs.ext x1,aB,w0⟩,?_⟩;rintro k m σ2 H2 ⟨r2,dl2,S2,x2,rs2,aC,w2⟩;have q:=turn k m dl2 S2 w2;split at q
     .rename_i o o' eo eo';obtain⟨xs,sq,pr⟩:=XW (r:=r2) (x2.adr _ _ hr) aC.b eo;obtain⟨ys,sq',pr'⟩:=XW (r:=r2) (x2.adr _ _ hr') aC.b eo';split at q
      .rename_i y y2 ey ey2;obtain⟨v,hvv,pv⟩:=pr.get ey;obtain⟨u,hvu,pu⟩:=pr'.get ey2;refine .inr ⟨⟨xs,ys,v,u,sq,sq',hvv,hvu⟩,λσ' H'=>∃m',m'<m/\∃r' dl' S',Ext r1 r' H1 H'/\Rs r' H' dl' σ'/\Rel X.K Z r' S' H'/\W (k+1) m' dl' S',λ_ _ z=>z,λv' H' y'=>?_⟩;obtain⟨T,w,w2',rfl,hT,rfl,hw,hw2⟩:=y';have ew:w=v:=by
        have z:=hw xs sq;rw[hvv] at z;exact(Option.some.inj z).symm
       have ew2:w2'=u:=by
        have z:=hw2 ys sq';rw[hvu] at z;exact(Option.some.inj z).symm
       subst ew ew2;have x3:Ext r2 r2 H2 (upd H2 T (.tup [w,w2'])):=Mc hT
       have pp:Rps r2 (upd H2 T (.tup [w,w2'])) [y,y2] [w,w2']:=Rps.cons (pv.ext x3) (Rps.cons (pu.ext x3) Rps.nil)
       have aE:=aC.same (X2 (o:=.tup [w,w2']) hT)
       have go:∀σ' H' r' dl' S',Ext r2 r' (upd H2 T (.tup [w,w2'])) H'->Rs r' H' dl' σ'->Rel X.K Z r' S' H'->(∃m',m'<m/\W (k+1) m' dl' S')->∃m',m'<m/\∃r' dl' S',Ext r1 r' H1 H'/\Rs r' H' dl' σ'/\Rel X.K Z r' S' H'/\W (k+1) m' dl' S':=
        λσ' H' r' dl' S' x rs' rel' ⟨m',hm,w'⟩=>⟨m',hm,r',dl',S',x2.trans (x3.trans x),rs',rel',w'⟩
       exact⟨T,[w,w2'],rfl,SqT.of YH,by rw[h2];rfl,by rw[h2];rfl,r2,_,S2,_,FL (rs2.ext x3) pp,aE,q,⟨go,λσ' H' r' dl' S' x rs' rel' z=>ret.nx σ' H' r' dl' S' (x1.trans (x2.trans (x3.trans x))) rs' rel' z,go,ret.rt.ext (x1.trans (x2.trans x3))⟩⟩
      .obtain⟨hk,q⟩:=q;exact .inl ⟨⟨xs,ys,sq,sq',by rw[<- pr.1,<- pr'.1];exact hk.symm⟩,ret.nx σ2 H2 r2 dl2 S2 (x1.trans x2) rs2 aC q⟩
     .exact q.elim
  .exact q1.elim
end
section
variable {X:Cx}{Z:Zx}{pos:Pos}
@[irreducible] def Nk (T:String)(te:TDE):TDE:=λdl S Q=>te dl S λd S1=>match d with
 | .ref n=>match S1[n]? with
  | some (.lst _)=>Q (.bl (Vb "list" T)) S1
  | _=>False
 | _=>False
theorem zc6 (KT:W.kitOne X.K (.type "list") (.type T)=some (Vb "list" T))(hg:Gl X "isinstance")(hm:X.mg "isinstance"=none)(hg2:Gl X y)(hm2:X.mg y=none)(hv2:bootBuiltins y=some (.type T))(ha:PD X Z e te)(hv:bootBuiltins "isinstance"=some (.builtin "isinstance"):=by exact PyProof.Rows.Boot.«isinstance»)(hn2:y≠"__name__":=by decide)(hd2:(y==("__debug__":Str))=false:=by decide)(he2:starEach [e,.Name y p2] X.env=(false,eval e X.env)::starEach [.Name y p2] X.env:=by rfl)(he3:starEach [.Name y p2] X.env=(false,eval (.Name y p2) X.env)::starEach [] X.env:=by rfl)(hpl:(backTo pos (starEach [.Name y p2] X.env)).any (·.1)=false:=by rfl):
  PD X Z (.Call (.Name "isinstance" p) [e,.Name y p2] [] pos) (Nk T te):=
 Z4 (Ir DN hg hm hv (Tn ha (Tn (AA (v:=.ty T) hg2 hm2 hv2 rfl hn2 hd2) LX he3) he2) (by decide) (by decide) he2 hpl) λσ H Qv ⟨r,dl,S,Q,rs,aZ,h,ret⟩=>
  by unfold Nk at h;exact⟨r,dl,S,_,rs,aZ,h,λv H1 r1 d S1 e1 aB p1 h1=>by
   cases p1 with
   | @ref n a hr=>
    dsimp only at h1;split at h1
    .rename_i xs eS;obtain⟨ys,eH,_⟩:=aB.b.ob n a _ hr eS;exact⟨_,T,_,_,rfl,.lst eH,KT,ret _ _ _ _ _ e1 aB (.bl _) h1⟩
    .exact h1.elim
   | _=>exact(show False from h1).elim⟩
end
theorem zaj (K:Fg):W.kitOne K (.type "list") (.type "list")=some (Vb "list" "list"):=by kernel_rfl
structure Dm (K:Fg)(C:Addr)(m qual:Str)(st:Stmt)(ps:List Str) where
 f:Addr
 fd:FuncData
 F:Fun K m qual st f fd
 m:VR K C m f
 b:YB K fd ps []
structure Fm (P:Program)(w:World)(K:Fg)(mg:Str->Option Value)(base:Heap)(k:Nat)(C:Addr)(x:Str)(ps:List Str)(sd:Sd) where
 f:Addr
 fd:FuncData
 ok:Yc P w K mg base (CXE P w) k f fd ps (upF K sd)
 m:VR K C x f
 b:YB K fd ps []
def Dm.mk' {P:Program}{w:World}{K:Fg}{mg:Str->Option Value}{base:Heap}{k:Nat}{C:Addr}{x qual:Str}{st:Stmt}{ps:List Str}{sd:Sd}(d:Dm K C x qual st ps)(h:Yc P w K mg base (CXE P w) k d.f d.fd ps (upF K sd)):Fm P w K mg base k C x ps sd:=
 ⟨d.f,d.fd,h,d.m,d.b⟩
theorem Us:Ma (CXE P w) X (λ_ _ _=>False):=λ_ _ _ _ _ _ _ h=>by
 obtain⟨_,_,_,_,_,_,_,_,_,_,_,_,q⟩:=h;exact q.elim
theorem Bg (hr:ZP k X.A):OpR X (compareOp .NotIn) (upO X.K Z (Y5 (wIn 1 true))):=by rw[X1];exact zgW 1 (by have:=hr.un;omega)
def Rt:W2:=λx y S Q=>match x,y with
 | .ref n,.ref m=>match S[n]?,S[m]? with
  | some (.lst xs),some (.lst ys)=>xs.length+ys.length<=1000/\Q (.ref S.length) (S++[.lst (xs++ys)])
  | _,_=>False
 | _,_=>False
theorem Rps.app {r:List Addr}{H:Hp}:∀ {ds es:List D} {xs ys:List V},Rps r H ds xs->Rps r H es ys->Rps r H (ds++es) (xs++ys)
 | [],es,xs,ys,p,q=>by
  have z:=p.unnil;subst z;exact q
 | d::ds,es,xs,ys,p,q=>by
  obtain⟨v,vs,rfl,p1,p2⟩:=p.uncons;exact Rps.cons p1 (p2.app q)
theorem N0:OpR X (binaryOp .Add) (upO X.K Z (Y5 Rt)):=by
 rw[X1];exact UA zbU λx y H Qv ⟨r,S,dx,dy,Q,aZ,px,py,q,ret⟩=>by
  unfold Rt at q;split at q
  .rename_i n m;split at q
   .rename_i xs ys e1 e2;obtain⟨hl,q⟩:=q;cases px with
    | @ref _ a hn=>
     cases py with
     | @ref _ a' hm=>
      obtain⟨z,hz,ob⟩:=aZ.at e1;rw[hn] at hz;cases hz
      obtain⟨z,hz,ob'⟩:=aZ.at e2;rw[hm] at hz;cases hz
      obtain⟨us,h1,p1⟩:=ob;obtain⟨vs,h2,p2⟩:=ob';refine⟨a,a',us,vs,rfl,rfl,h1,h2,?_,λp hp=>?_⟩
      .rw[<- p1.1,<- p2.1];exact TZ hl
      .obtain⟨aF,x⟩:=aZ.push hp (p1.app p2);exact ret _ _ _ (.ref S.length) _ x aF (UB aZ.len) q
   .exact q.elim
  .exact q.elim
theorem L6 (h1:S[n]?=some (.lst xs))(h2:S[m]?=some (.lst ys))(hl:xs.length+ys.length<=1000)(hq:Q (.ref S.length) (S++[.lst (xs++ys)])):Y5 Rt (.ref n) (.ref m) S Q:=by
 rw[X1];unfold Rt;simp only[h1,h2];exact⟨hl,hq⟩
def MT (X:Cx)(m:Str)(tbl:List (Addr×Sd)):Prop:=∀C sd,(C,sd)∈tbl->Cls X.K C/\∃(f:Addr)(fd:FuncData)(k:Nat)(ps:List Str),VR X.K C m f/\Yc X.prog X.w X.K X.mg X.base (CXE X.prog X.w) k f fd ps (upF X.K sd)/\ZP k X.A/\YB X.K fd ps []
theorem JD:MT X m []:=λ_ _ h=>by cases h
theorem YM (c:Cls X.K C)(G:Fm X.prog X.w X.K X.mg X.base k C m ps sd)(hr:ZP k X.A)(h:MT X m tbl):MT X m ((C,sd)::tbl):=λC' sd' hm=>by
 rcases zO.mp hm with e|e
 .cases e;exact⟨c,G.f,G.fd,k,ps,G.m,G.ok,hr,G.b⟩
 .exact h C' sd' e
theorem zdT (he:PE X o ta)(M:MT X m tbl)(hx:Wa X W)(ha:PA X (e::es) t)(hst:starEach (e::es) X.env=(false,eval e X.env)::starEach es X.env)(hpl:(backTo pos (starEach es X.env)).any (·.1)=false)(ht:eval (.Call (.Attribute o m aJ) (e::es) [] pos) X.env=(do
   let ov <- eval o X.env
   standAt aJ.atName
   let (f,first) <- holding [ov] (getMethod ov m pl)
   callWith pos f first (backTo pos (starEach (e::es) X.env)) (backToKw pos (keywordEach [] X.env)))):
  PE X (.Call (.Attribute o m aJ) (e::es) [] pos) (λσ H Q=>ta σ H λx H1=>∃a C dx fs sd,x=.ref a/\H1 a=some (.ins C dx fs)/\(C,sd)∈tbl/\fs.lookup m=none/\t σ H1 λvs H2=>upF X.K sd (x::vs) H2 Q (W σ)):=by
 intro pins s σ H Q I h;refine PySem.W.methodCall_KW (pl:=pl) (thn (he pins s σ H _ I h) λu s1 ⟨x,H1,I1,rx,a,C,dx,fs,sd,ex,ea,hm',l,q⟩=>?_) ht;subst ex;obtain rfl:u=Value.ref a:=rx;obtain⟨c,f,fd,k,ps,hm,F,hr,hb⟩:=M C sd hm';refine JR I1 ea c hm l ?_;exact PySem.W.callWith_K (first:=[.ref a]) (h₀:=X.base) I.ok.mod.kin hm.kp (thn (ha pos pins s1 σ H1 _ I1 q) λus s2 ⟨vs,H2,I2,r,q2⟩=>⟨I2.kIn,Ls (us:=.ref a::us) (vs:=.ref a::vs) F hr hb hx I2 (.cons rfl r) q2⟩) hst hpl
@[irreducible] def N8 (tbl:List (Addr×Sd))(m:Str)(ex:Ev->Addr->Sto->Prop)(to:TDE)(t:TDA):TDE:=λdl S Q=>to dl S λd S1=>∃n C fs sd,d=.ref n/\S1[n]?=some (.ins C fs)/\(C,sd)∈tbl/\fs.lookup m=none/\t dl S1 λds S2=>sd (d::ds) S2 Q (ex dl)
theorem Gs (ho:PD X ⟨ex,W⟩ o to)(M:MT X m tbl)(hx:Wa X W)(ha:PDA X ⟨ex,W⟩ (e::es) t)(hst:starEach (e::es) X.env=(false,eval e X.env)::starEach es X.env:=by rfl)(hpl:(backTo pos (starEach es X.env)).any (·.1)=false:=by rfl)(ht:eval (.Call (.Attribute o m aJ) (e::es) [] pos) X.env=(do
   let ov <- eval o X.env
   standAt aJ.atName
   let (f,first) <- holding [ov] (getMethod ov m pl)
   callWith pos f first (backTo pos (starEach (e::es) X.env)) (backToKw pos (keywordEach [] X.env))):=by rfl):PD X ⟨ex,W⟩ (.Call (.Attribute o m aJ) (e::es) [] pos) (N8 tbl m ex to t):=
 Z4 (zdT ho M hx ha hst hpl ht) λσ H Qv ⟨r,dl,S,Q,rs,aZ,h,ret⟩=>by
  unfold N8 at h;refine⟨r,dl,S,_,rs,aZ,h,λv H1 r1 d S1 e1 aB p1 q1=>?_⟩;obtain⟨n,C,fs,sd,rfl,eS,hm,hl,q1⟩:=q1;obtain⟨a,dx,fs',rfl,hr1,eH,fr⟩:=IK (C:=C) (n:=n) (fs:=fs) aB.b p1 (by simp only[WX,eS,if_pos]);exact⟨a,C,dx,fs',sd,rfl,eH,hm,fr.lookup.2 hl,r1,dl,S1,_,rs.ext e1,aB,q1,λvs H2 r2 ds S2 e2 aC p2 q2=>NI (Z:=⟨ex,W⟩) (rs.ext (e1.trans e2)) aC (Rps.cons (p1.ext e2) p2) q2 (ret.ext (e1.trans e2))⟩
theorem G5 {tbl:List (Addr×Sd)}{C:Addr}{m:Str}{ex:Ev->Addr->Sto->Prop}{sd:Sd}{to:TDE}{t:TDA}{dl:Ev}{S S1:Sto}{Q:DK}{n:Nat}{fs:List (Str×D)}(hto:∀K:DK,K (.ref n) S1->to dl S K)(h:S1[n]?=some (.ins C fs))(hm:(C,sd)∈tbl)(hf:fs.lookup m=none)(hq:t dl S1 λds S2=>sd (.ref n::ds) S2 Q (ex dl)):N8 tbl m ex to t dl S Q:=by
 unfold N8;exact hto _ ⟨n,C,fs,sd,rfl,h,hm,hf,hq⟩
structure Kx (K:Fg)(C:Addr):Prop where
 cl:Cls K C
 ha:W.findIn K (.ref C) "__class__"=some (some (.builtin "object.__class__"))
 hn:W.specialIn K (.builtin "object.__class__") "__get__"=some (some (.builtin "getset_descriptor.__get__"))
 ht:W.takesIn K (.builtin "object.__class__")=some true
 hm:W.mroIn K C (.type "object")=some true
section
variable {X:Cx}{Z:Zx}
end
section
variable {n:Nat}{I:Addr}{fp wr:List Addr}{P:Nat->Value->Prop}{St:Nat->Shared->Prop}{prog:Program}{w:World}{A:Around}{s:Shared}{E:Value->Shared->Prop}{G:Array GenState->Array GenState->Prop}
end
section
variable {X:Cx}{Z:Zx}
end
def OI (k:Nat)(caps:List Nat)(wi:TI)(gt:TG)(te:TE):TE:=λσ H Q=>wi σ H λJ H1=>∀D,H1 D=none->∃W:Nat->Nat->Hp->Prop,(∃m,W 0 m (upd H1 D (.lst [])))/\∀i m H,W i m H->
 (J.stop i H/\Q (.ref D) H)\/(J.go i H/\∀x H',J.yld i H x H'->∀o:St,o.length=k->gt x (o++Yb caps σ) H' λσ8 H8=>(∃o8:St,o8.length=k/\σ8=o8++Yb caps σ)/\
  te σ8 H8 λy H3=>∃ys,H3 D=some (.lst ys)/\ys.length<sizeLine/\∃m',m'<m/\W (i+1) m' (upd H3 D (.lst (ys++[y]))))
section
variable {X:Cx}{pins:LA}{σ:St}{H:Hp}{s:Shared}
end
theorem C6 (hc:X.calm=true)(cs:XQ sc X.env.scope own N)(hN:∀(j:Nat)(y:Str),N[j]?=some y->∃i,caps[j]?=some i/\X.N[i]?=some y)(aM:caps.length=N.length)(hi:PI X (.Tuple aL kk tp) aU wi)(hg:∀cl C s0 H0 fp pn,PG (Cx.comp X sc (own++N) cl C s0 H0 fp pn) (.Tuple aL kk tp) gt)(he:∀cl C s0 H0 fp pn,PE (Cx.comp X sc (own++N) cl C s0 H0 fp pn) aW te)(hs:∀y,foldedSetIterable aU X.env y=pure y)(I:Inv X pins σ H s)(h:OI own.length caps wi gt te σ H Q)(aY:∀D C s',Qu X pins σ C Q D s'->compPost (model X.prog X.w) X.A X.xe use Qr (.ref D) C (.ok .next) s'):
  wpAny (model X.prog X.w) X.A (comprehension (.ListComp aW [⟨.Tuple aL kk tp,aU,[],0⟩] sc pos) sc X.env p2 (newList []) false (eval aU X.env) use) Qr X.xe s:=
 Gz (tc:=λ_ H K=>K true H) hc cs hN aM hi hg he (λ_ _ _ _ _ _=>Bq) hs I h (λ_ _ b=>b) aY
theorem zfv (hc:X.calm=true)(cs:XQ sc X.env.scope own N)(hN:caps.map (λi=>X.N[i]?)=N.map some)
  (hi:PI X (.Tuple aL kk tp) aU wi)(hg:∀cl C s0 H0 fp pn,PG (Cx.comp X sc (own++N) cl C s0 H0 fp pn) (.Tuple aL kk tp) gt)(he:∀cl C s0 H0 fp pn,PE (Cx.comp X sc (own++N) cl C s0 H0 fp pn) aW te)
  (hs:∀y,foldedSetIterable aU X.env y=pure y:=by intro _;rfl):PE X (.ListComp aW [⟨.Tuple aL kk tp,aU,[],0⟩] sc pos) (OI own.length caps wi gt te):=by
 intro pins s σ H Q I h;rw[eval_ListComp];refine C6 (use:=none) hc cs (Xl hN).1 (Xl hN).2 hi hg he hs I h λD C s' f=>?_
 obtain⟨⟨H',I',q,hC⟩,⟨m,ns⟩,l,o,c,p⟩:=f;exact⟨m,ns,λh' sb=>⟨.ref D,H',I'.turned (t':=s'.toks) (λb ob hb e=>(sb.2 b hb).trans e) hC l (.inr o) c p,rfl,q⟩⟩
section
variable {X:Cx}{Z:Zx}{aW:Expr}{pos:Pos}{sc ar:Scope}{N:List Str}{caps:List Nat}
def Dy (caps:List Nat)(te:TDE)(k:Nat)(dl:Ev)(d1 d2:D)(S:Sto)(nx:Sto->Prop):Prop:=
 te (some d1::some d2::Z8 caps dl) S λy S2=>match S2[k]? with
  | some (.lst ys)=>ys.length<1000/\nx (S2.set k (.lst (ys++[y])))
  | _=>False
theorem Et {r:List Addr}{H:Hp}{dl:Ev}{σ:St}{d1 d2:D}{v1 v2:V}(h:Rs r H dl σ)(p1:Rp r H d1 v1)(p2:Rp r H d2 v2):Rs r H (some d1::some d2::Z8 caps dl) (some v1::some v2::Yb caps σ):=by
 have z:=K4 (caps:=caps) h p2;refine⟨by have:=z.1;simp only[zU] at this ⊢;omega,λi e hi=>?_⟩;cases i with
 | zero=>simp at hi;subst hi;exact⟨v1,rfl,p1⟩
 | succ i=>exact z.2 i e (by simpa using hi)
end
def OT:WC:=λds S Q=>match ds with
 | [.ref n]=>match lAt S n with
  | some o=>match YR (Zo o) with
   | some ns=>Q (.int ns.sum) S
   | none=>False
  | none=>False
 | _=>False
theorem Mz (hc:X.calm=true):Yr X (.builtin "sum") (upC X.K Z OT):=by
 intro pins s σ H xs us Qv I rv h;obtain⟨r,S,ds,Q,aZ,ps,q,ret⟩:=h;unfold OT at q;split at q
 .rename_i n;obtain⟨v,vs,rfl,p1,p2⟩:=ps.uncons;have z:=p2.unnil;subst z;split at q
  .rename_i o eo;split at q
   .rename_i ns en;cases p1 with
    | ref h1=>
     obtain⟨eo,eL⟩:=YY eo;obtain⟨a,ha,ob⟩:=aZ.at eo;rw[h1] at ha;cases ha
     obtain⟨ys,sq,pr⟩:=ob.list eL;obtain⟨u,rfl,ru⟩:=WN rv;cases ru;obtain⟨aX,ri,pl,hz⟩:=I.list sq;obtain⟨zs,hz1,hz2⟩:=Kc en pr ri;have isl:=pl.isList;rw[hz1] at isl;refine sum_intListG (I.ok.hd hc) isl λh' tk t' hk=>?_
     have e:preSum (numAt zs.toArray) zs.toArray.size=ns.sum:=by
      rw[preSum_eq,yQ (by simp)];show (zs.map (·.1)).sum=ns.sum;rw[hz2]
     rw[e];exact⟨.int _,H,I.kept hk,⟨_,rfl⟩,ret _ _ _ _ _ Ext.refl aZ (.int _) q⟩
   .exact q.elim
  .exact q.elim
 .exact q.elim
section
variable {X:Cx}{Z:Zx}
end
theorem MJ:∀ {us:List Value} {ms:List Int},IntsAre us ms->ZC (ms.map V.int) us
 | _,_,.nil=>.nil
 | _,_,.cons n t h=>.cons ⟨t,rfl⟩ (MJ h)
def ME:W2:=λx y S Q=>match x,y with
 | .ref n,.int k=>match S[n]? with
  | some (.lst xs)=>(0<=k/\k<=1000/\xs.length*k.toNat<=1000)/\Q (.ref S.length) (S++[.lst (List.replicate k.toNat xs).flatten])
  | _=>False
 | _,_=>False
theorem Rps.rep {r:List Addr}{H:Hp}{ds:List D}{xs:List V}(h:Rps r H ds xs):∀k:Nat,Rps r H (List.replicate k ds).flatten (List.replicate k xs).flatten
 | 0=>Rps.nil
 | k+1=>by
  simp only[yV,xB];exact h.app (Rps.rep h k)
theorem zfu:OpR X (binaryOp .Mult) (upO X.K Z (Y5 ME)):=by
 rw[X1];exact UA zcV λx y H Qv ⟨r,S,dx,dy,Q,aZ,px,py,q,ret⟩=>by
  unfold ME at q;split at q
  .rename_i n k;split at q
   .rename_i xs e1;obtain⟨⟨h0,h1,hl⟩,q⟩:=q;cases py;cases px with
    | @ref _ a hn=>
     obtain⟨z,hz,ob⟩:=aZ.at e1;rw[hn] at hz;cases hz
     obtain⟨us,g1,p1⟩:=ob;refine⟨a,k,us,rfl,rfl,g1,by omega,by omega,by rw[<- p1.1];exact TZ hl,λp hp=>?_⟩;obtain⟨aF,x⟩:=aZ.push hp (p1.rep k.toNat);exact ret _ _ _ (.ref S.length) _ x aF (UB aZ.len) q
   .exact q.elim
  .exact q.elim
theorem za1 (h1:S[n]?=some (.lst xs))(hk:0<=k/\k<=1000)(hl:xs.length*k.toNat<=1000)(hq:Q (.ref S.length) (S++[.lst (List.replicate k.toNat xs).flatten])):Y5 ME (.ref n) (.int k) S Q:=by
 rw[X1];unfold ME;simp only[h1];exact⟨⟨hk.1,hk.2,hl⟩,hq⟩
section
variable {X:Cx}{Z:Zx}{aW:Expr}{pos:Pos}{sc ar:Scope}{N:List Str}{caps:List Nat}
@[irreducible] def TN (caps:List Nat)(ta:TDA)(te:TDE):TDE:=λdl S Q=>ta dl S λds S1=>match ds with
 | [.ref n,.ref n']=>((lAt S1 n).isSome=true/\(lAt S1 n').isSome=true)/\∃W:Nat->Nat->Sto->Prop,(∃m,W 0 m (S1++[.lst []]))/\∀k m S2,W k m S2->match lAt S2 n,lAt S2 n' with
  | some o,some o'=>match (Zo o)[k]?,(Zo o')[k]? with
   | some x,some y=>Dy caps te S1.length dl x y S2 λS3=>∃m',m'<m/\W (k+1) m' S3
   | _,_=>k=min (Zo o).length (Zo o').length/\Q (.ref S1.length) S2
  | _,_=>False
 | _=>False
theorem De (h:up X.K Z (TN caps ta te) σ H Qv):
  OI 2 caps (iZip X.K (upA X.K Z ta)) (Uo X.K 2 (UN [0,1])) (up X.K Z0 te) σ H Qv:=by
 obtain⟨r,dl,S,Q,rs,aZ,h,ret⟩:=h;unfold TN at h;refine⟨r,dl,S,_,rs,aZ,h,λvs H1 r1 ds S1 x1 aB p1 q1=>?_⟩;split at q1
 .rename_i n n';obtain⟨v,vs',rfl,p2,p3⟩:=p1.uncons;obtain⟨v',vs2,rfl,p4,p5⟩:=p3.uncons;have z:=p5.unnil;subst z;cases p2 with
  | @ref n a hr=>
   cases p4 with
   | @ref n' a' hr'=>
    obtain⟨⟨aQ,hsome'⟩,W,⟨m0,w0⟩,turn⟩:=q1;obtain⟨o1,eo1⟩:=yO.mp aQ;obtain⟨o2,eo2⟩:=yO.mp hsome';obtain⟨xs1,sq1,_⟩:=XW (r:=r1) hr aB.b eo1;obtain⟨ys1,sq2,_⟩:=XW (r:=r1) hr' aB.b eo2;refine⟨a,a',rfl,⟨xs1,sq1⟩,⟨ys1,sq2⟩,λD0 hD=>?_⟩;obtain⟨aC,x2⟩:=aB.b.push (ds:=[]) (xs:=[]) hD Rps.nil;refine⟨λk m H'=>∃r' S',Ext (r1++[D0]) r' (upd H1 D0 (.lst [])) H'/\ZZ X.K r' S' H'/\W k m S',⟨m0,_,_,Ext.refl,aC,w0⟩,?_⟩;rintro k m H2 ⟨r2,S2,x3,rb2,w2⟩;have ha2:r2[S1.length]?=some D0:=x3.adr _ _ (SY aB.len)
    have hr2:r2[n]?=some a:=(x2.trans x3).adr _ _ hr
    have hr2':r2[n']?=some a':=(x2.trans x3).adr _ _ hr'
    have q:=turn k m S2 w2;split at q
    .rename_i o o' eo eo';obtain⟨xs,sq,pr⟩:=XW (r:=r2) hr2 rb2 eo;obtain⟨ys,sq',pr'⟩:=XW (r:=r2) hr2' rb2 eo';split at q
     .rename_i y y2 ey ey2;obtain⟨v,hv,pv⟩:=pr.get ey;obtain⟨u,hvu,pu⟩:=pr'.get ey2;refine .inr ⟨⟨xs,ys,v,u,sq,sq',hv,hvu⟩,λv' H' y' o8 ho8=>?_⟩;obtain⟨T,w,w2',rfl,hT,rfl,hw,hw2⟩:=y';have ew:w=v:=by
       have z:=hw xs sq;rw[hv] at z;exact(Option.some.inj z).symm
      have ew2:w2'=u:=by
       have z:=hw2 ys sq';rw[hvu] at z;exact(Option.some.inj z).symm
      subst ew ew2;obtain⟨c1,c2,rfl⟩:∃c1 c2,o8=[c1,c2]:=by
       match o8,ho8 with
       | [c1,c2],_=>exact⟨c1,c2,rfl⟩
      have x4:Ext r2 r2 H2 (upd H2 T (.tup [w,w2'])):=Mc hT
      have rb3:=rb2.same (X2 (o:=.tup [w,w2']) hT)
      have rs3:=rs.ext (x1.trans (x2.trans (x3.trans x4)));refine⟨T,[w,w2'],rfl,SqT.of YH,rfl,rfl,⟨[some w,some w2'],rfl,rfl⟩,?_⟩;have rsY:=Et (caps:=caps) rs3 (pv.ext x4) (pu.ext x4);refine⟨r2,_,S2,_,rsY,⟨rb3,λ_ _ _ _ _ _ _ _ _ z=>z.elim⟩,q,λz H4 r4 dz S4 x6 aF p4 q4=>?_⟩;split at q4
      .rename_i ys eys;obtain⟨hl,m',hm,q4⟩:=q4;have ha4:r4[S1.length]?=some D0:=x6.adr _ _ ha2;obtain⟨zs,hD4,pz⟩:=aF.b.ob _ _ _ ha4 eys;obtain⟨rel5,x7⟩:=aF.b.set ha4 eys (pz.snoc p4);exact⟨zs,hD4,by rw[<- pz.1];exact P6 (yM hl),m',hm,r4,_,x3.trans (x4.trans (x6.trans x7)),rel5,q4⟩
      .exact q4.elim
     .obtain⟨hk,q⟩:=q;exact .inl ⟨⟨xs,ys,sq,sq',by rw[<- pr.1,<- pr'.1];exact hk.symm⟩,ret _ H2 r2 _ S2 (x1.trans (x2.trans x3)) ⟨rb2,aZ.xw.ext (x1.trans (x2.trans x3))⟩ (.ref ha2) q⟩
    .exact q.elim
 .exact q1.elim
theorem KA (har:X.env.scope=ar)(hc:X.calm=true)(cs:XQ sc ar [x1,x2] N)(hl1:sc.names.lookup x1=some .local)(hl2:sc.names.lookup x2=some .local)(hN:caps.map (λi=>X.N[i]?)=N.map some)(hnd:([x1,x2]++N).Nodup)(hg:Gl X "zip")(hm:X.mg "zip"=none)(hv:bootBuiltins "zip"=some (.type "zip"))(ha:PDA X Z [a,b] ta)(he:∀cl C s0 H0 fp pn,PD (Cx.comp X sc ([x1,x2]++N) cl C s0 H0 fp pn) Z0 aW te)(hse:starEach [a,b] X.env=[(false,eval a X.env),(false,eval b X.env)]:=by rfl)(hse2:starEach [b] X.env=[(false,eval b X.env)]:=by rfl)(hs:∀y,foldedSetIterable (.Call (.Name "zip" p) [a,b] [] aK) X.env y=pure y:=by intro _;rfl):
  PD X Z (.ListComp aW [⟨.Tuple [.Name x1 p1,.Name x2 p2] kk tp,.Call (.Name "zip" p) [a,b] [] aK,[],0⟩] sc pos) (TN caps ta te):=by
 subst har;refine Z4 (zfv hc cs hN (gt:=Uo X.K 2 (UN [0,1])) (te:=up X.K Z0 te) (J5 hg hm hv ha hse hse2) (λcl C s0 H0 fp pn=>?_) he hs) λ_ _ _ h=>De h
 have l1:(Cx.comp X sc ([x1,x2]++N) cl C s0 H0 fp pn).env.scope.names.lookup x1=some .local:=lookup_relabel_local hl1
 have l2:(Cx.comp X sc ([x1,x2]++N) cl C s0 H0 fp pn).env.scope.names.lookup x2=some .local:=lookup_relabel_local hl2;exact Sw hc (Uk hnd (.cons rfl (.inl l1) (.inr l1) (.cons rfl (.inl l2) (.inr l2) .nil))) rfl rfl
end
section
variable {X:Cx}{Z:Zx}{pos:Pos}
end
section
variable {n:Nat}{I:Addr}{fp wr:List Addr}{P:Nat->Value->Prop}{St:Nat->Shared->Prop}{prog:Program}{w:World}{A:Around}{s:Shared}{E:Value->Shared->Prop}{G:Array GenState->Array GenState->Prop}
end
section
variable {X:Cx}{Z:Zx}{pos:Pos}
end
theorem Rps.ins {r:List Addr}{H:Hp}{y:D}{w:V}(hy:Rp r H y w):∀ {ds:List D} {xs:List V} (k:Nat),Rps r H ds xs->Rps r H (ds.take k++y::ds.drop k) (xs.take k++w::xs.drop k)
 | [],xs,k,h=>by
  have z:=h.unnil;subst z;simpa using Rps.cons hy h
 | d::ds,xs,0,h=>Rps.cons hy h
 | d::ds,xs,k+1,h=>by
  obtain⟨v,vs,rfl,p1,p2⟩:=h.uncons;exact Rps.cons p1 (Rps.ins hy k p2)
theorem zax (hc:X.calm=true)(cs:XQ sc X.env.scope own N)(hN:caps.map (λi=>X.N[i]?)=N.map some)(hi:PI X (.Tuple aL kk tp) aU wi)(hg:∀cl C s0 H0 fp pn,PG (Cx.comp X sc (own++N) cl C s0 H0 fp pn) (.Tuple aL kk tp) gt)(he:∀cl C s0 H0 fp pn,PE (Cx.comp X sc (own++N) cl C s0 H0 fp pn) aW te)(hNd:X.N.Nodup)(hy:X.N[i]?=some y)(hl:X.env.scope.names.lookup y=some .local)(hsw:swapsWith (.ListComp aW [⟨.Tuple aL kk tp,aU,[],0⟩] sc pos) (some (.Name y py)) spos.line X.env=pure true)(hs:∀y,foldedSetIterable aU X.env y=pure y:=by intro _;rfl):PS X (.Assign [.Name y py] (.ListComp aW [⟨.Tuple aL kk tp,aU,[],0⟩] sc pos) spos) (λE σ H=>OI own.length caps wi gt te σ H λv H1=>E.nx (σ.set i (some v)) H1):=
 GA (λI h aY=>C6 hc cs (Xl hN).1 (Xl hN).2 hi hg he hs I h aY) hNd hy hl hsw
theorem zcB (har:X.env.scope=ar)(hc:X.calm=true)(cs:XQ sc ar [x1,x2] N)(hl1:sc.names.lookup x1=some .local)(hl2:sc.names.lookup x2=some .local)(hN:caps.map (λi=>X.N[i]?)=N.map some)(hnd:([x1,x2]++N).Nodup)(hNd:X.N.Nodup)(hy:X.N[i]?=some y)(hlo:ar.names.lookup y=some .local)(hg:Gl X "zip")(hm:X.mg "zip"=none)(hv:bootBuiltins "zip"=some (.type "zip"))(ha:PDA X Z [a,b] ta)(he:∀cl C s0 H0 fp pn,PD (Cx.comp X sc ([x1,x2]++N) cl C s0 H0 fp pn) Z0 aW te)(hsw:swapsWith (.ListComp aW [⟨.Tuple [.Name x1 p1,.Name x2 p2] kk tp,.Call (.Name "zip" p) [a,b] [] aK,[],0⟩] sc pos) (some (.Name y py)) spos.line X.env=pure true:=by rfl)(hse:starEach [a,b] X.env=[(false,eval a X.env),(false,eval b X.env)]:=by rfl)(hse2:starEach [b] X.env=[(false,eval b X.env)]:=by rfl)(hs:∀y,foldedSetIterable (.Call (.Name "zip" p) [a,b] [] aK) X.env y=pure y:=by intro _;rfl):
  PDS X Z (.Assign [.Name y py] (.ListComp aW [⟨.Tuple [.Name x1 p1,.Name x2 p2] kk tp,.Call (.Name "zip" p) [a,b] [] aK,[],0⟩] sc pos) spos) (S7 i (TN caps ta te)):=by
 subst har;refine Yz (zax hc cs hN (gt:=Uo X.K 2 (UN [0,1])) (te:=up X.K Z0 te) (J5 hg hm hv ha hse hse2) (λcl C s0 H0 fp pn=>?_) he hNd hy hlo hsw hs) λF σ H h=>Nw (λ_ h=>De h) h
 have l1:(Cx.comp X sc ([x1,x2]++N) cl C s0 H0 fp pn).env.scope.names.lookup x1=some .local:=lookup_relabel_local hl1
 have l2:(Cx.comp X sc ([x1,x2]++N) cl C s0 H0 fp pn).env.scope.names.lookup x2=some .local:=lookup_relabel_local hl2;exact Sw hc (Uk hnd (.cons rfl (.inl l1) (.inr l1) (.cons rfl (.inl l2) (.inr l2) .nil))) rfl rfl
section
variable {X:Cx}{Z:Zx}
end
section
variable {X:Cx}{Z:Zx}{pos:Pos}
end
end L3
namespace L2
open PySem PySem.Spec PyProof.Rows
def Itd (lo:Int)(n:Nat):It:=⟨λi _=>i<n,λi H x H'=>H'=H/\x=.int (lo-i),λi _=>n<=i⟩
theorem zci {P:Program}{w:World}{K:Fg}{tg:Expr}(it:Addr)(lo:Int)(n:Nat):Uh P w K tg (Itd lo n) [it] it (λi h=>IsRangeIter h it (lo+(i:Nat)*(-1)) ((n:Int)-(i:Nat)) (-1)) where
 mem:=zT.mpr rfl
 obj:=λi h st b hb=>by
  cases zT.mp hb;refine⟨_,st,λv z=>?_⟩;have z':Data.fields _=Data.cell v:=z;cases z'
 keep:=λi h h' st k=>k it (zT.mpr rfl) _ st
 item:=by
  intro X hP hw hK hc i pins s σ H E I hf st hg;subst hP hw hK;obtain⟨f0,f1,f2,f3,f4,f5⟩:=hf it (zT.mpr rfl);have W:=Walks.range (prog:=X.prog) (w:=X.w) (I.ok.hd hc) it lo (-1) n;refine W.item i s _ _ hg st λv h' tk hv st' kk=>?_
  obtain⟨t,rfl⟩:=hv;have I1:Inv X pins σ H { s with heap:=h',toks:=tk }:=I.turned (λb o hb e=>kk b o (λz=>hb (zT.mp z)) e) f0 f1 f3 f4 f5
  have ev:lo+(i:Int)*(-1)=lo-(i:Int):=by omega
  exact⟨_,rfl,OF (s:={ s with heap:=h',toks:=tk }) (n:="range_iterator") st' rfl rfl (by decide) ⟨.int (lo-i),H,I1,⟨t,by rw[ev]⟩,⟨rfl,rfl⟩,st',λb hb=>(hf b hb).1⟩⟩
 done:=by
  intro X hP hw hK hc i pins s σ H E I hf st hg;subst hP hw hK;obtain⟨f0,f1,f2,f3,f4,f5⟩:=hf it (zT.mpr rfl);have hg':n<=i:=hg;exact wpAny_pyNext_range_end (I.ok.hd hc) st (by omega) λh' eb=>⟨rfl,I.turned (t':=s.toks) (λb o hb e=>eb b o hb e) f0 f1 f3 f4 f5⟩
 self:=λ_ _ _ _ _ st h=>wpAny_pyIter_rangeiter st h
theorem zfp {pins:LA}{σ:St}{H:Hp}{s:Shared}{R:It->Hp->Prop}{E:Value->Shared->Prop}{lo hi:Int}{t u v:Tok}{tk:Nat}(I:Inv X pins σ H s)(h1:-(2^62)<=lo)(h2:lo<2^62)(h3:-(2^62)<=hi)(h4:hi<2^62)
  (q:R (Itd lo (lo-hi).toNat) H):wpAny (model X.prog X.w) X.A (pyIter (.ref s.heap.objs.size)) (PIE X pins σ tg R) E { s with heap:=s.heap.push { cls:=.type "range",data:=.fields #[.int lo t,.int hi u,.int (-1) v] },toks:=tk }:=by
 have I1:Inv X pins σ H { s with heap:=s.heap.push { cls:=.type "range",data:=.fields #[.int lo t,.int hi u,.int (-1) v] },toks:=tk }:=I.kept λb o e=>Heap.get?_push_of_some _ e
 refine wpAny_pyIter_range (IsRange.new ..) (W.small_down h1 h2 h3 h4) ?_;refine⟨(s.heap.push { cls:=.type "range",data:=.fields #[.int lo t,.int hi u,.int (-1) v] }).objs.size,[(s.heap.push { cls:=.type "range",data:=.fields #[.int lo t,.int hi u,.int (-1) v] }).objs.size],_,_,H,rfl,
  I1.kept (t':=tk) λb o e=>Heap.get?_push_of_some _ e,zci _ lo (lo-hi).toNat,?_,λb hb=>?_,q⟩
 .show IsRangeIter _ _ (lo+((0:Nat):Int)*(-1)) ((((lo-hi).toNat:Nat):Int)-((0:Nat):Int)) (-1);rw[show lo+((0:Nat):Int)*(-1)=lo by simp,show (((lo-hi).toNat:Nat):Int)-((0:Nat):Int)=Builtin.Range.rangeSize lo hi (-1) by rw[W.rangeSize_downNat];simp];exact(Heap.get?_push_size _ rfl)
 .cases zT.mp hb;exact I1.fpOk (zC _) (I1.hok.fresh (zC _))
def iRngD (ta:TA):TI:=λσ H R=>ta σ H λvs H1=>∃i j:Int,vs=[.int i,.int j,.int (-1)]/\(-(2^62)<=i/\i<2^62/\-(2^62)<=j/\j<2^62)/\R (Itd i (i-j).toNat) H1
theorem zbA {a b c:Expr}{ta:TA}{p pos:Pos}(hg:Gl X "range")(hm:X.mg "range"=none)(ha:PA X [a,b,c] ta)(hs:starEach [a,b,c] X.env=[(false,eval a X.env),(false,eval b X.env),(false,eval c X.env)]:=by rfl)(hs2:starEach [b,c] X.env=[(false,eval b X.env),(false,eval c X.env)]:=by rfl):
  PI X tg (.Call (.Name "range" p) [a,b,c] [] pos) (iRngD ta):=by
 intro pins s σ H R I h;refine Call_ (WE I hg hm boot_range (PyProof.Rows.callWith_type1 (thn (ha pos pins s σ H _ I h) λus s1 ⟨vs,H1,I1,r1,q1⟩=>?_) (by rw[hs,hs2]) (by rw[hs2];rfl)));obtain⟨i,j,e,⟨q1,q2,q3,q4⟩,q⟩:=q1;subst e;cases r1 with
 | cons r rr=>
  cases rr with
  | cons r' rr=>
   cases rr with
   | cons r2 rr=>
    cases rr;obtain⟨t,rfl⟩:=r;obtain⟨t',rfl⟩:=r';obtain⟨t2,rfl⟩:=r2;exact call_range_3 (by decide) (zfp I1 q1 q2 q3 q4 q) (.inl (PyProof.noPylong_small (by omega)))
end L2
namespace L3
open PySem PySem.Spec PyProof.Rows L2
def zeE (i:Nat)(ta:TDA)(tb:TDS):TDS:=λE dl S=>ta dl S λds S1=>match ds with
 | [.int lo,.int hi,.int st]=>st=-1/\(-(2^62)<=lo/\lo<2^62/\-(2^62)<=hi/\hi<2^62)/\∃W:Nat->Ev->Sto->Prop,W 0 dl S1/\∀k dl S,W k dl S->
   if k<(lo-hi).toNat then tb { nx:=λdl' S'=>W (k+1) dl' S',rt:=E.rt,bk:=E.nx,ct:=λdl' S'=>W (k+1) dl' S' } (dl.set i (some (.int (lo-k)))) S else E.nx dl S
 | _=>False
theorem zgr (hp:PassesOwn (model X.prog X.w) X.A X.env X.xe)(hc:X.calm=true)(hN:X.N.Nodup)(hi:X.N[i]?=some x)(hx:Loc X.env.scope x)(hg:Gl X "range")(hm:X.mg "range"=none)(ha:PDA X Z [a,b,c] ta)(hb:YE X Z body tb)(hf:X.fn x=true\/X.env.scope.names.lookup x=some .local:=by first|exact .inl rfl|exact .inr rfl|assumption)(hs:∀y,foldedSetIterable (.Call (.Name "range" p) [a,b,c] [] pos) X.env y=pure y:=by intro _;rfl)(hst:starEach [a,b,c] X.env=[(false,eval a X.env),(false,eval b X.env),(false,eval c X.env)]:=by rfl)(hst2:starEach [b,c] X.env=[(false,eval b X.env),(false,eval c X.env)]:=by rfl):
  PDS X Z (.For (.Name x pos') (.Call (.Name "range" p) [a,b,c] [] pos) body [] aK) (zeE i ta tb):=
 Yz (SO hp hc (zbA hg hm ha hst hst2) (U9 hN hi hx hf) hb hs) λF σ H ⟨r,dl,S,E,rs,aZ,h,ret⟩=>by
  refine⟨r,dl,S,_,rs,aZ,h,λvs H1 r1 ds S1 x1 aB p1 q1=>?_⟩;split at q1
  .rename_i lo hi st;obtain⟨v,vs',rfl,p2,p3⟩:=p1.uncons;obtain⟨v2,vs2,rfl,p4,p5⟩:=p3.uncons;obtain⟨v3,vs3,rfl,p6,p7⟩:=p5.uncons;have z:=p7.unnil;subst z;cases p2;cases p4;cases p6;obtain⟨e3,bds,W,w0,turn⟩:=q1;subst e3;refine⟨lo,hi,rfl,bds,λk m σ' H'=>m=(lo-hi).toNat-k/\∃r' dl' S',Ext r1 r' H1 H'/\Rs r' H' dl' σ'/\Rel X.K Z r' S' H'/\W k dl' S',⟨(lo-hi).toNat,by simp,r1,dl,S1,Ext.refl,rs.ext x1,aB,w0⟩,?_⟩;rintro k m σ2 H2 ⟨em,r2,dl2,S2,x2,rs2,aC,w2⟩;have q:=turn k dl2 S2 w2;split at q
   .rename_i hk;have go:∀σ' H' r' dl' S',Ext r2 r' H2 H'->Rs r' H' dl' σ'->Rel X.K Z r' S' H'->W (k+1) dl' S'->∃r' dl' S',Ext r1 r' H1 H'/\Rs r' H' dl' σ'/\Rel X.K Z r' S' H'/\W (k+1) dl' S':=
     λσ' H' r' dl' S' x rs' rel' w'=>⟨r',dl',S',x2.trans x,rs',rel',w'⟩
    have pk:Rp r2 H2 (.int (lo-(k:Int))) (.int (lo-(k:Int))):=.int _;refine .inr ⟨hk,λσ' H'=>∃r' dl' S',Ext r1 r' H1 H'/\Rs r' H' dl' σ'/\Rel X.K Z r' S' H'/\W (k+1) dl' S',λσ' H' z=>⟨(lo-hi).toNat-(k+1),by omega,rfl,z⟩,λv' H' y'=>?_⟩;obtain⟨eH,y'⟩:=y';subst eH;subst y';exact⟨r2,_,S2,_,rs2.set i pk,aC,q,go,λσ' H' r' dl' S' x rs' rel' z=>ret.nx σ' H' r' dl' S' (x1.trans (x2.trans x)) rs' rel' z,go,ret.rt.ext (x1.trans x2)⟩
   .rename_i hk;exact .inl ⟨by show (lo-hi).toNat<=k;omega,ret.nx σ2 H2 r2 dl2 S2 (x1.trans x2) rs2 aC q⟩
  .exact q1.elim
open PySem PySem.Spec PyProof.Rows L2 PySem.W
structure ML (sc around:Scope)(own caps:List Str):Prop where
 kind:sc.kind=.function
 co:sc.isCoroutine=false
 gen:sc.isGenerator=false
 nocell:∀y∈sc.names,y.2≠.cell
 loc:∀y∈own,sc.names.lookup y=some .local
 cap:∀y∈caps,sc.names.lookup y=some .free
 out:∀y∈sc.names,y.2=.free->around.names.lookup y.1=some .cell
 nd:own.Nodup
theorem Br:∀ {l:List (Str×α)},(l.map (·.1)).Nodup->(y,v)∈l->l.lookup y=some v
 | (n,k)::r,nd,h=>by
  rw[zV];rcases zO.mp h with e|e
  .cases e;simp
  .have hn:n ∉ r.map (·.1):=(xA.mp nd).1
   have ne:(y==n)=false:=by
    cases q:y==n with
    | false=>rfl
    | true=>
     have z:y=n:=by simpa using q
     subst z;exact absurd (zN.mpr ⟨_,e,rfl⟩) hn
   rw[ne];exact Br (xA.mp nd).2 e
abbrev Lv (qual:Str)(sc:Scope)(L f:Addr)(cd:Value)(cl:List (Str×Addr)):Env:=newEnv sc L mainGlobals cl (qual++".<locals>.") (some f) cd none builtinsNs
abbrev Cx.lam (X:Cx)(A:Around)(sc:Scope)(N:List Str)(qual:Str)(f:Addr)(cd:Value)(cl:List (Str×Addr))(L:Addr)(s0:Shared)(H0:Hp):Cx:=
 { prog:=X.prog,w:=X.w,K:=X.K,mg:=X.mg,base:=X.base,A:=A.deeper (Lv qual sc L f cd cl),N:=N,s₀:=s0,H₀:=H0,env:=Lv qual sc L f cd cl,outer:=X.stack,stack:=Lv qual sc L f cd cl::X.stack,ex:=[],fn:=λ_=>false,calm:=true,pn:=[],xe:=λ_ _=>False }
theorem zcj (I:Inv X pins σ H s)(cs:ML sc X.env.scope own N)(hN:∀(j:Nat)(y:Str),N[j]?=some y->∃i,caps[j]?=some i/\X.N[i]?=some y)(aM:caps.length=N.length)(c1:∀x c,cl.lookup x=some c->X.env.cells.lookup x=some c)(c2:∀y∈sc.names,y.2=.free->cl.lookup y.1=X.env.cells.lookup y.1)(hh:A.handled=none)(hfr:A.frames=some X.stack)(hv:ZC vs us)(hlv:vs.length=own.length)(hns:h1.Ns s.heap.objs.size (λx=>(own.zip us).reverse.lookup x))(hk:∀b o,s.heap.get? b=some o->h1.get? b=some o):
  Inv (Cx.lam X A sc (own++N) qual f cd cl s.heap.objs.size s H) [] (vs.map some++Yb caps σ) H { s with heap:=h1,toks:=tk }:=by
 have noA:∀b:Addr,b ∉ (Cx.lam X A sc (own++N) qual f cd cl s.heap.objs.size s H).ex:=λb z=>absurd (show b∈([]:List Addr) from z) (by simp)
 refine⟨⟨I.ok.mod,cs.kind,rfl,rfl,zC _,λa b c h1 h2=>I.ok.inj a b c (c1 _ _ h1) (c1 _ _ h2),λy hy=>?_,λ_ _ z=>Bool.noConfusion z,λ_=>hh,Around.frames_deeper hfr,.inr ⟨rfl,rfl⟩,λb z=>absurd z (noA b),
  I.bs,yD I.ok.bsz I.sz,λb _ _=>noA b,λb z=>absurd z (noA b),I.stack,I.stkFree⟩,rfl,I.bare,Un.kept hk,⟨_,hns,λi y v e1 e2 e3=>?_⟩,λy c e=>?_,I.hok.fresh (zC _),λy c e=>I.freeC y c (c1 _ _ e),λp hp=>absurd (show p∈([]:LA) from hp) (by simp),I.hok.kept hk,?_⟩
 .have hfree:sc.names.lookup y=some .free:=by
   rcases (show sc.names.lookup y=some .cell\/sc.names.lookup y=some .free from hy) with z|z
   .exact absurd rfl (cs.nocell _ (U6 z))
   .exact z
  have hm:=U6 hfree;obtain⟨c,e⟩:=I.ok.has y (.inl (cs.out _ hm rfl));exact⟨c,(c2 _ hm rfl).trans e⟩
 .rcases Nat.lt_or_ge i own.length with hi|hi
  .have e1':own[i]?=some y:=by rw[zI hi] at e1;exact e1
   have e2':vs[i]?=some v:=by
    rw[zI (by rw[zA];omega),zF] at e2;cases e:vs[i]? with
    | none=>rw[e] at e2;cases e2
    | some a=>rw[e] at e2;cases e2;rfl
   obtain⟨u,hu,rv⟩:=hv.get e2';refine⟨u,rv,.inl ⟨cs.loc y (zE e1'),?_⟩⟩;have z:(y,u)∈(own.zip us).reverse:=by
    rw[List.mem_reverse];exact zE (i:=i) (by rw[List.getElem?_zip_eq_some];exact⟨e1',hu⟩)
   have nd:((own.zip us).reverse.map (·.1)).Nodup:=by
    rw[List.map_reverse,List.map_fst_zip (by rw[<- hv.length];omega)];exact List.pairwise_reverse.mpr (cs.nd.imp λh=>Ne.symm h)
   exact Br nd z
  .obtain⟨i,rfl⟩:∃k,i=own.length+k:=⟨i-own.length,by omega⟩;have e1':N[i]?=some y:=by
    rw[yB hi] at e1;simpa using e1
   have e2:(Yb caps σ)[i]?=some (some v):=by
    rw[yB (by rw[zA];omega),zA] at e2;simpa [hlv] using e2
   obtain⟨j,hj,hy⟩:=hN i y e1';have e2':σ[j]?=some (some v):=by
    simp only[Yb,zF,hj,Option.map_some,Option.some.injEq] at e2;cases q:σ[j]? with
    | none=>rw[q] at e2;cases e2
    | some o=>rw[q] at e2;simp at e2;rw[e2]
   have hfree:sc.names.lookup y=some .free:=cs.cap y (zE e1')
   have hm:=U6 hfree
   have hce:X.env.scope.names.lookup y=some .cell:=cs.out _ hm rfl;obtain⟨m0,_,hl⟩:=I.loc;obtain⟨u,r,l⟩:=hl j y v hy e2' (.inr (.inl hce));refine⟨u,r,.inr ⟨.inr hfree,?_⟩⟩;rcases l with ⟨k,_⟩|⟨_,c,ec,hcell⟩
   .rw[show X.env.kindOf y=some .cell from hce] at k;cases k
   .exact⟨c,(c2 _ hm rfl).trans ec,hcell.keeps hk⟩
 .obtain⟨v,z⟩:=I.cell y c (c1 _ _ e);exact⟨v,z.keeps hk⟩
 .simp[Yb,aM,hlv]
abbrev Vs (qual:Str)(params:Arguments)(body:Expr)(sc:Scope)(cl:List (Str×Addr))(pm:Value)(cd:Value)(ctv:Value):Obj:={ cls:=.type "function",data:=.func (kla_fn "<lambda>" qual params body sc cl pm cd ctv) }
theorem zhI (I:Inv X pins σ H s)(cs:ML sc X.env.scope own N)(hN:∀(j:Nat)(y:Str),N[j]?=some y->∃i,caps[j]?=some i/\X.N[i]?=some y)(aM:caps.length=N.length)(c1:∀x c,cl.lookup x=some c->X.env.cells.lookup x=some c)(c2:∀y∈sc.names,y.2=.free->cl.lookup y.1=X.env.cells.lookup y.1)(hh:A.handled=none)(hfr:A.frames=some X.stack)(hv:ZC vs us)(hlv:vs.length=own.length)(hroom:A.depth<recursionLimit)(ho:s.heap.get? f=some (Vs qual params body sc cl pm cd ctv))(hcd:s.heap.CodeRec cd qual)(hb:bindArgs (kla_fn "<lambda>" qual params body sc cl pm cd ctv) ⟨us,[]⟩=pure (own.zip us))(he:PE (Cx.lam X A sc (own++N) qual f cd cl s.heap.objs.size s H) body te)(h:te (vs.map some++Yb caps σ) H Q):
  codeAny (model X.prog X.w) A (.call (.ref f) ⟨us,[]⟩) (λr s'=>match r with|.ok (.ret u)=>CE X.stack X.prog X.w H s Q u s'|_=>False) s:=by
 refine kla_callFunE hroom ho rfl cs.co cs.gen rfl hcd ?_;rw[hb];have lim:s.heap.NoLimit:=I.ok.mod.nolimit.keeps λb o e=>(I.bs b o e).1
 refine wpAny_pure (wpAny_newFunctionEnv cs.nocell (λy hy=>cs.loc y.1 (List.of_mem_zip hy).1) (λh₁ hns hsb=>?_) cs.kind);have hk₁:∀b o,s.heap.get? b=some o->h₁.get? b=some o:=λb o e=>hsb.extBut b o (zM (Heap.lt_size e)) (Heap.get?_push_of_some _ e)
 refine⟨lim.keeps hk₁,?_⟩;refine kla_codeExpr ?_;have J:=zcj (A:=A) (qual:=qual) (f:=f) (cd:=cd) (tk:=s.toks+(own.zip us).length) I cs hN aM c1 c2 hh hfr hv hlv hns hk₁;exact wpAny_mono (he [] _ _ H _ J h) (λu s' ⟨v,H',J',rv,q⟩=>⟨v,H',J'.os,J'.bare,J'.base,J'.hok,rv,q⟩) λ_ _ z=>z.elim
theorem BI {h1 h2:Heap}{c:Addr}{q:Str}(h:h1.CodeRec (.ref c) q)(k:∀o,h1.get? c=some o->h2.get? c=some o):h2.CodeRec (.ref c) q:=by
 obtain⟨c2,o,vs,t,e,h1,h3,h4⟩:=h;cases e;exact⟨c,o,vs,t,rfl,k _ h1,h3,h4⟩
theorem zbv {sc:Scope}{cl:List (Str×Addr)}{qual:Str}{params:Arguments}{body:Expr}{c P:Addr}{ps:Array Value}{pos:Pos}{fl:Nat}{Q:Value->Shared->Prop}(I:Inv X pins σ H s)(hcl:closureFor sc X.env=pure cl)
  (hcode:X.env.code=.ref c)(C:CodeHd X.base c P)(hb:∃bm o,X.mg "__builtins__"=some (.ref bm)/\bm≠builtinsNs/\bm≠mainGlobals/\X.base.get? bm=some o/\o.cls=.type "module"/\o.dict=some builtinsNs/\o.data=.plain)
  (hP:H P=some (.tbl ps))(tab:Tab pos qual H ps)
  (h:∀(f:Addr)(cd ctv:Value)(H':Hp)(ps':Array Value)(s':Shared),Inv X pins σ H' s'->H' P=some (.tbl ps')->Tab pos qual H' ps'->(∀b o,H b=some o->b≠P->H' b=some o)->s'.heap.CodeRec cd qual->(∃c',cd=.ref c'/\H' c'=some (.ext λh=>h.CodeRec (.ref c') qual))->
   s'.heap.get? f=some (Vs qual params body sc cl ((X.mg "__name__").getD .none) cd ctv)->Yd X pins H' f->Q (.ref f) s'):
  wpAny (model X.prog X.w) X.A (makeFunction "<lambda>" qual params (.expr body) sc X.env [] [] [] pos fl) Q X.xe s:=by
 have hg:s.heap.Ns mainGlobals X.mg:=I.ok.mod.glob.keeps I.bk
 have hPs:s.heap.get? P=some (tabObj ps):=I.hok P _ hP
 have nP:∀b,H b=none->b≠P:=λb n e=>by rw[e,hP] at n;cases n
 have gP:mainGlobals≠P:=by
  obtain⟨o,es,ep,e,_⟩:=I.ok.mod.glob;exact nP _ (I.bs _ _ e).2
 obtain⟨bm,ob,b1,b2,b3,b4,b5,b6,b7⟩:=hb;have bP:bm≠P:=nP _ (I.bs _ _ b4).2
 have BA:s.heap.BuiltinsAt X.mg P:=⟨bm,ob,b1,b2,b3,bP,(I.bs _ _ b4).1,b5,b6,b7⟩;obtain⟨tr,alt⟩:=tab;rcases alt with hn|⟨c',hf,hc'⟩
 .refine kla_makeFunction hcl I.ok.glob hg hcode (C.keeps I.bk) hPs tr hn gP BA λc' ctv h' tk hx hge hlt hrec htb=>?_
  have lt:∀b o,H b=some o->b<s.heap.objs.size:=λb o e=>I.hok.lt e
  have ltP:=lt P _ hP
  have ncP:c'≠P:=yU (zR ltP hge)
  have up:∀b o,b≠P->s.heap.get? b=some o->(h'.push (Vs qual params body sc cl ((X.mg "__name__").getD .none) (.ref c') ctv)).get? b=some o:=λb o n e=>Heap.get?_push_of_some _ (hx b o n e)
  have upP:=Heap.get?_push_of_some (Vs qual params body sc cl ((X.mg "__name__").getD .none) (.ref c') ctv) htb
  have rec2:(h'.push (Vs qual params body sc cl ((X.mg "__name__").getD .none) (.ref c') ctv)).CodeRec (.ref c') qual:=BI hrec λo e=>Heap.get?_push_of_some _ e
  have hH:∀b o,H b=some o->b≠P->upd (upd H c' (.ext λh=>h.CodeRec (.ref c') qual)) P (.tbl (ps++#[rawInt pos.line,rawInt pos.col,.ref c'])) b=some o:=λb o e n=>by
   rw[Z1 n,Z1 (zM (zR (lt b o e) hge))];exact e
  have hc2:upd (upd H c' (.ext λh=>h.CodeRec (.ref c') qual)) P (.tbl (ps++#[rawInt pos.line,rawInt pos.col,.ref c'])) c'=some (.ext λh=>h.CodeRec (.ref c') qual):=by
   rw[Z1 ncP,YH]
  have un:Un X.fs [] H (upd (upd H c' (.ext λh=>h.CodeRec (.ref c') qual)) P (.tbl (ps++#[rawInt pos.line,rawInt pos.col,.ref c']))) s.heap (h'.push (Vs qual params body sc cl ((X.mg "__name__").getD .none) (.ref c') ctv)):=
   ⟨λb o e n _ _=>up b o (nP b n) e,λb o e n _ _=>⟨o.slots,up b o (nP b n) e⟩,λb o e n _=>by
    rw[Z1 (nP b n),Z1 (zM (zR (Heap.lt_size e) hge))];exact n,λb o e _=>by
    by_cases q:b=P
    .rw[q];exact⟨_,upP⟩
    .exact⟨_,up b o q e⟩,λb xs e=>hH b _ e (λq=>by rw[q,hP] at e;cases e),λb o u e=>hH b _ e (λq=>by rw[q,hP] at e;cases e),λb qs e=>by
    by_cases q:b=P
    .subst q;rw[hP] at e;cases e;exact⟨_,YH⟩
    .exact⟨#[],by rw[hH b _ e q];simp⟩⟩
  have hok:HOk X.prog X.w (upd (upd H c' (.ext λh=>h.CodeRec (.ref c') qual)) P (.tbl (ps++#[rawInt pos.line,rawInt pos.col,.ref c']))) (h'.push (Vs qual params body sc cl ((X.mg "__name__").getD .none) (.ref c') ctv)):=λa o e=>by
   by_cases q:a=P
   .subst q;rw[YH] at e;cases e;exact upP
   .rw[Z1 q] at e;by_cases q2:a=c'
    .subst q2;rw[YH] at e;cases e;obtain⟨_,o2,_,_,e2,e3,_⟩:=id rec2;cases e2;exact⟨rec2,⟨o2,e3⟩,λh1 h2 p k=>BI p k⟩
    .rw[Z1 q2] at e;refine(I.hok a o e).stay (λb u hb r=>up b u (λz=>?_) r) (λb r=>hH b _ r λz=>by rw[z,hP] at r;cases r) λb xs r=>hH b _ r λz=>by rw[z,hP] at r;cases r
     rcases hb with hb|hb
     .exact q (hb ▸ z)
     .rw[z,hP] at hb;cases hb
  have I2:Inv X pins σ _ { s with heap:=h'.push (Vs qual params body sc cl ((X.mg "__name__").getD .none) (.ref c') ctv),toks:=tk }:=I.un (t':=tk) un hok
  have fresh:s.heap.objs.size<=h'.objs.size:=yD hge (yM hlt)
  have ff:=I.fpOk (H':=upd (upd H c' (.ext λh=>h.CodeRec (.ref c') qual)) P (.tbl (ps++#[rawInt pos.line,rawInt pos.col,.ref c']))) fresh (by
   rw[Z1 (yU (zR ltP fresh)),Z1 (yU hlt)];exact I.hok.fresh fresh)
  refine h _ (.ref c') ctv _ _ _ I2 YH ⟨?_,.inr ⟨c',?_,hc2⟩⟩ hH rec2 ⟨c',rfl,hc2⟩ (Heap.get?_push_size _ rfl) ff
  .rw[Array.toList_append];exact TriplesOk_snoc _ _ _ _ tr
  .rw[Array.toList_append];exact codeAmong_snoc _ tr hn
 .refine kla_makeFunctionHit hcl I.ok.glob hg hcode (C.keeps I.bk) hPs tr hf BA λctv h' tk hk hsz=>?_
  have I2:Inv X pins σ H { s with heap:=h'.push (Vs qual params body sc cl ((X.mg "__name__").getD .none) (.ref c') ctv),toks:=tk }:=I.kept (t':=tk) λb u e=>Heap.get?_push_of_some _ (hk b u e)
  exact h _ (.ref c') ctv H ps _ I2 hP ⟨tr,.inr ⟨c',hf,hc'⟩⟩ (λb o e _=>e) (I2.hok c' _ hc').1 ⟨c',rfl,hc'⟩ (Heap.get?_push_size _ rfl) (I.fpOk hsz (I.hok.fresh hsz))
theorem Um {h':Heap}{t':Nat}{b:Addr}(I:Inv X pins σ H s)(f:Yd X pins H b)(k:∀a o,a≠b->s.heap.get? a=some o->h'.get? a=some o):Inv X pins σ H { s with heap:=h',toks:=t' }:=
 I.turned k f.1 f.2.1 f.2.2.2.1 f.2.2.2.2.1 f.2.2.2.2.2
theorem D6 {b:Addr}(I:Inv X pins σ H s)(f:Yd X pins H b):b ∉ frs X.stack:=λz=>by
 rcases zO.mp (I.stkSub b z) with e|e
 .exact f.2.1 e
 .exact f.2.2.1 e
theorem zg8 (hc:X.calm=true){l it S f:Addr}{of:Obj}{N:Nat}{M:Nat->V->Hp->Prop}{W:Nat->Hp->Prop}{Q:VK}{kw:List (Str×Value)}(hsq:∀i H',W i H'->∃xs,SqL X.K H' l xs/\xs.length=N/\∀(j:Nat)(v:V),xs[j]?=some v->M j v H')
  (turn:∀(i:Nat)(v:V)(u:Value)(H':Hp)(s':Shared),M i v H'->ZD v u->W i H'->Inv X pins σ H' s'->s'.heap.get? f=some of->codeAny (model X.prog X.w) X.A.in1 (.call (.ref f) ⟨[u],[]⟩) (λr s''=>match r with|.ok (.ret u')=>CE X.stack X.prog X.w H' s' (λy H''=>(∃n:Int,y=.int n)/\W (i+1) H''/\∀(k:Nat)(v:V),M k v H'->M k v H'') u' s''|_=>False) s')
  (hQ:∀H',W N H'->∀(i:Nat)(v:V),M i v H'->Q v H')(hlI:l≠it)(hIS:it≠S)(hIf:it≠f)(hSf:S≠f):
  ∀(n j:Nat)(H:Hp)(s:Shared)(vb:Value)(kb:Int)(tb:Tok)(c:Nat),N-j=n->j<=N->Inv X pins σ H s->W j H->Yd X pins H it->Yd X pins H S->Yd X pins H f->s.heap.IsListIter it l j->s.heap.get? S=some (seqObj "list" #[vb,.int kb tb] c)->s.heap.get? f=some of->(∃(i:Nat)(v:V),M i v H/\ZD v vb)->
   codeAny (model X.prog X.w) X.A (.builtin "max.loop" ⟨[.ref it,.ref f,.ref S],kw⟩) (λr s'=>match r with|.ok (.ret u)=>EP X pins σ Q u s'|.ok _=>False|.error e=>X.xe e s') s:=by
 have hname:(toString "max"++toString ".loop":String)="max.loop":=by decide
 intro n
 induction n with
 | zero=>
  intro j H s vb kb tb c hn hj I w fI fS ff hit hS hf hvb;obtain⟨xs,hxs,lxs,mxs⟩:=hsq j H w;obtain⟨aX,rv,pl,hz⟩:=I.list hxs;have aM:=rv.length
  have ej:j=aX.length:=by omega
  have Wk:=Walks.list (prog:=X.prog) (w:=X.w) (A:=X.A.in1) (I.ok.hd hc) it l hlI aX.toArray;refine codeAny_builtin PySem.F.entry_max_loop ?_;rw[Around.under_plainId PySem.F.plain_max_loop _];show wpAny _ X.A.in1 (seqItems? (.ref S) >>= _) _ _ _;refine wpAny_bind (wpAny_seqItems hS rfl ?_);show wpAny _ X.A.in1 (tryCatch (pyNext (.ref it)) _ >>= _) _ _ _;refine wpAny_bind (wpAny_tryCatch (Wk.done _ _ _ ⟨by rw[zH,<- ej];exact hit,pl.isList⟩ λh' tk' hk'=>?_));have I1:Inv X pins σ H { s with heap:=h',toks:=tk' }:=Um (t':=tk') I fI λa o na e=>hk' a o (by simpa using na) e
  have hS':=hk' S _ (by simpa using hIS.symm) hS
  show wpAny _ X.A.in1 (updateSeq S (λ_=>#[]) >>= _) _ _ _;refine wpAny_bind ?_;refine wpAny_updateSeq hS' rfl (wpAny_bind (wpAny_letGo (wpAny_pure ?_)));have s1:=Heap.SameBut.update h' S (Obj.mapSeq λ_=>(#[]:Array Value));obtain⟨i,v,hv,r⟩:=hvb;exact⟨v,H,Um (t':=tk') I1 fS λa o na e=>(s1.2 a na).trans e,r,hQ H (by rw[show N=j by omega];exact w) i v hv⟩
 | succ n ih=>
  intro j H s vb kb tb c hn hj I w fI fS ff hit hS hf hvb;obtain⟨xs,hxs,lxs,mxs⟩:=hsq j H w;obtain⟨aX,rv,pl,hz⟩:=I.list hxs;have aM:=rv.length
  have Wk:=Walks.list (prog:=X.prog) (w:=X.w) (A:=X.A.in1) (I.ok.hd hc) it l hlI aX.toArray;refine codeAny_builtin PySem.F.entry_max_loop ?_;rw[Around.under_plainId PySem.F.plain_max_loop _];show wpAny _ X.A.in1 (seqItems? (.ref S) >>= _) _ _ _;refine wpAny_bind (wpAny_seqItems hS rfl ?_);show wpAny _ X.A.in1 (tryCatch (pyNext (.ref it)) _ >>= _) _ _ _;refine wpAny_bind (wpAny_tryCatch (Wk.item j _ _ _ (by rw[zH];omega) ⟨hit,pl.isList⟩ λu h' tk' hP hst' hk'=>?_));have hu:aX[j]?=some u:=by simpa using hP
  have hk1:∀a o,a≠it->s.heap.get? a=some o->h'.get? a=some o:=λa o na e=>hk' a o (by simpa using na) e
  have I1:Inv X pins σ H { s with heap:=h',toks:=tk' }:=Um (t':=tk') I fI hk1;obtain⟨v,hv⟩:∃v,xs[j]?=some v:=⟨_,zD (by omega)⟩;obtain⟨u2,hu2,rvu⟩:=rv.get hv;rw[hu] at hu2;cases hu2;have hS1:=hk1 S _ hIS.symm hS
  have hf1:=hk1 f _ hIf.symm hf;obtain⟨oI,hoI,hoc,hod⟩:=id hst'.1;show wpAny _ X.A.in1 (tryCatch (holding [u] (call (.ref f) [u])) _ >>= _) _ _ _;refine wpAny_bind (wpAny_tryCatch (wpAny_holding (wpAny_call (codeAny_mono (turn j v u H _ (mxs j v hv) rvu w I1 hf1) λr s2 h2=>?_))));cases r with
  | error e=>exact h2.elim
  | ok fl=>
   cases fl with
   | next=>exact h2.elim
   | brk=>exact h2.elim
   | cont=>exact h2.elim
   | ret ku=>
    obtain⟨y,H2,os2,bare2,un2,hok2,ry,⟨k2,rfl⟩,w2,up2⟩:=(show CE X.stack X.prog X.w H _ _ ku s2 from h2);obtain⟨t2,rfl⟩:=ry;have I2:Inv X pins σ H2 s2:=I1.call' (ch:=[]) os2 un2 hok2 bare2 (λb hb=>by simp at hb)
    have kp:∀b o,Yd X pins H b->h'.get? b=some o->s2.heap.get? b=some o/\Yd X pins H2 b:=λb o fb e=>⟨un2.keep b o e fb.1 (D6 I1 fb) (by simp),un2.free b o e fb.1 (by simp),fb.2⟩
    obtain⟨hI2,fI2⟩:=kp it oI fI hoI;obtain⟨hS2,fS2⟩:=kp S _ fS hS1;obtain⟨hf2,ff2⟩:=kp f _ ff hf1;show wpAny _ X.A.in1 (tryCatch (holding [u,.int k2 t2] (richCompare .Gt (.int k2 t2) (.int kb tb) >>= _)) _ >>= _) _ _ _;refine wpAny_bind (wpAny_tryCatch (wpAny_holding (wpAny_bind (CmpOf.ints_gt (prog:=X.prog) (w:=X.w) (A:=X.A.in1) (P:=λi v=>∃t,v=.int (([k2,kb]:List Int).getD i 0) t) (λi=>([k2,kb]:List Int).getD i 0) (λi v h=>h) 0 1 _ _ _ _ _ ⟨t2,rfl⟩ ⟨tb,rfl⟩ ?_))));refine wpAny_bind (wpAny_holding (wpAny_truthy_bool ?_));refine wpAny_bind (wpAny_letGo (wpAny_pure ?_));by_cases hb':([k2,kb]:List Int).getD 0 0 > ([k2,kb]:List Int).getD 1 0
    .simp only[hb',decide_true,if_true];have s1:=Heap.SameBut.update s2.heap S (Obj.mapSeq λ_=>#[u,.int k2 t2]);obtain⟨c2,hc2⟩:∃c2,(s2.heap.update S (Obj.mapSeq λ_=>#[u,.int k2 t2])).get? S=some (seqObj "list" #[u,.int k2 t2] c2):=⟨_,get?_update_seq hS2 λ_=>#[u,.int k2 t2]⟩;refine wpAny_bind ?_;refine wpAny_updateSeq hS2 rfl (wpAny_bind (wpAny_letGo ?_));rw[hname];have I3:Inv X pins σ H2 { s2 with heap:=s2.heap.update S (Obj.mapSeq λ_=>#[u,.int k2 t2]) }:=Um (t':=s2.toks) I2 fS2 λa o na e=>(s1.2 a na).trans e
     exact wpAny_pure ⟨plainId_quiet PySem.F.plain_max_loop _,ih (j+1) H2 _ u k2 t2 c2 (by omega) (by omega) I3 w2 fI2 fS2 ff2 ⟨oI,(s1.2 it hIS).trans hI2,hoc,hod⟩ hc2 ((s1.2 f hSf.symm).trans hf2) ⟨j,v,up2 j v (mxs j v hv),rvu⟩⟩
    .simp only[hb',decide_false,Bool.false_eq_true,if_false];refine wpAny_bind (wpAny_letGo ?_);rw[hname];exact wpAny_pure ⟨plainId_quiet PySem.F.plain_max_loop _,ih (j+1) H2 _ vb kb tb c (by omega) (by omega) I2 w2 fI2 fS2 ff2 ⟨oI,hI2,hoc,hod⟩ hS2 hf2 (by obtain⟨i,v,hv,r⟩:=hvb;exact⟨i,v,up2 i v hv,r⟩)⟩
theorem zhJ (a v d:Value):argsOk "max" ⟨[a],[(Str.ofString "key",v),(Str.ofString "default",d)]⟩:=by unfold argsOk;kernel_rfl
theorem zdN (hc:X.calm=true){l f:Addr}{of:Obj}{N:Nat}{M:Nat->V->Hp->Prop}{W:Nat->Hp->Prop}{Q:VK}{d:V}{dv:Value}(I:Inv X pins σ H s)(w0:W 0 H)(hsq:∀i H',W i H'->∃xs,SqL X.K H' l xs/\xs.length=N/\∀(j:Nat)(v:V),xs[j]?=some v->M j v H')
  (turn:∀(i:Nat)(v:V)(u:Value)(H':Hp)(s':Shared),M i v H'->ZD v u->W i H'->Inv X pins σ H' s'->s'.heap.get? f=some of->codeAny (model X.prog X.w) X.A.in1 (.call (.ref f) ⟨[u],[]⟩) (λr s''=>match r with|.ok (.ret u')=>CE X.stack X.prog X.w H' s' (λy H''=>(∃n:Int,y=.int n)/\W (i+1) H''/\∀(k:Nat)(v:V),M k v H'->M k v H'') u' s''|_=>False) s')
  (hQ:∀H',W N H'->∀(i:Nat)(v:V),M i v H'->Q v H')(ff:Yd X pins H f)(hf:s.heap.get? f=some of)(rd:ZD d dv)(h0:N=0->Q d H):
  wpAny (model X.prog X.w) X.A (call (.builtin "max") [.ref l] [(Str.ofString "key",.ref f),(Str.ofString "default",dv)]) (EP X pins σ Q) X.xe s:=by
 have hname:(toString "max"++toString ".loop":String)="max.loop":=by decide
 obtain⟨xs,hxs,lxs,mxs⟩:=hsq 0 H w0;obtain⟨aX,rv,pl,hz⟩:=I.list hxs;have aM:=rv.length
 have hls:=pl.isList;obtain⟨ol,hol,_⟩:=id hls;have hll:l<s.heap.objs.size:=Heap.lt_size hol
 have hlf:f<s.heap.objs.size:=Heap.lt_size hf;refine kmk_tree PySem.F.kind_max PySem.F.plain_max PySem.F.entry_max (zhJ _ _ _) ?_;show wpAny _ X.A.in1 (Builtin.Builtins.bindParams "max" ["key","default"] 0 ⟨[],[(Str.ofString "key",.ref f),(Str.ofString "default",dv)]⟩ >>= _) _ _ s;refine wpAny_bind (wpAny_of_eq (show Builtin.Builtins.bindParams "max" ["key","default"] 0 ⟨[],[(Str.ofString "key",.ref f),(Str.ofString "default",dv)]⟩=pure [some (.ref f),some dv] from rfl) ?_);refine wpAny_bind (wpAny_pure ?_);refine wpAny_bind (wpAny_pyIter_list hls ?_);refine wpAny_bind (wpAny_newList ?_ (zP _));rw[hname];have hS:(s.heap.push { cls:=.type "list_iterator",data:=.fields #[.ref l,.int 0 0] }).objs.size=s.heap.objs.size+1:=size_push' ..;refine wpAny_pure ⟨plainId_quiet PySem.F.plain_max_loop _,?_⟩;generalize ePI:s.heap.push { cls:=.type "list_iterator",data:=.fields #[.ref l,.int 0 0] }=hI at hS ⊢;have hk0:∀b o,s.heap.get? b=some o->(hI.push (seqObj "list" #[] 0)).get? b=some o:=λb o e=>Heap.get?_push_of_some _ (by rw[<- ePI];exact Heap.get?_push_of_some _ e)
 have gI:(hI.push (seqObj "list" #[] 0)).get? s.heap.objs.size=some { cls:=.type "list_iterator",data:=.fields #[.ref l,.int 0 0] }:=Heap.get?_push_of_some _ (by rw[<- ePI];exact Heap.get?_push_size _ rfl)
 have gS:(hI.push (seqObj "list" #[] 0)).get? hI.objs.size=some (seqObj "list" #[] 0):=Heap.get?_push_size _ rfl
 have I0:Inv X pins σ H { s with heap:=hI.push (seqObj "list" #[] 0) }:=I.kept (t':=s.toks) hk0
 have fI:Yd X pins H s.heap.objs.size:=I.fpOk (zC _) (I.hok.fresh (zC _))
 have leS:s.heap.objs.size<=hI.objs.size:=by rw[hS];exact Nat.le_succ _
 have fS:Yd X pins H hI.objs.size:=I.fpOk leS (I.hok.fresh leS)
 have hlI:l≠s.heap.objs.size:=zM hll
 have hIS:s.heap.objs.size≠hI.objs.size:=by rw[hS];exact zM (Nat.lt_succ_self _)
 have hIf:s.heap.objs.size≠f:=yU hlf
 have hSf:hI.objs.size≠f:=yU (zR hlf leS)
 have hf0:=hk0 f _ hf;obtain⟨its0,rv0,pl0,_⟩:=I0.list hxs;have hlen0:=rv0.length;generalize hI.objs.size=S at gS fS hIS hSf ⊢;generalize s.heap.objs.size=it at gI fI hlI hIS hIf ⊢;have Wk:=Walks.list (prog:=X.prog) (w:=X.w) (A:=X.A.in1) (I.ok.hd hc) it l hlI its0.toArray
 have loop:=zg8 (pins:=pins) (σ:=σ) hc (kw:=[(Str.ofString "default",dv)]) hsq turn hQ hlI hIS hIf hSf;refine codeAny_builtin PySem.F.entry_max_loop ?_;rw[Around.under_plainId PySem.F.plain_max_loop _];show wpAny _ X.A.in1 (seqItems? (.ref S) >>= _) _ _ _;refine wpAny_bind (wpAny_seqItems gS rfl ?_);show wpAny _ X.A.in1 (tryCatch (pyNext (.ref it)) _ >>= _) _ _ _;cases hx:xs with
 | nil=>
  have e0:its0.length=0:=by rw[<- hlen0,hx];rfl
  refine wpAny_bind (wpAny_tryCatch (Wk.done _ _ _ ⟨by rw[zH,e0];exact⟨_,gI,rfl,rfl⟩,pl0.isList⟩ λh' tk' hk'=>?_));have I1:Inv X pins σ H { s with heap:=h',toks:=tk' }:=Um (s:={ s with heap:=hI.push (seqObj "list" #[] 0) }) (t':=tk') I0 fI λa o na e=>hk' a o (by simpa using na) e
  refine wpAny_bind (wpAny_rule (wpAny_pure ?_));exact⟨d,H,I1,rd,h0 (by rw[<- lxs,hx];rfl)⟩
 | cons x0 xr=>
  have hv:xs[0]?=some x0:=by rw[hx];rfl
  have l1:1<=N:=by rw[<- lxs,hx];simp
  refine wpAny_bind (wpAny_tryCatch (Wk.item 0 _ _ _ (by rw[zH];omega) ⟨⟨_,gI,rfl,rfl⟩,pl0.isList⟩ λu h' tk' hP hst' hk'=>?_));have hu:its0[0]?=some u:=by simpa using hP
  have hk1:∀a o,a≠it->(hI.push (seqObj "list" #[] 0)).get? a=some o->h'.get? a=some o:=λa o na e=>hk' a o (by simpa using na) e
  have I1:Inv X pins σ H { s with heap:=h',toks:=tk' }:=Um (s:={ s with heap:=hI.push (seqObj "list" #[] 0) }) (t':=tk') I0 fI hk1;obtain⟨u2,hu2,rvu⟩:=rv0.get hv;rw[hu] at hu2;cases hu2;have hS1:=hk1 S _ hIS.symm gS
  have hf1:=hk1 f _ hIf.symm hf0;obtain⟨oI,hoI,hoc,hod⟩:=id hst'.1;show wpAny _ X.A.in1 (tryCatch (holding [u] (call (.ref f) [u])) _ >>= _) _ _ _;refine wpAny_bind (wpAny_tryCatch (wpAny_holding (wpAny_call (codeAny_mono (turn 0 x0 u H _ (mxs 0 x0 hv) rvu w0 I1 hf1) λr s2 h2=>?_))));cases r with
  | error e=>exact h2.elim
  | ok fl=>
   cases fl with
   | next=>exact h2.elim
   | brk=>exact h2.elim
   | cont=>exact h2.elim
   | ret ku=>
    obtain⟨y,H2,os2,bare2,un2,hok2,ry,⟨k2,rfl⟩,w2,up2⟩:=(show CE X.stack X.prog X.w H _ _ ku s2 from h2);obtain⟨t2,rfl⟩:=ry;have I2:Inv X pins σ H2 s2:=I1.call' (ch:=[]) os2 un2 hok2 bare2 (λb hb=>by simp at hb)
    have kp:∀b o,Yd X pins H b->h'.get? b=some o->s2.heap.get? b=some o/\Yd X pins H2 b:=λb o fb e=>⟨un2.keep b o e fb.1 (D6 I1 fb) (by simp),un2.free b o e fb.1 (by simp),fb.2⟩
    obtain⟨hI2,fI2⟩:=kp it oI fI hoI;obtain⟨hS2,fS2⟩:=kp S _ fS hS1;obtain⟨hf2,ff2⟩:=kp f _ ff hf1;have s1:=Heap.SameBut.update s2.heap S (Obj.mapSeq λ_=>#[u,.int k2 t2]);obtain⟨c2,hc2⟩:∃c2,(s2.heap.update S (Obj.mapSeq λ_=>#[u,.int k2 t2])).get? S=some (seqObj "list" #[u,.int k2 t2] c2):=⟨_,get?_update_seq hS2 λ_=>#[u,.int k2 t2]⟩;show wpAny _ X.A.in1 (updateSeq S (λ_=>#[u,.int k2 t2]) >>= _) _ _ _;refine wpAny_bind ?_;refine wpAny_updateSeq hS2 rfl ?_;rw[hname];have I3:Inv X pins σ H2 { s2 with heap:=s2.heap.update S (Obj.mapSeq λ_=>#[u,.int k2 t2]) }:=Um (t':=s2.toks) I2 fS2 λa o na e=>(s1.2 a na).trans e
    exact wpAny_pure ⟨plainId_quiet PySem.F.plain_max_loop _,loop _ 1 H2 _ u k2 t2 c2 rfl l1 I3 w2 fI2 fS2 ff2 ⟨oI,(s1.2 it hIS).trans hI2,hoc,hod⟩ hc2 ((s1.2 f hSf.symm).trans hf2) ⟨0,x0,up2 0 x0 (mxs 0 x0 hv),rvu⟩⟩
section
variable {X:Cx}{Z:Zx}{pins:LA}{σ:St}{H H2:Hp}{s:Shared}
theorem zaD {r:List Addr}{S:Sto}{n:Nat}{P:Addr}{lp:Pos}{q:Str}{ps ps':Array Value}(kn:∀o,X.K.lookup P≠some o)(aZ:Rel X.K Z r S H)(hS:S[n]?=some (.cod P lp q))(hP:H P=some (.tbl ps))(hP2:H2 P=some (.tbl ps'))(tab:Tab lp q H2 ps')(hH:∀b o,H b=some o->b≠P->H2 b=some o):
  Rel X.K Z r S H2/\Ext r r H H2:=by
 have x:Ext r r H H2:=⟨λ_ _ e=>e,λa xs e=>hH a _ e λz=>(by rw[z,hP] at e;cases e),λa φ e=>hH a _ e λz=>(by rw[z,hP] at e;cases e)⟩;obtain⟨a0,ea0,e0,_⟩:=aZ.at hS;subst e0;refine⟨⟨⟨aZ.b.len,λm a o h1 h2=>?_,aZ.b.nd⟩,aZ.xw.ext x⟩,x⟩;have q0:=aZ.b.ob m a o h1 h2;by_cases z:a=a0
 .subst z;by_cases ho:Vg o=true
  .have e:m=n:=aZ.b.nd m n a o _ h1 ea0 h2 hS ho rfl;subst e;rw[hS] at h2;cases h2;exact⟨rfl,ps',hP2,tab⟩
  .cases o with
   | frz ds=>
    obtain⟨xs,y,_⟩:=q0;rcases y with ⟨o,y⟩|⟨o,_,_,y,_⟩
    .rw[hP] at y;cases y
    .exact absurd y (kn o)
   | tpl ws=>
    obtain⟨o,_,_,y,_⟩:=q0;exact absurd y (kn o)
   | lst _=>exact absurd rfl ho
   | ins _ _=>exact absurd rfl ho
   | dct _=>exact absurd rfl ho
   | dck _=>exact absurd rfl ho
   | cod _ _ _=>exact absurd rfl ho
 .exact q0.keep x λu e=>hH a u e z
def Q4 (caps:List Nat)(P:Addr)(lp:Pos)(q:Str)(te:TDE)(dl:Ev)(Q:DK)(d:D)(S1:Sto):Prop:=match d with
 | .ref n=>(∃t:Nat,S1[t]?=some (Ob.cod P lp q))/\match lAt S1 n with
  | some o=>(Zo o=[]->Q .non S1)/\(∀(i:Nat)(v:D)(S2:Sto),(Zo o)[i]?=some v->Pre S1 S2->te (some v::Z8 caps dl) S2 λy S3=>(∃k:Int,y=.int k)/\Pre S1 S3)/\∀(i:Nat)(v:D)(S2:Sto),(Zo o)[i]?=some v->Pre S1 S2->Q v S2
  | none=>False
 | _=>False
@[irreducible] def OJ (caps:List Nat)(P:Addr)(lp:Pos)(q:Str)(tl te:TDE):TDE:=λdl S Q=>tl dl S (Q4 caps P lp q te dl Q)
def BM (mg:Str->Option Value)(base:Heap):Prop:=∃bm o,mg "__builtins__"=some (.ref bm)/\bm≠builtinsNs/\bm≠mainGlobals/\base.get? bm=some o/\o.cls=.type "module"/\o.dict=some builtinsNs/\o.data=.plain
theorem zfn {a body:Expr}{tl te:TDE}{x:Str}{N:List Str}{caps:List Nat}{params:Arguments}{sc ar:Scope}{c P:Addr}{q:Str}{lp p pos kp dp np:Pos}{j:Nat}(har:X.env.scope=ar)(hc:X.calm=true)(cs:ML sc ar [x] N)(hN:caps.map (λi=>X.N[i]?)=N.map some)
  (hg:Gl X "max")(hm:X.mg "max"=none)(hv:bootBuiltins "max"=some (.builtin "max"))(hr:X.A.in1.depth<recursionLimit)(hcode:X.env.code=.ref c)(C:CodeHd X.base c P)(hb:BM X.mg X.base)(kn:∀o,X.K.lookup P≠some o)(hq:X.env.qual++"<lambda>"=q)
  (ha:PD X Z a tl)(he:∀f cd cl L s0 H0,PD (Cx.lam X X.A.in1 sc ([x]++N) q f cd cl L s0 H0) Z0 body te)
  (hbind:∀cl pm cd ctv u,bindArgs (kla_fn "<lambda>" q params body sc cl pm cd ctv) ⟨[u],[]⟩=pure ([x].zip [u]):=by intros;rfl)(hdef:defaultsOf params X.env=([],[]):=by rfl)(hs:starEach [a] X.env=[(false,eval a X.env)]:=by rfl):
  PD X Z (.Call (.Name "max" p) [a] [⟨some "key",.Lambda params body sc lp,kp⟩,⟨some "default",.Constant .none j np,dp⟩] pos) (OJ caps P lp q tl te):=by
 subst har;subst hq;intro pins s σ H Qv I h;obtain⟨r,dl,S,Q,rs,aZ,h,ret⟩:=h;unfold OJ at h;refine wpAny_Call_Name_kw (WE I hg hm hv ?_ (by decide) (by decide));have hda:PDA X Z [a] (QK tl PB):=Zb ha Zg hs;refine PyProof.Rows.callWith_kw (thn (hda pos pins s σ H (λvs H1=>∃(r1:List Addr)(S1:Sto)(d:D)(v:V),vs=[v]/\Ext r r1 H H1/\Rel X.K Z r1 S1 H1/\Rp r1 H1 d v/\Q4 caps P lp (X.env.qual++"<lambda>") te dl Q d S1) I ?_) λus s1 ⟨vs,H1,I1,rvs,r1,S1,d,v,evs,x1,aB,pd,hk⟩=>?_) (by show backTo pos (starEach [a] X.env)=_;rw[hs];rfl) (by rw[hs];rfl)
 .refine⟨r,dl,S,λds S1=>match ds with|[d]=>Q4 caps P lp (X.env.qual++"<lambda>") te dl Q d S1|_=>False,rs,aZ,h,λvs H1 r1 ds S1 e1 aB p1 q1=>?_⟩;dsimp only at q1;split at q1
  .rename_i d;obtain⟨v,vs',rfl,p2,p3⟩:=p1.uncons;have z:=p3.unnil;subst z;exact⟨r1,S1,d,v,rfl,e1,aB,p2,q1⟩
  .exact q1.elim
 unfold Q4 at hk;split at hk
 rotate_left
 .exact hk.elim
 rename_i n;cases pd with
 | @ref _ a0 ha0=>
  obtain⟨⟨t,ht⟩,hk⟩:=hk;split at hk
  rotate_left
  .exact hk.elim
  rename_i o ho;obtain⟨q0,q1,q2⟩:=hk;subst evs;obtain⟨u0,rfl,ru0⟩:=WN rvs;cases ru0;obtain⟨cl,k1,k2,k3⟩:=DY (sc:=sc) (env:=X.env) λy hy hf=>I.ok.has y.1 (.inl (cs.out y hy hf))
  obtain⟨aP,eaP,eP,ps,hP,tab⟩:=aB.at ht;subst eP;refine PyProof.Rows.kws_cons (kla_eval hdef (zbv I1 k1 hcode C hb hP tab λf cd ctv H2 ps' s2 I2 hP2 tab2 hH hrec hc' hf ff=>?_));obtain⟨aC,x2⟩:=zaD kn aB ht hP hP2 tab2 hH;refine PyProof.Rows.kws_cons (Constant_none (PyProof.Rows.kws_nil ?_));obtain⟨c',rfl,hc'⟩:=hc';obtain⟨hSn,hkL⟩:=YY ho;have hob:=aC.b.ob n a0 o ha0 hSn;obtain⟨xs0,sq0,rp0⟩:=hob.list hkL;have x12:Ext r r1 H H2:=x1.trans x2;refine zdN hc (N:=(Zo o).length) (M:=λi v H'=>∃d,(Zo o)[i]?=some d/\Rp r1 H' d v) (W:=λ_ H'=>∃r2 S2,Ext r1 r2 H2 H'/\ZZ X.K r2 S2 H'/\Pre S1 S2) (Q:=Qv) (d:=.non) I2 ⟨r1,S1,Ext.refl,aC.b,Pre.refl⟩ ?_ ?_ ?_ ff hf rfl ?_
  .rintro i H' ⟨r2,S2,e2,rb,pr⟩;obtain⟨xs,sq,rp⟩:=(rb.ob n a0 o (e2.adr _ _ ha0) (pr _ _ hSn)).list hkL;refine⟨xs,sq,rp.1.symm,λj v hv=>?_⟩;have lj:j<(Zo o).length:=by
    have:=(zB.mp hv).1;rw[rp.1];exact this
   have hd:=zD lj;obtain⟨v0,_,p0⟩:=rp0.get hd;exact⟨_,hd,(rp.2 j _ v hd hv).low (G9 e2) p0.sco⟩
  .rintro i v u H' s' ⟨d,hd,pv⟩ ru ⟨r2,S2,e2,rb,pr⟩ I' hf';have hcr:s'.heap.CodeRec (.ref c') (X.env.qual++"<lambda>"):=(I'.hok c' _ (e2.xc _ _ hc')).1
   have eL:Ext r1 r2 H' H':=⟨e2.adr,λ_ _ z=>z,λ_ _ z=>z⟩;refine zhI (vs:=[v]) (us:=[u]) (te:=up X.K Z0 te) I' cs (Xl hN).1 (Xl hN).2 k2 k3 (I'.ok.hd hc) I'.ok.frames (.cons ru .nil) rfl hr hf' hcr (hbind _ _ _ _ _) (he _ _ _ _ _ _) ?_;refine⟨r2,some d::Z8 caps dl,S2,_,K4 ((rs.ext x12).ext e2) (pv.ext eL),⟨rb,λ_ _ _ _ _ _ _ _ _ z=>z.elim⟩,q1 i d S2 hd pr,λy H3 r3 dy S3 x3 aE p3 ⟨⟨k,ek⟩,pr3⟩=>?_⟩;subst ek;cases p3;refine⟨⟨k,rfl⟩,⟨r3,S3,e2.trans x3,aE.b,pr3⟩,λk v ⟨d,hd,pv⟩=>⟨d,hd,pv.ext ⟨λ_ _ z=>z,x3.tup,x3.xc⟩⟩⟩
  .rintro H' ⟨r2,S2,e2,rb,pr⟩ i v ⟨d,hd,pv⟩;have eL:Ext r1 r2 H' H':=⟨e2.adr,λ_ _ z=>z,λ_ _ z=>z⟩;exact ret v H' r2 d S2 (x12.trans e2) ⟨rb,(aZ.xw.ext x12).ext e2⟩ (pv.ext eL) (q2 i d S2 hd pr)
  .intro e;exact ret .non H2 r1 .non S1 x12 aC .non (q0 (List.length_eq_zero_iff.mp e))
end
def K1 (P:Addr)(ps:Array Value)(H:Hp):Prop:=H P=some (.tbl ps)/\∀b,b≠P->H b=none\/∃o xs,H b=some (.frz o (.lst xs))
theorem zd9 {Pg:Program}{w:World}{K:Fg}{mg mb:Str->Option Value}{CX:CXT}{k:Nat}{fa a P:Addr}{ps:Array Value}{fd:FuncData}{x:Str}{sp:Sp}{s₁:Shared}{vs:List Value}{ns:List Int}
  (KX:K.In s₁.heap)(hns:s₁.heap.Ns mainGlobals mg)(hb:s₁.heap.Ns builtinsNs mb)(hbb:∀x:Str,x≠"__name__"->mb x=bootBuiltins x)(hlim:s₁.heap.NoLimit)(hg:s₁.gens=#[])
  (ha:s₁.heap.get? a=some { cls:=.type "list",data:=.seq vs.toArray })(hi:IntsAre vs ns)(hl:ns.length<=sizeLine)(hr:ZP k callerA)(hP:s₁.heap.get? P=some { cls:=.none,data:=.fields ps })(ht:isCodeTable s₁.heap P)(kP:K.lookup P=none)(hbm:BM mg s₁.heap)
  (F:∀base:Heap,K.In base->base.Ns mainGlobals mg->BM mg base->Yc Pg w K mg base CX k fa fd [x] sp)(hbind:∀(s:Shared)(u:Value),BindsTo s fd ⟨[u],[]⟩ [(x,u)])
  (hsp:∀H:Hp,K1 P ps H->a≠P->SqL K H a (ns.map V.int)->sp [.ref a] H (λv _=>v=.bl true) λ_ _ _=>False)
  (hCX:∀H e s',CX [] H s₁ (λ_ _ _=>False) e s'->False):
  codeAny (model Pg w) callerA (.call (.ref fa) ⟨[.ref a],[]⟩) (λr s'=>r=.ok (.ret (.bool true))/\OldK s₁.heap s'.heap/\s'.os=s₁.os/\AllBare s'.gens) s₁:=by
 have rv:=MJ hi
 have lenV:=hi.length
 have aP:a≠P:=λe=>by rw[e,hP] at ha;cases ha
 have core:∀H:Hp,K1 P ps H->SqL K H a (ns.map V.int)->HOk Pg w H s₁.heap->(∀b,H b≠none->b=a\/b=P)->(H a≠none->K.lookup a=none)->
   codeAny (model Pg w) callerA (.call (.ref fa) ⟨[.ref a],[]⟩) (λr s'=>r=.ok (.ret (.bool true))/\OldK s₁.heap s'.heap/\s'.os=s₁.os/\AllBare s'.gens) s₁:=by
  intro H hO hS hok hA hK;have base_of:∀ {b:Addr} {o:Obj},s₁.heap.get? b=some o->H b=none->(Ww s₁.heap H).get? b=some o:=λe n=>zaB e n
  have noA:∀ {b:Addr} {o:Obj},s₁.heap.get? b=some o->(∀aX n,o.data≠.seq aX n)->(∀f,o.data≠.fields f)->H b=none:=λ{b o} e d1 d2=>by
   cases q:H b with
   | none=>rfl
   | some u=>
    rcases hA b (by rw[q];simp) with e'|e'
    .subst e';rw[ha] at e;cases e
     exact absurd rfl (d1 _ _)
    .subst e';rw[hP] at e;cases e
     exact absurd rfl (d2 _)
  have nsK:∀ {b:Addr} {m:Str->Option Value},s₁.heap.Ns b m->(Ww s₁.heap H).Ns b m:=λ{b m} ⟨o,es,ep,e,d,r⟩=>⟨o,es,ep,base_of e (noA e (λ_ _ z=>by rw[d] at z;cases z) (λ_ z=>by rw[d] at z;cases z)),d,r⟩
  have hKb:K.In (Ww s₁.heap H):=λb o e=>base_of (KX b o e) (by
   cases q:H b with
   | none=>rfl
   | some u=>
    rcases hA b (by rw[q];simp) with e'|e'
    .subst e';rw[hK (by rw[q];simp)] at e;cases e
    .subst e';rw[kP] at e;cases e)
  have hM:Mod K mg (Ww s₁.heap H):=⟨hKb,nsK hns,⟨mb,nsK hb,hbb⟩,let ⟨mc,h1,h2⟩:=hlim;⟨mc,nsK h1,h2⟩⟩
  have hB:BM mg (Ww s₁.heap H):=by
   obtain⟨bm,o,b1,b2,b3,b4,b5,b6,b7⟩:=hbm;exact⟨bm,o,b1,b2,b3,base_of b4 (noA b4 (λ_ _ z=>by rw[b7] at z;cases z) (λ_ z=>by rw[b7] at z;cases z)),b5,b6,b7⟩
  have e0:VU Pg w K mg (Ww s₁.heap H) callerA [] s₁ H:=⟨rfl,hM,λb o e=>zgU e,Nat.le_of_eq (zah _ _),trivial,λb hb=>absurd (show b∈([]:List Addr) from hb) (by simp),hok,.of_eq hg⟩;refine codeAny_mono ((F _ hKb (nsK hns) hB).run callerA [] s₁ H ⟨[.ref a],[]⟩ [.ref a] [.ref a] _ _ hr e0 (hbind s₁ (.ref a)) (.cons rfl .nil) (hsp H hO aP hS)) λr s' h=>?_
  cases r with
  | error e=>exact(hCX H e s' h).elim
  | ok fl=>
   cases fl with
   | next=>exact False.elim h
   | brk=>exact False.elim h
   | cont=>exact False.elim h
   | ret u=>
    obtain⟨v,H',os,bare,un,hok',r',q⟩:=h;have q':v=.bl true:=q;subst q';obtain rfl:u=Value.bool true:=r';refine⟨rfl,⟨λb o e=>?_,λb o e=>un.there b o e (by simp)⟩,os,bare⟩;by_cases z:b=P
    .subst z;obtain⟨more,em⟩:=un.tbls b ps hO.1;have e2:=hok' b _ em;rw[hP] at e;cases e;exact .inr (.inl ⟨ht,rfl,ps,more,rfl,e2⟩)
    .refine .inl ?_;cases q:H b with
     | none=>exact un.keep b o e q (by intro z;exact absurd (show b∈([]:List Addr) from z) (by simp)) (by simp)
     | some u=>
      rcases hO.2 b z with z|⟨ob,xs,z⟩
      .rw[q] at z;cases z
      .have z2:=un.frzs b ob _ z;obtain⟨e1,_⟩:=hok b _ z;obtain⟨e2,_⟩:=hok' b _ z2;rw[e] at e1;cases e1
       exact e2
 cases hk:K.lookup a with
 | some o=>
  have e:=KX a o hk;rw[ha] at e;cases e;refine core (λb=>if b=P then some (.tbl ps) else none) ⟨if_pos rfl,λb nb=>.inl (if_neg nb)⟩ (.inr ⟨_,vs.toArray,_,hk,rfl,rfl,rfl,by rw[zH,lenV];exact hl,by simpa using rv⟩) (λb u z=>?_) (λb z=>?_) λz=>absurd (if_neg aP) z
  .by_cases hb:b=P
   .have z':=(if_pos hb).symm.trans z;cases z';subst hb;exact hP
   .have z':=(if_neg hb).symm.trans z;cases z'
  .by_cases hb:b=P
   .exact .inr hb
   .exact absurd (if_neg hb) z
 | none=>
  refine core (λb=>if b=P then some (.tbl ps) else if b=a then some (.frz { cls:=.type "list",data:=.seq vs.toArray } (.lst (ns.map V.int))) else none) ⟨if_pos rfl,λb nb=>?_⟩ (.inl (.inr ⟨{ cls:=.type "list",data:=.seq vs.toArray },(if_neg aP).trans (if_pos rfl)⟩)) (λb u z=>?_) (λb z=>?_) λ_=>hk
  .by_cases hb:b=a
   .exact .inr ⟨_,_,(if_neg nb).trans (if_pos hb)⟩
   .exact .inl ((if_neg nb).trans (if_neg hb))
  .by_cases hp:b=P
   .have z':=(if_pos hp).symm.trans z;cases z';subst hp;exact hP
   .by_cases hb:b=a
    .have z':=((if_neg hp).trans (if_pos hb)).symm.trans z;cases z';subst hb;exact⟨ha,by rw[zA];exact hl,vs,_,rv,ha⟩
    .have z':=((if_neg hp).trans (if_neg hb)).symm.trans z;cases z'
  .by_cases hp:b=P
   .exact .inr hp
   .by_cases hb:b=a
    .exact .inl hb
    .exact absurd ((if_neg hp).trans (if_neg hb)) z
def R0 (P:Addr)(lp:Pos)(q:Str):Sd:=λds S Q _=>∃ns:List Int,ds=[.ref 0]/\S=[.frz (ns.map D.int),.cod P lp q]/\ns.length<=63/\∀S',Q (.bl true) S'
theorem zcx:∀ds S Q ex,R0 P lp q ds S Q ex->ds.length=1:=λds S Q ex h=>by
 obtain⟨ns,rfl,_⟩:=h;rfl
theorem zcT {K:Fg}{H:Hp}{a P:Addr}{ps:Array Value}{lp:Pos}{q:Str}{ns:List Int}(hl:ns.length<=63)(hO:K1 P ps H)(aP:a≠P)(tr:TriplesOk ps.toList)(hn:codeAmong lp ps.toList=none)(hS:SqL K H a (ns.map V.int)):upF K (R0 P lp q) [.ref a] H (λv _=>v=.bl true) λ_ _ _=>False:=by
 have sf:SqF K H a (ns.map V.int):=by
  rcases hS with (h|⟨o,h⟩)|h
  .rcases hO.2 a aP with z|⟨o,ys,z⟩
   .rw[h] at z;cases z
   .rw[h] at z;cases z
  .exact .inl ⟨o,h⟩
  .exact .inr h
 refine⟨λ_ _=>False,[a,P],[.frz (ns.map D.int),.cod P lp q],[.ref 0],λd _=>d=.bl true,⟨⟨rfl,λn b o h1 h2=>?_,λn m b xs ys h1 h2 h3 h4 o1 o2=>?_⟩,λ_ _ _ _ _ _ _ _ _ z=>z.elim⟩,Rps.cons (.ref rfl) Rps.nil,⟨ns,rfl,rfl,hl,λ_=>rfl⟩,λv H' r' d S' e aZ p q=>?_⟩
 .match n,h1,h2 with
  | 0,h1,h2=>
   cases h1;cases h2
   exact⟨_,sf,zb7 ns⟩
  | 1,h1,h2=>
   cases h1;cases h2
   exact⟨rfl,ps,hO.1,tr,.inl hn⟩
  | n+2,h1,h2=>cases h1
 .match n,m,h1,h2,h3,h4 with
  | 0,m,h1,h2,h3,h4=>cases h3;cases o1
  | 1,0,h1,h2,h3,h4=>cases h4;cases o2
  | 1,1,h1,h2,h3,h4=>rfl
  | 1,m+2,h1,h2,h3,h4=>cases h2
  | n+2,m,h1,h2,h3,h4=>cases h1
 .subst q;cases p;rfl
theorem zhp {l:W.OpenLaw}{q:Program}{aG:List Str}{XP:(Str->Option Value)->Heap->Prop}{YP:World->Heap->Prop}{d:DefRec}{K:Params->Fg}{x:Str}{P c:Addr}{ps:Array Value}{lp:Pos}{lq:Str}(k:Nat)(hn:l.most=some 63)(hdf:d.params.defaults=[])(hr:ZP k callerA)
  (hY:∀(w:World)(h:Heap),YP w h->(K w.params).In h/\h.get? P=some { cls:=.none,data:=.fields ps })(hC:∀(p:Params)(h:Heap),(K p).In h->CodeHd h c P)(kP:∀p:Params,(K p).lookup P=none)(tr:TriplesOk ps.toList)(hcn:codeAmong lp ps.toList=none)
  (F:∀(w:World)(mg:Str->Option Value)(fa:Addr)(h:Heap),(K w.params).In h->h.Ns mainGlobals mg->mg d.name=some (.ref fa)->
   ∃fd:FuncData,(∀(s:Shared)(u:Value),BindsTo s fd ⟨[u],[]⟩ [(x,u)])/\∀base:Heap,(K w.params).In base->base.Ns mainGlobals mg->BM mg base->Yc l.prog w (K w.params) mg base (CXE l.prog w) k fa fd [x] (upF (K w.params) (R0 P lp lq))):
  W.WalkO q aG XP YP l.row.toRowW d [] (λf vs=>PySem.call f vs):=by
 refine Att.attach_call hn hdf λw s₀ s₁ mg mb fa o pm cd doc a vs ns G Y ho hd hcd hmg hobj hints aM hg=>?_
 obtain⟨KX,hP⟩:=hY w _ Y;obtain⟨fd,hb,hF⟩:=F w mg fa _ KX G.T.g hmg;have hbm:BM mg s₁.heap:=by
  obtain⟨bm,ob,b1,b2,b3,b4,b5,b6⟩:=G.T.bmain;refine⟨bm,ob,b1,b2,λe=>?_,b3,b4,b5,b6⟩;obtain⟨o,es,ep,e2,hd,_⟩:=G.T.g;rw[e,e2] at b3;cases b3;rw[hd] at b6;cases b6
 exact zd9 KX G.T.g G.T.b G.T.builtins G.T.nolimit hg hobj hints (yD aM (by decide)) hr hP ((hC _ _ KX).tab hP).isCodeTable (kP _) hbm hF hb (λH hO aP hS=>zcT aM hO aP tr hcn hS) λ_ _ _ ⟨_,_,_,_,_,_,_,_,_,_,_,_,z⟩=>z
theorem zcR {prog:Program}{w:World}{A:Around}{R:Result->Shared->Prop}(hh:A.handled=none){l it S:Addr}{zs:List Int}{aX:List Value}(hi:IntsAre aX zs)(hlI:l≠it)(hlS:l≠S)(hIS:it≠S){kw:List (Str×Value)}{h₀:Heap}{g:Array GenState}{dr:Drawn}{os:OsState}
  (hR:∀(b:Int)(t:Tok)(h':Heap)(tk':Nat),b∈zs->(∀y∈zs,y<=b)->(∀a o,a≠it->a≠S->h₀.get? a=some o->h'.get? a=some o)->R (.ok (.ret (.int b t))) ⟨h',g,dr,tk',os⟩):
  ∀(n j:Nat)(h:Heap)(tk:Nat)(b:Int)(t:Tok)(c:Nat),zs.length-j=n->j<=zs.length->h.IsList l aX.toArray->(∀a o,a≠it->a≠S->h₀.get? a=some o->h.get? a=some o)->h.IsListIter it l j->h.get? S=some (seqObj "list" #[.int b t,.int b t] c)->b∈zs->(∀y∈zs.take j,y<=b)->
   codeAny (model prog w) A (.builtin "max.loop" ⟨[.ref it,.none,.ref S],kw⟩) R ⟨h,g,dr,tk,os⟩:=by
 have hname:(toString "max"++toString ".loop":String)="max.loop":=by decide
 have Wk:=Walks.list (prog:=prog) (w:=w) (A:=A.in1) hh it l hlI aX.toArray
 have aM:=hi.length;intro n
 induction n with
 | zero=>
  intro j h tk b t c hn hj hl kp hit hS hb hbest;have ej:j=aX.length:=by omega
  refine codeAny_builtin PySem.F.entry_max_loop ?_;rw[Around.under_plainId PySem.F.plain_max_loop _];show wpAny _ A.in1 (seqItems? (.ref S) >>= _) _ _ _;refine wpAny_bind (wpAny_seqItems hS rfl ?_);show wpAny _ A.in1 (tryCatch (pyNext (.ref it)) _ >>= _) _ _ _;refine wpAny_bind (wpAny_tryCatch (Wk.done _ _ _ ⟨by rw[zH,<- ej];exact hit,hl⟩ λh' tk' hk'=>?_));have hS':=hk' S _ (by simpa using hIS.symm) hS
  show wpAny _ A.in1 (updateSeq S (λ_=>#[]) >>= _) _ _ _;refine wpAny_bind ?_;refine wpAny_updateSeq hS' rfl (wpAny_bind (wpAny_letGo (wpAny_pure ?_)));have s1:=Heap.SameBut.update h' S (Obj.mapSeq λ_=>(#[]:Array Value));refine hR b t _ _ hb (λy hy=>hbest y (by rw[yQ (by omega)];exact hy)) λa o n1 n2 e=>(s1.2 a n2).trans (hk' a o (by simpa using n1) (kp a o n1 n2 e))
 | succ n ih=>
  intro j h tk b t c hn hj hl kp hit hS hb hbest;refine codeAny_builtin PySem.F.entry_max_loop ?_;rw[Around.under_plainId PySem.F.plain_max_loop _];show wpAny _ A.in1 (seqItems? (.ref S) >>= _) _ _ _;refine wpAny_bind (wpAny_seqItems hS rfl ?_);show wpAny _ A.in1 (tryCatch (pyNext (.ref it)) _ >>= _) _ _ _;refine wpAny_bind (wpAny_tryCatch (Wk.item j _ _ _ (by rw[zH];omega) ⟨hit,hl⟩ λu h' tk' hP hst' hk'=>?_));have hu:aX[j]?=some u:=by simpa using hP
  obtain⟨z,hz⟩:∃z,zs[j]?=some z:=⟨_,zD (by omega)⟩;obtain⟨t2,ht2⟩:=hi.get j z hz;rw[hu] at ht2;cases ht2;have hk1:∀a o,a≠it->h.get? a=some o->h'.get? a=some o:=λa o na e=>hk' a o (by simpa using na) e
  have hS1:=hk1 S _ hIS.symm hS
  have tk1:zs.take (j+1)=zs.take j++[z]:=by rw[List.take_add_one,hz];rfl
  show wpAny _ A.in1 (tryCatch (holding [.int z t2,.int z t2] (richCompare .Gt (.int z t2) (.int b t) >>= _)) _ >>= _) _ _ _;refine wpAny_bind (wpAny_tryCatch (wpAny_holding (wpAny_bind (CmpOf.ints_gt (prog:=prog) (w:=w) (A:=A.in1) (P:=λi v=>∃t,v=.int (([z,b]:List Int).getD i 0) t) (λi=>([z,b]:List Int).getD i 0) (λi v h=>h) 0 1 _ _ _ _ _ ⟨t2,rfl⟩ ⟨t,rfl⟩ ?_))));refine wpAny_bind (wpAny_holding (wpAny_truthy_bool ?_));refine wpAny_bind (wpAny_letGo (wpAny_pure ?_));by_cases hb':([z,b]:List Int).getD 0 0 > ([z,b]:List Int).getD 1 0
  .simp only[hb',decide_true,if_true];have hb2:z > b:=hb'
   have s1:=Heap.SameBut.update h' S (Obj.mapSeq λ_=>#[.int z t2,.int z t2]);obtain⟨c2,hc2⟩:∃c2,(h'.update S (Obj.mapSeq λ_=>#[.int z t2,.int z t2])).get? S=some (seqObj "list" #[.int z t2,.int z t2] c2):=⟨_,get?_update_seq hS1 λ_=>#[.int z t2,.int z t2]⟩;refine wpAny_bind ?_;refine wpAny_updateSeq hS1 rfl (wpAny_bind (wpAny_letGo ?_));rw[hname];obtain⟨oI,hoI,hoc,hod⟩:=id hst'.1;obtain⟨ol,hol,r⟩:=id hst'.2;refine wpAny_pure ⟨plainId_quiet PySem.F.plain_max_loop _,ih (j+1) _ _ z t2 c2 (by omega) (by omega) ⟨ol,(s1.2 l hlS).trans hol,r⟩ (λa o n1 n2 e=>(s1.2 a n2).trans (hk1 a o n1 (kp a o n1 n2 e))) ⟨oI,(s1.2 it hIS).trans hoI,hoc,hod⟩ hc2 (zE hz) λy hy=>?_⟩;rw[tk1] at hy;rcases zY.1 hy with hy|hy
   .have:=hbest y hy;omega
   .rw[zT.mp hy];exact zS _
  .simp only[hb',decide_false,Bool.false_eq_true,if_false];have hb2:¬ z > b:=hb';refine wpAny_bind (wpAny_letGo ?_);rw[hname];refine wpAny_pure ⟨plainId_quiet PySem.F.plain_max_loop _,ih (j+1) _ _ b t c (by omega) (by omega) hst'.2 (λa o n1 n2 e=>hk1 a o n1 (kp a o n1 n2 e)) hst'.1 hS1 hb λy hy=>?_⟩;rw[tk1] at hy;rcases zY.1 hy with hy|hy
   .exact hbest y hy
   .rw[zT.mp hy];omega
theorem zcc (a d:Value):argsOk "max" ⟨[a],[(Str.ofString "default",d)]⟩:=by unfold argsOk;kernel_rfl
theorem zem (hc:X.calm=true){l:Addr}{zs:List Int}{Q:VK}{d:V}{dv:Value}(I:Inv X pins σ H s)(hsq:SqL X.K H l (zs.map V.int))(rd:ZD d dv)(h0:zs=[]->Q d H)(hQ:∀m,m∈zs->(∀y∈zs,y<=m)->Q (.int m) H):
  wpAny (model X.prog X.w) X.A (call (.builtin "max") [.ref l] [(Str.ofString "default",dv)]) (EP X pins σ Q) X.xe s:=by
 have hname:(toString "max"++toString ".loop":String)="max.loop":=by decide
 obtain⟨aX,rv,pl,hz⟩:=I.list hsq;have hi:=zbg rv
 have aM:=hi.length
 have hls:=pl.isList;obtain⟨ol,hol,hrl⟩:=id hls;have hll:l<s.heap.objs.size:=Heap.lt_size hol;refine kmk_tree PySem.F.kind_max PySem.F.plain_max PySem.F.entry_max (zcc _ _) ?_;show wpAny _ X.A.in1 (Builtin.Builtins.bindParams "max" ["key","default"] 0 ⟨[],[(Str.ofString "default",dv)]⟩ >>= _) _ _ s;refine wpAny_bind (wpAny_of_eq (show Builtin.Builtins.bindParams "max" ["key","default"] 0 ⟨[],[(Str.ofString "default",dv)]⟩=pure [none,some dv] from rfl) ?_);refine wpAny_bind (wpAny_pure ?_);refine wpAny_bind (wpAny_pyIter_list hls ?_);refine wpAny_bind (wpAny_newList ?_ (zP _));rw[hname];have hS:(s.heap.push { cls:=.type "list_iterator",data:=.fields #[.ref l,.int 0 0] }).objs.size=s.heap.objs.size+1:=size_push' ..;refine wpAny_pure ⟨plainId_quiet PySem.F.plain_max_loop _,?_⟩;generalize ePI:s.heap.push { cls:=.type "list_iterator",data:=.fields #[.ref l,.int 0 0] }=hI at hS ⊢;have hk0:∀b o,s.heap.get? b=some o->(hI.push (seqObj "list" #[] 0)).get? b=some o:=λb o e=>Heap.get?_push_of_some _ (by rw[<- ePI];exact Heap.get?_push_of_some _ e)
 have gI:(hI.push (seqObj "list" #[] 0)).get? s.heap.objs.size=some { cls:=.type "list_iterator",data:=.fields #[.ref l,.int 0 0] }:=Heap.get?_push_of_some _ (by rw[<- ePI];exact Heap.get?_push_size _ rfl)
 have gS:(hI.push (seqObj "list" #[] 0)).get? hI.objs.size=some (seqObj "list" #[] 0):=Heap.get?_push_size _ rfl
 have leS:s.heap.objs.size<=hI.objs.size:=by rw[hS];exact Nat.le_succ _
 have hlI:l≠s.heap.objs.size:=zM hll
 have hlS:l≠hI.objs.size:=zM (zR hll leS)
 have hIS:s.heap.objs.size≠hI.objs.size:=by rw[hS];exact zM (Nat.lt_succ_self _)
 have old:∀a o,s.heap.get? a=some o->a≠s.heap.objs.size/\a≠hI.objs.size:=λa o e=>⟨zM (Heap.lt_size e),zM (zR (Heap.lt_size e) leS)⟩
 have aY:∀(h':Heap)(tk':Nat),(∀a o,a≠s.heap.objs.size->a≠hI.objs.size->(hI.push (seqObj "list" #[] 0)).get? a=some o->h'.get? a=some o)->Inv X pins σ H { s with heap:=h',toks:=tk' }:=λh' tk' k=>I.kept (t':=tk') λb u e=>k b u (old b u e).1 (old b u e).2 (hk0 b u e)
 have ls0:(hI.push (seqObj "list" #[] 0)).IsList l aX.toArray:=⟨ol,hk0 _ _ hol,hrl⟩
 have loop:=zcR (prog:=X.prog) (w:=X.w) (A:=X.A) (R:=λr s'=>match r with|.ok (.ret u)=>EP X pins σ Q u s'|.ok _=>False|.error e=>X.xe e s') (I.ok.hd hc) hi hlI hlS hIS (kw:=[(Str.ofString "default",dv)]) (h₀:=hI.push (seqObj "list" #[] 0)) (g:=s.gens) (dr:=s.drawn) (os:=s.os) (λb t h' tk' hb hbest k=>⟨.int b,H,aY h' tk' k,⟨t,rfl⟩,hQ b hb hbest⟩);generalize hI.objs.size=S at gS hlS hIS aY loop ⊢;generalize s.heap.objs.size=it at gI hlI hIS aY loop ⊢;have Wk:=Walks.list (prog:=X.prog) (w:=X.w) (A:=X.A.in1) (I.ok.hd hc) it l hlI aX.toArray;refine codeAny_builtin PySem.F.entry_max_loop ?_;rw[Around.under_plainId PySem.F.plain_max_loop _];show wpAny _ X.A.in1 (seqItems? (.ref S) >>= _) _ _ _;refine wpAny_bind (wpAny_seqItems gS rfl ?_);show wpAny _ X.A.in1 (tryCatch (pyNext (.ref it)) _ >>= _) _ _ _;cases hx:zs with
 | nil=>
  have e0:aX.length=0:=by rw[aM,hx];rfl
  refine wpAny_bind (wpAny_tryCatch (Wk.done _ _ _ ⟨by rw[zH,e0];exact⟨_,gI,rfl,rfl⟩,ls0⟩ λh' tk' hk'=>?_));refine wpAny_bind (wpAny_rule (wpAny_pure ?_));exact⟨d,H,aY h' tk' λa o n1 n2 e=>hk' a o (by simpa using n1) e,rd,h0 hx⟩
 | cons z zr=>
  have hz0:zs[0]?=some z:=by rw[hx];rfl
  have l1:1<=zs.length:=by rw[hx];simp
  refine wpAny_bind (wpAny_tryCatch (Wk.item 0 _ _ _ (by rw[zH];omega) ⟨⟨_,gI,rfl,rfl⟩,ls0⟩ λu h' tk' hP hst' hk'=>?_));have hu:aX[0]?=some u:=by simpa using hP
  obtain⟨t2,ht2⟩:=hi.get 0 z hz0;rw[hu] at ht2;cases ht2;have hk1:∀a o,a≠it->(hI.push (seqObj "list" #[] 0)).get? a=some o->h'.get? a=some o:=λa o na e=>hk' a o (by simpa using na) e
  have hS1:=hk1 S _ hIS.symm gS
  have s1:=Heap.SameBut.update h' S (Obj.mapSeq λ_=>#[.int z t2,.int z t2]);obtain⟨c2,hc2⟩:∃c2,(h'.update S (Obj.mapSeq λ_=>#[.int z t2,.int z t2])).get? S=some (seqObj "list" #[.int z t2,.int z t2] c2):=⟨_,get?_update_seq hS1 λ_=>#[.int z t2,.int z t2]⟩;show wpAny _ X.A.in1 (updateSeq S (λ_=>#[.int z t2,.int z t2]) >>= _) _ _ _;refine wpAny_bind ?_;refine wpAny_updateSeq hS1 rfl ?_;rw[hname];obtain⟨oI,hoI,hoc,hod⟩:=id hst'.1;obtain⟨ol2,hol2,r2⟩:=id hst'.2;refine wpAny_pure ⟨plainId_quiet PySem.F.plain_max_loop _,loop _ 1 _ _ z t2 c2 rfl l1 ⟨ol2,(s1.2 l hlS).trans hol2,r2⟩ (λa o n1 n2 e=>(s1.2 a n2).trans (hk1 a o n1 e)) ⟨oI,(s1.2 it hIS).trans hoI,hoc,hod⟩ hc2 (zE hz0) λy hy=>?_⟩;rw[hx] at hy;have e:y=z:=by simpa using hy
  rw[e];exact zS _
theorem zfj {r:List Addr}:∀ {ds:List D} {zs:List Int} {vs:List V},YR ds=some zs->Rps r H ds vs->vs=zs.map V.int:=λ{ds}=>by
 induction ds with
 | nil=>
  intro zs vs h p;have z:=p.unnil;subst z;simp[YR] at h;subst h;rfl
 | cons d ds ih=>
  intro zs vs h p;obtain⟨v,vs',rfl,p1,p2⟩:=p.uncons;cases d with
  | int i=>
   simp only[YR,zL] at h;obtain⟨zr,h,rfl⟩:=h;cases p1;rw[ih h p2];rfl
  | _=>simp[YR] at h
def UX (Q:DK)(d e:D)(S:Sto):Prop:=match d with
 | .ref n=>match lAt S n with
  | some o=>∃zs,YR (Zo o)=some zs/\(zs=[]->Q e S)/\∀m,m∈zs->(∀y∈zs,y<=m)->Q (.int m) S
  | none=>False
 | _=>False
@[irreducible] def La (tl td:TDE):TDE:=λdl S Q=>tl dl S λd S1=>td dl S1 λe S2=>UX Q d e S2
theorem zbz (hc:X.calm=true)(hg:Gl X "max")(hm:X.mg "max"=none)(hv:bootBuiltins "max"=some (.builtin "max"))(ha:PD X Z a tl)(hd:PD X Z b td)(hs:starEach [a] X.env=[(false,eval a X.env)]:=by rfl):
  PD X Z (.Call (.Name "max" p) [a] [⟨some "default",b,dp⟩] pos) (La tl td):=by
 intro pins s σ H Qv I h;obtain⟨r,dl,S,Q,rs,aZ,h,ret⟩:=h;unfold La at h;refine wpAny_Call_Name_kw (WE I hg hm hv ?_ (by decide) (by decide));have hda:PDA X Z [a] (QK tl PB):=Zb ha Zg hs;refine PyProof.Rows.callWith_kw (thn (hda pos pins s σ H (λvs H1=>∃(r1:List Addr)(S1:Sto)(d:D)(v:V),vs=[v]/\Ext r r1 H H1/\Rel X.K Z r1 S1 H1/\Rp r1 H1 d v/\td dl S1 λe S2=>UX Q d e S2) I ?_) λus s1 ⟨vs,H1,I1,rvs,r1,S1,d,v,evs,x1,aB,pd,hk⟩=>?_) (by show backTo pos (starEach [a] X.env)=_;rw[hs];rfl) (by rw[hs];rfl)
 .refine⟨r,dl,S,λds S1=>match ds with|[d]=>td dl S1 λe S2=>UX Q d e S2|_=>False,rs,aZ,h,λvs H1 r1 ds S1 e1 aB p1 q1=>?_⟩;dsimp only at q1;split at q1
  .rename_i d;obtain⟨v,vs',rfl,p2,p3⟩:=p1.uncons;have z:=p3.unnil;subst z;exact⟨r1,S1,d,v,rfl,e1,aB,p2,q1⟩
  .exact q1.elim
 subst evs;obtain⟨u0,rfl,ru0⟩:=WN rvs;refine PyProof.Rows.kws_cons (thn (hd pins s1 σ H1 (λe H2=>∃(r2:List Addr)(S2:Sto)(de:D),Ext r1 r2 H1 H2/\Rel X.K Z r2 S2 H2/\Rp r2 H2 de e/\UX Q d de S2) I1 ⟨r1,dl,S1,_,rs.ext x1,aB,hk,λe H2 r2 de S2 x2 aC p2 q2=>⟨r2,S2,de,x2,aC,p2,q2⟩⟩) λue s2 ⟨e,H2,I2,re,r2,S2,de,x2,aC,pe,hk⟩=>PyProof.Rows.kws_nil ?_);unfold UX at hk;split at hk
 rotate_left
 .exact hk.elim
 rename_i n hk0 ep;cases pd with
 | @ref _ a0 ha0=>
  cases ru0;split at hk
  rotate_left
  .exact hk.elim
  rename_i o ho;obtain⟨zs,hz,q0,q1⟩:=hk;obtain⟨hSn,hkL⟩:=YY ho;obtain⟨xs,sq,rp⟩:=(aC.b.ob n a0 o (x2.adr _ _ ha0) hSn).list hkL;rw[zfj hz rp] at sq;exact zem hc I2 sq re (λz=>ret _ H2 r2 de S2 (x1.trans x2) aC pe (q0 z)) λm hm hb=>ret _ H2 r2 (.int m) S2 (x1.trans x2) aC (.int m) (q1 m hm hb)
open PySem PySem.Spec PyProof.Rows L2 PySem.W
section
variable {s:Shared}{A:Around}{w:World}{prog:Program}
end
def FK (k:Nat)(caps:List Nat)(wi:TI)(gt:TG)(tc:TT)(te:TE):TE:=λσ H Q=>wi σ H λJ H1=>∀D,H1 D=none->∃W:Nat->Nat->Hp->Prop,(∃m,W 0 m (upd H1 D (.lst [])))/\∀i m H,W i m H->
 (J.stop i H/\Q (.ref D) H)\/(J.go i H/\∀x H',J.yld i H x H'->∀o:L2.St,o.length=k->gt x (o++Yb caps σ) H' λσ8 H8=>(∃o8:L2.St,o8.length=k/\σ8=o8++Yb caps σ)/\
  tc σ8 H8 λb H9=>if b=true then te σ8 H9 λy H3=>∃ys,H3 D=some (.lst ys)/\ys.length<sizeLine/\∃m',m'<m/\W (i+1) m' (upd H3 D (.lst (ys++[y]))) else ∃m',m'<m/\W (i+1) m' H9)
theorem Cu (hc:X.calm=true)(cs:XQ sc X.env.scope own N)(hN:∀(j:Nat)(y:Str),N[j]?=some y->∃i,caps[j]?=some i/\X.N[i]?=some y)(aM:caps.length=N.length)(hi:PI X (.Tuple aL kk tp) aU wi)(hg:∀cl C s0 H0 fp pn,PG (Cx.comp X sc (own++N) cl C s0 H0 fp pn) (.Tuple aL kk tp) gt)(he:∀cl C s0 H0 fp pn,PE (Cx.comp X sc (own++N) cl C s0 H0 fp pn) aW te)(ht:∀cl C s0 H0 fp pn,PTs (Cx.comp X sc (own++N) cl C s0 H0 fp pn) ifs tc)(hs:∀y,foldedSetIterable aU X.env y=pure y)(I:Inv X pins σ H s)(h:FK own.length caps wi gt tc te σ H Q)(aY:∀D C s',Qu X pins σ C Q D s'->compPost (model X.prog X.w) X.A X.xe use Qr (.ref D) C (.ok .next) s'):
  wpAny (model X.prog X.w) X.A (comprehension (.ListComp aW [⟨.Tuple aL kk tp,aU,ifs,0⟩] sc pos) sc X.env p2 (newList []) false (eval aU X.env) use) Qr X.xe s:=
 Gz hc cs hN aM hi hg he ht hs I h (λ_ _ b=>b) aY
section
variable {X:Cx}{Z:Zx}{aW:Expr}{pos:Pos}{sc ar:Scope}{N:List Str}{caps:List Nat}
def D3 (caps:List Nat)(tc:TDT)(te:TDE)(k:Nat)(dl:Ev)(d1 d2:D)(S:Sto)(nx:Sto->Prop):Prop:=
 tc (some d1::some d2::Z8 caps dl) S λb S1=>if b=true then te (some d1::some d2::Z8 caps dl) S1 λy S2=>match S2[k]? with
  | some (.lst ys)=>ys.length<1000/\nx (S2.set k (.lst (ys++[y])))
  | _=>False
 else nx S1
@[irreducible] def Ut (caps:List Nat)(ta:TDA)(tc:TDT)(te:TDE):TDE:=λdl S Q=>ta dl S λds S1=>match ds with
 | [.ref n]=>(lAt S1 n).isSome=true/\∃W:Nat->Nat->Sto->Prop,(∃m,W 0 m (S1++[.lst []]))/\∀k m S2,W k m S2->match lAt S2 n with
  | some o=>match (Zo o)[k]? with
   | some y=>D3 caps tc te S1.length dl (.int (k:Int)) y S2 λS3=>∃m',m'<m/\W (k+1) m' S3
   | none=>k=(Zo o).length/\Q (.ref S1.length) S2
  | none=>False
 | _=>False
theorem Be {ta:TDA}{tc:TDT}{te:TDE}{σ:L2.St}{H:Hp}{Qv:VK}(h:up X.K Z (Ut caps ta tc te) σ H Qv):
  FK 2 caps (BF X.K (upA X.K Z ta)) (Uo X.K 2 (UN [0,1])) (upT X.K Z0 tc) (up X.K Z0 te) σ H Qv:=by
 obtain⟨r,dl,S,Q,rs,aZ,h,ret⟩:=h;unfold Ut at h;refine⟨r,dl,S,_,rs,aZ,h,λvs H1 r1 ds S1 x1 aB p1 q1=>?_⟩;split at q1
 .rename_i n;obtain⟨v,vs',rfl,p2,p3⟩:=p1.uncons;have z:=p3.unnil;subst z;cases p2 with
  | @ref n a hr=>
   obtain⟨aQ,W,⟨m0,w0⟩,turn⟩:=q1;obtain⟨o1,eo1⟩:=yO.mp aQ;obtain⟨xs1,sq1,_⟩:=XW (r:=r1) hr aB.b eo1;refine⟨a,rfl,⟨xs1,sq1⟩,λD0 hD=>?_⟩;obtain⟨aC,x2⟩:=aB.b.push (ds:=[]) (xs:=[]) hD Rps.nil;refine⟨λk m H'=>∃r' S',Ext (r1++[D0]) r' (upd H1 D0 (.lst [])) H'/\ZZ X.K r' S' H'/\W k m S',⟨m0,_,_,Ext.refl,aC,w0⟩,?_⟩;rintro k m H2 ⟨r2,S2,x3,rb2,w2⟩;have ha2:r2[S1.length]?=some D0:=x3.adr _ _ (SY aB.len)
   have hr2:r2[n]?=some a:=(x2.trans x3).adr _ _ hr
   have q:=turn k m S2 w2;split at q
   .rename_i o eo;obtain⟨xs,sq,pr⟩:=XW (r:=r2) hr2 rb2 eo;split at q
    .rename_i y ey;obtain⟨v,hv,pv⟩:=pr.get ey;refine .inr ⟨⟨xs,v,sq,hv⟩,λv' H' y' o8 ho8=>?_⟩;obtain⟨T,w,rfl,hT,rfl,hw⟩:=y';have ew:w=v:=by
      have z:=hw xs sq;rw[hv] at z;exact(Option.some.inj z).symm
     subst ew;obtain⟨c1,c2,rfl⟩:∃c1 c2,o8=[c1,c2]:=by
      match o8,ho8 with
      | [c1,c2],_=>exact⟨c1,c2,rfl⟩
     have x4:Ext r2 r2 H2 (upd H2 T (.tup [.int (k:Int),w])):=Mc hT
     have rb3:=rb2.same (X2 (o:=.tup [.int (k:Int),w]) hT)
     have rs3:=rs.ext (x1.trans (x2.trans (x3.trans x4)));refine⟨T,[.int (k:Int),w],rfl,SqT.of YH,rfl,rfl,⟨[some (.int (k:Int)),some w],rfl,rfl⟩,?_⟩;have rsY:=Et (caps:=caps) rs3 (.int (k:Int)) (pv.ext x4);refine⟨r2,_,S2,_,rsY,⟨rb3,λ_ _ _ _ _ _ _ _ _ z=>z.elim⟩,q,λb H9 r9 S9 x9 rel9 q9=>?_⟩;cases b with
     | false=>
      rw[if_neg zJ] at q9 ⊢;obtain⟨m',hm,q9⟩:=q9;exact⟨m',hm,r9,S9,x3.trans (x4.trans x9),rel9.b,q9⟩
     | true=>
      rw[if_pos rfl] at q9 ⊢;refine⟨r9,_,S9,_,rsY.ext x9,rel9,q9,λz H4 r4 dz S4 x6 aF p4 q4=>?_⟩;split at q4
      .rename_i ys eys;obtain⟨hl,m',hm,q4⟩:=q4;have ha4:r4[S1.length]?=some D0:=x6.adr _ _ (x9.adr _ _ ha2);obtain⟨zs,hD4,pz⟩:=aF.b.ob _ _ _ ha4 eys;obtain⟨rel5,x7⟩:=aF.b.set ha4 eys (pz.snoc p4);exact⟨zs,hD4,by rw[<- pz.1];exact P6 (yM hl),m',hm,r4,_,x3.trans (x4.trans (x9.trans (x6.trans x7))),rel5,q4⟩
      .exact q4.elim
    .obtain⟨hk,q⟩:=q;exact .inl ⟨⟨xs,sq,by rw[<- pr.1];exact hk.symm⟩,ret _ H2 r2 _ S2 (x1.trans (x2.trans x3)) ⟨rb2,aZ.xw.ext (x1.trans (x2.trans x3))⟩ (.ref ha2) q⟩
   .exact q.elim
 .exact q1.elim
theorem Hl (har:X.env.scope=ar)(hc:X.calm=true)(cs:XQ sc ar [x1,x2] N)(hl1:sc.names.lookup x1=some .local)(hl2:sc.names.lookup x2=some .local)(hN:caps.map (λi=>X.N[i]?)=N.map some)(hnd:([x1,x2]++N).Nodup)(hg:Gl X "enumerate")(hm:X.mg "enumerate"=none)(hv:bootBuiltins "enumerate"=some (.type "enumerate"))(ha:PDA X Z [a] ta)(ht:∀cl C s0 H0 fp pn,W6 (Cx.comp X sc ([x1,x2]++N) cl C s0 H0 fp pn) ifs tc)(he:∀cl C s0 H0 fp pn,PD (Cx.comp X sc ([x1,x2]++N) cl C s0 H0 fp pn) Z0 aW te)(hse:starEach [a] X.env=[(false,eval a X.env)]:=by rfl)(hs:∀y,foldedSetIterable (.Call (.Name "enumerate" p) [a] [] aK) X.env y=pure y:=by intro _;rfl):
  PD X Z (.ListComp aW [⟨.Tuple [.Name x1 p1,.Name x2 p2] kk tp,.Call (.Name "enumerate" p) [a] [] aK,ifs,0⟩] sc pos) (Ut caps ta tc te):=by
 subst har;intro pins s σ H Q I h;rw[eval_ListComp];have h:=Be h;refine Cu (use:=none) (ifs:=ifs) (tc:=upT X.K Z0 tc) (gt:=Uo X.K 2 (UN [0,1])) (te:=up X.K Z0 te) hc cs (Xl hN).1 (Xl hN).2 (Eg hg hm hv ha hse) (λcl C s0 H0 fp pn=>?_) he ht hs I h λD C s' f=>?_
 .have l1:(Cx.comp X sc ([x1,x2]++N) cl C s0 H0 fp pn).env.scope.names.lookup x1=some .local:=lookup_relabel_local hl1
  have l2:(Cx.comp X sc ([x1,x2]++N) cl C s0 H0 fp pn).env.scope.names.lookup x2=some .local:=lookup_relabel_local hl2;exact Sw hc (Uk hnd (.cons rfl (.inl l1) (.inr l1) (.cons rfl (.inl l2) (.inr l2) .nil))) rfl rfl
 .obtain⟨⟨H',I',q,hC⟩,⟨m,ns⟩,l,o,c,p⟩:=f;exact⟨m,ns,λh' sb=>⟨.ref D,H',I'.turned (t':=s'.toks) (λb ob hb e=>(sb.2 b hb).trans e) hC l (.inr o) c p,rfl,q⟩⟩
end
section
variable {P:Program}{w:World}{K:Fg}{mg:Str->Option Value}{base:Heap}
structure Lm (K:Fg)(mg:Str->Option Value)(base:Heap)(fd:FuncData)(T:Addr) where
 c:Addr
 code:fd.code=.ref c
 hd:CodeHd base c T
 bm:BM mg base
 kn:∀o,K.lookup T≠some o
theorem zcd {x qual:Str}{st:Stmt}{f c:Addr}{fd:FuncData}{N ps:List Str}{k:Nat}{sd:Sd}(F:Fun K x qual st f fd)(Sc:Zm N ps (Zj st))(len:∀ds S Q ex,sd ds S Q ex->ds.length=ps.length)(hcd:fd.code=.ref c)
  (hbody:∀(A:Around)(outer:List Env)(s:Shared)(H:Hp)(E:XK),ZP k (A.deeper (envOfC qual (Zj st) s.heap.objs.size f (.ref c)))->
   ∃t,YE (X6 (CXE P w) P w K mg base N qual (Zj st) f (.ref c) A outer s H E).nox Z0 (Xa st) t/\∀ds S Q ex,sd ds S Q ex->t { nx:=λ_ S'=>Q .non S',rt:=Q } (XG N ds) S):Yc P w K mg base (CXE P w) (k+1) f fd ps (upF K sd):=by
 obtain⟨oc,od,kV,doc,pm,an,cdv,ct,osl,rfl,lk,hcd'⟩:=F.ex;have e:cdv=.ref c:=hcd;subst e;refine JC lk hcd' Sc (λvs H Q E h=>?_) λA outer s H vs Q E hr h=>?_
 .obtain⟨ex,r,S,ds,Q',aZ,p,q,ret⟩:=h;rw[<- p.1];exact len ds S Q' ex q
 .obtain⟨ex,r,S,ds,Q',aZ,p,q,ret⟩:=h;obtain⟨t,ht,hq⟩:=hbody A outer s H E hr;have back:∀ {H':Hp} {r':List Addr} {S':Sto},Ext r r' H H'->Rel K Z0 r' S' H'->Rel K (Zc ex E) r' S' H':=λx rel'=>⟨rel'.b,aZ.xw.ext x⟩
  refine⟨upS K Z0 t,ht.nox,r,XG N ds,S,_,Dk p,⟨aZ.b,λ_ _ _ _ _ _ _ _ _ z=>z.elim⟩,hq ds S Q' ex q,?_,?_,?_,?_⟩
  .intro σ' H' r' dl' S' x _ rel' z;exact ret .non H' r' .non S' x (back x rel') .non z
  .intro σ' H' r' dl' S' x _ rel' z;exact z
  .intro σ' H' r' dl' S' x _ rel' z;exact z
  .intro v H' r' d S' x rel' p' z;exact ret v H' r' d S' x (back x rel') p' z
theorem zcy (hr:ZP k A)(env:Env)(h:j+2<=k:=by decide):ZP j (A.in1.deeper env):=(ZP.in1 (k:=j+1) (hr.mono h)).deeper env
theorem AS (hr:ZP k A)(h:j+1<=k:=by decide):A.in1.depth<recursionLimit:=(ZP.in1 (k:=j) (hr.mono h)).depth
theorem lsc (a:sc.kind=.function:=by rfl)(b:sc.isCoroutine=false:=by rfl)(c:sc.isGenerator=false:=by rfl)(d:∀y∈sc.names,y.2≠.cell:=by decide +kernel)(e:∀y∈own,sc.names.lookup y=some .local:=by decide +kernel)(f:∀y∈caps,sc.names.lookup y=some .free:=by decide +kernel)(g:∀y∈sc.names,y.2=.free->ar.names.lookup y.1=some .cell:=by decide +kernel)(i:own.Nodup:=by decide +kernel):ML sc ar own caps:=⟨a,b,c,d,e,f,g,i⟩
end
section
variable {X:Cx}{Z:Zx}{aW aU:Expr}{aL:List Expr}{kk:Nat}{tp pos:Pos}{sc ar:Scope}{own N:List Str}{caps:List Nat}{wi:TI}{gt:TG}{te:TE}
theorem zdj {ifs:List Expr}{tc:TT}{i:Nat}{y:Str}{py spos:Pos}(hc:X.calm=true)(cs:XQ sc X.env.scope own N)(hN:caps.map (λi=>X.N[i]?)=N.map some)
  (hi:PI X (.Tuple aL kk tp) aU wi)(hg:∀cl C s0 H0 fp pn,PG (Cx.comp X sc (own++N) cl C s0 H0 fp pn) (.Tuple aL kk tp) gt)(he:∀cl C s0 H0 fp pn,PE (Cx.comp X sc (own++N) cl C s0 H0 fp pn) aW te)(ht:∀cl C s0 H0 fp pn,PTs (Cx.comp X sc (own++N) cl C s0 H0 fp pn) ifs tc)
  (hNd:X.N.Nodup)(hy:X.N[i]?=some y)(hl:X.env.scope.names.lookup y=some .local)
  (hsw:swapsWith (.ListComp aW [⟨.Tuple aL kk tp,aU,ifs,0⟩] sc pos) (some (.Name y py)) spos.line X.env=pure true)
  (hs:∀y,foldedSetIterable aU X.env y=pure y:=by intro _;rfl):PS X (.Assign [.Name y py] (.ListComp aW [⟨.Tuple aL kk tp,aU,ifs,0⟩] sc pos) spos) (λE σ H=>FK own.length caps wi gt tc te σ H λv H1=>E.nx (σ.set i (some v)) H1):=
 GA (λI h aY=>Cu hc cs (Xl hN).1 (Xl hN).2 hi hg he ht hs I h aY) hNd hy hl hsw
theorem zeI {ifs:List Expr}{ta:TDA}{tc:TDT}{te:TDE}{x1 x2:Str}{p1 p2 p aK:Pos}{a:Expr}{i:Nat}{y:Str}{py spos:Pos}(har:X.env.scope=ar)(hc:X.calm=true)(cs:XQ sc ar [x1,x2] N)(hl1:sc.names.lookup x1=some .local)(hl2:sc.names.lookup x2=some .local)
  (hN:caps.map (λi=>X.N[i]?)=N.map some)(hnd:([x1,x2]++N).Nodup)(hNd:X.N.Nodup)(hy:X.N[i]?=some y)(hlo:ar.names.lookup y=some .local)(hg:Gl X "enumerate")(hm:X.mg "enumerate"=none)(hv:bootBuiltins "enumerate"=some (.type "enumerate"))(ha:PDA X Z [a] ta)
  (ht:∀cl C s0 H0 fp pn,W6 (Cx.comp X sc ([x1,x2]++N) cl C s0 H0 fp pn) ifs tc)
  (he:∀cl C s0 H0 fp pn,PD (Cx.comp X sc ([x1,x2]++N) cl C s0 H0 fp pn) Z0 aW te)
  (hsw:swapsWith (.ListComp aW [⟨.Tuple [.Name x1 p1,.Name x2 p2] kk tp,.Call (.Name "enumerate" p) [a] [] aK,ifs,0⟩] sc pos) (some (.Name y py)) spos.line X.env=pure true:=by rfl)
  (hse:starEach [a] X.env=[(false,eval a X.env)]:=by rfl)(hs:∀y,foldedSetIterable (.Call (.Name "enumerate" p) [a] [] aK) X.env y=pure y:=by intro _;rfl):
  PDS X Z (.Assign [.Name y py] (.ListComp aW [⟨.Tuple [.Name x1 p1,.Name x2 p2] kk tp,.Call (.Name "enumerate" p) [a] [] aK,ifs,0⟩] sc pos) spos) (S7 i (Ut caps ta tc te)):=by
 subst har;refine Yz (zdj hc cs hN (gt:=Uo X.K 2 (UN [0,1])) (tc:=upT X.K Z0 tc) (te:=up X.K Z0 te) (Eg hg hm hv ha hse) (λcl C s0 H0 fp pn=>?_) he ht hNd hy hlo hsw hs) λF σ H h=>Nw (λ_ h=>Be h) h
 have l1:(Cx.comp X sc ([x1,x2]++N) cl C s0 H0 fp pn).env.scope.names.lookup x1=some .local:=lookup_relabel_local hl1
 have l2:(Cx.comp X sc ([x1,x2]++N) cl C s0 H0 fp pn).env.scope.names.lookup x2=some .local:=lookup_relabel_local hl2;exact Sw hc (Uk hnd (.cons rfl (.inl l1) (.inr l1) (.cons rfl (.inl l2) (.inr l2) .nil))) rfl rfl
@[irreducible] def Oj (caps:List Nat)(ta:TDA)(tc:TDT)(te:TDE):TDE:=λdl S Q=>ta dl S λds S1=>match ds with
 | [.int lo,.int hi]=>(-(2^62)<=lo/\lo<2^62/\-(2^62)<=hi/\hi<2^62)/\∃W:Nat->Sto->Prop,W 0 (S1++[.lst []])/\∀k S2,W k S2->
   if k<(hi-lo).toNat then Wr caps tc te S1.length dl (.int (lo+k)) S2 (W (k+1)) else Q (.ref S1.length) S2
 | _=>False
theorem zhH {ta:TDA}{tc:TDT}{te:TDE}{σ:L2.St}{H:Hp}{Qv:VK}(h:up X.K Z (Oj caps ta tc te) σ H Qv):SI caps (CH (upA X.K Z ta)) (upT X.K Z0 tc) (up X.K Z0 te) σ H Qv:=by
 obtain⟨r,dl,S,Q,rs,aZ,h,ret⟩:=h;unfold Oj at h;refine⟨r,dl,S,_,rs,aZ,h,λvs H1 r1 ds S1 x1 aB p1 q1=>?_⟩;split at q1
 .rename_i lo hi;obtain⟨v,vs',rfl,p2,p3⟩:=p1.uncons;obtain⟨v2,vs2,rfl,p4,p5⟩:=p3.uncons;have z:=p5.unnil;subst z;cases p2;cases p4;obtain⟨⟨b1,b2,b3,b4⟩,W,w0,turn⟩:=q1;refine⟨lo,hi,rfl,⟨b1,b2,b3,b4⟩,λD0 hD=>?_⟩;obtain⟨aC,x2⟩:=aB.b.push (ds:=[]) (xs:=[]) hD Rps.nil;refine⟨λk m H'=>m=(hi-lo).toNat-k/\∃r' S',Ext (r1++[D0]) r' (upd H1 D0 (.lst [])) H'/\ZZ X.K r' S' H'/\W k S',⟨(hi-lo).toNat,by simp,_,_,Ext.refl,aC,w0⟩,?_⟩;rintro k m H2 ⟨em,r2,S2,x3,rb2,w2⟩;have ha2:r2[S1.length]?=some D0:=x3.adr _ _ (SY aB.len)
  have q:=turn k S2 w2;split at q
  .rename_i hk;refine .inr ⟨hk,λv' H' y'=>?_⟩;obtain⟨eH,y'⟩:=y';subst eH;subst y';have pk:Rp r2 H' (.int (lo+(k:Int))) (.int (lo+(k:Int))):=.int _
   have z:=JY (Nx:=λH'=>∃m',m'<m/\m'=(hi-lo).toNat-(k+1)/\∃r' S',Ext (r1++[D0]) r' (upd H1 D0 (.lst [])) H'/\ZZ X.K r' S' H'/\W (k+1) S') (rs.ext (x1.trans (x2.trans x3))) ha2 rb2 pk q
    λr' S' H' x' rb' w'=>⟨(hi-lo).toNat-(k+1),by omega,rfl,r',S',x3.trans x',rb',w'⟩
   exact z
  .rename_i hk;exact .inl ⟨by show (hi-lo).toNat<=k;omega,ret _ H2 r2 _ S2 (x1.trans (x2.trans x3)) ⟨rb2,aZ.xw.ext (x1.trans (x2.trans x3))⟩ (.ref ha2) q⟩
 .exact q1.elim
theorem zc1 {x:Str}{px:Pos}{ifs:List Expr}{ta:TDA}{tc:TDT}{te:TDE}{a b:Expr}{p aK:Pos}(har:X.env.scope=ar)(hc:X.calm=true)(cs:Vp sc ar x N)(hN:caps.map (λi=>X.N[i]?)=N.map some)(hnd:(x::N).Nodup)(hg:Gl X "range")(hm:X.mg "range"=none)(ha:PDA X Z [a,b] ta)
  (ht:∀cl C s0 H0 fp pn,W6 (Cx.comp X sc (x::N) cl C s0 H0 fp pn) ifs tc)(he:∀cl C s0 H0 fp pn,PD (Cx.comp X sc (x::N) cl C s0 H0 fp pn) Z0 aW te)
  (hs:∀y,foldedSetIterable (.Call (.Name "range" p) [a,b] [] aK) X.env y=pure y:=by intro _;rfl)(hst:starEach [a,b] X.env=[(false,eval a X.env),(false,eval b X.env)]:=by rfl)(hst2:starEach [b] X.env=[(false,eval b X.env)]:=by rfl):
  PD X Z (.ListComp aW [⟨.Name x px,.Call (.Name "range" p) [a,b] [] aK,ifs,0⟩] sc pos) (Oj caps ta tc te):=by
 subst har;exact Z4 (J3 hc cs hN hnd (tc:=upT X.K Z0 tc) (te:=up X.K Z0 te) (zhg hg hm ha hst hst2) ht he hs) λ_ _ _ h=>zhH h
end
end L3
namespace Mine
open PySem PySem.Spec PyProof.Rows L2 L3
abbrev LT:Addr:=801
abbrev LP:Pos:=⟨432,32,432,73⟩
abbrev LQ:Str:="Book.to_look_at.<locals>.<lambda>"
theorem fsc {N P:List Str}{sc:Scope}(a:sc.kind=.function:=by rfl)(b:sc.isCoroutine=false:=by rfl)(c:sc.isGenerator=false:=by rfl)(d:N.Nodup:=by decide +kernel)(e:N.take P.length=P:=by rfl)(f:∀x∈P,sc.names.lookup x=some .local\/sc.names.lookup x=some .cell:=by decide +kernel)(g:∀y∈sc.names,y.2≠.free:=by decide +kernel):Zm N P sc:=⟨a,b,c,d,e,f,g⟩
theorem csc {sc ar:Scope}{x:Str}{caps:List Str}(a:sc.kind=.function:=by rfl)(b:∀y∈sc.names,y.2≠.cell:=by decide +kernel)(c:∀y∈sc.names,y.2=.local->sc.names.lookup y.1=some .local:=by decide +kernel)(d:sc.names.lookup x=some .local:=by rfl)(e:∀y∈caps,sc.names.lookup y=some .free:=by decide +kernel)(f:∀y∈sc.names,y.2=.free->ar.names.lookup y.1=some .cell:=by decide +kernel):Vp sc ar x caps:=⟨a,b,c,d,e,f⟩
theorem Vz {sc ar:Scope}{own caps:List Str}(a:sc.kind=.function:=by rfl)(b:∀y∈sc.names,y.2≠.cell:=by decide +kernel)(c:∀y∈sc.names,y.2=.local->sc.names.lookup y.1=some .local:=by decide +kernel)(e:∀y∈caps,sc.names.lookup y=some .free:=by decide +kernel)(f:∀y∈sc.names,y.2=.free->ar.names.lookup y.1=some .cell:=by decide +kernel):XQ sc ar own caps:=⟨a,b,c,e,f⟩
abbrev Ln (sp:Sd)(n:Nat):Prop:=∀ds S Q ex,sp ds S Q ex->ds.length=n
theorem Zh {X:Cx}{x:Str}{p pos:Pos}{e:Expr}{es:List Expr}{t:TDA}{k j:Nat}{ps:List Str}{sd:Sd}{ex:Ev->Addr->Sto->Prop}(G:Fk X.prog X.w X.K X.mg X.base k x ps sd)(hr:ZP j X.A)(ha:PDA X ⟨ex,Z0.w⟩ (e::es) t)(hk:k<=j:=by decide)(hg:Gl X x:=by rfl)
  (hdb:(x==("__debug__":Str))=false:=by decide)(he:starEach (e::es) X.env=(false,eval e X.env)::starEach es X.env:=by rfl)(hpl:(backTo pos (starEach es X.env)).any (·.1)=false:=by rfl):PD X ⟨ex,Z0.w⟩ (.Call (.Name x p) (e::es) [] pos) (G1 ex sd t):=F6 G (hr.mono hk) YC hg ha hdb he hpl
abbrev Kq:Stmt:=top 109
abbrev Pk:List Str:=[VZ]
theorem zeR:Zm [VZ] Pk (Zj Kq):=fsc
abbrev M7:Stmt:=top 95
abbrev Uy:List Str:=[q84,"_law_k"]
theorem GQ:Zm [q84,"_law_k",VZ] Uy (Zj M7):=fsc
abbrev OX:Stmt:=top 108
abbrev RP:List Str:=[q84,Q5]
theorem Wu:Zm [q84,Q5,q57,"_law_at","_law_low","_law_wide"] RP (Zj OX):=fsc
abbrev MQ:Stmt:=top 98
abbrev Qf:List Str:=[VZ,"_law_size"]
theorem Rw:Zm [VZ,"_law_size","_law_kind","_law_part","_law_bottom","_law_word"] Qf (Zj MQ):=fsc
abbrev Ml:Stmt:=top 99
abbrev SU:List Str:=[q60,L4]
theorem zao:Zm [q60,L4] SU (Zj Ml):=fsc
abbrev Ss:Stmt:=top 100
abbrev RT:List Str:=["_law_cells",Q5]
theorem Ri:Zm ["_law_cells",Q5,q48,L4,VZ,q60,"_law_weight_here"] RT (Zj Ss):=fsc
abbrev MB:Stmt:=top 101
abbrev Qq:List Str:=["_law_a","_law_b"]
theorem UZ:Zm ["_law_a","_law_b","_law_rest"] Qq (Zj MB):=fsc
abbrev LH:Stmt:=top 102
abbrev Sy:List Str:=["_law_a",Pw]
theorem Mv:Zm ["_law_a",Pw,Tj,"_law_turn"] Sy (Zj LH):=fsc
abbrev Nt:Stmt:=top 103
abbrev QH:List Str:=[q48,"_law_point"]
theorem U8:Zm [q48,"_law_point",Tj,q60,"_law_a","_law_b"] QH (Zj Nt):=fsc
abbrev Lj:Stmt:=top 105
abbrev Pp:List Str:=[q48,q60]
theorem zgB:Zm [q48,q60] Pp (Zj Lj):=fsc
abbrev M9:Stmt:=top 104
abbrev RY:List Str:=[q48]
theorem KZ:Zm [q48,L4,q60] RY (Zj M9):=fsc
abbrev My:Stmt:=top 106
abbrev PU:List Str:=[q48,q57,q61,VZ,"_law_place"]
theorem WR:Zm [q48,q57,q61,VZ,"_law_place","_law_at","_law_word","_law_point",q62,"_law_a","_law_shared","_law_top","_law_bottom"] PU (Zj My):=fsc
abbrev LO:Stmt:=top 107
abbrev Ou:List Str:=[q84,q48,q57,q61]
theorem Ui:Zm [q84,q48,q57,q61,"_law_rows_here",Pw,"_law_k","_law_place"] Ou (Zj LO):=fsc
abbrev Me:Stmt:=Zq (top 84) 0
abbrev QR:List Str:=["self","box"]
theorem zbN:Zm ["self","box"] QR (Zj Me):=fsc
abbrev Pj:Stmt:=Zq (top 84) 5
abbrev RQ:List Str:=["self"]
theorem zfO:Zm ["self"] RQ (Zj Pj):=fsc
abbrev OU:Stmt:=top 26
abbrev Oo:List Str:=["a"]
theorem zaW:Zm ["a"] Oo (Zj OU):=fsc
abbrev Qm:Stmt:=top 82
abbrev Ux:List Str:=["box"]
theorem zbe:Zm ["box"] Ux (Zj Qm):=fsc
abbrev M0:Stmt:=top 83
abbrev Ub:List Str:=["box"]
theorem zga:Zm ["box"] Ub (Zj M0):=fsc
abbrev Rm:Stmt:=Zq (top 84) 4
abbrev QY:List Str:=["self"]
theorem CV:Zm ["self","waiting"] QY (Zj Rm):=fsc
abbrev OL:Stmt:=top 52
abbrev SH:List Str:=["word","span"]
theorem zbk:Zm ["word","span"] SH (Zj OL):=fsc
abbrev Nr:Stmt:=top 14
abbrev RO:List Str:=["a","b"]
theorem zeH:Zm ["a","b"] RO (Zj Nr):=fsc
abbrev Kh:Stmt:=top 16
abbrev VD:List Str:=["top",XO]
theorem zeD:Zm ["top",XO] VD (Zj Kh):=fsc
abbrev NB:Stmt:=top 17
abbrev Oi:List Str:=["low","high","grid"]
theorem zbP:Zm ["low","high","grid"] Oi (Zj NB):=fsc
abbrev O6:Stmt:=Zq (top 42) 2
abbrev Rq:List Str:=["self",q9,"box","grid"]
theorem BH:Zm ["self",q9,"box","grid",q20] Rq (Zj O6):=fsc
abbrev L7:Stmt:=Zq (top 43) 2
abbrev Q6:List Str:=["self",q9,"box","grid"]
theorem zhE:Zm ["self",q9,"box","grid"] Q6 (Zj L7):=fsc
abbrev Lx:Stmt:=top 18
abbrev Wh:List Str:=["a","b"]
theorem zfS:Zm ["a","b"] Wh (Zj Lx):=fsc
abbrev NS:Stmt:=Zq (top 45) 1
abbrev Px:List Str:=["self",q9,"box","grid"]
theorem zex:Zm ["self",q9,"box","grid"] Px (Zj NS):=fsc
abbrev Nq:Stmt:=top 19
abbrev X7:List Str:=["a","b"]
theorem zhB:Zm ["a","b"] X7 (Zj Nq):=fsc
abbrev Lu:Stmt:=Zq (top 46) 1
abbrev RG:List Str:=["self",q9,"box","grid"]
theorem A6:Zm ["self",q9,"box","grid"] RG (Zj Lu):=fsc
abbrev Md:Stmt:=top 20
abbrev VS:List Str:=["a","b","grid"]
theorem Di:Zm ["a","b","grid",Uq] VS (Zj Md):=fsc
abbrev OK:Stmt:=Zq (top 47) 1
abbrev Ov:List Str:=["self",q9,"box","grid"]
theorem zc5:Zm ["self",q9,"box","grid"] Ov (Zj OK):=fsc
abbrev OV:Stmt:=top 13
abbrev W9:List Str:=[q20,"many"]
theorem NX:Zm [q20,"many","worth","step"] W9 (Zj OV):=fsc
abbrev PV:Stmt:=top 21
abbrev Rb:List Str:=["a","many","grid"]
theorem OP:Zm ["a","many","grid",WS,"powers",XO] Rb (Zj PV):=fsc
abbrev O8:Stmt:=Zq (top 48) 2
abbrev Oq:List Str:=["self",q9,"box","grid"]
theorem zck:Zm ["self",q9,"box","grid"] Oq (Zj O8):=fsc
abbrev Lp:Stmt:=Zq (top 48) 0
abbrev Qo:List Str:=["self","one","many"]
theorem zfx:Zm ["self","one","many"] Qo (Zj Lp):=fsc
abbrev O2:Stmt:=Zq (top 42) 0
abbrev PC:List Str:=["self","top",XO]
theorem zaU:Zm ["self","top",XO] PC (Zj O2):=fsc
abbrev LV:Stmt:=Zq (top 43) 0
abbrev QI:List Str:=["self",Wv]
theorem zd3:Zm ["self",Wv] QI (Zj LV):=fsc
abbrev MW:Stmt:=Zq (top 44) 0
abbrev QL:List Str:=["self","one",Y7]
theorem ze3:Zm ["self","one",Y7] QL (Zj MW):=fsc
abbrev Lk:Stmt:=Zq (top 44) 0
abbrev Qx:List Str:=["self","one",Y7]
theorem zdz:Zm ["self","one",Y7] Qx (Zj Lk):=fsc
abbrev Ms:Stmt:=Zq (top 44) 0
abbrev RL:List Str:=["self","one",Y7]
theorem zbm:Zm ["self","one",Y7] RL (Zj Ms):=fsc
abbrev M6:Stmt:=top 49
abbrev V6:List Str:=["node"]
theorem zep:Zm ["node"] V6 (Zj M6):=fsc
abbrev MD:Stmt:=top 51
abbrev XI:List Str:=[q16,"box","grid"]
theorem FI:Zm [q16,"box","grid","found","node"] XI (Zj MD):=fsc
abbrev Lr:Stmt:=top 76
abbrev Rh:List Str:=[q16,"row","box","grid"]
theorem C5:Zm [q16,"row","box","grid","at"] Rh (Zj Lr):=fsc
abbrev Mp:Stmt:=top 23
abbrev Vu:List Str:=["a","b"]
theorem Im:Zm ["a","b","low","high"] Vu (Zj Mp):=fsc
abbrev Np:Stmt:=top 71
abbrev RR:List Str:=["word","span"]
theorem zdo:Zm ["word","span"] RR (Zj Np):=fsc
abbrev MH:Stmt:=Zq (top 42) 3
abbrev PN:List Str:=["self",q9,"here","grid"]
theorem za9:Zm ["self",q9,"here","grid"] PN (Zj MH):=fsc
abbrev Mh:Stmt:=Zq (top 43) 3
abbrev Qc:List Str:=["self",q9,"here","grid"]
theorem zdW:Zm ["self",q9,"here","grid"] Qc (Zj Mh):=fsc
abbrev Lz:Stmt:=Zq (top 45) 2
abbrev Pa:List Str:=["self","here","x","y","grid"]
theorem zgG:Zm ["self","here","x","y","grid"] Pa (Zj Lz):=fsc
abbrev Nc:Stmt:=Zq (top 45) 3
abbrev R9:List Str:=["self","here","x","y","grid"]
theorem ze2:Zm ["self","here","x","y","grid"] R9 (Zj Nc):=fsc
abbrev LG:Stmt:=Zq (top 44) 1
abbrev Q9:List Str:=["self",q9,"here","grid"]
theorem O5:Zm ["self",q9,"here","grid","x","y"] Q9 (Zj LG):=fsc
abbrev NR:Stmt:=Zq (top 46) 2
abbrev NY:List Str:=["self","here","x","y","grid"]
theorem zaK:Zm ["self","here","x","y","grid"] NY (Zj NR):=fsc
abbrev LN:Stmt:=Zq (top 46) 3
abbrev Mn:List Str:=["self","here","x","y","grid"]
theorem zfg:Zm ["self","here","x","y","grid"] Mn (Zj LN):=fsc
abbrev Ac:Stmt:=Zq (top 44) 1
abbrev CD:List Str:=["self",q9,"here","grid"]
abbrev OY:Stmt:=top 29
abbrev PZ:List Str:=["span"]
theorem AO:Zm ["span"] PZ (Zj OY):=fsc
abbrev Ld:Stmt:=top 32
abbrev TM:List Str:=["x","low","high"]
theorem zcm:Zm ["x","low","high"] TM (Zj Ld):=fsc
abbrev N3:Stmt:=top 33
abbrev QQ:List Str:=["top",XO]
theorem zgy:Zm ["top",XO] QQ (Zj N3):=fsc
abbrev Ki:Stmt:=top 34
abbrev Rz:List Str:=[Uq,"x","y"]
theorem Pm:Zm [Uq,"x","y","low_by","high_by","low","high"] Rz (Zj Ki):=fsc
abbrev Kg:Stmt:=top 24
abbrev RB:List Str:=["a","b"]
theorem zf0:Zm ["a","b"] RB (Zj Kg):=fsc
abbrev Mx:Stmt:=top 31
abbrev T6:List Str:=["one",Y7]
theorem AX:Zm ["one",Y7] T6 (Zj Mx):=fsc
abbrev N9:Stmt:=top 30
abbrev VT:List Str:=["pair"]
theorem zdY:Zm ["pair"] VT (Zj N9):=fsc
abbrev LM:Stmt:=top 35
abbrev SD:List Str:=["z","x","y","grid"]
theorem Sq:Zm ["z","x","y","grid",Uq,"left","turned"] SD (Zj LM):=fsc
abbrev OH:Stmt:=Zq (top 47) 2
abbrev Lf:List Str:=["self","here","x","y","grid"]
theorem zei:Zm ["self","here","x","y","grid"] Lf (Zj OH):=fsc
abbrev LZ:Stmt:=Zq (top 47) 3
abbrev OD:List Str:=["self","here","x","y","grid"]
theorem zd2:Zm ["self","here","x","y","grid"] OD (Zj LZ):=fsc
abbrev BR:Stmt:=Zq (top 44) 1
abbrev Dq:List Str:=["self",q9,"here","grid"]
abbrev Mm:Stmt:=top 37
abbrev PK:List Str:=["guess",q20,"many"]
theorem zee:Zm ["guess",q20,"many"] PK (Zj Mm):=fsc
abbrev LL:Stmt:=top 36
abbrev Su:List Str:=[q20,"many"]
theorem Qk:Zm [q20,"many","guess","better"] Su (Zj LL):=fsc
abbrev Og:Stmt:=top 38
abbrev Vh:List Str:=[q20,"many"]
theorem Kj:Zm [q20,"many","below"] Vh (Zj Og):=fsc
abbrev M8:Stmt:=top 39
abbrev Ot:List Str:=["z","x","many","grid"]
theorem Pl:Zm ["z","x","many","grid","scale","powers","low","high"] Ot (Zj M8):=fsc
abbrev MV:Stmt:=Zq (top 48) 3
abbrev QV:List Str:=["self",q9,"here","grid"]
theorem EK:Zm ["self",q9,"here","grid","x"] QV (Zj MV):=fsc
abbrev M4:Stmt:=top 72
abbrev Oe:List Str:=[q16,"row","box","grid"]
theorem Uj:Zm [q16,"row","box","grid","at",q9,"wished",q20,"left","part"] Oe (Zj M4):=fsc
abbrev MP:Stmt:=top 73
abbrev RC:List Str:=[q16,"row","box","grid"]
theorem Q1:Zm [q16,"row","box","grid",q9,"left",q20,"span","node"] RC (Zj MP):=fsc
abbrev Kn:Stmt:=top 75
abbrev Sx:List Str:=["box","k","span"]
theorem zgq:Zm ["box","k","span"] Sx (Zj Kn):=fsc
abbrev OG:Stmt:=top 77
abbrev Qj:List Str:=["span","cut"]
theorem zhM:Zm ["span","cut"] Qj (Zj OG):=fsc
abbrev O4:Stmt:=top 79
abbrev RW:List Str:=[q16,"row","box","grid","cut"]
theorem Ip:Zm [q16,"row","box","grid","cut","k","span"] RW (Zj O4):=fsc
abbrev MN:Stmt:=top 78
abbrev RE:List Str:=["span","cut"]
theorem zfA:Zm ["span","cut"] RE (Zj MN):=fsc
abbrev L9:Stmt:=top 80
abbrev RS:List Str:=[q16,"row","box","grid"]
theorem TH:Zm [q16,"row","box","grid","left","wished","cuts","k","span","cut"] RS (Zj L9):=fsc
abbrev N7:Stmt:=Zq (top 84) 2
abbrev Uv:List Str:=["self",q20,"fate"]
theorem zb5:Zm ["self",q20,"fate"] Uv (Zj N7):=fsc
abbrev MS:Stmt:=Zq (top 84) 1
abbrev OB:List Str:=["self","box"]
theorem zdp:Zm ["self","box"] OB (Zj MS):=fsc
abbrev LY:Stmt:=Zq (top 84) 3
abbrev Sm:List Str:=["self",q20,"k",Wv]
theorem PQ:Zm ["self",q20,"k",Wv,"box","span","a","b"] Sm (Zj LY):=fsc
abbrev Mg:Stmt:=top 85
abbrev Sl:List Str:=[q16,"rows","r","box","grid"]
theorem E0:Zm [q16,"rows","r","box","grid","at"] Sl (Zj Mg):=fsc
abbrev O7:Stmt:=top 86
abbrev Pn:List Str:=["book",q16,"rows","grid",q20]
theorem Uc:Zm ["book",q16,"rows","grid",q20,"r","row","found","cut","parts","thrown"] Pn (Zj O7):=fsc
abbrev NP:Stmt:=top 53
abbrev US:List Str:=["word","span"]
theorem zgZ:Zm ["word","span"] US (Zj NP):=fsc
abbrev Q3:Stmt:=top 87
abbrev QE:List Str:=[q16,"rows","box","grid",q9]
theorem BG:Zm [q16,"rows","box","grid",q9,"r","row"] QE (Zj Q3):=fsc
abbrev R8:Stmt:=top 57
abbrev PL:List Str:=["rows"]
theorem zcv:Zm ["rows"] PL (Zj R8):=fsc
abbrev Qw:Stmt:=top 58
abbrev Ro:List Str:=["each",WS]
theorem zgL:Zm ["each",WS] Ro (Zj Qw):=fsc
abbrev M3:Stmt:=Zq (top 42) 4
abbrev PJ:List Str:=["self",q9,q59,Wd,"grid"]
theorem zdI:Zm ["self",q9,q59,Wd,"grid"] PJ (Zj M3):=fsc
abbrev Oy:Stmt:=Zq (top 43) 4
abbrev QC:List Str:=["self",q9,q59,Wd,"grid"]
theorem zgV:Zm ["self",q9,q59,Wd,"grid"] QC (Zj Oy):=fsc
abbrev Lq:Stmt:=Zq (top 45) 4
abbrev Q8:List Str:=["self","x","y","a","b","grid"]
theorem zar:Zm ["self","x","y","a","b","grid"] Q8 (Zj Lq):=fsc
abbrev Qa:Stmt:=Zq (top 44) 2
abbrev RM:List Str:=["self",q9,q59,Wd,"grid"]
theorem Jj:Zm ["self",q9,q59,Wd,"grid","x","y"] RM (Zj Qa):=fsc
abbrev OQ:Stmt:=Zq (top 46) 4
abbrev Mw:List Str:=["self","x","y","a","b","grid"]
theorem zaX:Zm ["self","x","y","a","b","grid"] Mw (Zj OQ):=fsc
abbrev DR:Stmt:=Zq (top 44) 2
abbrev Eu:List Str:=["self",q9,q59,Wd,"grid"]
abbrev OR:Stmt:=Zq (top 47) 4
abbrev O0:List Str:=["self","x","y","a","b","grid"]
theorem zdx:Zm ["self","x","y","a","b","grid"] O0 (Zj OR):=fsc
abbrev DB:Stmt:=Zq (top 44) 2
abbrev CU:List Str:=["self",q9,q59,Wd,"grid"]
abbrev LD:Stmt:=top 22
abbrev R7:List Str:=["a","many"]
theorem zhU:Zm ["a","many"] R7 (Zj LD):=fsc
abbrev Oh:Stmt:=Zq (top 48) 4
abbrev Q2:List Str:=["self",q9,q59,Wd,"grid"]
theorem HE:Zm ["self",q9,q59,Wd,"grid","lower","steep"] Q2 (Zj Oh):=fsc
abbrev Nu:Stmt:=top 55
abbrev Sj:List Str:=[q16,"box","grid"]
theorem MA:Zm [q16,"box","grid",q9,"found","node"] Sj (Zj Nu):=fsc
abbrev Kd:Stmt:=top 66
abbrev Pc:List Str:=[q16,WS,"box","grid"]
theorem zap:Zm [q16,WS,"box","grid"] Pc (Zj Kd):=fsc
abbrev LR:Stmt:=top 2
abbrev QO:List Str:=[q20,Wv]
theorem zdX:Zm [q20,Wv] QO (Zj LR):=fsc
abbrev QB:Stmt:=top 3
abbrev Ru:List Str:=[Xi,"row",WZ]
theorem Ds:Zm [Xi,"row",WZ,"rest"] Ru (Zj QB):=fsc
abbrev NU:Stmt:=top 4
abbrev V8:List Str:=[Xi,"row",WZ]
theorem zds:Zm [Xi,"row",WZ] V8 (Zj NU):=fsc
abbrev Ug:Stmt:=top 5
abbrev VO:List Str:=[Xi]
theorem EX:Zm [Xi] VO (Zj Ug):=fsc
abbrev Kk:Stmt:=top 6
abbrev Py:List Str:=[Xi,"whole","row",WZ,"grid"]
theorem zg0:Zm [Xi,"whole","row",WZ,"grid"] Py (Zj Kk):=fsc
abbrev PH:Stmt:=top 7
abbrev Pf:List Str:=[Xi,"whole","row","grid"]
theorem zaq:Zm [Xi,"whole","row","grid"] Pf (Zj PH):=fsc
abbrev Po:Stmt:=top 8
abbrev QM:List Str:=[Xi,"grid"]
theorem Ar:Zm [Xi,"grid","whole"] QM (Zj Po):=fsc
abbrev NV:Stmt:=top 27
abbrev TV:List Str:=["a"]
theorem zey:Zm ["a"] TV (Zj NV):=fsc
abbrev R4:Stmt:=top 59
abbrev Tv:List Str:=[q9]
theorem zgx:Zm [q9] Tv (Zj R4):=fsc
abbrev Qy:Stmt:=top 60
abbrev V2:List Str:=["box"]
theorem zfG:Zm ["box"] V2 (Zj Qy):=fsc
abbrev MM:Stmt:=top 61
abbrev TB:List Str:=["ones","others","grid"]
theorem Nl:Zm ["ones","others","grid","total","one",Y7] TB (Zj MM):=fsc
abbrev RD:Stmt:=top 62
abbrev OA:List Str:=["k",WZ,"turns",q59,"grid"]
theorem FD:Zm ["k",WZ,"turns",q59,"grid","whole","column_slants"] OA (Zj RD):=fsc
abbrev V4:Stmt:=top 63
abbrev QG:List Str:=["k","box","grid",Wm,"thin",q59]
theorem SK:Zm ["k","box","grid",Wm,"thin",q59,"turns","centres","moved","lacks","ways"] QG (Zj V4):=fsc
abbrev Q7:Stmt:=top 64
abbrev Rv:List Str:=["box","grid","turn","thin",q59]
theorem zhC:Zm ["box","grid","turn","thin",q59] Rv (Zj Q7):=fsc
abbrev NZ:Stmt:=top 65
abbrev QX:List Str:=[q16,WS,"box","grid"]
theorem zeB:Zm [q16,WS,"box","grid"] QX (Zj NZ):=fsc
abbrev LB:Stmt:=top 25
abbrev Qz:List Str:=["a","b"]
theorem AG:Zm ["a","b"] Qz (Zj LB):=fsc
abbrev Oa:Stmt:=top 68
abbrev PR:List Str:=["near","box"]
theorem AU:Zm ["near","box"] PR (Zj Oa):=fsc
abbrev RH:Stmt:=top 67
abbrev RV:List Str:=["rows",q9]
theorem zdV:Zm ["rows",q9] RV (Zj RH):=fsc
abbrev PM:Stmt:=top 69
abbrev QS:List Str:=[q16,"rows","box","grid"]
theorem RZ:Zm [q16,"rows","box","grid",WS,q59,"turn","near"] QS (Zj PM):=fsc
abbrev Mq:Stmt:=top 88
abbrev QZ:List Str:=[q16,"rows","box","grid",q9]
theorem Jy:Zm [q16,"rows","box","grid",q9,"found","thin"] QZ (Zj Mq):=fsc
abbrev NL:Stmt:=top 89
abbrev QJ:List Str:=[q16,"rows","box","grid","fine"]
theorem Lw:Zm [q16,"rows","box","grid","fine",q9,"fate"] QJ (Zj NL):=fsc
abbrev MC:Stmt:=top 90
abbrev Qg:List Str:=["box","began"]
theorem zg1:Zm ["box","began"] Qg (Zj MC):=fsc
abbrev NF:Stmt:=top 91
abbrev Pd:List Str:=["book",q20]
theorem FZ:Zm ["book",q20,"box","k"] Pd (Zj NF):=fsc
abbrev MG:Stmt:=top 92
abbrev PF:List Str:=["book",q16,"rows","grid","fine",q20]
theorem QT:Zm ["book",q16,"rows","grid","fine",q20,"began","box","fate"] PF (Zj MG):=fsc
abbrev Nj:Stmt:=top 93
abbrev QP:List Str:=[q16,"rows","box","grid","fine","looks"]
theorem MI:Zm [q16,"rows","box","grid","fine","looks","book","time",q20] QP (Zj Nj):=fsc
abbrev SN:Stmt:=top 110
abbrev QA:List Str:=[q62,"_law_lows","_law_highs","_law_share"]
theorem ze8:Zm [q62,"_law_lows","_law_highs","_law_share"] QA (Zj SN):=fsc
abbrev M5:Stmt:=top 111
abbrev P7:List Str:=[q60,"_law_spans",q62,q57,q61]
theorem UJ:Zm [q60,"_law_spans",q62,q57,q61,"_law_top","_law_a","_law_ends","_law_lows","_law_b"] P7 (Zj M5):=fsc
abbrev LJ:Stmt:=top 96
abbrev Qt:List Str:=[Tj]
theorem zhj:Zm [Tj] Qt (Zj LJ):=fsc
abbrev O3:Stmt:=top 97
abbrev Qh:List Str:=[Tj]
theorem zaf:Zm [Tj] Qh (Zj O3):=fsc
abbrev Te:Stmt:=top 112
abbrev Pe:List Str:=[q48,"_law_spans",q57,q61,Pw]
theorem zdl:Zm [q48,"_law_spans",q57,q61,Pw] Pe (Zj Te):=fsc
abbrev MY:Stmt:=top 113
abbrev R6:List Str:=[PY,q62]
theorem zhq:Zm [PY,q62] R6 (Zj MY):=fsc
abbrev LW:Stmt:=top 114
abbrev QD:List Str:=[PY,q62]
theorem zfJ:Zm [PY,q62] QD (Zj LW):=fsc
abbrev Vo:Stmt:=top 115
abbrev Lc:List Str:=[q84]
theorem XH:Zm [q84,Q5,q61,q57,q48,"_law_rows_here","_law_fine","_law_looks","_law_entry","_law_fate",PY] Lc (Zj Vo):=fsc
theorem kfo {K:Fg}{f c:Addr}{m:Value}{n q:Str}{st:Stmt}(l:K.lookup f=some (fo n q st m c)):W.keepIn K (.ref f)=true:=by
 unfold W.keepIn;simp only[l]
theorem ifo {K:Fg}{f c:Addr}{m:Value}{n q:Str}{st:Stmt}(l:K.lookup f=some (fo n q st m c)):W.isFn K (.ref f)=true:=by
 unfold W.isFn W.typeIn;simp only[l];rfl
theorem lnc {n:Nat}{P:List Value->Prop}(h:∀a (us:List Value),us.length=n->P (a::us))(us:List Value)(e:us.length=n+1):P us:=by
 cases us with
 | nil=>cases e
 | cons a r=>exact h a r (Nat.succ.inj e)
theorem ln0 {P:List Value->Prop}(h:P []):∀us:List Value,us.length=0->P us:=λus e=>List.eq_nil_of_length_eq_zero e ▸ h
theorem ln1 {P:List Value->Prop}(h:∀a,P [a]):∀us:List Value,us.length=1->P us:=lnc λa=>ln0 (h a)
theorem ln2 {P:List Value->Prop}(h:∀a b,P [a,b]):∀us:List Value,us.length=2->P us:=lnc λa=>ln1 (h a)
theorem ln3 {P:List Value->Prop}(h:∀a b c,P [a,b,c]):∀us:List Value,us.length=3->P us:=lnc λa=>ln2 (h a)
theorem ln4 {P:List Value->Prop}(h:∀a b c d,P [a,b,c,d]):∀us:List Value,us.length=4->P us:=lnc λa=>ln3 (h a)
theorem ln5 {P:List Value->Prop}(h:∀a b c d e,P [a,b,c,d,e]):∀us:List Value,us.length=5->P us:=lnc λa=>ln4 (h a)
theorem ln6 {P:List Value->Prop}(h:∀a b c d e f,P [a,b,c,d,e,f]):∀us:List Value,us.length=6->P us:=lnc λa=>ln5 (h a)
abbrev Bn (n q:Str)(st:Stmt)(ps:List Str):Prop:=∀(kV doc pm:Value)(an:Option Addr)(cdv ct:Value)(us:List Value),us.length=ps.length->bindArgs (W.fnOf n q (Vw st) (Xa st) (Zj st) .none kV doc pm an cdv ct) ⟨us,[]⟩=pure (ps.zip us)
abbrev clA (K:Fg)(n:Str)(C:Addr):Prop:=W.nsIn K mainGlobals n=some (some (.ref C))/\W.plainGet K C Str.empty=true/\W.hasDictIn K C=true/\W.plainOver K C=true/\W.findIn K (.ref C) "__setattr__"=some (some (.builtin "object.__setattr__"))/\W.makesIn K C=true/\W.keepIn K (.ref C)=true
theorem clC {K:Fg}{C:Addr}{p:Prop}(h:W.plainGet K C Str.empty=true/\W.hasDictIn K C=true/\W.plainOver K C=true/\W.findIn K (.ref C) "__setattr__"=some (some (.builtin "object.__setattr__"))/\p):Cls K C:=⟨h.1,h.2.1,h.2.2.1,h.2.2.2.1⟩
abbrev fnA (K:Fg)(n:Str)(st:Stmt)(f:Addr)(m:Value)(c:Addr):Prop:=W.nsIn K mainGlobals n=some (some (.ref f))/\K.lookup f=some (fo n n st m c)/\W.codeIn K (.ref c) n=true
abbrev mdA (K:Fg)(C:Addr)(n q:Str)(st:Stmt)(f:Addr)(m:Value)(c:Addr):Prop:=W.findIn K (.ref C) n=some (some (.ref f))/\K.lookup f=some (fo n q st m c)/\W.codeIn K (.ref c) q=true
def dfo {K:Fg}{mg:Str->Option Value}{h:Heap}(X:K.In h)(G:h.Ns mainGlobals mg){n:Str}{st:Stmt}{f c:Addr}{m:Value}{ps:List Str}(a:fnA K n st f m c)(b:Bn n n st ps:=by first|exact λ_ _ _ _ _ _=>ln2 λ_ _=>rfl|exact λ_ _ _ _ _ _=>ln3 λ_ _ _=>rfl|exact λ_ _ _ _ _ _=>ln1 λ_=>rfl|exact λ_ _ _ _ _ _=>ln4 λ_ _ _ _=>rfl|exact λ_ _ _ _ _ _=>ln5 λ_ _ _ _ _=>rfl|exact λ_ _ _ _ _ _=>ln6 λ_ _ _ _ _ _=>rfl|exact λ_ _ _ _ _ _=>ln0 rfl):Df K mg n st ps:=⟨_,_,MZ (st:=st) a.2.1 a.2.2 (kfo a.2.1),W.mg_of X G a.1,(MZ (st:=st) a.2.1 a.2.2 (kfo a.2.1)).binds b⟩
def dmo {K:Fg}{C:Addr}{n q:Str}{st:Stmt}{f c:Addr}{m:Value}{ps:List Str}(a:mdA K C n q st f m c)(b:Bn n q st ps:=by first|exact λ_ _ _ _ _ _=>ln2 λ_ _=>rfl|exact λ_ _ _ _ _ _=>ln3 λ_ _ _=>rfl|exact λ_ _ _ _ _ _=>ln1 λ_=>rfl|exact λ_ _ _ _ _ _=>ln4 λ_ _ _ _=>rfl|exact λ_ _ _ _ _ _=>ln5 λ_ _ _ _ _=>rfl|exact λ_ _ _ _ _ _=>ln6 λ_ _ _ _ _ _=>rfl|exact λ_ _ _ _ _ _=>ln0 rfl):Dm K C n q st ps:=⟨_,_,MZ (st:=st) a.2.1 a.2.2 (kfo a.2.1),⟨a.1,ifo a.2.1,kfo a.2.1⟩,(MZ (st:=st) a.2.1 a.2.2 (kfo a.2.1)).binds b⟩
theorem Fb (P:Params):(kq P).lookup (nat_lit 801)=none:=by kernel_rfl
theorem in_kq {w:World}{h:Heap}(Y:(W.kHook kp ks VL).says w h):(kq w.params).In h:=λa o e=>(show (kp w.params).In h from Y) a o (by
 show List.lookup a ((nat_lit 801,_)::kq w.params)=some o;rw[zV];cases q:a==nat_lit 801 with
 | false=>exact e
 | true=>
  rw[show a=nat_lit 801 by simpa using q,Fb] at e;cases e)
theorem zbD {w:World}{h:Heap}(Y:(W.kHook kp ks VL).says w h):h.get? (nat_lit 801)=some { cls:=.none,data:=.fields #[] }:=(show (kp w.params).In h from Y) _ _ (by
 show List.lookup _ ((nat_lit 801,_)::kq w.params)=_;rw[zV];rfl)
theorem cd_eq (P:Params):(kq P).lookup (nat_lit 803)=some (co "to_look_at" "Book.to_look_at" 1295 1296 1297 1299 430 1 800 801 .none .none 802 1298):=by kernel_rfl
theorem BS (P:Params)(h:Heap)(X:(kq P).In h):W.CodeHd h (nat_lit 803) (nat_lit 801):=⟨_,_,_,_,_,_,_,_,_,X _ _ (cd_eq P),rfl,rfl,rfl,rfl,rfl,rfl,rfl,rfl,by decide⟩
theorem ZS {C:Addr}{f:Str}{to:TDE}{dl:Ev}{S S1:Sto}{Q:DK}{n:Nat}{fs:List (Str×D)}{v:D}(hto:∀K:DK,K (.ref n) S1->to dl S K)(h:S1[n]?=some (.ins C fs))(hf:fs.lookup f=some v)(hq:Q v S1):Kl C f to dl S Q:=by
 unfold Kl;refine hto _ ?_;simp only[WX,h,if_pos,hf];exact hq
theorem Xp {C:Addr}{f:Str}{to te:TDE}{dl:Ev}{S S1 S2:Sto}{E:X9}{n:Nat}{fs:List (Str×D)}{v:D}(hte:∀K:DK,K v S1->te dl S K)(hto:∀K:DK,K (.ref n) S2->to dl S1 K)(h:S2[n]?=some (.ins C fs))(hl:fs.length<1000)(hq:E.nx dl (S2.set n (.ins C (U3 f v fs)))):NA C f to te E dl S:=by
 unfold NA;refine hte _ (hto _ ?_);simp only[WX,h,if_pos];exact⟨hl,hq⟩
theorem Xe {C:Addr}{m:Str}{ex:Ev->Addr->Sto->Prop}{sd:Sd}{to:TDE}{t:TDA}{dl:Ev}{S S1:Sto}{Q:DK}{n:Nat}{fs:List (Str×D)}(hto:∀K:DK,K (.ref n) S1->to dl S K)(h:S1[n]?=some (.ins C fs))(hf:fs.lookup m=none)(hq:t dl S1 λds S2=>sd (.ref n::ds) S2 Q (ex dl)):TF C m ex sd to t dl S Q:=by
 unfold TF;refine hto _ ?_;simp only[WX,h,if_pos];exact⟨hf,hq⟩
theorem zeC {te:TDE}{dl:Ev}{S:Sto}{Q:DK}{n:Nat}{xs:List D}(ht:∀K:DK,K (.ref n) S->te dl S K)(h:S[n]?=some (.lst xs))(hq:Q (.bl true) S):Nk "list" te dl S Q:=by
 unfold Nk;refine ht _ ?_;simp only[h];exact hq
theorem Ts {to ti te:TDE}{dl:Ev}{S:Sto}{E:X9}{n j:Nat}{k:Int}{xs:List D}{v:D}(hte:∀K:DK,K v S->te dl S K)(hto:∀K:DK,K (.ref n) S->to dl S K)(hti:∀K:DK,K (.int k) S->ti dl S K)(h:S[n]?=some (.lst xs))(hj:ixN xs.length k=some j)(hq:E.nx dl (S.set n (.lst (xs.set j v)))):Kf to ti te E dl S:=by
 unfold Kf;refine hte _ (hto _ (hti _ ?_));simp only[h,hj];exact hq
theorem Xn (h:S[n]?=some (.lst xs))(hq:Q (.int (xs.length:Nat)) S):irr S5 [.ref n] S Q:=by
 rw[V3];unfold S5;simp only[ZV h rfl];exact hq
theorem Z6 {S:Sto}{n a:Nat}{o u:Ob}(h:S[n]?=some o)(hn:a≠n):(S.set a u)[n]?=some o:=by rw[zW hn];exact h
theorem Ys {S:Sto}{n:Nat}{o u:Ob}(h:S[n]?=some o):(S.set n u)[n]?=some u:=by
 have hk:=(zB.mp h).1;simp[hk]
theorem Zv {S:Sto}{n:Nat}{o:Ob}{T:Sto}(h:S[n]?=some o):(S++T)[n]?=some o:=by
 have hk:=(zB.mp h).1;rw[zI hk];exact h
theorem Xh (T R:Sto)(u:Ob):(T++u::R)[T.length]?=some u:=by simp
theorem Xv (T R:Sto)(u v:Ob):(T++u::R).set T.length v=T++v::R:=by simp
theorem Z5 {S:Sto}{n:Nat}{o:Ob}(h:S[n]?=some o):n<S.length:=(zB.mp h).1
theorem Vx {i n:Nat}{tb:TDS}{E:X9}{dl:Ev}{S:Sto}{o:Ob}(W:Nat->Ev->Sto->Prop)(h0:W 0 dl S)(hk:∀k dl' S',W k dl' S'->S'[n]?=some o)
  (ht:∀(k:Nat)(x:D)(dl':Ev)(S':Sto)(nx ct:Ev->Sto->Prop),(Zo o)[k]?=some x->W k dl' S'->(∀dl2 S2,W (k+1) dl2 S2->nx dl2 S2)->tb { nx:=nx,rt:=E.rt,bk:=E.nx,ct:=ct } (dl'.set i (some x)) S')(he:∀dl' S',W (Zo o).length dl' S'->E.nx dl' S')(hL:Y2 o=some o:=by rfl):
  (lAt S n).isSome=true/\∃W:Nat->Nat->Ev->Sto->Prop,(∃m,W 0 m dl S)/\∀k m dl S,W k m dl S->match lAt S n with
  | some o=>match (Zo o)[k]? with
   | some x=>tb { nx:=λdl' S'=>∃m',m'<m/\W (k+1) m' dl' S',rt:=E.rt,bk:=E.nx,ct:=λdl' S'=>∃m',m'<m/\W (k+1) m' dl' S' } (dl.set i (some x)) S
   | none=>E.nx dl S
  | none=>False:=by
 refine⟨by rw[ZV (hk _ _ _ h0) hL];rfl,λk m dl' S'=>m+k=(Zo o).length/\W k dl' S',⟨(Zo o).length,by lia,h0⟩,?_⟩;rintro k m dl' S' ⟨hm,w⟩;rw[ZV (hk _ _ _ w) hL];show (match (Zo o)[k]? with
   | some x=>tb { nx:=λdl' S''=>∃m',m'<m/\(m'+(k+1)=(Zo o).length/\W (k+1) dl' S''),rt:=E.rt,bk:=E.nx,ct:=λdl' S''=>∃m',m'<m/\(m'+(k+1)=(Zo o).length/\W (k+1) dl' S'') } (dl'.set i (some x)) S'
   | none=>E.nx dl' S')
 split
 .rename_i x hx;have hk:k<(Zo o).length:=(zB.mp hx).1;exact ht k x dl' S' _ _ hx w λdl2 S2 w2=>⟨m-1,by lia,by lia,w2⟩
 .rename_i hx;have hk:k=(Zo o).length:=by
   have:=yP.mp hx;lia
  exact he dl' S' (hk ▸ w)
inductive Nd where
 | number (t b:Int)|unknown (k:Int)|plus (i j:Int)|minus (i j:Int)|times (i j:Int)|power (i n:Int)
def Nd.d:Nd->D
 | .number t b=>.tup [.str "number",.int t,.int b]
 | .unknown k=>.tup [.str "unknown",.int k]
 | .plus i j=>.tup [.str "plus",.int i,.int j]
 | .minus i j=>.tup [.str "minus",.int i,.int j]
 | .times i j=>.tup [.str "times",.int i,.int j]
 | .power i n=>.tup [.str "power",.int i,.int n]
def Nd.ob (cN cU cP cM cT cW:Addr):Nd->Ob
 | .number t b=>.ins cN [("top",.int t),("bottom",.int b)]
 | .unknown k=>.ins cU [("place",.int k)]
 | .plus i j=>.ins cP [("one",.int i),("other",.int j)]
 | .minus i j=>.ins cM [("one",.int i),("other",.int j)]
 | .times i j=>.ins cT [("one",.int i),("other",.int j)]
 | .power i n=>.ins cW [("one",.int i),("many",.int n)]
def inR (m i:Int):Prop:=0<=i/\i<m
def Nd.ok (m q:Int):Nd->Prop
 | .number t b=>(1<=b/\b<=10^9)/\Int.gcd t b=1/\t.natAbs<=10^9
 | .unknown k=>inR q k
 | .plus i j=>inR m i/\inR m j
 | .minus i j=>inR m i/\inR m j
 | .times i j=>inR m i/\inR m j
 | .power i n=>inR m i/\2<=n/\n<=6
def frD (p:Int×Int):D:=.tup [.int p.1,.int p.2]
abbrev gt (vs:LI)(i:Int):Int×Int:=vs.getD i.toNat (0,1)
theorem Mf (h:inR vs.length i):gt vs i∈vs:=by
 obtain⟨h0,h1⟩:=h;have hk:i.toNat<vs.length:=by lia
 have e:gt vs i=vs[i.toNat]:=by simp[gt,hk]
 rw[e];exact yW hk
theorem ZQ (h:inR vs.length i):atI (vs.map frD) i=some (frD (gt vs i)):=by
 obtain⟨h0,h1⟩:=h;have hk:i.toNat<vs.length:=by lia
 have z:=Yx (xs:=vs.map frD) (j:=i.toNat) (v:=frD (gt vs i)) (by rw[zF,zD hk];simp[gt,hk]);rw[show ((i.toNat:Nat):Int)=i by lia] at z;exact z
theorem Bo {α:Type}{xs:List D}{lo hi:Option Int}:(Z7 xs lo hi).length<=xs.length:=by
 unfold L3.Z7;rw[zG,List.length_drop];lia
structure SF (a b c d mn mx:Int):Prop where
 lo:mn=a*c\/mn=a*d\/mn=b*c\/mn=b*d
 l1:mn<=a*c
 l2:mn<=a*d
 l3:mn<=b*c
 l4:mn<=b*d
 hi:mx=a*c\/mx=a*d\/mx=b*c\/mx=b*d
 h1:a*c<=mx
 h2:a*d<=mx
 h3:b*c<=mx
 h4:b*d<=mx
theorem SF.of {a b c d mn mx:Int}(m1:mn∈[a*c,a*d,b*c,b*d])(m2:∀y∈[a*c,a*d,b*c,b*d],mn<=y)(x1:mx∈[a*c,a*d,b*c,b*d])(x2:∀y∈[a*c,a*d,b*c,b*d],y<=mx):SF a b c d mn mx:=by
 simp only[zO,yT,or_false] at m1 x1;exact⟨m1,m2 _ (by simp),m2 _ (by simp),m2 _ (by simp),m2 _ (by simp),x1,x2 _ (by simp),x2 _ (by simp),x2 _ (by simp),x2 _ (by simp)⟩
structure VX (a b:Int)(n:Nat)(m M:Int):Prop where
 lo:m=a^n\/m=b^n\/(a<0/\0<b/\m=0)
 l1:m<=a^n
 l2:m<=b^n
 l3:a<0->0<b->m<=0
 hi:M=a^n\/M=b^n
 h1:a^n<=M
 h2:b^n<=M
theorem zpow (h:1<=n):(0:Int)^n=0:=by
 cases n with
 | zero=>lia
 | succ k=>rw[xD,Int.mul_zero]
theorem VX.of {a b g mn mx:Int}{n:Nat}(hg:1<=g){l:List Int}(hl:l=[a^n*g,b^n*g]/\¬ (a<0/\0<b)\/l=[a^n*g,b^n*g,0^n*g]/\a<0/\0<b)(hn:1<=n)(m1:mn∈l)(m2:∀y∈l,mn<=y)(x1:mx∈l)(x2:∀y∈l,y<=mx):
  ∃m M,VX a b n m M/\mn=m*g/\mx=M*g:=by
 have can:∀ {x y:Int},x*g<=y*g->x<=y:=λ{x y} h=>Int.le_of_mul_le_mul_right h (by omega)
 rcases hl with ⟨rfl,hz⟩|⟨rfl,hz1,hz2⟩
 .simp only[zO,yT,or_false] at m1 x1;have a1:=m2 (a^n*g) (by simp)
  have a2:=m2 (b^n*g) (by simp)
  have b1:=x2 (a^n*g) (by simp)
  have b2:=x2 (b^n*g) (by simp);obtain⟨m,hm,em⟩:∃m,(m=a^n\/m=b^n)/\mn=m*g:=by
   rcases m1 with e|e
   .exact⟨_,.inl rfl,e⟩
   .exact⟨_,.inr rfl,e⟩
  obtain⟨M,hM,eM⟩:∃m,(m=a^n\/m=b^n)/\mx=m*g:=by
   rcases x1 with e|e
   .exact⟨_,.inl rfl,e⟩
   .exact⟨_,.inr rfl,e⟩
  subst em eM;exact⟨m,M,⟨hm.elim .inl λe=>.inr (.inl e),can a1,can a2,λc1 c2=>absurd ⟨c1,c2⟩ hz,hM,can b1,can b2⟩,rfl,rfl⟩
 .rw[zpow hn,Int.zero_mul] at m1 m2 x1 x2;simp only[zO,yT,or_false] at m1 x1;have a1:=m2 (a^n*g) (by simp)
  have a2:=m2 (b^n*g) (by simp)
  have a3:=m2 0 (by simp)
  have b1:=x2 (a^n*g) (by simp)
  have b2:=x2 (b^n*g) (by simp)
  have b3:=x2 0 (by simp);obtain⟨m,hm,em⟩:∃m,(m=a^n\/m=b^n\/m=0)/\mn=m*g:=by
   rcases m1 with e|e|e
   .exact⟨_,.inl rfl,e⟩
   .exact⟨_,.inr (.inl rfl),e⟩
   .exact⟨0,.inr (.inr rfl),by rw[e,Int.zero_mul]⟩
  have bp:(0:Int)<=b^n:=Int.pow_nonneg (by omega)
  have bg:=Int.mul_nonneg bp (show 0<=g by omega);obtain⟨M,hM,eM⟩:∃m,(m=a^n\/m=b^n)/\mx=m*g:=by
   rcases x1 with e|e|e
   .exact⟨_,.inl rfl,e⟩
   .exact⟨_,.inr rfl,e⟩
   .exact⟨_,.inr rfl,by omega⟩
  subst em eM;refine⟨m,M,⟨?_,can a1,can a2,λ_ _=>can (by rw[Int.zero_mul];exact a3),hM,can b1,can b2⟩,rfl,rfl⟩;rcases hm with e|e|e
  .exact .inl e
  .exact .inr (.inl e)
  .exact .inr (.inr ⟨hz1,hz2,e⟩)
theorem S8 {m g:Int}{n:Nat}(hg:1<=g)(hn:1<=n):m*g/g^n=m/g^(n-1):=by
 obtain⟨k,rfl⟩:∃k,n=k+1:=⟨n-1,by lia⟩;rw[xD,Nat.add_sub_cancel,Int.mul_ediv_mul_of_pos_left _ _ (by lia)]
def mn4 (a b c d:Int):Int:=min (min (a*c) (a*d)) (min (b*c) (b*d))
def mx4 (a b c d:Int):Int:=max (max (a*c) (a*d)) (max (b*c) (b*d))
theorem SF.eq {a b c d mn mx:Int}(h:SF a b c d mn mx):mn=mn4 a b c d/\mx=mx4 a b c d:=by
 obtain⟨h0,h1,h2,h3,h4,h5,h6,h7,h8,h9⟩:=h;unfold mn4 mx4;omega
def Yo (a b:Int)(n:Nat):Int:=if n%2=0/\a<=0/\0<=b then 0 else min (a^n) (b^n)
def Y9 (a b:Int)(n:Nat):Int:=max (a^n) (b^n)
theorem SW {n:Nat}(h:n%2=0)(x:Int):0<=x^n:=by
 obtain⟨k,rfl⟩:∃k,n=k+k:=⟨n/2,by lia⟩;rw[Int.pow_add];by_cases c:0<=x^k
 .exact Int.mul_nonneg c c
 .have:=Int.mul_nonneg (show 0<=-(x^k) by lia) (show 0<=-(x^k) by lia);rw[Int.neg_mul_neg] at this;exact this
theorem DO {n:Nat}(h:n%2=1){x:Int}(hx:x<0):x^n<0:=by
 obtain⟨k,rfl⟩:∃k,n=k+1:=⟨n-1,by lia⟩;have z:=SW (n:=k) (by lia) x
 have nz:∀k:Nat,x^k≠0:=λk=>by
  induction k with
  | zero=>rw[Int.pow_zero];decide
  | succ k ih=>rw[xD];exact Int.mul_ne_zero ih (by lia)
 have nz:=nz k
 have:=Int.mul_pos (show 0<x^k by lia) (show 0 < -x by lia);rw[Int.mul_neg] at this;rw[xD];lia
theorem VX.eq {a b m M:Int}{n:Nat}(h:VX a b n m M)(hn:1<=n):m=Yo a b n/\M=Y9 a b n:=by
 obtain⟨h0,h1,h2,h3,h4,h5,h6⟩:=h;refine⟨?_,by unfold Y9;lia⟩;unfold Yo;split
 .rename_i c;obtain⟨c1,c2,c3⟩:=c;have e1:=SW c1 a
  have e2:=SW c1 b;by_cases z:a<0/\0<b
  .have:=h3 z.1 z.2;lia
  .have z':a=0\/b=0:=by lia
   rcases z' with rfl|rfl
   .rw[zpow hn] at h1;lia
   .rw[zpow hn] at h2;lia
 .rename_i c;have hz:a<0->0<b->m≠0:=λa1 b1 e=>by
   by_cases p:n%2=0
   .exact c ⟨p,by lia,by lia⟩
   .have:=DO (n:=n) (by lia) a1;lia
  lia
def Nd.fw (vs bs:LI)(g:Int):Nd->Int×Int
 | .number t b=>(t*g/b,-(-(t*g)/b))
 | .unknown k=>gt bs k
 | .plus i j=>((gt vs i).1+(gt vs j).1,(gt vs i).2+(gt vs j).2)
 | .minus i j=>((gt vs i).1-(gt vs j).2,(gt vs i).2-(gt vs j).1)
 | .times i j=>(mn4 (gt vs i).1 (gt vs i).2 (gt vs j).1 (gt vs j).2/g,-(-mx4 (gt vs i).1 (gt vs i).2 (gt vs j).1 (gt vs j).2/g))
 | .power i n=>(Yo (gt vs i).1 (gt vs i).2 n.toNat/g^(n.toNat-1),-(-Y9 (gt vs i).1 (gt vs i).2 n.toNat/g^(n.toNat-1)))
def Spn (B:Nat)(vs:LI):Prop:=∀p∈vs,p.1<=p.2/\Sz B p.1/\Sz B p.2
theorem Spn.at {B:Nat}{vs:LI}(h:Spn B vs){i:Int}(hi:inR vs.length i):(gt vs i).1<=(gt vs i).2/\Sz B (gt vs i).1/\Sz B (gt vs i).2:=h _ (Mf hi)
theorem Spn.mono {B C:Nat}{vs:LI}(h:Spn B vs)(hc:B<=C):Spn C vs:=λp hp=>⟨(h p hp).1,(h p hp).2.1.mono hc,(h p hp).2.2.mono hc⟩
theorem Rl (hg:1<=g)(h:m<=M):m/g<=-(-M/g):=by
 have h1:=Int.ediv_mul_le m (show g≠0 by lia)
 have h2:=Int.ediv_mul_le (-M) (show g≠0 by lia)
 have:m/g*g<=-(-M/g)*g:=by rw[xC];lia
 exact Int.le_of_mul_le_mul_right this (by lia)
theorem Gj (a b:Int)(n:Nat):Yo a b n<=Y9 a b n:=by
 unfold Yo Y9;split
 .rename_i c;have:=SW c.1 a;lia
 .lia
theorem BL (a b c d:Int):mn4 a b c d<=mx4 a b c d:=by unfold mn4 mx4;lia
theorem Nd.fw_le (h1:Spn B vs)(h2:Spn B bs)(hg:1<=g):∀v:Nd,v.ok vs.length bs.length->(v.fw vs bs g).1<=(v.fw vs bs g).2
 | .number t b,ok=>Rl ok.1.1 (zS _)
 | .unknown k,ok=>(h2.at ok).1
 | .plus i j,ok=>by
  have a:=(h1.at ok.1).1
  have b:=(h1.at ok.2).1
  show (gt vs i).1+(gt vs j).1<=(gt vs i).2+(gt vs j).2;lia
 | .minus i j,ok=>by
  have a:=(h1.at ok.1).1
  have b:=(h1.at ok.2).1
  show (gt vs i).1-(gt vs j).2<=(gt vs i).2-(gt vs j).1;lia
 | .times i j,ok=>Rl hg (BL _ _ _ _)
 | .power i n,ok=>Rl (yF (by lia)) (Gj _ _ _)
def V7 (p q:Int×Int):Option (Int×Int):=if (if q.2<p.2 then q.2 else p.2)<(if q.1 > p.1 then q.1 else p.1) then none else some (if q.1 > p.1 then q.1 else p.1,if q.2<p.2 then q.2 else p.2)
theorem zcN {p q r:Int×Int}(h:V7 p q=some r):r.1<=r.2:=by
 have go:∀lo hi:Int,(if hi<lo then none else some (lo,hi))=some r->r.1<=r.2:=λlo hi e=>by
  split at e
  .cases e
  .rename_i c;cases e;exact Int.not_lt.mp c
 exact go _ _ h
def ptD (q:Int×(Int×Int)):D:=.tup [.int q.1,.tup [.int q.2.1,.int q.2.2]]
theorem Xd {a b:TDS}{E:X9}{dl:Ev}{S:Sto}(W:Ev->Sto->Prop)(ha:∀nx:Ev->Sto->Prop,(∀dl' S',W dl' S'->nx dl' S')->a { nx:=nx,rt:=E.rt,bk:=E.bk,ct:=E.ct } dl S)(hb:∀dl' S',W dl' S'->b E dl' S'):We a b E dl S:=ha _ hb
theorem D5 {a b c:TDS}{E:X9}{dl:Ev}{S:Sto}(W:Ev->Sto->Prop)(ha:∀nx:Ev->Sto->Prop,(∀dl' S',W dl' S'->nx dl' S')->We a b { nx:=nx,rt:=E.rt,bk:=E.bk,ct:=E.ct } dl S)(hb:∀dl' S',W dl' S'->c E dl' S'):We a (We b c) E dl S:=ha _ hb
theorem Up (h:Sz n m)(hg:1<=g):Sz n (-(-m/g)):=(h.neg.div hg).neg
theorem Vr (ha:Sz n a)(hb:Sz n b):Sz n (min a b):=by unfold Sz at *;lia
theorem Ws (ha:Sz n a)(hb:Sz n b):Sz n (max a b):=by unfold Sz at *;lia
theorem Qd (vs:LI)(k:Nat)(p:Int×Int):(vs.map frD).set k (frD p)=(vs.set k p).map frD:=(List.map_set).symm
theorem Sn {n:Nat}{i:Int}(h:inR n i):ixN n i=some i.toNat:=by
 obtain⟨h0,h1⟩:=h;unfold ixN;split<;>first|lia|rfl|(split<;>first|lia|rfl)
def Nd.wt (ws:List Nat):Nd->Nat
 | .number _ _=>1
 | .unknown _=>1
 | .plus i j=>ws.getD i.toNat 0+ws.getD j.toNat 0
 | .minus i j=>ws.getD i.toNat 0+ws.getD j.toNat 0
 | .times i j=>ws.getD i.toNat 0+ws.getD j.toNat 0
 | .power i n=>n.toNat*ws.getD i.toNat 0
structure ZJ (q:Int)(ns:List Nd)(ws:List Nat):Prop where
 len:ws.length=ns.length
 ok:∀(k:Nat)(v:Nd),ns[k]?=some v->v.ok k q/\ws.getD k 0=v.wt ws/\1<=v.wt ws/\v.wt ws<=16
theorem ZJ.w1 {q:Int}{ns:List Nd}{ws:List Nat}(h:ZJ q ns ws){i:Int}(hi:inR ns.length i):1<=ws.getD i.toNat 0/\ws.getD i.toNat 0<=16:=by
 obtain⟨h0,h1⟩:=hi;have hk:i.toNat<ns.length:=(by lia);obtain⟨_,e,a,b⟩:=h.ok i.toNat _ (zD hk);lia
theorem ZJ.w2 {q:Int}{ns:List Nd}{ws:List Nat}(h:ZJ q ns ws):∀v:Nd,v.ok ns.length q->1<=v.wt ws/\v.wt ws<=96
 | .number _ _,_=>⟨zC 1,show 1<=96 by decide⟩
 | .unknown _,_=>⟨zC 1,show 1<=96 by decide⟩
 | .plus i j,ok=>by have a:=h.w1 ok.1;have b:=h.w1 ok.2;simp only[Nd.wt];lia
 | .minus i j,ok=>by have a:=h.w1 ok.1;have b:=h.w1 ok.2;simp only[Nd.wt];lia
 | .times i j,ok=>by have a:=h.w1 ok.1;have b:=h.w1 ok.2;simp only[Nd.wt];lia
 | .power i n,ok=>by
  have a:=h.w1 ok.1
  have n2:=ok.2.1
  have n6:=ok.2.2
  have m1:=Nat.mul_le_mul (show 1<=n.toNat by lia) a.1
  have m2:=Nat.mul_le_mul (show n.toNat<=6 by lia) a.2;simp only[Nd.wt];lia
theorem Av (h:k<ws.length):(ws++[w]).getD k 0=ws.getD k 0:=by
 rw[zX,zX,zI h]
theorem E9 (hk:k<=ws.length):∀v:Nd,v.ok k q->v.wt (ws++[w])=v.wt ws:=by
 have e:∀i:Int,inR k i->(ws++[w]).getD i.toNat 0=ws.getD i.toNat 0:=λi hi=>Av (by have a:=hi.1;have b:=hi.2;lia)
 intro v ok;cases v with
 | number _ _=>rfl
 | unknown _=>rfl
 | plus i j=>show _+_=_+_;rw[e i ok.1,e j ok.2]
 | minus i j=>show _+_=_+_;rw[e i ok.1,e j ok.2]
 | times i j=>show _+_=_+_;rw[e i ok.1,e j ok.2]
 | power i n=>show _*_=_*_;rw[e i ok.1]
theorem ZJ.snoc {q:Int}{ns:List Nd}{ws:List Nat}(h:ZJ q ns ws){v:Nd}(ok:v.ok ns.length q)(h16:v.wt ws<=16):ZJ q (ns++[v]) (ws++[v.wt ws]):=by
 refine⟨by simp[h.len],λk u hu=>?_⟩;by_cases hk:k<ns.length
 .rw[zI hk] at hu;obtain⟨a,b,c,d⟩:=h.ok k u hu;have e:=E9 (w:=v.wt ws) (q:=q) (k:=k) (by rw[h.len];lia) u a;rw[e,Av (by rw[h.len];exact hk)];exact⟨a,b,c,d⟩
 .have hl:=(zB.mp hu).1;simp only[zQ,zU,yX] at hl;have ek:k=ns.length:=by lia
  subst ek;simp at hu;subst hu;have e:=E9 (w:=v.wt ws) (q:=q) (k:=ns.length) (by rw[h.len];lia) v ok;rw[e];refine⟨ok,?_,(h.w2 v ok).1,h16⟩;rw[<- h.len];simp
theorem ZJ.take {q:Int}{ns:List Nd}{ws:List Nat}(h:ZJ q ns ws)(n:Nat):ZJ q (ns.take n) (ws.take n):=by
 have e:∀k:Nat,k<n->(ws.take n).getD k 0=ws.getD k 0:=λk hk=>by
  rw[zX,zX,List.getElem?_take_of_lt hk]
 refine⟨by simp[h.len],λk u hu=>?_⟩;have hl:=(zB.mp hu).1;rw[zG] at hl;have hk:k<n:=by lia
 rw[List.getElem?_take_of_lt hk] at hu;obtain⟨a,b,c,d⟩:=h.ok k u hu;have e2:u.wt (ws.take n)=u.wt ws:=by
  have f:∀i:Int,inR k i->(ws.take n).getD i.toNat 0=ws.getD i.toNat 0:=λi hi=>e _ (by have:=hi.1;have:=hi.2;lia)
  cases u with
  | number _ _=>rfl
  | unknown _=>rfl
  | plus i j=>show _+_=_+_;rw[f i a.1,f j a.2]
  | minus i j=>show _+_=_+_;rw[f i a.1,f j a.2]
  | times i j=>show _+_=_+_;rw[f i a.1,f j a.2]
  | power i m=>show _*_=_*_;rw[f i a.1]
 rw[e2,e k hk];exact⟨a,b,c,d⟩
def Zt (bs:LI)(g:Int)(ns:List Nd):LI:=ns.foldl (λacc v=>acc++[v.fw acc bs g]) []
theorem Rx (bs:LI)(g:Int)(ns:List Nd)(v:Nd):Zt bs g (ns++[v])=Zt bs g ns++[v.fw (Zt bs g ns) bs g]:=by
 unfold Zt;rw[List.foldl_append];rfl
theorem Y4 {α:Type}{xs:List α}{k:Nat}{x:α}(h:xs[k]?=some x):xs.take (k+1)=xs.take k++[x]:=by rw[List.take_succ,h];rfl
theorem YI (bs:LI)(g:Int)(ns:List Nd):(Zt bs g ns).length=ns.length:=by
 have z:∀k,k<=ns.length->(Zt bs g (ns.take k)).length=k:=λk=>by
  induction k with
  | zero=>intro _;rfl
  | succ k ih=>
   intro hk;rw[Y4 (zD (show k<ns.length by lia)),Rx];simp[ih (by lia)]
 have:=z ns.length (zC _)
 rwa [yG] at this
theorem Ai (bs:LI)(g:Int)(ns:List Nd)(k:Nat):k<=ns.length->(Zt bs g ns).take k=Zt bs g (ns.take k):=by
 have z:∀m,k<=m->m<=ns.length->(Zt bs g (ns.take m)).take k=Zt bs g (ns.take k):=λm=>by
  induction m with
  | zero=>
   intro h1 _;have:k=0:=by lia
   subst this;rfl
  | succ m ih=>
   intro h1 h2;by_cases e:k=m+1
   .subst e;rw[yQ (by rw[YI,zG];lia)]
   .rw[Y4 (zD (show m<ns.length by lia)),Rx,List.take_append_of_le_length (by rw[YI,zG];lia)];exact ih (by lia) (by lia)
 intro hk;have:=z ns.length hk (zC _)
 rwa [yG] at this
def SzW (ws:List Nat)(vs:LI):Prop:=∀(k:Nat)(p:Int×Int),vs[k]?=some p->p.1<=p.2/\Sz (60*ws.getD k 0-1) p.1/\Sz (60*ws.getD k 0-1) p.2
theorem SzW.at {ws:List Nat}{vs:LI}(h:SzW ws vs){i:Int}(hi:inR vs.length i):(gt vs i).1<=(gt vs i).2/\Sz (60*ws.getD i.toNat 0-1) (gt vs i).1/\Sz (60*ws.getD i.toNat 0-1) (gt vs i).2:=by
 obtain⟨h0,h1⟩:=hi;have hk:i.toNat<vs.length:=by lia
 have e:gt vs i=vs[i.toNat]:=by simp[gt,hk]
 rw[e];exact h _ _ (zD hk)
theorem fw_w (hs:SzW ws vs)(hb:Spn 51 bs)(hg:1<=g/\g<=1000000)(hw:∀i:Int,inR vs.length i->1<=ws.getD i.toNat 0):∀v:Nd,v.ok vs.length bs.length->Sz (60*v.wt ws-1) (v.fw vs bs g).1/\Sz (60*v.wt ws-1) (v.fw vs bs g).2
 | .number t b,ok=>by
  have z:Sz 52 (t*g):=(Sz.of (n:=31) (10^9) ok.2.2).mul (Sz.of (n:=21) (10^6) (show g.natAbs<=_ by lia));exact⟨(z.div ok.1.1).mono (show 52<=60*1-1 by decide),(Up z ok.1.1).mono (show 52<=60*1-1 by decide)⟩
 | .unknown k,ok=>⟨(hb.at ok).2.1.mono (show 51<=60*1-1 by decide),(hb.at ok).2.2.mono (show 51<=60*1-1 by decide)⟩
 | .plus i j,ok=>by
  have a:=hs.at ok.1
  have b:=hs.at ok.2
  have p:=hw i ok.1
  have q:=hw j ok.2;exact⟨(a.2.1.add b.2.1).mono (by simp only[Nd.wt];lia),(a.2.2.add b.2.2).mono (by simp only[Nd.wt];lia)⟩
 | .minus i j,ok=>by
  have a:=hs.at ok.1
  have b:=hs.at ok.2
  have p:=hw i ok.1
  have q:=hw j ok.2;exact⟨(a.2.1.sub b.2.2).mono (by simp only[Nd.wt];lia),(a.2.2.sub b.2.1).mono (by simp only[Nd.wt];lia)⟩
 | .times i j,ok=>by
  have a:=hs.at ok.1
  have b:=hs.at ok.2
  have p:=hw i ok.1
  have q:=hw j ok.2
  have le:∀ {x y:Int},Sz (60*ws.getD i.toNat 0-1) x->Sz (60*ws.getD j.toNat 0-1) y->Sz (60*Nd.wt ws (.times i j)-1) (x*y):=λh1 h2=>(h1.mul h2).mono (by simp only[Nd.wt];lia)
  have l:=Vr (Vr (le a.2.1 b.2.1) (le a.2.1 b.2.2)) (Vr (le a.2.2 b.2.1) (le a.2.2 b.2.2))
  have u:=Ws (Ws (le a.2.1 b.2.1) (le a.2.1 b.2.2)) (Ws (le a.2.2 b.2.1) (le a.2.2 b.2.2));exact⟨l.div hg.1,Up u hg.1⟩
 | .power i n,ok=>by
  have a:=hs.at ok.1
  have p:=hw i ok.1
  have n2:=ok.2.1
  have gp:(1:Int)<=g^(n.toNat-1):=yF (by lia)
  have hn:(60*ws.getD i.toNat 0-1)*n.toNat+1<=60*Nd.wt ws (.power i n)-1:=by
   simp only[Nd.wt];rw[Nat.sub_mul,Nat.one_mul];have e:60*ws.getD i.toNat 0*n.toNat=60*(n.toNat*ws.getD i.toNat 0):=by rw[Nat.mul_assoc,Nat.mul_comm (ws.getD i.toNat 0)]
   have m1:=Nat.mul_le_mul (zC n.toNat) p;lia
  have p1:Sz (60*Nd.wt ws (.power i n)-1) ((gt vs i).1^n.toNat):=(a.2.1.pow _).mono hn
  have p2:Sz (60*Nd.wt ws (.power i n)-1) ((gt vs i).2^n.toNat):=(a.2.2.pow _).mono hn
  have l:Sz (60*Nd.wt ws (.power i n)-1) (Yo (gt vs i).1 (gt vs i).2 n.toNat):=by
   unfold Yo;split
   .exact(Sz.of (n:=1) 0 (by decide)).mono (by have:=Nat.mul_le_mul (show 1<=n.toNat by lia) p;simp only[Nd.wt];lia)
   .exact Vr p1 p2
  exact⟨l.div gp,Up (Ws p1 p2) gp⟩
theorem Spn.of_w {ws:List Nat}{vs:LI}(h:SzW ws vs)(hw:∀k:Nat,k<vs.length->ws.getD k 0<=16):Spn 1000 vs:=λp hp=>by
 obtain⟨k,hk,e⟩:=yL.mp hp;obtain⟨a,b,c⟩:=h k p (by rw[zD hk,e]);have:=hw k hk;exact⟨a,b.mono (by lia),c.mono (by lia)⟩
theorem Dv {q:Int}{ns:List Nd}{ws:List Nat}{bs:LI}{g:Int}(h:ZJ q ns ws)(hq:q=bs.length)(hb:Spn 51 bs)(hg:1<=g/\g<=1000000):∀k,k<=ns.length->SzW ws (Zt bs g (ns.take k)):=λk=>by
 induction k with
 | zero=>intro _ i p hp;simp[Zt] at hp
 | succ k ih=>
  intro hk;have hv:=zD (show k<ns.length by lia)
  have s:=ih (by lia)
  have ln:(Zt bs g (ns.take k)).length=k:=by rw[YI,zG];lia
  obtain⟨ok,e,_,_⟩:=h.ok k _ hv;rw[Y4 hv,Rx];have okv:(ns[k]).ok (Zt bs g (ns.take k)).length bs.length:=by rw[ln,<- hq];exact ok
  have w1:∀i:Int,inR (Zt bs g (ns.take k)).length i->1<=ws.getD i.toNat 0:=λi hi=>(h.w1 (i:=i) (by rw[ln] at hi;exact⟨hi.1,by have:=hi.2;lia⟩)).1
  have z:=fw_w s hb hg w1 ns[k] okv
  have l:((ns[k]).fw (Zt bs g (ns.take k)) bs g).1<=((ns[k]).fw (Zt bs g (ns.take k)) bs g).2:=by
   refine Nd.fw_le (B:=6000) ?_ (hb.mono (by decide)) hg.1 _ okv;intro p hp;obtain⟨i,hi,ei⟩:=yL.mp hp;obtain⟨a,b,c⟩:=s i p (by rw[zD hi,ei]);have:=(h.w1 (i:=i) ⟨by lia,by rw[ln] at hi;lia⟩).2;rw[zK] at this;exact⟨a,b.mono (by lia),c.mono (by lia)⟩
  intro i p hp;by_cases hi:i<k
  .rw[zI (by rw[ln];exact hi)] at hp;exact s i p hp
  .have hl:=(zB.mp hp).1;simp only[zQ,zU,yX,ln] at hl;have ei:i=k:=by lia
   subst ei;rw[yB (by rw[ln];exact zC _),ln,Nat.sub_self] at hp;simp at hp;subst hp;rw[e];exact⟨l,z⟩
theorem NN {q:Int}{ns:List Nd}{ws:List Nat}{bs:LI}{g:Int}(h:ZJ q ns ws)(hq:q=bs.length)(hb:Spn 51 bs)(hg:1<=g/\g<=1000000)(k:Nat)(hk:k<=ns.length):Spn 1000 (Zt bs g (ns.take k)):=
 Spn.of_w (Dv h hq hb hg k hk) λi hi=>by
  rw[YI,zG] at hi;have:=(h.w1 (i:=i) ⟨by lia,by lia⟩).2
  rwa [zK] at this
theorem Xg (h:Pre S T)(hn:S.length<=n):Pre S (T.set n o):=λk u e=>by
 have hk:=(zB.mp e).1;rw[zW (by lia)];exact h k u e
theorem XS (h:Pre S T)(U:Sto):Pre S (T++U):=λk u e=>Zv (h k u e)
theorem zdd {to te:TDE}{dl:Ev}{S S1 S2:Sto}{Q:DK}{n:Nat}{xs:List D}{y:D}(hto:∀K:DK,K (.ref n) S1->to dl S K)(h:S1[n]?=some (.lst xs))(hte:∀K:DK,K y S2->te dl S1 K)(h2:S2[n]?=some (.lst xs))(hl:xs.length<1000)(hq:Q .non (S2.set n (.lst (xs++[y])))):WL to te dl S Q:=by
 unfold WL;refine hto _ ?_;simp only[h];refine hte _ ?_;simp only[h2,if_pos hl];exact hq
theorem IF (u v:Nd):∃b,eqN 1 u.d v.d=some b:=by cases u<;>cases v<;>exact⟨_,rfl⟩
theorem zcI (u:Nd):eqN 1 u.d u.d=some true:=by cases u<;>simp[Nd.d,eqN,L3.eqT,eqL,eqF]
theorem Nh (v:Nd):∀ns:List Nd,∃b,Y8 (eqN 1) (ns.map Nd.d) v.d=some b
 | []=>⟨false,rfl⟩
 | u::us=>by
  obtain⟨b,e⟩:=IF u v;obtain⟨c,e2⟩:=Nh v us;refine⟨b||c,?_⟩;show (match eqN 1 u.d v.d,Y8 (eqN 1) (us.map Nd.d) v.d with|some b,some c=>some (b||c)|_,_=>none)=_;rw[e,e2]
theorem zhA {v:Nd}{ns:List Nd}{n:Nat}{S:Sto}{Q:DK}(h:S[n]?=some (.lst (ns.map Nd.d)))(hq:∀b:Bool,Q (.bl b) S):Y5 (wIn 1 true) v.d (.ref n) S Q:=by
 obtain⟨b,e⟩:=Nh v ns;rw[X1];unfold wIn;simp only[ZV h rfl,Zo,e];exact hq _
def wtD (w:Nat):D:=.int (w:Int)
theorem VI {ws:List Nat}{i:Int}(h:inR ws.length i):atI (ws.map wtD) i=some (.int ((ws.getD i.toNat 0:Nat):Int)):=by
 obtain⟨h0,h1⟩:=h;have hk:i.toNat<ws.length:=by lia
 have z:=Yx (xs:=ws.map wtD) (j:=i.toNat) (v:=wtD (ws.getD i.toNat 0)) (by rw[zF,zD hk];simp[hk]);rw[show ((i.toNat:Nat):Int)=i by lia] at z;exact z
theorem zfF (q:Nat):ZJ q ((List.range q).map λ(k:Nat)=>Nd.unknown (k:Int)) ((List.range q).map λ_=>1):=by
 refine⟨by simp,λk v hv=>?_⟩;have hl:=(zB.mp hv).1;simp only[zA,List.length_range] at hl;rw[zF,List.getElem?_range hl] at hv;cases hv;refine⟨⟨by lia,by lia⟩,?_,zC _,show 1<=16 by decide⟩;simp[Nd.wt,hl]
theorem zcM {u v:Nd}(h:eqN 1 u.d v.d=some true):u=v:=by
 cases u<;>cases v<;>simp[Nd.d,eqN,L3.eqT,eqL,eqF] at h
 all_goals first|(obtain⟨rfl,rfl⟩:=h;rfl)|(subst h;rfl)|exact absurd h.1 (by decide)
theorem Jw (v:Nd):∀ns:List Nd,∃o:Option Nat,XB (eqN 1) (ns.map Nd.d) v.d=some o/\Y8 (eqN 1) (ns.map Nd.d) v.d=some o.isSome/\∀j,o=some j->ns[j]?=some v
 | []=>⟨none,rfl,rfl,λj h=>by cases h⟩
 | u::us=>by
  obtain⟨b,e⟩:=IF u v;obtain⟨o,h1,h2,h3⟩:=Jw v us;have f1:XB (eqN 1) ((u::us).map Nd.d) v.d=(match eqN 1 u.d v.d,XB (eqN 1) (us.map Nd.d) v.d with|some true,some _=>some (some 0)|some false,some o=>some (o.map (·+1))|_,_=>none):=rfl
  have f2:Y8 (eqN 1) ((u::us).map Nd.d) v.d=(match eqN 1 u.d v.d,Y8 (eqN 1) (us.map Nd.d) v.d with|some b,some c=>some (b||c)|_,_=>none):=rfl;rw[f1,f2,e,h1,h2];cases b with
  | true=>exact⟨some 0,rfl,rfl,λj hj=>by
    cases hj;rw[zcM e];rfl⟩
  | false=>exact⟨o.map (·+1),rfl,by cases o<;>rfl,λj hj=>by
    cases o with
    | none=>cases hj
    | some i=>
     cases hj;exact h3 i rfl⟩
theorem AB {v:Nd}{ns:List Nd}{n j:Nat}{to:TDE}{t:TDA}{dl:Ev}{S:Sto}{Q:DK}(hto:∀K:DK,K (.ref n) S->to dl S K)(ht:∀K:List D->Sto->Prop,K [v.d] S->t dl S K)(h:S[n]?=some (.lst (ns.map Nd.d)))(e:XB (eqN 1) (ns.map Nd.d) v.d=some (some j))(hq:Q (.int (j:Int)) S):TC 1 to t dl S Q:=by
 unfold TC;refine hto _ ⟨by rw[ZV h rfl];rfl,ht _ ?_⟩;unfold RK;simp only[ZV h rfl,Zo,e];exact hq
theorem Kb {caps:List Nat}{ta:TDA}{te:TDE}{dl:Ev}{S S1:Sto}{Q:DK}{n n':Nat}{xs ys:List D}(g:D->D->D)(hta:∀K:List D->Sto->Prop,K [.ref n,.ref n'] S1->ta dl S K)(h1:S1[n]?=some (.lst xs))(h2:S1[n']?=some (.lst ys))(hl:xs.length<=1000)
  (ht:∀(k:Nat)(x y:D),xs[k]?=some x->ys[k]?=some y->∀(S2:Sto)(K:DK),Pre S1 S2->K (g x y) S2->te (some x::some y::Z8 caps dl) S2 K)(hq:Q (.ref S1.length) (S1++[.lst (List.zipWith g xs ys)])):TN caps ta te dl S Q:=by
 unfold TN;refine hta _ ⟨⟨by rw[ZV h1 rfl];rfl,by rw[ZV h2 rfl];rfl⟩,λk m S2=>S2=S1++[.lst (List.zipWith g (xs.take k) (ys.take k))]/\m+k=min xs.length ys.length,⟨min xs.length ys.length,by simp,by lia⟩,?_⟩;rintro k m S2 ⟨rfl,hm⟩;rw[ZV (Vf h1) rfl,ZV (Vf h2) rfl];dsimp only[Zo];split
 .rename_i x y hx hy;have hk:k<xs.length:=(zB.mp hx).1
  have hk':k<ys.length:=(zB.mp hy).1;unfold Dy;refine ht k x y hx hy _ _ Pre.refl.push ?_;rw[Zs];refine⟨by simp;lia,m-1,by lia,?_,by lia⟩;have e:xs.take (k+1)=xs.take k++[x]:=by rw[List.take_succ,hx];rfl
  have e':ys.take (k+1)=ys.take k++[y]:=by rw[List.take_succ,hy];rfl
  rw[e,e',List.zipWith_append (by rw[zG,zG];lia),Ve];rfl
 .rename_i no;have hk:min xs.length ys.length<=k:=by
   by_cases l:k<min xs.length ys.length
   .exact absurd (zD (l:=ys) (i:=k) (by lia)) (no _ _ (zD (l:=xs) (i:=k) (by lia)))
   .lia
  refine⟨by lia,?_⟩;have e:List.zipWith g (xs.take k) (ys.take k)=List.zipWith g xs ys:=by
   rw[<- List.take_zipWith,yQ (by rw[List.length_zipWith];exact hk)]
  rw[e];exact hq
theorem zeS (h:∀i:Int,inR k i->gt vs i=gt us i):∀v:Nd,v.ok k q->v.fw vs bs g=v.fw us bs g
 | .number _ _,_=>rfl
 | .unknown _,_=>rfl
 | .plus i j,ok=>by simp only[Nd.fw,h i ok.1,h j ok.2]
 | .minus i j,ok=>by simp only[Nd.fw,h i ok.1,h j ok.2]
 | .times i j,ok=>by simp only[Nd.fw,h i ok.1,h j ok.2]
 | .power i n,ok=>by simp only[Nd.fw,h i ok.1]
theorem CQ (h:k<=m):∀ {v:Nd},v.ok k q->v.ok m q:=λ{v} ok=>by
 have z:∀i:Int,inR k i->inR m i:=λi hi=>⟨hi.1,by have:=hi.2;lia⟩
 cases v with
 | number _ _=>exact ok
 | unknown _=>exact ok
 | plus i j=>exact⟨z _ ok.1,z _ ok.2⟩
 | minus i j=>exact⟨z _ ok.1,z _ ok.2⟩
 | times i j=>exact⟨z _ ok.1,z _ ok.2⟩
 | power i n=>exact⟨z _ ok.1,ok.2⟩
theorem Hg {vs:LI}{k:Nat}{i:Int}(h:inR k i):gt (vs.take k) i=gt vs i:=by
 have:=h.1
 have:=h.2;unfold gt;rw[zX,zX,List.getElem?_take_of_lt (by lia)]
theorem zbw {vs us:LI}{k:Nat}{i:Int}(h:inR k i)(hk:k<=vs.length):gt (vs++us) i=gt vs i:=by
 have:=h.1
 have:=h.2;unfold gt;rw[zX,zX,zI (by lia)]
theorem gt_at {vs:LI}{k:Nat}{p:Int×Int}(h:vs[k]?=some p):gt vs (k:Int)=p:=by
 unfold gt;rw[zX,zK,h];rfl
theorem Sz.pow' (h:Sz n i)(hk:1<=k):Sz (n*k) (i^k):=by
 unfold Sz at *
 rw[Int.natAbs_pow,Nat.pow_mul];exact Nat.pow_lt_pow_left h (by lia)
theorem SzW.spn (h:SzW ws vs)(hw:∀k:Nat,k<vs.length->ws.getD k 0<=16):Spn 1000 vs:=Spn.of_w h hw
theorem zcY {vs:LI}{p:Int×Int}{k:Nat}(h:vs.length=k):gt (vs++[p]) (k:Int)=p:=by
 subst h;simp[gt]
def Pz (B:Nat)(vs:LI):Prop:=∀p∈vs,1<=p.2/\Sz B p.1/\Sz B p.2
theorem Pz.at {B:Nat}{vs:LI}(h:Pz B vs){i:Int}(hi:inR vs.length i):1<=(gt vs i).2/\Sz B (gt vs i).1/\Sz B (gt vs i).2:=h _ (Mf hi)
def Nd.due (vs ps:LI):Nd->Int×Int
 | .number t b=>(t,b)
 | .unknown k=>gt ps k
 | .plus i j=>((gt vs i).1*(gt vs j).2+(gt vs j).1*(gt vs i).2,(gt vs i).2*(gt vs j).2)
 | .minus i j=>((gt vs i).1*(gt vs j).2-(gt vs j).1*(gt vs i).2,(gt vs i).2*(gt vs j).2)
 | .times i j=>((gt vs i).1*(gt vs j).1,(gt vs i).2*(gt vs j).2)
 | .power i n=>((gt vs i).1^n.toNat,(gt vs i).2^n.toNat)
def PzW (ws:List Nat)(vs:LI):Prop:=∀(k:Nat)(p:Int×Int),vs[k]?=some p->1<=p.2/\Sz (112*ws.getD k 0-2) p.1/\Sz (112*ws.getD k 0-2) p.2
theorem PzW.at {ws:List Nat}{vs:LI}(h:PzW ws vs){i:Int}(hi:inR vs.length i):1<=(gt vs i).2/\Sz (112*ws.getD i.toNat 0-2) (gt vs i).1/\Sz (112*ws.getD i.toNat 0-2) (gt vs i).2:=by
 obtain⟨h0,h1⟩:=hi;have hk:i.toNat<vs.length:=by lia
 have e:gt vs i=vs[i.toNat]:=by simp[gt,hk]
 rw[e];exact h _ _ (zD hk)
theorem due_w (hs:PzW ws vs)(hp:Pz 110 ps)(hw:∀i:Int,inR vs.length i->1<=ws.getD i.toNat 0):∀v:Nd,v.ok vs.length ps.length->1<=(v.due vs ps).2/\Sz (112*v.wt ws-2) (v.due vs ps).1/\Sz (112*v.wt ws-2) (v.due vs ps).2
 | .number t b,ok=>⟨ok.1.1,(Sz.of (n:=31) (10^9) ok.2.2).mono (show 31<=112*1-2 by decide),(Sz.of (n:=31) (10^9) (by have:=ok.1;show b.natAbs<=_;lia)).mono (show 31<=112*1-2 by decide)⟩
 | .unknown k,ok=>⟨(hp.at ok).1,(hp.at ok).2.1.mono (show 110<=112*1-2 by decide),(hp.at ok).2.2.mono (show 110<=112*1-2 by decide)⟩
 | .plus i j,ok=>by
  have a:=hs.at ok.1
  have b:=hs.at ok.2
  have p:=hw i ok.1
  have q:=hw j ok.2;exact⟨Int.mul_pos (show 0<_ by lia) (show 0<_ by lia),((a.2.1.mul b.2.2).add (b.2.1.mul a.2.2)).mono (by simp only[Nd.wt];lia),(a.2.2.mul b.2.2).mono (by simp only[Nd.wt];lia)⟩
 | .minus i j,ok=>by
  have a:=hs.at ok.1
  have b:=hs.at ok.2
  have p:=hw i ok.1
  have q:=hw j ok.2;exact⟨Int.mul_pos (show 0<_ by lia) (show 0<_ by lia),((a.2.1.mul b.2.2).sub (b.2.1.mul a.2.2)).mono (by simp only[Nd.wt];lia),(a.2.2.mul b.2.2).mono (by simp only[Nd.wt];lia)⟩
 | .times i j,ok=>by
  have a:=hs.at ok.1
  have b:=hs.at ok.2
  have p:=hw i ok.1
  have q:=hw j ok.2;exact⟨Int.mul_pos (show 0<_ by lia) (show 0<_ by lia),(a.2.1.mul b.2.1).mono (by simp only[Nd.wt];lia),(a.2.2.mul b.2.2).mono (by simp only[Nd.wt];lia)⟩
 | .power i n,ok=>by
  have a:=hs.at ok.1
  have p:=hw i ok.1
  have n2:=ok.2.1
  have hn:(112*ws.getD i.toNat 0-2)*n.toNat+1<=112*Nd.wt ws (.power i n)-2:=by
   simp only[Nd.wt];rw[Nat.sub_mul];have e:112*ws.getD i.toNat 0*n.toNat=112*(n.toNat*ws.getD i.toNat 0):=by rw[Nat.mul_assoc,Nat.mul_comm (ws.getD i.toNat 0)]
   have m1:=Nat.mul_le_mul (zC n.toNat) p;lia
  exact⟨yF (show 0<_ by lia),(a.2.1.pow _).mono hn,(a.2.2.pow _).mono hn⟩
def ZI (ps:LI)(ns:List Nd):LI:=ns.foldl (λacc v=>acc++[v.due acc ps]) []
theorem PX (ps:LI)(ns:List Nd)(v:Nd):ZI ps (ns++[v])=ZI ps ns++[v.due (ZI ps ns) ps]:=by
 unfold ZI;rw[List.foldl_append];rfl
theorem Qs (ps:LI)(ns:List Nd):(ZI ps ns).length=ns.length:=by
 have z:∀k,k<=ns.length->(ZI ps (ns.take k)).length=k:=λk=>by
  induction k with
  | zero=>intro _;rfl
  | succ k ih=>
   intro hk;rw[Y4 (zD (show k<ns.length by lia)),PX];simp[ih (by lia)]
 have y:=z ns.length (zC _)
 rwa [yG] at y
theorem zgT (h:PzW ws vs)(lk:vs.length=k)(hp:1<=p.2/\Sz (112*ws.getD k 0-2) p.1/\Sz (112*ws.getD k 0-2) p.2):PzW ws (vs++[p]):=λi q hq=>by
 by_cases hi:i<k
 .rw[zI (by lia)] at hq;exact h i q hq
 .have hl:=(zB.mp hq).1;simp only[zQ,zU,yX,lk] at hl;have ei:i=k:=by lia
  subst ei;rw[yB (by lia),lk,Nat.sub_self] at hq;simp at hq;subst hq;exact hp
theorem zc3 {q:Int}{ns:List Nd}{ws:List Nat}(h:ZJ q ns ws){k:Nat}{vs:LI}(hk:k<=ns.length)(lv:vs.length=k):∀i:Int,inR vs.length i->1<=ws.getD i.toNat 0:=λi hi=>(h.w1 (i:=i) ⟨hi.1,by have:=hi.2;lia⟩).1
theorem Ez {q:Int}{ns:List Nd}{ws:List Nat}{ps:LI}(h:ZJ q ns ws)(hq:q=ps.length)(hp:Pz 110 ps):∀k,k<=ns.length->PzW ws (ZI ps (ns.take k)):=by
 intro k
 induction k with
 | zero=>intro _ i p hp;simp[ZI] at hp
 | succ k ih=>
  intro hk;have hv:=zD (show k<ns.length by lia)
  have s:=ih (by lia)
  have ln:(ZI ps (ns.take k)).length=k:=by rw[Qs,zG];lia
  obtain⟨ok,e,_,_⟩:=h.ok k _ hv;rw[Y4 hv,PX];refine zgT s ln ?_;rw[e];exact due_w s hp (zc3 h (by lia) ln) _ (by rw[ln,<- hq];exact ok)
theorem Pz.of_w {ws:List Nat}{vs:LI}(h:PzW ws vs)(hw:∀k:Nat,k<vs.length->ws.getD k 0<=16):Pz 1800 vs:=λp hp=>by
 obtain⟨k,hk,e⟩:=yL.mp hp;obtain⟨a,b,c⟩:=h k p (by rw[zD hk,e]);have:=hw k hk;exact⟨a,b.mono (by lia),c.mono (by lia)⟩
theorem ze4 {v:Nd}{ns:List Nd}{n:Nat}{S:Sto}{Q:DK}{o:Option Nat}(h:S[n]?=some (.lst (ns.map Nd.d)))(e:Y8 (eqN 1) (ns.map Nd.d) v.d=some o.isSome)(hq:Q (.bl (!o.isSome)) S):Y5 (wIn 1 true) v.d (.ref n) S Q:=by
 rw[X1];unfold wIn;simp only[ZV h rfl,Zo,e];exact hq
theorem any_some:∀ {ns:List Nd} {k:Nat},ns[k]?=some v->Y8 (eqN 1) (ns.map Nd.d) v.d≠some (none:Option Nat).isSome
 | [],k,h=>by simp at h
 | u::us,0,h=>by
  have e:u=v:=by simpa using h
  subst e;show (match eqN 1 u.d u.d,Y8 (eqN 1) (us.map Nd.d) u.d with|some b,some c=>some (b||c)|_,_=>none)≠_;obtain⟨c,hc⟩:=Nh u us;rw[zcI,hc];simp
 | u::us,k+1,h=>by
  have ih:=any_some (ns:=us) (k:=k) (by simpa using h)
  show (match eqN 1 u.d v.d,Y8 (eqN 1) (us.map Nd.d) v.d with|some b,some c=>some (b||c)|_,_=>none)≠_;obtain⟨b,hb⟩:=IF u v;obtain⟨c,hc⟩:=Nh v us;rw[hc] at ih;rw[hb,hc];cases c
  .exact absurd rfl ih
  .simp
theorem Er {vs us ps:LI}{k:Nat}{q:Int}(h:∀i:Int,inR k i->gt vs i=gt us i):∀v:Nd,v.ok k q->v.due vs ps=v.due us ps
 | .number _ _,_=>rfl
 | .unknown _,_=>rfl
 | .plus i j,ok=>by simp only[Nd.due,h i ok.1,h j ok.2]
 | .minus i j,ok=>by simp only[Nd.due,h i ok.1,h j ok.2]
 | .times i j,ok=>by simp only[Nd.due,h i ok.1,h j ok.2]
 | .power i n,ok=>by simp only[Nd.due,h i ok.1]
theorem C8 (P:LI)(ns:List Nd):∀ms:List Nd,∃r,ZI P (ns++ms)=ZI P ns++r
 | []=>⟨[],by rw[yZ,yZ]⟩
 | v::ms=>by
  obtain⟨r,e⟩:=C8 P (ns++[v]) ms;rw[yS] at e;refine⟨v.due (ZI P ns) P::r,?_⟩;rw[show ns++v::ms=ns++([v]++ms) from rfl,e,PX,yS];rfl
theorem GW {P:LI}{ns ms:List Nd}{i:Int}(h:inR ns.length i):gt (ZI P (ns++ms)) i=gt (ZI P ns) i:=by
 obtain⟨r,e⟩:=C8 P ns ms;rw[e];exact zbw (k:=ns.length) h (by rw[Qs];exact zC _)
theorem zdr {P:LI}{ns:List Nd}{ws:List Nat}{q:Int}{j:Nat}{v:Nd}(net:ZJ q ns ws)(h:ns[j]?=some v):gt (ZI P ns) (j:Int)=v.due (ZI P ns) P:=by
 have hj:=(zB.mp h).1
 have e:ns=ns.take (j+1)++ns.drop (j+1):=(List.take_append_drop _ _).symm
 have e2:ns=ns.take j++ns.drop j:=(List.take_append_drop _ _).symm
 have l:(ns.take (j+1)).length=j+1:=by rw[zG];lia
 have lj:(ns.take j).length=j:=by rw[zG];lia
 have g1:gt (ZI P ns) (j:Int)=gt (ZI P (ns.take (j+1))) (j:Int):=by
  have z:=GW (P:=P) (ns:=ns.take (j+1)) (ms:=ns.drop (j+1)) (i:=(j:Int)) ⟨by lia,by rw[l];lia⟩;rw[<- e] at z;exact z
 rw[g1,Y4 h,PX,zcY (by rw[Qs,lj])];refine Er (k:=j) (q:=q) (λi hi=>?_) v (net.ok j v h).1;have z:=GW (P:=P) (ns:=ns.take j) (ms:=ns.drop j) (i:=i) (by rw[lj];exact hi);rw[<- e2] at z;exact z.symm
theorem zdG {ws us:List Nat}{i:Nat}(h:i<ws.length):(ws++us).getD i 0=ws.getD i 0:=by rw[zX,zX,zI h]
structure Gr (q a c:Nat)(S:Sto)(ns:List Nd)(ws:List Nat)(T:Sto)(ns':List Nd)(ws':List Nat):Prop where
 net:ZJ q ns' ws'
 pn:∃ms,ns'=ns++ms/\ms.length<=c
 pw:∃us,ws'=ws++us
 nd:T[a]?=some (.lst (ns'.map Nd.d))
 len:S.length<=T.length
 kp:∀(x:Nat)(o:Ob),x≠a->S[x]?=some o->T[x]?=some o
theorem Gr.refl {q a:Nat}{S:Sto}{ns:List Nd}{ws:List Nat}(net:ZJ q ns ws)(h:S[a]?=some (.lst (ns.map Nd.d))):Gr q a 0 S ns ws S ns ws:=⟨net,⟨[],by simp,by simp⟩,⟨[],by simp⟩,h,zC _,λ_ _ _ e=>e⟩
theorem Gr.trans {q a c d:Nat}{S T U:Sto}{ns ns' ns2:List Nd}{ws ws' ws2:List Nat}(h:Gr q a c S ns ws T ns' ws')(k:Gr q a d T ns' ws' U ns2 ws2):Gr q a (c+d) S ns ws U ns2 ws2:=by
 obtain⟨n1,⟨ms,rfl,l1⟩,⟨us,rfl⟩,a1,e1,k1⟩:=h;obtain⟨n2,⟨ms2,rfl,l2⟩,⟨us2,rfl⟩,a2,e2,k2⟩:=k;exact⟨n2,⟨ms++ms2,by rw[yS],by rw[zQ];lia⟩,⟨us++us2,by rw[yS]⟩,a2,by lia,λx o hx e=>k2 x o hx (k1 x o hx e)⟩
theorem Gr.mono {q a c d:Nat}{S T:Sto}{ns ns':List Nd}{ws ws':List Nat}(h:Gr q a c S ns ws T ns' ws')(l:c<=d):Gr q a d S ns ws T ns' ws':=by
 obtain⟨n1,⟨ms,e,l1⟩,u,a1,e1,k1⟩:=h;exact⟨n1,⟨ms,e,by lia⟩,u,a1,e1,k1⟩
theorem Gr.ln {q a c:Nat}{S T:Sto}{ns ns':List Nd}{ws ws':List Nat}(h:Gr q a c S ns ws T ns' ws'):ns.length<=ns'.length/\ns'.length<=ns.length+c:=by
 obtain⟨n1,⟨ms,rfl,l1⟩,_⟩:=h;rw[zQ];lia
theorem Gr.wt {q a c:Nat}{S T:Sto}{ns ns':List Nd}{ws ws':List Nat}(h:Gr q a c S ns ws T ns' ws')(net:ZJ q ns ws){i:Nat}(hi:i<ns.length):ws'.getD i 0=ws.getD i 0:=by
 obtain⟨us,rfl⟩:=h.pw;exact zdG (by rw[net.len];exact hi)
theorem Gr.due {q a c:Nat}{S T:Sto}{ns ns':List Nd}{ws ws':List Nat}(h:Gr q a c S ns ws T ns' ws')(P:LI){i:Nat}(hi:i<ns.length):gt (ZI P ns') (i:Int)=gt (ZI P ns) (i:Int):=by
 obtain⟨ms,rfl,_⟩:=h.pn;exact GW ⟨by lia,by lia⟩
theorem Gr.put {q a c n:Nat}{S T:Sto}{ns ns':List Nd}{ws ws':List Nat}{o:Ob}(h:Gr q a c S ns ws T ns' ws')(ha:n≠a)(hn:S.length<=n):Gr q a c S ns ws (T.set n o) ns' ws':=by
 obtain⟨n1,pn,pw,a1,e1,k1⟩:=h;refine⟨n1,pn,pw,Z6 a1 ha,by rw[yC];exact e1,λx u hx e=>Z6 (k1 x u hx e) ?_⟩;have:=Z5 e;lia
theorem Gr.push {q a:Nat}{S:Sto}{ns:List Nd}{ws:List Nat}(net:ZJ q ns ws)(h:S[a]?=some (.lst (ns.map Nd.d)))(U:Sto):Gr q a 0 S ns ws (S++U) ns ws:=⟨net,⟨[],by simp,by simp⟩,⟨[],by simp⟩,Zv h,by simp,λ_ _ _ e=>Zv e⟩
structure Zr (P:LI)(ns:List Nd)(ws:List Nat)(w i:Nat):Prop where
 lt:i<ns.length
 wt:ws.getD i 0<=w
 due:(gt (ZI P ns) (i:Int)).1=0
theorem zgh {q a c:Nat}{S T:Sto}{ns ns':List Nd}{ws ws':List Nat}(h:Gr q a c S ns ws T ns' ws')(net:ZJ q ns ws){v:Nd}(ok:v.ok ns.length q):v.wt ws'=v.wt ws:=by
 have z:∀i:Int,inR (ns.length:Nat) i->ws'.getD i.toNat 0=ws.getD i.toNat 0:=λi hi=>by
  have h0:=hi.1
  have h1:=hi.2;exact h.wt net (by lia)
 cases v with
 | number _ _=>rfl
 | unknown _=>rfl
 | plus i j=>show ws'.getD i.toNat 0+ws'.getD j.toNat 0=ws.getD i.toNat 0+ws.getD j.toNat 0;rw[z i ok.1,z j ok.2]
 | minus i j=>show ws'.getD i.toNat 0+ws'.getD j.toNat 0=ws.getD i.toNat 0+ws.getD j.toNat 0;rw[z i ok.1,z j ok.2]
 | times i j=>show ws'.getD i.toNat 0+ws'.getD j.toNat 0=ws.getD i.toNat 0+ws.getD j.toNat 0;rw[z i ok.1,z j ok.2]
 | power i n=>show n.toNat*ws'.getD i.toNat 0=n.toNat*ws.getD i.toNat 0;rw[z i ok.1]
theorem zab {q a c j:Nat}{S T:Sto}{ns ns':List Nd}{ws ws':List Nat}(h:Gr q a c S ns ws T ns' ws'){v:Nd}(ok:v.ok ns.length q)(hj:ns'[j]?=some v)(P:LI):gt (ZI P ns') (j:Int)=v.due (ZI P ns) P:=by
 rw[zdr (P:=P) h.net hj];refine Er (k:=ns.length) (q:=q) (λi hi=>?_) v ok;have h0:=hi.1
 have h1:=hi.2
 have z:=h.due P (i:=i.toNat) (by lia);rw[show ((i.toNat:Nat):Int)=i by lia] at z;exact z
structure Tight (x0 x1:Int)(V Sp:Int->Int->Prop)(L U:Int):Prop where
 all:∀p q,0<q->x0*q<=p->p<=x1*q->V p q->L*q<=p/\p<=U*q
 lo:∃p q,Sp p q/\0<q/\x0*q<=p/\p<=x1*q/\V p q/\p<(L+1)*q
 hi:∃p q,Sp p q/\0<q/\x0*q<=p/\p<=x1*q/\V p q/\(U-1)*q<p
theorem dl (m:Int){g:Int}(hg:0<g):m/g*g<=m/\m<(m/g+1)*g:=by
 have h1:=Int.emod_add_mul_ediv m g
 have h2:=Int.emod_nonneg m (show g≠0 by lia)
 have h3:=Int.emod_lt_of_pos m hg
 have e:(m/g+1)*g=g*(m/g)+g:=by grind
 have e2:m/g*g=g*(m/g):=Int.mul_comm _ _;lia
theorem can {a b c:Int}(h:a*c<=b*c)(hc:0<c):a<=b:=Int.le_of_mul_le_mul_right h hc
structure Low (x0 x1 lo hi lb hb L:Int):Prop where
 all:∀p q,0<q->x0*q<=p->lo*q<=p*lb->L*q<=p
 ex:∃p q,(p=x0/\q=1\/p=lo/\q=lb)/\0<q/\x0*q<=p/\p<=x1*q/\(lo*q<=p*lb/\p*hb<=hi*q)/\p<(L+1)*q
structure Side (lo hi x0 x1 c d:Int):Prop where
 hz:lo<=hi
 hx:x0<=x1
 h0:0<=c
 hcd:c<=d
 hd:0<d
section
variable {lo hi x0 x1 c d:Int}
end
abbrev mx0 (a:Int):Int:=if 0 > a then 0 else a
section
variable {lo hi x0 x1 y0 y1 L U L' U' l u:Int}
variable (hz:lo<=hi)(hy:y0<=y1)(nb:¬ ((y0<=0/\0<=y1)/\lo<=0/\0<=hi))
include hz hy nb
end
theorem if2 {a b:Prop} [Decidable a] [Decidable b] {A B:Prop}(h1:a->b->A)(h2:¬ (a/\b)->B):if (decide a&&decide b)=true then A else B:=by
 by_cases z:a/\b
 .rw[decide_eq_true z.1,decide_eq_true z.2];exact YU (h1 z.1 z.2)
 .have e:(decide a&&decide b)=false:=by
   simp only[Bool.and_eq_false_iff,decide_eq_false_iff_not];by_cases y:a
   .exact .inr λy2=>z ⟨y,y2⟩
   .exact .inl y
  rw[e];exact Yq (h2 z)
theorem and2 {a b:Prop} [Decidable a] [Decidable b] {Q:DK}{S:Sto}(h:Q (.bl (decide a&&decide b)) S):if decide a=true then Q (.bl (decide b)) S else Q (.bl false) S:=
 ifD (λe=>by rw[decide_eq_true e,Bool.true_and] at h;exact h) (λe=>by rw[decide_eq_false e,Bool.false_and] at h;exact h)
theorem Ca (a:Int):0<=mx0 a:=by unfold mx0;split<;>lia
theorem BQ (h:Sz 1400 a):Sz 1400 (mx0 a):=by
 unfold mx0;split
 .exact Sz.of 0 (by decide)
 .exact h
theorem cut {a b c t2:TDS}{E:X9}{dl:Ev}{S:Sto}{α:Type}(G:α->Ev)(P:α->Prop)(h:(∀a,P a->t2 E (G a) S)->We a (We b (We c t2)) E dl S)(main:∀a,P a->t2 E (G a) S):We a (We b (We c t2)) E dl S:=h main
def Mt (n:Nat)(lo hi l h:Int):Prop:=((n%2=0/\l<0/\0<h)/\0<=hi\/¬ (n%2=0/\l<0/\0<h)/\(l^n<=hi\/h^n<=hi))/\(lo<=l^n\/lo<=h^n)
structure Rts (n:Nat)(lo hi al bl ah bh:Int):Prop where
 hz:lo<=hi
 hn:1<=n
 nn:n%2=0->0<=al/\0<=ah
 up:∀t:Int,n%2=1\/0<=t->(t^n<=hi↔t<=ah)
 dn:∀t:Int,n%2=1\/0<=t->(lo<=t^n↔bl<=t)
 el:bl=al/\(bl^n=lo\/bl=0/\n%2=0)\/bl=al+1/\bl^n≠lo
 eh:bh=ah/\ah^n=hi\/bh=ah+1/\ah^n≠hi
section
variable {n:Nat}{lo hi al bl ah bh:Int}
structure Least (n:Nat)(lo hi x0 x1 m:Int):Prop where
 a:x0<=m
 b:m<=x1
 c:Mt n lo hi x0 m
 d:∀k,x0<=k->k<m->¬ Mt n lo hi x0 k
def IV (n:Nat)(lo hi x0 x1 v:Int):Prop:=∃m,Least n lo hi x0 x1 m/\(m=x0/\v=x0\/m≠x0/\(((m-1)^n<lo/\m^n=lo\/(m-1)^n > hi/\m^n=hi)/\v=m\/¬ ((m-1)^n<lo/\m^n=lo\/(m-1)^n > hi/\m^n=hi)/\v=m-1))
end
structure VQ (n:Nat)(lo hi x0 x1 L U:Int):Prop where
 m:Mt n lo hi x0 x1
 low:∀v,IV n lo hi x0 x1 v->v=L
 he:n%2=0->∀v,IV n lo hi (-x1) (-x0) v->v=-U
 ho:n%2=1->∀v,IV n (-hi) (-lo) (-x1) (-x0) v->v=-U
 lu:L<=U
 has:∀t,x0<=t->t<=x1->lo<=t^n->t^n<=hi->L<=t/\t<=U
section
variable {n:Nat}{lo hi al bl ah bh x0 x1:Int}
end
theorem Sz.mid {n:Nat}{a b x:Int}(ha:Sz n a)(hb:Sz n b)(h1:a<=x)(h2:x<=b):Sz n x:=by
 unfold Sz at *
 generalize 2^n=B at *
 lia
theorem zfX (hn:2<=n)(s:Sz 1300 N):Sz 652 (1*2^((Builtin.Int.intBits N:Int)/n+1).toNat):=by
 have b:=s.bits;rw[Int.one_mul];unfold Sz;rw[Int.natAbs_pow];have e:(2:Int).natAbs=2:=rfl;rw[e];refine Nat.pow_lt_pow_right (by decide) ?_;have d:(Builtin.Int.intBits N:Int)/n<=650:=by
  have h1:(Builtin.Int.intBits N:Int)/n<=(Builtin.Int.intBits N:Int)/2:=by
   refine(Int.le_ediv_iff_mul_le (by lia)).mpr ?_;have d1:=Int.emod_add_mul_ediv (Builtin.Int.intBits N:Int) n
   have d2:=Int.emod_nonneg (Builtin.Int.intBits N:Int) (show n≠0 by lia)
   have d3:=Int.ediv_nonneg (show (0:Int)<=(Builtin.Int.intBits N:Int) by lia) (show 0<=n by lia)
   have d4:=Int.mul_le_mul_of_nonneg_right hn d3
   have d5:(Builtin.Int.intBits N:Int)/n*2=2*((Builtin.Int.intBits N:Int)/n):=Int.mul_comm _ _;lia
  lia
 lia
theorem Dz {caps:List Nat}{tl te:TDE}{dl:Ev}{S S1:Sto}{Q:DK}{n:Nat}{o:Ob}(W:Nat->List D->Sto->Prop)(htl:∀K:DK,K (.ref n) S1->tl dl S K)(h1:S1[n]?=some o)(hw:∀k ys S2,W k ys S2->S2[n]?=some o/\S2[S1.length]?=some (.lst ys)/\ys.length=k)(hl:(Zo o).length<=1000)(h0:W 0 [] (S1++[.lst []]))
  (ht:∀(k:Nat)(x:D)(ys:List D)(S2:Sto)(K:DK),(Zo o)[k]?=some x->W k ys S2->(∀y S3,S3[S1.length]?=some (.lst ys)->W (k+1) (ys++[y]) (S3.set S1.length (.lst (ys++[y])))->K y S3)->te (some x::Z8 caps dl) S2 K)
  (hq:∀ys S2,W (Zo o).length ys S2->Q (.ref S1.length) S2)(hL:Y2 o=some o:=by rfl):XM caps tl Y6 te dl S Q:=by
 unfold XM;refine htl _ ⟨by rw[ZV h1 hL];rfl,λk m S2=>(∃ys,W k ys S2)/\m+k=(Zo o).length,⟨(Zo o).length,⟨_,h0⟩,by lia⟩,?_⟩;rintro k m S2 ⟨⟨ys,w⟩,hm⟩;obtain⟨w1,w2,w3⟩:=hw _ _ _ w;rw[ZV w1 hL];dsimp only;split
 .rename_i x hx;have hk:k<(Zo o).length:=(zB.mp hx).1;unfold Wr Y6;simp only[if_true];refine ht k x ys S2 _ hx w λy S3 e3 w4=>?_
  rw[e3];exact⟨by lia,m-1,by lia,⟨_,w4⟩,by lia⟩
 .rename_i hx;have hk:k=(Zo o).length:=by
   have:=yP.mp hx;lia
  exact hq ys S2 (hk ▸ w)
theorem EF {caps:List Nat}{ta:TDA}{te:TDE}{dl:Ev}{S S1:Sto}{Q:DK}{j:Int}(W:Nat->List D->Sto->Prop)(hta:∀K:List D->Sto->Prop,K [.int j] S1->ta dl S K)(hj:0<=j/\j<=1000)(hw:∀k ys S2,W k ys S2->S2[S1.length]?=some (.lst ys)/\ys.length=k)(h0:W 0 [] (S1++[.lst []]))
  (ht:∀(k:Nat)(ys:List D)(S2:Sto)(K:DK),k<j.toNat->W k ys S2->(∀y S3,S3[S1.length]?=some (.lst ys)->W (k+1) (ys++[y]) (S3.set S1.length (.lst (ys++[y])))->K y S3)->te (some (.int (k:Int))::Z8 caps dl) S2 K)
  (hq:∀ys S2,W j.toNat ys S2->Q (.ref S1.length) S2):Wx caps ta Y6 te dl S Q:=by
 unfold Wx;refine hta _ ⟨⟨by lia,by lia⟩,λk S2=>k<=j.toNat/\∃ys,W k ys S2,⟨zP _,_,h0⟩,?_⟩;rintro k S2 ⟨hk,ys,w⟩;obtain⟨w2,w3⟩:=hw _ _ _ w;split
 .rename_i c;unfold Wr Y6;simp only[if_true];refine ht k ys S2 _ c w λy S3 e3 w4=>?_
  rw[e3];exact⟨by lia,by lia,_,w4⟩
 .rename_i c;have hk:k=j.toNat:=by lia
  exact hq ys S2 (hk ▸ w)
theorem E4 {S T:Sto}{n:Nat}{o:Ob}(h:Pre S T)(hn:S.length<=n):Pre S (T.set n o):=λk u e=>by
 have l:=(zB.mp e).1;rw[zW (by lia)];exact h k u e
theorem HQ {vs:List Nd}{k:Nat}{v:Nd}(h:vs[k]?=some v):atI (vs.map Nd.d) (k:Int)=some v.d:=Yx (by rw[zF,h];rfl)
theorem Mj {is:List Nat}{ta:TDA}{tb:TDS}{E:X9}{dl:Ev}{S S1:Sto}{n:Nat}{xs:List D}(W:Nat->Ev->Sto->Prop)(hta:∀K:List D->Sto->Prop,K [.ref n] S1->ta dl S K)(hk:∀k dl' S',W k dl' S'->S'[n]?=some (.lst xs))(h0:W 0 dl S1)
  (hb:∀(k:Nat)(x:D)(dl':Ev)(S':Sto)(nx ct:Ev->Sto->Prop),xs[k]?=some x->W k dl' S'->(∀dl2 S2,W (k+1) dl2 S2->nx dl2 S2)->tb { nx:=nx,rt:=E.rt,bk:=E.nx,ct:=ct } (V9 is [.int (k:Int),x] dl') S')(he:∀dl' S',W xs.length dl' S'->E.nx dl' S'):MU is ta tb E dl S:=by
 unfold MU;refine hta _ ⟨by rw[ZV (hk _ _ _ h0) rfl];rfl,λk m dl' S'=>W k dl' S'/\k+m=xs.length,⟨xs.length,h0,by lia⟩,?_⟩;rintro k m dl' S' ⟨w,hm⟩;rw[ZV (hk _ _ _ w) rfl];dsimp only[Zo];split
 .rename_i x e1;have l1:=(zB.mp e1).1;exact hb k x dl' S' _ _ e1 w (λdl2 S2 w2=>⟨m-1,by lia,w2,by lia⟩)
 .rename_i e1;have l1:=yP.mp e1
  have ek:k=xs.length:=by lia
  exact⟨ek,he _ _ (ek ▸ w)⟩
theorem QU (h0:0<=n)(h1:n<=xs.length):Z7 xs none (some n)=xs.take n.toNat:=by
 unfold L3.Z7;have e:HT.sIx xs.length xs.length (some n)=n.toNat:=by
  have z:=HT.sIx_nat xs.length xs.length n.toNat;rw[Int.toNat_of_nonneg h0] at z;rw[z];lia
 rw[e,HT.sIx_none,List.drop_zero,Nat.sub_zero]
def Sub (x:Int×Int)(o:Option (Int×Int)):Prop:=∀p,o=some p->p.1<=p.2/\x.1<=p.1/\p.2<=x.2
theorem zfr:Sub p (V7 p q):=λr e=>by
 refine⟨zcN e,?_⟩;unfold V7 at e;have go:∀lo hi:Int,p.1<=lo->hi<=p.2->(if hi<lo then none else some (lo,hi))=some r->p.1<=r.1/\r.2<=p.2:=λlo hi a b e=>by
  split at e
  .cases e
  .cases e;exact⟨a,b⟩
 refine go _ _ ?_ ?_ e
 .split<;>lia
 .split<;>lia
theorem Spn.set2 (h:Spn B vs)(hu:u.1<=u.2/\Sz B u.1/\Sz B u.2):Spn B (vs.set k u):=λp hp=>by
 rcases List.mem_or_eq_of_mem_set hp with e|e
 .exact h p e
 .subst e;exact hu
def rwW (zero:Bool)(w:Str):Prop:=zero=true/\w="zero"\/zero=false/\w="least"
theorem Gr.pre {q a:Nat}{S T:Sto}{ns:List Nd}{ws:List Nat}(net:ZJ q ns ws)(h:S[a]?=some (.lst (ns.map Nd.d)))(pr:Pre S T)(hl:S.length<=T.length):Gr q a 0 S ns ws T ns ws:=⟨net,⟨[],by simp,by simp⟩,⟨[],by simp⟩,pr _ _ h,hl,λx o _ e=>pr x o e⟩
def FdAt (o:Option LI)(L:Nat)(S:Sto)(fd:D):Prop:=(fd=.non/\o=none)\/∃(r:LI)(mf:Nat),fd=.ref mf/\o=some r/\S[mf]?=some (.lst (r.map frD))/\L<=mf
theorem Xj (h:Pre S T):S.length<=T.length:=by
 by_cases c:S.length<=T.length
 .exact c
 .have e:=h T.length _ (zD (by lia))
  have:=(zB.mp e).1;lia
structure Ct where
 k:Nat
 p:Int
 s:Bool
def Ct.d (c:Ct):D:=.tup [.int (c.k:Int),.int c.p,.int (if c.s then 1 else 0)]
def brS (zero:Bool)(s:Int×Int):Bool:=if zero then decide (0<s.1)||decide (s.2<0) else decide (s.2<0)
def ibS (ns:List Nd)(zero:Bool)(k:Nat)(bs:LI)(g:Int):Bool:=brS zero (gt (Zt bs g (ns.take (k+1))) (k:Int))
def Ct.off (c:Ct)(s:Int×Int):Int×Int:=if c.s then (c.p,s.2) else (s.1,c.p)
def Ct.back (c:Ct)(s:Int×Int):Int×Int:=if c.s then (s.1,c.p) else (c.p,s.2)
def isS (ns:List Nd)(zero:Bool)(k:Nat)(g:Int)(bs:LI)(c:Ct):Bool:=(decide ((gt bs (c.k:Int)).1<c.p)&&decide (c.p<(gt bs (c.k:Int)).2))&&ibS ns zero k (bs.set c.k (c.off (gt bs (c.k:Int)))) g
def ctP (bs:LI)(c:Ct):LI:=bs.set c.k (c.back (gt bs (c.k:Int)))
def L8 (ns:List Nd)(zero:Bool)(k:Nat)(g:Int)(a:List Ct×LI)(c:Ct):List Ct×LI:=if isS ns zero k g a.2 c then (a.1++[c],ctP a.2 c) else a
def ctA (bs:LI)(cs:List Ct):LI:=cs.foldl ctP bs
theorem E6 (bs:LI)(cs:List Ct)(c:Ct):ctA bs (cs++[c])=ctP (ctA bs cs) c:=by
 unfold ctA;rw[List.foldl_append];rfl
def Ct.ix (c:Ct):Nat:=2*c.k+(if c.s then 1 else 0)
structure Oz (ns:List Nd)(zero:Bool)(k:Nat)(g:Int)(bs:LI)(n:Nat)(q:List Ct×LI):Prop where
 left:q.2=ctA bs q.1
 len:q.2.length=bs.length
 spn:Spn 51 q.2
 is:∀(i:Nat)(c:Ct),q.1[i]?=some c->isS ns zero k g (ctA bs (q.1.take i)) c=true/\c.k<bs.length
 lt:∀c∈q.1,c.ix<n
 ord:∀(i j:Nat)(c d:Ct),i<j->q.1[i]?=some c->q.1[j]?=some d->c.ix<d.ix
 few:q.1.length<=n
theorem El {ns:List Nd}{zero:Bool}{k:Nat}{g:Int}{bs:LI}{c:Ct}(h:isS ns zero k g bs c=true):(gt bs (c.k:Int)).1<c.p/\c.p<(gt bs (c.k:Int)).2:=by
 unfold isS at h;simp only[Bool.and_eq_true,decide_eq_true_eq] at h;exact h.1
theorem CF {c:Ct}{s:Int×Int}(h1:s.1<c.p)(h2:c.p<s.2)(z1:Sz 51 s.1)(z2:Sz 51 s.2):((c.back s).1<=(c.back s).2/\Sz 51 (c.back s).1/\Sz 51 (c.back s).2)/\(c.off s).1<=(c.off s).2/\Sz 51 (c.off s).1/\Sz 51 (c.off s).2:=by
 have zp:Sz 51 c.p:=Sz.mid z1 z2 (by lia) (by lia);unfold Ct.back Ct.off;cases c.s with
 | true=>exact⟨⟨by show s.1<=c.p;lia,z1,zp⟩,by show c.p<=s.2;lia,zp,z2⟩
 | false=>exact⟨⟨by show c.p<=s.2;lia,zp,z2⟩,by show s.1<=c.p;lia,z1,zp⟩
theorem Oz.step {ns:List Nd}{zero:Bool}{k n:Nat}{g:Int}{bs:LI}{q:List Ct×LI}(h:Oz ns zero k g bs n q){c:Ct}(hc:c.k<bs.length)(hn:c.ix=n):Oz ns zero k g bs (n+1) (L8 ns zero k g q c):=by
 unfold L8;split
 .rename_i e;have ik:inR ((q.2.length:Nat):Int) (c.k:Int):=⟨by lia,by have:=h.len;lia⟩
  have a:=h.spn.at ik
  have b:=El e;refine⟨by rw[E6,<- h.left],by show (q.2.set _ _).length=_;rw[yC];exact h.len,h.spn.set2 (CF b.1 b.2 a.2.1 a.2.2).1,λi d hd=>?_,λd hd=>?_,λi j x y hij hx hy=>?_,by show (q.1++[c]).length<=_;rw[zQ];have:=h.few;simp;lia⟩
  .show isS ns zero k g (ctA bs ((q.1++[c]).take i)) d=true/\_;by_cases hi:i<q.1.length
   .have hd2:(q.1++[c])[i]?=some d:=hd;rw[zI hi] at hd2;rw[List.take_append_of_le_length (by lia)];exact h.is i d hd2
   .have hd2:(q.1++[c])[i]?=some d:=hd
    have hl:=(zB.mp hd2).1;simp only[zQ,zU,yX] at hl;have ei:i=q.1.length:=by lia
    subst ei;simp at hd2;subst hd2;rw[List.take_append_of_le_length (zC _),yG,<- h.left];exact⟨e,hc⟩
  .have hd2:d∈q.1++[c]:=hd;rcases zY.mp hd2 with z|z
   .have:=h.lt d z;lia
   .cases zT.mp z;lia
  .have hx2:(q.1++[c])[i]?=some x:=hx
   have hy2:(q.1++[c])[j]?=some y:=hy
   have hl:=(zB.mp hy2).1;simp only[zQ,zU,yX] at hl;rw[zI (by lia)] at hx2;by_cases hj:j<q.1.length
   .rw[zI hj] at hy2;exact h.ord i j x y hij hx2 hy2
   .have ej:j=q.1.length:=by lia
    subst ej;simp at hy2;subst hy2;have:=h.lt x (zE hx2);lia
 .exact⟨h.left,h.len,h.spn,h.is,λd hd=>by have:=h.lt d hd;lia,h.ord,by have:=h.few;lia⟩
theorem zgu (bs:LI):∀cs:List Ct,(ctA bs cs).length=bs.length:=λcs=>by
 unfold ctA
 induction cs generalizing bs with
 | nil=>rfl
 | cons c cs ih=>
  show (cs.foldl ctP (ctP bs c)).length=_;rw[ih];exact yC ..
theorem zcZ {α:Type}{bs:LI}{k:Nat}{p:Int×Int}(h:k<bs.length):Z7 (bs.map frD) none (some (k:Int))++[frD p]++Z7 (bs.map frD) (some ((k:Int)+1)) none=(bs.set k p).map frD:=by
 rw[QU (by lia) (by rw[zA];lia),zK];have e:Z7 (bs.map frD) (some ((k:Int)+1)) none=(bs.map frD).drop (k+1):=by
  unfold L3.Z7;have z:=HT.sIx_nat (bs.map frD).length 0 (k+1);rw[show (((k+1:Nat):Int))=(k:Int)+1 by lia] at z;rw[z,HT.sIx_none,yQ (by rw[List.length_drop];lia),Nat.min_eq_left (by rw[zA];lia)]
 rw[e,List.set_eq_take_append_cons_drop,if_pos h,zZ,yJ,xE,List.map_drop,yS];rfl
theorem zce {to te:TDE}{dl:Ev}{S:Sto}{Q:DK}{n:Nat}{xs:List D}(hto:∀K:DK,K (.ref n) S->to dl S K)(h:S[n]?=some (.lst xs))(hte:∀K:DK,(∀(y:D)(S2:Sto),S2[n]?=some (.lst xs)->Q .non (S2.set n (.lst (xs++[y])))->K y S2)->te dl S K)(hl:xs.length<1000):WL to te dl S Q:=by
 unfold WL;refine hto _ ?_;simp only[h];refine hte _ λy S2 h2 q=>?_
 simp only[h2,if_pos hl];exact q
def Yi (S:Sto)(lo:Nat)(ds:List D)(R:List LI):Prop:=ds.length=R.length/\∀(k:Nat)(d:D)(r:LI),ds[k]?=some d->R[k]?=some r->∃a,d=.ref a/\lo<=a/\S[a]?=some (.lst (r.map frD))
theorem Yi.nil {S:Sto}{lo:Nat}:Yi S lo [] []:=⟨rfl,λk d r h=>by simp at h⟩
theorem Yi.pre {S T:Sto}{lo:Nat}{ds:List D}{R:List LI}(h:Yi S lo ds R)(p:Pre S T):Yi T lo ds R:=⟨h.1,λk d r hd hr=>by
 obtain⟨a,e,l,s⟩:=h.2 k d r hd hr;exact⟨a,e,l,p _ _ s⟩⟩
theorem Yi.low {S:Sto}{lo lo':Nat}{ds:List D}{R:List LI}(h:Yi S lo ds R)(l:lo'<=lo):Yi S lo' ds R:=⟨h.1,λk d r hd hr=>by
 obtain⟨a,e,l,s⟩:=h.2 k d r hd hr;exact⟨a,e,by lia,s⟩⟩
theorem Yi.keep {S T:Sto}{lo:Nat}{ds:List D}{R:List LI}(h:Yi S lo ds R)(p:∀(x:Nat)(o:Ob),lo<=x->S[x]?=some o->T[x]?=some o):Yi T lo ds R:=⟨h.1,λk d r hd hr=>by
 obtain⟨a,e,l,s⟩:=h.2 k d r hd hr;exact⟨a,e,l,p _ _ l s⟩⟩
theorem Yi.at {S:Sto}{lo:Nat}{ds:List D}{R:List LI}(h:Yi S lo ds R){i:Int}(hi:inR R.length i):∃a,atI ds i=some (.ref a)/\lo<=a/\S[a]?=some (.lst ((R.getD i.toNat []).map frD)):=by
 obtain⟨h0,h1⟩:=hi;have hk:i.toNat<R.length:=by lia
 have hk':i.toNat<ds.length:=by rw[h.1];exact hk
 obtain⟨a,e,l,s⟩:=h.2 i.toNat _ _ (zD hk') (zD hk);refine⟨a,?_,l,?_⟩
 .have z:=Yx (xs:=ds) (j:=i.toNat) (v:=.ref a) (by rw[zD hk',e]);rw[show ((i.toNat:Nat):Int)=i by lia] at z;exact z
 .rw[s];simp[hk]
theorem Yi.snoc {S:Sto}{lo:Nat}{ds:List D}{R:List LI}{a:Nat}{r:LI}(h:Yi S lo ds R)(hl:lo<=a)(hs:S[a]?=some (.lst (r.map frD))):Yi S lo (ds++[.ref a]) (R++[r]):=⟨by rw[zQ,zQ,h.1];rfl,λk d r' hd hr=>by
 by_cases hk:k<ds.length
 .rw[zI hk] at hd;rw[zI (by rw[<- h.1];exact hk)] at hr;exact h.2 k d r' hd hr
 .have l:=(zB.mp hd).1;simp only[zQ,zU,yX] at l;have ek:k=ds.length:=by lia
  subst ek;rw[yB (zC _),Nat.sub_self] at hd;rw[h.1,yB (zC _),Nat.sub_self] at hr;cases hd;cases hr;exact⟨a,rfl,hl,hs⟩⟩
abbrev gs (sl:List LI)(i:Int)(l:Nat):Int×Int:=(sl.getD i.toNat []).getD l (0,0)
def Yn (p q:Int×Int)(g:Int):Int×Int:=(mn4 p.1 p.2 q.1 q.2/g,-(-mx4 p.1 p.2 q.1 q.2/g))
def YZ (p:Int×Int)(n g:Int):Int×Int:=(Yo p.1 p.2 (n-1).toNat/g^((n-1).toNat-1)*n,-(-Y9 p.1 p.2 (n-1).toNat/g^((n-1).toNat-1))*n)
def Nd.sl (vs:LI)(sl:List LI)(g:Int)(l:Nat):Nd->Int×Int
 | .number _ _=>(0,0)
 | .unknown k=>if (l:Int)=k then (g,g) else (0,0)
 | .plus i j=>((gs sl i l).1+(gs sl j l).1,(gs sl i l).2+(gs sl j l).2)
 | .minus i j=>((gs sl i l).1-(gs sl j l).2,(gs sl i l).2-(gs sl j l).1)
 | .times i j=>((Yn (gt vs i) (gs sl j l) g).1+(Yn (gt vs j) (gs sl i l) g).1,(Yn (gt vs i) (gs sl j l) g).2+(Yn (gt vs j) (gs sl i l) g).2)
 | .power i n=>Yn (YZ (gt vs i) n g) (gs sl i l) g
def YF (vs:LI)(sl:List LI)(g:Int)(q:Nat)(v:Nd):LI:=(List.range q).map λl=>v.sl vs sl g l
theorem zdg {vs:LI}{sl:List LI}{g:Int}{q:Nat}{v:Nd}:(YF vs sl g q v).length=q:=by simp[YF]
theorem zgQ (f:Int×Int->α)(r:LI)(h:r.length=q):r.map f=(List.range q).map λl=>f (r.getD l (0,0)):=by
 subst h;refine List.ext_getElem? λk=>?_
 by_cases hk:k<r.length
 .rw[zF,zF,List.getElem?_range hk,zD hk];simp[hk]
 .rw[xF (by simpa using hk),xF (by simpa using hk)]
theorem zct (f:Int×Int->Int×Int->α)(r s:LI)(h:r.length=q)(h':s.length=q):List.zipWith f r s=(List.range q).map λl=>f (r.getD l (0,0)) (s.getD l (0,0)):=by
 subst h;refine List.ext_getElem? λk=>?_
 by_cases hk:k<r.length
 .rw[List.getElem?_zipWith,zF,List.getElem?_range hk,zD hk,zD (show k<s.length by lia)];simp[hk,show k<s.length by lia]
 .rw[xF (by rw[List.length_zipWith];lia),xF (by simpa using hk)]
theorem zd1 (x:D)(q:Nat):(List.replicate q [x]).flatten=(List.range q).map λ_=>x:=by
 refine List.ext_getElem? λk=>?_
 have l:(List.replicate q [x]).flatten=List.replicate q x:=by
  induction q with
  | zero=>rfl
  | succ q ih=>rw[yV,xB,ih];rfl
 rw[l];by_cases hk:k<q
 .rw[zF,List.getElem?_range hk,List.getElem?_replicate,if_pos hk];rfl
 .rw[xF (by simpa using hk),xF (by simpa using hk)]
theorem Jg (p q:Int×Int)(hg:1<=g):(Yn p q g).1<=(Yn p q g).2:=Rl hg (BL _ _ _ _)
theorem zdn (p:Int×Int)(hn:0<=n)(hg:1<=g):(YZ p n g).1<=(YZ p n g).2:=Int.mul_le_mul_of_nonneg_right (Rl (yF (by lia)) (Gj _ _ _)) hn
def Yj (vs:LI)(g:Int)(q:Nat)(ns:List Nd):List LI:=ns.foldl (λacc v=>acc++[YF vs acc g q v]) []
theorem FE (vs:LI)(g:Int)(q:Nat)(ns:List Nd)(v:Nd):Yj vs g q (ns++[v])=Yj vs g q ns++[YF vs (Yj vs g q ns) g q v]:=by
 unfold Yj;rw[List.foldl_append];rfl
theorem ND (vs:LI)(g:Int)(q:Nat)(ns:List Nd):(Yj vs g q ns).length=ns.length:=by
 have z:∀k,k<=ns.length->(Yj vs g q (ns.take k)).length=k:=λk=>by
  induction k with
  | zero=>intro _;rfl
  | succ k ih=>
   intro hk;rw[Y4 (zD (show k<ns.length by lia)),FE];simp[ih (by lia)]
 have:=z ns.length (zC _)
 rwa [yG] at this
def SlW (q:Nat)(ws:List Nat)(sl:List LI):Prop:=∀(k:Nat)(r:LI),sl[k]?=some r->r.length=q/\∀p∈r,p.1<=p.2/\Sz (64*ws.getD k 0-1) p.1/\Sz (64*ws.getD k 0-1) p.2
theorem SlW.at {q:Nat}{ws:List Nat}{sl:List LI}(h:SlW q ws sl){i:Int}(hi:inR sl.length i):(sl.getD i.toNat []).length=q/\∀l,l<q->(gs sl i l).1<=(gs sl i l).2/\Sz (64*ws.getD i.toNat 0-1) (gs sl i l).1/\Sz (64*ws.getD i.toNat 0-1) (gs sl i l).2:=by
 obtain⟨h0,h1⟩:=hi;have hk:i.toNat<sl.length:=by lia
 obtain⟨a,b⟩:=h i.toNat _ (zD hk);have e:sl.getD i.toNat []=sl[i.toNat]:=by simp[hk]
 refine⟨by rw[e];exact a,λl hl=>?_⟩;have e2:gs sl i l=sl[i.toNat][l]'(by rw[a];exact hl):=by
  unfold gs;rw[e];simp[show l<sl[i.toNat].length by rw[a];exact hl]
 rw[e2];exact b _ (yW _)
theorem SlW.snoc {q:Nat}{ws:List Nat}{sl:List LI}{r:LI}(h:SlW q ws sl)(hr:r.length=q)(hp:∀p∈r,p.1<=p.2/\Sz (64*ws.getD sl.length 0-1) p.1/\Sz (64*ws.getD sl.length 0-1) p.2):SlW q ws (sl++[r]):=λk u hu=>by
 by_cases hk:k<sl.length
 .rw[zI hk] at hu;exact h k u hu
 .have l:=(zB.mp hu).1;simp only[zQ,zU,yX] at l;have ek:k=sl.length:=by lia
  subst ek;rw[yB (zC _),Nat.sub_self] at hu;cases hu;exact⟨hr,hp⟩
theorem N5 (hg:1<=g)(h1:Sz m p.1)(h2:Sz m p.2)(h3:Sz n q.1)(h4:Sz n q.2):Sz (m+n) (Yn p q g).1/\Sz (m+n) (Yn p q g).2:=
 ⟨(Vr (Vr (h1.mul h3) (h1.mul h4)) (Vr (h2.mul h3) (h2.mul h4))).div hg,Up (Ws (Ws (h1.mul h3) (h1.mul h4)) (Ws (h2.mul h3) (h2.mul h4))) hg⟩
theorem zfi:∀n:Nat,2<=n->n<=6->n<=2^(n-1):=λn h1 h2=>by
 have:n=2\/n=3\/n=4\/n=5\/n=6:=by lia
 rcases this with rfl|rfl|rfl|rfl|rfl<;>decide
theorem Nm (h:Sz m x)(hn:n.natAbs<=2^e)(hp:1<=n.natAbs):Sz (m+e) (x*n):=by
 unfold Sz at *
 rw[Nat.pow_add,Int.natAbs_mul];exact Nat.mul_lt_mul_of_lt_of_le h hn (yE (by decide))
theorem zeX (hg:1<=g)(n2:2<=n)(n6:n<=6)(h1:Sz m p.1)(h2:Sz m p.2):Sz (m*(n.toNat-1)+(n.toNat-1)) (YZ p n g).1/\Sz (m*(n.toNat-1)+(n.toNat-1)) (YZ p n g).2:=by
 have en:(n-1).toNat=n.toNat-1:=by lia
 have gp:(1:Int)<=g^((n-1).toNat-1):=yF (by lia)
 have p1:Sz (m*(n.toNat-1)) (p.1^(n-1).toNat):=by rw[en];exact Sz.pow' h1 (by lia)
 have p2:Sz (m*(n.toNat-1)) (p.2^(n-1).toNat):=by rw[en];exact Sz.pow' h2 (by lia)
 have lo:Sz (m*(n.toNat-1)) (Yo p.1 p.2 (n-1).toNat):=by
  unfold Yo;split
  .show (0:Int).natAbs<_;exact yE (by decide)
  .exact Vr p1 p2
 have nb:n.natAbs<=2^(n.toNat-1):=by
  have:=zfi n.toNat (by lia) (by lia);lia
 exact⟨Nm (lo.div gp) nb (by lia),Nm (Up (Ws p1 p2) gp) nb (by lia)⟩
theorem sl_ok {q:Nat}{ws:List Nat}{vs:LI}{sl:List LI}{g:Int}(hs:SzW ws vs)(hl:SlW q ws sl)(hg:1<=g/\g<=1000000)(hv:sl.length<=vs.length)(hw:∀i:Int,inR vs.length i->1<=ws.getD i.toNat 0){l:Nat}(hq:l<q):∀v:Nd,v.ok sl.length q->1<=v.wt ws->(v.sl vs sl g l).1<=(v.sl vs sl g l).2/\Sz (64*v.wt ws-2) (v.sl vs sl g l).1/\Sz (64*v.wt ws-2) (v.sl vs sl g l).2
 | .number t b,ok,h1=>⟨zS _,by show Sz _ 0;exact yE (by decide),by show Sz _ 0;exact yE (by decide)⟩
 | .unknown k,ok,h1=>by
  have sg:Sz (64*Nd.wt ws (.unknown k)-2) g:=(Sz.of (n:=21) (10^6) (show g.natAbs<=_ by lia)).mono (by show 21<=64*1-2;decide)
  show (if (l:Int)=k then (g,g) else (0,0)).1<=(if (l:Int)=k then (g,g) else (0,0)).2/\Sz _ (if (l:Int)=k then (g,g) else (0,0)).1/\Sz _ (if (l:Int)=k then (g,g) else (0,0)).2;split
  .exact⟨zS _,sg,sg⟩
  .exact⟨zS _,yE (by decide),yE (by decide)⟩
 | .plus i j,ok,h1=>by
  have a:=(hl.at ok.1).2 l hq
  have b:=(hl.at ok.2).2 l hq
  have p:=hw i ⟨ok.1.1,by have:=ok.1.2;lia⟩
  have q:=hw j ⟨ok.2.1,by have:=ok.2.2;lia⟩;refine⟨?_,(a.2.1.add b.2.1).mono (by simp only[Nd.wt];lia),(a.2.2.add b.2.2).mono (by simp only[Nd.wt];lia)⟩;show (gs sl i l).1+(gs sl j l).1<=(gs sl i l).2+(gs sl j l).2;lia
 | .minus i j,ok,h1=>by
  have a:=(hl.at ok.1).2 l hq
  have b:=(hl.at ok.2).2 l hq
  have p:=hw i ⟨ok.1.1,by have:=ok.1.2;lia⟩
  have q:=hw j ⟨ok.2.1,by have:=ok.2.2;lia⟩;refine⟨?_,(a.2.1.sub b.2.2).mono (by simp only[Nd.wt];lia),(a.2.2.sub b.2.1).mono (by simp only[Nd.wt];lia)⟩;show (gs sl i l).1-(gs sl j l).2<=(gs sl i l).2-(gs sl j l).1;lia
 | .times i j,ok,h1=>by
  have oi:inR vs.length i:=⟨ok.1.1,by have:=ok.1.2;lia⟩
  have oj:inR vs.length j:=⟨ok.2.1,by have:=ok.2.2;lia⟩
  have a:=(hl.at ok.1).2 l hq
  have b:=(hl.at ok.2).2 l hq
  have c:=hs.at oi
  have d:=hs.at oj
  have p:=hw i oi
  have q:=hw j oj
  have z1:=N5 hg.1 c.2.1 c.2.2 b.2.1 b.2.2
  have z2:=N5 hg.1 d.2.1 d.2.2 a.2.1 a.2.2;refine⟨?_,(z1.1.add z2.1).mono (by simp only[Nd.wt];lia),(z1.2.add z2.2).mono (by simp only[Nd.wt];lia)⟩;have m1:=Jg (gt vs i) (gs sl j l) hg.1
  have m2:=Jg (gt vs j) (gs sl i l) hg.1
  show (Yn (gt vs i) (gs sl j l) g).1+(Yn (gt vs j) (gs sl i l) g).1<=(Yn (gt vs i) (gs sl j l) g).2+(Yn (gt vs j) (gs sl i l) g).2;lia
 | .power i n,ok,h1=>by
  have oi:inR vs.length i:=⟨ok.1.1,by have:=ok.1.2;lia⟩
  have a:=(hl.at ok.1).2 l hq
  have c:=hs.at oi
  have p:=hw i oi
  have n2:=ok.2.1
  have f:=zeX hg.1 ok.2.1 ok.2.2 c.2.1 c.2.2
  have z:=N5 hg.1 f.1 f.2 a.2.1 a.2.2
  have hn:(60*ws.getD i.toNat 0-1)*(n.toNat-1)+(n.toNat-1)+(64*ws.getD i.toNat 0-1)<=64*Nd.wt ws (.power i n)-2:=by
   simp only[Nd.wt];generalize ws.getD i.toNat 0=w at p;obtain⟨k,hk⟩:∃k,n.toNat=k+2:=⟨n.toNat-2,by lia⟩;rw[hk,show k+2-1=k+1 by lia,Nat.sub_mul,Nat.one_mul];have e1:60*w*(k+1)=60*(k*w)+60*w:=by rw[Nat.mul_add,Nat.mul_one,Nat.mul_assoc,Nat.mul_comm w k]
   have e2:(k+2)*w=k*w+2*w:=Nat.add_mul ..
   have e3:k+1<=60*w*(k+1):=Nat.le_mul_of_pos_left _ (by lia);rw[e2];lia
  exact⟨Jg _ _ hg.1,z.1.mono hn,z.2.mono hn⟩
theorem Aq {q:Nat}{ns:List Nd}{ws:List Nat}{vs:LI}{g:Int}(h:ZJ q ns ws)(hs:SzW ws vs)(hv:vs.length=ns.length)(hg:1<=g/\g<=1000000):∀k,k<=ns.length->SlW q ws (Yj vs g q (ns.take k)):=λk=>by
 induction k with
 | zero=>intro _ i p hp;simp[Yj] at hp
 | succ k ih=>
  intro hk;have hv':=zD (show k<ns.length by lia)
  have s:=ih (by lia)
  have ln:(Yj vs g q (ns.take k)).length=k:=by rw[ND,zG];lia
  obtain⟨ok,e,p1,_⟩:=h.ok k _ hv';rw[Y4 hv',FE];refine s.snoc zdg λp hp=>?_
  obtain⟨l,hl,rfl⟩:=zN.mp hp;have z:=sl_ok hs s hg (by lia) (λi hi=>(h.w1 (by rw[<- hv];exact hi)).1) (List.mem_range.mp hl) ns[k] (by rw[ln];exact ok) p1;rw[ln,e];exact⟨z.1,z.2.1.mono (by lia),z.2.2.mono (by lia)⟩
theorem DT {q:Int}{ns:List Nd}{ws:List Nat}{bs:LI}{g:Int}(h:ZJ q ns ws)(hq:q=bs.length)(hb:Spn 51 bs)(hg:1<=g/\g<=1000000):SzW ws (Zt bs g ns):=by
 have z:=Dv h hq hb hg ns.length (zC _)
 rwa [yG] at z
theorem SlW.spn (h:SlW q ws sl)(hw:∀k:Nat,k<sl.length->ws.getD k 0<=16):∀i:Int,inR sl.length i->(sl.getD i.toNat []).length=q/\∀l,l<q->(gs sl i l).1<=(gs sl i l).2/\Sz 1100 (gs sl i l).1/\Sz 1100 (gs sl i l).2:=λi hi=>by
 obtain⟨a,b⟩:=h.at hi;refine⟨a,λl hl=>?_⟩;obtain⟨c,d,e⟩:=b l hl;have:=hw i.toNat (by have:=hi.1;have:=hi.2;lia);exact⟨c,d.mono (by lia),e.mono (by lia)⟩
def mid (p:Int×Int):Int:=(p.1+p.2)/2
def XJ (p:Int×Int):Int×Int:=(mid p,mid p)
def addS (p q:Int×Int):Int×Int:=(p.1+q.1,p.2+q.2)
def JH (p q:Int×Int):Int×Int:=(p.1-q.2,p.2-q.1)
def XN (g:Int)(us vs:LI):Int×Int:=(List.zip us vs).foldl (λt z=>addS t (Yn z.1 z.2 g)) (0,0)
def rwD (r:Bool×Nat):D:=.tup [.str (if r.1 then "zero" else "least"),.int (r.2:Int)]
def eqs (rows:List (Bool×Nat)):List Nat:=rows.filterMap λr=>if r.1 then some r.2 else none
theorem Dw {caps:List Nat}{tl te:TDE}{tc:TDT}{dl:Ev}{S S1:Sto}{Q:DK}{n:Nat}{o:Ob}(f:D->Option D)(htl:∀K:DK,K (.ref n) S1->tl dl S K)(h1:S1[n]?=some o)(hl:(Zo o).length<=1000)
  (hc:∀x∈Zo o,∀(S2:Sto)(K:Bool->Sto->Prop),Pre S1 S2->K (f x).isSome S2->tc (some x::Z8 caps dl) S2 K)(ht:∀x∈Zo o,∀y,f x=some y->∀(S2:Sto)(K:DK),Pre S1 S2->K y S2->te (some x::Z8 caps dl) S2 K)(hq:Q (.ref S1.length) (S1++[.lst ((Zo o).filterMap f)]))(hL:Y2 o=some o:=by rfl):XM caps tl tc te dl S Q:=by
 unfold XM;refine htl _ ⟨by rw[ZV h1 hL];rfl,λk m S2=>S2=S1++[.lst (((Zo o).take k).filterMap f)]/\m+k=(Zo o).length,⟨(Zo o).length,by simp,by lia⟩,?_⟩;rintro k m S2 ⟨rfl,hm⟩;rw[ZV (Vf h1) hL];dsimp only;split
 .rename_i x hx;have hk:k<(Zo o).length:=(zB.mp hx).1
  have e:(Zo o).take (k+1)=(Zo o).take k++[x]:=by rw[List.take_succ,hx];rfl
  unfold Wr;refine hc x (zE hx) _ _ Pre.refl.push ?_;cases ef:f x with
  | none=>
   refine Yq ?_;refine⟨m-1,by lia,?_,by lia⟩;rw[e,List.filterMap_append];simp[ef]
  | some y=>
   refine YU ?_;refine ht x (zE hx) y ef _ _ Pre.refl.push ?_;rw[Zs];have ll:=List.length_filterMap_le f ((Zo o).take k);refine⟨by rw[zG] at ll;lia,m-1,by lia,?_,by lia⟩;rw[e,List.filterMap_append,Ve];simp[ef]
 .rename_i hx;have hk:(Zo o).length<=k:=yP.mp hx;rw[yQ hk];exact hq
theorem EG (g:Int)(us vs:LI)(k:Nat){u v:Int×Int}(hu:us[k]?=some u)(hv:vs[k]?=some v):XN g (us.take (k+1)) (vs.take (k+1))=addS (XN g (us.take k) (vs.take k)) (Yn u v g):=by
 unfold XN;have l1:=(zB.mp hu).1
 have l2:=(zB.mp hv).1;rw[Y4 hu,Y4 hv,List.zip_append (by rw[zG,zG];lia),List.foldl_append];rfl
theorem D9 (g:Int)(us vs:LI):XN g (us.take (min us.length vs.length)) (vs.take (min us.length vs.length))=XN g us vs:=by
 unfold XN;congr 1;show List.zipWith Prod.mk _ _=List.zipWith Prod.mk _ _;rw[<- List.take_zipWith,yQ (by rw[List.length_zipWith];exact zC _)]
def Bd (B:Nat)(vs:LI):Prop:=∀p∈vs,Sz B p.1/\Sz B p.2
theorem EM (hg:1<=g)(h1:Bd A us)(h2:Bd B vs):∀k:Nat,k<=us.length->k<=vs.length->Sz (A+B+k+1) (XN g (us.take k) (vs.take k)).1/\Sz (A+B+k+1) (XN g (us.take k) (vs.take k)).2
 | 0,_,_=>⟨yE (by decide),yE (by decide)⟩
 | k+1,l1,l2=>by
  have hu:=zD (show k<us.length by lia)
  have hv:=zD (show k<vs.length by lia);rw[EG g us vs k hu hv];have ih:=EM hg h1 h2 k (by lia) (by lia)
  have a:=h1 _ (zE hu)
  have b:=h2 _ (zE hv)
  have m:=N5 hg a.1 a.2 b.1 b.2;exact⟨(ih.1.add m.1).mono (by lia),(ih.2.add m.2).mono (by lia)⟩
theorem zeQ (hg:1<=g)(h1:Bd A us)(h2:Bd B vs)(l:us.length<=60):Sz (A+B+61) (XN g us vs).1/\Sz (A+B+61) (XN g us vs).2:=by
 rw[<- D9];have z:=EM hg h1 h2 (min us.length vs.length) (by lia) (by lia);exact⟨z.1.mono (by lia),z.2.mono (by lia)⟩
theorem zed {is:List Nat}{ta:TDA}{tb:TDS}{E:X9}{dl:Ev}{S:Sto}{n n':Nat}{xs ys:List D}(W:Nat->Ev->Prop)(hta:∀K:List D->Sto->Prop,K [.ref n,.ref n'] S->ta dl S K)(h1:S[n]?=some (.lst xs))(h2:S[n']?=some (.lst ys))(h0:W 0 dl)
  (hb:∀(k:Nat)(x y:D)(dl':Ev)(nx ct:Ev->Sto->Prop),xs[k]?=some x->ys[k]?=some y->W k dl'->(∀dl2,W (k+1) dl2->nx dl2 S)->tb { nx:=nx,rt:=E.rt,bk:=E.nx,ct:=ct } (V9 is [x,y] dl') S)(he:∀dl',W (min xs.length ys.length) dl'->E.nx dl' S):NO is ta tb E dl S:=by
 unfold NO;refine hta _ ⟨⟨by rw[ZV h1 rfl];rfl,by rw[ZV h2 rfl];rfl⟩,λk m dl' S'=>S'=S/\W k dl'/\k+m=min xs.length ys.length,⟨min xs.length ys.length,rfl,h0,by simp⟩,?_⟩;rintro k m dl' S' ⟨rfl,w,hk⟩;simp only[ZV h1 rfl,ZV h2 rfl,Zo];split
 .rename_i x y e1 e2;have l1:=(zB.mp e1).1
  have l2:=(zB.mp e2).1;exact hb k x y dl' _ _ e1 e2 w (λdl2 w2=>⟨m-1,by lia,rfl,w2,by lia⟩)
 .rename_i no;have ek:k=min xs.length ys.length:=by
   by_cases l:k<min xs.length ys.length
   .exact absurd (zD (l:=ys) (i:=k) (by lia)) (no _ _ (zD (l:=xs) (i:=k) (by lia)))
   .lia
  exact⟨ek,he _ (ek ▸ w)⟩
theorem Cf {B:Nat}{p:Int×Int}(h1:Sz B p.1)(h2:Sz B p.2):Sz (B+1) (mid p):=(h1.add h2).div (by decide) |>.mono (by lia)
theorem zfs (hp:Sz B p.1/\Sz B p.2)(hq:Sz C q.1/\Sz C q.2):Sz (max B C+1) (JH p q).1/\Sz (max B C+1) (JH p q).2:=⟨hp.1.sub hq.2,hp.2.sub hq.1⟩
theorem zfT {p:Int×Int}(h:p.1<=p.2):p.1<=mid p/\mid p<=p.2:=by unfold mid;lia
theorem Fs {B:Nat}{bs:LI}(h:Spn B bs):Spn B (bs.map XJ):=λp hp=>by
 obtain⟨x,hx,rfl⟩:=zN.mp hp;obtain⟨a,b,c⟩:=h x hx;have z:=zfT a
 have s:Sz B (mid x):=by
  unfold Sz at *
  lia
 exact⟨zS _,s,s⟩
def hs:Nat->Int->Int->Int
 | 0,_,_=>0
 | k+1,x,y=>x*hs k x y+y^k
def In (p:Int×Int)(x:Rat):Prop:=(p.1:Rat)<=x/\x<=(p.2:Rat)
theorem zfo {ns:List Nd}{ws:List Nat}{bs:LI}{g:Int}{is:List Nat}(net:ZJ bs.length ns ws)(sb:Spn 51 bs)(hg:1<=g/\g<=1000000)(hi:∀i∈is,i<ns.length):∀r∈(is.map λ(i:Nat)=>(Yj (Zt bs g ns) g bs.length ns).getD i []),r.length=bs.length/\Bd 1023 r:=λr hr=>by
 have szw:=DT net rfl sb hg
 have slw:SlW bs.length ws (Yj (Zt bs g ns) g bs.length ns):=by
  have z:=Aq net szw (YI _ _ _) hg ns.length (zC _)
  rwa [yG] at z
 obtain⟨i,him,rfl⟩:=zN.mp hr;have hin:=hi i him
 have hl:i<(Yj (Zt bs g ns) g bs.length ns).length:=by rw[ND];exact hin
 have e:(Yj (Zt bs g ns) g bs.length ns).getD i []=(Yj (Zt bs g ns) g bs.length ns)[i]:=by simp[hl]
 obtain⟨z1,z2⟩:=slw i _ (zD hl);rw[e];have w:=(net.w1 (i:=(i:Int)) ⟨by lia,by lia⟩).2;rw[zK] at w;exact⟨z1,λp hp=>⟨(z2 p hp).2.1.mono (by lia),(z2 p hp).2.2.mono (by lia)⟩⟩
def sgn (i:Int)(k:Nat):Int:=if k%2=1 then -i else i
inductive Rows (S:Sto)(b:Nat):List D->List (List Int)->Prop
 | nil:Rows S b [] []
 | cons {a:Nat} {r:List Int} {ds:List D} {M:List (List Int)}:b<=a->S[a]?=some (.lst (r.map D.int))->Rows S b ds M->Rows S b (.ref a::ds) (r::M)
theorem Al {B:Nat}:∀ {l:List Int},(∀x∈l,x.natAbs<=B)->l.sum.natAbs<=l.length*B
 | [],_=>by simp
 | x::l,h=>by
  have h1:=h x (by simp)
  have h2:=Al (l:=l) λy hy=>h y (by simp[hy])
  rw[List.sum_cons,zU,Nat.succ_mul];lia
theorem zgR {k:Nat}{l:List Int}(h:∀x∈l,Sz k x)(hl:l.length<=4):Sz (k+2) l.sum:=by
 have hp:0<2^k:=Nat.two_pow_pos k
 have h1:=Al (B:=2^k-1) (l:=l) λx hx=>by have:=h x hx;unfold Sz at this;lia
 have h2:l.length*(2^k-1)<=4*(2^k-1):=Nat.mul_le_mul_right _ hl;unfold Sz;rw[Nat.pow_add];lia
theorem zc8 {k n:Nat}{i:Int}(h:Sz k i):Sz k (sgn i n):=by
 unfold sgn;split
 .exact h.neg
 .exact h
theorem JE (h:S[n]?=some o)(hb:YR (Zo o)=some ns)(hq:Q (.int ns.sum) S):irr OT [.ref n] S Q:=by
 rw[V3];unfold OT;simp only[ZV h (Ap hb),hb];exact hq
theorem Nv (l:List Int):YR (l.map D.int)=some l:=by
 induction l with
 | nil=>rfl
 | cons x l ih=>simp only[yJ,YR,ih,Option.map_some]
inductive Ords (S:Sto)(b:Nat):List D->List (List Int×Int)->Prop
 | nil:Ords S b [] []
 | cons {a:Nat} {o:List Int×Int} {ds:List D} {os:List (List Int×Int)}:b<=a->S[a]?=some (.lst (o.1.map D.int))->Ords S b ds os->Ords S b (.tup [.ref a,.int o.2]::ds) (o::os)
def Fit (n:Nat)(o:List Int×Int):Prop:=o.1.length=n/\(∀x∈o.1,0<=x/\x<n)/\(o.2=1\/o.2=-1)
instance (n:Nat) (o:List Int×Int):Decidable (Fit n o):=by unfold Fit;infer_instance
theorem EL {xs:List D}{i:Nat}:Z7 xs none (some (i:Int))=xs.take i:=by
 unfold L3.Z7;rw[HT.sIx_none,HT.sIx_nat,List.drop_zero,Nat.sub_zero];rw[List.take_eq_take_iff];lia
theorem Ck {xs:List D}{i:Nat}:Z7 xs (some (i:Int)) none=xs.drop i:=by
 unfold L3.Z7;rw[HT.sIx_none,HT.sIx_nat];rcases Nat.le_total i xs.length with h|h
 .rw[Nat.min_eq_left h];exact yQ (by rw[List.length_drop];exact zC _)
 .rw[Nat.min_eq_right h,List.drop_of_length_le (zC _),List.drop_of_length_le h];simp
theorem AK {m a:Nat}{S:Sto}{ds:List D}{K:List D->Sto->Prop}(hm:S[m]?=some (.lst ds))(hd:ds[0]?=some (.ref a))(hK:K [.ref a] S):wIx (.ref m) (.int 0) S (λx S1=>K [x] S1):=by
 have z:=ZA (n:=m) (S:=S) (o:=.lst ds) (i:=0) (d:=.ref a) (Q:=λx S1=>K [x] S1) hm (Yx (j:=0) hd) hK;rw[X1] at z;exact z
theorem zeW (h:i∈eqs rows):(true,i)∈rows:=by
 obtain⟨⟨b,n⟩,hr,e⟩:=List.mem_filterMap.mp h;cases b
 .cases e
 .cases e;exact hr
theorem Fp (vs:LI):∀rows:List (Bool×Nat),YJ (((rows.map rwD)).filterMap (λd=>match d with|.tup [.str w,.int at']=>if w="least" then some (.bl (decide (0<=(gt vs at').1))) else none|_=>none))=some (rows.filterMap λr=>if r.1 then none else some (decide (0<=(gt vs (r.2:Int)).1)))
 | []=>rfl
 | (false,n)::rs=>by
  show (YJ ((rs.map rwD).filterMap _)).map _=_;rw[Fp vs rs];rfl
 | (true,n)::rs=>Fp vs rs
def BV (p q:Int×Int):Bool:=decide (q.1<p.1)&&decide (p.2<q.2)
theorem zhF (us vs:LI):YJ (List.zipWith (λx y=>match x,y with|.tup [.int a,.int b],.tup [.int c,.int d]=>.bl (decide (c<a)&&decide (b<d))|_,_=>.non) (us.map frD) (vs.map frD))=some (List.zipWith BV us vs):=by
 induction us generalizing vs with
 | nil=>rfl
 | cons u us ih=>
  cases vs with
  | nil=>rfl
  | cons v vs=>
   show (YJ (List.zipWith _ (us.map frD) (vs.map frD))).map _=_;rw[ih];rfl
theorem zdR (t w:Int)(hw:w≠0):(t.fdiv w).natAbs<=t.natAbs+1:=by
 rcases Int.lt_or_lt_of_ne hw with h|h
 .have e:t.fdiv w=(-t).fdiv (-w):=by rw[Int.neg_fdiv_neg]
  rw[e,Int.fdiv_eq_ediv_of_nonneg _ (by lia)];have:=Int.natAbs_ediv_le_natAbs (-t) (-w);lia
 .rw[Int.fdiv_eq_ediv_of_nonneg _ (by lia)];have:=Int.natAbs_ediv_le_natAbs t w;lia
theorem Cz {caps:List Nat}{ta:TDA}{tc:TDT}{te:TDE}{dl:Ev}{S S1:Sto}{Q:DK}{n:Nat}{xs:List D}(W:Nat->List D->Sto->Prop)(b:Nat->D->Bool)(hta:∀K:List D->Sto->Prop,K [.ref n] S1->ta dl S K)(h1:S1[n]?=some (.lst xs))(hw:∀k ys S2,W k ys S2->S2[n]?=some (.lst xs)/\S2[S1.length]?=some (.lst ys)/\ys.length<=k)(hl:xs.length<=900)(h0:W 0 [] (S1++[.lst []]))
  (hc:∀(k:Nat)(x:D)(ys:List D)(S2:Sto)(K:Bool->Sto->Prop),xs[k]?=some x->W k ys S2->K (b k x) S2->tc (some (.int (k:Int))::some x::Z8 caps dl) S2 K)
  (hno:∀(k:Nat)(x:D)(ys:List D)(S2:Sto),xs[k]?=some x->b k x=false->W k ys S2->W (k+1) ys S2)
  (ht:∀(k:Nat)(x:D)(ys:List D)(S2:Sto)(K:DK),xs[k]?=some x->b k x=true->W k ys S2->(∀y S3,S3[S1.length]?=some (.lst ys)->W (k+1) (ys++[y]) (S3.set S1.length (.lst (ys++[y])))->K y S3)->te (some (.int (k:Int))::some x::Z8 caps dl) S2 K)
  (hq:∀ys S2,W xs.length ys S2->Q (.ref S1.length) S2):Ut caps ta tc te dl S Q:=by
 unfold Ut;refine hta _ ⟨by rw[ZV h1 rfl];rfl,λk m S2=>(∃ys,W k ys S2)/\m+k=xs.length,⟨xs.length,⟨_,h0⟩,by lia⟩,?_⟩;rintro k m S2 ⟨⟨ys,w⟩,hm⟩;obtain⟨w1,w2,w3⟩:=hw _ _ _ w;rw[ZV w1 rfl];dsimp only[Zo];split
 .rename_i x hx;have hk:k<xs.length:=(zB.mp hx).1;unfold D3;refine hc k x ys S2 _ hx w ?_;cases e:b k x with
  | false=>
   rw[if_neg (zJ)];exact⟨m-1,by lia,⟨_,hno k x ys S2 hx e w⟩,by lia⟩
  | true=>
   rw[if_pos rfl];refine ht k x ys S2 _ hx e w λy S3 e3 w4=>?_
   rw[e3];exact⟨by lia,m-1,by lia,⟨_,w4⟩,by lia⟩
 .rename_i hx;have hk:k=xs.length:=by
   have:=yP.mp hx;lia
  exact⟨hk,hq ys S2 (hk ▸ w)⟩
theorem QN {xs:List D}{k:Nat}{d:D}{S:Sto}{Q:DK}(h:xs[k]?=some d)(hq:Q d S):Y5 wIx (.tup xs) (.int (k:Int)) S Q:=by
 rw[X1];show (match atI xs (k:Int) with|some d=>Q d S|none=>False);rw[Yx h];exact hq
inductive Ft where
 | wait|small|one
 | cut (k:Nat) (p:Int) (a b:Nat)
 | out (r:Nat) (vs:LI)
 | full (vs:LI)
def W8 (a b:Nat)(S:Sto)(m:Nat)(vs:LI):Prop:=m≠a/\m≠b/\S[m]?=some (.lst (vs.map frD))
def VW (a b:Nat)(S:Sto)(d:D):Ft->Prop
 | .wait=>d=.non
 | .small=>d=.tup [.str "small"]
 | .one=>∃d1 d2 d3 d4 d5,d=.tup [.str "one",d1,d2,d3,d4,d5]
 | .cut k p x y=>d=.tup [.str "cut",.int k,.int p,.int x,.int y]
 | .out r vs=>∃m,d=.tup [.str "out",.int r,.ref m]/\W8 a b S m vs
 | .full vs=>∃m,d=.tup [.str "full",.ref m]/\W8 a b S m vs
def Cg (a b:Nat)(S T:Sto):Prop:=S.length<=T.length/\∀(x:Nat)(o:Ob),x≠a->x≠b->S[x]?=some o->T[x]?=some o
theorem Cg.refl:Cg a b S S:=⟨zC _,λ_ _ _ _ e=>e⟩
theorem Cg.trans {a b:Nat}{S T U:Sto}(h:Cg a b S T)(k:Cg a b T U):Cg a b S U:=⟨yD h.1 k.1,λx o na nb e=>k.2 x o na nb (h.2 x o na nb e)⟩
theorem Cg.pre {a b:Nat}{S T:Sto}(h:Pre S T):Cg a b S T:=⟨Xj h,λx o _ _ e=>h x o e⟩
theorem Cg.seta (u:Ob):Cg a b S (S.set a u):=⟨by rw[yC];exact zC _,λx o na _ e=>Z6 e (Ne.symm na)⟩
theorem Cg.setb (u:Ob):Cg a b S (S.set b u):=⟨by rw[yC];exact zC _,λx o _ nb e=>Z6 e (Ne.symm nb)⟩
theorem W8.cg (h:W8 a b S m vs)(c:Cg a b S T):W8 a b T m vs:=⟨h.1,h.2.1,c.2 _ _ h.1 h.2.1 h.2.2⟩
theorem VW.cg (h:VW a b S d f)(c:Cg a b S T):VW a b T d f:=by
 cases f with
 | out r vs=>obtain⟨m,e,o⟩:=h;exact⟨m,e,o.cg c⟩
 | full vs=>obtain⟨m,e,o⟩:=h;exact⟨m,e,o.cg c⟩
 | wait=>exact h
 | small=>exact h
 | one=>exact h
 | cut k p x y=>exact h
structure Bk (C:Addr)(S:Sto)(n a b:Nat)(es:List LI)(fs:List Ft):Prop where
 ins:S[n]?=some (.ins C [("boxes",.ref a),("fates",.ref b)])
 bx:∃bs:List D,S[a]?=some (.lst bs)/\bs.length=es.length/\∀(i:Nat)(e:LI),es[i]?=some e->∃m,bs[i]?=some (.ref m)/\W8 a b S m e
 ft:∃ds:List D,S[b]?=some (.lst ds)/\ds.length=fs.length/\∀(i:Nat)(f:Ft),fs[i]?=some f->∃d,ds[i]?=some d/\VW a b S d f
 ne:a≠b
 len:es.length=fs.length
theorem Bk.na (h:Bk C S n a b es fs):n≠a/\n≠b:=by
 obtain⟨bs,h1,_⟩:=h.bx;obtain⟨ds,h2,_⟩:=h.ft;refine⟨λe=>?_,λe=>?_⟩
 .have:=h.ins;rw[e,h1] at this;cases this
 .have:=h.ins;rw[e,h2] at this;cases this
theorem Bk.pre {C:Addr}{S T:Sto}{n a b:Nat}{es:List LI}{fs:List Ft}(h:Bk C S n a b es fs)(p:Pre S T):Bk C T n a b es fs:=by
 obtain⟨bs,h1,h2,h3⟩:=h.bx;obtain⟨ds,k1,k2,k3⟩:=h.ft;refine⟨p _ _ h.ins,⟨bs,p _ _ h1,h2,λi e he=>?_⟩,⟨ds,p _ _ k1,k2,λi f hf=>?_⟩,h.ne,h.len⟩
 .obtain⟨m,e1,e2⟩:=h3 i e he;exact⟨m,e1,e2.cg (.pre p)⟩
 .obtain⟨d,e1,e2⟩:=k3 i f hf;exact⟨d,e1,e2.cg (.pre p)⟩
theorem ON (h:(xs++[x])[i]?=some y):xs[i]?=some y\/(i=xs.length/\y=x):=by
 by_cases c:i<xs.length
 .rw[zI c] at h;exact .inl h
 .have l:=(zB.mp h).1;rw[zQ] at l;have e:i=xs.length:=by simp at l;lia
  subst e;simp at h;exact .inr ⟨rfl,h.symm⟩
theorem Bk.put {C:Addr}{S:Sto}{n a b m:Nat}{es:List LI}{fs:List Ft}{e:LI}{bs ds:List D}(h:Bk C S n a b es fs)(o:W8 a b S m e)(h1:S[a]?=some (.lst bs))(k1:S[b]?=some (.lst ds)):
  Bk C ((S.set a (.lst (bs++[.ref m]))).set b (.lst (ds++[.non]))) n a b (es++[e]) (fs++[.wait])/\Cg a b S ((S.set a (.lst (bs++[.ref m]))).set b (.lst (ds++[.non]))):=by
 have cg:Cg a b S ((S.set a (.lst (bs++[.ref m]))).set b (.lst (ds++[.non]))):=(Cg.seta _).trans (Cg.setb _);obtain⟨bs',h1',h2,h3⟩:=h.bx;rw[h1] at h1';cases h1'
 obtain⟨ds',k1',k2,k3⟩:=h.ft;rw[k1] at k1';cases k1'
 refine⟨⟨cg.2 _ _ h.na.1 h.na.2 h.ins,⟨_,Z6 (Ys h1) (Ne.symm h.ne),by simp[h2],λi x hx=>?_⟩,⟨_,Ys (Z6 k1 h.ne),by simp[k2],λi f hf=>?_⟩,h.ne,by simp[h.len]⟩,cg⟩
 .rcases ON hx with z|⟨rfl,rfl⟩
  .obtain⟨q,q1,q2⟩:=h3 i x z;exact⟨q,by rw[zI (zB.mp q1).1];exact q1,q2.cg cg⟩
  .exact⟨m,by rw[<- h2];simp,o.cg cg⟩
 .rcases ON hf with z|⟨rfl,rfl⟩
  .obtain⟨q,q1,q2⟩:=k3 i f z;exact⟨q,by rw[zI (zB.mp q1).1];exact q1,q2.cg cg⟩
  .exact⟨.non,by rw[<- k2];simp,rfl⟩
theorem Bk.fate (h:Bk C S n a b es fs)(o:VW a b S d f)(k1:S[b]?=some (.lst ds)):
  Bk C (S.set b (.lst (ds.set i d))) n a b es (fs.set i f)/\Cg a b S (S.set b (.lst (ds.set i d))):=by
 have cg:Cg a b S (S.set b (.lst (ds.set i d))):=Cg.setb _;obtain⟨bs,h1,h2,h3⟩:=h.bx;obtain⟨ds',k1',k2,k3⟩:=h.ft;rw[k1] at k1';cases k1'
 refine⟨⟨cg.2 _ _ h.na.1 h.na.2 h.ins,⟨bs,Z6 h1 (Ne.symm h.ne),h2,λj x hx=>?_⟩,⟨_,Ys k1,by simp[k2],λj x hx=>?_⟩,h.ne,by simp[h.len]⟩,cg⟩
 .obtain⟨q,q1,q2⟩:=h3 j x hx;exact⟨q,q1,q2.cg cg⟩
 .by_cases c:i=j
  .subst c;have l:i<fs.length:=by
    have:=(zB.mp hx).1
    rwa [yC] at this
   rw[yI l] at hx;cases hx;exact⟨d,by rw[yI (by lia)],o.cg cg⟩
  .rw[zW c] at hx;obtain⟨q,q1,q2⟩:=k3 j x hx;exact⟨q,by rw[zW c];exact q1,q2.cg cg⟩
theorem Bk.box {C:Addr}{S:Sto}{n a b i:Nat}{es:List LI}{fs:List Ft}{e:LI}(h:Bk C S n a b es fs)(he:es[i]?=some e):∃(bs:List D)(m:Nat),S[a]?=some (.lst bs)/\bs[i]?=some (.ref m)/\W8 a b S m e:=by
 obtain⟨bs,h1,h2,h3⟩:=h.bx;obtain⟨m,q1,q2⟩:=h3 i e he;exact⟨bs,m,h1,q1,q2⟩
def wd (p:Int×Int):Int:=p.2-p.1
def Wst (bs:LI)(m:Int):Prop:=(∀p∈bs,wd p<=m)/\(bs=[]/\m=0\/∃p∈bs,m=wd p)
def suB (zero:Bool)(s:Int×Int):Bool:=if zero then decide (s.1=0)&&decide (s.2=0) else decide (0<=s.1)
def suS (ns:List Nd)(rows:List (Bool×Nat))(e:LI)(g:Int):Bool:=rows.all λr=>suB r.1 (gt (Zt e g ns) (r.2:Int))
def FOk (g fine:Int)(ns:List Nd)(rows:List (Bool×Nat))(e:LI):Ft->Prop
 | .out r vs=>∃row,rows[r]?=some row/\vs=Zt e g (ns.take (row.2+1))/\ibS ns row.1 row.2 e g=true
 | .full vs=>vs=Zt e g ns/\(∀row∈rows,ibS ns row.1 row.2 e g=false)/\suS ns rows e g=true
 | .one=>True
 | .small=>(∀p∈e,wd p<=fine)/\(∀row∈rows,ibS ns row.1 row.2 e g=false)/\suS ns rows e g=false
 | _=>False
inductive Bks (g fine:Int)(ns:List Nd)(rows:List (Bool×Nat))(b0:LI):List LI->List Ft->Prop
 | new:Bks g fine ns rows b0 [b0] [.wait]
 | cut {es:List LI} {fs:List Ft} {i k:Nat} {e:LI} {s:Int×Int} {p:Int}:Bks g fine ns rows b0 es fs->fs[i]?=some .wait->es[i]?=some e->e[k]?=some s->s.1<p->p<s.2->
   Bks g fine ns rows b0 (es++[e.set k (s.1,p)]++[e.set k (p,s.2)]) ((fs++[Ft.wait]++[Ft.wait]).set i (.cut k p es.length (es.length+1)))
 | put {es:List LI} {fs:List Ft} {i:Nat} {e:LI} {f:Ft}:Bks g fine ns rows b0 es fs->fs[i]?=some .wait->es[i]?=some e->FOk g fine ns rows e f->Bks g fine ns rows b0 es (fs.set i f)
theorem DQ (h:Spn n e)(hp:p.1<=p.2/\Sz n p.1/\Sz n p.2):Spn n (e.set k p):=λq hq=>by
 rcases List.mem_or_eq_of_mem_set hq with z|rfl
 .exact h q z
 .exact hp
theorem Bks.ok (sb:Spn 51 b0)(h:Bks g fine ns rows b0 es fs):es.length=fs.length/\∀e∈es,e.length=b0.length/\Spn 51 e:=by
 induction h with
 | new=>exact⟨rfl,λe he=>by cases zT.mp he;exact⟨rfl,sb⟩⟩
 | @cut es fs i k e s p _ hw he hs h1 h2 ih=>
  obtain⟨l,a⟩:=ih;obtain⟨le,se⟩:=a e (zE he);have ss:=se s (zE hs)
  have zp:Sz 51 p:=Sz.mid ss.2.1 ss.2.2 (by lia) (by lia);refine⟨by simp[l],λx hx=>?_⟩;rcases zY.mp hx with hx|hx
  .rcases zY.mp hx with hx|hx
   .exact a x hx
   .cases zT.mp hx;exact⟨by rw[yC];exact le,DQ se ⟨by show s.1<=p;lia,ss.2.1,zp⟩⟩
  .cases zT.mp hx;exact⟨by rw[yC];exact le,DQ se ⟨by show p<=s.2;lia,zp,ss.2.2⟩⟩
 | put _ _ _ _ ih=>exact⟨by rw[yC];exact ih.1,ih.2⟩
theorem Bks.shave {g fine:Int}{ns:List Nd}{rows:List (Bool×Nat)}{b0 e:LI}{es:List LI}{fs:List Ft}{j r:Nat}{row:Bool×Nat}{c:Ct}(h:Bks g fine ns rows b0 es fs)(l:es.length=fs.length)(hw:fs[j]?=some .wait)(he:es[j]?=some e)(hk:c.k<e.length)(hs:isS ns row.1 row.2 g e c=true)(hr:rows[r]?=some row):
  e[c.k]?=some (gt e (c.k:Int))/\
  (es++[e.set c.k ((gt e (c.k:Int)).1,c.p)]++[e.set c.k (c.p,(gt e (c.k:Int)).2)])[es.length+(if c.s then 1 else 0)]?=some (e.set c.k (c.off (gt e (c.k:Int))))/\
  ((fs++[Ft.wait]++[Ft.wait]).set j (.cut c.k c.p es.length (es.length+1)))[es.length+(if c.s then 1 else 0)]?=some .wait/\
  Bks g fine ns rows b0 (es++[e.set c.k ((gt e (c.k:Int)).1,c.p)]++[e.set c.k (c.p,(gt e (c.k:Int)).2)]) (((fs++[Ft.wait]++[Ft.wait]).set j (.cut c.k c.p es.length (es.length+1))).set (es.length+(if c.s then 1 else 0)) (.out r (Zt (e.set c.k (c.off (gt e (c.k:Int)))) g (ns.take (row.2+1)))))/\
  (es++[e.set c.k ((gt e (c.k:Int)).1,c.p)]++[e.set c.k (c.p,(gt e (c.k:Int)).2)])[es.length+(if c.s then 0 else 1)]?=some (ctP e c)/\
  (((fs++[Ft.wait]++[Ft.wait]).set j (.cut c.k c.p es.length (es.length+1))).set (es.length+(if c.s then 1 else 0)) (.out r (Zt (e.set c.k (c.off (gt e (c.k:Int)))) g (ns.take (row.2+1)))))[es.length+(if c.s then 0 else 1)]?=some .wait:=by
 have hek:e[c.k]?=some (gt e (c.k:Int)):=by
  have z:=zD hk;rw[z,gt_at z]
 obtain⟨h1,h2⟩:=El hs;have B:=h.cut hw he hek h1 h2
 have ib:ibS ns row.1 row.2 (e.set c.k (c.off (gt e (c.k:Int)))) g=true:=by
  unfold isS at hs;rw[Bool.and_eq_true] at hs;exact hs.2
 have lj:=(zB.mp hw).1;obtain⟨ck,cp,cs⟩:=c;cases cs with
 | true=>
  have e1:(es++[e.set ck ((gt e (ck:Int)).1,cp)]++[e.set ck (cp,(gt e (ck:Int)).2)])[es.length+1]?=some (e.set ck (cp,(gt e (ck:Int)).2)):=by simp
  have e2:(es++[e.set ck ((gt e (ck:Int)).1,cp)]++[e.set ck (cp,(gt e (ck:Int)).2)])[es.length]?=some (e.set ck ((gt e (ck:Int)).1,cp)):=by simp
  have f1:((fs++[Ft.wait]++[Ft.wait]).set j (.cut ck cp es.length (es.length+1)))[es.length+1]?=some .wait:=by
   rw[zW (by lia),l];simp
  have f2:((fs++[Ft.wait]++[Ft.wait]).set j (.cut ck cp es.length (es.length+1)))[es.length]?=some .wait:=by
   rw[zW (by lia),l];simp
  refine⟨hek,e1,f1,B.put f1 e1 ⟨row,hr,rfl,ib⟩,e2,?_⟩;rw[if_pos rfl,if_pos rfl,zW (by lia)];exact f2
 | false=>
  have e1:(es++[e.set ck ((gt e (ck:Int)).1,cp)]++[e.set ck (cp,(gt e (ck:Int)).2)])[es.length+1]?=some (e.set ck (cp,(gt e (ck:Int)).2)):=by simp
  have e2:(es++[e.set ck ((gt e (ck:Int)).1,cp)]++[e.set ck (cp,(gt e (ck:Int)).2)])[es.length]?=some (e.set ck ((gt e (ck:Int)).1,cp)):=by simp
  have f1:((fs++[Ft.wait]++[Ft.wait]).set j (.cut ck cp es.length (es.length+1)))[es.length+1]?=some .wait:=by
   rw[zW (by lia),l];simp
  have f2:((fs++[Ft.wait]++[Ft.wait]).set j (.cut ck cp es.length (es.length+1)))[es.length]?=some .wait:=by
   rw[zW (by lia),l];simp
  refine⟨hek,e2,f2,B.put f2 e2 ⟨row,hr,rfl,ib⟩,e1,?_⟩;rw[if_neg zJ,if_neg zJ,zW (by lia)];exact f1
structure Sr (S:Sto)(nd rw:Nat)(g:Int)(ns:List Nd)(ws:List Nat)(rows:List (Bool×Nat))(u:Nat):Prop where
 nd:S[nd]?=some (.lst (ns.map Nd.d))
 rw:S[rw]?=some (.lst (rows.map rwD))
 net:ZJ u ns ws
 hg:1<=g/\g<=1000000
 l70:ns.length<=70
 rl:rows.length<=4
 ri:∀r∈rows,r.2<ns.length
 u1:1<=u/\u<=4
theorem Sr.pre {S T:Sto}{nd rw u:Nat}{g:Int}{ns:List Nd}{ws:List Nat}{rows:List (Bool×Nat)}(h:Sr S nd rw g ns ws rows u)(p:Pre S T):Sr T nd rw g ns ws rows u:=⟨p _ _ h.nd,p _ _ h.rw,h.net,h.hg,h.l70,h.rl,h.ri,h.u1⟩
def Apt (nd rw a b:Nat):Prop:=(nd≠a/\nd≠b)/\rw≠a/\rw≠b
theorem Sr.cg {S T:Sto}{nd rw u a b:Nat}{g:Int}{ns:List Nd}{ws:List Nat}{rows:List (Bool×Nat)}(h:Sr S nd rw g ns ws rows u)(p:Apt nd rw a b)(c:Cg a b S T):Sr T nd rw g ns ws rows u:=⟨c.2 _ _ p.1.1 p.1.2 h.nd,c.2 _ _ p.2.1 p.2.2 h.rw,h.net,h.hg,h.l70,h.rl,h.ri,h.u1⟩
theorem rww (b:Bool):rwW b (if b then "zero" else "least"):=by
 cases b
 .exact .inr ⟨rfl,rfl⟩
 .exact .inl ⟨rfl,rfl⟩
theorem zhd {bs:LI}{cs:List Ct}{i:Nat}{c:Ct}(h:cs[i]?=some c):ctA bs (cs.take (i+1))=ctP (ctA bs (cs.take i)) c:=by
 rw[Y4 h,E6]
def Shd (es:List LI)(j:Nat)(es':List LI)(j':Nat):Prop:=es.length<=es'.length/\(es'.length=es.length->es'=es/\j'=j)
def FoAt (S:Sto)(d:D):Ft->Prop
 | .wait=>d=.tup [.str "waits"]
 | f=>∃a b,VW a b S d f
def En (T:Sto)(ds:List D)(es:List LI)(fs:List Ft):Prop:=ds.length=es.length/\es.length=fs.length/\∀(i:Nat)(e:LI)(f:Ft),es[i]?=some e->fs[i]?=some f->∃(m:Nat)(d:D),ds[i]?=some (.tup [.ref m,d])/\T[m]?=some (.lst (e.map frD))/\FoAt T d f
def waD:D->D
 | .non=>.tup [.str "waits"]
 | d=>d
def Bu (x y:D):D:=.tup [x,waD y]
theorem Bk.told (h:Bk C S n a b es fs)(h1:S[a]?=some (.lst bs))(k1:S[b]?=some (.lst ds))(U:Sto):En (S++U) (List.zipWith Bu bs ds) es fs:=by
 obtain⟨bs',h1',h2,h3⟩:=h.bx;rw[h1] at h1';cases h1'
 obtain⟨ds',k1',k2,k3⟩:=h.ft;rw[k1] at k1';cases k1'
 have ll:=h.len;refine⟨by rw[List.length_zipWith];lia,h.len,λi e f he hf=>?_⟩;obtain⟨m,m1,m2⟩:=h3 i e he;obtain⟨d,d1,d2⟩:=k3 i f hf;refine⟨m,waD d,by rw[List.getElem?_zipWith,m1,d1];rfl,Zv m2.2.2,?_⟩;have d3:=d2.cg (T:=S++U) (.pre λx o e=>Zv e);cases f with
 | wait=>cases d2;rfl
 | small=>cases d2;exact⟨a,b,d3⟩
 | one=>obtain⟨_,_,_,_,_,rfl⟩:=d2;exact⟨a,b,d3⟩
 | cut _ _ _ _=>cases d2;exact⟨a,b,d3⟩
 | out _ _=>obtain⟨_,rfl,_⟩:=d2;exact⟨a,b,d3⟩
 | full _=>obtain⟨_,rfl,_⟩:=d2;exact⟨a,b,d3⟩
theorem CL (k:Nat)(v:Int):∀zs:List Int,∃o,XB (eqN k) (zs.map D.int) (.int v)=some o
 | []=>⟨none,rfl⟩
 | z::zs=>by
  obtain⟨o,ho⟩:=CL k v zs;have e:eqN k (.int z) (.int v)=some (decide (z=v)):=by cases k<;>rfl
  rw[yJ];unfold XB;rw[e,ho];cases decide (z=v)
  .exact⟨_,rfl⟩
  .exact⟨_,rfl⟩
theorem Aw {k:Nat}{v:Int}:∀ {zs:List Int},v∈zs->∃j,XB (eqN k) (zs.map D.int) (.int v)=some (some j)/\zs[j]?=some v
 | z::zs,h=>by
  obtain⟨o,ho⟩:=CL k v zs;have e:eqN k (.int z) (.int v)=some (decide (z=v)):=by cases k<;>rfl
  rw[yJ];unfold XB;rw[e];by_cases c:z=v
  .subst c;rw[decide_eq_true rfl,ho];exact⟨0,rfl,rfl⟩
  .have hm:v∈zs:=by
    rcases zO.mp h with q|q
    .exact absurd q.symm c
    .exact q
   obtain⟨j,h1,h2⟩:=Aw (k:=k) hm;rw[decide_eq_false c,h1];exact⟨j+1,rfl,h2⟩
theorem zdJ {k:Nat}{to:TDE}{t:TDA}{dl:Ev}{S S1:Sto}{Q:DK}{n:Nat}{zs:List Int}(R:Int->Sto->Prop)(hto:∀K:DK,K (.ref n) S1->to dl S K)(ht:∀K:List D->Sto->Prop,(∀v S2,R v S2->K [.int v] S2)->t dl S1 K)(h1:S1[n]?=some (.lst (zs.map D.int)))(hR:∀v S2,R v S2->S2[n]?=some (.lst (zs.map D.int))/\v∈zs)(hq:∀v S2 (j:Nat),R v S2->zs[j]?=some v->Q (.int (j:Int)) S2):TC k to t dl S Q:=by
 unfold TC;refine hto _ ⟨by rw[ZV h1 rfl];rfl,ht _ λv S2 r=>?_⟩;obtain⟨h2,hv⟩:=hR v S2 r;unfold RK;dsimp only;rw[ZV h2 rfl];dsimp only[Zo];obtain⟨j,e1,e2⟩:=Aw (k:=k) hv;rw[e1];exact hq v S2 j r e2
theorem zch {e:LI}{g:Int}{ns:List Nd}{k:Nat}(hk:k<ns.length):gt (Zt e g (ns.take (k+1))) (k:Int)=gt (Zt e g ns) (k:Int):=by
 rw[<- Ai e g ns (k+1) (by lia),Hg ⟨by lia,by lia⟩]
theorem Cm (ns:List Nd)(e:LI)(g:Int):∀rows:List (Bool×Nat),YJ ((rows.map rwD).map (λd=>match d with|.tup [.str w,.int at']=>.bl (suB (decide (w="zero")) (gt (Zt e g ns) at'))|_=>.non))=some (rows.map λr=>suB r.1 (gt (Zt e g ns) (r.2:Int)))
 | []=>rfl
 | (b,n)::rs=>by
  show (YJ ((rs.map rwD).map _)).map _=_;rw[Cm ns e g rs];cases b<;>rfl
theorem zak (ns:List Nd)(e:LI)(g:Int):∀rows:List (Bool×Nat),((rows.map λr=>suB r.1 (gt (Zt e g ns) (r.2:Int))).all id)=suS ns rows e g:=λrows=>by
 unfold suS;rw[List.all_map];rfl
def Vm (bs:LI):Int:=(bs.map wd).sum
theorem NG:∀ {bs:LI},Spn 51 bs->0<=Vm bs/\Vm bs<=bs.length*2^52/\∀p∈bs,wd p<=Vm bs
 | [],_=>⟨zS 0,by decide,λp hp=>(nomatch hp)⟩
 | p::bs,h=>by
  obtain⟨h1,h2,h3⟩:=NG (bs:=bs) λq hq=>h q (yH _ hq)
  obtain⟨a,b,c⟩:=h p (yR ..);have e:Vm (p::bs)=wd p+Vm bs:=rfl;unfold Sz at b c;have w0:0<=wd p:=by unfold wd;lia
  have w1:wd p<=2^52:=by unfold wd;lia
  rw[e];refine⟨by lia,by rw[zU];lia,λq hq=>?_⟩;rcases zO.mp hq with rfl|z
  .lia
  .have:=h3 q z;lia
theorem zbE {tl td:TDE}{dl:Ev}{S S1 S2:Sto}{Q:DK}{n:Nat}{zs:List Int}{e:D}(htl:∀K:DK,K (.ref n) S1->tl dl S K)(htd:∀K:DK,K e S2->td dl S1 K)(h:S2[n]?=some (.lst (zs.map D.int)))(h0:zs=[]->Q e S2)(hq:∀m,m∈zs->(∀y∈zs,y<=m)->Q (.int m) S2):La tl td dl S Q:=by
 unfold La;refine htl _ (htd _ ?_);unfold UX;dsimp only;rw[ZV h rfl];exact⟨zs,Nv zs,h0,hq⟩
theorem zer {caps:List Nat}{P:Addr}{lp:Pos}{q:Str}{tl te:TDE}{dl:Ev}{S S1:Sto}{Q:DK}{n t:Nat}{xs:List D}(htl:∀K:DK,K (.ref n) S1->tl dl S K)(ht:S1[t]?=some (.cod P lp q))(h:S1[n]?=some (.lst xs))(h0:xs=[]->Q .non S1)
  (hk:∀(v:D)(S2:Sto)(K:DK),v∈xs->Pre S1 S2->(∀(k:Int)(S3:Sto),Pre S2 S3->K (.int k) S3)->te (some v::Z8 caps dl) S2 K)(hq:∀(v:D)(S2:Sto),v∈xs->Pre S1 S2->Q v S2):OJ caps P lp q tl te dl S Q:=by
 unfold OJ;refine htl _ ?_;unfold Q4;refine⟨⟨t,ht⟩,?_⟩;rw[ZV h rfl];dsimp only[Zo];exact⟨h0,λi v S2 hv p=>hk v S2 _ (zE hv) p λk S3 p3=>⟨⟨k,rfl⟩,λx o e=>p3 _ _ (p _ _ e)⟩,λi v S2 hv p=>hq v S2 (zE hv) p⟩
theorem To {xs:List D}{i:Int}(k:Nat){d:D}{S:Sto}{Q:DK}(hi:i=(k:Int))(h:xs[k]?=some d)(hq:Q d S):Y5 wIx (.tup xs) (.int i) S Q:=by
 subst hi;exact QN h hq
theorem EB (h:S[n]?=some (.frz xs))(hq:Q (.int (xs.length:Nat)) S):irr S5 [.ref n] S Q:=by
 rw[V3];unfold S5;simp only[ZV h rfl];exact hq
theorem zcO {ns:List Int}{k:Int}(h0:0<=k)(h1:k<(ns.length:Int)):atI (ns.map D.int) k=some (.int (ns.getD k.toNat 0)):=by
 have hk:k.toNat<ns.length:=by lia
 have z:=Yx (xs:=ns.map D.int) (j:=k.toNat) (v:=.int (ns.getD k.toNat 0)) (by simp[hk]);rw[show ((k.toNat:Nat):Int)=k by lia] at z;exact z
theorem EW (t:Int):Int.gcd t 1=1:=by simp
theorem zgH (b k:Int):Int.gcd (b*k+1) b=1:=by
 have h:=Int.gcd_dvd_left (a:=b*k+1) (b:=b)
 have h2:=Int.gcd_dvd_right (a:=b*k+1) (b:=b)
 have h3:((Int.gcd (b*k+1) b:Nat):Int) ∣ 1:=by
  have z:=Int.dvd_sub h (Int.dvd_trans h2 (Int.dvd_mul_right b k))
  rwa [show b*k+1-b*k=1 by lia] at z
 have:=Int.eq_one_of_dvd_one (by lia) h3;lia
theorem zb0 (net:ZJ q ns ws)(hv:ns[k]?=some v):v.ok (ws.take k).length q/\v.wt (ws.take k)=ws.getD k 0/\(∀i:Int,inR (ws.take k).length i->(ws.take k).getD i.toNat 0<=16):=by
 obtain⟨ok,e,_,_⟩:=net.ok k v hv;have lk:=(zB.mp hv).1
 have ln:(ws.take k).length=k:=by rw[zG,net.len];lia
 have g:∀i:Int,inR (k:Nat) i->(ws.take k).getD i.toNat 0=ws.getD i.toNat 0:=λi hi=>by
  have h0:=hi.1
  have h1:=hi.2;rw[zX,zX,List.getElem?_take,if_pos (by lia)]
 rw[ln];refine⟨ok,?_,λi hi=>?_⟩
 .rw[e];cases v with
  | number t b=>rfl
  | unknown j=>rfl
  | plus i j=>simp only[Nd.wt];rw[g i ok.1,g j ok.2]
  | minus i j=>simp only[Nd.wt];rw[g i ok.1,g j ok.2]
  | times i j=>simp only[Nd.wt];rw[g i ok.1,g j ok.2]
  | power i n=>simp only[Nd.wt];rw[g i ok.1]
 .rw[g i hi];exact(net.w1 ⟨hi.1,by have:=hi.2;lia⟩).2
theorem zcS {to te:TDE}{dl:Ev}{S S1:Sto}{Q:DK}{n:Nat}{xs:List D}(R:D->Sto->Prop)(hto:∀K:DK,K (.ref n) S1->to dl S K)(h:S1[n]?=some (.lst xs))(hte:∀K:DK,(∀y T,R y T->K y T)->te dl S1 K)(h2:∀y T,R y T->T[n]?=some (.lst xs))(hl:xs.length<1000)(hq:∀y T,R y T->Q .non (T.set n (.lst (xs++[y])))):WL to te dl S Q:=by
 unfold WL;refine hto _ ?_;simp only[h];refine hte _ λy T r=>?_
 simp only[h2 y T r,if_pos hl];exact hq y T r
section
variable {X:Cx}{Z:Zx}{pos:Pos}
end
theorem zeZ {caps:List Nat}{ta:TDA}{te:TDE}{dl:Ev}{S S1:Sto}{Q:DK}{lo hi:Int}(P:Int->Prop)(hta:∀K:List D->Sto->Prop,K [.int lo,.int hi] S1->ta dl S K)(hb:(0<=lo/\lo<=1000)/\0<=hi/\hi<=1000)
  (ht:∀(k:Int)(S2:Sto)(K:DK),lo<=k->k<hi->Pre S1 S2->(∀c,P c->K (.int c) S2)->te (some (.int k)::Z8 caps dl) S2 K)(hq:∀cs:List Int,cs.length=(hi-lo).toNat->(∀c∈cs,P c)->Q (.ref S1.length) (S1++[.lst (cs.map D.int)])):Oj caps ta Y6 te dl S Q:=by
 unfold Oj;refine hta _ ⟨⟨by lia,by lia,by lia,by lia⟩,λk S2=>k<=(hi-lo).toNat/\∃cs:List Int,cs.length=k/\(∀c∈cs,P c)/\S2=S1++[.lst (cs.map D.int)],⟨zP _,[],rfl,λc hc=>(nomatch hc),rfl⟩,?_⟩;rintro k S2 ⟨hk,cs,lc,pc,rfl⟩;split
 .rename_i c;unfold Wr Y6;simp only[if_true];refine ht _ _ _ (by lia) (by lia) Pre.refl.push λv hv=>?_
  rw[Zs];dsimp only;refine⟨by rw[zA];lia,by lia,cs++[v],by simp[lc],λx hx=>?_,by rw[Ve,zZ];rfl⟩;rcases zY.mp hx with z|z
  .exact pc x z
  .cases zT.mp z;exact hv
 .rename_i c;exact hq cs (by lia) pc
theorem Bks.small (h:Bks g fine ns rows b0 es fs):es.length=fs.length/\∀(i:Nat)(e:LI)(f:Ft),es[i]?=some e->fs[i]?=some f->f=.wait\/(∃k p a b,f=.cut k p a b)\/FOk g fine ns rows e f:=by
 induction h with
 | new=>exact⟨rfl,λi e f he hf=>by
   match i,hf with
   | 0,hf=>cases hf;exact .inl rfl⟩
 | @cut es fs i k e s p _ hw he hs h1 h2 ih=>
  obtain⟨l,a⟩:=ih;have li:=(zB.mp hw).1;refine⟨by simp[l],λj x f hx hf=>?_⟩;by_cases c:j=i
  .subst c;rw[yI (by simp;lia)] at hf;cases hf;exact .inr (.inl ⟨_,_,_,_,rfl⟩)
  .rw[zW (Ne.symm c)] at hf;by_cases cj:j<fs.length
   .rw[yS,zI cj] at hf;rw[yS,zI (by lia)] at hx;exact a j x f hx hf
   .left
    rcases ON hf with z|⟨_,z⟩
    .rcases ON z with z|⟨_,z⟩
     .exact absurd (zB.mp z).1 cj
     .exact z
    .exact z
 | @put es fs i e f _ hw he ok ih=>
  obtain⟨l,a⟩:=ih;have li:=(zB.mp hw).1;refine⟨by rw[yC];exact l,λj x f' hx hf=>?_⟩;by_cases c:j=i
  .subst c;rw[yI li] at hf;cases hf;rw[he] at hx;cases hx;exact .inr (.inr ok)
  .rw[zW (Ne.symm c)] at hf;exact a j x f' hx hf
theorem Sz.btw (h1:Sz B a)(h2:Sz B b)(h:(a<=p\/b<=p)/\(p<=a\/p<=b)):Sz B p:=by
 unfold Sz at *
 generalize 2^B=n at *
 lia
def Le (x:Int×Int)(a b:Int):Prop:=∀B,Sz B x.1->Sz B x.2->Sz B a/\Sz B b
theorem BZ (h:0<b):t/b<=-(-t/b):=can (Int.le_trans (LF t h).1 (E2 t h).1) h
theorem Le.hull (h:Le x a b)(k:Le x c d):Le x (if c<a then c else a) (if d > b then d else b):=λB z1 z2=>by
 obtain⟨p,q⟩:=h B z1 z2;obtain⟨r,s⟩:=k B z1 z2;exact⟨by split<;>assumption,by split<;>assumption⟩
theorem Qi {p q r:Int×Int}(e:V7 p q=some r):Le p r.1 r.2:=λB z1 z2=>by
 obtain⟨a,b,c⟩:=zfr r e;exact⟨Sz.btw z1 z2 (by lia),Sz.btw z1 z2 (by lia)⟩
theorem zhQ {n x N:Int}(hn:2<=n)(hx:0<x)(hN:0<N):0<((n-1)*x+N/x^(n-1).toNat)/n:=by
 have k:n<=(n-1)*x+N/x^(n-1).toNat:=by
  by_cases c:x=1
  .subst c;rw[Int.one_pow,Int.ediv_one,Int.mul_one];lia
  .have a:=Int.mul_le_mul_of_nonneg_left (show 2<=x by lia) (show 0<=n-1 by lia)
   have b:0<=N/x^(n-1).toNat:=Int.ediv_nonneg (by lia) (Int.le_of_lt (yF hx));lia
 have:=Int.le_ediv_of_mul_le (show 0<n by lia) (show 1*n<=_ by rw[Int.one_mul];exact k);lia
theorem Bd.at (h:Bd B vs)(hi:inR vs.length i):Sz B (gt vs i).1/\Sz B (gt vs i).2:=h _ (Mf hi)
theorem Bd.put {B:Nat}{vs:LI}(h:Bd B vs){k:Nat}{u:Int×Int}(hu:Sz B u.1/\Sz B u.2):Bd B (vs.set k u):=λp hp=>by
 rcases List.mem_or_eq_of_mem_set hp with e|e
 .exact h p e
 .subst e;exact hu
def Ptw (m:Int)(l:List (Int×(Int×Int))):Prop:=l.length<=2/\∀p∈l,inR m p.1/\Sz 1000 p.2.1/\Sz 1000 p.2.2
theorem zdB (hi:inR m i)(hj:inR m j)(h1:Sz 1000 a/\Sz 1000 b)(h2:Sz 1000 c/\Sz 1000 d):Ptw m [(i,a,b),(j,c,d)]:=⟨by simp,λp hp=>by
 simp only[zO,yT,or_false] at hp;rcases hp with rfl|rfl
 .exact⟨hi,h1⟩
 .exact⟨hj,h2⟩⟩
def ShOk (ns:List Nd)(zero:Bool)(k:Nat)(e:LI)(g:Int)(cs:List Ct)(o:Option LI):Prop:=(o=none->ibS ns zero k e g=true)/\cs.length<=2*e.length/\∀(i:Nat)(c:Ct),cs[i]?=some c->isS ns zero k g (ctA e (cs.take i)) c=true/\c.k<e.length
theorem As (h:o=none->ibS ns zero k e g=true):ShOk ns zero k e g [] o:=⟨h,zP _,λi c hc=>by simp at hc⟩
theorem ixT2 {L U i v:Int}{S:Sto}{Q:DK}(h:i=0/\v=L\/i=1/\v=U)(hq:Q (.int v) S):Y5 wIx (.tup [.int L,.int U]) (.int i) S Q:=by
 rcases h with ⟨rfl,rfl⟩|⟨rfl,rfl⟩
 .exact QN (k:=0) rfl hq
 .exact QN (k:=1) rfl hq
theorem all_map {α:Type}{c:α->D}{P:α->Prop}:∀ {xs:List D},(∀d∈xs,∃x,d=c x/\P x)->∃r:List α,xs=r.map c/\∀x∈r,P x
 | [],_=>⟨[],rfl,λ_ h=>nomatch h⟩
 | d::xs,h=>by
  obtain⟨x,rfl,px⟩:=h d (by simp);obtain⟨r,rfl,pr⟩:=all_map (xs:=xs) λe he=>h e (by simp[he])
  exact⟨x::r,rfl,λy hy=>(zO.mp hy).elim (λz=>z ▸ px) (pr y)⟩
theorem Bd.up (h:Bd A vs)(l:A<=B):Bd B vs:=λp hp=>⟨(h p hp).1.mono l,(h p hp).2.mono l⟩
def RI (B q:Nat)(xs:List D):Prop:=∃r:List Int,xs=r.map D.int/\r.length=q/\∀x∈r,Sz B x
def RF (B q:Nat)(xs:List D):Prop:=∃r:LI,xs=r.map frD/\r.length=q/\Bd B r
def Mr (R:List D->Prop)(lo:Nat)(S:Sto)(ds:List D):Prop:=∀d∈ds,∃(a:Nat)(xs:List D),d=.ref a/\lo<=a/\S[a]?=some (.lst xs)/\R xs
theorem Mr.pre {R:List D->Prop}{lo:Nat}{S T:Sto}{ds:List D}(h:Mr R lo S ds)(p:Pre S T):Mr R lo T ds:=λd hd=>by
 obtain⟨a,xs,e,l,s,r⟩:=h d hd;exact⟨a,xs,e,l,p _ _ s,r⟩
theorem Mr.low {R:List D->Prop}{lo:Nat}{S:Sto}{ds:List D}(h:Mr R lo S ds):Mr R 0 S ds:=λd hd=>by
 obtain⟨a,xs,e,l,s,r⟩:=h d hd;exact⟨a,xs,e,zP _,s,r⟩
theorem Mr.put {R:List D->Prop}{L b:Nat}{S:Sto}{ys xs:List D}{o:Ob}(h:Mr R (L+1) S ys)(hb:L<b)(e:S[b]?=some (.lst xs))(r:R xs):Mr R (L+1) (S.set L o) (ys++[.ref b]):=λd hd=>by
 rcases zY.mp hd with z|z
 .obtain⟨a,xs,e,l,s,r⟩:=h d z;exact⟨a,xs,e,l,Z6 s (by lia),r⟩
 .exact⟨b,xs,zT.mp z,hb,Z6 e (by lia),r⟩
theorem Cc {caps:List Nat}{tl te:TDE}{dl:Ev}{S T0:Sto}{Q:DK}{n:Nat}{ds:List D}(R R':List D->Prop)(htl:∀K:DK,K (.ref n) T0->tl dl S K)(hn:T0[n]?=some (.lst ds))(rows:Mr R 0 T0 ds)(hl:ds.length<=1000)
  (ht:∀(a:Nat)(xs:List D)(S2:Sto)(K:DK),R xs->S2[a]?=some (.lst xs)->(∀(S3:Sto)(b:Nat)(ys:List D),Pre S2 S3->S2.length<=b->S3[b]?=some (.lst ys)->R' ys->K (.ref b) S3)->te (some (.ref a)::Z8 caps dl) S2 K)
  (hq:∀(S2:Sto)(ys:List D),Pre T0 S2->S2[T0.length]?=some (.lst ys)->ys.length=ds.length->Mr R' 0 S2 ys->Q (.ref T0.length) S2):XM caps tl Y6 te dl S Q:=by
 refine Dz (S1:=T0) (n:=n) (o:=.lst ds) (λk ys S2=>Pre T0 S2/\S2[T0.length]?=some (.lst ys)/\ys.length=k/\Mr R' (T0.length+1) S2 ys) htl hn (λk ys S2 w=>⟨w.1 _ _ hn,w.2.1,w.2.2.1⟩) hl ⟨Pre.refl.push,Zs _ _,rfl,λ_ h=>nomatch h⟩ (λk x ys S2 K hx w hK=>?_) (λys S2 w=>hq S2 ys w.1 w.2.1 w.2.2.1 w.2.2.2.low);obtain⟨w1,w2,w3,w4⟩:=w;obtain⟨a,xs,rfl,_,ha,r⟩:=rows x (zE hx);refine ht a xs S2 K r (w1 _ _ ha) λS3 b zs p3 hb e3 r3=>?_
 have hlt:=Z5 w2;exact hK _ S3 (p3 _ _ w2) ⟨E4 (w1.trans p3) (zC _),Ys (p3 _ _ w2),by simp[w3],(w4.pre p3).put (by lia) e3 r3⟩
theorem AW {caps:List Nat}{ta:TDA}{te:TDE}{dl:Ev}{S T0:Sto}{Q:DK}{j:Nat}(R':List D->Prop)(hta:∀K:List D->Sto->Prop,K [.int (j:Int)] T0->ta dl S K)(hj:j<=1000)
  (ht:∀(k:Nat)(S2:Sto)(K:DK),k<j->Pre T0 S2->(∀(S3:Sto)(b:Nat)(ys:List D),Pre S2 S3->S2.length<=b->S3[b]?=some (.lst ys)->R' ys->K (.ref b) S3)->te (some (.int (k:Int))::Z8 caps dl) S2 K)
  (hq:∀(S2:Sto)(ys:List D),Pre T0 S2->S2[T0.length]?=some (.lst ys)->ys.length=j->Mr R' 0 S2 ys->Q (.ref T0.length) S2):Wx caps ta Y6 te dl S Q:=by
 refine EF (S1:=T0) (j:=(j:Int)) (λk ys S2=>Pre T0 S2/\S2[T0.length]?=some (.lst ys)/\ys.length=k/\Mr R' (T0.length+1) S2 ys) hta (by lia) (λk ys S2 w=>⟨w.2.1,w.2.2.1⟩) ⟨Pre.refl.push,Zs _ _,rfl,λ_ h=>nomatch h⟩ (λk ys S2 K hk w hK=>?_) (λys S2 w=>hq S2 ys w.1 w.2.1 w.2.2.1 w.2.2.2.low);obtain⟨w1,w2,w3,w4⟩:=w;refine ht k S2 K (by lia) w1 λS3 b zs p3 hb e3 r3=>?_
 have hlt:=Z5 w2;exact hK _ S3 (p3 _ _ w2) ⟨E4 (w1.trans p3) (zC _),Ys (p3 _ _ w2),by simp[w3],(w4.pre p3).put (by lia) e3 r3⟩
theorem GI {P:D->Prop}{ys:List D}{d:D}(h:∀y∈ys,P y)(hd:P d):∀y∈ys++[d],P y:=λy hy=>(zY.mp hy).elim (h y) λz=>zT.mp z ▸ hd
theorem T9 {caps:List Nat}{tl te:TDE}{dl:Ev}{S S1:Sto}{Q:DK}{n:Nat}{o:Ob}(P:D->Prop)(htl:∀K:DK,K (.ref n) S1->tl dl S K)(h1:S1[n]?=some o)(hl:(Zo o).length<=1000)
  (ht:∀x∈Zo o,∀(S2:Sto)(K:DK),Pre S1 S2->(∀d,P d->K d S2)->te (some x::Z8 caps dl) S2 K)(hq:∀xs:List D,xs.length=(Zo o).length->(∀d∈xs,P d)->Q (.ref S1.length) (S1++[.lst xs]))(hL:Y2 o=some o:=by rfl):XM caps tl Y6 te dl S Q:=
 Dz (S1:=S1) (n:=n) (o:=o) (λk ys S2=>S2=S1++[.lst ys]/\ys.length=k/\∀d∈ys,P d) htl h1 (λk ys S2 w=>by obtain⟨rfl,w⟩:=w;exact⟨Zv h1,Zs _ _,w.1⟩) hl ⟨rfl,rfl,λ_ h=>nomatch h⟩ (λk x ys S2 K hx w hK=>by
  obtain⟨rfl,w2,w3⟩:=w;exact ht x (zE hx) _ K Pre.refl.push λd hd=>hK d _ (Zs _ _) ⟨Ve _ _ _,by simp[w2],GI w3 hd⟩) (λys S2 w=>by obtain⟨rfl,w⟩:=w;exact hq ys w.1 w.2) hL
theorem Fj {caps:List Nat}{ta:TDA}{te:TDE}{dl:Ev}{S S1:Sto}{Q:DK}{j:Nat}(P:D->Prop)(hta:∀K:List D->Sto->Prop,K [.int (j:Int)] S1->ta dl S K)(hj:j<=1000)
  (ht:∀(k:Nat)(S2:Sto)(K:DK),k<j->Pre S1 S2->(∀d,P d->K d S2)->te (some (.int (k:Int))::Z8 caps dl) S2 K)(hq:∀xs:List D,xs.length=j->(∀d∈xs,P d)->Q (.ref S1.length) (S1++[.lst xs])):Wx caps ta Y6 te dl S Q:=
 EF (S1:=S1) (j:=(j:Int)) (λk ys S2=>S2=S1++[.lst ys]/\ys.length=k/\∀d∈ys,P d) hta (by lia) (λk ys S2 w=>by obtain⟨rfl,w⟩:=w;exact⟨Zs _ _,w.1⟩) ⟨rfl,rfl,λ_ h=>nomatch h⟩ (λk ys S2 K hk w hK=>by
  obtain⟨rfl,w2,w3⟩:=w;exact ht k _ K (by lia) Pre.refl.push λd hd=>hK d _ (Zs _ _) ⟨Ve _ _ _,by simp[w2],GI w3 hd⟩) (λys S2 w=>by obtain⟨rfl,w⟩:=w;exact hq ys w.1 w.2)
theorem EA {caps:List Nat}{ta:TDA}{te:TDE}{dl:Ev}{S S1:Sto}{Q:DK}{n:Nat}{xs:List D}(P:D->Prop)(hta:∀K:List D->Sto->Prop,K [.ref n] S1->ta dl S K)(h1:S1[n]?=some (.lst xs))(hl:xs.length<=900)
  (ht:∀(k:Nat)(x:D),xs[k]?=some x->∀(S2:Sto)(K:DK),Pre S1 S2->(∀d,P d->K d S2)->te (some (.int (k:Int))::some x::Z8 caps dl) S2 K)(hq:∀ys:List D,ys.length=xs.length->(∀d∈ys,P d)->Q (.ref S1.length) (S1++[.lst ys])):Ut caps ta Y6 te dl S Q:=
 Cz (n:=n) (xs:=xs) (S1:=S1) (λk ys S2=>S2=S1++[.lst ys]/\ys.length=k/\∀d∈ys,P d) (λ_ _=>true) hta h1 (λk ys S2 w=>by obtain⟨rfl,w,_⟩:=w;exact⟨Zv h1,Zs _ _,by lia⟩) hl ⟨rfl,rfl,λ_ h=>nomatch h⟩ (λk x ys S2 K hx w hK=>by exact hK) (λk x ys S2 hx hb=>by cases hb) (λk x ys S2 K hx _ w hK=>by
  obtain⟨rfl,w2,w3⟩:=w;exact ht k x hx _ K Pre.refl.push λd hd=>hK d _ (Zs _ _) ⟨Ve _ _ _,by simp[w2],GI w3 hd⟩) (λys S2 w=>by obtain⟨rfl,w⟩:=w;exact hq ys w.1 w.2)
theorem Mr.cut (h:Mr (RI B q) 0 S ds):Mr (RI B q) 0 S (ds.take i++ds.drop (i+1)):=λd hd=>h d ((zY.mp hd).elim List.mem_of_mem_take List.mem_of_mem_drop)
theorem zcD (hj:j<=n)(h:RI B (n+1) xs):RI B n (xs.take j++xs.drop (j+1)):=by
 obtain⟨r,rfl,l,z⟩:=h;exact⟨r.take j++r.drop (j+1),by rw[zZ,xE,List.map_drop],by simp;lia,λx hx=>z x ((zY.mp hx).elim List.mem_of_mem_take List.mem_of_mem_drop)⟩
theorem ze7 (h:Sz (3121+20+20) t)(hw:w≠0):Sz 3200 (t.fdiv w):=by
 have a:=zdR t w hw
 have b:t.natAbs<2^3161:=h
 have c:(2:Nat)^3200=2^3161*2^39:=by rw[<- Nat.pow_add]
 show (t.fdiv w).natAbs<2^3200;rw[c];generalize 2^3161=n at *
 lia
theorem Cd:∀ {xs:List D},(∀d∈xs,d=.bl true)->YJ xs=some (List.replicate xs.length true)
 | [],_=>rfl
 | x::l,h=>by
  cases h x (by simp);show (YJ l).map _=_;rw[Cd λy hy=>h y (by simp[hy])];rfl
theorem Od {xs:List D}{S:Sto}{Q:DK}(h:∀d∈xs,d=.bl true)(hq:Q (.bl true) (S++[.lst xs])):irr (Th λbs=>bs.all id) [.ref S.length] (S++[.lst xs]) Q:=
 MX (n:=S.length) (o:=.lst xs) (Zs _ _) (Cd h) (by show Q (.bl ((List.replicate xs.length true).all id)) _;rw[show (List.replicate xs.length true).all id=true by simp];exact hq)
theorem Pu {m z s:Int}(hs:0<s)(h:m<=z):m/s*s<=z:=Int.le_trans (LF m hs).1 h
theorem Lg {m z s:Int}(hs:0<s)(h:z<=m):z<=-(-m/s)*s:=Int.le_trans h (E2 m hs).1
theorem pw_lo {a b:Int}{n:Nat}(h:a<=b):Yo a b n<=a^n/\Yo a b n<=b^n/\(a<0->0<b->1<=n->Yo a b n<=0):=by
 unfold Yo;split
 .rename_i c;exact⟨SW c.1 a,SW c.1 b,λ_ _ _=>zS _⟩
 .rename_i c;refine⟨Int.min_le_left ..,Int.min_le_right ..,λh1 h2 _=>?_⟩;have z:=DO (n:=n) (by lia) h1;exact Int.le_trans (Int.min_le_left ..) (Int.le_of_lt z)
theorem fw_at {q:Int}{ns:List Nd}{ws:List Nat}{e:LI}{g:Int}{k kn:Nat}{v:Nd}(net:ZJ q ns ws)(hv:ns[k]?=some v)(hk:k<kn)(lk:kn<=ns.length):v.fw (Zt e g (ns.take kn)) e g=((gt (Zt e g (ns.take kn)) (k:Int)).1,(gt (Zt e g (ns.take kn)) (k:Int)).2):=by
 have tk:∀m,m<=kn->Zt e g (ns.take m)=(Zt e g (ns.take kn)).take m:=λm hm=>by rw[Ai _ _ _ m (by rw[zG];lia),List.take_take,Nat.min_eq_left hm]
 have c:v.fw (Zt e g (ns.take kn)) e g=v.fw (Zt e g (ns.take k)) e g:=zeS (k:=k) (λi hi=>by rw[tk k (by lia),Hg hi]) v (net.ok k v hv).1
 have l:(Zt e g (ns.take k)).length=k:=by rw[YI,zG];lia
 have z:gt (Zt e g (ns.take (k+1))) (k:Int)=v.fw (Zt e g (ns.take k)) e g:=by
  rw[Y4 hv,Rx];unfold gt;rw[zK];simp[l]
 rw[c,<- z,tk (k+1) (by lia),Hg ⟨by lia,by lia⟩]
structure Ae (K:Fg)(mg:Str->Option Value) where
 C:Addr
 m:mg "Book"=some (.ref C)
 cl:Cls K C
 n_fates:Yp K C "fates"
 n_boxes:Yp K C "boxes"
 makes:W.makesIn K C=true
 kp:W.keepIn K (.ref C)=true
structure DW (K:Fg)(mg:Str->Option Value) where
 C:Addr
 m:mg "Number"=some (.ref C)
 cl:Cls K C
 n_bottom:Yp K C "bottom"
 n_top:Yp K C "top"
 makes:W.makesIn K C=true
 kp:W.keepIn K (.ref C)=true
structure EO (K:Fg)(mg:Str->Option Value) where
 C:Addr
 m:mg "Unknown"=some (.ref C)
 cl:Cls K C
 n_place:Yp K C "place"
 makes:W.makesIn K C=true
 kp:W.keepIn K (.ref C)=true
structure Eo (K:Fg)(mg:Str->Option Value) where
 C:Addr
 m:mg "Plus"=some (.ref C)
 cl:Cls K C
 n_other:Yp K C "other"
 n_one:Yp K C "one"
 makes:W.makesIn K C=true
 kp:W.keepIn K (.ref C)=true
structure C9 (K:Fg)(mg:Str->Option Value) where
 C:Addr
 m:mg "Minus"=some (.ref C)
 cl:Cls K C
 n_other:Yp K C "other"
 n_one:Yp K C "one"
 makes:W.makesIn K C=true
 kp:W.keepIn K (.ref C)=true
structure DD (K:Fg)(mg:Str->Option Value) where
 C:Addr
 m:mg "Times"=some (.ref C)
 cl:Cls K C
 n_other:Yp K C "other"
 n_one:Yp K C "one"
 makes:W.makesIn K C=true
 kp:W.keepIn K (.ref C)=true
structure EU (K:Fg)(mg:Str->Option Value) where
 C:Addr
 m:mg "Power"=some (.ref C)
 cl:Cls K C
 n_many:Yp K C "many"
 n_one:Yp K C "one"
 makes:W.makesIn K C=true
 kp:W.keepIn K (.ref C)=true
class Ev5 where
 P:Program
 w:World
 K:Fg
 mg:Str->Option Value
 base:Heap
 c0:Ae K mg
 c1:DW K mg
 c2:EO K mg
 c3:Eo K mg
 c4:C9 K mg
 c5:DD K mg
 c6:EU K mg
 y0:mg "abs"=none
 y1:mg "all"=none
 y2:mg "bool"=none
 y3:mg "enumerate"=none
 y4:mg "int"=none
 y5:mg "isinstance"=none
 y6:mg "len"=none
 y7:mg "list"=none
 y8:mg "max"=none
 y9:mg "min"=none
 y10:mg "range"=none
 y11:mg "sum"=none
 y12:mg "tuple"=none
 y13:mg "zip"=none
abbrev Zp [e:Ev5]:=e.c0
abbrev ZU [e:Ev5]:=e.c1
abbrev ZX [e:Ev5]:=e.c2
abbrev ZM [e:Ev5]:=e.c3
abbrev ZN [e:Ev5]:=e.c4
abbrev ZL [e:Ev5]:=e.c5
abbrev ZH [e:Ev5]:=e.c6
theorem UG [e:Ev5]:type_of% e.y0:=e.y0
theorem XX [e:Ev5]:type_of% e.y1:=e.y1
theorem R5 [e:Ev5]:type_of% e.y2:=e.y2
theorem XZ [e:Ev5]:type_of% e.y3:=e.y3
theorem Pt [e:Ev5]:type_of% e.y4:=e.y4
theorem VA [e:Ev5]:type_of% e.y5:=e.y5
theorem Yw [e:Ev5]:type_of% e.y6:=e.y6
theorem XC [e:Ev5]:type_of% e.y7:=e.y7
theorem Y0 [e:Ev5]:type_of% e.y8:=e.y8
theorem XY [e:Ev5]:type_of% e.y9:=e.y9
theorem YL [e:Ev5]:type_of% e.y10:=e.y10
theorem VB [e:Ev5]:type_of% e.y11:=e.y11
theorem Of [e:Ev5]:type_of% e.y12:=e.y12
theorem Vl [e:Ev5]:type_of% e.y13:=e.y13
abbrev Nd.oz [Ev5] (v:Nd):Ob:=v.ob ZU.C ZX.C ZM.C ZN.C ZL.C ZH.C
structure Pr [e:Ev5] (C:Addr)(c:Int->Int->Nd):Prop where
 cl:Cls e.K C
 o:Yp e.K C "one"
 t:Yp e.K C "other"
 b:∀i j,(c i j).oz=.ins C [("one",.int i),("other",.int j)]
 k:∀m q i j,(c i j).ok m q=(inR m i/\inR m j)
theorem BB [Ev5]:Pr ZM.C .plus:=⟨ZM.cl,ZM.n_one,ZM.n_other,λ_ _=>rfl,λ_ _ _ _=>rfl⟩
theorem Bx [Ev5]:Pr ZN.C .minus:=⟨ZN.cl,ZN.n_one,ZN.n_other,λ_ _=>rfl,λ_ _ _ _=>rfl⟩
theorem E3 [Ev5]:Pr ZL.C .times:=⟨ZL.cl,ZL.n_one,ZL.n_other,λ_ _=>rfl,λ_ _ _ _=>rfl⟩
def aN (p:Prop):List D->Prop
 | []=>p
 | _=>False
theorem aN_e {p:Prop}:∀ {ds:List D},aN p ds->ds=[]/\p
 | [],h=>⟨rfl,h⟩
 | _::_,h=>h.elim
theorem nN {p:Prop}{ds:List D}(h:aN p ds):ds.length=0:=by rw[(aN_e h).1];rfl
def aR (f:Nat->List D->Prop):List D->Prop
 | .ref a::r=>f a r
 | _=>False
theorem aR_e {f:Nat->List D->Prop}{ds:List D}(h:aR f ds):∃a r,ds=.ref a::r/\f a r:=by
 match ds,h with
 | .ref a::r,h=>exact⟨a,r,rfl,h⟩
theorem nR {f:Nat->List D->Prop}{n:Nat}(k:∀a {r:List D},f a r->r.length=n){ds:List D}(h:aR f ds):ds.length=n+1:=by
 obtain⟨a,r,rfl,h⟩:=aR_e h;rw[zU,k a h]
def aI (f:Int->List D->Prop):List D->Prop
 | .int a::r=>f a r
 | _=>False
theorem aI_e {f:Int->List D->Prop}{ds:List D}(h:aI f ds):∃a r,ds=.int a::r/\f a r:=by
 match ds,h with
 | .int a::r,h=>exact⟨a,r,rfl,h⟩
theorem nI {f:Int->List D->Prop}{n:Nat}(k:∀a {r:List D},f a r->r.length=n){ds:List D}(h:aI f ds):ds.length=n+1:=by
 obtain⟨a,r,rfl,h⟩:=aI_e h;rw[zU,k a h]
def aS (f:Str->List D->Prop):List D->Prop
 | .str a::r=>f a r
 | _=>False
theorem aS_e {f:Str->List D->Prop}{ds:List D}(h:aS f ds):∃a r,ds=.str a::r/\f a r:=by
 match ds,h with
 | .str a::r,h=>exact⟨a,r,rfl,h⟩
theorem nS {f:Str->List D->Prop}{n:Nat}(k:∀a {r:List D},f a r->r.length=n){ds:List D}(h:aS f ds):ds.length=n+1:=by
 obtain⟨a,r,rfl,h⟩:=aS_e h;rw[zU,k a h]
def aP (f:Int->Int->List D->Prop):List D->Prop
 | .tup [.int a,.int b]::r=>f a b r
 | _=>False
theorem aP_e {f:Int->Int->List D->Prop}{ds:List D}(h:aP f ds):∃a b r,ds=.tup [.int a,.int b]::r/\f a b r:=by
 match ds,h with
 | .tup [.int a,.int b]::r,h=>exact⟨a,b,r,rfl,h⟩
theorem nP {f:Int->Int->List D->Prop}{n:Nat}(k:∀a b {r:List D},f a b r->r.length=n){ds:List D}(h:aP f ds):ds.length=n+1:=by
 obtain⟨a,b,r,rfl,h⟩:=aP_e h;rw[zU,k a b h]
def aT (f:Str->Int->List D->Prop):List D->Prop
 | .tup [.str a,.int b]::r=>f a b r
 | _=>False
theorem aT_e {f:Str->Int->List D->Prop}{ds:List D}(h:aT f ds):∃a b r,ds=.tup [.str a,.int b]::r/\f a b r:=by
 match ds,h with
 | .tup [.str a,.int b]::r,h=>exact⟨a,b,r,rfl,h⟩
theorem nT {f:Str->Int->List D->Prop}{n:Nat}(k:∀a b {r:List D},f a b r->r.length=n){ds:List D}(h:aT f ds):ds.length=n+1:=by
 obtain⟨a,b,r,rfl,h⟩:=aT_e h;rw[zU,k a b h]
def aD (f:D->List D->Prop):List D->Prop
 | a::r=>f a r
 | []=>False
theorem aD_e {f:D->List D->Prop}:∀ {ds:List D},aD f ds->∃a r,ds=a::r/\f a r
 | a::r,h=>⟨a,r,rfl,h⟩
 | [],h=>h.elim
theorem nD {f:D->List D->Prop}{n:Nat}(k:∀a {r:List D},f a r->r.length=n){ds:List D}(h:aD f ds):ds.length=n+1:=by
 obtain⟨a,r,rfl,h⟩:=aD_e h;rw[zU,k a h]
theorem eR {f:Nat->Prop}{ds:List D}(h:(aR λa0=>aN (f a0)) ds):∃a0,ds=[.ref a0]/\f a0:=by
 obtain⟨a0,_,e0,h⟩:=aR_e h;obtain⟨e,h⟩:=aN_e h;exact⟨a0,by rw[e0,e],h⟩
def DE:Sd:=λds S Q ex=>(aI λc=>aN (0<=c/\∀g:Int,1<=g->g<=1000000->Q (.int g) S)) ds
def Kp:Sd:=λds S Q ex=>(aR λn=>aI λk=>aN (∃ns:List Int,S[n]?=some (.frz (ns.map D.int))/\(0<=k/\k<=1000)/\∀c:Int,(0<=c/\c<2147483629)->Q (.int c) S)) ds
def CP:Sd:=λds S Q ex=>(aR λn=>aI λu=>aN (∃(ns:List Int)(q:Nat),S[n]?=some (.frz (ns.map D.int))/\u=(q:Int)/\(1<=q/\q<=4)/\∀bs:LI,bs.length=q->Spn 51 bs->Q (.ref S.length) (S++[.lst (bs.map frD)]))) ds
def DG:Sd:=λds S Q ex=>(aI λc=>aI λm=>aN ((0<=c/\c<2147483629/\1<=m/\m<=60)/\∀v:Nd,(∀q:Int,v.ok m q)->Q v.d S)) ds
def KP:Sd:=λds S Q ex=>(aD λd=>aR λn=>aN (∃(v:Nd)(ws:List Nat)(q:Int),d=v.d/\S[n]?=some (Ob.lst (ws.map wtD))/\v.ok ws.length q/\(∀i:Int,inR ws.length i->ws.getD i.toNat 0<=16)/\Q (.int (v.wt ws:Nat)) S)) ds
def Bb:Sd:=λds S Q ex=>(aR λc=>aI λq=>aN (∃(cs:List D)(qn:Nat),S[c]?=some (.lst cs)/\(∀x∈cs,∃i:Int,x=.int i/\0<=i/\i<2147483629)/\q=qn/\(1<=qn/\qn<=4)/\cs.length<=20/\∀(ns:List Nd)(ws:List Nat)(T:Sto)(m:Nat),ZJ qn ns ws->1<=ns.length->ns.length<=24->Pre S T->S.length<=m->T[m]?=some (.lst (ns.map Nd.d))->Q (.ref m) T)) ds
def CJ:Sd:=λds S Q ex=>(aI λa=>aI λb=>aN (Q (.int ((Int.gcd a b:Nat):Int)) S)) ds
def Iv:Sd:=λds S Q ex=>(aI λx=>aI λn=>aN ((0<=n/\n<=6/\Sz 2000 x)/\Q (.int (x^n.toNat)) S)) ds
def Aa:Sd:=λds S Q ex=>(aR λa=>aR λb=>aN (∃(ns:List Nd)(ws:List Nat)(ps:LI),S[a]?=some (.lst (ns.map Nd.d))/\S[b]?=some (.lst (ps.map frD))/\ZJ ps.length ns ws/\Pz 110 ps/\ns.length<=70/\∀(T:Sto)(m:Nat),Pre S T->S.length<=m->T[m]?=some (.lst ((ZI ps ns).map frD))->Q (.ref m) T)) ds
def BU:Sd:=λds S Q ex=>(aR λa=>aD λd=>aN (∃(q:Nat)(v:Nd)(ns:List Nd)(ws:List Nat),d=v.d/\S[a]?=some (.lst (ns.map Nd.d))/\ns.length<900/\ZJ q ns ws/\v.ok ns.length q/\v.wt ws<=16/\∀(T:Sto)(j:Nat)(ns':List Nd)(ws':List Nat),Gr q a 1 S ns ws T ns' ws'->j<ns'.length->ns'[j]?=some v->ws'.getD j 0=v.wt ws->(∀P,gt (ZI P ns') (j:Int)=v.due (ZI P ns) P)->Q (.int (j:Int)) T)) ds
def AE:Sd:=λds S Q ex=>(aR λa=>aN (∃(ns:List Nd)(ws:List Nat)(q:Int),S[a]?=some (.lst (ns.map Nd.d))/\ZJ q ns ws/\ns.length<=70/\∀T:Sto,Pre S T->T[S.length]?=some (.lst (ws.map wtD))->Q (.ref S.length) T)) ds
def BP:Sd:=λds S Q ex=>(aR λa=>aR λb=>aI λg=>aI λc=>aI λpl=>aN (∃(q:Nat)(ns:List Nd)(ws:List Nat)(bs:LI),S[a]?=some (.lst (ns.map Nd.d))/\S[b]?=some (.lst (bs.map frD))/\ZJ q ns ws/\bs.length=q/\q<=4/\Spn 51 bs/\(1<=g/\g<=1000000)/\0<=c/\0<=pl/\(1<=ns.length/\ns.length<=60)/\∀(T:Sto)(ns':List Nd)(ws':List Nat)(r:Bool×Nat),Gr q a 2 S ns ws T ns' ws'->r.2<ns'.length->Q (rwD r) T)) ds
def D4:Sd:=λds S Q ex=>(aR λn=>aR λa=>aR λb=>aI λg=>aN (∃(q:Nat)(xs:List Int)(ns:List Nd)(ws:List Nat)(bs:LI),S[n]?=some (.frz (xs.map D.int))/\S[a]?=some (.lst (ns.map Nd.d))/\S[b]?=some (.lst (bs.map frD))/\a≠b/\ZJ q ns ws/\bs.length=q/\q<=4/\Spn 51 bs/\(1<=g/\g<=1000000)/\(1<=ns.length/\ns.length<=50)/\∀(T:Sto)(m:Nat)(ns':List Nd)(ws':List Nat)(rows:List (Bool×Nat)),Gr q a 6 S ns ws T ns' ws'->rows.length<=3->(∀r∈rows,r.2<ns'.length)->S.length<=m->T[m]?=some (.lst (rows.map rwD))->Q (.ref m) T)) ds
def Ab [Ev5]:Sd:=λds S Q ex=>(aR λn=>aR λx=>aN (∃(T:Sto)(b0:LI),S=T++[.ins Zp.C []]/\n=T.length/\T[x]?=some (.lst (b0.map frD))/\∀(U:Sto)(a b:Nat),T.length<a->T.length<b->Pre T U->Bk Zp.C U n a b [b0] [.wait]->Q .non U)) ds
def CM [Ev5]:Sd:=λds S Q ex=>(aR λn=>aN (∃(a b:Nat)(es:List LI)(fs:List Ft),Bk Zp.C S n a b es fs/\es.length<=900/\∀(T:Sto)(ds:List D),Pre S T->T[S.length]?=some (.lst ds)->En T ds es fs->Q (.ref S.length) T)) ds
def C3:Sd:=λds S Q ex=>(aP λa b=>aN (Q (.int (b-a)) S)) ds
def Ni:Sd:=λds S Q ex=>(aR λn=>aN (∃bs:LI,S[n]?=some (.lst (bs.map frD))/\bs.length<=900/\Q (.ref S.length) (S++[.lst ((bs.map wd).map D.int)]))) ds
def LU:Sd:=λds S Q ex=>(aR λn=>aN (∃bs:LI,S[n]?=some (.lst (bs.map frD))/\bs.length<=900/\∀(m:Int)(T:Sto),Pre S T->Wst bs m->Q (.int m) T)) ds
def Ho [Ev5]:Sd:=λds S Q ex=>(aR λn=>aN (∃(a b t:Nat)(es:List LI)(fs:List Ft),Bk Zp.C S n a b es fs/\S[t]?=some (.cod LT LP LQ)/\es.length<=900/\(∀e∈es,e.length<=900)/\((∀f∈fs,f≠.wait)->∀T:Sto,Pre S T->Q .non T)/\∀(i:Nat)(T:Sto),fs[i]?=some .wait->Pre S T->Q (.int (i:Int)) T)) ds
def Hz:Sd:=λds S Q ex=>(aS λw=>aP λa b=>aN ((w="zero"/\Q (.bl (decide (0<a)||decide (b<0))) S)\/(w="least"/\Q (.bl (decide (b<0))) S))) ds
def EN:Sd:=λds S Q ex=>(aP λa b=>aP λc d=>aN ((IntMulOk a d/\IntMulOk c b)/\Q (.bl (decide (a*d<c*b))) S)) ds
def Ow:Sd:=λds S Q ex=>(aI λt=>aI λb=>aN (CFd 0 b/\Q (.int (-(-t/b))) S)) ds
def Bm:Sd:=λds S Q ex=>(aP λa b=>aP λc d=>aI λg=>aN (((IntMulOk c b/\IntMulOk a d)/\¬ c*b<a*d/\IntMulOk a g/\IntMulOk c g/\CFd 0 b/\CFd 0 d)/\Q (.tup [.int (a*g/b),.int (-(-(c*g)/d))]) S)) ds
def Jv [Ev5]:Sd:=λds S Q ex=>(aR λn=>aR λw=>aR λp=>aI λg=>aN (∃(x y:Int)(vs bs:LI),S[n]?=some (Nd.oz (Nd.number x y))/\S[w]?=some (.lst (vs.map frD))/\S[p]?=some (.lst (bs.map frD))/\Nd.ok vs.length bs.length (Nd.number x y)/\Spn 1400 vs/\(1<=g/\g<=1000000)/\Q (frD (Nd.fw vs bs g (Nd.number x y))) S)) ds
def JM [Ev5]:Sd:=λds S Q ex=>(aR λn=>aR λw=>aR λp=>aI λg=>aN (∃(k:Int)(vs bs:LI),S[n]?=some (Nd.oz (Nd.unknown k))/\S[w]?=some (.lst (vs.map frD))/\S[p]?=some (.lst (bs.map frD))/\Nd.ok vs.length bs.length (Nd.unknown k)/\Spn 1400 vs/\(1<=g/\g<=1000000)/\Q (frD (Nd.fw vs bs g (Nd.unknown k))) S)) ds
def Ur:Sd:=λds S Q ex=>(aP λa b=>aP λc d=>aN (Q (.tup [.int (a+c),.int (b+d)]) S)) ds
def Hy [Ev5]:Sd:=λds S Q ex=>(aR λn=>aR λw=>aR λp=>aI λg=>aN (∃(i j:Int)(vs bs:LI),S[n]?=some (Nd.oz (Nd.plus i j))/\S[w]?=some (.lst (vs.map frD))/\S[p]?=some (.lst (bs.map frD))/\Nd.ok vs.length bs.length (Nd.plus i j)/\Spn 1400 vs/\(1<=g/\g<=1000000)/\Q (frD (Nd.fw vs bs g (Nd.plus i j))) S)) ds
def VH:Sd:=λds S Q ex=>(aP λa b=>aP λc d=>aN (Q (.tup [.int (a-d),.int (b-c)]) S)) ds
def Hs [Ev5]:Sd:=λds S Q ex=>(aR λn=>aR λw=>aR λp=>aI λg=>aN (∃(i j:Int)(vs bs:LI),S[n]?=some (Nd.oz (Nd.minus i j))/\S[w]?=some (.lst (vs.map frD))/\S[p]?=some (.lst (bs.map frD))/\Nd.ok vs.length bs.length (Nd.minus i j)/\Spn 1400 vs/\(1<=g/\g<=1000000)/\Q (frD (Nd.fw vs bs g (Nd.minus i j))) S)) ds
def RN:Sd:=λds S Q ex=>(aP λa b=>aP λc d=>aI λg=>aN (((IntMulOk a c/\IntMulOk a d/\IntMulOk b c/\IntMulOk b d)/\CFd 0 g)/\∀mn mx:Int,SF a b c d mn mx->Q (.tup [.int (mn/g),.int (-(-mx/g))]) S)) ds
def JW [Ev5]:Sd:=λds S Q ex=>(aR λn=>aR λw=>aR λp=>aI λg=>aN (∃(i j:Int)(vs bs:LI),S[n]?=some (Nd.oz (Nd.times i j))/\S[w]?=some (.lst (vs.map frD))/\S[p]?=some (.lst (bs.map frD))/\Nd.ok vs.length bs.length (Nd.times i j)/\Spn 1400 vs/\(1<=g/\g<=1000000)/\Q (frD (Nd.fw vs bs g (Nd.times i j))) S)) ds
def Rj:Sd:=λds S Q ex=>(aI λx=>aI λn=>aN ((0<=n/\n<=6/\Sz 2000 x)/\Q (.int (x^n.toNat)) S)) ds
def K6:Sd:=λds S Q ex=>(aP λa b=>aI λn=>aI λg=>aN ((1<=n/\n<=6/\Sz 1400 a/\Sz 1400 b/\1<=g/\Sz 1400 g)/\∀m M:Int,VX a b n.toNat m M->Q (.tup [.int (m/g^(n.toNat-1)),.int (-(-M/g^(n.toNat-1)))]) S)) ds
def GD [Ev5]:Sd:=λds S Q ex=>(aR λn=>aR λw=>aR λp=>aI λg=>aN (∃(i m:Int)(vs bs:LI),S[n]?=some (Nd.oz (Nd.power i m))/\S[w]?=some (.lst (vs.map frD))/\S[p]?=some (.lst (bs.map frD))/\Nd.ok vs.length bs.length (Nd.power i m)/\Spn 1400 vs/\(1<=g/\g<=1000000)/\Q (frD (Nd.fw vs bs g (Nd.power i m))) S)) ds
def BD [Ev5]:Sd:=λds S Q ex=>(aR λn=>aD λx=>aD λy=>aN (∃T:Sto,S=T++[.ins ZH.C []]/\n=T.length/\Q .non (T++[.ins ZH.C [("one",x),("many",y)]]))) ds
def Ep [Ev5]:Sd:=λds S Q ex=>(aR λn=>aD λx=>aD λy=>aN (∃T:Sto,S=T++[.ins ZU.C []]/\n=T.length/\Q .non (T++[.ins ZU.C [("top",x),("bottom",y)]]))) ds
def Cv [Ev5]:Sd:=λds S Q ex=>(aR λn=>aD λx=>aN (∃T:Sto,S=T++[.ins ZX.C []]/\n=T.length/\Q .non (T++[.ins ZX.C [("place",x)]]))) ds
def AD [Ev5]:Sd:=λds S Q ex=>(aR λn=>aD λx=>aD λy=>aN (∃T:Sto,S=T++[.ins ZM.C []]/\n=T.length/\Q .non (T++[.ins ZM.C [("one",x),("other",y)]]))) ds
def Dn [Ev5]:Sd:=λds S Q ex=>(aR λn=>aD λx=>aD λy=>aN (∃T:Sto,S=T++[.ins ZN.C []]/\n=T.length/\Q .non (T++[.ins ZN.C [("one",x),("other",y)]]))) ds
def B9 [Ev5]:Sd:=λds S Q ex=>(aR λn=>aD λx=>aD λy=>aN (∃T:Sto,S=T++[.ins ZL.C []]/\n=T.length/\Q .non (T++[.ins ZL.C [("one",x),("other",y)]]))) ds
def MO [Ev5]:Sd:=λds S Q ex=>(aD λd=>aN (∃v:Nd,d=v.d/\Q (.ref S.length) (S++[v.oz]))) ds
def Vn:Sd:=λds S Q ex=>(aR λa=>aR λb=>aI λg=>aN (∃(ns:List Nd)(ws:List Nat)(bs:LI),S[a]?=some (.lst (ns.map Nd.d))/\S[b]?=some (.lst (bs.map frD))/\ZJ bs.length ns ws/\Spn 51 bs/\(1<=g/\g<=1000000)/\ns.length<=70/\∀(T:Sto)(m:Nat),Pre S T->S.length<=m->T[m]?=some (.lst ((Zt bs g ns).map frD))->Q (.ref m) T)) ds
def GL:Sd:=λds S Q ex=>(aR λa=>aT λw k=>aR λb=>aI λg=>aN (∃(ns:List Nd)(ws:List Nat)(bs:LI)(zero:Bool),S[a]?=some (.lst (ns.map Nd.d))/\S[b]?=some (.lst (bs.map frD))/\rwW zero w/\inR ns.length k/\ZJ bs.length ns ws/\Spn 51 bs/\(1<=g/\g<=1000000)/\ns.length<=70/\∀T:Sto,Pre S T->Q (.bl (ibS ns zero k.toNat bs g)) T)) ds
def TX:Sd:=λds S Q ex=>(aP λa b=>aP λc d=>aN ((V7 (a,b) (c,d)=none->Q .non S)/\∀p,V7 (a,b) (c,d)=some p->Q (frD p) S)) ds
def BO:Sd:=λds S Q ex=>(aS λw=>aP λa b=>aN (∃zero:Bool,rwW zero w/\(Q .non S/\∀c d:Int,Le (a,b) c d->Q (.tup [.int c,.int d]) S))) ds
def G3 [Ev5]:Sd:=λds S Q ex=>(aR λn=>aR λw=>aP λz0 z1=>aI λg=>aN (∃(x y:Int)(vs:LI)(q:Int),S[n]?=some (Nd.oz (Nd.number x y))/\S[w]?=some (.lst (vs.map frD))/\Nd.ok vs.length q (Nd.number x y)/\(Bd 1000 vs/\(Sz 1000 z0/\Sz 1000 z1)/\(1<=g/\g<=1000000))/\Q .non S/\∀l,Ptw vs.length l->Q (.ref S.length) (S++[.lst (l.map ptD)]))) ds
def HC [Ev5]:Sd:=λds S Q ex=>(aR λn=>aR λw=>aP λz0 z1=>aI λg=>aN (∃(k:Int)(vs:LI)(q:Int),S[n]?=some (Nd.oz (Nd.unknown k))/\S[w]?=some (.lst (vs.map frD))/\Nd.ok vs.length q (Nd.unknown k)/\(Bd 1000 vs/\(Sz 1000 z0/\Sz 1000 z1)/\(1<=g/\g<=1000000))/\Q .non S/\∀l,Ptw vs.length l->Q (.ref S.length) (S++[.lst (l.map ptD)]))) ds
def Li:Sd:=λds S Q ex=>(aR λx_0=>aP λz0 z1=>aP λx0 x1=>aP λy0 y1=>aI λg=>aN ((Sz 1100 z0/\Sz 1100 z1/\Sz 1100 y0/\Sz 1100 y1/\Sz 30 g)/\(Q .non S/\∀a b:Int,Le (x0,x1) a b->Q (.tup [.int a,.int b]) S))) ds
def Ng:Sd:=λds S Q ex=>(aR λx_0=>aP λz0 z1=>aP λx0 x1=>aP λy0 y1=>aI λg=>aN ((Sz 1100 z0/\Sz 1100 z1/\Sz 1100 x0/\Sz 1100 x1/\Sz 30 g)/\(Q .non S/\∀a b:Int,Le (y0,y1) a b->Q (.tup [.int a,.int b]) S))) ds
def Ka [Ev5] (c:Int->Int->Nd):Sd:=λds S Q ex=>(aR λn=>aR λw=>aP λz0 z1=>aI λg=>aN (∃(i j:Int)(vs:LI)(q:Int),S[n]?=some (Nd.oz (c i j))/\S[w]?=some (.lst (vs.map frD))/\Nd.ok vs.length q (c i j)/\(Bd 1000 vs/\(Sz 1000 z0/\Sz 1000 z1)/\(1<=g/\g<=1000000))/\Q .non S/\∀l,Ptw vs.length l->Q (.ref S.length) (S++[.lst (l.map ptD)]))) ds
abbrev Bv [Ev5]:=Ka .plus
abbrev zej:=Li
abbrev zgS:=Ng
abbrev DL [Ev5]:=Ka .minus
def Dp:Sd:=λds S Q ex=>(aP λa b=>aN (Q (.bl (decide (a<=0)&&decide (0<=b))) S)) ds
def JF:Sd:=λds S Q ex=>(aP λx0 x1=>aP λl0 l1=>aP λh0 h1=>aN ((l0<=l1/\h0<=h1)/\(Q .non S/\∀a b:Int,Le (x0,x1) a b->Q (.tup [.int a,.int b]) S))) ds
def CY:Sd:=λds S Q ex=>(aI λt=>aI λb=>aN (CFd 0 b/\Q (.tup [.int (t/b),.int (-(-t/b))]) S)) ds
def EZ:Sd:=λds S Q ex=>(aP λlo hi=>aP λx0 x1=>aP λc d=>aN ((0<=c/\0<d/\Sz 1400 c/\Sz 1400 d)/\(Q .non S/\∀a b:Int,Le (x0,x1) a b->Q (.tup [.int a,.int b]) S))) ds
def Cw:Sd:=λds S Q ex=>(aP λa b=>aP λc d=>aN (Q (.tup [.int (if c<a then c else a),.int (if d > b then d else b)]) S)) ds
def Tp:Sd:=λds S Q ex=>match ds with
 | [.non,y]=>Q y S
 | [.tup [.int a,.int b],.non]=>Q (.tup [.int a,.int b]) S
 | [.tup [.int a,.int b],.tup [.int c,.int d]]=>Q (.tup [.int (if c<a then c else a),.int (if d > b then d else b)]) S
 | _=>False
theorem zbB:Ln (Tp) 2:=λds S Q ex h=>by unfold Tp at h;split at h<;>first|rfl|exact h.elim
def Ry:Sd:=λds S Q ex=>(aP λa b=>aN (Q (.tup [.int (-b),.int (-a)]) S)) ds
def HA:Sd:=λds S Q ex=>(aP λz0 z1=>aP λx0 x1=>aP λy0 y1=>aI λg=>aN ((Sz 1100 z0/\Sz 1100 z1/\Sz 1100 y0/\Sz 1100 y1/\Sz 30 g)/\(Q .non S/\∀a b:Int,Le (x0,x1) a b->Q (.tup [.int a,.int b]) S))) ds
abbrev zfm:=Li
abbrev zfI:=Ng
abbrev BX [Ev5]:=Ka .times
def DF:Sd:=λds S Q ex=>(aI λg=>aI λN=>aI λn=>aN ((2<=n/\n<=6/\0<g/\Sz 800 g)/\Q (.int (((n-1)*g+N/g^(n-1).toNat)/n)) S)) ds
def K5:Sd:=λds S Q ex=>(aI λN=>aI λn=>aN ((2<=n/\n<=6/\0<=N/\Sz 1300 N)/\∀r:Int,0<=r->Sz 800 r->Q (.int r) S)) ds
def Ql:Sd:=λds S Q ex=>match ds with
 | [.int N,.int n]=>(2<=n/\n<=6/\0<=N/\Sz 1300 N)/\∀a b:Int,a<=b->Q (.tup [.int a,.int b]) S
 | _=>False
theorem zhy:Ln (Ql) 2:=λds S Q ex h=>by unfold Ql at h;split at h<;>first|rfl|exact h.elim
def Qe:Sd:=λds S Q ex=>match ds with
 | [.int N,.int n]=>(2<=n/\n<=6/\Sz 1300 N)/\∀a b:Int,a<=b->Q (.tup [.int a,.int b]) S
 | _=>False
theorem zhr:Ln (Qe) 2:=λds S Q ex h=>by unfold Qe at h;split at h<;>first|rfl|exact h.elim
def CC:Sd:=λds S Q ex=>(aP λz0 z1=>aP λx0 x1=>aI λn=>aI λg=>aN ((2<=n/\n<=6/\Sz 30 g/\Sz 1100 z0/\Sz 1100 z1)/\(Q .non S/\∀a b:Int,Le (x0,x1) a b->Q (.tup [.int a,.int b]) S))) ds
def JG [Ev5]:Sd:=λds S Q ex=>(aR λn=>aR λw=>aP λz0 z1=>aI λg=>aN (∃(i m:Int)(vs:LI)(q:Int),S[n]?=some (Nd.oz (Nd.power i m))/\S[w]?=some (.lst (vs.map frD))/\Nd.ok vs.length q (Nd.power i m)/\(Bd 1000 vs/\(Sz 1000 z0/\Sz 1000 z1)/\(1<=g/\g<=1000000))/\Q .non S/\∀l,Ptw vs.length l->Q (.ref S.length) (S++[.lst (l.map ptD)]))) ds
def D7:Sd:=λds S Q ex=>(aR λa=>aT λw k=>aR λb=>aI λg=>aN (∃(ns:List Nd)(ws:List Nat)(bs:LI)(zero:Bool),S[a]?=some (.lst (ns.map Nd.d))/\S[b]?=some (.lst (bs.map frD))/\rwW zero w/\inR ns.length k/\ZJ bs.length ns ws/\Spn 51 bs/\(1<=g/\g<=1000000)/\ns.length<=70/\(∀T:Sto,Pre S T->Q .non T)/\∀(us:LI)(T:Sto)(m:Nat),us.length=k.toNat+1->Pre S T->S.length<=m->T[m]?=some (.lst (us.map frD))->Q (.ref m) T)) ds
def Bc:Sd:=λds S Q ex=>(aR λa=>aT λw k=>aR λb=>aI λg=>aN (∃(ns:List Nd)(ws:List Nat)(bs:LI)(zero:Bool),S[a]?=some (.lst (ns.map Nd.d))/\S[b]?=some (.lst (bs.map frD))/\rwW zero w/\inR ns.length k/\ZJ bs.length ns ws/\Spn 51 bs/\(1<=g/\g<=1000000)/\ns.length<=70/\(∀T:Sto,Pre S T->Q .non T)/\∀(us:LI)(T:Sto)(m:Nat),us.length=bs.length->Pre S T->S.length<=m->T[m]?=some (.lst (us.map frD))->Q (.ref m) T)) ds
def Fc:Sd:=λds S Q ex=>(aR λb=>aI λk=>aD λd=>aN (∃(bs:LI)(p:Int×Int),S[b]?=some (.lst (bs.map frD))/\inR bs.length k/\bs.length<=4/\d=frD p/\∀(T:Sto)(m:Nat),Pre S T->S.length<=m->T[m]?=some (.lst ((bs.set k.toNat p).map frD))->Q (.ref m) T)) ds
def Am:Sd:=λds S Q ex=>(aP λa b=>aD λd=>aN (∃c:Ct,d=c.d/\Q (frD (c.off (a,b))) S)) ds
def Dd:Sd:=λds S Q ex=>(aR λa=>aT λw k=>aR λb=>aI λg=>aD λd=>aN (∃(ns:List Nd)(ws:List Nat)(bs:LI)(zero:Bool)(c:Ct),S[a]?=some (.lst (ns.map Nd.d))/\S[b]?=some (.lst (bs.map frD))/\rwW zero w/\inR ns.length k/\ZJ bs.length ns ws/\Spn 51 bs/\(1<=g/\g<=1000000)/\ns.length<=70/\d=c.d/\c.k<bs.length/\bs.length<=4/\∀T:Sto,Pre S T->Q (.bl (isS ns zero k.toNat g bs c)) T)) ds
def CT:Sd:=λds S Q ex=>(aP λa b=>aD λd=>aN (∃c:Ct,d=c.d/\Q (frD (c.back (a,b))) S)) ds
def An:Sd:=λds S Q ex=>(aR λa=>aT λw k=>aR λb=>aI λg=>aN (∃(ns:List Nd)(ws:List Nat)(bs:LI)(zero:Bool),S[a]?=some (.lst (ns.map Nd.d))/\S[b]?=some (.lst (bs.map frD))/\rwW zero w/\inR ns.length k/\ZJ bs.length ns ws/\Spn 51 bs/\(1<=g/\g<=1000000)/\ns.length<=70/\bs.length<=4/\∀(T:Sto)(mc:Nat)(fd:D)(cs:List Ct)(o:Option LI),ShOk ns zero k.toNat bs g cs o->Pre S T->S.length<=mc->T[mc]?=some (.lst (cs.map Ct.d))->FdAt o S.length T fd->Q (.tup [.ref mc,fd]) T)) ds
def Lh [Ev5]:Sd:=λds S Q ex=>(aR λn=>aI λi=>aD λd=>aN (∃(a b j:Nat)(es:List LI)(fs:List Ft)(f:Ft),Bk Zp.C S n a b es fs/\i=(j:Int)/\j<fs.length/\VW a b S d f/\∀T:Sto,Bk Zp.C T n a b es (fs.set j f)->Cg a b S T->Q .non T)) ds
def Bw [Ev5]:Sd:=λds S Q ex=>(aR λn=>aR λm=>aN (∃(a b:Nat)(es:List LI)(fs:List Ft)(e:LI),Bk Zp.C S n a b es fs/\W8 a b S m e/\es.length<990/\∀T:Sto,Bk Zp.C T n a b (es++[e]) (fs++[.wait])->Cg a b S T->Q (.int (es.length:Int)) T)) ds
def Iw [Ev5]:Sd:=λds S Q ex=>(aR λn=>aI λi=>aI λkk=>aI λp=>aN (∃(a b j k:Nat)(es:List LI)(fs:List Ft)(e:LI)(s:Int×Int),Bk Zp.C S n a b es fs/\i=(j:Int)/\kk=(k:Int)/\es[j]?=some e/\e[k]?=some s/\e.length<=4/\es.length<980/\∀T:Sto,Bk Zp.C T n a b (es++[e.set k (s.1,p)]++[e.set k (p,s.2)]) ((fs++[Ft.wait]++[Ft.wait]).set j (.cut k p es.length (es.length+1)))->Cg a b S T->Q (.tup [.int (es.length:Int),.int ((es.length:Int)+1)]) T)) ds
def F3:Sd:=λds S Q ex=>(aR λnd=>aR λrw=>aI λr=>aR λbx=>aI λg=>aN (∃(k u:Nat)(ns:List Nd)(ws:List Nat)(rows:List (Bool×Nat))(e:LI)(row:Bool×Nat),Sr S nd rw g ns ws rows u/\S[bx]?=some (.lst (e.map frD))/\e.length=u/\Spn 51 e/\r=(k:Int)/\rows[k]?=some row/\∀(T:Sto)(m:Nat),Pre S T->S.length<=m->T[m]?=some (.lst ((Zt e g (ns.take (row.2+1))).map frD))->Q (.tup [.str "out",.int r,.ref m]) T)) ds
def Dr [Ev5]:Sd:=λds S Q ex=>(aR λn=>aR λnd=>aR λrw=>aI λg=>aI λi=>aN (∃(a b j u:Nat)(ns:List Nd)(ws:List Nat)(rows:List (Bool×Nat))(b0 e:LI)(es:List LI)(fs:List Ft)(fine:Int),Bk Zp.C S n a b es fs/\Sr S nd rw g ns ws rows u/\Apt nd rw a b/\Bks g fine ns rows b0 es fs/\Spn 51 b0/\b0.length=u/\i=(j:Int)/\fs[j]?=some .wait/\es[j]?=some e/\es.length<=900/\∀(T:Sto)(es':List LI)(fs':List Ft)(j':Nat),Bk Zp.C T n a b es' fs'->Bks g fine ns rows b0 es' fs'->Cg a b S T->es'.length<=es.length+64->Shd es j es' j'->j'<es'.length->Q (.int (j':Int)) T)) ds
def IL:Sd:=λds S Q ex=>(aS λw=>aP λa b=>aN ((w="zero"/\Q (.bl (decide (a=0)&&decide (b=0))) S)\/(w="least"/\Q (.bl (decide (0<=a))) S))) ds
def By:Sd:=λds S Q ex=>(aR λnd=>aR λrw=>aR λbx=>aI λg=>aR λsp=>aN (∃(u:Nat)(ns:List Nd)(ws:List Nat)(rows:List (Bool×Nat))(e:LI),Sr S nd rw g ns ws rows u/\S[bx]?=some (.lst (e.map frD))/\e.length=u/\Spn 51 e/\S[sp]?=some (.lst ((Zt e g ns).map frD))/\(∀(T:Sto)(k m:Nat)(row:Bool×Nat),Pre S T->S.length<=m->rows[k]?=some row->ibS ns row.1 row.2 e g=true->T[m]?=some (.lst ((Zt e g (ns.take (row.2+1))).map frD))->Q (.tup [.str "out",.int (k:Int),.ref m]) T)/\((∀row∈rows,ibS ns row.1 row.2 e g=false)->suS ns rows e g=true->∀T:Sto,Pre S T->Q (.tup [.str "full",.ref sp]) T)/\((∀row∈rows,ibS ns row.1 row.2 e g=false)->suS ns rows e g=false->∀T:Sto,Pre S T->Q .non T))) ds
def EI:Sd:=λds S Q ex=>(aR λr=>aN (∃rows:List (Bool×Nat),S[r]?=some (.lst (rows.map rwD))/\rows.length<=900/\Q (.ref S.length) (S++[.lst ((eqs rows).map wtD)]))) ds
def HZ:Sd:=λds S Q ex=>(aR λe=>aR λp=>aN (∃(xs:List D)(is:List Nat),S[e]?=some (.lst xs)/\S[p]?=some (.lst (is.map wtD))/\is.length<=900/\(∀i∈is,i<xs.length)/\Q (.ref S.length) (S++[.lst (is.map λi=>xs.getD i .non)]))) ds
def GK [Ev5]:Sd:=λds S Q ex=>(aR λn=>aR λw=>aR λs=>aI λqi=>aI λg=>aN (∃(x y:Int)(q:Nat)(vs:LI)(sl:List LI)(ds:List D),S[n]?=some (Nd.oz (Nd.number x y))/\S[w]?=some (.lst (vs.map frD))/\S[s]?=some (.lst ds)/\Yi S 0 ds sl/\(∀i:Int,inR sl.length i->(sl.getD i.toNat []).length=q/\∀l,l<q->(gs sl i l).1<=(gs sl i l).2/\Sz 1100 (gs sl i l).1/\Sz 1100 (gs sl i l).2)/\(qi=(q:Nat)/\q<=900)/\Nd.ok sl.length q (Nd.number x y)/\sl.length<=vs.length/\Spn 1000 vs/\(1<=g/\g<=1000000)/\∀(T:Sto)(mm:Nat),Pre S T->S.length<=mm->T[mm]?=some (.lst ((YF vs sl g q (Nd.number x y)).map frD))->Q (.ref mm) T)) ds
def HB [Ev5]:Sd:=λds S Q ex=>(aR λn=>aR λw=>aR λs=>aI λqi=>aI λg=>aN (∃(k:Int)(q:Nat)(vs:LI)(sl:List LI)(ds:List D),S[n]?=some (Nd.oz (Nd.unknown k))/\S[w]?=some (.lst (vs.map frD))/\S[s]?=some (.lst ds)/\Yi S 0 ds sl/\(∀i:Int,inR sl.length i->(sl.getD i.toNat []).length=q/\∀l,l<q->(gs sl i l).1<=(gs sl i l).2/\Sz 1100 (gs sl i l).1/\Sz 1100 (gs sl i l).2)/\(qi=(q:Nat)/\q<=900)/\Nd.ok sl.length q (Nd.unknown k)/\sl.length<=vs.length/\Spn 1000 vs/\(1<=g/\g<=1000000)/\∀(T:Sto)(mm:Nat),Pre S T->S.length<=mm->T[mm]?=some (.lst ((YF vs sl g q (Nd.unknown k)).map frD))->Q (.ref mm) T)) ds
def zcH [Ev5]:Sd:=λds S Q ex=>(aR λx_0=>aD λx_1=>aD λx_2=>aP λa b=>aP λc d=>aI λx_7=>aN (Q (.tup [.int (a+c),.int (b+d)]) S)) ds
def Nz [Ev5] (c:Int->Int->Nd):Sd:=λds S Q ex=>(aR λn=>aR λw=>aR λs=>aI λqi=>aI λg=>aN (∃(i j:Int)(q:Nat)(vs:LI)(sl:List LI)(ds:List D),S[n]?=some (Nd.oz (c i j))/\S[w]?=some (.lst (vs.map frD))/\S[s]?=some (.lst ds)/\Yi S 0 ds sl/\(∀i:Int,inR sl.length i->(sl.getD i.toNat []).length=q/\∀l,l<q->(gs sl i l).1<=(gs sl i l).2/\Sz 1100 (gs sl i l).1/\Sz 1100 (gs sl i l).2)/\(qi=(q:Nat)/\q<=900)/\Nd.ok sl.length q (c i j)/\sl.length<=vs.length/\Spn 1000 vs/\(1<=g/\g<=1000000)/\∀(T:Sto)(mm:Nat),Pre S T->S.length<=mm->T[mm]?=some (.lst ((YF vs sl g q (c i j)).map frD))->Q (.ref mm) T)) ds
abbrev DV [Ev5]:=Nz .plus
def zev [Ev5]:Sd:=λds S Q ex=>(aR λx_0=>aD λx_1=>aD λx_2=>aP λa b=>aP λc d=>aI λx_7=>aN (Q (.tup [.int (a-d),.int (b-c)]) S)) ds
abbrev DM [Ev5]:=Nz .minus
def ze9 [Ev5]:Sd:=λds S Q ex=>(aR λx_0=>aP λx1 x2=>aP λy1 y2=>aP λa b=>aP λc d=>aI λg=>aN ((Sz 1400 x1/\Sz 1400 x2/\Sz 1400 y1/\Sz 1400 y2/\Sz 1400 a/\Sz 1400 b/\Sz 1400 c/\Sz 1400 d/\1<=g/\g<=1000000)/\Q (.tup [.int ((Yn (x1,x2) (c,d) g).1+(Yn (y1,y2) (a,b) g).1),.int ((Yn (x1,x2) (c,d) g).2+(Yn (y1,y2) (a,b) g).2)]) S)) ds
abbrev Co [Ev5]:=Nz .times
def EH:Sd:=λds S Q ex=>(aP λa b=>aI λm=>aN ((IntMulOk a m/\IntMulOk b m)/\Q (.tup [.int (if b*m<a*m then b*m else a*m),.int (if b*m > a*m then b*m else a*m)]) S)) ds
def Gb [Ev5]:Sd:=λds S Q ex=>(aR λn=>aR λw=>aR λs=>aI λqi=>aI λg=>aN (∃(i m:Int)(q:Nat)(vs:LI)(sl:List LI)(ds:List D),S[n]?=some (Nd.oz (Nd.power i m))/\S[w]?=some (.lst (vs.map frD))/\S[s]?=some (.lst ds)/\Yi S 0 ds sl/\(∀i:Int,inR sl.length i->(sl.getD i.toNat []).length=q/\∀l,l<q->(gs sl i l).1<=(gs sl i l).2/\Sz 1100 (gs sl i l).1/\Sz 1100 (gs sl i l).2)/\(qi=(q:Nat)/\q<=900)/\Nd.ok sl.length q (Nd.power i m)/\sl.length<=vs.length/\Spn 1000 vs/\(1<=g/\g<=1000000)/\∀(T:Sto)(mm:Nat),Pre S T->S.length<=mm->T[mm]?=some (.lst ((YF vs sl g q (Nd.power i m)).map frD))->Q (.ref mm) T)) ds
def J1:Sd:=λds S Q ex=>(aR λa=>aR λb=>aI λg=>aN (∃(ns:List Nd)(ws:List Nat)(bs:LI),S[a]?=some (.lst (ns.map Nd.d))/\S[b]?=some (.lst (bs.map frD))/\ZJ bs.length ns ws/\Spn 51 bs/\bs.length<=900/\(1<=g/\g<=1000000)/\ns.length<=70/\∀(T:Sto)(m:Nat)(ds:List D),Pre S T->S.length<=m->T[m]?=some (.lst ds)->Yi T (m+1) ds (Yj (Zt bs g ns) g bs.length ns)->Q (.ref m) T)) ds
def E8:Sd:=λds S Q ex=>(aR λa=>aR λp=>aR λb=>aI λg=>aN (∃(ns:List Nd)(ws:List Nat)(bs:LI)(is:List Nat),S[a]?=some (.lst (ns.map Nd.d))/\S[b]?=some (.lst (bs.map frD))/\ZJ bs.length ns ws/\Spn 51 bs/\(1<=g/\g<=1000000)/\ns.length<=70/\bs.length<=900/\S[p]?=some (.lst (is.map wtD))/\is.length<=900/\(∀i∈is,i<ns.length)/\∀(T:Sto)(m:Nat)(ds:List D),Pre S T->T[m]?=some (.lst ds)->ds.length=is.length->Mr (RF 1023 bs.length) 0 T ds->Q (.ref m) T)) ds
def CZ:Sd:=λds S Q ex=>(aI λi=>aI λk=>aN (∃n:Nat,k=n/\Q (.int (sgn i n)) S)) ds
def Ex:Sd:=λds S Q ex=>(aR λm=>aI λr=>aI λc=>aN (∃(ds:List D)(i j n:Nat),r=i/\c=j/\S[m]?=some (.lst ds)/\ds.length=n+1/\Mr (RI 1024 (n+1)) 0 S ds/\n<=3/\i<=n/\j<=n/\∀(T:Sto)(k:Nat)(es:List D),Pre S T->T[k]?=some (.lst es)->es.length=n->Mr (RI 1024 n) 0 T es->Q (.ref k) T)) ds
def OE (k:Nat):Sd:=λds S Q ex=>(aR λm=>aN (∃(ds:List D)(n:Nat),n<=k/\S[m]?=some (.lst ds)/\ds.length=n/\Mr (RI 1024 (n)) 0 S ds/\∀x:Int,Sz (1040*n+1) x->Q (.int x) S)) ds
def LC (k:Nat):Sd:=λds S Q ex=>(aR λm=>aI λr=>aI λc=>aN (∃(ds:List D)(i j n:Nat),n<=k/\r=i/\c=j/\i<=n/\j<=n/\S[m]?=some (.lst ds)/\ds.length=n+1/\Mr (RI 1024 (n+1)) 0 S ds/\∀x:Int,Sz (1040*n+1) x->Q (.int x) S)) ds
abbrev zgw:=OE 0
abbrev zaZ:=LC 3
abbrev zc4:=OE 4
def Bi:Sd:=λds S Q ex=>(aR λm=>aI λw=>aI λr=>aI λc=>aI λg=>aN (∃(ds:List D)(i j n:Nat),n<=3/\r=i/\c=j/\i<=n/\j<=n/\S[m]?=some (.lst ds)/\ds.length=n+1/\Mr (RI 1024 (n+1)) 0 S ds/\(w≠0/\Sz 4200 w)/\(1<=g/\g<=1000000)/\∀x:Int,Sz 3200 x->Q (.int x) S)) ds
def Bj:Sd:=λds S Q ex=>(aR λm=>aI λw=>aI λr=>aI λg=>aN (∃(ds:List D)(i n:Nat),n<=3/\r=i/\i<=n/\S[m]?=some (.lst ds)/\ds.length=n+1/\Mr (RI 1024 (n+1)) 0 S ds/\(w≠0/\Sz 4200 w)/\(1<=g/\g<=1000000)/\∀xs:List D,RI 3200 (n+1) xs->Q (.ref S.length) (S++[.lst xs]))) ds
def Au:Sd:=λds S Q ex=>(aR λm=>aI λg=>aN (∃(ds:List D)(n:Nat),(1<=n/\n<=4)/\S[m]?=some (.lst ds)/\ds.length=n/\Mr (RI 1024 (n)) 0 S ds/\(1<=g/\g<=1000000)/\Q .non S/\∀(T:Sto)(k:Nat)(es:List D),Pre S T->T[k]?=some (.lst es)->es.length=n->Mr (RI 3200 n) 0 T es->Q (.ref k) T)) ds
def Gy:Sd:=λds S Q ex=>(aP λa b=>aN (Q (.int ((a+b)/2)) S)) ds
def FU:Sd:=λds S Q ex=>(aR λs=>aN (∃vs:LI,S[s]?=some (.lst (vs.map frD))/\vs.length<=900/\Q (.ref S.length) (S++[.lst (vs.map λp=>.int (mid p))]))) ds
def N4:Sd:=λds S Q ex=>(aR λb=>aN (∃vs:LI,S[b]?=some (.lst (vs.map frD))/\vs.length<=900/\∀(T:Sto)(m:Nat),Pre S T->S.length<=m->T[m]?=some (.lst ((vs.map XJ).map frD))->Q (.ref m) T)) ds
def Ky:Sd:=λds S Q ex=>(aR λa=>aR λb=>aI λg=>aN (∃(us vs:LI),S[a]?=some (.lst (us.map frD))/\S[b]?=some (.lst (vs.map frD))/\us.length<=60/\Bd 20000 us/\Bd 20000 vs/\(1<=g/\g<=1000000)/\Q (frD (XN g us vs)) S)) ds
def Dt:Sd:=λds S Q ex=>(aI λk=>aI λc=>aR λt=>aR λs=>aI λg=>aN (∃(q cn:Nat)(ts:LI)(ds:List D),c=(cn:Nat)/\S[t]?=some (.lst (ts.map frD))/\S[s]?=some (.lst ds)/\Mr (RF 1023 q) 0 S ds/\cn<q/\ts.length<=60/\ds.length<=60/\Bd 3200 ts/\(1<=g/\g<=1000000)/\∀a b:Int,Sz 20000 a->Sz 20000 b->Q (.tup [.int a,.int b]) S)) ds
def Cr:Sd:=λds S Q ex=>(aI λki=>aR λb=>aI λg=>aR λe=>aR λt=>aR λs=>aN (∃(k:Nat)(box aA:LI)(es:List Int)(ds:List D),ki=(k:Nat)/\k<box.length/\S[e]?=some (.lst (es.map D.int))/\es.length<=4/\(∀x∈es,Sz 3200 x)/\S[b]?=some (.lst (box.map frD))/\S[t]?=some (.lst (aA.map frD))/\S[s]?=some (.lst ds)/\Mr (RF 1023 box.length) 0 S ds/\(1<=box.length/\box.length<=4)/\ds.length<=4/\Bd 60 box/\Bd 2000 aA/\(1<=g/\g<=1000000)/\∀a b:Int,Q (.tup [.int a,.int b]) S)) ds
def CW:Sd:=λds S Q ex=>(aR λb=>aI λg=>aR λu=>aR λt=>aR λs=>aN (∃(box aA:LI)(ms ds:List D),S[u]?=some (.lst ms)/\ms.length=box.length/\Mr (RI 3200 box.length) 0 S ms/\S[b]?=some (.lst (box.map frD))/\S[t]?=some (.lst (aA.map frD))/\S[s]?=some (.lst ds)/\Mr (RF 1023 box.length) 0 S ds/\(1<=box.length/\box.length<=4)/\ds.length<=4/\Bd 60 box/\Bd 2000 aA/\(1<=g/\g<=1000000)/\∀vs:LI,vs.length<=4->Q (.ref S.length) (S++[.lst (vs.map frD)]))) ds
def AF:Sd:=λds S Q ex=>(aR λa=>aR λp=>aR λb=>aI λg=>aN (∃(ns:List Nd)(ws:List Nat)(bs:LI)(is:List Nat),S[a]?=some (.lst (ns.map Nd.d))/\S[b]?=some (.lst (bs.map frD))/\ZJ bs.length ns ws/\Spn 51 bs/\(1<=g/\g<=1000000)/\ns.length<=70/\bs.length<=900/\S[p]?=some (.lst (is.map wtD))/\is.length<=900/\(∀i∈is,i<ns.length)/\∀(T:Sto)(m:Nat)(vs:LI),Pre S T->S.length<=m->T[m]?=some (.lst (vs.map frD))->Bd 2000 vs->Q (.ref m) T)) ds
def E7:Sd:=λds S Q ex=>(aP λa b=>aP λc d=>aN (Q (.bl (decide (c<a)&&decide (b<d))) S)) ds
def Az:Sd:=λds S Q ex=>(aR λm=>aR λn=>aN (∃us vs:LI,S[m]?=some (.lst (us.map frD))/\S[n]?=some (.lst (vs.map frD))/\us.length<=1000/\∀b:Bool,Q (.bl b) S)) ds
def CO:Sd:=λds S Q ex=>(aR λr=>aR λs=>aN (∃(rows:List (Bool×Nat))(vs:LI),S[r]?=some (.lst (rows.map rwD))/\S[s]?=some (.lst (vs.map frD))/\rows.length<=900/\(∀r∈rows,r.2<vs.length)/\∀b:Bool,Q (.bl b) S)) ds
def Dc:Sd:=λds S Q ex=>(aR λa=>aR λr=>aR λb=>aI λg=>aN (∃(ns:List Nd)(ws:List Nat)(bs:LI)(rows:List (Bool×Nat)),S[a]?=some (.lst (ns.map Nd.d))/\S[b]?=some (.lst (bs.map frD))/\ZJ bs.length ns ws/\Spn 51 bs/\(1<=g/\g<=1000000)/\ns.length<=70/\bs.length<=900/\S[r]?=some (.lst (rows.map rwD))/\rows.length<=900/\(∀r∈rows,r.2<ns.length)/\(1<=bs.length/\bs.length<=4)/\(∀T:Sto,Pre S T->Q .non T)/\∀(T:Sto)(d e:D),Pre S T->Q (.tup [d,e]) T)) ds
def Dh:Sd:=λds S Q ex=>(aR λnd=>aR λrw=>aR λbx=>aI λg=>aR λsp=>aN (∃(u:Nat)(ns:List Nd)(ws:List Nat)(rows:List (Bool×Nat))(e:LI),Sr S nd rw g ns ws rows u/\S[bx]?=some (.lst (e.map frD))/\e.length=u/\Spn 51 e/\(∀T:Sto,Pre S T->Q .non T)/\(∀(T:Sto)(d1 d2 d3 d4 d5:D),Pre S T->Q (.tup [.str "one",d1,d2,d3,d4,d5]) T))) ds
def Dx:Sd:=λds S Q ex=>(aR λnd=>aR λrw=>aR λbx=>aI λg=>aI λfine=>aN (∃(u:Nat)(ns:List Nd)(ws:List Nat)(rows:List (Bool×Nat))(e:LI),Sr S nd rw g ns ws rows u/\S[bx]?=some (.lst (e.map frD))/\e.length=u/\Spn 51 e/\(∀(T:Sto)(f:Ft)(d:D),Pre S T->FOk g fine ns rows e f->(∀a b:Nat,a<S.length->b<S.length->VW a b T d f)->Q d T)/\∀T:Sto,Pre S T->(∃p∈e,fine<wd p)->Q .non T)) ds
def Cs:Sd:=λds S Q ex=>(aR λx=>aR λy=>aN (∃bs cs:LI,S[x]?=some (.lst (bs.map frD))/\S[y]?=some (.lst (cs.map frD))/\Spn 51 bs/\Spn 51 cs/\bs.length<=4/\cs.length<=4/\∀T:Sto,Pre S T->Q (.bl (decide (4*Vm bs<=3*Vm cs))) T)) ds
def Cb [Ev5]:Sd:=λds S Q ex=>(aR λn=>aI λi=>aN (∃(a b j:Nat)(es:List LI)(fs:List Ft)(e:LI),Bk Zp.C S n a b es fs/\i=(j:Int)/\es[j]?=some e/\e.length<=4/\e≠[]/\es.length<980/\∀(T:Sto)(k:Nat)(s:Int×Int),e[k]?=some s->Wst e (wd s)->Bk Zp.C T n a b (es++[e.set k (s.1,(s.1+s.2)/2)]++[e.set k ((s.1+s.2)/2,s.2)]) ((fs++[Ft.wait]++[Ft.wait]).set j (.cut k ((s.1+s.2)/2) es.length (es.length+1)))->Cg a b S T->Q .non T)) ds
def BJ [Ev5]:Sd:=λds S Q ex=>(aR λn=>aR λnd=>aR λrw=>aI λg=>aI λfine=>aI λi=>aN (∃(a b j u:Nat)(ns:List Nd)(ws:List Nat)(rows:List (Bool×Nat))(b0 e:LI)(es:List LI)(fs:List Ft),Bk Zp.C S n a b es fs/\Sr S nd rw g ns ws rows u/\Apt nd rw a b/\Bks g fine ns rows b0 es fs/\Spn 51 b0/\b0.length=u/\i=(j:Int)/\fs[j]?=some .wait/\es[j]?=some e/\1<=fine/\es.length<=800/\∀(T:Sto)(es':List LI)(fs':List Ft),Bk Zp.C T n a b es' fs'->Bks g fine ns rows b0 es' fs'->Cg a b S T->es'.length<=es.length+66->(es.length<es'.length\/es'.length=es.length/\fs'[j]?≠some .wait)->Q .non T)) ds
def B8:Sd:=λds S Q ex=>(aR λnd=>aR λrw=>aR λbx=>aI λg=>aI λfine=>aI λlooks=>aN (∃(u t:Nat)(ns:List Nd)(ws:List Nat)(rows:List (Bool×Nat))(b0:LI),Sr S nd rw g ns ws rows u/\S[bx]?=some (.lst (b0.map frD))/\b0.length=u/\Spn 51 b0/\1<=fine/\(0<=looks/\looks<=8)/\S[t]?=some (.cod LT LP LQ)/\∀(T:Sto)(m:Nat)(ds:List D)(es:List LI)(fs:List Ft),Pre S T->S.length<=m->T[m]?=some (.lst ds)->En T ds es fs->Bks g fine ns rows b0 es fs->es.length<=900->(looks=0->es=[b0]/\fs=[.wait])->(0<looks->es.length=1->fs[0]?≠some .wait)->Q (.ref m) T)) ds
def B6:Sd:=λds S Q ex=>(aP λa b=>aR λl=>aR λr=>aI λs=>aN (∃ls rs:List Int,S[l]?=some (.lst (ls.map D.int))/\S[r]?=some (.lst (rs.map D.int))/\ls.length<=900/\rs.length<=900/\(Sz 1400 a/\Sz 1400 b/\Sz 200 s)/\(∀z∈ls,a*s<=z)/\(∀z∈rs,z<=b*s)/\Q (.bl true) S)) ds
def Cy:Sd:=λds S Q ex=>(aD λd=>aR λw=>aP λa b=>aR λp=>aI λg=>aN (∃(v:Nd)(vs bs:LI),d=v.d/\S[w]?=some (.lst (vs.map frD))/\S[p]?=some (.lst (bs.map frD))/\v.ok vs.length bs.length/\Spn 1400 vs/\(Sz 1400 a/\Sz 1400 b)/\(1<=g/\g<=1000000)/\v.fw vs bs g=(a,b)/\Q (.bl true) S)) ds
def Bf:Sd:=λds S Q ex=>(aI λx_0=>aN (Q (.bl true) S)) ds
def BC:Sd:=λds S Q ex=>(aP λa b=>aN (a<=b/\Q (.bl true) S)) ds
def Ak:Sd:=λds S Q ex=>(aR λnd=>aR λsp=>aR λbx=>aI λg=>aI λk=>aN (∃(ns:List Nd)(ws:List Nat)(e:LI)(kn:Nat),S[nd]?=some (.lst (ns.map Nd.d))/\S[sp]?=some (.lst ((Zt e g (ns.take kn)).map frD))/\S[bx]?=some (.lst (e.map frD))/\ZJ e.length ns ws/\Spn 51 e/\(1<=g/\g<=1000000)/\ns.length<=70/\k=(kn:Int)/\kn<=ns.length/\Q (.bl true) S)) ds
def Es:Sd:=λds S Q ex=>(aT λw k=>aP λa b=>aN (∃zero:Bool,rwW zero w/\brS zero (a,b)=true/\Q (.bl true) S)) ds
def C0:Sd:=λds S Q ex=>(aT λw k=>aP λa b=>aN (∃zero:Bool,rwW zero w/\suB zero (a,b)=true/\Q (.bl true) S)) ds
abbrev Imp (p G:List D->Prop):Prop:=∀ds,p ds->G ds
theorem kN {p:Prop}{G:List D->Prop}(k:p->G []):Imp (aN p) G:=λds h=>by
 obtain⟨rfl,h⟩:=aN_e h;exact k h
theorem kR {f:Nat->List D->Prop}{G:List D->Prop}(k:∀a,Imp (f a) λr=>G (.ref a::r)):Imp (aR f) G:=λds h=>by
 obtain⟨a,r,rfl,h⟩:=aR_e h;exact k a r h
theorem kI {f:Int->List D->Prop}{G:List D->Prop}(k:∀a,Imp (f a) λr=>G (.int a::r)):Imp (aI f) G:=λds h=>by
 obtain⟨a,r,rfl,h⟩:=aI_e h;exact k a r h
theorem kS {f:Str->List D->Prop}{G:List D->Prop}(k:∀a,Imp (f a) λr=>G (.str a::r)):Imp (aS f) G:=λds h=>by
 obtain⟨a,r,rfl,h⟩:=aS_e h;exact k a r h
theorem kP {f:Int->Int->List D->Prop}{G:List D->Prop}(k:∀a b,Imp (f a b) λr=>G (.tup [.int a,.int b]::r)):Imp (aP f) G:=λds h=>by
 obtain⟨a,b,r,rfl,h⟩:=aP_e h;exact k a b r h
theorem kT {f:Str->Int->List D->Prop}{G:List D->Prop}(k:∀a b,Imp (f a b) λr=>G (.tup [.str a,.int b]::r)):Imp (aT f) G:=λds h=>by
 obtain⟨a,b,r,rfl,h⟩:=aT_e h;exact k a b r h
theorem kD {f:D->List D->Prop}{G:List D->Prop}(k:∀a,Imp (f a) λr=>G (a::r)):Imp (aD f) G:=λds h=>by
 obtain⟨a,r,rfl,h⟩:=aD_e h;exact k a r h
section
variable {P:Program}{w:World}{K:Fg}{mg:Str->Option Value}{base:Heap}{k:Nat}{C:Addr}{x qual:Str}{st:Stmt}{ps N:List Str}{sd:Sd}{t:TDS}
theorem zg9 (hp:∀S Q ex,Imp (λds=>sd ds S Q ex) λds=>t { nx:=λ_ S'=>Gc S Q .non S',rt:=Gc S Q } (XG N ds) S):∀ds S Q ex,gcS sd ds S Q ex->t { nx:=λ_ S'=>Q .non S',rt:=Q } (XG N ds) S:=λds S Q ex h=>by
 obtain⟨Q0,ex0,rfl,rfl,h⟩:=h;exact hp S Q0 ex0 ds h
def mkF (d:Df K mg x st ps)(Sc:Zm N ps (Zj st))(ht:∀ {cdv:Value} {A:Around} {outer:List Env} {s:Shared} {H:Hp} {E:XK},ZP k (A.deeper (envOfC x (Zj st) s.heap.objs.size d.f cdv))->YE (X6 (CXE P w) P w K mg base N x (Zj st) d.f cdv A outer s H E).nox Z0 (Xa st) t)(hp:∀S Q ex,Imp (λds=>sd ds S Q ex) λds=>t { nx:=λ_ S'=>Q .non S',rt:=Q } (XG N ds) S)(len:Ln sd ps.length:=by exact λ_ _ _ _=>by repeat (first|exact nN|refine nR λ_=>?_|refine nI λ_=>?_|refine nP λ_ _=>?_|refine nT λ_ _=>?_|refine nD λ_=>?_|refine nS λ_=>?_)):Fk P w K mg base (k+1) x ps sd:=d.mk' (UC d.F Sc len λ_ _ _ _ _ _ hr=>⟨t,ht hr,λds S Q ex=>hp S Q ex ds⟩)
def mkG (d:Df K mg x st ps)(Sc:Zm N ps (Zj st))(ht:∀ {cdv:Value} {A:Around} {outer:List Env} {s:Shared} {H:Hp} {E:XK},ZP k (A.deeper (envOfC x (Zj st) s.heap.objs.size d.f cdv))->YE (X6 (CXE P w) P w K mg base N x (Zj st) d.f cdv A outer s H E).nox Z0 (Xa st) t)(hp:∀S Q ex,Imp (λds=>sd ds S Q ex) λds=>t { nx:=λ_ S'=>Gc S Q .non S',rt:=Gc S Q } (XG N ds) S)(len:Ln sd ps.length:=by exact λ_ _ _ _=>by repeat (first|exact nN|refine nR λ_=>?_|refine nI λ_=>?_|refine nP λ_ _=>?_|refine nT λ_ _=>?_|refine nD λ_=>?_|refine nS λ_=>?_)):Fk P w K mg base (k+1) x ps sd:=d.mk' (fn_gc (UC d.F Sc (zgt len) λ_ _ _ _ _ _ hr=>⟨t,ht hr,zg9 hp⟩))
def mkM (d:Dm K C x qual st ps)(Sc:Zm N ps (Zj st))(ht:∀ {cdv:Value} {A:Around} {outer:List Env} {s:Shared} {H:Hp} {E:XK},ZP k (A.deeper (envOfC qual (Zj st) s.heap.objs.size d.f cdv))->YE (X6 (CXE P w) P w K mg base N qual (Zj st) d.f cdv A outer s H E).nox Z0 (Xa st) t)(hp:∀S Q ex,Imp (λds=>sd ds S Q ex) λds=>t { nx:=λ_ S'=>Q .non S',rt:=Q } (XG N ds) S)(len:Ln sd ps.length:=by exact λ_ _ _ _=>by repeat (first|exact nN|refine nR λ_=>?_|refine nI λ_=>?_|refine nP λ_ _=>?_|refine nT λ_ _=>?_|refine nD λ_=>?_|refine nS λ_=>?_)):Fm P w K mg base (k+1) C x ps sd:=d.mk' (UC d.F Sc len λ_ _ _ _ _ _ hr=>⟨t,ht hr,λds S Q ex=>hp S Q ex ds⟩)
end
section
variable {X:Cx}{Z:Zx}
theorem pdv (i:Nat){x:Str}{pos:Pos}{es:List Expr}{t:TDA}(hr:PDA X Z es t)(h:PD X Z (.Name x pos) (XU i):=by exact dv _)(hs:starEach (.Name x pos::es) X.env=(false,eval (.Name x pos) X.env)::starEach es X.env:=by rfl):PDA X Z (.Name x pos::es) (QK (XU i) t):=Zb h hr hs
theorem pv (i:Nat){x:Str}{pos:Pos}(h:PD X Z (.Name x pos) (XU i):=by exact dv _)(hs:starEach [.Name x pos] X.env=[(false,eval (.Name x pos) X.env)]:=by rfl):PDA X Z [.Name x pos] (QK (XU i) PB):=Zb h Zg hs
end
abbrev Fkz [e:Ev5] (k:Nat)(x:Str)(ps:List Str)(sd:Sd):=Fk e.P e.w e.K e.mg e.base k x ps sd
abbrev Fmz [e:Ev5] (k:Nat)(C:Addr)(x:Str)(ps:List Str)(sd:Sd):=Fm e.P e.w e.K e.mg e.base k C x ps sd
abbrev Dfz [e:Ev5] (x:Str)(st:Stmt)(ps:List Str):=Df e.K e.mg x st ps
abbrev Dmz [e:Ev5] (C:Addr)(x q:Str)(st:Stmt)(ps:List Str):=Dm e.K C x q st ps
section
variable [e:Ev5]
def zfP  (F9:Dfz WG Kq Pk):Fkz 1 WG Pk DE:=
 mkF F9 zeR (λhr=>(Zf (Zw (Zu (ZG hr) (Zi Yg (dv 0) Za) Za (Zn _)) (Ze (Zk (Zi Z2 Za (Zi Yg (Zi YK (dv 0) Za) Za)))) Zz) (Ze (Zk (Zi Z2 Za (Zi Yg (Zi YK (dv 0) Za) Za)))))) λS Q ex=>by
  refine kI λc=>kN ?_
  rintro⟨c0,h⟩;refine ifD (λe=>?_) (λe=>?_)
  .refine h _ ?_ ?_<;>lia
  .refine h _ ?_ ?_<;>lia
def zdk  (HR:Dfz q46 M7 Uy):Fkz 1 q46 Uy Kp:=
 mkF HR GQ (λhr=>(Zf (Zl (i:=2) GQ.nd Za) (Zf (Zw (Zu Yv (dv 1) (ZO (ZW YV) rfl Yw Boot.«len» (pv 0)) (Zn _)) (Ze (Zl (i:=2) GQ.nd (Zi XT (ZE (dv 0) (dv 1)) (Zi TQ Za Za)))) Zz) (Ze (Zk (Zi XT (Zi ZK (Zi XT (Zi Z2 (Zi ZK (dv 2) Za) (Zi ZK Za (dv 1))) Za) Za) Za)))))) λS Q ex=>by
  refine kR λn=>kI λk=>kN ?_
  rintro⟨ns,hn,⟨k0,k1⟩,h⟩;have aY:∀x:Int,(0<=x/\x<10^18)->IntMulOk x 48271/\IntMulOk 16807 k/\(0:Int)<2147483647/\IntMulOk ((x*48271+16807*k)%2147483647) 69621/\(0:Int)<2147483629/\Q (.int ((x*48271+16807*k)%2147483647*69621%2147483629)) S:=λx hx=>by
   have z1:Sz 80 x:=Sz.of (10^20) (by lia)
   have z2:Sz 80 k:=Sz.of (10^20) (by lia)
   have r:=XF (a:=x*48271+16807*k) (b:=2147483647) (by decide);refine⟨ZF z1 (Sz.of (n:=80) (10^20) (by decide)),ZF (Sz.of (n:=80) (10^20) (by decide)) z2,by decide,ZF (Sz.of (n:=80) (10^20) (by lia)) (Sz.of (n:=80) (10^20) (by decide)),by decide,h _ ?_⟩;exact XF (by decide)
  refine EB hn ?_;rw[zA];refine ifD (λc=>?_) (λc=>?_)
  .refine ZA (o:=.frz (ns.map D.int)) hn (zcO k0 c) ?_;have r:=XF (a:=ns.getD k.toNat 0) (b:=10^Int.toNat 18) (by decide);exact⟨show (0:Int)<10^Int.toNat 18 by decide,aY _ r⟩
  .exact aY 0 (by decide)
def zeg  (F0:Dfz WD OX RP)(YG:Fkz 1 q46 Uy Kp):Fkz 2 WD RP CP:=
 mkF F0 Wu (λhr=>(Zf (Zl (i:=2) Wu.nd (Yu Zg)) (Zf (Om (i:=3) PassesOwn.never rfl Wu.nd rfl (Or.inl rfl) rfl YL (pv 1) (Zf (Zl (i:=4) Wu.nd (Zh YG hr (pdv 0 (Zb (ZE (Zy (Zb Za (Zb Za (Zb Za (Zb Za Zg))))) (dv 3)) Zg)))) (Zf (Zl (i:=5) Wu.nd (Zh YG hr (pdv 0 (Zb (ZE (Zy (Zb Za (Zb Za (Zb Za (Zb Za Zg))))) (dv 3)) Zg)))) (Zf (Zw (Zu (ZG hr) (Zi Yg (dv 4) Za) Za (Zn _)) (Ze (Zl (i:=4) Wu.nd (Zi Yl (Zi XT (Zi ZK (Zi YK (dv 4) Za) Za) (Zi ZK Za (Zi TQ Za Za))) (Zi TQ Za Za)))) (Ze (Zl (i:=4) Wu.nd (Zi Yl (Zi Yg (Zi YK (dv 4) Za) Za) Za)))) (Zf (Zw (PDW.pt (Sh (Zu Wc (dv 3) Za (Zn _)) (U7 (Zu (ZG hr) (Zi Yg (dv 5) Za) Za (Zn _))))) (Ze (Zl (i:=5) Wu.nd (Zi Yl (Zd (ZE (dv 2) Za) Za) (Zd (ZE (dv 2) Za) Za)))) (Ze (Zw (Zu (ZG hr) (Zi Yg (dv 5) Za) Za (Zn _)) (Ze (Zl (i:=5) Wu.nd (Zi XT (Zi ZK (Zi YK (dv 5) Za) Za) (Zi TQ Za Za)))) (Ze (Zl (i:=5) Wu.nd (Zi Yg (Zi YK (dv 5) Za) Za)))))) (Ze (Z9 (Yy (dv 2) (Zy (pdv 4 (Zb (Zi Z2 (dv 4) (dv 5)) Zg))))))))))) (Ze (Zk (dv 2)))))) λS Q ex=>by
  refine kR λn=>kI λu=>kN ?_
  rintro⟨ns,q,hn,rfl,hq,h⟩;have lt:=Z5 hn;refine⟨⟨by lia,by lia⟩,λk dl' S'=>k<=q/\∃bs:LI,bs.length=k/\(∀p∈bs,(-10^14<=p.1/\p.1<=10^14)/\0<=p.2-p.1/\p.2-p.1<10^14)/\S'=S++[.lst (bs.map frD)]/\∃u3 u4 u5:Option D,dl'=[some (.ref n),some (.int (q:Int)),some (.ref S.length),u3,u4,u5],⟨zP _,[],rfl,λp hp=>(nomatch hp),rfl,_,_,_,rfl⟩,?_⟩;rintro k dl' S' ⟨hk,bs,lb,ob,rfl,u3,u4,u5,rfl⟩;split
  .rename_i c;have ck:k<q:=by rw[zK] at c;exact c
   have k4:k=0\/k=1\/k=2\/k=3:=by lia
   have hn':(S++[Ob.lst (bs.map frD)])[n]?=some (.frz (ns.map D.int)):=Zv hn;obtain⟨v1,e1,b1⟩:∃v:Int,([.int 5,.int 7,.int 44,.int 46]:List D)[k]?=some (.int v)/\0<=v/\v<=1000:=by
    rcases k4 with rfl|rfl|rfl|rfl
    .exact⟨5,rfl,by decide⟩
    .exact⟨7,rfl,by decide⟩
    .exact⟨44,rfl,by decide⟩
    .exact⟨46,rfl,by decide⟩
   obtain⟨v2,e2,b2⟩:∃v:Int,([.int 6,.int 8,.int 45,.int 47]:List D)[k]?=some (.int v)/\0<=v/\v<=1000:=by
    rcases k4 with rfl|rfl|rfl|rfl
    .exact⟨6,rfl,by decide⟩
    .exact⟨8,rfl,by decide⟩
    .exact⟨45,rfl,by decide⟩
    .exact⟨47,rfl,by decide⟩
   refine QN e1 ?_;refine⟨ns,hn',b1,λlo hlo=>?_⟩;refine QN e2 ?_;refine⟨ns,hn',b2,λwi hwi=>?_⟩;dsimp only;refine Xd (λdl2 S2=>S2=S++[.lst (bs.map frD)]/\∃lo:Int,(-10^14<=lo/\lo<=10^14)/\dl2=[some (.ref n),some (.int (q:Int)),some (.ref S.length),some (.int (k:Int)),some (.int lo),some (.int wi)]) (λnx hx=>?_) ?_
   .skip
    refine ifD (λ_=>?_) (λ_=>?_)
    .have zl:Sz 80 (lo/9):=Sz.of (10^20) (by lia)
     have r:=XF (a:=lo/9*900001) (b:=2*10^Int.toNat 14) (by decide);refine⟨ZF zl (Sz.of (n:=80) (10^20) (by decide)),ZF (m:=80) (n:=80) (Sz.of (10^20) (by decide)) (Sz.of (10^20) (by decide)),show (0:Int)<2*10^Int.toNat 14 by decide,?_⟩;have t14:(10:Int)^Int.toNat 14=10^14:=rfl;exact hx _ _ ⟨rfl,_,⟨by lia,by lia⟩,rfl⟩
    .exact hx _ _ ⟨rfl,_,⟨by lia,by lia⟩,rfl⟩
   rintro dl2 S2 ⟨rfl,low,hlow,rfl⟩;refine Xd (λdl2 S2=>S2=S++[.lst (bs.map frD)]/\∃wi:Int,(0<=wi/\wi<10^14)/\dl2=[some (.ref n),some (.int (q:Int)),some (.ref S.length),some (.int (k:Int)),some (.int low),some (.int wi)]) (λnx hx=>?_) ?_
   .refine ifD (λc1=>?_) (λc1=>?_)
    .refine ifD (λc2=>?_) (λc2=>?_)
     .have h0:0<bs.length:=by lia
      have i0:inR ((bs.length:Nat):Int) (0:Int):=⟨by lia,by lia⟩
      have q0:=ob _ (Mf (vs:=bs) (i:=(0:Int)) i0);refine ZA (o:=.lst (bs.map frD)) (Zs _ _) (ZQ i0) ?_;refine ZA (o:=.lst (bs.map frD)) (Zs _ _) (ZQ i0) ?_;exact hx _ _ ⟨rfl,_,q0.2,rfl⟩
     .skip
      refine ifD (λ_=>?_) (λ_=>?_)
      .have zl:Sz 80 (wi/9):=Sz.of (10^20) (by lia)
       have r:=XF (a:=wi/9*300007) (b:=10^Int.toNat 14) (by decide);refine⟨ZF zl (Sz.of (n:=80) (10^20) (by decide)),show (0:Int)<10^Int.toNat 14 by decide,?_⟩;exact hx _ _ ⟨rfl,_,r,rfl⟩
      .exact hx _ _ ⟨rfl,_,⟨by lia,by lia⟩,rfl⟩
    .skip
     refine ifD (λ_=>?_) (λ_=>?_)
     .have zl:Sz 80 (wi/9):=Sz.of (10^20) (by lia)
      have r:=XF (a:=wi/9*300007) (b:=10^Int.toNat 14) (by decide);refine⟨ZF zl (Sz.of (n:=80) (10^20) (by decide)),show (0:Int)<10^Int.toNat 14 by decide,?_⟩;exact hx _ _ ⟨rfl,_,r,rfl⟩
     .exact hx _ _ ⟨rfl,_,⟨by lia,by lia⟩,rfl⟩
   rintro dl2 S2 ⟨rfl,wid,hwid,rfl⟩;refine YO (n:=S.length) (S1:=S++[.lst (bs.map frD)]) (xs:=bs.map frD) (y:=frD (low,low+wid)) kId (Zs _ _) kId (by rw[zA];lia) ?_;refine⟨by lia,bs++[(low,low+wid)],by simp[lb],λp hp=>?_,by rw[Ve,zZ];rfl,_,_,_,rfl⟩;rcases zY.mp hp with z|z
   .exact ob p z
   .cases zT.mp z;exact⟨hlow,by show 0<=low+wid-low;lia,by show low+wid-low<_;lia⟩
  .rename_i c;have ek:k=q:=by rw[zK] at c;lia
   subst ek;refine h bs lb λp hp=>?_
   obtain⟨⟨p1,p2⟩,p3,p4⟩:=ob p hp;unfold Sz;exact⟨by lia,by lia,by lia⟩
def zbV  (IG:Dfz WW MQ Qf):Fkz 1 WW Qf DG:=
 mkF IG Rw (λhr=>(Zf (Zl (i:=2) Rw.nd (Zi Yg (dv 0) Za)) (Zf (Zl (i:=3) Rw.nd (Zi YK (dv 0) Za)) (Zf (Zw (PDW.pt (Sh (Zu (ZG hr) (dv 2) Za (Zn _)) (U7 (Zu (ZG hr) (Zi Yg (dv 3) Za) Za (Zn _))))) (Ze (Zk (Zy (Zb ZR (Zb (Zi Yl (Zi XT (Zi YK (dv 3) Za) Za) Za) (Zb Za Zg)))))) Zz) (Zf (Zw (Zu (ZG hr) (dv 2) Za (Zn _)) (Ze (Zk (Zy (Zb ZR (Zb (Zi Yl (Zi Yg (Zi YK (dv 3) Za) Za) Za) (Zb Za Zg)))))) Zz) (Zf (Zw (Zu (ZG hr) (dv 2) Za (Zn _)) (Zf (Zl (i:=4) Rw.nd (Zi Z2 Za (Zi Yg (dv 3) Za))) (Ze (Zk (Zy (Zb ZR (Zb (Zi Z2 (Zi ZK (dv 4) (Zi Yl (Zi Yg (Zi YK (dv 3) Za) Za) Za)) Za) (pv 4))))))) Zz) (Zf (Zw (Zu (ZG hr) (dv 2) Za (Zn _)) (Ze (Zk (Zy (Zb ZR (Zb (Zi XT (dv 3) (dv 1)) (Zb (Zi Z2 Za (Zi Yg (Zi Xx (dv 3) (dv 1)) Za)) Zg)))))) Zz) (Zf (Zl (i:=5) Rw.nd (ZE (Zy (Zb ZR (Zb ZR (Zb ZR (Zb ZR Zg))))) (Zi Yl (dv 2) Za))) (Ze (Zk (Zy (pdv 5 (Zb (Zi XT (dv 3) (dv 1)) (Zb (Zi XT (Zi Xx (dv 3) (dv 1)) (dv 1)) Zg)))))))))))))) λS Q ex=>by
  refine kI λc=>kI λm=>kN ?_
  rintro⟨⟨c0,c1,m1,m60⟩,h⟩;have zm:Sz 100 m:=Sz.of (10^20) (by lia)
  have r1:=XF (a:=c/7) (b:=m) (by lia)
  have r2:=XF (a:=c/7/m) (b:=m) (by lia)
  have two:∀w:Str,w="plus"\/w="minus"\/w="times"->Q (.tup [.str w,.int (c/7%m),.int (c/7/m%m)]) S:=λw hw=>by
   rcases hw with rfl|rfl|rfl
   .exact h (.plus _ _) λq=>⟨r1,r2⟩
   .exact h (.minus _ _) λq=>⟨r1,r2⟩
   .exact h (.times _ _) λq=>⟨r1,r2⟩
  have num:∀t b:Int,1<=b->b<=10^9->Int.gcd t b=1->t.natAbs<=10^9->Q (.tup [.str "number",.int t,.int b]) S:=λt b a1 a2 a3 a4=>h (.number t b) λq=>⟨⟨a1,a2⟩,a3,a4⟩
  refine ifD (λe0=>?_) (λe0=>?_)
  .refine ifD (λe1=>?_) (λe1=>?_)
   .have r:=XF (a:=c/7/5) (b:=1999999999) (by decide);exact⟨show (0:Int)<1999999999 by decide,num (c/7/5%1999999999-999999999) 1 (by decide) (by decide) (EW _) (by lia)⟩
   .refine ifD (λ_=>?_) (λz=>absurd e0 z);exact num (c/7/5%41-20) 1 (by decide) (by decide) (EW _) (by lia)
  .refine ifD (λz=>absurd z e0) (λ_=>?_);refine ifD (λe1=>?_) (λe1=>?_)
   .have a1:0<=c/7%8/\c/7%8<8:=⟨by lia,by lia⟩
    have a2:0<=c/7/8%25/\c/7/8%25<25:=⟨by lia,by lia⟩
    have z1:Sz 10 (2+c/7%8):=Sz.of 1000 (by lia)
    have z2:Sz 10 (c/7/8%25-12):=Sz.of 1000 (by lia);refine⟨ZF z1 z2,num _ _ (by lia) (by lia) (zgH _ _) ?_⟩;have z3:=z1.mul z2;unfold Sz at z3;lia
   .refine ifD (λe2=>?_) (λe2=>?_)
    .exact⟨by lia,zm.fd (by lia),h (.power (c/7%m) (2+c/7/m%3)) λq=>⟨r1,by lia,by lia⟩⟩
    .have e3:c%7=3\/c%7=4\/c%7=5\/c%7=6:=by lia
     rcases e3 with e|e|e|e
     .exact To 0 (by lia) rfl ⟨by lia,zm.fd (by lia),by lia,two _ (.inl rfl)⟩
     .exact To 1 (by lia) rfl ⟨by lia,zm.fd (by lia),by lia,two _ (.inr (.inl rfl))⟩
     .exact To 2 (by lia) rfl ⟨by lia,zm.fd (by lia),by lia,two _ (.inr (.inr rfl))⟩
     .exact To 3 (by lia) rfl ⟨by lia,zm.fd (by lia),by lia,two _ (.inr (.inr rfl))⟩
def zfB  (KH:Dfz q64 Ml SU):Fkz 1 q64 SU KP:=
 mkF KH zao (λhr=>(Zf (Zw (PDW.pt (Wi (Zu (ZG hr) (Zd (dv 0) Za) ZR (Zn _)) (Ue (Zu (ZG hr) (Zd (dv 0) Za) ZR (Zn _))))) (Ze (Zk Za)) Zz) (Zf (Zw (Zu (ZG hr) (Zd (dv 0) Za) ZR (Zn _)) (Ze (Zk (Zi ZK (ZE (dv 1) (Zd (dv 0) Za)) (Zd (dv 0) Za)))) Zz) (Ze (Zk (Zi Z2 (ZE (dv 1) (Zd (dv 0) Za)) (ZE (dv 1) (Zd (dv 0) Za)))))))) λS Q ex=>by
  refine kD λd=>kR λr=>kN ?_
  rintro⟨v,ws,q,rfl,hl,ok,sm,h⟩;cases v with
  | number t b=>exact h
  | unknown k=>exact h
  | power i n=>
   obtain⟨hi,n2,n6⟩:=ok;have b:=sm i hi;refine ZA (o:=.lst (ws.map wtD)) hl (VI hi) ?_;refine⟨ZF (m:=400) (n:=400) (Sz.of (10^20) (by lia)) (Sz.of (10^20) (by lia)),?_⟩;have e:((ws.getD i.toNat 0:Nat):Int)*n=((Nd.wt ws (.power i n):Nat):Int):=by
    simp only[Nd.wt];rw[Int.natCast_mul];rw[Int.toNat_of_nonneg (by lia),Int.mul_comm]
   show Q (.int (((ws.getD i.toNat 0:Nat):Int)*n)) S;rw[e];exact h
  | plus i j=>
   refine ZA (o:=.lst (ws.map wtD)) hl (VI ok.1) ?_;exact ZA (o:=.lst (ws.map wtD)) hl (VI ok.2) h
  | minus i j=>
   refine ZA (o:=.lst (ws.map wtD)) hl (VI ok.1) ?_;exact ZA (o:=.lst (ws.map wtD)) hl (VI ok.2) h
  | times i j=>
   refine ZA (o:=.lst (ws.map wtD)) hl (VI ok.1) ?_;exact ZA (o:=.lst (ws.map wtD)) hl (VI ok.2) h
def zdC  (Ea:Dfz WI Ss RT)(UY:Fkz 1 q64 SU KP)(Gn:Fkz 1 WW Qf DG):Fkz 2 WI RT Bb:=
 mkF Ea Ri (λhr=>(Zf (GP (x:="_law_k") (N:=[]) (caps:=[]) (ar:=Zj Ss) rfl rfl csc rfl (by decide) (i:=2) Ri.nd rfl rfl rfl YL (pv 1) (λ_ _ _ _ _ _=>Yh) (λ_ _ _ _ _ _=>(Zy (Zb ZR (pv 0))))) (Zf (GP (x:="_law_k") (N:=[]) (caps:=[]) (ar:=Zj Ss) rfl rfl csc rfl (by decide) (i:=3) Ri.nd rfl rfl rfl YL (pv 1) (λ_ _ _ _ _ _=>Yh) (λ_ _ _ _ _ _=>Za)) (Zf (W7 (i:=4) PassesOwn.never rfl Ri.nd rfl (Or.inl rfl) (dv 0) (Zf (Zl (i:=5) Ri.nd (Zh Gn hr (pdv 4 (Zb (ZO (ZW YV) rfl Yw Boot.«len» (pv 2)) Zg)))) (Zf (Zl (i:=6) Ri.nd (Zh UY hr (pdv 5 (pv 3)))) (Ze (Zw (PDW.pt (Sh (Zu YX (dv 6) Za (Zn _)) (U7 (Zu (Bg hr) (dv 5) (dv 2) rfl)))) (Zf (Z9 (Yy (dv 2) (dv 5))) (Ze (Z9 (Yy (dv 3) (dv 6))))) Zz))))) (Ze (Zk (dv 2))))))) λS Q ex=>by
  refine kR λc=>kI λq=>kN ?_
  rintro⟨cs,qn,hc,hint,rfl,hq,lc,h⟩;refine Ga (j:=(qn:Nat)) (S1:=S) (λk=>.tup [.str "unknown",.int (k:Int)]) kId ⟨by lia,by lia⟩ (λk hk S2 K pr hK=>by exact hK) ?_;have e:((List.range ((qn:Nat):Int).toNat).map λ(k:Nat)=>D.tup [.str "unknown",.int (k:Int)])=((List.range qn).map λ(k:Nat)=>Nd.unknown (k:Int)).map Nd.d:=by
   rw[yA,zK];rfl
  rw[e];refine Ga (j:=(qn:Nat)) (S1:=S++[.lst (((List.range qn).map λ(k:Nat)=>Nd.unknown (k:Int)).map Nd.d)]) (λk=>.int 1) kId ⟨by lia,by lia⟩ (λk hk S2 K pr hK=>by exact hK) ?_;have e2:((List.range ((qn:Nat):Int).toNat).map λ(k:Nat)=>D.int 1)=((List.range qn).map λ_=>(1:Nat)).map wtD:=by
   rw[yA,zK];rfl
  rw[e2];have l1:(S++[Ob.lst (((List.range qn).map λ(k:Nat)=>Nd.unknown (k:Int)).map Nd.d)]).length=S.length+1:=by simp
  refine Vx (n:=c) (o:=.lst cs) (λk dl' S'=>k<=cs.length/\∃(ns:List Nd)(ws:List Nat),ZJ qn ns ws/\1<=ns.length/\ns.length<=4+k/\Pre S S'/\S'[S.length]?=some (.lst (ns.map Nd.d))/\S'[S.length+1]?=some (.lst (ws.map wtD))/\∃u4 u5 u6:Option D,dl'=[some (.ref c),some (.int (qn:Nat)),some (.ref S.length),some (.ref (S.length+1)),u4,u5,u6]) ⟨zP _,_,_,zfF qn,by simp;lia,by simp;lia,Pre.refl.push.push,Zv (Zs _ _),by rw[<- l1];exact Zs _ _,_,_,_,by rw[<- l1];rfl⟩ (λk dl' S' z=>?_) ?_ ?_
  .obtain⟨_,_,_,_,_,_,p,_⟩:=z;exact p _ _ hc
  .rintro k x dl' S' nx ct ex' ⟨hk,ns,ws,net,n1,n4,pr',hS',hW',u4,u5,u6,rfl⟩ hn;have hk':=(zB.mp ex').1
   have hk'':k<cs.length:=hk';obtain⟨i,rfl,i0,i1⟩:=hint _ (zE ex');refine Xn hS' ?_;rw[zA];refine⟨⟨i0,i1,by lia,by lia⟩,λv ok=>?_⟩;have okw:v.ok ws.length (qn:Nat):=by rw[net.len];exact ok _
   refine⟨v,ws,_,rfl,hW',okw,λi hi=>(net.w1 (by rw[<- net.len];exact hi)).2,?_⟩;have on:=hn _ _ ⟨by lia,ns,ws,net,n1,by lia,pr',hS',hW',some (.int i),some v.d,some (.int (v.wt ws:Nat)),rfl⟩;refine ifD (λe1=>?_) (λe1=>on);refine zhA hS' λb=>?_
   cases b with
   | false=>exact on
   | true=>
    refine YO (n:=S.length) (S1:=S') (xs:=ns.map Nd.d) (y:=v.d) kId hS' kId (by rw[zA];lia) ?_;have nmm:S.length≠S.length+1:=by lia
    refine YO (n:=S.length+1) (S1:=S'.set S.length (.lst (ns.map Nd.d++[v.d]))) (xs:=ws.map wtD) (y:=wtD (v.wt ws)) kId (Z6 hW' nmm) kId (by rw[zA,net.len];lia) ?_;refine hn _ _ ⟨by lia,ns++[v],ws++[v.wt ws],net.snoc (ok _) (by lia),by simp,by simp;lia,Xg (Xg pr' (zC _)) (by lia),?_,?_,_,_,_,rfl⟩
    .rw[zZ];exact Z6 (Ys hS') (Ne.symm nmm)
    .rw[zZ];exact Ys (Z6 hW' nmm)
  .rintro dl' S' ⟨hk,ns,ws,net,n1,n4,pr',hS',hW',u4,u5,u6,rfl⟩;exact h ns ws _ _ net n1 (by lia) pr' (zC _) hS'
def zfV  (Ju:Dfz q67 MB Qq):Fkz 1 q67 Qq CJ:=
 mkF Ju UZ (λhr=>(Zf (Zl (i:=0) UZ.nd (ZO JX rfl UG Boot.«abs» (pv 0))) (Zf (Zl (i:=1) UZ.nd (ZO JX rfl UG Boot.«abs» (pv 1))) (Zf (Ew PassesOwn.never (Zu Wc (dv 1) Za (Zn _)) (Zf (Zl (i:=2) UZ.nd (Zi XT (dv 0) (dv 1))) (Zf (Zl (i:=0) UZ.nd (dv 1)) (Ze (Zl (i:=1) UZ.nd (dv 2)))))) (Ze (Zk (dv 0))))))) λS Q ex=>by
  refine kI λa=>kI λb=>kN λh=>?_
  refine⟨λm dl' S'=>S'=S/\∃(x y:Int)(o:Option D),dl'=[some (.int x),some (.int y),o]/\0<=x/\0<=y/\Int.gcd x y=Int.gcd a b/\m=y.toNat,⟨(WT b).toNat,rfl,WT a,WT b,none,rfl,ET a,ET b,ze1 a b,rfl⟩,?_⟩;rintro m dl' S' ⟨rfl,x,y,o,rfl,hx,hy,hg,rfl⟩;refine ifD (λc=>?_) (λc=>?_)
  .exact⟨c,⟨(x%y).toNat,by have:=XF (a:=x) c;lia,rfl,y,x%y,_,rfl,hy,(XF (a:=x) c).1,(zaS x y).trans hg,rfl⟩⟩
  .have hy0:y=0:=by lia
   subst hy0;have e:((Int.gcd a b:Nat):Int)=x:=by rw[<- hg,Int.gcd_zero_right];lia
   rw[e] at h;exact h
def zg2  (KN:Dfz q72 LH Sy):Fkz 1 q72 Sy Iv:=
 mkF KN Mv (λhr=>(Zf (Zl (i:=2) Mv.nd Za) (Zf (Om (i:=3) PassesOwn.never rfl Mv.nd rfl (Or.inl rfl) rfl YL (pv 1) (Ze (Zl (i:=2) Mv.nd (Zi ZK (dv 2) (dv 0))))) (Ze (Zk (dv 2)))))) λS Q ex=>by
  refine kI λx=>kI λn=>kN ?_
  rintro⟨⟨h0,h6,sx⟩,h⟩;refine⟨⟨by lia,by lia⟩,λk dl' S'=>S'=S/\k<=n.toNat/\∃(z:Int)(o:Option D),z=x^k/\dl'=[some (.int x),some (.int n),some (.int z),o],⟨rfl,zP _,1,none,(Int.pow_zero x).symm,rfl⟩,?_⟩;rintro k dl' S' ⟨rfl,hk,z,o,rfl,rfl⟩;refine ite2 (λc=>?_) (λc=>?_)
  .exact⟨ZF (m:=12001) (n:=2000) ((sx.pow k).mono (by lia)) sx,rfl,by lia,_,_,(xD x k).symm,rfl⟩
  .have e:k=n.toNat:=by lia
   subst e;exact h
def AI  (J4:Dfz q80 Nt QH)(Vk:Fkz 1 q72 Sy Iv):Fkz 2 q80 QH Aa:=
 mkF J4 U8 (λhr=>(Zf (Zl (i:=2) U8.nd (Yu Zg)) (Zf (W7 (i:=3) PassesOwn.never rfl U8.nd rfl (Or.inl rfl) (dv 0) (Ze (Zw (Zu (ZG hr) (Zd (dv 3) Za) ZR (Zn _)) (Ze (Z9 (Yy (dv 2) (Zy (Zb (Zd (dv 3) Za) (Zb (Zd (dv 3) Za) Zg)))))) (Ze (Zw (Zu (ZG hr) (Zd (dv 3) Za) ZR (Zn _)) (Ze (Z9 (Yy (dv 2) (ZE (dv 1) (Zd (dv 3) Za))))) (Ze (Zw (Zu (ZG hr) (Zd (dv 3) Za) ZR (Zn _)) (Zf (Zl (i:=4) U8.nd (ZE (dv 2) (Zd (dv 3) Za))) (Ze (Z9 (Yy (dv 2) (Zy (Zb (Zh Vk hr (Zb (Zd (dv 4) Za) (Zb (Zd (dv 3) Za) Zg))) (Zb (Zh Vk hr (Zb (Zd (dv 4) Za) (Zb (Zd (dv 3) Za) Zg))) Zg))))))) (Zf (Zl (i:=4) U8.nd (ZE (dv 2) (Zd (dv 3) Za))) (Zf (Zl (i:=5) U8.nd (ZE (dv 2) (Zd (dv 3) Za))) (Ze (Zw (Zu (ZG hr) (Zd (dv 3) Za) ZR (Zn _)) (Ze (Z9 (Yy (dv 2) (Zy (Zb (Zi ZK (Zd (dv 4) Za) (Zd (dv 5) Za)) (Zb (Zi ZK (Zd (dv 4) Za) (Zd (dv 5) Za)) Zg)))))) (Ze (Zw (Zu (ZG hr) (Zd (dv 3) Za) ZR (Zn _)) (Ze (Z9 (Yy (dv 2) (Zy (Zb (Zi Z2 (Zi ZK (Zd (dv 4) Za) (Zd (dv 5) Za)) (Zi ZK (Zd (dv 5) Za) (Zd (dv 4) Za))) (Zb (Zi ZK (Zd (dv 4) Za) (Zd (dv 5) Za)) Zg)))))) (Ze (Z9 (Yy (dv 2) (Zy (Zb (Zi Yl (Zi ZK (Zd (dv 4) Za) (Zd (dv 5) Za)) (Zi ZK (Zd (dv 5) Za) (Zd (dv 4) Za))) (Zb (Zi ZK (Zd (dv 4) Za) (Zd (dv 5) Za)) Zg))))))))))))))))))) (Ze (Zk (dv 2)))))) λS Q ex=>by
  refine kR λa=>kR λb=>kN ?_
  rintro⟨ns,ws,ps,ha,hb,net,zp,hl,h⟩;refine Vx (n:=a) (o:=.lst (ns.map Nd.d)) (λk dl' S'=>k<=ns.length/\Pre S S'/\S'[S.length]?=some (.lst ((ZI ps (ns.take k)).map frD))/\∃u3 u4 u5:Option D,dl'=[some (.ref a),some (.ref b),some (.ref S.length),u3,u4,u5]) ⟨zP _,Pre.refl.push,Zs _ _,_,_,_,rfl⟩ (λk dl' S' z=>z.2.1 _ _ ha) ?_ ?_
  .rintro k x dl' S' nx ct ex' ⟨hk,pr,hf,u3,u4,u5,rfl⟩ hn;have ex2:(ns.map Nd.d)[k]?=some x:=ex';rw[zF] at ex2;obtain⟨v,hv,rfl⟩:=zL.mp ex2;have hk':=(zB.mp hv).1
   have ln:(ZI ps (ns.take k)).length=k:=by rw[Qs,zG];lia
   have okv:v.ok (ZI ps (ns.take k)).length ps.length:=by rw[ln];exact(net.ok k v hv).1
   have pz:Pz 1800 (ZI ps (ns.take k)):=Pz.of_w (Ez net rfl zp k (by lia)) λj hj=>(net.w1 (i:=j) ⟨by lia,by lia⟩).2
   have aY:∀u3 u4 u5:Option D,nx [some (.ref a),some (.ref b),some (.ref S.length),u3,u4,u5] (S'.set S.length (.lst ((ZI ps (ns.take k)).map frD++[frD (v.due (ZI ps (ns.take k)) ps)]))):=λu3 u4 u5=>by
    refine hn _ _ ⟨by lia,Xg pr (zC _),?_,_,_,_,rfl⟩;rw[Y4 hv,PX,zZ];exact Ys hf
   cases v with
   | number t d=>
    refine YO (n:=S.length) (S1:=S') (xs:=(ZI ps (ns.take k)).map frD) (y:=frD (t,d)) kId hf kId (by rw[zA,ln];lia) ?_;exact aY _ _ _
   | unknown j=>
    refine YO (n:=S.length) (S1:=S') (xs:=(ZI ps (ns.take k)).map frD) (y:=frD (gt ps j)) kId hf (λK hK=>ZA (o:=.lst (ps.map frD)) (pr _ _ hb) (ZQ okv) hK) (by rw[zA,ln];lia) ?_;exact aY _ _ _
   | power i n=>
    obtain⟨ii,n2,n6⟩:=okv;have bi:=pz.at ii;refine ZA (o:=.lst ((ZI ps (ns.take k)).map frD)) hf (ZQ ii) ?_;refine YO (n:=S.length) (S1:=S') (xs:=(ZI ps (ns.take k)).map frD) (y:=frD (Nd.due (ZI ps (ns.take k)) ps (.power i n))) kId hf (λK hK=>by exact⟨⟨by lia,n6,bi.2.1.mono (by decide)⟩,⟨by lia,n6,bi.2.2.mono (by decide)⟩,hK⟩) (by rw[zA,ln];lia) ?_;exact aY _ _ _
   | times i j=>
    have ii:=okv.1
    have jj:=okv.2
    have bi:=pz.at ii
    have bj:=pz.at jj;refine ZA (o:=.lst ((ZI ps (ns.take k)).map frD)) hf (ZQ ii) ?_;refine ZA (o:=.lst ((ZI ps (ns.take k)).map frD)) hf (ZQ jj) ?_;refine YO (n:=S.length) (S1:=S') (xs:=(ZI ps (ns.take k)).map frD) (y:=frD (Nd.due (ZI ps (ns.take k)) ps (.times i j))) kId hf (λK hK=>by exact⟨ZF bi.2.1 bj.2.1,ZF bi.2.2 bj.2.2,hK⟩) (by rw[zA,ln];lia) ?_;exact aY _ _ _
   | plus i j=>
    have ii:=okv.1
    have jj:=okv.2
    have bi:=pz.at ii
    have bj:=pz.at jj;refine ZA (o:=.lst ((ZI ps (ns.take k)).map frD)) hf (ZQ ii) ?_;refine ZA (o:=.lst ((ZI ps (ns.take k)).map frD)) hf (ZQ jj) ?_;refine YO (n:=S.length) (S1:=S') (xs:=(ZI ps (ns.take k)).map frD) (y:=frD (Nd.due (ZI ps (ns.take k)) ps (.plus i j))) kId hf (λK hK=>by exact⟨ZF bi.2.1 bj.2.2,ZF bj.2.1 bi.2.2,ZF bi.2.2 bj.2.2,hK⟩) (by rw[zA,ln];lia) ?_;exact aY _ _ _
   | minus i j=>
    have ii:=okv.1
    have jj:=okv.2
    have bi:=pz.at ii
    have bj:=pz.at jj;refine ZA (o:=.lst ((ZI ps (ns.take k)).map frD)) hf (ZQ ii) ?_;refine ZA (o:=.lst ((ZI ps (ns.take k)).map frD)) hf (ZQ jj) ?_;refine YO (n:=S.length) (S1:=S') (xs:=(ZI ps (ns.take k)).map frD) (y:=frD (Nd.due (ZI ps (ns.take k)) ps (.minus i j))) kId hf (λK hK=>by exact⟨ZF bi.2.1 bj.2.2,ZF bj.2.1 bi.2.2,ZF bi.2.2 bj.2.2,hK⟩) (by rw[zA,ln];lia) ?_;exact aY _ _ _
  .rintro dl' S' ⟨hk,pr,hf,u3,u4,u5,rfl⟩;have e:ns.take (Zo (.lst (ns.map Nd.d))).length=ns:=by
    show ns.take (ns.map Nd.d).length=ns;rw[zA,yG]
   rw[e] at hf;exact h _ _ pr (zC _) hf
def zbn  (Ie:Dfz WH Lj Pp):Fkz 1 WH Pp BU:=
 mkF Ie zgB (λhr=>(Zf (Zw (Zu (Bg hr) (dv 1) (dv 0) rfl) (Ze (Z9 (Yy (dv 0) (dv 1)))) Zz) (Ze (Zk (DA (k:=1) hr (by decide) (dv 0) (pv 1)))))) λS Q ex=>by
  refine kR λa=>kD λd=>kN ?_
  rintro⟨q,v,ns,ws,rfl,ha,l9,net,ok,h16,h⟩;have aY:∀(T:Sto)(j:Nat)(ns':List Nd)(ws':List Nat),Gr q a 1 S ns ws T ns' ws'->ns'[j]?=some v->Q (.int (j:Int)) T:=λT j ns' ws' gr hj=>by
   refine h T j ns' ws' gr (zB.mp hj).1 hj ?_ (zab gr ok hj);rw[(gr.net.ok j v hj).2.1];exact zgh gr net ok
  obtain⟨o,e1,e2,e3⟩:=Jw v ns;refine ze4 (o:=o) ha e2 ?_;cases o with
  | some j=>
   refine Yq ?_;refine AB (n:=a) (v:=v) (ns:=ns) kId kId ha e1 ?_;exact aY S j ns ws ((Gr.refl net ha).mono (by decide)) (e3 j rfl)
  | none=>
   refine YU ?_;refine YO (n:=a) (S1:=S) (xs:=ns.map Nd.d) (y:=v.d) kId ha kId (by rw[zA];lia) ?_;have hm:(S.set a (.lst (ns.map Nd.d++[v.d])))[a]?=some (.lst ((ns++[v]).map Nd.d)):=by
    rw[zZ];exact Ys ha
   obtain⟨o2,f1,f2,f3⟩:=Jw v (ns++[v]);cases o2 with
   | none=>
    obtain⟨k,hk⟩:∃k,(ns++[v])[k]?=some v:=⟨ns.length,by simp⟩;exact absurd f2 (any_some hk)
   | some j=>
    refine AB (n:=a) (v:=v) (ns:=ns++[v]) kId kId hm f1 ?_;exact aY _ j (ns++[v]) (ws++[v.wt ws]) ⟨net.snoc ok h16,⟨[v],rfl,by simp⟩,⟨_,rfl⟩,hm,by simp,λx o hx e=>Z6 e (Ne.symm hx)⟩ (f3 j rfl)
def zdU  (HF:Dfz q89 M9 RY)(UY:Fkz 1 q64 SU KP):Fkz 2 q89 RY AE:=
 mkF HF KZ (λhr=>(Zf (Zl (i:=1) KZ.nd (Yu Zg)) (Zf (W7 (i:=2) PassesOwn.never rfl KZ.nd rfl (Or.inl rfl) (dv 0) (Ze (Z9 (Yy (dv 1) (Zh UY hr (pdv 2 (pv 1))))))) (Ze (Zk (dv 1)))))) λS Q ex=>by
  refine kR λa=>kN ?_
  rintro⟨ns,ws,q,ha,net,l70,h⟩;refine Vx (n:=a) (o:=.lst (ns.map Nd.d)) (λk dl' S'=>k<=ns.length/\Pre S S'/\S'[S.length]?=some (.lst ((ws.take k).map wtD))/\∃u:Option D,dl'=[some (.ref a),some (.ref S.length),u]) ⟨zP _,Pre.refl.push,Zs _ _,_,rfl⟩ (λk dl' S' z=>z.2.1 _ _ ha) ?_ ?_
  .rintro k x dl' S' nx ct ex' ⟨hk,pr,hf,u,rfl⟩ hn;have ex2:(ns.map Nd.d)[k]?=some x:=ex';rw[zF] at ex2;obtain⟨v,hv,rfl⟩:=zL.mp ex2;have hk':=(zB.mp hv).1;obtain⟨okv,ew,sm⟩:=zb0 net hv;have ln:(ws.take k).length=k:=by rw[zG,net.len];lia
   refine YO (n:=S.length) (S1:=S') (xs:=(ws.take k).map wtD) (y:=wtD (ws.getD k 0)) kId hf (λK hK=>?_) (by rw[zA,ln];lia) ?_
   .refine⟨v,ws.take k,q,rfl,hf,okv,sm,?_⟩;rw[ew];exact hK
   .refine hn _ _ ⟨by lia,Xg pr (zC _),?_,_,rfl⟩;have ek:ws[k]?=some (ws.getD k 0):=by
     rw[zX,zD (by rw[net.len];lia)];rfl
    rw[Y4 ek,zZ];exact Ys hf
  .rintro dl' S' ⟨hk,pr,hf,u,rfl⟩;have e:ws.take (Zo (.lst (ns.map Nd.d))).length=ws:=by
    show ws.take (ns.map Nd.d).length=ws;rw[zA,<- net.len,yG]
   rw[e] at hf;exact h _ pr hf
def zfq  (IX:Dfz WA My PU)(Km:Fkz 1 WH Pp BU)(Hj:Fkz 2 q89 RY AE)(Ij:Fkz 1 q67 Qq CJ)(HJ:Fkz 2 q80 QH Aa):Fkz 3 WA PU BP:=
 mkF IX WR (λhr=>(Zf (Zl (i:=5) WR.nd (Zi Yl (Zi Yl (ZO (ZW YV) rfl Yw Boot.«len» (pv 0)) Za) (Zi XT (Zi YK (dv 3) Za) (ZO (V1 rfl) rfl XY Boot.«min» (Zb (ZO (ZW YV) rfl Yw Boot.«len» (pv 0)) (Zb Za Zg)))))) (Zf (Zl (i:=6) WR.nd (ZE (Zy (Zb ZR (Zb ZR (Zb ZR Zg)))) (Zi Yg (dv 3) Za))) (Zf (Zl (i:=7) WR.nd (Yu Zg)) (Zf (W7 (i:=8) PassesOwn.never rfl WR.nd rfl (Or.inl rfl) (dv 1) (Zf (Z9 (Yy (dv 7) (Zy (Zb (Zi Z2 (Zd (dv 8) Za) (Zi YK (Zi ZK (Zi Yl (Zd (dv 8) Za) (Zd (dv 8) Za)) (Zi Yg (dv 4) Za)) Za)) (pv 2))))) (Ze (Zl (i:=4) WR.nd (Zi YK (dv 4) Za))))) (Zf (Zl (i:=9) WR.nd (ZE (Zh HJ hr (Zb (Wq (dv 0) Wt (WU (Zi Z2 (dv 5) Za))) (pv 7))) (dv 5))) (Zf (Zl (i:=10) WR.nd (Zh Ij hr (Zb (Zd (dv 9) Za) (Zb (Zd (dv 9) Za) Zg)))) (Zf (Zl (i:=11) WR.nd (Zi Xx (Zd (dv 9) Za) (dv 10))) (Zf (Zl (i:=12) WR.nd (Zi Xx (Zd (dv 9) Za) (dv 10))) (Zf (Zw (PDW.pt (Wi (Zu (ZG hr) (Zi Yg (Zi YK (dv 3) Za) Za) Za (Zn _)) (Wi (Zu NK (ZO JX rfl UG Boot.«abs» (pv 11)) (Zi TQ Za Za) (Zn _)) (Wi (Zu NK (dv 12) (Zi TQ Za Za) (Zn _)) (Ue (Zu Wc (ZE (Zh Hj hr (pv 0)) (dv 5)) Za (Zn _))))))) (Ze (Zk (Zy (pdv 6 (pv 5))))) Zz) (Ze (Zk (Zy (pdv 6 (Zb (Zh Km hr (pdv 0 (Zb (Zy (Zb ZR (pdv 5 (Zb (Zh Km hr (pdv 0 (Zb (Zy (Zb ZR (pdv 11 (pv 12)))) Zg))) Zg)))) Zg))) Zg))))))))))))))) λS Q ex=>by
  refine kR λa=>kR λb=>kI λg=>kI λc=>kI λpl=>kN ?_
  rintro⟨q,ns,ws,bs,ha,hb,net,lb,q4,sb,hg,c0,p0,l60,h⟩;have lt:=Z5 ha
  have lt2:=Z5 hb;obtain⟨zr,wz,ez⟩:∃(zero:Bool)(k:Nat),c%3=(k:Int)/\([.str "zero",.str "zero",.str "least"]:List D)[k]?=some (.str (if zero then "zero" else "least")):=by
   have:c%3=0\/c%3=1\/c%3=2:=by lia
   rcases this with e|e|e
   .exact⟨true,0,e,rfl⟩
   .exact⟨true,1,e,rfl⟩
   .exact⟨false,2,e,rfl⟩
  refine Xd (λdl2 S2=>S=S2/\∃k:Nat,k<ns.length/\dl2=[some (.ref a),some (.ref b),some (.int g),some (.int c),some (.int pl),some (.int (k:Int)),none,none,none,none,none,none,none]) (λnx hx=>?_) ?_
  .refine Xn ha ?_;refine Xn ha ?_;rw[zA];have em:0<(if (4:Int)<(ns.length:Int) then 4 else (ns.length:Int))/\(if (4:Int)<(ns.length:Int) then 4 else (ns.length:Int))<=ns.length:=by split<;>lia
   have rm:=XF (a:=c/3) em.1;refine⟨em.1,hx _ _ ⟨rfl,((ns.length:Int)-1-c/3%(if (4:Int)<(ns.length:Int) then 4 else (ns.length:Int))).toNat,by lia,?_⟩⟩;rw[Int.toNat_of_nonneg (by lia)];rfl
  rintro dl2 S2 ⟨rfl,at',lat,rfl⟩;refine Xd (λdl2 S2=>S=S2/\dl2=[some (.ref a),some (.ref b),some (.int g),some (.int c),some (.int pl),some (.int (at':Int)),some (.str (if zr then "zero" else "least")),none,none,none,none,none,none]) (λnx hx=>?_) ?_
  .exact To wz ez.1 ez.2 (hx _ _ ⟨rfl,rfl⟩)
  rintro dl2 S2 ⟨rfl,rfl⟩;refine D5 (λdl2 S2=>∃ps:LI,ps.length=bs.length/\Pz 110 ps/\S2=S++[.lst (ps.map frD)]/\∃x4 x8:Option D,dl2=[some (.ref a),some (.ref b),some (.int g),some (.int c),x4,some (.int (at':Int)),some (.str (if zr then "zero" else "least")),some (.ref S.length),x8,none,none,none,none]) (λnx hx=>?_) ?_
  .refine Vx (n:=b) (o:=.lst (bs.map frD)) (λi dl' S'=>i<=bs.length/\∃(ps:LI)(pl:Int),ps.length=i/\Pz 110 ps/\0<=pl/\S'=S++[.lst (ps.map frD)]/\∃x8:Option D,dl'=[some (.ref a),some (.ref b),some (.int g),some (.int c),some (.int pl),some (.int (at':Int)),some (.str (if zr then "zero" else "least")),some (.ref S.length),x8,none,none,none,none]) ⟨zP _,[],pl,rfl,λp hp=>(nomatch hp),p0,rfl,_,rfl⟩ (λi dl' S' z=>?_) ?_ ?_
   .obtain⟨_,_,_,_,_,_,rfl,_⟩:=z;exact Zv hb
   .rintro i x dl' S' nx2 ct hx2 ⟨hi,ps,pl,lp,zp,pl0,rfl,x8,rfl⟩ hn;have hx3:(bs.map frD)[i]?=some x:=hx2;rw[zF] at hx3;obtain⟨s,hs,rfl⟩:=zL.mp hx3;have li:=(zB.mp hs).1;obtain⟨s1,s2,s3⟩:=sb s (zE hs);have z1:Sz 53 (s.2-s.1):=by unfold Sz at *;lia
    have z2:Sz 5 (pl%9):=Sz.of 16 (by lia)
    have z3:=(z1.mul z2).div (j:=8) (by decide);refine YO (n:=S.length) (S1:=S++[.lst (ps.map frD)]) (xs:=ps.map frD) (y:=frD (s.1+(s.2-s.1)*(pl%9)/8,g)) kId (Zs _ _) (λK hK=>⟨ZF z1 z2,hK⟩) (by rw[zA];lia) ?_;refine hn _ _ ⟨by lia,ps++[(s.1+(s.2-s.1)*(pl%9)/8,g)],pl/9,by simp[lp],λp hp=>?_,by lia,by rw[Ve,zZ];rfl,_,rfl⟩;rcases zY.mp hp with z|z
    .exact zp p z
    .cases zT.mp z;unfold Sz at *
     refine⟨hg.1,?_,?_⟩
     .show (s.1+(s.2-s.1)*(pl%9)/8).natAbs<_;lia
     .show g.natAbs<_;lia
   .rintro dl' S' ⟨hi,ps,pl,lp,zp,pl0,rfl,x8,rfl⟩;refine hx _ _ ⟨ps,?_,zp,rfl,_,_,rfl⟩;rw[lp];exact zA ..
  rintro dl2 S2 ⟨ps,lp,zp,rfl,x4,x8,rfl⟩;have at7:=Zs S (.lst (ps.map frD));refine WV (n:=a) (o:=.lst (ns.map Nd.d)) (lo:=none) (hi:=some ((at':Int)+1)) (S3:=S++[.lst (ps.map frD)]) kId kId kId (Zv ha) ?_;have ec:Z7 (ns.map Nd.d) none (some ((at':Int)+1))=(ns.take (at'+1)).map Nd.d:=by
   rw[QU (by lia) (by rw[zA];lia),xE];rfl
  rw[show Zo (Ob.lst (ns.map Nd.d))=ns.map Nd.d from rfl,ec];have netP:ZJ ((ps.length:Nat):Int) ns ws:=by rw[lp,lb];exact net
  refine⟨ns.take (at'+1),ws.take (at'+1),ps,Zs _ _,Zv at7,netP.take _,zp,by rw[zG];lia,λT m pr lm hf=>?_⟩;have prS:Pre S T:=λn o e=>pr n o (Zv (Zv e))
  have l1:(ZI ps (ns.take (at'+1))).length=at'+1:=by rw[Qs,zG];lia
  have ik:inR (((ZI ps (ns.take (at'+1))).length:Nat):Int) (at':Int):=⟨by lia,by lia⟩
  have pz:Pz 1800 (ZI ps (ns.take (at'+1))):=Pz.of_w (Ez netP rfl zp (at'+1) (by lia)) λj hj=>(net.w1 (i:=j) ⟨by lia,by lia⟩).2
  obtain⟨d1,d2,d3⟩:=pz.at ik;refine ZA (o:=.lst ((ZI ps (ns.take (at'+1))).map frD)) hf (ZQ ik) ?_;generalize gt (ZI ps (ns.take (at'+1))) (at':Int)=d at d1 d2 d3;have gp:0<Int.gcd d.1 d.2:=Int.gcd_pos_of_ne_zero_right _ (by lia)
  have g1:((Int.gcd d.1 d.2:Nat):Int) ∣ d.2:=Int.gcd_dvd_right ..
  have gl:((Int.gcd d.1 d.2:Nat):Int)<=d.2:=Int.le_of_dvd (by lia) g1
  have zg:Sz 1800 ((Int.gcd d.1 d.2:Nat):Int):=by unfold Sz at *;lia
  have cop:=Int.gcd_ediv_gcd_ediv_gcd gp
  have bp:1<=d.2/((Int.gcd d.1 d.2:Nat):Int):=by
   have:=Int.ediv_mul_cancel g1;by_cases z:1<=d.2/((Int.gcd d.1 d.2:Nat):Int)
   .exact z
   .have w:=Int.mul_le_mul_of_nonneg_right (show d.2/((Int.gcd d.1 d.2:Nat):Int)<=0 by lia) (show (0:Int)<=((Int.gcd d.1 d.2:Nat):Int) by lia);lia
  refine⟨zg.fd (by lia),zg.fd (by lia),?_⟩;generalize ((Int.gcd d.1 d.2:Nat):Int)=s at cop bp;have t9:(10:Int)^Int.toNat 9=10^9:=rfl
  have ret:∀T:Sto,Pre S T->Q (rwD (zr,at')) T:=λT p=>h T ns ws (zr,at') ((Gr.pre net ha p (Xj p)).mono (by lia)) lat
  refine ifD (λ_=>ret T prS) (λ_=>?_);refine ifD (λ_=>ret T prS) (λc2=>?_);refine ifD (λ_=>ret T prS) (λc3=>?_);refine⟨ns,ws,q,prS _ _ ha,net,by lia,λT2 p2 h2=>?_⟩;have P2:Pre S T2:=λn o e=>p2 n o (prS _ _ e)
  refine ZA (o:=.lst (ws.map wtD)) h2 (VI (i:=(at':Int)) ⟨by lia,by rw[net.len];lia⟩) ?_;refine ifD (λ_=>ret T2 P2) (λc4=>?_);rw[zK] at c4;have a2:(d.1/s).natAbs<=10^9:=by
   unfold WT at c2;split at c2<;>lia
  have g0:=Gr.pre net ha P2 (Xj P2);refine⟨q,.number (d.1/s) (d.2/s),ns,ws,rfl,g0.nd,by lia,net,⟨⟨bp,by lia⟩,cop,a2⟩,show 1<=16 by decide,λT3 j ns3 ws3 gr3 lj hj wj dj=>?_⟩;have ln3:=gr3.ln
  have w1:=gr3.wt net lat
  have wj1:ws3.getD j 0=1:=wj;refine⟨q,.minus at' j,ns3,ws3,rfl,gr3.nd,by lia,gr3.net,⟨⟨by lia,by lia⟩,by lia,by lia⟩,?_,λT4 j4 ns4 ws4 gr4 lj4 _ _ _=>?_⟩
  .simp only[Nd.wt,zK];lia
  .exact h T4 ns4 ws4 (zr,j4) (((g0.trans gr3).trans gr4).mono (by lia)) lj4
def zb6  (Gp:Dfz WY LO Ou)(FF:Fkz 3 WA PU BP)(YG:Fkz 1 q46 Uy Kp):Fkz 4 WY Ou D4:=
 mkF Gp Ui (λhr=>(Zf (Zl (i:=4) Ui.nd (Yu Zg)) (Zf (Zl (i:=5) Ui.nd (Zi Yg (Zh YG hr (pdv 0 (Zb Za Zg))) Za)) (Zf (Zw (Zu Wc (dv 5) Za (Zn _)) (Ze (Zl (i:=5) Ui.nd (Zi Z2 Za (Zi Yg (dv 5) Za)))) Zz) (Zf (Om (i:=6) PassesOwn.never rfl Ui.nd rfl (Or.inl rfl) rfl YL (pv 5) (Zf (Zl (i:=7) Ui.nd (Zi YK (Zh YG hr (pdv 0 (Zb Za Zg))) Za)) (Zf (Zw (Zu (ZG hr) (Zi Yg (Zi YK (Zh YG hr (pdv 0 (Zb Za Zg))) Za) Za) Za (Zn _)) (Ze (Zl (i:=7) Ui.nd (Zi YK (Zh YG hr (pdv 0 (Zb (Zi Z2 Za (dv 6)) Zg))) Za))) Zz) (Ze (Z9 (Yy (dv 4) (Zh FF hr (pdv 1 (pdv 2 (pdv 3 (Zb (Zh YG hr (pdv 0 (Zb (Zi Z2 Za (dv 6)) Zg))) (pv 7)))))))))))) (Ze (Zk (dv 4)))))))) λS Q ex=>by
  refine kR λn=>kR λa=>kR λb=>kI λg=>kN ?_
  rintro⟨q,xs,ns,ws,bs,hn,ha,hb,nab,net,lb,q4,sb,hg,l50,h⟩;have lt:=Z5 ha
  have na:n≠a:=λe=>by rw[e,ha] at hn;cases hn
  have g0:=Gr.push net ha [.lst []]
  have at0:=Zs S (.lst []);refine D5 (λdl2 S2=>S2=S++[.lst []]/\∃k:Int,(0<=k/\k<8)/\dl2=[some (.ref n),some (.ref a),some (.ref b),some (.int g),some (.ref S.length),some (.int k),none,none]) (λnx hx=>?_) ?_
  .refine⟨xs,Zv hn,⟨by decide,by decide⟩,λc hc=>?_⟩;exact hx _ _ ⟨rfl,_,⟨by lia,by lia⟩,rfl⟩
  rintro dl2 S2 ⟨rfl,k0,hk0,rfl⟩;refine Xd (λdl2 S2=>S2=S++[.lst []]/\∃k:Nat,k<=3/\dl2=[some (.ref n),some (.ref a),some (.ref b),some (.int g),some (.ref S.length),some (.int (k:Int)),none,none]) (λnx hx=>?_) ?_
  .refine ifD (λc=>?_) (λc=>?_)
   .refine hx _ _ ⟨rfl,(1+k0%3).toNat,by lia,?_⟩;rw[Int.toNat_of_nonneg (by lia)];rfl
   .refine hx _ _ ⟨rfl,k0.toNat,by lia,?_⟩;rw[Int.toNat_of_nonneg (by lia)]
  rintro dl2 S2 ⟨rfl,many,hm,rfl⟩;refine⟨⟨by lia,by lia⟩,λk dl' S'=>k<=many/\∃(ns':List Nd)(ws':List Nat)(rows:List (Bool×Nat)),Gr q a (2*k) S ns ws S' ns' ws'/\rows.length=k/\(∀r∈rows,r.2<ns'.length)/\S'[S.length]?=some (.lst (rows.map rwD))/\∃u6 u7:Option D,dl'=[some (.ref n),some (.ref a),some (.ref b),some (.int g),some (.ref S.length),some (.int (many:Int)),u6,u7],⟨zP _,ns,ws,[],g0,rfl,λr hr=>(nomatch hr),at0,_,_,rfl⟩,?_⟩;rintro k dl' S' ⟨hk,ns',ws',rows,gr,lr,ri,hr,u6,u7,rfl⟩;have gl:=gr.ln;split
  .rename_i c;have ck:k<many:=by rw[zK] at c;exact c
   have hn':=gr.kp _ _ na hn
   have hb':=gr.kp _ _ (Ne.symm nab) hb;refine Xd (λdl2 S2=>S'=S2/\∃p:Int,0<=p/\dl2=[some (.ref n),some (.ref a),some (.ref b),some (.int g),some (.ref S.length),some (.int (many:Int)),some (.int (k:Int)),some (.int p)]) (λnx hx=>?_) ?_
   .refine⟨xs,hn',⟨by decide,by decide⟩,λc1 hc1=>?_⟩;exact hx _ _ ⟨rfl,c1/97,by lia,rfl⟩
   rintro dl2 S2 ⟨rfl,pp,pp0,rfl⟩;refine Xd (λdl2 S2=>S'=S2/\∃p:Int,0<=p/\dl2=[some (.ref n),some (.ref a),some (.ref b),some (.int g),some (.ref S.length),some (.int (many:Int)),some (.int (k:Int)),some (.int p)]) (λnx hx=>?_) ?_
   .refine⟨xs,hn',⟨by decide,by decide⟩,λc2 hc2=>?_⟩;refine ifD (λ_=>?_) (λ_=>?_)
    .refine⟨xs,hn',⟨by lia,by lia⟩,λc3 hc3=>?_⟩;exact hx _ _ ⟨rfl,c3/97,by lia,rfl⟩
    .exact hx _ _ ⟨rfl,pp,pp0,rfl⟩
   rintro dl2 S2 ⟨rfl,p,p0,rfl⟩;refine zcS (n:=S.length) (S1:=S') (xs:=rows.map rwD) (λy T=>∃(ns2:List Nd)(ws2:List Nat)(r:Bool×Nat),y=rwD r/\Gr q a 2 S' ns' ws' T ns2 ws2/\r.2<ns2.length) kId hr (λK hK=>?_) (λy T z=>?_) (by rw[zA];lia) λy T z=>?_
   .refine⟨xs,hn',⟨by lia,by lia⟩,λc4 hc4=>?_⟩;exact⟨q,ns',ws',bs,gr.nd,hb',gr.net,lb,q4,sb,hg,hc4.1,p0,⟨by lia,by lia⟩,λT ns2 ws2 r g2 lr2=>hK _ _ ⟨ns2,ws2,r,rfl,g2,lr2⟩⟩
   .obtain⟨ns2,ws2,r,rfl,g2,lr2⟩:=z;exact g2.kp _ _ (by lia) hr
   .obtain⟨ns2,ws2,r,rfl,g2,lr2⟩:=z;have gl2:=g2.ln;refine⟨by lia,ns2,ws2,rows++[r],((gr.trans g2).put (n:=S.length) (by lia) (zC _)).mono (by lia),by simp[lr],λx hx=>?_,?_,_,_,rfl⟩
    .rcases zY.mp hx with z|z
     .have:=ri x z;lia
     .cases zT.mp z;exact lr2
    .rw[zZ];exact Ys (g2.kp _ _ (by lia) hr)
  .rename_i c;have ek:k=many:=by rw[zK] at c;lia
   exact h S' S.length ns' ws' rows (gr.mono (by lia)) (by lia) ri (zC _) hr
def AM  (HI:Dmz Zp.C q3 Pb Me QR):Fmz 1 Zp.C q3 QR Ab:=
 mkM HI zbN (λhr=>(Zf (Xw Zp.cl Zp.n_boxes (dv 0) (Yu (Zb (Ud (ZW UO) rfl XC Boot.«list» (pv 1)) Zg))) (Ze (Xw Zp.cl Zp.n_fates (dv 0) (Yu (Zb ZY Zg)))))) λS Q ex=>by
  refine kR λn=>kR λx=>kN ?_
  rintro⟨T,b0,rfl,rfl,hx,h⟩;refine Xp (v:=.ref (T.length+2)) (S1:=T++[Ob.ins Zp.C [],.lst (b0.map frD),.lst [.ref (T.length+1)]]) (S2:=T++[Ob.ins Zp.C [],.lst (b0.map frD),.lst [.ref (T.length+1)]]) (n:=T.length) (fs:=[]) (λK hK=>?_) kId (Xh ..) (by simp) ?_
  .refine UR (ZV (Zv hx) rfl) ?_;show (if ([D.ref (T++[Ob.ins Zp.C []]).length]:List D).length<=1000 then K (.ref (T++[Ob.ins Zp.C []]++[Ob.lst (b0.map frD)]).length) (T++[Ob.ins Zp.C []]++[Ob.lst (b0.map frD)]++[.lst [D.ref (T++[Ob.ins Zp.C []]).length]]) else False);rw[if_pos (by simp)];simpa using hK
  rw[Xv];refine Xp (v:=.ref (T.length+3)) (S1:=T++[Ob.ins Zp.C [("boxes",.ref (T.length+2))],.lst (b0.map frD),.lst [.ref (T.length+1)],.lst [.non]]) (S2:=T++[Ob.ins Zp.C [("boxes",.ref (T.length+2))],.lst (b0.map frD),.lst [.ref (T.length+1)],.lst [.non]]) (n:=T.length) (fs:=[("boxes",.ref (T.length+2))]) (λK hK=>?_) kId (Xh ..) (by simp) ?_
  .show (if ([D.non]:List D).length<=1000 then K (.ref (T++[Ob.ins Zp.C [("boxes",.ref (T.length+2))],.lst (b0.map frD),.lst [.ref (T.length+1)]]).length) (T++[Ob.ins Zp.C [("boxes",.ref (T.length+2))],.lst (b0.map frD),.lst [.ref (T.length+1)]]++[.lst [.non]]) else False);rw[if_pos (by decide)];simpa using hK
  rw[Xv];refine h _ (T.length+2) (T.length+3) (by lia) (by lia) (λi o e=>Zv e) ⟨Xh ..,⟨[.ref (T.length+1)],by simp,rfl,λi e he=>?_⟩,⟨[.non],by simp,rfl,λi f hf=>?_⟩,by lia,rfl⟩
  .match i,he with
   | 0,he=>cases he;exact⟨T.length+1,rfl,by lia,by lia,by simp⟩
  .match i,hf with
   | 0,hf=>cases hf;exact⟨.non,rfl,rfl⟩
def zae  (Jh:Dmz Zp.C Wm Oc Pj RQ):Fmz 1 Zp.C Wm RQ CM:=
 mkM Jh zfO (λhr=>(Ze (Zk (KA (x1:="box") (x2:="fate") (N:=[]) (caps:=[]) (ar:=Zj Pj) rfl rfl Vz rfl rfl rfl (by decide) rfl Vl Boot.«zip» (Zb (ZT Zp.cl Zp.n_boxes (dv 0)) (Zb (ZT Zp.cl Zp.n_fates (dv 0)) Zg)) (λ_ _ _ _ _ _=>(Zy (pdv 0 (Zb (X4 (Zu YW (dv 1) ZY (Zn _)) (Zy (Zb ZR Zg)) (dv 1)) Zg)))))))) λS Q ex=>by
  refine kR λn=>kN ?_
  rintro⟨a,b,es,fs,B,l9,h⟩;obtain⟨bs,h1,h2,_⟩:=B.bx;obtain⟨ds,k1,k2,k3⟩:=B.ft;refine Kb (n:=a) (n':=b) (S1:=S) (xs:=bs) (ys:=ds) Bu (λK hK=>?_) h1 k1 (by lia) (λk x y hx hy S2 K pr hK=>?_) ?_
  .exact ZS (n:=n) kId B.ins rfl (ZS (n:=n) kId B.ins rfl hK)
  .cases y<;>exact hK
  .exact h _ _ Pre.refl.push (Zs _ _) (B.told h1 k1 _)
def zhs  (Hf:Dfz Xq OU Oo):Fkz 1 Xq Oo C3:=
 mkF Hf zaW (λhr=>(Ze (Zk (Zi Yl (Zd (dv 0) Za) (Zd (dv 0) Za))))) λS Q ex=>by
  refine kP λ_ _=>kN λh=>?_
  exact h
def zag  (Ge:Dfz XD Qm Ux)(Iz:Fkz 1 Xq Oo C3):Fkz 2 XD Ux Ni:=
 mkF Ge zbe (λhr=>(Ze (Zk (Xb (x:="span") (N:=[]) (caps:=[]) (ar:=Zj Qm) rfl rfl csc rfl (by decide) (dv 0) (λ_ _ _ _ _ _=>Yh) (λ_ _ _ _ _ _=>(Zh Iz hr (pv 0))))))) λS Q ex=>by
  refine kR λs=>kN ?_
  rintro⟨vs,hs,l9,h⟩;refine Vi (n:=s) (S1:=S) (o:=.lst (vs.map frD)) (λd=>match d with|.tup [.int a,.int b]=>.int (b-a)|_=>.non) kId hs (by show (vs.map frD).length<=1000;rw[zA];lia) (λx hx S2 K pr hK=>?_) ?_
  .have hx':x∈vs.map frD:=hx;obtain⟨p,_,rfl⟩:=zN.mp hx';exact hK
  .have e2:(Zo (.lst (vs.map frD))).map (λd=>match d with|.tup [.int a,.int b]=>.int (b-a)|_=>.non)=(vs.map wd).map D.int:=by
    show (vs.map frD).map _=_;rw[yA,yA];rfl
   rw[e2];exact h
def zez  (F4:Dfz XE M0 Ub)(Wy:Fkz 2 XD Ux Ni):Fkz 3 XE Ub LU:=
 mkF F4 zga (λhr=>(Ze (Zk (zbz rfl rfl Y0 Boot.«max» (Zh Wy hr (pv 0)) Za)))) λS Q ex=>by
  refine kR λn=>kN ?_
  rintro⟨bs,hb,l9,h⟩;refine zbE (n:=S.length) (S1:=S++[.lst ((bs.map wd).map D.int)]) (S2:=S++[.lst ((bs.map wd).map D.int)]) (zs:=bs.map wd) (e:=.int 0) (λK hK=>⟨bs,hb,l9,hK⟩) kId (Zs _ _) (λe=>?_) λm hm hx=>?_
  .exact h 0 _ Pre.refl.push ⟨λp hp=>(by rw[List.map_eq_nil_iff.mp e] at hp;exact(nomatch hp)),.inl ⟨List.map_eq_nil_iff.mp e,rfl⟩⟩
  .obtain⟨p,hp,rfl⟩:=zN.mp hm;exact h _ _ Pre.refl.push ⟨λq hq=>hx _ (zN.mpr ⟨q,hq,rfl⟩),.inr ⟨p,hp,rfl⟩⟩
def zes (SA:Dmz Zp.C VN P9 Rm QY)(LM_Book_to_look_at:Lm e.K e.mg e.base SA.fd LT)(Vc:Fkz 3 XE Ub LU):Fmz 6 Zp.C VN QY Ho:=
 SA.mk' (zcd (k:=5) SA.F CV (λ_ _ _ _=>nR λ_=>nN:Ln Ho 1) LM_Book_to_look_at.code λA outer s H E hr=>⟨_,(Zf (zeI (x1:="number") (x2:="fate") (N:=[]) (caps:=[]) (ar:=Zj Rm) rfl rfl Vz rfl rfl rfl (by decide) (i:=1) CV.nd rfl rfl rfl XZ Boot.«enumerate» (Zb (ZT Zp.cl Zp.n_fates (dv 0)) Zg) (λ_ _ _ _ _ _=>JO (Zu YW (dv 1) ZY (Zn _))) (λ_ _ _ _ _ _=>(dv 0))) (Ze (Zk (zfn (x:="number") (N:=["self"]) (caps:=[0]) (ar:=Zj Rm) (P:=LT) (q:=LQ) rfl rfl lsc rfl rfl Y0 Boot.«max» (AS (j:=0) hr) rfl LM_Book_to_look_at.hd LM_Book_to_look_at.bm LM_Book_to_look_at.kn rfl (dv 1) (λ_ _ _ L _ _=>have hr:=zcy (j:=3) hr (Lv _ _ L _ _ _);(Zh Vc hr (Zb (ZE (ZT Zp.cl Zp.n_boxes (dv 1)) (dv 0)) Zg))))))),λds S Q ex h=>by
  replace h:=eR h;obtain⟨n,rfl,h⟩:=h;obtain⟨a,b,t,es,fs,B,ht,l9,le,h0,hi⟩:=h;obtain⟨ds,k1,k2,k3⟩:=B.ft;have lf:=B.len
  have tb:t≠b:=λe=>by rw[e,k1] at ht;cases ht
  refine Cz (n:=b) (S1:=S) (xs:=ds) (λk ys S2=>S2=S++[.lst ys]/\ys.length<=k/\(∀y∈ys,∃i:Nat,fs[i]?=some .wait/\y=.int (i:Int))/\(ys=[]->∀i:Nat,i<k->fs[i]?≠some .wait)) (λk x=>match x with|.non=>true|_=>false) (λK hK=>by exact ZS (n:=n) kId B.ins rfl hK) k1 (λk ys S2 w=>by obtain⟨rfl,w2,_⟩:=w;exact⟨Zv k1,Zs _ _,w2⟩) (by lia) ⟨rfl,zC _,λy hy=>(nomatch hy),λ_ i hi=>absurd hi (by lia)⟩ ?_ ?_ ?_ ?_
  .intro k x ys S2 K hx w hK;obtain⟨f,hf⟩:∃f,fs[k]?=some f:=⟨_,zD (show k<fs.length by have:=(zB.mp hx).1;lia)⟩;obtain⟨d,hd,o⟩:=k3 k f hf;rw[hx] at hd;cases hd;cases f with
   | wait=>cases o;exact hK
   | small=>cases o;exact hK
   | one=>obtain⟨_,_,_,_,_,rfl⟩:=o;exact hK
   | cut _ _ _ _=>cases o;exact hK
   | out _ _=>obtain⟨_,rfl,_⟩:=o;exact hK
   | full _=>obtain⟨_,rfl,_⟩:=o;exact hK
  .rintro k x ys S2 hx hb ⟨rfl,w2,w3,w4⟩;refine⟨rfl,by lia,w3,λe i hi=>?_⟩;by_cases c:i=k
   .subst c;intro z;obtain⟨d,hd,o⟩:=k3 i _ z;rw[hx] at hd;cases hd;cases o;cases hb
   .exact w4 e i (by lia)
  .rintro k x ys S2 K hx hb ⟨rfl,w2,w3,w4⟩ hK;obtain⟨f,hf⟩:∃f,fs[k]?=some f:=⟨_,zD (show k<fs.length by have:=(zB.mp hx).1;lia)⟩;have ew:f=.wait:=by
    obtain⟨d,hd,o⟩:=k3 k f hf;rw[hx] at hd;cases hd;cases f with
    | wait=>rfl
    | small=>cases o;cases hb
    | one=>obtain⟨_,_,_,_,_,rfl⟩:=o;cases hb
    | cut _ _ _ _=>cases o;cases hb
    | out _ _=>obtain⟨_,rfl,_⟩:=o;cases hb
    | full _=>obtain⟨_,rfl,_⟩:=o;cases hb
   subst ew;refine hK _ _ (Zs _ _) ⟨by rw[Ve],by simp;lia,λy hy=>?_,λe=>absurd e (by simp)⟩;rcases zY.mp hy with z|z
   .exact w3 y z
   .cases zT.mp z;exact⟨k,hf,rfl⟩
  .rintro ys S2 ⟨rfl,w2,w3,w4⟩;refine zer (n:=S.length) (t:=t) (S1:=S++[.lst ys]) (xs:=ys) kId (Zv ht) (Zs _ _) (λe=>?_) (λv S3 K hv p hK=>?_) λv S3 hv p=>?_
   .refine h0 (λf hf z=>?_) _ Pre.refl.push;obtain⟨i,hi'⟩:=List.mem_iff_getElem?.mp hf;subst z;exact w4 e i (by rw[k2];exact(zB.mp hi').1) hi'
   .obtain⟨i,hf,rfl⟩:=w3 v hv;have li:=(zB.mp hf).1
    have B3:=(B.pre (T:=S++[.lst ys]) Pre.refl.push).pre p
    have he:=zD (show i<es.length by lia);obtain⟨bs,m,h1,h2,o⟩:=B3.box he;refine ZS (n:=n) kId B3.ins rfl ?_;refine ZA (o:=.lst bs) h1 (Yx (j:=i) h2) ?_;exact⟨_,o.2.2,le _ (yW ..),λm T p2 _=>hK _ _ p2⟩
   .obtain⟨i,hf,rfl⟩:=w3 v hv;exact hi i _ hf λx o e=>p _ _ (Zv e)⟩)
def zeN  (JK:Dfz "bars" OL SH):Fkz 1 "bars" SH Hz:=
 mkF JK zbk (λhr=>(Zf (Zw (Zu (ZG hr) (dv 0) ZR (Zn _)) (Ze (Zk (Du (Ye Wc (Zd (dv 1) Za) Za (Zn _)) (X3 (Ye Yv (Zd (dv 1) Za) Za (Zn _)))))) Zz) (Ze (Zk (Ye Yv (Zd (dv 1) Za) Za (Zn _)))))) λS Q ex=>by
  refine kS λ_=>kP λ_ _=>kN λh=>?_
  rcases h with ⟨rfl,h⟩|⟨rfl,h⟩
  .refine ifD (λc=>?_) (λc=>?_)
   .rw[decide_eq_true c,Bool.true_or] at h;exact h
   .rw[decide_eq_false c,Bool.false_or] at h;exact h
  .exact h
def zdF  (FT:Dfz "less" Nr RO):Fkz 1 "less" RO EN:=
 mkF FT zeH (λhr=>(Ze (Zk (Ye Yv (Zi ZK (Zd (dv 0) Za) (Zd (dv 1) Za)) (Zi ZK (Zd (dv 1) Za) (Zd (dv 0) Za)) (Zn _))))) λS Q ex=>by
  refine kP λ_ _=>kP λ_ _=>kN ?_
  rintro⟨⟨h1,h2⟩,h⟩;exact⟨h1,h2,h⟩
def zcE  (IU:Dfz q33 Kh VD):Fkz 1 q33 VD Ow:=
 mkF IU zeD (λhr=>(Ze (Zk (Wf X5 (Zi Xx (Wf X5 (dv 0)) (dv 1)))))) λS Q ex=>by
  refine kI λ_=>kI λ_=>kN λh=>?_
  exact h
def zfC  (Ik:Dfz q95 NB Oi)(XR:Fkz 1 q33 VD Ow)(K0:Fkz 1 "less" RO EN):Fkz 2 q95 Oi Bm:=
 mkF Ik zbP (λhr=>(Zf (Zw (YS (Zh K0 hr (pdv 1 (pv 0)))) (Ze zbh) Zz) (Ze (Zk (Zy (Zb (Zi Xx (Zi ZK (Zd (dv 0) Za) (dv 2)) (Zd (dv 0) Za)) (Zb (Zh XR hr (Zb (Zi ZK (Zd (dv 1) Za) (dv 2)) (Zb (Zd (dv 1) Za) Zg))) Zg))))))) λS Q ex=>by
  refine kP λ_ _=>kP λ_ _=>kI λ_=>kN ?_
  rintro⟨⟨⟨m1,m2⟩,nl,m3,m4,f1,f2⟩,h⟩;refine⟨⟨m1,m2⟩,ifF (decide_eq_false nl) ?_⟩;exact⟨m3,f1,m4,f2,h⟩
def zaw  (Hi:Dmz ZU.C q6 U0 O6 Rq)(HN:Fkz 2 q95 Oi Bm):Fmz 3 ZU.C q6 Rq Jv:=
 mkM Hi BH (λhr=>(Zf (Zl (i:=4) BH.nd (Zy (Zb (ZT ZU.cl ZU.n_top (dv 0)) (Zb (ZT ZU.cl ZU.n_bottom (dv 0)) Zg)))) (Ze (Zk (Zh HN hr (pdv 4 (pdv 4 (pv 3)))))))) λS Q ex=>by
  refine kR λn=>kR λw=>kR λp=>kI λg=>kN ?_
  rintro⟨x,y,vs,bs,hn,hw,hp,ok,s1,hg,h⟩;have sg:Sz 21 g:=Sz.of 1000000 (by lia)
  have sx:Sz 31 x:=Sz.of (10^9) ok.2.2
  have sy:Sz 31 y:=Sz.of (10^9) (by have:=ok.1;lia);refine ZS (n:=n) kId hn rfl ?_;refine ZS (n:=n) kId hn rfl ?_;exact⟨⟨⟨ZF sx sy,ZF sx sy⟩,by lia,ZF sx sg,ZF sx sg,sy.fd (by have:=ok.1;lia),sy.fd (by have:=ok.1;lia)⟩,h⟩
def zd8  (FH:Dmz ZX.C q6 Se L7 Q6):Fmz 1 ZX.C q6 Q6 JM:=
 mkM FH zhE (λhr=>(Ze (Zk (ZE (dv 2) (ZT ZX.cl ZX.n_place (dv 0)))))) λS Q ex=>by
  refine kR λn=>kR λw=>kR λp=>kI λg=>kN ?_
  rintro⟨k,vs,bs,hn,hw,hp,ok,s1,hg,h⟩;refine ZS (n:=n) kId hn rfl ?_;exact ZA (o:=.lst (bs.map frD)) hp (ZQ ok) h
def zhD  (FG:Dfz q30 Lx Wh):Fkz 1 q30 Wh Ur:=
 mkF FG zfS (λhr=>(Ze (Zk (Zy (Zb (Zi Z2 (Zd (dv 0) Za) (Zd (dv 1) Za)) (Zb (Zi Z2 (Zd (dv 0) Za) (Zd (dv 1) Za)) Zg)))))) λS Q ex=>by
  refine kP λ_ _=>kP λ_ _=>kN λh=>?_
  exact h
def zca  (Jf:Dmz ZM.C q6 Td NS Px)(YQ:Fkz 1 q30 Wh Ur):Fmz 2 ZM.C q6 Px Hy:=
 mkM Jf zex (λhr=>(Ze (Zk (Zh YQ hr (Zb (ZE (dv 1) (ZT ZM.cl ZM.n_one (dv 0))) (Zb (ZE (dv 1) (ZT ZM.cl ZM.n_other (dv 0))) Zg)))))) λS Q ex=>by
  refine kR λn=>kR λw=>kR λp=>kI λg=>kN ?_
  rintro⟨i,j,vs,bs,hn,hw,hp,ok,s1,hg,h⟩;refine ZS (n:=n) kId hn rfl ?_;refine ZA (o:=.lst (vs.map frD)) hw (ZQ ok.1) ?_;refine ZS (n:=n) kId hn rfl ?_;refine ZA (o:=.lst (vs.map frD)) hw (ZQ ok.2) ?_;exact h
def zbf  (IS:Dfz q23 Nq X7):Fkz 1 q23 X7 VH:=
 mkF IS zhB (λhr=>(Ze (Zk (Zy (Zb (Zi Yl (Zd (dv 0) Za) (Zd (dv 1) Za)) (Zb (Zi Yl (Zd (dv 0) Za) (Zd (dv 1) Za)) Zg)))))) λS Q ex=>by
  refine kP λ_ _=>kP λ_ _=>kN λh=>?_
  exact h
def zgc  (JQ:Dmz ZN.C q6 So Lu RG)(Yt:Fkz 1 q23 X7 VH):Fmz 2 ZN.C q6 RG Hs:=
 mkM JQ A6 (λhr=>(Ze (Zk (Zh Yt hr (Zb (ZE (dv 1) (ZT ZN.cl ZN.n_one (dv 0))) (Zb (ZE (dv 1) (ZT ZN.cl ZN.n_other (dv 0))) Zg)))))) λS Q ex=>by
  refine kR λn=>kR λw=>kR λp=>kI λg=>kN ?_
  rintro⟨i,j,vs,bs,hn,hw,hp,ok,s1,hg,h⟩;refine ZS (n:=n) kId hn rfl ?_;refine ZA (o:=.lst (vs.map frD)) hw (ZQ ok.1) ?_;refine ZS (n:=n) kId hn rfl ?_;refine ZA (o:=.lst (vs.map frD)) hw (ZQ ok.2) ?_;exact h
def zbd  (Gh:Dfz q40 Md VS)(XR:Fkz 1 q33 VD Ow):Fkz 2 q40 VS RN:=
 mkG Gh Di (λhr=>(Zf (Zl (i:=3) Di.nd (Yu (Zb (Zi ZK (Zd (dv 0) Za) (Zd (dv 1) Za)) (Zb (Zi ZK (Zd (dv 0) Za) (Zd (dv 1) Za)) (Zb (Zi ZK (Zd (dv 0) Za) (Zd (dv 1) Za)) (Zb (Zi ZK (Zd (dv 0) Za) (Zd (dv 1) Za)) Zg)))))) (Ze (Zk (Zy (Zb (Zi Xx (ZO (ZW (V1 rfl)) rfl XY Boot.«min» (pv 3)) (dv 2)) (Zb (Zh XR hr (Zb (ZO (ZW (W3 rfl)) rfl Y0 Boot.«max» (pv 3)) (pv 2))) Zg))))))) λS Q0 ex0=>by
  refine kP λa b=>kP λc d=>kI λg=>kN ?_
  rintro⟨⟨⟨m1,m2,m3,m4⟩,hg⟩,h⟩;refine⟨m1,m2,m3,m4,?_⟩;apply Vy
  .exact Zs _ _
  .rfl
  .simp
  intro mn n1 n2;refine⟨hg,?_⟩;apply Vy
  .exact Zs _ _
  .rfl
  .simp
  intro mx x1 x2;refine⟨hg,?_⟩;exact⟨Pre.refl.push,SR,h mn mx (SF.of n1 n2 x1 x2)⟩
def zcP  (G7:Dmz ZL.C q6 TK OK Ov)(Xz:Fkz 2 q40 VS RN):Fmz 3 ZL.C q6 Ov JW:=
 mkM G7 zc5 (λhr=>(Ze (Zk (Zh Xz hr (Zb (ZE (dv 1) (ZT ZL.cl ZL.n_one (dv 0))) (Zb (ZE (dv 1) (ZT ZL.cl ZL.n_other (dv 0))) (pv 3))))))) λS Q ex=>by
  refine kR λn=>kR λw=>kR λp=>kI λg=>kN ?_
  rintro⟨i,j,vs,bs,hn,hw,hp,ok,s1,hg,h⟩;refine ZS (n:=n) kId hn rfl ?_;refine ZA (o:=.lst (vs.map frD)) hw (ZQ ok.1) ?_;refine ZS (n:=n) kId hn rfl ?_;refine ZA (o:=.lst (vs.map frD)) hw (ZQ ok.2) ?_;have a:=s1.at ok.1
  have b:=s1.at ok.2
  have sg:Sz 21 g:=Sz.of 1000000 (by lia);refine⟨⟨⟨ZF a.2.1 b.2.1,ZF a.2.1 b.2.2,ZF a.2.2 b.2.1,ZF a.2.2 b.2.2⟩,sg.fd (by lia)⟩,λmn mx hc=>?_⟩;obtain⟨rfl,rfl⟩:=hc.eq;exact h
def zd5  (HD:Dfz q69 OV W9):Fkz 1 q69 W9 Rj:=
 mkF HD NX (λhr=>(Zf (Zl (i:=2) NX.nd Za) (Zf (Om (i:=3) PassesOwn.never rfl NX.nd rfl (Or.inl rfl) rfl YL (pv 1) (Ze (Zl (i:=2) NX.nd (Zi ZK (dv 2) (dv 0))))) (Ze (Zk (dv 2)))))) λS Q ex=>by
  refine kI λx=>kI λn=>kN ?_
  rintro⟨⟨h0,h6,sx⟩,h⟩;refine⟨⟨by lia,by lia⟩,λk dl' S'=>S'=S/\k<=n.toNat/\∃(z:Int)(o:Option D),z=x^k/\dl'=[some (.int x),some (.int n),some (.int z),o],⟨rfl,zP _,1,none,(Int.pow_zero x).symm,rfl⟩,?_⟩;rintro k dl' S' ⟨rfl,hk,z,o,rfl,rfl⟩;refine ite2 (λc=>?_) (λc=>?_)
  .exact⟨ZF (m:=12001) (n:=2000) ((sx.pow k).mono (by lia)) sx,rfl,by lia,_,_,(xD x k).symm,rfl⟩
  .have e:k=n.toNat:=by lia
   subst e;exact h
def zda  (Gm:Dfz q43 PV Rb)(XR:Fkz 1 q33 VD Ow)(Y3:Fkz 1 q69 W9 Rj):Fkz 2 q43 Rb K6:=
 mkG Gm OP (λhr=>(Zf (Zl (i:=3) OP.nd (Yu (Zb (Zd (dv 0) Za) (Zb (Zd (dv 0) Za) Zg)))) (Zf (Zw (Ey Yv Yv (Zd (dv 0) Za) Za (Zd (dv 0) Za)) (Ze (Z9 (Yy (dv 3) Za))) Zz) (Zf (E1 (x:="place") (N:=["grid","many"]) (caps:=[2,1]) (ar:=Zj PV) rfl rfl csc rfl (by decide) (i:=4) OP.nd rfl rfl (dv 3) (λ_ _ _ _ _ _=>Yh) (λ_ _ _ _ _ _=>(Zi ZK (Zh Y3 hr (pdv 0 (pv 2))) (dv 1)))) (Zf (Zl (i:=5) OP.nd (Zh Y3 hr (pdv 2 (pv 1)))) (Ze (Zk (Zy (Zb (Zi Xx (ZO (ZW (V1 rfl)) rfl XY Boot.«min» (pv 4)) (dv 5)) (Zb (Zh XR hr (Zb (ZO (ZW (W3 rfl)) rfl Y0 Boot.«max» (pv 4)) (pv 5))) Zg)))))))))) λS Q0 ex0=>by
  refine kP λa b=>kI λn=>kI λg=>kN ?_
  rintro⟨⟨n2,n6,za,zb,hg,zg⟩,h⟩;refine ifD (λc1=>?_) (λc1=>?_)
  .refine ifD (λc2=>?_) (λc2=>?_)
   .refine YO (n:=S.length) (λK hK=>hK) (Zs _ _) (λK hK=>hK) (by simp) ?_;refine Vi (n:=S.length) (o:=.lst [.int a,.int b,.int 0]) (λd=>match d with|.int v=>.int (v^n.toNat*g)|_=>.non) (λK hK=>hK) (by simp) (by simp[Zo]) (λx hx S2 K _ hK=>?_) ?_
    .have hx':x=.int a\/x=.int b\/x=.int 0:=by simpa [Zo] using hx
     rcases hx' with rfl|rfl|rfl
     all_goals exact⟨⟨by lia,n6,by first|exact za.mono (by decide)|exact zb.mono (by decide)|exact Sz.of (n:=2000) 0 (by decide)⟩,ZF (m:=12001) (n:=1400) (((Sz.mono (n:=2000) (by first|exact za|exact zb|exact Sz.of (n:=1400) 0 (by decide)) (by decide)).pow _).mono (by lia)) zg,hK⟩
    refine⟨⟨by lia,n6,zg.mono (by decide)⟩,?_⟩;have gp:(0:Int)<g^n.toNat:=yF (by lia)
    have zgp:Sz 8401 (g^n.toNat):=(zg.pow _).mono (by lia);apply Vy
    .exact Zs _ _
    .rfl
    .simp
    intro mn q1 q2;refine⟨zgp.fd gp,?_⟩;apply Vy
    .exact Zs _ _
    .rfl
    .simp
    intro mx x1 x2;refine⟨zgp.fd gp,?_⟩;obtain⟨m,M,hP,rfl,rfl⟩:=VX.of (n:=n.toNat) hg (.inr ⟨rfl,c1,c2⟩) (by lia) q1 q2 x1 x2;have r:=h m M hP;rw[<- S8 hg (by lia),<- S8 hg (by lia),xC] at r;exact⟨(λi o e=>Vf (by rw[List.set_append_right _ _ (zC _),zI (zB.mp e).1];exact e)),SR,r⟩
   .skip
    refine Vi (n:=S.length) (o:=.lst [.int a,.int b]) (λd=>match d with|.int v=>.int (v^n.toNat*g)|_=>.non) (λK hK=>hK) (Zs _ _) (by simp[Zo]) (λx hx S2 K _ hK=>?_) ?_
    .have hx':x=.int a\/x=.int b:=by simpa [Zo] using hx
     rcases hx' with rfl|rfl
     all_goals exact⟨⟨by lia,n6,by first|exact za.mono (by decide)|exact zb.mono (by decide)|exact Sz.of (n:=2000) 0 (by decide)⟩,ZF (m:=12001) (n:=1400) (((Sz.mono (n:=2000) (by first|exact za|exact zb|exact Sz.of (n:=1400) 0 (by decide)) (by decide)).pow _).mono (by lia)) zg,hK⟩
    refine⟨⟨by lia,n6,zg.mono (by decide)⟩,?_⟩;have gp:(0:Int)<g^n.toNat:=yF (by lia)
    have zgp:Sz 8401 (g^n.toNat):=(zg.pow _).mono (by lia);apply Vy
    .exact Zs _ _
    .rfl
    .simp
    intro mn q1 q2;refine⟨zgp.fd gp,?_⟩;apply Vy
    .exact Zs _ _
    .rfl
    .simp
    intro mx x1 x2;refine⟨zgp.fd gp,?_⟩;obtain⟨m,M,hP,rfl,rfl⟩:=VX.of (n:=n.toNat) hg (.inl ⟨rfl,λc=>c2 c.2⟩) (by lia) q1 q2 x1 x2;have r:=h m M hP;rw[<- S8 hg (by lia),<- S8 hg (by lia),xC] at r;exact⟨Pre.refl.push.push,SR,r⟩
  .skip
   refine Vi (n:=S.length) (o:=.lst [.int a,.int b]) (λd=>match d with|.int v=>.int (v^n.toNat*g)|_=>.non) (λK hK=>hK) (Zs _ _) (by simp[Zo]) (λx hx S2 K _ hK=>?_) ?_
   .have hx':x=.int a\/x=.int b:=by simpa [Zo] using hx
    rcases hx' with rfl|rfl
    all_goals exact⟨⟨by lia,n6,by first|exact za.mono (by decide)|exact zb.mono (by decide)|exact Sz.of (n:=2000) 0 (by decide)⟩,ZF (m:=12001) (n:=1400) (((Sz.mono (n:=2000) (by first|exact za|exact zb|exact Sz.of (n:=1400) 0 (by decide)) (by decide)).pow _).mono (by lia)) zg,hK⟩
   refine⟨⟨by lia,n6,zg.mono (by decide)⟩,?_⟩;have gp:(0:Int)<g^n.toNat:=yF (by lia)
   have zgp:Sz 8401 (g^n.toNat):=(zg.pow _).mono (by lia);apply Vy
   .exact Zs _ _
   .rfl
   .simp
   intro mn q1 q2;refine⟨zgp.fd gp,?_⟩;apply Vy
   .exact Zs _ _
   .rfl
   .simp
   intro mx x1 x2;refine⟨zgp.fd gp,?_⟩;obtain⟨m,M,hP,rfl,rfl⟩:=VX.of (n:=n.toNat) hg (.inl ⟨rfl,λc=>c1 c.1⟩) (by lia) q1 q2 x1 x2;have r:=h m M hP;rw[<- S8 hg (by lia),<- S8 hg (by lia),xC] at r;exact⟨Pre.refl.push.push,SR,r⟩
def zaV  (J8:Dmz ZH.C q6 Tu O8 Oq)(SE:Fkz 2 q43 Rb K6):Fmz 3 ZH.C q6 Oq GD:=
 mkM J8 zck (λhr=>(Ze (Zk (Zh SE hr (Zb (ZE (dv 1) (ZT ZH.cl ZH.n_one (dv 0))) (Zb (ZT ZH.cl ZH.n_many (dv 0)) (pv 3))))))) λS Q ex=>by
  refine kR λn=>kR λw=>kR λp=>kI λg=>kN ?_
  rintro⟨i,m,vs,bs,hn,hw,hp,ok,s1,hg,h⟩;refine ZS (n:=n) kId hn rfl ?_;refine ZA (o:=.lst (vs.map frD)) hw (ZQ ok.1) ?_;refine ZS (n:=n) kId hn rfl ?_;have a:=s1.at ok.1
  have sg:Sz 21 g:=Sz.of 1000000 (by lia);refine⟨⟨by have:=ok.2.1;lia,ok.2.2,a.2.1,a.2.2,hg.1,sg.mono (by decide)⟩,λm' M' hP=>?_⟩;obtain⟨rfl,rfl⟩:=hP.eq (by have:=ok.2.1;lia);exact h
def zeh  (HH:Dmz ZH.C q3 Tr Lp Qo):Fmz 1 ZH.C q3 Qo BD:=
 mkM HH zfx (λhr=>(Zf (Xw ZH.cl ZH.n_one (dv 0) (dv 1)) (Ze (Xw ZH.cl ZH.n_many (dv 0) (dv 2))))) λS Q ex=>by
  refine kR λn=>kD λx=>kD λy=>kN ?_
  rintro⟨T,rfl,rfl,h⟩;refine Xp (v:=x) (S1:=T++[Ob.ins ZH.C []]) (S2:=T++[Ob.ins ZH.C []]) (n:=T.length) (fs:=[]) kId kId (Xh ..) (by simp) ?_;rw[Xv];refine Xp (v:=y) (S1:=T++[Ob.ins ZH.C [("one",x)]]) (S2:=T++[Ob.ins ZH.C [("one",x)]]) (n:=T.length) (fs:=[("one",x)]) kId kId (Xh ..) (by simp) ?_;rw[Xv];exact h
def zeq  (Fn:Dmz ZU.C q3 SX O2 PC):Fmz 1 ZU.C q3 PC Ep:=
 mkM Fn zaU (λhr=>(Zf (Xw ZU.cl ZU.n_top (dv 0) (dv 1)) (Ze (Xw ZU.cl ZU.n_bottom (dv 0) (dv 2))))) λS Q ex=>by
  refine kR λn=>kD λx=>kD λy=>kN ?_
  rintro⟨T,rfl,rfl,h⟩;refine Xp (v:=x) (S1:=T++[Ob.ins ZU.C []]) (S2:=T++[Ob.ins ZU.C []]) (n:=T.length) (fs:=[]) kId kId (Xh ..) (by simp) ?_;rw[Xv];refine Xp (v:=y) (S1:=T++[Ob.ins ZU.C [("top",x)]]) (S2:=T++[Ob.ins ZU.C [("top",x)]]) (n:=T.length) (fs:=[("top",x)]) kId kId (Xh ..) (by simp) ?_;rw[Xv];exact h
def zav  (KD:Dmz ZX.C q3 Tq LV QI):Fmz 1 ZX.C q3 QI Cv:=
 mkM KD zd3 (λhr=>(Ze (Xw ZX.cl ZX.n_place (dv 0) (dv 1)))) λS Q ex=>by
  refine kR λn=>kD λx=>kN ?_
  rintro⟨T,rfl,rfl,h⟩;refine Xp (v:=x) (S1:=T++[Ob.ins ZX.C []]) (S2:=T++[Ob.ins ZX.C []]) (n:=T.length) (fs:=[]) kId kId (Xh ..) (by simp) ?_;rw[Xv];exact h
def zhf  (F5:Dmz ZM.C q3 q38 MW QL):Fmz 1 ZM.C q3 QL AD:=
 mkM F5 ze3 (λhr=>(Zf (Xw ZM.cl ZM.n_one (dv 0) (dv 1)) (Ze (Xw ZM.cl ZM.n_other (dv 0) (dv 2))))) λS Q ex=>by
  refine kR λn=>kD λx=>kD λy=>kN ?_
  rintro⟨T,rfl,rfl,h⟩;refine Xp (v:=x) (S1:=T++[Ob.ins ZM.C []]) (S2:=T++[Ob.ins ZM.C []]) (n:=T.length) (fs:=[]) kId kId (Xh ..) (by simp) ?_;rw[Xv];refine Xp (v:=y) (S1:=T++[Ob.ins ZM.C [("one",x)]]) (S2:=T++[Ob.ins ZM.C [("one",x)]]) (n:=T.length) (fs:=[("one",x)]) kId kId (Xh ..) (by simp) ?_;rw[Xv];exact h
def zfz  (IE:Dmz ZN.C q3 q38 Lk Qx):Fmz 1 ZN.C q3 Qx Dn:=
 mkM IE zdz (λhr=>(Zf (Xw ZN.cl ZN.n_one (dv 0) (dv 1)) (Ze (Xw ZN.cl ZN.n_other (dv 0) (dv 2))))) λS Q ex=>by
  refine kR λn=>kD λx=>kD λy=>kN ?_
  rintro⟨T,rfl,rfl,h⟩;refine Xp (v:=x) (S1:=T++[Ob.ins ZN.C []]) (S2:=T++[Ob.ins ZN.C []]) (n:=T.length) (fs:=[]) kId kId (Xh ..) (by simp) ?_;rw[Xv];refine Xp (v:=y) (S1:=T++[Ob.ins ZN.C [("one",x)]]) (S2:=T++[Ob.ins ZN.C [("one",x)]]) (n:=T.length) (fs:=[("one",x)]) kId kId (Xh ..) (by simp) ?_;rw[Xv];exact h
def zhS  (J0:Dmz ZL.C q3 q38 Ms RL):Fmz 1 ZL.C q3 RL B9:=
 mkM J0 zbm (λhr=>(Zf (Xw ZL.cl ZL.n_one (dv 0) (dv 1)) (Ze (Xw ZL.cl ZL.n_other (dv 0) (dv 2))))) λS Q ex=>by
  refine kR λn=>kD λx=>kD λy=>kN ?_
  rintro⟨T,rfl,rfl,h⟩;refine Xp (v:=x) (S1:=T++[Ob.ins ZL.C []]) (S2:=T++[Ob.ins ZL.C []]) (n:=T.length) (fs:=[]) kId kId (Xh ..) (by simp) ?_;rw[Xv];refine Xp (v:=y) (S1:=T++[Ob.ins ZL.C [("one",x)]]) (S2:=T++[Ob.ins ZL.C [("one",x)]]) (n:=T.length) (fs:=[("one",x)]) kId kId (Xh ..) (by simp) ?_;rw[Xv];exact h
def zdQ  (IM:Dfz q71 M6 V6)(Ti:Fmz 1 ZH.C q3 Qo BD)(Sg:Fmz 1 ZL.C q3 RL B9)(Sk:Fmz 1 ZN.C q3 Qx Dn)(T7:Fmz 1 ZM.C q3 QL AD)(Tt:Fmz 1 ZX.C q3 QI Cv)(UT:Fmz 1 ZU.C q3 PC Ep):Fkz 3 q71 V6 MO:=
 mkF IM zep (λhr=>(Zf (Zw (Zu (ZG hr) (Zd (dv 0) Za) ZR (Zn _)) (Ze (Zk (UQ ⟨ZU.makes,UT.m.at_,UT.m.fn,ZU.kp⟩ UT.ok (hr.mono (by decide)) rfl ZU.m UT.b Us (Zb (Zd (dv 0) Za) (Zb (Zd (dv 0) Za) Zg))))) Zz) (Zf (Zw (Zu (ZG hr) (Zd (dv 0) Za) ZR (Zn _)) (Ze (Zk (UQ ⟨ZX.makes,Tt.m.at_,Tt.m.fn,ZX.kp⟩ Tt.ok (hr.mono (by decide)) rfl ZX.m Tt.b Us (Zb (Zd (dv 0) Za) Zg)))) Zz) (Zf (Zw (Zu (ZG hr) (Zd (dv 0) Za) ZR (Zn _)) (Ze (Zk (UQ ⟨ZM.makes,T7.m.at_,T7.m.fn,ZM.kp⟩ T7.ok (hr.mono (by decide)) rfl ZM.m T7.b Us (Zb (Zd (dv 0) Za) (Zb (Zd (dv 0) Za) Zg))))) Zz) (Zf (Zw (Zu (ZG hr) (Zd (dv 0) Za) ZR (Zn _)) (Ze (Zk (UQ ⟨ZN.makes,Sk.m.at_,Sk.m.fn,ZN.kp⟩ Sk.ok (hr.mono (by decide)) rfl ZN.m Sk.b Us (Zb (Zd (dv 0) Za) (Zb (Zd (dv 0) Za) Zg))))) Zz) (Zf (Zw (Zu (ZG hr) (Zd (dv 0) Za) ZR (Zn _)) (Ze (Zk (UQ ⟨ZL.makes,Sg.m.at_,Sg.m.fn,ZL.kp⟩ Sg.ok (hr.mono (by decide)) rfl ZL.m Sg.b Us (Zb (Zd (dv 0) Za) (Zb (Zd (dv 0) Za) Zg))))) Zz) (Ze (Zk (UQ ⟨ZH.makes,Ti.m.at_,Ti.m.fn,ZH.kp⟩ Ti.ok (hr.mono (by decide)) rfl ZH.m Ti.b Us (Zb (Zd (dv 0) Za) (Zb (Zd (dv 0) Za) Zg))))))))))) λS Q ex=>by
  refine kD λ_=>kN ?_
  rintro⟨v,rfl,h⟩;cases v<;>exact⟨S,rfl,rfl,rfl,h⟩
def za6  (IW:Dfz q28 MD XI)(F7:Fmz 3 ZH.C q6 Oq GD)(Ha:Fmz 3 ZL.C q6 Ov JW)(GX:Fmz 2 ZN.C q6 RG Hs)(Fh:Fmz 2 ZM.C q6 Px Hy)(Jr:Fmz 1 ZX.C q6 Q6 JM)(KO:Fmz 3 ZU.C q6 Rq Jv)(Vj:Fkz 3 q71 V6 MO):Fkz 4 q28 XI Vn:=
 mkF IW FI (λhr=>(Zf (Zl (i:=3) FI.nd (Yu Zg)) (Zf (W7 (i:=4) PassesOwn.never rfl FI.nd rfl (Or.inl rfl) (dv 0) (Ze (Z9 (Yy (dv 3) (Gs (Zh Vj hr (pv 4)) (YM ZU.cl KO (hr.mono (by decide)) (YM ZX.cl Jr (hr.mono (by decide)) (YM ZM.cl Fh (hr.mono (by decide)) (YM ZN.cl GX (hr.mono (by decide)) (YM ZL.cl Ha (hr.mono (by decide)) (YM ZH.cl F7 (hr.mono (by decide)) JD)))))) YC (pdv 3 (pdv 1 (pv 2)))))))) (Ze (Zk (dv 3)))))) λS Q ex=>by
  refine kR λa=>kR λb=>kI λg=>kN ?_
  rintro⟨ns,ws,bs,ha,hb,net,sb,hg,hl,h⟩;have disp:∀v:Nd,∃C fs sd,v.oz=.ins C fs/\(C,sd)∈[(ZU.C,Jv),(ZX.C,JM),(ZM.C,Hy),(ZN.C,Hs),(ZL.C,JW),(ZH.C,GD)]/\fs.lookup ("forth":Str)=none/\∀(n w p:Nat)(g:Int)(S:Sto)(Q:DK)(ex:Addr->Sto->Prop)(vs bs:LI),S[n]?=some (v.oz)->S[w]?=some (.lst (vs.map frD))->S[p]?=some (.lst (bs.map frD))->v.ok vs.length bs.length->Spn 1400 vs->(1<=g/\g<=1000000)->Q (frD (v.fw vs bs g)) S->sd [.ref n,.ref w,.ref p,.int g] S Q ex:=by
   intro v;cases v with
   | number x y=>exact⟨_,_,_,rfl,(.head _),rfl,λn w p g S Q ex vs bs a1 a2 a3 a4 a5 a6 q=>⟨x,y,vs,bs,a1,a2,a3,a4,a5,a6,q⟩⟩
   | unknown k=>exact⟨_,_,_,rfl,(.tail _ (.head _)),rfl,λn w p g S Q ex vs bs a1 a2 a3 a4 a5 a6 q=>⟨k,vs,bs,a1,a2,a3,a4,a5,a6,q⟩⟩
   | plus i j=>exact⟨_,_,_,rfl,(.tail _ (.tail _ (.head _))),rfl,λn w p g S Q ex vs bs a1 a2 a3 a4 a5 a6 q=>⟨i,j,vs,bs,a1,a2,a3,a4,a5,a6,q⟩⟩
   | minus i j=>exact⟨_,_,_,rfl,(.tail _ (.tail _ (.tail _ (.head _)))),rfl,λn w p g S Q ex vs bs a1 a2 a3 a4 a5 a6 q=>⟨i,j,vs,bs,a1,a2,a3,a4,a5,a6,q⟩⟩
   | times i j=>exact⟨_,_,_,rfl,(.tail _ (.tail _ (.tail _ (.tail _ (.head _))))),rfl,λn w p g S Q ex vs bs a1 a2 a3 a4 a5 a6 q=>⟨i,j,vs,bs,a1,a2,a3,a4,a5,a6,q⟩⟩
   | power i m=>exact⟨_,_,_,rfl,(.tail _ (.tail _ (.tail _ (.tail _ (.tail _ (.head _)))))),rfl,λn w p g S Q ex vs bs a1 a2 a3 a4 a5 a6 q=>⟨i,m,vs,bs,a1,a2,a3,a4,a5,a6,q⟩⟩
  have la:=Z5 ha
  have lb:=Z5 hb;refine Vx (n:=a) (o:=.lst (ns.map Nd.d)) (λk dl' S'=>k<=ns.length/\Pre S S'/\S'[S.length]?=some (.lst ((Zt bs g (ns.take k)).map frD))/\∃u:Option D,dl'=[some (.ref a),some (.ref b),some (.int g),some (.ref S.length),u]) ⟨zP _,Pre.refl.push,Zs _ _,_,rfl⟩ (λk dl' S' w=>w.2.1 _ _ ha) ?_ ?_
  .rintro k x dl' S' nx ct ex' ⟨hk,pr,hf,u,rfl⟩ hn;have ex2:(ns.map Nd.d)[k]?=some x:=ex';rw[zF] at ex2;obtain⟨v,hv,rfl⟩:=zL.mp ex2;have hk':=(zB.mp hv).1
   have ln:(Zt bs g (ns.take k)).length=k:=by rw[YI,zG];lia
   have okv:v.ok (Zt bs g (ns.take k)).length bs.length:=by rw[ln];exact(net.ok k v hv).1
   obtain⟨C,fs,sd,eo,hm,hf2,go⟩:=disp v;have N1:=Zs S' (v.oz);refine zdd (n:=S.length) (S1:=S') (S2:=S'++[v.oz]) (xs:=(Zt bs g (ns.take k)).map frD) (y:=frD (v.fw (Zt bs g (ns.take k)) bs g)) kId hf (λK hK=>?_) (Zv hf) (by rw[zA,ln];lia) ?_
   .refine G5 (n:=S'.length) (C:=C) (sd:=sd) (fs:=fs) (S1:=S'++[v.oz]) (λK hK=>⟨v,rfl,by exact hK⟩) (by rw[<- eo];exact N1) hm hf2 ?_;exact go _ _ _ _ _ _ _ (Zt bs g (ns.take k)) bs N1 (Zv hf) (Zv (pr _ _ hb)) okv ((NN net rfl sb hg k hk).mono (by decide)) hg hK
   .refine hn _ _ ⟨by lia,Xg (XS pr _) (zC _),?_,_,rfl⟩;rw[Y4 hv,Rx,zZ];exact Ys (Zv hf)
  .rintro dl' S' ⟨hk,pr,hf,u,rfl⟩;refine h _ _ pr (zC _) ?_;have e:ns.take (Zo (.lst (ns.map Nd.d))).length=ns:=by
    show ns.take (ns.map Nd.d).length=ns;rw[zA,yG]
   rw[e] at hf;exact hf
def zbQ  (K9:Dfz q55 Lr Rh)(SJ:Fkz 1 "bars" SH Hz)(Yk:Fkz 4 q28 XI Vn):Fkz 5 q55 Rh GL:=
 mkF K9 C5 (λhr=>(Zf (Zl (i:=4) C5.nd (Zd (dv 1) Za)) (Ze (Zk (Zh SJ hr (Zb (Zd (dv 1) Za) (Zb (ZE (Zh Yk hr (Zb (Wq (dv 0) Wt (WU (Zi Z2 (dv 4) Za))) (pdv 2 (pv 3)))) (dv 4)) Zg))))))) λS Q ex=>by
  refine kR λa=>kT λw k=>kR λb=>kI λg=>kN ?_
  rintro⟨ns,ws,bs,zero,ha,hb,hw,⟨k0,k1⟩,net,sb,hg,hl,h⟩;obtain⟨kn,rfl⟩:∃kn:Nat,k=(kn:Int):=⟨k.toNat,by lia⟩;rw[zK] at h;refine WV (n:=a) (o:=.lst (ns.map Nd.d)) (lo:=none) (hi:=some ((kn:Int)+1)) (S3:=S) kId kId kId ha ?_;have ec:Z7 (ns.map Nd.d) none (some ((kn:Int)+1))=(ns.take (kn+1)).map Nd.d:=by
   rw[QU (by lia) (by rw[zA];lia),xE];rfl
  rw[show Zo (Ob.lst (ns.map Nd.d))=ns.map Nd.d from rfl,ec];refine⟨ns.take (kn+1),ws.take (kn+1),bs,Zs _ _,Zv hb,net.take _,sb,hg,by rw[zG];lia,λT m pr lm hf=>?_⟩;have prS:Pre S T:=λn o e=>pr n o (Zv e)
  have l1:(Zt bs g (ns.take (kn+1))).length=kn+1:=by rw[YI,zG];lia
  have ik:inR (((Zt bs g (ns.take (kn+1))).length:Nat):Int) (kn:Int):=⟨by lia,by lia⟩;refine ZA (o:=.lst ((Zt bs g (ns.take (kn+1))).map frD)) hf (ZQ ik) ?_;rcases hw with ⟨rfl,rfl⟩|⟨rfl,rfl⟩
  .exact .inl ⟨rfl,h T prS⟩
  .exact .inr ⟨rfl,h T prS⟩
def zam  (Fd:Dfz q70 Mp Vu):Fkz 1 q70 Vu TX:=
 mkF Fd Im (λhr=>(Zf (Zl (i:=2) Im.nd (ZO (W3 rfl) rfl Y0 Boot.«max» (Zb (Zd (dv 0) Za) (Zb (Zd (dv 1) Za) Zg)))) (Zf (Zl (i:=3) Im.nd (ZO (V1 rfl) rfl XY Boot.«min» (Zb (Zd (dv 0) Za) (Zb (Zd (dv 1) Za) Zg)))) (Zf (Zw (Zu Wc (dv 2) (dv 3) (Zn _)) (Ze (Zk ZY)) Zz) (Ze (Zk (Zy (pdv 2 (pv 3))))))))) λS Q ex=>by
  refine kP λa b=>kP λc d=>kN ?_
  rintro⟨h1,h2⟩;unfold V7 at h1 h2;refine ifD (λe=>?_) (λe=>?_)
  .exact h1 (if_pos e)
  .exact h2 _ (if_neg e)
def zb1  (Hu:Dfz q75 Np RR)(Y1:Fkz 1 q70 Vu TX):Fkz 2 q75 RR BO:=
 mkF Hu zdo (λhr=>(Zf (Zw (Zu (ZG hr) (dv 0) ZR (Zn _)) (Ze (Zk (Zh Y1 hr (pdv 1 (Zb (Zy (Zb Za (Zb Za Zg))) Zg))))) Zz) (Ze (Zk (Zh Y1 hr (pdv 1 (Zb (Zy (Zb Za (Zb (ZO (W3 rfl) rfl Y0 Boot.«max» (Zb (Zd (dv 1) Za) (Zb Za Zg))) Zg))) Zg))))))) λS Q ex=>by
  refine kS λw=>kP λa b=>kN ?_
  rintro⟨zero,hw,h1,h2⟩;rcases hw with ⟨rfl,rfl⟩|⟨rfl,rfl⟩
  all_goals exact⟨λ_=>h1,λp e=>h2 p.1 p.2 (Qi e)⟩
def zfK  (Gf:Dmz ZU.C "back" Rk MH PN):Fmz 1 ZU.C "back" PN G3:=
 mkM Gf za9 (λhr=>(Ze (Zk (Yu Zg)))) λS Q ex=>by
  refine kR λn=>kR λw=>kP λz0 z1=>kI λg=>kN ?_
  rintro⟨x,y,vs,q,hn,hw,ok,⟨hs,⟨sz0,sz1⟩,hg⟩,h1,h2⟩;exact h2 [] ⟨by simp,λp hp=>nomatch hp⟩
def zf8  (Hq:Dmz ZX.C "back" U2 Mh Qc):Fmz 1 ZX.C "back" Qc HC:=
 mkM Hq zdW (λhr=>(Ze (Zk (Yu Zg)))) λS Q ex=>by
  refine kR λn=>kR λw=>kP λz0 z1=>kI λg=>kN ?_
  rintro⟨k,vs,q,hn,hw,ok,⟨hs,⟨sz0,sz1⟩,hg⟩,h1,h2⟩;exact h2 [] ⟨by simp,λp hp=>nomatch hp⟩
def zbs  (FQ:Dmz ZM.C q13 Sf Lz Pa)(Y1:Fkz 1 q70 Vu TX)(Yt:Fkz 1 q23 X7 VH):Fmz 2 ZM.C q13 Pa Li:=
 mkM FQ zgG (λhr=>(Ze (Zk (Zh Y1 hr (pdv 2 (Zb (Zh Yt hr (pdv 1 (pv 3))) Zg)))))) λS Q ex=>by
  refine kR λ_=>kP λ_ _=>kP λ_ _=>kP λ_ _=>kI λ_=>kN λh=>?_
  exact⟨λ_=>h.2.1,λp e=>h.2.2 p.1 p.2 (Qi e)⟩
def zdE  (HV:Dmz ZM.C q10 Tb Nc R9)(Y1:Fkz 1 q70 Vu TX)(Yt:Fkz 1 q23 X7 VH):Fmz 2 ZM.C q10 R9 Ng:=
 mkM HV ze2 (λhr=>(Ze (Zk (Zh Y1 hr (pdv 3 (Zb (Zh Yt hr (pdv 1 (pv 2))) Zg)))))) λS Q ex=>by
  refine kR λ_=>kP λ_ _=>kP λ_ _=>kP λ_ _=>kI λ_=>kN λh=>?_
  exact⟨λ_=>h.2.1,λp e=>h.2.2 p.1 p.2 (Qi e)⟩
def Kw {C:Addr}{c:Int->Int->Nd}{k:Nat}(p:Pr C c)(d:Dmz C "back" WQ LG Q9)(G_2:Fmz k C q10 R9 Ng)(G_1:Fmz k C q13 Pa Li):Fmz (k+1) C "back" Q9 (Ka c):=
 mkM d O5 (λhr=>(Zf (Zl (i:=4) O5.nd (Wb (C:=C) (dv 0) p.cl G_1.m G_1.ok (hr.mono (zC _)) G_1.b YC (pdv 2 (Zb (ZE (dv 1) (ZT p.cl p.o (dv 0))) (Zb (ZE (dv 1) (ZT p.cl p.t (dv 0))) (pv 3)))))) (Zf (Zw (Zu YW (dv 4) ZY (Zn _)) (Ze (Zk ZY)) Zz) (Zf (Zl (i:=5) O5.nd (X4 (Zu (ZG hr) (ZT p.cl p.o (dv 0)) (ZT p.cl p.t (dv 0)) (Zn _)) (dv 4) (ZE (dv 1) (ZT p.cl p.t (dv 0))))) (Zf (Zl (i:=5) O5.nd (Wb (C:=C) (dv 0) p.cl G_2.m G_2.ok (hr.mono (zC _)) G_2.b YC (pdv 2 (pdv 4 (pdv 5 (pv 3)))))) (Zf (Zw (Zu YW (dv 5) ZY (Zn _)) (Ze (Zk ZY)) Zz) (Ze (Zk (Yu (Zb (Zy (Zb (ZT p.cl p.o (dv 0)) (pv 4))) (Zb (Zy (Zb (ZT p.cl p.t (dv 0)) (pv 5))) Zg))))))))))) λS Q ex=>by
  refine kR λn=>kR λw=>kP λz0 z1=>kI λg=>kN ?_
  rintro⟨i,j,vs,q,hn,hw,ok,⟨hs,⟨sz0,sz1⟩,hg⟩,h1,h2⟩;rw[p.b] at hn;rw[p.k] at ok;have a:=hs.at ok.1
  have b:=hs.at ok.2
  have up:∀ {x:Int},Sz 1000 x->Sz 1100 x:=λz=>z.mono (by decide)
  refine Xe (n:=n) (fs:=[("one",.int i),("other",.int j)]) kId hn rfl ?_;refine ZS (n:=n) kId hn rfl ?_;refine ZA (o:=.lst (vs.map frD)) hw (ZQ ok.1) ?_;refine ZS (n:=n) kId hn rfl ?_;refine ZA (o:=.lst (vs.map frD)) hw (ZQ ok.2) ?_;refine⟨⟨up sz0,up sz1,up b.1,up b.2,Sz.of 1000000 (by lia)⟩,h1,λx x' l=>?_⟩;have z:=l _ a.1 a.2;refine ZS (n:=n) kId hn rfl ?_;refine ZS (n:=n) kId hn rfl ?_;refine ifD (λc=>?_) (λc=>?_)
  all_goals try refine ZS (n:=n) kId hn rfl ?_
  all_goals try refine ZA (o:=.lst (vs.map frD)) hw (ZQ ok.2) ?_
  all_goals
   refine Xe (n:=n) (fs:=[("one",.int i),("other",.int j)]) kId hn rfl ?_;refine⟨⟨up sz0,up sz1,up z.1,up z.2,Sz.of 1000000 (by lia)⟩,h1,λr r' k=>?_⟩;refine ZS (n:=n) kId hn rfl ?_;refine ZS (n:=n) kId hn rfl ?_;exact h2 [(i,x,x'),(j,r,r')] (zdB ok.1 ok.2 z (k _ (by first|exact z.1|exact b.1) (by first|exact z.2|exact b.2)))
def zhN  (Kv:Dmz ZN.C q13 Ta NR NY)(Y1:Fkz 1 q70 Vu TX)(YQ:Fkz 1 q30 Wh Ur):Fmz 2 ZN.C q13 NY zej:=
 mkM Kv zaK (λhr=>(Ze (Zk (Zh Y1 hr (pdv 2 (Zb (Zh YQ hr (pdv 1 (pv 3))) Zg)))))) λS Q ex=>by
  refine kR λ_=>kP λ_ _=>kP λ_ _=>kP λ_ _=>kI λ_=>kN λh=>?_
  exact⟨λ_=>h.2.1,λp e=>h.2.2 p.1 p.2 (Qi e)⟩
def za3  (JA:Dmz ZN.C q10 SG LN Mn)(Y1:Fkz 1 q70 Vu TX)(Yt:Fkz 1 q23 X7 VH):Fmz 2 ZN.C q10 Mn zgS:=
 mkM JA zfg (λhr=>(Ze (Zk (Zh Y1 hr (pdv 3 (Zb (Zh Yt hr (pdv 2 (pv 1))) Zg)))))) λS Q ex=>by
  refine kR λ_=>kP λ_ _=>kP λ_ _=>kP λ_ _=>kI λ_=>kN λh=>?_
  exact⟨λ_=>h.2.1,λp e=>h.2.2 p.1 p.2 (Qi e)⟩
def za0  (Ib:Dfz q36 OY PZ):Fkz 1 q36 PZ Dp:=
 mkF Ib AO (λhr=>(Ze (Zk (zhi YX YX (Zd (dv 0) Za) Za (Zd (dv 0) Za))))) λS Q ex=>by
  refine kP λ_ _=>kN λh=>?_
  exact and2 h
def zdZ  (Io:Dfz q31 Ld TM):Fkz 1 q31 TM JF:=
 mkF Io zcm (λhr=>(Zf (Zw (PDW.pt (Wi (Zu Wc (Zd (dv 1) Za) (Zd (dv 0) Za) (Zn _)) (Ue (Zu Yv (Zd (dv 2) Za) (Zd (dv 0) Za) (Zn _))))) (Ze (Zk ZY)) Zz) (Ze (Zk (Zy (Zb (ZO (W3 rfl) rfl Y0 Boot.«max» (Zb (Zd (dv 1) Za) (Zb (Zd (dv 0) Za) Zg))) (Zb (ZO (V1 rfl) rfl XY Boot.«min» (Zb (Zd (dv 2) Za) (Zb (Zd (dv 0) Za) Zg))) Zg))))))) λS Q ex=>by
  refine kP λx0 x1=>kP λl0 l1=>kP λk0 k1=>kN ?_
  rintro⟨⟨a1,a2⟩,h1,h2⟩;refine ifD (λc=>h1) (λc1=>ifD (λc=>h1) (λc2=>?_));exact h2 (if x0 > l0 then x0 else l0) (if x1<k1 then x1 else k1) λB z0 z1=>⟨Sz.btw z0 z1 (by dsimp only;split<;>lia),Sz.btw z0 z1 (by dsimp only;split<;>lia)⟩
def zgd  (Jl:Dfz q73 N3 QQ)(XR:Fkz 1 q33 VD Ow):Fkz 2 q73 QQ CY:=
 mkF Jl zgy (λhr=>(Ze (Zk (Zy (Zb (Zi Xx (dv 0) (dv 1)) (Zb (Zh XR hr (pdv 0 (pv 1))) Zg)))))) λS Q ex=>by
  refine kI λ_=>kI λ_=>kN ?_
  rintro⟨hb,h⟩;exact⟨hb,hb,h⟩
def zfW  (Gu:Dfz q37 Ki Rz)(VG:Fkz 1 q31 TM JF)(Ks:Fkz 2 q73 QQ CY):Fkz 3 q37 Rz EZ:=
 mkF Gu Pm (λhr=>(Zf (Zl (i:=3) Pm.nd (X4 (Zu Wc (Zd (dv 0) Za) Za (Zn _)) (Zd (dv 2) Za) (Zd (dv 2) Za))) (Zf (Zl (i:=4) Pm.nd (X4 (Zu Yv (Zd (dv 0) Za) Za (Zn _)) (Zd (dv 2) Za) (Zd (dv 2) Za))) (Zf (Zl (i:=5) Pm.nd (X4 (Zu (ZG hr) (dv 3) Za (Zn _)) (Zy (Zb (Zd (dv 1) Za) (Zb (Zd (dv 1) Za) Zg))) (Zh Ks hr (Zb (Zd (dv 0) Za) (pv 3))))) (Zf (Zl (i:=6) Pm.nd (X4 (Zu (ZG hr) (dv 4) Za (Zn _)) (Zy (Zb (Zd (dv 1) Za) (Zb (Zd (dv 1) Za) Zg))) (Zh Ks hr (Zb (Zd (dv 0) Za) (pv 4))))) (Ze (Zk (Zh VG hr (pdv 1 (pdv 5 (pv 6))))))))))) λS Q ex=>by
  refine kP λlo hi=>kP λx0 x1=>kP λc d=>kN ?_
  rintro⟨⟨h0,hd,zc,zd⟩,h⟩;refine ifD (λe1=>?_) (λe1=>?_)
  all_goals refine ifD (λe2=>?_) (λe2=>?_)
  all_goals refine ifD (λe3=>?_) (λe3=>?_)
  all_goals try refine⟨⟨by lia,by first|exact zd.log (by lia)|exact zc.log (by lia)⟩,?_⟩
  all_goals refine ifD (λe4=>?_) (λe4=>?_)
  all_goals try refine⟨⟨by lia,by first|exact zd.log (by lia)|exact zc.log (by lia)⟩,?_⟩
  all_goals exact⟨⟨by first|exact zS _|exact BZ (by lia),by first|exact zS _|exact BZ (by lia)⟩,h⟩
def zaH  (K7:Dfz "hull" Kg RB):Fkz 1 "hull" RB Cw:=
 mkF K7 zf0 (λhr=>(Ze (Zk (Zy (Zb (ZO (V1 rfl) rfl XY Boot.«min» (Zb (Zd (dv 0) Za) (Zb (Zd (dv 1) Za) Zg))) (Zb (ZO (W3 rfl) rfl Y0 Boot.«max» (Zb (Zd (dv 0) Za) (Zb (Zd (dv 1) Za) Zg))) Zg)))))) λS Q ex=>by
  refine kP λ_ _=>kP λ_ _=>kN λh=>?_
  exact h
def zgf  (OS:Dfz Xo Mx T6)(KC:Fkz 1 "hull" RB Cw):Fkz 2 Xo T6 Tp:=
 OS.mk' (UC (k:=1) OS.F AX (zbB) λ_ _ _ _ _ _ hr=>⟨_,(Zf (Zw (Zu YW (dv 0) ZY (Zn _)) (Ze (Zk (dv 1))) Zz) (Zf (Zw (Zu YW (dv 1) ZY (Zn _)) (Ze (Zk (dv 0))) Zz) (Ze (Zk (Zh KC hr (pdv 0 (pv 1))))))),λds S Q ex h=>by
  unfold Tp at h;split at h
  .exact h
  .exact h
  .exact h
  .exact h.elim⟩)
def zhz  (Jn:Dfz q49 N9 VT):Fkz 1 q49 VT Ry:=
 mkF Jn zdY (λhr=>(Ze (Zk (Zy (Zb (Wf X5 (Zd (dv 0) Za)) (Zb (Wf X5 (Zd (dv 0) Za)) Zg)))))) λS Q ex=>by
  refine kP λ_ _=>kN λh=>?_
  exact h
def A5  (JV:Dfz q44 LM SD)(Si:Fkz 2 Xo T6 Tp)(Lb:Fkz 3 q37 Rz EZ)(Xy:Fkz 1 q49 VT Ry)(Mo:Fkz 1 q36 PZ Dp):Fkz 4 q44 SD HA:=
 mkF JV Sq (λhr=>(Zf (Zw (PDW.pt (Sh (YS (Zh Mo hr (pv 2))) (U7 (YS (Zh Mo hr (pv 0)))))) (Ze (Zk (dv 1))) Zz) (Zf (Zl (i:=4) Sq.nd (Zy (Zb (Zi ZK (Zd (dv 0) Za) (dv 3)) (Zb (Zi ZK (Zd (dv 0) Za) (dv 3)) Zg)))) (Zf (Zl (i:=5) Sq.nd ZY) (Zf (Zw (Zu Wc (Zd (dv 2) Za) Za (Zn _)) (Ze (Zl (i:=5) Sq.nd (Zh Lb hr (pdv 4 (pdv 1 (Zb (Zy (Zb (ZO (W3 rfl) rfl Y0 Boot.«max» (Zb (Zd (dv 2) Za) (Zb Za Zg))) (Zb (Zd (dv 2) Za) Zg))) Zg)))))) Zz) (Zf (Zw (Zu Yv (Zd (dv 2) Za) Za (Zn _)) (Zf (Zl (i:=6) Sq.nd (Zh Lb hr (Zb (Zh Xy hr (pv 4)) (pdv 1 (Zb (Zy (Zb (ZO (W3 rfl) rfl Y0 Boot.«max» (Zb (Wf X5 (Zd (dv 2) Za)) (Zb Za Zg))) (Zb (Wf X5 (Zd (dv 2) Za)) Zg))) Zg))))) (Ze (Zl (i:=5) Sq.nd (Zh Si hr (pdv 5 (pv 6)))))) Zz) (Ze (Zk (dv 5))))))))) λS Q ex=>by
  refine kP λz0 z1=>kP λx0 x1=>kP λy0 y1=>kI λg=>kN ?_
  rintro⟨⟨sz0,sz1,sy0,sy1,sg⟩,hn,ht⟩;refine if2 (λa1 a2=>if2 (λb1 b2=>ht x0 x1 λB z z'=>⟨z,z'⟩) (λn=>?_)) (λn=>?_)
  all_goals refine⟨ZF sz0 sg,ZF sz1 sg,?_⟩
  all_goals refine ifD (λc1=>?_) (λc1=>?_)
  all_goals try refine⟨⟨Ca _,c1,BQ (sy0.mono (by decide)),sy1.mono (by decide)⟩,?_,λa b l=>?_⟩
  all_goals refine ifD (λc2=>?_) (λc2=>?_)
  all_goals try refine⟨⟨Ca _,by lia,BQ (sy1.neg.mono (by decide)),sy0.neg.mono (by decide)⟩,?_,λa' b' l'=>?_⟩
  all_goals first|exact hn|exact ht _ _ l'|exact ht _ _ l|exact ht (if a'<a then a' else a) (if b' > b then b' else b) (l.hull l')
def zg6  (JZ:Dmz ZL.C q13 Tx OH Lf)(SS:Fkz 4 q44 SD HA):Fmz 5 ZL.C q13 Lf zfm:=
 mkM JZ zei (λhr=>(Ze (Zk (Zh SS hr (pdv 1 (pdv 2 (pdv 3 (pv 4)))))))) λS Q ex=>by
  refine kR λ_=>kP λ_ _=>kP λ_ _=>kP λ_ _=>kI λ_=>kN λh=>?_
  exact h
def zaY  (GV:Dmz ZL.C q10 Ra LZ OD)(SS:Fkz 4 q44 SD HA):Fmz 5 ZL.C q10 OD zfI:=
 mkM GV zd2 (λhr=>(Ze (Zk (Zh SS hr (pdv 1 (pdv 3 (pdv 2 (pv 4)))))))) λS Q ex=>by
  refine kR λ_=>kP λ_ _=>kP λ_ _=>kP λ_ _=>kI λ_=>kN λh=>?_
  exact h
def zdv  (GN:Dfz q51 Mm PK)(Y3:Fkz 1 q69 W9 Rj):Fkz 2 q51 PK DF:=
 mkF GN zee (λhr=>(Ze (Zk (Zi Xx (Zi Z2 (Zi ZK (Zi Yl (dv 2) Za) (dv 0)) (Zi Xx (dv 1) (Zh Y3 hr (pdv 0 (Zb (Zi Yl (dv 2) Za) Zg))))) (dv 2))))) λS Q ex=>by
  refine kI λg=>kI λN=>kI λn=>kN ?_
  rintro⟨⟨n2,n6,hg,sg⟩,h⟩;have zn:Sz 800 (n-1):=Sz.of 6 (by lia)
  have gp:(0:Int)<g^(n-1).toNat:=yF hg;exact⟨ZF zn sg,⟨by lia,by lia,sg.mono (by decide)⟩,((sg.pow (n-1).toNat).mono (show _<=4001 by lia)).fd gp,(Sz.of (n:=800) 6 (by lia):Sz 800 n).fd (by lia),h⟩
def zbK  (KI:Dfz q45 LL Su)(OC:Fkz 2 q51 PK DF):Fkz 3 q45 Su K5:=
 mkF KI Qk (λhr=>(Zf (Zw (Zu (ZG hr) (dv 0) Za (Zn _)) (Ze (Zk Za)) Zz) (Zf (Zl (i:=2) Qk.nd (Zi zgm Za (Zi Z2 (Zi Xx (zhc (dv 0)) (dv 1)) Za))) (Zf (Zl (i:=3) Qk.nd (Zh OC hr (pdv 2 (pdv 0 (pv 1))))) (Zf (Ew PassesOwn.never (Zu Yv (dv 3) (dv 2) (Zn _)) (Zf (Zl (i:=2) Qk.nd (dv 3)) (Ze (Zl (i:=3) Qk.nd (Zh OC hr (pdv 2 (pdv 0 (pv 1)))))))) (Ze (Zk (dv 2)))))))) λS Q ex=>by
  refine kI λN=>kI λn=>kN ?_
  rintro⟨⟨n2,n6,h0,sN⟩,h⟩;refine ifD (λc=>?_) (λc=>?_)
  .exact h 0 (by lia) (Sz.of 0 (by decide))
  .refine⟨(Sz.of (n:=800) 6 (by lia):Sz 800 n).fd (by lia),?_⟩;have d3:=Int.ediv_nonneg (show (0:Int)<=(Builtin.Int.intBits N:Int) by lia) (show 0<=n by lia)
   have d4:(Builtin.Int.intBits N:Int)/n<=(Builtin.Int.intBits N:Int):=Int.ediv_le_self _ (by lia)
   have d5:=sN.bits;refine⟨⟨by lia,by lia,by decide⟩,?_⟩;have s0:=(zfX n2 sN).mono (show 652<=800 by decide)
   have g0:(0:Int)<1*2^((Builtin.Int.intBits N:Int)/n+1).toNat:=by rw[Int.one_mul];exact yF (by decide)
   refine⟨⟨n2,n6,g0,s0⟩,?_⟩;refine⟨λm dl' S'=>S'=S/\∃x:Int,dl'=[some (.int N),some (.int n),some (.int x),some (.int (((n-1)*x+N/x^(n-1).toNat)/n))]/\0<x/\Sz 800 x/\m=x.toNat,⟨_,rfl,_,rfl,g0,s0,rfl⟩,?_⟩;rintro m dl' S' ⟨rfl,x,rfl,x0,sx,rfl⟩;have ge:=zhQ (N:=N) n2 x0 (by lia);refine ifD (λc=>?_) (λc=>?_)
   .have s1:Sz 800 (((n-1)*x+N/x^(n-1).toNat)/n):=Sz.mid (a:=0) (Sz.of 0 (by decide)) sx (by lia) (by lia);exact⟨⟨n2,n6,ge,s1⟩,_,by lia,rfl,_,rfl,ge,s1,rfl⟩
   .exact h x (by lia) sx
def zaL (Vq:Dfz "root" Og Vh)(Y3:Fkz 1 q69 W9 Rj)(Tw:Fkz 3 q45 Su K5)(Xy:Fkz 1 q49 VT Ry)(K8:Fkz 0 "root" Vh IB):Fkz 4 "root" Vh Ql:=
 Vq.mk' (UC (k:=3) Vq.F Kj zhy λ_ _ _ _ _ _ hr=>⟨_,(Zf (Zw (Zu Yv (dv 0) Za (Zn _)) (Ze (Zk (Zh Xy hr (Zb (F6 K8 (hr.mono (by decide)) YC rfl (Zb (Wf X5 (dv 0)) (pv 1))) Zg)))) Zz) (Zf (Zl (i:=2) Kj.nd (Zh Tw hr (pdv 0 (pv 1)))) (Zf (Zw (Zu (ZG hr) (Zh Y3 hr (pdv 2 (pv 1))) (dv 0) (Zn _)) (Ze (Zk (Zy (pdv 2 (pv 2))))) Zz) (Ze (Zk (Zy (pdv 2 (Zb (Zi Z2 (dv 2) Za) Zg)))))))),λds S Q ex h=>by
  unfold Ql at h;split at h
  .rename_i N n;obtain⟨⟨n2,n6,h0,sN⟩,h⟩:=h;exact ifD (λc=>absurd c (by lia)) (λc=>⟨⟨n2,n6,by lia,sN⟩,λr r0 sr=>⟨⟨by lia,n6,sr.mono (by decide)⟩,ifD (λ_=>h r r (zS _)) (λ_=>h r (r+1) (by lia))⟩⟩)
  .exact h.elim⟩)
def zbF (Vq:Dfz "root" Og Vh)(Y3:Fkz 1 q69 W9 Rj)(Tw:Fkz 3 q45 Su K5)(Xy:Fkz 1 q49 VT Ry)(K8:Fkz 4 "root" Vh Ql):Fkz 5 "root" Vh Qe:=
 Vq.mk' (UC (k:=4) Vq.F Kj zhr λ_ _ _ _ _ _ hr=>⟨_,(Zf (Zw (Zu Yv (dv 0) Za (Zn _)) (Ze (Zk (Zh Xy hr (Zb (F6 K8 (hr.mono (by decide)) YC rfl (Zb (Wf X5 (dv 0)) (pv 1))) Zg)))) Zz) (Zf (Zl (i:=2) Kj.nd (Zh Tw hr (pdv 0 (pv 1)))) (Zf (Zw (Zu (ZG hr) (Zh Y3 hr (pdv 2 (pv 1))) (dv 0) (Zn _)) (Ze (Zk (Zy (pdv 2 (pv 2))))) Zz) (Ze (Zk (Zy (pdv 2 (Zb (Zi Z2 (dv 2) Za) Zg)))))))),λds S Q ex h=>by
  unfold Qe at h;split at h
  .rename_i N n;obtain⟨⟨n2,n6,sN⟩,h⟩:=h;exact ifD (λc=>⟨⟨n2,n6,by lia,sN.neg⟩,λa b l=>h (-b) (-a) (by lia)⟩) (λc=>⟨⟨n2,n6,by lia,sN⟩,λr r0 sr=>⟨⟨by lia,n6,sr.mono (by decide)⟩,ifD (λ_=>h r r (zS _)) (λ_=>h r (r+1) (by lia))⟩⟩)
  .exact h.elim⟩)
def zc9  (Hc:Dfz q52 M8 Ot)(Si:Fkz 2 Xo T6 Tp)(VG:Fkz 1 q31 TM JF)(Xy:Fkz 1 q49 VT Ry)(UU:Fkz 5 "root" Vh Qe)(Y3:Fkz 1 q69 W9 Rj):Fkz 6 q52 Ot CC:=
 mkF Hc Pl (λhr=>(Zf (Zl (i:=4) Pl.nd (Zh Y3 hr (pdv 3 (Zb (Zi Yl (dv 2) Za) Zg)))) (Zf (Zl (i:=5) Pl.nd (Zy (Zb (Zi ZK (Zd (dv 0) Za) (dv 4)) (Zb (Zi ZK (Zd (dv 0) Za) (dv 4)) Zg)))) (Zf (Zw (Zu (ZG hr) (Zi Yg (dv 2) Za) Za (Zn _)) (Ze (Zk (Zh VG hr (pdv 1 (Zb (Zh UU hr (Zb (Zd (dv 5) Za) (pv 2))) (Zb (Zh UU hr (Zb (Zd (dv 5) Za) (pv 2))) Zg)))))) Zz) (Zf (Zw (Zu Yv (Zd (dv 5) Za) Za (Zn _)) (Ze (Zk ZY)) Zz) (Zf (Zl (i:=6) Pl.nd (Zh UU hr (Zb (ZO (W3 rfl) rfl Y0 Boot.«max» (Zb (Zd (dv 5) Za) (Zb Za Zg))) (pv 2)))) (Zf (Zl (i:=7) Pl.nd (Zh UU hr (Zb (Zd (dv 5) Za) (pv 2)))) (Ze (Zk (Zh Si hr (Zb (Zh VG hr (pdv 1 (pdv 6 (pv 7)))) (Zb (Zh VG hr (pdv 1 (Zb (Zh Xy hr (pv 7)) (Zb (Zh Xy hr (pv 6)) Zg)))) Zg)))))))))))) λS Q ex=>by
  refine kP λz0 z1=>kP λx0 x1=>kI λn=>kI λg=>kN ?_
  rintro⟨⟨n2,n6,sg,sz0,sz1⟩,hn,ht⟩;refine⟨⟨by lia,by lia,sg.mono (by decide)⟩,?_⟩;have sgp:Sz 181 (g^(n-1).toNat):=(sg.pow _).mono (by lia);refine⟨ZF sz0 sgp,ZF sz1 sgp,?_⟩;have slo:Sz 1300 (z0*g^(n-1).toNat):=(sz0.mul sgp).mono (by decide)
  have shi:Sz 1300 (z1*g^(n-1).toNat):=(sz1.mul sgp).mono (by decide);generalize g^(n-1).toNat=G at *
  refine ifD (λe=>?_) (λe=>?_)
  .exact⟨⟨n2,n6,slo⟩,λa b l=>⟨⟨n2,n6,shi⟩,λc d k=>⟨⟨l,k⟩,hn,ht⟩⟩⟩
  .refine ifD (λe2=>hn) (λe2=>?_);refine⟨⟨n2,n6,(by show Sz 1300 (mx0 (z0*G));unfold mx0;split;exact Sz.of 0 (by decide) (yE (by decide));exact slo)⟩,λa b l=>⟨⟨n2,n6,shi⟩,λc d k=>?_⟩⟩;refine⟨⟨l,k⟩,⟨⟨by lia,by lia⟩,hn,λp q r=>ht p q r⟩,λp q r=>⟨⟨by lia,by lia⟩,ht p q r,λp' q' r'=>?_⟩⟩;exact ht (if p'<p then p' else p) (if q' > q then q' else q) (r.hull r')
def zcX  (FW:Dmz ZH.C "back" Tz MV QV)(GR:Fkz 6 q52 Ot CC):Fmz 7 ZH.C "back" QV JG:=
 mkM FW EK (λhr=>(Zf (Zl (i:=4) EK.nd (Zh GR hr (pdv 2 (Zb (ZE (dv 1) (ZT ZH.cl ZH.n_one (dv 0))) (Zb (ZT ZH.cl ZH.n_many (dv 0)) (pv 3)))))) (Zf (Zw (Zu YW (dv 4) ZY (Zn _)) (Ze (Zk ZY)) Zz) (Ze (Zk (Yu (Zb (Zy (Zb (ZT ZH.cl ZH.n_one (dv 0)) (pv 4))) Zg))))))) λS Q ex=>by
  refine kR λn=>kR λw=>kP λz0 z1=>kI λg=>kN ?_
  rintro⟨i,m,vs,q,hn,hw,ok,⟨hs,⟨sz0,sz1⟩,hg⟩,h1,h2⟩;refine ZS (n:=n) kId hn rfl ?_;refine ZA (o:=.lst (vs.map frD)) hw (ZQ ok.1) ?_;refine ZS (n:=n) kId hn rfl ?_;have a:=hs.at ok.1;refine⟨⟨ok.2.1,ok.2.2,Sz.of 1000000 (by lia),sz0.mono (by decide),sz1.mono (by decide)⟩,h1,λp p' l=>?_⟩;refine ZS (n:=n) kId hn rfl ?_;exact h2 [(i,p,p')] ⟨by simp,λr hr=>by cases zT.mp hr;exact⟨ok.1,l _ a.1 a.2⟩⟩
def zeM  (KU:Dfz q53 M4 Oe)(KJ:Fmz 7 ZH.C "back" QV JG)(Fq:Fmz 6 ZL.C "back" Dq BX)(J6:Fmz 3 ZN.C "back" CD DL)(IJ:Fmz 3 ZM.C "back" Q9 Bv)(JL:Fmz 1 ZX.C "back" Qc HC)(ID:Fmz 1 ZU.C "back" PN G3)(Vj:Fkz 3 q71 V6 MO)(GS:Fkz 2 q75 RR BO)(Yk:Fkz 4 q28 XI Vn):Fkz 8 q53 Oe D7:=
 mkF KU Uj (λhr=>(Zf (Zl (i:=4) Uj.nd (Zd (dv 1) Za)) (Zf (Zl (i:=5) Uj.nd (Zh Yk hr (Zb (Wq (dv 0) Wt (WU (Zi Z2 (dv 4) Za))) (pdv 2 (pv 3))))) (Zf (Zl (i:=6) Uj.nd (Zh GS hr (Zb (Zd (dv 1) Za) (Zb (ZE (dv 5) (dv 4)) Zg)))) (Zf (Zw (Zu YW (dv 6) ZY (Zn _)) (Ze (Zk ZY)) Zz) (Zf (Qp (dv 5) (dv 4) (dv 6)) (Zf (zgr (i:=7) PassesOwn.never rfl Uj.nd rfl (Or.inl rfl) rfl YL (pdv 4 (Zb (Wf X5 Za) (Zb (Wf X5 Za) Zg))) (Zf (Zl (i:=8) Uj.nd (Gs (Zh Vj hr (Zb (ZE (dv 0) (dv 7)) Zg)) (YM ZU.cl ID (hr.mono (by decide)) (YM ZX.cl JL (hr.mono (by decide)) (YM ZM.cl IJ (hr.mono (by decide)) (YM ZN.cl J6 (hr.mono (by decide)) (YM ZL.cl Fq (hr.mono (by decide)) (YM ZH.cl KJ (hr.mono (by decide)) JD)))))) YC (pdv 5 (Zb (ZE (dv 5) (dv 7)) (pv 3))))) (Zf (Zw (Zu YW (dv 8) ZY (Zn _)) (Ze (Zk ZY)) Zz) (Ze (W7 (i:=9) PassesOwn.never rfl Uj.nd rfl (Or.inl rfl) (dv 8) (Ze (Qp (dv 5) (Zd (dv 9) Za) (Zd (dv 9) Za)))))))) (Ze (Zk (dv 5)))))))))) λS Q ex=>by
  refine kR λa=>kT λw k=>kR λb=>kI λg=>kN ?_
  rintro⟨ns,ws,bs,zero,ha,hb,hw,⟨k0,k1⟩,net,sb,hg,hl,h1,h2⟩;have disp:∀v:Nd,∃C fs sd,v.oz=.ins C fs/\(C,sd)∈[(ZU.C,G3),(ZX.C,HC),(ZM.C,Bv),(ZN.C,DL),(ZL.C,BX),(ZH.C,JG)]/\fs.lookup ("back":Str)=none/\∀(n w:Nat)(z:Int×Int)(g q:Int)(S:Sto)(Q:DK)(ex:Addr->Sto->Prop)(vs:LI),S[n]?=some (v.oz)->S[w]?=some (.lst (vs.map frD))->v.ok vs.length q->(Bd 1000 vs/\(Sz 1000 z.1/\Sz 1000 z.2)/\(1<=g/\g<=1000000))->Q .non S->(∀l,Ptw vs.length l->Q (.ref S.length) (S++[.lst (l.map ptD)]))->sd [.ref n,.ref w,frD z,.int g] S Q ex:=by
   intro v;cases v with
   | number x y=>exact⟨_,_,_,rfl,(.head _),rfl,λn w z g q S Q ex vs a1 a2 a3 a4 q1 q2=>⟨x,y,vs,q,a1,a2,a3,a4,q1,q2⟩⟩
   | unknown k=>exact⟨_,_,_,rfl,(.tail _ (.head _)),rfl,λn w z g q S Q ex vs a1 a2 a3 a4 q1 q2=>⟨k,vs,q,a1,a2,a3,a4,q1,q2⟩⟩
   | plus i j=>exact⟨_,_,_,rfl,(.tail _ (.tail _ (.head _))),rfl,λn w z g q S Q ex vs a1 a2 a3 a4 q1 q2=>⟨i,j,vs,q,a1,a2,a3,a4,q1,q2⟩⟩
   | minus i j=>exact⟨_,_,_,rfl,(.tail _ (.tail _ (.tail _ (.head _)))),rfl,λn w z g q S Q ex vs a1 a2 a3 a4 q1 q2=>⟨i,j,vs,q,a1,a2,a3,a4,q1,q2⟩⟩
   | times i j=>exact⟨_,_,_,rfl,(.tail _ (.tail _ (.tail _ (.tail _ (.head _))))),rfl,λn w z g q S Q ex vs a1 a2 a3 a4 q1 q2=>⟨i,j,vs,q,a1,a2,a3,a4,q1,q2⟩⟩
   | power i m=>exact⟨_,_,_,rfl,(.tail _ (.tail _ (.tail _ (.tail _ (.tail _ (.head _)))))),rfl,λn w z g q S Q ex vs a1 a2 a3 a4 q1 q2=>⟨i,m,vs,q,a1,a2,a3,a4,q1,q2⟩⟩
  obtain⟨kn,rfl⟩:∃kn:Nat,k=(kn:Int):=⟨k.toNat,by lia⟩;rw[zK] at h2;have hk:kn<ns.length:=by lia
  refine WV (n:=a) (o:=.lst (ns.map Nd.d)) (lo:=none) (hi:=some ((kn:Int)+1)) (S3:=S) kId kId kId ha ?_;have ec:Z7 (ns.map Nd.d) none (some ((kn:Int)+1))=(ns.take (kn+1)).map Nd.d:=by
   rw[QU (by lia) (by rw[zA];lia),xE];rfl
  rw[show Zo (Ob.lst (ns.map Nd.d))=ns.map Nd.d from rfl,ec];refine⟨ns.take (kn+1),ws.take (kn+1),bs,Zs _ _,Zv hb,net.take _,sb,hg,by rw[zG];lia,λT m pr lm hf=>?_⟩;have prS:Pre S T:=λn o e=>pr n o (Zv e)
  have lm':S.length<=m:=by
   have z:(S++[Ob.lst ((ns.take (kn+1)).map Nd.d)]).length<=m:=lm;rw[zQ] at z;lia
  have s1:Bd 1000 (Zt bs g (ns.take (kn+1))):=λp hp=>(NN net rfl sb hg (kn+1) (by lia) p hp).2
  have l1:(Zt bs g (ns.take (kn+1))).length=kn+1:=by rw[YI,zG];lia
  generalize Zt bs g (ns.take (kn+1))=fs at hf s1 l1;have ik:inR ((fs.length:Nat):Int) (kn:Int):=⟨by lia,by lia⟩
  have a1:=s1.at ik;refine ZA (o:=.lst (fs.map frD)) hf (ZQ ik) ?_;refine⟨zero,hw,h1 T prS,λp p' le=>?_⟩;refine Ts (n:=m) (k:=(kn:Int)) (j:=kn) (xs:=fs.map frD) (v:=frD (p,p')) kId kId kId hf (by rw[zA,Sn ik];rfl) ?_;rw[Qd];refine⟨rfl,⟨by lia,by lia,by lia,by lia⟩,λt dl' S'=>t<=kn+1/\Pre S S'/\∃us:LI,S'[m]?=some (.lst (us.map frD))/\us.length=kn+1/\Bd 1000 us/\∃u7 u8 u9:Option D,dl'=[some (.ref a),some (.tup [.str w,.int (kn:Int)]),some (.ref b),some (.int g),some (.int (kn:Int)),some (.ref m),some (frD (p,p')),u7,u8,u9],⟨by lia,Xg prS lm',_,Ys hf,by rw[yC];exact l1,s1.put (le _ a1.1 a1.2),_,_,_,rfl⟩,?_⟩;rintro t dl' S' ⟨ht,prt,us,hu,lu,su,u7,u8,u9,rfl⟩;refine ite2 (λtc=>?_) (λtc=>?_)
  .have tc':t<kn+1:=by
    have z:t<((kn:Int) - -1).toNat:=tc;lia
   obtain⟨j,ej⟩:∃j:Nat,kn=j+t:=⟨kn-t,by lia⟩;have en:(kn:Int)-(t:Int)=(j:Int):=by lia
   have hv:ns[j]?=some ns[j]:=zD (by lia);generalize ns[j]=v at hv;have ok:v.ok us.length bs.length:=CQ (by lia) (net.ok j v hv).1
   have ij:inR ((us.length:Nat):Int) (j:Int):=⟨by lia,by lia⟩;obtain⟨C,gs,sd,eo,hm,hf2,go⟩:=disp v;have N1:=Zs S' (v.oz);rw[en];refine G5 (n:=S'.length) (C:=C) (sd:=sd) (fs:=gs) (S1:=S'++[v.oz]) (λK hK=>?_) (by rw[<- eo];exact N1) hm hf2 ?_
   .refine ZA (o:=.lst (ns.map Nd.d)) (prt _ _ ha) (HQ hv) ?_;exact⟨v,rfl,by exact hK⟩
   refine ZA (o:=.lst (us.map frD)) (Zv hu) (ZQ ij) ?_;refine go _ _ (gt us (j:Int)) _ bs.length _ _ _ us N1 (Zv hu) ok ⟨su,su.at ij,hg⟩ (h1 _ (XS prt _)) (λl P=>?_);have lS:m<S'.length:=Z5 hu;refine Vx (n:=(S'++[v.oz]).length) (o:=.lst (l.map ptD)) (λi dl2 S2=>Pre S S2/\S2[(S'++[v.oz]).length]?=some (.lst (l.map ptD))/\∃(vs:LI)(u9:Option D),S2[m]?=some (.lst (vs.map frD))/\vs.length=kn+1/\Bd 1000 vs/\dl2=[some (.ref a),some (.tup [.str w,.int (kn:Int)]),some (.ref b),some (.int g),some (.int (kn:Int)),some (.ref m),some (frD (p,p')),some (.int (j:Int)),some (.ref (S'++[v.oz]).length),u9]) ⟨XS (XS prt _) _,Zs _ _,us,_,Zv (Zv hu),lu,su,rfl⟩ (λi dl2 S2 z=>z.2.1) ?_ ?_
   .rintro i x dl2 S2 nx ct ex' ⟨pr2,hl2,vs,u9,hu2,lv,sv,rfl⟩ hn;have ex2:(l.map ptD)[i]?=some x:=ex';rw[zF] at ex2;obtain⟨p,hp,rfl⟩:=zL.mp ex2;obtain⟨q1,q2⟩:=P.2 p (zE hp);refine Ts (n:=m) (k:=p.1) (j:=p.1.toNat) (xs:=vs.map frD) (v:=frD p.2) kId kId kId hu2 (by rw[zA,lv,<- lu];exact Sn q1) ?_;rw[Qd];refine hn _ _ ⟨Xg pr2 lm',Z6 hl2 (by rw[zQ];lia),_,_,Ys hu2,by rw[yC];exact lv,sv.put q2,rfl⟩
   .rintro dl2 S2 ⟨pr2,hl2,vs,u9,hu2,lv,sv,rfl⟩;exact⟨by lia,pr2,vs,hu2,lv,sv,_,_,_,rfl⟩
  .exact h2 us S' m lu prt lm' hu
def zaM  (KS:Dfz q76 MP RC)(Jz:Fkz 8 q53 Oe D7):Fkz 9 q76 RC Bc:=
 mkF KS Q1 (λhr=>(Zf (Zl (i:=4) Q1.nd (Zh Jz hr (pdv 0 (pdv 1 (pdv 2 (pv 3)))))) (Zf (Zw (Zu YW (dv 4) ZY (Zn _)) (Ze (Zk ZY)) Zz) (Zf (Zl (i:=5) Q1.nd (Ud (ZW UO) rfl XC Boot.«list» (pv 2))) (Zf (LK (is:=[6,7]) PassesOwn.never rfl Q1.nd (Nms.cons (i:=6) rfl (Or.inl rfl) (by first|exact .inl rfl|exact .inr rfl) (Nms.cons (i:=7) rfl (Or.inl rfl) (by first|exact .inl rfl|exact .inr rfl) Nms.nil)) rfl rfl XZ Boot.«enumerate» (pv 4) (Zf (Zl (i:=8) Q1.nd (ZE (dv 0) (dv 6))) (Ze (Zw (Zu (ZG hr) (Zd (dv 8) Za) ZR (Zn _)) (Ze (Qp (dv 5) (Zd (dv 8) Za) (dv 7))) Zz)))) (Ze (Zk (dv 5)))))))) λS Q ex=>by
  refine kR λa=>kT λw k=>kR λb=>kI λg=>kN ?_
  rintro⟨ns,ws,bs,zero,ha,hb,hw,⟨k0,k1⟩,net,sb,hg,hl,h1,h2⟩;refine⟨ns,ws,bs,zero,ha,hb,hw,⟨k0,k1⟩,net,sb,hg,hl,h1,λus T m lu pr lm hu=>?_⟩;have lS:m<T.length:=Z5 hu;refine UR (ZV (pr _ _ hb) rfl) ?_;refine Mj (n:=m) (xs:=us.map frD) (S1:=T++[.lst (bs.map frD)]) (λi dl' S'=>Pre S S'/\S'[m]?=some (.lst (us.map frD))/\∃(vs:LI)(u6 u7 u8:Option D),S'[T.length]?=some (.lst (vs.map frD))/\vs.length=bs.length/\dl'=[some (.ref a),some (.tup [.str w,.int k]),some (.ref b),some (.int g),some (.ref m),some (.ref T.length),u6,u7,u8]) kId (λi dl' S' z=>z.2.1) ⟨XS pr _,Zv hu,bs,_,_,_,Zs _ _,rfl,rfl⟩ ?_ ?_
  .rintro i x dl' S' nx ct ex' ⟨pr',hu',vs,u6,u7,u8,hl',lv,rfl⟩ hn;rw[zF] at ex';obtain⟨p,hp,rfl⟩:=zL.mp ex';have hi':=(zB.mp hp).1
   have hv:ns[i]?=some ns[i]:=zD (by lia);generalize ns[i]=v at hv;have okv:=(net.ok i v hv).1;refine ZA (o:=.lst (ns.map Nd.d)) (pr' _ _ ha) (HQ hv) ?_;have no:=hn _ _ ⟨pr',hu',vs,some (.int (i:Int)),some (frD p),some v.d,hl',lv,rfl⟩;cases v with
   | unknown u=>
    have oku:inR ((vs.length:Nat):Int) u:=by rw[lv];exact okv
    refine Ts (n:=T.length) (k:=u) (j:=u.toNat) (xs:=vs.map frD) (v:=frD p) kId kId kId hl' (by rw[zA];exact Sn oku) ?_;rw[Qd];exact hn _ _ ⟨Xg pr' (Xj pr),Z6 hu' (by lia),_,_,_,_,Ys hl',by rw[yC];exact lv,rfl⟩
   | number _ _=>exact no
   | plus _ _=>exact no
   | minus _ _=>exact no
   | times _ _=>exact no
   | power _ _=>exact no
  .rintro dl' S' ⟨pr',hu',vs,u6,u7,u8,hl',lv,rfl⟩;exact h2 vs S' T.length lv pr' (Xj pr) hl'
def za2  (J7:Dfz q54 Kn Sx):Fkz 1 q54 Sx Fc:=
 mkF J7 zgq (λhr=>(Ze (Zk (Zi N0 (Zi N0 (Wq (dv 0) Wt (WU (dv 1))) (Yu (pv 2))) (Wq (dv 0) (WU (Zi Z2 (dv 1) Za)) Wt))))) λS Q ex=>by
  refine kR λb=>kI λk=>kD λd=>kN ?_
  rintro⟨bs,p,hb,⟨k0,k1⟩,l4,rfl,h⟩;obtain⟨kn,rfl⟩:∃kn:Nat,k=(kn:Int):=⟨k.toNat,by lia⟩;rw[zK] at h;have c1:=Bo (α:=Nat) (xs:=bs.map frD) (lo:=none) (hi:=some (kn:Int))
  have c2:=Bo (α:=Nat) (xs:=bs.map frD) (lo:=some ((kn:Int)+1)) (hi:=none);rw[zA] at c1 c2;refine WV (n:=b) (o:=.lst (bs.map frD)) (lo:=none) (hi:=some (kn:Int)) (S3:=S) kId kId kId hb ?_;rw[show Zo (Ob.lst (bs.map frD))=bs.map frD from rfl];refine L6 (n:=S.length) (m:=(S++[Ob.lst (Z7 (bs.map frD) none (some (kn:Int)))]).length) (xs:=Z7 (bs.map frD) none (some (kn:Int))) (ys:=[frD p]) (Zv (Zs _ _)) (Zs _ _) (by show (Z7 (bs.map frD) none (some (kn:Int))).length+1<=1000;lia) ?_;refine WV (n:=b) (o:=.lst (bs.map frD)) (lo:=some ((kn:Int)+1)) (hi:=none) (S3:=S++[Ob.lst (Z7 (bs.map frD) none (some (kn:Int)))]++[Ob.lst [frD p]]++[Ob.lst (Z7 (bs.map frD) none (some (kn:Int))++[frD p])]) kId kId kId (Zv (Zv (Zv hb))) ?_;rw[show Zo (Ob.lst (bs.map frD))=bs.map frD from rfl];refine L6 (xs:=Z7 (bs.map frD) none (some (kn:Int))++[frD p]) (ys:=Z7 (bs.map frD) (some ((kn:Int)+1)) none) (Zv (Zs _ _)) (Zs _ _) (by rw[zQ];show (Z7 (bs.map frD) none (some (kn:Int))).length+1+_<=1000;lia) ?_;rw[zcZ (α:=Nat) (by lia)];refine h _ _ ?_ ?_ (Zs _ _)
  .exact λn o e=>Zv (Zv (Zv (Zv (Zv e))))
  .simp only[zQ];lia
def zaP  (Ej:Dfz q99 OG Qj):Fkz 1 q99 Qj Am:=
 mkF Ej zhM (λhr=>(Ze (Zk (X4 (Zu (ZG hr) (Zd (dv 1) Za) Za (Zn _)) (Zy (Zb (Zd (dv 0) Za) (Zb (Zd (dv 1) Za) Zg))) (Zy (Zb (Zd (dv 1) Za) (Zb (Zd (dv 0) Za) Zg))))))) λS Q ex=>by
  refine kP λa b=>kD λd=>kN ?_
  rintro⟨⟨k,p,s⟩,rfl,h⟩;cases s<;>exact h
def zeV  (K3:Dfz q78 O4 RW)(TJ:Fkz 5 q55 Rh GL)(Ul:Fkz 1 q54 Sx Fc)(IP:Fkz 1 q99 Qj Am):Fkz 6 q78 RW Dd:=
 mkF K3 Ip (λhr=>(Zf (Zl (i:=5) Ip.nd (Zd (dv 4) Za)) (Zf (Zl (i:=6) Ip.nd (ZE (dv 2) (dv 5))) (Zf (Zw (Wg (Ey Yv Yv (Zd (dv 6) Za) (Zd (dv 4) Za) (Zd (dv 6) Za))) (Ze (Zk UL)) Zz) (Ze (Zk (Zh TJ hr (pdv 0 (pdv 1 (Zb (Zh Ul hr (pdv 2 (pdv 5 (Zb (Zh IP hr (pdv 6 (pv 4))) Zg)))) (pv 3))))))))))) λS Q ex=>by
  refine kR λa=>kT λw k=>kR λb=>kI λg=>kD λd=>kN ?_
  rintro⟨ns,ws,bs,zero,c,ha,hb,hw,hk,net,sb,hg,hl,rfl,hc,l4,h⟩;have ik:inR ((bs.length:Nat):Int) (c.k:Int):=⟨by lia,by lia⟩
  have sz:=sb.at ik;refine ZA (o:=.lst (bs.map frD)) hb (ZQ ik) ?_;have no:¬ ((gt bs (c.k:Int)).1<c.p/\c.p<(gt bs (c.k:Int)).2)->Q (.bl false) S:=λn=>by
   have z:=h S Pre.refl
   have e:isS ns zero k.toNat g bs c=false:=by
    unfold isS;rw[show (decide ((gt bs (c.k:Int)).1<c.p)&&decide (c.p<(gt bs (c.k:Int)).2))=false by
     rw[<- Bool.not_eq_true,Bool.and_eq_true,decide_eq_true_eq,decide_eq_true_eq];exact n]
    rfl
   rw[e] at z;exact z
  refine ifD (λc1=>?_) (λc1=>no λz=>c1 z.1);refine ifN (λc2=>no λz=>c2 z.2) (λc2=>?_);have q:=CF (c:=c) c1 c2 sz.2.1 sz.2.2;refine⟨c,rfl,?_⟩;refine⟨bs,c.off (gt bs (c.k:Int)),hb,ik,l4,rfl,λT m pr lm hT=>?_⟩;rw[zK] at hT;have ln:(bs.set c.k (c.off (gt bs (c.k:Int)))).length=bs.length:=yC ..;refine⟨ns,ws,_,zero,pr _ _ ha,hT,hw,hk,by rw[ln];exact net,sb.set2 q.2,hg,hl,λT2 pr2=>?_⟩;have z:=h T2 (pr.trans pr2)
  have e:isS ns zero k.toNat g bs c=ibS ns zero k.toNat (bs.set c.k (c.off (gt bs (c.k:Int)))) g:=by
   unfold isS;rw[decide_eq_true c1,decide_eq_true c2];rfl
  rw[e] at z;exact z
def zdH  (Jk:Dfz q77 MN RE):Fkz 1 q77 RE CT:=
 mkF Jk zfA (λhr=>(Ze (Zk (X4 (Zu (ZG hr) (Zd (dv 1) Za) Za (Zn _)) (Zy (Zb (Zd (dv 1) Za) (Zb (Zd (dv 0) Za) Zg))) (Zy (Zb (Zd (dv 0) Za) (Zb (Zd (dv 1) Za) Zg))))))) λS Q ex=>by
  refine kP λa b=>kD λd=>kN ?_
  rintro⟨⟨k,p,s⟩,rfl,h⟩;cases s<;>exact h
def zcC  (GO:Dfz Xr L9 RS)(GC:Fkz 6 q78 RW Dd)(G2:Fkz 1 q77 RE CT)(JJ:Fkz 9 q76 RC Bc)(TJ:Fkz 5 q55 Rh GL):Fkz 10 Xr RS An:=
 mkF GO TH (λhr=>(Zf (Zw (YS (Zh TJ hr (pdv 0 (pdv 1 (pdv 2 (pv 3)))))) (Ze (Zk (Zy (Zb (Yu Zg) (Zb ZY Zg))))) Zz) (Zf (Zl (i:=4) TH.nd (Ud (ZW UO) rfl XC Boot.«list» (pv 2))) (Zf (Zl (i:=5) TH.nd (Zh JJ hr (pdv 0 (pdv 1 (pdv 2 (pv 3)))))) (Zf (Zw (Zu YW (dv 5) ZY (Zn _)) (Ze (Zk (Zy (Zb (Yu Zg) (pv 4))))) Zz) (Zf (Zl (i:=6) TH.nd (Yu Zg)) (Zf (LK (is:=[7,8]) PassesOwn.never rfl TH.nd (Nms.cons (i:=7) rfl (Or.inl rfl) (by first|exact .inl rfl|exact .inr rfl) (Nms.cons (i:=8) rfl (Or.inl rfl) (by first|exact .inl rfl|exact .inr rfl) Nms.nil)) rfl rfl XZ Boot.«enumerate» (pv 5) (Ze (zcp (i:=9) PassesOwn.never rfl TH.nd rfl (Or.inl rfl) (Zy (Zb (Zy (pdv 7 (Zb (Zi Yl (Zd (dv 8) Za) Za) (Zb Za Zg)))) (Zb (Zy (pdv 7 (Zb (Zi Z2 (Zd (dv 8) Za) Za) (Zb Za Zg)))) Zg))) (Ze (Zw (YS (Zh GC hr (pdv 0 (pdv 1 (pdv 4 (pdv 3 (pv 9))))))) (Zf (Z9 (Yy (dv 6) (dv 9))) (Ze (Qp (dv 4) (dv 7) (Zh G2 hr (Zb (ZE (dv 4) (dv 7)) (pv 9)))))) Zz))))) (Ze (Zk (Zy (pdv 6 (pv 4)))))))))))) λS Q ex=>by
  refine kR λa=>kT λw k=>kR λb=>kI λg=>kN ?_
  rintro⟨ns,ws,bs,zero,ha,hb,hw,hk,net,sb,hg,hl,l4,h⟩;obtain⟨kn,rfl⟩:∃kn:Nat,k=(kn:Int):=⟨k.toNat,by have:=hk.1;lia⟩;rw[zK] at h;refine⟨ns,ws,bs,zero,ha,hb,hw,hk,net,sb,hg,hl,λT pr=>?_⟩;rw[zK];have lST:=Xj pr;cases hi:ibS ns zero kn bs g with
  | true=>exact h _ T.length .non [] none (As λ_=>hi) (XS pr _) lST (Zs _ _) (.inl ⟨rfl,rfl⟩)
  | false=>
   refine UR (ZV (pr _ _ hb) rfl) ?_;refine⟨ns,ws,bs,zero,Zv (pr _ _ ha),Zv (pr _ _ hb),hw,hk,net,sb,hg,hl,λT2 pr2=>?_,λr T2 m2 lr pr2 lm2 hr2=>?_⟩
   all_goals
    have hml:T2[T.length]?=some (.lst (bs.map frD)):=pr2 _ _ (Zs _ _)
    have lT2:=Z5 hml
    have prS2:Pre S T2:=λn o e=>pr2 _ _ (Zv (pr _ _ e))
   .exact h _ T2.length (.ref T.length) [] (some bs) (As λz=>nomatch z) (XS prS2 _) (by lia) (Zs _ _) (.inr ⟨bs,T.length,rfl,rfl,Zv hml,lST⟩)
   .rw[zQ] at lm2;have lm2':T.length<m2:=lm2
    have l22:m2<T2.length:=Z5 hr2;refine Mj (n:=m2) (xs:=r.map frD) (S1:=T2++[.lst []]) (λi dl' S'=>i<=r.length/\Pre S S'/\S'[m2]?=some (.lst (r.map frD))/\∃q:List Ct×LI,Oz ns zero kn g bs (2*i) q/\S'[T2.length]?=some (.lst (q.1.map Ct.d))/\S'[T.length]?=some (.lst (q.2.map frD))/\∃u7 u8 u9:Option D,dl'=[some (.ref a),some (.tup [.str w,.int (kn:Int)]),some (.ref b),some (.int g),some (.ref T.length),some (.ref m2),some (.ref T2.length),u7,u8,u9]) kId (λi dl' S' z=>z.2.2.1) ⟨zP _,XS prS2 _,Zv hr2,([],bs),⟨rfl,rfl,sb,λi c hc=>by simp at hc,λc hc=>(by simp at hc),λi j c d _ hc=>by simp at hc,zC _⟩,Zs _ _,Zv hml,_,_,_,rfl⟩ ?_ ?_
    .rintro i x dl' S' nx ct ex' ⟨hi',pr',hu',q,C,hc',hl',u7,u8,u9,rfl⟩ hn;rw[zF] at ex';obtain⟨p,hp,rfl⟩:=zL.mp ex';have hii:=(zB.mp hp).1;refine⟨λj dl2 S2=>j<=2/\Pre S S2/\S2[m2]?=some (.lst (r.map frD))/\∃q:List Ct×LI,Oz ns zero kn g bs (2*i+j) q/\S2[T2.length]?=some (.lst (q.1.map Ct.d))/\S2[T.length]?=some (.lst (q.2.map frD))/\∃u9:Option D,dl2=[some (.ref a),some (.tup [.str w,.int (kn:Int)]),some (.ref b),some (.int g),some (.ref T.length),some (.ref m2),some (.ref T2.length),some (.int (i:Int)),some (frD p),u9],⟨by decide,pr',hu',q,C,hc',hl',_,rfl⟩,?_⟩;rintro j dl2 S2 ⟨hj,pr4,hu4,q,C,hc4,hl4,u9,rfl⟩;rcases j with _|_|j
     .skip
      refine⟨ns,ws,q.2,zero,(⟨i,p.1-1,false⟩:Ct),pr4 _ _ ha,hl4,hw,hk,by rw[C.len];exact net,C.spn,hg,hl,rfl,by rw[C.len];show i<_;lia,by rw[C.len];exact l4,λT5 pr5=>?_⟩;rw[zK];have iI:inR ((q.2.length:Nat):Int) (i:Int):=⟨by lia,by rw[C.len];lia⟩
      have pr6:Pre S T5:=λn o e=>pr5 _ _ (pr4 _ _ e)
      have C1:=C.step (c:=(⟨i,p.1-1,false⟩:Ct)) (by show i<_;lia) (by show 2*i+0=_;lia);unfold L8 at C1;cases hs:isS ns zero kn g q.2 (⟨i,p.1-1,false⟩:Ct) with
      | false=>
       rw[hs,if_neg zJ] at C1;exact⟨by lia,pr6,pr5 _ _ hu4,q,C1,pr5 _ _ hc4,pr5 _ _ hl4,_,rfl⟩
      | true=>
       rw[hs,if_pos rfl] at C1;refine YO (n:=T2.length) (S1:=T5) (xs:=q.1.map Ct.d) (y:=Ct.d (⟨i,p.1-1,false⟩:Ct)) kId (pr5 _ _ hc4) kId (by rw[zA];have:=C.few;lia) ?_;have z4:=Z6 (u:=.lst (q.1.map Ct.d++[Ct.d (⟨i,p.1-1,false⟩:Ct)])) (pr5 _ _ hl4) (show T2.length≠T.length by lia);refine Ts (n:=T.length) (k:=(i:Int)) (j:=i) (xs:=q.2.map frD) (v:=frD (Ct.back (⟨i,p.1-1,false⟩:Ct) (gt q.2 (i:Int)))) (λK hK=>ZA (o:=.lst (q.2.map frD)) z4 (ZQ iI) ⟨(⟨i,p.1-1,false⟩:Ct),rfl,hK⟩) kId kId z4 (by rw[zA,Sn iI];rfl) ?_;rw[Qd];exact⟨by lia,Xg (Xg pr6 (by lia)) (by lia),Z6 (Z6 (pr5 _ _ hu4) (by lia)) (by lia),_,C1,by rw[zZ];exact Z6 (Ys (pr5 _ _ hc4)) (by lia),Ys z4,_,rfl⟩
     .skip
      refine⟨ns,ws,q.2,zero,(⟨i,p.2+1,true⟩:Ct),pr4 _ _ ha,hl4,hw,hk,by rw[C.len];exact net,C.spn,hg,hl,rfl,by rw[C.len];show i<_;lia,by rw[C.len];exact l4,λT5 pr5=>?_⟩;rw[zK];have iI:inR ((q.2.length:Nat):Int) (i:Int):=⟨by lia,by rw[C.len];lia⟩
      have pr6:Pre S T5:=λn o e=>pr5 _ _ (pr4 _ _ e)
      have C1:=C.step (c:=(⟨i,p.2+1,true⟩:Ct)) (by show i<_;lia) (by show 2*i+1=_;lia);unfold L8 at C1;cases hs:isS ns zero kn g q.2 (⟨i,p.2+1,true⟩:Ct) with
      | false=>
       rw[hs,if_neg zJ] at C1;exact⟨by lia,pr6,pr5 _ _ hu4,q,C1,pr5 _ _ hc4,pr5 _ _ hl4,_,rfl⟩
      | true=>
       rw[hs,if_pos rfl] at C1;refine YO (n:=T2.length) (S1:=T5) (xs:=q.1.map Ct.d) (y:=Ct.d (⟨i,p.2+1,true⟩:Ct)) kId (pr5 _ _ hc4) kId (by rw[zA];have:=C.few;lia) ?_;have z4:=Z6 (u:=.lst (q.1.map Ct.d++[Ct.d (⟨i,p.2+1,true⟩:Ct)])) (pr5 _ _ hl4) (show T2.length≠T.length by lia);refine Ts (n:=T.length) (k:=(i:Int)) (j:=i) (xs:=q.2.map frD) (v:=frD (Ct.back (⟨i,p.2+1,true⟩:Ct) (gt q.2 (i:Int)))) (λK hK=>ZA (o:=.lst (q.2.map frD)) z4 (ZQ iI) ⟨(⟨i,p.2+1,true⟩:Ct),rfl,hK⟩) kId kId z4 (by rw[zA,Sn iI];rfl) ?_;rw[Qd];exact⟨by lia,Xg (Xg pr6 (by lia)) (by lia),Z6 (Z6 (pr5 _ _ hu4) (by lia)) (by lia),_,C1,by rw[zZ];exact Z6 (Ys (pr5 _ _ hc4)) (by lia),Ys z4,_,rfl⟩
     .have ej:j=0:=by lia
      subst ej;exact hn _ _ ⟨by lia,pr4,hu4,q,by rw[show 2*(i+1)=2*i+2 by lia];exact C,hc4,hl4,_,_,_,rfl⟩
    .rintro dl' S' ⟨hi',pr',hu',q,C,hc',hl',u7,u8,u9,rfl⟩;rw[zA] at C;exact h S' T2.length (.ref T.length) q.1 (some q.2) ⟨λz=>(nomatch z),by rw[<- lr];exact C.few,C.is⟩ pr' (by lia) hc' (.inr ⟨_,T.length,rfl,rfl,hl',by lia⟩)
def zfe  (Ii:Dmz Zp.C WJ Pq N7 Uv):Fmz 1 Zp.C WJ Uv Lh:=
 mkM Ii zb5 (λhr=>(Ze (Qp (ZT Zp.cl Zp.n_fates (dv 0)) (dv 1) (dv 2)))) λS Q ex=>by
  refine kR λn=>kI λi=>kD λd=>kN ?_
  rintro⟨a,b,j,es,fs,f,B,rfl,lj,o,h⟩;obtain⟨ds,k1,k2,_⟩:=B.ft;obtain⟨B2,cg⟩:=B.fate (i:=j) o k1;refine Ts (n:=b) (k:=(j:Int)) (j:=j) (xs:=ds) (v:=d) kId (λK hK=>by exact ZS (n:=n) kId B.ins rfl hK) kId k1 (Sn (i:=(j:Int)) ⟨by lia,by lia⟩) ?_;exact h _ B2 cg
def zaO  (Ig:Dmz Zp.C V0 Ol MS OB):Fmz 1 Zp.C V0 OB Bw:=
 mkM Ig zdp (λhr=>(Zf (Z9 (Yy (ZT Zp.cl Zp.n_boxes (dv 0)) (dv 1))) (Zf (Z9 (Yy (ZT Zp.cl Zp.n_fates (dv 0)) ZY)) (Ze (Zk (Zi Yl (ZO (ZW YV) rfl Yw Boot.«len» (Zb (ZT Zp.cl Zp.n_boxes (dv 0)) Zg)) Za)))))) λS Q ex=>by
  refine kR λn=>kR λm=>kN ?_
  rintro⟨a,b,es,fs,e,B,o,l9,h⟩;obtain⟨bs,h1,h2,_⟩:=B.bx;obtain⟨ds,k1,k2,_⟩:=B.ft;have ll:=B.len;obtain⟨B2,cg⟩:=B.put o h1 k1;refine YO (n:=a) (S1:=S) (xs:=bs) (y:=.ref m) (λK hK=>by exact ZS (n:=n) kId B.ins rfl hK) h1 kId (by lia) ?_;have n1:=Z6 (u:=.lst (bs++[.ref m])) B.ins (Ne.symm B.na.1)
  have w1:=Z6 (u:=.lst (bs++[.ref m])) k1 B.ne;refine YO (n:=b) (S1:=S.set a (.lst (bs++[.ref m]))) (xs:=ds) (y:=.non) (λK hK=>by exact ZS (n:=n) kId n1 rfl hK) w1 kId (by lia) ?_;refine ZS (n:=n) kId B2.ins rfl ?_;refine Xn (Z6 (Ys h1) (Ne.symm B.ne)) ?_;have e1:(((bs++[D.ref m]).length:Nat):Int)-1=(es.length:Int):=by rw[zQ,h2];show ((es.length+1:Nat):Int)-1=_;lia
  have z:=h _ B2 cg;rw[<- e1] at z;exact z
def zgs  (G0:Dmz Zp.C "part" P8 LY Sm)(YN:Fmz 1 Zp.C WJ Uv Lh)(VP:Fmz 1 Zp.C V0 OB Bw)(Ul:Fkz 1 q54 Sx Fc):Fmz 2 Zp.C "part" Sm Iw:=
 mkM G0 PQ (λhr=>(Zf (Zl (i:=4) PQ.nd (ZE (ZT Zp.cl Zp.n_boxes (dv 0)) (dv 1))) (Zf (Zl (i:=5) PQ.nd (ZE (dv 4) (dv 2))) (Zf (Zl (i:=6) PQ.nd (Wb (C:=Zp.C) (dv 0) Zp.cl VP.m VP.ok (hr.mono (by decide)) VP.b YC (Zb (Zh Ul hr (pdv 4 (pdv 2 (Zb (Zy (Zb (Zd (dv 5) Za) (pv 3))) Zg)))) Zg))) (Zf (Zl (i:=7) PQ.nd (Wb (C:=Zp.C) (dv 0) Zp.cl VP.m VP.ok (hr.mono (by decide)) VP.b YC (Zb (Zh Ul hr (pdv 4 (pdv 2 (Zb (Zy (pdv 3 (Zb (Zd (dv 5) Za) Zg))) Zg)))) Zg))) (Zf (Z9 (Wb (C:=Zp.C) (dv 0) Zp.cl YN.m YN.ok (hr.mono (by decide)) YN.b YC (pdv 1 (Zb (Zy (Zb ZR (pdv 2 (pdv 3 (pdv 6 (pv 7)))))) Zg)))) (Ze (Zk (Zy (pdv 6 (pv 7))))))))))) λS Q ex=>by
  refine kR λn=>kI λi=>kI λkk=>kI λp=>kN ?_
  rintro⟨a,b,j,k,es,fs,e,s,B,rfl,rfl,he,hs,l4,l9,h⟩;obtain⟨bs,m,h1,h2,o⟩:=B.box he;have lj:=(zB.mp he).1
  have lk:=(zB.mp hs).1
  have lf:=B.len;refine ZS (n:=n) kId B.ins rfl ?_;refine ZA (o:=.lst bs) h1 (Yx (j:=j) h2) ?_;have es':atI (e.map frD) (k:Int)=some (frD s):=Yx (j:=k) (by rw[zF,hs];rfl);refine ZA (o:=.lst (e.map frD)) o.2.2 es' ?_;refine Xe (n:=n) kId B.ins rfl ?_;refine⟨e,(s.1,p),o.2.2,⟨by lia,by lia⟩,l4,rfl,λT1 m1 p1 l1 h1'=>?_⟩;rw[zK] at h1';have na:a<S.length:=Z5 h1;obtain⟨ds,k1,_⟩:=B.ft;have nb:b<S.length:=Z5 k1;refine⟨a,b,es,fs,_,B.pre p1,⟨by lia,by lia,h1'⟩,by lia,λT2 B2 cg2=>?_⟩;refine Xe (n:=n) kId B2.ins rfl ?_;have o2:=(o.cg (.pre p1)).cg cg2;refine⟨e,(p,s.2),o2.2.2,⟨by lia,by lia⟩,l4,rfl,λT3 m3 p3 l3 h3'=>?_⟩;rw[zK] at h3';have:=Xj p1
  have:=cg2.1;refine⟨a,b,_,_,_,B2.pre p3,⟨by lia,by lia,h3'⟩,by rw[zQ];show es.length+1<990;lia,λT4 B4 cg4=>?_⟩;have e5:(((es++[e.set k (s.1,p)]).length:Nat):Int)=(es.length:Int)+1:=by rw[zQ];show ((es.length+1:Nat):Int)=_;lia
  rw[e5];refine Xe (n:=n) kId B4.ins rfl ?_;refine⟨a,b,j,_,_,.cut k p es.length (es.length+1),B4,rfl,by simp;lia,rfl,λT5 B5 cg5=>?_⟩;exact h T5 B5 ((((Cg.pre p1).trans cg2).trans (.pre p3)).trans (cg4.trans cg5))
def zeJ  (Iu:Dfz X8 Mg Sl)(Yk:Fkz 4 q28 XI Vn):Fkz 5 X8 Sl F3:=
 mkF Iu E0 (λhr=>(Zf (Zl (i:=5) E0.nd (Zd (ZE (dv 1) (dv 2)) Za)) (Ze (Zk (Zy (Zb ZR (pdv 2 (Zb (Zh Yk hr (Zb (Wq (dv 0) Wt (WU (Zi Z2 (dv 5) Za))) (pdv 3 (pv 4)))) Zg)))))))) λS Q ex=>by
  refine kR λnd=>kR λrw=>kI λr=>kR λbx=>kI λg=>kN ?_
  rintro⟨k,u,ns,ws,rows,e,row,R,hb,lu,se,rfl,hr,h⟩;have hi:row.2<ns.length:=R.ri row (zE hr);refine ZA (o:=.lst (rows.map rwD)) R.rw (Yx (j:=k) (v:=rwD row) (by show (rows.map rwD)[k]?=_;rw[zF,hr];rfl)) ?_;refine WV (n:=nd) (o:=.lst (ns.map Nd.d)) (lo:=none) (hi:=some ((row.2:Int)+1)) (S3:=S) kId kId kId R.nd ?_;have ec:Z7 (ns.map Nd.d) none (some ((row.2:Int)+1))=(ns.take (row.2+1)).map Nd.d:=by
   rw[QU (by lia) (by rw[zA];lia),xE];rfl
  rw[show Zo (Ob.lst (ns.map Nd.d))=ns.map Nd.d from rfl,ec];refine⟨ns.take (row.2+1),ws.take (row.2+1),e,Zs _ _,Zv hb,by rw[lu];exact R.net.take _,se,R.hg,by rw[zG];have:=R.l70;lia,λT m pr lm hf=>?_⟩;exact h T m (λx o z=>pr _ _ (Zv z)) (by rw[zQ] at lm;lia) hf
def zhl  (Fx:Dfz W4 O7 Pn)(YN:Fmz 1 Zp.C WJ Uv Lh)(UK:Fkz 5 X8 Sl F3)(WB:Fmz 2 Zp.C "part" Sm Iw)(GB:Fkz 10 Xr RS An):Fkz 11 W4 Pn Dr:=
 mkF Fx Uc (λhr=>(Zf (LK (is:=[5,6]) PassesOwn.never rfl Uc.nd (Nms.cons (i:=5) rfl (Or.inl rfl) (by first|exact .inl rfl|exact .inr rfl) (Nms.cons (i:=6) rfl (Or.inl rfl) (by first|exact .inl rfl|exact .inr rfl) Nms.nil)) rfl rfl XZ Boot.«enumerate» (pv 2) (Zf (Zl (i:=7) Uc.nd (Zh GB hr (pdv 1 (pdv 6 (Zb (ZE (ZT Zp.cl Zp.n_boxes (dv 0)) (dv 4)) (pv 3)))))) (Zf (Zw (Zu YW (Zd (dv 7) Za) ZY (Zn _)) (Zf (Z9 (Wb (C:=Zp.C) (dv 0) Zp.cl YN.m YN.ok (hr.mono (by decide)) YN.b YC (pdv 4 (Zb (Zh UK hr (pdv 1 (pdv 2 (pdv 5 (Zb (ZE (ZT Zp.cl Zp.n_boxes (dv 0)) (dv 4)) (pv 3)))))) Zg)))) (Ze (Zk (dv 4)))) Zz) (Ze (W7 (i:=8) PassesOwn.never rfl Uc.nd rfl (Or.inl rfl) (Zd (dv 7) Za) (Zf (Zl (i:=9) Uc.nd (Wb (C:=Zp.C) (dv 0) Zp.cl WB.m WB.ok (hr.mono (by decide)) WB.b YC (pdv 4 (Zb (Zd (dv 8) Za) (Zb (Zd (dv 8) Za) Zg))))) (Zf (Zl (i:=10) Uc.nd (ZE (dv 9) (Zd (dv 8) Za))) (Zf (Z9 (Wb (C:=Zp.C) (dv 0) Zp.cl YN.m YN.ok (hr.mono (by decide)) YN.b YC (pdv 10 (Zb (Zh UK hr (pdv 1 (pdv 2 (pdv 5 (Zb (ZE (ZT Zp.cl Zp.n_boxes (dv 0)) (dv 10)) (pv 3)))))) Zg)))) (Ze (Zl (i:=4) Uc.nd (ZE (dv 9) (Zi Yl Za (Zd (dv 8) Za))))))))))))) (Ze (Zk (dv 4))))) λS Q ex=>by
  refine kR λn=>kR λnd=>kR λrw=>kI λg=>kI λi=>kN ?_
  rintro⟨a,b,j,u,ns,ws,rows,b0,e,es,fs,fine,B,R,A,K,sb,lb,rfl,hw,he,l9,h⟩;have r4:=R.rl
  have u4:=R.u1;refine Mj (n:=rw) (xs:=rows.map rwD) (S1:=S) (λk dl' S'=>k<=rows.length/\∃(es':List LI)(fs':List Ft)(j':Nat)(e':LI),Bk Zp.C S' n a b es' fs'/\Bks g fine ns rows b0 es' fs'/\Cg a b S S'/\es'.length<=es.length+16*k/\Shd es j es' j'/\fs'[j']?=some .wait/\es'[j']?=some e'/\∃x5 x6 x7 x8 x9 x10:Option D,dl'=[some (.ref n),some (.ref nd),some (.ref rw),some (.int g),some (.int (j':Int)),x5,x6,x7,x8,x9,x10]) kId (λk dl' S' z=>?_) ?_ ?_ ?_
  .obtain⟨_,es',fs',j',e',B',K',cg,_⟩:=z;exact(R.cg A cg).rw
  .exact⟨zP _,es,fs,j,e,B,K,.refl,by lia,⟨zC _,λ_=>⟨rfl,rfl⟩⟩,hw,he,_,_,_,_,_,_,rfl⟩
  .rintro k x dl' S' nx ct hx ⟨hk,es',fs',j',e',B',K',cg,l',sh,hw',he',x5,x6,x7,x8,x9,x10,rfl⟩ hn;rw[zF] at hx;obtain⟨row,hr,rfl⟩:=zL.mp hx;have hk':=(zB.mp hr).1
   have R':=R.cg A cg
   have hi:row.2<ns.length:=R.ri row (zE hr);obtain⟨ll',oks⟩:=K'.ok sb;obtain⟨le',se'⟩:=oks e' (zE he');have net':ZJ ((e'.length:Nat):Int) ns ws:=by rw[le',lb];exact R.net
   obtain⟨bs,m,h1,h2,o⟩:=B'.box he';have lj':=(zB.mp he').1
   have la:a<S'.length:=Z5 h1
   have lb':b<S'.length:=by
    obtain⟨_,z,_⟩:=B'.ft;exact Z5 z
   refine ZS (n:=n) kId B'.ins rfl ?_;refine ZA (o:=.lst bs) h1 (Yx (j:=j') h2) ?_;refine⟨ns,ws,e',row.1,R'.nd,o.2.2,rww row.1,⟨by lia,by lia⟩,net',se',R.hg,R.l70,by lia,λT mc fd cs o' sok p1 lmc hmc hfd=>?_⟩;rw[zK] at sok;obtain⟨i1,i2,i3⟩:=sok;have B1:=B'.pre p1
   have R1:=R'.pre p1
   have o1:=o.cg (.pre p1)
   have h11:=p1 _ _ h1;rcases hfd with ⟨rfl,hN⟩|⟨left,mf,rfl,hS,hmf,lmf⟩
   .refine Xe (n:=n) kId B1.ins rfl ?_;refine ZS (n:=n) kId B1.ins rfl ?_;refine ZA (o:=.lst bs) h11 (Yx (j:=j') h2) ?_;refine⟨k,u,ns,ws,rows,e',row,R1,o1.2.2,by lia,se',rfl,hr,λT2 m2 p2 l2 h2'=>?_⟩;have:=Xj p1;refine⟨a,b,j',es',fs',.out k (Zt e' g (ns.take (row.2+1))),B1.pre p2,rfl,by lia,⟨m2,rfl,by lia,by lia,h2'⟩,λT3 B3 cg3=>?_⟩;exact h T3 es' _ j' B3 (K'.put hw' he' ⟨row,hr,rfl,i1 hN⟩) (cg.trans ((Cg.pre p1).trans ((Cg.pre p2).trans cg3))) (by lia) sh lj'
   .refine Vx (n:=mc) (o:=.lst (cs.map Ct.d)) (λq dl2 S2=>∃(es2:List LI)(fs2:List Ft)(j2:Nat),Bk Zp.C S2 n a b es2 fs2/\Bks g fine ns rows b0 es2 fs2/\Cg a b T S2/\es2.length=es'.length+2*q/\(q=0->es2=es'/\j2=j')/\fs2[j2]?=some .wait/\es2[j2]?=some (ctA e' (cs.take q))/\q<=cs.length/\∃x8 x9 x10:Option D,dl2=[some (.ref n),some (.ref nd),some (.ref rw),some (.int g),some (.int (j2:Int)),some (.int (k:Int)),some (rwD row),some (.tup [.ref mc,.ref mf]),x8,x9,x10]) ?_ (λq dl2 S2 z=>?_) ?_ ?_
    .exact⟨es',fs',j',B1,K',.refl,by lia,λ_=>⟨rfl,rfl⟩,hw',he',zP _,_,_,_,rfl⟩
    .obtain⟨es2,fs2,j2,_,_,cg2,_⟩:=z;exact cg2.2 _ _ (by lia) (by lia) hmc
    .rintro q x dl2 S2 nx2 ct2 hx2 ⟨es2,fs2,j2,B2,K2,cg2,l2,s2,hw2,he2,q2,x8,x9,x10,rfl⟩ hn2;have hx3:(cs.map Ct.d)[q]?=some x:=hx2;rw[zF] at hx3;obtain⟨c,hc,hcx⟩:=zL.mp hx3;obtain⟨s',hs',hx4⟩:∃s':Int,(c.s=true/\s'=1\/c.s=false/\s'=0)/\x=.tup [.int (c.k:Int),.int c.p,.int s']:=⟨if c.s then 1 else 0,by cases c.s<;>simp,hcx.symm⟩;subst hx4;have lq:=(zB.mp hc).1;obtain⟨isc,lc⟩:=i3 q c hc;have lA:=zgu e' (cs.take q)
     have oks2:=(K2.ok sb).1;obtain⟨y1,y2,y3,y4,y5,y6⟩:=K2.shave oks2 hw2 he2 (by rw[lA];exact lc) isc hr;refine Xe (n:=n) kId B2.ins rfl ?_;refine⟨a,b,j2,c.k,es2,fs2,_,_,B2,rfl,rfl,he2,y1,by rw[lA];lia,by lia,λT3 B3 cg3=>?_⟩;have R3:=R1.cg A (cg2.trans cg3);generalize hth:es2.length+(if c.s then 1 else 0)=th at y2 y3 y4 y5 y6;generalize hnj:es2.length+(if c.s then 0 else 1)=nj at y5 y6;have et:(s'=0/\(th:Int)=es2.length\/s'=1/\(th:Int)=(es2.length:Int)+1)/\(1-s'=0/\(nj:Int)=es2.length\/1-s'=1/\(nj:Int)=(es2.length:Int)+1):=by
      rcases hs' with ⟨ec,rfl⟩|⟨ec,rfl⟩<;>simp only[ec,if_true,Bool.false_eq_true,if_false] at hth hnj<;>lia
     refine ixT2 et.1 ?_;obtain⟨l3,oks3⟩:=y4.ok sb;obtain⟨bs3,m3,h13,h23,o3⟩:=B3.box y2;obtain⟨lt3,st3⟩:=oks3 _ (zE y2);have lth:=(zB.mp y3).1
     have la3:a<T3.length:=Z5 h13
     have lb3:b<T3.length:=by
      obtain⟨_,z,_⟩:=B3.ft;exact Z5 z
     refine Xe (n:=n) kId B3.ins rfl ?_;refine ZS (n:=n) kId B3.ins rfl ?_;refine ZA (o:=.lst bs3) h13 (Yx (j:=th) h23) ?_;refine⟨k,u,ns,ws,rows,_,row,R3,o3.2.2,by lia,st3,rfl,hr,λT4 m4 p4 l4 h4=>?_⟩;have:=Xj p4;refine⟨a,b,th,_,_,.out k (Zt _ g (ns.take (row.2+1))),B3.pre p4,rfl,lth,⟨m4,rfl,by lia,by lia,h4⟩,λT5 B5 cg5=>?_⟩;refine ixT2 et.2 ?_;refine hn2 _ _ ⟨_,_,nj,B5,y4,cg2.trans (cg3.trans ((Cg.pre p4).trans cg5)),by simp;lia,λz=>absurd z (by lia),y6,?_,by lia,_,_,_,rfl⟩;rw[zhd hc];exact y5
    .rintro dl2 S2 ⟨es2,fs2,j2,B2,K2,cg2,l2,s2,hw2,he2,q2,x8,x9,x10,rfl⟩;refine hn _ _ ⟨by lia,es2,fs2,j2,_,B2,K2,cg.trans ((Cg.pre p1).trans cg2),?_,?_,hw2,he2,_,_,_,_,_,_,rfl⟩
     .rw[show (Zo (.lst (cs.map Ct.d))).length=cs.length from zA ..] at l2;lia
     .refine⟨by have:=sh.1;lia,λz=>?_⟩;have q0:(Zo (.lst (cs.map Ct.d))).length=0:=by have:=sh.1;lia
      obtain⟨rfl,rfl⟩:=s2 q0;exact sh.2 z
  .rintro dl' S' ⟨hk,es',fs',j',e',B',K',cg,l',sh,hw',he',x5,x6,x7,x8,x9,x10,rfl⟩;rw[zA] at l';exact h S' es' fs' j' B' K' cg (by lia) sh (zB.mp he').1
def zha  (Ff:Dfz "sure" NP US):Fkz 1 "sure" US IL:=
 mkF Ff zgZ (λhr=>(Zf (Zw (Zu (ZG hr) (dv 0) ZR (Zn _)) (Ze (Zk (Wo (Ye (ZG hr) (Zd (dv 1) Za) Za (Zn _)) (X3 (Ye (ZG hr) (Zd (dv 1) Za) Za (Zn _)))))) Zz) (Ze (Zk (Ye NK (Zd (dv 1) Za) Za (Zn _)))))) λS Q ex=>by
  refine kS λ_=>kP λ_ _=>kN λh=>?_
  rcases h with ⟨rfl,h⟩|⟨rfl,h⟩
  .refine ifD (λc=>?_) (λc=>?_)
   .rw[decide_eq_true c,Bool.true_and] at h;exact h
   .rw[decide_eq_false c,Bool.false_and] at h;exact h
  .exact h
def zbl  (Fz:Dfz q65 Q3 QE)(Rg:Fkz 1 "sure" US IL)(SJ:Fkz 1 "bars" SH Hz)(UK:Fkz 5 X8 Sl F3):Fkz 6 q65 QE By:=
 mkF Fz BG (λhr=>(Zf (LK (is:=[5,6]) PassesOwn.never rfl BG.nd (Nms.cons (i:=5) rfl (Or.inl rfl) (by first|exact .inl rfl|exact .inr rfl) (Nms.cons (i:=6) rfl (Or.inl rfl) (by first|exact .inl rfl|exact .inr rfl) Nms.nil)) rfl rfl XZ Boot.«enumerate» (pv 1) (Ze (Zw (YS (Zh SJ hr (Zb (Zd (dv 6) Za) (Zb (ZE (dv 4) (Zd (dv 6) Za)) Zg)))) (Ze (Zk (Zh UK hr (pdv 0 (pdv 1 (pdv 5 (pdv 2 (pv 3)))))))) Zz))) (Zf (Zw (YS (ZO (ZW (VJ rfl)) rfl XX Boot.«all» (Zb (Xb (x:="row") (N:=["spans"]) (caps:=[4]) (ar:=Zj Q3) rfl rfl csc rfl (by decide) (dv 1) (λ_ _ _ _ _ _=>Yh) (λ_ _ _ _ _ _=>(Zh Rg hr (Zb (Zd (dv 0) Za) (Zb (ZE (dv 1) (Zd (dv 0) Za)) Zg))))) Zg))) (Ze (Zk (Zy (Zb ZR (pv 4))))) Zz) (Ze (Zk ZY))))) λS Q ex=>by
  refine kR λnd=>kR λrw=>kR λbx=>kI λg=>kR λsp=>kN ?_
  rintro⟨u,ns,ws,rows,e,R,hb,lu,se,hs,ho,hf,hn⟩;have r4:=R.rl;refine Mj (n:=rw) (xs:=rows.map rwD) (S1:=S) (λk dl' S'=>S=S'/\k<=rows.length/\(∀(i:Nat)(row:Bool×Nat),i<k->rows[i]?=some row->ibS ns row.1 row.2 e g=false)/\∃x5 x6:Option D,dl'=[some (.ref nd),some (.ref rw),some (.ref bx),some (.int g),some (.ref sp),x5,x6]) kId (λk dl' S' z=>z.1 ▸ R.rw) ⟨rfl,zP _,λi row hi=>absurd hi (by lia),_,_,rfl⟩ ?_ ?_
  .rintro k x dl' S' nx ct hx ⟨rfl,hk,hno,x5,x6,rfl⟩ hn2;rw[zF] at hx;obtain⟨row,hr,rfl⟩:=zL.mp hx;have hi:row.2<ns.length:=R.ri row (zE hr)
   have lk:=(zB.mp hr).1;refine ZA (o:=.lst ((Zt e g ns).map frD)) hs (ZQ (vs:=Zt e g ns) (i:=(row.2:Int)) ⟨by lia,by rw[YI];lia⟩) ?_;have eb:ibS ns row.1 row.2 e g=brS row.1 (gt (Zt e g ns) (row.2:Int)):=by unfold ibS;rw[zch hi]
   have key:∀b:Bool,ibS ns row.1 row.2 e g=b->if b=true then (∃(k' u:Nat)(ns:List Nd)(ws:List Nat)(rows:List (Bool×Nat))(e:LI)(row:Bool×Nat),Sr S nd rw g ns ws rows u/\S[bx]?=some (.lst (e.map frD))/\e.length=u/\Spn 51 e/\(k:Int)=(k':Int)/\rows[k']?=some row/\∀(T:Sto)(m:Nat),Pre S T->S.length<=m->T[m]?=some (.lst ((Zt e g (ns.take (row.2+1))).map frD))->Q (.tup [.str "out",.int (k:Int),.ref m]) T) else nx [some (.ref nd),some (.ref rw),some (.ref bx),some (.int g),some (.ref sp),some (.int (k:Int)),some (rwD row)] S:=λb hb'=>by
    cases b with
    | true=>
     rw[if_pos rfl];exact⟨k,u,ns,ws,rows,e,row,R,hb,lu,se,rfl,hr,λT m p l hm=>ho T k m row p l hr hb' hm⟩
    | false=>
     rw[if_neg zJ];refine hn2 _ _ ⟨rfl,by lia,λi row' hi' hr'=>?_,_,_,rfl⟩;by_cases c:i=k
     .subst c;rw[hr] at hr';cases hr';exact hb'
     .exact hno i row' (by lia) hr'
   rcases row with ⟨_|_,rn⟩
   .exact .inr ⟨rfl,key _ eb⟩
   .exact .inl ⟨rfl,key _ eb⟩
  .rintro dl' S' ⟨rfl,hk,hno,x5,x6,rfl⟩;rw[zA] at hno;have nb:∀row∈rows,ibS ns row.1 row.2 e g=false:=λrow hr=>by
    obtain⟨i,hi⟩:=List.mem_iff_getElem?.mp hr;exact hno i row (zB.mp hi).1 hi
   refine Vi (n:=rw) (S1:=S) (o:=.lst (rows.map rwD)) (λd=>match d with|.tup [.str w,.int at']=>.bl (suB (decide (w="zero")) (gt (Zt e g ns) at'))|_=>.non) kId R.rw (by show (rows.map rwD).length<=1000;rw[zA];lia) (λx hx S2 K pr hK=>?_) ?_
   .have hx':x∈rows.map rwD:=hx;obtain⟨⟨b,n⟩,hm,rfl⟩:=zN.mp hx';refine ZA (o:=.lst ((Zt e g ns).map frD)) (pr _ _ hs) (ZQ (vs:=Zt e g ns) (i:=(n:Int)) ⟨by lia,by rw[YI];have:=R.ri _ hm;dsimp only at this;lia⟩) ?_;cases b
    .exact .inr ⟨rfl,hK⟩
    .exact .inl ⟨rfl,hK⟩
   .refine MX (n:=S.length) (o:=.lst _) (Zs _ _) (Cm ns e g rows) ?_;rw[zak];cases es:suS ns rows e g with
    | true=>exact YU (hf nb es _ Pre.refl.push)
    | false=>exact Yq (hn nb es _ Pre.refl.push)
def zbJ  (Fv:Dfz q25 R8 PL):Fkz 1 q25 PL EI:=
 mkF Fv zcv (λhr=>(Ze (Zk (Xb (x:="row") (N:=[]) (caps:=[]) (ar:=Zj R8) rfl rfl csc rfl (by decide) (dv 0) (λ_ _ _ _ _ _=>JO (Zu (ZG hr) (Zd (dv 0) Za) ZR (Zn _))) (λ_ _ _ _ _ _=>(Zd (dv 0) Za)))))) λS Q ex=>by
  refine kR λr=>kN ?_
  rintro⟨rows,hr,l9,h⟩;refine Dw (n:=r) (S1:=S) (o:=.lst (rows.map rwD)) (λd=>match d with|.tup [.str w,.int at']=>if w="zero" then some (.int at') else none|_=>none) kId hr (by show (rows.map rwD).length<=1000;rw[zA];lia) (λx hx S2 K pr hK=>?_) (λx hx y hy S2 K pr hK=>?_) ?_
  .have hx':x∈rows.map rwD:=hx;obtain⟨⟨b,n⟩,_,rfl⟩:=zN.mp hx';cases b
   .exact hK
   .exact hK
  .have hx':x∈rows.map rwD:=hx;obtain⟨⟨b,n⟩,_,rfl⟩:=zN.mp hx';cases b
   .exact absurd hy (by
     simp[rwD];intro z;exact absurd z (by decide))
   .cases hy;exact hK
  .have e:(Zo (.lst (rows.map rwD))).filterMap (λd=>match d with|.tup [.str w,.int at']=>if w="zero" then some (.int at') else none|_=>none)=(eqs rows).map wtD:=by
    show (rows.map rwD).filterMap _=_;unfold eqs;rw[List.filterMap_map,List.map_filterMap];congr 1;funext ⟨b,n⟩;cases b<;>rfl
   rw[e];exact h
def zaI  (Ef:Dfz Xf Qw Ro):Fkz 1 Xf Ro HZ:=
 mkF Ef zgL (λhr=>(Ze (Zk (Xb (x:="place") (N:=["each"]) (caps:=[0]) (ar:=Zj Qw) rfl rfl csc rfl (by decide) (dv 1) (λ_ _ _ _ _ _=>Yh) (λ_ _ _ _ _ _=>(ZE (dv 1) (dv 0))))))) λS Q ex=>by
  refine kR λe=>kR λp=>kN ?_
  rintro⟨xs,is,he,hp,l9,hi,h⟩;refine Vi (n:=p) (S1:=S) (o:=.lst (is.map wtD)) (λd=>match d with|.int i=>xs.getD i.toNat .non|_=>.non) kId hp (by show (is.map wtD).length<=1000;rw[zA];lia) (λx hx S2 K pr hK=>?_) ?_
  .have hx':x∈is.map wtD:=hx;obtain⟨i,him,rfl⟩:=zN.mp hx';have hl:=hi i him;refine ZA (o:=.lst xs) (pr _ _ he) (Yx (j:=i) (v:=xs.getD i .non) (by show xs[i]?=_;rw[zD hl];simp[hl])) ?_;exact hK
  .have e2:(Zo (.lst (is.map wtD))).map (λd=>match d with|.int i=>xs.getD i.toNat .non|_=>.non)=is.map λi=>xs.getD i .non:=by
    show (is.map wtD).map _=_;rw[yA];rfl
   rw[e2];exact h
def zbC  (HU:Dmz ZU.C q14 SM M3 PJ):Fmz 1 ZU.C q14 PJ GK:=
 mkM HU zdI (λhr=>(Ze (Zk (Zi zfu (Yu (Zb (Zy (Zb Za (Zb Za Zg))) Zg)) (dv 3))))) λS Q ex=>by
  refine kR λn=>kR λw=>kR λs=>kI λqi=>kI λg=>kN ?_
  rintro⟨x,y,q,vs,sl,ds,hn,hw,hs,rows,sz,⟨rfl,hq⟩,ok,lv,s1,hg,h⟩;have sg:Sz 21 g:=Sz.of 1000000 (by lia)
  have aY:∀ys:List D,ys=(YF vs sl g q (Nd.number x y)).map frD->Q (.ref (S++[Ob.lst [frD (0,0)]]).length) ((S++[.lst [frD (0,0)]])++[.lst ys]):=λys e=>by
   subst e;exact h _ _ Pre.refl.push.push (by simp) (Zs _ _)
  refine za1 (n:=S.length) (k:=((q:Nat):Int)) (xs:=[frD (0,0)]) (Zs _ _) ⟨by lia,by lia⟩ (by simp;lia) ?_;refine aY _ ?_;rw[zK,zd1];unfold YF;rw[yA];rfl
def zdM  (JT:Dmz ZX.C q14 UW Oy QC):Fmz 1 ZX.C q14 QC HB:=
 mkM JT zgV (λhr=>(Ze (Zk (MF (x:="k") (N:=["grid","self"]) (caps:=[4,0]) (ar:=Zj Oy) rfl rfl csc rfl (by decide) rfl YL (pv 3) (λ_ _ _ _ _ _=>Yh) (λ_ _ _ _ _ _=>(X4 (Zu (ZG hr) (dv 0) (ZT ZX.cl ZX.n_place (dv 2)) (Zn _)) (Zy (pdv 1 (pv 1))) (Zy (Zb Za (Zb Za Zg))))))))) λS Q ex=>by
  refine kR λn=>kR λw=>kR λs=>kI λqi=>kI λg=>kN ?_
  rintro⟨k,q,vs,sl,ds,hn,hw,hs,rows,sz,⟨rfl,hq⟩,ok,lv,s1,hg,h⟩;have sg:Sz 21 g:=Sz.of 1000000 (by lia)
  have aY:∀ys:List D,ys=(YF vs sl g q (Nd.unknown k)).map frD->Q (.ref S.length) (S++[.lst ys]):=λys e=>by
   subst e;exact h _ _ Pre.refl.push (by simp) (Zs _ _)
  refine Ga (j:=((q:Nat):Int)) (S1:=S) (λl=>frD (if (l:Int)=k then (g,g) else (0,0))) kId ⟨by lia,by lia⟩ (λl hl S2 K pr hK=>?_) ?_
  .refine ZS (n:=n) kId (pr _ _ hn) rfl ?_;refine ifD (λe=>?_) (λe=>?_)
   .rw[if_pos e] at hK;exact hK
   .rw[if_neg e] at hK;exact hK
  .refine aY _ ?_;rw[zK];unfold YF;rw[yA];rfl
def zgY  (Hm:Dmz ZM.C q5 q92 Lq Q8)(YQ:Fkz 1 q30 Wh Ur):Fmz 2 ZM.C q5 Q8 zcH:=
 mkM Hm zar (λhr=>(Ze (Zk (Zh YQ hr (pdv 3 (pv 4)))))) λS Q ex=>by
  refine kR λ_=>kD λ_=>kD λ_=>kP λ_ _=>kP λ_ _=>kI λ_=>kN λh=>?_
  exact h
def Iq {C:Addr}{c:Int->Int->Nd}{k:Nat}{sd:Sd}(f:Int×Int->Int×Int->Int×Int->Int×Int->Int->Int×Int)(p:Pr C c)(hl:∀vs sl g l i j,(c i j).sl vs sl g l=f (gt vs i) (gt vs j) (gs sl i l) (gs sl j l) g)(hs:∀(n:Nat)(x y p r:Int×Int)(g:Int)(S:Sto)(Q:DK) ex,(Sz 1400 x.1/\Sz 1400 x.2/\Sz 1400 y.1/\Sz 1400 y.2/\Sz 1400 p.1/\Sz 1400 p.2/\Sz 1400 r.1/\Sz 1400 r.2/\1<=g/\g<=1000000)->Q (frD (f x y p r g)) S->sd [.ref n,frD x,frD y,frD p,frD r,.int g] S Q ex)(d:Dmz C q14 q91 Qa RM)(G_1:Fmz k C q5 Q8 sd):Fmz (k+1) C q14 RM (Nz c):=
 mkM d Jj (λhr=>(Zf (UI (i:=5) Jj.nd rfl (Or.inr rfl) (ZE (dv 1) (ZT p.cl p.o (dv 0)))) (Zf (UI (i:=6) Jj.nd rfl (Or.inr rfl) (ZE (dv 1) (ZT p.cl p.t (dv 0)))) (Ze (Zk (KA (x1:="a") (x2:="b") (N:=["x","y","grid","self"]) (caps:=[5,6,4,0]) (ar:=Zj Qa) rfl rfl Vz rfl rfl rfl (by decide) rfl Vl Boot.«zip» (Zb (ZE (dv 2) (ZT p.cl p.o (dv 0))) (Zb (ZE (dv 2) (ZT p.cl p.t (dv 0))) Zg)) (λ_ _ _ _ _ _=>(Wb (C:=C) (dv 5) p.cl G_1.m G_1.ok (hr.mono (zC _)) G_1.b YC (pdv 2 (pdv 3 (pdv 0 (pdv 1 (pv 4))))))))))))) λS Q ex=>by
  refine kR λn=>kR λw=>kR λs=>kI λqi=>kI λg=>kN ?_
  rintro⟨i,j,q,vs,sl,ds,hn,hw,h0,rows,sz,⟨rfl,hq⟩,ok,lv,s1,hg,h⟩;rw[p.b] at hn;rw[p.k] at ok;have aY:∀ys:List D,ys=(YF vs sl g q (c i j)).map frD->Q (.ref S.length) (S++[.lst ys]):=λys e=>by
   subst e;exact h _ _ Pre.refl.push (by simp) (Zs _ _)
  refine ZS (n:=n) kId hn rfl ?_;refine ZA (o:=.lst (vs.map frD)) hw (ZQ (i:=i) ⟨ok.1.1,by have:=ok.1.2;lia⟩) ?_;refine ZS (n:=n) kId hn rfl ?_;refine ZA (o:=.lst (vs.map frD)) hw (ZQ (i:=j) ⟨ok.2.1,by have:=ok.2.2;lia⟩) ?_;obtain⟨a1,ea,_,ha⟩:=rows.at ok.1;obtain⟨a2,eb,_,hb⟩:=rows.at ok.2;obtain⟨la,za⟩:=sz i ok.1;obtain⟨lb,zb⟩:=sz j ok.2;have ci:=s1.at (i:=i) ⟨ok.1.1,by have:=ok.1.2;lia⟩
  have cj:=s1.at (i:=j) ⟨ok.2.1,by have:=ok.2.2;lia⟩;refine Kb (n:=a1) (n':=a2) (S1:=S) (xs:=(sl.getD i.toNat []).map frD) (ys:=(sl.getD j.toNat []).map frD) (λx y=>match x,y with|.tup [.int a,.int b],.tup [.int c,.int d]=>frD (f (gt vs i) (gt vs j) (a,b) (c,d) g)|_,_=>.non) (λK hK=>by
   refine ZS (n:=n) kId hn rfl ?_;refine ZA (o:=.lst ds) h0 ea ?_;refine ZS (n:=n) kId hn rfl ?_;exact ZA (o:=.lst ds) h0 eb hK) ha hb (by rw[zA,la];lia) (λk x y hx hy S2 K pr hK=>?_) ?_
  .rw[zF] at hx hy;obtain⟨p2,hp,rfl⟩:=zL.mp hx;obtain⟨r,hr,rfl⟩:=zL.mp hy;have kq:k<q:=by
    have:=(zB.mp hp).1;lia
   have e1:gs sl i k=p2:=by
    unfold gs;rw[zX,hp];rfl
   have e2:gs sl j k=r:=by
    unfold gs;rw[zX,hr];rfl
   have z1:=za k kq
   have z2:=zb k kq;rw[e1] at z1;rw[e2] at z2;refine Xe (n:=n) (fs:=[("one",.int i),("other",.int j)]) kId (pr _ _ hn) rfl ?_;exact hs _ _ _ _ _ _ _ _ _ ⟨ci.2.1.mono (by decide),ci.2.2.mono (by decide),cj.2.1.mono (by decide),cj.2.2.mono (by decide),z1.2.1.mono (by decide),z1.2.2.mono (by decide),z2.2.1.mono (by decide),z2.2.2.mono (by decide),hg.1,hg.2⟩ hK
  .refine aY _ ?_;rw[List.zipWith_map];unfold YF;rw[yA];rw[zct _ _ _ la lb];exact List.map_congr_left λl _=>(congrArg frD (hl ..)).symm
def zgk  (FY:Dmz ZN.C q5 q86 OQ Mw)(Yt:Fkz 1 q23 X7 VH):Fmz 2 ZN.C q5 Mw zev:=
 mkM FY zaX (λhr=>(Ze (Zk (Zh Yt hr (pdv 3 (pv 4)))))) λS Q ex=>by
  refine kR λ_=>kD λ_=>kD λ_=>kP λ_ _=>kP λ_ _=>kI λ_=>kN λh=>?_
  exact h
def zcQ  (IA:Dmz ZL.C q5 q87 OR O0)(YQ:Fkz 1 q30 Wh Ur)(Xz:Fkz 2 q40 VS RN):Fmz 3 ZL.C q5 O0 ze9:=
 mkM IA zdx (λhr=>(Ze (Zk (Zh YQ hr (Zb (Zh Xz hr (pdv 1 (pdv 4 (pv 5)))) (Zb (Zh Xz hr (pdv 2 (pdv 3 (pv 5)))) Zg)))))) λS Q ex=>by
  refine kR λ_=>kP λx1 x2=>kP λy1 y2=>kP λa b=>kP λc d=>kI λg=>kN ?_
  rintro⟨⟨h1,h2,h3,h4,h5,h6,h7,h8,g1,g2⟩,h⟩;have sg:Sz 21 g:=Sz.of 1000000 (by lia);refine⟨⟨⟨ZF h1 h7,ZF h1 h8,ZF h2 h7,ZF h2 h8⟩,sg.fd (by lia)⟩,λmn mx hc=>?_⟩;obtain⟨rfl,rfl⟩:=hc.eq;refine⟨⟨⟨ZF h3 h5,ZF h3 h6,ZF h4 h5,ZF h4 h6⟩,sg.fd (by lia)⟩,λmn mx hc=>?_⟩;obtain⟨rfl,rfl⟩:=hc.eq;exact h
def zc2  (HS:Dfz q50 LD R7):Fkz 1 q50 R7 EH:=
 mkF HS zhU (λhr=>(Ze (Zk (Zy (Zb (ZO (V1 rfl) rfl XY Boot.«min» (Zb (Zi ZK (Zd (dv 0) Za) (dv 1)) (Zb (Zi ZK (Zd (dv 0) Za) (dv 1)) Zg))) (Zb (ZO (W3 rfl) rfl Y0 Boot.«max» (Zb (Zi ZK (Zd (dv 0) Za) (dv 1)) (Zb (Zi ZK (Zd (dv 0) Za) (dv 1)) Zg))) Zg)))))) λS Q ex=>by
  refine kP λ_ _=>kI λ_=>kN ?_
  rintro⟨⟨h1,h2⟩,h⟩;exact⟨h1,h2,h1,h2,h⟩
def zhO  (Eh:Dmz ZH.C q14 SV Oh Q2)(Xz:Fkz 2 q40 VS RN)(Ht:Fkz 1 q50 R7 EH)(SE:Fkz 2 q43 Rb K6):Fmz 3 ZH.C q14 Q2 Gb:=
 mkM Eh HE (λhr=>(Zf (Zl (i:=5) HE.nd (Zh SE hr (Zb (ZE (dv 1) (ZT ZH.cl ZH.n_one (dv 0))) (Zb (Zi Yl (ZT ZH.cl ZH.n_many (dv 0)) Za) (pv 4))))) (Zf (UI (i:=6) HE.nd rfl (Or.inr rfl) (Zh Ht hr (pdv 5 (Zb (ZT ZH.cl ZH.n_many (dv 0)) Zg)))) (Ze (Zk (Xb (x:="a") (N:=["steep","grid"]) (caps:=[6,4]) (ar:=Zj Oh) rfl rfl csc rfl (by decide) (ZE (dv 2) (ZT ZH.cl ZH.n_one (dv 0))) (λ_ _ _ _ _ _=>Yh) (λ_ _ _ _ _ _=>(Zh Xz hr (pdv 1 (pdv 0 (pv 2))))))))))) λS Q ex=>by
  refine kR λn=>kR λw=>kR λs=>kI λqi=>kI λg=>kN ?_
  rintro⟨i,m,q,vs,sl,ds,hn,hw,hs,rows,sz,⟨rfl,hq⟩,ok,lv,s1,hg,h⟩;have sg:Sz 21 g:=Sz.of 1000000 (by lia)
  have aY:∀ys:List D,ys=(YF vs sl g q (Nd.power i m)).map frD->Q (.ref S.length) (S++[.lst ys]):=λys e=>by
   subst e;exact h _ _ Pre.refl.push (by simp) (Zs _ _)
  obtain⟨a1,ea,_,ha⟩:=rows.at ok.1;obtain⟨la,za⟩:=sz i ok.1;have ci:=s1.at (i:=i) ⟨ok.1.1,by have:=ok.1.2;lia⟩;obtain⟨ok1,m2,m6⟩:=ok;refine ZS (n:=n) kId hn rfl ?_;refine ZA (o:=.lst (vs.map frD)) hw (ZQ (i:=i) ⟨ok1.1,by have:=ok1.2;lia⟩) ?_;refine ZS (n:=n) kId hn rfl ?_;refine⟨⟨by lia,by lia,ci.2.1.mono (by decide),ci.2.2.mono (by decide),hg.1,sg.mono (by decide)⟩,λm' M' hP=>?_⟩;obtain⟨rfl,rfl⟩:=hP.eq (by lia);have gp:(1:Int)<=g^((m-1).toNat-1):=yF (by lia)
  have lo:=Rl gp (Gj (gt vs i).1 (gt vs i).2 (m-1).toNat)
  have fl:=zdn (gt vs i) (n:=m) (by lia) hg.1
  have p1:Sz 6000 ((gt vs i).1^(m-1).toNat):=(ci.2.1.pow _).mono (by lia)
  have p2:Sz 6000 ((gt vs i).2^(m-1).toNat):=(ci.2.2.pow _).mono (by lia)
  have pl:Sz 6000 (Yo (gt vs i).1 (gt vs i).2 (m-1).toNat):=by
   unfold Yo;split
   .exact yE (by decide)
   .exact Vr p1 p2
  have sm:Sz 10 m:=Sz.of 6 (by lia);refine ZS (n:=n) kId hn rfl ?_;refine⟨⟨ZF (pl.div gp) sm,ZF (Up (Ws p1 p2) gp) sm⟩,?_⟩;have e1:(if -(-Y9 (gt vs i).1 (gt vs i).2 (m-1).toNat/g^((m-1).toNat-1))*m<Yo (gt vs i).1 (gt vs i).2 (m-1).toNat/g^((m-1).toNat-1)*m then -(-Y9 (gt vs i).1 (gt vs i).2 (m-1).toNat/g^((m-1).toNat-1))*m else Yo (gt vs i).1 (gt vs i).2 (m-1).toNat/g^((m-1).toNat-1)*m)=(YZ (gt vs i) m g).1:=by
   rw[if_neg (by have z:(YZ (gt vs i) m g).1<=(YZ (gt vs i) m g).2:=fl;exact Int.not_lt.mpr z)];rfl
  have e2:(if -(-Y9 (gt vs i).1 (gt vs i).2 (m-1).toNat/g^((m-1).toNat-1))*m > Yo (gt vs i).1 (gt vs i).2 (m-1).toNat/g^((m-1).toNat-1)*m then -(-Y9 (gt vs i).1 (gt vs i).2 (m-1).toNat/g^((m-1).toNat-1))*m else Yo (gt vs i).1 (gt vs i).2 (m-1).toNat/g^((m-1).toNat-1)*m)=(YZ (gt vs i) m g).2:=by
   split
   .rfl
   .rename_i c;have z:¬ (YZ (gt vs i) m g).1<(YZ (gt vs i) m g).2:=c
    have z2:(YZ (gt vs i) m g).1=(YZ (gt vs i) m g).2:=by lia
    exact z2
  rw[e1,e2];have f1:Sz 6010 (YZ (gt vs i) m g).1:=Nm (e:=10) (pl.div gp) (by lia) (by lia)
  have f2:Sz 6010 (YZ (gt vs i) m g).2:=Nm (e:=10) (Up (Ws p1 p2) gp) (by lia) (by lia);generalize hfc:YZ (gt vs i) m g=fc at f1 f2;refine Vi (n:=a1) (S1:=S) (o:=.lst ((sl.getD i.toNat []).map frD)) (λx=>match x with|.tup [.int a,.int b]=>frD (Yn fc (a,b) g)|_=>.non) (λK hK=>by
   refine ZS (n:=n) kId hn rfl ?_;exact ZA (o:=.lst ds) hs ea hK) ha (by show ((sl.getD i.toNat []).map frD).length<=1000;rw[zA,la];lia) (λx hx S2 K pr hK=>?_) ?_
  .have hx':x∈(sl.getD i.toNat []).map frD:=hx;obtain⟨p,hp,rfl⟩:=zN.mp hx';obtain⟨k,hk,ek⟩:=yL.mp hp;have z1:=za k (by lia)
   have e1:gs sl i k=p:=by
    unfold gs;rw[zX,zD hk,ek];rfl
   rw[e1] at z1;refine⟨⟨⟨ZF f1 z1.2.1,ZF f1 z1.2.2,ZF f2 z1.2.1,ZF f2 z1.2.2⟩,sg.fd (by lia)⟩,λmn mx hc=>?_⟩;obtain⟨rfl,rfl⟩:=hc.eq;exact hK
  .refine aY _ ?_;show ((sl.getD i.toNat []).map frD).map _=_;rw[yA,zgQ _ _ la];unfold YF;rw[yA];subst hfc;rfl
def zhK  (Hx:Dfz Xk Nu Sj)(FA:Fmz 3 ZH.C q14 Q2 Gb)(Ic:Fmz 4 ZL.C q14 CU Co)(Hr:Fmz 3 ZN.C q14 Eu DM)(IT:Fmz 3 ZM.C q14 RM DV)(FJ:Fmz 1 ZX.C q14 QC HB)(Jb:Fmz 1 ZU.C q14 PJ GK)(Vj:Fkz 3 q71 V6 MO)(Yk:Fkz 4 q28 XI Vn):Fkz 5 Xk Sj J1:=
 mkF Hx MA (λhr=>(Zf (Zl (i:=3) MA.nd (Zh Yk hr (pdv 0 (pdv 1 (pv 2))))) (Zf (Zl (i:=4) MA.nd (Yu Zg)) (Zf (W7 (i:=5) PassesOwn.never rfl MA.nd rfl (Or.inl rfl) (dv 0) (Ze (Z9 (Yy (dv 4) (Gs (Zh Vj hr (pv 5)) (YM ZU.cl Jb (hr.mono (by decide)) (YM ZX.cl FJ (hr.mono (by decide)) (YM ZM.cl IT (hr.mono (by decide)) (YM ZN.cl Hr (hr.mono (by decide)) (YM ZL.cl Ic (hr.mono (by decide)) (YM ZH.cl FA (hr.mono (by decide)) JD)))))) YC (pdv 3 (pdv 4 (Zb (ZO (ZW YV) rfl Yw Boot.«len» (pv 1)) (pv 2))))))))) (Ze (Zk (dv 4))))))) λS Q ex=>by
  refine kR λa=>kR λb=>kI λg=>kN ?_
  rintro⟨ns,ws,bs,ha,hb,net,sb,hq9,hg,hl,h⟩;have disp:∀v:Nd,∃C fs sd,v.oz=.ins C fs/\(C,sd)∈[(ZU.C,GK),(ZX.C,HB),(ZM.C,DV),(ZN.C,DM),(ZL.C,Co),(ZH.C,Gb)]/\fs.lookup ("slope":Str)=none/\∀(n w s:Nat)(q:Nat)(g:Int)(S:Sto)(Q:DK)(ex:Addr->Sto->Prop)(vs:LI)(sl:List LI)(ds:List D),S[n]?=some (v.oz)->S[w]?=some (.lst (vs.map frD))->S[s]?=some (.lst ds)->Yi S 0 ds sl->(∀i:Int,inR sl.length i->(sl.getD i.toNat []).length=q/\∀l,l<q->(gs sl i l).1<=(gs sl i l).2/\Sz 1100 (gs sl i l).1/\Sz 1100 (gs sl i l).2)->q<=900->v.ok sl.length q->sl.length<=vs.length->Spn 1000 vs->(1<=g/\g<=1000000)->(∀(T:Sto)(m:Nat),Pre S T->S.length<=m->T[m]?=some (.lst ((YF vs sl g q v).map frD))->Q (.ref m) T)->sd [.ref n,.ref w,.ref s,.int (q:Nat),.int g] S Q ex:=by
   intro v;cases v with
   | number x y=>exact⟨_,_,_,rfl,(.head _),rfl,λn w s q g S Q ex vs sl ds a1 a2 a3 a4 a5 a6 a7 a8 a9 b1 b2=>⟨x,y,q,vs,sl,ds,a1,a2,a3,a4,a5,⟨rfl,a6⟩,a7,a8,a9,b1,b2⟩⟩
   | unknown k=>exact⟨_,_,_,rfl,(.tail _ (.head _)),rfl,λn w s q g S Q ex vs sl ds a1 a2 a3 a4 a5 a6 a7 a8 a9 b1 b2=>⟨k,q,vs,sl,ds,a1,a2,a3,a4,a5,⟨rfl,a6⟩,a7,a8,a9,b1,b2⟩⟩
   | plus i j=>exact⟨_,_,_,rfl,(.tail _ (.tail _ (.head _))),rfl,λn w s q g S Q ex vs sl ds a1 a2 a3 a4 a5 a6 a7 a8 a9 b1 b2=>⟨i,j,q,vs,sl,ds,a1,a2,a3,a4,a5,⟨rfl,a6⟩,a7,a8,a9,b1,b2⟩⟩
   | minus i j=>exact⟨_,_,_,rfl,(.tail _ (.tail _ (.tail _ (.head _)))),rfl,λn w s q g S Q ex vs sl ds a1 a2 a3 a4 a5 a6 a7 a8 a9 b1 b2=>⟨i,j,q,vs,sl,ds,a1,a2,a3,a4,a5,⟨rfl,a6⟩,a7,a8,a9,b1,b2⟩⟩
   | times i j=>exact⟨_,_,_,rfl,(.tail _ (.tail _ (.tail _ (.tail _ (.head _))))),rfl,λn w s q g S Q ex vs sl ds a1 a2 a3 a4 a5 a6 a7 a8 a9 b1 b2=>⟨i,j,q,vs,sl,ds,a1,a2,a3,a4,a5,⟨rfl,a6⟩,a7,a8,a9,b1,b2⟩⟩
   | power i m=>exact⟨_,_,_,rfl,(.tail _ (.tail _ (.tail _ (.tail _ (.tail _ (.head _)))))),rfl,λn w s q g S Q ex vs sl ds a1 a2 a3 a4 a5 a6 a7 a8 a9 b1 b2=>⟨i,m,q,vs,sl,ds,a1,a2,a3,a4,a5,⟨rfl,a6⟩,a7,a8,a9,b1,b2⟩⟩
  refine⟨ns,ws,bs,ha,hb,net,sb,hg,hl,λT1 w pr1 lw hw=>?_⟩;have szw:=DT net rfl sb hg
  have lf:(Zt bs g ns).length=ns.length:=YI _ _ _
  have spn:Spn 1000 (Zt bs g ns):=szw.spn λk hk=>by
   have z:=(net.w1 (i:=(k:Int)) ⟨by lia,by lia⟩).2
   rwa [zK] at z
  refine Vx (n:=a) (o:=.lst (ns.map Nd.d)) (λk dl' S'=>k<=ns.length/\Pre T1 S'/\(∃ds:List D,S'[T1.length]?=some (.lst ds)/\Yi S' (T1.length+1) ds (Yj (Zt bs g ns) g bs.length (ns.take k)))/\∃u:Option D,dl'=[some (.ref a),some (.ref b),some (.int g),some (.ref w),some (.ref T1.length),u]) ⟨zP _,Pre.refl.push,⟨[],Zs _ _,Yi.nil⟩,_,rfl⟩ (λk dl' S' z=>z.2.1 _ _ (pr1 _ _ ha)) ?_ ?_
  .rintro k x dl' S' nx ct ex' ⟨hk,pr,⟨ds,hf,rows⟩,u,rfl⟩ hn;have ex2:(ns.map Nd.d)[k]?=some x:=ex';rw[zF] at ex2;obtain⟨v,hv,rfl⟩:=zL.mp ex2;have hk':=(zB.mp hv).1
   have ln:(Yj (Zt bs g ns) g bs.length (ns.take k)).length=k:=by rw[ND,zG];lia
   have okv:v.ok (Yj (Zt bs g ns) g bs.length (ns.take k)).length bs.length:=by rw[ln];exact(net.ok k v hv).1
   have slw:=Aq net szw lf hg k hk
   have ss:=slw.spn λi hi=>by
    have z:=(net.w1 (i:=(i:Int)) ⟨by lia,by lia⟩).2
    rwa [zK] at z
   obtain⟨C,fs,sd,eo,hm,hf2,go⟩:=disp v;have N1:=Zs S' (v.oz)
   have ld:ds.length=k:=by rw[rows.1,ln]
   have lt:=Z5 hf;refine zce (n:=T1.length) (xs:=ds) kId hf (λK hK=>?_) (by lia);refine G5 (n:=S'.length) (C:=C) (sd:=sd) (fs:=fs) (S1:=S'++[v.oz]) (λK hK=>⟨v,rfl,by exact hK⟩) (by rw[<- eo];exact N1) hm hf2 ?_;refine Xn (Zv (pr _ _ (pr1 _ _ hb))) ?_;rw[zA];refine go _ _ _ bs.length _ _ _ _ (Zt bs g ns) (Yj (Zt bs g ns) g bs.length (ns.take k)) ds N1 (Zv (pr _ _ hw)) (Zv hf) ((rows.low (zP _)).pre (XS Pre.refl _)) ss hq9 okv (by lia) spn hg λT m prT lm hT=>?_
   have hf3:=prT _ _ (Zv hf);refine hK _ _ hf3 ?_;have lS:(S'++[v.oz]).length=S'.length+1:=by simp
   have rows3:Yi T (T1.length+1) ds (Yj (Zt bs g ns) g bs.length (ns.take k)):=rows.pre λi o e=>prT _ _ (Zv e)
   refine hn _ _ ⟨by lia,Xg (pr.trans λi o e=>prT _ _ (Zv e)) (zC _),⟨ds++[.ref m],Ys hf3,?_⟩,_,rfl⟩;rw[Y4 hv,FE];have r4:=rows3.snoc (a:=m) (r:=YF (Zt bs g ns) (Yj (Zt bs g ns) g bs.length (ns.take k)) g bs.length v) (by lia) hT;exact r4.keep λx o hx e=>Z6 e (by lia)
  .rintro dl' S' ⟨hk,pr,⟨ds,hf,rows⟩,u,rfl⟩;have e:ns.take (Zo (.lst (ns.map Nd.d))).length=ns:=by
    show ns.take (ns.map Nd.d).length=ns;rw[zA,yG]
   rw[e] at rows;refine h _ _ ds (pr1.trans pr) ?_ hf rows;exact Xj pr1
def zcf  (Jd:Dfz q63 Kd Pc)(T8:Fkz 1 Xf Ro HZ)(SQ:Fkz 5 Xk Sj J1):Fkz 6 q63 Pc E8:=
 mkF Jd zap (λhr=>(Ze (Zk (Zh T8 hr (Zb (Zh SQ hr (pdv 0 (pdv 2 (pv 3)))) (pv 1)))))) λS Q ex=>by
  refine kR λa=>kR λp=>kR λb=>kI λg=>kN ?_
  rintro⟨ns,ws,bs,is,ha,hb,net,sb,hg,l7,b9,hp,i9,hi,h⟩;refine⟨ns,ws,bs,ha,hb,net,sb,b9,hg,l7,λT m ds pr lm hm rows=>?_⟩;have ls:=ND (Zt bs g ns) g bs.length ns
  have ld:ds.length=ns.length:=by rw[rows.1,ls]
  refine⟨ds,is,hm,pr _ _ hp,i9,λi him=>by rw[ld];exact hi i him,?_⟩;refine h _ _ (is.map λi=>ds.getD i .non) (λx o z=>Zv (pr _ _ z)) (Zs _ _) (zA ..) λd hd=>?_
  obtain⟨i,him,rfl⟩:=zN.mp hd;have hin:=hi i him
  have h1:ds[i]?=some (ds.getD i .non):=by rw[zD (show i<ds.length by lia)];simp[show i<ds.length by lia]
  have h2:(Yj (Zt bs g ns) g bs.length ns)[i]?=some ((Yj (Zt bs g ns) g bs.length ns).getD i []):=by rw[zD (show i<(Yj (Zt bs g ns) g bs.length ns).length by lia)];simp[show i<(Yj (Zt bs g ns) g bs.length ns).length by lia]
  obtain⟨q,eq,_,sq⟩:=rows.2 i _ _ h1 h2;exact⟨q,_,eq,zP _,Zv sq,_,rfl,zfo net sb hg hi _ (zN.mpr ⟨i,him,rfl⟩)⟩
def zfZ  (GH:Dfz Xu LR QO):Fkz 1 Xu QO CZ:=
 mkF GH zdX (λhr=>(Ze (Zk (X4 (Zu (ZG hr) (Zi Yg (dv 1) Za) Za (Zn _)) (Wf X5 (dv 0)) (dv 0))))) λS Q ex=>by
  refine kI λi=>kI λk=>kN ?_
  rintro⟨n,rfl,h⟩;refine ifD (λe=>?_) (λe=>?_)
  .have z:sgn i n=-i:=by unfold sgn;rw[if_pos (by lia)]
   rw[z] at h;exact h
  .have z:sgn i n=i:=by unfold sgn;rw[if_neg (by lia)]
   rw[z] at h;exact h
def zcl  (Ia:Dfz q93 QB Ru):Fkz 1 q93 Ru Ex:=
 mkF Ia Ds (λhr=>(Zf (Zl (i:=3) Ds.nd (Zi N0 (Wq (dv 0) Wt (WU (dv 1))) (Wq (dv 0) (WU (Zi Z2 (dv 1) Za)) Wt))) (Ze (Zk (Xb (x:="entries") (N:=["column"]) (caps:=[2]) (ar:=Zj QB) rfl rfl csc rfl (by decide) (dv 3) (λ_ _ _ _ _ _=>Yh) (λ_ _ _ _ _ _=>(Zi N0 (Wq (dv 0) Wt (WU (dv 1))) (Wq (dv 0) (WU (Zi Z2 (dv 1) Za)) Wt)))))))) λS Q ex=>by
  refine kR λm=>kI λr=>kI λc=>kN ?_
  rintro⟨ds,i,j,n,rfl,rfl,hm,lm,rows,hn,hi,hj,h⟩;refine WV (n:=m) (o:=.lst ds) (lo:=none) (hi:=some (i:Int)) kId kId kId hm ?_;refine WV (n:=m) (o:=.lst ds) (lo:=some ((i+1:Nat):Int)) (hi:=none) kId kId kId (Vf hm) ?_;dsimp only[Zo];rw[EL,Ck];refine L6 (xs:=ds.take i) (ys:=ds.drop (i+1)) (Vf (Zs _ _)) (Zs _ _) (by simp;lia) ?_;have p0:Pre S (S++[.lst (ds.take i)]++[.lst (ds.drop (i+1))]++[.lst (ds.take i++ds.drop (i+1))]):=Pre.refl.push.push.push;refine Cc (n:=(S++[Ob.lst (ds.take i)]++[Ob.lst (ds.drop (i+1))]).length) (RI 1024 (n+1)) (RI 1024 n) kId (Zs _ _) (rows.cut.pre p0) (by simp;lia) (λa xs S2 K hx ha hK=>?_) (λS2 ys p2 e2 l2 r2=>?_)
  .have lr:xs.length<=n+1:=by obtain⟨r,rfl,l,_⟩:=hx;simp[l]
   show dOp (Y5 Rt) (TR (XU 0) Jq (FO (XU 1))) (TR (XU 0) (FO (dOp wAdd (XU 1) (dC (D.int 1)))) Jq) [some (.ref a),some (.int (j:Int))] S2 K;simp only[dOp];refine WV (n:=a) (o:=.lst xs) (lo:=none) (hi:=some (j:Int)) kId kId kId ha ?_;refine WV (n:=a) (o:=.lst xs) (lo:=some ((j+1:Nat):Int)) (hi:=none) kId kId kId (Vf ha) ?_;dsimp only[Zo];rw[EL,Ck];refine L6 (xs:=xs.take j) (ys:=xs.drop (j+1)) (Vf (Zs _ _)) (Zs _ _) (by simp;lia) ?_;exact hK _ _ _ Pre.refl.push.push.push (by simp) (Zs _ _) (zcD hj hx)
  .exact h S2 _ ys (p0.trans p2) e2 (by rw[l2];simp;lia) r2
def zff (Va:Dfz q27 Ug VO)(VC:Fkz 0 q56 V8 IB):Fkz 1 q27 VO zgw:=
 mkG Va EX (λhr=>(Zf (Zw (Zu (ZG hr) (ZO (ZW YV) rfl Yw Boot.«len» (pv 0)) Za (Zn _)) (Ze (Zk Za)) Zz) (Ze (Zk (ZO (ZW (Mz rfl)) rfl VB Boot.«sum» (Zb (Hl (x1:="column") (x2:="entry") (N:=["matrix"]) (caps:=[0]) (ar:=Zj Ug) rfl rfl Vz rfl rfl rfl (by decide) rfl XZ Boot.«enumerate» (Zb (Zd (dv 0) Za) Zg) (λ_ _ _ _ _ _=>Yh) (λ_ _ _ _ _ _=>(Zi ZK (dv 1) (Zh VC hr (pdv 2 (Zb Za (pv 0))))))) Zg)))))) λS Q ex=>by
  refine kR λm=>kN ?_
  rintro⟨ds,n,hn,hm,lm,rows,h⟩;refine Xn hm ?_;refine ifD (λe=>⟨Pre.refl,.int _,h 1 (Nat.one_lt_two_pow (by lia))⟩) (λe=>?_);exact absurd (show ((ds.length:Nat):Int)=0 by lia) e
def OM (k:Nat)(hk:k<=3)(Ua:Dfz q56 NU V8)(Rn:Fkz 1 Xu QO CZ)(RX:Fkz (2*k+1) q27 VO (OE k))(U5:Fkz 1 q93 Ru Ex):Fkz (2*k+1+1) q56 V8 (LC k):=
 mkG Ua zds (λhr=>(Ze (Zk (Zh Rn hr (Zb (Zh RX hr (Zb (Zh U5 hr (pdv 0 (pdv 1 (pv 2))) (by lia)) Zg) (zC _)) (Zb (Zi Z2 (dv 1) (dv 2)) Zg)) (by lia))))) λS Q ex=>by
  refine kR λm=>kI λr=>kI λc=>kN ?_
  rintro⟨ds,i,j,n,hn,rfl,rfl,hi,hj,hm,lm,rows,h⟩;refine⟨ds,i,j,n,rfl,rfl,hm,lm,rows,by lia,hi,hj,λT k es pt e1 e2 e3=>?_⟩;exact⟨es,n,hn,e1,e2,e3,λx hx=>⟨i+j,by lia,pt,.int _,h _ (zc8 hx)⟩⟩
def MK (j:Nat)(hj:j<=3)(Va:Dfz q27 Ug VO)(VC:Fkz (2*j+1+1) q56 V8 (LC j)):Fkz (2*(j+1)+1) q27 VO (OE (j+1)):=
 mkG Va EX (λhr=>(Zf (Zw (Zu (ZG hr) (ZO (ZW YV) rfl Yw Boot.«len» (pv 0)) Za (Zn _)) (Ze (Zk Za)) Zz) (Ze (Zk (ZO (ZW (Mz rfl)) rfl VB Boot.«sum» (Zb (Hl (x1:="column") (x2:="entry") (N:=["matrix"]) (caps:=[0]) (ar:=Zj Ug) rfl rfl Vz rfl rfl rfl (by decide) rfl XZ Boot.«enumerate» (Zb (Zd (dv 0) Za) Zg) (λ_ _ _ _ _ _=>Yh) (λ_ _ _ _ _ _=>(Zi ZK (dv 1) (Zh VC hr (pdv 2 (Zb Za (pv 0))) (zC _))))) Zg)))))) λS Q ex=>by
  refine kR λm=>kN ?_
  rintro⟨ds,n,hn,hm,lm,rows,h⟩;refine Xn hm ?_;refine ifD (λe=>⟨Pre.refl,.int _,h 1 (Nat.one_lt_two_pow (by lia))⟩) (λe=>?_);obtain⟨n,rfl⟩:∃k,n=k+1:=⟨n-1,by lia⟩;obtain⟨a,xs,hd,_,ha,r,rfl,lr,zr⟩:=rows _ (yW (show 0<ds.length by lia));have hd0:ds[0]?=some (.ref a):=by rw[<- hd];exact zD (by lia)
  refine EA (n:=a) (xs:=r.map D.int) (S1:=S) (λd=>∃x,d=.int x/\Sz (1040*n+1031) x) (λK hK=>?_) ha (by simp;lia) (λk x hx S2 K p2 hK=>?_) λys ly hy=>?_
  .show dOp wIx (XU 0) (dC (D.int 0)) [some (.ref m)] S λx S1=>K [x] S1
   exact AK hm hd0 hK
  .rw[zF] at hx;obtain⟨y,hy,rfl⟩:=zL.mp hx;have hk:=(zB.mp hy).1
   have sy:=zr y (zE hy)
   show LC j [.ref m,.int 0,.int (k:Int)] S2 (λz S3=>wMul (.int y) z S3 K) (λ_ _=>False);exact⟨ds,0,k,n,by lia,rfl,rfl,zP _,by lia,p2 _ _ hm,lm,rows.pre p2,λz sz=>⟨ZF sy (sz.mono (show _<=6000 by lia)),hK _ ⟨_,rfl,(sy.mul sz).mono (by lia)⟩⟩⟩
  .obtain⟨zs,rfl,bz⟩:=all_map hy;rw[zA,zA] at ly;refine JE (Zs _ _) (Nv zs) ⟨Pre.refl.push,.int _,h _ ((zgR bz (by lia)).mono (by lia))⟩
def zfD  (KY:Dfz q32 Kk Py)(VC:Fkz 8 q56 V8 zaZ):Fkz 9 q32 Py Bi:=
 mkF KY zg0 (λhr=>(Ze (Zk (Zi zcq (Zi ZK (Zi ZK (Zh VC hr (pdv 0 (pdv 3 (pv 2)))) (dv 4)) (dv 4)) (dv 1))))) λS Q ex=>by
  refine kR λm=>kI λw=>kI λr=>kI λc=>kI λg=>kN ?_
  rintro⟨ds,i,j,n,hn,rfl,rfl,hi,hj,hm,lm,rows,hw,hg,h⟩;refine⟨ds,j,i,n,hn,rfl,rfl,hj,hi,hm,lm,rows,λx hx=>?_⟩;have e2:Sz 3121 x:=hx.mono (by lia)
  have eg:Sz 20 g:=Sz.of 1000000 (by lia);refine⟨ZF e2 eg,ZF (e2.mul eg) eg,⟨hw.1,hw.2.log hw.1⟩,h _ ?_⟩;exact ze7 ((e2.mul eg).mul eg) hw.1
def zhW  (J2:Dfz q41 PH Pf)(HP:Fkz 9 q32 Py Bi):Fkz 10 q41 Pf Bj:=
 mkF J2 zaq (λhr=>(Ze (Zk (MF (x:="column") (N:=["matrix","whole","row","grid"]) (caps:=[0,1,2,3]) (ar:=Zj PH) rfl rfl csc rfl (by decide) rfl YL (Zb (ZO (ZW YV) rfl Yw Boot.«len» (pv 0)) Zg) (λ_ _ _ _ _ _=>Yh) (λ_ _ _ _ _ _=>(Zh HP hr (pdv 1 (pdv 2 (pdv 3 (pdv 0 (pv 4))))))))))) λS Q ex=>by
  refine kR λm=>kI λw=>kI λr=>kI λg=>kN ?_
  rintro⟨ds,i,n,hn,rfl,hi,hm,lm,rows,hw,hg,h⟩;refine Fj (j:=n+1) (S1:=S) (λd=>∃x,d=.int x/\Sz 3200 x) (λK hK=>?_) (by lia) (λk S2 K hk p2 hK=>?_) λxs lx hx=>?_
  .refine Xn hm ?_;rw[lm];exact hK
  .exact⟨ds,i,k,n,hn,rfl,rfl,hi,by lia,p2 _ _ hm,lm,rows.pre p2,hw,hg,λx hx=>hK _ ⟨x,rfl,hx⟩⟩
  .obtain⟨r,rfl,zr⟩:=all_map hx;exact h _ ⟨r,rfl,by rw[<- lx,zA],zr⟩
def zdi  (IH:Dfz q94 Po QM)(GG:Fkz 10 q41 Pf Bj)(RX:Fkz 9 q27 VO zc4):Fkz 11 q94 QM Au:=
 mkF IH Ar (λhr=>(Zf (UI (i:=2) Ar.nd rfl (Or.inr rfl) (Zh RX hr (pv 0))) (Zf (Zw (Zu (ZG hr) (dv 2) Za (Zn _)) (Ze (Zk ZY)) Zz) (Ze (Zk (MF (x:="row") (N:=["matrix","whole","grid"]) (caps:=[0,2,1]) (ar:=Zj Po) rfl rfl csc rfl (by decide) rfl YL (Zb (ZO (ZW YV) rfl Yw Boot.«len» (pv 0)) Zg) (λ_ _ _ _ _ _=>Yh) (λ_ _ _ _ _ _=>(Zh GG hr (pdv 1 (pdv 2 (pdv 0 (pv 3)))))))))))) λS Q ex=>by
  refine kR λm=>kI λg=>kN ?_
  rintro⟨ds,n,⟨n1,n4⟩,hm,lm,rows,hg,h0,h1⟩;obtain⟨n,rfl⟩:∃k,n=k+1:=⟨n-1,by lia⟩;refine⟨ds,n+1,by lia,hm,lm,rows,λx hx=>?_⟩;refine ifD (c:=x=0) (λc=>h0) (λc=>?_);refine AW (j:=n+1) (T0:=S) (RI 3200 (n+1)) (λK hK=>?_) (by lia) (λk S2 K hk p2 hK=>?_) (λS2 ys p2 e2 l2 r2=>h1 S2 _ ys p2 e2 l2 r2)
  .refine Xn hm ?_;rw[lm];exact hK
  .exact⟨ds,k,n,by lia,rfl,by lia,p2 _ _ hm,lm,rows.pre p2,⟨c,hx.mono (by lia)⟩,hg,λxs hx=>hK _ _ _ Pre.refl.push (zC _) (Zs _ _) hx⟩
def zcb  (IC:Dfz Xm NV TV):Fkz 1 Xm TV Gy:=
 mkF IC zey (λhr=>(Ze (Zk (Zi YK (Zi Z2 (Zd (dv 0) Za) (Zd (dv 0) Za)) Za)))) λS Q ex=>by
  refine kP λ_ _=>kN λh=>?_
  exact h
def zeL  (HK:Dfz q85 R4 Tv)(Sv:Fkz 1 Xm TV Gy):Fkz 2 q85 Tv FU:=
 mkF HK zgx (λhr=>(Ze (Zk (Xb (x:="span") (N:=[]) (caps:=[]) (ar:=Zj R4) rfl rfl csc rfl (by decide) (dv 0) (λ_ _ _ _ _ _=>Yh) (λ_ _ _ _ _ _=>(Zh Sv hr (pv 0))))))) λS Q ex=>by
  refine kR λs=>kN ?_
  rintro⟨vs,hs,l9,h⟩;refine Vi (n:=s) (S1:=S) (o:=.lst (vs.map frD)) (λd=>match d with|.tup [.int a,.int b]=>.int ((a+b)/2)|_=>.non) kId hs (by show (vs.map frD).length<=1000;rw[zA];lia) (λx hx S2 K pr hK=>?_) ?_
  .have hx':x∈vs.map frD:=hx;obtain⟨p,_,rfl⟩:=zN.mp hx';exact hK
  .have e2:(Zo (.lst (vs.map frD))).map (λd=>match d with|.tup [.int a,.int b]=>.int ((a+b)/2)|_=>.non)=vs.map λp=>D.int (mid p):=by
    show (vs.map frD).map _=_;rw[yA];rfl
   rw[e2];exact h
def zgg  (Kt:Dfz q21 Qy V2)(Rc:Fkz 2 q85 Tv FU):Fkz 3 q21 V2 N4:=
 mkF Kt zfG (λhr=>(Ze (Zk (Xb (x:="place") (N:=[]) (caps:=[]) (ar:=Zj Qy) rfl rfl csc rfl (by decide) (Zh Rc hr (pv 0)) (λ_ _ _ _ _ _=>Yh) (λ_ _ _ _ _ _=>(Zy (pdv 0 (pv 0)))))))) λS Q ex=>by
  refine kR λb=>kN ?_
  rintro⟨vs,hb,l9,h⟩;refine Vi (n:=S.length) (S1:=S++[.lst (vs.map λp=>.int (mid p))]) (o:=.lst (vs.map λp=>.int (mid p))) (λd=>.tup [d,d]) (λK hK=>⟨vs,hb,l9,hK⟩) (Zs _ _) (by show (vs.map _).length<=1000;rw[zA];lia) (λx hx S2 K pr hK=>by exact hK) ?_;refine h _ _ Pre.refl.push.push (by simp) ?_;have e:(Zo (.lst (vs.map λp=>D.int (mid p)))).map (λd=>D.tup [d,d])=(vs.map XJ).map frD:=by
   show (vs.map λp=>D.int (mid p)).map _=_;rw[yA];rw[yA];rfl
  rw[e];exact Zs _ _
def zbp  (Ee:Dfz q22 MM TB)(YQ:Fkz 1 q30 Wh Ur)(Xz:Fkz 2 q40 VS RN):Fkz 3 q22 TB Ky:=
 mkF Ee Nl (λhr=>(Zf (Zl (i:=3) Nl.nd (Zy (Zb Za (Zb Za Zg)))) (Zf (zdw (is:=[4,5]) PassesOwn.never rfl Nl.nd (Nms.cons (i:=4) rfl (Or.inl rfl) (by first|exact .inl rfl|exact .inr rfl) (Nms.cons (i:=5) rfl (Or.inl rfl) (by first|exact .inl rfl|exact .inr rfl) Nms.nil)) rfl rfl Vl Boot.«zip» (pdv 0 (pv 1)) (Ze (Zl (i:=3) Nl.nd (Zh YQ hr (pdv 3 (Zb (Zh Xz hr (pdv 4 (pdv 5 (pv 2)))) Zg)))))) (Ze (Zk (dv 3)))))) λS Q ex=>by
  refine kR λa=>kR λb=>kI λg=>kN ?_
  rintro⟨us,vs,ha,hb,l6,z1,z2,hg,h⟩;have sg:Sz 21 g:=Sz.of 1000000 (by lia);refine zed (n:=a) (n':=b) (xs:=us.map frD) (ys:=vs.map frD) (S:=S) (λk dl'=>∃u1 u2:Option D,dl'=[some (.ref a),some (.ref b),some (.int g),some (frD (XN g (us.take k) (vs.take k))),u1,u2]) kId ha hb ⟨_,_,rfl⟩ ?_ ?_
  .rintro k x y dl' nx ct hx hy ⟨u1,u2,rfl⟩ hn;rw[zF] at hx hy;obtain⟨p,hp,rfl⟩:=zL.mp hx;obtain⟨r,hr,rfl⟩:=zL.mp hy;have zp:=z1 _ (zE hp)
   have zr:=z2 _ (zE hr);refine⟨⟨⟨ZF zp.1 zr.1,ZF zp.1 zr.2,ZF zp.2 zr.1,ZF zp.2 zr.2⟩,sg.fd (by lia)⟩,λmn mx hc=>?_⟩;obtain⟨rfl,rfl⟩:=hc.eq;refine hn _ ⟨some (frD p),some (frD r),?_⟩;rw[EG g us vs k hp hr];rfl
  .rintro dl' ⟨u1,u2,rfl⟩;rw[zA,zA,D9];exact h
def zat  (JU:Dfz q96 RD OA)(Yt:Fkz 1 q23 X7 VH)(Uz:Fkz 3 q22 TB Ky):Fkz 4 q96 OA Dt:=
 mkG JU FD (λhr=>(Zf (Zl (i:=5) FD.nd (X4 (Zu (ZG hr) (dv 0) (dv 1) (Zn _)) (Zy (pdv 4 (pv 4))) (Zy (Zb Za (Zb Za Zg))))) (Zf (E1 (x:="slant") (N:=["column"]) (caps:=[1]) (ar:=Zj RD) rfl rfl csc rfl (by decide) (i:=6) FD.nd rfl rfl (dv 3) (λ_ _ _ _ _ _=>Yh) (λ_ _ _ _ _ _=>(ZE (dv 0) (dv 1)))) (Ze (Zk (Zh Yt hr (pdv 5 (Zb (Zh Uz hr (pdv 2 (pdv 6 (pv 4)))) Zg)))))))) λS Q0 ex0=>by
  refine kI λk=>kI λc=>kR λt=>kR λs=>kI λg=>kN ?_
  rintro⟨q,cn,ts,ds,rfl,ht,hs,rows,hc,l6,r6,z1,hg,h⟩;have sg:Sz 21 g:=Sz.of 1000000 (by lia)
  have s0:Sz 21 0:=yE (by decide);refine ifD (λe=>?_) (λe=>?_)
  all_goals
   refine T9 (n:=s) (S1:=S) (o:=.lst ds) (λd=>∃p,d=frD p/\Sz 1023 p.1/\Sz 1023 p.2) kId hs (by show ds.length<=1000;lia) (λx hx S2 K pr hK=>?_) (λxs lx hx=>?_)
   .obtain⟨a,_,rfl,_,ha,r,rfl,lr,br⟩:=rows x hx;have ic:inR ((r.length:Nat):Int) (cn:Int):=⟨by lia,by lia⟩;exact ZA (o:=.lst _) (pr _ _ ha) (ZQ ic) (hK _ ⟨_,rfl,br.at ic⟩)
   .obtain⟨vs,rfl,bv⟩:=all_map hx;have z:=zeQ hg.1 z1 bv l6;refine⟨ts,vs,Zv ht,Zs _ _,l6,z1.up (by decide),Bd.up bv (by decide),hg,?_⟩;exact⟨Pre.refl.push,SR,h _ _ ((Sz.sub (by first|exact sg|exact s0) z.2).mono (by decide)) ((Sz.sub (by first|exact sg|exact s0) z.1).mono (by decide))⟩
def zd4  (Hb:Dfz q97 V4 QG)(YQ:Fkz 1 q30 Wh Ur)(Uz:Fkz 3 q22 TB Ky)(Yt:Fkz 1 q23 X7 VH)(G6:Fkz 4 q96 OA Dt)(Vt:Fkz 3 q21 V2 N4):Fkz 5 q97 QG Cr:=
 mkG Hb SK (λhr=>(Zf (UI (i:=6) SK.nd rfl (Or.inr rfl) (Xb (x:="entry") (N:=[]) (caps:=[]) (ar:=Zj V4) rfl rfl csc rfl (by decide) (dv 3) (λ_ _ _ _ _ _=>Yh) (λ_ _ _ _ _ _=>(Zy (pdv 0 (pv 0)))))) (Zf (Zl (i:=7) SK.nd (Zh Vt hr (pv 1))) (Zf (Zl (i:=8) SK.nd (Zh Yt hr (Zb (ZE (dv 7) (dv 0)) (Zb (Zh Uz hr (pdv 6 (pdv 4 (pv 2)))) Zg)))) (Zf (GP (x:="column") (N:=["k","turns","slants","grid"]) (caps:=[0,6,5,2]) (ar:=Zj V4) rfl rfl csc rfl (by decide) (i:=9) SK.nd rfl rfl rfl YL (Zb (ZO (ZW YV) rfl Yw Boot.«len» (pv 1)) Zg) (λ_ _ _ _ _ _=>Yh) (λ_ _ _ _ _ _=>(Zh G6 hr (pdv 1 (pdv 0 (pdv 2 (pdv 3 (pv 4)))))))) (Zf (zcB (x1:="span") (x2:="centre") (N:=[]) (caps:=[]) (ar:=Zj V4) rfl rfl Vz rfl rfl rfl (by decide) (i:=10) SK.nd rfl rfl rfl Vl Boot.«zip» (pdv 1 (pv 7)) (λ_ _ _ _ _ _=>(Zh Yt hr (pdv 0 (pv 1))))) (Ze (Zk (Zh YQ hr (pdv 8 (Zb (Zh Uz hr (pdv 9 (pdv 10 (pv 2)))) Zg))))))))))) λS Q0 ex0=>by
  refine kI λki=>kR λb=>kI λg=>kR λe=>kR λt=>kR λs=>kN ?_
  rintro⟨k,box,aA,es,ds,rfl,hk,he,e4,ze,hb,ht,hs,rows,bl,r4,zb,zt,hg,h⟩;refine T9 (n:=e) (S1:=S) (o:=.lst (es.map D.int)) (λd=>∃p,d=frD p/\Sz 3200 p.1/\Sz 3200 p.2) kId he (by show (es.map D.int).length<=1000;rw[zA];lia) (λx hx S2 K pr hK=>?_) (λxs lx hx=>?_)
  .obtain⟨i,hi,rfl⟩:=zN.mp (show x∈es.map D.int from hx);exact hK _ ⟨(i,i),rfl,ze i hi,ze i hi⟩
  obtain⟨ts,rfl,bt⟩:=all_map hx;have lt:(ts.map frD).length=(es.map D.int).length:=lx;rw[zA,zA] at lt;refine⟨box,Zv hb,by lia,λT m pr lm hm=>?_⟩;have P0:Pre S T:=λx o z=>pr _ _ (Zv z)
  have hT:=pr _ _ (Zs S (.lst (ts.map frD)));refine ZA (o:=.lst ((box.map XJ).map frD)) hm (ZQ (i:=(k:Int)) ⟨by lia,by rw[zA];lia⟩) ?_;refine⟨ts,aA,hT,P0 _ _ ht,by lia,Bd.up bt (by decide),zt.up (by decide),hg,?_⟩;refine Fj (j:=box.length) (S1:=T) (λd=>∃p,d=frD p/\Sz 20000 p.1/\Sz 20000 p.2) (λK hK=>by
   refine Xn (P0 _ _ hb) ?_;rw[zA];exact hK) (by lia) (λc S2 K hc p2 hK=>?_) (λls ll hl=>?_)
  .exact⟨box.length,c,ts,ds,rfl,p2 _ _ hT,p2 _ _ (P0 _ _ hs),(rows.pre P0).pre p2,hc,by lia,by lia,bt,hg,λa b ha hb=>hK _ ⟨(a,b),rfl,ha,hb⟩⟩
  obtain⟨lv,rfl,bv⟩:=all_map hl;rw[zA] at ll;refine Kb (n:=b) (n':=m) (S1:=T++[.lst (lv.map frD)]) (xs:=box.map frD) (ys:=(box.map XJ).map frD) (λx y=>match x,y with|.tup [.int a,.int b],.tup [.int c,.int d]=>.tup [.int (a-d),.int (b-c)]|_,_=>.non) kId (Zv (P0 _ _ hb)) (Zv hm) (by rw[zA];lia) (λj x y hx hy S2 K p2 hK=>?_) ?_
  .rw[zF] at hx hy;obtain⟨p,hp,rfl⟩:=zL.mp hx;obtain⟨r,hr,rfl⟩:=zL.mp hy;exact hK
  have eW:List.zipWith (λx y=>match x,y with|.tup [.int a,.int b],.tup [.int c,.int d]=>.tup [.int (a-d),.int (b-c)]|_,_=>.non) (box.map frD) ((box.map XJ).map frD)=(box.map λp=>JH p (XJ p)).map frD:=by
   rw[yA,List.zipWith_map,yA,List.zipWith_self];rfl
  rw[eW];refine⟨lv,_,Zv (Zs _ _),Zs _ _,by lia,bv,λp hp=>?_,hg,λx o z=>Zv (Zv (P0 _ _ z)),SR,h _ _⟩;obtain⟨x,hx,rfl⟩:=zN.mp hp;have z:=zb x hx
  have zmid:=Cf z.1 z.2;exact(zfs (B:=60) (C:=61) z ⟨zmid,zmid⟩).imp (λz=>z.mono (by decide)) (λz=>z.mono (by decide))
def zba  (KQ:Dfz q98 Q7 Rv)(F2:Fkz 5 q97 QG Cr):Fkz 6 q98 Rv CW:=
 mkF KQ zhC (λhr=>(Ze (Zk (Hl (x1:="k") (x2:="entries") (N:=["box","grid","thin","slants"]) (caps:=[0,1,3,4]) (ar:=Zj Q7) rfl rfl Vz rfl rfl rfl (by decide) rfl XZ Boot.«enumerate» (pv 2) (λ_ _ _ _ _ _=>Yh) (λ_ _ _ _ _ _=>(Zh F2 hr (pdv 0 (pdv 2 (pdv 3 (pdv 1 (pdv 4 (pv 5)))))))))))) λS Q ex=>by
  refine kR λb=>kI λg=>kR λu=>kR λt=>kR λs=>kN ?_
  rintro⟨box,aA,ms,ds,hu,lm,mi,hb,ht,hs,rows,bl,r4,zb,zt,hg,h⟩;refine EA (n:=u) (S1:=S) (xs:=ms) (λd=>∃p,d=frD p/\True) kId hu (by lia) (λk x hx S2 K pr hK=>?_) λys ly hy=>?_
  .have hk:=(zB.mp hx).1;obtain⟨a,_,rfl,_,ha,r,rfl,lr,zr⟩:=mi x (zE hx);exact⟨k,box,aA,r,ds,rfl,by lia,pr _ _ ha,by lia,zr,pr _ _ hb,pr _ _ ht,pr _ _ hs,rows.pre pr,bl,r4,zb,zt,hg,λa b=>hK _ ⟨(a,b),rfl,trivial⟩⟩
  .obtain⟨vs,rfl,_⟩:=all_map hy;exact h vs (by rw[zA] at ly;lia)
def zhv  (JN:Dfz q42 NZ QX)(T8:Fkz 1 Xf Ro HZ)(Yk:Fkz 4 q28 XI Vn)(Vt:Fkz 3 q21 V2 N4):Fkz 5 q42 QX AF:=
 mkF JN zeB (λhr=>(Ze (Zk (Zh T8 hr (Zb (Zh Yk hr (pdv 0 (Zb (Zh Vt hr (pv 2)) (pv 3)))) (pv 1)))))) λS Q ex=>by
  refine kR λa=>kR λp=>kR λb=>kI λg=>kN ?_
  rintro⟨ns,ws,bs,is,ha,hb,net,sb,hg,l7,b9,hp,i9,hi,h⟩;refine⟨bs,hb,b9,λT m pr lm hm=>?_⟩;refine⟨ns,ws,bs.map XJ,pr _ _ ha,hm,by rw[zA];exact net,Fs sb,hg,l7,λT1 m1 pr1 lm1 h1=>?_⟩;refine⟨_,is,h1,pr1 _ _ (pr _ _ hp),i9,λi him=>by rw[zA,YI];exact hi i him,?_⟩;have s1:Spn 1000 (Zt (bs.map XJ) g (ns.take ns.length)):=NN (by rw[zA];exact net) rfl (Fs sb) hg ns.length (zC _);rw[yG] at s1;obtain⟨vs,ev,bv⟩:=all_map (c:=frD) (P:=λp=>Sz 2000 p.1/\Sz 2000 p.2) (xs:=is.map λi=>((Zt (bs.map XJ) g ns).map frD).getD i .non) λd hd=>by
   obtain⟨i,him,rfl⟩:=zN.mp hd;have hl:i<(Zt (bs.map XJ) g ns).length:=by rw[YI];exact hi i him
   have z:=s1 _ (yW hl);exact⟨_,by simp[hl],z.2.1.mono (by decide),z.2.2.mono (by decide)⟩
  rw[ev];refine h _ _ vs (λx o z=>Zv (pr1 _ _ (pr _ _ z))) ?_ (Zs _ _) bv;have:=Xj pr
  have:=Xj pr1;lia
def AV  (Jc:Dfz "deep" LB Qz):Fkz 1 "deep" Qz E7:=
 mkF Jc AG (λhr=>(Ze (Zk (Wo (Ye Yv (Zd (dv 1) Za) (Zd (dv 0) Za) (Zn _)) (X3 (Ye Yv (Zd (dv 0) Za) (Zd (dv 1) Za) (Zn _))))))) λS Q ex=>by
  refine kP λ_ _=>kP λ_ _=>kN λh=>?_
  refine ifD (λe=>?_) (λe=>?_)
  .rw[decide_eq_true e,Bool.true_and] at h;exact h
  .rw[decide_eq_false e,Bool.false_and] at h;exact h
def zfR  (Jt:Dfz q74 Oa PR)(Gg:Fkz 1 "deep" Qz E7):Fkz 2 q74 PR Az:=
 mkG Jt AU (λhr=>(Ze (Zk (ZO (ZW (VJ rfl)) rfl XX Boot.«all» (Zb (KA (x1:="new") (x2:="old") (N:=[]) (caps:=[]) (ar:=Zj Oa) rfl rfl Vz rfl rfl rfl (by decide) rfl Vl Boot.«zip» (pdv 0 (pv 1)) (λ_ _ _ _ _ _=>(Zh Gg hr (pdv 0 (pv 1))))) Zg))))) λS Q0 ex0=>by
  refine kR λm=>kR λn=>kN ?_
  rintro⟨us,vs,h1,h2,hl,h⟩;refine Kb (n:=m) (n':=n) (S1:=S) (xs:=us.map frD) (ys:=vs.map frD) (λx y=>match x,y with|.tup [.int a,.int b],.tup [.int c,.int d]=>.bl (decide (c<a)&&decide (b<d))|_,_=>.non) kId h1 h2 (by rw[zA];exact hl) (λk x y hx hy S2 K pr hK=>?_) ?_
  .obtain⟨p,_,rfl⟩:=zN.mp (zE hx);obtain⟨q,_,rfl⟩:=zN.mp (zE hy);exact hK
  .refine MX (n:=S.length) (o:=.lst _) (bs:=List.zipWith BV us vs) (Zs _ _) (zhF us vs) ?_;exact⟨Pre.refl.push,.bl _,h _⟩
def zeO  (FX:Dfz q26 RH RV)(Rg:Fkz 1 "sure" US IL):Fkz 2 q26 RV CO:=
 mkG FX zdV (λhr=>(Ze (Zk (ZO (ZW (VJ rfl)) rfl XX Boot.«all» (Zb (Xb (x:="row") (N:=["spans"]) (caps:=[1]) (ar:=Zj RH) rfl rfl csc rfl (by decide) (dv 0) (λ_ _ _ _ _ _=>JO (Zu (ZG hr) (Zd (dv 0) Za) ZR (Zn _))) (λ_ _ _ _ _ _=>(Zh Rg hr (Zb (Zd (dv 0) Za) (Zb (ZE (dv 1) (Zd (dv 0) Za)) Zg))))) Zg))))) λS Q0 ex0=>by
  refine kR λr=>kR λs=>kN ?_
  rintro⟨rows,vs,hr,hs,l9,hi,h⟩;refine Dw (n:=r) (S1:=S) (o:=.lst (rows.map rwD)) (λd=>match d with|.tup [.str w,.int at']=>if w="least" then some (.bl (decide (0<=(gt vs at').1))) else none|_=>none) kId hr (by show (rows.map rwD).length<=1000;rw[zA];lia) (λx hx S2 K pr hK=>?_) (λx hx y hy S2 K pr hK=>?_) ?_
  .have hx':x∈rows.map rwD:=hx;obtain⟨⟨b,n⟩,_,rfl⟩:=zN.mp hx';cases b
   .exact hK
   .exact hK
  .have hx':x∈rows.map rwD:=hx;obtain⟨⟨b,n⟩,hm,rfl⟩:=zN.mp hx';cases b
   .cases hy;refine ZA (o:=.lst (vs.map frD)) (pr _ _ hs) (ZQ (vs:=vs) (i:=(n:Int)) ⟨by lia,by have:=hi _ hm;dsimp only at this;lia⟩) ?_;exact .inr ⟨rfl,hK⟩
   .exact absurd hy (by
     simp[rwD];intro z;exact absurd z (by decide))
  .refine MX (n:=S.length) (o:=.lst _) (Zs _ _) (Fp vs rows) ?_;exact⟨Pre.refl.push,.bl _,h _⟩
def zgi  (II:Dfz Xs PM QS)(KR:Fkz 2 q74 PR Az)(Hh:Fkz 6 q98 Rv CW)(Ji:Fkz 5 q42 QX AF)(FP:Fkz 11 q94 QM Au)(Rc:Fkz 2 q85 Tv FU)(Fe:Fkz 6 q63 Pc E8)(HM:Fkz 2 q26 RV CO)(Yk:Fkz 4 q28 XI Vn)(Ei:Fkz 1 q25 PL EI):Fkz 12 Xs QS Dc:=
 mkF II RZ (λhr=>(Zf (Zl (i:=4) RZ.nd (Zh Ei hr (pv 1))) (Zf (Zw (PDW.pt (Wi (Zu (Fi hr) (ZO (ZW YV) rfl Yw Boot.«len» (pv 4)) (ZO (ZW YV) rfl Yw Boot.«len» (pv 2)) (Zn _)) (Ue (Wg (YS (Zh HM hr (pdv 1 (Zb (Zh Yk hr (pdv 0 (pdv 2 (pv 3)))) Zg)))))))) (Ze (Zk ZY)) Zz) (Zf (Zl (i:=5) RZ.nd (Zh Fe hr (pdv 0 (pdv 4 (pdv 2 (pv 3)))))) (Zf (Zl (i:=6) RZ.nd (Zh FP hr (Zb (Xb (x:="slant") (N:=[]) (caps:=[]) (ar:=Zj PM) rfl rfl csc rfl (by decide) (dv 5) (λ_ _ _ _ _ _=>Yh) (λ_ _ _ _ _ _=>(Zh Rc hr (pv 0)))) (pv 3)))) (Zf (Zw (Zu YW (dv 6) ZY (Zn _)) (Ze (Zk ZY)) Zz) (Zf (Zl (i:=7) RZ.nd (Zh Hh hr (pdv 2 (pdv 3 (pdv 6 (Zb (Zh Ji hr (pdv 0 (pdv 4 (pdv 2 (pv 3))))) (pv 5))))))) (Zf (Zw (Wg (YS (Zh KR hr (pdv 7 (pv 2))))) (Ze (Zk ZY)) Zz) (Ze (Zk (Zy (pdv 6 (pv 7))))))))))))) λS Q ex=>by
  refine kR λa=>kR λr=>kR λb=>kI λg=>kN ?_
  rintro⟨ns,ws,bs,rows,ha,hb,net,sb,hg,l7,b9,hr,r9,hi,bl,hN,hY⟩;have hi':∀i∈eqs rows,i<ns.length:=λi him=>hi _ (zeW him)
  refine⟨rows,hr,r9,?_⟩;have P0:Pre S (S++[Ob.lst ((eqs rows).map wtD)]):=Pre.refl.push
  have hp:=Zs S (.lst ((eqs rows).map wtD));refine Xn hp ?_;refine Xn (P0 _ _ hb) ?_;rw[zA,zA];refine ifN (λc=>YU (hN _ P0)) (λc=>?_);have lq:(eqs rows).length=bs.length:=by lia
  refine⟨ns,ws,bs,P0 _ _ ha,P0 _ _ hb,net,sb,hg,l7,λT1 m1 p1 lm1 h1=>?_⟩;have P1:Pre S T1:=λx o z=>p1 _ _ (P0 _ _ z)
  refine⟨rows,Zt bs g ns,P1 _ _ hr,h1,r9,λr hr=>by rw[YI];exact hi r hr,λb=>?_⟩;cases b
  .exact YU (hN _ P1)
  refine Yq ?_;refine⟨ns,ws,bs,eqs rows,P1 _ _ ha,P1 _ _ hb,net,sb,hg,l7,b9,p1 _ _ hp,by lia,hi',λT2 m2 ds p2 h2 ld rowsT=>?_⟩;have P2:Pre S T2:=λx o z=>p2 _ _ (P1 _ _ z)
  have hp2:=p2 _ _ (p1 _ _ hp);refine Cc (n:=m2) (T0:=T2) (RF 1023 bs.length) (RI 1024 bs.length) kId h2 rowsT (by lia) (λa xs S2 K hx ha hK=>?_) (λS2 ys y1 y2 y3 y4=>?_)
  .obtain⟨r,rfl,lr,br⟩:=hx;refine⟨r,ha,by lia,hK _ _ _ Pre.refl.push (zC _) (Zs _ _) ⟨r.map mid,by rw[yA];rfl,by rw[zA];exact lr,λx hx=>?_⟩⟩;obtain⟨p,hp,rfl⟩:=zN.mp hx;exact Cf (br p hp).1 (br p hp).2
  have P3:Pre S S2:=λx o z=>y1 _ _ (P2 _ _ z)
  refine⟨ys,bs.length,bl,y2,by lia,y4,hg,hN _ P3,λT4 k4 es p4 e4 l4 r4=>?_⟩;have P4:Pre S T4:=λx o z=>p4 _ _ (P3 _ _ z)
  refine⟨ns,ws,bs,eqs rows,P4 _ _ ha,P4 _ _ hb,net,sb,hg,l7,b9,p4 _ _ (y1 _ _ hp2),by lia,hi',λT5 m5 vs p5 lm5 h5 bv=>?_⟩;have P5:Pre S T5:=λx o z=>p5 _ _ (P4 _ _ z)
  refine⟨bs,vs,es,ds,p5 _ _ e4,l4,r4.pre p5,P5 _ _ hb,h5,p5 _ _ (p4 _ _ (y1 _ _ h2)),((rowsT.pre y1).pre p4).pre p5,bl,by lia,λp hp=>⟨(sb p hp).2.1.mono (by decide),(sb p hp).2.2.mono (by decide)⟩,bv,hg,λus lu=>?_⟩;refine⟨us,bs,Zs _ _,Zv (P5 _ _ hb),by lia,λb=>?_⟩;cases b
  .exact YU (hN _ (XS P5 _))
  .exact Yq (hY _ _ _ (XS P5 _))
def zc0  (G8:Dfz q79 Mq QZ)(SQ:Fkz 5 Xk Sj J1)(Yk:Fkz 4 q28 XI Vn)(Vt:Fkz 3 q21 V2 N4)(Fy:Fkz 12 Xs QS Dc):Fkz 13 q79 QZ Dh:=
 mkF G8 Jy (λhr=>(Zf (Zl (i:=5) Jy.nd (Zh Fy hr (pdv 0 (pdv 1 (pdv 2 (pv 3)))))) (Zf (Zw (Zu YW (dv 5) ZY (Zn _)) (Ze (Zk ZY)) Zz) (Zf (Zl (i:=6) Jy.nd (Zh Yk hr (pdv 0 (Zb (Zh Vt hr (pv 2)) (pv 3))))) (Ze (Zk (Zy (Zb ZR (Zb (Zd (dv 5) Za) (Zb (Zd (dv 5) Za) (pdv 4 (pdv 6 (Zb (Zh SQ hr (pdv 0 (pdv 2 (pv 3)))) Zg))))))))))))) λS Q ex=>by
  refine kR λnd=>kR λrw=>kR λbx=>kI λg=>kR λsp=>kN ?_
  rintro⟨u,ns,ws,rows,e,R,hb,lu,se,hn,hy⟩;have net':ZJ ((e.length:Nat):Int) ns ws:=by rw[lu];exact R.net
  have u4:=R.u1
  have r4:=R.rl;refine⟨ns,ws,e,rows,R.nd,hb,net',se,R.hg,R.l70,by lia,R.rw,by lia,R.ri,by lia,hn,λT _ _ p=>?_⟩
  .refine⟨e,p _ _ hb,by lia,λT2 m2 p2 l2 h2'=>?_⟩;have P2:Pre S T2:=λx o z=>p2 _ _ (p _ _ z)
   refine⟨ns,ws,e.map XJ,P2 _ _ R.nd,h2',by rw[zA];exact net',Fs se,R.hg,R.l70,λT3 m3 p3 l3 h3'=>?_⟩;have P3:Pre S T3:=λx o z=>p3 _ _ (P2 _ _ z)
   refine⟨ns,ws,e,P3 _ _ R.nd,P3 _ _ hb,net',se,by lia,R.hg,R.l70,λT4 m4 ds p4 l4 h4' _=>?_⟩;exact hy _ _ _ _ _ _ λx o z=>p4 _ _ (P3 _ _ z)
def zfN  (IQ:Dfz Wj NL QJ)(Vc:Fkz 3 XE Ub LU)(Hw:Fkz 13 q79 QZ Dh)(Hd:Fkz 6 q65 QE By)(Yk:Fkz 4 q28 XI Vn):Fkz 14 Wj QJ Dx:=
 mkF IQ Lw (λhr=>(Zf (Zl (i:=5) Lw.nd (Zh Yk hr (pdv 0 (pdv 2 (pv 3))))) (Zf (Zl (i:=6) Lw.nd (Zh Hd hr (pdv 0 (pdv 1 (pdv 2 (pdv 3 (pv 5))))))) (Zf (Zw (Zu YW (dv 6) ZY (Zn _)) (Ze (Zl (i:=6) Lw.nd (Zh Hw hr (pdv 0 (pdv 1 (pdv 2 (pdv 3 (pv 5)))))))) Zz) (Zf (Zw (PDW.pt (Sh (Zu YW (dv 6) ZY (Zn _)) (U7 (Zu YX (Zh Vc hr (pv 2)) (dv 4) (Zn _))))) (Ze (Zk (Zy (Zb ZR Zg)))) Zz) (Ze (Zk (dv 6)))))))) λS Q ex=>by
  refine kR λnd=>kR λrw=>kR λbx=>kI λg=>kI λfine=>kN ?_
  rintro⟨u,ns,ws,rows,e,R,hb,lu,se,hf,hn⟩;have net':ZJ ((e.length:Nat):Int) ns ws:=by rw[lu];exact R.net
  have u4:=R.u1;refine⟨ns,ws,e,R.nd,hb,net',se,R.hg,R.l70,λT m p l hm=>?_⟩;have R1:=R.pre p;refine⟨u,ns,ws,rows,e,R1,p _ _ hb,lu,se,hm,λT2 k m2 row p2 l2 hr ib h2=>?_,λnb su T2 p2=>?_,λnb su T2 p2=>?_⟩
  .have:=Xj p;exact hf T2 (.out k _) _ (λx o z=>p2 _ _ (p _ _ z)) ⟨row,hr,rfl,ib⟩ λa b ha hb'=>⟨m2,rfl,by lia,by lia,h2⟩
  .exact hf T2 (.full _) _ (λx o z=>p2 _ _ (p _ _ z)) ⟨rfl,nb,su⟩ λa b ha hb'=>⟨m,rfl,by lia,by lia,p2 _ _ hm⟩
  .have P2:Pre S T2:=λx o z=>p2 _ _ (p _ _ z)
   refine⟨u,ns,ws,rows,e,R.pre P2,P2 _ _ hb,lu,se,λT3 p3=>?_,λT3 d1 d2 d3 d4 d5 p3=>?_⟩
   .have P3:Pre S T3:=λx o z=>p3 _ _ (P2 _ _ z)
    refine⟨e,P3 _ _ hb,by lia,λw T4 p4 hw=>?_⟩;have P4:Pre S T4:=λx o z=>p4 _ _ (P3 _ _ z)
    refine ifD (λc=>?_) (λc=>?_)
    .exact hf T4 .small _ P4 ⟨λq hq=>Int.le_trans (hw.1 q hq) c,nb,su⟩ λ_ _ _ _=>rfl
    .rcases hw.2 with ⟨z,_⟩|⟨q,hq,z⟩
     .rw[z] at lu;exact absurd lu (by show ¬ (0=u);lia)
     .exact hn T4 P4 ⟨q,hq,by lia⟩
   .exact hf T3 .one _ (λx o z=>p3 _ _ (P2 _ _ z)) trivial λ_ _ _ _=>⟨_,_,_,_,_,rfl⟩
def zgE  (Je:Dfz q66 MC Qg)(Wy:Fkz 2 XD Ux Ni):Fkz 3 q66 Qg Cs:=
 mkF Je zg1 (λhr=>(Ze (Zk (Ye YX (Zi ZK Za (ZO (ZW (Mz rfl)) rfl VB Boot.«sum» (Zb (Zh Wy hr (pv 0)) Zg))) (Zi ZK Za (ZO (ZW (Mz rfl)) rfl VB Boot.«sum» (Zb (Zh Wy hr (pv 1)) Zg))) (Zn _))))) λS Q ex=>by
  refine kR λx=>kR λy=>kN ?_
  rintro⟨bs,cs,h1,h2,s1,s2,l1,l2,h⟩;obtain⟨a1,a2,_⟩:=NG s1;obtain⟨b1,b2,_⟩:=NG s2;have z4:Sz 60 (4:Int):=Sz.of (10^3) (by lia)
  have z3:Sz 60 (3:Int):=Sz.of (10^3) (by lia)
  have z1:Sz 60 (Vm bs):=by unfold Sz;lia
  have z2:Sz 60 (Vm cs):=by unfold Sz;lia
  refine⟨bs,h1,by lia,?_⟩;refine JE (n:=S.length) (Zs _ _) (Nv (bs.map wd)) ?_;refine⟨ZF z4 z1,?_⟩;refine⟨cs,Zv h2,by lia,?_⟩;refine JE (Zs _ _) (Nv (cs.map wd)) ?_;refine⟨ZF z3 z2,?_⟩;exact h _ λi o z=>Zv (Zv z)
def zan  (He:Dfz q35 NF Pd)(WB:Fmz 2 Zp.C "part" Sm Iw)(Sv:Fkz 1 Xm TV Gy)(Wy:Fkz 2 XD Ux Ni)(Vc:Fkz 3 XE Ub LU):Fkz 4 q35 Pd Cb:=
 mkF He FZ (λhr=>(Zf (Zl (i:=2) FZ.nd (ZE (ZT Zp.cl Zp.n_boxes (dv 0)) (dv 1))) (Zf (Zl (i:=3) FZ.nd (DA (k:=1) hr (by decide) (Zh Wy hr (pv 2)) (Zb (Zh Vc hr (pv 2)) Zg))) (Ze (Z9 (Wb (C:=Zp.C) (dv 0) Zp.cl WB.m WB.ok (hr.mono (by decide)) WB.b YC (pdv 1 (pdv 3 (Zb (Zh Sv hr (Zb (ZE (dv 2) (dv 3)) Zg)) Zg))))))))) λS Q ex=>by
  refine kR λn=>kI λi=>kN ?_
  rintro⟨a,b,j,es,fs,e,B,rfl,he,l4,ne,l9,h⟩;obtain⟨bs,m,h1,h2,o⟩:=B.box he;refine ZS (n:=n) kId B.ins rfl ?_;refine ZA (o:=.lst bs) h1 (Yx (j:=j) h2) ?_;refine zdJ (n:=S.length) (S1:=S++[.lst ((e.map wd).map D.int)]) (zs:=e.map wd) (λv S2=>Pre S S2/\S2[S.length]?=some (.lst ((e.map wd).map D.int))/\Wst e v) (λK hK=>⟨e,o.2.2,by lia,hK⟩) (λK hK=>⟨e,Zv o.2.2,by lia,λw T p hw=>hK _ _ ⟨λx o z=>p _ _ (Zv z),p _ _ (Zs _ _),hw⟩⟩) (Zs _ _) (λv S2 r=>⟨r.2.1,?_⟩) λv S2 k r hk=>?_
  .rcases r.2.2.2 with ⟨z,_⟩|⟨p,hp,rfl⟩
   .exact absurd z ne
   .exact zN.mpr ⟨p,hp,rfl⟩
  obtain⟨p,_,hw⟩:=r;rw[zF] at hk;obtain⟨s,hs,rfl⟩:=zL.mp hk;have lk:=(zB.mp hs).1
  have B2:=B.pre p
  have hs2:atI (e.map frD) (k:Int)=some (frD s):=Yx (j:=k) (by rw[zF,hs];rfl);refine Xe (n:=n) kId B2.ins rfl ?_;refine ZA (o:=.lst (e.map frD)) (p _ _ o.2.2) hs2 ?_;exact⟨a,b,j,k,es,fs,e,s,B2,rfl,rfl,he,hs,l4,l9,λT B3 cg=>h T k s hs hw B3 ((Cg.pre p).trans cg)⟩
def zhx  (Jx:Dfz "look" MG PF)(YN:Fmz 1 Zp.C WJ Uv Lh)(Ku:Fkz 3 q66 Qg Cs)(GU:Fkz 4 q35 Pd Cb)(KL:Fkz 14 Wj QJ Dx)(Kz:Fkz 11 W4 Pn Dr):Fkz 15 "look" PF BJ:=
 mkF Jx QT (λhr=>(Zf (Zl (i:=6) QT.nd (ZE (ZT Zp.cl Zp.n_boxes (dv 0)) (dv 5))) (Zf (Zl (i:=5) QT.nd (Zh Kz hr (pdv 0 (pdv 1 (pdv 2 (pdv 3 (pv 5))))))) (Zf (Zw (Zu Ao (ZE (ZT Zp.cl Zp.n_fates (dv 0)) (dv 5)) ZY (Zn _)) (Ze zfU) Zz) (Zf (Zl (i:=7) QT.nd (ZE (ZT Zp.cl Zp.n_boxes (dv 0)) (dv 5))) (Zf (Zl (i:=8) QT.nd (Zh KL hr (pdv 1 (pdv 2 (pdv 7 (pdv 3 (pv 4))))))) (Ze (Zw (Zu Ao (dv 8) ZY (Zn _)) (Ze (Z9 (Wb (C:=Zp.C) (dv 0) Zp.cl YN.m YN.ok (hr.mono (by decide)) YN.b YC (pdv 5 (pv 8))))) (Ze (Zw (Wg (YS (Zh Ku hr (pdv 7 (pv 6))))) (Ze (Z9 (Zh GU hr (pdv 0 (pv 5))))) Zz)))))))))) λS Q ex=>by
  refine kR λn=>kR λnd=>kR λrw=>kI λg=>kI λfine=>kI λi=>kN ?_
  rintro⟨a,b,j,u,ns,ws,rows,b0,e,es,fs,B,R,A,K,sb,lb,rfl,hw,he,f1,l9,h⟩;have u4:=R.u1;obtain⟨bs,m,h1,h2,o⟩:=B.box he;refine ZS (n:=n) kId B.ins rfl ?_;refine ZA (o:=.lst bs) h1 (Yx (j:=j) h2) ?_;refine⟨a,b,j,u,ns,ws,rows,b0,e,es,fs,fine,B,R,A,K,sb,lb,rfl,hw,he,by lia,λT es' fs' j' B' K' cg l' sh lj=>?_⟩;obtain⟨ll,oks⟩:=K.ok sb;obtain⟨ll',oks'⟩:=K'.ok sb;obtain⟨le,se⟩:=oks e (zE he);have he':=zD lj;generalize es'[j']=e' at he';obtain⟨le',se'⟩:=oks' e' (zE he');have hf':=zD (show j'<fs'.length by lia);generalize fs'[j']=f' at hf';obtain⟨ds,k1,k2,k3⟩:=B'.ft;obtain⟨d,d1,d2⟩:=k3 j' f' hf';refine ZS (n:=n) kId B'.ins rfl ?_;refine ZA (o:=.lst ds) k1 (Yx (j:=j') d1) ?_;have done:f'≠.wait->Q .non T:=λnw=>by
   refine h T es' fs' B' K' cg (by lia) ?_;by_cases c:es'.length=es.length
   .obtain⟨_,rfl⟩:=sh.2 c;exact .inr ⟨c,λz=>nw (by rw[hf'] at z;exact Option.some.inj z)⟩
   .exact .inl (by have:=sh.1;lia)
  have R':=R.cg A cg
  have la:a<T.length:=by
   obtain⟨_,z,_⟩:=B'.bx;exact Z5 z
  have lb':b<T.length:=Z5 k1;cases f' with
  | wait=>
   cases d2;obtain⟨bs',m',h1',h2',o'⟩:=B'.box he';refine ZS (n:=n) kId B'.ins rfl ?_;refine ZA (o:=.lst bs') h1' (Yx (j:=j') h2') ?_;refine⟨u,ns,ws,rows,e',R',o'.2.2,by lia,se',λT2 f d p2 fok fat=>?_,λT2 p2 big=>?_⟩
   .have B2:=B'.pre p2
    have fa:=fat a b la lb'
    have fw:f≠.wait:=λz=>by subst z;exact fok.elim
    obtain⟨xs,rfl⟩:∃xs,d=.tup xs:=by
     cases f with
     | wait=>exact fok.elim
     | cut _ _ _ _=>exact fok.elim
     | small=>exact⟨_,fa⟩
     | one=>obtain⟨_,_,_,_,_,z⟩:=fa;exact⟨_,z⟩
     | out _ _=>obtain⟨_,z,_⟩:=fa;exact⟨_,z⟩
     | full _=>obtain⟨_,z,_⟩:=fa;exact⟨_,z⟩
    refine Xe (n:=n) kId B2.ins rfl ?_;refine⟨a,b,j',es',fs',f,B2,rfl,by lia,fa,λT3 B3 cg3=>h T3 es' _ B3 (K'.put hf' he' fok) (cg.trans ((Cg.pre p2).trans cg3)) (by lia) ?_⟩;by_cases c:es'.length=es.length
    .obtain⟨_,rfl⟩:=sh.2 c;refine .inr ⟨c,λz=>?_⟩;rw[yI (by lia)] at z;exact fw (Option.some.inj z)
    .exact .inl (by have:=sh.1;lia)
   .have B2:=B'.pre p2;obtain⟨p,hp,wp⟩:=big;refine⟨e',e,p2 _ _ o'.2.2,p2 _ _ (o.cg cg).2.2,se',se,by lia,by lia,λT3 p3=>?_⟩;have B3:=B2.pre p3;refine ifN (λc=>?_) (λc=>?_)
    .refine⟨a,b,j',es',fs',e',B3,rfl,he',by lia,λz=>?_,by lia,λT4 k s hs ws' B4 cg4=>?_⟩
     .rw[z] at hp;cases hp
     .have w1:=ws'.1 p hp;unfold wd at w1 wp;refine h T4 _ _ B4 (K'.cut hf' he' hs (by lia) (by lia)) (cg.trans ((Cg.pre p2).trans ((Cg.pre p3).trans cg4))) (by simp;lia) (.inl (by have:=sh.1;simp;lia))
    .refine h T3 es' fs' B3 K' (cg.trans ((Cg.pre p2).trans (.pre p3))) (by lia) (.inl ?_);have s1:=sh.1;by_cases z:es'.length=es.length
     .obtain⟨rfl,rfl⟩:=sh.2 z;rw[he] at he';cases he';have:=(NG se).2.2 p hp;lia
     .lia
  | small=>cases d2;exact done (by intro z;cases z)
  | one=>obtain⟨_,_,_,_,_,rfl⟩:=d2;exact done (by intro z;cases z)
  | cut _ _ _ _=>cases d2;exact done (by intro z;cases z)
  | out _ _=>obtain⟨_,rfl,_⟩:=d2;exact done (by intro z;cases z)
  | full _=>obtain⟨_,rfl,_⟩:=d2;exact done (by intro z;cases z)
def zcK  (Hn:Dfz WK Nj QP)(Qn:Fmz 1 Zp.C Wm RQ CM)(Gk:Fkz 15 "look" PF BJ)(RA:Fmz 6 Zp.C VN QY Ho)(Tc:Fmz 1 Zp.C q3 QR Ab):Fkz 16 WK QP B8:=
 mkF Hn MI (λhr=>(Zf (Zl (i:=6) MI.nd (UQ ⟨Zp.makes,Tc.m.at_,Tc.m.fn,Zp.kp⟩ Tc.ok (hr.mono (by decide)) rfl Zp.m Tc.b Us (pv 2))) (Zf (Om (i:=7) PassesOwn.never rfl MI.nd rfl (Or.inl rfl) rfl YL (pv 5) (Zf (Zl (i:=8) MI.nd (Ce (C:=Zp.C) (dv 6) Zp.cl RA.m RA.ok (hr.mono (by decide)) RA.b YC)) (Zf (Zw (Zu YW (dv 8) ZY (Zn _)) (Ze zaQ) Zz) (Ze (Z9 (Zh Gk hr (pdv 6 (pdv 0 (pdv 1 (pdv 3 (pdv 4 (pv 8)))))))))))) (Ze (Zk (Ce (C:=Zp.C) (dv 6) Zp.cl Qn.m Qn.ok (hr.mono (by decide)) Qn.b YC)))))) λS Q ex=>by
  refine kR λnd=>kR λrw=>kR λbx=>kI λg=>kI λfine=>kI λlooks=>kN ?_
  rintro⟨u,t,ns,ws,rows,b0,R,hb,lu,sb,f1,⟨k0,k8⟩,ht,h⟩;have u4:=R.u1;refine⟨S,b0,rfl,rfl,hb,λU a b la lb pU B0=>⟨rfl,?_⟩⟩;have A:Apt nd rw a b:=⟨⟨by have:=Z5 R.nd;lia,by have:=Z5 R.nd;lia⟩,by have:=Z5 R.rw;lia,by have:=Z5 R.rw;lia⟩
  have RU:=R.pre pU
  have tt:=Z5 ht
  have lU:S.length<U.length:=Z5 B0.ins
  have back:∀ {S' T:Sto},Cg a b U S'->Pre S' T->Pre S T:=λ{S' T} cg p x o z=>p _ _ (cg.2 _ _ (by have:=Z5 z;lia) (by have:=Z5 z;lia) (pU _ _ z))
  refine⟨⟨by lia,by lia⟩,λk dl' S'=>(k:Int)<=looks/\∃(es:List LI)(fs:List Ft),Bk Zp.C S' S.length a b es fs/\Bks g fine ns rows b0 es fs/\Cg a b U S'/\es.length<=1+66*k/\(k=0->es=[b0]/\fs=[.wait])/\(0<k->es.length=1->fs[0]?≠some .wait)/\∃x7 x8:Option D,dl'=[some (.ref nd),some (.ref rw),some (.ref bx),some (.int g),some (.int fine),some (.int looks),some (.ref S.length),x7,x8],⟨by lia,[b0],[.wait],B0,.new,.refl,by simp,λ_=>⟨rfl,rfl⟩,λz=>absurd z (by lia),_,_,rfl⟩,?_⟩;rintro k dl' S' ⟨hk,es,fs,B,K,cg,l9,c0,c1,x7,x8,rfl⟩;split
  .rename_i c;refine Xe (n:=S.length) kId B.ins rfl ?_;refine⟨a,b,t,es,fs,B,cg.2 _ _ (by lia) (by lia) (pU _ _ ht),by lia,λe he=>by rw[((K.ok sb).2 e he).1];lia,λnw T p=>?_,λi T hw p=>?_⟩
   .refine Xe (n:=S.length) kId (B.pre p).ins rfl ?_;refine⟨a,b,es,fs,B.pre p,by lia,λT2 ds p2 h2 en=>h T2 T.length ds es fs (back (cg.trans (.pre p)) p2) ?_ h2 en K (by lia) (λz=>absurd z (by lia)) λ_ e1 z=>nw _ (zE z) rfl⟩;have:=Xj p
    have:=cg.1;lia
   .have ll:=(K.ok sb).1
    have li:=(zB.mp hw).1
    have he:=zD (show i<es.length by lia);refine⟨a,b,i,u,ns,ws,rows,b0,_,es,fs,B.pre p,(RU.cg A cg).pre p,A,K,sb,lu,rfl,hw,he,f1,by lia,λT2 es' fs' B2 K2 cg2 l2 c2=>?_⟩;refine⟨by lia,es',fs',B2,K2,cg.trans ((Cg.pre p).trans cg2),by lia,λz=>absurd z (by lia),λ_ e1=>?_,_,_,rfl⟩;rcases c2 with c2|⟨c2,c3⟩
    .lia
    .rw[show i=0 by lia] at c3;exact c3
  .rename_i c;refine Xe (n:=S.length) kId B.ins rfl ?_;refine⟨a,b,es,fs,B,by lia,λT2 ds p2 h2 en=>h T2 S'.length ds es fs (back cg p2) (by have:=cg.1;lia) h2 en K (by lia) (λz=>c0 (by lia)) λz=>c1 (by lia)⟩
def AQ  (Js:Dfz q81 SN QA):Fkz 1 q81 QA B6:=
 mkG Js ze8 (λhr=>(Ze (Zk (Wo (ZO (ZW (VJ rfl)) rfl XX Boot.«all» (Zb (Xb (x:="_law_one") (N:=["_law_share","_law_span_here"]) (caps:=[3,0]) (ar:=Zj SN) rfl rfl csc rfl (by decide) (dv 1) (λ_ _ _ _ _ _=>Yh) (λ_ _ _ _ _ _=>(Ye YX (Zi ZK (Zd (dv 2) Za) (dv 1)) (dv 0) (Zn _)))) Zg)) (X3 (ZO (ZW (VJ rfl)) rfl XX Boot.«all» (Zb (Xb (x:="_law_one") (N:=["_law_share","_law_span_here"]) (caps:=[3,0]) (ar:=Zj SN) rfl rfl csc rfl (by decide) (dv 2) (λ_ _ _ _ _ _=>Yh) (λ_ _ _ _ _ _=>(Ye YX (dv 0) (Zi ZK (Zd (dv 2) Za) (dv 1)) (Zn _)))) Zg))))))) λS Q0 ex0=>by
  refine kP λa b=>kR λl=>kR λr=>kI λs=>kN ?_
  rintro⟨ls,rs,hl,hr,l9,r9,⟨sa,sb,ss⟩,h1,h2,h⟩;refine T9 (n:=l) (S1:=S) (o:=.lst (ls.map D.int)) (λd=>d=.bl true) kId hl (by show (ls.map D.int).length<=1000;rw[zA];lia) (λx hx S2 K pr hK=>?_) λxs lx hx=>?_
  .obtain⟨z,hz,rfl⟩:=zN.mp (show x∈ls.map D.int from hx);exact⟨ZF sa ss,hK _ (congrArg D.bl (decide_eq_true (h1 z hz)))⟩
  refine Od hx ?_;refine T9 (n:=r) (S1:=S++[.lst xs]) (o:=.lst (rs.map D.int)) (λd=>d=.bl true) kId (Zv hr) (by show (rs.map D.int).length<=1000;rw[zA];lia) (λx hx S2 K pr hK=>?_) λys ly hy=>?_
  .obtain⟨z,hz,rfl⟩:=zN.mp (show x∈rs.map D.int from hx);exact⟨ZF sb ss,hK _ (congrArg D.bl (decide_eq_true (h2 z hz)))⟩
  exact Od hy ⟨Pre.refl.push.push,.bl _,h⟩
def zcW  (Jm:Dfz q90 M5 P7)(LS:Fkz 1 q81 QA B6)(Vk:Fkz 1 q72 Sy Iv):Fkz 2 q90 P7 Cy:=
 mkG Jm UJ (λhr=>(Zf (Zw (Zu (ZG hr) (Zd (dv 0) Za) ZR (Zn _)) (Zf (Zl (i:=5) UJ.nd (Zi ZK (Zd (dv 0) Za) (dv 4))) (Ze (Zk (Wo (Ye YX (Zi ZK (Zd (dv 2) Za) (Zd (dv 0) Za)) (dv 5) (Zn _)) (X3 (Ye YX (dv 5) (Zi ZK (Zd (dv 2) Za) (Zd (dv 0) Za)) (Zn _))))))) Zz) (Zf (Zw (Zu (ZG hr) (Zd (dv 0) Za) ZR (Zn _)) (Ze (Zk (Wo (Ye YX (Zd (dv 2) Za) (Zd (ZE (dv 3) (Zd (dv 0) Za)) Za) (Zn _)) (X3 (Ye YX (Zd (ZE (dv 3) (Zd (dv 0) Za)) Za) (Zd (dv 2) Za) (Zn _)))))) Zz) (Zf (Zl (i:=6) UJ.nd (ZE (dv 1) (Zd (dv 0) Za))) (Zf (Zw (Zu (ZG hr) (Zd (dv 0) Za) ZR (Zn _)) (Zf (Zl (i:=7) UJ.nd (Yu (Zb (Zh Vk hr (Zb (Zd (dv 6) Za) (Zb (Zd (dv 0) Za) Zg))) (Zb (Zh Vk hr (Zb (Zd (dv 6) Za) (Zb (Zd (dv 0) Za) Zg))) Zg)))) (Zf (Zl (i:=8) UJ.nd (Ud (ZW UO) rfl XC Boot.«list» (pv 7))) (Zf (Zw (PDW.pt (Sh (Zu Yv (Zd (dv 6) Za) Za (Zn _)) (U7 (Zu Yv Za (Zd (dv 6) Za) (Zn _))))) (Ze (Z9 (Yy (dv 8) Za))) Zz) (Ze (Zk (Zh LS hr (pdv 2 (pdv 8 (pdv 7 (Zb (Zh Vk hr (pdv 4 (Zb (Zi Yl (Zd (dv 0) Za) Za) Zg))) Zg)))))))))) Zz) (Zf (Zl (i:=9) UJ.nd (ZE (dv 1) (Zd (dv 0) Za))) (Zf (Zw (Zu (ZG hr) (Zd (dv 0) Za) ZR (Zn _)) (Zf (Zl (i:=7) UJ.nd (Yu (Zb (Zi ZK (Zd (dv 6) Za) (Zd (dv 9) Za)) (Zb (Zi ZK (Zd (dv 6) Za) (Zd (dv 9) Za)) (Zb (Zi ZK (Zd (dv 6) Za) (Zd (dv 9) Za)) (Zb (Zi ZK (Zd (dv 6) Za) (Zd (dv 9) Za)) Zg)))))) (Ze (Zk (Zh LS hr (pdv 2 (pdv 7 (pdv 7 (pv 4)))))))) Zz) (Zf (Zw (Zu (ZG hr) (Zd (dv 0) Za) ZR (Zn _)) (Ze (Zk (Wo (Ye YX (Zd (dv 2) Za) (Zi Z2 (Zd (dv 6) Za) (Zd (dv 9) Za)) (Zn _)) (X3 (Ye YX (Zi Z2 (Zd (dv 6) Za) (Zd (dv 9) Za)) (Zd (dv 2) Za) (Zn _)))))) Zz) (Ze (Zk (Wo (Ye YX (Zd (dv 2) Za) (Zi Yl (Zd (dv 6) Za) (Zd (dv 9) Za)) (Zn _)) (X3 (Ye YX (Zi Yl (Zd (dv 6) Za) (Zd (dv 9) Za)) (Zd (dv 2) Za) (Zn _)))))))))))))) λS Q0 ex0=>by
  refine kD λd=>kR λw=>kP λa b=>kR λp=>kI λg=>kN ?_
  rintro⟨v,vs,bs,rfl,hw,hp,ok,s1,⟨sa,sb⟩,hg,ef,h⟩;have sg:Sz 21 g:=Sz.of 1000000 (by lia)
  have g0:0<g:=by lia
  have yes:∀ {T:Sto} {q:Prop} [Decidable q],Pre S T->q->Gc S Q0 (.bl (decide q)) T:=λp h2=>by
   rw[decide_eq_true h2];exact⟨p,.bl _,h⟩
  cases v with
  | number x y=>
   obtain⟨rfl,rfl⟩:=Prod.mk.inj ef;have sx:Sz 31 x:=Sz.of (10^9) ok.2.2
   have y1:=ok.1
   have sy:Sz 31 y:=Sz.of (10^9) (by lia);refine⟨ZF sx sg,ZF sa sy,?_⟩;exact ifD (λ_=>⟨ZF sb sy,yes Pre.refl (Lg (by lia) (zS _))⟩) (λc=>absurd (Pu (by lia) (zS _)) c)
  | unknown k=>
   refine ZA (o:=.lst (bs.map frD)) hp (ZQ ok) ?_;have ef':gt bs k=(a,b):=ef;rw[ef'];refine ifD (λ_=>?_) (λc=>absurd (zS _) c);refine ZA (o:=.lst (bs.map frD)) hp (ZQ ok) ?_;rw[ef'];exact yes Pre.refl (zS _)
  | power i m=>
   obtain⟨ok1,m2,m6⟩:=ok;obtain⟨rfl,rfl⟩:=Prod.mk.inj ef;have z:=s1.at ok1
   have pl:=pw_lo (n:=m.toNat) z.1
   have em:m.toNat-1=(m-1).toNat:=by lia
   have gp:(0:Int)<g^(m.toNat-1):=yF g0
   have zs:Sz 200 (g^(m.toNat-1)):=(sg.pow _).mono (by lia)
   have hi1:(gt vs i).1^m.toNat<=Y9 (gt vs i).1 (gt vs i).2 m.toNat:=Int.le_max_left ..
   have hi2:(gt vs i).2^m.toNat<=Y9 (gt vs i).1 (gt vs i).2 m.toNat:=Int.le_max_right ..;refine ZA (o:=.lst (vs.map frD)) hw (ZQ ok1) ?_;refine⟨⟨by lia,m6,z.2.1.mono (by decide)⟩,⟨by lia,m6,z.2.2.mono (by decide)⟩,?_⟩;refine UR (ZV (Zs _ _) rfl) ?_;have lo:∀q:Int,q=(gt vs i).1^m.toNat\/q=(gt vs i).2^m.toNat\/((gt vs i).1<0/\0<(gt vs i).2/\q=0)->Yo (gt vs i).1 (gt vs i).2 m.toNat/g^(m.toNat-1)*g^(m.toNat-1)<=q:=λq hq=>by
    rcases hq with rfl|rfl|⟨c1,c2,rfl⟩
    .exact Pu gp pl.1
    .exact Pu gp pl.2.1
    .exact Pu gp (pl.2.2 c1 c2 (by lia))
   have hi:∀q:Int,q∈[(gt vs i).1^m.toNat,(gt vs i).2^m.toNat]->q<=-(-Y9 (gt vs i).1 (gt vs i).2 m.toNat/g^(m.toNat-1))*g^(m.toNat-1):=λq hq=>by
    simp only[zO,yT,or_false] at hq;rcases hq with rfl|rfl
    .exact Lg gp hi1
    .exact Lg gp hi2
   have aY:∀(T:Sto)(l r:Nat)(ls:List Int),Pre S T->T[l]?=some (.lst (ls.map D.int))->ls.length<=3->T[r]?=some (.lst ([(gt vs i).1^m.toNat,(gt vs i).2^m.toNat].map D.int))->(∀q∈ls,q=(gt vs i).1^m.toNat\/q=(gt vs i).2^m.toNat\/((gt vs i).1<0/\0<(gt vs i).2/\q=0))->∃ls rs:List Int,T[l]?=some (.lst (ls.map D.int))/\T[r]?=some (.lst (rs.map D.int))/\ls.length<=900/\rs.length<=900/\(Sz 1400 (Yo (gt vs i).1 (gt vs i).2 m.toNat/g^(m.toNat-1))/\Sz 1400 (-(-Y9 (gt vs i).1 (gt vs i).2 m.toNat/g^(m.toNat-1)))/\Sz 200 (g^(m-1).toNat))/\(∀q∈ls,Yo (gt vs i).1 (gt vs i).2 m.toNat/g^(m.toNat-1)*g^(m-1).toNat<=q)/\(∀q∈rs,q<=-(-Y9 (gt vs i).1 (gt vs i).2 m.toNat/g^(m.toNat-1))*g^(m-1).toNat)/\Gc S Q0 (.bl true) T:=λT l r ls p hl l3 hr hq=>by
    rw[<- em];exact⟨ls,_,hl,hr,by lia,by simp,⟨sa,sb,zs⟩,λq hz=>lo q (hq q hz),hi,p,.bl _,h⟩
   have two:∀q∈[(gt vs i).1^m.toNat,(gt vs i).2^m.toNat],q=(gt vs i).1^m.toNat\/q=(gt vs i).2^m.toNat\/((gt vs i).1<0/\0<(gt vs i).2/\q=0):=λq hz=>by
    simp only[zO,yT,or_false] at hz;exact hz.imp_right .inl
   have pn:0<=m-1/\m-1<=6/\Sz 2000 g:=⟨by lia,by lia,sg.mono (by decide)⟩;refine ifD (λc1=>?_) (λc1=>⟨pn,aY _ _ _ _ Pre.refl.push.push (Zs _ _) (by simp) (Zv (Zs _ _)) two⟩);refine ifD (λc2=>?_) (λc2=>⟨pn,aY _ _ _ _ Pre.refl.push.push (Zs _ _) (by simp) (Zv (Zs _ _)) two⟩);refine YO (n:=(S++[Ob.lst ([(gt vs i).1^m.toNat,(gt vs i).2^m.toNat].map D.int)]).length) (xs:=[(gt vs i).1^m.toNat,(gt vs i).2^m.toNat].map D.int) (y:=.int 0) kId (Zs _ _) kId (by simp) ?_;refine⟨pn,aY _ _ _ ([(gt vs i).1^m.toNat,(gt vs i).2^m.toNat]++[0]) (Xg Pre.refl.push.push (by simp)) (Ys (Zs _ _)) (by simp) (Z6 (Zv (Zs _ _)) (by simp)) λq hz=>?_⟩;rcases zY.mp hz with z|z
   .exact two q z
   .exact .inr (.inr ⟨c1,c2,zT.mp z⟩)
  | times i j=>
   obtain⟨rfl,rfl⟩:=Prod.mk.inj ef;have x:=s1.at ok.1
   have y:=s1.at ok.2;refine ZA (o:=.lst (vs.map frD)) hw (ZQ ok.1) ?_;refine ZA (o:=.lst (vs.map frD)) hw (ZQ ok.2) ?_;refine⟨ZF x.2.1 y.2.1,ZF x.2.1 y.2.2,ZF x.2.2 y.2.1,ZF x.2.2 y.2.2,?_⟩;refine⟨[(gt vs i).1*(gt vs j).1,(gt vs i).1*(gt vs j).2,(gt vs i).2*(gt vs j).1,(gt vs i).2*(gt vs j).2],[(gt vs i).1*(gt vs j).1,(gt vs i).1*(gt vs j).2,(gt vs i).2*(gt vs j).1,(gt vs i).2*(gt vs j).2],Zs _ _,Zs _ _,by simp,by simp,⟨sa,sb,sg.mono (by decide)⟩,λz hz=>Pu g0 ?_,λz hz=>Lg g0 ?_,Pre.refl.push,.bl _,h⟩
   all_goals
    simp only[zO,yT,or_false] at hz
    first|unfold mn4|unfold mx4
    generalize (gt vs i).1*(gt vs j).1=p1 at *
    generalize (gt vs i).1*(gt vs j).2=p2 at *
    generalize (gt vs i).2*(gt vs j).1=p3 at *
    generalize (gt vs i).2*(gt vs j).2=p4 at *
    lia
  | plus i j=>
   obtain⟨rfl,rfl⟩:=Prod.mk.inj ef;refine ZA (o:=.lst (vs.map frD)) hw (ZQ ok.1) ?_;refine ZA (o:=.lst (vs.map frD)) hw (ZQ ok.2) ?_;exact ifD (λ_=>yes Pre.refl (zS _)) (λc=>absurd (zS _) c)
  | minus i j=>
   obtain⟨rfl,rfl⟩:=Prod.mk.inj ef;refine ZA (o:=.lst (vs.map frD)) hw (ZQ ok.1) ?_;refine ZA (o:=.lst (vs.map frD)) hw (ZQ ok.2) ?_;exact ifD (λ_=>yes Pre.refl (zS _)) (λc=>absurd (zS _) c)
def zho  (HL:Dfz q88 LJ Qt)(JS:Kit e.K "bool")(IY:Kit e.K "int"):Fkz 1 q88 Qt Bf:=
 mkF HL zhj (λhr=>(Ze (Zk (Wo (IZ IY rfl VA rfl Pt Boot.«int» (dv 0)) (X3 (zeu (IZ JS rfl VA rfl R5 Boot.«bool» (dv 0)))))))) λS Q ex=>by
  refine kI λ_=>kN λh=>?_
  exact h
def zc7  (Jo:Dfz WM O3 Qh)(Na:Fkz 1 q88 Qt Bf)(JB:Kit e.K "tuple"):Fkz 2 WM Qh BC:=
 mkF Jo zaf (λhr=>(Zf (Zw (PDW.pt (Wi (Wg (YS (IZ JB rfl VA rfl Of Boot.«tuple» (dv 0)))) (Ue (Zu (Fi hr) (ZO YV rfl Yw Boot.«len» (pv 0)) Za (Zn _))))) (Ze (Zk UL)) Zz) (Ze (Zk (Wo (Zh Na hr (Zb (Zd (dv 0) Za) Zg)) (Wo (Zh Na hr (Zb (Zd (dv 0) Za) Zg)) (X3 (Ye YX (Zd (dv 0) Za) (Zd (dv 0) Za) (Zn _))))))))) λS Q ex=>by
  refine kP λ_ _=>kN ?_
  rintro⟨hab,h⟩;exact qt (Q:=Q) (decide_eq_true hab) h
def zcA  (Jp:Dfz q82 Te Pe)(HY:Fkz 2 q90 P7 Cy)(Ja:Fkz 2 WM Qh BC):Fkz 3 q82 Pe Ak:=
 mkG Jp zdl (λhr=>(Zf (Zw (PDW.pt (Wi (Wg (YS (zc6 (zaj _) rfl VA rfl XC Boot.«list» (dv 1)))) (Wi (Zu (Fi hr) (ZO (ZW YV) rfl Yw Boot.«len» (pv 1)) (dv 4) (Zn _)) (Ue (Wg (YS (ZO (ZW (VJ rfl)) rfl XX Boot.«all» (Zb (Xb (x:="_law_span_here") (N:=[]) (caps:=[]) (ar:=Zj Te) rfl rfl csc rfl (by decide) (dv 1) (λ_ _ _ _ _ _=>Yh) (λ_ _ _ _ _ _=>(Zh Ja hr (pv 0)))) Zg)))))))) (Ze (Zk UL)) Zz) (Ze (Zk (ZO (ZW (VJ rfl)) rfl XX Boot.«all» (Zb (MF (x:="_law_k") (N:=["_law_spans","_law_box_here","_law_grid_here","_law_nodes"]) (caps:=[1,2,3,0]) (ar:=Zj Te) rfl rfl csc rfl (by decide) rfl YL (pv 4) (λ_ _ _ _ _ _=>Yh) (λ_ _ _ _ _ _=>(Zh HY hr (Zb (ZE (dv 4) (dv 0)) (pdv 1 (Zb (ZE (dv 1) (dv 0)) (pdv 2 (pv 3)))))))) Zg)))))) λS Q0 ex0=>by
  refine kR λnd=>kR λsp=>kR λbx=>kI λg=>kI λk=>kN ?_
  rintro⟨ns,ws,e,kn,hn,hs,hb,net,se,hg,l7,rfl,lk,h⟩;have s1:Spn 1000 (Zt e g (ns.take kn)):=NN net rfl se hg kn lk
  have l1:(Zt e g (ns.take kn)).length=kn:=by rw[YI,zG];lia
  refine zeC (n:=sp) kId hs ?_;refine Yq ?_;refine Xn hs ?_;rw[zA,l1];refine ifN (λc=>absurd rfl c) (λ_=>?_);refine T9 (n:=sp) (S1:=S) (o:=.lst ((Zt e g (ns.take kn)).map frD)) (λd=>d=.bl true) kId hs (by show (List.map frD _).length<=1000;rw[zA];lia) (λx hx S2 K pr hK=>?_) λxs lx hx=>?_
  .obtain⟨p,hp,rfl⟩:=zN.mp (show x∈(Zt e g (ns.take kn)).map frD from hx);exact⟨(s1 p hp).1,hK _ rfl⟩
  refine Od hx ?_;refine Yq ?_;refine Fj (j:=kn) (S1:=S++[.lst xs]) (λd=>d=.bl true) kId (by lia) (λk S2 K hk pr hK=>?_) λys ly hy=>Od hy ⟨Pre.refl.push.push,.bl _,h⟩
  have p0:Pre S S2:=λx o z=>pr _ _ (Zv z)
  have hv:=zD (show k<ns.length by lia);generalize ns[k]=v at hv;refine ZA (o:=.lst (ns.map Nd.d)) (p0 _ _ hn) (HQ hv) ?_;have ik:inR (((Zt e g (ns.take kn)).length:Nat):Int) (k:Int):=⟨by lia,by lia⟩;refine ZA (o:=.lst ((Zt e g (ns.take kn)).map frD)) (p0 _ _ hs) (ZQ ik) ?_;have z:=s1.at ik;exact⟨v,Zt e g (ns.take kn),e,rfl,p0 _ _ hs,p0 _ _ hb,CQ (by lia) (net.ok k v hv).1,s1.mono (by decide),⟨z.2.1.mono (by decide),z.2.2.mono (by decide)⟩,hg,fw_at net hv hk lk,hK _ rfl⟩
def zgD  (GJ:Dfz q83 MY R6):Fkz 1 q83 R6 Es:=
 mkF GJ zhq (λhr=>(Zf (Zw (Zu (ZG hr) (Zd (dv 0) Za) ZR (Zn _)) (Ze (Zk (Du (Ye Wc (Zd (dv 1) Za) Za (Zn _)) (X3 (Ye Yv (Zd (dv 1) Za) Za (Zn _)))))) Zz) (Ze (Zk (Ye Yv (Zd (dv 1) Za) Za (Zn _)))))) λS Q ex=>by
  refine kT λw k=>kP λa b=>kN ?_
  rintro⟨zero,hw,hb,h⟩;unfold brS at hb;rcases hw with ⟨rfl,rfl⟩|⟨rfl,rfl⟩
  .refine ifD (λc=>?_) (λc=>?_)
   .exact h
   .exact qt (Q:=Q) (b:=decide (b<0)) (by simpa [show ¬ 0<a from c] using hb) h
  .exact qt (Q:=Q) (b:=decide (b<0)) (by simpa using hb) h
def A4  (FV:Dfz W5 LW QD):Fkz 1 W5 QD C0:=
 mkF FV zfJ (λhr=>(Zf (Zw (Zu (ZG hr) (Zd (dv 0) Za) ZR (Zn _)) (Ze (Zk (Ye (ZG hr) (dv 1) (Zy (Zb Za (Zb Za Zg))) (Zn _)))) Zz) (Ze (Zk (Ye NK (Zd (dv 1) Za) Za (Zn _)))))) λS Q ex=>by
  refine kT λw k=>kP λa b=>kN ?_
  rintro⟨zero,hw,hb,h⟩;unfold suB at hb;rcases hw with ⟨rfl,rfl⟩|⟨rfl,rfl⟩
  .simp only[if_true,Bool.and_eq_true,decide_eq_true_eq] at hb;obtain⟨rfl,rfl⟩:=hb;exact h
  .exact qt (Q:=Q) (b:=decide (0<=a)) (by simpa using hb) h
def zfy  (Mb:Dfz "law" Vo Lc)(Hk:Fkz 16 WK QP B8)(FN:Fkz 1 W5 QD C0)(Ny:Fkz 3 q82 Pe Ak)(KG:Fkz 1 q83 R6 Es)(YG:Fkz 1 q46 Uy Kp)(Gx:Fkz 4 WY Ou D4)(Il:Fkz 2 WI RT Bb)(G4:Fkz 2 WD RP CP)(Gd:Fkz 1 WG Pk DE):Fkz 17 "law" Lc (R0 LT LP LQ):=
 Mb.mk' (UC (k:=16) Mb.F XH zcx λ_ _ _ _ _ _ hr=>⟨_,(Zf (Zl (i:=1) XH.nd (ZE (Zy (Zb Za (Zb Za (Zb Za (Zb Za (Zb Za (Zb Za Zg))))))) (Zi Yg (Zh YG hr (pdv 0 (Zb Za Zg))) Za))) (Zf (Zl (i:=2) XH.nd (Zh Gd hr (Zb (Zh YG hr (pdv 0 (Zb Za Zg))) Zg))) (Zf (Zl (i:=3) XH.nd (Zh G4 hr (pdv 0 (pv 1)))) (Zf (Zl (i:=4) XH.nd (Zh Il hr (Zb (zc1 (x:="_law_k") (N:=["_law_script"]) (caps:=[0]) (ar:=Zj Vo) rfl rfl csc rfl (by decide) rfl YL (Zb Za (Zb (ZO (V1 rfl) rfl XY Boot.«min» (Zb (ZO (ZW YV) rfl Yw Boot.«len» (pv 0)) (Zb Za Zg))) Zg)) (λ_ _ _ _ _ _=>Yh) (λ_ _ _ _ _ _=>(Zh YG hr (pdv 1 (pv 0))))) (pv 1)))) (Zf (Zl (i:=5) XH.nd (Zh Gx hr (pdv 0 (pdv 4 (pdv 3 (pv 2)))))) (Zf (Zl (i:=6) XH.nd (Zi Z2 Za (Zi Yg (Zh YG hr (pdv 0 (Zb Za Zg))) Za))) (Zf (Zl (i:=7) XH.nd (Zi Yg (Zh YG hr (pdv 0 (Zb Za Zg))) Za)) (Zf (Zw (Zu Wc (dv 1) Za (Zn _)) (Ze (Zl (i:=7) XH.nd (Zi Yg (dv 7) Za))) Zz) (Zf (W7 (i:=8) PassesOwn.never rfl XH.nd rfl (Or.inl rfl) (Zh Hk hr (Zb (Ud (ZW UO) rfl XC Boot.«list» (pv 4)) (Zb (Ud (ZW UO) rfl XC Boot.«list» (pv 5)) (Zb (Ud (ZW UO) rfl XC Boot.«list» (pv 3)) (pdv 2 (pdv 6 (pv 7))))))) (Zf (UI (i:=9) XH.nd rfl (Or.inr rfl) (Zd (dv 8) Za)) (Zf (Zw (Zu (ZG hr) (Zd (dv 9) Za) ZR (Zn _)) (Zf (Zl (i:=10) XH.nd (ZE (dv 5) (Zd (dv 9) Za))) (Ze (Zw (PDW.pt (Wi (Wg (YS (Zh Ny hr (pdv 4 (Zb (Zd (dv 9) Za) (Zb (Zd (dv 8) Za) (pdv 2 (Zb (Zi Z2 (Zd (dv 10) Za) Za) Zg)))))))) (Ue (Wg (YS (Zh KG hr (pdv 10 (Zb (ZE (Zd (dv 9) Za) (Zd (dv 10) Za)) Zg)))))))) (Ze (Zk UL)) Zz))) Zz) (Ze (Zw (Zu (ZG hr) (Zd (dv 9) Za) ZR (Zn _)) (Zf (Zw (Wg (YS (Zh Ny hr (pdv 4 (Zb (Zd (dv 9) Za) (Zb (Zd (dv 8) Za) (pdv 2 (Zb (ZO (ZW YV) rfl Yw Boot.«len» (pv 4)) Zg)))))))) (Ze (Zk UL)) Zz) (Ze (Zw (Wg (YS (ZO (ZW (VJ rfl)) rfl XX Boot.«all» (Zb (Xb (x:="_law_row_here") (N:=["_law_fate"]) (caps:=[9]) (ar:=Zj Vo) rfl rfl csc rfl (by decide) (dv 5) (λ_ _ _ _ _ _=>Yh) (λ_ _ _ _ _ _=>(Zh FN hr (pdv 0 (Zb (ZE (Zd (dv 1) Za) (Zd (dv 0) Za)) Zg))))) Zg)))) (Ze (Zk UL)) Zz))) Zz))))) (Ze (Zk UL))))))))))),λds S Q ex h=>by
  obtain⟨ns,rfl,rfl,hl,h⟩:=h;refine Xd (λdl S=>S=[.frz (ns.map D.int),.cod LT LP LQ]/\∃q:Nat,(1<=q/\q<=4)/\dl=[some (.ref 0),some (.int (q:Int)),none,none,none,none,none,none,none,none,none]) (λnx hx=>?_) ?_
  .refine⟨ns,rfl,⟨by decide,by decide⟩,λc hc=>?_⟩;obtain⟨q,k,hq,ek,eq⟩:∃q k:Nat,(1<=q/\q<=4)/\c%6=(k:Int)/\([.int 1,.int 2,.int 1,.int 2,.int 3,.int 4]:List D)[k]?=some (.int (q:Int)):=by
    have:c%6=0\/c%6=1\/c%6=2\/c%6=3\/c%6=4\/c%6=5:=by lia
    rcases this with e|e|e|e|e|e
    .exact⟨1,0,by decide,e,rfl⟩
    .exact⟨2,1,by decide,e,rfl⟩
    .exact⟨1,2,by decide,e,rfl⟩
    .exact⟨2,3,by decide,e,rfl⟩
    .exact⟨3,4,by decide,e,rfl⟩
    .exact⟨4,5,by decide,e,rfl⟩
   exact To k ek eq (hx _ _ ⟨rfl,q,hq,rfl⟩)
  rintro dl S ⟨rfl,q,hq,rfl⟩;refine Xd (λdl S=>S=[.frz (ns.map D.int),.cod LT LP LQ]/\∃g:Int,(1<=g/\g<=1000000)/\dl=[some (.ref 0),some (.int (q:Int)),some (.int g),none,none,none,none,none,none,none,none]) (λnx hx=>?_) ?_
  .refine⟨ns,rfl,⟨by decide,by decide⟩,λc hc=>?_⟩;exact⟨hc.1,λg g1 g2=>hx _ _ ⟨rfl,g,⟨g1,g2⟩,rfl⟩⟩
  rintro dl S ⟨rfl,g,hg,rfl⟩;refine Xd (λdl S=>∃bs:LI,bs.length=q/\Spn 51 bs/\S=[.frz (ns.map D.int),.cod LT LP LQ]++[.lst (bs.map frD)]/\dl=[some (.ref 0),some (.int (q:Int)),some (.int g),some (.ref 2),none,none,none,none,none,none,none]) (λnx hx=>?_) ?_
  .exact⟨ns,q,rfl,rfl,hq,λbs lb sb=>hx _ _ ⟨bs,lb,sb,rfl,rfl⟩⟩
  rintro dl S ⟨bs,lb,sb,rfl,rfl⟩;refine Xd (λdl S=>∃(vs:List Nd)(ws:List Nat)(m:Nat),ZJ q vs ws/\(1<=vs.length/\vs.length<=24)/\(S[0]?=some (.frz (ns.map D.int))/\S[1]?=some (.cod LT LP LQ)/\S[2]?=some (.lst (bs.map frD))/\bs.length=q/\Spn 51 bs)/\3<=m/\S[m]?=some (.lst (vs.map Nd.d))/\dl=[some (.ref 0),some (.int (q:Int)),some (.int g),some (.ref 2),some (.ref m),none,none,none,none,none,none]) (λnx hx=>?_) ?_
  .have lm:0<=(if (20:Int)<(ns.length:Int) then 20 else (ns.length:Int))/\(if (20:Int)<(ns.length:Int) then 20 else (ns.length:Int))<=20:=by split<;>lia
   refine zeZ (S1:=[.frz (ns.map D.int),.cod LT LP LQ]++[.lst (bs.map frD)]) (lo:=12) (hi:=if (20:Int)<(ns.length:Int) then 20 else (ns.length:Int)) (λc=>0<=c/\c<2147483629) (λK hK=>?_) ⟨by decide,lm.1,by lia⟩ (λk S2' K k0 k1 pr hK=>?_) λcs lc pc=>?_
   .refine EB (xs:=ns.map D.int) rfl ?_;rw[zA];exact hK
   .exact⟨ns,pr 0 _ rfl,⟨by lia,by lia⟩,λc hc=>hK c hc⟩
   .refine⟨cs.map D.int,q,Zs _ _,λx hx=>?_,rfl,hq,by rw[zA];lia,λvs ws T m net n1 n2 pr lm' hT=>?_⟩
    .obtain⟨c,hc,rfl⟩:=zN.mp hx;exact⟨c,rfl,pc c hc⟩
    .have l3:4<=m:=lm';exact hx _ _ ⟨vs,ws,m,net,⟨n1,n2⟩,⟨pr 0 _ rfl,pr 1 _ rfl,pr 2 _ rfl,lb,sb⟩,by lia,hT,rfl⟩
  rintro dl S ⟨vs,ws,m,net,hn,⟨h0,h1,h2,_,_⟩,m3,hm,rfl⟩;refine Xd (λdl S=>∃(vs:List Nd)(ws:List Nat)(rows:List (Bool×Nat))(mr:Nat),ZJ q vs ws/\(1<=vs.length/\vs.length<=30)/\(S[0]?=some (.frz (ns.map D.int))/\S[1]?=some (.cod LT LP LQ)/\S[2]?=some (.lst (bs.map frD))/\bs.length=q/\Spn 51 bs)/\S[m]?=some (.lst (vs.map Nd.d))/\S[mr]?=some (.lst (rows.map rwD))/\rows.length<=3/\(∀r∈rows,r.2<vs.length)/\dl=[some (.ref 0),some (.int (q:Int)),some (.int g),some (.ref 2),some (.ref m),some (.ref mr),none,none,none,none,none]) (λnx hx=>?_) ?_
  .refine⟨q,ns,vs,ws,bs,h0,hm,h2,by lia,net,lb,by lia,sb,hg,⟨by lia,by lia⟩,λT mr ns' ws' rows gr rl ri lr hr=>?_⟩;have gl:=gr.ln;exact hx _ _ ⟨ns',ws',rows,mr,gr.net,⟨by lia,by lia⟩,⟨gr.kp _ _ (by lia) h0,gr.kp _ _ (by lia) h1,gr.kp _ _ (by lia) h2,lb,sb⟩,gr.nd,hr,rl,ri,rfl⟩
  clear hm h0 h1 h2 hn net;rintro dl S ⟨vs,ws,rows,mr,net,hn,⟨h0,h1,h2,_,_⟩,hm,hr,rl,ri,rfl⟩;refine Xd (λdl S'=>S=S'/\∃f:Int,1<=f/\dl=[some (.ref 0),some (.int (q:Int)),some (.int g),some (.ref 2),some (.ref m),some (.ref mr),some (.int f),none,none,none,none]) (λnx hx=>?_) ?_
  .exact⟨ns,h0,⟨by decide,by decide⟩,λc hc=>hx _ _ ⟨rfl,1+c%60,by lia,rfl⟩⟩
  rintro dl S' ⟨rfl,fine,f1,rfl⟩;refine Xd (λdl S'=>S=S'/\∃k:Int,(0<=k/\k<=8)/\dl=[some (.ref 0),some (.int (q:Int)),some (.int g),some (.ref 2),some (.ref m),some (.ref mr),some (.int fine),some (.int k),none,none,none]) (λnx hx=>?_) ?_
  .exact⟨ns,h0,⟨by decide,by decide⟩,λc hc=>hx _ _ ⟨rfl,c%9,by lia,rfl⟩⟩
  rintro dl S' ⟨rfl,k,hk,rfl⟩;refine Xd (λdl S'=>S=S'/\∃k:Int,(0<=k/\k<=8)/\dl=[some (.ref 0),some (.int (q:Int)),some (.int g),some (.ref 2),some (.ref m),some (.ref mr),some (.int fine),some (.int k),none,none,none]) (λnx hx=>?_) ?_
  .refine ifD (λ_=>?_) (λ_=>?_)
   .exact hx _ _ ⟨rfl,k%5,by lia,rfl⟩
   .exact hx _ _ ⟨rfl,k,hk,rfl⟩
  clear hk k;rintro dl S' ⟨rfl,k,hk,rfl⟩;refine UR (ZV hm rfl) ?_;refine UR (ZV (Zv hr) rfl) ?_;refine UR (ZV (Zv (Zv h2)) rfl) ?_;refine⟨q,1,vs,ws,rows,bs,⟨Zv (Zv (Zs _ _)),Zv (Zs _ _),net,hg,by lia,by lia,ri,hq⟩,Zs _ _,lb,sb,f1,hk,Zv (Zv (Zv h1)),λT mb ds es fs p lm hT en K l9 c0 c1=>?_⟩;have P:Pre S T:=λx o z=>p _ _ (Zv (Zv (Zv z)))
  obtain⟨ln,lf,en⟩:=en;have ok:=K.small
  have KK:=K.ok sb;refine Vx (n:=mb) (o:=.lst ds) (λk' dl' S'=>Pre T S'/\∃u8 u9 u10:Option D,dl'=[some (.ref 0),some (.int (q:Int)),some (.int g),some (.ref 2),some (.ref m),some (.ref mr),some (.int fine),some (.int k),u8,u9,u10]) ⟨Pre.refl,_,_,_,rfl⟩ (λk' dl' S' z=>z.1 _ _ hT) ?_ (λdl' S' z=>h _);rintro i x dl' S' nx ct hx ⟨pt,u8,u9,u10,rfl⟩ hn;have hx':ds[i]?=some x:=hx
  have li:=(zB.mp hx').1
  have he:=zD (show i<es.length by lia)
  have hf:=zD (show i<fs.length by lia);obtain⟨m1,d1,e1,e2,e3⟩:=en i _ _ he hf;rw[hx'] at e1;cases e1;have fk:=ok.2 i _ _ he hf;obtain⟨ee,se⟩:=KK.2 _ (zE he);generalize es[i]=e at *
  generalize fs[i]=f at *
  have net':ZJ ((e.length:Nat):Int) vs ws:=by rw[ee,lb];exact net
  have hm':=pt _ _ (P _ _ hm)
  have hr':=pt _ _ (P _ _ hr)
  have go:∀(U:Sto)(u:Option D),Pre T U->nx [some (.ref 0),some (.int (q:Int)),some (.int g),some (.ref 2),some (.ref m),some (.ref mr),some (.int fine),some (.int k),some (.tup [.ref m1,d1]),some d1,u] U:=λU u p=>hn _ _ ⟨p,_,_,_,rfl⟩
  cases f with
  | wait=>cases e3;exact go _ _ pt
  | small=>obtain⟨_,_,rfl⟩:=e3;exact go _ _ pt
  | one=>obtain⟨_,_,_,_,_,_,_,rfl⟩:=e3;exact go _ _ pt
  | cut _ _ _ _=>obtain⟨_,_,rfl⟩:=e3;exact go _ _ pt
  | out r us=>
   obtain⟨_,_,mo,rfl,_,_,hmo⟩:=e3;obtain⟨row,hrow,rfl,ib⟩:∃row,rows[r]?=some row/\us=Zt e g (vs.take (row.2+1))/\ibS vs row.1 row.2 e g=true:=by
    rcases fk with z|⟨_,_,_,_,z⟩|z
    .cases z
    .cases z
    .exact z
   have rlt:=ri row (zE hrow)
   have lu:(Zt e g (vs.take (row.2+1))).length=row.2+1:=by rw[YI,zG];lia
   refine ZA (o:=.lst (rows.map rwD)) hr' (Yx (j:=r) (v:=rwD row) (by show (rows.map rwD)[r]?=_;rw[zF,hrow];rfl)) ?_;refine⟨vs,ws,e,row.2+1,hm',pt _ _ hmo,pt _ _ e2,net',se,hg,by lia,by lia,by lia,?_⟩;refine Yq ?_;refine ZA (o:=.lst ((Zt e g (vs.take (row.2+1))).map frD)) (pt _ _ hmo) (ZQ (i:=(row.2:Int)) ⟨by lia,by lia⟩) ?_;refine⟨row.1,rww row.1,ib,?_⟩;refine Yq ?_;exact go _ (some (rwD row)) pt
  | full us=>
   obtain⟨_,_,mo,rfl,_,_,hmo⟩:=e3;obtain⟨rfl,nb,su⟩:us=Zt e g vs/\(∀row∈rows,ibS vs row.1 row.2 e g=false)/\suS vs rows e g=true:=by
    rcases fk with z|⟨_,_,_,_,z⟩|z
    .cases z
    .cases z
    .exact z
   refine Xn hm' ?_;rw[zA];refine⟨vs,ws,e,vs.length,hm',by rw[yG];exact pt _ _ hmo,pt _ _ e2,net',se,hg,by lia,rfl,zC _,?_⟩;refine Yq ?_;refine T9 (n:=mr) (S1:=S') (o:=.lst (rows.map rwD)) (λd=>d=.bl true) kId hr' (by show (rows.map rwD).length<=1000;rw[zA];lia) (λx hx S2' K pr hK=>?_) λxs lx hx=>?_
   .obtain⟨row,hrow,rfl⟩:=zN.mp (show x∈rows.map rwD from hx);refine ZA (o:=.lst ((Zt e g vs).map frD)) (pr _ _ (pt _ _ hmo)) (ZQ (i:=(row.2:Int)) ⟨by lia,by rw[YI];have:=ri row hrow;lia⟩) ?_;exact⟨row.1,rww row.1,List.all_eq_true.mp su row hrow,hK _ rfl⟩
   refine Od hx ?_;refine Yq ?_;exact go _ u10 (XS pt _)⟩)
end
theorem zhG {l:W.OpenLaw}{w:World}{K:Fg}{h:Heap}{mg:Str->Option Value}{fa:Addr}(X:K.In h)(G:h.Ns mainGlobals mg)(hfa:mg "law"=some (.ref fa))
  (Ko:clA K "Book" Vv)
  (zdh:W.findIn K (.ref Vv) "fates"=some none)
  (zgP:W.findIn K (.ref Vv) "boxes"=some none)
  (N6:clA K VV UM)
  (zen:W.findIn K (.ref UM) XO=some none)
  (zfY:W.findIn K (.ref UM) "top"=some none)
  (Mi:clA K VM U4)
  (zdt:W.findIn K (.ref U4) Wv=some none)
  (Mu:clA K "Plus" W0)
  (zeA:W.findIn K (.ref W0) Y7=some none)
  (zcg:W.findIn K (.ref W0) "one"=some none)
  (NJ:clA K "Minus" Wz)
  (zdb:W.findIn K (.ref Wz) Y7=some none)
  (zai:W.findIn K (.ref Wz) "one"=some none)
  (Ll:clA K "Times" Wn)
  (A9:W.findIn K (.ref Wn) Y7=some none)
  (zft:W.findIn K (.ref Wn) "one"=some none)
  (NM:clA K "Power" UH)
  (AH:W.findIn K (.ref UH) "many"=some none)
  (A2:W.findIn K (.ref UH) "one"=some none)
  (a0:fnA K WG Kq f0 m0 h0)
  (a1:fnA K q46 M7 f1 m1 h1)
  (a2:fnA K WD OX f2 m2 h2)
  (a3:fnA K WW MQ f3 m3 h3)
  (a4:fnA K q64 Ml f4 m4 h4)
  (a5:fnA K WI Ss f5 m5 h5)
  (a6:fnA K q67 MB f6 m6 h6)
  (a7:fnA K q72 LH f7 m7 h7)
  (a8:fnA K q80 Nt f8 m8 h8)
  (a9:fnA K WH Lj f9 m9 h9)
  (a10:fnA K q89 M9 f10 m10 h10)
  (a11:fnA K WA My f11 m11 h11)
  (a12:fnA K WY LO f12 m12 h12)
  (a13:mdA K Vv q3 Pb Me f13 m13 h13)
  (a14:mdA K Vv Wm Oc Pj f14 m14 h14)
  (a15:fnA K Xq OU f15 m15 h15)
  (a16:fnA K XD Qm f16 m16 h16)
  (a17:fnA K XE M0 f17 m17 h17)
  (a18:mdA K Vv VN P9 Rm f18 m18 h18)
  (a19:fnA K "bars" OL f19 m19 h19)
  (a20:fnA K "less" Nr f20 m20 h20)
  (a21:fnA K q33 Kh f21 m21 h21)
  (a22:fnA K q95 NB f22 m22 h22)
  (a23:mdA K UM q6 U0 O6 f23 m23 h23)
  (a24:mdA K U4 q6 Se L7 f24 m24 h24)
  (a25:fnA K q30 Lx f25 m25 h25)
  (a26:mdA K W0 q6 Td NS f26 m26 h26)
  (a27:fnA K q23 Nq f27 m27 h27)
  (a28:mdA K Wz q6 So Lu f28 m28 h28)
  (a29:fnA K q40 Md f29 m29 h29)
  (a30:mdA K Wn q6 TK OK f30 m30 h30)
  (a31:fnA K q69 OV f31 m31 h31)
  (a32:fnA K q43 PV f32 m32 h32)
  (a33:mdA K UH q6 Tu O8 f33 m33 h33)
  (a34:mdA K UH q3 Tr Lp f34 m34 h34)
  (a35:mdA K UM q3 SX O2 f35 m35 h35)
  (a36:mdA K U4 q3 Tq LV f36 m36 h36)
  (a37:mdA K W0 q3 q38 MW f37 m37 h37)
  (a38:mdA K Wz q3 q38 Lk f38 m38 h38)
  (a39:mdA K Wn q3 q38 Ms f39 m39 h39)
  (a40:fnA K q71 M6 f40 m40 h40)
  (a41:fnA K q28 MD f41 m41 h41)
  (a42:fnA K q55 Lr f42 m42 h42)
  (a43:fnA K q70 Mp f43 m43 h43)
  (a44:fnA K q75 Np f44 m44 h44)
  (a45:mdA K UM "back" Rk MH f45 m45 h45)
  (a46:mdA K U4 "back" U2 Mh f46 m46 h46)
  (a47:mdA K W0 q13 Sf Lz f47 m47 h47)
  (a48:mdA K W0 q10 Tb Nc f48 m48 h48)
  (a49:mdA K W0 "back" WQ LG f49 m49 h49)
  (a50:mdA K Wz q13 Ta NR f50 m50 h50)
  (a51:mdA K Wz q10 SG LN f51 m51 h51)
  (a52:mdA K Wz "back" WQ Ac f52 m52 h52)
  (a53:fnA K q36 OY f53 m53 h53)
  (a54:fnA K q31 Ld f54 m54 h54)
  (a55:fnA K q73 N3 f55 m55 h55)
  (a56:fnA K q37 Ki f56 m56 h56)
  (a57:fnA K "hull" Kg f57 m57 h57)
  (a58:fnA K Xo Mx f58 m58 h58)
  (a59:fnA K q49 N9 f59 m59 h59)
  (a60:fnA K q44 LM f60 m60 h60)
  (a61:mdA K Wn q13 Tx OH f61 m61 h61)
  (a62:mdA K Wn q10 Ra LZ f62 m62 h62)
  (a63:mdA K Wn "back" WQ BR f63 m63 h63)
  (a64:fnA K q51 Mm f64 m64 h64)
  (a65:fnA K q45 LL f65 m65 h65)
  (a66:fnA K "root" Og f66 m66 h66)
  (a67:fnA K q52 M8 f67 m67 h67)
  (a68:mdA K UH "back" Tz MV f68 m68 h68)
  (a69:fnA K q53 M4 f69 m69 h69)
  (a70:fnA K q76 MP f70 m70 h70)
  (a71:fnA K q54 Kn f71 m71 h71)
  (a72:fnA K q99 OG f72 m72 h72)
  (a73:fnA K q78 O4 f73 m73 h73)
  (a74:fnA K q77 MN f74 m74 h74)
  (a75:fnA K Xr L9 f75 m75 h75)
  (a76:mdA K Vv WJ Pq N7 f76 m76 h76)
  (a77:mdA K Vv V0 Ol MS f77 m77 h77)
  (a78:mdA K Vv "part" P8 LY f78 m78 h78)
  (a79:fnA K X8 Mg f79 m79 h79)
  (a80:fnA K W4 O7 f80 m80 h80)
  (a81:fnA K "sure" NP f81 m81 h81)
  (a82:fnA K q65 Q3 f82 m82 h82)
  (a83:fnA K q25 R8 f83 m83 h83)
  (a84:fnA K Xf Qw f84 m84 h84)
  (a85:mdA K UM q14 SM M3 f85 m85 h85)
  (a86:mdA K U4 q14 UW Oy f86 m86 h86)
  (a87:mdA K W0 q5 q92 Lq f87 m87 h87)
  (a88:mdA K W0 q14 q91 Qa f88 m88 h88)
  (a89:mdA K Wz q5 q86 OQ f89 m89 h89)
  (a90:mdA K Wz q14 q91 DR f90 m90 h90)
  (a91:mdA K Wn q5 q87 OR f91 m91 h91)
  (a92:mdA K Wn q14 q91 DB f92 m92 h92)
  (a93:fnA K q50 LD f93 m93 h93)
  (a94:mdA K UH q14 SV Oh f94 m94 h94)
  (a95:fnA K Xk Nu f95 m95 h95)
  (a96:fnA K q63 Kd f96 m96 h96)
  (a97:fnA K Xu LR f97 m97 h97)
  (a98:fnA K q93 QB f98 m98 h98)
  (a99:fnA K q56 NU f99 m99 h99)
  (a100:fnA K q27 Ug f100 m100 h100)
  (a101:fnA K q32 Kk f101 m101 h101)
  (a102:fnA K q41 PH f102 m102 h102)
  (a103:fnA K q94 Po f103 m103 h103)
  (a104:fnA K Xm NV f104 m104 h104)
  (a105:fnA K q85 R4 f105 m105 h105)
  (a106:fnA K q21 Qy f106 m106 h106)
  (a107:fnA K q22 MM f107 m107 h107)
  (a108:fnA K q96 RD f108 m108 h108)
  (a109:fnA K q97 V4 f109 m109 h109)
  (a110:fnA K q98 Q7 f110 m110 h110)
  (a111:fnA K q42 NZ f111 m111 h111)
  (a112:fnA K "deep" LB f112 m112 h112)
  (a113:fnA K q74 Oa f113 m113 h113)
  (a114:fnA K q26 RH f114 m114 h114)
  (a115:fnA K Xs PM f115 m115 h115)
  (a116:fnA K q79 Mq f116 m116 h116)
  (a117:fnA K Wj NL f117 m117 h117)
  (a118:fnA K q66 MC f118 m118 h118)
  (a119:fnA K q35 NF f119 m119 h119)
  (a120:fnA K "look" MG f120 m120 h120)
  (a121:fnA K WK Nj f121 m121 h121)
  (a122:fnA K q81 SN f122 m122 h122)
  (a123:fnA K q90 M5 f123 m123 h123)
  (a124:fnA K q88 LJ f124 m124 h124)
  (a125:fnA K WM O3 f125 m125 h125)
  (a126:fnA K q82 Te f126 m126 h126)
  (a127:fnA K q83 MY f127 m127 h127)
  (a128:fnA K W5 LW f128 m128 h128)
  (a129:fnA K "law" Vo f129 m129 h129)
  (Yw:W.nsIn K mainGlobals "len"=some none)
  (YL:W.nsIn K mainGlobals "range"=some none)
  (UG:W.nsIn K mainGlobals "abs"=some none)
  (XY:W.nsIn K mainGlobals "min"=some none)
  (XC:W.nsIn K mainGlobals "list"=some none)
  (Vl:W.nsIn K mainGlobals "zip"=some none)
  (Y0:W.nsIn K mainGlobals "max"=some none)
  (XZ:W.nsIn K mainGlobals "enumerate"=some none)
  (XX:W.nsIn K mainGlobals "all"=some none)
  (VB:W.nsIn K mainGlobals "sum"=some none)
  (VA:W.nsIn K mainGlobals "isinstance"=some none)
  (R5:W.nsIn K mainGlobals "bool"=some none)
  (Pt:W.nsIn K mainGlobals "int"=some none)
  (Of:W.nsIn K mainGlobals "tuple"=some none)
  (JS:Kit K "bool")
  (IY:Kit K "int")
  (JB:Kit K "tuple")
  (lmc:∀base:Heap,K.In base->W.CodeHd base h18 LT)(lmk:K.lookup LT=none)
  :∃fd:FuncData,(∀(s:Shared)(v:Value),BindsTo s fd ⟨[v],[]⟩ [(q84,v)])/\∀base:Heap,K.In base->base.Ns mainGlobals mg->BM mg base->Yc l.prog w K mg base (CXE l.prog w) 17 fa fd [q84] (upF K (R0 LT LP LQ)):=by
 have e:=hfa.symm.trans (W.mg_of X G a129.1);cases e
 let Zp:Ae K mg:=⟨Vv,W.mg_of X G Ko.1,clC Ko.2,zdh,zgP,Ko.2.2.2.2.2.1,Ko.2.2.2.2.2.2⟩
 let ZU:DW K mg:=⟨UM,W.mg_of X G N6.1,clC N6.2,zen,zfY,N6.2.2.2.2.2.1,N6.2.2.2.2.2.2⟩
 let ZX:EO K mg:=⟨U4,W.mg_of X G Mi.1,clC Mi.2,zdt,Mi.2.2.2.2.2.1,Mi.2.2.2.2.2.2⟩
 let ZM:Eo K mg:=⟨W0,W.mg_of X G Mu.1,clC Mu.2,zeA,zcg,Mu.2.2.2.2.2.1,Mu.2.2.2.2.2.2⟩
 let ZN:C9 K mg:=⟨Wz,W.mg_of X G NJ.1,clC NJ.2,zdb,zai,NJ.2.2.2.2.2.1,NJ.2.2.2.2.2.2⟩
 let ZL:DD K mg:=⟨Wn,W.mg_of X G Ll.1,clC Ll.2,A9,zft,Ll.2.2.2.2.2.1,Ll.2.2.2.2.2.2⟩
 let ZH:EU K mg:=⟨UH,W.mg_of X G NM.1,clC NM.2,AH,A2,NM.2.2.2.2.2.1,NM.2.2.2.2.2.2⟩
 let F9:Df K mg WG Kq Pk:=dfo X G a0
 let HR:Df K mg q46 M7 Uy:=dfo X G a1
 let F0:Df K mg WD OX RP:=dfo X G a2
 let IG:Df K mg WW MQ Qf:=dfo X G a3
 let KH:Df K mg q64 Ml SU:=dfo X G a4
 let Ea:Df K mg WI Ss RT:=dfo X G a5
 let Ju:Df K mg q67 MB Qq:=dfo X G a6
 let KN:Df K mg q72 LH Sy:=dfo X G a7
 let J4:Df K mg q80 Nt QH:=dfo X G a8
 let Ie:Df K mg WH Lj Pp:=dfo X G a9
 let HF:Df K mg q89 M9 RY:=dfo X G a10
 let IX:Df K mg WA My PU:=dfo X G a11
 let Gp:Df K mg WY LO Ou:=dfo X G a12
 let HI:Dm K Zp.C q3 Pb Me QR:=dmo a13
 let Jh:Dm K Zp.C Wm Oc Pj RQ:=dmo a14
 let Hf:Df K mg Xq OU Oo:=dfo X G a15
 let Ge:Df K mg XD Qm Ux:=dfo X G a16
 let F4:Df K mg XE M0 Ub:=dfo X G a17
 let SA:Dm K Zp.C VN P9 Rm QY:=dmo a18
 let JK:Df K mg "bars" OL SH:=dfo X G a19
 let FT:Df K mg "less" Nr RO:=dfo X G a20
 let IU:Df K mg q33 Kh VD:=dfo X G a21
 let Ik:Df K mg q95 NB Oi:=dfo X G a22
 let Hi:Dm K ZU.C q6 U0 O6 Rq:=dmo a23
 let FH:Dm K ZX.C q6 Se L7 Q6:=dmo a24
 let FG:Df K mg q30 Lx Wh:=dfo X G a25
 let Jf:Dm K ZM.C q6 Td NS Px:=dmo a26
 let IS:Df K mg q23 Nq X7:=dfo X G a27
 let JQ:Dm K ZN.C q6 So Lu RG:=dmo a28
 let Gh:Df K mg q40 Md VS:=dfo X G a29
 let G7:Dm K ZL.C q6 TK OK Ov:=dmo a30
 let HD:Df K mg q69 OV W9:=dfo X G a31
 let Gm:Df K mg q43 PV Rb:=dfo X G a32
 let J8:Dm K ZH.C q6 Tu O8 Oq:=dmo a33
 let HH:Dm K ZH.C q3 Tr Lp Qo:=dmo a34
 let Fn:Dm K ZU.C q3 SX O2 PC:=dmo a35
 let KD:Dm K ZX.C q3 Tq LV QI:=dmo a36
 let F5:Dm K ZM.C q3 q38 MW QL:=dmo a37
 let IE:Dm K ZN.C q3 q38 Lk Qx:=dmo a38
 let J0:Dm K ZL.C q3 q38 Ms RL:=dmo a39
 let IM:Df K mg q71 M6 V6:=dfo X G a40
 let IW:Df K mg q28 MD XI:=dfo X G a41
 let K9:Df K mg q55 Lr Rh:=dfo X G a42
 let Fd:Df K mg q70 Mp Vu:=dfo X G a43
 let Hu:Df K mg q75 Np RR:=dfo X G a44
 let Gf:Dm K ZU.C "back" Rk MH PN:=dmo a45
 let Hq:Dm K ZX.C "back" U2 Mh Qc:=dmo a46
 let FQ:Dm K ZM.C q13 Sf Lz Pa:=dmo a47
 let HV:Dm K ZM.C q10 Tb Nc R9:=dmo a48
 let A7:Dm K ZM.C "back" WQ LG Q9:=dmo a49
 let Kv:Dm K ZN.C q13 Ta NR NY:=dmo a50
 let JA:Dm K ZN.C q10 SG LN Mn:=dmo a51
 let A3:Dm K ZN.C "back" WQ Ac CD:=dmo a52
 let Ib:Df K mg q36 OY PZ:=dfo X G a53
 let Io:Df K mg q31 Ld TM:=dfo X G a54
 let Jl:Df K mg q73 N3 QQ:=dfo X G a55
 let Gu:Df K mg q37 Ki Rz:=dfo X G a56
 let K7:Df K mg "hull" Kg RB:=dfo X G a57
 let OS:Df K mg Xo Mx T6:=dfo X G a58
 let Jn:Df K mg q49 N9 VT:=dfo X G a59
 let JV:Df K mg q44 LM SD:=dfo X G a60
 let JZ:Dm K ZL.C q13 Tx OH Lf:=dmo a61
 let GV:Dm K ZL.C q10 Ra LZ OD:=dmo a62
 let zg7:Dm K ZL.C "back" WQ BR Dq:=dmo a63
 let GN:Df K mg q51 Mm PK:=dfo X G a64
 let KI:Df K mg q45 LL Su:=dfo X G a65
 let Vq:Df K mg "root" Og Vh:=dfo X G a66
 let Hc:Df K mg q52 M8 Ot:=dfo X G a67
 let FW:Dm K ZH.C "back" Tz MV QV:=dmo a68
 let KU:Df K mg q53 M4 Oe:=dfo X G a69
 let KS:Df K mg q76 MP RC:=dfo X G a70
 let J7:Df K mg q54 Kn Sx:=dfo X G a71
 let Ej:Df K mg q99 OG Qj:=dfo X G a72
 let K3:Df K mg q78 O4 RW:=dfo X G a73
 let Jk:Df K mg q77 MN RE:=dfo X G a74
 let GO:Df K mg Xr L9 RS:=dfo X G a75
 let Ii:Dm K Zp.C WJ Pq N7 Uv:=dmo a76
 let Ig:Dm K Zp.C V0 Ol MS OB:=dmo a77
 let G0:Dm K Zp.C "part" P8 LY Sm:=dmo a78
 let Iu:Df K mg X8 Mg Sl:=dfo X G a79
 let Fx:Df K mg W4 O7 Pn:=dfo X G a80
 let Ff:Df K mg "sure" NP US:=dfo X G a81
 let Fz:Df K mg q65 Q3 QE:=dfo X G a82
 let Fv:Df K mg q25 R8 PL:=dfo X G a83
 let Ef:Df K mg Xf Qw Ro:=dfo X G a84
 let HU:Dm K ZU.C q14 SM M3 PJ:=dmo a85
 let JT:Dm K ZX.C q14 UW Oy QC:=dmo a86
 let Hm:Dm K ZM.C q5 q92 Lq Q8:=dmo a87
 let zgJ:Dm K ZM.C q14 q91 Qa RM:=dmo a88
 let FY:Dm K ZN.C q5 q86 OQ Mw:=dmo a89
 let zgO:Dm K ZN.C q14 q91 DR Eu:=dmo a90
 let IA:Dm K ZL.C q5 q87 OR O0:=dmo a91
 let zcz:Dm K ZL.C q14 q91 DB CU:=dmo a92
 let HS:Df K mg q50 LD R7:=dfo X G a93
 let Eh:Dm K ZH.C q14 SV Oh Q2:=dmo a94
 let Hx:Df K mg Xk Nu Sj:=dfo X G a95
 let Jd:Df K mg q63 Kd Pc:=dfo X G a96
 let GH:Df K mg Xu LR QO:=dfo X G a97
 let Ia:Df K mg q93 QB Ru:=dfo X G a98
 let Ua:Df K mg q56 NU V8:=dfo X G a99
 let Va:Df K mg q27 Ug VO:=dfo X G a100
 let KY:Df K mg q32 Kk Py:=dfo X G a101
 let J2:Df K mg q41 PH Pf:=dfo X G a102
 let IH:Df K mg q94 Po QM:=dfo X G a103
 let IC:Df K mg Xm NV TV:=dfo X G a104
 let HK:Df K mg q85 R4 Tv:=dfo X G a105
 let Kt:Df K mg q21 Qy V2:=dfo X G a106
 let Ee:Df K mg q22 MM TB:=dfo X G a107
 let JU:Df K mg q96 RD OA:=dfo X G a108
 let Hb:Df K mg q97 V4 QG:=dfo X G a109
 let KQ:Df K mg q98 Q7 Rv:=dfo X G a110
 let JN:Df K mg q42 NZ QX:=dfo X G a111
 let Jc:Df K mg "deep" LB Qz:=dfo X G a112
 let Jt:Df K mg q74 Oa PR:=dfo X G a113
 let FX:Df K mg q26 RH RV:=dfo X G a114
 let II:Df K mg Xs PM QS:=dfo X G a115
 let G8:Df K mg q79 Mq QZ:=dfo X G a116
 let IQ:Df K mg Wj NL QJ:=dfo X G a117
 let Je:Df K mg q66 MC Qg:=dfo X G a118
 let He:Df K mg q35 NF Pd:=dfo X G a119
 let Jx:Df K mg "look" MG PF:=dfo X G a120
 let Hn:Df K mg WK Nj QP:=dfo X G a121
 let Js:Df K mg q81 SN QA:=dfo X G a122
 let Jm:Df K mg q90 M5 P7:=dfo X G a123
 let HL:Df K mg q88 LJ Qt:=dfo X G a124
 let Jo:Df K mg WM O3 Qh:=dfo X G a125
 let Jp:Df K mg q82 Te Pe:=dfo X G a126
 let GJ:Df K mg q83 MY R6:=dfo X G a127
 let FV:Df K mg W5 LW QD:=dfo X G a128
 let Mb:Df K mg "law" Vo Lc:=dfo X G a129
 have Yw:=W.mg_none_of X G Yw
 have YL:=W.mg_none_of X G YL
 have UG:=W.mg_none_of X G UG
 have XY:=W.mg_none_of X G XY
 have XC:=W.mg_none_of X G XC
 have Vl:=W.mg_none_of X G Vl
 have Y0:=W.mg_none_of X G Y0
 have XZ:=W.mg_none_of X G XZ
 have XX:=W.mg_none_of X G XX
 have VB:=W.mg_none_of X G VB
 have VA:=W.mg_none_of X G VA
 have R5:=W.mg_none_of X G R5
 have Pt:=W.mg_none_of X G Pt
 have Of:=W.mg_none_of X G Of;refine⟨W.fnOf "law" "law" (Vw Vo) (Xa Vo) (Zj Vo) .none .none .none m129 none (.ref h129) .none,λs v=>.of_eq rfl,λbase kin _ hbm=>?_⟩;have LM_Book_to_look_at:Lm K mg base SA.fd LT:=⟨h18,rfl,lmc base kin,hbm,λo e=>by rw[lmk] at e;cases e⟩
 letI e:Ev5:=⟨l.prog,w,K,mg,base,Zp,ZU,ZX,ZM,ZN,ZL,ZH,UG,XX,R5,XZ,Pt,VA,Yw,XC,Y0,XY,YL,VB,Of,Vl⟩
 let Gd:=zfP F9
 let YG:=zdk HR
 let G4:=zeg F0 YG
 let Gn:=zbV IG
 let UY:=zfB KH
 let Il:=zdC Ea UY Gn
 let Ij:=zfV Ju
 let Vk:=zg2 KN
 let HJ:=AI J4 Vk
 let Km:=zbn Ie
 let Hj:=zdU HF UY
 let FF:=zfq IX Km Hj Ij HJ
 let Gx:=zb6 Gp FF YG
 let Tc:=AM HI
 let Qn:=zae Jh
 let Iz:=zhs Hf
 let Wy:=zag Ge Iz
 let Vc:=zez F4 Wy
 let RA:=zes SA LM_Book_to_look_at Vc
 let SJ:=zeN JK
 let K0:=zdF FT
 let XR:=zcE IU
 let HN:=zfC Ik XR K0
 let KO:=zaw Hi HN
 let Jr:=zd8 FH
 let YQ:=zhD FG
 let Fh:=zca Jf YQ
 let Yt:=zbf IS
 let GX:=zgc JQ Yt
 let Xz:=zbd Gh XR
 let Ha:=zcP G7 Xz
 let Y3:=zd5 HD
 let SE:=zda Gm XR Y3
 let F7:=zaV J8 SE
 let Ti:=zeh HH
 let UT:=zeq Fn
 let Tt:=zav KD
 let T7:=zhf F5
 let Sk:=zfz IE
 let Sg:=zhS J0
 let Vj:=zdQ IM Ti Sg Sk T7 Tt UT
 let Yk:=za6 IW F7 Ha GX Fh Jr KO Vj
 let TJ:=zbQ K9 SJ Yk
 let Y1:=zam Fd
 let GS:=zb1 Hu Y1
 let ID:=zfK Gf
 let JL:=zf8 Hq
 let zau:=zbs FQ Y1 Yt
 let zhu:=zdE HV Y1 Yt
 let IJ:=Kw BB A7 zhu zau
 let zco:=zhN Kv Y1 YQ
 let zbx:=za3 JA Y1 Yt
 let J6:=Kw Bx A3 zbx zco
 let Mo:=za0 Ib
 let VG:=zdZ Io
 let Ks:=zgd Jl XR
 let Lb:=zfW Gu VG Ks
 let KC:=zaH K7
 let Si:=zgf OS KC
 let Xy:=zhz Jn
 let SS:=A5 JV Si Lb Xy Mo
 let zf9:=zg6 JZ SS
 let zhV:=zaY GV SS
 let Fq:=Kw E3 zg7 zhV zf9
 let OC:=zdv GN Y3
 let Tw:=zbK KI OC
 let N_root:=Df.never (P:=l.prog) (w:=w) (base:=base) 0 Vq
 let zgo:=zaL Vq Y3 Tw Xy N_root
 let UU:=zbF Vq Y3 Tw Xy zgo
 let GR:=zc9 Hc Si VG Xy UU Y3
 let KJ:=zcX FW GR
 let Jz:=zeM KU KJ Fq J6 IJ JL ID Vj GS Yk
 let JJ:=zaM KS Jz
 let Ul:=za2 J7
 let IP:=zaP Ej
 let GC:=zeV K3 TJ Ul IP
 let G2:=zdH Jk
 let GB:=zcC GO GC G2 JJ TJ
 let YN:=zfe Ii
 let VP:=zaO Ig
 let WB:=zgs G0 YN VP Ul
 let UK:=zeJ Iu Yk
 let Kz:=zhl Fx YN UK WB GB
 let Rg:=zha Ff
 let Hd:=zbl Fz Rg SJ UK
 let Ei:=zbJ Fv
 let T8:=zaI Ef
 let Jb:=zbC HU
 let FJ:=zdM JT
 let zeP:=zgY Hm YQ
 let IT:=Iq (λ_ _ p r _=>(p.1+r.1,p.2+r.2)) BB (λ_ _ _ _ _ _=>rfl) (λ_ _ _ _ _ _ _ _ _ z h=>h) zgJ zeP
 let AR:=zgk FY Yt
 let Hr:=Iq (λ_ _ p r _=>(p.1-r.2,p.2-r.1)) Bx (λ_ _ _ _ _ _=>rfl) (λ_ _ _ _ _ _ _ _ _ z h=>h) zgO AR
 let zgM:=zcQ IA YQ Xz
 let Ic:=Iq (λx y p r g=>((Yn x r g).1+(Yn y p g).1,(Yn x r g).2+(Yn y p g).2)) E3 (λ_ _ _ _ _ _=>rfl) (λ_ _ _ _ _ _ _ _ _ z h=>⟨z,h⟩) zcz zgM
 let Ht:=zc2 HS
 let FA:=zhO Eh Xz Ht SE
 let SQ:=zhK Hx FA Ic Hr IT FJ Jb Vj Yk
 let Fe:=zcf Jd T8 SQ
 let Rn:=zfZ GH
 let U5:=zcl Ia
 let zgz:=zff Va (Df.never (P:=l.prog) (w:=w) (base:=base) 0 Ua)
 let AY:=OM 0 (by decide) Ua Rn zgz U5
 let zet:=MK 0 (by decide) Va AY
 let zcL:=OM 1 (by decide) Ua Rn zet U5
 let zec:=MK 1 (by decide) Va zcL
 let zdy:=OM 2 (by decide) Ua Rn zec U5
 let zdL:=MK 2 (by decide) Va zdy
 let VC:=OM 3 (by decide) Ua Rn zdL U5
 let RX:=MK 3 (by decide) Va VC
 let HP:=zfD KY VC
 let GG:=zhW J2 HP
 let FP:=zdi IH GG RX
 let Sv:=zcb IC
 let Rc:=zeL HK Sv
 let Vt:=zgg Kt Rc
 let Uz:=zbp Ee YQ Xz
 let G6:=zat JU Yt Uz
 let F2:=zd4 Hb YQ Uz Yt G6 Vt
 let Hh:=zba KQ F2
 let Ji:=zhv JN T8 Yk Vt
 let Gg:=AV Jc
 let KR:=zfR Jt Gg
 let HM:=zeO FX Rg
 let Fy:=zgi II KR Hh Ji FP Rc Fe HM Yk Ei
 let Hw:=zc0 G8 SQ Yk Vt Fy
 let KL:=zfN IQ Vc Hw Hd Yk
 let Ku:=zgE Je Wy
 let GU:=zan He WB Sv Wy Vc
 let Gk:=zhx Jx YN Ku GU KL Kz
 let Hk:=zcK Hn Qn Gk RA Tc
 let LS:=AQ Js
 let HY:=zcW Jm LS Vk
 let Na:=zho HL JS IY
 let Ja:=zc7 Jo Na JB
 let Ny:=zcA Jp HY Ja
 let KG:=zgD GJ
 let FN:=A4 FV
 let G_law:=zfy Mb Hk FN Ny KG YG Gx Il G4 Gd
 exact G_law.ok
end Mine
open PySem PySem.W PyProof.Rows
set_option maxRecDepth 100003 in
set_option maxHeartbeats 0 in
theorem PySem.Challenge.cw_boxnarrow_k52_thrown_are_barred_holds : PySem.Challenge.rw_boxnarrow_k52_thrown_are_barred.Holds := by
 w_on;refine PySem.W.holds_law Mine.ws_eq λsaid=>?_
 refine PySem.W.holds_open (q:=Mine.vw) (loose:=[]) (Xt:=Mine.xt) (XP:=XL Mine.vw []) (Yf:=Hook.obs (kHook Mine.kp Mine.ks Mine.VL)) (Ya:=Hook.val (kHook Mine.kp Mine.ks Mine.VL))
  (YP:=Hook.says (kHook Mine.kp Mine.ks Mine.VL)) (N:=8101) Mine.left (Hook.of (kHook Mine.kp Mine.ks Mine.VL)) (Hook.keeps (kHook Mine.kp Mine.ks Mine.VL)) (λs e=>xl_of s (Bool.and_eq_true_iff.mp e).1) XL.keeps
  (by rfl) (by rfl) (by rfl) (λs e=>recFacts_of (Bool.and_eq_true_iff.mp e).2) (by rfl) (by first|assumption|decide +kernel)
  (by decide +kernel) ⟨rfl,rfl,rfl,rfl,rfl,by decide +kernel⟩ ?hw ?hc
 (case hw=>w_witness2)
 refine L3.zhp (l:=PySem.Challenge.rw_boxnarrow_k52_thrown_are_barred) (x:="_law_script") (K:=Mine.kq) (P:=Mine.LT) (c:=nat_lit 803) (ps:=#[]) (lp:=Mine.LP) (lq:=Mine.LQ) 17 rfl rfl ⟨rfl,by decide,by decide⟩ (λw h Y=>⟨Mine.in_kq Y,Mine.zbD Y⟩) Mine.BS Mine.Fb trivial rfl ?F
 case F=>
  k_fill
  intro w mg fa h KX G hmg;apply Mine.zhG KX G hmg (lmc:=Mine.BS _) (lmk:=Mine.Fb _)
  all_goals (try delta Mine.clA)
  all_goals (try refine⟨?_,?_,?_,?_,?_,?_,?_⟩)
  all_goals (try delta Mine.fnA Mine.mdA)
  all_goals (try refine⟨?_,?_,?_⟩)
  all_goals first|k_is|exact L3.zd0 _ _ (by simp)
