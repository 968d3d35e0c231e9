import PyProof.Rows.All
import Wide.All
import OpenK.AllK
import Wide.FinOn
import Lean
import PyProof.EqAt
import PyProof.EqKinds
import PyProof.TupleCall
import PySem.Challenge.RW_boxnarrow_k67_whole_forged_ones
theorem zA:type_of% @List.length_map:=@List.length_map
theorem zB:type_of% @List.getElem?_eq_getElem:=@List.getElem?_eq_getElem
theorem zC:type_of% @Nat.le_refl:=@Nat.le_refl
theorem zD:type_of% @List.getElem?_eq_some_iff:=@List.getElem?_eq_some_iff
theorem zF:type_of% @List.getElem?_map:=@List.getElem?_map
theorem zG:type_of% @List.length_append:=@List.length_append
theorem zH:type_of% @Int.mul_le_mul_of_nonneg_right:=@Int.mul_le_mul_of_nonneg_right
theorem zI:type_of% @Int.toNat_natCast:=@Int.toNat_natCast
theorem zJ:type_of% @List.mem_of_getElem?:=@List.mem_of_getElem?
theorem zK:type_of% @List.getD_eq_getElem?_getD:=@List.getD_eq_getElem?_getD
theorem zL:type_of% @Nat.zero_le:=@Nat.zero_le
theorem zN:type_of% @List.mem_map:=@List.mem_map
theorem zO:type_of% @List.mem_cons:=@List.mem_cons
theorem zQ:type_of% @List.getElem?_append_left:=@List.getElem?_append_left
theorem zS:type_of% @Option.map_eq_some_iff:=@Option.map_eq_some_iff
theorem zT:type_of% @List.length_cons:=@List.length_cons
theorem zU:type_of% @Int.pow_succ:=@Int.pow_succ
theorem zV:type_of% @List.size_toArray:=@List.size_toArray
theorem zW:type_of% @Nat.ne_of_lt:=@Nat.ne_of_lt
theorem zX:type_of% @Bool.false_ne_true:=@Bool.false_ne_true
theorem zY:type_of% @Int.mul_nonneg:=@Int.mul_nonneg
theorem zZ:type_of% @List.map_map:=@List.map_map
theorem yA:type_of% @List.getElem?_append_right:=@List.getElem?_append_right
theorem yB:type_of% @Nat.lt_of_lt_of_le:=@Nat.lt_of_lt_of_le
theorem yC:type_of% @List.mem_cons_self:=@List.mem_cons_self
theorem yD:type_of% @List.map_append:=@List.map_append
theorem yE:type_of% @Int.le_refl:=@Int.le_refl
theorem yF:type_of% @Int.mul_pos:=@Int.mul_pos
theorem yG:type_of% @Int.le_trans:=@Int.le_trans
theorem yH:type_of% @Nat.le_trans:=@Nat.le_trans
theorem yI:type_of% @List.getElem_mem:=@List.getElem_mem
theorem yJ:type_of% @List.lookup_cons:=@List.lookup_cons
theorem yK:type_of% @List.getElem?_eq_none:=@List.getElem?_eq_none
theorem yL:type_of% @Int.pow_pos:=@Int.pow_pos
theorem yM:type_of% @List.mem_singleton:=@List.mem_singleton
theorem yN:type_of% @List.mem_cons_of_mem:=@List.mem_cons_of_mem
theorem yO:type_of% @Int.neg_mul:=@Int.neg_mul
theorem yP:type_of% @List.length_take:=@List.length_take
theorem yQ:type_of% @Nat.pow_pos:=@Nat.pow_pos
theorem yR:type_of% @List.length_nil:=@List.length_nil
theorem yS:type_of% @List.not_mem_nil:=@List.not_mem_nil
theorem yT:type_of% @Int.le_of_mul_le_mul_right:=@Int.le_of_mul_le_mul_right
theorem yU:type_of% @Nat.sub_self:=@Nat.sub_self
theorem yV:type_of% @Nat.lt_irrefl:=@Nat.lt_irrefl
theorem yW:type_of% @List.mem_append_right:=@List.mem_append_right
theorem yX:type_of% @List.append_nil:=@List.append_nil
theorem yY:type_of% @List.getElem?_eq_none_iff:=@List.getElem?_eq_none_iff
theorem yZ:type_of% @List.take_of_length_le:=@List.take_of_length_le
theorem xA:type_of% @Int.pow_nonneg:=@Int.pow_nonneg
theorem xB:type_of% @Int.zero_mul:=@Int.zero_mul
theorem xC:type_of% @List.mem_append:=@List.mem_append
theorem xD:type_of% @Int.mul_pow:=@Int.mul_pow
theorem xE:type_of% @List.mem_iff_getElem:=@List.mem_iff_getElem
theorem xF:type_of% @Option.isSome_iff_exists:=@Option.isSome_iff_exists
theorem xG:type_of% @Nat.le_of_lt:=@Nat.le_of_lt
theorem xH:type_of% @List.getElem?_set_self:=@List.getElem?_set_self
theorem xI:type_of% @Int.mul_one:=@Int.mul_one
theorem xJ:type_of% @List.append_assoc:=@List.append_assoc
theorem xK:type_of% @Int.pow_zero:=@Int.pow_zero
theorem xM:type_of% @Nat.mul_le_mul:=@Nat.mul_le_mul
theorem xN:type_of% @List.ext_getElem?:=@List.ext_getElem?
theorem xO:type_of% @Int.le_total:=@Int.le_total
theorem xP:type_of% @List.getElem?_set_ne:=@List.getElem?_set_ne
theorem xQ:type_of% @List.map_cons:=@List.map_cons
theorem xR:type_of% @Int.mul_comm:=@Int.mul_comm
theorem xS:type_of% @List.all_eq_true:=@List.all_eq_true
theorem xT:type_of% @List.getElem?_range:=@List.getElem?_range
theorem xU:type_of% @List.replicate_succ:=@List.replicate_succ
theorem xV:type_of% @Int.natAbs_mul:=@Int.natAbs_mul
theorem xW:type_of% @List.length_range:=@List.length_range
theorem xX:type_of% @List.getElem?_zipWith:=@List.getElem?_zipWith
theorem xY:type_of% @Bool.eq_iff_iff:=@Bool.eq_iff_iff
theorem xZ:type_of% @List.flatten_cons:=@List.flatten_cons
theorem wA:type_of% @Int.mul_le_mul_of_nonneg_left:=@Int.mul_le_mul_of_nonneg_left
theorem wB:type_of% @List.take_succ:=@List.take_succ
theorem wC:type_of% @List.mem_iff_getElem?:=@List.mem_iff_getElem?
theorem wD:type_of% @List.take_length:=@List.take_length
set_option Elab.async false
set_option linter.all false
set_option maxRecDepth 100000
set_option genSizeOf false
set_option genInjectivity false
set_option maxHeartbeats 40000000
abbrev LI:=List (Int×Int)
abbrev LA:=List (PySem.Addr×PySem.Obj)
abbrev QW:=PySem.Challenge.pw_boxnarrow_k67_whole_forged_ones
abbrev Fg:=PySem.W.Frag
namespace L2
open PySem PySem.Spec PyProof.Rows
def ZK (s:Stmt)(j:Nat):Stmt:=match s with
 | .ClassDef _ _ _ body _ _ _ _ _ _ _=>body.getD j (.Pass ⟨0,0,0,0⟩)
 | _=>.Pass ⟨0,0,0,0⟩
def Va (s:Stmt):Arguments:=match s with
 | .FunctionDef _ a _ _ _ _ _ _ _ _=>a
 | _=>{ posonlyargs:=[],args:=[],vararg:=none,kwonlyargs:=[],kw_defaults:=[],kwarg:=none,defaults:=[] }
def Wz (s:Stmt):List Stmt:=match s with
 | .FunctionDef _ _ b _ _ _ _ _ _ _=>b
 | _=>[]
def Zo (s:Stmt):Scope:=match s with
 | .FunctionDef _ _ _ _ _ _ sc _ _ _=>sc
 | _=>{ kind:=.function,names:=[],isGenerator:=false,isCoroutine:=false }
end L2
namespace L3
open PySem PySem.W PyProof.Rows PySem.Calls
theorem Kv {α β γ δ:Type}{f:α->Option β}{A:β->γ}{B:β->δ}{a:γ}{b:δ}(h1:(λx=>(f x).map A)=λ_=>some a)(h2:(λx=>(f x).map B)=λ_=>some b):(λx=>(f x).map λs=>(A s,B s))=λ_=>some (a,b):=by
 funext x;have e1:=congrFun h1 x
 have e2:=congrFun h2 x;cases h:f x with
 | none=>rw[h] at e1;cases e1
 | some s=>
  rw[h] at e1 e2;exact congrArg some (Prod.ext (Option.some.inj e1) (Option.some.inj e2))
def goT (tb:String->Option Builtin)(p:Program)(w:World)(n₀:Nat)(ann:Option Value):Nat->SharedT->Thread->Option SharedT
 | 0,_,_=>none
 | k+1,s,t=>bif through t then some s else bif stepOk n₀ ann t then (stepT (denote tb) p w s t).bind (λr=>goT tb p w n₀ ann k r.1 r.2) else none
theorem FX:∀ {n:Nat} {s s':SharedT} {t:Thread},goT tb p w n₀ ann n s t=some s'->topRun tb p w n₀ ann n s.abs t=some s'.abs
 | 0,_,_,_,q=>nomatch q
 | n+1,s,s',t,q=>by
  unfold goT at q;unfold topRun;cases c1:through t
  ·rw[c1] at q;cases c2:stepOk n₀ ann t
   ·rw[c2] at q;exact nomatch q
   ·rw[c2] at q;obtain⟨⟨s2,t2⟩,c3,q⟩:=Option.bind_eq_some_iff.mp q;rw[stepT_spec c3];exact FX q
  ·rw[c1] at q;cases q;rfl
def Km (os:Array Obj):Nat->Nat->Nat->BT
 | 0,_,_=>.nil
 | f+1,a,b=>match os[b]? with
  | some o=>.node o (Km os f (2*a) (a+b)) (Km os f (2*a) (2*a+b))
  | none=>.nil
noncomputable def bootT (P:Params):BT:=Km (boot_heap P).objs 6 1 0
noncomputable abbrev Qy (w:World)(os:OsState):SharedT:=⟨bootT w.params,11,(boot_heap w.params).life,Array.mk [],boot_drawn,boot_toks,os⟩
def Nz (s:SharedT)(a:Addr):Option Obj:=if a<s.n then (match s.tree.get a with|some o=>alive o|none=>s.abs.heap.get? a) else none
theorem zat (s:SharedT)(a:Addr):s.abs.heap.get? a=Nz s a:=by
 unfold Nz;split
 ·rename_i h;cases e:s.tree.get a with
  | none=>rfl
  | some o=>exact abs_get h e
 ·rename_i h;exact abs_get_none h
theorem C0 (l:List Addr)(s:SharedT):l.map s.abs.heap.get?=l.map (Nz s):=List.map_congr_left λa _=>zat s a
noncomputable abbrev seenT (p q:Program)(aK:List Str)(Xt:Shared->Bool){α:Type}(YT:SharedT->α)(g0:Bool)(w:World)(s:SharedT):=
 ((staticsOk (importedModules p.main.body) (boot_heap w.params) s.abs.heap&&namesBound p s.abs.heap&&gensDone s.abs&&laidKept (boot_heap w.params) s.abs.heap),openSeen q aK (importedModules p.main.body) Xt g0 s.abs,YT s)
noncomputable abbrev JE (p:Program)(w:World)(s:SharedT):Bool:=staticsOk (importedModules p.main.body) (boot_heap w.params) s.abs.heap&&namesBound p s.abs.heap&&gensDone s.abs&&laidKept (boot_heap w.params) s.abs.heap
def goK (tb:String->Option Builtin)(p:Program)(w:World)(n₀:Nat)(ann:Option Value):Nat->SharedT->Thread->Option (SharedT×Thread)
 | 0,s,t=>some (s,t)
 | k+1,s,t=>bif through t then none else bif stepOk n₀ ann t then (stepT (denote tb) p w s t).bind (λr=>goK tb p w n₀ ann k r.1 r.2) else none
theorem Fq:∀ {n:Nat} {s s':SharedT} {t t':Thread},goK tb p w n₀ ann n s t=some (s',t')->topGo tb p w n₀ ann n s.abs t=some (s'.abs,t')
 | 0,_,_,_,_,q=>by cases q;rfl
 | n+1,s,s',t,t',q=>by
  unfold goK at q;unfold topGo;cases c1:through t
  ·rw[c1] at q;cases c2:stepOk n₀ ann t
   ·rw[c2] at q;exact nomatch q
   ·rw[c2] at q;obtain⟨⟨s2,t2⟩,c3,q⟩:=Option.bind_eq_some_iff.mp q;rw[stepT_spec c3];exact Fq q
  ·rw[c1] at q;exact nomatch q
theorem CD {p:Program}{w:World}{os:OsState}{ann:Option Value}{env:Env}{c:Code}{posa posb q:Pos}{n0 nb N2 N:Nat}{Sa Sb s':SharedT}(hc:c=Code.body (behindTheImports p) env)
  (pre:goK treeTable p w 11 ann n0 (Qy w os) (topStub p)=some (Sa,⟨denote treeTable c,c,posa,[topFrame q]⟩))
  (block:segRunT treeTable p w 11 ann 1 nb Sa (blockOf (behindTheImports p) env c posa [topFrame q])=some (.next,Sb,c,posb))
  (e:n0+(nb+N2)=N)(r:topRun treeTable p w 11 ann N2 Sb.abs (restOf (behindTheImports p) env c posb [topFrame q])=some s'.abs):topRun treeTable p w 11 ann N (Qy w os).abs (topStub p)=some s'.abs:=by
 subst e hc;exact go_top (Fq pre) (piece_block (segRun_of block) r)
theorem zcH {p:Program}{w:World}{ann:Option Value}{env:Env}{c:Code}{pos1 aQ q:Pos}{l:List Stmt}{n1 N2 m:Nat}{S1 S2 s':SharedT}
  (p1:segRunT treeTable p w 11 ann 1 n1 S1 (piecesOf (l.take m) env c pos1 [topFrame q])=some (.next,S2,c,aQ))
  (r:topRun treeTable p w 11 ann N2 S2.abs (restOf (l.drop m) env c aQ [topFrame q])=some s'.abs):topRun treeTable p w 11 ann (n1+N2) S1.abs (restOf l env c pos1 [topFrame q])=some s'.abs:=by
 have z:=piece_app (segRun_of p1) r;rw[List.take_append_drop] at z;exact z
theorem AO {p q:Program}{aK:List Str}{Xt:Shared->Bool}{α:Type}{Yf:Shared->α}{YT:SharedT->α}{Ya:World->α}{N:Nat}{g0:Bool}{ann:Option Value}{go:World->OsState->Option SharedT}(hY:∀s:SharedT,Yf s.abs=YT s)(e:opening p=plainProg p.main.scope.names)(hN:Nat.ble 600 N=true)(f:∀s,fenceModules? p s=some s)
  (size:∀w:World,((boot_heap w.params).isNs mainGlobals&&(Array.mk []:Array GenState).size==0,(boot_heap w.params).objs.size,(boot_heap w.params).nsMap mainGlobals "__annotations__")=(true,11,ann))
  (hgo:∀w os s',go w os=some s'->topRun treeTable p w 11 ann N (Qy w os).abs (topStub p)=some s'.abs)
  (run:∀w:World,(λos=>(go w os).map λs=>seenT p q aK Xt YT g0 w s)=λ_=>some (true,openGood q aK,Ya w)):LeftO p q aK Xt Yf Ya N g0:=λw=>by
 obtain⟨⟨h,gs,d,k,os⟩,e1,e'⟩:=zS.mp (boot_open e hN f w);obtain⟨rfl,rfl,rfl,rfl⟩:h=boot_heap w.params/\gs=Array.mk []/\d=boot_drawn/\k=boot_toks:=by simpa using e'
 obtain⟨y1,y2,y3⟩:_/\_/\_:=by simpa only [Prod.mk.injEq] using size w
 obtain⟨s',r1,r2⟩:=zS.mp (congrFun (run w) os);obtain⟨l1,l2,l3⟩:_/\_/\_:=by simpa only [Prod.mk.injEq] using r2
 have r:topRun treeTable p w 11 ann N ⟨boot_heap w.params,Array.mk [],boot_drawn,boot_toks,os⟩ (topStub p)=some s'.abs:=hgo w os s' r1
 have t:topFrom treeTable p w N ⟨boot_heap w.params,Array.mk [],boot_drawn,boot_toks,os⟩=some s'.abs:=by
  unfold topFrom;dsimp only;rw[y1,y2,y3,r];show (match staticsOk (importedModules p.main.body) (boot_heap w.params) s'.abs.heap&&namesBound p s'.abs.heap&&gensDone s'.abs&&laidKept (boot_heap w.params) s'.abs.heap with|true=>_|false=>_)=_;rw[l1]
 unfold openEnds;rw[e1];show Option.map _ (topFrom treeTable p w N _)=_;rw[t];exact congrArg some (Prod.ext l2 ((hY s').trans l3))
theorem zaA {p q:Program}{aK:List Str}{Xt:Shared->Bool}{α:Type}{Yf:Shared->α}{YT:SharedT->α}{Ya:World->α}{N:Nat}{g0:Bool}{ann:Option Value}{go:World->OsState->Option SharedT}(hY:∀s:SharedT,Yf s.abs=YT s)(e:opening p=plainProg p.main.scope.names)(hN:Nat.ble 600 N=true)(f:∀s,fenceModules? p s=some s)
  (size:∀w:World,((boot_heap w.params).isNs mainGlobals&&(Array.mk []:Array GenState).size==0,(boot_heap w.params).objs.size,(boot_heap w.params).nsMap mainGlobals "__annotations__")=(true,11,ann))
  (hgo:∀w os s',go w os=some s'->topRun treeTable p w 11 ann N (Qy w os).abs (topStub p)=some s'.abs)
  (ra:∀w:World,(λos=>(go w os).map λs=>(JE p w s,(openSeen q aK (importedModules p.main.body) Xt g0 s.abs).1))=λ_=>some (true,(openGood q aK).1))
  (rb:∀w:World,(λos=>(go w os).map λs=>((openSeen q aK (importedModules p.main.body) Xt g0 s.abs).2.1,(openSeen q aK (importedModules p.main.body) Xt g0 s.abs).2.2.1))=λ_=>some ((openGood q aK).2.1,(openGood q aK).2.2.1))
  (rc:∀w:World,(λos=>(go w os).map λs=>(openSeen q aK (importedModules p.main.body) Xt g0 s.abs).2.2.2)=λ_=>some (openGood q aK).2.2.2)
  (objs:∀w:World,(λos=>(go w os).map YT)=λ_=>some (Ya w)):LeftO p q aK Xt Yf Ya N g0:=by
 refine AO hY e hN f size hgo λw=>funext λos=>?_
 obtain⟨s1,a1,b1⟩:=zS.mp (congrFun (ra w) os);obtain⟨s2,a2,b2⟩:=zS.mp (congrFun (rb w) os);obtain⟨s3,a3,b3⟩:=zS.mp (congrFun (rc w) os);obtain⟨s4,a4,b4⟩:=zS.mp (congrFun (objs w) os);rw[a1] at a2 a3 a4;cases a2;cases a3;cases a4;obtain⟨l1,l2⟩:=Prod.mk.inj b1;obtain⟨l3,l4⟩:=Prod.mk.inj b2;have l5:openSeen q aK (importedModules p.main.body) Xt g0 s1.abs=openGood q aK:=Prod.ext l2 (Prod.ext l3 (Prod.ext l4 b3));rw[a1];show some (JE p w s1,openSeen q aK (importedModules p.main.body) Xt g0 s1.abs,YT s1)=some (true,openGood q aK,Ya w);rw[l1,l5,b4]
def frc {α:Type}:BT->(BT->α)->α
 | .nil,k=>k .nil
 | .node o l r,k=>frc l λl'=>frc r λr'=>k (.node o l' r')
theorem IL:∀(t:BT)(k:BT->α),frc t k=k t
 | .nil,_=>rfl
 | .node o l r,k=>by
  show frc l (λl'=>frc r λr'=>k (.node o l' r'))=_;rw[IL l,IL r]
def odB:List Obj->List Obj
 | x::_::r=>x::odB r
 | l=>l
def evB:List Obj->List Obj
 | _::y::r=>y::evB r
 | _=>[]
def mkB:Nat->List Obj->BT
 | d+1,o::l=>.node o (mkB d (odB l)) (mkB d (evB l))
 | _,_=>.nil
abbrev tpO (l:List Value):Obj:=⟨.type "tuple",none,.seq ⟨l⟩ 0,#[]⟩
abbrev fdO (l:List Value):Obj:=⟨.none,none,.fields ⟨l⟩,#[]⟩
def nmO:Nat->List Str->List Value
 | _,[]=>[]
 | t,x::r=>.str x t::nmO (t+1) r
abbrev coO (n q:Str)(t j:Nat)(i k:Int)(a s:Nat)(y z:Value)(f:Nat):Obj:=⟨.type "code",none,.fields #[.str n t,.str q (t+1),.str "/claim/cut.py" (t+2),.int i 0,.int k 0,.int 0 0,.int 0 0,.int 3 0,.ref a,.bool Bool.true,.int 181 0,.ref s,.none,y,z,.ref f,.int j 0,.int i 0,.str "/claim/cut.py" (j+1)],#[]⟩
abbrev fuO (n q:Str)(st:Stmt)(m d:Value):Obj:=⟨.type "function",none,.func (PySem.W.fnOf n q (L2.Va st) (L2.Wz st) (L2.Zo st) .none .none .none m none d .none),#[]⟩
abbrev fnO (n q:Str)(st:Stmt):Obj:=⟨.none,none,.func { PySem.W.fnOf n q (L2.Va st) (L2.Wz st) (L2.Zo st) .none .none .none .none none .none .none with globals:=0 },#[]⟩
def df (n q:Str)(st:Stmt)(m:Value)(i k:Int)(a t:Nat)(vs:List Str):List Obj:=[tpO [],fdO [],tpO (nmO (t+3) vs),tpO [],fnO n q st,coO n q t (t+3+vs.length) i k a (a+1) (.ref (a+2)) (.ref (a+3)) (a+4),fuO n q st m (.ref (a+5))]
def dg (n q:Str)(st:Stmt)(m:Value)(i k:Int)(a t:Nat):List Obj:=[tpO [],fdO [],fnO n q st,coO n q t (t+3) i k a (a+1) .none .none (a+2),fuO n q st m (.ref (a+3))]
end L3
namespace Mine
open PySem PySem.Spec PyProof.Rows L2 L3
def top (i:Nat):Stmt:=QW.main.body.getD i (.Pass ⟨0,0,0,0⟩)
theorem ws_eq:PySem.W.OpenLaw.wellSaid PySem.Challenge.rw_boxnarrow_k67_whole_forged_ones=true:=by
 unfold PySem.W.OpenLaw.wellSaid
 repeat' (with_reducible refine PySem.W.look_both ?_ ?_)
 all_goals decide +kernel
def vw:Program:={ QW with main:={ QW.main with body:=[top 0,top 2,top 3,top 5,top 6,top 8,top 9,top 10,top 11,top 12,top 13,top 14,top 15,top 16,top 17,top 19,top 20,top 21,top 22,top 23,top 24,top 25,top 26,top 27,top 29,top 30,top 32,top 33,top 34,top 35,top 36,top 37,top 38,top 39,top 40,top 41,top 43,top 45,top 46,top 47,top 48,top 49,top 50,top 51,top 52,top 53,top 54,top 55,top 56,top 57,top 58,top 59,top 61,top 62,top 63,top 64,top 65,top 66,top 67,top 68,top 69,top 70,top 71,top 72,top 73,top 74,top 75,top 76,top 77,top 78,top 79,top 80,top 81,top 82,top 83,top 84,top 85,top 86,top 87,top 88,top 89,top 90,top 91,top 92,top 93,top 94] } }
noncomputable abbrev de (P:Params)(s:Str)(t:Tok)(v:Value):DictEntry:=⟨PySem.PyData.keyHash P s,.str s t,v⟩
abbrev co (n q:Str)(a b c d:Tok)(i k:Int)(r s:Addr)(y z:Value)(t:Addr)(j:Int):Obj:=⟨.type "code",none,.fields #[.str n a,.str q b,.str "/claim/cut.py" c,.int i 0,.int k 0,.int 0 0,.int 0 0,.int 3 0,.ref r,.bool Bool.true,.int 181 0,.ref s,.none,y,z,.ref t,.int j 0,.int i 0,.str "/claim/cut.py" d],#[]⟩
abbrev fo (n q:Str)(st:Stmt)(m:Value)(c:Addr):Obj:=⟨.type "function",none,.func (PySem.W.fnOf n q (Va st) (Wz st) (Zo st) .none .none .none m none (.ref c) .none),#[]⟩
abbrev q0:Str:="boxnarrow.kinds"
abbrev q1:Str:="law_boxnarrow_k67_whole_forged_ones"
abbrev q2:Str:="__static_attributes__"
abbrev q3:Str:="__init__"
abbrev q4:Str:="slope_of_both"
abbrev q5:Str:="__firstlineno__"
abbrev q6:Str:="forth"
abbrev q7:Str:="_law_grid_here"
abbrev q8:Str:="slope"
abbrev q9:Str:="__module__"
abbrev q10:Str:="boxnarrow.spans"
abbrev q11:Str:="spans"
abbrev q12:String:="object.__init_subclass__"
abbrev q13:Str:="_law_script"
abbrev q14:String:="object.__new__"
abbrev q15:Str:="_law_cell_here"
abbrev q16:Str:="sum_of_products"
abbrev q17:Str:="take_spans"
abbrev q18:Str:="Pair.__init__"
abbrev q19:Str:="box_of_middles"
abbrev q20:Str:="equation_places"
abbrev q21:Str:="leasts_are_sure"
abbrev q22:Str:="add_spans"
abbrev q23:Str:="rounded_up"
abbrev q24:Str:="boxnarrow.looker"
abbrev q25:Str:="_law_product"
abbrev q26:Str:="mul_spans"
abbrev q27:Str:="raise_span"
abbrev q28:Str:="_law_nodes"
abbrev q29:Str:="__doc__"
abbrev q30:Str:="all_as_long"
abbrev q31:Str:="right_for_all"
abbrev q32:Str:="is_whole_tree"
abbrev q33:Str:="_law_lowest"
abbrev q34:Str:="_law_any_room"
abbrev q35:Str:="scale_span"
abbrev q36:Str:="_law_cell"
abbrev q37:Str:="right_slopes"
abbrev q38:Str:="_law_raised"
abbrev q39:Str:="_law_factors"
abbrev q40:Str:="_law_claimed"
abbrev q41:Str:="_law_inverse"
abbrev q42:Str:="all_inside"
abbrev q43:Str:="Pair.slope"
abbrev q44:String:="type.__prepare__"
abbrev q45:String:="object"
abbrev q46:Str:="boxnarrow.alone"
abbrev q47:Str:="right_spans"
abbrev q48:Str:="right_entry"
abbrev q49:Str:="_law_number"
abbrev q50:Str:="_law_factor"
abbrev q51:Str:="_law_sloped"
abbrev q52:Str:="_law_copied"
abbrev q53:Str:="exact"
abbrev q54:Str:="_law_free"
abbrev q55:Str:="_law_plus"
abbrev q56:Str:="_law_less"
abbrev q57:Str:="right_near"
abbrev q58:Str:="right_book"
abbrev q59:Str:="_law_often"
abbrev q60:Str:="_law_forth"
abbrev q61:Str:="_law_slope"
abbrev q62:Str:="_law_point"
abbrev q63:Str:="second_left"
abbrev q64:Str:="_law_more"
abbrev q65:Str:="_law_wide"
abbrev q66:Str:="slants"
abbrev q67:Str:="Minus.slope_of_both"
abbrev q68:Str:="Times.slope_of_both"
abbrev q69:Str:="span_of"
abbrev q70:Str:="boxnarrow.errors"
abbrev q71:Str:="first_left"
abbrev q72:Str:="is_square"
abbrev q73:Str:="right_one"
abbrev q74:Str:="_law_grow"
abbrev q75:Str:="_law_grid"
abbrev q76:Str:="_law_side"
abbrev q77:Str:="_law_step"
abbrev q78:Str:="_law_turn"
abbrev q79:Str:="_law_nine"
abbrev q80:Str:="_law_rows"
abbrev q81:Str:="_law_shut"
abbrev q82:Str:="Plus.slope_of_both"
abbrev q83:Str:="__qualname__"
abbrev q84:Str:="_law_at"
abbrev q85:Str:="_law_made"
abbrev q86:Str:="all_deep"
abbrev q87:Str:="parts_of"
abbrev q88:Str:="_law_any"
abbrev q89:Str:="_law_put"
abbrev q90:Str:="_law_sum"
abbrev q91:Str:="unknowns"
abbrev q92:Str:="_law_box"
abbrev q93:Str:="raised"
abbrev q94:Str:="inside"
abbrev q95:Str:="middle"
abbrev q96:Str:="kind_of"
abbrev q97:Str:="Unknown.__init__"
abbrev q98:Str:="range"
abbrev q99:String:="object.__setattr__"
abbrev Uk:Str:="Number.__init__"
abbrev XS:Str:="middles"
abbrev XT:Str:="lacking"
abbrev XG:Str:="span_by"
abbrev XM:Str:="step_by"
abbrev Uq:Str:="Power.__init__"
abbrev Xy:Str:="_law_a"
abbrev Uj:Str:="Unknown.forth"
abbrev VR:Str:="Unknown.slope"
abbrev XJ:Str:="picked"
abbrev XE:Str:="_law_k"
abbrev VZ:Str:="Number.forth"
abbrev Uw:Str:="Number.slope"
abbrev Vo:Str:="_law_spans"
abbrev V5:Str:="Minus.forth"
abbrev VW:Str:="Times.forth"
abbrev V4:Str:="Power.forth"
abbrev V7:Str:="Power.slope"
abbrev VI:Str:="_law_node"
abbrev VL:Str:="_law_many"
abbrev VP:String:="ValueError"
abbrev OL:Str:="boxnarrow.fractions"
abbrev VY:Str:="Plus.forth"
abbrev Wd:Str:="other"
abbrev Uo:Str:="_law_other"
abbrev TK:Str:="_law_at_here"
abbrev X9:Str:="nodes"
abbrev O6:String:="ValueError.__new__"
abbrev RS:Str:="_law_turn_here"
abbrev Ts:Str:="__weakref__"
abbrev To:Str:="__setattr__"
abbrev VM:Str:="Unknown"
abbrev W8:Str:="bottom"
abbrev Se:Str:="_law_parts"
abbrev V6:Str:="BoxError"
abbrev Ui:Str:="_law_ats"
abbrev Px:Str:="_law_point_here"
abbrev VH:Str:="Number"
abbrev MK:String:="BaseException"
abbrev R1:Str:="_law_heavy"
abbrev q140:String:="getset_descriptor"
abbrev RB:Str:="_law_size"
abbrev r (n:Addr):Value:=.ref n
abbrev sr (n:Addr):Option Value:=some (.ref n)
noncomputable abbrev dr (P:Params)(s:Str)(t:Tok)(n:Addr):DictEntry:=de P s t (.ref n)
noncomputable abbrev dn (P:Params)(s:Str)(t:Tok):DictEntry:=de P s t .none
abbrev dO (l:Array DictEntry)(n:Nat):Obj:=.mk (.type "dict") none (.dict l n) #[]
abbrev bO (s:String)(v:Value):Obj:=.mk (.type "builtin_function_or_method") none (.fields #[.builtin s,v]) #[]
abbrev cO (a:Str)(t1:Tok)(b:Str)(t2 t3:Tok)(l:Int)(x:Addr)(m:Int)(y:Addr)(k l2:Int)(t4:Tok):Obj:=.mk (.type "code") none (.fields #[.str a t1,.str b t2,.str "/claim/cut.py" t3,.int l 0,.int 0 0,.int 0 0,.int 0 0,.int 0 0,.ref x,.bool Bool.false,.int m 0,.ref y,.none,.none,.none,.none,.int k 0,.int l2 0,.str "/claim/cut.py" t4]) #[]
abbrev gO (a b c:Addr)(s:Value)(d:Addr):Obj:=.mk (.type "frame") none .plain #[some (.ref a),some (.ref b),some (.ref c),none,some s,none,some (.ref d)]
abbrev cp (n q:Str)(t:Tok)(i k:Int)(a:Addr)(j:Tok):Obj:=co n q t (t+1) (t+2) (j+1) i k a (a+1) (.ref (a+2)) (.ref (a+3)) (a+4) j
abbrev fp (n q:Str)(k:Nat)(m:Str)(t:Tok)(c:Addr):Obj:=fo n q (top k) (.str m t) c
abbrev fq (l:List (Int×Addr))(c:Int):Obj:=fdO (l.flatMap λx=>[.int x.1 0,.int c 0,.ref x.2])
abbrev tyO (nw:String)(n:Str)(bs ms:List Value)(d:Addr)(ss:List Value)(b:Addr)(t1 t2:Tok):Obj:=.mk (.type "type") none (.cls (PySem.ClassData.mk n bs ms d n Bool.true [] ss Bool.false none Bool.false)) #[some (.ref b),none,some (.str n t1),some (.str n t2),some (.builtin nw),some (.bool Bool.true)]
abbrev uO (a:Addr):Obj:=.mk (.type "super") none (.fields #[.ref a,.ref a,.ref a]) #[]
noncomputable def kp:Params->PySem.W.Frag:=λP=>
 (nat_lit 3,(dO #[(de P "__name__" 165 (.str q1 1039)),(dn P q29 166),(dn P "__package__" 167),(de P "__loader__" 168 (.builtin "__main__.__loader__#opaque")),(dn P "__spec__" 169),(dr P "__annotations__" 170 6),(dr P "__builtins__" 171 4),(de P "__file__" 173 (.str "/claim/cut.py" 172)),(dn P "__cached__" 174),(dr P "_wall" 193 21),(dr P V6 213 31),(dr P "NoSpan" 229 44),(dr P q93 241 53),(dr P "less" 249 60),(dr P q23 259 67),(dr P q69 268 74),(dr P q22 276 81),(dr P q17 284 88),(dr P q26 294 95),(dr P q27 300 100),(dr P q35 308 107),(dr P q94 316 114),(dr P "deep" 324 121),(dr P q95 331 128),(dr P "Node" 353 138),(dr P VH 421 187),(dr P VM 481 232),(dr P "Pair" 524 263),(dr P "Plus" 593 310),(dr P "Minus" 662 357),(dr P "Times" 731 404),(dr P "Power" 793 449),(dr P q96 800 458),(dr P "bars" 810 465),(dr P "sure" 818 472),(dr P q20 826 477),(dr P XJ 832 482),(dr P XS 838 487),(dr P q19 844 492),(dr P q16 856 499),(dr P XT 862 504),(dr P XG 868 509),(dr P XM 874 514),(dr P q21 880 519),(dr P q86 886 524),(dr P "with_span" 897 531),(dr P q42 905 536),(dr P q30 911 541),(dr P q72 919 548),(dr P q47 925 553),(dr P q37 931 558),(dr P q31 941 565),(dr P "right_out" 955 572),(dr P "right_full" 961 577),(dr P q57 975 584),(dr P q73 987 591),(dr P "right_cut" 1003 598),(dr P q87 1013 605),(dr P q32 1019 610),(dr P q48 1032 617),(dr P q58 1038 622),(dr P q54 1047 629),(dr P q36 1058 636),(dr P q88 1065 643),(dr P q33 1075 650),(dr P q49 1082 657),(dr P q89 1092 664),(dr P q74 1109 671),(dr P q75 1116 678),(dr P q76 1126 685),(dr P q59 1136 692),(dr P q55 1144 699),(dr P q56 1152 706),(dr P q25 1162 713),(dr P q38 1173 720),(dr P q60 1186 727),(dr P q50 1195 734),(dr P q61 1209 741),(dr P q62 1221 748),(dr P q84 1229 755),(dr P q39 1242 762),(dr P q90 1252 769),(dr P q64 1262 776),(dr P q65 1270 783),(dr P q40 1283 790),(dr P q51 1298 797),(dr P q41 1304 802),(dr P q77 1310 807),(dr P q78 1327 814),(dr P q79 1334 821),(dr P q34 1351 828),(dr P q52 1357 833),(dr P q80 1374 840),(dr P q81 1385 847),(dr P "law" 1391 852)] 95))::
 (nat_lit 30,(dO #[(de P q9 203 (.str q70 194)),(de P q5 207 (.int 5 206)),(dr P q2 208 29),(dr P Ts 210 32),(dn P q29 211)] 3))::
 (nat_lit 31,(tyO O6 V6 [(.type VP)] [(r 31),(.type VP),(.type "Exception"),(.type MK),(.type q45)] 30 [(r 44)] 22 196 204))::
 (nat_lit 43,(dO #[(de P q9 221 (.str q70 194)),(de P q5 225 (.int 7 224)),(dr P q2 226 42),(dn P q29 227)] 2))::
 (nat_lit 44,(tyO O6 "NoSpan" [(r 31)] [(r 44),(r 31),(.type VP),(.type "Exception"),(.type MK),(.type q45)] 43 [] 35 214 222))::
 (nat_lit 52,cp q93 q93 232 10 2 47 239)::
 (nat_lit 53,fp q93 q93 5 OL 230 52)::
 (nat_lit 59,cp "less" "less" 242 15 2 54 247)::
 (nat_lit 60,fp "less" "less" 6 OL 230 59)::
 (nat_lit 66,cp q23 q23 252 18 2 61 257)::
 (nat_lit 67,fp q23 q23 8 q10 250 66)::
 (nat_lit 73,cp q69 q69 260 20 3 68 266)::
 (nat_lit 74,fp q69 q69 9 q10 250 73)::
 (nat_lit 80,cp q22 q22 269 24 2 75 274)::
 (nat_lit 81,fp q22 q22 10 q10 250 80)::
 (nat_lit 87,cp q17 q17 277 26 2 82 282)::
 (nat_lit 88,fp q17 q17 11 q10 250 87)::
 (nat_lit 94,cp q26 q26 285 28 3 89 292)::
 (nat_lit 95,fp q26 q26 12 q10 250 94)::
 (nat_lit 99,co q27 q27 295 296 297 299 31 3 96 97 .none .none 98 298)::
 (nat_lit 100,fp q27 q27 13 q10 250 99)::
 (nat_lit 106,cp q35 q35 301 38 2 101 306)::
 (nat_lit 107,fp q35 q35 14 q10 250 106)::
 (nat_lit 113,cp q94 q94 309 40 2 108 314)::
 (nat_lit 114,fp q94 q94 15 q10 250 113)::
 (nat_lit 120,cp "deep" "deep" 317 42 2 115 322)::
 (nat_lit 121,fp "deep" "deep" 16 q10 250 120)::
 (nat_lit 127,cp q95 q95 325 44 1 122 329)::
 (nat_lit 128,fp q95 q95 17 q10 250 127)::
 (nat_lit 137,(dO #[(de P q9 341 (.str q0 332)),(de P q5 345 (.int 47 344)),(dr P q2 346 136),(dr P "__dict__" 348 139),(dr P Ts 350 140),(dn P q29 351)] 4))::
 (nat_lit 138,(.mk (.type "type") none (.cls (PySem.ClassData.mk "Node" [(.type q45)] [(r 138),(.type q45)] 137 "Node" Bool.true [] [(r 187),(r 232),(r 263),(r 449)] Bool.false none Bool.false)) #[none,none,(some (.str "Node" 334)),(some (.str "Node" 342)),(some (.builtin q14)),(some (.bool Bool.true))]))::
 (nat_lit 155,cp q3 Uk 366 51 3 150 372)::
 (nat_lit 156,fo q3 Uk (ZK (top 20) 0) (.str q0 332) 155)::
 (nat_lit 169,cp q6 VZ 384 58 4 164 392)::
 (nat_lit 170,fo q6 VZ (ZK (top 20) 2) (.str q0 332) 169)::
 (nat_lit 183,cp q8 Uw 405 65 5 178 413)::
 (nat_lit 184,fo q8 Uw (ZK (top 20) 4) (.str q0 332) 183)::
 (nat_lit 186,(dO #[(de P q9 361 (.str q0 332)),(de P q5 365 (.int 49 364)),(dr P q3 374 156),(dr P q53 383 163),(dr P q6 394 170),(dr P "back" 404 177),(dr P q8 415 184),(dr P q2 418 185),(dn P q29 419)] 2))::
 (nat_lit 187,(tyO q14 VH [(r 138)] [(r 187),(r 138),(.type q45)] 186 [] 143 354 362))::
 (nat_lit 202,cp q3 q97 434 69 2 197 439)::
 (nat_lit 203,fo q3 q97 (ZK (top 21) 0) (.str q0 332) 202)::
 (nat_lit 216,cp q6 Uj 451 75 4 211 458)::
 (nat_lit 217,fo q6 Uj (ZK (top 21) 2) (.str q0 332) 216)::
 (nat_lit 228,co q8 VR 471 472 473 475 81 5 225 226 .none .none 227 474)::
 (nat_lit 229,fo q8 VR (ZK (top 21) 4) (.str q0 332) 228)::
 (nat_lit 231,(dO #[(de P q9 429 (.str q0 332)),(de P q5 433 (.int 67 432)),(dr P q3 441 203),(dr P q53 450 210),(dr P q6 460 217),(dr P "back" 470 224),(dr P q8 476 229),(dr P q2 478 230),(dn P q29 479)] 2))::
 (nat_lit 232,(tyO q14 VM [(r 138)] [(r 232),(r 138),(.type q45)] 231 [] 190 422 430))::
 (nat_lit 247,cp q3 q18 494 85 3 242 500)::
 (nat_lit 248,fo q3 q18 (ZK (top 22) 0) (.str q0 332) 247)::
 (nat_lit 259,co q8 q43 513 514 515 517 92 5 256 257 .none .none 258 516)::
 (nat_lit 260,fo q8 q43 (ZK (top 22) 2) (.str q0 332) 259)::
 (nat_lit 262,(dO #[(de P q9 489 (.str q0 332)),(de P q5 493 (.int 83 492)),(dr P q3 502 248),(dr P "back" 512 255),(dr P q8 518 260),(dr P q2 521 261),(dn P q29 522)] 2))::
 (nat_lit 263,(tyO q14 "Pair" [(r 138)] [(r 263),(r 138),(.type q45)] 262 [(r 310),(r 357),(r 404)] 235 482 490))::
 (nat_lit 285,cp q6 VY 546 101 4 280 553)::
 (nat_lit 286,fo q6 VY (ZK (top 23) 1) (.str q0 332) 285)::
 (nat_lit 306,cp q4 q82 578 110 6 301 587)::
 (nat_lit 307,fo q4 q82 (ZK (top 23) 4) (.str q0 332) 306)::
 (nat_lit 309,(dO #[(de P q9 532 (.str q0 332)),(de P q5 536 (.int 96 535)),(dr P q53 545 279),(dr P q6 555 286),(dr P q71 566 293),(dr P q63 577 300),(dr P q4 589 307),(dr P q2 590 308),(dn P q29 591)] 2))::
 (nat_lit 310,(tyO q14 "Plus" [(r 263)] [(r 310),(r 263),(r 138),(.type q45)] 309 [] 266 525 533))::
 (nat_lit 332,cp q6 V5 615 117 4 327 622)::
 (nat_lit 333,fo q6 V5 (ZK (top 24) 1) (.str q0 332) 332)::
 (nat_lit 353,cp q4 q67 647 126 6 348 656)::
 (nat_lit 354,fo q4 q67 (ZK (top 24) 4) (.str q0 332) 353)::
 (nat_lit 356,(dO #[(de P q9 601 (.str q0 332)),(de P q5 605 (.int 112 604)),(dr P q53 614 326),(dr P q6 624 333),(dr P q71 635 340),(dr P q63 646 347),(dr P q4 658 354),(dr P q2 659 355),(dn P q29 660)] 2))::
 (nat_lit 357,(tyO q14 "Minus" [(r 263)] [(r 357),(r 263),(r 138),(.type q45)] 356 [] 313 594 602))::
 (nat_lit 379,cp q6 VW 684 133 4 374 691)::
 (nat_lit 380,fo q6 VW (ZK (top 25) 1) (.str q0 332) 379)::
 (nat_lit 400,cp q4 q68 716 142 6 395 725)::
 (nat_lit 401,fo q4 q68 (ZK (top 25) 4) (.str q0 332) 400)::
 (nat_lit 403,(dO #[(de P q9 670 (.str q0 332)),(de P q5 674 (.int 128 673)),(dr P q53 683 373),(dr P q6 693 380),(dr P q71 704 387),(dr P q63 715 394),(dr P q4 727 401),(dr P q2 728 402),(dn P q29 729)] 2))::
 (nat_lit 404,(tyO q14 "Times" [(r 263)] [(r 404),(r 263),(r 138),(.type q45)] 403 [] 360 663 671))::
 (nat_lit 419,cp q3 Uq 744 146 3 414 750)::
 (nat_lit 420,fo q3 Uq (ZK (top 26) 0) (.str q0 332) 419)::
 (nat_lit 433,cp q6 V4 762 153 4 428 769)::
 (nat_lit 434,fo q6 V4 (ZK (top 26) 2) (.str q0 332) 433)::
 (nat_lit 445,co q8 V7 782 783 784 786 159 5 442 443 .none .none 444 785)::
 (nat_lit 446,fo q8 V7 (ZK (top 26) 4) (.str q0 332) 445)::
 (nat_lit 448,(dO #[(de P q9 739 (.str q0 332)),(de P q5 743 (.int 144 742)),(dr P q3 752 420),(dr P q53 761 427),(dr P q6 771 434),(dr P "back" 781 441),(dr P q8 787 446),(dr P q2 790 447),(dn P q29 791)] 2))::
 (nat_lit 449,(tyO q14 "Power" [(r 138)] [(r 449),(r 138),(.type q45)] 448 [] 407 732 740))::
 (nat_lit 457,cp q96 q96 794 163 1 452 798)::
 (nat_lit 458,fp q96 q96 27 q0 332 457)::
 (nat_lit 471,cp "sure" "sure" 811 180 2 466 816)::
 (nat_lit 472,fp "sure" "sure" 30 "boxnarrow.worths" 801 471)::
 (nat_lit 476,co q20 q20 821 822 823 825 185 1 473 474 .none .none 475 824)::
 (nat_lit 477,fp q20 q20 32 q46 819 476)::
 (nat_lit 481,co XJ XJ 827 828 829 831 187 2 478 479 .none .none 480 830)::
 (nat_lit 482,fp XJ XJ 33 q46 819 481)::
 (nat_lit 486,co XS XS 833 834 835 837 189 1 483 484 .none .none 485 836)::
 (nat_lit 487,fp XS XS 34 q46 819 486)::
 (nat_lit 491,co q19 q19 839 840 841 843 191 1 488 489 .none .none 490 842)::
 (nat_lit 492,fp q19 q19 35 q46 819 491)::
 (nat_lit 498,cp q16 q16 845 193 3 493 854)::
 (nat_lit 499,fp q16 q16 36 q46 819 498)::
 (nat_lit 503,co XT XT 857 858 859 861 198 5 500 501 .none .none 502 860)::
 (nat_lit 504,fp XT XT 37 q46 819 503)::
 (nat_lit 508,co XG XG 863 864 865 867 202 6 505 506 .none .none 507 866)::
 (nat_lit 509,fp XG XG 38 q46 819 508)::
 (nat_lit 513,co XM XM 869 870 871 873 209 5 510 511 .none .none 512 872)::
 (nat_lit 514,fp XM XM 39 q46 819 513)::
 (nat_lit 518,co q21 q21 875 876 877 879 211 2 515 516 .none .none 517 878)::
 (nat_lit 519,fp q21 q21 40 q46 819 518)::
 (nat_lit 523,co q86 q86 881 882 883 885 213 2 520 521 .none .none 522 884)::
 (nat_lit 524,fp q86 q86 41 q46 819 523)::
 (nat_lit 535,co q42 q42 900 901 902 904 219 2 532 533 .none .none 534 903)::
 (nat_lit 536,fp q42 q42 45 q24 898 535)::
 (nat_lit 540,co q30 q30 906 907 908 910 221 2 537 538 .none .none 539 909)::
 (nat_lit 541,fp q30 q30 46 q24 898 540)::
 (nat_lit 547,cp q72 q72 912 223 2 542 917)::
 (nat_lit 548,fp q72 q72 47 q24 898 547)::
 (nat_lit 552,co q47 q47 920 921 922 924 225 4 549 550 .none .none 551 923)::
 (nat_lit 553,fp q47 q47 48 q24 898 552)::
 (nat_lit 557,co q37 q37 926 927 928 930 229 5 554 555 .none .none 556 929)::
 (nat_lit 558,fp q37 q37 49 q24 898 557)::
 (nat_lit 564,cp q31 q31 932 234 4 559 939)::
 (nat_lit 565,fp q31 q31 50 q24 898 564)::
 (nat_lit 583,cp q57 q57 962 246 4 578 973)::
 (nat_lit 584,fp q57 q57 53 q24 898 583)::
 (nat_lit 590,cp q73 q73 976 254 5 585 985)::
 (nat_lit 591,fp q73 q73 54 q24 898 590)::
 (nat_lit 604,cp q87 q87 1004 273 1 599 1011)::
 (nat_lit 605,fp q87 q87 56 q24 898 604)::
 (nat_lit 609,co q32 q32 1014 1015 1016 1018 281 2 606 607 .none .none 608 1017)::
 (nat_lit 610,fp q32 q32 57 q24 898 609)::
 (nat_lit 616,cp q48 q48 1020 285 5 611 1030)::
 (nat_lit 617,fp q48 q48 58 q24 898 616)::
 (nat_lit 621,co q58 q58 1033 1034 1035 1037 297 5 618 619 .none .none 620 1036)::
 (nat_lit 622,fp q58 q58 59 q24 898 621)::
 (nat_lit 628,cp q54 q54 1041 302 1 623 1045)::
 (nat_lit 629,fp q54 q54 61 q1 1039 628)::
 (nat_lit 635,cp q36 q36 1048 304 2 630 1056)::
 (nat_lit 636,fp q36 q36 62 q1 1039 635)::
 (nat_lit 642,cp q88 q88 1059 317 1 637 1063)::
 (nat_lit 643,fp q88 q88 63 q1 1039 642)::
 (nat_lit 649,cp q33 q33 1066 319 2 644 1073)::
 (nat_lit 650,fp q33 q33 64 q1 1039 649)::
 (nat_lit 656,cp q49 q49 1076 325 1 651 1080)::
 (nat_lit 657,fp q49 q49 65 q1 1039 656)::
 (nat_lit 663,cp q89 q89 1083 331 4 658 1090)::
 (nat_lit 664,fp q89 q89 66 q1 1039 663)::
 (nat_lit 670,cp q74 q74 1093 337 5 665 1107)::
 (nat_lit 671,fp q74 q74 67 q1 1039 670)::
 (nat_lit 677,cp q75 q75 1110 353 1 672 1114)::
 (nat_lit 678,fp q75 q75 68 q1 1039 677)::
 (nat_lit 684,cp q76 q76 1117 359 2 679 1124)::
 (nat_lit 685,fp q76 q76 69 q1 1039 684)::
 (nat_lit 691,cp q59 q59 1127 369 2 686 1134)::
 (nat_lit 692,fp q59 q59 70 q1 1039 691)::
 (nat_lit 698,cp q55 q55 1137 374 2 693 1142)::
 (nat_lit 699,fp q55 q55 71 q1 1039 698)::
 (nat_lit 705,cp q56 q56 1145 376 2 700 1150)::
 (nat_lit 706,fp q56 q56 72 q1 1039 705)::
 (nat_lit 712,cp q25 q25 1153 378 3 707 1160)::
 (nat_lit 713,fp q25 q25 73 q1 1039 712)::
 (nat_lit 719,cp q38 q38 1163 381 3 714 1171)::
 (nat_lit 720,fp q38 q38 74 q1 1039 719)::
 (nat_lit 726,cp q60 q60 1174 387 4 721 1184)::
 (nat_lit 727,fp q60 q60 75 q1 1039 726)::
 (nat_lit 733,cp q50 q50 1187 402 3 728 1193)::
 (nat_lit 734,fp q50 q50 76 q1 1039 733)::
 (nat_lit 740,cp q61 q61 1196 406 5 735 1207)::
 (nat_lit 741,fp q61 q61 77 q1 1039 740)::
 (nat_lit 747,cp q62 q62 1210 421 4 742 1219)::
 (nat_lit 748,fp q62 q62 78 q1 1039 747)::
 (nat_lit 754,cp q84 q84 1222 426 2 749 1227)::
 (nat_lit 755,fp q84 q84 79 q1 1039 754)::
 (nat_lit 761,cp q39 q39 1230 430 3 756 1240)::
 (nat_lit 762,fp q39 q39 80 q1 1039 761)::
 (nat_lit 768,cp q90 q90 1243 437 2 763 1250)::
 (nat_lit 769,fp q90 q90 81 q1 1039 768)::
 (nat_lit 775,cp q64 q64 1253 442 3 770 1260)::
 (nat_lit 776,fp q64 q64 82 q1 1039 775)::
 (nat_lit 782,cp q65 q65 1263 450 2 777 1268)::
 (nat_lit 783,fp q65 q65 83 q1 1039 782)::
 (nat_lit 789,cp q40 q40 1271 452 5 784 1281)::
 (nat_lit 790,fp q40 q40 84 q1 1039 789)::
 (nat_lit 796,cp q51 q51 1284 457 5 791 1296)::
 (nat_lit 797,fp q51 q51 85 q1 1039 796)::
 (nat_lit 801,co q41 q41 1299 1300 1301 1303 465 3 798 799 .none .none 800 1302)::
 (nat_lit 802,fp q41 q41 86 q1 1039 801)::
 (nat_lit 806,co q77 q77 1305 1306 1307 1309 480 6 803 804 .none .none 805 1308)::
 (nat_lit 807,fp q77 q77 87 q1 1039 806)::
 (nat_lit 813,cp q78 q78 1311 494 5 808 1325)::
 (nat_lit 814,fp q78 q78 88 q1 1039 813)::
 (nat_lit 820,cp q79 q79 1328 508 1 815 1332)::
 (nat_lit 821,fp q79 q79 89 q1 1039 820)::
 (nat_lit 827,cp q34 q34 1335 510 3 822 1349)::
 (nat_lit 828,fp q34 q34 90 q1 1039 827)::
 (nat_lit 832,co q52 q52 1352 1353 1354 1356 525 1 829 830 .none .none 831 1355)::
 (nat_lit 833,fp q52 q52 91 q1 1039 832)::
 (nat_lit 839,cp q80 q80 1358 536 4 834 1372)::
 (nat_lit 840,fp q80 q80 92 q1 1039 839)::
 (nat_lit 846,cp q81 q81 1375 549 2 841 1383)::
 (nat_lit 847,fp q81 q81 93 q1 1039 846)::
 (nat_lit 851,co "law" "law" 1386 1387 1388 1390 555 1 848 849 .none .none 850 1389)::
 (nat_lit 852,fp "law" "law" 94 q1 1039 851)::[]
def ks:List Addr:=nat_lit 3::nat_lit 30::nat_lit 31::nat_lit 43::nat_lit 44::nat_lit 52::nat_lit 53::nat_lit 59::nat_lit 60::nat_lit 66::nat_lit 67::nat_lit 73::nat_lit 74::nat_lit 80::nat_lit 81::nat_lit 87::nat_lit 88::nat_lit 94::nat_lit 95::nat_lit 99::nat_lit 100::nat_lit 106::nat_lit 107::nat_lit 113::nat_lit 114::nat_lit 120::nat_lit 121::nat_lit 127::nat_lit 128::nat_lit 137::nat_lit 138::nat_lit 155::nat_lit 156::nat_lit 169::nat_lit 170::nat_lit 183::nat_lit 184::nat_lit 186::nat_lit 187::nat_lit 202::nat_lit 203::nat_lit 216::nat_lit 217::nat_lit 228::nat_lit 229::nat_lit 231::nat_lit 232::nat_lit 247::nat_lit 248::nat_lit 259::nat_lit 260::nat_lit 262::nat_lit 263::nat_lit 285::nat_lit 286::nat_lit 306::nat_lit 307::nat_lit 309::nat_lit 310::nat_lit 332::nat_lit 333::nat_lit 353::nat_lit 354::nat_lit 356::nat_lit 357::nat_lit 379::nat_lit 380::nat_lit 400::nat_lit 401::nat_lit 403::nat_lit 404::nat_lit 419::nat_lit 420::nat_lit 433::nat_lit 434::nat_lit 445::nat_lit 446::nat_lit 448::nat_lit 449::nat_lit 457::nat_lit 458::nat_lit 471::nat_lit 472::nat_lit 476::nat_lit 477::nat_lit 481::nat_lit 482::nat_lit 486::nat_lit 487::nat_lit 491::nat_lit 492::nat_lit 498::nat_lit 499::nat_lit 503::nat_lit 504::nat_lit 508::nat_lit 509::nat_lit 513::nat_lit 514::nat_lit 518::nat_lit 519::nat_lit 523::nat_lit 524::nat_lit 535::nat_lit 536::nat_lit 540::nat_lit 541::nat_lit 547::nat_lit 548::nat_lit 552::nat_lit 553::nat_lit 557::nat_lit 558::nat_lit 564::nat_lit 565::nat_lit 583::nat_lit 584::nat_lit 590::nat_lit 591::nat_lit 604::nat_lit 605::nat_lit 609::nat_lit 610::nat_lit 616::nat_lit 617::nat_lit 621::nat_lit 622::nat_lit 628::nat_lit 629::nat_lit 635::nat_lit 636::nat_lit 642::nat_lit 643::nat_lit 649::nat_lit 650::nat_lit 656::nat_lit 657::nat_lit 663::nat_lit 664::nat_lit 670::nat_lit 671::nat_lit 677::nat_lit 678::nat_lit 684::nat_lit 685::nat_lit 691::nat_lit 692::nat_lit 698::nat_lit 699::nat_lit 705::nat_lit 706::nat_lit 712::nat_lit 713::nat_lit 719::nat_lit 720::nat_lit 726::nat_lit 727::nat_lit 733::nat_lit 734::nat_lit 740::nat_lit 741::nat_lit 747::nat_lit 748::nat_lit 754::nat_lit 755::nat_lit 761::nat_lit 762::nat_lit 768::nat_lit 769::nat_lit 775::nat_lit 776::nat_lit 782::nat_lit 783::nat_lit 789::nat_lit 790::nat_lit 796::nat_lit 797::nat_lit 801::nat_lit 802::nat_lit 806::nat_lit 807::nat_lit 813::nat_lit 814::nat_lit 820::nat_lit 821::nat_lit 827::nat_lit 828::nat_lit 832::nat_lit 833::nat_lit 839::nat_lit 840::nat_lit 846::nat_lit 847::nat_lit 851::nat_lit 852::[]
theorem Tp (P:Params):ks=(kp P).map (·.1):=by kernel_rfl
noncomputable abbrev hk:PySem.W.Hook:=PySem.W.kHook kp ks Tp
abbrev xt (s:Shared):Bool:=PySem.W.xlAt vw [] s&&PySem.W.recOk (PySem.W.RowW.records (PySem.W.OpenRow.toRowW (PySem.W.OpenLaw.row PySem.Challenge.rw_boxnarrow_k67_whole_forged_ones))) s
theorem Hv:PySem.W.opening QW=PySem.W.plainProg QW.main.scope.names:=by kernel_rfl
theorem fe_eq (s:Shared):PySem.fenceModules? QW s=some s:=by kernel_rfl
theorem si_eq (w:World):((PySem.W.boot_heap w.params).isNs mainGlobals&&(Array.mk []:Array GenState).size==0,(PySem.W.boot_heap w.params).objs.size,(PySem.W.boot_heap w.params).nsMap mainGlobals "__annotations__")=(true,11,some (.ref 6)):=by kernel_rfl
open PySem.W PySem.Calls
def ev:Env:={ scope:=QW.main.scope,locals:=mainNs,globals:=mainNs,cells:=[],code:=.ref 13,frame:=some 14 }
abbrev bI:List Stmt:=behindTheImports QW
abbrev cE:Code:=Code.body bI ev
abbrev fT:List Frame:=[topFrame ⟨0,0,0,0⟩]
noncomputable abbrev mS (k:Nat)(l:Params->List Obj)(n t:Nat)(w:World)(os:OsState):SharedT:=⟨L3.mkB k (l w.params),n,(boot_heap w.params).life,Array.mk [],boot_drawn,t,os⟩
noncomputable def mO0 (P:Params):List Obj:=[boot_o_0 P,boot_o_1 P,boot_o_2 P,boot_o_3 P,boot_o_4 P,boot_o_5 P,boot_o_6 P,boot_o_7 P,boot_o_8 P,boot_o_9 P,boot_o_10 P]++[tpO [],fdO [],(cO "<module>" 182 "<module>" 183 184 1 11 181 12 185 1 186),(gO 13 3 3 (.str "__main__" 164) 0)]
noncomputable def S0:=mS 5 mO0 15 187
theorem zbq (w:World):(λos=>L3.goK treeTable QW w 11 (some (.ref 6)) 12 (L3.Qy w os) (topStub QW))=λos=>some (S0 w os,⟨denote treeTable cE,cE,⟨0,0,0,0⟩,fT⟩):=by kernel_rfl
theorem CZ (w:World):(λos=>segRunT treeTable QW w 11 (some (.ref 6)) 1 1 (S0 w os) (blockOf bI ev cE ⟨0,0,0,0⟩ fT))=λos=>some (.next,S0 w os,cE,⟨0,0,0,0⟩):=by kernel_rfl
noncomputable def mO1 (P:Params):List Obj:=[boot_o_0 P,boot_o_1 P,boot_o_2 P,(dO #[(de P "__name__" 165 (.str q0 332)),(dn P q29 166),(dn P "__package__" 167),(de P "__loader__" 168 (.builtin "__main__.__loader__#opaque")),(dn P "__spec__" 169),(dr P "__annotations__" 170 6),(dr P "__builtins__" 171 4),(de P "__file__" 173 (.str "/claim/cut.py" 172)),(dn P "__cached__" 174),(dr P "_wall" 193 21),(dr P V6 213 31),(dr P "NoSpan" 229 44),(dr P q93 241 53),(dr P "less" 249 60),(dr P q23 259 67),(dr P q69 268 74),(dr P q22 276 81),(dr P q17 284 88),(dr P q26 294 95),(dr P q27 300 100),(dr P q35 308 107),(dr P q94 316 114),(dr P "deep" 324 121),(dr P q95 331 128),(dr P "Node" 353 138),(dr P VH 421 187),(dr P VM 481 232),(dr P "Pair" 524 263),(dr P "Plus" 593 310),(dr P "Minus" 662 357),(dr P "Times" 731 404),(dr P "Power" 793 449)] 32),boot_o_4 P,boot_o_5 P,boot_o_6 P,boot_o_7 P,boot_o_8 P,boot_o_9 P,boot_o_10 P]++[tpO [],fq [(1,20),(5,27),(7,40),(10,52),(15,59),(18,66),(20,73),(24,80),(26,87),(28,94),(31,99),(38,106),(40,113),(42,120),(44,127),(47,134),(49,148),(67,195),(83,240),(96,271),(112,318),(128,365),(144,412)] 0,(cO "<module>" 182 "<module>" 183 184 1 11 181 12 185 1 186),(gO 13 3 3 (.str "__main__" 164) 0)]++
 df "_wall" "_wall" (top 0) (.str "__main__" 164) 1 1 15 187 ["k"]++
 [tpO [(.type VP)],(bO q44 (.type "type")),(dO #[(de P q9 203 (.str q70 194)),(de P q83 205 (.str V6 204)),(de P q5 207 (.int 5 206)),(dr P q2 208 29)] 4),tpO [],fdO [],(cO V6 198 V6 199 200 5 25 181 26 201 5 202),(gO 27 3 24 (.str q70 194) 0),tpO [],(dO #[(de P q9 203 (.str q70 194)),(de P q5 207 (.int 5 206)),(dr P q2 208 29),(dr P Ts 210 32),(dn P q29 211)] 3),(tyO O6 V6 [(.type VP)] [(r 31),(.type VP),(.type "Exception"),(.type MK),(.type q45)] 30 [(r 44)] 22 196 204),(.mk (.type q140) none (.fields #[(.str Ts 209),(r 31),(.builtin "ExceptionGroup.__weakref__"),.none]) #[]),(uO 31),(bO q12 (r 31)),tpO [(r 31)],(bO q44 (.type "type")),(dO #[(de P q9 221 (.str q70 194)),(de P q83 223 (.str "NoSpan" 222)),(de P q5 225 (.int 7 224)),(dr P q2 226 42)] 4),tpO [],fdO [],(cO "NoSpan" 216 "NoSpan" 217 218 7 38 181 39 219 7 220),(gO 40 3 37 (.str q70 194) 0),tpO [],(dO #[(de P q9 221 (.str q70 194)),(de P q5 225 (.int 7 224)),(dr P q2 226 42),(dn P q29 227)] 2),(tyO O6 "NoSpan" [(r 31)] [(r 44),(r 31),(.type VP),(.type "Exception"),(.type MK),(.type q45)] 43 [] 35 214 222),(uO 44),(bO q12 (r 44))]++
 df q93 q93 (top 5) (.str OL 230) 10 2 47 232 ["number","many","worth","step"]++
 df "less" "less" (top 6) (.str OL 230) 15 2 54 242 ["a","b"]++
 df q23 q23 (top 8) (.str q10 250) 18 2 61 252 ["top",W8]++
 df q69 q69 (top 9) (.str q10 250) 20 3 68 260 ["low","high","grid"]++
 df q22 q22 (top 10) (.str q10 250) 24 2 75 269 ["a","b"]++
 df q17 q17 (top 11) (.str q10 250) 26 2 82 277 ["a","b"]++
 df q26 q26 (top 12) (.str q10 250) 28 3 89 285 ["a","b","grid","products"]++
 dg q27 q27 (top 13) (.str q10 250) 31 3 96 295++
 df q35 q35 (top 14) (.str q10 250) 38 2 101 301 ["a","many"]++
 df q94 q94 (top 15) (.str q10 250) 40 2 108 309 ["a","b"]++
 df "deep" "deep" (top 16) (.str q10 250) 42 2 115 317 ["a","b"]++
 df q95 q95 (top 17) (.str q10 250) 44 1 122 325 ["a"]++
 [tpO [],(bO q44 (.type "type")),(dO #[(de P q9 341 (.str q0 332)),(de P q83 343 (.str "Node" 342)),(de P q5 345 (.int 47 344)),(dr P q2 346 136)] 4),tpO [],fdO [],(cO "Node" 336 "Node" 337 338 47 132 181 133 339 47 340),(gO 134 3 131 (.str q0 332) 0),tpO [],(dO #[(de P q9 341 (.str q0 332)),(de P q5 345 (.int 47 344)),(dr P q2 346 136),(dr P "__dict__" 348 139),(dr P Ts 350 140),(dn P q29 351)] 4),(.mk (.type "type") none (.cls (PySem.ClassData.mk "Node" [(.type q45)] [(r 138),(.type q45)] 137 "Node" Bool.true [] [(r 187),(r 232),(r 263),(r 449)] Bool.false none Bool.false)) #[none,none,(some (.str "Node" 334)),(some (.str "Node" 342)),(some (.builtin q14)),(some (.bool Bool.true))]),(.mk (.type q140) none (.fields #[(.str "__dict__" 347),(r 138),(.builtin "function.__dict__"),(.builtin "function.__dict__#set")]) #[]),(.mk (.type q140) none (.fields #[(.str Ts 349),(r 138),(.builtin "ExceptionGroup.__weakref__"),.none]) #[]),(uO 138),(bO q12 (r 138)),tpO [(r 138)],(bO q44 (.type "type")),(dO #[(de P q9 361 (.str q0 332)),(de P q83 363 (.str VH 362)),(de P q5 365 (.int 49 364)),(dr P q3 374 156),(dr P q53 383 163),(dr P q6 394 170),(dr P "back" 404 177),(dr P q8 415 184),(dr P q2 418 185)] 9),tpO [],fq [(51,155),(55,162),(58,169),(62,176),(65,183)] 4,(cO VH 356 VH 357 358 49 146 181 147 359 49 360),(gO 148 3 145 (.str q0 332) 0)]++
 df q3 Uk (ZK (top 20) 0) (.str q0 332) 51 3 150 366 ["self","top",W8]++
 df q53 "Number.exact" (ZK (top 20) 1) (.str q0 332) 55 3 157 375 ["self","worths","point"]++
 df q6 VZ (ZK (top 20) 2) (.str q0 332) 58 4 164 384 ["self",q11,"box","grid","number"]++
 df "back" "Number.back" (ZK (top 20) 3) (.str q0 332) 62 4 171 395 ["self",q11,"here","grid"]++
 df q8 Uw (ZK (top 20) 4) (.str q0 332) 65 5 178 405 ["self",q11,q66,q91,"grid"]++
 [tpO [(.str W8 416),(.str "top" 417)],(dO #[(de P q9 361 (.str q0 332)),(de P q5 365 (.int 49 364)),(dr P q3 374 156),(dr P q53 383 163),(dr P q6 394 170),(dr P "back" 404 177),(dr P q8 415 184),(dr P q2 418 185),(dn P q29 419)] 2),(tyO q14 VH [(r 138)] [(r 187),(r 138),(.type q45)] 186 [] 143 354 362),(uO 187),(bO q12 (r 187)),tpO [(r 138)],(bO q44 (.type "type")),(dO #[(de P q9 429 (.str q0 332)),(de P q83 431 (.str VM 430)),(de P q5 433 (.int 67 432)),(dr P q3 441 203),(dr P q53 450 210),(dr P q6 460 217),(dr P "back" 470 224),(dr P q8 476 229),(dr P q2 478 230)] 9),tpO [],fq [(69,202),(72,209),(75,216),(78,223),(81,228)] 4,(cO VM 424 VM 425 426 67 193 181 194 427 67 428),(gO 195 3 192 (.str q0 332) 0)]++
 df q3 q97 (ZK (top 21) 0) (.str q0 332) 69 2 197 434 ["self","place"]++
 df q53 "Unknown.exact" (ZK (top 21) 1) (.str q0 332) 72 3 204 442 ["self","worths","point"]++
 df q6 Uj (ZK (top 21) 2) (.str q0 332) 75 4 211 451 ["self",q11,"box","grid"]++
 df "back" "Unknown.back" (ZK (top 21) 3) (.str q0 332) 78 4 218 461 ["self",q11,"here","grid"]++
 dg q8 VR (ZK (top 21) 4) (.str q0 332) 81 5 225 471++
 [tpO [(.str "place" 477)],(dO #[(de P q9 429 (.str q0 332)),(de P q5 433 (.int 67 432)),(dr P q3 441 203),(dr P q53 450 210),(dr P q6 460 217),(dr P "back" 470 224),(dr P q8 476 229),(dr P q2 478 230),(dn P q29 479)] 2),(tyO q14 VM [(r 138)] [(r 232),(r 138),(.type q45)] 231 [] 190 422 430),(uO 232),(bO q12 (r 232)),tpO [(r 138)],(bO q44 (.type "type")),(dO #[(de P q9 489 (.str q0 332)),(de P q83 491 (.str "Pair" 490)),(de P q5 493 (.int 83 492)),(dr P q3 502 248),(dr P "back" 512 255),(dr P q8 518 260),(dr P q2 521 261)] 7),tpO [],fq [(85,247),(89,254),(92,259)] 4,(cO "Pair" 484 "Pair" 485 486 83 238 181 239 487 83 488),(gO 240 3 237 (.str q0 332) 0)]++
 df q3 q18 (ZK (top 22) 0) (.str q0 332) 85 3 242 494 ["self","one",Wd]++
 df "back" "Pair.back" (ZK (top 22) 1) (.str q0 332) 89 4 249 503 ["self",q11,"here","grid"]++
 dg q8 q43 (ZK (top 22) 2) (.str q0 332) 92 5 256 513++
 [tpO [(.str "one" 519),(.str Wd 520)],(dO #[(de P q9 489 (.str q0 332)),(de P q5 493 (.int 83 492)),(dr P q3 502 248),(dr P "back" 512 255),(dr P q8 518 260),(dr P q2 521 261),(dn P q29 522)] 2),(tyO q14 "Pair" [(r 138)] [(r 263),(r 138),(.type q45)] 262 [(r 310),(r 357),(r 404)] 235 482 490),(uO 263),(bO q12 (r 263)),tpO [(r 263)],(bO q44 (.type "type")),(dO #[(de P q9 532 (.str q0 332)),(de P q83 534 (.str "Plus" 533)),(de P q5 536 (.int 96 535)),(dr P q53 545 279),(dr P q6 555 286),(dr P q71 566 293),(dr P q63 577 300),(dr P q4 589 307),(dr P q2 590 308)] 9),tpO [],fq [(98,278),(101,285),(104,292),(107,299),(110,306)] 4,(cO "Plus" 527 "Plus" 528 529 96 269 181 270 530 96 531),(gO 271 3 268 (.str q0 332) 0)]++
 df q53 "Plus.exact" (ZK (top 23) 0) (.str q0 332) 98 3 273 537 ["self","worths","point"]++
 df q6 VY (ZK (top 23) 1) (.str q0 332) 101 4 280 546 ["self",q11,"box","grid"]++
 df q71 "Plus.first_left" (ZK (top 23) 2) (.str q0 332) 104 5 287 556 ["self","here","x","y","grid"]++
 df q63 "Plus.second_left" (ZK (top 23) 3) (.str q0 332) 107 5 294 567 ["self","here","x","y","grid"]++
 df q4 q82 (ZK (top 23) 4) (.str q0 332) 110 6 301 578 ["self","x","y","a","b","grid"]++
 [tpO [],(dO #[(de P q9 532 (.str q0 332)),(de P q5 536 (.int 96 535)),(dr P q53 545 279),(dr P q6 555 286),(dr P q71 566 293),(dr P q63 577 300),(dr P q4 589 307),(dr P q2 590 308),(dn P q29 591)] 2),(tyO q14 "Plus" [(r 263)] [(r 310),(r 263),(r 138),(.type q45)] 309 [] 266 525 533),(uO 310),(bO q12 (r 310)),tpO [(r 263)],(bO q44 (.type "type")),(dO #[(de P q9 601 (.str q0 332)),(de P q83 603 (.str "Minus" 602)),(de P q5 605 (.int 112 604)),(dr P q53 614 326),(dr P q6 624 333),(dr P q71 635 340),(dr P q63 646 347),(dr P q4 658 354),(dr P q2 659 355)] 9),tpO [],fq [(114,325),(117,332),(120,339),(123,346),(126,353)] 4,(cO "Minus" 596 "Minus" 597 598 112 316 181 317 599 112 600),(gO 318 3 315 (.str q0 332) 0)]++
 df q53 "Minus.exact" (ZK (top 24) 0) (.str q0 332) 114 3 320 606 ["self","worths","point"]++
 df q6 V5 (ZK (top 24) 1) (.str q0 332) 117 4 327 615 ["self",q11,"box","grid"]++
 df q71 "Minus.first_left" (ZK (top 24) 2) (.str q0 332) 120 5 334 625 ["self","here","x","y","grid"]++
 df q63 "Minus.second_left" (ZK (top 24) 3) (.str q0 332) 123 5 341 636 ["self","here","x","y","grid"]++
 df q4 q67 (ZK (top 24) 4) (.str q0 332) 126 6 348 647 ["self","x","y","a","b","grid"]++
 [tpO [],(dO #[(de P q9 601 (.str q0 332)),(de P q5 605 (.int 112 604)),(dr P q53 614 326),(dr P q6 624 333),(dr P q71 635 340),(dr P q63 646 347),(dr P q4 658 354),(dr P q2 659 355),(dn P q29 660)] 2),(tyO q14 "Minus" [(r 263)] [(r 357),(r 263),(r 138),(.type q45)] 356 [] 313 594 602),(uO 357),(bO q12 (r 357)),tpO [(r 263)],(bO q44 (.type "type")),(dO #[(de P q9 670 (.str q0 332)),(de P q83 672 (.str "Times" 671)),(de P q5 674 (.int 128 673)),(dr P q53 683 373),(dr P q6 693 380),(dr P q71 704 387),(dr P q63 715 394),(dr P q4 727 401),(dr P q2 728 402)] 9),tpO [],fq [(130,372),(133,379),(136,386),(139,393),(142,400)] 4,(cO "Times" 665 "Times" 666 667 128 363 181 364 668 128 669),(gO 365 3 362 (.str q0 332) 0)]++
 df q53 "Times.exact" (ZK (top 25) 0) (.str q0 332) 130 3 367 675 ["self","worths","point"]++
 df q6 VW (ZK (top 25) 1) (.str q0 332) 133 4 374 684 ["self",q11,"box","grid"]++
 df q71 "Times.first_left" (ZK (top 25) 2) (.str q0 332) 136 5 381 694 ["self","here","x","y","grid"]++
 df q63 "Times.second_left" (ZK (top 25) 3) (.str q0 332) 139 5 388 705 ["self","here","x","y","grid"]++
 df q4 q68 (ZK (top 25) 4) (.str q0 332) 142 6 395 716 ["self","x","y","a","b","grid"]++
 [tpO [],(dO #[(de P q9 670 (.str q0 332)),(de P q5 674 (.int 128 673)),(dr P q53 683 373),(dr P q6 693 380),(dr P q71 704 387),(dr P q63 715 394),(dr P q4 727 401),(dr P q2 728 402),(dn P q29 729)] 2),(tyO q14 "Times" [(r 263)] [(r 404),(r 263),(r 138),(.type q45)] 403 [] 360 663 671),(uO 404),(bO q12 (r 404)),tpO [(r 138)],(bO q44 (.type "type")),(dO #[(de P q9 739 (.str q0 332)),(de P q83 741 (.str "Power" 740)),(de P q5 743 (.int 144 742)),(dr P q3 752 420),(dr P q53 761 427),(dr P q6 771 434),(dr P "back" 781 441),(dr P q8 787 446),(dr P q2 790 447)] 9),tpO [],fq [(146,419),(150,426),(153,433),(156,440),(159,445)] 4,(cO "Power" 734 "Power" 735 736 144 410 181 411 737 144 738),(gO 412 3 409 (.str q0 332) 0)]++
 df q3 Uq (ZK (top 26) 0) (.str q0 332) 146 3 414 744 ["self","one","many"]++
 df q53 "Power.exact" (ZK (top 26) 1) (.str q0 332) 150 3 421 753 ["self","worths","point"]++
 df q6 V4 (ZK (top 26) 2) (.str q0 332) 153 4 428 762 ["self",q11,"box","grid"]++
 df "back" "Power.back" (ZK (top 26) 3) (.str q0 332) 156 4 435 772 ["self",q11,"here","grid"]++
 dg q8 V7 (ZK (top 26) 4) (.str q0 332) 159 5 442 782++
 [tpO [(.str "many" 788),(.str "one" 789)],(dO #[(de P q9 739 (.str q0 332)),(de P q5 743 (.int 144 742)),(dr P q3 752 420),(dr P q53 761 427),(dr P q6 771 434),(dr P "back" 781 441),(dr P q8 787 446),(dr P q2 790 447),(dn P q29 791)] 2),(tyO q14 "Power" [(r 138)] [(r 449),(r 138),(.type q45)] 448 [] 407 732 740),(uO 449),(bO q12 (r 449))]
noncomputable def S1:=mS 12 mO1 452 794
theorem p1_eq (w:World):(λos=>segRunT treeTable QW w 11 (some (.ref 6)) 1 3655 (S0 w os) (piecesOf (bI.take 27) ev cE ⟨0,0,0,0⟩ fT))=λos=>some (.next,S1 w os,cE,⟨144,0,162,68⟩):=by kernel_rfl
theorem BK (w:World):(λos=>(L3.frc (L3.mkB 12 (mO1 w.params)) λT=>L3.goT treeTable QW w 11 (some (.ref 6)) 4084 ⟨T,452,(boot_heap w.params).life,Array.mk [],boot_drawn,794,os⟩ (restOf (bI.drop 27) ev cE ⟨144,0,162,68⟩ fT)).map λs=>(L3.JE QW w s))=λ_=>some (true):=by kernel_rfl
theorem CQ (w:World):(λos=>(L3.frc (L3.mkB 12 (mO1 w.params)) λT=>L3.goT treeTable QW w 11 (some (.ref 6)) 4084 ⟨T,452,(boot_heap w.params).life,Array.mk [],boot_drawn,794,os⟩ (restOf (bI.drop 27) ev cE ⟨144,0,162,68⟩ fT)).map λs=>(seen ((recsOf vw).map (·.name)) (ownsOf vw) [] { s.abs with gens:=#[] }))=λ_=>some (expectedOf vw):=by kernel_rfl
theorem C6 (w:World):(λos=>(L3.frc (L3.mkB 12 (mO1 w.params)) λT=>L3.goT treeTable QW w 11 (some (.ref 6)) 4084 ⟨T,452,(boot_heap w.params).life,Array.mk [],boot_drawn,794,os⟩ (restOf (bI.drop 27) ev cE ⟨144,0,162,68⟩ fT)).map λs=>(s.abs.heap.bltView))=λ_=>some (bltViewBooted):=by kernel_rfl
theorem zal (w:World):(λos=>(L3.frc (L3.mkB 12 (mO1 w.params)) λT=>L3.goT treeTable QW w 11 (some (.ref 6)) 4084 ⟨T,452,(boot_heap w.params).life,Array.mk [],boot_drawn,794,os⟩ (restOf (bI.drop 27) ev cE ⟨144,0,162,68⟩ fT)).map λs=>(s.abs.heap.keysOk (looseW vw []) ((recsOf vw).map (·.name)) ((litsOf vw).map (·.1)) ((clssOf vw (looseW vw [])).map (·.name))&&s.abs.heap.accountedOkI (importedModules QW.main.body)&&s.abs.heap.isNs mainGlobals&&s.abs.heap.isNs builtinsNs&&tablesOk vw s.abs.heap&&xt s.abs&&(if true then s.abs.gens.size==0 else !leftWithCleanup s.abs.gens)))=λ_=>some (true):=by kernel_rfl
theorem zcb (w:World):(λos=>(L3.frc (L3.mkB 12 (mO1 w.params)) λT=>L3.goT treeTable QW w 11 (some (.ref 6)) 4084 ⟨T,452,(boot_heap w.params).life,Array.mk [],boot_drawn,794,os⟩ (restOf (bI.drop 27) ev cE ⟨144,0,162,68⟩ fT)).map λs=>(tabsOk vw s.abs))=λ_=>some (true):=by kernel_rfl
theorem DJ (w:World):(λos=>(L3.frc (L3.mkB 12 (mO1 w.params)) λT=>L3.goT treeTable QW w 11 (some (.ref 6)) 4084 ⟨T,452,(boot_heap w.params).life,Array.mk [],boot_drawn,794,os⟩ (restOf (bI.drop 27) ev cE ⟨144,0,162,68⟩ fT)).map λs=>(pinSeenD vw (drecsOf vw) s.abs,plainSeenE vw (looseW vw []) s.abs,plainSeenD vw [] s.abs,wideSeen vw s.abs,clsSeenW vw [] s.abs))=λ_=>some (pinGoodD (drecsOf vw),plainGoodE vw (looseW vw []),plainGoodD vw [],wideGood vw,clsGoodW vw []):=by kernel_rfl
theorem ob_eq (w:World):(λos=>(L3.frc (L3.mkB 12 (mO1 w.params)) λT=>L3.goT treeTable QW w 11 (some (.ref 6)) 4084 ⟨T,452,(boot_heap w.params).life,Array.mk [],boot_drawn,794,os⟩ (restOf (bI.drop 27) ev cE ⟨144,0,162,68⟩ fT)).map λs=>ks.map (L3.Nz s))=λ_=>some (hk.val w):=by kernel_rfl
theorem left:LeftO QW vw [] xt hk.obs hk.val 7752:=L3.zaA (L3.C0 ks) Hv (by decide) fe_eq si_eq (λw os _ r=>L3.CD rfl (congrFun (zbq w) os) (congrFun (CZ w) os) (by decide) (L3.zcH (congrFun (p1_eq w) os) (L3.FX ((L3.IL _ _).symm.trans r)))) (λw=>L3.Kv (BK w) (CQ w)) (λw=>L3.Kv (C6 w) (zal w)) (λw=>L3.Kv (zcb w) (DJ w)) ob_eq
end Mine
set_option Elab.async false
set_option linter.all false
set_option maxRecDepth 100000
namespace L2
open PySem PySem.Spec PyProof.Rows
abbrev Key:=Sum Int Str
def Fi:Key->Value->Bool
 | .inl k,v=>Value.isInt k v
 | .inr x,v=>Value.isStrOf x v
def keyH (w:World):Key->Int
 | .inl k=>hashInt k
 | .inr x=>hashStr w x
theorem WV:∀ {k:Key} {v:Value},Fi k v=true->(∃i t,k=Sum.inl i/\v=Value.int i t)\/(∃x t,k=Sum.inr x/\v=Value.str x t)
 | .inl i,v,h=>by
  obtain⟨t,e⟩:=Value.isInt_shape (k:=i) (v:=v) h;exact .inl ⟨i,t,rfl,e⟩
 | .inr x,v,h=>by
  obtain⟨t,e⟩:=Value.isStrOf_shape (x:=x) (v:=v) h;exact .inr ⟨x,t,rfl,e⟩
theorem E9 (a b:Int):decide ((Sum.inl a:Key)=Sum.inl b)=(a==b):=by
 by_cases e:a=b
 ·subst e;simp
 ·have h:¬ (Sum.inl a:Key)=Sum.inl b:=λq=>e (Sum.inl.inj q)
  rw[decide_eq_false h];exact(beq_eq_false_iff_ne.mpr e).symm
theorem C1 (a b:Str):decide ((Sum.inr a:Key)=Sum.inr b)=decide (a=b):=by
 by_cases e:a=b
 ·subst e;simp
 ·have h:¬ (Sum.inr a:Key)=Sum.inr b:=λq=>e (Sum.inr.inj q)
  rw[decide_eq_false h,decide_eq_false e]
theorem Bu (a:Int)(b:Str):decide ((Sum.inl a:Key)=Sum.inr b)=false:=decide_eq_false (λq=>nomatch q)
theorem zdU (a:Str)(b:Int):decide ((Sum.inr a:Key)=Sum.inl b)=false:=decide_eq_false (λq=>nomatch q)
def F9 (prog:Program)(w:World):PySem.KeyKind prog w Key where
 is:=Fi
 hash:=keyH w
 inj:=λv a b ha hb=>by
  rcases WV ha with ⟨i,t,rfl,rfl⟩|⟨x,t,rfl,rfl⟩
  ·rcases WV hb with ⟨j,u,rfl,e⟩|⟨y,u,rfl,e⟩
   ·injection e with e1 _;rw[e1]
   ·exact nomatch e
  ·rcases WV hb with ⟨j,u,rfl,e⟩|⟨y,u,rfl,e⟩
   ·exact nomatch e
   ·injection e with e1 _;rw[e1]
 byValue:=λk v h=>by
  rcases WV h with ⟨i,t,rfl,rfl⟩|⟨x,t,rfl,rfl⟩<;>rfl
 pyHash:=λhv h=>by
  rcases WV hv with ⟨i,t,rfl,rfl⟩|⟨x,t,rfl,rfl⟩
  ·exact wpAny_pyHash_int h
  ·exact wpAny_pyHash_str h
 eqBool:=λhu hv h=>by
  rcases WV hu with ⟨i,t,rfl,rfl⟩|⟨x,t,rfl,rfl⟩
  ·rcases WV hv with ⟨j,u,rfl,rfl⟩|⟨y,u,rfl,rfl⟩
   ·rw[E9] at h;exact wpAny_eqBool_int h
   ·rw[Bu] at h;exact SeqAt.EqAt.int_str i t y u _ _ _ _ h
  ·rcases WV hv with ⟨j,u,rfl,rfl⟩|⟨y,u,rfl,rfl⟩
   ·rw[zdU] at h;exact SeqAt.EqAt.str_int x t j u _ _ _ _ h
   ·rw[C1] at h;exact wpAny_eqBool_str h
 «strs»:=λk x t v h=>by
  rcases WV h with ⟨i,u,rfl,e⟩|⟨y,u,rfl,e⟩
  ·exact nomatch e
  ·injection e with e1 _
   subst e1;cases v<;>rfl
end L2
namespace L2
open PySem PySem.Spec PyProof.Rows
set_option genInjectivity true in
inductive V where
 | non|bl (b:Bool)|int (i:Int)|str (x:Str)|byt (b:Array UInt8)|flt (b:UInt64)|ref (a:Addr)|ty (n:String)
 deriving DecidableEq
def ZG:V->Value->Prop
 | .non,u=>u=Value.none
 | .bl b,u=>u=Value.bool b
 | .int i,u=>∃t,u=Value.int i t
 | .str x,u=>∃t,u=Value.str x t
 | .byt b,u=>∃t,u=Value.bytes b t
 | .flt b,u=>∃t,u=Value.float b t
 | .ref a,u=>u=Value.ref a
 | .ty n,u=>u=Value.type n
abbrev ZI:List V->List Value->Prop:=Paired ZG
theorem ZI.length {xs:List V}{us:List Value}(r:ZI xs us):xs.length=us.length:=Paired.length r
theorem ZI.get:∀ {xs:List V} {us:List Value} {i:Nat} {x:V},ZI xs us->xs[i]?=some x->∃u,us[i]?=some u/\ZG x u
 | _,_,_,_,.nil,e=>by simp at e
 | _,_,0,_,.cons r _,e=>by simp at e;subst e;exact⟨_,rfl,r⟩
 | _,_,i+1,x,.cons _ t,e=>by
  obtain⟨u,h1,h2⟩:=ZI.get (i:=i) (x:=x) t (by simpa using e);exact⟨u,by simpa using h1,h2⟩
theorem ZI.set {x:V}{u:Value}(r:ZG x u):∀ {xs:List V} {us:List Value} (i:Nat),ZI xs us->ZI (xs.set i x) (us.set i u)
 | _,_,_,.nil=>.nil
 | _,_,0,.cons _ t=>.cons r t
 | _,_,i+1,.cons q t=>.cons q (ZI.set r i t)
theorem ZI.append:∀ {xs ys:List V} {us ws:List Value},ZI xs us->ZI ys ws->ZI (xs++ys) (us++ws)
 | _,_,_,_,.nil,s=>s
 | _,_,_,_,.cons r t,s=>.cons r (ZI.append t s)
theorem ZI.take:∀ {xs:List V} {us:List Value} (n:Nat),ZI xs us->ZI (xs.take n) (us.take n)
 | _,_,0,_=>.nil
 | _,_,_+1,.nil=>.nil
 | _,_,n+1,.cons r t=>.cons r (ZI.take n t)
theorem ZI.drop:∀ {xs:List V} {us:List Value} (n:Nat),ZI xs us->ZI (xs.drop n) (us.drop n)
 | _,_,0,r=>r
 | _,_,_+1,.nil=>.nil
 | _,_,n+1,.cons _ t=>ZI.drop n t
def WH:Option V->Option Value->Prop
 | some v,some u=>ZG v u
 | none,none=>True
 | _,_=>False
def KV {κ:Type}:List (κ×V)->List (κ×Value)->Prop:=Paired λ(p:κ×V)(q:κ×Value)=>p.1=q.1/\ZG p.2 q.2
def kV:Key->V
 | .inl i=>.int i
 | .inr x=>.str x
inductive HO where
  | lst (xs:List V)
  | tup (xs:List V)
  | dK (aY:List (Key×V))|dT (aY:List (List Key×V))
  | set (S:Int->Bool) (n:Nat)
  | ins (C dx:Addr) (fs:List (Str×V))
  | own (x:Addr)
  | xd (fs:List (Str×V))
  | met (f x:Addr)
  | rng (lo hi:Int)
  | frz (o:Obj) (u:HO)
  | tbl (ps:Array Value)
  | ext (φ:Heap->Prop)
abbrev Hp:=Addr->Option HO
def upd (H:Hp)(a:Addr)(o:HO):Hp:=λb=>if b=a then some o else H b
theorem XB {H:Hp}{a:Addr}{o:HO}:upd H a o a=some o:=by unfold upd;rw[if_pos rfl]
theorem Yl {H:Hp}{a b:Addr}{o:HO}(h:b≠a):upd H a o b=H b:=by unfold upd;rw[if_neg h]
theorem Ia {H:Hp}{a b:Addr}{o u:HO}(h:H a=some o)(h':H b=some u)(d:o≠u):a≠b:=by
 intro e;subst e;rw[h] at h';exact d (Option.some.inj h')
theorem VN {H:Hp}{a b:Addr}{o:HO}(h:H a=some o)(h':H b=none):a≠b:=by
 intro e;subst e;rw[h] at h';cases h'
section
variable (P:Program)(w:World)
def YH (H:Hp)(h:Heap)(a:Addr):HO->Prop
 | .lst xs=>xs.length<=sizeLine/\∃(bA:List Value)(n:Nat),ZI xs bA/\h.get? a=some { cls:=.type "list",data:=.seq bA.toArray n }
 | .tup xs=>xs.length<=sizeLine/\∃bA:List Value,ZI xs bA/\IsTup h a bA.toArray
 | .dK aY=>aY.length<=sizeLine/\(a==sysModules)=false/\∃vs,KV aY vs/\h.DictOf (F9 P w) a vs
 | .dT aY=>aY.length<=sizeLine/\(a==sysModules)=false/\∃xs:List (List Key×Addr×Value),
   Paired (λ(p:List Key×V)(q:List Key×Addr×Value)=>p.1=q.1/\H q.2.1=some (.tup (p.1.map kV))/\ZG p.2 q.2.2) aY xs/\
   ∃o es ep,h.get? a=some o/\o.ExactDict/\o.data=.dict es ep/\es.toList=xs.map (entryOfKey (tupleKind (F9 P w)))/\(xs.map (·.1)).Nodup
 | .set S n=>h.SetOf (intKind P w) a S n
 | .ins C dx fs=>H dx=some (.own a)/\fs.length<=1000/\dx≠a/\h.get? a=some (PySem.W.instObj C dx)/\
   ∃mA,h.Ns1 dx mA/\(∀f,WH (fs.lookup f) (mA f))/\PySem.Within mA (fs.map (·.1))
 | .own _=>∃o,h.get? a=some o
 | .xd fs=>∃mA,h.Ns1 a mA/\∀f,WH (fs.lookup f) (mA f)
 | .rng lo hi=>∃t u v,h.get? a=some { cls:=.type "range",data:=.fields #[.int lo t,.int hi u,.int 1 v] }
 | .frz o u=>h.get? a=some o/\YH H h a u
 | .tbl ps=>h.get? a=some { cls:=.none,data:=.fields ps }
 | .met f x=>h.get? a=some (PySem.W.methodObj (.ref f) (.ref x))
 | .ext φ=>φ h/\(∃o,h.get? a=some o)/\∀h1 h2:Heap,φ h1->(∀o,h1.get? a=some o->h2.get? a=some o)->φ h2
def HOk (H:Hp)(h:Heap):Prop:=∀a o,H a=some o->YH P w H h a o
end
section
variable {P:Program}{w:World}{H H':Hp}{h h':Heap}{a:Addr}{o:HO}
theorem YH.lt (x:YH P w H h a o):a<h.objs.size:=by
 cases o with
 | lst xs=>obtain⟨_,_,_,_,e⟩:=x;exact Heap.lt_size e
 | tup xs=>obtain⟨_,_,_,p⟩:=x;exact p.lt
 | dK aY=>obtain⟨_,_,_,_,o,_,_,e,_⟩:=x;exact Heap.lt_size e
 | dT aY=>obtain⟨_,_,_,_,o,_,_,e,_⟩:=x;exact Heap.lt_size e
 | set S n=>obtain⟨o,_,_,_,e,_⟩:=x;exact Heap.lt_size e
 | ins C dx fs=>obtain⟨_,_,_,e,_⟩:=x;exact Heap.lt_size e
 | own y=>obtain⟨_,e⟩:=x;exact Heap.lt_size e
 | xd fs=>obtain⟨_,⟨_,_,_,e,_⟩,_⟩:=x;exact Heap.lt_size e
 | rng lo hi=>obtain⟨_,_,_,e⟩:=x;exact Heap.lt_size e
 | frz ob u=>obtain⟨e,_⟩:=x;exact Heap.lt_size e
 | tbl ps=>exact Heap.lt_size (show h.get? a=some _ from x)
 | met f y=>exact Heap.lt_size (show h.get? a=some _ from x)
 | ext φ=>obtain⟨_,⟨_,e⟩,_⟩:=x;exact Heap.lt_size e
theorem Paired.mapP:∀ {l₁:List α} {l₂:List β},Paired F l₁ l₂->(∀a b,F a b->G a b)->Paired G l₁ l₂
 | _,_,.nil,_=>.nil
 | _,_,.cons r t,f=>.cons (f _ _ r) (Paired.mapP t f)
theorem YH.stay (x:YH P w H h a o)(k:∀b u,(b=a\/H b=some (.own a))->h.get? b=some u->h'.get? b=some u)
  (ho:∀b,H b=some (.own a)->H' b=some (.own a))(ht:∀b xs,H b=some (.tup xs)->H' b=some (.tup xs)):YH P w H' h' a o:=by
 induction o with
 | lst xs=>obtain⟨z,bA,n,r,e⟩:=x;exact⟨z,bA,n,r,k _ _ (.inl rfl) e⟩
 | tup xs=>obtain⟨z,bA,r,ob,e,c⟩:=x;exact⟨z,bA,r,ob,k _ _ (.inl rfl) e,c⟩
 | dK aY=>obtain⟨z,y,vs,r,ob,es,ep,e,c⟩:=x;exact⟨z,y,vs,r,ob,es,ep,k _ _ (.inl rfl) e,c⟩
 | dT aY=>
  obtain⟨z,y,xs,r,ob,es,ep,e,c⟩:=x;exact⟨z,y,xs,Paired.mapP r λp q z=>⟨z.1,ht _ _ z.2.1,z.2.2⟩,ob,es,ep,k _ _ (.inl rfl) e,c⟩
 | set S n=>obtain⟨ob,es,ep,t,e,c⟩:=x;exact⟨ob,es,ep,t,k _ _ (.inl rfl) e,c⟩
 | ins C dx fs=>
  obtain⟨d,z,ne,e,mA,⟨od,es,ep,e2,c⟩,r⟩:=x;exact⟨ho _ d,z,ne,k _ _ (.inl rfl) e,mA,⟨od,es,ep,k _ _ (.inr d) e2,c⟩,r⟩
 | own y=>obtain⟨ob,e⟩:=x;exact⟨ob,k _ _ (.inl rfl) e⟩
 | xd fs=>obtain⟨mA,⟨od,es,ep,e,c⟩,r⟩:=x;exact⟨mA,⟨od,es,ep,k _ _ (.inl rfl) e,c⟩,r⟩
 | rng lo hi=>obtain⟨t,u,v,e⟩:=x;exact⟨t,u,v,k _ _ (.inl rfl) e⟩
 | frz ob u ih=>obtain⟨e,q⟩:=x;exact⟨k _ _ (.inl rfl) e,ih q⟩
 | tbl ps=>
  have e:h.get? a=some { cls:=.none,data:=.fields ps }:=x
  show h'.get? a=some { cls:=.none,data:=.fields ps };exact k a _ (.inl rfl) e
 | met f y=>
  have e:h.get? a=some (PySem.W.methodObj (.ref f) (.ref y)):=x
  show h'.get? a=some (PySem.W.methodObj (.ref f) (.ref y));exact k a _ (.inl rfl) e
 | ext φ=>obtain⟨p,⟨o,e⟩,st⟩:=x;exact⟨st _ _ p λo q=>k _ _ (.inl rfl) q,⟨o,k _ _ (.inl rfl) e⟩,st⟩
theorem HOk.lt (x:HOk P w H h)(e:H a=some o):a<h.objs.size:=(x a o e).lt
theorem HOk.fresh (x:HOk P w H h)(e:h.objs.size<=a):H a=none:=by
 cases q:H a with
 | none=>rfl
 | some u=>exact absurd (yB (x.lt q) e) (yV _)
theorem HOk.kept (x:HOk P w H h)(k:∀b u,h.get? b=some u->h'.get? b=some u):HOk P w H h':=λa o e=>
 (x a o e).stay (λb u _ q=>k b u q) (λ_ q=>q) λ_ _ q=>q
theorem HOk.laid (x:HOk P w H h)(k:∀b u,h.get? b=some u->h'.get? b=some u)(hp:h.objs.size<=a)(new:YH P w (upd H a o) h' a o):HOk P w (upd H a o) h':=λb u e=>by
 have hn:=x.fresh hp;by_cases hb:b=a
 ·subst hb;rw[XB] at e;cases e;exact new
 ·rw[Yl hb] at e;exact(x b u e).stay (λc v _ q=>k c v q) (λc q=>by rw[Yl (VN q hn)];exact q) λc xs q=>by rw[Yl (VN q hn)];exact q
end
def Rd (H:Hp)(a:Addr)(u:HO):Prop:=H a=some u\/∃o,H a=some (.frz o u)
theorem Rd.ok {P:Program}{w:World}{H:Hp}{h:Heap}{a:Addr}{u:HO}(r:Rd H a u)(x:HOk P w H h):YH P w H h a u:=by
 rcases r with r|⟨o,r⟩
 ·exact x a u r
 ·obtain⟨_,q⟩:=x a _ r;exact q
def Mut:Option HO->Prop
 | some (.lst _)=>True
 | some (.dK _)=>True
 | some (.dT _)=>True
 | some (.set _ _)=>True
 | some (.ins _ _ _)=>True
 | some (.ext _)=>True
 | _=>False
section
variable {P:Program}{w:World}{H:Hp}{h h':Heap}{x e:Addr}{o':HO}
theorem HOk.write (ok:HOk P w H h)(mu:Mut (H x))(he:e=x\/H e=some (.own x))(k:∀b u,b≠e->h.get? b=some u->h'.get? b=some u)(heo:∃u,h'.get? e=some u)
  (new:YH P w (upd H x o') h' x o'):HOk P w (upd H x o') h':=λb u q=>by
 have nown:∀c y,H c=some (.own y)->c≠x:=λc y r z=>by subst z;rw[r] at mu;exact mu
 have ntup:∀c xs,H c=some (.tup xs)->c≠x:=λc xs r z=>by subst z;rw[r] at mu;exact mu
 by_cases hb:b=x
 ·subst hb;rw[XB] at q;cases q;exact new
 ·rw[Yl hb] at q;by_cases hbe:b=e
  ·have q':H b=some (.own x):=by
    rcases he with z|z
    ·exact absurd (hbe.trans z) hb
    ·rw[hbe];exact z
   rw[q] at q';cases q'
   obtain⟨v,hv⟩:=heo;exact⟨v,by rw[hbe];exact hv⟩
  ·refine(ok b u q).stay (λc v hc r=>k c v ?_ r) (λc r=>by rw[Yl (nown c b r)];exact r) λc xs r=>by rw[Yl (ntup c xs r)];exact r
   rcases hc with rfl|hc
   ·exact hbe
   ·rintro rfl;rcases he with z|z
    ·exact nown c b hc z
    ·rw[hc] at z;cases z;exact hb rfl
end
structure Un (fs ex:List Addr)(H H':Hp)(h h':Heap):Prop where
 keep:∀b o,h.get? b=some o->H b=none->b ∉ fs->b ∉ ex->h'.get? b=some o
 slot:∀b o,h.get? b=some o->H b=none->b∈fs->b ∉ ex->∃sl,h'.get? b=some { o with slots:=sl }
 free:∀b o,h.get? b=some o->H b=none->b ∉ ex->H' b=none
 there:∀b o,h.get? b=some o->b ∉ ex->∃o',h'.get? b=some o'
 tups:∀b xs,H b=some (.tup xs)->H' b=some (.tup xs)
 frzs:∀b o u,H b=some (.frz o u)->H' b=some (.frz o u)
 tbls:∀b ps,H b=some (.tbl ps)->∃more,H' b=some (.tbl (ps++more))
section
variable {fs fs' ex ex':List Addr}{H H1 H2:Hp}{h h1 h2 h':Heap}{a x e:Addr}{o:HO}
theorem Un.any (u:Un fs ex H H1 h h1){b:Addr}{ob:Obj}(q:h.get? b=some ob)(n:H b=none)(hx:b ∉ ex):∃sl,h1.get? b=some { ob with slots:=sl }:=by
 by_cases hb:b∈fs
 ·exact u.slot b ob q n hb hx
 ·exact⟨ob.slots,u.keep b ob q n hb hx⟩
theorem Un.kept (k:∀b u,h.get? b=some u->h'.get? b=some u):Un fs ex H H h h':=
 ⟨λb ob q _ _ _=>k b ob q,λb ob q _ _ _=>⟨ob.slots,k b ob q⟩,λ_ _ _ n _=>n,λb ob q _=>⟨ob,k b ob q⟩,λ_ _ q=>q,λ_ _ _ q=>q,λ_ ps q=>⟨#[],by rw[q];simp⟩⟩
theorem Un.refl:Un fs ex H H h h:=Un.kept λ_ _ q=>q
theorem Un.laid (k:∀b u,h.get? b=some u->h'.get? b=some u)(hp:h.objs.size<=a)(hn:H a=none):Un fs ex H (upd H a o) h h' where
 keep:=λb u q _ _ _=>k b u q
 slot:=λb u q _ _ _=>⟨u.slots,k b u q⟩
 free:=λb u q n _=>by rw[Yl (zW (yB (Heap.lt_size q) hp))];exact n
 there:=λb u q _=>⟨u,k b u q⟩
 tups:=λb xs q=>by rw[Yl (VN q hn)];exact q
 frzs:=λb u xs q=>by rw[Yl (VN q hn)];exact q
 tbls:=λb ps q=>⟨#[],by rw[Yl (VN q hn),q];simp⟩
theorem Un.write (mu:Mut (H x))(he:e=x\/H e=some (.own x))(k:∀b u,b≠e->h.get? b=some u->h'.get? b=some u)(heo:∃u,h'.get? e=some u):Un fs ex H (upd H x o) h h':=by
 have hx:∀b,H b=none->b≠x:=λb n z=>by subst z;rw[n] at mu;exact mu
 have hb:∀b,H b=none->b≠e:=λb n z=>by
  subst z;rcases he with r|r
  ·exact hx b n r
  ·rw[n] at r;cases r
 have hm:∀b u,H b=some u->¬ Mut (some u)->b≠x:=λb u q nm z=>by subst z;rw[q] at mu;exact nm mu
 refine⟨λb u q n _ _=>k b u (hb b n) q,λb u q n _ _=>⟨u.slots,k b u (hb b n) q⟩,λb u q n _=>by rw[Yl (hx b n)];exact n,λb u q _=>?_,
  λb xs q=>by rw[Yl (hm b _ q λz=>z)];exact q,λb u xs q=>by rw[Yl (hm b _ q λz=>z)];exact q,λb ps q=>⟨#[],by rw[Yl (hm b _ q λz=>z),q];simp⟩⟩
 by_cases hbe:b=e
 ·subst hbe;exact heo
 ·exact⟨u,k b u hbe q⟩
end
def trk (h:Heap)(H:Hp):List Addr:=(List.range h.objs.size).filter λa=>(H a).isSome
def Ve (h:Heap)(H:Hp):Heap:=PySem.W.hideAll h (trk h H)
theorem zaq (h:Heap)(H:Hp):(Ve h H).objs.size=h.objs.size:=PySem.W.hideAll_size _ _
theorem zdE {h:Heap}{H:Hp}{b:Addr}{o:Obj}(e:h.get? b=some o)(n:H b=none):(Ve h H).get? b=some o:=
 PySem.W.hideAll_get _ e λhm=>by
  have q:(H b).isSome=true:=(List.mem_filter.mp hm).2;rw[n] at q;simp at q
theorem zb4 {h:Heap}{H:Hp}{b:Addr}{o:Obj}(e:(Ve h H).get? b=some o):h.get? b=some o/\H b=none:=by
 have e':h.get? b=some o:=PySem.W.of_hideAll (trk h H) e;refine⟨e',?_⟩;cases q:H b with
 | none=>rfl
 | some x=>
  have hm:b∈trk h H:=List.mem_filter.mpr ⟨List.mem_range.mpr (Heap.lt_size e'),by simp[q]⟩
  have z:(Ve h H).get? b=none:=PySem.W.hideAll_none (trk h H) hm;rw[z] at e;cases e
def AZ (g h:Heap)(L:Addr):LA:=(List.range h.objs.size).filterMap λa=>if a=L\/(g.get? a).isSome=true then none else (h.get? a).map λo=>(a,o)
def YC (g h:Heap)(L d:Addr):LA:=(AZ g h L).filter λp=>decide (p.1≠d)
end L2
namespace L2
open PySem PySem.Spec PyProof.Rows
structure Mod (K:Fg)(mg:Str->Option Value)(base:Heap):Prop where
 kin:K.In base
 glob:base.Ns mainGlobals mg
 blt:∃mb,base.Ns builtinsNs mb/\∀x:Str,x≠"__name__"->mb x=bootBuiltins x
 nolimit:base.NoLimit
structure Cx where
 prog:Program
 w:World
 K:Fg
 mg:Str->Option Value
 base:Heap
 A:Around
 N:List Str
 s₀:Shared
 H₀:Hp
 env:Env
 outer:List Env
 stack:List Env
 ex:List Addr
 fn:Str->Bool
 calm:Bool
 pn:LA
 xe:Value->Shared->Prop
def frs (l:List Env):List Addr:=l.filterMap (·.frame)
abbrev Cx.fs (X:Cx):List Addr:=frs X.outer
def Vis (sc:Scope)(x:Str):Prop:=sc.names.lookup x=some .local\/sc.names.lookup x=some .cell\/sc.names.lookup x=some .free
def Loc (sc:Scope)(x:Str):Prop:=sc.names.lookup x=some .local\/sc.names.lookup x=some .cell
def Look (env:Env)(h:Heap)(m:Str->Option Value)(x:Str)(u:Value):Prop:=
 (env.kindOf x=some .local/\m x=some u)\/((env.kindOf x=some .cell\/env.kindOf x=some .free)/\∃c,env.cells.lookup x=some c/\h.IsCell c (some u))
structure Cx.Ok (X:Cx):Prop where
 mod:Mod X.K X.mg X.base
 kind:X.env.scope.kind=.function
 glob:X.env.globals=mainGlobals
 blt:X.env.builtins=builtinsNs
 above:X.s₀.heap.objs.size<=X.env.locals
 inj:∀x y c,X.env.cells.lookup x=some c->X.env.cells.lookup y=some c->x=y
 has:∀x,(X.env.kindOf x=some .cell\/X.env.kindOf x=some .free)->∃c,X.env.cells.lookup x=some c
 cab:∀x c,X.fn x=true->X.env.cells.lookup x=some c->X.s₀.heap.objs.size<=c
 hd:X.calm=true->X.A.handled=none
 frames:X.A.frames=some X.stack
 stk:X.stack=X.outer\/(X.stack=X.env::X.outer/\X.env.frame=some X.env.locals)
 exf:∀b∈X.ex,b≠X.env.locals/\∀x c,X.env.cells.lookup x=some c->c≠b
 bs:∀b o,X.base.get? b=some o->X.s₀.heap.get? b=some o/\X.H₀ b=none
 bsz:X.base.objs.size<=X.s₀.heap.objs.size
 noex:∀b o,X.base.get? b=some o->b ∉ X.ex
 exfs:∀b∈X.ex,b ∉ X.fs
 funs:X.s₀.heap.FunFrames X.base X.outer
 frf:∀b∈X.fs,X.H₀ b=none
structure Inv (X:Cx)(aA:LA)(σ:List (Option V))(H:Hp)(s:Shared):Prop where
 ok:X.Ok
 os:s.os=X.s₀.os
 bare:AllBare s.gens
 base:Un X.fs X.ex X.H₀ H X.s₀.heap s.heap
 loc:∃m,s.heap.Ns X.env.locals m/\∀(i:Nat)(x:Str)(v:V),X.N[i]?=some x->σ[i]?=some (some v)->Vis X.env.scope x->∃u,ZG v u/\Look X.env s.heap m x u
 cell:∀x c,X.env.cells.lookup x=some c->∃v,s.heap.IsCell c v
 free:H X.env.locals=none
 freeC:∀x c,X.env.cells.lookup x=some c->H c=none
 pin:∀p∈X.pn++aA,s.heap.get? p.1=some p.2/\H p.1=none/\p.1≠X.env.locals/\p.1 ∉ X.fs/\∀v,p.2.data≠.cell v
 hok:HOk X.prog X.w H s.heap
 len:σ.length=X.N.length
section
variable {X:Cx}{aA:LA}{σ:List (Option V)}{H H':Hp}{s:Shared}{h':Heap}
theorem Cx.Ok.nofr (ok:X.Ok)(e:X.base.get? b=some o):b ∉ X.fs:=λhb=>by
 have:=(ok.funs.mem hb).1;rw[e] at this;cases this
theorem Inv.bs (I:Inv X aA σ H s):∀b o,X.base.get? b=some o->s.heap.get? b=some o/\H b=none:=λb o e=>
 ⟨I.base.keep b o (I.ok.bs b o e).1 (I.ok.bs b o e).2 (I.ok.nofr e) (I.ok.noex b o e),I.base.free b o (I.ok.bs b o e).1 (I.ok.bs b o e).2 (I.ok.noex b o e)⟩
theorem Inv.bk (I:Inv X aA σ H s):∀b o,X.base.get? b=some o->s.heap.get? b=some o:=λb o e=>(I.bs b o e).1
theorem Inv.mod (I:Inv X aA σ H s):Mod X.K X.mg X.base:=I.ok.mod
theorem Inv.kIn (I:Inv X aA σ H s):X.K.In s.heap:=I.ok.mod.kin.keeps I.bk
theorem Inv.lt (I:Inv X aA σ H s):X.env.locals<s.heap.objs.size:=let ⟨_,hn,_⟩:=I.loc;hn.lt
theorem Inv.sz (I:Inv X aA σ H s):X.s₀.heap.objs.size<=s.heap.objs.size:=yH I.ok.above (xG I.lt)
theorem Inv.nofs (I:Inv X aA σ H s)(h:s.heap.objs.size<=a):a ∉ X.fs:=λhb=>by
 obtain⟨_,o,ho,_⟩:=I.ok.funs.mem hb;exact absurd (yB (Heap.lt_size ho) (yH I.sz h)) (yV _)
theorem Inv.cne (I:Inv X aA σ H s):∀x c,X.env.cells.lookup x=some c->c≠X.env.locals:=λx c e z=>by
 obtain⟨v,o,ho,hd⟩:=I.cell x c e;obtain⟨m,⟨o',es,ep,ho',hd',_⟩,_⟩:=I.loc;rw[z,ho'] at ho;cases ho;rw[hd'] at hd;cases hd
theorem Inv.funs (I:Inv X aA σ H s):s.heap.FunFrames X.base X.outer:=by
 have all:∀(l:List Env),(∀b∈frs l,b∈X.fs)->X.s₀.heap.FunFrames X.base l->s.heap.FunFrames X.base l:=by
  intro l
  induction l with
  | nil=>intro _ _;trivial
  | cons env r ih=>
   intro hs hl;obtain⟨hk,⟨L,o,hf,hn,ho,hd⟩,hr⟩:=hl;have hL:L∈X.fs:=hs L (by unfold frs;rw[List.filterMap_cons,hf];exact yC);obtain⟨sl,e⟩:=I.base.slot L o ho (I.ok.frf L hL) hL λz=>I.ok.exfs L z hL
   exact⟨hk,⟨L,_,hf,hn,e,hd⟩,ih (λb hb=>hs b (by unfold frs;rw[List.filterMap_cons,hf];exact yN _ hb)) hr⟩
 exact all X.outer (λ_ hb=>hb) I.ok.funs
theorem Inv.stack (I:Inv X aA σ H s):s.heap.FunFrames X.base X.stack:=by
 rcases I.ok.stk with e|⟨e,hf⟩
 ·rw[e];exact I.funs
 ·rw[e];obtain⟨m,hn,_⟩:=I.loc;refine .cons (by rw[I.ok.kind];decide) hf hn ?_ I.funs;exact Heap.get?_none_of_le (yH I.ok.bsz I.ok.above)
theorem Inv.stkSub (I:Inv X aA σ H s):∀b∈frs X.stack,b∈X.env.locals::X.fs:=λb hb=>by
 rcases I.ok.stk with e|⟨e,hf⟩
 ·rw[e] at hb;exact yN _ hb
 ·rw[e] at hb;unfold frs at hb;rw[List.filterMap_cons,hf] at hb;exact hb
theorem Inv.stkFree (I:Inv X aA σ H s):∀b∈frs X.stack,H b=none:=λb hb=>by
 rcases zO.mp (I.stkSub b hb) with e|hb
 ·rw[e];exact I.free
 ·obtain⟨_,o,ho,_⟩:=I.ok.funs.mem hb;exact I.base.free b o ho (I.ok.frf b hb) λz=>I.ok.exfs b z hb
theorem Inv.step {g':Array GenState}{t':Nat}{d':Drawn}{ch:List Addr}(I:Inv X aA σ H s)
  (hch:∀b∈ch,(b∈X.ex\/X.s₀.heap.objs.size<=b)/\b≠X.env.locals/\(∀x c,X.env.cells.lookup x=some c->c≠b)/\∀p∈X.pn++aA,p.1≠b)
  (keep:∀b o,b≠X.env.locals->b ∉ X.fs->b ∉ ch->s.heap.get? b=some o->H b=none->h'.get? b=some o)
  (slot:∀b o,b≠X.env.locals->b∈X.fs->b ∉ ch->s.heap.get? b=some o->H b=none->∃sl,h'.get? b=some { o with slots:=sl })(free:∀b o,b ∉ ch->s.heap.get? b=some o->H b=none->H' b=none)
  (there:∀b o,b ∉ ch->s.heap.get? b=some o->∃o',h'.get? b=some o')
  (tups:∀b xs,H b=some (.tup xs)->H' b=some (.tup xs))(frzs:∀b o u,H b=some (.frz o u)->H' b=some (.frz o u))(tbls:∀b ps,H b=some (.tbl ps)->∃more,H' b=some (.tbl (ps++more)))
  (ns:∀m,s.heap.Ns X.env.locals m->h'.Ns X.env.locals m)(hok:HOk X.prog X.w H' h')(hg:AllBare g'):
  Inv X aA σ H' { s with heap:=h',gens:=g',drawn:=d',toks:=t' }:=by
 have neL:∀b o,X.s₀.heap.get? b=some o->b≠X.env.locals:=λb o e=>zW (yB (Heap.lt_size e) I.ok.above)
 have neC:∀b o,X.s₀.heap.get? b=some o->b ∉ X.ex->b ∉ ch:=λb o e hx hb=>by
  rcases (hch b hb).1 with z|z
  ·exact hx z
  ·exact absurd (yB (Heap.lt_size e) z) (yV _)
 have cellK:∀x c,X.env.cells.lookup x=some c->∀v,s.heap.IsCell c v->h'.IsCell c v:=λx c e v ⟨o,ho,hd⟩=>by
  have nch:c ∉ ch:=λz=>(hch c z).2.2.1 x c e rfl
  by_cases hc:c∈X.fs
  ·obtain⟨sl,q⟩:=slot c o (I.cne x c e) hc nch ho (I.freeC x c e);exact⟨_,q,hd⟩
  ·exact⟨o,keep c o (I.cne x c e) hc nch ho (I.freeC x c e),hd⟩
 refine⟨I.ok,I.os,hg,⟨λb o e n hb hx=>?_,λb o e n hb hx=>?_,λb o e n hx=>?_,λb o e hx=>?_,λb xs e=>tups b xs (I.base.tups b xs e),λb o xs e=>frzs b o xs (I.base.frzs b o xs e),λb ps e=>?_⟩,?_,λx c e=>?_,?_,λx c e=>?_,λp hp=>?_,hok,I.len⟩
 ·exact keep b o (neL b o e) hb (neC b o e hx) (I.base.keep b o e n hb hx) (I.base.free b o e n hx)
 ·obtain⟨sl,e1⟩:=I.base.slot b o e n hb hx;obtain⟨sl',e2⟩:=slot b _ (neL b o e) hb (neC b o e hx) e1 (I.base.free b o e n hx);exact⟨sl',e2⟩
 ·obtain⟨o',e1⟩:=I.base.there b o e hx;exact free b o' (neC b o e hx) e1 (I.base.free b o e n hx)
 ·obtain⟨o',e1⟩:=I.base.there b o e hx;exact there b o' (neC b o e hx) e1
 ·obtain⟨m1,e1⟩:=I.base.tbls b ps e;obtain⟨m2,e2⟩:=tbls b _ e1;exact⟨m1++m2,by rw[e2,Array.append_assoc]⟩
 ·obtain⟨m,hn,hl⟩:=I.loc;refine⟨m,ns m hn,λi x v e1 e2 e3=>?_⟩;obtain⟨u,r,l⟩:=hl i x v e1 e2 e3;refine⟨u,r,?_⟩;rcases l with l|⟨k,c,e,z⟩
  ·exact .inl l
  ·exact .inr ⟨k,c,e,cellK x c e _ z⟩
 ·obtain⟨v,z⟩:=I.cell x c e;exact⟨v,cellK x c e v z⟩
 ·obtain⟨m,⟨o,_,_,ho,_⟩,_⟩:=I.loc;exact free _ o (λz=>(hch _ z).2.1 rfl) ho I.free
 ·obtain⟨v,o,ho,hd⟩:=I.cell x c e;exact free c o (λz=>(hch c z).2.2.1 x c e rfl) ho (I.freeC x c e)
 ·obtain⟨e,n,ne,nf,d⟩:=I.pin p hp;have nch:p.1 ∉ ch:=λz=>(hch p.1 z).2.2.2 p hp rfl
  exact⟨keep p.1 p.2 ne nf nch e n,free p.1 p.2 nch e n,ne,nf,d⟩
theorem Inv.un {t':Nat}(I:Inv X aA σ H s)(u:Un X.fs [] H H' s.heap h')(hok:HOk X.prog X.w H' h'):Inv X aA σ H' { s with heap:=h',toks:=t' }:=by
 obtain⟨m,⟨o,es,ep,ho,r⟩,_⟩:=id I.loc;obtain⟨sl,hL⟩:=u.any ho I.free (by simp);exact I.step (g':=s.gens) (d':=s.drawn) (ch:=[]) (λ_ z=>nomatch z) (λb o _ hb _ e n=>u.keep b o e n hb (by simp)) (λb o _ hb _ e n=>u.slot b o e n hb (by simp)) (λb o _ e n=>u.free b o e n (by simp)) (λb o _ e=>u.there b o e (by simp)) u.tups u.frzs u.tbls (λm' hm=>by
  obtain⟨o',es',ep',ho',r'⟩:=hm;rw[ho] at ho';cases ho'
  exact⟨_,es',ep',hL,r'⟩) hok I.bare
theorem Inv.call {g':Array GenState}{t':Nat}{d':Drawn}{ch:List Addr}(I:Inv X aA σ H s)(u:Un (frs X.stack) ch H H' s.heap h')(hok:HOk X.prog X.w H' h')(hg:AllBare g')
  (hch:∀b∈ch,(b∈X.ex\/X.s₀.heap.objs.size<=b)/\b≠X.env.locals/\(∀x c,X.env.cells.lookup x=some c->c≠b)/\∀p∈X.pn++aA,p.1≠b):
  Inv X aA σ H' { s with heap:=h',gens:=g',drawn:=d',toks:=t' }:=by
 obtain⟨m,⟨o,es,ep,ho,r⟩,_⟩:=id I.loc;obtain⟨sl,hL⟩:=u.any ho I.free λz=>(hch _ z).2.1 rfl
 exact I.step (ch:=ch) hch (λb o hL hb hc e n=>u.keep b o e n (λz=>(zO.mp (I.stkSub b z)).elim hL hb) hc) (λb o _ _ hc e n=>u.any e n hc) (λb o hc e n=>u.free b o e n hc) (λb o hc e=>u.there b o e hc) u.tups u.frzs u.tbls (λm' hm=>by
  obtain⟨o',es',ep',ho',r'⟩:=hm;rw[ho] at ho';cases ho'
  exact⟨_,es',ep',hL,r'⟩) hok hg
theorem Inv.turned {t':Nat}{it:Addr}(I:Inv X aA σ H s)(k:∀b o,b≠it->s.heap.get? b=some o->h'.get? b=some o)(hn:H it=none)(hL:it≠X.env.locals)
  (h1:it∈X.ex\/X.s₀.heap.objs.size<=it)(h2:∀x c,X.env.cells.lookup x=some c->c≠it)(h3:∀p∈X.pn++aA,p.1≠it):Inv X aA σ H { s with heap:=h',toks:=t' }:=by
 have nit:∀b u,H b=some u->b≠it:=λb u e z=>by rw[z,hn] at e;cases e
 refine I.step (g':=s.gens) (d':=s.drawn) (ch:=[it]) (λb hb=>?_) (λb o _ _ hc e _=>k b o (λz=>hc (by simp[z])) e) (λb o _ _ hc e _=>⟨o.slots,k b o (λz=>hc (by simp[z])) e⟩) (λ_ _ _ _ n=>n)
  (λb o hc e=>⟨o,k b o (λz=>hc (by simp[z])) e⟩) (λ_ _ e=>e) (λ_ _ _ e=>e) (λb ps e=>⟨#[],by rw[e];simp⟩) (λm hm=>?_) (λb u e=>?_) I.bare
 ·have e:b=it:=by simpa using hb
  subst e;exact⟨h1,hL,h2,h3⟩
 ·obtain⟨o,es,ep,ho,r⟩:=hm;exact⟨o,es,ep,k _ o (Ne.symm hL) ho,r⟩
 ·refine(I.hok b u e).stay (λc v hc q=>k c v ?_ q) (λ_ q=>q) λ_ _ q=>q
  rcases hc with z|z
  ·rw[z];exact nit b u e
  ·exact nit c _ z
theorem Inv.tok (I:Inv X aA σ H s)(t:Nat):Inv X aA σ H { s with toks:=t }:=I.un (h':=s.heap) (t':=t) Un.refl I.hok
theorem Inv.kept {t':Nat}(I:Inv X aA σ H s)(k:∀b u,s.heap.get? b=some u->h'.get? b=some u):Inv X aA σ H { s with heap:=h',toks:=t' }:=I.un (Un.kept k) (I.hok.kept k)
theorem Inv.laid (I:Inv X aA σ H s)(k:∀b u,s.heap.get? b=some u->h'.get? b=some u)(hp:s.heap.objs.size<=a)(new:YH X.prog X.w (upd H a o) h' a o):
  Inv X aA σ (upd H a o) { s with heap:=h',toks:=t' }:=I.un (Un.laid k hp (I.hok.fresh hp)) (I.hok.laid k hp new)
theorem Inv.write (I:Inv X aA σ H s)(mu:Mut (H x))(he:e=x\/H e=some (.own x))(k:∀b u,b≠e->s.heap.get? b=some u->h'.get? b=some u)(heo:∃u,h'.get? e=some u)(new:YH X.prog X.w (upd H x o) h' x o):Inv X aA σ (upd H x o) { s with heap:=h',toks:=t' }:=I.un (Un.write mu he k heo) (I.hok.write mu he k heo new)
theorem Inv.pins_of (I:Inv X aA σ H s)(h:∀p∈pins',s.heap.get? p.1=some p.2/\H p.1=none/\p.1≠X.env.locals/\p.1 ∉ X.fs/\∀v,p.2.data≠.cell v):Inv X pins' σ H s:=
 ⟨I.ok,I.os,I.bare,I.base,I.loc,I.cell,I.free,I.freeC,λp hp=>(xC.mp hp).elim (λz=>I.pin p (List.mem_append_left _ z)) (h p),I.hok,I.len⟩
theorem GG {N:List Str}(hN:N.Nodup){i j:Nat}{x:Str}(a:N[i]?=some x)(b:N[j]?=some x):i=j:=by
 obtain⟨h1,e1⟩:=zD.mp a;obtain⟨h2,e2⟩:=zD.mp b;exact(List.getElem_inj hN).mp (e1.trans e2.symm)
theorem Hc {M:Model}{A:Around}{E:Value->Shared->Prop}{i:Nat}{x:Str}{v:V}{u:Value}{Q:Unit->Shared->Prop}(I:Inv X aA σ H s)(hN:X.N.Nodup)(hi:X.N[i]?=some x)(hx:Loc X.env.scope x)(r:ZG v u)
  (h:∀s',Inv X aA (σ.set i (some v)) H s'->(∃a,Heap.SameBut a s.heap s'.heap/\(a=X.env.locals\/X.env.cells.lookup x=some a))->Q () s')(hf:X.fn x=true\/X.env.scope.names.lookup x=some .local:=by first|exact .inl rfl|exact .inr rfl|assumption):wpAny M A (storeName X.env x u) Q E s:=by
 obtain⟨m,hn,hl⟩:=id I.loc;have hcls:(X.env.scope.kind==.class||(X.env.scope.kind==.module&&X.env.locals != X.env.globals))=false:=by rw[I.ok.kind];rfl
 have hiσ:i<σ.length:=by rw[I.len];exact(zD.mp hi).1
 have cne:=I.cne
 have tracked:∀ {a:Addr} {h':Heap},(∃o,s.heap.get? a=some o/\H a=none)->Heap.SameBut a s.heap h'->HOk X.prog X.w H h':=λ{a h'} ha hs b ob e=>by
  obtain⟨_,_,hfree⟩:=ha;refine(I.hok b ob e).stay (λc w' hc q=>(hs.2 c ?_).trans q) (λ_ q=>q) λ_ _ q=>q
  rintro rfl;rcases hc with rfl|hc
  ·rw[hfree] at e;cases e
  ·rw[hfree] at hc;cases hc
 rcases hx with hk|hk
 ·refine wpAny_storeName_local hk hn (λh' hn' hs=>?_) hcls;obtain⟨oL,_,_,hoL,_⟩:=id hn;refine h _ ⟨I.ok,I.os,I.bare,⟨λb o e n hb hx=>?_,λb o e n hb hx=>?_,I.base.free,λb o e hx=>?_,I.base.tups,I.base.frzs,I.base.tbls⟩,⟨_,hn',λj y v' e1 e2 e3=>?_⟩,λy c e=>?_,I.free,I.freeC,λp hp=>?_,tracked ⟨oL,hoL,I.free⟩ hs,by simpa using I.len⟩ ⟨_,hs,.inl rfl⟩
  ·exact(hs.2 b (zW (yB (Heap.lt_size e) I.ok.above))).trans (I.base.keep b o e n hb hx)
  ·obtain⟨sl,e1⟩:=I.base.slot b o e n hb hx;exact⟨sl,(hs.2 b (zW (yB (Heap.lt_size e) I.ok.above))).trans e1⟩
  ·obtain⟨o',e1⟩:=I.base.there b o e hx;exact⟨o',(hs.2 b (zW (yB (Heap.lt_size e) I.ok.above))).trans e1⟩
  ·by_cases hj:j=i
   ·subst hj;rw[hi] at e1;cases e1
    rw[xH hiσ] at e2;cases e2;exact⟨u,r,.inl ⟨hk,by simp⟩⟩
   ·rw[xP (Ne.symm hj)] at e2;obtain⟨u',r',q⟩:=hl j y v' e1 e2 e3;refine⟨u',r',?_⟩;rcases q with ⟨k,e⟩|⟨k,c,e,z⟩
    ·refine .inl ⟨k,?_⟩;have:y≠x:=λe=>hj (GG hN e1 (e ▸ hi))
     simp[this,e]
    ·exact .inr ⟨k,c,e,z.sameBut hs (cne y c e)⟩
  ·obtain⟨w',z⟩:=I.cell y c e;exact⟨w',z.sameBut hs (cne y c e)⟩
  ·obtain⟨e,n,ne,nf,d⟩:=I.pin p hp;exact⟨(hs.2 p.1 ne).trans e,n,ne,nf,d⟩
 ·have hfn:X.fn x=true:=by
   rcases hf with z|z
   ·exact z
   ·rw[z] at hk;cases hk
  obtain⟨c,hc⟩:=I.ok.has x (.inl hk);obtain⟨w',z⟩:=I.cell x c hc;refine wpAny_storeName_cell I.ok.kind hk hc z (λh' hc' hs=>?_);obtain⟨oc,hoc,hocd⟩:=id z;refine h { s with heap:=h' } ⟨I.ok,I.os,I.bare,⟨λb o e n hb hx=>?_,λb o e n hb hx=>?_,I.base.free,λb o e hx=>?_,I.base.tups,I.base.frzs,I.base.tbls⟩,⟨m,hn.sameBut hs (Ne.symm (cne x c hc)),λj y v' e1 e2 e3=>?_⟩,λy c' e=>?_,I.free,I.freeC,λp hp=>?_,tracked ⟨oc,hoc,I.freeC x c hc⟩ hs,by simpa using I.len⟩ ⟨c,hs,.inr hc⟩
  ·exact(hs.2 b (zW (yB (Heap.lt_size e) (I.ok.cab x c hfn hc)))).trans (I.base.keep b o e n hb hx)
  ·obtain⟨sl,e1⟩:=I.base.slot b o e n hb hx;exact⟨sl,(hs.2 b (zW (yB (Heap.lt_size e) (I.ok.cab x c hfn hc)))).trans e1⟩
  ·obtain⟨o',e1⟩:=I.base.there b o e hx;exact⟨o',(hs.2 b (zW (yB (Heap.lt_size e) (I.ok.cab x c hfn hc)))).trans e1⟩
  ·by_cases hj:j=i
   ·subst hj;rw[hi] at e1;cases e1
    rw[xH hiσ] at e2;cases e2;exact⟨u,r,.inr ⟨.inl hk,c,hc,hc'⟩⟩
   ·rw[xP (Ne.symm hj)] at e2;obtain⟨u',r',q⟩:=hl j y v' e1 e2 e3;refine⟨u',r',?_⟩;rcases q with q|⟨k,c',e,z'⟩
    ·exact .inl q
    ·refine .inr ⟨k,c',e,z'.sameBut hs ?_⟩;rintro rfl;exact hj (GG hN e1 (I.ok.inj _ _ _ e hc ▸ hi))
  ·by_cases hcc:c'=c
   ·subst hcc;exact⟨_,hc'⟩
   ·obtain⟨w2,z2⟩:=I.cell y c' e;exact⟨w2,z2.sameBut hs hcc⟩
  ·obtain⟨e,n,ne,nf,d⟩:=I.pin p hp;refine⟨(hs.2 p.1 ?_).trans e,n,ne,nf,d⟩;intro q;rw[q,hoc] at e;have q':oc=p.2:=Option.some.inj e;exact d w' (by rw[<- q'];exact hocd)
theorem NC (I:Inv X aA σ H s)(hN:X.N.Nodup)(hi:X.N[i]?=some x)(hx:Loc X.env.scope x)(r:ZG v u)(h:∀s',Inv X aA (σ.set i (some v)) H s'->Q () s')(hf:X.fn x=true\/X.env.scope.names.lookup x=some .local:=by first|exact .inl rfl|exact .inr rfl|assumption):wpAny M A (storeName X.env x u) Q E s:=
 Hc I hN hi hx r (λs' I' _=>h s' I') hf
theorem Inv.call' (I:Inv X aA σ H s)(ho:s'.os=s.os)(u:Un (frs X.stack) ch H H' s.heap s'.heap)(hok:HOk X.prog X.w H' s'.heap)(hg:AllBare s'.gens)(hch:∀b∈ch,(b∈X.ex\/X.s₀.heap.objs.size<=b)/\b≠X.env.locals/\(∀x c,X.env.cells.lookup x=some c->c≠b)/\∀p∈X.pn++aA,p.1≠b):Inv X aA σ H' s':=by
 obtain⟨h',g',d',t',o'⟩:=s';have e:o'=s.os:=ho;subst e;exact I.call (g':=g') (t':=t') (d':=d') u hok hg hch
end
abbrev XK:=Value->Option Addr->Hp->Prop
abbrev St:=List (Option V)
abbrev VK:=V->Hp->Prop
abbrev TE:=St->Hp->VK->Prop
abbrev TT:=St->Hp->(Bool->Hp->Prop)->Prop
abbrev TA:=St->Hp->(List V->Hp->Prop)->Prop
structure Us where
 nx:St->Hp->Prop
 rt:VK
 bk:St->Hp->Prop:=λ_ _=>False
 ct:St->Hp->Prop:=λ_ _=>False
abbrev TS:=Us->St->Hp->Prop
def EP (X:Cx)(aA:LA)(σ:St)(Q:VK)(u:Value)(s':Shared):Prop:=∃v H',Inv X aA σ H' s'/\ZG v u/\Q v H'
def TP (X:Cx)(aA:LA)(σ:St)(Q:Bool->Hp->Prop)(b:Bool)(s':Shared):Prop:=∃H',Inv X aA σ H' s'/\Q b H'
def AP (X:Cx)(aA:LA)(σ:St)(Q:List V->Hp->Prop)(us:List Value)(s':Shared):Prop:=∃vs H',Inv X aA σ H' s'/\ZI vs us/\Q vs H'
def SP (X:Cx)(aA:LA)(D:Us)(f:Flow)(s':Shared):Prop:=
 match f with
 | .next=>∃σ' H',Inv X aA σ' H' s'/\D.nx σ' H'
 | .brk=>∃σ' H',Inv X aA σ' H' s'/\D.bk σ' H'
 | .cont=>∃σ' H',Inv X aA σ' H' s'/\D.ct σ' H'
 | .ret u=>∃v σ' H',Inv X aA σ' H' s'/\ZG v u/\D.rt v H'
def PE (X:Cx)(e:Expr)(t:TE):Prop:=
 ∀(aA:LA)(s:Shared)(σ:St)(H:Hp)(Q:VK),Inv X aA σ H s->t σ H Q->wpAny (model X.prog X.w) X.A (eval e X.env) (EP X aA σ Q) X.xe s
def PT (X:Cx)(e:Expr)(t:TT):Prop:=
 ∀(aA:LA)(s:Shared)(σ:St)(H:Hp)(Q:Bool->Hp->Prop),Inv X aA σ H s->t σ H Q->wpAny (model X.prog X.w) X.A (isTrue e X.env (eval e X.env)) (TP X aA σ Q) X.xe s
def PW (X:Cx)(e:Expr)(t:TT):Prop:=
 ∀(aV:Sem Value)(aA:LA)(s:Shared)(σ:St)(H:Hp)(Q:Bool->Hp->Prop),Inv X aA σ H s->t σ H Q->wpAny (model X.prog X.w) X.A (isTrue e X.env aV) (TP X aA σ Q) X.xe s
theorem PW.pt (h:PW X e t):PT X e t:=h _
def PA (X:Cx)(es:List Expr)(t:TA):Prop:=
 ∀(pos:Pos)(aA:LA)(s:Shared)(σ:St)(H:Hp)(Q:List V->Hp->Prop),Inv X aA σ H s->t σ H Q->wpAny (model X.prog X.w) X.A (spliced (backTo pos (starEach es X.env))) (AP X aA σ Q) X.xe s
def PS (X:Cx)(st:Stmt)(t:TS):Prop:=
 ∀(aA:LA)(s:Shared)(σ:St)(H:Hp)(D:Us),Inv X aA σ H s->t D σ H->wpAny (model X.prog X.w) X.A (exec st X.env) (SP X aA D) X.xe s
def PSs (X:Cx)(st:List Stmt)(t:TS):Prop:=
 ∀(aA:LA)(s:Shared)(σ:St)(H:Hp)(D:Us),Inv X aA σ H s->t D σ H->wpAny (model X.prog X.w) X.A (execs st X.env) (SP X aA D) X.xe s
theorem thn {α:Type}{t:Sem α}{Q Q':α->Shared->Prop}{M:Model}{A:Around}{E:Value->Shared->Prop}{s:Shared}(h:wpAny M A t Q E s)(hQ:∀a s,Q a s->Q' a s):wpAny M A t Q' E s:=wpAny_mono h hQ λ_ _ x=>x
end L2
namespace L2
open PySem PySem.Spec PyProof.Rows
section
variable {X:Cx}
def tVar (i:Nat):TE:=λσ H Q=>∃v,σ[i]?=some (some v)/\Q v H
def tC (v:V):TE:=λ_ H Q=>Q v H
theorem Fj (hN:X.N[i]?=some x)(hv:Vis X.env.scope x)(hd:(x==("__debug__":Str))=false:=by decide)(hcd:(x==("__classdict__":Str))=false:=by decide):PE X (.Name x pos) (tVar i):=by
 intro aA s σ H Q I h;obtain⟨v,e,h⟩:=h;obtain⟨m,hn,hl⟩:=I.loc;obtain⟨u,r,l⟩:=hl i x v hN e hv;have bC:EP X aA σ Q u s:=⟨v,H,I,r,h⟩;rcases l with ⟨hk,hm⟩|⟨hk,c,hc,hcell⟩
 ·exact wpAny_Name (wpAny_loadName_local I.ok.kind hk hn hm bC) hd
 ·rcases hk with hk|hk
  ·exact wpAny_Name (wpAny_loadName_cell I.ok.kind hk hc hcell bC) hd
  ·exact wpAny_Name (wpAny_loadName_free I.ok.kind hk hc hcell bC hcd) hd
theorem zam {i j pos}:PE X (.Constant (.int i) j pos) (tC (.int i)):=λ_ _ _ H _ I h=>wpAny_Constant_int ⟨.int i,H,I.tok _,⟨_,rfl⟩,h⟩
theorem pe_bl {b j pos}:PE X (.Constant (.bool b) j pos) (tC (.bl b)):=λ_ _ _ H _ I h=>Constant_bool ⟨.bl b,H,I,rfl,h⟩
theorem zbb {x j pos}:PE X (.Constant (.str x) j pos) (tC (.str x)):=λ_ _ _ H _ I h=>Calls.Constant_str ⟨.str x,H,I.tok _,⟨_,rfl⟩,h⟩
def Gl (X:Cx)(x:Str):Prop:=X.env.kindOf x=some .globalImplicit
theorem G6 (I:Inv X aA σ H s)(hg:Gl X x)(hm:X.mg x=some u)(h:Q u s)(hd:(x==("__debug__":Str))=false:=by decide):wpAny (model X.prog X.w) X.A (eval (.Name x pos) X.env) Q E s:=
 Calls.Name_function_global I.ok.kind hg (Calls.loadGlobal_global (by rw[I.ok.glob];exact I.mod.glob.keeps I.bk) hm h) hd
theorem V9 (I:Inv X aA σ H s)(hg:Gl X x)(hm:X.mg x=none)(hv:bootBuiltins x=some u)(h:Q u s)(hn:x≠"__name__":=by decide)(hd:(x==("__debug__":Str))=false:=by decide):wpAny (model X.prog X.w) X.A (eval (.Name x pos) X.env) Q E s:=by
 obtain⟨mb,h1,h2⟩:=I.mod.blt;exact Calls.Name_function_global I.ok.kind hg (Calls.loadGlobal_builtin (by rw[I.ok.glob];exact I.mod.glob.keeps I.bk) hm (by rw[I.ok.blt];exact h1.keeps I.bk) ((h2 x hn).trans hv) h) hd
theorem zbS (hg:Gl X x)(hm:X.mg x=none)(hv:bootBuiltins x=some u)(r:ZG v u)(hn:x≠"__name__":=by decide)(hd:(x==("__debug__":Str))=false:=by decide):PE X (.Name x pos) (tC v):=
 λ_ _ _ H _ I h=>V9 I hg hm hv ⟨v,H,I,r,h⟩ hn hd
variable {a b:Expr}{ta tb:TE}{pos:Pos}
def tB (t:TE):TT:=λσ H Q=>t σ H λx H1=>∃c,x=.bl c/\Q c H1
theorem zaU (h:PE X e t)(he:∀aV,isTrue e X.env aV=(do let v <- aV;standAt e.pos;holding [v] (truthy v)):=by intro _;rfl):PT X e (tB t):=by
 intro aA s σ H Q I hw;refine isTrue_plain (thn (h aA s σ H _ I hw) λv s1 ⟨x,H1,I1,r1,q1⟩=>?_) (he _);obtain⟨d,rfl,q⟩:=q1;cases r1;exact wpAny_truthy_bool ⟨H1,I1,q⟩
variable {tA tB':TT}{YC:List Expr}
def tAnd (t u:TT):TT:=λσ H Q=>t σ H λc H1=>if c=true then u σ H1 Q else Q false H1
def tOr (t u:TT):TT:=λσ H Q=>t σ H λc H1=>if c=true then Q true H1 else u σ H1 Q
def tNot (t:TT):TT:=λσ H Q=>t σ H λc H1=>Q (!c) H1
theorem Cw (ha:PT X a tA):PW X (.BoolOp .And [a] pos) tA:=by
 intro wh aA s σ H Q I h;refine isTrue_and (thn (ha aA s σ H Q I h) λc s1 e=>?_);cases c with
 | true=>exact isTrue_and_nil e
 | false=>exact e
theorem Ci (ha:PT X a tA):PW X (.BoolOp .Or [a] pos) tA:=by
 intro wh aA s σ H Q I h;refine isTrue_or (thn (ha aA s σ H Q I h) λc s1 e=>?_);cases c with
 | false=>exact isTrue_or_nil e
 | true=>exact e
theorem Bj (ha:PT X a tA)(hb:PW X (.BoolOp .And (b::YC) pos) tB'):PW X (.BoolOp .And (a::b::YC) pos) (tAnd tA tB'):=by
 intro wh aA s σ H Q I h;refine isTrue_and (thn (ha aA s σ H _ I h) λc s1 ⟨H1,I1,q1⟩=>?_);cases c with
 | true=>exact hb wh aA s1 σ H1 Q I1 q1
 | false=>exact⟨H1,I1,q1⟩
theorem pw_or (ha:PT X a tA)(hb:PW X (.BoolOp .Or (b::YC) pos) tB'):PW X (.BoolOp .Or (a::b::YC) pos) (tOr tA tB'):=by
 intro wh aA s σ H Q I h;refine isTrue_or (thn (ha aA s σ H _ I h) λc s1 ⟨H1,I1,q1⟩=>?_);cases c with
 | true=>exact⟨H1,I1,q1⟩
 | false=>exact hb wh aA s1 σ H1 Q I1 q1
theorem CG (ha:PT X a tA):PT X (.UnaryOp .Not a pos) (tNot tA):=by
 intro aA s σ H Q I h;exact isTrue_not (ha aA s σ H (λc H1=>Q (!c) H1) I h)
def tAndV (ta tb:TE):TE:=λσ H Q=>ta σ H λx H1=>∃c,x=.bl c/\if c=true then tb σ H1 Q else Q (.bl false) H1
theorem DE {op}(h:PE X a t):PE X (.BoolOp op [a] pos) t:=λaA s σ H Q I hw=>BoolOp_one (h aA s σ H Q I hw)
theorem Al (ha:PE X a ta)(hb:PE X (.BoolOp .And (b::YC) pos) tb):PE X (.BoolOp .And (a::b::YC) pos) (tAndV ta tb):=by
 intro aA s σ H Q I h;refine BoolOp_and (thn (ha aA s σ H _ I h) λv s1 ⟨x,H1,I1,r1,q1⟩=>?_);obtain⟨c,rfl,q1⟩:=q1;cases r1;refine wpAny_truthy_bool ?_;cases c with
 | true=>exact hb aA s1 σ H1 Q I1 q1
 | false=>exact⟨.bl false,H1,I1,rfl,q1⟩
def tIf (t:TT)(ta tb:TE):TE:=λσ H Q=>t σ H λc H1=>if c=true then ta σ H1 Q else tb σ H1 Q
theorem zaw (hc:PT X c tA)(ha:PE X a ta)(hb:PE X b tb):PE X (.IfExp c a b pos) (tIf tA ta tb):=by
 intro aA s σ H Q I h;refine wpAny_IfExp (thn (hc aA s σ H _ I h) λd s1 ⟨H1,I1,q1⟩=>?_);cases d with
 | true=>exact ha aA s1 σ H1 Q I1 q1
 | false=>exact hb aA s1 σ H1 Q I1 q1
end
end L2
namespace L2
open PySem PySem.Spec PyProof.Rows
def SqL (K:Fg)(H:Hp)(a:Addr)(xs:List V):Prop:=
 Rd H a (.lst xs)\/
  ∃(o:Obj)(bA:Array Value)(n:Nat),K.lookup a=some o/\o.cls=.type "list"/\o.dict=none/\o.data=.seq bA n/\bA.size<=sizeLine/\ZI xs bA.toList
def SqT (K:Fg)(H:Hp)(a:Addr)(xs:List V):Prop:=
 Rd H a (.tup xs)\/
  ∃(o:Obj)(bA:Array Value)(n:Nat),K.lookup a=some o/\o.cls=.type "tuple"/\o.data=.seq bA n/\bA.size<=sizeLine/\ZI xs bA.toList
def absV:Value->Option V
 | .none=>some .non
 | .bool b=>some (.bl b)
 | .int i _=>some (.int i)
 | .str x _=>some (.str x)
 | .bytes b _=>some (.byt b)
 | .float b _=>some (.flt b)
 | .ref a=>some (.ref a)
 | .type n=>some (.ty n)
 | _=>none
theorem ZG.abs (r:ZG x u):absV u=some x:=by
 cases x with
 | non=>cases r;rfl
 | bl _=>cases r;rfl
 | int _=>obtain⟨t,rfl⟩:=r;rfl
 | str _=>obtain⟨t,rfl⟩:=r;rfl
 | byt _=>obtain⟨t,rfl⟩:=r;rfl
 | flt _=>obtain⟨t,rfl⟩:=r;rfl
 | ref _=>cases r;rfl
 | ty _=>cases r;rfl
theorem ZG.inj (r:ZG x u)(q:ZG y u):x=y:=Option.some.inj (r.abs.symm.trans q.abs)
theorem ZI.inj:∀ {xs ys:List V} {us:List Value},ZI xs us->ZI ys us->xs=ys
 | _,_,_,.nil,.nil=>rfl
 | _,_,_,.cons r t,.cons r' t'=>by rw[r.inj r',ZI.inj t t']
section
variable {X:Cx}{aA:LA}{σ:St}{H:Hp}{s:Shared}{a:Addr}{xs ys:List V}
theorem SqL.of {K:Fg}(h:H a=some (.lst xs)):SqL K H a xs:=.inl (.inl h)
theorem SqT.of {K:Fg}(h:H a=some (.tup xs)):SqT K H a xs:=.inl (.inl h)
theorem Inv.list (I:Inv X aA σ H s)(h:SqL X.K H a xs):∃bA:List Value,ZI xs bA/\PlainL s.heap a bA.toArray/\xs.length<=sizeLine:=by
 rcases h with h|⟨o,bA,n,hk,hc,hd,hs,hz,r⟩
 ·obtain⟨z,bA,n,r,e⟩:=h.ok I.hok;exact⟨bA,r,⟨_,n,e,rfl,rfl,rfl⟩,z⟩
 ·refine⟨bA.toList,r,⟨o,n,I.kIn a o hk,hc,hd,by simpa using hs⟩,?_⟩;have e:=r.length;simp only[Array.length_toList] at e;omega
theorem Inv.tuple (I:Inv X aA σ H s)(h:SqT X.K H a xs):∃bA:List Value,ZI xs bA/\IsTup s.heap a bA.toArray/\xs.length<=sizeLine:=by
 rcases h with h|⟨o,bA,n,hk,hc,hs,hz,r⟩
 ·obtain⟨z,bA,r,p⟩:=h.ok I.hok;exact⟨bA,r,p,z⟩
 ·refine⟨bA.toList,r,⟨o,I.kIn a o hk,hc,n,by simpa using hs⟩,?_⟩;have e:=r.length;simp only[Array.length_toList] at e;omega
theorem Inv.list_inj (I:Inv X aA σ H s)(h:SqL X.K H a xs)(h':SqL X.K H a ys):xs=ys:=by
 obtain⟨bA,r,⟨o,n,e,_,_,d⟩,_⟩:=I.list h;obtain⟨its',r',⟨o',n',e',_,_,d'⟩,_⟩:=I.list h';rw[e] at e';cases e'
 rw[d] at d';injection d' with d1 _
 have:bA=its':=by simpa using congrArg Array.toList d1
 subst this;exact r.inj r'
theorem Inv.tuple_inj (I:Inv X aA σ H s)(h:SqT X.K H a xs)(h':SqT X.K H a ys):xs=ys:=by
 obtain⟨bA,r,⟨o,e,_,n,d⟩,_⟩:=I.tuple h;obtain⟨its',r',⟨o',e',_,n',d'⟩,_⟩:=I.tuple h';rw[e] at e';cases e'
 rw[d] at d';injection d' with d1 _
 have:bA=its':=by simpa using congrArg Array.toList d1
 subst this;exact r.inj r'
end
abbrev Cx.wish (X:Cx)(E:Value->Shared->Prop):Cx:={ X with xe:=E }
abbrev Cx.nox (X:Cx):Cx:=X.wish λ_ _=>False
theorem Cx.Ok.wish {X:Cx}(ok:X.Ok)(E:Value->Shared->Prop):(X.wish E).Ok:=
 ⟨ok.mod,ok.kind,ok.glob,ok.blt,ok.above,ok.inj,ok.has,ok.cab,ok.hd,ok.frames,ok.stk,ok.exf,ok.bs,ok.bsz,ok.noex,ok.exfs,ok.funs,ok.frf⟩
theorem Cx.Ok.unwish {X:Cx}{E:Value->Shared->Prop}(ok:(X.wish E).Ok):X.Ok:=
 ⟨ok.mod,ok.kind,ok.glob,ok.blt,ok.above,ok.inj,ok.has,ok.cab,ok.hd,ok.frames,ok.stk,ok.exf,ok.bs,ok.bsz,ok.noex,ok.exfs,ok.funs,ok.frf⟩
section
variable {X:Cx}{aA:LA}{σ:St}{H:Hp}{s:Shared}{E:Value->Shared->Prop}
theorem Inv.wish (I:Inv X aA σ H s)(E:Value->Shared->Prop):Inv (X.wish E) aA σ H s:=⟨I.ok.wish E,I.os,I.bare,I.base,I.loc,I.cell,I.free,I.freeC,I.pin,I.hok,I.len⟩
theorem Inv.unwish (I:Inv (X.wish E) aA σ H s):Inv X aA σ H s:=⟨I.ok.unwish,I.os,I.bare,I.base,I.loc,I.cell,I.free,I.freeC,I.pin,I.hok,I.len⟩
theorem SP.unwish (h:SP (X.wish E) aA D f s'):SP X aA D f s':=by
 cases f with
 | next=>obtain⟨σ',H',I,q⟩:=h;exact⟨σ',H',I.unwish,q⟩
 | brk=>obtain⟨σ',H',I,q⟩:=h;exact⟨σ',H',I.unwish,q⟩
 | cont=>obtain⟨σ',H',I,q⟩:=h;exact⟨σ',H',I.unwish,q⟩
 | ret u=>obtain⟨v,σ',H',I,r,q⟩:=h;exact⟨v,σ',H',I.unwish,r,q⟩
theorem PSs.nox {st:List Stmt}{t:TS}(h:PSs X.nox st t):PSs X st t:=λaA s σ H D I hw=>
 wpAny_mono (h aA s σ H D (I.wish _) hw) (λ_ _ q=>q.unwish) λ_ _ z=>False.elim z
end
section
variable {X:Cx}{st:Stmt}{YC:List Stmt}{t u:TS}{e:Expr}{te:TE}{pos:Pos}
def tNext:TS:=λD σ H=>D.nx σ H
def tSeq (t u:TS):TS:=λD σ H=>t { D with nx:=u D } σ H
theorem zdT:PSs X [] tNext:=λ_ _ σ H _ I h=>wpAny_execs_nil ⟨σ,H,I,h⟩
theorem C5 (h1:PS X st t)(h2:PSs X YC u):PSs X (st::YC) (tSeq t u):=by
 intro aA s σ H D I h;refine wpAny_execs_cons (thn (h1 aA s σ H { D with nx:=u D } I h) λf s1 q=>?_);cases f with
 | next=>
  obtain⟨σ',H',I',q⟩:=q;exact h2 aA s1 σ' H' D I' q
 | ret v=>exact q
 | brk=>exact q
 | cont=>exact q
theorem B8 (h1:PS X st t):PSs X [st] t:=by
 intro aA s σ H D I h;refine wpAny_execs_cons (thn (h1 aA s σ H D I h) λf s1 q=>?_);cases f with
 | next=>exact wpAny_execs_nil q
 | ret v=>exact q
 | brk=>exact q
 | cont=>exact q
theorem Inv.quiet (I:Inv X aA σ H s):interactive X.env=false:=by simp[interactive,I.ok.kind]
def tDrop (te:TE):TS:=λD σ H=>te σ H λ_ H1=>D.nx σ H1
theorem Bz (he:PE X e te)(hs:swapsWith e none pos.line X.env=pure false:=by rfl):PS X (.Expr e pos) (tDrop te):=by
 intro aA s σ H D I h;exact wpAny_Expr_any (thn (he aA s σ H _ I h) λv s1 ⟨x,H1,I1,r1,q1⟩=>⟨σ,H1,I1,q1⟩) I.quiet hs
def tRet (te:TE):TS:=λD σ H=>te σ H D.rt
theorem B0 (he:PE X e te):PS X (.Return (some e) pos) (tRet te):=by
 intro aA s σ H D I h;exact wpAny_Return_some (thn (he aA s σ H _ I h) λv s1 ⟨x,H1,I1,r1,q1⟩=>⟨x,σ,H1,I1,r1,q1⟩)
def tIfS (c:TT)(t u:TS):TS:=λD σ H=>c σ H λb H1=>if b=true then t D σ H1 else u D σ H1
theorem ps_if (hc:PT X c tc)(ha:PSs X a t)(hb:PSs X b u):PS X (.If c a b pos) (tIfS tc t u):=by
 intro aA s σ H D I h;refine wpAny_If (thn (hc aA s σ H _ I h) λd s1 ⟨H1,I1,q1⟩=>?_);cases d with
 | true=>exact ha aA s1 σ H1 D I1 q1
 | false=>exact hb aA s1 σ H1 D I1 q1
def Av:TS:=λ_ _ _=>False
theorem Dh:PS X st Av:=λ_ _ _ _ _ _ h=>h.elim
end
abbrev TG:=V->St->Hp->(St->Hp->Prop)->Prop
abbrev TGs:=List V->St->Hp->(St->Hp->Prop)->Prop
def PG (X:Cx)(target:Expr)(t:TG):Prop:=
 ∀(aA:LA)(s:Shared)(σ:St)(H:Hp)(v:V)(u:Value)(Q:St->Hp->Prop),Inv X aA σ H s->ZG v u->t v σ H Q->
  wpAny (model X.prog X.w) X.A (assign target X.env u) (λ_ s'=>∃σ' H',Inv X aA σ' H' s'/\Q σ' H') X.xe s
def PGs (X:Cx)(ts:List Expr)(t:TGs):Prop:=
 ∀(aA:LA)(s:Shared)(σ:St)(H:Hp)(vs:List V)(us:List Value)(Q:St->Hp->Prop),Inv X aA σ H s->ZI vs us->t vs σ H Q->
  wpAny (model X.prog X.w) X.A (assignInOrder ((assignEach ts X.env).map (·.2)) us) (λ_ s'=>∃σ' H',Inv X aA σ' H' s'/\Q σ' H') X.xe s
abbrev TSet:=V->V->V->Hp->(Hp->Prop)->Prop
def PSet (X:Cx)(t:TSet):Prop:=
 ∀(aA:LA)(s:Shared)(σ:St)(H:Hp)(o i v:V)(ov iv u:Value)(Q:Hp->Prop),Inv X aA σ H s->ZG o ov->ZG i iv->ZG v u->t o i v H Q->
  wpAny (model X.prog X.w) X.A (setItem ov iv u) (λ_ s'=>∃H',Inv X aA σ H' s'/\Q H') X.xe s
section
variable {X:Cx}{pos:Pos}
def Gw (i:Nat):TG:=λv σ H Q=>Q (σ.set i (some v)) H
theorem UX (hN:X.N.Nodup)(hi:X.N[i]?=some x)(hx:Loc X.env.scope x)(hf:X.fn x=true\/X.env.scope.names.lookup x=some .local:=by first|exact .inl rfl|exact .inr rfl|assumption):PG X (.Name x pos) (Gw i):=by
 intro aA s σ H v u Q I r h;exact wpAny_assign_Name (NC I hN hi hx r (λs' I'=>⟨_,H,I',h⟩) hf)
def gNil:TGs:=λvs σ H Q=>vs=[]/\Q σ H
def gCons (t:TG)(u:TGs):TGs:=λvs σ H Q=>∃v r,vs=v::r/\t v σ H λσ' H'=>u r σ' H' Q
theorem zdc:PGs X [] gNil:=by
 intro aA s σ H vs us Q I r h;obtain⟨e,h⟩:=h;subst e;cases r;exact assignInOrder_nil ⟨σ,H,I,h⟩
theorem zcc (h1:PG X e t)(h2:PGs X es u)(hs:(assignEach (e::es) X.env).map (·.2)=assign e X.env::(assignEach es X.env).map (·.2):=by rfl):PGs X (e::es) (gCons t u):=by
 intro aA s σ H vs us Q I r h;obtain⟨v,vr,e1,h⟩:=h;subst e1;cases r with
 | cons r rr=>
  rw[hs];refine assignInOrder_cons (thn (h1 aA s σ H _ _ _ I r h) λ_ s1 ⟨σ1,H1,I1,q1⟩=>?_);exact h2 aA s1 σ1 H1 _ _ Q I1 rr q1
def UM (K:Fg)(n:Nat)(t:TGs):TG:=λv σ H Q=>∃a xs,v=.ref a/\SqT K H a xs/\xs.length=n/\t xs σ H Q
theorem UY (hc:X.calm=true)(h:PGs X es t)(hn:(assignEach es X.env).length=n:=by rfl)(hst:(assignEach es X.env).findIdx? (·.1)=none:=by rfl):PG X (.Tuple es k pos) (UM X.K n t):=by
 intro aA s σ H v u Q I r hw;obtain⟨a,xs,e1,hq,hl,hw⟩:=hw;subst e1;cases r;obtain⟨bA,rv,ht,hz⟩:=I.tuple hq;refine assign_Tuple_tuple (I.ok.hd hc) ht (by simp[hn,<- hl,rv.length]) hst λh' hx=>?_
 have I1:Inv X aA σ H { s with heap:=h' }:=I.kept (t':=s.toks) λb o e=>hx b o (zW (Heap.lt_size e)) e
 exact h aA _ σ H xs _ Q I1 (by simpa using rv) hw
def gSub (to ti:TE)(t:TSet):TG:=λv σ H Q=>to σ H λo H1=>ti σ H1 λi H2=>t o i v H2 λH3=>Q σ H3
theorem Ar (ho:PE X o to)(hi:PE X i ti)(hs:PSet X t)(ha:∀v,assign (.Subscript o i pos) X.env v=(do
   let ov <- holding [v] (eval o X.env)
   let iv <- holding [v,ov] (eval i X.env)
   standAt pos
   holding [v,ov,iv] (setItem ov iv v)
   release [v,ov,iv] []):=by intro _;rfl):PG X (.Subscript o i pos) (gSub to ti t):=by
 intro aA s σ H v u Q I r h;rw[ha];refine wpAny_bind (wpAny_holding (thn (ho aA s σ H _ I h) λov s1 ⟨x,H1,I1,r1,q1⟩=>?_));refine wpAny_bind (wpAny_holding (thn (hi aA s1 σ H1 _ I1 q1) λiv s2 ⟨y,H2,I2,r2,q2⟩=>?_));refine wpAny_bind (wpAny_standAt (wpAny_bind (wpAny_holding (thn (hs aA s2 σ H2 x y v ov iv u _ I2 r1 r2 r q2) λ_ s3 ⟨H3,I3,q3⟩=>?_))));exact wpAny_release ⟨σ,H3,I3,q3⟩
def tAsg (te:TE)(g:TG):TS:=λD σ H=>te σ H λx H1=>g x σ H1 D.nx
theorem GO (he:PE X e te)(hg:PG X tg g)(hs:swapsWithSole [tg] e pos.line X.env=pure false:=by rfl)(hw:swappedStores [tg] e X.env=pure none:=by rfl)(h1:(assignEach [tg] X.env).map (·.2)=[assign tg X.env]:=by rfl):PS X (.Assign [tg] e pos) (tAsg te g):=by
 intro aA s σ H D I h;refine wpAny_Assign_stores (thn (he aA s σ H _ I h) λv s1 ⟨x,H1,I1,r1,q1⟩=>?_) hs hw;rw[h1];exact thn (hg aA s1 σ H1 x v _ I1 r1 q1) λ_ s2 q=>q
theorem Cc (hN:X.N.Nodup)(hi:X.N[i]?=some x)(hx:Loc X.env.scope x)(he:PE X e te)(hs:swapsWith e (some (.Name x pos')) pos.line X.env=pure false:=by rfl)(hf:X.fn x=true\/X.env.scope.names.lookup x=some .local:=by first|exact .inl rfl|exact .inr rfl|assumption):
  PS X (.Assign [.Name x pos'] e pos) (tAsg te (Gw i)):=by
 intro aA s σ H D I h;refine wpAny_Assign_Name (thn (he aA s σ H _ I h) λv s1 ⟨y,H1,I1,r1,q1⟩=>?_) hs;exact NC I1 hN hi hx r1 (λs2 I2=>⟨_,H1,I2,q1⟩) hf
def tPar (i j:Nat)(ta:TA):TS:=λD σ H=>ta σ H λvs H1=>∃v w,vs=[v,w]/\D.nx ((σ.set i (some v)).set j (some w)) H1
theorem zcD {kt k2 pt2}(hc:X.calm=true)(hN:X.N.Nodup)(hi:X.N[i]?=some x)(hj:X.N[j]?=some y)(hij:i≠j)(hx:X.env.scope.names.lookup x=some .local)(hy:X.env.scope.names.lookup y=some .local)(ha:PA X [a,b] ta)(hw:swappedStores [.Tuple [.Name x px,.Name y py] kt pt] (.Tuple [a,b] k2 pt2) X.env=pure (some [x,y]))(hs:swapsWithSole [.Tuple [.Name x px,.Name y py] kt pt] (.Tuple [a,b] k2 pt2) pos.line X.env=pure false:=by rfl):
  PS X (.Assign [.Tuple [.Name x px,.Name y py] kt pt] (.Tuple [a,b] k2 pt2) pos) (tPar i j ta):=by
 intro aA s σ H D I h;rw[exec_Assign_arm];refine wpAny_bind (wpAny_standAt ?_);rw[hs];refine wpAny_bind (wpAny_pure ?_);rw[if_neg (by decide)];refine wpAny_bind (Tuple_ (thn (ha _ aA s σ H _ I h) λus s1 ⟨vs,H1,I1,r1,q1⟩=>?_));obtain⟨v,w,e1,q1⟩:=q1;subst e1;obtain⟨u1,u2,rfl,rv,rw'⟩:∃u1 u2,us=[u1,u2]/\ZG v u1/\ZG w u2:=by
  cases r1 with
  | cons p q=>
   cases q with
   | cons p' q'=>
    cases q';exact⟨_,_,rfl,p,p'⟩
 refine wpAny_newObj_type ?_ (by show 2<=sizeLine;decide);have I2:Inv X aA σ H1 { s1 with heap:=s1.heap.push { cls:=.type "tuple",data:=.seq [u1,u2].toArray } }:=I1.kept (t':=s1.toks) λb o e=>Heap.get?_push_of_some _ e
 rw[hw];refine wpAny_bind (wpAny_pure ?_);show wpAny (model X.prog X.w) X.A (do rule "assign.swapped-stores";let items <- unpackItems (.ref s1.heap.objs.size) 2 none;assignInOrder [λv=>bindName X.env y v,λv=>bindName X.env x v] items.reverse;pure Flow.next) _ _ _;refine wpAny_bind (wpAny_rule (wpAny_bind (unpackItems_tuple (items:=#[u1,u2]) (I.ok.hd hc) (IsTup.new s1.heap _) λh' hx'=>?_)));have I3:=I2.kept (h':=h') (t':=s1.toks) λb o e=>hx' b o (zW (Heap.lt_size e)) e
 show wpAny _ _ (assignInOrder [λv=>bindName X.env y v,λv=>bindName X.env x v] [u2,u1] >>= λ_=>pure Flow.next) _ _ _;refine wpAny_bind (assignInOrder_cons (wpAny_bindName (NC I3 hN hj (.inl hy) rw' (λs2 I4=>?_) (.inr hy))));refine assignInOrder_cons (wpAny_bindName (NC I4 hN hi (.inl hx) rv (λs3 I5=>assignInOrder_nil (wpAny_pure ?_)) (.inr hx)));rw[List.set_comm _ _ (Ne.symm hij)] at I5;exact⟨_,H1,I5,q1⟩
end
section
variable {X:Cx}{pos:Pos}
def BJ (c:TT)(tb:TS):TS:=λD σ H=>∃W:Nat->St->Hp->Prop,(∃m,W m σ H)/\∀m σ H,W m σ H->
 c σ H λb H1=>if b=true then ∃N:St->Hp->Prop,(∀σ' H',N σ' H'->∃m',m'<m/\W m' σ' H')/\tb { D with nx:=N,ct:=N,bk:=D.nx } σ H1 else D.nx σ H1
theorem zaX (hp:PassesOwn (model X.prog X.w) X.A X.env X.xe)(hc:PT X c tc)(hb:PSs X body tb):PS X (.While c body [] pos) (BJ tc tb):=by
 intro aA s σ H D I h;obtain⟨W,⟨m0,w0⟩,turn⟩:=h;refine wpAny_While (codeAny_whileLoop (λn s'=>∃σ' H',Inv X aA σ' H' s'/\W n σ' H') ?_ m0 ⟨σ,H,I,w0⟩);rintro n s1 ⟨σ1,H1,I1,w1⟩;refine wpAny_passesOwn hp (thn (hc aA s1 σ1 H1 _ I1 (turn n σ1 H1 w1)) λb s2 ⟨H2,I2,q2⟩=>?_);cases b with
 | true=>
  obtain⟨N,hN,q2⟩:=q2;rw[if_pos rfl];refine wpAny_passesOwn hp (thn (hb aA s2 σ1 H2 _ I2 q2) λf s3 q3=>?_);cases f with
  | next=>
   obtain⟨σ3,H3,I3,n3⟩:=q3;obtain⟨m',hm,w3⟩:=hN σ3 H3 n3;exact⟨m',hm,σ3,H3,I3,w3⟩
  | cont=>
   obtain⟨σ3,H3,I3,n3⟩:=q3;obtain⟨m',hm,w3⟩:=hN σ3 H3 n3;exact⟨m',hm,σ3,H3,I3,w3⟩
  | brk=>exact q3
  | ret v=>exact q3
 | false=>
  rw[if_neg zX];exact wpAny_execs_nil ⟨σ1,H2,I2,q2⟩
end
structure It where
 go:Nat->Hp->Prop
 yld:Nat->Hp->V->Hp->Prop
 stop:Nat->Hp->Prop
def Xb (X:Cx)(aA:LA)(H:Hp)(b:Addr):Prop:=
 H b=none/\b≠X.env.locals/\b ∉ X.fs/\(b∈X.ex\/X.s₀.heap.objs.size<=b)/\(∀x c,X.env.cells.lookup x=some c->c≠b)/\∀p∈X.pn++aA,p.1≠b
theorem Inv.fpOk {X:Cx}{aA:LA}{σ:St}{H H':Hp}{s:Shared}{b:Addr}(I:Inv X aA σ H s)(hb:s.heap.objs.size<=b)(hn:H' b=none):Xb X aA H' b:=by
 refine⟨hn,Nat.ne_of_gt (yB I.lt hb),I.nofs hb,.inr (yH I.sz hb),λx c e z=>?_,λp hp z=>?_⟩
 ·obtain⟨v,q⟩:=I.cell x c e;exact absurd (yB q.lt (by rw[z];exact hb)) (yV _)
 ·exact absurd (yB (Heap.lt_size (I.pin p hp).1) (by rw[z];exact hb)) (yV _)
structure Tr (P:Program)(w:World)(K:Fg)(tg:Expr)(J:It)(fp:List Addr)(it:Addr)(tn:Nat->Heap->Prop):Prop where
 mem:it∈fp
 obj:∀i h,tn i h->∀b∈fp,∃o,h.get? b=some o/\∀v,o.data≠.cell v
 keep:∀i h h',tn i h->(∀b∈fp,∀o,h.get? b=some o->h'.get? b=some o)->tn i h'
 item:∀(X:Cx),X.prog=P->X.w=w->X.K=K->X.calm=true->∀(i:Nat)(aA:LA)(s:Shared)(σ:St)(H:Hp)(E:Value->Shared->Prop),Inv X aA σ H s->(∀b∈fp,Xb X aA H b)->tn i s.heap->J.go i H->
  wpAny (model P w) X.A (pyNext (.ref it)) (λr s1=>∃u,r=some u/\
   wpAny (model P w) X.A (letOwnedTupleGo tg (.ref it) u) (λ_ s2=>∃x H',Inv X aA σ H' s2/\ZG x u/\J.yld i H x H'/\tn (i+1) s2.heap/\∀b∈fp,H' b=none) E s1) E s
 done:∀(X:Cx),X.prog=P->X.w=w->X.K=K->X.calm=true->∀(i:Nat)(aA:LA)(s:Shared)(σ:St)(H:Hp)(E:Value->Shared->Prop),Inv X aA σ H s->(∀b∈fp,Xb X aA H b)->tn i s.heap->J.stop i H->
  wpAny (model P w) X.A (pyNext (.ref it)) (λr s1=>r=none/\Inv X aA σ H s1) E s
 self:∀(A:Around)(i:Nat)(s:Shared)(Q:Value->Shared->Prop)(E:Value->Shared->Prop),tn i s.heap->Q (.ref it) s->wpAny (model P w) A (pyIter (.ref it)) Q E s
abbrev TI:=St->Hp->(It->Hp->Prop)->Prop
def PIE (X:Cx)(aA:LA)(σ:St)(tg:Expr)(R:It->Hp->Prop)(itv:Value)(s2:Shared):Prop:=
 ∃(it:Addr)(fp:List Addr)(tn:Nat->Heap->Prop)(J:It)(H':Hp),itv=.ref it/\Inv X aA σ H' s2/\Tr X.prog X.w X.K tg J fp it tn/\tn 0 s2.heap/\(∀b∈fp,Xb X aA H' b)/\R J H'
def PI (X:Cx)(tg aX:Expr)(wi:TI):Prop:=
 ∀(aA:LA)(s:Shared)(σ:St)(H:Hp)(R:It->Hp->Prop),Inv X aA σ H s->wi σ H R->
  wpAny (model X.prog X.w) X.A (eval aX X.env) (λv s1=>wpAny (model X.prog X.w) X.A (pyIter v) (PIE X aA σ tg R) X.xe s1) X.xe s
theorem JL (ho:s.heap.get? it=some o)(hc:o.cls=.type n)(hd:o.data=.fields vs)(hn:["enumerate","zip","dict_itemiterator","dict_reverseitemiterator","odict_iterator","itertools.zip_longest","itertools.pairwise"].contains n=false)(hQ:Q () s):wpAny M A (letOwnedTupleGo tg (.ref it) u) Q E s:=by
  unfold letOwnedTupleGo;cases tg<;>first
    | exact wpAny_pure hQ
    | (cases u<;>first
        | exact wpAny_pure hQ
        | (refine wpAny_bind (wpAny_load ho ?_)
           rw[hc,hd];show wpAny M A (if (["enumerate","zip","dict_itemiterator","dict_reverseitemiterator","odict_iterator","itertools.zip_longest","itertools.pairwise"].contains n&&vs[0]?==some (rawInt _))=true then _ else _) Q E s;rw[if_neg (by intro h;rw[hn,Bool.false_and] at h;cases h)];exact wpAny_pure hQ))
def Itl (K:Fg)(a:Addr):It:=
 ⟨λi H=>∃xs x,SqL K H a xs/\xs[i]?=some x,λi H x H'=>H'=H/\∀xs,SqL K H a xs->xs[i]?=some x,λi H=>∃xs,SqL K H a xs/\xs.length<=i⟩
def Itt (K:Fg)(a:Addr):It:=
 ⟨λi H=>∃xs x,SqT K H a xs/\xs[i]?=some x,λi H x H'=>H'=H/\∀xs,SqT K H a xs->xs[i]?=some x,λi H=>∃xs,SqT K H a xs/\xs.length<=i⟩
def Itr (lo:Int)(n:Nat):It:=⟨λi _=>i<n,λi H x H'=>H'=H/\x=.int (lo+i),λi _=>n<=i⟩
theorem Cq {P:Program}{w:World}{K:Fg}{tg:Expr}(a it:Addr):Tr P w K tg (Itl K a) [it] it (λi h=>h.IsListIter it a i) where
 mem:=by simp
 obj:=λi h st b hb=>by
  have e:b=it:=by simpa using hb
  subst e;obtain⟨o,e,c,d⟩:=st;exact⟨o,e,λv z=>by rw[d] at z;cases z⟩
 keep:=λi h h' st k=>st.at λo e=>k it (by simp) o e
 item:=by
  intro X hP hw hK hc i aA s σ H E I hf st hg;subst hP hw hK;obtain⟨xs,x,hq,hx⟩:=hg;obtain⟨bA,rv,p,hz⟩:=I.list hq;obtain⟨u,hu,ru⟩:=rv.get hx;obtain⟨f0,f1,f2,f3,f4,f5⟩:=hf it (by simp);refine wpAny_pyNext_list_item st p.isList (x:=u) (by simpa using hu) λh' st' sb=>?_
  have I1:Inv X aA σ H { s with heap:=h' }:=I.turned (t':=s.toks) (λb o hb e=>(sb.2 b hb).trans e) f0 f1 f3 f4 f5;obtain⟨o,e,c,d⟩:=id st';exact⟨u,rfl,JL (s:={ s with heap:=h' }) e c d (by decide) ⟨x,H,I1,ru,⟨rfl,λys hy=>by rw[I.list_inj hy hq];exact hx⟩,st',λb hb=>(hf b hb).1⟩⟩
 done:=by
  intro X hP hw hK hc i aA s σ H E I hf st hg;subst hP hw hK;obtain⟨xs,hq,hx⟩:=hg;obtain⟨bA,rv,p,hz⟩:=I.list hq;obtain⟨f0,f1,f2,f3,f4,f5⟩:=hf it (by simp);have hl:=rv.length;exact wpAny_pyNext_list_end (I.ok.hd hc) st p.isList (by simp;omega) λh' eb=>⟨rfl,I.turned (t':=s.toks) (λb o hb e=>eb b o hb e) f0 f1 f3 f4 f5⟩
 self:=λ_ _ _ _ _ st h=>wpAny_pyIter_listiter st h
theorem zdA {P:Program}{w:World}{K:Fg}{tg:Expr}(a it:Addr):Tr P w K tg (Itt K a) [it] it (λi h=>h.IsTupleIter it a i) where
 mem:=by simp
 obj:=λi h st b hb=>by
  have e:b=it:=by simpa using hb
  subst e;obtain⟨o,e,c,d⟩:=st;exact⟨o,e,λv z=>by rw[d] at z;cases z⟩
 keep:=λi h h' st k=>st.at λo e=>k it (by simp) o e
 item:=by
  intro X hP hw hK hc i aA s σ H E I hf st hg;subst hP hw hK;obtain⟨xs,x,hq,hx⟩:=hg;obtain⟨bA,rv,p,hz⟩:=I.tuple hq;obtain⟨u,hu,ru⟩:=rv.get hx;obtain⟨f0,f1,f2,f3,f4,f5⟩:=hf it (by simp);refine wpAny_pyNext_tuple_item st (show s.heap.IsTuple a bA.toArray from p) (x:=u) (by simpa using hu) λh' st' sb=>?_
  have I1:Inv X aA σ H { s with heap:=h' }:=I.turned (t':=s.toks) (λb o hb e=>(sb.2 b hb).trans e) f0 f1 f3 f4 f5;obtain⟨o,e,c,d⟩:=id st';exact⟨u,rfl,JL (s:={ s with heap:=h' }) e c d (by decide) ⟨x,H,I1,ru,⟨rfl,λys hy=>by rw[I.tuple_inj hy hq];exact hx⟩,st',λb hb=>(hf b hb).1⟩⟩
 done:=by
  intro X hP hw hK hc i aA s σ H E I hf st hg;subst hP hw hK;obtain⟨xs,hq,hx⟩:=hg;obtain⟨bA,rv,p,hz⟩:=I.tuple hq;obtain⟨f0,f1,f2,f3,f4,f5⟩:=hf it (by simp);have hl:=rv.length;exact wpAny_pyNext_tuple_end (I.ok.hd hc) st (show s.heap.IsTuple a bA.toArray from p) (by simp;omega) λh' eb=>⟨rfl,I.turned (t':=s.toks) (λb o hb e=>eb b o hb e) f0 f1 f3 f4 f5⟩
 self:=λ_ _ _ _ _ st h=>wpAny_pyIter_tupleiter st h
theorem Ca {P:Program}{w:World}{K:Fg}{tg:Expr}(it:Addr)(lo:Int)(n:Nat):Tr P w K tg (Itr lo n) [it] it (λi h=>IsRangeIter h it (lo+(i:Nat)*1) ((n:Int)-(i:Nat)) 1) where
 mem:=by simp
 obj:=λi h st b hb=>by
  have e:b=it:=by simpa using hb
  subst e;exact⟨_,st,λv z=>by
   have z':Data.fields _=Data.cell v:=z;cases z'⟩
 keep:=λi h h' st k=>k it (by simp) _ st
 item:=by
  intro X hP hw hK hc i aA s σ H E I hf st hg;subst hP hw hK;obtain⟨f0,f1,f2,f3,f4,f5⟩:=hf it (by simp);have W:=Walks.range (prog:=X.prog) (w:=X.w) (I.ok.hd hc) it lo 1 n;refine W.item i s _ _ hg st λv h' tk hv st' kk=>?_
  obtain⟨t,rfl⟩:=hv;have I1:Inv X aA σ H { s with heap:=h',toks:=tk }:=I.turned (λb o hb e=>kk b o (by simpa using hb) e) f0 f1 f3 f4 f5;refine⟨_,rfl,JL (s:={ s with heap:=h',toks:=tk }) (n:="range_iterator") st' rfl rfl (by decide) ⟨.int (lo+i),H,I1,⟨t,?_⟩,⟨rfl,rfl⟩,st',λb hb=>(hf b hb).1⟩⟩;rw[xI]
 done:=by
  intro X hP hw hK hc i aA s σ H E I hf st hg;subst hP hw hK;obtain⟨f0,f1,f2,f3,f4,f5⟩:=hf it (by simp);exact wpAny_pyNext_range_end (I.ok.hd hc) st (by have:n<=i:=hg;omega) λh' eb=>⟨rfl,I.turned (t':=s.toks) (λb o hb e=>eb b o hb e) f0 f1 f3 f4 f5⟩
 self:=λ_ _ _ _ _ st h=>wpAny_pyIter_rangeiter st h
end L2
namespace L2
open PySem PySem.Spec PyProof.Rows
section
variable {X:Cx}{tg:Expr}
def Et (K:Fg)(tl:TE):TI:=λσ H R=>tl σ H λx H1=>∃a,x=.ref a/\(∃xs,SqL K H1 a xs)/\R (Itl K a) H1
def iTup (K:Fg)(tl:TE):TI:=λσ H R=>tl σ H λx H1=>∃a,x=.ref a/\(∃xs,SqT K H1 a xs)/\R (Itt K a) H1
theorem PC {l:Expr}{tl:TE}(hl:PE X l tl):PI X tg l (Et X.K tl):=by
 intro aA s σ H R I h;refine thn (hl aA s σ H _ I h) λv s1 ⟨x,H1,I1,r1,q1⟩=>?_
 obtain⟨a,e,⟨xs,hq⟩,q⟩:=q1;subst e;cases r1;obtain⟨bA,rv,p,hz⟩:=I1.list hq;refine wpAny_pyIter_list p.isList ?_;refine⟨s1.heap.objs.size,[s1.heap.objs.size],_,_,H1,rfl,I1.kept (t':=s1.toks) λb o e=>Heap.get?_push_of_some _ e,Cq a _,⟨_,Heap.get?_push_size _ rfl,rfl,rfl⟩,λb hb=>?_,q⟩;have e:b=s1.heap.objs.size:=by simpa using hb
 subst e;exact I1.fpOk (zC _) (I1.hok.fresh (zC _))
theorem Di {l:Expr}{tl:TE}(hl:PE X l tl):PI X tg l (iTup X.K tl):=by
 intro aA s σ H R I h;refine thn (hl aA s σ H _ I h) λv s1 ⟨x,H1,I1,r1,q1⟩=>?_
 obtain⟨a,e,⟨xs,hq⟩,q⟩:=q1;subst e;cases r1;obtain⟨bA,rv,p,hz⟩:=I1.tuple hq;refine wpAny_pyIter_tuple (show s1.heap.IsTuple a bA.toArray from p) ?_;refine⟨s1.heap.objs.size,[s1.heap.objs.size],_,_,H1,rfl,I1.kept (t':=s1.toks) λb o e=>Heap.get?_push_of_some _ e,zdA a _,⟨_,Heap.get?_push_size _ rfl,rfl,rfl⟩,λb hb=>?_,q⟩;have e:b=s1.heap.objs.size:=by simpa using hb
 subst e;exact I1.fpOk (zC _) (I1.hok.fresh (zC _))
theorem EG {aA:LA}{σ:St}{H:Hp}{s:Shared}{R:It->Hp->Prop}{E:Value->Shared->Prop}{lo hi:Int}{t u v:Tok}{tk:Nat}(I:Inv X aA σ H s)(h1:-(2^62)<=lo)(h2:lo<2^62)(h3:-(2^62)<=hi)(h4:hi<2^62)
  (q:R (Itr lo (hi-lo).toNat) H):wpAny (model X.prog X.w) X.A (pyIter (.ref s.heap.objs.size)) (PIE X aA σ tg R) E { s with heap:=s.heap.push { cls:=.type "range",data:=.fields #[.int lo t,.int hi u,.int 1 v] },toks:=tk }:=by
 refine wpAny_pyIter_range (IsRange.new ..) (small_one h1 h2 h3 h4) ?_;have I1:Inv X aA σ H { s with heap:=s.heap.push { cls:=.type "range",data:=.fields #[.int lo t,.int hi u,.int 1 v] },toks:=tk }:=I.kept λb o e=>Heap.get?_push_of_some _ e
 refine⟨(s.heap.push { cls:=.type "range",data:=.fields #[.int lo t,.int hi u,.int 1 v] }).objs.size,[(s.heap.push { cls:=.type "range",data:=.fields #[.int lo t,.int hi u,.int 1 v] }).objs.size],_,_,H,rfl,
  I1.kept (t':=tk) λb o e=>Heap.get?_push_of_some _ e,Ca _ lo (hi-lo).toNat,?_,λb hb=>?_,q⟩
 ·have e1:lo+((0:Nat):Int)*1=lo:=by simp
  have e2:(((hi-lo).toNat:Nat):Int)-((0:Nat):Int)=Builtin.Range.rangeSize lo hi 1:=by rw[rangeSize_one];split<;>omega
  show IsRangeIter _ _ (lo+((0:Nat):Int)*1) ((((hi-lo).toNat:Nat):Int)-((0:Nat):Int)) 1;rw[e1,e2];exact Heap.get?_push_size _ rfl
 ·have e:b=(s.heap.push { cls:=.type "range",data:=.fields #[.int lo t,.int hi u,.int 1 v] }).objs.size:=by simpa using hb
  subst e;exact I1.fpOk (zC _) (I1.hok.fresh (zC _))
def Fo (ta:TA):TI:=λσ H R=>ta σ H λvs H1=>∃j:Int,vs=[.int j]/\-(2^62)<=j/\j<2^62/\R (Itr 0 j.toNat) H1
def iRng2 (ta:TA):TI:=λσ H R=>ta σ H λvs H1=>∃i j:Int,vs=[.int i,.int j]/\(-(2^62)<=i/\i<2^62/\-(2^62)<=j/\j<2^62)/\R (Itr i (j-i).toNat) H1
theorem KN {a:Expr}{ta:TA}{p pos:Pos}(hg:Gl X "range")(hm:X.mg "range"=none)(ha:PA X [a] ta)(hs:starEach [a] X.env=[(false,eval a X.env)]:=by rfl):PI X tg (.Call (.Name "range" p) [a] [] pos) (Fo ta):=by
 intro aA s σ H R I h;refine Call_ (V9 I hg hm boot_range (PyProof.Rows.callWith_type1 (thn (ha pos aA s σ H _ I h) λus s1 ⟨vs,H1,I1,r1,q1⟩=>?_) hs rfl));obtain⟨j,e,q1,q2,q⟩:=q1;subst e;cases r1 with
 | cons r rr=>
  cases rr;obtain⟨t,rfl⟩:=r;exact call_range_1 (EG I1 (by omega) (by omega) q1 q2 (by simpa using q))
theorem zaS (hg:Gl X "range")(hm:X.mg "range"=none)(ha:PA X [a,b] ta)(hs:starEach [a,b] X.env=[(false,eval a X.env),(false,eval b X.env)]:=by rfl)(hs2:starEach [b] X.env=[(false,eval b X.env)]:=by rfl):
  PI X tg (.Call (.Name "range" p) [a,b] [] pos) (iRng2 ta):=by
 intro aA s σ H R I h;refine Call_ (V9 I hg hm boot_range (PyProof.Rows.callWith_type1 (thn (ha pos aA s σ H _ I h) λus s1 ⟨vs,H1,I1,r1,q1⟩=>?_) (by rw[hs,hs2]) (by rw[hs2];rfl)));obtain⟨i,j,e,⟨q1,q2,q3,q4⟩,q⟩:=q1;subst e;cases r1 with
 | cons r rr=>
  cases rr with
  | cons r' rr=>
   cases rr;obtain⟨t,rfl⟩:=r;obtain⟨t',rfl⟩:=r';exact call_range_2 (EG I1 q1 q2 q3 q4 q)
def tFor (wi:TI)(g:TG)(tb:TS):TS:=λD σ H=>wi σ H λJ H1=>∃W:Nat->Nat->St->Hp->Prop,(∃m,W 0 m σ H1)/\∀i m σ H,W i m σ H->
 (J.stop i H/\D.nx σ H)\/(J.go i H/\∃N:St->Hp->Prop,(∀σ' H',N σ' H'->∃m',m'<m/\W (i+1) m' σ' H')/\∀x H',J.yld i H x H'->g x σ H' λσ2 H2=>tb { D with nx:=N,ct:=N,bk:=D.nx } σ2 H2)
def Tt (fp:List Addr)(h:Heap):LA:=fp.filterMap λb=>(h.get? b).map λo=>(b,o)
theorem UJ (hb:b∈fp)(e:h.get? b=some o):(b,o)∈Tt fp h:=List.mem_filterMap.mpr ⟨b,hb,by rw[e];rfl⟩
theorem DL (hp:p∈Tt fp h):p.1∈fp/\h.get? p.1=some p.2:=by
 obtain⟨b,hb,e⟩:=List.mem_filterMap.mp hp;cases q:h.get? b with
 | none=>rw[q] at e;cases e
 | some o=>
  rw[q] at e;have e':(b,o)=p:=Option.some.inj e;subst e';exact⟨hb,q⟩
theorem Inv.pinned (I:Inv X aA σ H s)(hf:∀b∈fp,Xb X aA H b)(ho:∀b∈fp,∃o,s.heap.get? b=some o/\∀v,o.data≠.cell v):Inv X (aA++Tt fp s.heap) σ H s:=
 I.pins_of λp hp=>(xC.mp hp).elim (λz=>I.pin p (yW _ z)) λz=>by
  obtain⟨hb,e⟩:=DL z;obtain⟨f0,f1,f2,_⟩:=hf p.1 hb;obtain⟨o,e',d⟩:=ho p.1 hb;rw[e] at e';cases e'
  exact⟨e,f0,f1,f2,d⟩
theorem Inv.unpinned (I:Inv X (aA++pl) σ H s):Inv X aA σ H s:=I.pins_of λp hp=>I.pin p (yW _ (List.mem_append_left _ hp))
theorem UB (hp:PassesOwn (model X.prog X.w) X.A X.env X.xe)(hc:X.calm=true)(hi:PI X tg aX wi)(hg:PG X tg g)(hb:PSs X body tb)(hs:∀x,foldedSetIterable aX X.env x=pure x:=by intro _;rfl):PS X (.For tg aX body [] pos) (tFor wi g tb):=by
 intro aA s σ H D I h;refine wpAny_For (thn (hi aA s σ H _ I h) λv s1 h1=>thn h1 λitv s2 h2=>?_) hs;obtain⟨it,fp,tn,J,H2,e,I2,T,st2,f2,W,⟨m0,w0⟩,turn⟩:=h2;subst e;have stat:∀ {H':Hp},(∀b∈fp,H' b=none)->∀b∈fp,Xb X aA H' b:=λhn b hb=>⟨hn b hb,(f2 b hb).2⟩
 refine codeAny_forLoop_any (λn s'=>∃i σ' H',Inv X aA σ' H' s'/\tn i s'.heap/\(∀b∈fp,H' b=none)/\W i n σ' H') ?_ m0 ⟨0,σ,H2,I2,st2,λb hb=>(f2 b hb).1,w0⟩;rintro n s3 ⟨i,σ3,H3,I3,st3,fr3,w3⟩;rcases turn i n σ3 H3 w3 with ⟨stop,qn⟩|⟨go,N,hN,step⟩
 ·refine wpAny_passesOwn hp (thn (T.done X rfl rfl rfl hc i aA s3 σ3 H3 X.xe I3 (stat fr3) st3 stop) λr s4 ⟨hr,I4⟩=>?_);subst hr;exact wpAny_execs_nil ⟨σ3,H3,I4,qn⟩
 ·refine wpAny_passesOwn hp (thn (T.item X rfl rfl rfl hc i aA s3 σ3 H3 X.xe I3 (stat fr3) st3 go) λr s4 ⟨u,hr,h4⟩=>?_);subst hr;refine wpAny_passesOwn hp (thn h4 λ_ s5 ⟨x,H5,I5,r5,y5,st5,fr5⟩=>?_);have I5':=I5.pinned (stat fr5) (T.obj _ _ st5);refine wpAny_passesOwn hp (thn (hg _ s5 σ3 H5 x u _ I5' r5 (step x H5 y5)) λ_ s6 ⟨σ6,H6,I6,q6⟩=>?_);refine wpAny_passesOwn hp (thn (hb _ s6 σ6 H6 _ I6 q6) λf s7 q7=>?_);have again:∀ {σ7:St} {H7:Hp},Inv X (aA++Tt fp s5.heap) σ7 H7 s7->N σ7 H7->∃m,m<n/\∃i σ' H',Inv X aA σ' H' s7/\tn i s7.heap/\(∀b∈fp,H' b=none)/\W i m σ' H':=λ{σ7 H7} I7 n7=>by
   obtain⟨m',hm,w7⟩:=hN σ7 H7 n7;refine⟨m',hm,i+1,σ7,H7,I7.unpinned,T.keep _ _ _ st5 λb hb o e=>(I7.pin (b,o) (yW _ (yW _ (UJ hb e)))).1,λb hb=>?_,w7⟩;obtain⟨o,e,d⟩:=T.obj _ _ st5 b hb;exact(I7.pin (b,o) (yW _ (yW _ (UJ hb e)))).2.1
  cases f with
  | next=>obtain⟨σ7,H7,I7,n7⟩:=q7;exact again I7 n7
  | cont=>obtain⟨σ7,H7,I7,n7⟩:=q7;exact again I7 n7
  | brk=>obtain⟨σ7,H7,I7,q7⟩:=q7;exact⟨σ7,H7,I7.unpinned,q7⟩
  | ret v=>obtain⟨x7,σ7,H7,I7,r7,q7⟩:=q7;exact⟨x7,σ7,H7,I7.unpinned,r7,q7⟩
end
end L2
namespace L2
open PySem PySem.Spec PyProof.Rows
abbrev R2:=V->V->Hp->VK->Prop
def OpR (X:Cx)(f:Value->Value->Sem Value)(r:R2):Prop:=
 ∀(aA:LA)(s:Shared)(σ:St)(H:Hp)(x y:V)(v u:Value)(Q:VK),Inv X aA σ H s->ZG x v->ZG y u->r x y H Q->
  wpAny (model X.prog X.w) X.A (f v u) (EP X aA σ Q) X.xe s
def UnR (X:Cx)(f:Value->Sem Value)(r:V->Hp->VK->Prop):Prop:=
 ∀(aA:LA)(s:Shared)(σ:St)(H:Hp)(x:V)(v:Value)(Q:VK),Inv X aA σ H s->ZG x v->r x H Q->
  wpAny (model X.prog X.w) X.A (f v) (EP X aA σ Q) X.xe s
def Yt (X:Cx)(f:Value)(r:List V->Hp->VK->Prop):Prop:=
 ∀(aA:LA)(s:Shared)(σ:St)(H:Hp)(xs:List V)(us:List Value)(Q:VK),Inv X aA σ H s->ZI xs us->r xs H Q->
  wpAny (model X.prog X.w) X.A (call f us) (EP X aA σ Q) X.xe s
def tOp (r:R2)(ta tb:TE):TE:=λσ H Q=>ta σ H λx H1=>tb σ H1 λy H2=>r x y H2 Q
def tUn (r:V->Hp->VK->Prop)(ta:TE):TE:=λσ H Q=>ta σ H λx H1=>r x H1 Q
def rI (C:Int->Int->Prop)(g:Int->Int->V):R2:=λx y H Q=>∃i j,x=.int i/\y=.int j/\C i j/\Q (g i j) H
def rI0 (g:Int->Int->V):R2:=λx y H Q=>∃i j,x=.int i/\y=.int j/\Q (g i j) H
def rU (g:Int->V):V->Hp->VK->Prop:=λx H Q=>∃i,x=.int i/\Q (g i) H
section
variable {X:Cx}{a b c:Expr}{ta tb tc:TE}{pos:Pos}
theorem binT (ha:PE X a ta)(hb:PE X b tb){aA:LA}{s:Shared}{σ:St}{H:Hp}{R:V->V->Hp->Prop}(I:Inv X aA σ H s)
  (h:ta σ H λx H1=>tb σ H1 λy H2=>R x y H2){Q:Value->Shared->Prop}{f:Value->Value->Sem Value}
  (hf:∀v u s2 x y H2,Inv X aA σ H2 s2->ZG x v->ZG y u->R x y H2->wpAny (model X.prog X.w) X.A (f v u) Q X.xe s2):
  wpAny (model X.prog X.w) X.A (eval a X.env) (λv s₁=>wpAny (model X.prog X.w) X.A (eval b X.env) (λu s₂=>wpAny (model X.prog X.w) X.A (f v u) Q X.xe s₂) X.xe s₁) X.xe s:=by
 refine thn (ha aA s σ H _ I h) λv s1 ⟨x,H1,I1,r1,q1⟩=>?_
 refine thn (hb aA s1 σ H1 _ I1 q1) λu s2 ⟨y,H2,I2,r2,q2⟩=>?_
 exact hf v u s2 x y H2 I2 r1 r2 q2
theorem pe_op {op:Operator}{r:R2}(ho:OpR X (binaryOp op) r)(ha:PE X a ta)(hb:PE X b tb):PE X (.BinOp a op b pos) (tOp r ta tb):=by
 intro aA s σ H Q I h;exact wpAny_BinOp (binT ha hb I h λv u s2 x y H2 I2 rx ry q=>ho aA s2 σ H2 x y v u Q I2 rx ry q)
theorem pe_un (ho:UnR X (unaryOp op) r)(ha:PE X a ta):PE X (.UnaryOp op a pos) (tUn r ta):=by
 intro aA s σ H Q I h;exact UnaryOp_ (thn (ha aA s σ H _ I h) λv s1 ⟨x,H1,I1,r1,q1⟩=>ho aA s1 σ H1 x v Q I1 r1 q1)
theorem opI {f:Value->Value->Sem Value}{C:Int->Int->Prop}{g:Int->Int->Int}
  (rule:∀(i j:Int)(t u:Tok)(s:Shared)(Q:Value->Shared->Prop)(E:Value->Shared->Prop),C i j->Q (.int (g i j) s.toks) { s with toks:=s.toks+1 }->wpAny (model X.prog X.w) X.A (f (.int i t) (.int j u)) Q E s):
  OpR X f (rI C λi j=>.int (g i j)):=by
 intro aA s σ H x y v u Q I rx ry h;obtain⟨i,j,rfl,rfl,hc,q⟩:=h;obtain⟨t,rfl⟩:=rx;obtain⟨t',rfl⟩:=ry;exact rule i j t t' s _ _ hc ⟨.int (g i j),H,I.tok _,⟨_,rfl⟩,q⟩
theorem opI0 {f:Value->Value->Sem Value}{g:Int->Int->Int}
  (rule:∀(i j:Int)(t u:Tok)(s:Shared)(Q:Value->Shared->Prop)(E:Value->Shared->Prop),Q (.int (g i j) s.toks) { s with toks:=s.toks+1 }->wpAny (model X.prog X.w) X.A (f (.int i t) (.int j u)) Q E s):
  OpR X f (rI0 λi j=>.int (g i j)):=by
 intro aA s σ H x y v u Q I rx ry h;obtain⟨i,j,rfl,rfl,q⟩:=h;obtain⟨t,rfl⟩:=rx;obtain⟨t',rfl⟩:=ry;exact rule i j t t' s _ _ ⟨.int (g i j),H,I.tok _,⟨_,rfl⟩,q⟩
theorem Py {f:Value->Value->Sem Value}{g:Int->Int->Bool}
  (rule:∀(i j:Int)(t u:Tok)(s:Shared)(Q:Value->Shared->Prop)(E:Value->Shared->Prop),Q (.bool (g i j)) s->wpAny (model X.prog X.w) X.A (f (.int i t) (.int j u)) Q E s):
  OpR X f (rI0 λi j=>.bl (g i j)):=by
 intro aA s σ H x y v u Q I rx ry h;obtain⟨i,j,rfl,rfl,q⟩:=h;obtain⟨t,rfl⟩:=rx;obtain⟨t',rfl⟩:=ry;exact rule i j t t' s _ _ ⟨.bl (g i j),H,I,rfl,q⟩
def CPow (i j:Int):Prop:=0<=j/\j<=1000000/\i.natAbs<2^64
theorem zdf:OpR X (binaryOp .Add) (rI0 λi j=>.int (i+j)):=opI0 λ_ _ _ _ _ _ _ q=>add_int q
theorem zcV:OpR X (binaryOp .Sub) (rI0 λi j=>.int (i-j)):=opI0 λ_ _ _ _ _ _ _ q=>sub_int q
theorem zaN:OpR X (binaryOp .Mod) (rI (λ_ j=>0<j) λi j=>.int (i%j)):=opI λi j _ _ _ _ _ hc q=>by
 have h1:(0:Int)<j:=hc;exact mod_int' (by omega) (by rw[Int.fmod_eq_emod_of_nonneg i (by omega)];exact q)
theorem zbI:OpR X (binaryOp .Pow) (rI CPow λi j=>.int (i^j.toNat)):=opI λ_ _ _ _ _ _ _ hc q=>pow_int_small hc.1 hc.2.1 hc.2.2 q
theorem unI {f:Value->Sem Value}{g:Int->Int}
  (rule:∀(i:Int)(t:Tok)(s:Shared)(Q:Value->Shared->Prop)(E:Value->Shared->Prop),Q (.int (g i) s.toks) { s with toks:=s.toks+1 }->wpAny (model X.prog X.w) X.A (f (.int i t)) Q E s):
  UnR X f (rU λi=>.int (g i)):=by
 intro aA s σ H x v Q I rx h;obtain⟨i,rfl,q⟩:=h;obtain⟨t,rfl⟩:=rx;exact rule i t s _ _ ⟨.int (g i),H,I.tok _,⟨_,rfl⟩,q⟩
theorem Du:UnR X (unaryOp .USub) (rU λi=>.int (-i)):=unI λ_ _ _ _ _ q=>neg_int q
end
def Ll:V->V->Bool
 | .non,.non=>true|.non,.int _=>true|.int _,.non=>true|.non,.bl _=>true|.bl _,.non=>true|.non,.str _=>true|.str _,.non=>true
 | .int _,.int _=>true|.bl _,.bl _=>true|.str _,.str _=>true|.byt _,.byt _=>true
 | .int _,.str _=>true|.str _,.int _=>true|.bl _,.str _=>true|.str _,.bl _=>true
 | _,_=>false
def rEq:R2:=λx y H Q=>Ll x y=true/\Q (.bl (decide (x=y))) H
def rNe:R2:=λx y H Q=>Ll x y=true/\Q (.bl (!decide (x=y))) H
theorem FO:decide (V.int i=V.int j)=(i==j):=by
 rw[xY];simp
theorem F2:decide (V.bl i=V.bl j)=(i==j):=by
 rw[xY];simp
theorem El:decide (V.str i=V.str j)=(i==j):=by
 rw[xY];simp
theorem Ee:decide (V.byt i=V.byt j)=(i.toList==j.toList):=by
 rw[xY];cases i;cases j;simp
section
variable {X:Cx}{a b c:Expr}{ta tb tc:TE}{pos:Pos}
theorem Yi (I:Inv X aA σ H s)(q:Q (.bl k) H)(e:k=k'):EP X aA σ Q (.bool k') s:=by
 subst e;exact⟨.bl k,H,I,rfl,q⟩
theorem Hv:OpR X (compareOp .Eq) rEq:=by
 intro aA s σ H x y v u Q I rx ry h;obtain⟨hs,q⟩:=h;cases x with
 | non=>
  cases rx;cases y with
  | non=>cases ry;exact PySem.EqNone.eq_none_none (Yi I q (by simp))
  | bl j=>cases ry;exact PySem.EqNone.eq_none_bool (Yi I q (by simp))
  | int j=>obtain⟨t',rfl⟩:=ry;exact PySem.EqNone.eq_none_int (Yi I q (by simp))
  | str j=>obtain⟨t',rfl⟩:=ry;exact PySem.EqNone.eq_none_str (Yi I q (by simp))
  | _=>exact absurd (show false=true from hs) zX
 | bl i=>
  cases rx;cases y with
  | non=>cases ry;exact PySem.EqNone.eq_bool_none (Yi I q (by simp))
  | bl j=>cases ry;exact eq_bool (Yi I q F2)
  | str j=>obtain⟨t',rfl⟩:=ry;exact PySem.EqMixed.eq_bool_str (Yi I q (by simp))
  | _=>exact absurd (show false=true from hs) zX
 | int i=>
  obtain⟨t,rfl⟩:=rx;cases y with
  | non=>cases ry;exact PySem.EqNone.eq_int_none (Yi I q (by simp))
  | int j=>obtain⟨t',rfl⟩:=ry;exact eq_int (Yi I q FO)
  | str j=>obtain⟨t',rfl⟩:=ry;exact PySem.EqMixed.eq_int_str (Yi I q (by simp))
  | _=>exact absurd (show false=true from hs) zX
 | str i=>
  obtain⟨t,rfl⟩:=rx;cases y with
  | non=>cases ry;exact PySem.EqNone.eq_str_none (Yi I q (by simp))
  | bl j=>cases ry;exact PySem.EqMixed.eq_str_bool (Yi I q (by simp))
  | int j=>obtain⟨t',rfl⟩:=ry;exact PySem.EqMixed.eq_str_int (Yi I q (by simp))
  | str j=>obtain⟨t',rfl⟩:=ry;exact eq_str (Yi I q El)
  | _=>exact absurd (show false=true from hs) zX
 | byt i=>
  obtain⟨t,rfl⟩:=rx;cases y with
  | byt j=>obtain⟨t',rfl⟩:=ry;exact PySem.W.eq_bytes (Yi I q Ee)
  | _=>exact absurd (show false=true from hs) zX
 | _=>cases y<;>exact absurd (show false=true from hs) zX
theorem op_ne:OpR X (compareOp .NotEq) rNe:=by
 intro aA s σ H x y v u Q I rx ry h;obtain⟨hs,q⟩:=h;cases x with
 | non=>
  cases rx;cases y with
  | non=>cases ry;exact PySem.EqNone.ne_none_none (Yi I q (by simp))
  | bl j=>cases ry;exact PySem.EqNone.ne_none_bool (Yi I q (by simp))
  | int j=>obtain⟨t',rfl⟩:=ry;exact PySem.EqNone.ne_none_int (Yi I q (by simp))
  | str j=>obtain⟨t',rfl⟩:=ry;exact PySem.EqNone.ne_none_str (Yi I q (by simp))
  | _=>exact absurd (show false=true from hs) zX
 | bl i=>
  cases rx;cases y with
  | non=>cases ry;exact PySem.EqNone.ne_bool_none (Yi I q (by simp))
  | bl j=>cases ry;exact ne_bool (Yi I q (congrArg not F2))
  | str j=>obtain⟨t',rfl⟩:=ry;exact PySem.EqMixed.ne_bool_str (Yi I q (by simp))
  | _=>exact absurd (show false=true from hs) zX
 | int i=>
  obtain⟨t,rfl⟩:=rx;cases y with
  | non=>cases ry;exact PySem.EqNone.ne_int_none (Yi I q (by simp))
  | int j=>obtain⟨t',rfl⟩:=ry;exact ne_int (Yi I q (congrArg not FO))
  | str j=>obtain⟨t',rfl⟩:=ry;exact PySem.EqMixed.ne_int_str (Yi I q (by simp))
  | _=>exact absurd (show false=true from hs) zX
 | str i=>
  obtain⟨t,rfl⟩:=rx;cases y with
  | non=>cases ry;exact PySem.EqNone.ne_str_none (Yi I q (by simp))
  | bl j=>cases ry;exact PySem.EqMixed.ne_str_bool (Yi I q (by simp))
  | int j=>obtain⟨t',rfl⟩:=ry;exact PySem.EqMixed.ne_str_int (Yi I q (by simp))
  | str j=>obtain⟨t',rfl⟩:=ry;exact ne_str (Yi I q (congrArg not El))
  | _=>exact absurd (show false=true from hs) zX
 | byt i=>
  obtain⟨t,rfl⟩:=rx;cases y with
  | byt j=>obtain⟨t',rfl⟩:=ry;exact PySem.W.ne_bytes (Yi I q (congrArg not Ee))
  | _=>exact absurd (show false=true from hs) zX
 | _=>cases y<;>exact absurd (show false=true from hs) zX
theorem op_lt:OpR X (compareOp .Lt) (rI0 λi j=>.bl (decide (i<j))):=Py λ_ _ _ _ _ _ _ q=>lt_int q
theorem op_le:OpR X (compareOp .LtE) (rI0 λi j=>.bl (decide (i<=j))):=Py λ_ _ _ _ _ _ _ q=>le_int q
theorem op_gt:OpR X (compareOp .Gt) (rI0 λi j=>.bl (decide (j<i))):=Py λ_ _ _ _ _ _ _ q=>gt_int q
theorem op_ge:OpR X (compareOp .GtE) (rI0 λi j=>.bl (decide (j<=i))):=Py λ_ _ _ _ _ _ _ q=>ge_int q
theorem ZH (b:Expr)(h:op≠.In:=by decide)(h2:op≠.NotIn:=by decide):behindInMarks op b=false:=by
 have e1:(op==CmpOp.In)=false:=by cases op<;>first|rfl|exact absurd rfl h
 have e2:(op==CmpOp.NotIn)=false:=by cases op<;>first|rfl|exact absurd rfl h2
 cases b<;>simp[behindInMarks,e1,e2]
theorem zap {op:CmpOp}{r:R2}(ho:OpR X (compareOp op) r)(ha:PE X a ta)(hb:PE X b tb)(hm:behindInMarks op b=false):PE X (.Compare a [op] [b] pos) (tOp r ta tb):=by
 intro aA s σ H Q I h;exact wpAny_Compare1 (binT ha hb I h λv u s2 x y H2 I2 rx ry q=>ho aA s2 σ H2 x y v u Q I2 rx ry q) hm
def F4 (t:TE):TT:=λσ H Q=>t σ H λx H'=>∃k,x=.bl k/\Q k H'
theorem zah (ho:OpR X (compareOp op) r)(ha:PE X a ta)(hb:PE X b tb)(hm:behindInMarks op b=false):PT X (.Compare a [op] [b] pos) (F4 (tOp r ta tb)):=by
 intro aA s σ H Q I h;refine wpAny_isTrue_Compare1 (thn (ha aA s σ H _ I h) λv s1 ⟨x,H1,I1,r1,q1⟩=>thn (hb aA s1 σ H1 _ I1 q1) λu s2 ⟨y,H2,I2,r2,q2⟩=>
  thn (ho aA s2 σ H2 x y v u _ I2 r1 r2 q2) λc s3 ⟨z,H3,I3,r3,k,e,q3⟩=>?_) hm
 subst e;cases r3;exact wpAny_truthy_bool ⟨H3,I3,q3⟩
def Gi (r r':R2)(ta tb tc:TE):TE:=λσ H Q=>ta σ H λx H1=>tb σ H1 λy H2=>r x y H2 λz H3=>∃k,z=.bl k/\
 (if k=true then tc σ H3 λw' H4=>r' y w' H4 Q else Q (.bl false) H3)
theorem D8 (ho:OpR X (compareOp op) r)(ho':OpR X (compareOp op') r')(ha:PE X a ta)(hb:PE X b tb)(hc:PE X c tc)(hm:lastMarks [op,op'] [b,c]=false:=by with_unfolding_all rfl):PT X (.Compare a [op,op'] [b,c] pos) (F4 (Gi r r' ta tb tc)):=by
 intro aA s σ H Q I h;refine isTrue_chain (thn (ha aA s σ H _ I h) λv s1 ⟨x,H1,I1,r1,q1⟩=>test_link (thn (hb aA s1 σ H1 _ I1 q1) λu s2 ⟨y,H2,I2,r2,q2⟩=>
  thn (ho aA s2 σ H2 x y v u _ I2 r1 r2 q2) λd s3 ⟨z,H3,I3,r3,k,e,q3⟩=>?_)) hm
 subst e;cases r3;refine wpAny_truthy_bool ?_;cases k with
 | false=>
  obtain⟨k',e',q'⟩:=q3;cases e';exact ite_ff ⟨H3,I3,q'⟩
 | true=>
  refine ite_tt (test_last (thn (hc aA s3 σ H3 _ I3 q3) λw' s4 ⟨z',H4,I4,r4,q4⟩=>thn (ho' aA s4 σ H4 y z' u w' _ I4 r2 r4 q4) λd' s5 ⟨z2,H5,I5,r5,k2,e2,q5⟩=>?_));subst e2;cases r5;exact wpAny_truthy_bool ⟨H5,I5,q5⟩
theorem QF:(sizeLine:Nat)<2^63:=by rw[sizeLine_eq];decide
theorem Wg (r:ZI [x] us):∃u,us=[u]/\ZG x u:=by
 cases r with
 | cons r1 r2=>cases r2;exact⟨_,rfl,r1⟩
theorem Nj (r:ZI [x,y] us):∃u w',us=[u,w']/\ZG x u/\ZG y w':=by
 cases r with
 | cons r1 r2=>
  cases r2 with
  | cons r3 r4=>cases r4;exact⟨_,_,rfl,r1,r3⟩
theorem za2:Yt X (.builtin "abs") (λxs H Q=>∃i,xs=[.int i]/\Q (.int (if i<0 then -i else i)) H):=by
 intro aA s σ H xs us Q I r h;obtain⟨i,rfl,q⟩:=h;obtain⟨u,rfl,t,rfl⟩:=Wg r;exact call_abs_int λu tk=>⟨.int (if i<0 then -i else i),H,I.tok _,⟨_,rfl⟩,q⟩
theorem AN (hc:X.calm=true):Yt X (.builtin "max") (λxs H Q=>∃i j,xs=[.int i,.int j]/\Q (.int (if j > i then j else i)) H):=by
 intro aA s σ H xs us Q I r h;obtain⟨i,j,rfl,q⟩:=h;obtain⟨u,w',rfl,⟨t,rfl⟩,⟨t',rfl⟩⟩:=Nj r;refine max_two_ints (I.ok.hd hc) λh' tk k=>⟨_,H,I.kept k,?_,q⟩
 by_cases hj:j > i
 ·rw[if_pos hj,if_pos hj];exact⟨_,rfl⟩
 ·rw[if_neg hj,if_neg hj];exact⟨_,rfl⟩
theorem Dy (hc:X.calm=true):Yt X (.builtin "min") (λxs H Q=>∃i j,xs=[.int i,.int j]/\Q (.int (if j<i then j else i)) H):=by
 intro aA s σ H xs us Q I r h;obtain⟨i,j,rfl,q⟩:=h;obtain⟨u,w',rfl,⟨t,rfl⟩,⟨t',rfl⟩⟩:=Nj r;refine min_two_ints (I.ok.hd hc) λh' tk k=>⟨_,H,I.kept k,?_,q⟩
 by_cases hj:j<i
 ·rw[if_pos hj,if_pos hj];exact⟨_,rfl⟩
 ·rw[if_neg hj,if_neg hj];exact⟨_,rfl⟩
end
end L2
namespace L2
open PySem PySem.Spec PyProof.Rows
structure Uc (h:Heap)(x dx C:Addr)(mA:Str->Option Value):Prop where
 obj:h.get? x=some (PySem.W.instObj C dx)
 ns:h.Ns1 dx mA
 ne:dx≠x
theorem zdR {h:Heap}{dx:Addr}{mA:Str->Option Value}(n:h.Ns1 dx mA):∃od,h.get? dx=some od/\∀name,PySem.W.lookIn name od=some (mA name):=by
 obtain⟨o,es,ep,ho,hd,hk,_,hm⟩:=n;refine⟨o,ho,λname=>?_⟩;have e:=hm name;unfold nsFind findBy at e;rw[<- Array.find?_toList] at e;unfold PySem.W.lookIn;rw[hd];dsimp only;split
 ·rename_i y q;rw[q] at e;exact congrArg some e
 ·rename_i q;rw[q] at e;have a:es.toList.any (·.refKey)=false:=by
   rw[List.any_eq_false];intro y hy;obtain⟨z,t,hkey⟩:=hk y (Array.mem_toList_iff.mp hy);simp[DictEntry.refKey,hkey]
  have a':¬ es.toList.any (·.refKey)=true:=by rw[a];exact zX
  rw[if_neg a'];exact congrArg some e
theorem Uc.look (I:Uc h x dx C mA):∃od,PySem.W.InstAt h x (PySem.W.instObj C dx) C (some od)/\∀name,PySem.W.lookIn name od=some (mA name):=
 let ⟨od,ho,hl⟩:=zdR I.ns
 ⟨od,⟨I.obj,rfl,rfl,ho⟩,hl⟩
section
variable {prog:Program}{w:World}{A:Around}{E:Value->Shared->Prop}{s:Shared}{K:Fg}{x dx C f:Addr}{mA:Str->Option Value}{name:Str}{v:Value}
theorem Bc (X:K.In s.heap)(I:Uc s.heap x dx C mA)(hg:PySem.W.plainGet K C name=true)(hh:PySem.W.hasDictIn K C=true)(ha:PySem.W.findIn K (.ref C) name=some none)(hv:mA name=some v)(hv':PySem.W.handedIn v=true)(h:Q v { s with toks:=s.toks+1 }):
  wpAny (model prog w) A (getAttr (.ref x) name expr) Q E s:=by
 obtain⟨od,J,hl⟩:=I.look;exact PySem.W.get_value X J (PySem.W.plainGet_of hg).1 (PySem.W.findObj_own hh ha rfl (by rw[hl,hv])) hv' h
theorem zcu (X:K.In s.heap)(I:Uc s.heap x dx C mA)(hg:PySem.W.plainGet K C name=true)(hf:PySem.W.findIn K (.ref C) name=some (some (.ref f)))(ht:PySem.W.isFn K (.ref f)=true)(hv:mA name=none)(h:Q (.ref f,[.ref x]) s):
  wpAny (model prog w) A (getMethod (.ref x) name pl) Q E s:=by
 obtain⟨od,J,hl⟩:=I.look;exact PySem.W.method_fn X J (PySem.W.plainGet_of hg).1 (PySem.W.plainGet_of hg).2 hf (beq_iff_eq.mp ht) (by show (PySem.W.lookIn name od).map (·.isSome)=some false;rw[hl,hv];rfl) h
theorem zar (X:K.In s.heap)(I:Uc s.heap x dx C mA)(hs:PySem.W.findIn K (.ref C) "__setattr__"=some (some (.builtin "object.__setattr__")))(hp:PySem.W.plainOver K C=true)(ht:PySem.W.takerIn K C name=some none)(hh:PySem.W.hasDictIn K C=true)(hw:PySem.Within mA ns)(hsz:ns.length<=sizeLine)(h:∀h',Uc h' x dx C (λy=>if y=name then some v else mA y)->Heap.SameBut dx s.heap h'->Q () { s with heap:=h',toks:=s.toks+2 }):
  wpAny (model prog w) A (setAttr (.ref x) name v) Q E s:=by
 obtain⟨od,J,hl⟩:=I.look;refine PySem.W.set_plain X J hs (PySem.W.osa_open (s:={ s with toks:=s.toks+1 }) (r:=none) X J hp ht λb=>?_);obtain⟨cd,hc,hd'⟩:=PySem.W.any_some hh;have hx:s.heap.get? x=some ⟨.ref C,some dx,.plain,#[]⟩:=I.obj;refine wpAny_bind (wpAny_pure (wpAny_bind (wpAny_bind (wpAny_loadPart hx (wpAny_bind (PySem.W.Looks.here (s:={ s with toks:=s.toks+1 }) (PySem.W.looks_clsIn X hc) ?_))))));rw[hd'];refine wpAny_pure (a:=some dx) (wpAny_bind (wpAny_pure (wpAny_bind ?_)));refine wpAny_nsSet1 (s:={ s with toks:=s.toks+1 }) I.ns λh' hn2 hs2=>?_
 obtain⟨oD,esD,epD,hoD,hdD,hcD⟩:=hn2.count (PySem.Within.cons name v hw);refine wpAny_bind (wpAny_lookBehind hoD (by rw[hdD];exact pastItsLine_dict (yH hcD (by rw[zT];omega))) ?_);exact wpAny_pure (h _ ⟨(hs2.2 _ (Ne.symm I.ne)).trans I.obj,hn2,I.ne⟩ hs2)
theorem zdL (X:K.In s.heap)(hm:PySem.W.makesIn K C=true)(hi:PySem.W.findIn K (.ref C) "__init__"=some (some (.ref f)))(hf:PySem.W.typeIn K (.ref f)=some (.type "function"))(h:codeAny (model prog w) (A.under (.builtin "type.__call__" ⟨.ref C::vs,kw⟩)) (.call (.ref f) ⟨.ref (s.heap.objs.size+1)::vs,kw⟩) (PySem.W.InitBack (s.heap.objs.size+1) R)
   { s with heap:=(s.heap.push PySem.W.emptyDict).push (PySem.W.instObj C s.heap.objs.size) }):
  codeAny (model prog w) A (.call (.ref C) ⟨vs,kw⟩) R s:=by
 obtain⟨hh,g,d,t,os⟩:=s;exact PySem.W.make_core (PySem.W.makes_of X hm) (PySem.W.looks_findIn X hi) (λself=>PySem.W.bind_fn X self hf) (.inl rfl) h
end
def YU (f:Str)(v:V):List (Str×V)->List (Str×V)
 | []=>[(f,v)]
 | (g,x)::r=>if g=f then (g,v)::r else (g,x)::YU f v r
theorem GI (f g:Str)(v:V):∀fs:List (Str×V),(YU f v fs).lookup g=if g=f then some v else fs.lookup g
 | []=>by
  show List.lookup g [(f,v)]=_;by_cases h:g=f
  ·have hb:(g==f)=true:=beq_iff_eq.mpr h;simp only[List.lookup,hb,if_pos h]
  ·have hb:(g==f)=false:=beq_eq_false_iff_ne.mpr h;simp only[List.lookup,hb,if_neg h]
 | (k,x)::r=>by
  have ih:=GI f g v r;rw[show YU f v ((k,x)::r)=(if k=f then (k,v)::r else (k,x)::YU f v r) from rfl];by_cases hk:k=f
  ·rw[if_pos hk];by_cases h:g=k
   ·have hb:(g==k)=true:=beq_iff_eq.mpr h;simp only[List.lookup,hb,if_pos (h.trans hk)]
   ·have hb:(g==k)=false:=beq_eq_false_iff_ne.mpr h;simp only[List.lookup,hb,if_neg (λe:g=f=>h (e.trans hk.symm))]
  ·rw[if_neg hk];by_cases h:g=k
   ·have hb:(g==k)=true:=beq_iff_eq.mpr h;simp only[List.lookup,hb,if_neg (λe:g=f=>hk (h.symm.trans e))]
   ·have hb:(g==k)=false:=beq_eq_false_iff_ne.mpr h;simp only[List.lookup,hb];exact ih
theorem JJ (f:Str)(v:V):∀fs:List (Str×V),f∈(YU f v fs).map (·.1)/\∀g,g∈fs.map (·.1)->g∈(YU f v fs).map (·.1)
 | []=>⟨by simp[YU],λg h=>by simp at h⟩
 | (k,x)::r=>by
  obtain⟨i1,i2⟩:=JJ f v r;rw[show YU f v ((k,x)::r)=(if k=f then (k,v)::r else (k,x)::YU f v r) from rfl];by_cases hk:k=f
  ·rw[if_pos hk];subst hk;exact⟨by simp,λg h=>by simpa using h⟩
  ·rw[if_neg hk];refine⟨?_,λg h=>?_⟩
   ·rw[xQ];exact yN _ i1
   ·rw[xQ] at h ⊢;rcases zO.mp h with e|e
    ·exact zO.mpr (.inl e)
    ·exact yN _ (i2 g e)
theorem Gb (f:Str)(v:V):∀fs:List (Str×V),(YU f v fs).length<=fs.length+1
 | []=>by simp[YU]
 | (k,x)::r=>by
  have ih:=Gb f v r;rw[show YU f v ((k,x)::r)=(if k=f then (k,v)::r else (k,x)::YU f v r) from rfl];by_cases hk:k=f
  ·rw[if_pos hk,zT,zT];omega
  ·rw[if_neg hk,zT,zT];omega
theorem WH.some_of (r:WH (some v) o):∃u,o=some u/\ZG v u:=by
 cases o with
 | none=>exact(show False from r).elim
 | some u=>exact⟨u,rfl,r⟩
theorem WH.none_of (r:WH none o):o=none:=by
 cases o with
 | none=>rfl
 | some u=>exact(show False from r).elim
theorem zau (r:ZG v u):PySem.W.handedIn u=true:=by
 cases v with
 | non=>cases (show u=Value.none from r);rfl
 | bl b=>cases (show u=Value.bool b from r);rfl
 | int i=>obtain⟨t,e⟩:=(show ∃t,u=Value.int i t from r);cases e;rfl
 | str x=>obtain⟨t,e⟩:=(show ∃t,u=Value.str x t from r);cases e;rfl
 | byt b=>obtain⟨t,e⟩:=(show ∃t,u=Value.bytes b t from r);cases e;rfl
 | flt b=>obtain⟨t,e⟩:=(show ∃t,u=Value.float b t from r);cases e;rfl
 | ref a=>cases (show u=Value.ref a from r);rfl
 | ty n=>cases (show u=Value.type n from r);rfl
section
variable {P:Program}{w:World}{H H':Hp}{h h':Heap}{a C dx:Addr}{fs fs':List (Str×V)}
theorem NV (hok:HOk P w H h)(e:H a=some (.ins C dx fs)):∃mA,Uc h a dx C mA/\(∀f,WH (fs.lookup f) (mA f))/\PySem.Within mA (fs.map (·.1))/\fs.length<=1000/\H dx=some (.own a):=by
 obtain⟨d,z,ne,ob,mA,n,r,q⟩:=(show YH P w H h a (.ins C dx fs) from hok a _ e);exact⟨mA,⟨ob,n,ne⟩,r,q,z,d⟩
end
structure Cls (K:Fg)(C:Addr):Prop where
 pg:PySem.W.plainGet K C Str.empty=true
 hd:PySem.W.hasDictIn K C=true
 po:PySem.W.plainOver K C=true
 sa:PySem.W.findIn K (.ref C) "__setattr__"=some (some (.builtin "object.__setattr__"))
theorem Cls.get {K:Fg}{C:Addr}(c:Cls K C)(f:Str):PySem.W.plainGet K C f=true:=c.pg
def YV (K:Fg)(C:Addr)(f:Str):Prop:=PySem.W.findIn K (.ref C) f=some none
theorem YV.taker {K:Fg}{C:Addr}{f:Str}(n:YV K C f):PySem.W.takerIn K C f=some none:=by
 unfold PySem.W.takerIn;rw[show PySem.W.findIn K (.ref C) f=some none from n];rfl
structure Tf (K:Fg)(C:Addr)(m:Str)(f:Addr):Prop where
 at_:PySem.W.findIn K (.ref C) m=some (some (.ref f))
 fn:PySem.W.isFn K (.ref f)=true
 kp:PySem.W.keepIn K (.ref f)=true
section
variable {X:Cx}{aA:LA}{σ:St}{H:Hp}{s:Shared}{a C dx:Addr}{fs:List (Str×V)}{f:Str}{v:V}{A:Around}{E:Value->Shared->Prop}
theorem zc4 (I:Inv X aA σ H s)(e:H a=some (.ins C dx fs))(c:Cls X.K C)(n:YV X.K C f)(l:fs.lookup f=some v)(h:∀u s',Inv X aA σ H s'->ZG v u->Q u s'):wpAny (model X.prog X.w) A (getAttr (.ref a) f b) Q E s:=by
 obtain⟨mA,O,r,_,_,_⟩:=NV I.hok e;obtain⟨u,hu,ru⟩:=WH.some_of (v:=v) (o:=mA f) (by rw[<- l];exact r f);exact Bc I.kIn O (c.get f) c.hd n hu (zau ru) (h u _ (I.tok _) ru)
theorem Ga (I:Inv X aA σ H s)(e:H a=some (.ins C dx fs))(c:Cls X.K C)(k:Tf X.K C m g)(l:fs.lookup m=none)(h:Q (.ref g,[.ref a]) s):wpAny (model X.prog X.w) A (getMethod (.ref a) m pl) Q E s:=by
 obtain⟨mA,O,r,_,_,_⟩:=NV I.hok e;have hn:mA m=none:=WH.none_of (by rw[<- l];exact r m);exact zcu I.kIn O (c.get m) k.at_ k.fn hn h
theorem AJ (I:Inv X aA σ H s)(e:H a=some (.ins C dx fs))(c:Cls X.K C)(n:YV X.K C f)(hl:fs.length<1000)(ry:ZG y u)(h:∀s',Inv X aA σ (upd H a (.ins C dx (YU f y fs))) s'->Q () s'):wpAny (model X.prog X.w) A (setAttr (.ref a) f u) Q E s:=by
 obtain⟨mA,O,r,wi,_,ho⟩:=NV I.hok e;have hz:(fs.map (·.1)).length<=sizeLine:=by rw[zA,sizeLine_eq];omega
 refine zar I.kIn O c.sa c.po n.taker c.hd wi hz λh' O' sb=>h _ ?_
 have hd:∃o,h'.get? dx=some o:=let ⟨o,_,_,e',_⟩:=O'.ns;⟨o,e'⟩
 refine I.write (x:=a) (e:=dx) (by rw[e];exact True.intro) (.inr ho) (λb q hb z=>(sb.2 b hb).trans z) hd ?_;refine⟨by rw[Yl O.ne];exact ho,?_,O.ne,O'.obj,_,O'.ns,λg=>?_,λg hg=>?_⟩
 ·have:=Gb f y fs;omega
 ·show WH ((YU f y fs).lookup g) (if g=f then some u else mA g);rw[GI];by_cases q:g=f
  ·rw[if_pos q,if_pos q];exact ry
  ·rw[if_neg q,if_neg q];exact r g
 ·by_cases q:g=f
  ·rw[q];exact(JJ f y fs).1
  ·refine(JJ f y fs).2 g (wi g λz=>hg ?_);show (if g=f then some u else mA g)=none;rw[if_neg q];exact z
theorem Inv.made (I:Inv X aA σ H s):Inv X aA σ (upd (upd H s.heap.objs.size (.own (s.heap.objs.size+1))) (s.heap.objs.size+1) (.ins C s.heap.objs.size []))
  { s with heap:=(s.heap.push PySem.W.emptyDict).push (PySem.W.instObj C s.heap.objs.size) }:=by
 have e1:(s.heap.push PySem.W.emptyDict).get? s.heap.objs.size=some PySem.W.emptyDict:=Heap.get?_push_size s.heap rfl
 have e2:((s.heap.push PySem.W.emptyDict).push (PySem.W.instObj C s.heap.objs.size)).get? (s.heap.objs.size+1)=some (PySem.W.instObj C s.heap.objs.size):=by
  have:=Heap.get?_push_size (s.heap.push PySem.W.emptyDict) (o:=PySem.W.instObj C s.heap.objs.size) rfl
  rwa [Heap.size_push] at this
 have e3:(s.heap.push PySem.W.emptyDict).Ns s.heap.objs.size (λ_=>none):=⟨PySem.W.emptyDict,#[],_,e1,rfl,(λe he=>absurd he (by simp)),λ_=>rfl⟩
 have I1:=I.laid (a:=s.heap.objs.size) (o:=.own (s.heap.objs.size+1)) (h':=s.heap.push PySem.W.emptyDict) (t':=s.toks) (λb u q=>Heap.get?_push_of_some _ q) (zC _) ⟨_,e1⟩;refine I1.laid (a:=s.heap.objs.size+1) (o:=.ins C s.heap.objs.size []) (t':=s.toks) (λb u q=>Heap.get?_push_of_some _ q) (Nat.le_of_eq (Heap.size_push _ _)) ?_;have ne:s.heap.objs.size≠s.heap.objs.size+1:=zW (Nat.lt_succ_self _);refine⟨by rw[Yl ne,XB],zL _,ne,e2,λ_=>none,(Heap.Ns1.of_empty e3).at λo q=>Heap.get?_push_of_some _ q,λ_=>True.intro,λy hy=>absurd rfl hy⟩
theorem za7 (hb:attributeBase e f env (eval e env)=eval e env)(h:wpAny (model prog w) A (eval e env) (λo s₁=>wpAny (model prog w) A (getAttr o f true) Q E s₁) E s):wpAny (model prog w) A (eval (.Attribute e f pos) env) Q E s:=
 Attribute_any_ h (by rw[arm_eval_Attribute,hb])
end
def tFld (K:Fg)(ta:TE)(f:Str):TE:=λσ H Q=>ta σ H λx H1=>∃a C dx fs v,x=.ref a/\H1 a=some (.ins C dx fs)/\Cls K C/\YV K C f/\fs.lookup f=some v/\Q v H1
def sFld (K:Fg)(ta tv:TE)(f:Str):TS:=λD σ H=>tv σ H λy H1=>ta σ H1 λx H2=>∃a C dx fs,x=.ref a/\H2 a=some (.ins C dx fs)/\Cls K C/\YV K C f/\fs.length<1000/\
 D.nx σ (upd H2 a (.ins C dx (YU f y fs)))
section
variable {X:Cx}{o e value:Expr}{f:Str}{pos pos' tpos:Pos}{ta tv:TE}
theorem BE (he:PE X e ta)(hb:attributeBase e f X.env (eval e X.env)=eval e X.env):PE X (.Attribute e f pos) (tFld X.K ta f):=by
 intro aA s σ H Q I h;refine za7 hb (thn (he aA s σ H _ I h) λu s1 ⟨x,H1,I1,rx,a,C,dx,fs,v,ex,ea,c,n,l,q⟩=>?_);subst ex;obtain rfl:u=Value.ref a:=rx;exact zc4 I1 ea c n l λu' s2 I2 ru=>⟨v,H1,I2,ru,q⟩
theorem Aw (ha:PE X o ta)(hv:PE X value tv)(hs:swapsWith value (some (.Attribute o f pos')) pos.line X.env=pure false):PS X (.Assign [.Attribute o f pos'] value pos) (sFld X.K ta tv f):=by
 intro aA s σ H D I h;refine plainObj_wpAny_Assign_Attribute (thn (hv aA s σ H _ I h) λu s1 ⟨y,H1,I1,ry,q⟩=>thn (ha aA s1 σ H1 _ I1 q) λov s2 ⟨x,H2,I2,rx,a,C,dx,fs,ex,ea,c,n,l,q2⟩=>?_) hs;subst ex;obtain rfl:ov=Value.ref a:=rx;exact AJ I2 ea c n l ry λs3 I3=>⟨σ,_,I3,q2⟩
end
section
variable {X:Cx}{aA:LA}{σ:St}{H:Hp}{s:Shared}{A:Around}{E:Value->Shared->Prop}{Q:Value->Shared->Prop}{c:Value}{b:Bool}
inductive XQ (K:Fg)(H:Hp):V->Value->Prop where
 | non:XQ K H .non (.type "NoneType")
 | bl (x:Bool):XQ K H (.bl x) (.type "bool")
 | int (i:Int):XQ K H (.int i) (.type "int")
 | str (x:Str):XQ K H (.str x) (.type "str")
 | flt (x:UInt64):XQ K H (.flt x) (.type "float")
 | lst {a:Addr} {xs:List V} (e:H a=some (.lst xs)):XQ K H (.ref a) (.type "list")
 | frz {a:Addr} {o:Obj} {xs:List V} (e:H a=some (.frz o (.lst xs))):XQ K H (.ref a) (.type "list")
 | tup {a:Addr} {xs:List V} (e:H a=some (.tup xs)):XQ K H (.ref a) (.type "tuple")
 | dK {a:Addr} {aY:List (Key×V)} (e:H a=some (.dK aY)):XQ K H (.ref a) (.type "dict")
 | dT {a:Addr} {aY:List (List Key×V)} (e:H a=some (.dT aY)):XQ K H (.ref a) (.type "dict")
 | ins {a C dx:Addr} {fs:List (Str×V)} (e:H a=some (.ins C dx fs)) (cl:Cls K C) (ha:PySem.W.findIn K (.ref C) "__class__"=some (some (.builtin "object.__class__")))
   (hn:PySem.W.specialIn K (.builtin "object.__class__") "__get__"=some (some (.builtin "getset_descriptor.__get__"))) (htk:PySem.W.takesIn K (.builtin "object.__class__")=some true)
   (hm:PySem.W.mroIn K C (.type "object")=some true):XQ K H (.ref a) (.ref C)
theorem zdI (I:Inv X aA σ H s)(rx:ZG x u)(ty:XQ X.K H x t)(e:PySem.W.kitOne X.K t c=some b)(h:∀tk,Q (.bool b) { s with toks:=tk }):
  wpAny (model X.prog X.w) A (call (.builtin "isinstance") [u,c]) Q E s:=by
 cases ty with
 | non=>cases (show u=Value.none from rx);exact PySem.W.kia_one PySem.W.kitx_none I.kIn True.intro e (λz=>nomatch z) h
 | bl y=>cases (show u=Value.bool y from rx);exact PySem.W.kia_one PySem.W.kitx_bool I.kIn True.intro e (λz=>nomatch z) h
 | int i=>obtain⟨t,q⟩:=(show ∃t,u=Value.int i t from rx);cases q;exact PySem.W.kia_one PySem.W.kitx_int I.kIn True.intro e (λz=>nomatch z) h
 | str y=>obtain⟨t,q⟩:=(show ∃t,u=Value.str y t from rx);cases q;exact PySem.W.kia_one PySem.W.kitx_str I.kIn True.intro e (λz=>nomatch z) h
 | flt y=>obtain⟨t,q⟩:=(show ∃t,u=Value.float y t from rx);cases q;exact PySem.W.kia_one PySem.W.kitx_float I.kIn True.intro e (λz=>nomatch z) h
 | @lst a xs ea=>
  cases (show u=Value.ref a from rx);obtain⟨_,_,n,_,h1⟩:=(show YH X.prog X.w H s.heap a (.lst xs) from I.hok a _ ea);exact PySem.W.kia_one PySem.W.kitx_list I.kIn ⟨_,h1,rfl⟩ e (λz=>nomatch z) h
 | @frz a ob xs ea=>
  cases (show u=Value.ref a from rx);obtain⟨_,_,_,n,_,h1⟩:=(show YH X.prog X.w H s.heap a (.frz ob (.lst xs)) from I.hok a _ ea);exact PySem.W.kia_one PySem.W.kitx_list I.kIn ⟨_,h1,rfl⟩ e (λz=>nomatch z) h
 | @tup a xs ea=>
  cases (show u=Value.ref a from rx);obtain⟨_,_,_,p⟩:=(show YH X.prog X.w H s.heap a (.tup xs) from I.hok a _ ea);obtain⟨o,h1,h2,_⟩:=p;exact PySem.W.kia_one PySem.W.kitx_tuple I.kIn ⟨o,h1,h2⟩ e (λz=>nomatch z) h
 | @dK a aY ea=>
  cases (show u=Value.ref a from rx);obtain⟨_,_,vs,_,p⟩:=(show YH X.prog X.w H s.heap a (.dK aY) from I.hok a _ ea);obtain⟨o,es,ep,h1,h2,_⟩:=p;exact PySem.W.kia_one PySem.W.kitx_dict I.kIn ⟨o,h1,h2.1⟩ e (λz=>nomatch z) h
 | @dT a aY ea=>
  cases (show u=Value.ref a from rx);obtain⟨_,_,xs,_,o,es,ep,h1,h2,_⟩:=(show YH X.prog X.w H s.heap a (.dT aY) from I.hok a _ ea);exact PySem.W.kia_one PySem.W.kitx_dict I.kIn ⟨o,h1,h2.1⟩ e (λz=>nomatch z) h
 | @ins a C dx fs ea cl ha hn htk hm=>
  cases (show u=Value.ref a from rx);obtain⟨mA,O,_⟩:=NV I.hok ea;obtain⟨od,J,_⟩:=O.look;exact PySem.W.kia_one (PySem.W.kitx_own (cl.get _) cl.hd ha hn htk hm) I.kIn J e (λz=>nomatch z) h
end
end L2
namespace L2
open PySem PySem.Spec PyProof.Rows
structure Yb (k:Nat)(A:Around):Prop where
 hd:A.handled=none
 dp:A.depth+3*k+5<recursionLimit
 un:A.units+16*k+200<cLine
theorem Yb.mono {j k:Nat}{A:Around}(r:Yb k A)(h:j<=k):Yb j A:=⟨r.hd,by have:=r.dp;omega,by have:=r.un;omega⟩
theorem Yb.deeper {k:Nat}{A:Around}(r:Yb (k+1) A)(env:Env):Yb k (A.deeper env):=
 ⟨r.hd,by have:=r.dp;show A.depth+1+3*k+5<_;omega,by have:=r.un;show A.units+3+16*k+200<_;omega⟩
theorem zbr {A:Around}{C:Addr}{us:List Value}{kw:List (Str×Value)}:(A.under (.builtin "type.__call__" ⟨.ref C::us,kw⟩)).depth=A.depth+1:=by
 first|rfl|simp[Around.under,Code.weight,Code.isCreation,Code.isGuard,Code.isCaller,Code.frames,Code.isFrame,guardIds]
theorem zaY {A:Around}{C:Addr}{us:List Value}{kw:List (Str×Value)}:(A.under (.builtin "type.__call__" ⟨.ref C::us,kw⟩)).units=A.units+1:=by
 first|rfl|simp[Around.under,Code.cUnits,Code.frames,Code.isFrame]
theorem Yb.make {k:Nat}{A:Around}(r:Yb (k+1) A)(C:Addr)(us:List Value)(kw:List (Str×Value)):Yb k (A.under (.builtin "type.__call__" ⟨.ref C::us,kw⟩)):=
 ⟨r.hd,by have:=r.dp;rw[zbr];omega,by have:=r.un;rw[zaY];omega⟩
theorem Yb.depth {k:Nat}{A:Around}(r:Yb k A):A.depth<recursionLimit:=by have:=r.dp;omega
def tNil:TA:=λ_ H Q=>Q [] H
def tCons (ta:TE)(tr:TA):TA:=λσ H Q=>ta σ H λx H1=>tr σ H1 λxs H2=>Q (x::xs) H2
section
variable {X:Cx}{e:Expr}{es:List Expr}{te:TE}{t:TA}{pos:Pos}
theorem MG:PA X [] tNil:=λ_ _ _ _ H Q I h=>Calls.spliced_nil ⟨[],H,I,.nil,h⟩
theorem SN (ha:PE X e te)(hr:PA X es t)(hs:starEach (e::es) X.env=(false,eval e X.env)::starEach es X.env:=by rfl):PA X (e::es) (tCons te t):=by
 intro pos aA s σ H Q I h;rw[hs];show wpAny _ _ (spliced ((false,eval e X.env)::backTo pos (starEach es X.env))) _ _ s;refine Calls.spliced_cons (thn (ha aA s σ H _ I h) λu s1 ⟨x,H1,I1,r1,q1⟩=>?_);exact thn (hr pos aA s1 σ H1 _ I1 q1) λus s2 ⟨xs,H2,I2,r2,q2⟩=>⟨x::xs,H2,I2,.cons r1 r2,q2⟩
def tTup (t:TA):TE:=λσ H Q=>t σ H λxs H1=>xs.length<=sizeLine/\∀p,H1 p=none->Q (.ref p) (upd H1 p (.tup xs))
def tLst (t:TA):TE:=λσ H Q=>t σ H λxs H1=>xs.length<=sizeLine/\∀p,H1 p=none->Q (.ref p) (upd H1 p (.lst xs))
theorem zbv {x1}(h:PA X es t):PE X (.Tuple es x1 pos) (tTup t):=by
 intro aA s σ H Q I hq;refine wpAny_Tuple_spliced (thn (h pos aA s σ H _ I hq) λus s1 ⟨xs,H1,I1,r,z,q⟩=>⟨by rw[<- r.length];exact z,?_⟩);have hf:H1 s1.heap.objs.size=none:=I1.hok.fresh (zC _);refine⟨.ref s1.heap.objs.size,upd H1 s1.heap.objs.size (.tup xs),I1.laid (t':=s1.toks) (λb u e=>Heap.get?_push_of_some _ e) (zC _) ?_,rfl,q _ hf⟩;exact⟨z,us,r,⟨_,Heap.get?_push_size _ rfl,rfl,_,rfl⟩⟩
theorem zaJ (h:PA X es t):PE X (.List es pos) (tLst t):=by
 intro aA s σ H Q I hq;refine wpAny_List_spliced (thn (h pos aA s σ H _ I hq) λus s1 ⟨xs,H1,I1,r,z,q⟩=>⟨by rw[<- r.length];exact z,?_⟩);have hf:H1 s1.heap.objs.size=none:=I1.hok.fresh (zC _);refine⟨.ref s1.heap.objs.size,upd H1 s1.heap.objs.size (.lst xs),I1.laid (t':=s1.toks) (λb u e=>Heap.get?_push_of_some _ e) (zC _) ?_,rfl,q _ hf⟩;exact⟨z,us,0,r,Heap.get?_push_size _ rfl⟩
end
abbrev Sp:=List V->Hp->VK->XK->Prop
abbrev CXT:=List Env->Hp->Shared->XK->Value->Shared->Prop
structure VQ (P:Program)(w:World)(K:Fg)(mg:Str->Option Value)(base:Heap)(A:Around)(outer:List Env)(s:Shared)(H:Hp):Prop where
 frames:A.frames=some outer
 mod:Mod K mg base
 bs:∀b o,base.get? b=some o->s.heap.get? b=some o/\H b=none
 bsz:base.objs.size<=s.heap.objs.size
 funs:s.heap.FunFrames base outer
 frf:∀b∈frs outer,H b=none
 hok:HOk P w H s.heap
 bare:AllBare s.gens
def CE (outer:List Env)(P:Program)(w:World)(H:Hp)(s:Shared)(Q:VK)(u:Value)(s':Shared):Prop:=
 ∃v H',s'.os=s.os/\AllBare s'.gens/\Un (frs outer) [] H H' s.heap s'.heap/\HOk P w H' s'.heap/\ZG v u/\Q v H'
def CR (CX:CXT)(outer:List Env)(P:Program)(w:World)(H:Hp)(s:Shared)(Q:VK)(E:XK)(r:Result)(s':Shared):Prop:=
 match r with
 | .ok (.ret u)=>CE outer P w H s Q u s'
 | .ok _=>False
 | .error e=>CX outer H s E e s'
structure YI (P:Program)(w:World)(K:Fg)(mg:Str->Option Value)(base:Heap)(CX:CXT)(k:Nat)(f:Addr)(fd:FuncData)(ps:List Str)(sp:Sp):Prop where
 len:∀vs H Q E,sp vs H Q E->vs.length=ps.length
 run:∀(A:Around)(outer:List Env)(s:Shared)(H:Hp)(args:Args)(us:List Value)(vs:List V)(Q:VK)(E:XK),Yb k A->VQ P w K mg base A outer s H->BindsTo s fd args (ps.zip us)->ZI vs us->sp vs H Q E->
  codeAny (model P w) A (.call (.ref f) args) (CR CX outer P w H s Q E) s
theorem VQ.make {P:Program}{w:World}{K:Fg}{mg:Str->Option Value}{base:Heap}{A:Around}{outer:List Env}{s:Shared}{H:Hp}(e:VQ P w K mg base A outer s H)(C:Addr)(us:List Value)(kw:List (Str×Value)):
  VQ P w K mg base (A.under (.builtin "type.__call__" ⟨.ref C::us,kw⟩)) outer s H:=⟨by first|exact e.frames|(simpa [Around.under,Code.envs,Code.isFrame,pushEnvs] using e.frames),e.mod,e.bs,e.bsz,e.funs,e.frf,e.hok,e.bare⟩
section
variable {X:Cx}{aA:LA}{σ:St}{H:Hp}{s s':Shared}
theorem Inv.env0 (I:Inv X aA σ H s):VQ X.prog X.w X.K X.mg X.base X.A X.stack s H:=
 ⟨I.ok.frames,I.ok.mod,I.bs,yH I.ok.bsz I.sz,I.stack,I.stkFree,I.hok,I.bare⟩
theorem Inv.after (I:Inv X aA σ H s)(h:CE X.stack X.prog X.w H s Q u s'):EP X aA σ Q u s':=by
 obtain⟨v,H',os,bare,un,hok,r,q⟩:=h;obtain⟨hh,g,d,t,os'⟩:=s';obtain rfl:os'=s.os:=os;exact⟨v,H',I.call (h':=hh) (g':=g) (d':=d) (t':=t) (ch:=[]) un hok bare (λb z=>absurd z (by simp)),r,q⟩
end
def tMake (C:Addr)(sp:Sp)(dvs:List V)(E:XK)(t:TA):TE:=λσ H Q=>t σ H λvs H1=>∀x dx,H1 x=none->H1 dx=none->dx≠x->
 sp (.ref x::(vs++dvs)) (upd (upd H1 dx (.own x)) x (.ins C dx [])) (λv H2=>v=.non/\Q (.ref x) H2) E
def Xi (K:Fg)(fd:FuncData)(ps:List Str)(ds:List Value):Prop:=
 ∀(s:Shared)(us:List Value),K.In s.heap->(us++ds).length=ps.length->BindsTo s fd ⟨us,[]⟩ (ps.zip (us++ds))
theorem Xi.all {K:Fg}{fd:FuncData}{ps:List Str}(h:∀us:List Value,us.length=ps.length->bindArgs fd ⟨us,[]⟩=pure (ps.zip us)):Xi K fd ps []:=λs us _ hl=>by
 rw[yX] at hl ⊢;exact .of_eq (h us hl)
def O8 (CX:CXT)(X:Cx)(E:XK):Prop:=∀(aA:LA)(σ:St)(H:Hp)(s:Shared)(e:Value)(s':Shared),Inv X aA σ H s->CX X.stack H s E e s'->X.xe e s'
section
variable {X:Cx}{CX:CXT}{k:Nat}{f C:Addr}{fd:FuncData}{ps:List Str}{sp:Sp}{dvs:List V}{ds:List Value}{E:XK}{x m:Str}{p pos aO:Pos}{e o:Expr}{es:List Expr}{ta:TE}{t:TA}
structure Mk (K:Fg)(C f:Addr):Prop where
 makes:PySem.W.makesIn K C=true
 init:PySem.W.findIn K (.ref C) "__init__"=some (some (.ref f))
 fn:PySem.W.isFn K (.ref f)=true
 kp:PySem.W.keepIn K (.ref C)=true
theorem Ab (M:Mk X.K C f)(F:YI X.prog X.w X.K X.mg X.base CX k f fd ps sp)(hr:Yb (k+1) X.A)(hb:Xi X.K fd ps ds)(hd:ZI dvs ds)(hx:O8 CX X E)(I:Inv X aA σ H s)(r:ZI vs us)(h:∀x dx,H x=none->H dx=none->dx≠x->sp (.ref x::(vs++dvs)) (upd (upd H dx (.own x)) x (.ins C dx [])) (λv H2=>v=.non/\Q (.ref x) H2) E):
  wpAny (model X.prog X.w) X.A (call (.ref C) us) (EP X aA σ Q) X.xe s:=by
 have hq:=h (s.heap.objs.size+1) s.heap.objs.size (I.hok.fresh (Nat.le_succ _)) (I.hok.fresh (zC _)) (zW (Nat.lt_succ_self _))
 have I2:=Inv.made (C:=C) I
 have r2:ZI (V.ref (s.heap.objs.size+1)::(vs++dvs)) (Value.ref (s.heap.objs.size+1)::(us++ds)):=.cons rfl (r.append hd)
 have hl:(Value.ref (s.heap.objs.size+1)::us++ds).length=ps.length:=by
  have e:=r2.length;rw[F.len _ _ _ _ hq] at e;exact e.symm
 refine wpAny_call (zdL (f:=f) I.kIn M.makes M.init (beq_iff_eq.mp M.fn) (codeAny_mono (F.run _ X.stack _ _ ⟨Value.ref (s.heap.objs.size+1)::us,[]⟩ (Value.ref (s.heap.objs.size+1)::(us++ds)) _ _ E (hr.make C us [])
  (I2.env0.make C us []) (hb _ (Value.ref (s.heap.objs.size+1)::us) I2.kIn hl) r2 hq) λr s' hq'=>?_))
 cases r with
 | error e=>exact hx aA σ _ _ e s' I2 hq'
 | ok fl=>
  cases fl with
  | ret u=>
   obtain⟨v,H',I3,rv,ev,q3⟩:=I2.after hq';subst ev;exact⟨rv,⟨V.ref (s.heap.objs.size+1),H',I3,rfl,q3⟩⟩
  | next=>exact False.elim hq'
  | brk=>exact False.elim hq'
  | cont=>exact False.elim hq'
theorem zcg (M:Mk X.K C f)(F:YI X.prog X.w X.K X.mg X.base CX k f fd ps sp)(hr:Yb (k+1) X.A)(hg:Gl X x)(hm:X.mg x=some (.ref C))(hb:Xi X.K fd ps ds)(hd:ZI dvs ds)(hx:O8 CX X E)
  (ha:PA X (e::es) t)(hdb:(x==("__debug__":Str))=false:=by decide)(he:starEach (e::es) X.env=(false,eval e X.env)::starEach es X.env:=by rfl)(hpl:(backTo pos (starEach es X.env)).any (·.1)=false:=by rfl):
  PE X (.Call (.Name x p) (e::es) [] pos) (tMake C sp dvs E t):=by
 intro aA s σ H Q I h;refine wpAny_Call_Name_kw (G6 I hg hm ?_ hdb);refine PySem.W.callWith_K (h₀:=X.base) I.ok.mod.kin M.kp (thn (ha pos aA s σ H _ I h) λus s1 ⟨vs,H1,I1,r,q⟩=>⟨I1.kIn,?_⟩) he hpl;exact Ab M F hr hb hd hx I1 r q
end
section
variable {X:Cx}{CX:CXT}{k:Nat}{f C:Addr}{fd:FuncData}{ps ks:List Str}{sp:Sp}{E:XK}{x m:Str}{p pos aO kpos:Pos}{e o:Expr}{es:List Expr}{kws:List Keyword}{te ta:TE}{t tk:TA}{nm:Option Str}
variable {g:List Value->List Value->List Value}{gV:List V->List V->List V}
end
structure ZC (N P:List Str)(sc:Scope):Prop where
 kind:sc.kind=.function
 co:sc.isCoroutine=false
 gen:sc.isGenerator=false
 nd:N.Nodup
 pre:N.take P.length=P
 par:∀x∈P,sc.names.lookup x=some .local\/sc.names.lookup x=some .cell
 nofree:∀y∈sc.names,y.2≠.free
theorem GQ {kindOf:Str->Option NameKind}{x:Str}:∀ {binds:List (Str×Value)} {m:Str->Option Value},(∀v,(x,v) ∉ binds)->bindL kindOf binds m x=m x
 | [],_,_=>rfl
 | (n,v)::r,m,h=>by
  unfold bindL;rw[GQ λw hw=>h w (yN _ hw)];split
  ·have:x≠n:=by rintro rfl;exact h v yC
   simp[this]
  ·rfl
theorem Ec {kindOf:Str->Option NameKind}{x:Str}:∀ {binds:List (Str×Value)} {m:Str->Option Value},(∀v,(x,v) ∉ binds)->bindC kindOf binds m x=m x
 | [],_,_=>rfl
 | (n,v)::r,m,h=>by
  unfold bindC;rw[Ec λw hw=>h w (yN _ hw)];split
  ·rfl
  ·have:x≠n:=by rintro rfl;exact h v yC
   simp[this]
theorem Fb {kindOf:Str->Option NameKind}{x:Str}{v:Value}:∀ {P:List Str} {vs:List Value} {i:Nat} {m:Str->Option Value},P.Nodup->P[i]?=some x->vs[i]?=some v->kindOf x=some .local->
  bindL kindOf (P.zip vs) m x=some v
 | [],_,_,_,_,h,_,_=>by simp at h
 | _::_,[],_,_,_,_,h,_=>by simp at h
 | p::P,w::vs,0,m,nd,h1,h2,hk=>by
  simp at h1 h2;subst h1;subst h2
  show bindL kindOf ((p,w)::P.zip vs) m p=_;unfold bindL;rw[GQ λv hv=>(List.nodup_cons.mp nd).1 (List.of_mem_zip hv).1,if_pos hk];simp
 | p::P,w::vs,i+1,m,nd,h1,h2,hk=>by
  show bindL kindOf ((p,w)::P.zip vs) m x=_;unfold bindL;exact Fb (i:=i) (List.nodup_cons.mp nd).2 (by simpa using h1) (by simpa using h2) hk
theorem F3 {kindOf:Str->Option NameKind}{x:Str}{v:Value}:∀ {P:List Str} {vs:List Value} {i:Nat} {m:Str->Option Value},P.Nodup->P[i]?=some x->vs[i]?=some v->kindOf x≠some .local->
  bindC kindOf (P.zip vs) m x=some v
 | [],_,_,_,_,h,_,_=>by simp at h
 | _::_,[],_,_,_,_,h,_=>by simp at h
 | p::P,w::vs,0,m,nd,h1,h2,hk=>by
  simp at h1 h2;subst h1;subst h2
  show bindC kindOf ((p,w)::P.zip vs) m p=_;unfold bindC;rw[Ec λv hv=>(List.nodup_cons.mp nd).1 (List.of_mem_zip hv).1,if_neg hk];simp
 | p::P,w::vs,i+1,m,nd,h1,h2,hk=>by
  show bindC kindOf ((p,w)::P.zip vs) m x=_;unfold bindC;exact F3 (i:=i) (List.nodup_cons.mp nd).2 (by simpa using h1) (by simpa using h2) hk
def WM (N:List Str)(vs:List V):St:=vs.map some++List.replicate (N.length-vs.length) none
def TL (CX:CXT)(P:Program)(w:World)(K:Fg)(mg:Str->Option Value)(base:Heap)(N:List Str)(aL:Str)(scope:Scope)(f:Addr)(cd:Value)(A:Around)(outer:List Env)(s:Shared)(H:Hp)(E:XK):Cx where
 prog:=P
 w:=w
 K:=K
 mg:=mg
 base:=base
 A:=A.deeper (envOfC aL scope s.heap.objs.size f cd)
 N:=N
 s₀:=s
 H₀:=H
 env:=envOfC aL scope s.heap.objs.size f cd
 outer:=outer
 stack:=envOfC aL scope s.heap.objs.size f cd::outer
 ex:=[]
 calm:=true
 fn:=λ_=>true
 pn:=[]
 xe:=λe s'=>wpAny (model P w) (A.deeper (envOfC aL scope s.heap.objs.size f cd)) (leaving (envOfC aL scope s.heap.objs.size f cd) e) (λ_ s''=>CX outer H s E e s'') (λe' s''=>CX outer H s E e' s'') s'
theorem GN {sc:Scope}{n:Nat}{x:Str}(h:sc.names.lookup x=some .cell):∃c,(cellsFrom n sc.names []).lookup x=some c:=by
 have q:=PySem.W.cellsFrom_some sc.names n [] (.inl h);exact xF.mp q
theorem DU {CX:CXT}{P:Program}{w:World}{K:Fg}{mg:Str->Option Value}{base:Heap}{N ps:List Str}{aL:Str}{scope:Scope}{f:Addr}{cd:Value}{A:Around}{outer:List Env}{s s1:Shared}{H:Hp}{E:XK}{us:List Value}{vs:List V}
  (S:ZC N ps scope)(hd:A.handled=none)(e0:VQ P w K mg base A outer s H)(hl:vs.length=ps.length)(r:ZI vs us)
  (x:InCallC s s.heap.objs.size (bindL (envOfC aL scope s.heap.objs.size f cd).kindOf (ps.zip us) λ_=>none) (cellsFrom (s.heap.objs.size+1) scope.names []) (bindC (envOfC aL scope s.heap.objs.size f cd).kindOf (ps.zip us) λ_=>none) s1):
  Inv (TL CX P w K mg base N aL scope f cd A outer s H E) [] (WM N vs) H s1:=by
 have hpl:ps.length<=N.length:=by have:=congrArg List.length S.pre;rw[yP] at this;omega
 obtain⟨h1,tk,rfl,hk⟩:=x.done;have noA:∀b:Addr,b ∉ (TL CX P w K mg base N aL scope f cd A outer s H E).ex:=λb z=>absurd (show b∈([]:List Addr) from z) (by simp)
 refine⟨⟨e0.mod,S.kind,rfl,rfl,zC _,λy z c h1 h2=>?_,λy hy=>?_,λy c _ h=>?_,λ_=>hd,Around.frames_deeper e0.frames,.inr ⟨rfl,rfl⟩,λb z=>absurd z (noA b),e0.bs,e0.bsz,λb _ _=>noA b,λb z=>absurd z (noA b),e0.funs,e0.frf⟩,
  rfl,e0.bare,Un.kept hk,⟨_,x.toInCall.ns,λi y v h1 h2 h3=>?_⟩,λy c h=>⟨_,x.cell y c h⟩,e0.hok.fresh (zC _),λy c h=>?_,λp hp=>absurd (show p∈([]:LA) from hp) (by simp),e0.hok.kept hk,?_⟩
 ·exact name_of_addr x.apart (PySem.mem_of_lookup h1) (PySem.mem_of_lookup h2)
 ·have hy:scope.names.lookup y=some .cell\/scope.names.lookup y=some .free:=hy;rcases hy with hy|hy
  ·exact GN hy
  ·exact absurd rfl (S.nofree _ (PySem.mem_of_lookup hy))
 ·exact xG (x.above y c (PySem.mem_of_lookup h))
 ·have hi:i<vs.length:=by
   unfold WM at h2;by_cases hi:i<vs.length
   ·exact hi
   ·rw[yA (by simpa using hi)] at h2;rw[List.getElem?_replicate] at h2;split at h2<;>cases h2
  have ha:vs[i]?=some v:=by
   unfold WM at h2;rw[zQ (by simpa using hi),zF] at h2;cases e:vs[i]? with
   | none=>rw[e] at h2;cases h2
   | some a=>rw[e] at h2;cases h2;rfl
  obtain⟨u,hu,rv⟩:=r.get ha;have hp:ps[i]?=some y:=by
   rw[<- S.pre,List.getElem?_take_of_lt (by omega)];exact h1
  have ndP:ps.Nodup:=by rw[<- S.pre];exact S.nd.sublist (List.take_sublist _ _)
  refine⟨u,rv,?_⟩;rcases S.par y (zJ hp) with k|k
  ·exact .inl ⟨k,Fb ndP hp hu k⟩
  ·obtain⟨c,e⟩:=GN (n:=s.heap.objs.size+1) k;refine .inr ⟨.inl k,c,e,?_⟩;have q:=x.cell y c e;rw[F3 ndP hp hu (by show scope.names.lookup y≠_;rw[k];decide)] at q;exact q
 ·exact e0.hok.fresh (xG (x.above y c (PySem.mem_of_lookup h)))
 ·unfold WM;show _=N.length;rw[zG,zA,List.length_replicate];omega
theorem fn_of {CX:CXT}{P:Program}{w:World}{K:Fg}{mg:Str->Option Value}{base:Heap}{k:Nat}{f:Addr}{name aL:Str}{params:Arguments}{body:List Stmt}{scope:Scope}{dV kV doc pm cdv ct oc:Value}{an od:Option Addr}
  {osl:Array (Option Value)}{N ps:List Str}{sp:Sp}(lk:K.lookup f=some ⟨oc,od,.func (PySem.W.fnOf name aL params body scope dV kV doc pm an cdv ct),osl⟩)(hcd:PySem.W.codeIn K cdv aL=true)(S:ZC N ps scope)
  (len:∀vs H Q E,sp vs H Q E->vs.length=ps.length)
  (hbody:∀(A:Around)(outer:List Env)(s:Shared)(H:Hp)(vs:List V)(Q:VK)(E:XK),Yb k (A.deeper (envOfC aL scope s.heap.objs.size f cdv))->sp vs H Q E->
   ∃t,PSs (TL CX P w K mg base N aL scope f cdv A outer s H E) body t/\t { nx:=λ_ H'=>Q .non H',rt:=Q } (WM N vs) H):
  YI P w K mg base CX (k+1) f (PySem.W.fnOf name aL params body scope dV kV doc pm an cdv ct) ps sp:=by
 refine⟨len,λA outer s H args us vs Q E hr e0 hb r hsp=>?_⟩;have hl:=len _ _ _ _ hsp
 have KX:K.In s.heap:=e0.mod.kin.keeps λb o e=>(e0.bs b o e).1
 have lim:s.heap.NoLimit:=e0.mod.nolimit.keeps λb o e=>(e0.bs b o e).1
 have hkind:∀y∈ps.zip us,scope.names.lookup y.1=some .local\/(scope.names.lookup y.1=some .cell/\((cellsFrom (s.heap.objs.size+1) scope.names []).lookup y.1).isSome=true):=λ⟨n,v⟩ hy=>by
  rcases S.par n (List.of_mem_zip hy).1 with q|q
  ·exact .inl q
  ·exact .inr ⟨q,PySem.W.cellsFrom_some _ _ _ (.inl q)⟩
 refine codeAny_call_function hr.depth (KX _ _ lk) rfl S.co S.gen rfl (PySem.W.codeRec_of KX hcd) (hb _ _ _ _ ?_);refine wpAny_newFunctionEnv_cells S.kind hkind λenv he s1 x=>?_
 subst he;refine⟨lim.keeps x.toInCall.keep,codeAny_func ?_⟩;obtain⟨t,ht,hq⟩:=hbody A outer s H vs Q E (hr.deeper _) hsp;have I:Inv (TL CX P w K mg base N aL scope f cdv A outer s H E) [] (WM N vs) H s1:=DU S hr.hd e0 hl r x;refine wpAny_mono (ht [] s1 (WM N vs) H _ I hq) (λfl s' hs=>?_) λe s' hs=>hs
 have bC:∀ {σ':St} {H':Hp} {v:V} {u:Value},Inv (TL CX P w K mg base N aL scope f cdv A outer s H E) [] σ' H' s'->ZG v u->Q v H'->CE outer P w H s Q u s':=
  λ{σ' H' v u} J rv q=>⟨v,H',J.os,J.bare,J.base,J.hok,rv,q⟩
 cases fl with
 | ret u=>
  obtain⟨v,σ',H',J,rv,q⟩:=hs;exact bC J rv q
 | next=>
  obtain⟨σ',H',J,q⟩:=hs;exact bC (v:=V.non) (u:=Value.none) J rfl q
 | brk=>
  obtain⟨_,_,_,q⟩:=hs;exact False.elim q
 | cont=>
  obtain⟨_,_,_,q⟩:=hs;exact False.elim q
end L2
namespace L2
open PySem PySem.Spec PyProof.Rows
section
variable {X:Cx}{x:Str}{p pos:Pos}{e:Expr}{es:List Expr}{t:TA}{id T:String}{r:List V->Hp->VK->Prop}
def tCB (r:List V->Hp->VK->Prop)(t:TA):TE:=λσ H Q=>t σ H λvs H1=>r vs H1 Q
theorem HX (hc:Yt X (.builtin id) r)(hg:Gl X x)(hm:X.mg x=none)(hv:bootBuiltins x=some (.builtin id))(ha:PA X (e::es) t)(hn:x≠"__name__":=by decide)(hdb:(x==("__debug__":Str))=false:=by decide)
  (he:starEach (e::es) X.env=(false,eval e X.env)::starEach es X.env:=by rfl)(hpl:(backTo pos (starEach es X.env)).any (·.1)=false:=by rfl):PE X (.Call (.Name x p) (e::es) [] pos) (tCB r t):=by
 intro aA s σ H Q I h;refine wpAny_Call_Name_kw (V9 I hg hm hv ?_ hn hdb);exact PyProof.Rows.callWith_builtin1 (thn (ha pos aA s σ H _ I h) λus s1 ⟨vs,H1,I1,r1,q1⟩=>hc aA s1 σ H1 vs us Q I1 r1 q1) he hpl
theorem Ij (hc:Yt X (.type T) r)(hg:Gl X x)(hm:X.mg x=none)(hv:bootBuiltins x=some (.type T))(ha:PA X (e::es) t)(hn:x≠"__name__":=by decide)(hdb:(x==("__debug__":Str))=false:=by decide)
  (he:starEach (e::es) X.env=(false,eval e X.env)::starEach es X.env:=by rfl)(hpl:(backTo pos (starEach es X.env)).any (·.1)=false:=by rfl):PE X (.Call (.Name x p) (e::es) [] pos) (tCB r t):=by
 intro aA s σ H Q I h;refine wpAny_Call_Name_kw (V9 I hg hm hv ?_ hn hdb);exact PyProof.Rows.callWith_type1 (thn (ha pos aA s σ H _ I h) λus s1 ⟨vs,H1,I1,r1,q1⟩=>hc aA s1 σ H1 vs us Q I1 r1 q1) he hpl
end
end L2
namespace HT
open PySem PyProof.Rows
section
open PySem.SeqAt
open PySem.AutoSeq1 (wpAny_loadPart')
open PySem.MeetsSeq PySem.MeetsSeq2 PySem.MeetsSeq3
end
section
variable {prog:Program}{w:World}{A:Around}{E:Value->Shared->Prop}{s:Shared}
def sIx (n d:Nat):Option Int->Nat
 | none=>d
 | some v=>if v<0 then (v+(n:Int)).toNat else min v.toNat n
theorem sIx_none (n d:Nat):sIx n d none=d:=rfl
theorem sIx_nat (n d k:Nat):sIx n d (some (k:Int))=min k n:=by
 show (if (k:Int)<0 then ((k:Int)+(n:Int)).toNat else min (k:Int).toNat n)=min k n;rw[if_neg (by omega),zI]
end
end HT
namespace L2
open PySem PySem.Spec PyProof.Rows
abbrev TO:=St->Hp->(Option Int->Hp->Prop)->Prop
def PO (X:Cx)(e:Option Expr)(t:TO):Prop:=
 ∀(aA:LA)(s:Shared)(σ:St)(H:Hp)(Q:Option Int->Hp->Prop),Inv X aA σ H s->t σ H Q->
  wpAny (model X.prog X.w) X.A (evalPart e X.env) (λu s'=>∃o H',Inv X aA σ H' s'/\IsPart u o/\Q o H') X.xe s
def EM:TO:=λ_ H Q=>Q none H
def tPart (t:TE):TO:=λσ H Q=>t σ H λx H1=>∃i,x=.int i/\Q (some i) H1
section
variable {X:Cx}{e:Expr}{te:TE}{lo hi:Option Expr}{tl th:TO}{pos p2:Pos}
theorem zcm:PO X none EM:=by
 intro aA s σ H Q I h;rw[evalPart_none];exact wpAny_pure ⟨none,H,I,.none,h⟩
theorem E1 (h:PE X e te):PO X (some e) (tPart te):=by
 intro aA s σ H Q I hw;rw[evalPart_some];refine thn (h aA s σ H _ I hw) λu s1 ⟨x,H1,I1,r1,q1⟩=>?_
 obtain⟨i,rfl,q⟩:=q1;obtain⟨t,rfl⟩:=r1;exact⟨some i,H1,I1,.int i t,q⟩
def SlR (X:Cx)(r:V->Option Int->Option Int->Hp->VK->Prop):Prop:=
 ∀(aA:LA)(s:Shared)(σ:St)(H:Hp)(x:V)(v vl vu:Value)(lo hi:Option Int)(sl:Addr)(Q:VK),Inv X aA σ H s->ZG x v->s.heap.IsSliceOf sl vl vu .none->IsPart vl lo->IsPart vu hi->r x lo hi H Q->
  ∃T id,typeLookup (.type T) "__getitem__"=pure (some (.builtin id))/\s.TypeIs v T/\wpAny (model X.prog X.w) X.A (getItem v (.ref sl)) (EP X aA σ Q) X.xe s
def tSl (r:V->Option Int->Option Int->Hp->VK->Prop)(te:TE)(tl th:TO):TE:=λσ H Q=>te σ H λx H1=>tl σ H1 λl H2=>th σ H2 λu H3=>r x l u H3 Q
theorem zcM (hr:SlR X r)(he:PE X e te)(hl:PO X lo tl)(hu:PO X hi th):PE X (.Subscript e (.Slice lo hi none p2) pos) (tSl r te tl th):=by
 intro aA s σ H Q I h;refine Subscript_ (thn (he aA s σ H _ I h) λv s1 ⟨x,H1,I1,r1,q1⟩=>?_);refine wpAny_Slice (thn (hl aA s1 σ H1 _ I1 q1) λvl s2 ⟨l,H2,I2,pl,q2⟩=>thn (hu aA s2 σ H2 _ I2 q2) λvu s3 ⟨u,H3,I3,pu,q3⟩=>?_);rw[evalPart_none];refine wpAny_pure ?_;have I4:Inv X aA σ H3 { s3 with heap:=s3.heap.push { cls:=.type "slice",data:=.fields #[vl,vu,.none] } }:=I3.kept (t':=s3.toks) λb ob q=>Heap.get?_push_of_some _ q
 obtain⟨T,id,hT,ht,hg⟩:=hr aA { s3 with heap:=s3.heap.push { cls:=.type "slice",data:=.fields #[vl,vu,.none] } } σ H3 x v vl vu l u s3.heap.objs.size Q I4 r1 (Heap.IsSliceOf.new ..) pl pu q3;show wpAny (model X.prog X.w) X.A (subscriptTail e (.Slice lo hi none p2) v (.ref s3.heap.objs.size)) (EP X aA σ Q) X.xe { s3 with heap:=s3.heap.push { cls:=.type "slice",data:=.fields #[vl,vu,.none] } };exact tail_any (ops:=[.ref s3.heap.objs.size,v]) ht hT hg (by with_unfolding_all rfl)
def TX (xs:List V)(lo hi:Option Int):List V:=(xs.drop (HT.sIx xs.length 0 lo)).take (HT.sIx xs.length xs.length hi-HT.sIx xs.length 0 lo)
theorem zaC (xs:List V)(lo hi:Option Int):(TX xs lo hi).length<=xs.length:=by
 unfold TX;rw[yP,List.length_drop];omega
end
end L2
namespace L2
open PySem PySem.Spec PyProof.Rows
def ixN (n:Nat)(i:Int):Option Nat:=if 0<=i then (if i<n then some i.toNat else none) else if -(n:Int)<=i then some (i+n).toNat else none
def atI {α:Type}(xs:List α)(i:Int):Option α:=(ixN xs.length i).bind λj=>xs[j]?
theorem GD (h:ixN n i=some j):seqIndex? i n=some j/\j<n/\-(n:Int)<=i/\i<n:=by
 unfold ixN at h;by_cases h0:0<=i
 ·rw[if_pos h0] at h;by_cases h1:i<n
  ·rw[if_pos h1] at h;have e:i.toNat=j:=Option.some.inj h;exact⟨by rw[seqIndex_of h0 h1,e],by omega,by omega,h1⟩
  ·rw[if_neg h1] at h;cases h
 ·rw[if_neg h0] at h;by_cases h1:-(n:Int)<=i
  ·rw[if_pos h1] at h;have e:(i+n).toNat=j:=Option.some.inj h;exact⟨by rw[seqIndex_neg (by omega) h1,e],by omega,h1,by omega⟩
  ·rw[if_neg h1] at h;cases h
theorem GJ (h:atI xs i=some v):∃j,seqIndex? i xs.length=some j/\xs[j]?=some v/\j<xs.length/\-(xs.length:Int)<=i/\i<xs.length:=by
 unfold atI at h;cases e:ixN xs.length i with
 | none=>rw[e] at h;cases h
 | some j=>
  rw[e] at h;obtain⟨h1,h2,h3,h4⟩:=GD e;exact⟨j,h1,h,h2,h3,h4⟩
theorem XA {α:Type}{xs:List α}{j:Nat}{v:α}(h:xs[j]?=some v):atI xs (j:Int)=some v:=by
 have hj:j<xs.length:=(zD.mp h).1
 have e:ixN xs.length (j:Int)=some j:=by
  unfold ixN;rw[if_pos (by omega),if_pos (by omega)];simp
 unfold atI;rw[e];exact h
def R3 (b:Expr):Prop:=∀o i,subscripted b false o i=operate [o,i] (getItem o i)
def IxR (X:Cx)(r:R2):Prop:=
 ∀(value slice:Expr)(aA:LA)(s:Shared)(σ:St)(H:Hp)(x y:V)(v u:Value)(Q:VK),Inv X aA σ H s->ZG x v->ZG y u->r x y H Q->
  subscripted slice false v u=operate [v,u] (getItem v u)->wpAny (model X.prog X.w) X.A (subscriptTail value slice v u) (EP X aA σ Q) X.xe s
def MtR (X:Cx)(id:String)(r:V->List V->Hp->VK->Prop):Prop:=
 ∀(aA:LA)(s:Shared)(σ:St)(H:Hp)(x:V)(xs:List V)(v:Value)(us:List Value)(Q:VK),Inv X aA σ H s->ZG x v->ZI xs us->r x xs H Q->
  wpAny (model X.prog X.w) X.A (call (.builtin id) (v::us)) (EP X aA σ Q) X.xe s
section
variable {X:Cx}{a b:Expr}{ta tb:TE}{pos:Pos}
theorem pe_ix (hr:IxR X r)(ha:PE X a ta)(hb:PE X b tb)(hs:R3 b):PE X (.Subscript a b pos) (tOp r ta tb):=by
 intro aA s σ H Q I h;exact Subscript_ (binT ha hb I h λv u s2 x y H2 I2 rx ry q=>hr a b aA s2 σ H2 x y v u Q I2 rx ry q (hs _ _))
def rIxL (K:Fg):R2:=λx y H Q=>∃p xs i v,x=.ref p/\y=.int i/\SqL K H p xs/\atI xs i=some v/\Q v H
def rIxT (K:Fg):R2:=λx y H Q=>∃p xs i v,x=.ref p/\y=.int i/\SqT K H p xs/\atI xs i=some v/\Q v H
theorem zae:IxR X (rIxL X.K):=by
 intro value slice aA s σ H x y v u Q I rx ry h hs;obtain⟨p,xs,i,z,rfl,rfl,hq,he,q⟩:=h;cases rx;obtain⟨t,rfl⟩:=ry;obtain⟨bA,r,pl,hz⟩:=I.list hq;obtain⟨j,h1,h2,h3,h4,h5⟩:=GJ he;obtain⟨w,ew,rw'⟩:=r.get h2;have hl:=r.length
 have hn:=QF
 have bC:EP X aA σ Q w s:=⟨z,H,I,rw',q⟩;by_cases h0:0<=i
 ·have hj:i.toNat=j:=by
   rw[seqIndex_of h0 h5] at h1;exact Option.some.inj h1
  exact item_listR pl.isList h0 (by omega) (by rw[hj];simpa using ew) bC hs
 ·have hj:(i+(bA.toArray.size:Int)).toNat=j:=by
   rw[seqIndex_neg (by omega) h4] at h1;rw[zV,<- hl];exact Option.some.inj h1
  exact subscriptTail_builtinR (x:=w) pl.isList.typeIs slot_list_getitem.lookup
   (wpAny_getItem_list_neg (Q:=λr s'=>r=w/\EP X aA σ Q r s') pl.isList (by omega) (by rw[zV]<;>omega) (by omega) (by rw[hj];simpa using ew) ⟨rfl,bC⟩) hs
theorem zaI:IxR X (rIxT X.K):=by
 intro value slice aA s σ H x y v u Q I rx ry h hs;obtain⟨p,xs,i,z,rfl,rfl,hq,he,q⟩:=h;cases rx;obtain⟨t,rfl⟩:=ry;obtain⟨bA,r,pl,hz⟩:=I.tuple hq;obtain⟨j,h1,h2,h3,h4,h5⟩:=GJ he;obtain⟨w,ew,rw'⟩:=r.get h2;have hl:=r.length
 have hn:=QF
 have bC:EP X aA σ Q w s:=⟨z,H,I,rw',q⟩;exact subscriptTail_builtinR (x:=w) pl.typeIs slot_tuple_getitem.lookup
  (getItem_tuple (j:=j) (Q:=λr s'=>r=w/\EP X aA σ Q r s') pl (by omega) (by omega) (by rw[zV,<- hl];exact h1) (by simpa using ew) ⟨rfl,bC⟩) hs
theorem zec (bA:List Value)(n j:Nat)(u:Value):Obj.mapSeq (·.setIfInBounds j u) { cls:=.type "list",data:=.seq bA.toArray n }={ cls:=.type "list",data:=.seq (bA.set j u).toArray n }:=by
 simp[Obj.mapSeq]
theorem Inv.lst {aA:LA}{σ:St}{H:Hp}{s:Shared}{p:Addr}{xs:List V}(I:Inv X aA σ H s)(h:H p=some (.lst xs)):
  ∃(bA:List Value)(n:Nat),ZI xs bA/\s.heap.get? p=some { cls:=.type "list",data:=.seq bA.toArray n }/\xs.length<=sizeLine:=by
 obtain⟨z,bA,n,r,e⟩:=I.hok p _ h;exact⟨bA,n,r,e,z⟩
theorem Inv.lstUpd {aA:LA}{σ:St}{H:Hp}{s:Shared}{p:Addr}{xs ys:List V}{bA its':List Value}{n n':Nat}{f:Obj->Obj}(I:Inv X aA σ H s)(h:H p=some (.lst xs))
  (ho:s.heap.get? p=some { cls:=.type "list",data:=.seq bA.toArray n })(hf:f { cls:=.type "list",data:=.seq bA.toArray n }={ cls:=.type "list",data:=.seq its'.toArray n' })(r:ZI ys its')(hz:ys.length<=sizeLine)(t:Nat):
  Inv X aA σ (upd H p (.lst ys)) { s with heap:=s.heap.update p f,toks:=t }:=by
 have e:(s.heap.update p f).get? p=some { cls:=.type "list",data:=.seq its'.toArray n' }:=by
  rw[Heap.get?_update_self f ho (by rw[hf]<;>rfl),hf]
 refine I.write (x:=p) (e:=p) (by rw[h];trivial) (.inl rfl) (λb u hb q=>(Heap.get?_update_other _ _ (Ne.symm hb)).trans q) ⟨_,e⟩ ?_;exact⟨hz,its',n',r,e⟩
def rSetL:V->V->V->Hp->(Hp->Prop)->Prop:=λo i v H Q=>∃p xs k j,o=.ref p/\i=.int k/\H p=some (.lst xs)/\ixN xs.length k=some j/\Q (upd H p (.lst (xs.set j v)))
theorem zdN:PSet X rSetL:=by
 intro aA s σ H o i v ov iv u Q I ro ri rv h;obtain⟨p,xs,k,j,rfl,rfl,hp,hj,q⟩:=h;cases ro;obtain⟨t,rfl⟩:=ri;obtain⟨bA,n,r,ho,hz⟩:=I.lst hp;obtain⟨h1,h2,h3,h4⟩:=GD hj;have hl:=r.length
 have hn:=QF
 have I':Inv X aA σ (upd H p (.lst (xs.set j v))) { s with heap:=s.heap.update p (Obj.mapSeq (·.setIfInBounds j u)) }:=
  I.lstUpd hp ho (zec bA n j u) (r.set rv j) (by rw[List.length_set];exact hz) s.toks
 by_cases h0:0<=k
 ·have hk:k.toNat=j:=by
   rw[seqIndex_of h0 h4] at h1;exact Option.some.inj h1
  exact PySem.W.ki_setAt ho h0 (by omega) (by rw[zV,<- hl];exact h4) (by rw[hk];exact⟨_,I',q⟩)
 ·have hk:(k+(bA.toArray.size:Int)).toNat=j:=by
   rw[seqIndex_neg (by omega) h3] at h1;rw[zV,<- hl];exact Option.some.inj h1
  exact PySem.W.ki_setBack ho (by omega) (by rw[zV,<- hl];exact h3) (by omega) (by rw[hk];exact⟨_,I',q⟩)
theorem BX (lo hi:Option Int)(n:Nat):(sliceBounds lo hi none n).1=((HT.sIx n 0 lo:Nat):Int)/\(sliceBounds lo hi none n).2.1=((HT.sIx n n hi:Nat):Int)/\(sliceBounds lo hi none n).2.2=1:=by
 refine⟨?_,?_,rfl⟩
 ·cases lo with
  | none=>simp[sliceBounds,HT.sIx]
  | some i=>
   simp only[sliceBounds,HT.sIx,Option.getD_none,show (1:Int) > 0 by decide,if_true];by_cases h:i<0
   ·simp only[h,if_true]<;>omega
   ·simp only[h,if_false]<;>omega
 ·cases hi with
  | none=>simp[sliceBounds,HT.sIx]
  | some i=>
   simp only[sliceBounds,HT.sIx,Option.getD_none,show (1:Int) > 0 by decide,if_true];by_cases h:i<0
   ·simp only[h,if_true]<;>omega
   ·simp only[h,if_false]<;>omega
theorem EU (bA:List Value)(lo hi:Option Int):slicePick bA.toArray lo hi none=((bA.drop (HT.sIx bA.length 0 lo)).take (HT.sIx bA.length bA.length hi-HT.sIx bA.length 0 lo)).toArray:=by
 obtain⟨h1,h2,h3⟩:=BX lo hi bA.toArray.size;unfold slicePick;rw[h1,h2,h3];simp only[sliceRange_one,pick_run,zV]<;>rfl
def rSlL (K:Fg):V->Option Int->Option Int->Hp->VK->Prop:=λx lo hi H Q=>∃a xs,x=.ref a/\SqL K H a xs/\∀p,H p=none->Q (.ref p) (upd H p (.lst (TX xs lo hi)))
theorem Cm:SlR X (rSlL X.K):=by
 intro aA s σ H x v vl vu lo hi sl Q I rx hs pl pu h;obtain⟨a,xs,rfl,hx,q⟩:=h;cases rx;obtain⟨bA,r,ht,hz⟩:=I.list hx;have aU:=r.length;refine⟨"list",_,slot_list_getitem.lookup,ht.isList.typeIs,?_⟩;refine wpAny_getItem_list_slice ht.isList hs pl pu .none (by simp) ?_ (by rw[zV]<;>omega);rw[EU,<- aU];refine⟨.ref s.heap.objs.size,_,I.laid (t':=s.toks) (o:=.lst (TX xs lo hi)) (λb ob q=>Heap.get?_push_of_some _ q) (zC _) ?_,rfl,q _ (I.hok.fresh (zC _))⟩;exact⟨yH (zaC xs lo hi) hz,_,0,(r.drop (HT.sIx xs.length 0 lo)).take (HT.sIx xs.length xs.length hi-HT.sIx xs.length 0 lo),Heap.get?_push_size _ rfl⟩
def NQ:V->Bool
 | .non=>true
 | .bl _=>true
 | .int _=>true
 | .str _=>true
 | _=>false
def eqV:V->V->Bool
 | .non,.non=>true
 | .bl a,.bl b=>a==b
 | .bl a,.int b=>(if a then 1 else 0)==b
 | .int a,.bl b=>a==(if b then 1 else 0)
 | .int a,.int b=>a==b
 | .str a,.str b=>a==b
 | _,_=>false
theorem zak (ry:ZG y u)(rx:ZG x v)(fy:NQ y=true)(fx:NQ x=true):SeqAt.EqAt A s u v (eqV y x):=by
 cases y with
 | non=>
  cases ry;cases x with
  | non=>cases rx;exact SeqAt.EqAt.same _
  | bl b=>cases rx;exact SeqAt.EqAt.none_bool b
  | int b=>obtain⟨t,rfl⟩:=rx;exact SeqAt.EqAt.none_int b t
  | str b=>obtain⟨t,rfl⟩:=rx;exact SeqAt.EqAt.none_str b t
  | _=>exact absurd (show false=true from fx) zX
 | bl a=>
  cases ry;cases x with
  | non=>cases rx;exact SeqAt.EqAt.bool_none a
  | bl b=>cases rx;exact SeqAt.EqAt.bool_bool a b
  | int b=>obtain⟨t,rfl⟩:=rx;exact SeqAt.EqAt.bool_int a b t
  | str b=>obtain⟨t,rfl⟩:=rx;exact SeqAt.EqAt.bool_str a b t
  | _=>exact absurd (show false=true from fx) zX
 | int a=>
  obtain⟨t',rfl⟩:=ry;cases x with
  | non=>cases rx;exact SeqAt.EqAt.int_none a t'
  | bl b=>cases rx;exact SeqAt.EqAt.int_bool a t' b
  | int b=>obtain⟨t,rfl⟩:=rx;exact SeqAt.EqAt.int_int a t' b t
  | str b=>obtain⟨t,rfl⟩:=rx;exact SeqAt.EqAt.int_str a t' b t
  | _=>exact absurd (show false=true from fx) zX
 | str a=>
  obtain⟨t',rfl⟩:=ry;cases x with
  | non=>cases rx;exact SeqAt.EqAt.str_none a t'
  | bl b=>cases rx;exact SeqAt.EqAt.str_bool a t' b
  | int b=>obtain⟨t,rfl⟩:=rx;exact SeqAt.EqAt.str_int a t' b t
  | str b=>obtain⟨t,rfl⟩:=rx;exact SeqAt.EqAt.str_str a t' b t
  | _=>exact absurd (show false=true from fx) zX
 | _=>exact absurd (show false=true from fy) zX
theorem zaB:Yt X (.builtin "len") (λxs H Q=>∃p ys,xs=[.ref p]/\(SqL X.K H p ys\/SqT X.K H p ys)/\Q (.int ys.length) H):=by
 intro aA s σ H xs us Q I r h;obtain⟨p,ys,rfl,hq,q⟩:=h;obtain⟨u,rfl,rx⟩:=Wg r;cases rx;have hn:=QF;rcases hq with hq|hq
 ·obtain⟨bA,r',pl,hz⟩:=I.list hq;have aU:=r'.length;exact Calls.call_len_list pl.isList (by simp only[zV]<;>omega) ⟨.int ys.length,H,I.tok _,⟨s.toks+1,by rw[zV,aU]⟩,q⟩
 ·obtain⟨bA,r',pl,hz⟩:=I.tuple hq;have aU:=r'.length;exact len_tuple pl (by simp only[zV]<;>omega) ⟨.int ys.length,H,I.tok _,⟨s.toks+1,by rw[zV,aU]⟩,q⟩
theorem Bq:Yt X (.type "list") (λxs H Q=>∃p ys,xs=[.ref p]/\(SqL X.K H p ys\/SqT X.K H p ys)/\∀l,H l=none->Q (.ref l) (upd H l (.lst ys))):=by
 intro aA s σ H xs us Q I r h;obtain⟨p,ys,rfl,hq,q⟩:=h;obtain⟨u,rfl,rx⟩:=Wg r;cases rx;have bC:∀(bA:List Value),ZI ys bA->ys.length<=sizeLine->∀(h':Heap)(c':Nat),(∀b o',s.heap.get? b=some o'->h'.get? b=some o')->
   h'.get? s.heap.objs.size=some { cls:=.type "list",dict:=none,data:=.seq bA.toArray c',slots:=#[] }->EP X aA σ Q (.ref s.heap.objs.size) { s with heap:=h' }:=λbA r' hz h' c' kp e=>
  ⟨.ref s.heap.objs.size,_,I.laid (t':=s.toks) kp (zC _) (show YH X.prog X.w _ h' _ (.lst ys) from ⟨hz,bA,c',r',e⟩),rfl,q _ (I.hok.fresh (zC _))⟩
 rcases hq with hq|hq
 ·obtain⟨bA,r',pl,hz⟩:=I.list hq;have aU:=r'.length;obtain⟨o,ho,hc,n,hd⟩:=pl.isList;exact call_list_seq p (.inl rfl) ho hc hd (λh' c' kp e=>bC bA r' hz h' c' kp e) (by simp only[zV]<;>omega)
 ·obtain⟨bA,r',pl,hz⟩:=I.tuple hq;have aU:=r'.length;obtain⟨o,ho,hc,n,hd⟩:=pl;exact call_list_seq p (.inr rfl) ho hc hd (λh' c' kp e=>bC bA r' hz h' c' kp e) (by simp only[zV]<;>omega)
theorem zcd:Yt X (.type "tuple") (λxs H Q=>∃p ys,xs=[.ref p]/\((SqL X.K H p ys/\∀l,H l=none->Q (.ref l) (upd H l (.tup ys)))\/(SqT X.K H p ys/\Q (.ref p) H))):=by
 intro aA s σ H xs us Q I r h;obtain⟨p,ys,rfl,h⟩:=h;obtain⟨u,rfl,rx⟩:=Wg r;cases rx;rcases h with ⟨hq,q⟩|⟨hq,q⟩
 ·obtain⟨bA,r',pl,hz⟩:=I.list hq;have aU:=r'.length;refine call_tuple_list pl.isList (λh' kp=>?_) (by simp only[zV]<;>omega);have I1:Inv X aA σ H { s with heap:=h' }:=I.kept (t':=s.toks) kp
  have I2:Inv X aA σ (upd H h'.objs.size (.tup ys)) { s with heap:=h'.push { cls:=.type "tuple",data:=.seq bA.toArray } }:=
   I1.laid (t':=s.toks) (λb o e=>Heap.get?_push_of_some _ e) (zC _) (show YH X.prog X.w _ _ _ (.tup ys) from ⟨hz,bA,r',IsTup.new _ _⟩)
  exact⟨.ref h'.objs.size,_,I2,rfl,q _ (I1.hok.fresh (zC _))⟩
 ·obtain⟨bA,r',pl,hz⟩:=I.tuple hq;exact call_tuple_same pl ⟨.ref p,H,I,rfl,q⟩
def tyV (K:Fg)(T:String)(x:V)(H:Hp):Prop:=match x with
 | .str _=>T="str"
 | .int _=>T="int"
 | .ref p=>(T="list"/\∃xs,SqL K H p xs)\/(T="tuple"/\∃o,K.lookup p=some o/\o.cls=.type "tuple"/\o.dict=none)\/
   (T="dict"/\((∃aY,H p=some (.dK aY))\/∃aY,H p=some (.dT aY)))\/(T="set"/\∃S n,H p=some (.set S n))
 | _=>False
theorem zbd (I:Inv X aA σ H s)(r:ZG x v)(ty:tyV X.K T x H):
  s.TypeIs v T/\∀a,v=.ref a->∃ob,s.heap.get? a=some ob/\ob.dict=none:=by
 cases x with
 | str z=>
  obtain⟨t,rfl⟩:=r;cases (show T="str" from ty);exact⟨typeIs_str s z t,λ_ e=>nomatch e⟩
 | int i=>
  obtain⟨t,rfl⟩:=r;cases (show T="int" from ty);exact⟨typeIs_int s i t,λ_ e=>nomatch e⟩
 | ref p=>
  cases r;rcases ty with ⟨rfl,xs,hq⟩|⟨rfl,o,hk,hc,hd⟩|⟨rfl,hk⟩|⟨rfl,S,n,hk⟩
  ·obtain⟨bA,_,pl,_⟩:=I.list hq;refine⟨pl.isList.typeIs,λa e=>?_⟩;cases e;obtain⟨o,n,e,c,hd,_⟩:=pl;exact⟨o,e,hd⟩
  ·refine⟨⟨o,I.kIn p o hk,hc⟩,λa e=>?_⟩;cases e;exact⟨o,I.kIn _ o hk,hd⟩
  ·have z:∃o,s.heap.get? p=some o/\o.ExactDict:=by
    rcases hk with ⟨aY,hk⟩|⟨aY,hk⟩
    ·obtain⟨_,_,_,_,o,_,_,e,ex,_⟩:=I.hok p _ hk;exact⟨o,e,ex⟩
    ·obtain⟨_,_,_,_,o,_,_,e,ex,_⟩:=I.hok p _ hk;exact⟨o,e,ex⟩
   obtain⟨o,e,ex⟩:=z;refine⟨⟨o,e,ex.1⟩,λa e2=>?_⟩;cases e2;exact⟨o,e,ex.2.1⟩
  ·obtain⟨o,_,_,_,e,ex,_⟩:=I.hok p _ hk;refine⟨⟨o,e,ex.1⟩,λa e2=>?_⟩;cases e2;exact⟨o,e,ex.2.1⟩
 | _=>exact False.elim ty
def tBM (K:Fg)(T:String)(r:V->List V->Hp->VK->Prop)(to:TE)(t:TA):TE:=λσ H Q=>to σ H λx H1=>tyV K T x H1/\t σ H1 λxs H2=>r x xs H2 Q
variable {o e:Expr}{es:List Expr}{to:TE}{t:TA}{name:Str}{aO aM:Pos}{T id:String}{r:V->List V->Hp->VK->Prop}
theorem EF (pa:PlainAttrs T)(slot:Slot T name id)(hty:typeOf (.builtin id)=pure (.type "method_descriptor"))(hm:MtR X id r)(ho:PE X o to)(ha:PA X (e::es) t)
  (hbase:attributeBase o name X.env (eval o X.env)=eval o X.env:=by rfl)
  (hfew:((backTo aM (starEach (e::es) X.env)).all (λx=>!x.1)&&(backToKw aM (keywordEach [] X.env)).all (λx=>x.1.isSome)
  &&decide ((e::es).length+([]:List Keyword).length+(if ([]:List Keyword).isEmpty then 0 else 1)<30))=true:=by rfl)
  (hline:(aO.endLine==aM.line)=true:=by rfl)(hs:starEach (e::es) X.env=(false,eval e X.env)::starEach es X.env:=by rfl)(hplain:(backTo aM (starEach es X.env)).any (·.1)=false:=by rfl):
  PE X (.Call (.Attribute o name aO) (e::es) [] aM) (tBM X.K T r to t):=by
 intro aA s σ H Q I h;refine wpAny_Call_method_late hbase hfew hline rfl (thn (ho aA s σ H _ I h) λv s1 ⟨x,H1,I1,r1,ty,q1⟩=>?_);obtain⟨h1,h2⟩:=zbd I1 r1 ty;refine⟨T,id,pa,slot,hty,h1,h2,?_⟩;have hA:=ha aM aA s1 σ H1 _ I1 q1;rw[hs] at hA ⊢;refine Calls.callWith_builtin (by show (false||(backTo aM (starEach es X.env)).any (·.1))=false;rw[hplain]<;>rfl) (Calls.evalArgs_plain ?_);exact thn hA λus s2 ⟨vs,H2,I2,r2,q2⟩=>hm aA s2 σ H2 x vs v us Q I2 r1 r2 q2
end
end L2
namespace L2
open PySem PySem.Spec PyProof.Rows
def MtM (X:Cx)(id:String)(r:V->List V->Hp->VK->Prop):Prop:=
 ∀(aA:LA)(s:Shared)(σ:St)(H:Hp)(x:V)(xs:List V)(v:Value)(us:List Value)(Q:VK),Inv X aA σ H s->ZG x v->ZI xs us->r x xs H Q->
  wpAny (model X.prog X.w) X.A (call (.builtin id) (v::us)) (EP X aA σ Q) X.xe s
theorem ZI.one:∀ {x:V} {us:List Value},ZI [x] us->∃u,us=[u]/\ZG x u
 | _,_,.cons r .nil=>⟨_,rfl,r⟩
theorem ZI.rep (h:ZI xs us):∀k:Nat,ZI (List.replicate k xs).flatten (List.replicate k us).flatten
 | 0=>.nil
 | k+1=>by
  rw[xU,xU,xZ,xZ];exact ZI.append h (ZI.rep h k)
theorem GY (bA:List Value):∀(k:Nat)(acc:List Value),
  List.foldl (λx1 x2=>x1++x2) acc.toArray (List.replicate k bA.toArray)=(acc++(List.replicate k bA).flatten).toArray
 | 0,acc=>by simp
 | k+1,acc=>by
  have e:acc.toArray++bA.toArray=(acc++bA).toArray:=by simp
  have e2:(acc++bA)++(List.replicate k bA).flatten=acc++(List.replicate (k+1) bA).flatten:=by
   rw[xU,xZ,xJ]
  rw[<- e2,<- GY bA k (acc++bA),<- e,xU,List.foldl_cons]
section
variable {X:Cx}{aA:LA}{σ:St}{H:Hp}{s:Shared}{l b:Addr}{xs ys zs:List V}
theorem Inv.lset {bA its':List Value}{n:Nat}{f:Array Value->Array Value}{t':Nat}(I:Inv X aA σ H s)(hH:H l=some (.lst xs))
  (e:s.heap.get? l=some { cls:=.type "list",data:=.seq bA.toArray n })(hf:f bA.toArray=its'.toArray)(hv:ZI ys its')(hz:ys.length<=sizeLine):
  Inv X aA σ (upd H l (.lst ys)) { s with heap:=s.heap.update l (Obj.mapSeq f),toks:=t' }:=by
 have q:=PySem.IsL.update e f;rw[hf] at q;refine I.write (x:=l) (e:=l) (by rw[hH];exact trivial) (.inl rfl) (λb' u hb hu=>(Heap.get?_update_other s.heap (Obj.mapSeq f) (Ne.symm hb)).trans hu) ⟨_,q⟩ ?_;exact⟨hz,its',_,hv,q⟩
theorem Inv.lnew (I:Inv X aA σ H s)(hv:ZI ys bA)(hz:ys.length<=sizeLine):
  Inv X aA σ (upd H s.heap.objs.size (.lst ys)) { s with heap:=s.heap.push { cls:=.type "list",data:=.seq bA.toArray },toks:=t' }:=
 I.laid (λ_ _ q=>Heap.get?_push_of_some _ q) (zC _) ⟨hz,bA,0,hv,Heap.get?_push_size _ rfl⟩
theorem Inv.fresh (I:Inv X aA σ H s):H s.heap.objs.size=none:=I.hok.fresh (zC _)
theorem Inv.lstM (I:Inv X aA σ H s)(hH:H l=some (.lst xs)):xs.length<=sizeLine/\∃(bA:List Value)(n:Nat),ZI xs bA/\xs.length=bA.length/\s.heap.get? l=some { cls:=.type "list",data:=.seq bA.toArray n }:=by
 obtain⟨z,bA,n,r,e⟩:=I.hok l _ hH;exact⟨z,bA,n,r,r.length,e⟩
theorem DZ {n:Nat}(h:n<=sizeLine):Builtin.List.listTooLong n=false:=by
 unfold Builtin.List.listTooLong;exact decide_eq_false (by omega)
end
section
variable {X:Cx}
def zaV:V->List V->Hp->VK->Prop:=λx vs H Q=>∃l xs y,x=.ref l/\vs=[y]/\H l=some (.lst xs)/\xs.length<sizeLine/\Q .non (upd H l (.lst (xs++[y])))
theorem J0:MtM X "list.append" zaV:=by
 intro aA s σ H x vs v us Q I rx rv h;obtain⟨l,xs,y,rfl,rfl,hH,hz,q⟩:=h;cases rx;obtain⟨u,rfl,ru⟩:=rv.one;obtain⟨z,bA,n,r,hl,e⟩:=I.lstM hH;refine call_meets F.slot_list_append ⟨_,e,rfl⟩ F.entry_list_append (F.args_list_append_2 _ _) (PySem.list_append l bA.toArray n u (by rw[zV];omega)) ⟨e,?_⟩;refine⟨.non,_,I.lset (its':=bA++[u]) hH e (by simp) (r.append (.cons ru .nil)) ?_,rfl,q⟩;rw[zG,List.length_singleton];omega
def rRep:R2:=λx y H Q=>∃l k xs,x=.ref l/\y=.int k/\H l=some (.lst xs)/\-(2^63)<=k/\k<2^63/\xs.length*k.toNat<=sizeLine/\
 ∀p,H p=none->Q (.ref p) (upd H p (.lst (List.replicate k.toNat xs).flatten))
theorem zas (xs:List α)(k:Nat):(List.replicate k xs).flatten.length=k*xs.length:=by
 induction k with
 | zero=>simp
 | succ k ih=>rw[xU,xZ,zG,ih,Nat.succ_mul,Nat.add_comm]
theorem Bh:OpR X (binaryOp .Mult) rRep:=by
 intro aA s σ H x y v u Q I rx ry h;obtain⟨l,k,xs,rfl,rfl,hH,h1,h2,hz,q⟩:=h;cases rx;obtain⟨t,rfl⟩:=ry;obtain⟨z,bA,n,r,hl,e⟩:=I.lstM hH;have aU:bA.toArray.size*k.toNat<=sizeLine:=by rw[zV,<- hl];exact hz
 have hcap:¬ bA.toArray.size*k.toNat > (2^63-1)/8:=by
  have:(sizeLine:Nat)<=(2^63-1)/8:=by decide
  omega
 have hfit:¬ (!Builtin.List.listFitsIndex k)=true:=by
  rw[fitsIndex_both h1 h2];exact zX
 have hlong:¬ Builtin.List.listTooLong (bA.toArray.size*k.toNat)=true:=by
  rw[DZ aU];exact zX
 have hnew:List.foldl (λx1 x2=>x1++x2) #[] (List.replicate (if bA.toArray.isEmpty=true then 0 else k.toNat) bA.toArray)=(List.replicate k.toNat bA).flatten.toArray:=by
  have f0:∀m:Nat,List.foldl (λx1 x2=>x1++x2) #[] (List.replicate m bA.toArray)=(List.replicate m bA).flatten.toArray:=λm=>by
   have:=GY bA m [];rw[List.nil_append] at this;exact this
  rw[f0];cases bA with
  | nil=>simp
  | cons a r'=>rw[if_neg (by simp)]
 refine wpAny_binaryOp_repeat_ref (T:="list") (U:="int") (by decide) ⟨_,e,rfl⟩ (λs'=>typeIs_int s' k t) noFill_list_mul F.fills_int_mul F.slot_int_rmul repeat_list F.slot_int_index.lookup
  (call_meets F.slot_int_rmul (typeIs_int s k t) F.entry_int_rmul (F.args_int_rmul_2 _ _) (int___rmul___int_list k t l bA.toArray n)
   ⟨e,rfl,⟨_,e,rfl⟩,call_meets F.slot_list_mul ⟨_,e,rfl⟩ F.entry_list_mul (F.args_list_mul_2 _ _) (AutoListH.list___mul___list_int_3 l bA.toArray n k t hfit hcap hlong) ⟨e,?_⟩⟩)
 rw[hnew];exact⟨.ref _,_,I.lnew (t':=s.toks) (r.rep k.toNat) (by rw[zas,Nat.mul_comm];exact hz),rfl,q _ I.fresh⟩
end
section
variable {prog:Program}{w:World}{A:Around}{E:Value->Shared->Prop}{s:Shared}
set_option maxRecDepth 100000 in
end
end L2
namespace Att
open PySem PySem.W PySem.Calls PyProof.Rows
theorem zcI {P:Params}{h:Heap}:∀(ns:List Int)(vs:List Value),WellAll P h vs (ns.map WData.int)->IntsAre vs ns:=by
 intro ns
 induction ns with
 | nil=>
  intro vs w;rw[List.map_nil] at w;cases w;exact .nil
 | cons n ns ih=>
  intro vs w;rw[xQ] at w;cases w with
  | cons a b=>
   cases a;exact .cons _ _ (ih _ b)
theorem Ae {l:OpenLaw}{n:Nat}(hn:l.most=some n){P:Params}{h:Heap}{args:List WData}{vals:List Value}
  (hpre:l.row.toRowW.claim.pre args=true)(hwl:WellAll P h vals args):
  ∃a vs ns,vals=[Value.ref a]/\args=[WData.list (ns.map WData.int)]/\h.get? a=some { cls:=.type "list",data:=.seq vs.toArray }/\IntsAre vs ns/\ns.length<=n:=by
 have hsh:WShape.hasAll [] args [.list .int]=true:=(pre_splitW hpre).1
 have hc:l.pre.holds [] { args:=args }=true:=(pre_splitW hpre).2;obtain⟨d,r,rfl,h1,h2⟩:=hasAllW_cons hsh;obtain rfl:=hasAllW_nil h2;obtain⟨xs,rfl,h3⟩:=hasW_list h1;obtain⟨ns,rfl⟩:=items_int h3;have aU:ns.length<=n:=by
  unfold OpenLaw.pre at hc;have h4:(WTm.not (.lt (.lit (.int (n:Int))) (.len (.arg 0)))).holds [] { args:=[.list (ns.map .int)] }=true:=by
   have h4:=(holds_andW hc).1;rw[hn] at h4;exact h4
  have h5:=condW_of h4 (w_not (w_lt w_lit (w_len_list (w_arg rfl))));rw[zA] at h5;refine Nat.le_of_not_lt λq=>?_
  have q':(n:Int)<((ns.length:Nat):Int):=by omega
  first
   | (rw[decide_eq_true q'] at h5;exact absurd h5 (by decide))
   | (simp at h5;omega)
 cases hwl with
 | cons w1 w2=>
  cases w2;cases w1 with
  | list ho hall=>exact⟨_,_,ns,rfl,rfl,ho,zcI ns _ hall,aU⟩
theorem zcZ (l:OpenLaw)(args:List WData):l.row.toRowW.claim.post args (.bool true) args=true:=
 postW_of (r:=l.row.toRowW) (X:=(true==true))
  (show WShape.has [] (.bool true) .bool=true by first|rfl|decide|simp[WShape.has,WShape.arms,WShape.armsAll])
  (show (WTm.eq .res (.lit (.bool true))).value [] { args:=args,res:=some (.bool true),after:=args }=some (.bool (true==true)) from w_eq_bool (w_res rfl) w_lit) rfl
theorem attach_call {l:OpenLaw}{n:Nat}{q:Program}{aK:List Str}{XP:(Str->Option Value)->Heap->Prop}{YP:World->Heap->Prop}{d:DefRec}
  (hn:l.most=some n)(hdf:d.params.defaults=[])
  (call:∀(w:World)(s₀ s₁:Shared)(mg mb:Str->Option Value)(fa:Addr)(o:Obj)(pm cd doc:Value)(a:Addr)(vs:List Value)(ns:List Int),
   Ground q aK [] XP w s₀ mg mb s₁.heap->YP w s₁.heap->
   s₁.heap.get? fa=some o->o.data=.func (docDef d.name d.params d.body d.scope pm cd doc)->s₁.heap.CodeRec cd d.name->mg d.name=some (.ref fa)->
   s₁.heap.get? a=some { cls:=.type "list",data:=.seq vs.toArray }->IntsAre vs ns->ns.length<=n->s₁.gens=#[]->
   codeAny (model l.prog w) callerA (.call (.ref fa) ⟨[.ref a],[]⟩) (λr s'=>r=.ok (.ret (.bool true))/\OldK s₁.heap s'.heap/\s'.os=s₁.os/\AllBare s'.gens) s₁):
  WalkO q aK XP YP l.row.toRowW d [] (λf vs=>PySem.call f vs):=by
 intro w s₀ s₁ mg mb G Y fa o pm cd doc dV kV ho hd hcd hD hmg hg args vals as hpre hlay hrd hwl hlo;obtain rfl:dV=.none:=Dflts.none hD hdf;obtain rfl:kV=.none:=Dflts.noKw hD;obtain⟨a,vs,ns,rfl,rfl,hobj,hints,aU⟩:=Ae hn hpre hwl;refine enter_call (codeAny_mono (call w s₀ s₁ mg mb fa o pm cd doc a vs ns G Y ho (fd_plain hd) hcd hmg hobj hints aU hg) λr s' hq=>?_);obtain⟨rfl,h2,h3,h4⟩:=hq;exact⟨.inl ⟨.bool true,.bool true,[],rfl,λ_=>rfl,.bool true,zcZ l _,λ_=>⟨List.Pairwise.nil,λ_ hm=>(nomatch hm)⟩⟩,h2,h3,h4⟩
section
variable {prog:Program}{w:World}{A:Around}{E:Value->Shared->Prop}{s:Shared}{K:Frag}
end
end Att
namespace L2
open PySem PySem.Spec PyProof.Rows
theorem R6:∀ {vs:List Value} {ns:List Int},IntsAre vs ns->ZI (ns.map V.int) vs
 | _,_,.nil=>.nil
 | _,_,.cons n t h=>.cons ⟨t,rfl⟩ (R6 h)
def RK (H:Hp):Prop:=∀b,H b=none\/∃o xs,H b=some (.frz o (.lst xs))
theorem Cn {P:Program}{w:World}{K:Fg}{mg mb:Str->Option Value}{CX:CXT}{k:Nat}{fa a:Addr}{fd:FuncData}{x:Str}{sp:Sp}{s₁:Shared}{vs:List Value}{ns:List Int}
  (KX:K.In s₁.heap)(hns:s₁.heap.Ns mainGlobals mg)(hb:s₁.heap.Ns builtinsNs mb)(hbb:∀x:Str,x≠"__name__"->mb x=bootBuiltins x)(hlim:s₁.heap.NoLimit)(hg:s₁.gens=#[])
  (ha:s₁.heap.get? a=some { cls:=.type "list",data:=.seq vs.toArray })(hi:IntsAre vs ns)(hl:ns.length<=sizeLine)(hr:Yb k callerA)
  (F:∀base:Heap,K.In base->base.Ns mainGlobals mg->YI P w K mg base CX k fa fd [x] sp)(hbind:∀(s:Shared)(u:Value),BindsTo s fd ⟨[u],[]⟩ [(x,u)])
  (hsp:∀H:Hp,RK H->SqL K H a (ns.map V.int)->sp [.ref a] H (λv _=>v=.bl true) λ_ _ _=>False)
  (hCX:∀H e s',CX [] H s₁ (λ_ _ _=>False) e s'->False):
  codeAny (model P w) callerA (.call (.ref fa) ⟨[.ref a],[]⟩) (λr s'=>r=.ok (.ret (.bool true))/\OldK s₁.heap s'.heap/\s'.os=s₁.os/\AllBare s'.gens) s₁:=by
 have rv:=R6 hi
 have lenV:=hi.length
 have core:∀H:Hp,RK H->SqL K H a (ns.map V.int)->HOk P w H s₁.heap->(∀b,H b≠none->b=a)->(H a≠none->K.lookup a=none)->
   codeAny (model P w) callerA (.call (.ref fa) ⟨[.ref a],[]⟩) (λr s'=>r=.ok (.ret (.bool true))/\OldK s₁.heap s'.heap/\s'.os=s₁.os/\AllBare s'.gens) s₁:=by
  intro H hO hS hok hA hK;have base_of:∀ {b:Addr} {o:Obj},s₁.heap.get? b=some o->H b=none->(Ve s₁.heap H).get? b=some o:=λe n=>zdE e n
  have noA:∀ {b:Addr} {o:Obj} {es:Array DictEntry} {ep:Nat},s₁.heap.get? b=some o->o.data=.dict es ep->H b=none:=λ{b o es ep} e d=>by
   cases q:H b with
   | none=>rfl
   | some u=>
    have e':b=a:=hA b (by rw[q];simp);subst e';rw[ha] at e;cases e
    have d':Data.seq vs.toArray _=Data.dict es ep:=d;cases d'
  have nsK:∀ {b:Addr} {m:Str->Option Value},s₁.heap.Ns b m->(Ve s₁.heap H).Ns b m:=λ{b m} ⟨o,es,ep,e,d,r⟩=>⟨o,es,ep,base_of e (noA e d),d,r⟩
  have hKb:K.In (Ve s₁.heap H):=λb o e=>base_of (KX b o e) (by
   cases q:H b with
   | none=>rfl
   | some u=>
    have e':b=a:=hA b (by rw[q];simp);subst e';rw[hK (by rw[q];simp)] at e;cases e)
  have hM:Mod K mg (Ve s₁.heap H):=⟨hKb,nsK hns,⟨mb,nsK hb,hbb⟩,let ⟨mc,h1,h2⟩:=hlim;⟨mc,nsK h1,h2⟩⟩
  have e0:VQ P w K mg (Ve s₁.heap H) callerA [] s₁ H:=⟨rfl,hM,λb o e=>zb4 e,Nat.le_of_eq (zaq _ _),trivial,λb hb=>absurd (show b∈([]:List Addr) from hb) (by simp),hok,.of_eq hg⟩;refine codeAny_mono ((F _ hKb (nsK hns)).run callerA [] s₁ H ⟨[.ref a],[]⟩ [.ref a] [.ref a] _ _ hr e0 (hbind s₁ (.ref a)) (.cons rfl .nil) (hsp H hO hS)) λr s' h=>?_
  cases r with
  | error e=>exact(hCX H e s' h).elim
  | ok fl=>
   cases fl with
   | next=>exact False.elim h
   | brk=>exact False.elim h
   | cont=>exact False.elim h
   | ret u=>
    obtain⟨v,H',os,bare,un,hok',r',q⟩:=h;have q':v=.bl true:=q;subst q';obtain rfl:u=Value.bool true:=r';refine⟨rfl,OldK.of_keep λb o e=>?_,os,bare⟩;cases q:H b with
    | none=>exact un.keep b o e q (by intro z;exact absurd (show b∈([]:List Addr) from z) (by simp)) (by simp)
    | some u=>
     rcases hO b with z|⟨ob,xs,z⟩
     ·rw[q] at z;cases z
     ·have z2:=un.frzs b ob _ z;obtain⟨e1,_⟩:=hok b _ z;obtain⟨e2,_⟩:=hok' b _ z2;rw[e] at e1;cases e1
      exact e2
 cases hk:K.lookup a with
 | some o=>
  have e:=KX a o hk;rw[ha] at e;cases e;refine core (λ_=>none) (λ_=>.inl rfl) (.inr ⟨_,vs.toArray,_,hk,rfl,rfl,rfl,by rw[zV,lenV];exact hl,by simpa using rv⟩) (λb u z=>by have z':(none:Option HO)=some u:=z;cases z') (λb z=>absurd rfl z) λz=>absurd rfl z
 | none=>
  refine core (λb=>if b=a then some (.frz { cls:=.type "list",data:=.seq vs.toArray } (.lst (ns.map V.int))) else none) (λb=>?_) (.inl (.inr ⟨{ cls:=.type "list",data:=.seq vs.toArray },if_pos rfl⟩)) (λb u z=>?_) (λb z=>?_) λ_=>hk
  ·by_cases hb:b=a
   ·exact .inr ⟨_,_,if_pos hb⟩
   ·exact .inl (if_neg hb)
  ·by_cases hb:b=a
   ·have z':=(if_pos hb).symm.trans z;cases z';subst hb;exact⟨ha,by rw[zA];exact hl,vs,_,rv,ha⟩
   ·have z':=(if_neg hb).symm.trans z;cases z'
  ·by_cases hb:b=a
   ·exact hb
   ·exact absurd (if_neg hb) z
end L2
namespace L2
open PySem PySem.Spec PyProof.Rows
theorem zcs {l:PySem.W.OpenLaw}{n k:Nat}{q:Program}{aK:List Str}{XP:(Str->Option Value)->Heap->Prop}{YP:World->Heap->Prop}{d:DefRec}{K:Params->Fg}{CX:World->CXT}{sp:World->Sp}{x:Str}
  (hn:l.most=some n)(hn2:n<=sizeLine)(hdf:d.params.defaults=[])(hr:Yb k callerA)
  (hY:∀(w:World)(h:Heap),YP w h->(K w.params).In h)
  (F:∀(w:World)(mg:Str->Option Value)(fa:Addr)(h:Heap),(K w.params).In h->h.Ns mainGlobals mg->mg d.name=some (.ref fa)->
   ∃fd:FuncData,(∀(s:Shared)(u:Value),BindsTo s fd ⟨[u],[]⟩ [(x,u)])/\
    ∀base:Heap,(K w.params).In base->base.Ns mainGlobals mg->YI l.prog w (K w.params) mg base (CX w) k fa fd [x] (sp w))
  (hsp:∀(w:World)(H:Hp)(a:Addr)(ns:List Int),ns.length<=n->RK H->SqL (K w.params) H a (ns.map V.int)->sp w [.ref a] H (λv _=>v=.bl true) λ_ _ _=>False)
  (hCX:∀(w:World)(H:Hp)(s:Shared)(e:Value)(s':Shared),CX w [] H s (λ_ _ _=>False) e s'->False):
  PySem.W.WalkO q aK XP YP l.row.toRowW d [] (λf vs=>PySem.call f vs):=by
 refine Att.attach_call hn hdf λw s₀ s₁ mg mb fa o pm cd doc a vs ns G Y ho hd hcd hmg hobj hints aU hg=>?_
 have KX:=hY w _ Y;obtain⟨fd,hb,hF⟩:=F w mg fa _ KX G.T.g hmg;exact Cn KX G.T.g G.T.b G.T.builtins G.T.nolimit hg hobj hints (yH aU hn2) hr hF hb (λH hO hS=>hsp w H a ns aU hO hS) λH e s'=>hCX w H s₁ e s'
end L2
namespace L2
open PySem PySem.Spec PyProof.Rows
structure Fun (K:Fg)(x aL:Str)(st:Stmt)(f:Addr)(fd:FuncData):Prop where
 ex:∃(oc:Value)(od:Option Addr)(kV doc pm:Value)(an:Option Addr)(cdv ct:Value)(osl:Array (Option Value)),
  fd=PySem.W.fnOf x aL (Va st) (Wz st) (Zo st) .none kV doc pm an cdv ct/\K.lookup f=some ⟨oc,od,.func fd,osl⟩/\PySem.W.codeIn K cdv aL=true
 kp:PySem.W.keepIn K (.ref f)=true
section
variable {P:Program}{w:World}{K:Fg}{mg:Str->Option Value}{base:Heap}
theorem Fun.binds {x aL:Str}{st:Stmt}{f:Addr}{fd:FuncData}{ps:List Str}(F:Fun K x aL st f fd)
  (h:∀(kV doc pm:Value)(an:Option Addr)(cdv ct:Value)(us:List Value),us.length=ps.length->bindArgs (PySem.W.fnOf x aL (Va st) (Wz st) (Zo st) .none kV doc pm an cdv ct) ⟨us,[]⟩=pure (ps.zip us)):Xi K fd ps []:=by
 obtain⟨oc,od,kV,doc,pm,an,cdv,ct,osl,rfl,lk,hcd⟩:=F.ex;exact .all (h kV doc pm an cdv ct)
theorem LX {x aL:Str}{st:Stmt}{f:Addr}{oc:Value}{od an:Option Addr}{osl:Array (Option Value)}{kV doc pm cdv ct:Value}(l:K.lookup f=some ⟨oc,od,.func (PySem.W.fnOf x aL (Va st) (Wz st) (Zo st) .none kV doc pm an cdv ct),osl⟩)
  (c:PySem.W.codeIn K cdv aL=true)(k:PySem.W.keepIn K (.ref f)=true):Fun K x aL st f (PySem.W.fnOf x aL (Va st) (Wz st) (Zo st) .none kV doc pm an cdv ct):=⟨⟨oc,od,kV,doc,pm,an,cdv,ct,osl,rfl,l,c⟩,k⟩
end
theorem Su (h:n<=1000):n<sizeLine:=Nat.lt_of_le_of_lt h (by decide)
section
variable {X:Cx}
theorem pv (i:Nat)(hN:X.N[i]?=some x:=by rfl)(hv:Vis X.env.scope x:=by first|exact Or.inl rfl|exact Or.inr (Or.inl rfl)|exact Or.inr (Or.inr rfl))(hd:(x==("__debug__":Str))=false:=by decide)(hcd:(x==("__classdict__":Str))=false:=by decide):PE X (.Name x pos) (tVar i):=Fj hN hv hd hcd
end
theorem YS {A B:Prop}(h:B):if false=true then A else B:=by
 rw[if_neg zX];exact h
theorem Xn {A B:Prop}(h:A):if true=true then A else B:=by
 rw[if_pos rfl];exact h
theorem Y0 {c A B:Prop} [Decidable c] (h1:c->A)(h2:¬ c->B):if c then A else B:=by
 by_cases h:c
 ·rw[if_pos h];exact h1 h
 ·rw[if_neg h];exact h2 h
end L2
namespace L2
open PySem PySem.Spec PyProof.Rows
abbrev KT (H:Hp):List (List Key×V)->List (List Key×Addr×Value)->Prop:=Paired λp q=>p.1=q.1/\H q.2.1=some (.tup (p.1.map kV))/\ZG p.2 q.2.2
section
variable {X:Cx}{aA:LA}{σ:St}{H:Hp}{s:Shared}{a:Addr}{y v:V}{u r:Value}{o:Option V}{A:Around}{E:Value->Shared->Prop}
end
end L2
namespace L3
open PySem PySem.Spec PyProof.Rows L2
abbrev St:=L2.St
inductive D where
 | non|bl (b:Bool)|int (i:Int)|str (x:Str)|tup (xs:List D)|ref (n:Nat)|exc (c:Addr)
inductive Ob where
 | lst (xs:List D)|frz (xs:List D)
  | ins (C:Addr) (fs:List (Str×D))
  | dct (aY:List (List Key×D))
  | tpl (ws:List Str)
  | dck (aY:List (Key×D))
abbrev Sto:=List Ob
abbrev Ev:=List (Option D)
abbrev DK:=D->Sto->Prop
abbrev TDE:=Ev->Sto->DK->Prop
abbrev TDT:=Ev->Sto->(Bool->Sto->Prop)->Prop
abbrev TDA:=Ev->Sto->(List D->Sto->Prop)->Prop
structure X1 where
 nx:Ev->Sto->Prop
 rt:DK
 bk:Ev->Sto->Prop:=λ_ _=>False
 ct:Ev->Sto->Prop:=λ_ _=>False
abbrev TDS:=X1->Ev->Sto->Prop
def isX (a c:Addr):HO:=.ext λh=>∃o,h.get? a=some o/\o.cls=.ref c
inductive Rp (r:List Addr)(H:Hp):D->V->Prop
 | non:Rp r H .non .non
 | bl (b:Bool):Rp r H (.bl b) (.bl b)
 | int (i:Int):Rp r H (.int i) (.int i)
 | str (x:Str):Rp r H (.str x) (.str x)
 | tup {ds:List D} {xs:List V} {a:Addr}:H a=some (.tup xs)->ds.length=xs.length->(∀(i:Nat)(d:D)(v:V),ds[i]?=some d->xs[i]?=some v->Rp r H d v)->Rp r H (.tup ds) (.ref a)
 | ref {n:Nat} {a:Addr}:r[n]?=some a->Rp r H (.ref n) (.ref a)
 | exc {c a:Addr}:H a=some (isX a c)->Rp r H (.exc c) (.ref a)
def Rps (r:List Addr)(H:Hp)(ds:List D)(vs:List V):Prop:=ds.length=vs.length/\∀(i:Nat)(d:D)(v:V),ds[i]?=some d->vs[i]?=some v->Rp r H d v
structure Ext (r r':List Addr)(H H':Hp):Prop where
 adr:∀(n:Nat)(a:Addr),r[n]?=some a->r'[n]?=some a
 tup:∀a xs,H a=some (.tup xs)->H' a=some (.tup xs)
 xc:∀a c,H a=some (isX a c)->H' a=some (isX a c)
section
variable {r r' r2:List Addr}{H H' H2:Hp}{d:D}{v:V}{ds:List D}{vs:List V}
theorem Ext.refl:Ext r r H H:=⟨λ_ _ h=>h,λ_ _ h=>h,λ_ _ h=>h⟩
theorem Ext.trans (a:Ext r r' H H')(b:Ext r' r2 H' H2):Ext r r2 H H2:=⟨λn x h=>b.adr n x (a.adr n x h),λx y h=>b.tup x y (a.tup x y h),λx y h=>b.xc x y (a.xc x y h)⟩
theorem Rp.ext (h:Rp r H d v)(e:Ext r r' H H'):Rp r' H' d v:=by
 induction h with
 | non=>exact .non
 | bl b=>exact .bl b
 | int i=>exact .int i
 | str x=>exact .str x
 | tup h l _ ih=>exact .tup (e.tup _ _ h) l ih
 | ref h=>exact .ref (e.adr _ _ h)
 | exc h=>exact .exc (e.xc _ _ h)
theorem Rps.ext (h:Rps r H ds vs)(e:Ext r r' H H'):Rps r' H' ds vs:=⟨h.1,λi d v h1 h2=>(h.2 i d v h1 h2).ext e⟩
theorem Rps.nil:Rps r H [] []:=⟨rfl,λi d v h=>by simp at h⟩
theorem Rps.cons (h:Rp r H d v)(t:Rps r H ds vs):Rps r H (d::ds) (v::vs):=by
 refine⟨by simp[t.1],λi x y h1 h2=>?_⟩;cases i with
 | zero=>
  simp at h1 h2;subst h1;subst h2
  exact h
 | succ i=>exact t.2 i x y (by simpa using h1) (by simpa using h2)
theorem Rps.tail (h:Rps r H (d::ds) (y::vs)):Rp r H d y/\Rps r H ds vs:=
 ⟨h.2 0 d y rfl rfl,by simpa using h.1,λi a b h1 h2=>h.2 (i+1) a b (by simpa using h1) (by simpa using h2)⟩
theorem Rps.uncons (h:Rps r H (d::ds) vs):∃v vs',vs=v::vs'/\Rp r H d v/\Rps r H ds vs':=by
 cases vs with
 | nil=>exact absurd h.1 (by simp)
 | cons v vs'=>exact⟨v,vs',rfl,h.tail⟩
theorem Rps.unnil (h:Rps r H [] vs):vs=[]:=by
 cases vs with
 | nil=>rfl
 | cons v vs'=>exact absurd h.1 (by simp)
theorem Rps.get {i:Nat}(h:Rps r H ds vs)(e:ds[i]?=some d):∃v,vs[i]?=some v/\Rp r H d v:=by
 have hi:i<ds.length:=(zD.mp e).1
 have hv:i<vs.length:=by rw[<- h.1];exact hi
 exact⟨vs[i],by simp[hv],h.2 i d vs[i] e (by simp[hv])⟩
theorem Rps.get' {i:Nat}(h:Rps r H ds vs)(e:vs[i]?=some v):∃d,ds[i]?=some d/\Rp r H d v:=by
 have hv:i<vs.length:=(zD.mp e).1
 have hi:i<ds.length:=by rw[h.1];exact hv
 exact⟨ds[i],by simp[hi],h.2 i ds[i] v (by simp[hi]) e⟩
theorem Rps.snoc (h:Rps r H ds vs)(t:Rp r H d v):Rps r H (ds++[d]) (vs++[v]):=by
 refine⟨by simp[h.1],λi x y h1 h2=>?_⟩;by_cases hi:i<ds.length
 ·rw[zQ hi] at h1;rw[zQ (by rw[<- h.1];exact hi)] at h2;exact h.2 i x y h1 h2
 ·have hl:i<(ds++[d]).length:=(zD.mp h1).1
  have e:i=ds.length:=by simp at hl;omega
  subst e;rw[yA (zC _)] at h1;rw[h.1,yA (zC _)] at h2;simp at h1 h2;subst h1;subst h2
  exact t
theorem Rps.tupR (h:Rps r H ds vs)(e:H a=some (.tup vs)):Rp r H (.tup ds) (.ref a):=.tup e h.1 h.2
theorem Rp.untup {vs:V}(h:Rp r H (.tup ds) vs):∃a xs,vs=.ref a/\H a=some (.tup xs)/\Rps r H ds xs:=by
 cases h with
 | tup e l f=>exact⟨_,_,rfl,e,l,f⟩
end
def SqF (K:Fg)(H:Hp)(a:Addr)(xs:List V):Prop:=
 (∃o,H a=some (.frz o (.lst xs)))\/
  ∃(o:Obj)(bA:Array Value)(n:Nat),K.lookup a=some o/\o.cls=.type "list"/\o.dict=none/\o.data=.seq bA n/\bA.size<=sizeLine/\ZI xs bA.toList
theorem SqF.sql {K:Fg}{H:Hp}{a:Addr}{xs:List V}(h:SqF K H a xs):SqL K H a xs:=by
 rcases h with ⟨o,h⟩|h
 ·exact .inl (.inr ⟨o,h⟩)
 ·exact .inr h
def FR {α:Type}(r:List Addr)(H:Hp)(fs:List (α×D))(fs':List (α×V)):Prop:=fs.map (·.1)=fs'.map (·.1)/\Rps r H (fs.map (·.2)) (fs'.map (·.2))
theorem FR.ext {α:Type}{r r':List Addr}{H H':Hp}{fs:List (α×D)}{fs':List (α×V)}(h:FR r H fs fs')(e:Ext r r' H H'):FR r' H' fs fs':=⟨h.1,h.2.ext e⟩
theorem FR.nil {α:Type}{r:List Addr}{H:Hp}:FR (α:=α) r H [] []:=⟨rfl,Rps.nil⟩
def ObR (K:Fg)(r:List Addr)(H:Hp)(a:Addr):Ob->Prop
 | .lst ds=>∃xs,H a=some (.lst xs)/\Rps r H ds xs
 | .frz ds=>∃xs,SqF K H a xs/\Rps r H ds xs
 | .ins C fs=>∃dx fs',H a=some (.ins C dx fs')/\FR r H fs fs'
 | .dct aY=>∃kvs',H a=some (.dT kvs')/\FR r H aY kvs'
 | .dck aY=>∃kvs',H a=some (.dK kvs')/\FR r H aY kvs'
 | .tpl ws=>∃(o:Obj)(bA:Array Value)(n:Nat),K.lookup a=some o/\o.cls=.type "tuple"/\o.data=.seq bA n/\bA.size<=sizeLine/\ZI (ws.map V.str) bA.toList
def Vk:Ob->Bool
 | .frz _=>false
 | .tpl _=>false
 | _=>true
structure Yh (K:Fg)(r:List Addr)(S:Sto)(H:Hp):Prop where
 len:r.length=S.length
 ob:∀(n:Nat)(a:Addr)(o:Ob),r[n]?=some a->S[n]?=some o->ObR K r H a o
 nd:∀(n m:Nat)(a:Addr)(o u:Ob),r[n]?=some a->r[m]?=some a->S[n]?=some o->S[m]?=some u->Vk o=true->Vk u=true->n=m
def Zs:Ob->List D
 | .lst ds=>ds
 | .frz ds=>ds
 | _=>[.exc 0]
def Xf:Ob->Option Ob
 | .lst ds=>some (.lst ds)
 | .frz ds=>some (.frz ds)
 | _=>none
def lAt (S:Sto)(n:Nat):Option Ob:=(S[n]?).bind Xf
theorem zcY (h:Xf o=some u):u=o:=by
 cases o<;>simp[Xf] at h<;>exact h.symm
theorem YL {S:Sto}{n:Nat}{o:Ob}(h:lAt S n=some o):S[n]?=some o/\Xf o=some o:=by
  unfold lAt at h;cases q:S[n]? with
  | none=>
   rw[q] at h;cases h
  | some u=>
    rw[q] at h;have h':Xf u=some o:=h
    have e:=zcY h';subst e;exact⟨rfl,h'⟩
theorem ZX {S:Sto}{n:Nat}{o:Ob}(h:S[n]?=some o)(hL:Xf o=some o):lAt S n=some o:=by
 unfold lAt;rw[h];exact hL
section
variable {K:Fg}{r r':List Addr}{S:Sto}{H H':Hp}{n:Nat}{a p:Addr}
theorem Yh.at {o:Ob}(h:Yh K r S H)(e:S[n]?=some o):∃a,r[n]?=some a/\ObR K r H a o:=by
 have hn:n<S.length:=(zD.mp e).1
 have hr:n<r.length:=by rw[h.len];exact hn
 exact⟨r[n],by simp[hr],h.ob n r[n] o (by simp[hr]) e⟩
theorem ObR.list {o:Ob}(h:ObR K r H a o)(hL:Xf o=some o):∃xs,SqL K H a xs/\Rps r H (Zs o) xs:=by
 cases o with
 | lst ds=>obtain⟨xs,e,q⟩:=h;exact⟨xs,SqL.of e,q⟩
 | frz ds=>obtain⟨xs,e,q⟩:=h;exact⟨xs,e.sql,q⟩
 | ins C fs=>cases hL
 | dct aY=>cases hL
 | dck aY=>cases hL
 | tpl ws=>cases hL
theorem ObR.keep {o:Ob}(q:ObR K r H a o)(x:Ext r r' H H')(ha:∀u,H a=some u->H' a=some u):ObR K r' H' a o:=by
 cases o with
 | lst ds=>obtain⟨xs,h3,h4⟩:=q;exact⟨xs,ha _ h3,h4.ext x⟩
 | frz ds=>
  obtain⟨xs,h3,h4⟩:=q;refine⟨xs,?_,h4.ext x⟩;rcases h3 with ⟨o,h3⟩|h3
  ·exact .inl ⟨o,ha _ h3⟩
  ·exact .inr h3
 | ins C fs=>obtain⟨dx,fs',h3,h4⟩:=q;exact⟨dx,fs',ha _ h3,h4.ext x⟩
 | dct aY=>obtain⟨ks,h3,h4⟩:=q;exact⟨ks,ha _ h3,h4.ext x⟩
 | dck aY=>obtain⟨ks,h3,h4⟩:=q;exact⟨ks,ha _ h3,h4.ext x⟩
 | tpl ws=>exact q
theorem ObR.own {o:Ob}(q:ObR K r H a o)(h:Vk o=true):∃u,H a=some u/\(∀xs,u≠HO.tup xs)/\(∀b c,u≠isX b c)/\∀z y,u≠HO.frz z y:=by
 cases o with
 | lst ds=>obtain⟨xs,h3,h4⟩:=q;exact⟨_,h3,(λ_ z=>by cases z),(λ_ _ z=>by cases z),(λ_ _ z=>by cases z)⟩
 | frz ds=>cases h
 | tpl ws=>cases h
 | ins C fs=>obtain⟨dx,fs',h3,h4⟩:=q;exact⟨_,h3,(λ_ z=>by cases z),(λ_ _ z=>by cases z),(λ_ _ z=>by cases z)⟩
 | dct aY=>obtain⟨ks,h3,h4⟩:=q;exact⟨_,h3,(λ_ z=>by cases z),(λ_ _ z=>by cases z),(λ_ _ z=>by cases z)⟩
 | dck aY=>obtain⟨ks,h3,h4⟩:=q;exact⟨_,h3,(λ_ z=>by cases z),(λ_ _ z=>by cases z),(λ_ _ z=>by cases z)⟩
theorem Yh.same (h:Yh K r S H)(e:∀b o,H b=some o->H' b=some o):Yh K r S H':=
 ⟨h.len,λn a o h1 h2=>(h.ob n a o h1 h2).keep ⟨λ_ _ q=>q,λa xs q=>e _ _ q,λa c q=>e _ _ q⟩ (e a),h.nd⟩
theorem Xs {o:HO}(h:H p=none):∀b u,H b=some u->(upd H p o) b=some u:=λb u q=>by rw[Yl (VN q h)];exact q
theorem Nk (e:(r++[p])[n]?=some b):(n<r.length/\r[n]?=some b)\/(n=r.length/\b=p):=by
 by_cases hn:n<r.length
 ·rw[zQ hn] at e;exact .inl ⟨hn,e⟩
 ·have hl:n<(r++[p]).length:=(zD.mp e).1
  have en:n=r.length:=by simp at hl;omega
  subst en;rw[yA (zC _)] at e;simp at e;exact .inr ⟨rfl,e.symm⟩
theorem Yh.pushO (h:Yh K r S H)(hp:H p=none)(keep:∀b u,H b=some u->H' b=some u)(q:Ext r (r++[p]) H H'->ObR K (r++[p]) H' p o):Yh K (r++[p]) (S++[o]) H'/\Ext r (r++[p]) H H':=by
 have x:Ext r (r++[p]) H H':=⟨λn a e=>by
  have hn:n<r.length:=(zD.mp e).1;rw[zQ hn];exact e,λa ys e=>keep _ _ e,λa c e=>keep _ _ e⟩
 have sS:∀ {n:Nat} {u:Ob},n<r.length->(S++[o])[n]?=some u->S[n]?=some u:=λ{n u} hn e=>by
  rw[zQ (by rw[<- h.len];exact hn)] at e;exact e
 refine⟨⟨by simp[h.len],λn a u h1 h2=>?_,λn m a u w h1 h2 h3 h4 o1 o2=>?_⟩,x⟩
 ·rcases Nk h1 with ⟨hn,e⟩|⟨rfl,rfl⟩
  ·exact(h.ob n a u e (sS hn h2)).keep x (keep a)
  ·rw[h.len,yA (zC _)] at h2;simp at h2;subst h2;exact q x
 ·rcases Nk h1 with ⟨hn,e⟩|⟨rfl,rfl⟩
  ·rcases Nk h2 with ⟨hm,e'⟩|⟨rfl,rfl⟩
   ·exact h.nd n m a u w e e' (sS hn h3) (sS hm h4) o1 o2
   ·obtain⟨zs,h5,_⟩:=(h.ob n _ _ e (sS hn h3)).own o1;rw[hp] at h5;cases h5
  ·rcases Nk h2 with ⟨hm,e'⟩|⟨rfl,_⟩
   ·obtain⟨zs,h5,_⟩:=(h.ob m _ _ e' (sS hm h4)).own o2;rw[hp] at h5;cases h5
   ·rfl
theorem Yh.push {ds:List D}{xs:List V}(h:Yh K r S H)(hp:H p=none)(q:Rps r H ds xs):Yh K (r++[p]) (S++[.lst ds]) (upd H p (.lst xs))/\Ext r (r++[p]) H (upd H p (.lst xs)):=
 h.pushO hp (Xs hp) λx=>⟨xs,XB,q.ext x⟩
theorem Yh.setO (h:Yh K r S H)(hn:r[n]?=some a)(hS:S[n]?=some o)(ho:Vk o=true)(ho':Vk o'=true)(q:Ext r r H (upd H a u)->ObR K r (upd H a u) a o'):Yh K r (S.set n o') (upd H a u)/\Ext r r H (upd H a u):=by
 obtain⟨u0,h0,t1,t2,t3⟩:=(h.ob n a _ hn hS).own ho;have x:Ext r r H (upd H a u):=⟨λ_ _ e=>e,λb zs e=>by
  rw[Yl (Ia e h0 (λz=>t1 zs z.symm))];exact e,λb c e=>by
  rw[Yl (Ia e h0 (λz=>t2 b c z.symm))];exact e⟩
 have hlt:n<S.length:=(zD.mp hS).1
 have off:∀ {m:Nat} {w:Ob},m≠n->(S.set n o')[m]?=some w->S[m]?=some w:=λ{m w} hm e=>by
  rw[xP (Ne.symm hm)] at e;exact e
 refine⟨⟨by simp[h.len],λm b w h1 h2=>?_,λm k b w y h1 h2 h3 h4 o1 o2=>?_⟩,x⟩
 ·by_cases hm:m=n
  ·subst hm;rw[hn] at h1;cases h1
   rw[xH hlt] at h2;cases h2;exact q x
  ·have h2':=off hm h2
   have q':=h.ob m b w h1 h2';by_cases hw:Vk w=true
   ·have hb:b≠a:=λz=>hm (by subst z;exact h.nd m n b w o h1 hn h2' hS hw ho)
    exact q'.keep x λz e=>by rw[Yl hb];exact e
   ·cases w with
    | frz es=>
     obtain⟨zs,h3,h4⟩:=q';refine⟨zs,?_,h4.ext x⟩;rcases h3 with ⟨z,h3⟩|h3
     ·exact .inl ⟨z,by rw[Yl (Ia h3 h0 (λy=>t3 _ _ y.symm))];exact h3⟩
     ·exact .inr h3
    | tpl ws=>exact q'
    | _=>exact absurd rfl hw
 ·have back:∀ {j:Nat} {w:Ob},(S.set n o')[j]?=some w->Vk w=true->∃y,S[j]?=some y/\Vk y=true:=λ{j w} e ow=>by
   by_cases hj:j=n
   ·subst hj;exact⟨o,hS,ho⟩
   ·exact⟨w,off hj e,ow⟩
  obtain⟨us',h3',q3⟩:=back h3 o1;obtain⟨ws',h4',q4⟩:=back h4 o2;exact h.nd m k b us' ws' h1 h2 h3' h4' q3 q4
theorem Yh.set {ds ds':List D}{xs:List V}(h:Yh K r S H)(hn:r[n]?=some a)(hS:S[n]?=some (.lst ds))(q:Rps r H ds' xs):Yh K r (S.set n (.lst ds')) (upd H a (.lst xs))/\Ext r r H (upd H a (.lst xs)):=
 h.setO hn hS rfl rfl λx=>⟨xs,XB,q.ext x⟩
end
def Rs (r:List Addr)(H:Hp)(dl:Ev)(σ:St):Prop:=dl.length=σ.length/\∀(i:Nat)(d:D),dl[i]?=some (some d)->∃v,σ[i]?=some (some v)/\Rp r H d v
theorem Rs.ext {r r':List Addr}{H H':Hp}{dl:Ev}{σ:St}(h:Rs r H dl σ)(e:Ext r r' H H'):Rs r' H' dl σ:=⟨h.1,λi d q=>by
 obtain⟨v,h1,h2⟩:=h.2 i d q;exact⟨v,h1,h2.ext e⟩⟩
theorem Rs.set {r:List Addr}{H:Hp}{dl:Ev}{σ:St}{d:D}{v:V}(i:Nat)(h:Rs r H dl σ)(q:Rp r H d v):Rs r H (dl.set i (some d)) (σ.set i (some v)):=by
 refine⟨by simp[h.1],λj e hj=>?_⟩;by_cases hij:i=j
 ·subst hij;have hl:i<dl.length:=by
   have:=(zD.mp hj).1;simpa using this
  rw[xH hl] at hj;cases hj;exact⟨v,by rw[xH (by rw[<- h.1];exact hl)],q⟩
 ·rw[xP hij] at hj;obtain⟨v',h1,h2⟩:=h.2 j e hj;exact⟨v',by rw[xP hij];exact h1,h2⟩
structure Zx where
 ex:Ev->Addr->Sto->Prop
 w:St->XK
abbrev Zc (ex:Addr->Sto->Prop)(E:XK):Zx:=⟨λ_=>ex,λ_=>E⟩
def VS (K:Fg)(Z:Zx)(r:List Addr)(H:Hp):Prop:=∀(dl:Ev)(σ:St)(c:Addr)(H':Hp)(r':List Addr)(S':Sto),Ext r r' H H'->Rs r' H' dl σ->Yh K r' S' H'->Z.ex dl c S'->Z.w σ (.ref c) none H'
theorem VS.ext {K:Fg}{Z:Zx}{r r':List Addr}{H H':Hp}(h:VS K Z r H)(e:Ext r r' H H'):VS K Z r' H':=λdl σ c H2 r2 S2 x=>h dl σ c H2 r2 S2 (e.trans x)
structure Rel (K:Fg)(Z:Zx)(r:List Addr)(S:Sto)(H:Hp):Prop where
 b:Yh K r S H
 xw:VS K Z r H
section
variable {K:Fg}{Z:Zx}{r r':List Addr}{S:Sto}{H H':Hp}{n:Nat}{a p:Addr}
theorem Rel.len (h:Rel K Z r S H):r.length=S.length:=h.b.len
theorem Rel.at {o:Ob}(h:Rel K Z r S H)(e:S[n]?=some o):∃a,r[n]?=some a/\ObR K r H a o:=h.b.at e
theorem Rel.same (h:Rel K Z r S H)(e:∀b o,H b=some o->H' b=some o):Rel K Z r S H':=⟨h.b.same e,h.xw.ext ⟨λ_ _ q=>q,λa xs q=>e _ _ q,λa c q=>e _ _ q⟩⟩
theorem Rel.push {ds:List D}{xs:List V}(h:Rel K Z r S H)(hp:H p=none)(q:Rps r H ds xs):Rel K Z (r++[p]) (S++[.lst ds]) (upd H p (.lst xs))/\Ext r (r++[p]) H (upd H p (.lst xs)):=by
 obtain⟨h1,h2⟩:=h.b.push hp q;exact⟨⟨h1,h.xw.ext h2⟩,h2⟩
theorem Rel.set {ds ds':List D}{xs:List V}(h:Rel K Z r S H)(hn:r[n]?=some a)(hS:S[n]?=some (.lst ds))(q:Rps r H ds' xs):Rel K Z r (S.set n (.lst ds')) (upd H a (.lst xs))/\Ext r r H (upd H a (.lst xs)):=by
 obtain⟨h1,h2⟩:=h.b.set hn hS q;exact⟨⟨h1,h.xw.ext h2⟩,h2⟩
end
def Ret (K:Fg)(Z:Zx)(r:List Addr)(H:Hp)(Q:DK)(Qv:VK):Prop:=∀v H' r' d S',Ext r r' H H'->Rel K Z r' S' H'->Rp r' H' d v->Q d S'->Qv v H'
theorem Ret.ext {K:Fg}{Z:Zx}{r r':List Addr}{H H':Hp}{Q:DK}{Qv:VK}(h:Ret K Z r H Q Qv)(e:Ext r r' H H'):Ret K Z r' H' Q Qv:=λv H2 r2 d S2 x=>h v H2 r2 d S2 (e.trans x)
def up (K:Fg)(Z:Zx)(t:TDE):TE:=λσ H Qv=>∃r dl S Q,Rs r H dl σ/\Rel K Z r S H/\t dl S Q/\Ret K Z r H Q Qv
def upT (K:Fg)(Z:Zx)(t:TDT):TT:=λσ H Qb=>∃r dl S Q,Rs r H dl σ/\Rel K Z r S H/\t dl S Q/\∀b H' r' S',Ext r r' H H'->Rel K Z r' S' H'->Q b S'->Qb b H'
def upA (K:Fg)(Z:Zx)(t:TDA):TA:=λσ H Qv=>∃r dl S Q,Rs r H dl σ/\Rel K Z r S H/\t dl S Q/\∀vs H' r' ds S',Ext r r' H H'->Rel K Z r' S' H'->Rps r' H' ds vs->Q ds S'->Qv vs H'
structure PB (K:Fg)(Z:Zx)(r:List Addr)(H:Hp)(E:X1)(F:Us):Prop where
 nx:∀σ' H' r' dl' S',Ext r r' H H'->Rs r' H' dl' σ'->Rel K Z r' S' H'->E.nx dl' S'->F.nx σ' H'
 bk:∀σ' H' r' dl' S',Ext r r' H H'->Rs r' H' dl' σ'->Rel K Z r' S' H'->E.bk dl' S'->F.bk σ' H'
 ct:∀σ' H' r' dl' S',Ext r r' H H'->Rs r' H' dl' σ'->Rel K Z r' S' H'->E.ct dl' S'->F.ct σ' H'
 rt:Ret K Z r H E.rt F.rt
theorem PB.ext {K:Fg}{Z:Zx}{r r':List Addr}{H H':Hp}{E:X1}{F:Us}(h:PB K Z r H E F)(e:Ext r r' H H'):PB K Z r' H' E F:=
 ⟨λa b c d f x=>h.nx a b c d f (e.trans x),λa b c d f x=>h.bk a b c d f (e.trans x),λa b c d f x=>h.ct a b c d f (e.trans x),h.rt.ext e⟩
def upS (K:Fg)(Z:Zx)(t:TDS):TS:=λF σ H=>∃r dl S E,Rs r H dl σ/\Rel K Z r S H/\t E dl S/\PB K Z r H E F
def PD (X:Cx)(Z:Zx)(e:Expr)(t:TDE):Prop:=PE X e (up X.K Z t)
def PDT (X:Cx)(Z:Zx)(e:Expr)(t:TDT):Prop:=PT X e (upT X.K Z t)
def PDW (X:Cx)(Z:Zx)(e:Expr)(t:TDT):Prop:=PW X e (upT X.K Z t)
def PDA (X:Cx)(Z:Zx)(es:List Expr)(t:TDA):Prop:=PA X es (upA X.K Z t)
def PDS (X:Cx)(Z:Zx)(st:Stmt)(t:TDS):Prop:=PS X st (upS X.K Z t)
def XC (X:Cx)(Z:Zx)(st:List Stmt)(t:TDS):Prop:=PSs X st (upS X.K Z t)
section
variable {X:Cx}{Z:Zx}
theorem Yw (h:PE X e t)(f:∀σ H Q,t' σ H Q->t σ H Q):PE X e t':=λaA s σ H Q I q=>h aA s σ H Q I (f σ H Q q)
theorem Ka (h:PT X e t)(f:∀σ H Q,t' σ H Q->t σ H Q):PT X e t':=λaA s σ H Q I q=>h aA s σ H Q I (f σ H Q q)
theorem Fx (h:PW X e t)(f:∀σ H Q,t' σ H Q->t σ H Q):PW X e t':=λwh aA s σ H Q I q=>h wh aA s σ H Q I (f σ H Q q)
theorem G9 (h:PA X e t)(f:∀σ H Q,t' σ H Q->t σ H Q):PA X e t':=λpos aA s σ H Q I q=>h pos aA s σ H Q I (f σ H Q q)
theorem YO {e:Stmt}{t t':TS}(h:PS X e t)(f:∀F σ H,t' F σ H->t F σ H):PS X e t':=λaA s σ H F I q=>h aA s σ H F I (f F σ H q)
theorem GF (h:PSs X e t)(f:∀F σ H,t' F σ H->t F σ H):PSs X e t':=λaA s σ H F I q=>h aA s σ H F I (f F σ H q)
theorem PDW.pt (h:PDW X Z e t):PDT X Z e t:=PW.pt h
def Lb (i:Nat):TDE:=λdl S Q=>match dl[i]? with
 | some (some d)=>Q d S
 | _=>False
def dC (d:D):TDE:=λ_ S Q=>Q d S
theorem Br (h:PE X e (tVar i)):PD X Z e (Lb i):=Yw h λσ H Qv ⟨r,dl,S,Q,rs,bD,q,ret⟩=>by
 unfold Lb at q;split at q
 ·rename_i d e;obtain⟨v,h1,h2⟩:=rs.2 i d e;exact⟨v,h1,ret v H r d S Ext.refl bD h2 q⟩
 ·exact q.elim
theorem dv (i:Nat)(hN:X.N[i]?=some x:=by rfl)(hv:Vis X.env.scope x:=by first|exact Or.inl rfl|exact Or.inr (Or.inl rfl)|exact Or.inr (Or.inr rfl))(hd:(x==("__debug__":Str))=false:=by decide)(hcd:(x==("__classdict__":Str))=false:=by decide):PD X Z (.Name x pos) (Lb i):=Br (Fj hN hv hd hcd)
theorem HR (h:PE X e (tC v))(q:∀r H,Rp r H d v):PD X Z e (dC d):=Yw h λσ H Qv ⟨r,dl,S,Q,rs,bD,h,ret⟩=>ret v H r d S Ext.refl bD (q r H) h
theorem Zd {i j pos}:PD X Z (.Constant (.int i) j pos) (dC (.int i)):=HR zam λ_ _=>.int i
theorem W9 {b j pos}:PD X Z (.Constant (.bool b) j pos) (dC (.bl b)):=HR pe_bl λ_ _=>.bl b
theorem Z4 {x j pos}:PD X Z (.Constant (.str x) j pos) (dC (.str x)):=HR zbb λ_ _=>.str x
abbrev W2:=D->D->Sto->DK->Prop
abbrev W1:=D->Sto->DK->Prop
def upO (K:Fg)(Z:Zx)(w:W2):R2:=λx y H Qv=>∃r S dx dy Q,Rel K Z r S H/\Rp r H dx x/\Rp r H dy y/\w dx dy S Q/\Ret K Z r H Q Qv
def upU (K:Fg)(Z:Zx)(w:W1):V->Hp->VK->Prop:=λx H Qv=>∃r S dx Q,Rel K Z r S H/\Rp r H dx x/\w dx S Q/\Ret K Z r H Q Qv
def dOp (w:W2)(ta tb:TDE):TDE:=λdl S Q=>ta dl S λx S1=>tb dl S1 λy S2=>w x y S2 Q
def dUn (w:W1)(ta:TDE):TDE:=λdl S Q=>ta dl S λx S1=>w x S1 Q
variable {a b c:Expr}{ta tb tc:TDE}{pos:Pos}
theorem MS (h:up X.K Z (dOp w ta tb) σ H Qv):tOp (upO X.K Z w) (up X.K Z ta) (up X.K Z tb) σ H Qv:=by
 obtain⟨r,dl,S,Q,rs,bD,h,ret⟩:=h;exact⟨r,dl,S,_,rs,bD,h,λv H1 r1 dx S1 e1 aF p1 h1=>⟨r1,dl,S1,_,rs.ext e1,aF,h1,λv2 H2 r2 dy S2 e2 aG p2 h2=>⟨r2,S2,dx,dy,Q,aG,p1.ext e2,p2,h2,ret.ext (e1.trans e2)⟩⟩⟩
theorem Zf (ho:OpR X (binaryOp op) (upO X.K Z w))(ha:PD X Z a ta)(hb:PD X Z b tb):PD X Z (.BinOp a op b pos) (dOp w ta tb):=Yw (pe_op ho ha hb) λ_ _ _ h=>MS h
theorem XD (ho:UnR X (unaryOp op) (upU X.K Z w))(ha:PD X Z a ta):PD X Z (.UnaryOp op a pos) (dUn w ta):=Yw (pe_un ho ha) λσ H Qv ⟨r,dl,S,Q,rs,bD,h,ret⟩=>
 ⟨r,dl,S,_,rs,bD,h,λv H1 r1 dx S1 e1 aF p1 h1=>⟨r1,S1,dx,Q,aF,p1,h1,ret.ext e1⟩⟩
theorem YQ (ho:OpR X (compareOp op) (upO X.K Z w))(ha:PD X Z a ta)(hb:PD X Z b tb)(hm:behindInMarks op b=false):PD X Z (.Compare a [op] [b] pos) (dOp w ta tb):=Yw (zap ho ha hb hm) λ_ _ _ h=>MS h
theorem OU (h:OpR X f r)(g:∀x y H Q,r' x y H Q->r x y H Q):OpR X f r':=λaA s σ H x y v u Q I rx ry q=>h aA s σ H x y v u Q I rx ry (g x y H Q q)
theorem zc9 (h:UnR X f r)(g:∀x H Q,r' x H Q->r x H Q):UnR X f r':=λaA s σ H x v Q I rx q=>h aA s σ H x v Q I rx (g x H Q q)
theorem Od (h:Yt X f r)(g:∀x H Q,r' x H Q->r x H Q):Yt X f r':=λaA s σ H xs us Q I rx q=>h aA s σ H xs us Q I rx (g xs H Q q)
def wI (C:Int->Int->Prop)(g:Int->Int->D):W2:=λx y S Q=>match x,y with
 | .int i,.int j=>C i j/\Q (g i j) S
 | _,_=>False
def wI0 (g:Int->Int->D):W2:=λx y S Q=>match x,y with
 | .int i,.int j=>Q (g i j) S
 | _,_=>False
theorem opD (h:OpR X f (rI C g))(hg:∀r H i j,Rp r H (g' i j) (g i j)):OpR X f (upO X.K Z (wI C g')):=
 OU h λx y H Qv ⟨r,S,dx,dy,Q,bD,px,py,q,ret⟩=>by
  cases px<;>cases py<;>first
   | exact⟨_,_,rfl,rfl,q.1,ret _ _ _ _ _ Ext.refl bD (hg _ _ _ _) q.2⟩
   | exact(show False from q).elim
theorem Tn (h:OpR X f (rI0 g))(hg:∀r H i j,Rp r H (g' i j) (g i j)):OpR X f (upO X.K Z (wI0 g')):=
 OU h λx y H Qv ⟨r,S,dx,dy,Q,bD,px,py,q,ret⟩=>by
  cases px<;>cases py<;>first
   | exact⟨_,_,rfl,rfl,ret _ _ _ _ _ Ext.refl bD (hg _ _ _ _) q⟩
   | exact(show False from q).elim
abbrev wAdd:W2:=wI0 λi j=>.int (i+j)
abbrev wSub:W2:=wI0 λi j=>.int (i-j)
abbrev wMul:W2:=wI IntMulOk λi j=>.int (i*j)
def CFd (_ j:Int):Prop:=0<j/\j.natAbs.log2<9000
abbrev wFdiv:W2:=wI CFd λi j=>.int (i/j)
def CFn (_ j:Int):Prop:=j≠0/\j.natAbs.log2<9000
abbrev C3:W2:=wI CFn λi j=>.int (i.fdiv j)
abbrev wMod:W2:=wI (λ_ j=>0<j) λi j=>.int (i%j)
abbrev wPow:W2:=wI CPow λi j=>.int (i^j.toNat)
theorem ZW:OpR X (binaryOp .Add) (upO X.K Z wAdd):=Tn zdf λ_ _ _ _=>.int _
theorem YB:OpR X (binaryOp .Sub) (upO X.K Z wSub):=Tn zcV λ_ _ _ _=>.int _
theorem ZR:OpR X (binaryOp .Mult) (upO X.K Z wMul):=opD (opI λ_ _ _ _ _ _ _ hc q=>mul_int q hc) λ_ _ _ _=>.int _
theorem YJ:OpR X (binaryOp .FloorDiv) (upO X.K Z wFdiv):=opD (opI λi j _ _ _ _ _ hc q=>floordiv_int (by have h:0<j:=hc.1;omega) (by have h:0<j:=hc.1;rw[Int.fdiv_eq_ediv_of_nonneg i (by omega)];exact q) (.inl (PyProof.noPylong_of_log2 hc.2))) λ_ _ _ _=>.int _
theorem LD:OpR X (binaryOp .FloorDiv) (upO X.K Z C3):=opD (opI λ_ _ _ _ _ _ _ hc q=>floordiv_int hc.1 q (.inl (PyProof.noPylong_of_log2 hc.2))) λ_ _ _ _=>.int _
theorem YK:OpR X (binaryOp .Mod) (upO X.K Z wMod):=opD zaN λ_ _ _ _=>.int _
theorem zcA:OpR X (binaryOp .Pow) (upO X.K Z wPow):=opD zbI λ_ _ _ _=>.int _
abbrev wLt:W2:=wI0 λi j=>.bl (decide (i<j))
abbrev wLe:W2:=wI0 λi j=>.bl (decide (i<=j))
abbrev wGt:W2:=wI0 λi j=>.bl (decide (j<i))
abbrev wGe:W2:=wI0 λi j=>.bl (decide (j<=i))
theorem Vr:OpR X (compareOp .Lt) (upO X.K Z wLt):=Tn op_lt λ_ _ _ _=>.bl _
theorem MV:OpR X (compareOp .LtE) (upO X.K Z wLe):=Tn op_le λ_ _ _ _=>.bl _
theorem LK:OpR X (compareOp .Gt) (upO X.K Z wGt):=Tn op_gt λ_ _ _ _=>.bl _
theorem do_ge:OpR X (compareOp .GtE) (upO X.K Z wGe):=Tn op_ge λ_ _ _ _=>.bl _
def wNeg:W1:=λx S Q=>match x with
 | .int i=>Q (.int (-i)) S
 | _=>False
theorem Xu:UnR X (unaryOp .USub) (upU X.K Z wNeg):=zc9 Du λx H Qv ⟨r,S,dx,Q,bD,px,q,ret⟩=>by
 cases px<;>first
  | exact⟨_,rfl,ret _ _ _ _ _ Ext.refl bD (.int _) q⟩
  | exact(show False from q).elim
end
def eqF:D->D->Option Bool
 | .non,.non=>some true
 | .bl i,.bl j=>some (i==j)
 | .int i,.int j=>some (decide (i=j))
 | .str i,.str j=>some (decide (i=j))
 | .non,.int _=>some false|.int _,.non=>some false|.non,.bl _=>some false|.bl _,.non=>some false|.non,.str _=>some false|.str _,.non=>some false
 | .int _,.str _=>some false|.str _,.int _=>some false|.bl _,.str _=>some false|.str _,.bl _=>some false
 | _,_=>none
def eqL (f:D->D->Option Bool):List D->List D->Option Bool
 | [],[]=>some true
 | x::xs,y::ys=>match f x y,eqL f xs ys with
  | some b,some c=>some (b&&c)
  | _,_=>none
 | _,_=>some false
def eqT (f:D->D->Option Bool):D->D->Option Bool
 | .tup xs,.tup ys=>eqL f xs ys
 | x,y=>eqF x y
abbrev eq1:D->D->Option Bool:=eqT eqF
abbrev eq2:D->D->Option Bool:=eqT eq1
def Vi (n:Nat)(f:D->D->Option Bool):Prop:=∀(X:Cx)(aA:LA)(σ:St)(H:Hp)(s:Shared)(r:List Addr)(A:Around)(dx dy:D)(x y:V)(u v:Value)(b:Bool),
 Inv X aA σ H s->A.units+n<cLine->Rp r H dx x->Rp r H dy y->ZG x u->ZG y v->f dx dy=some b->SeqAt.EqAt A s u v b
def UU (f:D->D->Option Bool):Prop:=∀(r:List Addr)(H:Hp)(dx dy:D)(x:V)(b:Bool),Rp r H dx x->Rp r H dy x->f dx dy=some b->b=true
theorem US:UU eqF:=by
 intro r H dx dy x b px py e;cases px<;>cases py<;>simp[eqF] at e<;>first|exact e.symm|exact e
theorem Gd (hf:UU f):∀ {xs ys:List D} {vs:List V} {b:Bool},Rps r H xs vs->Rps r H ys vs->eqL f xs ys=some b->b=true
 | [],[],_,b,_,_,e=>by simp[eqL] at e;exact e
 | [],y::ys,vs,b,p,q,e=>by
  have h1:=p.unnil;subst h1;exact absurd q.1 (by simp)
 | x::xs,[],vs,b,p,q,e=>by
  have h1:=q.unnil;subst h1;exact absurd p.1 (by simp)
 | x::xs,y::ys,vs,b,p,q,e=>by
  obtain⟨v,vs',rfl,p1,p2⟩:=p.uncons;obtain⟨q1,q2⟩:=q.tail;unfold eqL at e;split at e
  ·rename_i b1 c1 e1 e2;have h1:=hf r H x y v b1 p1 q1 e1
   have h2:=Gd hf p2 q2 e2;subst h1;subst h2
   simp at e;exact e
  ·cases e
theorem Eu (hf:UU f):UU (eqT f):=by
 intro r H dx dy x b px py e;cases px with
 | tup e1 l1 f1=>
  cases py with
  | tup e2 l2 f2=>
   rw[e1] at e2;cases e2
   exact Gd hf ⟨l1,f1⟩ ⟨l2,f2⟩ e
  | ref h=>simp[eqT,eqF] at e
  | exc h=>simp[eqT,eqF] at e
 | non=>exact US r H _ _ _ b .non py (by cases py<;>exact e)
 | bl i=>exact US r H _ _ _ b (.bl i) py (by cases py<;>exact e)
 | int i=>exact US r H _ _ _ b (.int i) py (by cases py<;>exact e)
 | str i=>exact US r H _ _ _ b (.str i) py (by cases py<;>exact e)
 | ref h=>cases py<;>simp[eqT,eqF] at e
 | exc h=>cases py<;>simp[eqT,eqF] at e
theorem Lf (n:Nat):Vi n eqF:=by
 intro X aA σ H s r A dx dy x y u v b I hu px py rx ry e;have bC:∀ {x y:V},ZG x u->ZG y v->NQ x=true->NQ y=true->eqV x y=b->SeqAt.EqAt A s u v b:=λrx ry fx fy e'=>by
  subst e';exact zak rx ry fx fy
 cases px<;>cases py<;>simp[eqF] at e<;>refine bC rx ry rfl rfl ?_<;>simp[eqV,e]<;>first|exact e|(subst e;simp)|skip
theorem U0 (I:Inv X aA σ H s)(h:H a=some (.tup xs)):∃bA:List Value,ZI xs bA/\IsTup s.heap a bA.toArray/\xs.length<=sizeLine:=I.tuple (SqT.of h)
def X8 (f:D->D->Option Bool)(xs ys:List D)(j:Nat):Bool:=match xs[j]?,ys[j]? with
 | some x,some y=>(f x y).getD false
 | _,_=>false
theorem Fz:∀ {xs ys:List D} {b:Bool},eqL f xs ys=some b->(∀(j:Nat)(x y:D),xs[j]?=some x->ys[j]?=some y->∃c,f x y=some c)/\((List.range (min xs.length ys.length)).all (X8 f xs ys)&&xs.length==ys.length)=b
 | [],[],b,e=>by simp[eqL] at e;subst e;simp
 | [],y::ys,b,e=>by simp[eqL] at e;subst e;simp
 | x::xs,[],b,e=>by simp[eqL] at e;subst e;simp
 | x::xs,y::ys,b,e=>by
  unfold eqL at e;split at e
  ·rename_i b1 c1 e1 e2;obtain⟨h1,h2⟩:=Fz e2;refine⟨λj p q hp hq=>?_,?_⟩
   ·cases j with
    | zero=>simp at hp hq;subst hp;subst hq;exact⟨b1,e1⟩
    | succ j=>exact h1 j p q (by simpa using hp) (by simpa using hq)
   ·have z:min (x::xs).length (y::ys).length=min xs.length ys.length+1:=by simp[Nat.succ_min_succ]
    rw[z,List.range_succ_eq_map,List.all_cons,List.all_map];have e0:X8 f (x::xs) (y::ys) 0=b1:=by simp[X8,e1]
    have es:(X8 f (x::xs) (y::ys) ∘ Nat.succ)=X8 f xs ys:=by funext j;simp[X8]
    rw[e0,es];have e3:((x::xs).length==(y::ys).length)=(xs.length==ys.length):=by simp
    rw[e3,Bool.and_assoc,h2];simp at e;exact e
  ·cases e
theorem QD {n:Nat}{f:D->D->Option Bool}(hf:Vi n f){X:Cx}{aA:LA}{σ:St}{H:Hp}{s:Shared}{r:List Addr}{A:Around}{xs ys:List D}{us vs:List V}{is js:List Value}{b:Bool}
  (I:Inv X aA σ H s)(hu:A.units+n<cLine)(p:Rps r H xs us)(q:Rps r H ys vs)(ri:ZI us is)(rj:ZI vs js)(e:eqL f xs ys=some b):
  (∀j (h1:j<is.toArray.size) (h2:j<js.toArray.size),SeqAt.EqAt A s is.toArray[j] js.toArray[j] (X8 f xs ys j))/\((List.range (min is.toArray.size js.toArray.size)).all (X8 f xs ys)&&is.toArray.size==js.toArray.size)=b:=by
 obtain⟨h1,h2⟩:=Fz e;have l1:is.toArray.size=xs.length:=by rw[zV,<- ri.length,p.1]
 have l2:js.toArray.size=ys.length:=by rw[zV,<- rj.length,q.1]
 refine⟨λj hj1 hj2=>?_,by rw[l1,l2];exact h2⟩;have k1:j<xs.length:=by omega
 have k2:j<ys.length:=by omega
 have g1:xs[j]?=some xs[j]:=by simp[k1]
 have g2:ys[j]?=some ys[j]:=by simp[k2]
 obtain⟨x,gx,px⟩:=p.get g1;obtain⟨y,gy,py⟩:=q.get g2;obtain⟨u,gu,ru⟩:=ri.get gx;obtain⟨v,gv,rv⟩:=rj.get gy;obtain⟨c,hc⟩:=h1 j _ _ g1 g2;have eu:is.toArray[j]=u:=by
  have z:=zD.mp gu;simpa using z.2
 have ev:js.toArray[j]=v:=by
  have z:=zD.mp gv;simpa using z.2
 have ec:X8 f xs ys j=c:=by simp[X8,g1,g2,hc]
 rw[eu,ev,ec];exact hf X aA σ H s r A _ _ x y u v c I hu px py ru rv hc
theorem Ed (hf:Vi n f)(hs:UU f):Vi (n+1) (eqT f):=by
 intro X aA σ H s r A dx dy x y u v b I hu px py rx ry e;have flat:∀ {dx dy:D} {x y:V},Rp r H dx x->Rp r H dy y->ZG x u->ZG y v->eqF dx dy=some b->SeqAt.EqAt A s u v b:=λpx py rx ry e=>Lf (n+1) X aA σ H s r A _ _ _ _ u v b I hu px py rx ry e
 cases px with
 | @tup ds xs a e1 l1 f1=>
  cases py with
  | @tup es ys a' e2 l2 f2=>
   cases rx;cases ry;by_cases z:a=a'
   ·subst z;have hb:=Eu hs r H _ _ _ b (.tup e1 l1 f1) (.tup e2 l2 f2) e;subst hb;exact SeqAt.EqAt.same _
   ·obtain⟨is,ri,ti,_⟩:=U0 I e1;obtain⟨js,rj,tj,_⟩:=U0 I e2;obtain⟨g1,g2⟩:=QD (A:=A.in1) hf I (by show A.units+1+n<_;omega) ⟨l1,f1⟩ ⟨l2,f2⟩ ri rj e;have q:=SeqAt.RcAt.tuples (A:=A) ti tj (by omega) g1;rw[g2] at q;exact SeqAt.EqAt.of_refs z q
  | ref h=>simp[eqT,eqF] at e
  | _=>simp[eqT,eqF] at e
 | non=>exact flat .non py rx ry (by cases py<;>exact e)
 | bl i=>exact flat (.bl i) py rx ry (by cases py<;>exact e)
 | int i=>exact flat (.int i) py rx ry (by cases py<;>exact e)
 | str i=>exact flat (.str i) py rx ry (by cases py<;>exact e)
 | ref h=>cases py<;>simp[eqT,eqF] at e
 | exc h=>cases py<;>simp[eqT,eqF] at e
theorem FP (n:Nat):Vi (n+1) eq1:=Ed (Lf n) US
def wEq (f:D->D->Option Bool):W2:=λx y S Q=>match f x y with
 | some b=>Q (.bl b) S
 | none=>False
def wNe (f:D->D->Option Bool):W2:=λx y S Q=>match f x y with
 | some b=>Q (.bl (!b)) S
 | none=>False
section
variable {X:Cx}{Z:Zx}
theorem Gk (px:Rp r H dx x)(py:Rp r H dy y)(e:eqF dx dy=some b):Ll x y=true/\decide (x=y)=b:=by
 cases px<;>cases py<;>simp[eqF] at e<;>simp[Ll]<;>first|exact e|(subst e;simp)|skip
theorem F6 (hf:Vi n f)(hu:X.A.units+1+n<cLine):OpR X (compareOp .Eq) (upO X.K Z (wEq (eqT f))):=by
 intro aA s σ H x y v u Qv I rx ry h;obtain⟨r,S,dx,dy,Q,bD,px,py,q,ret⟩:=h;unfold wEq at q;split at q
 ·rename_i b e;have flat:∀ {dx dy:D} {x y:V},Rp r H dx x->Rp r H dy y->ZG x v->ZG y u->eqF dx dy=some b->wpAny (model X.prog X.w) X.A (compareOp .Eq v u) (EP X aA σ Qv) X.xe s:=λpx py rx ry e=>by
   obtain⟨h1,h2⟩:=Gk px py e;refine Hv aA s σ H _ _ v u Qv I rx ry ⟨h1,?_⟩;rw[h2];exact ret _ _ _ _ _ Ext.refl bD (.bl b) q
  cases px with
  | @tup ds xs a e1 l1 f1=>
   cases py with
   | @tup es ys a' e2 l2 f2=>
    cases rx;cases ry;obtain⟨is,ri,ti,_⟩:=U0 I e1;obtain⟨js,rj,tj,_⟩:=U0 I e2;obtain⟨g1,g2⟩:=QD (A:=X.A.in1) hf I (by show X.A.units+1+n<_;omega) ⟨l1,f1⟩ ⟨l2,f2⟩ ri rj e;refine SeqAt.eq_tupleAt (A:=X.A) ti tj (by omega) g1 ?_;rw[g2];exact⟨.bl b,H,I,rfl,ret _ _ _ _ _ Ext.refl bD (.bl b) q⟩
   | _=>simp[eqT,eqF] at e
  | non=>exact flat .non py rx ry (by cases py<;>exact e)
  | bl i=>exact flat (.bl i) py rx ry (by cases py<;>exact e)
  | int i=>exact flat (.int i) py rx ry (by cases py<;>exact e)
  | str i=>exact flat (.str i) py rx ry (by cases py<;>exact e)
  | ref h=>cases py<;>simp[eqT,eqF] at e
  | exc h=>cases py<;>simp[eqT,eqF] at e
 ·exact q.elim
theorem FV (hf:Vi n f)(hu:X.A.units+1+n<cLine):OpR X (compareOp .NotEq) (upO X.K Z (wNe (eqT f))):=by
 intro aA s σ H x y v u Qv I rx ry h;obtain⟨r,S,dx,dy,Q,bD,px,py,q,ret⟩:=h;unfold wNe at q;split at q
 ·rename_i b e;have flat:∀ {dx dy:D} {x y:V},Rp r H dx x->Rp r H dy y->ZG x v->ZG y u->eqF dx dy=some b->wpAny (model X.prog X.w) X.A (compareOp .NotEq v u) (EP X aA σ Qv) X.xe s:=λpx py rx ry e=>by
   obtain⟨h1,h2⟩:=Gk px py e;refine op_ne aA s σ H _ _ v u Qv I rx ry ⟨h1,?_⟩;rw[h2];exact ret _ _ _ _ _ Ext.refl bD (.bl (!b)) q
  cases px with
  | @tup ds xs a e1 l1 f1=>
   cases py with
   | @tup es ys a' e2 l2 f2=>
    cases rx;cases ry;obtain⟨is,ri,ti,_⟩:=U0 I e1;obtain⟨js,rj,tj,_⟩:=U0 I e2;obtain⟨g1,g2⟩:=QD (A:=X.A.in1) hf I (by show X.A.units+1+n<_;omega) ⟨l1,f1⟩ ⟨l2,f2⟩ ri rj e;refine SeqAt.RcNeAt.tuples (A:=X.A) ti tj (by omega) g1 X.prog X.w _ _ ?_;rw[g2];exact⟨.bl (!b),H,I,rfl,ret _ _ _ _ _ Ext.refl bD (.bl (!b)) q⟩
   | _=>simp[eqT,eqF] at e
  | non=>exact flat .non py rx ry (by cases py<;>exact e)
  | bl i=>exact flat (.bl i) py rx ry (by cases py<;>exact e)
  | int i=>exact flat (.int i) py rx ry (by cases py<;>exact e)
  | str i=>exact flat (.str i) py rx ry (by cases py<;>exact e)
  | ref h=>cases py<;>simp[eqT,eqF] at e
  | exc h=>cases py<;>simp[eqT,eqF] at e
 ·exact q.elim
theorem ZV (hr:Yb k X.A):OpR X (compareOp .Eq) (upO X.K Z (wEq eq2)):=F6 (FP 0) (by have:=hr.un;omega)
theorem UZ (hr:Yb k X.A):OpR X (compareOp .NotEq) (upO X.K Z (wNe eq2)):=FV (FP 0) (by have:=hr.un;omega)
end
section
variable {X:Cx}{Z:Zx}{a b c:Expr}{ta tb tc:TDE}{pos:Pos}{YC:List Expr}
def IQ (t:TDE):TDT:=λdl S Q=>t dl S λd S'=>match d with
 | .bl k=>Q k S'
 | _=>False
theorem JT {K:Fg}{Z:Zx}{r:List Addr}{H:Hp}{Q:Bool->Sto->Prop}{Qb:Bool->Hp->Prop}(h:∀b H' r' S',Ext r r' H H'->Rel K Z r' S' H'->Q b S'->Qb b H'):
  Ret K Z r H (λd S'=>match d with|.bl k=>Q k S'|_=>False) (λx H'=>∃k,x=.bl k/\Qb k H'):=λv H' r' d S' e bD p q=>by
 cases p with
 | bl k=>exact⟨k,rfl,h k H' r' S' e bD q⟩
 | _=>exact(show False from q).elim
theorem ZP {op:CmpOp}{w:W2}(ho:OpR X (compareOp op) (upO X.K Z w))(ha:PD X Z a ta)(hb:PD X Z b tb)(hm:behindInMarks op b=false):PDT X Z (.Compare a [op] [b] pos) (IQ (dOp w ta tb)):=
 Ka (zah ho ha hb hm) λσ H Qb ⟨r,dl,S,Q,rs,bD,h,ret⟩=>MS ⟨r,dl,S,_,rs,bD,h,JT ret⟩
theorem Xw {e:Expr}{t:TDE}(h:PD X Z e t)(he:∀aV,isTrue e X.env aV=(do let v <- aV;standAt e.pos;holding [v] (truthy v)):=by intro _;rfl):PDT X Z e (IQ t):=
 Ka (zaU h he) λσ H Qb ⟨r,dl,S,Q,rs,bD,h,ret⟩=>⟨r,dl,S,_,rs,bD,h,JT ret⟩
def dNot (t:TDT):TDT:=λdl S Q=>t dl S λk S'=>Q (!k) S'
theorem Ux (ha:PDT X Z a t):PDT X Z (.UnaryOp .Not a pos) (dNot t):=
 Ka (CG ha) λσ H Qb ⟨r,dl,S,Q,rs,bD,h,ret⟩=>⟨r,dl,S,_,rs,bD,h,λk H' r' S' e rel' q=>ret (!k) H' r' S' e rel' q⟩
def dAnd (t u:TDT):TDT:=λdl S Q=>t dl S λk S1=>if k=true then u dl S1 Q else Q false S1
def dOr (t u:TDT):TDT:=λdl S Q=>t dl S λk S1=>if k=true then Q true S1 else u dl S1 Q
theorem HQ (ha:PDT X Z a t):PDW X Z (.BoolOp .And [a] pos) t:=Cw ha
theorem Rt (ha:PDT X Z a t):PDW X Z (.BoolOp .Or [a] pos) t:=Ci ha
theorem J9 (ha:PDT X Z a t)(hb:PDW X Z (.BoolOp .And (b::YC) pos) u):PDW X Z (.BoolOp .And (a::b::YC) pos) (dAnd t u):=
 Fx (Bj ha hb) λσ H Qb ⟨r,dl,S,Q,rs,bD,h,ret⟩=>⟨r,dl,S,_,rs,bD,h,λk H1 r1 S1 e1 aF q1=>by
  cases k with
  | true=>exact Xn ⟨r1,dl,S1,Q,rs.ext e1,aF,(by simpa using q1),λk' H2 r2 S2 e2=>ret k' H2 r2 S2 (e1.trans e2)⟩
  | false=>exact YS (ret false H1 r1 S1 e1 aF (by simpa using q1))⟩
theorem Um (ha:PDT X Z a t)(hb:PDW X Z (.BoolOp .Or (b::YC) pos) u):PDW X Z (.BoolOp .Or (a::b::YC) pos) (dOr t u):=
 Fx (pw_or ha hb) λσ H Qb ⟨r,dl,S,Q,rs,bD,h,ret⟩=>⟨r,dl,S,_,rs,bD,h,λk H1 r1 S1 e1 aF q1=>by
  cases k with
  | true=>exact Xn (ret true H1 r1 S1 e1 aF (by simpa using q1))
  | false=>exact YS ⟨r1,dl,S1,Q,rs.ext e1,aF,(by simpa using q1),λk' H2 r2 S2 e2=>ret k' H2 r2 S2 (e1.trans e2)⟩⟩
def dAndV (ta tb:TDE):TDE:=λdl S Q=>ta dl S λx S1=>match x with
 | .bl k=>if k=true then tb dl S1 Q else Q (.bl false) S1
 | _=>False
theorem Vd {op}(h:PD X Z a t):PD X Z (.BoolOp op [a] pos) t:=DE h
theorem Vg (ha:PD X Z a ta)(hb:PD X Z (.BoolOp .And (b::YC) pos) tb):PD X Z (.BoolOp .And (a::b::YC) pos) (dAndV ta tb):=
 Yw (Al ha hb) λσ H Qv ⟨r,dl,S,Q,rs,bD,h,ret⟩=>⟨r,dl,S,_,rs,bD,h,λv H1 r1 d S1 e1 aF p q1=>by
  cases p with
  | bl k=>
   refine⟨k,rfl,?_⟩;cases k with
   | true=>exact Xn ⟨r1,dl,S1,Q,rs.ext e1,aF,(by simpa using q1),ret.ext e1⟩
   | false=>exact YS (ret _ H1 r1 (.bl false) S1 e1 aF (.bl false) (by simpa using q1))
  | _=>exact(show False from q1).elim⟩
def dIfE (t:TDT)(ta tb:TDE):TDE:=λdl S Q=>t dl S λk S1=>if k=true then ta dl S1 Q else tb dl S1 Q
theorem IM (hc:PDT X Z c t)(ha:PD X Z a ta)(hb:PD X Z b tb):PD X Z (.IfExp c a b pos) (dIfE t ta tb):=
 Yw (zaw hc ha hb) λσ H Qv ⟨r,dl,S,Q,rs,bD,h,ret⟩=>⟨r,dl,S,_,rs,bD,h,λk H1 r1 S1 e1 aF q1=>by
  cases k with
  | true=>exact Xn ⟨r1,dl,S1,Q,rs.ext e1,aF,(by simpa using q1),ret.ext e1⟩
  | false=>exact YS ⟨r1,dl,S1,Q,rs.ext e1,aF,(by simpa using q1),ret.ext e1⟩⟩
def Ep (w w':W2)(ta tb tc:TDE):TDE:=λdl S Q=>ta dl S λx S1=>tb dl S1 λy S2=>w x y S2 λz S3=>match z with
 | .bl k=>if k=true then tc dl S3 λu S4=>w' y u S4 Q else Q (.bl false) S3
 | _=>False
theorem DH (h:up X.K Z (Ep w w' ta tb tc) σ H Qv):Gi (upO X.K Z w) (upO X.K Z w') (up X.K Z ta) (up X.K Z tb) (up X.K Z tc) σ H Qv:=by
 obtain⟨r,dl,S,Q,rs,bD,h,ret⟩:=h;refine⟨r,dl,S,_,rs,bD,h,λv H1 r1 dx S1 e1 aF p1 h1=>⟨r1,dl,S1,_,rs.ext e1,aF,h1,λv2 H2 r2 dy S2 e2 aG p2 h2=>⟨r2,S2,dx,dy,_,aG,p1.ext e2,p2,h2,λv3 H3 r3 dz S3 e3 aH p3 h3=>?_⟩⟩⟩;cases p3 with
 | bl k=>
  refine⟨k,rfl,?_⟩;cases k with
  | true=>exact Xn ⟨r3,dl,S3,_,rs.ext (e1.trans (e2.trans e3)),aH,(by simpa using h3),λv4 H4 r4 du S4 e4 aJ p4 h4=>⟨r4,S4,dy,du,Q,aJ,(p2.ext e3).ext e4,p4,h4,ret.ext (e1.trans (e2.trans (e3.trans e4)))⟩⟩
  | false=>exact YS (ret _ H3 r3 (.bl false) S3 (e1.trans (e2.trans e3)) aH (.bl false) (by simpa using h3))
 | _=>exact(show False from h3).elim
theorem ED {op op':CmpOp}{w w':W2}(ho:OpR X (compareOp op) (upO X.K Z w))(ho':OpR X (compareOp op') (upO X.K Z w'))(ha:PD X Z a ta)(hb:PD X Z b tb)(hc:PD X Z c tc)
  (hm:lastMarks [op,op'] [b,c]=false:=by with_unfolding_all rfl):PDT X Z (.Compare a [op,op'] [b,c] pos) (IQ (Ep w w' ta tb tc)):=
 Ka (D8 ho ho' ha hb hc hm) λσ H Qb ⟨r,dl,S,Q,rs,bD,h,ret⟩=>DH ⟨r,dl,S,_,rs,bD,h,JT ret⟩
variable {e:Expr}{es:List Expr}
def dNil:TDA:=λ_ S Q=>Q [] S
def dCons (ta:TDE)(tr:TDA):TDA:=λdl S Q=>ta dl S λx S1=>tr dl S1 λxs S2=>Q (x::xs) S2
theorem Ze:PDA X Z [] dNil:=G9 MG λσ H Qv ⟨r,dl,S,Q,rs,bD,h,ret⟩=>ret [] H r [] S Ext.refl bD Rps.nil h
theorem Za (ha:PD X Z e te)(hr:PDA X Z es t)(hs:starEach (e::es) X.env=(false,eval e X.env)::starEach es X.env:=by rfl):PDA X Z (e::es) (dCons te t):=
 G9 (SN ha hr hs) λσ H Qv ⟨r,dl,S,Q,rs,bD,h,ret⟩=>⟨r,dl,S,_,rs,bD,h,λv H1 r1 d S1 e1 aF p1 h1=>⟨r1,dl,S1,_,rs.ext e1,aF,h1,λvs H2 r2 ds S2 e2 aG p2 h2=>
  ret (v::vs) H2 r2 (d::ds) S2 (e1.trans e2) aG (Rps.cons (p1.ext e2) p2) h2⟩⟩
def dTup (t:TDA):TDE:=λdl S Q=>t dl S λds S1=>if ds.length<=1000 then Q (.tup ds) S1 else False
def dLst (t:TDA):TDE:=λdl S Q=>t dl S λds S1=>if ds.length<=1000 then Q (.ref S1.length) (S1++[.lst ds]) else False
theorem NY [Decidable p] (h:if p then A else False):p/\A:=by
 split at h
 ·exact⟨by assumption,h⟩
 ·exact h.elim
theorem Ul (h:n<=1000):n<=sizeLine:=xG (Su h)
theorem ZT {x1}(h:PDA X Z es t):PD X Z (.Tuple es x1 pos) (dTup t):=
 Yw (zbv h) λσ H Qv ⟨r,dl,S,Q,rs,bD,h,ret⟩=>⟨r,dl,S,_,rs,bD,h,λvs H1 r1 ds S1 e1 aF p1 h1=>by
  obtain⟨hl,h1⟩:=NY h1;refine⟨by rw[<- p1.1];exact Ul hl,λp hp=>?_⟩;have x:Ext r1 r1 H1 (upd H1 p (.tup vs)):=⟨λ_ _ q=>q,λa xs q=>Xs hp _ _ q,λa c q=>Xs hp _ _ q⟩;exact ret _ _ r1 (.tup ds) S1 (e1.trans x) (aF.same (Xs hp)) ((p1.ext x).tupR XB) h1⟩
theorem VE (h:r.length=n):Rp (r++[p]) H (.ref n) (.ref p):=.ref (by subst h;simp)
theorem Ye (h:PDA X Z es t):PD X Z (.List es pos) (dLst t):=
 Yw (zaJ h) λσ H Qv ⟨r,dl,S,Q,rs,bD,h,ret⟩=>⟨r,dl,S,_,rs,bD,h,λvs H1 r1 ds S1 e1 aF p1 h1=>by
  obtain⟨hl,h1⟩:=NY h1;refine⟨by rw[<- p1.1];exact Ul hl,λp hp=>?_⟩;obtain⟨aG,x⟩:=aF.push hp p1;exact ret _ _ _ (.ref S1.length) _ (e1.trans x) aG (VE aF.len) h1⟩
def wIx:W2:=λx y S Q=>match x,y with
 | .tup xs,.int i=>match atI xs i with
  | some d=>Q d S
  | none=>False
 | .ref n,.int i=>match lAt S n with
  | some o=>match atI (Zs o) i with
   | some d=>Q d S
   | none=>False
  | none=>False
 | _,_=>False
theorem Gz {r:List Addr}{H:Hp}{ds:List D}{vs:List V}{i:Int}{d:D}(h:Rps r H ds vs)(e:atI ds i=some d):∃v,atI vs i=some v/\Rp r H d v:=by
  unfold atI at e ⊢;rw[<- h.1];cases q:ixN ds.length i with
  | none=>
   rw[q] at e;cases e
  | some j=>
    rw[q] at e;exact h.get e
theorem do_ix:IxR X (upO X.K Z wIx):=by
 intro value slice aA s σ H x y v u Qv I rx ry h hs;obtain⟨r,S,dx,dy,Q,bD,px,py,q,ret⟩:=h;cases px with
 | @tup ds xs a e1 l1 f1=>
  cases py with
  | int i=>
   have q':(match atI ds i with|some d=>Q d S|none=>False):=q;split at q'
   ·rename_i d e;obtain⟨w,hw,pw⟩:=Gz ⟨l1,f1⟩ e;exact zaI value slice aA s σ H _ _ v u Qv I rx ry ⟨a,xs,i,w,rfl,rfl,SqT.of e1,hw,ret w H r d S Ext.refl bD pw q'⟩ hs
   ·exact q'.elim
  | _=>exact(show False from q).elim
 | @ref n a e1=>
  cases py with
  | int i=>
   have q':(match lAt S n with|some o=>(match atI (Zs o) i with|some d=>Q d S|none=>False)|none=>False):=q;split at q'
   ·rename_i o eo;obtain⟨eo,eL⟩:=YL eo;obtain⟨a',ha,ob⟩:=bD.at eo;rw[e1] at ha;cases ha
    obtain⟨xs,sq,pr⟩:=ob.list eL;split at q'
    ·rename_i d e;obtain⟨w,hw,pw⟩:=Gz pr e;exact zae value slice aA s σ H _ _ v u Qv I rx ry ⟨a,xs,i,w,rfl,rfl,sq,hw,ret w H r d S Ext.refl bD pw q'⟩ hs
    ·exact q'.elim
   ·exact q'.elim
  | _=>exact(show False from q).elim
 | _=>exact(show False from q).elim
theorem FZ (ha:PD X Z a ta)(hb:PD X Z b tb)(hs:R3 b):PD X Z (.Subscript a b pos) (dOp wIx ta tb):=Yw (pe_ix do_ix ha hb hs) λ_ _ _ h=>MS h
theorem Zi (ha:PD X Z a ta)(hb:PD X Z b tb)(hs:R3 b:=by exact λ_ _=>rfl):PD X Z (.Subscript a b pos) (dOp wIx ta tb):=FZ ha hb hs
end
structure Bk (fs:List Addr)(H H':Hp)(B h:Heap)(ea:Addr):Prop where
 trk:∀b u,H' b=some u->∃o,B.get? b=some o
 old:∀b o,h.get? b=some o->H b=none->b ∉ fs->B.get? b=some o
 all:∀b o,h.get? b=some o->b ∉ fs->∃o',B.get? b=some o'
 new:H' ea=none
def CXE (P:Program)(w:World):CXT:=λouter H s E e s'=>∃(ea c:Addr)(a0:Value)(B:Heap)(H':Hp),e=.ref ea/\s'.os=s.os/\AllBare s'.gens/\Un (frs outer) [] H H' s.heap s'.heap/\HOk P w H' s'.heap/\
 Heap.FlyingW B outer ea (.ref c) a0 s'.heap/\Bk (frs outer) H H' B s.heap ea/\E (.ref c) none H'
section
variable {P:Program}{w:World}{K:Fg}{mg:Str->Option Value}{base:Heap}{N:List Str}{aL:Str}{scope:Scope}{f:Addr}{cdv:Value}{A:Around}{outer:List Env}{s0:Shared}{H0:Hp}{E:XK}
end
abbrev WC:=List D->Sto->DK->Prop
abbrev Sd:=List D->Sto->DK->(Addr->Sto->Prop)->Prop
def upC (K:Fg)(Z:Zx)(w:WC):List V->Hp->VK->Prop:=λxs H Qv=>∃r S ds Q,Rel K Z r S H/\Rps r H ds xs/\w ds S Q/\Ret K Z r H Q Qv
def upF (K:Fg)(sd:Sd):Sp:=λvs H Qv E=>∃ex:Addr->Sto->Prop,upC K (Zc ex E) (λds S Q=>sd ds S Q ex) vs H Qv
def JR (w:WC)(t:TDA):TDE:=λdl S Q=>t dl S λds S1=>w ds S1 Q
def KJ (ex:Ev->Addr->Sto->Prop)(sd:Sd)(t:TDA):TDE:=λdl S Q=>t dl S λds S1=>sd ds S1 Q (ex dl)
def WW (X:Cx)(W:St->XK):Prop:=∀(aA:LA)(σ:St)(H:Hp)(s:Shared)(e:Value)(s':Shared),Inv X aA σ H s->CXE X.prog X.w X.stack H s (W σ) e s'->X.xe e s'
section
variable {X:Cx}{k:Nat}{f:Addr}{fd:FuncData}{ps:List Str}{sp:Sp}{W:St->XK}{x:Str}{p pos:Pos}{e:Expr}{es:List Expr}{t:TA}
theorem KZ (F:YI X.prog X.w X.K X.mg X.base (CXE X.prog X.w) k f fd ps sp)(hr:Yb k X.A)(hb:Xi X.K fd ps [])(hx:WW X W)(I:Inv X aA σ H s)(r:ZI vs us)(h:sp vs H Q (W σ)):wpAny (model X.prog X.w) X.A (call (.ref f) us) (EP X aA σ Q) X.xe s:=by
 have hl:us.length=ps.length:=by rw[<- r.length];exact F.len _ _ _ _ h
 have hb':=hb s us I.kIn (by rw[yX];exact hl);rw[yX] at hb';refine wpAny_call (codeAny_mono (F.run X.A X.stack s H ⟨us,[]⟩ us vs Q (W σ) hr I.env0 hb' r h) λz s' hq=>?_);cases z with
 | error ev=>exact hx aA σ H s ev s' I hq
 | ok fl=>
  cases fl with
  | ret u=>exact I.after hq
  | _=>exact False.elim hq
theorem zcU (F:YI X.prog X.w X.K X.mg X.base (CXE X.prog X.w) k f fd ps sp)(hr:Yb k X.A)(hg:Gl X x)(hm:X.mg x=some (.ref f))(hk:PySem.W.keepIn X.K (.ref f)=true)(hb:Xi X.K fd ps [])(hx:WW X W)
  (ha:PA X (e::es) t)(hdb:(x==("__debug__":Str))=false)(he:starEach (e::es) X.env=(false,eval e X.env)::starEach es X.env)(hpl:(backTo pos (starEach es X.env)).any (·.1)=false):
  PE X (.Call (.Name x p) (e::es) [] pos) (λσ H Q=>t σ H λvs H1=>sp vs H1 Q (W σ)):=by
 intro aA s σ H Q I h;refine wpAny_Call_Name_kw (G6 I hg hm ?_ hdb);exact PySem.W.callWith_K (h₀:=X.base) I.ok.mod.kin hk (thn (ha pos aA s σ H _ I h) λus s1 ⟨vs,H1,I1,r,q⟩=>⟨I1.kIn,KZ F hr hb hx I1 r q⟩) he hpl
end
section
variable {X:Cx}{Z:Zx}{x:Str}{p pos:Pos}{e:Expr}{es:List Expr}{t:TDA}{id T:String}{w:WC}
theorem Gu (h:up X.K Z (JR w t) σ H Qv):upA X.K Z t σ H λvs H1=>upC X.K Z w vs H1 Qv:=by
 obtain⟨r,dl,S,Q,rs,bD,h,ret⟩:=h;exact⟨r,dl,S,_,rs,bD,h,λvs H1 r1 ds S1 e1 aF p1 h1=>⟨r1,S1,ds,Q,aF,p1,h1,ret.ext e1⟩⟩
theorem ZL (hc:Yt X (.builtin id) (upC X.K Z w))(hg:Gl X x)(hm:X.mg x=none)(hv:bootBuiltins x=some (.builtin id))(ha:PDA X Z (e::es) t)(hn:x≠"__name__":=by decide)(hdb:(x==("__debug__":Str))=false:=by decide)
  (he:starEach (e::es) X.env=(false,eval e X.env)::starEach es X.env:=by rfl)(hpl:(backTo pos (starEach es X.env)).any (·.1)=false:=by rfl):PD X Z (.Call (.Name x p) (e::es) [] pos) (JR w t):=
 Yw (HX hc hg hm hv ha hn hdb he hpl) λ_ _ _ h=>Gu h
theorem WO (hc:Yt X (.type T) (upC X.K Z w))(hg:Gl X x)(hm:X.mg x=none)(hv:bootBuiltins x=some (.type T))(ha:PDA X Z (e::es) t)(hn:x≠"__name__":=by decide)(hdb:(x==("__debug__":Str))=false:=by decide)
  (he:starEach (e::es) X.env=(false,eval e X.env)::starEach es X.env:=by rfl)(hpl:(backTo pos (starEach es X.env)).any (·.1)=false:=by rfl):PD X Z (.Call (.Name x p) (e::es) [] pos) (JR w t):=
 Yw (Ij hc hg hm hv ha hn hdb he hpl) λ_ _ _ h=>Gu h
theorem HV {sd:Sd}{r:List Addr}{S:Sto}{H:Hp}{dl:Ev}{σ:St}{ds:List D}{vs:List V}{Q:DK}{Qv:VK}(rs:Rs r H dl σ)(bD:Rel X.K Z r S H)(p:Rps r H ds vs)(h:sd ds S Q (Z.ex dl))(ret:Ret X.K Z r H Q Qv):upF X.K sd vs H Qv (Z.w σ):=
 ⟨Z.ex dl,r,S,ds,Q,⟨bD.b,λ_ _ c H' r' S' x _ rb q=>bD.xw dl σ c H' r' S' x (rs.ext x) rb q⟩,p,h,λv H' r' d S' x rel' pv q=>ret v H' r' d S' x ⟨rel'.b,bD.xw.ext x⟩ pv q⟩
theorem zbj (F:YI X.prog X.w X.K X.mg X.base (CXE X.prog X.w) k f fd ps (upF X.K sd))(hr:Yb k X.A)(hg:Gl X x)(hm:X.mg x=some (.ref f))(hk:PySem.W.keepIn X.K (.ref f)=true)(hb:Xi X.K fd ps [])(hx:WW X W)(ha:PDA X ⟨ex,W⟩ (e::es) t)(hdb:(x==("__debug__":Str))=false:=by decide)(he:starEach (e::es) X.env=(false,eval e X.env)::starEach es X.env:=by rfl)(hpl:(backTo pos (starEach es X.env)).any (·.1)=false:=by rfl):PD X ⟨ex,W⟩ (.Call (.Name x p) (e::es) [] pos) (KJ ex sd t):=
 Yw (zcU F hr hg hm hk hb hx ha hdb he hpl) λσ H Qv ⟨r,dl,S,Q,rs,bD,h,ret⟩=>⟨r,dl,S,_,rs,bD,h,λvs H1 r1 ds S1 e1 aF p1 h1=>HV (Z:=⟨ex,W⟩) (rs.ext e1) aF p1 h1 (ret.ext e1)⟩
def wAbs:WC:=λds S Q=>match ds with
 | [.int i]=>Q (.int (if i<0 then -i else i)) S
 | _=>False
theorem zbJ:Yt X (.builtin "abs") (upC X.K Z wAbs):=Od za2 λxs H Qv ⟨r,S,ds,Q,bD,ps,q,ret⟩=>by
 unfold wAbs at q;split at q
 ·rename_i i;obtain⟨v,vs,rfl,p1,p2⟩:=ps.uncons;have z:=p2.unnil;subst z;cases p1;exact⟨i,rfl,ret _ _ _ _ _ Ext.refl bD (.int _) q⟩
 ·exact q.elim
def WQ:List D->Option (List Int)
 | []=>some []
 | .int i::r=>(WQ r).map (i::·)
 | _::_=>none
def U3 (le:Int->Int->Prop)(two:Int->Int->Int):WC:=λds S Q=>match ds with
 | [.int i,.int j]=>Q (.int (two i j)) S
 | [.ref n]=>match lAt S n with
  | some o=>match WQ (Zs o) with
   | some xs=>xs≠[]/\∀m,m∈xs->(∀y∈xs,le y m)->Q (.int m) S
   | none=>False
  | none=>False
 | _=>False
abbrev wMax:WC:=U3 (λy m=>y<=m) λi j=>if j > i then j else i
abbrev wMin:WC:=U3 (λy m=>m<=y) λi j=>if j<i then j else i
theorem Ov {r:List Addr}{H:Hp}:∀ {ds:List D} {ns:List Int} {vs:List V} {us:List Value},WQ ds=some ns->Rps r H ds vs->ZI vs us->∃xs:List (Int×Tok),us.toArray=intItems xs.toArray/\xs.map (·.1)=ns
 | [],ns,vs,us,e,p,q=>by
  have z:=p.unnil;subst z;cases q;simp[WQ] at e;subst e;exact⟨[],by simp[intItems],rfl⟩
 | d::ds,ns,vs,us,e,p,q=>by
  obtain⟨v,vs',rfl,p1,p2⟩:=p.uncons;cases d with
  | int i=>
   cases p1;cases q with
   | cons q1 q2=>
    obtain⟨t,rfl⟩:=q1;simp only[WQ,zS] at e;obtain⟨ms,e1,rfl⟩:=e;obtain⟨xs,h1,h2⟩:=Ov e1 p2 q2;refine⟨(i,t)::xs,?_,by simp[h2]⟩;simp[intItems] at h1 ⊢;exact h1
  | _=>simp[WQ] at e
theorem FJ (f:Nat->Int):∀k j,j<=k->f j<=f (argBest (λi j=>decide (f i > f j)) k)
 | 0,j,h=>by
  have z:j=0:=by omega
  subst z;exact yE _
 | k+1,j,h=>by
  have ih:=FJ f k;unfold argBest;split
  ·rename_i hb;have hb':f (k+1) > f (argBest (λi j=>decide (f i > f j)) k):=of_decide_eq_true hb;by_cases z:j=k+1
   ·subst z;exact yE _
   ·have:=ih j (by omega);omega
  ·rename_i hb;have hb':¬ f (k+1) > f (argBest (λi j=>decide (f i > f j)) k):=λq=>hb (decide_eq_true q)
   by_cases z:j=k+1
   ·subst z;omega
   ·exact ih j (by omega)
theorem Em (f:Nat->Int):∀k j,j<=k->f (argBest (λi j=>decide (f i<f j)) k)<=f j
 | 0,j,h=>by
  have z:j=0:=by omega
  subst z;exact yE _
 | k+1,j,h=>by
  have ih:=Em f k;unfold argBest;split
  ·rename_i hb;have hb':f (k+1)<f (argBest (λi j=>decide (f i<f j)) k):=of_decide_eq_true hb;by_cases z:j=k+1
   ·subst z;exact yE _
   ·have:=ih j (by omega);omega
  ·rename_i hb;have hb':¬ f (k+1)<f (argBest (λi j=>decide (f i<f j)) k):=λq=>hb (decide_eq_true q)
   by_cases z:j=k+1
   ·subst z;omega
   ·exact ih j (by omega)
theorem HP (bt:Nat->Nat->Bool):∀k,argBest bt k<=k
 | 0=>zC _
 | k+1=>by
  unfold argBest;split
  ·exact zC _
  ·exact Nat.le_succ_of_le (HP bt k)
theorem Ko {xs:List (Int×Tok)}{ns:List Int}(h:xs.map (·.1)=ns){j:Nat}{y:Int}(e:ns[j]?=some y):numAt xs.toArray j=y:=by
  subst h;unfold numAt;rw[zF] at e;simp only[List.getElem?_toArray];cases q:xs[j]? with
  | none=>
   rw[q] at e;cases e
  | some z=>rw[q] at e;simpa using e
theorem Gv {xs:List (Int×Tok)}{ns:List Int}(h:xs.map (·.1)=ns){j:Nat}(hj:j<ns.length):numAt xs.toArray j∈ns:=by
 have e:ns[j]?=some ns[j]:=by simp[hj]
 rw[Ko h e];exact yI hj
theorem UG (hc:X.calm=true):Yt X (.builtin "max") (upC X.K Z wMax):=by
 intro aA s σ H xs us Qv I rv h;obtain⟨r,S,ds,Q,bD,ps,q,ret⟩:=h;unfold wMax U3 at q;split at q
 ·rename_i i j;obtain⟨v,vs,rfl,p1,p2⟩:=ps.uncons;obtain⟨v2,vs2,rfl,p3,p4⟩:=p2.uncons;have z:=p4.unnil;subst z;cases p1;cases p3;exact AN hc aA s σ H _ us Qv I rv ⟨i,j,rfl,ret _ _ _ _ _ Ext.refl bD (.int _) q⟩
 ·rename_i n;obtain⟨v,vs,rfl,p1,p2⟩:=ps.uncons;have z:=p2.unnil;subst z;split at q
  ·rename_i o eo;split at q
   ·rename_i ns en;obtain⟨hne,q⟩:=q;obtain⟨eo,eL⟩:=YL eo;obtain⟨a,ha,ob⟩:=bD.at eo;cases p1 with
    | ref h1=>
     rw[h1] at ha;cases ha
     obtain⟨ys,sq,pr⟩:=ob.list eL;obtain⟨u,rfl,ru⟩:=Wg rv;cases ru;obtain⟨bA,ri,pl,hz⟩:=I.list sq;obtain⟨zs,hz1,hz2⟩:=Ov en pr ri;have hl:zs.length=ns.length:=by rw[<- hz2,zA]
     have hpos:0<ns.length:=List.length_pos_iff.mpr hne
     have isl:=pl.isList;rw[hz1] at isl;refine max_intList (I.ok.hd hc) isl (by simp;omega) λv h' tk hv hk=>?_
     have hvi:=intItems_at hv;obtain⟨t,rfl⟩:=hvi;have hb:=HP (λi j=>decide (numAt zs.toArray i > numAt zs.toArray j)) (zs.toArray.size-1)
     have hsz:zs.toArray.size=ns.length:=by simp[hl]
     refine⟨.int _,H,I.kept hk,⟨_,rfl⟩,ret _ _ _ _ _ Ext.refl bD (.int _) (q _ (Gv hz2 (by omega)) λy hy=>?_)⟩;obtain⟨j,hj,ej⟩:=xE.mp hy;have e1:=Ko hz2 (show ns[j]?=some y by simp[hj,ej]);rw[<- e1];exact FJ _ _ j (by omega)
   ·exact q.elim
  ·exact q.elim
 ·exact q.elim
theorem UQ (hc:X.calm=true):Yt X (.builtin "min") (upC X.K Z wMin):=by
 intro aA s σ H xs us Qv I rv h;obtain⟨r,S,ds,Q,bD,ps,q,ret⟩:=h;unfold wMin U3 at q;split at q
 ·rename_i i j;obtain⟨v,vs,rfl,p1,p2⟩:=ps.uncons;obtain⟨v2,vs2,rfl,p3,p4⟩:=p2.uncons;have z:=p4.unnil;subst z;cases p1;cases p3;exact Dy hc aA s σ H _ us Qv I rv ⟨i,j,rfl,ret _ _ _ _ _ Ext.refl bD (.int _) q⟩
 ·rename_i n;obtain⟨v,vs,rfl,p1,p2⟩:=ps.uncons;have z:=p2.unnil;subst z;split at q
  ·rename_i o eo;split at q
   ·rename_i ns en;obtain⟨hne,q⟩:=q;obtain⟨eo,eL⟩:=YL eo;obtain⟨a,ha,ob⟩:=bD.at eo;cases p1 with
    | ref h1=>
     rw[h1] at ha;cases ha
     obtain⟨ys,sq,pr⟩:=ob.list eL;obtain⟨u,rfl,ru⟩:=Wg rv;cases ru;obtain⟨bA,ri,pl,hz⟩:=I.list sq;obtain⟨zs,hz1,hz2⟩:=Ov en pr ri;have hl:zs.length=ns.length:=by rw[<- hz2,zA]
     have hpos:0<ns.length:=List.length_pos_iff.mpr hne
     have isl:=pl.isList;rw[hz1] at isl;refine min_intList (I.ok.hd hc) isl (by simp;omega) λv h' tk hv hk=>?_
     have hvi:=intItems_at hv;obtain⟨t,rfl⟩:=hvi;have hb:=HP (λi j=>decide (numAt zs.toArray i<numAt zs.toArray j)) (zs.toArray.size-1)
     have hsz:zs.toArray.size=ns.length:=by simp[hl]
     refine⟨.int _,H,I.kept hk,⟨_,rfl⟩,ret _ _ _ _ _ Ext.refl bD (.int _) (q _ (Gv hz2 (by omega)) λy hy=>?_)⟩;obtain⟨j,hj,ej⟩:=xE.mp hy;have e1:=Ko hz2 (show ns[j]?=some y by simp[hj,ej]);rw[<- e1];exact Em _ _ j (by omega)
   ·exact q.elim
  ·exact q.elim
 ·exact q.elim
def Th:WC:=λds S Q=>match ds with
 | [.tup xs]=>Q (.int xs.length) S
 | [.ref n]=>match lAt S n with
  | some o=>Q (.int (Zs o).length) S
  | none=>False
 | _=>False
theorem Z1:Yt X (.builtin "len") (upC X.K Z Th):=Od zaB λxs H Qv ⟨r,S,ds,Q,bD,ps,q,ret⟩=>by
 unfold Th at q;split at q
 ·rename_i ys;obtain⟨v,vs,rfl,p1,p2⟩:=ps.uncons;have z:=p2.unnil;subst z;obtain⟨a,zs,rfl,h1,h2⟩:=p1.untup;exact⟨a,zs,rfl,.inr (SqT.of h1),by rw[<- h2.1];exact ret _ _ _ _ _ Ext.refl bD (.int _) q⟩
 ·rename_i n;obtain⟨v,vs,rfl,p1,p2⟩:=ps.uncons;have z:=p2.unnil;subst z;split at q
  ·rename_i o eo;obtain⟨eo,eL⟩:=YL eo;obtain⟨a,ha,ob⟩:=bD.at eo;cases p1 with
   | ref h1=>
    rw[h1] at ha;cases ha
    obtain⟨ys,sq,pr⟩:=ob.list eL;exact⟨_,ys,rfl,.inl sq,by rw[<- pr.1];exact ret _ _ _ _ _ Ext.refl bD (.int _) q⟩
  ·exact q.elim
 ·exact q.elim
def Wi (t T:String):Bool:=t==T||(t == "bool"&&T == "int")
def rInst (K:Fg):List V->Hp->VK->Prop:=λxs H Qv=>∃x T t b,xs=[x,.ty T]/\XQ K H x t/\PySem.W.kitOne K t (.type T)=some b/\Qv (.bl b) H
theorem BU:Yt X (.builtin "isinstance") (rInst X.K):=by
 intro aA s σ H xs us Q I r h;obtain⟨x,T,t,b,rfl,ty,e,q⟩:=h;obtain⟨u,w',rfl,r1,r2⟩:=Nj r;cases r2;exact zdI I r1 ty e λtk=>⟨.bl b,H,I.tok tk,rfl,q⟩
end
section
variable {X:Cx}{Z:Zx}{st:Stmt}{YC:List Stmt}{t u:TDS}{e:Expr}{te:TDE}{pos:Pos}
def GV:TDS:=λE dl S=>E.nx dl S
def Wx (t u:TDS):TDS:=λE dl S=>t { nx:=λdl' S'=>u E dl' S',rt:=E.rt,bk:=E.bk,ct:=E.ct } dl S
theorem ZS:XC X Z [] GV:=GF zdT λF σ H ⟨r,dl,S,E,rs,bD,h,ret⟩=>ret.nx σ H r dl S Ext.refl rs bD h
theorem Zg (h1:PDS X Z st t)(h2:XC X Z YC u):XC X Z (st::YC) (Wx t u):=
 GF (C5 h1 h2) λF σ H ⟨r,dl,S,E,rs,bD,h,ret⟩=>⟨r,dl,S,_,rs,bD,h,λσ' H' r' dl' S' x rs' rel' q=>⟨r',dl',S',E,rs',rel',q,ret.ext x⟩,ret.bk,ret.ct,ret.rt⟩
theorem Zh (h1:PDS X Z st t):XC X Z [st] t:=B8 h1
def dDrop (te:TDE):TDS:=λE dl S=>te dl S λ_ S1=>E.nx dl S1
theorem Yo (he:PD X Z e te)(hs:swapsWith e none pos.line X.env=pure false:=by rfl):PDS X Z (.Expr e pos) (dDrop te):=
 YO (Bz he hs) λF σ H ⟨r,dl,S,E,rs,bD,h,ret⟩=>⟨r,dl,S,_,rs,bD,h,λv H1 r1 d S1 x aF p q=>ret.nx σ H1 r1 dl S1 x (rs.ext x) aF q⟩
def dRet (te:TDE):TDS:=λE dl S=>te dl S E.rt
theorem Zv (he:PD X Z e te):PDS X Z (.Return (some e) pos) (dRet te):=
 YO (B0 he) λF σ H ⟨r,dl,S,E,rs,bD,h,ret⟩=>⟨r,dl,S,_,rs,bD,h,ret.rt⟩
def dIf (c:TDT)(t u:TDS):TDS:=λE dl S=>c dl S λk S1=>if k=true then t E dl S1 else u E dl S1
theorem ZQ (hc:PDT X Z c tc)(ha:XC X Z a t)(hb:XC X Z b u):PDS X Z (.If c a b pos) (dIf tc t u):=
 YO (ps_if hc ha hb) λF σ H ⟨r,dl,S,E,rs,bD,h,ret⟩=>⟨r,dl,S,_,rs,bD,h,λk H1 r1 S1 x aF q=>by
  cases k with
  | true=>exact Xn ⟨r1,dl,S1,E,rs.ext x,aF,(by simpa using q),ret.ext x⟩
  | false=>exact YS ⟨r1,dl,S1,E,rs.ext x,aF,(by simpa using q),ret.ext x⟩⟩
def Sn (i:Nat)(te:TDE):TDS:=λE dl S=>te dl S λd S1=>E.nx (dl.set i (some d)) S1
theorem Wu (hN:X.N.Nodup)(hi:X.N[i]?=some x)(hx:Loc X.env.scope x)(he:PD X Z e te)(hs:swapsWith e (some (.Name x pos')) pos.line X.env=pure false:=by rfl)(hf:X.fn x=true\/X.env.scope.names.lookup x=some .local:=by first|exact .inl rfl|exact .inr rfl|assumption):PDS X Z (.Assign [.Name x pos'] e pos) (Sn i te):=
 YO (Cc hN hi hx he hs hf) λF σ H ⟨r,dl,S,E,rs,bD,h,ret⟩=>⟨r,dl,S,_,rs,bD,h,λv H1 r1 d S1 x aF p q=>ret.nx _ H1 r1 _ S1 x ((rs.ext x).set i p) aF q⟩
theorem Zy {i:Nat}{x:Str}{pos':Pos}(hN:X.N.Nodup)(he:PD X Z e te)(hi:X.N[i]?=some x:=by rfl)(hx:Loc X.env.scope x:=by exact Or.inl rfl)(hs:swapsWith e (some (.Name x pos')) pos.line X.env=pure false:=by rfl)
  (hf:X.fn x=true\/X.env.scope.names.lookup x=some .local:=by first|exact .inl rfl|exact .inr rfl|assumption):PDS X Z (.Assign [.Name x pos'] e pos) (Sn i te):=Wu hN hi hx he hs hf
def EX (c:TDT)(tb:TDS):TDS:=λE dl S=>∃W:Nat->Ev->Sto->Prop,(∃m,W m dl S)/\∀m dl S,W m dl S->
 c dl S λk S1=>if k=true then tb { nx:=λdl' S'=>∃m',m'<m/\W m' dl' S',rt:=E.rt,bk:=E.nx,ct:=λdl' S'=>∃m',m'<m/\W m' dl' S' } dl S1 else E.nx dl S1
theorem BD (hp:PassesOwn (model X.prog X.w) X.A X.env X.xe)(hc:PDT X Z c tc)(hb:XC X Z body tb):PDS X Z (.While c body [] pos) (EX tc tb):=
 YO (zaX hp hc hb) λF σ H ⟨r,dl,S,E,rs,bD,⟨W,⟨m0,w0⟩,turn⟩,ret⟩=>by
  refine⟨λm σ' H'=>∃r' dl' S',Ext r r' H H'/\Rs r' H' dl' σ'/\Rel X.K Z r' S' H'/\W m dl' S',⟨m0,r,dl,S,Ext.refl,rs,bD,w0⟩,?_⟩;rintro m σ1 H1 ⟨r1,dl1,S1,x1,rs1,aF,w1⟩;refine⟨r1,dl1,S1,_,rs1,aF,turn m dl1 S1 w1,λk H2 r2 S2 x2 aG q2=>?_⟩;cases k with
  | true=>
   refine Xn ⟨λσ' H'=>∃m',m'<m/\∃r' dl' S',Ext r r' H H'/\Rs r' H' dl' σ'/\Rel X.K Z r' S' H'/\W m' dl' S',λ_ _ z=>z,r2,dl1,S2,_,rs1.ext x2,aG,(by simpa using q2),?_⟩;have go:∀σ' H' r' dl' S',Ext r2 r' H2 H'->Rs r' H' dl' σ'->Rel X.K Z r' S' H'->(∃m',m'<m/\W m' dl' S')->∃m',m'<m/\∃r' dl' S',Ext r r' H H'/\Rs r' H' dl' σ'/\Rel X.K Z r' S' H'/\W m' dl' S':=
    λσ' H' r' dl' S' x rs' rel' ⟨m',hm,w'⟩=>⟨m',hm,r',dl',S',x1.trans (x2.trans x),rs',rel',w'⟩
   exact⟨go,λσ' H' r' dl' S' x rs' rel' q=>ret.nx σ' H' r' dl' S' (x1.trans (x2.trans x)) rs' rel' q,go,ret.rt.ext (x1.trans x2)⟩
  | false=>exact YS (ret.nx σ1 H2 r2 dl1 S2 (x1.trans x2) (rs1.ext x2) aG (by simpa using q2))
def dFor (i:Nat)(tl:TDE)(tb:TDS):TDS:=λE dl S=>tl dl S λd S1=>match d with
 | .ref n=>(lAt S1 n).isSome=true/\∃W:Nat->Nat->Ev->Sto->Prop,(∃m,W 0 m dl S1)/\∀k m dl S,W k m dl S->match lAt S n with
  | some o=>match (Zs o)[k]? with
   | some x=>tb { nx:=λdl' S'=>∃m',m'<m/\W (k+1) m' dl' S',rt:=E.rt,bk:=E.nx,ct:=λdl' S'=>∃m',m'<m/\W (k+1) m' dl' S' } (dl.set i (some x)) S
   | none=>E.nx dl S
  | none=>False
 | _=>False
theorem Ik (hp:PassesOwn (model X.prog X.w) X.A X.env X.xe)(hc:X.calm=true)(hN:X.N.Nodup)(hi:X.N[i]?=some x)(hx:Loc X.env.scope x)(hl:PD X Z aX tl)(hb:XC X Z body tb)(hf:X.fn x=true\/X.env.scope.names.lookup x=some .local:=by first|exact .inl rfl|exact .inr rfl|assumption)(hs:∀y,foldedSetIterable aX X.env y=pure y:=by intro _;rfl):PDS X Z (.For (.Name x pos') aX body [] pos) (dFor i tl tb):=
 YO (UB hp hc (PC hl) (UX hN hi hx hf) hb hs) λF σ H ⟨r,dl,S,E,rs,bD,h,ret⟩=>by
  refine⟨r,dl,S,_,rs,bD,h,λv H1 r1 d S1 x1 aF p1 q1=>?_⟩;cases p1 with
  | @ref n a hn=>
   obtain⟨aW,W,⟨m0,w0⟩,turn⟩:=q1;have sql:∀ {r':List Addr} {S':Sto} {H':Hp} {o:Ob},Ext r1 r' H1 H'->Rel X.K Z r' S' H'->lAt S' n=some o->∃xs,SqL X.K H' a xs/\Rps r' H' (Zs o) xs:=λ{r' S' H' o} x' rel' eo=>by
    obtain⟨eo,eL⟩:=YL eo;obtain⟨a',ha,ob⟩:=rel'.at eo;rw[x'.adr n a hn] at ha;cases ha
    exact ob.list eL
   obtain⟨o1,eo1⟩:=xF.mp aW;obtain⟨xs1,sq1,_⟩:=sql Ext.refl aF eo1;refine⟨a,rfl,⟨xs1,sq1⟩,λk m σ' H'=>∃r' dl' S',Ext r1 r' H1 H'/\Rs r' H' dl' σ'/\Rel X.K Z r' S' H'/\W k m dl' S',⟨m0,r1,dl,S1,Ext.refl,rs.ext x1,aF,w0⟩,?_⟩;rintro k m σ2 H2 ⟨r2,dl2,S2,x2,rs2,aG,w2⟩;have q:=turn k m dl2 S2 w2;split at q
   ·rename_i o eo;obtain⟨xs,sq,pr⟩:=sql x2 aG eo;split at q
    ·rename_i y ey;obtain⟨v,hv,pv⟩:=pr.get ey;have go:∀ {r3:List Addr} {H3:Hp},Ext r2 r3 H2 H3->∀σ' H' r' dl' S',Ext r3 r' H3 H'->Rs r' H' dl' σ'->Rel X.K Z r' S' H'->(∃m',m'<m/\W (k+1) m' dl' S')->∃m',m'<m/\∃r' dl' S',Ext r1 r' H1 H'/\Rs r' H' dl' σ'/\Rel X.K Z r' S' H'/\W (k+1) m' dl' S':=
      λ{r3 H3} x3 σ' H' r' dl' S' x rs' rel' ⟨m',hm,w'⟩=>⟨m',hm,r',dl',S',x2.trans (x3.trans x),rs',rel',w'⟩
     refine .inr ⟨⟨xs,v,sq,hv⟩,λσ' H'=>∃m',m'<m/\∃r' dl' S',Ext r1 r' H1 H'/\Rs r' H' dl' σ'/\Rel X.K Z r' S' H'/\W (k+1) m' dl' S',λ_ _ z=>z,λv' H' y'=>?_⟩;obtain⟨eH,y'⟩:=y';subst eH;have ev:v'=v:=by
      have z:=y' xs sq;rw[hv] at z;exact(Option.some.inj z).symm
     subst ev;exact⟨r2,_,S2,_,rs2.set i pv,aG,q,go Ext.refl,λσ' H' r' dl' S' x rs' rel' z=>ret.nx σ' H' r' dl' S' (x1.trans (x2.trans x)) rs' rel' z,go Ext.refl,ret.rt.ext (x1.trans x2)⟩
    ·rename_i ey;have aU:(Zs o).length<=k:=yY.mp ey;exact .inl ⟨⟨xs,sq,by rw[<- pr.1];exact aU⟩,ret.nx σ2 H2 r2 dl2 S2 (x1.trans x2) rs2 aG q⟩
   ·exact q.elim
  | _=>exact(show False from q1).elim
def dForR (i:Nat)(ta:TDA)(tb:TDS):TDS:=λE dl S=>ta dl S λds S1=>match ds with
 | [.int j]=>(-(2^62)<=j/\j<2^62)/\∃W:Nat->Ev->Sto->Prop,W 0 dl S1/\∀k dl S,W k dl S->
   if k<j.toNat then tb { nx:=λdl' S'=>W (k+1) dl' S',rt:=E.rt,bk:=E.nx,ct:=λdl' S'=>W (k+1) dl' S' } (dl.set i (some (.int k))) S else E.nx dl S
 | _=>False
theorem Xe (hp:PassesOwn (model X.prog X.w) X.A X.env X.xe)(hc:X.calm=true)(hN:X.N.Nodup)(hi:X.N[i]?=some x)(hx:Loc X.env.scope x)(hg:Gl X "range")(hm:X.mg "range"=none)(ha:PDA X Z [a] ta)(hb:XC X Z body tb)(hf:X.fn x=true\/X.env.scope.names.lookup x=some .local:=by first|exact .inl rfl|exact .inr rfl|assumption)(hs:∀y,foldedSetIterable (.Call (.Name "range" p) [a] [] pos) X.env y=pure y:=by intro _;rfl)(hst:starEach [a] X.env=[(false,eval a X.env)]:=by rfl):
  PDS X Z (.For (.Name x pos') (.Call (.Name "range" p) [a] [] pos) body [] aQ) (dForR i ta tb):=
 YO (UB hp hc (KN hg hm ha hst) (UX hN hi hx hf) hb hs) λF σ H ⟨r,dl,S,E,rs,bD,h,ret⟩=>by
  refine⟨r,dl,S,_,rs,bD,h,λvs H1 r1 ds S1 x1 aF p1 q1=>?_⟩;split at q1
  ·rename_i j;obtain⟨v,vs',rfl,p2,p3⟩:=p1.uncons;have z:=p3.unnil;subst z;cases p2;obtain⟨⟨b1,b2⟩,W,w0,turn⟩:=q1;refine⟨j,rfl,b1,b2,λk m σ' H'=>m=j.toNat-k/\∃r' dl' S',Ext r1 r' H1 H'/\Rs r' H' dl' σ'/\Rel X.K Z r' S' H'/\W k dl' S',⟨j.toNat,by simp,r1,dl,S1,Ext.refl,rs.ext x1,aF,w0⟩,?_⟩;rintro k m σ2 H2 ⟨em,r2,dl2,S2,x2,rs2,aG,w2⟩;have q:=turn k dl2 S2 w2;split at q
   ·rename_i hk;have go:∀σ' H' r' dl' S',Ext r2 r' H2 H'->Rs r' H' dl' σ'->Rel X.K Z r' S' H'->W (k+1) dl' S'->∃r' dl' S',Ext r1 r' H1 H'/\Rs r' H' dl' σ'/\Rel X.K Z r' S' H'/\W (k+1) dl' S':=
     λσ' H' r' dl' S' x rs' rel' w'=>⟨r',dl',S',x2.trans x,rs',rel',w'⟩
    have pk:Rp r2 H2 (.int (k:Int)) (.int (0+(k:Int))):=by rw[Int.zero_add];exact .int _
    refine .inr ⟨hk,λσ' H'=>∃r' dl' S',Ext r1 r' H1 H'/\Rs r' H' dl' σ'/\Rel X.K Z r' S' H'/\W (k+1) dl' S',λσ' H' z=>⟨j.toNat-(k+1),by omega,rfl,z⟩,λv' H' y'=>?_⟩;obtain⟨eH,y'⟩:=y';subst eH;subst y';exact⟨r2,_,S2,_,rs2.set i pk,aG,q,go,λσ' H' r' dl' S' x rs' rel' z=>ret.nx σ' H' r' dl' S' (x1.trans (x2.trans x)) rs' rel' z,go,ret.rt.ext (x1.trans x2)⟩
   ·rename_i hk;exact .inl ⟨by show j.toNat<=k;omega,ret.nx σ2 H2 r2 dl2 S2 (x1.trans x2) rs2 aG q⟩
  ·exact q1.elim
end
def SU (N:List Str)(ds:List D):Ev:=ds.map some++List.replicate (N.length-ds.length) none
theorem zd7 {r:List Addr}{H:Hp}{N:List Str}{ds:List D}{vs:List V}(h:Rps r H ds vs):Rs r H (SU N ds) (L2.WM N vs):=by
  refine⟨by simp[SU,L2.WM,h.1],λi d e=>?_⟩;unfold SU at e;by_cases hi:i<ds.length
  · rw[zQ (by simpa using hi),zF] at e
    cases q:ds[i]? with
    | none=>
   rw[q] at e;cases e
    | some z=>
      rw[q] at e;cases e;obtain⟨v,hv,pv⟩:=h.get q;refine⟨v,?_,pv⟩;unfold L2.WM;rw[zQ (by simpa [h.1] using hi),zF,hv];rfl
  · rw[yA (by simpa using hi),List.getElem?_replicate] at e
    split at e<;>cases e
section
variable {P:Program}{w:World}{K:Fg}{mg:Str->Option Value}{base:Heap}
abbrev Z0:Zx:=Zc (λ_ _=>False) (λ_ _ _=>False)
theorem UH:WW X Z0.w:=λ_ _ _ _ _ _ _ h=>by
 obtain⟨_,_,_,_,_,_,_,_,_,_,_,_,q⟩:=h;exact q.elim
theorem ZE {x aL:Str}{st:Stmt}{f:Addr}{fd:FuncData}{N ps:List Str}{k:Nat}{sd:Sd}(F:Fun K x aL st f fd)(Sc:ZC N ps (Zo st))(len:∀ds S Q ex,sd ds S Q ex->ds.length=ps.length)
  (hbody:∀(cdv:Value)(A:Around)(outer:List Env)(s:Shared)(H:Hp)(E:XK),Yb k (A.deeper (envOfC aL (Zo st) s.heap.objs.size f cdv))->
   ∃t,XC (TL (CXE P w) P w K mg base N aL (Zo st) f cdv A outer s H E).nox Z0 (Wz st) t/\∀ds S Q ex,sd ds S Q ex->t { nx:=λ_ S'=>Q .non S',rt:=Q } (SU N ds) S):YI P w K mg base (CXE P w) (k+1) f fd ps (upF K sd):=by
 obtain⟨oc,od,kV,doc,pm,an,cdv,ct,osl,rfl,lk,hcd⟩:=F.ex;refine fn_of lk hcd Sc (λvs H Q E h=>?_) λA outer s H vs Q E hr h=>?_
 ·obtain⟨ex,r,S,ds,Q',bD,p,q,ret⟩:=h;rw[<- p.1];exact len ds S Q' ex q
 ·obtain⟨ex,r,S,ds,Q',bD,p,q,ret⟩:=h;obtain⟨t,ht,hq⟩:=hbody cdv A outer s H E hr;have back:∀ {H':Hp} {r':List Addr} {S':Sto},Ext r r' H H'->Rel K Z0 r' S' H'->Rel K (Zc ex E) r' S' H':=λx rel'=>⟨rel'.b,bD.xw.ext x⟩
  refine⟨upS K Z0 t,ht.nox,r,SU N ds,S,_,zd7 p,⟨bD.b,λ_ _ _ _ _ _ _ _ _ z=>z.elim⟩,hq ds S Q' ex q,?_,?_,?_,?_⟩
  ·intro σ' H' r' dl' S' x _ rel' z;exact ret .non H' r' .non S' x (back x rel') .non z
  ·intro σ' H' r' dl' S' x _ rel' z;exact z
  ·intro σ' H' r' dl' S' x _ rel' z;exact z
  ·intro v H' r' d S' x rel' p' z;exact ret v H' r' d S' x (back x rel') p' z
end
open PySem
def Sz (n:Nat)(i:Int):Prop:=i.natAbs<2^n
theorem Sz.mono (h:Sz m i)(hn:m<=n):Sz n i:=yB h (Nat.pow_le_pow_right (by decide) hn)
theorem Sz.bits (h:Sz n i):Builtin.Int.intBits i<=n:=by
 unfold Builtin.Int.intBits;split
 ·exact zL _
 ·rename_i hz;have hp:i.natAbs≠0:=by
   intro z;have z2:i=0:=by omega
   simp[z2] at hz
  have:=(Nat.log2_lt hp).mpr h;omega
theorem ZN (hi:Sz m i)(hj:Sz n j)(hm:m<=1048576:=by decide)(hn:n<=1048576:=by decide):IntMulOk i j:=by
 have e20:(2:Nat)^20=1048576:=by decide
 exact IntMulOk.of_bits (yH hi.bits (by omega)) (yH hj.bits (by omega))
theorem Sz.of {n:Nat}{i:Int}(m:Nat)(h:i.natAbs<=m)(hm:m<2^n:=by decide):Sz n i:=Nat.lt_of_le_of_lt h hm
theorem Sz.mul (hi:Sz m i)(hj:Sz n j):Sz (m+n) (i*j):=by
 unfold Sz at *
 rw[Nat.pow_add,xV];exact Nat.mul_lt_mul'' hi hj
theorem Sz.add (hi:Sz m i)(hj:Sz n j):Sz (max m n+1) (i+j):=by
 have h1:Sz (max m n) i:=hi.mono (Nat.le_max_left _ _)
 have h2:Sz (max m n) j:=hj.mono (Nat.le_max_right _ _);unfold Sz at *
 have e:(2:Nat)^(max m n+1)=2^max m n+2^max m n:=by rw[Nat.pow_succ];omega
 rw[e];have:=Int.natAbs_add_le i j;omega
theorem Sz.neg (hi:Sz m i):Sz m (-i):=by
 unfold Sz at *
 rw[Int.natAbs_neg];exact hi
theorem Sz.sub (hi:Sz m i)(hj:Sz n j):Sz (max m n+1) (i-j):=by
 rw[Int.sub_eq_add_neg];exact hi.add hj.neg
theorem Sz.log (h:Sz n i)(hi:i≠0)(hn:n<=9000:=by decide):i.natAbs.log2<9000:=by
 have:=(Nat.log2_lt (by omega:i.natAbs≠0)).mpr h;omega
theorem Sz.fd {n:Nat}{i:Int}(h:Sz n i)(hi:0<i)(hn:n<=9000:=by decide):0<i/\i.natAbs.log2<9000:=⟨hi,h.log (by omega) hn⟩
theorem Yu {a b:Int}(hb:0<b):0<=a%b/\a%b<b:=⟨Int.emod_nonneg _ (by omega),Int.emod_lt_of_pos _ hb⟩
example (x:Int):-(10^40)<=x%(2*10^40+1)-10^40:=by omega
example (x:Int):x%(2*10^40+1)-10^40<=10^40:=by omega
example (x:Int) (h:-(10^40)<=x) (h2:x<=2*10^41):Sz 140 x:=Sz.of (2*10^41) (by omega)
theorem zdY (a b:Int):Int.gcd b (a%b)=Int.gcd a b:=by
 rw[Int.emod_def,show a-b*(a/b)=a-(a/b)*b by rw[xR],Int.gcd_sub_mul_right_right,Int.gcd_comm]
def WN (i:Int):Int:=if i<0 then -i else i
theorem zdz (i:Int):0<=WN i:=by unfold WN;split<;>omega
theorem zbf (a b:Int):Int.gcd (WN a) (WN b)=Int.gcd a b:=by
 have h:∀i:Int,(WN i).natAbs=i.natAbs:=λi=>by unfold WN;split<;>omega
 unfold Int.gcd;rw[h,h]
theorem za8 (hB:B≠0)(hd:d=(if B<0 then -((Int.gcd T B:Nat):Int) else ((Int.gcd T B:Nat):Int))):
  d≠0/\T.fdiv d*d=T/\B.fdiv d*d=B/\1<=B.fdiv d/\Int.gcd (T.fdiv d) (B.fdiv d)=1/\T.fdiv d*B=T*B.fdiv d:=by
 have g0:0<Int.gcd T B:=Nat.pos_of_ne_zero λz=>hB (Int.gcd_eq_zero_iff.mp z).2
 have dT:((Int.gcd T B:Nat):Int) ∣ T:=Int.gcd_dvd_left T B
 have dB:((Int.gcd T B:Nat):Int) ∣ B:=Int.gcd_dvd_right T B
 have hne:d≠0:=by
  rw[hd];split<;>omega
 have eT:d ∣ T:=by rw[hd];split<;>first|exact Int.neg_dvd.mpr dT|exact dT
 have eB:d ∣ B:=by rw[hd];split<;>first|exact Int.neg_dvd.mpr dB|exact dB
 have fT:T.fdiv d=T/d:=Int.fdiv_eq_ediv_of_dvd eT
 have fB:B.fdiv d=B/d:=Int.fdiv_eq_ediv_of_dvd eB
 have mT:T.fdiv d*d=T:=by rw[fT];exact Int.ediv_mul_cancel eT
 have mB:B.fdiv d*d=B:=by rw[fB];exact Int.ediv_mul_cancel eB
 have gg:Int.gcd (T.fdiv d) (B.fdiv d)=1:=by
  have z:=Int.gcd_ediv_gcd_ediv_gcd g0;rw[fT,fB,hd];split
  ·rw[Int.ediv_neg,Int.ediv_neg,Int.neg_gcd,Int.gcd_neg];exact z
  ·exact z
 have pos:1<=B.fdiv d:=by
  by_cases hb:B<0
  ·have dn:d<0:=by rw[hd,if_pos hb];omega
   by_cases q:B.fdiv d<=0
   ·have:=Int.mul_nonneg_of_nonpos_of_nonpos q (Int.le_of_lt dn);omega
   ·omega
  ·have dp:0<d:=by rw[hd,if_neg hb];omega
   by_cases q:B.fdiv d<=0
   ·have:=zY (show 0<=-(B.fdiv d) by omega) (Int.le_of_lt dp);rw[yO] at this;omega
   ·omega
 refine⟨hne,mT,mB,pos,gg,?_⟩
 calc T.fdiv d*B=T.fdiv d*(B.fdiv d*d):=by rw[mB]
  _=T.fdiv d*d*B.fdiv d:=by grind
  _=T*B.fdiv d:=by rw[mT]
theorem Eh {T d:Int}(hne:d≠0)(mT:T.fdiv d*d=T):(T.fdiv d).natAbs<=T.natAbs:=by
 have h:(T.fdiv d).natAbs*d.natAbs=T.natAbs:=by rw[<- xV,mT]
 have hd:1<=d.natAbs:=by omega
 calc (T.fdiv d).natAbs=(T.fdiv d).natAbs*1:=by omega
  _<=(T.fdiv d).natAbs*d.natAbs:=Nat.mul_le_mul_left _ hd
  _=T.natAbs:=h
theorem Vf (m:Int)(hg:0<g):m/g*g<=m/\m<(m/g+1)*g:=by
 have h1:=Int.emod_add_mul_ediv m g
 have h2:=Int.emod_nonneg m (show g≠0 by omega)
 have h3:=Int.emod_lt_of_pos m hg
 have e:(m/g+1)*g=g*(m/g)+g:=by grind
 have e2:m/g*g=g*(m/g):=xR _ _;omega
theorem Q8 (m:Int)(hg:0<g):m<=-(-m/g)*g/\(-(-m/g)-1)*g<m:=by
 obtain⟨h1,h2⟩:=Vf (-m) hg;have e1:-(-m/g)*g=-(-m/g*g):=by rw[yO]
 have e2:(-(-m/g)-1)*g=-((-m/g+1)*g):=by grind
 omega
section
variable {X:Cx}{Z:Zx}
def wIf (C:Int->Int->Bool)(g:Int->Int->D):W2:=λx y S Q=>match x,y with
 | .int i,.int j=>if C i j=true then Q (g i j) S else False
 | _,_=>False
theorem opIf (h:OpR X f (upO X.K Z (wI C g)))(hc:∀i j,C' i j=true->C i j):OpR X f (upO X.K Z (wIf C' g)):=
 OU h λx y H Qv ⟨r,S,dx,dy,Q,bD,px,py,q,ret⟩=>⟨r,S,dx,dy,Q,bD,px,py,by
  unfold wIf at q;split at q
  ·obtain⟨h1,h2⟩:=NY q;exact⟨hc _ _ h1,h2⟩
  ·exact q.elim,ret⟩
def Pp (_ j:Int):Bool:=decide (0<j)&&decide (j<1073741824)
abbrev Cp:W2:=wIf Pp λi j=>.int (i/j)
abbrev wModL:W2:=wIf Pp λi j=>.int (i%j)
def powB (i j:Int):Bool:=decide (0<=j)&&decide (j<=1000)&&decide (-1000<i)&&decide (i<1000)
abbrev wPowL:W2:=wIf powB λi j=>.int (i^j.toNat)
theorem EI (h:Pp i j=true):0<j/\j<1073741824:=by
 unfold Pp at h;simpa using h
theorem Yj:OpR X (binaryOp .FloorDiv) (upO X.K Z Cp):=opIf YJ λi j h=>by
 obtain⟨h1,h2⟩:=EI h;refine⟨h1,?_⟩;have:j.natAbs.log2<30:=(Nat.log2_lt (by omega)).mpr (by omega);omega
theorem Yc:OpR X (binaryOp .Mod) (upO X.K Z wModL):=opIf YK λi j h=>(EI h).1
theorem X2:OpR X (binaryOp .Pow) (upO X.K Z wPowL):=opIf zcA λi j h=>by
 unfold powB at h;simp at h;refine⟨h.1.1.1,by have:=h.1.1.2;omega,?_⟩;have h3:=h.1.2
 have h4:=h.2
 have big:(18446744073709551616:Nat)=2^64:=by decide
 omega
structure Df (K:Fg)(mg:Str->Option Value)(x:Str)(st:Stmt)(ps:List Str) where
 f:Addr
 fd:FuncData
 F:Fun K x x st f fd
 m:mg x=some (.ref f)
 b:Xi K fd ps []
structure Fk (P:Program)(w:World)(K:Fg)(mg:Str->Option Value)(base:Heap)(k:Nat)(x:Str)(ps:List Str)(sd:Sd) where
 f:Addr
 fd:FuncData
 ok:YI P w K mg base (CXE P w) k f fd ps (upF K sd)
 m:mg x=some (.ref f)
 kp:PySem.W.keepIn K (.ref f)=true
 b:Xi K fd ps []
def Df.mk' {P:Program}{w:World}{K:Fg}{mg:Str->Option Value}{base:Heap}{k:Nat}{x:Str}{st:Stmt}{ps:List Str}{sd:Sd}(d:Df K mg x st ps)(h:YI P w K mg base (CXE P w) k d.f d.fd ps (upF K sd)):Fk P w K mg base k x ps sd:=
 ⟨d.f,d.fd,h,d.m,d.F.kp,d.b⟩
theorem DV (G:Fk X.prog X.w X.K X.mg X.base k x ps sd)(hr:Yb k X.A)(hx:WW X W)(hg:Gl X x)(ha:PDA X ⟨ex,W⟩ (e::es) t)(hdb:(x==("__debug__":Str))=false:=by decide)(he:starEach (e::es) X.env=(false,eval e X.env)::starEach es X.env:=by rfl)(hpl:(backTo pos (starEach es X.env)).any (·.1)=false:=by rfl):
  PD X ⟨ex,W⟩ (.Call (.Name x p) (e::es) [] pos) (KJ ex sd t):=zbj G.ok hr hg G.m G.kp G.b hx ha hdb he hpl
theorem zaa {st:Stmt}:PDS X Z st (λ_ _ _=>False):=YO Dh λF σ H ⟨_,_,_,_,_,_,h,_⟩=>h
end
def TM:Sd:=λds S Q _=>∃ns:List Int,ds=[.ref 0]/\S=[.frz (ns.map D.int)]/\ns.length<=63/\∀S',Q (.bl true) S'
theorem zc5:∀ds S Q ex,TM ds S Q ex->ds.length=1:=λds S Q ex h=>by
 obtain⟨ns,rfl,_⟩:=h;rfl
theorem zdK {K:Fg}{H:Hp}{a:Addr}{xs:List V}(hO:RK H)(h:SqL K H a xs):SqF K H a xs:=by
 rcases h with (h|⟨o,h⟩)|h
 ·rcases hO a with z|⟨o,ys,z⟩
  ·rw[h] at z;cases z
  ·rw[h] at z;cases z
 ·exact .inl ⟨o,h⟩
 ·exact .inr h
theorem FA {r:List Addr}{H:Hp}(ns:List Int):Rps r H (ns.map D.int) (ns.map V.int):=by
 refine⟨by simp,λi d v h1 h2=>?_⟩;rw[zF] at h1 h2;cases q:ns[i]? with
 | none=>rw[q] at h1;cases h1
 | some z=>
  rw[q] at h1 h2;cases h1;cases h2;exact .int z
theorem Cy {K:Fg}{H:Hp}{a:Addr}{ns:List Int}(hl:ns.length<=63)(hO:RK H)(hS:SqL K H a (ns.map V.int)):upF K TM [.ref a] H (λv _=>v=.bl true) λ_ _ _=>False:=by
 refine⟨λ_ _=>False,[a],[.frz (ns.map D.int)],[.ref 0],λd _=>d=.bl true,⟨⟨rfl,λn b o h1 h2=>?_,λn m b xs ys h1 h2 h3 h4 o1 o2=>?_⟩,λ_ _ _ _ _ _ _ _ _ z=>z.elim⟩,Rps.cons (.ref rfl) Rps.nil,⟨ns,rfl,rfl,hl,λ_=>rfl⟩,λv H' r' d S' e bD p q=>?_⟩
 ·cases n with
  | zero=>
   simp at h1 h2;subst h1;subst h2
   exact⟨_,zdK hO hS,FA ns⟩
  | succ n=>simp at h1
 ·cases n with
  | zero=>
   simp at h3;subst h3;cases o1
  | succ n=>simp at h1
 ·subst q;cases p;rfl
theorem Bs {l:PySem.W.OpenLaw}{q:Program}{aK:List Str}{XP:(Str->Option Value)->Heap->Prop}{YP:World->Heap->Prop}{d:DefRec}{K:Params->Fg}{x:Str}(k:Nat)(hn:l.most=some 63)(hdf:d.params.defaults=[])(hr:Yb k callerA)
  (hY:∀(w:World)(h:Heap),YP w h->(K w.params).In h)
  (F:∀(w:World)(mg:Str->Option Value)(fa:Addr)(h:Heap),(K w.params).In h->h.Ns mainGlobals mg->mg d.name=some (.ref fa)->
   ∃fd:FuncData,(∀(s:Shared)(u:Value),BindsTo s fd ⟨[u],[]⟩ [(x,u)])/\∀base:Heap,(K w.params).In base->base.Ns mainGlobals mg->YI l.prog w (K w.params) mg base (CXE l.prog w) k fa fd [x] (upF (K w.params) TM)):
  PySem.W.WalkO q aK XP YP l.row.toRowW d [] (λf vs=>PySem.call f vs):=
 L2.zcs (n:=63) (k:=k) (x:=x) (CX:=λw=>CXE l.prog w) (sp:=λw=>upF (K w.params) TM) hn (by decide) hdf hr hY F (λ_ _ a ns hl hO hS=>Cy hl hO hS) λ_ _ _ _ _ ⟨_,_,_,_,_,_,_,_,_,_,_,_,z⟩=>z
end L3
namespace L3
open PySem PySem.Spec PyProof.Rows L2
theorem ifF {c:Bool}{A B:Prop}(h:c=false)(b:B):if c=true then A else B:=by rw[h];exact YS b
theorem ifP {c A B:Prop} [Decidable c] (h:c)(a:A):if c then A else B:=by rw[if_pos h];exact a
theorem ifD {c:Prop} [Decidable c] {A B:Prop}(h1:c->A)(h2:¬ c->B):if decide c=true then A else B:=by
 by_cases h:c
 ·rw[decide_eq_true h];exact Xn (h1 h)
 ·rw[decide_eq_false h];exact YS (h2 h)
open PySem L2
open PySem L2
theorem Sz.pow (h:Sz n i)(k:Nat):Sz (n*k+1) (i^k):=by
 unfold Sz at *
 rw[Int.natAbs_pow,Nat.pow_succ,Nat.pow_mul];have h1:i.natAbs^k<=(2^n)^k:=Nat.pow_le_pow_left (xG h) k
 have h2:0<(2^n)^k:=yQ (yQ (by decide));omega
theorem ifN {c:Prop} [Decidable c] {A B:Prop}(h1:¬ c->A)(h2:c->B):if (!decide c)=true then A else B:=by
 by_cases h:c
 ·rw[decide_eq_true h];exact L2.YS (h2 h)
 ·rw[decide_eq_false h];exact L2.Xn (h1 h)
end L3
namespace L3
open PySem PySem.Spec PyProof.Rows L2
section
variable {X:Cx}{Z:Zx}{x:Str}{p pos:Pos}{e:Expr}{es:List Expr}{t:TDA}
end
section
variable {X:Cx}{Z:Zx}
theorem Mg {r:List Addr}{H:Hp}{a:Addr}{o:HO}(h:H a=none):Ext r r H (upd H a o):=⟨λ_ _ q=>q,λ_ _ q=>Xs h _ _ q,λ_ _ q=>Xs h _ _ q⟩
open PySem.W in
end
end L3
namespace L3
open PySem PySem.Spec PyProof.Rows L2
theorem Sz.div (h:Sz n i)(hj:1<=j):Sz n (i/j):=by
 refine Nat.lt_of_le_of_lt ?_ h;obtain⟨h1,h2⟩:=Vf i (show 0<j by omega);by_cases q:0<=i/j
 ·have:=wA hj q;omega
 ·have:=wA hj (show 0<=-(i/j+1) by omega)
  have e:-(i/j+1)*j=-((i/j+1)*j):=yO _ _;omega
inductive Sco (n:Nat):D->Prop
 | non:Sco n .non
 | bl (b:Bool):Sco n (.bl b)
 | int (i:Int):Sco n (.int i)
 | str (x:Str):Sco n (.str x)
 | tup {ds:List D}:(∀d∈ds,Sco n d)->Sco n (.tup ds)
 | ref {m:Nat}:m<n->Sco n (.ref m)
 | exc (c:Addr):Sco n (.exc c)
theorem Rp.sco (h:Rp r H d v):Sco r.length d:=by
 induction h with
 | non=>exact .non
 | bl b=>exact .bl b
 | int i=>exact .int i
 | str x=>exact .str x
 | @tup ds xs a _ l _ ih=>
  refine .tup λd hd=>?_
  obtain⟨i,hi,e⟩:=xE.mp hd;exact ih i d xs[i] (by simp[hi,e]) (by simp[l ▸ hi])
 | ref h=>exact .ref (zD.mp h).1
 | exc _=>exact .exc _
theorem Rp.low (h:Rp r' H d v)(low:∀m a,m<r.length->r'[m]?=some a->r[m]?=some a)(s:Sco r.length d):Rp r H d v:=by
 induction h with
 | non=>exact .non
 | bl b=>exact .bl b
 | int i=>exact .int i
 | str x=>exact .str x
 | tup e l f ih=>
  cases s with
  | tup s=>exact .tup e l λi d v h1 h2=>ih i d v h1 h2 (s d (zJ h1))
 | ref h=>
  cases s with
  | ref s=>exact .ref (low _ _ s h)
 | exc h=>exact .exc h
def Pre (S S':Sto):Prop:=∀(n:Nat)(o:Ob),S[n]?=some o->S'[n]?=some o
theorem Pre.refl {S:Sto}:Pre S S:=λ_ _ h=>h
theorem Pre.push {S S':Sto}{o:Ob}(h:Pre S S'):Pre S (S'++[o]):=λn u e=>by
 have z:=h n u e;rw[zQ (zD.mp z).1];exact z
theorem Pre.trans {S S' S2:Sto}(h:Pre S S')(k:Pre S' S2):Pre S S2:=λn o e=>k n o (h n o e)
theorem Ea (e:Ext r r' H H'):∀m a,m<r.length->r'[m]?=some a->r[m]?=some a:=λm a hm h=>by
 have z:r[m]?=some r[m]:=by simp[hm]
 rw[e.adr _ _ z] at h;rw[z];exact h
theorem Yh.low {K:Fg}{r r':List Addr}{S S':Sto}{H H':Hp}(h:Yh K r S H)(e:Ext r r' H H')(h':Yh K r' S' H')(p:Pre S S'):Yh K r S H':=by
 have rl:∀ {ds:List D} {xs ys:List V},Rps r H ds xs->Rps r' H' ds ys->Rps r H' ds ys:=λ{ds xs ys} a b=>⟨b.1,λi d v h1 h2=>by
  obtain⟨v0,_,q⟩:=a.get h1;exact(b.2 i d v h1 h2).low (Ea e) q.sco⟩
 refine⟨h.len,λn a o h1 h2=>?_,λn m a xs ys h1 h2 h3 h4 o1 o2=>h'.nd n m a xs ys (e.adr _ _ h1) (e.adr _ _ h2) (p _ _ h3) (p _ _ h4) o1 o2⟩;have q:=h.ob n a o h1 h2
 have q':=h'.ob n a o (e.adr _ _ h1) (p _ _ h2);cases o with
 | lst ds=>
  obtain⟨xs,_,a1⟩:=q;obtain⟨ys,b0,b1⟩:=q';exact⟨ys,b0,rl a1 b1⟩
 | frz ds=>
  obtain⟨xs,_,a1⟩:=q;obtain⟨ys,b0,b1⟩:=q';exact⟨ys,b0,rl a1 b1⟩
 | ins C fs=>
  obtain⟨_,_,_,a1⟩:=q;obtain⟨dx,fs',b0,b1⟩:=q';exact⟨dx,fs',b0,b1.1,rl a1.2 b1.2⟩
 | dct aY=>
  obtain⟨_,_,a1⟩:=q;obtain⟨ks,b0,b1⟩:=q';exact⟨ks,b0,b1.1,rl a1.2 b1.2⟩
 | dck aY=>
  obtain⟨_,_,a1⟩:=q;obtain⟨ks,b0,b1⟩:=q';exact⟨ks,b0,b1.1,rl a1.2 b1.2⟩
 | tpl ws=>exact q'
def Gc (S:Sto)(Q:DK):DK:=λd S'=>Pre S S'/\Sco S.length d/\Q d S
def GcX (S:Sto)(ex:Addr->Sto->Prop):Addr->Sto->Prop:=λc S'=>Pre S S'/\ex c S
theorem Ret.gc {K:Fg}{Z Z':Zx}{r:List Addr}{S:Sto}{H:Hp}{Q:DK}{Qv:VK}(h:Ret K Z r H Q Qv)(bD:Rel K Z r S H):Ret K Z' r H (Gc S Q) Qv:=λv H' r' d S' e rel' p q=>by
 obtain⟨pre,sc,q⟩:=q;have e':Ext r r H H':=⟨λ_ _ z=>z,e.tup,e.xc⟩;rw[<- bD.len] at sc;exact h v H' r d S e' ⟨bD.b.low e rel'.b pre,bD.xw.ext e'⟩ (p.low (Ea e) sc) q
theorem VS.gc {K:Fg}{ex:Addr->Sto->Prop}{E:XK}{r:List Addr}{S:Sto}{H:Hp}(bD:Rel K (Zc ex E) r S H):VS K (Zc (GcX S ex) E) r H:=λdl σ c H' r' S' e _ rb q=>by
 obtain⟨pre,q⟩:=q;have e':Ext r r H H':=⟨λ_ _ z=>z,e.tup,e.xc⟩;exact bD.xw [] [] c H' r S e' ⟨rfl,λi d z=>by simp at z⟩ (bD.b.low e rb pre) q
section
variable {P:Program}{w:World}{K:Fg}{mg:Str->Option Value}{base:Heap}
def gcS (sd:Sd):Sd:=λds S Q ex=>∃Q0 ex0,Q=Gc S Q0/\ex=GcX S ex0/\sd ds S Q0 ex0
theorem X6 (h:YI P w K mg base CX k f fd ps (upF K (gcS sd))):YI P w K mg base CX k f fd ps (upF K sd):=by
 have imp:∀vs H Q E,upF K sd vs H Q E->upF K (gcS sd) vs H Q E:=λvs H Qv E ⟨ex,r,S,ds,Q,bD,p,q,ret⟩=>
  ⟨GcX S ex,r,S,ds,Gc S Q,⟨bD.b,VS.gc bD⟩,p,⟨Q,ex,rfl,rfl,q⟩,ret.gc bD⟩
 obtain⟨h1,h2⟩:=h;exact⟨λvs H Q E q=>h1 vs H Q E (imp vs H Q E q),λA outer s H args us vs Q E hr e0 hb rv q=>h2 A outer s H args us vs Q E hr e0 hb rv (imp vs H Q E q)⟩
end
theorem X5 (len:∀ds S Q ex,sd ds S Q ex->ds.length=n):∀ds S Q ex,gcS sd ds S Q ex->ds.length=n:=λds S Q ex h=>by
 obtain⟨Q0,ex0,_,_,h⟩:=h;exact len _ _ _ _ h
structure Vb (sc around:Scope)(x:Str)(caps:List Str):Prop where
 kind:sc.kind=.function
 nocell:∀y∈sc.names,y.2≠.cell
 own:∀y∈sc.names,y.2=.local->sc.names.lookup y.1=some .local
 loc:sc.names.lookup x=some .local
 cap:∀y∈caps,sc.names.lookup y=some .free
 out:∀y∈sc.names,y.2=.free->around.names.lookup y.1=some .cell
theorem Qn {α:Type}{y:Str}{v:α}:∀ {l:List (Str×α)},l.lookup y=some v->(y,v)∈l
 | [],h=>by simp at h
 | (n,k)::r,h=>by
  cases e:y==n with
  | true=>
   rw[yJ,e] at h;have z:k=v:=Option.some.inj h
   have z2:y=n:=by simpa using e
   rw[z,z2];exact yC
  | false=>
   rw[yJ,e] at h;exact yN _ (Qn h)
theorem HN:∀(l:List (Str×NameKind))(acc:List (Str×Addr)),(∀y∈l,y.2=.free->∃c,env.cells.lookup y.1=some c)->(∀x c,acc.lookup x=some c->env.cells.lookup x=some c)->
  ∃cl,(forIn l acc λx r=>(if (x.2==NameKind.free)=true then do let a <- cellOf env x.1;pure (ForInStep.yield ((x.1,a)::r)) else pure (ForInStep.yield r):Sem (ForInStep (List (Str×Addr)))))=pure cl/\
   (∀x c,cl.lookup x=some c->env.cells.lookup x=some c)/\(∀y∈l,y.2=.free->cl.lookup y.1=env.cells.lookup y.1)/\∀x c,acc.lookup x=some c->∃c',cl.lookup x=some c'
 | [],acc,_,ha=>⟨acc,by simp,ha,λy hy=>(by cases hy),λx c e=>⟨c,e⟩⟩
 | (n,k)::r,acc,h,ha=>by
  cases hk:(k==NameKind.free) with
  | false=>
   obtain⟨cl,h1,h2,h3,h4⟩:=HN r acc (λy hy=>h y (yN _ hy)) ha;refine⟨cl,?_,h2,λy hy hf=>?_,h4⟩
   ·rw[List.forIn_cons];simp[hk];simpa using h1
   ·have hy':=zO.mp hy;rcases hy' with rfl|hy
    ·rw[show k=NameKind.free from hf] at hk;exact absurd hk (by decide)
    ·exact h3 y hy hf
  | true=>
   have hf:k=NameKind.free:=by simpa using hk
   obtain⟨c,hc⟩:=h (n,k) yC hf;obtain⟨cl,h1,h2,h3,h4⟩:=HN r ((n,c)::acc) (λy hy=>h y (yN _ hy)) (λx c' e=>by
    cases q:x==n with
    | true=>
     rw[yJ,q] at e;have z:x=n:=by simpa using q
     rw[z,hc];exact e
    | false=>
     rw[yJ,q] at e;exact ha x c' e)
   refine⟨cl,?_,h2,λy hy hf=>?_,λx c' e=>?_⟩
   ·have ec:cellOf env n=pure c:=by unfold cellOf;rw[hc]
    rw[List.forIn_cons];simp[hk,ec];simpa using h1
   ·have hy':=zO.mp hy;rcases hy' with rfl|hy
    ·obtain⟨c',e⟩:=h4 n c (by simp);rw[e];exact(h2 _ _ e).symm
    ·exact h3 y hy hf
   ·refine h4 x (if x==n then c else c') ?_;cases q:x==n with
    | true=>simp[yJ,q]
    | false=>simp[yJ,q,e]
theorem FE (h:∀y∈sc.names,y.2=.free->∃c,env.cells.lookup y.1=some c):
  ∃cl,closureFor sc env=pure cl/\(∀x c,cl.lookup x=some c->env.cells.lookup x=some c)/\∀y∈sc.names,y.2=.free->cl.lookup y.1=env.cells.lookup y.1:=by
 obtain⟨cl,h1,h2,h3,_⟩:=HN sc.names [] h (λx c e=>by simp at e);refine⟨cl,?_,h2,h3⟩;unfold closureFor;simp only[bind_pure];exact h1
theorem HE {env:Env}:∀ {names:List (Str×NameKind)} {x:Str},names.lookup x=some .free->
  (names.map λ(n,k)=>if (k==NameKind.free&&env.scope.kind==.function&&env.kindOf n==some .cell) then (n,NameKind.cell) else (n,k)).lookup x=some .cell\/
  (names.map λ(n,k)=>if (k==NameKind.free&&env.scope.kind==.function&&env.kindOf n==some .cell) then (n,NameKind.cell) else (n,k)).lookup x=some .free
 | [],_,h=>by simp at h
 | (n,k)::r,x,h=>by
  have ih:=@HE env r x;rw[xQ];cases hx:x==n with
  | true=>
   rw[yJ,hx] at h;have hk:k=.free:=Option.some.inj h;subst hk;dsimp only;split
   ·left;simp[yJ,hx]
   ·right;simp[yJ,hx]
  | false=>
   rw[yJ,hx] at h;dsimp only;split
   ·simp only[yJ,hx];exact ih h
   ·simp only[yJ,hx];exact ih h
theorem Ha {env:Env}:∀ {names:List (Str×NameKind)} {x:Str},(∀y∈names,y.2≠.cell)->
  ((names.map λ(n,k)=>if (k==NameKind.free&&env.scope.kind==.function&&env.kindOf n==some .cell) then (n,NameKind.cell) else (n,k)).lookup x=some .cell\/
  (names.map λ(n,k)=>if (k==NameKind.free&&env.scope.kind==.function&&env.kindOf n==some .cell) then (n,NameKind.cell) else (n,k)).lookup x=some .free)->names.lookup x=some .free
 | [],_,_,h=>by simp at h
 | (n,k)::r,x,hc,h=>by
  have ih:=@Ha env r x λy hy=>hc y (yN _ hy)
  rw[xQ] at h;cases hx:x==n with
  | true=>
   rw[yJ,hx];dsimp only at h;split at h
   ·rename_i q;simp only[Bool.and_eq_true] at q;have hk:k=.free:=by simpa using q.1.1
    rw[hk]
   ·simp only[yJ,hx] at h;rcases h with h|h
    ·exact absurd (Option.some.inj h) (hc (n,k) yC)
    ·exact h
  | false=>
   rw[yJ,hx];dsimp only at h;split at h
   ·simp only[yJ,hx] at h;exact ih h
   ·simp only[yJ,hx] at h;exact ih h
abbrev Cx.comp (X:Cx)(sc:Scope)(N:List Str)(cl:List (Str×Addr))(C:Addr)(s0:Shared)(H0:Hp)(fp:List Addr)(pn:LA):Cx:=
 { X with N:=N,env:=compEnvC sc cl C X.env,s₀:=s0,H₀:=H0,outer:=X.stack,stack:=X.stack,ex:=fp,fn:=λ_=>false,pn:=pn,xe:=λ_ _=>False }
def Yy (caps:List Nat)(σ:St):St:=caps.map λj=>(σ[j]?).join
def YR (caps:List Nat)(dl:Ev):Ev:=caps.map λj=>(dl[j]?).join
def QC (caps:List Nat)(wi:TI)(tc:TT)(te:TE):TE:=λσ H Q=>wi σ H λJ H1=>∀D,H1 D=none->∃W:Nat->Nat->Hp->Prop,(∃m,W 0 m (upd H1 D (.lst [])))/\∀i m H,W i m H->
 (J.stop i H/\Q (.ref D) H)\/(J.go i H/\∀x H',J.yld i H x H'->tc (some x::Yy caps σ) H' λb H2=>if b=true then te (some x::Yy caps σ) H2 λy H3=>∃ys,H3 D=some (.lst ys)/\ys.length<sizeLine/\∃m',m'<m/\W (i+1) m' (upd H3 D (.lst (ys++[y])))
  else ∃m',m'<m/\W (i+1) m' H2)
def PTs (Y:Cx)(ifs:List Expr)(tc:TT):Prop:=∀(aA:LA)(s:Shared)(σ:St)(H:Hp)(Q:Bool->Hp->Prop),Inv Y aA σ H s->tc σ H Q->
 wpAny (model Y.prog Y.w) Y.A (forIn ifs true λc r=>if r=true then do let ok <- isTrue c Y.env (eval c Y.env);pure (ForInStep.yield ok) else pure (ForInStep.yield r)) (TP Y aA σ Q) Y.xe s
theorem Cv:PTs Y [] (λ_ H Q=>Q true H):=λ_ _ _ H _ I h=>wpAny_tests_nil ⟨H,I,h⟩
theorem He (h:PT Y c tc):PTs Y [c] tc:=λaA s σ H Q I q=>wpAny_tests_one (h aA s σ H Q I q)
section
variable {X:Cx}{aA:LA}{σ:St}{H:Hp}{s:Shared}
theorem zbe {sc:Scope}{x:Str}{N:List Str}{caps:List Nat}{cl:List (Str×Addr)}{fp:List Addr}{h1:Heap}{m:Str->Option Value}{tk:Nat}(I:Inv X aA σ H s)(cs:Vb sc X.env.scope x N)
  (hN:∀(j:Nat)(y:Str),N[j]?=some y->∃i,caps[j]?=some i/\X.N[i]?=some y)(aU:caps.length=N.length)
  (c1:∀x c,cl.lookup x=some c->X.env.cells.lookup x=some c)(c2:∀y∈sc.names,y.2=.free->cl.lookup y.1=X.env.cells.lookup y.1)
  (hf:∀b∈fp,Xb X aA H b)(hfo:∀b∈fp,b<s.heap.objs.size)(hns:h1.Ns s.heap.objs.size m)(hk:∀b o,s.heap.get? b=some o->h1.get? b=some o):
  Inv (Cx.comp X sc (x::N) cl s.heap.objs.size s H fp (X.pn++aA)) [] (none::Yy caps σ) H { s with heap:=h1,toks:=tk }:=by
 have stk:∀b∈frs X.stack,b=X.env.locals\/b∈X.fs:=λb hb=>zO.mp (I.stkSub b hb)
 refine⟨⟨I.ok.mod,cs.kind,I.ok.glob,I.ok.blt,zC _,λa b c h1 h2=>I.ok.inj a b c (c1 _ _ h1) (c1 _ _ h2),λy hy=>?_,λ_ _ z=>Bool.noConfusion z,I.ok.hd,I.ok.frames,.inl rfl,λb hb=>⟨zW (hfo b hb),λy c e=>(hf b hb).2.2.2.2.1 y c (c1 _ _ e)⟩,
  I.bs,yH I.ok.bsz I.sz,λb o e hb=>?_,λb hb z=>?_,I.stack,I.stkFree⟩,rfl,I.bare,Un.kept hk,⟨m,hns,λi y v e1 e2 e3=>?_⟩,λy c e=>?_,I.hok.fresh (zC _),λy c e=>I.freeC y c (c1 _ _ e),λp hp=>?_,I.hok.kept hk,?_⟩
 ·have hfr:sc.names.lookup y=some .free:=Ha cs.nocell hy
  have hm:=Qn hfr;obtain⟨c,e⟩:=I.ok.has y (.inl (cs.out _ hm rfl));exact⟨c,(c2 _ hm rfl).trans e⟩
 ·rcases (hf b hb).2.2.2.1 with z|z
  ·exact I.ok.noex b o e z
  ·exact absurd (yB (Heap.lt_size (I.ok.bs b o e).1) z) (yV _)
 ·rcases stk b z with z|z
  ·exact(hf b hb).2.1 z
  ·exact(hf b hb).2.2.1 z
 ·cases i with
  | zero=>simp at e2
  | succ i=>
   have e1':N[i]?=some y:=by simpa using e1
   obtain⟨j,hj,hy⟩:=hN i y e1';have e2':σ[j]?=some (some v):=by
    simp only[List.getElem?_cons_succ,Yy,zF,hj,Option.map_some,Option.some.injEq] at e2;cases q:σ[j]? with
    | none=>rw[q] at e2;cases e2
    | some o=>rw[q] at e2;simp at e2;rw[e2]
   have hfr:sc.names.lookup y=some .free:=cs.cap y (zJ e1')
   have hm:=Qn hfr
   have hce:X.env.scope.names.lookup y=some .cell:=cs.out _ hm rfl;obtain⟨m0,_,hl⟩:=I.loc;obtain⟨u,r,l⟩:=hl j y v hy e2' (.inr (.inl hce));refine⟨u,r,.inr ⟨HE hfr,?_⟩⟩;rcases l with ⟨k,_⟩|⟨_,c,ec,hcell⟩
   ·rw[show X.env.kindOf y=some .cell from hce] at k;cases k
   ·exact⟨c,(c2 _ hm rfl).trans ec,hcell.keeps hk⟩
 ·obtain⟨v,z⟩:=I.cell y c (c1 _ _ e);exact⟨v,z.keeps hk⟩
 ·have hp':p∈X.pn++aA:=by simpa using hp
  obtain⟨p1,p2,p3,p4,p5⟩:=I.pin p hp';refine⟨hk _ _ p1,p2,zW (Heap.lt_size p1),λz=>?_,p5⟩;rcases stk _ z with z|z
  ·exact p3 z
  ·exact p4 z
 ·simp[Yy,aU]
end
section
variable {X:Cx}{aZ aX:Expr}{x:Str}{px pos:Pos}{ifs:List Expr}{sc:Scope}{N:List Str}{caps:List Nat}{wi:TI}{tc:TT}{te:TE}
structure Gg (X:Cx)(aA:LA)(σ:St)(C:Addr)(Q:VK)(D:Addr)(s':Shared):Prop where
 q:∃H',Inv X aA σ H' s'/\Q (.ref D) H'/\H' C=none
 ns:∃m,s'.heap.Ns C m
 loc:C≠X.env.locals
 old:X.s₀.heap.objs.size<=C
 cell:∀x c,X.env.cells.lookup x=some c->c≠C
 pin:∀p∈X.pn++aA,p.1≠C
theorem Gy (hc:X.calm=true)(cs:Vb sc X.env.scope x N)(hN:∀(j:Nat)(y:Str),N[j]?=some y->∃i,caps[j]?=some i/\X.N[i]?=some y)(aU:caps.length=N.length)(hnd:(x::N).Nodup)(hi:PI X (.Name x px) aX wi)(ht:∀cl C s0 H0 fp pn,PTs (Cx.comp X sc (x::N) cl C s0 H0 fp pn) ifs tc)(he:∀cl C s0 H0 fp pn,PE (Cx.comp X sc (x::N) cl C s0 H0 fp pn) aZ te)(hs:∀y,foldedSetIterable aX X.env y=pure y)(I:Inv X aA σ H s)(h:QC caps wi tc te σ H Q)(bC:∀D C s',Gg X aA σ C Q D s'->compPost (model X.prog X.w) X.A X.xe use Qr (.ref D) C (.ok .next) s'):
  wpAny (model X.prog X.w) X.A (comprehension (.ListComp aZ [⟨.Name x px,aX,ifs,0⟩] sc pos) sc X.env p2 (newList []) false (eval aX X.env) use) Qr X.xe s:=by
 obtain⟨cl,k1,k2,k3⟩:=FE (sc:=sc) (env:=X.env) λy hy hf=>I.ok.has y.1 (.inl (cs.out y hy hf))
 refine wpAny_comprehension_free rfl hs k1 cs.kind cs.own (thn (hi aA s σ H _ I h) λv s1 h1=>thn h1 λitv s2 h2=>?_);obtain⟨it,fp,tn,J,H2,e,I2,T,st2,f2,body⟩:=h2;subst e;have hfo:∀b∈fp,b<s2.heap.objs.size:=λb hb=>by
  obtain⟨o,e,_⟩:=T.obj _ _ st2 b hb;exact Heap.lt_size e
 have hD:H2 s2.heap.objs.size=none:=I2.hok.fresh (zC _);obtain⟨W,⟨m0,w0⟩,turn⟩:=body _ hD;refine wpAny_newObj_type ?_;have I3:Inv X aA σ (upd H2 s2.heap.objs.size (.lst [])) { s2 with heap:=s2.heap.push { cls:=.type "list",dict:=none,data:=.seq ([]:List Value).toArray },toks:=s2.toks }:=
  I2.laid (t':=s2.toks) (λb u e=>Heap.get?_push_of_some _ e) (zC _) ⟨zL _,[],0,.nil,Heap.get?_push_size _ rfl⟩
 generalize hs3:({ s2 with heap:=s2.heap.push { cls:=.type "list",dict:=none,data:=.seq ([]:List Value).toArray },toks:=s2.toks }:Shared)=s3 at I3;have es3:({ s2 with heap:=s2.heap.push { cls:=.type "list",dict:=none,data:=.seq ([]:List Value).toArray } }:Shared)=s3:=hs3
 try rw[es3]
 have f3:∀b∈fp,Xb X aA (upd H2 s2.heap.objs.size (.lst [])) b:=λb hb=>⟨by rw[Yl (zW (hfo b hb))];exact(f2 b hb).1,(f2 b hb).2⟩
 have up3:∀b o,s2.heap.get? b=some o->s3.heap.get? b=some o:=λb o e=>by rw[<- hs3];exact Heap.get?_push_of_some _ e
 have st3:tn 0 s3.heap:=T.keep _ _ _ st2 λb _ o e=>up3 b o e
 have hfo3:∀b∈fp,b<s3.heap.objs.size:=λb hb=>by
  obtain⟨o,e,_⟩:=T.obj _ _ st3 b hb;exact Heap.lt_size e
 refine wpAny_newFunctionEnv cs.nocell (λy hy=>by simp at hy) (λh4 ns4 sb4=>?_) cs.kind;have hk4:∀b o,s3.heap.get? b=some o->h4.get? b=some o:=λb o e=>(sb4.2 b (zW (Heap.lt_size e))).trans (Heap.get?_push_of_some _ e)
 have I4:=zbe (tk:=s3.toks+([]:List (Str×Value)).length) I3 cs hN aU k2 k3 f3 hfo3 ns4 hk4;generalize hs4:({ s3 with heap:=h4,toks:=s3.toks+([]:List (Str×Value)).length }:Shared)=s4 at I4 ⊢;have eh4:s4.heap=h4:=by rw[<- hs4]
 have st4:tn 0 s4.heap:=by rw[eh4];exact T.keep _ _ _ st3 λb _ o e=>hk4 b o e
 have fY:∀ {H':Hp},(∀b∈fp,H' b=none)->∀b∈fp,Xb (Cx.comp X sc (x::N) cl s3.heap.objs.size s3 (upd H2 s2.heap.objs.size (.lst [])) fp (X.pn++aA)) [] H' b:=λhn b hb=>by
  obtain⟨_,z2,z3,z4,z5,z6⟩:=f3 b hb;refine⟨hn b hb,zW (hfo3 b hb),λz=>?_,.inl hb,λy c e=>z5 y c (k2 _ _ e),λp hp=>z6 p (by simpa using hp)⟩;rcases zO.mp (I3.stkSub b z) with z|z
  ·exact z2 z
  ·exact z3 z
 have locY:(Cx.comp X sc (x::N) cl s3.heap.objs.size s3 (upd H2 s2.heap.objs.size (.lst [])) fp (X.pn++aA)).env.scope.names.lookup x=some .local:=lookup_relabel_local cs.loc
 have loop:codeAny (model X.prog X.w) X.A (.compLoop (.ListComp aZ [⟨.Name x px,aX,ifs,0⟩] sc pos) 0 (.ref it) (.ref s2.heap.objs.size) (compEnvC sc cl s3.heap.objs.size X.env))
   (compPost (model X.prog X.w) X.A X.xe use Qr (.ref s2.heap.objs.size) s3.heap.objs.size) s4:=by
  refine codeAny_compLoop_tests (λn s'=>∃i o H',Inv (Cx.comp X sc (x::N) cl s3.heap.objs.size s3 (upd H2 s2.heap.objs.size (.lst [])) fp (X.pn++aA)) [] (o::Yy caps σ) H' s'/\tn i s'.heap/\(∀b∈fp,H' b=none)/\W i n H') ?_ m0
   ⟨0,none,_,I4,st4,λb hb=>(f3 b hb).1,w0⟩
  rintro n s5 ⟨i,o,H5,I5,st5,fr5,w5⟩;rcases turn i n H5 w5 with ⟨stop,q⟩|⟨go,step⟩
  ·refine thn (T.done (Cx.comp X sc (x::N) cl s3.heap.objs.size s3 (upd H2 s2.heap.objs.size (.lst [])) fp (X.pn++aA)) rfl rfl rfl hc i [] s5 _ H5 _ I5 (fY fr5) st5 stop) λr s6 ⟨hr,I6⟩=>?_
   subst hr;refine bC _ _ _ ⟨⟨H5,I3.call' I6.os I6.base I6.hok I6.bare (λb hb=>?_),q,I6.free⟩,?_,Nat.ne_of_gt I3.lt,I3.sz,λy c e z=>?_,λp hp z=>?_⟩
   ·obtain⟨_,z2,z3,z4,z5,z6⟩:=f3 b hb;exact⟨z4,z2,z5,z6⟩
   ·obtain⟨m,hm,_⟩:=I6.loc;exact⟨m,hm⟩
   ·obtain⟨v,hv⟩:=I3.cell y c e;exact absurd (z ▸ hv.lt) (yV _)
   ·exact absurd (z ▸ Heap.lt_size (I3.pin p hp).1) (yV _)
  ·refine thn (T.item (Cx.comp X sc (x::N) cl s3.heap.objs.size s3 (upd H2 s2.heap.objs.size (.lst [])) fp (X.pn++aA)) rfl rfl rfl hc i [] s5 _ H5 _ I5 (fY fr5) st5 go) λr s6 ⟨u,hr,h6⟩=>?_
   subst hr;show wpAny _ _ (letOwnedTupleGo (.Name x px) (.ref it) u >>= λ_=>assign (.Name x px) (compEnvC sc cl s3.heap.objs.size X.env) u) _ _ s6;refine wpAny_bind (thn h6 λ_ s7 ⟨y,H7,I7,r7,y7,st7,fr7⟩=>?_);have I7':=I7.pinned (fY fr7) (T.obj _ _ st7);refine wpAny_mono (UX (X:=Cx.comp X sc (x::N) cl s3.heap.objs.size s3 (upd H2 s2.heap.objs.size (.lst [])) fp (X.pn++aA)) (pos:=px) hnd (i:=0) rfl (.inl locY) (.inr locY) _ s7 _ H7 y u (λσ8 H8=>σ8=some y::Yy caps σ/\H8=H7) I7' r7 ⟨rfl,rfl⟩) (λ_ s8 ⟨σ8,H8,I8,e8,e8'⟩=>?_) λ_ _ z=>z.elim
   subst e8;subst e8';have stay:∀ {H':Hp} {s':Shared},Inv (Cx.comp X sc (x::N) cl s3.heap.objs.size s3 (upd H2 s2.heap.objs.size (.lst [])) fp (X.pn++aA)) ([]++Tt fp s7.heap) (some y::Yy caps σ) H' s'->∀m',m'<n->W (i+1) m' H'->
     ∃m,m<n/\∃i o H',Inv (Cx.comp X sc (x::N) cl s3.heap.objs.size s3 (upd H2 s2.heap.objs.size (.lst [])) fp (X.pn++aA)) [] (o::Yy caps σ) H' s'/\tn i s'.heap/\(∀b∈fp,H' b=none)/\W i m H':=λ{H' s'} J m' hm w'=>by
    refine⟨m',hm,i+1,some y,H',J.unpinned,T.keep _ _ _ st7 λb hb o e=>(J.pin (b,o) (yW _ (yW _ (UJ hb e)))).1,λb hb=>?_,w'⟩;obtain⟨o,e,d⟩:=T.obj _ _ st7 b hb;exact(J.pin (b,o) (yW _ (yW _ (UJ hb e)))).2.1
   refine wpAny_mono (ht _ _ _ _ _ _ _ s8 _ H8 _ I8 (step y H8 y7)) (λb s9 ⟨H9,I9,q9⟩=>?_) λ_ _ z=>z.elim
   cases b with
   | false=>
    rw[if_neg zX] at q9 ⊢;obtain⟨m',hm,w9⟩:=q9;exact stay I9 m' hm w9
   | true=>
    rw[if_pos rfl] at q9 ⊢;refine wpAny_mono (he _ _ _ _ _ _ _ s9 _ H9 _ I9 q9) (λu2 s10 ⟨z,H10,I10,r10,q10⟩=>?_) λ_ _ z=>z.elim
    obtain⟨ys,hD10,hlt,m',hm,w10⟩:=q10;refine wpAny_mono (J0 (X:=(Cx.comp X sc (x::N) cl s3.heap.objs.size s3 (upd H2 s2.heap.objs.size (.lst [])) fp (X.pn++aA))) _ s10 _ H10 (.ref s2.heap.objs.size) [z] (.ref s2.heap.objs.size) [u2] (λ_ H'=>H'=upd H10 s2.heap.objs.size (.lst (ys++[z]))) I10 rfl (.cons r10 .nil) ⟨_,ys,z,rfl,rfl,hD10,hlt,rfl⟩) (λ_ s11 ⟨_,H11,I11,_,e11⟩=>?_) λ_ _ z=>z.elim
    subst e11;exact stay I11 m' hm w10
 exact codeAny_compStart_list loop (T.self _ 0 s4 _ _ st4 loop)
theorem Vy (h:caps.map (λi=>X.N[i]?)=N.map some):(∀(j:Nat)(y:Str),N[j]?=some y->∃i,caps[j]?=some i/\X.N[i]?=some y)/\caps.length=N.length:=by
 refine⟨λj y e=>?_,by simpa using congrArg List.length h⟩;have z:(caps.map (λi=>X.N[i]?))[j]?=some (some y):=by rw[h,zF,e];rfl
 rw[zF] at z;cases q:caps[j]? with
 | none=>rw[q] at z;cases z
 | some i=>rw[q] at z;exact⟨i,rfl,by simpa using z⟩
theorem EL (hc:X.calm=true)(cs:Vb sc X.env.scope x N)(hN:caps.map (λi=>X.N[i]?)=N.map some)(hnd:(x::N).Nodup)
  (hi:PI X (.Name x px) aX wi)(ht:∀cl C s0 H0 fp pn,PTs (Cx.comp X sc (x::N) cl C s0 H0 fp pn) ifs tc)(he:∀cl C s0 H0 fp pn,PE (Cx.comp X sc (x::N) cl C s0 H0 fp pn) aZ te)
  (hs:∀y,foldedSetIterable aX X.env y=pure y:=by intro _;rfl):PE X (.ListComp aZ [⟨.Name x px,aX,ifs,0⟩] sc pos) (QC caps wi tc te):=by
 intro aA s σ H Q I h;rw[eval_ListComp];refine Gy (use:=none) hc cs (Vy hN).1 (Vy hN).2 hnd hi ht he hs I h λD C s' f=>?_
 obtain⟨⟨H',I',q,hC⟩,⟨m,ns⟩,l,o,c,p⟩:=f;exact⟨m,ns,λh' sb=>⟨.ref D,H',I'.turned (t':=s'.toks) (λb ob hb e=>(sb.2 b hb).trans e) hC l (.inr o) c p,rfl,q⟩⟩
theorem FC (hc:X.calm=true)(cs:Vb sc X.env.scope x N)(hN:caps.map (λi=>X.N[i]?)=N.map some)(hnd:(x::N).Nodup)(hi:PI X (.Name x px) aX wi)(ht:∀cl C s0 H0 fp pn,PTs (Cx.comp X sc (x::N) cl C s0 H0 fp pn) ifs tc)(he:∀cl C s0 H0 fp pn,PE (Cx.comp X sc (x::N) cl C s0 H0 fp pn) aZ te)(hNd:X.N.Nodup)(hy:X.N[i]?=some y)(hl:X.env.scope.names.lookup y=some .local)(hsw:swapsWith (.ListComp aZ [⟨.Name x px,aX,ifs,0⟩] sc pos) (some (.Name y py)) spos.line X.env=pure true)(hs:∀y,foldedSetIterable aX X.env y=pure y:=by intro _;rfl):PS X (.Assign [.Name y py] (.ListComp aZ [⟨.Name x px,aX,ifs,0⟩] sc pos) spos) (λE σ H=>QC caps wi tc te σ H λv H1=>E.nx (σ.set i (some v)) H1):=by
 intro aA s σ H E I h;rw[exec_Assign_Name_used (hs:=hsw)];refine wpAny_bind (wpAny_standAt ?_);refine wpAny_bind ?_;show wpAny _ _ (comprehension _ sc X.env _ (newList []) false (eval aX X.env) (some (assign (.Name y py) X.env)) >>= λ_=>pure ()) _ _ s
 refine wpAny_bind (thn (Gy (use:=some (assign (.Name y py) X.env)) (Qr:=λ_ s'=>SP X aA E .next s') hc cs (Vy hN).1 (Vy hN).2 hnd hi ht he hs I h λD C s' f=>?_) λ_ s' hq=>wpAny_pure (wpAny_pure hq));obtain⟨⟨H',I',q,hC⟩,⟨m,ns⟩,l,o,c,p⟩:=f;refine wpAny_assign_Name (Hc (v:=.ref D) I' hNd hy (.inl hl) rfl (λs'' I'' ⟨a,sb,ha⟩=>⟨m,ns.sameBut sb ?_,λh' sb'=>⟨_,H',I''.turned (t':=s''.toks) (λb ob hb e=>(sb'.2 b hb).trans e) hC l (.inr o) c p,q⟩⟩) (.inr hl));rcases ha with rfl|ha
 ·exact l
 ·exact Ne.symm (c _ _ ha)
end
section
variable {X:Cx}{Z:Zx}{aZ aX:Expr}{x:Str}{px pos:Pos}{ifs:List Expr}{sc ar:Scope}{N:List Str}{caps:List Nat}
theorem Gp {r:List Addr}{H:Hp}{dl:Ev}{σ:St}{d:D}{v:V}(h:Rs r H dl σ)(p:Rp r H d v):Rs r H (some d::YR caps dl) (some v::Yy caps σ):=by
 refine⟨by simp[YR,Yy],λi e hi=>?_⟩;cases i with
 | zero=>simp at hi;subst hi;exact⟨v,rfl,p⟩
 | succ i=>
  simp only[List.getElem?_cons_succ,YR,zF] at hi;cases q:caps[i]? with
  | none=>rw[q] at hi;cases hi
  | some j=>
   rw[q] at hi;simp only[Option.map_some,Option.some.injEq] at hi;have hj:dl[j]?=some (some e):=by
    cases q2:dl[j]? with
    | none=>rw[q2] at hi;cases hi
    | some o=>rw[q2] at hi;simp at hi;rw[hi]
   obtain⟨w,h1,h2⟩:=h.2 j e hj;refine⟨w,?_,h2⟩;simp only[List.getElem?_cons_succ,Yy,zF,q,Option.map_some,h1,Option.join_some]
def UO (Y:Cx)(ifs:List Expr)(t:TDT):Prop:=PTs Y ifs (upT Y.K Z0 t)
def XH:TDT:=λ_ S Q=>Q true S
theorem YE:UO Y [] XH:=λaA s σ H Qb I ⟨r,dl,S,Q,rs,bD,q,ret⟩=>Cv aA s σ H Qb I (ret true H r S Ext.refl bD q)
theorem GL (h:PDT Y Z0 c t):UO Y [c] t:=He h
def Wy (caps:List Nat)(tc:TDT)(te:TDE)(k:Nat)(dl:Ev)(d:D)(S:Sto)(nx:Sto->Prop):Prop:=
 tc (some d::YR caps dl) S λb S1=>if b=true then te (some d::YR caps dl) S1 λy S2=>match S2[k]? with
  | some (.lst ys)=>ys.length<1000/\nx (S2.set k (.lst (ys++[y])))
  | _=>False
 else nx S1
@[irreducible] def Wb (caps:List Nat)(tl:TDE)(tc:TDT)(te:TDE):TDE:=λdl S Q=>tl dl S λd S1=>match d with
 | .ref n=>(lAt S1 n).isSome=true/\∃W:Nat->Nat->Sto->Prop,(∃m,W 0 m (S1++[.lst []]))/\∀k m S2,W k m S2->match lAt S2 n with
  | some o=>match (Zs o)[k]? with
   | some y=>Wy caps tc te S1.length dl y S2 λS3=>∃m',m'<m/\W (k+1) m' S3
   | none=>Q (.ref S1.length) S2
  | none=>False
 | _=>False
@[irreducible] def Ww (caps:List Nat)(ta:TDA)(tc:TDT)(te:TDE):TDE:=λdl S Q=>ta dl S λds S1=>match ds with
 | [.int j]=>(-(2^62)<=j/\j<2^62)/\∃W:Nat->Sto->Prop,W 0 (S1++[.lst []])/\∀k S2,W k S2->
   if k<j.toNat then Wy caps tc te S1.length dl (.int k) S2 λS3=>W (k+1) S3 else Q (.ref S1.length) S2
 | _=>False
theorem Ek {tc:TDT}{te:TDE}{r2:List Addr}{H2:Hp}{S1 S2:Sto}{dl:Ev}{σ:St}{D0:Addr}{d:D}{v:V}{nx:Sto->Prop}{Nx:Hp->Prop}(rs:Rs r2 H2 dl σ)(ha:r2[S1.length]?=some D0)(rb:Yh X.K r2 S2 H2)(p:Rp r2 H2 d v)
  (h:Wy caps tc te S1.length dl d S2 nx)(hn:∀r' S' H',Ext r2 r' H2 H'->Yh X.K r' S' H'->nx S'->Nx H'):
  upT X.K Z0 tc (some v::Yy caps σ) H2 λb H3=>if b=true then up X.K Z0 te (some v::Yy caps σ) H3 λy H4=>∃ys,H4 D0=some (.lst ys)/\ys.length<sizeLine/\Nx (upd H4 D0 (.lst (ys++[y]))) else Nx H3:=by
 have rsY:Rs r2 H2 (some d::YR caps dl) (some v::Yy caps σ):=Gp rs p;refine⟨r2,_,S2,_,rsY,⟨rb,λ_ _ _ _ _ _ _ _ _ z=>z.elim⟩,h,λb H3 r3 S3 x3 aH q3=>?_⟩;cases b with
 | false=>rw[if_neg zX] at q3 ⊢;exact hn r3 S3 H3 x3 aH.b q3
 | true=>
  rw[if_pos rfl] at q3 ⊢;refine⟨r3,_,S3,_,rsY.ext x3,aH,q3,λz H4 r4 dz S4 x4 aJ p4 q4=>?_⟩;split at q4
  ·rename_i ys eys;obtain⟨hl,q4⟩:=q4;have ha4:r4[S1.length]?=some D0:=x4.adr _ _ (x3.adr _ _ ha);obtain⟨zs,hD4,pz⟩:=aJ.b.ob _ _ _ ha4 eys;obtain⟨rel5,x5⟩:=aJ.b.set ha4 eys (pz.snoc p4);exact⟨zs,hD4,by rw[<- pz.1];exact Su (xG hl),hn r4 _ _ (x3.trans (x4.trans x5)) rel5 q4⟩
  ·exact q4.elim
theorem Q3 (h:r.length=n):(r++[D0])[n]?=some D0:=by subst h;simp
theorem Fv {tl:TDE}{tc:TDT}{te:TDE}{σ:St}{H:Hp}{Qv:VK}(h:up X.K Z (Wb caps tl tc te) σ H Qv):QC caps (Et X.K (up X.K Z tl)) (upT X.K Z0 tc) (up X.K Z0 te) σ H Qv:=by
 obtain⟨r,dl,S,Q,rs,bD,h,ret⟩:=h;unfold Wb at h;refine⟨r,dl,S,_,rs,bD,h,λv H1 r1 d S1 x1 aF p1 q1=>?_⟩;cases p1 with
 | @ref n a hn=>
  obtain⟨aW,W,⟨m0,w0⟩,turn⟩:=q1;have sql:∀ {r':List Addr} {S':Sto} {H':Hp} {o:Ob},Ext r1 r' H1 H'->Yh X.K r' S' H'->lAt S' n=some o->∃xs,SqL X.K H' a xs/\Rps r' H' (Zs o) xs:=λ{r' S' H' o} x' rel' eo=>by
   obtain⟨eo,eL⟩:=YL eo;obtain⟨a',ha,ob⟩:=rel'.at eo;rw[x'.adr n a hn] at ha;cases ha
   exact ob.list eL
  obtain⟨o1,eo1⟩:=xF.mp aW;obtain⟨xs1,sq1,_⟩:=sql Ext.refl aF.b eo1;refine⟨a,rfl,⟨xs1,sq1⟩,λD0 hD=>?_⟩;obtain⟨aG,x2⟩:=aF.b.push (ds:=[]) (xs:=[]) hD Rps.nil;refine⟨λk m H'=>∃r' S',Ext (r1++[D0]) r' (upd H1 D0 (.lst [])) H'/\Yh X.K r' S' H'/\W k m S',⟨m0,_,_,Ext.refl,aG,w0⟩,?_⟩;rintro k m H2 ⟨r2,S2,x3,rb2,w2⟩;have ha2:r2[S1.length]?=some D0:=x3.adr _ _ (Q3 aF.len)
  have q:=turn k m S2 w2;split at q
  ·rename_i o eo;obtain⟨xs,sq,pr⟩:=sql (x2.trans x3) rb2 eo;split at q
   ·rename_i y ey;obtain⟨v,hv,pv⟩:=pr.get ey;refine .inr ⟨⟨xs,v,sq,hv⟩,λv' H' y'=>?_⟩;obtain⟨eH,y'⟩:=y';subst eH;have ev:v'=v:=by
     have z:=y' xs sq;rw[hv] at z;exact(Option.some.inj z).symm
    subst ev;have z:=Ek (Nx:=λH'=>∃m',m'<m/\∃r' S',Ext (r1++[D0]) r' (upd H1 D0 (.lst [])) H'/\Yh X.K r' S' H'/\W (k+1) m' S') (rs.ext (x1.trans (x2.trans x3))) ha2 rb2 pv q λr' S' H' x' rb' ⟨m',hm,w'⟩=>⟨m',hm,r',S',x3.trans x',rb',w'⟩
    exact z
   ·rename_i ey;have aU:(Zs o).length<=k:=yY.mp ey;exact .inl ⟨⟨xs,sq,by rw[<- pr.1];exact aU⟩,ret _ H2 r2 _ S2 (x1.trans (x2.trans x3)) ⟨rb2,bD.xw.ext (x1.trans (x2.trans x3))⟩ (.ref ha2) q⟩
  ·exact q.elim
 | _=>exact(show False from q1).elim
theorem HZ {ta:TDA}{tc:TDT}{te:TDE}{σ:St}{H:Hp}{Qv:VK}(h:up X.K Z (Ww caps ta tc te) σ H Qv):QC caps (Fo (upA X.K Z ta)) (upT X.K Z0 tc) (up X.K Z0 te) σ H Qv:=by
 obtain⟨r,dl,S,Q,rs,bD,h,ret⟩:=h;unfold Ww at h;refine⟨r,dl,S,_,rs,bD,h,λvs H1 r1 ds S1 x1 aF p1 q1=>?_⟩;split at q1
 ·rename_i j;obtain⟨v,vs',rfl,p2,p3⟩:=p1.uncons;have z:=p3.unnil;subst z;cases p2;obtain⟨⟨b1,b2⟩,W,w0,turn⟩:=q1;refine⟨j,rfl,b1,b2,λD0 hD=>?_⟩;obtain⟨aG,x2⟩:=aF.b.push (ds:=[]) (xs:=[]) hD Rps.nil;refine⟨λk m H'=>m=j.toNat-k/\∃r' S',Ext (r1++[D0]) r' (upd H1 D0 (.lst [])) H'/\Yh X.K r' S' H'/\W k S',⟨j.toNat,by simp,_,_,Ext.refl,aG,w0⟩,?_⟩;rintro k m H2 ⟨em,r2,S2,x3,rb2,w2⟩;have ha2:r2[S1.length]?=some D0:=x3.adr _ _ (Q3 aF.len)
  have q:=turn k S2 w2;split at q
  ·rename_i hk;refine .inr ⟨hk,λv' H' y'=>?_⟩;obtain⟨eH,y'⟩:=y';subst eH;subst y';have pk:Rp r2 H' (.int (k:Int)) (.int (0+(k:Int))):=by rw[Int.zero_add];exact .int _
   have z:=Ek (Nx:=λH'=>∃m',m'<m/\m'=j.toNat-(k+1)/\∃r' S',Ext (r1++[D0]) r' (upd H1 D0 (.lst [])) H'/\Yh X.K r' S' H'/\W (k+1) S') (rs.ext (x1.trans (x2.trans x3))) ha2 rb2 pk q
    λr' S' H' x' rb' w'=>⟨j.toNat-(k+1),by omega,rfl,r',S',x3.trans x',rb',w'⟩
   exact z
  ·rename_i hk;exact .inl ⟨by show j.toNat<=k;omega,ret _ H2 r2 _ S2 (x1.trans (x2.trans x3)) ⟨rb2,bD.xw.ext (x1.trans (x2.trans x3))⟩ (.ref ha2) q⟩
 ·exact q1.elim
theorem Wk (har:X.env.scope=ar)(hc:X.calm=true)(cs:Vb sc ar x N)(hN:caps.map (λi=>X.N[i]?)=N.map some)(hnd:(x::N).Nodup)(hl:PD X Z aX tl)(ht:∀cl C s0 H0 fp pn,UO (Cx.comp X sc (x::N) cl C s0 H0 fp pn) ifs tc)(he:∀cl C s0 H0 fp pn,PD (Cx.comp X sc (x::N) cl C s0 H0 fp pn) Z0 aZ te)(hs:∀y,foldedSetIterable aX X.env y=pure y:=by intro _;rfl):PD X Z (.ListComp aZ [⟨.Name x px,aX,ifs,0⟩] sc pos) (Wb caps tl tc te):=by
 subst har;exact Yw (EL hc cs hN hnd (tc:=upT X.K Z0 tc) (te:=up X.K Z0 te) (PC hl) ht he hs) λ_ _ _ h=>Fv h
theorem I0 (har:X.env.scope=ar)(hc:X.calm=true)(cs:Vb sc ar x N)(hN:caps.map (λi=>X.N[i]?)=N.map some)(hnd:(x::N).Nodup)(hg:Gl X "range")(hm:X.mg "range"=none)(ha:PDA X Z [a] ta)(ht:∀cl C s0 H0 fp pn,UO (Cx.comp X sc (x::N) cl C s0 H0 fp pn) ifs tc)(he:∀cl C s0 H0 fp pn,PD (Cx.comp X sc (x::N) cl C s0 H0 fp pn) Z0 aZ te)(hs:∀y,foldedSetIterable (.Call (.Name "range" p) [a] [] aQ) X.env y=pure y:=by intro _;rfl)(hst:starEach [a] X.env=[(false,eval a X.env)]:=by rfl):
  PD X Z (.ListComp aZ [⟨.Name x px,.Call (.Name "range" p) [a] [] aQ,ifs,0⟩] sc pos) (Ww caps ta tc te):=by
 subst har;exact Yw (EL hc cs hN hnd (tc:=upT X.K Z0 tc) (te:=up X.K Z0 te) (KN hg hm ha hst) ht he hs) λ_ _ _ h=>HZ h
theorem Ht {t:TE}{td:TDE}{i:Nat}{F:Us}{σ:St}{H:Hp}(imp:∀Qv,up X.K Z td σ H Qv->t σ H Qv)(h:upS X.K Z (λE dl S=>td dl S λd S1=>E.nx (dl.set i (some d)) S1) F σ H):t σ H λv H1=>F.nx (σ.set i (some v)) H1:=by
 obtain⟨r,dl,S,E,rs,bD,h,ret⟩:=h;exact imp _ ⟨r,dl,S,_,rs,bD,h,λv H1 r1 d S1 x aF p q=>ret.nx _ H1 r1 _ S1 x ((rs.ext x).set i p) aF q⟩
theorem T8 {tl:TDE}{tc:TDT}{te:TDE}{i:Nat}{y:Str}{py spos:Pos}(har:X.env.scope=ar)(hc:X.calm=true)(cs:Vb sc ar x N)(hN:caps.map (λi=>X.N[i]?)=N.map some)(hnd:(x::N).Nodup)(hNd:X.N.Nodup)(hy:X.N[i]?=some y)(hlo:ar.names.lookup y=some .local)
  (hl:PD X Z aX tl)(ht:∀cl C s0 H0 fp pn,UO (Cx.comp X sc (x::N) cl C s0 H0 fp pn) ifs tc)(he:∀cl C s0 H0 fp pn,PD (Cx.comp X sc (x::N) cl C s0 H0 fp pn) Z0 aZ te)
  (hsw:swapsWith (.ListComp aZ [⟨.Name x px,aX,ifs,0⟩] sc pos) (some (.Name y py)) spos.line X.env=pure true:=by rfl)
  (hs:∀y,foldedSetIterable aX X.env y=pure y:=by intro _;rfl):PDS X Z (.Assign [.Name y py] (.ListComp aZ [⟨.Name x px,aX,ifs,0⟩] sc pos) spos) (Sn i (Wb caps tl tc te)):=by
 subst har;exact YO (FC hc cs hN hnd (tc:=upT X.K Z0 tc) (te:=up X.K Z0 te) (PC hl) ht he hNd hy hlo hsw hs) λF σ H h=>Ht (λ_ h=>Fv h) h
theorem Qj {ta:TDA}{tc:TDT}{te:TDE}{a:Expr}{p aQ:Pos}{i:Nat}{y:Str}{py spos:Pos}(har:X.env.scope=ar)(hc:X.calm=true)(cs:Vb sc ar x N)(hN:caps.map (λi=>X.N[i]?)=N.map some)(hnd:(x::N).Nodup)(hNd:X.N.Nodup)(hy:X.N[i]?=some y)
  (hlo:ar.names.lookup y=some .local)(hg:Gl X "range")(hm:X.mg "range"=none)(ha:PDA X Z [a] ta)
  (ht:∀cl C s0 H0 fp pn,UO (Cx.comp X sc (x::N) cl C s0 H0 fp pn) ifs tc)(he:∀cl C s0 H0 fp pn,PD (Cx.comp X sc (x::N) cl C s0 H0 fp pn) Z0 aZ te)
  (hsw:swapsWith (.ListComp aZ [⟨.Name x px,.Call (.Name "range" p) [a] [] aQ,ifs,0⟩] sc pos) (some (.Name y py)) spos.line X.env=pure true:=by rfl)
  (hs:∀y,foldedSetIterable (.Call (.Name "range" p) [a] [] aQ) X.env y=pure y:=by intro _;rfl)(hst:starEach [a] X.env=[(false,eval a X.env)]:=by rfl):
  PDS X Z (.Assign [.Name y py] (.ListComp aZ [⟨.Name x px,.Call (.Name "range" p) [a] [] aQ,ifs,0⟩] sc pos) spos) (Sn i (Ww caps ta tc te)):=by
 subst har;exact YO (FC hc cs hN hnd (tc:=upT X.K Z0 tc) (te:=up X.K Z0 te) (KN hg hm ha hst) ht he hNd hy hlo hsw hs) λF σ H h=>Ht (λ_ h=>HZ h) h
@[irreducible] def UK (to te:TDE):TDE:=λdl S Q=>to dl S λx S1=>match x with
 | .ref n=>match S1[n]? with
  | some (.lst _)=>te dl S1 λy S2=>match S2[n]? with
   | some (.lst xs)=>if xs.length<1000 then Q .non (S2.set n (.lst (xs++[y]))) else False
   | _=>False
  | _=>False
 | _=>False
theorem YD (ho:PD X Z o to)(he:PD X Z e te)(hbase:attributeBase o "append" X.env (eval o X.env)=eval o X.env:=by rfl)(hfew:((backTo aM (starEach [e] X.env)).all (λx=>!x.1)&&(backToKw aM (keywordEach [] X.env)).all (λx=>x.1.isSome)
  &&decide (([e]:List Expr).length+([]:List Keyword).length+(if ([]:List Keyword).isEmpty then 0 else 1)<30))=true:=by rfl)(hline:(aO.endLine==aM.line)=true:=by rfl)(hst:starEach [e] X.env=[(false,eval e X.env)]:=by rfl):
  PD X Z (.Call (.Attribute o "append" aO) [e] [] aM) (UK to te):=
 Yw (EF PySem.F.plainAttrs_list PySem.F.slot_list_append PySem.F.type_list_append J0 ho (SN he MG hst) hbase hfew hline hst rfl) λσ H Qv h=>by
  obtain⟨r,dl,S,Q,rs,bD,h,ret⟩:=h;unfold UK at h;refine⟨r,dl,S,_,rs,bD,h,λv H1 r1 d S1 x1 aF p1 h1=>?_⟩;cases p1 with
  | @ref n a hn=>
   dsimp only at h1;split at h1
   ·rename_i xs0 e0;obtain⟨a',ha,ob⟩:=aF.at e0;rw[hn] at ha;cases ha
    obtain⟨ys,hH,_⟩:=ob;refine⟨.inl ⟨rfl,ys,SqL.of hH⟩,r1,dl,S1,_,rs.ext x1,aF,h1,λv2 H2 r2 d2 S2 x2 aG p2 h2=>?_⟩;split at h2
    ·rename_i xs1 e1;obtain⟨hlt,h2⟩:=NY h2;have ha2:=x2.adr n a hn;obtain⟨zs,hH2,pz⟩:=aG.b.ob n a _ ha2 e1;obtain⟨aH,x3⟩:=aG.set ha2 e1 (pz.snoc p2);exact⟨a,zs,v2,rfl,rfl,hH2,by rw[<- pz.1];exact Su (xG hlt),ret .non _ r2 .non _ (x1.trans (x2.trans x3)) aH .non h2⟩
    ·exact h2.elim
   ·exact h1.elim
  | _=>exact(show False from h1).elim
def Nm:WC:=λds S Q=>match ds with
 | [.tup xs]=>Q (.ref S.length) (S++[.lst xs])
 | [.ref n]=>match lAt S n with
  | some o=>Q (.ref S.length) (S++[.lst (Zs o)])
  | none=>False
 | _=>False
theorem Tc:Yt X (.type "list") (upC X.K Z Nm):=Od Bq λxs H Qv ⟨r,S,ds,Q,bD,ps,q,ret⟩=>by
 unfold Nm at q;split at q
 ·rename_i ys;obtain⟨v,vs,rfl,p1,p2⟩:=ps.uncons;have z:=p2.unnil;subst z;obtain⟨a,zs,rfl,h1,h2⟩:=p1.untup;refine⟨a,zs,rfl,.inr (SqT.of h1),λl hl=>?_⟩;obtain⟨aG,x⟩:=bD.push hl h2;exact ret _ _ _ (.ref S.length) _ x aG (VE bD.len) q
 ·rename_i n;obtain⟨v,vs,rfl,p1,p2⟩:=ps.uncons;have z:=p2.unnil;subst z;split at q
  ·rename_i o eo;obtain⟨eo,eL⟩:=YL eo;obtain⟨a,ha,ob⟩:=bD.at eo;cases p1 with
   | ref h1=>
    rw[h1] at ha;cases ha
    obtain⟨ys,sq,pr⟩:=ob.list eL;refine⟨_,ys,rfl,.inl sq,λl hl=>?_⟩;obtain⟨aG,x⟩:=bD.push hl pr;exact ret _ _ _ (.ref S.length) _ x aG (VE bD.len) q
  ·exact q.elim
 ·exact q.elim
def YX:List D->Option (List Bool)
 | []=>some []
 | .bl b::r=>(YX r).map (b::·)
 | _::_=>none
def SR (g:List Bool->Bool):WC:=λds S Q=>match ds with
 | [.ref n]=>match lAt S n with
  | some o=>match YX (Zs o) with
   | some bs=>Q (.bl (g bs)) S
   | none=>False
  | none=>False
 | _=>False
theorem EJ {r:List Addr}{H:Hp}:∀ {ds:List D} {bs:List Bool} {vs:List V} {us:List Value},YX ds=some bs->Rps r H ds vs->ZI vs us->us=bs.map Value.bool
 | [],bs,vs,us,e,p,q=>by
  have z:=p.unnil;subst z;cases q;simp[YX] at e;subst e;rfl
 | d::ds,bs,vs,us,e,p,q=>by
  obtain⟨v,vs',rfl,p1,p2⟩:=p.uncons;cases d with
  | bl b=>
   cases p1;cases q with
   | cons q1 q2=>
    have q1':_=Value.bool b:=q1;subst q1';simp only[YX,zS] at e;obtain⟨ms,e1,rfl⟩:=e;rw[EJ e1 p2 q2];rfl
  | _=>simp[YX] at e
theorem zai {bs:List Bool}:(List.range bs.length).all (λi=>bs.getD i false)=bs.all id:=by
 rw[xY];rw[xS,xS];refine⟨λh b hb=>?_,λh i hi=>?_⟩
 ·obtain⟨i,hi,e⟩:=xE.mp hb;have hb':=h i (List.mem_range.mpr hi);simpa [hi,e] using hb'
 ·have hi':i<bs.length:=List.mem_range.mp hi
  have:=h bs[i] (yI hi');simpa [hi'] using this
theorem B9 {prog:Program}{w:World}{A:Around}{bs:List Bool}:TruthOf prog w A (λi v=>(bs.map Value.bool).toArray[i]?=some v) λi=>bs.getD i false:=λi v s Q E hP hQ=>by
  have e:(bs.map Value.bool)[i]?=some v:=by simpa using hP
  rw[zF] at e;cases q:bs[i]? with
  | none=>
   rw[q] at e;cases e
  | some b=>
    rw[q] at e;have z:Value.bool b=v:=by simpa using e
    subst z;have z2:bs.getD i false=b:=by simp[zK,q]
    have hQ':Q (bs.getD i false) s:=hQ;rw[z2] at hQ';exact wpAny_truthy_bool hQ'
theorem zdd {n:Nat}{a:Addr}{o:Ob}{bs:List Bool}{aA:LA}{σ:St}{H:Hp}{s:Shared}{r:List Addr}{S:Sto}{Q:DK}{Qv:VK}{E:Value->Shared->Prop}{g:List Bool->Bool}(G:List Nat->(Nat->Bool)->Bool)
  (hG:G (List.range bs.length) (λi=>bs.getD i false)=g bs)(hc:X.calm=true)(I:Inv X aA σ H s)(bD:Rel X.K Z r S H)(hn:r[n]?=some a)(eo:lAt S n=some o)(eb:YX (Zs o)=some bs)(q:Q (.bl (g bs)) S)(ret:Ret X.K Z r H Q Qv):
  wpAny (model X.prog X.w) X.A.in1 (pyIter (.ref a)) (λit s₂=>∃I fp wr n P' St tr,it=.ref I/\Walks X.prog X.w X.A.in1 I fp wr n P' St/\St 0 s₂.heap/\TruthOf X.prog X.w X.A.in1 P' tr/\
   ∀h' tk,(∀b o,b ∉ wr->s₂.heap.get? b=some o->h'.get? b=some o)->EP X aA σ Qv (.bool (G (List.range n) tr)) { s₂ with heap:=h',toks:=tk }) E s:=by
 obtain⟨eo,eL⟩:=YL eo;obtain⟨a',ha,ob⟩:=bD.at eo;rw[hn] at ha;cases ha
 obtain⟨ys,sq,pr⟩:=ob.list eL;obtain⟨bA,ri,pl,hz⟩:=I.list sq;have eits:=EJ eb pr ri;subst eits;refine wpAny_pyIter_list pl.isList ?_;have hne:a≠s.heap.objs.size:=zW (by
  obtain⟨ob,e,_⟩:=pl.isList;exact Heap.lt_size e)
 refine⟨s.heap.objs.size,_,_,_,_,_,λi=>bs.getD i false,rfl,Walks.list (show X.A.in1.handled=none from I.ok.hd hc) _ a hne (bs.map Value.bool).toArray,⟨⟨_,Heap.get?_push_size _ rfl,rfl,rfl⟩,pl.isList.at λo e=>Heap.get?_push_of_some _ e⟩,B9,λh' tk hk=>?_⟩;have ez:(bs.map Value.bool).toArray.size=bs.length:=by simp
 rw[ez,hG];refine⟨.bl (g bs),H,I.kept λb o e=>hk b o (λz=>?_) (Heap.get?_push_of_some _ e),rfl,ret _ _ _ _ _ Ext.refl bD (.bl _) q⟩;have z':b=s.heap.objs.size:=by simpa using z
 exact absurd (z' ▸ Heap.lt_size e) (yV _)
theorem zba {id:String}{g:List Bool->Bool}(rule:∀(aA:LA)(σ:St)(H:Hp)(s:Shared)(r:List Addr)(S:Sto)(Q:DK)(Qv:VK)(n:Nat)(a:Addr)(o:Ob)(bs:List Bool),Inv X aA σ H s->Rel X.K Z r S H->r[n]?=some a->lAt S n=some o->YX (Zs o)=some bs->
   Q (.bl (g bs)) S->Ret X.K Z r H Q Qv->wpAny (model X.prog X.w) X.A (call (.builtin id) [.ref a]) (EP X aA σ Qv) X.xe s):Yt X (.builtin id) (upC X.K Z (SR g)):=by
 intro aA s σ H xs us Qv I rv h;obtain⟨r,S,ds,Q,bD,ps,q,ret⟩:=h;unfold SR at q;split at q
 ·rename_i n;obtain⟨v,vs,rfl,p1,p2⟩:=ps.uncons;have z:=p2.unnil;subst z;split at q
  ·rename_i o eo;split at q
   ·rename_i bs eb;cases p1 with
    | ref h1=>
     obtain⟨u,rfl,ru⟩:=Wg rv;cases ru;exact rule aA σ H s r S Q Qv n _ o bs I bD h1 eo eb q ret
   ·exact q.elim
  ·exact q.elim
 ·exact q.elim
theorem U4 (hc:X.calm=true):Yt X (.builtin "all") (upC X.K Z (SR λbs=>bs.all id)):=
 zba λ_ _ _ _ _ _ _ _ _ _ _ _ I bD h1 eo eb q ret=>call_all_walk (zdd (g:=λbs=>bs.all id) (λl f=>l.all f) zai hc I bD h1 eo eb q ret)
@[irreducible] def irr (w:WC):WC:=w
@[irreducible] def Y9 (w:W2):W2:=w
theorem VA (w:WC):irr w=w:=by unfold irr;rfl
theorem Wa (w:W2):Y9 w=w:=by unfold Y9;rfl
theorem ZM (h:Yt X f (upC X.K Z w)):Yt X f (upC X.K Z (irr w)):=by rw[VA];exact h
theorem zbu (ha:PD X Z a ta)(hb:PD X Z b tb)(hs:R3 b):PD X Z (.Subscript a b pos) (dOp (Y9 wIx) ta tb):=by rw[Wa];exact FZ ha hb hs
theorem Zw {a b:Expr}{ta tb:TDE}(ha:PD X Z a ta)(hb:PD X Z b tb)(hs:R3 b:=by exact λ_ _=>rfl):PD X Z (.Subscript a b pos) (dOp (Y9 wIx) ta tb):=zbu ha hb hs
theorem Zz (S:Sto)(o:Ob):(S++[o])[S.length]?=some o:=by simp
theorem Ue {S:Sto}{o u:Ob}{n:Nat}(h:S[n]?=some o):(S++[u])[n]?=some o:=by
 rw[zQ (zD.mp h).1];exact h
theorem Xz {tl te:TDE}{dl:Ev}{S S1:Sto}{Q:DK}{n:Nat}{o:Ob}(g:D->D)(htl:∀K:DK,K (.ref n) S1->tl dl S K)(h1:S1[n]?=some o)(hl:(Zs o).length<=1000)
  (ht:∀x∈Zs o,∀(S2:Sto)(K:DK),Pre S1 S2->K (g x) S2->te (some x::YR caps dl) S2 K)(hq:Q (.ref S1.length) (S1++[.lst ((Zs o).map g)]))(hL:Xf o=some o:=by rfl):Wb caps tl XH te dl S Q:=by
 unfold Wb;refine htl _ ⟨by rw[ZX h1 hL];rfl,λk m S2=>S2=S1++[.lst (((Zs o).take k).map g)]/\m+k=(Zs o).length,⟨(Zs o).length,by simp,by omega⟩,?_⟩;rintro k m S2 ⟨rfl,hm⟩;rw[ZX (Ue h1) hL];dsimp only;split
 ·rename_i x hx;have hk:k<(Zs o).length:=(zD.mp hx).1;unfold Wy XH;simp only[if_true];refine ht x (zJ hx) _ _ Pre.refl.push ?_;rw[Zz];refine⟨by simp;omega,m-1,by omega,?_,by omega⟩;have e:(Zs o).take (k+1)=(Zs o).take k++[x]:=by rw[wB,hx];rfl
  rw[e,yD,List.set_append_right _ _ (zC _)];simp
 ·rename_i hx;have hk:(Zs o).length<=k:=yY.mp hx;rw[yZ hk];exact hq
theorem zde (h:YX (Zs o)=some bs):Xf o=some o:=by
 cases o<;>first|rfl|cases h
theorem DD (h:WQ (Zs o)=some xs):Xf o=some o:=by
 cases o<;>first|rfl|cases h
theorem V2 (h:S[n]?=some o)(hb:YX (Zs o)=some bs)(hq:Q (.bl (g bs)) S):irr (SR g) [.ref n] S Q:=by
 rw[VA];unfold SR;simp only[ZX h (zde hb),hb];exact hq
theorem WL (h:S[n]?=some o)(hb:WQ (Zs o)=some xs)(hne:xs≠[])(hq:∀m,m∈xs->(∀y∈xs,le y m)->Q (.int m) S):irr (U3 le two) [.ref n] S Q:=by
 rw[VA];unfold U3;simp only[ZX h (DD hb),hb];exact⟨hne,hq⟩
theorem U2 (h:lAt S n=some o)(hq:Q (.ref S.length) (S++[.lst (Zs o)])):irr Nm [.ref n] S Q:=by
 rw[VA];unfold Nm;simp only[h];exact hq
theorem XW {to te:TDE}{dl:Ev}{S S1:Sto}{Q:DK}{n:Nat}{xs:List D}{y:D}(hto:∀K:DK,K (.ref n) S1->to dl S K)(h:S1[n]?=some (.lst xs))(hte:∀K:DK,K y S1->te dl S1 K)(hl:xs.length<1000)(hq:Q .non (S1.set n (.lst (xs++[y])))):UK to te dl S Q:=by
 unfold UK;refine hto _ ?_;simp only[h];refine hte _ ?_;simp only[h];exact ifP hl hq
end
theorem Vj:Sco n (.tup [.int x,.int y]):=.tup λd hd=>by
 have z:d=.int x\/d=.int y:=by simpa using hd
 rcases z with rfl|rfl<;>exact .int _
open PySem PySem.Spec PyProof.Rows L2 PySem.W Builtin Builtin.ObjectAttr Builtin.Getset_descriptor
def eqN:Nat->D->D->Option Bool
 | 0=>eqF
 | k+1=>eqT (eqN k)
theorem HW:∀k,UU (eqN k)
 | 0=>US
 | k+1=>Eu (HW k)
theorem VX:∀k,Vi k (eqN k)
 | 0=>Lf 0
 | k+1=>Ed (VX k) (HW k)
def Vw (k:Nat)(S:Sto):D->D->Option Bool
 | .ref n,.ref m=>match lAt S n,lAt S m with
  | some o,some o'=>eqL (eqN k) (Zs o) (Zs o')
  | _,_=>none
 | x,y=>eqN (k+1) x y
def V8 (k:Nat):W2:=λx y S Q=>match Vw k S x y with
 | some b=>Q (.bl b) S
 | none=>False
def Uh (k:Nat):W2:=λx y S Q=>match Vw k S x y with
 | some b=>Q (.bl (!b)) S
 | none=>False
section
variable {X:Cx}{Z:Zx}
theorem zdl (I:Inv X aA σ H s)(bD:Rel X.K Z r S H)(hn:r[n]?=some a)(hm:r[m]?=some a')(eo:lAt S n=some o)(eo':lAt S m=some o')(e:eqL (eqN k) (Zs o) (Zs o')=some b)(hu:X.A.units+1+k<cLine):SeqAt.RcAt X.A s (.ref a) (.ref a') b:=by
 obtain⟨eo,eL⟩:=YL eo;obtain⟨eo',eL'⟩:=YL eo';obtain⟨z,hz,ob⟩:=bD.at eo;rw[hn] at hz;cases hz
 obtain⟨z,hz,ob'⟩:=bD.at eo';rw[hm] at hz;cases hz
 obtain⟨xs,sq,pr⟩:=ob.list eL;obtain⟨ys,sq',pr'⟩:=ob'.list eL';obtain⟨is,ri,pl,_⟩:=I.list sq;obtain⟨js,rj,pl',_⟩:=I.list sq';obtain⟨g1,g2⟩:=QD (A:=X.A.in1) (VX k) I (by show X.A.units+1+k<_;omega) pr pr' ri rj e;by_cases hs:is.toArray.size=js.toArray.size
 ·have q:=SeqAt.RcAt.lists (A:=X.A) pl.isList pl'.isList hs (by omega) g1
  have e2:(List.range is.toArray.size).all (X8 (eqN k) (Zs o) (Zs o'))=b:=by
   rw[<- g2,<- hs,Nat.min_self];simp
  rw[e2] at q;exact q
 ·have q:=SeqAt.RcAt.lists_lengths (A:=X.A) pl.isList pl'.isList (by simpa using hs) (by omega)
  have e2:b=false:=by
   rw[<- g2,show (is.toArray.size==js.toArray.size)=false by simpa using hs,Bool.and_false]
  rw[e2];exact q
theorem AD (k:Nat)(hr:Yb j X.A)(hu:X.A.units+1+k<cLine):OpR X (compareOp .Eq) (upO X.K Z (V8 k)):=by
 intro aA s σ H x y v u Qv I rx ry h;obtain⟨r,S,dx,dy,Q,bD,px,py,q,ret⟩:=h;have flat:∀ {dx dy:D} {x y:V},Rp r H dx x->Rp r H dy y->ZG x v->ZG y u->Vw k S dx dy=eqN (k+1) dx dy->V8 k dx dy S Q->wpAny (model X.prog X.w) X.A (compareOp .Eq v u) (EP X aA σ Qv) X.xe s:=λpx py rx ry e q=>by
  refine F6 (Z:=Z) (VX k) hu aA s σ H _ _ v u Qv I rx ry ⟨r,S,_,_,Q,bD,px,py,?_,ret⟩;unfold V8 at q;rw[e] at q;exact q
 cases px with
 | @ref n a hn=>
  cases py with
  | @ref m a' hm=>
   cases rx;cases ry;unfold V8 Vw at q;dsimp only at q;split at q
   ·rename_i b e;split at e
    ·rename_i o o' eo eo';exact zdl I bD hn hm eo eo' e hu X.prog X.w X.xe _ ⟨.bl b,H,I,rfl,ret _ _ _ _ _ Ext.refl bD (.bl b) q⟩
    ·cases e
   ·exact q.elim
  | non=>exact flat (.ref hn) .non rx ry rfl q
  | bl i=>exact flat (.ref hn) (.bl i) rx ry rfl q
  | int i=>exact flat (.ref hn) (.int i) rx ry rfl q
  | str i=>exact flat (.ref hn) (.str i) rx ry rfl q
  | tup a b c=>exact flat (.ref hn) (.tup a b c) rx ry rfl q
  | exc a=>exact flat (.ref hn) (.exc a) rx ry rfl q
 | non=>exact flat .non py rx ry rfl q
 | bl i=>exact flat (.bl i) py rx ry rfl q
 | int i=>exact flat (.int i) py rx ry rfl q
 | str i=>exact flat (.str i) py rx ry rfl q
 | tup a b c=>exact flat (.tup a b c) py rx ry rfl q
 | exc a=>exact flat (.exc a) py rx ry rfl q
def Xk (f:D->D->Option Bool):List D->D->Option Bool
 | [],_=>some false
 | y::ys,x=>match f y x,Xk f ys x with
  | some b,some c=>some (b||c)
  | _,_=>none
def wIn (k:Nat)(neg:Bool):W2:=λx y S Q=>match y with
 | .ref n=>match lAt S n with
  | some o=>match Xk (eqN k) (Zs o) x with
   | some b=>Q (.bl (if neg then !b else b)) S
   | none=>False
  | none=>False
 | _=>False
theorem EC (h:ZG v u)(h':ZG v' u):v=v':=by
 cases v<;>cases v'<;>simp[L2.ZG] at h h'<;>first
  | rfl
  | (subst h;simp at h';subst h';rfl)
  | (obtain⟨t,rfl⟩:=h;simp at h';subst h';rfl)
  | (obtain⟨t,rfl⟩:=h;simp at h')
  | (subst h;simp at h')
  | skip
theorem R5 (p:Rp r H d v)(p':Rp r H d' v)(e:eqF d x=some b)(e':eqF d' x=some b'):b=b':=by
 have z:d=d':=by
  cases p<;>cases p'<;>first
   | rfl
   | (cases x<;>simp[eqF] at e)
   | (cases x<;>simp[eqF] at e')
 subst z;rw[e] at e';exact Option.some.inj e'
theorem FU (hf:∀(d d' x:D)(v:V)(b b':Bool),Rp r H d v->Rp r H d' v->f d x=some b->f d' x=some b'->b=b'):
  ∀ {ds ds' zs:List D} {vs:List V} {b b':Bool},Rps r H ds vs->Rps r H ds' vs->eqL f ds zs=some b->eqL f ds' zs=some b'->b=b'
 | [],ds',zs,vs,b,b',p,p',e,e'=>by
  have z:=p.unnil;subst z;cases ds' with
  | nil=>rw[e] at e';exact Option.some.inj e'
  | cons y ys=>exact absurd p'.1 (by simp)
 | d::ds,ds',zs,vs,b,b',p,p',e,e'=>by
  obtain⟨v,vs',rfl,p1,p2⟩:=p.uncons;cases ds' with
  | nil=>exact absurd p'.1 (by simp)
  | cons d' ds'=>
   obtain⟨q1,q2⟩:=p'.tail;cases zs with
   | nil=>
    simp only[eqL,Option.some.injEq] at e e';exact e.symm.trans e'
   | cons z zs=>
    unfold eqL at e e';split at e
    ·rename_i b1 c1 a1 a2;split at e'
     ·rename_i b2 c2 a3 a4;have h1:=hf d d' z v b1 b2 p1 q1 a1 a3
      have h2:=FU hf p2 q2 a2 a4;subst h1 h2;simp only[Option.some.injEq] at e e';exact e.symm.trans e'
     ·cases e'
    ·cases e
theorem IF:∀(k:Nat) {r:List Addr} {H:Hp} (d d' x:D) (v:V) (b b':Bool),Rp r H d v->Rp r H d' v->eqN k d x=some b->eqN k d' x=some b'->b=b'
 | 0,r,H,d,d',x,v,b,b',p,p',e,e'=>R5 p p' e e'
 | k+1,r,H,d,d',x,v,b,b',p,p',e,e'=>by
  cases p with
  | tup h1 l1 f1=>
   cases p' with
   | tup h2 l2 f2=>
    rw[h1] at h2;cases h2
    cases x with
    | tup zs=>exact FU (λd d' x v b b'=>IF k d d' x v b b') ⟨l1,f1⟩ ⟨l2,f2⟩ e e'
    | _=>simp[eqN,eqT,eqF] at e
   | ref h=>cases x<;>simp[eqN,eqT,eqF] at e'
   | exc h=>cases x<;>simp[eqN,eqT,eqF] at e'
  | non=>exact R5 (x:=x) .non p' (by cases x<;>exact e) (by cases p'<;>cases x<;>exact e')
  | bl i=>exact R5 (x:=x) (.bl i) p' (by cases x<;>exact e) (by cases p'<;>cases x<;>exact e')
  | int i=>exact R5 (x:=x) (.int i) p' (by cases x<;>exact e) (by cases p'<;>cases x<;>exact e')
  | str i=>exact R5 (x:=x) (.str i) p' (by cases x<;>exact e) (by cases p'<;>cases x<;>exact e')
  | ref h=>cases x<;>simp[eqN,eqT,eqF] at e
  | exc h=>cases x<;>simp[eqN,eqT,eqF] at e
theorem Gf:∀ {ys:List D} {b:Bool},Xk f ys x=some b->(∀y∈ys,∃c,f y x=some c)/\(b=true↔∃y∈ys,f y x=some true)
 | [],b,e=>by
  simp only[Xk,Option.some.injEq] at e;subst e;simp
 | y::ys,b,e=>by
  unfold Xk at e;split at e
  ·rename_i b1 c1 e1 e2;obtain⟨h1,h2⟩:=Gf e2;simp only[Option.some.injEq] at e;subst e;refine⟨λz hz=>?_,?_⟩
   ·rcases zO.mp hz with rfl|hz'
    ·exact⟨b1,e1⟩
    ·exact h1 z hz'
   ·rw[Bool.or_eq_true,h2];refine⟨λq=>?_,λ⟨z,hz,q⟩=>?_⟩
    ·rcases q with q|⟨z,hz,q⟩
     ·exact⟨y,yC,by rw[e1,q]⟩
     ·exact⟨z,yN _ hz,q⟩
    ·rcases zO.mp hz with rfl|hz'
     ·left
      rw[e1] at q;exact Option.some.inj q
     ·exact .inr ⟨z,hz',q⟩
  ·cases e
theorem G5 (I:Inv X aA σ H s)(hu:A.units+k<cLine)(p:Rps r H ds vs)(rv:ZI vs us)(px:Rp r H dx x)(rx:ZG x u)(e:Xk (eqN k) ds dx=some b):∃g:Value->Bool,(∀y,y∈us.toArray->SeqAt.EqAt A s y u (g y))/\us.toArray.any g=b:=by
 obtain⟨h1,h2⟩:=Gf e;have at_:∀y∈us,∃d v,d∈ds/\Rp r H d v/\ZG v y:=λy hy=>by
  obtain⟨j,hj,ej⟩:=xE.mp hy;have hv:j<vs.length:=by rw[rv.length];exact hj
  have gv:vs[j]?=some vs[j]:=by simp[hv]
  obtain⟨w,gw,rw'⟩:=rv.get gv;obtain⟨d,gd,pd⟩:=p.get' gv;have ew:w=y:=by
   rw[zB hj,ej] at gw;exact(Option.some.inj gw).symm
  subst ew;exact⟨d,_,zJ gd,pd,rw'⟩
 classical
 refine⟨λy=>decide (∃d v,d∈ds/\Rp r H d v/\ZG v y/\eqN k d dx=some true),λy hy=>?_,?_⟩
 ·obtain⟨d,v,hd,pd,rd⟩:=at_ y (by simpa using hy);obtain⟨c,hc⟩:=h1 d hd;have same:decide (∃d v,d∈ds/\Rp r H d v/\ZG v y/\eqN k d dx=some true)=c:=by
   cases c with
   | true=>exact decide_eq_true ⟨d,v,hd,pd,rd,hc⟩
   | false=>
    refine decide_eq_false λ⟨d',v',_,pd',rd',hc'⟩=>?_
    have ev:=EC rd rd';subst ev;exact absurd (IF k d d' dx v false true pd pd' hc hc') (by decide)
  show SeqAt.EqAt A s y u (decide _);rw[same];exact VX k X aA σ H s r A d dx v x y u c I hu pd px rd rx hc
 ·rw[xY,h2,List.any_toArray,List.any_eq_true];refine⟨λ⟨y,hy,q⟩=>?_,λ⟨d,hd,q⟩=>?_⟩
  ·obtain⟨d,v,hd,_,_,q'⟩:=of_decide_eq_true q;exact⟨d,hd,q'⟩
  ·obtain⟨j,hj,ej⟩:=xE.mp hd;have gd:ds[j]?=some d:=by simp[hj,ej]
   obtain⟨v,gv,pv⟩:=p.get gd;obtain⟨w,gw,rw'⟩:=rv.get gv;exact⟨w,zJ gw,decide_eq_true ⟨d,v,hd,pv,rw',q⟩⟩
theorem do_in (k:Nat)(hu:X.A.units+1+k<cLine):OpR X (compareOp .In) (upO X.K Z (wIn k false)):=by
 intro aA s σ H x y v u Qv I rx ry h;obtain⟨r,S,dx,dy,Q,bD,px,py,q,ret⟩:=h;cases py with
 | @ref n a hn=>
  unfold wIn at q;dsimp only at q;split at q
  ·rename_i o eo;split at q
   ·rename_i b eb;cases ry;obtain⟨eo,eL⟩:=YL eo;obtain⟨a',ha,ob⟩:=bD.at eo;rw[hn] at ha;cases ha
    obtain⟨ys,sq,pr⟩:=ob.list eL;obtain⟨us,ru,pl,_⟩:=I.list sq;obtain⟨g,g1,g2⟩:=G5 (A:=X.A.in1) I (by show X.A.units+1+k<_;omega) pr ru px rx eb;refine SeqAt.in_listAt g pl.isList g1 ?_;rw[g2];exact⟨.bl b,H,I,rfl,ret _ _ _ _ _ Ext.refl bD (.bl b) q⟩
   ·exact q.elim
  ·exact q.elim
 | _=>exact(show False from q).elim
theorem AK (k:Nat)(hu:X.A.units+1+k<cLine):OpR X (compareOp .NotIn) (upO X.K Z (wIn k true)):=by
 intro aA s σ H x y v u Qv I rx ry h;obtain⟨r,S,dx,dy,Q,bD,px,py,q,ret⟩:=h;cases py with
 | @ref n a hn=>
  unfold wIn at q;dsimp only at q;split at q
  ·rename_i o eo;split at q
   ·rename_i b eb;cases ry;obtain⟨eo,eL⟩:=YL eo;obtain⟨a',ha,ob⟩:=bD.at eo;rw[hn] at ha;cases ha
    obtain⟨ys,sq,pr⟩:=ob.list eL;obtain⟨us,ru,pl,_⟩:=I.list sq;obtain⟨g,g1,g2⟩:=G5 (A:=X.A.in1) I (by show X.A.units+1+k<_;omega) pr ru px rx eb;refine SeqAt.notIn_listAt g pl.isList g1 ?_;rw[g2];exact⟨.bl (!b),H,I,rfl,ret _ _ _ _ _ Ext.refl bD (.bl (!b)) q⟩
   ·exact q.elim
  ·exact q.elim
 | _=>exact(show False from q).elim
end
section
variable {X:Cx}{Z:Zx}{pos:Pos}
def dForT (i:Nat)(tl:TDE)(tb:TDS):TDS:=λE dl S=>tl dl S λd S1=>match d with
 | .tup xs=>∃W:Nat->Ev->Sto->Prop,W 0 dl S1/\∀k dl S,W k dl S->match xs[k]? with
  | some x=>tb { nx:=λdl' S'=>W (k+1) dl' S',rt:=E.rt,bk:=E.nx,ct:=λdl' S'=>W (k+1) dl' S' } (dl.set i (some x)) S
  | none=>E.nx dl S
 | _=>False
theorem CL (hp:PassesOwn (model X.prog X.w) X.A X.env X.xe)(hc:X.calm=true)(hN:X.N.Nodup)(hi:X.N[i]?=some x)(hx:Loc X.env.scope x)(hl:PD X Z aX tl)(hb:XC X Z body tb)(hf:X.fn x=true\/X.env.scope.names.lookup x=some .local:=by first|exact .inl rfl|exact .inr rfl|assumption)(hs:∀y,foldedSetIterable aX X.env y=pure y:=by intro _;rfl):PDS X Z (.For (.Name x pos') aX body [] pos) (dForT i tl tb):=
 YO (UB hp hc (Di hl) (UX hN hi hx hf) hb hs) λF σ H ⟨r,dl,S,E,rs,bD,h,ret⟩=>by
  refine⟨r,dl,S,_,rs,bD,h,λv H1 r1 d S1 x1 aF p1 q1=>?_⟩;cases p1 with
  | @tup ds xs a e1 l1 f1=>
   obtain⟨W,w0,turn⟩:=q1;have sq:∀ {r':List Addr} {H':Hp},Ext r1 r' H1 H'->SqT X.K H' a xs:=λ{r' H'} x'=>SqT.of (x'.tup _ _ e1)
   refine⟨a,rfl,⟨xs,sq Ext.refl⟩,λk m σ' H'=>m+k=xs.length/\∃r' dl' S',Ext r1 r' H1 H'/\Rs r' H' dl' σ'/\Rel X.K Z r' S' H'/\W k dl' S',⟨xs.length,by omega,r1,dl,S1,Ext.refl,rs.ext x1,aF,w0⟩,?_⟩;rintro k m σ2 H2 ⟨em,r2,dl2,S2,x2,rs2,aG,w2⟩;have q:=turn k dl2 S2 w2;split at q
   ·rename_i y ey;have hk:k<ds.length:=(zD.mp ey).1
    have hkx:k<xs.length:=by rw[<- l1];exact hk
    have pv:Rp r2 H2 y xs[k]:=(f1 k y xs[k] ey (by simp[hkx])).ext x2
    have go:∀σ' H' r' dl' S',Ext r2 r' H2 H'->Rs r' H' dl' σ'->Rel X.K Z r' S' H'->W (k+1) dl' S'->∃r' dl' S',Ext r1 r' H1 H'/\Rs r' H' dl' σ'/\Rel X.K Z r' S' H'/\W (k+1) dl' S':=
     λσ' H' r' dl' S' x rs' rel' w'=>⟨r',dl',S',x2.trans x,rs',rel',w'⟩
    refine .inr ⟨⟨xs,xs[k],sq x2,by simp[hkx]⟩,λσ' H'=>∃r' dl' S',Ext r1 r' H1 H'/\Rs r' H' dl' σ'/\Rel X.K Z r' S' H'/\W (k+1) dl' S',λσ' H' z=>⟨m-1,by omega,by omega,z⟩,λv' H' y'=>?_⟩;obtain⟨eH,y'⟩:=y';subst eH;have ev:v'=xs[k]:=by
     have z:=y' xs (sq x2);rw[zB hkx] at z;exact(Option.some.inj z).symm
    subst ev;exact⟨r2,_,S2,_,rs2.set i pv,aG,q,go,λσ' H' r' dl' S' x rs' rel' z=>ret.nx σ' H' r' dl' S' (x1.trans (x2.trans x)) rs' rel' z,go,ret.rt.ext (x1.trans x2)⟩
   ·rename_i ey;have aU:ds.length<=k:=yY.mp ey;exact .inl ⟨⟨xs,sq x2,by rw[<- l1];exact aU⟩,ret.nx σ2 H2 r2 dl2 S2 (x1.trans x2) rs2 aG q⟩
  | _=>exact(show False from q1).elim
def Vh:List Nat->List D->Ev->Ev
 | i::is,d::ds,dl=>Vh is ds (dl.set i (some d))
 | _,_,dl=>dl
def NR:List Nat->List V->St->St
 | i::is,v::vs,σ=>NR is vs (σ.set i (some v))
 | _,_,σ=>σ
theorem OH {r:List Addr}{H:Hp}:∀ {is:List Nat} {ds:List D} {vs:List V} {dl:Ev} {σ:St},Rs r H dl σ->Rps r H ds vs->Rs r H (Vh is ds dl) (NR is vs σ)
 | [],ds,vs,dl,σ,h,p=>by cases ds<;>cases vs<;>exact h
 | i::is,[],vs,dl,σ,h,p=>by
  have z:=p.unnil;subst z;exact h
 | i::is,d::ds,vs,dl,σ,h,p=>by
  obtain⟨v,vs',rfl,p1,p2⟩:=p.uncons;show Rs r H (Vh is ds (dl.set i (some d))) (NR is vs' (σ.set i (some v)));exact OH (Rs.set i h p1) p2
inductive Nms (X:Cx):List Expr->List Nat->Prop
 | nil:Nms X [] []
 | cons {x:Str} {p:Pos} {i:Nat} {es:List Expr} {is:List Nat}:X.N[i]?=some x->Loc X.env.scope x->(X.fn x=true\/X.env.scope.names.lookup x=some .local)->Nms X es is->Nms X (.Name x p::es) (i::is)
def TN (is:List Nat):TGs:=λvs σ H Q=>vs.length=is.length/\Q (NR is vs σ) H
theorem Uz (hN:X.N.Nodup):∀ {es:List Expr} {is:List Nat},Nms X es is->PGs X es (TN is)
 | _,_,.nil=>λaA s σ H vs us Q I r h=>by
  obtain⟨e,h⟩:=h;have z:vs=[]:=by simpa using e
  subst z;exact zdc aA s σ H [] us Q I r ⟨rfl,h⟩
 | _,_,.cons (x:=x) (p:=p) (es:=es) (is:=is) h1 h2 h3 t=>λaA s σ H vs us Q I r h=>by
  obtain⟨e,h⟩:=h;cases vs with
  | nil=>simp at e
  | cons v vs=>exact zcc (UX hN h1 h2 h3) (Uz hN t) rfl aA s σ H (v::vs) us Q I r ⟨v,vs,rfl,by simpa using e,h⟩
def dSetT (is:List Nat)(te:TDE):TDS:=λE dl S=>te dl S λd S1=>match d with
 | .tup xs=>xs.length=is.length/\E.nx (Vh is xs dl) S1
 | _=>False
theorem BO (hc:X.calm=true)(hN:X.N.Nodup)(hn:Nms X es is)(he:PD X Z e te)(aU:(assignEach es X.env).length=is.length:=by rfl)(hst:(assignEach es X.env).findIdx? (·.1)=none:=by rfl)(hs:swapsWithSole [.Tuple es k p] e pos.line X.env=pure false:=by rfl)(hw:swappedStores [.Tuple es k p] e X.env=pure none:=by rfl)(h1:(assignEach [.Tuple es k p] X.env).map (·.2)=[assign (.Tuple es k p) X.env]:=by rfl):PDS X Z (.Assign [.Tuple es k p] e pos) (dSetT is te):=
 YO (GO he (UY hc (Uz hN hn) aU hst) hs hw h1) λF σ H ⟨r,dl,S,E,rs,bD,h,ret⟩=>by
  refine⟨r,dl,S,_,rs,bD,h,λv H1 r1 d S1 x1 aF p1 q1=>?_⟩;cases p1 with
  | @tup ds xs a e1 l1 f1=>
   obtain⟨hl,q⟩:=q1;exact⟨a,xs,rfl,SqT.of e1,by rw[<- l1];exact hl,by rw[<- l1];exact hl,ret.nx _ H1 r1 _ S1 x1 (OH (rs.ext x1) ⟨l1,f1⟩) aF q⟩
  | _=>exact(show False from q1).elim
end
open PySem L2
theorem QB (S:Sto)(o u:Ob):(S++[o]).set S.length u=S++[u]:=by simp
end L3
namespace L3
open PySem PySem.Spec PyProof.Rows L2
section
variable {X:Cx}{Z:Zx}{aZ aX:Expr}{x:Str}{px pos:Pos}{ifs:List Expr}{sc ar:Scope}{N:List Str}{caps:List Nat}
theorem Kz {ta:TDA}{te:TDE}{dl:Ev}{S S1:Sto}{Q:DK}{j:Int}(g:Nat->D)(hta:∀K:List D->Sto->Prop,K [.int j] S1->ta dl S K)(hj:0<=j/\j<=1000)
  (ht:∀k:Nat,k<j.toNat->∀(S2:Sto)(K:DK),Pre S1 S2->K (g k) S2->te (some (.int k)::YR caps dl) S2 K)(hq:Q (.ref S1.length) (S1++[.lst ((List.range j.toNat).map g)])):Ww caps ta XH te dl S Q:=by
 unfold Ww;refine hta _ ⟨⟨by omega,by omega⟩,λk S2=>S2=S1++[.lst ((List.range k).map g)]/\k<=j.toNat,⟨by simp,by omega⟩,?_⟩;rintro k S2 ⟨rfl,hk⟩;split
 ·rename_i hk';unfold Wy XH;simp only[if_true];refine ht k hk' _ _ Pre.refl.push ?_;rw[Zz];refine⟨by simp;omega,?_,by omega⟩;rw[List.range_succ,yD,List.set_append_right _ _ (zC _)];simp
 ·have e:k=j.toNat:=by omega
  subst e;exact hq
end
section
variable {X:Cx}{Z:Zx}{pos:Pos}
abbrev TDO:=Ev->Sto->(Option Int->Sto->Prop)->Prop
def upP (K:Fg)(Z:Zx)(t:TDO):TO:=λσ H Q=>∃(r:List Addr)(dl:Ev)(S:Sto)(Q':Option Int->Sto->Prop),Rs r H dl σ/\Rel K Z r S H/\t dl S Q'/\∀o H' r' S',Ext r r' H H'->Rel K Z r' S' H'->Q' o S'->Q o H'
def PDO (X:Cx)(Z:Zx)(e:Option Expr)(t:TDO):Prop:=PO X e (upP X.K Z t)
def zda:TDO:=λ_ S Q=>Q none S
def dPart (t:TDE):TDO:=λdl S Q=>t dl S λd S1=>match d with
 | .int i=>Q (some i) S1
 | _=>False
theorem FG (h:PO X e t)(g:∀σ H Q,t' σ H Q->t σ H Q):PO X e t':=λaA s σ H Q I q=>h aA s σ H Q I (g σ H Q q)
theorem G1:PDO X Z none zda:=FG zcm λσ H Q ⟨r,dl,S,Q',rs,bD,h,ret⟩=>ret none H r S Ext.refl bD h
theorem Fw (he:PD X Z e t):PDO X Z (some e) (dPart t):=FG (E1 he) λσ H Q ⟨r,dl,S,Q',rs,bD,h,ret⟩=>⟨r,dl,S,_,rs,bD,h,λv H1 r1 d S1 e1 aF p1 q1=>by
 cases p1 with
 | int i=>exact⟨i,rfl,ret (some i) H1 r1 S1 e1 aF q1⟩
 | _=>exact(show False from q1).elim⟩
end
section
variable {X:Cx}{Z:Zx}
end
theorem Zq (ho:S[n]?=some o)(hd:atI (Zs o) i=some d)(hq:Q d S)(hL:Xf o=some o:=by rfl):Y9 wIx (.ref n) (.int i) S Q:=by
 rw[Wa];unfold wIx;simp only[ZX ho hL,hd];exact hq
def TQ (f:Str)(v:D):List (Str×D)->List (Str×D)
 | []=>[(f,v)]
 | p::r=>if p.1=f then (f,v)::r else p::TQ f v r
theorem FR.lookup:∀ {fs:List (Str×D)} {fs':List (Str×V)},FR r H fs fs'->(∀d,fs.lookup f=some d->∃v,fs'.lookup f=some v/\Rp r H d v)/\(fs.lookup f=none->fs'.lookup f=none)
 | [],fs',h=>by
  have e:fs'=[]:=by
   have:=h.1;simpa using this.symm
  subst e;exact⟨λd z=>by simp at z,λ_=>rfl⟩
 | p::fs,[],h=>by
  have:=h.1;simp at this
 | p::fs,q::fs',h=>by
  obtain⟨h1,h2⟩:=h;simp only[xQ,List.cons.injEq] at h1;obtain⟨p1,p2⟩:=h2.tail;obtain⟨i1,i2⟩:=FR.lookup (f:=f) (fs:=fs) (fs':=fs') ⟨h1.2,p2⟩;obtain⟨pk,pv⟩:=p;obtain⟨qk,qv⟩:=q;have ek:pk=qk:=h1.1;subst ek;by_cases z:f=pk
  ·subst z;simp only[List.lookup_cons_self];exact⟨λd hd=>⟨qv,rfl,by cases hd;exact p1⟩,λhd=>by cases hd⟩
  ·have zb:(f==pk)=false:=by simpa using z
   simp only[yJ,zb];exact⟨i1,i2⟩
theorem FR.put (q:Rp r H d v):∀ {fs:List (Str×D)} {fs':List (Str×V)},FR r H fs fs'->FR r H (TQ f d fs) (YU f v fs')
 | [],fs',h=>by
  have e:fs'=[]:=by
   have:=h.1;simpa using this.symm
  subst e;exact⟨rfl,Rps.cons q Rps.nil⟩
 | p::fs,[],h=>by
  have:=h.1;simp at this
 | p::fs,p'::fs',h=>by
  obtain⟨h1,h2⟩:=h;simp only[xQ,List.cons.injEq] at h1;obtain⟨p1,p2⟩:=h2.tail;have ih:=FR.put (f:=f) q (fs:=fs) (fs':=fs') ⟨h1.2,p2⟩;obtain⟨pk,pv⟩:=p;obtain⟨qk,qv⟩:=p';have ek:pk=qk:=h1.1;subst ek;unfold TQ YU;by_cases z:pk=f
  ·rw[if_pos z,if_pos z];exact⟨by simp[h1.2,z],Rps.cons q p2⟩
  ·rw[if_neg z,if_neg z];exact⟨by simp[ih.1],Rps.cons p1 ih.2⟩
section
variable {X:Cx}{Z:Zx}{pos:Pos}
def Wv (C:Addr)(S:Sto):D->Option (Nat×List (Str×D))
 | .ref n=>match S[n]? with
  | some (.ins C' fs)=>if C'=C then some (n,fs) else none
  | _=>none
 | _=>none
theorem Iz (h:Wv C S d=some (n,fs)):d=.ref n/\S[n]?=some (.ins C fs):=by
 unfold Wv at h;split at h
 ·split at h
  ·rename_i m _ C' fs' e;split at h
   ·rename_i ec;subst ec;simp only[Option.some.injEq,Prod.mk.injEq] at h;obtain⟨rfl,rfl⟩:=h;exact⟨rfl,e⟩
   ·cases h
  ·cases h
 ·cases h
@[irreducible] def Pr (C:Addr)(f:Str)(to:TDE):TDE:=λdl S Q=>to dl S λd S1=>match Wv C S1 d with
 | some (_,fs)=>match fs.lookup f with
  | some v=>Q v S1
  | none=>False
 | none=>False
theorem Ym (c:Cls X.K C)(n:YV X.K C f)(ho:PD X Z o to)(hb:attributeBase o f X.env (eval o X.env)=eval o X.env:=by rfl):PD X Z (.Attribute o f pos) (Pr C f to):=
 Yw (BE ho hb) λσ H Qv ⟨r,dl,S,Q,rs,bD,h,ret⟩=>by unfold Pr at h;exact⟨r,dl,S,_,rs,bD,h,λv H1 r1 d S1 e1 aF p1 q1=>by
  split at q1
  ·rename_i m fs ei;obtain⟨rfl,eS⟩:=Iz ei;split at q1
   ·rename_i w ew;obtain⟨a,ha,ob⟩:=aF.at eS;obtain⟨dx,fs',eH,fr⟩:=ob;cases p1 with
    | ref hr=>
     rw[hr] at ha;cases ha
     obtain⟨u,hu,pu⟩:=fr.lookup.1 w ew;exact⟨a,C,dx,fs',u,rfl,eH,c,n,hu,ret u H1 r1 w S1 e1 aF pu q1⟩
   ·exact q1.elim
  ·exact q1.elim⟩
@[irreducible] def MR (C:Addr)(f:Str)(to te:TDE):TDS:=λE dl S=>te dl S λv S1=>to dl S1 λd S2=>match Wv C S2 d with
 | some (n,fs)=>fs.length<1000/\E.nx dl (S2.set n (.ins C (TQ f v fs)))
 | none=>False
theorem Wj (c:Cls X.K C)(n:YV X.K C f)(ho:PD X Z o to)(he:PD X Z e te)(hs:swapsWith e (some (.Attribute o f p2)) pos.line X.env=pure false:=by rfl):PDS X Z (.Assign [.Attribute o f p2] e pos) (MR C f to te):=
 YO (Aw ho he hs) λF σ H ⟨r,dl,S,E,rs,bD,h,ret⟩=>by unfold MR at h;exact⟨r,dl,S,_,rs,bD,h,λv H1 r1 dv S1 e1 aF p1 q1=>⟨r1,dl,S1,_,rs.ext e1,aF,q1,λw H2 r2 d S2 e2 aG p2' q2=>by
  split at q2
  ·rename_i m fs ei;obtain⟨rfl,eS⟩:=Iz ei;obtain⟨hl,q2⟩:=q2;obtain⟨a,ha,ob⟩:=aG.at eS;obtain⟨dx,fs',eH,fr⟩:=id ob;cases p2' with
   | ref hr=>
    rw[hr] at ha;cases ha
    have aU:fs'.length=fs.length:=by
     have:=congrArg List.length fr.1;simpa using this.symm
    obtain⟨rb,x⟩:=aG.b.setO (o':=.ins C (TQ f dv fs)) (u:=.ins C dx (YU f v fs')) hr eS rfl rfl λx=>⟨dx,_,XB,(fr.put (p1.ext e2)).ext x⟩
    exact⟨a,C,dx,fs',rfl,eH,c,n,by omega,ret.nx _ _ r2 _ _ (e1.trans (e2.trans x)) (rs.ext (e1.trans (e2.trans x))) ⟨rb,aG.xw.ext x⟩ q2⟩
  ·exact q2.elim⟩⟩
@[irreducible] def PY (C:Addr)(m:Str)(ex:Ev->Addr->Sto->Prop)(sd:Sd)(to:TDE)(t:TDA):TDE:=λdl S Q=>to dl S λd S1=>match Wv C S1 d with
 | some (_,fs)=>fs.lookup m=none/\t dl S1 λds S2=>sd (d::ds) S2 Q (ex dl)
 | none=>False
theorem zcq (he:PE X o ta)(c:Cls X.K C)(hm:Tf X.K C m f)(F:YI X.prog X.w X.K X.mg X.base (CXE X.prog X.w) k f fd ps sp)(hr:Yb k X.A)(hb:Xi X.K fd ps [])(hx:WW X W)(ha:PA X (e::es) t)(hst:starEach (e::es) X.env=(false,eval e X.env)::starEach es X.env)(hpl:(backTo pos (starEach es X.env)).any (·.1)=false)(ht:eval (.Call (.Attribute o m aO) (e::es) [] pos) X.env=(do
   let ov <- eval o X.env
   standAt aO.atName
   let (f,first) <- holding [ov] (getMethod ov m pl)
   callWith pos f first (backTo pos (starEach (e::es) X.env)) (backToKw pos (keywordEach [] X.env)))):
  PE X (.Call (.Attribute o m aO) (e::es) [] pos) (λσ H Q=>ta σ H λx H1=>∃a dx fs,x=.ref a/\H1 a=some (.ins C dx fs)/\fs.lookup m=none/\t σ H1 λvs H2=>sp (x::vs) H2 Q (W σ)):=by
 intro aA s σ H Q I h;refine PySem.W.methodCall_KW (pl:=pl) (thn (he aA s σ H _ I h) λu s1 ⟨x,H1,I1,rx,a,dx,fs,ex,ea,l,q⟩=>?_) ht;subst ex;obtain rfl:u=Value.ref a:=rx;refine Ga I1 ea c hm l ?_;exact PySem.W.callWith_K (first:=[.ref a]) (h₀:=X.base) I.ok.mod.kin hm.kp (thn (ha pos aA s1 σ H1 _ I1 q) λus s2 ⟨vs,H2,I2,r,q2⟩=>⟨I2.kIn,KZ (us:=.ref a::us) (vs:=.ref a::vs) F hr hb hx I2 (.cons rfl r) q2⟩) hst hpl
theorem GK (bD:Yh X.K r S H)(p:Rp r H d v)(h:Wv C S d=some (n,fs)):∃a dx fs',v=.ref a/\r[n]?=some a/\H a=some (.ins C dx fs')/\FR r H fs fs':=by
 obtain⟨rfl,eS⟩:=Iz h;obtain⟨a,ha,dx,fs',eH,fr⟩:=bD.at eS;cases p with
 | ref hr=>
  rw[hr] at ha;cases ha
  exact⟨a,dx,fs',rfl,hr,eH,fr⟩
theorem Hx (ho:PD X ⟨ex,W⟩ o to)(c:Cls X.K C)(hm:Tf X.K C m f)(F:YI X.prog X.w X.K X.mg X.base (CXE X.prog X.w) k f fd ps (upF X.K sd))(hr:Yb k X.A)(hb:Xi X.K fd ps [])(hx:WW X W)(ha:PDA X ⟨ex,W⟩ (e::es) t)(hst:starEach (e::es) X.env=(false,eval e X.env)::starEach es X.env:=by rfl)(hpl:(backTo pos (starEach es X.env)).any (·.1)=false:=by rfl)(ht:eval (.Call (.Attribute o m aO) (e::es) [] pos) X.env=(do
   let ov <- eval o X.env
   standAt aO.atName
   let (f,first) <- holding [ov] (getMethod ov m pl)
   callWith pos f first (backTo pos (starEach (e::es) X.env)) (backToKw pos (keywordEach [] X.env))):=by rfl):PD X ⟨ex,W⟩ (.Call (.Attribute o m aO) (e::es) [] pos) (PY C m ex sd to t):=
 Yw (zcq ho c hm F hr hb hx ha hst hpl ht) λσ H Qv ⟨r,dl,S,Q,rs,bD,h,ret⟩=>by unfold PY at h;exact⟨r,dl,S,_,rs,bD,h,λv H1 r1 d S1 e1 aF p1 q1=>by
  split at q1
  ·rename_i n fs ei;obtain⟨hl,q1⟩:=q1;obtain⟨a,dx,fs',rfl,hr1,eH,fr⟩:=GK aF.b p1 ei;exact⟨a,dx,fs',rfl,eH,fr.lookup.2 hl,r1,dl,S1,_,rs.ext e1,aF,q1,λvs H2 r2 ds S2 e2 aG p2 q2=>HV (Z:=⟨ex,W⟩) (rs.ext (e1.trans e2)) aG (Rps.cons (p1.ext e2) p2) q2 (ret.ext (e1.trans e2))⟩
  ·exact q1.elim⟩
def dMake (C:Addr)(ex:Addr->Sto->Prop)(sd:Sd)(t:TDA):TDE:=λdl S Q=>t dl S λds S1=>sd (.ref S1.length::ds) (S1++[.ins C []]) (λd S2=>d=.non/\Q (.ref S1.length) S2) ex
theorem zbX (bD:Rel X.K Z r S H)(h1:H x=none)(h2:H dx=none)(h3:dx≠x):
  Rel X.K Z (r++[x]) (S++[.ins C []]) (upd (upd H dx (.own x)) x (.ins C dx []))/\Ext r (r++[x]) H (upd (upd H dx (.own x)) x (.ins C dx [])):=by
 obtain⟨rb,e⟩:=bD.b.pushO (o:=.ins C []) (H':=upd (upd H dx (.own x)) x (.ins C dx [])) h1 (λb u q=>by rw[Yl (VN q h1),Yl (VN q h2)];exact q) λ_=>⟨dx,[],XB,FR.nil⟩
 exact⟨⟨rb,bD.xw.ext e⟩,e⟩
theorem zbA {C x:Addr}{r r':List Addr}{n:Nat}{H H':Hp}{Z:Zx}{K:Fg}{Q:DK}{Qv:VK}(ret:Ret K Z r H Q Qv)(e:Ext r r' H H')(hx:r'[n]?=some x):
  Ret K Z r' H' (λd S2=>d=.non/\Q (.ref n) S2) (λv H2=>v=.non/\Qv (.ref x) H2):=λv H2 r2 d S2 e2 aG p2 q2=>by
 obtain⟨rfl,q2⟩:=q2;cases p2;exact⟨rfl,ret _ H2 r2 (.ref n) S2 (e.trans e2) aG (.ref (e2.adr _ _ hx)) q2⟩
theorem Tj {C f:Addr}{fd:FuncData}{k:Nat}{ps:List Str}{sd:Sd}{ex:Addr->Sto->Prop}{W:XK}{x:Str}{p:Pos}{e:Expr}{es:List Expr}{t:TDA}(M:Mk X.K C f)
  (F:YI X.prog X.w X.K X.mg X.base (CXE X.prog X.w) k f fd ps (upF X.K sd))(hr:Yb (k+1) X.A)(hg:Gl X x)(hm:X.mg x=some (.ref C))(hb:Xi X.K fd ps [])(hx:O8 (CXE X.prog X.w) X W)(ha:PDA X (Zc ex W) (e::es) t)
  (hdb:(x==("__debug__":Str))=false:=by decide)(he:starEach (e::es) X.env=(false,eval e X.env)::starEach es X.env:=by rfl)(hpl:(backTo pos (starEach es X.env)).any (·.1)=false:=by rfl):
  PD X (Zc ex W) (.Call (.Name x p) (e::es) [] pos) (dMake C ex sd t):=
 Yw (zcg M F hr hg hm hb .nil hx ha hdb he hpl) λσ H Qv ⟨r,dl,S,Q,rs,bD,h,ret⟩=>⟨r,dl,S,_,rs,bD,h,λvs H1 r1 ds S1 e1 aF p1 q1=>λx dx n1 n2 n3=>by
  obtain⟨aG,e2⟩:=zbX (C:=C) aF n1 n2 n3;show upF X.K sd (.ref x::(vs++[])) _ _ W;rw[yX];exact⟨ex,_,_,.ref S1.length::ds,_,aG,Rps.cons (VE aF.len) (p1.ext e2),q1,zbA (C:=C) ret (e1.trans e2) (Q3 aF.len)⟩⟩
end
section
variable {X:Cx}{Z:Zx}{pos:Pos}
end
section
variable {X:Cx}{Z:Zx}{pos:Pos}
theorem K2 {st:Stmt}:PDS X Z st (λ_ _ _=>False):=YO (t:=λ_ _ _=>False) (λ_ _ _ _ _ _ h=>h.elim) λF σ H ⟨r,dl,S,E,rs,bD,h,ret⟩=>h.elim
end
section
variable {X:Cx}{Z:Zx}{pos:Pos}
def XX (xs:List D)(lo hi:Option Int):List D:=(xs.drop (HT.sIx xs.length 0 lo)).take (HT.sIx xs.length xs.length hi-HT.sIx xs.length 0 lo)
theorem Rps.drop (h:Rps r H ds vs)(k:Nat):Rps r H (ds.drop k) (vs.drop k):=
 ⟨by simp[h.1],λi d v h1 h2=>h.2 (k+i) d v (by simpa using h1) (by simpa using h2)⟩
theorem Rps.take (h:Rps r H ds vs)(k:Nat):Rps r H (ds.take k) (vs.take k):=by
 refine⟨by simp[h.1],λi d v h1 h2=>?_⟩;rw[List.getElem?_take] at h1 h2;split at h1
 ·rw[if_pos (by assumption)] at h2;exact h.2 i d v h1 h2
 ·cases h1
theorem Rps.cut (h:Rps r H ds vs)(lo hi:Option Int):Rps r H (XX ds lo hi) (TX vs lo hi):=by
 unfold XX TX;rw[h.1];exact(h.drop _).take _
@[irreducible] def LG (te:TDE)(tl th:TDO):TDE:=λdl S Q=>te dl S λd S1=>tl dl S1 λl S2=>th dl S2 λu S3=>match d with
 | .ref n=>match lAt S3 n with
  | some o=>Q (.ref S3.length) (S3++[.lst (XX (Zs o) l u)])
  | none=>False
 | _=>False
theorem Gs {e:Expr}{te:TDE}{lo hi:Option Expr}{tl th:TDO}{p2:Pos}(he:PD X Z e te)(hl:PDO X Z lo tl)(hu:PDO X Z hi th):PD X Z (.Subscript e (.Slice lo hi none p2) pos) (LG te tl th):=
 Yw (zcM Cm he hl hu) λσ H Qv ⟨r,dl,S,Q,rs,bD,h,ret⟩=>by
  unfold LG at h;refine⟨r,dl,S,_,rs,bD,h,λv H1 r1 d S1 e1 aF p1 q1=>⟨r1,dl,S1,_,rs.ext e1,aF,q1,λl H2 r2 S2 e2 aG q2=>⟨r2,dl,S2,_,rs.ext (e1.trans e2),aG,q2,λu H3 r3 S3 e3 aH q3=>?_⟩⟩⟩;cases p1 with
  | @ref n a hn=>
   dsimp only at q3;split at q3
   ·rename_i o eo;obtain⟨eo,eL⟩:=YL eo;obtain⟨a',ha,ob⟩:=aH.at eo;rw[e3.adr _ _ (e2.adr _ _ hn)] at ha;cases ha
    obtain⟨xs,sq,pr⟩:=ob.list eL;refine⟨a,xs,rfl,sq,λp hp=>?_⟩;obtain⟨aJ,x⟩:=aH.push hp (pr.cut l u);exact ret _ _ _ (.ref S3.length) _ (e1.trans (e2.trans (e3.trans x))) aJ (VE aH.len) q3
   ·exact q3.elim
  | _=>exact(show False from q3).elim
theorem Fd {te:TDE}{tl th:TDO}{dl:Ev}{S S3:Sto}{Q:DK}{n:Nat}{o:Ob}{lo hi:Option Int}(h:∀K:DK,K (.ref n) S3->te dl S K)(hl:∀K:Option Int->Sto->Prop,K lo S3->tl dl S3 K)(hh:∀K:Option Int->Sto->Prop,K hi S3->th dl S3 K)(ho:S3[n]?=some o)
  (hq:Q (.ref S3.length) (S3++[.lst (XX (Zs o) lo hi)]))(hL:Xf o=some o:=by rfl):LG te tl th dl S Q:=by
 unfold LG;refine h _ (hl _ (hh _ ?_));simp only[ZX ho hL];exact hq
end
section
variable {X:Cx}{Z:Zx}{pos:Pos}
theorem Rps.put (h:Rps r H ds vs)(p:Rp r H d v)(j:Nat):Rps r H (ds.set j d) (vs.set j v):=by
 refine⟨by simp[h.1],λi x y h1 h2=>?_⟩;by_cases z:j=i
 ·subst z;have hl:j<ds.length:=by
   have:=(zD.mp h1).1;simpa using this
  rw[xH hl] at h1;rw[xH (by rw[<- h.1];exact hl)] at h2;cases h1;cases h2;exact p
 ·rw[xP z] at h1 h2;exact h.2 i x y h1 h2
@[irreducible] def UT (to ti te:TDE):TDS:=λE dl S=>te dl S λv S1=>to dl S1 λd S2=>ti dl S2 λi S3=>match d,i with
 | .ref n,.int k=>match S3[n]? with
  | some (.lst xs)=>match ixN xs.length k with
   | some j=>E.nx dl (S3.set n (.lst (xs.set j v)))
   | none=>False
  | _=>False
 | _,_=>False
theorem IP (ho:PD X Z o to)(hi:PD X Z i ti)(he:PD X Z e te)(hs:swapsWithSole [.Subscript o i p2] e pos.line X.env=pure false:=by rfl)(hw:swappedStores [.Subscript o i p2] e X.env=pure none:=by rfl)(h1:(assignEach [.Subscript o i p2] X.env).map (·.2)=[assign (.Subscript o i p2) X.env]:=by rfl)(ha:∀v,assign (.Subscript o i p2) X.env v=(do let ov <- holding [v] (eval o X.env);let iv <- holding [v,ov] (eval i X.env);standAt p2;holding [v,ov,iv] (setItem ov iv v);release [v,ov,iv] []):=by intro _;rfl):PDS X Z (.Assign [.Subscript o i p2] e pos) (UT to ti te):=
 YO (GO he (Ar ho hi zdN ha) hs hw h1) λF σ H ⟨r,dl,S,E,rs,bD,h,ret⟩=>by
  unfold UT at h;refine⟨r,dl,S,_,rs,bD,h,λv H1 r1 dv S1 e1 aF p1 q1=>⟨r1,dl,S1,_,rs.ext e1,aF,q1,λx H2 r2 d S2 e2 aG pd q2=>⟨r2,dl,S2,_,rs.ext (e1.trans e2),aG,q2,λy H3 r3 di S3 e3 aH pi q3=>?_⟩⟩⟩;cases pd with
  | @ref n a hn=>
   cases pi with
   | int k=>
    dsimp only at q3;split at q3
    ·rename_i xs eS;split at q3
     ·rename_i j ej;have hn3:=e3.adr _ _ hn;obtain⟨ys,eH,pr⟩:=aH.b.ob n a _ hn3 eS;obtain⟨aJ,x4⟩:=aH.set hn3 eS (pr.put (p1.ext (e2.trans e3)) j);exact⟨a,ys,k,j,rfl,rfl,eH,by rw[<- pr.1];exact ej,ret.nx _ _ r3 _ _ (e1.trans (e2.trans (e3.trans x4))) (rs.ext (e1.trans (e2.trans (e3.trans x4)))) aJ q3⟩
     ·exact q3.elim
    ·exact q3.elim
   | _=>exact(show False from q3).elim
  | _=>exact(show False from q3).elim
def W7 (f:D->D->Option Bool):List D->D->Option (Option Nat)
 | [],_=>some none
 | y::ys,x=>match f y x,W7 f ys x with
  | some true,some _=>some (some 0)
  | some false,some o=>some (o.map (·+1))
  | _,_=>none
theorem HM:∀ {ys:List D} {o:Option Nat},W7 f ys x=some o->(∀y∈ys,∃c,f y x=some c)/\∀j,o=some j->(∃y,ys[j]?=some y/\f y x=some true)/\∀m y,m<j->ys[m]?=some y->f y x=some false
 | [],o,e=>by
  have h:=Option.some.inj e;subst h;exact⟨(λy hy=>by cases hy),λj z=>by cases z⟩
 | y::ys,o,e=>by
  unfold W7 at e;split at e
  ·rename_i o1 e1 e2;have h:=Option.some.inj e;subst h;obtain⟨h1,_⟩:=HM e2;refine⟨λz hz=>?_,λj hj=>?_⟩
   ·rcases zO.mp hz with rfl|hz
    ·exact⟨true,e1⟩
    ·exact h1 z hz
   ·cases hj;exact⟨⟨y,rfl,e1⟩,λm z hm=>by omega⟩
  ·rename_i o1 e1 e2;have h:=Option.some.inj e;subst h;obtain⟨h1,h2⟩:=HM e2;refine⟨λz hz=>?_,λj hj=>?_⟩
   ·rcases zO.mp hz with rfl|hz
    ·exact⟨false,e1⟩
    ·exact h1 z hz
   ·obtain⟨k,rfl,rfl⟩:=zS.mp hj;obtain⟨⟨z,hz1,hz2⟩,h3⟩:=h2 k rfl;refine⟨⟨z,by simpa using hz1,hz2⟩,λm w hm hw=>?_⟩;cases m with
    | zero=>
     have:w=y:=by simpa using hw.symm
     rw[this];exact e1
    | succ m=>exact h3 m w (by omega) (by simpa using hw)
  ·cases e
theorem zbg (I:Inv X aA σ H s)(hu:A.units+k<cLine)(p:Rps r H ds vs)(rv:ZI vs us)(px:Rp r H dx x)(rx:ZG x u)(e:W7 (eqN k) ds dx=some (some j)):
  ∃g:Value->Bool,(∀y,y∈us.toArray->SeqAt.EqAt A s y u (g y))/\∃hj:j<us.toArray.size,g us.toArray[j]=true/\∀m (hm:m<us.toArray.size),m<j->g us.toArray[m]=false:=by
 obtain⟨h1,h2⟩:=HM e;obtain⟨⟨yj,hyj,htj⟩,hno⟩:=h2 j rfl
 classical
 have at_:∀(m:Nat)(hm:m<us.length),∃d v,ds[m]?=some d/\Rp r H d v/\ZG v us[m]:=λm hm=>by
  have hv:m<vs.length:=by rw[rv.length];exact hm
  have gv:vs[m]?=some vs[m]:=by simp[hv]
  obtain⟨w,gw,rw'⟩:=rv.get gv;obtain⟨d,gd,pd⟩:=p.get' gv;have ew:w=us[m]:=by
   rw[zB hm] at gw;exact(Option.some.inj gw).symm
  subst ew;exact⟨d,_,gd,pd,rw'⟩
 have val:∀(m:Nat)(hm:m<us.length)(d:D)(c:Bool),ds[m]?=some d->eqN k d dx=some c->decide (∃d v,d∈ds/\Rp r H d v/\ZG v us[m]/\eqN k d dx=some true)=c:=λm hm d c hd hc=>by
  obtain⟨d',v',gd,pd,rd⟩:=at_ m hm;rw[hd] at gd;cases gd
  cases c with
  | true=>exact decide_eq_true ⟨d,v',zJ hd,pd,rd,hc⟩
  | false=>
   refine decide_eq_false λ⟨d2,v2,_,pd2,rd2,hc2⟩=>?_
   have ev:=EC rd rd2;subst ev;exact absurd (IF k d d2 dx v' false true pd pd2 hc hc2) (by decide)
 refine⟨λy=>decide (∃d v,d∈ds/\Rp r H d v/\ZG v y/\eqN k d dx=some true),λy hy=>?_,?_⟩
 ·have hy':y∈us:=by simpa using hy
  obtain⟨m,hm,rfl⟩:=xE.mp hy';obtain⟨d,v,gd,pd,rd⟩:=at_ m hm;obtain⟨c,hc⟩:=h1 d (zJ gd);show SeqAt.EqAt A s us[m] u (decide _);rw[val m hm d c gd hc];exact VX k X aA σ H s r A d dx v x _ u c I hu pd px rd rx hc
 ·have hjl:j<us.length:=by
   have:=(zD.mp hyj).1;rw[p.1,rv.length] at this;exact this
  refine⟨by simpa using hjl,?_,λm hm hmj=>?_⟩
  ·have z:=val j hjl yj true hyj htj;simpa using z
  ·have hm':m<us.length:=by simpa using hm
   obtain⟨d,v,gd,pd,rd⟩:=at_ m hm';have z:=val m hm' d false gd (hno m d hmj gd);simpa using z
def M0 (k:Nat)(d y:D)(S:Sto)(Q:DK):Prop:=match d with
 | .ref n=>match lAt S n with
  | some o=>match W7 (eqN k) (Zs o) y with
   | some (some j)=>Q (.int (j:Int)) S
   | _=>False
  | none=>False
 | _=>False
@[irreducible] def Lm (k:Nat)(to:TDE)(t:TDA):TDE:=λdl S Q=>to dl S λd S1=>(match d with
 | .ref n=>(lAt S1 n).isSome=true/\t dl S1 λds S2=>match ds with
  | [y]=>M0 k d y S2 Q
  | _=>False
 | _=>False)
theorem zb0 (hr:Yb j X.A)(hk:k<=3):MtR X "list.index" (λx xs H Qv=>∃(r:List Addr)(S:Sto)(d y:D)(v:V)(Q:DK),Rel X.K Z r S H/\Rp r H d x/\xs=[v]/\Rp r H y v/\M0 k d y S Q/\Ret X.K Z r H Q Qv):=by
 intro aA s σ H x xs v us Qv I rx rv h;obtain⟨r,S,d,y,v1,Q,bD,pd,rfl,py,q,ret⟩:=h;obtain⟨u,rfl,ru⟩:=Wg rv;unfold M0 at q;split at q
 ·rename_i n;split at q
  ·rename_i o eo;obtain⟨eo,eL⟩:=YL eo;split at q
   ·rename_i i ei;cases pd with
    | @ref n a hn=>
     cases rx;obtain⟨a',ha,ob⟩:=bD.at eo;rw[hn] at ha;cases ha
     obtain⟨ys,sq,pr⟩:=ob.list eL;obtain⟨bA,ri,pl,hz⟩:=I.list sq;have hun:=hr.un;obtain⟨g,g1,hj,g2,g3⟩:=zbg (A:=X.A.in1) I (by show X.A.units+1+k<_;omega) pr ri py ru ei;obtain⟨ob2,m,e,c,hd,hdat⟩:=pl;obtain⟨oc,od,odat,osl⟩:=ob2;have c':oc=.type "list":=c
     have hdat':odat=.seq bA.toArray m:=hdat;subst c' hdat';refine call_meets PySem.F.slot_list_index ⟨_,e,rfl⟩ PySem.F.entry_list_index (PySem.F.args_list_index_2 _ _) (PySem.SeqAt.list_indexAt a bA.toArray m od osl u g i hj (by
      have:bA.toArray.size<=sizeLine:=by rw[zV,<- ri.length];exact hz
      have h2:=QF;omega) g2 λm hm h2=>g3 m hm h2) ⟨e,g1,?_⟩
     exact⟨.int (i:Int),H,I.tok _,⟨_,rfl⟩,ret _ H r (.int _) S Ext.refl bD (.int _) q⟩
   ·exact q.elim
  ·exact q.elim
 ·exact q.elim
theorem Fy (hr:Yb j X.A)(hk:k<=3)(ho:PD X Z o to)(ha:PDA X Z [e] t)(hbase:attributeBase o "index" X.env (eval o X.env)=eval o X.env:=by rfl)(hfew:((backTo aM (starEach [e] X.env)).all (λx=>!x.1)&&(backToKw aM (keywordEach [] X.env)).all (λx=>x.1.isSome)
  &&decide ([e].length+([]:List Keyword).length+(if ([]:List Keyword).isEmpty then 0 else 1)<30))=true:=by rfl)(hline:(aO.endLine==aM.line)=true:=by rfl)(hs:starEach [e] X.env=(false,eval e X.env)::starEach [] X.env:=by rfl)(hplain:(backTo aM (starEach [] X.env)).any (·.1)=false:=by rfl):
  PD X Z (.Call (.Attribute o "index" aO) [e] [] aM) (Lm k to t):=
 Yw (EF (T:="list") PySem.F.plainAttrs_list PySem.F.slot_list_index PySem.F.type_list_index (zb0 (Z:=Z) hr hk) ho ha hbase hfew hline hs hplain) λσ H Qv ⟨r,dl,S,Q,rs,bD,h,ret⟩=>by
  unfold Lm at h;refine⟨r,dl,S,_,rs,bD,h,λv H1 r1 d S1 e1 aF p1 q1=>?_⟩;cases p1 with
  | @ref n a hn=>
   obtain⟨aW,q1⟩:=q1;obtain⟨o1,eo⟩:=xF.mp aW;obtain⟨eo,eL⟩:=YL eo;obtain⟨a',ha',ob⟩:=aF.at eo;rw[hn] at ha';cases ha'
   obtain⟨xs,sq,_⟩:=ob.list eL;refine⟨.inl ⟨rfl,xs,sq⟩,r1,dl,S1,_,rs.ext e1,aF,q1,λvs H2 r2 ds S2 e2 aG p2 q2=>?_⟩;split at q2
   ·rename_i y;obtain⟨v2,vs',rfl,p3,p4⟩:=p2.uncons;have z:=p4.unnil;subst z;exact⟨r2,S2,.ref n,y,v2,Q,aG,.ref (e2.adr _ _ hn),rfl,p3,q2,ret.ext (e1.trans e2)⟩
   ·exact q2.elim
  | _=>exact(show False from q1).elim
end
section
variable {X:Cx}{aA:LA}{σ:St}{H:Hp}{s:Shared}{h':Heap}
theorem Fh {t':Nat}{ch:List Addr}{T:Addr}{xs:List V}{vals:Array Value}(I:Inv X aA σ H s)(k:∀b o,b ∉ ch->s.heap.get? b=some o->h'.get? b=some o)(hch:∀b∈ch,Xb X aA H b)
  (hT:s.heap.objs.size<=T)(ht:h'.IsTuple T vals)(rv:ZI xs vals.toList)(hl:xs.length<=sizeLine):Inv X aA σ (upd H T (.tup xs)) { s with heap:=h',toks:=t' }:=by
 have hTn:H T=none:=I.hok.fresh hT
 have old:∀ {b:Addr} {o:Obj},s.heap.get? b=some o->b≠T:=λ{b o} e z=>absurd (yB (Heap.lt_size e) hT) (by rw[z];exact yV _)
 have trk:∀b u,H b=some u->b ∉ ch:=λb u e z=>by
  rw[(hch b z).1] at e;cases e
 have up:∀b u,H b=some u->(upd H T (.tup xs)) b=some u:=Xs hTn;refine I.step (g':=s.gens) (d':=s.drawn) (ch:=ch) (λb hb=>?_) (λb o _ _ hc e _=>k b o hc e) (λb o _ _ hc e _=>⟨o.slots,k b o hc e⟩) (λb o _ e n=>by rw[Yl (old e)];exact n)
  (λb o hc e=>⟨o,k b o hc e⟩) (λb ys e=>up _ _ e) (λb o u e=>up _ _ e) (λb ps e=>⟨#[],by rw[up _ _ e];simp⟩) (λm hm=>?_) (λb u e=>?_) I.bare
 ·obtain⟨_,f1,_,f3,f4,f5⟩:=hch b hb;exact⟨f3,f1,f4,f5⟩
 ·obtain⟨o,es,ep,ho,r⟩:=hm;exact⟨o,es,ep,k _ o (λz=>(hch _ z).2.1 rfl) ho,r⟩
 ·by_cases hb:b=T
  ·subst hb;rw[XB] at e;cases e;exact⟨hl,vals.toList,rv,by rw[Array.toArray_toList];exact ht⟩
  ·rw[Yl hb] at e;refine(I.hok b u e).stay (λc v hc q=>k c v ?_ q) (λd z=>up _ _ z) λd ys z=>up _ _ z
   rcases hc with z|z
   ·rw[z];exact trk b u e
   ·exact trk c _ z
theorem Ly {t':Nat}{ch:List Addr}(I:Inv X aA σ H s)(k:∀b o,b ∉ ch->s.heap.get? b=some o->h'.get? b=some o)(hch:∀b∈ch,Xb X aA H b):Inv X aA σ H { s with heap:=h',toks:=t' }:=by
 have trk:∀b u,H b=some u->b ∉ ch:=λb u e z=>by
  rw[(hch b z).1] at e;cases e
 refine I.step (g':=s.gens) (d':=s.drawn) (ch:=ch) (λb hb=>?_) (λb o _ _ hc e _=>k b o hc e) (λb o _ _ hc e _=>⟨o.slots,k b o hc e⟩) (λb o _ e n=>n)
  (λb o hc e=>⟨o,k b o hc e⟩) (λb ys e=>e) (λb o u e=>e) (λb ps e=>⟨#[],by rw[e];simp⟩) (λm hm=>?_) (λb u e=>?_) I.bare
 ·obtain⟨_,f1,_,f3,f4,f5⟩:=hch b hb;exact⟨f3,f1,f4,f5⟩
 ·obtain⟨o,es,ep,ho,r⟩:=hm;exact⟨o,es,ep,k _ o (λz=>(hch _ z).2.1 rfl) ho,r⟩
 ·refine(I.hok b u e).stay (λc v hc q=>k c v ?_ q) (λd z=>z) λd ys z=>z
  rcases hc with z|z
  ·rw[z];exact trk b u e
  ·exact trk c _ z
end
def Ite (K:Fg)(a:Addr):It:=
 ⟨λi H=>∃xs x,SqL K H a xs/\xs[i]?=some x,λi H x H'=>∃T v,x=.ref T/\H T=none/\H'=upd H T (.tup [.int (i:Int),v])/\∀xs,SqL K H a xs->xs[i]?=some v,λi H=>∃xs,SqL K H a xs/\xs.length=i⟩
theorem D3 {P:Program}{w:World}{K:Fg}{aT:List Expr}{kk:Nat}{tp:Pos}(a e it:Addr)(hei:e≠it)(hae:a≠e)(hai:a≠it):
  Tr P w K (.Tuple aT kk tp) (Ite K a) [e,it] e (λi h=>(∃old,IsEnum h e it i old)/\h.IsListIter it a i) where
 mem:=by simp
 obj:=λi h st b hb=>by
  obtain⟨⟨old,he⟩,o,e1,c,d⟩:=st;have hb':b=e\/b=it:=by simpa using hb
  rcases hb' with rfl|rfl
  ·exact⟨_,he,λv z=>by cases z⟩
  ·exact⟨o,e1,λv z=>by rw[d] at z;cases z⟩
 keep:=λi h h' st k=>by
  obtain⟨⟨old,he⟩,hit⟩:=st;exact⟨⟨old,k e (by simp) _ he⟩,hit.at λo x=>k it (by simp) o x⟩
 item:=by
  intro X hP hw hK hc i aA s σ H E I hf st hg;subst hP hw hK;obtain⟨xs,x,hq,hx⟩:=hg;obtain⟨bA,rv,p,hz⟩:=I.list hq;obtain⟨u,hu,ru⟩:=rv.get hx;have hi:i<bA.toArray.size:=by
   have:=(zD.mp hu).1;simpa using this
  have W:=WalksT.enumerate (prog:=X.prog) (w:=X.w) (A:=X.A) (I.ok.hd hc) e it a hei hae hai bA.toArray;refine W.item i s _ _ hi ⟨st.1,st.2,p.isList⟩ λT vals h' tk hP hT ht mid k1=>?_
  obtain⟨t,y,hy,rfl⟩:=hP;have ey:y=u:=by
   have z:bA[i]?=some y:=by simpa using hy
   rw[hu] at z;exact(Option.some.inj z).symm
  subst ey;have hw:∀b∈[e,it],Xb X aA H b:=hf
  have I1:Inv X aA σ (upd H T (.tup [.int (i:Int),x])) { s with heap:=h',toks:=tk }:=Fh I k1 hw hT ht (.cons ⟨t,rfl⟩ (.cons ru .nil)) (show 2<=sizeLine from Ul (by decide))
  have neT:∀b∈[e,it],b≠T:=λb hb z=>W.apart i T h' mid (z ▸ hb)
  have hf1:∀b∈[e,it],Xb X aA (upd H T (.tup [.int (i:Int),x])) b:=λb hb=>⟨by rw[Yl (neT b hb)];exact(hf b hb).1,(hf b hb).2⟩
  refine⟨.ref T,rfl,W.go aT kk tp i T _ _ _ mid λh2 st2 k2=>?_⟩;have I2:Inv X aA σ (upd H T (.tup [.int (i:Int),x])) { s with heap:=h2,toks:=tk }:=Ly (s:={ s with heap:=h',toks:=tk }) (t':=tk) I1 k2 hf1;exact⟨.ref T,_,I2,rfl,⟨T,x,rfl,I.hok.fresh hT,rfl,λys hy=>by rw[I.list_inj hy hq];exact hx⟩,⟨st2.1,st2.2.1⟩,λb hb=>(hf1 b hb).1⟩
 done:=by
  intro X hP hw hK hc i aA s σ H E I hf st hg;subst hP hw hK;obtain⟨xs,hq,hx⟩:=hg;obtain⟨bA,rv,p,hz⟩:=I.list hq;have W:=WalksT.enumerate (prog:=X.prog) (w:=X.w) (A:=X.A) (I.ok.hd hc) e it a hei hae hai bA.toArray
  have hi:i=bA.toArray.size:=by rw[zV,<- rv.length];exact hx.symm
  subst hi;exact W.done s _ _ ⟨st.1,st.2,p.isList⟩ λh' tk k1=>⟨rfl,Ly (t':=tk) I k1 hf⟩
 self:=λA i s Q E st h=>by
  obtain⟨⟨old,he⟩,_⟩:=st;exact wpAny_pyIter_enum he h
section
variable {X:Cx}
def FQ (K:Fg)(ta:TA):TI:=λσ H R=>ta σ H λvs H1=>∃a,vs=[.ref a]/\(∃xs,SqL K H1 a xs)/\R (Ite K a) H1
theorem CO {a:Expr}{ta:TA}{p pos tp:Pos}{aT:List Expr}{kk:Nat}(hg:Gl X "enumerate")(hm:X.mg "enumerate"=none)(hv:bootBuiltins "enumerate"=some (.type "enumerate"))(ha:PA X [a] ta)(hs:starEach [a] X.env=[(false,eval a X.env)]:=by rfl):
  PI X (.Tuple aT kk tp) (.Call (.Name "enumerate" p) [a] [] pos) (FQ X.K ta):=by
 intro aA s σ H R I h;refine Call_ (V9 I hg hm hv (PyProof.Rows.callWith_type1 (thn (ha pos aA s σ H _ I h) λus s1 ⟨vs,H1,I1,r1,q1⟩=>?_) hs rfl));obtain⟨l,e,⟨xs,hq⟩,q⟩:=q1;subst e;cases r1 with
 | cons r rr=>
  cases rr;cases r;obtain⟨bA,rv,pl,hz⟩:=I1.list hq;have hll:l<s1.heap.objs.size:=by
   obtain⟨o,e,_⟩:=pl.isList;exact Heap.lt_size e
  refine call_enumerate_list pl.isList λh' he hit hsz hk=>?_
  have I2:Inv X aA σ H1 { s1 with heap:=h' }:=I1.kept (t':=s1.toks) hk;refine wpAny_pyIter_enum he ⟨s1.heap.objs.size+1,[s1.heap.objs.size+1,s1.heap.objs.size],_,_,H1,rfl,I2,D3 l _ _ (Nat.succ_ne_self _) (zW (Nat.lt_succ_of_lt hll)) (zW hll),⟨⟨_,he⟩,hit⟩,λb hb=>?_,q⟩;have hb':b=s1.heap.objs.size+1\/b=s1.heap.objs.size:=by simpa using hb
  rcases hb' with rfl|rfl
  ·exact I1.fpOk (Nat.le_succ _) (I1.hok.fresh (Nat.le_succ _))
  ·exact I1.fpOk (zC _) (I1.hok.fresh (zC _))
end
def Itz (K:Fg)(a b:Addr):It:=
  ⟨λi H=>∃xs ys x y,SqL K H a xs/\SqL K H b ys/\xs[i]?=some x/\ys[i]?=some y,
   λi H x H'=>∃T v u,x=.ref T/\H T=none/\H'=upd H T (.tup [v,u])/\(∀xs,SqL K H a xs->xs[i]?=some v)/\∀ys,SqL K H b ys->ys[i]?=some u,
   λi H=>∃xs ys,SqL K H a xs/\SqL K H b ys/\min xs.length ys.length=i⟩
theorem zd1 {P:Program}{w:World}{K:Fg}{aT:List Expr}{kk:Nat}{tp:Pos}(a b z TI TO i1 i2:Addr)(D:ZipApart z TI TO i1 i2 a b):
  Tr P w K (.Tuple aT kk tp) (Itz K a b) [z,TI,TO,i1,i2] z (λi h=>IsZip h z TI TO .none/\IsPair h TI (.ref i1) (.ref i2)/\(∃p q,IsPair h TO p q)/\h.IsListIter i1 a i/\h.IsListIter i2 b i) where
 mem:=by simp
 obj:=λi h st c hc=>by
  obtain⟨hz,hTI,⟨p,q,hTO⟩,⟨o1,e1,c1,d1⟩,o2,e2,c2,d2⟩:=st;have hc':c=z\/c=TI\/c=TO\/c=i1\/c=i2:=by simpa using hc
  rcases hc' with rfl|rfl|rfl|rfl|rfl
  ·exact⟨_,hz,λv y=>by cases y⟩
  ·exact⟨_,hTI,λv y=>by cases y⟩
  ·exact⟨_,hTO,λv y=>by cases y⟩
  ·exact⟨o1,e1,λv y=>by rw[d1] at y;cases y⟩
  ·exact⟨o2,e2,λv y=>by rw[d2] at y;cases y⟩
 keep:=λi h h' st k=>by
  obtain⟨hz,hTI,⟨p,q,hTO⟩,h1,h2⟩:=st;exact⟨k z (by simp) _ hz,k TI (by simp) _ hTI,⟨p,q,k TO (by simp) _ hTO⟩,h1.at λo x=>k i1 (by simp) o x,h2.at λo x=>k i2 (by simp) o x⟩
 item:=by
  intro X hP hw hK hc i aA s σ H E I hf st hg;subst hP hw hK;obtain⟨xs,ys,x,y,hq,hq2,hx,hy⟩:=hg;obtain⟨bA,rv,p,_⟩:=I.list hq;obtain⟨jts,rv2,p2,_⟩:=I.list hq2;obtain⟨u,hu,ru⟩:=rv.get hx;obtain⟨u2,hu2,ru2⟩:=rv2.get hy;have hi:i<min bA.toArray.size jts.toArray.size:=by
   have z1:=(zD.mp hu).1
   have z2:=(zD.mp hu2).1
   have sizes:bA.toArray.size=bA.length/\jts.toArray.size=jts.length:=⟨by simp,by simp⟩;omega
  have W:=WalksT.zip2 (prog:=X.prog) (w:=X.w) (A:=X.A) (I.ok.hd hc) z TI TO i1 i2 a b D bA.toArray jts.toArray;obtain⟨s1,s2,s3,s4,s5⟩:=st;refine W.item i s _ _ hi ⟨s1,s2,s3,s4,s5,p.isList,p2.isList⟩ λT vals h' tk hP hT ht mid k1=>?_
  obtain⟨v1,v2,hv1,hv2,rfl⟩:=hP;have e1:v1=u:=by
   have z:bA[i]?=some v1:=by simpa using hv1
   rw[hu] at z;exact(Option.some.inj z).symm
  have e2:v2=u2:=by
   have z:jts[i]?=some v2:=by simpa using hv2
   rw[hu2] at z;exact(Option.some.inj z).symm
  subst e1 e2;have sub:∀c∈[z,TO,i1,i2],c∈[z,TI,TO,i1,i2]:=λc hc=>by
   have hc':c=z\/c=TO\/c=i1\/c=i2:=by simpa using hc
   rcases hc' with rfl|rfl|rfl|rfl<;>simp
  have I1:Inv X aA σ (upd H T (.tup [x,y])) { s with heap:=h',toks:=tk }:=Fh I k1 (λc hc=>hf c (sub c hc)) hT ht (.cons ru (.cons ru2 .nil)) (show 2<=sizeLine from Ul (by decide))
  have tiT:TI≠T:=λq=>by
   have hl:TI<s.heap.objs.size:=Heap.lt_size s2;rw[q] at hl;exact absurd (yB hl hT) (yV _)
  have neT:∀c∈[z,TI,TO,i1,i2],c≠T:=λc hc q=>by
   have hc':c=TI\/c∈[z,TO,i1,i2]:=by
    have hc2:c=z\/c=TI\/c=TO\/c=i1\/c=i2:=by simpa using hc
    rcases hc2 with rfl|rfl|rfl|rfl|rfl<;>simp
   rcases hc' with rfl|hc'
   ·exact tiT q
   ·exact W.apart i T h' mid (q ▸ hc')
  have hf1:∀c∈[z,TI,TO,i1,i2],Xb X aA (upd H T (.tup [x,y])) c:=λc hc=>⟨by rw[Yl (neT c hc)];exact(hf c hc).1,(hf c hc).2⟩
  refine⟨.ref T,rfl,W.go aT kk tp i T _ _ _ mid λh2 st2 k2=>?_⟩;have I2:Inv X aA σ (upd H T (.tup [x,y])) { s with heap:=h2,toks:=tk }:=Ly (s:={ s with heap:=h',toks:=tk }) (t':=tk) I1 k2 λc hc=>hf1 c (sub c hc)
  obtain⟨t1,t2,t3,t4,t5,_,_⟩:=st2;exact⟨.ref T,_,I2,rfl,⟨T,x,y,rfl,I.hok.fresh hT,rfl,λzs hz=>by rw[I.list_inj hz hq];exact hx,λzs hz=>by rw[I.list_inj hz hq2];exact hy⟩,⟨t1,t2,t3,t4,t5⟩,λc hc=>(hf1 c hc).1⟩
 done:=by
  intro X hP hw hK hc i aA s σ H E I hf st hg;subst hP hw hK;obtain⟨xs,ys,hq,hq2,hx⟩:=hg;obtain⟨bA,rv,p,_⟩:=I.list hq;obtain⟨jts,rv2,p2,_⟩:=I.list hq2;have W:=WalksT.zip2 (prog:=X.prog) (w:=X.w) (A:=X.A) (I.ok.hd hc) z TI TO i1 i2 a b D bA.toArray jts.toArray
  have hi:i=min bA.toArray.size jts.toArray.size:=by rw[zV,zV,<- rv.length,<- rv2.length];exact hx.symm
  subst hi;have sub:∀c∈[z,TO,i1,i2],c∈[z,TI,TO,i1,i2]:=λc hc=>by
   have hc':c=z\/c=TO\/c=i1\/c=i2:=by simpa using hc
   rcases hc' with rfl|rfl|rfl|rfl<;>simp
  obtain⟨s1,s2,s3,s4,s5⟩:=st;exact W.done s _ _ ⟨s1,s2,s3,s4,s5,p.isList,p2.isList⟩ λh' tk k1=>⟨rfl,Ly (t':=tk) I k1 λc hc=>hf c (sub c hc)⟩
 self:=λA i s Q E st h=>wpAny_pyIter_zip st.1 h
section
variable {X:Cx}
theorem zdP {n l m:Nat}(h1:l<n)(h2:m<n):ZipApart (n+4) (n+2) (n+3) n (n+1) l m:=by
 have ne:∀ {i j:Nat},i<j\/j<i->i≠j:=λ{i j} h z=>by omega
 exact⟨ne (by omega),ne (by omega),ne (by omega),ne (by omega),ne (by omega),ne (by omega),ne (by omega),ne (by omega),ne (by omega),ne (by omega),ne (by omega),ne (by omega),ne (by omega),ne (by omega),ne (by omega),ne (by omega),ne (by omega),ne (by omega)⟩
def iZip (K:Fg)(ta:TA):TI:=λσ H R=>ta σ H λvs H1=>∃a b,vs=[.ref a,.ref b]/\(∃xs,SqL K H1 a xs)/\(∃ys,SqL K H1 b ys)/\R (Itz K a b) H1
theorem Jo {a b:Expr}{ta:TA}{p pos tp:Pos}{aT:List Expr}{kk:Nat}(hg:Gl X "zip")(hm:X.mg "zip"=none)(hv:bootBuiltins "zip"=some (.type "zip"))(ha:PA X [a,b] ta)
  (hs:starEach [a,b] X.env=[(false,eval a X.env),(false,eval b X.env)]:=by rfl)(hs2:starEach [b] X.env=[(false,eval b X.env)]:=by rfl):PI X (.Tuple aT kk tp) (.Call (.Name "zip" p) [a,b] [] pos) (iZip X.K ta):=by
 intro aA s σ H R I h;refine Call_ (V9 I hg hm hv (PyProof.Rows.callWith_type1 (thn (ha pos aA s σ H _ I h) λus s1 ⟨vs,H1,I1,r1,q1⟩=>?_) (by rw[hs,hs2]) (by rw[hs2];rfl)));obtain⟨l,m,e,⟨xs,hq⟩,⟨ys,hq2⟩,q⟩:=q1;subst e;cases r1 with
 | cons r rr=>
  cases rr with
  | cons r2 rr=>
   cases rr;cases r;cases r2;obtain⟨bA,rv,pl,_⟩:=I1.list hq;obtain⟨jts,rv2,pl2,_⟩:=I1.list hq2;have h1:l<s1.heap.objs.size:=by
    obtain⟨o,e,_⟩:=pl.isList;exact Heap.lt_size e
   have h2:m<s1.heap.objs.size:=by
    obtain⟨o,e,_⟩:=pl2.isList;exact Heap.lt_size e
   refine call_zip_2 pl.isList pl2.isList λh' hz hTI hTO hi1 hi2 hsz hk=>?_
   have I2:Inv X aA σ H1 { s1 with heap:=h' }:=I1.kept (t':=s1.toks) hk
   have D:=zdP h1 h2;refine wpAny_pyIter_zip hz ⟨s1.heap.objs.size+4,[s1.heap.objs.size+4,s1.heap.objs.size+2,s1.heap.objs.size+3,s1.heap.objs.size,s1.heap.objs.size+1],_,_,H1,rfl,I2,zd1 l m _ _ _ _ _ D,⟨hz,hTI,⟨_,_,hTO⟩,hi1,hi2⟩,λc hc=>?_,q⟩;have hge:s1.heap.objs.size<=c:=by
    have hc':c=s1.heap.objs.size+4\/c=s1.heap.objs.size+2\/c=s1.heap.objs.size+3\/c=s1.heap.objs.size\/c=s1.heap.objs.size+1:=by simpa using hc
    rcases hc' with rfl|rfl|rfl|rfl|rfl
    ·exact Nat.le_add_right _ _
    ·exact Nat.le_add_right _ _
    ·exact Nat.le_add_right _ _
    ·exact zC _
    ·exact Nat.le_add_right _ _
   exact I1.fpOk hge (I1.hok.fresh hge)
end
section
variable {X:Cx}{Z:Zx}{pos:Pos}
theorem XZ {r r':List Addr}{S':Sto}{H':Hp}{n:Nat}{a:Addr}{o:Ob}(hn:r'[n]?=some a)(bD:Yh X.K r' S' H')(eo:lAt S' n=some o):∃xs,SqL X.K H' a xs/\Rps r' H' (Zs o) xs:=by
 obtain⟨eo,eL⟩:=YL eo;obtain⟨a',ha,ob⟩:=bD.at eo;rw[hn] at ha;cases ha
 exact ob.list eL
@[irreducible] def O2 (is:List Nat)(ta:TDA)(tb:TDS):TDS:=λE dl S=>ta dl S λds S1=>match ds with
 | [.ref n,.ref n']=>((lAt S1 n).isSome=true/\(lAt S1 n').isSome=true)/\∃W:Nat->Nat->Ev->Sto->Prop,(∃m,W 0 m dl S1)/\∀k m dl S,W k m dl S->match lAt S n,lAt S n' with
  | some o,some o'=>match (Zs o)[k]?,(Zs o')[k]? with
   | some x,some y=>tb { nx:=λdl' S'=>∃m',m'<m/\W (k+1) m' dl' S',rt:=E.rt,bk:=E.nx,ct:=λdl' S'=>∃m',m'<m/\W (k+1) m' dl' S' } (Vh is [x,y] dl) S
   | _,_=>k=min (Zs o).length (Zs o').length/\E.nx dl S
  | _,_=>False
 | _=>False
theorem zan {i1 i2:Expr}{body:List Stmt}{es:List Expr}{kk:Nat}{tp p aQ:Pos}{is:List Nat}{ta:TDA}{tb:TDS}(hp:PassesOwn (model X.prog X.w) X.A X.env X.xe)(hc:X.calm=true)(hN:X.N.Nodup)(hn:Nms X es is)(h2:is.length=2)
  (hg:Gl X "zip")(hm:X.mg "zip"=none)(hv:bootBuiltins "zip"=some (.type "zip"))(ha:PDA X Z [i1,i2] ta)(hb:XC X Z body tb)
  (aU:(assignEach es X.env).length=is.length:=by rfl)(hst:(assignEach es X.env).findIdx? (·.1)=none:=by rfl)(hse:starEach [i1,i2] X.env=[(false,eval i1 X.env),(false,eval i2 X.env)]:=by rfl)(hse2:starEach [i2] X.env=[(false,eval i2 X.env)]:=by rfl)
  (hs:∀y,foldedSetIterable (.Call (.Name "zip" p) [i1,i2] [] aQ) X.env y=pure y:=by intro _;rfl):PDS X Z (.For (.Tuple es kk tp) (.Call (.Name "zip" p) [i1,i2] [] aQ) body [] pos) (O2 is ta tb):=
 YO (UB hp hc (Jo hg hm hv ha hse hse2) (UY hc (Uz hN hn) aU hst) hb hs) λF σ H ⟨r,dl,S,E,rs,bD,h,ret⟩=>by
  unfold O2 at h;refine⟨r,dl,S,_,rs,bD,h,λvs H1 r1 ds S1 x1 aF p1 q1=>?_⟩;split at q1
  ·rename_i n n';obtain⟨v,vs',rfl,p2,p3⟩:=p1.uncons;obtain⟨v',vs2,rfl,p4,p5⟩:=p3.uncons;have z:=p5.unnil;subst z;cases p2 with
   | @ref n a hr=>
    cases p4 with
    | @ref n' a' hr'=>
     obtain⟨⟨aW,hsome'⟩,W,⟨m0,w0⟩,turn⟩:=q1;obtain⟨o1,eo1⟩:=xF.mp aW;obtain⟨o2,eo2⟩:=xF.mp hsome';obtain⟨xs1,sq1,_⟩:=XZ (r:=r1) hr aF.b eo1;obtain⟨ys1,sq2,_⟩:=XZ (r:=r1) hr' aF.b eo2;refine⟨a,a',rfl,⟨xs1,sq1⟩,⟨ys1,sq2⟩,λk m σ' H'=>∃r' dl' S',Ext r1 r' H1 H'/\Rs r' H' dl' σ'/\Rel X.K Z r' S' H'/\W k m dl' S',⟨m0,r1,dl,S1,Ext.refl,rs.ext x1,aF,w0⟩,?_⟩;rintro k m σ2 H2 ⟨r2,dl2,S2,x2,rs2,aG,w2⟩;have q:=turn k m dl2 S2 w2;split at q
     ·rename_i o o' eo eo';obtain⟨xs,sq,pr⟩:=XZ (r:=r2) (x2.adr _ _ hr) aG.b eo;obtain⟨ys,sq',pr'⟩:=XZ (r:=r2) (x2.adr _ _ hr') aG.b eo';split at q
      ·rename_i y y2 ey ey2;obtain⟨v,hvv,pv⟩:=pr.get ey;obtain⟨u,hvu,pu⟩:=pr'.get ey2;refine .inr ⟨⟨xs,ys,v,u,sq,sq',hvv,hvu⟩,λσ' H'=>∃m',m'<m/\∃r' dl' S',Ext r1 r' H1 H'/\Rs r' H' dl' σ'/\Rel X.K Z r' S' H'/\W (k+1) m' dl' S',λ_ _ z=>z,λv' H' y'=>?_⟩;obtain⟨T,w,w2',rfl,hT,rfl,hw,hw2⟩:=y';have ew:w=v:=by
        have z:=hw xs sq;rw[hvv] at z;exact(Option.some.inj z).symm
       have ew2:w2'=u:=by
        have z:=hw2 ys sq';rw[hvu] at z;exact(Option.some.inj z).symm
       subst ew ew2;have x3:Ext r2 r2 H2 (upd H2 T (.tup [w,w2'])):=Mg hT
       have pp:Rps r2 (upd H2 T (.tup [w,w2'])) [y,y2] [w,w2']:=Rps.cons (pv.ext x3) (Rps.cons (pu.ext x3) Rps.nil)
       have aH:=aG.same (Xs (o:=.tup [w,w2']) hT)
       have go:∀σ' H' r' dl' S',Ext r2 r' (upd H2 T (.tup [w,w2'])) H'->Rs r' H' dl' σ'->Rel X.K Z r' S' H'->(∃m',m'<m/\W (k+1) m' dl' S')->∃m',m'<m/\∃r' dl' S',Ext r1 r' H1 H'/\Rs r' H' dl' σ'/\Rel X.K Z r' S' H'/\W (k+1) m' dl' S':=
        λσ' H' r' dl' S' x rs' rel' ⟨m',hm,w'⟩=>⟨m',hm,r',dl',S',x2.trans (x3.trans x),rs',rel',w'⟩
       exact⟨T,[w,w2'],rfl,SqT.of XB,by rw[h2];rfl,by rw[h2];rfl,r2,_,S2,_,OH (rs2.ext x3) pp,aH,q,⟨go,λσ' H' r' dl' S' x rs' rel' z=>ret.nx σ' H' r' dl' S' (x1.trans (x2.trans (x3.trans x))) rs' rel' z,go,ret.rt.ext (x1.trans (x2.trans x3))⟩⟩
      ·obtain⟨hk,q⟩:=q;exact .inl ⟨⟨xs,ys,sq,sq',by rw[<- pr.1,<- pr'.1];exact hk.symm⟩,ret.nx σ2 H2 r2 dl2 S2 (x1.trans x2) rs2 aG q⟩
     ·exact q.elim
  ·exact q1.elim
end
end L3
namespace L3
open PySem PySem.Spec PyProof.Rows L2
structure Dm (K:Fg)(C:Addr)(m aL:Str)(st:Stmt)(ps:List Str) where
 f:Addr
 fd:FuncData
 F:Fun K m aL st f fd
 m:Tf K C m f
 b:Xi K fd ps []
structure Fm (P:Program)(w:World)(K:Fg)(mg:Str->Option Value)(base:Heap)(k:Nat)(C:Addr)(x:Str)(ps:List Str)(sd:Sd) where
 f:Addr
 fd:FuncData
 ok:YI P w K mg base (CXE P w) k f fd ps (upF K sd)
 m:Tf K C x f
 b:Xi K fd ps []
def Dm.mk' {P:Program}{w:World}{K:Fg}{mg:Str->Option Value}{base:Heap}{k:Nat}{C:Addr}{x aL:Str}{st:Stmt}{ps:List Str}{sd:Sd}(d:Dm K C x aL st ps)(h:YI P w K mg base (CXE P w) k d.f d.fd ps (upF K sd)):Fm P w K mg base k C x ps sd:=
 ⟨d.f,d.fd,h,d.m,d.b⟩
theorem T9:O8 (CXE P w) X (λ_ _ _=>False):=λ_ _ _ _ _ _ _ h=>by
 obtain⟨_,_,_,_,_,_,_,_,_,_,_,_,q⟩:=h;exact q.elim
section
variable {X:Cx}{Z:Zx}
theorem zcW (hr:Yb k X.A):OpR X (compareOp .In) (upO X.K Z (Y9 (wIn 1 false))):=by rw[Wa];exact do_in 1 (by have:=hr.un;omega)
theorem zbT (hr:Yb k X.A):OpR X (compareOp .NotIn) (upO X.K Z (Y9 (wIn 1 true))):=by rw[Wa];exact AK 1 (by have:=hr.un;omega)
theorem BF (hr:Yb k X.A):OpR X (compareOp .Eq) (upO X.K Z (Y9 (V8 1))):=by rw[Wa];exact AD 1 hr (by have:=hr.un;omega)
end
section
variable {X:Cx}{Z:Zx}{pos:Pos}
theorem CM (I:Inv X aA σ H s)(bD:Rel X.K Z r S H)(hn:r[n]?=some a)(hm:r[m]?=some a')(eo:lAt S n=some o)(eo':lAt S m=some o')(e:eqL (eqN k) (Zs o) (Zs o')=some b)(hu:X.A.units+1+k<cLine):SeqAt.RcNeAt X.A s (.ref a) (.ref a') (!b):=by
 obtain⟨eo,eL⟩:=YL eo;obtain⟨eo',eL'⟩:=YL eo';obtain⟨z,hz,ob⟩:=bD.at eo;rw[hn] at hz;cases hz
 obtain⟨z,hz,ob'⟩:=bD.at eo';rw[hm] at hz;cases hz
 obtain⟨xs,sq,pr⟩:=ob.list eL;obtain⟨ys,sq',pr'⟩:=ob'.list eL';obtain⟨is,ri,pl,_⟩:=I.list sq;obtain⟨js,rj,pl',_⟩:=I.list sq';obtain⟨g1,g2⟩:=QD (A:=X.A.in1) (VX k) I (by show X.A.units+1+k<_;omega) pr pr' ri rj e;by_cases hs:is.toArray.size=js.toArray.size
 ·have q:=SeqAt.RcNeAt.lists (A:=X.A) pl.isList pl'.isList hs (by omega) g1
  have e2:(List.range is.toArray.size).all (X8 (eqN k) (Zs o) (Zs o'))=b:=by
   rw[<- g2,<- hs,Nat.min_self];simp
  rw[e2] at q;exact q
 ·have q:=SeqAt.RcNeAt.lists_lengths (A:=X.A) pl.isList pl'.isList (by simpa using hs) (by omega)
  have e2:b=false:=by
   rw[<- g2,show (is.toArray.size==js.toArray.size)=false by simpa using hs,Bool.and_false]
  rw[e2];exact q
theorem zbG (k:Nat)(hr:Yb j X.A)(hu:X.A.units+1+k<cLine):OpR X (compareOp .NotEq) (upO X.K Z (Uh k)):=by
 intro aA s σ H x y v u Qv I rx ry h;obtain⟨r,S,dx,dy,Q,bD,px,py,q,ret⟩:=h;have flat:∀ {dx dy:D} {x y:V},Rp r H dx x->Rp r H dy y->ZG x v->ZG y u->Vw k S dx dy=eqN (k+1) dx dy->Uh k dx dy S Q->wpAny (model X.prog X.w) X.A (compareOp .NotEq v u) (EP X aA σ Qv) X.xe s:=λpx py rx ry e q=>by
  refine FV (Z:=Z) (VX k) hu aA s σ H _ _ v u Qv I rx ry ⟨r,S,_,_,Q,bD,px,py,?_,ret⟩;unfold Uh at q;rw[e] at q;exact q
 cases px with
 | @ref n a hn=>
  cases py with
  | @ref m a' hm=>
   cases rx;cases ry;unfold Uh Vw at q;dsimp only at q;split at q
   ·rename_i b e;split at e
    ·rename_i o o' eo eo';exact CM I bD hn hm eo eo' e hu X.prog X.w X.xe _ ⟨.bl (!b),H,I,rfl,ret _ _ _ _ _ Ext.refl bD (.bl (!b)) q⟩
    ·cases e
   ·exact q.elim
  | non=>exact flat (.ref hn) .non rx ry rfl q
  | bl i=>exact flat (.ref hn) (.bl i) rx ry rfl q
  | int i=>exact flat (.ref hn) (.int i) rx ry rfl q
  | str i=>exact flat (.ref hn) (.str i) rx ry rfl q
  | tup a b c=>exact flat (.ref hn) (.tup a b c) rx ry rfl q
  | exc a=>exact flat (.ref hn) (.exc a) rx ry rfl q
 | non=>exact flat .non py rx ry rfl q
 | bl i=>exact flat (.bl i) py rx ry rfl q
 | int i=>exact flat (.int i) py rx ry rfl q
 | str i=>exact flat (.str i) py rx ry rfl q
 | tup a b c=>exact flat (.tup a b c) py rx ry rfl q
 | exc a=>exact flat (.exc a) py rx ry rfl q
theorem Cd (hr:Yb k X.A):OpR X (compareOp .NotEq) (upO X.K Z (Y9 (Uh 1))):=by rw[Wa];exact zbG 1 hr (by have:=hr.un;omega)
theorem Rps.app:∀ {ds es:List D} {xs ys:List V},Rps r H ds xs->Rps r H es ys->Rps r H (ds++es) (xs++ys)
 | [],es,xs,ys,p,q=>by
  have z:=p.unnil;subst z;exact q
 | d::ds,es,xs,ys,p,q=>by
  obtain⟨v,vs,rfl,p1,p2⟩:=p.uncons;exact Rps.cons p1 (p2.app q)
def MT (X:Cx)(m:Str)(tbl:List (Addr×Sd)):Prop:=∀C sd,(C,sd)∈tbl->Cls X.K C/\∃(f:Addr)(fd:FuncData)(k:Nat)(ps:List Str),Tf X.K C m f/\YI X.prog X.w X.K X.mg X.base (CXE X.prog X.w) k f fd ps (upF X.K sd)/\Yb k X.A/\Xi X.K fd ps []
theorem G3:MT X m []:=λ_ _ h=>by cases h
theorem X3 (c:Cls X.K C)(G:Fm X.prog X.w X.K X.mg X.base k C m ps sd)(hr:Yb k X.A)(h:MT X m tbl):MT X m ((C,sd)::tbl):=λC' sd' hm=>by
 rcases zO.mp hm with e|e
 ·cases e;exact⟨c,G.f,G.fd,k,ps,G.m,G.ok,hr,G.b⟩
 ·exact h C' sd' e
theorem CU (he:PE X o ta)(M:MT X m tbl)(hx:WW X W)(ha:PA X (e::es) t)(hst:starEach (e::es) X.env=(false,eval e X.env)::starEach es X.env)(hpl:(backTo pos (starEach es X.env)).any (·.1)=false)(ht:eval (.Call (.Attribute o m aO) (e::es) [] pos) X.env=(do
   let ov <- eval o X.env
   standAt aO.atName
   let (f,first) <- holding [ov] (getMethod ov m pl)
   callWith pos f first (backTo pos (starEach (e::es) X.env)) (backToKw pos (keywordEach [] X.env)))):
  PE X (.Call (.Attribute o m aO) (e::es) [] pos) (λσ H Q=>ta σ H λx H1=>∃a C dx fs sd,x=.ref a/\H1 a=some (.ins C dx fs)/\(C,sd)∈tbl/\fs.lookup m=none/\t σ H1 λvs H2=>upF X.K sd (x::vs) H2 Q (W σ)):=by
 intro aA s σ H Q I h;refine PySem.W.methodCall_KW (pl:=pl) (thn (he aA s σ H _ I h) λu s1 ⟨x,H1,I1,rx,a,C,dx,fs,sd,ex,ea,hm',l,q⟩=>?_) ht;subst ex;obtain rfl:u=Value.ref a:=rx;obtain⟨c,f,fd,k,ps,hm,F,hr,hb⟩:=M C sd hm';refine Ga I1 ea c hm l ?_;exact PySem.W.callWith_K (first:=[.ref a]) (h₀:=X.base) I.ok.mod.kin hm.kp (thn (ha pos aA s1 σ H1 _ I1 q) λus s2 ⟨vs,H2,I2,r,q2⟩=>⟨I2.kIn,KZ (us:=.ref a::us) (vs:=.ref a::vs) F hr hb hx I2 (.cons rfl r) q2⟩) hst hpl
@[irreducible] def ME (tbl:List (Addr×Sd))(m:Str)(ex:Ev->Addr->Sto->Prop)(to:TDE)(t:TDA):TDE:=λdl S Q=>to dl S λd S1=>∃n C fs sd,d=.ref n/\S1[n]?=some (.ins C fs)/\(C,sd)∈tbl/\fs.lookup m=none/\t dl S1 λds S2=>sd (d::ds) S2 Q (ex dl)
theorem GB (ho:PD X ⟨ex,W⟩ o to)(M:MT X m tbl)(hx:WW X W)(ha:PDA X ⟨ex,W⟩ (e::es) t)(hst:starEach (e::es) X.env=(false,eval e X.env)::starEach es X.env:=by rfl)(hpl:(backTo pos (starEach es X.env)).any (·.1)=false:=by rfl)(ht:eval (.Call (.Attribute o m aO) (e::es) [] pos) X.env=(do
   let ov <- eval o X.env
   standAt aO.atName
   let (f,first) <- holding [ov] (getMethod ov m pl)
   callWith pos f first (backTo pos (starEach (e::es) X.env)) (backToKw pos (keywordEach [] X.env))):=by rfl):PD X ⟨ex,W⟩ (.Call (.Attribute o m aO) (e::es) [] pos) (ME tbl m ex to t):=
 Yw (CU ho M hx ha hst hpl ht) λσ H Qv ⟨r,dl,S,Q,rs,bD,h,ret⟩=>by
  unfold ME at h;refine⟨r,dl,S,_,rs,bD,h,λv H1 r1 d S1 e1 aF p1 q1=>?_⟩;obtain⟨n,C,fs,sd,rfl,eS,hm,hl,q1⟩:=q1;obtain⟨a,dx,fs',rfl,hr1,eH,fr⟩:=GK (C:=C) (n:=n) (fs:=fs) aF.b p1 (by simp only[Wv,eS,if_pos]);exact⟨a,C,dx,fs',sd,rfl,eH,hm,fr.lookup.2 hl,r1,dl,S1,_,rs.ext e1,aF,q1,λvs H2 r2 ds S2 e2 aG p2 q2=>HV (Z:=⟨ex,W⟩) (rs.ext (e1.trans e2)) aG (Rps.cons (p1.ext e2) p2) q2 (ret.ext (e1.trans e2))⟩
theorem GS {tbl:List (Addr×Sd)}{C:Addr}{m:Str}{ex:Ev->Addr->Sto->Prop}{sd:Sd}{to:TDE}{t:TDA}{dl:Ev}{S S1:Sto}{Q:DK}{n:Nat}{fs:List (Str×D)}(hto:∀K:DK,K (.ref n) S1->to dl S K)(h:S1[n]?=some (.ins C fs))(hm:(C,sd)∈tbl)(hf:fs.lookup m=none)(hq:t dl S1 λds S2=>sd (.ref n::ds) S2 Q (ex dl)):ME tbl m ex to t dl S Q:=by
 unfold ME;exact hto _ ⟨n,C,fs,sd,rfl,h,hm,hf,hq⟩
end
end L3
namespace L3
open PySem PySem.Spec PyProof.Rows L2
section
variable {X:Cx}{Z:Zx}
end
structure VD (sc around:Scope)(own caps:List Str):Prop where
 kind:sc.kind=.function
 nocell:∀y∈sc.names,y.2≠.cell
 own:∀y∈sc.names,y.2=.local->sc.names.lookup y.1=some .local
 cap:∀y∈caps,sc.names.lookup y=some .free
 out:∀y∈sc.names,y.2=.free->around.names.lookup y.1=some .cell
def R8 (k:Nat)(caps:List Nat)(wi:TI)(gt:TG)(te:TE):TE:=λσ H Q=>wi σ H λJ H1=>∀D,H1 D=none->∃W:Nat->Nat->Hp->Prop,(∃m,W 0 m (upd H1 D (.lst [])))/\∀i m H,W i m H->
 (J.stop i H/\Q (.ref D) H)\/(J.go i H/\∀x H',J.yld i H x H'->∀o:St,o.length=k->gt x (o++Yy caps σ) H' λσ8 H8=>(∃o8:St,o8.length=k/\σ8=o8++Yy caps σ)/\
  te σ8 H8 λy H3=>∃ys,H3 D=some (.lst ys)/\ys.length<sizeLine/\∃m',m'<m/\W (i+1) m' (upd H3 D (.lst (ys++[y]))))
section
variable {X:Cx}{aA:LA}{σ:St}{H:Hp}{s:Shared}
theorem zc1 (I:Inv X aA σ H s)(cs:VD sc X.env.scope own N)(hN:∀(j:Nat)(y:Str),N[j]?=some y->∃i,caps[j]?=some i/\X.N[i]?=some y)(aU:caps.length=N.length)(c1:∀x c,cl.lookup x=some c->X.env.cells.lookup x=some c)(c2:∀y∈sc.names,y.2=.free->cl.lookup y.1=X.env.cells.lookup y.1)(hf:∀b∈fp,Xb X aA H b)(hfo:∀b∈fp,b<s.heap.objs.size)(hns:h1.Ns s.heap.objs.size m)(hk:∀b o,s.heap.get? b=some o->h1.get? b=some o):
  Inv (Cx.comp X sc (own++N) cl s.heap.objs.size s H fp (X.pn++aA)) [] (List.replicate own.length none++Yy caps σ) H { s with heap:=h1,toks:=tk }:=by
 have stk:∀b∈frs X.stack,b=X.env.locals\/b∈X.fs:=λb hb=>zO.mp (I.stkSub b hb)
 refine⟨⟨I.ok.mod,cs.kind,I.ok.glob,I.ok.blt,zC _,λa b c h1 h2=>I.ok.inj a b c (c1 _ _ h1) (c1 _ _ h2),λy hy=>?_,λ_ _ z=>Bool.noConfusion z,I.ok.hd,I.ok.frames,.inl rfl,λb hb=>⟨zW (hfo b hb),λy c e=>(hf b hb).2.2.2.2.1 y c (c1 _ _ e)⟩,
  I.bs,yH I.ok.bsz I.sz,λb o e hb=>?_,λb hb z=>?_,I.stack,I.stkFree⟩,rfl,I.bare,Un.kept hk,⟨m,hns,λi y v e1 e2 e3=>?_⟩,λy c e=>?_,I.hok.fresh (zC _),λy c e=>I.freeC y c (c1 _ _ e),λp hp=>?_,I.hok.kept hk,?_⟩
 ·have hfr:sc.names.lookup y=some .free:=Ha cs.nocell hy
  have hm:=Qn hfr;obtain⟨c,e⟩:=I.ok.has y (.inl (cs.out _ hm rfl));exact⟨c,(c2 _ hm rfl).trans e⟩
 ·rcases (hf b hb).2.2.2.1 with z|z
  ·exact I.ok.noex b o e z
  ·exact absurd (yB (Heap.lt_size (I.ok.bs b o e).1) z) (yV _)
 ·rcases stk b z with z|z
  ·exact(hf b hb).2.1 z
  ·exact(hf b hb).2.2.1 z
 ·rcases Nat.lt_or_ge i own.length with hi|hi
  ·rw[zQ (by simpa using hi),List.getElem?_replicate] at e2;simp[hi] at e2
  ·obtain⟨i,rfl⟩:∃k,i=own.length+k:=⟨i-own.length,by omega⟩;have e1':N[i]?=some y:=by
    rw[yA hi] at e1;simpa using e1
   have e2:(Yy caps σ)[i]?=some (some v):=by
    rw[yA (by simp)] at e2;simpa using e2
   obtain⟨j,hj,hy⟩:=hN i y e1';have e2':σ[j]?=some (some v):=by
    simp only[Yy,zF,hj,Option.map_some,Option.some.injEq] at e2;cases q:σ[j]? with
    | none=>rw[q] at e2;cases e2
    | some o=>rw[q] at e2;simp at e2;rw[e2]
   have hfr:sc.names.lookup y=some .free:=cs.cap y (zJ e1')
   have hm:=Qn hfr
   have hce:X.env.scope.names.lookup y=some .cell:=cs.out _ hm rfl;obtain⟨m0,_,hl⟩:=I.loc;obtain⟨u,r,l⟩:=hl j y v hy e2' (.inr (.inl hce));refine⟨u,r,.inr ⟨HE hfr,?_⟩⟩;rcases l with ⟨k,_⟩|⟨_,c,ec,hcell⟩
   ·rw[show X.env.kindOf y=some .cell from hce] at k;cases k
   ·exact⟨c,(c2 _ hm rfl).trans ec,hcell.keeps hk⟩
 ·obtain⟨v,z⟩:=I.cell y c (c1 _ _ e);exact⟨v,z.keeps hk⟩
 ·have hp':p∈X.pn++aA:=by simpa using hp
  obtain⟨p1,p2,p3,p4,p5⟩:=I.pin p hp';refine⟨hk _ _ p1,p2,zW (Heap.lt_size p1),λz=>?_,p5⟩;rcases stk _ z with z|z
  ·exact p3 z
  ·exact p4 z
 ·simp[Yy,aU]
end
section
variable {X:Cx}{aZ aX:Expr}{aT:List Expr}{kk:Nat}{tp:Pos}{pos:Pos}{sc:Scope}{own N:List Str}{caps:List Nat}{wi:TI}{gt:TG}{te:TE}
theorem GZ (hc:X.calm=true)(cs:VD sc X.env.scope own N)(hN:∀(j:Nat)(y:Str),N[j]?=some y->∃i,caps[j]?=some i/\X.N[i]?=some y)(aU:caps.length=N.length)(hi:PI X (.Tuple aT kk tp) aX wi)(hg:∀cl C s0 H0 fp pn,PG (Cx.comp X sc (own++N) cl C s0 H0 fp pn) (.Tuple aT kk tp) gt)(he:∀cl C s0 H0 fp pn,PE (Cx.comp X sc (own++N) cl C s0 H0 fp pn) aZ te)(hs:∀y,foldedSetIterable aX X.env y=pure y)(I:Inv X aA σ H s)(h:R8 own.length caps wi gt te σ H Q)(bC:∀D C s',Gg X aA σ C Q D s'->compPost (model X.prog X.w) X.A X.xe use Qr (.ref D) C (.ok .next) s'):
  wpAny (model X.prog X.w) X.A (comprehension (.ListComp aZ [⟨.Tuple aT kk tp,aX,[],0⟩] sc pos) sc X.env p2 (newList []) false (eval aX X.env) use) Qr X.xe s:=by
 obtain⟨cl,k1,k2,k3⟩:=FE (sc:=sc) (env:=X.env) λy hy hf=>I.ok.has y.1 (.inl (cs.out y hy hf))
 refine wpAny_comprehension_free rfl hs k1 cs.kind cs.own (thn (hi aA s σ H _ I h) λv s1 h1=>thn h1 λitv s2 h2=>?_);obtain⟨it,fp,tn,J,H2,e,I2,T,st2,f2,body⟩:=h2;subst e;have hfo:∀b∈fp,b<s2.heap.objs.size:=λb hb=>by
  obtain⟨o,e,_⟩:=T.obj _ _ st2 b hb;exact Heap.lt_size e
 have hD:H2 s2.heap.objs.size=none:=I2.hok.fresh (zC _);obtain⟨W,⟨m0,w0⟩,turn⟩:=body _ hD;refine wpAny_newObj_type ?_;have I3:Inv X aA σ (upd H2 s2.heap.objs.size (.lst [])) { s2 with heap:=s2.heap.push { cls:=.type "list",dict:=none,data:=.seq ([]:List Value).toArray },toks:=s2.toks }:=
  I2.laid (t':=s2.toks) (λb u e=>Heap.get?_push_of_some _ e) (zC _) ⟨zL _,[],0,.nil,Heap.get?_push_size _ rfl⟩
 generalize hs3:({ s2 with heap:=s2.heap.push { cls:=.type "list",dict:=none,data:=.seq ([]:List Value).toArray },toks:=s2.toks }:Shared)=s3 at I3;have es3:({ s2 with heap:=s2.heap.push { cls:=.type "list",dict:=none,data:=.seq ([]:List Value).toArray } }:Shared)=s3:=hs3
 try rw[es3]
 have f3:∀b∈fp,Xb X aA (upd H2 s2.heap.objs.size (.lst [])) b:=λb hb=>⟨by rw[Yl (zW (hfo b hb))];exact(f2 b hb).1,(f2 b hb).2⟩
 have up3:∀b o,s2.heap.get? b=some o->s3.heap.get? b=some o:=λb o e=>by rw[<- hs3];exact Heap.get?_push_of_some _ e
 have st3:tn 0 s3.heap:=T.keep _ _ _ st2 λb _ o e=>up3 b o e
 have hfo3:∀b∈fp,b<s3.heap.objs.size:=λb hb=>by
  obtain⟨o,e,_⟩:=T.obj _ _ st3 b hb;exact Heap.lt_size e
 refine wpAny_newFunctionEnv cs.nocell (λy hy=>by simp at hy) (λh4 ns4 sb4=>?_) cs.kind;have hk4:∀b o,s3.heap.get? b=some o->h4.get? b=some o:=λb o e=>(sb4.2 b (zW (Heap.lt_size e))).trans (Heap.get?_push_of_some _ e)
 have I4:=zc1 (tk:=s3.toks+([]:List (Str×Value)).length) I3 cs hN aU k2 k3 f3 hfo3 ns4 hk4;generalize hs4:({ s3 with heap:=h4,toks:=s3.toks+([]:List (Str×Value)).length }:Shared)=s4 at I4 ⊢;have eh4:s4.heap=h4:=by rw[<- hs4]
 have st4:tn 0 s4.heap:=by rw[eh4];exact T.keep _ _ _ st3 λb _ o e=>hk4 b o e
 have fY:∀ {H':Hp},(∀b∈fp,H' b=none)->∀b∈fp,Xb (Cx.comp X sc (own++N) cl s3.heap.objs.size s3 (upd H2 s2.heap.objs.size (.lst [])) fp (X.pn++aA)) [] H' b:=λhn b hb=>by
  obtain⟨_,z2,z3,z4,z5,z6⟩:=f3 b hb;refine⟨hn b hb,zW (hfo3 b hb),λz=>?_,.inl hb,λy c e=>z5 y c (k2 _ _ e),λp hp=>z6 p (by simpa using hp)⟩;rcases zO.mp (I3.stkSub b z) with z|z
  ·exact z2 z
  ·exact z3 z
 have loop:codeAny (model X.prog X.w) X.A (.compLoop (.ListComp aZ [⟨.Tuple aT kk tp,aX,[],0⟩] sc pos) 0 (.ref it) (.ref s2.heap.objs.size) (compEnvC sc cl s3.heap.objs.size X.env))
   (compPost (model X.prog X.w) X.A X.xe use Qr (.ref s2.heap.objs.size) s3.heap.objs.size) s4:=by
  refine LCp.codeAny_compLoop_pair (λn s'=>∃i o H',o.length=own.length/\Inv (Cx.comp X sc (own++N) cl s3.heap.objs.size s3 (upd H2 s2.heap.objs.size (.lst [])) fp (X.pn++aA)) [] (o++Yy caps σ) H' s'/\tn i s'.heap/\(∀b∈fp,H' b=none)/\W i n H') ?_ m0
   ⟨0,_,_,List.length_replicate,I4,st4,λb hb=>(f3 b hb).1,w0⟩
  rintro n s5 ⟨i,o,H5,ho,I5,st5,fr5,w5⟩;rcases turn i n H5 w5 with ⟨stop,q⟩|⟨go,step⟩
  ·refine thn (T.done (Cx.comp X sc (own++N) cl s3.heap.objs.size s3 (upd H2 s2.heap.objs.size (.lst [])) fp (X.pn++aA)) rfl rfl rfl hc i [] s5 _ H5 _ I5 (fY fr5) st5 stop) λr s6 ⟨hr,I6⟩=>?_
   subst hr;refine bC _ _ _ ⟨⟨H5,I3.call' I6.os I6.base I6.hok I6.bare (λb hb=>?_),q,I6.free⟩,?_,Nat.ne_of_gt I3.lt,I3.sz,λy c e z=>?_,λp hp z=>?_⟩
   ·obtain⟨_,z2,z3,z4,z5,z6⟩:=f3 b hb;exact⟨z4,z2,z5,z6⟩
   ·obtain⟨m,hm,_⟩:=I6.loc;exact⟨m,hm⟩
   ·obtain⟨v,hv⟩:=I3.cell y c e;exact absurd (z ▸ hv.lt) (yV _)
   ·exact absurd (z ▸ Heap.lt_size (I3.pin p hp).1) (yV _)
  ·refine thn (T.item (Cx.comp X sc (own++N) cl s3.heap.objs.size s3 (upd H2 s2.heap.objs.size (.lst [])) fp (X.pn++aA)) rfl rfl rfl hc i [] s5 _ H5 _ I5 (fY fr5) st5 go) λr s6 ⟨u,hr,h6⟩=>?_
   subst hr;refine wpAny_mono h6 (λ_ s7 ⟨y,H7,I7,r7,y7,st7,fr7⟩=>?_) λ_ _ z=>z
   have I7':=I7.pinned (fY fr7) (T.obj _ _ st7);refine wpAny_mono (hg _ _ _ _ _ _ _ s7 _ H7 y u _ I7' r7 (step y H7 y7 o ho)) (λ_ s8 ⟨σ8,H8,I8,⟨o8,ho8,e8⟩,q8⟩=>?_) λ_ _ z=>z.elim
   subst e8;have stay:∀ {H':Hp} {s':Shared},Inv (Cx.comp X sc (own++N) cl s3.heap.objs.size s3 (upd H2 s2.heap.objs.size (.lst [])) fp (X.pn++aA)) ([]++Tt fp s7.heap) (o8++Yy caps σ) H' s'->∀m',m'<n->W (i+1) m' H'->
     ∃m,m<n/\∃i o H',o.length=own.length/\Inv (Cx.comp X sc (own++N) cl s3.heap.objs.size s3 (upd H2 s2.heap.objs.size (.lst [])) fp (X.pn++aA)) [] (o++Yy caps σ) H' s'/\tn i s'.heap/\(∀b∈fp,H' b=none)/\W i m H':=λ{H' s'} J m' hm w'=>by
    refine⟨m',hm,i+1,o8,H',ho8,J.unpinned,T.keep _ _ _ st7 λb hb o e=>(J.pin (b,o) (yW _ (yW _ (UJ hb e)))).1,λb hb=>?_,w'⟩;obtain⟨o,e,d⟩:=T.obj _ _ st7 b hb;exact(J.pin (b,o) (yW _ (yW _ (UJ hb e)))).2.1
   refine wpAny_mono (he _ _ _ _ _ _ _ s8 _ H8 _ I8 q8) (λu2 s10 ⟨z,H10,I10,r10,q10⟩=>?_) λ_ _ z=>z.elim
   obtain⟨ys,hD10,hlt,m',hm,w10⟩:=q10;refine wpAny_mono (J0 (X:=(Cx.comp X sc (own++N) cl s3.heap.objs.size s3 (upd H2 s2.heap.objs.size (.lst [])) fp (X.pn++aA))) _ s10 _ H10 (.ref s2.heap.objs.size) [z] (.ref s2.heap.objs.size) [u2] (λ_ H'=>H'=upd H10 s2.heap.objs.size (.lst (ys++[z]))) I10 rfl (.cons r10 .nil) ⟨_,ys,z,rfl,rfl,hD10,hlt,rfl⟩) (λ_ s11 ⟨_,H11,I11,_,e11⟩=>?_) λ_ _ z=>z.elim
   subst e11;exact stay I11 m' hm w10
 exact codeAny_compStart_list loop (T.self _ 0 s4 _ _ st4 loop)
theorem HY (hc:X.calm=true)(cs:VD sc X.env.scope own N)(hN:caps.map (λi=>X.N[i]?)=N.map some)
  (hi:PI X (.Tuple aT kk tp) aX wi)(hg:∀cl C s0 H0 fp pn,PG (Cx.comp X sc (own++N) cl C s0 H0 fp pn) (.Tuple aT kk tp) gt)(he:∀cl C s0 H0 fp pn,PE (Cx.comp X sc (own++N) cl C s0 H0 fp pn) aZ te)
  (hs:∀y,foldedSetIterable aX X.env y=pure y:=by intro _;rfl):PE X (.ListComp aZ [⟨.Tuple aT kk tp,aX,[],0⟩] sc pos) (R8 own.length caps wi gt te):=by
 intro aA s σ H Q I h;rw[eval_ListComp];refine GZ (use:=none) hc cs (Vy hN).1 (Vy hN).2 hi hg he hs I h λD C s' f=>?_
 obtain⟨⟨H',I',q,hC⟩,⟨m,ns⟩,l,o,c,p⟩:=f;exact⟨m,ns,λh' sb=>⟨.ref D,H',I'.turned (t':=s'.toks) (λb ob hb e=>(sb.2 b hb).trans e) hC l (.inr o) c p,rfl,q⟩⟩
end
section
variable {X:Cx}{Z:Zx}{aZ:Expr}{pos:Pos}{sc ar:Scope}{N:List Str}{caps:List Nat}
def Qk (caps:List Nat)(te:TDE)(k:Nat)(dl:Ev)(d1 d2:D)(S:Sto)(nx:Sto->Prop):Prop:=
 te (some d1::some d2::YR caps dl) S λy S2=>match S2[k]? with
  | some (.lst ys)=>ys.length<1000/\nx (S2.set k (.lst (ys++[y])))
  | _=>False
@[irreducible] def Rj (caps:List Nat)(ta:TDA)(te:TDE):TDE:=λdl S Q=>ta dl S λds S1=>match ds with
 | [.ref n]=>(lAt S1 n).isSome=true/\∃W:Nat->Nat->Sto->Prop,(∃m,W 0 m (S1++[.lst []]))/\∀k m S2,W k m S2->match lAt S2 n with
  | some o=>match (Zs o)[k]? with
   | some y=>Qk caps te S1.length dl (.int (k:Int)) y S2 λS3=>∃m',m'<m/\W (k+1) m' S3
   | none=>k=(Zs o).length/\Q (.ref S1.length) S2
  | none=>False
 | _=>False
theorem Ei {r:List Addr}{H:Hp}{dl:Ev}{σ:St}{d1 d2:D}{v1 v2:V}(h:Rs r H dl σ)(p1:Rp r H d1 v1)(p2:Rp r H d2 v2):Rs r H (some d1::some d2::YR caps dl) (some v1::some v2::Yy caps σ):=by
 have z:=Gp (caps:=caps) h p2;refine⟨by have:=z.1;simp only[zT] at this ⊢;omega,λi e hi=>?_⟩;cases i with
 | zero=>simp at hi;subst hi;exact⟨v1,rfl,p1⟩
 | succ i=>exact z.2 i e (by simpa using hi)
theorem zaE {ta:TDA}{te:TDE}{σ:St}{H:Hp}{Qv:VK}(h:up X.K Z (Rj caps ta te) σ H Qv):
  R8 2 caps (FQ X.K (upA X.K Z ta)) (UM X.K 2 (TN [0,1])) (up X.K Z0 te) σ H Qv:=by
 obtain⟨r,dl,S,Q,rs,bD,h,ret⟩:=h;unfold Rj at h;refine⟨r,dl,S,_,rs,bD,h,λvs H1 r1 ds S1 x1 aF p1 q1=>?_⟩;split at q1
 ·rename_i n;obtain⟨v,vs',rfl,p2,p3⟩:=p1.uncons;have z:=p3.unnil;subst z;cases p2 with
  | @ref n a hr=>
   obtain⟨aW,W,⟨m0,w0⟩,turn⟩:=q1;obtain⟨o1,eo1⟩:=xF.mp aW;obtain⟨xs1,sq1,_⟩:=XZ (r:=r1) hr aF.b eo1;refine⟨a,rfl,⟨xs1,sq1⟩,λD0 hD=>?_⟩;obtain⟨aG,x2⟩:=aF.b.push (ds:=[]) (xs:=[]) hD Rps.nil;refine⟨λk m H'=>∃r' S',Ext (r1++[D0]) r' (upd H1 D0 (.lst [])) H'/\Yh X.K r' S' H'/\W k m S',⟨m0,_,_,Ext.refl,aG,w0⟩,?_⟩;rintro k m H2 ⟨r2,S2,x3,rb2,w2⟩;have ha2:r2[S1.length]?=some D0:=x3.adr _ _ (Q3 aF.len)
   have hr2:r2[n]?=some a:=(x2.trans x3).adr _ _ hr
   have q:=turn k m S2 w2;split at q
   ·rename_i o eo;obtain⟨xs,sq,pr⟩:=XZ (r:=r2) hr2 rb2 eo;split at q
    ·rename_i y ey;obtain⟨v,hv,pv⟩:=pr.get ey;refine .inr ⟨⟨xs,v,sq,hv⟩,λv' H' y' o8 ho8=>?_⟩;obtain⟨T,w,rfl,hT,rfl,hw⟩:=y';have ew:w=v:=by
      have z:=hw xs sq;rw[hv] at z;exact(Option.some.inj z).symm
     subst ew;obtain⟨c1,c2,rfl⟩:∃c1 c2,o8=[c1,c2]:=by
      match o8,ho8 with
      | [c1,c2],_=>exact⟨c1,c2,rfl⟩
     have x4:Ext r2 r2 H2 (upd H2 T (.tup [.int (k:Int),w])):=Mg hT
     have rb3:=rb2.same (Xs (o:=.tup [.int (k:Int),w]) hT)
     have rs3:=rs.ext (x1.trans (x2.trans (x3.trans x4)));refine⟨T,[.int (k:Int),w],rfl,SqT.of XB,rfl,rfl,⟨[some (.int (k:Int)),some w],rfl,rfl⟩,?_⟩;have rsY:=Ei (caps:=caps) rs3 (.int (k:Int)) (pv.ext x4);refine⟨r2,_,S2,_,rsY,⟨rb3,λ_ _ _ _ _ _ _ _ _ z=>z.elim⟩,q,λz H4 r4 dz S4 x6 aJ p4 q4=>?_⟩;split at q4
     ·rename_i ys eys;obtain⟨hl,m',hm,q4⟩:=q4;have ha4:r4[S1.length]?=some D0:=x6.adr _ _ ha2;obtain⟨zs,hD4,pz⟩:=aJ.b.ob _ _ _ ha4 eys;obtain⟨rel5,x7⟩:=aJ.b.set ha4 eys (pz.snoc p4);exact⟨zs,hD4,by rw[<- pz.1];exact Su (xG hl),m',hm,r4,_,x3.trans (x4.trans (x6.trans x7)),rel5,q4⟩
     ·exact q4.elim
    ·obtain⟨hk,q⟩:=q;exact .inl ⟨⟨xs,sq,by rw[<- pr.1];exact hk.symm⟩,ret _ H2 r2 _ S2 (x1.trans (x2.trans x3)) ⟨rb2,bD.xw.ext (x1.trans (x2.trans x3))⟩ (.ref ha2) q⟩
   ·exact q.elim
 ·exact q1.elim
theorem AV (har:X.env.scope=ar)(hc:X.calm=true)(cs:VD sc ar [x1,x2] N)(hl1:sc.names.lookup x1=some .local)(hl2:sc.names.lookup x2=some .local)(hN:caps.map (λi=>X.N[i]?)=N.map some)(hnd:([x1,x2]++N).Nodup)(hg:Gl X "enumerate")(hm:X.mg "enumerate"=none)(hv:bootBuiltins "enumerate"=some (.type "enumerate"))(ha:PDA X Z [a] ta)(he:∀cl C s0 H0 fp pn,PD (Cx.comp X sc ([x1,x2]++N) cl C s0 H0 fp pn) Z0 aZ te)(hse:starEach [a] X.env=[(false,eval a X.env)]:=by rfl)(hs:∀y,foldedSetIterable (.Call (.Name "enumerate" p) [a] [] aQ) X.env y=pure y:=by intro _;rfl):
  PD X Z (.ListComp aZ [⟨.Tuple [.Name x1 p1,.Name x2 p2] kk tp,.Call (.Name "enumerate" p) [a] [] aQ,[],0⟩] sc pos) (Rj caps ta te):=by
 subst har;refine Yw (HY hc cs hN (gt:=UM X.K 2 (TN [0,1])) (te:=up X.K Z0 te) (CO hg hm hv ha hse) (λcl C s0 H0 fp pn=>?_) he hs) λ_ _ _ h=>zaE h
 have l1:(Cx.comp X sc ([x1,x2]++N) cl C s0 H0 fp pn).env.scope.names.lookup x1=some .local:=lookup_relabel_local hl1
 have l2:(Cx.comp X sc ([x1,x2]++N) cl C s0 H0 fp pn).env.scope.names.lookup x2=some .local:=lookup_relabel_local hl2;exact UY hc (Uz hnd (.cons rfl (.inl l1) (.inr l1) (.cons rfl (.inl l2) (.inr l2) .nil))) rfl rfl
end
section
variable {X:Cx}{Z:Zx}{pos:Pos}
@[irreducible] def NN (is:List Nat)(tl:TDE)(tb:TDS):TDS:=λE dl S=>tl dl S λd S1=>match d with
 | .ref n=>(lAt S1 n).isSome=true/\∃W:Nat->Nat->Ev->Sto->Prop,(∃m,W 0 m dl S1)/\∀k m dl S,W k m dl S->match lAt S n with
  | some o=>match (Zs o)[k]? with
   | some (.tup xs)=>xs.length=is.length/\tb { nx:=λdl' S'=>∃m',m'<m/\W (k+1) m' dl' S',rt:=E.rt,bk:=E.nx,ct:=λdl' S'=>∃m',m'<m/\W (k+1) m' dl' S' } (Vh is xs dl) S
   | some _=>False
   | none=>E.nx dl S
  | none=>False
 | _=>False
theorem DA {es:List Expr}{kk:Nat}{tp:Pos}{aX:Expr}{body:List Stmt}{is:List Nat}{tl:TDE}{tb:TDS}(hp:PassesOwn (model X.prog X.w) X.A X.env X.xe)(hc:X.calm=true)(hN:X.N.Nodup)(hn:Nms X es is)
  (hl:PD X Z aX tl)(hb:XC X Z body tb)(aU:(assignEach es X.env).length=is.length:=by rfl)(hst:(assignEach es X.env).findIdx? (·.1)=none:=by rfl)
  (hs:∀y,foldedSetIterable aX X.env y=pure y:=by intro _;rfl):PDS X Z (.For (.Tuple es kk tp) aX body [] pos) (NN is tl tb):=
 YO (UB hp hc (PC hl) (UY hc (Uz hN hn) aU hst) hb hs) λF σ H ⟨r,dl,S,E,rs,bD,h,ret⟩=>by
  unfold NN at h;refine⟨r,dl,S,_,rs,bD,h,λv H1 r1 d S1 x1 aF p1 q1=>?_⟩;cases p1 with
  | @ref n a hn=>
   obtain⟨aW,W,⟨m0,w0⟩,turn⟩:=q1;obtain⟨o1,eo1⟩:=xF.mp aW;obtain⟨xs1,sq1,_⟩:=XZ (r:=r1) hn aF.b eo1;refine⟨a,rfl,⟨xs1,sq1⟩,λk m σ' H'=>∃r' dl' S',Ext r1 r' H1 H'/\Rs r' H' dl' σ'/\Rel X.K Z r' S' H'/\W k m dl' S',⟨m0,r1,dl,S1,Ext.refl,rs.ext x1,aF,w0⟩,?_⟩;rintro k m σ2 H2 ⟨r2,dl2,S2,x2,rs2,aG,w2⟩;have q:=turn k m dl2 S2 w2;split at q
   ·rename_i o eo;obtain⟨xs,sq,pr⟩:=XZ (r:=r2) (x2.adr _ _ hn) aG.b eo;split at q
    ·rename_i ys ey;obtain⟨v,hv,pv⟩:=pr.get ey;have go:∀σ' H' r' dl' S',Ext r2 r' H2 H'->Rs r' H' dl' σ'->Rel X.K Z r' S' H'->(∃m',m'<m/\W (k+1) m' dl' S')->∃m',m'<m/\∃r' dl' S',Ext r1 r' H1 H'/\Rs r' H' dl' σ'/\Rel X.K Z r' S' H'/\W (k+1) m' dl' S':=
      λσ' H' r' dl' S' x rs' rel' ⟨m',hm,w'⟩=>⟨m',hm,r',dl',S',x2.trans x,rs',rel',w'⟩
     refine .inr ⟨⟨xs,v,sq,hv⟩,λσ' H'=>∃m',m'<m/\∃r' dl' S',Ext r1 r' H1 H'/\Rs r' H' dl' σ'/\Rel X.K Z r' S' H'/\W (k+1) m' dl' S',λ_ _ z=>z,λv' H' y'=>?_⟩;obtain⟨eH,y'⟩:=y';subst eH;have ev:v'=v:=by
      have z:=y' xs sq;rw[hv] at z;exact(Option.some.inj z).symm
     subst ev;obtain⟨q1,q⟩:=q;obtain⟨T,vs,rfl,eT,ps⟩:=pv.untup;exact⟨T,vs,rfl,SqT.of eT,by rw[<- ps.1];exact q1,by rw[<- ps.1];exact q1,r2,_,S2,_,OH rs2 ps,aG,q,⟨go,λσ' H' r' dl' S' x rs' rel' z=>ret.nx σ' H' r' dl' S' (x1.trans (x2.trans x)) rs' rel' z,go,ret.rt.ext (x1.trans x2)⟩⟩
    ·exact q.elim
    ·rename_i ey;have aU:(Zs o).length<=k:=yY.mp ey;exact .inl ⟨⟨xs,sq,by rw[<- pr.1];exact aU⟩,ret.nx σ2 H2 r2 dl2 S2 (x1.trans x2) rs2 aG q⟩
   ·exact q.elim
  | _=>exact(show False from q1).elim
end
section
variable {X:Cx}{Z:Zx}{pos:Pos}
def MF:WC:=λds S Q=>match ds with
 | [.ref n]=>match lAt S n with
  | some o=>match WQ (Zs o) with
   | some ns=>ns.length<64/\∀ms:List Int,ms.Perm ns->ms.Pairwise (·<=·)->Q (.ref S.length) (S++[.lst (ms.map D.int)])
   | none=>False
  | none=>False
 | _=>False
theorem R6:∀ {us:List Value} {ms:List Int},IntsAre us ms->ZI (ms.map V.int) us
 | _,_,.nil=>.nil
 | _,_,.cons n t h=>.cons ⟨t,rfl⟩ (R6 h)
theorem zcE:∀ {zs:List (Int×Tok)},us=zs.map (λp=>Value.int p.1 p.2)->IntsAre us (zs.map (·.1)):=by
 intro zs e;subst e
 induction zs with
 | nil=>exact .nil
 | cons z zs ih=>exact .cons z.1 z.2 ih
theorem K6:Yt X (.builtin "sorted") (upC X.K Z MF):=by
 intro aA s σ H xs us Qv I rv h;obtain⟨r,S,ds,Q,bD,ps,q,ret⟩:=h;unfold MF at q;split at q
 ·rename_i n;obtain⟨v,vs,rfl,p1,p2⟩:=ps.uncons;have z:=p2.unnil;subst z;split at q
  ·rename_i o eo;split at q
   ·rename_i ns en;obtain⟨hl,q⟩:=q;cases p1 with
    | ref h1=>
     obtain⟨eo,eL⟩:=YL eo;obtain⟨a,ha,ob⟩:=bD.at eo;rw[h1] at ha;cases ha
     obtain⟨ys,sq,pr⟩:=ob.list eL;obtain⟨u,rfl,ru⟩:=Wg rv;cases ru;obtain⟨bA,ri,pl,hz⟩:=I.list sq;obtain⟨zs,hz1,hz2⟩:=Ov en pr ri;have ei:bA=zs.map (λp=>Value.int p.1 p.2):=by
      have z:=congrArg Array.toList hz1;simpa [intItems] using z
     have ia:IntsAre bA ns:=by
      have z:=zcE ei
      rwa [hz2] at z
     have ll:bA.length=ns.length:=by rw[ei,zA,<- hz2,zA]
     refine sorted_ints pl.isList ia (by omega) λout ms a1 a2 a3=>?_
     obtain⟨e,he⟩:=sortedAll_at s.heap bA out;have hf:H (s.heap.objs.size+1)=none:=I.hok.fresh (Nat.le_succ _);obtain⟨aG,x⟩:=bD.push (ds:=ms.map D.int) (xs:=ms.map V.int) hf (FA ms);refine⟨.ref (s.heap.objs.size+1),_,I.laid (t':=s.toks) (λb o e=>sortedAll_old e) (Nat.le_succ _) (show YH X.prog X.w _ _ _ (.lst (ms.map V.int)) from ⟨?_,out.toList,e,R6 a1,by rw[Array.toArray_toList];exact he⟩),rfl,ret _ _ _ (.ref S.length) _ x aG (VE bD.len) (q ms a2 a3)⟩;rw[zA,a2.length_eq];exact Ul (by omega)
   ·exact q.elim
  ·exact q.elim
 ·exact q.elim
theorem K1 (h:lAt S n=some o)(e:WQ (Zs o)=some ns)(hl:ns.length<64)(hq:∀ms:List Int,ms.Perm ns->ms.Pairwise (·<=·)->Q (.ref S.length) (S++[.lst (ms.map D.int)])):irr MF [.ref n] S Q:=by
 rw[VA];unfold MF;simp only[h,e];exact⟨hl,hq⟩
def wIsB:W2:=λx y S Q=>match x,y with
 | .bl a,.bl b=>Q (.bl (a==b)) S
 | _,_=>False
theorem zcP:OpR X (compareOp .Is) (upO X.K Z wIsB):=by
 intro aA s σ H x y v u Qv I rx ry h;obtain⟨r,S,dx,dy,Q,bD,px,py,q,ret⟩:=h;unfold wIsB at q;split at q
 ·rename_i a b;cases px;cases py;cases rx;cases ry;exact is_bool ⟨.bl _,H,I,rfl,ret _ _ _ _ _ Ext.refl bD (.bl _) q⟩
 ·exact q.elim
def MU:W2:=λx y S Q=>match x,y with
 | .ref n,.int k=>match S[n]? with
  | some (.lst xs)=>(0<=k/\k<=1000/\xs.length*k.toNat<=1000)/\Q (.ref S.length) (S++[.lst (List.replicate k.toNat xs).flatten])
  | _=>False
 | _,_=>False
theorem Rps.rep (h:Rps r H ds xs):∀k:Nat,Rps r H (List.replicate k ds).flatten (List.replicate k xs).flatten
 | 0=>Rps.nil
 | k+1=>by
  simp only[xU,xZ];exact h.app (Rps.rep h k)
theorem zdS:OpR X (binaryOp .Mult) (upO X.K Z (Y9 MU)):=by
 rw[Wa];exact OU Bh λx y H Qv ⟨r,S,dx,dy,Q,bD,px,py,q,ret⟩=>by
  unfold MU at q;split at q
  ·rename_i n k;split at q
   ·rename_i xs e1;obtain⟨⟨h0,h1,hl⟩,q⟩:=q;cases py;cases px with
    | @ref _ a hn=>
     obtain⟨z,hz,ob⟩:=bD.at e1;rw[hn] at hz;cases hz
     obtain⟨us,g1,p1⟩:=ob;refine⟨a,k,us,rfl,rfl,g1,by omega,by omega,by rw[<- p1.1];exact Ul hl,λp hp=>?_⟩;obtain⟨aJ,x⟩:=bD.push hp (p1.rep k.toNat);exact ret _ _ _ (.ref S.length) _ x aJ (VE bD.len) q
   ·exact q.elim
  ·exact q.elim
theorem zdV (h1:S[n]?=some (.lst xs))(hk:0<=k/\k<=1000)(hl:xs.length*k.toNat<=1000)(hq:Q (.ref S.length) (S++[.lst (List.replicate k.toNat xs).flatten])):Y9 MU (.ref n) (.int k) S Q:=by
 rw[Wa];unfold MU;simp only[h1];exact⟨⟨hk.1,hk.2,hl⟩,hq⟩
end
section
variable {X:Cx}{Z:Zx}{aZ:Expr}{pos:Pos}{sc ar:Scope}{N:List Str}{caps:List Nat}
@[irreducible] def VF (caps:List Nat)(ta:TDA)(te:TDE):TDE:=λdl S Q=>ta dl S λds S1=>match ds with
 | [.ref n,.ref n']=>((lAt S1 n).isSome=true/\(lAt S1 n').isSome=true)/\∃W:Nat->Nat->Sto->Prop,(∃m,W 0 m (S1++[.lst []]))/\∀k m S2,W k m S2->match lAt S2 n,lAt S2 n' with
  | some o,some o'=>match (Zs o)[k]?,(Zs o')[k]? with
   | some x,some y=>Qk caps te S1.length dl x y S2 λS3=>∃m',m'<m/\W (k+1) m' S3
   | _,_=>k=min (Zs o).length (Zs o').length/\Q (.ref S1.length) S2
  | _,_=>False
 | _=>False
theorem GR (h:up X.K Z (VF caps ta te) σ H Qv):
  R8 2 caps (iZip X.K (upA X.K Z ta)) (UM X.K 2 (TN [0,1])) (up X.K Z0 te) σ H Qv:=by
 obtain⟨r,dl,S,Q,rs,bD,h,ret⟩:=h;unfold VF at h;refine⟨r,dl,S,_,rs,bD,h,λvs H1 r1 ds S1 x1 aF p1 q1=>?_⟩;split at q1
 ·rename_i n n';obtain⟨v,vs',rfl,p2,p3⟩:=p1.uncons;obtain⟨v',vs2,rfl,p4,p5⟩:=p3.uncons;have z:=p5.unnil;subst z;cases p2 with
  | @ref n a hr=>
   cases p4 with
   | @ref n' a' hr'=>
    obtain⟨⟨aW,hsome'⟩,W,⟨m0,w0⟩,turn⟩:=q1;obtain⟨o1,eo1⟩:=xF.mp aW;obtain⟨o2,eo2⟩:=xF.mp hsome';obtain⟨xs1,sq1,_⟩:=XZ (r:=r1) hr aF.b eo1;obtain⟨ys1,sq2,_⟩:=XZ (r:=r1) hr' aF.b eo2;refine⟨a,a',rfl,⟨xs1,sq1⟩,⟨ys1,sq2⟩,λD0 hD=>?_⟩;obtain⟨aG,x2⟩:=aF.b.push (ds:=[]) (xs:=[]) hD Rps.nil;refine⟨λk m H'=>∃r' S',Ext (r1++[D0]) r' (upd H1 D0 (.lst [])) H'/\Yh X.K r' S' H'/\W k m S',⟨m0,_,_,Ext.refl,aG,w0⟩,?_⟩;rintro k m H2 ⟨r2,S2,x3,rb2,w2⟩;have ha2:r2[S1.length]?=some D0:=x3.adr _ _ (Q3 aF.len)
    have hr2:r2[n]?=some a:=(x2.trans x3).adr _ _ hr
    have hr2':r2[n']?=some a':=(x2.trans x3).adr _ _ hr'
    have q:=turn k m S2 w2;split at q
    ·rename_i o o' eo eo';obtain⟨xs,sq,pr⟩:=XZ (r:=r2) hr2 rb2 eo;obtain⟨ys,sq',pr'⟩:=XZ (r:=r2) hr2' rb2 eo';split at q
     ·rename_i y y2 ey ey2;obtain⟨v,hv,pv⟩:=pr.get ey;obtain⟨u,hvu,pu⟩:=pr'.get ey2;refine .inr ⟨⟨xs,ys,v,u,sq,sq',hv,hvu⟩,λv' H' y' o8 ho8=>?_⟩;obtain⟨T,w,w2',rfl,hT,rfl,hw,hw2⟩:=y';have ew:w=v:=by
       have z:=hw xs sq;rw[hv] at z;exact(Option.some.inj z).symm
      have ew2:w2'=u:=by
       have z:=hw2 ys sq';rw[hvu] at z;exact(Option.some.inj z).symm
      subst ew ew2;obtain⟨c1,c2,rfl⟩:∃c1 c2,o8=[c1,c2]:=by
       match o8,ho8 with
       | [c1,c2],_=>exact⟨c1,c2,rfl⟩
      have x4:Ext r2 r2 H2 (upd H2 T (.tup [w,w2'])):=Mg hT
      have rb3:=rb2.same (Xs (o:=.tup [w,w2']) hT)
      have rs3:=rs.ext (x1.trans (x2.trans (x3.trans x4)));refine⟨T,[w,w2'],rfl,SqT.of XB,rfl,rfl,⟨[some w,some w2'],rfl,rfl⟩,?_⟩;have rsY:=Ei (caps:=caps) rs3 (pv.ext x4) (pu.ext x4);refine⟨r2,_,S2,_,rsY,⟨rb3,λ_ _ _ _ _ _ _ _ _ z=>z.elim⟩,q,λz H4 r4 dz S4 x6 aJ p4 q4=>?_⟩;split at q4
      ·rename_i ys eys;obtain⟨hl,m',hm,q4⟩:=q4;have ha4:r4[S1.length]?=some D0:=x6.adr _ _ ha2;obtain⟨zs,hD4,pz⟩:=aJ.b.ob _ _ _ ha4 eys;obtain⟨rel5,x7⟩:=aJ.b.set ha4 eys (pz.snoc p4);exact⟨zs,hD4,by rw[<- pz.1];exact Su (xG hl),m',hm,r4,_,x3.trans (x4.trans (x6.trans x7)),rel5,q4⟩
      ·exact q4.elim
     ·obtain⟨hk,q⟩:=q;exact .inl ⟨⟨xs,ys,sq,sq',by rw[<- pr.1,<- pr'.1];exact hk.symm⟩,ret _ H2 r2 _ S2 (x1.trans (x2.trans x3)) ⟨rb2,bD.xw.ext (x1.trans (x2.trans x3))⟩ (.ref ha2) q⟩
    ·exact q.elim
 ·exact q1.elim
theorem TF (har:X.env.scope=ar)(hc:X.calm=true)(cs:VD sc ar [x1,x2] N)(hl1:sc.names.lookup x1=some .local)(hl2:sc.names.lookup x2=some .local)(hN:caps.map (λi=>X.N[i]?)=N.map some)(hnd:([x1,x2]++N).Nodup)(hg:Gl X "zip")(hm:X.mg "zip"=none)(hv:bootBuiltins "zip"=some (.type "zip"))(ha:PDA X Z [a,b] ta)(he:∀cl C s0 H0 fp pn,PD (Cx.comp X sc ([x1,x2]++N) cl C s0 H0 fp pn) Z0 aZ te)(hse:starEach [a,b] X.env=[(false,eval a X.env),(false,eval b X.env)]:=by rfl)(hse2:starEach [b] X.env=[(false,eval b X.env)]:=by rfl)(hs:∀y,foldedSetIterable (.Call (.Name "zip" p) [a,b] [] aQ) X.env y=pure y:=by intro _;rfl):
  PD X Z (.ListComp aZ [⟨.Tuple [.Name x1 p1,.Name x2 p2] kk tp,.Call (.Name "zip" p) [a,b] [] aQ,[],0⟩] sc pos) (VF caps ta te):=by
 subst har;refine Yw (HY hc cs hN (gt:=UM X.K 2 (TN [0,1])) (te:=up X.K Z0 te) (Jo hg hm hv ha hse hse2) (λcl C s0 H0 fp pn=>?_) he hs) λ_ _ _ h=>GR h
 have l1:(Cx.comp X sc ([x1,x2]++N) cl C s0 H0 fp pn).env.scope.names.lookup x1=some .local:=lookup_relabel_local hl1
 have l2:(Cx.comp X sc ([x1,x2]++N) cl C s0 H0 fp pn).env.scope.names.lookup x2=some .local:=lookup_relabel_local hl2;exact UY hc (Uz hnd (.cons rfl (.inl l1) (.inr l1) (.cons rfl (.inl l2) (.inr l2) .nil))) rfl rfl
end
section
variable {X:Cx}{Z:Zx}{pos:Pos}
def dPar (i j:Nat)(ta:TDA):TDS:=λE dl S=>ta dl S λds S1=>match ds with
 | [v,w]=>E.nx ((dl.set i (some v)).set j (some w)) S1
 | _=>False
theorem DO {kt k2 pt2}(hc:X.calm=true)(hN:X.N.Nodup)(hi:X.N[i]?=some x)(hj:X.N[j]?=some y)(hij:i≠j)(hx:X.env.scope.names.lookup x=some .local)(hy:X.env.scope.names.lookup y=some .local)(ha:PDA X Z [a,b] ta)(hw:swappedStores [.Tuple [.Name x px,.Name y py] kt pt] (.Tuple [a,b] k2 pt2) X.env=pure (some [x,y]):=by rfl)(hs:swapsWithSole [.Tuple [.Name x px,.Name y py] kt pt] (.Tuple [a,b] k2 pt2) pos.line X.env=pure false:=by rfl):
  PDS X Z (.Assign [.Tuple [.Name x px,.Name y py] kt pt] (.Tuple [a,b] k2 pt2) pos) (dPar i j ta):=
 YO (zcD hc hN hi hj hij hx hy ha hw hs) λF σ H ⟨r,dl,S,E,rs,bD,h,ret⟩=>by
  refine⟨r,dl,S,_,rs,bD,h,λvs H1 r1 ds S1 x1 aF p1 q1=>?_⟩;split at q1
  ·rename_i v w;obtain⟨v1,vs1,rfl,p2,p3⟩:=p1.uncons;obtain⟨v2,vs2,rfl,p4,p5⟩:=p3.uncons;have z:=p5.unnil;subst z;exact⟨v1,v2,rfl,ret.nx _ H1 r1 _ S1 x1 (((rs.ext x1).set i p2).set j p4) aF q1⟩
  ·exact q1.elim
end
section
variable {X:Cx}{Z:Zx}{pos:Pos}
end
section
variable {X:Cx}{Z:Zx}{pos:Pos}
theorem GC {P:Sto->D->D->Prop}{A:Around}{H:Hp}{s:Shared}{r:List Addr}{S:Sto}{ds es:List D}{xs ys:List V}{is js:List Value}(f:∀ {d e:D} {v1 v2:V} {u1 u2:Value},P S d e->Rp r H d v1->Rp r H e v2->ZG v1 u1->ZG v2 u2->SeqAt.EqAt A s u1 u2 true)(pr:Rps r H ds xs)(pr':Rps r H es ys)(ri:ZI xs is)(rj:ZI ys js)(hall:∀(k:Nat)(d e:D),ds[k]?=some d->es[k]?=some e->P S d e):
  ∀(k:Nat)(h1:k<is.toArray.size)(h2:k<js.toArray.size),SeqAt.EqAt A s is.toArray[k] js.toArray[k] true:=λk h1 h2=>by
 have l3:=ri.length
 have l4:=rj.length
 have k1:k<is.length:=by simpa using h1
 have k2:k<js.length:=by simpa using h2
 obtain⟨d,hd,pd⟩:=pr.get' (zB (l:=xs) (i:=k) (by omega));obtain⟨e,he,pe⟩:=pr'.get' (zB (l:=ys) (i:=k) (by omega));obtain⟨u1,hu1,ru1⟩:=ri.get (zB (l:=xs) (i:=k) (by omega));obtain⟨u2,hu2,ru2⟩:=rj.get (zB (l:=ys) (i:=k) (by omega));have z1:is.toArray[k]=u1:=by
  rw[zB k1] at hu1;simpa using Option.some.inj hu1
 have z2:js.toArray[k]=u2:=by
  rw[zB k2] at hu2;simpa using Option.some.inj hu2
 rw[z1,z2];exact f (hall k d e hd he) pd pe ru1 ru2
end
section
variable {X:Cx}{Z:Zx}{aZ aX:Expr}{aT:List Expr}{kk:Nat}{tp pos:Pos}{sc ar:Scope}{own N:List Str}{caps:List Nat}{wi:TI}{gt:TG}
theorem zdw (hc:X.calm=true)(cs:VD sc X.env.scope own N)(hN:caps.map (λi=>X.N[i]?)=N.map some)(hi:PI X (.Tuple aT kk tp) aX wi)(hg:∀cl C s0 H0 fp pn,PG (Cx.comp X sc (own++N) cl C s0 H0 fp pn) (.Tuple aT kk tp) gt)(he:∀cl C s0 H0 fp pn,PE (Cx.comp X sc (own++N) cl C s0 H0 fp pn) aZ te)(hNd:X.N.Nodup)(hy:X.N[i]?=some y)(hl:X.env.scope.names.lookup y=some .local)(hsw:swapsWith (.ListComp aZ [⟨.Tuple aT kk tp,aX,[],0⟩] sc pos) (some (.Name y py)) spos.line X.env=pure true)(hs:∀y,foldedSetIterable aX X.env y=pure y:=by intro _;rfl):PS X (.Assign [.Name y py] (.ListComp aZ [⟨.Tuple aT kk tp,aX,[],0⟩] sc pos) spos) (λE σ H=>R8 own.length caps wi gt te σ H λv H1=>E.nx (σ.set i (some v)) H1):=by
 intro aA s σ H E I h;rw[exec_Assign_Name_used (hs:=hsw)];refine wpAny_bind (wpAny_standAt ?_);refine wpAny_bind ?_;show wpAny _ _ (comprehension _ sc X.env _ (newList []) false (eval aX X.env) (some (assign (.Name y py) X.env)) >>= λ_=>pure ()) _ _ s
 refine wpAny_bind (thn (GZ (use:=some (assign (.Name y py) X.env)) (Qr:=λ_ s'=>SP X aA E .next s') hc cs (Vy hN).1 (Vy hN).2 hi hg he hs I h λD C s' f=>?_) λ_ s' hq=>wpAny_pure (wpAny_pure hq));obtain⟨⟨H',I',q,hC⟩,⟨m,ns⟩,l,o,c,p⟩:=f;refine wpAny_assign_Name (Hc (v:=.ref D) I' hNd hy (.inl hl) rfl (λs'' I'' ⟨a,sb,ha⟩=>⟨m,ns.sameBut sb ?_,λh' sb'=>⟨_,H',I''.turned (t':=s''.toks) (λb ob hb e=>(sb'.2 b hb).trans e) hC l (.inr o) c p,q⟩⟩) (.inr hl));rcases ha with rfl|ha
 ·exact l
 ·exact Ne.symm (c _ _ ha)
theorem zc0 (har:X.env.scope=ar)(hc:X.calm=true)(cs:VD sc ar [x1,x2] N)(hl1:sc.names.lookup x1=some .local)(hl2:sc.names.lookup x2=some .local)(hN:caps.map (λi=>X.N[i]?)=N.map some)(hnd:([x1,x2]++N).Nodup)(hNd:X.N.Nodup)(hy:X.N[i]?=some y)(hlo:ar.names.lookup y=some .local)(hg:Gl X "zip")(hm:X.mg "zip"=none)(hv:bootBuiltins "zip"=some (.type "zip"))(ha:PDA X Z [a,b] ta)(he:∀cl C s0 H0 fp pn,PD (Cx.comp X sc ([x1,x2]++N) cl C s0 H0 fp pn) Z0 aZ te)(hsw:swapsWith (.ListComp aZ [⟨.Tuple [.Name x1 p1,.Name x2 p2] kk tp,.Call (.Name "zip" p) [a,b] [] aQ,[],0⟩] sc pos) (some (.Name y py)) spos.line X.env=pure true:=by rfl)(hse:starEach [a,b] X.env=[(false,eval a X.env),(false,eval b X.env)]:=by rfl)(hse2:starEach [b] X.env=[(false,eval b X.env)]:=by rfl)(hs:∀y,foldedSetIterable (.Call (.Name "zip" p) [a,b] [] aQ) X.env y=pure y:=by intro _;rfl):
  PDS X Z (.Assign [.Name y py] (.ListComp aZ [⟨.Tuple [.Name x1 p1,.Name x2 p2] kk tp,.Call (.Name "zip" p) [a,b] [] aQ,[],0⟩] sc pos) spos) (Sn i (VF caps ta te)):=by
 subst har;refine YO (zdw hc cs hN (gt:=UM X.K 2 (TN [0,1])) (te:=up X.K Z0 te) (Jo hg hm hv ha hse hse2) (λcl C s0 H0 fp pn=>?_) he hNd hy hlo hsw hs) λF σ H h=>Ht (λ_ h=>GR h) h
 have l1:(Cx.comp X sc ([x1,x2]++N) cl C s0 H0 fp pn).env.scope.names.lookup x1=some .local:=lookup_relabel_local hl1
 have l2:(Cx.comp X sc ([x1,x2]++N) cl C s0 H0 fp pn).env.scope.names.lookup x2=some .local:=lookup_relabel_local hl2;exact UY hc (Uz hnd (.cons rfl (.inl l1) (.inr l1) (.cons rfl (.inl l2) (.inr l2) .nil))) rfl rfl
end
section
variable {X:Cx}{Z:Zx}
def EK:WC:=λds S Q=>match ds with
 | [.bl b]=>Q (.int (if b then 1 else 0)) S
 | _=>False
theorem JQ:Yt X (.type "int") (upC X.K Z EK):=by
 intro aA s σ H xs us Qv I rv h;obtain⟨r,S,ds,Q,bD,ps,q,ret⟩:=h;unfold EK at q;split at q
 ·rename_i b;obtain⟨v,vs,rfl,p1,p2⟩:=ps.uncons;have z:=p2.unnil;subst z;cases p1;obtain⟨u,rfl,ru⟩:=Wg rv;cases ru;exact call_int_bool ⟨.int _,H,I.tok _,⟨_,rfl⟩,ret _ _ _ _ _ Ext.refl bD (.int _) q⟩
 ·exact q.elim
end
section
variable {X:Cx}{Z:Zx}{pos:Pos}
def DX (i:Nat)(ta:TDA)(tb:TDS):TDS:=λE dl S=>ta dl S λds S1=>match ds with
 | [.int lo,.int hi]=>(-(2^62)<=lo/\lo<2^62/\-(2^62)<=hi/\hi<2^62)/\∃W:Nat->Ev->Sto->Prop,W 0 dl S1/\∀k dl S,W k dl S->
   if k<(hi-lo).toNat then tb { nx:=λdl' S'=>W (k+1) dl' S',rt:=E.rt,bk:=E.nx,ct:=λdl' S'=>W (k+1) dl' S' } (dl.set i (some (.int (lo+k)))) S else E.nx dl S
 | _=>False
theorem zao (hp:PassesOwn (model X.prog X.w) X.A X.env X.xe)(hc:X.calm=true)(hN:X.N.Nodup)(hi:X.N[i]?=some x)(hx:Loc X.env.scope x)(hg:Gl X "range")(hm:X.mg "range"=none)(ha:PDA X Z [a,b] ta)(hb:XC X Z body tb)(hf:X.fn x=true\/X.env.scope.names.lookup x=some .local:=by first|exact .inl rfl|exact .inr rfl|assumption)(hs:∀y,foldedSetIterable (.Call (.Name "range" p) [a,b] [] pos) X.env y=pure y:=by intro _;rfl)(hst:starEach [a,b] X.env=[(false,eval a X.env),(false,eval b X.env)]:=by rfl)(hst2:starEach [b] X.env=[(false,eval b X.env)]:=by rfl):
  PDS X Z (.For (.Name x pos') (.Call (.Name "range" p) [a,b] [] pos) body [] aQ) (DX i ta tb):=
 YO (UB hp hc (zaS hg hm ha hst hst2) (UX hN hi hx hf) hb hs) λF σ H ⟨r,dl,S,E,rs,bD,h,ret⟩=>by
  refine⟨r,dl,S,_,rs,bD,h,λvs H1 r1 ds S1 x1 aF p1 q1=>?_⟩;split at q1
  ·rename_i lo hi;obtain⟨v,vs',rfl,p2,p3⟩:=p1.uncons;obtain⟨v2,vs2,rfl,p4,p5⟩:=p3.uncons;have z:=p5.unnil;subst z;cases p2;cases p4;obtain⟨bds,W,w0,turn⟩:=q1;refine⟨lo,hi,rfl,bds,λk m σ' H'=>m=(hi-lo).toNat-k/\∃r' dl' S',Ext r1 r' H1 H'/\Rs r' H' dl' σ'/\Rel X.K Z r' S' H'/\W k dl' S',⟨(hi-lo).toNat,by simp,r1,dl,S1,Ext.refl,rs.ext x1,aF,w0⟩,?_⟩;rintro k m σ2 H2 ⟨em,r2,dl2,S2,x2,rs2,aG,w2⟩;have q:=turn k dl2 S2 w2;split at q
   ·rename_i hk;have go:∀σ' H' r' dl' S',Ext r2 r' H2 H'->Rs r' H' dl' σ'->Rel X.K Z r' S' H'->W (k+1) dl' S'->∃r' dl' S',Ext r1 r' H1 H'/\Rs r' H' dl' σ'/\Rel X.K Z r' S' H'/\W (k+1) dl' S':=
     λσ' H' r' dl' S' x rs' rel' w'=>⟨r',dl',S',x2.trans x,rs',rel',w'⟩
    have pk:Rp r2 H2 (.int (lo+(k:Int))) (.int (lo+(k:Int))):=.int _;refine .inr ⟨hk,λσ' H'=>∃r' dl' S',Ext r1 r' H1 H'/\Rs r' H' dl' σ'/\Rel X.K Z r' S' H'/\W (k+1) dl' S',λσ' H' z=>⟨(hi-lo).toNat-(k+1),by omega,rfl,z⟩,λv' H' y'=>?_⟩;obtain⟨eH,y'⟩:=y';subst eH;subst y';exact⟨r2,_,S2,_,rs2.set i pk,aG,q,go,λσ' H' r' dl' S' x rs' rel' z=>ret.nx σ' H' r' dl' S' (x1.trans (x2.trans x)) rs' rel' z,go,ret.rt.ext (x1.trans x2)⟩
   ·rename_i hk;exact .inl ⟨by show (hi-lo).toNat<=k;omega,ret.nx σ2 H2 r2 dl2 S2 (x1.trans x2) rs2 aG q⟩
  ·exact q1.elim
end
end L3
namespace L2
open PySem PySem.Spec PyProof.Rows
end L2
namespace L3
open PySem PySem.Spec PyProof.Rows L2
end L3
set_option Elab.async false
set_option linter.all false
set_option maxRecDepth 100000
set_option maxHeartbeats 40000000
namespace Mine
open PySem PySem.Spec PyProof.Rows L2 L3
theorem fsc {N P:List Str}{sc:Scope}(a:sc.kind=.function:=by rfl)(b:sc.isCoroutine=false:=by rfl)(c:sc.isGenerator=false:=by rfl)(d:N.Nodup:=by decide +kernel)(e:N.take P.length=P:=by rfl)(f:∀x∈P,sc.names.lookup x=some .local\/sc.names.lookup x=some .cell:=by decide +kernel)(g:∀y∈sc.names,y.2≠.free:=by decide +kernel):ZC N P sc:=⟨a,b,c,d,e,f,g⟩
theorem csc {sc ar:Scope}{x:Str}{caps:List Str}(a:sc.kind=.function:=by rfl)(b:∀y∈sc.names,y.2≠.cell:=by decide +kernel)(c:∀y∈sc.names,y.2=.local->sc.names.lookup y.1=some .local:=by decide +kernel)(d:sc.names.lookup x=some .local:=by rfl)(e:∀y∈caps,sc.names.lookup y=some .free:=by decide +kernel)(f:∀y∈sc.names,y.2=.free->ar.names.lookup y.1=some .cell:=by decide +kernel):Vb sc ar x caps:=⟨a,b,c,d,e,f⟩
theorem Vn {sc ar:Scope}{own caps:List Str}(a:sc.kind=.function:=by rfl)(b:∀y∈sc.names,y.2≠.cell:=by decide +kernel)(c:∀y∈sc.names,y.2=.local->sc.names.lookup y.1=some .local:=by decide +kernel)(e:∀y∈caps,sc.names.lookup y=some .free:=by decide +kernel)(f:∀y∈sc.names,y.2=.free->ar.names.lookup y.1=some .cell:=by decide +kernel):VD sc ar own caps:=⟨a,b,c,e,f⟩
abbrev Ln (sp:Sd)(n:Nat):Prop:=∀ds S Q ex,sp ds S Q ex->ds.length=n
theorem Zj {X:Cx}{x:Str}{p pos:Pos}{e:Expr}{es:List Expr}{t:TDA}{k j:Nat}{ps:List Str}{sd:Sd}{ex:Ev->Addr->Sto->Prop}(G:Fk X.prog X.w X.K X.mg X.base k x ps sd)(hr:Yb j X.A)(ha:PDA X ⟨ex,Z0.w⟩ (e::es) t)(hk:k<=j:=by decide)(hg:Gl X x:=by rfl)
  (hdb:(x==("__debug__":Str))=false:=by decide)(he:starEach (e::es) X.env=(false,eval e X.env)::starEach es X.env:=by rfl)(hpl:(backTo pos (starEach es X.env)).any (·.1)=false:=by rfl):PD X ⟨ex,Z0.w⟩ (.Call (.Name x p) (e::es) [] pos) (KJ ex sd t):=DV G (hr.mono hk) UH hg ha hdb he hpl
abbrev O7:Stmt:=top 61
abbrev Uy:List Str:=[q13]
theorem zdh:ZC [q13] Uy (Zo O7):=fsc
abbrev Ld:Stmt:=top 62
abbrev WU:List Str:=[q13,XE]
theorem R9:ZC [q13,XE,q15,"_law_first","_law_second"] WU (Zo Ld):=fsc
abbrev P7:Stmt:=top 68
abbrev RR:List Str:=[q15]
theorem zcN:ZC [q15] RR (Zo P7):=fsc
abbrev OV:Stmt:=top 69
abbrev QJ:List Str:=[q15,Uo]
theorem UN:ZC [q15,Uo,"_law_low","_law_wide_here"] QJ (Zo OV):=fsc
abbrev Nv:Stmt:=top 78
abbrev RO:List Str:=[q92,Se,"_law_whole",q7]
theorem IS:ZC [q92,Se,"_law_whole",q7,Px,XE] RO (Zo Nv):=fsc
abbrev MN:Stmt:=top 89
abbrev Ql:List Str:=[q15]
theorem DW:ZC [q15] Ql (Zo MN):=fsc
abbrev LH:Stmt:=top 90
abbrev QU:List Str:=[q13,RB,q7]
theorem WB:ZC [q13,RB,q7,q92,"_law_points",XE,"_law_one",Uo,"_law_steps","_law_above","_law_low"] QU (Zo LH):=fsc
abbrev LJ:Stmt:=top 64
abbrev Uv:List Str:=["_law_top","_law_bottom"]
theorem Ki:ZC ["_law_top","_law_bottom",Xy,"_law_b"] Uv (Zo LJ):=fsc
abbrev Lg:Stmt:=top 79
abbrev Ut:List Str:=[q28,VI]
theorem zb9:ZC [q28,VI] Ut (Zo Lg):=fsc
abbrev NX:Stmt:=top 80
abbrev SD:List Str:=[q28,Px,q7]
theorem QR:ZC [q28,Px,q7,q85,XE,"_law_place","_law_number_here"] SD (Zo NX):=fsc
abbrev Mu:Stmt:=top 65
abbrev Sy:List Str:=[q15]
theorem zc8:ZC [q15] Sy (Zo Mu):=fsc
abbrev Nb:Stmt:=top 63
abbrev Ra:List Str:=[q15]
theorem zcX:ZC [q15] Ra (Zo Nb):=fsc
abbrev NT:Stmt:=top 66
abbrev QS:List Str:=[q28,R1,VI,"_law_weight"]
theorem zd2:ZC [q28,R1,VI,"_law_weight"] QS (Zo NT):=fsc
abbrev O9:Stmt:=top 67
abbrev Ss:List Str:=[q28,R1,q15,"_law_most","_law_free_here"]
theorem Vt:ZC [q28,R1,q15,"_law_most","_law_free_here","_law_one",Uo,"_law_weight",Xy,VL,"_law_word"] Ss (Zo O9):=fsc
abbrev O5:Stmt:=top 81
abbrev SI:List Str:=[q28,Se]
theorem OB:ZC [q28,Se,"_law_total","_law_part"] SI (Zo O5):=fsc
abbrev PR:Stmt:=top 92
abbrev RL:List Str:=[q13,q28,"_law_ones","_law_others"]
theorem Vv:ZC [q13,q28,"_law_ones","_law_others",VL,"_law_rows_here","_law_j",Se,XE,"_law_pair","_law_square"] RL (Zo PR):=fsc
abbrev ML:Stmt:=top 83
abbrev TV:List Str:=["_law_span","_law_more_here"]
theorem zdM:ZC ["_law_span","_law_more_here"] TV (Zo ML):=fsc
abbrev P4:Stmt:=top 70
abbrev Qe:List Str:=[Xy,VL]
theorem Pw:ZC [Xy,VL,"_law_found",RS] Qe (Zo P4):=fsc
abbrev Oo:Stmt:=top 74
abbrev UC:List Str:=[Xy,VL,q7]
theorem Ju:ZC [Xy,VL,q7,"_law_ends","_law_share"] UC (Zo Oo):=fsc
abbrev NI:Stmt:=top 71
abbrev VT:List Str:=[Xy,"_law_b"]
theorem zdu:ZC [Xy,"_law_b"] VT (Zo NI):=fsc
abbrev PH:Stmt:=top 72
abbrev Uu:List Str:=[Xy,"_law_b"]
theorem zc7:ZC [Xy,"_law_b"] Uu (Zo PH):=fsc
abbrev LY:Stmt:=top 73
abbrev Ub:List Str:=[Xy,"_law_b",q7]
theorem Ej:ZC [Xy,"_law_b",q7,"_law_four"] Ub (Zo LY):=fsc
abbrev Lk:Stmt:=top 75
abbrev Sv:List Str:=[VI,Vo,q92,q7]
theorem Nn:ZC [VI,Vo,q92,q7,"_law_word","_law_one",Uo] Sv (Zo Lk):=fsc
abbrev Kc:Stmt:=top 82
abbrev Tu:List Str:=[q13,TK,"_law_which"]
theorem JF:ZC [q13,TK,"_law_which",q15] Tu (Zo Kc):=fsc
abbrev Na:Stmt:=top 84
abbrev RV:List Str:=[q28,q92,q7,q13,"_law_which"]
theorem J1:ZC [q28,q92,q7,q13,"_law_which",Vo,TK] RV (Zo Na):=fsc
abbrev LR:Stmt:=top 76
abbrev RH:List Str:=[Xy,VL,q7]
theorem FN:ZC [Xy,VL,q7] RH (Zo LR):=fsc
abbrev M9:Stmt:=top 77
abbrev QN:List Str:=[VI,Vo,q85,XE,q7]
theorem Om:ZC [VI,Vo,q85,XE,q7,"_law_word","_law_one",Uo] QN (Zo M9):=fsc
abbrev MX:Stmt:=top 85
abbrev Ru:List Str:=[q28,Vo,RB,q7,q13]
theorem RQ:ZC [q28,Vo,RB,q7,q13,q85,TK,"_law_row",XE] Ru (Zo MX):=fsc
abbrev Rr:Stmt:=top 86
abbrev Sm:List Str:=[q85,Ui,q7]
theorem WZ:ZC [q85,Ui,q7,"_law_rows_here",TK,"_law_whole","_law_square","_law_first","_law_last"] Sm (Zo Rr):=fsc
abbrev Po:Stmt:=top 88
abbrev Qw:List Str:=[q13,"_law_first",q85,Ui,q7]
theorem Vm:ZC [q13,"_law_first",q85,Ui,q7,RS,"_law_row","_law_entries",XE,q15,"_law_entry"] Qw (Zo Po):=fsc
abbrev M6:Stmt:=top 93
abbrev SY:List Str:=["_law_due",q92]
theorem PN:ZC ["_law_due",q92,"_law_near",XE,"_law_low"] SY (Zo M6):=fsc
abbrev Sw:Stmt:=top 87
abbrev RT:List Str:=["_law_thin",q85,Ui,q92,q7,RS]
theorem Wc:ZC ["_law_thin",q85,Ui,q92,q7,RS,"_law_centre","_law_found",XE,"_law_near","_law_j",TK,"_law_part"] RT (Zo Sw):=fsc
abbrev SA:Stmt:=top 91
abbrev QP:List Str:=["_law_book"]
theorem Sk:ZC ["_law_book",q85,q92,"_law_fate",Se,"_law_part"] QP (Zo SA):=fsc
abbrev RA:Stmt:=top 46
abbrev Ua:List Str:=["lists","many"]
theorem DS:ZC ["lists","many"] Ua (Zo RA):=fsc
abbrev Me:Stmt:=top 56
abbrev R4:List Str:=["book"]
theorem OI:ZC ["book","found","entry","fate"] R4 (Zo Me):=fsc
abbrev R7:Stmt:=top 57
abbrev RG:List Str:=["box","book"]
theorem zbR:ZC ["box","book"] RG (Zo R7):=fsc
abbrev N0:Stmt:=top 15
abbrev Rl:List Str:=["a","b"]
theorem A0:ZC ["a","b"] Rl (Zo N0):=fsc
abbrev SS:Stmt:=top 45
abbrev VO:List Str:=["ones","others"]
theorem zcK:ZC ["ones","others"] VO (Zo SS):=fsc
abbrev Mh:Stmt:=top 6
abbrev RC:List Str:=["a","b"]
theorem Ap:ZC ["a","b"] RC (Zo Mh):=fsc
abbrev Pe:Stmt:=top 8
abbrev VU:List Str:=["top",W8]
theorem zdr:ZC ["top",W8] VU (Zo Pe):=fsc
abbrev Kd:Stmt:=top 9
abbrev QQ:List Str:=["low","high","grid"]
theorem Ct:ZC ["low","high","grid"] QQ (Zo Kd):=fsc
abbrev NJ:Stmt:=ZK (top 20) 2
abbrev Rg:List Str:=["self",q11,"box","grid"]
theorem Fu:ZC ["self",q11,"box","grid","number"] Rg (Zo NJ):=fsc
abbrev M4:Stmt:=ZK (top 21) 2
abbrev QK:List Str:=["self",q11,"box","grid"]
theorem zds:ZC ["self",q11,"box","grid"] QK (Zo M4):=fsc
abbrev Mz:Stmt:=top 10
abbrev Vc:List Str:=["a","b"]
theorem zb3:ZC ["a","b"] Vc (Zo Mz):=fsc
abbrev OR:Stmt:=ZK (top 23) 1
abbrev SM:List Str:=["self",q11,"box","grid"]
theorem zdQ:ZC ["self",q11,"box","grid"] SM (Zo OR):=fsc
abbrev LN:Stmt:=top 11
abbrev Vs:List Str:=["a","b"]
theorem Ds:ZC ["a","b"] Vs (Zo LN):=fsc
abbrev OY:Stmt:=ZK (top 24) 1
abbrev Rn:List Str:=["self",q11,"box","grid"]
theorem Dd:ZC ["self",q11,"box","grid"] Rn (Zo OY):=fsc
abbrev Mj:Stmt:=top 12
abbrev VJ:List Str:=["a","b","grid"]
theorem GX:ZC ["a","b","grid","products"] VJ (Zo Mj):=fsc
abbrev Oe:Stmt:=ZK (top 25) 1
abbrev SE:List Str:=["self",q11,"box","grid"]
theorem zbh:ZC ["self",q11,"box","grid"] SE (Zo Oe):=fsc
abbrev Ou:Stmt:=top 5
abbrev Rv:List Str:=["number","many"]
theorem NH:ZC ["number","many","worth","step"] Rv (Zo Ou):=fsc
abbrev QM:Stmt:=top 13
abbrev Sf:List Str:=["a","many","grid"]
theorem Pl:ZC ["a","many","grid","places","powers",W8] Sf (Zo QM):=fsc
abbrev LC:Stmt:=ZK (top 26) 2
abbrev RD:List Str:=["self",q11,"box","grid"]
theorem zcf:ZC ["self",q11,"box","grid"] RD (Zo LC):=fsc
abbrev Ls:Stmt:=ZK (top 20) 0
abbrev Ri:List Str:=["self","top",W8]
theorem BV:ZC ["self","top",W8] Ri (Zo Ls):=fsc
abbrev PX:Stmt:=ZK (top 21) 0
abbrev RX:List Str:=["self","place"]
theorem BI:ZC ["self","place"] RX (Zo PX):=fsc
abbrev NW:Stmt:=ZK (top 22) 0
abbrev So:List Str:=["self","one",Wd]
theorem zdB:ZC ["self","one",Wd] So (Zo NW):=fsc
abbrev Nw:Stmt:=ZK (top 22) 0
abbrev RF:List Str:=["self","one",Wd]
theorem C8:ZC ["self","one",Wd] RF (Zo Nw):=fsc
abbrev Oh:Stmt:=ZK (top 22) 0
abbrev QO:List Str:=["self","one",Wd]
theorem zdj:ZC ["self","one",Wd] QO (Zo Oh):=fsc
abbrev Pn:Stmt:=ZK (top 26) 0
abbrev SW:List Str:=["self","one","many"]
theorem Bi:ZC ["self","one","many"] SW (Zo Pn):=fsc
abbrev Ng:Stmt:=top 27
abbrev UD:List Str:=["node"]
theorem zdW:ZC ["node"] UD (Zo Ng):=fsc
abbrev Rq:Stmt:=top 48
abbrev Sj:List Str:=[X9,"box","grid",q11]
theorem zbk:ZC [X9,"box","grid",q11] Sj (Zo Rq):=fsc
abbrev OG:Stmt:=top 50
abbrev SK:List Str:=[X9,"box","grid",q11]
theorem zbL:ZC [X9,"box","grid",q11] SK (Zo OG):=fsc
abbrev Nt:Stmt:=top 30
abbrev Rk:List Str:=["word","span"]
theorem zbP:ZC ["word","span"] Rk (Zo Nt):=fsc
abbrev SJ:Stmt:=top 40
abbrev RI:List Str:=["rows",q11]
theorem AX:ZC ["rows",q11] RI (Zo SJ):=fsc
abbrev P9:Stmt:=top 17
abbrev Rm:List Str:=["a"]
theorem AI:ZC ["a"] Rm (Zo P9):=fsc
abbrev RU:Stmt:=top 34
abbrev QI:List Str:=[q11]
theorem zbt:ZC [q11] QI (Zo RU):=fsc
abbrev RE:Stmt:=top 35
abbrev U1:List Str:=["box"]
theorem zcT:ZC ["box"] U1 (Zo RE):=fsc
abbrev Lo:Stmt:=ZK (top 20) 4
abbrev Pa:List Str:=["self",q11,q66,q91,"grid"]
theorem Az:ZC ["self",q11,q66,q91,"grid"] Pa (Zo Lo):=fsc
abbrev Qo:Stmt:=ZK (top 21) 4
abbrev Rc:List Str:=["self",q11,q66,q91,"grid"]
theorem zcw:ZC ["self",q11,q66,q91,"grid"] Rc (Zo Qo):=fsc
abbrev Mn:Stmt:=ZK (top 23) 4
abbrev Rf:List Str:=["self","x","y","a","b","grid"]
theorem zcG:ZC ["self","x","y","a","b","grid"] Rf (Zo Mn):=fsc
abbrev Q5:Stmt:=ZK (top 22) 2
abbrev Sr:List Str:=["self",q11,q66,q91,"grid"]
theorem HG:ZC ["self",q11,q66,q91,"grid","x","y"] Sr (Zo Q5):=fsc
abbrev Kh:Stmt:=ZK (top 24) 4
abbrev Qc:List Str:=["self","x","y","a","b","grid"]
theorem zce:ZC ["self","x","y","a","b","grid"] Qc (Zo Kh):=fsc
abbrev Qm:Stmt:=ZK (top 22) 2
abbrev Qd:List Str:=["self",q11,q66,q91,"grid"]
theorem Jd:ZC ["self",q11,q66,q91,"grid","x","y"] Qd (Zo Qm):=fsc
abbrev PJ:Stmt:=ZK (top 25) 4
abbrev Rh:List Str:=["self","x","y","a","b","grid"]
theorem zdq:ZC ["self","x","y","a","b","grid"] Rh (Zo PJ):=fsc
abbrev Qt:Stmt:=ZK (top 22) 2
abbrev Sl:List Str:=["self",q11,q66,q91,"grid"]
theorem K4:ZC ["self",q11,q66,q91,"grid","x","y"] Sl (Zo Qt):=fsc
abbrev OF:Stmt:=top 14
abbrev RY:List Str:=["a","many"]
theorem D5:ZC ["a","many"] RY (Zo OF):=fsc
abbrev RN:Stmt:=ZK (top 26) 4
abbrev SO:List Str:=["self",q11,q66,q91,"grid"]
theorem K5:ZC ["self",q11,q66,q91,"grid","lower","steep"] SO (Zo RN):=fsc
abbrev Rw:Stmt:=top 49
abbrev SV:List Str:=[X9,"box","grid",q11,"slopes"]
theorem FW:ZC [X9,"box","grid",q11,"slopes","many"] SV (Zo Rw):=fsc
abbrev QG:Stmt:=top 32
abbrev Rz:List Str:=["rows"]
theorem zbp:ZC ["rows"] Rz (Zo QG):=fsc
abbrev Pg:Stmt:=top 47
abbrev QE:List Str:=["matrix","many"]
theorem zcy:ZC ["matrix","many"] QE (Zo Pg):=fsc
abbrev Ml:Stmt:=top 36
abbrev Tz:List Str:=["ones","others","grid"]
theorem OK:ZC ["ones","others","grid","total","one",Wd] Tz (Zo Ml):=fsc
abbrev Pc:Stmt:=top 37
abbrev Ro:List Str:=["k","column","turns",q66,"grid"]
theorem Jc:ZC ["k","column","turns",q66,"grid","whole","column_slants"] Ro (Zo Pc):=fsc
abbrev Ug:Stmt:=top 38
abbrev Q9:List Str:=["k","box","grid","entries","thin",q66]
theorem Td:ZC ["k","box","grid","entries","thin",q66,"turns","centres","moved","lacks","ways"] Q9 (Zo Ug):=fsc
abbrev RM:Stmt:=top 39
abbrev SQ:List Str:=["box","grid","turn","thin",q66]
theorem zac:ZC ["box","grid","turn","thin",q66] SQ (Zo RM):=fsc
abbrev Qu:Stmt:=top 33
abbrev QA:List Str:=["each","places"]
theorem zck:ZC ["each","places"] QA (Zo Qu):=fsc
abbrev MO:Stmt:=top 16
abbrev Qq:List Str:=["a","b"]
theorem zct:ZC ["a","b"] Qq (Zo MO):=fsc
abbrev Q4:Stmt:=top 41
abbrev Qh:List Str:=["near","box"]
theorem zav:ZC ["near","box"] Qh (Zo Q4):=fsc
abbrev Kk:Stmt:=top 53
abbrev QH:List Str:=["rows","box","grid","fate"]
theorem QL:ZC ["rows","box","grid","fate","turn","near","places","due"] QH (Zo Kk):=fsc
abbrev OJ:Stmt:=top 54
abbrev QY:List Str:=[X9,"rows","box","grid","fate"]
theorem FH:ZC [X9,"rows","box","grid","fate",q11] QY (Zo OJ):=fsc
abbrev Ol:Stmt:=top 58
abbrev QZ:List Str:=[X9,"rows","grid","book","number"]
theorem Jj:ZC [X9,"rows","grid","book","number","box","fate"] QZ (Zo Ol):=fsc
abbrev R0:Stmt:=top 59
abbrev Qp:List Str:=[X9,"rows","box","grid","book"]
theorem BQ:ZC [X9,"rows","box","grid","book"] Qp (Zo R0):=fsc
abbrev Xq:Stmt:=top 94
abbrev Li:List Str:=[q13]
theorem Yx:ZC [q13,RB,q7,q92,"_law_share","_law_shares",Px,"_law_others",Uo,q28,"_law_ones","_law_twos",R1,XE,"_law_rows_here",Vo,"_law_centre","_law_thin",q85,Ui,RS,"_law_near","_law_book","_law_handed","_law_found"] Li (Zo Xq):=fsc
theorem kfo {K:Fg}{f c:Addr}{m:Value}{n q:Str}{st:Stmt}(l:K.lookup f=some (fo n q st m c)):PySem.W.keepIn K (.ref f)=true:=by
 unfold PySem.W.keepIn;simp only[l]
theorem ifo {K:Fg}{f c:Addr}{m:Value}{n q:Str}{st:Stmt}(l:K.lookup f=some (fo n q st m c)):PySem.W.isFn K (.ref f)=true:=by
 unfold PySem.W.isFn PySem.W.typeIn;simp only[l];rfl
theorem ln0 {P:List Value->Prop}(h:P []):∀us:List Value,us.length=0->P us
 | [],_=>h
theorem ln1 {P:List Value->Prop}(h:∀a,P [a]):∀us:List Value,us.length=1->P us
 | [a],_=>h a
theorem ln2 {P:List Value->Prop}(h:∀a b,P [a,b]):∀us:List Value,us.length=2->P us
 | [a,b],_=>h a b
theorem ln3 {P:List Value->Prop}(h:∀a b c,P [a,b,c]):∀us:List Value,us.length=3->P us
 | [a,b,c],_=>h a b c
theorem ln4 {P:List Value->Prop}(h:∀a b c d,P [a,b,c,d]):∀us:List Value,us.length=4->P us
 | [a,b,c,d],_=>h a b c d
theorem ln5 {P:List Value->Prop}(h:∀a b c d e,P [a,b,c,d,e]):∀us:List Value,us.length=5->P us
 | [a,b,c,d,e],_=>h a b c d e
theorem ln6 {P:List Value->Prop}(h:∀a b c d e f,P [a,b,c,d,e,f]):∀us:List Value,us.length=6->P us
 | [a,b,c,d,e,f],_=>h a b c d e f
abbrev Bn (n q:Str)(st:Stmt)(ps:List Str):Prop:=∀(kV doc pm:Value)(an:Option Addr)(cdv ct:Value)(us:List Value),us.length=ps.length->bindArgs (PySem.W.fnOf n q (Va st) (Wz st) (Zo st) .none kV doc pm an cdv ct) ⟨us,[]⟩=pure (ps.zip us)
def dfo {K:Fg}{mg:Str->Option Value}{h:Heap}(X:K.In h)(G:h.Ns mainGlobals mg){n:Str}{st:Stmt}{f c:Addr}{m:Value}{ps:List Str}(a:PySem.W.nsIn K mainGlobals n=some (some (.ref f)))(l:K.lookup f=some (fo n n st m c))(e:PySem.W.codeIn K (.ref c) n=true)(b:Bn n n st ps:=by first|exact λ_ _ _ _ _ _=>ln2 λ_ _=>rfl|exact λ_ _ _ _ _ _=>ln3 λ_ _ _=>rfl|exact λ_ _ _ _ _ _=>ln1 λ_=>rfl|exact λ_ _ _ _ _ _=>ln4 λ_ _ _ _=>rfl|exact λ_ _ _ _ _ _=>ln5 λ_ _ _ _ _=>rfl|exact λ_ _ _ _ _ _=>ln6 λ_ _ _ _ _ _=>rfl|exact λ_ _ _ _ _ _=>ln0 rfl):Df K mg n st ps:=⟨_,_,LX (st:=st) l e (kfo l),PySem.W.mg_of X G a,(LX (st:=st) l e (kfo l)).binds b⟩
def dmo {K:Fg}{C:Addr}{n q:Str}{st:Stmt}{f c:Addr}{m:Value}{ps:List Str}(a:PySem.W.findIn K (.ref C) n=some (some (.ref f)))(l:K.lookup f=some (fo n q st m c))(e:PySem.W.codeIn K (.ref c) q=true)(b:Bn n q st ps:=by first|exact λ_ _ _ _ _ _=>ln2 λ_ _=>rfl|exact λ_ _ _ _ _ _=>ln3 λ_ _ _=>rfl|exact λ_ _ _ _ _ _=>ln1 λ_=>rfl|exact λ_ _ _ _ _ _=>ln4 λ_ _ _ _=>rfl|exact λ_ _ _ _ _ _=>ln5 λ_ _ _ _ _=>rfl|exact λ_ _ _ _ _ _=>ln6 λ_ _ _ _ _ _=>rfl|exact λ_ _ _ _ _ _=>ln0 rfl):Dm K C n q st ps:=⟨_,_,LX (st:=st) l e (kfo l),⟨a,ifo l,kfo l⟩,(LX (st:=st) l e (kfo l)).binds b⟩
abbrev nsA (K:Fg)(n:Str)(f:Addr):Prop:=PySem.W.nsIn K mainGlobals n=some (some (.ref f))
abbrev fdA (K:Fg)(C:Addr)(n:Str)(f:Addr):Prop:=PySem.W.findIn K (.ref C) n=some (some (.ref f))
abbrev lkA (K:Fg)(f:Addr)(n q:Str)(st:Stmt)(m:Value)(c:Addr):Prop:=K.lookup f=some (fo n q st m c)
abbrev cdA (K:Fg)(c:Addr)(q:Str):Prop:=PySem.W.codeIn K (.ref c) q=true
theorem Yn {C:Addr}{f:Str}{to:TDE}{dl:Ev}{S S1:Sto}{Q:DK}{n:Nat}{fs:List (Str×D)}{v:D}(hto:∀K:DK,K (.ref n) S1->to dl S K)(h:S1[n]?=some (.ins C fs))(hf:fs.lookup f=some v)(hq:Q v S1):Pr C f to dl S Q:=by
 unfold Pr;refine hto _ ?_;simp only[Wv,h,if_pos,hf];exact hq
theorem Wm {C:Addr}{f:Str}{to te:TDE}{dl:Ev}{S S1 S2:Sto}{E:X1}{n:Nat}{fs:List (Str×D)}{v:D}(hte:∀K:DK,K v S1->te dl S K)(hto:∀K:DK,K (.ref n) S2->to dl S1 K)(h:S2[n]?=some (.ins C fs))(hl:fs.length<1000)(hq:E.nx dl (S2.set n (.ins C (TQ f v fs)))):MR C f to te E dl S:=by
 unfold MR;refine hte _ (hto _ ?_);simp only[Wv,h,if_pos];exact⟨hl,hq⟩
theorem JG {C:Addr}{m:Str}{ex:Ev->Addr->Sto->Prop}{sd:Sd}{to:TDE}{t:TDA}{dl:Ev}{S S1:Sto}{Q:DK}{n:Nat}{fs:List (Str×D)}(hto:∀K:DK,K (.ref n) S1->to dl S K)(h:S1[n]?=some (.ins C fs))(hf:fs.lookup m=none)(hq:t dl S1 λds S2=>sd (.ref n::ds) S2 Q (ex dl)):PY C m ex sd to t dl S Q:=by
 unfold PY;refine hto _ ?_;simp only[Wv,h,if_pos];exact⟨hf,hq⟩
theorem zaF {to ti te:TDE}{dl:Ev}{S:Sto}{E:X1}{n j:Nat}{k:Int}{xs:List D}{v:D}(hte:∀K:DK,K v S->te dl S K)(hto:∀K:DK,K (.ref n) S->to dl S K)(hti:∀K:DK,K (.int k) S->ti dl S K)(h:S[n]?=some (.lst xs))(hj:ixN xs.length k=some j)(hq:E.nx dl (S.set n (.lst (xs.set j v)))):UT to ti te E dl S:=by
 unfold UT;refine hte _ (hto _ (hti _ ?_));simp only[h,hj];exact hq
theorem Z9 (h:S[n]?=some (.lst xs))(hq:Q (.int (xs.length:Nat)) S):irr Th [.ref n] S Q:=by
 rw[VA];unfold Th;simp only[ZX h rfl];exact hq
theorem ZY {S:Sto}{n a:Nat}{o u:Ob}(h:S[n]?=some o)(hn:a≠n):(S.set a u)[n]?=some o:=by rw[xP hn];exact h
theorem Yp {S:Sto}{n:Nat}{o u:Ob}(h:S[n]?=some o):(S.set n u)[n]?=some u:=by
 have hk:=(zD.mp h).1;simp[hk]
theorem Zn {S:Sto}{n:Nat}{o:Ob}{T:Sto}(h:S[n]?=some o):(S++T)[n]?=some o:=by
 have hk:=(zD.mp h).1;rw[zQ hk];exact h
theorem Ws (T R:Sto)(u:Ob):(T++u::R)[T.length]?=some u:=by simp
theorem Wq (T R:Sto)(u v:Ob):(T++u::R).set T.length v=T++v::R:=by simp
theorem ZZ {S:Sto}{n:Nat}{o:Ob}(h:S[n]?=some o):n<S.length:=(zD.mp h).1
theorem zd3 (h1:S[n]?=some (.lst xs))(h2:S[m]?=some (.lst ys))(e:eqL (eqN 1) xs ys=some b)(hq:Q (.bl b) S):Y9 (V8 1) (.ref n) (.ref m) S Q:=by
 rw[Wa];unfold V8;simp only[Vw,ZX h1 rfl,ZX h2 rfl,Zs,e];exact hq
theorem Jw {i n:Nat}{tb:TDS}{E:X1}{dl:Ev}{S:Sto}{o:Ob}(W:Nat->Ev->Sto->Prop)(h0:W 0 dl S)(hk:∀k dl' S',W k dl' S'->S'[n]?=some o)
  (ht:∀(k:Nat)(x:D)(dl':Ev)(S':Sto)(nx ct:Ev->Sto->Prop),(Zs o)[k]?=some x->W k dl' S'->(∀dl2 S2,W (k+1) dl2 S2->nx dl2 S2)->tb { nx:=nx,rt:=E.rt,bk:=E.nx,ct:=ct } (dl'.set i (some x)) S')(he:∀dl' S',W (Zs o).length dl' S'->E.nx dl' S')(hL:Xf o=some o:=by rfl):
  (lAt S n).isSome=true/\∃W:Nat->Nat->Ev->Sto->Prop,(∃m,W 0 m dl S)/\∀k m dl S,W k m dl S->match lAt S n with
  | some o=>match (Zs o)[k]? with
   | some x=>tb { nx:=λdl' S'=>∃m',m'<m/\W (k+1) m' dl' S',rt:=E.rt,bk:=E.nx,ct:=λdl' S'=>∃m',m'<m/\W (k+1) m' dl' S' } (dl.set i (some x)) S
   | none=>E.nx dl S
  | none=>False:=by
 refine⟨by rw[ZX (hk _ _ _ h0) hL];rfl,λk m dl' S'=>m+k=(Zs o).length/\W k dl' S',⟨(Zs o).length,by lia,h0⟩,?_⟩;rintro k m dl' S' ⟨hm,w⟩;rw[ZX (hk _ _ _ w) hL];show (match (Zs o)[k]? with
   | some x=>tb { nx:=λdl' S''=>∃m',m'<m/\(m'+(k+1)=(Zs o).length/\W (k+1) dl' S''),rt:=E.rt,bk:=E.nx,ct:=λdl' S''=>∃m',m'<m/\(m'+(k+1)=(Zs o).length/\W (k+1) dl' S'') } (dl'.set i (some x)) S'
   | none=>E.nx dl' S')
 split
 ·rename_i x hx;have hk:k<(Zs o).length:=(zD.mp hx).1;exact ht k x dl' S' _ _ hx w λdl2 S2 w2=>⟨m-1,by lia,by lia,w2⟩
 ·rename_i hx;have hk:k=(Zs o).length:=by
   have:=yY.mp hx;lia
  exact he dl' S' (hk ▸ w)
inductive Nd where
 | number (t b:Int)|unknown (k:Int)|plus (i j:Int)|minus (i j:Int)|times (i j:Int)|power (i n:Int)
def Nd.d:Nd->D
 | .number t b=>.tup [.str "number",.int t,.int b]
 | .unknown k=>.tup [.str "unknown",.int k]
 | .plus i j=>.tup [.str "plus",.int i,.int j]
 | .minus i j=>.tup [.str "minus",.int i,.int j]
 | .times i j=>.tup [.str "times",.int i,.int j]
 | .power i n=>.tup [.str "power",.int i,.int n]
def Nd.ob (cN cU cP cM cT cW:Addr):Nd->Ob
 | .number t b=>.ins cN [("top",.int t),("bottom",.int b)]
 | .unknown k=>.ins cU [("place",.int k)]
 | .plus i j=>.ins cP [("one",.int i),("other",.int j)]
 | .minus i j=>.ins cM [("one",.int i),("other",.int j)]
 | .times i j=>.ins cT [("one",.int i),("other",.int j)]
 | .power i n=>.ins cW [("one",.int i),("many",.int n)]
def inR (m i:Int):Prop:=0<=i/\i<m
def Nd.ok (m q:Int):Nd->Prop
 | .number t b=>(1<=b/\b<=10^9)/\Int.gcd t b=1/\t.natAbs<=10^9
 | .unknown k=>inR q k
 | .plus i j=>inR m i/\inR m j
 | .minus i j=>inR m i/\inR m j
 | .times i j=>inR m i/\inR m j
 | .power i n=>inR m i/\2<=n/\n<=6
def frD (p:Int×Int):D:=.tup [.int p.1,.int p.2]
abbrev gt (vs:LI)(i:Int):Int×Int:=vs.getD i.toNat (0,1)
theorem VG (h:inR vs.length i):gt vs i∈vs:=by
 obtain⟨h0,h1⟩:=h;have hk:i.toNat<vs.length:=by lia
 have e:gt vs i=vs[i.toNat]:=by simp[gt,hk]
 rw[e];exact yI hk
theorem Z6 (h:inR vs.length i):atI (vs.map frD) i=some (frD (gt vs i)):=by
 obtain⟨h0,h1⟩:=h;have hk:i.toNat<vs.length:=by lia
 have z:=XA (xs:=vs.map frD) (j:=i.toNat) (v:=frD (gt vs i)) (by rw[zF,zB hk];simp[gt,hk]);rw[show ((i.toNat:Nat):Int)=i by lia] at z;exact z
theorem Fl {G:Int×Int->Prop}:∀xs:List D,(∀(k:Nat)(d:D),xs[k]?=some d->∃p,d=frD p/\G p)->∃vs:LI,xs=vs.map frD/\∀p∈vs,G p
 | [],_=>⟨[],rfl,λp h=>by cases h⟩
 | x::xs,h=>by
  obtain⟨p,rfl,hp⟩:=h 0 x rfl;obtain⟨vs,rfl,hv⟩:=Fl xs λk d hd=>h (k+1) d hd
  exact⟨p::vs,rfl,λq hq=>by
   rcases zO.mp hq with e|e
   ·subst e;exact hp
   ·exact hv q e⟩
theorem Ew {xs:List D}{d e:D}{i:Nat}{P:Nat->D->Prop}(h:(xs++[d])[i]?=some e)(hp:∀i d,xs[i]?=some d->P i d)(hd:P xs.length d):P i e:=by
 by_cases hi:i<xs.length
 ·rw[zQ hi] at h;exact hp i e h
 ·have hk:=(zD.mp h).1;simp only[zG,zT,yR] at hk;have e1:i=xs.length:=by lia
  subst e1;simp at h;subst h;exact hd
theorem HB {caps:List Nat}{ta:TDA}{te:TDE}{dl:Ev}{S S1:Sto}{Q:DK}{j:Int}(P:Nat->D->Prop)(hta:∀K:List D->Sto->Prop,K [.int j] S1->ta dl S K)(hj:0<=j/\j<=1000)
  (ht:∀k:Nat,k<j.toNat->∀(S2:Sto)(K:DK),Pre S1 S2->(∀d,P k d->K d S2)->te (some (.int k)::YR caps dl) S2 K)(hq:∀xs:List D,xs.length=j.toNat->(∀k d,xs[k]?=some d->P k d)->Q (.ref S1.length) (S1++[.lst xs])):Ww caps ta XH te dl S Q:=by
 unfold Ww;refine hta _ ⟨⟨by lia,by lia⟩,λk S2=>(∃xs:List D,S2=S1++[.lst xs]/\xs.length=k/\∀i d,xs[i]?=some d->P i d)/\k<=j.toNat,⟨⟨[],rfl,rfl,λi d h=>by simp at h⟩,by lia⟩,?_⟩;rintro k S2 ⟨⟨xs,rfl,hx,hp⟩,hk⟩;split
 ·rename_i hk';unfold Wy XH;simp only[if_true];refine ht k hk' _ _ Pre.refl.push λd hd=>?_
  rw[Zz];refine⟨by lia,⟨xs++[d],QB _ _ _,by simp[hx],λi e he=>Ew he hp (hx ▸ hd)⟩,by lia⟩
 ·have e:k=j.toNat:=by lia
  subst e;exact hq xs hx hp
theorem Qx {caps:List Nat}{tl te:TDE}{dl:Ev}{S S1:Sto}{Q:DK}{n:Nat}{o:Ob}(P:Nat->D->Prop)(htl:∀K:DK,K (.ref n) S1->tl dl S K)(h1:S1[n]?=some o)(hl:(Zs o).length<=1000)
  (ht:∀(k:Nat)(x:D),(Zs o)[k]?=some x->∀(S2:Sto)(K:DK),Pre S1 S2->(∀d,P k d->K d S2)->te (some x::YR caps dl) S2 K)(hq:∀xs:List D,xs.length=(Zs o).length->(∀k d,xs[k]?=some d->P k d)->Q (.ref S1.length) (S1++[.lst xs]))(hL:Xf o=some o:=by rfl):Wb caps tl XH te dl S Q:=by
 unfold Wb;refine htl _ ⟨by rw[ZX h1 hL];rfl,λk m S2=>(∃xs:List D,S2=S1++[.lst xs]/\xs.length=k/\∀i d,xs[i]?=some d->P i d)/\m+k=(Zs o).length,⟨(Zs o).length,⟨[],rfl,rfl,λi d h=>by simp at h⟩,by lia⟩,?_⟩;rintro k m S2 ⟨⟨xs,rfl,hx,hp⟩,hm⟩;rw[ZX (Ue h1) hL];dsimp only;split
 ·rename_i x hk;have hk':k<(Zs o).length:=(zD.mp hk).1;unfold Wy XH;simp only[if_true];refine ht k x hk _ _ Pre.refl.push λd hd=>?_
  rw[Zz];refine⟨by lia,m-1,by lia,⟨xs++[d],QB _ _ _,by simp[hx],λi e he=>Ew he hp (hx ▸ hd)⟩,by lia⟩
 ·rename_i hk;have hk':=yY.mp hk;exact hq xs (by lia) hp
theorem JD {S T:Sto}(h:Pre S T){n:Nat}{o:Ob}(e:S[n]?=some o):T[n]?=some o:=h n o e
structure U5 (a b c d mn mx:Int):Prop where
 lo:mn=a*c\/mn=a*d\/mn=b*c\/mn=b*d
 l1:mn<=a*c
 l2:mn<=a*d
 l3:mn<=b*c
 l4:mn<=b*d
 hi:mx=a*c\/mx=a*d\/mx=b*c\/mx=b*d
 h1:a*c<=mx
 h2:a*d<=mx
 h3:b*c<=mx
 h4:b*d<=mx
theorem U5.of {a b c d mn mx:Int}(m1:mn∈[a*c,a*d,b*c,b*d])(m2:∀y∈[a*c,a*d,b*c,b*d],mn<=y)(x1:mx∈[a*c,a*d,b*c,b*d])(x2:∀y∈[a*c,a*d,b*c,b*d],y<=mx):U5 a b c d mn mx:=by
 simp only[zO,yS,or_false] at m1 x1;exact⟨m1,m2 _ (by simp),m2 _ (by simp),m2 _ (by simp),m2 _ (by simp),x1,x2 _ (by simp),x2 _ (by simp),x2 _ (by simp),x2 _ (by simp)⟩
structure Vu (a b:Int)(n:Nat)(m M:Int):Prop where
 lo:m=a^n\/m=b^n\/(a<0/\0<b/\m=0)
 l1:m<=a^n
 l2:m<=b^n
 l3:a<0->0<b->m<=0
 hi:M=a^n\/M=b^n
 h1:a^n<=M
 h2:b^n<=M
theorem UP (h:1<=n):(0:Int)^n=0:=by
 cases n with
 | zero=>lia
 | succ k=>rw[zU,Int.mul_zero]
theorem Ez (n:Nat):(∀x:Int,(-x)^n=x^n)\/(∀x:Int,(-x)^n=-(x^n)):=by
 induction n with
 | zero=>left;intro x;rw[xK,xK]
 | succ k ih=>
  rcases ih with e|e
  ·right;intro x;rw[zU,zU,e,Int.mul_neg]
  ·left;intro x;rw[zU,zU,e,Int.neg_mul_neg]
theorem U9 {x y:Int}(h0:0<=x)(h:x<=y)(n:Nat):x^n<=y^n:=by
 induction n with
 | zero=>rw[xK,xK];exact yE _
 | succ k ih=>
  rw[zU,zU];exact Int.mul_le_mul ih h h0 (xA (by lia))
theorem zbU {y z x m M:Int}{n:Nat}(hn:1<=n)(h1:y<=x)(h2:x<=z)(m1:m<=y^n)(m2:m<=z^n)(m3:y<0->0<z->m<=0)(M1:y^n<=M)(M2:z^n<=M):m<=x^n/\x^n<=M:=by
 by_cases hy:0<=y
 ·have e1:=U9 hy h1 n
  have e2:=U9 (show 0<=x by lia) h2 n;lia
 ·by_cases hz:z<=0
  ·have e1:=U9 (show 0<=-z by lia) (show -z<=-x by lia) n
   have e2:=U9 (show 0<=-x by lia) (show -x<=-y by lia) n;rcases Ez n with p|p<;>rw[p,p] at e1 e2<;>lia
  ·have m3':=m3 (by lia) (by lia)
   have z0:(0:Int)<=z^n:=xA (by lia);by_cases hx:0<=x
   ·have e1:(0:Int)<=x^n:=xA hx
    have e2:=U9 hx h2 n;lia
   ·have e1:(0:Int)<=(-x)^n:=xA (by lia)
    have e2:=U9 (show 0<=-x by lia) (show -x<=-y by lia) n;rcases Ez n with p|p
    ·rw[p] at e1;rw[p,p] at e2;lia
    ·rw[p] at e1;rw[p,p] at e2;lia
theorem Vu.of {a b g mn mx:Int}{n:Nat}(hg:1<=g){l:List Int}(hl:l=[a^n*g,b^n*g]/\¬ (a<0/\0<b)\/l=[a^n*g,b^n*g,0^n*g]/\a<0/\0<b)(hn:1<=n)(m1:mn∈l)(m2:∀y∈l,mn<=y)(x1:mx∈l)(x2:∀y∈l,y<=mx):
  ∃m M,Vu a b n m M/\mn=m*g/\mx=M*g:=by
 have can:∀ {x y:Int},x*g<=y*g->x<=y:=λ{x y} h=>yT h (by omega)
 rcases hl with ⟨rfl,hz⟩|⟨rfl,hz1,hz2⟩
 ·simp only[zO,yS,or_false] at m1 x1;have a1:=m2 (a^n*g) (by simp)
  have a2:=m2 (b^n*g) (by simp)
  have b1:=x2 (a^n*g) (by simp)
  have b2:=x2 (b^n*g) (by simp);obtain⟨m,hm,em⟩:∃m,(m=a^n\/m=b^n)/\mn=m*g:=by
   rcases m1 with e|e
   ·exact⟨_,.inl rfl,e⟩
   ·exact⟨_,.inr rfl,e⟩
  obtain⟨M,hM,eM⟩:∃m,(m=a^n\/m=b^n)/\mx=m*g:=by
   rcases x1 with e|e
   ·exact⟨_,.inl rfl,e⟩
   ·exact⟨_,.inr rfl,e⟩
  subst em eM;exact⟨m,M,⟨hm.elim .inl λe=>.inr (.inl e),can a1,can a2,λc1 c2=>absurd ⟨c1,c2⟩ hz,hM,can b1,can b2⟩,rfl,rfl⟩
 ·rw[UP hn,xB] at m1 m2 x1 x2;simp only[zO,yS,or_false] at m1 x1;have a1:=m2 (a^n*g) (by simp)
  have a2:=m2 (b^n*g) (by simp)
  have a3:=m2 0 (by simp)
  have b1:=x2 (a^n*g) (by simp)
  have b2:=x2 (b^n*g) (by simp)
  have b3:=x2 0 (by simp);obtain⟨m,hm,em⟩:∃m,(m=a^n\/m=b^n\/m=0)/\mn=m*g:=by
   rcases m1 with e|e|e
   ·exact⟨_,.inl rfl,e⟩
   ·exact⟨_,.inr (.inl rfl),e⟩
   ·exact⟨0,.inr (.inr rfl),by rw[e,xB]⟩
  have bp:(0:Int)<=b^n:=xA (by omega)
  have bg:=zY bp (show 0<=g by omega);obtain⟨M,hM,eM⟩:∃m,(m=a^n\/m=b^n)/\mx=m*g:=by
   rcases x1 with e|e|e
   ·exact⟨_,.inl rfl,e⟩
   ·exact⟨_,.inr rfl,e⟩
   ·exact⟨_,.inr rfl,by omega⟩
  subst em eM;refine⟨m,M,⟨?_,can a1,can a2,λ_ _=>can (by rw[xB];exact a3),hM,can b1,can b2⟩,rfl,rfl⟩;rcases hm with e|e|e
  ·exact .inl e
  ·exact .inr (.inl e)
  ·exact .inr (.inr ⟨hz1,hz2,e⟩)
theorem Tg {m g:Int}{n:Nat}(hg:1<=g)(hn:1<=n):m*g/g^n=m/g^(n-1):=by
 obtain⟨k,rfl⟩:∃k,n=k+1:=⟨n-1,by lia⟩;rw[zU,Nat.add_sub_cancel,Int.mul_ediv_mul_of_pos_left _ _ (by lia)]
def mn4 (a b c d:Int):Int:=min (min (a*c) (a*d)) (min (b*c) (b*d))
def mx4 (a b c d:Int):Int:=max (max (a*c) (a*d)) (max (b*c) (b*d))
theorem U5.eq {a b c d mn mx:Int}(h:U5 a b c d mn mx):mn=mn4 a b c d/\mx=mx4 a b c d:=by
 obtain⟨h0,h1,h2,h3,h4,h5,h6,h7,h8,h9⟩:=h;unfold mn4 mx4;omega
def ZU (a b:Int)(n:Nat):Int:=if n%2=0/\a<=0/\0<=b then 0 else min (a^n) (b^n)
def Yg (a b:Int)(n:Nat):Int:=max (a^n) (b^n)
theorem WA {n:Nat}(h:n%2=0)(x:Int):0<=x^n:=by
 obtain⟨k,rfl⟩:∃k,n=k+k:=⟨n/2,by lia⟩;rw[Int.pow_add];by_cases c:0<=x^k
 ·exact zY c c
 ·have:=zY (show 0<=-(x^k) by lia) (show 0<=-(x^k) by lia);rw[Int.neg_mul_neg] at this;exact this
theorem Ow {n:Nat}(h:n%2=1){x:Int}(hx:x<0):x^n<0:=by
 obtain⟨k,rfl⟩:∃k,n=k+1:=⟨n-1,by lia⟩;have z:=WA (n:=k) (by lia) x
 have nz:∀k:Nat,x^k≠0:=λk=>by
  induction k with
  | zero=>rw[xK];decide
  | succ k ih=>rw[zU];exact Int.mul_ne_zero ih (by lia)
 have nz:=nz k
 have:=yF (show 0<x^k by lia) (show 0 < -x by lia);rw[Int.mul_neg] at this;rw[zU];lia
theorem Vu.eq {a b m M:Int}{n:Nat}(h:Vu a b n m M)(hn:1<=n):m=ZU a b n/\M=Yg a b n:=by
 obtain⟨h0,h1,h2,h3,h4,h5,h6⟩:=h;refine⟨?_,by unfold Yg;lia⟩;unfold ZU;split
 ·rename_i c;obtain⟨c1,c2,c3⟩:=c;have e1:=WA c1 a
  have e2:=WA c1 b;by_cases z:a<0/\0<b
  ·have:=h3 z.1 z.2;lia
  ·have z':a=0\/b=0:=by lia
   rcases z' with rfl|rfl
   ·rw[UP hn] at h1;lia
   ·rw[UP hn] at h2;lia
 ·rename_i c;have hz:a<0->0<b->m≠0:=λa1 b1 e=>by
   by_cases p:n%2=0
   ·exact c ⟨p,by lia,by lia⟩
   ·have:=Ow (n:=n) (by lia) a1;lia
  lia
def Nd.fw (vs bs:LI)(g:Int):Nd->Int×Int
 | .number t b=>(t*g/b,-(-(t*g)/b))
 | .unknown k=>gt bs k
 | .plus i j=>((gt vs i).1+(gt vs j).1,(gt vs i).2+(gt vs j).2)
 | .minus i j=>((gt vs i).1-(gt vs j).2,(gt vs i).2-(gt vs j).1)
 | .times i j=>(mn4 (gt vs i).1 (gt vs i).2 (gt vs j).1 (gt vs j).2/g,-(-mx4 (gt vs i).1 (gt vs i).2 (gt vs j).1 (gt vs j).2/g))
 | .power i n=>(ZU (gt vs i).1 (gt vs i).2 n.toNat/g^(n.toNat-1),-(-Yg (gt vs i).1 (gt vs i).2 n.toNat/g^(n.toNat-1)))
def Spn (B:Nat)(vs:LI):Prop:=∀p∈vs,p.1<=p.2/\Sz B p.1/\Sz B p.2
theorem Spn.at {B:Nat}{vs:LI}(h:Spn B vs){i:Int}(hi:inR vs.length i):(gt vs i).1<=(gt vs i).2/\Sz B (gt vs i).1/\Sz B (gt vs i).2:=h _ (VG hi)
theorem Spn.mono {B C:Nat}{vs:LI}(h:Spn B vs)(hc:B<=C):Spn C vs:=λp hp=>⟨(h p hp).1,(h p hp).2.1.mono hc,(h p hp).2.2.mono hc⟩
theorem Tb (hg:1<=g)(h:m<=M):m/g<=-(-M/g):=by
 have h1:=Int.ediv_mul_le m (show g≠0 by lia)
 have h2:=Int.ediv_mul_le (-M) (show g≠0 by lia)
 have:m/g*g<=-(-M/g)*g:=by rw[yO];lia
 exact yT this (by lia)
theorem Io (a b:Int)(n:Nat):ZU a b n<=Yg a b n:=by
 unfold ZU Yg;split
 ·rename_i c;have:=WA c.1 a;lia
 ·lia
theorem Fp (a b c d:Int):mn4 a b c d<=mx4 a b c d:=by unfold mn4 mx4;lia
theorem Nd.fw_le (h1:Spn B vs)(h2:Spn B bs)(hg:1<=g):∀v:Nd,v.ok vs.length bs.length->(v.fw vs bs g).1<=(v.fw vs bs g).2
 | .number t b,ok=>Tb ok.1.1 (yE _)
 | .unknown k,ok=>(h2.at ok).1
 | .plus i j,ok=>by
  have a:=(h1.at ok.1).1
  have b:=(h1.at ok.2).1
  show (gt vs i).1+(gt vs j).1<=(gt vs i).2+(gt vs j).2;lia
 | .minus i j,ok=>by
  have a:=(h1.at ok.1).1
  have b:=(h1.at ok.2).1
  show (gt vs i).1-(gt vs j).2<=(gt vs i).2-(gt vs j).1;lia
 | .times i j,ok=>Tb hg (Fp _ _ _ _)
 | .power i n,ok=>Tb (yL (by lia)) (Io _ _ _)
theorem Vq {a b c:TDS}{E:X1}{dl:Ev}{S:Sto}(W:Ev->Sto->Prop)(ha:∀nx:Ev->Sto->Prop,(∀dl' S',W dl' S'->nx dl' S')->Wx a b { nx:=nx,rt:=E.rt,bk:=E.bk,ct:=E.ct } dl S)(hb:∀dl' S',W dl' S'->c E dl' S'):Wx a (Wx b c) E dl S:=ha _ hb
theorem VB (h:Sz n m)(hg:1<=g):Sz n (-(-m/g)):=(h.neg.div hg).neg
theorem WK (ha:Sz n a)(hb:Sz n b):Sz n (min a b):=by unfold Sz at *;lia
theorem Wo (ha:Sz n a)(hb:Sz n b):Sz n (max a b):=by unfold Sz at *;lia
def Nd.wt (ws:List Nat):Nd->Nat
 | .number _ _=>1
 | .unknown _=>1
 | .plus i j=>ws.getD i.toNat 0+ws.getD j.toNat 0
 | .minus i j=>ws.getD i.toNat 0+ws.getD j.toNat 0
 | .times i j=>ws.getD i.toNat 0+ws.getD j.toNat 0
 | .power i n=>n.toNat*ws.getD i.toNat 0
structure Z3 (q:Int)(ns:List Nd)(ws:List Nat):Prop where
 len:ws.length=ns.length
 ok:∀(k:Nat)(v:Nd),ns[k]?=some v->v.ok k q/\ws.getD k 0=v.wt ws/\1<=v.wt ws/\v.wt ws<=16
theorem Z3.w1 {q:Int}{ns:List Nd}{ws:List Nat}(h:Z3 q ns ws){i:Int}(hi:inR ns.length i):1<=ws.getD i.toNat 0/\ws.getD i.toNat 0<=16:=by
 obtain⟨h0,h1⟩:=hi;have hk:i.toNat<ns.length:=(by lia);obtain⟨_,e,a,b⟩:=h.ok i.toNat _ (zB hk);lia
theorem Z3.w2 {q:Int}{ns:List Nd}{ws:List Nat}(h:Z3 q ns ws):∀v:Nd,v.ok ns.length q->1<=v.wt ws/\v.wt ws<=96
 | .number _ _,_=>⟨zC 1,show 1<=96 by decide⟩
 | .unknown _,_=>⟨zC 1,show 1<=96 by decide⟩
 | .plus i j,ok=>by have a:=h.w1 ok.1;have b:=h.w1 ok.2;simp only[Nd.wt];lia
 | .minus i j,ok=>by have a:=h.w1 ok.1;have b:=h.w1 ok.2;simp only[Nd.wt];lia
 | .times i j,ok=>by have a:=h.w1 ok.1;have b:=h.w1 ok.2;simp only[Nd.wt];lia
 | .power i n,ok=>by
  have a:=h.w1 ok.1
  have n2:=ok.2.1
  have n6:=ok.2.2
  have m1:=xM (show 1<=n.toNat by lia) a.1
  have m2:=xM (show n.toNat<=6 by lia) a.2;simp only[Nd.wt];lia
theorem GH (h:k<ws.length):(ws++[w]).getD k 0=ws.getD k 0:=by
 rw[zK,zK,zQ h]
theorem Gx (hk:k<=ws.length):∀v:Nd,v.ok k q->v.wt (ws++[w])=v.wt ws:=by
 have e:∀i:Int,inR k i->(ws++[w]).getD i.toNat 0=ws.getD i.toNat 0:=λi hi=>GH (by have a:=hi.1;have b:=hi.2;lia)
 intro v ok;cases v with
 | number _ _=>rfl
 | unknown _=>rfl
 | plus i j=>show _+_=_+_;rw[e i ok.1,e j ok.2]
 | minus i j=>show _+_=_+_;rw[e i ok.1,e j ok.2]
 | times i j=>show _+_=_+_;rw[e i ok.1,e j ok.2]
 | power i n=>show _*_=_*_;rw[e i ok.1]
theorem Z3.snoc {q:Int}{ns:List Nd}{ws:List Nat}(h:Z3 q ns ws){v:Nd}(ok:v.ok ns.length q)(h16:v.wt ws<=16):Z3 q (ns++[v]) (ws++[v.wt ws]):=by
 refine⟨by simp[h.len],λk u hu=>?_⟩;by_cases hk:k<ns.length
 ·rw[zQ hk] at hu;obtain⟨a,b,c,d⟩:=h.ok k u hu;have e:=Gx (w:=v.wt ws) (q:=q) (k:=k) (by rw[h.len];lia) u a;rw[e,GH (by rw[h.len];exact hk)];exact⟨a,b,c,d⟩
 ·have hl:=(zD.mp hu).1;simp only[zG,zT,yR] at hl;have ek:k=ns.length:=by lia
  subst ek;simp at hu;subst hu;have e:=Gx (w:=v.wt ws) (q:=q) (k:=ns.length) (by rw[h.len];lia) v ok;rw[e];refine⟨ok,?_,(h.w2 v ok).1,h16⟩;rw[<- h.len];simp
theorem Wf {α:Type}{xs:List α}{k:Nat}{x:α}(h:xs[k]?=some x):xs.take (k+1)=xs.take k++[x]:=by rw[wB,h];rfl
def SzW (ws:List Nat)(vs:LI):Prop:=∀(k:Nat)(p:Int×Int),vs[k]?=some p->p.1<=p.2/\Sz (60*ws.getD k 0-1) p.1/\Sz (60*ws.getD k 0-1) p.2
theorem SzW.at {ws:List Nat}{vs:LI}(h:SzW ws vs){i:Int}(hi:inR vs.length i):(gt vs i).1<=(gt vs i).2/\Sz (60*ws.getD i.toNat 0-1) (gt vs i).1/\Sz (60*ws.getD i.toNat 0-1) (gt vs i).2:=by
 obtain⟨h0,h1⟩:=hi;have hk:i.toNat<vs.length:=by lia
 have e:gt vs i=vs[i.toNat]:=by simp[gt,hk]
 rw[e];exact h _ _ (zB hk)
theorem Spn.of_w {ws:List Nat}{vs:LI}(h:SzW ws vs)(hw:∀k:Nat,k<vs.length->ws.getD k 0<=16):Spn 1000 vs:=λp hp=>by
 obtain⟨k,hk,e⟩:=xE.mp hp;obtain⟨a,b,c⟩:=h k p (by rw[zB hk,e]);have:=hw k hk;exact⟨a,b.mono (by lia),c.mono (by lia)⟩
theorem QT (h:Pre S T)(hn:S.length<=n):Pre S (T.set n o):=λk u e=>by
 have hk:=(zD.mp e).1;rw[xP (by lia)];exact h k u e
theorem FY (h:Pre S T)(U:Sto):Pre S (T++U):=λk u e=>Zn (h k u e)
theorem IE (u v:Nd):∃b,eqN 1 u.d v.d=some b:=by cases u<;>cases v<;>exact⟨_,rfl⟩
theorem C9 (u:Nd):eqN 1 u.d u.d=some true:=by cases u<;>simp[Nd.d,eqN,L3.eqT,eqL,eqF]
theorem Jr (v:Nd):∀ns:List Nd,∃b,Xk (eqN 1) (ns.map Nd.d) v.d=some b
 | []=>⟨false,rfl⟩
 | u::us=>by
  obtain⟨b,e⟩:=IE u v;obtain⟨c,e2⟩:=Jr v us;refine⟨b||c,?_⟩;show (match eqN 1 u.d v.d,Xk (eqN 1) (us.map Nd.d) v.d with|some b,some c=>some (b||c)|_,_=>none)=_;rw[e,e2]
def wtD (w:Nat):D:=.int (w:Int)
theorem L0 {ws:List Nat}{i:Int}(h:inR ws.length i):atI (ws.map wtD) i=some (.int ((ws.getD i.toNat 0:Nat):Int)):=by
 obtain⟨h0,h1⟩:=h;have hk:i.toNat<ws.length:=by lia
 have z:=XA (xs:=ws.map wtD) (j:=i.toNat) (v:=wtD (ws.getD i.toNat 0)) (by rw[zF,zB hk];simp[hk]);rw[show ((i.toNat:Nat):Int)=i by lia] at z;exact z
theorem ET (q:Nat):Z3 q ((List.range q).map λ(k:Nat)=>Nd.unknown (k:Int)) ((List.range q).map λ_=>1):=by
 refine⟨by simp,λk v hv=>?_⟩;have hl:=(zD.mp hv).1;simp only[zA,xW] at hl;rw[zF,xT hl] at hv;cases hv;refine⟨⟨by lia,by lia⟩,?_,zC _,show 1<=16 by decide⟩;simp[Nd.wt,hl]
theorem zcF {u v:Nd}(h:eqN 1 u.d v.d=some true):u=v:=by
 cases u<;>cases v<;>simp[Nd.d,eqN,L3.eqT,eqL,eqF] at h
 all_goals first|(obtain⟨rfl,rfl⟩:=h;rfl)|(subst h;rfl)|exact absurd h.1 (by decide)
theorem Ma (v:Nd):∀ns:List Nd,∃o:Option Nat,W7 (eqN 1) (ns.map Nd.d) v.d=some o/\Xk (eqN 1) (ns.map Nd.d) v.d=some o.isSome/\∀j,o=some j->ns[j]?=some v
 | []=>⟨none,rfl,rfl,λj h=>by cases h⟩
 | u::us=>by
  obtain⟨b,e⟩:=IE u v;obtain⟨o,h1,h2,h3⟩:=Ma v us;have f1:W7 (eqN 1) ((u::us).map Nd.d) v.d=(match eqN 1 u.d v.d,W7 (eqN 1) (us.map Nd.d) v.d with|some true,some _=>some (some 0)|some false,some o=>some (o.map (·+1))|_,_=>none):=rfl
  have f2:Xk (eqN 1) ((u::us).map Nd.d) v.d=(match eqN 1 u.d v.d,Xk (eqN 1) (us.map Nd.d) v.d with|some b,some c=>some (b||c)|_,_=>none):=rfl;rw[f1,f2,e,h1,h2];cases b with
  | true=>exact⟨some 0,rfl,rfl,λj hj=>by
    cases hj;rw[zcF e];rfl⟩
  | false=>exact⟨o.map (·+1),rfl,by cases o<;>rfl,λj hj=>by
    cases o with
    | none=>cases hj
    | some i=>
     cases hj;exact h3 i rfl⟩
theorem AR {v:Nd}{ns:List Nd}{n:Nat}{S:Sto}{Q:DK}{o:Option Nat}(h:S[n]?=some (.lst (ns.map Nd.d)))(e:Xk (eqN 1) (ns.map Nd.d) v.d=some o.isSome)(hq:Q (.bl o.isSome) S):Y9 (wIn 1 false) v.d (.ref n) S Q:=by
 rw[Wa];unfold wIn;simp only[ZX h rfl,Zs,e];exact hq
theorem Jk {v:Nd}{ns:List Nd}{n j:Nat}{to:TDE}{t:TDA}{dl:Ev}{S:Sto}{Q:DK}(hto:∀K:DK,K (.ref n) S->to dl S K)(ht:∀K:List D->Sto->Prop,K [v.d] S->t dl S K)(h:S[n]?=some (.lst (ns.map Nd.d)))(e:W7 (eqN 1) (ns.map Nd.d) v.d=some (some j))(hq:Q (.int (j:Int)) S):Lm 1 to t dl S Q:=by
 unfold Lm;refine hto _ ⟨by rw[ZX h rfl];rfl,ht _ ?_⟩;unfold M0;simp only[ZX h rfl,Zs,e];exact hq
theorem sort2 {ms:List Int}{x y:Int}(p:ms.Perm [x,y])(o:ms.Pairwise (·<=·)):ms=[min x y,max x y]:=by
 have hl:=p.length_eq
 match ms,hl,p,o with
 | [a,b],_,p,o=>
  have h1:=p.mem_iff (a:=a)
  have h2:=p.mem_iff (a:=b)
  have h3:=p.mem_iff (a:=x)
  have h4:=p.mem_iff (a:=y);simp only[zO,yS,or_false,true_or,or_true,true_iff,iff_true] at h1 h2 h3 h4;have ab:a<=b:=by simpa using o
  have e1:a=min x y:=by lia
  have e2:b=max x y:=by lia
  rw[e1,e2]
theorem Si (x y:Int):(min x y=x\/min x y=y)/\min x y<=x/\min x y<=y:=⟨by rw[Int.min_def];split<;>simp,Int.min_le_left ..,Int.min_le_right ..⟩
theorem T7 (x y:Int):(max x y=x\/max x y=y)/\x<=max x y/\y<=max x y:=⟨by rw[Int.max_def];split<;>simp,Int.le_max_left ..,Int.le_max_right ..⟩
theorem sort4 (p:ms.Perm [a*c,a*d,b*c,b*d])(o:ms.Pairwise (·<=·)):∃x y,ms=[mn4 a b c d,x,y,mx4 a b c d]:=by
 have hl:=p.length_eq
 match ms,hl,p,o with
 | [s,t,u,v],_,p,o=>
  simp only[List.pairwise_cons,zO,yS,or_false,forall_eq_or_imp,forall_eq,false_implies,implies_true,and_true,List.Pairwise.nil] at o;obtain⟨⟨o1,o2,o3⟩,⟨o4,o5⟩,o6⟩:=o;have hs:∀x∈[s,t,u,v],s<=x/\x<=v:=λx hx=>by
   simp only[zO,yS,or_false] at hx;rcases hx with rfl|rfl|rfl|rfl
   ·exact⟨yE _,o3⟩
   ·exact⟨o1,o5⟩
   ·exact⟨o2,o6⟩
   ·exact⟨o3,yE _⟩
  have hb:∀x,x∈[a*c,a*d,b*c,b*d]->mn4 a b c d<=x/\x<=mx4 a b c d:=λx hx=>by
   simp only[zO,yS,or_false] at hx;have n1:=Si (a*c) (a*d)
   have n2:=Si (b*c) (b*d)
   have n3:=Si (min (a*c) (a*d)) (min (b*c) (b*d))
   have x1:=T7 (a*c) (a*d)
   have x2:=T7 (b*c) (b*d)
   have x3:=T7 (max (a*c) (a*d)) (max (b*c) (b*d));rcases hx with rfl|rfl|rfl|rfl
   ·exact⟨yG n3.2.1 n1.2.1,yG x1.2.1 x3.2.1⟩
   ·exact⟨yG n3.2.1 n1.2.2,yG x1.2.2 x3.2.1⟩
   ·exact⟨yG n3.2.2 n2.2.1,yG x2.2.1 x3.2.2⟩
   ·exact⟨yG n3.2.2 n2.2.2,yG x2.2.2 x3.2.2⟩
  have mm:mn4 a b c d∈[a*c,a*d,b*c,b*d]:=by
   simp only[zO,yS,or_false];rcases (Si (min (a*c) (a*d)) (min (b*c) (b*d))).1 with e|e
   ·rcases (Si (a*c) (a*d)).1 with f|f
    ·exact .inl (e.trans f)
    ·exact .inr (.inl (e.trans f))
   ·rcases (Si (b*c) (b*d)).1 with f|f
    ·exact .inr (.inr (.inl (e.trans f)))
    ·exact .inr (.inr (.inr (e.trans f)))
  have mx:mx4 a b c d∈[a*c,a*d,b*c,b*d]:=by
   simp only[zO,yS,or_false];rcases (T7 (max (a*c) (a*d)) (max (b*c) (b*d))).1 with e|e
   ·rcases (T7 (a*c) (a*d)).1 with f|f
    ·exact .inl (e.trans f)
    ·exact .inr (.inl (e.trans f))
   ·rcases (T7 (b*c) (b*d)).1 with f|f
    ·exact .inr (.inr (.inl (e.trans f)))
    ·exact .inr (.inr (.inr (e.trans f)))
  have e1:s=mn4 a b c d:=Int.le_antisymm (hs _ (p.mem_iff.mpr mm)).1 (hb s (p.mem_iff.mp (yC ..))).1
  have e2:v=mx4 a b c d:=Int.le_antisymm (hb v (p.mem_iff.mp (by simp))).2 (hs _ (p.mem_iff.mpr mx)).2;exact⟨t,u,by rw[e1,e2]⟩
theorem Sh {caps:List Nat}{ta:TDA}{te:TDE}{dl:Ev}{S S1:Sto}{Q:DK}{n n':Nat}{xs ys:List D}(g:D->D->D)(hta:∀K:List D->Sto->Prop,K [.ref n,.ref n'] S1->ta dl S K)(h1:S1[n]?=some (.lst xs))(h2:S1[n']?=some (.lst ys))(hl:xs.length<=1000)
  (ht:∀(k:Nat)(x y:D),xs[k]?=some x->ys[k]?=some y->∀(S2:Sto)(K:DK),Pre S1 S2->K (g x y) S2->te (some x::some y::YR caps dl) S2 K)(hq:Q (.ref S1.length) (S1++[.lst (List.zipWith g xs ys)])):VF caps ta te dl S Q:=by
 unfold VF;refine hta _ ⟨⟨by rw[ZX h1 rfl];rfl,by rw[ZX h2 rfl];rfl⟩,λk m S2=>S2=S1++[.lst (List.zipWith g (xs.take k) (ys.take k))]/\m+k=min xs.length ys.length,⟨min xs.length ys.length,by simp,by lia⟩,?_⟩;rintro k m S2 ⟨rfl,hm⟩;rw[ZX (Ue h1) rfl,ZX (Ue h2) rfl];dsimp only[Zs];split
 ·rename_i x y hx hy;have hk:k<xs.length:=(zD.mp hx).1
  have hk':k<ys.length:=(zD.mp hy).1;unfold Qk;refine ht k x y hx hy _ _ Pre.refl.push ?_;rw[Zz];refine⟨by simp;lia,m-1,by lia,?_,by lia⟩;have e:xs.take (k+1)=xs.take k++[x]:=by rw[wB,hx];rfl
  have e':ys.take (k+1)=ys.take k++[y]:=by rw[wB,hy];rfl
  rw[e,e',List.zipWith_append (by rw[yP,yP];lia),QB];rfl
 ·rename_i no;have hk:min xs.length ys.length<=k:=by
   by_cases l:k<min xs.length ys.length
   ·exact absurd (zB (l:=ys) (i:=k) (by lia)) (no _ _ (zB (l:=xs) (i:=k) (by lia)))
   ·lia
  refine⟨by lia,?_⟩;have e:List.zipWith g (xs.take k) (ys.take k)=List.zipWith g xs ys:=by
   rw[<- List.take_zipWith,yZ (by rw[List.length_zipWith];exact hk)]
  rw[e];exact hq
def TY (p q:Int×Int):Bool:=decide (q.1<=p.1)&&decide (p.2<=q.2)
def YN (us vs:LI):Bool:=(List.zipWith TY us vs).all id
theorem OC {us vs:LI}:YN us vs=true↔∀(k:Nat)(p q:Int×Int),us[k]?=some p->vs[k]?=some q->q.1<=p.1/\p.2<=q.2:=by
 unfold YN;rw[xS];refine⟨λh k p q hp hq=>?_,λh b hb=>?_⟩
 ·have z:=h (TY p q) (zJ (i:=k) (by rw[xX,hp,hq]));simpa [TY] using z
 ·obtain⟨k,hk⟩:=wC.mp hb;rw[xX] at hk;cases e1:us[k]? with
  | none=>rw[e1] at hk;cases hk
  | some p=>
   cases e2:vs[k]? with
   | none=>rw[e1,e2] at hk;cases hk
   | some q=>
    rw[e1,e2] at hk;obtain⟨a,b⟩:=h k p q e1 e2;have z:=Option.some.inj hk;subst z;simp[TY,a,b]
theorem Am (us vs:LI):YX (List.zipWith (λx y=>match x,y with|.tup [.int a,.int b],.tup [.int c,.int d]=>.bl (decide (c<=a)&&decide (b<=d))|_,_=>.non) (us.map frD) (vs.map frD))=some (List.zipWith TY us vs):=by
 induction us generalizing vs with
 | nil=>rfl
 | cons u us ih=>
  cases vs with
  | nil=>rfl
  | cons v vs=>
   show (YX (List.zipWith _ (us.map frD) (vs.map frD))).map _=_;rw[ih];rfl
theorem AW (h:∀i:Int,inR k i->gt vs i=gt us i):∀v:Nd,v.ok k q->v.fw vs bs g=v.fw us bs g
 | .number _ _,_=>rfl
 | .unknown _,_=>rfl
 | .plus i j,ok=>by simp only[Nd.fw,h i ok.1,h j ok.2]
 | .minus i j,ok=>by simp only[Nd.fw,h i ok.1,h j ok.2]
 | .times i j,ok=>by simp only[Nd.fw,h i ok.1,h j ok.2]
 | .power i n,ok=>by simp only[Nd.fw,h i ok.1]
theorem FI (h:k<=m):∀ {v:Nd},v.ok k q->v.ok m q:=λ{v} ok=>by
 have z:∀i:Int,inR k i->inR m i:=λi hi=>⟨hi.1,by have:=hi.2;lia⟩
 cases v with
 | number _ _=>exact ok
 | unknown _=>exact ok
 | plus i j=>exact⟨z _ ok.1,z _ ok.2⟩
 | minus i j=>exact⟨z _ ok.1,z _ ok.2⟩
 | times i j=>exact⟨z _ ok.1,z _ ok.2⟩
 | power i n=>exact⟨z _ ok.1,ok.2⟩
theorem Bx {vs us:LI}{k:Nat}{i:Int}(h:inR k i)(hk:k<=vs.length):gt (vs++us) i=gt vs i:=by
 have:=h.1
 have:=h.2;unfold gt;rw[zK,zK,zQ (by lia)]
theorem Xj {vs:LI}{k:Nat}{p:Int×Int}(h:vs[k]?=some p):gt vs (k:Int)=p:=by
 unfold gt;rw[zK,zI,h];rfl
theorem Sz.pow' (h:Sz n i)(hk:1<=k):Sz (n*k) (i^k):=by
 unfold Sz at *
 rw[Int.natAbs_pow,Nat.pow_mul];exact Nat.pow_lt_pow_left h (by lia)
theorem fw_w2 (hs:SzW ws vs)(hb:Spn 51 bs)(hg:1<=g/\g<=1000000)(hw:∀i:Int,inR vs.length i->1<=ws.getD i.toNat 0):∀v:Nd,v.ok vs.length bs.length->Sz (60*v.wt ws-2) (v.fw vs bs g).1/\Sz (60*v.wt ws-2) (v.fw vs bs g).2
 | .number t b,ok=>by
  have z:Sz 52 (t*g):=(Sz.of (n:=31) (10^9) ok.2.2).mul (Sz.of (n:=21) (10^6) (show g.natAbs<=_ by lia));exact⟨(z.div ok.1.1).mono (show 52<=60*1-2 by decide),(VB z ok.1.1).mono (show 52<=60*1-2 by decide)⟩
 | .unknown k,ok=>⟨(hb.at ok).2.1.mono (show 51<=60*1-2 by decide),(hb.at ok).2.2.mono (show 51<=60*1-2 by decide)⟩
 | .plus i j,ok=>by
  have a:=hs.at ok.1
  have b:=hs.at ok.2
  have p:=hw i ok.1
  have q:=hw j ok.2;exact⟨(a.2.1.add b.2.1).mono (by simp only[Nd.wt];lia),(a.2.2.add b.2.2).mono (by simp only[Nd.wt];lia)⟩
 | .minus i j,ok=>by
  have a:=hs.at ok.1
  have b:=hs.at ok.2
  have p:=hw i ok.1
  have q:=hw j ok.2;exact⟨(a.2.1.sub b.2.2).mono (by simp only[Nd.wt];lia),(a.2.2.sub b.2.1).mono (by simp only[Nd.wt];lia)⟩
 | .times i j,ok=>by
  have a:=hs.at ok.1
  have b:=hs.at ok.2
  have p:=hw i ok.1
  have q:=hw j ok.2
  have le:∀ {x y:Int},Sz (60*ws.getD i.toNat 0-1) x->Sz (60*ws.getD j.toNat 0-1) y->Sz (60*Nd.wt ws (.times i j)-2) (x*y):=λh1 h2=>(h1.mul h2).mono (by simp only[Nd.wt];lia)
  have l:=WK (WK (le a.2.1 b.2.1) (le a.2.1 b.2.2)) (WK (le a.2.2 b.2.1) (le a.2.2 b.2.2))
  have u:=Wo (Wo (le a.2.1 b.2.1) (le a.2.1 b.2.2)) (Wo (le a.2.2 b.2.1) (le a.2.2 b.2.2));exact⟨l.div hg.1,VB u hg.1⟩
 | .power i n,ok=>by
  have a:=hs.at ok.1
  have p:=hw i ok.1
  have n2:=ok.2.1
  have gp:(1:Int)<=g^(n.toNat-1):=yL (by lia)
  have hn:(60*ws.getD i.toNat 0-1)*n.toNat<=60*Nd.wt ws (.power i n)-2:=by
   simp only[Nd.wt];rw[Nat.sub_mul,Nat.one_mul];have e:60*ws.getD i.toNat 0*n.toNat=60*(n.toNat*ws.getD i.toNat 0):=by rw[Nat.mul_assoc,Nat.mul_comm (ws.getD i.toNat 0)]
   have m1:=xM (zC n.toNat) p;lia
  have p1:Sz (60*Nd.wt ws (.power i n)-2) ((gt vs i).1^n.toNat):=(Sz.pow' a.2.1 (by lia)).mono hn
  have p2:Sz (60*Nd.wt ws (.power i n)-2) ((gt vs i).2^n.toNat):=(Sz.pow' a.2.2 (by lia)).mono hn
  have l:Sz (60*Nd.wt ws (.power i n)-2) (ZU (gt vs i).1 (gt vs i).2 n.toNat):=by
   unfold ZU;split
   ·exact(Sz.of (n:=1) 0 (by decide)).mono (by have:=xM (show 1<=n.toNat by lia) p;simp only[Nd.wt];lia)
   ·exact WK p1 p2
  exact⟨l.div gp,VB (Wo p1 p2) gp⟩
theorem SzW.spn (h:SzW ws vs)(hw:∀k:Nat,k<vs.length->ws.getD k 0<=16):Spn 1000 vs:=Spn.of_w h hw
theorem SzW.snoc {ws:List Nat}{vs:LI}{p:Int×Int}(h:SzW ws vs)(h1:p.1<=p.2)(h2:Sz (60*ws.getD vs.length 0-1) p.1)(h3:Sz (60*ws.getD vs.length 0-1) p.2):SzW ws (vs++[p]):=λk q hq=>by
 by_cases hk:k<vs.length
 ·rw[zQ hk] at hq;exact h k q hq
 ·have hl:=(zD.mp hq).1;simp only[zG,zT,yR] at hl;have ek:k=vs.length:=by lia
  subst ek;simp at hq;subst hq;exact⟨h1,h2,h3⟩
theorem BG {caps:List Nat}{tl te:TDE}{dl:Ev}{S S1:Sto}{Q:DK}{n:Nat}{o:Ob}(W:Nat->List D->Sto->Prop)(htl:∀K:DK,K (.ref n) S1->tl dl S K)(h1:S1[n]?=some o)(hw:∀k ys S2,W k ys S2->S2[n]?=some o/\S2[S1.length]?=some (.lst ys)/\ys.length=k)(hl:(Zs o).length<=1000)(h0:W 0 [] (S1++[.lst []]))
  (ht:∀(k:Nat)(x:D)(ys:List D)(S2:Sto)(K:DK),(Zs o)[k]?=some x->W k ys S2->(∀y S3,S3[S1.length]?=some (.lst ys)->W (k+1) (ys++[y]) (S3.set S1.length (.lst (ys++[y])))->K y S3)->te (some x::YR caps dl) S2 K)
  (hq:∀ys S2,W (Zs o).length ys S2->Q (.ref S1.length) S2)(hL:Xf o=some o:=by rfl):Wb caps tl XH te dl S Q:=by
 unfold Wb;refine htl _ ⟨by rw[ZX h1 hL];rfl,λk m S2=>(∃ys,W k ys S2)/\m+k=(Zs o).length,⟨(Zs o).length,⟨_,h0⟩,by lia⟩,?_⟩;rintro k m S2 ⟨⟨ys,w⟩,hm⟩;obtain⟨w1,w2,w3⟩:=hw _ _ _ w;rw[ZX w1 hL];dsimp only;split
 ·rename_i x hx;have hk:k<(Zs o).length:=(zD.mp hx).1;unfold Wy XH;simp only[if_true];refine ht k x ys S2 _ hx w λy S3 e3 w4=>?_
  rw[e3];exact⟨by lia,m-1,by lia,⟨_,w4⟩,by lia⟩
 ·rename_i hx;have hk:k=(Zs o).length:=by
   have:=yY.mp hx;lia
  exact hq ys S2 (hk ▸ w)
theorem FF {caps:List Nat}{ta:TDA}{te:TDE}{dl:Ev}{S S1:Sto}{Q:DK}{j:Int}(W:Nat->List D->Sto->Prop)(hta:∀K:List D->Sto->Prop,K [.int j] S1->ta dl S K)(hj:0<=j/\j<=1000)(hw:∀k ys S2,W k ys S2->S2[S1.length]?=some (.lst ys)/\ys.length=k)(h0:W 0 [] (S1++[.lst []]))
  (ht:∀(k:Nat)(ys:List D)(S2:Sto)(K:DK),k<j.toNat->W k ys S2->(∀y S3,S3[S1.length]?=some (.lst ys)->W (k+1) (ys++[y]) (S3.set S1.length (.lst (ys++[y])))->K y S3)->te (some (.int (k:Int))::YR caps dl) S2 K)
  (hq:∀ys S2,W j.toNat ys S2->Q (.ref S1.length) S2):Ww caps ta XH te dl S Q:=by
 unfold Ww;refine hta _ ⟨⟨by lia,by lia⟩,λk S2=>k<=j.toNat/\∃ys,W k ys S2,⟨zL _,_,h0⟩,?_⟩;rintro k S2 ⟨hk,ys,w⟩;obtain⟨w2,w3⟩:=hw _ _ _ w;split
 ·rename_i c;unfold Wy XH;simp only[if_true];refine ht k ys S2 _ c w λy S3 e3 w4=>?_
  rw[e3];exact⟨by lia,by lia,_,w4⟩
 ·rename_i c;have hk:k=j.toNat:=by lia
  exact hq ys S2 (hk ▸ w)
theorem Kl {vs:List Nd}{k:Nat}{v:Nd}(h:vs[k]?=some v):atI (vs.map Nd.d) (k:Int)=some v.d:=XA (by rw[zF,h];rfl)
theorem Wr {to te:TDE}{dl:Ev}{S:Sto}{Q:DK}{n:Nat}{xs:List D}(hto:∀K:DK,K (.ref n) S->to dl S K)(h:S[n]?=some (.lst xs))(hte:∀K:DK,(∀(y:D)(S2:Sto),S2[n]?=some (.lst xs)->Q .non (S2.set n (.lst (xs++[y])))->K y S2)->te dl S K)(hl:xs.length<1000):UK to te dl S Q:=by
 unfold UK;refine hto _ ?_;simp only[h];refine hte _ λy S2 h2 q=>?_
 simp only[h2,if_pos hl];exact q
def Z8 (S:Sto)(lo:Nat)(ds:List D)(R:List LI):Prop:=ds.length=R.length/\∀(k:Nat)(d:D)(r:LI),ds[k]?=some d->R[k]?=some r->∃a,d=.ref a/\lo<=a/\S[a]?=some (.lst (r.map frD))
theorem Z8.nil {S:Sto}{lo:Nat}:Z8 S lo [] []:=⟨rfl,λk d r h=>by simp at h⟩
theorem Z8.pre {S T:Sto}{lo:Nat}{ds:List D}{R:List LI}(h:Z8 S lo ds R)(p:Pre S T):Z8 T lo ds R:=⟨h.1,λk d r hd hr=>by
 obtain⟨a,e,l,s⟩:=h.2 k d r hd hr;exact⟨a,e,l,p _ _ s⟩⟩
theorem Z8.low {S:Sto}{lo lo':Nat}{ds:List D}{R:List LI}(h:Z8 S lo ds R)(l:lo'<=lo):Z8 S lo' ds R:=⟨h.1,λk d r hd hr=>by
 obtain⟨a,e,l,s⟩:=h.2 k d r hd hr;exact⟨a,e,by lia,s⟩⟩
theorem Z8.keep {S T:Sto}{lo:Nat}{ds:List D}{R:List LI}(h:Z8 S lo ds R)(p:∀(x:Nat)(o:Ob),lo<=x->S[x]?=some o->T[x]?=some o):Z8 T lo ds R:=⟨h.1,λk d r hd hr=>by
 obtain⟨a,e,l,s⟩:=h.2 k d r hd hr;exact⟨a,e,l,p _ _ l s⟩⟩
theorem Z8.at {S:Sto}{lo:Nat}{ds:List D}{R:List LI}(h:Z8 S lo ds R){i:Int}(hi:inR R.length i):∃a,atI ds i=some (.ref a)/\lo<=a/\S[a]?=some (.lst ((R.getD i.toNat []).map frD)):=by
 obtain⟨h0,h1⟩:=hi;have hk:i.toNat<R.length:=by lia
 have hk':i.toNat<ds.length:=by rw[h.1];exact hk
 obtain⟨a,e,l,s⟩:=h.2 i.toNat _ _ (zB hk') (zB hk);refine⟨a,?_,l,?_⟩
 ·have z:=XA (xs:=ds) (j:=i.toNat) (v:=.ref a) (by rw[zB hk',e]);rw[show ((i.toNat:Nat):Int)=i by lia] at z;exact z
 ·rw[s];simp[hk]
theorem Z8.snoc {S:Sto}{lo:Nat}{ds:List D}{R:List LI}{a:Nat}{r:LI}(h:Z8 S lo ds R)(hl:lo<=a)(hs:S[a]?=some (.lst (r.map frD))):Z8 S lo (ds++[.ref a]) (R++[r]):=⟨by rw[zG,zG,h.1];rfl,λk d r' hd hr=>by
 by_cases hk:k<ds.length
 ·rw[zQ hk] at hd;rw[zQ (by rw[<- h.1];exact hk)] at hr;exact h.2 k d r' hd hr
 ·have l:=(zD.mp hd).1;simp only[zG,zT,yR] at l;have ek:k=ds.length:=by lia
  subst ek;rw[yA (zC _),yU] at hd;rw[h.1,yA (zC _),yU] at hr;cases hd;cases hr;exact⟨a,rfl,hl,hs⟩⟩
abbrev gs (sl:List LI)(i:Int)(l:Nat):Int×Int:=(sl.getD i.toNat []).getD l (0,0)
def Z7 (p q:Int×Int)(g:Int):Int×Int:=(mn4 p.1 p.2 q.1 q.2/g,-(-mx4 p.1 p.2 q.1 q.2/g))
def Yq (p:Int×Int)(n g:Int):Int×Int:=(ZU p.1 p.2 (n-1).toNat/g^((n-1).toNat-1)*n,-(-Yg p.1 p.2 (n-1).toNat/g^((n-1).toNat-1))*n)
def Nd.sl (vs:LI)(sl:List LI)(g:Int)(l:Nat):Nd->Int×Int
 | .number _ _=>(0,0)
 | .unknown k=>if (l:Int)=k then (g,g) else (0,0)
 | .plus i j=>((gs sl i l).1+(gs sl j l).1,(gs sl i l).2+(gs sl j l).2)
 | .minus i j=>((gs sl i l).1-(gs sl j l).2,(gs sl i l).2-(gs sl j l).1)
 | .times i j=>((Z7 (gt vs i) (gs sl j l) g).1+(Z7 (gt vs j) (gs sl i l) g).1,(Z7 (gt vs i) (gs sl j l) g).2+(Z7 (gt vs j) (gs sl i l) g).2)
 | .power i n=>Z7 (Yq (gt vs i) n g) (gs sl i l) g
def Yz (vs:LI)(sl:List LI)(g:Int)(q:Nat)(v:Nd):LI:=(List.range q).map λl=>v.sl vs sl g l
theorem zc6 {vs:LI}{sl:List LI}{g:Int}{q:Nat}{v:Nd}:(Yz vs sl g q v).length=q:=by simp[Yz]
theorem DR (f:Int×Int->α)(r:LI)(h:r.length=q):r.map f=(List.range q).map λl=>f (r.getD l (0,0)):=by
 subst h;refine xN λk=>?_
 by_cases hk:k<r.length
 ·rw[zF,zF,xT hk,zB hk];simp[hk]
 ·rw[yK (by simpa using hk),yK (by simpa using hk)]
theorem Iu (f:Int×Int->Int×Int->α)(r s:LI)(h:r.length=q)(h':s.length=q):List.zipWith f r s=(List.range q).map λl=>f (r.getD l (0,0)) (s.getD l (0,0)):=by
 subst h;refine xN λk=>?_
 by_cases hk:k<r.length
 ·rw[xX,zF,xT hk,zB hk,zB (show k<s.length by lia)];simp[hk,show k<s.length by lia]
 ·rw[yK (by rw[List.length_zipWith];lia),yK (by simpa using hk)]
theorem zaZ (x:D)(q:Nat):(List.replicate q [x]).flatten=(List.range q).map λ_=>x:=by
 refine xN λk=>?_
 have l:(List.replicate q [x]).flatten=List.replicate q x:=by
  induction q with
  | zero=>rfl
  | succ q ih=>rw[xU,xZ,ih];rfl
 rw[l];by_cases hk:k<q
 ·rw[zF,xT hk,List.getElem?_replicate,if_pos hk];rfl
 ·rw[yK (by simpa using hk),yK (by simpa using hk)]
theorem Cz (h:p.1<=p.2)(g:Int):Yq p 2 g=(p.1*2,p.2*2):=by
 have e1:ZU p.1 p.2 (2-1:Int).toNat=p.1:=by
  unfold ZU;rw[if_neg (by intro z;exact absurd z.1 (by decide))];show min (p.1^1) (p.2^1)=p.1;rw[Int.pow_one,Int.pow_one];lia
 have e2:Yg p.1 p.2 (2-1:Int).toNat=p.2:=by
  unfold Yg;show max (p.1^1) (p.2^1)=p.2;rw[Int.pow_one,Int.pow_one];lia
 unfold Yq;rw[e1,e2];show (p.1/g^0*2,-(-p.2/g^0)*2)=_;rw[xK,Int.ediv_one,Int.ediv_one,Int.neg_neg]
theorem KD (p q:Int×Int)(hg:1<=g):(Z7 p q g).1<=(Z7 p q g).2:=Tb hg (Fp _ _ _ _)
theorem DF (p:Int×Int)(hn:0<=n)(hg:1<=g):(Yq p n g).1<=(Yq p n g).2:=zH (Tb (yL (by lia)) (Io _ _ _)) hn
def SlW (q:Nat)(ws:List Nat)(sl:List LI):Prop:=∀(k:Nat)(r:LI),sl[k]?=some r->r.length=q/\∀p∈r,p.1<=p.2/\Sz (64*ws.getD k 0-1) p.1/\Sz (64*ws.getD k 0-1) p.2
theorem SlW.at {q:Nat}{ws:List Nat}{sl:List LI}(h:SlW q ws sl){i:Int}(hi:inR sl.length i):(sl.getD i.toNat []).length=q/\∀l,l<q->(gs sl i l).1<=(gs sl i l).2/\Sz (64*ws.getD i.toNat 0-1) (gs sl i l).1/\Sz (64*ws.getD i.toNat 0-1) (gs sl i l).2:=by
 obtain⟨h0,h1⟩:=hi;have hk:i.toNat<sl.length:=by lia
 obtain⟨a,b⟩:=h i.toNat _ (zB hk);have e:sl.getD i.toNat []=sl[i.toNat]:=by simp[hk]
 refine⟨by rw[e];exact a,λl hl=>?_⟩;have e2:gs sl i l=sl[i.toNat][l]'(by rw[a];exact hl):=by
  unfold gs;rw[e];simp[show l<sl[i.toNat].length by rw[a];exact hl]
 rw[e2];exact b _ (yI _)
theorem SlW.snoc {q:Nat}{ws:List Nat}{sl:List LI}{r:LI}(h:SlW q ws sl)(hr:r.length=q)(hp:∀p∈r,p.1<=p.2/\Sz (64*ws.getD sl.length 0-1) p.1/\Sz (64*ws.getD sl.length 0-1) p.2):SlW q ws (sl++[r]):=λk u hu=>by
 by_cases hk:k<sl.length
 ·rw[zQ hk] at hu;exact h k u hu
 ·have l:=(zD.mp hu).1;simp only[zG,zT,yR] at l;have ek:k=sl.length:=by lia
  subst ek;rw[yA (zC _),yU] at hu;cases hu;exact⟨hr,hp⟩
theorem QX (hg:1<=g)(h1:Sz m p.1)(h2:Sz m p.2)(h3:Sz n q.1)(h4:Sz n q.2):Sz (m+n) (Z7 p q g).1/\Sz (m+n) (Z7 p q g).2:=
 ⟨(WK (WK (h1.mul h3) (h1.mul h4)) (WK (h2.mul h3) (h2.mul h4))).div hg,VB (Wo (Wo (h1.mul h3) (h1.mul h4)) (Wo (h2.mul h3) (h2.mul h4))) hg⟩
theorem CN:∀n:Nat,2<=n->n<=6->n<=2^(n-1):=λn h1 h2=>by
 have:n=2\/n=3\/n=4\/n=5\/n=6:=by lia
 rcases this with rfl|rfl|rfl|rfl|rfl<;>decide
theorem OD (h:Sz m x)(hn:n.natAbs<=2^e)(hp:1<=n.natAbs):Sz (m+e) (x*n):=by
 unfold Sz at *
 rw[Nat.pow_add,xV];exact Nat.mul_lt_mul_of_lt_of_le h hn (yQ (by decide))
theorem G4 (hg:1<=g)(n2:2<=n)(n6:n<=6)(h1:Sz m p.1)(h2:Sz m p.2):Sz (m*(n.toNat-1)+(n.toNat-1)) (Yq p n g).1/\Sz (m*(n.toNat-1)+(n.toNat-1)) (Yq p n g).2:=by
 have en:(n-1).toNat=n.toNat-1:=by lia
 have gp:(1:Int)<=g^((n-1).toNat-1):=yL (by lia)
 have p1:Sz (m*(n.toNat-1)) (p.1^(n-1).toNat):=by rw[en];exact Sz.pow' h1 (by lia)
 have p2:Sz (m*(n.toNat-1)) (p.2^(n-1).toNat):=by rw[en];exact Sz.pow' h2 (by lia)
 have lo:Sz (m*(n.toNat-1)) (ZU p.1 p.2 (n-1).toNat):=by
  unfold ZU;split
  ·show (0:Int).natAbs<_;exact yQ (by decide)
  ·exact WK p1 p2
 have nb:n.natAbs<=2^(n.toNat-1):=by
  have:=CN n.toNat (by lia) (by lia);lia
 exact⟨OD (lo.div gp) nb (by lia),OD (VB (Wo p1 p2) gp) nb (by lia)⟩
theorem sl_ok {q:Nat}{ws:List Nat}{vs:LI}{sl:List LI}{g:Int}(hs:SzW ws vs)(hl:SlW q ws sl)(hg:1<=g/\g<=1000000)(hv:sl.length<=vs.length)(hw:∀i:Int,inR vs.length i->1<=ws.getD i.toNat 0){l:Nat}(hq:l<q):∀v:Nd,v.ok sl.length q->1<=v.wt ws->(v.sl vs sl g l).1<=(v.sl vs sl g l).2/\Sz (64*v.wt ws-2) (v.sl vs sl g l).1/\Sz (64*v.wt ws-2) (v.sl vs sl g l).2
 | .number t b,ok,h1=>⟨yE _,by show Sz _ 0;exact yQ (by decide),by show Sz _ 0;exact yQ (by decide)⟩
 | .unknown k,ok,h1=>by
  have sg:Sz (64*Nd.wt ws (.unknown k)-2) g:=(Sz.of (n:=21) (10^6) (show g.natAbs<=_ by lia)).mono (by show 21<=64*1-2;decide)
  show (if (l:Int)=k then (g,g) else (0,0)).1<=(if (l:Int)=k then (g,g) else (0,0)).2/\Sz _ (if (l:Int)=k then (g,g) else (0,0)).1/\Sz _ (if (l:Int)=k then (g,g) else (0,0)).2;split
  ·exact⟨yE _,sg,sg⟩
  ·exact⟨yE _,yQ (by decide),yQ (by decide)⟩
 | .plus i j,ok,h1=>by
  have a:=(hl.at ok.1).2 l hq
  have b:=(hl.at ok.2).2 l hq
  have p:=hw i ⟨ok.1.1,by have:=ok.1.2;lia⟩
  have q:=hw j ⟨ok.2.1,by have:=ok.2.2;lia⟩;refine⟨?_,(a.2.1.add b.2.1).mono (by simp only[Nd.wt];lia),(a.2.2.add b.2.2).mono (by simp only[Nd.wt];lia)⟩;show (gs sl i l).1+(gs sl j l).1<=(gs sl i l).2+(gs sl j l).2;lia
 | .minus i j,ok,h1=>by
  have a:=(hl.at ok.1).2 l hq
  have b:=(hl.at ok.2).2 l hq
  have p:=hw i ⟨ok.1.1,by have:=ok.1.2;lia⟩
  have q:=hw j ⟨ok.2.1,by have:=ok.2.2;lia⟩;refine⟨?_,(a.2.1.sub b.2.2).mono (by simp only[Nd.wt];lia),(a.2.2.sub b.2.1).mono (by simp only[Nd.wt];lia)⟩;show (gs sl i l).1-(gs sl j l).2<=(gs sl i l).2-(gs sl j l).1;lia
 | .times i j,ok,h1=>by
  have oi:inR vs.length i:=⟨ok.1.1,by have:=ok.1.2;lia⟩
  have oj:inR vs.length j:=⟨ok.2.1,by have:=ok.2.2;lia⟩
  have a:=(hl.at ok.1).2 l hq
  have b:=(hl.at ok.2).2 l hq
  have c:=hs.at oi
  have d:=hs.at oj
  have p:=hw i oi
  have q:=hw j oj
  have z1:=QX hg.1 c.2.1 c.2.2 b.2.1 b.2.2
  have z2:=QX hg.1 d.2.1 d.2.2 a.2.1 a.2.2;refine⟨?_,(z1.1.add z2.1).mono (by simp only[Nd.wt];lia),(z1.2.add z2.2).mono (by simp only[Nd.wt];lia)⟩;have m1:=KD (gt vs i) (gs sl j l) hg.1
  have m2:=KD (gt vs j) (gs sl i l) hg.1
  show (Z7 (gt vs i) (gs sl j l) g).1+(Z7 (gt vs j) (gs sl i l) g).1<=(Z7 (gt vs i) (gs sl j l) g).2+(Z7 (gt vs j) (gs sl i l) g).2;lia
 | .power i n,ok,h1=>by
  have oi:inR vs.length i:=⟨ok.1.1,by have:=ok.1.2;lia⟩
  have a:=(hl.at ok.1).2 l hq
  have c:=hs.at oi
  have p:=hw i oi
  have n2:=ok.2.1
  have f:=G4 hg.1 ok.2.1 ok.2.2 c.2.1 c.2.2
  have z:=QX hg.1 f.1 f.2 a.2.1 a.2.2
  have hn:(60*ws.getD i.toNat 0-1)*(n.toNat-1)+(n.toNat-1)+(64*ws.getD i.toNat 0-1)<=64*Nd.wt ws (.power i n)-2:=by
   simp only[Nd.wt];generalize ws.getD i.toNat 0=w at p;obtain⟨k,hk⟩:∃k,n.toNat=k+2:=⟨n.toNat-2,by lia⟩;rw[hk,show k+2-1=k+1 by lia,Nat.sub_mul,Nat.one_mul];have e1:60*w*(k+1)=60*(k*w)+60*w:=by rw[Nat.mul_add,Nat.mul_one,Nat.mul_assoc,Nat.mul_comm w k]
   have e2:(k+2)*w=k*w+2*w:=Nat.add_mul ..
   have e3:k+1<=60*w*(k+1):=Nat.le_mul_of_pos_left _ (by lia);rw[e2];lia
  exact⟨KD _ _ hg.1,z.1.mono hn,z.2.mono hn⟩
theorem SlW.spn (h:SlW q ws sl)(hw:∀k:Nat,k<sl.length->ws.getD k 0<=16):∀i:Int,inR sl.length i->(sl.getD i.toNat []).length=q/\∀l,l<q->(gs sl i l).1<=(gs sl i l).2/\Sz 1100 (gs sl i l).1/\Sz 1100 (gs sl i l).2:=λi hi=>by
 obtain⟨a,b⟩:=h.at hi;refine⟨a,λl hl=>?_⟩;obtain⟨c,d,e⟩:=b l hl;have:=hw i.toNat (by have:=hi.1;have:=hi.2;lia);exact⟨c,d.mono (by lia),e.mono (by lia)⟩
theorem za1 {caps:List Nat}{ta:TDA}{te:TDE}{dl:Ev}{S S1:Sto}{Q:DK}{n:Nat}{xs:List D}(g:Nat->D->D)(hta:∀K:List D->Sto->Prop,K [.ref n] S1->ta dl S K)(h1:S1[n]?=some (.lst xs))(hl:xs.length<=1000)
  (ht:∀(k:Nat)(x:D),xs[k]?=some x->∀(S2:Sto)(K:DK),Pre S1 S2->K (g k x) S2->te (some (.int (k:Int))::some x::YR caps dl) S2 K)(hq:Q (.ref S1.length) (S1++[.lst (xs.mapIdx g)])):Rj caps ta te dl S Q:=by
 unfold Rj;refine hta _ ⟨by rw[ZX h1 rfl];rfl,λk m S2=>S2=S1++[.lst ((xs.take k).mapIdx g)]/\m+k=xs.length,⟨xs.length,by simp,by lia⟩,?_⟩;rintro k m S2 ⟨rfl,hm⟩;rw[ZX (Ue h1) rfl];dsimp only[Zs];split
 ·rename_i x hx;have hk:k<xs.length:=(zD.mp hx).1;unfold Qk;refine ht k x hx _ _ Pre.refl.push ?_;rw[Zz];refine⟨by simp;lia,m-1,by lia,?_,by lia⟩;have e:xs.take (k+1)=xs.take k++[x]:=by rw[wB,hx];rfl
  rw[e,List.mapIdx_append,List.set_append_right _ _ (zC _)];have l:(xs.take k).length=k:=by rw[yP];lia
  simp[l]
 ·rename_i hx;have hk:xs.length<=k:=yY.mp hx;refine⟨by lia,?_⟩;rw[yZ hk];exact hq
def mid (p:Int×Int):Int:=(p.1+p.2)/2
def Z5 (p:Int×Int):Int×Int:=(mid p,mid p)
def TU (p q:Int×Int):Int×Int:=(p.1+q.1,p.2+q.2)
def Xg (p q:Int×Int):Int×Int:=(p.1-q.2,p.2-q.1)
def sumP (g:Int)(us vs:LI):Int×Int:=(List.zip us vs).foldl (λt z=>TU t (Z7 z.1 z.2 g)) (0,0)
def rwD (r:Bool×Nat):D:=.tup [.str (if r.1 then "zero" else "least"),.int (r.2:Int)]
def eqs (rows:List (Bool×Nat)):List Nat:=rows.filterMap λr=>if r.1 then some r.2 else none
theorem Fn {caps:List Nat}{tl te:TDE}{tc:TDT}{dl:Ev}{S S1:Sto}{Q:DK}{n:Nat}{o:Ob}(f:D->Option D)(htl:∀K:DK,K (.ref n) S1->tl dl S K)(h1:S1[n]?=some o)(hl:(Zs o).length<=1000)
  (hc:∀x∈Zs o,∀(S2:Sto)(K:Bool->Sto->Prop),Pre S1 S2->K (f x).isSome S2->tc (some x::YR caps dl) S2 K)(ht:∀x∈Zs o,∀y,f x=some y->∀(S2:Sto)(K:DK),Pre S1 S2->K y S2->te (some x::YR caps dl) S2 K)(hq:Q (.ref S1.length) (S1++[.lst ((Zs o).filterMap f)]))(hL:Xf o=some o:=by rfl):Wb caps tl tc te dl S Q:=by
 unfold Wb;refine htl _ ⟨by rw[ZX h1 hL];rfl,λk m S2=>S2=S1++[.lst (((Zs o).take k).filterMap f)]/\m+k=(Zs o).length,⟨(Zs o).length,by simp,by lia⟩,?_⟩;rintro k m S2 ⟨rfl,hm⟩;rw[ZX (Ue h1) hL];dsimp only;split
 ·rename_i x hx;have hk:k<(Zs o).length:=(zD.mp hx).1
  have e:(Zs o).take (k+1)=(Zs o).take k++[x]:=by rw[wB,hx];rfl
  unfold Wy;refine hc x (zJ hx) _ _ Pre.refl.push ?_;cases ef:f x with
  | none=>
   refine YS ?_;refine⟨m-1,by lia,?_,by lia⟩;rw[e,List.filterMap_append];simp[ef]
  | some y=>
   refine Xn ?_;refine ht x (zJ hx) y ef _ _ Pre.refl.push ?_;rw[Zz];have ll:=List.length_filterMap_le f ((Zs o).take k);refine⟨by rw[yP] at ll;lia,m-1,by lia,?_,by lia⟩;rw[e,List.filterMap_append,QB];simp[ef]
 ·rename_i hx;have hk:(Zs o).length<=k:=yY.mp hx;rw[yZ hk];exact hq
def Xm (g:Int)(k c:Nat)(ts:LI)(R:List LI):Int×Int:=Xg (if k=c then (g,g) else (0,0)) (sumP g ts (R.map λr=>r.getD c (0,0)))
def YG (g:Int)(box:LI)(aC:LI)(R:List LI)(k:Nat)(es:List Int):Int×Int:=
 TU (Xg (Z5 (gt box k)) (sumP g (es.map λe=>(e,e)) aC)) (sumP g ((List.range box.length).map λc=>Xm g k c (es.map λe=>(e,e)) R) (box.map λp=>Xg p (Z5 p)))
theorem LS (g:Int)(us vs:LI)(k:Nat){u v:Int×Int}(hu:us[k]?=some u)(hv:vs[k]?=some v):sumP g (us.take (k+1)) (vs.take (k+1))=TU (sumP g (us.take k) (vs.take k)) (Z7 u v g):=by
 unfold sumP;have l1:=(zD.mp hu).1
 have l2:=(zD.mp hv).1;rw[Wf hu,Wf hv,List.zip_append (by rw[yP,yP];lia),List.foldl_append];rfl
theorem FT (g:Int)(us vs:LI):sumP g (us.take (min us.length vs.length)) (vs.take (min us.length vs.length))=sumP g us vs:=by
 unfold sumP;congr 1;show List.zipWith Prod.mk _ _=List.zipWith Prod.mk _ _;rw[<- List.take_zipWith,yZ (by rw[List.length_zipWith];exact zC _)]
def Bd (B:Nat)(vs:LI):Prop:=∀p∈vs,Sz B p.1/\Sz B p.2
theorem Ge (hg:1<=g)(h1:Bd A us)(h2:Bd B vs):∀k:Nat,k<=us.length->k<=vs.length->Sz (A+B+k+1) (sumP g (us.take k) (vs.take k)).1/\Sz (A+B+k+1) (sumP g (us.take k) (vs.take k)).2
 | 0,_,_=>⟨yQ (by decide),yQ (by decide)⟩
 | k+1,l1,l2=>by
  have hu:=zB (show k<us.length by lia)
  have hv:=zB (show k<vs.length by lia);rw[LS g us vs k hu hv];have ih:=Ge hg h1 h2 k (by lia) (by lia)
  have a:=h1 _ (zJ hu)
  have b:=h2 _ (zJ hv)
  have m:=QX hg a.1 a.2 b.1 b.2;exact⟨(ih.1.add m.1).mono (by lia),(ih.2.add m.2).mono (by lia)⟩
theorem ES (hg:1<=g)(h1:Bd A us)(h2:Bd B vs)(l:us.length<=60):Sz (A+B+61) (sumP g us vs).1/\Sz (A+B+61) (sumP g us vs).2:=by
 rw[<- FT];have z:=Ge hg h1 h2 (min us.length vs.length) (by lia) (by lia);exact⟨z.1.mono (by lia),z.2.mono (by lia)⟩
theorem AF {is:List Nat}{ta:TDA}{tb:TDS}{E:X1}{dl:Ev}{S:Sto}{n n':Nat}{xs ys:List D}(W:Nat->Ev->Prop)(hta:∀K:List D->Sto->Prop,K [.ref n,.ref n'] S->ta dl S K)(h1:S[n]?=some (.lst xs))(h2:S[n']?=some (.lst ys))(h0:W 0 dl)
  (hb:∀(k:Nat)(x y:D)(dl':Ev)(nx ct:Ev->Sto->Prop),xs[k]?=some x->ys[k]?=some y->W k dl'->(∀dl2,W (k+1) dl2->nx dl2 S)->tb { nx:=nx,rt:=E.rt,bk:=E.nx,ct:=ct } (Vh is [x,y] dl') S)(he:∀dl',W (min xs.length ys.length) dl'->E.nx dl' S):O2 is ta tb E dl S:=by
 unfold O2;refine hta _ ⟨⟨by rw[ZX h1 rfl];rfl,by rw[ZX h2 rfl];rfl⟩,λk m dl' S'=>S'=S/\W k dl'/\k+m=min xs.length ys.length,⟨min xs.length ys.length,rfl,h0,by simp⟩,?_⟩;rintro k m dl' S' ⟨rfl,w,hk⟩;simp only[ZX h1 rfl,ZX h2 rfl,Zs];split
 ·rename_i x y e1 e2;have l1:=(zD.mp e1).1
  have l2:=(zD.mp e2).1;exact hb k x y dl' _ _ e1 e2 w (λdl2 w2=>⟨m-1,by lia,rfl,w2,by lia⟩)
 ·rename_i no;have ek:k=min xs.length ys.length:=by
   by_cases l:k<min xs.length ys.length
   ·exact absurd (zB (l:=ys) (i:=k) (by lia)) (no _ _ (zB (l:=xs) (i:=k) (by lia)))
   ·lia
  exact⟨ek,he _ (ek ▸ w)⟩
theorem D4 {B:Nat}{p:Int×Int}(h1:Sz B p.1)(h2:Sz B p.2):Sz (B+1) (mid p):=(h1.add h2).div (by decide) |>.mono (by lia)
theorem En (hp:Sz B p.1/\Sz B p.2)(hq:Sz C q.1/\Sz C q.2):Sz (max B C+1) (Xg p q).1/\Sz (max B C+1) (Xg p q).2:=⟨hp.1.sub hq.2,hp.2.sub hq.1⟩
def Xr (S:Sto)(ds:List D)(M:List (List Int)):Prop:=ds.length=M.length/\∀(k:Nat)(d:D)(r:List Int),ds[k]?=some d->M[k]?=some r->∃a,d=.ref a/\S[a]?=some (.lst (r.map D.int))
theorem Xr.pre (h:Xr S ds M)(p:Pre S T):Xr T ds M:=⟨h.1,λk d r hd hr=>by
 obtain⟨a,e,s⟩:=h.2 k d r hd hr;exact⟨a,e,p _ _ s⟩⟩
theorem Ks {A B x:Int}(y:Int)(h1:A<=x)(h2:x<=B):min (A*y) (B*y)<=x*y/\x*y<=max (A*y) (B*y):=by
 rcases xO 0 y with h|h
 ·have a:=zH h1 h
  have b:=zH h2 h;lia
 ·have a:=zH h1 (show 0<=-y by lia)
  have b:=zH h2 (show 0<=-y by lia);simp only[Int.mul_neg] at a b;lia
theorem Gj {A B C D x y:Int}(h1:A<=x)(h2:x<=B)(h3:C<=y)(h4:y<=D):mn4 A B C D<=x*y/\x*y<=mx4 A B C D:=by
 have a:=Ks y h1 h2
 have b:=Ks A h3 h4
 have c:=Ks B h3 h4;rw[xR C A,xR D A,xR y A] at b;rw[xR C B,xR D B,xR y B] at c;unfold mn4 mx4;lia
theorem VC {vs:LI}{p:Int×Int}{i:Int}(h:inR vs.length i):gt (vs++[p]) i=gt vs i:=by
 have hk:i.toNat<vs.length:=by
  have:=h.1
  have:=h.2;lia
 simp only[gt,zK,zQ hk]
theorem Tx {vs:LI}{p:Int×Int}{k:Nat}(h:vs.length=k):gt (vs++[p]) (k:Int)=p:=by
 subst h;simp[gt]
def Pz (B:Nat)(vs:LI):Prop:=∀p∈vs,1<=p.2/\Sz B p.1/\Sz B p.2
theorem Pz.at {B:Nat}{vs:LI}(h:Pz B vs){i:Int}(hi:inR vs.length i):1<=(gt vs i).2/\Sz B (gt vs i).1/\Sz B (gt vs i).2:=h _ (VG hi)
def Nd.due (vs ps:LI):Nd->Int×Int
 | .number t b=>(t,b)
 | .unknown k=>gt ps k
 | .plus i j=>((gt vs i).1*(gt vs j).2+(gt vs j).1*(gt vs i).2,(gt vs i).2*(gt vs j).2)
 | .minus i j=>((gt vs i).1*(gt vs j).2-(gt vs j).1*(gt vs i).2,(gt vs i).2*(gt vs j).2)
 | .times i j=>((gt vs i).1*(gt vs j).1,(gt vs i).2*(gt vs j).2)
 | .power i n=>((gt vs i).1^n.toNat,(gt vs i).2^n.toNat)
def PzW (ws:List Nat)(vs:LI):Prop:=∀(k:Nat)(p:Int×Int),vs[k]?=some p->1<=p.2/\Sz (112*ws.getD k 0-2) p.1/\Sz (112*ws.getD k 0-2) p.2
theorem PzW.at {ws:List Nat}{vs:LI}(h:PzW ws vs){i:Int}(hi:inR vs.length i):1<=(gt vs i).2/\Sz (112*ws.getD i.toNat 0-2) (gt vs i).1/\Sz (112*ws.getD i.toNat 0-2) (gt vs i).2:=by
 obtain⟨h0,h1⟩:=hi;have hk:i.toNat<vs.length:=by lia
 have e:gt vs i=vs[i.toNat]:=by simp[gt,hk]
 rw[e];exact h _ _ (zB hk)
theorem due_w (hs:PzW ws vs)(hp:Pz 110 ps)(hw:∀i:Int,inR vs.length i->1<=ws.getD i.toNat 0):∀v:Nd,v.ok vs.length ps.length->1<=(v.due vs ps).2/\Sz (112*v.wt ws-2) (v.due vs ps).1/\Sz (112*v.wt ws-2) (v.due vs ps).2
 | .number t b,ok=>⟨ok.1.1,(Sz.of (n:=31) (10^9) ok.2.2).mono (show 31<=112*1-2 by decide),(Sz.of (n:=31) (10^9) (by have:=ok.1;show b.natAbs<=_;lia)).mono (show 31<=112*1-2 by decide)⟩
 | .unknown k,ok=>⟨(hp.at ok).1,(hp.at ok).2.1.mono (show 110<=112*1-2 by decide),(hp.at ok).2.2.mono (show 110<=112*1-2 by decide)⟩
 | .plus i j,ok=>by
  have a:=hs.at ok.1
  have b:=hs.at ok.2
  have p:=hw i ok.1
  have q:=hw j ok.2;exact⟨yF (show 0<_ by lia) (show 0<_ by lia),((a.2.1.mul b.2.2).add (b.2.1.mul a.2.2)).mono (by simp only[Nd.wt];lia),(a.2.2.mul b.2.2).mono (by simp only[Nd.wt];lia)⟩
 | .minus i j,ok=>by
  have a:=hs.at ok.1
  have b:=hs.at ok.2
  have p:=hw i ok.1
  have q:=hw j ok.2;exact⟨yF (show 0<_ by lia) (show 0<_ by lia),((a.2.1.mul b.2.2).sub (b.2.1.mul a.2.2)).mono (by simp only[Nd.wt];lia),(a.2.2.mul b.2.2).mono (by simp only[Nd.wt];lia)⟩
 | .times i j,ok=>by
  have a:=hs.at ok.1
  have b:=hs.at ok.2
  have p:=hw i ok.1
  have q:=hw j ok.2;exact⟨yF (show 0<_ by lia) (show 0<_ by lia),(a.2.1.mul b.2.1).mono (by simp only[Nd.wt];lia),(a.2.2.mul b.2.2).mono (by simp only[Nd.wt];lia)⟩
 | .power i n,ok=>by
  have a:=hs.at ok.1
  have p:=hw i ok.1
  have n2:=ok.2.1
  have hn:(112*ws.getD i.toNat 0-2)*n.toNat+1<=112*Nd.wt ws (.power i n)-2:=by
   simp only[Nd.wt];rw[Nat.sub_mul];have e:112*ws.getD i.toNat 0*n.toNat=112*(n.toNat*ws.getD i.toNat 0):=by rw[Nat.mul_assoc,Nat.mul_comm (ws.getD i.toNat 0)]
   have m1:=xM (zC n.toNat) p;lia
  exact⟨yL (show 0<_ by lia),(a.2.1.pow _).mono hn,(a.2.2.pow _).mono hn⟩
def ZD (ps:LI)(ns:List Nd):LI:=ns.foldl (λacc v=>acc++[v.due acc ps]) []
theorem WY (ps:LI)(ns:List Nd)(v:Nd):ZD ps (ns++[v])=ZD ps ns++[v.due (ZD ps ns) ps]:=by
 unfold ZD;rw[List.foldl_append];rfl
theorem XU (ps:LI)(ns:List Nd):(ZD ps ns).length=ns.length:=by
 have z:∀k,k<=ns.length->(ZD ps (ns.take k)).length=k:=λk=>by
  induction k with
  | zero=>intro _;rfl
  | succ k ih=>
   intro hk;rw[Wf (zB (show k<ns.length by lia)),WY];simp[ih (by lia)]
 have y:=z ns.length (zC _)
 rwa [wD] at y
theorem DG (h:PzW ws vs)(lk:vs.length=k)(hp:1<=p.2/\Sz (112*ws.getD k 0-2) p.1/\Sz (112*ws.getD k 0-2) p.2):PzW ws (vs++[p]):=λi q hq=>by
 by_cases hi:i<k
 ·rw[zQ (by lia)] at hq;exact h i q hq
 ·have hl:=(zD.mp hq).1;simp only[zG,zT,yR,lk] at hl;have ei:i=k:=by lia
  subst ei;rw[yA (by lia),lk,yU] at hq;simp at hq;subst hq;exact hp
theorem Bg {q:Int}{ns:List Nd}{ws:List Nat}(h:Z3 q ns ws){k:Nat}{vs:LI}(hk:k<=ns.length)(lv:vs.length=k):∀i:Int,inR vs.length i->1<=ws.getD i.toNat 0:=λi hi=>(h.w1 (i:=i) ⟨hi.1,by have:=hi.2;lia⟩).1
theorem V1 {q:Int}{ns:List Nd}{ws:List Nat}{ps:LI}(h:Z3 q ns ws)(hq:q=ps.length)(hp:Pz 110 ps):∀k,k<=ns.length->PzW ws (ZD ps (ns.take k)):=by
 intro k
 induction k with
 | zero=>intro _ i p hp;simp[ZD] at hp
 | succ k ih=>
  intro hk;have hv:=zB (show k<ns.length by lia)
  have s:=ih (by lia)
  have ln:(ZD ps (ns.take k)).length=k:=by rw[XU,yP];lia
  obtain⟨ok,e,_,_⟩:=h.ok k _ hv;rw[Wf hv,WY];refine DG s ln ?_;rw[e];exact due_w s hp (Bg h (by lia) ln) _ (by rw[ln,<- hq];exact ok)
theorem Pz.of_w {ws:List Nat}{vs:LI}(h:PzW ws vs)(hw:∀k:Nat,k<vs.length->ws.getD k 0<=16):Pz 1800 vs:=λp hp=>by
 obtain⟨k,hk,e⟩:=xE.mp hp;obtain⟨a,b,c⟩:=h k p (by rw[zB hk,e]);have:=hw k hk;exact⟨a,b.mono (by lia),c.mono (by lia)⟩
theorem Vl {p q k:Int}(h:0<=k):min (p*k) (q*k)=min p q*k/\max (p*k) (q*k)=max p q*k:=by
 rcases xO p q with c|c
 ·have:=zH c h;rw[Int.min_eq_left c,Int.max_eq_right c];omega
 ·have:=zH c h;rw[Int.min_eq_right c,Int.max_eq_left c];omega
theorem M7 {a b c d p q:Int}(h:0<=p*q):mn4 (a*p) (b*p) (c*q) (d*q)=mn4 a b c d*(p*q)/\mx4 (a*p) (b*p) (c*q) (d*q)=mx4 a b c d*(p*q):=by
 have e:∀x y:Int,x*p*(y*q)=x*y*(p*q):=λx y=>by grind
 unfold mn4 mx4;rw[e,e,e,e];refine⟨?_,?_⟩
 ·rw[(Vl h).1,(Vl h).1,(Vl h).1]
 ·rw[(Vl h).2,(Vl h).2,(Vl h).2]
theorem zdZ {a b p x:Int}{n:Nat}(hn:1<=n)(hp:1<=p)(h1:a*p<=x)(h2:x<=b*p):ZU a b n*p^n<=x^n/\x^n<=Yg a b n*p^n:=by
 have pp:0<p^n:=yL (by lia)
 have lo1:ZU a b n<=a^n:=by
  unfold ZU;split
  ·rename_i c;exact WA c.1 a
  ·lia
 have lo2:ZU a b n<=b^n:=by
  unfold ZU;split
  ·rename_i c;exact WA c.1 b
  ·lia
 refine zbU hn h1 h2 ?_ ?_ (λha hb=>?_) ?_ ?_
 ·rw[xD];exact zH lo1 (by lia)
 ·rw[xD];exact zH lo2 (by lia)
 ·have a0:a<0:=by
   by_cases c:a<0
   ·exact c
   ·have:=zY (show 0<=a by lia) (show 0<=p by lia);lia
  have b0:0<b:=by
   by_cases c:0<b
   ·exact c
   ·have:=zY (show 0<=-b by lia) (show 0<=p by lia);rw[yO] at this;lia
  have z:ZU a b n<=0:=by
   unfold ZU;split
   ·exact yE _
   ·rename_i c;have:=Ow (n:=n) (by lia) a0;lia
  have:=zY (show 0<=-ZU a b n by lia) (show 0<=p^n by lia);rw[yO] at this;lia
 ·rw[xD];exact zH (by unfold Yg;lia) (by lia)
 ·rw[xD];exact zH (by unfold Yg;lia) (by lia)
theorem Ho {m M G X B:Int}(hG:1<=G)(hB:0<=B)(h1:m*B<=X*G)(h2:X*G<=M*B):m/G*B<=X/\X<=-(-M/G)*B:=by
 have a:=zH (Vf m (show 0<G by lia)).1 hB
 have b:=zH (Q8 M (show 0<G by lia)).1 hB
 have e1:m/G*G*B=m/G*B*G:=by grind
 have e2:-(-M/G)*G*B=-(-M/G)*B*G:=by grind
 rw[e1] at a;rw[e2] at b;exact⟨yT (a:=G) (by lia) (by lia),yT (a:=G) (by lia) (by lia)⟩
theorem E8 {lo hi w p g t b:Int}(h:lo<=hi)(hw:1<=w)(hg:1<=g)(p0:0<=p)(p1:p<=w)(hb:1<=b)(e:t*(g*w)=(lo*w+(hi-lo)*p)*b):lo*b<=t*g/\t*g<=hi*b:=by
 have a1:=zY (show 0<=hi-lo by lia) p0
 have a2:=wA p1 (show 0<=hi-lo by lia)
 have b1:=zH (show lo*w<=lo*w+(hi-lo)*p by lia) (show 0<=b by lia)
 have e2:(hi-lo)*w=hi*w-lo*w:=by grind
 have b2:=zH (show lo*w+(hi-lo)*p<=hi*w by lia) (show 0<=b by lia);rw[<- e] at b1 b2;have c1:lo*w*b=lo*b*w:=by grind
 have c2:hi*w*b=hi*b*w:=by grind
 have c3:t*(g*w)=t*g*w:=by grind
 rw[c1,c3] at b1;rw[c2,c3] at b2;exact⟨yT b1 (by lia),yT b2 (by lia)⟩
theorem zbV {lo hi w p:Int}(h:lo<=hi)(s1:Sz 51 lo)(s2:Sz 51 hi)(hw:1<=w/\w<=1000000000)(p0:0<=p)(p1:p<=w):IntMulOk lo w/\IntMulOk (hi-lo) p/\Sz 84 (lo*w+(hi-lo)*p):=by
 have sw:Sz 30 w:=Sz.of 1000000000 (by lia)
 have sp:Sz 30 p:=Sz.of 1000000000 (by lia)
 have sd:Sz 52 (hi-lo):=s2.sub s1;exact⟨ZN s1 sw,ZN sd sp,((s1.mul sw).add (sd.mul sp)).mono (by decide)⟩
def InW (g:Int)(vs ds:LI):Prop:=∀i:Int,inR ds.length i->(gt vs i).1*(gt ds i).2<=(gt ds i).1*g/\(gt ds i).1*g<=(gt vs i).2*(gt ds i).2
theorem BW {vs bs ds ps:LI}{g:Int}{B:Nat}(hg:1<=g)(h:InW g vs ds)(hp:InW g bs ps)(pd:Pz B ds)(pp:Pz B ps):∀v:Nd,v.ok ds.length ps.length->(v.fw vs bs g).1*(v.due ds ps).2<=(v.due ds ps).1*g/\(v.due ds ps).1*g<=(v.fw vs bs g).2*(v.due ds ps).2
 | .number t b,ok=>⟨(Vf (t*g) (show 0<b by have:=ok.1.1;lia)).1,(Q8 (t*g) (show 0<b by have:=ok.1.1;lia)).1⟩
 | .unknown k,ok=>hp k ok
 | .plus i j,ok=>by
  have a:=h i ok.1
  have b:=h j ok.2
  have p1:=(pd.at ok.1).1
  have p2:=(pd.at ok.2).1;simp only[Nd.fw,Nd.due];have a1:=zH a.1 (show 0<=(gt ds j).2 by lia)
  have a2:=zH a.2 (show 0<=(gt ds j).2 by lia)
  have b1:=zH b.1 (show 0<=(gt ds i).2 by lia)
  have b2:=zH b.2 (show 0<=(gt ds i).2 by lia);grind
 | .minus i j,ok=>by
  have a:=h i ok.1
  have b:=h j ok.2
  have p1:=(pd.at ok.1).1
  have p2:=(pd.at ok.2).1;simp only[Nd.fw,Nd.due];have a1:=zH a.1 (show 0<=(gt ds j).2 by lia)
  have a2:=zH a.2 (show 0<=(gt ds j).2 by lia)
  have b1:=zH b.1 (show 0<=(gt ds i).2 by lia)
  have b2:=zH b.2 (show 0<=(gt ds i).2 by lia);grind
 | .times i j,ok=>by
  have a:=h i ok.1
  have b:=h j ok.2
  have p1:=(pd.at ok.1).1
  have p2:=(pd.at ok.2).1
  have pq:0<=(gt ds i).2*(gt ds j).2:=zY (by lia) (by lia)
  have z:=Gj a.1 a.2 b.1 b.2;rw[(M7 pq).1,(M7 pq).2] at z;have e:(gt ds i).1*g*((gt ds j).1*g)=(gt ds i).1*(gt ds j).1*g*g:=by grind
  rw[e] at z;exact Ho hg pq z.1 z.2
 | .power i n,ok=>by
  have a:=h i ok.1
  have p1:=(pd.at ok.1).1
  have n2:=ok.2.1;obtain⟨k,hk⟩:∃k,n.toNat=k+1:=⟨n.toNat-1,by lia⟩;have z:=zdZ (n:=n.toNat) (by lia) p1 a.1 a.2
  have e:((gt ds i).1*g)^n.toNat=(gt ds i).1^n.toNat*g*g^(n.toNat-1):=by
   rw[xD,hk,Nat.add_sub_cancel,zU g k];grind
  rw[e] at z;exact Ho (yL (by lia)) (Int.le_of_lt (yL (by lia))) z.1 z.2
def hs:Nat->Int->Int->Int
 | 0,_,_=>0
 | k+1,x,y=>x*hs k x y+y^k
theorem Q6 (x y:Int):∀n:Nat,(x-y)*hs n x y=x^n-y^n
 | 0=>by simp[hs]
 | k+1=>by
  have z:=Q6 x y k
  have e:(x-y)*hs (k+1) x y=x*((x-y)*hs k x y)+(x-y)*y^k:=by
   show (x-y)*(x*hs k x y+y^k)=_;grind
  rw[e,z,zU,zU];grind
theorem LF (x:Int):∀n:Nat,hs (n+1) x x=((n+1:Nat):Int)*x^n
 | 0=>by simp[hs]
 | k+1=>by
  show x*hs (k+1) x x+x^(k+1)=_;rw[LF x k,zU];have e:((k+1+1:Nat):Int)=((k+1:Nat):Int)+1:=by lia
  rw[e];grind
theorem HS (x y g:Int):∀n:Nat,hs (n+1) (x*g) (y*g)=hs (n+1) x y*g^n
 | 0=>by simp[hs]
 | k+1=>by
  show x*g*hs (k+1) (x*g) (y*g)+(y*g)^(k+1)=(x*hs (k+1) x y+y^(k+1))*g^(k+1);rw[HS x y g k,xD,zU g];grind
theorem za5 (x y:Int)(n:Nat):hs n x y=hs n y x:=by
 by_cases e:x=y
 ·rw[e]
 ·have a:=Q6 x y n
  have b:=Q6 y x n
  have c:(x-y)*hs n x y=(x-y)*hs n y x:=by grind
  exact Int.eq_of_mul_eq_mul_left (by lia) c
theorem Gm (x y:Int)(n:Nat):hs (n+1) (-x) (-y)=hs (n+1) x y*(-1)^n:=by
 have z:=HS x y (-1) n;rw[Int.mul_neg_one,Int.mul_neg_one] at z;exact z
theorem MC {a b:Int}(h0:0<=a)(h:a<=b):∀n:Nat,a^n<=b^n
 | 0=>by simp
 | k+1=>by
  rw[zU,zU];exact Int.mul_le_mul (MC h0 h k) h h0 (xA (by lia))
theorem Oc (hx:0<=x)(hy:0<=y):∀n:Nat,0<=hs n x y
 | 0=>yE _
 | k+1=>Int.add_nonneg (zY hx (Oc hx hy k)) (xA hy)
theorem Jq {x y u v:Int}(hx:0<=x)(hy:0<=y)(h1:x<=u)(h2:y<=v):∀n:Nat,hs n x y<=hs n u v
 | 0=>yE _
 | k+1=>Int.add_le_add (Int.mul_le_mul h1 (Jq hx hy h1 h2 k) (Oc hx hy k) (by lia)) (MC hy h2 k)
theorem TJ (x:Int):(-x)^n=x^n*(-1)^n:=by
 rw[<- xD,Int.mul_neg_one]
theorem V0 (h:n%2=0):(-1:Int)^n=1:=by
 obtain⟨k,rfl⟩:∃k,n=2*k:=⟨n/2,by lia⟩;rw[Int.pow_mul];show (1:Int)^k=1;exact Int.one_pow
theorem IC (h:n%2=1):(-1:Int)^n=-1:=by
 obtain⟨k,rfl⟩:∃k,n=2*k+1:=⟨n/2,by lia⟩;rw[zU,V0 (by lia)];rfl
theorem zbz (ha:0<=a)(hb:0<=b)(m:Nat):(m%2=0->0<=hs (m+1) (-a) b/\hs (m+1) (-a) b<=max (a^m) (b^m))/\(m%2=1->-(a^m)<=hs (m+1) (-a) b/\hs (m+1) (-a) b<=b^m):=by
 have pa:0<=a^m:=xA ha
 have pb:0<=b^m:=xA hb;by_cases z:a+b=0
 ·have a0:a=0:=by lia
  have b0:b=0:=by lia
  subst a0 b0;have e:hs (m+1) (-0) 0=((m+1:Nat):Int)*0^m:=LF 0 m;rw[e];cases m with
  | zero=>simp
  | succ m=>simp[zU]
 have pos:0<a+b:=by lia
 have k:=Q6 (-a) b (m+1)
 have e1:(-a)^(m+1)=a^(m+1)*(-1)^(m+1):=TJ a
 have ea:a^(m+1)=a^m*a:=zU a m
 have eb:b^(m+1)=b^m*b:=zU b m
 have pab:=zY pa hb
 have pba:=zY pb ha
 have paa:=zY pa ha
 have pbb:=zY pb hb;refine⟨λev=>?_,λod=>?_⟩
 ·rw[e1,IC (show (m+1)%2=1 by lia)] at k;have k2:(a+b)*hs (m+1) (-a) b=a^m*a+b^m*b:=by grind
  refine⟨?_,?_⟩
  ·have q:0*(a+b)<=hs (m+1) (-a) b*(a+b):=by grind
   exact yT q pos
  ·have m1:=zH (show a^m<=max (a^m) (b^m) by lia) ha
   have m2:=zH (show b^m<=max (a^m) (b^m) by lia) hb;generalize max (a^m) (b^m)=M at m1 m2;have q:hs (m+1) (-a) b*(a+b)<=M*(a+b):=by grind
   exact yT q pos
 ·rw[e1,V0 (show (m+1)%2=0 by lia)] at k;have k2:(a+b)*hs (m+1) (-a) b=b^m*b-a^m*a:=by grind
  refine⟨?_,?_⟩
  ·have q:-(a^m)*(a+b)<=hs (m+1) (-a) b*(a+b):=by grind
   exact yT q pos
  ·have q:hs (m+1) (-a) b*(a+b)<=b^m*(a+b):=by grind
   exact yT q pos
theorem Oz (h0:0<=L)(x1:L<=x)(x2:x<=H)(y1:L<=y)(y2:y<=H)(m:Nat):((m+1:Nat):Int)*L^m<=hs (m+1) x y/\hs (m+1) x y<=((m+1:Nat):Int)*H^m:=by
 rw[<- LF,<- LF];exact⟨Jq h0 h0 x1 y1 _,Jq (by lia) (by lia) x2 y2 _⟩
theorem zcC {L H x y:Int}(x1:L<=x)(x2:x<=H)(y1:L<=y)(y2:y<=H){m:Nat}(hm:1<=m):((m+1:Nat):Int)*ZU L H m<=hs (m+1) x y/\hs (m+1) x y<=((m+1:Nat):Int)*Yg L H m:=by
 have n0:(0:Int)<=((m+1:Nat):Int):=by lia
 have up:∀ {u v:Int},u<=v->((m+1:Nat):Int)*u<=((m+1:Nat):Int)*v:=λh=>wA h n0
 have lo1:ZU L H m<=L^m:=by
  unfold ZU;split
  ·rename_i c;exact WA c.1 L
  ·lia
 have lo2:ZU L H m<=H^m:=by
  unfold ZU;split
  ·rename_i c;exact WA c.1 H
  ·lia
 have hi1:L^m<=Yg L H m:=by unfold Yg;lia
 have hi2:H^m<=Yg L H m:=by unfold Yg;lia
 have big:∀ {u:Int},0<=u->u<=((m+1:Nat):Int)*u:=λ{u} h=>by
  have:=zY (show (0:Int)<=(m:Int) by lia) h
  have e:((m+1:Nat):Int)*u=(m:Int)*u+u:=by
   have:((m+1:Nat):Int)=(m:Int)+1:=by lia
   rw[this];grind
  lia
 have pp:0<=x->0<=y->((m+1:Nat):Int)*ZU L H m<=hs (m+1) x y/\hs (m+1) x y<=((m+1:Nat):Int)*Yg L H m:=λhx hy=>by
  have hiH:=(Oz (L:=0) (yE _) hx x2 hy y2 m).2;refine⟨?_,yG hiH (up hi2)⟩;by_cases c:0<=L
  ·exact yG (up lo1) (Oz c x1 x2 y1 y2 m).1
  ·have nn:=Oc hx hy (m+1)
   have z:ZU L H m<=0:=by
    by_cases p:m%2=0
    ·unfold ZU;rw[if_pos ⟨p,by lia,by lia⟩];exact yE _
    ·have:=Ow (n:=m) (by lia) (show L<0 by lia);lia
   have:=up z;lia
 have mm:x<=0->y<=0->((m+1:Nat):Int)*ZU L H m<=hs (m+1) x y/\hs (m+1) x y<=((m+1:Nat):Int)*Yg L H m:=λhx hy=>by
  have top:=(Oz (L:=0) (H:=-L) (x:=-x) (y:=-y) (yE _) (by lia) (by lia) (by lia) (by lia) m).2
  have nn:=Oc (x:=-x) (y:=-y) (by lia) (by lia) (m+1);rw[Gm] at top nn;rw[TJ L] at top;have low:H<=0->((m+1:Nat):Int)*(H^m*(-1)^m)<=hs (m+1) x y*(-1)^m:=λc=>by
   have z:=(Oz (L:=-H) (H:=-L) (x:=-x) (y:=-y) (by lia) (by lia) (by lia) (by lia) (by lia) m).1;rw[Gm,TJ H] at z;exact z
  by_cases p:m%2=0
  ·rw[V0 p,xI,xI] at top;rw[V0 p,xI] at nn;refine⟨?_,yG top (up hi1)⟩;by_cases c:H<=0
   ·have z:=low c;rw[V0 p,xI,xI] at z;exact yG (up lo2) z
   ·have z:ZU L H m=0:=by
     unfold ZU;rw[if_pos ⟨p,by lia,by lia⟩]
    rw[z];lia
  ·have p':m%2=1:=by lia
   rw[IC p'] at top nn low;have top':((m+1:Nat):Int)*L^m<=hs (m+1) x y:=by grind
   refine⟨yG (up lo1) top',?_⟩;by_cases c:H<=0
   ·have z:=low c
    have z':hs (m+1) x y<=((m+1:Nat):Int)*H^m:=by grind
    exact yG z' (up hi2)
   ·have:0<=H^m:=xA (by lia)
    have:=up (show (0:Int)<=Yg L H m by lia);lia
 have mix:∀ {x y:Int},L<=x->y<=H->x<=0->0<=y->((m+1:Nat):Int)*ZU L H m<=hs (m+1) x y/\hs (m+1) x y<=((m+1:Nat):Int)*Yg L H m:=λ{x y} x1 y2 hx hy=>by
  have z:=zbz (a:=-x) (b:=y) (by lia) hy m;rw[Int.neg_neg] at z;have ax:=MC (show (0:Int)<=-x by lia) (show -x<=-L by lia) m;rw[TJ x,TJ L] at ax;rw[TJ x] at z;have by':=MC hy y2 m
  have pH:0<=H^m:=xA (by lia);by_cases p:m%2=0
  ·obtain⟨z1,z2⟩:=z.1 p;rw[V0 p,xI] at z2;rw[V0 p,xI,xI] at ax;have zl:ZU L H m=0:=by
    unfold ZU;rw[if_pos ⟨p,by lia,by lia⟩]
   rw[zl];refine⟨by lia,?_⟩;have:=big (u:=Yg L H m) (by lia);lia
  ·have p':m%2=1:=by lia
   obtain⟨z1,z2⟩:=z.2 p';rw[IC p'] at z1 ax;have ax':L^m<=x^m:=by grind
   have z1':x^m<=hs (m+1) x y:=by grind
   refine⟨?_,?_⟩
   ·have l0:L^m<=0:=by
     rcases Int.lt_or_eq_of_le (show L<=0 by lia) with c|c
     ·have:=Ow (n:=m) p' c;lia
     ·rw[c,UP hm];exact yE _
    have b:=big (u:=-(L^m)) (by lia)
    have b':((m+1:Nat):Int)*L^m<=L^m:=by grind
    have:=up lo1;lia
   ·have:=big (u:=Yg L H m) (by lia);lia
 rcases xO 0 x with hx|hx
 ·rcases xO 0 y with hy|hy
  ·exact pp hx hy
  ·rw[za5];exact mix y1 x2 hy hx
 ·rcases xO 0 y with hy|hy
  ·exact mix x1 y2 hx hy
  ·exact mm hx hy
theorem G8 {a b p:Int}{n:Nat}(hp:1<=p):ZU (a*p) (b*p) n=ZU a b n*p^n/\Yg (a*p) (b*p) n=Yg a b n*p^n:=by
 have pp:0<=p^n:=xA (by lia)
 have sgn:∀x:Int,(x*p<=0↔x<=0)/\(0<=x*p↔0<=x):=λx=>by
  refine⟨⟨λh=>?_,λh=>?_⟩,⟨λh=>?_,λh=>zY h (by lia)⟩⟩
  ·exact yT (show x*p<=0*p by lia) (by lia)
  ·have:=zH h (show 0<=p by lia);lia
  ·exact yT (show 0*p<=x*p by lia) (by lia)
 unfold ZU Yg;rw[xD,xD,(Vl pp).1,(Vl pp).2];refine⟨?_,rfl⟩;by_cases c:n%2=0/\a<=0/\0<=b
 ·rw[if_pos c,if_pos ⟨c.1,(sgn a).1.mpr c.2.1,(sgn b).2.mpr c.2.2⟩,xB]
 ·rw[if_neg c,if_neg (λz=>c ⟨z.1,(sgn a).1.mp z.2.1,(sgn b).2.mp z.2.2⟩)]
def Yr:Nat->(Nat->Int)->Int
 | 0,_=>0
 | k+1,f=>Yr k f+f k
theorem L8 (a b:Int)(m n s:Nat->Int):∀q,Yr q (λk=>(a*m k+b*n k)*s k)=a*Yr q (λk=>m k*s k)+b*Yr q (λk=>n k*s k)
 | 0=>by simp[Yr]
 | q+1=>by
  show Yr q _+_=a*(Yr q _+_)+b*(Yr q _+_);rw[L8 a b m n s q];grind
theorem FD (a:Int)(m s:Nat->Int):∀q,Yr q (λk=>(a*m k)*s k)=a*Yr q (λk=>m k*s k)
 | 0=>by simp[Yr]
 | q+1=>by
  show Yr q _+_=a*(Yr q _+_);rw[FD a m s q];grind
def Dif (U:Int)(q:Nat)(s:Nat->Int)(f l:Int×Int)(row:Nat->Int×Int):Prop:=
 ∃(d:Int)(n:Nat->Int),1<=d/\(∀k,k<q->(row k).1*d<=n k/\n k<=(row k).2*d)/\(f.1*l.2-l.1*f.2)*U*d=f.2*l.2*Yr q (λk=>n k*s k)
theorem zdD {U:Int}{q:Nat}{s:Nat->Int}{a b c e:Int×Int}{r t:Nat->Int×Int}(h1:Dif U q s a c r)(h2:Dif U q s b e t):
  Dif U q s (a.1*b.2+b.1*a.2,a.2*b.2) (c.1*e.2+e.1*c.2,c.2*e.2) (λk=>((r k).1+(t k).1,(r k).2+(t k).2)):=by
 obtain⟨d1,n1,p1,b1,e1⟩:=h1;obtain⟨d2,n2,p2,b2,e2⟩:=h2;refine⟨d1*d2,λk=>d2*n1 k+d1*n2 k,yF (by lia) (by lia),λk hk=>?_,?_⟩
 ·obtain⟨x1,x2⟩:=b1 k hk;obtain⟨y1,y2⟩:=b2 k hk;have u1:=zH x1 (show 0<=d2 by lia)
  have u2:=zH x2 (show 0<=d2 by lia)
  have v1:=zH y1 (show 0<=d1 by lia)
  have v2:=zH y2 (show 0<=d1 by lia)
  try dsimp only
  constructor<;>grind
 ·rw[L8];generalize Yr q (λk=>n1 k*s k)=S1 at e1;generalize Yr q (λk=>n2 k*s k)=S2 at e2
  try dsimp only
  grind
theorem Ai {U:Int}{q:Nat}{s:Nat->Int}{a b c e:Int×Int}{r t:Nat->Int×Int}(h1:Dif U q s a c r)(h2:Dif U q s b e t):
  Dif U q s (a.1*b.2-b.1*a.2,a.2*b.2) (c.1*e.2-e.1*c.2,c.2*e.2) (λk=>((r k).1-(t k).2,(r k).2-(t k).1)):=by
 obtain⟨d1,n1,p1,b1,e1⟩:=h1;obtain⟨d2,n2,p2,b2,e2⟩:=h2;refine⟨d1*d2,λk=>d2*n1 k + -d1*n2 k,yF (by lia) (by lia),λk hk=>?_,?_⟩
 ·obtain⟨x1,x2⟩:=b1 k hk;obtain⟨y1,y2⟩:=b2 k hk;have u1:=zH x1 (show 0<=d2 by lia)
  have u2:=zH x2 (show 0<=d2 by lia)
  have v1:=zH y1 (show 0<=d1 by lia)
  have v2:=zH y2 (show 0<=d1 by lia)
  try dsimp only
  constructor<;>grind
 ·rw[L8];generalize Yr q (λk=>n1 k*s k)=S1 at e1;generalize Yr q (λk=>n2 k*s k)=S2 at e2
  try dsimp only
  grind
theorem Ii {v r:Int×Int}{g x b n d:Int}(hg:1<=g)(hb:1<=b)(hd:1<=d)(h1:v.1*b<=x*g)(h2:x*g<=v.2*b)(h3:r.1*d<=n)(h4:n<=r.2*d):(Z7 v r g).1*(b*d)<=x*n/\x*n<=(Z7 v r g).2*(b*d):=by
 have pq:0<=b*d:=zY (by lia) (by lia)
 have z:=Gj h1 h2 h3 h4;rw[(M7 pq).1,(M7 pq).2] at z;have e:x*g*n=x*n*g:=by grind
 rw[e] at z;exact Ho hg pq z.1 z.2
theorem Cg {U g:Int}{q:Nat}{s:Nat->Int}{a b c e v w:Int×Int}{r t:Nat->Int×Int}(hg:1<=g)(h1:Dif U q s a c r)(h2:Dif U q s b e t)(pa:1<=a.2)(pe:1<=e.2)
  (va:v.1*a.2<=a.1*g/\a.1*g<=v.2*a.2)(we:w.1*e.2<=e.1*g/\e.1*g<=w.2*e.2):
  Dif U q s (a.1*b.1,a.2*b.2) (c.1*e.1,c.2*e.2) (λk=>((Z7 v (t k) g).1+(Z7 w (r k) g).1,(Z7 v (t k) g).2+(Z7 w (r k) g).2)):=by
 obtain⟨d1,n1,p1,b1,e1⟩:=h1;obtain⟨d2,n2,p2,b2,e2⟩:=h2;have q1:(1:Int)<=d1*d2:=yF (by lia) (by lia)
 have q2:(1:Int)<=a.2*e.2:=yF (by lia) (by lia);refine⟨a.2*e.2*(d1*d2),λk=>(a.1*e.2*d1)*n2 k+(e.1*a.2*d2)*n1 k,yF (by lia) (by lia),λk hk=>?_,?_⟩
 ·obtain⟨x1,x2⟩:=b1 k hk;obtain⟨y1,y2⟩:=b2 k hk;have m1:=Ii hg pa p2 va.1 va.2 y1 y2
  have m2:=Ii hg pe p1 we.1 we.2 x1 x2
  have f1:(0:Int)<=e.2*d1:=zY (by lia) (by lia)
  have f2:(0:Int)<=a.2*d2:=zY (by lia) (by lia)
  have u1:=zH m1.1 f1
  have u2:=zH m1.2 f1
  have v1:=zH m2.1 f2
  have v2:=zH m2.2 f2
  try dsimp only
  generalize Z7 v (t k) g=M1 at u1 u2;generalize Z7 w (r k) g=M2 at v1 v2;clear m1 m2 x1 x2 y1 y2 va we e1 e2;constructor<;>grind
 ·rw[L8];generalize Yr q (λk=>n1 k*s k)=S1 at e1;generalize Yr q (λk=>n2 k*s k)=S2 at e2
  try dsimp only
  clear b1 b2 va we;have k1:=congrArg (λz=>z*(e.1*b.2*a.2*e.2*d2)) e1
  have k2:=congrArg (λz=>z*(a.1*c.2*a.2*e.2*d1)) e2
  try dsimp only at k1 k2
  clear e1 e2;grind
theorem Ay (hg:1<=g)(hN:1<=N)(n2:2<=n)(h1:v.1*N<=x*g)(h2:x*g<=v.2*N)(h3:v.1*N<=y*g)(h4:y*g<=v.2*N):(Yq v n g).1*N^(n.toNat-1)<=hs n.toNat x y*g/\hs n.toNat x y*g<=(Yq v n g).2*N^(n.toNat-1):=by
 obtain⟨m,hm⟩:∃m,n.toNat=m+2:=⟨n.toNat-2,by lia⟩;have en:(n-1).toNat=m+1:=by lia
 have nn:n=((m+1+1:Nat):Int):=by lia
 have z:=zcC h1 h2 h3 h4 (m:=m+1) (by lia);rw[(G8 hN).1,(G8 hN).2,HS] at z;have gp:(0:Int)<g^m:=yL (by lia)
 have np:(0:Int)<=N^(m+1):=xA (by lia)
 have l:=(Vf (ZU v.1 v.2 (m+1)) gp).1
 have u:=(Q8 (Yg v.1 v.2 (m+1)) gp).1;unfold Yq;rw[hm,en,show m+2-1=m+1 by lia,show m+1-1=m by lia];have eg:g^(m+1)=g^m*g:=zU g m;rw[eg] at z;rw[<- nn] at z;have f:(0:Int)<=n*N^(m+1):=zY (by lia) np
 have l2:=zH l f
 have u2:=zH u f;dsimp only;generalize ZU v.1 v.2 (m+1)/g^m=A at l2;generalize -(-Yg v.1 v.2 (m+1)/g^m)=B at u2;generalize ZU v.1 v.2 (m+1)=C at l2 z;generalize Yg v.1 v.2 (m+1)=D at u2 z;generalize g^m=G at *
 generalize N^(m+1)=M at *
 have z1:=z.1
 have z2:=z.2
 show _<=hs (m+1+1) x y*g/\hs (m+1+1) x y*g<=_;generalize hs (m+1+1) x y=P at z1 z2;clear z h1 h2 h3 h4 l u eg;refine⟨yT (a:=G) ?_ gp,yT (a:=G) ?_ gp⟩<;>grind
theorem EV {U g:Int}{q:Nat}{s:Nat->Int}{a c v:Int×Int}{r:Nat->Int×Int}{n:Int}(hg:1<=g)(n2:2<=n)(h1:Dif U q s a c r)(pa:1<=a.2)(pc:1<=c.2)
  (va:v.1*a.2<=a.1*g/\a.1*g<=v.2*a.2)(vc:v.1*c.2<=c.1*g/\c.1*g<=v.2*c.2):
  Dif U q s (a.1^n.toNat,a.2^n.toNat) (c.1^n.toNat,c.2^n.toNat) (λk=>Z7 (Yq v n g) (r k) g):=by
 obtain⟨d1,n1,p1,b1,e1⟩:=h1;have hN:(1:Int)<=a.2*c.2:=yF (by lia) (by lia)
 have w1:=zH va.1 (show 0<=c.2 by lia)
 have w2:=zH va.2 (show 0<=c.2 by lia)
 have w3:=zH vc.1 (show 0<=a.2 by lia)
 have w4:=zH vc.2 (show 0<=a.2 by lia)
 have fi:=Ay (v:=v) (g:=g) (x:=a.1*c.2) (y:=c.1*a.2) (N:=a.2*c.2) (n:=n) hg hN n2 (by grind) (by grind) (by grind) (by grind)
 have np:(1:Int)<=(a.2*c.2)^(n.toNat-1):=yL (by lia);refine⟨(a.2*c.2)^(n.toNat-1)*d1,λk=>hs n.toNat (a.1*c.2) (c.1*a.2)*n1 k,yF (by lia) (by lia),λk hk=>?_,?_⟩
 ·obtain⟨x1,x2⟩:=b1 k hk;exact Ii hg np p1 fi.1 fi.2 x1 x2
 ·rw[FD];generalize Yr q (λk=>n1 k*s k)=S1 at e1;have hm:=Q6 (a.1*c.2) (c.1*a.2) n.toNat;rw[xD,xD] at hm;obtain⟨m,hm'⟩:∃m,n.toNat=m+1:=⟨n.toNat-1,by lia⟩;have eN:a.2^n.toNat*c.2^n.toNat=(a.2*c.2)^(n.toNat-1)*(a.2*c.2):=by
   rw[<- xD,hm',Nat.add_sub_cancel,zU]
  try dsimp only
  rw[eN];generalize (a.2*c.2)^(n.toNat-1)=M at *
  generalize hs n.toNat (a.1*c.2) (c.1*a.2)=P at *
  generalize a.1^n.toNat*c.2^n.toNat=u1 at *
  generalize c.1^n.toNat*a.2^n.toNat=u2 at *
  rw[<- hm];have k1:=congrArg (λz=>z*(P*M)) e1
  try dsimp only at k1
  clear b1 w1 w2 w3 w4 fi va vc eN hm e1;grind
theorem F5 (s:Nat->Int):∀q,Yr q (λk=>0*s k)=0
 | 0=>rfl
 | q+1=>by
  show Yr q _+0*s q=0;rw[F5 s q];lia
theorem Ex (a:Int)(s:Nat->Int)(j:Int):∀q:Nat,Yr q (λ(l:Nat)=>(if (l:Int)=j then a else 0)*s l)=if 0<=j/\j<(q:Int) then a*s j.toNat else 0
 | 0=>by
  rw[if_neg (λz=>by have:=z.1;have:=z.2;lia)];rfl
 | q+1=>by
  show Yr q _+(if (q:Int)=j then a else 0)*s q=_;rw[Ex a s j q];by_cases e:(q:Int)=j
  ·subst e;rw[if_pos rfl,if_neg (λz=>by have:=z.2;lia),if_pos ⟨by lia,by lia⟩,zI];lia
  ·rw[if_neg e,xB,Int.add_zero];by_cases c:0<=j/\j<(q:Int)
   ·rw[if_pos c,if_pos ⟨c.1,by have:=c.2;lia⟩]
   ·rw[if_neg c,if_neg (λz=>c ⟨z.1,by have:=z.2;lia⟩)]
theorem Ba {U:Int}{q:Nat}{s:Nat->Int}(f:Int×Int):Dif U q s f f (λ_=>(0,0)):=by
 refine⟨1,λ_=>0,by decide,λk hk=>by dsimp only;lia,?_⟩;rw[F5];grind
def In (p:Int×Int)(x:Rat):Prop:=(p.1:Rat)<=x/\x<=(p.2:Rat)
theorem ON {a b g:Rat}(hg:0<g)(h:g*a<=g*b):a<=b:=by
 by_cases c:a<=b
 ·exact c
 ·have d:b<a:=Rat.not_le.mp c
  have z:=Rat.mul_pos hg (show 0<a-b by grind);grind
theorem WG {a b:Int}(h:a<=b):(a:Rat)<=(b:Rat):=Rat.intCast_le_intCast.mpr h
theorem In.add {p q:Int×Int}{x y:Rat}(h1:In p x)(h2:In q y):In (TU p q) (x+y):=by
 obtain⟨a,b⟩:=h1;obtain⟨c,d⟩:=h2;refine⟨?_,?_⟩
 ·show ((p.1+q.1:Int):Rat)<=_;rw[Rat.intCast_add];grind
 ·show _<=((p.2+q.2:Int):Rat);rw[Rat.intCast_add];grind
theorem In.take {p q:Int×Int}{x y:Rat}(h1:In p x)(h2:In q y):In (Xg p q) (x-y):=by
 obtain⟨a,b⟩:=h1;obtain⟨c,d⟩:=h2;refine⟨?_,?_⟩
 ·show ((p.1-q.2:Int):Rat)<=_;rw[Rat.intCast_sub];grind
 ·show _<=((p.2-q.1:Int):Rat);rw[Rat.intCast_sub];grind
theorem CV {A B C D x y:Rat}(h1:A<=x)(h2:x<=B)(h3:C<=y)(h4:y<=D):(A*C<=x*y\/A*D<=x*y\/B*C<=x*y\/B*D<=x*y)/\(x*y<=A*C\/x*y<=A*D\/x*y<=B*C\/x*y<=B*D):=by
 have m:∀ {u v:Rat},0<=u->0<=v->0<=u*v:=λa b=>Rat.mul_nonneg a b
 rcases Rat.le_total (a:=0) (b:=y) with hy|hy
 ·have a1:=m (show 0<=x-A by grind) hy
  have a2:=m (show 0<=B-x by grind) hy;refine⟨?_,?_⟩
  ·rcases Rat.le_total (a:=0) (b:=A) with hA|hA
   ·have:=m hA (show 0<=y-C by grind);exact .inl (by grind)
   ·have:=m (show 0<=-A by grind) (show 0<=D-y by grind);exact .inr (.inl (by grind))
  ·rcases Rat.le_total (a:=0) (b:=B) with hB|hB
   ·have:=m hB (show 0<=D-y by grind);exact .inr (.inr (.inr (by grind)))
   ·have:=m (show 0<=-B by grind) (show 0<=y-C by grind);exact .inr (.inr (.inl (by grind)))
 ·have a1:=m (show 0<=x-A by grind) (show 0<=-y by grind)
  have a2:=m (show 0<=B-x by grind) (show 0<=-y by grind);refine⟨?_,?_⟩
  ·rcases Rat.le_total (a:=0) (b:=B) with hB|hB
   ·have:=m hB (show 0<=y-C by grind);exact .inr (.inr (.inl (by grind)))
   ·have:=m (show 0<=-B by grind) (show 0<=D-y by grind);exact .inr (.inr (.inr (by grind)))
  ·rcases Rat.le_total (a:=0) (b:=A) with hA|hA
   ·have:=m hA (show 0<=D-y by grind);exact .inr (.inl (by grind))
   ·have:=m (show 0<=-A by grind) (show 0<=y-C by grind);exact .inl (by grind)
theorem In.mul {p q:Int×Int}{x y:Rat}{g:Int}(hg:1<=g)(h1:In p x)(h2:In q y):In (Z7 p q g) (x*y/(g:Rat)):=by
 have gp:(0:Rat)<(g:Rat):=Rat.intCast_pos.mpr (by lia)
 have ge:(g:Rat)*(x*y/(g:Rat))=x*y:=by grind
 have c:=CV h1.1 h1.2 h2.1 h2.2
 have lo:((mn4 p.1 p.2 q.1 q.2:Int):Rat)<=x*y:=by
  have t:∀u:Int,mn4 p.1 p.2 q.1 q.2<=u->((mn4 p.1 p.2 q.1 q.2:Int):Rat)<=(u:Rat):=λu h=>WG h
  have e1:=t (p.1*q.1) (by unfold mn4;lia)
  have e2:=t (p.1*q.2) (by unfold mn4;lia)
  have e3:=t (p.2*q.1) (by unfold mn4;lia)
  have e4:=t (p.2*q.2) (by unfold mn4;lia);rw[Rat.intCast_mul] at e1 e2 e3 e4;rcases c.1 with z|z|z|z<;>grind
 have hi:x*y<=((mx4 p.1 p.2 q.1 q.2:Int):Rat):=by
  have t:∀u:Int,u<=mx4 p.1 p.2 q.1 q.2->(u:Rat)<=((mx4 p.1 p.2 q.1 q.2:Int):Rat):=λu h=>WG h
  have e1:=t (p.1*q.1) (by unfold mx4;lia)
  have e2:=t (p.1*q.2) (by unfold mx4;lia)
  have e3:=t (p.2*q.1) (by unfold mx4;lia)
  have e4:=t (p.2*q.2) (by unfold mx4;lia);rw[Rat.intCast_mul] at e1 e2 e3 e4;rcases c.2 with z|z|z|z<;>grind
 refine⟨ON gp ?_,ON gp ?_⟩
 ·have z:=WG (Vf (mn4 p.1 p.2 q.1 q.2) (show 0<g by lia)).1;rw[Rat.intCast_mul] at z;rw[ge];show (g:Rat)*((mn4 p.1 p.2 q.1 q.2/g:Int):Rat)<=_;grind
 ·have z:=WG (Q8 (mx4 p.1 p.2 q.1 q.2) (show 0<g by lia)).1;rw[Rat.intCast_mul] at z;rw[ge];show _<=(g:Rat)*((-(-mx4 p.1 p.2 q.1 q.2/g):Int):Rat);grind
def ZA:Nat->(Nat->Rat)->Rat
 | 0,_=>0
 | k+1,f=>ZA k f+f k
theorem In.sum {g:Int}(hg:1<=g){us vs:LI}{a b:Nat->Rat}(h1:∀(j:Nat)(p:Int×Int),us[j]?=some p->In p (a j))(h2:∀(j:Nat)(p:Int×Int),vs[j]?=some p->In p (b j)):∀k:Nat,k<=us.length->k<=vs.length->In (sumP g (us.take k) (vs.take k)) (ZA k λj=>a j*b j/(g:Rat))
 | 0,_,_=>⟨Rat.le_refl,Rat.le_refl⟩
 | k+1,l1,l2=>by
  have hu:=zB (show k<us.length by lia)
  have hv:=zB (show k<vs.length by lia);rw[LS g us vs k hu hv];exact(In.sum hg h1 h2 k (by lia) (by lia)).add ((h1 k _ hu).mul hg (h2 k _ hv))
theorem In.sumP {g:Int}(hg:1<=g){us vs:LI}{a b:Nat->Rat}{n:Nat}(l1:us.length=n)(l2:vs.length=n)(h1:∀(j:Nat)(p:Int×Int),us[j]?=some p->In p (a j))(h2:∀(j:Nat)(p:Int×Int),vs[j]?=some p->In p (b j)):In (sumP g us vs) (ZA n λj=>a j*b j/(g:Rat)):=by
 have z:=In.sum hg h1 h2 n (by lia) (by lia);rw[yZ (by lia),yZ (by lia)] at z;exact z
theorem Wt {f h:Nat->Rat}:∀n,(∀k,k<n->f k=h k)->ZA n f=ZA n h
 | 0,_=>rfl
 | n+1,e=>by
  show ZA n f+f n=ZA n h+h n;rw[Wt n λk hk=>e k (by lia),e n (by lia)]
theorem Vz (a:Rat)(f:Nat->Rat):∀n,ZA n (λk=>a*f k)=a*ZA n f
 | 0=>by show (0:Rat)=a*0;grind
 | n+1=>by
  show ZA n _+_=a*(ZA n f+f n);rw[Vz a f n];grind
theorem JX (f h:Nat->Rat):∀n,ZA n (λk=>f k+h k)=ZA n f+ZA n h
 | 0=>by show (0:Rat)=0+0;grind
 | n+1=>by
  show ZA n _+_=(ZA n f+f n)+(ZA n h+h n);rw[JX f h n];grind
theorem Fe (f:Nat->Nat->Rat)(m:Nat):∀n,ZA n (λk=>ZA m λj=>f k j)=ZA m λj=>ZA n λk=>f k j
 | 0=>by
  show (0:Rat)=ZA m λ_=>0
  have z:∀m,ZA m (λ_=>(0:Rat))=0:=λm=>by
   induction m with
   | zero=>rfl
   | succ m ih=>show ZA m _+0=0;rw[ih];grind
  rw[z]
 | n+1=>by
  show ZA n _+ZA m (λj=>f n j)=ZA m λj=>ZA n (λk=>f k j)+f n j
  rw[Fe f m n,<- JX]
theorem F0 (k:Nat)(w:Nat->Rat):∀n,ZA n (λl=>(if k=l then 1 else 0)*w l)=if k<n then w k else 0
 | 0=>rfl
 | n+1=>by
  show ZA n _+_=_;rw[F0 k w n];by_cases c:k=n
  ·subst c;rw[if_neg (by lia),if_pos (by lia)];simp;grind
  ·by_cases d:k<n
   ·rw[if_pos d,if_pos (by lia)];simp[c];grind
   ·rw[if_neg d,if_neg (by lia)];simp[c];grind
theorem zaT {g m:Rat}(hg:g≠0){q e:Nat}{k:Nat}(hk:k<q)(T y w:Nat->Rat)(s:Nat->Nat->Rat)(bD:∀j,j<e->y j*g=-(ZA q λl=>s j l*w l)):
  m-(ZA e λj=>T j*y j/g)+(ZA q λl=>((if k=l then g else 0)-ZA e λj=>T j*s j l/g)*w l/g)=m+w k:=by
 have h1:(ZA e λj=>T j*y j/g)=ZA e λj=>-(ZA q λl=>T j*s j l*w l/(g*g)):=by
  refine Wt e λj hj=>?_
  have r:=bD j hj
  have c:(ZA q λl=>T j*s j l*w l/(g*g))=T j/(g*g)*ZA q λl=>s j l*w l:=by
   rw[<- Vz];exact Wt q λl _=>by grind
  rw[c];generalize ZA q (λl=>s j l*w l)=A at r;have e1:y j=-A/g:=by grind
  rw[e1];grind
 have h2:(ZA q λl=>((if k=l then g else 0)-ZA e λj=>T j*s j l/g)*w l/g)=w k+ZA q λl=>-(ZA e λj=>T j*s j l*w l/(g*g)):=by
  have d:=F0 k w q;rw[if_pos hk] at d;rw[<- d,<- JX];refine Wt q λl _=>?_
  have c:(ZA e λj=>T j*s j l*w l/(g*g))=w l/(g*g)*g*ZA e λj=>T j*s j l/g:=by
   rw[<- Vz];exact Wt e λj _=>by grind
  rw[c];by_cases x:k=l
  ·rw[if_pos x,if_pos x];grind
  ·rw[if_neg x,if_neg x];grind
 have n1:∀(n:Nat)(f:Nat->Rat),(ZA n λj=>-(f j))=-(ZA n f):=λn f=>by
  have z:=Vz (-1) f n
  have z2:(ZA n λj=>-(f j))=ZA n λj=>-1*f j:=Wt n λj _=>by grind
  rw[z2,z];grind
 rw[h1,h2,n1,n1,Fe (λj l=>T j*s j l*w l/(g*g)) q e];grind
theorem zcl {a b:Int}{x:Int}(hb:1<=b)(h:x*b<=a):(x:Rat)<=(a:Rat)/(b:Rat):=by
 have bp:(0:Rat)<(b:Rat):=Rat.intCast_pos.mpr (by lia);refine ON bp ?_;have z:=WG h;rw[Rat.intCast_mul] at z;have e:(b:Rat)*((a:Rat)/(b:Rat))=(a:Rat):=by grind
 rw[e,Rat.mul_comm];exact z
theorem As {a b:Int}{x:Int}(hb:1<=b)(h:a<=x*b):(a:Rat)/(b:Rat)<=(x:Rat):=by
 have bp:(0:Rat)<(b:Rat):=Rat.intCast_pos.mpr (by lia);refine ON bp ?_;have z:=WG h;rw[Rat.intCast_mul] at z;have e:(b:Rat)*((a:Rat)/(b:Rat))=(a:Rat):=by grind
 rw[e,Rat.mul_comm];exact z
theorem GP (f:Nat->Int):∀n,((Yr n f:Int):Rat)=ZA n λk=>(f k:Rat)
 | 0=>rfl
 | n+1=>by
  show ((Yr n f+f n:Int):Rat)=ZA n (λk=>(f k:Rat))+(f n:Rat);rw[Rat.intCast_add,GP f n]
def rab (x:Rat):Rat:=if 0<=x then x else -x
theorem Kf (x:Rat):0<=rab x:=by unfold rab;split<;>grind
theorem Sx (x:Rat):x<=rab x/\-x<=rab x:=by unfold rab;split<;>grind
theorem Gn (h1:x<=y)(h2:-x<=y):rab x<=y:=by unfold rab;split<;>grind
theorem zd4 (x y:Rat):rab (x*y)<=rab x*rab y:=by
 have a:=Sx x
 have b:=Sx y
 have m1:=Rat.mul_nonneg (show 0<=rab x-x by grind) (show 0<=rab y-y by grind)
 have m2:=Rat.mul_nonneg (show 0<=rab x+x by grind) (show 0<=rab y+y by grind)
 have m3:=Rat.mul_nonneg (show 0<=rab x-x by grind) (show 0<=rab y+y by grind)
 have m4:=Rat.mul_nonneg (show 0<=rab x+x by grind) (show 0<=rab y-y by grind);exact Gn (by grind) (by grind)
theorem Ms {f h:Nat->Rat}:∀n,(∀k,k<n->f k<=h k)->ZA n f<=ZA n h
 | 0,_=>Rat.le_refl
 | n+1,e=>by
  show ZA n f+f n<=ZA n h+h n
  have a:=Ms n λk hk=>e k (by lia)
  have b:=e n (by lia);grind
theorem EB (f:Nat->Rat):∀n,rab (ZA n f)<=ZA n λk=>rab (f k)
 | 0=>by show rab 0<=0;unfold rab;grind
 | n+1=>by
  show rab (ZA n f+f n)<=ZA n (λk=>rab (f k))+rab (f n)
  have a:=EB f n
  have b:=Sx (ZA n f)
  have c:=Sx (f n);exact Gn (by grind) (by grind)
theorem rmax (r w:Nat->Rat):∀q,(∀k,k<q->0<r k)->0<q->∃k,k<q/\∃c,0<=c/\rab (w k)=c*r k/\∀l,l<q->rab (w l)<=c*r l
 | 0,_,h=>by lia
 | q+1,hr,_=>by
  have own:rab (w q)=rab (w q)/r q*r q:=by have:=hr q (by lia);grind
  have nn:0<=rab (w q)/r q:=by
   have:=hr q (by lia)
   have e:rab (w q)/r q=rab (w q)*(r q)⁻¹:=by grind
   rw[e];exact Rat.mul_nonneg (Kf _) (Rat.le_of_lt (Rat.inv_pos.mpr this))
  by_cases c0:q=0
  ·subst c0;exact⟨0,by lia,_,nn,own,λl hl=>by
    obtain rfl:l=0:=by lia
    rw[<- own];exact Rat.le_refl⟩
  ·obtain⟨k,hk,c,hc,e,all⟩:=rmax r w q (λk hk=>hr k (by lia)) (by lia);by_cases d:rab (w q)<=c*r q
   ·exact⟨k,by lia,c,hc,e,λl hl=>by
     by_cases x:l=q
     ·rw[x];exact d
     ·exact all l (by lia)⟩
   ·have rq:=hr q (by lia)
    have cl:c<=rab (w q)/r q:=by
     by_cases z:c<=rab (w q)/r q
     ·exact z
     ·have m:=Rat.mul_nonneg (show 0<=c-rab (w q)/r q by grind) (show 0<=r q by grind);generalize rab (w q)/r q=u at *
      grind
    refine⟨q,by lia,_,nn,own,λl hl=>?_⟩;by_cases x:l=q
    ·rw[x,<- own];exact Rat.le_refl
    ·have a:=all l (by lia)
     have m:=Rat.mul_nonneg (show 0<=rab (w q)/r q-c by grind) (show 0<=r l by have:=hr l (by lia);grind);generalize rab (w q)/r q=u at *
     grind
theorem Be {q:Nat}{g:Rat}(hg:0<g)(r w:Nat->Rat)(A:Nat->Nat->Rat)(hr:∀k,k<q->0<r k)(hA:∀k,k<q->ZA q (λl=>rab (A k l)*r l/g)<r k)(hw:∀k,k<q->g*w k=ZA q λl=>A k l*w l):∀k,k<q->w k=0:=by
 intro k0 hk0;obtain⟨k,hk,c,hc,e,all⟩:=rmax r w q hr (by lia);have main:c=0:=by
  by_cases cz:c=0
  ·exact cz
  ·have cp:0<c:=by grind
   have h1:=hw k hk
   have h2:=EB (λl=>A k l*w l) q;rw[<- h1] at h2;have h3:ZA q (λl=>rab (A k l*w l))<=ZA q λl=>c*g*(rab (A k l)*r l/g):=Ms q λl hl=>by
    have a:=zd4 (A k l) (w l)
    have b:=Rat.mul_nonneg (Kf (A k l)) (show 0<=c*r l-rab (w l) by have:=all l hl;grind)
    have d:c*g*(rab (A k l)*r l/g)=rab (A k l)*(c*r l):=by grind
    rw[d];grind
   rw[Vz] at h3;have h4:=Rat.mul_pos (Rat.mul_pos cp hg) (show 0<r k-ZA q (λl=>rab (A k l)*r l/g) by have:=hA k hk;grind)
   have h5:rab (g*w k)=g*rab (w k):=by
    have:=Rat.mul_nonneg (Rat.le_of_lt hg) (Kf (w k));unfold rab at *
    split<;>split<;>grind
   rw[h5,e] at h2;generalize ZA q (λl=>rab (A k l)*r l/g)=u at *
   grind
 have a:=all k0 hk0
 have b:=Sx (w k0);rw[main] at a;grind
theorem radd {a b c d:Rat}(h1:a<=c)(h2:b<=d):a+b<=c+d:=by grind
theorem rlt {a b c:Rat}(h1:a<=b)(h2:b<c):a<c:=by grind
theorem rback {g x:Rat}(hg:0<g):x=g*(x/g):=by grind
theorem Dj {p q:Int×Int}{x:Rat}{g:Int}(hg:1<=g)(h1:In p x)(hq:q.1<=q.2):rab x*((q.2:Rat)-(q.1:Rat))/(g:Rat)<=((Z7 p q g).2:Rat)-((Z7 p q g).1:Rat):=by
 have gp:(0:Rat)<(g:Rat):=Rat.intCast_pos.mpr (by lia)
 have a:=In.mul hg h1 (show In q (q.1:Rat) from ⟨Rat.le_refl,WG hq⟩)
 have b:=In.mul hg h1 (show In q (q.2:Rat) from ⟨WG hq,Rat.le_refl⟩)
 have e:x*(q.2:Rat)/(g:Rat)-x*(q.1:Rat)/(g:Rat)=x*((q.2:Rat)-(q.1:Rat))/(g:Rat):=by grind
 obtain⟨a1,a2⟩:=a;obtain⟨b1,b2⟩:=b;unfold rab;split
 ·grind
 ·have e2:-x*((q.2:Rat)-(q.1:Rat))/(g:Rat)=-(x*((q.2:Rat)-(q.1:Rat))/(g:Rat)):=by grind
  rw[e2];grind
theorem Es (p q:Int×Int):((TU p q).2:Rat)-((TU p q).1:Rat)=((p.2:Rat)-(p.1:Rat))+((q.2:Rat)-(q.1:Rat)):=by
 show ((p.2+q.2:Int):Rat)-((p.1+q.1:Int):Rat)=_;rw[Rat.intCast_add,Rat.intCast_add];grind
theorem G0 (p q:Int×Int):((Xg p q).2:Rat)-((Xg p q).1:Rat)=((p.2:Rat)-(p.1:Rat))+((q.2:Rat)-(q.1:Rat)):=by
 show ((p.2-q.1:Int):Rat)-((p.1-q.2:Int):Rat)=_;rw[Rat.intCast_sub,Rat.intCast_sub];grind
theorem Kw {g:Int}(hg:1<=g){us vs:LI}{a:Nat->Rat}(h1:∀(j:Nat)(p:Int×Int),us[j]?=some p->In p (a j))(h2:∀p∈vs,p.1<=p.2):∀k:Nat,k<=us.length->k<=vs.length->ZA k (λj=>rab (a j)*(((gt vs (j:Int)).2:Rat)-((gt vs (j:Int)).1:Rat))/(g:Rat))<=((sumP g (us.take k) (vs.take k)).2:Rat)-((sumP g (us.take k) (vs.take k)).1:Rat)
 | 0,_,_=>by
  show (0:Rat)<=((0:Int):Rat)-((0:Int):Rat);grind
 | k+1,l1,l2=>by
  have hu:=zB (show k<us.length by lia)
  have hv:=zB (show k<vs.length by lia);rw[LS g us vs k hu hv,Es];have ih:=Kw hg h1 h2 k (by lia) (by lia)
  have m:=Dj hg (h1 k _ hu) (h2 _ (zJ hv))
  have e:gt vs (k:Int)=vs[k]:=Xj hv
  show ZA k _+rab (a k)*(((gt vs (k:Int)).2:Rat)-((gt vs (k:Int)).1:Rat))/(g:Rat)<=_;rw[e];exact radd ih m
theorem Lr:∀n,ZA n (λ_=>(0:Rat))=0
 | 0=>rfl
 | n+1=>by
  show ZA n _+0=0;rw[Lr n];grind
theorem GU {q e:Nat}{g:Int}(hg:1<=g){bs aC:LI}{R:List LI}{M:List (List Int)}(lb:bs.length=q)(lt:aC.length=e)(lR:R.length=e)(lM:M.length=q)(lE:∀es∈M,es.length=e)(ob:∀p∈bs,p.1<=p.2)(ot:∀p∈aC,p.1<=p.2)
  (dp:∀(k:Nat)(es:List Int),M[k]?=some es->(gt bs (k:Int)).1<(YG g bs aC R k es).1/\(YG g bs aC R k es).2<(gt bs (k:Int)).2)(s:Nat->Nat->Rat)(sIn:∀c:Nat,c<q->∀(j:Nat)(p:Int×Int),(R.map λr=>r.getD c (0,0))[j]?=some p->In p (s j c))(w:Nat->Rat)(zero:∀j,j<e->ZA q (λl=>s j l*w l)=0):∀k,k<q->w k=0:=by
 have gp:(0:Rat)<(g:Rat):=Rat.intCast_pos.mpr (by lia)
 have rn:∀l,l<q->(0:Rat)<=((gt bs (l:Int)).2:Rat)-((gt bs (l:Int)).1:Rat):=λl hl=>by
  have hb:=zB (show l<bs.length by lia)
  have z:=WG (ob _ (zJ hb));rw[Xj hb];grind
 have gi:(0:Rat)<=(g:Rat)⁻¹:=Rat.le_of_lt (Rat.inv_pos.mpr gp)
 have nn:∀ {x y:Rat},0<=y->0<=rab x*y/(g:Rat):=λ{x y} hy=>by
  have z:=Rat.mul_nonneg (Rat.mul_nonneg (Kf x) hy) gi
  have e:rab x*y/(g:Rat)=rab x*y*(g:Rat)⁻¹:=by grind
  rw[e];exact z
 have fact:∀(k:Nat)(es:List Int),M[k]?=some es->ZA q (λl=>rab ((if k=l then (g:Rat) else 0)-ZA e λj=>((es.getD j 0:Int):Rat)*s j l/(g:Rat))*(((gt bs (l:Int)).2:Rat)-((gt bs (l:Int)).1:Rat))/(g:Rat))<=((YG g bs aC R k es).2:Rat)-((YG g bs aC R k es).1:Rat):=λk es hm=>by
  have le:=lE _ (zJ hm)
  have tIn:∀(j:Nat)(p:Int×Int),(es.map λe=>(e,e))[j]?=some p->In p ((es.getD j 0:Int):Rat):=λj p hj=>by
   rw[zF] at hj;obtain⟨x,hx,rfl⟩:=zS.mp hj;have e:es.getD j 0=x:=by rw[zK,hx];rfl
   rw[e];exact⟨Rat.le_refl,Rat.le_refl⟩
  have lIn:∀(c:Nat)(p:Int×Int),((List.range bs.length).map λc=>Xm g k c (es.map λe=>(e,e)) R)[c]?=some p->In p ((if k=c then (g:Rat) else 0)-ZA e λj=>((es.getD j 0:Int):Rat)*s j c/(g:Rat)):=λc p hc=>by
   have hl:=(zD.mp hc).1;rw[zA,xW] at hl;rw[zF,show (List.range bs.length)[c]?=some c from xT hl] at hc;cases hc;unfold Xm;refine In.take ?_ (In.sumP hg (n:=e) (by rw[zA,le]) (by rw[zA,lR]) tIn (sIn c (by lia)));by_cases x:k=c
   ·rw[if_pos x,if_pos x];exact⟨Rat.le_refl,Rat.le_refl⟩
   ·rw[if_neg x,if_neg x];exact⟨Rat.le_refl,Rat.le_refl⟩
  have ow:∀p∈bs.map (λp=>Xg p (Z5 p)),p.1<=p.2:=λp hp=>by
   obtain⟨x,hx,rfl⟩:=zN.mp hp;have z:=ob x hx
   show x.1-mid x<=x.2-mid x;lia
  have w1:=Kw hg tIn ot e (by rw[zA,le];exact zC _) (by rw[lt];exact zC _);rw[yZ (by rw[zA,le];exact zC _),yZ (by rw[lt];exact zC _)] at w1;have w2:=Kw hg lIn ow q (by rw[zA,xW,lb];exact zC _) (by rw[zA,lb];exact zC _);rw[yZ (by rw[zA,xW,lb];exact zC _),yZ (by rw[zA,lb];exact zC _)] at w2;have n1:(0:Rat)<=ZA e (λj=>rab ((es.getD j 0:Int):Rat)*(((gt aC (j:Int)).2:Rat)-((gt aC (j:Int)).1:Rat))/(g:Rat)):=by
   have z:=Ms (f:=λ_=>(0:Rat)) (h:=λj=>rab ((es.getD j 0:Int):Rat)*(((gt aC (j:Int)).2:Rat)-((gt aC (j:Int)).1:Rat))/(g:Rat)) e (λj hj=>by
    have hb:=zB (show j<aC.length by lia)
    have z:=WG (ot _ (zJ hb));refine nn ?_;rw[Xj hb];grind)
   rw[Lr] at z;exact z
  have ew:ZA q (λl=>rab ((if k=l then (g:Rat) else 0)-ZA e λj=>((es.getD j 0:Int):Rat)*s j l/(g:Rat))*(((gt bs (l:Int)).2:Rat)-((gt bs (l:Int)).1:Rat))/(g:Rat))=ZA q (λl=>rab ((if k=l then (g:Rat) else 0)-ZA e λj=>((es.getD j 0:Int):Rat)*s j l/(g:Rat))*(((gt (bs.map λp=>Xg p (Z5 p)) (l:Int)).2:Rat)-((gt (bs.map λp=>Xg p (Z5 p)) (l:Int)).1:Rat))/(g:Rat)):=Wt q λl hl=>by
   have hb:=zB (show l<bs.length by lia)
   have e1:gt (bs.map λp=>Xg p (Z5 p)) (l:Int)=Xg bs[l] (Z5 bs[l]):=Xj (by rw[zF,hb];rfl);rw[e1,G0,Xj hb];have e2:(((Z5 bs[l]).2:Int):Rat)-(((Z5 bs[l]).1:Int):Rat)=0:=by
    show ((mid bs[l]:Int):Rat)-((mid bs[l]:Int):Rat)=0;grind
   rw[e2];grind
  rw[ew];unfold YG;rw[Es,G0];have e3:(((Z5 (gt bs (k:Int))).2:Int):Rat)-(((Z5 (gt bs (k:Int))).1:Int):Rat)=0:=by
   show ((mid (gt bs (k:Int)):Int):Rat)-((mid (gt bs (k:Int)):Int):Rat)=0;grind
  rw[e3];have n2:=Rat.le_trans n1 w1;generalize ZA q _=x at w2 ⊢;generalize ((sumP g (es.map λe=>(e,e)) aC).2:Rat)-((sumP g (es.map λe=>(e,e)) aC).1:Rat)=y at n2 ⊢;generalize ((sumP g ((List.range bs.length).map λc=>Xm g k c (es.map λe=>(e,e)) R) (bs.map λp=>Xg p (Z5 p))).2:Rat)-((sumP g ((List.range bs.length).map λc=>Xm g k c (es.map λe=>(e,e)) R) (bs.map λp=>Xg p (Z5 p))).1:Rat)=z at w2 ⊢;grind
 have less:∀(k:Nat)(es:List Int),M[k]?=some es->((YG g bs aC R k es).2:Rat)-((YG g bs aC R k es).1:Rat)<((gt bs (k:Int)).2:Rat)-((gt bs (k:Int)).1:Rat):=λk es hm=>by
  obtain⟨d1,d2⟩:=dp k es hm;have c1:=Rat.intCast_lt_intCast.mpr d1
  have c2:=Rat.intCast_lt_intCast.mpr d2;grind
 refine Be gp (λl=>((gt bs (l:Int)).2:Rat)-((gt bs (l:Int)).1:Rat)) w (λk l=>(if k=l then (g:Rat) else 0)-ZA e λj=>(((M.getD k []).getD j 0:Int):Rat)*s j l/(g:Rat)) (λk hk=>?_) (λk hk=>?_) (λk hk=>?_)
 ·have hm:=zB (show k<M.length by lia)
  have a:=fact k _ hm
  have b:=less k _ hm
  have n3:=Ms (f:=λ_=>(0:Rat)) (h:=λl=>rab ((if k=l then (g:Rat) else 0)-ZA e λj=>((M[k].getD j 0:Int):Rat)*s j l/(g:Rat))*(((gt bs (l:Int)).2:Rat)-((gt bs (l:Int)).1:Rat))/(g:Rat)) q (λl hl=>nn (rn l hl));rw[Lr] at n3;have c:=Rat.le_trans n3 a
  show (0:Rat)<((gt bs (k:Int)).2:Rat)-((gt bs (k:Int)).1:Rat);generalize ((YG g bs aC R k M[k]).2:Rat)-((YG g bs aC R k M[k]).1:Rat)=y at b c;generalize ((gt bs (k:Int)).2:Rat)-((gt bs (k:Int)).1:Rat)=x at b ⊢;grind
 ·have hm:=zB (show k<M.length by lia)
  have em:M.getD k []=M[k]:=by rw[zK,hm];rfl
  have a:=fact k _ hm
  have b:=less k _ hm;simp only[em];exact rlt a b
 ·have z:=zaT (g:=(g:Rat)) (m:=0) (by grind) hk (λj=>(((M.getD k []).getD j 0:Int):Rat)) (λ_=>0) w s (e:=e) (λj hj=>by rw[zero j hj];grind)
  have e0:(ZA e λj=>(((M.getD k []).getD j 0:Int):Rat)*0/(g:Rat))=0:=by
   have z2:(ZA e λj=>(((M.getD k []).getD j 0:Int):Rat)*0/(g:Rat))=ZA e λ_=>(0:Rat):=Wt e λj _=>by grind
   rw[z2,Lr]
  rw[e0] at z;have e1:(ZA q λl=>((if k=l then (g:Rat) else 0)-ZA e λj=>(((M.getD k []).getD j 0:Int):Rat)*s j l/(g:Rat))*w l)=(g:Rat)*ZA q λl=>((if k=l then (g:Rat) else 0)-ZA e λj=>(((M.getD k []).getD j 0:Int):Rat)*s j l/(g:Rat))*w l/(g:Rat):=by
   rw[<- Vz];exact Wt q λl _=>rback gp
  show _=ZA q λl=>((if k=l then (g:Rat) else 0)-ZA e λj=>(((M.getD k []).getD j 0:Int):Rat)*s j l/(g:Rat))*w l
  rw[e1];generalize (ZA q λl=>((if k=l then (g:Rat) else 0)-ZA e λj=>(((M.getD k []).getD j 0:Int):Rat)*s j l/(g:Rat))*w l/(g:Rat))=x at z ⊢;have z2:x=w k:=by
   clear fact less e0 e1;grind
  rw[z2]
theorem J4 {G:Int->Prop}:∀xs:List D,(∀(k:Nat)(d:D),xs[k]?=some d->∃t,d=.int t/\G t)->∃ts:List Int,xs=ts.map D.int/\∀t∈ts,G t
 | [],_=>⟨[],rfl,λp h=>by cases h⟩
 | x::xs,h=>by
  obtain⟨p,rfl,hp⟩:=h 0 x rfl;obtain⟨vs,rfl,hv⟩:=J4 xs λk d hd=>h (k+1) d hd
  exact⟨p::vs,rfl,λq hq=>by
   rcases zO.mp hq with e|e
   ·subst e;exact hp
   ·exact hv q e⟩
theorem Eg {ts:List Int}{k:Nat}(h:k<ts.length):atI (ts.map D.int) (k:Int)=some (.int (ts.getD k 0)):=XA (by rw[zF,zB h];simp[h])
def Ud (bs:LI)(ts:List Int)(W g:Int)(k:Nat):Int×Int:=((gt bs k).1*W+((gt bs k).2-(gt bs k).1)*ts.getD k 0,g*W)
def pts (bs:LI)(ts:List Int)(W g:Int)(n:Nat):LI:=(List.range n).map λk=>Ud bs ts W g k
theorem Le (bs:LI)(ts:List Int)(W g:Int)(n:Nat):(pts bs ts W g n).length=n:=by simp[pts]
theorem za0 (bs:LI)(ts:List Int)(W g:Int)(n:Nat):pts bs ts W g (n+1)=pts bs ts W g n++[Ud bs ts W g n]:=by simp[pts,List.range_succ]
theorem zb2 {bs:LI}{ts:List Int}{W g:Int}{n:Nat}{i:Int}(h:inR n i):gt (pts bs ts W g n) i=Ud bs ts W g i.toNat:=by
 have:=h.1
 have:=h.2;unfold gt pts;rw[zK,zF,xT (by lia)];rfl
theorem KQ (sb:Spn 51 bs)(hw:1<=W/\W<=1000000)(ht:∀t∈ts,0<=t/\t<=W)(hg:1<=g/\g<=1000000)(hk:k<bs.length)(hl:bs.length=ts.length):
  (0<=ts.getD k 0/\ts.getD k 0<=W)/\(gt bs k).1<=(gt bs k).2/\IntMulOk (gt bs k).1 W/\IntMulOk ((gt bs k).2-(gt bs k).1) (ts.getD k 0)/\1<=g*W/\Sz 110 (Ud bs ts W g k).1/\Sz 110 (g*W):=by
 have hk':k<ts.length:=by lia
 have m:ts.getD k 0∈ts:=by
  have e:ts.getD k 0=ts[k]:=by simp[hk']
  rw[e];exact yI hk'
 have t:=ht _ m
 have b:=sb.at (i:=(k:Int)) ⟨by lia,by lia⟩
 have z:=zbV b.1 b.2.1 b.2.2 ⟨hw.1,by lia⟩ t.1 t.2;refine⟨t,b.1,z.1,z.2.1,yF (by lia) (by lia),z.2.2.mono (by decide),?_⟩;exact((Sz.of (n:=21) 1000000 (show g.natAbs<=_ by lia)).mul (Sz.of (n:=20) 1000000 (show W.natAbs<=_ by lia))).mono (by decide)
theorem EA (sb:Spn 51 bs)(hw:1<=W/\W<=1000000)(ht:∀t∈ts,0<=t/\t<=W)(hg:1<=g/\g<=1000000)(hl:bs.length=ts.length):InW g bs (pts bs ts W g bs.length):=λi hi=>by
 rw[Le] at hi;rw[zb2 hi];have h0:=hi.1
 have h1:=hi.2
 have e:((i.toNat:Nat):Int)=i:=by lia
 obtain⟨t,b,_,_,a,_,_⟩:=KQ (k:=i.toNat) sb hw ht hg (by lia) hl;rw[e] at b;have z:=E8 (lo:=(gt bs i).1) (hi:=(gt bs i).2) (w:=W) (p:=ts.getD i.toNat 0) (g:=g) (t:=(Ud bs ts W g i.toNat).1) (b:=g*W) b hw.1 hg.1 t.1 t.2 a (by unfold Ud;rw[e]);exact z
theorem zbx {v:Nd}{ns:List Nd}{n:Nat}{S:Sto}{Q:DK}{o:Option Nat}(h:S[n]?=some (.lst (ns.map Nd.d)))(e:Xk (eqN 1) (ns.map Nd.d) v.d=some o.isSome)(hq:Q (.bl (!o.isSome)) S):Y9 (wIn 1 true) v.d (.ref n) S Q:=by
 rw[Wa];unfold wIn;simp only[ZX h rfl,Zs,e];exact hq
theorem any_some:∀ {ns:List Nd} {k:Nat},ns[k]?=some v->Xk (eqN 1) (ns.map Nd.d) v.d≠some (none:Option Nat).isSome
 | [],k,h=>by simp at h
 | u::us,0,h=>by
  have e:u=v:=by simpa using h
  subst e;show (match eqN 1 u.d u.d,Xk (eqN 1) (us.map Nd.d) u.d with|some b,some c=>some (b||c)|_,_=>none)≠_;obtain⟨c,hc⟩:=Jr u us;rw[C9,hc];simp
 | u::us,k+1,h=>by
  have ih:=any_some (ns:=us) (k:=k) (by simpa using h)
  show (match eqN 1 u.d v.d,Xk (eqN 1) (us.map Nd.d) v.d with|some b,some c=>some (b||c)|_,_=>none)≠_;obtain⟨b,hb⟩:=IE u v;obtain⟨c,hc⟩:=Jr v us;rw[hc] at ih;rw[hb,hc];cases c
  ·exact absurd rfl ih
  ·simp
theorem GW {vs us ps:LI}{k:Nat}{q:Int}(h:∀i:Int,inR k i->gt vs i=gt us i):∀v:Nd,v.ok k q->v.due vs ps=v.due us ps
 | .number _ _,_=>rfl
 | .unknown _,_=>rfl
 | .plus i j,ok=>by simp only[Nd.due,h i ok.1,h j ok.2]
 | .minus i j,ok=>by simp only[Nd.due,h i ok.1,h j ok.2]
 | .times i j,ok=>by simp only[Nd.due,h i ok.1,h j ok.2]
 | .power i n,ok=>by simp only[Nd.due,h i ok.1]
theorem Ff (P:LI)(ns:List Nd):∀ms:List Nd,∃r,ZD P (ns++ms)=ZD P ns++r
 | []=>⟨[],by rw[yX,yX]⟩
 | v::ms=>by
  obtain⟨r,e⟩:=Ff P (ns++[v]) ms;rw[xJ] at e;refine⟨v.due (ZD P ns) P::r,?_⟩;rw[show ns++v::ms=ns++([v]++ms) from rfl,e,WY,xJ];rfl
theorem MI {P:LI}{ns ms:List Nd}{i:Int}(h:inR ns.length i):gt (ZD P (ns++ms)) i=gt (ZD P ns) i:=by
 obtain⟨r,e⟩:=Ff P ns ms;rw[e];exact Bx (k:=ns.length) h (by rw[XU];exact zC _)
theorem Gh {P:LI}{ns:List Nd}{ws:List Nat}{q:Int}{j:Nat}{v:Nd}(net:Z3 q ns ws)(h:ns[j]?=some v):gt (ZD P ns) (j:Int)=v.due (ZD P ns) P:=by
 have hj:=(zD.mp h).1
 have e:ns=ns.take (j+1)++ns.drop (j+1):=(List.take_append_drop _ _).symm
 have e2:ns=ns.take j++ns.drop j:=(List.take_append_drop _ _).symm
 have l:(ns.take (j+1)).length=j+1:=by rw[yP];lia
 have lj:(ns.take j).length=j:=by rw[yP];lia
 have g1:gt (ZD P ns) (j:Int)=gt (ZD P (ns.take (j+1))) (j:Int):=by
  have z:=MI (P:=P) (ns:=ns.take (j+1)) (ms:=ns.drop (j+1)) (i:=(j:Int)) ⟨by lia,by rw[l];lia⟩;rw[<- e] at z;exact z
 rw[g1,Wf h,WY,Tx (by rw[XU,lj])];refine GW (k:=j) (q:=q) (λi hi=>?_) v (net.ok j v h).1;have z:=MI (P:=P) (ns:=ns.take j) (ms:=ns.drop j) (i:=i) (by rw[lj];exact hi);rw[<- e2] at z;exact z.symm
theorem KR {ws us:List Nat}{i:Nat}(h:i<ws.length):(ws++us).getD i 0=ws.getD i 0:=by rw[zK,zK,zQ h]
def Nd.hv:Nd->Nat
 | .minus _ _=>2
 | _=>1
theorem Ku:∀rs:List Nat,eqs (rs.map λi=>((true,i):Bool×Nat))=rs
 | []=>rfl
 | r::rs=>(congrArg (r::·) (Ku rs):r::eqs (rs.map λi=>((true,i):Bool×Nat))=r::rs)
theorem Cr (xs:List D):XX xs (some 1) none=xs.drop 1:=by
 unfold L3.XX;have e:HT.sIx xs.length 0 (some 1)=min 1 xs.length:=by
  have z:=HT.sIx_nat xs.length 0 1;exact z
 rw[HT.sIx_none];rw[e];by_cases c:1<=xs.length
 ·rw[Nat.min_eq_left c];exact yZ (by rw[List.length_drop];exact zC _)
 ·have z:xs=[]:=List.eq_nil_of_length_eq_zero (by lia);subst z;rfl
theorem zdg {t b:Int}(hb:0<b):t.fdiv b*b<=t/\t<(t.fdiv b+1)*b:=by
 rw[Int.fdiv_eq_ediv_of_nonneg _ (by lia)];exact Vf t hb
theorem zb6 {is:List Nat}{n:Nat}{tl:TDE}{tb:TDS}{E:X1}{dl:Ev}{S:Sto}{xs:List D}(W:Nat->Ev->Sto->Prop)(htl:∀K:DK,K (.ref n) S->tl dl S K)(h0:W 0 dl S)(hk:∀k dl' S',W k dl' S'->S'[n]?=some (.lst xs))(hall:∀(k:Nat)(d:D),xs[k]?=some d->∃ys,d=.tup ys/\ys.length=is.length)
  (ht:∀(k:Nat)(ys:List D)(dl':Ev)(S':Sto)(nx ct:Ev->Sto->Prop),xs[k]?=some (.tup ys)->W k dl' S'->(∀dl2 S2,W (k+1) dl2 S2->nx dl2 S2)->tb { nx:=nx,rt:=E.rt,bk:=E.nx,ct:=ct } (Vh is ys dl') S')(he:∀dl' S',W xs.length dl' S'->E.nx dl' S'):NN is tl tb E dl S:=by
 unfold NN;refine htl _ ⟨by rw[ZX (hk _ _ _ h0) rfl];rfl,λk m dl' S'=>m+k=xs.length/\W k dl' S',⟨xs.length,by lia,h0⟩,?_⟩;rintro k m dl' S' ⟨hm,w⟩;rw[ZX (hk _ _ _ w) rfl];dsimp only[Zs];split
 ·rename_i ys hx;have l:k<xs.length:=(zD.mp hx).1;obtain⟨zs,e1,e2⟩:=hall k _ hx;cases e1;exact⟨e2,ht k ys dl' S' _ _ hx w λdl2 S2 w2=>⟨m-1,by lia,by lia,w2⟩⟩
 ·rename_i d hn hx;obtain⟨zs,e1,_⟩:=hall k _ hx;exact absurd e1 (hn zs)
 ·rename_i hx;have l:k=xs.length:=by
   have:=yY.mp hx;lia
  exact he dl' S' (l ▸ w)
theorem EH {t b:Int}(hb:0<b):(t.fdiv b).natAbs<=t.natAbs+1:=by
 obtain⟨h1,h2⟩:=zdg (t:=t) hb;generalize t.fdiv b=f at *
 by_cases c:0<=f
 ·have z:=wA (show 1<=b by lia) c;lia
 ·have z:=wA (show 1<=b by lia) (show 0<=-(f+1) by lia);rw[yO,yO] at z;lia
def U7 (rows:List (Bool×Nat))(vs:LI):Bool:=rows.all λr=>r.1||decide (0<=(gt vs (r.2:Int)).1)
theorem II (vs:LI):∀rows:List (Bool×Nat),YX (((rows.map rwD)).filterMap (λd=>match d with|.tup [.str w,.int at']=>if w="least" then some (.bl (decide (0<=(gt vs at').1))) else none|_=>none))=some (rows.filterMap λr=>if r.1 then none else some (decide (0<=(gt vs (r.2:Int)).1)))
 | []=>rfl
 | (false,n)::rs=>by
  show (YX ((rs.map rwD).filterMap _)).map _=_;rw[II vs rs];rfl
 | (true,n)::rs=>II vs rs
theorem Kn (vs:LI):∀rows:List (Bool×Nat),((rows.filterMap λr=>if r.1 then none else some (decide (0<=(gt vs (r.2:Int)).1))).all id)=U7 rows vs
 | []=>rfl
 | (false,n)::rs=>by
  show (decide _&&(rs.filterMap _).all id)=_;rw[Kn vs rs];rfl
 | (true,n)::rs=>Kn vs rs
def U6 (p q:Int×Int):Bool:=decide (q.1<p.1)&&decide (p.2<q.2)
def V3 (us vs:LI):Bool:=(List.zipWith U6 us vs).all id
theorem Bb {us vs:LI}:V3 us vs=true↔∀(k:Nat)(p q:Int×Int),us[k]?=some p->vs[k]?=some q->q.1<p.1/\p.2<q.2:=by
 unfold V3;rw[xS];refine⟨λh k p q hp hq=>?_,λh b hb=>?_⟩
 ·have z:=h (U6 p q) (zJ (i:=k) (by rw[xX,hp,hq]));simpa [U6] using z
 ·obtain⟨k,hk⟩:=wC.mp hb;rw[xX] at hk;cases e1:us[k]? with
  | none=>rw[e1] at hk;cases hk
  | some p=>
   cases e2:vs[k]? with
   | none=>rw[e1,e2] at hk;cases hk
   | some q=>
    rw[e1,e2] at hk;obtain⟨a,b⟩:=h k p q e1 e2;have z:=Option.some.inj hk;subst z;simp[U6,a,b]
theorem Ak (us vs:LI):YX (List.zipWith (λx y=>match x,y with|.tup [.int a,.int b],.tup [.int c,.int d]=>.bl (decide (c<a)&&decide (b<d))|_,_=>.non) (us.map frD) (vs.map frD))=some (List.zipWith U6 us vs):=by
 induction us generalizing vs with
 | nil=>rfl
 | cons u us ih=>
  cases vs with
  | nil=>rfl
  | cons v vs=>
   show (YX (List.zipWith _ (us.map frD) (vs.map frD))).map _=_;rw[ih];rfl
structure Gr (q a c:Nat)(S:Sto)(ns:List Nd)(ws:List Nat)(T:Sto)(ns':List Nd)(ws':List Nat):Prop where
 net:Z3 q ns' ws'
 pn:∃ms,ns'=ns++ms/\ms.length<=c
 pw:∃us,ws'=ws++us
 nd:T[a]?=some (.lst (ns'.map Nd.d))
 len:S.length<=T.length
 kp:∀(x:Nat)(o:Ob),x≠a->S[x]?=some o->T[x]?=some o
theorem Gr.refl {q a:Nat}{S:Sto}{ns:List Nd}{ws:List Nat}(net:Z3 q ns ws)(h:S[a]?=some (.lst (ns.map Nd.d))):Gr q a 0 S ns ws S ns ws:=⟨net,⟨[],by simp,by simp⟩,⟨[],by simp⟩,h,zC _,λ_ _ _ e=>e⟩
theorem Gr.trans (h:Gr q a c S ns ws T ns' ws')(k:Gr q a d T ns' ws' U ns2 ws2):Gr q a (c+d) S ns ws U ns2 ws2:=by
 obtain⟨n1,⟨ms,rfl,l1⟩,⟨us,rfl⟩,a1,e1,k1⟩:=h;obtain⟨n2,⟨ms2,rfl,l2⟩,⟨us2,rfl⟩,a2,e2,k2⟩:=k;exact⟨n2,⟨ms++ms2,by rw[xJ],by rw[zG];lia⟩,⟨us++us2,by rw[xJ]⟩,a2,by lia,λx o hx e=>k2 x o hx (k1 x o hx e)⟩
theorem Gr.mono (h:Gr q a c S ns ws T ns' ws')(l:c<=d):Gr q a d S ns ws T ns' ws':=by
 obtain⟨n1,⟨ms,e,l1⟩,u,a1,e1,k1⟩:=h;exact⟨n1,⟨ms,e,by lia⟩,u,a1,e1,k1⟩
theorem Gr.ln {q a c:Nat}{S T:Sto}{ns ns':List Nd}{ws ws':List Nat}(h:Gr q a c S ns ws T ns' ws'):ns.length<=ns'.length/\ns'.length<=ns.length+c:=by
 obtain⟨n1,⟨ms,rfl,l1⟩,_⟩:=h;rw[zG];lia
theorem Gr.wt {q a c:Nat}{S T:Sto}{ns ns':List Nd}{ws ws':List Nat}(h:Gr q a c S ns ws T ns' ws')(net:Z3 q ns ws){i:Nat}(hi:i<ns.length):ws'.getD i 0=ws.getD i 0:=by
 obtain⟨us,rfl⟩:=h.pw;exact KR (by rw[net.len];exact hi)
theorem Gr.due {q a c:Nat}{S T:Sto}{ns ns':List Nd}{ws ws':List Nat}(h:Gr q a c S ns ws T ns' ws')(P:LI){i:Nat}(hi:i<ns.length):gt (ZD P ns') (i:Int)=gt (ZD P ns) (i:Int):=by
 obtain⟨ms,rfl,_⟩:=h.pn;exact MI ⟨by lia,by lia⟩
theorem Gr.get {q a c:Nat}{S T:Sto}{ns ns':List Nd}{ws ws':List Nat}(h:Gr q a c S ns ws T ns' ws'){i:Nat}{v:Nd}(hi:ns[i]?=some v):ns'[i]?=some v:=by
 obtain⟨ms,rfl,_⟩:=h.pn;rw[zQ (zD.mp hi).1];exact hi
theorem Gr.put (h:Gr q a c S ns ws T ns' ws')(ha:n≠a)(hn:S.length<=n):Gr q a c S ns ws (T.set n o) ns' ws':=by
 obtain⟨n1,pn,pw,a1,e1,k1⟩:=h;refine⟨n1,pn,pw,ZY a1 ha,by rw[List.length_set];exact e1,λx u hx e=>ZY (k1 x u hx e) ?_⟩;have:=ZZ e;lia
theorem Gr.push {q a:Nat}{S:Sto}{ns:List Nd}{ws:List Nat}(net:Z3 q ns ws)(h:S[a]?=some (.lst (ns.map Nd.d)))(U:Sto):Gr q a 0 S ns ws (S++U) ns ws:=⟨net,⟨[],by simp,by simp⟩,⟨[],by simp⟩,Zn h,by simp,λ_ _ _ e=>Zn e⟩
structure Zr (P:LI)(ns:List Nd)(ws:List Nat)(w i:Nat):Prop where
 lt:i<ns.length
 wt:ws.getD i 0<=w
 due:(gt (ZD P ns) (i:Int)).1=0
theorem Zr.up (z:Zr P ns ws w i)(h:Gr q a c S ns ws T ns' ws')(net:Z3 q ns ws):Zr P ns' ws' w i:=⟨by have:=h.ln;have:=z.lt;lia,by rw[h.wt net z.lt];exact z.wt,by rw[h.due P z.lt];exact z.due⟩
theorem Er {q a c:Nat}{S T:Sto}{ns ns':List Nd}{ws ws':List Nat}(h:Gr q a c S ns ws T ns' ws')(net:Z3 q ns ws){v:Nd}(ok:v.ok ns.length q):v.wt ws'=v.wt ws:=by
 have z:∀i:Int,inR (ns.length:Nat) i->ws'.getD i.toNat 0=ws.getD i.toNat 0:=λi hi=>by
  have h0:=hi.1
  have h1:=hi.2;exact h.wt net (by lia)
 cases v with
 | number _ _=>rfl
 | unknown _=>rfl
 | plus i j=>show ws'.getD i.toNat 0+ws'.getD j.toNat 0=ws.getD i.toNat 0+ws.getD j.toNat 0;rw[z i ok.1,z j ok.2]
 | minus i j=>show ws'.getD i.toNat 0+ws'.getD j.toNat 0=ws.getD i.toNat 0+ws.getD j.toNat 0;rw[z i ok.1,z j ok.2]
 | times i j=>show ws'.getD i.toNat 0+ws'.getD j.toNat 0=ws.getD i.toNat 0+ws.getD j.toNat 0;rw[z i ok.1,z j ok.2]
 | power i n=>show n.toNat*ws'.getD i.toNat 0=n.toNat*ws.getD i.toNat 0;rw[z i ok.1]
theorem BL {q a c j:Nat}{S T:Sto}{ns ns':List Nd}{ws ws':List Nat}(h:Gr q a c S ns ws T ns' ws'){v:Nd}(ok:v.ok ns.length q)(hj:ns'[j]?=some v)(P:LI):gt (ZD P ns') (j:Int)=v.due (ZD P ns) P:=by
 rw[Gh (P:=P) h.net hj];refine GW (k:=ns.length) (q:=q) (λi hi=>?_) v ok;have h0:=hi.1
 have h1:=hi.2
 have z:=h.due P (i:=i.toNat) (by lia);rw[show ((i.toNat:Nat):Int)=i by lia] at z;exact z
theorem NM (h:S[n]?=some (.frz xs))(hq:Q (.int (xs.length:Nat)) S):irr Th [.ref n] S Q:=by
 rw[VA];unfold Th;simp only[ZX h rfl];exact hq
def frS (cs:List Int):Bool:=decide (0<cs.length)&&decide (cs.getD 0 0%2=1)
theorem P8 {cs:List Int}{k:Int}(h0:0<=k)(h1:k<cs.length):atI (cs.map D.int) k=some (.int (cs.getD k.toNat 0)):=by
 have z:=Eg (ts:=cs) (k:=k.toNat) (by lia);rw[show ((k.toNat:Nat):Int)=k by lia] at z;exact z
theorem Hk (l:List Bool):YX (l.map D.bl)=some l:=by
 induction l with
 | nil=>rfl
 | cons b l ih=>
  show (YX (l.map D.bl)).map _=_;rw[ih];rfl
theorem BR {caps:List Nat}{ta:TDA}{te:TDE}{dl:Ev}{S S1:Sto}{Q:DK}{n n':Nat}{xs ys:List D}(W:Nat->List D->Sto->Prop)(hta:∀K:List D->Sto->Prop,K [.ref n,.ref n'] S1->ta dl S K)(h1:S1[n]?=some (.lst xs))(h2:S1[n']?=some (.lst ys))(hl:xs.length<=1000)
  (hw:∀k zs S2,W k zs S2->S2[n]?=some (.lst xs)/\S2[n']?=some (.lst ys)/\S2[S1.length]?=some (.lst zs)/\zs.length=k)(h0:W 0 [] (S1++[.lst []]))
  (ht:∀(k:Nat)(x y:D)(zs:List D)(S2:Sto)(K:DK),xs[k]?=some x->ys[k]?=some y->W k zs S2->(∀z S3,S3[S1.length]?=some (.lst zs)->W (k+1) (zs++[z]) (S3.set S1.length (.lst (zs++[z])))->K z S3)->te (some x::some y::YR caps dl) S2 K)
  (hq:∀zs S2,W (min xs.length ys.length) zs S2->Q (.ref S1.length) S2):VF caps ta te dl S Q:=by
 unfold VF;refine hta _ ⟨⟨by rw[ZX h1 rfl];rfl,by rw[ZX h2 rfl];rfl⟩,λk m S2=>(∃zs,W k zs S2)/\m+k=min xs.length ys.length,⟨min xs.length ys.length,⟨_,h0⟩,by lia⟩,?_⟩;rintro k m S2 ⟨⟨zs,w⟩,hm⟩;obtain⟨w1,w2,w3,w4⟩:=hw _ _ _ w;rw[ZX w1 rfl,ZX w2 rfl];dsimp only[Zs];split
 ·rename_i x y hx hy;have hk:k<xs.length:=(zD.mp hx).1
  have hk':k<ys.length:=(zD.mp hy).1;unfold Qk;refine ht k x y zs S2 _ hx hy w λz S3 e3 w5=>?_
  rw[e3];exact⟨by lia,m-1,by lia,⟨_,w5⟩,by lia⟩
 ·rename_i no;have hk:min xs.length ys.length<=k:=by
   by_cases l:k<min xs.length ys.length
   ·exact absurd (zB (l:=ys) (i:=k) (by lia)) (no _ _ (zB (l:=xs) (i:=k) (by lia)))
   ·lia
  refine⟨by lia,?_⟩;have e:k=min xs.length ys.length:=by lia
  exact hq zs S2 (e ▸ w)
def slB (vs:LI)(R:List LI)(g:Int)(q:Nat)(ns:List Nd):List Bool:=List.zipWith (λv r=>YN (Yz vs R g q v) r) ns R
theorem ER (h:∀i:Int,inR k i->gs R i l=gs T i l):∀v:Nd,v.ok k q->v.sl vs R g l=v.sl vs T g l
 | .number _ _,_=>rfl
 | .unknown _,_=>rfl
 | .plus i j,ok=>by simp only[Nd.sl,h i ok.1,h j ok.2]
 | .minus i j,ok=>by simp only[Nd.sl,h i ok.1,h j ok.2]
 | .times i j,ok=>by simp only[Nd.sl,h i ok.1,h j ok.2]
 | .power i n,ok=>by simp only[Nd.sl,h i ok.1]
theorem Dk (h:inR k i)(hk:k<=R.length):gs (R++T) i l=gs R i l:=by
 have:=h.1
 have:=h.2;unfold gs;rw[zK (l:=R++T),zK (l:=R),zQ (by lia)]
def Ins (p q:Int×Int):Prop:=p.1<=q.1/\q.2<=p.2
section
variable {X:Cx}{aZ aX:Expr}{aT:List Expr}{kk:Nat}{tp:Pos}{pos:Pos}{sc:Scope}{own N:List Str}{caps:List Nat}{wi:TI}{gt:TG}{te:TE}
end
section
variable {X:Cx}{Z:Zx}{pos:Pos}
def Mv:WC:=λds S Q=>match ds with
 | [.ref n]=>match lAt S n with
  | some o=>Q (.tup (Zs o)) S
  | none=>False
 | _=>False
theorem zb7:Yt X (.type "tuple") (upC X.K Z Mv):=Od zcd λxs H Qv ⟨r,S,ds,Q,bD,ps,q,ret⟩=>by
 unfold Mv at q;split at q
 ·rename_i n;obtain⟨v,vs,rfl,p1,p2⟩:=ps.uncons;have z:=p2.unnil;subst z;split at q
  ·rename_i o eo;obtain⟨eo,eL⟩:=YL eo;obtain⟨a,ha,ob⟩:=bD.at eo;cases p1 with
   | ref h1=>
    rw[h1] at ha;cases ha
    obtain⟨ys,sq,pr⟩:=ob.list eL;refine⟨_,ys,rfl,.inl ⟨sq,λl hl=>?_⟩⟩;have x:Ext r r H (upd H l (.tup ys)):=⟨λ_ _ q=>q,λa xs q=>Xs hl _ _ q,λa c q=>Xs hl _ _ q⟩;exact ret _ _ r (.tup (Zs o)) S x (bD.same (Xs hl)) ((pr.ext x).tupR XB) q
  ·exact q.elim
 ·exact q.elim
def Alk (S:Sto):Nat->D->D->Prop
 | 0,d,e=>eqF d e=some true
 | n+1,d,e=>Alk S n d e\/(∃xs ys,d=.tup xs/\e=.tup ys/\xs.length=ys.length/\∀(k:Nat)(x y:D),xs[k]?=some x->ys[k]?=some y->Alk S n x y)\/
  ∃a b xs ys,d=.ref a/\e=.ref b/\S[a]?=some (.lst xs)/\S[b]?=some (.lst ys)/\xs.length=ys.length/\∀(k:Nat)(x y:D),xs[k]?=some x->ys[k]?=some y->Alk S n x y
theorem FK (n:Nat):(List.range n).all (λ_=>true)=true:=by simp
theorem EE {n:Nat}{A:Around}{aA:LA}{σ:L3.St}{H:Hp}{s:Shared}{r:List Addr}{S:Sto}(I:Inv X aA σ H s)(bD:Rel X.K Z r S H){a b:Nat}{xs ys:List D}{p p':Addr}(hp:r[a]?=some p)(hp':r[b]?=some p')(s1:S[a]?=some (.lst xs))(s2:S[b]?=some (.lst ys))(l:xs.length=ys.length)(hu:A.units<cLine)
  (f:∀ {d e:D} {v1 v2:V} {u1 u2:Value},Alk S n d e->Rp r H d v1->Rp r H e v2->ZG v1 u1->ZG v2 u2->SeqAt.EqAt A.in1 s u1 u2 true)(al:∀(k:Nat)(x y:D),xs[k]?=some x->ys[k]?=some y->Alk S n x y):SeqAt.RcAt A s (.ref p) (.ref p') true:=by
 obtain⟨z,hz,ob⟩:=bD.at s1;rw[hp] at hz;cases hz
 obtain⟨z,hz,ob'⟩:=bD.at s2;rw[hp'] at hz;cases hz
 obtain⟨vs,sq,pr⟩:=ob.list rfl;obtain⟨ws,sq',pr'⟩:=ob'.list rfl;obtain⟨is,ri,pl,_⟩:=I.list sq;obtain⟨js,rj,pl',_⟩:=I.list sq';have g1:=GC (P:=λS=>Alk S n) (S:=S) f pr pr' ri rj al
 have hs:is.toArray.size=js.toArray.size:=by
  have a1:=ri.length
  have a2:=rj.length
  have a3:=pr.1
  have a4:=pr'.1;simp only[zV];show is.length=js.length
  have a3:xs.length=vs.length:=a3
  have a4:ys.length=ws.length:=a4;lia
 have q:=SeqAt.RcAt.lists (A:=A) (e:=λ_=>true) pl.isList pl'.isList hs hu g1;rw[FK] at q;exact q
theorem Nc:∀(n:Nat) {A:Around} {aA:LA} {σ:L3.St} {H:Hp} {s:Shared} {r:List Addr} {S:Sto} {d e:D} {v1 v2:V} {u1 u2:Value},Inv X aA σ H s->Rel X.K Z r S H->Alk S n d e->Rp r H d v1->Rp r H e v2->ZG v1 u1->ZG v2 u2->A.units+n<cLine->SeqAt.EqAt A s u1 u2 true
 | 0,A,aA,σ,H,s,r,S,d,e,v1,v2,u1,u2,I,bD,h,pd,pe,ru1,ru2,hu=>Lf 0 X aA σ H s r A d e v1 v2 u1 u2 true I hu pd pe ru1 ru2 h
 | n+1,A,aA,σ,H,s,r,S,d,e,v1,v2,u1,u2,I,bD,h,pd,pe,ru1,ru2,hu=>by
  rcases h with h|⟨xs,ys,rfl,rfl,l,al⟩|⟨a,b,xs,ys,rfl,rfl,s1,s2,l,al⟩
  ·exact Nc n I bD h pd pe ru1 ru2 (by lia)
  ·cases pd with
   | @tup _ vs a h1 l1 f1=>
    cases pe with
    | @tup _ ws b h2 l2 f2=>
     cases ru1;cases ru2;by_cases hne:a=b
     ·subst hne;exact SeqAt.EqAt.same _
     ·obtain⟨is,ri,pl,_⟩:=I.tuple (SqT.of h1);obtain⟨js,rj,pl',_⟩:=I.tuple (SqT.of h2);have g1:=GC (P:=λS=>Alk S n) (S:=S) (A:=A.in1) (λh p q r1 r2=>Nc n I bD h p q r1 r2 (by show A.units+1+n<_;lia)) ⟨l1,f1⟩ ⟨l2,f2⟩ ri rj al
      have q:=SeqAt.RcAt.tuples (A:=A) (e:=λ_=>true) pl pl' (by lia) g1
      have hs:(is.toArray.size==js.toArray.size)=true:=by
       have a1:=ri.length
       have a2:=rj.length;simp only[zV,beq_iff_eq];show is.length=js.length;lia
      rw[FK,hs] at q;exact SeqAt.EqAt.of_refs hne q
  ·cases pd with
   | @ref _ p hp=>
    cases pe with
    | @ref _ p' hp'=>
     cases ru1;cases ru2;by_cases hne:p=p'
     ·subst hne;exact SeqAt.EqAt.same _
     ·exact SeqAt.EqAt.of_refs hne (EE I bD hp hp' s1 s2 l (by lia) (λh p q r1 r2=>Nc n I bD h p q r1 r2 (by show A.units+1+n<_;lia)) al)
def wEqK:W2:=λx y S Q=>match x,y with
 | .ref a,.ref b=>(∃xs ys,S[a]?=some (.lst xs)/\S[b]?=some (.lst ys)/\xs.length=ys.length/\∀(k:Nat)(x y:D),xs[k]?=some x->ys[k]?=some y->Alk S 6 x y)/\Q (.bl true) S
 | _,_=>False
theorem AB (hr:Yb j X.A):OpR X (compareOp .Eq) (upO X.K Z wEqK):=by
 have hu:=hr.un;intro aA s σ H x y v u Qv I rx ry h;obtain⟨r,S,dx,dy,Q,bD,px,py,q,ret⟩:=h;cases px with
 | @ref n a hn=>
  cases py with
  | @ref m a' hm=>
   cases rx;cases ry;obtain⟨⟨xs,ys,s1,s2,l,al⟩,q⟩:=(show (∃xs ys,_)/\_ from q);exact EE I bD hn hm s1 s2 l (by lia) (λh p q r1 r2=>Nc 6 I bD h p q r1 r2 (by show X.A.units+1+6<_;lia)) al X.prog X.w X.xe _ ⟨.bl true,H,I,rfl,ret _ _ _ _ _ Ext.refl bD (.bl true) q⟩
  | _=>exact(show False from q).elim
 | _=>exact(show False from q).elim
end
section
variable {X:Cx}{Z:Zx}{pos:Pos}
@[irreducible] def Vx (T:String)(te:TDE):TDE:=λdl S Q=>te dl S λd S1=>match d with
 | .ref n=>match S1[n]? with
  | some (.lst _)=>Q (.bl (Wi "list" T)) S1
  | _=>False
 | .exc _=>False
 | .non=>Q (.bl (Wi "NoneType" T)) S1
 | .bl _=>Q (.bl (Wi "bool" T)) S1
 | .int _=>Q (.bl (Wi "int" T)) S1
 | .str _=>Q (.bl (Wi "str" T)) S1
 | .tup _=>Q (.bl (Wi "tuple" T)) S1
theorem G7 (K:Fg)(T:String)(hT:T∈["list","tuple","int","str"]):∀t∈["NoneType","bool","int","str","tuple","list"],PySem.W.kitOne K (.type t) (.type T)=some (Wi t T):=by
 simp only[zO,yS,or_false] at hT;intro t ht;simp only[zO,yS,or_false] at ht;rcases hT with rfl|rfl|rfl|rfl<;>rcases ht with rfl|rfl|rfl|rfl|rfl|rfl<;>kernel_rfl
theorem GA (KT:∀t∈["NoneType","bool","int","str","tuple","list"],PySem.W.kitOne X.K (.type t) (.type T)=some (Wi t T))(hg:Gl X "isinstance")(hm:X.mg "isinstance"=none)(hg2:Gl X y)(hm2:X.mg y=none)(hv2:bootBuiltins y=some (.type T))(ha:PD X Z e te)(hv:bootBuiltins "isinstance"=some (.builtin "isinstance"):=by exact PyProof.Rows.Boot.«isinstance»)(hn2:y≠"__name__":=by decide)(hd2:(y==("__debug__":Str))=false:=by decide)(he2:starEach [e,.Name y p2] X.env=(false,eval e X.env)::starEach [.Name y p2] X.env:=by rfl)(he3:starEach [.Name y p2] X.env=(false,eval (.Name y p2) X.env)::starEach [] X.env:=by rfl)(hpl:(backTo pos (starEach [.Name y p2] X.env)).any (·.1)=false:=by rfl):
  PD X Z (.Call (.Name "isinstance" p) [e,.Name y p2] [] pos) (Vx T te):=
 Yw (HX BU hg hm hv (SN ha (SN (zbS (v:=.ty T) hg2 hm2 hv2 rfl hn2 hd2) MG he3) he2) (by decide) (by decide) he2 hpl) λσ H Qv ⟨r,dl,S,Q,rs,bD,h,ret⟩=>by
  unfold Vx at h;refine⟨r,dl,S,_,rs,bD,h,λv H1 r1 d S1 e1 aF p1 h1=>?_⟩;cases p1 with
  | non=>exact⟨_,T,_,_,rfl,.non,KT _ (by simp),ret _ _ _ _ _ e1 aF (.bl _) h1⟩
  | bl b=>exact⟨_,T,_,_,rfl,.bl b,KT _ (by simp),ret _ _ _ _ _ e1 aF (.bl _) h1⟩
  | int b=>exact⟨_,T,_,_,rfl,.int b,KT _ (by simp),ret _ _ _ _ _ e1 aF (.bl _) h1⟩
  | str b=>exact⟨_,T,_,_,rfl,.str b,KT _ (by simp),ret _ _ _ _ _ e1 aF (.bl _) h1⟩
  | tup e2 _ _=>exact⟨_,T,_,_,rfl,.tup e2,KT _ (by simp),ret _ _ _ _ _ e1 aF (.bl _) h1⟩
  | exc _=>exact(show False from h1).elim
  | @ref n a hr=>
   dsimp only at h1;split at h1
   ·rename_i xs eS;obtain⟨ys,eH,_⟩:=aF.b.ob n a _ hr eS;exact⟨_,T,_,_,rfl,.lst eH,KT _ (by simp),ret _ _ _ _ _ e1 aF (.bl _) h1⟩
   ·exact h1.elim
theorem Iy {T:String}{te:TDE}{dl:Ev}{S S1:Sto}{Q:DK}{n:Nat}{xs:List D}(ht:∀K:DK,K (.ref n) S1->te dl S K)(h:S1[n]?=some (.lst xs))(hq:Q (.bl (Wi "list" T)) S1):Vx T te dl S Q:=by
 unfold Vx;refine ht _ ?_;simp only[h];exact hq
theorem CF {T:String}{te:TDE}{dl:Ev}{S S1:Sto}{Q:DK}{xs:List D}(ht:∀K:DK,K (.tup xs) S1->te dl S K)(hq:Q (.bl (Wi "tuple" T)) S1):Vx T te dl S Q:=by
 unfold Vx;exact ht _ hq
theorem zbw {T:String}{te:TDE}{dl:Ev}{S S1:Sto}{Q:DK}{w:Str}(ht:∀K:DK,K (.str w) S1->te dl S K)(hq:Q (.bl (Wi "str" T)) S1):Vx T te dl S Q:=by
 unfold Vx;exact ht _ hq
end
section
variable {X:Cx}{Z:Zx}{pos:Pos}
theorem zbm:Yt X (.type "range") (λxs H Q=>∃i j:Int,xs=[.int i,.int j]/\∀p,H p=none->Q (.ref p) (upd H p (.rng i j))):=by
 intro aA s σ H xs us Q I rv h;obtain⟨i,j,rfl,q⟩:=h;obtain⟨u,u2,rfl,ru,ru2⟩:=Nj rv;obtain⟨t,rfl⟩:=ru;obtain⟨t2,rfl⟩:=ru2;refine call_range_2 ?_;exact⟨.ref s.heap.objs.size,_,I.laid (o:=.rng i j) (λb o e=>Heap.get?_push_of_some _ e) (zC _) ⟨_,_,_,Heap.get?_push_size _ rfl⟩,rfl,q _ (I.hok.fresh (zC _))⟩
theorem CB {acc:Array Value}{n:Nat}{lo:Int}(h:ItemsOf (λi v=>∃t,v=Value.int (lo+(i:Int)*1) t) acc n):ZI ((List.range n).map λ(k:Nat)=>V.int (lo+(k:Int))) acc.toList:=by
 have main:∀(us:List Value)(a:Nat),(∀(j:Nat)(v:Value),us[j]?=some v->∃t,v=Value.int (lo+((a+j:Nat):Int)) t)->ZI ((List.range' a us.length).map λ(k:Nat)=>V.int (lo+(k:Int))) us:=λus=>by
  induction us with
  | nil=>exact λ_ _=>.nil
  | cons u us ih=>
   intro a hu;rw[zT,List.range'_succ,xQ];refine .cons ?_ (ih (a+1) λj v hv=>?_)
   ·obtain⟨t,e⟩:=hu 0 u rfl;exact⟨t,by rw[e];rfl⟩
   ·obtain⟨t,e⟩:=hu (j+1) v hv;exact⟨t,by rw[e];congr 2;lia⟩
 have z:=main acc.toList 0 λj v hv=>by
  obtain⟨t,e⟩:=h.2 j v (by simpa using hv);exact⟨t,by rw[e,show ((0+j:Nat):Int)=(j:Int)*1 by lia]⟩
 rw[Array.length_toList,h.1,<- List.range_eq_range'] at z;exact z
theorem zbZ (hc:X.calm=true):Yt X (.type "list") (λxs H Q=>∃p i j,xs=[.ref p]/\H p=some (.rng i j)/\(0<=i/\i<=j/\j<=1000)/\∀a,H a=none->Q (.ref a) (upd H a (.lst ((List.range (j-i).toNat).map λ(k:Nat)=>V.int (i+(k:Int)))))):=by
 intro aA s σ H xs us Q I rv h;obtain⟨p,i,j,rfl,hp,hj,q⟩:=h;obtain⟨u,rfl,ru⟩:=Wg rv;cases ru;obtain⟨t,u,v,hr⟩:=(I.hok p _ hp:∃t u v,s.heap.get? p=some { cls:=.type "range",data:=.fields #[.int i t,.int j u,.int 1 v] });refine call_list_range (n:=(j-i).toNat) (I.ok.hd hc) hr (small_one (by lia) (by lia) (by lia) (by lia)) (by rw[rangeSize_one];split<;>lia) (by lia) λh' tk acc c keep new items=>?_
 refine⟨.ref s.heap.objs.size,_,I.laid (t':=tk) (o:=.lst ((List.range (j-i).toNat).map λ(k:Nat)=>V.int (i+(k:Int)))) keep (zC _) ⟨?_,acc.toList,c,CB items,by rw[Array.toArray_toList];exact new⟩,rfl,q _ (I.hok.fresh (zC _))⟩;rw[zA,xW];exact Ul (by lia)
@[irreducible] def L1 (ta:TDA):TDE:=λdl S Q=>ta dl S λds S1=>match ds with
 | [.int i,.int j]=>(0<=i/\i<=j/\j<=1000)/\Q (.ref S1.length) (S1++[.lst ((List.range (j-i).toNat).map λ(k:Nat)=>D.int (i+(k:Int)))])
 | _=>False
theorem zd0 {ta:TDA}{dl:Ev}{S S1:Sto}{Q:DK}{i j:Int}(hta:∀K:List D->Sto->Prop,K [.int i,.int j] S1->ta dl S K)(hj:0<=i/\i<=j/\j<=1000)(hq:Q (.ref S1.length) (S1++[.lst ((List.range (j-i).toNat).map λ(k:Nat)=>D.int (i+(k:Int)))])):L1 ta dl S Q:=by
 unfold L1;exact hta _ ⟨hj,hq⟩
theorem zd9 (hc:X.calm=true)(hgl:Gl X "list")(hml:X.mg "list"=none)(hvl:bootBuiltins "list"=some (.type "list"))(hg:Gl X "range")(hm:X.mg "range"=none)(he:PDA X Z [e,f] ta)(hs:starEach [.Call (.Name "range" p) [e,f] [] aQ] X.env=(false,eval (.Call (.Name "range" p) [e,f] [] aQ) X.env)::starEach [] X.env:=by rfl)(hpl:(backTo pos (starEach [] X.env)).any (·.1)=false:=by rfl)(hs2:starEach [e,f] X.env=(false,eval e X.env)::starEach [f] X.env:=by rfl)(hpl2:(backTo aQ (starEach [f] X.env)).any (·.1)=false:=by rfl):
  PD X Z (.Call (.Name "list" p2) [.Call (.Name "range" p) [e,f] [] aQ] [] pos) (L1 ta):=
 Yw (Ij (zbZ hc) hgl hml hvl (SN (Ij zbm hg hm boot_range he (by decide) (by decide) hs2 hpl2) MG hs) (by decide) (by decide) hs hpl) λσ H Qv ⟨r,dl,S,Q,rs,bD,h,ret⟩=>by
  unfold L1 at h;refine⟨r,dl,S,_,rs,bD,h,λvs H1 r1 ds S1 e1 aF p1 q1=>?_⟩;split at q1
  ·rename_i i j;obtain⟨v,vs',rfl,p2,p3⟩:=p1.uncons;obtain⟨v2,vs2,rfl,p4,p5⟩:=p3.uncons;have z:=p5.unnil;subst z;cases p2;cases p4;obtain⟨hj,q1⟩:=q1;refine⟨i,j,rfl,λb hb=>?_⟩;refine⟨b,i,j,rfl,XB,hj,λc hc'=>?_⟩;have x1:Ext r1 r1 H1 (upd H1 b (.rng i j)):=Mg hb
   have aG:=aF.same (Xs (o:=.rng i j) hb);obtain⟨aH,x⟩:=aG.push (ds:=(List.range (j-i).toNat).map λ(k:Nat)=>D.int (i+(k:Int))) (xs:=(List.range (j-i).toNat).map λ(k:Nat)=>V.int (i+(k:Int))) hc' ⟨by simp,λi' d v hd hv=>by
    rw[zF] at hd hv;obtain⟨k,hk,rfl⟩:=zS.mp hd;rw[hk] at hv;cases hv;exact .int _⟩
   exact ret _ _ _ (.ref S1.length) _ (e1.trans (x1.trans x)) aH (VE aF.len) q1
  ·exact q1.elim
end
theorem Fc:∀ps:LI,eqL (eqN 1) (ps.map frD) (ps.map frD)=some true
 | []=>rfl
 | p::ps=>by
  have i:=Fc ps
  show (match eqN 1 (frD p) (frD p),eqL (eqN 1) (ps.map frD) (ps.map frD) with|some a,some b=>some (a&&b)|_,_=>none)=_;rw[i,show eqN 1 (frD p) (frD p)=some true by simp[eqN,frD,eqL,eqF,L3.eqT]];rfl
theorem zcr (h1:S[n]?=some (.lst xs))(h2:S[m]?=some (.lst ys))(e:eqL (eqN 1) xs ys=some b)(hq:Q (.bl (!b)) S):Y9 (Uh 1) (.ref n) (.ref m) S Q:=by
 rw[Wa];unfold Uh;simp only[Vw,ZX h1 rfl,ZX h2 rfl,Zs,e];exact hq
def fstD:D->D
 | .tup (x::_)=>x
 | _=>.non
theorem Ys {a b:TDS}{E:X1}{dl:Ev}{S:Sto}(W:Ev->Sto->Prop)(ha:∀nx:Ev->Sto->Prop,(∀dl' S',W dl' S'->nx dl' S')->a { nx:=nx,rt:=E.rt,bk:=E.bk,ct:=E.ct } dl S)(hb:∀dl' S',W dl' S'->b E dl' S'):Wx a b E dl S:=ha _ hb
theorem YF (o:Ob):Pre S (S++[o]):=λ_ _ e=>Zn e
theorem YA (h:Pre S T):Pre S (T++[o]):=λk u e=>Zn (h k u e)
theorem QB:(S++[o]).set S.length p=S++[p]:=by
 rw[List.set_append_right _ _ (zC _),yU];rfl
theorem Eb (hq:Q (.bl true) S):wEq eq2 (.int i) (.int i) S Q:=by
 unfold wEq;have ee:eq2 (.int i) (.int i)=some true:=by simp[eq2,eqF,L3.eqT]
 rw[ee];exact hq
theorem ID {q:Int}{ns:List Nd}{ws:List Nat}{bs ps vs:LI}{g:Int}(h:Z3 q ns ws)(hq:q=bs.length)(hqp:q=ps.length)(hg:1<=g)(hp:InW g bs ps)(pp:Pz 110 ps)(hl:vs.length<=ns.length)(hi:YN ((ns.take vs.length).map λv=>v.fw vs bs g) vs=true):∀k,k<=vs.length->InW g vs (ZD ps (ns.take k)):=by
 intro k
 induction k with
 | zero=>intro _ i hi;exact absurd hi.2 (by have:=hi.1;simp[ZD];lia)
 | succ k ih=>
  intro hk i hi';have hv:ns[k]?=some ns[k]:=zB (by lia)
  have hvs:vs[k]?=some vs[k]:=zB (by lia);obtain⟨ok,_⟩:=h.ok k _ hv;have lN:(ZD ps (ns.take k)).length=k:=by rw[XU,yP];lia
  rw[Wf hv,WY] at hi';rw[Wf hv,WY];have hi2:i<k+1:=by have:=hi'.2;simp only[zG,zT,yR,lN] at this;lia
  by_cases c:i<k
  ·rw[VC (by rw[lN];exact⟨hi'.1,c⟩)];exact ih (by lia) i (by rw[lN];exact⟨hi'.1,c⟩)
  ·have e:i=k:=by have:=hi'.1;lia
   subst e;rw[Tx lN,Xj hvs];have pz:Pz 1792 (ZD ps (ns.take k)):=λp hp=>by
    obtain⟨j,hj,e⟩:=xE.mp hp;have hj':j<k:=by rw[lN] at hj;exact hj
    obtain⟨a,b,c⟩:=V1 h hqp pp k (by lia) j p (by rw[zB hj,e]);have w:=(h.w1 (i:=(j:Int)) ⟨by lia,by lia⟩).2;rw[zI] at w;exact⟨a,b.mono (by lia),c.mono (by lia)⟩
   have pz':Pz 1792 ps:=λp hp=>⟨(pp p hp).1,(pp p hp).2.1.mono (by decide),(pp p hp).2.2.mono (by decide)⟩
   have z:=BW hg (ih (by lia)) hp pz pz' ns[k] (by rw[lN,<- hqp];exact ok)
   have ins:=OC.mp hi k (ns[k].fw vs bs g) vs[k] (by rw[zF,List.getElem?_take_of_lt (by lia),hv];rfl) hvs
   have dp:1<=(ns[k].due (ZD ps (ns.take k)) ps).2:=by
    have x:=V1 h hqp pp (k+1) (by lia) k (ns[k].due (ZD ps (ns.take k)) ps) (by rw[Wf hv,WY,yA (by lia),lN,yU];rfl);exact x.1
   have m1:=zH ins.1 (show 0<=(ns[k].due (ZD ps (ns.take k)) ps).2 by lia)
   have m2:=zH ins.2 (show 0<=(ns[k].due (ZD ps (ns.take k)) ps).2 by lia);exact⟨by lia,by lia⟩
theorem zbD (h:S[n]?=some (.lst xs))(hq:Q (.tup xs) S):irr Mv [.ref n] S Q:=by
 rw[VA];unfold Mv;simp only[ZX h rfl,Zs];exact hq
theorem F7 {a b c d:TDS}{E:X1}{dl:Ev}{S:Sto}(W:Ev->Sto->Prop)(ha:∀nx:Ev->Sto->Prop,(∀dl' S',W dl' S'->nx dl' S')->Wx a (Wx b c) { nx:=nx,rt:=E.rt,bk:=E.bk,ct:=E.ct } dl S)(hb:∀dl' S',W dl' S'->d E dl' S'):Wx a (Wx b (Wx c d)) E dl S:=ha _ hb
theorem Jt {S:Sto}{n:Nat}{xs:List D}(h:∀x∈xs,eqF x x=some true):Alk S (n+1) (.tup xs) (.tup xs):=.inr (.inl ⟨xs,xs,rfl,rfl,rfl,λk x y hx hy=>by
 rw[hx] at hy;cases hy;have e:=h x (zJ hx)
 have z:∀n:Nat,Alk S n x x:=λn=>by
  induction n with
  | zero=>exact e
  | succ n ih=>exact .inl ih
 exact z n⟩)
theorem alk0 {S:Sto}{x:D}(e:eqF x x=some true):∀n:Nat,Alk S n x x
 | 0=>e
 | n+1=>.inl (alk0 e n)
theorem Te {S:Sto}{n:Nat}(p:Int×Int):Alk S (n+1) (frD p) (frD p):=Jt λx hx=>by
 simp only[zO,yS,or_false] at hx;rcases hx with rfl|rfl<;>simp[eqF]
theorem CH (v:Nd):Alk S (n+1) v.d v.d:=by
 cases v<;>exact Jt λx hx=>by
  simp only[zO,yS,or_false] at hx
  first
   | (rcases hx with rfl|rfl|rfl<;>simp[eqF])
   | (rcases hx with rfl|rfl<;>simp[eqF])
theorem zcO (p:Bool×Nat):Alk S (n+1) (rwD p) (rwD p):=Jt λx hx=>by
 simp only[zO,yS,or_false] at hx;rcases hx with rfl|rfl<;>simp[eqF]
theorem WT {S:Sto}{n a b:Nat}{α:Type}{f:α->D}{xs:List α}(hf:∀x,Alk S n (f x) (f x))(h1:S[a]?=some (.lst (xs.map f)))(h2:S[b]?=some (.lst (xs.map f))):Alk S (n+1) (.ref a) (.ref b):=.inr (.inr ⟨a,b,_,_,rfl,rfl,h1,h2,rfl,λk x y hx hy=>by
 rw[hx] at hy;cases hy;obtain⟨q,_,rfl⟩:=zN.mp (zJ hx);exact hf q⟩)
theorem zaf {U:Int}{q:Nat}{s:Nat->Int}{f l:Int×Int}{r t:Nat->Int×Int}(h:Dif U q s f l r)(e:∀k,k<q->(t k).1<=(r k).1/\(r k).2<=(t k).2):Dif U q s f l t:=by
 obtain⟨d,n,p,b,x⟩:=h;refine⟨d,n,p,λk hk=>?_,x⟩;have m1:=zH (e k hk).1 (show 0<=d by lia)
 have m2:=zH (e k hk).2 (show 0<=d by lia)
 have:=b k hk;lia
theorem DY {q:Nat}{ns:List Nd}{ws:List Nat}{bs ps rs vs:LI}{R:List LI}{g U:Int}{s:Nat->Int}(h:Z3 q ns ws)(hb:q=bs.length)(hp:q=ps.length)(hr:q=rs.length)(hg:1<=g)(ip:InW g bs ps)(ir:InW g bs rs)(zp:Pz 110 ps)(zr:Pz 110 rs)
  (lv:vs.length=ns.length)(iv:YN ((ns.take vs.length).map λv=>v.fw vs bs g) vs=true)(iR:∀(k:Nat)(v:Nd),ns[k]?=some v->∀l,l<q->(gs R (k:Int) l).1<=(v.sl vs R g l).1/\(v.sl vs R g l).2<=(gs R (k:Int) l).2)
  (un:∀j:Int,inR q j->Dif U q s (gt ps j) (gt rs j) (λl=>if (l:Int)=j then (g,g) else (0,0))):
  ∀k:Nat,k<=ns.length->∀i:Int,inR k i->Dif U q s (gt (ZD ps (ns.take k)) i) (gt (ZD rs (ns.take k)) i) (λl=>gs R i l):=by
 intro k
 induction k with
 | zero=>intro _ i hi;exact absurd hi.2 (by have:=hi.1;lia)
 | succ k ih=>
  intro hk i hi;have hv:ns[k]?=some ns[k]:=zB (by lia);obtain⟨ok,_⟩:=h.ok k _ hv;have l1:(ZD ps (ns.take k)).length=k:=by rw[XU,yP];lia
  have l2:(ZD rs (ns.take k)).length=k:=by rw[XU,yP];lia
  rw[Wf hv,WY,WY];by_cases c:i<k
  ·rw[VC (by rw[l1];exact⟨hi.1,c⟩),VC (by rw[l2];exact⟨hi.1,c⟩)];exact ih (by lia) i ⟨hi.1,c⟩
  ·have e:i=k:=by have:=hi.2;lia
   subst e;rw[Tx l1,Tx l2];have w16:∀j:Nat,j<(ZD ps (ns.take k)).length->ws.getD j 0<=16:=λj hj=>(h.w1 (i:=j) ⟨by lia,by lia⟩).2
   have w16':∀j:Nat,j<(ZD rs (ns.take k)).length->ws.getD j 0<=16:=λj hj=>(h.w1 (i:=j) ⟨by lia,by lia⟩).2
   have p1:Pz 1800 (ZD ps (ns.take k)):=Pz.of_w (V1 h (by rw[hp]) zp k (by lia)) w16
   have p2:Pz 1800 (ZD rs (ns.take k)):=Pz.of_w (V1 h (by rw[hr]) zr k (by lia)) w16'
   have i1:=ID h (by rw[hb]) (by rw[hp]) hg ip zp (by lia) iv k (by lia)
   have i2:=ID h (by rw[hb]) (by rw[hr]) hg ir zr (by lia) iv k (by lia)
   have in1:∀j:Int,inR k j->(gt vs j).1*(gt (ZD ps (ns.take k)) j).2<=(gt (ZD ps (ns.take k)) j).1*g/\(gt (ZD ps (ns.take k)) j).1*g<=(gt vs j).2*(gt (ZD ps (ns.take k)) j).2:=λj hj=>i1 j (by rw[l1];exact hj)
   have in2:∀j:Int,inR k j->(gt vs j).1*(gt (ZD rs (ns.take k)) j).2<=(gt (ZD rs (ns.take k)) j).1*g/\(gt (ZD rs (ns.take k)) j).1*g<=(gt vs j).2*(gt (ZD rs (ns.take k)) j).2:=λj hj=>i2 j (by rw[l2];exact hj)
   have q1:∀j:Int,inR k j->1<=(gt (ZD ps (ns.take k)) j).2:=λj hj=>(p1.at (by rw[l1];exact hj)).1
   have q2:∀j:Int,inR k j->1<=(gt (ZD rs (ns.take k)) j).2:=λj hj=>(p2.at (by rw[l2];exact hj)).1
   have ih':=ih (by lia);refine zaf (r:=λl=>(ns[k]).sl vs R g l) ?_ (iR k _ hv);clear hv;generalize ns[k]=v at ok;cases v with
   | number t b=>exact Ba (t,b)
   | unknown j=>exact un j ok
   | plus a b=>exact zdD (ih' a ok.1) (ih' b ok.2)
   | minus a b=>exact Ai (ih' a ok.1) (ih' b ok.2)
   | times a b=>exact Cg hg (ih' a ok.1) (ih' b ok.2) (q1 a ok.1) (q2 b ok.2) (in1 a ok.1) (in2 b ok.2)
   | power a n=>exact EV hg ok.2.1 (ih' a ok.1) (q1 a ok.1) (q2 a ok.1) (in1 a ok.1) (in2 a ok.1)
theorem Fs (P Q:LI)(hP:∀p∈P,1<=p.2)(hQ:∀p∈Q,1<=p.2):∀q:Nat,q<=P.length->q<=Q.length->∃(K:Int)(s:Nat->Int),1<=K/\∀j:Nat,j<q->((gt P (j:Int)).1*(gt Q (j:Int)).2-(gt Q (j:Int)).1*(gt P (j:Int)).2)*K=(gt P (j:Int)).2*(gt Q (j:Int)).2*s j
 | 0,_,_=>⟨1,λ_=>0,by decide,λj h=>by lia⟩
 | q+1,h1,h2=>by
  obtain⟨K,s,hK,hs⟩:=Fs P Q hP hQ q (by lia) (by lia);have b1:1<=(gt P (q:Int)).2:=by rw[Xj (zB (show q<P.length by lia))];exact hP _ (yI ..)
  have b2:1<=(gt Q (q:Int)).2:=by rw[Xj (zB (show q<Q.length by lia))];exact hQ _ (yI ..)
  refine⟨K*((gt P (q:Int)).2*(gt Q (q:Int)).2),λj=>if j=q then ((gt P (q:Int)).1*(gt Q (q:Int)).2-(gt Q (q:Int)).1*(gt P (q:Int)).2)*K else s j*((gt P (q:Int)).2*(gt Q (q:Int)).2),yF (by lia) (yF (by lia) (by lia)),λj hj=>?_⟩;by_cases c:j=q
  ·subst c;simp only[if_true];grind
  ·simp only[if_neg c];have z:=hs j (by lia);rw[<- Int.mul_assoc,z,Int.mul_assoc]
theorem zdb {f l:Int×Int}{g K x:Int}{q:Nat}{s:Nat->Int}{j:Int}(hj:inR q j)(hs:s j.toNat=x)(e:(f.1*l.2-l.1*f.2)*K=f.2*l.2*x):Dif (g*K) q s f l (λl=>if (l:Int)=j then (g,g) else (0,0)):=by
 refine⟨1,λl=>if (l:Int)=j then g else 0,by decide,λk hk=>?_,?_⟩
 ·by_cases e:(k:Int)=j
  ·simp only[if_pos e];lia
  ·simp only[if_neg e];lia
 ·rw[Ex,if_pos (show 0<=j/\j<(q:Int) from hj),hs]
  try dsimp only
  grind
theorem zdo {q:Nat}{ns:List Nd}{ws:List Nat}{bs P P2 vs aC:LI}{R:List LI}{g:Int}(net:Z3 q ns ws)(hb:q=bs.length)(hp:q=P.length)(hp2:q=P2.length)(ob:∀p∈bs,p.1<=p.2)(hg:1<=g/\g<=1000000)(ip:InW g bs P)(ip2:InW g bs P2)(zp:Pz 110 P)(zp2:Pz 110 P2)
  (lv:vs.length=ns.length)(iv:YN ((ns.take vs.length).map λv=>v.fw vs bs g) vs=true)(iR:∀(k:Nat)(v:Nd),ns[k]?=some v->∀l,l<q->(gs R (k:Int) l).1<=(v.sl vs R g l).1/\(v.sl vs R g l).2<=(gs R (k:Int) l).2)(lt:aC.length=ns.length)(ot:∀p∈aC,p.1<=p.2)
  {is:List Nat}(his:∀i∈is,i<ns.length)(same:∀i∈is,(gt (ZD P ns) (i:Int)).1*(gt (ZD P2 ns) (i:Int)).2=(gt (ZD P2 ns) (i:Int)).1*(gt (ZD P ns) (i:Int)).2){M:List (List Int)}(lM:M.length=q)(lE:∀es∈M,es.length=is.length)
  (dp:∀(k:Nat)(es:List Int),M[k]?=some es->(gt bs (k:Int)).1<(YG g bs (is.map λ(i:Nat)=>gt aC i) (is.map λ(i:Nat)=>R.getD i []) k es).1/\(YG g bs (is.map λ(i:Nat)=>gt aC i) (is.map λ(i:Nat)=>R.getD i []) k es).2<(gt bs (k:Int)).2):∀k:Nat,k<q->(gt P (k:Int)).1*(gt P2 (k:Int)).2=(gt P2 (k:Int)).1*(gt P (k:Int)).2:=by
 obtain⟨K,s,hK,hs⟩:=Fs P P2 (λp h=>(zp p h).1) (λp h=>(zp2 p h).1) q (by lia) (by lia);have un:∀j:Int,inR q j->Dif (g*K) q s (gt P j) (gt P2 j) (λl=>if (l:Int)=j then (g,g) else (0,0)):=λj hj=>by
  have ej:((j.toNat:Nat):Int)=j:=by have:=hj.1;lia
  have z:=hs j.toNat (by have:=hj.2;have:=hj.1;lia);rw[ej] at z;exact zdb hj rfl z
 have dif:=DY (s:=s) (U:=g*K) net hb hp hp2 hg.1 ip ip2 zp zp2 lv iv iR un ns.length (zC _);rw[wD] at dif;have w16:∀j:Nat,j<ns.length->ws.getD j 0<=16:=λj hj=>(net.w1 (i:=j) ⟨by lia,by lia⟩).2
 have pzP2:Pz 1800 (ZD P2 ns):=by
  have z:=V1 net (by rw[hp2]) zp2 ns.length (zC _);rw[wD] at z;exact Pz.of_w z λj hj=>w16 j (by rw[XU] at hj;exact hj)
 have pzP:Pz 1800 (ZD P ns):=by
  have z:=V1 net (by rw[hp]) zp ns.length (zC _);rw[wD] at z;exact Pz.of_w z λj hj=>w16 j (by rw[XU] at hj;exact hj)
 have ex:∀j:Nat,∃dn:Int×(Nat->Int),∀i,is[j]?=some i->1<=dn.1/\(∀l,l<q->(gs R (i:Int) l).1*dn.1<=dn.2 l/\dn.2 l<=(gs R (i:Int) l).2*dn.1)/\Yr q (λl=>dn.2 l*s l)=0:=λj=>by
  cases e:is[j]? with
  | none=>exact⟨(1,λ_=>0),λi h=>by cases h⟩
  | some i=>
   have hi:=his i (zJ e);obtain⟨d,n,h1,h2,h3⟩:=dif (i:Int) ⟨by lia,by lia⟩;refine⟨(d,n),λi' h=>by
    cases h;refine⟨h1,h2,?_⟩;have sm:=same i (zJ e)
    have rP:inR ((ZD P ns).length:Nat) (i:Int):=⟨by lia,by rw[XU];lia⟩
    have rC:inR ((ZD P2 ns).length:Nat) (i:Int):=⟨by lia,by rw[XU];lia⟩
    have p1:=(pzP.at rP).1
    have p2:=(pzP2.at rC).1
    have e0:(gt (ZD P ns) (i:Int)).1*(gt (ZD P2 ns) (i:Int)).2-(gt (ZD P2 ns) (i:Int)).1*(gt (ZD P ns) (i:Int)).2=0:=by lia
    rw[e0,xB,xB] at h3;have pos:0<(gt (ZD P ns) (i:Int)).2*(gt (ZD P2 ns) (i:Int)).2:=yF (by lia) (by lia);rcases Int.mul_eq_zero.mp h3.symm with z|z
    ·lia
    ·exact z⟩
 obtain⟨dn,hdn⟩:=Classical.skolem.mp ex;have sIn:∀c:Nat,c<q->∀(j:Nat)(p:Int×Int),((is.map λ(i:Nat)=>R.getD i []).map λr=>r.getD c (0,0))[j]?=some p->In p (((dn j).2 c:Rat)/((dn j).1:Rat)):=λc hc j p hj=>by
  rw[zF,zF] at hj;cases e:is[j]? with
  | none=>rw[e] at hj;cases hj
  | some i=>
   rw[e] at hj;cases hj;obtain⟨h1,h2,_⟩:=hdn j i e;obtain⟨h3,h4⟩:=h2 c hc;have z1:gs R (i:Int) c=(R.getD i []).getD c (0,0):=by
    unfold gs;rw[zI]
   rw[z1] at h3 h4;exact⟨zcl h1 h3,As h1 h4⟩
 have ot':∀p∈(is.map λ(i:Nat)=>gt aC i),p.1<=p.2:=λp hp=>by
  obtain⟨i,him,rfl⟩:=zN.mp hp;have hi:=his i him;rw[Xj (zB (show i<aC.length by lia))];exact ot _ (yI ..)
 intro k hk;have z:=GU (e:=is.length) hg.1 hb.symm (by rw[zA]) (by rw[zA]) lM lE ob ot' dp (λj c=>((dn j).2 c:Rat)/((dn j).1:Rat)) sIn (λl=>((s l:Int):Rat)) (λj hj=>?_) k hk
 ·have z2:((s k:Int):Rat)=((0:Int):Rat):=z
  have z3:=Rat.intCast_inj.mp z2
  have z4:=hs k hk;rw[z3,Int.mul_zero] at z4;rcases Int.mul_eq_zero.mp z4 with y|y<;>lia
 ·obtain⟨h1,_,h3⟩:=hdn j _ (zB hj);have c:=GP (λl=>(dn j).2 l*s l) q;rw[h3] at c;have e:(ZA q λl=>((dn j).2 l:Rat)/((dn j).1:Rat)*((s l:Int):Rat))=(1/((dn j).1:Rat))*ZA q λl=>(((dn j).2 l*s l:Int):Rat):=by
   rw[<- Vz];refine Wt q λl _=>?_
   rw[Rat.intCast_mul];generalize ((dn j).2 l:Rat)=x;generalize ((s l:Int):Rat)=y;generalize ((dn j).1:Rat)=u;grind
  rw[e,<- c];show 1/((dn j).1:Rat)*((0:Int):Rat)=0;grind
theorem Cu {S:Sto}{lo:Nat}{ds:List D}{R:List LI}(h:Z8 S lo ds R){is:List Nat}(hi:∀i∈is,i<R.length):Z8 S lo (is.map λi=>ds.getD i .non) (is.map λi=>R.getD i []):=⟨by rw[zA,zA],λk d r hd hr=>by
 rw[zF] at hd hr;cases e:is[k]? with
 | none=>rw[e] at hd;cases hd
 | some i=>
  rw[e] at hd hr;cases hd;cases hr;have l:=hi i (zJ e)
  have l2:i<ds.length:=by rw[h.1];exact l
  refine h.2 i _ _ ?_ ?_
  ·show ds[i]?=some (ds.getD i .non);rw[zK,zB l2];rfl
  ·show R[i]?=some (R.getD i []);rw[zK,zB l];rfl⟩
theorem BY {vs:LI}{is:List Nat}(hi:∀i∈is,i<vs.length):(is.map λi=>(vs.map frD).getD i .non)=(is.map λ(i:Nat)=>gt vs (i:Int)).map frD:=by
 rw[zZ];refine List.map_congr_left λi h=>?_
 have l:=hi i h
 show (vs.map frD).getD i .non=frD (gt vs (i:Int));rw[Xj (zB l),zK,zF,zB l];rfl
def W6 (g:Int)(bs aC:LI)(R:List LI)(is:List Nat)(M:List (List Int)):LI:=M.mapIdx λk es=>YG g bs (is.map λ(i:Nat)=>gt aC (i:Int)) (is.map λi=>R.getD i []) k es
structure Xx (S:Sto)(d:D)(M:List (List Int))(aE vs aC:LI)(R:List LI):Prop where
 ex:∃(a b c e f:Nat)(ms ds:List D),d=.tup [.str "one",.ref a,.ref b,.ref c,.ref e,.ref f]/\S[a]?=some (.lst ms)/\Xr S ms M/\S[b]?=some (.lst (aE.map frD))/\S[c]?=some (.lst (vs.map frD))/\S[e]?=some (.lst (aC.map frD))/\S[f]?=some (.lst ds)/\Z8 S 0 ds R
theorem Xx.pre (h:Xx S d M aE vs aC R)(p:Pre S T):Xx T d M aE vs aC R:=by
 obtain⟨a,b,c,e,f,ms,ds,h0,h1,h2,h3,h4,h5,h6,h7⟩:=h.ex;exact⟨a,b,c,e,f,ms,ds,h0,p _ _ h1,h2.pre p,p _ _ h3,p _ _ h4,p _ _ h5,p _ _ h6,h7.pre p⟩
def TH (S:Sto)(nd rw bx:Nat)(g:Int)(d:D)(ans:Bool):Prop:=∃(ns:List Nd)(ws:List Nat)(rows:List (Bool×Nat))(bs aE vs aC:LI)(M:List (List Int))(R:List LI),S[nd]?=some (.lst (ns.map Nd.d))/\S[rw]?=some (.lst (rows.map rwD))/\S[bx]?=some (.lst (bs.map frD))/\Xx S d M aE vs aC R/\Z3 bs.length ns ws/\ns.length<=900/\rows.length<=900/\(vs.length=ns.length/\aC.length=ns.length/\R.length=ns.length)/\Spn 1000 vs/\Spn 1000 aC/\YN ((ns.take vs.length).map λv=>v.fw vs bs g) vs=true/\YN ((ns.take aC.length).map λv=>v.fw aC (bs.map Z5) g) aC=true/\(∀r∈rows,r.2<ns.length)/\SlW bs.length ws R/\(slB vs R g bs.length ns).all id=true/\(eqs rows).length=bs.length/\M.length=bs.length/\(∀r∈M,r.length=bs.length/\∀x∈r,Sz 4000 x)/\aE.length=bs.length/\(1<=bs.length/\bs.length<=4)/\Bd 60 bs/\(1<=g/\g<=1000000)/\ans=(U7 rows vs&&(YN (W6 g bs aC R (eqs rows) M) aE&&V3 aE bs))
theorem TH.pre (h:TH S nd rw bx g d ans)(p:Pre S T):TH T nd rw bx g d ans:=by
 obtain⟨ns,ws,rows,bs,aE,vs,aC,M,R,h1,h2,h3,h4,h5⟩:=h;exact⟨ns,ws,rows,bs,aE,vs,aC,M,R,p _ _ h1,p _ _ h2,p _ _ h3,h4.pre p,h5⟩
def Vp (ns:List Nd)(bs:LI)(g:Int)(us:LI):Prop:=∀(k:Nat)(v:Nd)(p:Int×Int),ns[k]?=some v->us[k]?=some p->p.1<=(v.fw us bs g).1/\(v.fw us bs g).2<=p.2
theorem Af (net:Z3 q ns ws)(h:Vp ns bs g us)(hv:ns[us.length]?=some v)(hp:p.1<=(v.fw us bs g).1/\(v.fw us bs g).2<=p.2):Vp ns bs g (us++[p]):=λk w r hw hr=>by
 have co:∀(j:Nat)(u:Nd),j<=us.length->ns[j]?=some u->u.fw (us++[p]) bs g=u.fw us bs g:=λj u hj hu=>AW (k:=j) (q:=(q:Int)) (λi hi=>VC ⟨hi.1,by have:=hi.2;lia⟩) u (net.ok j u hu).1
 have l:=(zD.mp hr).1;rw[zG,List.length_singleton] at l;rw[co k w (by lia) hw];by_cases c:k<us.length
 ·rw[zQ c] at hr;exact h k w r hw hr
 ·have e:k=us.length:=by lia
  subst e;rw[yA (zC _),yU] at hr;cases hr;rw[hv] at hw;cases hw;exact hp
theorem HH {ns:List Nd}{bs us:LI}{g:Int}(h:Vp ns bs g us):YN ((ns.take us.length).map λv=>v.fw us bs g) us=true:=by
 rw[OC];intro k p r hp hr;rw[zF] at hp;obtain⟨v,hv,rfl⟩:=zS.mp hp;have l:=(zD.mp hr).1;rw[List.getElem?_take_of_lt l] at hv;exact h k v r hv hr
theorem La (ha:Sz n a)(hn:21<=n)(h:x.natAbs<=10^6):Sz (n+1) (a-x)/\Sz (n+1) (a+x):=by
 unfold Sz at *
 have p:(2:Nat)^21<=2^n:=Nat.pow_le_pow_right (by decide) hn
 have e:(2:Nat)^(n+1)=2*2^n:=by rw[Nat.pow_succ,Nat.mul_comm]
 lia
def mxI (a b:Int):Int:=if a<b then b else a
def mnI (a b:Int):Int:=if b<a then b else a
theorem Gq {t b g u v:Int}(tb:t.natAbs<=10^8+1)(bb:1<=b)(hg:1<=g/\g<=1000000):(t*g/b<=-(-t*g/b)/\(t*g/b).natAbs<=2^48/\(-(-t*g/b)).natAbs<=2^48)/\(t*g/b*b<=t*g/\t*g<=-(-t*g/b)*b):=by
 have l:=Vf (t*g) (show 0<b by lia)
 have h:=Q8 (t*g) (show 0<b by lia);rw[yO];have tg:(t*g).natAbs<=2*10^14:=by
  rw[xV];exact yH (xM tb (show g.natAbs<=10^6 by lia)) (by decide)
 generalize t*g=x at *
 have le:x/b<=-(-x/b):=by
  have:=yT (yG l.1 h.1) (show 0<b by lia);exact this
 have a1:(x/b).natAbs<2^48:=(Sz.of (n:=48) (2*10^14) tg).div bb
 have a2:(-x/b).natAbs<2^48:=(Sz.of (n:=48) (i:=-x) (2*10^14) (by lia)).div bb;exact⟨⟨le,by lia,by lia⟩,l.1,h.1⟩
theorem BM {t b t2 b2 g u v m M:Int}(tb:t.natAbs<=10^8+1)(bb:1<=b)(tb2:t2.natAbs<=10^8+1)(bb2:1<=b2)(hg:1<=g/\g<=1000000)(hu:0<=u/\u<8*10^14)(hv:0<=v/\v<8*10^14)
  (hm:m=t*g/b\/m=t2*g/b2)(m1:m<=t*g/b)(m2:m<=t2*g/b2)(hM:M=-(-t*g/b)\/M=-(-t2*g/b2))(M1:-(-t*g/b)<=M)(M2:-(-t2*g/b2)<=M):
  (m-u<=M+v/\Sz 51 (m-u)/\Sz 51 (M+v))/\((m-u)*b<=t*g/\t*g<=(M+v)*b)/\((m-u)*b2<=t2*g/\t2*g<=(M+v)*b2):=by
 obtain⟨⟨a1,a2,a3⟩,a4,a5⟩:=Gq (u:=u) (v:=v) tb bb hg;obtain⟨⟨c1,c2,c3⟩,c4,c5⟩:=Gq (u:=u) (v:=v) tb2 bb2 hg;refine⟨⟨by lia,Sz.of (12*10^14) (by lia),Sz.of (12*10^14) (by lia)⟩,⟨?_,?_⟩,?_,?_⟩
 ·exact yG (zH (show m-u<=t*g/b by lia) (by lia)) a4
 ·exact yG a5 (zH (show -(-t*g/b)<=M+v by lia) (by lia))
 ·exact yG (zH (show m-u<=t2*g/b2 by lia) (by lia)) c4
 ·exact yG c5 (zH (show -(-t2*g/b2)<=M+v by lia) (by lia))
theorem F1 {g:Int}{k:Nat}{B P:LI}{p r:Int×Int}(lB:B.length=k)(lP:P.length=k)(iw:InW g B P)(h:p.1*r.2<=r.1*g/\r.1*g<=p.2*r.2):InW g (B++[p]) (P++[r]):=λi hi=>by
 have hi2:=hi.2;simp only[zG,zT,yR] at hi2;by_cases ci:i<k
 ·rw[VC (by rw[lB];exact⟨hi.1,ci⟩),VC (by rw[lP];exact⟨hi.1,ci⟩)];exact iw i (by rw[lP];exact⟨hi.1,ci⟩)
 ·have e:i=k:=by have:=hi.1;lia
  subst e;rw[Tx lB,Tx lP];exact h
theorem zcj (h:∀l,l<q->f l=0):ZA q f=0:=by
 have e:ZA q f=ZA q (λl=>0*f l):=Wt q λl hl=>by rw[h l hl,Rat.zero_mul]
 rw[e,Vz,Rat.zero_mul]
theorem zdC {q:Nat}{g:Int}(hg:1<=g){bs aC:LI}{R:List LI}{M:List (List Int)}(hq:q=1\/q=2)(lb:bs.length=q)(lt:aC.length=q)(lR:R.length=q)(lM:M.length=q)(lE:∀es∈M,es.length=q)(ob:∀p∈bs,p.1<=p.2)(ot:∀p∈aC,p.1<=p.2)
  (oR:∀r∈R,∀c:Nat,c<q->(r.getD c (0,0)).1<=(r.getD c (0,0)).2)
  (zr:∀c:Nat,c<q->((R.getD 0 []).getD c (0,0)).1<=0/\0<=((R.getD 0 []).getD c (0,0)).2)
  (dp:∀(k:Nat)(es:List Int),M[k]?=some es->(gt bs (k:Int)).1<(YG g bs aC R k es).1/\(YG g bs aC R k es).2<(gt bs (k:Int)).2):False:=by
 have inj:∀(j:Nat)(r:LI)(c:Nat),R[j]?=some r->c<q->In (r.getD c (0,0)) (if j=0 then (0:Rat) else (((R.getD 1 []).getD c (0,0)).1:Rat)):=λj r c hr hc=>by
  have lj:=(zD.mp hr).1;by_cases e:j=0
  ·rw[if_pos e];subst e;have z:=zr c hc
   have er:R.getD 0 []=r:=by rw[zK,hr];rfl
   rw[er] at z;exact⟨Rat.intCast_le_intCast.mpr z.1,Rat.intCast_le_intCast.mpr z.2⟩
  ·rw[if_neg e];have e1:j=1:=by lia
   subst e1;have er:R.getD 1 []=r:=by rw[zK,hr];rfl
   rw[er];exact⟨Rat.le_refl,Rat.intCast_le_intCast.mpr (oR r (zJ hr) c hc)⟩
 have key:∀w:Nat->Rat,ZA q (λl=>(((R.getD 1 []).getD l (0,0)).1:Rat)*w l)=0\/q=1->∀k,k<q->w k=0:=λw hw=>by
  refine GU hg lb lt lR lM lE ob ot dp (λj c=>if j=0 then (0:Rat) else (((R.getD 1 []).getD c (0,0)).1:Rat)) (λc hc j p hj=>?_) w (λj hj=>?_)
  ·rw[zF] at hj;obtain⟨r,hr,rfl⟩:=zS.mp hj;exact inj j r c hr hc
  ·by_cases e:j=0
   ·subst e;exact zcj λl _=>by simp only[if_true];exact Rat.zero_mul _
   ·have e1:j=1/\q=2:=by lia
    rcases hw with hw|hw
    ·simp only[if_neg e];exact hw
    ·lia
 rcases hq with rfl|rfl
 ·have z:=key (λ_=>1) (.inr rfl) 0 (by decide);exact absurd z (by decide)
 ·generalize ea:(((R.getD 1 []).getD 0 (0,0)).1:Rat)=a at key;generalize eb:(((R.getD 1 []).getD 1 (0,0)).1:Rat)=b at key;have rs:∀f:Nat->Rat,ZA 2 f=f 0+f 1:=λf=>by
   simp only[ZA]
   try grind
  by_cases ca:a=0
  ·have z:=key (λl=>if l=0 then 1 else 0) (.inl (by rw[rs];simp only[ea,eb,ca];grind)) 0 (by decide);exact absurd z (by decide)
  ·have z:=key (λl=>if l=0 then b else -a) (.inl (by rw[rs];simp only[ea,eb];simp;grind)) 1 (by decide);simp at z;grind
theorem Eo {to ti te:TDE}{dl:Ev}{S:Sto}{E:X1}{n:Nat}{k:Int}(W:D->Sto->Prop)(hte:∀K:DK,(∀v S1,W v S1->K v S1)->te dl S K)(hto:∀(S1:Sto)(K:DK),K (.ref n) S1->to dl S1 K)(hti:∀(S1:Sto)(K:DK),K (.int k) S1->ti dl S1 K)(h:∀v S1,W v S1->∃(xs:List D)(j:Nat),S1[n]?=some (.lst xs)/\ixN xs.length k=some j/\E.nx dl (S1.set n (.lst (xs.set j v)))):UT to ti te E dl S:=by
 unfold UT;refine hte _ λv S1 hw=>hto _ _ (hti _ _ ?_)
 obtain⟨xs,j,h1,h2,h3⟩:=h v S1 hw;simp only[h1,h2];exact h3
def Zb (P P2:LI)(ns:List Nd)(ws:List Nat)(w i:Nat):Prop:=Zr P ns ws w i/\Zr P2 ns ws w i
theorem Zb.up (z:Zb P P2 ns ws w i)(h:Gr q a c S ns ws T ns' ws')(net:Z3 q ns ws):Zb P P2 ns' ws' w i:=⟨z.1.up h net,z.2.up h net⟩
def Qa (P:LI)(ns:List Nd)(i:Nat):Prop:=∃s o f:Nat,ns[i]?=some (.plus s o)/\ns[s]?=some (.power f 2)/\ns[o]?=some (.number 1 1)/\f<ns.length/\(gt (ZD P ns) (f:Int)).1=0
theorem Ef {x g:Int}(h:x<=0)(hg:1<=g):x/g<=0:=by
 have z:=(Vf x (show 0<g by lia)).1;rcases xO (x/g) 0 with c|c
 ·exact c
 ·by_cases e:x/g=0
  ·lia
  ·have:=yF (show 0<x/g by lia) (show 0<g by lia);lia
theorem AY {p q:Int×Int}{g:Int}(hg:1<=g)(h:p.1<=0/\0<=p.2)(hq:q.1<=q.2):(Z7 p q g).1<=0/\0<=(Z7 p q g).2:=by
 have e:mn4 p.1 p.2 q.1 q.2<=0/\0<=mx4 p.1 p.2 q.1 q.2:=by
  obtain⟨a,b⟩:=p;obtain⟨c,d⟩:=q;dsimp only at h hq ⊢;rcases xO 0 c with z|z
  ·have m1:=zY (show 0<=-a by lia) z
   have m2:=zY h.2 z;rw[yO] at m1;unfold mn4 mx4;lia
  ·have m1:=zY (show 0<=-a by lia) (show 0<=-c by lia)
   have m2:=zY h.2 (show 0<=-c by lia);rw[yO,Int.mul_neg] at m1;rw[Int.mul_neg] at m2;unfold mn4 mx4;lia
 constructor
 ·show mn4 p.1 p.2 q.1 q.2/g<=0;exact Ef e.1 hg
 ·show 0<=-(-mx4 p.1 p.2 q.1 q.2/g)
  have:=Ef (show -mx4 p.1 p.2 q.1 q.2<=0 by lia) hg;lia
theorem zc2 {p:Int×Int}{g:Int}(h:p.1<=0/\0<=p.2):(Yq p 2 g).1<=0/\0<=(Yq p 2 g).2:=by
 unfold Yq;have e1:((2:Int)-1).toNat=1:=rfl;rw[e1];simp only[yU,xK,Int.ediv_one];unfold ZU Yg;rw[show p.1^1=p.1 by exact zU p.1 0 ▸ by simp,show p.2^1=p.2 by exact zU p.2 0 ▸ by simp];simp;lia
theorem By {q:Nat}{ns:List Nd}{ws:List Nat}{bs P vs:LI}{R:List LI}{g:Int}{i:Nat}(net:Z3 q ns ws)(hb:q=bs.length)(hp:q=P.length)(hg:1<=g)(ip:InW g bs P)(zp:Pz 110 P)(lv:vs.length=ns.length)(iv:YN ((ns.take vs.length).map λv=>v.fw vs bs g) vs=true)
  (oR:∀k:Nat,k<ns.length->∀l,l<q->(gs R (k:Int) l).1<=(gs R (k:Int) l).2)(iR:∀(k:Nat)(v:Nd),ns[k]?=some v->∀l,l<q->(gs R (k:Int) l).1<=(v.sl vs R g l).1/\(v.sl vs R g l).2<=(gs R (k:Int) l).2)(h:Qa P ns i):∀l,l<q->(gs R (i:Int) l).1<=0/\0<=(gs R (i:Int) l).2:=λl hl=>by
 obtain⟨s,o,f,hi,hs,ho,hf,df⟩:=h;have i1:=ID net (by rw[hb]) (by rw[hp]) hg ip zp (by lia) iv ns.length (by lia);rw[wD] at i1;have z:=i1 (f:Int) ⟨by lia,by rw[XU];lia⟩
 have w16:∀j:Nat,j<ns.length->ws.getD j 0<=16:=λj hj=>(net.w1 (i:=j) ⟨by lia,by lia⟩).2
 have pzP:Pz 1800 (ZD P ns):=by
  have z:=V1 net (by rw[hp]) zp ns.length (zC _);rw[wD] at z;exact Pz.of_w z λj hj=>w16 j (by rw[XU] at hj;exact hj)
 have bf:=(pzP.at (i:=(f:Int)) ⟨by lia,by rw[XU];lia⟩).1;rw[df,xB] at z;have v0:(gt vs (f:Int)).1<=0/\0<=(gt vs (f:Int)).2:=by
  constructor
  ·rcases xO (gt vs (f:Int)).1 0 with c|c
   ·exact c
   ·by_cases e:(gt vs (f:Int)).1=0
    ·lia
    ·have:=yF (show 0<(gt vs (f:Int)).1 by lia) (show 0<(gt (ZD P ns) (f:Int)).2 by lia);lia
  ·rcases xO 0 (gt vs (f:Int)).2 with c|c
   ·exact c
   ·by_cases e:(gt vs (f:Int)).2=0
    ·lia
    ·have:=yF (show 0 < -(gt vs (f:Int)).2 by lia) (show 0<(gt (ZD P ns) (f:Int)).2 by lia);rw[yO] at this;lia
 have s1:=iR s _ hs l hl
 have o1:=iR o _ ho l hl
 have p1:=iR i _ hi l hl
 have m:=AY hg (zc2 (g:=g) v0) (oR f hf l hl)
 have s2:(gs R (s:Int) l).1<=(Z7 (Yq (gt vs (f:Int)) 2 g) (gs R (f:Int) l) g).1/\(Z7 (Yq (gt vs (f:Int)) 2 g) (gs R (f:Int) l) g).2<=(gs R (s:Int) l).2:=s1
 have o2:(gs R (o:Int) l).1<=0/\0<=(gs R (o:Int) l).2:=o1
 have p2:(gs R (i:Int) l).1<=(gs R (s:Int) l).1+(gs R (o:Int) l).1/\(gs R (s:Int) l).2+(gs R (o:Int) l).2<=(gs R (i:Int) l).2:=p1;lia
theorem BB (ho:S[n]?=some o)(hd:atI (Zs o) i=some d)(hq:Q d S)(hL:Xf o=some o:=by rfl):wIx (.ref n) (.int i) S Q:=by
 unfold wIx;simp only[ZX ho hL,hd];exact hq
def Xl (S:Sto)(lo:Nat)(ds:List D)(M:List (List Int)):Prop:=ds.length=M.length/\∀(k:Nat)(d:D)(r:List Int),ds[k]?=some d->M[k]?=some r->∃a,d=.ref a/\lo<=a/\S[a]?=some (.lst (r.map D.int))
theorem Xl.nil {S:Sto}{lo:Nat}:Xl S lo [] []:=⟨rfl,λk d r h=>by simp at h⟩
theorem Xl.keep {S T:Sto}{lo:Nat}{ds:List D}{R:List (List Int)}(h:Xl S lo ds R)(p:∀(x:Nat)(o:Ob),lo<=x->S[x]?=some o->T[x]?=some o):Xl T lo ds R:=⟨h.1,λk d r hd hr=>by
 obtain⟨a,e,l,s⟩:=h.2 k d r hd hr;exact⟨a,e,l,p _ _ l s⟩⟩
theorem Xl.toI {S:Sto}{lo:Nat}{ds:List D}{R:List (List Int)}(h:Xl S lo ds R):Xr S ds R:=⟨h.1,λk d r hd hr=>by
 obtain⟨a,e,l,s⟩:=h.2 k d r hd hr;exact⟨a,e,s⟩⟩
theorem Xl.snoc {S:Sto}{lo:Nat}{ds:List D}{R:List (List Int)}{a:Nat}{r:List Int}(h:Xl S lo ds R)(hl:lo<=a)(hs:S[a]?=some (.lst (r.map D.int))):Xl S lo (ds++[.ref a]) (R++[r]):=⟨by rw[zG,zG,h.1];rfl,λk d r' hd hr=>by
 by_cases hk:k<ds.length
 ·rw[zQ hk] at hd;rw[zQ (by rw[<- h.1];exact hk)] at hr;exact h.2 k d r' hd hr
 ·have l:=(zD.mp hd).1;simp only[zG,zT,yR] at l;have ek:k=ds.length:=by lia
  subst ek;rw[yA (zC _),yU] at hd;rw[h.1,yA (zC _),yU] at hr;cases hd;cases hr;exact⟨a,rfl,hl,hs⟩⟩
theorem Xr.at {S:Sto}{ds:List D}{M:List (List Int)}(h:Xr S ds M){k:Nat}(hk:k<M.length):∃a,atI ds (k:Int)=some (.ref a)/\S[a]?=some (.lst ((M.getD k []).map D.int)):=by
 have hk':k<ds.length:=by rw[h.1];exact hk
 obtain⟨a,e,s⟩:=h.2 k _ _ (zB hk') (zB hk);refine⟨a,XA (by rw[zB hk',e]),?_⟩;rw[s,zK,zB hk];rfl
def midD:D->D
 | .tup [.int a,.int b]=>.int ((a+b)/2)
 | d=>d
theorem zaj (r:LI):(r.map frD).map midD=(r.map λp=>(p.1+p.2)/2).map D.int:=by
 rw[zZ,zZ];rfl
def QV:D->D
 | .tup [.int a,.int b]=>.tup [.int ((a+b)/2),.int ((a+b)/2)]
 | d=>d
theorem G2 (r:LI):(r.map frD).map QV=(r.map Z5).map frD:=by
 rw[zZ,zZ];rfl
theorem MH (hb:b≠0)(h:Sz n t):Sz (n+1) (t.fdiv b):=by
 have z:(t.fdiv b).natAbs<=t.natAbs+1:=by
  rcases Int.lt_or_gt_of_ne hb with c|c
  ·have y:=EH (t:=-t) (b:=-b) (by lia);rw[Int.neg_fdiv_neg] at y;lia
  ·exact EH c
 unfold Sz at *
 have e:(2:Nat)^(n+1)=2^n+2^n:=by rw[Nat.pow_succ];lia
 have p:0<(2:Nat)^n:=yQ (by decide);lia
theorem Ky (ha:Sz n a)(hb:Sz n b):Sz (n+1) ((a+b)/2):=by
 have z:=(ha.add hb).div (show (1:Int)<=2 by decide);rw[Nat.max_self] at z;exact z
theorem Mc (h:1<=n:=by decide):1<2^n:=yB (show 1<2^1 by decide) (Nat.pow_le_pow_right (by decide) h)
inductive Pt
 | word (w:Str)
 | flat (vs:LI)
 | deep (L:List (List D))
def Pb (S:Sto)(lo:Nat)(d:D):Pt->Prop
 | .word w=>d=.str w
 | .flat vs=>∃m,d=.ref m/\lo<=m/\S[m]?=some (.lst (vs.map frD))
 | .deep L=>∃(m:Nat)(ds:List D),d=.ref m/\lo<=m/\S[m]?=some (.lst ds)/\ds.length=L.length/\∀(k:Nat)(d:D)(xs:List D),ds[k]?=some d->L[k]?=some xs->∃a,d=.ref a/\lo<=a/\S[a]?=some (.lst xs)
theorem Pb.keep {S T:Sto}{lo:Nat}{d:D}:∀ {p:Pt},Pb S lo d p->(∀(x:Nat)(o:Ob),lo<=x->S[x]?=some o->T[x]?=some o)->Pb T lo d p
 | .word _,h,_=>h
 | .flat _,⟨m,a,b,c⟩,k=>⟨m,a,b,k _ _ b c⟩
 | .deep _,⟨m,ds,a,b,c,l,f⟩,k=>⟨m,ds,a,b,k _ _ b c,l,λi d xs hd hx=>by
  obtain⟨x,e,g,s⟩:=f i d xs hd hx;exact⟨x,e,g,k _ _ g s⟩⟩
def WJ (M:List (List Int))(aE vs aC:LI)(R:List LI):List Pt:=[.word "one",.deep (M.map λr=>r.map D.int),.flat aE,.flat vs,.flat aC,.deep (R.map λr=>r.map frD)]
def OZ (S:Sto)(lo:Nat)(xs:List D)(ps:List Pt):Prop:=∀(k:Nat)(x:D)(p:Pt),xs[k]?=some x->ps[k]?=some p->Pb S lo x p
theorem Bw (h:Xx S d M aE vs aC R):∃xs,d=.tup xs/\xs.length=6/\OZ S 0 xs (WJ M aE vs aC R):=by
 obtain⟨a,b,c,e,f,ms,ds,h0,h1,h2,h3,h4,h5,h6,h7⟩:=h.ex;refine⟨_,h0,rfl,λk x p hx hp=>?_⟩
 match k,hx,hp with
 | 0,hx,hp=>cases hx;cases hp;rfl
 | 1,hx,hp=>
  cases hx;cases hp
  refine⟨a,ms,rfl,zL _,h1,by rw[zA];exact h2.1,λk d xs hd hx=>?_⟩;rw[zF] at hx;obtain⟨r,hr,rfl⟩:=zS.mp hx;obtain⟨a,e,s⟩:=h2.2 k d r hd hr;exact⟨a,e,zL _,s⟩
 | 2,hx,hp=>cases hx;cases hp;exact⟨b,rfl,zL _,h3⟩
 | 3,hx,hp=>cases hx;cases hp;exact⟨c,rfl,zL _,h4⟩
 | 4,hx,hp=>cases hx;cases hp;exact⟨e,rfl,zL _,h5⟩
 | 5,hx,hp=>
  cases hx;cases hp
  refine⟨f,ds,rfl,zL _,h6,by rw[zA];exact h7.1,λk d xs hd hx=>?_⟩;rw[zF] at hx;obtain⟨r,hr,rfl⟩:=zS.mp hx;obtain⟨a,e,_,s⟩:=h7.2 k d r hd hr;exact⟨a,e,zL _,s⟩
theorem He {S:Sto}{lo:Nat}{xs:List D}{M:List (List Int)}{aE vs aC:LI}{R:List LI}(l:xs.length=6)(h:OZ S lo xs (WJ M aE vs aC R)):Xx S (.tup xs) M aE vs aC R:=by
 match xs,l,h with
 | [x0,x1,x2,x3,x4,x5],_,h=>
  have e0:=h 0 _ _ rfl rfl;obtain⟨a,ms,rfl,_,h1,l1,f1⟩:=h 1 _ _ rfl rfl;obtain⟨b,rfl,_,h2⟩:=h 2 _ _ rfl rfl;obtain⟨c,rfl,_,h3⟩:=h 3 _ _ rfl rfl;obtain⟨e,rfl,_,h4⟩:=h 4 _ _ rfl rfl;obtain⟨f,ds,rfl,_,h5,l5,f5⟩:=h 5 _ _ rfl rfl;cases e0;refine⟨a,b,c,e,f,ms,ds,rfl,h1,⟨by rw[zA] at l1;exact l1,λk d r hd hr=>?_⟩,h2,h3,h4,h5,⟨by rw[zA] at l5;exact l5,λk d r hd hr=>?_⟩⟩
  ·obtain⟨a,e,_,s⟩:=f1 k d (r.map D.int) hd (by rw[zF,hr];rfl);exact⟨a,e,s⟩
  ·obtain⟨a,e,_,s⟩:=f5 k d (r.map frD) hd (by rw[zF,hr];rfl);exact⟨a,e,zL _,s⟩
def Pt.few:Pt->Prop
 | .word _=>True
 | .flat vs=>vs.length<=900
 | .deep L=>L.length<=900
theorem BS (h1:Xx S d M aE vs aC R)(h2:Xx S e M aE vs aC R):Alk S 4 d e:=by
 obtain⟨a,b,c,i,f,ms,ds,rfl,A1,A2,A3,A4,A5,A6,A7⟩:=h1.ex;obtain⟨a',b',c',i',f',ms',ds',rfl,B1,B2,B3,B4,B5,B6,B7⟩:=h2.ex;refine .inr (.inl ⟨_,_,rfl,rfl,rfl,λk x y hx hy=>?_⟩)
 match k,hx,hy with
 | 0,hx,hy=>cases hx;cases hy;exact alk0 (by simp[eqF]) _
 | 1,hx,hy=>
  cases hx;cases hy
  refine .inr (.inr ⟨_,_,_,_,rfl,rfl,A1,B1,by rw[A2.1,B2.1],λk x y hx hy=>?_⟩);have hk:=(zD.mp hx).1;rw[A2.1] at hk;obtain⟨p,rfl,s⟩:=A2.2 k x _ hx (zB hk);obtain⟨p',rfl,s'⟩:=B2.2 k y _ hy (zB hk);exact WT (λz=>alk0 (by simp[eqF]) _) s s'
 | 2,hx,hy=>cases hx;cases hy;exact .inl (WT (λp=>Te p) A3 B3)
 | 3,hx,hy=>cases hx;cases hy;exact .inl (WT (λp=>Te p) A4 B4)
 | 4,hx,hy=>cases hx;cases hy;exact .inl (WT (λp=>Te p) A5 B5)
 | 5,hx,hy=>
  cases hx;cases hy
  refine .inr (.inr ⟨_,_,_,_,rfl,rfl,A6,B6,by rw[A7.1,B7.1],λk x y hx hy=>?_⟩);have hk:=(zD.mp hx).1;rw[A7.1] at hk;obtain⟨p,rfl,_,s⟩:=A7.2 k x _ hx (zB hk);obtain⟨p',rfl,_,s'⟩:=B7.2 k y _ hy (zB hk);exact WT (λp=>Te p) s s'
 | k+6,hx,hy=>cases hx
def Wl (ns:List Nd)(ws:List Nat):Prop:=∀(i:Nat)(v:Nd),ns[i]?=some v->ws.getD i 0=v.hv
theorem Wl.gr (h:Wl ns ws)(g:Gr q a c S ns ws T ns' ws')(net:Z3 q ns ws)(ok:v.ok ns.length q)(nw:∀(i:Nat)(u:Nd),ns.length<=i->ns'[i]?=some u->u=v)(w:v.wt ws=v.hv):Wl ns' ws':=λi u hu=>by
 by_cases c:i<ns.length
 ·have e:=zB c
  have e2:=g.get e;rw[hu] at e2;cases e2;rw[g.wt net c];exact h i _ e
 ·have e:=nw i u (by lia) hu;subst e;rw[(g.net.ok i u hu).2.1,Er g net ok];exact w
theorem Dg {lo hi W g t t2:Int}(h:lo<hi)(hW:1<=W)(hg:1<=g)(ne:t≠t2):(lo*W+(hi-lo)*t)*(g*W)≠(lo*W+(hi-lo)*t2)*(g*W):=λe=>by
 have p:g*W≠0:=by
  have:=yF (show 0<g by lia) (show 0<W by lia);lia
 have e2:=Int.eq_of_mul_eq_mul_right p e
 have e3:(hi-lo)*t=(hi-lo)*t2:=by lia
 exact ne (Int.eq_of_mul_eq_mul_left (by lia) e3)
theorem zaP {t c W:Int}(ht:0<=t/\t<=W)(hW:1<=W)(hc:0<=c/\c<W):t≠(t+1+c)%(W+1):=λe=>by
 by_cases l:t+1+c<W+1
 ·rw[Int.emod_eq_of_lt (by lia) l] at e;lia
 ·have z:(t+1+c)%(W+1)=t+1+c-(W+1):=by
   rw[<- Int.sub_emod_right,Int.emod_eq_of_lt (by lia) (by lia)]
  lia
theorem Zr.app (z:Zr P ns ws w i)(net:Z3 q ns ws):Zr P (ns++ms) (ws++us) w i:=⟨by rw[zG];have:=z.lt;lia,by rw[KR (by rw[net.len];exact z.lt)];exact z.wt,by rw[MI ⟨by lia,by have:=z.lt;lia⟩];exact z.due⟩
theorem zdG {q:Nat}{ns:List Nd}{ws:List Nat}{vs:LI}{R:List LI}{g:Int}(lR:R.length=ns.length)(slw:SlW q ws R)(ins:∀(i:Nat)(v:Nd)(r:LI)(l:Nat)(p:Int×Int),ns[i]?=some v->R[i]?=some r->r[l]?=some p->Ins p (v.sl vs R g l))(k:Nat)(v:Nd)(hv:ns[k]?=some v)(l:Nat)(hl:l<q):(gs R (k:Int) l).1<=(v.sl vs R g l).1/\(v.sl vs R g l).2<=(gs R (k:Int) l).2:=by
 have lk:=(zD.mp hv).1
 have hr:R[k]?=some R[k]:=zB (by lia);obtain⟨lr,_⟩:=slw k _ hr;have hp:=zB (show l<R[k].length by lia)
 have z:=ins k v _ l _ hv hr hp
 have e:gs R (k:Int) l=R[k][l]:=by
  unfold gs;rw[zI,zK (l:=R),hr,zK,Option.getD_some,hp];rfl
 rw[e];exact z
theorem CT (ins:∀(i:Nat)(v:Nd)(r:LI)(l:Nat)(p:Int×Int),ns[i]?=some v->R[i]?=some r->r[l]?=some p->Ins p (v.sl vs R g l)):(slB vs R g q ns).all id=true:=by
 rw[xS];intro b hb;obtain⟨k,hk⟩:=wC.mp hb;unfold slB at hk;rw[xX] at hk;cases ev:ns[k]? with
 | none=>rw[ev] at hk;cases hk
 | some v=>
  cases er:R[k]? with
  | none=>rw[ev,er] at hk;cases hk
  | some r=>
   rw[ev,er] at hk;cases hk;show YN (Yz vs R g q v) r=true;rw[OC];intro l p p' hp hp';unfold Yz at hp;rw[zF] at hp;obtain⟨j,hj,rfl⟩:=zS.mp hp;obtain⟨hj1,hj2⟩:=zD.mp hj;rw[List.getElem_range] at hj2;subst hj2;exact ins k v r l p' ev er hp'
theorem AG {q:Nat}{ns:List Nd}{ws is:List Nat}{rows:List (Bool×Nat)}{bs P P2 vs aC aE:LI}{R:List LI}{M:List (List Int)}{g:Int}(net:Z3 q ns ws)(hq:1<=q/\q<=2)(hb:bs.length=q)(hp:P.length=q)(hp2:P2.length=q)(ob:∀p∈bs,p.1<=p.2)(hg:1<=g/\g<=1000000)(ip:InW g bs P)(ip2:InW g bs P2)(zp:Pz 110 P)(zp2:Pz 110 P2)(df:(gt P 0).1*(gt P2 0).2≠(gt P2 0).1*(gt P 0).2)
  (lv:vs.length=ns.length)(cl:Vp ns bs g vs)(lR:R.length=ns.length)(slw:SlW q ws R)(ins:∀(i:Nat)(v:Nd)(r:LI)(l:Nat)(p:Int×Int),ns[i]?=some v->R[i]?=some r->r[l]?=some p->Ins p (v.sl vs R g l))(lt:aC.length=ns.length)(ot:∀p∈aC,p.1<=p.2)
  (li:is.length=q)(his:∀i∈is,i<ns.length)(alt:(∀i∈is,Zb P P2 ns ws 16 i)\/∃i,is[0]?=some i/\Qa P ns i)(lM:M.length=q)(lE:∀es∈M,es.length=q)(ln:aE.length=q):(U7 rows vs&&(YN (W6 g bs aC R is M) aE&&V3 aE bs))=false:=by
 cases e:(U7 rows vs&&(YN (W6 g bs aC R is M) aE&&V3 aE bs)) with
 | false=>rfl
 | true=>
 exfalso;rw[Bool.and_eq_true,Bool.and_eq_true,OC,Bb] at e;obtain⟨_,e1,e2⟩:=e;have dp:∀(k:Nat)(es:List Int),M[k]?=some es->(gt bs (k:Int)).1<(YG g bs (is.map λ(i:Nat)=>gt aC i) (is.map λ(i:Nat)=>R.getD i []) k es).1/\(YG g bs (is.map λ(i:Nat)=>gt aC i) (is.map λ(i:Nat)=>R.getD i []) k es).2<(gt bs (k:Int)).2:=λk es hk=>by
  have lk:=(zD.mp hk).1
  have hn:=zB (show k<aE.length by lia)
  have hbk:=zB (show k<bs.length by lia)
  have z1:=e1 k (YG g bs (is.map λ(i:Nat)=>gt aC i) (is.map λ(i:Nat)=>R.getD i []) k es) _ (by unfold W6;rw[List.getElem?_mapIdx,hk];rfl) hn
  have z2:=e2 k _ _ hn hbk;rw[Xj hbk];lia
 have iR:=λk v hv l hl=>zdG lR slw ins k v hv l hl
 have iv:=HH cl;rcases alt with z|⟨i,hi,sq⟩
 ·have same:=zdo net hb.symm hp.symm hp2.symm ob hg ip ip2 zp zp2 lv iv iR lt ot (is:=is) his (λi hi=>by rw[(z i hi).1.due,(z i hi).2.due,xB,xB]) lM (λes h=>by rw[lE es h,li]) dp 0 (by lia);exact df same
 ·have oR:∀k:Nat,k<ns.length->∀l,l<q->(gs R (k:Int) l).1<=(gs R (k:Int) l).2:=λk hk l hl=>((slw.at (i:=(k:Int)) ⟨by lia,by lia⟩).2 l hl).1
  have zr:=By net hb.symm hp.symm hg.1 ip zp lv iv oR iR sq
  have gsD:∀(k l:Nat),gs R (k:Int) l=(R.getD k []).getD l (0,0):=λk l=>by
   unfold gs;rw[zI]
  refine zdC hg.1 (show q=1\/q=2 by lia) hb (by rw[zA,li]) (by rw[zA,li]) lM lE ob (λp hp=>?_) (λr hr c hc=>?_) (λc hc=>?_) dp
  ·obtain⟨j,hj,rfl⟩:=zN.mp hp;have:=his j hj;rw[Xj (zB (show j<aC.length by lia))];exact ot _ (yI ..)
  ·obtain⟨j,hj,rfl⟩:=zN.mp hr;have z:=oR j (his j hj) c hc;rw[gsD] at z;exact z
  ·have z:=zr c hc;rw[gsD] at z;have e0:(is.map λ(i:Nat)=>R.getD i []).getD 0 []=R.getD i []:=by
    rw[zK,zF,hi];rfl
   rw[e0];exact z
theorem Ft (is:List Nat):(is.map λi=>rwD (true,i))=(is.map λi=>((true,i):Bool×Nat)).map rwD:=by rw[zZ];rfl
def sndD:D->D
 | .tup [_,d]=>d
 | d=>d
theorem zag (is:List Nat):(is.map λi=>rwD (true,i)).map sndD=is.map wtD:=by
 rw[zZ];rfl
abbrev N3:Ev:=[none,none,none]
abbrev N4:Ev:=[none,none,none,none]
abbrev N5:Ev:=[none,none,none,none,none]
abbrev N6:Ev:=[none,none,none,none,none,none]
abbrev N7:Ev:=[none,none,none,none,none,none,none]
abbrev N8:Ev:=[none,none,none,none,none,none,none,none]
abbrev N9:Ev:=[none,none,none,none,none,none,none,none,none]
abbrev N10:Ev:=[none,none,none,none,none,none,none,none,none,none]
abbrev N11:Ev:=[none,none,none,none,none,none,none,none,none,none,none]
abbrev N12:Ev:=[none,none,none,none,none,none,none,none,none,none,none,none]
abbrev N13:Ev:=[none,none,none,none,none,none,none,none,none,none,none,none,none]
abbrev N14:Ev:=[none,none,none,none,none,none,none,none,none,none,none,none,none,none]
abbrev N15:Ev:=[none,none,none,none,none,none,none,none,none,none,none,none,none,none,none]
abbrev N16:Ev:=[none,none,none,none,none,none,none,none,none,none,none,none,none,none,none,none]
abbrev N17:Ev:=[none,none,none,none,none,none,none,none,none,none,none,none,none,none,none,none,none]
abbrev N18:Ev:=[none,none,none,none,none,none,none,none,none,none,none,none,none,none,none,none,none,none]
abbrev N19:Ev:=[none,none,none,none,none,none,none,none,none,none,none,none,none,none,none,none,none,none,none]
abbrev N20:Ev:=[none,none,none,none,none,none,none,none,none,none,none,none,none,none,none,none,none,none,none,none]
abbrev N21:Ev:=[none,none,none,none,none,none,none,none,none,none,none,none,none,none,none,none,none,none,none,none,none]
abbrev N22:Ev:=[none,none,none,none,none,none,none,none,none,none,none,none,none,none,none,none,none,none,none,none,none,none]
abbrev N23:Ev:=[none,none,none,none,none,none,none,none,none,none,none,none,none,none,none,none,none,none,none,none,none,none,none]
structure Xh (K:Fg)(mg:Str->Option Value) where
 C:Addr
 m:mg "Number"=some (.ref C)
 cl:Cls K C
 n_bottom:YV K C "bottom"
 n_top:YV K C "top"
 makes:PySem.W.makesIn K C=true
 kp:PySem.W.keepIn K (.ref C)=true
structure Xc (K:Fg)(mg:Str->Option Value) where
 C:Addr
 m:mg "Unknown"=some (.ref C)
 cl:Cls K C
 n_place:YV K C "place"
 makes:PySem.W.makesIn K C=true
 kp:PySem.W.keepIn K (.ref C)=true
structure Y8 (K:Fg)(mg:Str->Option Value) where
 C:Addr
 m:mg "Plus"=some (.ref C)
 cl:Cls K C
 n_other:YV K C "other"
 n_one:YV K C "one"
 makes:PySem.W.makesIn K C=true
 kp:PySem.W.keepIn K (.ref C)=true
structure Y7 (K:Fg)(mg:Str->Option Value) where
 C:Addr
 m:mg "Minus"=some (.ref C)
 cl:Cls K C
 n_other:YV K C "other"
 n_one:YV K C "one"
 makes:PySem.W.makesIn K C=true
 kp:PySem.W.keepIn K (.ref C)=true
structure YY (K:Fg)(mg:Str->Option Value) where
 C:Addr
 m:mg "Times"=some (.ref C)
 cl:Cls K C
 n_other:YV K C "other"
 n_one:YV K C "one"
 makes:PySem.W.makesIn K C=true
 kp:PySem.W.keepIn K (.ref C)=true
structure Xd (K:Fg)(mg:Str->Option Value) where
 C:Addr
 m:mg "Power"=some (.ref C)
 cl:Cls K C
 n_many:YV K C "many"
 n_one:YV K C "one"
 makes:PySem.W.makesIn K C=true
 kp:PySem.W.keepIn K (.ref C)=true
structure A3 (a0 a1 a2:Prop):Prop where
 p0:a0
 p1:a1
 p2:a2
structure A4 (a0 a1 a2 a3:Prop):Prop where
 p0:a0
 p1:a1
 p2:a2
 p3:a3
structure A5 (a0 a1 a2 a3 a4:Prop):Prop where
 p0:a0
 p1:a1
 p2:a2
 p3:a3
 p4:a4
structure A6 (a0 a1 a2 a3 a4 a5:Prop):Prop where
 p0:a0
 p1:a1
 p2:a2
 p3:a3
 p4:a4
 p5:a5
structure A7 (a0 a1 a2 a3 a4 a5 a6:Prop):Prop where
 p0:a0
 p1:a1
 p2:a2
 p3:a3
 p4:a4
 p5:a5
 p6:a6
structure A8 (a0 a1 a2 a3 a4 a5 a6 a7:Prop):Prop where
 p0:a0
 p1:a1
 p2:a2
 p3:a3
 p4:a4
 p5:a5
 p6:a6
 p7:a7
structure A9 (a0 a1 a2 a3 a4 a5 a6 a7 a8:Prop):Prop where
 p0:a0
 p1:a1
 p2:a2
 p3:a3
 p4:a4
 p5:a5
 p6:a6
 p7:a7
 p8:a8
structure A10 (a0 a1 a2 a3 a4 a5 a6 a7 a8 a9:Prop):Prop where
 p0:a0
 p1:a1
 p2:a2
 p3:a3
 p4:a4
 p5:a5
 p6:a6
 p7:a7
 p8:a8
 p9:a9
structure A11 (a0 a1 a2 a3 a4 a5 a6 a7 a8 a9 a10:Prop):Prop where
 p0:a0
 p1:a1
 p2:a2
 p3:a3
 p4:a4
 p5:a5
 p6:a6
 p7:a7
 p8:a8
 p9:a9
 p10:a10
structure A12 (a0 a1 a2 a3 a4 a5 a6 a7 a8 a9 a10 a11:Prop):Prop where
 p0:a0
 p1:a1
 p2:a2
 p3:a3
 p4:a4
 p5:a5
 p6:a6
 p7:a7
 p8:a8
 p9:a9
 p10:a10
 p11:a11
structure A14 (a0 a1 a2 a3 a4 a5 a6 a7 a8 a9 a10 a11 a12 a13:Prop):Prop where
 p0:a0
 p1:a1
 p2:a2
 p3:a3
 p4:a4
 p5:a5
 p6:a6
 p7:a7
 p8:a8
 p9:a9
 p10:a10
 p11:a11
 p12:a12
 p13:a13
inductive E2 {α0 α1:Type}(p:α0->α1->Prop):Prop
 | mk (x0:α0) (x1:α1) (h:p x0 x1)
inductive E3 {α0 α1 α2:Type}(p:α0->α1->α2->Prop):Prop
 | mk (x0:α0) (x1:α1) (x2:α2) (h:p x0 x1 x2)
inductive E4 {α0 α1 α2 α3:Type}(p:α0->α1->α2->α3->Prop):Prop
 | mk (x0:α0) (x1:α1) (x2:α2) (x3:α3) (h:p x0 x1 x2 x3)
inductive E6 {α0 α1 α2 α3 α4 α5:Type}(p:α0->α1->α2->α3->α4->α5->Prop):Prop
 | mk (x0:α0) (x1:α1) (x2:α2) (x3:α3) (x4:α4) (x5:α5) (h:p x0 x1 x2 x3 x4 x5)
inductive E7 {α0 α1 α2 α3 α4 α5 α6:Type}(p:α0->α1->α2->α3->α4->α5->α6->Prop):Prop
 | mk (x0:α0) (x1:α1) (x2:α2) (x3:α3) (x4:α4) (x5:α5) (x6:α6) (h:p x0 x1 x2 x3 x4 x5 x6)
def aN (p:Prop):List D->Prop
 | []=>p
 | _=>False
theorem Yd {p:Prop}:∀ {ds:List D},aN p ds->ds=[]/\p
 | [],h=>⟨rfl,h⟩
 | _::_,h=>h.elim
theorem nN {p:Prop}{ds:List D}(h:aN p ds):ds.length=0:=by rw[(Yd h).1];rfl
def aR (f:Nat->List D->Prop):List D->Prop
 | .ref a::r=>f a r
 | _=>False
theorem ZJ {f:Nat->List D->Prop}{ds:List D}(h:aR f ds):∃a r,ds=.ref a::r/\f a r:=by
 match ds,h with
 | .ref a::r,h=>exact⟨a,r,rfl,h⟩
theorem nR {f:Nat->List D->Prop}{n:Nat}(k:∀a {r:List D},f a r->r.length=n){ds:List D}(h:aR f ds):ds.length=n+1:=by
 obtain⟨a,r,rfl,h⟩:=ZJ h;rw[zT,k a h]
def aI (f:Int->List D->Prop):List D->Prop
 | .int a::r=>f a r
 | _=>False
theorem Z2 {f:Int->List D->Prop}{ds:List D}(h:aI f ds):∃a r,ds=.int a::r/\f a r:=by
 match ds,h with
 | .int a::r,h=>exact⟨a,r,rfl,h⟩
theorem nI {f:Int->List D->Prop}{n:Nat}(k:∀a {r:List D},f a r->r.length=n){ds:List D}(h:aI f ds):ds.length=n+1:=by
 obtain⟨a,r,rfl,h⟩:=Z2 h;rw[zT,k a h]
def aS (f:Str->List D->Prop):List D->Prop
 | .str a::r=>f a r
 | _=>False
theorem aS_e {f:Str->List D->Prop}{ds:List D}(h:aS f ds):∃a r,ds=.str a::r/\f a r:=by
 match ds,h with
 | .str a::r,h=>exact⟨a,r,rfl,h⟩
theorem nS {f:Str->List D->Prop}{n:Nat}(k:∀a {r:List D},f a r->r.length=n){ds:List D}(h:aS f ds):ds.length=n+1:=by
 obtain⟨a,r,rfl,h⟩:=aS_e h;rw[zT,k a h]
def aB (f:Bool->List D->Prop):List D->Prop
 | .bl a::r=>f a r
 | _=>False
theorem aB_e {f:Bool->List D->Prop}{ds:List D}(h:aB f ds):∃a r,ds=.bl a::r/\f a r:=by
 match ds,h with
 | .bl a::r,h=>exact⟨a,r,rfl,h⟩
theorem nB {f:Bool->List D->Prop}{n:Nat}(k:∀a {r:List D},f a r->r.length=n){ds:List D}(h:aB f ds):ds.length=n+1:=by
 obtain⟨a,r,rfl,h⟩:=aB_e h;rw[zT,k a h]
def aP (f:Int->Int->List D->Prop):List D->Prop
 | .tup [.int a,.int b]::r=>f a b r
 | _=>False
theorem Xp {f:Int->Int->List D->Prop}{ds:List D}(h:aP f ds):∃a b r,ds=.tup [.int a,.int b]::r/\f a b r:=by
 match ds,h with
 | .tup [.int a,.int b]::r,h=>exact⟨a,b,r,rfl,h⟩
theorem nP {f:Int->Int->List D->Prop}{n:Nat}(k:∀a b {r:List D},f a b r->r.length=n){ds:List D}(h:aP f ds):ds.length=n+1:=by
 obtain⟨a,b,r,rfl,h⟩:=Xp h;rw[zT,k a b h]
def aD (f:D->List D->Prop):List D->Prop
 | a::r=>f a r
 | []=>False
theorem X0 {f:D->List D->Prop}:∀ {ds:List D},aD f ds->∃a r,ds=a::r/\f a r
 | a::r,h=>⟨a,r,rfl,h⟩
 | [],h=>h.elim
theorem nD {f:D->List D->Prop}{n:Nat}(k:∀a {r:List D},f a r->r.length=n){ds:List D}(h:aD f ds):ds.length=n+1:=by
 obtain⟨a,r,rfl,h⟩:=X0 h;rw[zT,k a h]
theorem eD {f:D->Prop}{ds:List D}(h:(aD λa0=>aN (f a0)) ds):∃a0,ds=[a0]/\f a0:=by
 obtain⟨a0,_,e0,h⟩:=X0 h;obtain⟨e,h⟩:=Yd h;exact⟨a0,by rw[e0,e],h⟩
theorem eDRRI {f:D->Nat->Nat->Int->Prop}{ds:List D}(h:(aD λa0=>aR λa1=>aR λa2=>aI λa3=>aN (f a0 a1 a2 a3)) ds):∃a0 a1 a2 a3,ds=[a0,.ref a1,.ref a2,.int a3]/\f a0 a1 a2 a3:=by
 obtain⟨a0,_,e0,h⟩:=X0 h;obtain⟨a1,_,e1,h⟩:=ZJ h;obtain⟨a2,_,e2,h⟩:=ZJ h;obtain⟨a3,_,e3,h⟩:=Z2 h;obtain⟨e,h⟩:=Yd h;exact⟨a0,a1,a2,a3,by rw[e0,e1,e2,e3,e],h⟩
theorem Dc {f:D->Nat->Nat->Int->Int->Prop}{ds:List D}(h:(aD λa0=>aR λa1=>aR λa2=>aI λa3=>aI λa4=>aN (f a0 a1 a2 a3 a4)) ds):∃a0 a1 a2 a3 a4,ds=[a0,.ref a1,.ref a2,.int a3,.int a4]/\f a0 a1 a2 a3 a4:=by
 obtain⟨a0,_,e0,h⟩:=X0 h;obtain⟨a1,_,e1,h⟩:=ZJ h;obtain⟨a2,_,e2,h⟩:=ZJ h;obtain⟨a3,_,e3,h⟩:=Z2 h;obtain⟨a4,_,e4,h⟩:=Z2 h;obtain⟨e,h⟩:=Yd h;exact⟨a0,a1,a2,a3,a4,by rw[e0,e1,e2,e3,e4,e],h⟩
theorem eI {f:Int->Prop}{ds:List D}(h:(aI λa0=>aN (f a0)) ds):∃a0,ds=[.int a0]/\f a0:=by
 obtain⟨a0,_,e0,h⟩:=Z2 h;obtain⟨e,h⟩:=Yd h;exact⟨a0,by rw[e0,e],h⟩
theorem eII {f:Int->Int->Prop}{ds:List D}(h:(aI λa0=>aI λa1=>aN (f a0 a1)) ds):∃a0 a1,ds=[.int a0,.int a1]/\f a0 a1:=by
 obtain⟨a0,_,e0,h⟩:=Z2 h;obtain⟨a1,_,e1,h⟩:=Z2 h;obtain⟨e,h⟩:=Yd h;exact⟨a0,a1,by rw[e0,e1,e],h⟩
theorem zbo {f:Int->Int->Nat->Nat->Int->Prop}{ds:List D}(h:(aI λa0=>aI λa1=>aR λa2=>aR λa3=>aI λa4=>aN (f a0 a1 a2 a3 a4)) ds):∃a0 a1 a2 a3 a4,ds=[.int a0,.int a1,.ref a2,.ref a3,.int a4]/\f a0 a1 a2 a3 a4:=by
 obtain⟨a0,_,e0,h⟩:=Z2 h;obtain⟨a1,_,e1,h⟩:=Z2 h;obtain⟨a2,_,e2,h⟩:=ZJ h;obtain⟨a3,_,e3,h⟩:=ZJ h;obtain⟨a4,_,e4,h⟩:=Z2 h;obtain⟨e,h⟩:=Yd h;exact⟨a0,a1,a2,a3,a4,by rw[e0,e1,e2,e3,e4,e],h⟩
theorem zeb {f:Int->Nat->Int->Nat->Nat->Nat->Prop}{ds:List D}(h:(aI λa0=>aR λa1=>aI λa2=>aR λa3=>aR λa4=>aR λa5=>aN (f a0 a1 a2 a3 a4 a5)) ds):∃a0 a1 a2 a3 a4 a5,ds=[.int a0,.ref a1,.int a2,.ref a3,.ref a4,.ref a5]/\f a0 a1 a2 a3 a4 a5:=by
 obtain⟨a0,_,e0,h⟩:=Z2 h;obtain⟨a1,_,e1,h⟩:=ZJ h;obtain⟨a2,_,e2,h⟩:=Z2 h;obtain⟨a3,_,e3,h⟩:=ZJ h;obtain⟨a4,_,e4,h⟩:=ZJ h;obtain⟨a5,_,e5,h⟩:=ZJ h;obtain⟨e,h⟩:=Yd h;exact⟨a0,a1,a2,a3,a4,a5,by rw[e0,e1,e2,e3,e4,e5,e],h⟩
theorem eP {f:Int->Int->Prop}{ds:List D}(h:(aP λa0 a1=>aN (f a0 a1)) ds):∃a0 a1,ds=[.tup [.int a0,.int a1]]/\f a0 a1:=by
 obtain⟨a0,a1,_,e0,h⟩:=Xp h;obtain⟨e,h⟩:=Yd h;exact⟨a0,a1,by rw[e0,e],h⟩
theorem ePI {f:Int->Int->Int->Prop}{ds:List D}(h:(aP λa0 a1=>aI λa2=>aN (f a0 a1 a2)) ds):∃a0 a1 a2,ds=[.tup [.int a0,.int a1],.int a2]/\f a0 a1 a2:=by
 obtain⟨a0,a1,_,e0,h⟩:=Xp h;obtain⟨a2,_,e2,h⟩:=Z2 h;obtain⟨e,h⟩:=Yd h;exact⟨a0,a1,a2,by rw[e0,e2,e],h⟩
theorem ePII {f:Int->Int->Int->Int->Prop}{ds:List D}(h:(aP λa0 a1=>aI λa2=>aI λa3=>aN (f a0 a1 a2 a3)) ds):∃a0 a1 a2 a3,ds=[.tup [.int a0,.int a1],.int a2,.int a3]/\f a0 a1 a2 a3:=by
 obtain⟨a0,a1,_,e0,h⟩:=Xp h;obtain⟨a2,_,e2,h⟩:=Z2 h;obtain⟨a3,_,e3,h⟩:=Z2 h;obtain⟨e,h⟩:=Yd h;exact⟨a0,a1,a2,a3,by rw[e0,e2,e3,e],h⟩
theorem ePP {f:Int->Int->Int->Int->Prop}{ds:List D}(h:(aP λa0 a1=>aP λa2 a3=>aN (f a0 a1 a2 a3)) ds):∃a0 a1 a2 a3,ds=[.tup [.int a0,.int a1],.tup [.int a2,.int a3]]/\f a0 a1 a2 a3:=by
 obtain⟨a0,a1,_,e0,h⟩:=Xp h;obtain⟨a2,a3,_,e2,h⟩:=Xp h;obtain⟨e,h⟩:=Yd h;exact⟨a0,a1,a2,a3,by rw[e0,e2,e],h⟩
theorem ePPI {f:Int->Int->Int->Int->Int->Prop}{ds:List D}(h:(aP λa0 a1=>aP λa2 a3=>aI λa4=>aN (f a0 a1 a2 a3 a4)) ds):∃a0 a1 a2 a3 a4,ds=[.tup [.int a0,.int a1],.tup [.int a2,.int a3],.int a4]/\f a0 a1 a2 a3 a4:=by
 obtain⟨a0,a1,_,e0,h⟩:=Xp h;obtain⟨a2,a3,_,e2,h⟩:=Xp h;obtain⟨a4,_,e4,h⟩:=Z2 h;obtain⟨e,h⟩:=Yd h;exact⟨a0,a1,a2,a3,a4,by rw[e0,e2,e4,e],h⟩
theorem eR {f:Nat->Prop}{ds:List D}(h:(aR λa0=>aN (f a0)) ds):∃a0,ds=[.ref a0]/\f a0:=by
 obtain⟨a0,_,e0,h⟩:=ZJ h;obtain⟨e,h⟩:=Yd h;exact⟨a0,by rw[e0,e],h⟩
theorem eRD {f:Nat->D->Prop}{ds:List D}(h:(aR λa0=>aD λa1=>aN (f a0 a1)) ds):∃a0 a1,ds=[.ref a0,a1]/\f a0 a1:=by
 obtain⟨a0,_,e0,h⟩:=ZJ h;obtain⟨a1,_,e1,h⟩:=X0 h;obtain⟨e,h⟩:=Yd h;exact⟨a0,a1,by rw[e0,e1,e],h⟩
theorem Rx {f:Nat->D->D->Prop}{ds:List D}(h:(aR λa0=>aD λa1=>aD λa2=>aN (f a0 a1 a2)) ds):∃a0 a1 a2,ds=[.ref a0,a1,a2]/\f a0 a1 a2:=by
 obtain⟨a0,_,e0,h⟩:=ZJ h;obtain⟨a1,_,e1,h⟩:=X0 h;obtain⟨a2,_,e2,h⟩:=X0 h;obtain⟨e,h⟩:=Yd h;exact⟨a0,a1,a2,by rw[e0,e1,e2,e],h⟩
theorem Ey {f:Nat->D->D->Int->Int->Int->Int->Int->Prop}{ds:List D}(h:(aR λa0=>aD λa1=>aD λa2=>aP λa3 a4=>aP λa5 a6=>aI λa7=>aN (f a0 a1 a2 a3 a4 a5 a6 a7)) ds):∃a0 a1 a2 a3 a4 a5 a6 a7,ds=[.ref a0,a1,a2,.tup [.int a3,.int a4],.tup [.int a5,.int a6],.int a7]/\f a0 a1 a2 a3 a4 a5 a6 a7:=by
 obtain⟨a0,_,e0,h⟩:=ZJ h;obtain⟨a1,_,e1,h⟩:=X0 h;obtain⟨a2,_,e2,h⟩:=X0 h;obtain⟨a3,a4,_,e3,h⟩:=Xp h;obtain⟨a5,a6,_,e5,h⟩:=Xp h;obtain⟨a7,_,e7,h⟩:=Z2 h;obtain⟨e,h⟩:=Yd h;exact⟨a0,a1,a2,a3,a4,a5,a6,a7,by rw[e0,e1,e2,e3,e5,e7,e],h⟩
theorem eRI {f:Nat->Int->Prop}{ds:List D}(h:(aR λa0=>aI λa1=>aN (f a0 a1)) ds):∃a0 a1,ds=[.ref a0,.int a1]/\f a0 a1:=by
 obtain⟨a0,_,e0,h⟩:=ZJ h;obtain⟨a1,_,e1,h⟩:=Z2 h;obtain⟨e,h⟩:=Yd h;exact⟨a0,a1,by rw[e0,e1,e],h⟩
theorem eRII {f:Nat->Int->Int->Prop}{ds:List D}(h:(aR λa0=>aI λa1=>aI λa2=>aN (f a0 a1 a2)) ds):∃a0 a1 a2,ds=[.ref a0,.int a1,.int a2]/\f a0 a1 a2:=by
 obtain⟨a0,_,e0,h⟩:=ZJ h;obtain⟨a1,_,e1,h⟩:=Z2 h;obtain⟨a2,_,e2,h⟩:=Z2 h;obtain⟨e,h⟩:=Yd h;exact⟨a0,a1,a2,by rw[e0,e1,e2,e],h⟩
theorem An {f:Nat->Int->Nat->Nat->Int->Prop}{ds:List D}(h:(aR λa0=>aI λa1=>aR λa2=>aR λa3=>aI λa4=>aN (f a0 a1 a2 a3 a4)) ds):∃a0 a1 a2 a3 a4,ds=[.ref a0,.int a1,.ref a2,.ref a3,.int a4]/\f a0 a1 a2 a3 a4:=by
 obtain⟨a0,_,e0,h⟩:=ZJ h;obtain⟨a1,_,e1,h⟩:=Z2 h;obtain⟨a2,_,e2,h⟩:=ZJ h;obtain⟨a3,_,e3,h⟩:=ZJ h;obtain⟨a4,_,e4,h⟩:=Z2 h;obtain⟨e,h⟩:=Yd h;exact⟨a0,a1,a2,a3,a4,by rw[e0,e1,e2,e3,e4,e],h⟩
theorem zdy {f:Nat->Int->Nat->Nat->Nat->Prop}{ds:List D}(h:(aR λa0=>aI λa1=>aR λa2=>aR λa3=>aR λa4=>aN (f a0 a1 a2 a3 a4)) ds):∃a0 a1 a2 a3 a4,ds=[.ref a0,.int a1,.ref a2,.ref a3,.ref a4]/\f a0 a1 a2 a3 a4:=by
 obtain⟨a0,_,e0,h⟩:=ZJ h;obtain⟨a1,_,e1,h⟩:=Z2 h;obtain⟨a2,_,e2,h⟩:=ZJ h;obtain⟨a3,_,e3,h⟩:=ZJ h;obtain⟨a4,_,e4,h⟩:=ZJ h;obtain⟨e,h⟩:=Yd h;exact⟨a0,a1,a2,a3,a4,by rw[e0,e1,e2,e3,e4,e],h⟩
theorem za4 {f:Nat->Int->Int->Int->Int->Int->Int->Int->Int->Int->Prop}{ds:List D}(h:(aR λa0=>aP λa1 a2=>aP λa3 a4=>aP λa5 a6=>aP λa7 a8=>aI λa9=>aN (f a0 a1 a2 a3 a4 a5 a6 a7 a8 a9)) ds):∃a0 a1 a2 a3 a4 a5 a6 a7 a8 a9,ds=[.ref a0,.tup [.int a1,.int a2],.tup [.int a3,.int a4],.tup [.int a5,.int a6],.tup [.int a7,.int a8],.int a9]/\f a0 a1 a2 a3 a4 a5 a6 a7 a8 a9:=by
 obtain⟨a0,_,e0,h⟩:=ZJ h;obtain⟨a1,a2,_,e1,h⟩:=Xp h;obtain⟨a3,a4,_,e3,h⟩:=Xp h;obtain⟨a5,a6,_,e5,h⟩:=Xp h;obtain⟨a7,a8,_,e7,h⟩:=Xp h;obtain⟨a9,_,e9,h⟩:=Z2 h;obtain⟨e,h⟩:=Yd h;exact⟨a0,a1,a2,a3,a4,a5,a6,a7,a8,a9,by rw[e0,e1,e3,e5,e7,e9,e],h⟩
theorem eRR {f:Nat->Nat->Prop}{ds:List D}(h:(aR λa0=>aR λa1=>aN (f a0 a1)) ds):∃a0 a1,ds=[.ref a0,.ref a1]/\f a0 a1:=by
 obtain⟨a0,_,e0,h⟩:=ZJ h;obtain⟨a1,_,e1,h⟩:=ZJ h;obtain⟨e,h⟩:=Yd h;exact⟨a0,a1,by rw[e0,e1,e],h⟩
theorem eRRDI {f:Nat->Nat->D->Int->Prop}{ds:List D}(h:(aR λa0=>aR λa1=>aD λa2=>aI λa3=>aN (f a0 a1 a2 a3)) ds):∃a0 a1 a2 a3,ds=[.ref a0,.ref a1,a2,.int a3]/\f a0 a1 a2 a3:=by
 obtain⟨a0,_,e0,h⟩:=ZJ h;obtain⟨a1,_,e1,h⟩:=ZJ h;obtain⟨a2,_,e2,h⟩:=X0 h;obtain⟨a3,_,e3,h⟩:=Z2 h;obtain⟨e,h⟩:=Yd h;exact⟨a0,a1,a2,a3,by rw[e0,e1,e2,e3,e],h⟩
theorem eRRI {f:Nat->Nat->Int->Prop}{ds:List D}(h:(aR λa0=>aR λa1=>aI λa2=>aN (f a0 a1 a2)) ds):∃a0 a1 a2,ds=[.ref a0,.ref a1,.int a2]/\f a0 a1 a2:=by
 obtain⟨a0,_,e0,h⟩:=ZJ h;obtain⟨a1,_,e1,h⟩:=ZJ h;obtain⟨a2,_,e2,h⟩:=Z2 h;obtain⟨e,h⟩:=Yd h;exact⟨a0,a1,a2,by rw[e0,e1,e2,e],h⟩
theorem eRRID {f:Nat->Nat->Int->D->Prop}{ds:List D}(h:(aR λa0=>aR λa1=>aI λa2=>aD λa3=>aN (f a0 a1 a2 a3)) ds):∃a0 a1 a2 a3,ds=[.ref a0,.ref a1,.int a2,a3]/\f a0 a1 a2 a3:=by
 obtain⟨a0,_,e0,h⟩:=ZJ h;obtain⟨a1,_,e1,h⟩:=ZJ h;obtain⟨a2,_,e2,h⟩:=Z2 h;obtain⟨a3,_,e3,h⟩:=X0 h;obtain⟨e,h⟩:=Yd h;exact⟨a0,a1,a2,a3,by rw[e0,e1,e2,e3,e],h⟩
theorem eRRII {f:Nat->Nat->Int->Int->Prop}{ds:List D}(h:(aR λa0=>aR λa1=>aI λa2=>aI λa3=>aN (f a0 a1 a2 a3)) ds):∃a0 a1 a2 a3,ds=[.ref a0,.ref a1,.int a2,.int a3]/\f a0 a1 a2 a3:=by
 obtain⟨a0,_,e0,h⟩:=ZJ h;obtain⟨a1,_,e1,h⟩:=ZJ h;obtain⟨a2,_,e2,h⟩:=Z2 h;obtain⟨a3,_,e3,h⟩:=Z2 h;obtain⟨e,h⟩:=Yd h;exact⟨a0,a1,a2,a3,by rw[e0,e1,e2,e3,e],h⟩
theorem zbY {f:Nat->Nat->Int->Int->Bool->Prop}{ds:List D}(h:(aR λa0=>aR λa1=>aI λa2=>aI λa3=>aB λa4=>aN (f a0 a1 a2 a3 a4)) ds):∃a0 a1 a2 a3 a4,ds=[.ref a0,.ref a1,.int a2,.int a3,.bl a4]/\f a0 a1 a2 a3 a4:=by
 obtain⟨a0,_,e0,h⟩:=ZJ h;obtain⟨a1,_,e1,h⟩:=ZJ h;obtain⟨a2,_,e2,h⟩:=Z2 h;obtain⟨a3,_,e3,h⟩:=Z2 h;obtain⟨a4,_,e4,h⟩:=aB_e h;obtain⟨e,h⟩:=Yd h;exact⟨a0,a1,a2,a3,a4,by rw[e0,e1,e2,e3,e4,e],h⟩
theorem Ah {f:Nat->Nat->Int->Int->Nat->Prop}{ds:List D}(h:(aR λa0=>aR λa1=>aI λa2=>aI λa3=>aR λa4=>aN (f a0 a1 a2 a3 a4)) ds):∃a0 a1 a2 a3 a4,ds=[.ref a0,.ref a1,.int a2,.int a3,.ref a4]/\f a0 a1 a2 a3 a4:=by
 obtain⟨a0,_,e0,h⟩:=ZJ h;obtain⟨a1,_,e1,h⟩:=ZJ h;obtain⟨a2,_,e2,h⟩:=Z2 h;obtain⟨a3,_,e3,h⟩:=Z2 h;obtain⟨a4,_,e4,h⟩:=ZJ h;obtain⟨e,h⟩:=Yd h;exact⟨a0,a1,a2,a3,a4,by rw[e0,e1,e2,e3,e4,e],h⟩
theorem F8 {f:Nat->Nat->Int->Nat->Prop}{ds:List D}(h:(aR λa0=>aR λa1=>aI λa2=>aR λa3=>aN (f a0 a1 a2 a3)) ds):∃a0 a1 a2 a3,ds=[.ref a0,.ref a1,.int a2,.ref a3]/\f a0 a1 a2 a3:=by
 obtain⟨a0,_,e0,h⟩:=ZJ h;obtain⟨a1,_,e1,h⟩:=ZJ h;obtain⟨a2,_,e2,h⟩:=Z2 h;obtain⟨a3,_,e3,h⟩:=ZJ h;obtain⟨e,h⟩:=Yd h;exact⟨a0,a1,a2,a3,by rw[e0,e1,e2,e3,e],h⟩
theorem FL {f:Nat->Nat->Int->Nat->Int->Prop}{ds:List D}(h:(aR λa0=>aR λa1=>aI λa2=>aR λa3=>aI λa4=>aN (f a0 a1 a2 a3 a4)) ds):∃a0 a1 a2 a3 a4,ds=[.ref a0,.ref a1,.int a2,.ref a3,.int a4]/\f a0 a1 a2 a3 a4:=by
 obtain⟨a0,_,e0,h⟩:=ZJ h;obtain⟨a1,_,e1,h⟩:=ZJ h;obtain⟨a2,_,e2,h⟩:=Z2 h;obtain⟨a3,_,e3,h⟩:=ZJ h;obtain⟨a4,_,e4,h⟩:=Z2 h;obtain⟨e,h⟩:=Yd h;exact⟨a0,a1,a2,a3,a4,by rw[e0,e1,e2,e3,e4,e],h⟩
theorem zaG {f:Nat->Nat->Int->Nat->Nat->Prop}{ds:List D}(h:(aR λa0=>aR λa1=>aI λa2=>aR λa3=>aR λa4=>aN (f a0 a1 a2 a3 a4)) ds):∃a0 a1 a2 a3 a4,ds=[.ref a0,.ref a1,.int a2,.ref a3,.ref a4]/\f a0 a1 a2 a3 a4:=by
 obtain⟨a0,_,e0,h⟩:=ZJ h;obtain⟨a1,_,e1,h⟩:=ZJ h;obtain⟨a2,_,e2,h⟩:=Z2 h;obtain⟨a3,_,e3,h⟩:=ZJ h;obtain⟨a4,_,e4,h⟩:=ZJ h;obtain⟨e,h⟩:=Yd h;exact⟨a0,a1,a2,a3,a4,by rw[e0,e1,e2,e3,e4,e],h⟩
theorem Ti {f:Nat->Nat->Nat->Int->Prop}{ds:List D}(h:(aR λa0=>aR λa1=>aR λa2=>aI λa3=>aN (f a0 a1 a2 a3)) ds):∃a0 a1 a2 a3,ds=[.ref a0,.ref a1,.ref a2,.int a3]/\f a0 a1 a2 a3:=by
 obtain⟨a0,_,e0,h⟩:=ZJ h;obtain⟨a1,_,e1,h⟩:=ZJ h;obtain⟨a2,_,e2,h⟩:=ZJ h;obtain⟨a3,_,e3,h⟩:=Z2 h;obtain⟨e,h⟩:=Yd h;exact⟨a0,a1,a2,a3,by rw[e0,e1,e2,e3,e],h⟩
theorem Au {f:Nat->Nat->Nat->Int->D->Prop}{ds:List D}(h:(aR λa0=>aR λa1=>aR λa2=>aI λa3=>aD λa4=>aN (f a0 a1 a2 a3 a4)) ds):∃a0 a1 a2 a3 a4,ds=[.ref a0,.ref a1,.ref a2,.int a3,a4]/\f a0 a1 a2 a3 a4:=by
 obtain⟨a0,_,e0,h⟩:=ZJ h;obtain⟨a1,_,e1,h⟩:=ZJ h;obtain⟨a2,_,e2,h⟩:=ZJ h;obtain⟨a3,_,e3,h⟩:=Z2 h;obtain⟨a4,_,e4,h⟩:=X0 h;obtain⟨e,h⟩:=Yd h;exact⟨a0,a1,a2,a3,a4,by rw[e0,e1,e2,e3,e4,e],h⟩
theorem UW {f:Nat->Nat->Nat->Int->Int->Prop}{ds:List D}(h:(aR λa0=>aR λa1=>aR λa2=>aI λa3=>aI λa4=>aN (f a0 a1 a2 a3 a4)) ds):∃a0 a1 a2 a3 a4,ds=[.ref a0,.ref a1,.ref a2,.int a3,.int a4]/\f a0 a1 a2 a3 a4:=by
 obtain⟨a0,_,e0,h⟩:=ZJ h;obtain⟨a1,_,e1,h⟩:=ZJ h;obtain⟨a2,_,e2,h⟩:=ZJ h;obtain⟨a3,_,e3,h⟩:=Z2 h;obtain⟨a4,_,e4,h⟩:=Z2 h;obtain⟨e,h⟩:=Yd h;exact⟨a0,a1,a2,a3,a4,by rw[e0,e1,e2,e3,e4,e],h⟩
theorem Bl {f:Nat->Nat->Nat->Int->Nat->Prop}{ds:List D}(h:(aR λa0=>aR λa1=>aR λa2=>aI λa3=>aR λa4=>aN (f a0 a1 a2 a3 a4)) ds):∃a0 a1 a2 a3 a4,ds=[.ref a0,.ref a1,.ref a2,.int a3,.ref a4]/\f a0 a1 a2 a3 a4:=by
 obtain⟨a0,_,e0,h⟩:=ZJ h;obtain⟨a1,_,e1,h⟩:=ZJ h;obtain⟨a2,_,e2,h⟩:=ZJ h;obtain⟨a3,_,e3,h⟩:=Z2 h;obtain⟨a4,_,e4,h⟩:=ZJ h;obtain⟨e,h⟩:=Yd h;exact⟨a0,a1,a2,a3,a4,by rw[e0,e1,e2,e3,e4,e],h⟩
theorem eRRRR {f:Nat->Nat->Nat->Nat->Prop}{ds:List D}(h:(aR λa0=>aR λa1=>aR λa2=>aR λa3=>aN (f a0 a1 a2 a3)) ds):∃a0 a1 a2 a3,ds=[.ref a0,.ref a1,.ref a2,.ref a3]/\f a0 a1 a2 a3:=by
 obtain⟨a0,_,e0,h⟩:=ZJ h;obtain⟨a1,_,e1,h⟩:=ZJ h;obtain⟨a2,_,e2,h⟩:=ZJ h;obtain⟨a3,_,e3,h⟩:=ZJ h;obtain⟨e,h⟩:=Yd h;exact⟨a0,a1,a2,a3,by rw[e0,e1,e2,e3,e],h⟩
theorem Dl {f:Nat->Nat->Nat->Nat->Int->Nat->Prop}{ds:List D}(h:(aR λa0=>aR λa1=>aR λa2=>aR λa3=>aI λa4=>aR λa5=>aN (f a0 a1 a2 a3 a4 a5)) ds):∃a0 a1 a2 a3 a4 a5,ds=[.ref a0,.ref a1,.ref a2,.ref a3,.int a4,.ref a5]/\f a0 a1 a2 a3 a4 a5:=by
 obtain⟨a0,_,e0,h⟩:=ZJ h;obtain⟨a1,_,e1,h⟩:=ZJ h;obtain⟨a2,_,e2,h⟩:=ZJ h;obtain⟨a3,_,e3,h⟩:=ZJ h;obtain⟨a4,_,e4,h⟩:=Z2 h;obtain⟨a5,_,e5,h⟩:=ZJ h;obtain⟨e,h⟩:=Yd h;exact⟨a0,a1,a2,a3,a4,a5,by rw[e0,e1,e2,e3,e4,e5,e],h⟩
theorem eSP {f:Str->Int->Int->Prop}{ds:List D}(h:(aS λa0=>aP λa1 a2=>aN (f a0 a1 a2)) ds):∃a0 a1 a2,ds=[.str a0,.tup [.int a1,.int a2]]/\f a0 a1 a2:=by
 obtain⟨a0,_,e0,h⟩:=aS_e h;obtain⟨a1,a2,_,e1,h⟩:=Xp h;obtain⟨e,h⟩:=Yd h;exact⟨a0,a1,a2,by rw[e0,e1,e],h⟩
def Qi:Sd:=λds S Q ex=>(aR λsc=>aN (∃cs:List Int,S[sc]?=some (.frz (cs.map D.int))/\Q (.bl (frS cs)) S)) ds
def Ur:Sd:=λds S Q ex=>(aR λsc=>aI λk=>aN (∃cs:List Int,S[sc]?=some (.frz (cs.map D.int))/\(0<=k/\k<=1000)/\∀v:Int,Q (.int v) S)) ds
def Kq:Sd:=λds S Q ex=>(aI λx_0=>aN (∀g:Int,1<=g->g<=1000000->Q (.int g) S)) ds
def J5:Sd:=λds S Q ex=>(aI λx_0=>aI λx_1=>aN (∀lo hi:Int,lo<hi->lo.natAbs<=2000000->hi.natAbs<=2000000->Q (.tup [.int lo,.int hi]) S)) ds
def IA:Sd:=λds S Q ex=>(aR λb=>aR λpa=>aI λW=>aI λg=>aN (∃(bs:LI)(ts:List Int),S[b]?=some (.lst (bs.map frD))/\S[pa]?=some (.lst (ts.map D.int))/\bs.length=ts.length/\bs.length<=900/\Spn 51 bs/\(1<=W/\W<=1000000)/\(∀t∈ts,0<=t/\t<=W)/\(1<=g/\g<=1000000)/\∀(T:Sto)(m:Nat),Pre S T->S.length<=m->T[m]?=some (.lst ((pts bs ts W g bs.length).map frD))->Q (.ref m) T)) ds
def Kp:Sd:=λds S Q ex=>(aI λx=>aN (∀t b:Int,t.natAbs<=10^8->1<=b->b<=10^9->Q (.tup [.int t,.int b]) S)) ds
def Iq:Sd:=λds S Q ex=>(aR λsc=>aI λqi=>aI λg=>aN (∃(cs:List Int)(q:Nat),S[sc]?=some (.frz (cs.map D.int))/\(qi=(q:Int)/\1<=q/\q<=4)/\(1<=g/\g<=1000000)/\∀(T:Sto)(m1 m2 m3:Nat)(B P P2:LI),Pre S T->S.length<=m1->S.length<=m2->S.length<=m3->m1≠m2->m1≠m3->m2≠m3->T[m1]?=some (.lst (B.map frD))->T[m2]?=some (.lst (P.map frD))->T[m3]?=some (.lst (P2.map frD))->B.length=q->P.length=q->P2.length=q->Spn 51 B->InW g B P->InW g B P2->(∀p∈P,1<=p.2/\p.2<=10^9/\p.1.natAbs<=10^9)->(∀p∈P2,1<=p.2/\p.2<=10^9/\p.1.natAbs<=10^9)->(gt P 0).1*(gt P2 0).2≠(gt P2 0).1*(gt P 0).2->Q (.tup [.ref m1,.ref m2,.ref m3]) T)) ds
def SH:Sd:=λds S Q ex=>(aI λT=>aI λB=>aN ((0<B/\Sz 4000 B)/\∀t b:Int,1<=b->Int.gcd t b=1->t*B=T*b->t.natAbs<=T.natAbs->b<=B->Q (.tup [.int t,.int b]) S)) ds
def RZ:Sd:=λds S Q ex=>(aR λa=>aD λd=>aN (∃(q:Nat)(v:Nd)(ns:List Nd)(ws:List Nat),d=v.d/\S[a]?=some (.lst (ns.map Nd.d))/\ns.length<900/\Z3 q ns ws/\v.ok ns.length q/\v.wt ws<=16/\∀(T:Sto)(j:Nat)(ns':List Nd)(ws':List Nat),Gr q a 1 S ns ws T ns' ws'->j<ns'.length->ns'[j]?=some v->ws'.getD j 0=v.wt ws->(∀P,gt (ZD P ns') (j:Int)=v.due (ZD P ns) P)->(∀(i:Nat)(u:Nd),ns.length<=i->ns'[i]?=some u->u=v)->Q (.int (j:Int)) T)) ds
def HI:Sd:=λds S Q ex=>(aR λa=>aR λp=>aI λx_2=>aN (∃(q:Nat)(P:LI)(ns:List Nd)(ws:List Nat),S[a]?=some (.lst (ns.map Nd.d))/\S[p]?=some (.lst (P.map frD))/\a≠p/\Z3 q ns ws/\q=P.length/\q<=4/\ns.length<700/\Wl ns ws/\(∀k:Nat,k<q->ns[k]?=some (.unknown (k:Int)))/\(∀p∈P,1<=p.2/\p.2<=10^9/\p.1.natAbs<=10^9)/\∀(T:Sto)(m:Nat)(fs:List Nat)(ns':List Nd)(ws':List Nat),Gr q a 8 S ns ws T ns' ws'->T[m]?=some (.lst (fs.map wtD))->fs.length=q->(∀f∈fs,Zr P ns' ws' 2 f)->Wl ns' ws'->S.length<=m->Q (.ref m) T)) ds
def Jl:Sd:=λds S Q ex=>(aI λx_0=>aN (∀t b:Int,(1<=b/\b<=10^9)->Int.gcd t b=1->t.natAbs<=10^9->Q (.tup [.int t,.int b]) S)) ds
def K8:Sd:=λds S Q ex=>(aI λx_0=>aN (∀t b:Int,(1<=b/\b<=10^9)->Int.gcd t b=1->t.natAbs<=10^9->Q (.tup [.int t,.int b]) S)) ds
def KI:Sd:=λds S Q ex=>(aR λa=>aR λb=>aD λd=>aI λw=>aN (∃(v:Nd)(ns:List Nd)(ws:List Nat),d=v.d/\S[a]?=some (.lst (ns.map Nd.d))/\S[b]?=some (.lst (ws.map wtD))/\a≠b/\w=(v.wt ws:Nat)/\ns.length<900/\ws.length<900/\(∀j:Nat,ns[j]?=some v->Q (.int (j:Int)) S)/\∀i:Int,i=(ns.length:Nat)->Q (.int i) ((S.set a (.lst ((ns++[v]).map Nd.d))).set b (.lst ((ws++[v.wt ws]).map wtD))))) ds
def K9:Sd:=λds S Q ex=>(aR λa=>aR λb=>aI λc=>aI λmost=>aB λfr=>aN (∃(qn:Nat)(ns:List Nd)(ws:List Nat),S[a]?=some (.lst (ns.map Nd.d))/\S[b]?=some (.lst (ws.map wtD))/\a≠b/\Z3 qn ns ws/\1<=ns.length/\ns.length<900/\most<=16/\∀(T:Sto)(ms:List Nd)(us:List Nat),Z3 qn (ns++ms) us->(∃u2:List Nat,us=ws++u2/\∀w∈u2,w=1\/((w:Nat):Int)<=most)->ms.length<=1->T[a]?=some (.lst ((ns++ms).map Nd.d))->T[b]?=some (.lst (us.map wtD))->S.length<=T.length->(∀(x:Nat)(o:Ob),x≠a->x≠b->S[x]?=some o->T[x]?=some o)->Q .non T)) ds
def IH:Sd:=λds S Q ex=>(aR λa=>aR λp=>aN (∃(q B:Nat)(ns:List Nd)(ws is:List Nat),S[a]?=some (.lst (ns.map Nd.d))/\S[p]?=some (.lst (is.map wtD))/\a≠p/\Z3 q ns ws/\(1<=is.length/\is.length<=5)/\is.length*B<=16/\ns.length<800/\(∀i∈is,i<ns.length/\ws.getD i 0<=B)/\∀(T:Sto)(j:Nat)(ns':List Nd)(ws':List Nat),Gr q a 5 S ns ws T ns' ws'->j<ns'.length->ws'.getD j 0<=is.length*B->(∀P,(∀i∈is,(gt (ZD P ns) (i:Int)).1=0)->(gt (ZD P ns') (j:Int)).1=0)->Q (.int (j:Int)) T)) ds
def Hs:Sd:=λds S Q ex=>(aR λsc=>aR λa=>aR λo1=>aR λo2=>aN (∃(cs:List Int)(q M:Nat)(P P2:LI)(ns:List Nd)(ws fs hs:List Nat),S[sc]?=some (.frz (cs.map D.int))/\S[a]?=some (.lst (ns.map Nd.d))/\S[o1]?=some (.lst (fs.map wtD))/\S[o2]?=some (.lst (hs.map wtD))/\a≠o1/\a≠o2/\Z3 q ns ws/\fs.length=q/\hs.length=q/\(1<=q/\q<=2)/\q*(M+4)<=16/\(1<=ns.length/\ns.length<=100)/\(∀i:Nat,i<ns.length->ws.getD i 0<=M)/\(∀f∈fs,Zr P ns ws 2 f)/\(∀f∈hs,Zr P2 ns ws 2 f)/\∀(T:Sto)(m:Nat)(ns':List Nd)(ws' is:List Nat),Gr q a 23 S ns ws T ns' ws'->S.length<=m->T[m]?=some (.lst (is.map λi=>rwD (true,i)))->is.length=q->(∀i∈is,i<ns'.length)->((∀i∈is,Zb P P2 ns' ws' 16 i)\/∃i,is[0]?=some i/\Qa P ns' i)->Q (.ref m) T)) ds
def OW:Sd:=λds S Q ex=>(aP λa b=>aP λx y=>aN (Q (.tup [.int (a-x),.int (b+y)]) S)) ds
def JC:Sd:=λds S Q ex=>(aI λx=>aI λn=>aN ((0<=n/\n<=6/\Sz 2000 x)/\Q (.int (x^n.toNat)) S)) ds
def MW:Sd:=λds S Q ex=>(aP λa b=>aI λn=>aI λg=>aN ((1<=n/\n<=6/\Sz 1400 a/\Sz 1400 b/\1<=g/\g<=1000000)/\Q (.tup [.int (ZU a b n.toNat/g^(n.toNat-1)),.int (-(-Yg a b n.toNat/g^(n.toNat-1)))]) S)) ds
def RJ:Sd:=λds S Q ex=>(aP λa b=>aP λc d=>aN (Q (.tup [.int (a+c),.int (b+d)]) S)) ds
def Qf:Sd:=λds S Q ex=>(aP λa b=>aP λc d=>aN (Q (.tup [.int (a-d),.int (b-c)]) S)) ds
def Qz:Sd:=λds S Q ex=>(aP λa b=>aP λc d=>aI λg=>aN ((Sz 6010 a/\Sz 6010 b/\Sz 6010 c/\Sz 6010 d/\1<=g/\g<=1000000)/\Q (.tup [.int (mn4 a b c d/g),.int (-(-mx4 a b c d/g))]) S)) ds
def Hh:Sd:=λds S Q ex=>(aD λd=>aR λw=>aR λp=>aI λg=>aN (∃(v:Nd)(vs bs:LI),d=v.d/\S[w]?=some (.lst (vs.map frD))/\S[p]?=some (.lst (bs.map frD))/\v.ok vs.length bs.length/\Spn 1400 vs/\(1<=g/\g<=1000000)/\Q (frD (v.fw vs bs g)) S)) ds
def MM:Sd:=λds S Q ex=>(aR λsc=>aI λat_=>aI λw=>aN (∃cs:List Int,S[sc]?=some (.frz (cs.map D.int))/\(0<=at_/\at_<=100)/\(0<=w/\w<=4)/\∀(T:Sto)(x y:Int),Pre S T->0<=x->0<=y->x<=10^6->y<=10^6->Q (.tup [.int x,.int y]) T)) ds
def Hl:Sd:=λds S Q ex=>(aR λnd=>aR λbx=>aI λg=>aR λsc=>aI λw=>aN (∃(cs:List Int)(ns:List Nd)(ws:List Nat)(bs:LI),S[sc]?=some (.frz (cs.map D.int))/\S[nd]?=some (.lst (ns.map Nd.d))/\S[bx]?=some (.lst (bs.map frD))/\Z3 bs.length ns ws/\ns.length<=90/\Spn 51 bs/\(1<=g/\g<=1000000)/\(0<=w/\w<=1)/\∀(T:Sto)(m:Nat)(vs:LI),Pre S T->S.length<=m->T[m]?=some (.lst (vs.map frD))->vs.length=ns.length->SzW ws vs->Vp ns bs g vs->Q (.ref m) T)) ds
def Hi:Sd:=λds S Q ex=>(aP λa b=>aI λn=>aI λg=>aN ((2<=n/\n<=6/\a<=b/\Sz 1000 a/\Sz 1000 b/\1<=g/\g<=1000000)/\Q (frD (Yq (a,b) n g)) S)) ds
def Hm:Sd:=λds S Q ex=>(aD λd=>aR λw=>aR λs=>aI λli=>aI λg=>aN (∃(v:Nd)(q l:Nat)(vs:LI)(sl:List LI)(ds:List D),d=v.d/\S[w]?=some (.lst (vs.map frD))/\S[s]?=some (.lst ds)/\Z8 S 0 ds sl/\(∀i:Int,inR sl.length i->(sl.getD i.toNat []).length=q/\∀l,l<q->(gs sl i l).1<=(gs sl i l).2/\Sz 1100 (gs sl i l).1/\Sz 1100 (gs sl i l).2)/\(li=(l:Nat)/\l<q)/\v.ok sl.length q/\sl.length<=vs.length/\Spn 1000 vs/\(1<=g/\g<=1000000)/\Q (frD (v.sl vs sl g l)) S)) ds
def JS:Sd:=λds S Q ex=>(aR λa=>aR λw=>aI λqi=>aI λg=>aR λsc=>aN (∃(cs:List Int)(q:Nat)(ns:List Nd)(ws:List Nat)(vs:LI),S[sc]?=some (.frz (cs.map D.int))/\S[a]?=some (.lst (ns.map Nd.d))/\S[w]?=some (.lst (vs.map frD))/\Z3 q ns ws/\SzW ws vs/\vs.length=ns.length/\(qi=(q:Nat)/\1<=q/\q<=3)/\(1<=g/\g<=1000000)/\ns.length<=70/\∀(T:Sto)(m:Nat)(ds:List D)(R:List LI),Pre S T->S.length<=m->T[m]?=some (.lst ds)->Z8 T (m+1) ds R->R.length=ns.length->SlW q ws R->(∀(i:Nat)(v:Nd)(r:LI)(l:Nat)(p:Int×Int),ns[i]?=some v->R[i]?=some r->r[l]?=some p->Ins p (v.sl vs R g l))->Q (.ref m) T)) ds
def Hf:Sd:=λds S Q ex=>(aR λmd=>aR λat_=>aI λg=>aN (∃(q:Nat)(R:List LI)(ds:List D)(is:List Nat),S[md]?=some (.lst ds)/\Z8 S 0 ds R/\S[at_]?=some (.lst (is.map wtD))/\is.length=q/\(1<=q/\q<=2)/\(∀i∈is,i<R.length)/\(∀r∈R,r.length=q/\Bd 1100 r)/\(1<=g/\g<=1000000)/\∀(T:Sto)(m:Nat)(ms:List D)(M:List (List Int)),Pre S T->S.length<=m->T[m]?=some (.lst ms)->Xr T ms M->M.length=q->(∀r∈M,r.length=q/\∀x∈r,Sz 4000 x)->Q (.ref m) T)) ds
def KC:Sd:=λds S Q ex=>(aR λsc=>aI λfi=>aR λmd=>aR λat_=>aI λg=>aN (∃(cs:List Int)(q:Nat)(R:List LI)(ds:List D)(is:List Nat),S[sc]?=some (.frz (cs.map D.int))/\(0<=fi/\fi<=100)/\S[md]?=some (.lst ds)/\Z8 S 0 ds R/\S[at_]?=some (.lst (is.map wtD))/\is.length=q/\(1<=q/\q<=2)/\(∀i∈is,i<R.length)/\(∀r∈R,r.length=q/\Bd 1100 r)/\(1<=g/\g<=1000000)/\∀(T:Sto)(m:Nat)(ms:List D)(M:List (List Int)),Pre S T->S.length<=m->T[m]?=some (.lst ms)->Xr T ms M->M.length=q->(∀r∈M,r.length=q/\∀x∈r,Sz 4000 x)->Q (.ref m) T)) ds
def JO:Sd:=λds S Q ex=>(aR λdu=>aR λbx=>aN (∃us bs:LI,S[du]?=some (.lst (us.map frD))/\S[bx]?=some (.lst (bs.map frD))/\us.length=bs.length/\bs.length<=4/\∀(T:Sto)(m:Nat)(aE:LI),Pre S T->S.length<=m->T[m]?=some (.lst (aE.map frD))->aE.length=bs.length->Q (.ref m) T)) ds
def Ie:Sd:=λds S Q ex=>(aR λth=>aR λmd=>aR λat_=>aR λbx=>aI λg=>aR λtu=>aN (∃(R:List LI)(ds ms:List D)(is:List Nat)(bs aC:LI)(M:List (List Int)),S[th]?=some (.lst (aC.map frD))/\S[md]?=some (.lst ds)/\Z8 S 0 ds R/\S[at_]?=some (.lst (is.map wtD))/\S[bx]?=some (.lst (bs.map frD))/\S[tu]?=some (.lst ms)/\Xr S ms M/\is.length=bs.length/\M.length=bs.length/\(1<=bs.length/\bs.length<=3)/\(∀i∈is,i<R.length/\i<aC.length)/\(∀r∈R,r.length=bs.length/\Bd 2000 r)/\(∀r∈M,r.length=bs.length/\∀x∈r,Sz 4000 x)/\Bd 60 bs/\Bd 2000 aC/\(1<=g/\g<=1000000)/\∀(T:Sto)(m:Nat)(us:LI),Pre S T->S.length<=m->T[m]?=some (.lst (us.map frD))->us.length=bs.length->Q (.ref m) T)) ds
def HC:Sd:=λds S Q ex=>(aR λb=>aN (∃(m:Nat)(d:D)(bs aE vs aC:LI)(M:List (List Int))(R:List LI),S[b]?=some (.lst [.tup [.ref m,d]])/\S[m]?=some (.lst (bs.map frD))/\Xx S d M aE vs aC R/\(aE.length<=900/\vs.length<=900/\aC.length<=900/\M.length<=900/\R.length<=900)/\∀(T:Sto)(n m':Nat)(d':D),Pre S T->S.length<=n->T[n]?=some (.lst [.tup [.ref m',d']])->T[m']?=some (.lst (bs.map frD))->Xx T d' M aE vs aC R->Q (.ref n) T)) ds
def Qg:Sd:=λds S Q ex=>(aR λl=>aI λm=>aN ((∃(R:List LI)(ds:List D),S[l]?=some (.lst ds)/\Z8 S 0 ds R/\R.length<=900/\Q (.bl ((R.map λr=>decide (((r.length:Nat):Int)=m)).all id)) S)\/∃(R:List (List Int))(ds:List D),S[l]?=some (.lst ds)/\Xr S ds R/\R.length<=900/\Q (.bl ((R.map λr=>decide (((r.length:Nat):Int)=m)).all id)) S)) ds
def K0:Sd:=λds S Q ex=>(aR λb=>aN (∃m a1 a2 a3 a4 a5:Nat,S[b]?=some (.lst [.tup [.ref m,.tup [.str "one",.ref a1,.ref a2,.ref a3,.ref a4,.ref a5]]])/\Q (.ref S.length) (S++[.lst []]))) ds
def Hq:Sd:=λds S Q ex=>(aR λbx=>aR λb=>aN (∃(bs:LI)(m a1 a2 a3 a4 a5:Nat),S[bx]?=some (.lst (bs.map frD))/\S[b]?=some (.lst [.tup [.ref m,.tup [.str "one",.ref a1,.ref a2,.ref a3,.ref a4,.ref a5]]])/\S[m]?=some (.lst (bs.map frD))/\∀T,Pre S T->Q (.bl true) T)) ds
def IJ:Sd:=λds S Q ex=>(aP λa b=>aP λc d=>aN (Q (.bl (decide (c<=a)&&decide (b<=d))) S)) ds
def SF:Sd:=λds S Q ex=>(aR λm=>aR λn=>aN (∃us vs:LI,S[m]?=some (.lst (us.map frD))/\S[n]?=some (.lst (vs.map frD))/\us.length<=1000/\Q (.bl (YN us vs)) S)) ds
def Jb:Sd:=λds S Q ex=>(aP λa b=>aP λc d=>aN ((IntMulOk a d/\IntMulOk c b)/\Q (.bl (decide (a*d<c*b))) S)) ds
def Ry:Sd:=λds S Q ex=>(aI λt=>aI λb=>aN (CFd 0 b/\Q (.int (-(-t/b))) S)) ds
def IT:Sd:=λds S Q ex=>(aP λa b=>aP λc d=>aI λg=>aN (((IntMulOk c b/\IntMulOk a d)/\¬ c*b<a*d/\IntMulOk a g/\IntMulOk c g/\CFd 0 b/\CFd 0 d)/\Q (.tup [.int (a*g/b),.int (-(-(c*g)/d))]) S)) ds
def NA (cNumber:Addr)(cUnknown:Addr)(cPlus:Addr)(cMinus:Addr)(cTimes:Addr)(cPower:Addr):Sd:=λds S Q ex=>(aR λn=>aR λw=>aR λp=>aI λg=>aN (∃(x y:Int)(vs bs:LI),S[n]?=some (Nd.ob cNumber cUnknown cPlus cMinus cTimes cPower (Nd.number x y))/\S[w]?=some (.lst (vs.map frD))/\S[p]?=some (.lst (bs.map frD))/\Nd.ok vs.length bs.length (Nd.number x y)/\Spn 1400 vs/\(1<=g/\g<=1000000)/\Q (frD (Nd.fw vs bs g (Nd.number x y))) S)) ds
def Pq (cNumber:Addr)(cUnknown:Addr)(cPlus:Addr)(cMinus:Addr)(cTimes:Addr)(cPower:Addr):Sd:=λds S Q ex=>(aR λn=>aR λw=>aR λp=>aI λg=>aN (∃(k:Int)(vs bs:LI),S[n]?=some (Nd.ob cNumber cUnknown cPlus cMinus cTimes cPower (Nd.unknown k))/\S[w]?=some (.lst (vs.map frD))/\S[p]?=some (.lst (bs.map frD))/\Nd.ok vs.length bs.length (Nd.unknown k)/\Spn 1400 vs/\(1<=g/\g<=1000000)/\Q (frD (Nd.fw vs bs g (Nd.unknown k))) S)) ds
def VV:Sd:=λds S Q ex=>(aP λa b=>aP λc d=>aN (Q (.tup [.int (a+c),.int (b+d)]) S)) ds
def Oj (cNumber:Addr)(cUnknown:Addr)(cPlus:Addr)(cMinus:Addr)(cTimes:Addr)(cPower:Addr):Sd:=λds S Q ex=>(aR λn=>aR λw=>aR λp=>aI λg=>aN (∃(i j:Int)(vs bs:LI),S[n]?=some (Nd.ob cNumber cUnknown cPlus cMinus cTimes cPower (Nd.plus i j))/\S[w]?=some (.lst (vs.map frD))/\S[p]?=some (.lst (bs.map frD))/\Nd.ok vs.length bs.length (Nd.plus i j)/\Spn 1400 vs/\(1<=g/\g<=1000000)/\Q (frD (Nd.fw vs bs g (Nd.plus i j))) S)) ds
def UL:Sd:=λds S Q ex=>(aP λa b=>aP λc d=>aN (Q (.tup [.int (a-d),.int (b-c)]) S)) ds
def Nh (cNumber:Addr)(cUnknown:Addr)(cPlus:Addr)(cMinus:Addr)(cTimes:Addr)(cPower:Addr):Sd:=λds S Q ex=>(aR λn=>aR λw=>aR λp=>aI λg=>aN (∃(i j:Int)(vs bs:LI),S[n]?=some (Nd.ob cNumber cUnknown cPlus cMinus cTimes cPower (Nd.minus i j))/\S[w]?=some (.lst (vs.map frD))/\S[p]?=some (.lst (bs.map frD))/\Nd.ok vs.length bs.length (Nd.minus i j)/\Spn 1400 vs/\(1<=g/\g<=1000000)/\Q (frD (Nd.fw vs bs g (Nd.minus i j))) S)) ds
def Sg:Sd:=λds S Q ex=>(aP λa b=>aP λc d=>aI λg=>aN (((IntMulOk a c/\IntMulOk a d/\IntMulOk b c/\IntMulOk b d)/\CFd 0 g)/\∀mn mx:Int,U5 a b c d mn mx->Q (.tup [.int (mn/g),.int (-(-mx/g))]) S)) ds
def MD (cNumber:Addr)(cUnknown:Addr)(cPlus:Addr)(cMinus:Addr)(cTimes:Addr)(cPower:Addr):Sd:=λds S Q ex=>(aR λn=>aR λw=>aR λp=>aI λg=>aN (∃(i j:Int)(vs bs:LI),S[n]?=some (Nd.ob cNumber cUnknown cPlus cMinus cTimes cPower (Nd.times i j))/\S[w]?=some (.lst (vs.map frD))/\S[p]?=some (.lst (bs.map frD))/\Nd.ok vs.length bs.length (Nd.times i j)/\Spn 1400 vs/\(1<=g/\g<=1000000)/\Q (frD (Nd.fw vs bs g (Nd.times i j))) S)) ds
def KL:Sd:=λds S Q ex=>(aI λx=>aI λn=>aN ((0<=n/\n<=6/\Sz 2000 x)/\Q (.int (x^n.toNat)) S)) ds
def Nr:Sd:=λds S Q ex=>(aP λa b=>aI λn=>aI λg=>aN ((1<=n/\n<=6/\Sz 1400 a/\Sz 1400 b/\1<=g/\Sz 1400 g)/\∀m M:Int,Vu a b n.toNat m M->Q (.tup [.int (m/g^(n.toNat-1)),.int (-(-M/g^(n.toNat-1)))]) S)) ds
def Np (cNumber:Addr)(cUnknown:Addr)(cPlus:Addr)(cMinus:Addr)(cTimes:Addr)(cPower:Addr):Sd:=λds S Q ex=>(aR λn=>aR λw=>aR λp=>aI λg=>aN (∃(i m:Int)(vs bs:LI),S[n]?=some (Nd.ob cNumber cUnknown cPlus cMinus cTimes cPower (Nd.power i m))/\S[w]?=some (.lst (vs.map frD))/\S[p]?=some (.lst (bs.map frD))/\Nd.ok vs.length bs.length (Nd.power i m)/\Spn 1400 vs/\(1<=g/\g<=1000000)/\Q (frD (Nd.fw vs bs g (Nd.power i m))) S)) ds
def Ji (cNumber:Addr):Sd:=λds S Q ex=>(aR λn=>aD λx=>aD λy=>aN (∃T:Sto,S=T++[.ins cNumber []]/\n=T.length/\Q .non (T++[.ins cNumber [("top",x),("bottom",y)]]))) ds
def Js (cUnknown:Addr):Sd:=λds S Q ex=>(aR λn=>aD λx=>aN (∃T:Sto,S=T++[.ins cUnknown []]/\n=T.length/\Q .non (T++[.ins cUnknown [("place",x)]]))) ds
def JA (cPlus:Addr):Sd:=λds S Q ex=>(aR λn=>aD λx=>aD λy=>aN (∃T:Sto,S=T++[.ins cPlus []]/\n=T.length/\Q .non (T++[.ins cPlus [("one",x),("other",y)]]))) ds
def JZ (cMinus:Addr):Sd:=λds S Q ex=>(aR λn=>aD λx=>aD λy=>aN (∃T:Sto,S=T++[.ins cMinus []]/\n=T.length/\Q .non (T++[.ins cMinus [("one",x),("other",y)]]))) ds
def Im (cTimes:Addr):Sd:=λds S Q ex=>(aR λn=>aD λx=>aD λy=>aN (∃T:Sto,S=T++[.ins cTimes []]/\n=T.length/\Q .non (T++[.ins cTimes [("one",x),("other",y)]]))) ds
def IV (cPower:Addr):Sd:=λds S Q ex=>(aR λn=>aD λx=>aD λy=>aN (∃T:Sto,S=T++[.ins cPower []]/\n=T.length/\Q .non (T++[.ins cPower [("one",x),("many",y)]]))) ds
def NF (cNumber:Addr)(cUnknown:Addr)(cPlus:Addr)(cMinus:Addr)(cTimes:Addr)(cPower:Addr):Sd:=λds S Q ex=>(aD λd=>aN (∃v:Nd,d=v.d/\Q (.ref S.length) (S++[v.ob cNumber cUnknown cPlus cMinus cTimes cPower]))) ds
def J8:Sd:=λds S Q ex=>(aR λa=>aR λb=>aI λg=>aR λc=>aN (∃(ns:List Nd)(ws:List Nat)(bs vs:LI),S[a]?=some (.lst (ns.map Nd.d))/\S[b]?=some (.lst (bs.map frD))/\S[c]?=some (.lst (vs.map frD))/\Z3 bs.length ns ws/\vs.length<=ns.length/\ns.length<=900/\Spn 1400 vs/\(1<=g/\g<=1000000)/\Q (.bl (YN ((ns.take vs.length).map λv=>v.fw vs bs g) vs)) S)) ds
def JM:Sd:=λds S Q ex=>(aR λnd=>aR λbx=>aI λg=>aR λm=>aN (∃(ns:List Nd)(ws:List Nat)(bs vs:LI),S[nd]?=some (.lst (ns.map Nd.d))/\S[bx]?=some (.lst (bs.map frD))/\S[m]?=some (.lst (vs.map frD))/\Z3 bs.length ns ws/\ns.length<=900/\Spn 1400 vs/\(1<=g/\g<=1000000)/\vs.length=ns.length/\Q (.bl (YN ((ns.take vs.length).map λv=>v.fw vs bs g) vs)) S)) ds
def Jy:Sd:=λds S Q ex=>(aS λw=>aP λa b=>aN ((w="zero"/\Q (.bl (decide (a=0)&&decide (b=0))) S)\/(w="least"/\Q (.bl (decide (0<=a))) S))) ds
def Ih:Sd:=λds S Q ex=>(aR λr=>aR λs=>aN (∃(rows:List (Bool×Nat))(vs:LI),S[r]?=some (.lst (rows.map rwD))/\S[s]?=some (.lst (vs.map frD))/\rows.length<=900/\(∀r∈rows,r.2<vs.length)/\Q (.bl (U7 rows vs)) S)) ds
def Hn:Sd:=λds S Q ex=>(aP λa b=>aN (Q (.int ((a+b)/2)) S)) ds
def IX:Sd:=λds S Q ex=>(aR λs=>aN (∃vs:LI,S[s]?=some (.lst (vs.map frD))/\vs.length<=900/\Q (.ref S.length) (S++[.lst (vs.map λp=>.int (mid p))]))) ds
def OX:Sd:=λds S Q ex=>(aR λb=>aN (∃vs:LI,S[b]?=some (.lst (vs.map frD))/\vs.length<=900/\∀(T:Sto)(m:Nat),Pre S T->S.length<=m->T[m]?=some (.lst ((vs.map Z5).map frD))->Q (.ref m) T)) ds
def Md (cNumber:Addr)(cUnknown:Addr)(cPlus:Addr)(cMinus:Addr)(cTimes:Addr)(cPower:Addr):Sd:=λds S Q ex=>(aR λn=>aR λw=>aR λs=>aI λqi=>aI λg=>aN (∃(x y:Int)(q:Nat)(vs:LI)(sl:List LI)(ds:List D),S[n]?=some (Nd.ob cNumber cUnknown cPlus cMinus cTimes cPower (Nd.number x y))/\S[w]?=some (.lst (vs.map frD))/\S[s]?=some (.lst ds)/\Z8 S 0 ds sl/\(∀i:Int,inR sl.length i->(sl.getD i.toNat []).length=q/\∀l,l<q->(gs sl i l).1<=(gs sl i l).2/\Sz 1100 (gs sl i l).1/\Sz 1100 (gs sl i l).2)/\(qi=(q:Nat)/\q<=900)/\Nd.ok sl.length q (Nd.number x y)/\sl.length<=vs.length/\Spn 1000 vs/\(1<=g/\g<=1000000)/\∀(T:Sto)(mm:Nat),Pre S T->S.length<=mm->T[mm]?=some (.lst ((Yz vs sl g q (Nd.number x y)).map frD))->Q (.ref mm) T)) ds
def Ni (cNumber:Addr)(cUnknown:Addr)(cPlus:Addr)(cMinus:Addr)(cTimes:Addr)(cPower:Addr):Sd:=λds S Q ex=>(aR λn=>aR λw=>aR λs=>aI λqi=>aI λg=>aN (∃(k:Int)(q:Nat)(vs:LI)(sl:List LI)(ds:List D),S[n]?=some (Nd.ob cNumber cUnknown cPlus cMinus cTimes cPower (Nd.unknown k))/\S[w]?=some (.lst (vs.map frD))/\S[s]?=some (.lst ds)/\Z8 S 0 ds sl/\(∀i:Int,inR sl.length i->(sl.getD i.toNat []).length=q/\∀l,l<q->(gs sl i l).1<=(gs sl i l).2/\Sz 1100 (gs sl i l).1/\Sz 1100 (gs sl i l).2)/\(qi=(q:Nat)/\q<=900)/\Nd.ok sl.length q (Nd.unknown k)/\sl.length<=vs.length/\Spn 1000 vs/\(1<=g/\g<=1000000)/\∀(T:Sto)(mm:Nat),Pre S T->S.length<=mm->T[mm]?=some (.lst ((Yz vs sl g q (Nd.unknown k)).map frD))->Q (.ref mm) T)) ds
def IZ (cPlus:Addr):Sd:=λds S Q ex=>(aR λx_0=>aD λx_1=>aD λx_2=>aP λa b=>aP λc d=>aI λx_7=>aN (Q (.tup [.int (a+c),.int (b+d)]) S)) ds
def MP (cNumber:Addr)(cUnknown:Addr)(cPlus:Addr)(cMinus:Addr)(cTimes:Addr)(cPower:Addr):Sd:=λds S Q ex=>(aR λn=>aR λw=>aR λs=>aI λqi=>aI λg=>aN (∃(i j:Int)(q:Nat)(vs:LI)(sl:List LI)(ds:List D),S[n]?=some (Nd.ob cNumber cUnknown cPlus cMinus cTimes cPower (Nd.plus i j))/\S[w]?=some (.lst (vs.map frD))/\S[s]?=some (.lst ds)/\Z8 S 0 ds sl/\(∀i:Int,inR sl.length i->(sl.getD i.toNat []).length=q/\∀l,l<q->(gs sl i l).1<=(gs sl i l).2/\Sz 1100 (gs sl i l).1/\Sz 1100 (gs sl i l).2)/\(qi=(q:Nat)/\q<=900)/\Nd.ok sl.length q (Nd.plus i j)/\sl.length<=vs.length/\Spn 1000 vs/\(1<=g/\g<=1000000)/\∀(T:Sto)(mm:Nat),Pre S T->S.length<=mm->T[mm]?=some (.lst ((Yz vs sl g q (Nd.plus i j)).map frD))->Q (.ref mm) T)) ds
def IY (cMinus:Addr):Sd:=λds S Q ex=>(aR λx_0=>aD λx_1=>aD λx_2=>aP λa b=>aP λc d=>aI λx_7=>aN (Q (.tup [.int (a-d),.int (b-c)]) S)) ds
def Lq (cNumber:Addr)(cUnknown:Addr)(cPlus:Addr)(cMinus:Addr)(cTimes:Addr)(cPower:Addr):Sd:=λds S Q ex=>(aR λn=>aR λw=>aR λs=>aI λqi=>aI λg=>aN (∃(i j:Int)(q:Nat)(vs:LI)(sl:List LI)(ds:List D),S[n]?=some (Nd.ob cNumber cUnknown cPlus cMinus cTimes cPower (Nd.minus i j))/\S[w]?=some (.lst (vs.map frD))/\S[s]?=some (.lst ds)/\Z8 S 0 ds sl/\(∀i:Int,inR sl.length i->(sl.getD i.toNat []).length=q/\∀l,l<q->(gs sl i l).1<=(gs sl i l).2/\Sz 1100 (gs sl i l).1/\Sz 1100 (gs sl i l).2)/\(qi=(q:Nat)/\q<=900)/\Nd.ok sl.length q (Nd.minus i j)/\sl.length<=vs.length/\Spn 1000 vs/\(1<=g/\g<=1000000)/\∀(T:Sto)(mm:Nat),Pre S T->S.length<=mm->T[mm]?=some (.lst ((Yz vs sl g q (Nd.minus i j)).map frD))->Q (.ref mm) T)) ds
def JY (cTimes:Addr):Sd:=λds S Q ex=>(aR λx_0=>aP λx1 x2=>aP λy1 y2=>aP λa b=>aP λc d=>aI λg=>aN ((Sz 1400 x1/\Sz 1400 x2/\Sz 1400 y1/\Sz 1400 y2/\Sz 1400 a/\Sz 1400 b/\Sz 1400 c/\Sz 1400 d/\1<=g/\g<=1000000)/\Q (.tup [.int ((Z7 (x1,x2) (c,d) g).1+(Z7 (y1,y2) (a,b) g).1),.int ((Z7 (x1,x2) (c,d) g).2+(Z7 (y1,y2) (a,b) g).2)]) S)) ds
def LP (cNumber:Addr)(cUnknown:Addr)(cPlus:Addr)(cMinus:Addr)(cTimes:Addr)(cPower:Addr):Sd:=λds S Q ex=>(aR λn=>aR λw=>aR λs=>aI λqi=>aI λg=>aN (∃(i j:Int)(q:Nat)(vs:LI)(sl:List LI)(ds:List D),S[n]?=some (Nd.ob cNumber cUnknown cPlus cMinus cTimes cPower (Nd.times i j))/\S[w]?=some (.lst (vs.map frD))/\S[s]?=some (.lst ds)/\Z8 S 0 ds sl/\(∀i:Int,inR sl.length i->(sl.getD i.toNat []).length=q/\∀l,l<q->(gs sl i l).1<=(gs sl i l).2/\Sz 1100 (gs sl i l).1/\Sz 1100 (gs sl i l).2)/\(qi=(q:Nat)/\q<=900)/\Nd.ok sl.length q (Nd.times i j)/\sl.length<=vs.length/\Spn 1000 vs/\(1<=g/\g<=1000000)/\∀(T:Sto)(mm:Nat),Pre S T->S.length<=mm->T[mm]?=some (.lst ((Yz vs sl g q (Nd.times i j)).map frD))->Q (.ref mm) T)) ds
def JH:Sd:=λds S Q ex=>(aP λa b=>aI λm=>aN ((IntMulOk a m/\IntMulOk b m)/\Q (.tup [.int (if b*m<a*m then b*m else a*m),.int (if b*m > a*m then b*m else a*m)]) S)) ds
def Lp (cNumber:Addr)(cUnknown:Addr)(cPlus:Addr)(cMinus:Addr)(cTimes:Addr)(cPower:Addr):Sd:=λds S Q ex=>(aR λn=>aR λw=>aR λs=>aI λqi=>aI λg=>aN (∃(i m:Int)(q:Nat)(vs:LI)(sl:List LI)(ds:List D),S[n]?=some (Nd.ob cNumber cUnknown cPlus cMinus cTimes cPower (Nd.power i m))/\S[w]?=some (.lst (vs.map frD))/\S[s]?=some (.lst ds)/\Z8 S 0 ds sl/\(∀i:Int,inR sl.length i->(sl.getD i.toNat []).length=q/\∀l,l<q->(gs sl i l).1<=(gs sl i l).2/\Sz 1100 (gs sl i l).1/\Sz 1100 (gs sl i l).2)/\(qi=(q:Nat)/\q<=900)/\Nd.ok sl.length q (Nd.power i m)/\sl.length<=vs.length/\Spn 1000 vs/\(1<=g/\g<=1000000)/\∀(T:Sto)(mm:Nat),Pre S T->S.length<=mm->T[mm]?=some (.lst ((Yz vs sl g q (Nd.power i m)).map frD))->Q (.ref mm) T)) ds
def JK:Sd:=λds S Q ex=>(aR λa=>aR λb=>aI λg=>aR λc=>aR λd=>aN (∃(ns:List Nd)(ws:List Nat)(bs vs:LI)(R:List LI)(ds:List D),S[a]?=some (.lst (ns.map Nd.d))/\S[b]?=some (.lst (bs.map frD))/\S[c]?=some (.lst (vs.map frD))/\S[d]?=some (.lst ds)/\Z8 S 0 ds R/\Z3 bs.length ns ws/\vs.length=ns.length/\bs.length<=900/\ns.length<=900/\R.length<=900/\Spn 1000 vs/\(1<=g/\g<=1000000)/\(((R.length≠ns.length\/∃r∈R,r.length≠bs.length)/\Q (.bl false) S)\/(R.length=ns.length/\SlW bs.length ws R/\Q (.bl ((slB vs R g bs.length ns).all id)) S)))) ds
def Hg:Sd:=λds S Q ex=>(aR λr=>aN (∃rows:List (Bool×Nat),S[r]?=some (.lst (rows.map rwD))/\rows.length<=900/\Q (.ref S.length) (S++[.lst ((eqs rows).map wtD)]))) ds
def Kr:Sd:=λds S Q ex=>(aR λl=>aI λm=>aN (∃(M:List (List Int))(ds:List D)(n:Nat),S[l]?=some (.lst ds)/\Xr S ds M/\m=(n:Int)/\M.length=n/\n<=900/\(∀r∈M,r.length=n)/\Q (.bl true) S)) ds
def O4:Sd:=λds S Q ex=>(aR λa=>aR λb=>aI λg=>aN (∃(us vs:LI),S[a]?=some (.lst (us.map frD))/\S[b]?=some (.lst (vs.map frD))/\us.length<=60/\Bd 20000 us/\Bd 20000 vs/\(1<=g/\g<=1000000)/\Q (frD (sumP g us vs)) S)) ds
def Kt:Sd:=λds S Q ex=>(aI λk=>aI λc=>aR λt=>aR λs=>aI λg=>aN (∃(q kn cn:Nat)(ts:LI)(R:List LI)(ds:List D),k=(kn:Nat)/\c=(cn:Nat)/\S[t]?=some (.lst (ts.map frD))/\S[s]?=some (.lst ds)/\Z8 S 0 ds R/\(∀r∈R,r.length=q/\Bd 2000 r)/\cn<q/\ts.length<=60/\R.length<=60/\Bd 20000 ts/\(1<=g/\g<=1000000)/\Q (frD (Xm g kn cn ts R)) S)) ds
def KU:Sd:=λds S Q ex=>(aI λki=>aR λb=>aI λg=>aR λe=>aR λt=>aR λs=>aN (∃(k:Nat)(box aC:LI)(es:List Int)(R:List LI)(ds:List D),ki=(k:Nat)/\k<box.length/\S[e]?=some (.lst (es.map D.int))/\es.length<=4/\(∀x∈es,Sz 4000 x)/\S[b]?=some (.lst (box.map frD))/\S[t]?=some (.lst (aC.map frD))/\S[s]?=some (.lst ds)/\Z8 S 0 ds R/\(∀r∈R,r.length=box.length/\Bd 2000 r)/\(1<=box.length/\box.length<=4)/\R.length<=4/\aC.length<=4/\Bd 60 box/\Bd 2000 aC/\(1<=g/\g<=1000000)/\Q (frD (YG g box aC R k es)) S)) ds
def Jg:Sd:=λds S Q ex=>(aR λb=>aI λg=>aR λu=>aR λt=>aR λs=>aN (∃(box aC:LI)(M:List (List Int))(ms:List D)(R:List LI)(ds:List D),S[u]?=some (.lst ms)/\Xr S ms M/\M.length=box.length/\(∀r∈M,r.length<=4/\∀x∈r,Sz 4000 x)/\S[b]?=some (.lst (box.map frD))/\S[t]?=some (.lst (aC.map frD))/\S[s]?=some (.lst ds)/\Z8 S 0 ds R/\(∀r∈R,r.length=box.length/\Bd 2000 r)/\(1<=box.length/\box.length<=4)/\R.length<=4/\aC.length<=4/\Bd 60 box/\Bd 2000 aC/\(1<=g/\g<=1000000)/\Q (.ref S.length) (S++[.lst ((M.mapIdx λk es=>YG g box aC R k es).map frD)]))) ds
def Jx:Sd:=λds S Q ex=>(aR λe=>aR λp=>aN (∃(xs:List D)(is:List Nat),S[e]?=some (.lst xs)/\S[p]?=some (.lst (is.map wtD))/\is.length<=900/\(∀i∈is,i<xs.length)/\Q (.ref S.length) (S++[.lst (is.map λi=>xs.getD i .non)]))) ds
def JW:Sd:=λds S Q ex=>(aP λa b=>aP λc d=>aN (Q (.bl (decide (c<a)&&decide (b<d))) S)) ds
def Ir:Sd:=λds S Q ex=>(aR λm=>aR λn=>aN (∃us vs:LI,S[m]?=some (.lst (us.map frD))/\S[n]?=some (.lst (vs.map frD))/\us.length<=1000/\Q (.bl (V3 us vs)) S)) ds
def JI:Sd:=λds S Q ex=>(aR λrw=>aR λbx=>aI λg=>aD λd=>aN (∃(rows:List (Bool×Nat))(bs aE vs aC:LI)(M:List (List Int))(R:List LI),S[rw]?=some (.lst (rows.map rwD))/\rows.length<=900/\S[bx]?=some (.lst (bs.map frD))/\Xx S d M aE vs aC R/\(∀r∈rows,r.2<R.length/\r.2<aC.length)/\(eqs rows).length=bs.length/\M.length=bs.length/\(∀r∈M,r.length=bs.length/\∀x∈r,Sz 4000 x)/\aE.length=bs.length/\(∀r∈R,r.length=bs.length/\Bd 2000 r)/\(1<=bs.length/\bs.length<=4)/\Bd 60 bs/\Bd 2000 aC/\(1<=g/\g<=1000000)/\∀T,Pre S T->Q (.bl (YN (W6 g bs aC R (eqs rows) M) aE&&V3 aE bs)) T)) ds
def HA:Sd:=λds S Q ex=>(aR λnd=>aR λrw=>aR λbx=>aI λg=>aD λd=>aN (∃ans:Bool,TH S nd rw bx g d ans/\∀T,Pre S T->Q (.bl ans) T)) ds
def Iv:Sd:=λds S Q ex=>(aR λnd=>aR λrw=>aI λg=>aR λb=>aI λn=>aN (∃(m:Nat)(d:D)(ans:Bool),n=0/\S[b]?=some (.lst [.tup [.ref m,d]])/\TH S nd rw m g d ans/\∀T,Pre S T->Q (.bl ans) T)) ds
def KS:Sd:=λds S Q ex=>(aR λnd=>aR λrw=>aR λbx=>aI λg=>aR λb=>aN (∃(bs:LI)(m:Nat)(d:D)(ans:Bool),S[bx]?=some (.lst (bs.map frD))/\S[m]?=some (.lst (bs.map frD))/\S[b]?=some (.lst [.tup [.ref m,d]])/\TH S nd rw m g d ans/\∀T,Pre S T->Q (.bl ans) T)) ds
section
variable {P:Program}{w:World}{K:Fg}{mg:Str->Option Value}{base:Heap}
def CW  (L6:Df K mg q54 O7 Uy)(ZF:mg "len"=none):Fk P w K mg base 1 q54 Uy Qi:=
 L6.mk' (ZE (k:=0) L6.F zdh (λ_ _ _ _=>nR λ_=>nN:Ln (Qi) 1) λ_ _ _ _ _ _ hr=>⟨_,(Zh (Zv (Vg (YQ LK (ZL (ZM Z1) rfl ZF Boot.«len» (Za (dv 0) Ze)) Zd (ZH _)) (Vd (YQ (ZV hr) (Zf Yc (Zw (dv 0) Zd) Zd) Zd (ZH _)))))),λds S Q ex h=>by
  replace h:=eR h;obtain⟨sc,rfl,h⟩:=h;obtain⟨cs,hs,h⟩:=h;refine NM hs ?_;rw[zA];unfold frS at h;refine ifD (λc=>?_) (λc=>?_)
  ·have c':0<cs.length:=by lia
   refine Zq (o:=.frz (cs.map D.int)) hs (P8 (by decide) (by lia)) ?_;rw[decide_eq_true c',Bool.true_and] at h;exact h
  ·rw[decide_eq_false (show ¬ 0<cs.length by lia),Bool.false_and] at h;exact h⟩)
def zcn  (Pm:Df K mg q36 Ld WU)(WE:Fk P w K mg base 1 q54 Uy Qi)(ZF:mg "len"=none):Fk P w K mg base 2 q36 WU Ur:=
 Pm.mk' (ZE (k:=1) Pm.F R9 (λ_ _ _ _=>nR λ_=>nI λ_=>nN:Ln (Ur) 2) λ_ _ _ _ _ _ hr=>⟨_,(Zg (ZQ (Xw (Zj WE hr (Za (dv 0) Ze))) (Zg (ZQ (ZP (ZV hr) (dv 1) Zd (ZH _)) (Zh (Zv (Zf Yj (Zw (dv 0) Zd) Zd))) ZS) (Zg (ZQ (ZP Vr (dv 1) (ZL (ZM Z1) rfl ZF Boot.«len» (Za (dv 0) Ze)) (ZH _)) (Zh (Zv (Zw (dv 0) (dv 1)))) ZS) (Zh (Zv Zd)))) ZS) (Zg (Zy (i:=2) R9.nd Zd) (Zg (ZQ (ZP LK (ZL (ZM Z1) rfl ZF Boot.«len» (Za (dv 0) Ze)) Zd (ZH _)) (Zh (Zy (i:=2) R9.nd (Zf YK (Zw (dv 0) (Zf YK (dv 1) (ZL (ZM Z1) rfl ZF Boot.«len» (Za (dv 0) Ze)))) (Zf X2 Zd Zd)))) ZS) (Zg (Zy (i:=3) R9.nd (Zf YK (Zf ZR (Zf ZW (Zf ZW (Zf ZW (dv 2) (Zf ZR (Zf ZR Zd (dv 1)) (dv 1))) (Zf ZR Zd (dv 1))) Zd) Zd) Zd)) (Zg (Zy (i:=4) R9.nd (Zf YK (Zf ZW (Zf ZR (dv 3) (dv 3)) (dv 1)) Zd)) (Zh (Zv (Zf YK (Zf ZW (Zf ZR (dv 4) Zd) (dv 3)) Zd)))))))),λds S Q ex h=>by
  replace h:=eRI h;obtain⟨sc,k,rfl,h⟩:=h;obtain⟨cs,hs,⟨k0,k1⟩,h⟩:=h;refine⟨cs,hs,?_⟩;cases ef:frS cs
  ·refine YS ?_
   try dsimp only[GV]
   refine Vq (λdl2 S2=>S=S2/\∃c:Int,dl2=[some (.ref sc),some (.int k),some (.int c),none,none]) (λnx hn=>?_) ?_
   ·refine NM hs ?_;rw[zA];refine ifD (λc=>?_) (λc=>?_)
    ·refine NM hs ?_;rw[zA];have r:=Yu (a:=k) c;refine⟨c,?_⟩;refine Zq (o:=.frz (cs.map D.int)) hs (P8 r.1 r.2) ?_;exact⟨show (0:Int)<10^Int.toNat 18 by decide,hn _ _ ⟨rfl,_,rfl⟩⟩
    ·exact hn _ _ ⟨rfl,_,rfl⟩
   ·rintro dl2 S2 ⟨rfl,c,rfl⟩;have sk:Sz 10 k:=Sz.of 1000 (by lia)
    have s7:Sz 14 (7*k):=Sz.of 10000 (by lia)
    have r1:=Yu (a:=(c+7*k*k+13*k+5)*48271) (b:=2147483647) (by decide)
    have sf:Sz 32 ((c+7*k*k+13*k+5)*48271%2147483647):=Sz.of 2147483647 (by lia);refine⟨IntMulOk.of_left (by decide),ZN s7 sk,IntMulOk.of_left (by decide),IntMulOk.of_right (by decide),show (0:Int)<2147483647 by decide,?_⟩;refine⟨ZN sf sf,show (0:Int)<1000000007 by decide,?_⟩;refine⟨IntMulOk.of_right (by decide),show (0:Int)<2147483629 by decide,?_⟩;exact h _
  ·refine Xn ?_;have hc:0<cs.length:=by
    unfold frS at ef;simp only[Bool.and_eq_true,decide_eq_true_eq] at ef;exact ef.1
   refine ifD (λc=>?_) (λc=>?_)
   ·refine Zq (o:=.frz (cs.map D.int)) hs (P8 (by decide) (by lia)) ?_;exact h _
   ·refine NM hs ?_;rw[zA];refine ifD (λc2=>?_) (λc2=>?_)
    ·refine Zq (o:=.frz (cs.map D.int)) hs (P8 k0 c2) ?_;exact h _
    ·exact h _⟩)
def Dt  (PM:Df K mg q75 P7 RR):Fk P w K mg base 1 q75 RR Kq:=
 PM.mk' (ZE (k:=0) PM.F zcN (λ_ _ _ _=>nI λ_=>nN:Ln (Kq) 1) λ_ _ _ _ _ _ hr=>⟨_,(Zg (ZQ (ZP (ZV hr) (Zf Yc (dv 0) Zd) Zd (ZH _)) (Zh (Zv (Zf ZW Zd (Zf Yc (Zf Yj (dv 0) Zd) Zd)))) ZS) (Zg (ZQ (ZP (ZV hr) (Zf Yc (dv 0) Zd) Zd (ZH _)) (Zh (Zv (Zf ZW Zd (Zf Yc (Zf Yj (dv 0) Zd) Zd)))) ZS) (Zh (Zv Zd)))),λds S Q ex h=>by
  replace h:=eI h;obtain⟨c,rfl,h⟩:=h;refine ifD (λe=>?_) (λe=>?_)
  ·exact h _ (by lia) (by lia)
  ·refine ifD (λe=>?_) (λe=>?_)
   ·exact h _ (by lia) (by lia)
   ·exact h _ (by decide) (by decide)⟩)
def DN  (Mi:Df K mg q76 OV QJ):Fk P w K mg base 1 q76 QJ J5:=
 Mi.mk' (ZE (k:=0) Mi.F UN (λ_ _ _ _=>nI λ_=>nI λ_=>nN:Ln (J5) 2) λ_ _ _ _ _ _ hr=>⟨_,(Zg (Zy (i:=2) UN.nd (Zf YB (Zf Yc (Zf Yj (dv 0) Zd) Zd) Zd)) (Zg (ZQ (ZP (ZV hr) (Zf Yc (dv 0) Zd) Zd (ZH _)) (Zh (Zy (i:=2) UN.nd (Zf YB (Zf Yc (Zf Yj (dv 0) Zd) Zd) Zd))) ZS) (Zg (Zy (i:=3) UN.nd (Zf Yc (Zf Yj (dv 1) Zd) Zd)) (Zg (ZQ (ZP (ZV hr) (Zf Yc (dv 1) Zd) Zd (ZH _)) (Zh (Zy (i:=3) UN.nd (Zf Yc (Zf Yj (dv 1) Zd) Zd))) ZS) (Zg (ZQ (ZP (ZV hr) (Zf Yc (dv 1) Zd) Zd (ZH _)) (Zh (Zy (i:=3) UN.nd (Zf Yc (Zf Yj (dv 1) Zd) Zd))) ZS) (Zh (Zv (ZT (Za (dv 2) (Za (Zf ZW (Zf ZW (dv 2) Zd) (dv 3)) Ze)))))))))),λds S Q ex h=>by
  replace h:=eII h;obtain⟨c,d,rfl,h⟩:=h;refine ifD (λe=>?_) (λe=>?_)
  ·refine ifD (λe1=>?_) (λe1=>?_)
   ·refine ifD (λe2=>absurd (e1.symm.trans e2) (by decide)) (λe2=>?_);exact h _ _ (by lia) (by lia) (by lia)
   ·refine ifD (λe2=>?_) (λe2=>?_)
    ·exact h _ _ (by lia) (by lia) (by lia)
    ·exact h _ _ (by lia) (by lia) (by lia)
  ·refine ifD (λe1=>?_) (λe1=>?_)
   ·refine ifD (λe2=>absurd (e1.symm.trans e2) (by decide)) (λe2=>?_);exact h _ _ (by lia) (by lia) (by lia)
   ·refine ifD (λe2=>?_) (λe2=>?_)
    ·exact h _ _ (by lia) (by lia) (by lia)
    ·exact h _ _ (by lia) (by lia) (by lia)⟩)
def zbs  (Nq:Df K mg q62 Nv RO)(ZO:mg q98=none)(ZF:mg "len"=none):Fk P w K mg base 1 q62 RO IA:=
 Nq.mk' (ZE (k:=0) Nq.F IS (λ_ _ _ _=>nR λ_=>nR λ_=>nI λ_=>nI λ_=>nN:Ln (IA) 4) λ_ _ _ _ _ _ hr=>⟨_,(Zg (Zy (i:=4) IS.nd (Ye Ze)) (Zg (Xe (i:=5) PassesOwn.never rfl IS.nd rfl (Or.inl rfl) rfl ZO (Za (ZL (ZM Z1) rfl ZF Boot.«len» (Za (dv 0) Ze)) Ze) (Zh (Yo (YD (dv 4) (ZT (Za (Zf ZW (Zf ZR (Zi (Zw (dv 0) (dv 5)) Zd) (dv 2)) (Zf ZR (Zf YB (Zi (Zw (dv 0) (dv 5)) Zd) (Zi (Zw (dv 0) (dv 5)) Zd)) (Zw (dv 1) (dv 5)))) (Za (Zf ZR (dv 3) (dv 2)) Ze))))))) (Zh (Zv (dv 4))))),λds S Q ex h=>by
  replace h:=eRRII h;obtain⟨b,pa,W,g,rfl,h⟩:=h;obtain⟨bs,ts,hb,hp,hl,h9,sb,hw,ht,hg,h⟩:=h;have sg:Sz 21 g:=Sz.of 1000000 (by lia)
  have sw:Sz 20 W:=Sz.of 1000000 (by lia);refine Z9 (Zn hb) ?_;rw[zA];refine⟨⟨by lia,by lia⟩,λk dl' S'=>k<=bs.length/\Pre S S'/\S'[S.length]?=some (.lst ((pts bs ts W g k).map frD))/\∃u:Option D,dl'=[some (.ref b),some (.ref pa),some (.int W),some (.int g),some (.ref S.length),u],⟨zL _,Pre.refl.push,Zz _ _,_,rfl⟩,?_⟩;rintro k dl' S' ⟨hk,pr,hs,u,rfl⟩;rw[zI];refine Y0 (λc=>?_) (λc=>?_)
  ·have kb:inR ((bs.length:Nat):Int) (k:Int):=⟨by lia,by lia⟩;obtain⟨t,_,m1,m2,_⟩:=KQ (k:=k) sb hw ht hg c hl;refine XW (n:=S.length) (S1:=S') (xs:=(pts bs ts W g k).map frD) (y:=frD (Ud bs ts W g k)) (λK hK=>by exact hK) hs (λK hK=>?_) (by rw[zA,Le];lia) ?_
   ·refine Zq (o:=.lst (bs.map frD)) (pr _ _ hb) (Z6 kb) ?_;refine⟨m1,?_⟩;refine Zq (o:=.lst (bs.map frD)) (pr _ _ hb) (Z6 kb) ?_;refine Zq (o:=.lst (bs.map frD)) (pr _ _ hb) (Z6 kb) ?_;refine Zq (o:=.lst (ts.map D.int)) (pr _ _ hp) (Eg (by lia)) ?_;exact⟨m2,ZN sg sw,hK⟩
   ·refine⟨by lia,QT pr (zC _),?_,_,rfl⟩;rw[za0,yD];exact Yp hs
  ·have e:k=bs.length:=by lia
   subst e;exact h _ _ pr (zC _) hs⟩)
def zcz  (LB:Df K mg q79 MN Ql):Fk P w K mg base 1 q79 Ql Kp:=
 LB.mk' (ZE (k:=0) LB.F DW (λ_ _ _ _=>nI λ_=>nN:Ln (Kp) 1) λ_ _ _ _ _ _ hr=>⟨_,(Zh (Zv (ZT (Za (Zf YB (Zf Yc (dv 0) Zd) Zd) (Za (Zf ZW Zd (Zf Yc (Zf Yj (dv 0) Zd) Zd)) Ze))))),λds S Q ex h=>by
  replace h:=eI h;obtain⟨x,rfl,h⟩:=h;have r1:=Yu (a:=x) (b:=199999999) (by decide)
  have r2:=Yu (a:=x/199999999) (b:=999999999) (by decide);exact h (x%199999999-99999999) (1+x/199999999%999999999) (by lia) (by lia) (by lia)⟩)
def Ao  (NK:Df K mg q34 LH QU)(Yk:Fk P w K mg base 2 q36 WU Ur)(NL:Fk P w K mg base 1 q79 Ql Kp)(ZO:mg q98=none)(YZ:mg "max"=none)(YW:mg "min"=none):Fk P w K mg base 3 q34 QU Iq:=
 NK.mk' (ZE (k:=2) NK.F WB (λ_ _ _ _=>nR λ_=>nI λ_=>nI λ_=>nN:Ln (Iq) 3) λ_ _ _ _ _ _ hr=>⟨_,(Zg (Zy (i:=3) WB.nd (Ye Ze)) (Zg (Zy (i:=4) WB.nd (Ye (Za (Ye Ze) (Za (Ye Ze) Ze)))) (Zg (Xe (i:=5) PassesOwn.never rfl WB.nd rfl (Or.inl rfl) rfl ZO (Za (dv 1) Ze) (Zg (Zy (i:=6) WB.nd (Zj NL hr (Za (Zj Yk hr (Za (dv 0) (Za (Zf ZW Zd (dv 5)) Ze))) Ze))) (Zg (Zy (i:=7) WB.nd (Zj NL hr (Za (Zj Yk hr (Za (dv 0) (Za (Zf ZW Zd (dv 5)) Ze))) Ze))) (Zg (ZQ (PDW.pt (J9 (ZP (ZV hr) (dv 5) Zd (ZH _)) (HQ (ZP (ZV hr) (Zf ZR (Zi (dv 6) Zd) (Zi (dv 7) Zd)) (Zf ZR (Zi (dv 7) Zd) (Zi (dv 6) Zd)) (ZH _))))) (Zh (Zy (i:=7) WB.nd (ZT (Za (Zf ZW (Zi (dv 7) Zd) Zd) (Za (Zi (dv 7) Zd) Ze))))) ZS) (Zg (Zy (i:=8) WB.nd (Ye (Za (Zf YJ (Zf ZR (Zi (dv 6) Zd) (dv 2)) (Zi (dv 6) Zd)) (Za (Zf YJ (Zf ZR (Zi (dv 7) Zd) (dv 2)) (Zi (dv 7) Zd)) Ze)))) (Zg (Zy (i:=9) WB.nd (Ye (Za (XD Xu (Zf YJ (Zf ZR (XD Xu (Zi (dv 6) Zd)) (dv 2)) (Zi (dv 6) Zd))) (Za (XD Xu (Zf YJ (Zf ZR (XD Xu (Zi (dv 7) Zd)) (dv 2)) (Zi (dv 7) Zd))) Ze)))) (Zg (Zy (i:=10) WB.nd (Zf YB (ZL (ZM (UQ rfl)) rfl YW Boot.«min» (Za (dv 8) Ze)) (Zf YK (Zj Yk hr (Za (dv 0) (Za (Zf ZW Zd (dv 5)) Ze))) (Zf ZR Zd (Zf X2 Zd Zd))))) (Zg (Yo (YD (dv 3) (ZT (Za (dv 10) (Za (Zf ZW (ZL (ZM (UG rfl)) rfl YZ Boot.«max» (Za (dv 9) Ze)) (Zf YK (Zj Yk hr (Za (dv 0) (Za (Zf ZW Zd (dv 5)) Ze))) (Zf ZR Zd (Zf X2 Zd Zd)))) Ze))))) (Zg (Yo (YD (Zw (dv 4) Zd) (dv 6))) (Zh (Yo (YD (Zw (dv 4) Zd) (dv 7))))))))))))) (Zh (Zv (ZT (Za (dv 3) (Za (Zw (dv 4) Zd) (Za (Zw (dv 4) Zd) Ze))))))))),λds S Q ex h=>by
  replace h:=eRII h;obtain⟨sc,qi,g,rfl,h⟩:=h;obtain⟨cs,q,hs,⟨rfl,q1,q4⟩,hg,h⟩:=h;refine⟨⟨by lia,by lia⟩,λk dl' S'=>k<=q/\(∃B P P2:LI,Pre S S'/\S'[S.length]?=some (.lst (B.map frD))/\S'[S.length+1]?=some (.lst (P.map frD))/\S'[S.length+2]?=some (.lst (P2.map frD))/\S'[S.length+3]?=some (.lst [.ref (S.length+1),.ref (S.length+2)])/\B.length=k/\P.length=k/\P2.length=k/\Spn 51 B/\InW g B P/\InW g B P2/\(∀p∈P,1<=p.2/\p.2<=10^9/\p.1.natAbs<=10^9)/\(∀p∈P2,1<=p.2/\p.2<=10^9/\p.1.natAbs<=10^9)/\(1<=k->(gt P 0).1*(gt P2 0).2≠(gt P2 0).1*(gt P 0).2))/\∃o5 o6 o7 o8 o9 oa:Option D,dl'=[some (.ref sc),some (.int (q:Int)),some (.int g),some (.ref S.length),some (.ref (S.length+3)),o5,o6,o7,o8,o9,oa],⟨zL _,⟨[],[],[],YA (YA (YA (YF _))),?_,?_,?_,?_,rfl,rfl,rfl,λp hp=>by simp at hp,λi hi=>absurd hi.2 (by have:=hi.1;simp;lia),λi hi=>absurd hi.2 (by have:=hi.1;simp;lia),λp hp=>by simp at hp,λp hp=>by simp at hp,λz=>absurd z (by decide)⟩,none,none,none,none,none,none,?_⟩,?_⟩
  ·exact Zn (Zn (Zn (Zz _ _)))
  ·exact Zn (Zn (by have z:=Zz (S++[Ob.lst []]) (Ob.lst []);rw[zG] at z;exact z))
  ·exact Zn (by have z:=Zz (S++[Ob.lst []]++[Ob.lst []]) (Ob.lst []);rw[zG,zG] at z;exact z)
  ·have z:=Zz (S++[Ob.lst []]++[Ob.lst []]++[Ob.lst []]) (Ob.lst [.ref (S.length+1),.ref (S.length+2)]);rw[zG,zG,zG] at z;simp only[zG,zT,yR];exact z
  ·simp only[zG,zT,yR];rfl
  rintro k dl' S' ⟨hk,⟨B,P,P2,pr,hB,hP,hP2,hL,lB,lP,lP2,sB,iw,iw2,bp,bp2,df⟩,o5,o6,o7,o8,o9,oa,rfl⟩;rw[zI];refine Y0 (λc=>?_) (λc=>?_)
  ·have hs':=pr _ _ hs;refine F7 (λdl2 S2=>S'=S2/\∃t b t2 b2:Int,(t.natAbs<=10^8+1/\1<=b/\b<=10^9)/\(t2.natAbs<=10^8+1/\1<=b2/\b2<=10^9)/\(k=0->t*b2≠t2*b)/\dl2=[some (.ref sc),some (.int (q:Int)),some (.int g),some (.ref S.length),some (.ref (S.length+3)),some (.int (k:Int)),some (.tup [.int t,.int b]),some (.tup [.int t2,.int b2]),o8,o9,oa]) (λnx hn=>?_) ?_
   ·refine⟨cs,hs',⟨by lia,by lia⟩,λx=>?_⟩;intro t b tb b1 b2;refine⟨cs,hs',⟨by lia,by lia⟩,λx2=>?_⟩;intro t' b' tb' b1' b2';refine ifD (λe=>?_) (λe=>?_)
    ·refine⟨ZN (m:=60) (n:=60) (Sz.of (10^10) (by lia)) (Sz.of (10^10) (by lia)),ZN (m:=60) (n:=60) (Sz.of (10^10) (by lia)) (Sz.of (10^10) (by lia)),?_⟩;refine ifD (λe2=>?_) (λe2=>?_)
     ·refine hn _ _ ⟨rfl,t,b,t'+1,b',⟨by lia,b1,b2⟩,⟨by lia,b1',b2'⟩,λ_=>?_,rfl⟩;rw[e2,Int.add_mul];lia
     ·exact hn _ _ ⟨rfl,t,b,t',b',⟨by lia,b1,b2⟩,⟨by lia,b1',b2'⟩,λ_=>e2,rfl⟩
    ·exact hn _ _ ⟨rfl,t,b,t',b',⟨by lia,b1,b2⟩,⟨by lia,b1',b2'⟩,λz=>absurd (by rw[z];rfl) e,rfl⟩
   rintro dl2 S2 ⟨rfl,t,b,t2,b2,⟨tb,bb,bB⟩,⟨tb2,bb2,bB2⟩,dk,rfl⟩;have m8:IntMulOk 8 (10^Int.toNat 14):=ZN (m:=10) (n:=100) (Sz.of 10 (by decide)) (Sz.of (10^14) (by decide))
   have sg:Sz 21 g:=Sz.of (10^6) (by lia)
   have st:Sz 40 t:=Sz.of (10^9) (by lia)
   have st':Sz 40 (-t):=Sz.of (10^9) (by lia)
   have fd:=(Sz.of (n:=40) (i:=b) (10^9) (by lia)).fd (show 0<b by lia)
   have tt:Sz 40 t2:=Sz.of (10^9) (by lia)
   have tt':Sz 40 (-t2):=Sz.of (10^9) (by lia)
   have fd2:=(Sz.of (n:=40) (i:=b2) (10^9) (by lia)).fd (show 0<b2 by lia);refine⟨ZN (m:=40) (n:=21) st sg,fd,ZN (m:=40) (n:=21) tt sg,fd2,?_⟩;refine⟨ZN (m:=40) (n:=21) st' sg,fd,ZN (m:=40) (n:=21) tt' sg,fd2,?_⟩;refine WL (n:=S'.length) (o:=.lst [.int (t*g/b),.int (t2*g/b2)]) (xs:=[t*g/b,t2*g/b2]) (Zn (Zz _ _)) rfl (by simp) λm hm lm=>?_
   refine⟨cs,Zn (Zn hs'),⟨by lia,by lia⟩,λy=>?_⟩;refine⟨m8,by show (0:Int)<8*10^14;decide,?_⟩;have ry:=Yu (a:=y) (b:=8*10^14) (by decide);refine Wr (n:=S.length) (xs:=B.map frD) (λK hK=>by exact hK) (Zn (Zn hB)) (λK hK=>?_) (by rw[zA];lia);refine WL (n:=(S'++[Ob.lst [.int (t*g/b),.int (t2*g/b2)]]).length) (o:=.lst [.int (-(-t*g/b)),.int (-(-t2*g/b2))]) (xs:=[-(-t*g/b),-(-t2*g/b2)]) (Zz _ _) rfl (by simp) λM hM lM=>?_
   refine⟨cs,Zn (Zn hs'),⟨by lia,by lia⟩,λz=>?_⟩;refine⟨m8,by show (0:Int)<8*10^14;decide,?_⟩;have rz:=Yu (a:=z) (b:=8*10^14) (by decide)
   have hm':m=t*g/b\/m=t2*g/b2:=by simpa using hm
   have hM':M=-(-t*g/b)\/M=-(-t2*g/b2):=by simpa using hM
   obtain⟨f1,f2,f3⟩:=BM tb bb tb2 bb2 hg ry rz hm' (lm _ (yC ..)) (lm _ (yN _ (yC ..))) hM' (lM _ (yC ..)) (lM _ (yN _ (yC ..)));have pS:Pre S' (S'++[Ob.lst [.int (t*g/b),.int (t2*g/b2)]]++[Ob.lst [.int (-(-t*g/b)),.int (-(-t2*g/b2))]]):=YA (YF _);generalize S'++[Ob.lst [.int (t*g/b),.int (t2*g/b2)]]++[Ob.lst [.int (-(-t*g/b)),.int (-(-t2*g/b2))]]=S3 at pS hK ⊢;refine hK (frD (m-y%(8*10^14),M+z%(8*10^14))) S3 (pS _ _ hB) ?_;clear hK;generalize m-y%(8*10^14)=p1 at f1 f2 f3 ⊢;generalize M+z%(8*10^14)=p2 at f1 f2 f3 ⊢;have n3:=ZZ hL
   have hP':(S3.set S.length (.lst (B.map frD++[frD (p1,p2)])))[S.length+1]?=some (.lst (P.map frD)):=ZY (pS _ _ hP) (by lia)
   have hL':(S3.set S.length (.lst (B.map frD++[frD (p1,p2)])))[S.length+3]?=some (.lst [.ref (S.length+1),.ref (S.length+2)]):=ZY (pS _ _ hL) (by lia);refine XW (n:=S.length+1) (xs:=P.map frD) (y:=frD (t,b)) (λK hK=>by exact Zq (i:=0) (o:=.lst [.ref (S.length+1),.ref (S.length+2)]) hL' rfl hK) hP' (λK hK=>by exact hK) (by rw[zA];lia) ?_;have hP2':((S3.set S.length (.lst (B.map frD++[frD (p1,p2)]))).set (S.length+1) (.lst (P.map frD++[frD (t,b)])))[S.length+2]?=some (.lst (P2.map frD)):=ZY (ZY (pS _ _ hP2) (by lia)) (by lia);refine XW (n:=S.length+2) (xs:=P2.map frD) (y:=frD (t2,b2)) (λK hK=>by exact Zq (i:=1) (o:=.lst [.ref (S.length+1),.ref (S.length+2)]) (ZY hL' (by lia)) rfl hK) hP2' (λK hK=>by exact hK) (by rw[zA];lia) ?_;refine⟨by lia,⟨B++[(p1,p2)],P++[(t,b)],P2++[(t2,b2)],λx o e=>?_,?_,?_,?_,?_,by rw[zG,lB];rfl,by rw[zG,lP];rfl,by rw[zG,lP2];rfl,λp hp=>?_,F1 lB lP iw f2,F1 lB lP2 iw2 f3,λr hr=>?_,λr hr=>?_,λ_=>?_⟩,_,_,_,_,_,_,rfl⟩
   ·have:=ZZ e;exact ZY (ZY (ZY (pS _ _ (pr x o e)) (by lia)) (by lia)) (by lia)
   ·rw[yD];exact ZY (ZY (Yp (pS _ _ hB)) (by lia)) (by lia)
   ·rw[yD];exact ZY (Yp hP') (by lia)
   ·rw[yD];exact Yp hP2'
   ·exact ZY (ZY hL' (by lia)) (by lia)
   ·rcases xC.1 hp with hp|hp
    ·exact sB p hp
    ·rw[yM.mp hp];exact f1
   ·rcases xC.1 hr with hr|hr
    ·exact bp r hr
    ·rw[yM.mp hr];exact⟨bb,bB,by show t.natAbs<=_;lia⟩
   ·rcases xC.1 hr with hr|hr
    ·exact bp2 r hr
    ·rw[yM.mp hr];exact⟨bb2,bB2,by show t2.natAbs<=_;lia⟩
   ·by_cases k0:k=0
    ·subst k0;have e1:P=[]:=List.length_eq_zero_iff.mp lP
     have e2:P2=[]:=List.length_eq_zero_iff.mp lP2;rw[e1,e2];exact dk rfl
    ·rw[VC (i:=0) ⟨by lia,by lia⟩,VC (i:=0) ⟨by lia,by lia⟩];exact df (by lia)
  ·have e:k=q:=by lia
   subst e;refine Zq (i:=0) (o:=.lst [.ref (S.length+1),.ref (S.length+2)]) hL rfl ?_;refine Zq (i:=1) (o:=.lst [.ref (S.length+1),.ref (S.length+2)]) hL rfl ?_;exact h _ _ _ _ B P P2 pr (zC _) (by lia) (by lia) (by lia) (by lia) (by lia) hB hP hP2 lB lP lP2 sB iw iw2 bp bp2 (df q1)⟩)
def zdt  (L9:Df K mg q33 LJ Uv)(RW:mg "abs"=none):Fk P w K mg base 1 q33 Uv SH:=
 L9.mk' (ZE (k:=0) L9.F Ki (λ_ _ _ _=>nI λ_=>nI λ_=>nN:Ln (SH) 2) λ_ _ _ _ _ _ hr=>⟨_,(Zg (Zy (i:=2) Ki.nd (ZL zbJ rfl RW Boot.«abs» (Za (dv 0) Ze))) (Zg (Zy (i:=3) Ki.nd (dv 1)) (Zg (BD PassesOwn.never (ZP (UZ hr) (dv 3) Zd (ZH _)) (Zh (DO (i:=2) (j:=3) rfl Ki.nd rfl rfl (by decide) rfl rfl (Za (dv 3) (Za (Zf YK (dv 2) (dv 3)) Ze))))) (Zh (Zv (ZT (Za (Zf YJ (dv 0) (dv 2)) (Za (Zf YJ (dv 1) (dv 2)) Ze)))))))),λds S Q ex h=>by
  replace h:=eII h;obtain⟨T,B,rfl,h⟩:=h;obtain⟨⟨hB,sB⟩,h⟩:=h;have f:=za8 (T:=T) (B:=B) (d:=((Int.gcd T B:Nat):Int)) (by lia) (by rw[if_neg (by lia)]);obtain⟨f1,f2,f3,f4,f5,f6⟩:=f;have gp:(0:Int)<((Int.gcd T B:Nat):Int):=by lia
  have gle:((Int.gcd T B:Nat):Int)<=B:=Int.le_of_dvd hB (Int.gcd_dvd_right T B)
  have sg:Sz 4000 ((Int.gcd T B:Nat):Int):=by
   unfold Sz at sB ⊢;lia
  have eg:Int.gcd (WN T) B=Int.gcd T B:=by
   have z:=zbf T B;rw[show WN B=B by unfold WN;split<;>lia] at z;exact z
  refine⟨λm dl' S'=>S'=S/\∃(x y:Int),dl'=[some (.int T),some (.int B),some (.int x),some (.int y)]/\0<=x/\0<=y/\Int.gcd x y=Int.gcd T B/\m=y.toNat,⟨B.toNat,rfl,WN T,B,rfl,zdz T,by lia,eg,rfl⟩,?_⟩;rintro m dl' S' ⟨rfl,x,y,rfl,hx,hy,hg,rfl⟩;refine ifN (λc=>?_) (λc=>?_)
  ·have c':0<y:=by lia
   exact⟨c',⟨(x%y).toNat,by have:=Yu (a:=x) c';lia,rfl,y,x%y,rfl,hy,(Yu (a:=x) c').1,(zdY x y).trans hg,rfl⟩⟩
  ·subst c;have e:((Int.gcd T B:Nat):Int)=x:=by rw[<- hg,Int.gcd_zero_right];lia
   have e1:T/((Int.gcd T B:Nat):Int)=T.fdiv ((Int.gcd T B:Nat):Int):=(Int.fdiv_eq_ediv_of_nonneg _ (by lia)).symm
   have e2:B/((Int.gcd T B:Nat):Int)=B.fdiv ((Int.gcd T B:Nat):Int):=(Int.fdiv_eq_ediv_of_nonneg _ (by lia)).symm
   have q:=h _ _ f4 f5 f6 (Eh f1 f2) (by have:=Eh f1 f3;lia);rw[<- e1,<- e2] at q;rw[e] at q sg gp;exact⟨sg.fd gp,sg.fd gp,q⟩⟩)
def zdk  (Mr:Df K mg q84 Lg Ut):Fk P w K mg base 1 q84 Ut RZ:=
 Mr.mk' (ZE (k:=0) Mr.F zb9 (λ_ _ _ _=>nR λ_=>nD λ_=>nN:Ln (RZ) 2) λ_ _ _ _ _ _ hr=>⟨_,(Zg (ZQ (ZP (zbT hr) (dv 1) (dv 0) rfl) (Zh (Yo (YD (dv 0) (dv 1)))) ZS) (Zh (Zv (Fy (k:=1) hr (by decide) (dv 0) (Za (dv 1) Ze))))),λds S Q ex h=>by
  replace h:=eRD h;obtain⟨a,d,rfl,h⟩:=h;obtain⟨q,v,ns,ws,rfl,ha,l9,net,ok,h16,h⟩:=h;have bC:∀(T:Sto)(j:Nat)(ns':List Nd)(ws':List Nat),Gr q a 1 S ns ws T ns' ws'->ns'[j]?=some v->(∀(i:Nat)(u:Nd),ns.length<=i->ns'[i]?=some u->u=v)->Q (.int (j:Int)) T:=λT j ns' ws' gr hj nw=>by
   refine h T j ns' ws' gr (zD.mp hj).1 hj ?_ (BL gr ok hj) nw;rw[(gr.net.ok j v hj).2.1];exact Er gr net ok
  obtain⟨o,e1,e2,e3⟩:=Ma v ns;refine zbx (o:=o) ha e2 ?_;cases o with
  | some j=>
   refine YS ?_;refine Jk (n:=a) (v:=v) (ns:=ns) (λK hK=>by exact hK) (λK hK=>by exact hK) ha e1 ?_;exact bC S j ns ws ((Gr.refl net ha).mono (by decide)) (e3 j rfl) λi u hi hu=>by have:=(zD.mp hu).1;lia
  | none=>
   refine Xn ?_;refine XW (n:=a) (S1:=S) (xs:=ns.map Nd.d) (y:=v.d) (λK hK=>by exact hK) ha (λK hK=>by exact hK) (by rw[zA];lia) ?_;have hm:(S.set a (.lst (ns.map Nd.d++[v.d])))[a]?=some (.lst ((ns++[v]).map Nd.d)):=by
    rw[yD];exact Yp ha
   obtain⟨o2,f1,f2,f3⟩:=Ma v (ns++[v]);cases o2 with
   | none=>
    obtain⟨k,hk⟩:∃k,(ns++[v])[k]?=some v:=⟨ns.length,by simp⟩;exact absurd f2 (any_some hk)
   | some j=>
    refine Jk (n:=a) (v:=v) (ns:=ns++[v]) (λK hK=>by exact hK) (λK hK=>by exact hK) hm f1 ?_;exact bC _ j (ns++[v]) (ws++[v.wt ws]) ⟨net.snoc ok h16,⟨[v],rfl,by simp⟩,⟨_,rfl⟩,hm,by simp,λx o hx e=>ZY e (Ne.symm hx)⟩ (f3 j rfl) λi u hi hu=>by
     have l:=(zD.mp hu).1;rw[zG,List.length_singleton] at l;have e:i=ns.length:=by lia
     subst e;rw[yA (zC _),yU] at hu;cases hu;rfl⟩)
def zca  (Lz:Df K mg q39 NX SD)(Xv:Fk P w K mg base 1 q84 Ut RZ)(WI:Fk P w K mg base 1 q33 Uv SH)(ZO:mg q98=none)(ZF:mg "len"=none):Fk P w K mg base 2 q39 SD HI:=
 Lz.mk' (ZE (k:=1) Lz.F QR (λ_ _ _ _=>nR λ_=>nR λ_=>nI λ_=>nN:Ln (HI) 3) λ_ _ _ _ _ _ hr=>⟨_,(Zg (Zy (i:=3) QR.nd (Ye Ze)) (Zg (Xe (i:=4) PassesOwn.never rfl QR.nd rfl (Or.inl rfl) rfl ZO (Za (ZL (ZM Z1) rfl ZF Boot.«len» (Za (dv 1) Ze)) Ze) (Zg (Zy (i:=5) QR.nd (Zj WI hr (Za (Zi (Zw (dv 1) (dv 4)) Zd) (Za (Zi (Zw (dv 1) (dv 4)) Zd) Ze)))) (Zg (Zy (i:=6) QR.nd (Zj Xv hr (Za (dv 0) (Za (ZT (Za Z4 (Za (Zi (dv 5) Zd) (Za (Zi (dv 5) Zd) Ze)))) Ze)))) (Zh (Yo (YD (dv 3) (Zj Xv hr (Za (dv 0) (Za (ZT (Za Z4 (Za (dv 4) (Za (dv 6) Ze)))) Ze))))))))) (Zh (Zv (dv 3))))),λds S Q ex h=>by
  replace h:=eRRI h;obtain⟨a,p,g,rfl,h⟩:=h;obtain⟨q,P,ns,ws,ha,hp,ap,net,hq,q4,l7,hv,unk,zP,h⟩:=h;have la:=ZZ ha;refine Z9 (Zn hp) ?_;rw[zA];refine⟨⟨by lia,by lia⟩,λk dl' S'=>k<=P.length/\(∃(fs:List Nat)(ns':List Nd)(ws':List Nat),Gr q a (2*k) S ns ws S' ns' ws'/\S'[S.length]?=some (.lst (fs.map wtD))/\fs.length=k/\(∀f∈fs,Zr P ns' ws' 2 f)/\Wl ns' ws')/\∃u4 u5 u6:Option D,dl'=[some (.ref a),some (.ref p),some (.int g),some (.ref S.length),u4,u5,u6],⟨zL _,⟨[],ns,ws,Gr.push net ha _,Zz _ _,rfl,λf hf=>by simp at hf,hv⟩,_,_,_,rfl⟩,?_⟩;rintro k dl' S' ⟨hk,⟨fs,ns',ws',gr,hF,lf,zf,hv'⟩,u4,u5,u6,rfl⟩;rw[zI];refine Y0 (λc=>?_) (λc=>?_)
  ·have kr:inR ((P.length:Nat):Int) (k:Int):=⟨by lia,by lia⟩
   have hp':=gr.kp _ _ (Ne.symm ap) hp
   have zk:=zP _ (VG kr)
   have ln:=gr.ln;refine Zq (o:=.lst (P.map frD)) hp' (Z6 kr) ?_;refine Zq (o:=.lst (P.map frD)) hp' (Z6 kr) ?_;refine⟨⟨by lia,Sz.of (n:=4000) (10^10) (by lia)⟩,λt b b1 tg te tt tb=>?_⟩;refine⟨q,.number t b,ns',ws',rfl,gr.nd,by lia,gr.net,⟨⟨b1,by lia⟩,tg,by lia⟩,show 1<=16 by decide,λT j ns2 ws2 gr2 lj hj wj dj nw=>?_⟩;have hv2:Wl ns2 ws2:=hv'.gr (v:=.number t b) gr2 gr.net ⟨⟨b1,by lia⟩,tg,by lia⟩ nw rfl
   have hkn:k<ns.length:=(zD.mp (unk k (by lia))).1
   have unkT:ns2[k]?=some (.unknown (k:Int)):=gr2.get (gr.get (unk k (by lia)))
   have lk:=(zD.mp unkT).1
   have wk:ws2.getD k 0=1:=(gr2.net.ok k _ unkT).2.1
   have wj':ws2.getD j 0=1:=wj
   have sl:=ZZ hF
   have ln2:=gr2.ln;refine Wr (n:=S.length) (xs:=fs.map wtD) (λK hK=>by exact hK) (gr2.kp _ _ (by lia) hF) (λK hK=>?_) (by rw[zA];lia);refine⟨q,.minus k j,ns2,ws2,rfl,gr2.nd,by lia,gr2.net,⟨⟨by lia,by lia⟩,⟨by lia,by lia⟩⟩,?_,λT2 j2 ns3 ws3 gr3 lj2 hj2 wj2 dj2 nw2=>?_⟩
   ·show ws2.getD ((k:Nat):Int).toNat 0+ws2.getD ((j:Nat):Int).toNat 0<=16;rw[zI,zI,wk,wj'];decide
   ·have hF2:=gr3.kp _ _ (show S.length≠a by lia) (gr2.kp _ _ (by lia) hF)
    have w3:ws3.getD j2 0=2:=by
     rw[wj2];show ws2.getD ((k:Nat):Int).toNat 0+ws2.getD ((j:Nat):Int).toNat 0=2;rw[zI,zI,wk,wj']
    have zj2:(gt (ZD P ns3) (j2:Int)).1=0:=by
     rw[dj2 P];have a1:gt (ZD P ns2) (k:Int)=gt P (k:Int):=by
      rw[Gh (P:=P) gr2.net unkT];rfl
     have a2:gt (ZD P ns2) (j:Int)=(t,b):=dj P
     show (gt (ZD P ns2) (k:Int)).1*(gt (ZD P ns2) (j:Int)).2-(gt (ZD P ns2) (j:Int)).1*(gt (ZD P ns2) (k:Int)).2=0;rw[a1,a2];show (gt P (k:Int)).1*b-t*(gt P (k:Int)).2=0;lia
    have hv3:Wl ns3 ws3:=hv2.gr (v:=.minus (k:Int) (j:Int)) gr3 gr2.net ⟨⟨by lia,by lia⟩,⟨by lia,by lia⟩⟩ nw2 (by rw[<- wj2,w3];rfl)
    have gr4:Gr q a (2*k+1+1) S ns ws T2 ns3 ws3:=(gr.trans gr2).trans gr3;refine hK _ _ hF2 ⟨by lia,⟨fs++[j2],ns3,ws3,(gr4.put (by lia) (zC _)).mono (by lia),by rw[yD];exact Yp hF2,by rw[zG,lf];rfl,λf hf=>?_,hv3⟩,_,_,_,rfl⟩;rcases xC.mp hf with w|w
    ·exact((zf f w).up gr2 gr.net).up gr3 gr2.net
    ·rw[yM.mp w];exact⟨lj2,by lia,zj2⟩
  ·have e:k=P.length:=by lia
   exact h _ _ fs ns' ws' (gr.mono (by lia)) hF (by lia) zf hv' (zC _)⟩)
def Ax  (Nl:Df K mg q49 Mu Sy)(WI:Fk P w K mg base 1 q33 Uv SH):Fk P w K mg base 2 q49 Sy Jl:=
 Nl.mk' (ZE (k:=1) Nl.F zc8 (λ_ _ _ _=>nI λ_=>nN:Ln (Jl) 1) λ_ _ _ _ _ _ hr=>⟨_,(Zg (ZQ (ZP (ZV hr) (Zf Yc (dv 0) Zd) Zd (ZH _)) (Zh (Zv (Zj WI hr (Za (Zf YB (Zf YK (Zf Yj (dv 0) Zd) Zd) Zd) (Za (Zf ZW Zd (Zf Yc (Zf ZR (dv 0) Zd) Zd)) Ze))))) ZS) (Zg (ZQ (ZP (ZV hr) (Zf Yc (dv 0) Zd) Zd (ZH _)) (Zh (Zv (ZT (Za (Zf YB (Zf Yc (Zf Yj (dv 0) Zd) Zd) Zd) (Za Zd Ze))))) ZS) (Zh (Zv (Zj WI hr (Za (Zf YB (Zf Yc (Zf Yj (dv 0) Zd) Zd) Zd) (Za (Zf ZW Zd (Zf Yc (Zf Yj (dv 0) Zd) Zd)) Ze))))))),λds S Q ex h=>by
  replace h:=eI h;obtain⟨c,rfl,h⟩:=h;refine ifD (λe=>?_) (λe=>?_)
  ·have r1:=Yu (a:=c/3) (b:=1999999999) (by decide)
   have r2:=Yu (a:=c*48271) (b:=999999937) (by decide);refine⟨show (0:Int)<1999999999 by decide,IntMulOk.of_right (by decide),?_⟩;refine⟨⟨show 0<1+c*48271%999999937 by lia,Sz.of (10^10) (by show (1+c*48271%999999937).natAbs<=_;lia)⟩,λt b h1 h2 _ h4 h5=>?_⟩;exact h t b ⟨h1,by lia⟩ h2 (by lia)
  ·refine ifD (λe=>?_) (λe=>?_)
   ·have r1:=Yu (a:=c/3) (b:=9) (by decide);exact h _ _ ⟨by decide,by decide⟩ (Int.gcd_one_right _) (by lia)
   ·have r1:=Yu (a:=c/3) (b:=41) (by decide)
    have r2:=Yu (a:=c/123) (b:=9) (by decide);refine⟨⟨show 0<1+c/123%9 by lia,Sz.of (10^10) (by show (1+c/123%9).natAbs<=_;lia)⟩,λt b h1 h2 _ h4 h5=>?_⟩;exact h t b ⟨h1,by lia⟩ h2 (by lia)⟩)
def DM  (PZ:Df K mg q88 Nb Ra)(WI:Fk P w K mg base 1 q33 Uv SH):Fk P w K mg base 2 q88 Ra K8:=
 PZ.mk' (ZE (k:=1) PZ.F zcX (λ_ _ _ _=>nI λ_=>nN:Ln (K8) 1) λ_ _ _ _ _ _ hr=>⟨_,(Zh (Zv (Zj WI hr (Za (Zf YB (Zf YK (dv 0) Zd) Zd) (Za (Zf ZW Zd (Zf Yc (Zf YJ (dv 0) Zd) Zd)) Ze))))),λds S Q ex h=>by
  replace h:=eI h;obtain⟨c,rfl,h⟩:=h;have r1:=Yu (a:=c) (b:=1999999999) (by decide)
  have r2:=Yu (a:=c/1999999999) (b:=999999999) (by decide);refine⟨show (0:Int)<1999999999 by decide,?_⟩;refine⟨⟨by decide,by decide⟩,?_⟩;refine⟨⟨show 0<1+c/1999999999%999999999 by lia,Sz.of (10^10) (by show (1+c/1999999999%999999999).natAbs<=_;lia)⟩,λt b h1 h2 _ h4 h5=>?_⟩;exact h t b ⟨h1,by lia⟩ h2 (by lia)⟩)
def DI  (Mb:Df K mg q89 NT QS)(ZF:mg "len"=none):Fk P w K mg base 1 q89 QS KI:=
 Mb.mk' (ZE (k:=0) Mb.F zd2 (λ_ _ _ _=>nR λ_=>nR λ_=>nD λ_=>nI λ_=>nN:Ln (KI) 4) λ_ _ _ _ _ _ hr=>⟨_,(Zg (ZQ (ZP (zcW hr) (dv 2) (dv 0) rfl) (Zh (Zv (Fy (k:=1) hr (by decide) (dv 0) (Za (dv 2) Ze)))) ZS) (Zg (Yo (YD (dv 0) (dv 2))) (Zg (Yo (YD (dv 1) (dv 3))) (Zh (Zv (Zf YB (ZL (ZM Z1) rfl ZF Boot.«len» (Za (dv 0) Ze)) Zd)))))),λds S Q ex h=>by
  replace h:=eRRDI h;obtain⟨a,b,d,w,rfl,h⟩:=h;obtain⟨v,ns,ws,rfl,ha,hb,ne,rfl,l1,l2,h1,h2⟩:=h;obtain⟨o,e1,e2,e3⟩:=Ma v ns;refine AR (o:=o) ha e2 ?_;cases o with
  | some j=>
   refine Xn ?_;exact Jk (n:=a) (v:=v) (ns:=ns) (λK hK=>by exact hK) (λK hK=>by exact hK) ha e1 (h1 j (e3 j rfl))
  | none=>
   refine YS ?_;refine XW (n:=a) (S1:=S) (xs:=ns.map Nd.d) (y:=v.d) (λK hK=>by exact hK) ha (λK hK=>by exact hK) (by rw[zA];lia) ?_;refine XW (n:=b) (S1:=S.set a (.lst (ns.map Nd.d++[v.d]))) (xs:=ws.map wtD) (y:=wtD (v.wt ws)) (λK hK=>by exact hK) (ZY hb ne) (λK hK=>by exact hK) (by rw[zA];lia) ?_;refine Z9 (xs:=ns.map Nd.d++[v.d]) (ZY (Yp ha) (Ne.symm ne)) ?_;have q:=h2 (((ns.map Nd.d++[v.d]).length:Nat)-1) (by simp);rw[yD,yD] at q;exact q⟩)
def AQ  (Mo:Df K mg q74 O9 Ss)(RP:Fk P w K mg base 1 q89 QS KI)(Jp:Fk P w K mg base 2 q88 Ra K8)(Hb:Fk P w K mg base 2 q49 Sy Jl)(ZF:mg "len"=none):Fk P w K mg base 3 q74 Ss K9:=
 Mo.mk' (ZE (k:=2) Mo.F Vt (λ_ _ _ _=>nR λ_=>nR λ_=>nI λ_=>nI λ_=>nB λ_=>nN:Ln (K9) 5) λ_ _ _ _ _ _ hr=>⟨_,(Zg (Zy (i:=5) Vt.nd (Zf YK (Zf Yc (Zf Yj (dv 2) Zd) Zd) (ZL (ZM Z1) rfl ZF Boot.«len» (Za (dv 0) Ze)))) (Zg (Zy (i:=6) Vt.nd (Zf YK (Zf Yc (Zf Yj (dv 2) Zd) Zd) (ZL (ZM Z1) rfl ZF Boot.«len» (Za (dv 0) Ze)))) (Zg (Zy (i:=7) Vt.nd (Zf ZW (Zw (dv 1) (dv 5)) (Zw (dv 1) (dv 6)))) (Zh (ZQ (ZP (ZV hr) (Zf Yc (dv 2) Zd) Zd (ZH _)) (Zg (Zy (i:=8) Vt.nd (Zj Hb hr (Za (Zf Yj (dv 2) Zd) Ze))) (Zg (ZQ (Xw (dv 4)) (Zh (Zy (i:=8) Vt.nd (Zj Jp hr (Za (Zf Yj (dv 2) Zd) Ze)))) ZS) (Zh (Yo (Zj RP hr (Za (dv 0) (Za (dv 1) (Za (ZT (Za Z4 (Za (Zi (dv 8) Zd) (Za (Zi (dv 8) Zd) Ze)))) (Za Zd Ze))))))))) (Zh (ZQ (ZP (ZV hr) (Zf Yc (dv 2) Zd) Zd (ZH _)) (Zg (Zy (i:=9) Vt.nd (Zf ZW Zd (Zf Yc (Zf Yj (dv 2) Zd) Zd))) (Zh (ZQ (ZP MV (Zf ZR (dv 9) (Zw (dv 1) (dv 5))) (dv 3) (ZH _)) (Zh (Yo (Zj RP hr (Za (dv 0) (Za (dv 1) (Za (ZT (Za Z4 (Za (dv 5) (Za (dv 9) Ze)))) (Za (Zf ZR (dv 9) (Zw (dv 1) (dv 5))) Ze))))))) ZS))) (Zh (ZQ (ZP MV (dv 7) (dv 3) (ZH _)) (Zg (Zy (i:=10) Vt.nd (Zw (Ye (Za Z4 (Za Z4 (Za Z4 Ze)))) (Zf Yc (Zf Yc (dv 2) Zd) Zd))) (Zh (Yo (Zj RP hr (Za (dv 0) (Za (dv 1) (Za (ZT (Za (dv 10) (Za (dv 5) (Za (dv 6) Ze)))) (Za (dv 7) Ze)))))))) ZS))))))))),λds S Q ex h=>by
  replace h:=zbY h;obtain⟨a,b,c,most,fr,rfl,h⟩:=h;obtain⟨qn,ns,ws,ha,hb,ne,net,l1,l9,hm,h⟩:=h;have lw:=net.len
  have pos:(0:Int)<((ns.length:Nat):Int):=by lia
  have ro:=Yu (a:=c/6%64) pos
  have rj:=Yu (a:=c/384%64) pos
  have ho:inR ((ns.length:Nat):Int) (c/6%64%((ns.length:Nat):Int)):=ro
  have hj:inR ((ns.length:Nat):Int) (c/384%64%((ns.length:Nat):Int)):=rj
  have ho':inR ((ws.length:Nat):Int) (c/6%64%((ns.length:Nat):Int)):=by rw[lw];exact ho
  have hj':inR ((ws.length:Nat):Int) (c/384%64%((ns.length:Nat):Int)):=by rw[lw];exact hj
  have wo:=net.w1 ho
  have wj:=net.w1 hj
  have on:∀(T:Sto),(∀(x:Nat)(o:Ob),S[x]?=some o->T[x]?=some o)->S.length<=T.length->Q .non T:=λT k l=>h T [] ws (by rw[yX];exact net) ⟨[],by simp,λw hw=>by simp at hw⟩ (by simp) (by rw[yX];exact k _ _ ha) (k _ _ hb) l λx o _ _ e=>k x o e
  have put:∀(v:Nd)(T:Sto),(∀(x:Nat)(o:Ob),S[x]?=some o->T[x]?=some o)->S.length<=T.length->v.ok ((ns.length:Nat):Int) ((qn:Nat):Int)->v.wt ws<=16->(v.wt ws=1\/((v.wt ws:Nat):Int)<=most)->Q .non ((T.set a (.lst ((ns++[v]).map Nd.d))).set b (.lst ((ws++[v.wt ws]).map wtD))):=λv T k l ok h16 hmo=>
   h _ [v] _ (net.snoc ok h16) ⟨[v.wt ws],rfl,λw hw=>by rw[yM.mp hw];exact hmo⟩ (by simp) (ZY (Yp (k _ _ ha)) (Ne.symm ne)) (Yp (ZY (k _ _ hb) ne)) (by simpa using l) λx o h1 h2 e=>ZY (ZY (k x o e) (Ne.symm h1)) (Ne.symm h2)
  refine Z9 ha ?_;rw[zA];refine⟨pos,?_⟩;refine Z9 ha ?_;rw[zA];refine⟨pos,?_⟩;refine Zq (o:=.lst (ws.map wtD)) hb (L0 ho') ?_;refine Zq (o:=.lst (ws.map wtD)) hb (L0 hj') ?_;refine ifD (λe4=>?_) (λe4=>?_)
  ·refine λt d h1 h2 h3=>?_
   cases fr
   ·refine⟨.number t d,ns,ws,rfl,ha,hb,ne,rfl,by lia,by lia,λj _=>on S (λ_ _ e=>e) (zC _),λi _=>?_⟩;exact put (.number t d) S (λ_ _ e=>e) (zC _) ⟨h1,h2,h3⟩ (show 1<=16 by decide) (Or.inl rfl)
   ·refine λt d h1 h2 h3=>⟨.number t d,ns,ws,rfl,ha,hb,ne,rfl,by lia,by lia,λj _=>on S (λ_ _ e=>e) (zC _),λi _=>?_⟩
    exact put (.number t d) S (λ_ _ e=>e) (zC _) ⟨h1,h2,h3⟩ (show 1<=16 by decide) (Or.inl rfl)
  ·refine ifD (λe3=>?_) (λe3=>?_)
   ·have r5:=Yu (a:=c/24576) (b:=5) (by decide);refine Zq (o:=.lst (ws.map wtD)) hb (L0 ho') ?_;have mo:IntMulOk (2+c/24576%5) ((ws.getD (c/6%64%((ns.length:Nat):Int)).toNat 0:Nat):Int):=ZN (m:=400) (n:=400) (Sz.of (10^20) (by lia)) (Sz.of (10^20) (by lia))
    have ew:(2+c/24576%5)*((ws.getD (c/6%64%((ns.length:Nat):Int)).toNat 0:Nat):Int)=((Nd.wt ws (.power (c/6%64%((ns.length:Nat):Int)) (2+c/24576%5)):Nat):Int):=by
     simp only[Nd.wt];rw[Int.natCast_mul];rw[Int.toNat_of_nonneg (by lia)]
    refine⟨mo,?_⟩;refine ifD (λe5=>?_) (λe5=>on S (λ_ _ e=>e) (zC _));refine Zq (o:=.lst (ws.map wtD)) hb (L0 ho') ?_;refine⟨mo,?_⟩;refine⟨.power (c/6%64%((ns.length:Nat):Int)) (2+c/24576%5),ns,ws,rfl,ha,hb,ne,ew,by lia,by lia,λj _=>on S (λ_ _ e=>e) (zC _),λi _=>?_⟩;exact put (.power (c/6%64%((ns.length:Nat):Int)) (2+c/24576%5)) S (λ_ _ e=>e) (zC _) ⟨ho,by lia,by lia⟩ (by rw[ew] at e5;lia) (Or.inr (by rw[ew] at e5;exact e5))
   ·refine ifD (λe5=>?_) (λe5=>on S (λ_ _ e=>e) (zC _));have go:∀(v:Nd)(T:Sto),T=S++[.lst [.str "plus",.str "minus",.str "times"]]->v.ok ((ns.length:Nat):Int) ((qn:Nat):Int)->v.wt ws=ws.getD (c/6%64%((ns.length:Nat):Int)).toNat 0+ws.getD (c/384%64%((ns.length:Nat):Int)).toNat 0->∃(v':Nd)(ns':List Nd)(ws':List Nat),v.d=v'.d/\T[a]?=some (.lst (ns'.map Nd.d))/\T[b]?=some (.lst (ws'.map wtD))/\a≠b/\((ws.getD (c/6%64%((ns.length:Nat):Int)).toNat 0:Nat):Int)+((ws.getD (c/384%64%((ns.length:Nat):Int)).toNat 0:Nat):Int)=(v'.wt ws':Nat)/\ns'.length<900/\ws'.length<900/\(∀j:Nat,ns'[j]?=some v'->Q .non T)/\∀i:Int,i=(ns'.length:Nat)->Q .non ((T.set a (.lst ((ns'++[v']).map Nd.d))).set b (.lst ((ws'++[v'.wt ws']).map wtD))):=λv T e ok ew=>by
     subst e;refine⟨v,ns,ws,rfl,Zn ha,Zn hb,ne,by rw[ew];lia,by lia,by lia,λj _=>on _ (λ_ _ e=>Zn e) (by simp),λi _=>?_⟩;exact put v _ (λ_ _ e=>Zn e) (by simp) ok (by rw[ew];lia) (Or.inr (by rw[ew];lia))
    have three:∀i:Int,inR 3 i->i=0\/i=1\/i=2:=λi hi=>by have:=hi.1;have:=hi.2;lia
    rcases three (c%6%3) (Yu (by decide)) with e6|e6|e6
    ·refine Zq (o:=.lst [.str "plus",.str "minus",.str "times"]) (Zz _ _) (d:=.str "plus") (by rw[e6];rfl) ?_;exact go (.plus _ _) _ rfl ⟨ho,hj⟩ rfl
    ·refine Zq (o:=.lst [.str "plus",.str "minus",.str "times"]) (Zz _ _) (d:=.str "minus") (by rw[e6];rfl) ?_;exact go (.minus _ _) _ rfl ⟨ho,hj⟩ rfl
    ·refine Zq (o:=.lst [.str "plus",.str "minus",.str "times"]) (Zz _ _) (d:=.str "times") (by rw[e6];rfl) ?_;exact go (.times _ _) _ rfl ⟨ho,hj⟩ rfl⟩)
def AS  (Nf:Df K mg q90 O5 SI)(Xv:Fk P w K mg base 1 q84 Ut RZ):Fk P w K mg base 2 q90 SI IH:=
 Nf.mk' (ZE (k:=1) Nf.F OB (λ_ _ _ _=>nR λ_=>nR λ_=>nN:Ln (IH) 2) λ_ _ _ _ _ _ hr=>⟨_,(Zg (Zy (i:=2) OB.nd (Zw (dv 1) Zd)) (Zg (Ik (i:=3) PassesOwn.never rfl OB.nd rfl (Or.inl rfl) (Gs (dv 1) (Fw Zd) G1) (Zh (Zy (i:=2) OB.nd (Zj Xv hr (Za (dv 0) (Za (ZT (Za Z4 (Za (dv 2) (Za (dv 3) Ze)))) Ze)))))) (Zh (Zv (dv 2))))),λds S Q ex h=>by
  replace h:=eRR h;obtain⟨a,p,rfl,h⟩:=h;obtain⟨q,B,ns,ws,is,ha,hp,ap,net,⟨i1,i4⟩,b16,l8,his,h⟩:=h;have h0:is[0]?=some is[0]:=zB (by lia);generalize is[0]=j0 at h0;have z0:=his j0 (zJ h0);refine Zq (o:=.lst (is.map wtD)) hp (d:=.int (j0:Int)) (XA (j:=0) (by show (is.map wtD)[0]?=_;rw[zF,h0];rfl)) ?_;refine Fd (n:=p) (o:=.lst (is.map wtD)) (lo:=some 1) (hi:=none) (S3:=S) (λK hK=>by exact hK) (λK hK=>by exact hK) (λK hK=>by exact hK) hp ?_;have ec:XX (is.map wtD) (some 1) none=(is.drop 1).map wtD:=by rw[Cr,List.map_drop]
  have ecut:(Zs (Ob.lst (XX (is.map wtD) (some 1) none))).length=is.length-1:=by
   show (XX (is.map wtD) (some 1) none).length=_;rw[ec,zA,List.length_drop]
  have la:=ZZ ha;refine Jw (n:=S.length) (o:=.lst (XX (is.map wtD) (some 1) none)) (λk dl' S'=>∃(j:Nat)(ns':List Nd)(ws':List Nat),Gr q a k S ns ws S' ns' ws'/\j<ns'.length/\ws'.getD j 0<=(k+1)*B/\(∀P,(∀i∈is,(gt (ZD P ns) (i:Int)).1=0)->(gt (ZD P ns') (j:Int)).1=0)/\S'[S.length]?=some (.lst (XX (is.map wtD) (some 1) none))/\∃u:Option D,dl'=[some (.ref a),some (.ref p),some (.int (j:Int)),u]) ⟨j0,ns,ws,Gr.push net ha _,z0.1,by have:=z0.2;lia,λP hz=>hz j0 (zJ h0),Zz _ _,_,rfl⟩ (λk dl' S' ⟨_,_,_,_,_,_,_,e,_⟩=>e) ?_ ?_
  ·rintro k x dl' S' nx ct ex' ⟨j,ns',ws',gr,hj,wj,dj,e4,u,rfl⟩ hn;have hx:(XX (is.map wtD) (some 1) none)[k]?=some x:=ex'
   have hk:=(zD.mp hx).1;rw[ec] at hx;rw[ec,zA,List.length_drop] at hk;rw[zF] at hx;obtain⟨i,hi,rfl⟩:=zS.mp hx;have him':=List.mem_of_mem_drop (zJ hi)
   have him:=his i him'
   have ln:=gr.ln
   have hi':i<ns'.length:=by lia
   have wi:=gr.wt net him.1
   have hB:(k+1+1)*B<=16:=yH (Nat.mul_le_mul_right B (show k+1+1<=is.length by lia)) b16
   have eB:(k+1+1)*B=(k+1)*B+B:=Nat.succ_mul (k+1) B
   have wv:Nd.wt ws' (.plus (j:Int) (i:Int))<=(k+1+1)*B:=by
    show ws'.getD ((j:Nat):Int).toNat 0+ws'.getD ((i:Nat):Int).toNat 0<=_;rw[zI,zI,wi];have:=him.2;lia
   refine⟨q,.plus j i,ns',ws',rfl,gr.nd,by lia,gr.net,⟨⟨by lia,by lia⟩,⟨by lia,by lia⟩⟩,by lia,λT j2 ns2 ws2 gr2 lj2 hj2 wj2 dj2 _=>?_⟩;refine hn _ _ ⟨j2,ns2,ws2,gr.trans gr2,lj2,by rw[wj2];exact wv,λP hz=>?_,gr2.kp _ _ (by lia) e4,_,rfl⟩;rw[dj2 P];show (gt (ZD P ns') (j:Int)).1*(gt (ZD P ns') (i:Int)).2+(gt (ZD P ns') (i:Int)).1*(gt (ZD P ns') (j:Int)).2=0;rw[dj P hz,gr.due P him.1,hz i him'];lia
  ·rintro dl' S' ⟨j,ns',ws',gr,hj,wj,dj,e4,u,rfl⟩;rw[ecut] at gr wj;exact h _ j ns' ws' (gr.mono (by lia)) hj (by rw[show is.length-1+1=is.length by lia] at wj;exact wj) dj⟩)
def Dv  (Pj:Df K mg q80 PR RL)(Yk:Fk P w K mg base 2 q36 WU Ur)(Xv:Fk P w K mg base 1 q84 Ut RZ)(HJ:Fk P w K mg base 2 q90 SI IH)(ZO:mg q98=none)(ZF:mg "len"=none):Fk P w K mg base 3 q80 RL Hs:=
 Pj.mk' (ZE (k:=2) Pj.F Vv (λ_ _ _ _=>nR λ_=>nR λ_=>nR λ_=>nR λ_=>nN:Ln (Hs) 4) λ_ _ _ _ _ _ hr=>⟨_,(Zg (Zy (i:=4) Vv.nd (ZL (ZM Z1) rfl ZF Boot.«len» (Za (dv 1) Ze))) (Zg (Zy (i:=5) Vv.nd (Ye Ze)) (Zg (Xe (i:=6) PassesOwn.never rfl Vv.nd rfl (Or.inl rfl) rfl ZO (Za (ZL (ZM Z1) rfl ZF Boot.«len» (Za (dv 2) Ze)) Ze) (Zg (Zy (i:=7) Vv.nd (Ye Ze)) (Zg (Xe (i:=8) PassesOwn.never rfl Vv.nd rfl (Or.inl rfl) rfl ZO (Za (ZL (ZM Z1) rfl ZF Boot.«len» (Za (dv 2) Ze)) Ze) (Zg (Zy (i:=9) Vv.nd (Zj Xv hr (Za (dv 1) (Za (ZT (Za Z4 (Za (Zw (dv 2) (dv 8)) (Za (Zw (dv 3) (dv 8)) Ze)))) Ze)))) (Zh (Yo (YD (dv 7) (Zj Xv hr (Za (dv 1) (Za (ZT (Za Z4 (Za (dv 9) (Za (Zf YK (Zj Yk hr (Za (dv 0) (Za (Zf ZW (Zf ZW Zd (Zf ZR Zd (dv 6))) (dv 8)) Ze))) (dv 4)) Ze)))) Ze)))))))) (Zh (Yo (YD (dv 5) (ZT (Za Z4 (Za (Zj HJ hr (Za (dv 1) (Za (dv 7) Ze))) Ze))))))))) (Zg (ZQ (ZP (ZV hr) (Zf Yc (Zf Yj (Zj Yk hr (Za (dv 0) (Za Zd Ze))) Zd) Zd) Zd (ZH _)) (Zg (Zy (i:=10) Vv.nd (Zj Xv hr (Za (dv 1) (Za (ZT (Za Z4 (Za (Zi (dv 2) Zd) (Za Zd Ze)))) Ze)))) (Zh (IP (dv 5) Zd (ZT (Za Z4 (Za (Zj Xv hr (Za (dv 1) (Za (ZT (Za Z4 (Za (dv 10) (Za (Zj Xv hr (Za (dv 1) (Za (ZT (Za Z4 (Za Zd (Za Zd Ze)))) Ze))) Ze)))) Ze))) Ze)))))) ZS) (Zh (Zv (dv 5))))))),λds S Q ex h=>by
  replace h:=eRRRR h;obtain⟨sc,a,o1,o2,rfl,h⟩:=h;obtain⟨cs,q,M,P,P2,ns,ws,fs,hs,hsc,ha,ho1,ho2,n1,n2,net,lf,lh,hq,hM,hn1,wM,zf,zh,h⟩:=h;have la:=ZZ ha
  have lsc:=ZZ hsc
  have lo1:=ZZ ho1
  have lo2:=ZZ ho2
  have asc:a≠sc:=λe=>by rw[e,hsc] at ha;cases ha
  have ix0:ixN q 0=some 0:=by
   have e:q=1\/q=2:=by lia
   rcases e with e|e<;>rw[e]<;>rfl
  refine Z9 ha ?_;rw[zA];dsimp only;refine Vq (λdl2 S2=>∃(ns':List Nd)(ws' is:List Nat),Gr q a 20 S ns ws S2 ns' ws'/\S2[S.length]?=some (.lst (is.map λi=>rwD (true,i)))/\is.length=q/\(∀i∈is,Zb P P2 ns' ws' 16 i)/\∃u6 u7 u8 u9 ua:Option D,dl2=[some (.ref sc),some (.ref a),some (.ref o1),some (.ref o2),some (.int (ns.length:Int)),some (.ref S.length),u6,u7,u8,u9,ua]) (λnx hx=>?_) ?_
  ·refine Z9 (Zn ho1) ?_;rw[zA,lf];refine⟨⟨by lia,by lia⟩,λj dl' S'=>j<=q/\(∃(ns':List Nd)(ws' is:List Nat),Gr q a (10*j) S ns ws S' ns' ws'/\S'[S.length]?=some (.lst (is.map λi=>rwD (true,i)))/\is.length=j/\∀i∈is,Zb P P2 ns' ws' 16 i)/\∃u6 u7 u8 u9 ua:Option D,dl'=[some (.ref sc),some (.ref a),some (.ref o1),some (.ref o2),some (.int (ns.length:Int)),some (.ref S.length),u6,u7,u8,u9,ua],⟨zL _,⟨ns,ws,[],Gr.push net ha _,Zz _ _,rfl,λi hi=>by simp at hi⟩,_,_,_,_,_,rfl⟩,?_⟩;rintro j dl' S' ⟨hj,⟨ns',ws',is,gr,hR,li,zi⟩,u6,u7,u8,u9,ua,rfl⟩;rw[zI];refine Y0 (λc=>?_) (λc=>?_)
   ·refine Vq (λdl2 S2=>∃(ns2:List Nd)(ws2 ps:List Nat),Gr q a (10*j+4) S ns ws S2 ns2 ws2/\S2[S.length]?=some (.lst (is.map λi=>rwD (true,i)))/\S2[S'.length]?=some (.lst (ps.map wtD))/\ps.length=q/\(∀i∈is,Zb P P2 ns2 ws2 16 i)/\(∀i∈ps,Zb P P2 ns2 ws2 (M+4) i)/\∃u8 u9 ua:Option D,dl2=[some (.ref sc),some (.ref a),some (.ref o1),some (.ref o2),some (.int (ns.length:Int)),some (.ref S.length),some (.int (j:Int)),some (.ref S'.length),u8,u9,ua]) (λnx2 hx2=>?_) ?_
    ·have k1:=gr.kp _ _ n1.symm ho1;refine Z9 (Zn k1) ?_;rw[zA,lf];have g0:Gr q a (10*j+2*0) S ns ws (S'++[Ob.lst []]) ns' ws':=gr.trans (Gr.push gr.net gr.nd _);refine⟨⟨by lia,by lia⟩,λk dl2 S2=>k<=q/\(∃(ns2:List Nd)(ws2 ps:List Nat),Gr q a (10*j+2*k) S ns ws S2 ns2 ws2/\S2[S.length]?=some (.lst (is.map λi=>rwD (true,i)))/\S2[S'.length]?=some (.lst (ps.map wtD))/\ps.length=k/\(∀i∈is,Zb P P2 ns2 ws2 16 i)/\(∀i∈ps,Zb P P2 ns2 ws2 (M+4) i))/\∃u8 u9 ua:Option D,dl2=[some (.ref sc),some (.ref a),some (.ref o1),some (.ref o2),some (.int (ns.length:Int)),some (.ref S.length),some (.int (j:Int)),some (.ref S'.length),u8,u9,ua],⟨zL _,⟨ns',ws',[],g0,Zn hR,Zz _ _,rfl,zi,λi hi=>by simp at hi⟩,_,_,_,rfl⟩,?_⟩;rintro k dl2 S2 ⟨hk,⟨ns2,ws2,ps,g2,hR2,hp2,lp,zi2,zp2⟩,u8,u9,ua,rfl⟩;rw[zI];refine Y0 (λc2=>?_) (λc2=>?_)
     ·have hfk:fs[k]?=some fs[k]:=zB (by lia)
      have hhk:hs[k]?=some hs[k]:=zB (by lia);generalize fs[k]=f at hfk;generalize hs[k]=e at hhk;have z1:=(zf f (zJ hfk)).up g2 net
      have z2:=(zh e (zJ hhk)).up g2 net
      have ln:=g2.ln;refine Zq (o:=.lst (fs.map wtD)) (i:=(k:Int)) (d:=.int (f:Int)) (g2.kp _ _ n1.symm ho1) (XA (by show (fs.map wtD)[k]?=_;rw[zF,hfk];rfl)) ?_;refine Zq (o:=.lst (hs.map wtD)) (i:=(k:Int)) (d:=.int (e:Int)) (g2.kp _ _ n2.symm ho2) (XA (by show (hs.map wtD)[k]?=_;rw[zF,hhk];rfl)) ?_;have wp:Nd.wt ws2 (.times (f:Int) (e:Int))<=4:=by
       show ws2.getD ((f:Nat):Int).toNat 0+ws2.getD ((e:Nat):Int).toNat 0<=_;rw[zI,zI];have:=z1.wt
       have:=z2.wt;lia
      refine⟨q,.times f e,ns2,ws2,rfl,g2.nd,by lia,g2.net,⟨⟨by lia,by have:=z1.lt;lia⟩,⟨by lia,by have:=z2.lt;lia⟩⟩,by lia,λT j3 ns3 ws3 g3 lj3 hj3 wj3 dj3 _=>?_⟩;have l3:=g3.ln
      have pz:Zb P P2 ns3 ws3 4 j3:=by
       refine⟨⟨lj3,by rw[wj3];exact wp,?_⟩,⟨lj3,by rw[wj3];exact wp,?_⟩⟩
       ·rw[dj3 P];show (gt (ZD P ns2) (f:Int)).1*(gt (ZD P ns2) (e:Int)).1=0;rw[z1.due,xB]
       ·rw[dj3 P2];show (gt (ZD P2 ns2) (f:Int)).1*(gt (ZD P2 ns2) (e:Int)).1=0;rw[z2.due,Int.mul_zero]
      refine Wr (n:=S'.length) (xs:=ps.map wtD) (λK hK=>by exact hK) (g3.kp _ _ (by have:=gr.len;lia) hp2) (λK hK=>?_) (by rw[zA];lia);refine⟨IntMulOk.of_left (by decide),cs,g3.kp _ _ asc.symm (g2.kp _ _ asc.symm hsc),⟨by lia,by lia⟩,λx=>?_⟩;have rx:=Yu (a:=x) (b:=(ns.length:Int)) (by lia);refine⟨show (0:Int)<(ns.length:Int) by lia,?_⟩;obtain⟨y,ey,ly⟩:∃y:Nat,x%(ns.length:Int)=(y:Int)/\y<ns.length:=⟨(x%(ns.length:Int)).toNat,by lia,by lia⟩;have wy:ws3.getD y 0<=M:=by
       rw[(g2.trans g3).wt net ly];exact wM y ly
      have wv:Nd.wt ws3 (.times (j3:Int) (y:Int))<=M+4:=by
       show ws3.getD ((j3:Nat):Int).toNat 0+ws3.getD ((y:Nat):Int).toNat 0<=_;rw[zI,zI];have:=pz.1.wt;lia
      have hM':M+4<=16:=yH (Nat.le_mul_of_pos_left (M+4) (show 0<q by lia)) hM;refine⟨q,.times j3 y,ns3,ws3,by rw[<- ey];rfl,g3.nd,by lia,g3.net,⟨⟨by lia,by lia⟩,⟨by lia,by lia⟩⟩,by lia,λU j4 ns4 ws4 g4 lj4 hj4 wj4 dj4 _=>?_⟩;have qz:Zb P P2 ns4 ws4 (M+4) j4:=by
       refine⟨⟨lj4,by rw[wj4];exact wv,?_⟩,⟨lj4,by rw[wj4];exact wv,?_⟩⟩
       ·rw[dj4 P];show (gt (ZD P ns3) (j3:Int)).1*(gt (ZD P ns3) (y:Int)).1=0;rw[pz.1.due,xB]
       ·rw[dj4 P2];show (gt (ZD P2 ns3) (j3:Int)).1*(gt (ZD P2 ns3) (y:Int)).1=0;rw[pz.2.due,xB]
      have hp4:U[S'.length]?=some (.lst (ps.map wtD)):=g4.kp _ _ (by have:=gr.len;lia) (g3.kp _ _ (by have:=gr.len;lia) hp2);refine hK (wtD j4) U hp4 ?_;have lS:=gr.len
      have lRS:=ZZ hR
      have g34:=g3.trans g4;refine⟨by lia,⟨ns4,ws4,ps++[j4],((g2.trans g34).mono (by lia)).put (by lia) (by lia),ZY (g34.kp _ _ (by lia) hR2) (by lia),by rw[yD];exact Yp hp4,by rw[zG,lp];rfl,λi hi=>(zi2 i hi).up g34 g2.net,λi hi=>?_⟩,_,_,_,rfl⟩;rcases xC.1 hi with hi|hi
      ·exact(zp2 i hi).up g34 g2.net
      ·rw[yM.mp hi];exact qz
     ·have e:k=q:=by lia
      exact hx2 _ _ ⟨ns2,ws2,ps,g2.mono (by lia),hR2,hp2,by lia,zi2,zp2,_,_,_,rfl⟩
    rintro dl2 S2 ⟨ns2,ws2,ps,g2,hR2,hp2,lp,zi2,zp2,u8,u9,ua,rfl⟩;have lS:=gr.len
    have lRS:=ZZ hR
    have ln:=g2.ln;refine Wr (n:=S.length) (xs:=is.map λi=>rwD (true,i)) (λK hK=>by exact hK) hR2 (λK hK=>?_) (by rw[zA];lia);refine⟨q,M+4,ns2,ws2,ps,g2.nd,hp2,by lia,g2.net,⟨by lia,by lia⟩,by rw[lp];exact hM,by lia,λi hi=>⟨(zp2 i hi).1.lt,(zp2 i hi).1.wt⟩,λT j3 ns3 ws3 g3 lj3 wj3 dj3=>?_⟩;rw[lp] at wj3;have hR3:=g3.kp _ _ (by lia) hR2;refine hK (rwD (true,j3)) T hR3 ?_;refine⟨by lia,⟨ns3,ws3,is++[j3],((g2.trans g3).mono (by lia)).put (by lia) (by lia),by rw[yD];exact Yp hR3,by rw[zG,li];rfl,λi hi=>?_⟩,_,_,_,_,_,rfl⟩;rcases xC.1 hi with hi|hi
    ·exact(zi2 i hi).up g3 g2.net
    ·rw[yM.mp hi];exact⟨⟨lj3,by lia,dj3 P λi hi=>(zp2 i hi).1.due⟩,⟨lj3,by lia,dj3 P2 λi hi=>(zp2 i hi).2.due⟩⟩
   ·have e:j=q:=by lia
    exact hx _ _ ⟨ns',ws',is,gr.mono (by lia),hR,by lia,zi,_,_,_,_,_,rfl⟩
  rintro dl2 S2 ⟨ns',ws',is,gr,hR,li,zi,u6,u7,u8,u9,ua,rfl⟩;have lS:=gr.len
  have ln:=gr.ln;refine⟨cs,gr.kp _ _ asc.symm hsc,⟨by decide,by decide⟩,λx=>?_⟩;refine ifD (λ_=>?_) (λ_=>?_)
  ·have hf0:fs[0]?=some fs[0]:=zB (by lia);generalize fs[0]=f at hf0;have z1:=(zf f (zJ hf0)).up gr net;refine BB (o:=.lst (fs.map wtD)) (i:=0) (d:=.int (f:Int)) (gr.kp _ _ n1.symm ho1) (XA (j:=0) (by show (fs.map wtD)[0]?=_;rw[zF,hf0];rfl)) ?_;have w2:Nd.wt ws' (.power (f:Int) 2)<=4:=by
    show (2:Int).toNat*ws'.getD ((f:Nat):Int).toNat 0<=4;rw[zI];have:=z1.wt
    show 2*_<=4;lia
   refine⟨q,.power f 2,ns',ws',rfl,gr.nd,by lia,gr.net,⟨⟨by lia,by have:=z1.lt;lia⟩,by decide,by decide⟩,by lia,λT j3 ns3 ws3 g3 lj3 hj3 wj3 dj3 _=>?_⟩;have l3:=g3.ln;refine Eo (n:=S.length) (k:=0) (λv T'=>∃(ns4:List Nd)(ws4:List Nat)(i:Nat),v=rwD (true,i)/\Gr q a 23 S ns ws T' ns4 ws4/\T'[S.length]?=some (.lst (is.map λi=>rwD (true,i)))/\i<ns4.length/\(∀i∈is,i<ns4.length)/\Qa P ns4 i) (λK hK=>?_) (λS1 K hK=>by exact hK) (λS1 K hK=>by exact hK) ?_
   ·refine⟨q,.number 1 1,ns3,ws3,rfl,g3.nd,by lia,g3.net,⟨⟨by decide,by decide⟩,by decide⟩,by show 1<=16;decide,λU j4 ns4 ws4 g4 lj4 hj4 wj4 dj4 _=>?_⟩;have l4:=g4.ln
    have w5:Nd.wt ws4 (.plus (j3:Int) (j4:Int))<=16:=by
     show ws4.getD ((j3:Nat):Int).toNat 0+ws4.getD ((j4:Nat):Int).toNat 0<=_;rw[zI,zI,wj4,g4.wt g3.net lj3,wj3];show _+1<=16;lia
    refine⟨q,.plus j3 j4,ns4,ws4,rfl,g4.nd,by lia,g4.net,⟨⟨by lia,by lia⟩,⟨by lia,by lia⟩⟩,w5,λV j5 ns5 ws5 g5 lj5 hj5 wj5 dj5 _=>?_⟩;have l5:=g5.ln
    have g45:=g4.trans g5
    have gA:=g3.trans g45;refine hK _ _ ⟨ns5,ws5,j5,rfl,(gr.trans gA).mono (by lia),gA.kp _ _ (by lia) hR,lj5,λi hi=>by have:=(zi i hi).1.lt;have:=gA.ln;lia,j3,j4,f,hj5,g45.get hj3,g5.get hj4,by have:=z1.lt;have:=gA.ln;lia,?_⟩;rw[gA.due P z1.lt];exact z1.due
   ·rintro v T' ⟨ns4,ws4,i,rfl,g4,hR4,li4,zi4,sq⟩;refine⟨is.map λi=>rwD (true,i),0,hR4,by rw[zA,li];exact ix0,?_⟩;refine h _ _ ns4 ws4 (is.set 0 i) (g4.put (by lia) (zC _)) (zC _) (by rw[List.map_set];exact Yp hR4) (by rw[List.length_set];exact li) (λk hk=>?_) (.inr ⟨i,by rw[xH (by lia)],sq⟩);rcases List.mem_or_eq_of_mem_set hk with hk|hk
    ·exact zi4 k hk
    ·rw[hk];exact li4
  ·exact h _ _ ns' ws' is (gr.mono (by lia)) (zC _) hR li (λi hi=>(zi i hi).1.lt) (.inl zi)⟩)
def zbn  (Pu:Df K mg q65 ML TV):Fk P w K mg base 1 q65 TV OW:=
 Pu.mk' (ZE (k:=0) Pu.F zdM (λ_ _ _ _=>nP λ_ _=>nP λ_ _=>nN:Ln (OW) 2) λ_ _ _ _ _ _ hr=>⟨_,(Zh (Zv (ZT (Za (Zf YB (Zi (dv 0) Zd) (Zi (dv 1) Zd)) (Za (Zf ZW (Zi (dv 0) Zd) (Zi (dv 1) Zd)) Ze))))),λds S Q ex h=>by
  replace h:=ePP h;obtain⟨_,_,_,_,rfl,h⟩:=h;exact h⟩)
def zbK  (Lu:Df K mg q59 P4 Qe)(ZO:mg q98=none):Fk P w K mg base 1 q59 Qe JC:=
 Lu.mk' (ZE (k:=0) Lu.F Pw (λ_ _ _ _=>nI λ_=>nI λ_=>nN:Ln (JC) 2) λ_ _ _ _ _ _ hr=>⟨_,(Zg (Zy (i:=2) Pw.nd Zd) (Zg (Xe (i:=3) PassesOwn.never rfl Pw.nd rfl (Or.inl rfl) rfl ZO (Za (dv 1) Ze) (Zh (Zy (i:=2) Pw.nd (Zf ZR (dv 2) (dv 0))))) (Zh (Zv (dv 2))))),λds S Q ex h=>by
  replace h:=eII h;obtain⟨x,n,rfl,h⟩:=h;obtain⟨⟨h0,h6,sx⟩,h⟩:=h;refine⟨⟨by lia,by lia⟩,λk dl' S'=>S'=S/\k<=n.toNat/\∃(z:Int)(o:Option D),z=x^k/\dl'=[some (.int x),some (.int n),some (.int z),o],⟨rfl,zL _,1,none,(xK x).symm,rfl⟩,?_⟩;rintro k dl' S' ⟨rfl,hk,z,o,rfl,rfl⟩;refine Y0 (λc=>?_) (λc=>?_)
  ·exact⟨ZN (m:=12001) (n:=2000) ((sx.pow k).mono (by lia)) sx,rfl,by lia,_,_,(zU x k).symm,rfl⟩
  ·have e:k=n.toNat:=by lia
   subst e;exact h⟩)
def zbE  (NS:Df K mg q38 Oo UC)(SX:Fk P w K mg base 1 q59 Qe JC)(Wh:mg "sorted"=none):Fk P w K mg base 2 q38 UC MW:=
 NS.mk' (X6 (ZE (k:=1) NS.F Ju (X5 (λ_ _ _ _=>nP λ_ _=>nI λ_=>nI λ_=>nN:Ln (MW) 3)) λ_ _ _ _ _ _ hr=>⟨_,(Zg (Zy (i:=3) Ju.nd (ZL (ZM K6) rfl Wh Boot.«sorted» (Za (Ye (Za (Zj SX hr (Za (Zi (dv 0) Zd) (Za (dv 1) Ze))) (Za (Zj SX hr (Za (Zi (dv 0) Zd) (Za (dv 1) Ze))) Ze))) Ze))) (Zg (ZQ (PDW.pt (J9 (ZP (ZV hr) (Zf Yc (dv 1) Zd) Zd (ZH _)) (HQ (ED Vr Vr (Zi (dv 0) Zd) Zd (Zi (dv 0) Zd))))) (Zh (IP (dv 3) Zd Zd)) ZS) (Zg (Zy (i:=4) Ju.nd (Zj SX hr (Za (dv 2) (Za (Zf YB (dv 1) Zd) Ze)))) (Zh (Zv (ZT (Za (Zf YJ (Zw (dv 3) Zd) (dv 4)) (Za (XD Xu (Zf YJ (XD Xu (Zw (dv 3) Zd)) (dv 4))) Ze)))))))),λds S Q ex h=>by
  obtain⟨Q0,ex0,rfl,rfl,h⟩:=h;replace h:=ePII h;obtain⟨a,b,n,g,rfl,h⟩:=h;obtain⟨⟨n1,n6,sa,sb,g1,g2⟩,h⟩:=h;have sg:Sz 21 g:=Sz.of 1000000 (by lia)
  have gp:(0:Int)<g^(n.toNat-1):=yL (by lia)
  have egs:(n-1).toNat=n.toNat-1:=by lia
  have zs:Sz 200 (g^(n.toNat-1)):=(sg.pow _).mono (by lia)
  have zf:CFd 0 (g^(n-1).toNat):=by rw[egs];exact zs.fd gp
  refine⟨⟨by lia,n6,sa.mono (by decide)⟩,⟨by lia,n6,sb.mono (by decide)⟩,?_⟩;refine K1 (n:=S.length) (o:=.lst [.int (a^n.toNat),.int (b^n.toNat)]) (ns:=[a^n.toNat,b^n.toNat]) (ZX (Zz _ _) rfl) rfl (by simp) λms p o=>?_
  have em:=sort2 p o;subst em;have bC:∀(lo hi:Int)(T:Sto),Pre S T->lo=ZU a b n.toNat->hi=Yg a b n.toNat->Gc S Q0 (.tup [.int (lo/g^(n-1).toNat),.int (-(-hi/g^(n-1).toNat))]) T:=λlo hi T pr e1 e2=>by
   subst e1 e2;rw[egs];exact⟨pr,Vj,h⟩
  have low:¬ (n%2=0/\a<0/\0<b)->min (a^n.toNat) (b^n.toNat)=ZU a b n.toNat:=λno=>by
   unfold ZU;split
   ·rename_i c;obtain⟨c1,c2,c3⟩:=c;have z1:=WA c1 a
    have z2:=WA c1 b
    have z0:a=0\/b=0:=by lia
    rcases z0 with rfl|rfl
    ·rw[UP (show 1<=n.toNat by lia)] at z1 ⊢;lia
    ·rw[UP (show 1<=n.toNat by lia)] at z2 ⊢;lia
   ·rfl
  have YC:∀lo:Int,lo=ZU a b n.toNat->∀T:Sto,Pre S T->T[S.length+1]?=some (.lst [.int lo,.int (max (a^n.toNat) (b^n.toNat))])->True:=λ_ _ _ _ _=>trivial
  have tail:∀(lo:Int)(T:Sto),lo=ZU a b n.toNat->Pre S T->T[(S++[Ob.lst [.int (a^n.toNat),.int (b^n.toNat)]]).length]?=some (.lst [.int lo,.int (max (a^n.toNat) (b^n.toNat))])->((0<=n-1/\n-1<=6/\Sz 2000 g)/\Y9 wIx (.ref (S++[Ob.lst [.int (a^n.toNat),.int (b^n.toNat)]]).length) (.int 0) T λx T1=>wI CFd (λi j=>.int (i/j)) x (.int (g^(n-1).toNat)) T1 λy T2=>Y9 wIx (.ref (S++[Ob.lst [.int (a^n.toNat),.int (b^n.toNat)]]).length) (.int 1) T2 λu T3=>wNeg u T3 λu' T4=>wI CFd (λi j=>.int (i/j)) u' (.int (g^(n-1).toNat)) T4 λz T5=>wNeg z T5 λz' T6=>Gc S Q0 (.tup [y,z']) T6):=λlo T e1 pr hT=>by
   refine⟨⟨by lia,by lia,sg.mono (by decide)⟩,?_⟩;refine Zq (o:=.lst [.int lo,.int (max (a^n.toNat) (b^n.toNat))]) hT (d:=.int lo) rfl ?_;refine⟨zf,?_⟩;refine Zq (o:=.lst [.int lo,.int (max (a^n.toNat) (b^n.toNat))]) hT (d:=.int (max (a^n.toNat) (b^n.toNat))) rfl ?_;exact⟨zf,bC _ _ _ pr e1 rfl⟩
  have T0:Pre S ((S++[Ob.lst [.int (a^n.toNat),.int (b^n.toNat)]])++[Ob.lst ([min (a^n.toNat) (b^n.toNat),max (a^n.toNat) (b^n.toNat)].map D.int)]):=Pre.refl.push.push;refine ifD (λe=>?_) (λe=>?_)
  ·refine ifD (λc1=>?_) (λc1=>?_)
   ·refine ifD (λc2=>?_) (λc2=>?_)
    ·refine zaF (n:=(S++[Ob.lst [.int (a^n.toNat),.int (b^n.toNat)]]).length) (k:=0) (j:=0) (v:=.int 0) (λK hK=>by exact hK) (λK hK=>by exact hK) (λK hK=>by exact hK) (Zz _ _) rfl ?_;refine tail 0 _ ?_ (QT T0 (by simp)) (Yp (Zz _ _));unfold ZU;rw[if_pos ⟨by lia,by lia,by lia⟩]
    ·exact tail _ _ (low λz=>c2 z.2.2) T0 (Zz _ _)
   ·exact tail _ _ (low λz=>c1 z.2.1) T0 (Zz _ _)
  ·exact tail _ _ (low λz=>e z.1) T0 (Zz _ _)⟩))
def BN  (LZ:Df K mg q55 NI VT):Fk P w K mg base 1 q55 VT RJ:=
 LZ.mk' (ZE (k:=0) LZ.F zdu (λ_ _ _ _=>nP λ_ _=>nP λ_ _=>nN:Ln (RJ) 2) λ_ _ _ _ _ _ hr=>⟨_,(Zh (Zv (ZT (Za (Zf ZW (Zi (dv 0) Zd) (Zi (dv 1) Zd)) (Za (Zf ZW (Zi (dv 0) Zd) (Zi (dv 1) Zd)) Ze))))),λds S Q ex h=>by
  replace h:=ePP h;obtain⟨_,_,_,_,rfl,h⟩:=h;exact h⟩)
def za9  (PK:Df K mg q56 PH Uu):Fk P w K mg base 1 q56 Uu Qf:=
 PK.mk' (ZE (k:=0) PK.F zc7 (λ_ _ _ _=>nP λ_ _=>nP λ_ _=>nN:Ln (Qf) 2) λ_ _ _ _ _ _ hr=>⟨_,(Zh (Zv (ZT (Za (Zf YB (Zi (dv 0) Zd) (Zi (dv 1) Zd)) (Za (Zf YB (Zi (dv 0) Zd) (Zi (dv 1) Zd)) Ze))))),λds S Q ex h=>by
  replace h:=ePP h;obtain⟨_,_,_,_,rfl,h⟩:=h;exact h⟩)
def C4  (M8:Df K mg q25 LY Ub)(Wh:mg "sorted"=none):Fk P w K mg base 1 q25 Ub Qz:=
 M8.mk' (X6 (ZE (k:=0) M8.F Ej (X5 (λ_ _ _ _=>nP λ_ _=>nP λ_ _=>nI λ_=>nN:Ln (Qz) 3)) λ_ _ _ _ _ _ hr=>⟨_,(Zg (Zy (i:=3) Ej.nd (ZL (ZM K6) rfl Wh Boot.«sorted» (Za (Ye (Za (Zf ZR (Zi (dv 0) Zd) (Zi (dv 1) Zd)) (Za (Zf ZR (Zi (dv 0) Zd) (Zi (dv 1) Zd)) (Za (Zf ZR (Zi (dv 0) Zd) (Zi (dv 1) Zd)) (Za (Zf ZR (Zi (dv 0) Zd) (Zi (dv 1) Zd)) Ze))))) Ze))) (Zh (Zv (ZT (Za (Zf YJ (Zw (dv 3) Zd) (dv 2)) (Za (XD Xu (Zf YJ (XD Xu (Zw (dv 3) Zd)) (dv 2))) Ze)))))),λds S Q ex h=>by
  obtain⟨Q0,ex0,rfl,rfl,h⟩:=h;replace h:=ePPI h;obtain⟨a,b,c,d,g,rfl,h⟩:=h;obtain⟨⟨sa,sb,sc,sd,g1,g2⟩,h⟩:=h;have sg:Sz 21 g:=Sz.of 1000000 (by lia);refine⟨ZN sa sc,ZN sa sd,ZN sb sc,ZN sb sd,?_⟩;refine K1 (n:=S.length) (o:=.lst [.int (a*c),.int (a*d),.int (b*c),.int (b*d)]) (ns:=[a*c,a*d,b*c,b*d]) (ZX (Zz _ _) rfl) rfl (by simp) λms p o=>?_
  obtain⟨x,y,rfl⟩:=sort4 p o;refine Zq (o:=.lst ([mn4 a b c d,x,y,mx4 a b c d].map D.int)) (Zz _ _) (d:=.int (mn4 a b c d)) rfl ?_;refine⟨sg.fd (by lia),?_⟩;refine Zq (o:=.lst ([mn4 a b c d,x,y,mx4 a b c d].map D.int)) (Zz _ _) (d:=.int (mx4 a b c d)) rfl ?_;exact⟨sg.fd (by lia),Pre.refl.push.push,Vj,h⟩⟩))
def CY  (OS:Df K mg q60 Lk Sv)(XY:Fk P w K mg base 1 q25 Ub Qz)(We:Fk P w K mg base 1 q56 Uu Qf)(WD:Fk P w K mg base 1 q55 VT RJ)(UR:Fk P w K mg base 2 q38 UC MW):Fk P w K mg base 3 q60 Sv Hh:=
 OS.mk' (ZE (k:=2) OS.F Nn (λ_ _ _ _=>nD λ_=>nR λ_=>nR λ_=>nI λ_=>nN:Ln (Hh) 4) λ_ _ _ _ _ _ hr=>⟨_,(Zg (Zy (i:=4) Nn.nd (Zi (dv 0) Zd)) (Zg (ZQ (ZP (ZV hr) (dv 4) Z4 (ZH _)) (Zh (Zv (ZT (Za (Zf YJ (Zf ZR (Zi (dv 0) Zd) (dv 3)) (Zi (dv 0) Zd)) (Za (XD Xu (Zf YJ (Zf ZR (XD Xu (Zi (dv 0) Zd)) (dv 3)) (Zi (dv 0) Zd))) Ze))))) ZS) (Zg (ZQ (ZP (ZV hr) (dv 4) Z4 (ZH _)) (Zh (Zv (Zw (dv 2) (Zi (dv 0) Zd)))) ZS) (Zg (Zy (i:=5) Nn.nd (Zw (dv 1) (Zi (dv 0) Zd))) (Zg (ZQ (ZP (ZV hr) (dv 4) Z4 (ZH _)) (Zh (Zv (Zj UR hr (Za (dv 5) (Za (Zi (dv 0) Zd) (Za (dv 3) Ze)))))) ZS) (Zg (Zy (i:=6) Nn.nd (Zw (dv 1) (Zi (dv 0) Zd))) (Zg (ZQ (ZP (ZV hr) (dv 4) Z4 (ZH _)) (Zh (Zv (Zj WD hr (Za (dv 5) (Za (dv 6) Ze))))) ZS) (Zg (ZQ (ZP (ZV hr) (dv 4) Z4 (ZH _)) (Zh (Zv (Zj We hr (Za (dv 5) (Za (dv 6) Ze))))) ZS) (Zh (Zv (Zj XY hr (Za (dv 5) (Za (dv 6) (Za (dv 3) Ze)))))))))))))),λds S Q ex h=>by
  replace h:=eDRRI h;obtain⟨d,w,p,g,rfl,h⟩:=h;obtain⟨v,vs,bs,rfl,hw,hp,ok,s1,hg,h⟩:=h;have sg:Sz 21 g:=Sz.of 1000000 (by lia);cases v with
  | number x y=>
   have sx:Sz 31 x:=Sz.of (10^9) ok.2.2
   have sy:Sz 31 y:=Sz.of (10^9) (by have:=ok.1;lia);refine⟨ZN sx sg,sy.fd (by have:=ok.1;lia),ZN sx.neg sg,sy.fd (by have:=ok.1;lia),?_⟩;have e:-x*g=-(x*g):=yO _ _
   show Q (.tup [.int (x*g/y),.int (-(-x*g/y))]) S;rw[e];exact h
  | unknown k=>exact Zq (o:=.lst (bs.map frD)) hp (Z6 ok) h
  | power i m=>
   have a:=s1.at ok.1;obtain⟨ok1,m2,m6⟩:=ok;refine Zq (o:=.lst (vs.map frD)) hw (Z6 ok1) ?_;exact⟨⟨by lia,m6,a.2.1,a.2.2,hg.1,hg.2⟩,h⟩
  | times i j=>
   have a:=s1.at ok.1
   have b:=s1.at ok.2;refine Zq (o:=.lst (vs.map frD)) hw (Z6 ok.1) ?_;refine Zq (o:=.lst (vs.map frD)) hw (Z6 ok.2) ?_;exact⟨⟨a.2.1.mono (by decide),a.2.2.mono (by decide),b.2.1.mono (by decide),b.2.2.mono (by decide),hg.1,hg.2⟩,h⟩
  | plus i j=>
   refine Zq (o:=.lst (vs.map frD)) hw (Z6 ok.1) ?_;exact Zq (o:=.lst (vs.map frD)) hw (Z6 ok.2) h
  | minus i j=>
   refine Zq (o:=.lst (vs.map frD)) hw (Z6 ok.1) ?_;exact Zq (o:=.lst (vs.map frD)) hw (Z6 ok.2) h⟩)
def Dw  (MZ:Df K mg q64 Kc Tu)(Yk:Fk P w K mg base 2 q36 WU Ur)(WE:Fk P w K mg base 1 q54 Uy Qi):Fk P w K mg base 3 q64 Tu MM:=
 MZ.mk' (ZE (k:=2) MZ.F JF (λ_ _ _ _=>nR λ_=>nI λ_=>nI λ_=>nN:Ln (MM) 3) λ_ _ _ _ _ _ hr=>⟨_,(Zg (ZQ (Xw (Zj WE hr (Za (dv 0) Ze))) (Zg (Zy (i:=3) JF.nd (Zf YJ (Zj Yk hr (Za (dv 0) (Za (Zf ZW Zd (dv 1)) Ze))) (Zw (Ye (Za Zd (Za (Zf X2 Zd Zd) (Za (Zf X2 Zd Zd) (Za (Zf X2 Zd Zd) (Za (Zf X2 Zd Zd) Ze)))))) (dv 2)))) (Zh (Zv (ZT (Za (Zf YK (dv 3) (Zf X2 Zd Zd)) (Za (Zf YK (Zf YJ (dv 3) (Zf X2 Zd Zd)) (Zf X2 Zd Zd)) Ze)))))) ZS) (Zg (Zy (i:=3) JF.nd (Zj Yk hr (Za (dv 0) (Za (Zf ZW (Zf ZW Zd (Zf ZR Zd (dv 1))) (dv 2)) Ze)))) (Zg (ZQ (ZP (UZ hr) (Zf Yc (dv 3) Zd) Zd (ZH _)) (Zh (Zv (ZT (Za Zd (Za Zd Ze))))) ZS) (Zh (Zv (ZT (Za (Zf Yc (Zf Yj (dv 3) Zd) Zd) (Za (Zf Yc (Zf Yj (dv 3) Zd) Zd) Ze)))))))),λds S Q ex h=>by
  replace h:=eRII h;obtain⟨sc,at_,w,rfl,h⟩:=h;obtain⟨cs,hs,ha,hw,h⟩:=h;refine⟨cs,hs,?_⟩;cases frS cs
  ·refine⟨IntMulOk.of_left (by decide),cs,hs,⟨by lia,by lia⟩,λv=>?_⟩;refine ifN (λe=>h _ 0 0 (λ_ _ e=>e) (by decide) (by decide) (by decide) (by decide)) (λe=>?_);exact h _ (v/3%5) (v/15%5) (λ_ _ e=>e) (by lia) (by lia) (by lia) (by lia)
  ·refine⟨cs,hs,⟨by lia,by lia⟩,λv=>?_⟩;obtain⟨p,ep,p1,p2⟩:∃p:Int,atI [D.int 1,.int (10^12),.int (10^24),.int (10^36),.int (10^48)] w=some (.int p)/\1<=p/\p<=10^48:=by
    have e:w=0\/w=1\/w=2\/w=3\/w=4:=by lia
    rcases e with rfl|rfl|rfl|rfl|rfl
    ·exact⟨_,rfl,by decide,by decide⟩
    ·exact⟨_,rfl,by decide,by decide⟩
    ·exact⟨_,rfl,by decide,by decide⟩
    ·exact⟨_,rfl,by decide,by decide⟩
    ·exact⟨_,rfl,by decide,by decide⟩
   refine Zq (i:=w) (o:=.lst [D.int 1,.int (10^12),.int (10^24),.int (10^36),.int (10^48)]) (Zz _ _) ep ?_;refine⟨(Sz.of (n:=200) (i:=p) (10^48) (by lia)).fd (by lia),?_⟩;have r1:=Yu (a:=v/p) (b:=10^6) (by decide)
   have r2:=Yu (a:=v/p/10^6) (b:=10^6) (by decide);exact⟨show (0:Int)<10^6 by decide,⟨show (0:Int)<10^6 by decide,by decide⟩,show (0:Int)<10^6 by decide,h _ (v/p%10^6) (v/p/10^6%10^6) (YF _) r1.1 r2.1 (Int.le_of_lt r1.2) (Int.le_of_lt r2.2)⟩⟩)
def za3  (OM:Df K mg q40 Na RV)(Tq:Fk P w K mg base 1 q65 TV OW)(U8:Fk P w K mg base 3 q64 Tu MM)(IB:Fk P w K mg base 3 q60 Sv Hh)(ZO:mg q98=none)(ZF:mg "len"=none):Fk P w K mg base 4 q40 RV Hl:=
 OM.mk' (ZE (k:=3) OM.F J1 (λ_ _ _ _=>nR λ_=>nR λ_=>nI λ_=>nR λ_=>nI λ_=>nN:Ln (Hl) 5) λ_ _ _ _ _ _ hr=>⟨_,(Zg (Zy (i:=5) J1.nd (Ye Ze)) (Zg (Xe (i:=6) PassesOwn.never rfl J1.nd rfl (Or.inl rfl) rfl ZO (Za (ZL (ZM Z1) rfl ZF Boot.«len» (Za (dv 0) Ze)) Ze) (Zh (Yo (YD (dv 5) (Zj Tq hr (Za (Zj IB hr (Za (Zw (dv 0) (dv 6)) (Za (dv 5) (Za (dv 1) (Za (dv 2) Ze))))) (Za (Zj U8 hr (Za (dv 3) (Za (dv 6) (Za (dv 4) Ze)))) Ze))))))) (Zh (Zv (dv 5))))),λds S Q ex h=>by
  replace h:=FL h;obtain⟨nd,bx,g,sc,w,rfl,h⟩:=h;obtain⟨cs,ns,ws,bs,hs,hnd,hbx,net,l9,sb,hg,hw,h⟩:=h;have w1:∀us:LI,us.length<=ns.length->∀i:Int,inR us.length i->1<=ws.getD i.toNat 0:=λus hu i hi=>(net.w1 (i:=i) ⟨hi.1,by have:=hi.2;lia⟩).1
  have w16:∀us:LI,us.length<=ns.length->∀k:Nat,k<us.length->ws.getD k 0<=16:=λus hu k hk=>by
   have z:=(net.w1 (i:=(k:Int)) ⟨by lia,by lia⟩).2
   rwa [zI] at z
  refine Z9 (Zn hnd) ?_;rw[zA];refine⟨⟨by lia,by lia⟩,λk dl' T=>k<=ns.length/\∃us:LI,Pre S T/\T[S.length]?=some (.lst (us.map frD))/\us.length=k/\SzW ws us/\Vp ns bs g us/\∃o6:Option D,dl'=[some (.ref nd),some (.ref bx),some (.int g),some (.ref sc),some (.int w),some (.ref S.length),o6],⟨zL _,[],YF _,Zz _ _,rfl,λk p hp=>by simp at hp,λk v p _ hp=>by simp at hp,_,rfl⟩,?_⟩;rintro k dl' T ⟨hk,us,pr,hu,lu,sw,cl,o6,rfl⟩;rw[zI];refine Y0 (λc=>?_) (λc=>?_)
  ·have hkv:k<ns.length:=by lia
   have hv:=zB hkv;generalize ns[k]=v at hv;have okv:v.ok us.length bs.length:=by rw[lu];exact(net.ok k v hv).1
   have sp:=sw.spn (w16 us (by lia))
   have zz:=fw_w2 sw sb hg (w1 us (by lia)) v okv
   have le:=Nd.fw_le (sp.mono (by decide:1000<=6000)) (sb.mono (by decide)) hg.1 v okv
   have ew:ws.getD us.length 0=v.wt ws:=by rw[lu];exact(net.ok k v hv).2.1
   have wp:=(net.ok k v hv).2.2.1;refine Wr (n:=S.length) (xs:=us.map frD) (λK hK=>by exact hK) hu (λK hK=>?_) (by rw[zA];lia);refine Zq (o:=.lst (ns.map Nd.d)) (pr _ _ hnd) (Kl hv) ?_;refine⟨v,us,bs,rfl,hu,pr _ _ hbx,okv,sp.mono (by decide),hg,?_⟩;refine⟨cs,pr _ _ hs,⟨by lia,by lia⟩,⟨by lia,by lia⟩,λU x y pU x0 y0 x1 y1=>?_⟩;have s1:=(La zz.1 (by lia) (show x.natAbs<=10^6 by lia)).1
   have s2:=(La zz.2 (by lia) (show y.natAbs<=10^6 by lia)).2;rw[show 60*v.wt ws-2+1=60*v.wt ws-1 by lia] at s1 s2;refine hK (frD ((v.fw us bs g).1-x,(v.fw us bs g).2+y)) U (pU _ _ hu) ?_;exact⟨by lia,us++[((v.fw us bs g).1-x,(v.fw us bs g).2+y)],λx o e=>ZY (pU _ _ (pr x o e)) (by have:=ZZ e;lia),by rw[yD];exact Yp (pU _ _ hu),by rw[zG,lu];rfl,sw.snoc (by show (v.fw us bs g).1-x<=(v.fw us bs g).2+y;lia) (by rw[ew];exact s1) (by rw[ew];exact s2),Af net cl (by rw[lu];exact hv) ⟨by show (v.fw us bs g).1-x<=_;lia,by show _<=(v.fw us bs g).2+y;lia⟩,_,rfl⟩
  ·have e:k=ns.length:=by lia
   subst e;exact h _ _ us pr (zC _) hu lu sw cl⟩)
def Cf  (PQ:Df K mg q50 LR RH)(UR:Fk P w K mg base 2 q38 UC MW):Fk P w K mg base 3 q50 RH Hi:=
 PQ.mk' (ZE (k:=2) PQ.F FN (λ_ _ _ _=>nP λ_ _=>nI λ_=>nI λ_=>nN:Ln (Hi) 3) λ_ _ _ _ _ _ hr=>⟨_,(Zg (ZQ (ZP LK (dv 1) Zd (ZH _)) (Zh (Zy (i:=0) FN.nd (Zj UR hr (Za (dv 0) (Za (Zf YB (dv 1) Zd) (Za (dv 2) Ze)))))) ZS) (Zh (Zv (ZT (Za (Zf ZR (Zi (dv 0) Zd) (dv 1)) (Za (Zf ZR (Zi (dv 0) Zd) (dv 1)) Ze)))))),λds S Q ex h=>by
  replace h:=ePII h;obtain⟨a,b,n,g,rfl,h⟩:=h;obtain⟨⟨n2,n6,ab,sa,sb,g1,g2⟩,h⟩:=h;have gp:(1:Int)<=g^((n-1).toNat-1):=yL (by lia)
  have p1:Sz 6000 (a^(n-1).toNat):=(sa.pow _).mono (by lia)
  have p2:Sz 6000 (b^(n-1).toNat):=(sb.pow _).mono (by lia)
  have pl:Sz 6000 (ZU a b (n-1).toNat):=by
   unfold ZU;split
   ·exact yQ (by decide)
   ·exact WK p1 p2
  have sm:Sz 10 n:=Sz.of 6 (by lia);refine ifD (λe=>?_) (λe=>?_)
  ·refine⟨⟨by lia,by lia,sa.mono (by decide),sb.mono (by decide),g1,g2⟩,?_⟩;exact⟨ZN (pl.div gp) sm,ZN (VB (Wo p1 p2) gp) sm,h⟩
  ·have e2:n=2:=by lia
   subst e2;rw[Cz (p:=(a,b)) ab] at h;exact⟨ZN sa sm,ZN sb sm,h⟩⟩)
def Bo  (Nu:Df K mg q61 M9 QN)(WD:Fk P w K mg base 1 q55 VT RJ)(XY:Fk P w K mg base 1 q25 Ub Qz)(We:Fk P w K mg base 1 q56 Uu Qf)(Ic:Fk P w K mg base 3 q50 RH Hi):Fk P w K mg base 4 q61 QN Hm:=
 Nu.mk' (ZE (k:=3) Nu.F Om (λ_ _ _ _=>nD λ_=>nR λ_=>nR λ_=>nI λ_=>nI λ_=>nN:Ln (Hm) 5) λ_ _ _ _ _ _ hr=>⟨_,(Zg (Zy (i:=5) Om.nd (Zi (dv 0) Zd)) (Zg (ZQ (PDW.pt (Um (ZP (ZV hr) (dv 5) Z4 (ZH _)) (Rt (PDW.pt (J9 (ZP (ZV hr) (dv 5) Z4 (ZH _)) (HQ (ZP (UZ hr) (Zi (dv 0) Zd) (dv 3) (ZH _)))))))) (Zh (Zv (ZT (Za Zd (Za Zd Ze))))) ZS) (Zg (ZQ (ZP (ZV hr) (dv 5) Z4 (ZH _)) (Zh (Zv (ZT (Za (dv 4) (Za (dv 4) Ze))))) ZS) (Zg (Zy (i:=6) Om.nd (Zw (Zw (dv 2) (Zi (dv 0) Zd)) (dv 3))) (Zg (ZQ (ZP (ZV hr) (dv 5) Z4 (ZH _)) (Zh (Zv (Zj XY hr (Za (Zj Ic hr (Za (Zw (dv 1) (Zi (dv 0) Zd)) (Za (Zi (dv 0) Zd) (Za (dv 4) Ze)))) (Za (dv 6) (Za (dv 4) Ze)))))) ZS) (Zg (Zy (i:=7) Om.nd (Zw (Zw (dv 2) (Zi (dv 0) Zd)) (dv 3))) (Zg (ZQ (ZP (ZV hr) (dv 5) Z4 (ZH _)) (Zh (Zv (Zj WD hr (Za (dv 6) (Za (dv 7) Ze))))) ZS) (Zg (ZQ (ZP (ZV hr) (dv 5) Z4 (ZH _)) (Zh (Zv (Zj We hr (Za (dv 6) (Za (dv 7) Ze))))) ZS) (Zh (Zv (Zj WD hr (Za (Zj XY hr (Za (Zw (dv 1) (Zi (dv 0) Zd)) (Za (dv 7) (Za (dv 4) Ze)))) (Za (Zj XY hr (Za (Zw (dv 1) (Zi (dv 0) Zd)) (Za (dv 6) (Za (dv 4) Ze)))) Ze))))))))))))),λds S Q ex h=>by
  replace h:=Dc h;obtain⟨d,w,s,li,g,rfl,h⟩:=h;obtain⟨v,q,l,vs,sl,ds,rfl,hw,hs,rows,sz,⟨rfl,lq⟩,ok,lv,s1,hg,h⟩:=h;have row:∀i:Int,inR sl.length i->∃a,atI ds i=some (.ref a)/\S[a]?=some (.lst ((sl.getD i.toNat []).map frD))/\atI ((sl.getD i.toNat []).map frD) ((l:Nat):Int)=some (frD (gs sl i l)):=λi hi=>by
   obtain⟨a,ea,_,ha⟩:=rows.at hi;refine⟨a,ea,ha,?_⟩;have z:=Z6 (vs:=sl.getD i.toNat []) (i:=((l:Nat):Int)) ⟨by lia,by rw[(sz i hi).1];lia⟩;rw[z];have e:gt (sl.getD i.toNat []) ((l:Nat):Int)=gs sl i l:=by
    have ll:l<(sl.getD i.toNat []).length:=by rw[(sz i hi).1];exact lq
    show (sl.getD i.toNat []).getD ((l:Nat):Int).toNat (0,1)=(sl.getD i.toNat []).getD l (0,0);rw[zI];generalize sl.getD i.toNat []=r at ll;simp[ll]
   rw[e]
  cases v with
  | number x y=>exact h
  | unknown k=>
   have e:Nd.sl vs sl g l (.unknown k)=if (l:Int)=k then (g,g) else (0,0):=rfl
   rw[e] at h;refine ifN (λc=>?_) (λc=>?_)
   ·rw[if_neg (λz=>c z.symm)] at h;exact h
   ·rw[if_pos c.symm] at h;exact h
  | power i m=>
   obtain⟨a,ea,ha,el⟩:=row i ok.1;have ci:=s1.at (i:=i) ⟨ok.1.1,by have:=ok.1.2;lia⟩
   have z1:=(sz i ok.1).2 l lq;obtain⟨ok1,m2,m6⟩:=ok;refine Zq (o:=.lst ds) hs ea ?_;refine Zq (o:=.lst ((sl.getD i.toNat []).map frD)) ha el ?_;refine Zq (o:=.lst (vs.map frD)) hw (Z6 (i:=i) ⟨ok1.1,by have:=ok1.2;lia⟩) ?_;refine⟨⟨m2,m6,ci.1,ci.2.1,ci.2.2,hg.1,hg.2⟩,?_⟩;have gp:(1:Int)<=g^((m-1).toNat-1):=yL (by lia)
   have f:=G4 hg.1 m2 m6 ci.2.1 ci.2.2
   have hm:1000*(m.toNat-1)+(m.toNat-1)<=6010:=by
    have:m.toNat<=6:=by lia
    have:=Nat.mul_le_mul_left 1000 (show m.toNat-1<=5 by lia);lia
   exact⟨⟨f.1.mono hm,f.2.mono hm,z1.2.1.mono (by decide),z1.2.2.mono (by decide),hg.1,hg.2⟩,h⟩
  | times i j=>
   obtain⟨a,ea,ha,el⟩:=row i ok.1;obtain⟨b,eb,hb,em⟩:=row j ok.2;have ci:=s1.at (i:=i) ⟨ok.1.1,by have:=ok.1.2;lia⟩
   have cj:=s1.at (i:=j) ⟨ok.2.1,by have:=ok.2.2;lia⟩
   have z1:=(sz i ok.1).2 l lq
   have z2:=(sz j ok.2).2 l lq;refine Zq (o:=.lst ds) hs ea ?_;refine Zq (o:=.lst ((sl.getD i.toNat []).map frD)) ha el ?_;refine Zq (o:=.lst ds) hs eb ?_;refine Zq (o:=.lst ((sl.getD j.toNat []).map frD)) hb em ?_;refine Zq (o:=.lst (vs.map frD)) hw (Z6 (i:=i) ⟨ok.1.1,by have:=ok.1.2;lia⟩) ?_;refine⟨⟨ci.2.1.mono (by decide),ci.2.2.mono (by decide),z2.2.1.mono (by decide),z2.2.2.mono (by decide),hg.1,hg.2⟩,?_⟩;refine Zq (o:=.lst (vs.map frD)) hw (Z6 (i:=j) ⟨ok.2.1,by have:=ok.2.2;lia⟩) ?_;exact⟨⟨cj.2.1.mono (by decide),cj.2.2.mono (by decide),z1.2.1.mono (by decide),z1.2.2.mono (by decide),hg.1,hg.2⟩,h⟩
  | plus i j=>
   obtain⟨a,ea,ha,el⟩:=row i ok.1;obtain⟨b,eb,hb,em⟩:=row j ok.2;refine Zq (o:=.lst ds) hs ea ?_;refine Zq (o:=.lst ((sl.getD i.toNat []).map frD)) ha el ?_;refine Zq (o:=.lst ds) hs eb ?_;exact Zq (o:=.lst ((sl.getD j.toNat []).map frD)) hb em h
  | minus i j=>
   obtain⟨a,ea,ha,el⟩:=row i ok.1;obtain⟨b,eb,hb,em⟩:=row j ok.2;refine Zq (o:=.lst ds) hs ea ?_;refine Zq (o:=.lst ((sl.getD i.toNat []).map frD)) ha el ?_;refine Zq (o:=.lst ds) hs eb ?_;exact Zq (o:=.lst ((sl.getD j.toNat []).map frD)) hb em h⟩)
def zaD  (Oy:Df K mg q51 MX Ru)(Tq:Fk P w K mg base 1 q65 TV OW)(U8:Fk P w K mg base 3 q64 Tu MM)(J7:Fk P w K mg base 4 q61 QN Hm)(ZO:mg q98=none)(ZF:mg "len"=none):Fk P w K mg base 5 q51 Ru JS:=
 Oy.mk' (ZE (k:=4) Oy.F RQ (λ_ _ _ _=>nR λ_=>nR λ_=>nI λ_=>nI λ_=>nR λ_=>nN:Ln (JS) 5) λ_ _ _ _ _ _ hr=>⟨_,(Zg (Zy (i:=5) RQ.nd (Ye Ze)) (Zg (Xe (i:=6) PassesOwn.never rfl RQ.nd rfl (Or.inl rfl) rfl ZO (Za (ZL (ZM Z1) rfl ZF Boot.«len» (Za (dv 0) Ze)) Ze) (Zg (Zy (i:=7) RQ.nd (Ye Ze)) (Zg (Xe (i:=8) PassesOwn.never rfl RQ.nd rfl (Or.inl rfl) rfl ZO (Za (dv 2) Ze) (Zh (Yo (YD (dv 7) (Zj Tq hr (Za (Zj J7 hr (Za (Zw (dv 0) (dv 6)) (Za (dv 1) (Za (dv 5) (Za (dv 8) (Za (dv 3) Ze)))))) (Za (Zj U8 hr (Za (dv 4) (Za (dv 6) (Za (Zf ZW Zd (dv 8)) Ze)))) Ze))))))) (Zh (Yo (YD (dv 5) (dv 7))))))) (Zh (Zv (dv 5))))),λds S Q ex h=>by
  replace h:=Ah h;obtain⟨a,w,qi,g,sc,rfl,h⟩:=h;obtain⟨cs,q,ns,ws,vs,hsc,ha,hw,net,szw,lf,⟨rfl,q1,q4⟩,hg,hl,h⟩:=h;have spn:Spn 1000 vs:=szw.spn λk hk=>by
   have z:=(net.w1 (i:=(k:Int)) ⟨by lia,by lia⟩).2
   rwa [zI] at z
  refine Z9 (Zn ha) ?_;rw[zA];refine⟨⟨by lia,by lia⟩,λk dl' S'=>k<=ns.length/\Pre S S'/\(∃(ds:List D)(R:List LI),S'[S.length]?=some (.lst ds)/\Z8 S' (S.length+1) ds R/\R.length=k/\SlW q ws R/\∀(i:Nat)(v:Nd)(r:LI)(l:Nat)(p:Int×Int),ns[i]?=some v->R[i]?=some r->r[l]?=some p->Ins p (v.sl vs R g l))/\∃u6 u7 u8:Option D,dl'=[some (.ref a),some (.ref w),some (.int (q:Nat)),some (.int g),some (.ref sc),some (.ref S.length),u6,u7,u8],⟨zL _,Pre.refl.push,⟨[],[],Zz _ _,Z8.nil,rfl,λk r hr=>by simp at hr,λi v r l p _ hr=>by simp at hr⟩,_,_,_,rfl⟩,?_⟩;rintro k dl' S' ⟨hk,pr,⟨ds,R,hf,rows,lR,slw,ins⟩,u6,u7,u8,rfl⟩;rw[zI];refine Y0 (λc=>?_) (λc=>?_)
  ·have hv:=zB c;generalize ns[k]=v at hv;have okv:v.ok R.length q:=by rw[lR];exact(net.ok k v hv).1
   have wv:=(net.ok k v hv).2
   have ss:=slw.spn λi hi=>by
    have z:=(net.w1 (i:=(i:Int)) ⟨by lia,by lia⟩).2
    rwa [zI] at z
   have ld:ds.length=k:=by rw[rows.1,lR]
   have lt:=ZZ hf
   have w1:∀i:Int,inR vs.length i->1<=ws.getD i.toNat 0:=λi hi=>(net.w1 (i:=i) ⟨hi.1,by have:=hi.2;lia⟩).1
   dsimp only;refine Vq (λdl2 S2=>Pre S' S2/\∃(row:LI),row.length=q/\S2[S'.length]?=some (.lst (row.map frD))/\(∀p∈row,p.1<=p.2/\Sz (64*v.wt ws-1) p.1/\Sz (64*v.wt ws-1) p.2)/\(∀(l:Nat)(p:Int×Int),row[l]?=some p->Ins p (v.sl vs R g l))/\∃u8:Option D,dl2=[some (.ref a),some (.ref w),some (.int (q:Nat)),some (.int g),some (.ref sc),some (.ref S.length),some (.int (k:Nat)),some (.ref S'.length),u8]) (λnx hn=>?_) ?_
   ·refine⟨⟨by lia,by lia⟩,λl dl2 S2=>l<=q/\Pre S' S2/\(∃(row:LI),row.length=l/\S2[S'.length]?=some (.lst (row.map frD))/\(∀p∈row,p.1<=p.2/\Sz (64*v.wt ws-1) p.1/\Sz (64*v.wt ws-1) p.2)/\(∀(l:Nat)(p:Int×Int),row[l]?=some p->Ins p (v.sl vs R g l)))/\∃u8:Option D,dl2=[some (.ref a),some (.ref w),some (.int (q:Nat)),some (.int g),some (.ref sc),some (.ref S.length),some (.int (k:Nat)),some (.ref S'.length),u8],⟨zL _,Pre.refl.push,⟨[],rfl,Zz _ _,λp hp=>by simp at hp,λl p hp=>by simp at hp⟩,_,rfl⟩,?_⟩;rintro l dl2 S2 ⟨hlq,pr2,⟨row,lrow,hrow,zrow,irow⟩,v8,rfl⟩;rw[zI];refine Y0 (λc2=>?_) (λc2=>?_)
    ·refine Wr (n:=S'.length) (xs:=row.map frD) (λK hK=>by exact hK) hrow (λK hK=>?_) (by rw[zA];lia);refine Zq (o:=.lst (ns.map Nd.d)) (pr2 _ _ (pr _ _ ha)) (Kl hv) ?_;refine⟨v,q,l,vs,R,ds,rfl,pr2 _ _ (pr _ _ hw),pr2 _ _ hf,(rows.low (zL _)).pre pr2,ss,⟨rfl,c2⟩,okv,by lia,spn,hg,?_⟩;have z:=sl_ok szw slw hg (by lia) w1 c2 v okv wv.2.1;generalize hqd:v.sl vs R g l=qd at z;refine⟨cs,pr2 _ _ (pr _ _ hsc),⟨by lia,by lia⟩,⟨by lia,by lia⟩,λU x y pU x0 y0 x1 y1=>?_⟩;have wp:=wv.2.1
     have s1:=(La z.2.1 (by lia) (show x.natAbs<=10^6 by lia)).1
     have s2:=(La z.2.2 (by lia) (show y.natAbs<=10^6 by lia)).2;rw[show 64*v.wt ws-2+1=64*v.wt ws-1 by lia] at s1 s2;refine hK (frD (qd.1-x,qd.2+y)) U (pU _ _ hrow) ?_;refine⟨by lia,λx o e=>ZY (pU _ _ (pr2 x o e)) (by have:=ZZ e;lia),⟨row++[(qd.1-x,qd.2+y)],by rw[zG,lrow];rfl,by rw[yD];exact Yp (pU _ _ hrow),λp' hp'=>?_,λl' p' hp'=>?_⟩,_,rfl⟩
     ·rcases xC.mp hp' with zz|zz
      ·exact zrow p' zz
      ·have e:=yM.mp zz;subst e;exact⟨by show qd.1-x<=qd.2+y;have:=z.1;lia,s1,s2⟩
     ·by_cases hi:l'<l
      ·rw[zQ (by lia)] at hp';exact irow l' p' hp'
      ·have hl2:=(zD.mp hp').1;simp only[zG,zT,yR,lrow] at hl2;have ei:l'=l:=by lia
       subst ei;rw[yA (by lia),lrow,yU] at hp';cases hp';rw[hqd];exact⟨by dsimp only;lia,by dsimp only;lia⟩
    ·have e:l=q:=by lia
     subst e;exact hn _ _ ⟨pr2,row,lrow,hrow,zrow,irow,_,rfl⟩
   ·rintro dl2 S2 ⟨pr2,row,lrow,hrow,zrow,irow,v8,rfl⟩;refine XW (n:=S.length) (S1:=S2) (xs:=ds) (y:=.ref S'.length) (λK hK=>by exact hK) (pr2 _ _ hf) (λK hK=>by exact hK) (by lia) ?_;refine⟨by lia,QT (pr.trans pr2) (zC _),⟨ds++[.ref S'.length],R++[row],Yp (pr2 _ _ hf),?_,by rw[zG,lR];rfl,?_,λi v' r l p hv' hr hp=>?_⟩,_,_,_,rfl⟩
    ·have r4:=(rows.pre pr2).snoc (a:=S'.length) (r:=row) (by lia) hrow;exact r4.keep λx o hx e=>ZY e (by lia)
    ·refine slw.snoc lrow λp hp=>?_
     rw[lR,wv.1];exact zrow p hp
    ·have congr:∀(i:Nat)(v':Nd),ns[i]?=some v'->i<=k->v'.sl vs (R++[row]) g l=v'.sl vs R g l:=λi v' hv' hik=>ER (k:=i) (q:=q) (λj hj=>Dk hj (by lia)) v' (net.ok i v' hv').1
     by_cases hi:i<k
     ·rw[zQ (by lia)] at hr;rw[congr i v' hv' (by lia)];exact ins i v' r l p hv' hr hp
     ·have hl2:=(zD.mp hr).1;simp only[zG,zT,yR,lR] at hl2;have ei:i=k:=by lia
      subst ei;rw[yA (by lia),lR,yU] at hr;cases hr;rw[hv] at hv';cases hv';rw[congr i v hv (zC _)];exact irow l p hp
  ·have e:k=ns.length:=by lia
   exact h _ _ ds R pr (zC _) hf rows (by rw[lR,e]) slw ins⟩)
def DQ  (Lh:Df K mg q41 Rr Sm)(ZF:mg "len"=none):Fk P w K mg base 1 q41 Sm Hf:=
 Lh.mk' (ZE (k:=0) Lh.F WZ (λ_ _ _ _=>nR λ_=>nR λ_=>nI λ_=>nN:Ln (Hf) 3) λ_ _ _ _ _ _ hr=>⟨_,(Zg (Zy (i:=3) WZ.nd (Ye Ze)) (Zg (Ik (i:=4) PassesOwn.never rfl WZ.nd rfl (Or.inl rfl) (dv 1) (Zh (Yo (YD (dv 3) (Wk (x:="_law_span") (N:=[]) (caps:=[]) (ar:=Zo Rr) rfl rfl csc rfl (by decide) (Zw (dv 0) (dv 4)) (λ_ _ _ _ _ _=>YE) (λ_ _ _ _ _ _=>(Zf Yj (Zf ZW (Zi (dv 0) Zd) (Zi (dv 0) Zd)) Zd))))))) (Zg (ZQ (ZP (ZV hr) (ZL (ZM Z1) rfl ZF Boot.«len» (Za (dv 3) Ze)) Zd (ZH _)) (Zh (Zy (i:=3) WZ.nd (Ye (Za (Ye (Za (Zw (Zw (dv 3) Zd) Zd) (Za Zd Ze))) (Za (Ye (Za Zd (Za Zd Ze))) Ze))))) ZS) (Zg (Zy (i:=5) WZ.nd (Zf YB (Zf ZR (Zw (Zw (dv 3) Zd) Zd) (Zw (Zw (dv 3) Zd) Zd)) (Zf ZR (Zw (Zw (dv 3) Zd) Zd) (Zw (Zw (dv 3) Zd) Zd)))) (Zg (ZQ (ZP (ZV hr) (dv 5) Zd (ZH _)) (Zh (Zy (i:=5) WZ.nd Zd)) ZS) (Zg (Zy (i:=6) WZ.nd (Zf ZR (dv 2) (dv 2))) (Zg (Zy (i:=7) WZ.nd (Ye (Za (Zf LD (Zf ZR (dv 6) (Zw (Zw (dv 3) Zd) Zd)) (dv 5)) (Za (Zf LD (Zf ZR (XD Xu (dv 6)) (Zw (Zw (dv 3) Zd) Zd)) (dv 5)) Ze)))) (Zg (Zy (i:=8) WZ.nd (Ye (Za (Zf LD (Zf ZR (XD Xu (dv 6)) (Zw (Zw (dv 3) Zd) Zd)) (dv 5)) (Za (Zf LD (Zf ZR (dv 6) (Zw (Zw (dv 3) Zd) Zd)) (dv 5)) Ze)))) (Zg (ZQ (ZP (ZV hr) (ZL (ZM Z1) rfl ZF Boot.«len» (Za (dv 1) Ze)) Zd (ZH _)) (Zh (Zv (Ye (Za (Gs (dv 7) G1 (Fw Zd)) Ze)))) ZS) (Zh (Zv (Ye (Za (dv 7) (Za (dv 8) Ze)))))))))))))),λds S Q ex h=>by
  replace h:=eRRI h;obtain⟨md,at_,g,rfl,h⟩:=h;obtain⟨q,R,ds,is,hd,rp,hi,li,hq,lR,zR,hg,h⟩:=h;refine F7 (λdl2 S2=>∃(m a b:Nat)(x y z w:Int),Pre S S2/\S2[m]?=some (.lst [.ref a,.ref b])/\S2[a]?=some (.lst [.int x,.int y])/\S2[b]?=some (.lst [.int z,.int w])/\Sz 1102 x/\Sz 1102 y/\Sz 1102 z/\Sz 1102 w/\∃u4 u5 u6 u7 u8:Option D,dl2=[some (.ref md),some (.ref at_),some (.int g),some (.ref m),u4,u5,u6,u7,u8]) (λnx hx=>?_) ?_
  ·refine Jw (i:=4) (n:=at_) (o:=.lst (is.map wtD)) (S:=S++[.lst []]) (λk dl' S'=>Pre S S'/\(∃(es:List D)(M:List (List Int)),S'[S.length]?=some (.lst es)/\Xl S' (S.length+1) es M/\M.length=k/\∀r∈M,r.length=q/\∀x∈r,Sz 1101 x)/\∃u4 u5 u6 u7 u8:Option D,dl'=[some (.ref md),some (.ref at_),some (.int g),some (.ref S.length),u4,u5,u6,u7,u8]) ⟨YF _,⟨[],[],Zz _ _,Xl.nil,rfl,λr hr=>by simp at hr⟩,_,_,_,_,_,rfl⟩ (λk dl' S' ⟨pr,_⟩=>pr _ _ hi) ?_ ?_
   ·rintro k x dl' S' nx2 ct2 ex' ⟨pr,⟨es,M,he,rl,lM,zM⟩,u4,u5,u6,u7,u8,rfl⟩ hn;have hx':(is.map wtD)[k]?=some x:=ex';rw[zF] at hx';obtain⟨i,hik,rfl⟩:=zS.mp hx';have li':=lR i (zJ hik)
    have lk:=(zD.mp hik).1;obtain⟨a,ea,_,ha⟩:=(rp.pre pr).at (i:=(i:Int)) ⟨by lia,by lia⟩;rw[zI] at ha;have er:R.getD i []∈R:=by rw[zK,zB li'];exact yI ..
    obtain⟨lr,br⟩:=zR _ er;generalize R.getD i []=r at ha lr br;have lt:=ZZ he;refine Wr (n:=S.length) (xs:=es) (λK hK=>by exact hK) he (λK hK=>?_) (by rw[rl.1];lia);refine Xz (n:=a) (S1:=S') (o:=.lst (r.map frD)) midD (λK hK=>by exact Zq (o:=.lst ds) (i:=(i:Int)) (pr _ _ hd) ea hK) ha (by show (r.map frD).length<=1000;rw[zA];lia) (λx hx S3 K3 p3 hK3=>?_) ?_
    ·obtain⟨v,_,rfl⟩:=zN.mp (show x∈r.map frD from hx);exact hK3
    ·have ei:(Zs (Ob.lst (r.map frD))).map midD=(r.map λp=>(p.1+p.2)/2).map D.int:=zaj r;rw[ei];refine hK (.ref S'.length) _ (Zn he) ?_;refine hn _ _ ⟨λx o e=>ZY (Zn (pr x o e)) (by have:=ZZ e;lia),⟨es++[.ref S'.length],M++[r.map λp=>(p.1+p.2)/2],Yp (Zn he),?_,by rw[zG,lM];rfl,λr' hr'=>?_⟩,_,_,_,_,_,rfl⟩
     ·refine Xl.snoc (rl.keep λx o lx e=>ZY (Zn e) (by lia)) (by lia) ?_;exact ZY (Zz _ _) (by lia)
     ·rcases xC.1 hr' with hr'|hr'
      ·exact zM r' hr'
      ·rw[yM.mp hr'];refine⟨by rw[zA];exact lr,λx hx=>?_⟩;obtain⟨p,hp,rfl⟩:=zN.mp hx;exact Ky (br p hp).1 (br p hp).2
   ·rintro dl' S' ⟨pr,⟨es,M,he,rl,lM,zM⟩,u4,u5,u6,u7,u8,rfl⟩;have lM':M.length=q:=by
     have z:(Zs (Ob.lst (is.map wtD))).length=is.length:=by show (is.map wtD).length=_;rw[zA]
     rw[z] at lM;lia
    refine Z9 he ?_;rw[rl.1,lM'];refine ifD (λe=>?_) (λe=>?_)
    ·have e:q=1:=by lia
     subst e
     match M,lM',rl,zM with
     | [r],_,rl,zM=>
      obtain⟨lr,zr⟩:=zM r (yC ..)
      match r,lr,zr,rl with
      | [x],_,zr,rl=>
       obtain⟨a,ea,ha⟩:=rl.toI.at (k:=0) (by simp);refine Zq (o:=.lst es) (i:=0) he ea ?_;refine Zq (o:=.lst [.int x]) (i:=0) ha rfl ?_;have zx:Sz 1102 x:=(zr x (yC ..)).mono (by decide);refine hx _ _ ⟨_,_,_,x,0,0,1,YA (YA (YA pr)),Zz _ _,Zn (Zn (Zz _ _)),Zn (Zz _ _),zx,Sz.of 1 (by decide) Mc,Sz.of 1 (by decide) Mc,Sz.of 1 (by decide) Mc,_,_,_,_,_,rfl⟩
    ·have e:q=2:=by lia
     subst e
     match M,lM',rl,zM with
     | [r,t],_,rl,zM=>
      obtain⟨lr,zr⟩:=zM r (yC ..);obtain⟨lt,zt⟩:=zM t (yN _ (yC ..))
      match r,lr,zr,t,lt,zt,rl with
      | [x,y],_,zr,[z,w],_,zt,rl=>
       obtain⟨a,ea,ha⟩:=rl.toI.at (k:=0) (by simp);obtain⟨b,eb,hb⟩:=rl.toI.at (k:=1) (by simp);have ee:es=[.ref a,.ref b]:=by
        match es,rl.1,ea,eb with
        | [d1,d2],_,ea,eb=>
         cases ea;cases eb;rfl
       exact hx _ _ ⟨_,a,b,x,y,z,w,pr,by rw[<- ee];exact he,ha,hb,(zr x (yC ..)).mono (by decide),(zr y (yN _ (yC ..))).mono (by decide),(zt z (yC ..)).mono (by decide),(zt w (yN _ (yC ..))).mono (by decide),_,_,_,_,_,rfl⟩
  rintro dl2 S2 ⟨m,a,b,x,y,z,w,pr,hm,ha,hb,zx,zy,zz,zw,u4,u5,u6,u7,u8,rfl⟩;refine Vq (λdl3 S3=>S2=S3/\∃v:Int,v≠0/\Sz 2300 v/\dl3=[some (.ref md),some (.ref at_),some (.int g),some (.ref m),u4,some (.int v),u6,u7,u8]) (λnx hx=>?_) ?_
  ·have m1:=zx.mul zw
   have m2:=zy.mul zz
   have sv:Sz 2300 (x*w-y*z):=(m1.sub m2).mono (by decide);refine Zq (o:=.lst [.ref a,.ref b]) (i:=0) hm rfl ?_;refine Zq (o:=.lst [.int x,.int y]) (i:=0) ha rfl ?_;refine Zq (o:=.lst [.ref a,.ref b]) (i:=1) hm rfl ?_;refine Zq (o:=.lst [.int z,.int w]) (i:=1) hb rfl ?_;refine⟨ZN zx zw,?_⟩;refine Zq (o:=.lst [.ref a,.ref b]) (i:=0) hm rfl ?_;refine Zq (o:=.lst [.int x,.int y]) (i:=1) ha rfl ?_;refine Zq (o:=.lst [.ref a,.ref b]) (i:=1) hm rfl ?_;refine Zq (o:=.lst [.int z,.int w]) (i:=0) hb rfl ?_;refine⟨ZN zy zz,?_⟩;refine ifD (λe=>?_) (λe=>?_)
   ·exact hx _ _ ⟨rfl,1,by decide,Sz.of 1 (by decide) Mc,rfl⟩
   ·exact hx _ _ ⟨rfl,x*w-y*z,e,sv,rfl⟩
  rintro dl3 S3 ⟨rfl,v,v0,sv,rfl⟩;have sg:Sz 21 g:=Sz.of (10^6) (by lia)
  have gg:Sz 42 (g*g):=sg.mul sg
  have gn:=gg.neg
  have fd:v≠0/\v.natAbs.log2<9000:=⟨v0,sv.log (by lia) (by decide)⟩;refine⟨ZN sg sg,?_⟩;refine Zq (o:=.lst [.ref a,.ref b]) (i:=1) hm rfl ?_;refine Zq (o:=.lst [.int z,.int w]) (i:=1) hb rfl ?_;refine⟨ZN gg zw,fd,?_⟩;refine Zq (o:=.lst [.ref a,.ref b]) (i:=0) hm rfl ?_;refine Zq (o:=.lst [.int x,.int y]) (i:=1) ha rfl ?_;refine⟨ZN gn zy,fd,?_⟩;refine Zq (o:=.lst [.ref a,.ref b]) (i:=1) (Zn hm) rfl ?_;refine Zq (o:=.lst [.int z,.int w]) (i:=0) (Zn hb) rfl ?_;refine⟨ZN gn zz,fd,?_⟩;refine Zq (o:=.lst [.ref a,.ref b]) (i:=0) (Zn hm) rfl ?_;refine Zq (o:=.lst [.int x,.int y]) (i:=0) (Zn ha) rfl ?_;refine⟨ZN gg zx,fd,?_⟩;have f1:Sz 4000 ((g*g*w).fdiv v):=(MH v0 (gg.mul zw)).mono (by decide)
  have f2:Sz 4000 ((-(g*g)*y).fdiv v):=(MH v0 (gn.mul zy)).mono (by decide)
  have f3:Sz 4000 ((-(g*g)*z).fdiv v):=(MH v0 (gn.mul zz)).mono (by decide)
  have f4:Sz 4000 ((g*g*x).fdiv v):=(MH v0 (gg.mul zx)).mono (by decide)
  have h1:(S2++[Ob.lst [.int ((g*g*w).fdiv v),.int ((-(g*g)*y).fdiv v)]]++[Ob.lst [.int ((-(g*g)*z).fdiv v),.int ((g*g*x).fdiv v)]])[S2.length]?=some (.lst [.int ((g*g*w).fdiv v),.int ((-(g*g)*y).fdiv v)]):=Zn (Zz _ _)
  have h2:(S2++[Ob.lst [.int ((g*g*w).fdiv v),.int ((-(g*g)*y).fdiv v)]]++[Ob.lst [.int ((-(g*g)*z).fdiv v),.int ((g*g*x).fdiv v)]])[(S2++[Ob.lst [.int ((g*g*w).fdiv v),.int ((-(g*g)*y).fdiv v)]]).length]?=some (.lst [.int ((-(g*g)*z).fdiv v),.int ((g*g*x).fdiv v)]):=Zz _ _
  have pS:Pre S (S2++[Ob.lst [.int ((g*g*w).fdiv v),.int ((-(g*g)*y).fdiv v)]]++[Ob.lst [.int ((-(g*g)*z).fdiv v),.int ((g*g*x).fdiv v)]]):=YA (YA pr)
  have lS:S.length<=S2.length:=by
   have:=ZZ hm;rcases Nat.lt_or_ge S2.length S.length with c|c
   ·have z:=pr (S.length-1) _ (zB (show S.length-1<S.length by lia))
    have:=ZZ z;lia
   ·exact c
  have l4:S.length<=(S2++[Ob.lst [.int ((g*g*w).fdiv v),.int ((-(g*g)*y).fdiv v)]]++[Ob.lst [.int ((-(g*g)*z).fdiv v),.int ((g*g*x).fdiv v)]]).length:=by
   rw[zG,zG];lia
  refine Z9 (Zn (Zn (pr _ _ hi))) ?_;rw[zA,li];refine ifD (λe=>?_) (λe=>?_)
  ·have e:q=1:=by lia
   subst e;refine Fd (n:=S2.length) (o:=.lst [.int ((g*g*w).fdiv v),.int ((-(g*g)*y).fdiv v)]) (lo:=none) (hi:=some 1) (λK hK=>by exact hK) (λK hK=>by exact hK) (λK hK=>by exact hK) h1 ?_;have ec:XX (Zs (Ob.lst [.int ((g*g*w).fdiv v),.int ((-(g*g)*y).fdiv v)])) none (some 1)=[.int ((g*g*w).fdiv v)]:=rfl;rw[ec];refine h _ _ [.ref _] [[((g*g*w).fdiv v)]] (YA (YA pS)) (by rw[zG];exact yH l4 (Nat.le_add_right _ _)) (Zz _ _) ⟨rfl,λk d r hd hr=>?_⟩ rfl (λr hr=>?_)
   ·match k,hd,hr with
    | 0,hd,hr=>
     cases hd;cases hr;exact⟨_,rfl,Zn (Zz _ _)⟩
   ·rw[yM.mp hr];exact⟨rfl,λx hx=>by rw[yM.mp hx];exact f1⟩
  ·have e:q=2:=by lia
   subst e;refine h _ _ [.ref S2.length,.ref _] [[((g*g*w).fdiv v),((-(g*g)*y).fdiv v)],[((-(g*g)*z).fdiv v),((g*g*x).fdiv v)]] (YA pS) l4 (Zz _ _) ⟨rfl,λk d r hd hr=>?_⟩ rfl (λr hr=>?_)
   ·match k,hd,hr with
    | 0,hd,hr=>
     cases hd;cases hr;exact⟨_,rfl,Zn h1⟩
    | 1,hd,hr=>
     cases hd;cases hr;exact⟨_,rfl,Zn h2⟩
   ·rcases zO.mp hr with rfl|hr
    ·refine⟨rfl,λx hx=>?_⟩;rcases zO.mp hx with rfl|hx
     ·exact f1
     ·rw[yM.mp hx];exact f2
    ·rw[yM.mp hr];refine⟨rfl,λx hx=>?_⟩;rcases zO.mp hx with rfl|hx
     ·exact f3
     ·rw[yM.mp hx];exact f4⟩)
def zd8  (OT:Df K mg q78 Po Qw)(Yk:Fk P w K mg base 2 q36 WU Ur)(Il:Fk P w K mg base 1 q41 Sm Hf)(ZO:mg q98=none)(ZF:mg "len"=none):Fk P w K mg base 3 q78 Qw KC:=
 OT.mk' (ZE (k:=2) OT.F Vm (λ_ _ _ _=>nR λ_=>nI λ_=>nR λ_=>nR λ_=>nI λ_=>nN:Ln (KC) 5) λ_ _ _ _ _ _ hr=>⟨_,(Zg (ZQ (ZP (ZV hr) (Zf Yc (Zf Yj (Zj Yk hr (Za (dv 0) (Za Zd Ze))) Zd) Zd) Zd (ZH _)) (Zh (Zv (Zj Il hr (Za (dv 2) (Za (dv 3) (Za (dv 4) Ze)))))) ZS) (Zg (Zy (i:=5) Vm.nd (Ye Ze)) (Zg (Xe (i:=6) PassesOwn.never rfl Vm.nd rfl (Or.inl rfl) rfl ZO (Za (ZL (ZM Z1) rfl ZF Boot.«len» (Za (dv 3) Ze)) Ze) (Zg (Zy (i:=7) Vm.nd (Ye Ze)) (Zg (Xe (i:=8) PassesOwn.never rfl Vm.nd rfl (Or.inl rfl) rfl ZO (Za (ZL (ZM Z1) rfl ZF Boot.«len» (Za (dv 3) Ze)) Ze) (Zg (Zy (i:=9) Vm.nd (Zj Yk hr (Za (dv 0) (Za (Zf ZW (Zf ZW (dv 1) (Zf ZR Zd (dv 6))) (dv 8)) Ze)))) (Zg (Zy (i:=10) Vm.nd (Zf YB (Zf Yc (Zf Yj (dv 9) Zd) Zd) Zd)) (Zg (ZQ (ZP (ZV hr) (Zf Yc (dv 9) Zd) Zd (ZH _)) (Zh (Zy (i:=10) Vm.nd (Zf YB (Zf YK (Zf Yj (dv 9) Zd) (Zf ZR Zd (Zf X2 Zd Zd))) (Zf X2 Zd Zd)))) ZS) (Zh (Yo (YD (dv 7) (dv 10)))))))) (Zh (Yo (YD (dv 5) (dv 7))))))) (Zh (Zv (dv 5)))))),λds S Q ex h=>by
  replace h:=An h;obtain⟨sc,fi,md,at_,g,rfl,h⟩:=h;obtain⟨cs,q,R,ds,is,hs,hfi,hd,rp,hi,li,hq,lR,zR,hg,h⟩:=h;refine⟨cs,hs,⟨by decide,by decide⟩,λv=>?_⟩;refine ifD (λ_=>?_) (λ_=>?_)
  ·exact⟨q,R,ds,is,hd,rp,hi,li,hq,lR,zR,hg,h⟩
  refine Z9 (Zn hi) ?_;rw[zA,li];refine⟨⟨by lia,by lia⟩,λk dl' S'=>k<=q/\Pre S S'/\(∃(es:List D)(M:List (List Int)),S'[S.length]?=some (.lst es)/\Xl S' (S.length+1) es M/\M.length=k/\∀r∈M,r.length=q/\∀x∈r,Sz 4000 x)/\∃u6 u7 u8 u9 ua:Option D,dl'=[some (.ref sc),some (.int fi),some (.ref md),some (.ref at_),some (.int g),some (.ref S.length),u6,u7,u8,u9,ua],⟨zL _,YF _,⟨[],[],Zz _ _,Xl.nil,rfl,λr hr=>by simp at hr⟩,_,_,_,_,_,rfl⟩,?_⟩;rintro k dl' S' ⟨hk,pr,⟨es,M,he,rl,lM,zM⟩,u6,u7,u8,u9,ua,rfl⟩;rw[zI];have lt:=ZZ he;refine Y0 (λc=>?_) (λc=>?_)
  ·refine Vq (λdl2 S2=>Pre S' S2/\(∃r:List Int,S2[S'.length]?=some (.lst (r.map D.int))/\r.length=q/\∀x∈r,Sz 4000 x)/\∃u8 u9 ua:Option D,dl2=[some (.ref sc),some (.int fi),some (.ref md),some (.ref at_),some (.int g),some (.ref S.length),some (.int (k:Int)),some (.ref S'.length),u8,u9,ua]) (λnx hx=>?_) ?_
   ·refine Z9 (Zn (pr _ _ hi)) ?_;rw[zA,li];refine⟨⟨by lia,by lia⟩,λl dl2 S2=>l<=q/\Pre S' S2/\(∃r:List Int,S2[S'.length]?=some (.lst (r.map D.int))/\r.length=l/\∀x∈r,Sz 4000 x)/\∃u8 u9 ua:Option D,dl2=[some (.ref sc),some (.int fi),some (.ref md),some (.ref at_),some (.int g),some (.ref S.length),some (.int (k:Int)),some (.ref S'.length),u8,u9,ua],⟨zL _,YF _,⟨[],Zz _ _,rfl,λx hx=>by simp at hx⟩,_,_,_,rfl⟩,?_⟩;rintro l dl2 S2 ⟨hl,p2,⟨r,hr,lr,zr⟩,u8,u9,ua,rfl⟩;rw[zI];refine Y0 (λc2=>?_) (λc2=>?_)
    ·refine⟨IntMulOk.of_left (by decide),cs,p2 _ _ (pr _ _ hs),⟨by lia,by lia⟩,λx=>?_⟩;have bC:∀y:Int,Sz 4000 y->∀dx:Ev,(∃u8 u9 ua:Option D,dx=[some (.ref sc),some (.int fi),some (.ref md),some (.ref at_),some (.int g),some (.ref S.length),some (.int (k:Int)),some (.ref S'.length),u8,u9,ua])->l+1<=q/\Pre S' (S2.set S'.length (.lst (r.map D.int++[.int y])))/\(∃r':List Int,(S2.set S'.length (.lst (r.map D.int++[.int y])))[S'.length]?=some (.lst (r'.map D.int))/\r'.length=l+1/\∀x∈r',Sz 4000 x)/\∃u8 u9 ua:Option D,dx=[some (.ref sc),some (.int fi),some (.ref md),some (.ref at_),some (.int g),some (.ref S.length),some (.int (k:Int)),some (.ref S'.length),u8,u9,ua]:=λy zy dx hd=>by
      refine⟨by lia,λx o e=>ZY (p2 x o e) (by have:=ZZ e;lia),⟨r++[y],by rw[yD];exact Yp hr,by rw[zG,lr];rfl,λx hx=>?_⟩,hd⟩;rcases xC.1 hx with hx|hx
      ·exact zr x hx
      ·rw[yM.mp hx];exact zy
     refine ifD (λ_=>?_) (λ_=>?_)
     ·have r1:=Yu (a:=x/2) (b:=2*10^60) (by decide);refine⟨ZN (m:=10) (n:=300) (Sz.of 2 (by decide)) (Sz.of (10^60) (by decide)),by show (0:Int)<2*10^60;decide,?_⟩;refine XW (n:=S'.length) (xs:=r.map D.int) (y:=.int (x/2%(2*10^60)-10^60)) (λK hK=>by exact hK) hr (λK hK=>by exact hK) (by rw[zA];lia) ?_;exact bC _ ((Sz.of (n:=300) (10^61) (by lia)).mono (by decide)) _ ⟨_,_,_,rfl⟩
     ·refine XW (n:=S'.length) (xs:=r.map D.int) (y:=.int (x/2%201-100)) (λK hK=>by exact hK) hr (λK hK=>by exact hK) (by rw[zA];lia) ?_;exact bC _ ((Sz.of (n:=20) 1000 (by lia)).mono (by decide)) _ ⟨_,_,_,rfl⟩
    ·have e:l=q:=by lia
     exact hx _ _ ⟨p2,⟨r,hr,by lia,zr⟩,_,_,_,rfl⟩
   rintro dl2 S2 ⟨p2,⟨r,hr,lr,zr⟩,u8,u9,ua,rfl⟩;refine XW (n:=S.length) (S1:=S2) (xs:=es) (y:=.ref S'.length) (λK hK=>by exact hK) (p2 _ _ he) (λK hK=>by exact hK) (by rw[rl.1];lia) ?_;refine⟨by lia,λx o e=>ZY (p2 _ _ (pr x o e)) (by have:=ZZ e;lia),⟨es++[.ref S'.length],M++[r],Yp (p2 _ _ he),?_,by rw[zG,lM];rfl,λr' hr'=>?_⟩,_,_,_,_,_,rfl⟩
   ·exact Xl.snoc (rl.keep λx o lx e=>ZY (p2 x o e) (by lia)) (by lia) (ZY hr (by lia))
   ·rcases xC.1 hr' with hr'|hr'
    ·exact zM r' hr'
    ·rw[yM.mp hr'];exact⟨lr,zr⟩
  ·have e:k=q:=by lia
   exact h _ _ es M pr (zC _) he rl.toI (by lia) zM⟩)
def zcp  (OO:Df K mg q81 M6 SY)(ZO:mg q98=none)(ZF:mg "len"=none)(YZ:mg "max"=none)(YW:mg "min"=none):Fk P w K mg base 1 q81 SY JO:=
 OO.mk' (ZE (k:=0) OO.F PN (λ_ _ _ _=>nR λ_=>nR λ_=>nN:Ln (JO) 2) λ_ _ _ _ _ _ hr=>⟨_,(Zg (Zy (i:=2) PN.nd (Ye Ze)) (Zg (Xe (i:=3) PassesOwn.never rfl PN.nd rfl (Or.inl rfl) rfl ZO (Za (ZL (ZM Z1) rfl ZF Boot.«len» (Za (dv 1) Ze)) Ze) (Zg (Zy (i:=4) PN.nd (ZL (UG rfl) rfl YZ Boot.«max» (Za (Zf ZW (Zi (Zw (dv 1) (dv 3)) Zd) Zd) (Za (ZL (UQ rfl) rfl YW Boot.«min» (Za (Zi (Zw (dv 0) (dv 3)) Zd) (Za (Zf YB (Zi (Zw (dv 1) (dv 3)) Zd) Zd) Ze))) Ze)))) (Zh (Yo (YD (dv 2) (ZT (Za (dv 4) (Za (ZL (UG rfl) rfl YZ Boot.«max» (Za (dv 4) (Za (ZL (UQ rfl) rfl YW Boot.«min» (Za (Zi (Zw (dv 0) (dv 3)) Zd) (Za (Zf YB (Zi (Zw (dv 1) (dv 3)) Zd) Zd) Ze))) Ze))) Ze)))))))) (Zh (Zv (dv 2))))),λds S Q ex h=>by
  replace h:=eRR h;obtain⟨du,bx,rfl,h⟩:=h;obtain⟨us,bs,hu,hb,lu,l4,h⟩:=h;refine Z9 (Zn hb) ?_;rw[zA];refine⟨⟨by lia,by lia⟩,λk dl' T=>k<=bs.length/\∃aE:LI,Pre S T/\T[S.length]?=some (.lst (aE.map frD))/\aE.length=k/\∃o3 o4:Option D,dl'=[some (.ref du),some (.ref bx),some (.ref S.length),o3,o4],⟨zL _,[],YF _,Zz _ _,rfl,_,_,rfl⟩,?_⟩;rintro k dl' T ⟨hk,aE,pr,hn,ln,o3,o4,rfl⟩;rw[zI];refine Y0 (λc=>?_) (λc=>?_)
  ·have b1:=Z6 (vs:=bs) (i:=(k:Int)) ⟨by lia,by lia⟩
   have b2:=Z6 (vs:=us) (i:=(k:Int)) ⟨by lia,by lia⟩
   have hb':=pr _ _ hb
   have hu':=pr _ _ hu;refine Zq (o:=.lst (bs.map frD)) hb' b1 ?_;refine Zq (o:=.lst (us.map frD)) hu' b2 ?_;refine Zq (o:=.lst (bs.map frD)) hb' b1 ?_;refine Wr (n:=S.length) (xs:=aE.map frD) (λK hK=>by exact hK) hn (λK hK=>?_) (by rw[zA];lia);refine Zq (o:=.lst (us.map frD)) hu' b2 ?_;refine Zq (o:=.lst (bs.map frD)) hb' b1 ?_;refine hK (frD (mxI ((gt bs (k:Int)).1+1) (mnI (gt us (k:Int)).1 ((gt bs (k:Int)).2-1)),mxI (mxI ((gt bs (k:Int)).1+1) (mnI (gt us (k:Int)).1 ((gt bs (k:Int)).2-1))) (mnI (gt us (k:Int)).2 ((gt bs (k:Int)).2-1)))) T hn ?_;exact⟨by lia,aE++[_],λx o e=>ZY (pr x o e) (by have:=ZZ e;lia),by rw[yD];exact Yp hn,by rw[zG,ln];rfl,_,_,rfl⟩
  ·exact h _ _ aE pr (zC _) hn (by lia)⟩)
def zad  (ND:Df K mg q77 Sw RT)(WD:Fk P w K mg base 1 q55 VT RJ)(XY:Fk P w K mg base 1 q25 Ub Qz)(We:Fk P w K mg base 1 q56 Uu Qf)(ZO:mg q98=none)(ZF:mg "len"=none)(WR:mg "int"=none):Fk P w K mg base 2 q77 RT Ie:=
 ND.mk' (ZE (k:=1) ND.F Wc (λ_ _ _ _=>nR λ_=>nR λ_=>nR λ_=>nR λ_=>nI λ_=>nR λ_=>nN:Ln (Ie) 6) λ_ _ _ _ _ _ hr=>⟨_,(Zg (T8 (x:="_law_span") (N:=[]) (caps:=[]) (ar:=Zo Sw) rfl rfl csc rfl (by decide) (i:=6) Wc.nd rfl rfl (dv 3) (λ_ _ _ _ _ _=>YE) (λ_ _ _ _ _ _=>(ZT (Za (Zf Yj (Zf ZW (Zi (dv 0) Zd) (Zi (dv 0) Zd)) Zd) (Za (Zf Yj (Zf ZW (Zi (dv 0) Zd) (Zi (dv 0) Zd)) Zd) Ze))))) (Zg (Zy (i:=7) Wc.nd (Ye Ze)) (Zg (Xe (i:=8) PassesOwn.never rfl Wc.nd rfl (Or.inl rfl) rfl ZO (Za (ZL (ZM Z1) rfl ZF Boot.«len» (Za (dv 3) Ze)) Ze) (Zg (Zy (i:=9) Wc.nd (Zw (dv 6) (dv 8))) (Zg (Xe (i:=10) PassesOwn.never rfl Wc.nd rfl (Or.inl rfl) rfl ZO (Za (ZL (ZM Z1) rfl ZF Boot.«len» (Za (dv 2) Ze)) Ze) (Zh (Zy (i:=9) Wc.nd (Zj We hr (Za (dv 9) (Za (Zj XY hr (Za (ZT (Za (Zw (Zw (dv 5) (dv 8)) (dv 10)) (Za (Zw (Zw (dv 5) (dv 8)) (dv 10)) Ze))) (Za (Zw (dv 0) (Zw (dv 2) (dv 10))) (Za (dv 4) Ze)))) Ze)))))) (Zg (Xe (i:=11) PassesOwn.never rfl Wc.nd rfl (Or.inl rfl) rfl ZO (Za (ZL (ZM Z1) rfl ZF Boot.«len» (Za (dv 3) Ze)) Ze) (Zg (Zy (i:=12) Wc.nd (ZT (Za (Zf ZR (dv 4) (WO JQ rfl WR Boot.«int» (Za (YQ (ZV hr) (dv 8) (dv 11) (ZH _)) Ze))) (Za (Zf ZR (dv 4) (WO JQ rfl WR Boot.«int» (Za (YQ (ZV hr) (dv 8) (dv 11) (ZH _)) Ze))) Ze)))) (Zg (Xe (i:=10) PassesOwn.never rfl Wc.nd rfl (Or.inl rfl) rfl ZO (Za (ZL (ZM Z1) rfl ZF Boot.«len» (Za (dv 2) Ze)) Ze) (Zh (Zy (i:=12) Wc.nd (Zj We hr (Za (dv 12) (Za (Zj XY hr (Za (ZT (Za (Zw (Zw (dv 5) (dv 8)) (dv 10)) (Za (Zw (Zw (dv 5) (dv 8)) (dv 10)) Ze))) (Za (Zw (Zw (dv 1) (Zw (dv 2) (dv 10))) (dv 11)) (Za (dv 4) Ze)))) Ze)))))) (Zh (Zy (i:=9) Wc.nd (Zj WD hr (Za (dv 9) (Za (Zj XY hr (Za (dv 12) (Za (Zj We hr (Za (Zw (dv 3) (dv 11)) (Za (Zw (dv 6) (dv 11)) Ze))) (Za (dv 4) Ze)))) Ze)))))))) (Zh (Yo (YD (dv 7) (dv 9)))))))) (Zh (Zv (dv 7)))))),λds S Q ex h=>by
  replace h:=Dl h;obtain⟨th,md,at_,bx,g,tu,rfl,h⟩:=h;obtain⟨R,ds,ms,is,bs,aC,M,hth,hmd,rp,hat,hbx,htu,ri,li,lM,hq,hi,zR,zM,zb,zt,hg,h⟩:=h;refine Xz (n:=bx) (S1:=S) (o:=.lst (bs.map frD)) QV (λK hK=>by exact hK) hbx (by show (bs.map frD).length<=1000;rw[zA];lia) (λx hx S3 K3 p3 hK3=>?_) ?_
  ·obtain⟨v,_,rfl⟩:=zN.mp (show x∈bs.map frD from hx);exact hK3
  have ei:(Zs (Ob.lst (bs.map frD))).map QV=(bs.map Z5).map frD:=G2 bs;rw[ei];refine Z9 (Zn (Zn hbx)) ?_;rw[zA];refine⟨⟨by lia,by lia⟩,λk dl' S'=>k<=bs.length/\Pre S S'/\S'[S.length]?=some (.lst ((bs.map Z5).map frD))/\(∃us:LI,S'[S.length+1]?=some (.lst (us.map frD))/\us.length=k)/\∃u8 u9 ua ub uc:Option D,dl'=[some (.ref th),some (.ref md),some (.ref at_),some (.ref bx),some (.int g),some (.ref tu),some (.ref S.length),some (.ref (S.length+1)),u8,u9,ua,ub,uc],⟨zL _,YA (YF _),Zn (Zz _ _),⟨[],by have z:=Zz (S++[Ob.lst ((bs.map Z5).map frD)]) (Ob.lst []);rw[zG] at z;exact z,rfl⟩,_,_,_,_,_,by rw[zG];rfl⟩,?_⟩;rintro k dl' S' ⟨hk,pr,hC,⟨us,hF,lu⟩,u8,u9,ua,ub,uc,rfl⟩;rw[zI];refine Y0 (λc=>?_) (λc=>?_)
  ·have hth':=pr _ _ hth
   have hat':=pr _ _ hat
   have hbx':=pr _ _ hbx;obtain⟨ar,ear,har⟩:=(ri.pre pr).at (k:=k) (by lia);obtain⟨lE,zE⟩:=zM (M.getD k []) (by rw[zK,zB (show k<M.length by lia)];exact yI ..);have htu':=pr _ _ htu;generalize M.getD k []=es at har lE zE;have cn:∀l:Nat,l<bs.length->atI ((bs.map Z5).map frD) (l:Int)=some (frD (gt (bs.map Z5) (l:Int))):=λl hl=>Z6 ⟨by lia,by rw[zA];lia⟩
   have eE:∀j:Nat,j<es.length->atI (es.map D.int) (j:Int)=some (.int (es.getD j 0))/\Sz 4000 (es.getD j 0):=λj hj=>by
    have e:es[j]?=some (es.getD j 0):=by rw[zK,zB hj];rfl
    exact⟨XA (by rw[zF,e];rfl),zE _ (zJ e)⟩
   have eI:∀j:Nat,j<is.length->(is.getD j 0<R.length/\is.getD j 0<aC.length)/\atI (is.map wtD) (j:Int)=some (.int ((is.getD j 0:Nat):Int)):=λj hj=>by
    have e:is[j]?=some (is.getD j 0):=by rw[zK,zB hj];rfl
    exact⟨hi _ (zJ e),XA (by rw[zF,e];rfl)⟩
   refine Vq (λdl2 S2=>S'=S2/\∃(x y:Int)(ua ub uc:Option D),dl2=[some (.ref th),some (.ref md),some (.ref at_),some (.ref bx),some (.int g),some (.ref tu),some (.ref S.length),some (.ref (S.length+1)),some (.int (k:Int)),some (.tup [.int x,.int y]),ua,ub,uc]) (λnx hx=>?_) ?_
   ·refine Zq (o:=.lst ((bs.map Z5).map frD)) (i:=(k:Int)) hC (cn k c) ?_;refine Z9 hat' ?_;rw[zA];refine⟨⟨by lia,by lia⟩,λj dl2 S2=>j<=is.length/\S'=S2/\∃(x y:Int)(ua ub uc:Option D),dl2=[some (.ref th),some (.ref md),some (.ref at_),some (.ref bx),some (.int g),some (.ref tu),some (.ref S.length),some (.ref (S.length+1)),some (.int (k:Int)),some (.tup [.int x,.int y]),ua,ub,uc],⟨zL _,rfl,_,_,_,_,_,rfl⟩,?_⟩;rintro j dl2 S2 ⟨hj,rfl,x,y,ua,ub,uc,rfl⟩;rw[zI];refine Y0 (λc2=>?_) (λc2=>hx _ _ ⟨rfl,_,_,_,_,_,rfl⟩);obtain⟨e1,e3⟩:=eE j (by lia);obtain⟨hij,i2⟩:=eI j c2;have zti:=zt _ (VG (vs:=aC) (i:=((is.getD j 0:Nat):Int)) ⟨by lia,by lia⟩);refine Zq (o:=.lst ms) (i:=(k:Int)) htu' ear ?_;refine Zq (o:=.lst (es.map D.int)) (i:=(j:Int)) har e1 ?_;refine Zq (o:=.lst ms) (i:=(k:Int)) htu' ear ?_;refine Zq (o:=.lst (es.map D.int)) (i:=(j:Int)) har e1 ?_;refine Zq (o:=.lst (is.map wtD)) (i:=(j:Int)) hat' i2 ?_;refine Zq (o:=.lst (aC.map frD)) (i:=((is.getD j 0:Nat):Int)) hth' (Z6 ⟨by lia,by lia⟩) ?_;refine⟨⟨e3.mono (by decide),e3.mono (by decide),zti.1.mono (by decide),zti.2.mono (by decide),hg⟩,?_⟩;exact⟨by lia,rfl,_,_,_,_,_,rfl⟩
   rintro dl2 S2 ⟨rfl,x,y,ua,ub,uc,rfl⟩;refine Ys (λdl2 S2=>S'=S2/\∃(x y:Int)(ua ub uc:Option D),dl2=[some (.ref th),some (.ref md),some (.ref at_),some (.ref bx),some (.int g),some (.ref tu),some (.ref S.length),some (.ref (S.length+1)),some (.int (k:Int)),some (.tup [.int x,.int y]),ua,ub,uc]) (λnx hx=>?_) ?_
   ·refine Z9 hbx' ?_;rw[zA];refine⟨⟨by lia,by lia⟩,λl dl2 S2=>l<=bs.length/\S'=S2/\∃(x y:Int)(ua ub uc:Option D),dl2=[some (.ref th),some (.ref md),some (.ref at_),some (.ref bx),some (.int g),some (.ref tu),some (.ref S.length),some (.ref (S.length+1)),some (.int (k:Int)),some (.tup [.int x,.int y]),ua,ub,uc],⟨zL _,rfl,_,_,_,_,_,rfl⟩,?_⟩;rintro l dl2 S2 ⟨hl,rfl,x,y,ua,ub,uc,rfl⟩;rw[zI];refine Y0 (λc2=>?_) (λc2=>hx _ _ ⟨rfl,_,_,_,_,_,rfl⟩);refine Vq (λdl2 S2=>S'=S2/\∃(p r:Int)(ua:Option D),(Sz 6010 p/\Sz 6010 r)/\dl2=[some (.ref th),some (.ref md),some (.ref at_),some (.ref bx),some (.int g),some (.ref tu),some (.ref S.length),some (.ref (S.length+1)),some (.int (k:Int)),some (.tup [.int x,.int y]),ua,some (.int (l:Int)),some (.tup [.int p,.int r])]) (λnx2 hx2=>?_) ?_
    ·have sg:Sz 21 g:=Sz.of (10^6) (by lia)
     have so:∀b:Bool,Sz 21 (if b then (1:Int) else 0):=λb=>Sz.of 1 (by cases b<;>decide)
     refine⟨ZN sg (so _),ZN sg (so _),?_⟩;refine Z9 hat' ?_;rw[zA];refine⟨⟨by lia,by lia⟩,λj dl2 S2=>j<=is.length/\S'=S2/\∃(p r:Int)(ua:Option D),(Sz (6001+j) p/\Sz (6001+j) r)/\dl2=[some (.ref th),some (.ref md),some (.ref at_),some (.ref bx),some (.int g),some (.ref tu),some (.ref S.length),some (.ref (S.length+1)),some (.int (k:Int)),some (.tup [.int x,.int y]),ua,some (.int (l:Int)),some (.tup [.int p,.int r])],⟨zL _,rfl,_,_,_,⟨(sg.mul (so _)).mono (by decide),(sg.mul (so _)).mono (by decide)⟩,rfl⟩,?_⟩;rintro j dl2 S2 ⟨hj,rfl,p,r,ua,⟨zp,zr⟩,rfl⟩;rw[zI];refine Y0 (λc3=>?_) (λc3=>hx2 _ _ ⟨rfl,_,_,_,⟨zp.mono (by lia),zr.mono (by lia)⟩,rfl⟩);obtain⟨e1,e3⟩:=eE j (by lia);obtain⟨hij,i2⟩:=eI j c3;obtain⟨ab,eab,_,hab⟩:=(rp.pre pr).at (i:=((is.getD j 0:Nat):Int)) ⟨by lia,by lia⟩;rw[zI] at hab;obtain⟨z1,z2⟩:=zR (R.getD (is.getD j 0) []) (by rw[zK,zB hij.1];exact yI ..);generalize R.getD (is.getD j 0) []=w at hab z1 z2;have zti:=z2 _ (VG (vs:=w) (i:=(l:Int)) ⟨by lia,by lia⟩);refine Zq (o:=.lst ms) (i:=(k:Int)) htu' ear ?_;refine Zq (o:=.lst (es.map D.int)) (i:=(j:Int)) har e1 ?_;refine Zq (o:=.lst ms) (i:=(k:Int)) htu' ear ?_;refine Zq (o:=.lst (es.map D.int)) (i:=(j:Int)) har e1 ?_;refine Zq (o:=.lst (is.map wtD)) (i:=(j:Int)) hat' i2 ?_;refine Zq (o:=.lst ds) (i:=((is.getD j 0:Nat):Int)) (pr _ _ hmd) eab ?_;refine Zq (o:=.lst (w.map frD)) (i:=(l:Int)) hab (Z6 ⟨by lia,by lia⟩) ?_;refine⟨⟨e3.mono (by decide),e3.mono (by decide),zti.1.mono (by decide),zti.2.mono (by decide),hg⟩,?_⟩;have sm:=QX (p:=(es.getD j 0,es.getD j 0)) hg.1 e3 e3 zti.1 zti.2;exact⟨by lia,rfl,_,_,_,⟨(zp.sub sm.2).mono (by lia),(zr.sub sm.1).mono (by lia)⟩,rfl⟩
    rintro dl2 S2 ⟨rfl,p,r,ua,⟨zp,zr⟩,rfl⟩;have zbl:=zb _ (VG (vs:=bs) (i:=(l:Int)) ⟨by lia,by lia⟩)
    have zm:Sz 61 (gt (bs.map Z5) (l:Int)).1/\Sz 61 (gt (bs.map Z5) (l:Int)).2:=by
     rw[Xj (p:=Z5 (gt bs (l:Int))) (by rw[zF,Xj (zB c2),zB c2];rfl)];exact⟨Ky zbl.1 zbl.2,Ky zbl.1 zbl.2⟩
    refine Zq (o:=.lst (bs.map frD)) (i:=(l:Int)) hbx' (Z6 ⟨by lia,by lia⟩) ?_;refine Zq (o:=.lst ((bs.map Z5).map frD)) (i:=(l:Int)) hC (cn l c2) ?_;refine⟨⟨zp,zr,(zbl.1.sub zm.2).mono (by lia),(zbl.2.sub zm.1).mono (by lia),hg⟩,?_⟩;exact⟨by lia,rfl,_,_,_,_,_,rfl⟩
   rintro dl2 S2 ⟨rfl,x,y,ua,ub,uc,rfl⟩;refine XW (n:=S.length+1) (S1:=S') (xs:=us.map frD) (y:=frD (x,y)) (λK hK=>by exact hK) hF (λK hK=>by exact hK) (by rw[zA];lia) ?_;have lC:=ZZ hC;exact⟨by lia,λx o e=>ZY (pr x o e) (by have:=ZZ e;lia),ZY hC (by lia),⟨us++[(x,y)],by rw[yD];exact Yp hF,by rw[zG,lu];rfl⟩,_,_,_,_,_,rfl⟩
  ·exact h _ _ us pr (by lia) hF (by lia)⟩)
def zcJ  (NZ:Df K mg q52 SA QP)(Sq:mg "tuple"=none)(Xa:mg "list"=none)(UA:mg "isinstance"=none):Fk P w K mg base 1 q52 QP HC:=
 NZ.mk' (ZE (k:=0) NZ.F Sk (λ_ _ _ _=>nR λ_=>nN:Ln (HC) 1) λ_ _ _ _ _ _ hr=>⟨_,(Zg (Zy (i:=1) Sk.nd (Ye Ze)) (Zg (DA (is:=[2,3]) PassesOwn.never rfl Sk.nd (Nms.cons (i:=2) rfl (Or.inl rfl) (by first|exact .inl rfl|exact .inr rfl) (Nms.cons (i:=3) rfl (Or.inl rfl) (by first|exact .inl rfl|exact .inr rfl) Nms.nil)) (dv 0) (Zg (Zy (i:=4) Sk.nd (Ye Ze)) (Zg (CL (i:=5) PassesOwn.never rfl Sk.nd rfl (Or.inl rfl) (dv 3) (Zh (ZQ (Xw (GA (G7 _ _ (by simp)) rfl UA rfl Xa Boot.«list» (dv 5))) (Zh (Yo (YD (dv 4) (Wk (x:="_law_row") (N:=[]) (caps:=[]) (ar:=Zo SA) rfl rfl csc rfl (by decide) (dv 5) (λ_ _ _ _ _ _=>YE) (λ_ _ _ _ _ _=>(IM (Xw (GA (G7 _ _ (by simp)) rfl UA rfl Xa Boot.«list» (dv 0))) (WO (ZM Tc) rfl Xa Boot.«list» (Za (dv 0) Ze)) (dv 0))))))) (Zh (Yo (YD (dv 4) (dv 5))))))) (Zh (Yo (YD (dv 1) (ZT (Za (WO (ZM Tc) rfl Xa Boot.«list» (Za (dv 2) Ze)) (Za (WO (ZM zb7) rfl Sq Boot.«tuple» (Za (dv 4) Ze)) Ze))))))))) (Zh (Zv (dv 1))))),λds S Q ex h=>by
  replace h:=eR h;obtain⟨b,rfl,h⟩:=h;obtain⟨m,d,bs,aE,vs,aC,M,R,hb,hm,one,⟨w1,w2,w3,w4,w5⟩,h⟩:=h;obtain⟨xs,rfl,l6,pts⟩:=Bw one;have few:∀p∈WJ M aE vs aC R,p.few:=λp hp=>by
   simp only[WJ,zO,yS,or_false] at hp;rcases hp with rfl|rfl|rfl|rfl|rfl|rfl
   ·trivial
   ·show (M.map _).length<=900;rw[zA];exact w4
   ·exact w1
   ·exact w2
   ·exact w3
   ·show (R.map _).length<=900;rw[zA];exact w5
  have lp:(WJ M aE vs aC R).length=6:=rfl;refine zb6 (n:=b) (xs:=[.tup [.ref m,.tup xs]]) (S:=S++[.lst []]) (λk dl' S'=>Pre S S'/\(∃ds':List D,S'[S.length]?=some (.lst ds')/\ds'.length=k/\(k=1->∃(m':Nat)(d':D),ds'=[.tup [.ref m',d']]/\S'[m']?=some (.lst (bs.map frD))/\Xx S' d' M aE vs aC R))/\∃o2 o3 o4 o5:Option D,dl'=[some (.ref b),some (.ref S.length),o2,o3,o4,o5]) (λK hK=>by exact hK) ⟨YF _,⟨[],Zz _ _,rfl,λe=>by cases e⟩,_,_,_,_,rfl⟩ (λk dl' S' ⟨pr,_⟩=>pr _ _ hb) (λk d hx=>?_) ?_ ?_
  ·match k,hx with
   | 0,hx=>cases hx;exact⟨_,rfl,rfl⟩
  ·rintro k ys dl' S' nx ct hx ⟨pr,⟨ds',hM,ld,_⟩,o2,o3,o4,o5,rfl⟩ hn
   match k,hx,ld,hn with
   | 0,hx,ld,hn=>
   have e0:ds'=[]:=List.length_eq_zero_iff.mp ld;subst e0;cases hx;have ltM:=ZZ hM;refine⟨λi dl2 S2=>i<=xs.length/\(∃qs:List D,Pre S' S2/\S2[S'.length]?=some (.lst qs)/\qs.length=i/\OZ S2 (S'.length+1) qs (WJ M aE vs aC R))/\∃o5:Option D,dl2=[some (.ref b),some (.ref S.length),some (.ref m),some (.tup xs),some (.ref S'.length),o5],⟨zL _,⟨[],YF _,Zz _ _,rfl,λj x y hy=>by cases hy⟩,_,rfl⟩,?_⟩;rintro i dl2 S2 ⟨hi,⟨qs,p2,hq,lq,cp⟩,v5,rfl⟩;have ltq:=ZZ hq;cases hxi:xs[i]? with
   | none=>
    have ei:i=xs.length:=by
     have:=yY.mp hxi;lia
    subst ei;refine Wr (n:=S.length) (xs:=[]) (λK hK=>by exact hK) (p2 _ _ hM) (λK hK=>?_) (by decide);refine U2 (o:=.lst (bs.map frD)) (ZX (p2 _ _ (pr _ _ hm)) rfl) ?_;refine zbD (Zn hq) ?_;refine hK (.tup [.ref S2.length,.tup qs]) (S2++[.lst (bs.map frD)]) (Zn (p2 _ _ hM)) ?_;refine hn _ _ ⟨λx o e=>ZY (Zn (p2 _ _ (pr x o e))) (by have:=ZZ e;lia),⟨[.tup [.ref S2.length,.tup qs]],Yp (Zn (p2 _ _ hM)),rfl,λ_=>⟨S2.length,.tup qs,rfl,ZY (Zz _ _) (by lia),?_⟩⟩,_,_,_,_,rfl⟩;refine He (lo:=S'.length+1) (by lia) λk x p hx hp=>(cp k x p hx hp).keep λx o lx e=>ZY (Zn e) (by lia)
   | some x=>
    have li:i<xs.length:=(zD.mp hxi).1
    have hpi:(WJ M aE vs aC R)[i]?=some (WJ M aE vs aC R)[i]:=zB (by lia);generalize (WJ M aE vs aC R)[i]=pt at hpi;have bC:∀(y:D)(S3:Sto),Pre S2 S3->Pb S3 (S'.length+1) y pt->∃qs2:List D,Pre S' (S3.set S'.length (.lst (qs++[y])))/\(S3.set S'.length (.lst (qs++[y])))[S'.length]?=some (.lst qs2)/\qs2.length=i+1/\OZ (S3.set S'.length (.lst (qs++[y]))) (S'.length+1) qs2 (WJ M aE vs aC R):=λy S3 p3 cy=>by
     have up:∀(a:Nat)(o:Ob),S'.length+1<=a->S3[a]?=some o->(S3.set S'.length (.lst (qs++[y])))[a]?=some o:=λa o la e=>ZY e (by lia)
     refine⟨qs++[y],λa o e=>ZY (p3 a o (p2 a o e)) (by have:=ZZ e;lia),Yp (p3 _ _ hq),by rw[zG,lq];rfl,λj x' p' hx' hp'=>?_⟩;by_cases cj:j<qs.length
     ·rw[zQ cj] at hx';exact((cp j x' p' hx' hp').keep λa o _ e=>p3 a o e).keep up
     ·have l1:=(zD.mp hx').1;simp only[zG,zT,yR] at l1;have ee:j=qs.length:=by lia
      subst ee;rw[yA (zC _),yU] at hx';cases hx';rw[lq,hpi] at hp';cases hp';exact cy.keep up
    have at0:=pts i x pt hxi hpi
    have fw:=few pt (zJ hpi);cases pt with
    | word w=>
     cases (show x=.str w from at0);refine zbw (S1:=S2) (w:=w) (λK hK=>by exact hK) ?_;refine XW (n:=S'.length) (S1:=S2) (xs:=qs) (y:=.str w) (λK hK=>by exact hK) hq (λK hK=>by exact hK) (by lia) ?_;exact⟨by lia,bC _ S2 (λ_ _ e=>e) rfl,_,rfl⟩
    | flat us=>
     obtain⟨mr,rfl,_,hr⟩:=at0;have lv:us.length<=900:=fw
     have hr2:=p2 _ _ (pr _ _ hr);refine Iy (S1:=S2) (n:=mr) (λK hK=>by exact hK) hr2 ?_;refine Wr (n:=S'.length) (xs:=qs) (λK hK=>by exact hK) hq (λK hK=>?_) (by lia);refine Xz (n:=mr) (S1:=S2) (o:=.lst (us.map frD)) (λd=>d) (λK hK=>by exact hK) hr2 (by show (us.map frD).length<=1000;rw[zA];lia) (λx hx S3 K3 p3 hK3=>?_) ?_
     ·obtain⟨v,_,rfl⟩:=zN.mp (show x∈us.map frD from hx);refine CF (S1:=S3) (xs:=[.int v.1,.int v.2]) (λK hK=>by exact hK) ?_;exact hK3
     ·have ei:(Zs (Ob.lst (us.map frD))).map (λd=>d)=us.map frD:=List.map_id' _;rw[ei];refine hK (.ref S2.length) (S2++[.lst (us.map frD)]) (Zn hq) ?_;exact⟨by lia,bC _ _ (YF _) ⟨S2.length,rfl,by lia,Zz _ _⟩,_,rfl⟩
    | deep L=>
     obtain⟨mr,ds,rfl,_,hr,ll,ff⟩:=at0;have lv:L.length<=900:=fw
     have hr2:=p2 _ _ (pr _ _ hr);refine Iy (S1:=S2) (n:=mr) (λK hK=>by exact hK) hr2 ?_;refine Wr (n:=S'.length) (xs:=qs) (λK hK=>by exact hK) hq (λK hK=>?_) (by lia);refine BG (n:=mr) (S1:=S2) (o:=.lst ds) (λk ys S3=>S3[S2.length]?=some (.lst ys)/\ys.length=k/\(∀(x:Nat)(o:Ob),S2[x]?=some o->S3[x]?=some o)/\∀(j:Nat)(y:D)(zs:List D),ys[j]?=some y->L[j]?=some zs->∃a,y=.ref a/\S2.length<a/\S3[a]?=some (.lst zs)) (λK hK=>by exact hK) hr2 (λk ys S3 ⟨a,b,c,_⟩=>⟨c _ _ hr2,a,b⟩) (by show ds.length<=1000;lia) ⟨Zz _ _,rfl,λx o e=>Zn e,λj y zs hy=>by cases hy⟩ ?_ ?_
     ·rintro k x ys S3 K3 hx ⟨g1,g2,g3,g4⟩ hK3;have hx':ds[k]?=some x:=hx
      have lk:=(zD.mp hx').1
      have hL:=zB (show k<L.length by lia);generalize L[k]=zs at hL;obtain⟨a,rfl,_,ha⟩:=ff k x zs hx' hL;have ha3:=g3 _ _ (p2 _ _ (pr _ _ ha));refine Iy (S1:=S3) (n:=a) (λK hK=>by exact hK) ha3 ?_;refine U2 (o:=.lst zs) (ZX ha3 rfl) ?_;refine hK3 (.ref S3.length) (S3++[.lst zs]) (Zn g1) ?_;have l3:=ZZ g1;refine⟨Yp (Zn g1),by rw[zG,g2];rfl,λx o e=>ZY (Zn (g3 x o e)) (by have:=ZZ e;lia),λj y zs' hy hz=>?_⟩;by_cases cj:j<ys.length
      ·rw[zQ cj] at hy;obtain⟨a',e',l',s'⟩:=g4 j y zs' hy hz;exact⟨a',e',l',ZY (Zn s') (by lia)⟩
      ·have l1:=(zD.mp hy).1;simp only[zG,zT,yR] at l1;have ee:j=ys.length:=by lia
       subst ee;rw[yA (zC _),yU] at hy;cases hy;rw[g2,hL] at hz;cases hz;exact⟨S3.length,rfl,l3,ZY (Zz _ _) (by lia)⟩
     ·rintro ys S3 ⟨g1,g2,g3,g4⟩;refine hK (.ref S2.length) S3 (g3 _ _ hq) ?_;refine⟨by lia,bC _ S3 g3 ⟨S2.length,ys,rfl,by lia,g1,by rw[g2];exact ll,λj y zs hy hz=>?_⟩,_,rfl⟩;obtain⟨a,e,l,s⟩:=g4 j y zs hy hz;exact⟨a,e,by lia,s⟩
  ·rintro dl' S' ⟨pr,⟨ds',hM,ld,f⟩,o2,o3,o4,o5,rfl⟩;obtain⟨m',d',rfl,hm',one'⟩:=f rfl;exact h _ _ m' d' pr (zC _) hM hm' one'⟩)
def DB  (MY:Df K mg q30 RA Ua)(YM:mg "all"=none)(ZF:mg "len"=none):Fk P w K mg base 1 q30 Ua Qg:=
 MY.mk' (X6 (ZE (k:=0) MY.F DS (X5 (λ_ _ _ _=>nR λ_=>nI λ_=>nN:Ln (Qg) 2)) λ_ _ _ _ _ _ hr=>⟨_,(Zh (Zv (ZL (ZM (U4 rfl)) rfl YM Boot.«all» (Za (Wk (x:="each") (N:=["many"]) (caps:=[1]) (ar:=Zo RA) rfl rfl csc rfl (by decide) (dv 0) (λ_ _ _ _ _ _=>YE) (λ_ _ _ _ _ _=>(YQ (ZV hr) (ZL (ZM Z1) rfl ZF Boot.«len» (Za (dv 0) Ze)) (dv 1) (ZH _)))) Ze)))),λds S Q ex h=>by
  obtain⟨Q0,ex0,rfl,rfl,h⟩:=h;replace h:=eRI h;obtain⟨l,m,rfl,h⟩:=h;rcases h with ⟨R,ds,hd,rows,l9,h⟩|⟨R,ds,hd,rows,l9,h⟩
  ·refine Qx (n:=l) (S1:=S) (o:=.lst ds) (λk d=>∃r,R[k]?=some r/\d=.bl (decide (((r.length:Nat):Int)=m))) (λK hK=>by exact hK) hd (by show ds.length<=1000;rw[rows.1];lia) (λk x hx S2 K pr hK=>?_) (λxs lx hx=>?_)
   ·have hx':ds[k]?=some x:=hx
    have hk:k<R.length:=by
     have:=(zD.mp hx').1;rw[rows.1] at this;exact this
    obtain⟨a,rfl,_,ha⟩:=rows.2 k x _ hx' (zB hk);refine Z9 (pr _ _ ha) ?_;rw[zA];exact hK _ ⟨_,zB hk,rfl⟩
   ·have lx':xs.length=R.length:=by rw[lx];exact rows.1
    have e:xs=(R.map λr=>decide (((r.length:Nat):Int)=m)).map D.bl:=by
     refine xN λk=>?_
     by_cases hk:k<xs.length
     ·obtain⟨r,hr,e⟩:=hx k _ (zB hk);rw[zB hk,zF,zF,hr,e];rfl
     ·rw[yK (by lia),yK (by simp;lia)]
    subst e;refine V2 (n:=S.length) (o:=.lst _) (Zz _ _) (Hk _) ?_;exact⟨Pre.refl.push,.bl _,h⟩
  ·refine Qx (n:=l) (S1:=S) (o:=.lst ds) (λk d=>∃r,R[k]?=some r/\d=.bl (decide (((r.length:Nat):Int)=m))) (λK hK=>by exact hK) hd (by show ds.length<=1000;rw[rows.1];lia) (λk x hx S2 K pr hK=>?_) (λxs lx hx=>?_)
   ·have hx':ds[k]?=some x:=hx
    have hk:k<R.length:=by
     have:=(zD.mp hx').1;rw[rows.1] at this;exact this
    obtain⟨a,rfl,ha⟩:=rows.2 k x _ hx' (zB hk);refine Z9 (pr _ _ ha) ?_;rw[zA];exact hK _ ⟨_,zB hk,rfl⟩
   ·have lx':xs.length=R.length:=by rw[lx];exact rows.1
    have e:xs=(R.map λr=>decide (((r.length:Nat):Int)=m)).map D.bl:=by
     refine xN λk=>?_
     by_cases hk:k<xs.length
     ·obtain⟨r,hr,e⟩:=hx k _ (zB hk);rw[zB hk,zF,zF,hr,e];rfl
     ·rw[yK (by lia),yK (by simp;lia)]
    subst e;refine V2 (n:=S.length) (o:=.lst _) (Zz _ _) (Hk _) ?_;exact⟨Pre.refl.push,.bl _,h⟩⟩))
def zb5  (LL:Df K mg q87 Me R4):Fk P w K mg base 1 q87 R4 K0:=
 LL.mk' (ZE (k:=0) LL.F OI (λ_ _ _ _=>nR λ_=>nN:Ln (K0) 1) λ_ _ _ _ _ _ hr=>⟨_,(Zg (Zy (i:=1) OI.nd (Ye Ze)) (Zg (Ik (i:=2) PassesOwn.never rfl OI.nd rfl (Or.inl rfl) (dv 0) (Zg (Zy (i:=3) OI.nd (Zi (dv 2) Zd)) (Zh (ZQ (ZP (ZV hr) (Zi (dv 3) Zd) Z4 (ZH _)) (Zg (Yo (YD (dv 1) (Zi (dv 3) Zd))) (Zh (Yo (YD (dv 1) (Zi (dv 3) Zd))))) ZS)))) (Zh (Zv (dv 1))))),λds S Q ex h=>by
  replace h:=eR h;obtain⟨b,rfl,h⟩:=h;obtain⟨m,a1,a2,a3,a4,a5,hd,h⟩:=h;refine Jw (n:=b) (o:=.lst [.tup [.ref m,.tup [.str "one",.ref a1,.ref a2,.ref a3,.ref a4,.ref a5]]]) (λk dl' S'=>S'=S++[.lst []]/\∃o2 o3:Option D,dl'=[some (.ref b),some (.ref S.length),o2,o3]) ⟨rfl,_,_,rfl⟩ (λk dl' S' w=>by rw[w.1];exact Zn hd) ?_ ?_
  ·rintro k x dl' S' nx ct hx ⟨rfl,o2,o3,rfl⟩ hn;cases k with
   | zero=>
    cases hx;exact hn _ _ ⟨rfl,_,_,rfl⟩
   | succ k=>exact nomatch hx
  ·rintro dl' S' ⟨rfl,o2,o3,rfl⟩;exact h⟩)
def CK  (OE:Df K mg q32 R7 RG)(Hz:Fk P w K mg base 1 q87 R4 K0)(W0:Fk P w K mg base 1 q30 Ua Qg)(Wh:mg "sorted"=none)(Xa:mg "list"=none)(ZO:mg q98=none)(ZF:mg "len"=none):Fk P w K mg base 2 q32 RG Hq:=
 OE.mk' (ZE (k:=1) OE.F zbR (λ_ _ _ _=>nR λ_=>nR λ_=>nN:Ln (Hq) 2) λ_ _ _ _ _ _ hr=>⟨_,(Zg (ZQ (PDW.pt (Um (ZP (ZV hr) (ZL (ZM Z1) rfl ZF Boot.«len» (Za (dv 1) Ze)) Zd (ZH _)) (Um (ZP (Cd hr) (Zi (Zw (dv 1) Zd) Zd) (dv 0) (ZH _)) (Rt (Ux (Xw (Zj W0 hr (Za (Wk (x:="entry") (N:=[]) (caps:=[]) (ar:=Zo R7) rfl rfl csc rfl (by decide) (dv 1) (λ_ _ _ _ _ _=>YE) (λ_ _ _ _ _ _=>(Zi (dv 0) Zd))) (Za (ZL (ZM Z1) rfl ZF Boot.«len» (Za (dv 0) Ze)) Ze))))))))) (Zh (Zv W9)) ZS) (Zh (Zv (YQ (BF hr) (ZL (ZM K6) rfl Wh Boot.«sorted» (Za (Zj Hz hr (Za (dv 1) Ze)) Ze)) (zd9 rfl rfl Xa Boot.«list» rfl ZO (Za Zd (Za (ZL (ZM Z1) rfl ZF Boot.«len» (Za (dv 1) Ze)) Ze))) (ZH _))))),λds S Q ex h=>by
  replace h:=eRR h;obtain⟨bx,b,rfl,h⟩:=h;obtain⟨bs,m,a1,a2,a3,a4,a5,hb,hd,hm,h⟩:=h;generalize eds:[D.tup [.ref m,.tup [.str "one",.ref a1,.ref a2,.ref a3,.ref a4,.ref a5]]]=ds at hd;refine Z9 hd ?_;refine ifD (λe=>absurd e (by rw[<- eds];show ¬ ((1:Nat):Int)=0;decide)) (λ_=>?_);refine Zq (i:=0) (o:=.lst ds) hd (d:=.tup [.ref m,.tup [.str "one",.ref a1,.ref a2,.ref a3,.ref a4,.ref a5]]) (by rw[<- eds];rfl) ?_;subst eds;refine zcr (xs:=bs.map frD) (ys:=bs.map frD) hm hb (b:=true) (Fc _) ?_;refine Xz (n:=b) (S1:=S) (o:=.lst [.tup [.ref m,.tup [.str "one",.ref a1,.ref a2,.ref a3,.ref a4,.ref a5]]]) fstD (λK hK=>by exact hK) hd (show 1<=1000 by decide) (λx hx S2 K p2 hK=>?_) ?_
  ·rw[yM.mp (show x∈[D.tup [.ref m,.tup [.str "one",.ref a1,.ref a2,.ref a3,.ref a4,.ref a5]]] from hx)] at hK ⊢;exact hK
  refine Z9 (Zn hb) ?_;rw[zA];refine .inl ⟨[bs],[.ref m],Zz _ _,⟨rfl,λk d r hd hr=>?_⟩,show 1<=900 by decide,?_⟩
  ·cases k with
   | zero=>
    cases hd;cases hr;exact⟨m,rfl,zL _,Zn hm⟩
   | succ k=>exact nomatch hd
  have ea:([bs].map λr=>decide (((r.length:Nat):Int)=((bs.length:Nat):Int))).all id=true:=by simp
  rw[ea];refine⟨m,a1,a2,a3,a4,a5,Zn hd,?_⟩;refine K1 (o:=.lst []) (ns:=[]) (ZX (Zz _ _) rfl) rfl (by decide) λms pm sm=>?_
  obtain rfl:=pm.eq_nil;refine zd0 (i:=1) (j:=1) (S1:=S++[.lst [.ref m]]++[.lst []]++[.lst []]) (λK hK=>?_) ⟨by decide,by decide,by decide⟩ ?_
  ·refine Z9 (Zn (Zn (Zn hd))) ?_;exact hK
  refine zd3 (xs:=[]) (ys:=[]) (Zn (Zz _ _)) (Zz _ _) (b:=true) rfl ?_;exact h _ (YA (YA (YA (YF _))))⟩)
def zbW  (NB:Df K mg q94 N0 Rl):Fk P w K mg base 1 q94 Rl IJ:=
 NB.mk' (ZE (k:=0) NB.F A0 (λ_ _ _ _=>nP λ_ _=>nP λ_ _=>nN:Ln (IJ) 2) λ_ _ _ _ _ _ hr=>⟨_,(Zh (Zv (Vg (YQ MV (Zi (dv 1) Zd) (Zi (dv 0) Zd) (ZH _)) (Vd (YQ MV (Zi (dv 0) Zd) (Zi (dv 1) Zd) (ZH _)))))),λds S Q ex h=>by
  replace h:=ePP h;obtain⟨_,_,_,_,rfl,h⟩:=h;refine ifD (λe=>?_) (λe=>?_)
  ·rw[decide_eq_true e,Bool.true_and] at h;exact h
  ·rw[decide_eq_false e,Bool.false_and] at h;exact h⟩)
def zab  (PU:Df K mg q42 SS VO)(Hw:Fk P w K mg base 1 q94 Rl IJ)(YM:mg "all"=none)(Yv:mg "zip"=none):Fk P w K mg base 2 q42 VO SF:=
 PU.mk' (X6 (ZE (k:=1) PU.F zcK (X5 (λ_ _ _ _=>nR λ_=>nR λ_=>nN:Ln (SF) 2)) λ_ _ _ _ _ _ hr=>⟨_,(Zh (Zv (ZL (ZM (U4 rfl)) rfl YM Boot.«all» (Za (TF (x1:="one") (x2:="other") (N:=[]) (caps:=[]) (ar:=Zo SS) rfl rfl Vn rfl rfl rfl (by decide) rfl Yv Boot.«zip» (Za (dv 0) (Za (dv 1) Ze)) (λ_ _ _ _ _ _=>(Zj Hw hr (Za (dv 0) (Za (dv 1) Ze))))) Ze)))),λds S Q ex h=>by
  obtain⟨Q0,ex0,rfl,rfl,h⟩:=h;replace h:=eRR h;obtain⟨m,n,rfl,h⟩:=h;obtain⟨us,vs,h1,h2,hl,h⟩:=h;refine Sh (n:=m) (n':=n) (S1:=S) (xs:=us.map frD) (ys:=vs.map frD) (λx y=>match x,y with|.tup [.int a,.int b],.tup [.int c,.int d]=>.bl (decide (c<=a)&&decide (b<=d))|_,_=>.non) (λK hK=>by exact hK) h1 h2 (by rw[zA];exact hl) (λk x y hx hy S2 K pr hK=>?_) ?_
  ·obtain⟨p,_,rfl⟩:=zN.mp (zJ hx);obtain⟨q,_,rfl⟩:=zN.mp (zJ hy);exact hK
  ·refine V2 (n:=S.length) (o:=.lst _) (bs:=List.zipWith TY us vs) (Zz _ _) (Am us vs) ?_;exact⟨Pre.refl.push,.bl _,h⟩⟩))
def DP  (Ot:Df K mg "less" Mh RC):Fk P w K mg base 1 "less" RC Jb:=
 Ot.mk' (ZE (k:=0) Ot.F Ap (λ_ _ _ _=>nP λ_ _=>nP λ_ _=>nN:Ln (Jb) 2) λ_ _ _ _ _ _ hr=>⟨_,(Zh (Zv (YQ Vr (Zf ZR (Zi (dv 0) Zd) (Zi (dv 1) Zd)) (Zf ZR (Zi (dv 1) Zd) (Zi (dv 0) Zd)) (ZH _)))),λds S Q ex h=>by
  replace h:=ePP h;obtain⟨_,_,_,_,rfl,h⟩:=h;obtain⟨⟨h1,h2⟩,h⟩:=h;exact⟨h1,h2,h⟩⟩)
def BA  (LW:Df K mg q23 Pe VU):Fk P w K mg base 1 q23 VU Ry:=
 LW.mk' (ZE (k:=0) LW.F zdr (λ_ _ _ _=>nI λ_=>nI λ_=>nN:Ln (Ry) 2) λ_ _ _ _ _ _ hr=>⟨_,(Zh (Zv (XD Xu (Zf YJ (XD Xu (dv 0)) (dv 1))))),λds S Q ex h=>by
  replace h:=eII h;obtain⟨_,_,rfl,h⟩:=h;exact h⟩)
def zea  (PV:Df K mg q69 Kd QQ)(WS:Fk P w K mg base 1 q23 VU Ry)(KA:Fk P w K mg base 1 "less" RC Jb):Fk P w K mg base 2 q69 QQ IT:=
 PV.mk' (ZE (k:=1) PV.F Ct (λ_ _ _ _=>nP λ_ _=>nP λ_ _=>nI λ_=>nN:Ln (IT) 3) λ_ _ _ _ _ _ hr=>⟨_,(Zg (ZQ (Xw (Zj KA hr (Za (dv 1) (Za (dv 0) Ze)))) (Zh zaa) ZS) (Zh (Zv (ZT (Za (Zf YJ (Zf ZR (Zi (dv 0) Zd) (dv 2)) (Zi (dv 0) Zd)) (Za (Zj WS hr (Za (Zf ZR (Zi (dv 1) Zd) (dv 2)) (Za (Zi (dv 1) Zd) Ze))) Ze)))))),λds S Q ex h=>by
  replace h:=ePPI h;obtain⟨_,_,_,_,_,rfl,h⟩:=h;obtain⟨⟨⟨m1,m2⟩,nl,m3,m4,f1,f2⟩,h⟩:=h;refine⟨⟨m1,m2⟩,ifF (decide_eq_false nl) ?_⟩;exact⟨m3,f1,m4,f2,h⟩⟩)
def AA  (Zt:Xh K mg)(Zu:Xc K mg)(Zk:Y8 K mg)(Zl:Y7 K mg)(Zm:YY K mg)(Zp:Xd K mg)(Mx:Dm K Zt.C q6 VZ NJ Rg)(Je:Fk P w K mg base 2 q69 QQ IT):Fm P w K mg base 3 Zt.C q6 Rg (NA Zt.C Zu.C Zk.C Zl.C Zm.C Zp.C):=
 Mx.mk' (ZE (k:=2) Mx.F Fu (λ_ _ _ _=>nR λ_=>nR λ_=>nR λ_=>nI λ_=>nN:Ln (NA Zt.C Zu.C Zk.C Zl.C Zm.C Zp.C) 4) λ_ _ _ _ _ _ hr=>⟨_,(Zg (Zy (i:=4) Fu.nd (ZT (Za (Ym Zt.cl Zt.n_top (dv 0)) (Za (Ym Zt.cl Zt.n_bottom (dv 0)) Ze)))) (Zh (Zv (Zj Je hr (Za (dv 4) (Za (dv 4) (Za (dv 3) Ze))))))),λds S Q ex h=>by
  replace h:=Ti h;obtain⟨n,w,p,g,rfl,h⟩:=h;obtain⟨x,y,vs,bs,hn,hw,hp,ok,s1,hg,h⟩:=h;have sg:Sz 21 g:=Sz.of 1000000 (by lia)
  have sx:Sz 31 x:=Sz.of (10^9) ok.2.2
  have sy:Sz 31 y:=Sz.of (10^9) (by have:=ok.1;lia);refine Yn (n:=n) (λK hK=>by exact hK) hn rfl ?_;refine Yn (n:=n) (λK hK=>by exact hK) hn rfl ?_;exact⟨⟨⟨ZN sx sy,ZN sx sy⟩,by lia,ZN sx sg,ZN sx sg,sy.fd (by have:=ok.1;lia),sy.fd (by have:=ok.1;lia)⟩,h⟩⟩)
def za6  (Zu:Xc K mg)(Zt:Xh K mg)(Zk:Y8 K mg)(Zl:Y7 K mg)(Zm:YY K mg)(Zp:Xd K mg)(Pd:Dm K Zu.C q6 Uj M4 QK):Fm P w K mg base 1 Zu.C q6 QK (Pq Zt.C Zu.C Zk.C Zl.C Zm.C Zp.C):=
 Pd.mk' (ZE (k:=0) Pd.F zds (λ_ _ _ _=>nR λ_=>nR λ_=>nR λ_=>nI λ_=>nN:Ln (Pq Zt.C Zu.C Zk.C Zl.C Zm.C Zp.C) 4) λ_ _ _ _ _ _ hr=>⟨_,(Zh (Zv (Zw (dv 2) (Ym Zu.cl Zu.n_place (dv 0))))),λds S Q ex h=>by
  replace h:=Ti h;obtain⟨n,w,p,g,rfl,h⟩:=h;obtain⟨k,vs,bs,hn,hw,hp,ok,s1,hg,h⟩:=h;refine Yn (n:=n) (λK hK=>by exact hK) hn rfl ?_;exact Zq (o:=.lst (bs.map frD)) hp (Z6 ok) h⟩)
def zdn  (NO:Df K mg q22 Mz Vc):Fk P w K mg base 1 q22 Vc VV:=
 NO.mk' (ZE (k:=0) NO.F zb3 (λ_ _ _ _=>nP λ_ _=>nP λ_ _=>nN:Ln (VV) 2) λ_ _ _ _ _ _ hr=>⟨_,(Zh (Zv (ZT (Za (Zf ZW (Zi (dv 0) Zd) (Zi (dv 1) Zd)) (Za (Zf ZW (Zi (dv 0) Zd) (Zi (dv 1) Zd)) Ze))))),λds S Q ex h=>by
  replace h:=ePP h;obtain⟨_,_,_,_,rfl,h⟩:=h;exact h⟩)
def zb1  (Zk:Y8 K mg)(Zt:Xh K mg)(Zu:Xc K mg)(Zl:Y7 K mg)(Zm:YY K mg)(Zp:Xd K mg)(Kg:Dm K Zk.C q6 VY OR SM)(Xo:Fk P w K mg base 1 q22 Vc VV):Fm P w K mg base 2 Zk.C q6 SM (Oj Zt.C Zu.C Zk.C Zl.C Zm.C Zp.C):=
 Kg.mk' (ZE (k:=1) Kg.F zdQ (λ_ _ _ _=>nR λ_=>nR λ_=>nR λ_=>nI λ_=>nN:Ln (Oj Zt.C Zu.C Zk.C Zl.C Zm.C Zp.C) 4) λ_ _ _ _ _ _ hr=>⟨_,(Zh (Zv (Zj Xo hr (Za (Zw (dv 1) (Ym Zk.cl Zk.n_one (dv 0))) (Za (Zw (dv 1) (Ym Zk.cl Zk.n_other (dv 0))) Ze))))),λds S Q ex h=>by
  replace h:=Ti h;obtain⟨n,w,p,g,rfl,h⟩:=h;obtain⟨i,j,vs,bs,hn,hw,hp,ok,s1,hg,h⟩:=h;refine Yn (n:=n) (λK hK=>by exact hK) hn rfl ?_;refine Zq (o:=.lst (vs.map frD)) hw (Z6 ok.1) ?_;refine Yn (n:=n) (λK hK=>by exact hK) hn rfl ?_;refine Zq (o:=.lst (vs.map frD)) hw (Z6 ok.2) ?_;exact h⟩)
def Dz  (Ny:Df K mg q17 LN Vs):Fk P w K mg base 1 q17 Vs UL:=
 Ny.mk' (ZE (k:=0) Ny.F Ds (λ_ _ _ _=>nP λ_ _=>nP λ_ _=>nN:Ln (UL) 2) λ_ _ _ _ _ _ hr=>⟨_,(Zh (Zv (ZT (Za (Zf YB (Zi (dv 0) Zd) (Zi (dv 1) Zd)) (Za (Zf YB (Zi (dv 0) Zd) (Zi (dv 1) Zd)) Ze))))),λds S Q ex h=>by
  replace h:=ePP h;obtain⟨_,_,_,_,rfl,h⟩:=h;exact h⟩)
def zch  (Zl:Y7 K mg)(Zt:Xh K mg)(Zu:Xc K mg)(Zk:Y8 K mg)(Zm:YY K mg)(Zp:Xd K mg)(LU:Dm K Zl.C q6 V5 OY Rn)(XI:Fk P w K mg base 1 q17 Vs UL):Fm P w K mg base 2 Zl.C q6 Rn (Nh Zt.C Zu.C Zk.C Zl.C Zm.C Zp.C):=
 LU.mk' (ZE (k:=1) LU.F Dd (λ_ _ _ _=>nR λ_=>nR λ_=>nR λ_=>nI λ_=>nN:Ln (Nh Zt.C Zu.C Zk.C Zl.C Zm.C Zp.C) 4) λ_ _ _ _ _ _ hr=>⟨_,(Zh (Zv (Zj XI hr (Za (Zw (dv 1) (Ym Zl.cl Zl.n_one (dv 0))) (Za (Zw (dv 1) (Ym Zl.cl Zl.n_other (dv 0))) Ze))))),λds S Q ex h=>by
  replace h:=Ti h;obtain⟨n,w,p,g,rfl,h⟩:=h;obtain⟨i,j,vs,bs,hn,hw,hp,ok,s1,hg,h⟩:=h;refine Yn (n:=n) (λK hK=>by exact hK) hn rfl ?_;refine Zq (o:=.lst (vs.map frD)) hw (Z6 ok.1) ?_;refine Yn (n:=n) (λK hK=>by exact hK) hn rfl ?_;refine Zq (o:=.lst (vs.map frD)) hw (Z6 ok.2) ?_;exact h⟩)
def Dp  (LM:Df K mg q26 Mj VJ)(WS:Fk P w K mg base 1 q23 VU Ry)(YZ:mg "max"=none)(YW:mg "min"=none):Fk P w K mg base 2 q26 VJ Sg:=
 LM.mk' (X6 (ZE (k:=1) LM.F GX (X5 (λ_ _ _ _=>nP λ_ _=>nP λ_ _=>nI λ_=>nN:Ln (Sg) 3)) λ_ _ _ _ _ _ hr=>⟨_,(Zg (Zy (i:=3) GX.nd (Ye (Za (Zf ZR (Zi (dv 0) Zd) (Zi (dv 1) Zd)) (Za (Zf ZR (Zi (dv 0) Zd) (Zi (dv 1) Zd)) (Za (Zf ZR (Zi (dv 0) Zd) (Zi (dv 1) Zd)) (Za (Zf ZR (Zi (dv 0) Zd) (Zi (dv 1) Zd)) Ze)))))) (Zh (Zv (ZT (Za (Zf YJ (ZL (ZM (UQ rfl)) rfl YW Boot.«min» (Za (dv 3) Ze)) (dv 2)) (Za (Zj WS hr (Za (ZL (ZM (UG rfl)) rfl YZ Boot.«max» (Za (dv 3) Ze)) (Za (dv 2) Ze))) Ze)))))),λds S Q ex h=>by
  obtain⟨Q0,ex0,rfl,rfl,h⟩:=h;replace h:=ePPI h;obtain⟨a,b,c,d,g,rfl,h⟩:=h;obtain⟨⟨⟨m1,m2,m3,m4⟩,hg⟩,h⟩:=h;refine⟨m1,m2,m3,m4,?_⟩;apply WL
  ·exact Zz _ _
  ·rfl
  ·simp
  intro mn n1 n2;refine⟨hg,?_⟩;apply WL
  ·exact Zz _ _
  ·rfl
  ·simp
  intro mx x1 x2;refine⟨hg,?_⟩;exact⟨Pre.refl.push,Vj,h mn mx (U5.of n1 n2 x1 x2)⟩⟩))
def zbM  (Zm:YY K mg)(Zt:Xh K mg)(Zu:Xc K mg)(Zk:Y8 K mg)(Zl:Y7 K mg)(Zp:Xd K mg)(Mf:Dm K Zm.C q6 VW Oe SE)(XN:Fk P w K mg base 2 q26 VJ Sg):Fm P w K mg base 3 Zm.C q6 SE (MD Zt.C Zu.C Zk.C Zl.C Zm.C Zp.C):=
 Mf.mk' (ZE (k:=2) Mf.F zbh (λ_ _ _ _=>nR λ_=>nR λ_=>nR λ_=>nI λ_=>nN:Ln (MD Zt.C Zu.C Zk.C Zl.C Zm.C Zp.C) 4) λ_ _ _ _ _ _ hr=>⟨_,(Zh (Zv (Zj XN hr (Za (Zw (dv 1) (Ym Zm.cl Zm.n_one (dv 0))) (Za (Zw (dv 1) (Ym Zm.cl Zm.n_other (dv 0))) (Za (dv 3) Ze)))))),λds S Q ex h=>by
  replace h:=Ti h;obtain⟨n,w,p,g,rfl,h⟩:=h;obtain⟨i,j,vs,bs,hn,hw,hp,ok,s1,hg,h⟩:=h;refine Yn (n:=n) (λK hK=>by exact hK) hn rfl ?_;refine Zq (o:=.lst (vs.map frD)) hw (Z6 ok.1) ?_;refine Yn (n:=n) (λK hK=>by exact hK) hn rfl ?_;refine Zq (o:=.lst (vs.map frD)) hw (Z6 ok.2) ?_;have a:=s1.at ok.1
  have b:=s1.at ok.2
  have sg:Sz 21 g:=Sz.of 1000000 (by lia);refine⟨⟨⟨ZN a.2.1 b.2.1,ZN a.2.1 b.2.2,ZN a.2.2 b.2.1,ZN a.2.2 b.2.2⟩,sg.fd (by lia)⟩,λmn mx hc=>?_⟩;obtain⟨rfl,rfl⟩:=hc.eq;exact h⟩)
def zbH  (Mq:Df K mg q93 Ou Rv)(ZO:mg q98=none):Fk P w K mg base 1 q93 Rv KL:=
 Mq.mk' (ZE (k:=0) Mq.F NH (λ_ _ _ _=>nI λ_=>nI λ_=>nN:Ln (KL) 2) λ_ _ _ _ _ _ hr=>⟨_,(Zg (Zy (i:=2) NH.nd Zd) (Zg (Xe (i:=3) PassesOwn.never rfl NH.nd rfl (Or.inl rfl) rfl ZO (Za (dv 1) Ze) (Zh (Zy (i:=2) NH.nd (Zf ZR (dv 2) (dv 0))))) (Zh (Zv (dv 2))))),λds S Q ex h=>by
  replace h:=eII h;obtain⟨x,n,rfl,h⟩:=h;obtain⟨⟨h0,h6,sx⟩,h⟩:=h;refine⟨⟨by lia,by lia⟩,λk dl' S'=>S'=S/\k<=n.toNat/\∃(z:Int)(o:Option D),z=x^k/\dl'=[some (.int x),some (.int n),some (.int z),o],⟨rfl,zL _,1,none,(xK x).symm,rfl⟩,?_⟩;rintro k dl' S' ⟨rfl,hk,z,o,rfl,rfl⟩;refine Y0 (λc=>?_) (λc=>?_)
  ·exact⟨ZN (m:=12001) (n:=2000) ((sx.pow k).mono (by lia)) sx,rfl,by lia,_,_,(zU x k).symm,rfl⟩
  ·have e:k=n.toNat:=by lia
   subst e;exact h⟩)
def zaL  (L5:Df K mg q27 QM Sf)(WS:Fk P w K mg base 1 q23 VU Ry)(Lx:Fk P w K mg base 1 q93 Rv KL)(YZ:mg "max"=none)(YW:mg "min"=none):Fk P w K mg base 2 q27 Sf Nr:=
 L5.mk' (X6 (ZE (k:=1) L5.F Pl (X5 (λ_ _ _ _=>nP λ_ _=>nI λ_=>nI λ_=>nN:Ln (Nr) 3)) λ_ _ _ _ _ _ hr=>⟨_,(Zg (Zy (i:=3) Pl.nd (Ye (Za (Zi (dv 0) Zd) (Za (Zi (dv 0) Zd) Ze)))) (Zg (ZQ (ED Vr Vr (Zi (dv 0) Zd) Zd (Zi (dv 0) Zd)) (Zh (Yo (YD (dv 3) Zd))) ZS) (Zg (T8 (x:="place") (N:=["grid","many"]) (caps:=[2,1]) (ar:=Zo QM) rfl rfl csc rfl (by decide) (i:=4) Pl.nd rfl rfl (dv 3) (λ_ _ _ _ _ _=>YE) (λ_ _ _ _ _ _=>(Zf ZR (Zj Lx hr (Za (dv 0) (Za (dv 2) Ze))) (dv 1)))) (Zg (Zy (i:=5) Pl.nd (Zj Lx hr (Za (dv 2) (Za (dv 1) Ze)))) (Zh (Zv (ZT (Za (Zf YJ (ZL (ZM (UQ rfl)) rfl YW Boot.«min» (Za (dv 4) Ze)) (dv 5)) (Za (Zj WS hr (Za (ZL (ZM (UG rfl)) rfl YZ Boot.«max» (Za (dv 4) Ze)) (Za (dv 5) Ze))) Ze))))))))),λds S Q ex h=>by
  obtain⟨Q0,ex0,rfl,rfl,h⟩:=h;replace h:=ePII h;obtain⟨a,b,n,g,rfl,h⟩:=h;obtain⟨⟨n2,n6,za,zb,hg,zg⟩,h⟩:=h;refine ifD (λc1=>?_) (λc1=>?_)
  ·refine ifD (λc2=>?_) (λc2=>?_)
   ·refine XW (n:=S.length) (λK hK=>hK) (Zz _ _) (λK hK=>hK) (by simp) ?_;refine Xz (n:=S.length) (o:=.lst [.int a,.int b,.int 0]) (λd=>match d with|.int v=>.int (v^n.toNat*g)|_=>.non) (λK hK=>hK) (by simp) (by simp[Zs]) (λx hx S2 K _ hK=>?_) ?_
    ·have hx':x=.int a\/x=.int b\/x=.int 0:=by simpa [Zs] using hx
     rcases hx' with rfl|rfl|rfl
     all_goals exact⟨⟨by lia,n6,by first|exact za.mono (by decide)|exact zb.mono (by decide)|exact Sz.of (n:=2000) 0 (by decide)⟩,ZN (m:=12001) (n:=1400) (((Sz.mono (n:=2000) (by first|exact za|exact zb|exact Sz.of (n:=1400) 0 (by decide)) (by decide)).pow _).mono (by lia)) zg,hK⟩
    refine⟨⟨by lia,n6,zg.mono (by decide)⟩,?_⟩;have gp:(0:Int)<g^n.toNat:=yL (by lia)
    have zgp:Sz 8401 (g^n.toNat):=(zg.pow _).mono (by lia);apply WL
    ·exact Zz _ _
    ·rfl
    ·simp
    intro mn q1 q2;refine⟨zgp.fd gp,?_⟩;apply WL
    ·exact Zz _ _
    ·rfl
    ·simp
    intro mx x1 x2;refine⟨zgp.fd gp,?_⟩;obtain⟨m,M,hP,rfl,rfl⟩:=Vu.of (n:=n.toNat) hg (.inr ⟨rfl,c1,c2⟩) (by lia) q1 q2 x1 x2;have r:=h m M hP;rw[<- Tg hg (by lia),<- Tg hg (by lia),yO] at r;exact⟨(λi o e=>Ue (by rw[List.set_append_right _ _ (zC _),zQ (zD.mp e).1];exact e)),Vj,r⟩
   ·skip
    refine Xz (n:=S.length) (o:=.lst [.int a,.int b]) (λd=>match d with|.int v=>.int (v^n.toNat*g)|_=>.non) (λK hK=>hK) (Zz _ _) (by simp[Zs]) (λx hx S2 K _ hK=>?_) ?_
    ·have hx':x=.int a\/x=.int b:=by simpa [Zs] using hx
     rcases hx' with rfl|rfl
     all_goals exact⟨⟨by lia,n6,by first|exact za.mono (by decide)|exact zb.mono (by decide)|exact Sz.of (n:=2000) 0 (by decide)⟩,ZN (m:=12001) (n:=1400) (((Sz.mono (n:=2000) (by first|exact za|exact zb|exact Sz.of (n:=1400) 0 (by decide)) (by decide)).pow _).mono (by lia)) zg,hK⟩
    refine⟨⟨by lia,n6,zg.mono (by decide)⟩,?_⟩;have gp:(0:Int)<g^n.toNat:=yL (by lia)
    have zgp:Sz 8401 (g^n.toNat):=(zg.pow _).mono (by lia);apply WL
    ·exact Zz _ _
    ·rfl
    ·simp
    intro mn q1 q2;refine⟨zgp.fd gp,?_⟩;apply WL
    ·exact Zz _ _
    ·rfl
    ·simp
    intro mx x1 x2;refine⟨zgp.fd gp,?_⟩;obtain⟨m,M,hP,rfl,rfl⟩:=Vu.of (n:=n.toNat) hg (.inl ⟨rfl,λc=>c2 c.2⟩) (by lia) q1 q2 x1 x2;have r:=h m M hP;rw[<- Tg hg (by lia),<- Tg hg (by lia),yO] at r;exact⟨Pre.refl.push.push,Vj,r⟩
  ·skip
   refine Xz (n:=S.length) (o:=.lst [.int a,.int b]) (λd=>match d with|.int v=>.int (v^n.toNat*g)|_=>.non) (λK hK=>hK) (Zz _ _) (by simp[Zs]) (λx hx S2 K _ hK=>?_) ?_
   ·have hx':x=.int a\/x=.int b:=by simpa [Zs] using hx
    rcases hx' with rfl|rfl
    all_goals exact⟨⟨by lia,n6,by first|exact za.mono (by decide)|exact zb.mono (by decide)|exact Sz.of (n:=2000) 0 (by decide)⟩,ZN (m:=12001) (n:=1400) (((Sz.mono (n:=2000) (by first|exact za|exact zb|exact Sz.of (n:=1400) 0 (by decide)) (by decide)).pow _).mono (by lia)) zg,hK⟩
   refine⟨⟨by lia,n6,zg.mono (by decide)⟩,?_⟩;have gp:(0:Int)<g^n.toNat:=yL (by lia)
   have zgp:Sz 8401 (g^n.toNat):=(zg.pow _).mono (by lia);apply WL
   ·exact Zz _ _
   ·rfl
   ·simp
   intro mn q1 q2;refine⟨zgp.fd gp,?_⟩;apply WL
   ·exact Zz _ _
   ·rfl
   ·simp
   intro mx x1 x2;refine⟨zgp.fd gp,?_⟩;obtain⟨m,M,hP,rfl,rfl⟩:=Vu.of (n:=n.toNat) hg (.inl ⟨rfl,λc=>c1 c.1⟩) (by lia) q1 q2 x1 x2;have r:=h m M hP;rw[<- Tg hg (by lia),<- Tg hg (by lia),yO] at r;exact⟨Pre.refl.push.push,Vj,r⟩⟩))
def Ac  (Zp:Xd K mg)(Zt:Xh K mg)(Zu:Xc K mg)(Zk:Y8 K mg)(Zl:Y7 K mg)(Zm:YY K mg)(My:Dm K Zp.C q6 V4 LC RD)(TC:Fk P w K mg base 2 q27 Sf Nr):Fm P w K mg base 3 Zp.C q6 RD (Np Zt.C Zu.C Zk.C Zl.C Zm.C Zp.C):=
 My.mk' (ZE (k:=2) My.F zcf (λ_ _ _ _=>nR λ_=>nR λ_=>nR λ_=>nI λ_=>nN:Ln (Np Zt.C Zu.C Zk.C Zl.C Zm.C Zp.C) 4) λ_ _ _ _ _ _ hr=>⟨_,(Zh (Zv (Zj TC hr (Za (Zw (dv 1) (Ym Zp.cl Zp.n_one (dv 0))) (Za (Ym Zp.cl Zp.n_many (dv 0)) (Za (dv 3) Ze)))))),λds S Q ex h=>by
  replace h:=Ti h;obtain⟨n,w,p,g,rfl,h⟩:=h;obtain⟨i,m,vs,bs,hn,hw,hp,ok,s1,hg,h⟩:=h;refine Yn (n:=n) (λK hK=>by exact hK) hn rfl ?_;refine Zq (o:=.lst (vs.map frD)) hw (Z6 ok.1) ?_;refine Yn (n:=n) (λK hK=>by exact hK) hn rfl ?_;have a:=s1.at ok.1
  have sg:Sz 21 g:=Sz.of 1000000 (by lia);refine⟨⟨by have:=ok.2.1;lia,ok.2.2,a.2.1,a.2.2,hg.1,sg.mono (by decide)⟩,λm' M' hP=>?_⟩;obtain⟨rfl,rfl⟩:=hP.eq (by have:=ok.2.1;lia);exact h⟩)
def Dq  (Zt:Xh K mg)(Mt:Dm K Zt.C q3 Uk Ls Ri):Fm P w K mg base 1 Zt.C q3 Ri (Ji Zt.C):=
 Mt.mk' (ZE (k:=0) Mt.F BV (λ_ _ _ _=>nR λ_=>nD λ_=>nD λ_=>nN:Ln (Ji Zt.C) 3) λ_ _ _ _ _ _ hr=>⟨_,(Zg (Wj Zt.cl Zt.n_top (dv 0) (dv 1)) (Zh (Wj Zt.cl Zt.n_bottom (dv 0) (dv 2)))),λds S Q ex h=>by
  replace h:=Rx h;obtain⟨n,x,y,rfl,h⟩:=h;obtain⟨T,rfl,rfl,h⟩:=h;refine Wm (v:=x) (S1:=T++[Ob.ins Zt.C []]) (S2:=T++[Ob.ins Zt.C []]) (n:=T.length) (fs:=[]) (λK hK=>by exact hK) (λK hK=>by exact hK) (Ws ..) (by simp) ?_;rw[Wq];refine Wm (v:=y) (S1:=T++[Ob.ins Zt.C [("top",x)]]) (S2:=T++[Ob.ins Zt.C [("top",x)]]) (n:=T.length) (fs:=[("top",x)]) (λK hK=>by exact hK) (λK hK=>by exact hK) (Ws ..) (by simp) ?_;rw[Wq];exact h⟩)
def Ce  (Zu:Xc K mg)(Lc:Dm K Zu.C q3 q97 PX RX):Fm P w K mg base 1 Zu.C q3 RX (Js Zu.C):=
 Lc.mk' (ZE (k:=0) Lc.F BI (λ_ _ _ _=>nR λ_=>nD λ_=>nN:Ln (Js Zu.C) 2) λ_ _ _ _ _ _ hr=>⟨_,(Zh (Wj Zu.cl Zu.n_place (dv 0) (dv 1))),λds S Q ex h=>by
  replace h:=eRD h;obtain⟨n,x,rfl,h⟩:=h;obtain⟨T,rfl,rfl,h⟩:=h;refine Wm (v:=x) (S1:=T++[Ob.ins Zu.C []]) (S2:=T++[Ob.ins Zu.C []]) (n:=T.length) (fs:=[]) (λK hK=>by exact hK) (λK hK=>by exact hK) (Ws ..) (by simp) ?_;rw[Wq];exact h⟩)
def D2  (Zk:Y8 K mg)(LV:Dm K Zk.C q3 q18 NW So):Fm P w K mg base 1 Zk.C q3 So (JA Zk.C):=
 LV.mk' (ZE (k:=0) LV.F zdB (λ_ _ _ _=>nR λ_=>nD λ_=>nD λ_=>nN:Ln (JA Zk.C) 3) λ_ _ _ _ _ _ hr=>⟨_,(Zg (Wj Zk.cl Zk.n_one (dv 0) (dv 1)) (Zh (Wj Zk.cl Zk.n_other (dv 0) (dv 2)))),λds S Q ex h=>by
  replace h:=Rx h;obtain⟨n,x,y,rfl,h⟩:=h;obtain⟨T,rfl,rfl,h⟩:=h;refine Wm (v:=x) (S1:=T++[Ob.ins Zk.C []]) (S2:=T++[Ob.ins Zk.C []]) (n:=T.length) (fs:=[]) (λK hK=>by exact hK) (λK hK=>by exact hK) (Ws ..) (by simp) ?_;rw[Wq];refine Wm (v:=y) (S1:=T++[Ob.ins Zk.C [("one",x)]]) (S2:=T++[Ob.ins Zk.C [("one",x)]]) (n:=T.length) (fs:=[("one",x)]) (λK hK=>by exact hK) (λK hK=>by exact hK) (Ws ..) (by simp) ?_;rw[Wq];exact h⟩)
def CC  (Zl:Y7 K mg)(OA:Dm K Zl.C q3 q18 Nw RF):Fm P w K mg base 1 Zl.C q3 RF (JZ Zl.C):=
 OA.mk' (ZE (k:=0) OA.F C8 (λ_ _ _ _=>nR λ_=>nD λ_=>nD λ_=>nN:Ln (JZ Zl.C) 3) λ_ _ _ _ _ _ hr=>⟨_,(Zg (Wj Zl.cl Zl.n_one (dv 0) (dv 1)) (Zh (Wj Zl.cl Zl.n_other (dv 0) (dv 2)))),λds S Q ex h=>by
  replace h:=Rx h;obtain⟨n,x,y,rfl,h⟩:=h;obtain⟨T,rfl,rfl,h⟩:=h;refine Wm (v:=x) (S1:=T++[Ob.ins Zl.C []]) (S2:=T++[Ob.ins Zl.C []]) (n:=T.length) (fs:=[]) (λK hK=>by exact hK) (λK hK=>by exact hK) (Ws ..) (by simp) ?_;rw[Wq];refine Wm (v:=y) (S1:=T++[Ob.ins Zl.C [("one",x)]]) (S2:=T++[Ob.ins Zl.C [("one",x)]]) (n:=T.length) (fs:=[("one",x)]) (λK hK=>by exact hK) (λK hK=>by exact hK) (Ws ..) (by simp) ?_;rw[Wq];exact h⟩)
def E5  (Zm:YY K mg)(Mm:Dm K Zm.C q3 q18 Oh QO):Fm P w K mg base 1 Zm.C q3 QO (Im Zm.C):=
 Mm.mk' (ZE (k:=0) Mm.F zdj (λ_ _ _ _=>nR λ_=>nD λ_=>nD λ_=>nN:Ln (Im Zm.C) 3) λ_ _ _ _ _ _ hr=>⟨_,(Zg (Wj Zm.cl Zm.n_one (dv 0) (dv 1)) (Zh (Wj Zm.cl Zm.n_other (dv 0) (dv 2)))),λds S Q ex h=>by
  replace h:=Rx h;obtain⟨n,x,y,rfl,h⟩:=h;obtain⟨T,rfl,rfl,h⟩:=h;refine Wm (v:=x) (S1:=T++[Ob.ins Zm.C []]) (S2:=T++[Ob.ins Zm.C []]) (n:=T.length) (fs:=[]) (λK hK=>by exact hK) (λK hK=>by exact hK) (Ws ..) (by simp) ?_;rw[Wq];refine Wm (v:=y) (S1:=T++[Ob.ins Zm.C [("one",x)]]) (S2:=T++[Ob.ins Zm.C [("one",x)]]) (n:=T.length) (fs:=[("one",x)]) (λK hK=>by exact hK) (λK hK=>by exact hK) (Ws ..) (by simp) ?_;rw[Wq];exact h⟩)
def zaR  (Zp:Xd K mg)(Ke:Dm K Zp.C q3 Uq Pn SW):Fm P w K mg base 1 Zp.C q3 SW (IV Zp.C):=
 Ke.mk' (ZE (k:=0) Ke.F Bi (λ_ _ _ _=>nR λ_=>nD λ_=>nD λ_=>nN:Ln (IV Zp.C) 3) λ_ _ _ _ _ _ hr=>⟨_,(Zg (Wj Zp.cl Zp.n_one (dv 0) (dv 1)) (Zh (Wj Zp.cl Zp.n_many (dv 0) (dv 2)))),λds S Q ex h=>by
  replace h:=Rx h;obtain⟨n,x,y,rfl,h⟩:=h;obtain⟨T,rfl,rfl,h⟩:=h;refine Wm (v:=x) (S1:=T++[Ob.ins Zp.C []]) (S2:=T++[Ob.ins Zp.C []]) (n:=T.length) (fs:=[]) (λK hK=>by exact hK) (λK hK=>by exact hK) (Ws ..) (by simp) ?_;rw[Wq];refine Wm (v:=y) (S1:=T++[Ob.ins Zp.C [("one",x)]]) (S2:=T++[Ob.ins Zp.C [("one",x)]]) (n:=T.length) (fs:=[("one",x)]) (λK hK=>by exact hK) (λK hK=>by exact hK) (Ws ..) (by simp) ?_;rw[Wq];exact h⟩)
def CI  (Zp:Xd K mg)(Zm:YY K mg)(Zl:Y7 K mg)(Zk:Y8 K mg)(Zu:Xc K mg)(Zt:Xh K mg)(Pk:Df K mg q96 Ng UD)(Tw:Fm P w K mg base 1 Zp.C q3 SW (IV Zp.C))(Tv:Fm P w K mg base 1 Zm.C q3 QO (Im Zm.C))(Ta:Fm P w K mg base 1 Zl.C q3 RF (JZ Zl.C))(TZ:Fm P w K mg base 1 Zk.C q3 So (JA Zk.C))(UE:Fm P w K mg base 1 Zu.C q3 RX (Js Zu.C))(TR:Fm P w K mg base 1 Zt.C q3 Ri (Ji Zt.C)):Fk P w K mg base 3 q96 UD (NF Zt.C Zu.C Zk.C Zl.C Zm.C Zp.C):=
 Pk.mk' (ZE (k:=2) Pk.F zdW (λ_ _ _ _=>nD λ_=>nN:Ln (NF Zt.C Zu.C Zk.C Zl.C Zm.C Zp.C) 1) λ_ _ _ _ _ _ hr=>⟨_,(Zg (ZQ (ZP (ZV hr) (Zi (dv 0) Zd) Z4 (ZH _)) (Zh (Zv (Tj ⟨Zt.makes,TR.m.at_,TR.m.fn,Zt.kp⟩ TR.ok (hr.mono (by decide)) rfl Zt.m TR.b T9 (Za (Zi (dv 0) Zd) (Za (Zi (dv 0) Zd) Ze))))) ZS) (Zg (ZQ (ZP (ZV hr) (Zi (dv 0) Zd) Z4 (ZH _)) (Zh (Zv (Tj ⟨Zu.makes,UE.m.at_,UE.m.fn,Zu.kp⟩ UE.ok (hr.mono (by decide)) rfl Zu.m UE.b T9 (Za (Zi (dv 0) Zd) Ze)))) ZS) (Zg (ZQ (ZP (ZV hr) (Zi (dv 0) Zd) Z4 (ZH _)) (Zh (Zv (Tj ⟨Zk.makes,TZ.m.at_,TZ.m.fn,Zk.kp⟩ TZ.ok (hr.mono (by decide)) rfl Zk.m TZ.b T9 (Za (Zi (dv 0) Zd) (Za (Zi (dv 0) Zd) Ze))))) ZS) (Zg (ZQ (ZP (ZV hr) (Zi (dv 0) Zd) Z4 (ZH _)) (Zh (Zv (Tj ⟨Zl.makes,Ta.m.at_,Ta.m.fn,Zl.kp⟩ Ta.ok (hr.mono (by decide)) rfl Zl.m Ta.b T9 (Za (Zi (dv 0) Zd) (Za (Zi (dv 0) Zd) Ze))))) ZS) (Zg (ZQ (ZP (ZV hr) (Zi (dv 0) Zd) Z4 (ZH _)) (Zh (Zv (Tj ⟨Zm.makes,Tv.m.at_,Tv.m.fn,Zm.kp⟩ Tv.ok (hr.mono (by decide)) rfl Zm.m Tv.b T9 (Za (Zi (dv 0) Zd) (Za (Zi (dv 0) Zd) Ze))))) ZS) (Zh (Zv (Tj ⟨Zp.makes,Tw.m.at_,Tw.m.fn,Zp.kp⟩ Tw.ok (hr.mono (by decide)) rfl Zp.m Tw.b T9 (Za (Zi (dv 0) Zd) (Za (Zi (dv 0) Zd) Ze)))))))))),λds S Q ex h=>by
  replace h:=eD h;obtain⟨_,rfl,h⟩:=h;obtain⟨v,rfl,h⟩:=h;cases v<;>exact⟨S,rfl,rfl,rfl,h⟩⟩)
def EO  (Zp:Xd K mg)(Zm:YY K mg)(Zl:Y7 K mg)(Zk:Y8 K mg)(Zu:Xc K mg)(Zt:Xh K mg)(O0:Df K mg q47 Rq Sj)(WX:Fk P w K mg base 2 q42 VO SF)(HF:Fm P w K mg base 3 Zp.C q6 RD (Np Zt.C Zu.C Zk.C Zl.C Zm.C Zp.C))(KP:Fm P w K mg base 3 Zm.C q6 SE (MD Zt.C Zu.C Zk.C Zl.C Zm.C Zp.C))(Ig:Fm P w K mg base 2 Zl.C q6 Rn (Nh Zt.C Zu.C Zk.C Zl.C Zm.C Zp.C))(IG:Fm P w K mg base 2 Zk.C q6 SM (Oj Zt.C Zu.C Zk.C Zl.C Zm.C Zp.C))(Ip:Fm P w K mg base 1 Zu.C q6 QK (Pq Zt.C Zu.C Zk.C Zl.C Zm.C Zp.C))(J6:Fm P w K mg base 3 Zt.C q6 Rg (NA Zt.C Zu.C Zk.C Zl.C Zm.C Zp.C))(UI:Fk P w K mg base 3 q96 UD (NF Zt.C Zu.C Zk.C Zl.C Zm.C Zp.C))(ZO:mg q98=none)(ZF:mg "len"=none):Fk P w K mg base 4 q47 Sj J8:=
 O0.mk' (X6 (ZE (k:=3) O0.F zbk (X5 (λ_ _ _ _=>nR λ_=>nR λ_=>nI λ_=>nR λ_=>nN:Ln (J8) 4)) λ_ _ _ _ _ _ hr=>⟨_,(Zg (ZQ (ZP LK (ZL (ZM Z1) rfl ZF Boot.«len» (Za (dv 3) Ze)) (ZL (ZM Z1) rfl ZF Boot.«len» (Za (dv 0) Ze)) (ZH _)) (Zh (Zv W9)) ZS) (Zh (Zv (Zj WX hr (Za (I0 (x:="number") (N:=["spans","box","grid","nodes"]) (caps:=[3,1,2,0]) (ar:=Zo Rq) rfl rfl csc rfl (by decide) rfl ZO (Za (ZL (ZM Z1) rfl ZF Boot.«len» (Za (dv 3) Ze)) Ze) (λ_ _ _ _ _ _=>YE) (λ_ _ _ _ _ _=>(GB (Zj UI hr (Za (Zw (dv 4) (dv 0)) Ze)) (X3 Zt.cl J6 (hr.mono (by decide)) (X3 Zu.cl Ip (hr.mono (by decide)) (X3 Zk.cl IG (hr.mono (by decide)) (X3 Zl.cl Ig (hr.mono (by decide)) (X3 Zm.cl KP (hr.mono (by decide)) (X3 Zp.cl HF (hr.mono (by decide)) G3)))))) UH (Za (dv 1) (Za (dv 2) (Za (dv 3) Ze)))))) (Za (dv 3) Ze)))))),λds S Q ex h=>by
  obtain⟨Q0,ex0,rfl,rfl,h⟩:=h;replace h:=F8 h;obtain⟨a,b,g,c,rfl,h⟩:=h;obtain⟨ns,ws,bs,vs,ha,hb,hc,net,hl,h9,sp,hg,h⟩:=h;have disp:∀v:Nd,∃C fs sd,v.ob Zt.C Zu.C Zk.C Zl.C Zm.C Zp.C=.ins C fs/\(C,sd)∈[(Zt.C,NA Zt.C Zu.C Zk.C Zl.C Zm.C Zp.C),(Zu.C,Pq Zt.C Zu.C Zk.C Zl.C Zm.C Zp.C),(Zk.C,Oj Zt.C Zu.C Zk.C Zl.C Zm.C Zp.C),(Zl.C,Nh Zt.C Zu.C Zk.C Zl.C Zm.C Zp.C),(Zm.C,MD Zt.C Zu.C Zk.C Zl.C Zm.C Zp.C),(Zp.C,Np Zt.C Zu.C Zk.C Zl.C Zm.C Zp.C)]/\fs.lookup ("forth":Str)=none/\∀(n w p:Nat)(g:Int)(S:Sto)(Q:DK)(ex:Addr->Sto->Prop)(vs bs:LI),S[n]?=some (v.ob Zt.C Zu.C Zk.C Zl.C Zm.C Zp.C)->S[w]?=some (.lst (vs.map frD))->S[p]?=some (.lst (bs.map frD))->v.ok vs.length bs.length->Spn 1400 vs->(1<=g/\g<=1000000)->Q (frD (v.fw vs bs g)) S->sd [.ref n,.ref w,.ref p,.int g] S Q ex:=by
   intro v;cases v with
   | number x y=>exact⟨_,_,_,rfl,(.head _),rfl,λn w p g S Q ex vs bs a1 a2 a3 a4 a5 a6 q=>⟨x,y,vs,bs,a1,a2,a3,a4,a5,a6,q⟩⟩
   | unknown k=>exact⟨_,_,_,rfl,(.tail _ (.head _)),rfl,λn w p g S Q ex vs bs a1 a2 a3 a4 a5 a6 q=>⟨k,vs,bs,a1,a2,a3,a4,a5,a6,q⟩⟩
   | plus i j=>exact⟨_,_,_,rfl,(.tail _ (.tail _ (.head _))),rfl,λn w p g S Q ex vs bs a1 a2 a3 a4 a5 a6 q=>⟨i,j,vs,bs,a1,a2,a3,a4,a5,a6,q⟩⟩
   | minus i j=>exact⟨_,_,_,rfl,(.tail _ (.tail _ (.tail _ (.head _)))),rfl,λn w p g S Q ex vs bs a1 a2 a3 a4 a5 a6 q=>⟨i,j,vs,bs,a1,a2,a3,a4,a5,a6,q⟩⟩
   | times i j=>exact⟨_,_,_,rfl,(.tail _ (.tail _ (.tail _ (.tail _ (.head _))))),rfl,λn w p g S Q ex vs bs a1 a2 a3 a4 a5 a6 q=>⟨i,j,vs,bs,a1,a2,a3,a4,a5,a6,q⟩⟩
   | power i m=>exact⟨_,_,_,rfl,(.tail _ (.tail _ (.tail _ (.tail _ (.tail _ (.head _)))))),rfl,λn w p g S Q ex vs bs a1 a2 a3 a4 a5 a6 q=>⟨i,m,vs,bs,a1,a2,a3,a4,a5,a6,q⟩⟩
  refine Z9 hc ?_;refine Z9 ha ?_;rw[zA,zA];refine ifD (λe=>absurd e (by lia)) (λ_=>?_);refine FF (S1:=S) (j:=((vs.length:Nat):Int)) (λk ys S2=>Pre S S2/\S2[S.length]?=some (.lst ys)/\ys.length=k/\ys=((ns.take k).map λv=>v.fw vs bs g).map frD) (λK hK=>by
   refine Z9 hc ?_;rw[zA];exact hK) ⟨by lia,by lia⟩ (λk ys S2 w=>⟨w.2.1,w.2.2.1⟩) ⟨Pre.refl.push,Zz _ _,rfl,by simp⟩ (λk ys S2 K hk w hK=>?_) (λys S2 w=>?_)
  ·obtain⟨w1,w2,w3,w4⟩:=w;have hk':k<ns.length:=by lia
   have hv:=zB hk';generalize ns[k]=v at hv;obtain⟨C,fs,sd,eo,hm,hf2,go⟩:=disp v;have N1:=Zz S2 (v.ob Zt.C Zu.C Zk.C Zl.C Zm.C Zp.C)
   have okv:v.ok vs.length bs.length:=FI (by lia) (net.ok k v hv).1;refine GS (n:=S2.length) (C:=C) (sd:=sd) (fs:=fs) (S1:=S2++[v.ob Zt.C Zu.C Zk.C Zl.C Zm.C Zp.C]) (λK hK=>by
    refine Zq (o:=.lst (ns.map Nd.d)) (w1 _ _ ha) (Kl hv) ?_;exact⟨v,rfl,hK⟩) (by rw[<- eo];exact N1) hm hf2 ?_
   refine go _ _ _ _ _ _ _ vs bs N1 (Zn (w1 _ _ hc)) (Zn (w1 _ _ hb)) okv sp hg ?_;have lt:=ZZ w2;refine hK _ _ (Zn w2) ⟨QT (FY w1 _) (zC _),Yp (Zn w2),by simp[w3],?_⟩;rw[w4,Wf hv,yD,yD];rfl
  ·obtain⟨w1,w2,w3,w4⟩:=w;rw[zI] at w3 w4;subst w4;refine⟨(ns.take vs.length).map λv=>v.fw vs bs g,vs,w2,w1 _ _ hc,by rw[zA,yP];lia,?_⟩;exact⟨w1,.bl _,h⟩⟩))
def C2  (O3:Df K mg q31 OG SK)(HD:Fk P w K mg base 4 q47 Sj J8)(ZF:mg "len"=none):Fk P w K mg base 5 q31 SK JM:=
 O3.mk' (ZE (k:=4) O3.F zbL (λ_ _ _ _=>nR λ_=>nR λ_=>nI λ_=>nR λ_=>nN:Ln (JM) 4) λ_ _ _ _ _ _ hr=>⟨_,(Zh (Zv (Vg (YQ (ZV hr) (ZL (ZM Z1) rfl ZF Boot.«len» (Za (dv 3) Ze)) (ZL (ZM Z1) rfl ZF Boot.«len» (Za (dv 0) Ze)) (ZH _)) (Vd (Zj HD hr (Za (dv 0) (Za (dv 1) (Za (dv 2) (Za (dv 3) Ze))))))))),λds S Q ex h=>by
  replace h:=F8 h;obtain⟨nd,bx,g,m,rfl,h⟩:=h;obtain⟨ns,ws,bs,vs,h1,h2,h3,net,l9,sp,hg,hl,h⟩:=h;refine Z9 h3 ?_;refine Z9 h1 ?_;rw[zA,zA,hl];refine Eb ?_;refine Xn ?_;rw[hl] at h;exact⟨ns,ws,bs,vs,h1,h2,h3,net,by lia,l9,sp,hg,by rw[hl];exact h⟩⟩)
def AM  (O1:Df K mg "sure" Nt Rk):Fk P w K mg base 1 "sure" Rk Jy:=
 O1.mk' (ZE (k:=0) O1.F zbP (λ_ _ _ _=>nS λ_=>nP λ_ _=>nN:Ln (Jy) 2) λ_ _ _ _ _ _ hr=>⟨_,(Zg (ZQ (ZP (ZV hr) (dv 0) Z4 (ZH _)) (Zh (Zv (Vg (YQ (ZV hr) (Zi (dv 1) Zd) Zd (ZH _)) (Vd (YQ (ZV hr) (Zi (dv 1) Zd) Zd (ZH _)))))) ZS) (Zh (Zv (YQ do_ge (Zi (dv 1) Zd) Zd (ZH _))))),λds S Q ex h=>by
  replace h:=eSP h;obtain⟨_,_,_,rfl,h⟩:=h;rcases h with ⟨rfl,h⟩|⟨rfl,h⟩
  ·refine ifD (λc=>?_) (λc=>?_)
   ·rw[decide_eq_true c,Bool.true_and] at h;exact h
   ·rw[decide_eq_false c,Bool.false_and] at h;exact h
  ·exact h⟩)
def AU  (Mw:Df K mg q21 SJ RI)(Kx:Fk P w K mg base 1 "sure" Rk Jy)(YM:mg "all"=none):Fk P w K mg base 2 q21 RI Ih:=
 Mw.mk' (X6 (ZE (k:=1) Mw.F AX (X5 (λ_ _ _ _=>nR λ_=>nR λ_=>nN:Ln (Ih) 2)) λ_ _ _ _ _ _ hr=>⟨_,(Zh (Zv (ZL (ZM (U4 rfl)) rfl YM Boot.«all» (Za (Wk (x:="row") (N:=["spans"]) (caps:=[1]) (ar:=Zo SJ) rfl rfl csc rfl (by decide) (dv 0) (λ_ _ _ _ _ _=>GL (ZP (ZV hr) (Zi (dv 0) Zd) Z4 (ZH _))) (λ_ _ _ _ _ _=>(Zj Kx hr (Za (Zi (dv 0) Zd) (Za (Zw (dv 1) (Zi (dv 0) Zd)) Ze))))) Ze)))),λds S Q ex h=>by
  obtain⟨Q0,ex0,rfl,rfl,h⟩:=h;replace h:=eRR h;obtain⟨r,s,rfl,h⟩:=h;obtain⟨rows,vs,hr,hs,l9,hi,h⟩:=h;refine Fn (n:=r) (S1:=S) (o:=.lst (rows.map rwD)) (λd=>match d with|.tup [.str w,.int at']=>if w="least" then some (.bl (decide (0<=(gt vs at').1))) else none|_=>none) (λK hK=>by exact hK) hr (by show (rows.map rwD).length<=1000;rw[zA];lia) (λx hx S2 K pr hK=>?_) (λx hx y hy S2 K pr hK=>?_) ?_
  ·have hx':x∈rows.map rwD:=hx;obtain⟨⟨b,n⟩,_,rfl⟩:=zN.mp hx';cases b
   ·exact hK
   ·exact hK
  ·have hx':x∈rows.map rwD:=hx;obtain⟨⟨b,n⟩,hm,rfl⟩:=zN.mp hx';cases b
   ·cases hy;refine Zq (o:=.lst (vs.map frD)) (pr _ _ hs) (Z6 (vs:=vs) (i:=(n:Int)) ⟨by lia,by have:=hi _ hm;dsimp only at this;lia⟩) ?_;exact .inr ⟨rfl,hK⟩
   ·exact absurd hy (by
     simp[rwD];intro z;exact absurd z (by decide))
  ·refine V2 (n:=S.length) (o:=.lst _) (Zz _ _) (II vs rows) ?_;rw[<- Kn vs rows] at h;exact⟨Pre.refl.push,.bl _,h⟩⟩))
def Bf  (L4:Df K mg q95 P9 Rm):Fk P w K mg base 1 q95 Rm Hn:=
 L4.mk' (ZE (k:=0) L4.F AI (λ_ _ _ _=>nP λ_ _=>nN:Ln (Hn) 1) λ_ _ _ _ _ _ hr=>⟨_,(Zh (Zv (Zf Yj (Zf ZW (Zi (dv 0) Zd) (Zi (dv 0) Zd)) Zd))),λds S Q ex h=>by
  replace h:=eP h;obtain⟨_,_,rfl,h⟩:=h;exact h⟩)
def Dr  (PL:Df K mg XS RU QI)(KO:Fk P w K mg base 1 q95 Rm Hn):Fk P w K mg base 2 XS QI IX:=
 PL.mk' (ZE (k:=1) PL.F zbt (λ_ _ _ _=>nR λ_=>nN:Ln (IX) 1) λ_ _ _ _ _ _ hr=>⟨_,(Zh (Zv (Wk (x:="span") (N:=[]) (caps:=[]) (ar:=Zo RU) rfl rfl csc rfl (by decide) (dv 0) (λ_ _ _ _ _ _=>YE) (λ_ _ _ _ _ _=>(Zj KO hr (Za (dv 0) Ze)))))),λds S Q ex h=>by
  replace h:=eR h;obtain⟨s,rfl,h⟩:=h;obtain⟨vs,hs,l9,h⟩:=h;refine Xz (n:=s) (S1:=S) (o:=.lst (vs.map frD)) (λd=>match d with|.tup [.int a,.int b]=>.int ((a+b)/2)|_=>.non) (λK hK=>by exact hK) hs (by show (vs.map frD).length<=1000;rw[zA];lia) (λx hx S2 K pr hK=>?_) ?_
  ·have hx':x∈vs.map frD:=hx;obtain⟨p,_,rfl⟩:=zN.mp hx';exact hK
  ·have e2:(Zs (.lst (vs.map frD))).map (λd=>match d with|.tup [.int a,.int b]=>.int ((a+b)/2)|_=>.non)=vs.map λp=>D.int (mid p):=by
    show (vs.map frD).map _=_;rw[zZ];rfl
   rw[e2];exact h⟩)
def AE  (MB:Df K mg q19 RE U1)(IW:Fk P w K mg base 2 XS QI IX):Fk P w K mg base 3 q19 U1 OX:=
 MB.mk' (ZE (k:=2) MB.F zcT (λ_ _ _ _=>nR λ_=>nN:Ln (OX) 1) λ_ _ _ _ _ _ hr=>⟨_,(Zh (Zv (Wk (x:="place") (N:=[]) (caps:=[]) (ar:=Zo RE) rfl rfl csc rfl (by decide) (Zj IW hr (Za (dv 0) Ze)) (λ_ _ _ _ _ _=>YE) (λ_ _ _ _ _ _=>(ZT (Za (dv 0) (Za (dv 0) Ze))))))),λds S Q ex h=>by
  replace h:=eR h;obtain⟨b,rfl,h⟩:=h;obtain⟨vs,hb,l9,h⟩:=h;refine Xz (n:=S.length) (S1:=S++[.lst (vs.map λp=>.int (mid p))]) (o:=.lst (vs.map λp=>.int (mid p))) (λd=>.tup [d,d]) (λK hK=>⟨vs,hb,l9,hK⟩) (Zz _ _) (by show (vs.map _).length<=1000;rw[zA];lia) (λx hx S2 K pr hK=>by exact hK) ?_;refine h _ _ Pre.refl.push.push (by simp) ?_;have e:(Zs (.lst (vs.map λp=>D.int (mid p)))).map (λd=>D.tup [d,d])=(vs.map Z5).map frD:=by
   show (vs.map λp=>D.int (mid p)).map _=_;rw[zZ];rw[zZ];rfl
  rw[e];exact Zz _ _⟩)
def Bt  (Zt:Xh K mg)(Zu:Xc K mg)(Zk:Y8 K mg)(Zl:Y7 K mg)(Zm:YY K mg)(Zp:Xd K mg)(MA:Dm K Zt.C q8 Uw Lo Pa):Fm P w K mg base 1 Zt.C q8 Pa (Md Zt.C Zu.C Zk.C Zl.C Zm.C Zp.C):=
 MA.mk' (ZE (k:=0) MA.F Az (λ_ _ _ _=>nR λ_=>nR λ_=>nR λ_=>nI λ_=>nI λ_=>nN:Ln (Md Zt.C Zu.C Zk.C Zl.C Zm.C Zp.C) 5) λ_ _ _ _ _ _ hr=>⟨_,(Zh (Zv (Zf zdS (Ye (Za (ZT (Za Zd (Za Zd Ze))) Ze)) (dv 3)))),λds S Q ex h=>by
  replace h:=UW h;obtain⟨n,w,s,qi,g,rfl,h⟩:=h;obtain⟨x,y,q,vs,sl,ds,hn,hw,hs,rows,sz,⟨rfl,hq⟩,ok,lv,s1,hg,h⟩:=h;have sg:Sz 21 g:=Sz.of 1000000 (by lia)
  have bC:∀ys:List D,ys=(Yz vs sl g q (Nd.number x y)).map frD->Q (.ref (S++[Ob.lst [frD (0,0)]]).length) ((S++[.lst [frD (0,0)]])++[.lst ys]):=λys e=>by
   subst e;exact h _ _ Pre.refl.push.push (by simp) (Zz _ _)
  refine zdV (n:=S.length) (k:=((q:Nat):Int)) (xs:=[frD (0,0)]) (Zz _ _) ⟨by lia,by lia⟩ (by simp;lia) ?_;refine bC _ ?_;rw[zI,zaZ];unfold Yz;rw[zZ];rfl⟩)
def zdO  (Zu:Xc K mg)(Zt:Xh K mg)(Zk:Y8 K mg)(Zl:Y7 K mg)(Zm:YY K mg)(Zp:Xd K mg)(Oq:Dm K Zu.C q8 VR Qo Rc)(ZO:mg q98=none):Fm P w K mg base 1 Zu.C q8 Rc (Ni Zt.C Zu.C Zk.C Zl.C Zm.C Zp.C):=
 Oq.mk' (ZE (k:=0) Oq.F zcw (λ_ _ _ _=>nR λ_=>nR λ_=>nR λ_=>nI λ_=>nI λ_=>nN:Ln (Ni Zt.C Zu.C Zk.C Zl.C Zm.C Zp.C) 5) λ_ _ _ _ _ _ hr=>⟨_,(Zh (Zv (I0 (x:="k") (N:=["grid","self"]) (caps:=[4,0]) (ar:=Zo Qo) rfl rfl csc rfl (by decide) rfl ZO (Za (dv 3) Ze) (λ_ _ _ _ _ _=>YE) (λ_ _ _ _ _ _=>(IM (ZP (ZV hr) (dv 0) (Ym Zu.cl Zu.n_place (dv 2)) (ZH _)) (ZT (Za (dv 1) (Za (dv 1) Ze))) (ZT (Za Zd (Za Zd Ze)))))))),λds S Q ex h=>by
  replace h:=UW h;obtain⟨n,w,s,qi,g,rfl,h⟩:=h;obtain⟨k,q,vs,sl,ds,hn,hw,hs,rows,sz,⟨rfl,hq⟩,ok,lv,s1,hg,h⟩:=h;have sg:Sz 21 g:=Sz.of 1000000 (by lia)
  have bC:∀ys:List D,ys=(Yz vs sl g q (Nd.unknown k)).map frD->Q (.ref S.length) (S++[.lst ys]):=λys e=>by
   subst e;exact h _ _ Pre.refl.push (by simp) (Zz _ _)
  refine Kz (j:=((q:Nat):Int)) (S1:=S) (λl=>frD (if (l:Int)=k then (g,g) else (0,0))) (λK hK=>by exact hK) ⟨by lia,by lia⟩ (λl hl S2 K pr hK=>?_) ?_
  ·refine Yn (n:=n) (λK hK=>by exact hK) (pr _ _ hn) rfl ?_;refine ifD (λe=>?_) (λe=>?_)
   ·rw[if_pos e] at hK;exact hK
   ·rw[if_neg e] at hK;exact hK
  ·refine bC _ ?_;rw[zI];unfold Yz;rw[zZ];rfl⟩)
def zcR  (Zk:Y8 K mg)(Oa:Dm K Zk.C q4 q82 Mn Rf)(Xo:Fk P w K mg base 1 q22 Vc VV):Fm P w K mg base 2 Zk.C q4 Rf (IZ Zk.C):=
 Oa.mk' (ZE (k:=1) Oa.F zcG (λ_ _ _ _=>nR λ_=>nD λ_=>nD λ_=>nP λ_ _=>nP λ_ _=>nI λ_=>nN:Ln (IZ Zk.C) 6) λ_ _ _ _ _ _ hr=>⟨_,(Zh (Zv (Zj Xo hr (Za (dv 3) (Za (dv 4) Ze))))),λds S Q ex h=>by
  replace h:=Ey h;obtain⟨_,_,_,_,_,_,_,_,rfl,h⟩:=h;exact h⟩)
def zbN  (Zk:Y8 K mg)(Zt:Xh K mg)(Zu:Xc K mg)(Zl:Y7 K mg)(Zm:YY K mg)(Zp:Xd K mg)(NP:Dm K Zk.C q8 q43 Q5 Sr)(SG:Fm P w K mg base 2 Zk.C q4 Rf (IZ Zk.C))(Yv:mg "zip"=none):Fm P w K mg base 3 Zk.C q8 Sr (MP Zt.C Zu.C Zk.C Zl.C Zm.C Zp.C):=
 NP.mk' (ZE (k:=2) NP.F HG (λ_ _ _ _=>nR λ_=>nR λ_=>nR λ_=>nI λ_=>nI λ_=>nN:Ln (MP Zt.C Zu.C Zk.C Zl.C Zm.C Zp.C) 5) λ_ _ _ _ _ _ hr=>⟨_,(Zg (Wu (i:=5) HG.nd rfl (Or.inr rfl) (Zw (dv 1) (Ym Zk.cl Zk.n_one (dv 0)))) (Zg (Wu (i:=6) HG.nd rfl (Or.inr rfl) (Zw (dv 1) (Ym Zk.cl Zk.n_other (dv 0)))) (Zh (Zv (TF (x1:="a") (x2:="b") (N:=["x","y","grid","self"]) (caps:=[5,6,4,0]) (ar:=Zo Q5) rfl rfl Vn rfl rfl rfl (by decide) rfl Yv Boot.«zip» (Za (Zw (dv 2) (Ym Zk.cl Zk.n_one (dv 0))) (Za (Zw (dv 2) (Ym Zk.cl Zk.n_other (dv 0))) Ze)) (λ_ _ _ _ _ _=>(Hx (C:=Zk.C) (dv 5) Zk.cl SG.m SG.ok (hr.mono (by decide)) SG.b UH (Za (dv 2) (Za (dv 3) (Za (dv 0) (Za (dv 1) (Za (dv 4) Ze)))))))))))),λds S Q ex h=>by
  replace h:=UW h;obtain⟨n,w,s,qi,g,rfl,h⟩:=h;obtain⟨i,j,q,vs,sl,ds,hn,hw,hs,rows,sz,⟨rfl,hq⟩,ok,lv,s1,hg,h⟩:=h;have sg:Sz 21 g:=Sz.of 1000000 (by lia)
  have bC:∀ys:List D,ys=(Yz vs sl g q (Nd.plus i j)).map frD->Q (.ref S.length) (S++[.lst ys]):=λys e=>by
   subst e;exact h _ _ Pre.refl.push (by simp) (Zz _ _)
  refine Yn (n:=n) (λK hK=>by exact hK) hn rfl ?_;refine Zq (o:=.lst (vs.map frD)) hw (Z6 (i:=i) ⟨ok.1.1,by have:=ok.1.2;lia⟩) ?_;refine Yn (n:=n) (λK hK=>by exact hK) hn rfl ?_;refine Zq (o:=.lst (vs.map frD)) hw (Z6 (i:=j) ⟨ok.2.1,by have:=ok.2.2;lia⟩) ?_;obtain⟨a1,ea,_,ha⟩:=rows.at ok.1;obtain⟨a2,eb,_,hb⟩:=rows.at ok.2;obtain⟨la,za⟩:=sz i ok.1;obtain⟨lb,zb⟩:=sz j ok.2;have ci:=s1.at (i:=i) ⟨ok.1.1,by have:=ok.1.2;lia⟩
  have cj:=s1.at (i:=j) ⟨ok.2.1,by have:=ok.2.2;lia⟩;refine Sh (n:=a1) (n':=a2) (S1:=S) (xs:=(sl.getD i.toNat []).map frD) (ys:=(sl.getD j.toNat []).map frD) (λx y=>match x,y with|.tup [.int a,.int b],.tup [.int c,.int d]=>.tup [.int (a+c),.int (b+d)]|_,_=>.non) (λK hK=>by
   refine Yn (n:=n) (λK hK=>by exact hK) hn rfl ?_;refine Zq (o:=.lst ds) hs ea ?_;refine Yn (n:=n) (λK hK=>by exact hK) hn rfl ?_;exact Zq (o:=.lst ds) hs eb hK) ha hb (by rw[zA,la];lia) (λk x y hx hy S2 K pr hK=>?_) ?_
  ·rw[zF] at hx hy;obtain⟨p,hp,rfl⟩:=zS.mp hx;obtain⟨r,hr,rfl⟩:=zS.mp hy;have kq:k<q:=by
    have:=(zD.mp hp).1;lia
   have e1:gs sl i k=p:=by
    unfold gs;rw[zK,hp];rfl
   have e2:gs sl j k=r:=by
    unfold gs;rw[zK,hr];rfl
   have z1:=za k kq
   have z2:=zb k kq;rw[e1] at z1;rw[e2] at z2;refine JG (n:=n) (fs:=[("one",.int i),("other",.int j)]) (λK hK=>by exact hK) (pr _ _ hn) rfl ?_;exact hK
  ·refine bC _ ?_;rw[List.zipWith_map];unfold Yz;rw[zZ];rw[Iu _ _ _ la lb];rfl⟩)
def EZ  (Zl:Y7 K mg)(Og:Dm K Zl.C q4 q67 Kh Qc)(XI:Fk P w K mg base 1 q17 Vs UL):Fm P w K mg base 2 Zl.C q4 Qc (IY Zl.C):=
 Og.mk' (ZE (k:=1) Og.F zce (λ_ _ _ _=>nR λ_=>nD λ_=>nD λ_=>nP λ_ _=>nP λ_ _=>nI λ_=>nN:Ln (IY Zl.C) 6) λ_ _ _ _ _ _ hr=>⟨_,(Zh (Zv (Zj XI hr (Za (dv 3) (Za (dv 4) Ze))))),λds S Q ex h=>by
  replace h:=Ey h;obtain⟨_,_,_,_,_,_,_,_,rfl,h⟩:=h;exact h⟩)
def zbC  (Zl:Y7 K mg)(Zt:Xh K mg)(Zu:Xc K mg)(Zk:Y8 K mg)(Zm:YY K mg)(Zp:Xd K mg)(Lj:Dm K Zl.C q8 q43 Qm Qd)(Qs:Fm P w K mg base 2 Zl.C q4 Qc (IY Zl.C))(Yv:mg "zip"=none):Fm P w K mg base 3 Zl.C q8 Qd (Lq Zt.C Zu.C Zk.C Zl.C Zm.C Zp.C):=
 Lj.mk' (ZE (k:=2) Lj.F Jd (λ_ _ _ _=>nR λ_=>nR λ_=>nR λ_=>nI λ_=>nI λ_=>nN:Ln (Lq Zt.C Zu.C Zk.C Zl.C Zm.C Zp.C) 5) λ_ _ _ _ _ _ hr=>⟨_,(Zg (Wu (i:=5) Jd.nd rfl (Or.inr rfl) (Zw (dv 1) (Ym Zl.cl Zl.n_one (dv 0)))) (Zg (Wu (i:=6) Jd.nd rfl (Or.inr rfl) (Zw (dv 1) (Ym Zl.cl Zl.n_other (dv 0)))) (Zh (Zv (TF (x1:="a") (x2:="b") (N:=["x","y","grid","self"]) (caps:=[5,6,4,0]) (ar:=Zo Qm) rfl rfl Vn rfl rfl rfl (by decide) rfl Yv Boot.«zip» (Za (Zw (dv 2) (Ym Zl.cl Zl.n_one (dv 0))) (Za (Zw (dv 2) (Ym Zl.cl Zl.n_other (dv 0))) Ze)) (λ_ _ _ _ _ _=>(Hx (C:=Zl.C) (dv 5) Zl.cl Qs.m Qs.ok (hr.mono (by decide)) Qs.b UH (Za (dv 2) (Za (dv 3) (Za (dv 0) (Za (dv 1) (Za (dv 4) Ze)))))))))))),λds S Q ex h=>by
  replace h:=UW h;obtain⟨n,w,s,qi,g,rfl,h⟩:=h;obtain⟨i,j,q,vs,sl,ds,hn,hw,hs,rows,sz,⟨rfl,hq⟩,ok,lv,s1,hg,h⟩:=h;have sg:Sz 21 g:=Sz.of 1000000 (by lia)
  have bC:∀ys:List D,ys=(Yz vs sl g q (Nd.minus i j)).map frD->Q (.ref S.length) (S++[.lst ys]):=λys e=>by
   subst e;exact h _ _ Pre.refl.push (by simp) (Zz _ _)
  refine Yn (n:=n) (λK hK=>by exact hK) hn rfl ?_;refine Zq (o:=.lst (vs.map frD)) hw (Z6 (i:=i) ⟨ok.1.1,by have:=ok.1.2;lia⟩) ?_;refine Yn (n:=n) (λK hK=>by exact hK) hn rfl ?_;refine Zq (o:=.lst (vs.map frD)) hw (Z6 (i:=j) ⟨ok.2.1,by have:=ok.2.2;lia⟩) ?_;obtain⟨a1,ea,_,ha⟩:=rows.at ok.1;obtain⟨a2,eb,_,hb⟩:=rows.at ok.2;obtain⟨la,za⟩:=sz i ok.1;obtain⟨lb,zb⟩:=sz j ok.2;have ci:=s1.at (i:=i) ⟨ok.1.1,by have:=ok.1.2;lia⟩
  have cj:=s1.at (i:=j) ⟨ok.2.1,by have:=ok.2.2;lia⟩;refine Sh (n:=a1) (n':=a2) (S1:=S) (xs:=(sl.getD i.toNat []).map frD) (ys:=(sl.getD j.toNat []).map frD) (λx y=>match x,y with|.tup [.int a,.int b],.tup [.int c,.int d]=>.tup [.int (a-d),.int (b-c)]|_,_=>.non) (λK hK=>by
   refine Yn (n:=n) (λK hK=>by exact hK) hn rfl ?_;refine Zq (o:=.lst ds) hs ea ?_;refine Yn (n:=n) (λK hK=>by exact hK) hn rfl ?_;exact Zq (o:=.lst ds) hs eb hK) ha hb (by rw[zA,la];lia) (λk x y hx hy S2 K pr hK=>?_) ?_
  ·rw[zF] at hx hy;obtain⟨p,hp,rfl⟩:=zS.mp hx;obtain⟨r,hr,rfl⟩:=zS.mp hy;have kq:k<q:=by
    have:=(zD.mp hp).1;lia
   have e1:gs sl i k=p:=by
    unfold gs;rw[zK,hp];rfl
   have e2:gs sl j k=r:=by
    unfold gs;rw[zK,hr];rfl
   have z1:=za k kq
   have z2:=zb k kq;rw[e1] at z1;rw[e2] at z2;refine JG (n:=n) (fs:=[("one",.int i),("other",.int j)]) (λK hK=>by exact hK) (pr _ _ hn) rfl ?_;exact hK
  ·refine bC _ ?_;rw[List.zipWith_map];unfold Yz;rw[zZ];rw[Iu _ _ _ la lb];rfl⟩)
def zaQ  (Zm:YY K mg)(MJ:Dm K Zm.C q4 q68 PJ Rh)(Xo:Fk P w K mg base 1 q22 Vc VV)(XN:Fk P w K mg base 2 q26 VJ Sg):Fm P w K mg base 3 Zm.C q4 Rh (JY Zm.C):=
 MJ.mk' (ZE (k:=2) MJ.F zdq (λ_ _ _ _=>nR λ_=>nP λ_ _=>nP λ_ _=>nP λ_ _=>nP λ_ _=>nI λ_=>nN:Ln (JY Zm.C) 6) λ_ _ _ _ _ _ hr=>⟨_,(Zh (Zv (Zj Xo hr (Za (Zj XN hr (Za (dv 1) (Za (dv 4) (Za (dv 5) Ze)))) (Za (Zj XN hr (Za (dv 2) (Za (dv 3) (Za (dv 5) Ze)))) Ze))))),λds S Q ex h=>by
  replace h:=za4 h;obtain⟨_,x1,x2,y1,y2,a,b,c,d,g,rfl,h⟩:=h;obtain⟨⟨h1,h2,h3,h4,h5,h6,h7,h8,g1,g2⟩,h⟩:=h;have sg:Sz 21 g:=Sz.of 1000000 (by lia);refine⟨⟨⟨ZN h1 h7,ZN h1 h8,ZN h2 h7,ZN h2 h8⟩,sg.fd (by lia)⟩,λmn mx hc=>?_⟩;obtain⟨rfl,rfl⟩:=hc.eq;refine⟨⟨⟨ZN h3 h5,ZN h3 h6,ZN h4 h5,ZN h4 h6⟩,sg.fd (by lia)⟩,λmn mx hc=>?_⟩;obtain⟨rfl,rfl⟩:=hc.eq;exact h⟩)
def zaW  (Zm:YY K mg)(Zt:Xh K mg)(Zu:Xc K mg)(Zk:Y8 K mg)(Zl:Y7 K mg)(Zp:Xd K mg)(M3:Dm K Zm.C q8 q43 Qt Sl)(Q7:Fm P w K mg base 3 Zm.C q4 Rh (JY Zm.C))(Yv:mg "zip"=none):Fm P w K mg base 4 Zm.C q8 Sl (LP Zt.C Zu.C Zk.C Zl.C Zm.C Zp.C):=
 M3.mk' (ZE (k:=3) M3.F K4 (λ_ _ _ _=>nR λ_=>nR λ_=>nR λ_=>nI λ_=>nI λ_=>nN:Ln (LP Zt.C Zu.C Zk.C Zl.C Zm.C Zp.C) 5) λ_ _ _ _ _ _ hr=>⟨_,(Zg (Wu (i:=5) K4.nd rfl (Or.inr rfl) (Zw (dv 1) (Ym Zm.cl Zm.n_one (dv 0)))) (Zg (Wu (i:=6) K4.nd rfl (Or.inr rfl) (Zw (dv 1) (Ym Zm.cl Zm.n_other (dv 0)))) (Zh (Zv (TF (x1:="a") (x2:="b") (N:=["x","y","grid","self"]) (caps:=[5,6,4,0]) (ar:=Zo Qt) rfl rfl Vn rfl rfl rfl (by decide) rfl Yv Boot.«zip» (Za (Zw (dv 2) (Ym Zm.cl Zm.n_one (dv 0))) (Za (Zw (dv 2) (Ym Zm.cl Zm.n_other (dv 0))) Ze)) (λ_ _ _ _ _ _=>(Hx (C:=Zm.C) (dv 5) Zm.cl Q7.m Q7.ok (hr.mono (by decide)) Q7.b UH (Za (dv 2) (Za (dv 3) (Za (dv 0) (Za (dv 1) (Za (dv 4) Ze)))))))))))),λds S Q ex h=>by
  replace h:=UW h;obtain⟨n,w,s,qi,g,rfl,h⟩:=h;obtain⟨i,j,q,vs,sl,ds,hn,hw,hs,rows,sz,⟨rfl,hq⟩,ok,lv,s1,hg,h⟩:=h;have sg:Sz 21 g:=Sz.of 1000000 (by lia)
  have bC:∀ys:List D,ys=(Yz vs sl g q (Nd.times i j)).map frD->Q (.ref S.length) (S++[.lst ys]):=λys e=>by
   subst e;exact h _ _ Pre.refl.push (by simp) (Zz _ _)
  refine Yn (n:=n) (λK hK=>by exact hK) hn rfl ?_;refine Zq (o:=.lst (vs.map frD)) hw (Z6 (i:=i) ⟨ok.1.1,by have:=ok.1.2;lia⟩) ?_;refine Yn (n:=n) (λK hK=>by exact hK) hn rfl ?_;refine Zq (o:=.lst (vs.map frD)) hw (Z6 (i:=j) ⟨ok.2.1,by have:=ok.2.2;lia⟩) ?_;obtain⟨a1,ea,_,ha⟩:=rows.at ok.1;obtain⟨a2,eb,_,hb⟩:=rows.at ok.2;obtain⟨la,za⟩:=sz i ok.1;obtain⟨lb,zb⟩:=sz j ok.2;have ci:=s1.at (i:=i) ⟨ok.1.1,by have:=ok.1.2;lia⟩
  have cj:=s1.at (i:=j) ⟨ok.2.1,by have:=ok.2.2;lia⟩;refine Sh (n:=a1) (n':=a2) (S1:=S) (xs:=(sl.getD i.toNat []).map frD) (ys:=(sl.getD j.toNat []).map frD) (λx y=>match x,y with|.tup [.int a,.int b],.tup [.int c,.int d]=>.tup [.int ((Z7 (gt vs i) (c,d) g).1+(Z7 (gt vs j) (a,b) g).1),.int ((Z7 (gt vs i) (c,d) g).2+(Z7 (gt vs j) (a,b) g).2)]|_,_=>.non) (λK hK=>by
   refine Yn (n:=n) (λK hK=>by exact hK) hn rfl ?_;refine Zq (o:=.lst ds) hs ea ?_;refine Yn (n:=n) (λK hK=>by exact hK) hn rfl ?_;exact Zq (o:=.lst ds) hs eb hK) ha hb (by rw[zA,la];lia) (λk x y hx hy S2 K pr hK=>?_) ?_
  ·rw[zF] at hx hy;obtain⟨p,hp,rfl⟩:=zS.mp hx;obtain⟨r,hr,rfl⟩:=zS.mp hy;have kq:k<q:=by
    have:=(zD.mp hp).1;lia
   have e1:gs sl i k=p:=by
    unfold gs;rw[zK,hp];rfl
   have e2:gs sl j k=r:=by
    unfold gs;rw[zK,hr];rfl
   have z1:=za k kq
   have z2:=zb k kq;rw[e1] at z1;rw[e2] at z2;refine JG (n:=n) (fs:=[("one",.int i),("other",.int j)]) (λK hK=>by exact hK) (pr _ _ hn) rfl ?_;exact⟨⟨ci.2.1.mono (by decide),ci.2.2.mono (by decide),cj.2.1.mono (by decide),cj.2.2.mono (by decide),z1.2.1.mono (by decide),z1.2.2.mono (by decide),z2.2.1.mono (by decide),z2.2.2.mono (by decide),hg.1,hg.2⟩,hK⟩
  ·refine bC _ ?_;rw[List.zipWith_map];unfold Yz;rw[zZ];rw[Iu _ _ _ la lb];rfl⟩)
def zd5  (Lv:Df K mg q35 OF RY)(YZ:mg "max"=none)(YW:mg "min"=none):Fk P w K mg base 1 q35 RY JH:=
 Lv.mk' (ZE (k:=0) Lv.F D5 (λ_ _ _ _=>nP λ_ _=>nI λ_=>nN:Ln (JH) 2) λ_ _ _ _ _ _ hr=>⟨_,(Zh (Zv (ZT (Za (ZL (UQ rfl) rfl YW Boot.«min» (Za (Zf ZR (Zi (dv 0) Zd) (dv 1)) (Za (Zf ZR (Zi (dv 0) Zd) (dv 1)) Ze))) (Za (ZL (UG rfl) rfl YZ Boot.«max» (Za (Zf ZR (Zi (dv 0) Zd) (dv 1)) (Za (Zf ZR (Zi (dv 0) Zd) (dv 1)) Ze))) Ze))))),λds S Q ex h=>by
  replace h:=ePI h;obtain⟨_,_,_,rfl,h⟩:=h;obtain⟨⟨h1,h2⟩,h⟩:=h;exact⟨h1,h2,h1,h2,h⟩⟩)
def zdJ  (Zp:Xd K mg)(Zt:Xh K mg)(Zu:Xc K mg)(Zk:Y8 K mg)(Zl:Y7 K mg)(Zm:YY K mg)(OQ:Dm K Zp.C q8 V7 RN SO)(XN:Fk P w K mg base 2 q26 VJ Sg)(Jm:Fk P w K mg base 1 q35 RY JH)(TC:Fk P w K mg base 2 q27 Sf Nr):Fm P w K mg base 3 Zp.C q8 SO (Lp Zt.C Zu.C Zk.C Zl.C Zm.C Zp.C):=
 OQ.mk' (ZE (k:=2) OQ.F K5 (λ_ _ _ _=>nR λ_=>nR λ_=>nR λ_=>nI λ_=>nI λ_=>nN:Ln (Lp Zt.C Zu.C Zk.C Zl.C Zm.C Zp.C) 5) λ_ _ _ _ _ _ hr=>⟨_,(Zg (Zy (i:=5) K5.nd (Zj TC hr (Za (Zw (dv 1) (Ym Zp.cl Zp.n_one (dv 0))) (Za (Zf YB (Ym Zp.cl Zp.n_many (dv 0)) Zd) (Za (dv 4) Ze))))) (Zg (Wu (i:=6) K5.nd rfl (Or.inr rfl) (Zj Jm hr (Za (dv 5) (Za (Ym Zp.cl Zp.n_many (dv 0)) Ze)))) (Zh (Zv (Wk (x:="a") (N:=["steep","grid"]) (caps:=[6,4]) (ar:=Zo RN) rfl rfl csc rfl (by decide) (Zw (dv 2) (Ym Zp.cl Zp.n_one (dv 0))) (λ_ _ _ _ _ _=>YE) (λ_ _ _ _ _ _=>(Zj XN hr (Za (dv 1) (Za (dv 0) (Za (dv 2) Ze)))))))))),λds S Q ex h=>by
  replace h:=UW h;obtain⟨n,w,s,qi,g,rfl,h⟩:=h;obtain⟨i,m,q,vs,sl,ds,hn,hw,hs,rows,sz,⟨rfl,hq⟩,ok,lv,s1,hg,h⟩:=h;have sg:Sz 21 g:=Sz.of 1000000 (by lia)
  have bC:∀ys:List D,ys=(Yz vs sl g q (Nd.power i m)).map frD->Q (.ref S.length) (S++[.lst ys]):=λys e=>by
   subst e;exact h _ _ Pre.refl.push (by simp) (Zz _ _)
  obtain⟨a1,ea,_,ha⟩:=rows.at ok.1;obtain⟨la,za⟩:=sz i ok.1;have ci:=s1.at (i:=i) ⟨ok.1.1,by have:=ok.1.2;lia⟩;obtain⟨ok1,m2,m6⟩:=ok;refine Yn (n:=n) (λK hK=>by exact hK) hn rfl ?_;refine Zq (o:=.lst (vs.map frD)) hw (Z6 (i:=i) ⟨ok1.1,by have:=ok1.2;lia⟩) ?_;refine Yn (n:=n) (λK hK=>by exact hK) hn rfl ?_;refine⟨⟨by lia,by lia,ci.2.1.mono (by decide),ci.2.2.mono (by decide),hg.1,sg.mono (by decide)⟩,λm' M' hP=>?_⟩;obtain⟨rfl,rfl⟩:=hP.eq (by lia);have gp:(1:Int)<=g^((m-1).toNat-1):=yL (by lia)
  have lo:=Tb gp (Io (gt vs i).1 (gt vs i).2 (m-1).toNat)
  have fl:=DF (gt vs i) (n:=m) (by lia) hg.1
  have p1:Sz 6000 ((gt vs i).1^(m-1).toNat):=(ci.2.1.pow _).mono (by lia)
  have p2:Sz 6000 ((gt vs i).2^(m-1).toNat):=(ci.2.2.pow _).mono (by lia)
  have pl:Sz 6000 (ZU (gt vs i).1 (gt vs i).2 (m-1).toNat):=by
   unfold ZU;split
   ·exact yQ (by decide)
   ·exact WK p1 p2
  have sm:Sz 10 m:=Sz.of 6 (by lia);refine Yn (n:=n) (λK hK=>by exact hK) hn rfl ?_;refine⟨⟨ZN (pl.div gp) sm,ZN (VB (Wo p1 p2) gp) sm⟩,?_⟩;have e1:(if -(-Yg (gt vs i).1 (gt vs i).2 (m-1).toNat/g^((m-1).toNat-1))*m<ZU (gt vs i).1 (gt vs i).2 (m-1).toNat/g^((m-1).toNat-1)*m then -(-Yg (gt vs i).1 (gt vs i).2 (m-1).toNat/g^((m-1).toNat-1))*m else ZU (gt vs i).1 (gt vs i).2 (m-1).toNat/g^((m-1).toNat-1)*m)=(Yq (gt vs i) m g).1:=by
   rw[if_neg (by have z:(Yq (gt vs i) m g).1<=(Yq (gt vs i) m g).2:=fl;exact Int.not_lt.mpr z)];rfl
  have e2:(if -(-Yg (gt vs i).1 (gt vs i).2 (m-1).toNat/g^((m-1).toNat-1))*m > ZU (gt vs i).1 (gt vs i).2 (m-1).toNat/g^((m-1).toNat-1)*m then -(-Yg (gt vs i).1 (gt vs i).2 (m-1).toNat/g^((m-1).toNat-1))*m else ZU (gt vs i).1 (gt vs i).2 (m-1).toNat/g^((m-1).toNat-1)*m)=(Yq (gt vs i) m g).2:=by
   split
   ·rfl
   ·rename_i c;have z:¬ (Yq (gt vs i) m g).1<(Yq (gt vs i) m g).2:=c
    have z2:(Yq (gt vs i) m g).1=(Yq (gt vs i) m g).2:=by lia
    exact z2
  rw[e1,e2];have f1:Sz 6010 (Yq (gt vs i) m g).1:=OD (e:=10) (pl.div gp) (by lia) (by lia)
  have f2:Sz 6010 (Yq (gt vs i) m g).2:=OD (e:=10) (VB (Wo p1 p2) gp) (by lia) (by lia);generalize hfc:Yq (gt vs i) m g=fc at f1 f2;refine Xz (n:=a1) (S1:=S) (o:=.lst ((sl.getD i.toNat []).map frD)) (λx=>match x with|.tup [.int a,.int b]=>frD (Z7 fc (a,b) g)|_=>.non) (λK hK=>by
   refine Yn (n:=n) (λK hK=>by exact hK) hn rfl ?_;exact Zq (o:=.lst ds) hs ea hK) ha (by show ((sl.getD i.toNat []).map frD).length<=1000;rw[zA,la];lia) (λx hx S2 K pr hK=>?_) ?_
  ·have hx':x∈(sl.getD i.toNat []).map frD:=hx;obtain⟨p,hp,rfl⟩:=zN.mp hx';obtain⟨k,hk,ek⟩:=xE.mp hp;have z1:=za k (by lia)
   have e1:gs sl i k=p:=by
    unfold gs;rw[zK,zB hk,ek];rfl
   rw[e1] at z1;refine⟨⟨⟨ZN f1 z1.2.1,ZN f1 z1.2.2,ZN f2 z1.2.1,ZN f2 z1.2.2⟩,sg.fd (by lia)⟩,λmn mx hc=>?_⟩;obtain⟨rfl,rfl⟩:=hc.eq;exact hK
  ·refine bC _ ?_;show ((sl.getD i.toNat []).map frD).map _=_;rw[zZ,DR _ _ la];unfold Yz;rw[zZ];subst hfc;rfl⟩)
def BZ  (Zp:Xd K mg)(Zm:YY K mg)(Zl:Y7 K mg)(Zk:Y8 K mg)(Zu:Xc K mg)(Zt:Xh K mg)(Lw:Df K mg q37 Rw SV)(WX:Fk P w K mg base 2 q42 VO SF)(IK:Fm P w K mg base 3 Zp.C q8 SO (Lp Zt.C Zu.C Zk.C Zl.C Zm.C Zp.C))(KW:Fm P w K mg base 4 Zm.C q8 Sl (LP Zt.C Zu.C Zk.C Zl.C Zm.C Zp.C))(J3:Fm P w K mg base 3 Zl.C q8 Qd (Lq Zt.C Zu.C Zk.C Zl.C Zm.C Zp.C))(Hu:Fm P w K mg base 3 Zk.C q8 Sr (MP Zt.C Zu.C Zk.C Zl.C Zm.C Zp.C))(K7:Fm P w K mg base 1 Zu.C q8 Rc (Ni Zt.C Zu.C Zk.C Zl.C Zm.C Zp.C))(Hr:Fm P w K mg base 1 Zt.C q8 Pa (Md Zt.C Zu.C Zk.C Zl.C Zm.C Zp.C))(UI:Fk P w K mg base 3 q96 UD (NF Zt.C Zu.C Zk.C Zl.C Zm.C Zp.C))(W0:Fk P w K mg base 1 q30 Ua Qg)(YM:mg "all"=none)(Yv:mg "zip"=none)(ZF:mg "len"=none):Fk P w K mg base 5 q37 SV JK:=
 Lw.mk' (X6 (ZE (k:=4) Lw.F FW (X5 (λ_ _ _ _=>nR λ_=>nR λ_=>nI λ_=>nR λ_=>nR λ_=>nN:Ln (JK) 5)) λ_ _ _ _ _ _ hr=>⟨_,(Zg (Wu (i:=5) FW.nd rfl (Or.inr rfl) (ZL (ZM Z1) rfl ZF Boot.«len» (Za (dv 1) Ze))) (Zg (ZQ (PDW.pt (Um (ZP (UZ hr) (ZL (ZM Z1) rfl ZF Boot.«len» (Za (dv 4) Ze)) (ZL (ZM Z1) rfl ZF Boot.«len» (Za (dv 0) Ze)) (ZH _)) (Rt (Ux (Xw (Zj W0 hr (Za (dv 4) (Za (dv 5) Ze)))))))) (Zh (Zv W9)) ZS) (Zh (Zv (ZL (ZM (U4 rfl)) rfl YM Boot.«all» (Za (TF (x1:="node") (x2:="own") (N:=["spans","slopes","many","grid"]) (caps:=[3,4,5,2]) (ar:=Zo Rw) rfl rfl Vn rfl rfl rfl (by decide) rfl Yv Boot.«zip» (Za (dv 0) (Za (dv 4) Ze)) (λ_ _ _ _ _ _=>(Zj WX hr (Za (GB (Zj UI hr (Za (dv 0) Ze)) (X3 Zt.cl Hr (hr.mono (by decide)) (X3 Zu.cl K7 (hr.mono (by decide)) (X3 Zk.cl Hu (hr.mono (by decide)) (X3 Zl.cl J3 (hr.mono (by decide)) (X3 Zm.cl KW (hr.mono (by decide)) (X3 Zp.cl IK (hr.mono (by decide)) G3)))))) UH (Za (dv 2) (Za (dv 3) (Za (dv 4) (Za (dv 5) Ze))))) (Za (dv 1) Ze))))) Ze)))))),λds S Q ex h=>by
  obtain⟨Q0,ex0,rfl,rfl,h⟩:=h;replace h:=zaG h;obtain⟨a,b,g,c,d,rfl,h⟩:=h;obtain⟨ns,ws,bs,vs,R,ds,ha,hb,hc,hd,rows,net,lv,b9,n9,r9,sp,hg,h⟩:=h;have disp:∀v:Nd,∃C fs sd,v.ob Zt.C Zu.C Zk.C Zl.C Zm.C Zp.C=.ins C fs/\(C,sd)∈[(Zt.C,Md Zt.C Zu.C Zk.C Zl.C Zm.C Zp.C),(Zu.C,Ni Zt.C Zu.C Zk.C Zl.C Zm.C Zp.C),(Zk.C,MP Zt.C Zu.C Zk.C Zl.C Zm.C Zp.C),(Zl.C,Lq Zt.C Zu.C Zk.C Zl.C Zm.C Zp.C),(Zm.C,LP Zt.C Zu.C Zk.C Zl.C Zm.C Zp.C),(Zp.C,Lp Zt.C Zu.C Zk.C Zl.C Zm.C Zp.C)]/\fs.lookup ("slope":Str)=none/\∀(n w s:Nat)(q:Nat)(g:Int)(S:Sto)(Q:DK)(ex:Addr->Sto->Prop)(vs:LI)(sl:List LI)(ds:List D),S[n]?=some (v.ob Zt.C Zu.C Zk.C Zl.C Zm.C Zp.C)->S[w]?=some (.lst (vs.map frD))->S[s]?=some (.lst ds)->Z8 S 0 ds sl->(∀i:Int,inR sl.length i->(sl.getD i.toNat []).length=q/\∀l,l<q->(gs sl i l).1<=(gs sl i l).2/\Sz 1100 (gs sl i l).1/\Sz 1100 (gs sl i l).2)->q<=900->v.ok sl.length q->sl.length<=vs.length->Spn 1000 vs->(1<=g/\g<=1000000)->(∀(T:Sto)(m:Nat),Pre S T->S.length<=m->T[m]?=some (.lst ((Yz vs sl g q v).map frD))->Q (.ref m) T)->sd [.ref n,.ref w,.ref s,.int (q:Nat),.int g] S Q ex:=by
   intro v;cases v with
   | number x y=>exact⟨_,_,_,rfl,(.head _),rfl,λn w s q g S Q ex vs sl ds a1 a2 a3 a4 a5 a6 a7 a8 a9 b1 b2=>⟨x,y,q,vs,sl,ds,a1,a2,a3,a4,a5,⟨rfl,a6⟩,a7,a8,a9,b1,b2⟩⟩
   | unknown k=>exact⟨_,_,_,rfl,(.tail _ (.head _)),rfl,λn w s q g S Q ex vs sl ds a1 a2 a3 a4 a5 a6 a7 a8 a9 b1 b2=>⟨k,q,vs,sl,ds,a1,a2,a3,a4,a5,⟨rfl,a6⟩,a7,a8,a9,b1,b2⟩⟩
   | plus i j=>exact⟨_,_,_,rfl,(.tail _ (.tail _ (.head _))),rfl,λn w s q g S Q ex vs sl ds a1 a2 a3 a4 a5 a6 a7 a8 a9 b1 b2=>⟨i,j,q,vs,sl,ds,a1,a2,a3,a4,a5,⟨rfl,a6⟩,a7,a8,a9,b1,b2⟩⟩
   | minus i j=>exact⟨_,_,_,rfl,(.tail _ (.tail _ (.tail _ (.head _)))),rfl,λn w s q g S Q ex vs sl ds a1 a2 a3 a4 a5 a6 a7 a8 a9 b1 b2=>⟨i,j,q,vs,sl,ds,a1,a2,a3,a4,a5,⟨rfl,a6⟩,a7,a8,a9,b1,b2⟩⟩
   | times i j=>exact⟨_,_,_,rfl,(.tail _ (.tail _ (.tail _ (.tail _ (.head _))))),rfl,λn w s q g S Q ex vs sl ds a1 a2 a3 a4 a5 a6 a7 a8 a9 b1 b2=>⟨i,j,q,vs,sl,ds,a1,a2,a3,a4,a5,⟨rfl,a6⟩,a7,a8,a9,b1,b2⟩⟩
   | power i m=>exact⟨_,_,_,rfl,(.tail _ (.tail _ (.tail _ (.tail _ (.tail _ (.head _)))))),rfl,λn w s q g S Q ex vs sl ds a1 a2 a3 a4 a5 a6 a7 a8 a9 b1 b2=>⟨i,m,q,vs,sl,ds,a1,a2,a3,a4,a5,⟨rfl,a6⟩,a7,a8,a9,b1,b2⟩⟩
  refine Z9 hb ?_;refine Z9 hd ?_;refine Z9 ha ?_;rw[zA,zA,rows.1];have no:Q0 (.bl false) S->Gc S Q0 (.bl false) S:=λz=>⟨Pre.refl,.bl _,z⟩
  rcases h with ⟨bad,h⟩|⟨eq,slw,h⟩
  ·refine ifN (λe=>no h) (λe=>?_);refine .inl ⟨R,ds,hd,rows,r9,?_⟩;have e2:(R.map λr=>decide (((r.length:Nat):Int)=((bs.length:Nat):Int))).all id=false:=by
    rw[Bool.eq_false_iff];intro z;rw[xS] at z;rcases bad with b1|⟨r,hr,b2⟩
    ·exact b1 (by lia)
    ·have:=z _ (zN.mpr ⟨r,hr,rfl⟩)
     have:=of_decide_eq_true this;lia
   rw[e2];refine Xn ?_;exact no h
  ·refine ifN (λe=>absurd (by rw[eq]) e) (λe=>?_);refine .inl ⟨R,ds,hd,rows,r9,?_⟩;have e2:(R.map λr=>decide (((r.length:Nat):Int)=((bs.length:Nat):Int))).all id=true:=by
    rw[xS];intro z hz;obtain⟨r,hr,rfl⟩:=zN.mp hz;obtain⟨k,hk⟩:=wC.mp hr;have:=(slw k r hk).1
    show decide (((r.length:Nat):Int)=((bs.length:Nat):Int))=true;rw[this];exact decide_eq_true rfl
   rw[e2];refine YS ?_;have w16:∀k:Nat,k<R.length->ws.getD k 0<=16:=λk hk=>by
    have z:=(net.w1 (i:=(k:Int)) ⟨by lia,by lia⟩).2
    rwa [zI] at z
   have ss:=slw.spn w16
   have ld:ds.length=ns.length:=by rw[rows.1,eq]
   refine BR (S1:=S) (n:=a) (n':=d) (xs:=ns.map Nd.d) (ys:=ds) (λk zs S2=>Pre S S2/\S2[S.length]?=some (.lst zs)/\zs.length=k/\zs=((slB vs R g bs.length ns).take k).map D.bl) (λK hK=>by exact hK) ha hd (by rw[zA];lia) (λk zs S2 w=>⟨w.1 _ _ ha,w.1 _ _ hd,w.2.1,w.2.2.1⟩) ⟨Pre.refl.push,Zz _ _,rfl,rfl⟩ (λk x y zs S2 K hx hy w hK=>?_) (λzs S2 w=>?_)
   ·obtain⟨w1,w2,w3,w4⟩:=w;rw[zF] at hx;obtain⟨v,hv,rfl⟩:=zS.mp hx;have hk:=(zD.mp hv).1
    have hR:=zB (show k<R.length by lia);generalize R[k]'(by lia)=row at hR;obtain⟨ar,rfl,_,har⟩:=rows.2 k y _ hy hR;obtain⟨C,fs,sd,eo,hm,hf2,go⟩:=disp v;have N1:=Zz S2 (v.ob Zt.C Zu.C Zk.C Zl.C Zm.C Zp.C)
    have okv:v.ok R.length bs.length:=FI (by lia) (net.ok k v hv).1;refine GS (n:=S2.length) (C:=C) (sd:=sd) (fs:=fs) (S1:=S2++[v.ob Zt.C Zu.C Zk.C Zl.C Zm.C Zp.C]) (λK hK=>⟨v,rfl,by exact hK⟩) (by rw[<- eo];exact N1) hm hf2 ?_;refine go _ _ _ bs.length _ _ _ _ vs R ds N1 (Zn (w1 _ _ hc)) (Zn (w1 _ _ hd)) (rows.pre (FY w1 _)) ss b9 okv (by lia) sp hg λT m prT lm hT=>?_
    have keep:∀ {x:Nat} {o:Ob},S2[x]?=some o->T[x]?=some o:=λe=>prT _ _ (Zn e)
    refine⟨_,row,hT,keep (w1 _ _ har),by rw[zc6];exact yH b9 (by decide),?_⟩;have lt:=ZZ w2
    have hB:(slB vs R g bs.length ns)[k]?=some (YN (Yz vs R g bs.length v) row):=by
     unfold slB;rw[xX,hv,hR]
    refine hK _ _ (keep w2) ⟨QT (λx o e=>keep (w1 x o e)) (zC _),Yp (keep w2),by simp[w3],?_⟩;rw[w4,Wf hB,yD];rfl
   ·obtain⟨w1,w2,w3,w4⟩:=w;have lB:(slB vs R g bs.length ns).length=ns.length:=by
     unfold slB;rw[List.length_zipWith];lia
    have e5:zs=(slB vs R g bs.length ns).map D.bl:=by
     rw[w4,yZ (by rw[lB,zA];lia)]
    subst e5;refine V2 (n:=S.length) (o:=.lst _) w2 (Hk _) ?_;exact⟨w1,.bl _,h⟩⟩))
def Ag  (OP:Df K mg q20 QG Rz):Fk P w K mg base 1 q20 Rz Hg:=
 OP.mk' (ZE (k:=0) OP.F zbp (λ_ _ _ _=>nR λ_=>nN:Ln (Hg) 1) λ_ _ _ _ _ _ hr=>⟨_,(Zh (Zv (Wk (x:="row") (N:=[]) (caps:=[]) (ar:=Zo QG) rfl rfl csc rfl (by decide) (dv 0) (λ_ _ _ _ _ _=>GL (ZP (ZV hr) (Zi (dv 0) Zd) Z4 (ZH _))) (λ_ _ _ _ _ _=>(Zi (dv 0) Zd))))),λds S Q ex h=>by
  replace h:=eR h;obtain⟨r,rfl,h⟩:=h;obtain⟨rows,hr,l9,h⟩:=h;refine Fn (n:=r) (S1:=S) (o:=.lst (rows.map rwD)) (λd=>match d with|.tup [.str w,.int at']=>if w="zero" then some (.int at') else none|_=>none) (λK hK=>by exact hK) hr (by show (rows.map rwD).length<=1000;rw[zA];lia) (λx hx S2 K pr hK=>?_) (λx hx y hy S2 K pr hK=>?_) ?_
  ·have hx':x∈rows.map rwD:=hx;obtain⟨⟨b,n⟩,_,rfl⟩:=zN.mp hx';cases b
   ·exact hK
   ·exact hK
  ·have hx':x∈rows.map rwD:=hx;obtain⟨⟨b,n⟩,_,rfl⟩:=zN.mp hx';cases b
   ·exact absurd hy (by
     simp[rwD];intro z;exact absurd z (by decide))
   ·cases hy;exact hK
  ·have e:(Zs (.lst (rows.map rwD))).filterMap (λd=>match d with|.tup [.str w,.int at']=>if w="zero" then some (.int at') else none|_=>none)=(eqs rows).map wtD:=by
    show (rows.map rwD).filterMap _=_;unfold eqs;rw[List.filterMap_map,List.map_filterMap];congr 1;funext ⟨b,n⟩;cases b<;>rfl
   rw[e];exact h⟩)
def zb8  (Ph:Df K mg q72 Pg QE)(W0:Fk P w K mg base 1 q30 Ua Qg)(ZF:mg "len"=none):Fk P w K mg base 2 q72 QE Kr:=
 Ph.mk' (ZE (k:=1) Ph.F zcy (λ_ _ _ _=>nR λ_=>nI λ_=>nN:Ln (Kr) 2) λ_ _ _ _ _ _ hr=>⟨_,(Zh (Zv (Vg (YQ (ZV hr) (ZL (ZM Z1) rfl ZF Boot.«len» (Za (dv 0) Ze)) (dv 1) (ZH _)) (Vd (Zj W0 hr (Za (dv 0) (Za (dv 1) Ze))))))),λds S Q ex h=>by
  replace h:=eRI h;obtain⟨l,m,rfl,h⟩:=h;obtain⟨M,ds,n,hd,rows,rfl,lM,n9,al,h⟩:=h;refine Z9 hd ?_;rw[rows.1,lM];unfold Lb;refine Eb (i:=((n:Nat):Int)) (S:=S) ?_;refine .inr ⟨M,ds,hd,rows,by lia,?_⟩;have ea:(M.map λr=>decide (((r.length:Nat):Int)=((n:Nat):Int))).all id=true:=by
   rw[xS];intro x hx;obtain⟨r,hr,rfl⟩:=zN.mp hx;exact decide_eq_true (by rw[al r hr])
  rw[ea];exact h⟩)
def zd6  (Oi:Df K mg q16 Ml Tz)(Xo:Fk P w K mg base 1 q22 Vc VV)(XN:Fk P w K mg base 2 q26 VJ Sg)(Yv:mg "zip"=none):Fk P w K mg base 3 q16 Tz O4:=
 Oi.mk' (ZE (k:=2) Oi.F OK (λ_ _ _ _=>nR λ_=>nR λ_=>nI λ_=>nN:Ln (O4) 3) λ_ _ _ _ _ _ hr=>⟨_,(Zg (Zy (i:=3) OK.nd (ZT (Za Zd (Za Zd Ze)))) (Zg (zan (is:=[4,5]) PassesOwn.never rfl OK.nd (Nms.cons (i:=4) rfl (Or.inl rfl) (by first|exact .inl rfl|exact .inr rfl) (Nms.cons (i:=5) rfl (Or.inl rfl) (by first|exact .inl rfl|exact .inr rfl) Nms.nil)) rfl rfl Yv Boot.«zip» (Za (dv 0) (Za (dv 1) Ze)) (Zh (Zy (i:=3) OK.nd (Zj Xo hr (Za (dv 3) (Za (Zj XN hr (Za (dv 4) (Za (dv 5) (Za (dv 2) Ze)))) Ze)))))) (Zh (Zv (dv 3))))),λds S Q ex h=>by
  replace h:=eRRI h;obtain⟨a,b,g,rfl,h⟩:=h;obtain⟨us,vs,ha,hb,l6,z1,z2,hg,h⟩:=h;have sg:Sz 21 g:=Sz.of 1000000 (by lia);refine AF (n:=a) (n':=b) (xs:=us.map frD) (ys:=vs.map frD) (S:=S) (λk dl'=>∃u1 u2:Option D,dl'=[some (.ref a),some (.ref b),some (.int g),some (frD (sumP g (us.take k) (vs.take k))),u1,u2]) (λK hK=>by exact hK) ha hb ⟨_,_,rfl⟩ ?_ ?_
  ·rintro k x y dl' nx ct hx hy ⟨u1,u2,rfl⟩ hn;rw[zF] at hx hy;obtain⟨p,hp,rfl⟩:=zS.mp hx;obtain⟨r,hr,rfl⟩:=zS.mp hy;have zp:=z1 _ (zJ hp)
   have zr:=z2 _ (zJ hr);refine⟨⟨⟨ZN zp.1 zr.1,ZN zp.1 zr.2,ZN zp.2 zr.1,ZN zp.2 zr.2⟩,sg.fd (by lia)⟩,λmn mx hc=>?_⟩;obtain⟨rfl,rfl⟩:=hc.eq;refine hn _ ⟨some (frD p),some (frD r),?_⟩;rw[LS g us vs k hp hr];rfl
  ·rintro dl' ⟨u1,u2,rfl⟩;rw[zA,zA,FT];exact h⟩)
def BP  (NG:Df K mg XT Pc Ro)(XI:Fk P w K mg base 1 q17 Vs UL)(Up:Fk P w K mg base 3 q16 Tz O4):Fk P w K mg base 4 XT Ro Kt:=
 NG.mk' (X6 (ZE (k:=3) NG.F Jc (X5 (λ_ _ _ _=>nI λ_=>nI λ_=>nR λ_=>nR λ_=>nI λ_=>nN:Ln (Kt) 5)) λ_ _ _ _ _ _ hr=>⟨_,(Zg (Zy (i:=5) Jc.nd (IM (ZP (ZV hr) (dv 0) (dv 1) (ZH _)) (ZT (Za (dv 4) (Za (dv 4) Ze))) (ZT (Za Zd (Za Zd Ze))))) (Zg (T8 (x:="slant") (N:=["column"]) (caps:=[1]) (ar:=Zo Pc) rfl rfl csc rfl (by decide) (i:=6) Jc.nd rfl rfl (dv 3) (λ_ _ _ _ _ _=>YE) (λ_ _ _ _ _ _=>(Zw (dv 0) (dv 1)))) (Zh (Zv (Zj XI hr (Za (dv 5) (Za (Zj Up hr (Za (dv 2) (Za (dv 6) (Za (dv 4) Ze)))) Ze))))))),λds S Q ex h=>by
  obtain⟨Q0,ex0,rfl,rfl,h⟩:=h;replace h:=zbo h;obtain⟨k,c,t,s,g,rfl,h⟩:=h;obtain⟨q,kn,cn,ts,R,ds,rfl,rfl,ht,hs,rows,zr,hc,l6,r6,z1,hg,h⟩:=h;have tail:∀aV:Int×Int,aV=(if kn=cn then (g,g) else (0,0))->∀K:DK,K (frD (Xm g kn cn ts R)) (S++[.lst ((R.map λr=>r.getD cn (0,0)).map frD)])->True:=λ_ _ _ _=>trivial
  have col:∀(k:Nat)(r:LI),R[k]?=some r->atI (r.map frD) ((cn:Nat):Int)=some (frD (r.getD cn (0,0))):=λk r hr=>by
   have hl:=(zr r (zJ hr)).1
   have z:=Z6 (vs:=r) (i:=((cn:Nat):Int)) ⟨by lia,by rw[hl];lia⟩;rw[z];have e:gt r ((cn:Nat):Int)=r.getD cn (0,0):=by
    have ll:cn<r.length:=by rw[hl];exact hc
    unfold gt;rw[zI];simp[ll]
   rw[e]
  have bd:Bd 20000 (R.map λr=>r.getD cn (0,0)):=λp hp=>by
   obtain⟨r,hr,er⟩:=zN.mp hp;subst er;obtain⟨hl,b⟩:=zr r hr;have ll:cn<r.length:=by rw[hl];exact hc
   have e:r.getD cn (0,0)=r[cn]:=by simp[ll]
   rw[e];exact⟨(b _ (yI ll)).1.mono (by decide),(b _ (yI ll)).2.mono (by decide)⟩
  have YC:∀aV:Int×Int,aV=(if kn=cn then (g,g) else (0,0))->Gc S Q0 (.tup [.int (aV.1-(sumP g ts (R.map λr=>r.getD cn (0,0))).2),.int (aV.2-(sumP g ts (R.map λr=>r.getD cn (0,0))).1)]) (S++[.lst ((R.map λr=>r.getD cn (0,0)).map frD)]):=λaV e=>by
   subst e;exact⟨Pre.refl.push,Vj,h⟩
  refine ifD (λe=>?_) (λe=>?_)
  ·refine Qx (n:=s) (S1:=S) (o:=.lst ds) (λk d=>∃r,R[k]?=some r/\d=frD (r.getD cn (0,0))) (λK hK=>by exact hK) hs (by show ds.length<=1000;rw[rows.1];lia) (λk x hx S2 K pr hK=>?_) (λxs lx hx=>?_)
   ·have hx':ds[k]?=some x:=hx
    have hk:k<R.length:=by
     have:=(zD.mp hx').1;rw[rows.1] at this;exact this
    obtain⟨a,rfl,_,ha⟩:=rows.2 k x _ hx' (zB hk);refine Zq (o:=.lst _) (pr _ _ ha) (col k _ (zB hk)) ?_;exact hK _ ⟨_,zB hk,rfl⟩
   ·have e2:xs=(R.map λr=>r.getD cn (0,0)).map frD:=by
     refine xN λk=>?_
     by_cases hk:k<xs.length
     ·obtain⟨r,hr,e⟩:=hx k _ (zB hk);rw[zB hk,zF,zF,hr,e];rfl
     ·have lx':xs.length=R.length:=by rw[lx];exact rows.1
      rw[yK (by lia),yK (by simp;lia)]
    subst e2;refine⟨ts,_,Zn ht,Zz _ _,l6,z1,bd,hg,?_⟩;exact YC (g,g) (by rw[if_pos (by lia)])
  ·refine Qx (n:=s) (S1:=S) (o:=.lst ds) (λk d=>∃r,R[k]?=some r/\d=frD (r.getD cn (0,0))) (λK hK=>by exact hK) hs (by show ds.length<=1000;rw[rows.1];lia) (λk x hx S2 K pr hK=>?_) (λxs lx hx=>?_)
   ·have hx':ds[k]?=some x:=hx
    have hk:k<R.length:=by
     have:=(zD.mp hx').1;rw[rows.1] at this;exact this
    obtain⟨a,rfl,_,ha⟩:=rows.2 k x _ hx' (zB hk);refine Zq (o:=.lst _) (pr _ _ ha) (col k _ (zB hk)) ?_;exact hK _ ⟨_,zB hk,rfl⟩
   ·have e2:xs=(R.map λr=>r.getD cn (0,0)).map frD:=by
     refine xN λk=>?_
     by_cases hk:k<xs.length
     ·obtain⟨r,hr,e⟩:=hx k _ (zB hk);rw[zB hk,zF,zF,hr,e];rfl
     ·have lx':xs.length=R.length:=by rw[lx];exact rows.1
      rw[yK (by lia),yK (by simp;lia)]
    subst e2;refine⟨ts,_,Zn ht,Zz _ _,l6,z1,bd,hg,?_⟩;exact YC (0,0) (by rw[if_neg (by lia)])⟩))
def D9  (PF:Df K mg XG Ug Q9)(Xo:Fk P w K mg base 1 q22 Vc VV)(Up:Fk P w K mg base 3 q16 Tz O4)(XI:Fk P w K mg base 1 q17 Vs UL)(Ja:Fk P w K mg base 4 XT Ro Kt)(TB:Fk P w K mg base 3 q19 U1 OX)(Yv:mg "zip"=none)(ZO:mg q98=none)(ZF:mg "len"=none):Fk P w K mg base 5 XG Q9 KU:=
 PF.mk' (X6 (ZE (k:=4) PF.F Td (X5 (λ_ _ _ _=>nI λ_=>nR λ_=>nI λ_=>nR λ_=>nR λ_=>nR λ_=>nN:Ln (KU) 6)) λ_ _ _ _ _ _ hr=>⟨_,(Zg (Wu (i:=6) Td.nd rfl (Or.inr rfl) (Wk (x:="entry") (N:=[]) (caps:=[]) (ar:=Zo Ug) rfl rfl csc rfl (by decide) (dv 3) (λ_ _ _ _ _ _=>YE) (λ_ _ _ _ _ _=>(ZT (Za (dv 0) (Za (dv 0) Ze)))))) (Zg (Zy (i:=7) Td.nd (Zj TB hr (Za (dv 1) Ze))) (Zg (Zy (i:=8) Td.nd (Zj XI hr (Za (Zw (dv 7) (dv 0)) (Za (Zj Up hr (Za (dv 6) (Za (dv 4) (Za (dv 2) Ze)))) Ze)))) (Zg (Qj (x:="column") (N:=["k","turns","slants","grid"]) (caps:=[0,6,5,2]) (ar:=Zo Ug) rfl rfl csc rfl (by decide) (i:=9) Td.nd rfl rfl rfl ZO (Za (ZL (ZM Z1) rfl ZF Boot.«len» (Za (dv 1) Ze)) Ze) (λ_ _ _ _ _ _=>YE) (λ_ _ _ _ _ _=>(Zj Ja hr (Za (dv 1) (Za (dv 0) (Za (dv 2) (Za (dv 3) (Za (dv 4) Ze)))))))) (Zg (zc0 (x1:="span") (x2:="centre") (N:=[]) (caps:=[]) (ar:=Zo Ug) rfl rfl Vn rfl rfl rfl (by decide) (i:=10) Td.nd rfl rfl rfl Yv Boot.«zip» (Za (dv 1) (Za (dv 7) Ze)) (λ_ _ _ _ _ _=>(Zj XI hr (Za (dv 0) (Za (dv 1) Ze))))) (Zh (Zv (Zj Xo hr (Za (dv 8) (Za (Zj Up hr (Za (dv 9) (Za (dv 10) (Za (dv 2) Ze)))) Ze)))))))))),λds S Q ex h=>by
  obtain⟨Q0,ex0,rfl,rfl,h⟩:=h;replace h:=zeb h;obtain⟨ki,b,g,e,t,s,rfl,h⟩:=h;obtain⟨k,box,aC,es,R,ds,rfl,hk,he,e4,ze,hb,ht,hs,rows,zr,bl,r4,t4,zb,zt,hg,h⟩:=h;have bdE:Bd 20000 (es.map λx=>(x,x)):=λp hp=>by
   obtain⟨x,hx,rfl⟩:=zN.mp hp;exact⟨(ze x hx).mono (by decide),(ze x hx).mono (by decide)⟩
  have bdT:Bd 20000 aC:=λp hp=>⟨(zt p hp).1.mono (by decide),(zt p hp).2.mono (by decide)⟩
  have lE:(es.map λx=>(x,x)).length<=60:=by rw[zA];lia
  refine Xz (n:=e) (S1:=S) (o:=.lst (es.map D.int)) (λd=>.tup [d,d]) (λK hK=>by exact hK) he (by show (es.map D.int).length<=1000;rw[zA];lia) (λx hx S2 K pr hK=>by exact hK) ?_;have eE:(Zs (.lst (es.map D.int))).map (λd=>D.tup [d,d])=(es.map λx=>(x,x)).map frD:=by
   show (es.map D.int).map _=_;rw[zZ];rw[zZ];rfl
  rw[eE];have T0:=Zz S (.lst ((es.map λx=>(x,x)).map frD));refine⟨box,Zn hb,by lia,λT m pr lm hm=>?_⟩;have P0:Pre S T:=λx o z=>pr _ _ (Zn z)
  have hT:=pr _ _ T0
  have kc:inR (((box.map Z5).length:Nat):Int) (k:Int):=⟨by lia,by rw[zA];lia⟩
  have ec:gt (box.map Z5) (k:Int)=Z5 (gt box k):=by
   unfold gt;rw[zI];simp[hk]
  have ac:=Z6 kc;rw[ec] at ac;refine Zq (o:=.lst ((box.map Z5).map frD)) hm ac ?_;refine⟨_,aC,hT,P0 _ _ ht,lE,bdE,bdT,hg,?_⟩;have lk:∀c:Nat,c<box.length->∀(S2:Sto)(K:DK),Pre T S2->K (frD (Xm g k c (es.map λx=>(x,x)) R)) S2->∃(q kn cn:Nat)(ts:LI)(R':List LI)(ds':List D),((k:Nat):Int)=(kn:Nat)/\((c:Nat):Int)=(cn:Nat)/\S2[S.length]?=some (.lst (ts.map frD))/\S2[s]?=some (.lst ds')/\Z8 S2 0 ds' R'/\(∀r∈R',r.length=q/\Bd 2000 r)/\cn<q/\ts.length<=60/\R'.length<=60/\Bd 20000 ts/\(1<=g/\g<=1000000)/\K (frD (Xm g kn cn ts R')) S2:=λc hc S2 K p2 hK=>⟨box.length,k,c,_,R,ds,rfl,rfl,p2 _ _ hT,p2 _ _ (P0 _ _ hs),rows.pre λx o z=>p2 _ _ (P0 _ _ z),zr,hc,lE,by lia,bdE,hg,hK⟩
  refine Kz (j:=((box.length:Nat):Int)) (S1:=T) (λc=>frD (Xm g k c (es.map λx=>(x,x)) R)) (λK hK=>by
   refine Z9 (P0 _ _ hb) ?_;rw[zA];exact hK) ⟨by lia,by lia⟩ (λc hc S2 K p2 hK=>lk c (by lia) S2 K p2 hK) ?_
  rw[zI];have eL:((List.range box.length).map λc=>frD (Xm g k c (es.map λx=>(x,x)) R))=((List.range box.length).map λc=>Xm g k c (es.map λx=>(x,x)) R).map frD:=by
   rw[zZ];rfl
  rw[eL];have T1:=Zz T (.lst (((List.range box.length).map λc=>Xm g k c (es.map λx=>(x,x)) R).map frD));refine Sh (n:=b) (n':=m) (S1:=T++[.lst (((List.range box.length).map λc=>Xm g k c (es.map λx=>(x,x)) R).map frD)]) (xs:=box.map frD) (ys:=(box.map Z5).map frD) (λx y=>match x,y with|.tup [.int a,.int b],.tup [.int c,.int d]=>.tup [.int (a-d),.int (b-c)]|_,_=>.non) (λK hK=>by exact hK) (Zn (P0 _ _ hb)) (Zn hm) (by rw[zA];lia) (λj x y hx hy S2 K p2 hK=>?_) ?_
  ·rw[zF] at hx hy;obtain⟨p,hp,rfl⟩:=zS.mp hx;obtain⟨r,hr,rfl⟩:=zS.mp hy;exact hK
  have eW:List.zipWith (λx y=>match x,y with|.tup [.int a,.int b],.tup [.int c,.int d]=>.tup [.int (a-d),.int (b-c)]|_,_=>.non) (box.map frD) ((box.map Z5).map frD)=(box.map λp=>Xg p (Z5 p)).map frD:=by
   rw[zZ,List.zipWith_map,zZ,List.zipWith_self];rfl
  rw[eW];have zm:Bd 62 (box.map λp=>Xg p (Z5 p)):=λp hp=>by
   obtain⟨x,hx,rfl⟩:=zN.mp hp;have z:=zb x hx
   have zmid:=D4 z.1 z.2;exact(En (B:=60) (C:=61) z ⟨zmid,zmid⟩).imp (λz=>z.mono (by decide)) (λz=>z.mono (by decide))
  have zl:Bd 20000 ((List.range box.length).map λc=>Xm g k c (es.map λx=>(x,x)) R):=λp hp=>by
   obtain⟨c,hc,rfl⟩:=zN.mp hp;have hc':=List.mem_range.mp hc
   have bR:Bd 2000 (R.map λr=>r.getD c (0,0)):=λp hp=>by
    obtain⟨r,hr,er⟩:=zN.mp hp;subst er;obtain⟨hl,b⟩:=zr r hr;have ll:c<r.length:=by rw[hl];exact hc'
    have e:r.getD c (0,0)=r[c]:=by simp[ll]
    rw[e];exact b _ (yI ll)
   have bE:Bd 4000 (es.map λx=>(x,x)):=λp hp=>by
    obtain⟨x,hx,rfl⟩:=zN.mp hp;exact⟨ze x hx,ze x hx⟩
   have z:=ES hg.1 bE bR lE
   have sg:Sz 21 g:=Sz.of 1000000 (by lia);unfold Xm;have w:Sz 21 (if k=c then (g,g) else (0,0)).1/\Sz 21 (if k=c then (g,g) else (0,0)).2:=by
    split
    ·exact⟨sg,sg⟩
    ·exact⟨yQ (by decide),yQ (by decide)⟩
   exact(En w z).imp (λz=>z.mono (by decide)) (λz=>z.mono (by decide))
  refine⟨_,_,Zn T1,Zz _ _,by rw[zA,xW];lia,zl,λp hp=>⟨(zm p hp).1.mono (by decide),(zm p hp).2.mono (by decide)⟩,hg,?_⟩;exact⟨λx o z=>Zn (Zn (P0 _ _ z)),Vj,h⟩⟩))
def D1  (Mp:Df K mg XM RM SQ)(Hy:Fk P w K mg base 5 XG Q9 KU)(Rb:mg "enumerate"=none):Fk P w K mg base 6 XM SQ Jg:=
 Mp.mk' (ZE (k:=5) Mp.F zac (λ_ _ _ _=>nR λ_=>nI λ_=>nR λ_=>nR λ_=>nR λ_=>nN:Ln (Jg) 5) λ_ _ _ _ _ _ hr=>⟨_,(Zh (Zv (AV (x1:="k") (x2:="entries") (N:=["box","grid","thin","slants"]) (caps:=[0,1,3,4]) (ar:=Zo RM) rfl rfl Vn rfl rfl rfl (by decide) rfl Rb Boot.«enumerate» (Za (dv 2) Ze) (λ_ _ _ _ _ _=>(Zj Hy hr (Za (dv 0) (Za (dv 2) (Za (dv 3) (Za (dv 1) (Za (dv 4) (Za (dv 5) Ze))))))))))),λds S Q ex h=>by
  replace h:=zdy h;obtain⟨b,g,u,t,s,rfl,h⟩:=h;obtain⟨box,aC,M,ms,R,ds,hu,mi,lM,zM,hb,ht,hs,rows,zr,bl,r4,t4,zb,zt,hg,h⟩:=h;refine za1 (n:=u) (S1:=S) (xs:=ms) (λk d=>frD (YG g box aC R k (M.getD k []))) (λK hK=>by exact hK) hu (by rw[mi.1];lia) (λk x hx S2 K pr hK=>?_) ?_
  ·have hk:k<M.length:=by
    have:=(zD.mp hx).1;rw[mi.1] at this;exact this
   obtain⟨a,rfl,ha⟩:=mi.2 k x _ hx (zB hk);have eM:M.getD k []=M[k]:=by simp[hk]
   rw[eM] at hK;have z:=zM _ (yI hk);exact⟨k,box,aC,M[k],R,ds,rfl,by lia,pr _ _ ha,z.1,z.2,pr _ _ hb,pr _ _ ht,pr _ _ hs,rows.pre pr,zr,bl,r4,t4,zb,zt,hg,hK⟩
  ·have e:(ms.mapIdx λk d=>frD (YG g box aC R k (M.getD k [])))=(M.mapIdx λk es=>YG g box aC R k es).map frD:=by
    refine xN λk=>?_
    rw[List.getElem?_mapIdx,zF,List.getElem?_mapIdx];by_cases hk:k<M.length
    ·rw[zB (show k<ms.length by rw[mi.1];exact hk),zB hk];simp[hk]
    ·rw[yK (by rw[mi.1];lia),yK (show M.length<=k by lia)];rfl
   rw[e];exact h⟩)
def Dn  (LO:Df K mg XJ Qu QA):Fk P w K mg base 1 XJ QA Jx:=
 LO.mk' (ZE (k:=0) LO.F zck (λ_ _ _ _=>nR λ_=>nR λ_=>nN:Ln (Jx) 2) λ_ _ _ _ _ _ hr=>⟨_,(Zh (Zv (Wk (x:="place") (N:=["each"]) (caps:=[0]) (ar:=Zo Qu) rfl rfl csc rfl (by decide) (dv 1) (λ_ _ _ _ _ _=>YE) (λ_ _ _ _ _ _=>(Zw (dv 1) (dv 0)))))),λds S Q ex h=>by
  replace h:=eRR h;obtain⟨e,p,rfl,h⟩:=h;obtain⟨xs,is,he,hp,l9,hi,h⟩:=h;refine Xz (n:=p) (S1:=S) (o:=.lst (is.map wtD)) (λd=>match d with|.int i=>xs.getD i.toNat .non|_=>.non) (λK hK=>by exact hK) hp (by show (is.map wtD).length<=1000;rw[zA];lia) (λx hx S2 K pr hK=>?_) ?_
  ·have hx':x∈is.map wtD:=hx;obtain⟨i,him,rfl⟩:=zN.mp hx';have hl:=hi i him;refine Zq (o:=.lst xs) (pr _ _ he) (XA (j:=i) (v:=xs.getD i .non) (by show xs[i]?=_;rw[zB hl];simp[hl])) ?_;exact hK
  ·have e2:(Zs (.lst (is.map wtD))).map (λd=>match d with|.int i=>xs.getD i.toNat .non|_=>.non)=is.map λi=>xs.getD i .non:=by
    show (is.map wtD).map _=_;rw[zZ];rfl
   rw[e2];exact h⟩)
def zdx  (Of:Df K mg "deep" MO Qq):Fk P w K mg base 1 "deep" Qq JW:=
 Of.mk' (ZE (k:=0) Of.F zct (λ_ _ _ _=>nP λ_ _=>nP λ_ _=>nN:Ln (JW) 2) λ_ _ _ _ _ _ hr=>⟨_,(Zh (Zv (Vg (YQ Vr (Zi (dv 1) Zd) (Zi (dv 0) Zd) (ZH _)) (Vd (YQ Vr (Zi (dv 0) Zd) (Zi (dv 1) Zd) (ZH _)))))),λds S Q ex h=>by
  replace h:=ePP h;obtain⟨_,_,_,_,rfl,h⟩:=h;refine ifD (λe=>?_) (λe=>?_)
  ·rw[decide_eq_true e,Bool.true_and] at h;exact h
  ·rw[decide_eq_false e,Bool.false_and] at h;exact h⟩)
def zbO  (NU:Df K mg q86 Q4 Qh)(JB:Fk P w K mg base 1 "deep" Qq JW)(YM:mg "all"=none)(Yv:mg "zip"=none):Fk P w K mg base 2 q86 Qh Ir:=
 NU.mk' (X6 (ZE (k:=1) NU.F zav (X5 (λ_ _ _ _=>nR λ_=>nR λ_=>nN:Ln (Ir) 2)) λ_ _ _ _ _ _ hr=>⟨_,(Zh (Zv (ZL (ZM (U4 rfl)) rfl YM Boot.«all» (Za (TF (x1:="new") (x2:="old") (N:=[]) (caps:=[]) (ar:=Zo Q4) rfl rfl Vn rfl rfl rfl (by decide) rfl Yv Boot.«zip» (Za (dv 0) (Za (dv 1) Ze)) (λ_ _ _ _ _ _=>(Zj JB hr (Za (dv 0) (Za (dv 1) Ze))))) Ze)))),λds S Q ex h=>by
  obtain⟨Q0,ex0,rfl,rfl,h⟩:=h;replace h:=eRR h;obtain⟨m,n,rfl,h⟩:=h;obtain⟨us,vs,h1,h2,hl,h⟩:=h;refine Sh (n:=m) (n':=n) (S1:=S) (xs:=us.map frD) (ys:=vs.map frD) (λx y=>match x,y with|.tup [.int a,.int b],.tup [.int c,.int d]=>.bl (decide (c<a)&&decide (b<d))|_,_=>.non) (λK hK=>by exact hK) h1 h2 (by rw[zA];exact hl) (λk x y hx hy S2 K pr hK=>?_) ?_
  ·obtain⟨p,_,rfl⟩:=zN.mp (zJ hx);obtain⟨q,_,rfl⟩:=zN.mp (zJ hy);exact hK
  ·refine V2 (n:=S.length) (o:=.lst _) (bs:=List.zipWith U6 us vs) (Zz _ _) (Ak us vs) ?_;exact⟨Pre.refl.push,.bl _,h⟩⟩))
def DT  (P6:Df K mg q57 Kk QH)(HK:Fk P w K mg base 2 q86 Qh Ir)(WX:Fk P w K mg base 2 q42 VO SF)(Iw:Fk P w K mg base 6 XM SQ Jg)(P5:Fk P w K mg base 1 XJ QA Jx)(J2:Fk P w K mg base 2 q72 QE Kr)(Ib:Fk P w K mg base 1 q20 Rz Hg)(ZF:mg "len"=none):Fk P w K mg base 7 q57 QH JI:=
 P6.mk' (ZE (k:=6) P6.F QL (λ_ _ _ _=>nR λ_=>nR λ_=>nI λ_=>nD λ_=>nN:Ln (JI) 4) λ_ _ _ _ _ _ hr=>⟨_,(Zg (Zy (i:=4) QL.nd (Zi (dv 3) Zd)) (Zg (Zy (i:=5) QL.nd (Zi (dv 3) Zd)) (Zg (Zy (i:=6) QL.nd (Zj Ib hr (Za (dv 0) Ze))) (Zg (ZQ (PDW.pt (Um (ZP (UZ hr) (ZL (ZM Z1) rfl ZF Boot.«len» (Za (dv 6) Ze)) (ZL (ZM Z1) rfl ZF Boot.«len» (Za (dv 1) Ze)) (ZH _)) (Um (Ux (Xw (Zj J2 hr (Za (dv 4) (Za (ZL (ZM Z1) rfl ZF Boot.«len» (Za (dv 1) Ze)) Ze))))) (Rt (ZP (UZ hr) (ZL (ZM Z1) rfl ZF Boot.«len» (Za (dv 5) Ze)) (ZL (ZM Z1) rfl ZF Boot.«len» (Za (dv 1) Ze)) (ZH _)))))) (Zh (Zv W9)) ZS) (Zg (Zy (i:=7) QL.nd (Zj Iw hr (Za (dv 1) (Za (dv 2) (Za (dv 4) (Za (Zj P5 hr (Za (Zi (dv 3) Zd) (Za (dv 6) Ze))) (Za (Zj P5 hr (Za (Zi (dv 3) Zd) (Za (dv 6) Ze))) Ze))))))) (Zh (Zv (Vg (Zj WX hr (Za (dv 7) (Za (dv 5) Ze))) (Vd (Zj HK hr (Za (dv 5) (Za (dv 1) Ze)))))))))))),λds S Q ex h=>by
  replace h:=eRRID h;obtain⟨rw,bx,g,d,rfl,h⟩:=h;obtain⟨rows,bs,aE,vs,aC,M,R,hr,r9,hb,one,hi,le,lM,zM,ln,zR,bl,zb,zt,hg,h⟩:=h;obtain⟨a,b,c,e,f,ms,ds,rfl,ha,mi,hn,hv,ht,hf,rp⟩:=one.ex;refine⟨rows,hr,r9,?_⟩;have P0:Pre S (S++[Ob.lst ((eqs rows).map wtD)]):=Pre.refl.push
  have hp:=Zz S (.lst ((eqs rows).map wtD))
  have hi2:∀i∈eqs rows,i<R.length/\i<aC.length:=λi him=>by
   unfold eqs at him;obtain⟨r,hr,e⟩:=List.mem_filterMap.mp him;split at e
   ·cases e;exact hi r hr
   ·cases e
  generalize S++[Ob.lst ((eqs rows).map wtD)]=S1 at P0 hp ⊢;refine Z9 hp ?_;refine Z9 (P0 _ _ hb) ?_;rw[zA,zA];refine ifN (λz=>absurd (by rw[le]) z) (λ_=>?_);refine Z9 (P0 _ _ hb) ?_;rw[zA];refine⟨M,ms,bs.length,P0 _ _ ha,mi.pre P0,rfl,lM,by lia,λr hr=>(zM r hr).1,?_⟩;refine YS ?_;refine Z9 (P0 _ _ hn) ?_;refine Z9 (P0 _ _ hb) ?_;rw[zA,zA];refine ifN (λz=>absurd (by rw[ln]) z) (λ_=>?_);refine⟨aC.map frD,eqs rows,P0 _ _ ht,hp,by lia,λi him=>by rw[zA];exact(hi2 i him).2,?_⟩;refine⟨ds,eqs rows,Zn (P0 _ _ hf),Zn hp,by lia,λi him=>by rw[rp.1];exact(hi2 i him).1,?_⟩;rw[BY λi him=>(hi2 i him).2];have P1:Pre S (S1++[Ob.lst (((eqs rows).map λ(i:Nat)=>gt aC (i:Int)).map frD)]++[Ob.lst ((eqs rows).map λi=>ds.getD i .non)]):=YA (YA P0);refine⟨bs,(eqs rows).map λ(i:Nat)=>gt aC (i:Int),M,ms,(eqs rows).map λi=>R.getD i [],(eqs rows).map λi=>ds.getD i .non,P1 _ _ ha,mi.pre P1,lM,λr hr=>⟨by rw[(zM r hr).1];exact bl.2,(zM r hr).2⟩,P1 _ _ hb,Zn (Zz _ _),Zz _ _,Cu (rp.pre P1) (λi him=>(hi2 i him).1),λr hr=>?_,bl,by rw[zA];lia,by rw[zA];lia,zb,λp hp=>?_,hg,?_⟩
  ·obtain⟨i,him,rfl⟩:=zN.mp hr;have l:=(hi2 i him).1
   have e:R.getD i []=R[i]:=by rw[zK,zB l];rfl
   rw[e];exact zR _ (yI ..)
  ·obtain⟨i,him,rfl⟩:=zN.mp hp;rw[Xj (zB (hi2 i him).2)];exact zt _ (yI ..)
  have P2:=YA (o:=Ob.lst ((W6 g bs aC R (eqs rows) M).map frD)) P1;refine⟨W6 g bs aC R (eqs rows) M,aE,Zz _ _,P2 _ _ hn,by unfold W6;rw[List.length_mapIdx];lia,?_⟩;have bC:=h _ P2;cases eI:YN (W6 g bs aC R (eqs rows) M) aE
  ·rw[eI] at bC;exact bC
  ·rw[eI] at bC;refine⟨aE,bs,P2 _ _ hn,P2 _ _ hb,by lia,?_⟩;exact bC⟩)
def zcS  (Pf:Df K mg q73 OJ QY)(Jn:Fk P w K mg base 7 q57 QH JI)(Hd:Fk P w K mg base 5 q37 SV JK)(Kb:Fk P w K mg base 5 q31 SK JM)(TB:Fk P w K mg base 3 q19 U1 OX)(Hj:Fk P w K mg base 2 q21 RI Ih):Fk P w K mg base 8 q73 QY HA:=
 Pf.mk' (ZE (k:=7) Pf.F FH (λ_ _ _ _=>nR λ_=>nR λ_=>nR λ_=>nI λ_=>nD λ_=>nN:Ln (HA) 5) λ_ _ _ _ _ _ hr=>⟨_,(Zg (Zy (i:=5) FH.nd (Zi (dv 4) Zd)) (Zg (ZQ (PDW.pt (Um (Ux (Xw (Zj Kb hr (Za (dv 0) (Za (dv 2) (Za (dv 3) (Za (dv 5) Ze))))))) (Rt (Ux (Xw (Zj Hj hr (Za (dv 1) (Za (dv 5) Ze)))))))) (Zh (Zv W9)) ZS) (Zg (ZQ (Ux (Xw (Zj Kb hr (Za (dv 0) (Za (Zj TB hr (Za (dv 2) Ze)) (Za (dv 3) (Za (Zi (dv 4) Zd) Ze))))))) (Zh (Zv W9)) ZS) (Zh (Zv (Vg (Zj Hd hr (Za (dv 0) (Za (dv 2) (Za (dv 3) (Za (dv 5) (Za (Zi (dv 4) Zd) Ze)))))) (Vd (Zj Jn hr (Za (dv 1) (Za (dv 2) (Za (dv 3) (Za (dv 4) Ze)))))))))))),λds S Q ex h=>by
  replace h:=Au h;obtain⟨nd,rw,bx,g,d,rfl,h⟩:=h;obtain⟨ans,ok,h⟩:=h;obtain⟨ns,ws,rows,bs,aE,vs,aC,M,R,hnd,hr,hb,one,net,l9,r9,⟨lv,lt,lR⟩,sv,st,iv,it,hi,slw,eS,le,lM,zM,ln,bl,zb,hg,rfl⟩:=ok;obtain⟨a,b,c,e,f,ms,ds,rfl,ha,mi,hn,hv,ht,hf,rp⟩:=id one.ex;refine⟨ns,ws,bs,vs,hnd,hb,hv,net,l9,sv.mono (by decide),hg,lv,?_⟩;rw[iv];refine YS ?_;refine⟨rows,vs,hr,hv,r9,λr hr=>by rw[lv];exact hi r hr,?_⟩;cases eL:U7 rows vs
  ·rw[eL] at h;exact h _ (λ_ _ e=>e)
  rw[eL] at h;refine YS ?_;refine⟨bs,hb,by lia,λT m pr lm hm=>?_⟩;refine⟨ns,ws,bs.map Z5,aC,pr _ _ hnd,hm,pr _ _ ht,by rw[zA];exact net,l9,st.mono (by decide),hg,lt,?_⟩;rw[it];refine YS ?_;refine⟨ns,ws,bs,vs,R,ds,pr _ _ hnd,pr _ _ hb,pr _ _ hv,pr _ _ hf,rp.pre pr,net,lv,by lia,l9,by lia,sv,hg,.inr ⟨lR,slw,?_⟩⟩;rw[eS];have w16:∀k:Nat,k<ns.length->ws.getD k 0<=16:=λk hk=>by
   have z:=(net.w1 (i:=(k:Int)) ⟨by lia,by lia⟩).2
   rwa [zI] at z
  refine⟨rows,bs,aE,vs,aC,M,R,pr _ _ hr,r9,pr _ _ hb,one.pre pr,λr hr=>⟨by rw[lR];exact hi r hr,by rw[lt];exact hi r hr⟩,le,lM,zM,ln,λr hr=>?_,bl,zb,λp hp=>⟨(st p hp).2.1.mono (by decide),(st p hp).2.2.mono (by decide)⟩,hg,λU pU=>?_⟩
  ·obtain⟨k,hk⟩:=wC.mp hr;have lk:=(zD.mp hk).1;obtain⟨z1,z2⟩:=slw k r hk;have w:=w16 k (by lia);exact⟨z1,λp hp=>⟨(z2 p hp).2.1.mono (by lia),(z2 p hp).2.2.mono (by lia)⟩⟩
  ·exact h U λx o e=>pU _ _ (pr _ _ e)⟩)
def D6  (L7:Df K mg q48 Ol QZ)(JV:Fk P w K mg base 8 q73 QY HA):Fk P w K mg base 9 q48 QZ Iv:=
 L7.mk' (ZE (k:=8) L7.F Jj (λ_ _ _ _=>nR λ_=>nR λ_=>nI λ_=>nR λ_=>nI λ_=>nN:Ln (Iv) 5) λ_ _ _ _ _ _ hr=>⟨_,(Zg (Zy (i:=5) Jj.nd (Zi (Zw (dv 3) (dv 4)) Zd)) (Zg (Zy (i:=6) Jj.nd (Zi (Zw (dv 3) (dv 4)) Zd)) (Zg (ZQ (ZP (ZV hr) (Zi (dv 6) Zd) Z4 (ZH _)) (Zh K2) ZS) (Zg (ZQ (ZP (ZV hr) (Zi (dv 6) Zd) Z4 (ZH _)) (Zh K2) ZS) (Zg (ZQ (ZP (ZV hr) (Zi (dv 6) Zd) Z4 (ZH _)) (Zh K2) ZS) (Zg (ZQ (ZP (ZV hr) (Zi (dv 6) Zd) Z4 (ZH _)) (Zh (Zv (Zj JV hr (Za (dv 0) (Za (dv 1) (Za (dv 5) (Za (dv 2) (Za (dv 6) Ze)))))))) ZS) (Zh (Zv W9)))))))),λds S Q ex h=>by
  replace h:=FL h;obtain⟨nd,rw,g,b,n,rfl,h⟩:=h;obtain⟨m,d,ans,rfl,hd,ok,h⟩:=h;refine Zq (i:=0) (o:=.lst [.tup [.ref m,d]]) hd (d:=.tup [.ref m,d]) rfl ?_;refine Zq (i:=0) (o:=.lst [.tup [.ref m,d]]) hd (d:=.tup [.ref m,d]) rfl ?_;obtain⟨ns,ws,rows,bs,aE,vs,aC,M,R,hnd,hr,hb,one,_⟩:=id ok;obtain⟨a,b,c,e,f,ms,ds,rfl,_⟩:=id one.ex;exact⟨ans,ok,h⟩⟩)
def CP  (Kj:Df K mg q58 R0 Qp)(KY:Fk P w K mg base 9 q48 QZ Iv)(Jv:Fk P w K mg base 2 q32 RG Hq)(YM:mg "all"=none)(ZO:mg q98=none)(ZF:mg "len"=none):Fk P w K mg base 10 q58 Qp KS:=
 Kj.mk' (ZE (k:=9) Kj.F BQ (λ_ _ _ _=>nR λ_=>nR λ_=>nR λ_=>nI λ_=>nR λ_=>nN:Ln (KS) 5) λ_ _ _ _ _ _ hr=>⟨_,(Zg (ZQ (Ux (Xw (Zj Jv hr (Za (dv 2) (Za (dv 4) Ze))))) (Zh (Zv W9)) ZS) (Zh (Zv (ZL (ZM (U4 rfl)) rfl YM Boot.«all» (Za (I0 (x:="number") (N:=["nodes","rows","grid","book"]) (caps:=[0,1,3,4]) (ar:=Zo R0) rfl rfl csc rfl (by decide) rfl ZO (Za (ZL (ZM Z1) rfl ZF Boot.«len» (Za (dv 4) Ze)) Ze) (λ_ _ _ _ _ _=>YE) (λ_ _ _ _ _ _=>(Zj KY hr (Za (dv 1) (Za (dv 2) (Za (dv 3) (Za (dv 4) (Za (dv 0) Ze)))))))) Ze))))),λds S Q ex h=>by
  replace h:=Bl h;obtain⟨nd,rw,bx,g,b,rfl,h⟩:=h;obtain⟨bs,m,d,ans,hb,hm,hd,ok,h⟩:=h;obtain⟨ns,ws,rows,bs',aE,vs,aC,M,R,hnd,hr,hb',one,_⟩:=id ok;obtain⟨a,b',c,e,f,ms,ds,rfl,_⟩:=id one.ex;refine⟨bs,m,a,b',c,e,f,hb,hd,hm,λT pT=>?_⟩;refine FF (j:=1) (S1:=T) (λk ys S2=>Pre T S2/\(k=0/\ys=[]\/k=1/\ys=[.bl ans])/\S2[T.length]?=some (.lst ys)) (λK hK=>?_) (by decide) (λk ys S2 w=>⟨w.2.2,by rcases w.2.1 with ⟨rfl,rfl⟩|⟨rfl,rfl⟩<;>rfl⟩) ⟨YF _,.inl ⟨rfl,rfl⟩,Zz _ _⟩ (λk ys S2 K hk w hK=>?_) (λys S2 w=>?_)
  ·refine Z9 (pT _ _ hd) ?_;exact hK
  ·obtain⟨p2,w2,h3⟩:=w;have k0:k=0:=by
    have:k<1:=hk;lia
   subst k0;rcases w2 with ⟨_,rfl⟩|⟨e,_⟩
   ·have pp:Pre S S2:=λx o e=>p2 x o (pT x o e)
    refine⟨m,_,ans,rfl,pp _ _ hd,ok.pre pp,λU pU=>?_⟩;exact hK _ U (pU _ _ h3) ⟨λx o e=>by
     have:=ZZ e;exact ZY (pU x o (p2 x o e)) (by lia),.inr ⟨rfl,rfl⟩,Yp (pU _ _ h3)⟩
   ·cases e
  ·obtain⟨p2,w2,h3⟩:=w;rcases w2 with ⟨e,_⟩|⟨_,rfl⟩
   ·cases e
   refine V2 (n:=T.length) (o:=.lst [.bl ans]) h3 (bs:=[ans]) rfl ?_;have z:=h S2 (λx o e=>p2 x o (pT x o e));rw[show [ans].all id=ans by simp];exact z⟩)
def Aq  (Ox:Df K mg "law" Xq Li)(HL:Fk P w K mg base 10 q58 Qp KS)(Jf:Fk P w K mg base 1 q52 QP HC)(Jh:Fk P w K mg base 1 q81 SY JO)(KH:Fk P w K mg base 2 q77 RT Ie)(IU:Fk P w K mg base 3 q78 Qw KC)(Jz:Fk P w K mg base 5 q51 Ru JS)(LQ:Fk P w K mg base 4 q40 RV Hl)(JN:Fk P w K mg base 3 q80 RL Hs)(JU:Fk P w K mg base 3 q74 Ss K9)(WE:Fk P w K mg base 1 q54 Uy Qi)(Yk:Fk P w K mg base 2 q36 WU Ur)(M5:Fk P w K mg base 2 q39 SD HI)(JP:Fk P w K mg base 3 q34 QU Iq)(MQ:Fk P w K mg base 1 q62 RO IA)(KG:Fk P w K mg base 1 q76 QJ J5)(HU:Fk P w K mg base 1 q75 RR Kq)(Xa:mg "list"=none)(ZO:mg q98=none)(WR:mg "int"=none):Fk P w K mg base 11 "law" Li TM:=
 Ox.mk' (ZE (k:=10) Ox.F Yx zc5 λ_ _ _ _ _ _ hr=>⟨_,(Zg (Zy (i:=1) Yx.nd (Zf ZW Zd (Zf Yc (Zj Yk hr (Za (dv 0) (Za Zd Ze))) Zd))) (Zg (Zy (i:=2) Yx.nd (Zj HU hr (Za (Zj Yk hr (Za (dv 0) (Za Zd Ze))) Ze))) (Zg (Qj (x:="_law_k") (N:=["_law_script"]) (caps:=[0]) (ar:=Zo Xq) rfl rfl csc rfl (by decide) (i:=3) Yx.nd rfl rfl rfl ZO (Za (dv 1) Ze) (λ_ _ _ _ _ _=>YE) (λ_ _ _ _ _ _=>(Zj KG hr (Za (Zj Yk hr (Za (dv 1) (Za (Zf ZW Zd (Zf ZR Zd (dv 0))) Ze))) (Za (Zj Yk hr (Za (dv 1) (Za (Zf ZW Zd (Zf ZR Zd (dv 0))) Ze))) Ze))))) (Zg (Wu (i:=4) Yx.nd rfl (Or.inr rfl) (Zf ZW Zd (Zf Yc (Zj Yk hr (Za (dv 0) (Za Zd Ze))) Zd))) (Zg (Qj (x:="_law_k") (N:=["_law_script","_law_share"]) (caps:=[0,4]) (ar:=Zo Xq) rfl rfl csc rfl (by decide) (i:=5) Yx.nd rfl rfl rfl ZO (Za (dv 1) Ze) (λ_ _ _ _ _ _=>YE) (λ_ _ _ _ _ _=>(Zf YK (Zj Yk hr (Za (dv 1) (Za (Zf ZW Zd (dv 0)) Ze))) (Zf ZW (dv 2) Zd)))) (Zg (Zy (i:=6) Yx.nd (Zj MQ hr (Za (dv 3) (Za (dv 5) (Za (dv 4) (Za (dv 2) Ze)))))) (Zg (Qj (x:="_law_k") (N:=["_law_script","_law_share"]) (caps:=[0,4]) (ar:=Zo Xq) rfl rfl csc rfl (by decide) (i:=7) Yx.nd rfl rfl rfl ZO (Za (dv 1) Ze) (λ_ _ _ _ _ _=>YE) (λ_ _ _ _ _ _=>(Zf YK (Zj Yk hr (Za (dv 1) (Za (Zf ZW Zd (dv 0)) Ze))) (Zf ZW (dv 2) Zd)))) (Zg (IP (dv 7) Zd (Zf YK (Zf ZW (Zf ZW (Zw (dv 5) Zd) Zd) (Zf YK (Zj Yk hr (Za (dv 0) (Za Zd Ze))) (dv 4))) (Zf ZW (dv 4) Zd))) (Zg (Zy (i:=8) Yx.nd (Zj MQ hr (Za (dv 3) (Za (dv 7) (Za (dv 4) (Za (dv 2) Ze)))))) (Zg (ZQ (Xw (Zj WE hr (Za (dv 0) Ze))) (Zh (BO (is:=[3,6,8]) rfl Yx.nd (Nms.cons (i:=3) rfl (Or.inl rfl) (by first|exact .inl rfl|exact .inr rfl) (Nms.cons (i:=6) rfl (Or.inl rfl) (by first|exact .inl rfl|exact .inr rfl) (Nms.cons (i:=8) rfl (Or.inl rfl) (by first|exact .inl rfl|exact .inr rfl) Nms.nil))) (Zj JP hr (Za (dv 0) (Za (dv 1) (Za (dv 2) Ze)))))) ZS) (Zg (Qj (x:="_law_k") (N:=[]) (caps:=[]) (ar:=Zo Xq) rfl rfl csc rfl (by decide) (i:=9) Yx.nd rfl rfl rfl ZO (Za (dv 1) Ze) (λ_ _ _ _ _ _=>YE) (λ_ _ _ _ _ _=>(ZT (Za Z4 (Za (dv 0) Ze))))) (Zg (Zy (i:=10) Yx.nd (Zj M5 hr (Za (dv 9) (Za (dv 6) (Za (dv 2) Ze))))) (Zg (Zy (i:=11) Yx.nd (Zj M5 hr (Za (dv 9) (Za (dv 8) (Za (dv 2) Ze))))) (Zg (T8 (x:="_law_node") (N:=[]) (caps:=[]) (ar:=Zo Xq) rfl rfl csc rfl (by decide) (i:=12) Yx.nd rfl rfl (dv 9) (λ_ _ _ _ _ _=>YE) (λ_ _ _ _ _ _=>(Zf ZW Zd (WO JQ rfl WR Boot.«int» (Za (YQ (ZV hr) (Zi (dv 0) Zd) Z4 (ZH _)) Ze))))) (Zg (zao (i:=13) PassesOwn.never rfl Yx.nd rfl (Or.inl rfl) rfl ZO (Za Zd (Za Zd Ze)) (Zh (Yo (Zj JU hr (Za (dv 9) (Za (dv 12) (Za (Zj Yk hr (Za (dv 0) (Za (dv 13) Ze))) (Za (Zf YB (Zf YJ Zd (dv 1)) Zd) (Za (Zj WE hr (Za (dv 0) Ze)) Ze))))))))) (Zg (Zy (i:=14) Yx.nd (Zj JN hr (Za (dv 0) (Za (dv 9) (Za (dv 10) (Za (dv 11) Ze)))))) (Zg (Zy (i:=15) Yx.nd (Zj LQ hr (Za (dv 9) (Za (dv 3) (Za (dv 2) (Za (dv 0) (Za Zd Ze))))))) (Zg (T8 (x:="_law_span") (N:=[]) (caps:=[]) (ar:=Zo Xq) rfl rfl csc rfl (by decide) (i:=16) Yx.nd rfl rfl (dv 3) (λ_ _ _ _ _ _=>YE) (λ_ _ _ _ _ _=>(ZT (Za (Zf Yj (Zf ZW (Zi (dv 0) Zd) (Zi (dv 0) Zd)) Zd) (Za (Zf Yj (Zf ZW (Zi (dv 0) Zd) (Zi (dv 0) Zd)) Zd) Ze))))) (Zg (Zy (i:=17) Yx.nd (Zj LQ hr (Za (dv 9) (Za (dv 16) (Za (dv 2) (Za (dv 0) (Za Zd Ze))))))) (Zg (Zy (i:=18) Yx.nd (Zj Jz hr (Za (dv 9) (Za (dv 15) (Za (dv 1) (Za (dv 2) (Za (dv 0) Ze))))))) (Zg (T8 (x:="_law_row") (N:=[]) (caps:=[]) (ar:=Zo Xq) rfl rfl csc rfl (by decide) (i:=19) Yx.nd rfl rfl (dv 14) (λ_ _ _ _ _ _=>YE) (λ_ _ _ _ _ _=>(Zi (dv 0) Zd))) (Zg (Zy (i:=20) Yx.nd (Zj IU hr (Za (dv 0) (Za Zd (Za (dv 18) (Za (dv 19) (Za (dv 2) Ze))))))) (Zg (Zy (i:=21) Yx.nd (Zj Jh hr (Za (Zj KH hr (Za (dv 17) (Za (dv 18) (Za (dv 19) (Za (dv 3) (Za (dv 2) (Za (dv 20) Ze))))))) (Za (dv 3) Ze)))) (Zg (Zy (i:=22) Yx.nd (Ye (Za (ZT (Za (WO (ZM Tc) rfl Xa Boot.«list» (Za (dv 3) Ze)) (Za (ZT (Za Z4 (Za (dv 20) (Za (dv 21) (Za (dv 15) (Za (dv 17) (Za (dv 18) Ze))))))) Ze))) Ze))) (Zg (Zy (i:=23) Yx.nd (Ye (Za (WO (ZM Tc) rfl Xa Boot.«list» (Za (dv 9) Ze)) (Za (WO (ZM Tc) rfl Xa Boot.«list» (Za (dv 14) Ze)) (Za (WO (ZM Tc) rfl Xa Boot.«list» (Za (dv 3) Ze)) (Za (Zj Jf hr (Za (dv 22) Ze)) Ze)))))) (Zg (Zy (i:=24) Yx.nd (Zj HL hr (Za (Zw (dv 23) Zd) (Za (Zw (dv 23) Zd) (Za (Zw (dv 23) Zd) (Za (dv 2) (Za (Zw (dv 23) Zd) Ze))))))) (Zh (Zv (Vg (YQ zcP (dv 24) W9 (ZH _)) (Vd (YQ (AB hr) (dv 23) (Ye (Za (dv 9) (Za (dv 14) (Za (dv 3) (Za (dv 22) Ze))))) (ZH _)))))))))))))))))))))))))))))))),λds S Q ex h=>by
  obtain⟨cs,rfl,rfl,hl,h⟩:=h;refine Ys (λdl' S'=>S'=[.frz (cs.map D.int)]/\∃q:Nat,(1<=q/\q<=2)/\dl'=some (.ref 0)::some (.int (q:Int))::N23) (λnx hx=>?_) ?_
  ·refine⟨cs,rfl,⟨by decide,by decide⟩,λv0=>?_⟩;obtain⟨q,eq,q1,q2⟩:∃q:Nat,(1:Int)+v0%2=(q:Int)/\1<=q/\q<=2:=⟨(1+v0%2).toNat,by lia,by lia,by lia⟩;exact hx _ _ ⟨rfl,q,⟨q1,q2⟩,by rw[<- eq];rfl⟩
  rintro dl' S' ⟨rfl,q,⟨q1,q2⟩,rfl⟩;refine Ys (λdl' S'=>S'=[.frz (cs.map D.int)]/\∃g:Int,(1<=g/\g<=1000000)/\dl'=some (.ref 0)::some (.int (q:Int))::some (.int g)::N22) (λnx hx=>?_) ?_
  ·refine⟨cs,rfl,⟨by decide,by decide⟩,λv1=>?_⟩;intro g hg g2;exact hx _ _ ⟨rfl,g,⟨hg,g2⟩,rfl⟩
  rintro dl' S' ⟨rfl,g,hg,rfl⟩;refine Ys (λdl' S'=>∃ps:LI,A4 (S'=[.frz (cs.map D.int),.lst (ps.map frD)]) (ps.length=q) (∀p∈ps,p.1<p.2/\p.1.natAbs<=2000000/\p.2.natAbs<=2000000) (dl'=some (.ref 0)::some (.int (q:Int))::some (.int g)::some (.ref 1)::N21)) (λnx hx=>?_) ?_
  ·have m2:∀k:Int,IntMulOk 2 k:=λk=>IntMulOk.of_left (by decide)
   refine HB (j:=(q:Nat)) (S1:=[.frz (cs.map D.int)]) (λ_ d=>∃p,d=frD p/\(p.1<p.2/\p.1.natAbs<=2000000/\p.2.natAbs<=2000000)) (λK hK=>by exact hK) ⟨by lia,by lia⟩ (λk hk S2 K pr hK=>?_) (λxs lx hx'=>?_)
   ·refine⟨m2 _,cs,JD pr rfl,⟨by lia,by lia⟩,λa=>?_⟩;refine⟨m2 _,cs,JD pr rfl,⟨by lia,by lia⟩,λb=>?_⟩;exact λt b h1 h2 h3=>hK _ ⟨(t,b),rfl,h1,h2,h3⟩
   obtain⟨ps,rfl,gp⟩:=Fl xs hx';rw[zA] at lx;exact hx _ _ ⟨ps,rfl,by lia,gp,rfl⟩
  rintro dl' S' ⟨ps,rfl,lps,gp,rfl⟩;refine Ys (λdl' S'=>S'=[.frz (cs.map D.int),.lst (ps.map frD)]/\∃W:Int,(1<=W/\W<=60)/\dl'=some (.ref 0)::some (.int (q:Int))::some (.int g)::some (.ref 1)::some (.int W)::N20) (λnx hx=>?_) ?_
  ·refine⟨cs,rfl,⟨by decide,by decide⟩,λv2=>?_⟩;exact hx _ _ ⟨rfl,1+v2%60,by lia,rfl⟩
  rintro dl' S' ⟨rfl,W,hW,rfl⟩;have sb:Spn 51 ps:=λp hp=>⟨by have:=(gp p hp).1;lia,Sz.of (n:=51) (10^15) (by have:=(gp p hp).2.1;lia),Sz.of (n:=51) (10^15) (by have:=(gp p hp).2.2;lia)⟩
  have hW':1<=W/\W<=1000000:=by lia
  have ptb:∀ts:List Int,ps.length=ts.length->(∀t∈ts,0<=t/\t<=W)->∀p∈pts ps ts W g ps.length,1<=p.2/\p.2<=10^9/\p.1.natAbs<=10^9:=λts lts gts p hp=>by
   obtain⟨k,hk,rfl⟩:=zN.mp hp;have hk':=List.mem_range.mp hk;obtain⟨t,b,_,_,a,_,_⟩:=KQ sb hW' gts hg hk' lts;have z:=gp _ (VG (i:=(k:Int)) ⟨by lia,by lia⟩)
   have a1:((gt ps k).1*W).natAbs<=2000000*60:=by rw[xV];exact xM z.2.1 (by lia)
   have a2:(((gt ps k).2-(gt ps k).1)*ts.getD k 0).natAbs<=4000000*60:=by rw[xV];exact xM (by lia) (by lia)
   have a3:(g*W).natAbs<=1000000*60:=by rw[xV];exact xM (by lia) (by lia)
   refine⟨a,?_,?_⟩
   ·show g*W<=10^9;lia
   ·show ((gt ps k).1*W+((gt ps k).2-(gt ps k).1)*ts.getD k 0).natAbs<=10^9;lia
  refine Ys (λdl' S'=>∃ts:List Int,A4 (S'=[.frz (cs.map D.int),.lst (ps.map frD),.lst (ts.map D.int)]) (ts.length=q) (∀t∈ts,0<=t/\t<=W) (dl'=some (.ref 0)::some (.int (q:Int))::some (.int g)::some (.ref 1)::some (.int W)::some (.ref 2)::N19)) (λnx hx=>?_) ?_
  ·refine HB (j:=(q:Nat)) (S1:=[.frz (cs.map D.int),.lst (ps.map frD)]) (λ_ d=>∃t:Int,d=.int t/\(0<=t/\t<=W)) (λK hK=>by exact hK) ⟨by lia,by lia⟩ (λk hk S2 K pr hK=>?_) (λxs lx hx'=>?_)
   ·refine⟨cs,JD pr rfl,⟨by lia,by lia⟩,λa=>?_⟩;have rz:=Yu (a:=a) (b:=W+1) (by lia);exact⟨show (0:Int)<W+1 by lia,hK _ ⟨_,rfl,rz.1,by lia⟩⟩
   obtain⟨ts,rfl,gts⟩:=J4 xs hx';rw[zA] at lx;exact hx _ _ ⟨ts,rfl,by lia,gts,rfl⟩
  rintro dl' S' ⟨ts,rfl,lts,gts,rfl⟩;refine Ys (λdl' S'=>∃mp:Nat,A6 (S'[0]?=some (.frz (cs.map D.int))) (S'[1]?=some (.lst (ps.map frD))) (S'[2]?=some (.lst (ts.map D.int))) (S'[mp]?=some (.lst ((pts ps ts W g ps.length).map frD))) (3<=mp) (dl'=some (.ref 0)::some (.int (q:Int))::some (.int g)::some (.ref 1)::some (.int W)::some (.ref 2)::some (.ref mp)::N18)) (λnx hx=>?_) ?_
  ·refine⟨ps,ts,rfl,rfl,by lia,by lia,sb,hW',gts,hg,λT m pr lm hP=>?_⟩;exact hx _ _ ⟨m,pr _ _ rfl,pr _ _ rfl,pr _ _ rfl,hP,lm,rfl⟩
  rintro dl' S' ⟨mp,h0,hB,hT,hP,lmp,rfl⟩;refine Ys (λdl' S2=>∃us:List Int,A4 (S2=S'++[.lst (us.map D.int)]) (us.length=q) (∀t∈us,0<=t/\t<=W) (dl'=some (.ref 0)::some (.int (q:Int))::some (.int g)::some (.ref 1)::some (.int W)::some (.ref 2)::some (.ref mp)::some (.ref S'.length)::N17)) (λnx hx=>?_) ?_
  ·refine HB (j:=(q:Nat)) (S1:=S') (λ_ d=>∃t:Int,d=.int t/\(0<=t/\t<=W)) (λK hK=>by exact hK) ⟨by lia,by lia⟩ (λk hk S2 K pr hK=>?_) (λxs lx hx'=>?_)
   ·refine⟨cs,pr _ _ h0,⟨by lia,by lia⟩,λa=>?_⟩;have rz:=Yu (a:=a) (b:=W+1) (by lia);exact⟨show (0:Int)<W+1 by lia,hK _ ⟨_,rfl,rz.1,by lia⟩⟩
   obtain⟨us,rfl,gus⟩:=J4 xs hx';rw[zA] at lx;exact hx _ _ ⟨us,rfl,by lia,gus,rfl⟩
  rintro dl' S2 ⟨us,rfl,lus,gus,rfl⟩;have ix0:ixN q 0=some 0:=by
   have e:q=1\/q=2:=by lia
   rcases e with e|e<;>rw[e]<;>rfl
  have lP:=ZZ hP;refine Ys (λdl' S2=>∃us:List Int,A8 (S2[0]?=some (.frz (cs.map D.int))) (S2[1]?=some (.lst (ps.map frD))) (S2[mp]?=some (.lst ((pts ps ts W g ps.length).map frD))) (S2[S'.length]?=some (.lst (us.map D.int))) (us.length=q) (∀t∈us,0<=t/\t<=W) (ts.getD 0 0≠us.getD 0 0) (dl'=some (.ref 0)::some (.int (q:Int))::some (.int g)::some (.ref 1)::some (.int W)::some (.ref 2)::some (.ref mp)::some (.ref S'.length)::N17)) (λnx hx=>?_) ?_
  ·have t0:ts[0]?=some (ts.getD 0 0):=by rw[zK,zB (show 0<ts.length by lia)];rfl
   have g0:=gts _ (zJ t0);refine Eo (n:=S'.length) (k:=0) (λv S3=>S3=S'++[.lst (us.map D.int)]/\∃t:Int,v=.int t/\(0<=t/\t<=W)/\ts.getD 0 0≠t) (λK hK=>?_) (λS1 K hK=>by exact hK) (λS1 K hK=>by exact hK) ?_
   ·refine Zq (o:=.lst (ts.map D.int)) (i:=0) (d:=.int (ts.getD 0 0)) (Zn hT) (XA (j:=0) (by show (ts.map D.int)[0]?=_;rw[zF,t0];rfl)) ?_;refine⟨cs,Zn h0,⟨by decide,by decide⟩,λv=>?_⟩;have rv:=Yu (a:=v) (b:=W) (by lia)
    have rt:=Yu (a:=ts.getD 0 0+1+v%W) (b:=W+1) (by lia);refine⟨show (0:Int)<W by lia,show (0:Int)<W+1 by lia,?_⟩;exact hK _ _ ⟨rfl,_,rfl,⟨rt.1,by lia⟩,zaP g0 hW.1 rv⟩
   ·rintro v S3 ⟨rfl,t,rfl,ht,ne⟩;refine⟨us.map D.int,0,Zz _ _,by rw[zA,lus];exact ix0,?_⟩;have l0:=ZZ h0
    have l1:=ZZ hB;refine hx _ _ ⟨us.set 0 t,ZY (Zn h0) (by lia),ZY (Zn hB) (by lia),ZY (Zn hP) (by lia),by rw[List.map_set];exact Yp (Zz _ _),by rw[List.length_set];exact lus,λx hx=>?_,?_,rfl⟩
    ·rcases List.mem_or_eq_of_mem_set hx with e|e
     ·exact gus x e
     ·rw[e];exact ht
    ·rw[zK (l:=us.set 0 t),xH (by lia)];exact ne
  clear gus lus;clear us;have l1:=ZZ hB;clear h0 hB hP hT lP;generalize S'.length=mu;rintro dl' S2 ⟨us,h0,hB,hP,hU,lus,gus,ne0,rfl⟩;refine Ys (λdl' S'=>E7 λ(mp m2:Nat)(P P2:LI)(o4 o5 o7:Option D)=>A12 (S'[0]?=some (.frz (cs.map D.int))) (S'[1]?=some (.lst (ps.map frD))) (S'[mp]?=some (.lst (P.map frD))) (S'[m2]?=some (.lst (P2.map frD))) (P.length=q) (P2.length=q) (InW g ps P) (InW g ps P2) (∀p∈P,1<=p.2/\p.2<=10^9/\p.1.natAbs<=10^9) (∀p∈P2,1<=p.2/\p.2<=10^9/\p.1.natAbs<=10^9) ((gt P 0).1*(gt P2 0).2≠(gt P2 0).1*(gt P 0).2) (dl'=some (.ref 0)::some (.int (q:Int))::some (.int g)::some (.ref 1)::o4::o5::some (.ref mp)::o7::some (.ref m2)::N16)) (λnx hx=>?_) ?_
  ·refine⟨ps,us,hB,hU,by lia,by lia,sb,hW',gus,hg,λT m pr lm hP2=>?_⟩;refine hx _ _ ⟨mp,m,_,_,_,_,_,pr _ _ h0,pr _ _ hB,pr _ _ hP,hP2,by rw[Le];exact lps,by rw[Le];exact lps,EA sb hW' gts hg (by lia),EA sb hW' gus hg (by lia),ptb ts (by lia) gts,ptb us (by lia) gus,?_,rfl⟩;have hp0:=gp _ (VG (vs:=ps) (i:=0) ⟨by lia,by lia⟩)
   have e1:∀xs:List Int,gt (pts ps xs W g ps.length) 0=((gt ps 0).1*W+((gt ps 0).2-(gt ps 0).1)*xs.getD 0 0,g*W):=λxs=>by
    refine Xj (k:=0) ?_;unfold pts;rw[zF,xT (by lia)];rfl
   rw[e1,e1];exact Dg hp0.1 hW.1 hg.1 ne0
  clear h0 hB hP hU ne0 gus lus ptb gts lts hW hW' lmp l1;clear mu us ts mp W;rintro dl' S' ⟨mp,m2,P,P2,o4,o5,o7,h0,hB,hP,hP2,lP,lP2,iw,iw2,bp,bp2,df,rfl⟩;refine Ys (λdl' S'=>E6 λ(mb mp m2:Nat)(B P P2:LI)=>A14 (S'[0]?=some (.frz (cs.map D.int))) (S'[mb]?=some (.lst (B.map frD))) (S'[mp]?=some (.lst (P.map frD))) (S'[m2]?=some (.lst (P2.map frD))) (B.length=q) (P.length=q) (P2.length=q) (Spn 51 B) (InW g B P) (InW g B P2) (∀p∈P,1<=p.2/\p.2<=10^9/\p.1.natAbs<=10^9) (∀p∈P2,1<=p.2/\p.2<=10^9/\p.1.natAbs<=10^9) ((gt P 0).1*(gt P2 0).2≠(gt P2 0).1*(gt P 0).2) (dl'=some (.ref 0)::some (.int (q:Int))::some (.int g)::some (.ref mb)::o4::o5::some (.ref mp)::o7::some (.ref m2)::N16)) (λnx hx=>?_) ?_
  ·refine⟨cs,h0,?_⟩;cases frS cs
   ·exact hx _ _ ⟨1,mp,m2,ps,P,P2,h0,hB,hP,hP2,lps,lP,lP2,sb,iw,iw2,bp,bp2,df,rfl⟩
   ·refine⟨cs,q,h0,⟨rfl,by lia,by lia⟩,hg,λT n1 n2 n3 B' Q1 Q2 pr _ _ _ _ _ _ hB' hQ1 hQ2 l1 l2 l3 sB' i1 i2 b1 b2 d'=>?_⟩;exact⟨rfl,hx _ _ ⟨n1,n2,n3,B',Q1,Q2,pr _ _ h0,hB',hQ1,hQ2,l1,l2,l3,sB',i1,i2,b1,b2,d',rfl⟩⟩
  clear h0 hB hP hP2 lP lP2 iw iw2 bp bp2 df sb gp lps;clear mp m2 P P2 ps;rintro dl' S' ⟨mb,mp,m2,B,P,P2,h0,hB,hP,hP2,lB,lP,lP2,sb,iw,iw2,bp,bp2,df,rfl⟩;refine Ys (λdl' S2=>S2=S'++[.lst (((List.range q).map λ(k:Nat)=>Nd.unknown (k:Int)).map Nd.d)]/\dl'=some (.ref 0)::some (.int (q:Int))::some (.int g)::some (.ref mb)::o4::o5::some (.ref mp)::o7::some (.ref m2)::some (.ref S'.length)::N15) (λnx hx=>?_) ?_
  ·refine Kz (j:=(q:Nat)) (S1:=S') (λk=>.tup [.str "unknown",.int (k:Int)]) (λK hK=>by exact hK) ⟨by lia,by lia⟩ (λk hk S2 K pr hK=>by exact hK) ?_;have eN:((List.range ((q:Nat):Int).toNat).map λ(k:Nat)=>D.tup [.str "unknown",.int (k:Int)])=((List.range q).map λ(k:Nat)=>Nd.unknown (k:Int)).map Nd.d:=by
    rw[zZ,zI];rfl
   rw[eN];exact hx _ _ ⟨rfl,rfl⟩
  rintro dl' S2 ⟨rfl,rfl⟩;have hun:∀(i:Nat)(v:Nd),((List.range q).map λ(k:Nat)=>Nd.unknown (k:Int))[i]?=some v->v=.unknown i:=λi v hi=>by
   rw[zF] at hi;obtain⟨j,hj,rfl⟩:=zS.mp hi;obtain⟨_,e⟩:=zD.mp hj;rw[List.getElem_range] at e;rw[e]
  have net0:=ET q
  have hv0:Wl ((List.range q).map λ(k:Nat)=>Nd.unknown (k:Int)) ((List.range q).map λ_=>1):=λi v hi=>by
   rw[hun i v hi,(net0.ok i v hi).2.1,hun i v hi];rfl
  have unk0:∀k:Nat,k<q->((List.range q).map λ(k:Nat)=>Nd.unknown (k:Int))[k]?=some (.unknown (k:Int)):=λk hk=>by rw[zF,xT hk];rfl
  have ln0:((List.range q).map λ(k:Nat)=>Nd.unknown (k:Int)).length=q:=by rw[zA,xW]
  have l0:=ZZ h0
  have l1:=ZZ hB
  have l2:=ZZ hP
  have l3:=ZZ hP2
  have W5:=Zz S' (Ob.lst (((List.range q).map λ(k:Nat)=>Nd.unknown (k:Int)).map Nd.d))
  have W1:=Zn (T:=[Ob.lst (((List.range q).map λ(k:Nat)=>Nd.unknown (k:Int)).map Nd.d)]) h0
  have W2:=Zn (T:=[Ob.lst (((List.range q).map λ(k:Nat)=>Nd.unknown (k:Int)).map Nd.d)]) hB
  have W3:=Zn (T:=[Ob.lst (((List.range q).map λ(k:Nat)=>Nd.unknown (k:Int)).map Nd.d)]) hP
  have W4:=Zn (T:=[Ob.lst (((List.range q).map λ(k:Nat)=>Nd.unknown (k:Int)).map Nd.d)]) hP2
  have lS:(S'++[Ob.lst (((List.range q).map λ(k:Nat)=>Nd.unknown (k:Int)).map Nd.d)]).length=S'.length+1:=by rw[zG];rfl
  generalize S'++[Ob.lst (((List.range q).map λ(k:Nat)=>Nd.unknown (k:Int)).map Nd.d)]=S2 at W1 W2 W3 W4 W5 lS ⊢;clear h0 hB hP hP2;generalize S'.length=mn at *
  generalize (List.range q).map (λ(k:Nat)=>Nd.unknown (k:Int))=us at *
  generalize (List.range q).map (λ_=>1)=wu at *
  refine Ys (λdl' S3=>E4 λ(mf:Nat)(vs:List Nd)(ws fs:List Nat)=>A7 (Gr q mn 8 S2 us wu S3 vs ws) (S3[mf]?=some (.lst (fs.map wtD))) (mn<mf) (fs.length=q) (∀f∈fs,Zr P vs ws 2 f) (Wl vs ws) (dl'=some (.ref 0)::some (.int (q:Int))::some (.int g)::some (.ref mb)::o4::o5::some (.ref mp)::o7::some (.ref m2)::some (.ref mn)::some (.ref mf)::N14)) (λnx hx=>?_) ?_
  ·refine⟨q,P,us,wu,W5,W3,by lia,net0,lP.symm,by lia,by lia,hv0,unk0,bp,λT m fs ns' ws' gr hF lf zf hv lm=>?_⟩;exact hx _ _ ⟨m,ns',ws',fs,gr,hF,by lia,lf,zf,hv,rfl⟩
  rintro dl' S3 ⟨mf,vs,ws,fs,gr,hF,lmf,lf,zf,hv,rfl⟩;refine Ys (λdl' S4=>E4 λ(m3:Nat)(vs:List Nd)(ws hs:List Nat)=>A9 (Gr q mn 16 S2 us wu S4 vs ws) (S4[mf]?=some (.lst (fs.map wtD))) (S4[m3]?=some (.lst (hs.map wtD))) (mn<m3) (hs.length=q) (∀f∈fs,Zr P vs ws 2 f) (∀f∈hs,Zr P2 vs ws 2 f) (Wl vs ws) (dl'=some (.ref 0)::some (.int (q:Int))::some (.int g)::some (.ref mb)::o4::o5::some (.ref mp)::o7::some (.ref m2)::some (.ref mn)::some (.ref mf)::some (.ref m3)::N13)) (λnx hx=>?_) ?_
  ·have lg:=gr.ln;refine⟨q,P2,vs,ws,gr.nd,gr.kp _ _ (by lia) W4,by lia,gr.net,lP2.symm,by lia,by lia,hv,λk hk=>gr.get (unk0 k hk),bp2,λT m hs ns' ws' gr2 hH lh zh hv2 lm=>?_⟩;exact hx _ _ ⟨m,ns',ws',hs,(gr.trans gr2).mono (by lia),gr2.kp _ _ (by lia) hF,hH,by have:=gr.len;lia,lh,λf hf=>(zf f hf).up gr2 gr.net,zh,hv2,rfl⟩
  clear hF zf hv gr;clear vs ws;rintro dl' S4 ⟨m3,vs,ws,hs,gr,hF,hH,lm3,lh,zf,zh,hv,rfl⟩;replace W1:=gr.kp _ _ (by lia) W1;replace W2:=gr.kp _ _ (by lia) W2;have net:=gr.net
  have hN:=gr.nd
  have lv:1<=vs.length/\vs.length<=18:=by have:=gr.ln;lia
  clear gr W3 W4 W5 unk0 hv0 net0 hun;have lw:=net.len;refine Ys (λdl' S5=>S5=S4++[.lst (ws.map wtD)]/\dl'=some (.ref 0)::some (.int (q:Int))::some (.int g)::some (.ref mb)::o4::o5::some (.ref mp)::o7::some (.ref m2)::some (.ref mn)::some (.ref mf)::some (.ref m3)::some (.ref S4.length)::N12) (λnx hx=>?_) ?_
  ·refine Qx (n:=mn) (o:=.lst (vs.map Nd.d)) (S1:=S4) (λk d=>d=wtD (ws.getD k 0)) (λK hK=>by exact hK) hN (by show (vs.map Nd.d).length<=1000;rw[zA];lia) (λk x hk S3 K pr hK=>?_) (λys ly hy=>?_)
   ·have hx':(vs.map Nd.d)[k]?=some x:=hk;rw[zF] at hx';obtain⟨v,ev,rfl⟩:=zS.mp hx';have e:=hv k v ev
    have z:=hK _ rfl;rw[e] at z;cases v<;>exact z
   ·have ly':ys.length=vs.length:=by
     rw[ly];show (vs.map Nd.d).length=_;rw[zA]
    have ey:ys=ws.map wtD:=xN λi=>by
     cases c:ys[i]? with
     | none=>
      have:=yY.mp c;rw[zF,yK (by lia)];rfl
     | some d=>
      have:=(zD.mp c).1;rw[hy i d c,zF,zK,zB (by lia)];rfl
    rw[ey];exact hx _ _ ⟨rfl,rfl⟩
  rintro dl' S5 ⟨rfl,rfl⟩;obtain⟨M,eM,M2,M15⟩:∃M:Nat,(16:Int)/((q:Nat):Int)-4=(M:Int)/\2<=M/\q*(M+4)<=16:=by
   have e:q=1\/q=2:=by lia
   rcases e with e|e<;>rw[e]
   ·exact⟨12,rfl,by decide,by decide⟩
   ·exact⟨4,rfl,by decide,by decide⟩
  have wM:∀i:Nat,ws.getD i 0<=M:=λi=>by
   by_cases ci:i<vs.length
   ·have e:=hv i _ (zB ci)
    have:vs[i].hv<=2:=by cases vs[i]<;>simp[Nd.hv]
    lia
   ·rw[zK,yK (by lia)];exact zL _
  have lnN:=ZZ hN
  have lnF:=ZZ hF
  have lnH:=ZZ hH
  have Y1:=Zn (T:=[Ob.lst (ws.map wtD)]) W1
  have Y2:=Zn (T:=[Ob.lst (ws.map wtD)]) W2
  have Y3:=Zn (T:=[Ob.lst (ws.map wtD)]) hF
  have Y4:=Zn (T:=[Ob.lst (ws.map wtD)]) hH
  have Y5:=Zn (T:=[Ob.lst (ws.map wtD)]) hN
  have Y6:(S4++[Ob.lst (ws.map wtD)])[S4.length]?=some (.lst (ws.map wtD)):=Zz _ _;clear W1 W2 hF hH hN hv;generalize S4++[Ob.lst (ws.map wtD)]=S5 at Y1 Y2 Y3 Y4 Y5 Y6 ⊢;generalize S4.length=mh at *
  refine Ys (λdl' S6=>E4 λ(xs:List Nd)(wx:List Nat)(o12 o13:Option D)=>A11 (S6[0]?=some (.frz (cs.map D.int))) (S6[mb]?=some (.lst (B.map frD))) (S6[mf]?=some (.lst (fs.map wtD))) (S6[m3]?=some (.lst (hs.map wtD))) (S6[mn]?=some (.lst (xs.map Nd.d))) (Z3 q xs wx) (1<=xs.length/\xs.length<=24) (∀i:Nat,wx.getD i 0<=M) (∀f∈fs,Zr P xs wx 2 f) (∀f∈hs,Zr P2 xs wx 2 f) (dl'=some (.ref 0)::some (.int (q:Int))::some (.int g)::some (.ref mb)::o4::o5::some (.ref mp)::o7::some (.ref m2)::some (.ref mn)::some (.ref mf)::some (.ref m3)::o12::o13::N11)) (λnx hx=>?_) ?_
  ·refine⟨⟨by decide,by decide,by decide,by decide⟩,λk dl' S6=>k<=6/\E3 λ(ms:List Nd)(ks:List Nat)(o13:Option D)=>A10 (S6[0]?=some (.frz (cs.map D.int))) (S6[mb]?=some (.lst (B.map frD))) (S6[mf]?=some (.lst (fs.map wtD))) (S6[m3]?=some (.lst (hs.map wtD))) (S6[mn]?=some (.lst ((vs++ms).map Nd.d))) (S6[mh]?=some (.lst ((ws++ks).map wtD))) (Z3 q (vs++ms) (ws++ks)) (ms.length<=k) (∀i:Nat,(ws++ks).getD i 0<=M) (dl'=some (.ref 0)::some (.int (q:Int))::some (.int g)::some (.ref mb)::o4::o5::some (.ref mp)::o7::some (.ref m2)::some (.ref mn)::some (.ref mf)::some (.ref m3)::some (.ref mh)::o13::N11),⟨by decide,[],[],none,Y1,Y2,Y3,Y4,by rw[yX];exact Y5,by rw[yX];exact Y6,by rw[yX,yX];exact net,zC _,by rw[yX];exact wM,rfl⟩,?_⟩;rintro k dl' S6 ⟨k8,ms,ks,o13,Y1,Y2,Y3,Y4,Y5,Y6,net',lm',wM',rfl⟩;refine Y0 (λc=>?_) (λc=>?_)
   ·have c':k<6:=c;refine⟨cs,Y1,⟨by lia,by lia⟩,λx=>?_⟩;refine⟨(Sz.of (n:=30) 1000 (show ((q:Nat):Int).natAbs<=1000 by lia)).fd (by lia),cs,Y1,?_⟩;refine⟨q,vs++ms,ws++ks,Y5,Y6,by lia,net',by rw[zG];lia,by rw[zG];lia,show (16:Int)/((q:Nat):Int)-4<=16 by rw[eM];have:M+4<=16:=yH (Nat.le_mul_of_pos_left (M+4) q1) M15;lia,λT3 m3' u3 n3 hu l3' t1 t2 lT kT=>?_⟩;obtain⟨u4,rfl,hu⟩:=hu;rw[xJ] at t1 t2;rw[xJ,xJ] at n3;have w3:∀i:Nat,(ws++(ks++u4)).getD i 0<=M:=λi=>by
     rw[<- xJ];by_cases ci:i<(ws++ks).length
     ·rw[KR ci];exact wM' i
     ·rw[zK,yA (by lia)];cases ew:u4[i-(ws++ks).length]? with
      | none=>exact zL _
      | some w=>
       have z:=hu w (zJ ew)
       have z':w=1\/(w:Int)<=(16:Int)/((q:Nat):Int)-4:=z;rw[eM] at z';show w<=M;lia
    exact⟨by lia,ms++m3',ks++u4,_,kT _ _ (by lia) (by lia) Y1,kT _ _ (by lia) (by lia) Y2,kT _ _ (by lia) (by lia) Y3,kT _ _ (by lia) (by lia) Y4,t1,t2,n3,by rw[zG];lia,w3,rfl⟩
   ·exact hx _ _ ⟨vs++ms,ws++ks,_,o13,Y1,Y2,Y3,Y4,Y5,net',by rw[zG];lia,wM',λf hf=>(zf f hf).app net,λf hf=>(zh f hf).app net,rfl⟩
  clear Y1 Y2 Y3 Y4 Y5 Y6 wM zf zh net lw lv lS ln0;clear vs ws us wu;rintro dl' S6 ⟨xs,wx,o12,o13,h0,hB,hF,hH,hN,net,lx,wM,zf,zh,rfl⟩;have pz:Pz 110 P:=λp hp=>⟨(bp p hp).1,Sz.of (n:=110) (10^9) (by have:=bp p hp;lia),Sz.of (n:=110) (10^9) (by have:=bp p hp;lia)⟩
  have pz2:Pz 110 P2:=λp hp=>⟨(bp2 p hp).1,Sz.of (n:=110) (10^9) (by have:=bp2 p hp;lia),Sz.of (n:=110) (10^9) (by have:=bp2 p hp;lia)⟩
  refine Ys (λdl' S7=>E4 λ(mr:Nat)(ys:List Nd)(wy is:List Nat)=>A10 (S7[0]?=some (.frz (cs.map D.int))) (S7[mb]?=some (.lst (B.map frD))) (S7[mn]?=some (.lst (ys.map Nd.d))) (S7[mr]?=some (.lst (is.map λi=>rwD (true,i)))) (Z3 q ys wy) (1<=ys.length/\ys.length<=47) (is.length=q) (∀i∈is,i<ys.length) ((∀i∈is,Zb P P2 ys wy 16 i)\/∃i,is[0]?=some i/\Qa P ys i) (dl'=some (.ref 0)::some (.int (q:Int))::some (.int g)::some (.ref mb)::o4::o5::some (.ref mp)::o7::some (.ref m2)::some (.ref mn)::some (.ref mf)::some (.ref m3)::o12::o13::some (.ref mr)::N10)) (λnx hx=>?_) ?_
  ·refine⟨cs,q,M,P,P2,xs,wx,fs,hs,h0,hN,hF,hH,by lia,by lia,net,lf,lh,⟨q1,q2⟩,M15,⟨lx.1,by lia⟩,λi _=>wM i,zf,zh,λT m ns' ws' is gr lm hR li his alt=>?_⟩;exact hx _ _ ⟨m,ns',ws',is,gr.kp _ _ (by lia) h0,gr.kp _ _ (by lia) hB,gr.nd,hR,gr.net,by have:=gr.ln;lia,li,his,alt,rfl⟩
  clear h0 hB hF hH hN net lx wM zf zh eM M2 M15 lf lh;clear xs wx M;rintro dl' S7 ⟨mr,ys,wy,is,h0,hB,hN,hR,net,ly,li,his,alt,rfl⟩;have netB:Z3 B.length ys wy:=by rw[lB];exact net
  have w16:∀k:Nat,k<ys.length->wy.getD k 0<=16:=λk hk=>by
   have z:=(net.w1 (i:=(k:Int)) ⟨by lia,by lia⟩).2
   rwa [zI] at z
  refine Ys (λdl' S8=>E2 λ(mv:Nat)(vs:LI)=>A6 (Pre S7 S8) (S8[mv]?=some (.lst (vs.map frD))) (vs.length=ys.length) (SzW wy vs) (Vp ys B g vs) (dl'=some (.ref 0)::some (.int (q:Int))::some (.int g)::some (.ref mb)::o4::o5::some (.ref mp)::o7::some (.ref m2)::some (.ref mn)::some (.ref mf)::some (.ref m3)::o12::o13::some (.ref mr)::some (.ref mv)::N9)) (λnx hx=>?_) ?_
  ·exact⟨cs,ys,wy,B,h0,hN,hB,netB,by lia,sb,hg,⟨by decide,by decide⟩,λT m vs pr lm hV lv szw cl=>hx _ _ ⟨m,vs,pr,hV,lv,szw,cl,rfl⟩⟩
  rintro dl' S8 ⟨mv,vs,pr,hV,lv,szw,cl,rfl⟩;replace h0:=pr _ _ h0;replace hB:=pr _ _ hB;replace hN:=pr _ _ hN;replace hR:=pr _ _ hR;clear pr;refine Ys (λdl' S9=>∃mc:Nat,A3 (Pre S8 S9) (S9[mc]?=some (.lst ((B.map Z5).map frD))) (dl'=some (.ref 0)::some (.int (q:Int))::some (.int g)::some (.ref mb)::o4::o5::some (.ref mp)::o7::some (.ref m2)::some (.ref mn)::some (.ref mf)::some (.ref m3)::o12::o13::some (.ref mr)::some (.ref mv)::some (.ref mc)::N8)) (λnx hx=>?_) ?_
  ·refine Xz (n:=mb) (S1:=S8) (o:=.lst (B.map frD)) QV (λK hK=>by exact hK) hB (by show (B.map frD).length<=1000;rw[zA];lia) (λx hx S3 K3 p3 hK3=>?_) ?_
   ·obtain⟨v,_,rfl⟩:=zN.mp (show x∈B.map frD from hx);exact hK3
   have ei:(Zs (Ob.lst (B.map frD))).map QV=(B.map Z5).map frD:=G2 B;rw[ei];exact hx _ _ ⟨_,YF _,Zz _ _,rfl⟩
  rintro dl' S9 ⟨mc,pr,hC,rfl⟩;replace h0:=pr _ _ h0;replace hB:=pr _ _ hB;replace hN:=pr _ _ hN;replace hR:=pr _ _ hR;replace hV:=pr _ _ hV;clear pr;have sbm:Spn 51 (B.map Z5):=λp hp=>by
   obtain⟨r,hr,rfl⟩:=zN.mp hp;have z:=sb r hr
   have e:Sz 51 (mid r):=by
    have a:=z.2.1
    have b:=z.2.2
    have o:=z.1;unfold Sz mid at *
    lia
   exact⟨yE _,e,e⟩
  refine Ys (λdl' S10=>E2 λ(mt:Nat)(th:LI)=>A6 (Pre S9 S10) (S10[mt]?=some (.lst (th.map frD))) (th.length=ys.length) (SzW wy th) (Vp ys (B.map Z5) g th) (dl'=some (.ref 0)::some (.int (q:Int))::some (.int g)::some (.ref mb)::o4::o5::some (.ref mp)::o7::some (.ref m2)::some (.ref mn)::some (.ref mf)::some (.ref m3)::o12::o13::some (.ref mr)::some (.ref mv)::some (.ref mc)::some (.ref mt)::N7)) (λnx hx=>?_) ?_
  ·exact⟨cs,ys,wy,B.map Z5,h0,hN,hC,by rw[zA];exact netB,by lia,sbm,hg,⟨by decide,by decide⟩,λT m th pr lm hV lv szw cl=>hx _ _ ⟨m,th,pr,hV,lv,szw,cl,rfl⟩⟩
  rintro dl' S10 ⟨mt,th,pr,hT,lt,szt,clt,rfl⟩;replace h0:=pr _ _ h0;replace hB:=pr _ _ hB;replace hN:=pr _ _ hN;replace hR:=pr _ _ hR;replace hV:=pr _ _ hV;clear pr;refine Ys (λdl' S11=>E3 λ(mm:Nat)(ds:List D)(R:List LI)=>A7 (Pre S10 S11) (S11[mm]?=some (.lst ds)) (Z8 S11 0 ds R) (R.length=ys.length) (SlW q wy R) (∀(i:Nat)(v:Nd)(r:LI)(l:Nat)(p:Int×Int),ys[i]?=some v->R[i]?=some r->r[l]?=some p->Ins p (v.sl vs R g l)) (dl'=some (.ref 0)::some (.int (q:Int))::some (.int g)::some (.ref mb)::o4::o5::some (.ref mp)::o7::some (.ref m2)::some (.ref mn)::some (.ref mf)::some (.ref m3)::o12::o13::some (.ref mr)::some (.ref mv)::some (.ref mc)::some (.ref mt)::some (.ref mm)::N6)) (λnx hx=>?_) ?_
  ·exact⟨cs,q,ys,wy,vs,h0,hN,hV,net,szw,lv,⟨rfl,by lia,by lia⟩,hg,by lia,λT m ds R pr lm hM rp lR slw ins=>hx _ _ ⟨m,ds,R,pr,hM,rp.low (zL _),lR,slw,ins,rfl⟩⟩
  rintro dl' S11 ⟨mm,ds,R,pr,hM,rp,lR,slw,ins,rfl⟩;replace h0:=pr _ _ h0;replace hB:=pr _ _ hB;replace hN:=pr _ _ hN;replace hR:=pr _ _ hR;replace hV:=pr _ _ hV;replace hT:=pr _ _ hT;clear pr;refine Ys (λdl' S12=>∃ma:Nat,A3 (Pre S11 S12) (S12[ma]?=some (.lst (is.map wtD))) (dl'=some (.ref 0)::some (.int (q:Int))::some (.int g)::some (.ref mb)::o4::o5::some (.ref mp)::o7::some (.ref m2)::some (.ref mn)::some (.ref mf)::some (.ref m3)::o12::o13::some (.ref mr)::some (.ref mv)::some (.ref mc)::some (.ref mt)::some (.ref mm)::some (.ref ma)::N5)) (λnx hx=>?_) ?_
  ·refine Xz (n:=mr) (S1:=S11) (o:=.lst (is.map λi=>rwD (true,i))) sndD (λK hK=>by exact hK) hR (by show (is.map _).length<=1000;rw[zA];lia) (λx hx S3 K3 p3 hK3=>?_) ?_
   ·obtain⟨v,_,rfl⟩:=zN.mp (show x∈is.map _ from hx);exact hK3
   have ei:(Zs (Ob.lst (is.map λi=>rwD (true,i)))).map sndD=is.map wtD:=zag is;rw[ei];exact hx _ _ ⟨_,YF _,Zz _ _,rfl⟩
  rintro dl' S12 ⟨ma,pr,hA,rfl⟩;replace h0:=pr _ _ h0;replace hB:=pr _ _ hB;replace hN:=pr _ _ hN;replace hR:=pr _ _ hR;replace hV:=pr _ _ hV;replace hT:=pr _ _ hT;replace hM:=pr _ _ hM;replace rp:=rp.pre pr;clear pr;have zR:∀r∈R,r.length=q/\Bd 1100 r:=λr hr=>by
   obtain⟨k,hk⟩:=wC.mp hr;have lk:=(zD.mp hk).1;obtain⟨z1,z2⟩:=slw k r hk;have w:=w16 k (by lia);exact⟨z1,λp hp=>⟨(z2 p hp).2.1.mono (by lia),(z2 p hp).2.2.mono (by lia)⟩⟩
  refine Ys (λdl' S13=>E3 λ(mu:Nat)(ms:List D)(M:List (List Int))=>A6 (Pre S12 S13) (S13[mu]?=some (.lst ms)) (Xr S13 ms M) (M.length=q) (∀r∈M,r.length=q/\∀x∈r,Sz 4000 x) (dl'=some (.ref 0)::some (.int (q:Int))::some (.int g)::some (.ref mb)::o4::o5::some (.ref mp)::o7::some (.ref m2)::some (.ref mn)::some (.ref mf)::some (.ref m3)::o12::o13::some (.ref mr)::some (.ref mv)::some (.ref mc)::some (.ref mt)::some (.ref mm)::some (.ref ma)::some (.ref mu)::N4)) (λnx hx=>?_) ?_
  ·exact⟨cs,q,R,ds,is,h0,⟨by decide,by decide⟩,hM,rp,hA,li,⟨q1,q2⟩,λi hi=>by rw[lR];exact his i hi,zR,hg,λT m ms M pr lm hU ri lM zM=>hx _ _ ⟨m,ms,M,pr,hU,ri,lM,zM,rfl⟩⟩
  rintro dl' S13 ⟨mu,ms,M,pr,hU,ri,lM,zM,rfl⟩;replace h0:=pr _ _ h0;replace hB:=pr _ _ hB;replace hN:=pr _ _ hN;replace hR:=pr _ _ hR;replace hV:=pr _ _ hV;replace hT:=pr _ _ hT;replace hM:=pr _ _ hM;replace rp:=rp.pre pr;replace hA:=pr _ _ hA;clear pr;have spV:=szw.spn (λk hk=>w16 k (by lia))
  have spT:=szt.spn (λk hk=>w16 k (by lia))
  have zbB:Bd 60 B:=λp hp=>⟨(sb p hp).2.1.mono (by decide),(sb p hp).2.2.mono (by decide)⟩
  refine Ys (λdl' S14=>E2 λ(me:Nat)(aE:LI)=>A4 (Pre S13 S14) (S14[me]?=some (.lst (aE.map frD))) (aE.length=q) (dl'=some (.ref 0)::some (.int (q:Int))::some (.int g)::some (.ref mb)::o4::o5::some (.ref mp)::o7::some (.ref m2)::some (.ref mn)::some (.ref mf)::some (.ref m3)::o12::o13::some (.ref mr)::some (.ref mv)::some (.ref mc)::some (.ref mt)::some (.ref mm)::some (.ref ma)::some (.ref mu)::some (.ref me)::N3)) (λnx hx=>?_) ?_
  ·refine⟨R,ds,ms,is,B,th,M,hT,hM,rp,hA,hB,hU,ri,by lia,by lia,⟨by lia,by lia⟩,λi hi=>⟨by rw[lR];exact his i hi,by rw[lt];exact his i hi⟩,λr hr=>⟨by rw[lB];exact(zR r hr).1,λp hp=>⟨((zR r hr).2 p hp).1.mono (by decide),((zR r hr).2 p hp).2.mono (by decide)⟩⟩,λr hr=>⟨by rw[lB];exact(zM r hr).1,(zM r hr).2⟩,zbB,λp hp=>⟨(spT p hp).2.1.mono (by decide),(spT p hp).2.2.mono (by decide)⟩,hg,λT m us pr lm hD lu=>?_⟩;refine⟨us,B,hD,pr _ _ hB,lu,by lia,λT2 m2 aE pr2 lm2 hE le=>?_⟩;exact hx _ _ ⟨m2,aE,λx o e=>pr2 _ _ (pr _ _ e),hE,by lia,rfl⟩
  rintro dl' S14 ⟨me,aE,pr,hE,le,rfl⟩;replace hB:=pr _ _ hB;replace hN:=pr _ _ hN;replace hR:=pr _ _ hR;replace hV:=pr _ _ hV;replace hT:=pr _ _ hT;replace hM:=pr _ _ hM;replace rp:=rp.pre pr;replace hU:=pr _ _ hU;replace ri:=ri.pre pr;clear pr h0 hA;refine Ys (λdl' S15=>E3 λ(mk mx:Nat)(d:D)=>A5 (Pre S14 S15) (S15[mk]?=some (.lst [.tup [.ref mx,d]])) (S15[mx]?=some (.lst (B.map frD))) (Xx S15 d M aE vs th R) (dl'=[some (.ref 0),some (.int (q:Int)),some (.int g),some (.ref mb),o4,o5,some (.ref mp),o7,some (.ref m2),some (.ref mn),some (.ref mf),some (.ref m3),o12,o13,some (.ref mr),some (.ref mv),some (.ref mc),some (.ref mt),some (.ref mm),some (.ref ma),some (.ref mu),some (.ref me),some (.ref mk),none,none])) (λnx hx=>?_) ?_
  ·refine U2 (ZX hB rfl) ?_;dsimp only[Zs];refine hx _ _ ⟨_,_,_,YA (YF _),Zz _ _,Zn (Zz _ _),⟨mu,me,mv,mt,mm,ms,ds,rfl,Zn (Zn hU),ri.pre (YA (YF _)),Zn (Zn hE),Zn (Zn hV),Zn (Zn hT),Zn (Zn hM),rp.pre (YA (YF _))⟩,rfl⟩
  rintro dl' S15 ⟨mk,mx,d,pr,hK,hX,one,rfl⟩;replace hB:=pr _ _ hB;replace hN:=pr _ _ hN;replace hR:=pr _ _ hR;clear pr hV hT hM rp hU ri hE;refine Ys (λdl' S16=>E7 λ(md i1 i2 i3 i4 m':Nat)(d':D)=>A9 (Pre S15 S16) (S16[md]?=some (.lst [.ref i1,.ref i2,.ref i3,.ref i4])) (S16[i1]?=some (.lst (ys.map Nd.d))) (S16[i2]?=some (.lst (is.map λi=>rwD (true,i)))) (S16[i3]?=some (.lst (B.map frD))) (S16[i4]?=some (.lst [.tup [.ref m',d']])) (S16[m']?=some (.lst (B.map frD))) (Xx S16 d' M aE vs th R) (dl'=[some (.ref 0),some (.int (q:Int)),some (.int g),some (.ref mb),o4,o5,some (.ref mp),o7,some (.ref m2),some (.ref mn),some (.ref mf),some (.ref m3),o12,o13,some (.ref mr),some (.ref mv),some (.ref mc),some (.ref mt),some (.ref mm),some (.ref ma),some (.ref mu),some (.ref me),some (.ref mk),some (.ref md),none])) (λnx hx=>?_) ?_
  ·refine U2 (ZX hN rfl) ?_;refine U2 (ZX (Zn hR) rfl) ?_;refine U2 (ZX (Zn (Zn hB)) rfl) ?_;dsimp only[Zs];have p3:Pre S15 (S15++[Ob.lst (ys.map Nd.d)]++[Ob.lst (is.map λi=>rwD (true,i))]++[Ob.lst (B.map frD)]):=YA (YA (YF _));refine⟨mx,d,B,aE,vs,th,M,R,p3 _ _ hK,p3 _ _ hX,one.pre p3,⟨by lia,by lia,by lia,by lia,by lia⟩,λT n m' d' pr ln hn hm' one'=>?_⟩;exact hx _ _ ⟨_,_,_,_,_,m',d',λx o e=>Zn (pr _ _ (p3 _ _ e)),Zz _ _,Zn (pr _ _ (Zn (Zn (Zz _ _)))),Zn (pr _ _ (Zn (Zz _ _))),Zn (pr _ _ (Zz _ _)),Zn hn,Zn hm',one'.pre (YF _),rfl⟩
  rintro dl' S16 ⟨md,i1,i2,i3,i4,m',d',pr,hD,A1,A2,A3,A4,A5,one',rfl⟩;replace hB:=pr _ _ hB;replace hN:=pr _ _ hN;replace hR:=pr _ _ hR;replace hK:=pr _ _ hK;replace hX:=pr _ _ hX;replace one:=one.pre pr;clear pr;have fls:=AG (rows:=is.map λi=>(true,i)) net ⟨q1,q2⟩ lB lP lP2 (λp hp=>(sb p hp).1) hg iw iw2 pz pz2 df lv cl lR slw ins lt (λp hp=>(spT p hp).1) li his alt lM (λes h=>(zM es h).1) le;refine Ys (λdl' S17=>Pre S16 S17/\dl'=[some (.ref 0),some (.int (q:Int)),some (.int g),some (.ref mb),o4,o5,some (.ref mp),o7,some (.ref m2),some (.ref mn),some (.ref mf),some (.ref m3),o12,o13,some (.ref mr),some (.ref mv),some (.ref mc),some (.ref mt),some (.ref mm),some (.ref ma),some (.ref mu),some (.ref me),some (.ref mk),some (.ref md),some (.bl false)]) (λnx hx=>?_) ?_
  ·refine Zq (i:=0) (o:=.lst [.ref i1,.ref i2,.ref i3,.ref i4]) hD (d:=.ref i1) rfl ?_;refine Zq (i:=1) (o:=.lst [.ref i1,.ref i2,.ref i3,.ref i4]) hD (d:=.ref i2) rfl ?_;refine Zq (i:=2) (o:=.lst [.ref i1,.ref i2,.ref i3,.ref i4]) hD (d:=.ref i3) rfl ?_;refine Zq (i:=3) (o:=.lst [.ref i1,.ref i2,.ref i3,.ref i4]) hD (d:=.ref i4) rfl ?_;refine⟨B,m',d',false,A3,A5,A4,⟨ys,wy,is.map λi=>(true,i),B,aE,vs,th,M,R,A1,by rw[<- Ft];exact A2,A5,one',netB,by lia,by rw[zA];lia,⟨lv,lt,lR⟩,spV,spT,HH cl,HH clt,λr hr=>?_,by rw[lB];exact slw,CT ins,by rw[Ku];lia,by lia,λr hr=>⟨by rw[lB];exact(zM r hr).1,(zM r hr).2⟩,by lia,⟨by lia,by lia⟩,zbB,hg,?_⟩,λT p2=>hx _ _ ⟨p2,rfl⟩⟩
   ·obtain⟨i,hi,rfl⟩:=zN.mp hr;exact his i hi
   ·rw[Ku];exact fls.symm
  rintro dl' S17 ⟨pr,rfl⟩;refine⟨⟨_,_,Zn (pr _ _ hD),Zz _ _,rfl,λk x y hx hy=>?_⟩,?_⟩
  ·match k,hx,hy with
   | 0,hx,hy=>cases hx;cases hy;exact WT (λp=>CH p) (Zn (pr _ _ A1)) (Zn (pr _ _ hN))
   | 1,hx,hy=>
    cases hx;cases hy
    rw[Ft] at A2 hR;exact WT (λp=>zcO p) (Zn (pr _ _ A2)) (Zn (pr _ _ hR))
   | 2,hx,hy=>cases hx;cases hy;exact WT (λp=>Te p) (Zn (pr _ _ A3)) (Zn (pr _ _ hB))
   | 3,hx,hy=>
    cases hx;cases hy
    refine .inr (.inr ⟨_,_,_,_,rfl,rfl,Zn (pr _ _ A4),Zn (pr _ _ hK),rfl,λk x y hx hy=>?_⟩)
    match k,hx,hy with
    | 0,hx,hy=>
     cases hx;cases hy
     refine .inr (.inl ⟨_,_,rfl,rfl,rfl,λk x y hx hy=>?_⟩)
     match k,hx,hy with
     | 0,hx,hy=>cases hx;cases hy;exact WT (λp=>Te p) (Zn (pr _ _ A5)) (Zn (pr _ _ hX))
     | 1,hx,hy=>cases hx;cases hy;exact BS ((one'.pre pr).pre (YF _)) ((one.pre pr).pre (YF _))
     | k+2,hx,hy=>cases hx
    | k+1,hx,hy=>cases hx
   | k+4,hx,hy=>cases hx
  exact h _⟩)
end
theorem EW {l:PySem.W.OpenLaw}{w:World}{K:Fg}{h:Heap}{mg:Str->Option Value}{fa:Addr}(X:K.In h)(G:h.Ns mainGlobals mg)(hfa:mg "law"=some (.ref fa))
  (E0:PySem.W.nsIn K mainGlobals VH=some (some (.ref X7)))(EN:PySem.W.plainGet K X7 Str.empty=true)(C7:PySem.W.hasDictIn K X7=true)(zci:PySem.W.plainOver K X7=true)(zaz:PySem.W.findIn K (.ref X7) To=some (some (.builtin q99)))(zaK:PySem.W.makesIn K X7=true)(DC:PySem.W.keepIn K (.ref X7)=true)
  (CA:PySem.W.findIn K (.ref X7) W8=some none)
  (zaH:PySem.W.findIn K (.ref X7) "top"=some none)
  (AH:PySem.W.nsIn K mainGlobals VM=some (some (.ref Wn)))(zdi:PySem.W.plainGet K Wn Str.empty=true)(zc3:PySem.W.hasDictIn K Wn=true)(Cs:PySem.W.plainOver K Wn=true)(zdm:PySem.W.findIn K (.ref Wn) To=some (some (.builtin q99)))(CJ:PySem.W.makesIn K Wn=true)(Ck:PySem.W.keepIn K (.ref Wn)=true)
  (zcL:PySem.W.findIn K (.ref Wn) "place"=some none)
  (Co:PySem.W.nsIn K mainGlobals "Plus"=some (some (.ref XR)))(zbQ:PySem.W.plainGet K XR Str.empty=true)(zcv:PySem.W.hasDictIn K XR=true)(zby:PySem.W.plainOver K XR=true)(zdF:PySem.W.findIn K (.ref XR) To=some (some (.builtin q99)))(Bp:PySem.W.makesIn K XR=true)(zdv:PySem.W.keepIn K (.ref XR)=true)
  (BH:PySem.W.findIn K (.ref XR) Wd=some none)
  (CS:PySem.W.findIn K (.ref XR) "one"=some none)
  (zbc:PySem.W.nsIn K mainGlobals "Minus"=some (some (.ref XO)))(Cb:PySem.W.plainGet K XO Str.empty=true)(zco:PySem.W.hasDictIn K XO=true)(zdX:PySem.W.plainOver K XO=true)(Cj:PySem.W.findIn K (.ref XO) To=some (some (.builtin q99)))(EY:PySem.W.makesIn K XO=true)(zaO:PySem.W.keepIn K (.ref XO)=true)
  (zaM:PySem.W.findIn K (.ref XO) Wd=some none)
  (D7:PySem.W.findIn K (.ref XO) "one"=some none)
  (Bm:PySem.W.nsIn K mainGlobals "Times"=some (some (.ref XF)))(Dx:PySem.W.plainGet K XF Str.empty=true)(zdp:PySem.W.hasDictIn K XF=true)(Ad:PySem.W.plainOver K XF=true)(zcQ:PySem.W.findIn K (.ref XF) To=some (some (.builtin q99)))(Aj:PySem.W.makesIn K XF=true)(zcx:PySem.W.keepIn K (.ref XF)=true)
  (BC:PySem.W.findIn K (.ref XF) Wd=some none)
  (Aa:PySem.W.findIn K (.ref XF) "one"=some none)
  (zbF:PySem.W.nsIn K mainGlobals "Power"=some (some (.ref X4)))(zcB:PySem.W.plainGet K X4 Str.empty=true)(De:PySem.W.hasDictIn K X4=true)(zay:PySem.W.plainOver K X4=true)(AL:PySem.W.findIn K (.ref X4) To=some (some (.builtin q99)))(zax:PySem.W.makesIn K X4=true)(zbi:PySem.W.keepIn K (.ref X4)=true)
  (Bv:PySem.W.findIn K (.ref X4) "many"=some none)
  (zdH:PySem.W.findIn K (.ref X4) "one"=some none)
  (a0:nsA K q54 f0)(l0:lkA K f0 q54 q54 O7 m0 h0)(c0:cdA K h0 q54)
  (a1:nsA K q36 f1)(l1:lkA K f1 q36 q36 Ld m1 h1)(c1:cdA K h1 q36)
  (a2:nsA K q75 f2)(l2:lkA K f2 q75 q75 P7 m2 h2)(c2:cdA K h2 q75)
  (a3:nsA K q76 f3)(l3:lkA K f3 q76 q76 OV m3 h3)(c3:cdA K h3 q76)
  (a4:nsA K q62 f4)(l4:lkA K f4 q62 q62 Nv m4 h4)(c4:cdA K h4 q62)
  (a5:nsA K q79 f5)(l5:lkA K f5 q79 q79 MN m5 h5)(c5:cdA K h5 q79)
  (a6:nsA K q34 f6)(l6:lkA K f6 q34 q34 LH m6 h6)(c6:cdA K h6 q34)
  (a7:nsA K q33 f7)(l7:lkA K f7 q33 q33 LJ m7 h7)(c7:cdA K h7 q33)
  (a8:nsA K q84 f8)(l8:lkA K f8 q84 q84 Lg m8 h8)(c8:cdA K h8 q84)
  (a9:nsA K q39 f9)(l9:lkA K f9 q39 q39 NX m9 h9)(c9:cdA K h9 q39)
  (a10:nsA K q49 f10)(l10:lkA K f10 q49 q49 Mu m10 h10)(c10:cdA K h10 q49)
  (a11:nsA K q88 f11)(l11:lkA K f11 q88 q88 Nb m11 h11)(c11:cdA K h11 q88)
  (a12:nsA K q89 f12)(l12:lkA K f12 q89 q89 NT m12 h12)(c12:cdA K h12 q89)
  (a13:nsA K q74 f13)(l13:lkA K f13 q74 q74 O9 m13 h13)(c13:cdA K h13 q74)
  (a14:nsA K q90 f14)(l14:lkA K f14 q90 q90 O5 m14 h14)(c14:cdA K h14 q90)
  (a15:nsA K q80 f15)(l15:lkA K f15 q80 q80 PR m15 h15)(c15:cdA K h15 q80)
  (a16:nsA K q65 f16)(l16:lkA K f16 q65 q65 ML m16 h16)(c16:cdA K h16 q65)
  (a17:nsA K q59 f17)(l17:lkA K f17 q59 q59 P4 m17 h17)(c17:cdA K h17 q59)
  (a18:nsA K q38 f18)(l18:lkA K f18 q38 q38 Oo m18 h18)(c18:cdA K h18 q38)
  (a19:nsA K q55 f19)(l19:lkA K f19 q55 q55 NI m19 h19)(c19:cdA K h19 q55)
  (a20:nsA K q56 f20)(l20:lkA K f20 q56 q56 PH m20 h20)(c20:cdA K h20 q56)
  (a21:nsA K q25 f21)(l21:lkA K f21 q25 q25 LY m21 h21)(c21:cdA K h21 q25)
  (a22:nsA K q60 f22)(l22:lkA K f22 q60 q60 Lk m22 h22)(c22:cdA K h22 q60)
  (a23:nsA K q64 f23)(l23:lkA K f23 q64 q64 Kc m23 h23)(c23:cdA K h23 q64)
  (a24:nsA K q40 f24)(l24:lkA K f24 q40 q40 Na m24 h24)(c24:cdA K h24 q40)
  (a25:nsA K q50 f25)(l25:lkA K f25 q50 q50 LR m25 h25)(c25:cdA K h25 q50)
  (a26:nsA K q61 f26)(l26:lkA K f26 q61 q61 M9 m26 h26)(c26:cdA K h26 q61)
  (a27:nsA K q51 f27)(l27:lkA K f27 q51 q51 MX m27 h27)(c27:cdA K h27 q51)
  (a28:nsA K q41 f28)(l28:lkA K f28 q41 q41 Rr m28 h28)(c28:cdA K h28 q41)
  (a29:nsA K q78 f29)(l29:lkA K f29 q78 q78 Po m29 h29)(c29:cdA K h29 q78)
  (a30:nsA K q81 f30)(l30:lkA K f30 q81 q81 M6 m30 h30)(c30:cdA K h30 q81)
  (a31:nsA K q77 f31)(l31:lkA K f31 q77 q77 Sw m31 h31)(c31:cdA K h31 q77)
  (a32:nsA K q52 f32)(l32:lkA K f32 q52 q52 SA m32 h32)(c32:cdA K h32 q52)
  (a33:nsA K q30 f33)(l33:lkA K f33 q30 q30 RA m33 h33)(c33:cdA K h33 q30)
  (a34:nsA K q87 f34)(l34:lkA K f34 q87 q87 Me m34 h34)(c34:cdA K h34 q87)
  (a35:nsA K q32 f35)(l35:lkA K f35 q32 q32 R7 m35 h35)(c35:cdA K h35 q32)
  (a36:nsA K q94 f36)(l36:lkA K f36 q94 q94 N0 m36 h36)(c36:cdA K h36 q94)
  (a37:nsA K q42 f37)(l37:lkA K f37 q42 q42 SS m37 h37)(c37:cdA K h37 q42)
  (a38:nsA K "less" f38)(l38:lkA K f38 "less" "less" Mh m38 h38)(c38:cdA K h38 "less")
  (a39:nsA K q23 f39)(l39:lkA K f39 q23 q23 Pe m39 h39)(c39:cdA K h39 q23)
  (a40:nsA K q69 f40)(l40:lkA K f40 q69 q69 Kd m40 h40)(c40:cdA K h40 q69)
  (a41:fdA K X7 q6 f41)(l41:lkA K f41 q6 VZ NJ m41 h41)(c41:cdA K h41 VZ)
  (a42:fdA K Wn q6 f42)(l42:lkA K f42 q6 Uj M4 m42 h42)(c42:cdA K h42 Uj)
  (a43:nsA K q22 f43)(l43:lkA K f43 q22 q22 Mz m43 h43)(c43:cdA K h43 q22)
  (a44:fdA K XR q6 f44)(l44:lkA K f44 q6 VY OR m44 h44)(c44:cdA K h44 VY)
  (a45:nsA K q17 f45)(l45:lkA K f45 q17 q17 LN m45 h45)(c45:cdA K h45 q17)
  (a46:fdA K XO q6 f46)(l46:lkA K f46 q6 V5 OY m46 h46)(c46:cdA K h46 V5)
  (a47:nsA K q26 f47)(l47:lkA K f47 q26 q26 Mj m47 h47)(c47:cdA K h47 q26)
  (a48:fdA K XF q6 f48)(l48:lkA K f48 q6 VW Oe m48 h48)(c48:cdA K h48 VW)
  (a49:nsA K q93 f49)(l49:lkA K f49 q93 q93 Ou m49 h49)(c49:cdA K h49 q93)
  (a50:nsA K q27 f50)(l50:lkA K f50 q27 q27 QM m50 h50)(c50:cdA K h50 q27)
  (a51:fdA K X4 q6 f51)(l51:lkA K f51 q6 V4 LC m51 h51)(c51:cdA K h51 V4)
  (a52:fdA K X7 q3 f52)(l52:lkA K f52 q3 Uk Ls m52 h52)(c52:cdA K h52 Uk)
  (a53:fdA K Wn q3 f53)(l53:lkA K f53 q3 q97 PX m53 h53)(c53:cdA K h53 q97)
  (a54:fdA K XR q3 f54)(l54:lkA K f54 q3 q18 NW m54 h54)(c54:cdA K h54 q18)
  (a55:fdA K XO q3 f55)(l55:lkA K f55 q3 q18 Nw m55 h55)(c55:cdA K h55 q18)
  (a56:fdA K XF q3 f56)(l56:lkA K f56 q3 q18 Oh m56 h56)(c56:cdA K h56 q18)
  (a57:fdA K X4 q3 f57)(l57:lkA K f57 q3 Uq Pn m57 h57)(c57:cdA K h57 Uq)
  (a58:nsA K q96 f58)(l58:lkA K f58 q96 q96 Ng m58 h58)(c58:cdA K h58 q96)
  (a59:nsA K q47 f59)(l59:lkA K f59 q47 q47 Rq m59 h59)(c59:cdA K h59 q47)
  (a60:nsA K q31 f60)(l60:lkA K f60 q31 q31 OG m60 h60)(c60:cdA K h60 q31)
  (a61:nsA K "sure" f61)(l61:lkA K f61 "sure" "sure" Nt m61 h61)(c61:cdA K h61 "sure")
  (a62:nsA K q21 f62)(l62:lkA K f62 q21 q21 SJ m62 h62)(c62:cdA K h62 q21)
  (a63:nsA K q95 f63)(l63:lkA K f63 q95 q95 P9 m63 h63)(c63:cdA K h63 q95)
  (a64:nsA K XS f64)(l64:lkA K f64 XS XS RU m64 h64)(c64:cdA K h64 XS)
  (a65:nsA K q19 f65)(l65:lkA K f65 q19 q19 RE m65 h65)(c65:cdA K h65 q19)
  (a66:fdA K X7 q8 f66)(l66:lkA K f66 q8 Uw Lo m66 h66)(c66:cdA K h66 Uw)
  (a67:fdA K Wn q8 f67)(l67:lkA K f67 q8 VR Qo m67 h67)(c67:cdA K h67 VR)
  (a68:fdA K XR q4 f68)(l68:lkA K f68 q4 q82 Mn m68 h68)(c68:cdA K h68 q82)
  (a69:fdA K XR q8 f69)(l69:lkA K f69 q8 q43 Q5 m69 h69)(c69:cdA K h69 q43)
  (a70:fdA K XO q4 f70)(l70:lkA K f70 q4 q67 Kh m70 h70)(c70:cdA K h70 q67)
  (a71:fdA K XO q8 f71)(l71:lkA K f71 q8 q43 Qm m71 h71)(c71:cdA K h71 q43)
  (a72:fdA K XF q4 f72)(l72:lkA K f72 q4 q68 PJ m72 h72)(c72:cdA K h72 q68)
  (a73:fdA K XF q8 f73)(l73:lkA K f73 q8 q43 Qt m73 h73)(c73:cdA K h73 q43)
  (a74:nsA K q35 f74)(l74:lkA K f74 q35 q35 OF m74 h74)(c74:cdA K h74 q35)
  (a75:fdA K X4 q8 f75)(l75:lkA K f75 q8 V7 RN m75 h75)(c75:cdA K h75 V7)
  (a76:nsA K q37 f76)(l76:lkA K f76 q37 q37 Rw m76 h76)(c76:cdA K h76 q37)
  (a77:nsA K q20 f77)(l77:lkA K f77 q20 q20 QG m77 h77)(c77:cdA K h77 q20)
  (a78:nsA K q72 f78)(l78:lkA K f78 q72 q72 Pg m78 h78)(c78:cdA K h78 q72)
  (a79:nsA K q16 f79)(l79:lkA K f79 q16 q16 Ml m79 h79)(c79:cdA K h79 q16)
  (a80:nsA K XT f80)(l80:lkA K f80 XT XT Pc m80 h80)(c80:cdA K h80 XT)
  (a81:nsA K XG f81)(l81:lkA K f81 XG XG Ug m81 h81)(c81:cdA K h81 XG)
  (a82:nsA K XM f82)(l82:lkA K f82 XM XM RM m82 h82)(c82:cdA K h82 XM)
  (a83:nsA K XJ f83)(l83:lkA K f83 XJ XJ Qu m83 h83)(c83:cdA K h83 XJ)
  (a84:nsA K "deep" f84)(l84:lkA K f84 "deep" "deep" MO m84 h84)(c84:cdA K h84 "deep")
  (a85:nsA K q86 f85)(l85:lkA K f85 q86 q86 Q4 m85 h85)(c85:cdA K h85 q86)
  (a86:nsA K q57 f86)(l86:lkA K f86 q57 q57 Kk m86 h86)(c86:cdA K h86 q57)
  (a87:nsA K q73 f87)(l87:lkA K f87 q73 q73 OJ m87 h87)(c87:cdA K h87 q73)
  (a88:nsA K q48 f88)(l88:lkA K f88 q48 q48 Ol m88 h88)(c88:cdA K h88 q48)
  (a89:nsA K q58 f89)(l89:lkA K f89 q58 q58 R0 m89 h89)(c89:cdA K h89 q58)
  (a90:nsA K "law" f90)(l90:lkA K f90 "law" "law" Xq m90 h90)(c90:cdA K h90 "law")
  (ZF:PySem.W.nsIn K mainGlobals "len"=some none)
  (ZO:PySem.W.nsIn K mainGlobals q98=some none)
  (YZ:PySem.W.nsIn K mainGlobals "max"=some none)
  (YW:PySem.W.nsIn K mainGlobals "min"=some none)
  (RW:PySem.W.nsIn K mainGlobals "abs"=some none)
  (Wh:PySem.W.nsIn K mainGlobals "sorted"=some none)
  (WR:PySem.W.nsIn K mainGlobals "int"=some none)
  (Sq:PySem.W.nsIn K mainGlobals "tuple"=some none)
  (Xa:PySem.W.nsIn K mainGlobals "list"=some none)
  (UA:PySem.W.nsIn K mainGlobals "isinstance"=some none)
  (YM:PySem.W.nsIn K mainGlobals "all"=some none)
  (Yv:PySem.W.nsIn K mainGlobals "zip"=some none)
  (Rb:PySem.W.nsIn K mainGlobals "enumerate"=some none)
  :∃fd:FuncData,(∀(s:Shared)(v:Value),BindsTo s fd ⟨[v],[]⟩ [(q13,v)])/\∀base:Heap,K.In base->base.Ns mainGlobals mg->YI l.prog w K mg base (CXE l.prog w) 11 fa fd [q13] (upF K TM):=by
 have e:=hfa.symm.trans (PySem.W.mg_of X G a90);cases e
 let Zt:Xh K mg:=⟨X7,PySem.W.mg_of X G E0,⟨EN,C7,zci,zaz⟩,CA,zaH,zaK,DC⟩
 let Zu:Xc K mg:=⟨Wn,PySem.W.mg_of X G AH,⟨zdi,zc3,Cs,zdm⟩,zcL,CJ,Ck⟩
 let Zk:Y8 K mg:=⟨XR,PySem.W.mg_of X G Co,⟨zbQ,zcv,zby,zdF⟩,BH,CS,Bp,zdv⟩
 let Zl:Y7 K mg:=⟨XO,PySem.W.mg_of X G zbc,⟨Cb,zco,zdX,Cj⟩,zaM,D7,EY,zaO⟩
 let Zm:YY K mg:=⟨XF,PySem.W.mg_of X G Bm,⟨Dx,zdp,Ad,zcQ⟩,BC,Aa,Aj,zcx⟩
 let Zp:Xd K mg:=⟨X4,PySem.W.mg_of X G zbF,⟨zcB,De,zay,AL⟩,Bv,zdH,zax,zbi⟩
 let L6:Df K mg q54 O7 Uy:=dfo X G a0 l0 c0
 let Pm:Df K mg q36 Ld WU:=dfo X G a1 l1 c1
 let PM:Df K mg q75 P7 RR:=dfo X G a2 l2 c2
 let Mi:Df K mg q76 OV QJ:=dfo X G a3 l3 c3
 let Nq:Df K mg q62 Nv RO:=dfo X G a4 l4 c4
 let LB:Df K mg q79 MN Ql:=dfo X G a5 l5 c5
 let NK:Df K mg q34 LH QU:=dfo X G a6 l6 c6
 let L9:Df K mg q33 LJ Uv:=dfo X G a7 l7 c7
 let Mr:Df K mg q84 Lg Ut:=dfo X G a8 l8 c8
 let Lz:Df K mg q39 NX SD:=dfo X G a9 l9 c9
 let Nl:Df K mg q49 Mu Sy:=dfo X G a10 l10 c10
 let PZ:Df K mg q88 Nb Ra:=dfo X G a11 l11 c11
 let Mb:Df K mg q89 NT QS:=dfo X G a12 l12 c12
 let Mo:Df K mg q74 O9 Ss:=dfo X G a13 l13 c13
 let Nf:Df K mg q90 O5 SI:=dfo X G a14 l14 c14
 let Pj:Df K mg q80 PR RL:=dfo X G a15 l15 c15
 let Pu:Df K mg q65 ML TV:=dfo X G a16 l16 c16
 let Lu:Df K mg q59 P4 Qe:=dfo X G a17 l17 c17
 let NS:Df K mg q38 Oo UC:=dfo X G a18 l18 c18
 let LZ:Df K mg q55 NI VT:=dfo X G a19 l19 c19
 let PK:Df K mg q56 PH Uu:=dfo X G a20 l20 c20
 let M8:Df K mg q25 LY Ub:=dfo X G a21 l21 c21
 let OS:Df K mg q60 Lk Sv:=dfo X G a22 l22 c22
 let MZ:Df K mg q64 Kc Tu:=dfo X G a23 l23 c23
 let OM:Df K mg q40 Na RV:=dfo X G a24 l24 c24
 let PQ:Df K mg q50 LR RH:=dfo X G a25 l25 c25
 let Nu:Df K mg q61 M9 QN:=dfo X G a26 l26 c26
 let Oy:Df K mg q51 MX Ru:=dfo X G a27 l27 c27
 let Lh:Df K mg q41 Rr Sm:=dfo X G a28 l28 c28
 let OT:Df K mg q78 Po Qw:=dfo X G a29 l29 c29
 let OO:Df K mg q81 M6 SY:=dfo X G a30 l30 c30
 let ND:Df K mg q77 Sw RT:=dfo X G a31 l31 c31
 let NZ:Df K mg q52 SA QP:=dfo X G a32 l32 c32
 let MY:Df K mg q30 RA Ua:=dfo X G a33 l33 c33
 let LL:Df K mg q87 Me R4:=dfo X G a34 l34 c34
 let OE:Df K mg q32 R7 RG:=dfo X G a35 l35 c35
 let NB:Df K mg q94 N0 Rl:=dfo X G a36 l36 c36
 let PU:Df K mg q42 SS VO:=dfo X G a37 l37 c37
 let Ot:Df K mg "less" Mh RC:=dfo X G a38 l38 c38
 let LW:Df K mg q23 Pe VU:=dfo X G a39 l39 c39
 let PV:Df K mg q69 Kd QQ:=dfo X G a40 l40 c40
 let Mx:Dm K Zt.C q6 VZ NJ Rg:=dmo a41 l41 c41
 let Pd:Dm K Zu.C q6 Uj M4 QK:=dmo a42 l42 c42
 let NO:Df K mg q22 Mz Vc:=dfo X G a43 l43 c43
 let Kg:Dm K Zk.C q6 VY OR SM:=dmo a44 l44 c44
 let Ny:Df K mg q17 LN Vs:=dfo X G a45 l45 c45
 let LU:Dm K Zl.C q6 V5 OY Rn:=dmo a46 l46 c46
 let LM:Df K mg q26 Mj VJ:=dfo X G a47 l47 c47
 let Mf:Dm K Zm.C q6 VW Oe SE:=dmo a48 l48 c48
 let Mq:Df K mg q93 Ou Rv:=dfo X G a49 l49 c49
 let L5:Df K mg q27 QM Sf:=dfo X G a50 l50 c50
 let My:Dm K Zp.C q6 V4 LC RD:=dmo a51 l51 c51
 let Mt:Dm K Zt.C q3 Uk Ls Ri:=dmo a52 l52 c52
 let Lc:Dm K Zu.C q3 q97 PX RX:=dmo a53 l53 c53
 let LV:Dm K Zk.C q3 q18 NW So:=dmo a54 l54 c54
 let OA:Dm K Zl.C q3 q18 Nw RF:=dmo a55 l55 c55
 let Mm:Dm K Zm.C q3 q18 Oh QO:=dmo a56 l56 c56
 let Ke:Dm K Zp.C q3 Uq Pn SW:=dmo a57 l57 c57
 let Pk:Df K mg q96 Ng UD:=dfo X G a58 l58 c58
 let O0:Df K mg q47 Rq Sj:=dfo X G a59 l59 c59
 let O3:Df K mg q31 OG SK:=dfo X G a60 l60 c60
 let O1:Df K mg "sure" Nt Rk:=dfo X G a61 l61 c61
 let Mw:Df K mg q21 SJ RI:=dfo X G a62 l62 c62
 let L4:Df K mg q95 P9 Rm:=dfo X G a63 l63 c63
 let PL:Df K mg XS RU QI:=dfo X G a64 l64 c64
 let MB:Df K mg q19 RE U1:=dfo X G a65 l65 c65
 let MA:Dm K Zt.C q8 Uw Lo Pa:=dmo a66 l66 c66
 let Oq:Dm K Zu.C q8 VR Qo Rc:=dmo a67 l67 c67
 let Oa:Dm K Zk.C q4 q82 Mn Rf:=dmo a68 l68 c68
 let NP:Dm K Zk.C q8 q43 Q5 Sr:=dmo a69 l69 c69
 let Og:Dm K Zl.C q4 q67 Kh Qc:=dmo a70 l70 c70
 let Lj:Dm K Zl.C q8 q43 Qm Qd:=dmo a71 l71 c71
 let MJ:Dm K Zm.C q4 q68 PJ Rh:=dmo a72 l72 c72
 let M3:Dm K Zm.C q8 q43 Qt Sl:=dmo a73 l73 c73
 let Lv:Df K mg q35 OF RY:=dfo X G a74 l74 c74
 let OQ:Dm K Zp.C q8 V7 RN SO:=dmo a75 l75 c75
 let Lw:Df K mg q37 Rw SV:=dfo X G a76 l76 c76
 let OP:Df K mg q20 QG Rz:=dfo X G a77 l77 c77
 let Ph:Df K mg q72 Pg QE:=dfo X G a78 l78 c78
 let Oi:Df K mg q16 Ml Tz:=dfo X G a79 l79 c79
 let NG:Df K mg XT Pc Ro:=dfo X G a80 l80 c80
 let PF:Df K mg XG Ug Q9:=dfo X G a81 l81 c81
 let Mp:Df K mg XM RM SQ:=dfo X G a82 l82 c82
 let LO:Df K mg XJ Qu QA:=dfo X G a83 l83 c83
 let Of:Df K mg "deep" MO Qq:=dfo X G a84 l84 c84
 let NU:Df K mg q86 Q4 Qh:=dfo X G a85 l85 c85
 let P6:Df K mg q57 Kk QH:=dfo X G a86 l86 c86
 let Pf:Df K mg q73 OJ QY:=dfo X G a87 l87 c87
 let L7:Df K mg q48 Ol QZ:=dfo X G a88 l88 c88
 let Kj:Df K mg q58 R0 Qp:=dfo X G a89 l89 c89
 let Ox:Df K mg "law" Xq Li:=dfo X G a90 l90 c90
 have ZF:=PySem.W.mg_none_of X G ZF
 have ZO:=PySem.W.mg_none_of X G ZO
 have YZ:=PySem.W.mg_none_of X G YZ
 have YW:=PySem.W.mg_none_of X G YW
 have RW:=PySem.W.mg_none_of X G RW
 have Wh:=PySem.W.mg_none_of X G Wh
 have WR:=PySem.W.mg_none_of X G WR
 have Sq:=PySem.W.mg_none_of X G Sq
 have Xa:=PySem.W.mg_none_of X G Xa
 have UA:=PySem.W.mg_none_of X G UA
 have YM:=PySem.W.mg_none_of X G YM
 have Yv:=PySem.W.mg_none_of X G Yv
 have Rb:=PySem.W.mg_none_of X G Rb;refine⟨PySem.W.fnOf "law" "law" (Va Xq) (Wz Xq) (Zo Xq) .none .none .none m90 none (.ref h90) .none,λs v=>.of_eq rfl,λbase _ _=>?_⟩
 let WE:=CW (P:=l.prog) (w:=w) (base:=base) L6 ZF
 let Yk:=zcn Pm WE ZF
 let HU:=Dt (P:=l.prog) (w:=w) (base:=base) PM
 let KG:=DN (P:=l.prog) (w:=w) (base:=base) Mi
 let MQ:=zbs (P:=l.prog) (w:=w) (base:=base) Nq ZO ZF
 let NL:=zcz (P:=l.prog) (w:=w) (base:=base) LB
 let JP:=Ao NK Yk NL ZO YZ YW
 let WI:=zdt (P:=l.prog) (w:=w) (base:=base) L9 RW
 let Xv:=zdk (P:=l.prog) (w:=w) (base:=base) Mr
 let M5:=zca Lz Xv WI ZO ZF
 let Hb:=Ax Nl WI
 let Jp:=DM PZ WI
 let RP:=DI (P:=l.prog) (w:=w) (base:=base) Mb ZF
 let JU:=AQ Mo RP Jp Hb ZF
 let HJ:=AS Nf Xv
 let JN:=Dv Pj Yk Xv HJ ZO ZF
 let Tq:=zbn (P:=l.prog) (w:=w) (base:=base) Pu
 let SX:=zbK (P:=l.prog) (w:=w) (base:=base) Lu ZO
 let UR:=zbE NS SX Wh
 let WD:=BN (P:=l.prog) (w:=w) (base:=base) LZ
 let We:=za9 (P:=l.prog) (w:=w) (base:=base) PK
 let XY:=C4 (P:=l.prog) (w:=w) (base:=base) M8 Wh
 let IB:=CY OS XY We WD UR
 let U8:=Dw MZ Yk WE
 let LQ:=za3 OM Tq U8 IB ZO ZF
 let Ic:=Cf PQ UR
 let J7:=Bo Nu WD XY We Ic
 let Jz:=zaD Oy Tq U8 J7 ZO ZF
 let Il:=DQ (P:=l.prog) (w:=w) (base:=base) Lh ZF
 let IU:=zd8 OT Yk Il ZO ZF
 let Jh:=zcp (P:=l.prog) (w:=w) (base:=base) OO ZO ZF YZ YW
 let KH:=zad ND WD XY We ZO ZF WR
 let Jf:=zcJ (P:=l.prog) (w:=w) (base:=base) NZ Sq Xa UA
 let W0:=DB (P:=l.prog) (w:=w) (base:=base) MY YM ZF
 let Hz:=zb5 (P:=l.prog) (w:=w) (base:=base) LL
 let Jv:=CK OE Hz W0 Wh Xa ZO ZF
 let Hw:=zbW (P:=l.prog) (w:=w) (base:=base) NB
 let WX:=zab PU Hw YM Yv
 let KA:=DP (P:=l.prog) (w:=w) (base:=base) Ot
 let WS:=BA (P:=l.prog) (w:=w) (base:=base) LW
 let Je:=zea PV WS KA
 let J6:=AA Zt Zu Zk Zl Zm Zp Mx Je
 let Ip:=za6 (P:=l.prog) (w:=w) (base:=base) Zu Zt Zk Zl Zm Zp Pd
 let Xo:=zdn (P:=l.prog) (w:=w) (base:=base) NO
 let IG:=zb1 Zk Zt Zu Zl Zm Zp Kg Xo
 let XI:=Dz (P:=l.prog) (w:=w) (base:=base) Ny
 let Ig:=zch Zl Zt Zu Zk Zm Zp LU XI
 let XN:=Dp LM WS YZ YW
 let KP:=zbM Zm Zt Zu Zk Zl Zp Mf XN
 let Lx:=zbH (P:=l.prog) (w:=w) (base:=base) Mq ZO
 let TC:=zaL L5 WS Lx YZ YW
 let HF:=Ac Zp Zt Zu Zk Zl Zm My TC
 let TR:=Dq (P:=l.prog) (w:=w) (base:=base) Zt Mt
 let UE:=Ce (P:=l.prog) (w:=w) (base:=base) Zu Lc
 let TZ:=D2 (P:=l.prog) (w:=w) (base:=base) Zk LV
 let Ta:=CC (P:=l.prog) (w:=w) (base:=base) Zl OA
 let Tv:=E5 (P:=l.prog) (w:=w) (base:=base) Zm Mm
 let Tw:=zaR (P:=l.prog) (w:=w) (base:=base) Zp Ke
 let UI:=CI Zp Zm Zl Zk Zu Zt Pk Tw Tv Ta TZ UE TR
 let HD:=EO Zp Zm Zl Zk Zu Zt O0 WX HF KP Ig IG Ip J6 UI ZO ZF
 let Kb:=C2 O3 HD ZF
 let Kx:=AM (P:=l.prog) (w:=w) (base:=base) O1
 let Hj:=AU Mw Kx YM
 let KO:=Bf (P:=l.prog) (w:=w) (base:=base) L4
 let IW:=Dr PL KO
 let TB:=AE MB IW
 let Hr:=Bt (P:=l.prog) (w:=w) (base:=base) Zt Zu Zk Zl Zm Zp MA
 let K7:=zdO (P:=l.prog) (w:=w) (base:=base) Zu Zt Zk Zl Zm Zp Oq ZO
 let SG:=zcR Zk Oa Xo
 let Hu:=zbN Zk Zt Zu Zl Zm Zp NP SG Yv
 let Qs:=EZ Zl Og XI
 let J3:=zbC Zl Zt Zu Zk Zm Zp Lj Qs Yv
 let Q7:=zaQ Zm MJ Xo XN
 let KW:=zaW Zm Zt Zu Zk Zl Zp M3 Q7 Yv
 let Jm:=zd5 (P:=l.prog) (w:=w) (base:=base) Lv YZ YW
 let IK:=zdJ Zp Zt Zu Zk Zl Zm OQ XN Jm TC
 let Hd:=BZ Zp Zm Zl Zk Zu Zt Lw WX IK KW J3 Hu K7 Hr UI W0 YM Yv ZF
 let Ib:=Ag (P:=l.prog) (w:=w) (base:=base) OP
 let J2:=zb8 Ph W0 ZF
 let Up:=zd6 Oi Xo XN Yv
 let Ja:=BP NG XI Up
 let Hy:=D9 PF Xo Up XI Ja TB Yv ZO ZF
 let Iw:=D1 Mp Hy Rb
 let P5:=Dn (P:=l.prog) (w:=w) (base:=base) LO
 let JB:=zdx (P:=l.prog) (w:=w) (base:=base) Of
 let HK:=zbO NU JB YM Yv
 let Jn:=DT P6 HK WX Iw P5 J2 Ib ZF
 let JV:=zcS Pf Jn Hd Kb TB Hj
 let KY:=D6 L7 JV
 let HL:=CP Kj KY Jv YM ZO ZF
 let G_law:=Aq Ox HL Jf Jh KH IU Jz LQ JN JU WE Yk M5 JP MQ KG HU Xa ZO WR
 exact G_law.ok
end Mine
open PySem PySem.W PyProof.Rows
set_option maxRecDepth 100003 in
set_option maxHeartbeats 0 in
theorem PySem.Challenge.cw_boxnarrow_k67_whole_forged_ones_holds : PySem.Challenge.rw_boxnarrow_k67_whole_forged_ones.Holds := by
 w_on;refine PySem.W.holds_law Mine.ws_eq λsaid=>?_
 refine PySem.W.holds_open (q:=Mine.vw) (loose:=[]) (Xt:=Mine.xt) (XP:=XL Mine.vw []) (Yf:=Hook.obs (kHook Mine.kp Mine.ks Mine.Tp)) (Ya:=Hook.val (kHook Mine.kp Mine.ks Mine.Tp))
  (YP:=Hook.says (kHook Mine.kp Mine.ks Mine.Tp)) (N:=7752) Mine.left (Hook.of (kHook Mine.kp Mine.ks Mine.Tp)) (Hook.keeps (kHook Mine.kp Mine.ks Mine.Tp)) (λs e=>xl_of s (Bool.and_eq_true_iff.mp e).1) XL.keeps
  (by rfl) (by rfl) (by rfl) (λs e=>recFacts_of (Bool.and_eq_true_iff.mp e).2) (by rfl) (by first|assumption|decide +kernel)
  (by decide +kernel) ⟨rfl,rfl,rfl,rfl,rfl,by decide +kernel⟩ ?hw ?hc
 (case hw=>w_witness2)
 k_fill
 refine L3.Bs (l:=PySem.Challenge.rw_boxnarrow_k67_whole_forged_ones) (x:="_law_script") 11 rfl rfl ⟨rfl,by decide,by decide⟩ (λw h Y=>PySem.W.kIn_of Y) ?F
 case F=>
  intro w mg fa h KX G hmg;apply Mine.EW KX G hmg
  all_goals (try delta Mine.nsA Mine.fdA Mine.lkA Mine.cdA)
  all_goals first|k_is
