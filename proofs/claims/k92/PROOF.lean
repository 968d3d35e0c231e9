import PyProof.Rows.All
import Wide.All
import OpenK.AllK
import Wide.FinOn
import Lean
import PyProof.EqAt
import PyProof.EqKinds
import PyProof.TupleCall
import KE.KLam
import KE.KMinKey
import PySem.Challenge.RW_boxnarrow_k92_whole_count_of_roots
def zA:=@Nat.le_refl
def zB:=@List.getElem?_eq_some_iff
def zD:=@List.length_map
def zE:=@List.getElem?_eq_getElem
def zF:=@List.mem_of_getElem?
def zG:=@List.getElem?_map
def zH:=@List.mem_singleton
def zI:=@List.getElem?_append_left
def zJ:=@Int.toNat_natCast
def zK:=@Int.mul_le_mul_of_nonneg_right
def zL:=@List.mem_map
def zN:=@Bool.false_ne_true
def zO:=@List.length_take
def zP:=@Option.map_eq_some_iff
def zQ:=@Int.le_refl
def zR:=@Nat.ne_of_lt
def zS:=@List.mem_cons
def zT:=@List.length_append
def zU:=@List.size_toArray
def zV:=@Int.pow_succ
def zW:=@Nat.lt_of_lt_of_le
def zX:=@List.length_cons
def zY:=@List.getD_eq_getElem?_getD
def zZ:=@Nat.zero_le
def yA:=@List.lookup_cons
def yB:=@List.mem_cons_of_mem
def yC:=@List.getElem?_set_ne
def yD:=@Int.pow_pos
def yE:=@List.take_length
def yF:=@List.map_map
def yG:=@Int.mul_nonneg
def yH:=@List.take_of_length_le
def yI:=@List.mem_append
def yJ:=@List.getElem?_append_right
def yK:=@Nat.le_trans
def yL:=@List.mem_cons_self
def yM:=@List.map_cons
def yN:=@Int.mul_comm
def yO:=@Int.le_of_mul_le_mul_right
def yP:=@List.length_set
def yQ:=@List.getElem_mem
def yR:=@Nat.pow_pos
def yS:=@List.getElem?_eq_none
def yT:=@Int.pow_nonneg
def yU:=@List.getElem?_set_self
def yV:=@List.mem_iff_getElem
def yW:=@Int.mul_pow
def yX:=@Nat.lt_irrefl
def yY:=@Option.isSome_iff_exists
def yZ:=@List.append_assoc
def xA:=@Int.le_trans
def xB:=@List.countP_cons
def xD:=@Nat.le_of_lt
def xE:=@Int.mul_one
def xG:=@List.mem_append_right
def xH:=@List.getElem?_eq_none_iff
def xI:=@List.map_append
def xJ:=@Int.neg_mul
def xK:=@List.length_nil
def xN:=@Bool.and_eq_true
def xO:=@Int.mul_assoc
def xP:=@Int.mul_right_comm
def xQ:=@Nat.ne_of_gt
def xR:=@List.append_nil
def xS:=@List.nodup_cons
def xT:=@List.replicate_succ
def xU:=@List.not_mem_nil
def xV:=@Int.pow_zero
def xW:=@Int.mul_pos
def xX:=@List.ext_getElem?
def xY:=@Bool.false_and
def xZ:=@Bool.eq_iff_iff
def wA:=@List.flatten_cons
def wB:=@List.foldl_append
def wC:=@Nat.sub_self
def wD:=@List.getElem?_range
def wF:=@List.length_range
def wG:=@List.mem_range
def wH:=@Nat.le_succ
def wJ:=@Int.fdiv_eq_ediv_of_nonneg
def wK:=@Int.natAbs_mul
def wL:=@Option.map_some
def wM:=@List.take_succ
def wO:=@Bool.or_eq_true
def wQ:=@Int.zero_mul
def wR:=@Nat.mul_le_mul
def wU:=@Int.le_total
def wV:=@Bool.true_and
def wW:=@List.map_take
def wX:=@List.take_append_drop
def wY:=@List.mem_filter
def wZ:=@List.filterMap_cons
def vA:=@Nat.lt_succ_self
def vB:=@List.of_mem_zip
def vC:=@List.getElem?_replicate
def vD:=@List.getElem?_take_of_lt
def vE:=@List.length_drop
def vF:=@Nat.mul_comm
def vG:=@Nat.pow_add
def vH:=@Int.emod_nonneg
def vI:=@Int.le_of_lt
def vJ:=@Int.mul_le_mul_of_nonneg_left
def vK:=@Nat.le_add_right
def vL:=@Bool.false_eq_true
def vM:=@List.take_append_of_le_length
def vN:=@List.length_zipWith
def vO:=@Int.one_mul
def vP:=@List.getElem?_zipWith
def vQ:=@List.mem_iff_getElem?
def vR:=@Int.le_antisymm
def vS:=@List.any_cons
def vT:=@List.map_congr_left
def vU:=@List.mem_filterMap
def vV:=@Nat.lt_of_le_of_lt
def vW:=@Nat.log2_lt
def vX:=@Int.emod_lt_of_pos
def vY:=@Int.emod_add_mul_ediv
def vZ:=@Int.natAbs_pow
def uA:=@List.all_eq_true
def uB:=@List.set_append_right
def uC:=@Int.mul_neg
def uD:=@Int.mul_le_mul
def uE:=@Nat.add_sub_cancel
def uF:=@Nat.sub_mul
def uG:=@Nat.mul_assoc
def uH:=@Int.ediv_nonneg
def uI:=@List.mem_or_eq_of_mem_set
def uJ:=@Nat.min_eq_left
def uK:=@Int.mul_neg_one
def uL:=@Int.le_of_dvd
def uM:=@Int.eq_of_mul_eq_mul_right
def uN:=@Int.mul_lt_mul_of_pos_right
def uP:=@List.countP_eq_length_filter
def uQ:=@List.getElem?_mapIdx
def uR:=@Option.bind_eq_some_iff
def uS:=@List.mem_append_left
def uT:=@List.length_replicate
def uU:=@Option.getD_none
def uV:=@Int.gcd_dvd_right
def uW:=@Int.fdiv_eq_ediv_of_dvd
def uX:=@Int.ediv_mul_cancel
def uY:=@List.forIn_cons
def uZ:=@List.getElem?_cons_succ
def tD:=@List.length_eq_zero_iff
def tE:=@Int.neg_mul_neg
def tF:=@Int.ediv_mul_le
def tG:=@List.take_zipWith
def tH:=@List.filterMap_append
def tI:=@List.drop_of_length_le
def tJ:=@Int.natAbs_ediv_le_natAbs
def tK:=@List.mem_of_mem_take
def tL:=@List.mem_of_mem_drop
def tM:=@List.length_mapIdx
def tN:=@List.filter_eq_nil_iff
def tO:=@List.countP_congr
def tP:=@List.map_eq_nil_iff
def tQ:=@List.zipWith_map
def tR:=@Nat.one_lt_two_pow
def tS:=@Bool.and_eq_true_iff
set_option Elab.async false
set_option linter.all false
local macro_rules|`(())=>`(by lia)
local macro_rules|`(⋯)=>`(by decide)
set_option maxRecDepth 100000
set_option genSizeOf false
set_option bootstrap.genMatcherCode false
set_option compiler.extract_closed false
set_option genInjectivity false
set_option maxHeartbeats 40000000
abbrev LI:=List (Int×Int)
abbrev LA:=List (PySem.Addr×PySem.Obj)
abbrev QW:=PySem.Challenge.pw_boxnarrow_k92_whole_count_of_roots
abbrev Fg:=PySem.W.Frag
namespace L2
open PySem PySem.Spec PyProof.Rows
def Zy (s:Stmt)(j:Nat):Stmt:=match s with
 | .ClassDef _ _ _ body _ _ _ _ _ _ _=>body.getD j (.Pass ⟨0,0,0,0⟩)
 | _=>.Pass ⟨0,0,0,0⟩
def WX (s:Stmt):Arguments:=match s with
 | .FunctionDef _ a _ _ _ _ _ _ _ _=>a
 | _=>{ posonlyargs:=[],args:=[],vararg:=none,kwonlyargs:=[],kw_defaults:=[],kwarg:=none,defaults:=[] }
def Xl (s:Stmt):List Stmt:=match s with
 | .FunctionDef _ _ b _ _ _ _ _ _ _=>b
 | _=>[]
def Zh (s:Stmt):Scope:=match s with
 | .FunctionDef _ _ _ _ _ _ sc _ _ _=>sc
 | _=>{ kind:=.function,names:=[],isGenerator:=false,isCoroutine:=false }
end L2
namespace L3
open PySem PySem.W PyProof.Rows PySem.Calls
theorem LZ {α β γ δ:Type}{f:α->Option β}{A:β->γ}{B:β->δ}{a:γ}{b:δ}(h1:(λx=>(f x).map A)=λ_=>some a)(h2:(λx=>(f x).map B)=λ_=>some b):(λx=>(f x).map λs=>(A s,B s))=λ_=>some (a,b):=by
 funext x;have e1:=congrFun h1 x
 have e2:=congrFun h2 x;cases h:f x with
 | none=>rw[h] at e1;cases e1
 | some s=>
  rw[h] at e1 e2;exact congrArg some (Prod.ext (Option.some.inj e1) (Option.some.inj e2))
def goT (tb:String->Option Builtin)(p:Program)(w:World)(n₀:Nat)(ann:Option Value):Nat->SharedT->Thread->Option SharedT
 | 0,_,_=>none
 | k+1,s,t=>bif through t then some s else bif stepOk n₀ ann t then (stepT (denote tb) p w s t).bind (λr=>goT tb p w n₀ ann k r.1 r.2) else none
theorem Hv:∀ {n:Nat} {s s':SharedT} {t:Thread},goT tb p w n₀ ann n s t=some s'->topRun tb p w n₀ ann n s.abs t=some s'.abs
 | 0,_,_,_,q=>nomatch q
 | n+1,s,s',t,q=>by
  unfold goT at q;unfold topRun;cases c1:through t
  .rw[c1] at q;cases c2:stepOk n₀ ann t
   .rw[c2] at q;exact nomatch q
   .rw[c2] at q;obtain⟨⟨s2,t2⟩,c3,q⟩:=uR.mp q;rw[stepT_spec c3];exact Hv q
  .rw[c1] at q;cases q;rfl
def LL (os:Array Obj):Nat->Nat->Nat->BT
 | 0,_,_=>.nil
 | f+1,a,b=>match os[b]? with
  | some o=>.node o (LL os f (2*a) (a+b)) (LL os f (2*a) (2*a+b))
  | none=>.nil
noncomputable def bootT (P:Params):BT:=LL (boot_heap P).objs 6 1 0
noncomputable abbrev SW (w:World)(os:OsState):SharedT:=⟨bootT w.params,11,(boot_heap w.params).life,Array.mk [],boot_drawn,boot_toks,os⟩
def O9 (s:SharedT)(a:Addr):Option Obj:=if a<s.n then (match s.tree.get a with|some o=>alive o|none=>s.abs.heap.get? a) else none
theorem zc9 (s:SharedT)(a:Addr):s.abs.heap.get? a=O9 s a:=by
 unfold O9;split
 .rename_i h;cases e:s.tree.get a with
  | none=>rfl
  | some o=>exact abs_get h e
 .rename_i h;exact abs_get_none h
theorem zcj (l:List Addr)(s:SharedT):l.map s.abs.heap.get?=l.map (O9 s):=vT λa _=>zc9 s a
noncomputable abbrev seenT (p q:Program)(aG:List Str)(Xt:Shared->Bool){α:Type}(YT:SharedT->α)(g0:Bool)(w:World)(s:SharedT):=
 ((staticsOk (importedModules p.main.body) (boot_heap w.params) s.abs.heap&&namesBound p s.abs.heap&&gensDone s.abs&&laidKept (boot_heap w.params) s.abs.heap),openSeen q aG (importedModules p.main.body) Xt g0 s.abs,YT s)
noncomputable abbrev L5 (p:Program)(w:World)(s:SharedT):Bool:=staticsOk (importedModules p.main.body) (boot_heap w.params) s.abs.heap&&namesBound p s.abs.heap&&gensDone s.abs&&laidKept (boot_heap w.params) s.abs.heap
def goK (tb:String->Option Builtin)(p:Program)(w:World)(n₀:Nat)(ann:Option Value):Nat->SharedT->Thread->Option (SharedT×Thread)
 | 0,s,t=>some (s,t)
 | k+1,s,t=>bif through t then none else bif stepOk n₀ ann t then (stepT (denote tb) p w s t).bind (λr=>goK tb p w n₀ ann k r.1 r.2) else none
theorem Cq:∀ {n:Nat} {s s':SharedT} {t t':Thread},goK tb p w n₀ ann n s t=some (s',t')->topGo tb p w n₀ ann n s.abs t=some (s'.abs,t')
 | 0,_,_,_,_,q=>by cases q;rfl
 | n+1,s,s',t,t',q=>by
  unfold goK at q;unfold topGo;cases c1:through t
  .rw[c1] at q;cases c2:stepOk n₀ ann t
   .rw[c2] at q;exact nomatch q
   .rw[c2] at q;obtain⟨⟨s2,t2⟩,c3,q⟩:=uR.mp q;rw[stepT_spec c3];exact Cq q
  .rw[c1] at q;exact nomatch q
theorem zcL {p:Program}{w:World}{os:OsState}{ann:Option Value}{env:Env}{c:Code}{posa posb q:Pos}{n0 nb N2 N:Nat}{Sa Sb s':SharedT}(hc:c=Code.body (behindTheImports p) env)
  (pre:goK treeTable p w 11 ann n0 (SW w os) (topStub p)=some (Sa,⟨denote treeTable c,c,posa,[topFrame q]⟩))
  (block:segRunT treeTable p w 11 ann 1 nb Sa (blockOf (behindTheImports p) env c posa [topFrame q])=some (.next,Sb,c,posb))
  (e:n0+(nb+N2)=N)(r:topRun treeTable p w 11 ann N2 Sb.abs (restOf (behindTheImports p) env c posb [topFrame q])=some s'.abs):topRun treeTable p w 11 ann N (SW w os).abs (topStub p)=some s'.abs:=by
 subst e hc;exact go_top (Cq pre) (piece_block (segRun_of block) r)
theorem D2 {p:Program}{w:World}{ann:Option Value}{env:Env}{c:Code}{pos1 aK q:Pos}{l:List Stmt}{n1 N2 m:Nat}{S1 S2 s':SharedT}
  (p1:segRunT treeTable p w 11 ann 1 n1 S1 (piecesOf (l.take m) env c pos1 [topFrame q])=some (.next,S2,c,aK))
  (r:topRun treeTable p w 11 ann N2 S2.abs (restOf (l.drop m) env c aK [topFrame q])=some s'.abs):topRun treeTable p w 11 ann (n1+N2) S1.abs (restOf l env c pos1 [topFrame q])=some s'.abs:=by
 have z:=piece_app (segRun_of p1) r;rw[wX] at z;exact z
theorem CL {p q:Program}{aG:List Str}{Xt:Shared->Bool}{α:Type}{Yf:Shared->α}{YT:SharedT->α}{Ya:World->α}{N:Nat}{g0:Bool}{ann:Option Value}{go:World->OsState->Option SharedT}(hY:∀s:SharedT,Yf s.abs=YT s)(e:opening p=plainProg p.main.scope.names)(hN:Nat.ble 600 N=true)(f:∀s,fenceModules? p s=some s)
  (size:∀w:World,((boot_heap w.params).isNs mainGlobals&&(Array.mk []:Array GenState).size==0,(boot_heap w.params).objs.size,(boot_heap w.params).nsMap mainGlobals "__annotations__")=(true,11,ann))
  (hgo:∀w os s',go w os=some s'->topRun treeTable p w 11 ann N (SW w os).abs (topStub p)=some s'.abs)
  (run:∀w:World,(λos=>(go w os).map λs=>seenT p q aG Xt YT g0 w s)=λ_=>some (true,openGood q aG,Ya w)):LeftO p q aG Xt Yf Ya N g0:=λw=>by
 obtain⟨⟨h,gs,d,k,os⟩,e1,e'⟩:=zP.mp (boot_open e hN f w);obtain⟨rfl,rfl,rfl,rfl⟩:h=boot_heap w.params/\gs=Array.mk []/\d=boot_drawn/\k=boot_toks:=by simpa using e'
 obtain⟨y1,y2,y3⟩:_/\_/\_:=by simpa only [Prod.mk.injEq] using size w
 obtain⟨s',r1,r2⟩:=zP.mp (congrFun (run w) os);obtain⟨l1,l2,l3⟩:_/\_/\_:=by simpa only [Prod.mk.injEq] using r2
 have r:topRun treeTable p w 11 ann N ⟨boot_heap w.params,Array.mk [],boot_drawn,boot_toks,os⟩ (topStub p)=some s'.abs:=hgo w os s' r1
 have t:topFrom treeTable p w N ⟨boot_heap w.params,Array.mk [],boot_drawn,boot_toks,os⟩=some s'.abs:=by
  unfold topFrom;dsimp only;rw[y1,y2,y3,r];show (match staticsOk (importedModules p.main.body) (boot_heap w.params) s'.abs.heap&&namesBound p s'.abs.heap&&gensDone s'.abs&&laidKept (boot_heap w.params) s'.abs.heap with|true=>_|false=>_)=_;rw[l1]
 unfold openEnds;rw[e1];show Option.map _ (topFrom treeTable p w N _)=_;rw[t];exact congrArg some (Prod.ext l2 ((hY s').trans l3))
theorem zhO {p q:Program}{aG:List Str}{Xt:Shared->Bool}{α:Type}{Yf:Shared->α}{YT:SharedT->α}{Ya:World->α}{N:Nat}{g0:Bool}{ann:Option Value}{go:World->OsState->Option SharedT}(hY:∀s:SharedT,Yf s.abs=YT s)(e:opening p=plainProg p.main.scope.names)(hN:Nat.ble 600 N=true)(f:∀s,fenceModules? p s=some s)
  (size:∀w:World,((boot_heap w.params).isNs mainGlobals&&(Array.mk []:Array GenState).size==0,(boot_heap w.params).objs.size,(boot_heap w.params).nsMap mainGlobals "__annotations__")=(true,11,ann))
  (hgo:∀w os s',go w os=some s'->topRun treeTable p w 11 ann N (SW w os).abs (topStub p)=some s'.abs)
  (ra:∀w:World,(λos=>(go w os).map λs=>(L5 p w s,(openSeen q aG (importedModules p.main.body) Xt g0 s.abs).1))=λ_=>some (true,(openGood q aG).1))
  (rb:∀w:World,(λos=>(go w os).map λs=>((openSeen q aG (importedModules p.main.body) Xt g0 s.abs).2.1,(openSeen q aG (importedModules p.main.body) Xt g0 s.abs).2.2.1))=λ_=>some ((openGood q aG).2.1,(openGood q aG).2.2.1))
  (rc:∀w:World,(λos=>(go w os).map λs=>(openSeen q aG (importedModules p.main.body) Xt g0 s.abs).2.2.2)=λ_=>some (openGood q aG).2.2.2)
  (objs:∀w:World,(λos=>(go w os).map YT)=λ_=>some (Ya w)):LeftO p q aG Xt Yf Ya N g0:=by
 refine CL hY e hN f size hgo λw=>funext λos=>?_
 obtain⟨s1,a1,b1⟩:=zP.mp (congrFun (ra w) os);obtain⟨s2,a2,b2⟩:=zP.mp (congrFun (rb w) os);obtain⟨s3,a3,b3⟩:=zP.mp (congrFun (rc w) os);obtain⟨s4,a4,b4⟩:=zP.mp (congrFun (objs w) os);rw[a1] at a2 a3 a4;cases a2;cases a3;cases a4;obtain⟨l1,l2⟩:=Prod.mk.inj b1;obtain⟨l3,l4⟩:=Prod.mk.inj b2;have l5:openSeen q aG (importedModules p.main.body) Xt g0 s1.abs=openGood q aG:=Prod.ext l2 (Prod.ext l3 (Prod.ext l4 b3));rw[a1];show some (L5 p w s1,openSeen q aG (importedModules p.main.body) Xt g0 s1.abs,YT s1)=some (true,openGood q aG,Ya w);rw[l1,l5,b4]
def frc {α:Type}:BT->(BT->α)->α
 | .nil,k=>k .nil
 | .node o l r,k=>frc l λl'=>frc r λr'=>k (.node o l' r')
theorem LW:∀(t:BT)(k:BT->α),frc t k=k t
 | .nil,_=>rfl
 | .node o l r,k=>by
  show frc l (λl'=>frc r λr'=>k (.node o l' r'))=_;rw[LW l,LW r]
def odB:List Obj->List Obj
 | x::_::r=>x::odB r
 | l=>l
def evB:List Obj->List Obj
 | _::y::r=>y::evB r
 | _=>[]
def mkB:Nat->List Obj->BT
 | d+1,o::l=>.node o (mkB d (odB l)) (mkB d (evB l))
 | _,_=>.nil
abbrev tpO (l:List Value):Obj:=⟨.type "tuple",none,.seq ⟨l⟩ 0,#[]⟩
abbrev fdO (l:List Value):Obj:=⟨.none,none,.fields ⟨l⟩,#[]⟩
def nmO:Nat->List Str->List Value
 | _,[]=>[]
 | t,x::r=>.str x t::nmO (t+1) r
abbrev coO (n q:Str)(t j:Nat)(i k:Int)(a s:Nat)(y z:Value)(f:Nat):Obj:=⟨.type "code",none,.fields #[.str n t,.str q (t+1),.str "/claim/cut.py" (t+2),.int i 0,.int k 0,.int 0 0,.int 0 0,.int 3 0,.ref a,.bool Bool.true,.int 181 0,.ref s,.none,y,z,.ref f,.int j 0,.int i 0,.str "/claim/cut.py" (j+1)],#[]⟩
abbrev fuO (n q:Str)(st:Stmt)(m d:Value):Obj:=⟨.type "function",none,.func (W.fnOf n q (L2.WX st) (L2.Xl st) (L2.Zh st) .none .none .none m none d .none),#[]⟩
abbrev fnO (n q:Str)(st:Stmt):Obj:=⟨.none,none,.func { W.fnOf n q (L2.WX st) (L2.Xl st) (L2.Zh st) .none .none .none .none none .none .none with globals:=0 },#[]⟩
def df (n q:Str)(st:Stmt)(m:Value)(i k:Int)(a t:Nat)(vs:List Str):List Obj:=[tpO [],fdO [],tpO (nmO (t+3) vs),tpO [],fnO n q st,coO n q t (t+3+vs.length) i k a (a+1) (.ref (a+2)) (.ref (a+3)) (a+4),fuO n q st m (.ref (a+5))]
def dg (n q:Str)(st:Stmt)(m:Value)(i k:Int)(a t:Nat):List Obj:=[tpO [],fdO [],fnO n q st,coO n q t (t+3) i k a (a+1) .none .none (a+2),fuO n q st m (.ref (a+3))]
end L3
namespace Mine
open PySem PySem.Spec PyProof.Rows L2 L3
theorem kId {α:Type}{p:α->Prop}(K:α)(h:p K):p K:=h
def top (i:Nat):Stmt:=QW.main.body.getD i (.Pass ⟨0,0,0,0⟩)
theorem ws_eq:W.OpenLaw.wellSaid PySem.Challenge.rw_boxnarrow_k92_whole_count_of_roots=true:=by
 unfold W.OpenLaw.wellSaid
 repeat' (with_reducible refine W.look_both ?_ ?_)
 all_goals decide +kernel
def vw:Program:={ QW with main:={ QW.main with body:=[top 0,top 2,top 3,top 4,top 5,top 6,top 7,top 8,top 10,top 11,top 13,top 14,top 16,top 17,top 18,top 19,top 20,top 21,top 22,top 23,top 24,top 25,top 26,top 27,top 29,top 30,top 31,top 32,top 33,top 34,top 35,top 36,top 37,top 38,top 39,top 41,top 42,top 43,top 44,top 45,top 46,top 47,top 48,top 49,top 51,top 52,top 53,top 55,top 57,top 58,top 59,top 60,top 61,top 62,top 63,top 64,top 65,top 66,top 67,top 68,top 69,top 71,top 72,top 73,top 75,top 76,top 77,top 78,top 79,top 80,top 82,top 83,top 84,top 85,top 86,top 87,top 88,top 89,top 90,top 91,top 92,top 93,top 95,top 96,top 97,top 98,top 99,top 100,top 101,top 102,top 103,top 104,top 105,top 106,top 107,top 108] } }
noncomputable abbrev de (P:Params)(s:Str)(t:Tok)(v:Value):DictEntry:=⟨PySem.PyData.keyHash P s,.str s t,v⟩
abbrev co (n q:Str)(a b c d:Tok)(i k:Int)(r s:Addr)(y z:Value)(t:Addr)(j:Int):Obj:=⟨.type "code",none,.fields #[.str n a,.str q b,.str "/claim/cut.py" c,.int i 0,.int k 0,.int 0 0,.int 0 0,.int 3 0,.ref r,.bool Bool.true,.int 181 0,.ref s,.none,y,z,.ref t,.int j 0,.int i 0,.str "/claim/cut.py" d],#[]⟩
abbrev fo (n q:Str)(st:Stmt)(m:Value)(c:Addr):Obj:=⟨.type "function",none,.func (W.fnOf n q (WX st) (Xl st) (Zh st) .none .none .none m none (.ref c) .none),#[]⟩
abbrev xt (s:Shared):Bool:=W.xlAt vw [] s&&W.recOk (W.RowW.records (W.OpenRow.toRowW (W.OpenLaw.row PySem.Challenge.rw_boxnarrow_k92_whole_count_of_roots))) s
theorem Jw:W.opening QW=W.plainProg QW.main.scope.names:=by kernel_rfl
theorem fe_eq (s:Shared):PySem.fenceModules? QW s=some s:=by kernel_rfl
theorem si_eq (w:World):((W.boot_heap w.params).isNs mainGlobals&&(Array.mk []:Array GenState).size==0,(W.boot_heap w.params).objs.size,(W.boot_heap w.params).nsMap mainGlobals "__annotations__")=(true,11,some (.ref 6)):=by kernel_rfl
open PySem.W PySem.Calls
def ev:Env:={ scope:=QW.main.scope,locals:=mainNs,globals:=mainNs,cells:=[],code:=.ref 13,frame:=some 14 }
abbrev bI:List Stmt:=behindTheImports QW
abbrev cE:Code:=Code.body bI ev
abbrev fT:List Frame:=[topFrame ⟨0,0,0,0⟩]
noncomputable abbrev mS (k:Nat)(l:Params->List Obj)(n t:Nat)(w:World)(os:OsState):SharedT:=⟨L3.mkB k (l w.params),n,(boot_heap w.params).life,Array.mk [],boot_drawn,t,os⟩
abbrev q0:Str:="boxnarrow.kinds"
abbrev q1:Str:="law_boxnarrow_k92_whole_count_of_roots"
abbrev q2:Str:="__static_attributes__"
abbrev q3:Str:="spans"
abbrev q4:Str:="__init__"
abbrev q5:Str:="__firstlineno__"
abbrev q6:Str:="boxnarrow.search"
abbrev q7:Str:="nodes"
abbrev q8:Str:="number"
abbrev q9:Str:="forth"
abbrev q10:String:="object.__init_subclass__"
abbrev q11:Str:="slope_of_both"
abbrev q12:Str:="__module__"
abbrev q13:Str:="second_left"
abbrev q14:Str:="_law_script"
abbrev q15:Str:="first_left"
abbrev q16:Str:="slope"
abbrev q17:Str:="boxnarrow.alone"
abbrev q18:Str:="boxnarrow.spans"
abbrev q19:Str:="_law_roots_here"
abbrev q20:String:="type.__prepare__"
abbrev q21:Str:="boxnarrow.backs"
abbrev q22:String:="object.__new__"
abbrev q23:Str:="worths"
abbrev q24:Str:="take_spans"
abbrev q25:Str:="__qualname__"
abbrev q26:Str:="slants"
abbrev q27:Str:="box_of_middles"
abbrev q28:Str:="boxnarrow.matrices"
abbrev q29:Str:="sum_of_products"
abbrev q30:Str:="cut_in_the_middle"
abbrev q31:Str:="add_spans"
abbrev q32:Str:="determinant"
abbrev q33:Str:="exact"
abbrev q34:Str:="rounded_up"
abbrev q35:String:="object"
abbrev q36:Str:="_law_nodes"
abbrev q37:Str:="equation_places"
abbrev q38:Str:="leasts_are_sure"
abbrev q39:Str:="_law_any_number"
abbrev q40:Str:="boxnarrow.shaving"
abbrev q41:Str:="part_between"
abbrev q42:Str:="matrix"
abbrev q43:Str:="_law_cell_at"
abbrev q44:Str:="_law_product"
abbrev q45:Str:="mul_spans"
abbrev q46:Str:="unknowns"
abbrev q47:Str:="_law_cell"
abbrev q48:Str:="__doc__"
abbrev q49:Str:="boxnarrow.errors"
abbrev q50:Str:="inverse_entry"
abbrev q51:Str:="_law_any_span"
abbrev q52:Str:="_law_lowest"
abbrev q53:Str:="opposite"
abbrev q54:Str:="holds_nought"
abbrev q55:Str:="back_by_side"
abbrev q56:Str:="fate_by_rows"
abbrev q57:Str:="is_much_less"
abbrev q58:Str:="_law_divisor"
abbrev q59:Str:="raise_span"
abbrev q60:Str:="back_times"
abbrev q61:Str:="root_below"
abbrev q62:String:="getset_descriptor"
abbrev q63:Str:="inverse_row"
abbrev q64:Str:="thin_worths"
abbrev q65:Str:="fate_of_one"
abbrev q66:Str:="_law_bottom"
abbrev q67:Str:="_law_factor"
abbrev q68:Str:="cofactor"
abbrev q69:Str:="raised"
abbrev q70:Str:="common"
abbrev q71:Str:="bottom"
abbrev q72:Str:="with_span"
abbrev q73:Str:="is_barred"
abbrev q74:Str:="_law_held"
abbrev q75:Str:="_law_grid"
abbrev q76:Str:="scale_span"
abbrev q77:Str:="next_guess"
abbrev q78:Str:="back_power"
abbrev q79:String:="ExceptionGroup.__weakref__"
abbrev q80:Str:="other"
abbrev q81:Str:="spans_back"
abbrev q82:Str:="_law_roots"
abbrev q83:Str:="_law_right"
abbrev q84:Str:="_law_mixed"
abbrev q85:Str:="to_look_at"
abbrev q86:Str:="kind_of"
abbrev q87:Str:="entries"
abbrev q88:Str:="column"
abbrev q89:Str:="_law_raw"
abbrev q90:Str:="places"
abbrev q91:Str:="_law_k"
abbrev q92:Str:="__weakref__"
abbrev q93:Str:="slopes_at"
abbrev q94:Str:="put_entry"
abbrev q95:Str:="_law_more"
abbrev q96:Str:="_law_span"
abbrev q97:Str:="Pair.__init__"
abbrev q98:Str:="middles"
abbrev q99:Str:="widths"
abbrev WR:Str:="widest"
abbrev W8:Str:="settle"
abbrev Uz:Str:="quotient"
abbrev Wh:Str:="place"
abbrev VV:Str:="products"
abbrev Th:Str:="all_deep"
abbrev U3:Str:="asked_of"
abbrev Uc:Str:="narrowed"
abbrev TV:Str:="cut_back"
abbrev U9:Str:="is_shave"
abbrev UY:Str:="_law_put"
abbrev UW:Str:="_law_any"
abbrev U2:Str:="_law_root"
abbrev VY:Str:="middle"
abbrev VC:Str:="joined"
abbrev VF:Str:="slopes"
abbrev VI:Str:="picked"
abbrev VP:Str:="out_by"
abbrev UJ:Str:="without"
abbrev Uy:Str:="inverse"
abbrev To:Str:="span_of"
abbrev TC:Str:="lacking"
abbrev U0:Str:="span_by"
abbrev Up:Str:="step_by"
abbrev V6:Str:="cut_off"
abbrev UH:Str:="fate_of"
abbrev q126:Str:="Minus.slope_of_both"
abbrev q127:Str:="Times.slope_of_both"
abbrev VT:Str:="_law_at"
abbrev q129:Str:="Pair.slope"
abbrev q130:Str:="Plus.slope_of_both"
abbrev q131:Str:="Minus.second_left"
abbrev q132:Str:="Times.second_left"
abbrev q133:Str:="Pair.back"
abbrev SN:Str:="_law_fine"
abbrev q135:Str:="Unknown.__init__"
abbrev q136:Str:="Plus.second_left"
abbrev q137:Str:="Minus.first_left"
abbrev q138:Str:="Times.first_left"
abbrev q139:Str:="boxnarrow.worths"
abbrev q140:Str:="boxnarrow.narrow"
abbrev r (n:Addr):Value:=.ref n
abbrev sr (n:Addr):Option Value:=some (.ref n)
noncomputable abbrev dr (P:Params)(s:Str)(t:Tok)(n:Addr):DictEntry:=de P s t (.ref n)
noncomputable abbrev dn (P:Params)(s:Str)(t:Tok):DictEntry:=de P s t .none
abbrev dO (l:Array DictEntry)(n:Nat):Obj:=.mk (.type "dict") none (.dict l n) #[]
abbrev bO (s:String)(v:Value):Obj:=.mk (.type "builtin_function_or_method") none (.fields #[.builtin s,v]) #[]
abbrev cO (a:Str)(t1:Tok)(b:Str)(t2 t3:Tok)(l:Int)(x:Addr)(m:Int)(y:Addr)(k l2:Int)(t4:Tok):Obj:=.mk (.type "code") none (.fields #[.str a t1,.str b t2,.str "/claim/cut.py" t3,.int l 0,.int 0 0,.int 0 0,.int 0 0,.int 0 0,.ref x,.bool Bool.false,.int m 0,.ref y,.none,.none,.none,.none,.int k 0,.int l2 0,.str "/claim/cut.py" t4]) #[]
abbrev gO (a b c:Addr)(s:Value)(d:Addr):Obj:=.mk (.type "frame") none .plain #[some (.ref a),some (.ref b),some (.ref c),none,some s,none,some (.ref d)]
abbrev cp (n q:Str)(t:Tok)(i k:Int)(a:Addr)(j:Tok):Obj:=co n q t (t+1) (t+2) (j+1) i k a (a+1) (.ref (a+2)) (.ref (a+3)) (a+4) j
abbrev fp (n q:Str)(k:Nat)(m:Str)(t:Tok)(c:Addr):Obj:=fo n q (top k) (.str m t) c
abbrev fq (l:List (Int×Addr))(c:Int):Obj:=fdO (l.flatMap λx=>[.int x.1 0,.int c 0,.ref x.2])
abbrev tyO (nw:String)(n:Str)(bs ms:List Value)(d:Addr)(ss:List Value)(b:Addr)(t1 t2:Tok):Obj:=.mk (.type "type") none (.cls (PySem.ClassData.mk n bs ms d n Bool.true [] ss Bool.false none Bool.false)) #[some (.ref b),none,some (.str n t1),some (.str n t2),some (.builtin nw),some (.bool Bool.true)]
abbrev uO (a:Addr):Obj:=.mk (.type "super") none (.fields #[.ref a,.ref a,.ref a]) #[]
noncomputable def mO0 (P:Params):List Obj:=[boot_o_0 P,boot_o_1 P,boot_o_2 P,boot_o_3 P,boot_o_4 P,boot_o_5 P,boot_o_6 P,boot_o_7 P,boot_o_8 P,boot_o_9 P,boot_o_10 P]++[tpO [],fdO [],(cO "<module>" 182 "<module>" 183 184 1 11 181 12 185 1 186),(gO 13 3 3 (.str "__main__" 164) 0)]
noncomputable def S0:=mS 5 mO0 15 187
theorem Av (w:World):(λos=>L3.goK treeTable QW w 11 (some (.ref 6)) 12 (L3.SW w os) (topStub QW))=λos=>some (S0 w os,⟨denote treeTable cE,cE,⟨0,0,0,0⟩,fT⟩):=by kernel_rfl
theorem zhB (w:World):(λos=>segRunT treeTable QW w 11 (some (.ref 6)) 1 1 (S0 w os) (blockOf bI ev cE ⟨0,0,0,0⟩ fT))=λos=>some (.next,S0 w os,cE,⟨0,0,0,0⟩):=by kernel_rfl
abbrev dX (e:DictEntry)(l:List DictEntry)(n:Nat):Obj:=.mk (.type "dict") none (.dict (e::l).toArray n) #[]
noncomputable abbrev dE0 (P:Params):List DictEntry:=[(dn P q48 166),(dn P "__package__" 167),(de P "__loader__" 168 (.builtin "__main__.__loader__#opaque")),(dn P "__spec__" 169),(dr P "__annotations__" 170 6),(dr P "__builtins__" 171 4),(de P "__file__" 173 (.str "/claim/cut.py" 172)),(dn P "__cached__" 174),(dr P "_wall" 193 21),(dr P "signed" 203 28),(dr P UJ 209 33),(dr P q68 218 40),(dr P q32 224 45),(dr P q50 235 52),(dr P q63 241 57),(dr P Uy 247 62),(dr P "BoxError" 267 72),(dr P "NoSpan" 283 85),(dr P q69 295 94),(dr P "less" 303 101),(dr P q34 313 108),(dr P To 322 115),(dr P q31 330 122),(dr P q24 338 129),(dr P q45 348 136),(dr P q59 354 141),(dr P q76 362 148),(dr P q70 372 155),(dr P "hull" 380 162),(dr P "deep" 388 169),(dr P "width" 395 176),(dr P VY 402 183),(dr P q54 411 190),(dr P q53 418 197),(dr P VC 426 204),(dr P q41 435 211),(dr P Uz 443 218),(dr P q55 456 225),(dr P q60 469 232),(dr P q61 479 239),(dr P q77 488 246),(dr P "root" 497 253),(dr P q78 511 260),(dr P "Node" 533 270),(dr P "Number" 601 319),(dr P "Unknown" 661 364)]
abbrev fE0:List (Int×Addr):=[(1,20),(5,27),(7,32),(10,39),(12,44),(16,51),(18,56),(20,61),(26,68),(28,81),(31,93),(36,100),(39,107),(41,114),(45,121),(47,128),(49,135),(52,140),(59,147),(61,154),(67,161),(69,168),(71,175),(73,182),(76,189),(78,196),(80,203),(86,210),(90,217),(92,224),(98,231),(109,238),(118,245),(120,252),(127,259),(138,266),(140,280),(158,327)]
noncomputable def mO1 (P:Params):List Obj:=[boot_o_0 P,boot_o_1 P,boot_o_2 P,(dX (de P "__name__" 165 (.str q0 512)) (dE0 P) 47),boot_o_4 P,boot_o_5 P,boot_o_6 P,boot_o_7 P,boot_o_8 P,boot_o_9 P,boot_o_10 P]++[tpO [],fq fE0 0,(cO "<module>" 182 "<module>" 183 184 1 11 181 12 185 1 186),(gO 13 3 3 (.str "__main__" 164) 0)]++
 df "_wall" "_wall" (top 0) (.str "__main__" 164) 1 1 15 187 ["k"]++
 df "signed" "signed" (top 2) (.str q28 194) 5 2 22 196 [q8,Wh]++
 dg UJ UJ (top 3) (.str q28 194) 7 3 29 204++
 df q68 q68 (top 4) (.str q28 194) 10 3 34 210 [q42,"row",q88]++
 dg q32 q32 (top 5) (.str q28 194) 12 1 41 219++
 df q50 q50 (top 6) (.str q28 194) 16 5 46 225 [q42,"whole","row",q88,"grid"]++
 dg q63 q63 (top 7) (.str q28 194) 18 4 53 236++
 dg Uy Uy (top 8) (.str q28 194) 20 2 58 242++
 [tpO [(.type "ValueError")],(bO q20 (.type "type")),(dO #[(de P q12 257 (.str q49 248)),(de P q25 259 (.str "BoxError" 258)),(de P q5 261 (.int 26 260)),(dr P q2 262 70)] 4),tpO [],fdO [],(cO "BoxError" 252 "BoxError" 253 254 26 66 181 67 255 26 256),(gO 68 3 65 (.str q49 248) 0),tpO [],(dO #[(de P q12 257 (.str q49 248)),(de P q5 261 (.int 26 260)),(dr P q2 262 70),(dr P q92 264 73),(dn P q48 265)] 3),(tyO "ValueError.__new__" "BoxError" [(.type "ValueError")] [(r 72),(.type "ValueError"),(.type "Exception"),(.type "BaseException"),(.type q35)] 71 [(r 85)] 63 250 258),(.mk (.type q62) none (.fields #[(.str q92 263),(r 72),(.builtin q79),.none]) #[]),(uO 72),(bO q10 (r 72)),tpO [(r 72)],(bO q20 (.type "type")),(dO #[(de P q12 275 (.str q49 248)),(de P q25 277 (.str "NoSpan" 276)),(de P q5 279 (.int 28 278)),(dr P q2 280 83)] 4),tpO [],fdO [],(cO "NoSpan" 270 "NoSpan" 271 272 28 79 181 80 273 28 274),(gO 81 3 78 (.str q49 248) 0),tpO [],(dO #[(de P q12 275 (.str q49 248)),(de P q5 279 (.int 28 278)),(dr P q2 280 83),(dn P q48 281)] 2),(tyO "ValueError.__new__" "NoSpan" [(r 72)] [(r 85),(r 72),(.type "ValueError"),(.type "Exception"),(.type "BaseException"),(.type q35)] 84 [] 76 268 276),(uO 85),(bO q10 (r 85))]++
 df q69 q69 (top 13) (.str "boxnarrow.fractions" 284) 31 2 88 286 [q8,"many","worth","step"]++
 df "less" "less" (top 14) (.str "boxnarrow.fractions" 284) 36 2 95 296 ["a","b"]++
 df q34 q34 (top 16) (.str q18 304) 39 2 102 306 ["top",q71]++
 df To To (top 17) (.str q18 304) 41 3 109 314 ["low","high","grid"]++
 df q31 q31 (top 18) (.str q18 304) 45 2 116 323 ["a","b"]++
 df q24 q24 (top 19) (.str q18 304) 47 2 123 331 ["a","b"]++
 df q45 q45 (top 20) (.str q18 304) 49 3 130 339 ["a","b","grid",VV]++
 dg q59 q59 (top 21) (.str q18 304) 52 3 137 349++
 df q76 q76 (top 22) (.str q18 304) 59 2 142 355 ["a","many"]++
 df q70 q70 (top 23) (.str q18 304) 61 2 149 363 ["a","b","low","high"]++
 df "hull" "hull" (top 24) (.str q18 304) 67 2 156 373 ["a","b"]++
 df "deep" "deep" (top 25) (.str q18 304) 69 2 163 381 ["a","b"]++
 df "width" "width" (top 26) (.str q18 304) 71 1 170 389 ["a"]++
 df VY VY (top 27) (.str q18 304) 73 1 177 396 ["a"]++
 df q54 q54 (top 29) (.str q21 403) 76 1 184 405 ["span"]++
 df q53 q53 (top 30) (.str q21 403) 78 1 191 412 ["pair"]++
 df VC VC (top 31) (.str q21 403) 80 2 198 419 ["one",q80]++
 df q41 q41 (top 32) (.str q21 403) 86 3 205 427 ["x","low","high"]++
 df Uz Uz (top 33) (.str q21 403) 90 2 212 436 ["top",q71]++
 df q55 q55 (top 34) (.str q21 403) 92 3 219 444 [VV,"x","y","low_by","high_by","low","high"]++
 df q60 q60 (top 35) (.str q21 403) 98 4 226 457 ["z","x","y","grid",VV,"left","turned"]++
 df q61 q61 (top 36) (.str q21 403) 109 2 233 470 [q8,"many","guess","better"]++
 df q77 q77 (top 37) (.str q21 403) 118 3 240 480 ["guess",q8,"many"]++
 df "root" "root" (top 38) (.str q21 403) 120 2 247 489 [q8,"many","below"]++
 df q78 q78 (top 39) (.str q21 403) 127 4 254 498 ["z","x","many","grid","scale","powers","low","high"]++
 [tpO [],(bO q20 (.type "type")),(dO #[(de P q12 521 (.str q0 512)),(de P q25 523 (.str "Node" 522)),(de P q5 525 (.int 138 524)),(dr P q2 526 268)] 4),tpO [],fdO [],(cO "Node" 516 "Node" 517 518 138 264 181 265 519 138 520),(gO 266 3 263 (.str q0 512) 0),tpO [],(dO #[(de P q12 521 (.str q0 512)),(de P q5 525 (.int 138 524)),(dr P q2 526 268),(dr P "__dict__" 528 271),(dr P q92 530 272),(dn P q48 531)] 4),(.mk (.type "type") none (.cls (PySem.ClassData.mk "Node" [(.type q35)] [(r 270),(.type q35)] 269 "Node" Bool.true [] [(r 319),(r 364)] Bool.false none Bool.false)) #[none,none,(some (.str "Node" 514)),(some (.str "Node" 522)),(some (.builtin q22)),(some (.bool Bool.true))]),(.mk (.type q62) none (.fields #[(.str "__dict__" 527),(r 270),(.builtin "function.__dict__"),(.builtin "function.__dict__#set")]) #[]),(.mk (.type q62) none (.fields #[(.str q92 529),(r 270),(.builtin q79),.none]) #[]),(uO 270),(bO q10 (r 270)),tpO [(r 270)],(bO q20 (.type "type")),(dO #[(de P q12 541 (.str q0 512)),(de P q25 543 (.str "Number" 542)),(de P q5 545 (.int 140 544)),(dr P q4 554 288),(dr P q33 563 295),(dr P q9 574 302),(dr P "back" 584 309),(dr P q16 595 316),(dr P q2 598 317)] 9),tpO [],fq [(142,287),(146,294),(149,301),(153,308),(156,315)] 4,(cO "Number" 536 "Number" 537 538 140 278 181 279 539 140 540),(gO 280 3 277 (.str q0 512) 0)]++
 df q4 "Number.__init__" (Zy (top 42) 0) (.str q0 512) 142 3 282 546 ["self","top",q71]++
 df q33 "Number.exact" (Zy (top 42) 1) (.str q0 512) 146 3 289 555 ["self",q23,"point"]++
 df q9 "Number.forth" (Zy (top 42) 2) (.str q0 512) 149 4 296 564 ["self",q3,"box","grid",q8]++
 df "back" "Number.back" (Zy (top 42) 3) (.str q0 512) 153 4 303 575 ["self",q3,"here","grid"]++
 df q16 "Number.slope" (Zy (top 42) 4) (.str q0 512) 156 5 310 585 ["self",q3,q26,q46,"grid"]++
 [tpO [(.str q71 596),(.str "top" 597)],(dO #[(de P q12 541 (.str q0 512)),(de P q5 545 (.int 140 544)),(dr P q4 554 288),(dr P q33 563 295),(dr P q9 574 302),(dr P "back" 584 309),(dr P q16 595 316),(dr P q2 598 317),(dn P q48 599)] 2),(tyO q22 "Number" [(r 270)] [(r 319),(r 270),(.type q35)] 318 [] 275 534 542),(uO 319),(bO q10 (r 319)),tpO [(r 270)],(bO q20 (.type "type")),(dO #[(de P q12 609 (.str q0 512)),(de P q25 611 (.str "Unknown" 610)),(de P q5 613 (.int 158 612)),(dr P q4 621 335),(dr P q33 630 342),(dr P q9 640 349),(dr P "back" 650 356),(dr P q16 656 361),(dr P q2 658 362)] 9),tpO [],fq [(160,334),(163,341),(166,348),(169,355),(172,360)] 4,(cO "Unknown" 604 "Unknown" 605 606 158 325 181 326 607 158 608),(gO 327 3 324 (.str q0 512) 0)]++
 df q4 q135 (Zy (top 43) 0) (.str q0 512) 160 2 329 614 ["self",Wh]++
 df q33 "Unknown.exact" (Zy (top 43) 1) (.str q0 512) 163 3 336 622 ["self",q23,"point"]++
 df q9 "Unknown.forth" (Zy (top 43) 2) (.str q0 512) 166 4 343 631 ["self",q3,"box","grid"]++
 df "back" "Unknown.back" (Zy (top 43) 3) (.str q0 512) 169 4 350 641 ["self",q3,"here","grid"]++
 dg q16 "Unknown.slope" (Zy (top 43) 4) (.str q0 512) 172 5 357 651++
 [tpO [(.str Wh 657)],(dO #[(de P q12 609 (.str q0 512)),(de P q5 613 (.int 158 612)),(dr P q4 621 335),(dr P q33 630 342),(dr P q9 640 349),(dr P "back" 650 356),(dr P q16 656 361),(dr P q2 658 362),(dn P q48 659)] 2),(tyO q22 "Unknown" [(r 270)] [(r 364),(r 270),(.type q35)] 363 [] 322 602 610),(uO 364),(bO q10 (r 364))]
noncomputable def S1:=mS 12 mO1 367 662
theorem p1_eq (w:World):(λos=>segRunT treeTable QW w 11 (some (.ref 6)) 1 2399 (S0 w os) (piecesOf (bI.take 44) ev cE ⟨0,0,0,0⟩ fT))=λos=>some (.next,S1 w os,cE,⟨158,0,173,85⟩):=by kernel_rfl
noncomputable abbrev dE1 (P:Params):List DictEntry:=dE0 P++[(dr P "Pair" 706 395),(dr P "Plus" 775 442),(dr P "Minus" 844 489),(dr P "Times" 913 536),(dr P "Power" 976 581),(dr P q86 983 590),(dr P q23 996 597),(dr P "bars" 1004 604),(dr P "sure" 1012 611),(dr P VF 1026 618),(dr P q37 1034 623),(dr P VI 1040 628),(dr P q98 1046 633),(dr P q27 1052 638),(dr P q29 1064 645),(dr P TC 1070 650),(dr P U0 1076 655),(dr P Up 1082 660),(dr P q64 1092 667),(dr P q93 1102 674),(dr P q38 1108 679),(dr P Th 1114 684),(dr P "alone" 1120 689),(dr P U3 1130 696),(dr P q81 1146 703),(dr P Uc 1161 710),(dr P q72 1172 717),(dr P q73 1183 724),(dr P V6 1191 731),(dr P TV 1199 738),(dr P U9 1212 745),(dr P "shaves" 1228 752),(dr P q99 1236 757),(dr P WR 1243 764),(dr P "Book" 1316 812),(dr P VP 1328 823),(dr P "shave" 1345 830),(dr P q56 1351 835),(dr P q65 1364 842),(dr P UH 1377 849),(dr P q57 1385 856),(dr P q30 1395 863),(dr P "look" 1410 870),(dr P "search" 1425 877),(dr P q43 1436 884),(dr P q58 1445 891),(dr P q52 1454 898),(dr P q82 1466 905),(dr P UY 1474 912),(dr P q44 1488 919),(dr P q74 1497 926),(dr P q83 1503 931),(dr P q89 1511 938),(dr P q39 1519 945),(dr P q51 1528 952),(dr P UW 1544 959),(dr P q84 1560 966)]
abbrev fE1:List (Int×Addr):=fE0++[(174,372),(194,403),(210,450),(226,497),(242,544),(264,589),(277,596),(282,603),(286,610),(291,617),(298,622),(300,627),(302,632),(304,637),(306,644),(311,649),(315,654),(322,659),(324,666),(326,673),(328,678),(330,683),(332,688),(345,695),(349,702),(363,709),(374,716),(376,723),(379,730),(381,737),(383,744),(389,751),(404,756),(406,763),(408,770),(436,822),(439,829),(451,834),(458,841),(464,848),(472,855),(474,862),(478,869),(489,876),(498,883),(503,890),(511,897),(514,904),(523,911),(528,918),(539,925),(541,930),(554,937),(558,944),(561,951),(565,958),(582,965)]
noncomputable def mO2 (P:Params):List Obj:=((((mO1 P).set 3 (dX (de P "__name__" 165 (.str q1 1426)) (dE1 P) 104)).set 12 (fq fE1 0)).set 270 (.mk (.type "type") none (.cls (PySem.ClassData.mk "Node" [(.type q35)] [(r 270),(.type q35)] 269 "Node" Bool.true [] [(r 319),(r 364),(r 395),(r 581)] Bool.false none Bool.false)) #[none,none,(some (.str "Node" 514)),(some (.str "Node" 522)),(some (.builtin q22)),(some (.bool Bool.true))]))++
 [tpO [(r 270)],(bO q20 (.type "type")),(dO #[(de P q12 669 (.str q0 512)),(de P q25 671 (.str "Pair" 670)),(de P q5 673 (.int 174 672)),(dr P q4 682 380),(dr P "back" 694 387),(dr P q16 700 392),(dr P q2 703 393)] 7),tpO [],fq [(176,379),(180,386),(190,391)] 4,(cO "Pair" 664 "Pair" 665 666 174 370 181 371 667 174 668),(gO 372 3 369 (.str q0 512) 0)]++
 df q4 q97 (Zy (top 44) 0) (.str q0 512) 176 3 374 674 ["self","one",q80]++
 df "back" q133 (Zy (top 44) 1) (.str q0 512) 180 4 381 683 ["self",q3,"here","grid","x","y"]++
 dg q16 q129 (Zy (top 44) 2) (.str q0 512) 190 5 388 695++
 [tpO [(.str "one" 701),(.str q80 702)],(dO #[(de P q12 669 (.str q0 512)),(de P q5 673 (.int 174 672)),(dr P q4 682 380),(dr P "back" 694 387),(dr P q16 700 392),(dr P q2 703 393),(dn P q48 704)] 2),(tyO q22 "Pair" [(r 270)] [(r 395),(r 270),(.type q35)] 394 [(r 442),(r 489),(r 536)] 367 662 670),(uO 395),(bO q10 (r 395)),tpO [(r 395)],(bO q20 (.type "type")),(dO #[(de P q12 714 (.str q0 512)),(de P q25 716 (.str "Plus" 715)),(de P q5 718 (.int 194 717)),(dr P q33 727 411),(dr P q9 737 418),(dr P q15 748 425),(dr P q13 759 432),(dr P q11 771 439),(dr P q2 772 440)] 9),tpO [],fq [(196,410),(199,417),(202,424),(205,431),(208,438)] 4,(cO "Plus" 709 "Plus" 710 711 194 401 181 402 712 194 713),(gO 403 3 400 (.str q0 512) 0)]++
 df q33 "Plus.exact" (Zy (top 45) 0) (.str q0 512) 196 3 405 719 ["self",q23,"point"]++
 df q9 "Plus.forth" (Zy (top 45) 1) (.str q0 512) 199 4 412 728 ["self",q3,"box","grid"]++
 df q15 "Plus.first_left" (Zy (top 45) 2) (.str q0 512) 202 5 419 738 ["self","here","x","y","grid"]++
 df q13 q136 (Zy (top 45) 3) (.str q0 512) 205 5 426 749 ["self","here","x","y","grid"]++
 df q11 q130 (Zy (top 45) 4) (.str q0 512) 208 6 433 760 ["self","x","y","a","b","grid"]++
 [tpO [],(dO #[(de P q12 714 (.str q0 512)),(de P q5 718 (.int 194 717)),(dr P q33 727 411),(dr P q9 737 418),(dr P q15 748 425),(dr P q13 759 432),(dr P q11 771 439),(dr P q2 772 440),(dn P q48 773)] 2),(tyO q22 "Plus" [(r 395)] [(r 442),(r 395),(r 270),(.type q35)] 441 [] 398 707 715),(uO 442),(bO q10 (r 442)),tpO [(r 395)],(bO q20 (.type "type")),(dO #[(de P q12 783 (.str q0 512)),(de P q25 785 (.str "Minus" 784)),(de P q5 787 (.int 210 786)),(dr P q33 796 458),(dr P q9 806 465),(dr P q15 817 472),(dr P q13 828 479),(dr P q11 840 486),(dr P q2 841 487)] 9),tpO [],fq [(212,457),(215,464),(218,471),(221,478),(224,485)] 4,(cO "Minus" 778 "Minus" 779 780 210 448 181 449 781 210 782),(gO 450 3 447 (.str q0 512) 0)]++
 df q33 "Minus.exact" (Zy (top 46) 0) (.str q0 512) 212 3 452 788 ["self",q23,"point"]++
 df q9 "Minus.forth" (Zy (top 46) 1) (.str q0 512) 215 4 459 797 ["self",q3,"box","grid"]++
 df q15 q137 (Zy (top 46) 2) (.str q0 512) 218 5 466 807 ["self","here","x","y","grid"]++
 df q13 q131 (Zy (top 46) 3) (.str q0 512) 221 5 473 818 ["self","here","x","y","grid"]++
 df q11 q126 (Zy (top 46) 4) (.str q0 512) 224 6 480 829 ["self","x","y","a","b","grid"]++
 [tpO [],(dO #[(de P q12 783 (.str q0 512)),(de P q5 787 (.int 210 786)),(dr P q33 796 458),(dr P q9 806 465),(dr P q15 817 472),(dr P q13 828 479),(dr P q11 840 486),(dr P q2 841 487),(dn P q48 842)] 2),(tyO q22 "Minus" [(r 395)] [(r 489),(r 395),(r 270),(.type q35)] 488 [] 445 776 784),(uO 489),(bO q10 (r 489)),tpO [(r 395)],(bO q20 (.type "type")),(dO #[(de P q12 852 (.str q0 512)),(de P q25 854 (.str "Times" 853)),(de P q5 856 (.int 226 855)),(dr P q33 865 505),(dr P q9 875 512),(dr P q15 886 519),(dr P q13 897 526),(dr P q11 909 533),(dr P q2 910 534)] 9),tpO [],fq [(228,504),(231,511),(234,518),(237,525),(240,532)] 4,(cO "Times" 847 "Times" 848 849 226 495 181 496 850 226 851),(gO 497 3 494 (.str q0 512) 0)]++
 df q33 "Times.exact" (Zy (top 47) 0) (.str q0 512) 228 3 499 857 ["self",q23,"point"]++
 df q9 "Times.forth" (Zy (top 47) 1) (.str q0 512) 231 4 506 866 ["self",q3,"box","grid"]++
 df q15 q138 (Zy (top 47) 2) (.str q0 512) 234 5 513 876 ["self","here","x","y","grid"]++
 df q13 q132 (Zy (top 47) 3) (.str q0 512) 237 5 520 887 ["self","here","x","y","grid"]++
 df q11 q127 (Zy (top 47) 4) (.str q0 512) 240 6 527 898 ["self","x","y","a","b","grid"]++
 [tpO [],(dO #[(de P q12 852 (.str q0 512)),(de P q5 856 (.int 226 855)),(dr P q33 865 505),(dr P q9 875 512),(dr P q15 886 519),(dr P q13 897 526),(dr P q11 909 533),(dr P q2 910 534),(dn P q48 911)] 2),(tyO q22 "Times" [(r 395)] [(r 536),(r 395),(r 270),(.type q35)] 535 [] 492 845 853),(uO 536),(bO q10 (r 536)),tpO [(r 270)],(bO q20 (.type "type")),(dO #[(de P q12 921 (.str q0 512)),(de P q25 923 (.str "Power" 922)),(de P q5 925 (.int 242 924)),(dr P q4 934 552),(dr P q33 943 559),(dr P q9 953 566),(dr P "back" 964 573),(dr P q16 970 578),(dr P q2 973 579)] 9),tpO [],fq [(244,551),(248,558),(251,565),(254,572),(260,577)] 4,(cO "Power" 916 "Power" 917 918 242 542 181 543 919 242 920),(gO 544 3 541 (.str q0 512) 0)]++
 df q4 "Power.__init__" (Zy (top 48) 0) (.str q0 512) 244 3 546 926 ["self","one","many"]++
 df q33 "Power.exact" (Zy (top 48) 1) (.str q0 512) 248 3 553 935 ["self",q23,"point"]++
 df q9 "Power.forth" (Zy (top 48) 2) (.str q0 512) 251 4 560 944 ["self",q3,"box","grid"]++
 df "back" "Power.back" (Zy (top 48) 3) (.str q0 512) 254 4 567 954 ["self",q3,"here","grid","x"]++
 dg q16 "Power.slope" (Zy (top 48) 4) (.str q0 512) 260 5 574 965++
 [tpO [(.str "many" 971),(.str "one" 972)],(dO #[(de P q12 921 (.str q0 512)),(de P q5 925 (.int 242 924)),(dr P q4 934 552),(dr P q33 943 559),(dr P q9 953 566),(dr P "back" 964 573),(dr P q16 970 578),(dr P q2 973 579),(dn P q48 974)] 2),(tyO q22 "Power" [(r 270)] [(r 581),(r 270),(.type q35)] 580 [] 539 914 922),(uO 581),(bO q10 (r 581))]++
 df q86 q86 (top 49) (.str q0 512) 264 1 584 977 ["node"]++
 df q23 q23 (top 51) (.str q139 984) 277 3 591 986 [q7,"box","grid","found","node"]++
 df "bars" "bars" (top 52) (.str q139 984) 282 2 598 997 ["word","span"]++
 df "sure" "sure" (top 53) (.str q139 984) 286 2 605 1005 ["word","span"]++
 df VF VF (top 55) (.str "boxnarrow.sloping" 1013) 291 3 612 1015 [q7,"box","grid",q3,"found","node"]++
 dg q37 q37 (top 57) (.str q17 1027) 298 1 619 1029++
 dg VI VI (top 58) (.str q17 1027) 300 2 624 1035++
 dg q98 q98 (top 59) (.str q17 1027) 302 1 629 1041++
 dg q27 q27 (top 60) (.str q17 1027) 304 1 634 1047++
 df q29 q29 (top 61) (.str q17 1027) 306 3 639 1053 ["ones","others","grid","total","one",q80]++
 dg TC TC (top 62) (.str q17 1027) 311 5 646 1065++
 dg U0 U0 (top 63) (.str q17 1027) 315 6 651 1071++
 dg Up Up (top 64) (.str q17 1027) 322 5 656 1077++
 df q64 q64 (top 65) (.str q17 1027) 324 4 661 1083 [q7,q90,"box","grid"]++
 df q93 q93 (top 66) (.str q17 1027) 326 4 668 1093 [q7,q90,"box","grid"]++
 dg q38 q38 (top 67) (.str q17 1027) 328 2 675 1103++
 dg Th Th (top 68) (.str q17 1027) 330 2 680 1109++
 dg "alone" "alone" (top 69) (.str q17 1027) 332 4 685 1115++
 df U3 U3 (top 71) (.str q140 1121) 345 2 690 1123 ["word","span"]++
 df q81 q81 (top 72) (.str q140 1121) 349 4 697 1131 [q7,"row","box","grid","at",q3,"wished",q8,"left","part"]++
 df Uc Uc (top 73) (.str q140 1121) 363 4 704 1147 [q7,"row","box","grid",q3,"left",q8,"span","node"]++
 df q72 q72 (top 75) (.str q40 1162) 374 3 711 1164 ["box","k","span"]++
 df q73 q73 (top 76) (.str q40 1162) 376 4 718 1173 [q7,"row","box","grid","at"]++
 df V6 V6 (top 77) (.str q40 1162) 379 2 725 1184 ["span","cut"]++
 df TV TV (top 78) (.str q40 1162) 381 2 732 1192 ["span","cut"]++
 df U9 U9 (top 79) (.str q40 1162) 383 5 739 1200 [q7,"row","box","grid","cut","k","span"]++
 df "shaves" "shaves" (top 80) (.str q40 1162) 389 4 746 1213 [q7,"row","box","grid","left","wished","cuts","k","span","cut"]++
 dg q99 q99 (top 82) (.str q6 1229) 404 1 753 1231++
 df WR WR (top 83) (.str q6 1229) 406 1 758 1237 ["box"]++
 [tpO [],(bO q20 (.type "type")),(dO #[(de P q12 1251 (.str q6 1229)),(de P q25 1253 (.str "Book" 1252)),(de P q5 1255 (.int 408 1254)),(dr P q4 1263 778),(dr P q94 1271 785),(dr P W8 1280 792),(dr P "part" 1294 799),(dr P q85 1300 804),(dr P q87 1306 809),(dr P q2 1309 810)] 10),tpO [],fq [(410,777),(414,784),(419,791),(422,798),(430,803),(434,808)] 4,(cO "Book" 1246 "Book" 1247 1248 408 768 181 769 1249 408 1250),(gO 770 3 767 (.str q6 1229) 0)]++
 df q4 "Book.__init__" (Zy (top 84) 0) (.str q6 1229) 410 2 772 1256 ["self","box"]++
 df q94 "Book.put_entry" (Zy (top 84) 1) (.str q6 1229) 414 2 779 1264 ["self","box"]++
 df W8 "Book.settle" (Zy (top 84) 2) (.str q6 1229) 419 3 786 1272 ["self",q8,"fate"]++
 df "part" "Book.part" (Zy (top 84) 3) (.str q6 1229) 422 4 793 1281 ["self",q8,"k",Wh,"box","span","a","b"]++
 dg q85 "Book.to_look_at" (Zy (top 84) 4) (.str q6 1229) 430 1 800 1295++
 dg q87 "Book.entries" (Zy (top 84) 5) (.str q6 1229) 434 1 805 1301++
 [tpO [(.str "boxes" 1307),(.str "fates" 1308)],(dO #[(de P q12 1251 (.str q6 1229)),(de P q5 1255 (.int 408 1254)),(dr P q4 1263 778),(dr P q94 1271 785),(dr P W8 1280 792),(dr P "part" 1294 799),(dr P q85 1300 804),(dr P q87 1306 809),(dr P q2 1309 810),(dr P "__dict__" 1311 813),(dr P q92 1313 814),(dn P q48 1314)] 4),(.mk (.type "type") none (.cls (PySem.ClassData.mk "Book" [(.type q35)] [(r 812),(.type q35)] 811 "Book" Bool.true [] [] Bool.false none Bool.false)) #[none,none,(some (.str "Book" 1244)),(some (.str "Book" 1252)),(some (.builtin q22)),(some (.bool Bool.true))]),(.mk (.type q62) none (.fields #[(.str "__dict__" 1310),(r 812),(.builtin "function.__dict__"),(.builtin "function.__dict__#set")]) #[]),(.mk (.type q62) none (.fields #[(.str q92 1312),(r 812),(.builtin q79),.none]) #[]),(uO 812),(bO q10 (r 812))]++
 df VP VP (top 85) (.str q6 1229) 436 5 817 1317 [q7,"rows","r","box","grid","at"]++
 df "shave" "shave" (top 86) (.str q6 1229) 439 5 824 1329 ["book",q7,"rows","grid",q8,"r","row","found","cut","parts","thrown"]++
 dg q56 q56 (top 87) (.str q6 1229) 451 5 831 1346++
 df q65 q65 (top 88) (.str q6 1229) 458 5 836 1352 [q7,"rows","box","grid",q3,"found","thin"]++
 df UH UH (top 89) (.str q6 1229) 464 5 843 1365 [q7,"rows","box","grid","fine",q3,"fate"]++
 df q57 q57 (top 90) (.str q6 1229) 472 2 850 1378 ["box","began"]++
 df q30 q30 (top 91) (.str q6 1229) 474 2 857 1386 ["book",q8,"box","k"]++
 df "look" "look" (top 92) (.str q6 1229) 478 6 864 1396 ["book",q7,"rows","grid","fine",q8,"began","box","fate"]++
 df "search" "search" (top 93) (.str q6 1229) 489 6 871 1411 [q7,"rows","box","grid","fine","looks","book","time",q8]++
 df q43 q43 (top 95) (.str q1 1426) 498 2 878 1428 [q14,q91,q47]++
 df q58 q58 (top 96) (.str q1 1426) 503 2 885 1437 ["_law_a","_law_b","_law_rest"]++
 df q52 q52 (top 97) (.str q1 1426) 511 2 892 1446 ["_law_top",q66,"_law_shared"]++
 df q82 q82 (top 98) (.str q1 1426) 514 1 899 1455 [q14,q19,q91,q47,q66,U2]++
 df UY UY (top 99) (.str q1 1426) 523 2 906 1467 [q36,"_law_node"]++
 df q44 q44 (top 100) (.str q1 1426) 528 3 913 1475 [q19,q67,q95,q36,VT,U2,"_law_number","_law_square"]++
 df q74 q74 (top 101) (.str q1 1426) 539 3 920 1489 [q96,"_law_a",q75]++
 dg q83 q83 (top 102) (.str q1 1426) 541 3 927 1498++
 df q89 q89 (top 103) (.str q1 1426) 554 2 932 1504 [q14,q91]++
 df q39 q39 (top 104) (.str q1 1426) 558 1 939 1512 [q47,q66]++
 df q51 q51 (top 105) (.str q1 1426) 561 1 946 1520 [q47,"_law_one","_law_other"]++
 df UW UW (top 106) (.str q1 1426) 565 1 953 1529 [q14,q19,q91,U2,q67,q95,q36,VT,q96,SN]++
 df q84 q84 (top 107) (.str q1 1426) 582 1 960 1545 [q14,q19,q67,q95,q36,VT,q75,"_law_low","_law_high",SN]
noncomputable def S2:=mS 12 mO2 967 1561
theorem p2_eq (w:World):(λos=>segRunT treeTable QW w 11 (some (.ref 6)) 1 3924 (S1 w os) (piecesOf ((bI.drop 44).take 64) ev cE ⟨158,0,173,85⟩ fT))=λos=>some (.next,S2 w os,cE,⟨582,0,597,163⟩):=by kernel_rfl
def kA:List Addr:=(27::32::39::44::51::56::61::71::84::93::100::107::114::121::128::135::140::147::154::161::168::175::182::189::196::203::210::217::224::231::238::245::252::259::269::287::301::308::315::318::334::348::355::360::363::379::386::391::394::417::424::431::438::441::464::471::478::485::488::511::518::525::532::535::551::565::572::577::580::589::596::603::610::617::622::627::632::637::644::649::654::659::666::673::678::683::688::695::702::709::716::723::730::737::744::751::756::763::777::784::791::798::803::808::811::822::829::834::841::848::855::862::869::876::883::890::897::904::911::918::925::930::937::944::951::958::965::[]).flatMap λa=>[a,a+1]
noncomputable abbrev dE2 (P:Params):List DictEntry:=dE1 P++[(dr P "law" 1566 971)]
noncomputable def kq:Params->PySem.W.Frag:=λP=>
 (3,(dX (de P "__name__" 165 (.str q1 1426)) (dE2 P) 105))::
 (970,co "law" "law" 1561 1562 1563 1565 598 1 967 968 .none .none 969 1564)::
 (971,fp "law" "law" 108 q1 1426 970)::
 kA.map λa=>(a,(mO2 P).getD a (boot_o_0 P))
noncomputable def kp:Params->PySem.W.Frag:=λP=>(nat_lit 801,⟨.none,none,.fields #[],#[]⟩)::kq P
def ks:List Addr:=801::3::970::971::kA
theorem W7 (P:Params):ks=(kp P).map (·.1):=by kernel_rfl
noncomputable abbrev hk:W.Hook:=W.kHook kp ks W7
noncomputable abbrev gT {α:Type}(w:World)(f:SharedT->α):=λos=>(L3.frc (L3.mkB 12 (mO2 w.params)) λT=>L3.goT treeTable QW w 11 (some (.ref 6)) 178 ⟨T,967,(boot_heap w.params).life,Array.mk [],boot_drawn,1561,os⟩ (restOf ((bI.drop 44).drop 64) ev cE ⟨582,0,597,163⟩ fT)).map f
theorem zhY (w:World):gT w (λs=>(L3.L5 QW w s))=λ_=>some (true):=by kernel_rfl
theorem B9 (w:World):gT w (λs=>(seen ((recsOf vw).map (·.name)) (ownsOf vw) [] { s.abs with gens:=#[] }))=λ_=>some (expectedOf vw):=by kernel_rfl
theorem zcB (w:World):gT w (λs=>(s.abs.heap.bltView))=λ_=>some (bltViewBooted):=by kernel_rfl
theorem zhb (w:World):gT w (λs=>(s.abs.heap.keysOk (looseW vw []) ((recsOf vw).map (·.name)) ((litsOf vw).map (·.1)) ((clssOf vw (looseW vw [])).map (·.name))&&s.abs.heap.accountedOkI (importedModules QW.main.body)&&s.abs.heap.isNs mainGlobals&&s.abs.heap.isNs builtinsNs&&tablesOk vw s.abs.heap&&xt s.abs&&(if true then s.abs.gens.size==0 else !leftWithCleanup s.abs.gens)))=λ_=>some (true):=by kernel_rfl
theorem zgE (w:World):gT w (λs=>(tabsOk vw s.abs))=λ_=>some (true):=by kernel_rfl
theorem zdi (w:World):gT w (λs=>(pinSeenD vw (drecsOf vw) s.abs,plainSeenE vw (looseW vw []) s.abs,plainSeenD vw [] s.abs,wideSeen vw s.abs,clsSeenW vw [] s.abs))=λ_=>some (pinGoodD (drecsOf vw),plainGoodE vw (looseW vw []),plainGoodD vw [],wideGood vw,clsGoodW vw []):=by kernel_rfl
theorem ob_eq (w:World):gT w (λs=>ks.map (L3.O9 s))=λ_=>some (hk.val w):=by kernel_rfl
theorem left:LeftO QW vw [] xt hk.obs hk.val 6514:=L3.zhO (L3.zcj ks) Jw ⋯ fe_eq si_eq (λw os _ r=>L3.zcL rfl (congrFun (Av w) os) (congrFun (zhB w) os) ⋯ (L3.D2 (congrFun (p1_eq w) os) (L3.D2 (congrFun (p2_eq w) os) (L3.Hv ((L3.LW _ _).symm.trans r))))) (λw=>L3.LZ (zhY w) (B9 w)) (λw=>L3.LZ (zcB w) (zhb w)) (λw=>L3.LZ (zgE w) (zdi w)) ob_eq
end Mine
namespace L2
open PySem PySem.Spec PyProof.Rows
abbrev Key:=Sum Int Str
def HL:Key->Value->Bool
 | .inl k,v=>Value.isInt k v
 | .inr x,v=>Value.isStrOf x v
def keyH (w:World):Key->Int
 | .inl k=>hashInt k
 | .inr x=>hashStr w x
theorem Wr:∀ {k:Key} {v:Value},HL k v=true->(∃i t,k=Sum.inl i/\v=Value.int i t)\/(∃x t,k=Sum.inr x/\v=Value.str x t)
 | .inl i,v,h=>by
  obtain⟨t,e⟩:=Value.isInt_shape (k:=i) (v:=v) h;exact .inl ⟨i,t,rfl,e⟩
 | .inr x,v,h=>by
  obtain⟨t,e⟩:=Value.isStrOf_shape (x:=x) (v:=v) h;exact .inr ⟨x,t,rfl,e⟩
theorem zcu (a b:Int):decide ((Sum.inl a:Key)=Sum.inl b)=(a==b):=by
 by_cases e:a=b
 .subst e;simp
 .have h:¬ (Sum.inl a:Key)=Sum.inl b:=λq=>e (Sum.inl.inj q)
  rw[decide_eq_false h];exact(beq_eq_false_iff_ne.mpr e).symm
theorem zbR (a b:Str):decide ((Sum.inr a:Key)=Sum.inr b)=decide (a=b):=by
 by_cases e:a=b
 .subst e;simp
 .have h:¬ (Sum.inr a:Key)=Sum.inr b:=λq=>e (Sum.inr.inj q)
  rw[decide_eq_false h,decide_eq_false e]
theorem zb1 (a:Int)(b:Str):decide ((Sum.inl a:Key)=Sum.inr b)=false:=decide_eq_false (λq=>nomatch q)
theorem zia (a:Str)(b:Int):decide ((Sum.inr a:Key)=Sum.inl b)=false:=decide_eq_false (λq=>nomatch q)
def Er (prog:Program)(w:World):PySem.KeyKind prog w Key where
 is:=HL
 hash:=keyH w
 inj:=λv a b ha hb=>by
  rcases Wr ha with ⟨i,t,rfl,rfl⟩|⟨x,t,rfl,rfl⟩
  .rcases Wr hb with ⟨j,u,rfl,e⟩|⟨y,u,rfl,e⟩
   .injection e with e1 _;rw[e1]
   .exact nomatch e
  .rcases Wr hb with ⟨j,u,rfl,e⟩|⟨y,u,rfl,e⟩
   .exact nomatch e
   .injection e with e1 _;rw[e1]
 byValue:=λk v h=>by
  rcases Wr h with ⟨i,t,rfl,rfl⟩|⟨x,t,rfl,rfl⟩<;>rfl
 pyHash:=λhv h=>by
  rcases Wr hv with ⟨i,t,rfl,rfl⟩|⟨x,t,rfl,rfl⟩
  .exact wpAny_pyHash_int h
  .exact wpAny_pyHash_str h
 eqBool:=λhu hv h=>by
  rcases Wr hu with ⟨i,t,rfl,rfl⟩|⟨x,t,rfl,rfl⟩
  .rcases Wr hv with ⟨j,u,rfl,rfl⟩|⟨y,u,rfl,rfl⟩
   .rw[zcu] at h;exact wpAny_eqBool_int h
   .rw[zb1] at h;exact SeqAt.EqAt.int_str i t y u _ _ _ _ h
  .rcases Wr hv with ⟨j,u,rfl,rfl⟩|⟨y,u,rfl,rfl⟩
   .rw[zia] at h;exact SeqAt.EqAt.str_int x t j u _ _ _ _ h
   .rw[zbR] at h;exact wpAny_eqBool_str h
 «strs»:=λk x t v h=>by
  rcases Wr h with ⟨i,u,rfl,e⟩|⟨y,u,rfl,e⟩
  .exact nomatch e
  .injection e with e1 _
   subst e1;cases v<;>rfl
set_option genInjectivity true in
inductive V where
 | non|bl (b:Bool)|int (i:Int)|str (x:Str)|byt (b:Array UInt8)|flt (b:UInt64)|ref (a:Addr)|ty (n:String)
 deriving DecidableEq
def Zw:V->Value->Prop
 | .non,u=>u=Value.none
 | .bl b,u=>u=Value.bool b
 | .int i,u=>∃t,u=Value.int i t
 | .str x,u=>∃t,u=Value.str x t
 | .byt b,u=>∃t,u=Value.bytes b t
 | .flt b,u=>∃t,u=Value.float b t
 | .ref a,u=>u=Value.ref a
 | .ty n,u=>u=Value.type n
abbrev Zv:List V->List Value->Prop:=Paired Zw
theorem Zv.length {xs:List V}{us:List Value}(r:Zv xs us):xs.length=us.length:=Paired.length r
theorem Zv.get:∀ {xs:List V} {us:List Value} {i:Nat} {x:V},Zv xs us->xs[i]?=some x->∃u,us[i]?=some u/\Zw x u
 | _,_,_,_,.nil,e=>by simp at e
 | _,_,0,_,.cons r _,e=>by simp at e;subst e;exact⟨_,rfl,r⟩
 | _,_,i+1,x,.cons _ t,e=>by
  obtain⟨u,h1,h2⟩:=Zv.get (i:=i) (x:=x) t (by simpa using e);exact⟨u,by simpa using h1,h2⟩
theorem Zv.set {x:V}{u:Value}(r:Zw x u):∀ {xs:List V} {us:List Value} (i:Nat),Zv xs us->Zv (xs.set i x) (us.set i u)
 | _,_,_,.nil=>.nil
 | _,_,0,.cons _ t=>.cons r t
 | _,_,i+1,.cons q t=>.cons q (Zv.set r i t)
theorem Zv.append:∀ {xs ys:List V} {us ws:List Value},Zv xs us->Zv ys ws->Zv (xs++ys) (us++ws)
 | _,_,_,_,.nil,s=>s
 | _,_,_,_,.cons r t,s=>.cons r (Zv.append t s)
theorem Zv.take:∀ {xs:List V} {us:List Value} (n:Nat),Zv xs us->Zv (xs.take n) (us.take n)
 | _,_,0,_=>.nil
 | _,_,_+1,.nil=>.nil
 | _,_,n+1,.cons r t=>.cons r (Zv.take n t)
theorem Zv.drop:∀ {xs:List V} {us:List Value} (n:Nat),Zv xs us->Zv (xs.drop n) (us.drop n)
 | _,_,0,r=>r
 | _,_,_+1,.nil=>.nil
 | _,_,n+1,.cons _ t=>Zv.drop n t
def X2:Option V->Option Value->Prop
 | some v,some u=>Zw v u
 | none,none=>True
 | _,_=>False
def KV {κ:Type}:List (κ×V)->List (κ×Value)->Prop:=Paired λ(p:κ×V)(q:κ×Value)=>p.1=q.1/\Zw p.2 q.2
def kV:Key->V
 | .inl i=>.int i
 | .inr x=>.str x
inductive HO where
  | lst (xs:List V)
  | tup (xs:List V)
  | dK (aV:List (Key×V))|dT (aV:List (List Key×V))
  | set (S:Int->Bool) (n:Nat)
  | ins (C dx:Addr) (fs:List (Str×V))
  | own (x:Addr)
  | xd (fs:List (Str×V))
  | met (f x:Addr)
  | rng (lo hi:Int)
  | frz (o:Obj) (u:HO)
  | tbl (ps:Array Value)
  | ext (φ:Heap->Prop)
abbrev Hp:=Addr->Option HO
def upd (H:Hp)(a:Addr)(o:HO):Hp:=λb=>if b=a then some o else H b
theorem YN {H:Hp}{a:Addr}{o:HO}:upd H a o a=some o:=by unfold upd;rw[if_pos rfl]
theorem ZV {H:Hp}{a b:Addr}{o:HO}(h:b≠a):upd H a o b=H b:=by unfold upd;rw[if_neg h]
theorem Lr {H:Hp}{a b:Addr}{o u:HO}(h:H a=some o)(h':H b=some u)(d:o≠u):a≠b:=by
 intro e;subst e;rw[h] at h';exact d (Option.some.inj h')
theorem Vn {H:Hp}{a b:Addr}{o:HO}(h:H a=some o)(h':H b=none):a≠b:=by
 intro e;subst e;rw[h] at h';cases h'
section
variable (P:Program)(w:World)
def Xg (H:Hp)(h:Heap)(a:Addr):HO->Prop
 | .lst xs=>xs.length<=sizeLine/\∃(aX:List Value)(n:Nat),Zv xs aX/\h.get? a=some { cls:=.type "list",data:=.seq aX.toArray n }
 | .tup xs=>xs.length<=sizeLine/\∃aX:List Value,Zv xs aX/\IsTup h a aX.toArray
 | .dK aV=>aV.length<=sizeLine/\(a==sysModules)=false/\∃vs,KV aV vs/\h.DictOf (Er P w) a vs
 | .dT aV=>aV.length<=sizeLine/\(a==sysModules)=false/\∃xs:List (List Key×Addr×Value),
   Paired (λ(p:List Key×V)(q:List Key×Addr×Value)=>p.1=q.1/\H q.2.1=some (.tup (p.1.map kV))/\Zw p.2 q.2.2) aV xs/\
   ∃o es ep,h.get? a=some o/\o.ExactDict/\o.data=.dict es ep/\es.toList=xs.map (entryOfKey (tupleKind (Er P w)))/\(xs.map (·.1)).Nodup
 | .set S n=>h.SetOf (intKind P w) a S n
 | .ins C dx fs=>H dx=some (.own a)/\fs.length<=1000/\dx≠a/\h.get? a=some (W.instObj C dx)/\
   ∃mA,h.Ns1 dx mA/\(∀f,X2 (fs.lookup f) (mA f))/\PySem.Within mA (fs.map (·.1))
 | .own _=>∃o,h.get? a=some o
 | .xd fs=>∃mA,h.Ns1 a mA/\∀f,X2 (fs.lookup f) (mA f)
 | .rng lo hi=>∃t u v,h.get? a=some { cls:=.type "range",data:=.fields #[.int lo t,.int hi u,.int 1 v] }
 | .frz o u=>h.get? a=some o/\Xg H h a u
 | .tbl ps=>h.get? a=some { cls:=.none,data:=.fields ps }
 | .met f x=>h.get? a=some (W.methodObj (.ref f) (.ref x))
 | .ext φ=>φ h/\(∃o,h.get? a=some o)/\∀h1 h2:Heap,φ h1->(∀o,h1.get? a=some o->h2.get? a=some o)->φ h2
def HOk (H:Hp)(h:Heap):Prop:=∀a o,H a=some o->Xg P w H h a o
end
section
variable {P:Program}{w:World}{H H':Hp}{h h':Heap}{a:Addr}{o:HO}
theorem Xg.lt (x:Xg P w H h a o):a<h.objs.size:=by
 cases o with
 | lst xs=>obtain⟨_,_,_,_,e⟩:=x;exact Heap.lt_size e
 | tup xs=>obtain⟨_,_,_,p⟩:=x;exact p.lt
 | dK aV=>obtain⟨_,_,_,_,o,_,_,e,_⟩:=x;exact Heap.lt_size e
 | dT aV=>obtain⟨_,_,_,_,o,_,_,e,_⟩:=x;exact Heap.lt_size e
 | set S n=>obtain⟨o,_,_,_,e,_⟩:=x;exact Heap.lt_size e
 | ins C dx fs=>obtain⟨_,_,_,e,_⟩:=x;exact Heap.lt_size e
 | own y=>obtain⟨_,e⟩:=x;exact Heap.lt_size e
 | xd fs=>obtain⟨_,⟨_,_,_,e,_⟩,_⟩:=x;exact Heap.lt_size e
 | rng lo hi=>obtain⟨_,_,_,e⟩:=x;exact Heap.lt_size e
 | frz ob u=>obtain⟨e,_⟩:=x;exact Heap.lt_size e
 | tbl ps=>exact Heap.lt_size (show h.get? a=some _ from x)
 | met f y=>exact Heap.lt_size (show h.get? a=some _ from x)
 | ext φ=>obtain⟨_,⟨_,e⟩,_⟩:=x;exact Heap.lt_size e
theorem Paired.mapP:∀ {l₁:List α} {l₂:List β},Paired F l₁ l₂->(∀a b,F a b->G a b)->Paired G l₁ l₂
 | _,_,.nil,_=>.nil
 | _,_,.cons r t,f=>.cons (f _ _ r) (Paired.mapP t f)
theorem Xg.stay (x:Xg P w H h a o)(k:∀b u,(b=a\/H b=some (.own a))->h.get? b=some u->h'.get? b=some u)
  (ho:∀b,H b=some (.own a)->H' b=some (.own a))(ht:∀b xs,H b=some (.tup xs)->H' b=some (.tup xs)):Xg P w H' h' a o:=by
 induction o with
 | lst xs=>obtain⟨z,aX,n,r,e⟩:=x;exact⟨z,aX,n,r,k _ _ (.inl rfl) e⟩
 | tup xs=>obtain⟨z,aX,r,ob,e,c⟩:=x;exact⟨z,aX,r,ob,k _ _ (.inl rfl) e,c⟩
 | dK aV=>obtain⟨z,y,vs,r,ob,es,ep,e,c⟩:=x;exact⟨z,y,vs,r,ob,es,ep,k _ _ (.inl rfl) e,c⟩
 | dT aV=>
  obtain⟨z,y,xs,r,ob,es,ep,e,c⟩:=x;exact⟨z,y,xs,Paired.mapP r λp q z=>⟨z.1,ht _ _ z.2.1,z.2.2⟩,ob,es,ep,k _ _ (.inl rfl) e,c⟩
 | set S n=>obtain⟨ob,es,ep,t,e,c⟩:=x;exact⟨ob,es,ep,t,k _ _ (.inl rfl) e,c⟩
 | ins C dx fs=>
  obtain⟨d,z,ne,e,mA,⟨od,es,ep,e2,c⟩,r⟩:=x;exact⟨ho _ d,z,ne,k _ _ (.inl rfl) e,mA,⟨od,es,ep,k _ _ (.inr d) e2,c⟩,r⟩
 | own y=>obtain⟨ob,e⟩:=x;exact⟨ob,k _ _ (.inl rfl) e⟩
 | xd fs=>obtain⟨mA,⟨od,es,ep,e,c⟩,r⟩:=x;exact⟨mA,⟨od,es,ep,k _ _ (.inl rfl) e,c⟩,r⟩
 | rng lo hi=>obtain⟨t,u,v,e⟩:=x;exact⟨t,u,v,k _ _ (.inl rfl) e⟩
 | frz ob u ih=>obtain⟨e,q⟩:=x;exact⟨k _ _ (.inl rfl) e,ih q⟩
 | tbl ps=>
  have e:h.get? a=some { cls:=.none,data:=.fields ps }:=x
  show h'.get? a=some { cls:=.none,data:=.fields ps };exact k a _ (.inl rfl) e
 | met f y=>
  have e:h.get? a=some (W.methodObj (.ref f) (.ref y)):=x
  show h'.get? a=some (W.methodObj (.ref f) (.ref y));exact k a _ (.inl rfl) e
 | ext φ=>obtain⟨p,⟨o,e⟩,st⟩:=x;exact⟨st _ _ p λo q=>k _ _ (.inl rfl) q,⟨o,k _ _ (.inl rfl) e⟩,st⟩
theorem HOk.lt (x:HOk P w H h)(e:H a=some o):a<h.objs.size:=(x a o e).lt
theorem HOk.fresh (x:HOk P w H h)(e:h.objs.size<=a):H a=none:=by
 cases q:H a with
 | none=>rfl
 | some u=>exact absurd (zW (x.lt q) e) (yX _)
theorem HOk.kept (x:HOk P w H h)(k:∀b u,h.get? b=some u->h'.get? b=some u):HOk P w H h':=λa o e=>
 (x a o e).stay (λb u _ q=>k b u q) (λ_ q=>q) λ_ _ q=>q
theorem HOk.laid (x:HOk P w H h)(k:∀b u,h.get? b=some u->h'.get? b=some u)(hp:h.objs.size<=a)(new:Xg P w (upd H a o) h' a o):HOk P w (upd H a o) h':=λb u e=>by
 have hn:=x.fresh hp;by_cases hb:b=a
 .subst hb;rw[YN] at e;cases e;exact new
 .rw[ZV hb] at e;exact(x b u e).stay (λc v _ q=>k c v q) (λc q=>by rw[ZV (Vn q hn)];exact q) λc xs q=>by rw[ZV (Vn q hn)];exact q
end
def Rd (H:Hp)(a:Addr)(u:HO):Prop:=H a=some u\/∃o,H a=some (.frz o u)
theorem Rd.ok {P:Program}{w:World}{H:Hp}{h:Heap}{a:Addr}{u:HO}(r:Rd H a u)(x:HOk P w H h):Xg P w H h a u:=by
 rcases r with r|⟨o,r⟩
 .exact x a u r
 .obtain⟨_,q⟩:=x a _ r;exact q
def Mut:Option HO->Prop
 | some (.lst _)=>True
 | some (.dK _)=>True
 | some (.dT _)=>True
 | some (.set _ _)=>True
 | some (.ins _ _ _)=>True
 | some (.ext _)=>True
 | _=>False
section
variable {P:Program}{w:World}{H:Hp}{h h':Heap}{x e:Addr}{o':HO}
theorem HOk.write (ok:HOk P w H h)(mu:Mut (H x))(he:e=x\/H e=some (.own x))(k:∀b u,b≠e->h.get? b=some u->h'.get? b=some u)(heo:∃u,h'.get? e=some u)
  (new:Xg P w (upd H x o') h' x o'):HOk P w (upd H x o') h':=λb u q=>by
 have nown:∀c y,H c=some (.own y)->c≠x:=λc y r z=>by subst z;rw[r] at mu;exact mu
 have ntup:∀c xs,H c=some (.tup xs)->c≠x:=λc xs r z=>by subst z;rw[r] at mu;exact mu
 by_cases hb:b=x
 .subst hb;rw[YN] at q;cases q;exact new
 .rw[ZV hb] at q;by_cases hbe:b=e
  .have q':H b=some (.own x):=by
    rcases he with z|z
    .exact absurd (hbe.trans z) hb
    .rw[hbe];exact z
   rw[q] at q';cases q'
   obtain⟨v,hv⟩:=heo;exact⟨v,by rw[hbe];exact hv⟩
  .refine(ok b u q).stay (λc v hc r=>k c v ?_ r) (λc r=>by rw[ZV (nown c b r)];exact r) λc xs r=>by rw[ZV (ntup c xs r)];exact r
   rcases hc with rfl|hc
   .exact hbe
   .rintro rfl;rcases he with z|z
    .exact nown c b hc z
    .rw[hc] at z;cases z;exact hb rfl
end
structure Un (fs ex:List Addr)(H H':Hp)(h h':Heap):Prop where
 keep:∀b o,h.get? b=some o->H b=none->b ∉ fs->b ∉ ex->h'.get? b=some o
 slot:∀b o,h.get? b=some o->H b=none->b∈fs->b ∉ ex->∃sl,h'.get? b=some { o with slots:=sl }
 free:∀b o,h.get? b=some o->H b=none->b ∉ ex->H' b=none
 there:∀b o,h.get? b=some o->b ∉ ex->∃o',h'.get? b=some o'
 tups:∀b xs,H b=some (.tup xs)->H' b=some (.tup xs)
 frzs:∀b o u,H b=some (.frz o u)->H' b=some (.frz o u)
 tbls:∀b ps,H b=some (.tbl ps)->∃more,H' b=some (.tbl (ps++more))
theorem Un.any (u:Un fs ex H H1 h h1){b:Addr}{ob:Obj}(q:h.get? b=some ob)(n:H b=none)(hx:b ∉ ex):∃sl,h1.get? b=some { ob with slots:=sl }:=by
 by_cases hb:b∈fs
 .exact u.slot b ob q n hb hx
 .exact⟨ob.slots,u.keep b ob q n hb hx⟩
theorem Un.trans (a:Un fs ex H H1 h h1)(b:Un fs ex H1 H2 h1 h2):Un fs ex H H2 h h2 where
 keep:=λc ob q n hc hx=>b.keep c ob (a.keep c ob q n hc hx) (a.free c ob q n hx) hc hx
 slot:=λc ob q n hc hx=>by
  obtain⟨sl,e1⟩:=a.slot c ob q n hc hx;obtain⟨sl',e2⟩:=b.slot c _ e1 (a.free c ob q n hx) hc hx;exact⟨sl',e2⟩
 free:=λc ob q n hx=>by
  obtain⟨o',e1⟩:=a.there c ob q hx;exact b.free c o' e1 (a.free c ob q n hx) hx
 there:=λc ob q hx=>by
  obtain⟨o',e1⟩:=a.there c ob q hx;exact b.there c o' e1 hx
 tups:=λc xs q=>b.tups c xs (a.tups c xs q)
 frzs:=λc ob xs q=>b.frzs c ob xs (a.frzs c ob xs q)
 tbls:=λc ps q=>by
  obtain⟨m1,e1⟩:=a.tbls c ps q;obtain⟨m2,e2⟩:=b.tbls c _ e1;exact⟨m1++m2,by rw[e2,Array.append_assoc]⟩
theorem Un.kept (k:∀b u,h.get? b=some u->h'.get? b=some u):Un fs ex H H h h':=
 ⟨λb ob q _ _ _=>k b ob q,λb ob q _ _ _=>⟨ob.slots,k b ob q⟩,λ_ _ _ n _=>n,λb ob q _=>⟨ob,k b ob q⟩,λ_ _ q=>q,λ_ _ _ q=>q,λ_ ps q=>⟨#[],by rw[q];simp⟩⟩
theorem Un.refl:Un fs ex H H h h:=Un.kept λ_ _ q=>q
theorem Un.laid (k:∀b u,h.get? b=some u->h'.get? b=some u)(hp:h.objs.size<=a)(hn:H a=none):Un fs ex H (upd H a o) h h' where
 keep:=λb u q _ _ _=>k b u q
 slot:=λb u q _ _ _=>⟨u.slots,k b u q⟩
 free:=λb u q n _=>by rw[ZV (zR (zW (Heap.lt_size q) hp))];exact n
 there:=λb u q _=>⟨u,k b u q⟩
 tups:=λb xs q=>by rw[ZV (Vn q hn)];exact q
 frzs:=λb u xs q=>by rw[ZV (Vn q hn)];exact q
 tbls:=λb ps q=>⟨#[],by rw[ZV (Vn q hn),q];simp⟩
theorem Un.write (mu:Mut (H x))(he:e=x\/H e=some (.own x))(k:∀b u,b≠e->h.get? b=some u->h'.get? b=some u)(heo:∃u,h'.get? e=some u):Un fs ex H (upd H x o) h h':=by
 have hx:∀b,H b=none->b≠x:=λb n z=>by subst z;rw[n] at mu;exact mu
 have hb:∀b,H b=none->b≠e:=λb n z=>by
  subst z;rcases he with r|r
  .exact hx b n r
  .rw[n] at r;cases r
 have hm:∀b u,H b=some u->¬ Mut (some u)->b≠x:=λb u q nm z=>by subst z;rw[q] at mu;exact nm mu
 refine⟨λb u q n _ _=>k b u (hb b n) q,λb u q n _ _=>⟨u.slots,k b u (hb b n) q⟩,λb u q n _=>by rw[ZV (hx b n)];exact n,λb u q _=>?_,
  λb xs q=>by rw[ZV (hm b _ q λz=>z)];exact q,λb u xs q=>by rw[ZV (hm b _ q λz=>z)];exact q,λb ps q=>⟨#[],by rw[ZV (hm b _ q λz=>z),q];simp⟩⟩
 by_cases hbe:b=e
 .subst hbe;exact heo
 .exact⟨u,k b u hbe q⟩
theorem Un.mono (u:Un fs ex H H1 h h1)(hs:∀b∈fs,b∈fs')(hx:∀b∈ex,b∈ex'):Un fs' ex' H H1 h h1:=
 ⟨λb ob q n hb he=>u.keep b ob q n (λz=>hb (hs b z)) λz=>he (hx b z),λ_ _ q n _ he=>u.any q n λz=>he (hx _ z),λb ob q n he=>u.free b ob q n λz=>he (hx b z),λb ob q he=>u.there b ob q λz=>he (hx b z),u.tups,u.frzs,u.tbls⟩
def trk (h:Heap)(H:Hp):List Addr:=(List.range h.objs.size).filter λa=>(H a).isSome
def X9 (h:Heap)(H:Hp):Heap:=W.hideAll h (trk h H)
theorem zhW (h:Heap)(H:Hp):(X9 h H).objs.size=h.objs.size:=W.hideAll_size _ _
theorem zdY {h:Heap}{H:Hp}{b:Addr}{o:Obj}(e:h.get? b=some o)(n:H b=none):(X9 h H).get? b=some o:=
 W.hideAll_get _ e λhm=>by
  have q:(H b).isSome=true:=(wY.mp hm).2;rw[n] at q;simp at q
theorem zfe {h:Heap}{H:Hp}{b:Addr}{o:Obj}(e:(X9 h H).get? b=some o):h.get? b=some o/\H b=none:=by
 have e':h.get? b=some o:=W.of_hideAll (trk h H) e;refine⟨e',?_⟩;cases q:H b with
 | none=>rfl
 | some x=>
  have hm:b∈trk h H:=wY.mpr ⟨wG.mpr (Heap.lt_size e'),by simp[q]⟩
  have z:(X9 h H).get? b=none:=W.hideAll_none (trk h H) hm;rw[z] at e;cases e
def zgj (g h:Heap)(L:Addr):LA:=(List.range h.objs.size).filterMap λa=>if a=L\/(g.get? a).isSome=true then none else (h.get? a).map λo=>(a,o)
def Yg (g h:Heap)(L d:Addr):LA:=(zgj g h L).filter λp=>decide (p.1≠d)
structure Mod (K:Fg)(mg:Str->Option Value)(base:Heap):Prop where
 kin:K.In base
 glob:base.Ns mainGlobals mg
 blt:∃mb,base.Ns builtinsNs mb/\∀x:Str,x≠"__name__"->mb x=bootBuiltins x
 nolimit:base.NoLimit
structure Cx where
 prog:Program
 w:World
 K:Fg
 mg:Str->Option Value
 base:Heap
 A:Around
 N:List Str
 s₀:Shared
 H₀:Hp
 env:Env
 outer:List Env
 stack:List Env
 ex:List Addr
 fn:Str->Bool
 calm:Bool
 pn:LA
 xe:Value->Shared->Prop
abbrev mX (X:Cx):=model X.prog X.w
abbrev Hf (X:Cx)(x:Str):Prop:=X.fn x=true\/X.env.scope.names.lookup x=some .local
abbrev He (X:Cx)(e:Expr)(es:List Expr):Prop:=starEach (e::es) X.env=(false,eval e X.env)::starEach es X.env
abbrev Hn (X:Cx)(caps:List Nat)(N:List Str):Prop:=caps.map (λi=>X.N[i]?)=N.map some
abbrev Hp1 (X:Cx)(pos:Pos)(es:List Expr):Prop:=(backTo pos (starEach es X.env)).any (·.1)=false
def frs (l:List Env):List Addr:=l.filterMap (·.frame)
abbrev Cx.fs (X:Cx):List Addr:=frs X.outer
def Vis (sc:Scope)(x:Str):Prop:=sc.names.lookup x=some .local\/sc.names.lookup x=some .cell\/sc.names.lookup x=some .free
def Loc (sc:Scope)(x:Str):Prop:=sc.names.lookup x=some .local\/sc.names.lookup x=some .cell
def Look (env:Env)(h:Heap)(m:Str->Option Value)(x:Str)(u:Value):Prop:=
 (env.kindOf x=some .local/\m x=some u)\/((env.kindOf x=some .cell\/env.kindOf x=some .free)/\∃c,env.cells.lookup x=some c/\h.IsCell c (some u))
structure Cx.Ok (X:Cx):Prop where
 mod:Mod X.K X.mg X.base
 kind:X.env.scope.kind=.function
 glob:X.env.globals=mainGlobals
 blt:X.env.builtins=builtinsNs
 above:X.s₀.heap.objs.size<=X.env.locals
 inj:∀x y c,X.env.cells.lookup x=some c->X.env.cells.lookup y=some c->x=y
 has:∀x,(X.env.kindOf x=some .cell\/X.env.kindOf x=some .free)->∃c,X.env.cells.lookup x=some c
 cab:∀x c,X.fn x=true->X.env.cells.lookup x=some c->X.s₀.heap.objs.size<=c
 hd:X.calm=true->X.A.handled=none
 frames:X.A.frames=some X.stack
 stk:X.stack=X.outer\/(X.stack=X.env::X.outer/\X.env.frame=some X.env.locals)
 exf:∀b∈X.ex,b≠X.env.locals/\∀x c,X.env.cells.lookup x=some c->c≠b
 bs:∀b o,X.base.get? b=some o->X.s₀.heap.get? b=some o/\X.H₀ b=none
 bsz:X.base.objs.size<=X.s₀.heap.objs.size
 noex:∀b o,X.base.get? b=some o->b ∉ X.ex
 exfs:∀b∈X.ex,b ∉ X.fs
 funs:X.s₀.heap.FunFrames X.base X.outer
 frf:∀b∈X.fs,X.H₀ b=none
structure Inv (X:Cx)(pins:LA)(σ:List (Option V))(H:Hp)(s:Shared):Prop where
 ok:X.Ok
 os:s.os=X.s₀.os
 bare:AllBare s.gens
 base:Un X.fs X.ex X.H₀ H X.s₀.heap s.heap
 loc:∃m,s.heap.Ns X.env.locals m/\∀(i:Nat)(x:Str)(v:V),X.N[i]?=some x->σ[i]?=some (some v)->Vis X.env.scope x->∃u,Zw v u/\Look X.env s.heap m x u
 cell:∀x c,X.env.cells.lookup x=some c->∃v,s.heap.IsCell c v
 free:H X.env.locals=none
 freeC:∀x c,X.env.cells.lookup x=some c->H c=none
 pin:∀p∈X.pn++pins,s.heap.get? p.1=some p.2/\H p.1=none/\p.1≠X.env.locals/\p.1 ∉ X.fs/\∀v,p.2.data≠.cell v
 hok:HOk X.prog X.w H s.heap
 len:σ.length=X.N.length
section
variable {X:Cx}{pins:LA}{σ:List (Option V)}{H H':Hp}{s:Shared}{h':Heap}
theorem Cx.Ok.nofr (ok:X.Ok)(e:X.base.get? b=some o):b ∉ X.fs:=λhb=>by
 have:=(ok.funs.mem hb).1;rw[e] at this;cases this
theorem Inv.bs (I:Inv X pins σ H s):∀b o,X.base.get? b=some o->s.heap.get? b=some o/\H b=none:=λb o e=>
 ⟨I.base.keep b o (I.ok.bs b o e).1 (I.ok.bs b o e).2 (I.ok.nofr e) (I.ok.noex b o e),I.base.free b o (I.ok.bs b o e).1 (I.ok.bs b o e).2 (I.ok.noex b o e)⟩
theorem Inv.bk (I:Inv X pins σ H s):∀b o,X.base.get? b=some o->s.heap.get? b=some o:=λb o e=>(I.bs b o e).1
theorem Inv.mod (I:Inv X pins σ H s):Mod X.K X.mg X.base:=I.ok.mod
theorem Inv.kIn (I:Inv X pins σ H s):X.K.In s.heap:=I.ok.mod.kin.keeps I.bk
theorem Inv.nolimit (I:Inv X pins σ H s):s.heap.NoLimit:=I.ok.mod.nolimit.keeps I.bk
theorem Inv.lt (I:Inv X pins σ H s):X.env.locals<s.heap.objs.size:=let ⟨_,hn,_⟩:=I.loc;hn.lt
theorem Inv.sz (I:Inv X pins σ H s):X.s₀.heap.objs.size<=s.heap.objs.size:=yK I.ok.above (xD I.lt)
theorem Inv.nofs (I:Inv X pins σ H s)(h:s.heap.objs.size<=a):a ∉ X.fs:=λhb=>by
 obtain⟨_,o,ho,_⟩:=I.ok.funs.mem hb;exact absurd (zW (Heap.lt_size ho) (yK I.sz h)) (yX _)
theorem Inv.cne (I:Inv X pins σ H s):∀x c,X.env.cells.lookup x=some c->c≠X.env.locals:=λx c e z=>by
 obtain⟨v,o,ho,hd⟩:=I.cell x c e;obtain⟨m,⟨o',es,ep,ho',hd',_⟩,_⟩:=I.loc;rw[z,ho'] at ho;cases ho;rw[hd'] at hd;cases hd
theorem Inv.funs (I:Inv X pins σ H s):s.heap.FunFrames X.base X.outer:=by
 have all:∀(l:List Env),(∀b∈frs l,b∈X.fs)->X.s₀.heap.FunFrames X.base l->s.heap.FunFrames X.base l:=by
  intro l
  induction l with
  | nil=>intro _ _;trivial
  | cons env r ih=>
   intro hs hl;obtain⟨hk,⟨L,o,hf,hn,ho,hd⟩,hr⟩:=hl;have hL:L∈X.fs:=hs L (by unfold frs;rw[wZ,hf];exact yL);obtain⟨sl,e⟩:=I.base.slot L o ho (I.ok.frf L hL) hL λz=>I.ok.exfs L z hL
   exact⟨hk,⟨L,_,hf,hn,e,hd⟩,ih (λb hb=>hs b (by unfold frs;rw[wZ,hf];exact yB _ hb)) hr⟩
 exact all X.outer (λ_ hb=>hb) I.ok.funs
theorem Inv.stack (I:Inv X pins σ H s):s.heap.FunFrames X.base X.stack:=by
 rcases I.ok.stk with e|⟨e,hf⟩
 .rw[e];exact I.funs
 .rw[e];obtain⟨m,hn,_⟩:=I.loc;refine .cons (by rw[I.ok.kind];decide) hf hn ?_ I.funs;exact Heap.get?_none_of_le (yK I.ok.bsz I.ok.above)
theorem Inv.stkSub (I:Inv X pins σ H s):∀b∈frs X.stack,b∈X.env.locals::X.fs:=λb hb=>by
 rcases I.ok.stk with e|⟨e,hf⟩
 .rw[e] at hb;exact yB _ hb
 .rw[e] at hb;unfold frs at hb;rw[wZ,hf] at hb;exact hb
theorem Inv.stkFree (I:Inv X pins σ H s):∀b∈frs X.stack,H b=none:=λb hb=>by
 rcases zS.mp (I.stkSub b hb) with e|hb
 .rw[e];exact I.free
 .obtain⟨_,o,ho,_⟩:=I.ok.funs.mem hb;exact I.base.free b o ho (I.ok.frf b hb) λz=>I.ok.exfs b z hb
theorem Inv.step {g':Array GenState}{t':Nat}{d':Drawn}{ch:List Addr}(I:Inv X pins σ H s)
  (hch:∀b∈ch,(b∈X.ex\/X.s₀.heap.objs.size<=b)/\b≠X.env.locals/\(∀x c,X.env.cells.lookup x=some c->c≠b)/\∀p∈X.pn++pins,p.1≠b)
  (keep:∀b o,b≠X.env.locals->b ∉ X.fs->b ∉ ch->s.heap.get? b=some o->H b=none->h'.get? b=some o)
  (slot:∀b o,b≠X.env.locals->b∈X.fs->b ∉ ch->s.heap.get? b=some o->H b=none->∃sl,h'.get? b=some { o with slots:=sl })(free:∀b o,b ∉ ch->s.heap.get? b=some o->H b=none->H' b=none)
  (there:∀b o,b ∉ ch->s.heap.get? b=some o->∃o',h'.get? b=some o')
  (tups:∀b xs,H b=some (.tup xs)->H' b=some (.tup xs))(frzs:∀b o u,H b=some (.frz o u)->H' b=some (.frz o u))(tbls:∀b ps,H b=some (.tbl ps)->∃more,H' b=some (.tbl (ps++more)))
  (ns:∀m,s.heap.Ns X.env.locals m->h'.Ns X.env.locals m)(hok:HOk X.prog X.w H' h')(hg:AllBare g'):
  Inv X pins σ H' { s with heap:=h',gens:=g',drawn:=d',toks:=t' }:=by
 have neL:∀b o,X.s₀.heap.get? b=some o->b≠X.env.locals:=λb o e=>zR (zW (Heap.lt_size e) I.ok.above)
 have neC:∀b o,X.s₀.heap.get? b=some o->b ∉ X.ex->b ∉ ch:=λb o e hx hb=>by
  rcases (hch b hb).1 with z|z
  .exact hx z
  .exact absurd (zW (Heap.lt_size e) z) (yX _)
 have cellK:∀x c,X.env.cells.lookup x=some c->∀v,s.heap.IsCell c v->h'.IsCell c v:=λx c e v ⟨o,ho,hd⟩=>by
  have nch:c ∉ ch:=λz=>(hch c z).2.2.1 x c e rfl
  by_cases hc:c∈X.fs
  .obtain⟨sl,q⟩:=slot c o (I.cne x c e) hc nch ho (I.freeC x c e);exact⟨_,q,hd⟩
  .exact⟨o,keep c o (I.cne x c e) hc nch ho (I.freeC x c e),hd⟩
 refine⟨I.ok,I.os,hg,⟨λb o e n hb hx=>?_,λb o e n hb hx=>?_,λb o e n hx=>?_,λb o e hx=>?_,λb xs e=>tups b xs (I.base.tups b xs e),λb o xs e=>frzs b o xs (I.base.frzs b o xs e),λb ps e=>?_⟩,?_,λx c e=>?_,?_,λx c e=>?_,λp hp=>?_,hok,I.len⟩
 .exact keep b o (neL b o e) hb (neC b o e hx) (I.base.keep b o e n hb hx) (I.base.free b o e n hx)
 .obtain⟨sl,e1⟩:=I.base.slot b o e n hb hx;obtain⟨sl',e2⟩:=slot b _ (neL b o e) hb (neC b o e hx) e1 (I.base.free b o e n hx);exact⟨sl',e2⟩
 .obtain⟨o',e1⟩:=I.base.there b o e hx;exact free b o' (neC b o e hx) e1 (I.base.free b o e n hx)
 .obtain⟨o',e1⟩:=I.base.there b o e hx;exact there b o' (neC b o e hx) e1
 .obtain⟨m1,e1⟩:=I.base.tbls b ps e;obtain⟨m2,e2⟩:=tbls b _ e1;exact⟨m1++m2,by rw[e2,Array.append_assoc]⟩
 .obtain⟨m,hn,hl⟩:=I.loc;refine⟨m,ns m hn,λi x v e1 e2 e3=>?_⟩;obtain⟨u,r,l⟩:=hl i x v e1 e2 e3;refine⟨u,r,?_⟩;rcases l with l|⟨k,c,e,z⟩
  .exact .inl l
  .exact .inr ⟨k,c,e,cellK x c e _ z⟩
 .obtain⟨v,z⟩:=I.cell x c e;exact⟨v,cellK x c e v z⟩
 .obtain⟨m,⟨o,_,_,ho,_⟩,_⟩:=I.loc;exact free _ o (λz=>(hch _ z).2.1 rfl) ho I.free
 .obtain⟨v,o,ho,hd⟩:=I.cell x c e;exact free c o (λz=>(hch c z).2.2.1 x c e rfl) ho (I.freeC x c e)
 .obtain⟨e,n,ne,nf,d⟩:=I.pin p hp;have nch:p.1 ∉ ch:=λz=>(hch p.1 z).2.2.2 p hp rfl
  exact⟨keep p.1 p.2 ne nf nch e n,free p.1 p.2 nch e n,ne,nf,d⟩
theorem Inv.un {t':Nat}(I:Inv X pins σ H s)(u:Un X.fs [] H H' s.heap h')(hok:HOk X.prog X.w H' h'):Inv X pins σ H' { s with heap:=h',toks:=t' }:=by
 obtain⟨m,⟨o,es,ep,ho,r⟩,_⟩:=id I.loc;obtain⟨sl,hL⟩:=u.any ho I.free (by simp);exact I.step (g':=s.gens) (d':=s.drawn) (ch:=[]) (λ_ z=>nomatch z) (λb o _ hb _ e n=>u.keep b o e n hb (by simp)) (λb o _ hb _ e n=>u.slot b o e n hb (by simp)) (λb o _ e n=>u.free b o e n (by simp)) (λb o _ e=>u.there b o e (by simp)) u.tups u.frzs u.tbls (λm' hm=>by
  obtain⟨o',es',ep',ho',r'⟩:=hm;rw[ho] at ho';cases ho'
  exact⟨_,es',ep',hL,r'⟩) hok I.bare
theorem Inv.call {g':Array GenState}{t':Nat}{d':Drawn}{ch:List Addr}(I:Inv X pins σ H s)(u:Un (frs X.stack) ch H H' s.heap h')(hok:HOk X.prog X.w H' h')(hg:AllBare g')
  (hch:∀b∈ch,(b∈X.ex\/X.s₀.heap.objs.size<=b)/\b≠X.env.locals/\(∀x c,X.env.cells.lookup x=some c->c≠b)/\∀p∈X.pn++pins,p.1≠b):
  Inv X pins σ H' { s with heap:=h',gens:=g',drawn:=d',toks:=t' }:=by
 obtain⟨m,⟨o,es,ep,ho,r⟩,_⟩:=id I.loc;obtain⟨sl,hL⟩:=u.any ho I.free λz=>(hch _ z).2.1 rfl
 exact I.step (ch:=ch) hch (λb o hL hb hc e n=>u.keep b o e n (λz=>(zS.mp (I.stkSub b z)).elim hL hb) hc) (λb o _ _ hc e n=>u.any e n hc) (λb o hc e n=>u.free b o e n hc) (λb o hc e=>u.there b o e hc) u.tups u.frzs u.tbls (λm' hm=>by
  obtain⟨o',es',ep',ho',r'⟩:=hm;rw[ho] at ho';cases ho'
  exact⟨_,es',ep',hL,r'⟩) hok hg
theorem Inv.turned {t':Nat}{it:Addr}(I:Inv X pins σ H s)(k:∀b o,b≠it->s.heap.get? b=some o->h'.get? b=some o)(hn:H it=none)(hL:it≠X.env.locals)
  (h1:it∈X.ex\/X.s₀.heap.objs.size<=it)(h2:∀x c,X.env.cells.lookup x=some c->c≠it)(h3:∀p∈X.pn++pins,p.1≠it):Inv X pins σ H { s with heap:=h',toks:=t' }:=by
 have nit:∀b u,H b=some u->b≠it:=λb u e z=>by rw[z,hn] at e;cases e
 refine I.step (g':=s.gens) (d':=s.drawn) (ch:=[it]) (λb hb=>?_) (λb o _ _ hc e _=>k b o (λz=>hc (by simp[z])) e) (λb o _ _ hc e _=>⟨o.slots,k b o (λz=>hc (by simp[z])) e⟩) (λ_ _ _ _ n=>n)
  (λb o hc e=>⟨o,k b o (λz=>hc (by simp[z])) e⟩) (λ_ _ e=>e) (λ_ _ _ e=>e) (λb ps e=>⟨#[],by rw[e];simp⟩) (λm hm=>?_) (λb u e=>?_) I.bare
 .have e:b=it:=by simpa using hb
  subst e;exact⟨h1,hL,h2,h3⟩
 .obtain⟨o,es,ep,ho,r⟩:=hm;exact⟨o,es,ep,k _ o (Ne.symm hL) ho,r⟩
 .refine(I.hok b u e).stay (λc v hc q=>k c v ?_ q) (λ_ q=>q) λ_ _ q=>q
  rcases hc with z|z
  .rw[z];exact nit b u e
  .exact nit c _ z
theorem Inv.tok (I:Inv X pins σ H s)(t:Nat):Inv X pins σ H { s with toks:=t }:=I.un (h':=s.heap) (t':=t) Un.refl I.hok
theorem Inv.kept {t':Nat}(I:Inv X pins σ H s)(k:∀b u,s.heap.get? b=some u->h'.get? b=some u):Inv X pins σ H { s with heap:=h',toks:=t' }:=I.un (Un.kept k) (I.hok.kept k)
theorem Inv.laid (I:Inv X pins σ H s)(k:∀b u,s.heap.get? b=some u->h'.get? b=some u)(hp:s.heap.objs.size<=a)(new:Xg X.prog X.w (upd H a o) h' a o):
  Inv X pins σ (upd H a o) { s with heap:=h',toks:=t' }:=I.un (Un.laid k hp (I.hok.fresh hp)) (I.hok.laid k hp new)
theorem Inv.write (I:Inv X pins σ H s)(mu:Mut (H x))(he:e=x\/H e=some (.own x))(k:∀b u,b≠e->s.heap.get? b=some u->h'.get? b=some u)(heo:∃u,h'.get? e=some u)(new:Xg X.prog X.w (upd H x o) h' x o):Inv X pins σ (upd H x o) { s with heap:=h',toks:=t' }:=I.un (Un.write mu he k heo) (I.hok.write mu he k heo new)
theorem Inv.pins_of (I:Inv X pins σ H s)(h:∀p∈pins',s.heap.get? p.1=some p.2/\H p.1=none/\p.1≠X.env.locals/\p.1 ∉ X.fs/\∀v,p.2.data≠.cell v):Inv X pins' σ H s:=
 ⟨I.ok,I.os,I.bare,I.base,I.loc,I.cell,I.free,I.freeC,λp hp=>(yI.mp hp).elim (λz=>I.pin p (uS _ z)) (h p),I.hok,I.len⟩
theorem HV {N:List Str}(hN:N.Nodup){i j:Nat}{x:Str}(a:N[i]?=some x)(b:N[j]?=some x):i=j:=by
 obtain⟨h1,e1⟩:=zB.mp a;obtain⟨h2,e2⟩:=zB.mp b;exact(List.getElem_inj hN).mp (e1.trans e2.symm)
theorem IA {M:Model}{A:Around}{E:Value->Shared->Prop}{i:Nat}{x:Str}{v:V}{u:Value}{Q:Unit->Shared->Prop}(I:Inv X pins σ H s)(hN:X.N.Nodup)(hi:X.N[i]?=some x)(hx:Loc X.env.scope x)(r:Zw v u)
  (h:∀s',Inv X pins (σ.set i (some v)) H s'->(∃a,Heap.SameBut a s.heap s'.heap/\(a=X.env.locals\/X.env.cells.lookup x=some a))->Q Unit.unit s')(hf:Hf X x:=by first|exact .inl rfl|exact .inr rfl|assumption):wpAny M A (storeName X.env x u) Q E s:=by
 obtain⟨m,hn,hl⟩:=id I.loc;have hcls:(X.env.scope.kind==.class||(X.env.scope.kind==.module&&X.env.locals != X.env.globals))=false:=by rw[I.ok.kind];rfl
 have hiσ:i<σ.length:=by rw[I.len];exact(zB.mp hi).1
 have cne:=I.cne
 have tracked:∀ {a:Addr} {h':Heap},(∃o,s.heap.get? a=some o/\H a=none)->Heap.SameBut a s.heap h'->HOk X.prog X.w H h':=λ{a h'} ha hs b ob e=>by
  obtain⟨_,_,hfree⟩:=ha;refine(I.hok b ob e).stay (λc w' hc q=>(hs.2 c ?_).trans q) (λ_ q=>q) λ_ _ q=>q
  rintro rfl;rcases hc with rfl|hc
  .rw[hfree] at e;cases e
  .rw[hfree] at hc;cases hc
 rcases hx with hk|hk
 .refine wpAny_storeName_local hk hn (λh' hn' hs=>?_) hcls;obtain⟨oL,_,_,hoL,_⟩:=id hn;refine h _ ⟨I.ok,I.os,I.bare,⟨λb o e n hb hx=>?_,λb o e n hb hx=>?_,I.base.free,λb o e hx=>?_,I.base.tups,I.base.frzs,I.base.tbls⟩,⟨_,hn',λj y v' e1 e2 e3=>?_⟩,λy c e=>?_,I.free,I.freeC,λp hp=>?_,tracked ⟨oL,hoL,I.free⟩ hs,by simpa using I.len⟩ ⟨_,hs,.inl rfl⟩
  .exact(hs.2 b (zR (zW (Heap.lt_size e) I.ok.above))).trans (I.base.keep b o e n hb hx)
  .obtain⟨sl,e1⟩:=I.base.slot b o e n hb hx;exact⟨sl,(hs.2 b (zR (zW (Heap.lt_size e) I.ok.above))).trans e1⟩
  .obtain⟨o',e1⟩:=I.base.there b o e hx;exact⟨o',(hs.2 b (zR (zW (Heap.lt_size e) I.ok.above))).trans e1⟩
  .by_cases hj:j=i
   .subst hj;rw[hi] at e1;cases e1
    rw[yU hiσ] at e2;cases e2;exact⟨u,r,.inl ⟨hk,by simp⟩⟩
   .rw[yC (Ne.symm hj)] at e2;obtain⟨u',r',q⟩:=hl j y v' e1 e2 e3;refine⟨u',r',?_⟩;rcases q with ⟨k,e⟩|⟨k,c,e,z⟩
    .refine .inl ⟨k,?_⟩;have:y≠x:=λe=>hj (HV hN e1 (e ▸ hi))
     simp[this,e]
    .exact .inr ⟨k,c,e,z.sameBut hs (cne y c e)⟩
  .obtain⟨w',z⟩:=I.cell y c e;exact⟨w',z.sameBut hs (cne y c e)⟩
  .obtain⟨e,n,ne,nf,d⟩:=I.pin p hp;exact⟨(hs.2 p.1 ne).trans e,n,ne,nf,d⟩
 .have hfn:X.fn x=true:=by
   rcases hf with z|z
   .exact z
   .rw[z] at hk;cases hk
  obtain⟨c,hc⟩:=I.ok.has x (.inl hk);obtain⟨w',z⟩:=I.cell x c hc;refine wpAny_storeName_cell I.ok.kind hk hc z (λh' hc' hs=>?_);obtain⟨oc,hoc,hocd⟩:=id z;refine h { s with heap:=h' } ⟨I.ok,I.os,I.bare,⟨λb o e n hb hx=>?_,λb o e n hb hx=>?_,I.base.free,λb o e hx=>?_,I.base.tups,I.base.frzs,I.base.tbls⟩,⟨m,hn.sameBut hs (Ne.symm (cne x c hc)),λj y v' e1 e2 e3=>?_⟩,λy c' e=>?_,I.free,I.freeC,λp hp=>?_,tracked ⟨oc,hoc,I.freeC x c hc⟩ hs,by simpa using I.len⟩ ⟨c,hs,.inr hc⟩
  .exact(hs.2 b (zR (zW (Heap.lt_size e) (I.ok.cab x c hfn hc)))).trans (I.base.keep b o e n hb hx)
  .obtain⟨sl,e1⟩:=I.base.slot b o e n hb hx;exact⟨sl,(hs.2 b (zR (zW (Heap.lt_size e) (I.ok.cab x c hfn hc)))).trans e1⟩
  .obtain⟨o',e1⟩:=I.base.there b o e hx;exact⟨o',(hs.2 b (zR (zW (Heap.lt_size e) (I.ok.cab x c hfn hc)))).trans e1⟩
  .by_cases hj:j=i
   .subst hj;rw[hi] at e1;cases e1
    rw[yU hiσ] at e2;cases e2;exact⟨u,r,.inr ⟨.inl hk,c,hc,hc'⟩⟩
   .rw[yC (Ne.symm hj)] at e2;obtain⟨u',r',q⟩:=hl j y v' e1 e2 e3;refine⟨u',r',?_⟩;rcases q with q|⟨k,c',e,z'⟩
    .exact .inl q
    .refine .inr ⟨k,c',e,z'.sameBut hs ?_⟩;rintro rfl;exact hj (HV hN e1 (I.ok.inj _ _ _ e hc ▸ hi))
  .by_cases hcc:c'=c
   .subst hcc;exact⟨_,hc'⟩
   .obtain⟨w2,z2⟩:=I.cell y c' e;exact⟨w2,z2.sameBut hs hcc⟩
  .obtain⟨e,n,ne,nf,d⟩:=I.pin p hp;refine⟨(hs.2 p.1 ?_).trans e,n,ne,nf,d⟩;intro q;rw[q,hoc] at e;have q':oc=p.2:=Option.some.inj e;exact d w' (by rw[<- q'];exact hocd)
theorem FH (I:Inv X pins σ H s)(hN:X.N.Nodup)(hi:X.N[i]?=some x)(hx:Loc X.env.scope x)(r:Zw v u)(h:∀s',Inv X pins (σ.set i (some v)) H s'->Q Unit.unit s')(hf:Hf X x:=by first|exact .inl rfl|exact .inr rfl|assumption):wpAny M A (storeName X.env x u) Q E s:=
 IA I hN hi hx r (λs' I' _=>h s' I') hf
theorem Inv.call' (I:Inv X pins σ H s)(ho:s'.os=s.os)(u:Un (frs X.stack) ch H H' s.heap s'.heap)(hok:HOk X.prog X.w H' s'.heap)(hg:AllBare s'.gens)(hch:∀b∈ch,(b∈X.ex\/X.s₀.heap.objs.size<=b)/\b≠X.env.locals/\(∀x c,X.env.cells.lookup x=some c->c≠b)/\∀p∈X.pn++pins,p.1≠b):Inv X pins σ H' s':=by
 obtain⟨h',g',d',t',o'⟩:=s';have e:o'=s.os:=ho;subst e;exact I.call (g':=g') (t':=t') (d':=d') u hok hg hch
end
abbrev XK:=Value->Option Addr->Hp->Prop
abbrev St:=List (Option V)
abbrev VK:=V->Hp->Prop
abbrev TE:=St->Hp->VK->Prop
abbrev TT:=St->Hp->(Bool->Hp->Prop)->Prop
abbrev TA:=St->Hp->(List V->Hp->Prop)->Prop
structure Wn where
 nx:St->Hp->Prop
 rt:VK
 bk:St->Hp->Prop:=λ_ _=>False
 ct:St->Hp->Prop:=λ_ _=>False
abbrev TS:=Wn->St->Hp->Prop
def EP (X:Cx)(pins:LA)(σ:St)(Q:VK)(u:Value)(s':Shared):Prop:=∃v H',Inv X pins σ H' s'/\Zw v u/\Q v H'
def TP (X:Cx)(pins:LA)(σ:St)(Q:Bool->Hp->Prop)(b:Bool)(s':Shared):Prop:=∃H',Inv X pins σ H' s'/\Q b H'
def AP (X:Cx)(pins:LA)(σ:St)(Q:List V->Hp->Prop)(us:List Value)(s':Shared):Prop:=∃vs H',Inv X pins σ H' s'/\Zv vs us/\Q vs H'
def SP (X:Cx)(pins:LA)(D:Wn)(f:Flow)(s':Shared):Prop:=
 match f with
 | .next=>∃σ' H',Inv X pins σ' H' s'/\D.nx σ' H'
 | .brk=>∃σ' H',Inv X pins σ' H' s'/\D.bk σ' H'
 | .cont=>∃σ' H',Inv X pins σ' H' s'/\D.ct σ' H'
 | .ret u=>∃v σ' H',Inv X pins σ' H' s'/\Zw v u/\D.rt v H'
def PE (X:Cx)(e:Expr)(t:TE):Prop:=
 ∀(pins:LA)(s:Shared)(σ:St)(H:Hp)(Q:VK),Inv X pins σ H s->t σ H Q->wpAny (mX X) X.A (eval e X.env) (EP X pins σ Q) X.xe s
def PT (X:Cx)(e:Expr)(t:TT):Prop:=
 ∀(pins:LA)(s:Shared)(σ:St)(H:Hp)(Q:Bool->Hp->Prop),Inv X pins σ H s->t σ H Q->wpAny (mX X) X.A (isTrue e X.env (eval e X.env)) (TP X pins σ Q) X.xe s
def PW (X:Cx)(e:Expr)(t:TT):Prop:=
 ∀(aO:Sem Value)(pins:LA)(s:Shared)(σ:St)(H:Hp)(Q:Bool->Hp->Prop),Inv X pins σ H s->t σ H Q->wpAny (mX X) X.A (isTrue e X.env aO) (TP X pins σ Q) X.xe s
theorem PW.pt (h:PW X e t):PT X e t:=h _
def PA (X:Cx)(es:List Expr)(t:TA):Prop:=
 ∀(pos:Pos)(pins:LA)(s:Shared)(σ:St)(H:Hp)(Q:List V->Hp->Prop),Inv X pins σ H s->t σ H Q->wpAny (mX X) X.A (spliced (backTo pos (starEach es X.env))) (AP X pins σ Q) X.xe s
def PS (X:Cx)(st:Stmt)(t:TS):Prop:=
 ∀(pins:LA)(s:Shared)(σ:St)(H:Hp)(D:Wn),Inv X pins σ H s->t D σ H->wpAny (mX X) X.A (exec st X.env) (SP X pins D) X.xe s
def PSs (X:Cx)(st:List Stmt)(t:TS):Prop:=
 ∀(pins:LA)(s:Shared)(σ:St)(H:Hp)(D:Wn),Inv X pins σ H s->t D σ H->wpAny (mX X) X.A (execs st X.env) (SP X pins D) X.xe s
theorem thn {α:Type}{t:Sem α}{Q Q':α->Shared->Prop}{M:Model}{A:Around}{E:Value->Shared->Prop}{s:Shared}(h:wpAny M A t Q E s)(hQ:∀a s,Q a s->Q' a s):wpAny M A t Q' E s:=wpAny_mono h hQ λ_ _ x=>x
section
variable {X:Cx}
def tVar (i:Nat):TE:=λσ H Q=>∃v,σ[i]?=some (some v)/\Q v H
def tC (v:V):TE:=λ_ H Q=>Q v H
theorem Ip (hN:X.N[i]?=some x)(hv:Vis X.env.scope x)(hd:(x==("__debug__":Str))=false:=by decide)(hcd:(x==("__classdict__":Str))=false:=by decide):PE X (.Name x pos) (tVar i):=by
 intro pins s σ H Q I h;obtain⟨v,e,h⟩:=h;obtain⟨m,hn,hl⟩:=I.loc;obtain⟨u,r,l⟩:=hl i x v hN e hv;have aY:EP X pins σ Q u s:=⟨v,H,I,r,h⟩;rcases l with ⟨hk,hm⟩|⟨hk,c,hc,hcell⟩
 .exact wpAny_Name (wpAny_loadName_local I.ok.kind hk hn hm aY) hd
 .rcases hk with hk|hk
  .exact wpAny_Name (wpAny_loadName_cell I.ok.kind hk hc hcell aY) hd
  .exact wpAny_Name (wpAny_loadName_free I.ok.kind hk hc hcell aY hcd) hd
theorem zag {i j pos}:PE X (.Constant (.int i) j pos) (tC (.int i)):=λ_ _ _ H _ I h=>wpAny_Constant_int ⟨.int i,H,I.tok _,⟨_,rfl⟩,h⟩
theorem pe_bl {b j pos}:PE X (.Constant (.bool b) j pos) (tC (.bl b)):=λ_ _ _ H _ I h=>Constant_bool ⟨.bl b,H,I,rfl,h⟩
theorem AK {j pos}:PE X (.Constant .none j pos) (tC .non):=λ_ _ _ H _ I h=>Constant_none ⟨.non,H,I,rfl,h⟩
theorem zbr {x j pos}:PE X (.Constant (.str x) j pos) (tC (.str x)):=λ_ _ _ H _ I h=>Calls.Constant_str ⟨.str x,H,I.tok _,⟨_,rfl⟩,h⟩
def Gl (X:Cx)(x:Str):Prop:=X.env.kindOf x=some .globalImplicit
theorem Ho (I:Inv X pins σ H s)(hg:Gl X x)(hm:X.mg x=some u)(h:Q u s)(hd:(x==("__debug__":Str))=false:=by decide):wpAny (mX X) X.A (eval (.Name x pos) X.env) Q E s:=
 Calls.Name_function_global I.ok.kind hg (Calls.loadGlobal_global (by rw[I.ok.glob];exact I.mod.glob.keeps I.bk) hm h) hd
theorem Vg (I:Inv X pins σ H s)(hg:Gl X x)(hm:X.mg x=none)(hv:bootBuiltins x=some u)(h:Q u s)(hn:x≠"__name__":=by decide)(hd:(x==("__debug__":Str))=false:=by decide):wpAny (mX X) X.A (eval (.Name x pos) X.env) Q E s:=by
 obtain⟨mb,h1,h2⟩:=I.mod.blt;exact Calls.Name_function_global I.ok.kind hg (Calls.loadGlobal_builtin (by rw[I.ok.glob];exact I.mod.glob.keeps I.bk) hm (by rw[I.ok.blt];exact h1.keeps I.bk) ((h2 x hn).trans hv) h) hd
variable {a b:Expr}{ta tb:TE}{pos:Pos}
def tB (t:TE):TT:=λσ H Q=>t σ H λx H1=>∃c,x=.bl c/\Q c H1
theorem CZ (h:PE X e t)(he:∀aO,isTrue e X.env aO=(do let v <- aO;standAt e.pos;holding [v] (truthy v)):=by intro _;rfl):PT X e (tB t):=by
 intro pins s σ H Q I hw;refine isTrue_plain (thn (h pins s σ H _ I hw) λv s1 ⟨x,H1,I1,r1,q1⟩=>?_) (he _);obtain⟨d,rfl,q⟩:=q1;cases r1;exact wpAny_truthy_bool ⟨H1,I1,q⟩
variable {tA tB':TT}{Yg:List Expr}
def tAnd (t u:TT):TT:=λσ H Q=>t σ H λc H1=>if c=true then u σ H1 Q else Q false H1
def tOr (t u:TT):TT:=λσ H Q=>t σ H λc H1=>if c=true then Q true H1 else u σ H1 Q
def tNot (t:TT):TT:=λσ H Q=>t σ H λc H1=>Q (!c) H1
theorem zeG (ha:PT X a tA):PW X (.BoolOp .And [a] pos) tA:=by
 intro wh pins s σ H Q I h;refine isTrue_and (thn (ha pins s σ H Q I h) λc s1 e=>?_);cases c with
 | true=>exact isTrue_and_nil e
 | false=>exact e
theorem Bs (ha:PT X a tA):PW X (.BoolOp .Or [a] pos) tA:=by
 intro wh pins s σ H Q I h;refine isTrue_or (thn (ha pins s σ H Q I h) λc s1 e=>?_);cases c with
 | false=>exact isTrue_or_nil e
 | true=>exact e
theorem zbj (ha:PT X a tA)(hb:PW X (.BoolOp .And (b::Yg) pos) tB'):PW X (.BoolOp .And (a::b::Yg) pos) (tAnd tA tB'):=by
 intro wh pins s σ H Q I h;refine isTrue_and (thn (ha pins s σ H _ I h) λc s1 ⟨H1,I1,q1⟩=>?_);cases c with
 | true=>exact hb wh pins s1 σ H1 Q I1 q1
 | false=>exact⟨H1,I1,q1⟩
theorem pw_or (ha:PT X a tA)(hb:PW X (.BoolOp .Or (b::Yg) pos) tB'):PW X (.BoolOp .Or (a::b::Yg) pos) (tOr tA tB'):=by
 intro wh pins s σ H Q I h;refine isTrue_or (thn (ha pins s σ H _ I h) λc s1 ⟨H1,I1,q1⟩=>?_);cases c with
 | true=>exact⟨H1,I1,q1⟩
 | false=>exact hb wh pins s1 σ H1 Q I1 q1
theorem zh0 (ha:PT X a tA):PT X (.UnaryOp .Not a pos) (tNot tA):=by
 intro pins s σ H Q I h;exact isTrue_not (ha pins s σ H (λc H1=>Q (!c) H1) I h)
def tAndV (ta tb:TE):TE:=λσ H Q=>ta σ H λx H1=>∃c,x=.bl c/\if c=true then tb σ H1 Q else Q (.bl false) H1
def tOrV (ta tb:TE):TE:=λσ H Q=>ta σ H λx H1=>∃c,x=.bl c/\if c=true then Q (.bl true) H1 else tb σ H1 Q
theorem zaH {op}(h:PE X a t):PE X (.BoolOp op [a] pos) t:=λpins s σ H Q I hw=>BoolOp_one (h pins s σ H Q I hw)
theorem zch (ha:PE X a ta)(hb:PE X (.BoolOp .And (b::Yg) pos) tb):PE X (.BoolOp .And (a::b::Yg) pos) (tAndV ta tb):=by
 intro pins s σ H Q I h;refine BoolOp_and (thn (ha pins s σ H _ I h) λv s1 ⟨x,H1,I1,r1,q1⟩=>?_);obtain⟨c,rfl,q1⟩:=q1;cases r1;refine wpAny_truthy_bool ?_;cases c with
 | true=>exact hb pins s1 σ H1 Q I1 q1
 | false=>exact⟨.bl false,H1,I1,rfl,q1⟩
theorem pe_or (ha:PE X a ta)(hb:PE X (.BoolOp .Or (b::Yg) pos) tb):PE X (.BoolOp .Or (a::b::Yg) pos) (tOrV ta tb):=by
 intro pins s σ H Q I h;refine BoolOp_or (thn (ha pins s σ H _ I h) λv s1 ⟨x,H1,I1,r1,q1⟩=>?_);obtain⟨c,rfl,q1⟩:=q1;cases r1;refine wpAny_truthy_bool ?_;cases c with
 | false=>exact hb pins s1 σ H1 Q I1 q1
 | true=>exact⟨.bl true,H1,I1,rfl,q1⟩
def tIf (t:TT)(ta tb:TE):TE:=λσ H Q=>t σ H λc H1=>if c=true then ta σ H1 Q else tb σ H1 Q
theorem zeZ (hc:PT X c tA)(ha:PE X a ta)(hb:PE X b tb):PE X (.IfExp c a b pos) (tIf tA ta tb):=by
 intro pins s σ H Q I h;refine wpAny_IfExp (thn (hc pins s σ H _ I h) λd s1 ⟨H1,I1,q1⟩=>?_);cases d with
 | true=>exact ha pins s1 σ H1 Q I1 q1
 | false=>exact hb pins s1 σ H1 Q I1 q1
end
def SqL (K:Fg)(H:Hp)(a:Addr)(xs:List V):Prop:=
 Rd H a (.lst xs)\/
  ∃(o:Obj)(aX:Array Value)(n:Nat),K.lookup a=some o/\o.cls=.type "list"/\o.dict=none/\o.data=.seq aX n/\aX.size<=sizeLine/\Zv xs aX.toList
def SqT (K:Fg)(H:Hp)(a:Addr)(xs:List V):Prop:=
 Rd H a (.tup xs)\/
  ∃(o:Obj)(aX:Array Value)(n:Nat),K.lookup a=some o/\o.cls=.type "tuple"/\o.data=.seq aX n/\aX.size<=sizeLine/\Zv xs aX.toList
def absV:Value->Option V
 | .none=>some .non
 | .bool b=>some (.bl b)
 | .int i _=>some (.int i)
 | .str x _=>some (.str x)
 | .bytes b _=>some (.byt b)
 | .float b _=>some (.flt b)
 | .ref a=>some (.ref a)
 | .type n=>some (.ty n)
 | _=>none
theorem Zw.abs (r:Zw x u):absV u=some x:=by
 cases x with
 | non=>cases r;rfl
 | bl _=>cases r;rfl
 | int _=>obtain⟨t,rfl⟩:=r;rfl
 | str _=>obtain⟨t,rfl⟩:=r;rfl
 | byt _=>obtain⟨t,rfl⟩:=r;rfl
 | flt _=>obtain⟨t,rfl⟩:=r;rfl
 | ref _=>cases r;rfl
 | ty _=>cases r;rfl
theorem Zw.inj (r:Zw x u)(q:Zw y u):x=y:=Option.some.inj (r.abs.symm.trans q.abs)
theorem Zv.inj:∀ {xs ys:List V} {us:List Value},Zv xs us->Zv ys us->xs=ys
 | _,_,_,.nil,.nil=>rfl
 | _,_,_,.cons r t,.cons r' t'=>by rw[r.inj r',Zv.inj t t']
theorem SqL.of {K:Fg}(h:H a=some (.lst xs)):SqL K H a xs:=.inl (.inl h)
theorem SqT.of {K:Fg}(h:H a=some (.tup xs)):SqT K H a xs:=.inl (.inl h)
theorem Inv.list (I:Inv X pins σ H s)(h:SqL X.K H a xs):∃aX:List Value,Zv xs aX/\PlainL s.heap a aX.toArray/\xs.length<=sizeLine:=by
 rcases h with h|⟨o,aX,n,hk,hc,hd,hs,hz,r⟩
 .obtain⟨z,aX,n,r,e⟩:=h.ok I.hok;exact⟨aX,r,⟨_,n,e,rfl,rfl,rfl⟩,z⟩
 .refine⟨aX.toList,r,⟨o,n,I.kIn a o hk,hc,hd,by simpa using hs⟩,?_⟩;have e:=r.length;simp only[Array.length_toList] at e;omega
theorem Inv.tuple (I:Inv X pins σ H s)(h:SqT X.K H a xs):∃aX:List Value,Zv xs aX/\IsTup s.heap a aX.toArray/\xs.length<=sizeLine:=by
 rcases h with h|⟨o,aX,n,hk,hc,hs,hz,r⟩
 .obtain⟨z,aX,r,p⟩:=h.ok I.hok;exact⟨aX,r,p,z⟩
 .refine⟨aX.toList,r,⟨o,I.kIn a o hk,hc,n,by simpa using hs⟩,?_⟩;have e:=r.length;simp only[Array.length_toList] at e;omega
theorem Inv.list_inj (I:Inv X pins σ H s)(h:SqL X.K H a xs)(h':SqL X.K H a ys):xs=ys:=by
 obtain⟨aX,r,⟨o,n,e,_,_,d⟩,_⟩:=I.list h;obtain⟨its',r',⟨o',n',e',_,_,d'⟩,_⟩:=I.list h';rw[e] at e';cases e'
 rw[d] at d';injection d' with d1 _
 have:aX=its':=by simpa using congrArg Array.toList d1
 subst this;exact r.inj r'
theorem Inv.tuple_inj (I:Inv X pins σ H s)(h:SqT X.K H a xs)(h':SqT X.K H a ys):xs=ys:=by
 obtain⟨aX,r,⟨o,e,_,n,d⟩,_⟩:=I.tuple h;obtain⟨its',r',⟨o',e',_,n',d'⟩,_⟩:=I.tuple h';rw[e] at e';cases e'
 rw[d] at d';injection d' with d1 _
 have:aX=its':=by simpa using congrArg Array.toList d1
 subst this;exact r.inj r'
abbrev Cx.wish (X:Cx)(E:Value->Shared->Prop):Cx:={ X with xe:=E }
abbrev Cx.nox (X:Cx):Cx:=X.wish λ_ _=>False
theorem Cx.Ok.wish {X:Cx}(ok:X.Ok)(E:Value->Shared->Prop):(X.wish E).Ok:=
 ⟨ok.mod,ok.kind,ok.glob,ok.blt,ok.above,ok.inj,ok.has,ok.cab,ok.hd,ok.frames,ok.stk,ok.exf,ok.bs,ok.bsz,ok.noex,ok.exfs,ok.funs,ok.frf⟩
theorem Cx.Ok.unwish {X:Cx}{E:Value->Shared->Prop}(ok:(X.wish E).Ok):X.Ok:=
 ⟨ok.mod,ok.kind,ok.glob,ok.blt,ok.above,ok.inj,ok.has,ok.cab,ok.hd,ok.frames,ok.stk,ok.exf,ok.bs,ok.bsz,ok.noex,ok.exfs,ok.funs,ok.frf⟩
theorem Inv.wish (I:Inv X pins σ H s)(E:Value->Shared->Prop):Inv (X.wish E) pins σ H s:=⟨I.ok.wish E,I.os,I.bare,I.base,I.loc,I.cell,I.free,I.freeC,I.pin,I.hok,I.len⟩
theorem Inv.unwish (I:Inv (X.wish E) pins σ H s):Inv X pins σ H s:=⟨I.ok.unwish,I.os,I.bare,I.base,I.loc,I.cell,I.free,I.freeC,I.pin,I.hok,I.len⟩
theorem SP.unwish (h:SP (X.wish E) pins D f s'):SP X pins D f s':=by
 cases f with
 | next=>obtain⟨σ',H',I,q⟩:=h;exact⟨σ',H',I.unwish,q⟩
 | brk=>obtain⟨σ',H',I,q⟩:=h;exact⟨σ',H',I.unwish,q⟩
 | cont=>obtain⟨σ',H',I,q⟩:=h;exact⟨σ',H',I.unwish,q⟩
 | ret u=>obtain⟨v,σ',H',I,r,q⟩:=h;exact⟨v,σ',H',I.unwish,r,q⟩
theorem PE.nox {e:Expr}{t:TE}(h:PE X.nox e t):PE X e t:=λpins s σ H Q I hw=>
 wpAny_mono (h pins s σ H Q (I.wish _) hw) (λ_ _ ⟨v,H',I',r,q⟩=>⟨v,H',I'.unwish,r,q⟩) λ_ _ z=>False.elim z
theorem PSs.nox {st:List Stmt}{t:TS}(h:PSs X.nox st t):PSs X st t:=λpins s σ H D I hw=>
 wpAny_mono (h pins s σ H D (I.wish _) hw) (λ_ _ q=>q.unwish) λ_ _ z=>False.elim z
section
variable {X:Cx}{st:Stmt}{Yg:List Stmt}{t u:TS}{e:Expr}{te:TE}{pos:Pos}
def tNext:TS:=λD σ H=>D.nx σ H
def tSeq (t u:TS):TS:=λD σ H=>t { D with nx:=u D } σ H
theorem zhJ:PSs X [] tNext:=λ_ _ σ H _ I h=>wpAny_execs_nil ⟨σ,H,I,h⟩
theorem zab (h1:PS X st t)(h2:PSs X Yg u):PSs X (st::Yg) (tSeq t u):=by
 intro pins s σ H D I h;refine wpAny_execs_cons (thn (h1 pins s σ H { D with nx:=u D } I h) λf s1 q=>?_);cases f with
 | next=>
  obtain⟨σ',H',I',q⟩:=q;exact h2 pins s1 σ' H' D I' q
 | ret v=>exact q
 | brk=>exact q
 | cont=>exact q
theorem C8 (h1:PS X st t):PSs X [st] t:=by
 intro pins s σ H D I h;refine wpAny_execs_cons (thn (h1 pins s σ H D I h) λf s1 q=>?_);cases f with
 | next=>exact wpAny_execs_nil q
 | ret v=>exact q
 | brk=>exact q
 | cont=>exact q
def zcT:TS:=λD σ H=>D.bk σ H
theorem zcJ:PS X (.Break pos) zcT:=λ_ _ σ H _ I h=>wpAny_Break ⟨σ,H,I,h⟩
theorem Inv.quiet (I:Inv X pins σ H s):interactive X.env=false:=by simp[interactive,I.ok.kind]
def tDrop (te:TE):TS:=λD σ H=>te σ H λ_ H1=>D.nx σ H1
theorem zai (he:PE X e te)(hs:swapsWith e none pos.line X.env=pure false:=by rfl):PS X (.Expr e pos) (tDrop te):=by
 intro pins s σ H D I h;exact wpAny_Expr_any (thn (he pins s σ H _ I h) λv s1 ⟨x,H1,I1,r1,q1⟩=>⟨σ,H1,I1,q1⟩) I.quiet hs
def tRet (te:TE):TS:=λD σ H=>te σ H D.rt
theorem zdO (he:PE X e te):PS X (.Return (some e) pos) (tRet te):=by
 intro pins s σ H D I h;exact wpAny_Return_some (thn (he pins s σ H _ I h) λv s1 ⟨x,H1,I1,r1,q1⟩=>⟨x,σ,H1,I1,r1,q1⟩)
def tRetN:TS:=λD _ H=>D.rt .non H
theorem AI:PS X (.Return none pos) tRetN:=λ_ _ σ H _ I h=>wpAny_Return_none ⟨.non,σ,H,I,rfl,h⟩
def tIfS (c:TT)(t u:TS):TS:=λD σ H=>c σ H λb H1=>if b=true then t D σ H1 else u D σ H1
theorem ps_if (hc:PT X c tc)(ha:PSs X a t)(hb:PSs X b u):PS X (.If c a b pos) (tIfS tc t u):=by
 intro pins s σ H D I h;refine wpAny_If (thn (hc pins s σ H _ I h) λd s1 ⟨H1,I1,q1⟩=>?_);cases d with
 | true=>exact ha pins s1 σ H1 D I1 q1
 | false=>exact hb pins s1 σ H1 D I1 q1
def zfp:TS:=λ_ _ _=>False
theorem zh1:PS X st zfp:=λ_ _ _ _ _ _ h=>h.elim
end
abbrev TG:=V->St->Hp->(St->Hp->Prop)->Prop
abbrev TGs:=List V->St->Hp->(St->Hp->Prop)->Prop
def PG (X:Cx)(target:Expr)(t:TG):Prop:=
 ∀(pins:LA)(s:Shared)(σ:St)(H:Hp)(v:V)(u:Value)(Q:St->Hp->Prop),Inv X pins σ H s->Zw v u->t v σ H Q->
  wpAny (mX X) X.A (assign target X.env u) (λ_ s'=>∃σ' H',Inv X pins σ' H' s'/\Q σ' H') X.xe s
def PGs (X:Cx)(ts:List Expr)(t:TGs):Prop:=
 ∀(pins:LA)(s:Shared)(σ:St)(H:Hp)(vs:List V)(us:List Value)(Q:St->Hp->Prop),Inv X pins σ H s->Zv vs us->t vs σ H Q->
  wpAny (mX X) X.A (assignInOrder ((assignEach ts X.env).map (·.2)) us) (λ_ s'=>∃σ' H',Inv X pins σ' H' s'/\Q σ' H') X.xe s
abbrev TSet:=V->V->V->Hp->(Hp->Prop)->Prop
def PSet (X:Cx)(t:TSet):Prop:=
 ∀(pins:LA)(s:Shared)(σ:St)(H:Hp)(o i v:V)(ov iv u:Value)(Q:Hp->Prop),Inv X pins σ H s->Zw o ov->Zw i iv->Zw v u->t o i v H Q->
  wpAny (mX X) X.A (setItem ov iv u) (λ_ s'=>∃H',Inv X pins σ H' s'/\Q H') X.xe s
def N8 (i:Nat):TG:=λv σ H Q=>Q (σ.set i (some v)) H
theorem Tz (hN:X.N.Nodup)(hi:X.N[i]?=some x)(hx:Loc X.env.scope x)(hf:Hf X x:=by first|exact .inl rfl|exact .inr rfl|assumption):PG X (.Name x pos) (N8 i):=by
 intro pins s σ H v u Q I r h;exact wpAny_assign_Name (FH I hN hi hx r (λs' I'=>⟨_,H,I',h⟩) hf)
def gNil:TGs:=λvs σ H Q=>vs=[]/\Q σ H
def gCons (t:TG)(u:TGs):TGs:=λvs σ H Q=>∃v r,vs=v::r/\t v σ H λσ' H'=>u r σ' H' Q
theorem zcz:PGs X [] gNil:=by
 intro pins s σ H vs us Q I r h;obtain⟨e,h⟩:=h;subst e;cases r;exact assignInOrder_nil ⟨σ,H,I,h⟩
theorem CU (h1:PG X e t)(h2:PGs X es u)(hs:(assignEach (e::es) X.env).map (·.2)=assign e X.env::(assignEach es X.env).map (·.2):=by rfl):PGs X (e::es) (gCons t u):=by
 intro pins s σ H vs us Q I r h;obtain⟨v,vr,e1,h⟩:=h;subst e1;cases r with
 | cons r rr=>
  rw[hs];refine assignInOrder_cons (thn (h1 pins s σ H _ _ _ I r h) λ_ s1 ⟨σ1,H1,I1,q1⟩=>?_);exact h2 pins s1 σ1 H1 _ _ Q I1 rr q1
def Vx (K:Fg)(n:Nat)(t:TGs):TG:=λv σ H Q=>∃a xs,v=.ref a/\SqT K H a xs/\xs.length=n/\t xs σ H Q
theorem Vq (hc:X.calm=true)(h:PGs X es t)(hn:(assignEach es X.env).length=n:=by rfl)(hst:(assignEach es X.env).findIdx? (·.1)=none:=by rfl):PG X (.Tuple es k pos) (Vx X.K n t):=by
 intro pins s σ H v u Q I r hw;obtain⟨a,xs,e1,hq,hl,hw⟩:=hw;subst e1;cases r;obtain⟨aX,rv,ht,hz⟩:=I.tuple hq;refine assign_Tuple_tuple (I.ok.hd hc) ht (by simp[hn,<- hl,rv.length]) hst λh' hx=>?_
 have I1:Inv X pins σ H { s with heap:=h' }:=I.kept (t':=s.toks) λb o e=>hx b o (zR (Heap.lt_size e)) e
 exact h pins _ σ H xs _ Q I1 (by simpa using rv) hw
def gSub (to ti:TE)(t:TSet):TG:=λv σ H Q=>to σ H λo H1=>ti σ H1 λi H2=>t o i v H2 λH3=>Q σ H3
theorem zgz (ho:PE X o to)(hi:PE X i ti)(hs:PSet X t)(ha:∀v,assign (.Subscript o i pos) X.env v=(do
   let ov <- holding [v] (eval o X.env)
   let iv <- holding [v,ov] (eval i X.env)
   standAt pos
   holding [v,ov,iv] (setItem ov iv v)
   release [v,ov,iv] []):=by intro _;rfl):PG X (.Subscript o i pos) (gSub to ti t):=by
 intro pins s σ H v u Q I r h;rw[ha];refine wpAny_bind (wpAny_holding (thn (ho pins s σ H _ I h) λov s1 ⟨x,H1,I1,r1,q1⟩=>?_));refine wpAny_bind (wpAny_holding (thn (hi pins s1 σ H1 _ I1 q1) λiv s2 ⟨y,H2,I2,r2,q2⟩=>?_));refine wpAny_bind (wpAny_standAt (wpAny_bind (wpAny_holding (thn (hs pins s2 σ H2 x y v ov iv u _ I2 r1 r2 r q2) λ_ s3 ⟨H3,I3,q3⟩=>?_))));exact wpAny_release ⟨σ,H3,I3,q3⟩
def tAsg (te:TE)(g:TG):TS:=λD σ H=>te σ H λx H1=>g x σ H1 D.nx
theorem G9 (he:PE X e te)(hg:PG X tg g)(hs:swapsWithSole [tg] e pos.line X.env=pure false:=by rfl)(hw:swappedStores [tg] e X.env=pure none:=by rfl)(h1:(assignEach [tg] X.env).map (·.2)=[assign tg X.env]:=by rfl):PS X (.Assign [tg] e pos) (tAsg te g):=by
 intro pins s σ H D I h;refine wpAny_Assign_stores (thn (he pins s σ H _ I h) λv s1 ⟨x,H1,I1,r1,q1⟩=>?_) hs hw;rw[h1];exact thn (hg pins s1 σ H1 x v _ I1 r1 q1) λ_ s2 q=>q
theorem B6 (hN:X.N.Nodup)(hi:X.N[i]?=some x)(hx:Loc X.env.scope x)(he:PE X e te)(hs:swapsWith e (some (.Name x pos')) pos.line X.env=pure false:=by rfl)(hf:Hf X x:=by first|exact .inl rfl|exact .inr rfl|assumption):
  PS X (.Assign [.Name x pos'] e pos) (tAsg te (N8 i)):=by
 intro pins s σ H D I h;refine wpAny_Assign_Name (thn (he pins s σ H _ I h) λv s1 ⟨y,H1,I1,r1,q1⟩=>?_) hs;exact FH I1 hN hi hx r1 (λs2 I2=>⟨_,H1,I2,q1⟩) hf
def za2 (c:TT)(tb:TS):TS:=λD σ H=>∃W:Nat->St->Hp->Prop,(∃m,W m σ H)/\∀m σ H,W m σ H->
 c σ H λb H1=>if b=true then ∃N:St->Hp->Prop,(∀σ' H',N σ' H'->∃m',m'<m/\W m' σ' H')/\tb { D with nx:=N,ct:=N,bk:=D.nx } σ H1 else D.nx σ H1
theorem zdf (hp:PassesOwn (mX X) X.A X.env X.xe)(hc:PT X c tc)(hb:PSs X body tb):PS X (.While c body [] pos) (za2 tc tb):=by
 intro pins s σ H D I h;obtain⟨W,⟨m0,w0⟩,turn⟩:=h;refine wpAny_While (codeAny_whileLoop (λn s'=>∃σ' H',Inv X pins σ' H' s'/\W n σ' H') ?_ m0 ⟨σ,H,I,w0⟩);rintro n s1 ⟨σ1,H1,I1,w1⟩;refine wpAny_passesOwn hp (thn (hc pins s1 σ1 H1 _ I1 (turn n σ1 H1 w1)) λb s2 ⟨H2,I2,q2⟩=>?_);cases b with
 | true=>
  obtain⟨N,hN,q2⟩:=q2;rw[if_pos rfl];refine wpAny_passesOwn hp (thn (hb pins s2 σ1 H2 _ I2 q2) λf s3 q3=>?_);cases f with
  | next=>
   obtain⟨σ3,H3,I3,n3⟩:=q3;obtain⟨m',hm,w3⟩:=hN σ3 H3 n3;exact⟨m',hm,σ3,H3,I3,w3⟩
  | cont=>
   obtain⟨σ3,H3,I3,n3⟩:=q3;obtain⟨m',hm,w3⟩:=hN σ3 H3 n3;exact⟨m',hm,σ3,H3,I3,w3⟩
  | brk=>exact q3
  | ret v=>exact q3
 | false=>
  rw[if_neg zN];exact wpAny_execs_nil ⟨σ1,H2,I2,q2⟩
structure It where
 go:Nat->Hp->Prop
 yld:Nat->Hp->V->Hp->Prop
 stop:Nat->Hp->Prop
def Yk (X:Cx)(pins:LA)(H:Hp)(b:Addr):Prop:=
 H b=none/\b≠X.env.locals/\b ∉ X.fs/\(b∈X.ex\/X.s₀.heap.objs.size<=b)/\(∀x c,X.env.cells.lookup x=some c->c≠b)/\∀p∈X.pn++pins,p.1≠b
theorem Inv.fpOk {X:Cx}{pins:LA}{σ:St}{H H':Hp}{s:Shared}{b:Addr}(I:Inv X pins σ H s)(hb:s.heap.objs.size<=b)(hn:H' b=none):Yk X pins H' b:=by
 refine⟨hn,xQ (zW I.lt hb),I.nofs hb,.inr (yK I.sz hb),λx c e z=>?_,λp hp z=>?_⟩
 .obtain⟨v,q⟩:=I.cell x c e;exact absurd (zW q.lt (by rw[z];exact hb)) (yX _)
 .exact absurd (zW (Heap.lt_size (I.pin p hp).1) (by rw[z];exact hb)) (yX _)
structure Vp (P:Program)(w:World)(K:Fg)(tg:Expr)(J:It)(fp:List Addr)(it:Addr)(tn:Nat->Heap->Prop):Prop where
 mem:it∈fp
 obj:∀i h,tn i h->∀b∈fp,∃o,h.get? b=some o/\∀v,o.data≠.cell v
 keep:∀i h h',tn i h->(∀b∈fp,∀o,h.get? b=some o->h'.get? b=some o)->tn i h'
 item:∀(X:Cx),X.prog=P->X.w=w->X.K=K->X.calm=true->∀(i:Nat)(pins:LA)(s:Shared)(σ:St)(H:Hp)(E:Value->Shared->Prop),Inv X pins σ H s->(∀b∈fp,Yk X pins H b)->tn i s.heap->J.go i H->
  wpAny (model P w) X.A (pyNext (.ref it)) (λr s1=>∃u,r=some u/\
   wpAny (model P w) X.A (letOwnedTupleGo tg (.ref it) u) (λ_ s2=>∃x H',Inv X pins σ H' s2/\Zw x u/\J.yld i H x H'/\tn (i+1) s2.heap/\∀b∈fp,H' b=none) E s1) E s
 done:∀(X:Cx),X.prog=P->X.w=w->X.K=K->X.calm=true->∀(i:Nat)(pins:LA)(s:Shared)(σ:St)(H:Hp)(E:Value->Shared->Prop),Inv X pins σ H s->(∀b∈fp,Yk X pins H b)->tn i s.heap->J.stop i H->
  wpAny (model P w) X.A (pyNext (.ref it)) (λr s1=>r=none/\Inv X pins σ H s1) E s
 self:∀(A:Around)(i:Nat)(s:Shared)(Q:Value->Shared->Prop)(E:Value->Shared->Prop),tn i s.heap->Q (.ref it) s->wpAny (model P w) A (pyIter (.ref it)) Q E s
abbrev TI:=St->Hp->(It->Hp->Prop)->Prop
def PIE (X:Cx)(pins:LA)(σ:St)(tg:Expr)(R:It->Hp->Prop)(itv:Value)(s2:Shared):Prop:=
 ∃(it:Addr)(fp:List Addr)(tn:Nat->Heap->Prop)(J:It)(H':Hp),itv=.ref it/\Inv X pins σ H' s2/\Vp X.prog X.w X.K tg J fp it tn/\tn 0 s2.heap/\(∀b∈fp,Yk X pins H' b)/\R J H'
def PI (X:Cx)(tg aU:Expr)(wi:TI):Prop:=
 ∀(pins:LA)(s:Shared)(σ:St)(H:Hp)(R:It->Hp->Prop),Inv X pins σ H s->wi σ H R->
  wpAny (mX X) X.A (eval aU X.env) (λv s1=>wpAny (mX X) X.A (pyIter v) (PIE X pins σ tg R) X.xe s1) X.xe s
theorem Oc (ho:s.heap.get? it=some o)(hc:o.cls=.type n)(hd:o.data=.fields vs)(hn:["enumerate","zip","dict_itemiterator","dict_reverseitemiterator","odict_iterator","itertools.zip_longest","itertools.pairwise"].contains n=false)(hQ:Q Unit.unit s):wpAny M A (letOwnedTupleGo tg (.ref it) u) Q E s:=by
  unfold letOwnedTupleGo;cases tg<;>first
    | exact wpAny_pure hQ
    | (cases u<;>first
        | exact wpAny_pure hQ
        | (refine wpAny_bind (wpAny_load ho ?_)
           rw[hc,hd];show wpAny M A (if (["enumerate","zip","dict_itemiterator","dict_reverseitemiterator","odict_iterator","itertools.zip_longest","itertools.pairwise"].contains n&&vs[0]?==some (rawInt _))=true then _ else _) Q E s;rw[if_neg (by intro h;rw[hn,xY] at h;cases h)];exact wpAny_pure hQ))
def Itl (K:Fg)(a:Addr):It:=
 ⟨λi H=>∃xs x,SqL K H a xs/\xs[i]?=some x,λi H x H'=>H'=H/\∀xs,SqL K H a xs->xs[i]?=some x,λi H=>∃xs,SqL K H a xs/\xs.length<=i⟩
def Itt (K:Fg)(a:Addr):It:=
 ⟨λi H=>∃xs x,SqT K H a xs/\xs[i]?=some x,λi H x H'=>H'=H/\∀xs,SqT K H a xs->xs[i]?=some x,λi H=>∃xs,SqT K H a xs/\xs.length<=i⟩
def Itr (lo:Int)(n:Nat):It:=⟨λi _=>i<n,λi H x H'=>H'=H/\x=.int (lo+i),λi _=>n<=i⟩
theorem zfF {P:Program}{w:World}{K:Fg}{tg:Expr}(a it:Addr):Vp P w K tg (Itl K a) [it] it (λi h=>h.IsListIter it a i) where
 mem:=by simp
 obj:=λi h st b hb=>by
  have e:b=it:=by simpa using hb
  subst e;obtain⟨o,e,c,d⟩:=st;exact⟨o,e,λv z=>by rw[d] at z;cases z⟩
 keep:=λi h h' st k=>st.at λo e=>k it (by simp) o e
 item:=by
  intro X hP hw hK hc i pins s σ H E I hf st hg;subst hP hw hK;obtain⟨xs,x,hq,hx⟩:=hg;obtain⟨aX,rv,p,hz⟩:=I.list hq;obtain⟨u,hu,ru⟩:=rv.get hx;obtain⟨f0,f1,f2,f3,f4,f5⟩:=hf it (by simp);refine wpAny_pyNext_list_item st p.isList (x:=u) (by simpa using hu) λh' st' sb=>?_
  have I1:Inv X pins σ H { s with heap:=h' }:=I.turned (t':=s.toks) (λb o hb e=>(sb.2 b hb).trans e) f0 f1 f3 f4 f5;obtain⟨o,e,c,d⟩:=id st';exact⟨u,rfl,Oc (s:={ s with heap:=h' }) e c d ⋯ ⟨x,H,I1,ru,⟨rfl,λys hy=>by rw[I.list_inj hy hq];exact hx⟩,st',λb hb=>(hf b hb).1⟩⟩
 done:=by
  intro X hP hw hK hc i pins s σ H E I hf st hg;subst hP hw hK;obtain⟨xs,hq,hx⟩:=hg;obtain⟨aX,rv,p,hz⟩:=I.list hq;obtain⟨f0,f1,f2,f3,f4,f5⟩:=hf it (by simp);have hl:=rv.length;exact wpAny_pyNext_list_end (I.ok.hd hc) st p.isList (by simp;omega) λh' eb=>⟨rfl,I.turned (t':=s.toks) (λb o hb e=>eb b o hb e) f0 f1 f3 f4 f5⟩
 self:=λ_ _ _ _ _ st h=>wpAny_pyIter_listiter st h
theorem zbW {P:Program}{w:World}{K:Fg}{tg:Expr}(a it:Addr):Vp P w K tg (Itt K a) [it] it (λi h=>h.IsTupleIter it a i) where
 mem:=by simp
 obj:=λi h st b hb=>by
  have e:b=it:=by simpa using hb
  subst e;obtain⟨o,e,c,d⟩:=st;exact⟨o,e,λv z=>by rw[d] at z;cases z⟩
 keep:=λi h h' st k=>st.at λo e=>k it (by simp) o e
 item:=by
  intro X hP hw hK hc i pins s σ H E I hf st hg;subst hP hw hK;obtain⟨xs,x,hq,hx⟩:=hg;obtain⟨aX,rv,p,hz⟩:=I.tuple hq;obtain⟨u,hu,ru⟩:=rv.get hx;obtain⟨f0,f1,f2,f3,f4,f5⟩:=hf it (by simp);refine wpAny_pyNext_tuple_item st (show s.heap.IsTuple a aX.toArray from p) (x:=u) (by simpa using hu) λh' st' sb=>?_
  have I1:Inv X pins σ H { s with heap:=h' }:=I.turned (t':=s.toks) (λb o hb e=>(sb.2 b hb).trans e) f0 f1 f3 f4 f5;obtain⟨o,e,c,d⟩:=id st';exact⟨u,rfl,Oc (s:={ s with heap:=h' }) e c d ⋯ ⟨x,H,I1,ru,⟨rfl,λys hy=>by rw[I.tuple_inj hy hq];exact hx⟩,st',λb hb=>(hf b hb).1⟩⟩
 done:=by
  intro X hP hw hK hc i pins s σ H E I hf st hg;subst hP hw hK;obtain⟨xs,hq,hx⟩:=hg;obtain⟨aX,rv,p,hz⟩:=I.tuple hq;obtain⟨f0,f1,f2,f3,f4,f5⟩:=hf it (by simp);have hl:=rv.length;exact wpAny_pyNext_tuple_end (I.ok.hd hc) st (show s.heap.IsTuple a aX.toArray from p) (by simp;omega) λh' eb=>⟨rfl,I.turned (t':=s.toks) (λb o hb e=>eb b o hb e) f0 f1 f3 f4 f5⟩
 self:=λ_ _ _ _ _ st h=>wpAny_pyIter_tupleiter st h
theorem zde {P:Program}{w:World}{K:Fg}{tg:Expr}(it:Addr)(lo:Int)(n:Nat):Vp P w K tg (Itr lo n) [it] it (λi h=>IsRangeIter h it (lo+(i:Nat)*1) ((n:Int)-(i:Nat)) 1) where
 mem:=by simp
 obj:=λi h st b hb=>by
  have e:b=it:=by simpa using hb
  subst e;exact⟨_,st,λv z=>by
   have z':Data.fields _=Data.cell v:=z;cases z'⟩
 keep:=λi h h' st k=>k it (by simp) _ st
 item:=by
  intro X hP hw hK hc i pins s σ H E I hf st hg;subst hP hw hK;obtain⟨f0,f1,f2,f3,f4,f5⟩:=hf it (by simp);have W:=Walks.range (prog:=X.prog) (w:=X.w) (I.ok.hd hc) it lo 1 n;refine W.item i s _ _ hg st λv h' tk hv st' kk=>?_
  obtain⟨t,rfl⟩:=hv;have I1:Inv X pins σ H { s with heap:=h',toks:=tk }:=I.turned (λb o hb e=>kk b o (by simpa using hb) e) f0 f1 f3 f4 f5;refine⟨_,rfl,Oc (s:={ s with heap:=h',toks:=tk }) (n:="range_iterator") st' rfl rfl ⋯ ⟨.int (lo+i),H,I1,⟨t,?_⟩,⟨rfl,rfl⟩,st',λb hb=>(hf b hb).1⟩⟩;rw[xE]
 done:=by
  intro X hP hw hK hc i pins s σ H E I hf st hg;subst hP hw hK;obtain⟨f0,f1,f2,f3,f4,f5⟩:=hf it (by simp);exact wpAny_pyNext_range_end (I.ok.hd hc) st (by have:n<=i:=hg;omega) λh' eb=>⟨rfl,I.turned (t':=s.toks) (λb o hb e=>eb b o hb e) f0 f1 f3 f4 f5⟩
 self:=λ_ _ _ _ _ st h=>wpAny_pyIter_rangeiter st h
def Cj (K:Fg)(tl:TE):TI:=λσ H R=>tl σ H λx H1=>∃a,x=.ref a/\(∃xs,SqL K H1 a xs)/\R (Itl K a) H1
def iTup (K:Fg)(tl:TE):TI:=λσ H R=>tl σ H λx H1=>∃a,x=.ref a/\(∃xs,SqT K H1 a xs)/\R (Itt K a) H1
theorem MJ {l:Expr}{tl:TE}(hl:PE X l tl):PI X tg l (Cj X.K tl):=by
 intro pins s σ H R I h;refine thn (hl pins s σ H _ I h) λv s1 ⟨x,H1,I1,r1,q1⟩=>?_
 obtain⟨a,e,⟨xs,hq⟩,q⟩:=q1;subst e;cases r1;obtain⟨aX,rv,p,hz⟩:=I1.list hq;refine wpAny_pyIter_list p.isList ?_;refine⟨s1.heap.objs.size,[s1.heap.objs.size],_,_,H1,rfl,I1.kept (t':=s1.toks) λb o e=>Heap.get?_push_of_some _ e,zfF a _,⟨_,Heap.get?_push_size _ rfl,rfl,rfl⟩,λb hb=>?_,q⟩;have e:b=s1.heap.objs.size:=by simpa using hb
 subst e;exact I1.fpOk (zA _) (I1.hok.fresh (zA _))
theorem za1 {l:Expr}{tl:TE}(hl:PE X l tl):PI X tg l (iTup X.K tl):=by
 intro pins s σ H R I h;refine thn (hl pins s σ H _ I h) λv s1 ⟨x,H1,I1,r1,q1⟩=>?_
 obtain⟨a,e,⟨xs,hq⟩,q⟩:=q1;subst e;cases r1;obtain⟨aX,rv,p,hz⟩:=I1.tuple hq;refine wpAny_pyIter_tuple (show s1.heap.IsTuple a aX.toArray from p) ?_;refine⟨s1.heap.objs.size,[s1.heap.objs.size],_,_,H1,rfl,I1.kept (t':=s1.toks) λb o e=>Heap.get?_push_of_some _ e,zbW a _,⟨_,Heap.get?_push_size _ rfl,rfl,rfl⟩,λb hb=>?_,q⟩;have e:b=s1.heap.objs.size:=by simpa using hb
 subst e;exact I1.fpOk (zA _) (I1.hok.fresh (zA _))
theorem zg8 {pins:LA}{σ:St}{H:Hp}{s:Shared}{R:It->Hp->Prop}{E:Value->Shared->Prop}{lo hi:Int}{t u v:Tok}{tk:Nat}(I:Inv X pins σ H s)(h1:-(2^62)<=lo)(h2:lo<2^62)(h3:-(2^62)<=hi)(h4:hi<2^62)
  (q:R (Itr lo (hi-lo).toNat) H):wpAny (mX X) X.A (pyIter (.ref s.heap.objs.size)) (PIE X pins σ tg R) E { s with heap:=s.heap.push { cls:=.type "range",data:=.fields #[.int lo t,.int hi u,.int 1 v] },toks:=tk }:=by
 refine wpAny_pyIter_range (IsRange.new ..) (small_one h1 h2 h3 h4) ?_;have I1:Inv X pins σ H { s with heap:=s.heap.push { cls:=.type "range",data:=.fields #[.int lo t,.int hi u,.int 1 v] },toks:=tk }:=I.kept λb o e=>Heap.get?_push_of_some _ e
 refine⟨(s.heap.push { cls:=.type "range",data:=.fields #[.int lo t,.int hi u,.int 1 v] }).objs.size,[(s.heap.push { cls:=.type "range",data:=.fields #[.int lo t,.int hi u,.int 1 v] }).objs.size],_,_,H,rfl,
  I1.kept (t':=tk) λb o e=>Heap.get?_push_of_some _ e,zde _ lo (hi-lo).toNat,?_,λb hb=>?_,q⟩
 .have e1:lo+((0:Nat):Int)*1=lo:=by simp
  have e2:(((hi-lo).toNat:Nat):Int)-((0:Nat):Int)=Builtin.Range.rangeSize lo hi 1:=by rw[rangeSize_one];split<;>omega
  show IsRangeIter _ _ (lo+((0:Nat):Int)*1) ((((hi-lo).toNat:Nat):Int)-((0:Nat):Int)) 1;rw[e1,e2];exact Heap.get?_push_size _ rfl
 .have e:b=(s.heap.push { cls:=.type "range",data:=.fields #[.int lo t,.int hi u,.int 1 v] }).objs.size:=by simpa using hb
  subst e;exact I1.fpOk (zA _) (I1.hok.fresh (zA _))
def HQ (ta:TA):TI:=λσ H R=>ta σ H λvs H1=>∃j:Int,vs=[.int j]/\-(2^62)<=j/\j<2^62/\R (Itr 0 j.toNat) H1
theorem Jp {a:Expr}{ta:TA}{p pos:Pos}(hg:Gl X "range")(hm:X.mg "range"=none)(ha:PA X [a] ta)(hs:starEach [a] X.env=[(false,eval a X.env)]:=by rfl):PI X tg (.Call (.Name "range" p) [a] [] pos) (HQ ta):=by
 intro pins s σ H R I h;refine Call_ (Vg I hg hm boot_range (PyProof.Rows.callWith_type1 (thn (ha pos pins s σ H _ I h) λus s1 ⟨vs,H1,I1,r1,q1⟩=>?_) hs rfl));obtain⟨j,e,q1,q2,q⟩:=q1;subst e;cases r1 with
 | cons r rr=>
  cases rr;obtain⟨t,rfl⟩:=r;exact call_range_1 (zg8 I1 (by omega) (by omega) q1 q2 (by simpa using q))
def tFor (wi:TI)(g:TG)(tb:TS):TS:=λD σ H=>wi σ H λJ H1=>∃W:Nat->Nat->St->Hp->Prop,(∃m,W 0 m σ H1)/\∀i m σ H,W i m σ H->
 (J.stop i H/\D.nx σ H)\/(J.go i H/\∃N:St->Hp->Prop,(∀σ' H',N σ' H'->∃m',m'<m/\W (i+1) m' σ' H')/\∀x H',J.yld i H x H'->g x σ H' λσ2 H2=>tb { D with nx:=N,ct:=N,bk:=D.nx } σ2 H2)
def TX (fp:List Addr)(h:Heap):LA:=fp.filterMap λb=>(h.get? b).map λo=>(b,o)
theorem QV {fp:List Addr}{h:Heap}{b:Addr}{o:Obj}(hb:b∈fp)(e:h.get? b=some o):(b,o)∈TX fp h:=vU.mpr ⟨b,hb,by rw[e];rfl⟩
theorem AX {fp:List Addr}{h:Heap}{p:Addr×Obj}(hp:p∈TX fp h):p.1∈fp/\h.get? p.1=some p.2:=by
 obtain⟨b,hb,e⟩:=vU.mp hp;cases q:h.get? b with
 | none=>rw[q] at e;cases e
 | some o=>
  rw[q] at e;have e':(b,o)=p:=Option.some.inj e;subst e';exact⟨hb,q⟩
theorem Inv.pinned {pins:LA}{σ:St}{H:Hp}{s:Shared}{fp:List Addr}(I:Inv X pins σ H s)(hf:∀b∈fp,Yk X pins H b)(ho:∀b∈fp,∃o,s.heap.get? b=some o/\∀v,o.data≠.cell v):Inv X (pins++TX fp s.heap) σ H s:=
 I.pins_of λp hp=>(yI.mp hp).elim (λz=>I.pin p (xG _ z)) λz=>by
  obtain⟨hb,e⟩:=AX z;obtain⟨f0,f1,f2,_⟩:=hf p.1 hb;obtain⟨o,e',d⟩:=ho p.1 hb;rw[e] at e';cases e'
  exact⟨e,f0,f1,f2,d⟩
theorem Inv.unpinned (I:Inv X (pins++pl) σ H s):Inv X pins σ H s:=I.pins_of λp hp=>I.pin p (xG _ (uS _ hp))
theorem Tf (hp:PassesOwn (mX X) X.A X.env X.xe)(hc:X.calm=true)(hi:PI X tg aU wi)(hg:PG X tg g)(hb:PSs X body tb)(hs:∀x,foldedSetIterable aU X.env x=pure x:=by intro _;rfl):PS X (.For tg aU body [] pos) (tFor wi g tb):=by
 intro pins s σ H D I h;refine wpAny_For (thn (hi pins s σ H _ I h) λv s1 h1=>thn h1 λitv s2 h2=>?_) hs;obtain⟨it,fp,tn,J,H2,e,I2,T,st2,f2,W,⟨m0,w0⟩,turn⟩:=h2;subst e;have stat:∀ {H':Hp},(∀b∈fp,H' b=none)->∀b∈fp,Yk X pins H' b:=λhn b hb=>⟨hn b hb,(f2 b hb).2⟩
 refine codeAny_forLoop_any (λn s'=>∃i σ' H',Inv X pins σ' H' s'/\tn i s'.heap/\(∀b∈fp,H' b=none)/\W i n σ' H') ?_ m0 ⟨0,σ,H2,I2,st2,λb hb=>(f2 b hb).1,w0⟩;rintro n s3 ⟨i,σ3,H3,I3,st3,fr3,w3⟩;rcases turn i n σ3 H3 w3 with ⟨stop,qn⟩|⟨go,N,hN,step⟩
 .refine wpAny_passesOwn hp (thn (T.done X rfl rfl rfl hc i pins s3 σ3 H3 X.xe I3 (stat fr3) st3 stop) λr s4 ⟨hr,I4⟩=>?_);subst hr;exact wpAny_execs_nil ⟨σ3,H3,I4,qn⟩
 .refine wpAny_passesOwn hp (thn (T.item X rfl rfl rfl hc i pins s3 σ3 H3 X.xe I3 (stat fr3) st3 go) λr s4 ⟨u,hr,h4⟩=>?_);subst hr;refine wpAny_passesOwn hp (thn h4 λ_ s5 ⟨x,H5,I5,r5,y5,st5,fr5⟩=>?_);have I5':=I5.pinned (stat fr5) (T.obj _ _ st5);refine wpAny_passesOwn hp (thn (hg _ s5 σ3 H5 x u _ I5' r5 (step x H5 y5)) λ_ s6 ⟨σ6,H6,I6,q6⟩=>?_);refine wpAny_passesOwn hp (thn (hb _ s6 σ6 H6 _ I6 q6) λf s7 q7=>?_);have again:∀ {σ7:St} {H7:Hp},Inv X (pins++TX fp s5.heap) σ7 H7 s7->N σ7 H7->∃m,m<n/\∃i σ' H',Inv X pins σ' H' s7/\tn i s7.heap/\(∀b∈fp,H' b=none)/\W i m σ' H':=λ{σ7 H7} I7 n7=>by
   obtain⟨m',hm,w7⟩:=hN σ7 H7 n7;refine⟨m',hm,i+1,σ7,H7,I7.unpinned,T.keep _ _ _ st5 λb hb o e=>(I7.pin (b,o) (xG _ (xG _ (QV hb e)))).1,λb hb=>?_,w7⟩;obtain⟨o,e,d⟩:=T.obj _ _ st5 b hb;exact(I7.pin (b,o) (xG _ (xG _ (QV hb e)))).2.1
  cases f with
  | next=>obtain⟨σ7,H7,I7,n7⟩:=q7;exact again I7 n7
  | cont=>obtain⟨σ7,H7,I7,n7⟩:=q7;exact again I7 n7
  | brk=>obtain⟨σ7,H7,I7,q7⟩:=q7;exact⟨σ7,H7,I7.unpinned,q7⟩
  | ret v=>obtain⟨x7,σ7,H7,I7,r7,q7⟩:=q7;exact⟨x7,σ7,H7,I7.unpinned,r7,q7⟩
abbrev R2:=V->V->Hp->VK->Prop
def OpR (X:Cx)(f:Value->Value->Sem Value)(r:R2):Prop:=
 ∀(pins:LA)(s:Shared)(σ:St)(H:Hp)(x y:V)(v u:Value)(Q:VK),Inv X pins σ H s->Zw x v->Zw y u->r x y H Q->
  wpAny (mX X) X.A (f v u) (EP X pins σ Q) X.xe s
def UnR (X:Cx)(f:Value->Sem Value)(r:V->Hp->VK->Prop):Prop:=
 ∀(pins:LA)(s:Shared)(σ:St)(H:Hp)(x:V)(v:Value)(Q:VK),Inv X pins σ H s->Zw x v->r x H Q->
  wpAny (mX X) X.A (f v) (EP X pins σ Q) X.xe s
def Yl (X:Cx)(f:Value)(r:List V->Hp->VK->Prop):Prop:=
 ∀(pins:LA)(s:Shared)(σ:St)(H:Hp)(xs:List V)(us:List Value)(Q:VK),Inv X pins σ H s->Zv xs us->r xs H Q->
  wpAny (mX X) X.A (call f us) (EP X pins σ Q) X.xe s
def tOp (r:R2)(ta tb:TE):TE:=λσ H Q=>ta σ H λx H1=>tb σ H1 λy H2=>r x y H2 Q
def tUn (r:V->Hp->VK->Prop)(ta:TE):TE:=λσ H Q=>ta σ H λx H1=>r x H1 Q
def rI (C:Int->Int->Prop)(g:Int->Int->V):R2:=λx y H Q=>∃i j,x=.int i/\y=.int j/\C i j/\Q (g i j) H
def rI0 (g:Int->Int->V):R2:=λx y H Q=>∃i j,x=.int i/\y=.int j/\Q (g i j) H
def rU (g:Int->V):V->Hp->VK->Prop:=λx H Q=>∃i,x=.int i/\Q (g i) H
theorem binT (ha:PE X a ta)(hb:PE X b tb){pins:LA}{s:Shared}{σ:St}{H:Hp}{R:V->V->Hp->Prop}(I:Inv X pins σ H s)
  (h:ta σ H λx H1=>tb σ H1 λy H2=>R x y H2){Q:Value->Shared->Prop}{f:Value->Value->Sem Value}
  (hf:∀v u s2 x y H2,Inv X pins σ H2 s2->Zw x v->Zw y u->R x y H2->wpAny (mX X) X.A (f v u) Q X.xe s2):
  wpAny (mX X) X.A (eval a X.env) (λv s₁=>wpAny (mX X) X.A (eval b X.env) (λu s₂=>wpAny (mX X) X.A (f v u) Q X.xe s₂) X.xe s₁) X.xe s:=by
 refine thn (ha pins s σ H _ I h) λv s1 ⟨x,H1,I1,r1,q1⟩=>?_
 refine thn (hb pins s1 σ H1 _ I1 q1) λu s2 ⟨y,H2,I2,r2,q2⟩=>?_
 exact hf v u s2 x y H2 I2 r1 r2 q2
theorem pe_op {op:Operator}{r:R2}(ho:OpR X (binaryOp op) r)(ha:PE X a ta)(hb:PE X b tb):PE X (.BinOp a op b pos) (tOp r ta tb):=by
 intro pins s σ H Q I h;exact wpAny_BinOp (binT ha hb I h λv u s2 x y H2 I2 rx ry q=>ho pins s2 σ H2 x y v u Q I2 rx ry q)
theorem pe_un {op:UnaryOp}{r:V->Hp->VK->Prop}(ho:UnR X (unaryOp op) r)(ha:PE X a ta):PE X (.UnaryOp op a pos) (tUn r ta):=by
 intro pins s σ H Q I h;exact UnaryOp_ (thn (ha pins s σ H _ I h) λv s1 ⟨x,H1,I1,r1,q1⟩=>ho pins s1 σ H1 x v Q I1 r1 q1)
theorem opI {f:Value->Value->Sem Value}{C:Int->Int->Prop}{g:Int->Int->Int}
  (rule:∀(i j:Int)(t u:Tok)(s:Shared)(Q:Value->Shared->Prop)(E:Value->Shared->Prop),C i j->Q (.int (g i j) s.toks) { s with toks:=s.toks+1 }->wpAny (mX X) X.A (f (.int i t) (.int j u)) Q E s):
  OpR X f (rI C λi j=>.int (g i j)):=by
 intro pins s σ H x y v u Q I rx ry h;obtain⟨i,j,rfl,rfl,hc,q⟩:=h;obtain⟨t,rfl⟩:=rx;obtain⟨t',rfl⟩:=ry;exact rule i j t t' s _ _ hc ⟨.int (g i j),H,I.tok _,⟨_,rfl⟩,q⟩
theorem opI0 {f:Value->Value->Sem Value}{g:Int->Int->Int}
  (rule:∀(i j:Int)(t u:Tok)(s:Shared)(Q:Value->Shared->Prop)(E:Value->Shared->Prop),Q (.int (g i j) s.toks) { s with toks:=s.toks+1 }->wpAny (mX X) X.A (f (.int i t) (.int j u)) Q E s):
  OpR X f (rI0 λi j=>.int (g i j)):=by
 intro pins s σ H x y v u Q I rx ry h;obtain⟨i,j,rfl,rfl,q⟩:=h;obtain⟨t,rfl⟩:=rx;obtain⟨t',rfl⟩:=ry;exact rule i j t t' s _ _ ⟨.int (g i j),H,I.tok _,⟨_,rfl⟩,q⟩
theorem Ny {f:Value->Value->Sem Value}{g:Int->Int->Bool}
  (rule:∀(i j:Int)(t u:Tok)(s:Shared)(Q:Value->Shared->Prop)(E:Value->Shared->Prop),Q (.bool (g i j)) s->wpAny (mX X) X.A (f (.int i t) (.int j u)) Q E s):
  OpR X f (rI0 λi j=>.bl (g i j)):=by
 intro pins s σ H x y v u Q I rx ry h;obtain⟨i,j,rfl,rfl,q⟩:=h;obtain⟨t,rfl⟩:=rx;obtain⟨t',rfl⟩:=ry;exact rule i j t t' s _ _ ⟨.bl (g i j),H,I,rfl,q⟩
def Oj (i j:Int):Prop:=0<=j/\j<=1000000/\i.natAbs<2^64
theorem Bo:OpR X (binaryOp .Add) (rI0 λi j=>.int (i+j)):=opI0 λ_ _ _ _ _ _ _ q=>add_int q
theorem zgy:OpR X (binaryOp .Sub) (rI0 λi j=>.int (i-j)):=opI0 λ_ _ _ _ _ _ _ q=>sub_int q
theorem zd6:OpR X (binaryOp .Mod) (rI (λ_ j=>0<j) λi j=>.int (i%j)):=opI λi j _ _ _ _ _ hc q=>by
 have h1:(0:Int)<j:=hc;exact mod_int' (by omega) (by rw[Int.fmod_eq_emod_of_nonneg i (by omega)];exact q)
theorem zcr:OpR X (binaryOp .Pow) (rI Oj λi j=>.int (i^j.toNat)):=opI λ_ _ _ _ _ _ _ hc q=>pow_int_small hc.1 hc.2.1 hc.2.2 q
theorem zbn:OpR X (binaryOp .LShift) (rI Oj λi j=>.int (i*2^j.toNat)):=opI λ_ _ _ _ _ _ _ hc q=>lshift_int_small hc.1 hc.2.1 hc.2.2 q
theorem unI {f:Value->Sem Value}{g:Int->Int}
  (rule:∀(i:Int)(t:Tok)(s:Shared)(Q:Value->Shared->Prop)(E:Value->Shared->Prop),Q (.int (g i) s.toks) { s with toks:=s.toks+1 }->wpAny (mX X) X.A (f (.int i t)) Q E s):
  UnR X f (rU λi=>.int (g i)):=by
 intro pins s σ H x v Q I rx h;obtain⟨i,rfl,q⟩:=h;obtain⟨t,rfl⟩:=rx;exact rule i t s _ _ ⟨.int (g i),H,I.tok _,⟨_,rfl⟩,q⟩
theorem BN:UnR X (unaryOp .USub) (rU λi=>.int (-i)):=unI λ_ _ _ _ _ q=>neg_int q
def Ng:V->V->Bool
 | .non,.non=>true|.non,.int _=>true|.int _,.non=>true|.non,.bl _=>true|.bl _,.non=>true|.non,.str _=>true|.str _,.non=>true
 | .int _,.int _=>true|.bl _,.bl _=>true|.str _,.str _=>true|.byt _,.byt _=>true
 | .int _,.str _=>true|.str _,.int _=>true|.bl _,.str _=>true|.str _,.bl _=>true
 | _,_=>false
def rEq:R2:=λx y H Q=>Ng x y=true/\Q (.bl (decide (x=y))) H
def rNe:R2:=λx y H Q=>Ng x y=true/\Q (.bl (!decide (x=y))) H
theorem GG:decide (V.int i=V.int j)=(i==j):=by
 rw[xZ];simp
theorem Hi:decide (V.bl i=V.bl j)=(i==j):=by
 rw[xZ];simp
theorem DA:decide (V.str i=V.str j)=(i==j):=by
 rw[xZ];simp
theorem Gv:decide (V.byt i=V.byt j)=(i.toList==j.toList):=by
 rw[xZ];cases i;cases j;simp
theorem Z3 (I:Inv X pins σ H s)(q:Q (.bl k) H)(e:k=k'):EP X pins σ Q (.bool k') s:=by
 subst e;exact⟨.bl k,H,I,rfl,q⟩
theorem Jw:OpR X (compareOp .Eq) rEq:=by
 intro pins s σ H x y v u Q I rx ry h;obtain⟨hs,q⟩:=h;cases x with
 | non=>
  cases rx;cases y with
  | non=>cases ry;exact PySem.EqNone.eq_none_none (Z3 I q (by simp))
  | bl j=>cases ry;exact PySem.EqNone.eq_none_bool (Z3 I q (by simp))
  | int j=>obtain⟨t',rfl⟩:=ry;exact PySem.EqNone.eq_none_int (Z3 I q (by simp))
  | str j=>obtain⟨t',rfl⟩:=ry;exact PySem.EqNone.eq_none_str (Z3 I q (by simp))
  | _=>exact absurd (show false=true from hs) zN
 | bl i=>
  cases rx;cases y with
  | non=>cases ry;exact PySem.EqNone.eq_bool_none (Z3 I q (by simp))
  | bl j=>cases ry;exact eq_bool (Z3 I q Hi)
  | str j=>obtain⟨t',rfl⟩:=ry;exact PySem.EqMixed.eq_bool_str (Z3 I q (by simp))
  | _=>exact absurd (show false=true from hs) zN
 | int i=>
  obtain⟨t,rfl⟩:=rx;cases y with
  | non=>cases ry;exact PySem.EqNone.eq_int_none (Z3 I q (by simp))
  | int j=>obtain⟨t',rfl⟩:=ry;exact eq_int (Z3 I q GG)
  | str j=>obtain⟨t',rfl⟩:=ry;exact PySem.EqMixed.eq_int_str (Z3 I q (by simp))
  | _=>exact absurd (show false=true from hs) zN
 | str i=>
  obtain⟨t,rfl⟩:=rx;cases y with
  | non=>cases ry;exact PySem.EqNone.eq_str_none (Z3 I q (by simp))
  | bl j=>cases ry;exact PySem.EqMixed.eq_str_bool (Z3 I q (by simp))
  | int j=>obtain⟨t',rfl⟩:=ry;exact PySem.EqMixed.eq_str_int (Z3 I q (by simp))
  | str j=>obtain⟨t',rfl⟩:=ry;exact eq_str (Z3 I q DA)
  | _=>exact absurd (show false=true from hs) zN
 | byt i=>
  obtain⟨t,rfl⟩:=rx;cases y with
  | byt j=>obtain⟨t',rfl⟩:=ry;exact W.eq_bytes (Z3 I q Gv)
  | _=>exact absurd (show false=true from hs) zN
 | _=>cases y<;>exact absurd (show false=true from hs) zN
theorem op_ne:OpR X (compareOp .NotEq) rNe:=by
 intro pins s σ H x y v u Q I rx ry h;obtain⟨hs,q⟩:=h;cases x with
 | non=>
  cases rx;cases y with
  | non=>cases ry;exact PySem.EqNone.ne_none_none (Z3 I q (by simp))
  | bl j=>cases ry;exact PySem.EqNone.ne_none_bool (Z3 I q (by simp))
  | int j=>obtain⟨t',rfl⟩:=ry;exact PySem.EqNone.ne_none_int (Z3 I q (by simp))
  | str j=>obtain⟨t',rfl⟩:=ry;exact PySem.EqNone.ne_none_str (Z3 I q (by simp))
  | _=>exact absurd (show false=true from hs) zN
 | bl i=>
  cases rx;cases y with
  | non=>cases ry;exact PySem.EqNone.ne_bool_none (Z3 I q (by simp))
  | bl j=>cases ry;exact ne_bool (Z3 I q (congrArg not Hi))
  | str j=>obtain⟨t',rfl⟩:=ry;exact PySem.EqMixed.ne_bool_str (Z3 I q (by simp))
  | _=>exact absurd (show false=true from hs) zN
 | int i=>
  obtain⟨t,rfl⟩:=rx;cases y with
  | non=>cases ry;exact PySem.EqNone.ne_int_none (Z3 I q (by simp))
  | int j=>obtain⟨t',rfl⟩:=ry;exact ne_int (Z3 I q (congrArg not GG))
  | str j=>obtain⟨t',rfl⟩:=ry;exact PySem.EqMixed.ne_int_str (Z3 I q (by simp))
  | _=>exact absurd (show false=true from hs) zN
 | str i=>
  obtain⟨t,rfl⟩:=rx;cases y with
  | non=>cases ry;exact PySem.EqNone.ne_str_none (Z3 I q (by simp))
  | bl j=>cases ry;exact PySem.EqMixed.ne_str_bool (Z3 I q (by simp))
  | int j=>obtain⟨t',rfl⟩:=ry;exact PySem.EqMixed.ne_str_int (Z3 I q (by simp))
  | str j=>obtain⟨t',rfl⟩:=ry;exact ne_str (Z3 I q (congrArg not DA))
  | _=>exact absurd (show false=true from hs) zN
 | byt i=>
  obtain⟨t,rfl⟩:=rx;cases y with
  | byt j=>obtain⟨t',rfl⟩:=ry;exact W.ne_bytes (Z3 I q (congrArg not Gv))
  | _=>exact absurd (show false=true from hs) zN
 | _=>cases y<;>exact absurd (show false=true from hs) zN
theorem op_lt:OpR X (compareOp .Lt) (rI0 λi j=>.bl (decide (i<j))):=Ny λ_ _ _ _ _ _ _ q=>lt_int q
theorem op_le:OpR X (compareOp .LtE) (rI0 λi j=>.bl (decide (i<=j))):=Ny λ_ _ _ _ _ _ _ q=>le_int q
theorem op_gt:OpR X (compareOp .Gt) (rI0 λi j=>.bl (decide (j<i))):=Ny λ_ _ _ _ _ _ _ q=>gt_int q
theorem op_ge:OpR X (compareOp .GtE) (rI0 λi j=>.bl (decide (j<=i))):=Ny λ_ _ _ _ _ _ _ q=>ge_int q
theorem zfJ:OpR X (compareOp .Is) (λx y H Q=>y=.non/\Q (.bl (decide (x=.non))) H):=by
 intro pins s σ H x y v u Q I rx ry h;obtain⟨rfl,q⟩:=h;cases ry;refine is_none_gen (Z3 I q ?_);cases x<;>first
  | (cases rx;rfl)
  | (obtain⟨t,rfl⟩:=rx;rfl)
theorem zeD:OpR X (compareOp .IsNot) (λx y H Q=>y=.non/\Q (.bl (!decide (x=.non))) H):=by
 intro pins s σ H x y v u Q I rx ry h;obtain⟨rfl,q⟩:=h;cases ry;refine isnot_none_gen (Z3 I q ?_);cases x<;>first
  | (cases rx;rfl)
  | (obtain⟨t,rfl⟩:=rx;rfl)
theorem Zs (b:Expr)(h:op≠.In:=by decide)(h2:op≠.NotIn:=by decide):behindInMarks op b=false:=by
 have e1:(op==CmpOp.In)=false:=by cases op<;>first|rfl|exact absurd rfl h
 have e2:(op==CmpOp.NotIn)=false:=by cases op<;>first|rfl|exact absurd rfl h2
 cases b<;>simp[behindInMarks,e1,e2]
theorem zc6 {op:CmpOp}{r:R2}(ho:OpR X (compareOp op) r)(ha:PE X a ta)(hb:PE X b tb)(hm:behindInMarks op b=false):PE X (.Compare a [op] [b] pos) (tOp r ta tb):=by
 intro pins s σ H Q I h;exact wpAny_Compare1 (binT ha hb I h λv u s2 x y H2 I2 rx ry q=>ho pins s2 σ H2 x y v u Q I2 rx ry q) hm
def J5 (t:TE):TT:=λσ H Q=>t σ H λx H'=>∃k,x=.bl k/\Q k H'
theorem zce {op:CmpOp}{r:R2}(ho:OpR X (compareOp op) r)(ha:PE X a ta)(hb:PE X b tb)(hm:behindInMarks op b=false):PT X (.Compare a [op] [b] pos) (J5 (tOp r ta tb)):=by
 intro pins s σ H Q I h;refine wpAny_isTrue_Compare1 (thn (ha pins s σ H _ I h) λv s1 ⟨x,H1,I1,r1,q1⟩=>thn (hb pins s1 σ H1 _ I1 q1) λu s2 ⟨y,H2,I2,r2,q2⟩=>
  thn (ho pins s2 σ H2 x y v u _ I2 r1 r2 q2) λc s3 ⟨z,H3,I3,r3,k,e,q3⟩=>?_) hm
 subst e;cases r3;exact wpAny_truthy_bool ⟨H3,I3,q3⟩
def M6 (r r':R2)(ta tb tc:TE):TE:=λσ H Q=>ta σ H λx H1=>tb σ H1 λy H2=>r x y H2 λz H3=>∃k,z=.bl k/\
 (if k=true then tc σ H3 λw' H4=>r' y w' H4 Q else Q (.bl false) H3)
theorem A7 {op op':CmpOp}{r r':R2}(ho:OpR X (compareOp op) r)(ho':OpR X (compareOp op') r')(ha:PE X a ta)(hb:PE X b tb)(hc:PE X c tc)
  (hm:lastMarks [op,op'] [b,c]=false:=by with_unfolding_all rfl):PE X (.Compare a [op,op'] [b,c] pos) (M6 r r' ta tb tc):=by
 intro pins s σ H Q I h;refine Compare_chain (thn (ha pins s σ H _ I h) λv s1 ⟨x,H1,I1,r1,q1⟩=>chain_link (thn (hb pins s1 σ H1 _ I1 q1) λu s2 ⟨y,H2,I2,r2,q2⟩=>
  thn (ho pins s2 σ H2 x y v u _ I2 r1 r2 q2) λd s3 ⟨z,H3,I3,r3,k,e,q3⟩=>?_)) hm
 subst e;cases r3;refine wpAny_truthy_bool ?_;cases k with
 | false=>exact ite_ff ⟨.bl false,H3,I3,rfl,q3⟩
 | true=>exact ite_tt (chain_last (thn (hc pins s3 σ H3 _ I3 q3) λw' s4 ⟨z',H4,I4,r4,q4⟩=>ho' pins s4 σ H4 y z' u w' Q I4 r2 r4 q4))
theorem zfc {op op':CmpOp}{r r':R2}(ho:OpR X (compareOp op) r)(ho':OpR X (compareOp op') r')(ha:PE X a ta)(hb:PE X b tb)(hc:PE X c tc)
  (hm:lastMarks [op,op'] [b,c]=false:=by with_unfolding_all rfl):PT X (.Compare a [op,op'] [b,c] pos) (J5 (M6 r r' ta tb tc)):=by
 intro pins s σ H Q I h;refine isTrue_chain (thn (ha pins s σ H _ I h) λv s1 ⟨x,H1,I1,r1,q1⟩=>test_link (thn (hb pins s1 σ H1 _ I1 q1) λu s2 ⟨y,H2,I2,r2,q2⟩=>
  thn (ho pins s2 σ H2 x y v u _ I2 r1 r2 q2) λd s3 ⟨z,H3,I3,r3,k,e,q3⟩=>?_)) hm
 subst e;cases r3;refine wpAny_truthy_bool ?_;cases k with
 | false=>
  obtain⟨k',e',q'⟩:=q3;cases e';exact ite_ff ⟨H3,I3,q'⟩
 | true=>
  refine ite_tt (test_last (thn (hc pins s3 σ H3 _ I3 q3) λw' s4 ⟨z',H4,I4,r4,q4⟩=>thn (ho' pins s4 σ H4 y z' u w' _ I4 r2 r4 q4) λd' s5 ⟨z2,H5,I5,r5,k2,e2,q5⟩=>?_));subst e2;cases r5;exact wpAny_truthy_bool ⟨H5,I5,q5⟩
theorem SY:(sizeLine:Nat)<2^63:=by rw[sizeLine_eq];decide
theorem XC (r:Zv [x] us):∃u,us=[u]/\Zw x u:=by
 cases r with
 | cons r1 r2=>cases r2;exact⟨_,rfl,r1⟩
theorem Fo (r:Zv [x,y] us):∃u w',us=[u,w']/\Zw x u/\Zw y w':=by
 cases r with
 | cons r1 r2=>
  cases r2 with
  | cons r3 r4=>cases r4;exact⟨_,_,rfl,r1,r3⟩
theorem zhM:Yl X (.builtin "abs") (λxs H Q=>∃i,xs=[.int i]/\Q (.int (if i<0 then -i else i)) H):=by
 intro pins s σ H xs us Q I r h;obtain⟨i,rfl,q⟩:=h;obtain⟨u,rfl,t,rfl⟩:=XC r;exact call_abs_int λu tk=>⟨.int (if i<0 then -i else i),H,I.tok _,⟨_,rfl⟩,q⟩
theorem zbp (hc:X.calm=true):Yl X (.builtin "max") (λxs H Q=>∃i j,xs=[.int i,.int j]/\Q (.int (if j > i then j else i)) H):=by
 intro pins s σ H xs us Q I r h;obtain⟨i,j,rfl,q⟩:=h;obtain⟨u,w',rfl,⟨t,rfl⟩,⟨t',rfl⟩⟩:=Fo r;refine max_two_ints (I.ok.hd hc) λh' tk k=>⟨_,H,I.kept k,?_,q⟩
 by_cases hj:j > i
 .rw[if_pos hj,if_pos hj];exact⟨_,rfl⟩
 .rw[if_neg hj,if_neg hj];exact⟨_,rfl⟩
theorem AD (hc:X.calm=true):Yl X (.builtin "min") (λxs H Q=>∃i j,xs=[.int i,.int j]/\Q (.int (if j<i then j else i)) H):=by
 intro pins s σ H xs us Q I r h;obtain⟨i,j,rfl,q⟩:=h;obtain⟨u,w',rfl,⟨t,rfl⟩,⟨t',rfl⟩⟩:=Fo r;refine min_two_ints (I.ok.hd hc) λh' tk k=>⟨_,H,I.kept k,?_,q⟩
 by_cases hj:j<i
 .rw[if_pos hj,if_pos hj];exact⟨_,rfl⟩
 .rw[if_neg hj,if_neg hj];exact⟨_,rfl⟩
structure VQ (h:Heap)(x dx C:Addr)(mA:Str->Option Value):Prop where
 obj:h.get? x=some (W.instObj C dx)
 ns:h.Ns1 dx mA
 ne:dx≠x
theorem zaw {h:Heap}{dx:Addr}{mA:Str->Option Value}(n:h.Ns1 dx mA):∃od,h.get? dx=some od/\∀name,W.lookIn name od=some (mA name):=by
 obtain⟨o,es,ep,ho,hd,hk,_,hm⟩:=n;refine⟨o,ho,λname=>?_⟩;have e:=hm name;unfold nsFind findBy at e;rw[<- Array.find?_toList] at e;unfold W.lookIn;rw[hd];dsimp only;split
 .rename_i y q;rw[q] at e;exact congrArg some e
 .rename_i q;rw[q] at e;have a:es.toList.any (·.refKey)=false:=by
   rw[List.any_eq_false];intro y hy;obtain⟨z,t,hkey⟩:=hk y (Array.mem_toList_iff.mp hy);simp[DictEntry.refKey,hkey]
  have a':¬ es.toList.any (·.refKey)=true:=by rw[a];exact zN
  rw[if_neg a'];exact congrArg some e
theorem VQ.look (I:VQ h x dx C mA):∃od,W.InstAt h x (W.instObj C dx) C (some od)/\∀name,W.lookIn name od=some (mA name):=
 let ⟨od,ho,hl⟩:=zaw I.ns
 ⟨od,⟨I.obj,rfl,rfl,ho⟩,hl⟩
section
variable {prog:Program}{w:World}{A:Around}{E:Value->Shared->Prop}{s:Shared}{K:Fg}{x dx C f:Addr}{mA:Str->Option Value}{name:Str}{v:Value}
theorem zeT (X:K.In s.heap)(I:VQ s.heap x dx C mA)(hg:W.plainGet K C name=true)(hh:W.hasDictIn K C=true)(ha:W.findIn K (.ref C) name=some none)(hv:mA name=some v)(hv':W.handedIn v=true)(h:Q v { s with toks:=s.toks+1 }):
  wpAny (model prog w) A (getAttr (.ref x) name expr) Q E s:=by
 obtain⟨od,J,hl⟩:=I.look;exact W.get_value X J (W.plainGet_of hg).1 (W.findObj_own hh ha rfl (by rw[hl,hv])) hv' h
theorem zcG (X:K.In s.heap)(I:VQ s.heap x dx C mA)(hg:W.plainGet K C name=true)(hf:W.findIn K (.ref C) name=some (some (.ref f)))(ht:W.isFn K (.ref f)=true)(hv:mA name=none)(h:Q (.ref f,[.ref x]) s):
  wpAny (model prog w) A (getMethod (.ref x) name pl) Q E s:=by
 obtain⟨od,J,hl⟩:=I.look;exact W.method_fn X J (W.plainGet_of hg).1 (W.plainGet_of hg).2 hf (beq_iff_eq.mp ht) (by show (W.lookIn name od).map (·.isSome)=some false;rw[hl,hv];rfl) h
theorem zf2 (X:K.In s.heap)(I:VQ s.heap x dx C mA)(hs:W.findIn K (.ref C) "__setattr__"=some (some (.builtin "object.__setattr__")))(hp:W.plainOver K C=true)(ht:W.takerIn K C name=some none)(hh:W.hasDictIn K C=true)(hw:PySem.Within mA ns)(hsz:ns.length<=sizeLine)(h:∀h',VQ h' x dx C (λy=>if y=name then some v else mA y)->Heap.SameBut dx s.heap h'->Q Unit.unit { s with heap:=h',toks:=s.toks+2 }):
  wpAny (model prog w) A (setAttr (.ref x) name v) Q E s:=by
 obtain⟨od,J,hl⟩:=I.look;refine W.set_plain X J hs (W.osa_open (s:={ s with toks:=s.toks+1 }) (r:=none) X J hp ht λb=>?_);obtain⟨cd,hc,hd'⟩:=W.any_some hh;have hx:s.heap.get? x=some ⟨.ref C,some dx,.plain,#[]⟩:=I.obj;refine wpAny_bind (wpAny_pure (wpAny_bind (wpAny_bind (wpAny_loadPart hx (wpAny_bind (W.Looks.here (s:={ s with toks:=s.toks+1 }) (W.looks_clsIn X hc) ?_))))));rw[hd'];refine wpAny_pure (a:=some dx) (wpAny_bind (wpAny_pure (wpAny_bind ?_)));refine wpAny_nsSet1 (s:={ s with toks:=s.toks+1 }) I.ns λh' hn2 hs2=>?_
 obtain⟨oD,esD,epD,hoD,hdD,hcD⟩:=hn2.count (PySem.Within.cons name v hw);refine wpAny_bind (wpAny_lookBehind hoD (by rw[hdD];exact pastItsLine_dict (yK hcD (by rw[zX];omega))) ?_);exact wpAny_pure (h _ ⟨(hs2.2 _ (Ne.symm I.ne)).trans I.obj,hn2,I.ne⟩ hs2)
theorem zdd (X:K.In s.heap)(hm:W.makesIn K C=true)(hi:W.findIn K (.ref C) "__init__"=some (some (.ref f)))(hf:W.typeIn K (.ref f)=some (.type "function"))(h:codeAny (model prog w) (A.under (.builtin "type.__call__" ⟨.ref C::vs,kw⟩)) (.call (.ref f) ⟨.ref (s.heap.objs.size+1)::vs,kw⟩) (W.InitBack (s.heap.objs.size+1) R)
   { s with heap:=(s.heap.push W.emptyDict).push (W.instObj C s.heap.objs.size) }):
  codeAny (model prog w) A (.call (.ref C) ⟨vs,kw⟩) R s:=by
 obtain⟨hh,g,d,t,os⟩:=s;exact W.make_core (W.makes_of X hm) (W.looks_findIn X hi) (λself=>W.bind_fn X self hf) (.inl rfl) h
end
def YF (f:Str)(v:V):List (Str×V)->List (Str×V)
 | []=>[(f,v)]
 | (g,x)::r=>if g=f then (g,v)::r else (g,x)::YF f v r
theorem DM (f g:Str)(v:V):∀fs:List (Str×V),(YF f v fs).lookup g=if g=f then some v else fs.lookup g
 | []=>by
  show List.lookup g [(f,v)]=_;by_cases h:g=f
  .have hb:(g==f)=true:=beq_iff_eq.mpr h;simp only[List.lookup,hb,if_pos h]
  .have hb:(g==f)=false:=beq_eq_false_iff_ne.mpr h;simp only[List.lookup,hb,if_neg h]
 | (k,x)::r=>by
  have ih:=DM f g v r;rw[show YF f v ((k,x)::r)=(if k=f then (k,v)::r else (k,x)::YF f v r) from rfl];by_cases hk:k=f
  .rw[if_pos hk];by_cases h:g=k
   .have hb:(g==k)=true:=beq_iff_eq.mpr h;simp only[List.lookup,hb,if_pos (h.trans hk)]
   .have hb:(g==k)=false:=beq_eq_false_iff_ne.mpr h;simp only[List.lookup,hb,if_neg (λe:g=f=>h (e.trans hk.symm))]
  .rw[if_neg hk];by_cases h:g=k
   .have hb:(g==k)=true:=beq_iff_eq.mpr h;simp only[List.lookup,hb,if_neg (λe:g=f=>hk (h.symm.trans e))]
   .have hb:(g==k)=false:=beq_eq_false_iff_ne.mpr h;simp only[List.lookup,hb];exact ih
theorem Kc (f:Str)(v:V):∀fs:List (Str×V),f∈(YF f v fs).map (·.1)/\∀g,g∈fs.map (·.1)->g∈(YF f v fs).map (·.1)
 | []=>⟨by simp[YF],λg h=>by simp at h⟩
 | (k,x)::r=>by
  obtain⟨i1,i2⟩:=Kc f v r;rw[show YF f v ((k,x)::r)=(if k=f then (k,v)::r else (k,x)::YF f v r) from rfl];by_cases hk:k=f
  .rw[if_pos hk];subst hk;exact⟨by simp,λg h=>by simpa using h⟩
  .rw[if_neg hk];refine⟨?_,λg h=>?_⟩
   .rw[yM];exact yB _ i1
   .rw[yM] at h ⊢;rcases zS.mp h with e|e
    .exact zS.mpr (.inl e)
    .exact yB _ (i2 g e)
theorem Hd (f:Str)(v:V):∀fs:List (Str×V),(YF f v fs).length<=fs.length+1
 | []=>by simp[YF]
 | (k,x)::r=>by
  have ih:=Hd f v r;rw[show YF f v ((k,x)::r)=(if k=f then (k,v)::r else (k,x)::YF f v r) from rfl];by_cases hk:k=f
  .rw[if_pos hk,zX,zX];omega
  .rw[if_neg hk,zX,zX];omega
theorem X2.some_of (r:X2 (some v) o):∃u,o=some u/\Zw v u:=by
 cases o with
 | none=>exact(show False from r).elim
 | some u=>exact⟨u,rfl,r⟩
theorem X2.none_of (r:X2 none o):o=none:=by
 cases o with
 | none=>rfl
 | some u=>exact(show False from r).elim
theorem zcf (r:Zw v u):W.handedIn u=true:=by
 cases v with
 | non=>cases (show u=Value.none from r);rfl
 | bl b=>cases (show u=Value.bool b from r);rfl
 | int i=>obtain⟨t,e⟩:=(show ∃t,u=Value.int i t from r);cases e;rfl
 | str x=>obtain⟨t,e⟩:=(show ∃t,u=Value.str x t from r);cases e;rfl
 | byt b=>obtain⟨t,e⟩:=(show ∃t,u=Value.bytes b t from r);cases e;rfl
 | flt b=>obtain⟨t,e⟩:=(show ∃t,u=Value.float b t from r);cases e;rfl
 | ref a=>cases (show u=Value.ref a from r);rfl
 | ty n=>cases (show u=Value.type n from r);rfl
theorem KU (hok:HOk P w H h)(e:H a=some (.ins C dx fs)):∃mA,VQ h a dx C mA/\(∀f,X2 (fs.lookup f) (mA f))/\PySem.Within mA (fs.map (·.1))/\fs.length<=1000/\H dx=some (.own a):=by
 obtain⟨d,z,ne,ob,mA,n,r,q⟩:=(show Xg P w H h a (.ins C dx fs) from hok a _ e);exact⟨mA,⟨ob,n,ne⟩,r,q,z,d⟩
structure Cls (K:Fg)(C:Addr):Prop where
 pg:W.plainGet K C Str.empty=true
 hd:W.hasDictIn K C=true
 po:W.plainOver K C=true
 sa:W.findIn K (.ref C) "__setattr__"=some (some (.builtin "object.__setattr__"))
theorem Cls.get {K:Fg}{C:Addr}(c:Cls K C)(f:Str):W.plainGet K C f=true:=c.pg
def Ym (K:Fg)(C:Addr)(f:Str):Prop:=W.findIn K (.ref C) f=some none
theorem Ym.taker {K:Fg}{C:Addr}{f:Str}(n:Ym K C f):W.takerIn K C f=some none:=by
 unfold W.takerIn;rw[show W.findIn K (.ref C) f=some none from n];rfl
structure Con (K:Fg)(C:Addr)(f:Str)(v:V)(u:Value):Prop where
 at_:W.findIn K (.ref C) f=some (some u)
 aZ:Zw v u
 get:W.specialIn K u "__get__"=some none
 cp:W.copiedNames.contains f=false
structure Vl (K:Fg)(C:Addr)(m:Str)(f:Addr):Prop where
 at_:W.findIn K (.ref C) m=some (some (.ref f))
 fn:W.isFn K (.ref f)=true
 kp:W.keepIn K (.ref f)=true
theorem zeN (I:Inv X pins σ H s)(e:H a=some (.ins C dx fs))(c:Cls X.K C)(n:Ym X.K C f)(l:fs.lookup f=some v)(h:∀u s',Inv X pins σ H s'->Zw v u->Q u s'):wpAny (mX X) A (getAttr (.ref a) f b) Q E s:=by
 obtain⟨mA,O,r,_,_,_⟩:=KU I.hok e;obtain⟨u,hu,ru⟩:=X2.some_of (v:=v) (o:=mA f) (by rw[<- l];exact r f);exact zeT I.kIn O (c.get f) c.hd n hu (zcf ru) (h u _ (I.tok _) ru)
theorem Kz (I:Inv X pins σ H s)(e:H a=some (.ins C dx fs))(c:Cls X.K C)(k:Vl X.K C m g)(l:fs.lookup m=none)(h:Q (.ref g,[.ref a]) s):wpAny (mX X) A (getMethod (.ref a) m pl) Q E s:=by
 obtain⟨mA,O,r,_,_,_⟩:=KU I.hok e;have hn:mA m=none:=X2.none_of (by rw[<- l];exact r m);exact zcG I.kIn O (c.get m) k.at_ k.fn hn h
theorem zdL (I:Inv X pins σ H s)(e:H a=some (.ins C dx fs))(c:Cls X.K C)(n:Ym X.K C f)(hl:fs.length<1000)(ry:Zw y u)(h:∀s',Inv X pins σ (upd H a (.ins C dx (YF f y fs))) s'->Q Unit.unit s'):wpAny (mX X) A (setAttr (.ref a) f u) Q E s:=by
 obtain⟨mA,O,r,wi,_,ho⟩:=KU I.hok e;have hz:(fs.map (·.1)).length<=sizeLine:=by rw[zD,sizeLine_eq];omega
 refine zf2 I.kIn O c.sa c.po n.taker c.hd wi hz λh' O' sb=>h _ ?_
 have hd:∃o,h'.get? dx=some o:=let ⟨o,_,_,e',_⟩:=O'.ns;⟨o,e'⟩
 refine I.write (x:=a) (e:=dx) (by rw[e];exact True.intro) (.inr ho) (λb q hb z=>(sb.2 b hb).trans z) hd ?_;refine⟨by rw[ZV O.ne];exact ho,?_,O.ne,O'.obj,_,O'.ns,λg=>?_,λg hg=>?_⟩
 .have:=Hd f y fs;omega
 .show X2 ((YF f y fs).lookup g) (if g=f then some u else mA g);rw[DM];by_cases q:g=f
  .rw[if_pos q,if_pos q];exact ry
  .rw[if_neg q,if_neg q];exact r g
 .by_cases q:g=f
  .rw[q];exact(Kc f y fs).1
  .refine(Kc f y fs).2 g (wi g λz=>hg ?_);show (if g=f then some u else mA g)=none;rw[if_neg q];exact z
theorem Inv.made (I:Inv X pins σ H s):Inv X pins σ (upd (upd H s.heap.objs.size (.own (s.heap.objs.size+1))) (s.heap.objs.size+1) (.ins C s.heap.objs.size []))
  { s with heap:=(s.heap.push W.emptyDict).push (W.instObj C s.heap.objs.size) }:=by
 have e1:(s.heap.push W.emptyDict).get? s.heap.objs.size=some W.emptyDict:=Heap.get?_push_size s.heap rfl
 have e2:((s.heap.push W.emptyDict).push (W.instObj C s.heap.objs.size)).get? (s.heap.objs.size+1)=some (W.instObj C s.heap.objs.size):=by
  have:=Heap.get?_push_size (s.heap.push W.emptyDict) (o:=W.instObj C s.heap.objs.size) rfl
  rwa [Heap.size_push] at this
 have e3:(s.heap.push W.emptyDict).Ns s.heap.objs.size (λ_=>none):=⟨W.emptyDict,#[],_,e1,rfl,(λe he=>absurd he (by simp)),λ_=>rfl⟩
 have I1:=I.laid (a:=s.heap.objs.size) (o:=.own (s.heap.objs.size+1)) (h':=s.heap.push W.emptyDict) (t':=s.toks) (λb u q=>Heap.get?_push_of_some _ q) (zA _) ⟨_,e1⟩;refine I1.laid (a:=s.heap.objs.size+1) (o:=.ins C s.heap.objs.size []) (t':=s.toks) (λb u q=>Heap.get?_push_of_some _ q) (Nat.le_of_eq (Heap.size_push _ _)) ?_;have ne:s.heap.objs.size≠s.heap.objs.size+1:=zR (vA _);refine⟨by rw[ZV ne,YN],zZ _,ne,e2,λ_=>none,(Heap.Ns1.of_empty e3).at λo q=>Heap.get?_push_of_some _ q,λ_=>True.intro,λy hy=>absurd rfl hy⟩
theorem zee (hb:attributeBase e f env (eval e env)=eval e env)(h:wpAny (model prog w) A (eval e env) (λo s₁=>wpAny (model prog w) A (getAttr o f true) Q E s₁) E s):wpAny (model prog w) A (eval (.Attribute e f pos) env) Q E s:=
 Attribute_any_ h (by rw[arm_eval_Attribute,hb])
def tFld (K:Fg)(ta:TE)(f:Str):TE:=λσ H Q=>ta σ H λx H1=>∃a C dx fs v,x=.ref a/\H1 a=some (.ins C dx fs)/\Cls K C/\Ym K C f/\fs.lookup f=some v/\Q v H1
def sFld (K:Fg)(ta tv:TE)(f:Str):TS:=λD σ H=>tv σ H λy H1=>ta σ H1 λx H2=>∃a C dx fs,x=.ref a/\H2 a=some (.ins C dx fs)/\Cls K C/\Ym K C f/\fs.length<1000/\
 D.nx σ (upd H2 a (.ins C dx (YF f y fs)))
theorem ze0 (he:PE X e ta)(hb:attributeBase e f X.env (eval e X.env)=eval e X.env):PE X (.Attribute e f pos) (tFld X.K ta f):=by
 intro pins s σ H Q I h;refine zee hb (thn (he pins s σ H _ I h) λu s1 ⟨x,H1,I1,rx,a,C,dx,fs,v,ex,ea,c,n,l,q⟩=>?_);subst ex;obtain rfl:u=Value.ref a:=rx;exact zeN I1 ea c n l λu' s2 I2 ru=>⟨v,H1,I2,ru,q⟩
theorem zck (ha:PE X o ta)(hv:PE X value tv)(hs:swapsWith value (some (.Attribute o f pos')) pos.line X.env=pure false):PS X (.Assign [.Attribute o f pos'] value pos) (sFld X.K ta tv f):=by
 intro pins s σ H D I h;refine plainObj_wpAny_Assign_Attribute (thn (hv pins s σ H _ I h) λu s1 ⟨y,H1,I1,ry,q⟩=>thn (ha pins s1 σ H1 _ I1 q) λov s2 ⟨x,H2,I2,rx,a,C,dx,fs,ex,ea,c,n,l,q2⟩=>?_) hs;subst ex;obtain rfl:ov=Value.ref a:=rx;exact zdL I2 ea c n l ry λs3 I3=>⟨σ,_,I3,q2⟩
inductive XF (K:Fg)(H:Hp):V->Value->Prop where
 | non:XF K H .non (.type "NoneType")
 | bl (x:Bool):XF K H (.bl x) (.type "bool")
 | int (i:Int):XF K H (.int i) (.type "int")
 | str (x:Str):XF K H (.str x) (.type "str")
 | flt (x:UInt64):XF K H (.flt x) (.type "float")
 | lst {a:Addr} {xs:List V} (e:H a=some (.lst xs)):XF K H (.ref a) (.type "list")
 | frz {a:Addr} {o:Obj} {xs:List V} (e:H a=some (.frz o (.lst xs))):XF K H (.ref a) (.type "list")
 | tup {a:Addr} {xs:List V} (e:H a=some (.tup xs)):XF K H (.ref a) (.type "tuple")
 | dK {a:Addr} {aV:List (Key×V)} (e:H a=some (.dK aV)):XF K H (.ref a) (.type "dict")
 | dT {a:Addr} {aV:List (List Key×V)} (e:H a=some (.dT aV)):XF K H (.ref a) (.type "dict")
 | ins {a C dx:Addr} {fs:List (Str×V)} (e:H a=some (.ins C dx fs)) (cl:Cls K C) (ha:W.findIn K (.ref C) "__class__"=some (some (.builtin "object.__class__")))
   (hn:W.specialIn K (.builtin "object.__class__") "__get__"=some (some (.builtin "getset_descriptor.__get__"))) (htk:W.takesIn K (.builtin "object.__class__")=some true)
   (hm:W.mroIn K C (.type "object")=some true):XF K H (.ref a) (.ref C)
structure ZF (k:Nat)(A:Around):Prop where
 hd:A.handled=none
 dp:A.depth+3*k+5<recursionLimit
 un:A.units+16*k+200<cLine
theorem ZF.mono {j k:Nat}{A:Around}(r:ZF k A)(h:j<=k):ZF j A:=⟨r.hd,by have:=r.dp;omega,by have:=r.un;omega⟩
theorem ZF.deeper {k:Nat}{A:Around}(r:ZF (k+1) A)(env:Env):ZF k (A.deeper env):=
 ⟨r.hd,by have:=r.dp;show A.depth+1+3*k+5<_;omega,by have:=r.un;show A.units+3+16*k+200<_;omega⟩
theorem ZF.in1 {k:Nat}{A:Around}(r:ZF (k+1) A):ZF k A.in1:=
 ⟨r.hd,by have:=r.dp;show A.depth+3*k+5<_;omega,by have:=r.un;show A.units+1+16*k+200<_;omega⟩
theorem zhj {A:Around}{C:Addr}{us:List Value}{kw:List (Str×Value)}:(A.under (.builtin "type.__call__" ⟨.ref C::us,kw⟩)).depth=A.depth+1:=by
 first|rfl|simp[Around.under,Code.weight,Code.isCreation,Code.isGuard,Code.isCaller,Code.frames,Code.isFrame,guardIds]
theorem zdh {A:Around}{C:Addr}{us:List Value}{kw:List (Str×Value)}:(A.under (.builtin "type.__call__" ⟨.ref C::us,kw⟩)).units=A.units+1:=by
 first|rfl|simp[Around.under,Code.cUnits,Code.frames,Code.isFrame]
theorem ZF.make {k:Nat}{A:Around}(r:ZF (k+1) A)(C:Addr)(us:List Value)(kw:List (Str×Value)):ZF k (A.under (.builtin "type.__call__" ⟨.ref C::us,kw⟩)):=
 ⟨r.hd,by have:=r.dp;rw[zhj];omega,by have:=r.un;rw[zdh];omega⟩
theorem ZF.depth {k:Nat}{A:Around}(r:ZF k A):A.depth<recursionLimit:=by have:=r.dp;omega
theorem ZF.units (r:ZF k A):A.units+64<cLine:=by have:=r.un;omega
def tNil:TA:=λ_ H Q=>Q [] H
def tCons (ta:TE)(tr:TA):TA:=λσ H Q=>ta σ H λx H1=>tr σ H1 λxs H2=>Q (x::xs) H2
theorem JS:PA X [] tNil:=λ_ _ _ _ H Q I h=>Calls.spliced_nil ⟨[],H,I,.nil,h⟩
theorem JN (ha:PE X e te)(hr:PA X es t)(hs:starEach (e::es) X.env=(false,eval e X.env)::starEach es X.env:=by rfl):PA X (e::es) (tCons te t):=by
 intro pos pins s σ H Q I h;rw[hs];show wpAny _ _ (spliced ((false,eval e X.env)::backTo pos (starEach es X.env))) _ _ s;refine Calls.spliced_cons (thn (ha pins s σ H _ I h) λu s1 ⟨x,H1,I1,r1,q1⟩=>?_);exact thn (hr pos pins s1 σ H1 _ I1 q1) λus s2 ⟨xs,H2,I2,r2,q2⟩=>⟨x::xs,H2,I2,.cons r1 r2,q2⟩
def tTup (t:TA):TE:=λσ H Q=>t σ H λxs H1=>xs.length<=sizeLine/\∀p,H1 p=none->Q (.ref p) (upd H1 p (.tup xs))
def tLst (t:TA):TE:=λσ H Q=>t σ H λxs H1=>xs.length<=sizeLine/\∀p,H1 p=none->Q (.ref p) (upd H1 p (.lst xs))
theorem Aq {x1}(h:PA X es t):PE X (.Tuple es x1 pos) (tTup t):=by
 intro pins s σ H Q I hq;refine wpAny_Tuple_spliced (thn (h pos pins s σ H _ I hq) λus s1 ⟨xs,H1,I1,r,z,q⟩=>⟨by rw[<- r.length];exact z,?_⟩);have hf:H1 s1.heap.objs.size=none:=I1.hok.fresh (zA _);refine⟨.ref s1.heap.objs.size,upd H1 s1.heap.objs.size (.tup xs),I1.laid (t':=s1.toks) (λb u e=>Heap.get?_push_of_some _ e) (zA _) ?_,rfl,q _ hf⟩;exact⟨z,us,r,⟨_,Heap.get?_push_size _ rfl,rfl,_,rfl⟩⟩
theorem zd5 (h:PA X es t):PE X (.List es pos) (tLst t):=by
 intro pins s σ H Q I hq;refine wpAny_List_spliced (thn (h pos pins s σ H _ I hq) λus s1 ⟨xs,H1,I1,r,z,q⟩=>⟨by rw[<- r.length];exact z,?_⟩);have hf:H1 s1.heap.objs.size=none:=I1.hok.fresh (zA _);refine⟨.ref s1.heap.objs.size,upd H1 s1.heap.objs.size (.lst xs),I1.laid (t':=s1.toks) (λb u e=>Heap.get?_push_of_some _ e) (zA _) ?_,rfl,q _ hf⟩;exact⟨z,us,0,r,Heap.get?_push_size _ rfl⟩
abbrev Sp:=List V->Hp->VK->XK->Prop
abbrev CXT:=List Env->Hp->Shared->XK->Value->Shared->Prop
structure Va (P:Program)(w:World)(K:Fg)(mg:Str->Option Value)(base:Heap)(A:Around)(outer:List Env)(s:Shared)(H:Hp):Prop where
 frames:A.frames=some outer
 mod:Mod K mg base
 bs:∀b o,base.get? b=some o->s.heap.get? b=some o/\H b=none
 bsz:base.objs.size<=s.heap.objs.size
 funs:s.heap.FunFrames base outer
 frf:∀b∈frs outer,H b=none
 hok:HOk P w H s.heap
 bare:AllBare s.gens
def CE (outer:List Env)(P:Program)(w:World)(H:Hp)(s:Shared)(Q:VK)(u:Value)(s':Shared):Prop:=
 ∃v H',s'.os=s.os/\AllBare s'.gens/\Un (frs outer) [] H H' s.heap s'.heap/\HOk P w H' s'.heap/\Zw v u/\Q v H'
def CR (CX:CXT)(outer:List Env)(P:Program)(w:World)(H:Hp)(s:Shared)(Q:VK)(E:XK)(r:Result)(s':Shared):Prop:=
 match r with
 | .ok (.ret u)=>CE outer P w H s Q u s'
 | .ok _=>False
 | .error e=>CX outer H s E e s'
structure Yi (P:Program)(w:World)(K:Fg)(mg:Str->Option Value)(base:Heap)(CX:CXT)(k:Nat)(f:Addr)(fd:FuncData)(ps:List Str)(sp:Sp):Prop where
 len:∀vs H Q E,sp vs H Q E->vs.length=ps.length
 run:∀(A:Around)(outer:List Env)(s:Shared)(H:Hp)(args:Args)(us:List Value)(vs:List V)(Q:VK)(E:XK),ZF k A->Va P w K mg base A outer s H->BindsTo s fd args (ps.zip us)->Zv vs us->sp vs H Q E->
  codeAny (model P w) A (.call (.ref f) args) (CR CX outer P w H s Q E) s
theorem Yi.mono {P:Program}{w:World}{K:Fg}{mg:Str->Option Value}{base:Heap}{CX:CXT}{j k:Nat}{f:Addr}{fd:FuncData}{ps:List Str}{sp:Sp}(F:Yi P w K mg base CX j f fd ps sp)(h:j<=k):
  Yi P w K mg base CX k f fd ps sp:=⟨F.len,λA outer s H args us vs Q E hr=>F.run A outer s H args us vs Q E (hr.mono h)⟩
theorem Va.make {P:Program}{w:World}{K:Fg}{mg:Str->Option Value}{base:Heap}{A:Around}{outer:List Env}{s:Shared}{H:Hp}(e:Va P w K mg base A outer s H)(C:Addr)(us:List Value)(kw:List (Str×Value)):
  Va P w K mg base (A.under (.builtin "type.__call__" ⟨.ref C::us,kw⟩)) outer s H:=⟨by first|exact e.frames|(simpa [Around.under,Code.envs,Code.isFrame,pushEnvs] using e.frames),e.mod,e.bs,e.bsz,e.funs,e.frf,e.hok,e.bare⟩
theorem Inv.env0 (I:Inv X pins σ H s):Va X.prog X.w X.K X.mg X.base X.A X.stack s H:=
 ⟨I.ok.frames,I.ok.mod,I.bs,yK I.ok.bsz I.sz,I.stack,I.stkFree,I.hok,I.bare⟩
theorem Inv.after (I:Inv X pins σ H s)(h:CE X.stack X.prog X.w H s Q u s'):EP X pins σ Q u s':=by
 obtain⟨v,H',os,bare,un,hok,r,q⟩:=h;obtain⟨hh,g,d,t,os'⟩:=s';obtain rfl:os'=s.os:=os;exact⟨v,H',I.call (h':=hh) (g':=g) (d':=d) (t':=t) (ch:=[]) un hok bare (λb z=>absurd z (by simp)),r,q⟩
def tMake (C:Addr)(sp:Sp)(dvs:List V)(E:XK)(t:TA):TE:=λσ H Q=>t σ H λvs H1=>∀x dx,H1 x=none->H1 dx=none->dx≠x->
 sp (.ref x::(vs++dvs)) (upd (upd H1 dx (.own x)) x (.ins C dx [])) (λv H2=>v=.non/\Q (.ref x) H2) E
def YD (K:Fg)(fd:FuncData)(ps:List Str)(ds:List Value):Prop:=
 ∀(s:Shared)(us:List Value),K.In s.heap->(us++ds).length=ps.length->BindsTo s fd ⟨us,[]⟩ (ps.zip (us++ds))
theorem YD.all {K:Fg}{fd:FuncData}{ps:List Str}(h:∀us:List Value,us.length=ps.length->bindArgs fd ⟨us,[]⟩=pure (ps.zip us)):YD K fd ps []:=λs us _ hl=>by
 rw[xR] at hl ⊢;exact .of_eq (h us hl)
def O7 (CX:CXT)(X:Cx)(E:XK):Prop:=∀(pins:LA)(σ:St)(H:Hp)(s:Shared)(e:Value)(s':Shared),Inv X pins σ H s->CX X.stack H s E e s'->X.xe e s'
structure Mk (K:Fg)(C f:Addr):Prop where
 makes:W.makesIn K C=true
 init:W.findIn K (.ref C) "__init__"=some (some (.ref f))
 fn:W.isFn K (.ref f)=true
 kp:W.keepIn K (.ref C)=true
theorem zbS (M:Mk X.K C f)(F:Yi X.prog X.w X.K X.mg X.base CX k f fd ps sp)(hr:ZF (k+1) X.A)(hb:YD X.K fd ps ds)(hd:Zv dvs ds)(hx:O7 CX X E)(I:Inv X pins σ H s)(r:Zv vs us)(h:∀x dx,H x=none->H dx=none->dx≠x->sp (.ref x::(vs++dvs)) (upd (upd H dx (.own x)) x (.ins C dx [])) (λv H2=>v=.non/\Q (.ref x) H2) E):
  wpAny (mX X) X.A (call (.ref C) us) (EP X pins σ Q) X.xe s:=by
 have hq:=h (s.heap.objs.size+1) s.heap.objs.size (I.hok.fresh (wH _)) (I.hok.fresh (zA _)) (zR (vA _))
 have I2:=Inv.made (C:=C) I
 have r2:Zv (V.ref (s.heap.objs.size+1)::(vs++dvs)) (Value.ref (s.heap.objs.size+1)::(us++ds)):=.cons rfl (r.append hd)
 have hl:(Value.ref (s.heap.objs.size+1)::us++ds).length=ps.length:=by
  have e:=r2.length;rw[F.len _ _ _ _ hq] at e;exact e.symm
 refine wpAny_call (zdd (f:=f) I.kIn M.makes M.init (beq_iff_eq.mp M.fn) (codeAny_mono (F.run _ X.stack _ _ ⟨Value.ref (s.heap.objs.size+1)::us,[]⟩ (Value.ref (s.heap.objs.size+1)::(us++ds)) _ _ E (hr.make C us [])
  (I2.env0.make C us []) (hb _ (Value.ref (s.heap.objs.size+1)::us) I2.kIn hl) r2 hq) λr s' hq'=>?_))
 cases r with
 | error e=>exact hx pins σ _ _ e s' I2 hq'
 | ok fl=>
  cases fl with
  | ret u=>
   obtain⟨v,H',I3,rv,ev,q3⟩:=I2.after hq';subst ev;exact⟨rv,⟨V.ref (s.heap.objs.size+1),H',I3,rfl,q3⟩⟩
  | next=>exact False.elim hq'
  | brk=>exact False.elim hq'
  | cont=>exact False.elim hq'
theorem zfL (M:Mk X.K C f)(F:Yi X.prog X.w X.K X.mg X.base CX k f fd ps sp)(hr:ZF (k+1) X.A)(hg:Gl X x)(hm:X.mg x=some (.ref C))(hb:YD X.K fd ps ds)(hd:Zv dvs ds)(hx:O7 CX X E)
  (ha:PA X (e::es) t)(hdb:(x==("__debug__":Str))=false:=by decide)(he:He X e es:=by rfl)(hpl:Hp1 X pos es:=by rfl):
  PE X (.Call (.Name x p) (e::es) [] pos) (tMake C sp dvs E t):=by
 intro pins s σ H Q I h;refine wpAny_Call_Name_kw (Ho I hg hm ?_ hdb);refine W.callWith_K (h₀:=X.base) I.ok.mod.kin M.kp (thn (ha pos pins s σ H _ I h) λus s1 ⟨vs,H1,I1,r,q⟩=>⟨I1.kIn,?_⟩) he hpl;exact zbS M F hr hb hd hx I1 r q
section
structure KBinds (K:Fg)(fd:FuncData)(ps ks:List Str)(g:List Value->List Value->List Value)(gV:List V->List V->List V):Prop where
 to:∀(s:Shared)(us ws:List Value),K.In s.heap->(g us ws).length=ps.length->BindsTo s fd ⟨us,ks.zip ws⟩ (ps.zip (g us ws))
 aZ:∀ {vs:List V} {us:List Value} {zs:List V} {ws:List Value},Zv vs us->Zv zs ws->Zv (gV vs zs) (g us ws)
variable {g:List Value->List Value->List Value}{gV:List V->List V->List V}
end
structure Zl (N P:List Str)(sc:Scope):Prop where
 kind:sc.kind=.function
 co:sc.isCoroutine=false
 gen:sc.isGenerator=false
 nd:N.Nodup
 pre:N.take P.length=P
 par:∀x∈P,sc.names.lookup x=some .local\/sc.names.lookup x=some .cell
 nofree:∀y∈sc.names,y.2≠.free
theorem Gz {kindOf:Str->Option NameKind}{x:Str}:∀ {binds:List (Str×Value)} {m:Str->Option Value},(∀v,(x,v) ∉ binds)->bindL kindOf binds m x=m x
 | [],_,_=>rfl
 | (n,v)::r,m,h=>by
  unfold bindL;rw[Gz λw hw=>h w (yB _ hw)];split
  .have:x≠n:=by rintro rfl;exact h v yL
   simp[this]
  .rfl
theorem IT {kindOf:Str->Option NameKind}{x:Str}:∀ {binds:List (Str×Value)} {m:Str->Option Value},(∀v,(x,v) ∉ binds)->bindC kindOf binds m x=m x
 | [],_,_=>rfl
 | (n,v)::r,m,h=>by
  unfold bindC;rw[IT λw hw=>h w (yB _ hw)];split
  .rfl
  .have:x≠n:=by rintro rfl;exact h v yL
   simp[this]
theorem DV {kindOf:Str->Option NameKind}{x:Str}{v:Value}:∀ {P:List Str} {vs:List Value} {i:Nat} {m:Str->Option Value},P.Nodup->P[i]?=some x->vs[i]?=some v->kindOf x=some .local->
  bindL kindOf (P.zip vs) m x=some v
 | [],_,_,_,_,h,_,_=>by simp at h
 | _::_,[],_,_,_,_,h,_=>by simp at h
 | p::P,w::vs,0,m,nd,h1,h2,hk=>by
  simp at h1 h2;subst h1;subst h2
  show bindL kindOf ((p,w)::P.zip vs) m p=_;unfold bindL;rw[Gz λv hv=>(xS.mp nd).1 (vB hv).1,if_pos hk];simp
 | p::P,w::vs,i+1,m,nd,h1,h2,hk=>by
  show bindL kindOf ((p,w)::P.zip vs) m x=_;unfold bindL;exact DV (i:=i) (xS.mp nd).2 (by simpa using h1) (by simpa using h2) hk
theorem FU {kindOf:Str->Option NameKind}{x:Str}{v:Value}:∀ {P:List Str} {vs:List Value} {i:Nat} {m:Str->Option Value},P.Nodup->P[i]?=some x->vs[i]?=some v->kindOf x≠some .local->
  bindC kindOf (P.zip vs) m x=some v
 | [],_,_,_,_,h,_,_=>by simp at h
 | _::_,[],_,_,_,_,h,_=>by simp at h
 | p::P,w::vs,0,m,nd,h1,h2,hk=>by
  simp at h1 h2;subst h1;subst h2
  show bindC kindOf ((p,w)::P.zip vs) m p=_;unfold bindC;rw[IT λv hv=>(xS.mp nd).1 (vB hv).1,if_neg hk];simp
 | p::P,w::vs,i+1,m,nd,h1,h2,hk=>by
  show bindC kindOf ((p,w)::P.zip vs) m x=_;unfold bindC;exact FU (i:=i) (xS.mp nd).2 (by simpa using h1) (by simpa using h2) hk
def XT (N:List Str)(vs:List V):St:=vs.map some++List.replicate (N.length-vs.length) none
def XA (CX:CXT)(P:Program)(w:World)(K:Fg)(mg:Str->Option Value)(base:Heap)(N:List Str)(qual:Str)(scope:Scope)(f:Addr)(cd:Value)(A:Around)(outer:List Env)(s:Shared)(H:Hp)(E:XK):Cx where
 prog:=P
 w:=w
 K:=K
 mg:=mg
 base:=base
 A:=A.deeper (envOfC qual scope s.heap.objs.size f cd)
 N:=N
 s₀:=s
 H₀:=H
 env:=envOfC qual scope s.heap.objs.size f cd
 outer:=outer
 stack:=envOfC qual scope s.heap.objs.size f cd::outer
 ex:=[]
 calm:=true
 fn:=λ_=>true
 pn:=[]
 xe:=λe s'=>wpAny (model P w) (A.deeper (envOfC qual scope s.heap.objs.size f cd)) (leaving (envOfC qual scope s.heap.objs.size f cd) e) (λ_ s''=>CX outer H s E e s'') (λe' s''=>CX outer H s E e' s'') s'
theorem GV {sc:Scope}{n:Nat}{x:Str}(h:sc.names.lookup x=some .cell):∃c,(cellsFrom n sc.names []).lookup x=some c:=by
 have q:=W.cellsFrom_some sc.names n [] (.inl h);exact yY.mp q
theorem zcC {CX:CXT}{P:Program}{w:World}{K:Fg}{mg:Str->Option Value}{base:Heap}{N ps:List Str}{qual:Str}{scope:Scope}{f:Addr}{cd:Value}{A:Around}{outer:List Env}{s s1:Shared}{H:Hp}{E:XK}{us:List Value}{vs:List V}
  (S:Zl N ps scope)(hd:A.handled=none)(e0:Va P w K mg base A outer s H)(hl:vs.length=ps.length)(r:Zv vs us)
  (x:InCallC s s.heap.objs.size (bindL (envOfC qual scope s.heap.objs.size f cd).kindOf (ps.zip us) λ_=>none) (cellsFrom (s.heap.objs.size+1) scope.names []) (bindC (envOfC qual scope s.heap.objs.size f cd).kindOf (ps.zip us) λ_=>none) s1):
  Inv (XA CX P w K mg base N qual scope f cd A outer s H E) [] (XT N vs) H s1:=by
 have hpl:ps.length<=N.length:=by have:=congrArg List.length S.pre;rw[zO] at this;omega
 obtain⟨h1,tk,rfl,hk⟩:=x.done;have noA:∀b:Addr,b ∉ (XA CX P w K mg base N qual scope f cd A outer s H E).ex:=λb z=>absurd (show b∈([]:List Addr) from z) (by simp)
 refine⟨⟨e0.mod,S.kind,rfl,rfl,zA _,λy z c h1 h2=>?_,λy hy=>?_,λy c _ h=>?_,λ_=>hd,Around.frames_deeper e0.frames,.inr ⟨rfl,rfl⟩,λb z=>absurd z (noA b),e0.bs,e0.bsz,λb _ _=>noA b,λb z=>absurd z (noA b),e0.funs,e0.frf⟩,
  rfl,e0.bare,Un.kept hk,⟨_,x.toInCall.ns,λi y v h1 h2 h3=>?_⟩,λy c h=>⟨_,x.cell y c h⟩,e0.hok.fresh (zA _),λy c h=>?_,λp hp=>absurd (show p∈([]:LA) from hp) (by simp),e0.hok.kept hk,?_⟩
 .exact name_of_addr x.apart (PySem.mem_of_lookup h1) (PySem.mem_of_lookup h2)
 .have hy:scope.names.lookup y=some .cell\/scope.names.lookup y=some .free:=hy;rcases hy with hy|hy
  .exact GV hy
  .exact absurd rfl (S.nofree _ (PySem.mem_of_lookup hy))
 .exact xD (x.above y c (PySem.mem_of_lookup h))
 .have hi:i<vs.length:=by
   unfold XT at h2;by_cases hi:i<vs.length
   .exact hi
   .rw[yJ (by simpa using hi)] at h2;rw[vC] at h2;split at h2<;>cases h2
  have ha:vs[i]?=some v:=by
   unfold XT at h2;rw[zI (by simpa using hi),zG] at h2;cases e:vs[i]? with
   | none=>rw[e] at h2;cases h2
   | some a=>rw[e] at h2;cases h2;rfl
  obtain⟨u,hu,rv⟩:=r.get ha;have hp:ps[i]?=some y:=by
   rw[<- S.pre,vD (by omega)];exact h1
  have ndP:ps.Nodup:=by rw[<- S.pre];exact S.nd.sublist (List.take_sublist _ _)
  refine⟨u,rv,?_⟩;rcases S.par y (zF hp) with k|k
  .exact .inl ⟨k,DV ndP hp hu k⟩
  .obtain⟨c,e⟩:=GV (n:=s.heap.objs.size+1) k;refine .inr ⟨.inl k,c,e,?_⟩;have q:=x.cell y c e;rw[FU ndP hp hu (by show scope.names.lookup y≠_;rw[k];decide)] at q;exact q
 .exact e0.hok.fresh (xD (x.above y c (PySem.mem_of_lookup h)))
 .unfold XT;show _=N.length;rw[zT,zD,uT];omega
theorem IY {CX:CXT}{P:Program}{w:World}{K:Fg}{mg:Str->Option Value}{base:Heap}{k:Nat}{f:Addr}{name qual:Str}{params:Arguments}{body:List Stmt}{scope:Scope}{dV kV doc pm cdv ct oc:Value}{an od:Option Addr}
  {osl:Array (Option Value)}{N ps:List Str}{sp:Sp}(lk:K.lookup f=some ⟨oc,od,.func (W.fnOf name qual params body scope dV kV doc pm an cdv ct),osl⟩)(hcd:W.codeIn K cdv qual=true)(S:Zl N ps scope)
  (len:∀vs H Q E,sp vs H Q E->vs.length=ps.length)
  (hbody:∀(A:Around)(outer:List Env)(s:Shared)(H:Hp)(vs:List V)(Q:VK)(E:XK),ZF k (A.deeper (envOfC qual scope s.heap.objs.size f cdv))->sp vs H Q E->
   ∃t,PSs (XA CX P w K mg base N qual scope f cdv A outer s H E) body t/\t { nx:=λ_ H'=>Q .non H',rt:=Q } (XT N vs) H):
  Yi P w K mg base CX (k+1) f (W.fnOf name qual params body scope dV kV doc pm an cdv ct) ps sp:=by
 refine⟨len,λA outer s H args us vs Q E hr e0 hb r hsp=>?_⟩;have hl:=len _ _ _ _ hsp
 have KX:K.In s.heap:=e0.mod.kin.keeps λb o e=>(e0.bs b o e).1
 have lim:s.heap.NoLimit:=e0.mod.nolimit.keeps λb o e=>(e0.bs b o e).1
 have hkind:∀y∈ps.zip us,scope.names.lookup y.1=some .local\/(scope.names.lookup y.1=some .cell/\((cellsFrom (s.heap.objs.size+1) scope.names []).lookup y.1).isSome=true):=λ⟨n,v⟩ hy=>by
  rcases S.par n (vB hy).1 with q|q
  .exact .inl q
  .exact .inr ⟨q,W.cellsFrom_some _ _ _ (.inl q)⟩
 refine codeAny_call_function hr.depth (KX _ _ lk) rfl S.co S.gen rfl (W.codeRec_of KX hcd) (hb _ _ _ _ ?_);refine wpAny_newFunctionEnv_cells S.kind hkind λenv he s1 x=>?_
 subst he;refine⟨lim.keeps x.toInCall.keep,codeAny_func ?_⟩;obtain⟨t,ht,hq⟩:=hbody A outer s H vs Q E (hr.deeper _) hsp;have I:Inv (XA CX P w K mg base N qual scope f cdv A outer s H E) [] (XT N vs) H s1:=zcC S hr.hd e0 hl r x;refine wpAny_mono (ht [] s1 (XT N vs) H _ I hq) (λfl s' hs=>?_) λe s' hs=>hs
 have aY:∀ {σ':St} {H':Hp} {v:V} {u:Value},Inv (XA CX P w K mg base N qual scope f cdv A outer s H E) [] σ' H' s'->Zw v u->Q v H'->CE outer P w H s Q u s':=
  λ{σ' H' v u} J rv q=>⟨v,H',J.os,J.bare,J.base,J.hok,rv,q⟩
 cases fl with
 | ret u=>
  obtain⟨v,σ',H',J,rv,q⟩:=hs;exact aY J rv q
 | next=>
  obtain⟨σ',H',J,q⟩:=hs;exact aY (v:=V.non) (u:=Value.none) J rfl q
 | brk=>
  obtain⟨_,_,_,q⟩:=hs;exact False.elim q
 | cont=>
  obtain⟨_,_,_,q⟩:=hs;exact False.elim q
section
variable {X:Cx}{x:Str}{p pos:Pos}{e:Expr}{es:List Expr}{t:TA}{id T:String}{r:List V->Hp->VK->Prop}
def tCB (r:List V->Hp->VK->Prop)(t:TA):TE:=λσ H Q=>t σ H λvs H1=>r vs H1 Q
theorem zfH (hc:Yl X (.builtin id) r)(hg:Gl X x)(hm:X.mg x=none)(hv:bootBuiltins x=some (.builtin id))(ha:PA X (e::es) t)(hn:x≠"__name__":=by decide)(hdb:(x==("__debug__":Str))=false:=by decide)
  (he:He X e es:=by rfl)(hpl:Hp1 X pos es:=by rfl):PE X (.Call (.Name x p) (e::es) [] pos) (tCB r t):=by
 intro pins s σ H Q I h;refine wpAny_Call_Name_kw (Vg I hg hm hv ?_ hn hdb);exact PyProof.Rows.callWith_builtin1 (thn (ha pos pins s σ H _ I h) λus s1 ⟨vs,H1,I1,r1,q1⟩=>hc pins s1 σ H1 vs us Q I1 r1 q1) he hpl
theorem CQ (hc:Yl X (.type T) r)(hg:Gl X x)(hm:X.mg x=none)(hv:bootBuiltins x=some (.type T))(ha:PA X (e::es) t)(hn:x≠"__name__":=by decide)(hdb:(x==("__debug__":Str))=false:=by decide)
  (he:He X e es:=by rfl)(hpl:Hp1 X pos es:=by rfl):PE X (.Call (.Name x p) (e::es) [] pos) (tCB r t):=by
 intro pins s σ H Q I h;refine wpAny_Call_Name_kw (Vg I hg hm hv ?_ hn hdb);exact PyProof.Rows.callWith_type1 (thn (ha pos pins s σ H _ I h) λus s1 ⟨vs,H1,I1,r1,q1⟩=>hc pins s1 σ H1 vs us Q I1 r1 q1) he hpl
end
end L2
namespace HT
open PySem PyProof.Rows
section
open PySem.SeqAt
open PySem.AutoSeq1 (wpAny_loadPart')
open PySem.MeetsSeq PySem.MeetsSeq2 PySem.MeetsSeq3
end
def sIx (n d:Nat):Option Int->Nat
 | none=>d
 | some v=>if v<0 then (v+(n:Int)).toNat else min v.toNat n
theorem sIx_none (n d:Nat):sIx n d none=d:=rfl
theorem sIx_nat (n d k:Nat):sIx n d (some (k:Int))=min k n:=by
 show (if (k:Int)<0 then ((k:Int)+(n:Int)).toNat else min (k:Int).toNat n)=min k n;rw[if_neg (by omega),zJ]
end HT
namespace L2
open PySem PySem.Spec PyProof.Rows
abbrev TO:=St->Hp->(Option Int->Hp->Prop)->Prop
def PO (X:Cx)(e:Option Expr)(t:TO):Prop:=
 ∀(pins:LA)(s:Shared)(σ:St)(H:Hp)(Q:Option Int->Hp->Prop),Inv X pins σ H s->t σ H Q->
  wpAny (mX X) X.A (evalPart e X.env) (λu s'=>∃o H',Inv X pins σ H' s'/\IsPart u o/\Q o H') X.xe s
def zb9:TO:=λ_ H Q=>Q none H
def tPart (t:TE):TO:=λσ H Q=>t σ H λx H1=>∃i,x=.int i/\Q (some i) H1
theorem CN:∀ {us:List Value},Zv (ns.map V.int) us->IntsAre us ns:=by
 induction ns with
 | nil=>intro us r;rw[List.map_nil] at r;cases r;exact .nil
 | cons n ns ih=>
  intro us r;rw[yM] at r;cases r with
  | cons r1 r2=>
   obtain⟨t,e⟩:=r1;subst e;exact .cons n t (ih r2)
section
variable {X:Cx}{e:Expr}{te:TE}{lo hi:Option Expr}{tl th:TO}{pos p2:Pos}
theorem zer:PO X none zb9:=by
 intro pins s σ H Q I h;rw[evalPart_none];exact wpAny_pure ⟨none,H,I,.none,h⟩
theorem zho (h:PE X e te):PO X (some e) (tPart te):=by
 intro pins s σ H Q I hw;rw[evalPart_some];refine thn (h pins s σ H _ I hw) λu s1 ⟨x,H1,I1,r1,q1⟩=>?_
 obtain⟨i,rfl,q⟩:=q1;obtain⟨t,rfl⟩:=r1;exact⟨some i,H1,I1,.int i t,q⟩
def SlR (X:Cx)(r:V->Option Int->Option Int->Hp->VK->Prop):Prop:=
 ∀(pins:LA)(s:Shared)(σ:St)(H:Hp)(x:V)(v vl vu:Value)(lo hi:Option Int)(sl:Addr)(Q:VK),Inv X pins σ H s->Zw x v->s.heap.IsSliceOf sl vl vu .none->IsPart vl lo->IsPart vu hi->r x lo hi H Q->
  ∃T id,typeLookup (.type T) "__getitem__"=pure (some (.builtin id))/\s.TypeIs v T/\wpAny (mX X) X.A (getItem v (.ref sl)) (EP X pins σ Q) X.xe s
def tSl (r:V->Option Int->Option Int->Hp->VK->Prop)(te:TE)(tl th:TO):TE:=λσ H Q=>te σ H λx H1=>tl σ H1 λl H2=>th σ H2 λu H3=>r x l u H3 Q
theorem zgo {r:V->Option Int->Option Int->Hp->VK->Prop}(hr:SlR X r)(he:PE X e te)(hl:PO X lo tl)(hu:PO X hi th):PE X (.Subscript e (.Slice lo hi none p2) pos) (tSl r te tl th):=by
 intro pins s σ H Q I h;refine Subscript_ (thn (he pins s σ H _ I h) λv s1 ⟨x,H1,I1,r1,q1⟩=>?_);refine wpAny_Slice (thn (hl pins s1 σ H1 _ I1 q1) λvl s2 ⟨l,H2,I2,pl,q2⟩=>thn (hu pins s2 σ H2 _ I2 q2) λvu s3 ⟨u,H3,I3,pu,q3⟩=>?_);rw[evalPart_none];refine wpAny_pure ?_;have I4:Inv X pins σ H3 { s3 with heap:=s3.heap.push { cls:=.type "slice",data:=.fields #[vl,vu,.none] } }:=I3.kept (t':=s3.toks) λb ob q=>Heap.get?_push_of_some _ q
 obtain⟨T,id,hT,ht,hg⟩:=hr pins { s3 with heap:=s3.heap.push { cls:=.type "slice",data:=.fields #[vl,vu,.none] } } σ H3 x v vl vu l u s3.heap.objs.size Q I4 r1 (Heap.IsSliceOf.new ..) pl pu q3;show wpAny (mX X) X.A (subscriptTail e (.Slice lo hi none p2) v (.ref s3.heap.objs.size)) (EP X pins σ Q) X.xe { s3 with heap:=s3.heap.push { cls:=.type "slice",data:=.fields #[vl,vu,.none] } };exact tail_any (ops:=[.ref s3.heap.objs.size,v]) ht hT hg (by with_unfolding_all rfl)
def TR (xs:List V)(lo hi:Option Int):List V:=(xs.drop (HT.sIx xs.length 0 lo)).take (HT.sIx xs.length xs.length hi-HT.sIx xs.length 0 lo)
theorem zfv (xs:List V)(lo hi:Option Int):(TR xs lo hi).length<=xs.length:=by
 unfold TR;rw[zO,vE];omega
end
def ixN (n:Nat)(i:Int):Option Nat:=if 0<=i then (if i<n then some i.toNat else none) else if -(n:Int)<=i then some (i+n).toNat else none
def atI {α:Type}(xs:List α)(i:Int):Option α:=(ixN xs.length i).bind λj=>xs[j]?
theorem IK (h:ixN n i=some j):seqIndex? i n=some j/\j<n/\-(n:Int)<=i/\i<n:=by
 unfold ixN at h;by_cases h0:0<=i
 .rw[if_pos h0] at h;by_cases h1:i<n
  .rw[if_pos h1] at h;have e:i.toNat=j:=Option.some.inj h;exact⟨by rw[seqIndex_of h0 h1,e],by omega,by omega,h1⟩
  .rw[if_neg h1] at h;cases h
 .rw[if_neg h0] at h;by_cases h1:-(n:Int)<=i
  .rw[if_pos h1] at h;have e:(i+n).toNat=j:=Option.some.inj h;exact⟨by rw[seqIndex_neg (by omega) h1,e],by omega,h1,by omega⟩
  .rw[if_neg h1] at h;cases h
theorem J1 (h:atI xs i=some v):∃j,seqIndex? i xs.length=some j/\xs[j]?=some v/\j<xs.length/\-(xs.length:Int)<=i/\i<xs.length:=by
 unfold atI at h;cases e:ixN xs.length i with
 | none=>rw[e] at h;cases h
 | some j=>
  rw[e] at h;obtain⟨h1,h2,h3,h4⟩:=IK e;exact⟨j,h1,h,h2,h3,h4⟩
theorem Yx {α:Type}{xs:List α}{j:Nat}{v:α}(h:xs[j]?=some v):atI xs (j:Int)=some v:=by
 have hj:j<xs.length:=(zB.mp h).1
 have e:ixN xs.length (j:Int)=some j:=by
  unfold ixN;rw[if_pos (by omega),if_pos (by omega)];simp
 unfold atI;rw[e];exact h
def UP (b:Expr):Prop:=∀o i,subscripted b false o i=operate [o,i] (getItem o i)
def IxR (X:Cx)(r:R2):Prop:=
 ∀(value slice:Expr)(pins:LA)(s:Shared)(σ:St)(H:Hp)(x y:V)(v u:Value)(Q:VK),Inv X pins σ H s->Zw x v->Zw y u->r x y H Q->
  subscripted slice false v u=operate [v,u] (getItem v u)->wpAny (mX X) X.A (subscriptTail value slice v u) (EP X pins σ Q) X.xe s
def MtR (X:Cx)(id:String)(r:V->List V->Hp->VK->Prop):Prop:=
 ∀(pins:LA)(s:Shared)(σ:St)(H:Hp)(x:V)(xs:List V)(v:Value)(us:List Value)(Q:VK),Inv X pins σ H s->Zw x v->Zv xs us->r x xs H Q->
  wpAny (mX X) X.A (call (.builtin id) (v::us)) (EP X pins σ Q) X.xe s
section
variable {X:Cx}{a b:Expr}{ta tb:TE}{pos:Pos}
theorem pe_ix {r:R2}(hr:IxR X r)(ha:PE X a ta)(hb:PE X b tb)(hs:UP b):PE X (.Subscript a b pos) (tOp r ta tb):=by
 intro pins s σ H Q I h;exact Subscript_ (binT ha hb I h λv u s2 x y H2 I2 rx ry q=>hr a b pins s2 σ H2 x y v u Q I2 rx ry q (hs _ _))
def rIxL (K:Fg):R2:=λx y H Q=>∃p xs i v,x=.ref p/\y=.int i/\SqL K H p xs/\atI xs i=some v/\Q v H
def rIxT (K:Fg):R2:=λx y H Q=>∃p xs i v,x=.ref p/\y=.int i/\SqT K H p xs/\atI xs i=some v/\Q v H
theorem AW:IxR X (rIxL X.K):=by
 intro value slice pins s σ H x y v u Q I rx ry h hs;obtain⟨p,xs,i,z,rfl,rfl,hq,he,q⟩:=h;cases rx;obtain⟨t,rfl⟩:=ry;obtain⟨aX,r,pl,hz⟩:=I.list hq;obtain⟨j,h1,h2,h3,h4,h5⟩:=J1 he;obtain⟨w,ew,rw'⟩:=r.get h2;have hl:=r.length
 have hn:=SY
 have aY:EP X pins σ Q w s:=⟨z,H,I,rw',q⟩;by_cases h0:0<=i
 .have hj:i.toNat=j:=by
   rw[seqIndex_of h0 h5] at h1;exact Option.some.inj h1
  exact item_listR pl.isList h0 (by omega) (by rw[hj];simpa using ew) aY hs
 .have hj:(i+(aX.toArray.size:Int)).toNat=j:=by
   rw[seqIndex_neg (by omega) h4] at h1;rw[zU,<- hl];exact Option.some.inj h1
  exact subscriptTail_builtinR (x:=w) pl.isList.typeIs slot_list_getitem.lookup
   (wpAny_getItem_list_neg (Q:=λr s'=>r=w/\EP X pins σ Q r s') pl.isList (by omega) (by rw[zU]<;>omega) (by omega) (by rw[hj];simpa using ew) ⟨rfl,aY⟩) hs
theorem zbc:IxR X (rIxT X.K):=by
 intro value slice pins s σ H x y v u Q I rx ry h hs;obtain⟨p,xs,i,z,rfl,rfl,hq,he,q⟩:=h;cases rx;obtain⟨t,rfl⟩:=ry;obtain⟨aX,r,pl,hz⟩:=I.tuple hq;obtain⟨j,h1,h2,h3,h4,h5⟩:=J1 he;obtain⟨w,ew,rw'⟩:=r.get h2;have hl:=r.length
 have hn:=SY
 have aY:EP X pins σ Q w s:=⟨z,H,I,rw',q⟩;exact subscriptTail_builtinR (x:=w) pl.typeIs slot_tuple_getitem.lookup
  (getItem_tuple (j:=j) (Q:=λr s'=>r=w/\EP X pins σ Q r s') pl (by omega) (by omega) (by rw[zU,<- hl];exact h1) (by simpa using ew) ⟨rfl,aY⟩) hs
theorem Aa (aX:List Value)(n j:Nat)(u:Value):Obj.mapSeq (·.setIfInBounds j u) { cls:=.type "list",data:=.seq aX.toArray n }={ cls:=.type "list",data:=.seq (aX.set j u).toArray n }:=by
 simp[Obj.mapSeq]
theorem Inv.lst {pins:LA}{σ:St}{H:Hp}{s:Shared}{p:Addr}{xs:List V}(I:Inv X pins σ H s)(h:H p=some (.lst xs)):
  ∃(aX:List Value)(n:Nat),Zv xs aX/\s.heap.get? p=some { cls:=.type "list",data:=.seq aX.toArray n }/\xs.length<=sizeLine:=by
 obtain⟨z,aX,n,r,e⟩:=I.hok p _ h;exact⟨aX,n,r,e,z⟩
theorem Inv.lstUpd {pins:LA}{σ:St}{H:Hp}{s:Shared}{p:Addr}{xs ys:List V}{aX its':List Value}{n n':Nat}{f:Obj->Obj}(I:Inv X pins σ H s)(h:H p=some (.lst xs))
  (ho:s.heap.get? p=some { cls:=.type "list",data:=.seq aX.toArray n })(hf:f { cls:=.type "list",data:=.seq aX.toArray n }={ cls:=.type "list",data:=.seq its'.toArray n' })(r:Zv ys its')(hz:ys.length<=sizeLine)(t:Nat):
  Inv X pins σ (upd H p (.lst ys)) { s with heap:=s.heap.update p f,toks:=t }:=by
 have e:(s.heap.update p f).get? p=some { cls:=.type "list",data:=.seq its'.toArray n' }:=by
  rw[Heap.get?_update_self f ho (by rw[hf]<;>rfl),hf]
 refine I.write (x:=p) (e:=p) (by rw[h];trivial) (.inl rfl) (λb u hb q=>(Heap.get?_update_other _ _ (Ne.symm hb)).trans q) ⟨_,e⟩ ?_;exact⟨hz,its',n',r,e⟩
def rSetL:V->V->V->Hp->(Hp->Prop)->Prop:=λo i v H Q=>∃p xs k j,o=.ref p/\i=.int k/\H p=some (.lst xs)/\ixN xs.length k=some j/\Q (upd H p (.lst (xs.set j v)))
theorem AZ:PSet X rSetL:=by
 intro pins s σ H o i v ov iv u Q I ro ri rv h;obtain⟨p,xs,k,j,rfl,rfl,hp,hj,q⟩:=h;cases ro;obtain⟨t,rfl⟩:=ri;obtain⟨aX,n,r,ho,hz⟩:=I.lst hp;obtain⟨h1,h2,h3,h4⟩:=IK hj;have hl:=r.length
 have hn:=SY
 have I':Inv X pins σ (upd H p (.lst (xs.set j v))) { s with heap:=s.heap.update p (Obj.mapSeq (·.setIfInBounds j u)) }:=
  I.lstUpd hp ho (Aa aX n j u) (r.set rv j) (by rw[yP];exact hz) s.toks
 by_cases h0:0<=k
 .have hk:k.toNat=j:=by
   rw[seqIndex_of h0 h4] at h1;exact Option.some.inj h1
  exact W.ki_setAt ho h0 (by omega) (by rw[zU,<- hl];exact h4) (by rw[hk];exact⟨_,I',q⟩)
 .have hk:(k+(aX.toArray.size:Int)).toNat=j:=by
   rw[seqIndex_neg (by omega) h3] at h1;rw[zU,<- hl];exact Option.some.inj h1
  exact W.ki_setBack ho (by omega) (by rw[zU,<- hl];exact h3) (by omega) (by rw[hk];exact⟨_,I',q⟩)
theorem zgM (lo hi:Option Int)(n:Nat):(sliceBounds lo hi none n).1=((HT.sIx n 0 lo:Nat):Int)/\(sliceBounds lo hi none n).2.1=((HT.sIx n n hi:Nat):Int)/\(sliceBounds lo hi none n).2.2=1:=by
 refine⟨?_,?_,rfl⟩
 .cases lo with
  | none=>simp[sliceBounds,HT.sIx]
  | some i=>
   simp only[sliceBounds,HT.sIx,uU,show (1:Int) > 0 by decide,if_true];by_cases h:i<0
   .simp only[h,if_true]<;>omega
   .simp only[h,if_false]<;>omega
 .cases hi with
  | none=>simp[sliceBounds,HT.sIx]
  | some i=>
   simp only[sliceBounds,HT.sIx,uU,show (1:Int) > 0 by decide,if_true];by_cases h:i<0
   .simp only[h,if_true]<;>omega
   .simp only[h,if_false]<;>omega
theorem Ba (aX:List Value)(lo hi:Option Int):slicePick aX.toArray lo hi none=((aX.drop (HT.sIx aX.length 0 lo)).take (HT.sIx aX.length aX.length hi-HT.sIx aX.length 0 lo)).toArray:=by
 obtain⟨h1,h2,h3⟩:=zgM lo hi aX.toArray.size;unfold slicePick;rw[h1,h2,h3];simp only[sliceRange_one,pick_run,zU]<;>rfl
def rSlL (K:Fg):V->Option Int->Option Int->Hp->VK->Prop:=λx lo hi H Q=>∃a xs,x=.ref a/\SqL K H a xs/\∀p,H p=none->Q (.ref p) (upd H p (.lst (TR xs lo hi)))
theorem Cw:SlR X (rSlL X.K):=by
 intro pins s σ H x v vl vu lo hi sl Q I rx hs pl pu h;obtain⟨a,xs,rfl,hx,q⟩:=h;cases rx;obtain⟨aX,r,ht,hz⟩:=I.list hx;have aM:=r.length;refine⟨"list",_,slot_list_getitem.lookup,ht.isList.typeIs,?_⟩;refine wpAny_getItem_list_slice ht.isList hs pl pu .none (by simp) ?_ (by rw[zU]<;>omega);rw[Ba,<- aM];refine⟨.ref s.heap.objs.size,_,I.laid (t':=s.toks) (o:=.lst (TR xs lo hi)) (λb ob q=>Heap.get?_push_of_some _ q) (zA _) ?_,rfl,q _ (I.hok.fresh (zA _))⟩;exact⟨yK (zfv xs lo hi) hz,_,0,(r.drop (HT.sIx xs.length 0 lo)).take (HT.sIx xs.length xs.length hi-HT.sIx xs.length 0 lo),Heap.get?_push_size _ rfl⟩
def O1:V->Bool
 | .non=>true
 | .bl _=>true
 | .int _=>true
 | .str _=>true
 | _=>false
def eqV:V->V->Bool
 | .non,.non=>true
 | .bl a,.bl b=>a==b
 | .bl a,.int b=>(if a then 1 else 0)==b
 | .int a,.bl b=>a==(if b then 1 else 0)
 | .int a,.int b=>a==b
 | .str a,.str b=>a==b
 | _,_=>false
theorem Cy (ry:Zw y u)(rx:Zw x v)(fy:O1 y=true)(fx:O1 x=true):SeqAt.EqAt A s u v (eqV y x):=by
 cases y with
 | non=>
  cases ry;cases x with
  | non=>cases rx;exact SeqAt.EqAt.same _
  | bl b=>cases rx;exact SeqAt.EqAt.none_bool b
  | int b=>obtain⟨t,rfl⟩:=rx;exact SeqAt.EqAt.none_int b t
  | str b=>obtain⟨t,rfl⟩:=rx;exact SeqAt.EqAt.none_str b t
  | _=>exact absurd (show false=true from fx) zN
 | bl a=>
  cases ry;cases x with
  | non=>cases rx;exact SeqAt.EqAt.bool_none a
  | bl b=>cases rx;exact SeqAt.EqAt.bool_bool a b
  | int b=>obtain⟨t,rfl⟩:=rx;exact SeqAt.EqAt.bool_int a b t
  | str b=>obtain⟨t,rfl⟩:=rx;exact SeqAt.EqAt.bool_str a b t
  | _=>exact absurd (show false=true from fx) zN
 | int a=>
  obtain⟨t',rfl⟩:=ry;cases x with
  | non=>cases rx;exact SeqAt.EqAt.int_none a t'
  | bl b=>cases rx;exact SeqAt.EqAt.int_bool a t' b
  | int b=>obtain⟨t,rfl⟩:=rx;exact SeqAt.EqAt.int_int a t' b t
  | str b=>obtain⟨t,rfl⟩:=rx;exact SeqAt.EqAt.int_str a t' b t
  | _=>exact absurd (show false=true from fx) zN
 | str a=>
  obtain⟨t',rfl⟩:=ry;cases x with
  | non=>cases rx;exact SeqAt.EqAt.str_none a t'
  | bl b=>cases rx;exact SeqAt.EqAt.str_bool a t' b
  | int b=>obtain⟨t,rfl⟩:=rx;exact SeqAt.EqAt.str_int a t' b t
  | str b=>obtain⟨t,rfl⟩:=rx;exact SeqAt.EqAt.str_str a t' b t
  | _=>exact absurd (show false=true from fx) zN
 | _=>exact absurd (show false=true from fy) zN
theorem zeM:Yl X (.builtin "len") (λxs H Q=>∃p ys,xs=[.ref p]/\(SqL X.K H p ys\/SqT X.K H p ys)/\Q (.int ys.length) H):=by
 intro pins s σ H xs us Q I r h;obtain⟨p,ys,rfl,hq,q⟩:=h;obtain⟨u,rfl,rx⟩:=XC r;cases rx;have hn:=SY;rcases hq with hq|hq
 .obtain⟨aX,r',pl,hz⟩:=I.list hq;have aM:=r'.length;exact Calls.call_len_list pl.isList (by simp only[zU]<;>omega) ⟨.int ys.length,H,I.tok _,⟨s.toks+1,by rw[zU,aM]⟩,q⟩
 .obtain⟨aX,r',pl,hz⟩:=I.tuple hq;have aM:=r'.length;exact len_tuple pl (by simp only[zU]<;>omega) ⟨.int ys.length,H,I.tok _,⟨s.toks+1,by rw[zU,aM]⟩,q⟩
theorem zaZ:Yl X (.type "list") (λxs H Q=>∃p ys,xs=[.ref p]/\(SqL X.K H p ys\/SqT X.K H p ys)/\∀l,H l=none->Q (.ref l) (upd H l (.lst ys))):=by
 intro pins s σ H xs us Q I r h;obtain⟨p,ys,rfl,hq,q⟩:=h;obtain⟨u,rfl,rx⟩:=XC r;cases rx;have aY:∀(aX:List Value),Zv ys aX->ys.length<=sizeLine->∀(h':Heap)(c':Nat),(∀b o',s.heap.get? b=some o'->h'.get? b=some o')->
   h'.get? s.heap.objs.size=some { cls:=.type "list",dict:=none,data:=.seq aX.toArray c',slots:=#[] }->EP X pins σ Q (.ref s.heap.objs.size) { s with heap:=h' }:=λaX r' hz h' c' kp e=>
  ⟨.ref s.heap.objs.size,_,I.laid (t':=s.toks) kp (zA _) (show Xg X.prog X.w _ h' _ (.lst ys) from ⟨hz,aX,c',r',e⟩),rfl,q _ (I.hok.fresh (zA _))⟩
 rcases hq with hq|hq
 .obtain⟨aX,r',pl,hz⟩:=I.list hq;have aM:=r'.length;obtain⟨o,ho,hc,n,hd⟩:=pl.isList;exact call_list_seq p (.inl rfl) ho hc hd (λh' c' kp e=>aY aX r' hz h' c' kp e) (by simp only[zU]<;>omega)
 .obtain⟨aX,r',pl,hz⟩:=I.tuple hq;have aM:=r'.length;obtain⟨o,ho,hc,n,hd⟩:=pl;exact call_list_seq p (.inr rfl) ho hc hd (λh' c' kp e=>aY aX r' hz h' c' kp e) (by simp only[zU]<;>omega)
def tyV (K:Fg)(T:String)(x:V)(H:Hp):Prop:=match x with
 | .str _=>T="str"
 | .int _=>T="int"
 | .ref p=>(T="list"/\∃xs,SqL K H p xs)\/(T="tuple"/\∃o,K.lookup p=some o/\o.cls=.type "tuple"/\o.dict=none)\/
   (T="dict"/\((∃aV,H p=some (.dK aV))\/∃aV,H p=some (.dT aV)))\/(T="set"/\∃S n,H p=some (.set S n))
 | _=>False
theorem Ce (I:Inv X pins σ H s)(r:Zw x v)(ty:tyV X.K T x H):
  s.TypeIs v T/\∀a,v=.ref a->∃ob,s.heap.get? a=some ob/\ob.dict=none:=by
 cases x with
 | str z=>
  obtain⟨t,rfl⟩:=r;cases (show T="str" from ty);exact⟨typeIs_str s z t,λ_ e=>nomatch e⟩
 | int i=>
  obtain⟨t,rfl⟩:=r;cases (show T="int" from ty);exact⟨typeIs_int s i t,λ_ e=>nomatch e⟩
 | ref p=>
  cases r;rcases ty with ⟨rfl,xs,hq⟩|⟨rfl,o,hk,hc,hd⟩|⟨rfl,hk⟩|⟨rfl,S,n,hk⟩
  .obtain⟨aX,_,pl,_⟩:=I.list hq;refine⟨pl.isList.typeIs,λa e=>?_⟩;cases e;obtain⟨o,n,e,c,hd,_⟩:=pl;exact⟨o,e,hd⟩
  .refine⟨⟨o,I.kIn p o hk,hc⟩,λa e=>?_⟩;cases e;exact⟨o,I.kIn _ o hk,hd⟩
  .have z:∃o,s.heap.get? p=some o/\o.ExactDict:=by
    rcases hk with ⟨aV,hk⟩|⟨aV,hk⟩
    .obtain⟨_,_,_,_,o,_,_,e,ex,_⟩:=I.hok p _ hk;exact⟨o,e,ex⟩
    .obtain⟨_,_,_,_,o,_,_,e,ex,_⟩:=I.hok p _ hk;exact⟨o,e,ex⟩
   obtain⟨o,e,ex⟩:=z;refine⟨⟨o,e,ex.1⟩,λa e2=>?_⟩;cases e2;exact⟨o,e,ex.2.1⟩
  .obtain⟨o,_,_,_,e,ex,_⟩:=I.hok p _ hk;refine⟨⟨o,e,ex.1⟩,λa e2=>?_⟩;cases e2;exact⟨o,e,ex.2.1⟩
 | _=>exact False.elim ty
def tBM0 (K:Fg)(T:String)(r:V->List V->Hp->VK->Prop)(to:TE):TE:=λσ H Q=>to σ H λx H1=>tyV K T x H1/\r x [] H1 Q
def tBM (K:Fg)(T:String)(r:V->List V->Hp->VK->Prop)(to:TE)(t:TA):TE:=λσ H Q=>to σ H λx H1=>tyV K T x H1/\t σ H1 λxs H2=>r x xs H2 Q
variable {o e:Expr}{es:List Expr}{to:TE}{t:TA}{name:Str}{aJ aH:Pos}{T id:String}{r:V->List V->Hp->VK->Prop}
theorem zfQ (pa:PlainAttrs T)(slot:Slot T name id)(hty:typeOf (.builtin id)=pure (.type "method_descriptor"))(hm:MtR X id r)(ho:PE X o to)
  (hbase:attributeBase o name X.env (eval o X.env)=eval o X.env:=by rfl)(hline:(aJ.endLine==aH.line)=true:=by rfl):PE X (.Call (.Attribute o name aJ) [] [] aH) (tBM0 X.K T r to):=by
 intro pins s σ H Q I h;refine wpAny_Call_method0_late hbase hline (thn (ho pins s σ H _ I h) λv s1 ⟨x,H1,I1,r1,ty,q1⟩=>?_);obtain⟨h1,h2⟩:=Ce I1 r1 ty;exact⟨T,id,pa,slot,hty,h1,h2,Calls.callWith_builtin rfl (PySem.evalArgs_none (hm pins s1 σ H1 x [] v [] Q I1 r1 .nil q1))⟩
theorem MF (pa:PlainAttrs T)(slot:Slot T name id)(hty:typeOf (.builtin id)=pure (.type "method_descriptor"))(hm:MtR X id r)(ho:PE X o to)(ha:PA X (e::es) t)
  (hbase:attributeBase o name X.env (eval o X.env)=eval o X.env:=by rfl)
  (hfew:((backTo aH (starEach (e::es) X.env)).all (λx=>!x.1)&&(backToKw aH (keywordEach [] X.env)).all (λx=>x.1.isSome)
  &&decide ((e::es).length+([]:List Keyword).length+(if ([]:List Keyword).isEmpty then 0 else 1)<30))=true:=by rfl)
  (hline:(aJ.endLine==aH.line)=true:=by rfl)(hs:starEach (e::es) X.env=(false,eval e X.env)::starEach es X.env:=by rfl)(hplain:(backTo aH (starEach es X.env)).any (·.1)=false:=by rfl):
  PE X (.Call (.Attribute o name aJ) (e::es) [] aH) (tBM X.K T r to t):=by
 intro pins s σ H Q I h;refine wpAny_Call_method_late hbase hfew hline rfl (thn (ho pins s σ H _ I h) λv s1 ⟨x,H1,I1,r1,ty,q1⟩=>?_);obtain⟨h1,h2⟩:=Ce I1 r1 ty;refine⟨T,id,pa,slot,hty,h1,h2,?_⟩;have hA:=ha aH pins s1 σ H1 _ I1 q1;rw[hs] at hA ⊢;refine Calls.callWith_builtin (by show (false||(backTo aH (starEach es X.env)).any (·.1))=false;rw[hplain]<;>rfl) (Calls.evalArgs_plain ?_);exact thn hA λus s2 ⟨vs,H2,I2,r2,q2⟩=>hm pins s2 σ H2 x vs v us Q I2 r1 r2 q2
end
def MtM (X:Cx)(id:String)(r:V->List V->Hp->VK->Prop):Prop:=
 ∀(pins:LA)(s:Shared)(σ:St)(H:Hp)(x:V)(xs:List V)(v:Value)(us:List Value)(Q:VK),Inv X pins σ H s->Zw x v->Zv xs us->r x xs H Q->
  wpAny (mX X) X.A (call (.builtin id) (v::us)) (EP X pins σ Q) X.xe s
theorem Zv.one:∀ {x:V} {us:List Value},Zv [x] us->∃u,us=[u]/\Zw x u
 | _,_,.cons r .nil=>⟨_,rfl,r⟩
theorem Zv.rep (h:Zv xs us):∀k:Nat,Zv (List.replicate k xs).flatten (List.replicate k us).flatten
 | 0=>.nil
 | k+1=>by
  rw[xT,xT,wA,wA];exact Zv.append h (Zv.rep h k)
theorem Gu (aX:List Value):∀(k:Nat)(acc:List Value),
  List.foldl (λx1 x2=>x1++x2) acc.toArray (List.replicate k aX.toArray)=(acc++(List.replicate k aX).flatten).toArray
 | 0,acc=>by simp
 | k+1,acc=>by
  have e:acc.toArray++aX.toArray=(acc++aX).toArray:=by simp
  have e2:(acc++aX)++(List.replicate k aX).flatten=acc++(List.replicate (k+1) aX).flatten:=by
   rw[xT,wA,yZ]
  rw[<- e2,<- Gu aX k (acc++aX),<- e,xT,List.foldl_cons]
theorem Inv.lset {aX its':List Value}{n:Nat}{f:Array Value->Array Value}{t':Nat}(I:Inv X pins σ H s)(hH:H l=some (.lst xs))
  (e:s.heap.get? l=some { cls:=.type "list",data:=.seq aX.toArray n })(hf:f aX.toArray=its'.toArray)(hv:Zv ys its')(hz:ys.length<=sizeLine):
  Inv X pins σ (upd H l (.lst ys)) { s with heap:=s.heap.update l (Obj.mapSeq f),toks:=t' }:=by
 have q:=PySem.IsL.update e f;rw[hf] at q;refine I.write (x:=l) (e:=l) (by rw[hH];exact trivial) (.inl rfl) (λb' u hb hu=>(Heap.get?_update_other s.heap (Obj.mapSeq f) (Ne.symm hb)).trans hu) ⟨_,q⟩ ?_;exact⟨hz,its',_,hv,q⟩
theorem Inv.lnew (I:Inv X pins σ H s)(hv:Zv ys aX)(hz:ys.length<=sizeLine):
  Inv X pins σ (upd H s.heap.objs.size (.lst ys)) { s with heap:=s.heap.push { cls:=.type "list",data:=.seq aX.toArray },toks:=t' }:=
 I.laid (λ_ _ q=>Heap.get?_push_of_some _ q) (zA _) ⟨hz,aX,0,hv,Heap.get?_push_size _ rfl⟩
theorem Inv.fresh (I:Inv X pins σ H s):H s.heap.objs.size=none:=I.hok.fresh (zA _)
theorem Inv.lstM (I:Inv X pins σ H s)(hH:H l=some (.lst xs)):xs.length<=sizeLine/\∃(aX:List Value)(n:Nat),Zv xs aX/\xs.length=aX.length/\s.heap.get? l=some { cls:=.type "list",data:=.seq aX.toArray n }:=by
 obtain⟨z,aX,n,r,e⟩:=I.hok l _ hH;exact⟨z,aX,n,r,r.length,e⟩
theorem zb2 {n:Nat}(h:n<=sizeLine):Builtin.List.listTooLong n=false:=by
 unfold Builtin.List.listTooLong;exact decide_eq_false (by omega)
def zeH:V->List V->Hp->VK->Prop:=λx vs H Q=>∃l xs y,x=.ref l/\vs=[y]/\H l=some (.lst xs)/\xs.length<sizeLine/\Q .non (upd H l (.lst (xs++[y])))
theorem Fz:MtM X "list.append" zeH:=by
 intro pins s σ H x vs v us Q I rx rv h;obtain⟨l,xs,y,rfl,rfl,hH,hz,q⟩:=h;cases rx;obtain⟨u,rfl,ru⟩:=rv.one;obtain⟨z,aX,n,r,hl,e⟩:=I.lstM hH;refine call_meets F.slot_list_append ⟨_,e,rfl⟩ F.entry_list_append (F.args_list_append_2 _ _) (PySem.list_append l aX.toArray n u (by rw[zU];omega)) ⟨e,?_⟩;refine⟨.non,_,I.lset (its':=aX++[u]) hH e (by simp) (r.append (.cons ru .nil)) ?_,rfl,q⟩;rw[zT,List.length_singleton];omega
def rCat:R2:=λx y H Q=>∃l b xs zs,x=.ref l/\y=.ref b/\H l=some (.lst xs)/\H b=some (.lst zs)/\xs.length+zs.length<=sizeLine/\∀p,H p=none->Q (.ref p) (upd H p (.lst (xs++zs)))
theorem zfE:OpR X (binaryOp .Add) rCat:=by
 intro pins s σ H x y v u Q I rx ry h;obtain⟨l,b,xs,zs,rfl,rfl,hH,hB,hz,q⟩:=h;cases rx;cases ry;obtain⟨z,aX,n,r,hl,e⟩:=I.lstM hH;obtain⟨z2,its2,n2,r2,hl2,e2⟩:=I.lstM hB;refine PySem.P.add_list e e2 ?_ (by rw[zU,zU];omega);have ea:aX.toArray++its2.toArray=(aX++its2).toArray:=by simp
 rw[ea];exact⟨.ref _,_,I.lnew (t':=s.toks) (r.append r2) (by rw[zT];omega),rfl,q _ I.fresh⟩
def rRep:R2:=λx y H Q=>∃l k xs,x=.ref l/\y=.int k/\H l=some (.lst xs)/\-(2^63)<=k/\k<2^63/\xs.length*k.toNat<=sizeLine/\
 ∀p,H p=none->Q (.ref p) (upd H p (.lst (List.replicate k.toNat xs).flatten))
theorem zev (xs:List α)(k:Nat):(List.replicate k xs).flatten.length=k*xs.length:=by
 induction k with
 | zero=>simp
 | succ k ih=>rw[xT,wA,zT,ih,Nat.succ_mul,Nat.add_comm]
theorem zgK:OpR X (binaryOp .Mult) rRep:=by
 intro pins s σ H x y v u Q I rx ry h;obtain⟨l,k,xs,rfl,rfl,hH,h1,h2,hz,q⟩:=h;cases rx;obtain⟨t,rfl⟩:=ry;obtain⟨z,aX,n,r,hl,e⟩:=I.lstM hH;have aM:aX.toArray.size*k.toNat<=sizeLine:=by rw[zU,<- hl];exact hz
 have hcap:¬ aX.toArray.size*k.toNat > (2^63-1)/8:=by
  have:(sizeLine:Nat)<=(2^63-1)/8:=by decide
  omega
 have hfit:¬ (!Builtin.List.listFitsIndex k)=true:=by
  rw[fitsIndex_both h1 h2];exact zN
 have hlong:¬ Builtin.List.listTooLong (aX.toArray.size*k.toNat)=true:=by
  rw[zb2 aM];exact zN
 have hnew:List.foldl (λx1 x2=>x1++x2) #[] (List.replicate (if aX.toArray.isEmpty=true then 0 else k.toNat) aX.toArray)=(List.replicate k.toNat aX).flatten.toArray:=by
  have f0:∀m:Nat,List.foldl (λx1 x2=>x1++x2) #[] (List.replicate m aX.toArray)=(List.replicate m aX).flatten.toArray:=λm=>by
   have:=Gu aX m [];rw[List.nil_append] at this;exact this
  rw[f0];cases aX with
  | nil=>simp
  | cons a r'=>rw[if_neg (by simp)]
 refine wpAny_binaryOp_repeat_ref (T:="list") (U:="int") ⋯ ⟨_,e,rfl⟩ (λs'=>typeIs_int s' k t) noFill_list_mul F.fills_int_mul F.slot_int_rmul repeat_list F.slot_int_index.lookup
  (call_meets F.slot_int_rmul (typeIs_int s k t) F.entry_int_rmul (F.args_int_rmul_2 _ _) (int___rmul___int_list k t l aX.toArray n)
   ⟨e,rfl,⟨_,e,rfl⟩,call_meets F.slot_list_mul ⟨_,e,rfl⟩ F.entry_list_mul (F.args_list_mul_2 _ _) (AutoListH.list___mul___list_int_3 l aX.toArray n k t hfit hcap hlong) ⟨e,?_⟩⟩)
 rw[hnew];exact⟨.ref _,_,I.lnew (t':=s.toks) (r.rep k.toNat) (by rw[zev,vF];exact hz),rfl,q _ I.fresh⟩
section
variable {prog:Program}{w:World}{A:Around}{E:Value->Shared->Prop}{s:Shared}
set_option maxRecDepth 100000 in
end
section
variable {X:Cx}
end
end L2
namespace Att
open PySem PySem.W PySem.Calls PyProof.Rows
theorem zcA {P:Params}{h:Heap}:∀(ns:List Int)(vs:List Value),WellAll P h vs (ns.map WData.int)->IntsAre vs ns:=by
 intro ns
 induction ns with
 | nil=>
  intro vs w;rw[List.map_nil] at w;cases w;exact .nil
 | cons n ns ih=>
  intro vs w;rw[yM] at w;cases w with
  | cons a b=>
   cases a;exact .cons _ _ (ih _ b)
theorem C5 {l:OpenLaw}{n:Nat}(hn:l.most=some n){P:Params}{h:Heap}{args:List WData}{vals:List Value}
  (hpre:l.row.toRowW.claim.pre args=true)(hwl:WellAll P h vals args):
  ∃a vs ns,vals=[Value.ref a]/\args=[WData.list (ns.map WData.int)]/\h.get? a=some { cls:=.type "list",data:=.seq vs.toArray }/\IntsAre vs ns/\ns.length<=n:=by
 have hsh:WShape.hasAll [] args [.list .int]=true:=(pre_splitW hpre).1
 have hc:l.pre.holds [] { args:=args }=true:=(pre_splitW hpre).2;obtain⟨d,r,rfl,h1,h2⟩:=hasAllW_cons hsh;obtain rfl:=hasAllW_nil h2;obtain⟨xs,rfl,h3⟩:=hasW_list h1;obtain⟨ns,rfl⟩:=items_int h3;have aM:ns.length<=n:=by
  unfold OpenLaw.pre at hc;have h4:(WTm.not (.lt (.lit (.int (n:Int))) (.len (.arg 0)))).holds [] { args:=[.list (ns.map .int)] }=true:=by
   have h4:=(holds_andW hc).1;rw[hn] at h4;exact h4
  have h5:=condW_of h4 (w_not (w_lt w_lit (w_len_list (w_arg rfl))));rw[zD] at h5;refine Nat.le_of_not_lt λq=>?_
  have q':(n:Int)<((ns.length:Nat):Int):=by omega
  first
   | (rw[decide_eq_true q'] at h5;exact absurd h5 ⋯)
   | (simp at h5;omega)
 cases hwl with
 | cons w1 w2=>
  cases w2;cases w1 with
  | list ho hall=>exact⟨_,_,ns,rfl,rfl,ho,zcA ns _ hall,aM⟩
theorem zc1 (l:OpenLaw)(args:List WData):l.row.toRowW.claim.post args (.bool true) args=true:=
 postW_of (r:=l.row.toRowW) (X:=(true==true))
  (show WShape.has [] (.bool true) .bool=true by first|rfl|decide|simp[WShape.has,WShape.arms,WShape.armsAll])
  (show (WTm.eq .res (.lit (.bool true))).value [] { args:=args,res:=some (.bool true),after:=args }=some (.bool (true==true)) from w_eq_bool (w_res rfl) w_lit) rfl
theorem attach_call {l:OpenLaw}{n:Nat}{q:Program}{aG:List Str}{XP:(Str->Option Value)->Heap->Prop}{YP:World->Heap->Prop}{d:DefRec}
  (hn:l.most=some n)(hdf:d.params.defaults=[])
  (call:∀(w:World)(s₀ s₁:Shared)(mg mb:Str->Option Value)(fa:Addr)(o:Obj)(pm cd doc:Value)(a:Addr)(vs:List Value)(ns:List Int),
   Ground q aG [] XP w s₀ mg mb s₁.heap->YP w s₁.heap->
   s₁.heap.get? fa=some o->o.data=.func (docDef d.name d.params d.body d.scope pm cd doc)->s₁.heap.CodeRec cd d.name->mg d.name=some (.ref fa)->
   s₁.heap.get? a=some { cls:=.type "list",data:=.seq vs.toArray }->IntsAre vs ns->ns.length<=n->s₁.gens=#[]->
   codeAny (model l.prog w) callerA (.call (.ref fa) ⟨[.ref a],[]⟩) (λr s'=>r=.ok (.ret (.bool true))/\OldK s₁.heap s'.heap/\s'.os=s₁.os/\AllBare s'.gens) s₁):
  WalkO q aG XP YP l.row.toRowW d [] (λf vs=>PySem.call f vs):=by
 intro w s₀ s₁ mg mb G Y fa o pm cd doc dV kV ho hd hcd hD hmg hg args vals as hpre hlay hrd hwl hlo;obtain rfl:dV=.none:=Dflts.none hD hdf;obtain rfl:kV=.none:=Dflts.noKw hD;obtain⟨a,vs,ns,rfl,rfl,hobj,hints,aM⟩:=C5 hn hpre hwl;refine enter_call (codeAny_mono (call w s₀ s₁ mg mb fa o pm cd doc a vs ns G Y ho (fd_plain hd) hcd hmg hobj hints aM hg) λr s' hq=>?_);obtain⟨rfl,h2,h3,h4⟩:=hq;exact⟨.inl ⟨.bool true,.bool true,[],rfl,λ_=>rfl,.bool true,zc1 l _,λ_=>⟨List.Pairwise.nil,λ_ hm=>(nomatch hm)⟩⟩,h2,h3,h4⟩
section
variable {prog:Program}{w:World}{A:Around}{E:Value->Shared->Prop}{s:Shared}{K:Frag}
end
end Att
namespace L2
open PySem PySem.Spec PyProof.Rows
theorem QY:∀ {vs:List Value} {ns:List Int},IntsAre vs ns->Zv (ns.map V.int) vs
 | _,_,.nil=>.nil
 | _,_,.cons n t h=>.cons ⟨t,rfl⟩ (QY h)
end L2
namespace L2
open PySem PySem.Spec PyProof.Rows
abbrev CX0:CXT:=λ_ _ _ _ _ _=>False
structure Fun (K:Fg)(x qual:Str)(st:Stmt)(f:Addr)(fd:FuncData):Prop where
 ex:∃(oc:Value)(od:Option Addr)(kV doc pm:Value)(an:Option Addr)(cdv ct:Value)(osl:Array (Option Value)),
  fd=W.fnOf x qual (WX st) (Xl st) (Zh st) .none kV doc pm an cdv ct/\K.lookup f=some ⟨oc,od,.func fd,osl⟩/\W.codeIn K cdv qual=true
 kp:W.keepIn K (.ref f)=true
section
variable {P:Program}{w:World}{K:Fg}{mg:Str->Option Value}{base:Heap}
theorem Fun.ok {x qual:Str}{st:Stmt}{f:Addr}{fd:FuncData}{N ps:List Str}{k:Nat}{sp:Sp}(F:Fun K x qual st f fd)(S:Zl N ps (Zh st))(len:∀vs H Q E,sp vs H Q E->vs.length=ps.length)
  (hbody:∀(cdv:Value)(A:Around)(outer:List Env)(s:Shared)(H:Hp)(vs:List V)(Q:VK)(E:XK),ZF k (A.deeper (envOfC qual (Zh st) s.heap.objs.size f cdv))->sp vs H Q E->
   ∃t,PSs (XA CX0 P w K mg base N qual (Zh st) f cdv A outer s H E).nox (Xl st) t/\t { nx:=λ_ H'=>Q .non H',rt:=Q } (XT N vs) H):Yi P w K mg base CX0 (k+1) f fd ps sp:=by
 obtain⟨oc,od,kV,doc,pm,an,cdv,ct,osl,rfl,lk,hcd⟩:=F.ex;refine IY lk hcd S len λA outer s H vs Q E hr hsp=>?_
 obtain⟨t,h,q⟩:=hbody cdv A outer s H vs Q E hr hsp;exact⟨t,h.nox,q⟩
theorem Fun.binds {x qual:Str}{st:Stmt}{f:Addr}{fd:FuncData}{ps:List Str}(F:Fun K x qual st f fd)
  (h:∀(kV doc pm:Value)(an:Option Addr)(cdv ct:Value)(us:List Value),us.length=ps.length->bindArgs (W.fnOf x qual (WX st) (Xl st) (Zh st) .none kV doc pm an cdv ct) ⟨us,[]⟩=pure (ps.zip us)):YD K fd ps []:=by
 obtain⟨oc,od,kV,doc,pm,an,cdv,ct,osl,rfl,lk,hcd⟩:=F.ex;exact .all (h kV doc pm an cdv ct)
theorem PQ {x qual:Str}{st:Stmt}{f:Addr}{oc:Value}{od an:Option Addr}{osl:Array (Option Value)}{kV doc pm cdv ct:Value}(l:K.lookup f=some ⟨oc,od,.func (W.fnOf x qual (WX st) (Xl st) (Zh st) .none kV doc pm an cdv ct),osl⟩)
  (c:W.codeIn K cdv qual=true)(k:W.keepIn K (.ref f)=true):Fun K x qual st f (W.fnOf x qual (WX st) (Xl st) (Zh st) .none kV doc pm an cdv ct):=⟨⟨oc,od,kV,doc,pm,an,cdv,ct,osl,rfl,l,c⟩,k⟩
end
theorem Rx (h:n<=1000):n<sizeLine:=vV h ⋯
section
variable {X:Cx}
theorem pv (i:Nat)(hN:X.N[i]?=some x:=by rfl)(hv:Vis X.env.scope x:=by first|exact Or.inl rfl|exact Or.inr (Or.inl rfl)|exact Or.inr (Or.inr rfl))(hd:(x==("__debug__":Str))=false:=by decide)(hcd:(x==("__classdict__":Str))=false:=by decide):PE X (.Name x pos) (tVar i):=Ip hN hv hd hcd
end
theorem YB {A B:Prop}(h:B):if false=true then A else B:=by
 rw[if_neg zN];exact h
theorem YA {A B:Prop}(h:A):if true=true then A else B:=by
 rw[if_pos rfl];exact h
theorem ite2 {c A B:Prop} [Decidable c] (h1:c->A)(h2:¬ c->B):if c then A else B:=by
 by_cases h:c
 .rw[if_pos h];exact h1 h
 .rw[if_neg h];exact h2 h
section
variable {κ:Type} [DecidableEq κ]
end
section
variable {P:Program}{w:World}{H:Hp}{h:Heap}{a:Addr}
end
section
variable {X:Cx}{pins:LA}{σ:St}{H:Hp}{s:Shared}{a:Addr}{y v:V}{u r:Value}{o:Option V}{A:Around}{E:Value->Shared->Prop}
end
section
variable {X:Cx}{pins:LA}{σ:St}{H:Hp}{s:Shared}{a:Addr}{aV:List (Key×V)}{k:Key}{u:Value}{A:Around}{E:Value->Shared->Prop}
end
section
variable {X:Cx}{o i e value:Expr}{pos pos' tpos:Pos}{td ty tv:TE}
end
section
variable {X:Cx}{pos:Pos}
end
structure M1 (X:Cx)(o:Expr)(m:Str)(aJ:Pos)(e:Expr)(aH:Pos):Prop where
 base:attributeBase o m X.env (eval o X.env)=eval o X.env
 few:((backTo aH (starEach [e] X.env)).all (λx=>!x.1)&&(backToKw aH (keywordEach [] X.env)).all (λx=>x.1.isSome)
 &&decide (([e]:List Expr).length+([]:List Keyword).length+(if ([]:List Keyword).isEmpty then 0 else 1)<30))=true
 line:(aJ.endLine==aH.line)=true
 trees:backTo aH (starEach [e] X.env)=[(false,eval e X.env)]
structure M2 (X:Cx)(o:Expr)(m:Str)(aJ:Pos)(e f:Expr)(aH:Pos):Prop where
 base:attributeBase o m X.env (eval o X.env)=eval o X.env
 few:((backTo aH (starEach [e,f] X.env)).all (λx=>!x.1)&&(backToKw aH (keywordEach [] X.env)).all (λx=>x.1.isSome)
 &&decide (([e,f]:List Expr).length+([]:List Keyword).length+(if ([]:List Keyword).isEmpty then 0 else 1)<30))=true
 line:(aJ.endLine==aH.line)=true
 trees:backTo aH (starEach [e,f] X.env)=[(false,eval e X.env),(false,eval f X.env)]
section
variable {X:Cx}{pins:LA}{σ:St}{H:Hp}{s:Shared}{a:Addr}{y d:V}{u r:Value}{o:Option V}{A:Around}{E:Value->Shared->Prop}
end
section
variable {X:Cx}{o e f:Expr}{aJ aH:Pos}{td ty tx:TE}
end
section
variable {X:Cx}{pins:LA}{σ:St}{H:Hp}{s:Shared}{a:Addr}{aV:List (Key×V)}{A:Around}{E:Value->Shared->Prop}
end
section
variable {X:Cx}{pins:LA}{σ:St}{H:Hp}{s:Shared}{a:Addr}{y:V}{u:Value}{A:Around}{E:Value->Shared->Prop}
end
end L2
namespace L3
open PySem PySem.Spec PyProof.Rows L2
abbrev St:=L2.St
inductive D where
 | non|bl (b:Bool)|int (i:Int)|str (x:Str)|tup (xs:List D)|ref (n:Nat)|exc (c:Addr)
inductive Ob where
 | lst (xs:List D)|frz (xs:List D)
  | ins (C:Addr) (fs:List (Str×D))
  | dct (aV:List (List Key×D))
  | tpl (ws:List Str)
  | dck (aV:List (Key×D))
  | cod (P:Addr) (pos:Pos) (q:Str)
abbrev Sto:=List Ob
abbrev Ev:=List (Option D)
abbrev DK:=D->Sto->Prop
abbrev TDE:=Ev->Sto->DK->Prop
abbrev TDT:=Ev->Sto->(Bool->Sto->Prop)->Prop
abbrev TDA:=Ev->Sto->(List D->Sto->Prop)->Prop
structure Xz where
 nx:Ev->Sto->Prop
 rt:DK
 bk:Ev->Sto->Prop:=λ_ _=>False
 ct:Ev->Sto->Prop:=λ_ _=>False
abbrev TDS:=Xz->Ev->Sto->Prop
def isX (a c:Addr):HO:=.ext λh=>∃o,h.get? a=some o/\o.cls=.ref c
inductive Rp (r:List Addr)(H:Hp):D->V->Prop
 | non:Rp r H .non .non
 | bl (b:Bool):Rp r H (.bl b) (.bl b)
 | int (i:Int):Rp r H (.int i) (.int i)
 | str (x:Str):Rp r H (.str x) (.str x)
 | tup {ds:List D} {xs:List V} {a:Addr}:H a=some (.tup xs)->ds.length=xs.length->(∀(i:Nat)(d:D)(v:V),ds[i]?=some d->xs[i]?=some v->Rp r H d v)->Rp r H (.tup ds) (.ref a)
 | ref {n:Nat} {a:Addr}:r[n]?=some a->Rp r H (.ref n) (.ref a)
 | exc {c a:Addr}:H a=some (isX a c)->Rp r H (.exc c) (.ref a)
def Rps (r:List Addr)(H:Hp)(ds:List D)(vs:List V):Prop:=ds.length=vs.length/\∀(i:Nat)(d:D)(v:V),ds[i]?=some d->vs[i]?=some v->Rp r H d v
structure Ext (r r':List Addr)(H H':Hp):Prop where
 adr:∀(n:Nat)(a:Addr),r[n]?=some a->r'[n]?=some a
 tup:∀a xs,H a=some (.tup xs)->H' a=some (.tup xs)
 xc:∀a φ,H a=some (.ext φ)->H' a=some (.ext φ)
theorem Ext.refl:Ext r r H H:=⟨λ_ _ h=>h,λ_ _ h=>h,λ_ _ h=>h⟩
theorem Ext.trans (a:Ext r r' H H')(b:Ext r' r2 H' H2):Ext r r2 H H2:=⟨λn x h=>b.adr n x (a.adr n x h),λx y h=>b.tup x y (a.tup x y h),λx y h=>b.xc x y (a.xc x y h)⟩
theorem Rp.ext (h:Rp r H d v)(e:Ext r r' H H'):Rp r' H' d v:=by
 induction h with
 | non=>exact .non
 | bl b=>exact .bl b
 | int i=>exact .int i
 | str x=>exact .str x
 | tup h l _ ih=>exact .tup (e.tup _ _ h) l ih
 | ref h=>exact .ref (e.adr _ _ h)
 | exc h=>exact .exc (e.xc _ _ h)
theorem Rps.ext (h:Rps r H ds vs)(e:Ext r r' H H'):Rps r' H' ds vs:=⟨h.1,λi d v h1 h2=>(h.2 i d v h1 h2).ext e⟩
theorem Rps.nil:Rps r H [] []:=⟨rfl,λi d v h=>by simp at h⟩
theorem Rps.cons (h:Rp r H d v)(t:Rps r H ds vs):Rps r H (d::ds) (v::vs):=by
 refine⟨by simp[t.1],λi x y h1 h2=>?_⟩;cases i with
 | zero=>
  simp at h1 h2;subst h1;subst h2
  exact h
 | succ i=>exact t.2 i x y (by simpa using h1) (by simpa using h2)
theorem Rps.tail (h:Rps r H (d::ds) (y::vs)):Rp r H d y/\Rps r H ds vs:=
 ⟨h.2 0 d y rfl rfl,by simpa using h.1,λi a b h1 h2=>h.2 (i+1) a b (by simpa using h1) (by simpa using h2)⟩
theorem Rps.uncons (h:Rps r H (d::ds) vs):∃v vs',vs=v::vs'/\Rp r H d v/\Rps r H ds vs':=by
 cases vs with
 | nil=>exact absurd h.1 (by simp)
 | cons v vs'=>exact⟨v,vs',rfl,h.tail⟩
theorem Rps.unnil (h:Rps r H [] vs):vs=[]:=by
 cases vs with
 | nil=>rfl
 | cons v vs'=>exact absurd h.1 (by simp)
theorem Rps.get {i:Nat}(h:Rps r H ds vs)(e:ds[i]?=some d):∃v,vs[i]?=some v/\Rp r H d v:=by
 have hi:i<ds.length:=(zB.mp e).1
 have hv:i<vs.length:=by rw[<- h.1];exact hi
 exact⟨vs[i],by simp[hv],h.2 i d vs[i] e (by simp[hv])⟩
theorem Rps.get' {i:Nat}(h:Rps r H ds vs)(e:vs[i]?=some v):∃d,ds[i]?=some d/\Rp r H d v:=by
 have hv:i<vs.length:=(zB.mp e).1
 have hi:i<ds.length:=by rw[h.1];exact hv
 exact⟨ds[i],by simp[hi],h.2 i ds[i] v (by simp[hi]) e⟩
theorem Rps.snoc (h:Rps r H ds vs)(t:Rp r H d v):Rps r H (ds++[d]) (vs++[v]):=by
 refine⟨by simp[h.1],λi x y h1 h2=>?_⟩;by_cases hi:i<ds.length
 .rw[zI hi] at h1;rw[zI (by rw[<- h.1];exact hi)] at h2;exact h.2 i x y h1 h2
 .have hl:i<(ds++[d]).length:=(zB.mp h1).1
  have e:i=ds.length:=by simp at hl;omega
  subst e;rw[yJ (zA _)] at h1;rw[h.1,yJ (zA _)] at h2;simp at h1 h2;subst h1;subst h2
  exact t
theorem Rps.tupR (h:Rps r H ds vs)(e:H a=some (.tup vs)):Rp r H (.tup ds) (.ref a):=.tup e h.1 h.2
theorem Rp.untup {vs:V}(h:Rp r H (.tup ds) vs):∃a xs,vs=.ref a/\H a=some (.tup xs)/\Rps r H ds xs:=by
 cases h with
 | tup e l f=>exact⟨_,_,rfl,e,l,f⟩
def SqF (K:Fg)(H:Hp)(a:Addr)(xs:List V):Prop:=
 (∃o,H a=some (.frz o (.lst xs)))\/
  ∃(o:Obj)(aX:Array Value)(n:Nat),K.lookup a=some o/\o.cls=.type "list"/\o.dict=none/\o.data=.seq aX n/\aX.size<=sizeLine/\Zv xs aX.toList
theorem SqF.sql {K:Fg}{H:Hp}{a:Addr}{xs:List V}(h:SqF K H a xs):SqL K H a xs:=by
 rcases h with ⟨o,h⟩|h
 .exact .inl (.inr ⟨o,h⟩)
 .exact .inr h
def FR {α:Type}(r:List Addr)(H:Hp)(fs:List (α×D))(fs':List (α×V)):Prop:=fs.map (·.1)=fs'.map (·.1)/\Rps r H (fs.map (·.2)) (fs'.map (·.2))
theorem FR.ext {α:Type}{r r':List Addr}{H H':Hp}{fs:List (α×D)}{fs':List (α×V)}(h:FR r H fs fs')(e:Ext r r' H H'):FR r' H' fs fs':=⟨h.1,h.2.ext e⟩
theorem FR.nil {α:Type}{r:List Addr}{H:Hp}:FR (α:=α) r H [] []:=⟨rfl,Rps.nil⟩
def Tab (pos:Pos)(q:Str)(H:Hp)(ps:Array Value):Prop:=TriplesOk ps.toList/\(codeAmong pos ps.toList=none\/∃c,codeAmong pos ps.toList=some (.ref c)/\H c=some (.ext λh=>h.CodeRec (.ref c) q))
theorem Tab.same {pos:Pos}{q:Str}{H H':Hp}{ps:Array Value}(h:Tab pos q H ps)(e:∀b φ,H b=some (.ext φ)->H' b=some (.ext φ)):Tab pos q H' ps:=⟨h.1,h.2.imp id λ⟨c,a,b⟩=>⟨c,a,e _ _ b⟩⟩
def ObR (K:Fg)(r:List Addr)(H:Hp)(a:Addr):Ob->Prop
 | .lst ds=>∃xs,H a=some (.lst xs)/\Rps r H ds xs
 | .frz ds=>∃xs,SqF K H a xs/\Rps r H ds xs
 | .ins C fs=>∃dx fs',H a=some (.ins C dx fs')/\FR r H fs fs'
 | .dct aV=>∃kvs',H a=some (.dT kvs')/\FR r H aV kvs'
 | .dck aV=>∃kvs',H a=some (.dK kvs')/\FR r H aV kvs'
 | .tpl ws=>∃(o:Obj)(aX:Array Value)(n:Nat),K.lookup a=some o/\o.cls=.type "tuple"/\o.data=.seq aX n/\aX.size<=sizeLine/\Zv (ws.map V.str) aX.toList
 | .cod P pos q=>a=P/\∃ps,H a=some (.tbl ps)/\Tab pos q H ps
def WQ:Ob->Bool
 | .frz _=>false
 | .tpl _=>false
 | _=>true
structure ZY (K:Fg)(r:List Addr)(S:Sto)(H:Hp):Prop where
 len:r.length=S.length
 ob:∀(n:Nat)(a:Addr)(o:Ob),r[n]?=some a->S[n]?=some o->ObR K r H a o
 nd:∀(n m:Nat)(a:Addr)(o u:Ob),r[n]?=some a->r[m]?=some a->S[n]?=some o->S[m]?=some u->WQ o=true->WQ u=true->n=m
def Zk:Ob->List D
 | .lst ds=>ds
 | .frz ds=>ds
 | _=>[.exc 0]
def Y2:Ob->Option Ob
 | .lst ds=>some (.lst ds)
 | .frz ds=>some (.frz ds)
 | _=>none
def lAt (S:Sto)(n:Nat):Option Ob:=(S[n]?).bind Y2
theorem zgN (h:Y2 o=some u):u=o:=by
 cases o<;>simp[Y2] at h<;>exact h.symm
theorem Yy {S:Sto}{n:Nat}{o:Ob}(h:lAt S n=some o):S[n]?=some o/\Y2 o=some o:=by
  unfold lAt at h;cases q:S[n]? with
  | none=>
   rw[q] at h;cases h
  | some u=>
    rw[q] at h;have h':Y2 u=some o:=h
    have e:=zgN h';subst e;exact⟨rfl,h'⟩
theorem ZO {S:Sto}{n:Nat}{o:Ob}(h:S[n]?=some o)(hL:Y2 o=some o):lAt S n=some o:=by
 unfold lAt;rw[h];exact hL
section
variable {K:Fg}{r r':List Addr}{S:Sto}{H H':Hp}{n:Nat}{a p:Addr}
theorem ZY.at {o:Ob}(h:ZY K r S H)(e:S[n]?=some o):∃a,r[n]?=some a/\ObR K r H a o:=by
 have hn:n<S.length:=(zB.mp e).1
 have hr:n<r.length:=by rw[h.len];exact hn
 exact⟨r[n],by simp[hr],h.ob n r[n] o (by simp[hr]) e⟩
theorem ObR.list {o:Ob}(h:ObR K r H a o)(hL:Y2 o=some o):∃xs,SqL K H a xs/\Rps r H (Zk o) xs:=by
 cases o with
 | lst ds=>obtain⟨xs,e,q⟩:=h;exact⟨xs,SqL.of e,q⟩
 | frz ds=>obtain⟨xs,e,q⟩:=h;exact⟨xs,e.sql,q⟩
 | ins C fs=>cases hL
 | dct aV=>cases hL
 | dck aV=>cases hL
 | tpl ws=>cases hL
 | cod P pos q=>cases hL
theorem ObR.keep {o:Ob}(q:ObR K r H a o)(x:Ext r r' H H')(ha:∀u,H a=some u->H' a=some u):ObR K r' H' a o:=by
 cases o with
 | lst ds=>obtain⟨xs,h3,h4⟩:=q;exact⟨xs,ha _ h3,h4.ext x⟩
 | frz ds=>
  obtain⟨xs,h3,h4⟩:=q;refine⟨xs,?_,h4.ext x⟩;rcases h3 with ⟨o,h3⟩|h3
  .exact .inl ⟨o,ha _ h3⟩
  .exact .inr h3
 | ins C fs=>obtain⟨dx,fs',h3,h4⟩:=q;exact⟨dx,fs',ha _ h3,h4.ext x⟩
 | dct aV=>obtain⟨ks,h3,h4⟩:=q;exact⟨ks,ha _ h3,h4.ext x⟩
 | dck aV=>obtain⟨ks,h3,h4⟩:=q;exact⟨ks,ha _ h3,h4.ext x⟩
 | tpl ws=>exact q
 | cod P pos q'=>obtain⟨e,ps,h3,h4⟩:=q;exact⟨e,ps,ha _ h3,h4.same x.xc⟩
theorem ObR.own {o:Ob}(q:ObR K r H a o)(h:WQ o=true):∃u,H a=some u/\(∀xs,u≠HO.tup xs)/\(∀φ,u≠HO.ext φ)/\∀z y,u≠HO.frz z y:=by
 cases o with
 | lst ds=>obtain⟨xs,h3,h4⟩:=q;exact⟨_,h3,(λ_ z=>by cases z),(λ_ z=>by cases z),(λ_ _ z=>by cases z)⟩
 | frz ds=>cases h
 | tpl ws=>cases h
 | ins C fs=>obtain⟨dx,fs',h3,h4⟩:=q;exact⟨_,h3,(λ_ z=>by cases z),(λ_ z=>by cases z),(λ_ _ z=>by cases z)⟩
 | dct aV=>obtain⟨ks,h3,h4⟩:=q;exact⟨_,h3,(λ_ z=>by cases z),(λ_ z=>by cases z),(λ_ _ z=>by cases z)⟩
 | dck aV=>obtain⟨ks,h3,h4⟩:=q;exact⟨_,h3,(λ_ z=>by cases z),(λ_ z=>by cases z),(λ_ _ z=>by cases z)⟩
 | cod P pos q'=>obtain⟨_,ps,h3,_⟩:=q;exact⟨_,h3,(λ_ z=>by cases z),(λ_ z=>by cases z),(λ_ _ z=>by cases z)⟩
theorem ZY.same (h:ZY K r S H)(e:∀b o,H b=some o->H' b=some o):ZY K r S H':=
 ⟨h.len,λn a o h1 h2=>(h.ob n a o h1 h2).keep ⟨λ_ _ q=>q,λa xs q=>e _ _ q,λa c q=>e _ _ q⟩ (e a),h.nd⟩
theorem XB {o:HO}(h:H p=none):∀b u,H b=some u->(upd H p o) b=some u:=λb u q=>by rw[ZV (Vn q h)];exact q
theorem QB (e:(r++[p])[n]?=some b):(n<r.length/\r[n]?=some b)\/(n=r.length/\b=p):=by
 by_cases hn:n<r.length
 .rw[zI hn] at e;exact .inl ⟨hn,e⟩
 .have hl:n<(r++[p]).length:=(zB.mp e).1
  have en:n=r.length:=by simp at hl;omega
  subst en;rw[yJ (zA _)] at e;simp at e;exact .inr ⟨rfl,e.symm⟩
theorem ZY.pushO (h:ZY K r S H)(hp:H p=none)(keep:∀b u,H b=some u->H' b=some u)(q:Ext r (r++[p]) H H'->ObR K (r++[p]) H' p o):ZY K (r++[p]) (S++[o]) H'/\Ext r (r++[p]) H H':=by
 have x:Ext r (r++[p]) H H':=⟨λn a e=>by
  have hn:n<r.length:=(zB.mp e).1;rw[zI hn];exact e,λa ys e=>keep _ _ e,λa c e=>keep _ _ e⟩
 have sS:∀ {n:Nat} {u:Ob},n<r.length->(S++[o])[n]?=some u->S[n]?=some u:=λ{n u} hn e=>by
  rw[zI (by rw[<- h.len];exact hn)] at e;exact e
 refine⟨⟨by simp[h.len],λn a u h1 h2=>?_,λn m a u w h1 h2 h3 h4 o1 o2=>?_⟩,x⟩
 .rcases QB h1 with ⟨hn,e⟩|⟨rfl,rfl⟩
  .exact(h.ob n a u e (sS hn h2)).keep x (keep a)
  .rw[h.len,yJ (zA _)] at h2;simp at h2;subst h2;exact q x
 .rcases QB h1 with ⟨hn,e⟩|⟨rfl,rfl⟩
  .rcases QB h2 with ⟨hm,e'⟩|⟨rfl,rfl⟩
   .exact h.nd n m a u w e e' (sS hn h3) (sS hm h4) o1 o2
   .obtain⟨zs,h5,_⟩:=(h.ob n _ _ e (sS hn h3)).own o1;rw[hp] at h5;cases h5
  .rcases QB h2 with ⟨hm,e'⟩|⟨rfl,_⟩
   .obtain⟨zs,h5,_⟩:=(h.ob m _ _ e' (sS hm h4)).own o2;rw[hp] at h5;cases h5
   .rfl
theorem ZY.push {ds:List D}{xs:List V}(h:ZY K r S H)(hp:H p=none)(q:Rps r H ds xs):ZY K (r++[p]) (S++[.lst ds]) (upd H p (.lst xs))/\Ext r (r++[p]) H (upd H p (.lst xs)):=
 h.pushO hp (XB hp) λx=>⟨xs,YN,q.ext x⟩
theorem ZY.setO (h:ZY K r S H)(hn:r[n]?=some a)(hS:S[n]?=some o)(ho:WQ o=true)(ho':WQ o'=true)(q:Ext r r H (upd H a u)->ObR K r (upd H a u) a o'):ZY K r (S.set n o') (upd H a u)/\Ext r r H (upd H a u):=by
 obtain⟨u0,h0,t1,t2,t3⟩:=(h.ob n a _ hn hS).own ho;have x:Ext r r H (upd H a u):=⟨λ_ _ e=>e,λb zs e=>by
  rw[ZV (Lr e h0 (λz=>t1 zs z.symm))];exact e,λb c e=>by
  rw[ZV (Lr e h0 (λz=>t2 c z.symm))];exact e⟩
 have hlt:n<S.length:=(zB.mp hS).1
 have off:∀ {m:Nat} {w:Ob},m≠n->(S.set n o')[m]?=some w->S[m]?=some w:=λ{m w} hm e=>by
  rw[yC (Ne.symm hm)] at e;exact e
 refine⟨⟨by simp[h.len],λm b w h1 h2=>?_,λm k b w y h1 h2 h3 h4 o1 o2=>?_⟩,x⟩
 .by_cases hm:m=n
  .subst hm;rw[hn] at h1;cases h1
   rw[yU hlt] at h2;cases h2;exact q x
  .have h2':=off hm h2
   have q':=h.ob m b w h1 h2';by_cases hw:WQ w=true
   .have hb:b≠a:=λz=>hm (by subst z;exact h.nd m n b w o h1 hn h2' hS hw ho)
    exact q'.keep x λz e=>by rw[ZV hb];exact e
   .cases w with
    | frz es=>
     obtain⟨zs,h3,h4⟩:=q';refine⟨zs,?_,h4.ext x⟩;rcases h3 with ⟨z,h3⟩|h3
     .exact .inl ⟨z,by rw[ZV (Lr h3 h0 (λy=>t3 _ _ y.symm))];exact h3⟩
     .exact .inr h3
    | tpl ws=>exact q'
    | _=>exact absurd rfl hw
 .have back:∀ {j:Nat} {w:Ob},(S.set n o')[j]?=some w->WQ w=true->∃y,S[j]?=some y/\WQ y=true:=λ{j w} e ow=>by
   by_cases hj:j=n
   .subst hj;exact⟨o,hS,ho⟩
   .exact⟨w,off hj e,ow⟩
  obtain⟨us',h3',q3⟩:=back h3 o1;obtain⟨ws',h4',q4⟩:=back h4 o2;exact h.nd m k b us' ws' h1 h2 h3' h4' q3 q4
theorem ZY.set {ds ds':List D}{xs:List V}(h:ZY K r S H)(hn:r[n]?=some a)(hS:S[n]?=some (.lst ds))(q:Rps r H ds' xs):ZY K r (S.set n (.lst ds')) (upd H a (.lst xs))/\Ext r r H (upd H a (.lst xs)):=
 h.setO hn hS rfl rfl λx=>⟨xs,YN,q.ext x⟩
end
def Rs (r:List Addr)(H:Hp)(dl:Ev)(σ:St):Prop:=dl.length=σ.length/\∀(i:Nat)(d:D),dl[i]?=some (some d)->∃v,σ[i]?=some (some v)/\Rp r H d v
theorem Rs.ext {r r':List Addr}{H H':Hp}{dl:Ev}{σ:St}(h:Rs r H dl σ)(e:Ext r r' H H'):Rs r' H' dl σ:=⟨h.1,λi d q=>by
 obtain⟨v,h1,h2⟩:=h.2 i d q;exact⟨v,h1,h2.ext e⟩⟩
theorem Rs.set {r:List Addr}{H:Hp}{dl:Ev}{σ:St}{d:D}{v:V}(i:Nat)(h:Rs r H dl σ)(q:Rp r H d v):Rs r H (dl.set i (some d)) (σ.set i (some v)):=by
 refine⟨by simp[h.1],λj e hj=>?_⟩;by_cases hij:i=j
 .subst hij;have hl:i<dl.length:=by
   have:=(zB.mp hj).1;simpa using this
  rw[yU hl] at hj;cases hj;exact⟨v,by rw[yU (by rw[<- h.1];exact hl)],q⟩
 .rw[yC hij] at hj;obtain⟨v',h1,h2⟩:=h.2 j e hj;exact⟨v',by rw[yC hij];exact h1,h2⟩
structure Zx where
 ex:Ev->Addr->Sto->Prop
 w:St->XK
abbrev Zc (ex:Addr->Sto->Prop)(E:XK):Zx:=⟨λ_=>ex,λ_=>E⟩
def VA (K:Fg)(Z:Zx)(r:List Addr)(H:Hp):Prop:=∀(dl:Ev)(σ:St)(c:Addr)(H':Hp)(r':List Addr)(S':Sto),Ext r r' H H'->Rs r' H' dl σ->ZY K r' S' H'->Z.ex dl c S'->Z.w σ (.ref c) none H'
theorem VA.ext {K:Fg}{Z:Zx}{r r':List Addr}{H H':Hp}(h:VA K Z r H)(e:Ext r r' H H'):VA K Z r' H':=λdl σ c H2 r2 S2 x=>h dl σ c H2 r2 S2 (e.trans x)
structure Rel (K:Fg)(Z:Zx)(r:List Addr)(S:Sto)(H:Hp):Prop where
 b:ZY K r S H
 xw:VA K Z r H
section
variable {K:Fg}{Z:Zx}{r r':List Addr}{S:Sto}{H H':Hp}{n:Nat}{a p:Addr}
theorem Rel.len (h:Rel K Z r S H):r.length=S.length:=h.b.len
theorem Rel.at {o:Ob}(h:Rel K Z r S H)(e:S[n]?=some o):∃a,r[n]?=some a/\ObR K r H a o:=h.b.at e
theorem Rel.same (h:Rel K Z r S H)(e:∀b o,H b=some o->H' b=some o):Rel K Z r S H':=⟨h.b.same e,h.xw.ext ⟨λ_ _ q=>q,λa xs q=>e _ _ q,λa c q=>e _ _ q⟩⟩
theorem Rel.push {ds:List D}{xs:List V}(h:Rel K Z r S H)(hp:H p=none)(q:Rps r H ds xs):Rel K Z (r++[p]) (S++[.lst ds]) (upd H p (.lst xs))/\Ext r (r++[p]) H (upd H p (.lst xs)):=by
 obtain⟨h1,h2⟩:=h.b.push hp q;exact⟨⟨h1,h.xw.ext h2⟩,h2⟩
theorem Rel.set {ds ds':List D}{xs:List V}(h:Rel K Z r S H)(hn:r[n]?=some a)(hS:S[n]?=some (.lst ds))(q:Rps r H ds' xs):Rel K Z r (S.set n (.lst ds')) (upd H a (.lst xs))/\Ext r r H (upd H a (.lst xs)):=by
 obtain⟨h1,h2⟩:=h.b.set hn hS q;exact⟨⟨h1,h.xw.ext h2⟩,h2⟩
end
def Ret (K:Fg)(Z:Zx)(r:List Addr)(H:Hp)(Q:DK)(Qv:VK):Prop:=∀v H' r' d S',Ext r r' H H'->Rel K Z r' S' H'->Rp r' H' d v->Q d S'->Qv v H'
theorem Ret.ext {K:Fg}{Z:Zx}{r r':List Addr}{H H':Hp}{Q:DK}{Qv:VK}(h:Ret K Z r H Q Qv)(e:Ext r r' H H'):Ret K Z r' H' Q Qv:=λv H2 r2 d S2 x=>h v H2 r2 d S2 (e.trans x)
def up (K:Fg)(Z:Zx)(t:TDE):TE:=λσ H Qv=>∃r dl S Q,Rs r H dl σ/\Rel K Z r S H/\t dl S Q/\Ret K Z r H Q Qv
def upT (K:Fg)(Z:Zx)(t:TDT):TT:=λσ H Qb=>∃r dl S Q,Rs r H dl σ/\Rel K Z r S H/\t dl S Q/\∀b H' r' S',Ext r r' H H'->Rel K Z r' S' H'->Q b S'->Qb b H'
def upA (K:Fg)(Z:Zx)(t:TDA):TA:=λσ H Qv=>∃r dl S Q,Rs r H dl σ/\Rel K Z r S H/\t dl S Q/\∀vs H' r' ds S',Ext r r' H H'->Rel K Z r' S' H'->Rps r' H' ds vs->Q ds S'->Qv vs H'
structure RG (K:Fg)(Z:Zx)(r:List Addr)(H:Hp)(E:Xz)(F:Wn):Prop where
 nx:∀σ' H' r' dl' S',Ext r r' H H'->Rs r' H' dl' σ'->Rel K Z r' S' H'->E.nx dl' S'->F.nx σ' H'
 bk:∀σ' H' r' dl' S',Ext r r' H H'->Rs r' H' dl' σ'->Rel K Z r' S' H'->E.bk dl' S'->F.bk σ' H'
 ct:∀σ' H' r' dl' S',Ext r r' H H'->Rs r' H' dl' σ'->Rel K Z r' S' H'->E.ct dl' S'->F.ct σ' H'
 rt:Ret K Z r H E.rt F.rt
theorem RG.ext {K:Fg}{Z:Zx}{r r':List Addr}{H H':Hp}{E:Xz}{F:Wn}(h:RG K Z r H E F)(e:Ext r r' H H'):RG K Z r' H' E F:=
 ⟨λa b c d f x=>h.nx a b c d f (e.trans x),λa b c d f x=>h.bk a b c d f (e.trans x),λa b c d f x=>h.ct a b c d f (e.trans x),h.rt.ext e⟩
def upS (K:Fg)(Z:Zx)(t:TDS):TS:=λF σ H=>∃r dl S E,Rs r H dl σ/\Rel K Z r S H/\t E dl S/\RG K Z r H E F
def PD (X:Cx)(Z:Zx)(e:Expr)(t:TDE):Prop:=PE X e (up X.K Z t)
def PDT (X:Cx)(Z:Zx)(e:Expr)(t:TDT):Prop:=PT X e (upT X.K Z t)
def PDW (X:Cx)(Z:Zx)(e:Expr)(t:TDT):Prop:=PW X e (upT X.K Z t)
def PDA (X:Cx)(Z:Zx)(es:List Expr)(t:TDA):Prop:=PA X es (upA X.K Z t)
def PDS (X:Cx)(Z:Zx)(st:Stmt)(t:TDS):Prop:=PS X st (upS X.K Z t)
def YL (X:Cx)(Z:Zx)(st:List Stmt)(t:TDS):Prop:=PSs X st (upS X.K Z t)
section
variable {X:Cx}{Z:Zx}
theorem Yc (h:PE X e t)(f:∀σ H Q,t' σ H Q->t σ H Q):PE X e t':=λpins s σ H Q I q=>h pins s σ H Q I (f σ H Q q)
theorem PU (h:PT X e t)(f:∀σ H Q,t' σ H Q->t σ H Q):PT X e t':=λpins s σ H Q I q=>h pins s σ H Q I (f σ H Q q)
theorem Fh (h:PW X e t)(f:∀σ H Q,t' σ H Q->t σ H Q):PW X e t':=λwh pins s σ H Q I q=>h wh pins s σ H Q I (f σ H Q q)
theorem IW (h:PA X e t)(f:∀σ H Q,t' σ H Q->t σ H Q):PA X e t':=λpos pins s σ H Q I q=>h pos pins s σ H Q I (f σ H Q q)
theorem Yv {e:Stmt}{t t':TS}(h:PS X e t)(f:∀F σ H,t' F σ H->t F σ H):PS X e t':=λpins s σ H F I q=>h pins s σ H F I (f F σ H q)
theorem Fc (h:PSs X e t)(f:∀F σ H,t' F σ H->t F σ H):PSs X e t':=λpins s σ H F I q=>h pins s σ H F I (f F σ H q)
theorem PDW.pt (h:PDW X Z e t):PDT X Z e t:=PW.pt h
def Y9 (i:Nat):TDE:=λdl S Q=>match dl[i]? with
 | some (some d)=>Q d S
 | _=>False
def dC (d:D):TDE:=λ_ S Q=>Q d S
theorem zfW (h:PE X e (tVar i)):PD X Z e (Y9 i):=Yc h λσ H Qv ⟨r,dl,S,Q,rs,aZ,q,ret⟩=>by
 unfold Y9 at q;split at q
 .rename_i d e;obtain⟨v,h1,h2⟩:=rs.2 i d e;exact⟨v,h1,ret v H r d S Ext.refl aZ h2 q⟩
 .exact q.elim
theorem dv (i:Nat)(hN:X.N[i]?=some x:=by rfl)(hv:Vis X.env.scope x:=by first|exact Or.inl rfl|exact Or.inr (Or.inl rfl)|exact Or.inr (Or.inr rfl))(hd:(x==("__debug__":Str))=false:=by decide)(hcd:(x==("__classdict__":Str))=false:=by decide):PD X Z (.Name x pos) (Y9 i):=zfW (Ip hN hv hd hcd)
theorem Q9 (h:PE X e (tC v))(q:∀r H,Rp r H d v):PD X Z e (dC d):=Yc h λσ H Qv ⟨r,dl,S,Q,rs,aZ,h,ret⟩=>ret v H r d S Ext.refl aZ (q r H) h
theorem Zb {i j pos}:PD X Z (.Constant (.int i) j pos) (dC (.int i)):=Q9 zag λ_ _=>.int i
theorem KY {b j pos}:PD X Z (.Constant (.bool b) j pos) (dC (.bl b)):=Q9 pe_bl λ_ _=>.bl b
theorem ZR {j pos}:PD X Z (.Constant .none j pos) (dC .non):=Q9 AK λ_ _=>.non
theorem ZU {x j pos}:PD X Z (.Constant (.str x) j pos) (dC (.str x)):=Q9 zbr λ_ _=>.str x
abbrev W2:=D->D->Sto->DK->Prop
abbrev W1:=D->Sto->DK->Prop
def upO (K:Fg)(Z:Zx)(w:W2):R2:=λx y H Qv=>∃r S dx dy Q,Rel K Z r S H/\Rp r H dx x/\Rp r H dy y/\w dx dy S Q/\Ret K Z r H Q Qv
def upU (K:Fg)(Z:Zx)(w:W1):V->Hp->VK->Prop:=λx H Qv=>∃r S dx Q,Rel K Z r S H/\Rp r H dx x/\w dx S Q/\Ret K Z r H Q Qv
def dOp (w:W2)(ta tb:TDE):TDE:=λdl S Q=>ta dl S λx S1=>tb dl S1 λy S2=>w x y S2 Q
def dUn (w:W1)(ta:TDE):TDE:=λdl S Q=>ta dl S λx S1=>w x S1 Q
variable {a b c:Expr}{ta tb tc:TDE}{pos:Pos}
theorem NC (h:up X.K Z (dOp w ta tb) σ H Qv):tOp (upO X.K Z w) (up X.K Z ta) (up X.K Z tb) σ H Qv:=by
 obtain⟨r,dl,S,Q,rs,aZ,h,ret⟩:=h;exact⟨r,dl,S,_,rs,aZ,h,λv H1 r1 dx S1 e1 aB p1 h1=>⟨r1,dl,S1,_,rs.ext e1,aB,h1,λv2 H2 r2 dy S2 e2 aC p2 h2=>⟨r2,S2,dx,dy,Q,aC,p1.ext e2,p2,h2,ret.ext (e1.trans e2)⟩⟩⟩
theorem Zi (ho:OpR X (binaryOp op) (upO X.K Z w))(ha:PD X Z a ta)(hb:PD X Z b tb):PD X Z (.BinOp a op b pos) (dOp w ta tb):=Yc (pe_op ho ha hb) λ_ _ _ h=>NC h
theorem XR (ho:UnR X (unaryOp op) (upU X.K Z w))(ha:PD X Z a ta):PD X Z (.UnaryOp op a pos) (dUn w ta):=Yc (pe_un ho ha) λσ H Qv ⟨r,dl,S,Q,rs,aZ,h,ret⟩=>
 ⟨r,dl,S,_,rs,aZ,h,λv H1 r1 dx S1 e1 aB p1 h1=>⟨r1,S1,dx,Q,aB,p1,h1,ret.ext e1⟩⟩
theorem Yt (ho:OpR X (compareOp op) (upO X.K Z w))(ha:PD X Z a ta)(hb:PD X Z b tb)(hm:behindInMarks op b=false):PD X Z (.Compare a [op] [b] pos) (dOp w ta tb):=Yc (zc6 ho ha hb hm) λ_ _ _ h=>NC h
theorem VG {f:Value->Value->Sem Value}{r r':R2}(h:OpR X f r)(g:∀x y H Q,r' x y H Q->r x y H Q):OpR X f r':=λpins s σ H x y v u Q I rx ry q=>h pins s σ H x y v u Q I rx ry (g x y H Q q)
theorem By {f:Value->Sem Value}{r r':V->Hp->VK->Prop}(h:UnR X f r)(g:∀x H Q,r' x H Q->r x H Q):UnR X f r':=λpins s σ H x v Q I rx q=>h pins s σ H x v Q I rx (g x H Q q)
theorem Md {f:Value}{r r':List V->Hp->VK->Prop}(h:Yl X f r)(g:∀x H Q,r' x H Q->r x H Q):Yl X f r':=λpins s σ H xs us Q I rx q=>h pins s σ H xs us Q I rx (g xs H Q q)
def wI (C:Int->Int->Prop)(g:Int->Int->D):W2:=λx y S Q=>match x,y with
 | .int i,.int j=>C i j/\Q (g i j) S
 | _,_=>False
def wI0 (g:Int->Int->D):W2:=λx y S Q=>match x,y with
 | .int i,.int j=>Q (g i j) S
 | _,_=>False
theorem opD (h:OpR X f (rI C g))(hg:∀r H i j,Rp r H (g' i j) (g i j)):OpR X f (upO X.K Z (wI C g')):=
 VG h λx y H Qv ⟨r,S,dx,dy,Q,aZ,px,py,q,ret⟩=>by
  cases px<;>cases py<;>first
   | exact⟨_,_,rfl,rfl,q.1,ret _ _ _ _ _ Ext.refl aZ (hg _ _ _ _) q.2⟩
   | exact(show False from q).elim
theorem Uv (h:OpR X f (rI0 g))(hg:∀r H i j,Rp r H (g' i j) (g i j)):OpR X f (upO X.K Z (wI0 g')):=
 VG h λx y H Qv ⟨r,S,dx,dy,Q,aZ,px,py,q,ret⟩=>by
  cases px<;>cases py<;>first
   | exact⟨_,_,rfl,rfl,ret _ _ _ _ _ Ext.refl aZ (hg _ _ _ _) q⟩
   | exact(show False from q).elim
abbrev wAdd:W2:=wI0 λi j=>.int (i+j)
abbrev wSub:W2:=wI0 λi j=>.int (i-j)
abbrev wMul:W2:=wI IntMulOk λi j=>.int (i*j)
def CFd (_ j:Int):Prop:=0<j/\j.natAbs.log2<9000
abbrev wFdiv:W2:=wI CFd λi j=>.int (i/j)
def CFn (_ j:Int):Prop:=j≠0/\j.natAbs.log2<9000
abbrev zaD:W2:=wI CFn λi j=>.int (i.fdiv j)
abbrev wMod:W2:=wI (λ_ j=>0<j) λi j=>.int (i%j)
abbrev wPow:W2:=wI Oj λi j=>.int (i^j.toNat)
theorem Z4:OpR X (binaryOp .Add) (upO X.K Z wAdd):=Uv Bo λ_ _ _ _=>.int _
theorem Yb:OpR X (binaryOp .Sub) (upO X.K Z wSub):=Uv zgy λ_ _ _ _=>.int _
theorem ZQ:OpR X (binaryOp .Mult) (upO X.K Z wMul):=opD (opI λ_ _ _ _ _ _ _ hc q=>mul_int q hc) λ_ _ _ _=>.int _
theorem Xk:OpR X (binaryOp .FloorDiv) (upO X.K Z wFdiv):=opD (opI λi j _ _ _ _ _ hc q=>floordiv_int (by have h:0<j:=hc.1;omega) (by have h:0<j:=hc.1;rw[wJ i (by omega)];exact q) (.inl (PyProof.noPylong_of_log2 hc.2))) λ_ _ _ _=>.int _
theorem Bj:OpR X (binaryOp .FloorDiv) (upO X.K Z zaD):=opD (opI λ_ _ _ _ _ _ _ hc q=>floordiv_int hc.1 q (.inl (PyProof.noPylong_of_log2 hc.2))) λ_ _ _ _=>.int _
theorem Y6:OpR X (binaryOp .Mod) (upO X.K Z wMod):=opD zd6 λ_ _ _ _=>.int _
theorem zdS:OpR X (binaryOp .Pow) (upO X.K Z wPow):=opD zcr λ_ _ _ _=>.int _
abbrev wLt:W2:=wI0 λi j=>.bl (decide (i<j))
abbrev wLe:W2:=wI0 λi j=>.bl (decide (i<=j))
abbrev wGt:W2:=wI0 λi j=>.bl (decide (j<i))
abbrev wGe:W2:=wI0 λi j=>.bl (decide (j<=i))
theorem Yz:OpR X (compareOp .Lt) (upO X.K Z wLt):=Uv op_lt λ_ _ _ _=>.bl _
theorem VR:OpR X (compareOp .LtE) (upO X.K Z wLe):=Uv op_le λ_ _ _ _=>.bl _
theorem U1:OpR X (compareOp .Gt) (upO X.K Z wGt):=Uv op_gt λ_ _ _ _=>.bl _
theorem do_ge:OpR X (compareOp .GtE) (upO X.K Z wGe):=Uv op_ge λ_ _ _ _=>.bl _
def wNeg:W1:=λx S Q=>match x with
 | .int i=>Q (.int (-i)) S
 | _=>False
theorem XJ:UnR X (unaryOp .USub) (upU X.K Z wNeg):=By BN λx H Qv ⟨r,S,dx,Q,aZ,px,q,ret⟩=>by
 cases px<;>first
  | exact⟨_,rfl,ret _ _ _ _ _ Ext.refl aZ (.int _) q⟩
  | exact(show False from q).elim
end
def eqF:D->D->Option Bool
 | .non,.non=>some true
 | .bl i,.bl j=>some (i==j)
 | .int i,.int j=>some (decide (i=j))
 | .str i,.str j=>some (decide (i=j))
 | .non,.int _=>some false|.int _,.non=>some false|.non,.bl _=>some false|.bl _,.non=>some false|.non,.str _=>some false|.str _,.non=>some false
 | .int _,.str _=>some false|.str _,.int _=>some false|.bl _,.str _=>some false|.str _,.bl _=>some false
 | _,_=>none
def eqL (f:D->D->Option Bool):List D->List D->Option Bool
 | [],[]=>some true
 | x::xs,y::ys=>match f x y,eqL f xs ys with
  | some b,some c=>some (b&&c)
  | _,_=>none
 | _,_=>some false
def eqT (f:D->D->Option Bool):D->D->Option Bool
 | .tup xs,.tup ys=>eqL f xs ys
 | x,y=>eqF x y
abbrev eq1:D->D->Option Bool:=eqT eqF
abbrev eq2:D->D->Option Bool:=eqT eq1
def Vo (n:Nat)(f:D->D->Option Bool):Prop:=∀(X:Cx)(pins:LA)(σ:St)(H:Hp)(s:Shared)(r:List Addr)(A:Around)(dx dy:D)(x y:V)(u v:Value)(b:Bool),
 Inv X pins σ H s->A.units+n<cLine->Rp r H dx x->Rp r H dy y->Zw x u->Zw y v->f dx dy=some b->SeqAt.EqAt A s u v b
def TU (f:D->D->Option Bool):Prop:=∀(r:List Addr)(H:Hp)(dx dy:D)(x:V)(b:Bool),Rp r H dx x->Rp r H dy x->f dx dy=some b->b=true
theorem Tv:TU eqF:=by
 intro r H dx dy x b px py e;cases px<;>cases py<;>simp[eqF] at e<;>first|exact e.symm|exact e
theorem D6 {f:D->D->Option Bool}(hf:TU f){r:List Addr}{H:Hp}:∀ {xs ys:List D} {vs:List V} {b:Bool},Rps r H xs vs->Rps r H ys vs->eqL f xs ys=some b->b=true
 | [],[],_,b,_,_,e=>by simp[eqL] at e;exact e
 | [],y::ys,vs,b,p,q,e=>by
  have h1:=p.unnil;subst h1;exact absurd q.1 (by simp)
 | x::xs,[],vs,b,p,q,e=>by
  have h1:=q.unnil;subst h1;exact absurd p.1 (by simp)
 | x::xs,y::ys,vs,b,p,q,e=>by
  obtain⟨v,vs',rfl,p1,p2⟩:=p.uncons;obtain⟨q1,q2⟩:=q.tail;unfold eqL at e;split at e
  .rename_i b1 c1 e1 e2;have h1:=hf r H x y v b1 p1 q1 e1
   have h2:=D6 hf p2 q2 e2;subst h1;subst h2
   simp at e;exact e
  .cases e
theorem IF (hf:TU f):TU (eqT f):=by
 intro r H dx dy x b px py e;cases px with
 | tup e1 l1 f1=>
  cases py with
  | tup e2 l2 f2=>
   rw[e1] at e2;cases e2
   exact D6 hf ⟨l1,f1⟩ ⟨l2,f2⟩ e
  | ref h=>simp[eqT,eqF] at e
  | exc h=>simp[eqT,eqF] at e
 | non=>exact Tv r H _ _ _ b .non py (by cases py<;>exact e)
 | bl i=>exact Tv r H _ _ _ b (.bl i) py (by cases py<;>exact e)
 | int i=>exact Tv r H _ _ _ b (.int i) py (by cases py<;>exact e)
 | str i=>exact Tv r H _ _ _ b (.str i) py (by cases py<;>exact e)
 | ref h=>cases py<;>simp[eqT,eqF] at e
 | exc h=>cases py<;>simp[eqT,eqF] at e
theorem Ko (n:Nat):Vo n eqF:=by
 intro X pins σ H s r A dx dy x y u v b I hu px py rx ry e;have aY:∀ {x y:V},Zw x u->Zw y v->O1 x=true->O1 y=true->eqV x y=b->SeqAt.EqAt A s u v b:=λrx ry fx fy e'=>by
  subst e';exact Cy rx ry fx fy
 cases px<;>cases py<;>simp[eqF] at e<;>refine aY rx ry rfl rfl ?_<;>simp[eqV,e]<;>first|exact e|(subst e;simp)|skip
theorem UE (I:Inv X pins σ H s)(h:H a=some (.tup xs)):∃aX:List Value,Zv xs aX/\IsTup s.heap a aX.toArray/\xs.length<=sizeLine:=I.tuple (SqT.of h)
def XM (f:D->D->Option Bool)(xs ys:List D)(j:Nat):Bool:=match xs[j]?,ys[j]? with
 | some x,some y=>(f x y).getD false
 | _,_=>false
theorem Io:∀ {xs ys:List D} {b:Bool},eqL f xs ys=some b->(∀(j:Nat)(x y:D),xs[j]?=some x->ys[j]?=some y->∃c,f x y=some c)/\((List.range (min xs.length ys.length)).all (XM f xs ys)&&xs.length==ys.length)=b
 | [],[],b,e=>by simp[eqL] at e;subst e;simp
 | [],y::ys,b,e=>by simp[eqL] at e;subst e;simp
 | x::xs,[],b,e=>by simp[eqL] at e;subst e;simp
 | x::xs,y::ys,b,e=>by
  unfold eqL at e;split at e
  .rename_i b1 c1 e1 e2;obtain⟨h1,h2⟩:=Io e2;refine⟨λj p q hp hq=>?_,?_⟩
   .cases j with
    | zero=>simp at hp hq;subst hp;subst hq;exact⟨b1,e1⟩
    | succ j=>exact h1 j p q (by simpa using hp) (by simpa using hq)
   .have z:min (x::xs).length (y::ys).length=min xs.length ys.length+1:=by simp[Nat.succ_min_succ]
    rw[z,List.range_succ_eq_map,List.all_cons,List.all_map];have e0:XM f (x::xs) (y::ys) 0=b1:=by simp[XM,e1]
    have es:(XM f (x::xs) (y::ys) ∘ Nat.succ)=XM f xs ys:=by funext j;simp[XM]
    rw[e0,es];have e3:((x::xs).length==(y::ys).length)=(xs.length==ys.length):=by simp
    rw[e3,Bool.and_assoc,h2];simp at e;exact e
  .cases e
theorem QJ {n:Nat}{f:D->D->Option Bool}(hf:Vo n f){X:Cx}{pins:LA}{σ:St}{H:Hp}{s:Shared}{r:List Addr}{A:Around}{xs ys:List D}{us vs:List V}{is js:List Value}{b:Bool}
  (I:Inv X pins σ H s)(hu:A.units+n<cLine)(p:Rps r H xs us)(q:Rps r H ys vs)(ri:Zv us is)(rj:Zv vs js)(e:eqL f xs ys=some b):
  (∀j (h1:j<is.toArray.size) (h2:j<js.toArray.size),SeqAt.EqAt A s is.toArray[j] js.toArray[j] (XM f xs ys j))/\((List.range (min is.toArray.size js.toArray.size)).all (XM f xs ys)&&is.toArray.size==js.toArray.size)=b:=by
 obtain⟨h1,h2⟩:=Io e;have l1:is.toArray.size=xs.length:=by rw[zU,<- ri.length,p.1]
 have l2:js.toArray.size=ys.length:=by rw[zU,<- rj.length,q.1]
 refine⟨λj hj1 hj2=>?_,by rw[l1,l2];exact h2⟩;have k1:j<xs.length:=by omega
 have k2:j<ys.length:=by omega
 have g1:xs[j]?=some xs[j]:=by simp[k1]
 have g2:ys[j]?=some ys[j]:=by simp[k2]
 obtain⟨x,gx,px⟩:=p.get g1;obtain⟨y,gy,py⟩:=q.get g2;obtain⟨u,gu,ru⟩:=ri.get gx;obtain⟨v,gv,rv⟩:=rj.get gy;obtain⟨c,hc⟩:=h1 j _ _ g1 g2;have eu:is.toArray[j]=u:=by
  have z:=zB.mp gu;simpa using z.2
 have ev:js.toArray[j]=v:=by
  have z:=zB.mp gv;simpa using z.2
 have ec:XM f xs ys j=c:=by simp[XM,g1,g2,hc]
 rw[eu,ev,ec];exact hf X pins σ H s r A _ _ x y u v c I hu px py ru rv hc
theorem Et (hf:Vo n f)(hs:TU f):Vo (n+1) (eqT f):=by
 intro X pins σ H s r A dx dy x y u v b I hu px py rx ry e;have flat:∀ {dx dy:D} {x y:V},Rp r H dx x->Rp r H dy y->Zw x u->Zw y v->eqF dx dy=some b->SeqAt.EqAt A s u v b:=λpx py rx ry e=>Ko (n+1) X pins σ H s r A _ _ _ _ u v b I hu px py rx ry e
 cases px with
 | @tup ds xs a e1 l1 f1=>
  cases py with
  | @tup es ys a' e2 l2 f2=>
   cases rx;cases ry;by_cases z:a=a'
   .subst z;have hb:=IF hs r H _ _ _ b (.tup e1 l1 f1) (.tup e2 l2 f2) e;subst hb;exact SeqAt.EqAt.same _
   .obtain⟨is,ri,ti,_⟩:=UE I e1;obtain⟨js,rj,tj,_⟩:=UE I e2;obtain⟨g1,g2⟩:=QJ (A:=A.in1) hf I (by show A.units+1+n<_;omega) ⟨l1,f1⟩ ⟨l2,f2⟩ ri rj e;have q:=SeqAt.RcAt.tuples (A:=A) ti tj (by omega) g1;rw[g2] at q;exact SeqAt.EqAt.of_refs z q
  | ref h=>simp[eqT,eqF] at e
  | _=>simp[eqT,eqF] at e
 | non=>exact flat .non py rx ry (by cases py<;>exact e)
 | bl i=>exact flat (.bl i) py rx ry (by cases py<;>exact e)
 | int i=>exact flat (.int i) py rx ry (by cases py<;>exact e)
 | str i=>exact flat (.str i) py rx ry (by cases py<;>exact e)
 | ref h=>cases py<;>simp[eqT,eqF] at e
 | exc h=>cases py<;>simp[eqT,eqF] at e
theorem GX (n:Nat):Vo (n+1) eq1:=Et (Ko n) Tv
def wEq (f:D->D->Option Bool):W2:=λx y S Q=>match f x y with
 | some b=>Q (.bl b) S
 | none=>False
def wNe (f:D->D->Option Bool):W2:=λx y S Q=>match f x y with
 | some b=>Q (.bl (!b)) S
 | none=>False
theorem EH {r:List Addr}{H:Hp}{dx dy:D}{x y:V}{b:Bool}(px:Rp r H dx x)(py:Rp r H dy y)(e:eqF dx dy=some b):Ng x y=true/\decide (x=y)=b:=by
 cases px<;>cases py<;>simp[eqF] at e<;>simp[Ng]<;>first|exact e|(subst e;simp)|skip
theorem FI (hf:Vo n f)(hu:X.A.units+1+n<cLine):OpR X (compareOp .Eq) (upO X.K Z (wEq (eqT f))):=by
 intro pins s σ H x y v u Qv I rx ry h;obtain⟨r,S,dx,dy,Q,aZ,px,py,q,ret⟩:=h;unfold wEq at q;split at q
 .rename_i b e;have flat:∀ {dx dy:D} {x y:V},Rp r H dx x->Rp r H dy y->Zw x v->Zw y u->eqF dx dy=some b->wpAny (mX X) X.A (compareOp .Eq v u) (EP X pins σ Qv) X.xe s:=λpx py rx ry e=>by
   obtain⟨h1,h2⟩:=EH px py e;refine Jw pins s σ H _ _ v u Qv I rx ry ⟨h1,?_⟩;rw[h2];exact ret _ _ _ _ _ Ext.refl aZ (.bl b) q
  cases px with
  | @tup ds xs a e1 l1 f1=>
   cases py with
   | @tup es ys a' e2 l2 f2=>
    cases rx;cases ry;obtain⟨is,ri,ti,_⟩:=UE I e1;obtain⟨js,rj,tj,_⟩:=UE I e2;obtain⟨g1,g2⟩:=QJ (A:=X.A.in1) hf I (by show X.A.units+1+n<_;omega) ⟨l1,f1⟩ ⟨l2,f2⟩ ri rj e;refine SeqAt.eq_tupleAt (A:=X.A) ti tj (by omega) g1 ?_;rw[g2];exact⟨.bl b,H,I,rfl,ret _ _ _ _ _ Ext.refl aZ (.bl b) q⟩
   | _=>simp[eqT,eqF] at e
  | non=>exact flat .non py rx ry (by cases py<;>exact e)
  | bl i=>exact flat (.bl i) py rx ry (by cases py<;>exact e)
  | int i=>exact flat (.int i) py rx ry (by cases py<;>exact e)
  | str i=>exact flat (.str i) py rx ry (by cases py<;>exact e)
  | ref h=>cases py<;>simp[eqT,eqF] at e
  | exc h=>cases py<;>simp[eqT,eqF] at e
 .exact q.elim
theorem BY (hf:Vo n f)(hu:X.A.units+1+n<cLine):OpR X (compareOp .NotEq) (upO X.K Z (wNe (eqT f))):=by
 intro pins s σ H x y v u Qv I rx ry h;obtain⟨r,S,dx,dy,Q,aZ,px,py,q,ret⟩:=h;unfold wNe at q;split at q
 .rename_i b e;have flat:∀ {dx dy:D} {x y:V},Rp r H dx x->Rp r H dy y->Zw x v->Zw y u->eqF dx dy=some b->wpAny (mX X) X.A (compareOp .NotEq v u) (EP X pins σ Qv) X.xe s:=λpx py rx ry e=>by
   obtain⟨h1,h2⟩:=EH px py e;refine op_ne pins s σ H _ _ v u Qv I rx ry ⟨h1,?_⟩;rw[h2];exact ret _ _ _ _ _ Ext.refl aZ (.bl (!b)) q
  cases px with
  | @tup ds xs a e1 l1 f1=>
   cases py with
   | @tup es ys a' e2 l2 f2=>
    cases rx;cases ry;obtain⟨is,ri,ti,_⟩:=UE I e1;obtain⟨js,rj,tj,_⟩:=UE I e2;obtain⟨g1,g2⟩:=QJ (A:=X.A.in1) hf I (by show X.A.units+1+n<_;omega) ⟨l1,f1⟩ ⟨l2,f2⟩ ri rj e;refine SeqAt.RcNeAt.tuples (A:=X.A) ti tj (by omega) g1 X.prog X.w _ _ ?_;rw[g2];exact⟨.bl (!b),H,I,rfl,ret _ _ _ _ _ Ext.refl aZ (.bl (!b)) q⟩
   | _=>simp[eqT,eqF] at e
  | non=>exact flat .non py rx ry (by cases py<;>exact e)
  | bl i=>exact flat (.bl i) py rx ry (by cases py<;>exact e)
  | int i=>exact flat (.int i) py rx ry (by cases py<;>exact e)
  | str i=>exact flat (.str i) py rx ry (by cases py<;>exact e)
  | ref h=>cases py<;>simp[eqT,eqF] at e
  | exc h=>cases py<;>simp[eqT,eqF] at e
 .exact q.elim
theorem ZS (hr:ZF k X.A):OpR X (compareOp .Eq) (upO X.K Z (wEq eq2)):=FI (GX 0) (by have:=hr.un;omega)
theorem DS (hr:ZF k X.A):OpR X (compareOp .NotEq) (upO X.K Z (wNe eq2)):=BY (GX 0) (by have:=hr.un;omega)
section
variable {X:Cx}{Z:Zx}{a b c:Expr}{ta tb tc:TDE}{pos:Pos}{Yg:List Expr}
def My (t:TDE):TDT:=λdl S Q=>t dl S λd S'=>match d with
 | .bl k=>Q k S'
 | _=>False
theorem KZ {K:Fg}{Z:Zx}{r:List Addr}{H:Hp}{Q:Bool->Sto->Prop}{Qb:Bool->Hp->Prop}(h:∀b H' r' S',Ext r r' H H'->Rel K Z r' S' H'->Q b S'->Qb b H'):
  Ret K Z r H (λd S'=>match d with|.bl k=>Q k S'|_=>False) (λx H'=>∃k,x=.bl k/\Qb k H'):=λv H' r' d S' e aZ p q=>by
 cases p with
 | bl k=>exact⟨k,rfl,h k H' r' S' e aZ q⟩
 | _=>exact(show False from q).elim
theorem ZA {op:CmpOp}{w:W2}(ho:OpR X (compareOp op) (upO X.K Z w))(ha:PD X Z a ta)(hb:PD X Z b tb)(hm:behindInMarks op b=false):PDT X Z (.Compare a [op] [b] pos) (My (dOp w ta tb)):=
 PU (zce ho ha hb hm) λσ H Qb ⟨r,dl,S,Q,rs,aZ,h,ret⟩=>NC ⟨r,dl,S,_,rs,aZ,h,KZ ret⟩
theorem Y7 {e:Expr}{t:TDE}(h:PD X Z e t)(he:∀aO,isTrue e X.env aO=(do let v <- aO;standAt e.pos;holding [v] (truthy v)):=by intro _;rfl):PDT X Z e (My t):=
 PU (CZ h he) λσ H Qb ⟨r,dl,S,Q,rs,aZ,h,ret⟩=>⟨r,dl,S,_,rs,aZ,h,KZ ret⟩
def dNot (t:TDT):TDT:=λdl S Q=>t dl S λk S'=>Q (!k) S'
theorem UM (ha:PDT X Z a t):PDT X Z (.UnaryOp .Not a pos) (dNot t):=
 PU (zh0 ha) λσ H Qb ⟨r,dl,S,Q,rs,aZ,h,ret⟩=>⟨r,dl,S,_,rs,aZ,h,λk H' r' S' e rel' q=>ret (!k) H' r' S' e rel' q⟩
def dAnd (t u:TDT):TDT:=λdl S Q=>t dl S λk S1=>if k=true then u dl S1 Q else Q false S1
def dOr (t u:TDT):TDT:=λdl S Q=>t dl S λk S1=>if k=true then Q true S1 else u dl S1 Q
theorem HY (ha:PDT X Z a t):PDW X Z (.BoolOp .And [a] pos) t:=zeG ha
theorem PL (ha:PDT X Z a t):PDW X Z (.BoolOp .Or [a] pos) t:=Bs ha
theorem Dd (ha:PDT X Z a t)(hb:PDW X Z (.BoolOp .And (b::Yg) pos) u):PDW X Z (.BoolOp .And (a::b::Yg) pos) (dAnd t u):=
 Fh (zbj ha hb) λσ H Qb ⟨r,dl,S,Q,rs,aZ,h,ret⟩=>⟨r,dl,S,_,rs,aZ,h,λk H1 r1 S1 e1 aB q1=>by
  cases k with
  | true=>exact YA ⟨r1,dl,S1,Q,rs.ext e1,aB,(by simpa using q1),λk' H2 r2 S2 e2=>ret k' H2 r2 S2 (e1.trans e2)⟩
  | false=>exact YB (ret false H1 r1 S1 e1 aB (by simpa using q1))⟩
theorem RS (ha:PDT X Z a t)(hb:PDW X Z (.BoolOp .Or (b::Yg) pos) u):PDW X Z (.BoolOp .Or (a::b::Yg) pos) (dOr t u):=
 Fh (pw_or ha hb) λσ H Qb ⟨r,dl,S,Q,rs,aZ,h,ret⟩=>⟨r,dl,S,_,rs,aZ,h,λk H1 r1 S1 e1 aB q1=>by
  cases k with
  | true=>exact YA (ret true H1 r1 S1 e1 aB (by simpa using q1))
  | false=>exact YB ⟨r1,dl,S1,Q,rs.ext e1,aB,(by simpa using q1),λk' H2 r2 S2 e2=>ret k' H2 r2 S2 (e1.trans e2)⟩⟩
def dAndV (ta tb:TDE):TDE:=λdl S Q=>ta dl S λx S1=>match x with
 | .bl k=>if k=true then tb dl S1 Q else Q (.bl false) S1
 | _=>False
def dOrV (ta tb:TDE):TDE:=λdl S Q=>ta dl S λx S1=>match x with
 | .bl k=>if k=true then Q (.bl true) S1 else tb dl S1 Q
 | _=>False
theorem Ux {op}(h:PD X Z a t):PD X Z (.BoolOp op [a] pos) t:=zaH h
theorem SF (ha:PD X Z a ta)(hb:PD X Z (.BoolOp .And (b::Yg) pos) tb):PD X Z (.BoolOp .And (a::b::Yg) pos) (dAndV ta tb):=
 Yc (zch ha hb) λσ H Qv ⟨r,dl,S,Q,rs,aZ,h,ret⟩=>⟨r,dl,S,_,rs,aZ,h,λv H1 r1 d S1 e1 aB p q1=>by
  cases p with
  | bl k=>
   refine⟨k,rfl,?_⟩;cases k with
   | true=>exact YA ⟨r1,dl,S1,Q,rs.ext e1,aB,(by simpa using q1),ret.ext e1⟩
   | false=>exact YB (ret _ H1 r1 (.bl false) S1 e1 aB (.bl false) (by simpa using q1))
  | _=>exact(show False from q1).elim⟩
theorem pd_or (ha:PD X Z a ta)(hb:PD X Z (.BoolOp .Or (b::Yg) pos) tb):PD X Z (.BoolOp .Or (a::b::Yg) pos) (dOrV ta tb):=
 Yc (pe_or ha hb) λσ H Qv ⟨r,dl,S,Q,rs,aZ,h,ret⟩=>⟨r,dl,S,_,rs,aZ,h,λv H1 r1 d S1 e1 aB p q1=>by
  cases p with
  | bl k=>
   refine⟨k,rfl,?_⟩;cases k with
   | true=>exact YA (ret _ H1 r1 (.bl true) S1 e1 aB (.bl true) (by simpa using q1))
   | false=>exact YB ⟨r1,dl,S1,Q,rs.ext e1,aB,(by simpa using q1),ret.ext e1⟩
  | _=>exact(show False from q1).elim⟩
def dIfE (t:TDT)(ta tb:TDE):TDE:=λdl S Q=>t dl S λk S1=>if k=true then ta dl S1 Q else tb dl S1 Q
theorem XE (hc:PDT X Z c t)(ha:PD X Z a ta)(hb:PD X Z b tb):PD X Z (.IfExp c a b pos) (dIfE t ta tb):=
 Yc (zeZ hc ha hb) λσ H Qv ⟨r,dl,S,Q,rs,aZ,h,ret⟩=>⟨r,dl,S,_,rs,aZ,h,λk H1 r1 S1 e1 aB q1=>by
  cases k with
  | true=>exact YA ⟨r1,dl,S1,Q,rs.ext e1,aB,(by simpa using q1),ret.ext e1⟩
  | false=>exact YB ⟨r1,dl,S1,Q,rs.ext e1,aB,(by simpa using q1),ret.ext e1⟩⟩
def MB (w w':W2)(ta tb tc:TDE):TDE:=λdl S Q=>ta dl S λx S1=>tb dl S1 λy S2=>w x y S2 λz S3=>match z with
 | .bl k=>if k=true then tc dl S3 λu S4=>w' y u S4 Q else Q (.bl false) S3
 | _=>False
theorem GH (h:up X.K Z (MB w w' ta tb tc) σ H Qv):M6 (upO X.K Z w) (upO X.K Z w') (up X.K Z ta) (up X.K Z tb) (up X.K Z tc) σ H Qv:=by
 obtain⟨r,dl,S,Q,rs,aZ,h,ret⟩:=h;refine⟨r,dl,S,_,rs,aZ,h,λv H1 r1 dx S1 e1 aB p1 h1=>⟨r1,dl,S1,_,rs.ext e1,aB,h1,λv2 H2 r2 dy S2 e2 aC p2 h2=>⟨r2,S2,dx,dy,_,aC,p1.ext e2,p2,h2,λv3 H3 r3 dz S3 e3 aE p3 h3=>?_⟩⟩⟩;cases p3 with
 | bl k=>
  refine⟨k,rfl,?_⟩;cases k with
  | true=>exact YA ⟨r3,dl,S3,_,rs.ext (e1.trans (e2.trans e3)),aE,(by simpa using h3),λv4 H4 r4 du S4 e4 aF p4 h4=>⟨r4,S4,dy,du,Q,aF,(p2.ext e3).ext e4,p4,h4,ret.ext (e1.trans (e2.trans (e3.trans e4)))⟩⟩
  | false=>exact YB (ret _ H3 r3 (.bl false) S3 (e1.trans (e2.trans e3)) aE (.bl false) (by simpa using h3))
 | _=>exact(show False from h3).elim
theorem BE (ho:OpR X (compareOp op) (upO X.K Z w))(ho':OpR X (compareOp op') (upO X.K Z w'))(ha:PD X Z a ta)(hb:PD X Z b tb)(hc:PD X Z c tc)(hm:lastMarks [op,op'] [b,c]=false:=by with_unfolding_all rfl):PD X Z (.Compare a [op,op'] [b,c] pos) (MB w w' ta tb tc):=Yc (A7 ho ho' ha hb hc hm) λ_ _ _ h=>GH h
theorem G6 {op op':CmpOp}{w w':W2}(ho:OpR X (compareOp op) (upO X.K Z w))(ho':OpR X (compareOp op') (upO X.K Z w'))(ha:PD X Z a ta)(hb:PD X Z b tb)(hc:PD X Z c tc)
  (hm:lastMarks [op,op'] [b,c]=false:=by with_unfolding_all rfl):PDT X Z (.Compare a [op,op'] [b,c] pos) (My (MB w w' ta tb tc)):=
 PU (zfc ho ho' ha hb hc hm) λσ H Qb ⟨r,dl,S,Q,rs,aZ,h,ret⟩=>GH ⟨r,dl,S,_,rs,aZ,h,KZ ret⟩
def R8:D->Bool
 | .non=>true
 | _=>false
def wIsN:W2:=λx y S Q=>match y with
 | .non=>Q (.bl (R8 x)) S
 | _=>False
def wNotN:W2:=λx y S Q=>match y with
 | .non=>Q (.bl (!R8 x)) S
 | _=>False
theorem HK {r:List Addr}{H:Hp}{d:D}{x:V}(p:Rp r H d x):decide (x=.non)=R8 d:=by
 cases p<;>simp[R8]
theorem YO:OpR X (compareOp .Is) (upO X.K Z wIsN):=VG zfJ λx y H Qv ⟨r,S,dx,dy,Q,aZ,px,py,q,ret⟩=>by
 cases py with
 | non=>exact⟨rfl,by rw[HK px];exact ret _ _ _ _ _ Ext.refl aZ (.bl _) q⟩
 | _=>exact(show False from q).elim
theorem Jk:OpR X (compareOp .IsNot) (upO X.K Z wNotN):=VG zeD λx y H Qv ⟨r,S,dx,dy,Q,aZ,px,py,q,ret⟩=>by
 cases py with
 | non=>exact⟨rfl,by rw[HK px];exact ret _ _ _ _ _ Ext.refl aZ (.bl _) q⟩
 | _=>exact(show False from q).elim
variable {e:Expr}{es:List Expr}
def SD:TDA:=λ_ S Q=>Q [] S
def So (ta:TDE)(tr:TDA):TDA:=λdl S Q=>ta dl S λx S1=>tr dl S1 λxs S2=>Q (x::xs) S2
theorem Zf:PDA X Z [] SD:=IW JS λσ H Qv ⟨r,dl,S,Q,rs,aZ,h,ret⟩=>ret [] H r [] S Ext.refl aZ Rps.nil h
theorem Za (ha:PD X Z e te)(hr:PDA X Z es t)(hs:starEach (e::es) X.env=(false,eval e X.env)::starEach es X.env:=by rfl):PDA X Z (e::es) (So te t):=
 IW (JN ha hr hs) λσ H Qv ⟨r,dl,S,Q,rs,aZ,h,ret⟩=>⟨r,dl,S,_,rs,aZ,h,λv H1 r1 d S1 e1 aB p1 h1=>⟨r1,dl,S1,_,rs.ext e1,aB,h1,λvs H2 r2 ds S2 e2 aC p2 h2=>
  ret (v::vs) H2 r2 (d::ds) S2 (e1.trans e2) aC (Rps.cons (p1.ext e2) p2) h2⟩⟩
def dTup (t:TDA):TDE:=λdl S Q=>t dl S λds S1=>if ds.length<=1000 then Q (.tup ds) S1 else False
def dLst (t:TDA):TDE:=λdl S Q=>t dl S λds S1=>if ds.length<=1000 then Q (.ref S1.length) (S1++[.lst ds]) else False
theorem Od [Decidable p] (h:if p then A else False):p/\A:=by
 split at h
 .exact⟨by assumption,h⟩
 .exact h.elim
theorem Tg (h:n<=1000):n<=sizeLine:=xD (Rx h)
theorem Zz {x1}(h:PDA X Z es t):PD X Z (.Tuple es x1 pos) (dTup t):=
 Yc (Aq h) λσ H Qv ⟨r,dl,S,Q,rs,aZ,h,ret⟩=>⟨r,dl,S,_,rs,aZ,h,λvs H1 r1 ds S1 e1 aB p1 h1=>by
  obtain⟨hl,h1⟩:=Od h1;refine⟨by rw[<- p1.1];exact Tg hl,λp hp=>?_⟩;have x:Ext r1 r1 H1 (upd H1 p (.tup vs)):=⟨λ_ _ q=>q,λa xs q=>XB hp _ _ q,λa c q=>XB hp _ _ q⟩;exact ret _ _ r1 (.tup ds) S1 (e1.trans x) (aB.same (XB hp)) ((p1.ext x).tupR YN) h1⟩
theorem Vy {r:List Addr}{p:Addr}{H:Hp}{n:Nat}(h:r.length=n):Rp (r++[p]) H (.ref n) (.ref p):=.ref (by subst h;simp)
theorem Yr (h:PDA X Z es t):PD X Z (.List es pos) (dLst t):=
 Yc (zd5 h) λσ H Qv ⟨r,dl,S,Q,rs,aZ,h,ret⟩=>⟨r,dl,S,_,rs,aZ,h,λvs H1 r1 ds S1 e1 aB p1 h1=>by
  obtain⟨hl,h1⟩:=Od h1;refine⟨by rw[<- p1.1];exact Tg hl,λp hp=>?_⟩;obtain⟨aC,x⟩:=aB.push hp p1;exact ret _ _ _ (.ref S1.length) _ (e1.trans x) aC (Vy aB.len) h1⟩
def wIx:W2:=λx y S Q=>match x,y with
 | .tup xs,.int i=>match atI xs i with
  | some d=>Q d S
  | none=>False
 | .ref n,.int i=>match lAt S n with
  | some o=>match atI (Zk o) i with
   | some d=>Q d S
   | none=>False
  | none=>False
 | _,_=>False
theorem Ff {r:List Addr}{H:Hp}{ds:List D}{vs:List V}{i:Int}{d:D}(h:Rps r H ds vs)(e:atI ds i=some d):∃v,atI vs i=some v/\Rp r H d v:=by
  unfold atI at e ⊢;rw[<- h.1];cases q:ixN ds.length i with
  | none=>
   rw[q] at e;cases e
  | some j=>
    rw[q] at e;exact h.get e
theorem do_ix:IxR X (upO X.K Z wIx):=by
 intro value slice pins s σ H x y v u Qv I rx ry h hs;obtain⟨r,S,dx,dy,Q,aZ,px,py,q,ret⟩:=h;cases px with
 | @tup ds xs a e1 l1 f1=>
  cases py with
  | int i=>
   have q':(match atI ds i with|some d=>Q d S|none=>False):=q;split at q'
   .rename_i d e;obtain⟨w,hw,pw⟩:=Ff ⟨l1,f1⟩ e;exact zbc value slice pins s σ H _ _ v u Qv I rx ry ⟨a,xs,i,w,rfl,rfl,SqT.of e1,hw,ret w H r d S Ext.refl aZ pw q'⟩ hs
   .exact q'.elim
  | _=>exact(show False from q).elim
 | @ref n a e1=>
  cases py with
  | int i=>
   have q':(match lAt S n with|some o=>(match atI (Zk o) i with|some d=>Q d S|none=>False)|none=>False):=q;split at q'
   .rename_i o eo;obtain⟨eo,eL⟩:=Yy eo;obtain⟨a',ha,ob⟩:=aZ.at eo;rw[e1] at ha;cases ha
    obtain⟨xs,sq,pr⟩:=ob.list eL;split at q'
    .rename_i d e;obtain⟨w,hw,pw⟩:=Ff pr e;exact AW value slice pins s σ H _ _ v u Qv I rx ry ⟨a,xs,i,w,rfl,rfl,sq,hw,ret w H r d S Ext.refl aZ pw q'⟩ hs
    .exact q'.elim
   .exact q'.elim
  | _=>exact(show False from q).elim
 | _=>exact(show False from q).elim
theorem F7 (ha:PD X Z a ta)(hb:PD X Z b tb)(hs:UP b):PD X Z (.Subscript a b pos) (dOp wIx ta tb):=Yc (pe_ix do_ix ha hb hs) λ_ _ _ h=>NC h
theorem Tb (ha:PD X Z a ta)(hb:PD X Z b tb)(hs:UP b:=by exact λ_ _=>rfl):PD X Z (.Subscript a b pos) (dOp wIx ta tb):=F7 ha hb hs
end
structure Bk (fs:List Addr)(H H':Hp)(B h:Heap)(ea:Addr):Prop where
 trk:∀b u,H' b=some u->∃o,B.get? b=some o
 old:∀b o,h.get? b=some o->H b=none->b ∉ fs->B.get? b=some o
 all:∀b o,h.get? b=some o->b ∉ fs->∃o',B.get? b=some o'
 new:H' ea=none
def CXE (P:Program)(w:World):CXT:=λouter H s E e s'=>∃(ea c:Addr)(a0:Value)(B:Heap)(H':Hp),e=.ref ea/\s'.os=s.os/\AllBare s'.gens/\Un (frs outer) [] H H' s.heap s'.heap/\HOk P w H' s'.heap/\
 Heap.FlyingW B outer ea (.ref c) a0 s'.heap/\Bk (frs outer) H H' B s.heap ea/\E (.ref c) none H'
section
variable {X:Cx}{pins:LA}{σ:St}{H:Hp}{s:Shared}
end
section
variable {P:Program}{w:World}{K:Fg}{mg:Str->Option Value}{base:Heap}{N:List Str}{qual:Str}{scope:Scope}{f:Addr}{cdv:Value}{A:Around}{outer:List Env}{s0:Shared}{H0:Hp}{E:XK}
end
structure Xc (K:Fg)(mg:Str->Option Value)(x:Str)(C:Addr)(bm:List Value)(nid:String):Prop where
 bound:mg x=some (.ref C)
 ex:W.excIn K C bm nid=true
abbrev WC:=List D->Sto->DK->Prop
abbrev Sd:=List D->Sto->DK->(Addr->Sto->Prop)->Prop
def upC (K:Fg)(Z:Zx)(w:WC):List V->Hp->VK->Prop:=λxs H Qv=>∃r S ds Q,Rel K Z r S H/\Rps r H ds xs/\w ds S Q/\Ret K Z r H Q Qv
def upF (K:Fg)(sd:Sd):Sp:=λvs H Qv E=>∃ex:Addr->Sto->Prop,upC K (Zc ex E) (λds S Q=>sd ds S Q ex) vs H Qv
def M4 (w:WC)(t:TDA):TDE:=λdl S Q=>t dl S λds S1=>w ds S1 Q
def Kg (ex:Ev->Addr->Sto->Prop)(sd:Sd)(t:TDA):TDE:=λdl S Q=>t dl S λds S1=>sd ds S1 Q (ex dl)
def XH (X:Cx)(W:St->XK):Prop:=∀(pins:LA)(σ:St)(H:Hp)(s:Shared)(e:Value)(s':Shared),Inv X pins σ H s->CXE X.prog X.w X.stack H s (W σ) e s'->X.xe e s'
theorem PJ (F:Yi X.prog X.w X.K X.mg X.base (CXE X.prog X.w) k f fd ps sp)(hr:ZF k X.A)(hb:YD X.K fd ps [])(hx:XH X W)(I:Inv X pins σ H s)(r:Zv vs us)(h:sp vs H Q (W σ)):wpAny (mX X) X.A (call (.ref f) us) (EP X pins σ Q) X.xe s:=by
 have hl:us.length=ps.length:=by rw[<- r.length];exact F.len _ _ _ _ h
 have hb':=hb s us I.kIn (by rw[xR];exact hl);rw[xR] at hb';refine wpAny_call (codeAny_mono (F.run X.A X.stack s H ⟨us,[]⟩ us vs Q (W σ) hr I.env0 hb' r h) λz s' hq=>?_);cases z with
 | error ev=>exact hx pins σ H s ev s' I hq
 | ok fl=>
  cases fl with
  | ret u=>exact I.after hq
  | _=>exact False.elim hq
theorem zda (F:Yi X.prog X.w X.K X.mg X.base (CXE X.prog X.w) k f fd ps sp)(hr:ZF k X.A)(hg:Gl X x)(hm:X.mg x=some (.ref f))(hk:PySem.W.keepIn X.K (.ref f)=true)(hb:YD X.K fd ps [])(hx:XH X W)
  (ha:PA X (e::es) t)(hdb:(x==("__debug__":Str))=false)(he:He X e es)(hpl:Hp1 X pos es):
  PE X (.Call (.Name x p) (e::es) [] pos) (λσ H Q=>t σ H λvs H1=>sp vs H1 Q (W σ)):=by
 intro pins s σ H Q I h;refine wpAny_Call_Name_kw (Ho I hg hm ?_ hdb);exact PySem.W.callWith_K (h₀:=X.base) I.ok.mod.kin hk (thn (ha pos pins s σ H _ I h) λus s1 ⟨vs,H1,I1,r,q⟩=>⟨I1.kIn,PJ F hr hb hx I1 r q⟩) he hpl
section
variable {X:Cx}{Z:Zx}{x:Str}{p pos:Pos}{e:Expr}{es:List Expr}{t:TDA}{id T:String}{w:WC}
theorem Hr (h:up X.K Z (M4 w t) σ H Qv):upA X.K Z t σ H λvs H1=>upC X.K Z w vs H1 Qv:=by
 obtain⟨r,dl,S,Q,rs,aZ,h,ret⟩:=h;exact⟨r,dl,S,_,rs,aZ,h,λvs H1 r1 ds S1 e1 aB p1 h1=>⟨r1,S1,ds,Q,aB,p1,h1,ret.ext e1⟩⟩
theorem ZK (hc:Yl X (.builtin id) (upC X.K Z w))(hg:Gl X x)(hm:X.mg x=none)(hv:bootBuiltins x=some (.builtin id))(ha:PDA X Z (e::es) t)(hn:x≠"__name__":=by decide)(hdb:(x==("__debug__":Str))=false:=by decide)
  (he:He X e es:=by rfl)(hpl:Hp1 X pos es:=by rfl):PD X Z (.Call (.Name x p) (e::es) [] pos) (M4 w t):=
 Yc (zfH hc hg hm hv ha hn hdb he hpl) λ_ _ _ h=>Hr h
theorem Pl (hc:Yl X (.type T) (upC X.K Z w))(hg:Gl X x)(hm:X.mg x=none)(hv:bootBuiltins x=some (.type T))(ha:PDA X Z (e::es) t)(hn:x≠"__name__":=by decide)(hdb:(x==("__debug__":Str))=false:=by decide)
  (he:He X e es:=by rfl)(hpl:Hp1 X pos es:=by rfl):PD X Z (.Call (.Name x p) (e::es) [] pos) (M4 w t):=
 Yc (CQ hc hg hm hv ha hn hdb he hpl) λ_ _ _ h=>Hr h
theorem Ot {sd:Sd}{r:List Addr}{S:Sto}{H:Hp}{dl:Ev}{σ:St}{ds:List D}{vs:List V}{Q:DK}{Qv:VK}(rs:Rs r H dl σ)(aZ:Rel X.K Z r S H)(p:Rps r H ds vs)(h:sd ds S Q (Z.ex dl))(ret:Ret X.K Z r H Q Qv):upF X.K sd vs H Qv (Z.w σ):=
 ⟨Z.ex dl,r,S,ds,Q,⟨aZ.b,λ_ _ c H' r' S' x _ rb q=>aZ.xw dl σ c H' r' S' x (rs.ext x) rb q⟩,p,h,λv H' r' d S' x rel' pv q=>ret v H' r' d S' x ⟨rel'.b,aZ.xw.ext x⟩ pv q⟩
theorem zd2 (F:Yi X.prog X.w X.K X.mg X.base (CXE X.prog X.w) k f fd ps (upF X.K sd))(hr:ZF k X.A)(hg:Gl X x)(hm:X.mg x=some (.ref f))(hk:PySem.W.keepIn X.K (.ref f)=true)(hb:YD X.K fd ps [])(hx:XH X W)(ha:PDA X ⟨ex,W⟩ (e::es) t)(hdb:(x==("__debug__":Str))=false:=by decide)(he:He X e es:=by rfl)(hpl:Hp1 X pos es:=by rfl):PD X ⟨ex,W⟩ (.Call (.Name x p) (e::es) [] pos) (Kg ex sd t):=
 Yc (zda F hr hg hm hk hb hx ha hdb he hpl) λσ H Qv ⟨r,dl,S,Q,rs,aZ,h,ret⟩=>⟨r,dl,S,_,rs,aZ,h,λvs H1 r1 ds S1 e1 aB p1 h1=>Ot (Z:=⟨ex,W⟩) (rs.ext e1) aB p1 h1 (ret.ext e1)⟩
def wAbs:WC:=λds S Q=>match ds with
 | [.int i]=>Q (.int (if i<0 then -i else i)) S
 | _=>False
theorem MN:Yl X (.builtin "abs") (upC X.K Z wAbs):=Md zhM λxs H Qv ⟨r,S,ds,Q,aZ,ps,q,ret⟩=>by
 unfold wAbs at q;split at q
 .rename_i i;obtain⟨v,vs,rfl,p1,p2⟩:=ps.uncons;have z:=p2.unnil;subst z;cases p1;exact⟨i,rfl,ret _ _ _ _ _ Ext.refl aZ (.int _) q⟩
 .exact q.elim
def YQ:List D->Option (List Int)
 | []=>some []
 | .int i::r=>(YQ r).map (i::·)
 | _::_=>none
def TJ (le:Int->Int->Prop)(two:Int->Int->Int):WC:=λds S Q=>match ds with
 | [.int i,.int j]=>Q (.int (two i j)) S
 | [.ref n]=>match lAt S n with
  | some o=>match YQ (Zk o) with
   | some xs=>xs≠[]/\∀m,m∈xs->(∀y∈xs,le y m)->Q (.int m) S
   | none=>False
  | none=>False
 | _=>False
abbrev wMax:WC:=TJ (λy m=>y<=m) λi j=>if j > i then j else i
abbrev wMin:WC:=TJ (λy m=>m<=y) λi j=>if j<i then j else i
theorem Jq {r:List Addr}{H:Hp}:∀ {ds:List D} {ns:List Int} {vs:List V} {us:List Value},YQ ds=some ns->Rps r H ds vs->Zv vs us->∃xs:List (Int×Tok),us.toArray=intItems xs.toArray/\xs.map (·.1)=ns
 | [],ns,vs,us,e,p,q=>by
  have z:=p.unnil;subst z;cases q;simp[YQ] at e;subst e;exact⟨[],by simp[intItems],rfl⟩
 | d::ds,ns,vs,us,e,p,q=>by
  obtain⟨v,vs',rfl,p1,p2⟩:=p.uncons;cases d with
  | int i=>
   cases p1;cases q with
   | cons q1 q2=>
    obtain⟨t,rfl⟩:=q1;simp only[YQ,zP] at e;obtain⟨ms,e1,rfl⟩:=e;obtain⟨xs,h1,h2⟩:=Jq e1 p2 q2;refine⟨(i,t)::xs,?_,by simp[h2]⟩;simp[intItems] at h1 ⊢;exact h1
  | _=>simp[YQ] at e
theorem Ee (f:Nat->Int):∀k j,j<=k->f j<=f (argBest (λi j=>decide (f i > f j)) k)
 | 0,j,h=>by
  have z:j=0:=by omega
  subst z;exact zQ _
 | k+1,j,h=>by
  have ih:=Ee f k;unfold argBest;split
  .rename_i hb;have hb':f (k+1) > f (argBest (λi j=>decide (f i > f j)) k):=of_decide_eq_true hb;by_cases z:j=k+1
   .subst z;exact zQ _
   .have:=ih j (by omega);omega
  .rename_i hb;have hb':¬ f (k+1) > f (argBest (λi j=>decide (f i > f j)) k):=λq=>hb (decide_eq_true q)
   by_cases z:j=k+1
   .subst z;omega
   .exact ih j (by omega)
theorem JT (f:Nat->Int):∀k j,j<=k->f (argBest (λi j=>decide (f i<f j)) k)<=f j
 | 0,j,h=>by
  have z:j=0:=by omega
  subst z;exact zQ _
 | k+1,j,h=>by
  have ih:=JT f k;unfold argBest;split
  .rename_i hb;have hb':f (k+1)<f (argBest (λi j=>decide (f i<f j)) k):=of_decide_eq_true hb;by_cases z:j=k+1
   .subst z;exact zQ _
   .have:=ih j (by omega);omega
  .rename_i hb;have hb':¬ f (k+1)<f (argBest (λi j=>decide (f i<f j)) k):=λq=>hb (decide_eq_true q)
   by_cases z:j=k+1
   .subst z;omega
   .exact ih j (by omega)
theorem DL (bt:Nat->Nat->Bool):∀k,argBest bt k<=k
 | 0=>zA _
 | k+1=>by
  unfold argBest;split
  .exact zA _
  .exact Nat.le_succ_of_le (DL bt k)
theorem FF {xs:List (Int×Tok)}{ns:List Int}(h:xs.map (·.1)=ns){j:Nat}{y:Int}(e:ns[j]?=some y):numAt xs.toArray j=y:=by
  subst h;unfold numAt;rw[zG] at e;simp only[List.getElem?_toArray];cases q:xs[j]? with
  | none=>
   rw[q] at e;cases e
  | some z=>rw[q] at e;simpa using e
theorem zb3 {xs:List (Int×Tok)}{ns:List Int}(h:xs.map (·.1)=ns){j:Nat}(hj:j<ns.length):numAt xs.toArray j∈ns:=by
 have e:ns[j]?=some ns[j]:=by simp[hj]
 rw[FF h e];exact yQ hj
theorem EL {nm:String}{le:Int->Int->Prop}{two:Int->Int->Int}(cm:Int->Int->Bool)(hc:X.calm=true)(c2:Yl X (.builtin nm) (λxs H Q=>∃i j,xs=[.int i,.int j]/\Q (.int (two i j)) H))(c1:∀ {s:Shared} {l:Addr} {xs:Array (Int×Tok)} {Q:Value->Shared->Prop} {E:Value->Shared->Prop},X.A.handled=none->s.heap.IsList l (intItems xs)->0<xs.size->(∀v h' tk,(intItems xs)[argBest (λi j=>cm (numAt xs i) (numAt xs j)) (xs.size-1)]?=some v->(∀b o,s.heap.get? b=some o->h'.get? b=some o)->Q v { s with heap:=h',toks:=tk })->wpAny (mX X) X.A (call (.builtin nm) [.ref l]) Q E s)(bg:∀(f:Nat->Int)(k j:Nat),j<=k->le (f j) (f (argBest (λi j=>cm (f i) (f j)) k))):Yl X (.builtin nm) (upC X.K Z (TJ le two)):=by
 intro pins s σ H xs us Qv I rv h;obtain⟨r,S,ds,Q,aZ,ps,q,ret⟩:=h;unfold TJ at q;split at q
 .rename_i i j;obtain⟨v,vs,rfl,p1,p2⟩:=ps.uncons;obtain⟨v2,vs2,rfl,p3,p4⟩:=p2.uncons;have z:=p4.unnil;subst z;cases p1;cases p3;exact c2 pins s σ H _ us Qv I rv ⟨i,j,rfl,ret _ _ _ _ _ Ext.refl aZ (.int _) q⟩
 .rename_i n;obtain⟨v,vs,rfl,p1,p2⟩:=ps.uncons;have z:=p2.unnil;subst z;split at q
  .rename_i o eo;split at q
   .rename_i ns en;obtain⟨hne,q⟩:=q;obtain⟨eo,eL⟩:=Yy eo;obtain⟨a,ha,ob⟩:=aZ.at eo;cases p1 with
    | ref h1=>
     rw[h1] at ha;cases ha
     obtain⟨ys,sq,pr⟩:=ob.list eL;obtain⟨u,rfl,ru⟩:=XC rv;cases ru;obtain⟨aX,ri,pl,hz⟩:=I.list sq;obtain⟨zs,hz1,hz2⟩:=Jq en pr ri;have hl:zs.length=ns.length:=by rw[<- hz2,zD]
     have hpos:0<ns.length:=List.length_pos_iff.mpr hne
     have isl:=pl.isList;rw[hz1] at isl;refine c1 (I.ok.hd hc) isl (by simp;omega) λv h' tk hv hk=>?_
     have hvi:=intItems_at hv;obtain⟨t,rfl⟩:=hvi;have hb:=DL (λi j=>cm (numAt zs.toArray i) (numAt zs.toArray j)) (zs.toArray.size-1)
     have hsz:zs.toArray.size=ns.length:=by simp[hl]
     refine⟨.int _,H,I.kept hk,⟨_,rfl⟩,ret _ _ _ _ _ Ext.refl aZ (.int _) (q _ (zb3 hz2 (by omega)) λy hy=>?_)⟩;obtain⟨j,hj,ej⟩:=yV.mp hy;have e1:=FF hz2 (show ns[j]?=some y by simp[hj,ej]);rw[<- e1];exact bg _ _ j (by omega)
   .exact q.elim
  .exact q.elim
 .exact q.elim
theorem XG (hc:X.calm=true):Yl X (.builtin "max") (upC X.K Z wMax):=EL (λx y=>decide (x > y)) hc (zbp hc) max_intList Ee
theorem Vd (hc:X.calm=true):Yl X (.builtin "min") (upC X.K Z wMin):=EL (λx y=>decide (x<y)) hc (AD hc) min_intList JT
def UQ:WC:=λds S Q=>match ds with
 | [.tup xs]=>Q (.int xs.length) S
 | [.ref n]=>match lAt S n with
  | some o=>Q (.int (Zk o).length) S
  | none=>False
 | _=>False
theorem Y3:Yl X (.builtin "len") (upC X.K Z UQ):=Md zeM λxs H Qv ⟨r,S,ds,Q,aZ,ps,q,ret⟩=>by
 unfold UQ at q;split at q
 .rename_i ys;obtain⟨v,vs,rfl,p1,p2⟩:=ps.uncons;have z:=p2.unnil;subst z;obtain⟨a,zs,rfl,h1,h2⟩:=p1.untup;exact⟨a,zs,rfl,.inr (SqT.of h1),by rw[<- h2.1];exact ret _ _ _ _ _ Ext.refl aZ (.int _) q⟩
 .rename_i n;obtain⟨v,vs,rfl,p1,p2⟩:=ps.uncons;have z:=p2.unnil;subst z;split at q
  .rename_i o eo;obtain⟨eo,eL⟩:=Yy eo;obtain⟨a,ha,ob⟩:=aZ.at eo;cases p1 with
   | ref h1=>
    rw[h1] at ha;cases ha
    obtain⟨ys,sq,pr⟩:=ob.list eL;exact⟨_,ys,rfl,.inl sq,by rw[<- pr.1];exact ret _ _ _ _ _ Ext.refl aZ (.int _) q⟩
  .exact q.elim
 .exact q.elim
end
section
variable {X:Cx}{Z:Zx}{st:Stmt}{Yg:List Stmt}{t u:TDS}{e:Expr}{te:TDE}{pos:Pos}
def dNext:TDS:=λE dl S=>E.nx dl S
def XQ (t u:TDS):TDS:=λE dl S=>t { nx:=λdl' S'=>u E dl' S',rt:=E.rt,bk:=E.bk,ct:=E.ct } dl S
theorem ZE:YL X Z [] dNext:=Fc zhJ λF σ H ⟨r,dl,S,E,rs,aZ,h,ret⟩=>ret.nx σ H r dl S Ext.refl rs aZ h
theorem Zd (h1:PDS X Z st t)(h2:YL X Z Yg u):YL X Z (st::Yg) (XQ t u):=
 Fc (zab h1 h2) λF σ H ⟨r,dl,S,E,rs,aZ,h,ret⟩=>⟨r,dl,S,_,rs,aZ,h,λσ' H' r' dl' S' x rs' rel' q=>⟨r',dl',S',E,rs',rel',q,ret.ext x⟩,ret.bk,ret.ct,ret.rt⟩
theorem Ze (h1:PDS X Z st t):YL X Z [st] t:=C8 h1
def A8:TDS:=λE dl S=>E.bk dl S
theorem zeh:PDS X Z (.Break pos) A8:=Yv zcJ λF σ H ⟨r,dl,S,E,rs,aZ,h,ret⟩=>ret.bk σ H r dl S Ext.refl rs aZ h
def dDrop (te:TDE):TDS:=λE dl S=>te dl S λ_ S1=>E.nx dl S1
theorem Y1 (he:PD X Z e te)(hs:swapsWith e none pos.line X.env=pure false:=by rfl):PDS X Z (.Expr e pos) (dDrop te):=
 Yv (zai he hs) λF σ H ⟨r,dl,S,E,rs,aZ,h,ret⟩=>⟨r,dl,S,_,rs,aZ,h,λv H1 r1 d S1 x aB p q=>ret.nx σ H1 r1 dl S1 x (rs.ext x) aB q⟩
def dRet (te:TDE):TDS:=λE dl S=>te dl S E.rt
theorem Zj (he:PD X Z e te):PDS X Z (.Return (some e) pos) (dRet te):=
 Yv (zdO he) λF σ H ⟨r,dl,S,E,rs,aZ,h,ret⟩=>⟨r,dl,S,_,rs,aZ,h,ret.rt⟩
def dRetN:TDS:=λE _ S=>E.rt .non S
theorem zan:PDS X Z (.Return none pos) dRetN:=Yv AI λF σ H ⟨r,dl,S,E,rs,aZ,h,ret⟩=>ret.rt _ _ _ _ _ Ext.refl aZ .non h
def dIf (c:TDT)(t u:TDS):TDS:=λE dl S=>c dl S λk S1=>if k=true then t E dl S1 else u E dl S1
theorem ZC (hc:PDT X Z c tc)(ha:YL X Z a t)(hb:YL X Z b u):PDS X Z (.If c a b pos) (dIf tc t u):=
 Yv (ps_if hc ha hb) λF σ H ⟨r,dl,S,E,rs,aZ,h,ret⟩=>⟨r,dl,S,_,rs,aZ,h,λk H1 r1 S1 x aB q=>by
  cases k with
  | true=>exact YA ⟨r1,dl,S1,E,rs.ext x,aB,(by simpa using q),ret.ext x⟩
  | false=>exact YB ⟨r1,dl,S1,E,rs.ext x,aB,(by simpa using q),ret.ext x⟩⟩
def Tt (i:Nat)(te:TDE):TDS:=λE dl S=>te dl S λd S1=>E.nx (dl.set i (some d)) S1
theorem Vw (hN:X.N.Nodup)(hi:X.N[i]?=some x)(hx:Loc X.env.scope x)(he:PD X Z e te)(hs:swapsWith e (some (.Name x pos')) pos.line X.env=pure false:=by rfl)(hf:Hf X x:=by first|exact .inl rfl|exact .inr rfl|assumption):PDS X Z (.Assign [.Name x pos'] e pos) (Tt i te):=
 Yv (B6 hN hi hx he hs hf) λF σ H ⟨r,dl,S,E,rs,aZ,h,ret⟩=>⟨r,dl,S,_,rs,aZ,h,λv H1 r1 d S1 x aB p q=>ret.nx _ H1 r1 _ S1 x ((rs.ext x).set i p) aB q⟩
theorem Zm {i:Nat}{x:Str}{pos':Pos}(hN:X.N.Nodup)(he:PD X Z e te)(hi:X.N[i]?=some x:=by rfl)(hx:Loc X.env.scope x:=by exact Or.inl rfl)(hs:swapsWith e (some (.Name x pos')) pos.line X.env=pure false:=by rfl)
  (hf:Hf X x:=by first|exact .inl rfl|exact .inr rfl|assumption):PDS X Z (.Assign [.Name x pos'] e pos) (Tt i te):=Vw hN hi hx he hs hf
def BF (c:TDT)(tb:TDS):TDS:=λE dl S=>∃W:Nat->Ev->Sto->Prop,(∃m,W m dl S)/\∀m dl S,W m dl S->
 c dl S λk S1=>if k=true then tb { nx:=λdl' S'=>∃m',m'<m/\W m' dl' S',rt:=E.rt,bk:=E.nx,ct:=λdl' S'=>∃m',m'<m/\W m' dl' S' } dl S1 else E.nx dl S1
theorem FT (hp:PassesOwn (mX X) X.A X.env X.xe)(hc:PDT X Z c tc)(hb:YL X Z body tb):PDS X Z (.While c body [] pos) (BF tc tb):=
 Yv (zdf hp hc hb) λF σ H ⟨r,dl,S,E,rs,aZ,⟨W,⟨m0,w0⟩,turn⟩,ret⟩=>by
  refine⟨λm σ' H'=>∃r' dl' S',Ext r r' H H'/\Rs r' H' dl' σ'/\Rel X.K Z r' S' H'/\W m dl' S',⟨m0,r,dl,S,Ext.refl,rs,aZ,w0⟩,?_⟩;rintro m σ1 H1 ⟨r1,dl1,S1,x1,rs1,aB,w1⟩;refine⟨r1,dl1,S1,_,rs1,aB,turn m dl1 S1 w1,λk H2 r2 S2 x2 aC q2=>?_⟩;cases k with
  | true=>
   refine YA ⟨λσ' H'=>∃m',m'<m/\∃r' dl' S',Ext r r' H H'/\Rs r' H' dl' σ'/\Rel X.K Z r' S' H'/\W m' dl' S',λ_ _ z=>z,r2,dl1,S2,_,rs1.ext x2,aC,(by simpa using q2),?_⟩;have go:∀σ' H' r' dl' S',Ext r2 r' H2 H'->Rs r' H' dl' σ'->Rel X.K Z r' S' H'->(∃m',m'<m/\W m' dl' S')->∃m',m'<m/\∃r' dl' S',Ext r r' H H'/\Rs r' H' dl' σ'/\Rel X.K Z r' S' H'/\W m' dl' S':=
    λσ' H' r' dl' S' x rs' rel' ⟨m',hm,w'⟩=>⟨m',hm,r',dl',S',x1.trans (x2.trans x),rs',rel',w'⟩
   exact⟨go,λσ' H' r' dl' S' x rs' rel' q=>ret.nx σ' H' r' dl' S' (x1.trans (x2.trans x)) rs' rel' q,go,ret.rt.ext (x1.trans x2)⟩
  | false=>exact YB (ret.nx σ1 H2 r2 dl1 S2 (x1.trans x2) (rs1.ext x2) aC (by simpa using q2))
theorem US {X:Cx}{Z:Zx}{J:It}{F:Wn}{E:Xz}{tb:TDS}{g:TG}{r r1:List Addr}{H H1:Hp}{dl:Ev}{S1:Sto}{σ:St}(x1:Ext r r1 H H1)(rs:Rs r H dl σ)(aB:Rel X.K Z r1 S1 H1)(ret:RG X.K Z r H E F)(W:Nat->Nat->Ev->Sto->Prop){m0:Nat}(w0:W 0 m0 dl S1)
  (step:∀k m r2 dl2 S2 σ2 H2,Ext r1 r2 H1 H2->Rs r2 H2 dl2 σ2->Rel X.K Z r2 S2 H2->W k m dl2 S2->J.stop k H2/\E.nx dl2 S2\/J.go k H2/\∃N:Ev->Sto->Prop,(∀d s,N d s->∃m',m'<m/\W (k+1) m' d s)/\∀x H',J.yld k H2 x H'->∀K:St->Hp->Prop,(∀σ3 H3 dl3,Ext r2 r2 H2 H3->Rs r2 H3 dl3 σ3->Rel X.K Z r2 S2 H3->tb { nx:=N,rt:=E.rt,bk:=E.nx,ct:=N } dl3 S2->K σ3 H3)->g x σ2 H' K):
  ∃W:Nat->Nat->St->Hp->Prop,(∃m,W 0 m σ H1)/\∀i m σ H,W i m σ H->J.stop i H/\F.nx σ H\/J.go i H/\∃N:St->Hp->Prop,(∀σ' H',N σ' H'->∃m',m'<m/\W (i+1) m' σ' H')/\∀x H',J.yld i H x H'->g x σ H' λσ2 H2=>upS X.K Z tb { F with nx:=N,ct:=N,bk:=F.nx } σ2 H2:=by
 refine⟨λk m σ' H'=>∃r' dl' S',Ext r1 r' H1 H'/\Rs r' H' dl' σ'/\Rel X.K Z r' S' H'/\W k m dl' S',⟨m0,r1,dl,S1,Ext.refl,rs.ext x1,aB,w0⟩,?_⟩;rintro k m σ2 H2 ⟨r2,dl2,S2,x2,rs2,aC,w2⟩;rcases step k m r2 dl2 S2 σ2 H2 x2 rs2 aC w2 with ⟨a,q⟩|⟨a,N,hN,st⟩
 .exact .inl ⟨a,ret.nx σ2 H2 r2 dl2 S2 (x1.trans x2) rs2 aC q⟩
 .refine .inr ⟨a,λσ' H'=>∃r' dl' S',Ext r1 r' H1 H'/\Rs r' H' dl' σ'/\Rel X.K Z r' S' H'/\N dl' S',λσ' H' z=>?_,λx H' y=>st x H' y _ λσ3 H3 dl3 x3 rs3 aE q=>?_⟩
  .obtain⟨r',dl',S',e1,e2,e3,e4⟩:=z;obtain⟨m',hm,w'⟩:=hN _ _ e4;exact⟨m',hm,r',dl',S',e1,e2,e3,w'⟩
  .have go:∀σ' H' r' dl' S',Ext r2 r' H3 H'->Rs r' H' dl' σ'->Rel X.K Z r' S' H'->N dl' S'->∃r' dl' S',Ext r1 r' H1 H'/\Rs r' H' dl' σ'/\Rel X.K Z r' S' H'/\N dl' S':=λσ' H' r' dl' S' x a b c=>⟨r',dl',S',x2.trans (x3.trans x),a,b,c⟩
   exact⟨r2,dl3,S2,_,rs3,aE,q,go,λσ' H' r' dl' S' x a b c=>ret.nx σ' H' r' dl' S' (x1.trans (x2.trans (x3.trans x))) a b c,go,ret.rt.ext (x1.trans (x2.trans x3))⟩
def dFor (i:Nat)(tl:TDE)(tb:TDS):TDS:=λE dl S=>tl dl S λd S1=>match d with
 | .ref n=>(lAt S1 n).isSome=true/\∃W:Nat->Nat->Ev->Sto->Prop,(∃m,W 0 m dl S1)/\∀k m dl S,W k m dl S->match lAt S n with
  | some o=>match (Zk o)[k]? with
   | some x=>tb { nx:=λdl' S'=>∃m',m'<m/\W (k+1) m' dl' S',rt:=E.rt,bk:=E.nx,ct:=λdl' S'=>∃m',m'<m/\W (k+1) m' dl' S' } (dl.set i (some x)) S
   | none=>E.nx dl S
  | none=>False
 | _=>False
theorem Sg (hp:PassesOwn (mX X) X.A X.env X.xe)(hc:X.calm=true)(hN:X.N.Nodup)(hi:X.N[i]?=some x)(hx:Loc X.env.scope x)(hl:PD X Z aU tl)(hb:YL X Z body tb)(hf:Hf X x:=by first|exact .inl rfl|exact .inr rfl|assumption)(hs:∀y,foldedSetIterable aU X.env y=pure y:=by intro _;rfl):PDS X Z (.For (.Name x pos') aU body [] pos) (dFor i tl tb):=
 Yv (Tf hp hc (MJ hl) (Tz hN hi hx hf) hb hs) λF σ H ⟨r,dl,S,E,rs,aZ,h,ret⟩=>by
  refine⟨r,dl,S,_,rs,aZ,h,λv H1 r1 d S1 x1 aB p1 q1=>?_⟩;cases p1 with
  | @ref n a hn=>
   obtain⟨aQ,W,⟨m0,w0⟩,turn⟩:=q1;have sql:∀ {r':List Addr} {S':Sto} {H':Hp} {o:Ob},Ext r1 r' H1 H'->Rel X.K Z r' S' H'->lAt S' n=some o->∃xs,SqL X.K H' a xs/\Rps r' H' (Zk o) xs:=λ{r' S' H' o} x' rel' eo=>by
    obtain⟨eo,eL⟩:=Yy eo;obtain⟨a',ha,ob⟩:=rel'.at eo;rw[x'.adr n a hn] at ha;cases ha
    exact ob.list eL
   obtain⟨o1,eo1⟩:=yY.mp aQ;obtain⟨xs1,sq1,_⟩:=sql Ext.refl aB eo1;refine⟨a,rfl,⟨xs1,sq1⟩,US x1 rs aB ret W w0 λk m r2 dl2 S2 σ2 H2 x2 rs2 aC w2=>?_⟩;have q:=turn k m dl2 S2 w2;split at q
   .rename_i o eo;obtain⟨xs,sq,pr⟩:=sql x2 aC eo;split at q
    .rename_i y ey;obtain⟨v,hv,pv⟩:=pr.get ey;refine .inr ⟨⟨xs,v,sq,hv⟩,_,λ_ _ z=>z,λv' H' y' K hK=>?_⟩;obtain⟨rfl,y'⟩:=y';cases (y' xs sq).symm.trans hv;exact hK _ _ _ Ext.refl (rs2.set i pv) aC q
    .rename_i ey;exact .inl ⟨⟨xs,sq,by rw[<- pr.1];exact xH.mp ey⟩,q⟩
   .exact q.elim
  | _=>exact(show False from q1).elim
def dForR (i:Nat)(ta:TDA)(tb:TDS):TDS:=λE dl S=>ta dl S λds S1=>match ds with
 | [.int j]=>(-(2^62)<=j/\j<2^62)/\∃W:Nat->Ev->Sto->Prop,W 0 dl S1/\∀k dl S,W k dl S->
   if k<j.toNat then tb { nx:=λdl' S'=>W (k+1) dl' S',rt:=E.rt,bk:=E.nx,ct:=λdl' S'=>W (k+1) dl' S' } (dl.set i (some (.int k))) S else E.nx dl S
 | _=>False
theorem Nm (hp:PassesOwn (mX X) X.A X.env X.xe)(hc:X.calm=true)(hN:X.N.Nodup)(hi:X.N[i]?=some x)(hx:Loc X.env.scope x)(hg:Gl X "range")(hm:X.mg "range"=none)(ha:PDA X Z [a] ta)(hb:YL X Z body tb)(hf:Hf X x:=by first|exact .inl rfl|exact .inr rfl|assumption)(hs:∀y,foldedSetIterable (.Call (.Name "range" p) [a] [] pos) X.env y=pure y:=by intro _;rfl)(hst:starEach [a] X.env=[(false,eval a X.env)]:=by rfl):
  PDS X Z (.For (.Name x pos') (.Call (.Name "range" p) [a] [] pos) body [] aK) (dForR i ta tb):=
 Yv (Tf hp hc (Jp hg hm ha hst) (Tz hN hi hx hf) hb hs) λF σ H ⟨r,dl,S,E,rs,aZ,h,ret⟩=>by
  refine⟨r,dl,S,_,rs,aZ,h,λvs H1 r1 ds S1 x1 aB p1 q1=>?_⟩;split at q1
  .rename_i j;obtain⟨v,vs',rfl,p2,p3⟩:=p1.uncons;have z:=p3.unnil;subst z;cases p2;obtain⟨⟨b1,b2⟩,W,w0,turn⟩:=q1;refine⟨j,rfl,b1,b2,US x1 rs aB ret (λk m d s=>m=j.toNat-k/\W k d s) ⟨rfl,w0⟩ λk m r2 dl2 S2 σ2 H2 x2 rs2 aC w=>?_⟩;have q:=turn k dl2 S2 w.2;split at q
   .rename_i hk;refine .inr ⟨hk,_,λd s z=>⟨j.toNat-(k+1),by omega,rfl,z⟩,λv' H' y K hK=>?_⟩;obtain⟨rfl,rfl⟩:=y;exact hK _ _ _ Ext.refl (rs2.set i (by rw[Int.zero_add];exact .int _)) aC q
   .rename_i hk;exact .inl ⟨by show j.toNat<=k;omega,q⟩
  .exact q1.elim
end
def XD (N:List Str)(ds:List D):Ev:=ds.map some++List.replicate (N.length-ds.length) none
theorem zaN {r:List Addr}{H:Hp}{N:List Str}{ds:List D}{vs:List V}(h:Rps r H ds vs):Rs r H (XD N ds) (L2.XT N vs):=by
  refine⟨by simp[XD,L2.XT,h.1],λi d e=>?_⟩;unfold XD at e;by_cases hi:i<ds.length
  · rw[zI (by simpa using hi),zG] at e
    cases q:ds[i]? with
    | none=>
   rw[q] at e;cases e
    | some z=>
      rw[q] at e;cases e;obtain⟨v,hv,pv⟩:=h.get q;refine⟨v,?_,pv⟩;unfold L2.XT;rw[zI (by simpa [h.1] using hi),zG,hv];rfl
  · rw[yJ (by simpa using hi),vC] at e
    split at e<;>cases e
section
variable {P:Program}{w:World}{K:Fg}{mg:Str->Option Value}{base:Heap}
abbrev Z0:Zx:=Zc (λ_ _=>False) (λ_ _ _=>False)
theorem YE:XH X Z0.w:=λ_ _ _ _ _ _ _ h=>by
 obtain⟨_,_,_,_,_,_,_,_,_,_,_,_,q⟩:=h;exact q.elim
theorem WL {x qual:Str}{st:Stmt}{f:Addr}{fd:FuncData}{N ps:List Str}{k:Nat}{sd:Sd}(F:Fun K x qual st f fd)(Sc:Zl N ps (Zh st))(len:∀ds S Q ex,sd ds S Q ex->ds.length=ps.length)
  (hbody:∀(cdv:Value)(A:Around)(outer:List Env)(s:Shared)(H:Hp)(E:XK),fd.code=cdv->ZF k (A.deeper (envOfC qual (Zh st) s.heap.objs.size f cdv))->
   ∃t,YL (XA (CXE P w) P w K mg base N qual (Zh st) f cdv A outer s H E).nox Z0 (Xl st) t/\∀ds S Q ex,sd ds S Q ex->t { nx:=λ_ S'=>Q .non S',rt:=Q } (XD N ds) S):Yi P w K mg base (CXE P w) (k+1) f fd ps (upF K sd):=by
 obtain⟨oc,od,kV,doc,pm,an,cdv,ct,osl,rfl,lk,hcd⟩:=F.ex;refine IY lk hcd Sc (λvs H Q E h=>?_) λA outer s H vs Q E hr h=>?_
 .obtain⟨ex,r,S,ds,Q',aZ,p,q,ret⟩:=h;rw[<- p.1];exact len ds S Q' ex q
 .obtain⟨ex,r,S,ds,Q',aZ,p,q,ret⟩:=h;obtain⟨t,ht,hq⟩:=hbody cdv A outer s H E rfl hr;have back:∀ {H':Hp} {r':List Addr} {S':Sto},Ext r r' H H'->Rel K Z0 r' S' H'->Rel K (Zc ex E) r' S' H':=λx rel'=>⟨rel'.b,aZ.xw.ext x⟩
  refine⟨upS K Z0 t,ht.nox,r,XD N ds,S,_,zaN p,⟨aZ.b,λ_ _ _ _ _ _ _ _ _ z=>z.elim⟩,hq ds S Q' ex q,?_,?_,?_,?_⟩
  .intro σ' H' r' dl' S' x _ rel' z;exact ret .non H' r' .non S' x (back x rel') .non z
  .intro σ' H' r' dl' S' x _ rel' z;exact z
  .intro σ' H' r' dl' S' x _ rel' z;exact z
  .intro v H' r' d S' x rel' p' z;exact ret v H' r' d S' x (back x rel') p' z
end
open PySem
def Sz (n:Nat)(i:Int):Prop:=i.natAbs<2^n
theorem Sz.mono (h:Sz m i)(hn:m<=n):Sz n i:=zW h (Nat.pow_le_pow_right ⋯ hn)
theorem Sz.bits (h:Sz n i):Builtin.Int.intBits i<=n:=by
 unfold Builtin.Int.intBits;split
 .exact zZ _
 .rename_i hz;have hp:i.natAbs≠0:=by
   intro z;have z2:i=0:=by omega
   simp[z2] at hz
  have:=(vW hp).mpr h;omega
theorem ZH (hi:Sz m i)(hj:Sz n j)(hm:m<=1048576:=by decide)(hn:n<=1048576:=by decide):IntMulOk i j:=by
 have e20:(2:Nat)^20=1048576:=by decide
 exact IntMulOk.of_bits (yK hi.bits (by omega)) (yK hj.bits (by omega))
theorem Sz.of {n:Nat}{i:Int}(m:Nat)(h:i.natAbs<=m)(hm:m<2^n:=by decide):Sz n i:=vV h hm
theorem Sz.mul (hi:Sz m i)(hj:Sz n j):Sz (m+n) (i*j):=by
 unfold Sz at *
 rw[vG,wK];exact Nat.mul_lt_mul'' hi hj
theorem Sz.add (hi:Sz m i)(hj:Sz n j):Sz (max m n+1) (i+j):=by
 have h1:Sz (max m n) i:=hi.mono (Nat.le_max_left _ _)
 have h2:Sz (max m n) j:=hj.mono (Nat.le_max_right _ _);unfold Sz at *
 have e:(2:Nat)^(max m n+1)=2^max m n+2^max m n:=by rw[Nat.pow_succ];omega
 rw[e];have:=Int.natAbs_add_le i j;omega
theorem Sz.neg (hi:Sz m i):Sz m (-i):=by
 unfold Sz at *
 rw[Int.natAbs_neg];exact hi
theorem Sz.sub (hi:Sz m i)(hj:Sz n j):Sz (max m n+1) (i-j):=by
 rw[Int.sub_eq_add_neg];exact hi.add hj.neg
theorem Sz.log (h:Sz n i)(hi:i≠0)(hn:n<=9000:=by decide):i.natAbs.log2<9000:=by
 have:=(vW (by omega:i.natAbs≠0)).mpr h;omega
theorem Sz.fd {n:Nat}{i:Int}(h:Sz n i)(hi:0<i)(hn:n<=9000:=by decide):0<i/\i.natAbs.log2<9000:=⟨hi,h.log (by omega) hn⟩
theorem Yo {a b:Int}(hb:0<b):0<=a%b/\a%b<b:=⟨vH _ (by omega),vX _ hb⟩
example (x:Int):-(10^40)<=x%(2*10^40+1)-10^40:=by omega
example (x:Int):x%(2*10^40+1)-10^40<=10^40:=by omega
example (x:Int) (h:-(10^40)<=x) (h2:x<=2*10^41):Sz 140 x:=Sz.of (2*10^41) (by omega)
theorem zcy (a b:Int):Int.gcd b (a%b)=Int.gcd a b:=by
 rw[Int.emod_def,show a-b*(a/b)=a-(a/b)*b by rw[yN],Int.gcd_sub_mul_right_right,Int.gcd_comm]
def Xa (i:Int):Int:=if i<0 then -i else i
theorem HF (i:Int):0<=Xa i:=by unfold Xa;split<;>omega
theorem Ep (a b:Int):Int.gcd (Xa a) (Xa b)=Int.gcd a b:=by
 have h:∀i:Int,(Xa i).natAbs=i.natAbs:=λi=>by unfold Xa;split<;>omega
 unfold Int.gcd;rw[h,h]
theorem zej (hB:B≠0)(hd:d=(if B<0 then -((Int.gcd T B:Nat):Int) else ((Int.gcd T B:Nat):Int))):
  d≠0/\T.fdiv d*d=T/\B.fdiv d*d=B/\1<=B.fdiv d/\Int.gcd (T.fdiv d) (B.fdiv d)=1/\T.fdiv d*B=T*B.fdiv d:=by
 have g0:0<Int.gcd T B:=Nat.pos_of_ne_zero λz=>hB (Int.gcd_eq_zero_iff.mp z).2
 have dT:((Int.gcd T B:Nat):Int) ∣ T:=Int.gcd_dvd_left T B
 have dB:((Int.gcd T B:Nat):Int) ∣ B:=uV T B
 have hne:d≠0:=by
  rw[hd];split<;>omega
 have eT:d ∣ T:=by rw[hd];split<;>first|exact Int.neg_dvd.mpr dT|exact dT
 have eB:d ∣ B:=by rw[hd];split<;>first|exact Int.neg_dvd.mpr dB|exact dB
 have fT:T.fdiv d=T/d:=uW eT
 have fB:B.fdiv d=B/d:=uW eB
 have mT:T.fdiv d*d=T:=by rw[fT];exact uX eT
 have mB:B.fdiv d*d=B:=by rw[fB];exact uX eB
 have gg:Int.gcd (T.fdiv d) (B.fdiv d)=1:=by
  have z:=Int.gcd_ediv_gcd_ediv_gcd g0;rw[fT,fB,hd];split
  .rw[Int.ediv_neg,Int.ediv_neg,Int.neg_gcd,Int.gcd_neg];exact z
  .exact z
 have pos:1<=B.fdiv d:=by
  by_cases hb:B<0
  .have dn:d<0:=by rw[hd,if_pos hb];omega
   by_cases q:B.fdiv d<=0
   .have:=Int.mul_nonneg_of_nonpos_of_nonpos q (vI dn);omega
   .omega
  .have dp:0<d:=by rw[hd,if_neg hb];omega
   by_cases q:B.fdiv d<=0
   .have:=yG (show 0<=-(B.fdiv d) by omega) (vI dp);rw[xJ] at this;omega
   .omega
 refine⟨hne,mT,mB,pos,gg,?_⟩
 calc T.fdiv d*B=T.fdiv d*(B.fdiv d*d):=by rw[mB]
  _=T.fdiv d*d*B.fdiv d:=by grind
  _=T*B.fdiv d:=by rw[mT]
theorem GP {T d:Int}(hne:d≠0)(mT:T.fdiv d*d=T):(T.fdiv d).natAbs<=T.natAbs:=by
 have h:(T.fdiv d).natAbs*d.natAbs=T.natAbs:=by rw[<- wK,mT]
 have hd:1<=d.natAbs:=by omega
 calc (T.fdiv d).natAbs=(T.fdiv d).natAbs*1:=by omega
  _<=(T.fdiv d).natAbs*d.natAbs:=Nat.mul_le_mul_left _ hd
  _=T.natAbs:=h
theorem VZ (m:Int)(hg:0<g):m/g*g<=m/\m<(m/g+1)*g:=by
 have h1:=vY m g
 have h2:=vH m (show g≠0 by omega)
 have h3:=vX m hg
 have e:(m/g+1)*g=g*(m/g)+g:=by grind
 have e2:m/g*g=g*(m/g):=yN _ _;omega
theorem Ru (m:Int)(hg:0<g):m<=-(-m/g)*g/\(-(-m/g)-1)*g<m:=by
 obtain⟨h1,h2⟩:=VZ (-m) hg;have e1:-(-m/g)*g=-(-m/g*g):=by rw[xJ]
 have e2:(-(-m/g)-1)*g=-((-m/g+1)*g):=by grind
 omega
def wIf (C:Int->Int->Bool)(g:Int->Int->D):W2:=λx y S Q=>match x,y with
 | .int i,.int j=>if C i j=true then Q (g i j) S else False
 | _,_=>False
theorem opIf (h:OpR X f (upO X.K Z (wI C g)))(hc:∀i j,C' i j=true->C i j):OpR X f (upO X.K Z (wIf C' g)):=
 VG h λx y H Qv ⟨r,S,dx,dy,Q,aZ,px,py,q,ret⟩=>⟨r,S,dx,dy,Q,aZ,px,py,by
  unfold wIf at q;split at q
  .obtain⟨h1,h2⟩:=Od q;exact⟨hc _ _ h1,h2⟩
  .exact q.elim,ret⟩
def Oq (_ j:Int):Bool:=decide (0<j)&&decide (j<1073741824)
abbrev zdW:W2:=wIf Oq λi j=>.int (i/j)
abbrev wModL:W2:=wIf Oq λi j=>.int (i%j)
def powB (i j:Int):Bool:=decide (0<=j)&&decide (j<=1000)&&decide (-1000<i)&&decide (i<1000)
abbrev wPowL:W2:=wIf powB λi j=>.int (i^j.toNat)
theorem ED (h:Oq i j=true):0<j/\j<1073741824:=by
 unfold Oq at h;simpa using h
theorem Sv:OpR X (binaryOp .FloorDiv) (upO X.K Z zdW):=opIf Xk λi j h=>by
 obtain⟨h1,h2⟩:=ED h;refine⟨h1,?_⟩;have:j.natAbs.log2<30:=(vW (by omega)).mpr (by omega);omega
theorem Xe:OpR X (binaryOp .Mod) (upO X.K Z wModL):=opIf Y6 λi j h=>(ED h).1
theorem Xm:OpR X (binaryOp .Pow) (upO X.K Z wPowL):=opIf zdS λi j h=>by
 unfold powB at h;simp at h;refine⟨h.1.1.1,by have:=h.1.1.2;omega,?_⟩;have h3:=h.1.2
 have h4:=h.2
 have big:(18446744073709551616:Nat)=2^64:=by decide
 omega
structure Df (K:Fg)(mg:Str->Option Value)(x:Str)(st:Stmt)(ps:List Str) where
 f:Addr
 fd:FuncData
 F:Fun K x x st f fd
 m:mg x=some (.ref f)
 b:YD K fd ps []
structure Fk (P:Program)(w:World)(K:Fg)(mg:Str->Option Value)(base:Heap)(k:Nat)(x:Str)(ps:List Str)(sd:Sd) where
 f:Addr
 fd:FuncData
 ok:Yi P w K mg base (CXE P w) k f fd ps (upF K sd)
 m:mg x=some (.ref f)
 kp:W.keepIn K (.ref f)=true
 b:YD K fd ps []
def Df.mk' {P:Program}{w:World}{K:Fg}{mg:Str->Option Value}{base:Heap}{k:Nat}{x:Str}{st:Stmt}{ps:List Str}{sd:Sd}(d:Df K mg x st ps)(h:Yi P w K mg base (CXE P w) k d.f d.fd ps (upF K sd)):Fk P w K mg base k x ps sd:=
 ⟨d.f,d.fd,h,d.m,d.F.kp,d.b⟩
theorem Mp (G:Fk X.prog X.w X.K X.mg X.base k x ps sd)(hr:ZF k X.A)(hx:XH X W)(hg:Gl X x)(ha:PDA X ⟨ex,W⟩ (e::es) t)(hdb:(x==("__debug__":Str))=false:=by decide)(he:He X e es:=by rfl)(hpl:Hp1 X pos es:=by rfl):
  PD X ⟨ex,W⟩ (.Call (.Name x p) (e::es) [] pos) (Kg ex sd t):=zd2 G.ok hr hg G.m G.kp G.b hx ha hdb he hpl
theorem zfk {st:Stmt}:PDS X Z st (λ_ _ _=>False):=Yv zh1 λF σ H ⟨_,_,_,_,_,_,h,_⟩=>h
theorem zcl {r:List Addr}{H:Hp}(ns:List Int):Rps r H (ns.map D.int) (ns.map V.int):=by
 refine⟨by simp,λi d v h1 h2=>?_⟩;rw[zG] at h1 h2;cases q:ns[i]? with
 | none=>rw[q] at h1;cases h1
 | some z=>
  rw[q] at h1 h2;cases h1;cases h2;exact .int z
theorem ifF {c:Bool}{A B:Prop}(h:c=false)(b:B):if c=true then A else B:=by rw[h];exact YB b
theorem ifP {c A B:Prop} [Decidable c] (h:c)(a:A):if c then A else B:=by rw[if_pos h];exact a
theorem ifD {c:Prop} [Decidable c] {A B:Prop}(h1:c->A)(h2:¬ c->B):if decide c=true then A else B:=by
 by_cases h:c
 .rw[decide_eq_true h];exact YA (h1 h)
 .rw[decide_eq_false h];exact YB (h2 h)
open PySem L2
open PySem L2
theorem Sz.pow (h:Sz n i)(k:Nat):Sz (n*k+1) (i^k):=by
 unfold Sz at *
 rw[vZ,Nat.pow_succ,Nat.pow_mul];have h1:i.natAbs^k<=(2^n)^k:=Nat.pow_le_pow_left (xD h) k
 have h2:0<(2^n)^k:=yR (yR ⋯);omega
theorem ifN {c:Prop} [Decidable c] {A B:Prop}(h1:¬ c->A)(h2:c->B):if (!decide c)=true then A else B:=by
 by_cases h:c
 .rw[decide_eq_true h];exact L2.YB (h2 h)
 .rw[decide_eq_false h];exact L2.YA (h1 h)
section
variable {X:Cx}{Z:Zx}
end
structure VU (k:Nat)(A:Around):Prop where
 dp:A.depth+3*k+5<recursionLimit
 un:A.units+16*k+200<cLine
theorem VU.mono (r:VU k A)(h:j<=k):VU j A:=⟨by have:=r.dp;omega,by have:=r.un;omega⟩
theorem VU.deeper {k:Nat}{A:Around}(r:VU (k+1) A)(env:Env):VU k (A.deeper env):=
 ⟨by have:=r.dp;show A.depth+1+3*k+5<_;omega,by have:=r.un;show A.units+3+16*k+200<_;omega⟩
structure FnOkN (P:Program)(w:World)(K:Fg)(mg:Str->Option Value)(base:Heap)(k:Nat)(f:Addr)(fd:FuncData)(ps:List Str)(sp:Sp):Prop where
 len:∀vs H Q E,sp vs H Q E->vs.length=ps.length
 run:∀(A:Around)(outer:List Env)(s:Shared)(H:Hp)(args:Args)(us:List Value)(vs:List V)(Q:VK)(E:XK),VU k A->Va P w K mg base A outer s H->BindsTo s fd args (ps.zip us)->Zv vs us->sp vs H Q E->
  codeAny (model P w) A (.call (.ref f) args) (CR (CXE P w) outer P w H s Q E) s
section
variable {X:Cx}{k:Nat}{f:Addr}{fd:FuncData}{ps:List Str}{sp:Sp}{W:St->XK}{x:Str}{p pos:Pos}{e:Expr}{es:List Expr}{t:TA}
end
section
variable {X:Cx}{Z:Zx}{x:Str}{p pos:Pos}{e:Expr}{es:List Expr}{t:TDA}
end
section
variable {P:Program}{w:World}{K:Fg}{mg:Str->Option Value}{base:Heap}
end
structure FkN (P:Program)(w:World)(K:Fg)(mg:Str->Option Value)(base:Heap)(k:Nat)(x:Str)(ps:List Str)(sd:Sd) where
 f:Addr
 fd:FuncData
 ok:FnOkN P w K mg base k f fd ps (upF K sd)
 m:mg x=some (.ref f)
 kp:W.keepIn K (.ref f)=true
 b:YD K fd ps []
theorem O2 {r:List Addr}{H:Hp}{a:Addr}{o:HO}(h:H a=none):Ext r r H (upd H a o):=⟨λ_ _ q=>q,λ_ _ q=>XB h _ _ q,λ_ _ q=>XB h _ _ q⟩
open PySem.W in
abbrev VE:List Value:=[.type "ValueError",.type "Exception",.type "BaseException",.type "object"]
structure Ec (K:Fg)(mg:Str->Option Value)(x:Str) where
 c:Addr
 xc:Xc K mg x c VE "ValueError.__new__"
theorem Sz.div (h:Sz n i)(hj:1<=j):Sz n (i/j):=by
 refine vV ?_ h;obtain⟨h1,h2⟩:=VZ i (show 0<j by omega);by_cases q:0<=i/j
 .have:=vJ hj q;omega
 .have:=vJ hj (show 0<=-(i/j+1) by omega)
  have e:-(i/j+1)*j=-((i/j+1)*j):=xJ _ _;omega
inductive Sco (n:Nat):D->Prop
 | non:Sco n .non
 | bl (b:Bool):Sco n (.bl b)
 | int (i:Int):Sco n (.int i)
 | str (x:Str):Sco n (.str x)
 | tup {ds:List D}:(∀d∈ds,Sco n d)->Sco n (.tup ds)
 | ref {m:Nat}:m<n->Sco n (.ref m)
 | exc (c:Addr):Sco n (.exc c)
theorem Rp.sco {r:List Addr}{H:Hp}{d:D}{v:V}(h:Rp r H d v):Sco r.length d:=by
 induction h with
 | non=>exact .non
 | bl b=>exact .bl b
 | int i=>exact .int i
 | str x=>exact .str x
 | @tup ds xs a _ l _ ih=>
  refine .tup λd hd=>?_
  obtain⟨i,hi,e⟩:=yV.mp hd;exact ih i d xs[i] (by simp[hi,e]) (by simp[l ▸ hi])
 | ref h=>exact .ref (zB.mp h).1
 | exc _=>exact .exc _
theorem Rp.low {r r':List Addr}{H:Hp}{d:D}{v:V}(h:Rp r' H d v)(low:∀m a,m<r.length->r'[m]?=some a->r[m]?=some a)(s:Sco r.length d):Rp r H d v:=by
 induction h with
 | non=>exact .non
 | bl b=>exact .bl b
 | int i=>exact .int i
 | str x=>exact .str x
 | tup e l f ih=>
  cases s with
  | tup s=>exact .tup e l λi d v h1 h2=>ih i d v h1 h2 (s d (zF h1))
 | ref h=>
  cases s with
  | ref s=>exact .ref (low _ _ s h)
 | exc h=>exact .exc h
def Pre (S S':Sto):Prop:=∀(n:Nat)(o:Ob),S[n]?=some o->S'[n]?=some o
theorem Pre.refl {S:Sto}:Pre S S:=λ_ _ h=>h
theorem Pre.push {S S':Sto}{o:Ob}(h:Pre S S'):Pre S (S'++[o]):=λn u e=>by
 have z:=h n u e;rw[zI (zB.mp z).1];exact z
theorem Pre.trans {S S' S2:Sto}(h:Pre S S')(k:Pre S' S2):Pre S S2:=λn o e=>k n o (h n o e)
theorem Ms {r r':List Addr}{H H':Hp}(e:Ext r r' H H'):∀m a,m<r.length->r'[m]?=some a->r[m]?=some a:=λm a hm h=>by
 have z:r[m]?=some r[m]:=by simp[hm]
 rw[e.adr _ _ z] at h;rw[z];exact h
theorem ZY.low {K:Fg}{r r':List Addr}{S S':Sto}{H H':Hp}(h:ZY K r S H)(e:Ext r r' H H')(h':ZY K r' S' H')(p:Pre S S'):ZY K r S H':=by
 have rl:∀ {ds:List D} {xs ys:List V},Rps r H ds xs->Rps r' H' ds ys->Rps r H' ds ys:=λ{ds xs ys} a b=>⟨b.1,λi d v h1 h2=>by
  obtain⟨v0,_,q⟩:=a.get h1;exact(b.2 i d v h1 h2).low (Ms e) q.sco⟩
 refine⟨h.len,λn a o h1 h2=>?_,λn m a xs ys h1 h2 h3 h4 o1 o2=>h'.nd n m a xs ys (e.adr _ _ h1) (e.adr _ _ h2) (p _ _ h3) (p _ _ h4) o1 o2⟩;have q:=h.ob n a o h1 h2
 have q':=h'.ob n a o (e.adr _ _ h1) (p _ _ h2);cases o with
 | lst ds=>
  obtain⟨xs,_,a1⟩:=q;obtain⟨ys,b0,b1⟩:=q';exact⟨ys,b0,rl a1 b1⟩
 | frz ds=>
  obtain⟨xs,_,a1⟩:=q;obtain⟨ys,b0,b1⟩:=q';exact⟨ys,b0,rl a1 b1⟩
 | ins C fs=>
  obtain⟨_,_,_,a1⟩:=q;obtain⟨dx,fs',b0,b1⟩:=q';exact⟨dx,fs',b0,b1.1,rl a1.2 b1.2⟩
 | dct aV=>
  obtain⟨_,_,a1⟩:=q;obtain⟨ks,b0,b1⟩:=q';exact⟨ks,b0,b1.1,rl a1.2 b1.2⟩
 | dck aV=>
  obtain⟨_,_,a1⟩:=q;obtain⟨ks,b0,b1⟩:=q';exact⟨ks,b0,b1.1,rl a1.2 b1.2⟩
 | tpl ws=>exact q'
 | cod P pos q0=>exact q'
def Gc (S:Sto)(Q:DK):DK:=λd S'=>Pre S S'/\Sco S.length d/\Q d S
def GcX (S:Sto)(ex:Addr->Sto->Prop):Addr->Sto->Prop:=λc S'=>Pre S S'/\ex c S
theorem Ret.gc {K:Fg}{Z Z':Zx}{r:List Addr}{S:Sto}{H:Hp}{Q:DK}{Qv:VK}(h:Ret K Z r H Q Qv)(aZ:Rel K Z r S H):Ret K Z' r H (Gc S Q) Qv:=λv H' r' d S' e rel' p q=>by
 obtain⟨pre,sc,q⟩:=q;have e':Ext r r H H':=⟨λ_ _ z=>z,e.tup,e.xc⟩;rw[<- aZ.len] at sc;exact h v H' r d S e' ⟨aZ.b.low e rel'.b pre,aZ.xw.ext e'⟩ (p.low (Ms e) sc) q
theorem VA.gc {K:Fg}{ex:Addr->Sto->Prop}{E:XK}{r:List Addr}{S:Sto}{H:Hp}(aZ:Rel K (Zc ex E) r S H):VA K (Zc (GcX S ex) E) r H:=λdl σ c H' r' S' e _ rb q=>by
 obtain⟨pre,q⟩:=q;have e':Ext r r H H':=⟨λ_ _ z=>z,e.tup,e.xc⟩;exact aZ.xw [] [] c H' r S e' ⟨rfl,λi d z=>by simp at z⟩ (aZ.b.low e rb pre) q
section
variable {P:Program}{w:World}{K:Fg}{mg:Str->Option Value}{base:Heap}
def gcS (sd:Sd):Sd:=λds S Q ex=>∃Q0 ex0,Q=Gc S Q0/\ex=GcX S ex0/\sd ds S Q0 ex0
theorem fn_gc (h:Yi P w K mg base CX k f fd ps (upF K (gcS sd))):Yi P w K mg base CX k f fd ps (upF K sd):=by
 have imp:∀vs H Q E,upF K sd vs H Q E->upF K (gcS sd) vs H Q E:=λvs H Qv E ⟨ex,r,S,ds,Q,aZ,p,q,ret⟩=>
  ⟨GcX S ex,r,S,ds,Gc S Q,⟨aZ.b,VA.gc aZ⟩,p,⟨Q,ex,rfl,rfl,q⟩,ret.gc aZ⟩
 obtain⟨h1,h2⟩:=h;exact⟨λvs H Q E q=>h1 vs H Q E (imp vs H Q E q),λA outer s H args us vs Q E hr e0 hb rv q=>h2 A outer s H args us vs Q E hr e0 hb rv (imp vs H Q E q)⟩
end
theorem zge (len:∀ds S Q ex,sd ds S Q ex->ds.length=n):∀ds S Q ex,gcS sd ds S Q ex->ds.length=n:=λds S Q ex h=>by
 obtain⟨Q0,ex0,_,_,h⟩:=h;exact len _ _ _ _ h
structure W6 (sc around:Scope)(x:Str)(caps:List Str):Prop where
 kind:sc.kind=.function
 nocell:∀y∈sc.names,y.2≠.cell
 own:∀y∈sc.names,y.2=.local->sc.names.lookup y.1=some .local
 loc:sc.names.lookup x=some .local
 cap:∀y∈caps,sc.names.lookup y=some .free
 out:∀y∈sc.names,y.2=.free->around.names.lookup y.1=some .cell
theorem Uo {α:Type}{y:Str}{v:α}:∀ {l:List (Str×α)},l.lookup y=some v->(y,v)∈l
 | [],h=>by simp at h
 | (n,k)::r,h=>by
  cases e:y==n with
  | true=>
   rw[yA,e] at h;have z:k=v:=Option.some.inj h
   have z2:y=n:=by simpa using e
   rw[z,z2];exact yL
  | false=>
   rw[yA,e] at h;exact yB _ (Uo h)
theorem K0:∀(l:List (Str×NameKind))(acc:List (Str×Addr)),(∀y∈l,y.2=.free->∃c,env.cells.lookup y.1=some c)->(∀x c,acc.lookup x=some c->env.cells.lookup x=some c)->
  ∃cl,(forIn l acc λx r=>(if (x.2==NameKind.free)=true then do let a <- cellOf env x.1;pure (ForInStep.yield ((x.1,a)::r)) else pure (ForInStep.yield r):Sem (ForInStep (List (Str×Addr)))))=pure cl/\
   (∀x c,cl.lookup x=some c->env.cells.lookup x=some c)/\(∀y∈l,y.2=.free->cl.lookup y.1=env.cells.lookup y.1)/\∀x c,acc.lookup x=some c->∃c',cl.lookup x=some c'
 | [],acc,_,ha=>⟨acc,by simp,ha,λy hy=>(by cases hy),λx c e=>⟨c,e⟩⟩
 | (n,k)::r,acc,h,ha=>by
  cases hk:(k==NameKind.free) with
  | false=>
   obtain⟨cl,h1,h2,h3,h4⟩:=K0 r acc (λy hy=>h y (yB _ hy)) ha;refine⟨cl,?_,h2,λy hy hf=>?_,h4⟩
   .rw[uY];simp[hk];simpa using h1
   .have hy':=zS.mp hy;rcases hy' with rfl|hy
    .rw[show k=NameKind.free from hf] at hk;exact absurd hk ⋯
    .exact h3 y hy hf
  | true=>
   have hf:k=NameKind.free:=by simpa using hk
   obtain⟨c,hc⟩:=h (n,k) yL hf;obtain⟨cl,h1,h2,h3,h4⟩:=K0 r ((n,c)::acc) (λy hy=>h y (yB _ hy)) (λx c' e=>by
    cases q:x==n with
    | true=>
     rw[yA,q] at e;have z:x=n:=by simpa using q
     rw[z,hc];exact e
    | false=>
     rw[yA,q] at e;exact ha x c' e)
   refine⟨cl,?_,h2,λy hy hf=>?_,λx c' e=>?_⟩
   .have ec:cellOf env n=pure c:=by unfold cellOf;rw[hc]
    rw[uY];simp[hk,ec];simpa using h1
   .have hy':=zS.mp hy;rcases hy' with rfl|hy
    .obtain⟨c',e⟩:=h4 n c (by simp);rw[e];exact(h2 _ _ e).symm
    .exact h3 y hy hf
   .refine h4 x (if x==n then c else c') ?_;cases q:x==n with
    | true=>simp[yA,q]
    | false=>simp[yA,q,e]
theorem Cn (h:∀y∈sc.names,y.2=.free->∃c,env.cells.lookup y.1=some c):
  ∃cl,closureFor sc env=pure cl/\(∀x c,cl.lookup x=some c->env.cells.lookup x=some c)/\∀y∈sc.names,y.2=.free->cl.lookup y.1=env.cells.lookup y.1:=by
 obtain⟨cl,h1,h2,h3,_⟩:=K0 sc.names [] h (λx c e=>by simp at e);refine⟨cl,?_,h2,h3⟩;unfold closureFor;simp only[bind_pure];exact h1
theorem Eo {env:Env}:∀ {names:List (Str×NameKind)} {x:Str},names.lookup x=some .free->
  (names.map λ(n,k)=>if (k==NameKind.free&&env.scope.kind==.function&&env.kindOf n==some .cell) then (n,NameKind.cell) else (n,k)).lookup x=some .cell\/
  (names.map λ(n,k)=>if (k==NameKind.free&&env.scope.kind==.function&&env.kindOf n==some .cell) then (n,NameKind.cell) else (n,k)).lookup x=some .free
 | [],_,h=>by simp at h
 | (n,k)::r,x,h=>by
  have ih:=@Eo env r x;rw[yM];cases hx:x==n with
  | true=>
   rw[yA,hx] at h;have hk:k=.free:=Option.some.inj h;subst hk;dsimp only;split
   .left;simp[yA,hx]
   .right;simp[yA,hx]
  | false=>
   rw[yA,hx] at h;dsimp only;split
   .simp only[yA,hx];exact ih h
   .simp only[yA,hx];exact ih h
theorem JH {env:Env}:∀ {names:List (Str×NameKind)} {x:Str},(∀y∈names,y.2≠.cell)->
  ((names.map λ(n,k)=>if (k==NameKind.free&&env.scope.kind==.function&&env.kindOf n==some .cell) then (n,NameKind.cell) else (n,k)).lookup x=some .cell\/
  (names.map λ(n,k)=>if (k==NameKind.free&&env.scope.kind==.function&&env.kindOf n==some .cell) then (n,NameKind.cell) else (n,k)).lookup x=some .free)->names.lookup x=some .free
 | [],_,_,h=>by simp at h
 | (n,k)::r,x,hc,h=>by
  have ih:=@JH env r x λy hy=>hc y (yB _ hy)
  rw[yM] at h;cases hx:x==n with
  | true=>
   rw[yA,hx];dsimp only at h;split at h
   .rename_i q;simp only[xN] at q;have hk:k=.free:=by simpa using q.1.1
    rw[hk]
   .simp only[yA,hx] at h;rcases h with h|h
    .exact absurd (Option.some.inj h) (hc (n,k) yL)
    .exact h
  | false=>
   rw[yA,hx];dsimp only at h;split at h
   .simp only[yA,hx] at h;exact ih h
   .simp only[yA,hx] at h;exact ih h
abbrev Cx.comp (X:Cx)(sc:Scope)(N:List Str)(cl:List (Str×Addr))(C:Addr)(s0:Shared)(H0:Hp)(fp:List Addr)(pn:LA):Cx:=
 { X with N:=N,env:=compEnvC sc cl C X.env,s₀:=s0,H₀:=H0,outer:=X.stack,stack:=X.stack,ex:=fp,fn:=λ_=>false,pn:=pn,xe:=λ_ _=>False }
def Yh (caps:List Nat)(σ:St):St:=caps.map λj=>(σ[j]?).join
def Z8 (caps:List Nat)(dl:Ev):Ev:=caps.map λj=>(dl[j]?).join
def RO (caps:List Nat)(wi:TI)(tc:TT)(te:TE):TE:=λσ H Q=>wi σ H λJ H1=>∀D,H1 D=none->∃W:Nat->Nat->Hp->Prop,(∃m,W 0 m (upd H1 D (.lst [])))/\∀i m H,W i m H->
 (J.stop i H/\Q (.ref D) H)\/(J.go i H/\∀x H',J.yld i H x H'->tc (some x::Yh caps σ) H' λb H2=>if b=true then te (some x::Yh caps σ) H2 λy H3=>∃ys,H3 D=some (.lst ys)/\ys.length<sizeLine/\∃m',m'<m/\W (i+1) m' (upd H3 D (.lst (ys++[y])))
  else ∃m',m'<m/\W (i+1) m' H2)
def PTs (Y:Cx)(ifs:List Expr)(tc:TT):Prop:=∀(pins:LA)(s:Shared)(σ:St)(H:Hp)(Q:Bool->Hp->Prop),Inv Y pins σ H s->tc σ H Q->
 wpAny (model Y.prog Y.w) Y.A (forIn ifs true λc r=>if r=true then do let ok <- isTrue c Y.env (eval c Y.env);pure (ForInStep.yield ok) else pure (ForInStep.yield r)) (TP Y pins σ Q) Y.xe s
theorem J0:PTs Y [] (λ_ H Q=>Q true H):=λ_ _ _ H _ I h=>wpAny_tests_nil ⟨H,I,h⟩
theorem zff (h:PT Y c tc):PTs Y [c] tc:=λpins s σ H Q I q=>wpAny_tests_one (h pins s σ H Q I q)
section
variable {X:Cx}{pins:LA}{σ:St}{H:Hp}{s:Shared}
end
structure SH (X:Cx)(pins:LA)(σ:St)(C:Addr)(Q:VK)(D:Addr)(s':Shared):Prop where
 q:∃H',Inv X pins σ H' s'/\Q (.ref D) H'/\H' C=none
 ns:∃m,s'.heap.Ns C m
 loc:C≠X.env.locals
 old:X.s₀.heap.objs.size<=C
 cell:∀x c,X.env.cells.lookup x=some c->c≠C
 pin:∀p∈X.pn++pins,p.1≠C
theorem CB {aW aU:Expr}{tg:Expr}{ifs:List Expr}{scope:Scope}{pos:Pos}{it acc:Value}{env:Env}{R:Result->Shared->Prop}(I:Nat->Shared->Prop)
  (turn:∀n s,I n s->wpAny (model prog w) A (pyNext it) (λr s1=>match r with
   | none=>R (.ok .next) s1
   | some v=>wpAny (model prog w) A (letOwnedTupleGo tg it v) (λ_ s2=>wpAny (model prog w) A (assign tg env v) (λ_ s3=>
     wpAny (model prog w) A (forIn ifs true λc r=>if r=true then do let ok <- isTrue c env (eval c env);pure (ForInStep.yield ok) else pure (ForInStep.yield r)) (λok s4=>
      if ok=true then wpAny (model prog w) A (eval aW env) (λx s5=>
       wpAny (model prog w) A (call (.builtin "list.append") [acc,x]) (λ_ s6=>∃m,m<n/\I m s6) (notedBy (model prog w) A env λe s'=>R (.error e) s') s5) (notedBy (model prog w) A env λe s'=>R (.error e) s') s4
      else ∃m,m<n/\I m s4) (notedBy (model prog w) A env λe s'=>R (.error e) s') s3)
     (notedBy (model prog w) A env λe s'=>R (.error e) s') s2) (notedBy (model prog w) A env λe s'=>R (.error e) s') s1) (notedBy (model prog w) A env λe s'=>R (.error e) s') s)
  (n:Nat)(h:I n s):codeAny (model prog w) A (.compLoop (.ListComp aW [⟨tg,aU,ifs,0⟩] scope pos) 0 it acc env) R s:=by
 refine codeAny_loop rfl I (λj t hI=>?_) n h;show wpAny _ A ((compTurn (.ListComp aW [⟨tg,aU,ifs,0⟩] scope pos) 0 it acc env).onRaise (λx=>do noteFrame x env;theTreesLotGoes x)) _ _ t;refine wpAny_noted ?_;rw[compTurn_list];refine wpAny_bind (wpAny_standAt (wpAny_bind (wpAny_mono (turn j t hI) (λr s1 h1=>?_) λ_ _ z=>z)));cases r with
 | none=>exact wpAny_pure h1
 | some v=>
  refine wpAny_bind (wpAny_mono h1 (λ_ s2 h2=>?_) λ_ _ z=>z);refine wpAny_bind (wpAny_mono h2 (λ_ s3 h3=>wpAny_bind (wpAny_mono h3 (λok s4 h4=>?_) λ_ _ z=>z)) λ_ _ z=>z);cases ok with
  | false=>exact wpAny_pure ⟨rfl,h4⟩
  | true=>exact wpAny_bind (wpAny_bind (wpAny_mono h4 (λx s5 h5=>wpAny_bind (wpAny_mono h5 (λ_ s6 h6=>wpAny_pure (wpAny_pure ⟨rfl,h6⟩)) λ_ _ z=>z)) λ_ _ z=>z))
structure Xw (sc around:Scope)(own caps:List Str):Prop where
 kind:sc.kind=.function
 nocell:∀y∈sc.names,y.2≠.cell
 own:∀y∈sc.names,y.2=.local->sc.names.lookup y.1=some .local
 cap:∀y∈caps,sc.names.lookup y=some .free
 out:∀y∈sc.names,y.2=.free->around.names.lookup y.1=some .cell
theorem zaK {sc:Scope}{own N:List Str}{caps:List Nat}{cl:List (Str×Addr)}{fp:List Addr}{h1:Heap}{m:Str->Option Value}{tk:Nat}(I:Inv X pins σ H s)(cs:Xw sc X.env.scope own N)
  (hN:∀(j:Nat)(y:Str),N[j]?=some y->∃i,caps[j]?=some i/\X.N[i]?=some y)(aM:caps.length=N.length)
  (c1:∀x c,cl.lookup x=some c->X.env.cells.lookup x=some c)(c2:∀y∈sc.names,y.2=.free->cl.lookup y.1=X.env.cells.lookup y.1)
  (hf:∀b∈fp,Yk X pins H b)(hfo:∀b∈fp,b<s.heap.objs.size)(hns:h1.Ns s.heap.objs.size m)(hk:∀b o,s.heap.get? b=some o->h1.get? b=some o):
  Inv (Cx.comp X sc (own++N) cl s.heap.objs.size s H fp (X.pn++pins)) [] (List.replicate own.length none++Yh caps σ) H { s with heap:=h1,toks:=tk }:=by
 have stk:∀b∈frs X.stack,b=X.env.locals\/b∈X.fs:=λb hb=>zS.mp (I.stkSub b hb)
 refine⟨⟨I.ok.mod,cs.kind,I.ok.glob,I.ok.blt,zA _,λa b c h1 h2=>I.ok.inj a b c (c1 _ _ h1) (c1 _ _ h2),λy hy=>?_,λ_ _ z=>Bool.noConfusion z,I.ok.hd,I.ok.frames,.inl rfl,λb hb=>⟨zR (hfo b hb),λy c e=>(hf b hb).2.2.2.2.1 y c (c1 _ _ e)⟩,
  I.bs,yK I.ok.bsz I.sz,λb o e hb=>?_,λb hb z=>?_,I.stack,I.stkFree⟩,rfl,I.bare,Un.kept hk,⟨m,hns,λi y v e1 e2 e3=>?_⟩,λy c e=>?_,I.hok.fresh (zA _),λy c e=>I.freeC y c (c1 _ _ e),λp hp=>?_,I.hok.kept hk,?_⟩
 .have hfr:sc.names.lookup y=some .free:=JH cs.nocell hy
  have hm:=Uo hfr;obtain⟨c,e⟩:=I.ok.has y (.inl (cs.out _ hm rfl));exact⟨c,(c2 _ hm rfl).trans e⟩
 .rcases (hf b hb).2.2.2.1 with z|z
  .exact I.ok.noex b o e z
  .exact absurd (zW (Heap.lt_size (I.ok.bs b o e).1) z) (yX _)
 .rcases stk b z with z|z
  .exact(hf b hb).2.1 z
  .exact(hf b hb).2.2.1 z
 .rcases Nat.lt_or_ge i own.length with hi|hi
  .rw[zI (by simpa using hi),vC] at e2;simp[hi] at e2
  .obtain⟨i,rfl⟩:∃k,i=own.length+k:=⟨i-own.length,by omega⟩;have e1':N[i]?=some y:=by
    rw[yJ hi] at e1;simpa using e1
   have e2:(Yh caps σ)[i]?=some (some v):=by
    rw[yJ (by simp)] at e2;simpa using e2
   obtain⟨j,hj,hy⟩:=hN i y e1';have e2':σ[j]?=some (some v):=by
    simp only[Yh,zG,hj,wL,Option.some.injEq] at e2;cases q:σ[j]? with
    | none=>rw[q] at e2;cases e2
    | some o=>rw[q] at e2;simp at e2;rw[e2]
   have hfr:sc.names.lookup y=some .free:=cs.cap y (zF e1')
   have hm:=Uo hfr
   have hce:X.env.scope.names.lookup y=some .cell:=cs.out _ hm rfl;obtain⟨m0,_,hl⟩:=I.loc;obtain⟨u,r,l⟩:=hl j y v hy e2' (.inr (.inl hce));refine⟨u,r,.inr ⟨Eo hfr,?_⟩⟩;rcases l with ⟨k,_⟩|⟨_,c,ec,hcell⟩
   .rw[show X.env.kindOf y=some .cell from hce] at k;cases k
   .exact⟨c,(c2 _ hm rfl).trans ec,hcell.keeps hk⟩
 .obtain⟨v,z⟩:=I.cell y c (c1 _ _ e);exact⟨v,z.keeps hk⟩
 .have hp':p∈X.pn++pins:=by simpa using hp
  obtain⟨p1,p2,p3,p4,p5⟩:=I.pin p hp';refine⟨hk _ _ p1,p2,zR (Heap.lt_size p1),λz=>?_,p5⟩;rcases stk _ z with z|z
  .exact p3 z
  .exact p4 z
 .simp[Yh,aM]
theorem Jf {tg:Expr}{K:It->Hp->Prop}{ifs:List Expr}{tc:TT}{use:Option (Value->Sem Unit)}{Qr:Value->Shared->Prop}(hc:X.calm=true)(cs:Xw sc X.env.scope own N)(hN:∀(j:Nat)(y:Str),N[j]?=some y->∃i,caps[j]?=some i/\X.N[i]?=some y)(aM:caps.length=N.length)
  (hi:PI X tg aU wi)(hg:∀cl C s0 H0 fp pn,PG (Cx.comp X sc (own++N) cl C s0 H0 fp pn) tg gt)(he:∀cl C s0 H0 fp pn,PE (Cx.comp X sc (own++N) cl C s0 H0 fp pn) aW te)
  (ht:∀cl C s0 H0 fp pn,PTs (Cx.comp X sc (own++N) cl C s0 H0 fp pn) ifs tc)(hs:∀y,foldedSetIterable aU X.env y=pure y)
  {pins:LA}{s:Shared}{σ:L2.St}{H:Hp}{Q:VK}{p2:Pos}(I:Inv X pins σ H s)(h:wi σ H K)(hK:∀J H1,K J H1->∀D,H1 D=none->∃W:Nat->Nat->Hp->Prop,(∃m,W 0 m (upd H1 D (.lst [])))/\∀i m H,W i m H->(J.stop i H/\Q (.ref D) H)\/(J.go i H/\∀x H',J.yld i H x H'->∀o:L2.St,o.length=own.length->gt x (o++Yh caps σ) H' λσ8 H8=>(∃o8:L2.St,o8.length=own.length/\σ8=o8++Yh caps σ)/\tc σ8 H8 λb H9=>if b=true then te σ8 H9 λy H3=>∃ys,H3 D=some (.lst ys)/\ys.length<sizeLine/\∃m',m'<m/\W (i+1) m' (upd H3 D (.lst (ys++[y]))) else ∃m',m'<m/\W (i+1) m' H9))
  (aY:∀D C s',SH X pins σ C Q D s'->compPost (mX X) X.A X.xe use Qr (.ref D) C (.ok .next) s'):
  wpAny (mX X) X.A (comprehension (.ListComp aW [⟨tg,aU,ifs,0⟩] sc pos) sc X.env p2 (newList []) false (eval aU X.env) use) Qr X.xe s:=by
 obtain⟨cl,k1,k2,k3⟩:=Cn (sc:=sc) (env:=X.env) λy hy hf=>I.ok.has y.1 (.inl (cs.out y hy hf))
 refine wpAny_comprehension_free rfl hs k1 cs.kind cs.own (thn (hi pins s σ H _ I h) λv s1 h1=>thn h1 λitv s2 h2=>?_);obtain⟨it,fp,tn,J,H2,e,I2,T,st2,f2,body⟩:=h2;subst e;have hfo:∀b∈fp,b<s2.heap.objs.size:=λb hb=>by
  obtain⟨o,e,_⟩:=T.obj _ _ st2 b hb;exact Heap.lt_size e
 have hD:H2 s2.heap.objs.size=none:=I2.hok.fresh (zA _);obtain⟨W,⟨m0,w0⟩,turn⟩:=hK _ _ body _ hD;refine wpAny_newObj_type ?_;have I3:Inv X pins σ (upd H2 s2.heap.objs.size (.lst [])) { s2 with heap:=s2.heap.push { cls:=.type "list",dict:=none,data:=.seq ([]:List Value).toArray },toks:=s2.toks }:=
  I2.laid (t':=s2.toks) (λb u e=>Heap.get?_push_of_some _ e) (zA _) ⟨zZ _,[],0,.nil,Heap.get?_push_size _ rfl⟩
 generalize hs3:({ s2 with heap:=s2.heap.push { cls:=.type "list",dict:=none,data:=.seq ([]:List Value).toArray },toks:=s2.toks }:Shared)=s3 at I3;have es3:({ s2 with heap:=s2.heap.push { cls:=.type "list",dict:=none,data:=.seq ([]:List Value).toArray } }:Shared)=s3:=hs3
 try rw[es3]
 have f3:∀b∈fp,Yk X pins (upd H2 s2.heap.objs.size (.lst [])) b:=λb hb=>⟨by rw[ZV (zR (hfo b hb))];exact(f2 b hb).1,(f2 b hb).2⟩
 have up3:∀b o,s2.heap.get? b=some o->s3.heap.get? b=some o:=λb o e=>by rw[<- hs3];exact Heap.get?_push_of_some _ e
 have st3:tn 0 s3.heap:=T.keep _ _ _ st2 λb _ o e=>up3 b o e
 have hfo3:∀b∈fp,b<s3.heap.objs.size:=λb hb=>by
  obtain⟨o,e,_⟩:=T.obj _ _ st3 b hb;exact Heap.lt_size e
 refine wpAny_newFunctionEnv cs.nocell (λy hy=>by simp at hy) (λh4 ns4 sb4=>?_) cs.kind;have hk4:∀b o,s3.heap.get? b=some o->h4.get? b=some o:=λb o e=>(sb4.2 b (zR (Heap.lt_size e))).trans (Heap.get?_push_of_some _ e)
 have I4:=zaK (tk:=s3.toks+([]:List (Str×Value)).length) I3 cs hN aM k2 k3 f3 hfo3 ns4 hk4;generalize hs4:({ s3 with heap:=h4,toks:=s3.toks+([]:List (Str×Value)).length }:Shared)=s4 at I4 ⊢;have eh4:s4.heap=h4:=by rw[<- hs4]
 have st4:tn 0 s4.heap:=by rw[eh4];exact T.keep _ _ _ st3 λb _ o e=>hk4 b o e
 have fY:∀ {H':Hp},(∀b∈fp,H' b=none)->∀b∈fp,Yk (Cx.comp X sc (own++N) cl s3.heap.objs.size s3 (upd H2 s2.heap.objs.size (.lst [])) fp (X.pn++pins)) [] H' b:=λhn b hb=>by
  obtain⟨_,z2,z3,z4,z5,z6⟩:=f3 b hb;refine⟨hn b hb,zR (hfo3 b hb),λz=>?_,.inl hb,λy c e=>z5 y c (k2 _ _ e),λp hp=>z6 p (by simpa using hp)⟩;rcases zS.mp (I3.stkSub b z) with z|z
  .exact z2 z
  .exact z3 z
 have loop:codeAny (mX X) X.A (.compLoop (.ListComp aW [⟨tg,aU,ifs,0⟩] sc pos) 0 (.ref it) (.ref s2.heap.objs.size) (compEnvC sc cl s3.heap.objs.size X.env))
   (compPost (mX X) X.A X.xe use Qr (.ref s2.heap.objs.size) s3.heap.objs.size) s4:=by
  refine CB (λn s'=>∃i o H',o.length=own.length/\Inv (Cx.comp X sc (own++N) cl s3.heap.objs.size s3 (upd H2 s2.heap.objs.size (.lst [])) fp (X.pn++pins)) [] (o++Yh caps σ) H' s'/\tn i s'.heap/\(∀b∈fp,H' b=none)/\W i n H') ?_ m0
   ⟨0,_,_,uT,I4,st4,λb hb=>(f3 b hb).1,w0⟩
  rintro n s5 ⟨i,o,H5,ho,I5,st5,fr5,w5⟩;rcases turn i n H5 w5 with ⟨stop,q⟩|⟨go,step⟩
  .refine thn (T.done (Cx.comp X sc (own++N) cl s3.heap.objs.size s3 (upd H2 s2.heap.objs.size (.lst [])) fp (X.pn++pins)) rfl rfl rfl hc i [] s5 _ H5 _ I5 (fY fr5) st5 stop) λr s6 ⟨hr,I6⟩=>?_
   subst hr;refine aY _ _ _ ⟨⟨H5,I3.call' I6.os I6.base I6.hok I6.bare (λb hb=>?_),q,I6.free⟩,?_,xQ I3.lt,I3.sz,λy c e z=>?_,λp hp z=>?_⟩
   .obtain⟨_,z2,z3,z4,z5,z6⟩:=f3 b hb;exact⟨z4,z2,z5,z6⟩
   .obtain⟨m,hm,_⟩:=I6.loc;exact⟨m,hm⟩
   .obtain⟨v,hv⟩:=I3.cell y c e;exact absurd (z ▸ hv.lt) (yX _)
   .exact absurd (z ▸ Heap.lt_size (I3.pin p hp).1) (yX _)
  .refine thn (T.item (Cx.comp X sc (own++N) cl s3.heap.objs.size s3 (upd H2 s2.heap.objs.size (.lst [])) fp (X.pn++pins)) rfl rfl rfl hc i [] s5 _ H5 _ I5 (fY fr5) st5 go) λr s6 ⟨u,hr,h6⟩=>?_
   subst hr;refine wpAny_mono h6 (λ_ s7 ⟨y,H7,I7,r7,y7,st7,fr7⟩=>?_) λ_ _ z=>z
   have I7':=I7.pinned (fY fr7) (T.obj _ _ st7);refine wpAny_mono (hg _ _ _ _ _ _ _ s7 _ H7 y u _ I7' r7 (step y H7 y7 o ho)) (λ_ s8 ⟨σ8,H8,I8,⟨o8,ho8,e8⟩,q8⟩=>?_) λ_ _ z=>z.elim
   subst e8;have stay:∀ {H':Hp} {s':Shared},Inv (Cx.comp X sc (own++N) cl s3.heap.objs.size s3 (upd H2 s2.heap.objs.size (.lst [])) fp (X.pn++pins)) ([]++TX fp s7.heap) (o8++Yh caps σ) H' s'->∀m',m'<n->W (i+1) m' H'->
     ∃m,m<n/\∃i o H',o.length=own.length/\Inv (Cx.comp X sc (own++N) cl s3.heap.objs.size s3 (upd H2 s2.heap.objs.size (.lst [])) fp (X.pn++pins)) [] (o++Yh caps σ) H' s'/\tn i s'.heap/\(∀b∈fp,H' b=none)/\W i m H':=λ{H' s'} J m' hm w'=>by
    refine⟨m',hm,i+1,o8,H',ho8,J.unpinned,T.keep _ _ _ st7 λb hb o e=>(J.pin (b,o) (xG _ (xG _ (QV hb e)))).1,λb hb=>?_,w'⟩;obtain⟨o,e,d⟩:=T.obj _ _ st7 b hb;exact(J.pin (b,o) (xG _ (xG _ (QV hb e)))).2.1
   refine wpAny_mono (ht _ _ _ _ _ _ _ s8 _ H8 _ I8 q8) (λb s9 ⟨H9,I9,q9⟩=>?_) λ_ _ z=>z.elim
   cases b with
   | false=>
    rw[if_neg zN] at q9 ⊢;obtain⟨m',hm,w9⟩:=q9;exact stay I9 m' hm w9
   | true=>
    rw[if_pos rfl] at q9 ⊢;refine wpAny_mono (he _ _ _ _ _ _ _ s9 _ H9 _ I9 q9) (λu2 s10 ⟨z,H10,I10,r10,q10⟩=>?_) λ_ _ z=>z.elim
    obtain⟨ys,hD10,hlt,m',hm,w10⟩:=q10;refine wpAny_mono (Fz (X:=(Cx.comp X sc (own++N) cl s3.heap.objs.size s3 (upd H2 s2.heap.objs.size (.lst [])) fp (X.pn++pins))) _ s10 _ H10 (.ref s2.heap.objs.size) [z] (.ref s2.heap.objs.size) [u2] (λ_ H'=>H'=upd H10 s2.heap.objs.size (.lst (ys++[z]))) I10 rfl (.cons r10 .nil) ⟨_,ys,z,rfl,rfl,hD10,hlt,rfl⟩) (λ_ s11 ⟨_,H11,I11,_,e11⟩=>?_) λ_ _ z=>z.elim
    subst e11;exact stay I11 m' hm w10
 exact codeAny_compStart_list loop (T.self _ 0 s4 _ _ st4 loop)
section
variable {X:Cx}{aW aU:Expr}{x:Str}{px pos:Pos}{ifs:List Expr}{sc:Scope}{N:List Str}{caps:List Nat}{wi:TI}{tc:TT}{te:TE}
theorem DF (hc:X.calm=true)(cs:W6 sc X.env.scope x N)(hN:∀(j:Nat)(y:Str),N[j]?=some y->∃i,caps[j]?=some i/\X.N[i]?=some y)(aM:caps.length=N.length)(hnd:(x::N).Nodup)(hi:PI X (.Name x px) aU wi)(ht:∀cl C s0 H0 fp pn,PTs (Cx.comp X sc (x::N) cl C s0 H0 fp pn) ifs tc)(he:∀cl C s0 H0 fp pn,PE (Cx.comp X sc (x::N) cl C s0 H0 fp pn) aW te)(hs:∀y,foldedSetIterable aU X.env y=pure y)(I:Inv X pins σ H s)(h:RO caps wi tc te σ H Q)(aY:∀D C s',SH X pins σ C Q D s'->compPost (mX X) X.A X.xe use Qr (.ref D) C (.ok .next) s'):
  wpAny (mX X) X.A (comprehension (.ListComp aW [⟨.Name x px,aU,ifs,0⟩] sc pos) sc X.env p2 (newList []) false (eval aU X.env) use) Qr X.xe s:=by
 refine Jf (own:=[x]) (gt:=N8 0) hc ⟨cs.kind,cs.nocell,cs.own,cs.cap,cs.out⟩ hN aM hi (λcl C s0 H0 fp pn=>Tz hnd rfl (.inl (lookup_relabel_local cs.loc)) (.inr (lookup_relabel_local cs.loc))) he ht hs I h (λJ H1 b D hD=>?_) aY;obtain⟨W,w0,turn⟩:=b D hD;refine⟨W,w0,λi m H w=>(turn i m H w).imp id λ⟨go,st⟩=>⟨go,λv H' y o ho=>?_⟩⟩
 match o,ho with
 | [_],_=>exact⟨⟨[some v],rfl,rfl⟩,st v H' y⟩
theorem Xj (h:caps.map (λi=>X.N[i]?)=N.map some):(∀(j:Nat)(y:Str),N[j]?=some y->∃i,caps[j]?=some i/\X.N[i]?=some y)/\caps.length=N.length:=by
 refine⟨λj y e=>?_,by simpa using congrArg List.length h⟩;have z:(caps.map (λi=>X.N[i]?))[j]?=some (some y):=by rw[h,zG,e];rfl
 rw[zG] at z;cases q:caps[j]? with
 | none=>rw[q] at z;cases z
 | some i=>rw[q] at z;exact⟨i,rfl,by simpa using z⟩
theorem Cb (hc:X.calm=true)(cs:W6 sc X.env.scope x N)(hN:Hn X caps N)(hnd:(x::N).Nodup)
  (hi:PI X (.Name x px) aU wi)(ht:∀cl C s0 H0 fp pn,PTs (Cx.comp X sc (x::N) cl C s0 H0 fp pn) ifs tc)(he:∀cl C s0 H0 fp pn,PE (Cx.comp X sc (x::N) cl C s0 H0 fp pn) aW te)
  (hs:∀y,foldedSetIterable aU X.env y=pure y:=by intro _;rfl):PE X (.ListComp aW [⟨.Name x px,aU,ifs,0⟩] sc pos) (RO caps wi tc te):=by
 intro pins s σ H Q I h;rw[eval_ListComp];refine DF (use:=none) hc cs (Xj hN).1 (Xj hN).2 hnd hi ht he hs I h λD C s' f=>?_
 obtain⟨⟨H',I',q,hC⟩,⟨m,ns⟩,l,o,c,p⟩:=f;exact⟨m,ns,λh' sb=>⟨.ref D,H',I'.turned (t':=s'.toks) (λb ob hb e=>(sb.2 b hb).trans e) hC l (.inr o) c p,rfl,q⟩⟩
theorem K1 {tg:Expr}{ifs:List Expr}{T:TE}{i:Nat}{y:Str}{py spos:Pos}
  (core:∀ {use:Option (Value->Sem Unit)} {Qr:Value->Shared->Prop} {pins:LA} {s:Shared} {σ:St} {H:Hp} {Q:VK} {p2:Pos},Inv X pins σ H s->T σ H Q->(∀D C s',SH X pins σ C Q D s'->compPost (mX X) X.A X.xe use Qr (.ref D) C (.ok .next) s')->
   wpAny (mX X) X.A (comprehension (.ListComp aW [⟨tg,aU,ifs,0⟩] sc pos) sc X.env p2 (newList []) false (eval aU X.env) use) Qr X.xe s)
  (hNd:X.N.Nodup)(hy:X.N[i]?=some y)(hl:X.env.scope.names.lookup y=some .local)(hsw:swapsWith (.ListComp aW [⟨tg,aU,ifs,0⟩] sc pos) (some (.Name y py)) spos.line X.env=pure true):
  PS X (.Assign [.Name y py] (.ListComp aW [⟨tg,aU,ifs,0⟩] sc pos) spos) (λE σ H=>T σ H λv H1=>E.nx (σ.set i (some v)) H1):=by
 intro pins s σ H E I h;rw[exec_Assign_Name_used (hs:=hsw)];refine wpAny_bind (wpAny_standAt ?_);refine wpAny_bind ?_;show wpAny _ _ (comprehension _ sc X.env _ (newList []) false (eval aU X.env) (some (assign (.Name y py) X.env)) >>= λ_=>pure Unit.unit) _ _ s
 refine wpAny_bind (thn (core (use:=some (assign (.Name y py) X.env)) (Qr:=λ_ s'=>SP X pins E .next s') I h λD C s' f=>?_) λ_ s' hq=>wpAny_pure (wpAny_pure hq));obtain⟨⟨H',I',q,hC⟩,⟨m,ns⟩,l,o,c,p⟩:=f;refine wpAny_assign_Name (IA (v:=.ref D) I' hNd hy (.inl hl) rfl (λs'' I'' ⟨a,sb,ha⟩=>⟨m,ns.sameBut sb ?_,λh' sb'=>⟨_,H',I''.turned (t':=s''.toks) (λb ob hb e=>(sb'.2 b hb).trans e) hC l (.inr o) c p,q⟩⟩) (.inr hl));rcases ha with rfl|ha
 .exact l
 .exact Ne.symm (c _ _ ha)
theorem Hl (hc:X.calm=true)(cs:W6 sc X.env.scope x N)(hN:Hn X caps N)(hnd:(x::N).Nodup)(hi:PI X (.Name x px) aU wi)(ht:∀cl C s0 H0 fp pn,PTs (Cx.comp X sc (x::N) cl C s0 H0 fp pn) ifs tc)(he:∀cl C s0 H0 fp pn,PE (Cx.comp X sc (x::N) cl C s0 H0 fp pn) aW te)(hNd:X.N.Nodup)(hy:X.N[i]?=some y)(hl:X.env.scope.names.lookup y=some .local)(hsw:swapsWith (.ListComp aW [⟨.Name x px,aU,ifs,0⟩] sc pos) (some (.Name y py)) spos.line X.env=pure true)(hs:∀y,foldedSetIterable aU X.env y=pure y:=by intro _;rfl):PS X (.Assign [.Name y py] (.ListComp aW [⟨.Name x px,aU,ifs,0⟩] sc pos) spos) (λE σ H=>RO caps wi tc te σ H λv H1=>E.nx (σ.set i (some v)) H1):=
 K1 (λI h aY=>DF hc cs (Xj hN).1 (Xj hN).2 hnd hi ht he hs I h aY) hNd hy hl hsw
end
section
variable {X:Cx}{Z:Zx}{aW aU:Expr}{x:Str}{px pos:Pos}{ifs:List Expr}{sc ar:Scope}{N:List Str}{caps:List Nat}
theorem K8 {r:List Addr}{H:Hp}{dl:Ev}{σ:St}{d:D}{v:V}(h:Rs r H dl σ)(p:Rp r H d v):Rs r H (some d::Z8 caps dl) (some v::Yh caps σ):=by
 refine⟨by simp[Z8,Yh],λi e hi=>?_⟩;cases i with
 | zero=>simp at hi;subst hi;exact⟨v,rfl,p⟩
 | succ i=>
  simp only[uZ,Z8,zG] at hi;cases q:caps[i]? with
  | none=>rw[q] at hi;cases hi
  | some j=>
   rw[q] at hi;simp only[wL,Option.some.injEq] at hi;have hj:dl[j]?=some (some e):=by
    cases q2:dl[j]? with
    | none=>rw[q2] at hi;cases hi
    | some o=>rw[q2] at hi;simp at hi;rw[hi]
   obtain⟨w,h1,h2⟩:=h.2 j e hj;refine⟨w,?_,h2⟩;simp only[uZ,Yh,zG,q,wL,h1,Option.join_some]
def WH (Y:Cx)(ifs:List Expr)(t:TDT):Prop:=PTs Y ifs (upT Y.K Z0 t)
def YW:TDT:=λ_ S Q=>Q true S
theorem C4:WH Y [] YW:=λpins s σ H Qb I ⟨r,dl,S,Q,rs,aZ,q,ret⟩=>J0 pins s σ H Qb I (ret true H r S Ext.refl aZ q)
theorem SI (h:PDT Y Z0 c t):WH Y [c] t:=zff h
def Wm (caps:List Nat)(tc:TDT)(te:TDE)(k:Nat)(dl:Ev)(d:D)(S:Sto)(nx:Sto->Prop):Prop:=
 tc (some d::Z8 caps dl) S λb S1=>if b=true then te (some d::Z8 caps dl) S1 λy S2=>match S2[k]? with
  | some (.lst ys)=>ys.length<1000/\nx (S2.set k (.lst (ys++[y])))
  | _=>False
 else nx S1
@[irreducible] def Xp (caps:List Nat)(tl:TDE)(tc:TDT)(te:TDE):TDE:=λdl S Q=>tl dl S λd S1=>match d with
 | .ref n=>(lAt S1 n).isSome=true/\∃W:Nat->Nat->Sto->Prop,(∃m,W 0 m (S1++[.lst []]))/\∀k m S2,W k m S2->match lAt S2 n with
  | some o=>match (Zk o)[k]? with
   | some y=>Wm caps tc te S1.length dl y S2 λS3=>∃m',m'<m/\W (k+1) m' S3
   | none=>Q (.ref S1.length) S2
  | none=>False
 | _=>False
@[irreducible] def Wg (caps:List Nat)(ta:TDA)(tc:TDT)(te:TDE):TDE:=λdl S Q=>ta dl S λds S1=>match ds with
 | [.int j]=>(-(2^62)<=j/\j<2^62)/\∃W:Nat->Sto->Prop,W 0 (S1++[.lst []])/\∀k S2,W k S2->
   if k<j.toNat then Wm caps tc te S1.length dl (.int k) S2 λS3=>W (k+1) S3 else Q (.ref S1.length) S2
 | _=>False
theorem Ei {tc:TDT}{te:TDE}{r2:List Addr}{H2:Hp}{S1 S2:Sto}{dl:Ev}{σ:St}{D0:Addr}{d:D}{v:V}{nx:Sto->Prop}{Nx:Hp->Prop}(rs:Rs r2 H2 dl σ)(ha:r2[S1.length]?=some D0)(rb:ZY X.K r2 S2 H2)(p:Rp r2 H2 d v)
  (h:Wm caps tc te S1.length dl d S2 nx)(hn:∀r' S' H',Ext r2 r' H2 H'->ZY X.K r' S' H'->nx S'->Nx H'):
  upT X.K Z0 tc (some v::Yh caps σ) H2 λb H3=>if b=true then up X.K Z0 te (some v::Yh caps σ) H3 λy H4=>∃ys,H4 D0=some (.lst ys)/\ys.length<sizeLine/\Nx (upd H4 D0 (.lst (ys++[y]))) else Nx H3:=by
 have rsY:Rs r2 H2 (some d::Z8 caps dl) (some v::Yh caps σ):=K8 rs p;refine⟨r2,_,S2,_,rsY,⟨rb,λ_ _ _ _ _ _ _ _ _ z=>z.elim⟩,h,λb H3 r3 S3 x3 aE q3=>?_⟩;cases b with
 | false=>rw[if_neg zN] at q3 ⊢;exact hn r3 S3 H3 x3 aE.b q3
 | true=>
  rw[if_pos rfl] at q3 ⊢;refine⟨r3,_,S3,_,rsY.ext x3,aE,q3,λz H4 r4 dz S4 x4 aF p4 q4=>?_⟩;split at q4
  .rename_i ys eys;obtain⟨hl,q4⟩:=q4;have ha4:r4[S1.length]?=some D0:=x4.adr _ _ (x3.adr _ _ ha);obtain⟨zs,hD4,pz⟩:=aF.b.ob _ _ _ ha4 eys;obtain⟨rel5,x5⟩:=aF.b.set ha4 eys (pz.snoc p4);exact⟨zs,hD4,by rw[<- pz.1];exact Rx (xD hl),hn r4 _ _ (x3.trans (x4.trans x5)) rel5 q4⟩
  .exact q4.elim
theorem Rr {r:List Addr}{D0:Addr}{n:Nat}(h:r.length=n):(r++[D0])[n]?=some D0:=by subst h;simp
theorem EI {tl:TDE}{tc:TDT}{te:TDE}{σ:St}{H:Hp}{Qv:VK}(h:up X.K Z (Xp caps tl tc te) σ H Qv):RO caps (Cj X.K (up X.K Z tl)) (upT X.K Z0 tc) (up X.K Z0 te) σ H Qv:=by
 obtain⟨r,dl,S,Q,rs,aZ,h,ret⟩:=h;unfold Xp at h;refine⟨r,dl,S,_,rs,aZ,h,λv H1 r1 d S1 x1 aB p1 q1=>?_⟩;cases p1 with
 | @ref n a hn=>
  obtain⟨aQ,W,⟨m0,w0⟩,turn⟩:=q1;have sql:∀ {r':List Addr} {S':Sto} {H':Hp} {o:Ob},Ext r1 r' H1 H'->ZY X.K r' S' H'->lAt S' n=some o->∃xs,SqL X.K H' a xs/\Rps r' H' (Zk o) xs:=λ{r' S' H' o} x' rel' eo=>by
   obtain⟨eo,eL⟩:=Yy eo;obtain⟨a',ha,ob⟩:=rel'.at eo;rw[x'.adr n a hn] at ha;cases ha
   exact ob.list eL
  obtain⟨o1,eo1⟩:=yY.mp aQ;obtain⟨xs1,sq1,_⟩:=sql Ext.refl aB.b eo1;refine⟨a,rfl,⟨xs1,sq1⟩,λD0 hD=>?_⟩;obtain⟨aC,x2⟩:=aB.b.push (ds:=[]) (xs:=[]) hD Rps.nil;refine⟨λk m H'=>∃r' S',Ext (r1++[D0]) r' (upd H1 D0 (.lst [])) H'/\ZY X.K r' S' H'/\W k m S',⟨m0,_,_,Ext.refl,aC,w0⟩,?_⟩;rintro k m H2 ⟨r2,S2,x3,rb2,w2⟩;have ha2:r2[S1.length]?=some D0:=x3.adr _ _ (Rr aB.len)
  have q:=turn k m S2 w2;split at q
  .rename_i o eo;obtain⟨xs,sq,pr⟩:=sql (x2.trans x3) rb2 eo;split at q
   .rename_i y ey;obtain⟨v,hv,pv⟩:=pr.get ey;refine .inr ⟨⟨xs,v,sq,hv⟩,λv' H' y'=>?_⟩;obtain⟨eH,y'⟩:=y';subst eH;have ev:v'=v:=by
     have z:=y' xs sq;rw[hv] at z;exact(Option.some.inj z).symm
    subst ev;exact Ei (rs.ext (x1.trans (x2.trans x3))) ha2 rb2 pv q λr' S' H' x' rb' ⟨m',hm,w'⟩=>⟨m',hm,r',S',x3.trans x',rb',w'⟩
   .rename_i ey;have aM:(Zk o).length<=k:=xH.mp ey;exact .inl ⟨⟨xs,sq,by rw[<- pr.1];exact aM⟩,ret _ H2 r2 _ S2 (x1.trans (x2.trans x3)) ⟨rb2,aZ.xw.ext (x1.trans (x2.trans x3))⟩ (.ref ha2) q⟩
  .exact q.elim
 | _=>exact(show False from q1).elim
theorem FL {ta:TDA}{tc:TDT}{te:TDE}{σ:St}{H:Hp}{Qv:VK}(h:up X.K Z (Wg caps ta tc te) σ H Qv):RO caps (HQ (upA X.K Z ta)) (upT X.K Z0 tc) (up X.K Z0 te) σ H Qv:=by
 obtain⟨r,dl,S,Q,rs,aZ,h,ret⟩:=h;unfold Wg at h;refine⟨r,dl,S,_,rs,aZ,h,λvs H1 r1 ds S1 x1 aB p1 q1=>?_⟩;split at q1
 .rename_i j;obtain⟨v,vs',rfl,p2,p3⟩:=p1.uncons;have z:=p3.unnil;subst z;cases p2;obtain⟨⟨b1,b2⟩,W,w0,turn⟩:=q1;refine⟨j,rfl,b1,b2,λD0 hD=>?_⟩;obtain⟨aC,x2⟩:=aB.b.push (ds:=[]) (xs:=[]) hD Rps.nil;refine⟨λk m H'=>m=j.toNat-k/\∃r' S',Ext (r1++[D0]) r' (upd H1 D0 (.lst [])) H'/\ZY X.K r' S' H'/\W k S',⟨j.toNat,by simp,_,_,Ext.refl,aC,w0⟩,?_⟩;rintro k m H2 ⟨em,r2,S2,x3,rb2,w2⟩;have ha2:r2[S1.length]?=some D0:=x3.adr _ _ (Rr aB.len)
  have q:=turn k S2 w2;split at q
  .rename_i hk;refine .inr ⟨hk,λv' H' y'=>?_⟩;obtain⟨eH,y'⟩:=y';subst eH;subst y';have pk:Rp r2 H' (.int (k:Int)) (.int (0+(k:Int))):=by rw[Int.zero_add];exact .int _
   exact Ei (rs.ext (x1.trans (x2.trans x3))) ha2 rb2 pk q
    λr' S' H' x' rb' w'=>⟨j.toNat-(k+1),by omega,rfl,r',S',x3.trans x',rb',w'⟩
  .rename_i hk;exact .inl ⟨by show j.toNat<=k;omega,ret _ H2 r2 _ S2 (x1.trans (x2.trans x3)) ⟨rb2,aZ.xw.ext (x1.trans (x2.trans x3))⟩ (.ref ha2) q⟩
 .exact q1.elim
theorem Xr (har:X.env.scope=ar)(hc:X.calm=true)(cs:W6 sc ar x N)(hN:Hn X caps N)(hnd:(x::N).Nodup)(hl:PD X Z aU tl)(ht:∀cl C s0 H0 fp pn,WH (Cx.comp X sc (x::N) cl C s0 H0 fp pn) ifs tc)(he:∀cl C s0 H0 fp pn,PD (Cx.comp X sc (x::N) cl C s0 H0 fp pn) Z0 aW te)(hs:∀y,foldedSetIterable aU X.env y=pure y:=by intro _;rfl):PD X Z (.ListComp aW [⟨.Name x px,aU,ifs,0⟩] sc pos) (Xp caps tl tc te):=by
 subst har;exact Yc (Cb hc cs hN hnd (tc:=upT X.K Z0 tc) (te:=up X.K Z0 te) (MJ hl) ht he hs) λ_ _ _ h=>EI h
theorem Ll (har:X.env.scope=ar)(hc:X.calm=true)(cs:W6 sc ar x N)(hN:Hn X caps N)(hnd:(x::N).Nodup)(hg:Gl X "range")(hm:X.mg "range"=none)(ha:PDA X Z [a] ta)(ht:∀cl C s0 H0 fp pn,WH (Cx.comp X sc (x::N) cl C s0 H0 fp pn) ifs tc)(he:∀cl C s0 H0 fp pn,PD (Cx.comp X sc (x::N) cl C s0 H0 fp pn) Z0 aW te)(hs:∀y,foldedSetIterable (.Call (.Name "range" p) [a] [] aK) X.env y=pure y:=by intro _;rfl)(hst:starEach [a] X.env=[(false,eval a X.env)]:=by rfl):
  PD X Z (.ListComp aW [⟨.Name x px,.Call (.Name "range" p) [a] [] aK,ifs,0⟩] sc pos) (Wg caps ta tc te):=by
 subst har;exact Yc (Cb hc cs hN hnd (tc:=upT X.K Z0 tc) (te:=up X.K Z0 te) (Jp hg hm ha hst) ht he hs) λ_ _ _ h=>FL h
theorem PN {t:TE}{td:TDE}{i:Nat}{F:Wn}{σ:St}{H:Hp}(imp:∀Qv,up X.K Z td σ H Qv->t σ H Qv)(h:upS X.K Z (λE dl S=>td dl S λd S1=>E.nx (dl.set i (some d)) S1) F σ H):t σ H λv H1=>F.nx (σ.set i (some v)) H1:=by
 obtain⟨r,dl,S,E,rs,aZ,h,ret⟩:=h;exact imp _ ⟨r,dl,S,_,rs,aZ,h,λv H1 r1 d S1 x aB p q=>ret.nx _ H1 r1 _ S1 x ((rs.ext x).set i p) aB q⟩
theorem QT {tl:TDE}{tc:TDT}{te:TDE}{i:Nat}{y:Str}{py spos:Pos}(har:X.env.scope=ar)(hc:X.calm=true)(cs:W6 sc ar x N)(hN:Hn X caps N)(hnd:(x::N).Nodup)(hNd:X.N.Nodup)(hy:X.N[i]?=some y)(hlo:ar.names.lookup y=some .local)
  (hl:PD X Z aU tl)(ht:∀cl C s0 H0 fp pn,WH (Cx.comp X sc (x::N) cl C s0 H0 fp pn) ifs tc)(he:∀cl C s0 H0 fp pn,PD (Cx.comp X sc (x::N) cl C s0 H0 fp pn) Z0 aW te)
  (hsw:swapsWith (.ListComp aW [⟨.Name x px,aU,ifs,0⟩] sc pos) (some (.Name y py)) spos.line X.env=pure true:=by rfl)
  (hs:∀y,foldedSetIterable aU X.env y=pure y:=by intro _;rfl):PDS X Z (.Assign [.Name y py] (.ListComp aW [⟨.Name x px,aU,ifs,0⟩] sc pos) spos) (Tt i (Xp caps tl tc te)):=by
 subst har;exact Yv (Hl hc cs hN hnd (tc:=upT X.K Z0 tc) (te:=up X.K Z0 te) (MJ hl) ht he hNd hy hlo hsw hs) λF σ H h=>PN (λ_ h=>EI h) h
theorem zaI {ta:TDA}{tc:TDT}{te:TDE}{a:Expr}{p aK:Pos}{i:Nat}{y:Str}{py spos:Pos}(har:X.env.scope=ar)(hc:X.calm=true)(cs:W6 sc ar x N)(hN:Hn X caps N)(hnd:(x::N).Nodup)(hNd:X.N.Nodup)(hy:X.N[i]?=some y)
  (hlo:ar.names.lookup y=some .local)(hg:Gl X "range")(hm:X.mg "range"=none)(ha:PDA X Z [a] ta)
  (ht:∀cl C s0 H0 fp pn,WH (Cx.comp X sc (x::N) cl C s0 H0 fp pn) ifs tc)(he:∀cl C s0 H0 fp pn,PD (Cx.comp X sc (x::N) cl C s0 H0 fp pn) Z0 aW te)
  (hsw:swapsWith (.ListComp aW [⟨.Name x px,.Call (.Name "range" p) [a] [] aK,ifs,0⟩] sc pos) (some (.Name y py)) spos.line X.env=pure true:=by rfl)
  (hs:∀y,foldedSetIterable (.Call (.Name "range" p) [a] [] aK) X.env y=pure y:=by intro _;rfl)(hst:starEach [a] X.env=[(false,eval a X.env)]:=by rfl):
  PDS X Z (.Assign [.Name y py] (.ListComp aW [⟨.Name x px,.Call (.Name "range" p) [a] [] aK,ifs,0⟩] sc pos) spos) (Tt i (Wg caps ta tc te)):=by
 subst har;exact Yv (Hl hc cs hN hnd (tc:=upT X.K Z0 tc) (te:=up X.K Z0 te) (Jp hg hm ha hst) ht he hNd hy hlo hsw hs) λF σ H h=>PN (λ_ h=>FL h) h
@[irreducible] def Vm (to te:TDE):TDE:=λdl S Q=>to dl S λx S1=>match x with
 | .ref n=>match S1[n]? with
  | some (.lst _)=>te dl S1 λy S2=>match S2[n]? with
   | some (.lst xs)=>if xs.length<1000 then Q .non (S2.set n (.lst (xs++[y]))) else False
   | _=>False
  | _=>False
 | _=>False
theorem Wv (ho:PD X Z o to)(he:PD X Z e te)(hbase:attributeBase o "append" X.env (eval o X.env)=eval o X.env:=by rfl)(hfew:((backTo aH (starEach [e] X.env)).all (λx=>!x.1)&&(backToKw aH (keywordEach [] X.env)).all (λx=>x.1.isSome)
  &&decide (([e]:List Expr).length+([]:List Keyword).length+(if ([]:List Keyword).isEmpty then 0 else 1)<30))=true:=by rfl)(hline:(aJ.endLine==aH.line)=true:=by rfl)(hst:starEach [e] X.env=[(false,eval e X.env)]:=by rfl):
  PD X Z (.Call (.Attribute o "append" aJ) [e] [] aH) (Vm to te):=
 Yc (MF PySem.F.plainAttrs_list PySem.F.slot_list_append PySem.F.type_list_append Fz ho (JN he JS hst) hbase hfew hline hst rfl) λσ H Qv h=>by
  obtain⟨r,dl,S,Q,rs,aZ,h,ret⟩:=h;unfold Vm at h;refine⟨r,dl,S,_,rs,aZ,h,λv H1 r1 d S1 x1 aB p1 h1=>?_⟩;cases p1 with
  | @ref n a hn=>
   dsimp only at h1;split at h1
   .rename_i xs0 e0;obtain⟨a',ha,ob⟩:=aB.at e0;rw[hn] at ha;cases ha
    obtain⟨ys,hH,_⟩:=ob;refine⟨.inl ⟨rfl,ys,SqL.of hH⟩,r1,dl,S1,_,rs.ext x1,aB,h1,λv2 H2 r2 d2 S2 x2 aC p2 h2=>?_⟩;split at h2
    .rename_i xs1 e1;obtain⟨hlt,h2⟩:=Od h2;have ha2:=x2.adr n a hn;obtain⟨zs,hH2,pz⟩:=aC.b.ob n a _ ha2 e1;obtain⟨aE,x3⟩:=aC.set ha2 e1 (pz.snoc p2);exact⟨a,zs,v2,rfl,rfl,hH2,by rw[<- pz.1];exact Rx (xD hlt),ret .non _ r2 .non _ (x1.trans (x2.trans x3)) aE .non h2⟩
    .exact h2.elim
   .exact h1.elim
  | _=>exact(show False from h1).elim
def O6:WC:=λds S Q=>match ds with
 | [.tup xs]=>Q (.ref S.length) (S++[.lst xs])
 | [.ref n]=>match lAt S n with
  | some o=>Q (.ref S.length) (S++[.lst (Zk o)])
  | none=>False
 | _=>False
theorem N9:Yl X (.type "list") (upC X.K Z O6):=Md zaZ λxs H Qv ⟨r,S,ds,Q,aZ,ps,q,ret⟩=>by
 unfold O6 at q;split at q
 .rename_i ys;obtain⟨v,vs,rfl,p1,p2⟩:=ps.uncons;have z:=p2.unnil;subst z;obtain⟨a,zs,rfl,h1,h2⟩:=p1.untup;refine⟨a,zs,rfl,.inr (SqT.of h1),λl hl=>?_⟩;obtain⟨aC,x⟩:=aZ.push hl h2;exact ret _ _ _ (.ref S.length) _ x aC (Vy aZ.len) q
 .rename_i n;obtain⟨v,vs,rfl,p1,p2⟩:=ps.uncons;have z:=p2.unnil;subst z;split at q
  .rename_i o eo;obtain⟨eo,eL⟩:=Yy eo;obtain⟨a,ha,ob⟩:=aZ.at eo;cases p1 with
   | ref h1=>
    rw[h1] at ha;cases ha
    obtain⟨ys,sq,pr⟩:=ob.list eL;refine⟨_,ys,rfl,.inl sq,λl hl=>?_⟩;obtain⟨aC,x⟩:=aZ.push hl pr;exact ret _ _ _ (.ref S.length) _ x aC (Vy aZ.len) q
  .exact q.elim
 .exact q.elim
def YM:List D->Option (List Bool)
 | []=>some []
 | .bl b::r=>(YM r).map (b::·)
 | _::_=>none
def RL (g:List Bool->Bool):WC:=λds S Q=>match ds with
 | [.ref n]=>match lAt S n with
  | some o=>match YM (Zk o) with
   | some bs=>Q (.bl (g bs)) S
   | none=>False
  | none=>False
 | _=>False
theorem Hg {r:List Addr}{H:Hp}:∀ {ds:List D} {bs:List Bool} {vs:List V} {us:List Value},YM ds=some bs->Rps r H ds vs->Zv vs us->us=bs.map Value.bool
 | [],bs,vs,us,e,p,q=>by
  have z:=p.unnil;subst z;cases q;simp[YM] at e;subst e;rfl
 | d::ds,bs,vs,us,e,p,q=>by
  obtain⟨v,vs',rfl,p1,p2⟩:=p.uncons;cases d with
  | bl b=>
   cases p1;cases q with
   | cons q1 q2=>
    have q1':_=Value.bool b:=q1;subst q1';simp only[YM,zP] at e;obtain⟨ms,e1,rfl⟩:=e;rw[Hg e1 p2 q2];rfl
  | _=>simp[YM] at e
theorem zeg {bs:List Bool}:(List.range bs.length).all (λi=>bs.getD i false)=bs.all id:=by
 rw[xZ];rw[uA,uA];refine⟨λh b hb=>?_,λh i hi=>?_⟩
 .obtain⟨i,hi,e⟩:=yV.mp hb;have hb':=h i (wG.mpr hi);simpa [hi,e] using hb'
 .have hi':i<bs.length:=wG.mp hi
  have:=h bs[i] (yQ hi');simpa [hi'] using this
theorem zbd {prog:Program}{w:World}{A:Around}{bs:List Bool}:TruthOf prog w A (λi v=>(bs.map Value.bool).toArray[i]?=some v) λi=>bs.getD i false:=λi v s Q E hP hQ=>by
  have e:(bs.map Value.bool)[i]?=some v:=by simpa using hP
  rw[zG] at e;cases q:bs[i]? with
  | none=>
   rw[q] at e;cases e
  | some b=>
    rw[q] at e;have z:Value.bool b=v:=by simpa using e
    subst z;have z2:bs.getD i false=b:=by simp[zY,q]
    have hQ':Q (bs.getD i false) s:=hQ;rw[z2] at hQ';exact wpAny_truthy_bool hQ'
theorem zgq {n:Nat}{a:Addr}{o:Ob}{bs:List Bool}{pins:LA}{σ:St}{H:Hp}{s:Shared}{r:List Addr}{S:Sto}{Q:DK}{Qv:VK}{E:Value->Shared->Prop}{g:List Bool->Bool}(G:List Nat->(Nat->Bool)->Bool)
  (hG:G (List.range bs.length) (λi=>bs.getD i false)=g bs)(hc:X.calm=true)(I:Inv X pins σ H s)(aZ:Rel X.K Z r S H)(hn:r[n]?=some a)(eo:lAt S n=some o)(eb:YM (Zk o)=some bs)(q:Q (.bl (g bs)) S)(ret:Ret X.K Z r H Q Qv):
  wpAny (mX X) X.A.in1 (pyIter (.ref a)) (λit s₂=>∃I fp wr n P' St tr,it=.ref I/\Walks X.prog X.w X.A.in1 I fp wr n P' St/\St 0 s₂.heap/\TruthOf X.prog X.w X.A.in1 P' tr/\
   ∀h' tk,(∀b o,b ∉ wr->s₂.heap.get? b=some o->h'.get? b=some o)->EP X pins σ Qv (.bool (G (List.range n) tr)) { s₂ with heap:=h',toks:=tk }) E s:=by
 obtain⟨eo,eL⟩:=Yy eo;obtain⟨a',ha,ob⟩:=aZ.at eo;rw[hn] at ha;cases ha
 obtain⟨ys,sq,pr⟩:=ob.list eL;obtain⟨aX,ri,pl,hz⟩:=I.list sq;have eits:=Hg eb pr ri;subst eits;refine wpAny_pyIter_list pl.isList ?_;have hne:a≠s.heap.objs.size:=zR (by
  obtain⟨ob,e,_⟩:=pl.isList;exact Heap.lt_size e)
 refine⟨s.heap.objs.size,_,_,_,_,_,λi=>bs.getD i false,rfl,Walks.list (show X.A.in1.handled=none from I.ok.hd hc) _ a hne (bs.map Value.bool).toArray,⟨⟨_,Heap.get?_push_size _ rfl,rfl,rfl⟩,pl.isList.at λo e=>Heap.get?_push_of_some _ e⟩,zbd,λh' tk hk=>?_⟩;have ez:(bs.map Value.bool).toArray.size=bs.length:=by simp
 rw[ez,hG];refine⟨.bl (g bs),H,I.kept λb o e=>hk b o (λz=>?_) (Heap.get?_push_of_some _ e),rfl,ret _ _ _ _ _ Ext.refl aZ (.bl _) q⟩;have z':b=s.heap.objs.size:=by simpa using z
 exact absurd (z' ▸ Heap.lt_size e) (yX _)
theorem zfD {id:String}{g:List Bool->Bool}(rule:∀(pins:LA)(σ:St)(H:Hp)(s:Shared)(r:List Addr)(S:Sto)(Q:DK)(Qv:VK)(n:Nat)(a:Addr)(o:Ob)(bs:List Bool),Inv X pins σ H s->Rel X.K Z r S H->r[n]?=some a->lAt S n=some o->YM (Zk o)=some bs->
   Q (.bl (g bs)) S->Ret X.K Z r H Q Qv->wpAny (mX X) X.A (call (.builtin id) [.ref a]) (EP X pins σ Qv) X.xe s):Yl X (.builtin id) (upC X.K Z (RL g)):=by
 intro pins s σ H xs us Qv I rv h;obtain⟨r,S,ds,Q,aZ,ps,q,ret⟩:=h;unfold RL at q;split at q
 .rename_i n;obtain⟨v,vs,rfl,p1,p2⟩:=ps.uncons;have z:=p2.unnil;subst z;split at q
  .rename_i o eo;split at q
   .rename_i bs eb;cases p1 with
    | ref h1=>
     obtain⟨u,rfl,ru⟩:=XC rv;cases ru;exact rule pins σ H s r S Q Qv n _ o bs I aZ h1 eo eb q ret
   .exact q.elim
  .exact q.elim
 .exact q.elim
theorem PR (hc:X.calm=true):Yl X (.builtin "all") (upC X.K Z (RL λbs=>bs.all id)):=
 zfD λ_ _ _ _ _ _ _ _ _ _ _ _ I aZ h1 eo eb q ret=>call_all_walk (zgq (g:=λbs=>bs.all id) (λl f=>l.all f) zeg hc I aZ h1 eo eb q ret)
@[irreducible] def irr (w:WC):WC:=w
@[irreducible] def Yq (w:W2):W2:=w
theorem V1 (w:WC):irr w=w:=by unfold irr;rfl
theorem YX (w:W2):Yq w=w:=by unfold Yq;rfl
theorem Z5 (h:Yl X f (upC X.K Z w)):Yl X f (upC X.K Z (irr w)):=by rw[V1];exact h
theorem za4 (ha:PD X Z a ta)(hb:PD X Z b tb)(hs:UP b):PD X Z (.Subscript a b pos) (dOp (Yq wIx) ta tb):=by rw[YX];exact F7 ha hb hs
theorem ZG {a b:Expr}{ta tb:TDE}(ha:PD X Z a ta)(hb:PD X Z b tb)(hs:UP b:=by exact λ_ _=>rfl):PD X Z (.Subscript a b pos) (dOp (Yq wIx) ta tb):=za4 ha hb hs
theorem Zq (S:Sto)(o:Ob):(S++[o])[S.length]?=some o:=by simp
theorem XW {S:Sto}{o u:Ob}{n:Nat}(h:S[n]?=some o):(S++[u])[n]?=some o:=by
 rw[zI (zB.mp h).1];exact h
theorem XN {tl te:TDE}{dl:Ev}{S S1:Sto}{Q:DK}{n:Nat}{o:Ob}(g:D->D)(htl:∀K:DK,K (.ref n) S1->tl dl S K)(h1:S1[n]?=some o)(hl:(Zk o).length<=1000)
  (ht:∀x∈Zk o,∀(S2:Sto)(K:DK),Pre S1 S2->K (g x) S2->te (some x::Z8 caps dl) S2 K)(hq:Q (.ref S1.length) (S1++[.lst ((Zk o).map g)]))(hL:Y2 o=some o:=by rfl):Xp caps tl YW te dl S Q:=by
 unfold Xp;refine htl _ ⟨by rw[ZO h1 hL];rfl,λk m S2=>S2=S1++[.lst (((Zk o).take k).map g)]/\m+k=(Zk o).length,⟨(Zk o).length,by simp,by omega⟩,?_⟩;rintro k m S2 ⟨rfl,hm⟩;rw[ZO (XW h1) hL];dsimp only;split
 .rename_i x hx;have hk:k<(Zk o).length:=(zB.mp hx).1;unfold Wm YW;simp only[if_true];refine ht x (zF hx) _ _ Pre.refl.push ?_;rw[Zq];refine⟨by simp;omega,m-1,by omega,?_,by omega⟩;have e:(Zk o).take (k+1)=(Zk o).take k++[x]:=by rw[wM,hx];rfl
  rw[e,xI,uB _ _ (zA _)];simp
 .rename_i hx;have hk:(Zk o).length<=k:=xH.mp hx;rw[yH hk];exact hq
theorem C6 (h:YM (Zk o)=some bs):Y2 o=some o:=by
 cases o<;>first|rfl|cases h
theorem G2 (h:YQ (Zk o)=some xs):Y2 o=some o:=by
 cases o<;>first|rfl|cases h
theorem QX (h:S[n]?=some o)(hb:YM (Zk o)=some bs)(hq:Q (.bl (g bs)) S):irr (RL g) [.ref n] S Q:=by
 rw[V1];unfold RL;simp only[ZO h (C6 hb),hb];exact hq
theorem W3 (h:S[n]?=some o)(hb:YQ (Zk o)=some xs)(hne:xs≠[])(hq:∀m,m∈xs->(∀y∈xs,le y m)->Q (.int m) S):irr (TJ le two) [.ref n] S Q:=by
 rw[V1];unfold TJ;simp only[ZO h (G2 hb),hb];exact⟨hne,hq⟩
theorem KJ (h:lAt S n=some o)(hq:Q (.ref S.length) (S++[.lst (Zk o)])):irr O6 [.ref n] S Q:=by
 rw[V1];unfold O6;simp only[h];exact hq
theorem W4 {to te:TDE}{dl:Ev}{S S1:Sto}{Q:DK}{n:Nat}{xs:List D}{y:D}(hto:∀K:DK,K (.ref n) S1->to dl S K)(h:S1[n]?=some (.lst xs))(hte:∀K:DK,K y S1->te dl S1 K)(hl:xs.length<1000)(hq:Q .non (S1.set n (.lst (xs++[y])))):Vm to te dl S Q:=by
 unfold Vm;refine hto _ ?_;simp only[h];refine hte _ ?_;simp only[h];exact ifP hl hq
end
theorem TN:Sco n (.tup [.int x,.int y]):=.tup λd hd=>by
 have z:d=.int x\/d=.int y:=by simpa using hd
 rcases z with rfl|rfl<;>exact .int _
open PySem PySem.Spec PyProof.Rows L2 PySem.W Builtin Builtin.ObjectAttr Builtin.Getset_descriptor
structure Nx (K:Frag)(D:Addr):Prop where
 ga:findIn K (.ref D) "__getattribute__"=some (some (.builtin "BaseException.__getattribute__"))
 hk:findIn K (.ref D) "__getattr__"=some none
 ha:findIn K (.ref D) "__class__"=some (some (.builtin "object.__class__"))
 hn:specialIn K (.builtin "object.__class__") "__get__"=some (some (.builtin "getset_descriptor.__get__"))
 ht:takesIn K (.builtin "object.__class__")=some true
 hm:mroIn K D (.type "object")=some true
 hb:mroIn K D (.type "BaseException")=some true
section
variable {X:Cx}{Z:Zx}
end
def eqN:Nat->D->D->Option Bool
 | 0=>eqF
 | k+1=>eqT (eqN k)
theorem EU:∀k,TU (eqN k)
 | 0=>Tv
 | k+1=>IF (EU k)
theorem Us:∀k,Vo k (eqN k)
 | 0=>Ko 0
 | k+1=>Et (Us k) (EU k)
def OU (k:Nat)(S:Sto):D->D->Option Bool
 | .ref n,.ref m=>match lAt S n,lAt S m with
  | some o,some o'=>eqL (eqN k) (Zk o) (Zk o')
  | _,_=>none
 | x,y=>eqN (k+1) x y
def V2 (k:Nat):W2:=λx y S Q=>match OU k S x y with
 | some b=>Q (.bl b) S
 | none=>False
section
variable {X:Cx}{Z:Zx}
theorem zd4 {k n m:Nat}{a a':Addr}{o o':Ob}{b:Bool}{pins:LA}{σ:St}{H:Hp}{s:Shared}{r:List Addr}{S:Sto}(I:Inv X pins σ H s)(aZ:Rel X.K Z r S H)(hn:r[n]?=some a)(hm:r[m]?=some a')(eo:lAt S n=some o)(eo':lAt S m=some o')
  (e:eqL (eqN k) (Zk o) (Zk o')=some b)(hu:X.A.units+1+k<cLine):SeqAt.RcAt X.A s (.ref a) (.ref a') b:=by
 obtain⟨eo,eL⟩:=Yy eo;obtain⟨eo',eL'⟩:=Yy eo';obtain⟨z,hz,ob⟩:=aZ.at eo;rw[hn] at hz;cases hz
 obtain⟨z,hz,ob'⟩:=aZ.at eo';rw[hm] at hz;cases hz
 obtain⟨xs,sq,pr⟩:=ob.list eL;obtain⟨ys,sq',pr'⟩:=ob'.list eL';obtain⟨is,ri,pl,_⟩:=I.list sq;obtain⟨js,rj,pl',_⟩:=I.list sq';obtain⟨g1,g2⟩:=QJ (A:=X.A.in1) (Us k) I (by show X.A.units+1+k<_;omega) pr pr' ri rj e;by_cases hs:is.toArray.size=js.toArray.size
 .have q:=SeqAt.RcAt.lists (A:=X.A) pl.isList pl'.isList hs (by omega) g1
  have e2:(List.range is.toArray.size).all (XM (eqN k) (Zk o) (Zk o'))=b:=by
   rw[<- g2,<- hs,Nat.min_self];simp
  rw[e2] at q;exact q
 .have q:=SeqAt.RcAt.lists_lengths (A:=X.A) pl.isList pl'.isList (by simpa using hs) (by omega)
  have e2:b=false:=by
   rw[<- g2,show (is.toArray.size==js.toArray.size)=false by simpa using hs,Bool.and_false]
  rw[e2];exact q
theorem zaE (k:Nat)(hr:ZF j X.A)(hu:X.A.units+1+k<cLine):OpR X (compareOp .Eq) (upO X.K Z (V2 k)):=by
 intro pins s σ H x y v u Qv I rx ry h;obtain⟨r,S,dx,dy,Q,aZ,px,py,q,ret⟩:=h;have flat:∀ {dx dy:D} {x y:V},Rp r H dx x->Rp r H dy y->Zw x v->Zw y u->OU k S dx dy=eqN (k+1) dx dy->V2 k dx dy S Q->wpAny (mX X) X.A (compareOp .Eq v u) (EP X pins σ Qv) X.xe s:=λpx py rx ry e q=>by
  refine FI (Z:=Z) (Us k) hu pins s σ H _ _ v u Qv I rx ry ⟨r,S,_,_,Q,aZ,px,py,?_,ret⟩;unfold V2 at q;rw[e] at q;exact q
 cases px with
 | @ref n a hn=>
  cases py with
  | @ref m a' hm=>
   cases rx;cases ry;unfold V2 OU at q;dsimp only at q;split at q
   .rename_i b e;split at e
    .rename_i o o' eo eo';exact zd4 I aZ hn hm eo eo' e hu X.prog X.w X.xe _ ⟨.bl b,H,I,rfl,ret _ _ _ _ _ Ext.refl aZ (.bl b) q⟩
    .cases e
   .exact q.elim
  | non=>exact flat (.ref hn) .non rx ry rfl q
  | bl i=>exact flat (.ref hn) (.bl i) rx ry rfl q
  | int i=>exact flat (.ref hn) (.int i) rx ry rfl q
  | str i=>exact flat (.ref hn) (.str i) rx ry rfl q
  | tup a b c=>exact flat (.ref hn) (.tup a b c) rx ry rfl q
  | exc a=>exact flat (.ref hn) (.exc a) rx ry rfl q
 | non=>exact flat .non py rx ry rfl q
 | bl i=>exact flat (.bl i) py rx ry rfl q
 | int i=>exact flat (.int i) py rx ry rfl q
 | str i=>exact flat (.str i) py rx ry rfl q
 | tup a b c=>exact flat (.tup a b c) py rx ry rfl q
 | exc a=>exact flat (.exc a) py rx ry rfl q
def Y8 (f:D->D->Option Bool):List D->D->Option Bool
 | [],_=>some false
 | y::ys,x=>match f y x,Y8 f ys x with
  | some b,some c=>some (b||c)
  | _,_=>none
def wIn (k:Nat)(neg:Bool):W2:=λx y S Q=>match y with
 | .ref n=>match lAt S n with
  | some o=>match Y8 (eqN k) (Zk o) x with
   | some b=>Q (.bl (if neg then !b else b)) S
   | none=>False
  | none=>False
 | _=>False
theorem Lh (h:Zw v u)(h':Zw v' u):v=v':=by
 cases v<;>cases v'<;>simp[L2.Zw] at h h'<;>first
  | rfl
  | (subst h;simp at h';subst h';rfl)
  | (obtain⟨t,rfl⟩:=h;simp at h';subst h';rfl)
  | (obtain⟨t,rfl⟩:=h;simp at h')
  | (subst h;simp at h')
  | skip
theorem Rz {r:List Addr}{H:Hp}{d d' x:D}{v:V}{b b':Bool}(p:Rp r H d v)(p':Rp r H d' v)(e:eqF d x=some b)(e':eqF d' x=some b'):b=b':=by
 have z:d=d':=by
  cases p<;>cases p'<;>first
   | rfl
   | (cases x<;>simp[eqF] at e)
   | (cases x<;>simp[eqF] at e')
 subst z;rw[e] at e';exact Option.some.inj e'
theorem EW {f:D->D->Option Bool}{r:List Addr}{H:Hp}(hf:∀(d d' x:D)(v:V)(b b':Bool),Rp r H d v->Rp r H d' v->f d x=some b->f d' x=some b'->b=b'):
  ∀ {ds ds' zs:List D} {vs:List V} {b b':Bool},Rps r H ds vs->Rps r H ds' vs->eqL f ds zs=some b->eqL f ds' zs=some b'->b=b'
 | [],ds',zs,vs,b,b',p,p',e,e'=>by
  have z:=p.unnil;subst z;cases ds' with
  | nil=>rw[e] at e';exact Option.some.inj e'
  | cons y ys=>exact absurd p'.1 (by simp)
 | d::ds,ds',zs,vs,b,b',p,p',e,e'=>by
  obtain⟨v,vs',rfl,p1,p2⟩:=p.uncons;cases ds' with
  | nil=>exact absurd p'.1 (by simp)
  | cons d' ds'=>
   obtain⟨q1,q2⟩:=p'.tail;cases zs with
   | nil=>
    simp only[eqL,Option.some.injEq] at e e';exact e.symm.trans e'
   | cons z zs=>
    unfold eqL at e e';split at e
    .rename_i b1 c1 a1 a2;split at e'
     .rename_i b2 c2 a3 a4;have h1:=hf d d' z v b1 b2 p1 q1 a1 a3
      have h2:=EW hf p2 q2 a2 a4;subst h1 h2;simp only[Option.some.injEq] at e e';exact e.symm.trans e'
     .cases e'
    .cases e
theorem Ph:∀(k:Nat) {r:List Addr} {H:Hp} (d d' x:D) (v:V) (b b':Bool),Rp r H d v->Rp r H d' v->eqN k d x=some b->eqN k d' x=some b'->b=b'
 | 0,r,H,d,d',x,v,b,b',p,p',e,e'=>Rz p p' e e'
 | k+1,r,H,d,d',x,v,b,b',p,p',e,e'=>by
  cases p with
  | tup h1 l1 f1=>
   cases p' with
   | tup h2 l2 f2=>
    rw[h1] at h2;cases h2
    cases x with
    | tup zs=>exact EW (λd d' x v b b'=>Ph k d d' x v b b') ⟨l1,f1⟩ ⟨l2,f2⟩ e e'
    | _=>simp[eqN,eqT,eqF] at e
   | ref h=>cases x<;>simp[eqN,eqT,eqF] at e'
   | exc h=>cases x<;>simp[eqN,eqT,eqF] at e'
  | non=>exact Rz (x:=x) .non p' (by cases x<;>exact e) (by cases p'<;>cases x<;>exact e')
  | bl i=>exact Rz (x:=x) (.bl i) p' (by cases x<;>exact e) (by cases p'<;>cases x<;>exact e')
  | int i=>exact Rz (x:=x) (.int i) p' (by cases x<;>exact e) (by cases p'<;>cases x<;>exact e')
  | str i=>exact Rz (x:=x) (.str i) p' (by cases x<;>exact e) (by cases p'<;>cases x<;>exact e')
  | ref h=>cases x<;>simp[eqN,eqT,eqF] at e
  | exc h=>cases x<;>simp[eqN,eqT,eqF] at e
theorem Gw:∀ {ys:List D} {b:Bool},Y8 f ys x=some b->(∀y∈ys,∃c,f y x=some c)/\(b=true↔∃y∈ys,f y x=some true)
 | [],b,e=>by
  simp only[Y8,Option.some.injEq] at e;subst e;simp
 | y::ys,b,e=>by
  unfold Y8 at e;split at e
  .rename_i b1 c1 e1 e2;obtain⟨h1,h2⟩:=Gw e2;simp only[Option.some.injEq] at e;subst e;refine⟨λz hz=>?_,?_⟩
   .rcases zS.mp hz with rfl|hz'
    .exact⟨b1,e1⟩
    .exact h1 z hz'
   .rw[wO,h2];refine⟨λq=>?_,λ⟨z,hz,q⟩=>?_⟩
    .rcases q with q|⟨z,hz,q⟩
     .exact⟨y,yL,by rw[e1,q]⟩
     .exact⟨z,yB _ hz,q⟩
    .rcases zS.mp hz with rfl|hz'
     .left
      rw[e1] at q;exact Option.some.inj q
     .exact .inr ⟨z,hz',q⟩
  .cases e
theorem F5 {k:Nat}{pins:LA}{σ:St}{H:Hp}{s:Shared}{r:List Addr}{A:Around}{ds:List D}{vs:List V}{us:List Value}{dx:D}{x:V}{u:Value}{b:Bool}(I:Inv X pins σ H s)(hu:A.units+k<cLine)
  (p:Rps r H ds vs)(rv:Zv vs us)(px:Rp r H dx x)(rx:Zw x u)(e:Y8 (eqN k) ds dx=some b):∃g:Value->Bool,(∀y,y∈us.toArray->SeqAt.EqAt A s y u (g y))/\us.toArray.any g=b:=by
 obtain⟨h1,h2⟩:=Gw e;have at_:∀y∈us,∃d v,d∈ds/\Rp r H d v/\Zw v y:=λy hy=>by
  obtain⟨j,hj,ej⟩:=yV.mp hy;have hv:j<vs.length:=by rw[rv.length];exact hj
  have gv:vs[j]?=some vs[j]:=by simp[hv]
  obtain⟨w,gw,rw'⟩:=rv.get gv;obtain⟨d,gd,pd⟩:=p.get' gv;have ew:w=y:=by
   rw[zE hj,ej] at gw;exact(Option.some.inj gw).symm
  subst ew;exact⟨d,_,zF gd,pd,rw'⟩
 classical
 refine⟨λy=>decide (∃d v,d∈ds/\Rp r H d v/\Zw v y/\eqN k d dx=some true),λy hy=>?_,?_⟩
 .obtain⟨d,v,hd,pd,rd⟩:=at_ y (by simpa using hy);obtain⟨c,hc⟩:=h1 d hd;have same:decide (∃d v,d∈ds/\Rp r H d v/\Zw v y/\eqN k d dx=some true)=c:=by
   cases c with
   | true=>exact decide_eq_true ⟨d,v,hd,pd,rd,hc⟩
   | false=>
    refine decide_eq_false λ⟨d',v',_,pd',rd',hc'⟩=>?_
    have ev:=Lh rd rd';subst ev;exact absurd (Ph k d d' dx v false true pd pd' hc hc') ⋯
  show SeqAt.EqAt A s y u (decide _);rw[same];exact Us k X pins σ H s r A d dx v x y u c I hu pd px rd rx hc
 .rw[xZ,h2,List.any_toArray,List.any_eq_true];refine⟨λ⟨y,hy,q⟩=>?_,λ⟨d,hd,q⟩=>?_⟩
  .obtain⟨d,v,hd,_,_,q'⟩:=of_decide_eq_true q;exact⟨d,hd,q'⟩
  .obtain⟨j,hj,ej⟩:=yV.mp hd;have gd:ds[j]?=some d:=by simp[hj,ej]
   obtain⟨v,gv,pv⟩:=p.get gd;obtain⟨w,gw,rw'⟩:=rv.get gv;exact⟨w,zF gw,decide_eq_true ⟨d,v,hd,pv,rw',q⟩⟩
theorem ER (k:Nat)(hu:X.A.units+1+k<cLine):OpR X (compareOp .In) (upO X.K Z (wIn k false)):=by
 intro pins s σ H x y v u Qv I rx ry h;obtain⟨r,S,dx,dy,Q,aZ,px,py,q,ret⟩:=h;cases py with
 | @ref n a hn=>
  unfold wIn at q;dsimp only at q;split at q
  .rename_i o eo;split at q
   .rename_i b eb;cases ry;obtain⟨eo,eL⟩:=Yy eo;obtain⟨a',ha,ob⟩:=aZ.at eo;rw[hn] at ha;cases ha
    obtain⟨ys,sq,pr⟩:=ob.list eL;obtain⟨us,ru,pl,_⟩:=I.list sq;obtain⟨g,g1,g2⟩:=F5 (A:=X.A.in1) I (by show X.A.units+1+k<_;omega) pr ru px rx eb;refine SeqAt.in_listAt g pl.isList g1 ?_;rw[g2];exact⟨.bl b,H,I,rfl,ret _ _ _ _ _ Ext.refl aZ (.bl b) q⟩
   .exact q.elim
  .exact q.elim
 | _=>exact(show False from q).elim
theorem AY (k:Nat)(hu:X.A.units+1+k<cLine):OpR X (compareOp .NotIn) (upO X.K Z (wIn k true)):=by
 intro pins s σ H x y v u Qv I rx ry h;obtain⟨r,S,dx,dy,Q,aZ,px,py,q,ret⟩:=h;cases py with
 | @ref n a hn=>
  unfold wIn at q;dsimp only at q;split at q
  .rename_i o eo;split at q
   .rename_i b eb;cases ry;obtain⟨eo,eL⟩:=Yy eo;obtain⟨a',ha,ob⟩:=aZ.at eo;rw[hn] at ha;cases ha
    obtain⟨ys,sq,pr⟩:=ob.list eL;obtain⟨us,ru,pl,_⟩:=I.list sq;obtain⟨g,g1,g2⟩:=F5 (A:=X.A.in1) I (by show X.A.units+1+k<_;omega) pr ru px rx eb;refine SeqAt.notIn_listAt g pl.isList g1 ?_;rw[g2];exact⟨.bl (!b),H,I,rfl,ret _ _ _ _ _ Ext.refl aZ (.bl (!b)) q⟩
   .exact q.elim
  .exact q.elim
 | _=>exact(show False from q).elim
end
def dForT (i:Nat)(tl:TDE)(tb:TDS):TDS:=λE dl S=>tl dl S λd S1=>match d with
 | .tup xs=>∃W:Nat->Ev->Sto->Prop,W 0 dl S1/\∀k dl S,W k dl S->match xs[k]? with
  | some x=>tb { nx:=λdl' S'=>W (k+1) dl' S',rt:=E.rt,bk:=E.nx,ct:=λdl' S'=>W (k+1) dl' S' } (dl.set i (some x)) S
  | none=>E.nx dl S
 | _=>False
theorem ze2 (hp:PassesOwn (mX X) X.A X.env X.xe)(hc:X.calm=true)(hN:X.N.Nodup)(hi:X.N[i]?=some x)(hx:Loc X.env.scope x)(hl:PD X Z aU tl)(hb:YL X Z body tb)(hf:Hf X x:=by first|exact .inl rfl|exact .inr rfl|assumption)(hs:∀y,foldedSetIterable aU X.env y=pure y:=by intro _;rfl):PDS X Z (.For (.Name x pos') aU body [] pos) (dForT i tl tb):=
 Yv (Tf hp hc (za1 hl) (Tz hN hi hx hf) hb hs) λF σ H ⟨r,dl,S,E,rs,aZ,h,ret⟩=>by
  refine⟨r,dl,S,_,rs,aZ,h,λv H1 r1 d S1 x1 aB p1 q1=>?_⟩;cases p1 with
  | @tup ds xs a e1 l1 f1=>
   obtain⟨W,w0,turn⟩:=q1;have sq:∀ {r':List Addr} {H':Hp},Ext r1 r' H1 H'->SqT X.K H' a xs:=λ{r' H'} x'=>SqT.of (x'.tup _ _ e1)
   refine⟨a,rfl,⟨xs,sq Ext.refl⟩,US x1 rs aB ret (λk m d s=>m+k=xs.length/\W k d s) ⟨rfl,w0⟩ λk m r2 dl2 S2 σ2 H2 x2 rs2 aC w=>?_⟩;obtain⟨em,w2⟩:=w;have q:=turn k dl2 S2 w2;split at q
   .rename_i y ey;have hk:k<ds.length:=(zB.mp ey).1
    have hkx:k<xs.length:=by rw[<- l1];exact hk
    have pv:Rp r2 H2 y xs[k]:=(f1 k y xs[k] ey (by simp[hkx])).ext x2;refine .inr ⟨⟨xs,xs[k],sq x2,by simp[hkx]⟩,_,λd s z=>⟨m-1,by omega,by omega,z⟩,λv' H' y' K hK=>?_⟩;obtain⟨rfl,y'⟩:=y';cases (y' xs (sq x2)).symm.trans (zE hkx);exact hK _ _ _ Ext.refl (rs2.set i pv) aC q
   .rename_i ey;exact .inl ⟨⟨xs,sq x2,by rw[<- l1];exact xH.mp ey⟩,q⟩
  | _=>exact(show False from q1).elim
def WS:List Nat->List D->Ev->Ev
 | i::is,d::ds,dl=>WS is ds (dl.set i (some d))
 | _,_,dl=>dl
def OA:List Nat->List V->St->St
 | i::is,v::vs,σ=>OA is vs (σ.set i (some v))
 | _,_,σ=>σ
theorem Pf {r:List Addr}{H:Hp}:∀ {is:List Nat} {ds:List D} {vs:List V} {dl:Ev} {σ:St},Rs r H dl σ->Rps r H ds vs->Rs r H (WS is ds dl) (OA is vs σ)
 | [],ds,vs,dl,σ,h,p=>by cases ds<;>cases vs<;>exact h
 | i::is,[],vs,dl,σ,h,p=>by
  have z:=p.unnil;subst z;exact h
 | i::is,d::ds,vs,dl,σ,h,p=>by
  obtain⟨v,vs',rfl,p1,p2⟩:=p.uncons;show Rs r H (WS is ds (dl.set i (some d))) (OA is vs' (σ.set i (some v)));exact Pf (Rs.set i h p1) p2
inductive Nms (X:Cx):List Expr->List Nat->Prop
 | nil:Nms X [] []
 | cons {x:Str} {p:Pos} {i:Nat} {es:List Expr} {is:List Nat}:X.N[i]?=some x->Loc X.env.scope x->(X.fn x=true\/X.env.scope.names.lookup x=some .local)->Nms X es is->Nms X (.Name x p::es) (i::is)
def VB (is:List Nat):TGs:=λvs σ H Q=>vs.length=is.length/\Q (OA is vs σ) H
theorem Ve (hN:X.N.Nodup):∀ {es:List Expr} {is:List Nat},Nms X es is->PGs X es (VB is)
 | _,_,.nil=>λpins s σ H vs us Q I r h=>by
  obtain⟨e,h⟩:=h;have z:vs=[]:=by simpa using e
  subst z;exact zcz pins s σ H [] us Q I r ⟨rfl,h⟩
 | _,_,.cons (x:=x) (p:=p) (es:=es) (is:=is) h1 h2 h3 t=>λpins s σ H vs us Q I r h=>by
  obtain⟨e,h⟩:=h;cases vs with
  | nil=>simp at e
  | cons v vs=>exact CU (Tz hN h1 h2 h3) (Ve hN t) rfl pins s σ H (v::vs) us Q I r ⟨v,vs,rfl,by simpa using e,h⟩
def dSetT (is:List Nat)(te:TDE):TDS:=λE dl S=>te dl S λd S1=>match d with
 | .tup xs=>xs.length=is.length/\E.nx (WS is xs dl) S1
 | _=>False
theorem Q4 (hc:X.calm=true)(hN:X.N.Nodup)(hn:Nms X es is)(he:PD X Z e te)(aM:(assignEach es X.env).length=is.length:=by rfl)(hst:(assignEach es X.env).findIdx? (·.1)=none:=by rfl)(hs:swapsWithSole [.Tuple es k p] e pos.line X.env=pure false:=by rfl)(hw:swappedStores [.Tuple es k p] e X.env=pure none:=by rfl)(h1:(assignEach [.Tuple es k p] X.env).map (·.2)=[assign (.Tuple es k p) X.env]:=by rfl):PDS X Z (.Assign [.Tuple es k p] e pos) (dSetT is te):=
 Yv (G9 he (Vq hc (Ve hN hn) aM hst) hs hw h1) λF σ H ⟨r,dl,S,E,rs,aZ,h,ret⟩=>by
  refine⟨r,dl,S,_,rs,aZ,h,λv H1 r1 d S1 x1 aB p1 q1=>?_⟩;cases p1 with
  | @tup ds xs a e1 l1 f1=>
   obtain⟨hl,q⟩:=q1;exact⟨a,xs,rfl,SqT.of e1,by rw[<- l1];exact hl,by rw[<- l1];exact hl,ret.nx _ H1 r1 _ S1 x1 (Pf (rs.ext x1) ⟨l1,f1⟩) aB q⟩
  | _=>exact(show False from q1).elim
open PySem L2
theorem WD (S:Sto)(o u:Ob):(S++[o]).set S.length u=S++[u]:=by simp
abbrev wShl:W2:=wI Oj λi j=>.int (i*2^j.toNat)
theorem zfP:OpR X (binaryOp .LShift) (upO X.K Z wShl):=opD zbn λ_ _ _ _=>.int _
def dBits (to:TDE):TDE:=λdl S Q=>to dl S λd S1=>match d with
 | .int i=>Q (.int (Builtin.Int.intBits i)) S1
 | _=>False
theorem AB:MtR X "int.bit_length" (λx xs H Q=>∃i,x=.int i/\xs=[]/\Q (.int (Builtin.Int.intBits i)) H):=by
 intro pins s σ H x xs v us Q I rx rv h;obtain⟨i,rfl,rfl,q⟩:=h;obtain⟨t,rfl⟩:=rx;cases rv;exact call_int_bit_length ⟨.int _,H,I.tok _,⟨_,rfl⟩,q⟩
theorem BW (ho:PD X Z o to)(hbase:attributeBase o "bit_length" X.env (eval o X.env)=eval o X.env:=by rfl)(hline:(aJ.endLine==aH.line)=true:=by rfl):
  PD X Z (.Call (.Attribute o "bit_length" aJ) [] [] aH) (dBits to):=
 Yc (zfQ (T:="int") ⟨⟨_,ga_int,canon_ga_int⟩,no_getattr_int⟩ slot_int_bit_length type_int_bit_length AB ho hbase hline) λσ H Qv ⟨r,dl,S,Q,rs,aZ,h,ret⟩=>⟨r,dl,S,_,rs,aZ,h,λv H1 r1 d S1 e1 aB p1 q1=>by
  cases p1 with
  | int i=>exact⟨rfl,i,rfl,rfl,ret _ H1 r1 (.int _) S1 e1 aB (.int _) q1⟩
  | _=>exact(show False from q1).elim⟩
def Mg:Sd:=λ_ _ _ _=>False
def Df.never {P:Program}{w:World}{K:Fg}{mg:Str->Option Value}{base:Heap}{x:Str}{st:Stmt}{ps:List Str}(k:Nat)(d:Df K mg x st ps):Fk P w K mg base k x ps Mg:=
 ⟨d.f,d.fd,⟨λ_ _ _ _ ⟨_,_,_,_,_,_,_,z,_⟩=>z.elim,λ_ _ _ _ _ _ _ _ _ _ _ _ _ ⟨_,_,_,_,_,_,_,z,_⟩=>z.elim⟩,d.m,d.F.kp,d.b⟩
section
variable {X:Cx}{Z:Zx}{pos:Pos}
end
theorem Cv {ta:TDA}{te:TDE}{dl:Ev}{S S1:Sto}{Q:DK}{j:Int}(g:Nat->D)(hta:∀K:List D->Sto->Prop,K [.int j] S1->ta dl S K)(hj:0<=j/\j<=1000)
  (ht:∀k:Nat,k<j.toNat->∀(S2:Sto)(K:DK),Pre S1 S2->K (g k) S2->te (some (.int k)::Z8 caps dl) S2 K)(hq:Q (.ref S1.length) (S1++[.lst ((List.range j.toNat).map g)])):Wg caps ta YW te dl S Q:=by
 unfold Wg;refine hta _ ⟨⟨by omega,by omega⟩,λk S2=>S2=S1++[.lst ((List.range k).map g)]/\k<=j.toNat,⟨by simp,by omega⟩,?_⟩;rintro k S2 ⟨rfl,hk⟩;split
 .rename_i hk';unfold Wm YW;simp only[if_true];refine ht k hk' _ _ Pre.refl.push ?_;rw[Zq];refine⟨by simp;omega,?_,by omega⟩;rw[List.range_succ,xI,uB _ _ (zA _)];simp
 .have e:k=j.toNat:=by omega
  subst e;exact hq
abbrev TDO:=Ev->Sto->(Option Int->Sto->Prop)->Prop
def upP (K:Fg)(Z:Zx)(t:TDO):TO:=λσ H Q=>∃(r:List Addr)(dl:Ev)(S:Sto)(Q':Option Int->Sto->Prop),Rs r H dl σ/\Rel K Z r S H/\t dl S Q'/\∀o H' r' S',Ext r r' H H'->Rel K Z r' S' H'->Q' o S'->Q o H'
def PDO (X:Cx)(Z:Zx)(e:Option Expr)(t:TDO):Prop:=PO X e (upP X.K Z t)
def Mv:TDO:=λ_ S Q=>Q none S
def NW (t:TDE):TDO:=λdl S Q=>t dl S λd S1=>match d with
 | .int i=>Q (some i) S1
 | _=>False
theorem IG (h:PO X e t)(g:∀σ H Q,t' σ H Q->t σ H Q):PO X e t':=λpins s σ H Q I q=>h pins s σ H Q I (g σ H Q q)
theorem Wj:PDO X Z none Mv:=IG zer λσ H Q ⟨r,dl,S,Q',rs,aZ,h,ret⟩=>ret none H r S Ext.refl aZ h
theorem Wx (he:PD X Z e t):PDO X Z (some e) (NW t):=IG (zho he) λσ H Q ⟨r,dl,S,Q',rs,aZ,h,ret⟩=>⟨r,dl,S,_,rs,aZ,h,λv H1 r1 d S1 e1 aB p1 q1=>by
 cases p1 with
 | int i=>exact⟨i,rfl,ret (some i) H1 r1 S1 e1 aB q1⟩
 | _=>exact(show False from q1).elim⟩
section
variable {X:Cx}{Z:Zx}
end
section
variable {X:Cx}{Z:Zx}
theorem MZ (hr:ZF k X.A):OpR X (compareOp .In) (upO X.K Z (Yq (wIn 0 false))):=by rw[YX];exact ER 0 (by have:=hr.un;omega)
end
theorem ZI (ho:S[n]?=some o)(hd:atI (Zk o) i=some d)(hq:Q d S)(hL:Y2 o=some o:=by rfl):Yq wIx (.ref n) (.int i) S Q:=by
 rw[YX];unfold wIx;simp only[ZO ho hL,hd];exact hq
def Ua (f:Str)(v:D):List (Str×D)->List (Str×D)
 | []=>[(f,v)]
 | p::r=>if p.1=f then (f,v)::r else p::Ua f v r
theorem FR.lookup {r:List Addr}{H:Hp}{f:Str}:∀ {fs:List (Str×D)} {fs':List (Str×V)},FR r H fs fs'->(∀d,fs.lookup f=some d->∃v,fs'.lookup f=some v/\Rp r H d v)/\(fs.lookup f=none->fs'.lookup f=none)
 | [],fs',h=>by
  have e:fs'=[]:=by
   have:=h.1;simpa using this.symm
  subst e;exact⟨λd z=>by simp at z,λ_=>rfl⟩
 | p::fs,[],h=>by
  have:=h.1;simp at this
 | p::fs,q::fs',h=>by
  obtain⟨h1,h2⟩:=h;simp only[yM,List.cons.injEq] at h1;obtain⟨p1,p2⟩:=h2.tail;obtain⟨i1,i2⟩:=FR.lookup (f:=f) (fs:=fs) (fs':=fs') ⟨h1.2,p2⟩;obtain⟨pk,pv⟩:=p;obtain⟨qk,qv⟩:=q;have ek:pk=qk:=h1.1;subst ek;by_cases z:f=pk
  .subst z;simp only[List.lookup_cons_self];exact⟨λd hd=>⟨qv,rfl,by cases hd;exact p1⟩,λhd=>by cases hd⟩
  .have zb:(f==pk)=false:=by simpa using z
   simp only[yA,zb];exact⟨i1,i2⟩
theorem FR.put {r:List Addr}{H:Hp}{f:Str}{d:D}{v:V}(q:Rp r H d v):∀ {fs:List (Str×D)} {fs':List (Str×V)},FR r H fs fs'->FR r H (Ua f d fs) (YF f v fs')
 | [],fs',h=>by
  have e:fs'=[]:=by
   have:=h.1;simpa using this.symm
  subst e;exact⟨rfl,Rps.cons q Rps.nil⟩
 | p::fs,[],h=>by
  have:=h.1;simp at this
 | p::fs,p'::fs',h=>by
  obtain⟨h1,h2⟩:=h;simp only[yM,List.cons.injEq] at h1;obtain⟨p1,p2⟩:=h2.tail;have ih:=FR.put (f:=f) q (fs:=fs) (fs':=fs') ⟨h1.2,p2⟩;obtain⟨pk,pv⟩:=p;obtain⟨qk,qv⟩:=p';have ek:pk=qk:=h1.1;subst ek;unfold Ua YF;by_cases z:pk=f
  .rw[if_pos z,if_pos z];exact⟨by simp[h1.2,z],Rps.cons q p2⟩
  .rw[if_neg z,if_neg z];exact⟨by simp[ih.1],Rps.cons p1 ih.2⟩
section
variable {X:Cx}{Z:Zx}{pos:Pos}
def X4 (C:Addr)(S:Sto):D->Option (Nat×List (Str×D))
 | .ref n=>match S[n]? with
  | some (.ins C' fs)=>if C'=C then some (n,fs) else none
  | _=>none
 | _=>none
theorem JC (h:X4 C S d=some (n,fs)):d=.ref n/\S[n]?=some (.ins C fs):=by
 unfold X4 at h;split at h
 .split at h
  .rename_i m _ C' fs' e;split at h
   .rename_i ec;subst ec;simp only[Option.some.injEq,Prod.mk.injEq] at h;obtain⟨rfl,rfl⟩:=h;exact⟨rfl,e⟩
   .cases h
  .cases h
 .cases h
@[irreducible] def Nt (C:Addr)(f:Str)(to:TDE):TDE:=λdl S Q=>to dl S λd S1=>match X4 C S1 d with
 | some (_,fs)=>match fs.lookup f with
  | some v=>Q v S1
  | none=>False
 | none=>False
theorem ZL (c:Cls X.K C)(n:Ym X.K C f)(ho:PD X Z o to)(hb:attributeBase o f X.env (eval o X.env)=eval o X.env:=by rfl):PD X Z (.Attribute o f pos) (Nt C f to):=
 Yc (ze0 ho hb) λσ H Qv ⟨r,dl,S,Q,rs,aZ,h,ret⟩=>by unfold Nt at h;exact⟨r,dl,S,_,rs,aZ,h,λv H1 r1 d S1 e1 aB p1 q1=>by
  split at q1
  .rename_i m fs ei;obtain⟨rfl,eS⟩:=JC ei;split at q1
   .rename_i w ew;obtain⟨a,ha,ob⟩:=aB.at eS;obtain⟨dx,fs',eH,fr⟩:=ob;cases p1 with
    | ref hr=>
     rw[hr] at ha;cases ha
     obtain⟨u,hu,pu⟩:=fr.lookup.1 w ew;exact⟨a,C,dx,fs',u,rfl,eH,c,n,hu,ret u H1 r1 w S1 e1 aB pu q1⟩
   .exact q1.elim
  .exact q1.elim⟩
@[irreducible] def OZ (C:Addr)(f:Str)(to te:TDE):TDS:=λE dl S=>te dl S λv S1=>to dl S1 λd S2=>match X4 C S2 d with
 | some (n,fs)=>fs.length<1000/\E.nx dl (S2.set n (.ins C (Ua f v fs)))
 | none=>False
theorem WA (c:Cls X.K C)(n:Ym X.K C f)(ho:PD X Z o to)(he:PD X Z e te)(hs:swapsWith e (some (.Attribute o f p2)) pos.line X.env=pure false:=by rfl):PDS X Z (.Assign [.Attribute o f p2] e pos) (OZ C f to te):=
 Yv (zck ho he hs) λF σ H ⟨r,dl,S,E,rs,aZ,h,ret⟩=>by unfold OZ at h;exact⟨r,dl,S,_,rs,aZ,h,λv H1 r1 dv S1 e1 aB p1 q1=>⟨r1,dl,S1,_,rs.ext e1,aB,q1,λw H2 r2 d S2 e2 aC p2' q2=>by
  split at q2
  .rename_i m fs ei;obtain⟨rfl,eS⟩:=JC ei;obtain⟨hl,q2⟩:=q2;obtain⟨a,ha,ob⟩:=aC.at eS;obtain⟨dx,fs',eH,fr⟩:=id ob;cases p2' with
   | ref hr=>
    rw[hr] at ha;cases ha
    have aM:fs'.length=fs.length:=by
     have:=congrArg List.length fr.1;simpa using this.symm
    obtain⟨rb,x⟩:=aC.b.setO (o':=.ins C (Ua f dv fs)) (u:=.ins C dx (YF f v fs')) hr eS rfl rfl λx=>⟨dx,_,YN,(fr.put (p1.ext e2)).ext x⟩
    exact⟨a,C,dx,fs',rfl,eH,c,n,by omega,ret.nx _ _ r2 _ _ (e1.trans (e2.trans x)) (rs.ext (e1.trans (e2.trans x))) ⟨rb,aC.xw.ext x⟩ q2⟩
  .exact q2.elim⟩⟩
@[irreducible] def Ub (C:Addr)(m:Str)(ex:Ev->Addr->Sto->Prop)(sd:Sd)(to:TDE)(t:TDA):TDE:=λdl S Q=>to dl S λd S1=>match X4 C S1 d with
 | some (_,fs)=>fs.lookup m=none/\t dl S1 λds S2=>sd (d::ds) S2 Q (ex dl)
 | none=>False
theorem zfY (he:PE X o ta)(c:Cls X.K C)(hm:Vl X.K C m f)(F:Yi X.prog X.w X.K X.mg X.base (CXE X.prog X.w) k f fd ps sp)(hr:ZF k X.A)(hb:YD X.K fd ps [])(hx:XH X W)(ha:PA X (e::es) t)(hst:starEach (e::es) X.env=(false,eval e X.env)::starEach es X.env)(hpl:Hp1 X pos es)(ht:eval (.Call (.Attribute o m aJ) (e::es) [] pos) X.env=(do
   let ov <- eval o X.env
   standAt aJ.atName
   let (f,first) <- holding [ov] (getMethod ov m pl)
   callWith pos f first (backTo pos (starEach (e::es) X.env)) (backToKw pos (keywordEach [] X.env)))):
  PE X (.Call (.Attribute o m aJ) (e::es) [] pos) (λσ H Q=>ta σ H λx H1=>∃a dx fs,x=.ref a/\H1 a=some (.ins C dx fs)/\fs.lookup m=none/\t σ H1 λvs H2=>sp (x::vs) H2 Q (W σ)):=by
 intro pins s σ H Q I h;refine PySem.W.methodCall_KW (pl:=pl) (thn (he pins s σ H _ I h) λu s1 ⟨x,H1,I1,rx,a,dx,fs,ex,ea,l,q⟩=>?_) ht;subst ex;obtain rfl:u=Value.ref a:=rx;refine Kz I1 ea c hm l ?_;exact PySem.W.callWith_K (first:=[.ref a]) (h₀:=X.base) I.ok.mod.kin hm.kp (thn (ha pos pins s1 σ H1 _ I1 q) λus s2 ⟨vs,H2,I2,r,q2⟩=>⟨I2.kIn,PJ (us:=.ref a::us) (vs:=.ref a::vs) F hr hb hx I2 (.cons rfl r) q2⟩) hst hpl
theorem zgU (he:PE X o ta)(c:Cls X.K C)(hm:Vl X.K C m f)(F:Yi X.prog X.w X.K X.mg X.base (CXE X.prog X.w) k f fd ps sp)(hr:ZF k X.A)(hb:YD X.K fd ps [])(hx:XH X W)(ht:eval (.Call (.Attribute o m aJ) [] [] pos) X.env=(do
   let ov <- eval o X.env
   standAt aJ.atName
   let (f,first) <- holding [ov] (getMethod ov m pl)
   callWith pos f first (backTo pos (starEach [] X.env)) (backToKw pos (keywordEach [] X.env)))):
  PE X (.Call (.Attribute o m aJ) [] [] pos) (λσ H Q=>ta σ H λx H1=>∃a dx fs,x=.ref a/\H1 a=some (.ins C dx fs)/\fs.lookup m=none/\sp [x] H1 Q (W σ)):=by
 intro pins s σ H Q I h;refine PySem.W.methodCall_KW (pl:=pl) (thn (he pins s σ H _ I h) λu s1 ⟨x,H1,I1,rx,a,dx,fs,ex,ea,l,q⟩=>?_) ht;subst ex;obtain rfl:u=Value.ref a:=rx;refine Kz I1 ea c hm l ?_;exact PySem.W.callWith_K0 (first:=[.ref a]) I1.kIn hm.kp (PJ (us:=[.ref a]) (vs:=[.ref a]) F hr hb hx I1 (.cons rfl .nil) q)
theorem Kb {C:Addr}{r:List Addr}{S:Sto}{H:Hp}{d:D}{v:V}{n:Nat}{fs:List (Str×D)}(aZ:ZY X.K r S H)(p:Rp r H d v)(h:X4 C S d=some (n,fs)):∃a dx fs',v=.ref a/\r[n]?=some a/\H a=some (.ins C dx fs')/\FR r H fs fs':=by
 obtain⟨rfl,eS⟩:=JC h;obtain⟨a,ha,dx,fs',eH,fr⟩:=aZ.at eS;cases p with
 | ref hr=>
  rw[hr] at ha;cases ha
  exact⟨a,dx,fs',rfl,hr,eH,fr⟩
theorem XI (ho:PD X ⟨ex,W⟩ o to)(c:Cls X.K C)(hm:Vl X.K C m f)(F:Yi X.prog X.w X.K X.mg X.base (CXE X.prog X.w) k f fd ps (upF X.K sd))(hr:ZF k X.A)(hb:YD X.K fd ps [])(hx:XH X W)(ha:PDA X ⟨ex,W⟩ (e::es) t)(hst:starEach (e::es) X.env=(false,eval e X.env)::starEach es X.env:=by rfl)(hpl:Hp1 X pos es:=by rfl)(ht:eval (.Call (.Attribute o m aJ) (e::es) [] pos) X.env=(do
   let ov <- eval o X.env
   standAt aJ.atName
   let (f,first) <- holding [ov] (getMethod ov m pl)
   callWith pos f first (backTo pos (starEach (e::es) X.env)) (backToKw pos (keywordEach [] X.env))):=by rfl):PD X ⟨ex,W⟩ (.Call (.Attribute o m aJ) (e::es) [] pos) (Ub C m ex sd to t):=
 Yc (zfY ho c hm F hr hb hx ha hst hpl ht) λσ H Qv ⟨r,dl,S,Q,rs,aZ,h,ret⟩=>by unfold Ub at h;exact⟨r,dl,S,_,rs,aZ,h,λv H1 r1 d S1 e1 aB p1 q1=>by
  split at q1
  .rename_i n fs ei;obtain⟨hl,q1⟩:=q1;obtain⟨a,dx,fs',rfl,hr1,eH,fr⟩:=Kb aB.b p1 ei;exact⟨a,dx,fs',rfl,eH,fr.lookup.2 hl,r1,dl,S1,_,rs.ext e1,aB,q1,λvs H2 r2 ds S2 e2 aC p2 q2=>Ot (Z:=⟨ex,W⟩) (rs.ext (e1.trans e2)) aC (Rps.cons (p1.ext e2) p2) q2 (ret.ext (e1.trans e2))⟩
  .exact q1.elim⟩
theorem G4 (ho:PD X ⟨ex,W⟩ o to)(c:Cls X.K C)(hm:Vl X.K C m f)(F:Yi X.prog X.w X.K X.mg X.base (CXE X.prog X.w) k f fd ps (upF X.K sd))(hr:ZF k X.A)(hb:YD X.K fd ps [])(hx:XH X W)(ht:eval (.Call (.Attribute o m aJ) [] [] pos) X.env=(do
   let ov <- eval o X.env
   standAt aJ.atName
   let (f,first) <- holding [ov] (getMethod ov m pl)
   callWith pos f first (backTo pos (starEach [] X.env)) (backToKw pos (keywordEach [] X.env))):=by rfl):PD X ⟨ex,W⟩ (.Call (.Attribute o m aJ) [] [] pos) (Ub C m ex sd to SD):=
 Yc (zgU ho c hm F hr hb hx ht) λσ H Qv ⟨r,dl,S,Q,rs,aZ,h,ret⟩=>by unfold Ub at h;exact⟨r,dl,S,_,rs,aZ,h,λv H1 r1 d S1 e1 aB p1 q1=>by
  split at q1
  .rename_i n fs ei;obtain⟨hl,q1⟩:=q1;obtain⟨a,dx,fs',rfl,hr1,eH,fr⟩:=Kb aB.b p1 ei;exact⟨a,dx,fs',rfl,eH,fr.lookup.2 hl,Ot (Z:=⟨ex,W⟩) (rs.ext e1) aB (Rps.cons p1 Rps.nil) q1 (ret.ext e1)⟩
  .exact q1.elim⟩
def dMake (C:Addr)(ex:Addr->Sto->Prop)(sd:Sd)(t:TDA):TDE:=λdl S Q=>t dl S λds S1=>sd (.ref S1.length::ds) (S1++[.ins C []]) (λd S2=>d=.non/\Q (.ref S1.length) S2) ex
theorem A2 {C x dx:Addr}{r:List Addr}{S:Sto}{H:Hp}(aZ:Rel X.K Z r S H)(h1:H x=none)(h2:H dx=none)(h3:dx≠x):
  Rel X.K Z (r++[x]) (S++[.ins C []]) (upd (upd H dx (.own x)) x (.ins C dx []))/\Ext r (r++[x]) H (upd (upd H dx (.own x)) x (.ins C dx [])):=by
 obtain⟨rb,e⟩:=aZ.b.pushO (o:=.ins C []) (H':=upd (upd H dx (.own x)) x (.ins C dx [])) h1 (λb u q=>by rw[ZV (Vn q h1),ZV (Vn q h2)];exact q) λ_=>⟨dx,[],YN,FR.nil⟩
 exact⟨⟨rb,aZ.xw.ext e⟩,e⟩
theorem zfh {C x:Addr}{r r':List Addr}{n:Nat}{H H':Hp}{Z:Zx}{K:Fg}{Q:DK}{Qv:VK}(ret:Ret K Z r H Q Qv)(e:Ext r r' H H')(hx:r'[n]?=some x):
  Ret K Z r' H' (λd S2=>d=.non/\Q (.ref n) S2) (λv H2=>v=.non/\Qv (.ref x) H2):=λv H2 r2 d S2 e2 aC p2 q2=>by
 obtain⟨rfl,q2⟩:=q2;cases p2;exact⟨rfl,ret _ H2 r2 (.ref n) S2 (e.trans e2) aC (.ref (e2.adr _ _ hx)) q2⟩
theorem VH {C f:Addr}{fd:FuncData}{k:Nat}{ps:List Str}{sd:Sd}{ex:Addr->Sto->Prop}{W:XK}{x:Str}{p:Pos}{e:Expr}{es:List Expr}{t:TDA}(M:Mk X.K C f)
  (F:Yi X.prog X.w X.K X.mg X.base (CXE X.prog X.w) k f fd ps (upF X.K sd))(hr:ZF (k+1) X.A)(hg:Gl X x)(hm:X.mg x=some (.ref C))(hb:YD X.K fd ps [])(hx:O7 (CXE X.prog X.w) X W)(ha:PDA X (Zc ex W) (e::es) t)
  (hdb:(x==("__debug__":Str))=false:=by decide)(he:He X e es:=by rfl)(hpl:Hp1 X pos es:=by rfl):
  PD X (Zc ex W) (.Call (.Name x p) (e::es) [] pos) (dMake C ex sd t):=
 Yc (zfL M F hr hg hm hb .nil hx ha hdb he hpl) λσ H Qv ⟨r,dl,S,Q,rs,aZ,h,ret⟩=>⟨r,dl,S,_,rs,aZ,h,λvs H1 r1 ds S1 e1 aB p1 q1=>λx dx n1 n2 n3=>by
  obtain⟨aC,e2⟩:=A2 (C:=C) aB n1 n2 n3;show upF X.K sd (.ref x::(vs++[])) _ _ W;rw[xR];exact⟨ex,_,_,.ref S1.length::ds,_,aC,Rps.cons (Vy aB.len) (p1.ext e2),q1,zfh (C:=C) ret (e1.trans e2) (Rr aB.len)⟩⟩
end
section
variable {κ:Type} [DecidableEq κ]
end
section
variable {X:Cx}{Z:Zx}{pos:Pos}
end
section
variable {X:Cx}{Z:Zx}{pos:Pos}
end
def Yd (xs:List D)(lo hi:Option Int):List D:=(xs.drop (HT.sIx xs.length 0 lo)).take (HT.sIx xs.length xs.length hi-HT.sIx xs.length 0 lo)
theorem Rps.drop {r:List Addr}{H:Hp}{ds:List D}{vs:List V}(h:Rps r H ds vs)(k:Nat):Rps r H (ds.drop k) (vs.drop k):=
 ⟨by simp[h.1],λi d v h1 h2=>h.2 (k+i) d v (by simpa using h1) (by simpa using h2)⟩
theorem Rps.take {r:List Addr}{H:Hp}{ds:List D}{vs:List V}(h:Rps r H ds vs)(k:Nat):Rps r H (ds.take k) (vs.take k):=by
 refine⟨by simp[h.1],λi d v h1 h2=>?_⟩;rw[List.getElem?_take] at h1 h2;split at h1
 .rw[if_pos (by assumption)] at h2;exact h.2 i d v h1 h2
 .cases h1
theorem Rps.cut {r:List Addr}{H:Hp}{ds:List D}{vs:List V}(h:Rps r H ds vs)(lo hi:Option Int):Rps r H (Yd ds lo hi) (TR vs lo hi):=by
 unfold Yd TR;rw[h.1];exact(h.drop _).take _
@[irreducible] def UR (te:TDE)(tl th:TDO):TDE:=λdl S Q=>te dl S λd S1=>tl dl S1 λl S2=>th dl S2 λu S3=>match d with
 | .ref n=>match lAt S3 n with
  | some o=>Q (.ref S3.length) (S3++[.lst (Yd (Zk o) l u)])
  | none=>False
 | _=>False
theorem WI {e:Expr}{te:TDE}{lo hi:Option Expr}{tl th:TDO}{p2:Pos}(he:PD X Z e te)(hl:PDO X Z lo tl)(hu:PDO X Z hi th):PD X Z (.Subscript e (.Slice lo hi none p2) pos) (UR te tl th):=
 Yc (zgo Cw he hl hu) λσ H Qv ⟨r,dl,S,Q,rs,aZ,h,ret⟩=>by
  unfold UR at h;refine⟨r,dl,S,_,rs,aZ,h,λv H1 r1 d S1 e1 aB p1 q1=>⟨r1,dl,S1,_,rs.ext e1,aB,q1,λl H2 r2 S2 e2 aC q2=>⟨r2,dl,S2,_,rs.ext (e1.trans e2),aC,q2,λu H3 r3 S3 e3 aE q3=>?_⟩⟩⟩;cases p1 with
  | @ref n a hn=>
   dsimp only at q3;split at q3
   .rename_i o eo;obtain⟨eo,eL⟩:=Yy eo;obtain⟨a',ha,ob⟩:=aE.at eo;rw[e3.adr _ _ (e2.adr _ _ hn)] at ha;cases ha
    obtain⟨xs,sq,pr⟩:=ob.list eL;refine⟨a,xs,rfl,sq,λp hp=>?_⟩;obtain⟨aF,x⟩:=aE.push hp (pr.cut l u);exact ret _ _ _ (.ref S3.length) _ (e1.trans (e2.trans (e3.trans x))) aF (Vy aE.len) q3
   .exact q3.elim
  | _=>exact(show False from q3).elim
theorem WO {te:TDE}{tl th:TDO}{dl:Ev}{S S3:Sto}{Q:DK}{n:Nat}{o:Ob}{lo hi:Option Int}(h:∀K:DK,K (.ref n) S3->te dl S K)(hl:∀K:Option Int->Sto->Prop,K lo S3->tl dl S3 K)(hh:∀K:Option Int->Sto->Prop,K hi S3->th dl S3 K)(ho:S3[n]?=some o)
  (hq:Q (.ref S3.length) (S3++[.lst (Yd (Zk o) lo hi)]))(hL:Y2 o=some o:=by rfl):UR te tl th dl S Q:=by
 unfold UR;refine h _ (hl _ (hh _ ?_));simp only[ZO ho hL];exact hq
theorem Rps.put {r:List Addr}{H:Hp}{ds:List D}{vs:List V}{d:D}{v:V}(h:Rps r H ds vs)(p:Rp r H d v)(j:Nat):Rps r H (ds.set j d) (vs.set j v):=by
 refine⟨by simp[h.1],λi x y h1 h2=>?_⟩;by_cases z:j=i
 .subst z;have hl:j<ds.length:=by
   have:=(zB.mp h1).1;simpa using this
  rw[yU hl] at h1;rw[yU (by rw[<- h.1];exact hl)] at h2;cases h1;cases h2;exact p
 .rw[yC z] at h1 h2;exact h.2 i x y h1 h2
@[irreducible] def Qj (to ti te:TDE):TDS:=λE dl S=>te dl S λv S1=>to dl S1 λd S2=>ti dl S2 λi S3=>match d,i with
 | .ref n,.int k=>match S3[n]? with
  | some (.lst xs)=>match ixN xs.length k with
   | some j=>E.nx dl (S3.set n (.lst (xs.set j v)))
   | none=>False
  | _=>False
 | _,_=>False
theorem SE (ho:PD X Z o to)(hi:PD X Z i ti)(he:PD X Z e te)(hs:swapsWithSole [.Subscript o i p2] e pos.line X.env=pure false:=by rfl)(hw:swappedStores [.Subscript o i p2] e X.env=pure none:=by rfl)(h1:(assignEach [.Subscript o i p2] X.env).map (·.2)=[assign (.Subscript o i p2) X.env]:=by rfl)(ha:∀v,assign (.Subscript o i p2) X.env v=(do let ov <- holding [v] (eval o X.env);let iv <- holding [v,ov] (eval i X.env);standAt p2;holding [v,ov,iv] (setItem ov iv v);release [v,ov,iv] []):=by intro _;rfl):PDS X Z (.Assign [.Subscript o i p2] e pos) (Qj to ti te):=
 Yv (G9 he (zgz ho hi AZ ha) hs hw h1) λF σ H ⟨r,dl,S,E,rs,aZ,h,ret⟩=>by
  unfold Qj at h;refine⟨r,dl,S,_,rs,aZ,h,λv H1 r1 dv S1 e1 aB p1 q1=>⟨r1,dl,S1,_,rs.ext e1,aB,q1,λx H2 r2 d S2 e2 aC pd q2=>⟨r2,dl,S2,_,rs.ext (e1.trans e2),aC,q2,λy H3 r3 di S3 e3 aE pi q3=>?_⟩⟩⟩;cases pd with
  | @ref n a hn=>
   cases pi with
   | int k=>
    dsimp only at q3;split at q3
    .rename_i xs eS;split at q3
     .rename_i j ej;have hn3:=e3.adr _ _ hn;obtain⟨ys,eH,pr⟩:=aE.b.ob n a _ hn3 eS;obtain⟨aF,x4⟩:=aE.set hn3 eS (pr.put (p1.ext (e2.trans e3)) j);exact⟨a,ys,k,j,rfl,rfl,eH,by rw[<- pr.1];exact ej,ret.nx _ _ r3 _ _ (e1.trans (e2.trans (e3.trans x4))) (rs.ext (e1.trans (e2.trans (e3.trans x4)))) aF q3⟩
     .exact q3.elim
    .exact q3.elim
   | _=>exact(show False from q3).elim
  | _=>exact(show False from q3).elim
def Xo (f:D->D->Option Bool):List D->D->Option (Option Nat)
 | [],_=>some none
 | y::ys,x=>match f y x,Xo f ys x with
  | some true,some _=>some (some 0)
  | some false,some o=>some (o.map (·+1))
  | _,_=>none
theorem KI:∀ {ys:List D} {o:Option Nat},Xo f ys x=some o->(∀y∈ys,∃c,f y x=some c)/\∀j,o=some j->(∃y,ys[j]?=some y/\f y x=some true)/\∀m y,m<j->ys[m]?=some y->f y x=some false
 | [],o,e=>by
  have h:=Option.some.inj e;subst h;exact⟨(λy hy=>by cases hy),λj z=>by cases z⟩
 | y::ys,o,e=>by
  unfold Xo at e;split at e
  .rename_i o1 e1 e2;have h:=Option.some.inj e;subst h;obtain⟨h1,_⟩:=KI e2;refine⟨λz hz=>?_,λj hj=>?_⟩
   .rcases zS.mp hz with rfl|hz
    .exact⟨true,e1⟩
    .exact h1 z hz
   .cases hj;exact⟨⟨y,rfl,e1⟩,λm z hm=>by omega⟩
  .rename_i o1 e1 e2;have h:=Option.some.inj e;subst h;obtain⟨h1,h2⟩:=KI e2;refine⟨λz hz=>?_,λj hj=>?_⟩
   .rcases zS.mp hz with rfl|hz
    .exact⟨false,e1⟩
    .exact h1 z hz
   .obtain⟨k,rfl,rfl⟩:=zP.mp hj;obtain⟨⟨z,hz1,hz2⟩,h3⟩:=h2 k rfl;refine⟨⟨z,by simpa using hz1,hz2⟩,λm w hm hw=>?_⟩;cases m with
    | zero=>
     have:w=y:=by simpa using hw.symm
     rw[this];exact e1
    | succ m=>exact h3 m w (by omega) (by simpa using hw)
  .cases e
theorem AQ {k:Nat}{pins:LA}{σ:St}{H:Hp}{s:Shared}{r:List Addr}{A:Around}{ds:List D}{vs:List V}{us:List Value}{dx:D}{x:V}{u:Value}{j:Nat}(I:Inv X pins σ H s)(hu:A.units+k<cLine)
  (p:Rps r H ds vs)(rv:Zv vs us)(px:Rp r H dx x)(rx:Zw x u)(e:Xo (eqN k) ds dx=some (some j)):
  ∃g:Value->Bool,(∀y,y∈us.toArray->SeqAt.EqAt A s y u (g y))/\∃hj:j<us.toArray.size,g us.toArray[j]=true/\∀m (hm:m<us.toArray.size),m<j->g us.toArray[m]=false:=by
 obtain⟨h1,h2⟩:=KI e;obtain⟨⟨yj,hyj,htj⟩,hno⟩:=h2 j rfl
 classical
 have at_:∀(m:Nat)(hm:m<us.length),∃d v,ds[m]?=some d/\Rp r H d v/\Zw v us[m]:=λm hm=>by
  have hv:m<vs.length:=by rw[rv.length];exact hm
  have gv:vs[m]?=some vs[m]:=by simp[hv]
  obtain⟨w,gw,rw'⟩:=rv.get gv;obtain⟨d,gd,pd⟩:=p.get' gv;have ew:w=us[m]:=by
   rw[zE hm] at gw;exact(Option.some.inj gw).symm
  subst ew;exact⟨d,_,gd,pd,rw'⟩
 have val:∀(m:Nat)(hm:m<us.length)(d:D)(c:Bool),ds[m]?=some d->eqN k d dx=some c->decide (∃d v,d∈ds/\Rp r H d v/\Zw v us[m]/\eqN k d dx=some true)=c:=λm hm d c hd hc=>by
  obtain⟨d',v',gd,pd,rd⟩:=at_ m hm;rw[hd] at gd;cases gd
  cases c with
  | true=>exact decide_eq_true ⟨d,v',zF hd,pd,rd,hc⟩
  | false=>
   refine decide_eq_false λ⟨d2,v2,_,pd2,rd2,hc2⟩=>?_
   have ev:=Lh rd rd2;subst ev;exact absurd (Ph k d d2 dx v' false true pd pd2 hc hc2) ⋯
 refine⟨λy=>decide (∃d v,d∈ds/\Rp r H d v/\Zw v y/\eqN k d dx=some true),λy hy=>?_,?_⟩
 .have hy':y∈us:=by simpa using hy
  obtain⟨m,hm,rfl⟩:=yV.mp hy';obtain⟨d,v,gd,pd,rd⟩:=at_ m hm;obtain⟨c,hc⟩:=h1 d (zF gd);show SeqAt.EqAt A s us[m] u (decide _);rw[val m hm d c gd hc];exact Us k X pins σ H s r A d dx v x _ u c I hu pd px rd rx hc
 .have hjl:j<us.length:=by
   have:=(zB.mp hyj).1;rw[p.1,rv.length] at this;exact this
  refine⟨by simpa using hjl,?_,λm hm hmj=>?_⟩
  .have z:=val j hjl yj true hyj htj;simpa using z
  .have hm':m<us.length:=by simpa using hm
   obtain⟨d,v,gd,pd,rd⟩:=at_ m hm';have z:=val m hm' d false gd (hno m d hmj gd);simpa using z
def Rt (k:Nat)(d y:D)(S:Sto)(Q:DK):Prop:=match d with
 | .ref n=>match lAt S n with
  | some o=>match Xo (eqN k) (Zk o) y with
   | some (some j)=>Q (.int (j:Int)) S
   | _=>False
  | none=>False
 | _=>False
@[irreducible] def Uk (k:Nat)(to:TDE)(t:TDA):TDE:=λdl S Q=>to dl S λd S1=>(match d with
 | .ref n=>(lAt S1 n).isSome=true/\t dl S1 λds S2=>match ds with
  | [y]=>Rt k d y S2 Q
  | _=>False
 | _=>False)
theorem zb6 (hr:ZF j X.A)(hk:k<=3):MtR X "list.index" (λx xs H Qv=>∃(r:List Addr)(S:Sto)(d y:D)(v:V)(Q:DK),Rel X.K Z r S H/\Rp r H d x/\xs=[v]/\Rp r H y v/\Rt k d y S Q/\Ret X.K Z r H Q Qv):=by
 intro pins s σ H x xs v us Qv I rx rv h;obtain⟨r,S,d,y,v1,Q,aZ,pd,rfl,py,q,ret⟩:=h;obtain⟨u,rfl,ru⟩:=XC rv;unfold Rt at q;split at q
 .rename_i n;split at q
  .rename_i o eo;obtain⟨eo,eL⟩:=Yy eo;split at q
   .rename_i i ei;cases pd with
    | @ref n a hn=>
     cases rx;obtain⟨a',ha,ob⟩:=aZ.at eo;rw[hn] at ha;cases ha
     obtain⟨ys,sq,pr⟩:=ob.list eL;obtain⟨aX,ri,pl,hz⟩:=I.list sq;have hun:=hr.un;obtain⟨g,g1,hj,g2,g3⟩:=AQ (A:=X.A.in1) I (by show X.A.units+1+k<_;omega) pr ri py ru ei;obtain⟨ob2,m,e,c,hd,hdat⟩:=pl;obtain⟨oc,od,odat,osl⟩:=ob2;have c':oc=.type "list":=c
     have hdat':odat=.seq aX.toArray m:=hdat;subst c' hdat';refine call_meets PySem.F.slot_list_index ⟨_,e,rfl⟩ PySem.F.entry_list_index (PySem.F.args_list_index_2 _ _) (PySem.SeqAt.list_indexAt a aX.toArray m od osl u g i hj (by
      have:aX.toArray.size<=sizeLine:=by rw[zU,<- ri.length];exact hz
      have h2:=SY;omega) g2 λm hm h2=>g3 m hm h2) ⟨e,g1,?_⟩
     exact⟨.int (i:Int),H,I.tok _,⟨_,rfl⟩,ret _ H r (.int _) S Ext.refl aZ (.int _) q⟩
   .exact q.elim
  .exact q.elim
 .exact q.elim
theorem Gf (hr:ZF j X.A)(hk:k<=3)(ho:PD X Z o to)(ha:PDA X Z [e] t)(hbase:attributeBase o "index" X.env (eval o X.env)=eval o X.env:=by rfl)(hfew:((backTo aH (starEach [e] X.env)).all (λx=>!x.1)&&(backToKw aH (keywordEach [] X.env)).all (λx=>x.1.isSome)
  &&decide ([e].length+([]:List Keyword).length+(if ([]:List Keyword).isEmpty then 0 else 1)<30))=true:=by rfl)(hline:(aJ.endLine==aH.line)=true:=by rfl)(hs:starEach [e] X.env=(false,eval e X.env)::starEach [] X.env:=by rfl)(hplain:(backTo aH (starEach [] X.env)).any (·.1)=false:=by rfl):
  PD X Z (.Call (.Attribute o "index" aJ) [e] [] aH) (Uk k to t):=
 Yc (MF (T:="list") PySem.F.plainAttrs_list PySem.F.slot_list_index PySem.F.type_list_index (zb6 (Z:=Z) hr hk) ho ha hbase hfew hline hs hplain) λσ H Qv ⟨r,dl,S,Q,rs,aZ,h,ret⟩=>by
  unfold Uk at h;refine⟨r,dl,S,_,rs,aZ,h,λv H1 r1 d S1 e1 aB p1 q1=>?_⟩;cases p1 with
  | @ref n a hn=>
   obtain⟨aQ,q1⟩:=q1;obtain⟨o1,eo⟩:=yY.mp aQ;obtain⟨eo,eL⟩:=Yy eo;obtain⟨a',ha',ob⟩:=aB.at eo;rw[hn] at ha';cases ha'
   obtain⟨xs,sq,_⟩:=ob.list eL;refine⟨.inl ⟨rfl,xs,sq⟩,r1,dl,S1,_,rs.ext e1,aB,q1,λvs H2 r2 ds S2 e2 aC p2 q2=>?_⟩;split at q2
   .rename_i y;obtain⟨v2,vs',rfl,p3,p4⟩:=p2.uncons;have z:=p4.unnil;subst z;exact⟨r2,S2,.ref n,y,v2,Q,aC,.ref (e2.adr _ _ hn),rfl,p3,q2,ret.ext (e1.trans e2)⟩
   .exact q2.elim
  | _=>exact(show False from q1).elim
theorem FG {t':Nat}{ch:List Addr}{T:Addr}{xs:List V}{vals:Array Value}(I:Inv X pins σ H s)(k:∀b o,b ∉ ch->s.heap.get? b=some o->h'.get? b=some o)(hch:∀b∈ch,Yk X pins H b)
  (hT:s.heap.objs.size<=T)(ht:h'.IsTuple T vals)(rv:Zv xs vals.toList)(hl:xs.length<=sizeLine):Inv X pins σ (upd H T (.tup xs)) { s with heap:=h',toks:=t' }:=by
 have hTn:H T=none:=I.hok.fresh hT
 have old:∀ {b:Addr} {o:Obj},s.heap.get? b=some o->b≠T:=λ{b o} e z=>absurd (zW (Heap.lt_size e) hT) (by rw[z];exact yX _)
 have trk:∀b u,H b=some u->b ∉ ch:=λb u e z=>by
  rw[(hch b z).1] at e;cases e
 have up:∀b u,H b=some u->(upd H T (.tup xs)) b=some u:=XB hTn;refine I.step (g':=s.gens) (d':=s.drawn) (ch:=ch) (λb hb=>?_) (λb o _ _ hc e _=>k b o hc e) (λb o _ _ hc e _=>⟨o.slots,k b o hc e⟩) (λb o _ e n=>by rw[ZV (old e)];exact n)
  (λb o hc e=>⟨o,k b o hc e⟩) (λb ys e=>up _ _ e) (λb o u e=>up _ _ e) (λb ps e=>⟨#[],by rw[up _ _ e];simp⟩) (λm hm=>?_) (λb u e=>?_) I.bare
 .obtain⟨_,f1,_,f3,f4,f5⟩:=hch b hb;exact⟨f3,f1,f4,f5⟩
 .obtain⟨o,es,ep,ho,r⟩:=hm;exact⟨o,es,ep,k _ o (λz=>(hch _ z).2.1 rfl) ho,r⟩
 .by_cases hb:b=T
  .subst hb;rw[YN] at e;cases e;exact⟨hl,vals.toList,rv,by rw[Array.toArray_toList];exact ht⟩
  .rw[ZV hb] at e;refine(I.hok b u e).stay (λc v hc q=>k c v ?_ q) (λd z=>up _ _ z) λd ys z=>up _ _ z
   rcases hc with z|z
   .rw[z];exact trk b u e
   .exact trk c _ z
theorem Qt {t':Nat}{ch:List Addr}(I:Inv X pins σ H s)(k:∀b o,b ∉ ch->s.heap.get? b=some o->h'.get? b=some o)(hch:∀b∈ch,Yk X pins H b):Inv X pins σ H { s with heap:=h',toks:=t' }:=by
 have trk:∀b u,H b=some u->b ∉ ch:=λb u e z=>by
  rw[(hch b z).1] at e;cases e
 refine I.step (g':=s.gens) (d':=s.drawn) (ch:=ch) (λb hb=>?_) (λb o _ _ hc e _=>k b o hc e) (λb o _ _ hc e _=>⟨o.slots,k b o hc e⟩) (λb o _ e n=>n)
  (λb o hc e=>⟨o,k b o hc e⟩) (λb ys e=>e) (λb o u e=>e) (λb ps e=>⟨#[],by rw[e];simp⟩) (λm hm=>?_) (λb u e=>?_) I.bare
 .obtain⟨_,f1,_,f3,f4,f5⟩:=hch b hb;exact⟨f3,f1,f4,f5⟩
 .obtain⟨o,es,ep,ho,r⟩:=hm;exact⟨o,es,ep,k _ o (λz=>(hch _ z).2.1 rfl) ho,r⟩
 .refine(I.hok b u e).stay (λc v hc q=>k c v ?_ q) (λd z=>z) λd ys z=>z
  rcases hc with z|z
  .rw[z];exact trk b u e
  .exact trk c _ z
def Ite (K:Fg)(a:Addr):It:=
 ⟨λi H=>∃xs x,SqL K H a xs/\xs[i]?=some x,λi H x H'=>∃T v,x=.ref T/\H T=none/\H'=upd H T (.tup [.int (i:Int),v])/\∀xs,SqL K H a xs->xs[i]?=some v,λi H=>∃xs,SqL K H a xs/\xs.length=i⟩
theorem zg4 {P:Program}{w:World}{K:Fg}{aL:List Expr}{kk:Nat}{tp:Pos}(a e it:Addr)(hei:e≠it)(hae:a≠e)(hai:a≠it):
  Vp P w K (.Tuple aL kk tp) (Ite K a) [e,it] e (λi h=>(∃old,IsEnum h e it i old)/\h.IsListIter it a i) where
 mem:=by simp
 obj:=λi h st b hb=>by
  obtain⟨⟨old,he⟩,o,e1,c,d⟩:=st;have hb':b=e\/b=it:=by simpa using hb
  rcases hb' with rfl|rfl
  .exact⟨_,he,λv z=>by cases z⟩
  .exact⟨o,e1,λv z=>by rw[d] at z;cases z⟩
 keep:=λi h h' st k=>by
  obtain⟨⟨old,he⟩,hit⟩:=st;exact⟨⟨old,k e (by simp) _ he⟩,hit.at λo x=>k it (by simp) o x⟩
 item:=by
  intro X hP hw hK hc i pins s σ H E I hf st hg;subst hP hw hK;obtain⟨xs,x,hq,hx⟩:=hg;obtain⟨aX,rv,p,hz⟩:=I.list hq;obtain⟨u,hu,ru⟩:=rv.get hx;have hi:i<aX.toArray.size:=by
   have:=(zB.mp hu).1;simpa using this
  have W:=WalksT.enumerate (prog:=X.prog) (w:=X.w) (A:=X.A) (I.ok.hd hc) e it a hei hae hai aX.toArray;refine W.item i s _ _ hi ⟨st.1,st.2,p.isList⟩ λT vals h' tk hP hT ht mid k1=>?_
  obtain⟨t,y,hy,rfl⟩:=hP;have ey:y=u:=by
   have z:aX[i]?=some y:=by simpa using hy
   rw[hu] at z;exact(Option.some.inj z).symm
  subst ey;have hw:∀b∈[e,it],Yk X pins H b:=hf
  have I1:Inv X pins σ (upd H T (.tup [.int (i:Int),x])) { s with heap:=h',toks:=tk }:=FG I k1 hw hT ht (.cons ⟨t,rfl⟩ (.cons ru .nil)) (show 2<=sizeLine from Tg ⋯)
  have neT:∀b∈[e,it],b≠T:=λb hb z=>W.apart i T h' mid (z ▸ hb)
  have hf1:∀b∈[e,it],Yk X pins (upd H T (.tup [.int (i:Int),x])) b:=λb hb=>⟨by rw[ZV (neT b hb)];exact(hf b hb).1,(hf b hb).2⟩
  refine⟨.ref T,rfl,W.go aL kk tp i T _ _ _ mid λh2 st2 k2=>?_⟩;have I2:Inv X pins σ (upd H T (.tup [.int (i:Int),x])) { s with heap:=h2,toks:=tk }:=Qt (s:={ s with heap:=h',toks:=tk }) (t':=tk) I1 k2 hf1;exact⟨.ref T,_,I2,rfl,⟨T,x,rfl,I.hok.fresh hT,rfl,λys hy=>by rw[I.list_inj hy hq];exact hx⟩,⟨st2.1,st2.2.1⟩,λb hb=>(hf1 b hb).1⟩
 done:=by
  intro X hP hw hK hc i pins s σ H E I hf st hg;subst hP hw hK;obtain⟨xs,hq,hx⟩:=hg;obtain⟨aX,rv,p,hz⟩:=I.list hq;have W:=WalksT.enumerate (prog:=X.prog) (w:=X.w) (A:=X.A) (I.ok.hd hc) e it a hei hae hai aX.toArray
  have hi:i=aX.toArray.size:=by rw[zU,<- rv.length];exact hx.symm
  subst hi;exact W.done s _ _ ⟨st.1,st.2,p.isList⟩ λh' tk k1=>⟨rfl,Qt (t':=tk) I k1 hf⟩
 self:=λA i s Q E st h=>by
  obtain⟨⟨old,he⟩,_⟩:=st;exact wpAny_pyIter_enum he h
def Im (K:Fg)(ta:TA):TI:=λσ H R=>ta σ H λvs H1=>∃a,vs=[.ref a]/\(∃xs,SqL K H1 a xs)/\R (Ite K a) H1
theorem MG {a:Expr}{ta:TA}{p pos tp:Pos}{aL:List Expr}{kk:Nat}(hg:Gl X "enumerate")(hm:X.mg "enumerate"=none)(hv:bootBuiltins "enumerate"=some (.type "enumerate"))(ha:PA X [a] ta)(hs:starEach [a] X.env=[(false,eval a X.env)]:=by rfl):
  PI X (.Tuple aL kk tp) (.Call (.Name "enumerate" p) [a] [] pos) (Im X.K ta):=by
 intro pins s σ H R I h;refine Call_ (Vg I hg hm hv (PyProof.Rows.callWith_type1 (thn (ha pos pins s σ H _ I h) λus s1 ⟨vs,H1,I1,r1,q1⟩=>?_) hs rfl));obtain⟨l,e,⟨xs,hq⟩,q⟩:=q1;subst e;cases r1 with
 | cons r rr=>
  cases rr;cases r;obtain⟨aX,rv,pl,hz⟩:=I1.list hq;have hll:l<s1.heap.objs.size:=by
   obtain⟨o,e,_⟩:=pl.isList;exact Heap.lt_size e
  refine call_enumerate_list pl.isList λh' he hit hsz hk=>?_
  have I2:Inv X pins σ H1 { s1 with heap:=h' }:=I1.kept (t':=s1.toks) hk;refine wpAny_pyIter_enum he ⟨s1.heap.objs.size+1,[s1.heap.objs.size+1,s1.heap.objs.size],_,_,H1,rfl,I2,zg4 l _ _ (Nat.succ_ne_self _) (zR (Nat.lt_succ_of_lt hll)) (zR hll),⟨⟨_,he⟩,hit⟩,λb hb=>?_,q⟩;have hb':b=s1.heap.objs.size+1\/b=s1.heap.objs.size:=by simpa using hb
  rcases hb' with rfl|rfl
  .exact I1.fpOk (wH _) (I1.hok.fresh (wH _))
  .exact I1.fpOk (zA _) (I1.hok.fresh (zA _))
def Itz (K:Fg)(a b:Addr):It:=
  ⟨λi H=>∃xs ys x y,SqL K H a xs/\SqL K H b ys/\xs[i]?=some x/\ys[i]?=some y,
   λi H x H'=>∃T v u,x=.ref T/\H T=none/\H'=upd H T (.tup [v,u])/\(∀xs,SqL K H a xs->xs[i]?=some v)/\∀ys,SqL K H b ys->ys[i]?=some u,
   λi H=>∃xs ys,SqL K H a xs/\SqL K H b ys/\min xs.length ys.length=i⟩
theorem Bw {P:Program}{w:World}{K:Fg}{aL:List Expr}{kk:Nat}{tp:Pos}(a b z TI TO i1 i2:Addr)(D:ZipApart z TI TO i1 i2 a b):
  Vp P w K (.Tuple aL kk tp) (Itz K a b) [z,TI,TO,i1,i2] z (λi h=>IsZip h z TI TO .none/\IsPair h TI (.ref i1) (.ref i2)/\(∃p q,IsPair h TO p q)/\h.IsListIter i1 a i/\h.IsListIter i2 b i) where
 mem:=by simp
 obj:=λi h st c hc=>by
  obtain⟨hz,hTI,⟨p,q,hTO⟩,⟨o1,e1,c1,d1⟩,o2,e2,c2,d2⟩:=st;have hc':c=z\/c=TI\/c=TO\/c=i1\/c=i2:=by simpa using hc
  rcases hc' with rfl|rfl|rfl|rfl|rfl
  .exact⟨_,hz,λv y=>by cases y⟩
  .exact⟨_,hTI,λv y=>by cases y⟩
  .exact⟨_,hTO,λv y=>by cases y⟩
  .exact⟨o1,e1,λv y=>by rw[d1] at y;cases y⟩
  .exact⟨o2,e2,λv y=>by rw[d2] at y;cases y⟩
 keep:=λi h h' st k=>by
  obtain⟨hz,hTI,⟨p,q,hTO⟩,h1,h2⟩:=st;exact⟨k z (by simp) _ hz,k TI (by simp) _ hTI,⟨p,q,k TO (by simp) _ hTO⟩,h1.at λo x=>k i1 (by simp) o x,h2.at λo x=>k i2 (by simp) o x⟩
 item:=by
  intro X hP hw hK hc i pins s σ H E I hf st hg;subst hP hw hK;obtain⟨xs,ys,x,y,hq,hq2,hx,hy⟩:=hg;obtain⟨aX,rv,p,_⟩:=I.list hq;obtain⟨jts,rv2,p2,_⟩:=I.list hq2;obtain⟨u,hu,ru⟩:=rv.get hx;obtain⟨u2,hu2,ru2⟩:=rv2.get hy;have hi:i<min aX.toArray.size jts.toArray.size:=by
   have z1:=(zB.mp hu).1
   have z2:=(zB.mp hu2).1
   have sizes:aX.toArray.size=aX.length/\jts.toArray.size=jts.length:=⟨by simp,by simp⟩;omega
  have W:=WalksT.zip2 (prog:=X.prog) (w:=X.w) (A:=X.A) (I.ok.hd hc) z TI TO i1 i2 a b D aX.toArray jts.toArray;obtain⟨s1,s2,s3,s4,s5⟩:=st;refine W.item i s _ _ hi ⟨s1,s2,s3,s4,s5,p.isList,p2.isList⟩ λT vals h' tk hP hT ht mid k1=>?_
  obtain⟨v1,v2,hv1,hv2,rfl⟩:=hP;have e1:v1=u:=by
   have z:aX[i]?=some v1:=by simpa using hv1
   rw[hu] at z;exact(Option.some.inj z).symm
  have e2:v2=u2:=by
   have z:jts[i]?=some v2:=by simpa using hv2
   rw[hu2] at z;exact(Option.some.inj z).symm
  subst e1 e2;have sub:∀c∈[z,TO,i1,i2],c∈[z,TI,TO,i1,i2]:=λc hc=>by
   have hc':c=z\/c=TO\/c=i1\/c=i2:=by simpa using hc
   rcases hc' with rfl|rfl|rfl|rfl<;>simp
  have I1:Inv X pins σ (upd H T (.tup [x,y])) { s with heap:=h',toks:=tk }:=FG I k1 (λc hc=>hf c (sub c hc)) hT ht (.cons ru (.cons ru2 .nil)) (show 2<=sizeLine from Tg ⋯)
  have tiT:TI≠T:=λq=>by
   have hl:TI<s.heap.objs.size:=Heap.lt_size s2;rw[q] at hl;exact absurd (zW hl hT) (yX _)
  have neT:∀c∈[z,TI,TO,i1,i2],c≠T:=λc hc q=>by
   have hc':c=TI\/c∈[z,TO,i1,i2]:=by
    have hc2:c=z\/c=TI\/c=TO\/c=i1\/c=i2:=by simpa using hc
    rcases hc2 with rfl|rfl|rfl|rfl|rfl<;>simp
   rcases hc' with rfl|hc'
   .exact tiT q
   .exact W.apart i T h' mid (q ▸ hc')
  have hf1:∀c∈[z,TI,TO,i1,i2],Yk X pins (upd H T (.tup [x,y])) c:=λc hc=>⟨by rw[ZV (neT c hc)];exact(hf c hc).1,(hf c hc).2⟩
  refine⟨.ref T,rfl,W.go aL kk tp i T _ _ _ mid λh2 st2 k2=>?_⟩;have I2:Inv X pins σ (upd H T (.tup [x,y])) { s with heap:=h2,toks:=tk }:=Qt (s:={ s with heap:=h',toks:=tk }) (t':=tk) I1 k2 λc hc=>hf1 c (sub c hc)
  obtain⟨t1,t2,t3,t4,t5,_,_⟩:=st2;exact⟨.ref T,_,I2,rfl,⟨T,x,y,rfl,I.hok.fresh hT,rfl,λzs hz=>by rw[I.list_inj hz hq];exact hx,λzs hz=>by rw[I.list_inj hz hq2];exact hy⟩,⟨t1,t2,t3,t4,t5⟩,λc hc=>(hf1 c hc).1⟩
 done:=by
  intro X hP hw hK hc i pins s σ H E I hf st hg;subst hP hw hK;obtain⟨xs,ys,hq,hq2,hx⟩:=hg;obtain⟨aX,rv,p,_⟩:=I.list hq;obtain⟨jts,rv2,p2,_⟩:=I.list hq2;have W:=WalksT.zip2 (prog:=X.prog) (w:=X.w) (A:=X.A) (I.ok.hd hc) z TI TO i1 i2 a b D aX.toArray jts.toArray
  have hi:i=min aX.toArray.size jts.toArray.size:=by rw[zU,zU,<- rv.length,<- rv2.length];exact hx.symm
  subst hi;have sub:∀c∈[z,TO,i1,i2],c∈[z,TI,TO,i1,i2]:=λc hc=>by
   have hc':c=z\/c=TO\/c=i1\/c=i2:=by simpa using hc
   rcases hc' with rfl|rfl|rfl|rfl<;>simp
  obtain⟨s1,s2,s3,s4,s5⟩:=st;exact W.done s _ _ ⟨s1,s2,s3,s4,s5,p.isList,p2.isList⟩ λh' tk k1=>⟨rfl,Qt (t':=tk) I k1 λc hc=>hf c (sub c hc)⟩
 self:=λA i s Q E st h=>wpAny_pyIter_zip st.1 h
theorem zgn {n l m:Nat}(h1:l<n)(h2:m<n):ZipApart (n+4) (n+2) (n+3) n (n+1) l m:=by
 have ne:∀ {i j:Nat},i<j\/j<i->i≠j:=λ{i j} h z=>by omega
 exact⟨ne (by omega),ne (by omega),ne (by omega),ne (by omega),ne (by omega),ne (by omega),ne (by omega),ne (by omega),ne (by omega),ne (by omega),ne (by omega),ne (by omega),ne (by omega),ne (by omega),ne (by omega),ne (by omega),ne (by omega),ne (by omega)⟩
def iZip (K:Fg)(ta:TA):TI:=λσ H R=>ta σ H λvs H1=>∃a b,vs=[.ref a,.ref b]/\(∃xs,SqL K H1 a xs)/\(∃ys,SqL K H1 b ys)/\R (Itz K a b) H1
theorem MC {a b:Expr}{ta:TA}{p pos tp:Pos}{aL:List Expr}{kk:Nat}(hg:Gl X "zip")(hm:X.mg "zip"=none)(hv:bootBuiltins "zip"=some (.type "zip"))(ha:PA X [a,b] ta)
  (hs:starEach [a,b] X.env=[(false,eval a X.env),(false,eval b X.env)]:=by rfl)(hs2:starEach [b] X.env=[(false,eval b X.env)]:=by rfl):PI X (.Tuple aL kk tp) (.Call (.Name "zip" p) [a,b] [] pos) (iZip X.K ta):=by
 intro pins s σ H R I h;refine Call_ (Vg I hg hm hv (PyProof.Rows.callWith_type1 (thn (ha pos pins s σ H _ I h) λus s1 ⟨vs,H1,I1,r1,q1⟩=>?_) (by rw[hs,hs2]) (by rw[hs2];rfl)));obtain⟨l,m,e,⟨xs,hq⟩,⟨ys,hq2⟩,q⟩:=q1;subst e;cases r1 with
 | cons r rr=>
  cases rr with
  | cons r2 rr=>
   cases rr;cases r;cases r2;obtain⟨aX,rv,pl,_⟩:=I1.list hq;obtain⟨jts,rv2,pl2,_⟩:=I1.list hq2;have h1:l<s1.heap.objs.size:=by
    obtain⟨o,e,_⟩:=pl.isList;exact Heap.lt_size e
   have h2:m<s1.heap.objs.size:=by
    obtain⟨o,e,_⟩:=pl2.isList;exact Heap.lt_size e
   refine call_zip_2 pl.isList pl2.isList λh' hz hTI hTO hi1 hi2 hsz hk=>?_
   have I2:Inv X pins σ H1 { s1 with heap:=h' }:=I1.kept (t':=s1.toks) hk
   have D:=zgn h1 h2;refine wpAny_pyIter_zip hz ⟨s1.heap.objs.size+4,[s1.heap.objs.size+4,s1.heap.objs.size+2,s1.heap.objs.size+3,s1.heap.objs.size,s1.heap.objs.size+1],_,_,H1,rfl,I2,Bw l m _ _ _ _ _ D,⟨hz,hTI,⟨_,_,hTO⟩,hi1,hi2⟩,λc hc=>?_,q⟩;have hge:s1.heap.objs.size<=c:=by
    have hc':c=s1.heap.objs.size+4\/c=s1.heap.objs.size+2\/c=s1.heap.objs.size+3\/c=s1.heap.objs.size\/c=s1.heap.objs.size+1:=by simpa using hc
    rcases hc' with rfl|rfl|rfl|rfl|rfl
    .exact vK _ _
    .exact vK _ _
    .exact vK _ _
    .exact zA _
    .exact vK _ _
   exact I1.fpOk hge (I1.hok.fresh hge)
section
variable {X:Cx}{Z:Zx}{pos:Pos}
@[irreducible] def Qc (is:List Nat)(ta:TDA)(tb:TDS):TDS:=λE dl S=>ta dl S λds S1=>match ds with
 | [.ref n]=>(lAt S1 n).isSome=true/\∃W:Nat->Nat->Ev->Sto->Prop,(∃m,W 0 m dl S1)/\∀k m dl S,W k m dl S->match lAt S n with
  | some o=>match (Zk o)[k]? with
   | some x=>tb { nx:=λdl' S'=>∃m',m'<m/\W (k+1) m' dl' S',rt:=E.rt,bk:=E.nx,ct:=λdl' S'=>∃m',m'<m/\W (k+1) m' dl' S' } (WS is [.int (k:Int),x] dl) S
   | none=>k=(Zk o).length/\E.nx dl S
  | none=>False
 | _=>False
theorem Xx {r r':List Addr}{S':Sto}{H':Hp}{n:Nat}{a:Addr}{o:Ob}(hn:r'[n]?=some a)(aZ:ZY X.K r' S' H')(eo:lAt S' n=some o):∃xs,SqL X.K H' a xs/\Rps r' H' (Zk o) xs:=by
 obtain⟨eo,eL⟩:=Yy eo;obtain⟨a',ha,ob⟩:=aZ.at eo;rw[hn] at ha;cases ha
 exact ob.list eL
theorem Pn {aU:Expr}{body:List Stmt}{es:List Expr}{kk:Nat}{tp p aK:Pos}{is:List Nat}{ta:TDA}{tb:TDS}(hp:PassesOwn (mX X) X.A X.env X.xe)(hc:X.calm=true)(hN:X.N.Nodup)(hn:Nms X es is)(h2:is.length=2)
  (hg:Gl X "enumerate")(hm:X.mg "enumerate"=none)(hv:bootBuiltins "enumerate"=some (.type "enumerate"))(ha:PDA X Z [aU] ta)(hb:YL X Z body tb)
  (aM:(assignEach es X.env).length=is.length:=by rfl)(hst:(assignEach es X.env).findIdx? (·.1)=none:=by rfl)(hse:starEach [aU] X.env=[(false,eval aU X.env)]:=by rfl)
  (hs:∀y,foldedSetIterable (.Call (.Name "enumerate" p) [aU] [] aK) X.env y=pure y:=by intro _;rfl):PDS X Z (.For (.Tuple es kk tp) (.Call (.Name "enumerate" p) [aU] [] aK) body [] pos) (Qc is ta tb):=
 Yv (Tf hp hc (MG hg hm hv ha hse) (Vq hc (Ve hN hn) aM hst) hb hs) λF σ H ⟨r,dl,S,E,rs,aZ,h,ret⟩=>by
  unfold Qc at h;refine⟨r,dl,S,_,rs,aZ,h,λvs H1 r1 ds S1 x1 aB p1 q1=>?_⟩;split at q1
  .rename_i n;obtain⟨v,vs',rfl,p2,p3⟩:=p1.uncons;have z:=p3.unnil;subst z;cases p2 with
   | @ref n a hr=>
    obtain⟨aQ,W,⟨m0,w0⟩,turn⟩:=q1;obtain⟨o1,eo1⟩:=yY.mp aQ;obtain⟨xs1,sq1,_⟩:=Xx (r:=r1) hr aB.b eo1;refine⟨a,rfl,⟨xs1,sq1⟩,US x1 rs aB ret W w0 λk m r2 dl2 S2 σ2 H2 x2 rs2 aC w2=>?_⟩;have q:=turn k m dl2 S2 w2;split at q
    .rename_i o eo;obtain⟨xs,sq,pr⟩:=Xx (r:=r2) (x2.adr _ _ hr) aC.b eo;split at q
     .rename_i y ey;obtain⟨v,hvv,pv⟩:=pr.get ey;refine .inr ⟨⟨xs,v,sq,hvv⟩,_,λ_ _ z=>z,λv' H' y' K hK=>?_⟩;obtain⟨T,w,rfl,hT,rfl,hw⟩:=y';cases (hw xs sq).symm.trans hvv;have x3:=O2 (r:=r2) (o:=.tup [.int (k:Int),v]) hT;exact⟨T,[.int (k:Int),v],rfl,SqT.of YN,by rw[h2];rfl,by rw[h2];rfl,hK _ _ _ x3 (Pf (rs2.ext x3) (Rps.cons (.int _) (Rps.cons (pv.ext x3) Rps.nil))) (aC.same (XB (o:=.tup [.int (k:Int),v]) hT)) q⟩
     .obtain⟨hk,q⟩:=q;exact .inl ⟨⟨xs,sq,by rw[<- pr.1];exact hk.symm⟩,q⟩
    .exact q.elim
  .exact q1.elim
@[irreducible] def Pw (is:List Nat)(ta:TDA)(tb:TDS):TDS:=λE dl S=>ta dl S λds S1=>match ds with
 | [.ref n,.ref n']=>((lAt S1 n).isSome=true/\(lAt S1 n').isSome=true)/\∃W:Nat->Nat->Ev->Sto->Prop,(∃m,W 0 m dl S1)/\∀k m dl S,W k m dl S->match lAt S n,lAt S n' with
  | some o,some o'=>match (Zk o)[k]?,(Zk o')[k]? with
   | some x,some y=>tb { nx:=λdl' S'=>∃m',m'<m/\W (k+1) m' dl' S',rt:=E.rt,bk:=E.nx,ct:=λdl' S'=>∃m',m'<m/\W (k+1) m' dl' S' } (WS is [x,y] dl) S
   | _,_=>k=min (Zk o).length (Zk o').length/\E.nx dl S
  | _,_=>False
 | _=>False
theorem zhQ {i1 i2:Expr}{body:List Stmt}{es:List Expr}{kk:Nat}{tp p aK:Pos}{is:List Nat}{ta:TDA}{tb:TDS}(hp:PassesOwn (mX X) X.A X.env X.xe)(hc:X.calm=true)(hN:X.N.Nodup)(hn:Nms X es is)(h2:is.length=2)
  (hg:Gl X "zip")(hm:X.mg "zip"=none)(hv:bootBuiltins "zip"=some (.type "zip"))(ha:PDA X Z [i1,i2] ta)(hb:YL X Z body tb)
  (aM:(assignEach es X.env).length=is.length:=by rfl)(hst:(assignEach es X.env).findIdx? (·.1)=none:=by rfl)(hse:starEach [i1,i2] X.env=[(false,eval i1 X.env),(false,eval i2 X.env)]:=by rfl)(hse2:starEach [i2] X.env=[(false,eval i2 X.env)]:=by rfl)
  (hs:∀y,foldedSetIterable (.Call (.Name "zip" p) [i1,i2] [] aK) X.env y=pure y:=by intro _;rfl):PDS X Z (.For (.Tuple es kk tp) (.Call (.Name "zip" p) [i1,i2] [] aK) body [] pos) (Pw is ta tb):=
 Yv (Tf hp hc (MC hg hm hv ha hse hse2) (Vq hc (Ve hN hn) aM hst) hb hs) λF σ H ⟨r,dl,S,E,rs,aZ,h,ret⟩=>by
  unfold Pw at h;refine⟨r,dl,S,_,rs,aZ,h,λvs H1 r1 ds S1 x1 aB p1 q1=>?_⟩;split at q1
  .rename_i n n';obtain⟨v,vs',rfl,p2,p3⟩:=p1.uncons;obtain⟨v',vs2,rfl,p4,p5⟩:=p3.uncons;have z:=p5.unnil;subst z;cases p2 with
   | @ref n a hr=>
    cases p4 with
    | @ref n' a' hr'=>
     obtain⟨⟨aQ,hsome'⟩,W,⟨m0,w0⟩,turn⟩:=q1;obtain⟨o1,eo1⟩:=yY.mp aQ;obtain⟨o2,eo2⟩:=yY.mp hsome';obtain⟨xs1,sq1,_⟩:=Xx (r:=r1) hr aB.b eo1;obtain⟨ys1,sq2,_⟩:=Xx (r:=r1) hr' aB.b eo2;refine⟨a,a',rfl,⟨xs1,sq1⟩,⟨ys1,sq2⟩,US x1 rs aB ret W w0 λk m r2 dl2 S2 σ2 H2 x2 rs2 aC w2=>?_⟩;have q:=turn k m dl2 S2 w2;split at q
     .rename_i o o' eo eo';obtain⟨xs,sq,pr⟩:=Xx (r:=r2) (x2.adr _ _ hr) aC.b eo;obtain⟨ys,sq',pr'⟩:=Xx (r:=r2) (x2.adr _ _ hr') aC.b eo';split at q
      .rename_i y y2 ey ey2;obtain⟨v,hvv,pv⟩:=pr.get ey;obtain⟨u,hvu,pu⟩:=pr'.get ey2;refine .inr ⟨⟨xs,ys,v,u,sq,sq',hvv,hvu⟩,_,λ_ _ z=>z,λv' H' y' K hK=>?_⟩;obtain⟨T,w,w2',rfl,hT,rfl,hw,hw2⟩:=y';cases (hw xs sq).symm.trans hvv;cases (hw2 ys sq').symm.trans hvu;have x3:=O2 (r:=r2) (o:=.tup [v,u]) hT;exact⟨T,[v,u],rfl,SqT.of YN,by rw[h2];rfl,by rw[h2];rfl,hK _ _ _ x3 (Pf (rs2.ext x3) (Rps.cons (pv.ext x3) (Rps.cons (pu.ext x3) Rps.nil))) (aC.same (XB (o:=.tup [v,u]) hT)) q⟩
      .obtain⟨hk,q⟩:=q;exact .inl ⟨⟨xs,ys,sq,sq',by rw[<- pr.1,<- pr'.1];exact hk.symm⟩,q⟩
     .exact q.elim
  .exact q1.elim
end
section
variable {X:Cx}{Z:Zx}{pos:Pos}
end
structure Dm (K:Fg)(C:Addr)(m qual:Str)(st:Stmt)(ps:List Str) where
 f:Addr
 fd:FuncData
 F:Fun K m qual st f fd
 m:Vl K C m f
 b:YD K fd ps []
structure Fm (P:Program)(w:World)(K:Fg)(mg:Str->Option Value)(base:Heap)(k:Nat)(C:Addr)(x:Str)(ps:List Str)(sd:Sd) where
 f:Addr
 fd:FuncData
 ok:Yi P w K mg base (CXE P w) k f fd ps (upF K sd)
 m:Vl K C x f
 b:YD K fd ps []
def Dm.mk' {P:Program}{w:World}{K:Fg}{mg:Str->Option Value}{base:Heap}{k:Nat}{C:Addr}{x qual:Str}{st:Stmt}{ps:List Str}{sd:Sd}(d:Dm K C x qual st ps)(h:Yi P w K mg base (CXE P w) k d.f d.fd ps (upF K sd)):Fm P w K mg base k C x ps sd:=
 ⟨d.f,d.fd,h,d.m,d.b⟩
theorem Vu:O7 (CXE P w) X (λ_ _ _=>False):=λ_ _ _ _ _ _ _ h=>by
 obtain⟨_,_,_,_,_,_,_,_,_,_,_,_,q⟩:=h;exact q.elim
section
variable {X:Cx}{Z:Zx}
theorem zba (hr:ZF k X.A):OpR X (compareOp .In) (upO X.K Z (Yq (wIn 1 false))):=by rw[YX];exact ER 1 (by have:=hr.un;omega)
theorem Dk (hr:ZF k X.A):OpR X (compareOp .NotIn) (upO X.K Z (Yq (wIn 1 true))):=by rw[YX];exact AY 1 (by have:=hr.un;omega)
theorem zef (hr:ZF k X.A):OpR X (compareOp .Eq) (upO X.K Z (Yq (V2 1))):=by rw[YX];exact zaE 1 hr (by have:=hr.un;omega)
end
def SJ:W2:=λx y S Q=>match x,y with
 | .ref n,.ref m=>match S[n]?,S[m]? with
  | some (.lst xs),some (.lst ys)=>xs.length+ys.length<=1000/\Q (.ref S.length) (S++[.lst (xs++ys)])
  | _,_=>False
 | _,_=>False
theorem Rps.app {r:List Addr}{H:Hp}:∀ {ds es:List D} {xs ys:List V},Rps r H ds xs->Rps r H es ys->Rps r H (ds++es) (xs++ys)
 | [],es,xs,ys,p,q=>by
  have z:=p.unnil;subst z;exact q
 | d::ds,es,xs,ys,p,q=>by
  obtain⟨v,vs,rfl,p1,p2⟩:=p.uncons;exact Rps.cons p1 (p2.app q)
theorem QC:OpR X (binaryOp .Add) (upO X.K Z (Yq SJ)):=by
 rw[YX];exact VG zfE λx y H Qv ⟨r,S,dx,dy,Q,aZ,px,py,q,ret⟩=>by
  unfold SJ at q;split at q
  .rename_i n m;split at q
   .rename_i xs ys e1 e2;obtain⟨hl,q⟩:=q;cases px with
    | @ref _ a hn=>
     cases py with
     | @ref _ a' hm=>
      obtain⟨z,hz,ob⟩:=aZ.at e1;rw[hn] at hz;cases hz
      obtain⟨z,hz,ob'⟩:=aZ.at e2;rw[hm] at hz;cases hz
      obtain⟨us,h1,p1⟩:=ob;obtain⟨vs,h2,p2⟩:=ob';refine⟨a,a',us,vs,rfl,rfl,h1,h2,?_,λp hp=>?_⟩
      .rw[<- p1.1,<- p2.1];exact Tg hl
      .obtain⟨aF,x⟩:=aZ.push hp (p1.app p2);exact ret _ _ _ (.ref S.length) _ x aF (Vy aZ.len) q
   .exact q.elim
  .exact q.elim
theorem QD (h1:S[n]?=some (.lst xs))(h2:S[m]?=some (.lst ys))(hl:xs.length+ys.length<=1000)(hq:Q (.ref S.length) (S++[.lst (xs++ys)])):Yq SJ (.ref n) (.ref m) S Q:=by
 rw[YX];unfold SJ;simp only[h1,h2];exact⟨hl,hq⟩
def MT (X:Cx)(m:Str)(tbl:List (Addr×Sd)):Prop:=∀C sd,(C,sd)∈tbl->Cls X.K C/\∃(f:Addr)(fd:FuncData)(k:Nat)(ps:List Str),Vl X.K C m f/\Yi X.prog X.w X.K X.mg X.base (CXE X.prog X.w) k f fd ps (upF X.K sd)/\ZF k X.A/\YD X.K fd ps []
theorem N4:MT X m []:=λ_ _ h=>by cases h
theorem YI (c:Cls X.K C)(G:Fm X.prog X.w X.K X.mg X.base k C m ps sd)(hr:ZF k X.A)(h:MT X m tbl):MT X m ((C,sd)::tbl):=λC' sd' hm=>by
 rcases zS.mp hm with e|e
 .cases e;exact⟨c,G.f,G.fd,k,ps,G.m,G.ok,hr,G.b⟩
 .exact h C' sd' e
theorem zgP (he:PE X o ta)(M:MT X m tbl)(hx:XH X W)(ha:PA X (e::es) t)(hst:starEach (e::es) X.env=(false,eval e X.env)::starEach es X.env)(hpl:Hp1 X pos es)(ht:eval (.Call (.Attribute o m aJ) (e::es) [] pos) X.env=(do
   let ov <- eval o X.env
   standAt aJ.atName
   let (f,first) <- holding [ov] (getMethod ov m pl)
   callWith pos f first (backTo pos (starEach (e::es) X.env)) (backToKw pos (keywordEach [] X.env)))):
  PE X (.Call (.Attribute o m aJ) (e::es) [] pos) (λσ H Q=>ta σ H λx H1=>∃a C dx fs sd,x=.ref a/\H1 a=some (.ins C dx fs)/\(C,sd)∈tbl/\fs.lookup m=none/\t σ H1 λvs H2=>upF X.K sd (x::vs) H2 Q (W σ)):=by
 intro pins s σ H Q I h;refine PySem.W.methodCall_KW (pl:=pl) (thn (he pins s σ H _ I h) λu s1 ⟨x,H1,I1,rx,a,C,dx,fs,sd,ex,ea,hm',l,q⟩=>?_) ht;subst ex;obtain rfl:u=Value.ref a:=rx;obtain⟨c,f,fd,k,ps,hm,F,hr,hb⟩:=M C sd hm';refine Kz I1 ea c hm l ?_;exact PySem.W.callWith_K (first:=[.ref a]) (h₀:=X.base) I.ok.mod.kin hm.kp (thn (ha pos pins s1 σ H1 _ I1 q) λus s2 ⟨vs,H2,I2,r,q2⟩=>⟨I2.kIn,PJ (us:=.ref a::us) (vs:=.ref a::vs) F hr hb hx I2 (.cons rfl r) q2⟩) hst hpl
@[irreducible] def Ov (tbl:List (Addr×Sd))(m:Str)(ex:Ev->Addr->Sto->Prop)(to:TDE)(t:TDA):TDE:=λdl S Q=>to dl S λd S1=>∃n C fs sd,d=.ref n/\S1[n]?=some (.ins C fs)/\(C,sd)∈tbl/\fs.lookup m=none/\t dl S1 λds S2=>sd (d::ds) S2 Q (ex dl)
theorem L8 (ho:PD X ⟨ex,W⟩ o to)(M:MT X m tbl)(hx:XH X W)(ha:PDA X ⟨ex,W⟩ (e::es) t)(hst:starEach (e::es) X.env=(false,eval e X.env)::starEach es X.env:=by rfl)(hpl:Hp1 X pos es:=by rfl)(ht:eval (.Call (.Attribute o m aJ) (e::es) [] pos) X.env=(do
   let ov <- eval o X.env
   standAt aJ.atName
   let (f,first) <- holding [ov] (getMethod ov m pl)
   callWith pos f first (backTo pos (starEach (e::es) X.env)) (backToKw pos (keywordEach [] X.env))):=by rfl):PD X ⟨ex,W⟩ (.Call (.Attribute o m aJ) (e::es) [] pos) (Ov tbl m ex to t):=
 Yc (zgP ho M hx ha hst hpl ht) λσ H Qv ⟨r,dl,S,Q,rs,aZ,h,ret⟩=>by
  unfold Ov at h;refine⟨r,dl,S,_,rs,aZ,h,λv H1 r1 d S1 e1 aB p1 q1=>?_⟩;obtain⟨n,C,fs,sd,rfl,eS,hm,hl,q1⟩:=q1;obtain⟨a,dx,fs',rfl,hr1,eH,fr⟩:=Kb (C:=C) (n:=n) (fs:=fs) aB.b p1 (by simp only[X4,eS,if_pos]);exact⟨a,C,dx,fs',sd,rfl,eH,hm,fr.lookup.2 hl,r1,dl,S1,_,rs.ext e1,aB,q1,λvs H2 r2 ds S2 e2 aC p2 q2=>Ot (Z:=⟨ex,W⟩) (rs.ext (e1.trans e2)) aC (Rps.cons (p1.ext e2) p2) q2 (ret.ext (e1.trans e2))⟩
theorem MW {tbl:List (Addr×Sd)}{C:Addr}{m:Str}{ex:Ev->Addr->Sto->Prop}{sd:Sd}{to:TDE}{t:TDA}{dl:Ev}{S S1:Sto}{Q:DK}{n:Nat}{fs:List (Str×D)}(hto:∀K:DK,K (.ref n) S1->to dl S K)(h:S1[n]?=some (.ins C fs))(hm:(C,sd)∈tbl)(hf:fs.lookup m=none)(hq:t dl S1 λds S2=>sd (.ref n::ds) S2 Q (ex dl)):Ov tbl m ex to t dl S Q:=by
 unfold Ov;exact hto _ ⟨n,C,fs,sd,rfl,h,hm,hf,hq⟩
structure Kx (K:Fg)(C:Addr):Prop where
 cl:Cls K C
 ha:W.findIn K (.ref C) "__class__"=some (some (.builtin "object.__class__"))
 hn:W.specialIn K (.builtin "object.__class__") "__get__"=some (some (.builtin "getset_descriptor.__get__"))
 ht:W.takesIn K (.builtin "object.__class__")=some true
 hm:W.mroIn K C (.type "object")=some true
section
variable {X:Cx}{Z:Zx}
end
section
variable {n:Nat}{I:Addr}{fp wr:List Addr}{P:Nat->Value->Prop}{St:Nat->Shared->Prop}{prog:Program}{w:World}{A:Around}{s:Shared}{E:Value->Shared->Prop}{G:Array GenState->Array GenState->Prop}
end
section
variable {X:Cx}{Z:Zx}
end
def Nb (k:Nat)(caps:List Nat)(wi:TI)(gt:TG)(te:TE):TE:=λσ H Q=>wi σ H λJ H1=>∀D,H1 D=none->∃W:Nat->Nat->Hp->Prop,(∃m,W 0 m (upd H1 D (.lst [])))/\∀i m H,W i m H->
 (J.stop i H/\Q (.ref D) H)\/(J.go i H/\∀x H',J.yld i H x H'->∀o:St,o.length=k->gt x (o++Yh caps σ) H' λσ8 H8=>(∃o8:St,o8.length=k/\σ8=o8++Yh caps σ)/\
  te σ8 H8 λy H3=>∃ys,H3 D=some (.lst ys)/\ys.length<sizeLine/\∃m',m'<m/\W (i+1) m' (upd H3 D (.lst (ys++[y]))))
section
variable {X:Cx}{pins:LA}{σ:St}{H:Hp}{s:Shared}
end
theorem FD (hc:X.calm=true)(cs:Xw sc X.env.scope own N)(hN:∀(j:Nat)(y:Str),N[j]?=some y->∃i,caps[j]?=some i/\X.N[i]?=some y)(aM:caps.length=N.length)(hi:PI X (.Tuple aL kk tp) aU wi)(hg:∀cl C s0 H0 fp pn,PG (Cx.comp X sc (own++N) cl C s0 H0 fp pn) (.Tuple aL kk tp) gt)(he:∀cl C s0 H0 fp pn,PE (Cx.comp X sc (own++N) cl C s0 H0 fp pn) aW te)(hs:∀y,foldedSetIterable aU X.env y=pure y)(I:Inv X pins σ H s)(h:Nb own.length caps wi gt te σ H Q)(aY:∀D C s',SH X pins σ C Q D s'->compPost (mX X) X.A X.xe use Qr (.ref D) C (.ok .next) s'):
  wpAny (mX X) X.A (comprehension (.ListComp aW [⟨.Tuple aL kk tp,aU,[],0⟩] sc pos) sc X.env p2 (newList []) false (eval aU X.env) use) Qr X.xe s:=
 Jf (tc:=λ_ H K=>K true H) hc cs hN aM hi hg he (λ_ _ _ _ _ _=>J0) hs I h (λ_ _ b=>b) aY
theorem A6 (hc:X.calm=true)(cs:Xw sc X.env.scope own N)(hN:Hn X caps N)
  (hi:PI X (.Tuple aL kk tp) aU wi)(hg:∀cl C s0 H0 fp pn,PG (Cx.comp X sc (own++N) cl C s0 H0 fp pn) (.Tuple aL kk tp) gt)(he:∀cl C s0 H0 fp pn,PE (Cx.comp X sc (own++N) cl C s0 H0 fp pn) aW te)
  (hs:∀y,foldedSetIterable aU X.env y=pure y:=by intro _;rfl):PE X (.ListComp aW [⟨.Tuple aL kk tp,aU,[],0⟩] sc pos) (Nb own.length caps wi gt te):=by
 intro pins s σ H Q I h;rw[eval_ListComp];refine FD (use:=none) hc cs (Xj hN).1 (Xj hN).2 hi hg he hs I h λD C s' f=>?_
 obtain⟨⟨H',I',q,hC⟩,⟨m,ns⟩,l,o,c,p⟩:=f;exact⟨m,ns,λh' sb=>⟨.ref D,H',I'.turned (t':=s'.toks) (λb ob hb e=>(sb.2 b hb).trans e) hC l (.inr o) c p,rfl,q⟩⟩
section
variable {X:Cx}{Z:Zx}{aW:Expr}{pos:Pos}{sc ar:Scope}{N:List Str}{caps:List Nat}
def Hx (caps:List Nat)(te:TDE)(k:Nat)(dl:Ev)(d1 d2:D)(S:Sto)(nx:Sto->Prop):Prop:=
 te (some d1::some d2::Z8 caps dl) S λy S2=>match S2[k]? with
  | some (.lst ys)=>ys.length<1000/\nx (S2.set k (.lst (ys++[y])))
  | _=>False
theorem JM {r:List Addr}{H:Hp}{dl:Ev}{σ:St}{d1 d2:D}{v1 v2:V}(h:Rs r H dl σ)(p1:Rp r H d1 v1)(p2:Rp r H d2 v2):Rs r H (some d1::some d2::Z8 caps dl) (some v1::some v2::Yh caps σ):=by
 have z:=K8 (caps:=caps) h p2;refine⟨by have:=z.1;simp only[zX] at this ⊢;omega,λi e hi=>?_⟩;cases i with
 | zero=>simp at hi;subst hi;exact⟨v1,rfl,p1⟩
 | succ i=>exact z.2 i e (by simpa using hi)
end
def R4:WC:=λds S Q=>match ds with
 | [.ref n]=>match lAt S n with
  | some o=>match YQ (Zk o) with
   | some ns=>Q (.int ns.sum) S
   | none=>False
  | none=>False
 | _=>False
theorem Pd (hc:X.calm=true):Yl X (.builtin "sum") (upC X.K Z R4):=by
 intro pins s σ H xs us Qv I rv h;obtain⟨r,S,ds,Q,aZ,ps,q,ret⟩:=h;unfold R4 at q;split at q
 .rename_i n;obtain⟨v,vs,rfl,p1,p2⟩:=ps.uncons;have z:=p2.unnil;subst z;split at q
  .rename_i o eo;split at q
   .rename_i ns en;cases p1 with
    | ref h1=>
     obtain⟨eo,eL⟩:=Yy eo;obtain⟨a,ha,ob⟩:=aZ.at eo;rw[h1] at ha;cases ha
     obtain⟨ys,sq,pr⟩:=ob.list eL;obtain⟨u,rfl,ru⟩:=XC rv;cases ru;obtain⟨aX,ri,pl,hz⟩:=I.list sq;obtain⟨zs,hz1,hz2⟩:=Jq en pr ri;have isl:=pl.isList;rw[hz1] at isl;refine sum_intListG (I.ok.hd hc) isl λh' tk t' hk=>?_
     have e:preSum (numAt zs.toArray) zs.toArray.size=ns.sum:=by
      rw[preSum_eq,yH (by simp)];show (zs.map (·.1)).sum=ns.sum;rw[hz2]
     rw[e];exact⟨.int _,H,I.kept hk,⟨_,rfl⟩,ret _ _ _ _ _ Ext.refl aZ (.int _) q⟩
   .exact q.elim
  .exact q.elim
 .exact q.elim
section
variable {X:Cx}{Z:Zx}
end
theorem QY:∀ {us:List Value} {ms:List Int},IntsAre us ms->Zv (ms.map V.int) us
 | _,_,.nil=>.nil
 | _,_,.cons n t h=>.cons ⟨t,rfl⟩ (QY h)
def PY:W2:=λx y S Q=>match x,y with
 | .ref n,.int k=>match S[n]? with
  | some (.lst xs)=>(0<=k/\k<=1000/\xs.length*k.toNat<=1000)/\Q (.ref S.length) (S++[.lst (List.replicate k.toNat xs).flatten])
  | _=>False
 | _,_=>False
theorem Rps.rep {r:List Addr}{H:Hp}{ds:List D}{xs:List V}(h:Rps r H ds xs):∀k:Nat,Rps r H (List.replicate k ds).flatten (List.replicate k xs).flatten
 | 0=>Rps.nil
 | k+1=>by
  simp only[xT,wA];exact h.app (Rps.rep h k)
theorem zds:OpR X (binaryOp .Mult) (upO X.K Z (Yq PY)):=by
 rw[YX];exact VG zgK λx y H Qv ⟨r,S,dx,dy,Q,aZ,px,py,q,ret⟩=>by
  unfold PY at q;split at q
  .rename_i n k;split at q
   .rename_i xs e1;obtain⟨⟨h0,h1,hl⟩,q⟩:=q;cases py;cases px with
    | @ref _ a hn=>
     obtain⟨z,hz,ob⟩:=aZ.at e1;rw[hn] at hz;cases hz
     obtain⟨us,g1,p1⟩:=ob;refine⟨a,k,us,rfl,rfl,g1,by omega,by omega,by rw[<- p1.1];exact Tg hl,λp hp=>?_⟩;obtain⟨aF,x⟩:=aZ.push hp (p1.rep k.toNat);exact ret _ _ _ (.ref S.length) _ x aF (Vy aZ.len) q
   .exact q.elim
  .exact q.elim
theorem zay (h1:S[n]?=some (.lst xs))(hk:0<=k/\k<=1000)(hl:xs.length*k.toNat<=1000)(hq:Q (.ref S.length) (S++[.lst (List.replicate k.toNat xs).flatten])):Yq PY (.ref n) (.int k) S Q:=by
 rw[YX];unfold PY;simp only[h1];exact⟨⟨hk.1,hk.2,hl⟩,hq⟩
section
variable {X:Cx}{Z:Zx}{aW:Expr}{pos:Pos}{sc ar:Scope}{N:List Str}{caps:List Nat}
@[irreducible] def TQ (caps:List Nat)(ta:TDA)(te:TDE):TDE:=λdl S Q=>ta dl S λds S1=>match ds with
 | [.ref n,.ref n']=>((lAt S1 n).isSome=true/\(lAt S1 n').isSome=true)/\∃W:Nat->Nat->Sto->Prop,(∃m,W 0 m (S1++[.lst []]))/\∀k m S2,W k m S2->match lAt S2 n,lAt S2 n' with
  | some o,some o'=>match (Zk o)[k]?,(Zk o')[k]? with
   | some x,some y=>Hx caps te S1.length dl x y S2 λS3=>∃m',m'<m/\W (k+1) m' S3
   | _,_=>k=min (Zk o).length (Zk o').length/\Q (.ref S1.length) S2
  | _,_=>False
 | _=>False
theorem Dp (h:up X.K Z (TQ caps ta te) σ H Qv):
  Nb 2 caps (iZip X.K (upA X.K Z ta)) (Vx X.K 2 (VB [0,1])) (up X.K Z0 te) σ H Qv:=by
 obtain⟨r,dl,S,Q,rs,aZ,h,ret⟩:=h;unfold TQ at h;refine⟨r,dl,S,_,rs,aZ,h,λvs H1 r1 ds S1 x1 aB p1 q1=>?_⟩;split at q1
 .rename_i n n';obtain⟨v,vs',rfl,p2,p3⟩:=p1.uncons;obtain⟨v',vs2,rfl,p4,p5⟩:=p3.uncons;have z:=p5.unnil;subst z;cases p2 with
  | @ref n a hr=>
   cases p4 with
   | @ref n' a' hr'=>
    obtain⟨⟨aQ,hsome'⟩,W,⟨m0,w0⟩,turn⟩:=q1;obtain⟨o1,eo1⟩:=yY.mp aQ;obtain⟨o2,eo2⟩:=yY.mp hsome';obtain⟨xs1,sq1,_⟩:=Xx (r:=r1) hr aB.b eo1;obtain⟨ys1,sq2,_⟩:=Xx (r:=r1) hr' aB.b eo2;refine⟨a,a',rfl,⟨xs1,sq1⟩,⟨ys1,sq2⟩,λD0 hD=>?_⟩;obtain⟨aC,x2⟩:=aB.b.push (ds:=[]) (xs:=[]) hD Rps.nil;refine⟨λk m H'=>∃r' S',Ext (r1++[D0]) r' (upd H1 D0 (.lst [])) H'/\ZY X.K r' S' H'/\W k m S',⟨m0,_,_,Ext.refl,aC,w0⟩,?_⟩;rintro k m H2 ⟨r2,S2,x3,rb2,w2⟩;have ha2:r2[S1.length]?=some D0:=x3.adr _ _ (Rr aB.len)
    have hr2:r2[n]?=some a:=(x2.trans x3).adr _ _ hr
    have hr2':r2[n']?=some a':=(x2.trans x3).adr _ _ hr'
    have q:=turn k m S2 w2;split at q
    .rename_i o o' eo eo';obtain⟨xs,sq,pr⟩:=Xx (r:=r2) hr2 rb2 eo;obtain⟨ys,sq',pr'⟩:=Xx (r:=r2) hr2' rb2 eo';split at q
     .rename_i y y2 ey ey2;obtain⟨v,hv,pv⟩:=pr.get ey;obtain⟨u,hvu,pu⟩:=pr'.get ey2;refine .inr ⟨⟨xs,ys,v,u,sq,sq',hv,hvu⟩,λv' H' y' o8 ho8=>?_⟩;obtain⟨T,w,w2',rfl,hT,rfl,hw,hw2⟩:=y';have ew:w=v:=by
       have z:=hw xs sq;rw[hv] at z;exact(Option.some.inj z).symm
      have ew2:w2'=u:=by
       have z:=hw2 ys sq';rw[hvu] at z;exact(Option.some.inj z).symm
      subst ew ew2;obtain⟨c1,c2,rfl⟩:∃c1 c2,o8=[c1,c2]:=by
       match o8,ho8 with
       | [c1,c2],_=>exact⟨c1,c2,rfl⟩
      have x4:Ext r2 r2 H2 (upd H2 T (.tup [w,w2'])):=O2 hT
      have rb3:=rb2.same (XB (o:=.tup [w,w2']) hT)
      have rs3:=rs.ext (x1.trans (x2.trans (x3.trans x4)));refine⟨T,[w,w2'],rfl,SqT.of YN,rfl,rfl,⟨[some w,some w2'],rfl,rfl⟩,?_⟩;have rsY:=JM (caps:=caps) rs3 (pv.ext x4) (pu.ext x4);refine⟨r2,_,S2,_,rsY,⟨rb3,λ_ _ _ _ _ _ _ _ _ z=>z.elim⟩,q,λz H4 r4 dz S4 x6 aF p4 q4=>?_⟩;split at q4
      .rename_i ys eys;obtain⟨hl,m',hm,q4⟩:=q4;have ha4:r4[S1.length]?=some D0:=x6.adr _ _ ha2;obtain⟨zs,hD4,pz⟩:=aF.b.ob _ _ _ ha4 eys;obtain⟨rel5,x7⟩:=aF.b.set ha4 eys (pz.snoc p4);exact⟨zs,hD4,by rw[<- pz.1];exact Rx (xD hl),m',hm,r4,_,x3.trans (x4.trans (x6.trans x7)),rel5,q4⟩
      .exact q4.elim
     .obtain⟨hk,q⟩:=q;exact .inl ⟨⟨xs,ys,sq,sq',by rw[<- pr.1,<- pr'.1];exact hk.symm⟩,ret _ H2 r2 _ S2 (x1.trans (x2.trans x3)) ⟨rb2,aZ.xw.ext (x1.trans (x2.trans x3))⟩ (.ref ha2) q⟩
    .exact q.elim
 .exact q1.elim
theorem Kk (har:X.env.scope=ar)(hc:X.calm=true)(cs:Xw sc ar [x1,x2] N)(hl1:sc.names.lookup x1=some .local)(hl2:sc.names.lookup x2=some .local)(hN:Hn X caps N)(hnd:([x1,x2]++N).Nodup)(hg:Gl X "zip")(hm:X.mg "zip"=none)(hv:bootBuiltins "zip"=some (.type "zip"))(ha:PDA X Z [a,b] ta)(he:∀cl C s0 H0 fp pn,PD (Cx.comp X sc ([x1,x2]++N) cl C s0 H0 fp pn) Z0 aW te)(hse:starEach [a,b] X.env=[(false,eval a X.env),(false,eval b X.env)]:=by rfl)(hse2:starEach [b] X.env=[(false,eval b X.env)]:=by rfl)(hs:∀y,foldedSetIterable (.Call (.Name "zip" p) [a,b] [] aK) X.env y=pure y:=by intro _;rfl):
  PD X Z (.ListComp aW [⟨.Tuple [.Name x1 p1,.Name x2 p2] kk tp,.Call (.Name "zip" p) [a,b] [] aK,[],0⟩] sc pos) (TQ caps ta te):=by
 subst har;refine Yc (A6 hc cs hN (gt:=Vx X.K 2 (VB [0,1])) (te:=up X.K Z0 te) (MC hg hm hv ha hse hse2) (λcl C s0 H0 fp pn=>?_) he hs) λ_ _ _ h=>Dp h
 have l1:(Cx.comp X sc ([x1,x2]++N) cl C s0 H0 fp pn).env.scope.names.lookup x1=some .local:=lookup_relabel_local hl1
 have l2:(Cx.comp X sc ([x1,x2]++N) cl C s0 H0 fp pn).env.scope.names.lookup x2=some .local:=lookup_relabel_local hl2;exact Vq hc (Ve hnd (.cons rfl (.inl l1) (.inr l1) (.cons rfl (.inl l2) (.inr l2) .nil))) rfl rfl
end
section
variable {X:Cx}{Z:Zx}{pos:Pos}
end
section
variable {n:Nat}{I:Addr}{fp wr:List Addr}{P:Nat->Value->Prop}{St:Nat->Shared->Prop}{prog:Program}{w:World}{A:Around}{s:Shared}{E:Value->Shared->Prop}{G:Array GenState->Array GenState->Prop}
end
section
variable {X:Cx}{Z:Zx}{pos:Pos}
end
theorem Rps.ins {r:List Addr}{H:Hp}{y:D}{w:V}(hy:Rp r H y w):∀ {ds:List D} {xs:List V} (k:Nat),Rps r H ds xs->Rps r H (ds.take k++y::ds.drop k) (xs.take k++w::xs.drop k)
 | [],xs,k,h=>by
  have z:=h.unnil;subst z;simpa using Rps.cons hy h
 | d::ds,xs,0,h=>Rps.cons hy h
 | d::ds,xs,k+1,h=>by
  obtain⟨v,vs,rfl,p1,p2⟩:=h.uncons;exact Rps.cons p1 (Rps.ins hy k p2)
theorem zc7 (hc:X.calm=true)(cs:Xw sc X.env.scope own N)(hN:Hn X caps N)(hi:PI X (.Tuple aL kk tp) aU wi)(hg:∀cl C s0 H0 fp pn,PG (Cx.comp X sc (own++N) cl C s0 H0 fp pn) (.Tuple aL kk tp) gt)(he:∀cl C s0 H0 fp pn,PE (Cx.comp X sc (own++N) cl C s0 H0 fp pn) aW te)(hNd:X.N.Nodup)(hy:X.N[i]?=some y)(hl:X.env.scope.names.lookup y=some .local)(hsw:swapsWith (.ListComp aW [⟨.Tuple aL kk tp,aU,[],0⟩] sc pos) (some (.Name y py)) spos.line X.env=pure true)(hs:∀y,foldedSetIterable aU X.env y=pure y:=by intro _;rfl):PS X (.Assign [.Name y py] (.ListComp aW [⟨.Tuple aL kk tp,aU,[],0⟩] sc pos) spos) (λE σ H=>Nb own.length caps wi gt te σ H λv H1=>E.nx (σ.set i (some v)) H1):=
 K1 (λI h aY=>FD hc cs (Xj hN).1 (Xj hN).2 hi hg he hs I h aY) hNd hy hl hsw
theorem zhR (har:X.env.scope=ar)(hc:X.calm=true)(cs:Xw sc ar [x1,x2] N)(hl1:sc.names.lookup x1=some .local)(hl2:sc.names.lookup x2=some .local)(hN:Hn X caps N)(hnd:([x1,x2]++N).Nodup)(hNd:X.N.Nodup)(hy:X.N[i]?=some y)(hlo:ar.names.lookup y=some .local)(hg:Gl X "zip")(hm:X.mg "zip"=none)(hv:bootBuiltins "zip"=some (.type "zip"))(ha:PDA X Z [a,b] ta)(he:∀cl C s0 H0 fp pn,PD (Cx.comp X sc ([x1,x2]++N) cl C s0 H0 fp pn) Z0 aW te)(hsw:swapsWith (.ListComp aW [⟨.Tuple [.Name x1 p1,.Name x2 p2] kk tp,.Call (.Name "zip" p) [a,b] [] aK,[],0⟩] sc pos) (some (.Name y py)) spos.line X.env=pure true:=by rfl)(hse:starEach [a,b] X.env=[(false,eval a X.env),(false,eval b X.env)]:=by rfl)(hse2:starEach [b] X.env=[(false,eval b X.env)]:=by rfl)(hs:∀y,foldedSetIterable (.Call (.Name "zip" p) [a,b] [] aK) X.env y=pure y:=by intro _;rfl):
  PDS X Z (.Assign [.Name y py] (.ListComp aW [⟨.Tuple [.Name x1 p1,.Name x2 p2] kk tp,.Call (.Name "zip" p) [a,b] [] aK,[],0⟩] sc pos) spos) (Tt i (TQ caps ta te)):=by
 subst har;refine Yv (zc7 hc cs hN (gt:=Vx X.K 2 (VB [0,1])) (te:=up X.K Z0 te) (MC hg hm hv ha hse hse2) (λcl C s0 H0 fp pn=>?_) he hNd hy hlo hsw hs) λF σ H h=>PN (λ_ h=>Dp h) h
 have l1:(Cx.comp X sc ([x1,x2]++N) cl C s0 H0 fp pn).env.scope.names.lookup x1=some .local:=lookup_relabel_local hl1
 have l2:(Cx.comp X sc ([x1,x2]++N) cl C s0 H0 fp pn).env.scope.names.lookup x2=some .local:=lookup_relabel_local hl2;exact Vq hc (Ve hnd (.cons rfl (.inl l1) (.inr l1) (.cons rfl (.inl l2) (.inr l2) .nil))) rfl rfl
section
variable {X:Cx}{Z:Zx}
def HS:WC:=λds S Q=>match ds with
 | [.bl b]=>Q (.int (if b then 1 else 0)) S
 | _=>False
theorem zb7:Yl X (.type "int") (upC X.K Z HS):=by
 intro pins s σ H xs us Qv I rv h;obtain⟨r,S,ds,Q,aZ,ps,q,ret⟩:=h;unfold HS at q;split at q
 .rename_i b;obtain⟨v,vs,rfl,p1,p2⟩:=ps.uncons;have z:=p2.unnil;subst z;cases p1;obtain⟨u,rfl,ru⟩:=XC rv;cases ru;exact call_int_bool ⟨.int _,H,I.tok _,⟨_,rfl⟩,ret _ _ _ _ _ Ext.refl aZ (.int _) q⟩
 .exact q.elim
end
section
variable {X:Cx}{Z:Zx}{pos:Pos}
end
end L3
namespace L2
open PySem PySem.Spec PyProof.Rows
def Itd (lo:Int)(n:Nat):It:=⟨λi _=>i<n,λi H x H'=>H'=H/\x=.int (lo-i),λi _=>n<=i⟩
theorem zg5 {P:Program}{w:World}{K:Fg}{tg:Expr}(it:Addr)(lo:Int)(n:Nat):Vp P w K tg (Itd lo n) [it] it (λi h=>IsRangeIter h it (lo+(i:Nat)*(-1)) ((n:Int)-(i:Nat)) (-1)) where
 mem:=zH.mpr rfl
 obj:=λi h st b hb=>by
  cases zH.mp hb;refine⟨_,st,λv z=>?_⟩;have z':Data.fields _=Data.cell v:=z;cases z'
 keep:=λi h h' st k=>k it (zH.mpr rfl) _ st
 item:=by
  intro X hP hw hK hc i pins s σ H E I hf st hg;subst hP hw hK;obtain⟨f0,f1,f2,f3,f4,f5⟩:=hf it (zH.mpr rfl);have W:=Walks.range (prog:=X.prog) (w:=X.w) (I.ok.hd hc) it lo (-1) n;refine W.item i s _ _ hg st λv h' tk hv st' kk=>?_
  obtain⟨t,rfl⟩:=hv;have I1:Inv X pins σ H { s with heap:=h',toks:=tk }:=I.turned (λb o hb e=>kk b o (λz=>hb (zH.mp z)) e) f0 f1 f3 f4 f5
  have ev:lo+(i:Int)*(-1)=lo-(i:Int):=by omega
  exact⟨_,rfl,Oc (s:={ s with heap:=h',toks:=tk }) (n:="range_iterator") st' rfl rfl ⋯ ⟨.int (lo-i),H,I1,⟨t,by rw[ev]⟩,⟨rfl,rfl⟩,st',λb hb=>(hf b hb).1⟩⟩
 done:=by
  intro X hP hw hK hc i pins s σ H E I hf st hg;subst hP hw hK;obtain⟨f0,f1,f2,f3,f4,f5⟩:=hf it (zH.mpr rfl);have hg':n<=i:=hg;exact wpAny_pyNext_range_end (I.ok.hd hc) st (by omega) λh' eb=>⟨rfl,I.turned (t':=s.toks) (λb o hb e=>eb b o hb e) f0 f1 f3 f4 f5⟩
 self:=λ_ _ _ _ _ st h=>wpAny_pyIter_rangeiter st h
theorem A3 {pins:LA}{σ:St}{H:Hp}{s:Shared}{R:It->Hp->Prop}{E:Value->Shared->Prop}{lo hi:Int}{t u v:Tok}{tk:Nat}(I:Inv X pins σ H s)(h1:-(2^62)<=lo)(h2:lo<2^62)(h3:-(2^62)<=hi)(h4:hi<2^62)
  (q:R (Itd lo (lo-hi).toNat) H):wpAny (mX X) X.A (pyIter (.ref s.heap.objs.size)) (PIE X pins σ tg R) E { s with heap:=s.heap.push { cls:=.type "range",data:=.fields #[.int lo t,.int hi u,.int (-1) v] },toks:=tk }:=by
 have I1:Inv X pins σ H { s with heap:=s.heap.push { cls:=.type "range",data:=.fields #[.int lo t,.int hi u,.int (-1) v] },toks:=tk }:=I.kept λb o e=>Heap.get?_push_of_some _ e
 refine wpAny_pyIter_range (IsRange.new ..) (W.small_down h1 h2 h3 h4) ?_;refine⟨(s.heap.push { cls:=.type "range",data:=.fields #[.int lo t,.int hi u,.int (-1) v] }).objs.size,[(s.heap.push { cls:=.type "range",data:=.fields #[.int lo t,.int hi u,.int (-1) v] }).objs.size],_,_,H,rfl,
  I1.kept (t':=tk) λb o e=>Heap.get?_push_of_some _ e,zg5 _ lo (lo-hi).toNat,?_,λb hb=>?_,q⟩
 .show IsRangeIter _ _ (lo+((0:Nat):Int)*(-1)) ((((lo-hi).toNat:Nat):Int)-((0:Nat):Int)) (-1);rw[show lo+((0:Nat):Int)*(-1)=lo by simp,show (((lo-hi).toNat:Nat):Int)-((0:Nat):Int)=Builtin.Range.rangeSize lo hi (-1) by rw[W.rangeSize_downNat];simp];exact(Heap.get?_push_size _ rfl)
 .cases zH.mp hb;exact I1.fpOk (zA _) (I1.hok.fresh (zA _))
def iRngD (ta:TA):TI:=λσ H R=>ta σ H λvs H1=>∃i j:Int,vs=[.int i,.int j,.int (-1)]/\(-(2^62)<=i/\i<2^62/\-(2^62)<=j/\j<2^62)/\R (Itd i (i-j).toNat) H1
theorem zhm {a b c:Expr}{ta:TA}{p pos:Pos}(hg:Gl X "range")(hm:X.mg "range"=none)(ha:PA X [a,b,c] ta)(hs:starEach [a,b,c] X.env=[(false,eval a X.env),(false,eval b X.env),(false,eval c X.env)]:=by rfl)(hs2:starEach [b,c] X.env=[(false,eval b X.env),(false,eval c X.env)]:=by rfl):
  PI X tg (.Call (.Name "range" p) [a,b,c] [] pos) (iRngD ta):=by
 intro pins s σ H R I h;refine Call_ (Vg I hg hm boot_range (PyProof.Rows.callWith_type1 (thn (ha pos pins s σ H _ I h) λus s1 ⟨vs,H1,I1,r1,q1⟩=>?_) (by rw[hs,hs2]) (by rw[hs2];rfl)));obtain⟨i,j,e,⟨q1,q2,q3,q4⟩,q⟩:=q1;subst e;cases r1 with
 | cons r rr=>
  cases rr with
  | cons r' rr=>
   cases rr with
   | cons r2 rr=>
    cases rr;obtain⟨t,rfl⟩:=r;obtain⟨t',rfl⟩:=r';obtain⟨t2,rfl⟩:=r2;exact call_range_3 ⋯ (A3 I1 q1 q2 q3 q4 q) (.inl (PyProof.noPylong_small (by omega)))
end L2
namespace L3
open PySem PySem.Spec PyProof.Rows L2
def Ah (i:Nat)(ta:TDA)(tb:TDS):TDS:=λE dl S=>ta dl S λds S1=>match ds with
 | [.int lo,.int hi,.int st]=>st=-1/\(-(2^62)<=lo/\lo<2^62/\-(2^62)<=hi/\hi<2^62)/\∃W:Nat->Ev->Sto->Prop,W 0 dl S1/\∀k dl S,W k dl S->
   if k<(lo-hi).toNat then tb { nx:=λdl' S'=>W (k+1) dl' S',rt:=E.rt,bk:=E.nx,ct:=λdl' S'=>W (k+1) dl' S' } (dl.set i (some (.int (lo-k)))) S else E.nx dl S
 | _=>False
theorem zcx (hp:PassesOwn (mX X) X.A X.env X.xe)(hc:X.calm=true)(hN:X.N.Nodup)(hi:X.N[i]?=some x)(hx:Loc X.env.scope x)(hg:Gl X "range")(hm:X.mg "range"=none)(ha:PDA X Z [a,b,c] ta)(hb:YL X Z body tb)(hf:Hf X x:=by first|exact .inl rfl|exact .inr rfl|assumption)(hs:∀y,foldedSetIterable (.Call (.Name "range" p) [a,b,c] [] pos) X.env y=pure y:=by intro _;rfl)(hst:starEach [a,b,c] X.env=[(false,eval a X.env),(false,eval b X.env),(false,eval c X.env)]:=by rfl)(hst2:starEach [b,c] X.env=[(false,eval b X.env),(false,eval c X.env)]:=by rfl):
  PDS X Z (.For (.Name x pos') (.Call (.Name "range" p) [a,b,c] [] pos) body [] aK) (Ah i ta tb):=
 Yv (Tf hp hc (zhm hg hm ha hst hst2) (Tz hN hi hx hf) hb hs) λF σ H ⟨r,dl,S,E,rs,aZ,h,ret⟩=>by
  refine⟨r,dl,S,_,rs,aZ,h,λvs H1 r1 ds S1 x1 aB p1 q1=>?_⟩;split at q1
  .rename_i lo hi st;obtain⟨v,vs',rfl,p2,p3⟩:=p1.uncons;obtain⟨v2,vs2,rfl,p4,p5⟩:=p3.uncons;obtain⟨v3,vs3,rfl,p6,p7⟩:=p5.uncons;have z:=p7.unnil;subst z;cases p2;cases p4;cases p6;obtain⟨e3,bds,W,w0,turn⟩:=q1;subst e3;refine⟨lo,hi,rfl,bds,US x1 rs aB ret (λk m d s=>m=(lo-hi).toNat-k/\W k d s) ⟨rfl,w0⟩ λk m r2 dl2 S2 σ2 H2 x2 rs2 aC w=>?_⟩;have q:=turn k dl2 S2 w.2;split at q
   .rename_i hk;refine .inr ⟨hk,_,λd s z=>⟨(lo-hi).toNat-(k+1),by omega,rfl,z⟩,λv' H' y K hK=>?_⟩;obtain⟨rfl,rfl⟩:=y;exact hK _ _ _ Ext.refl (rs2.set i (.int _)) aC q
   .rename_i hk;exact .inl ⟨by show (lo-hi).toNat<=k;omega,q⟩
  .exact q1.elim
open PySem PySem.Spec PyProof.Rows L2 PySem.W
structure OF (sc around:Scope)(own caps:List Str):Prop where
 kind:sc.kind=.function
 co:sc.isCoroutine=false
 gen:sc.isGenerator=false
 nocell:∀y∈sc.names,y.2≠.cell
 loc:∀y∈own,sc.names.lookup y=some .local
 cap:∀y∈caps,sc.names.lookup y=some .free
 out:∀y∈sc.names,y.2=.free->around.names.lookup y.1=some .cell
 nd:own.Nodup
theorem ID:∀ {l:List (Str×α)},(l.map (·.1)).Nodup->(y,v)∈l->l.lookup y=some v
 | (n,k)::r,nd,h=>by
  rw[yA];rcases zS.mp h with e|e
  .cases e;simp
  .have hn:n ∉ r.map (·.1):=(xS.mp nd).1
   have ne:(y==n)=false:=by
    cases q:y==n with
    | false=>rfl
    | true=>
     have z:y=n:=by simpa using q
     subst z;exact absurd (zL.mpr ⟨_,e,rfl⟩) hn
   rw[ne];exact ID (xS.mp nd).2 e
abbrev RQ (qual:Str)(sc:Scope)(L f:Addr)(cd:Value)(cl:List (Str×Addr)):Env:=newEnv sc L mainGlobals cl (qual++".<locals>.") (some f) cd none builtinsNs
abbrev Cx.lam (X:Cx)(A:Around)(sc:Scope)(N:List Str)(qual:Str)(f:Addr)(cd:Value)(cl:List (Str×Addr))(L:Addr)(s0:Shared)(H0:Hp):Cx:=
 { prog:=X.prog,w:=X.w,K:=X.K,mg:=X.mg,base:=X.base,A:=A.deeper (RQ qual sc L f cd cl),N:=N,s₀:=s0,H₀:=H0,env:=RQ qual sc L f cd cl,outer:=X.stack,stack:=RQ qual sc L f cd cl::X.stack,ex:=[],fn:=λ_=>false,calm:=true,pn:=[],xe:=λ_ _=>False }
theorem za5 (I:Inv X pins σ H s)(cs:OF sc X.env.scope own N)(hN:∀(j:Nat)(y:Str),N[j]?=some y->∃i,caps[j]?=some i/\X.N[i]?=some y)(aM:caps.length=N.length)(c1:∀x c,cl.lookup x=some c->X.env.cells.lookup x=some c)(c2:∀y∈sc.names,y.2=.free->cl.lookup y.1=X.env.cells.lookup y.1)(hh:A.handled=none)(hfr:A.frames=some X.stack)(hv:Zv vs us)(hlv:vs.length=own.length)(hns:h1.Ns s.heap.objs.size (λx=>(own.zip us).reverse.lookup x))(hk:∀b o,s.heap.get? b=some o->h1.get? b=some o):
  Inv (Cx.lam X A sc (own++N) qual f cd cl s.heap.objs.size s H) [] (vs.map some++Yh caps σ) H { s with heap:=h1,toks:=tk }:=by
 have noA:∀b:Addr,b ∉ (Cx.lam X A sc (own++N) qual f cd cl s.heap.objs.size s H).ex:=λb z=>absurd (show b∈([]:List Addr) from z) (by simp)
 refine⟨⟨I.ok.mod,cs.kind,rfl,rfl,zA _,λa b c h1 h2=>I.ok.inj a b c (c1 _ _ h1) (c1 _ _ h2),λy hy=>?_,λ_ _ z=>Bool.noConfusion z,λ_=>hh,Around.frames_deeper hfr,.inr ⟨rfl,rfl⟩,λb z=>absurd z (noA b),
  I.bs,yK I.ok.bsz I.sz,λb _ _=>noA b,λb z=>absurd z (noA b),I.stack,I.stkFree⟩,rfl,I.bare,Un.kept hk,⟨_,hns,λi y v e1 e2 e3=>?_⟩,λy c e=>?_,I.hok.fresh (zA _),λy c e=>I.freeC y c (c1 _ _ e),λp hp=>absurd (show p∈([]:LA) from hp) (by simp),I.hok.kept hk,?_⟩
 .have hfree:sc.names.lookup y=some .free:=by
   rcases (show sc.names.lookup y=some .cell\/sc.names.lookup y=some .free from hy) with z|z
   .exact absurd rfl (cs.nocell _ (Uo z))
   .exact z
  have hm:=Uo hfree;obtain⟨c,e⟩:=I.ok.has y (.inl (cs.out _ hm rfl));exact⟨c,(c2 _ hm rfl).trans e⟩
 .rcases Nat.lt_or_ge i own.length with hi|hi
  .have e1':own[i]?=some y:=by rw[zI hi] at e1;exact e1
   have e2':vs[i]?=some v:=by
    rw[zI (by rw[zD];omega),zG] at e2;cases e:vs[i]? with
    | none=>rw[e] at e2;cases e2
    | some a=>rw[e] at e2;cases e2;rfl
   obtain⟨u,hu,rv⟩:=hv.get e2';refine⟨u,rv,.inl ⟨cs.loc y (zF e1'),?_⟩⟩;have z:(y,u)∈(own.zip us).reverse:=by
    rw[List.mem_reverse];exact zF (i:=i) (by rw[List.getElem?_zip_eq_some];exact⟨e1',hu⟩)
   have nd:((own.zip us).reverse.map (·.1)).Nodup:=by
    rw[List.map_reverse,List.map_fst_zip (by rw[<- hv.length];omega)];exact List.pairwise_reverse.mpr (cs.nd.imp λh=>Ne.symm h)
   exact ID nd z
  .obtain⟨i,rfl⟩:∃k,i=own.length+k:=⟨i-own.length,by omega⟩;have e1':N[i]?=some y:=by
    rw[yJ hi] at e1;simpa using e1
   have e2:(Yh caps σ)[i]?=some (some v):=by
    rw[yJ (by rw[zD];omega),zD] at e2;simpa [hlv] using e2
   obtain⟨j,hj,hy⟩:=hN i y e1';have e2':σ[j]?=some (some v):=by
    simp only[Yh,zG,hj,wL,Option.some.injEq] at e2;cases q:σ[j]? with
    | none=>rw[q] at e2;cases e2
    | some o=>rw[q] at e2;simp at e2;rw[e2]
   have hfree:sc.names.lookup y=some .free:=cs.cap y (zF e1')
   have hm:=Uo hfree
   have hce:X.env.scope.names.lookup y=some .cell:=cs.out _ hm rfl;obtain⟨m0,_,hl⟩:=I.loc;obtain⟨u,r,l⟩:=hl j y v hy e2' (.inr (.inl hce));refine⟨u,r,.inr ⟨.inr hfree,?_⟩⟩;rcases l with ⟨k,_⟩|⟨_,c,ec,hcell⟩
   .rw[show X.env.kindOf y=some .cell from hce] at k;cases k
   .exact⟨c,(c2 _ hm rfl).trans ec,hcell.keeps hk⟩
 .obtain⟨v,z⟩:=I.cell y c (c1 _ _ e);exact⟨v,z.keeps hk⟩
 .simp[Yh,aM,hlv]
abbrev WJ (qual:Str)(params:Arguments)(body:Expr)(sc:Scope)(cl:List (Str×Addr))(pm:Value)(cd:Value)(ctv:Value):Obj:={ cls:=.type "function",data:=.func (kla_fn "<lambda>" qual params body sc cl pm cd ctv) }
theorem zbB (I:Inv X pins σ H s)(cs:OF sc X.env.scope own N)(hN:∀(j:Nat)(y:Str),N[j]?=some y->∃i,caps[j]?=some i/\X.N[i]?=some y)(aM:caps.length=N.length)(c1:∀x c,cl.lookup x=some c->X.env.cells.lookup x=some c)(c2:∀y∈sc.names,y.2=.free->cl.lookup y.1=X.env.cells.lookup y.1)(hh:A.handled=none)(hfr:A.frames=some X.stack)(hv:Zv vs us)(hlv:vs.length=own.length)(hroom:A.depth<recursionLimit)(ho:s.heap.get? f=some (WJ qual params body sc cl pm cd ctv))(hcd:s.heap.CodeRec cd qual)(hb:bindArgs (kla_fn "<lambda>" qual params body sc cl pm cd ctv) ⟨us,[]⟩=pure (own.zip us))(he:PE (Cx.lam X A sc (own++N) qual f cd cl s.heap.objs.size s H) body te)(h:te (vs.map some++Yh caps σ) H Q):
  codeAny (mX X) A (.call (.ref f) ⟨us,[]⟩) (λr s'=>match r with|.ok (.ret u)=>CE X.stack X.prog X.w H s Q u s'|_=>False) s:=by
 refine kla_callFunE hroom ho rfl cs.co cs.gen rfl hcd ?_;rw[hb];have lim:s.heap.NoLimit:=I.ok.mod.nolimit.keeps λb o e=>(I.bs b o e).1
 refine wpAny_pure (wpAny_newFunctionEnv cs.nocell (λy hy=>cs.loc y.1 (vB hy).1) (λh₁ hns hsb=>?_) cs.kind);have hk₁:∀b o,s.heap.get? b=some o->h₁.get? b=some o:=λb o e=>hsb.extBut b o (zR (Heap.lt_size e)) (Heap.get?_push_of_some _ e)
 refine⟨lim.keeps hk₁,?_⟩;refine kla_codeExpr ?_;have J:=za5 (A:=A) (qual:=qual) (f:=f) (cd:=cd) (tk:=s.toks+(own.zip us).length) I cs hN aM c1 c2 hh hfr hv hlv hns hk₁;exact wpAny_mono (he [] _ _ H _ J h) (λu s' ⟨v,H',J',rv,q⟩=>⟨v,H',J'.os,J'.bare,J'.base,J'.hok,rv,q⟩) λ_ _ z=>z.elim
theorem DP {h1 h2:Heap}{c:Addr}{q:Str}(h:h1.CodeRec (.ref c) q)(k:∀o,h1.get? c=some o->h2.get? c=some o):h2.CodeRec (.ref c) q:=by
 obtain⟨c2,o,vs,t,e,h1,h3,h4⟩:=h;cases e;exact⟨c,o,vs,t,rfl,k _ h1,h3,h4⟩
theorem zey {sc:Scope}{cl:List (Str×Addr)}{qual:Str}{params:Arguments}{body:Expr}{c P:Addr}{ps:Array Value}{pos:Pos}{fl:Nat}{Q:Value->Shared->Prop}(I:Inv X pins σ H s)(hcl:closureFor sc X.env=pure cl)
  (hcode:X.env.code=.ref c)(C:CodeHd X.base c P)(hb:∃bm o,X.mg "__builtins__"=some (.ref bm)/\bm≠builtinsNs/\bm≠mainGlobals/\X.base.get? bm=some o/\o.cls=.type "module"/\o.dict=some builtinsNs/\o.data=.plain)
  (hP:H P=some (.tbl ps))(tab:Tab pos qual H ps)
  (h:∀(f:Addr)(cd ctv:Value)(H':Hp)(ps':Array Value)(s':Shared),Inv X pins σ H' s'->H' P=some (.tbl ps')->Tab pos qual H' ps'->(∀b o,H b=some o->b≠P->H' b=some o)->s'.heap.CodeRec cd qual->(∃c',cd=.ref c'/\H' c'=some (.ext λh=>h.CodeRec (.ref c') qual))->
   s'.heap.get? f=some (WJ qual params body sc cl ((X.mg "__name__").getD .none) cd ctv)->Yk X pins H' f->Q (.ref f) s'):
  wpAny (mX X) X.A (makeFunction "<lambda>" qual params (.expr body) sc X.env [] [] [] pos fl) Q X.xe s:=by
 have hg:s.heap.Ns mainGlobals X.mg:=I.ok.mod.glob.keeps I.bk
 have hPs:s.heap.get? P=some (tabObj ps):=I.hok P _ hP
 have nP:∀b,H b=none->b≠P:=λb n e=>by rw[e,hP] at n;cases n
 have gP:mainGlobals≠P:=by
  obtain⟨o,es,ep,e,_⟩:=I.ok.mod.glob;exact nP _ (I.bs _ _ e).2
 obtain⟨bm,ob,b1,b2,b3,b4,b5,b6,b7⟩:=hb;have bP:bm≠P:=nP _ (I.bs _ _ b4).2
 have BA:s.heap.BuiltinsAt X.mg P:=⟨bm,ob,b1,b2,b3,bP,(I.bs _ _ b4).1,b5,b6,b7⟩;obtain⟨tr,alt⟩:=tab;rcases alt with hn|⟨c',hf,hc'⟩
 .refine kla_makeFunction hcl I.ok.glob hg hcode (C.keeps I.bk) hPs tr hn gP BA λc' ctv h' tk hx hge hlt hrec htb=>?_
  have lt:∀b o,H b=some o->b<s.heap.objs.size:=λb o e=>I.hok.lt e
  have ltP:=lt P _ hP
  have ncP:c'≠P:=xQ (zW ltP hge)
  have up:∀b o,b≠P->s.heap.get? b=some o->(h'.push (WJ qual params body sc cl ((X.mg "__name__").getD .none) (.ref c') ctv)).get? b=some o:=λb o n e=>Heap.get?_push_of_some _ (hx b o n e)
  have upP:=Heap.get?_push_of_some (WJ qual params body sc cl ((X.mg "__name__").getD .none) (.ref c') ctv) htb
  have rec2:(h'.push (WJ qual params body sc cl ((X.mg "__name__").getD .none) (.ref c') ctv)).CodeRec (.ref c') qual:=DP hrec λo e=>Heap.get?_push_of_some _ e
  have hH:∀b o,H b=some o->b≠P->upd (upd H c' (.ext λh=>h.CodeRec (.ref c') qual)) P (.tbl (ps++#[rawInt pos.line,rawInt pos.col,.ref c'])) b=some o:=λb o e n=>by
   rw[ZV n,ZV (zR (zW (lt b o e) hge))];exact e
  have hc2:upd (upd H c' (.ext λh=>h.CodeRec (.ref c') qual)) P (.tbl (ps++#[rawInt pos.line,rawInt pos.col,.ref c'])) c'=some (.ext λh=>h.CodeRec (.ref c') qual):=by
   rw[ZV ncP,YN]
  have un:Un X.fs [] H (upd (upd H c' (.ext λh=>h.CodeRec (.ref c') qual)) P (.tbl (ps++#[rawInt pos.line,rawInt pos.col,.ref c']))) s.heap (h'.push (WJ qual params body sc cl ((X.mg "__name__").getD .none) (.ref c') ctv)):=
   ⟨λb o e n _ _=>up b o (nP b n) e,λb o e n _ _=>⟨o.slots,up b o (nP b n) e⟩,λb o e n _=>by
    rw[ZV (nP b n),ZV (zR (zW (Heap.lt_size e) hge))];exact n,λb o e _=>by
    by_cases q:b=P
    .rw[q];exact⟨_,upP⟩
    .exact⟨_,up b o q e⟩,λb xs e=>hH b _ e (λq=>by rw[q,hP] at e;cases e),λb o u e=>hH b _ e (λq=>by rw[q,hP] at e;cases e),λb qs e=>by
    by_cases q:b=P
    .subst q;rw[hP] at e;cases e;exact⟨_,YN⟩
    .exact⟨#[],by rw[hH b _ e q];simp⟩⟩
  have hok:HOk X.prog X.w (upd (upd H c' (.ext λh=>h.CodeRec (.ref c') qual)) P (.tbl (ps++#[rawInt pos.line,rawInt pos.col,.ref c']))) (h'.push (WJ qual params body sc cl ((X.mg "__name__").getD .none) (.ref c') ctv)):=λa o e=>by
   by_cases q:a=P
   .subst q;rw[YN] at e;cases e;exact upP
   .rw[ZV q] at e;by_cases q2:a=c'
    .subst q2;rw[YN] at e;cases e;obtain⟨_,o2,_,_,e2,e3,_⟩:=id rec2;cases e2;exact⟨rec2,⟨o2,e3⟩,λh1 h2 p k=>DP p k⟩
    .rw[ZV q2] at e;refine(I.hok a o e).stay (λb u hb r=>up b u (λz=>?_) r) (λb r=>hH b _ r λz=>by rw[z,hP] at r;cases r) λb xs r=>hH b _ r λz=>by rw[z,hP] at r;cases r
     rcases hb with hb|hb
     .exact q (hb ▸ z)
     .rw[z,hP] at hb;cases hb
  have I2:Inv X pins σ _ { s with heap:=h'.push (WJ qual params body sc cl ((X.mg "__name__").getD .none) (.ref c') ctv),toks:=tk }:=I.un (t':=tk) un hok
  have fresh:s.heap.objs.size<=h'.objs.size:=yK hge (xD hlt)
  have ff:=I.fpOk (H':=upd (upd H c' (.ext λh=>h.CodeRec (.ref c') qual)) P (.tbl (ps++#[rawInt pos.line,rawInt pos.col,.ref c']))) fresh (by
   rw[ZV (xQ (zW ltP fresh)),ZV (xQ hlt)];exact I.hok.fresh fresh)
  refine h _ (.ref c') ctv _ _ _ I2 YN ⟨?_,.inr ⟨c',?_,hc2⟩⟩ hH rec2 ⟨c',rfl,hc2⟩ (Heap.get?_push_size _ rfl) ff
  .rw[Array.toList_append];exact TriplesOk_snoc _ _ _ _ tr
  .rw[Array.toList_append];exact codeAmong_snoc _ tr hn
 .refine kla_makeFunctionHit hcl I.ok.glob hg hcode (C.keeps I.bk) hPs tr hf BA λctv h' tk hk hsz=>?_
  have I2:Inv X pins σ H { s with heap:=h'.push (WJ qual params body sc cl ((X.mg "__name__").getD .none) (.ref c') ctv),toks:=tk }:=I.kept (t':=tk) λb u e=>Heap.get?_push_of_some _ (hk b u e)
  exact h _ (.ref c') ctv H ps _ I2 hP ⟨tr,.inr ⟨c',hf,hc'⟩⟩ (λb o e _=>e) (I2.hok c' _ hc').1 ⟨c',rfl,hc'⟩ (Heap.get?_push_size _ rfl) (I.fpOk hsz (I.hok.fresh hsz))
theorem Nw {h':Heap}{t':Nat}{b:Addr}(I:Inv X pins σ H s)(f:Yk X pins H b)(k:∀a o,a≠b->s.heap.get? a=some o->h'.get? a=some o):Inv X pins σ H { s with heap:=h',toks:=t' }:=
 I.turned k f.1 f.2.1 f.2.2.2.1 f.2.2.2.2.1 f.2.2.2.2.2
theorem Bp {b:Addr}(I:Inv X pins σ H s)(f:Yk X pins H b):b ∉ frs X.stack:=λz=>by
 rcases zS.mp (I.stkSub b z) with e|e
 .exact f.2.1 e
 .exact f.2.2.1 e
theorem zgV (hc:X.calm=true){l it S f:Addr}{of:Obj}{N:Nat}{M:Nat->V->Hp->Prop}{W:Nat->Hp->Prop}{Q:VK}{d:V}{dv:Value}(rd:Zw d dv)(hsq:∀i H',W i H'->∃xs,SqL X.K H' l xs/\xs.length=N/\∀(j:Nat)(v:V),xs[j]?=some v->M j v H')
  (turn:∀(i:Nat)(v:V)(u:Value)(H':Hp)(s':Shared),M i v H'->Zw v u->W i H'->Inv X pins σ H' s'->s'.heap.get? f=some of->codeAny (mX X) X.A.in1 (.call (.ref f) ⟨[u],[]⟩) (λr s''=>match r with|.ok (.ret u')=>CE X.stack X.prog X.w H' s' (λy H''=>(∃n:Int,y=.int n)/\W (i+1) H''/\∀(k:Nat)(v:V),M k v H'->M k v H'') u' s''|_=>False) s')
  (hQ:∀H',W N H'->∀(i:Nat)(v:V),M i v H'->Q v H')(hlI:l≠it)(hIS:it≠S)(hIf:it≠f)(hSf:S≠f):
  ∀(n j:Nat)(H:Hp)(s:Shared)(ob:Array Value)(c:Nat),N-j=n->j<=N->Inv X pins σ H s->W j H->Yk X pins H it->Yk X pins H S->Yk X pins H f->s.heap.IsListIter it l j->s.heap.get? S=some (seqObj "list" ob c)->s.heap.get? f=some of->(ob=#[]/\(N=j->Q d H)\/∃(vb:Value)(kb:Int)(tb:Tok)(i:Nat)(v:V),ob=#[vb,.int kb tb]/\M i v H/\Zw v vb)->
   codeAny (mX X) X.A (.builtin "max.loop" ⟨[.ref it,.ref f,.ref S],[(Str.ofString "default",dv)]⟩) (λr s'=>match r with|.ok (.ret u)=>EP X pins σ Q u s'|.ok _=>False|.error e=>X.xe e s') s:=by
 have hname:(toString "max"++toString ".loop":String)="max.loop":=by decide
 intro n
 induction n with
 | zero=>
  intro j H s ob c hn hj I w fI fS ff hit hS hf hvb;obtain⟨xs,hxs,lxs,mxs⟩:=hsq j H w;obtain⟨aX,rv,pl,hz⟩:=I.list hxs;have aM:=rv.length
  have ej:j=aX.length:=by omega
  have Wk:=Walks.list (prog:=X.prog) (w:=X.w) (A:=X.A.in1) (I.ok.hd hc) it l hlI aX.toArray;refine codeAny_builtin PySem.F.entry_max_loop ?_;rw[Around.under_plainId PySem.F.plain_max_loop _];show wpAny _ X.A.in1 (seqItems? (.ref S) >>= _) _ _ _;refine wpAny_bind (wpAny_seqItems hS rfl ?_);show wpAny _ X.A.in1 (tryCatch (pyNext (.ref it)) _ >>= _) _ _ _;refine wpAny_bind (wpAny_tryCatch (Wk.done _ _ _ ⟨by rw[zU,<- ej];exact hit,pl.isList⟩ λh' tk' hk'=>?_));have I1:Inv X pins σ H { s with heap:=h',toks:=tk' }:=Nw (t':=tk') I fI λa o na e=>hk' a o (by simpa using na) e
  rcases hvb with ⟨rfl,h0⟩|⟨vb,kb,tb,i,v,rfl,hv,r⟩
  .exact wpAny_bind (wpAny_rule (wpAny_pure ⟨d,H,I1,rd,h0 (by omega)⟩))
  have hS':=hk' S _ (by simpa using hIS.symm) hS
  show wpAny _ X.A.in1 (updateSeq S (λ_=>#[]) >>= _) _ _ _;refine wpAny_bind ?_;refine wpAny_updateSeq hS' rfl (wpAny_bind (wpAny_letGo (wpAny_pure ?_)));have s1:=Heap.SameBut.update h' S (Obj.mapSeq λ_=>(#[]:Array Value));exact⟨v,H,Nw (t':=tk') I1 fS λa o na e=>(s1.2 a na).trans e,r,hQ H (by rw[show N=j by omega];exact w) i v hv⟩
 | succ n ih=>
  intro j H s ob c hn hj I w fI fS ff hit hS hf hvb;obtain⟨xs,hxs,lxs,mxs⟩:=hsq j H w;obtain⟨aX,rv,pl,hz⟩:=I.list hxs;have aM:=rv.length
  have Wk:=Walks.list (prog:=X.prog) (w:=X.w) (A:=X.A.in1) (I.ok.hd hc) it l hlI aX.toArray;refine codeAny_builtin PySem.F.entry_max_loop ?_;rw[Around.under_plainId PySem.F.plain_max_loop _];show wpAny _ X.A.in1 (seqItems? (.ref S) >>= _) _ _ _;refine wpAny_bind (wpAny_seqItems hS rfl ?_);show wpAny _ X.A.in1 (tryCatch (pyNext (.ref it)) _ >>= _) _ _ _;refine wpAny_bind (wpAny_tryCatch (Wk.item j _ _ _ (by rw[zU];omega) ⟨hit,pl.isList⟩ λu h' tk' hP hst' hk'=>?_));have hu:aX[j]?=some u:=by simpa using hP
  have hk1:∀a o,a≠it->s.heap.get? a=some o->h'.get? a=some o:=λa o na e=>hk' a o (by simpa using na) e
  have I1:Inv X pins σ H { s with heap:=h',toks:=tk' }:=Nw (t':=tk') I fI hk1;obtain⟨v,hv⟩:∃v,xs[j]?=some v:=⟨_,zE (by omega)⟩;obtain⟨u2,hu2,rvu⟩:=rv.get hv;rw[hu] at hu2;cases hu2;have hS1:=hk1 S _ hIS.symm hS
  have hf1:=hk1 f _ hIf.symm hf;obtain⟨oI,hoI,hoc,hod⟩:=id hst'.1;show wpAny _ X.A.in1 (tryCatch (holding [u] (call (.ref f) [u])) _ >>= _) _ _ _;refine wpAny_bind (wpAny_tryCatch (wpAny_holding (wpAny_call (codeAny_mono (turn j v u H _ (mxs j v hv) rvu w I1 hf1) λr s2 h2=>?_))));cases r with
  | error e=>exact h2.elim
  | ok fl=>
   cases fl with
   | next=>exact h2.elim
   | brk=>exact h2.elim
   | cont=>exact h2.elim
   | ret ku=>
    obtain⟨y,H2,os2,bare2,un2,hok2,ry,⟨k2,rfl⟩,w2,up2⟩:=(show CE X.stack X.prog X.w H _ _ ku s2 from h2);obtain⟨t2,rfl⟩:=ry;have I2:Inv X pins σ H2 s2:=I1.call' (ch:=[]) os2 un2 hok2 bare2 (λb hb=>by simp at hb)
    have kp:∀b o,Yk X pins H b->h'.get? b=some o->s2.heap.get? b=some o/\Yk X pins H2 b:=λb o fb e=>⟨un2.keep b o e fb.1 (Bp I1 fb) (by simp),un2.free b o e fb.1 (by simp),fb.2⟩
    obtain⟨hI2,fI2⟩:=kp it oI fI hoI;obtain⟨hS2,fS2⟩:=kp S _ fS hS1;obtain⟨hf2,ff2⟩:=kp f _ ff hf1;have s1:=Heap.SameBut.update s2.heap S (Obj.mapSeq λ_=>#[u,.int k2 t2]);obtain⟨c2,hc2⟩:∃c2,(s2.heap.update S (Obj.mapSeq λ_=>#[u,.int k2 t2])).get? S=some (seqObj "list" #[u,.int k2 t2] c2):=⟨_,get?_update_seq hS2 λ_=>#[u,.int k2 t2]⟩;have I3:Inv X pins σ H2 { s2 with heap:=s2.heap.update S (Obj.mapSeq λ_=>#[u,.int k2 t2]) }:=Nw (t':=s2.toks) I2 fS2 λa o na e=>(s1.2 a na).trans e
    have go:=ih (j+1) H2 _ _ c2 (by omega) (by omega) I3 w2 fI2 fS2 ff2 ⟨oI,(s1.2 it hIS).trans hI2,hoc,hod⟩ hc2 ((s1.2 f hSf.symm).trans hf2) (.inr ⟨u,k2,t2,j,v,rfl,up2 j v (mxs j v hv),rvu⟩);rcases hvb with ⟨rfl,_⟩|⟨vb,kb,tb,i,vv,rfl,hvv,r⟩
    .show wpAny _ X.A.in1 (updateSeq S (λ_=>#[u,.int k2 t2]) >>= _) _ _ _;refine wpAny_bind (wpAny_updateSeq hS2 rfl ?_);rw[hname];exact wpAny_pure ⟨plainId_quiet PySem.F.plain_max_loop _,go⟩
    show wpAny _ X.A.in1 (tryCatch (holding [u,.int k2 t2] (richCompare .Gt (.int k2 t2) (.int kb tb) >>= _)) _ >>= _) _ _ _;refine wpAny_bind (wpAny_tryCatch (wpAny_holding (wpAny_bind (CmpOf.ints_gt (prog:=X.prog) (w:=X.w) (A:=X.A.in1) (P:=λi v=>∃t,v=.int (([k2,kb]:List Int).getD i 0) t) (λi=>([k2,kb]:List Int).getD i 0) (λi v h=>h) 0 1 _ _ _ _ _ ⟨t2,rfl⟩ ⟨tb,rfl⟩ ?_))));refine wpAny_bind (wpAny_holding (wpAny_truthy_bool ?_));refine wpAny_bind (wpAny_letGo (wpAny_pure ?_));by_cases hb':([k2,kb]:List Int).getD 0 0 > ([k2,kb]:List Int).getD 1 0
    .simp only[hb',decide_true,if_true];refine wpAny_bind ?_;refine wpAny_updateSeq hS2 rfl (wpAny_bind (wpAny_letGo ?_));rw[hname];exact wpAny_pure ⟨plainId_quiet PySem.F.plain_max_loop _,go⟩
    .simp only[hb',decide_false,vL,if_false];refine wpAny_bind (wpAny_letGo ?_);rw[hname];exact wpAny_pure ⟨plainId_quiet PySem.F.plain_max_loop _,ih (j+1) H2 _ _ c (by omega) (by omega) I2 w2 fI2 fS2 ff2 ⟨oI,hI2,hoc,hod⟩ hS2 hf2 (.inr ⟨vb,kb,tb,i,vv,rfl,up2 i vv hvv,r⟩)⟩
theorem zfx (a v d:Value):argsOk "max" ⟨[a],[(Str.ofString "key",v),(Str.ofString "default",d)]⟩:=by unfold argsOk;kernel_rfl
theorem zfy (hc:X.calm=true){l f:Addr}{of:Obj}{N:Nat}{M:Nat->V->Hp->Prop}{W:Nat->Hp->Prop}{Q:VK}{d:V}{dv:Value}(I:Inv X pins σ H s)(w0:W 0 H)(hsq:∀i H',W i H'->∃xs,SqL X.K H' l xs/\xs.length=N/\∀(j:Nat)(v:V),xs[j]?=some v->M j v H')
  (turn:∀(i:Nat)(v:V)(u:Value)(H':Hp)(s':Shared),M i v H'->Zw v u->W i H'->Inv X pins σ H' s'->s'.heap.get? f=some of->codeAny (mX X) X.A.in1 (.call (.ref f) ⟨[u],[]⟩) (λr s''=>match r with|.ok (.ret u')=>CE X.stack X.prog X.w H' s' (λy H''=>(∃n:Int,y=.int n)/\W (i+1) H''/\∀(k:Nat)(v:V),M k v H'->M k v H'') u' s''|_=>False) s')
  (hQ:∀H',W N H'->∀(i:Nat)(v:V),M i v H'->Q v H')(ff:Yk X pins H f)(hf:s.heap.get? f=some of)(rd:Zw d dv)(h0:N=0->Q d H):
  wpAny (mX X) X.A (call (.builtin "max") [.ref l] [(Str.ofString "key",.ref f),(Str.ofString "default",dv)]) (EP X pins σ Q) X.xe s:=by
 have hname:(toString "max"++toString ".loop":String)="max.loop":=by decide
 obtain⟨xs,hxs,lxs,mxs⟩:=hsq 0 H w0;obtain⟨aX,rv,pl,hz⟩:=I.list hxs;have aM:=rv.length
 have hls:=pl.isList;obtain⟨ol,hol,_⟩:=id hls;have hll:l<s.heap.objs.size:=Heap.lt_size hol
 have hlf:f<s.heap.objs.size:=Heap.lt_size hf;refine kmk_tree PySem.F.kind_max PySem.F.plain_max PySem.F.entry_max (zfx _ _ _) ?_;show wpAny _ X.A.in1 (Builtin.Builtins.bindParams "max" ["key","default"] 0 ⟨[],[(Str.ofString "key",.ref f),(Str.ofString "default",dv)]⟩ >>= _) _ _ s;refine wpAny_bind (wpAny_of_eq (show Builtin.Builtins.bindParams "max" ["key","default"] 0 ⟨[],[(Str.ofString "key",.ref f),(Str.ofString "default",dv)]⟩=pure [some (.ref f),some dv] from rfl) ?_);refine wpAny_bind (wpAny_pure ?_);refine wpAny_bind (wpAny_pyIter_list hls ?_);refine wpAny_bind (wpAny_newList ?_ (zZ _));rw[hname];have hS:(s.heap.push { cls:=.type "list_iterator",data:=.fields #[.ref l,.int 0 0] }).objs.size=s.heap.objs.size+1:=size_push' ..;refine wpAny_pure ⟨plainId_quiet PySem.F.plain_max_loop _,?_⟩;generalize ePI:s.heap.push { cls:=.type "list_iterator",data:=.fields #[.ref l,.int 0 0] }=hI at hS ⊢;have hk0:∀b o,s.heap.get? b=some o->(hI.push (seqObj "list" #[] 0)).get? b=some o:=λb o e=>Heap.get?_push_of_some _ (by rw[<- ePI];exact Heap.get?_push_of_some _ e)
 have gI:(hI.push (seqObj "list" #[] 0)).get? s.heap.objs.size=some { cls:=.type "list_iterator",data:=.fields #[.ref l,.int 0 0] }:=Heap.get?_push_of_some _ (by rw[<- ePI];exact Heap.get?_push_size _ rfl)
 have gS:(hI.push (seqObj "list" #[] 0)).get? hI.objs.size=some (seqObj "list" #[] 0):=Heap.get?_push_size _ rfl
 have I0:Inv X pins σ H { s with heap:=hI.push (seqObj "list" #[] 0) }:=I.kept (t':=s.toks) hk0
 have fI:Yk X pins H s.heap.objs.size:=I.fpOk (zA _) (I.hok.fresh (zA _))
 have leS:s.heap.objs.size<=hI.objs.size:=by rw[hS];exact wH _
 have fS:Yk X pins H hI.objs.size:=I.fpOk leS (I.hok.fresh leS)
 have hlI:l≠s.heap.objs.size:=zR hll
 have hIS:s.heap.objs.size≠hI.objs.size:=by rw[hS];exact zR (vA _)
 have hIf:s.heap.objs.size≠f:=xQ hlf
 have hSf:hI.objs.size≠f:=xQ (zW hlf leS)
 have hf0:=hk0 f _ hf;obtain⟨its0,rv0,pl0,_⟩:=I0.list hxs;have hlen0:=rv0.length;generalize hI.objs.size=S at gS fS hIS hSf ⊢;generalize s.heap.objs.size=it at gI fI hlI hIS hIf ⊢;exact zgV (pins:=pins) (σ:=σ) hc rd hsq turn hQ hlI hIS hIf hSf _ 0 H _ _ _ rfl (zZ _) I0 w0 fI fS ff ⟨_,gI,rfl,rfl⟩ gS hf0 (.inl ⟨rfl,h0⟩)
section
variable {X:Cx}{Z:Zx}{pins:LA}{σ:St}{H H2:Hp}{s:Shared}
theorem Bx {r:List Addr}{S:Sto}{n:Nat}{P:Addr}{lp:Pos}{q:Str}{ps ps':Array Value}(kn:∀o,X.K.lookup P≠some o)(aZ:Rel X.K Z r S H)(hS:S[n]?=some (.cod P lp q))(hP:H P=some (.tbl ps))(hP2:H2 P=some (.tbl ps'))(tab:Tab lp q H2 ps')(hH:∀b o,H b=some o->b≠P->H2 b=some o):
  Rel X.K Z r S H2/\Ext r r H H2:=by
 have x:Ext r r H H2:=⟨λ_ _ e=>e,λa xs e=>hH a _ e λz=>(by rw[z,hP] at e;cases e),λa φ e=>hH a _ e λz=>(by rw[z,hP] at e;cases e)⟩;obtain⟨a0,ea0,e0,_⟩:=aZ.at hS;subst e0;refine⟨⟨⟨aZ.b.len,λm a o h1 h2=>?_,aZ.b.nd⟩,aZ.xw.ext x⟩,x⟩;have q0:=aZ.b.ob m a o h1 h2;by_cases z:a=a0
 .subst z;by_cases ho:WQ o=true
  .have e:m=n:=aZ.b.nd m n a o _ h1 ea0 h2 hS ho rfl;subst e;rw[hS] at h2;cases h2;exact⟨rfl,ps',hP2,tab⟩
  .cases o with
   | frz ds=>
    obtain⟨xs,y,_⟩:=q0;rcases y with ⟨o,y⟩|⟨o,_,_,y,_⟩
    .rw[hP] at y;cases y
    .exact absurd y (kn o)
   | tpl ws=>
    obtain⟨o,_,_,y,_⟩:=q0;exact absurd y (kn o)
   | lst _=>exact absurd rfl ho
   | ins _ _=>exact absurd rfl ho
   | dct _=>exact absurd rfl ho
   | dck _=>exact absurd rfl ho
   | cod _ _ _=>exact absurd rfl ho
 .exact q0.keep x λu e=>hH a u e z
def Rj (caps:List Nat)(P:Addr)(lp:Pos)(q:Str)(te:TDE)(dl:Ev)(Q:DK)(d:D)(S1:Sto):Prop:=match d with
 | .ref n=>(∃t:Nat,S1[t]?=some (Ob.cod P lp q))/\match lAt S1 n with
  | some o=>(Zk o=[]->Q .non S1)/\(∀(i:Nat)(v:D)(S2:Sto),(Zk o)[i]?=some v->Pre S1 S2->te (some v::Z8 caps dl) S2 λy S3=>(∃k:Int,y=.int k)/\Pre S1 S3)/\∀(i:Nat)(v:D)(S2:Sto),(Zk o)[i]?=some v->Pre S1 S2->Q v S2
  | none=>False
 | _=>False
@[irreducible] def Qd (caps:List Nat)(P:Addr)(lp:Pos)(q:Str)(tl te:TDE):TDE:=λdl S Q=>tl dl S (Rj caps P lp q te dl Q)
def BM (mg:Str->Option Value)(base:Heap):Prop:=∃bm o,mg "__builtins__"=some (.ref bm)/\bm≠builtinsNs/\bm≠mainGlobals/\base.get? bm=some o/\o.cls=.type "module"/\o.dict=some builtinsNs/\o.data=.plain
theorem zbu {a body:Expr}{tl te:TDE}{x:Str}{N:List Str}{caps:List Nat}{params:Arguments}{sc ar:Scope}{c P:Addr}{q:Str}{lp p pos kp dp np:Pos}{j:Nat}(har:X.env.scope=ar)(hc:X.calm=true)(cs:OF sc ar [x] N)(hN:Hn X caps N)
  (hg:Gl X "max")(hm:X.mg "max"=none)(hv:bootBuiltins "max"=some (.builtin "max"))(hr:X.A.in1.depth<recursionLimit)(hcode:X.env.code=.ref c)(C:CodeHd X.base c P)(hb:BM X.mg X.base)(kn:∀o,X.K.lookup P≠some o)(hq:X.env.qual++"<lambda>"=q)
  (ha:PD X Z a tl)(he:∀f cd cl L s0 H0,PD (Cx.lam X X.A.in1 sc ([x]++N) q f cd cl L s0 H0) Z0 body te)
  (hbind:∀cl pm cd ctv u,bindArgs (kla_fn "<lambda>" q params body sc cl pm cd ctv) ⟨[u],[]⟩=pure ([x].zip [u]):=by intros;rfl)(hdef:defaultsOf params X.env=([],[]):=by rfl)(hs:starEach [a] X.env=[(false,eval a X.env)]:=by rfl):
  PD X Z (.Call (.Name "max" p) [a] [⟨some "key",.Lambda params body sc lp,kp⟩,⟨some "default",.Constant .none j np,dp⟩] pos) (Qd caps P lp q tl te):=by
 subst har;subst hq;intro pins s σ H Qv I h;obtain⟨r,dl,S,Q,rs,aZ,h,ret⟩:=h;unfold Qd at h;refine wpAny_Call_Name_kw (Vg I hg hm hv ?_ ⋯ ⋯);have hda:PDA X Z [a] (So tl SD):=Za ha Zf hs;refine PyProof.Rows.callWith_kw (thn (hda pos pins s σ H (λvs H1=>∃(r1:List Addr)(S1:Sto)(d:D)(v:V),vs=[v]/\Ext r r1 H H1/\Rel X.K Z r1 S1 H1/\Rp r1 H1 d v/\Rj caps P lp (X.env.qual++"<lambda>") te dl Q d S1) I ?_) λus s1 ⟨vs,H1,I1,rvs,r1,S1,d,v,evs,x1,aB,pd,hk⟩=>?_) (by show backTo pos (starEach [a] X.env)=_;rw[hs];rfl) (by rw[hs];rfl)
 .refine⟨r,dl,S,λds S1=>match ds with|[d]=>Rj caps P lp (X.env.qual++"<lambda>") te dl Q d S1|_=>False,rs,aZ,h,λvs H1 r1 ds S1 e1 aB p1 q1=>?_⟩;dsimp only at q1;split at q1
  .rename_i d;obtain⟨v,vs',rfl,p2,p3⟩:=p1.uncons;have z:=p3.unnil;subst z;exact⟨r1,S1,d,v,rfl,e1,aB,p2,q1⟩
  .exact q1.elim
 unfold Rj at hk;split at hk
 rotate_left
 .exact hk.elim
 rename_i n;cases pd with
 | @ref _ a0 ha0=>
  obtain⟨⟨t,ht⟩,hk⟩:=hk;split at hk
  rotate_left
  .exact hk.elim
  rename_i o ho;obtain⟨q0,q1,q2⟩:=hk;subst evs;obtain⟨u0,rfl,ru0⟩:=XC rvs;cases ru0;obtain⟨cl,k1,k2,k3⟩:=Cn (sc:=sc) (env:=X.env) λy hy hf=>I.ok.has y.1 (.inl (cs.out y hy hf))
  obtain⟨aP,eaP,eP,ps,hP,tab⟩:=aB.at ht;subst eP;refine PyProof.Rows.kws_cons (kla_eval hdef (zey I1 k1 hcode C hb hP tab λf cd ctv H2 ps' s2 I2 hP2 tab2 hH hrec hc' hf ff=>?_));obtain⟨aC,x2⟩:=Bx kn aB ht hP hP2 tab2 hH;refine PyProof.Rows.kws_cons (Constant_none (PyProof.Rows.kws_nil ?_));obtain⟨c',rfl,hc'⟩:=hc';obtain⟨hSn,hkL⟩:=Yy ho;have hob:=aC.b.ob n a0 o ha0 hSn;obtain⟨xs0,sq0,rp0⟩:=hob.list hkL;have x12:Ext r r1 H H2:=x1.trans x2;refine zfy hc (N:=(Zk o).length) (M:=λi v H'=>∃d,(Zk o)[i]?=some d/\Rp r1 H' d v) (W:=λ_ H'=>∃r2 S2,Ext r1 r2 H2 H'/\ZY X.K r2 S2 H'/\Pre S1 S2) (Q:=Qv) (d:=.non) I2 ⟨r1,S1,Ext.refl,aC.b,Pre.refl⟩ ?_ ?_ ?_ ff hf rfl ?_
  .rintro i H' ⟨r2,S2,e2,rb,pr⟩;obtain⟨xs,sq,rp⟩:=(rb.ob n a0 o (e2.adr _ _ ha0) (pr _ _ hSn)).list hkL;refine⟨xs,sq,rp.1.symm,λj v hv=>?_⟩;have lj:j<(Zk o).length:=by
    have:=(zB.mp hv).1;rw[rp.1];exact this
   have hd:=zE lj;obtain⟨v0,_,p0⟩:=rp0.get hd;exact⟨_,hd,(rp.2 j _ v hd hv).low (Ms e2) p0.sco⟩
  .rintro i v u H' s' ⟨d,hd,pv⟩ ru ⟨r2,S2,e2,rb,pr⟩ I' hf';have hcr:s'.heap.CodeRec (.ref c') (X.env.qual++"<lambda>"):=(I'.hok c' _ (e2.xc _ _ hc')).1
   have eL:Ext r1 r2 H' H':=⟨e2.adr,λ_ _ z=>z,λ_ _ z=>z⟩;refine zbB (vs:=[v]) (us:=[u]) (te:=up X.K Z0 te) I' cs (Xj hN).1 (Xj hN).2 k2 k3 (I'.ok.hd hc) I'.ok.frames (.cons ru .nil) rfl hr hf' hcr (hbind _ _ _ _ _) (he _ _ _ _ _ _) ?_;refine⟨r2,some d::Z8 caps dl,S2,_,K8 ((rs.ext x12).ext e2) (pv.ext eL),⟨rb,λ_ _ _ _ _ _ _ _ _ z=>z.elim⟩,q1 i d S2 hd pr,λy H3 r3 dy S3 x3 aE p3 ⟨⟨k,ek⟩,pr3⟩=>?_⟩;subst ek;cases p3;refine⟨⟨k,rfl⟩,⟨r3,S3,e2.trans x3,aE.b,pr3⟩,λk v ⟨d,hd,pv⟩=>⟨d,hd,pv.ext ⟨λ_ _ z=>z,x3.tup,x3.xc⟩⟩⟩
  .rintro H' ⟨r2,S2,e2,rb,pr⟩ i v ⟨d,hd,pv⟩;have eL:Ext r1 r2 H' H':=⟨e2.adr,λ_ _ z=>z,λ_ _ z=>z⟩;exact ret v H' r2 d S2 (x12.trans e2) ⟨rb,(aZ.xw.ext x12).ext e2⟩ (pv.ext eL) (q2 i d S2 hd pr)
  .intro e;exact ret .non H2 r1 .non S1 x12 aC .non (q0 (tD.mp e))
end
def Jg (P:Addr)(ps:Array Value)(H:Hp):Prop:=H P=some (.tbl ps)/\∀b,b≠P->H b=none\/∃o xs,H b=some (.frz o (.lst xs))
theorem zaA {Pg:Program}{w:World}{K:Fg}{mg mb:Str->Option Value}{CX:CXT}{k:Nat}{fa a P:Addr}{ps:Array Value}{fd:FuncData}{x:Str}{sp:Sp}{s₁:Shared}{vs:List Value}{ns:List Int}
  (KX:K.In s₁.heap)(hns:s₁.heap.Ns mainGlobals mg)(hb:s₁.heap.Ns builtinsNs mb)(hbb:∀x:Str,x≠"__name__"->mb x=bootBuiltins x)(hlim:s₁.heap.NoLimit)(hg:s₁.gens=#[])
  (ha:s₁.heap.get? a=some { cls:=.type "list",data:=.seq vs.toArray })(hi:IntsAre vs ns)(hl:ns.length<=sizeLine)(hr:ZF k callerA)(hP:s₁.heap.get? P=some { cls:=.none,data:=.fields ps })(ht:isCodeTable s₁.heap P)(kP:K.lookup P=none)(hbm:BM mg s₁.heap)
  (F:∀base:Heap,K.In base->base.Ns mainGlobals mg->BM mg base->Yi Pg w K mg base CX k fa fd [x] sp)(hbind:∀(s:Shared)(u:Value),BindsTo s fd ⟨[u],[]⟩ [(x,u)])
  (hsp:∀H:Hp,Jg P ps H->a≠P->SqL K H a (ns.map V.int)->sp [.ref a] H (λv _=>v=.bl true) λ_ _ _=>False)
  (hCX:∀H e s',CX [] H s₁ (λ_ _ _=>False) e s'->False):
  codeAny (model Pg w) callerA (.call (.ref fa) ⟨[.ref a],[]⟩) (λr s'=>r=.ok (.ret (.bool true))/\OldK s₁.heap s'.heap/\s'.os=s₁.os/\AllBare s'.gens) s₁:=by
 have rv:=QY hi
 have lenV:=hi.length
 have aP:a≠P:=λe=>by rw[e,hP] at ha;cases ha
 have core:∀H:Hp,Jg P ps H->SqL K H a (ns.map V.int)->HOk Pg w H s₁.heap->(∀b,H b≠none->b=a\/b=P)->(H a≠none->K.lookup a=none)->
   codeAny (model Pg w) callerA (.call (.ref fa) ⟨[.ref a],[]⟩) (λr s'=>r=.ok (.ret (.bool true))/\OldK s₁.heap s'.heap/\s'.os=s₁.os/\AllBare s'.gens) s₁:=by
  intro H hO hS hok hA hK;have base_of:∀ {b:Addr} {o:Obj},s₁.heap.get? b=some o->H b=none->(X9 s₁.heap H).get? b=some o:=λe n=>zdY e n
  have noA:∀ {b:Addr} {o:Obj},s₁.heap.get? b=some o->(∀aX n,o.data≠.seq aX n)->(∀f,o.data≠.fields f)->H b=none:=λ{b o} e d1 d2=>by
   cases q:H b with
   | none=>rfl
   | some u=>
    rcases hA b (by rw[q];simp) with e'|e'
    .subst e';rw[ha] at e;cases e
     exact absurd rfl (d1 _ _)
    .subst e';rw[hP] at e;cases e
     exact absurd rfl (d2 _)
  have nsK:∀ {b:Addr} {m:Str->Option Value},s₁.heap.Ns b m->(X9 s₁.heap H).Ns b m:=λ{b m} ⟨o,es,ep,e,d,r⟩=>⟨o,es,ep,base_of e (noA e (λ_ _ z=>by rw[d] at z;cases z) (λ_ z=>by rw[d] at z;cases z)),d,r⟩
  have hKb:K.In (X9 s₁.heap H):=λb o e=>base_of (KX b o e) (by
   cases q:H b with
   | none=>rfl
   | some u=>
    rcases hA b (by rw[q];simp) with e'|e'
    .subst e';rw[hK (by rw[q];simp)] at e;cases e
    .subst e';rw[kP] at e;cases e)
  have hM:Mod K mg (X9 s₁.heap H):=⟨hKb,nsK hns,⟨mb,nsK hb,hbb⟩,let ⟨mc,h1,h2⟩:=hlim;⟨mc,nsK h1,h2⟩⟩
  have hB:BM mg (X9 s₁.heap H):=by
   obtain⟨bm,o,b1,b2,b3,b4,b5,b6,b7⟩:=hbm;exact⟨bm,o,b1,b2,b3,base_of b4 (noA b4 (λ_ _ z=>by rw[b7] at z;cases z) (λ_ z=>by rw[b7] at z;cases z)),b5,b6,b7⟩
  have e0:Va Pg w K mg (X9 s₁.heap H) callerA [] s₁ H:=⟨rfl,hM,λb o e=>zfe e,Nat.le_of_eq (zhW _ _),trivial,λb hb=>absurd (show b∈([]:List Addr) from hb) (by simp),hok,.of_eq hg⟩;refine codeAny_mono ((F _ hKb (nsK hns) hB).run callerA [] s₁ H ⟨[.ref a],[]⟩ [.ref a] [.ref a] _ _ hr e0 (hbind s₁ (.ref a)) (.cons rfl .nil) (hsp H hO aP hS)) λr s' h=>?_
  cases r with
  | error e=>exact(hCX H e s' h).elim
  | ok fl=>
   cases fl with
   | next=>exact False.elim h
   | brk=>exact False.elim h
   | cont=>exact False.elim h
   | ret u=>
    obtain⟨v,H',os,bare,un,hok',r',q⟩:=h;have q':v=.bl true:=q;subst q';obtain rfl:u=Value.bool true:=r';refine⟨rfl,⟨λb o e=>?_,λb o e=>un.there b o e (by simp)⟩,os,bare⟩;by_cases z:b=P
    .subst z;obtain⟨more,em⟩:=un.tbls b ps hO.1;have e2:=hok' b _ em;rw[hP] at e;cases e;exact .inr (.inl ⟨ht,rfl,ps,more,rfl,e2⟩)
    .refine .inl ?_;cases q:H b with
     | none=>exact un.keep b o e q (by intro z;exact absurd (show b∈([]:List Addr) from z) (by simp)) (by simp)
     | some u=>
      rcases hO.2 b z with z|⟨ob,xs,z⟩
      .rw[q] at z;cases z
      .have z2:=un.frzs b ob _ z;obtain⟨e1,_⟩:=hok b _ z;obtain⟨e2,_⟩:=hok' b _ z2;rw[e] at e1;cases e1
       exact e2
 cases hk:K.lookup a with
 | some o=>
  have e:=KX a o hk;rw[ha] at e;cases e;refine core (λb=>if b=P then some (.tbl ps) else none) ⟨if_pos rfl,λb nb=>.inl (if_neg nb)⟩ (.inr ⟨_,vs.toArray,_,hk,rfl,rfl,rfl,by rw[zU,lenV];exact hl,by simpa using rv⟩) (λb u z=>?_) (λb z=>?_) λz=>absurd (if_neg aP) z
  .by_cases hb:b=P
   .have z':=(if_pos hb).symm.trans z;cases z';subst hb;exact hP
   .have z':=(if_neg hb).symm.trans z;cases z'
  .by_cases hb:b=P
   .exact .inr hb
   .exact absurd (if_neg hb) z
 | none=>
  refine core (λb=>if b=P then some (.tbl ps) else if b=a then some (.frz { cls:=.type "list",data:=.seq vs.toArray } (.lst (ns.map V.int))) else none) ⟨if_pos rfl,λb nb=>?_⟩ (.inl (.inr ⟨{ cls:=.type "list",data:=.seq vs.toArray },(if_neg aP).trans (if_pos rfl)⟩)) (λb u z=>?_) (λb z=>?_) λ_=>hk
  .by_cases hb:b=a
   .exact .inr ⟨_,_,(if_neg nb).trans (if_pos hb)⟩
   .exact .inl ((if_neg nb).trans (if_neg hb))
  .by_cases hp:b=P
   .have z':=(if_pos hp).symm.trans z;cases z';subst hp;exact hP
   .by_cases hb:b=a
    .have z':=((if_neg hp).trans (if_pos hb)).symm.trans z;cases z';subst hb;exact⟨ha,by rw[zD];exact hl,vs,_,rv,ha⟩
    .have z':=((if_neg hp).trans (if_neg hb)).symm.trans z;cases z'
  .by_cases hp:b=P
   .exact .inr hp
   .by_cases hb:b=a
    .exact .inl hb
    .exact absurd ((if_neg hp).trans (if_neg hb)) z
def S5 (P:Addr)(lp:Pos)(q:Str):Sd:=λds S Q _=>∃ns:List Int,ds=[.ref 0]/\S=[.frz (ns.map D.int),.cod P lp q]/\ns.length<=63/\∀S',Q (.bl true) S'
theorem CI:∀ds S Q ex,S5 P lp q ds S Q ex->ds.length=1:=λds S Q ex h=>by
 obtain⟨ns,rfl,_⟩:=h;rfl
theorem zcH {K:Fg}{H:Hp}{a P:Addr}{ps:Array Value}{lp:Pos}{q:Str}{ns:List Int}(hl:ns.length<=63)(hO:Jg P ps H)(aP:a≠P)(tr:TriplesOk ps.toList)(hn:codeAmong lp ps.toList=none)(hS:SqL K H a (ns.map V.int)):upF K (S5 P lp q) [.ref a] H (λv _=>v=.bl true) λ_ _ _=>False:=by
 have sf:SqF K H a (ns.map V.int):=by
  rcases hS with (h|⟨o,h⟩)|h
  .rcases hO.2 a aP with z|⟨o,ys,z⟩
   .rw[h] at z;cases z
   .rw[h] at z;cases z
  .exact .inl ⟨o,h⟩
  .exact .inr h
 refine⟨λ_ _=>False,[a,P],[.frz (ns.map D.int),.cod P lp q],[.ref 0],λd _=>d=.bl true,⟨⟨rfl,λn b o h1 h2=>?_,λn m b xs ys h1 h2 h3 h4 o1 o2=>?_⟩,λ_ _ _ _ _ _ _ _ _ z=>z.elim⟩,Rps.cons (.ref rfl) Rps.nil,⟨ns,rfl,rfl,hl,λ_=>rfl⟩,λv H' r' d S' e aZ p q=>?_⟩
 .match n,h1,h2 with
  | 0,h1,h2=>
   cases h1;cases h2
   exact⟨_,sf,zcl ns⟩
  | 1,h1,h2=>
   cases h1;cases h2
   exact⟨rfl,ps,hO.1,tr,.inl hn⟩
  | n+2,h1,h2=>cases h1
 .match n,m,h1,h2,h3,h4 with
  | 0,m,h1,h2,h3,h4=>cases h3;cases o1
  | 1,0,h1,h2,h3,h4=>cases h4;cases o2
  | 1,1,h1,h2,h3,h4=>rfl
  | 1,m+2,h1,h2,h3,h4=>cases h2
  | n+2,m,h1,h2,h3,h4=>cases h1
 .subst q;cases p;rfl
theorem zcY {l:W.OpenLaw}{q:Program}{aG:List Str}{XP:(Str->Option Value)->Heap->Prop}{YP:World->Heap->Prop}{d:DefRec}{K:Params->Fg}{x:Str}{P c:Addr}{ps:Array Value}{lp:Pos}{lq:Str}(k:Nat)(hn:l.most=some 63)(hdf:d.params.defaults=[])(hr:ZF k callerA)
  (hY:∀(w:World)(h:Heap),YP w h->(K w.params).In h/\h.get? P=some { cls:=.none,data:=.fields ps })(hC:∀(p:Params)(h:Heap),(K p).In h->CodeHd h c P)(kP:∀p:Params,(K p).lookup P=none)(tr:TriplesOk ps.toList)(hcn:codeAmong lp ps.toList=none)
  (F:∀(w:World)(mg:Str->Option Value)(fa:Addr)(h:Heap),(K w.params).In h->h.Ns mainGlobals mg->mg d.name=some (.ref fa)->
   ∃fd:FuncData,(∀(s:Shared)(u:Value),BindsTo s fd ⟨[u],[]⟩ [(x,u)])/\∀base:Heap,(K w.params).In base->base.Ns mainGlobals mg->BM mg base->Yi l.prog w (K w.params) mg base (CXE l.prog w) k fa fd [x] (upF (K w.params) (S5 P lp lq))):
  W.WalkO q aG XP YP l.row.toRowW d [] (λf vs=>PySem.call f vs):=by
 refine Att.attach_call hn hdf λw s₀ s₁ mg mb fa o pm cd doc a vs ns G Y ho hd hcd hmg hobj hints aM hg=>?_
 obtain⟨KX,hP⟩:=hY w _ Y;obtain⟨fd,hb,hF⟩:=F w mg fa _ KX G.T.g hmg;have hbm:BM mg s₁.heap:=by
  obtain⟨bm,ob,b1,b2,b3,b4,b5,b6⟩:=G.T.bmain;refine⟨bm,ob,b1,b2,λe=>?_,b3,b4,b5,b6⟩;obtain⟨o,es,ep,e2,hd,_⟩:=G.T.g;rw[e,e2] at b3;cases b3;rw[hd] at b6;cases b6
 exact zaA KX G.T.g G.T.b G.T.builtins G.T.nolimit hg hobj hints (yK aM ⋯) hr hP ((hC _ _ KX).tab hP).isCodeTable (kP _) hbm hF hb (λH hO aP hS=>zcH aM hO aP tr hcn hS) λ_ _ _ ⟨_,_,_,_,_,_,_,_,_,_,_,_,z⟩=>z
theorem zdw {prog:Program}{w:World}{A:Around}{R:Result->Shared->Prop}(hh:A.handled=none){l it S:Addr}{zs:List Int}{aX:List Value}(hi:IntsAre aX zs)(hlI:l≠it)(hlS:l≠S)(hIS:it≠S){dv:Value}{h₀:Heap}{g:Array GenState}{dr:Drawn}{os:OsState}
  (hR:∀(b:Int)(t:Tok)(h':Heap)(tk':Nat),b∈zs->(∀y∈zs,y<=b)->(∀a o,a≠it->a≠S->h₀.get? a=some o->h'.get? a=some o)->R (.ok (.ret (.int b t))) ⟨h',g,dr,tk',os⟩)
  (hD:zs=[]->∀(h':Heap)(tk':Nat),(∀a o,a≠it->a≠S->h₀.get? a=some o->h'.get? a=some o)->R (.ok (.ret dv)) ⟨h',g,dr,tk',os⟩):
  ∀(n j:Nat)(h:Heap)(tk:Nat)(ob:Array Value)(c:Nat),zs.length-j=n->j<=zs.length->h.IsList l aX.toArray->(∀a o,a≠it->a≠S->h₀.get? a=some o->h.get? a=some o)->h.IsListIter it l j->h.get? S=some (seqObj "list" ob c)->(ob=#[]/\j=0\/∃(b:Int)(t:Tok),ob=#[.int b t,.int b t]/\b∈zs/\∀y∈zs.take j,y<=b)->
   codeAny (model prog w) A (.builtin "max.loop" ⟨[.ref it,.none,.ref S],[(Str.ofString "default",dv)]⟩) R ⟨h,g,dr,tk,os⟩:=by
 have hname:(toString "max"++toString ".loop":String)="max.loop":=by decide
 have Wk:=Walks.list (prog:=prog) (w:=w) (A:=A.in1) hh it l hlI aX.toArray
 have aM:=hi.length;intro n
 induction n with
 | zero=>
  intro j h tk ob c hn hj hl kp hit hS hvb;have ej:j=aX.length:=by omega
  refine codeAny_builtin PySem.F.entry_max_loop ?_;rw[Around.under_plainId PySem.F.plain_max_loop _];show wpAny _ A.in1 (seqItems? (.ref S) >>= _) _ _ _;refine wpAny_bind (wpAny_seqItems hS rfl ?_);show wpAny _ A.in1 (tryCatch (pyNext (.ref it)) _ >>= _) _ _ _;refine wpAny_bind (wpAny_tryCatch (Wk.done _ _ _ ⟨by rw[zU,<- ej];exact hit,hl⟩ λh' tk' hk'=>?_));rcases hvb with ⟨rfl,e0⟩|⟨b,t,rfl,hb,hbest⟩
  .exact wpAny_bind (wpAny_rule (wpAny_pure (hD (tD.mp (by omega)) _ _ λa o n1 n2 e=>hk' a o (by simpa using n1) (kp a o n1 n2 e))))
  have hS':=hk' S _ (by simpa using hIS.symm) hS
  show wpAny _ A.in1 (updateSeq S (λ_=>#[]) >>= _) _ _ _;refine wpAny_bind ?_;refine wpAny_updateSeq hS' rfl (wpAny_bind (wpAny_letGo (wpAny_pure ?_)));have s1:=Heap.SameBut.update h' S (Obj.mapSeq λ_=>(#[]:Array Value));refine hR b t _ _ hb (λy hy=>hbest y (by rw[yH (by omega)];exact hy)) λa o n1 n2 e=>(s1.2 a n2).trans (hk' a o (by simpa using n1) (kp a o n1 n2 e))
 | succ n ih=>
  intro j h tk ob c hn hj hl kp hit hS hvb;refine codeAny_builtin PySem.F.entry_max_loop ?_;rw[Around.under_plainId PySem.F.plain_max_loop _];show wpAny _ A.in1 (seqItems? (.ref S) >>= _) _ _ _;refine wpAny_bind (wpAny_seqItems hS rfl ?_);show wpAny _ A.in1 (tryCatch (pyNext (.ref it)) _ >>= _) _ _ _;refine wpAny_bind (wpAny_tryCatch (Wk.item j _ _ _ (by rw[zU];omega) ⟨hit,hl⟩ λu h' tk' hP hst' hk'=>?_));have hu:aX[j]?=some u:=by simpa using hP
  obtain⟨z,hz⟩:∃z,zs[j]?=some z:=⟨_,zE (by omega)⟩;obtain⟨t2,ht2⟩:=hi.get j z hz;rw[hu] at ht2;cases ht2;have hk1:∀a o,a≠it->h.get? a=some o->h'.get? a=some o:=λa o na e=>hk' a o (by simpa using na) e
  have hS1:=hk1 S _ hIS.symm hS
  have tk1:zs.take (j+1)=zs.take j++[z]:=by rw[List.take_add_one,hz];rfl
  have s1:=Heap.SameBut.update h' S (Obj.mapSeq λ_=>#[.int z t2,.int z t2]);obtain⟨c2,hc2⟩:∃c2,(h'.update S (Obj.mapSeq λ_=>#[.int z t2,.int z t2])).get? S=some (seqObj "list" #[.int z t2,.int z t2] c2):=⟨_,get?_update_seq hS1 λ_=>#[.int z t2,.int z t2]⟩;have go:=λ(tk0:Nat)(best:∀y∈zs.take j,y<=z)=>ih (j+1) (h'.update S (Obj.mapSeq λ_=>#[.int z t2,.int z t2])) tk0 _ c2 (by omega) (by omega) (by obtain⟨ol,hol,r⟩:=id hst'.2;exact⟨ol,(s1.2 l hlS).trans hol,r⟩) (λa o n1 n2 e=>(s1.2 a n2).trans (hk1 a o n1 (kp a o n1 n2 e))) (by obtain⟨oI,hoI,hoc,hod⟩:=id hst'.1;exact⟨oI,(s1.2 it hIS).trans hoI,hoc,hod⟩) hc2 (.inr ⟨z,t2,rfl,zF hz,λy hy=>by
   rw[tk1] at hy;rcases yI.1 hy with hy|hy
   .exact best y hy
   .rw[zH.mp hy];exact zQ _⟩)
  rcases hvb with ⟨rfl,rfl⟩|⟨b,t,rfl,hb,hbest⟩
  .show wpAny _ A.in1 (updateSeq S (λ_=>#[.int z t2,.int z t2]) >>= _) _ _ _;refine wpAny_bind (wpAny_updateSeq hS1 rfl ?_);rw[hname];exact wpAny_pure ⟨plainId_quiet PySem.F.plain_max_loop _,go _ λy hy=>by simp at hy⟩
  show wpAny _ A.in1 (tryCatch (holding [.int z t2,.int z t2] (richCompare .Gt (.int z t2) (.int b t) >>= _)) _ >>= _) _ _ _;refine wpAny_bind (wpAny_tryCatch (wpAny_holding (wpAny_bind (CmpOf.ints_gt (prog:=prog) (w:=w) (A:=A.in1) (P:=λi v=>∃t,v=.int (([z,b]:List Int).getD i 0) t) (λi=>([z,b]:List Int).getD i 0) (λi v h=>h) 0 1 _ _ _ _ _ ⟨t2,rfl⟩ ⟨t,rfl⟩ ?_))));refine wpAny_bind (wpAny_holding (wpAny_truthy_bool ?_));refine wpAny_bind (wpAny_letGo (wpAny_pure ?_));by_cases hb':([z,b]:List Int).getD 0 0 > ([z,b]:List Int).getD 1 0
  .simp only[hb',decide_true,if_true];have hb2:z > b:=hb';refine wpAny_bind ?_;refine wpAny_updateSeq hS1 rfl (wpAny_bind (wpAny_letGo ?_));rw[hname];exact wpAny_pure ⟨plainId_quiet PySem.F.plain_max_loop _,go _ λy hy=>by have:=hbest y hy;omega⟩
  .simp only[hb',decide_false,vL,if_false];have hb2:¬ z > b:=hb';refine wpAny_bind (wpAny_letGo ?_);rw[hname];refine wpAny_pure ⟨plainId_quiet PySem.F.plain_max_loop _,ih (j+1) _ _ _ c (by omega) (by omega) hst'.2 (λa o n1 n2 e=>hk1 a o n1 (kp a o n1 n2 e)) hst'.1 hS1 (.inr ⟨b,t,rfl,hb,λy hy=>?_⟩)⟩;rw[tk1] at hy;rcases yI.1 hy with hy|hy
   .exact hbest y hy
   .rw[zH.mp hy];omega
theorem zcZ (a d:Value):argsOk "max" ⟨[a],[(Str.ofString "default",d)]⟩:=by unfold argsOk;kernel_rfl
theorem Ax (hc:X.calm=true){l:Addr}{zs:List Int}{Q:VK}{d:V}{dv:Value}(I:Inv X pins σ H s)(hsq:SqL X.K H l (zs.map V.int))(rd:Zw d dv)(h0:zs=[]->Q d H)(hQ:∀m,m∈zs->(∀y∈zs,y<=m)->Q (.int m) H):
  wpAny (mX X) X.A (call (.builtin "max") [.ref l] [(Str.ofString "default",dv)]) (EP X pins σ Q) X.xe s:=by
 have hname:(toString "max"++toString ".loop":String)="max.loop":=by decide
 obtain⟨aX,rv,pl,hz⟩:=I.list hsq;have hi:=CN rv
 have aM:=hi.length
 have hls:=pl.isList;obtain⟨ol,hol,hrl⟩:=id hls;have hll:l<s.heap.objs.size:=Heap.lt_size hol;refine kmk_tree PySem.F.kind_max PySem.F.plain_max PySem.F.entry_max (zcZ _ _) ?_;show wpAny _ X.A.in1 (Builtin.Builtins.bindParams "max" ["key","default"] 0 ⟨[],[(Str.ofString "default",dv)]⟩ >>= _) _ _ s;refine wpAny_bind (wpAny_of_eq (show Builtin.Builtins.bindParams "max" ["key","default"] 0 ⟨[],[(Str.ofString "default",dv)]⟩=pure [none,some dv] from rfl) ?_);refine wpAny_bind (wpAny_pure ?_);refine wpAny_bind (wpAny_pyIter_list hls ?_);refine wpAny_bind (wpAny_newList ?_ (zZ _));rw[hname];have hS:(s.heap.push { cls:=.type "list_iterator",data:=.fields #[.ref l,.int 0 0] }).objs.size=s.heap.objs.size+1:=size_push' ..;refine wpAny_pure ⟨plainId_quiet PySem.F.plain_max_loop _,?_⟩;generalize ePI:s.heap.push { cls:=.type "list_iterator",data:=.fields #[.ref l,.int 0 0] }=hI at hS ⊢;have hk0:∀b o,s.heap.get? b=some o->(hI.push (seqObj "list" #[] 0)).get? b=some o:=λb o e=>Heap.get?_push_of_some _ (by rw[<- ePI];exact Heap.get?_push_of_some _ e)
 have gI:(hI.push (seqObj "list" #[] 0)).get? s.heap.objs.size=some { cls:=.type "list_iterator",data:=.fields #[.ref l,.int 0 0] }:=Heap.get?_push_of_some _ (by rw[<- ePI];exact Heap.get?_push_size _ rfl)
 have gS:(hI.push (seqObj "list" #[] 0)).get? hI.objs.size=some (seqObj "list" #[] 0):=Heap.get?_push_size _ rfl
 have leS:s.heap.objs.size<=hI.objs.size:=by rw[hS];exact wH _
 have hlI:l≠s.heap.objs.size:=zR hll
 have hlS:l≠hI.objs.size:=zR (zW hll leS)
 have hIS:s.heap.objs.size≠hI.objs.size:=by rw[hS];exact zR (vA _)
 have old:∀a o,s.heap.get? a=some o->a≠s.heap.objs.size/\a≠hI.objs.size:=λa o e=>⟨zR (Heap.lt_size e),zR (zW (Heap.lt_size e) leS)⟩
 have aY:∀(h':Heap)(tk':Nat),(∀a o,a≠s.heap.objs.size->a≠hI.objs.size->(hI.push (seqObj "list" #[] 0)).get? a=some o->h'.get? a=some o)->Inv X pins σ H { s with heap:=h',toks:=tk' }:=λh' tk' k=>I.kept (t':=tk') λb u e=>k b u (old b u e).1 (old b u e).2 (hk0 b u e)
 have ls0:(hI.push (seqObj "list" #[] 0)).IsList l aX.toArray:=⟨ol,hk0 _ _ hol,hrl⟩;exact zdw (prog:=X.prog) (w:=X.w) (A:=X.A) (R:=λr s'=>match r with|.ok (.ret u)=>EP X pins σ Q u s'|.ok _=>False|.error e=>X.xe e s') (I.ok.hd hc) hi hlI hlS hIS (h₀:=hI.push (seqObj "list" #[] 0)) (g:=s.gens) (dr:=s.drawn) (os:=s.os) (λb t h' tk' hb hbest k=>⟨.int b,H,aY h' tk' k,⟨t,rfl⟩,hQ b hb hbest⟩) (λe h' tk' k=>⟨d,H,aY h' tk' k,rd,h0 e⟩) _ 0 _ _ _ _ rfl (zZ _) ls0 (λa o _ _ e=>e) ⟨_,gI,rfl,rfl⟩ gS (.inl ⟨rfl,rfl⟩)
theorem ze8 {r:List Addr}:∀ {ds:List D} {zs:List Int} {vs:List V},YQ ds=some zs->Rps r H ds vs->vs=zs.map V.int:=λ{ds}=>by
 induction ds with
 | nil=>
  intro zs vs h p;have z:=p.unnil;subst z;simp[YQ] at h;subst h;rfl
 | cons d ds ih=>
  intro zs vs h p;obtain⟨v,vs',rfl,p1,p2⟩:=p.uncons;cases d with
  | int i=>
   simp only[YQ,zP] at h;obtain⟨zr,h,rfl⟩:=h;cases p1;rw[ih h p2];rfl
  | _=>simp[YQ] at h
def UB (Q:DK)(d e:D)(S:Sto):Prop:=match d with
 | .ref n=>match lAt S n with
  | some o=>∃zs,YQ (Zk o)=some zs/\(zs=[]->Q e S)/\∀m,m∈zs->(∀y∈zs,y<=m)->Q (.int m) S
  | none=>False
 | _=>False
@[irreducible] def PZ (tl td:TDE):TDE:=λdl S Q=>tl dl S λd S1=>td dl S1 λe S2=>UB Q d e S2
theorem zex (hc:X.calm=true)(hg:Gl X "max")(hm:X.mg "max"=none)(hv:bootBuiltins "max"=some (.builtin "max"))(ha:PD X Z a tl)(hd:PD X Z b td)(hs:starEach [a] X.env=[(false,eval a X.env)]:=by rfl):
  PD X Z (.Call (.Name "max" p) [a] [⟨some "default",b,dp⟩] pos) (PZ tl td):=by
 intro pins s σ H Qv I h;obtain⟨r,dl,S,Q,rs,aZ,h,ret⟩:=h;unfold PZ at h;refine wpAny_Call_Name_kw (Vg I hg hm hv ?_ ⋯ ⋯);have hda:PDA X Z [a] (So tl SD):=Za ha Zf hs;refine PyProof.Rows.callWith_kw (thn (hda pos pins s σ H (λvs H1=>∃(r1:List Addr)(S1:Sto)(d:D)(v:V),vs=[v]/\Ext r r1 H H1/\Rel X.K Z r1 S1 H1/\Rp r1 H1 d v/\td dl S1 λe S2=>UB Q d e S2) I ?_) λus s1 ⟨vs,H1,I1,rvs,r1,S1,d,v,evs,x1,aB,pd,hk⟩=>?_) (by show backTo pos (starEach [a] X.env)=_;rw[hs];rfl) (by rw[hs];rfl)
 .refine⟨r,dl,S,λds S1=>match ds with|[d]=>td dl S1 λe S2=>UB Q d e S2|_=>False,rs,aZ,h,λvs H1 r1 ds S1 e1 aB p1 q1=>?_⟩;dsimp only at q1;split at q1
  .rename_i d;obtain⟨v,vs',rfl,p2,p3⟩:=p1.uncons;have z:=p3.unnil;subst z;exact⟨r1,S1,d,v,rfl,e1,aB,p2,q1⟩
  .exact q1.elim
 subst evs;obtain⟨u0,rfl,ru0⟩:=XC rvs;refine PyProof.Rows.kws_cons (thn (hd pins s1 σ H1 (λe H2=>∃(r2:List Addr)(S2:Sto)(de:D),Ext r1 r2 H1 H2/\Rel X.K Z r2 S2 H2/\Rp r2 H2 de e/\UB Q d de S2) I1 ⟨r1,dl,S1,_,rs.ext x1,aB,hk,λe H2 r2 de S2 x2 aC p2 q2=>⟨r2,S2,de,x2,aC,p2,q2⟩⟩) λue s2 ⟨e,H2,I2,re,r2,S2,de,x2,aC,pe,hk⟩=>PyProof.Rows.kws_nil ?_);unfold UB at hk;split at hk
 rotate_left
 .exact hk.elim
 rename_i n hk0 ep;cases pd with
 | @ref _ a0 ha0=>
  cases ru0;split at hk
  rotate_left
  .exact hk.elim
  rename_i o ho;obtain⟨zs,hz,q0,q1⟩:=hk;obtain⟨hSn,hkL⟩:=Yy ho;obtain⟨xs,sq,rp⟩:=(aC.b.ob n a0 o (x2.adr _ _ ha0) hSn).list hkL;rw[ze8 hz rp] at sq;exact Ax hc I2 sq re (λz=>ret _ H2 r2 de S2 (x1.trans x2) aC pe (q0 z)) λm hm hb=>ret _ H2 r2 (.int m) S2 (x1.trans x2) aC (.int m) (q1 m hm hb)
open PySem PySem.Spec PyProof.Rows L2 PySem.W
section
variable {s:Shared}{A:Around}{w:World}{prog:Program}
end
def Mi (k:Nat)(caps:List Nat)(wi:TI)(gt:TG)(tc:TT)(te:TE):TE:=λσ H Q=>wi σ H λJ H1=>∀D,H1 D=none->∃W:Nat->Nat->Hp->Prop,(∃m,W 0 m (upd H1 D (.lst [])))/\∀i m H,W i m H->
 (J.stop i H/\Q (.ref D) H)\/(J.go i H/\∀x H',J.yld i H x H'->∀o:L2.St,o.length=k->gt x (o++Yh caps σ) H' λσ8 H8=>(∃o8:L2.St,o8.length=k/\σ8=o8++Yh caps σ)/\
  tc σ8 H8 λb H9=>if b=true then te σ8 H9 λy H3=>∃ys,H3 D=some (.lst ys)/\ys.length<sizeLine/\∃m',m'<m/\W (i+1) m' (upd H3 D (.lst (ys++[y]))) else ∃m',m'<m/\W (i+1) m' H9)
theorem Dw (hc:X.calm=true)(cs:Xw sc X.env.scope own N)(hN:∀(j:Nat)(y:Str),N[j]?=some y->∃i,caps[j]?=some i/\X.N[i]?=some y)(aM:caps.length=N.length)(hi:PI X (.Tuple aL kk tp) aU wi)(hg:∀cl C s0 H0 fp pn,PG (Cx.comp X sc (own++N) cl C s0 H0 fp pn) (.Tuple aL kk tp) gt)(he:∀cl C s0 H0 fp pn,PE (Cx.comp X sc (own++N) cl C s0 H0 fp pn) aW te)(ht:∀cl C s0 H0 fp pn,PTs (Cx.comp X sc (own++N) cl C s0 H0 fp pn) ifs tc)(hs:∀y,foldedSetIterable aU X.env y=pure y)(I:Inv X pins σ H s)(h:Mi own.length caps wi gt tc te σ H Q)(aY:∀D C s',SH X pins σ C Q D s'->compPost (mX X) X.A X.xe use Qr (.ref D) C (.ok .next) s'):
  wpAny (mX X) X.A (comprehension (.ListComp aW [⟨.Tuple aL kk tp,aU,ifs,0⟩] sc pos) sc X.env p2 (newList []) false (eval aU X.env) use) Qr X.xe s:=
 Jf hc cs hN aM hi hg he ht hs I h (λ_ _ b=>b) aY
section
variable {X:Cx}{Z:Zx}{aW:Expr}{pos:Pos}{sc ar:Scope}{N:List Str}{caps:List Nat}
def Iu (caps:List Nat)(tc:TDT)(te:TDE)(k:Nat)(dl:Ev)(d1 d2:D)(S:Sto)(nx:Sto->Prop):Prop:=
 tc (some d1::some d2::Z8 caps dl) S λb S1=>if b=true then te (some d1::some d2::Z8 caps dl) S1 λy S2=>match S2[k]? with
  | some (.lst ys)=>ys.length<1000/\nx (S2.set k (.lst (ys++[y])))
  | _=>False
 else nx S1
@[irreducible] def WY (caps:List Nat)(ta:TDA)(tc:TDT)(te:TDE):TDE:=λdl S Q=>ta dl S λds S1=>match ds with
 | [.ref n]=>(lAt S1 n).isSome=true/\∃W:Nat->Nat->Sto->Prop,(∃m,W 0 m (S1++[.lst []]))/\∀k m S2,W k m S2->match lAt S2 n with
  | some o=>match (Zk o)[k]? with
   | some y=>Iu caps tc te S1.length dl (.int (k:Int)) y S2 λS3=>∃m',m'<m/\W (k+1) m' S3
   | none=>k=(Zk o).length/\Q (.ref S1.length) S2
  | none=>False
 | _=>False
theorem Ed {ta:TDA}{tc:TDT}{te:TDE}{σ:L2.St}{H:Hp}{Qv:VK}(h:up X.K Z (WY caps ta tc te) σ H Qv):
  Mi 2 caps (Im X.K (upA X.K Z ta)) (Vx X.K 2 (VB [0,1])) (upT X.K Z0 tc) (up X.K Z0 te) σ H Qv:=by
 obtain⟨r,dl,S,Q,rs,aZ,h,ret⟩:=h;unfold WY at h;refine⟨r,dl,S,_,rs,aZ,h,λvs H1 r1 ds S1 x1 aB p1 q1=>?_⟩;split at q1
 .rename_i n;obtain⟨v,vs',rfl,p2,p3⟩:=p1.uncons;have z:=p3.unnil;subst z;cases p2 with
  | @ref n a hr=>
   obtain⟨aQ,W,⟨m0,w0⟩,turn⟩:=q1;obtain⟨o1,eo1⟩:=yY.mp aQ;obtain⟨xs1,sq1,_⟩:=Xx (r:=r1) hr aB.b eo1;refine⟨a,rfl,⟨xs1,sq1⟩,λD0 hD=>?_⟩;obtain⟨aC,x2⟩:=aB.b.push (ds:=[]) (xs:=[]) hD Rps.nil;refine⟨λk m H'=>∃r' S',Ext (r1++[D0]) r' (upd H1 D0 (.lst [])) H'/\ZY X.K r' S' H'/\W k m S',⟨m0,_,_,Ext.refl,aC,w0⟩,?_⟩;rintro k m H2 ⟨r2,S2,x3,rb2,w2⟩;have ha2:r2[S1.length]?=some D0:=x3.adr _ _ (Rr aB.len)
   have hr2:r2[n]?=some a:=(x2.trans x3).adr _ _ hr
   have q:=turn k m S2 w2;split at q
   .rename_i o eo;obtain⟨xs,sq,pr⟩:=Xx (r:=r2) hr2 rb2 eo;split at q
    .rename_i y ey;obtain⟨v,hv,pv⟩:=pr.get ey;refine .inr ⟨⟨xs,v,sq,hv⟩,λv' H' y' o8 ho8=>?_⟩;obtain⟨T,w,rfl,hT,rfl,hw⟩:=y';have ew:w=v:=by
      have z:=hw xs sq;rw[hv] at z;exact(Option.some.inj z).symm
     subst ew;obtain⟨c1,c2,rfl⟩:∃c1 c2,o8=[c1,c2]:=by
      match o8,ho8 with
      | [c1,c2],_=>exact⟨c1,c2,rfl⟩
     have x4:Ext r2 r2 H2 (upd H2 T (.tup [.int (k:Int),w])):=O2 hT
     have rb3:=rb2.same (XB (o:=.tup [.int (k:Int),w]) hT)
     have rs3:=rs.ext (x1.trans (x2.trans (x3.trans x4)));refine⟨T,[.int (k:Int),w],rfl,SqT.of YN,rfl,rfl,⟨[some (.int (k:Int)),some w],rfl,rfl⟩,?_⟩;have rsY:=JM (caps:=caps) rs3 (.int (k:Int)) (pv.ext x4);refine⟨r2,_,S2,_,rsY,⟨rb3,λ_ _ _ _ _ _ _ _ _ z=>z.elim⟩,q,λb H9 r9 S9 x9 rel9 q9=>?_⟩;cases b with
     | false=>
      rw[if_neg zN] at q9 ⊢;obtain⟨m',hm,q9⟩:=q9;exact⟨m',hm,r9,S9,x3.trans (x4.trans x9),rel9.b,q9⟩
     | true=>
      rw[if_pos rfl] at q9 ⊢;refine⟨r9,_,S9,_,rsY.ext x9,rel9,q9,λz H4 r4 dz S4 x6 aF p4 q4=>?_⟩;split at q4
      .rename_i ys eys;obtain⟨hl,m',hm,q4⟩:=q4;have ha4:r4[S1.length]?=some D0:=x6.adr _ _ (x9.adr _ _ ha2);obtain⟨zs,hD4,pz⟩:=aF.b.ob _ _ _ ha4 eys;obtain⟨rel5,x7⟩:=aF.b.set ha4 eys (pz.snoc p4);exact⟨zs,hD4,by rw[<- pz.1];exact Rx (xD hl),m',hm,r4,_,x3.trans (x4.trans (x9.trans (x6.trans x7))),rel5,q4⟩
      .exact q4.elim
    .obtain⟨hk,q⟩:=q;exact .inl ⟨⟨xs,sq,by rw[<- pr.1];exact hk.symm⟩,ret _ H2 r2 _ S2 (x1.trans (x2.trans x3)) ⟨rb2,aZ.xw.ext (x1.trans (x2.trans x3))⟩ (.ref ha2) q⟩
   .exact q.elim
 .exact q1.elim
theorem MS (har:X.env.scope=ar)(hc:X.calm=true)(cs:Xw sc ar [x1,x2] N)(hl1:sc.names.lookup x1=some .local)(hl2:sc.names.lookup x2=some .local)(hN:Hn X caps N)(hnd:([x1,x2]++N).Nodup)(hg:Gl X "enumerate")(hm:X.mg "enumerate"=none)(hv:bootBuiltins "enumerate"=some (.type "enumerate"))(ha:PDA X Z [a] ta)(ht:∀cl C s0 H0 fp pn,WH (Cx.comp X sc ([x1,x2]++N) cl C s0 H0 fp pn) ifs tc)(he:∀cl C s0 H0 fp pn,PD (Cx.comp X sc ([x1,x2]++N) cl C s0 H0 fp pn) Z0 aW te)(hse:starEach [a] X.env=[(false,eval a X.env)]:=by rfl)(hs:∀y,foldedSetIterable (.Call (.Name "enumerate" p) [a] [] aK) X.env y=pure y:=by intro _;rfl):
  PD X Z (.ListComp aW [⟨.Tuple [.Name x1 p1,.Name x2 p2] kk tp,.Call (.Name "enumerate" p) [a] [] aK,ifs,0⟩] sc pos) (WY caps ta tc te):=by
 subst har;intro pins s σ H Q I h;rw[eval_ListComp];have h:=Ed h;refine Dw (use:=none) (ifs:=ifs) (tc:=upT X.K Z0 tc) (gt:=Vx X.K 2 (VB [0,1])) (te:=up X.K Z0 te) hc cs (Xj hN).1 (Xj hN).2 (MG hg hm hv ha hse) (λcl C s0 H0 fp pn=>?_) he ht hs I h λD C s' f=>?_
 .have l1:(Cx.comp X sc ([x1,x2]++N) cl C s0 H0 fp pn).env.scope.names.lookup x1=some .local:=lookup_relabel_local hl1
  have l2:(Cx.comp X sc ([x1,x2]++N) cl C s0 H0 fp pn).env.scope.names.lookup x2=some .local:=lookup_relabel_local hl2;exact Vq hc (Ve hnd (.cons rfl (.inl l1) (.inr l1) (.cons rfl (.inl l2) (.inr l2) .nil))) rfl rfl
 .obtain⟨⟨H',I',q,hC⟩,⟨m,ns⟩,l,o,c,p⟩:=f;exact⟨m,ns,λh' sb=>⟨.ref D,H',I'.turned (t':=s'.toks) (λb ob hb e=>(sb.2 b hb).trans e) hC l (.inr o) c p,rfl,q⟩⟩
end
section
variable {P:Program}{w:World}{K:Fg}{mg:Str->Option Value}{base:Heap}
structure Lm (K:Fg)(mg:Str->Option Value)(base:Heap)(fd:FuncData)(T:Addr) where
 c:Addr
 code:fd.code=.ref c
 hd:CodeHd base c T
 bm:BM mg base
 kn:∀o,K.lookup T≠some o
theorem zdB {x qual:Str}{st:Stmt}{f c:Addr}{fd:FuncData}{N ps:List Str}{k:Nat}{sd:Sd}(F:Fun K x qual st f fd)(Sc:Zl N ps (Zh st))(len:∀ds S Q ex,sd ds S Q ex->ds.length=ps.length)(hcd:fd.code=.ref c)
  (hbody:∀(A:Around)(outer:List Env)(s:Shared)(H:Hp)(E:XK),ZF k (A.deeper (envOfC qual (Zh st) s.heap.objs.size f (.ref c)))->
   ∃t,YL (XA (CXE P w) P w K mg base N qual (Zh st) f (.ref c) A outer s H E).nox Z0 (Xl st) t/\∀ds S Q ex,sd ds S Q ex->t { nx:=λ_ S'=>Q .non S',rt:=Q } (XD N ds) S):Yi P w K mg base (CXE P w) (k+1) f fd ps (upF K sd):=WL F Sc len λcdv A o s H E e hr=>by
 cases hcd.symm.trans e;exact hbody A o s H E hr
theorem zbE (hr:ZF k A)(env:Env)(h:j+2<=k:=by decide):ZF j (A.in1.deeper env):=(ZF.in1 (k:=j+1) (hr.mono h)).deeper env
theorem AS (hr:ZF k A)(h:j+1<=k:=by decide):A.in1.depth<recursionLimit:=(ZF.in1 (k:=j) (hr.mono h)).depth
theorem lsc (a:sc.kind=.function:=by rfl)(b:sc.isCoroutine=false:=by rfl)(c:sc.isGenerator=false:=by rfl)(d:∀y∈sc.names,y.2≠.cell:=by decide +kernel)(e:∀y∈own,sc.names.lookup y=some .local:=by decide +kernel)(f:∀y∈caps,sc.names.lookup y=some .free:=by decide +kernel)(g:∀y∈sc.names,y.2=.free->ar.names.lookup y.1=some .cell:=by decide +kernel)(i:own.Nodup:=by decide +kernel):OF sc ar own caps:=⟨a,b,c,d,e,f,g,i⟩
end
section
variable {X:Cx}{Z:Zx}{aW aU:Expr}{aL:List Expr}{kk:Nat}{tp pos:Pos}{sc ar:Scope}{own N:List Str}{caps:List Nat}{wi:TI}{gt:TG}{te:TE}
theorem zgi {ifs:List Expr}{tc:TT}{i:Nat}{y:Str}{py spos:Pos}(hc:X.calm=true)(cs:Xw sc X.env.scope own N)(hN:Hn X caps N)
  (hi:PI X (.Tuple aL kk tp) aU wi)(hg:∀cl C s0 H0 fp pn,PG (Cx.comp X sc (own++N) cl C s0 H0 fp pn) (.Tuple aL kk tp) gt)(he:∀cl C s0 H0 fp pn,PE (Cx.comp X sc (own++N) cl C s0 H0 fp pn) aW te)(ht:∀cl C s0 H0 fp pn,PTs (Cx.comp X sc (own++N) cl C s0 H0 fp pn) ifs tc)
  (hNd:X.N.Nodup)(hy:X.N[i]?=some y)(hl:X.env.scope.names.lookup y=some .local)
  (hsw:swapsWith (.ListComp aW [⟨.Tuple aL kk tp,aU,ifs,0⟩] sc pos) (some (.Name y py)) spos.line X.env=pure true)
  (hs:∀y,foldedSetIterable aU X.env y=pure y:=by intro _;rfl):PS X (.Assign [.Name y py] (.ListComp aW [⟨.Tuple aL kk tp,aU,ifs,0⟩] sc pos) spos) (λE σ H=>Mi own.length caps wi gt tc te σ H λv H1=>E.nx (σ.set i (some v)) H1):=
 K1 (λI h aY=>Dw hc cs (Xj hN).1 (Xj hN).2 hi hg he ht hs I h aY) hNd hy hl hsw
theorem zaO {ifs:List Expr}{ta:TDA}{tc:TDT}{te:TDE}{x1 x2:Str}{p1 p2 p aK:Pos}{a:Expr}{i:Nat}{y:Str}{py spos:Pos}(har:X.env.scope=ar)(hc:X.calm=true)(cs:Xw sc ar [x1,x2] N)(hl1:sc.names.lookup x1=some .local)(hl2:sc.names.lookup x2=some .local)
  (hN:Hn X caps N)(hnd:([x1,x2]++N).Nodup)(hNd:X.N.Nodup)(hy:X.N[i]?=some y)(hlo:ar.names.lookup y=some .local)(hg:Gl X "enumerate")(hm:X.mg "enumerate"=none)(hv:bootBuiltins "enumerate"=some (.type "enumerate"))(ha:PDA X Z [a] ta)
  (ht:∀cl C s0 H0 fp pn,WH (Cx.comp X sc ([x1,x2]++N) cl C s0 H0 fp pn) ifs tc)
  (he:∀cl C s0 H0 fp pn,PD (Cx.comp X sc ([x1,x2]++N) cl C s0 H0 fp pn) Z0 aW te)
  (hsw:swapsWith (.ListComp aW [⟨.Tuple [.Name x1 p1,.Name x2 p2] kk tp,.Call (.Name "enumerate" p) [a] [] aK,ifs,0⟩] sc pos) (some (.Name y py)) spos.line X.env=pure true:=by rfl)
  (hse:starEach [a] X.env=[(false,eval a X.env)]:=by rfl)(hs:∀y,foldedSetIterable (.Call (.Name "enumerate" p) [a] [] aK) X.env y=pure y:=by intro _;rfl):
  PDS X Z (.Assign [.Name y py] (.ListComp aW [⟨.Tuple [.Name x1 p1,.Name x2 p2] kk tp,.Call (.Name "enumerate" p) [a] [] aK,ifs,0⟩] sc pos) spos) (Tt i (WY caps ta tc te)):=by
 subst har;refine Yv (zgi hc cs hN (gt:=Vx X.K 2 (VB [0,1])) (tc:=upT X.K Z0 tc) (te:=up X.K Z0 te) (MG hg hm hv ha hse) (λcl C s0 H0 fp pn=>?_) he ht hNd hy hlo hsw hs) λF σ H h=>PN (λ_ h=>Ed h) h
 have l1:(Cx.comp X sc ([x1,x2]++N) cl C s0 H0 fp pn).env.scope.names.lookup x1=some .local:=lookup_relabel_local hl1
 have l2:(Cx.comp X sc ([x1,x2]++N) cl C s0 H0 fp pn).env.scope.names.lookup x2=some .local:=lookup_relabel_local hl2;exact Vq hc (Ve hnd (.cons rfl (.inl l1) (.inr l1) (.cons rfl (.inl l2) (.inr l2) .nil))) rfl rfl
end
end L3
namespace Mine
open PySem PySem.Spec PyProof.Rows L2 L3
abbrev LT:Addr:=801
abbrev LP:Pos:=⟨432,32,432,73⟩
abbrev LQ:Str:="Book.to_look_at.<locals>.<lambda>"
theorem fsc {N P:List Str}{sc:Scope}(a:sc.kind=.function:=by rfl)(b:sc.isCoroutine=false:=by rfl)(c:sc.isGenerator=false:=by rfl)(d:N.Nodup:=by decide +kernel)(e:N.take P.length=P:=by rfl)(f:∀x∈P,sc.names.lookup x=some .local\/sc.names.lookup x=some .cell:=by decide +kernel)(g:∀y∈sc.names,y.2≠.free:=by decide +kernel):Zl N P sc:=⟨a,b,c,d,e,f,g⟩
theorem csc {sc ar:Scope}{x:Str}{caps:List Str}(a:sc.kind=.function:=by rfl)(b:∀y∈sc.names,y.2≠.cell:=by decide +kernel)(c:∀y∈sc.names,y.2=.local->sc.names.lookup y.1=some .local:=by decide +kernel)(d:sc.names.lookup x=some .local:=by rfl)(e:∀y∈caps,sc.names.lookup y=some .free:=by decide +kernel)(f:∀y∈sc.names,y.2=.free->ar.names.lookup y.1=some .cell:=by decide +kernel):W6 sc ar x caps:=⟨a,b,c,d,e,f⟩
theorem Vf {sc ar:Scope}{own caps:List Str}(a:sc.kind=.function:=by rfl)(b:∀y∈sc.names,y.2≠.cell:=by decide +kernel)(c:∀y∈sc.names,y.2=.local->sc.names.lookup y.1=some .local:=by decide +kernel)(e:∀y∈caps,sc.names.lookup y=some .free:=by decide +kernel)(f:∀y∈sc.names,y.2=.free->ar.names.lookup y.1=some .cell:=by decide +kernel):Xw sc ar own caps:=⟨a,b,c,e,f⟩
abbrev Ln (sp:Sd)(n:Nat):Prop:=∀ds S Q ex,sp ds S Q ex->ds.length=n
theorem Zg {X:Cx}{x:Str}{p pos:Pos}{e:Expr}{es:List Expr}{t:TDA}{k j:Nat}{ps:List Str}{sd:Sd}{ex:Ev->Addr->Sto->Prop}(G:Fk X.prog X.w X.K X.mg X.base k x ps sd)(hr:ZF j X.A)(ha:PDA X ⟨ex,Z0.w⟩ (e::es) t)(hk:k<=j:=by decide)(hg:Gl X x:=by rfl)
  (hdb:(x==("__debug__":Str))=false:=by decide)(he:He X e es:=by rfl)(hpl:Hp1 X pos es:=by rfl):PD X ⟨ex,Z0.w⟩ (.Call (.Name x p) (e::es) [] pos) (Kg ex sd t):=Mp G (hr.mono hk) YE hg ha hdb he hpl
abbrev Ia:Stmt:=Zy (top 84) 0
abbrev QH:List Str:=["self","box"]
theorem za7:Zl ["self","box"] QH (Zh Ia):=fsc
abbrev MI:Stmt:=Zy (top 84) 5
abbrev PH:List Str:=["self"]
theorem zg6:Zl ["self"] PH (Zh MI):=fsc
abbrev EG:Stmt:=top 26
abbrev Qh:List Str:=["a"]
theorem Bf:Zl ["a"] Qh (Zh EG):=fsc
abbrev Kh:Stmt:=top 82
abbrev Ta:List Str:=["box"]
theorem zaP:Zl ["box"] Ta (Zh Kh):=fsc
abbrev Gk:Stmt:=top 83
abbrev Td:List Str:=["box"]
theorem zbD:Zl ["box"] Td (Zh Gk):=fsc
abbrev RE:Stmt:=Zy (top 84) 4
abbrev T8:List Str:=["self"]
theorem HB:Zl ["self","waiting"] T8 (Zh RE):=fsc
abbrev JL:Stmt:=top 52
abbrev Rm:List Str:=["word","span"]
theorem zct:Zl ["word","span"] Rm (Zh JL):=fsc
abbrev Fq:Stmt:=top 14
abbrev OL:List Str:=["a","b"]
theorem zeO:Zl ["a","b"] OL (Zh Fq):=fsc
abbrev Ez:Stmt:=top 16
abbrev Vr:List Str:=["top",q71]
theorem zeL:Zl ["top",q71] Vr (Zh Ez):=fsc
abbrev E9:Stmt:=top 17
abbrev Q1:List Str:=["low","high","grid"]
theorem zbK:Zl ["low","high","grid"] Q1 (Zh E9):=fsc
abbrev HH:Stmt:=Zy (top 42) 2
abbrev NG:List Str:=["self",q3,"box","grid"]
theorem D4:Zl ["self",q3,"box","grid",q8] NG (Zh HH):=fsc
abbrev JY:Stmt:=Zy (top 43) 2
abbrev P7:List Str:=["self",q3,"box","grid"]
theorem zhg:Zl ["self",q3,"box","grid"] P7 (Zh JY):=fsc
abbrev FQ:Stmt:=top 18
abbrev Wi:List Str:=["a","b"]
theorem za8:Zl ["a","b"] Wi (Zh FQ):=fsc
abbrev IB:Stmt:=Zy (top 45) 1
abbrev NI:List Str:=["self",q3,"box","grid"]
theorem zfI:Zl ["self",q3,"box","grid"] NI (Zh IB):=fsc
abbrev DD:Stmt:=top 19
abbrev Wb:List Str:=["a","b"]
theorem zbT:Zl ["a","b"] Wb (Zh DD):=fsc
abbrev E0:Stmt:=Zy (top 46) 1
abbrev Ql:List Str:=["self",q3,"box","grid"]
theorem Ae:Zl ["self",q3,"box","grid"] Ql (Zh E0):=fsc
abbrev Fl:Stmt:=top 20
abbrev VM:List Str:=["a","b","grid"]
theorem Hk:Zl ["a","b","grid",VV] VM (Zh Fl):=fsc
abbrev G1:Stmt:=Zy (top 47) 1
abbrev Nc:List Str:=["self",q3,"box","grid"]
theorem zhr:Zl ["self",q3,"box","grid"] Nc (Zh G1):=fsc
abbrev DG:Stmt:=top 13
abbrev WW:List Str:=[q8,"many"]
theorem Nu:Zl [q8,"many","worth","step"] WW (Zh DG):=fsc
abbrev MD:Stmt:=top 21
abbrev Ra:List Str:=["a","many","grid"]
theorem Pb:Zl ["a","many","grid",q90,"powers",q71] Ra (Zh MD):=fsc
abbrev GQ:Stmt:=Zy (top 48) 2
abbrev QZ:List Str:=["self",q3,"box","grid"]
theorem zfa:Zl ["self",q3,"box","grid"] QZ (Zh GQ):=fsc
abbrev IP:Stmt:=Zy (top 48) 0
abbrev Pj:List Str:=["self","one","many"]
theorem zg2:Zl ["self","one","many"] Pj (Zh IP):=fsc
abbrev EK:Stmt:=Zy (top 42) 0
abbrev P8:List Str:=["self","top",q71]
theorem zeX:Zl ["self","top",q71] P8 (Zh EK):=fsc
abbrev IJ:Stmt:=Zy (top 43) 0
abbrev OP:List Str:=["self",Wh]
theorem zbo:Zl ["self",Wh] OP (Zh IJ):=fsc
abbrev F2:Stmt:=Zy (top 44) 0
abbrev Qw:List Str:=["self","one",q80]
theorem zcO:Zl ["self","one",q80] Qw (Zh F2):=fsc
abbrev zic:Stmt:=Zy (top 44) 0
abbrev zgf:List Str:=["self","one",q80]
abbrev zib:Stmt:=Zy (top 44) 0
abbrev BZ:List Str:=["self","one",q80]
abbrev Ef:Stmt:=top 49
abbrev TL:List Str:=["node"]
theorem zdV:Zl ["node"] TL (Zh Ef):=fsc
abbrev DR:Stmt:=top 51
abbrev XU:List Str:=[q7,"box","grid"]
theorem Jr:Zl [q7,"box","grid","found","node"] XU (Zh DR):=fsc
abbrev FK:Stmt:=top 76
abbrev SK:List Str:=[q7,"row","box","grid"]
theorem Iq:Zl [q7,"row","box","grid","at"] SK (Zh FK):=fsc
abbrev E6:Stmt:=top 23
abbrev Vb:List Str:=["a","b"]
theorem KS:Zl ["a","b","low","high"] Vb (Zh E6):=fsc
abbrev Es:Stmt:=top 71
abbrev Qy:List Str:=["word","span"]
theorem zgO:Zl ["word","span"] Qy (Zh Es):=fsc
abbrev G5:Stmt:=Zy (top 42) 3
abbrev Qi:List Str:=["self",q3,"here","grid"]
theorem zeA:Zl ["self",q3,"here","grid"] Qi (Zh G5):=fsc
abbrev Fb:Stmt:=Zy (top 43) 3
abbrev Qu:List Str:=["self",q3,"here","grid"]
theorem zeE:Zl ["self",q3,"here","grid"] Qu (Zh Fb):=fsc
abbrev Gs:Stmt:=Zy (top 45) 2
abbrev OJ:List Str:=["self","here","x","y","grid"]
theorem ze7:Zl ["self","here","x","y","grid"] OJ (Zh Gs):=fsc
abbrev GW:Stmt:=Zy (top 45) 3
abbrev QN:List Str:=["self","here","x","y","grid"]
theorem BR:Zl ["self","here","x","y","grid"] QN (Zh GW):=fsc
abbrev Iz:Stmt:=Zy (top 44) 1
abbrev Pc:List Str:=["self",q3,"here","grid"]
theorem NB:Zl ["self",q3,"here","grid","x","y"] Pc (Zh Iz):=fsc
abbrev Gb:Stmt:=Zy (top 46) 2
abbrev Mw:List Str:=["self","here","x","y","grid"]
theorem zeu:Zl ["self","here","x","y","grid"] Mw (Zh Gb):=fsc
abbrev Eb:Stmt:=Zy (top 46) 3
abbrev Lc:List Str:=["self","here","x","y","grid"]
theorem zaR:Zl ["self","here","x","y","grid"] Lc (Zh Eb):=fsc
abbrev zig:Stmt:=Zy (top 44) 1
abbrev AF:List Str:=["self",q3,"here","grid"]
abbrev G7:Stmt:=top 29
abbrev Np:List Str:=["span"]
theorem zgL:Zl ["span"] Np (Zh G7):=fsc
abbrev JO:Stmt:=top 32
abbrev SS:List Str:=["x","low","high"]
theorem zfw:Zl ["x","low","high"] SS (Zh JO):=fsc
abbrev DY:Stmt:=top 33
abbrev O8:List Str:=["top",q71]
theorem BV:Zl ["top",q71] O8 (Zh DY):=fsc
abbrev J6:Stmt:=top 34
abbrev O3:List Str:=[VV,"x","y"]
theorem Sj:Zl [VV,"x","y","low_by","high_by","low","high"] O3 (Zh J6):=fsc
abbrev Ek:Stmt:=top 24
abbrev QE:List Str:=["a","b"]
theorem zhc:Zl ["a","b"] QE (Zh Ek):=fsc
abbrev J4:Stmt:=top 31
abbrev Sh:List Str:=["one",q80]
theorem Bm:Zl ["one",q80] Sh (Zh J4):=fsc
abbrev F0:Stmt:=top 30
abbrev VJ:List Str:=["pair"]
theorem zau:Zl ["pair"] VJ (Zh F0):=fsc
abbrev HN:Stmt:=top 35
abbrev RK:List Str:=["z","x","y","grid"]
theorem Uu:Zl ["z","x","y","grid",VV,"left","turned"] RK (Zh HN):=fsc
abbrev GJ:Stmt:=Zy (top 47) 2
abbrev NN:List Str:=["self","here","x","y","grid"]
theorem zdz:Zl ["self","here","x","y","grid"] NN (Zh GJ):=fsc
abbrev Fd:Stmt:=Zy (top 47) 3
abbrev Jt:List Str:=["self","here","x","y","grid"]
theorem Ar:Zl ["self","here","x","y","grid"] Jt (Zh Fd):=fsc
abbrev zie:Stmt:=Zy (top 44) 1
abbrev zga:List Str:=["self",q3,"here","grid"]
abbrev Fv:Stmt:=top 37
abbrev Q2:List Str:=["guess",q8,"many"]
theorem zbv:Zl ["guess",q8,"many"] Q2 (Zh Fv):=fsc
abbrev Cu:Stmt:=top 36
abbrev TY:List Str:=[q8,"many"]
theorem SU:Zl [q8,"many","guess","better"] TY (Zh Cu):=fsc
abbrev Qq:Stmt:=top 38
abbrev Wt:List Str:=[q8,"many"]
theorem Qg:Zl [q8,"many","below"] Wt (Zh Qq):=fsc
abbrev Em:Stmt:=top 39
abbrev NH:List Str:=["z","x","many","grid"]
theorem T7:Zl ["z","x","many","grid","scale","powers","low","high"] NH (Zh Em):=fsc
abbrev FN:Stmt:=Zy (top 48) 3
abbrev Qa:List Str:=["self",q3,"here","grid"]
theorem Dx:Zl ["self",q3,"here","grid","x"] Qa (Zh FN):=fsc
abbrev Iv:Stmt:=top 72
abbrev PB:List Str:=[q7,"row","box","grid"]
theorem VN:Zl [q7,"row","box","grid","at",q3,"wished",q8,"left","part"] PB (Zh Iv):=fsc
abbrev DI:Stmt:=top 73
abbrev QO:List Str:=[q7,"row","box","grid"]
theorem Ry:Zl [q7,"row","box","grid",q3,"left",q8,"span","node"] QO (Zh DI):=fsc
abbrev Dc:Stmt:=top 75
abbrev SM:List Str:=["box","k","span"]
theorem zaU:Zl ["box","k","span"] SM (Zh Dc):=fsc
abbrev GZ:Stmt:=top 77
abbrev Nv:List Str:=["span","cut"]
theorem zdU:Zl ["span","cut"] Nv (Zh GZ):=fsc
abbrev HE:Stmt:=top 79
abbrev Nr:List Str:=[q7,"row","box","grid","cut"]
theorem L0:Zl [q7,"row","box","grid","cut","k","span"] Nr (Zh HE):=fsc
abbrev HI:Stmt:=top 78
abbrev Q6:List Str:=["span","cut"]
theorem zaj:Zl ["span","cut"] Q6 (Zh HI):=fsc
abbrev HC:Stmt:=top 80
abbrev OT:List Str:=[q7,"row","box","grid"]
theorem UI:Zl [q7,"row","box","grid","left","wished","cuts","k","span","cut"] OT (Zh HC):=fsc
abbrev FZ:Stmt:=Zy (top 84) 2
abbrev Ts:List Str:=["self",q8,"fate"]
theorem zhz:Zl ["self",q8,"fate"] Ts (Zh FZ):=fsc
abbrev Ca:Stmt:=Zy (top 84) 1
abbrev OX:List Str:=["self","box"]
theorem zeP:Zl ["self","box"] OX (Zh Ca):=fsc
abbrev E3:Stmt:=Zy (top 84) 3
abbrev RD:List Str:=["self",q8,"k",Wh]
theorem S6:Zl ["self",q8,"k",Wh,"box","span","a","b"] RD (Zh E3):=fsc
abbrev Hz:Stmt:=top 85
abbrev S8:List Str:=[q7,"rows","r","box","grid"]
theorem Du:Zl [q7,"rows","r","box","grid","at"] S8 (Zh Hz):=fsc
abbrev Cr:Stmt:=top 86
abbrev QK:List Str:=["book",q7,"rows","grid",q8]
theorem VO:Zl ["book",q7,"rows","grid",q8,"r","row","found","cut","parts","thrown"] QK (Zh Cr):=fsc
abbrev FA:Stmt:=top 53
abbrev SR:List Str:=["word","span"]
theorem An:Zl ["word","span"] SR (Zh FA):=fsc
abbrev Ls:Stmt:=top 87
abbrev PC:List Str:=[q7,"rows","box","grid",q3]
theorem HJ:Zl [q7,"rows","box","grid",q3,"r","row"] PC (Zh Ls):=fsc
abbrev JA:Stmt:=top 57
abbrev Ox:List Str:=["rows"]
theorem zbk:Zl ["rows"] Ox (Zh JA):=fsc
abbrev Mx:Stmt:=top 58
abbrev Rc:List Str:=["each",q90]
theorem AA:Zl ["each",q90] Rc (Zh Mx):=fsc
abbrev GR:Stmt:=Zy (top 42) 4
abbrev Q8:List Str:=["self",q3,q26,q46,"grid"]
theorem zgQ:Zl ["self",q3,q26,q46,"grid"] Q8 (Zh GR):=fsc
abbrev NY:Stmt:=Zy (top 43) 4
abbrev Px:List Str:=["self",q3,q26,q46,"grid"]
theorem zaa:Zl ["self",q3,q26,q46,"grid"] Px (Zh NY):=fsc
abbrev Fs:Stmt:=Zy (top 45) 4
abbrev OM:List Str:=["self","x","y","a","b","grid"]
theorem zeS:Zl ["self","x","y","a","b","grid"] OM (Zh Fs):=fsc
abbrev LG:Stmt:=Zy (top 44) 2
abbrev QL:List Str:=["self",q3,q26,q46,"grid"]
theorem Lo:Zl ["self",q3,q26,q46,"grid","x","y"] QL (Zh LG):=fsc
abbrev DW:Stmt:=Zy (top 46) 4
abbrev NX:List Str:=["self","x","y","a","b","grid"]
theorem CV:Zl ["self","x","y","a","b","grid"] NX (Zh DW):=fsc
abbrev zif:Stmt:=Zy (top 44) 2
abbrev zbU:List Str:=["self",q3,q26,q46,"grid"]
abbrev Gm:Stmt:=Zy (top 47) 4
abbrev Lu:List Str:=["self","x","y","a","b","grid"]
theorem zet:Zl ["self","x","y","a","b","grid"] Lu (Zh Gm):=fsc
abbrev zid:Stmt:=Zy (top 44) 2
abbrev zbf:List Str:=["self",q3,q26,q46,"grid"]
abbrev IL:Stmt:=top 22
abbrev Oz:List Str:=["a","many"]
theorem zeK:Zl ["a","many"] Oz (Zh IL):=fsc
abbrev M8:Stmt:=Zy (top 48) 4
abbrev PF:List Str:=["self",q3,q26,q46,"grid"]
theorem Me:Zl ["self",q3,q26,q46,"grid","lower","steep"] PF (Zh M8):=fsc
abbrev JJ:Stmt:=top 55
abbrev Ss:List Str:=[q7,"box","grid"]
theorem Qn:Zl [q7,"box","grid",q3,"found","node"] Ss (Zh JJ):=fsc
abbrev HX:Stmt:=top 66
abbrev Po:List Str:=[q7,q90,"box","grid"]
theorem zhU:Zl [q7,q90,"box","grid"] Po (Zh HX):=fsc
abbrev Hu:Stmt:=top 2
abbrev OI:List Str:=[q8,Wh]
theorem zhG:Zl [q8,Wh] OI (Zh Hu):=fsc
abbrev L4:Stmt:=top 3
abbrev RT:List Str:=[q42,"row",q88]
theorem EM:Zl [q42,"row",q88,"rest"] RT (Zh L4):=fsc
abbrev KP:Stmt:=top 4
abbrev Vt:List Str:=[q42,"row",q88]
theorem zdQ:Zl [q42,"row",q88] Vt (Zh KP):=fsc
abbrev Te:Stmt:=top 5
abbrev Vh:List Str:=[q42]
theorem J7:Zl [q42] Vh (Zh Te):=fsc
abbrev Fu:Stmt:=top 6
abbrev Pt:List Str:=[q42,"whole","row",q88,"grid"]
theorem zca:Zl [q42,"whole","row",q88,"grid"] Pt (Zh Fu):=fsc
abbrev LU:Stmt:=top 7
abbrev Pm:List Str:=[q42,"whole","row","grid"]
theorem zea:Zl [q42,"whole","row","grid"] Pm (Zh LU):=fsc
abbrev Jm:Stmt:=top 8
abbrev OH:List Str:=[q42,"grid"]
theorem De:Zl [q42,"grid","whole"] OH (Zh Jm):=fsc
abbrev Ie:Stmt:=top 27
abbrev T9:List Str:=["a"]
theorem zeo:Zl ["a"] T9 (Zh Ie):=fsc
abbrev Kl:Stmt:=top 59
abbrev SV:List Str:=[q3]
theorem zah:Zl [q3] SV (Zh Kl):=fsc
abbrev Mu:Stmt:=top 60
abbrev UX:List Str:=["box"]
theorem zdc:Zl ["box"] UX (Zh Mu):=fsc
abbrev DE:Stmt:=top 61
abbrev Sl:List Str:=["ones","others","grid"]
theorem Pu:Zl ["ones","others","grid","total","one",q80] Sl (Zh DE):=fsc
abbrev Kd:Stmt:=top 62
abbrev Nq:List Str:=["k",q88,"turns",q26,"grid"]
theorem Ku:Zl ["k",q88,"turns",q26,"grid","whole","column_slants"] Nq (Zh Kd):=fsc
abbrev SQ:Stmt:=top 63
abbrev P9:List Str:=["k","box","grid",q87,"thin",q26]
theorem Uh:Zl ["k","box","grid",q87,"thin",q26,"turns","centres","moved","lacks","ways"] P9 (Zh SQ):=fsc
abbrev Lf:Stmt:=top 64
abbrev R7:List Str:=["box","grid","turn","thin",q26]
theorem zem:Zl ["box","grid","turn","thin",q26] R7 (Zh Lf):=fsc
abbrev G0:Stmt:=top 65
abbrev Ou:List Str:=[q7,q90,"box","grid"]
theorem zbJ:Zl [q7,q90,"box","grid"] Ou (Zh G0):=fsc
abbrev Fn:Stmt:=top 25
abbrev Qp:List Str:=["a","b"]
theorem zgG:Zl ["a","b"] Qp (Zh Fn):=fsc
abbrev Mh:Stmt:=top 68
abbrev Ow:List Str:=["near","box"]
theorem zhI:Zl ["near","box"] Ow (Zh Mh):=fsc
abbrev Jz:Stmt:=top 67
abbrev OK:List Str:=["rows",q3]
theorem ze3:Zl ["rows",q3] OK (Zh Jz):=fsc
abbrev Mq:Stmt:=top 69
abbrev Ni:List Str:=[q7,"rows","box","grid"]
theorem RA:Zl [q7,"rows","box","grid",q90,q26,"turn","near"] Ni (Zh Mq):=fsc
abbrev FJ:Stmt:=top 88
abbrev O0:List Str:=[q7,"rows","box","grid",q3]
theorem K7:Zl [q7,"rows","box","grid",q3,"found","thin"] O0 (Zh FJ):=fsc
abbrev GA:Stmt:=top 89
abbrev Qo:List Str:=[q7,"rows","box","grid","fine"]
theorem Oh:Zl [q7,"rows","box","grid","fine",q3,"fate"] Qo (Zh GA):=fsc
abbrev EV:Stmt:=top 90
abbrev OO:List Str:=["box","began"]
theorem zeB:Zl ["box","began"] OO (Zh EV):=fsc
abbrev Ey:Stmt:=top 91
abbrev Oa:List Str:=["book",q8]
theorem MV:Zl ["book",q8,"box","k"] Oa (Zh Ey):=fsc
abbrev Ii:Stmt:=top 92
abbrev ND:List Str:=["book",q7,"rows","grid","fine",q8]
theorem Rn:Zl ["book",q7,"rows","grid","fine",q8,"began","box","fate"] ND (Zh Ii):=fsc
abbrev Ex:Stmt:=top 93
abbrev OQ:List Str:=[q7,"rows","box","grid","fine","looks"]
theorem RZ:Zl [q7,"rows","box","grid","fine","looks","book","time",q8] OQ (Zh Ex):=fsc
abbrev JU:Stmt:=top 96
abbrev Qx:List Str:=["_law_a","_law_b"]
theorem Tw:Zl ["_law_a","_law_b","_law_rest"] Qx (Zh JU):=fsc
abbrev IZ:Stmt:=top 97
abbrev Sf:List Str:=["_law_top",q66]
theorem DB:Zl ["_law_top",q66,"_law_shared"] Sf (Zh IZ):=fsc
abbrev Ha:Stmt:=top 104
abbrev O4:List Str:=[q47]
theorem IS:Zl [q47,q66] O4 (Zh Ha):=fsc
abbrev Ig:Stmt:=top 99
abbrev RY:List Str:=[q36,"_law_node"]
theorem zf6:Zl [q36,"_law_node"] RY (Zh Ig):=fsc
abbrev D1:Stmt:=top 100
abbrev RJ:List Str:=[q19,q67,q95]
theorem Ws:Zl [q19,q67,q95,q36,VT,U2,"_law_number","_law_square"] RJ (Zh D1):=fsc
abbrev Fx:Stmt:=top 105
abbrev OS:List Str:=[q47]
theorem N0:Zl [q47,"_law_one","_law_other"] OS (Zh Fx):=fsc
abbrev FY:Stmt:=top 103
abbrev Rk:List Str:=[q14,q91]
theorem zgH:Zl [q14,q91] Rk (Zh FY):=fsc
abbrev GD:Stmt:=top 106
abbrev QU:List Str:=[q14]
theorem Xv:Zl [q14,q19,q91,U2,q67,q95,q36,VT,q96,SN] QU (Zh GD):=fsc
abbrev EN:Stmt:=top 95
abbrev Sy:List Str:=[q14,q91]
theorem Jv:Zl [q14,q91,q47] Sy (Zh EN):=fsc
abbrev GS:Stmt:=top 98
abbrev Nl:List Str:=[q14]
theorem Um:Zl [q14,q19,q91,q47,q66,U2] Nl (Zh GS):=fsc
abbrev Hj:Stmt:=top 107
abbrev Qm:List Str:=[q14]
theorem Xu:Zl [q14,q19,q67,q95,q36,VT,q75,"_law_low","_law_high",SN] Qm (Zh Hj):=fsc
abbrev DT:Stmt:=top 101
abbrev Rv:List Str:=[q96,"_law_a",q75]
theorem zad:Zl [q96,"_law_a",q75] Rv (Zh DT):=fsc
abbrev Km:Stmt:=top 102
abbrev Q7:List Str:=["_law_entry",q19,q75]
theorem RV:Zl ["_law_entry",q19,q75,q96,"_law_fate","_law_within"] Q7 (Zh Km):=fsc
abbrev U4:Stmt:=top 108
abbrev NF:List Str:=[q14]
theorem UO:Zl [q14,q19,q36,VT,q96,q75,SN,"_law_looks","_law_book","_law_words","_law_many"] NF (Zh U4):=fsc
theorem kfo {K:Fg}{f c:Addr}{m:Value}{n q:Str}{st:Stmt}(l:K.lookup f=some (fo n q st m c)):W.keepIn K (.ref f)=true:=by
 unfold W.keepIn;simp only[l]
theorem ifo {K:Fg}{f c:Addr}{m:Value}{n q:Str}{st:Stmt}(l:K.lookup f=some (fo n q st m c)):W.isFn K (.ref f)=true:=by
 unfold W.isFn W.typeIn;simp only[l];rfl
theorem lnc {n:Nat}{P:List Value->Prop}(h:∀a (us:List Value),us.length=n->P (a::us))(us:List Value)(e:us.length=n+1):P us:=by
 cases us with
 | nil=>cases e
 | cons a r=>exact h a r (Nat.succ.inj e)
theorem ln0 {P:List Value->Prop}(h:P []):∀us:List Value,us.length=0->P us:=λus e=>List.eq_nil_of_length_eq_zero e ▸ h
theorem ln1 {P:List Value->Prop}(h:∀a,P [a]):∀us:List Value,us.length=1->P us:=lnc λa=>ln0 (h a)
theorem ln2 {P:List Value->Prop}(h:∀a b,P [a,b]):∀us:List Value,us.length=2->P us:=lnc λa=>ln1 (h a)
theorem ln3 {P:List Value->Prop}(h:∀a b c,P [a,b,c]):∀us:List Value,us.length=3->P us:=lnc λa=>ln2 (h a)
theorem ln4 {P:List Value->Prop}(h:∀a b c d,P [a,b,c,d]):∀us:List Value,us.length=4->P us:=lnc λa=>ln3 (h a)
theorem ln5 {P:List Value->Prop}(h:∀a b c d e,P [a,b,c,d,e]):∀us:List Value,us.length=5->P us:=lnc λa=>ln4 (h a)
theorem ln6 {P:List Value->Prop}(h:∀a b c d e f,P [a,b,c,d,e,f]):∀us:List Value,us.length=6->P us:=lnc λa=>ln5 (h a)
abbrev Bn (n q:Str)(st:Stmt)(ps:List Str):Prop:=∀(kV doc pm:Value)(an:Option Addr)(cdv ct:Value)(us:List Value),us.length=ps.length->bindArgs (W.fnOf n q (WX st) (Xl st) (Zh st) .none kV doc pm an cdv ct) ⟨us,[]⟩=pure (ps.zip us)
abbrev clA (K:Fg)(n:Str)(C:Addr):Prop:=W.nsIn K mainGlobals n=some (some (.ref C))/\W.plainGet K C Str.empty=true/\W.hasDictIn K C=true/\W.plainOver K C=true/\W.findIn K (.ref C) "__setattr__"=some (some (.builtin "object.__setattr__"))/\W.makesIn K C=true/\W.keepIn K (.ref C)=true
theorem clC {K:Fg}{C:Addr}{p:Prop}(h:W.plainGet K C Str.empty=true/\W.hasDictIn K C=true/\W.plainOver K C=true/\W.findIn K (.ref C) "__setattr__"=some (some (.builtin "object.__setattr__"))/\p):Cls K C:=⟨h.1,h.2.1,h.2.2.1,h.2.2.2.1⟩
abbrev xF (v:Option (Option Value)):Addr:=match v with|some (some (.ref f))=>f|_=>0
abbrev xM (o:Option Obj):Value:=match o with|some ⟨_,_,.func d,_⟩=>d.pyModule|_=>.none
abbrev xC (o:Option Obj):Addr:=match o with|some ⟨_,_,.func d,_⟩=>xF (some (some d.code))|_=>0
abbrev fnE (K:Fg)(v:Option (Option Value))(n q:Str)(st:Stmt):Prop:=(v,K.lookup (xF v),W.codeIn K (.ref (xC (K.lookup (xF v)))) q)=(some (some (.ref (xF v))),some (fo n q st (xM (K.lookup (xF v))) (xC (K.lookup (xF v)))),true)
theorem fnU {K:Fg}{v:Option (Option Value)}{n q:Str}{st:Stmt}(a:fnE K v n q st):v=some (some (.ref (xF v)))/\K.lookup (xF v)=some (fo n q st (xM (K.lookup (xF v))) (xC (K.lookup (xF v))))/\W.codeIn K (.ref (xC (K.lookup (xF v)))) q=true:=⟨congrArg (·.1) a,congrArg (·.2.1) a,congrArg (·.2.2) a⟩
def dfo {K:Fg}{mg:Str->Option Value}{h:Heap}(X:K.In h)(G:h.Ns mainGlobals mg){n:Str}{st:Stmt}{ps:List Str}(a:fnE K (W.nsIn K mainGlobals n) n n st:=by kernel_rfl)(b:Bn n n st ps:=by first|exact λ_ _ _ _ _ _=>ln2 λ_ _=>rfl|exact λ_ _ _ _ _ _=>ln3 λ_ _ _=>rfl|exact λ_ _ _ _ _ _=>ln1 λ_=>rfl|exact λ_ _ _ _ _ _=>ln4 λ_ _ _ _=>rfl|exact λ_ _ _ _ _ _=>ln5 λ_ _ _ _ _=>rfl|exact λ_ _ _ _ _ _=>ln6 λ_ _ _ _ _ _=>rfl|exact λ_ _ _ _ _ _=>ln0 rfl):Df K mg n st ps:=⟨_,_,PQ (st:=st) (fnU a).2.1 (fnU a).2.2 (kfo (fnU a).2.1),W.mg_of X G (fnU a).1,(PQ (st:=st) (fnU a).2.1 (fnU a).2.2 (kfo (fnU a).2.1)).binds b⟩
def dmo {K:Fg}{C:Addr}{n q:Str}{st:Stmt}{ps:List Str}(a:fnE K (W.findIn K (.ref C) n) n q st:=by kernel_rfl)(b:Bn n q st ps:=by first|exact λ_ _ _ _ _ _=>ln2 λ_ _=>rfl|exact λ_ _ _ _ _ _=>ln3 λ_ _ _=>rfl|exact λ_ _ _ _ _ _=>ln1 λ_=>rfl|exact λ_ _ _ _ _ _=>ln4 λ_ _ _ _=>rfl|exact λ_ _ _ _ _ _=>ln5 λ_ _ _ _ _=>rfl|exact λ_ _ _ _ _ _=>ln6 λ_ _ _ _ _ _=>rfl|exact λ_ _ _ _ _ _=>ln0 rfl):Dm K C n q st ps:=⟨_,_,PQ (st:=st) (fnU a).2.1 (fnU a).2.2 (kfo (fnU a).2.1),⟨(fnU a).1,ifo (fnU a).2.1,kfo (fnU a).2.1⟩,(PQ (st:=st) (fnU a).2.1 (fnU a).2.2 (kfo (fnU a).2.1)).binds b⟩
theorem noU {K:Fg}{C:Addr}{f:Str}(h:W.findIn K (.ref C) f=some none:=by kernel_rfl):Ym K C f:=h
theorem clU {K:Fg}{n:Str}{C:Addr}(h:(W.nsIn K mainGlobals n,W.plainGet K C Str.empty,W.hasDictIn K C,W.plainOver K C,W.findIn K (.ref C) "__setattr__",W.makesIn K C,W.keepIn K (.ref C))=(some (some (.ref C)),true,true,true,some (some (.builtin "object.__setattr__")),true,true)):clA K n C:=⟨congrArg (·.1) h,congrArg (·.2.1) h,congrArg (·.2.2.1) h,congrArg (·.2.2.2.1) h,congrArg (·.2.2.2.2.1) h,congrArg (·.2.2.2.2.2.1) h,congrArg (·.2.2.2.2.2.2) h⟩
theorem KN (P:Params):(kq P).lookup (nat_lit 801)=none:=by kernel_rfl
theorem in_kq {w:World}{h:Heap}(Y:(W.kHook kp ks W7).says w h):(kq w.params).In h:=λa o e=>(show (kp w.params).In h from Y) a o (by
 show List.lookup a ((nat_lit 801,_)::kq w.params)=some o;rw[yA];cases q:a==nat_lit 801 with
 | false=>exact e
 | true=>
  rw[show a=nat_lit 801 by simpa using q,KN] at e;cases e)
theorem zh7 {w:World}{h:Heap}(Y:(W.kHook kp ks W7).says w h):h.get? (nat_lit 801)=some { cls:=.none,data:=.fields #[] }:=(show (kp w.params).In h from Y) _ _ (by
 show List.lookup _ ((nat_lit 801,_)::kq w.params)=_;rw[yA];rfl)
theorem cd_eq (P:Params):(kq P).lookup (nat_lit 803)=some (co "to_look_at" "Book.to_look_at" 1295 1296 1297 1299 430 1 800 801 .none .none 802 1298):=by kernel_rfl
theorem ET (P:Params)(h:Heap)(X:(kq P).In h):W.CodeHd h (nat_lit 803) (nat_lit 801):=⟨_,_,_,_,_,_,_,_,_,X _ _ (cd_eq P),rfl,rfl,rfl,rfl,rfl,rfl,rfl,rfl,⋯⟩
theorem ZM {C:Addr}{f:Str}{to:TDE}{dl:Ev}{S S1:Sto}{Q:DK}{n:Nat}{fs:List (Str×D)}{v:D}(hto:∀K:DK,K (.ref n) S1->to dl S K)(h:S1[n]?=some (.ins C fs))(hf:fs.lookup f=some v)(hq:Q v S1):Nt C f to dl S Q:=by
 unfold Nt;refine hto _ ?_;simp only[X4,h,if_pos,hf];exact hq
theorem WB {C:Addr}{f:Str}{to te:TDE}{dl:Ev}{S S1 S2:Sto}{E:Xz}{n:Nat}{fs:List (Str×D)}{v:D}(hte:∀K:DK,K v S1->te dl S K)(hto:∀K:DK,K (.ref n) S2->to dl S1 K)(h:S2[n]?=some (.ins C fs))(hl:fs.length<1000)(hq:E.nx dl (S2.set n (.ins C (Ua f v fs)))):OZ C f to te E dl S:=by
 unfold OZ;refine hte _ (hto _ ?_);simp only[X4,h,if_pos];exact⟨hl,hq⟩
theorem Xi {C:Addr}{m:Str}{ex:Ev->Addr->Sto->Prop}{sd:Sd}{to:TDE}{t:TDA}{dl:Ev}{S S1:Sto}{Q:DK}{n:Nat}{fs:List (Str×D)}(hto:∀K:DK,K (.ref n) S1->to dl S K)(h:S1[n]?=some (.ins C fs))(hf:fs.lookup m=none)(hq:t dl S1 λds S2=>sd (.ref n::ds) S2 Q (ex dl)):Ub C m ex sd to t dl S Q:=by
 unfold Ub;refine hto _ ?_;simp only[X4,h,if_pos];exact⟨hf,hq⟩
theorem UN {to ti te:TDE}{dl:Ev}{S:Sto}{E:Xz}{n j:Nat}{k:Int}{xs:List D}{v:D}(hte:∀K:DK,K v S->te dl S K)(hto:∀K:DK,K (.ref n) S->to dl S K)(hti:∀K:DK,K (.int k) S->ti dl S K)(h:S[n]?=some (.lst xs))(hj:ixN xs.length k=some j)(hq:E.nx dl (S.set n (.lst (xs.set j v)))):Qj to ti te E dl S:=by
 unfold Qj;refine hte _ (hto _ (hti _ ?_));simp only[h,hj];exact hq
theorem Xq (h:S[n]?=some (.lst xs))(hq:Q (.int (xs.length:Nat)) S):irr UQ [.ref n] S Q:=by
 rw[V1];unfold UQ;simp only[ZO h rfl];exact hq
theorem Yp {S:Sto}{n a:Nat}{o u:Ob}(h:S[n]?=some o)(hn:a≠n):(S.set a u)[n]?=some o:=by rw[yC hn];exact h
theorem YV {S:Sto}{n:Nat}{o u:Ob}(h:S[n]?=some o):(S.set n u)[n]?=some u:=by
 have hk:=(zB.mp h).1;simp[hk]
theorem Zu {S:Sto}{n:Nat}{o:Ob}{T:Sto}(h:S[n]?=some o):(S++T)[n]?=some o:=by
 have hk:=(zB.mp h).1;rw[zI hk];exact h
theorem X5 (T R:Sto)(u:Ob):(T++u::R)[T.length]?=some u:=by simp
theorem Wy (T R:Sto)(u v:Ob):(T++u::R).set T.length v=T++v::R:=by simp
theorem Ye {S:Sto}{n:Nat}{o:Ob}(h:S[n]?=some o):n<S.length:=(zB.mp h).1
theorem zaq (h1:S[n]?=some (.lst xs))(h2:S[m]?=some (.lst ys))(e:eqL (eqN 1) xs ys=some b)(hq:Q (.bl b) S):Yq (V2 1) (.ref n) (.ref m) S Q:=by
 rw[YX];unfold V2;simp only[OU,ZO h1 rfl,ZO h2 rfl,Zk,e];exact hq
theorem Rf {i n:Nat}{tb:TDS}{E:Xz}{dl:Ev}{S:Sto}{o:Ob}(W:Nat->Ev->Sto->Prop)(h0:W 0 dl S)(hk:∀k dl' S',W k dl' S'->S'[n]?=some o)
  (ht:∀(k:Nat)(x:D)(dl':Ev)(S':Sto)(nx ct:Ev->Sto->Prop),(Zk o)[k]?=some x->W k dl' S'->(∀dl2 S2,W (k+1) dl2 S2->nx dl2 S2)->tb { nx:=nx,rt:=E.rt,bk:=E.nx,ct:=ct } (dl'.set i (some x)) S')(he:∀dl' S',W (Zk o).length dl' S'->E.nx dl' S')(hL:Y2 o=some o:=by rfl):
  (lAt S n).isSome=true/\∃W:Nat->Nat->Ev->Sto->Prop,(∃m,W 0 m dl S)/\∀k m dl S,W k m dl S->match lAt S n with
  | some o=>match (Zk o)[k]? with
   | some x=>tb { nx:=λdl' S'=>∃m',m'<m/\W (k+1) m' dl' S',rt:=E.rt,bk:=E.nx,ct:=λdl' S'=>∃m',m'<m/\W (k+1) m' dl' S' } (dl.set i (some x)) S
   | none=>E.nx dl S
  | none=>False:=by
 refine⟨by rw[ZO (hk _ _ _ h0) hL];rfl,λk m dl' S'=>m+k=(Zk o).length/\W k dl' S',⟨(Zk o).length,(),h0⟩,?_⟩;rintro k m dl' S' ⟨hm,w⟩;rw[ZO (hk _ _ _ w) hL];show (match (Zk o)[k]? with
   | some x=>tb { nx:=λdl' S''=>∃m',m'<m/\(m'+(k+1)=(Zk o).length/\W (k+1) dl' S''),rt:=E.rt,bk:=E.nx,ct:=λdl' S''=>∃m',m'<m/\(m'+(k+1)=(Zk o).length/\W (k+1) dl' S'') } (dl'.set i (some x)) S'
   | none=>E.nx dl' S')
 split
 .rename_i x hx;have hk:k<(Zk o).length:=(zB.mp hx).1;exact ht k x dl' S' _ _ hx w λdl2 S2 w2=>⟨m-1,(),(),w2⟩
 .rename_i hx;have hk:k=(Zk o).length:=by
   have:=xH.mp hx;lia
  exact he dl' S' (hk ▸ w)
inductive Nd where
 | number (t b:Int)|unknown (k:Int)|plus (i j:Int)|minus (i j:Int)|times (i j:Int)|power (i n:Int)
def Nd.d:Nd->D
 | .number t b=>.tup [.str "number",.int t,.int b]
 | .unknown k=>.tup [.str "unknown",.int k]
 | .plus i j=>.tup [.str "plus",.int i,.int j]
 | .minus i j=>.tup [.str "minus",.int i,.int j]
 | .times i j=>.tup [.str "times",.int i,.int j]
 | .power i n=>.tup [.str "power",.int i,.int n]
def Nd.ob (cN cU cP cM cT cW:Addr):Nd->Ob
 | .number t b=>.ins cN [("top",.int t),("bottom",.int b)]
 | .unknown k=>.ins cU [("place",.int k)]
 | .plus i j=>.ins cP [("one",.int i),("other",.int j)]
 | .minus i j=>.ins cM [("one",.int i),("other",.int j)]
 | .times i j=>.ins cT [("one",.int i),("other",.int j)]
 | .power i n=>.ins cW [("one",.int i),("many",.int n)]
def inR (m i:Int):Prop:=0<=i/\i<m
def Nd.ok (m q:Int):Nd->Prop
 | .number t b=>(1<=b/\b<=10^9)/\Int.gcd t b=1/\t.natAbs<=10^9
 | .unknown k=>inR q k
 | .plus i j=>inR m i/\inR m j
 | .minus i j=>inR m i/\inR m j
 | .times i j=>inR m i/\inR m j
 | .power i n=>inR m i/\2<=n/\n<=6
def frD (p:Int×Int):D:=.tup [.int p.1,.int p.2]
abbrev gt (vs:LI)(i:Int):Int×Int:=vs.getD i.toNat (0,1)
theorem KR (h:inR vs.length i):gt vs i∈vs:=by
 obtain⟨h0,h1⟩:=h;have hk:i.toNat<vs.length:=by lia
 have e:gt vs i=vs[i.toNat]:=by simp[gt,hk]
 rw[e];exact yQ hk
theorem Yj (h:inR vs.length i):atI (vs.map frD) i=some (frD (gt vs i)):=by
 obtain⟨h0,h1⟩:=h;have hk:i.toNat<vs.length:=by lia
 have z:=Yx (xs:=vs.map frD) (j:=i.toNat) (v:=frD (gt vs i)) (by rw[zG,zE hk];simp[gt,hk]);rw[show ((i.toNat:Nat):Int)=i by lia] at z;exact z
theorem Au {xs:List D}{d e:D}{i:Nat}{P:Nat->D->Prop}(h:(xs++[d])[i]?=some e)(hp:∀i d,xs[i]?=some d->P i d)(hd:P xs.length d):P i e:=by
 by_cases hi:i<xs.length
 .rw[zI hi] at h;exact hp i e h
 .have hk:=(zB.mp h).1;simp only[zT,zX,xK] at hk;have e1:i=xs.length:=by lia
  subst e1;simp at h;subst h;exact hd
theorem Ga {caps:List Nat}{tl te:TDE}{dl:Ev}{S S1:Sto}{Q:DK}{n:Nat}{o:Ob}(P:Nat->D->Prop)(htl:∀K:DK,K (.ref n) S1->tl dl S K)(h1:S1[n]?=some o)(hl:(Zk o).length<=1000)
  (ht:∀(k:Nat)(x:D),(Zk o)[k]?=some x->∀(S2:Sto)(K:DK),Pre S1 S2->(∀d,P k d->K d S2)->te (some x::Z8 caps dl) S2 K)(hq:∀xs:List D,xs.length=(Zk o).length->(∀k d,xs[k]?=some d->P k d)->Q (.ref S1.length) (S1++[.lst xs]))(hL:Y2 o=some o:=by rfl):Xp caps tl YW te dl S Q:=by
 unfold Xp;refine htl _ ⟨by rw[ZO h1 hL];rfl,λk m S2=>(∃xs:List D,S2=S1++[.lst xs]/\xs.length=k/\∀i d,xs[i]?=some d->P i d)/\m+k=(Zk o).length,⟨(Zk o).length,⟨[],rfl,rfl,λi d h=>by simp at h⟩,()⟩,?_⟩;rintro k m S2 ⟨⟨xs,rfl,hx,hp⟩,hm⟩;rw[ZO (XW h1) hL];dsimp only;split
 .rename_i x hk;have hk':k<(Zk o).length:=(zB.mp hk).1;unfold Wm YW;simp only[if_true];refine ht k x hk _ _ Pre.refl.push λd hd=>?_
  rw[Zq];refine⟨(),m-1,(),⟨xs++[d],WD _ _ _,by simp[hx],λi e he=>Au he hp (hx ▸ hd)⟩,()⟩
 .rename_i hk;have hk':=xH.mp hk;exact hq xs () hp
theorem Dq {α:Type}{xs:List D}{lo hi:Option Int}:(Yd xs lo hi).length<=xs.length:=by
 unfold L3.Yd;rw[zO,vE];lia
structure Ur (a b c d mn mx:Int):Prop where
 lo:mn=a*c\/mn=a*d\/mn=b*c\/mn=b*d
 l1:mn<=a*c
 l2:mn<=a*d
 l3:mn<=b*c
 l4:mn<=b*d
 hi:mx=a*c\/mx=a*d\/mx=b*c\/mx=b*d
 h1:a*c<=mx
 h2:a*d<=mx
 h3:b*c<=mx
 h4:b*d<=mx
theorem Ur.of {a b c d mn mx:Int}(m1:mn∈[a*c,a*d,b*c,b*d])(m2:∀y∈[a*c,a*d,b*c,b*d],mn<=y)(x1:mx∈[a*c,a*d,b*c,b*d])(x2:∀y∈[a*c,a*d,b*c,b*d],y<=mx):Ur a b c d mn mx:=by
 simp only[zS,xU,or_false] at m1 x1;exact⟨m1,m2 _ (by simp),m2 _ (by simp),m2 _ (by simp),m2 _ (by simp),x1,x2 _ (by simp),x2 _ (by simp),x2 _ (by simp),x2 _ (by simp)⟩
structure Vj (a b:Int)(n:Nat)(m M:Int):Prop where
 lo:m=a^n\/m=b^n\/(a<0/\0<b/\m=0)
 l1:m<=a^n
 l2:m<=b^n
 l3:a<0->0<b->m<=0
 hi:M=a^n\/M=b^n
 h1:a^n<=M
 h2:b^n<=M
theorem QQ (h:1<=n):(0:Int)^n=0:=by
 cases n with
 | zero=>lia
 | succ k=>rw[zV,Int.mul_zero]
theorem GB (n:Nat):(∀x:Int,(-x)^n=x^n)\/(∀x:Int,(-x)^n=-(x^n)):=by
 induction n with
 | zero=>left;intro x;rw[xV,xV]
 | succ k ih=>
  rcases ih with e|e
  .right;intro x;rw[zV,zV,e,uC]
  .left;intro x;rw[zV,zV,e,tE]
theorem Uw {x y:Int}(h0:0<=x)(h:x<=y)(n:Nat):x^n<=y^n:=by
 induction n with
 | zero=>rw[xV,xV];exact zQ _
 | succ k ih=>
  rw[zV,zV];exact uD ih h h0 (yT ())
theorem zbs {y z x m M:Int}{n:Nat}(hn:1<=n)(h1:y<=x)(h2:x<=z)(m1:m<=y^n)(m2:m<=z^n)(m3:y<0->0<z->m<=0)(M1:y^n<=M)(M2:z^n<=M):m<=x^n/\x^n<=M:=by
 by_cases hy:0<=y
 .have e1:=Uw hy h1 n
  have e2:=Uw (show 0<=x by lia) h2 n;lia
 .by_cases hz:z<=0
  .have e1:=Uw (show 0<=-z by lia) (show -z<=-x by lia) n
   have e2:=Uw (show 0<=-x by lia) (show -x<=-y by lia) n;rcases GB n with p|p<;>rw[p,p] at e1 e2<;>lia
  .have m3':=m3 () ()
   have z0:(0:Int)<=z^n:=yT ();by_cases hx:0<=x
   .have e1:(0:Int)<=x^n:=yT hx
    have e2:=Uw hx h2 n;lia
   .have e1:(0:Int)<=(-x)^n:=yT ()
    have e2:=Uw (show 0<=-x by lia) (show -x<=-y by lia) n;rcases GB n with p|p
    .rw[p] at e1;rw[p,p] at e2;lia
    .rw[p] at e1;rw[p,p] at e2;lia
theorem Vj.of {a b g mn mx:Int}{n:Nat}(hg:1<=g){l:List Int}(hl:l=[a^n*g,b^n*g]/\¬ (a<0/\0<b)\/l=[a^n*g,b^n*g,0^n*g]/\a<0/\0<b)(hn:1<=n)(m1:mn∈l)(m2:∀y∈l,mn<=y)(x1:mx∈l)(x2:∀y∈l,y<=mx):
  ∃m M,Vj a b n m M/\mn=m*g/\mx=M*g:=by
 have can:∀ {x y:Int},x*g<=y*g->x<=y:=λ{x y} h=>yO h (by omega)
 rcases hl with ⟨rfl,hz⟩|⟨rfl,hz1,hz2⟩
 .simp only[zS,xU,or_false] at m1 x1;have a1:=m2 (a^n*g) (by simp)
  have a2:=m2 (b^n*g) (by simp)
  have b1:=x2 (a^n*g) (by simp)
  have b2:=x2 (b^n*g) (by simp);obtain⟨m,hm,em⟩:∃m,(m=a^n\/m=b^n)/\mn=m*g:=by
   rcases m1 with e|e
   .exact⟨_,.inl rfl,e⟩
   .exact⟨_,.inr rfl,e⟩
  obtain⟨M,hM,eM⟩:∃m,(m=a^n\/m=b^n)/\mx=m*g:=by
   rcases x1 with e|e
   .exact⟨_,.inl rfl,e⟩
   .exact⟨_,.inr rfl,e⟩
  subst em eM;exact⟨m,M,⟨hm.elim .inl λe=>.inr (.inl e),can a1,can a2,λc1 c2=>absurd ⟨c1,c2⟩ hz,hM,can b1,can b2⟩,rfl,rfl⟩
 .rw[QQ hn,wQ] at m1 m2 x1 x2;simp only[zS,xU,or_false] at m1 x1;have a1:=m2 (a^n*g) (by simp)
  have a2:=m2 (b^n*g) (by simp)
  have a3:=m2 0 (by simp)
  have b1:=x2 (a^n*g) (by simp)
  have b2:=x2 (b^n*g) (by simp)
  have b3:=x2 0 (by simp);obtain⟨m,hm,em⟩:∃m,(m=a^n\/m=b^n\/m=0)/\mn=m*g:=by
   rcases m1 with e|e|e
   .exact⟨_,.inl rfl,e⟩
   .exact⟨_,.inr (.inl rfl),e⟩
   .exact⟨0,.inr (.inr rfl),by rw[e,wQ]⟩
  have bp:(0:Int)<=b^n:=yT (by omega)
  have bg:=yG bp (show 0<=g by omega);obtain⟨M,hM,eM⟩:∃m,(m=a^n\/m=b^n)/\mx=m*g:=by
   rcases x1 with e|e|e
   .exact⟨_,.inl rfl,e⟩
   .exact⟨_,.inr rfl,e⟩
   .exact⟨_,.inr rfl,by omega⟩
  subst em eM;refine⟨m,M,⟨?_,can a1,can a2,λ_ _=>can (by rw[wQ];exact a3),hM,can b1,can b2⟩,rfl,rfl⟩;rcases hm with e|e|e
  .exact .inl e
  .exact .inr (.inl e)
  .exact .inr (.inr ⟨hz1,hz2,e⟩)
theorem UA {m g:Int}{n:Nat}(hg:1<=g)(hn:1<=n):m*g/g^n=m/g^(n-1):=by
 obtain⟨k,rfl⟩:∃k,n=k+1:=⟨n-1,()⟩;rw[zV,uE,Int.mul_ediv_mul_of_pos_left _ _ ()]
def mn4 (a b c d:Int):Int:=min (min (a*c) (a*d)) (min (b*c) (b*d))
def mx4 (a b c d:Int):Int:=max (max (a*c) (a*d)) (max (b*c) (b*d))
theorem Ur.eq {a b c d mn mx:Int}(h:Ur a b c d mn mx):mn=mn4 a b c d/\mx=mx4 a b c d:=by
 obtain⟨h0,h1,h2,h3,h4,h5,h6,h7,h8,h9⟩:=h;unfold mn4 mx4;omega
def ZP (a b:Int)(n:Nat):Int:=if n%2=0/\a<=0/\0<=b then 0 else min (a^n) (b^n)
def Z7 (a b:Int)(n:Nat):Int:=max (a^n) (b^n)
theorem WT {n:Nat}(h:n%2=0)(x:Int):0<=x^n:=by
 obtain⟨k,rfl⟩:∃k,n=k+k:=⟨n/2,()⟩;rw[Int.pow_add];by_cases c:0<=x^k
 .exact yG c c
 .have:=yG (show 0<=-(x^k) by lia) (show 0<=-(x^k) by lia);rw[tE] at this;exact this
theorem Oo {n:Nat}(h:n%2=1){x:Int}(hx:x<0):x^n<0:=by
 obtain⟨k,rfl⟩:∃k,n=k+1:=⟨n-1,()⟩;have z:=WT (n:=k) () x
 have nz:∀k:Nat,x^k≠0:=λk=>by
  induction k with
  | zero=>rw[xV];decide
  | succ k ih=>rw[zV];exact Int.mul_ne_zero ih ()
 have nz:=nz k
 have:=xW (show 0<x^k by lia) (show 0 < -x by lia);rw[uC] at this;rw[zV];lia
theorem Vj.eq {a b m M:Int}{n:Nat}(h:Vj a b n m M)(hn:1<=n):m=ZP a b n/\M=Z7 a b n:=by
 obtain⟨h0,h1,h2,h3,h4,h5,h6⟩:=h;refine⟨?_,by unfold Z7;lia⟩;unfold ZP;split
 .rename_i c;obtain⟨c1,c2,c3⟩:=c;have e1:=WT c1 a
  have e2:=WT c1 b;by_cases z:a<0/\0<b
  .have:=h3 z.1 z.2;lia
  .have z':a=0\/b=0:=by lia
   rcases z' with rfl|rfl
   .rw[QQ hn] at h1;lia
   .rw[QQ hn] at h2;lia
 .rename_i c;have hz:a<0->0<b->m≠0:=λa1 b1 e=>by
   by_cases p:n%2=0
   .exact c ⟨p,(),()⟩
   .have:=Oo (n:=n) () a1;lia
  lia
def Nd.fw (vs bs:LI)(g:Int):Nd->Int×Int
 | .number t b=>(t*g/b,-(-(t*g)/b))
 | .unknown k=>gt bs k
 | .plus i j=>((gt vs i).1+(gt vs j).1,(gt vs i).2+(gt vs j).2)
 | .minus i j=>((gt vs i).1-(gt vs j).2,(gt vs i).2-(gt vs j).1)
 | .times i j=>(mn4 (gt vs i).1 (gt vs i).2 (gt vs j).1 (gt vs j).2/g,-(-mx4 (gt vs i).1 (gt vs i).2 (gt vs j).1 (gt vs j).2/g))
 | .power i n=>(ZP (gt vs i).1 (gt vs i).2 n.toNat/g^(n.toNat-1),-(-Z7 (gt vs i).1 (gt vs i).2 n.toNat/g^(n.toNat-1)))
def Spn (B:Nat)(vs:LI):Prop:=∀p∈vs,p.1<=p.2/\Sz B p.1/\Sz B p.2
theorem Spn.at {B:Nat}{vs:LI}(h:Spn B vs){i:Int}(hi:inR vs.length i):(gt vs i).1<=(gt vs i).2/\Sz B (gt vs i).1/\Sz B (gt vs i).2:=h _ (KR hi)
theorem Spn.mono {B C:Nat}{vs:LI}(h:Spn B vs)(hc:B<=C):Spn C vs:=λp hp=>⟨(h p hp).1,(h p hp).2.1.mono hc,(h p hp).2.2.mono hc⟩
theorem V7 (hg:1<=g)(h:m<=M):m/g<=-(-M/g):=by
 have h1:=tF m (show g≠0 by lia)
 have h2:=tF (-M) (show g≠0 by lia)
 have:m/g*g<=-(-M/g)*g:=by rw[xJ];lia
 exact yO this ()
theorem LS (a b:Int)(n:Nat):ZP a b n<=Z7 a b n:=by
 unfold ZP Z7;split
 .rename_i c;have:=WT c.1 a;lia
 .lia
theorem Hy (a b c d:Int):mn4 a b c d<=mx4 a b c d:=by unfold mn4 mx4;lia
theorem Nd.fw_le (h1:Spn B vs)(h2:Spn B bs)(hg:1<=g):∀v:Nd,v.ok vs.length bs.length->(v.fw vs bs g).1<=(v.fw vs bs g).2
 | .number t b,ok=>V7 ok.1.1 (zQ _)
 | .unknown k,ok=>(h2.at ok).1
 | .plus i j,ok=>by
  have a:=(h1.at ok.1).1
  have b:=(h1.at ok.2).1
  show (gt vs i).1+(gt vs j).1<=(gt vs i).2+(gt vs j).2;lia
 | .minus i j,ok=>by
  have a:=(h1.at ok.1).1
  have b:=(h1.at ok.2).1
  show (gt vs i).1-(gt vs j).2<=(gt vs i).2-(gt vs j).1;lia
 | .times i j,ok=>V7 hg (Hy _ _ _ _)
 | .power i n,ok=>V7 (yD ()) (LS _ _ _)
def VL (p q:Int×Int):Option (Int×Int):=if (if q.2<p.2 then q.2 else p.2)<(if q.1 > p.1 then q.1 else p.1) then none else some (if q.1 > p.1 then q.1 else p.1,if q.2<p.2 then q.2 else p.2)
theorem zcM {p q r:Int×Int}(h:VL p q=some r):r.1<=r.2:=by
 have go:∀lo hi:Int,(if hi<lo then none else some (lo,hi))=some r->r.1<=r.2:=λlo hi e=>by
  split at e
  .cases e
  .rename_i c;cases e;exact Int.not_lt.mp c
 exact go _ _ h
def ptD (q:Int×(Int×Int)):D:=.tup [.int q.1,.tup [.int q.2.1,.int q.2.2]]
theorem X7 {a b:TDS}{E:Xz}{dl:Ev}{S:Sto}(W:Ev->Sto->Prop)(ha:∀nx:Ev->Sto->Prop,(∀dl' S',W dl' S'->nx dl' S')->a { nx:=nx,rt:=E.rt,bk:=E.bk,ct:=E.ct } dl S)(hb:∀dl' S',W dl' S'->b E dl' S'):XQ a b E dl S:=ha _ hb
theorem Vi {a b c:TDS}{E:Xz}{dl:Ev}{S:Sto}(W:Ev->Sto->Prop)(ha:∀nx:Ev->Sto->Prop,(∀dl' S',W dl' S'->nx dl' S')->XQ a b { nx:=nx,rt:=E.rt,bk:=E.bk,ct:=E.ct } dl S)(hb:∀dl' S',W dl' S'->c E dl' S'):XQ a (XQ b c) E dl S:=ha _ hb
theorem VS (h:Sz n m)(hg:1<=g):Sz n (-(-m/g)):=(h.neg.div hg).neg
theorem Wu (ha:Sz n a)(hb:Sz n b):Sz n (min a b):=by unfold Sz at *;lia
theorem Wa (ha:Sz n a)(hb:Sz n b):Sz n (max a b):=by unfold Sz at *;lia
theorem T6 (vs:LI)(k:Nat)(p:Int×Int):(vs.map frD).set k (frD p)=(vs.set k p).map frD:=(List.map_set).symm
theorem Ue {n:Nat}{i:Int}(h:inR n i):ixN n i=some i.toNat:=by
 obtain⟨h0,h1⟩:=h;unfold ixN;split<;>first|lia|rfl|(split<;>first|lia|rfl)
def Nd.wt (ws:List Nat):Nd->Nat
 | .number _ _=>1
 | .unknown _=>1
 | .plus i j=>ws.getD i.toNat 0+ws.getD j.toNat 0
 | .minus i j=>ws.getD i.toNat 0+ws.getD j.toNat 0
 | .times i j=>ws.getD i.toNat 0+ws.getD j.toNat 0
 | .power i n=>n.toNat*ws.getD i.toNat 0
structure ZD (q:Int)(ns:List Nd)(ws:List Nat):Prop where
 len:ws.length=ns.length
 ok:∀(k:Nat)(v:Nd),ns[k]?=some v->v.ok k q/\ws.getD k 0=v.wt ws/\1<=v.wt ws/\v.wt ws<=16
theorem ZD.nil (q:Int):ZD q [] []:=⟨rfl,λk v h=>by simp at h⟩
theorem ZD.w1 {q:Int}{ns:List Nd}{ws:List Nat}(h:ZD q ns ws){i:Int}(hi:inR ns.length i):1<=ws.getD i.toNat 0/\ws.getD i.toNat 0<=16:=by
 obtain⟨h0,h1⟩:=hi;have hk:i.toNat<ns.length:=();obtain⟨_,e,a,b⟩:=h.ok i.toNat _ (zE hk);lia
theorem ZD.w2 {q:Int}{ns:List Nd}{ws:List Nat}(h:ZD q ns ws):∀v:Nd,v.ok ns.length q->1<=v.wt ws/\v.wt ws<=96
 | .number _ _,_=>⟨zA 1,show 1<=96 by decide⟩
 | .unknown _,_=>⟨zA 1,show 1<=96 by decide⟩
 | .plus i j,ok=>by have a:=h.w1 ok.1;have b:=h.w1 ok.2;simp only[Nd.wt];lia
 | .minus i j,ok=>by have a:=h.w1 ok.1;have b:=h.w1 ok.2;simp only[Nd.wt];lia
 | .times i j,ok=>by have a:=h.w1 ok.1;have b:=h.w1 ok.2;simp only[Nd.wt];lia
 | .power i n,ok=>by
  have a:=h.w1 ok.1
  have n2:=ok.2.1
  have n6:=ok.2.2
  have m1:=wR (show 1<=n.toNat by lia) a.1
  have m2:=wR (show n.toNat<=6 by lia) a.2;simp only[Nd.wt];lia
theorem Cf (h:k<ws.length):(ws++[w]).getD k 0=ws.getD k 0:=by
 rw[zY,zY,zI h]
theorem J2 (hk:k<=ws.length):∀v:Nd,v.ok k q->v.wt (ws++[w])=v.wt ws:=by
 have e:∀i:Int,inR k i->(ws++[w]).getD i.toNat 0=ws.getD i.toNat 0:=λi hi=>Cf (by have a:=hi.1;have b:=hi.2;lia)
 intro v ok;cases v with
 | number _ _=>rfl
 | unknown _=>rfl
 | plus i j=>show _+_=_+_;rw[e i ok.1,e j ok.2]
 | minus i j=>show _+_=_+_;rw[e i ok.1,e j ok.2]
 | times i j=>show _+_=_+_;rw[e i ok.1,e j ok.2]
 | power i n=>show _*_=_*_;rw[e i ok.1]
theorem ZD.snoc {q:Int}{ns:List Nd}{ws:List Nat}(h:ZD q ns ws){v:Nd}(ok:v.ok ns.length q)(h16:v.wt ws<=16):ZD q (ns++[v]) (ws++[v.wt ws]):=by
 refine⟨by simp[h.len],λk u hu=>?_⟩;by_cases hk:k<ns.length
 .rw[zI hk] at hu;obtain⟨a,b,c,d⟩:=h.ok k u hu;have e:=J2 (w:=v.wt ws) (q:=q) (k:=k) (by rw[h.len];lia) u a;rw[e,Cf (by rw[h.len];exact hk)];exact⟨a,b,c,d⟩
 .have hl:=(zB.mp hu).1;simp only[zT,zX,xK] at hl;have ek:k=ns.length:=by lia
  subst ek;simp at hu;subst hu;have e:=J2 (w:=v.wt ws) (q:=q) (k:=ns.length) (by rw[h.len];lia) v ok;rw[e];refine⟨ok,?_,(h.w2 v ok).1,h16⟩;rw[<- h.len];simp
theorem ZD.take {q:Int}{ns:List Nd}{ws:List Nat}(h:ZD q ns ws)(n:Nat):ZD q (ns.take n) (ws.take n):=by
 have e:∀k:Nat,k<n->(ws.take n).getD k 0=ws.getD k 0:=λk hk=>by
  rw[zY,zY,vD hk]
 refine⟨by simp[h.len],λk u hu=>?_⟩;have hl:=(zB.mp hu).1;rw[zO] at hl;have hk:k<n:=by lia
 rw[vD hk] at hu;obtain⟨a,b,c,d⟩:=h.ok k u hu;have e2:u.wt (ws.take n)=u.wt ws:=by
  have f:∀i:Int,inR k i->(ws.take n).getD i.toNat 0=ws.getD i.toNat 0:=λi hi=>e _ (by have:=hi.1;have:=hi.2;lia)
  cases u with
  | number _ _=>rfl
  | unknown _=>rfl
  | plus i j=>show _+_=_+_;rw[f i a.1,f j a.2]
  | minus i j=>show _+_=_+_;rw[f i a.1,f j a.2]
  | times i j=>show _+_=_+_;rw[f i a.1,f j a.2]
  | power i m=>show _*_=_*_;rw[f i a.1]
 rw[e2,e k hk];exact⟨a,b,c,d⟩
def Zo (bs:LI)(g:Int)(ns:List Nd):LI:=ns.foldl (λacc v=>acc++[v.fw acc bs g]) []
theorem RM (bs:LI)(g:Int)(ns:List Nd)(v:Nd):Zo bs g (ns++[v])=Zo bs g ns++[v.fw (Zo bs g ns) bs g]:=by
 unfold Zo;rw[wB];rfl
theorem YG {α:Type}{xs:List α}{k:Nat}{x:α}(h:xs[k]?=some x):xs.take (k+1)=xs.take k++[x]:=by rw[wM,h];rfl
theorem YU (bs:LI)(g:Int)(ns:List Nd):(Zo bs g ns).length=ns.length:=by
 have z:∀k,k<=ns.length->(Zo bs g (ns.take k)).length=k:=λk=>by
  induction k with
  | zero=>intro _;rfl
  | succ k ih=>
   intro hk;rw[YG (zE (show k<ns.length by lia)),RM];simp[ih ()]
 have:=z ns.length (zA _)
 rwa [yE] at this
theorem IE (bs:LI)(g:Int)(ns:List Nd)(k:Nat):k<=ns.length->(Zo bs g ns).take k=Zo bs g (ns.take k):=by
 have z:∀m,k<=m->m<=ns.length->(Zo bs g (ns.take m)).take k=Zo bs g (ns.take k):=λm=>by
  induction m with
  | zero=>
   intro h1 _;have:k=0:=by lia
   subst this;rfl
  | succ m ih=>
   intro h1 h2;by_cases e:k=m+1
   .subst e;rw[yH (by rw[YU,zO];lia)]
   .rw[YG (zE (show m<ns.length by lia)),RM,vM (by rw[YU,zO];lia)];exact ih () ()
 intro hk;have:=z ns.length hk (zA _)
 rwa [yE] at this
def SzW (ws:List Nat)(vs:LI):Prop:=∀(k:Nat)(p:Int×Int),vs[k]?=some p->p.1<=p.2/\Sz (60*ws.getD k 0-1) p.1/\Sz (60*ws.getD k 0-1) p.2
theorem SzW.at {ws:List Nat}{vs:LI}(h:SzW ws vs){i:Int}(hi:inR vs.length i):(gt vs i).1<=(gt vs i).2/\Sz (60*ws.getD i.toNat 0-1) (gt vs i).1/\Sz (60*ws.getD i.toNat 0-1) (gt vs i).2:=by
 obtain⟨h0,h1⟩:=hi;have hk:i.toNat<vs.length:=by lia
 have e:gt vs i=vs[i.toNat]:=by simp[gt,hk]
 rw[e];exact h _ _ (zE hk)
theorem fw_w (hs:SzW ws vs)(hb:Spn 51 bs)(hg:1<=g/\g<=1000000)(hw:∀i:Int,inR vs.length i->1<=ws.getD i.toNat 0):∀v:Nd,v.ok vs.length bs.length->Sz (60*v.wt ws-1) (v.fw vs bs g).1/\Sz (60*v.wt ws-1) (v.fw vs bs g).2
 | .number t b,ok=>by
  have z:Sz 52 (t*g):=(Sz.of (n:=31) (10^9) ok.2.2).mul (Sz.of (n:=21) (10^6) (show g.natAbs<=_ by lia));exact⟨(z.div ok.1.1).mono (show 52<=60*1-1 by decide),(VS z ok.1.1).mono (show 52<=60*1-1 by decide)⟩
 | .unknown k,ok=>⟨(hb.at ok).2.1.mono (show 51<=60*1-1 by decide),(hb.at ok).2.2.mono (show 51<=60*1-1 by decide)⟩
 | .plus i j,ok=>by
  have a:=hs.at ok.1
  have b:=hs.at ok.2
  have p:=hw i ok.1
  have q:=hw j ok.2;exact⟨(a.2.1.add b.2.1).mono (by simp only[Nd.wt];lia),(a.2.2.add b.2.2).mono (by simp only[Nd.wt];lia)⟩
 | .minus i j,ok=>by
  have a:=hs.at ok.1
  have b:=hs.at ok.2
  have p:=hw i ok.1
  have q:=hw j ok.2;exact⟨(a.2.1.sub b.2.2).mono (by simp only[Nd.wt];lia),(a.2.2.sub b.2.1).mono (by simp only[Nd.wt];lia)⟩
 | .times i j,ok=>by
  have a:=hs.at ok.1
  have b:=hs.at ok.2
  have p:=hw i ok.1
  have q:=hw j ok.2
  have le:∀ {x y:Int},Sz (60*ws.getD i.toNat 0-1) x->Sz (60*ws.getD j.toNat 0-1) y->Sz (60*Nd.wt ws (.times i j)-1) (x*y):=λh1 h2=>(h1.mul h2).mono (by simp only[Nd.wt];lia)
  have l:=Wu (Wu (le a.2.1 b.2.1) (le a.2.1 b.2.2)) (Wu (le a.2.2 b.2.1) (le a.2.2 b.2.2))
  have u:=Wa (Wa (le a.2.1 b.2.1) (le a.2.1 b.2.2)) (Wa (le a.2.2 b.2.1) (le a.2.2 b.2.2));exact⟨l.div hg.1,VS u hg.1⟩
 | .power i n,ok=>by
  have a:=hs.at ok.1
  have p:=hw i ok.1
  have n2:=ok.2.1
  have gp:(1:Int)<=g^(n.toNat-1):=yD ()
  have hn:(60*ws.getD i.toNat 0-1)*n.toNat+1<=60*Nd.wt ws (.power i n)-1:=by
   simp only[Nd.wt];rw[uF,Nat.one_mul];have e:60*ws.getD i.toNat 0*n.toNat=60*(n.toNat*ws.getD i.toNat 0):=by rw[uG,vF (ws.getD i.toNat 0)]
   have m1:=wR (zA n.toNat) p;lia
  have p1:Sz (60*Nd.wt ws (.power i n)-1) ((gt vs i).1^n.toNat):=(a.2.1.pow _).mono hn
  have p2:Sz (60*Nd.wt ws (.power i n)-1) ((gt vs i).2^n.toNat):=(a.2.2.pow _).mono hn
  have l:Sz (60*Nd.wt ws (.power i n)-1) (ZP (gt vs i).1 (gt vs i).2 n.toNat):=by
   unfold ZP;split
   .exact(Sz.of (n:=1) 0 ⋯).mono (by have:=wR (show 1<=n.toNat by lia) p;simp only[Nd.wt];lia)
   .exact Wu p1 p2
  exact⟨l.div gp,VS (Wa p1 p2) gp⟩
theorem Spn.of_w {ws:List Nat}{vs:LI}(h:SzW ws vs)(hw:∀k:Nat,k<vs.length->ws.getD k 0<=16):Spn 1000 vs:=λp hp=>by
 obtain⟨k,hk,e⟩:=yV.mp hp;obtain⟨a,b,c⟩:=h k p (by rw[zE hk,e]);have:=hw k hk;exact⟨a,b.mono (),c.mono ()⟩
theorem EY {q:Int}{ns:List Nd}{ws:List Nat}{bs:LI}{g:Int}(h:ZD q ns ws)(hq:q=bs.length)(hb:Spn 51 bs)(hg:1<=g/\g<=1000000):∀k,k<=ns.length->SzW ws (Zo bs g (ns.take k)):=λk=>by
 induction k with
 | zero=>intro _ i p hp;simp[Zo] at hp
 | succ k ih=>
  intro hk;have hv:=zE (show k<ns.length by lia)
  have s:=ih ()
  have ln:(Zo bs g (ns.take k)).length=k:=by rw[YU,zO];lia
  obtain⟨ok,e,_,_⟩:=h.ok k _ hv;rw[YG hv,RM];have okv:(ns[k]).ok (Zo bs g (ns.take k)).length bs.length:=by rw[ln,<- hq];exact ok
  have w1:∀i:Int,inR (Zo bs g (ns.take k)).length i->1<=ws.getD i.toNat 0:=λi hi=>(h.w1 (i:=i) (by rw[ln] at hi;exact⟨hi.1,by have:=hi.2;lia⟩)).1
  have z:=fw_w s hb hg w1 ns[k] okv
  have l:((ns[k]).fw (Zo bs g (ns.take k)) bs g).1<=((ns[k]).fw (Zo bs g (ns.take k)) bs g).2:=by
   refine Nd.fw_le (B:=6000) ?_ (hb.mono ⋯) hg.1 _ okv;intro p hp;obtain⟨i,hi,ei⟩:=yV.mp hp;obtain⟨a,b,c⟩:=s i p (by rw[zE hi,ei]);have:=(h.w1 (i:=i) ⟨(),by rw[ln] at hi;lia⟩).2;rw[zJ] at this;exact⟨a,b.mono (),c.mono ()⟩
  intro i p hp;by_cases hi:i<k
  .rw[zI (by rw[ln];exact hi)] at hp;exact s i p hp
  .have hl:=(zB.mp hp).1;simp only[zT,zX,xK,ln] at hl;have ei:i=k:=by lia
   subst ei;rw[yJ (by rw[ln];exact zA _),ln,wC] at hp;simp at hp;subst hp;rw[e];exact⟨l,z⟩
theorem OD {q:Int}{ns:List Nd}{ws:List Nat}{bs:LI}{g:Int}(h:ZD q ns ws)(hq:q=bs.length)(hb:Spn 51 bs)(hg:1<=g/\g<=1000000)(k:Nat)(hk:k<=ns.length):Spn 1000 (Zo bs g (ns.take k)):=
 Spn.of_w (EY h hq hb hg k hk) λi hi=>by
  rw[YU,zO] at hi;have:=(h.w1 (i:=i) ⟨(),()⟩).2
  rwa [zJ] at this
theorem X8 (h:Pre S T)(hn:S.length<=n):Pre S (T.set n o):=λk u e=>by
 have hk:=(zB.mp e).1;rw[yC ()];exact h k u e
theorem Xb (h:Pre S T)(U:Sto):Pre S (T++U):=λk u e=>Zu (h k u e)
theorem zbX {to te:TDE}{dl:Ev}{S S1 S2:Sto}{Q:DK}{n:Nat}{xs:List D}{y:D}(hto:∀K:DK,K (.ref n) S1->to dl S K)(h:S1[n]?=some (.lst xs))(hte:∀K:DK,K y S2->te dl S1 K)(h2:S2[n]?=some (.lst xs))(hl:xs.length<1000)(hq:Q .non (S2.set n (.lst (xs++[y])))):Vm to te dl S Q:=by
 unfold Vm;refine hto _ ?_;simp only[h];refine hte _ ?_;simp only[h2,if_pos hl];exact hq
theorem zbQ (u v:Nd):∃b,eqN 1 u.d v.d=some b:=by cases u<;>cases v<;>exact⟨_,rfl⟩
def wtD (w:Nat):D:=.int (w:Int)
theorem zcS {u v:Nd}(h:eqN 1 u.d v.d=some true):u=v:=by
 cases u<;>cases v<;>simp[Nd.d,eqN,L3.eqT,eqL,eqF] at h
 all_goals first|(obtain⟨rfl,rfl⟩:=h;rfl)|(subst h;rfl)|exact absurd h.1 ⋯
theorem EX (v:Nd):∀ns:List Nd,∃o:Option Nat,Xo (eqN 1) (ns.map Nd.d) v.d=some o/\Y8 (eqN 1) (ns.map Nd.d) v.d=some o.isSome/\∀j,o=some j->ns[j]?=some v
 | []=>⟨none,rfl,rfl,λj h=>by cases h⟩
 | u::us=>by
  obtain⟨b,e⟩:=zbQ u v;obtain⟨o,h1,h2,h3⟩:=EX v us;have f1:Xo (eqN 1) ((u::us).map Nd.d) v.d=(match eqN 1 u.d v.d,Xo (eqN 1) (us.map Nd.d) v.d with|some true,some _=>some (some 0)|some false,some o=>some (o.map (·+1))|_,_=>none):=rfl
  have f2:Y8 (eqN 1) ((u::us).map Nd.d) v.d=(match eqN 1 u.d v.d,Y8 (eqN 1) (us.map Nd.d) v.d with|some b,some c=>some (b||c)|_,_=>none):=rfl;rw[f1,f2,e,h1,h2];cases b with
  | true=>exact⟨some 0,rfl,rfl,λj hj=>by
    cases hj;rw[zcS e];rfl⟩
  | false=>exact⟨o.map (·+1),rfl,by cases o<;>rfl,λj hj=>by
    cases o with
    | none=>cases hj
    | some i=>
     cases hj;exact h3 i rfl⟩
theorem zh3 {v:Nd}{ns:List Nd}{n j:Nat}{to:TDE}{t:TDA}{dl:Ev}{S:Sto}{Q:DK}(hto:∀K:DK,K (.ref n) S->to dl S K)(ht:∀K:List D->Sto->Prop,K [v.d] S->t dl S K)(h:S[n]?=some (.lst (ns.map Nd.d)))(e:Xo (eqN 1) (ns.map Nd.d) v.d=some (some j))(hq:Q (.int (j:Int)) S):Uk 1 to t dl S Q:=by
 unfold Uk;refine hto _ ⟨by rw[ZO h rfl];rfl,ht _ ?_⟩;unfold Rt;simp only[ZO h rfl,Zk,e];exact hq
theorem Nf {caps:List Nat}{ta:TDA}{te:TDE}{dl:Ev}{S S1:Sto}{Q:DK}{n n':Nat}{xs ys:List D}(g:D->D->D)(hta:∀K:List D->Sto->Prop,K [.ref n,.ref n'] S1->ta dl S K)(h1:S1[n]?=some (.lst xs))(h2:S1[n']?=some (.lst ys))(hl:xs.length<=1000)
  (ht:∀(k:Nat)(x y:D),xs[k]?=some x->ys[k]?=some y->∀(S2:Sto)(K:DK),Pre S1 S2->K (g x y) S2->te (some x::some y::Z8 caps dl) S2 K)(hq:Q (.ref S1.length) (S1++[.lst (List.zipWith g xs ys)])):TQ caps ta te dl S Q:=by
 unfold TQ;refine hta _ ⟨⟨by rw[ZO h1 rfl];rfl,by rw[ZO h2 rfl];rfl⟩,λk m S2=>S2=S1++[.lst (List.zipWith g (xs.take k) (ys.take k))]/\m+k=min xs.length ys.length,⟨min xs.length ys.length,by simp,()⟩,?_⟩;rintro k m S2 ⟨rfl,hm⟩;rw[ZO (XW h1) rfl,ZO (XW h2) rfl];dsimp only[Zk];split
 .rename_i x y hx hy;have hk:k<xs.length:=(zB.mp hx).1
  have hk':k<ys.length:=(zB.mp hy).1;unfold Hx;refine ht k x y hx hy _ _ Pre.refl.push ?_;rw[Zq];refine⟨by simp;lia,m-1,(),?_,()⟩;have e:xs.take (k+1)=xs.take k++[x]:=by rw[wM,hx];rfl
  have e':ys.take (k+1)=ys.take k++[y]:=by rw[wM,hy];rfl
  rw[e,e',List.zipWith_append (by rw[zO,zO];lia),WD];rfl
 .rename_i no;have hk:min xs.length ys.length<=k:=by
   by_cases l:k<min xs.length ys.length
   .exact absurd (zE (l:=ys) (i:=k) ()) (no _ _ (zE (l:=xs) (i:=k) ()))
   .lia
  refine⟨(),?_⟩;have e:List.zipWith g (xs.take k) (ys.take k)=List.zipWith g xs ys:=by
   rw[<- tG,yH (by rw[vN];exact hk)]
  rw[e];exact hq
theorem Ao (h:k<=m):∀ {v:Nd},v.ok k q->v.ok m q:=λ{v} ok=>by
 have z:∀i:Int,inR k i->inR m i:=λi hi=>⟨hi.1,by have:=hi.2;lia⟩
 cases v with
 | number _ _=>exact ok
 | unknown _=>exact ok
 | plus i j=>exact⟨z _ ok.1,z _ ok.2⟩
 | minus i j=>exact⟨z _ ok.1,z _ ok.2⟩
 | times i j=>exact⟨z _ ok.1,z _ ok.2⟩
 | power i n=>exact⟨z _ ok.1,ok.2⟩
theorem QI {vs:LI}{k:Nat}{i:Int}(h:inR k i):gt (vs.take k) i=gt vs i:=by
 have:=h.1
 have:=h.2;unfold gt;rw[zY,zY,vD ()]
theorem C2 {vs us:LI}{k:Nat}{i:Int}(h:inR k i)(hk:k<=vs.length):gt (vs++us) i=gt vs i:=by
 have:=h.1
 have:=h.2;unfold gt;rw[zY,zY,zI ()]
theorem XZ {vs:LI}{k:Nat}{p:Int×Int}(h:vs[k]?=some p):gt vs (k:Int)=p:=by
 unfold gt;rw[zY,zJ,h];rfl
theorem Sz.pow' (h:Sz n i)(hk:1<=k):Sz (n*k) (i^k):=by
 unfold Sz at *
 rw[vZ,Nat.pow_mul];exact Nat.pow_lt_pow_left h ()
theorem SzW.spn (h:SzW ws vs)(hw:∀k:Nat,k<vs.length->ws.getD k 0<=16):Spn 1000 vs:=Spn.of_w h hw
theorem Lv {A B x:Int}(y:Int)(h1:A<=x)(h2:x<=B):min (A*y) (B*y)<=x*y/\x*y<=max (A*y) (B*y):=by
 rcases wU 0 y with h|h
 .have a:=zK h1 h
  have b:=zK h2 h;lia
 .have a:=zK h1 (show 0<=-y by lia)
  have b:=zK h2 (show 0<=-y by lia);simp only[uC] at a b;lia
theorem AU {A B C D x y:Int}(h1:A<=x)(h2:x<=B)(h3:C<=y)(h4:y<=D):mn4 A B C D<=x*y/\x*y<=mx4 A B C D:=by
 have a:=Lv y h1 h2
 have b:=Lv A h3 h4
 have c:=Lv B h3 h4;rw[yN C A,yN D A,yN y A] at b;rw[yN C B,yN D B,yN y B] at c;unfold mn4 mx4;lia
theorem R9 {vs:LI}{p:Int×Int}{i:Int}(h:inR vs.length i):gt (vs++[p]) i=gt vs i:=by
 have hk:i.toNat<vs.length:=by
  have:=h.1
  have:=h.2;lia
 simp only[gt,zY,zI hk]
theorem Rl {vs:LI}{p:Int×Int}{k:Nat}(h:vs.length=k):gt (vs++[p]) (k:Int)=p:=by
 subst h;simp[gt]
def Gd (B:Nat)(vs:LI):Prop:=∀p∈vs,1<=p.2/\Int.gcd p.1 p.2=1/\Sz B p.1/\Sz B p.2
def Pz (B:Nat)(vs:LI):Prop:=∀p∈vs,1<=p.2/\Sz B p.1/\Sz B p.2
theorem Pz.at {B:Nat}{vs:LI}(h:Pz B vs){i:Int}(hi:inR vs.length i):1<=(gt vs i).2/\Sz B (gt vs i).1/\Sz B (gt vs i).2:=h _ (KR hi)
def Nd.due (vs ps:LI):Nd->Int×Int
 | .number t b=>(t,b)
 | .unknown k=>gt ps k
 | .plus i j=>((gt vs i).1*(gt vs j).2+(gt vs j).1*(gt vs i).2,(gt vs i).2*(gt vs j).2)
 | .minus i j=>((gt vs i).1*(gt vs j).2-(gt vs j).1*(gt vs i).2,(gt vs i).2*(gt vs j).2)
 | .times i j=>((gt vs i).1*(gt vs j).1,(gt vs i).2*(gt vs j).2)
 | .power i n=>((gt vs i).1^n.toNat,(gt vs i).2^n.toNat)
def PzW (ws:List Nat)(vs:LI):Prop:=∀(k:Nat)(p:Int×Int),vs[k]?=some p->1<=p.2/\Sz (112*ws.getD k 0-2) p.1/\Sz (112*ws.getD k 0-2) p.2
theorem PzW.at {ws:List Nat}{vs:LI}(h:PzW ws vs){i:Int}(hi:inR vs.length i):1<=(gt vs i).2/\Sz (112*ws.getD i.toNat 0-2) (gt vs i).1/\Sz (112*ws.getD i.toNat 0-2) (gt vs i).2:=by
 obtain⟨h0,h1⟩:=hi;have hk:i.toNat<vs.length:=by lia
 have e:gt vs i=vs[i.toNat]:=by simp[gt,hk]
 rw[e];exact h _ _ (zE hk)
theorem due_w (hs:PzW ws vs)(hp:Pz 110 ps)(hw:∀i:Int,inR vs.length i->1<=ws.getD i.toNat 0):∀v:Nd,v.ok vs.length ps.length->1<=(v.due vs ps).2/\Sz (112*v.wt ws-2) (v.due vs ps).1/\Sz (112*v.wt ws-2) (v.due vs ps).2
 | .number t b,ok=>⟨ok.1.1,(Sz.of (n:=31) (10^9) ok.2.2).mono (show 31<=112*1-2 by decide),(Sz.of (n:=31) (10^9) (by have:=ok.1;show b.natAbs<=_;lia)).mono (show 31<=112*1-2 by decide)⟩
 | .unknown k,ok=>⟨(hp.at ok).1,(hp.at ok).2.1.mono (show 110<=112*1-2 by decide),(hp.at ok).2.2.mono (show 110<=112*1-2 by decide)⟩
 | .plus i j,ok=>by
  have a:=hs.at ok.1
  have b:=hs.at ok.2
  have p:=hw i ok.1
  have q:=hw j ok.2;exact⟨xW (show 0<_ by lia) (show 0<_ by lia),((a.2.1.mul b.2.2).add (b.2.1.mul a.2.2)).mono (by simp only[Nd.wt];lia),(a.2.2.mul b.2.2).mono (by simp only[Nd.wt];lia)⟩
 | .minus i j,ok=>by
  have a:=hs.at ok.1
  have b:=hs.at ok.2
  have p:=hw i ok.1
  have q:=hw j ok.2;exact⟨xW (show 0<_ by lia) (show 0<_ by lia),((a.2.1.mul b.2.2).sub (b.2.1.mul a.2.2)).mono (by simp only[Nd.wt];lia),(a.2.2.mul b.2.2).mono (by simp only[Nd.wt];lia)⟩
 | .times i j,ok=>by
  have a:=hs.at ok.1
  have b:=hs.at ok.2
  have p:=hw i ok.1
  have q:=hw j ok.2;exact⟨xW (show 0<_ by lia) (show 0<_ by lia),(a.2.1.mul b.2.1).mono (by simp only[Nd.wt];lia),(a.2.2.mul b.2.2).mono (by simp only[Nd.wt];lia)⟩
 | .power i n,ok=>by
  have a:=hs.at ok.1
  have p:=hw i ok.1
  have n2:=ok.2.1
  have hn:(112*ws.getD i.toNat 0-2)*n.toNat+1<=112*Nd.wt ws (.power i n)-2:=by
   simp only[Nd.wt];rw[uF];have e:112*ws.getD i.toNat 0*n.toNat=112*(n.toNat*ws.getD i.toNat 0):=by rw[uG,vF (ws.getD i.toNat 0)]
   have m1:=wR (zA n.toNat) p;lia
  exact⟨yD (show 0<_ by lia),(a.2.1.pow _).mono hn,(a.2.2.pow _).mono hn⟩
def Zt (ps:LI)(ns:List Nd):LI:=ns.foldl (λacc v=>acc++[v.due acc ps]) []
theorem WN (ps:LI)(ns:List Nd)(v:Nd):Zt ps (ns++[v])=Zt ps ns++[v.due (Zt ps ns) ps]:=by
 unfold Zt;rw[wB];rfl
theorem Xf (ps:LI)(ns:List Nd):(Zt ps ns).length=ns.length:=by
 have z:∀k,k<=ns.length->(Zt ps (ns.take k)).length=k:=λk=>by
  induction k with
  | zero=>intro _;rfl
  | succ k ih=>
   intro hk;rw[YG (zE (show k<ns.length by lia)),WN];simp[ih ()]
 have y:=z ns.length (zA _)
 rwa [yE] at y
theorem zhe (h:PzW ws vs)(lk:vs.length=k)(hp:1<=p.2/\Sz (112*ws.getD k 0-2) p.1/\Sz (112*ws.getD k 0-2) p.2):PzW ws (vs++[p]):=λi q hq=>by
 by_cases hi:i<k
 .rw[zI ()] at hq;exact h i q hq
 .have hl:=(zB.mp hq).1;simp only[zT,zX,xK,lk] at hl;have ei:i=k:=by lia
  subst ei;rw[yJ (),lk,wC] at hq;simp at hq;subst hq;exact hp
theorem zf1 {q:Int}{ns:List Nd}{ws:List Nat}(h:ZD q ns ws){k:Nat}{vs:LI}(hk:k<=ns.length)(lv:vs.length=k):∀i:Int,inR vs.length i->1<=ws.getD i.toNat 0:=λi hi=>(h.w1 (i:=i) ⟨hi.1,by have:=hi.2;lia⟩).1
theorem SO {q:Int}{ns:List Nd}{ws:List Nat}{ps:LI}(h:ZD q ns ws)(hq:q=ps.length)(hp:Pz 110 ps):∀k,k<=ns.length->PzW ws (Zt ps (ns.take k)):=by
 intro k
 induction k with
 | zero=>intro _ i p hp;simp[Zt] at hp
 | succ k ih=>
  intro hk;have hv:=zE (show k<ns.length by lia)
  have s:=ih ()
  have ln:(Zt ps (ns.take k)).length=k:=by rw[Xf,zO];lia
  obtain⟨ok,e,_,_⟩:=h.ok k _ hv;rw[YG hv,WN];refine zhe s ln ?_;rw[e];exact due_w s hp (zf1 h () ln) _ (by rw[ln,<- hq];exact ok)
theorem Pz.of_w {ws:List Nat}{vs:LI}(h:PzW ws vs)(hw:∀k:Nat,k<vs.length->ws.getD k 0<=16):Pz 1800 vs:=λp hp=>by
 obtain⟨k,hk,e⟩:=yV.mp hp;obtain⟨a,b,c⟩:=h k p (by rw[zE hk,e]);have:=hw k hk;exact⟨a,b.mono (),c.mono ()⟩
theorem WZ {p q k:Int}(h:0<=k):min (p*k) (q*k)=min p q*k/\max (p*k) (q*k)=max p q*k:=by
 rcases wU p q with c|c
 .have:=zK c h;rw[Int.min_eq_left c,Int.max_eq_right c];omega
 .have:=zK c h;rw[Int.min_eq_right c,Int.max_eq_left c];omega
theorem JP {a b c d p q:Int}(h:0<=p*q):mn4 (a*p) (b*p) (c*q) (d*q)=mn4 a b c d*(p*q)/\mx4 (a*p) (b*p) (c*q) (d*q)=mx4 a b c d*(p*q):=by
 have e:∀x y:Int,x*p*(y*q)=x*y*(p*q):=λx y=>by grind
 unfold mn4 mx4;rw[e,e,e,e];refine⟨?_,?_⟩
 .rw[(WZ h).1,(WZ h).1,(WZ h).1]
 .rw[(WZ h).2,(WZ h).2,(WZ h).2]
theorem C0 (hn:1<=n)(hp:1<=p)(h1:a*p<=x)(h2:x<=b*p):ZP a b n*p^n<=x^n/\x^n<=Z7 a b n*p^n:=by
 have pp:0<p^n:=yD ()
 have lo1:ZP a b n<=a^n:=by
  unfold ZP;split
  .rename_i c;exact WT c.1 a
  .lia
 have lo2:ZP a b n<=b^n:=by
  unfold ZP;split
  .rename_i c;exact WT c.1 b
  .lia
 refine zbs hn h1 h2 ?_ ?_ (λha hb=>?_) ?_ ?_
 .rw[yW];exact zK lo1 ()
 .rw[yW];exact zK lo2 ()
 .have a0:a<0:=by
   by_cases c:a<0
   .exact c
   .have:=yG (show 0<=a by lia) (show 0<=p by lia);lia
  have b0:0<b:=by
   by_cases c:0<b
   .exact c
   .have:=yG (show 0<=-b by lia) (show 0<=p by lia);rw[xJ] at this;lia
  have z:ZP a b n<=0:=by
   unfold ZP;split
   .exact zQ _
   .rename_i c;have:=Oo (n:=n) () a0;lia
  have:=yG (show 0<=-ZP a b n by lia) (show 0<=p^n by lia);rw[xJ] at this;lia
 .rw[yW];exact zK (by unfold Z7;lia) ()
 .rw[yW];exact zK (by unfold Z7;lia) ()
theorem Cp (hG:1<=G)(hB:0<=B)(h1:m*B<=X*G)(h2:X*G<=M*B):m/G*B<=X/\X<=-(-M/G)*B:=by
 have a:=zK (VZ m (show 0<G by lia)).1 hB
 have b:=zK (Ru M (show 0<G by lia)).1 hB
 have e1:m/G*G*B=m/G*B*G:=by grind
 have e2:-(-M/G)*G*B=-(-M/G)*B*G:=by grind
 rw[e1] at a;rw[e2] at b;exact⟨yO (a:=G) () (),yO (a:=G) () ()⟩
def InW (g:Int)(vs ds:LI):Prop:=∀i:Int,inR ds.length i->(gt vs i).1*(gt ds i).2<=(gt ds i).1*g/\(gt ds i).1*g<=(gt vs i).2*(gt ds i).2
theorem Ab (hg:1<=g)(h:InW g vs ds)(hp:InW g bs ps)(pd:Pz B ds)(pp:Pz B ps):∀v:Nd,v.ok ds.length ps.length->(v.fw vs bs g).1*(v.due ds ps).2<=(v.due ds ps).1*g/\(v.due ds ps).1*g<=(v.fw vs bs g).2*(v.due ds ps).2
 | .number t b,ok=>⟨(VZ (t*g) (show 0<b by have:=ok.1.1;lia)).1,(Ru (t*g) (show 0<b by have:=ok.1.1;lia)).1⟩
 | .unknown k,ok=>hp k ok
 | .plus i j,ok=>by
  have a:=h i ok.1
  have b:=h j ok.2
  have p1:=(pd.at ok.1).1
  have p2:=(pd.at ok.2).1;simp only[Nd.fw,Nd.due];have a1:=zK a.1 (show 0<=(gt ds j).2 by lia)
  have a2:=zK a.2 (show 0<=(gt ds j).2 by lia)
  have b1:=zK b.1 (show 0<=(gt ds i).2 by lia)
  have b2:=zK b.2 (show 0<=(gt ds i).2 by lia);grind
 | .minus i j,ok=>by
  have a:=h i ok.1
  have b:=h j ok.2
  have p1:=(pd.at ok.1).1
  have p2:=(pd.at ok.2).1;simp only[Nd.fw,Nd.due];have a1:=zK a.1 (show 0<=(gt ds j).2 by lia)
  have a2:=zK a.2 (show 0<=(gt ds j).2 by lia)
  have b1:=zK b.1 (show 0<=(gt ds i).2 by lia)
  have b2:=zK b.2 (show 0<=(gt ds i).2 by lia);grind
 | .times i j,ok=>by
  have a:=h i ok.1
  have b:=h j ok.2
  have p1:=(pd.at ok.1).1
  have p2:=(pd.at ok.2).1
  have pq:0<=(gt ds i).2*(gt ds j).2:=yG () ()
  have z:=AU a.1 a.2 b.1 b.2;rw[(JP pq).1,(JP pq).2] at z;have e:(gt ds i).1*g*((gt ds j).1*g)=(gt ds i).1*(gt ds j).1*g*g:=by grind
  rw[e] at z;exact Cp hg pq z.1 z.2
 | .power i n,ok=>by
  have a:=h i ok.1
  have p1:=(pd.at ok.1).1
  have n2:=ok.2.1;obtain⟨k,hk⟩:∃k,n.toNat=k+1:=⟨n.toNat-1,()⟩;have z:=C0 (n:=n.toNat) () p1 a.1 a.2
  have e:((gt ds i).1*g)^n.toNat=(gt ds i).1^n.toNat*g*g^(n.toNat-1):=by
   rw[yW,hk,uE,zV g k];grind
  rw[e] at z;exact Cp (yD ()) (vI (yD ())) z.1 z.2
theorem R5 {q:Int}{ns:List Nd}{ws:List Nat}{bs ps:LI}{g:Int}(h:ZD q ns ws)(hq:q=bs.length)(hqp:q=ps.length)(hg:1<=g)(hp:InW g bs ps)(pp:Pz 110 ps):∀k,k<=ns.length->InW g (Zo bs g (ns.take k)) (Zt ps (ns.take k)):=by
 intro k
 induction k with
 | zero=>intro _ i hi;exact absurd hi.2 (by have:=hi.1;simp[Zt];lia)
 | succ k ih=>
  intro hk i hi;have hv:ns[k]?=some ns[k]:=zE ();obtain⟨ok,_⟩:=h.ok k _ hv;have ln:(Zo bs g (ns.take k)).length=k:=by rw[YU,zO];lia
  have lN:(Zt ps (ns.take k)).length=k:=by rw[Xf,zO];lia
  rw[YG hv,WN] at hi;rw[YG hv,RM,WN];have hi2:i<k+1:=by have:=hi.2;simp only[zT,zX,xK,lN] at this;lia
  by_cases c:i<k
  .rw[R9 (by rw[ln];exact⟨hi.1,c⟩),R9 (by rw[lN];exact⟨hi.1,c⟩)];exact ih () i (by rw[lN];exact⟨hi.1,c⟩)
  .have e:i=k:=by lia
   subst e;rw[Rl ln,Rl lN];have pz:Pz 1800 (Zt ps (ns.take k)):=Pz.of_w (SO h hqp pp k ()) λj hj=>(h.w1 (i:=j) ⟨(),()⟩).2
   refine Ab (B:=1800) hg (ih ()) hp pz (λp hp=>⟨(pp p hp).1,(pp p hp).2.1.mono ⋯,(pp p hp).2.2.mono ⋯⟩) _ ?_;rw[lN,<- hqp];exact ok
theorem D9 {vs us ps:LI}{k:Nat}{q:Int}(h:∀i:Int,inR k i->gt vs i=gt us i):∀v:Nd,v.ok k q->v.due vs ps=v.due us ps
 | .number _ _,_=>rfl
 | .unknown _,_=>rfl
 | .plus i j,ok=>by simp only[Nd.due,h i ok.1,h j ok.2]
 | .minus i j,ok=>by simp only[Nd.due,h i ok.1,h j ok.2]
 | .times i j,ok=>by simp only[Nd.due,h i ok.1,h j ok.2]
 | .power i n,ok=>by simp only[Nd.due,h i ok.1]
theorem IQ (P:LI)(ns:List Nd):∀ms:List Nd,∃r,Zt P (ns++ms)=Zt P ns++r
 | []=>⟨[],by rw[xR,xR]⟩
 | v::ms=>by
  obtain⟨r,e⟩:=IQ P (ns++[v]) ms;rw[yZ] at e;refine⟨v.due (Zt P ns) P::r,?_⟩;rw[show ns++v::ms=ns++([v]++ms) from rfl,e,WN,yZ];rfl
theorem LY {P:LI}{ns ms:List Nd}{i:Int}(h:inR ns.length i):gt (Zt P (ns++ms)) i=gt (Zt P ns) i:=by
 obtain⟨r,e⟩:=IQ P ns ms;rw[e];exact C2 (k:=ns.length) h (by rw[Xf];exact zA _)
theorem zbg {P:LI}{ns:List Nd}{ws:List Nat}{q:Int}{j:Nat}{v:Nd}(net:ZD q ns ws)(h:ns[j]?=some v):gt (Zt P ns) (j:Int)=v.due (Zt P ns) P:=by
 have hj:=(zB.mp h).1
 have e:ns=ns.take (j+1)++ns.drop (j+1):=(wX _ _).symm
 have e2:ns=ns.take j++ns.drop j:=(wX _ _).symm
 have l:(ns.take (j+1)).length=j+1:=by rw[zO];lia
 have lj:(ns.take j).length=j:=by rw[zO];lia
 have g1:gt (Zt P ns) (j:Int)=gt (Zt P (ns.take (j+1))) (j:Int):=by
  have z:=LY (P:=P) (ns:=ns.take (j+1)) (ms:=ns.drop (j+1)) (i:=(j:Int)) ⟨(),by rw[l];lia⟩;rw[<- e] at z;exact z
 rw[g1,YG h,WN,Rl (by rw[Xf,lj])];refine D9 (k:=j) (q:=q) (λi hi=>?_) v (net.ok j v h).1;have z:=LY (P:=P) (ns:=ns.take j) (ms:=ns.drop j) (i:=i) (by rw[lj];exact hi);rw[<- e2] at z;exact z.symm
theorem AL {ws us:List Nat}{i:Nat}(h:i<ws.length):(ws++us).getD i 0=ws.getD i 0:=by rw[zY,zY,zI h]
structure Gr (q a c:Nat)(S:Sto)(ns:List Nd)(ws:List Nat)(T:Sto)(ns':List Nd)(ws':List Nat):Prop where
 net:ZD q ns' ws'
 pn:∃ms,ns'=ns++ms/\ms.length<=c
 pw:∃us,ws'=ws++us
 nd:T[a]?=some (.lst (ns'.map Nd.d))
 len:S.length<=T.length
 kp:∀(x:Nat)(o:Ob),x≠a->S[x]?=some o->T[x]?=some o
theorem Gr.refl {q a:Nat}{S:Sto}{ns:List Nd}{ws:List Nat}(net:ZD q ns ws)(h:S[a]?=some (.lst (ns.map Nd.d))):Gr q a 0 S ns ws S ns ws:=⟨net,⟨[],by simp,by simp⟩,⟨[],by simp⟩,h,zA _,λ_ _ _ e=>e⟩
theorem Gr.trans {q a c d:Nat}{S T U:Sto}{ns ns' ns2:List Nd}{ws ws' ws2:List Nat}(h:Gr q a c S ns ws T ns' ws')(k:Gr q a d T ns' ws' U ns2 ws2):Gr q a (c+d) S ns ws U ns2 ws2:=by
 obtain⟨n1,⟨ms,rfl,l1⟩,⟨us,rfl⟩,a1,e1,k1⟩:=h;obtain⟨n2,⟨ms2,rfl,l2⟩,⟨us2,rfl⟩,a2,e2,k2⟩:=k;exact⟨n2,⟨ms++ms2,by rw[yZ],by rw[zT];lia⟩,⟨us++us2,by rw[yZ]⟩,a2,(),λx o hx e=>k2 x o hx (k1 x o hx e)⟩
theorem Gr.mono {q a c d:Nat}{S T:Sto}{ns ns':List Nd}{ws ws':List Nat}(h:Gr q a c S ns ws T ns' ws')(l:c<=d):Gr q a d S ns ws T ns' ws':=by
 obtain⟨n1,⟨ms,e,l1⟩,u,a1,e1,k1⟩:=h;exact⟨n1,⟨ms,e,()⟩,u,a1,e1,k1⟩
theorem Gr.ln {q a c:Nat}{S T:Sto}{ns ns':List Nd}{ws ws':List Nat}(h:Gr q a c S ns ws T ns' ws'):ns.length<=ns'.length/\ns'.length<=ns.length+c:=by
 obtain⟨n1,⟨ms,rfl,l1⟩,_⟩:=h;rw[zT];lia
theorem Gr.wt {q a c:Nat}{S T:Sto}{ns ns':List Nd}{ws ws':List Nat}(h:Gr q a c S ns ws T ns' ws')(net:ZD q ns ws){i:Nat}(hi:i<ns.length):ws'.getD i 0=ws.getD i 0:=by
 obtain⟨us,rfl⟩:=h.pw;exact AL (by rw[net.len];exact hi)
theorem Gr.due {q a c:Nat}{S T:Sto}{ns ns':List Nd}{ws ws':List Nat}(h:Gr q a c S ns ws T ns' ws')(P:LI){i:Nat}(hi:i<ns.length):gt (Zt P ns') (i:Int)=gt (Zt P ns) (i:Int):=by
 obtain⟨ms,rfl,_⟩:=h.pn;exact LY ⟨(),()⟩
structure Zr (P:LI)(ns:List Nd)(ws:List Nat)(w i:Nat):Prop where
 lt:i<ns.length
 wt:ws.getD i 0<=w
 due:(gt (Zt P ns) (i:Int)).1=0
theorem zcb {q a c:Nat}{S T:Sto}{ns ns':List Nd}{ws ws':List Nat}(h:Gr q a c S ns ws T ns' ws')(net:ZD q ns ws){v:Nd}(ok:v.ok ns.length q):v.wt ws'=v.wt ws:=by
 have z:∀i:Int,inR (ns.length:Nat) i->ws'.getD i.toNat 0=ws.getD i.toNat 0:=λi hi=>by
  have h0:=hi.1
  have h1:=hi.2;exact h.wt net ()
 cases v with
 | number _ _=>rfl
 | unknown _=>rfl
 | plus i j=>show ws'.getD i.toNat 0+ws'.getD j.toNat 0=ws.getD i.toNat 0+ws.getD j.toNat 0;rw[z i ok.1,z j ok.2]
 | minus i j=>show ws'.getD i.toNat 0+ws'.getD j.toNat 0=ws.getD i.toNat 0+ws.getD j.toNat 0;rw[z i ok.1,z j ok.2]
 | times i j=>show ws'.getD i.toNat 0+ws'.getD j.toNat 0=ws.getD i.toNat 0+ws.getD j.toNat 0;rw[z i ok.1,z j ok.2]
 | power i n=>show n.toNat*ws'.getD i.toNat 0=n.toNat*ws.getD i.toNat 0;rw[z i ok.1]
theorem C7 {q a c j:Nat}{S T:Sto}{ns ns':List Nd}{ws ws':List Nat}(h:Gr q a c S ns ws T ns' ws'){v:Nd}(ok:v.ok ns.length q)(hj:ns'[j]?=some v)(P:LI):gt (Zt P ns') (j:Int)=v.due (Zt P ns) P:=by
 rw[zbg (P:=P) h.net hj];refine D9 (k:=ns.length) (q:=q) (λi hi=>?_) v ok;have h0:=hi.1
 have h1:=hi.2
 have z:=h.due P (i:=i.toNat) ();rw[show ((i.toNat:Nat):Int)=i by lia] at z;exact z
structure Tight (x0 x1:Int)(V Sp:Int->Int->Prop)(L U:Int):Prop where
 all:∀p q,0<q->x0*q<=p->p<=x1*q->V p q->L*q<=p/\p<=U*q
 lo:∃p q,Sp p q/\0<q/\x0*q<=p/\p<=x1*q/\V p q/\p<(L+1)*q
 hi:∃p q,Sp p q/\0<q/\x0*q<=p/\p<=x1*q/\V p q/\(U-1)*q<p
theorem dl (m:Int){g:Int}(hg:0<g):m/g*g<=m/\m<(m/g+1)*g:=by
 have h1:=vY m g
 have h2:=vH m (show g≠0 by lia)
 have h3:=vX m hg
 have e:(m/g+1)*g=g*(m/g)+g:=by grind
 have e2:m/g*g=g*(m/g):=yN _ _;lia
theorem mlr {a b c:Int}(h:a<=b)(hc:0<=c):a*c<=b*c:=zK h hc
theorem can {a b c:Int}(h:a*c<=b*c)(hc:0<c):a<=b:=yO h hc
structure Low (x0 x1 lo hi lb hb L:Int):Prop where
 all:∀p q,0<q->x0*q<=p->lo*q<=p*lb->L*q<=p
 ex:∃p q,(p=x0/\q=1\/p=lo/\q=lb)/\0<q/\x0*q<=p/\p<=x1*q/\(lo*q<=p*lb/\p*hb<=hi*q)/\p<(L+1)*q
structure Side (lo hi x0 x1 c d:Int):Prop where
 hz:lo<=hi
 hx:x0<=x1
 h0:0<=c
 hcd:c<=d
 hd:0<d
section
variable {lo hi x0 x1 c d:Int}
end
abbrev mx0 (a:Int):Int:=if 0 > a then 0 else a
section
variable {lo hi x0 x1 y0 y1 L U L' U' l u:Int}
variable (hz:lo<=hi)(hy:y0<=y1)(nb:¬ ((y0<=0/\0<=y1)/\lo<=0/\0<=hi))
include hz hy nb
end
theorem if2 {a b:Prop} [Decidable a] [Decidable b] {A B:Prop}(h1:a->b->A)(h2:¬ (a/\b)->B):if (decide a&&decide b)=true then A else B:=by
 by_cases z:a/\b
 .rw[decide_eq_true z.1,decide_eq_true z.2];exact YA (h1 z.1 z.2)
 .have e:(decide a&&decide b)=false:=by
   simp only[Bool.and_eq_false_iff,decide_eq_false_iff_not];by_cases y:a
   .exact .inr λy2=>z ⟨y,y2⟩
   .exact .inl y
  rw[e];exact YB (h2 z)
theorem and2 {a b:Prop} [Decidable a] [Decidable b] {Q:DK}{S:Sto}(h:Q (.bl (decide a&&decide b)) S):if decide a=true then Q (.bl (decide b)) S else Q (.bl false) S:=
 ifD (λe=>by rw[decide_eq_true e,wV] at h;exact h) (λe=>by rw[decide_eq_false e,xY] at h;exact h)
theorem Dz (a:Int):0<=mx0 a:=by unfold mx0;split<;>lia
theorem Ew (h:Sz 1400 a):Sz 1400 (mx0 a):=by
 unfold mx0;split
 .exact Sz.of 0 ⋯
 .exact h
theorem cut {a b c t2:TDS}{E:Xz}{dl:Ev}{S:Sto}{α:Type}(G:α->Ev)(P:α->Prop)(h:(∀a,P a->t2 E (G a) S)->XQ a (XQ b (XQ c t2)) E dl S)(main:∀a,P a->t2 E (G a) S):XQ a (XQ b (XQ c t2)) E dl S:=h main
def Mt (n:Nat)(lo hi l h:Int):Prop:=((n%2=0/\l<0/\0<h)/\0<=hi\/¬ (n%2=0/\l<0/\0<h)/\(l^n<=hi\/h^n<=hi))/\(lo<=l^n\/lo<=h^n)
structure Rts (n:Nat)(lo hi al bl ah bh:Int):Prop where
 hz:lo<=hi
 hn:1<=n
 nn:n%2=0->0<=al/\0<=ah
 up:∀t:Int,n%2=1\/0<=t->(t^n<=hi↔t<=ah)
 dn:∀t:Int,n%2=1\/0<=t->(lo<=t^n↔bl<=t)
 el:bl=al/\(bl^n=lo\/bl=0/\n%2=0)\/bl=al+1/\bl^n≠lo
 eh:bh=ah/\ah^n=hi\/bh=ah+1/\ah^n≠hi
section
variable {n:Nat}{lo hi al bl ah bh:Int}
structure Least (n:Nat)(lo hi x0 x1 m:Int):Prop where
 a:x0<=m
 b:m<=x1
 c:Mt n lo hi x0 m
 d:∀k,x0<=k->k<m->¬ Mt n lo hi x0 k
def Ja (n:Nat)(lo hi x0 x1 v:Int):Prop:=∃m,Least n lo hi x0 x1 m/\(m=x0/\v=x0\/m≠x0/\(((m-1)^n<lo/\m^n=lo\/(m-1)^n > hi/\m^n=hi)/\v=m\/¬ ((m-1)^n<lo/\m^n=lo\/(m-1)^n > hi/\m^n=hi)/\v=m-1))
end
structure Wn (n:Nat)(lo hi x0 x1 L U:Int):Prop where
 m:Mt n lo hi x0 x1
 low:∀v,Ja n lo hi x0 x1 v->v=L
 he:n%2=0->∀v,Ja n lo hi (-x1) (-x0) v->v=-U
 ho:n%2=1->∀v,Ja n (-hi) (-lo) (-x1) (-x0) v->v=-U
 lu:L<=U
 has:∀t,x0<=t->t<=x1->lo<=t^n->t^n<=hi->L<=t/\t<=U
section
variable {n:Nat}{lo hi al bl ah bh x0 x1:Int}
end
theorem Sz.mid {n:Nat}{a b x:Int}(ha:Sz n a)(hb:Sz n b)(h1:a<=x)(h2:x<=b):Sz n x:=by
 unfold Sz at *
 generalize 2^n=B at *
 lia
theorem CS (hn:2<=n)(s:Sz 1300 N):Sz 652 (1*2^((Builtin.Int.intBits N:Int)/n+1).toNat):=by
 have b:=s.bits;rw[vO];unfold Sz;rw[vZ];have e:(2:Int).natAbs=2:=rfl;rw[e];refine Nat.pow_lt_pow_right ⋯ ?_;have d:(Builtin.Int.intBits N:Int)/n<=650:=by
  have h1:(Builtin.Int.intBits N:Int)/n<=(Builtin.Int.intBits N:Int)/2:=by
   refine(Int.le_ediv_iff_mul_le ()).mpr ?_;have d1:=vY (Builtin.Int.intBits N:Int) n
   have d2:=vH (Builtin.Int.intBits N:Int) (show n≠0 by lia)
   have d3:=uH (show (0:Int)<=(Builtin.Int.intBits N:Int) by lia) (show 0<=n by lia)
   have d4:=zK hn d3
   have d5:(Builtin.Int.intBits N:Int)/n*2=2*((Builtin.Int.intBits N:Int)/n):=yN _ _;lia
  lia
 lia
theorem EA {caps:List Nat}{tl te:TDE}{dl:Ev}{S S1:Sto}{Q:DK}{n:Nat}{o:Ob}(W:Nat->List D->Sto->Prop)(htl:∀K:DK,K (.ref n) S1->tl dl S K)(h1:S1[n]?=some o)(hw:∀k ys S2,W k ys S2->S2[n]?=some o/\S2[S1.length]?=some (.lst ys)/\ys.length=k)(hl:(Zk o).length<=1000)(h0:W 0 [] (S1++[.lst []]))
  (ht:∀(k:Nat)(x:D)(ys:List D)(S2:Sto)(K:DK),(Zk o)[k]?=some x->W k ys S2->(∀y S3,S3[S1.length]?=some (.lst ys)->W (k+1) (ys++[y]) (S3.set S1.length (.lst (ys++[y])))->K y S3)->te (some x::Z8 caps dl) S2 K)
  (hq:∀ys S2,W (Zk o).length ys S2->Q (.ref S1.length) S2)(hL:Y2 o=some o:=by rfl):Xp caps tl YW te dl S Q:=by
 unfold Xp;refine htl _ ⟨by rw[ZO h1 hL];rfl,λk m S2=>(∃ys,W k ys S2)/\m+k=(Zk o).length,⟨(Zk o).length,⟨_,h0⟩,()⟩,?_⟩;rintro k m S2 ⟨⟨ys,w⟩,hm⟩;obtain⟨w1,w2,w3⟩:=hw _ _ _ w;rw[ZO w1 hL];dsimp only;split
 .rename_i x hx;have hk:k<(Zk o).length:=(zB.mp hx).1;unfold Wm YW;simp only[if_true];refine ht k x ys S2 _ hx w λy S3 e3 w4=>?_
  rw[e3];exact⟨(),m-1,(),⟨_,w4⟩,()⟩
 .rename_i hx;have hk:k=(Zk o).length:=by
   have:=xH.mp hx;lia
  exact hq ys S2 (hk ▸ w)
theorem Cs {caps:List Nat}{ta:TDA}{te:TDE}{dl:Ev}{S S1:Sto}{Q:DK}{j:Int}(W:Nat->List D->Sto->Prop)(hta:∀K:List D->Sto->Prop,K [.int j] S1->ta dl S K)(hj:0<=j/\j<=1000)(hw:∀k ys S2,W k ys S2->S2[S1.length]?=some (.lst ys)/\ys.length=k)(h0:W 0 [] (S1++[.lst []]))
  (ht:∀(k:Nat)(ys:List D)(S2:Sto)(K:DK),k<j.toNat->W k ys S2->(∀y S3,S3[S1.length]?=some (.lst ys)->W (k+1) (ys++[y]) (S3.set S1.length (.lst (ys++[y])))->K y S3)->te (some (.int (k:Int))::Z8 caps dl) S2 K)
  (hq:∀ys S2,W j.toNat ys S2->Q (.ref S1.length) S2):Wg caps ta YW te dl S Q:=by
 unfold Wg;refine hta _ ⟨⟨(),()⟩,λk S2=>k<=j.toNat/\∃ys,W k ys S2,⟨zZ _,_,h0⟩,?_⟩;rintro k S2 ⟨hk,ys,w⟩;obtain⟨w2,w3⟩:=hw _ _ _ w;split
 .rename_i c;unfold Wm YW;simp only[if_true];refine ht k ys S2 _ c w λy S3 e3 w4=>?_
  rw[e3];exact⟨(),(),_,w4⟩
 .rename_i c;have hk:k=j.toNat:=by lia
  exact hq ys S2 (hk ▸ w)
theorem EE {S T:Sto}{n:Nat}{o:Ob}(h:Pre S T)(hn:S.length<=n):Pre S (T.set n o):=λk u e=>by
 have l:=(zB.mp e).1;rw[yC ()];exact h k u e
theorem E7 {vs:List Nd}{k:Nat}{v:Nd}(h:vs[k]?=some v):atI (vs.map Nd.d) (k:Int)=some v.d:=Yx (by rw[zG,h];rfl)
theorem Oe {is:List Nat}{ta:TDA}{tb:TDS}{E:Xz}{dl:Ev}{S S1:Sto}{n:Nat}{xs:List D}(W:Nat->Ev->Sto->Prop)(hta:∀K:List D->Sto->Prop,K [.ref n] S1->ta dl S K)(hk:∀k dl' S',W k dl' S'->S'[n]?=some (.lst xs))(h0:W 0 dl S1)
  (hb:∀(k:Nat)(x:D)(dl':Ev)(S':Sto)(nx ct:Ev->Sto->Prop),xs[k]?=some x->W k dl' S'->(∀dl2 S2,W (k+1) dl2 S2->nx dl2 S2)->tb { nx:=nx,rt:=E.rt,bk:=E.nx,ct:=ct } (WS is [.int (k:Int),x] dl') S')(he:∀dl' S',W xs.length dl' S'->E.nx dl' S'):Qc is ta tb E dl S:=by
 unfold Qc;refine hta _ ⟨by rw[ZO (hk _ _ _ h0) rfl];rfl,λk m dl' S'=>W k dl' S'/\k+m=xs.length,⟨xs.length,h0,()⟩,?_⟩;rintro k m dl' S' ⟨w,hm⟩;rw[ZO (hk _ _ _ w) rfl];dsimp only[Zk];split
 .rename_i x e1;have l1:=(zB.mp e1).1;exact hb k x dl' S' _ _ e1 w (λdl2 S2 w2=>⟨m-1,(),w2,()⟩)
 .rename_i e1;have l1:=xH.mp e1
  have ek:k=xs.length:=by lia
  exact⟨ek,he _ _ (ek ▸ w)⟩
theorem PV (h0:0<=n)(h1:n<=xs.length):Yd xs none (some n)=xs.take n.toNat:=by
 unfold L3.Yd;have e:HT.sIx xs.length xs.length (some n)=n.toNat:=by
  have z:=HT.sIx_nat xs.length xs.length n.toNat;rw[Int.toNat_of_nonneg h0] at z;rw[z];lia
 rw[e,HT.sIx_none,List.drop_zero,Nat.sub_zero]
def Sub (x:Int×Int)(o:Option (Int×Int)):Prop:=∀p,o=some p->p.1<=p.2/\x.1<=p.1/\p.2<=x.2
theorem zdZ:Sub p (VL p q):=λr e=>by
 refine⟨zcM e,?_⟩;unfold VL at e;have go:∀lo hi:Int,p.1<=lo->hi<=p.2->(if hi<lo then none else some (lo,hi))=some r->p.1<=r.1/\r.2<=p.2:=λlo hi a b e=>by
  split at e
  .cases e
  .cases e;exact⟨a,b⟩
 refine go _ _ ?_ ?_ e
 .split<;>lia
 .split<;>lia
theorem Spn.set2 (h:Spn B vs)(hu:u.1<=u.2/\Sz B u.1/\Sz B u.2):Spn B (vs.set k u):=λp hp=>by
 rcases uI hp with e|e
 .exact h p e
 .subst e;exact hu
def rwW (zero:Bool)(w:Str):Prop:=zero=true/\w="zero"\/zero=false/\w="least"
def FdAt (o:Option LI)(L:Nat)(S:Sto)(fd:D):Prop:=(fd=.non/\o=none)\/∃(r:LI)(mf:Nat),fd=.ref mf/\o=some r/\S[mf]?=some (.lst (r.map frD))/\L<=mf
theorem Y0 (h:Pre S T):S.length<=T.length:=by
 by_cases c:S.length<=T.length
 .exact c
 .have e:=h T.length _ (zE ())
  have:=(zB.mp e).1;lia
structure Ct where
 k:Nat
 p:Int
 s:Bool
def Ct.d (c:Ct):D:=.tup [.int (c.k:Int),.int c.p,.int (if c.s then 1 else 0)]
def brS (zero:Bool)(s:Int×Int):Bool:=if zero then decide (0<s.1)||decide (s.2<0) else decide (s.2<0)
def ibS (ns:List Nd)(zero:Bool)(k:Nat)(bs:LI)(g:Int):Bool:=brS zero (gt (Zo bs g (ns.take (k+1))) (k:Int))
def Ct.off (c:Ct)(s:Int×Int):Int×Int:=if c.s then (c.p,s.2) else (s.1,c.p)
def Ct.back (c:Ct)(s:Int×Int):Int×Int:=if c.s then (s.1,c.p) else (c.p,s.2)
def isS (ns:List Nd)(zero:Bool)(k:Nat)(g:Int)(bs:LI)(c:Ct):Bool:=(decide ((gt bs (c.k:Int)).1<c.p)&&decide (c.p<(gt bs (c.k:Int)).2))&&ibS ns zero k (bs.set c.k (c.off (gt bs (c.k:Int)))) g
def ctP (bs:LI)(c:Ct):LI:=bs.set c.k (c.back (gt bs (c.k:Int)))
def Pq (ns:List Nd)(zero:Bool)(k:Nat)(g:Int)(a:List Ct×LI)(c:Ct):List Ct×LI:=if isS ns zero k g a.2 c then (a.1++[c],ctP a.2 c) else a
def ctA (bs:LI)(cs:List Ct):LI:=cs.foldl ctP bs
theorem Ij (bs:LI)(cs:List Ct)(c:Ct):ctA bs (cs++[c])=ctP (ctA bs cs) c:=by
 unfold ctA;rw[wB];rfl
def Ct.ix (c:Ct):Nat:=2*c.k+(if c.s then 1 else 0)
structure RC (ns:List Nd)(zero:Bool)(k:Nat)(g:Int)(bs:LI)(n:Nat)(q:List Ct×LI):Prop where
 left:q.2=ctA bs q.1
 len:q.2.length=bs.length
 spn:Spn 51 q.2
 is:∀(i:Nat)(c:Ct),q.1[i]?=some c->isS ns zero k g (ctA bs (q.1.take i)) c=true/\c.k<bs.length
 lt:∀c∈q.1,c.ix<n
 ord:∀(i j:Nat)(c d:Ct),i<j->q.1[i]?=some c->q.1[j]?=some d->c.ix<d.ix
 few:q.1.length<=n
theorem IU {ns:List Nd}{zero:Bool}{k:Nat}{g:Int}{bs:LI}{c:Ct}(h:isS ns zero k g bs c=true):(gt bs (c.k:Int)).1<c.p/\c.p<(gt bs (c.k:Int)).2:=by
 unfold isS at h;simp only[xN,decide_eq_true_eq] at h;exact h.1
theorem Ik {c:Ct}{s:Int×Int}(h1:s.1<c.p)(h2:c.p<s.2)(z1:Sz 51 s.1)(z2:Sz 51 s.2):((c.back s).1<=(c.back s).2/\Sz 51 (c.back s).1/\Sz 51 (c.back s).2)/\(c.off s).1<=(c.off s).2/\Sz 51 (c.off s).1/\Sz 51 (c.off s).2:=by
 have zp:Sz 51 c.p:=Sz.mid z1 z2 () ();unfold Ct.back Ct.off;cases c.s with
 | true=>exact⟨⟨by show s.1<=c.p;lia,z1,zp⟩,by show c.p<=s.2;lia,zp,z2⟩
 | false=>exact⟨⟨by show c.p<=s.2;lia,zp,z2⟩,by show s.1<=c.p;lia,z1,zp⟩
theorem RC.step {ns:List Nd}{zero:Bool}{k n:Nat}{g:Int}{bs:LI}{q:List Ct×LI}(h:RC ns zero k g bs n q){c:Ct}(hc:c.k<bs.length)(hn:c.ix=n):RC ns zero k g bs (n+1) (Pq ns zero k g q c):=by
 unfold Pq;split
 .rename_i e;have ik:inR ((q.2.length:Nat):Int) (c.k:Int):=⟨(),by have:=h.len;lia⟩
  have a:=h.spn.at ik
  have b:=IU e;refine⟨by rw[Ij,<- h.left],by show (q.2.set _ _).length=_;rw[yP];exact h.len,h.spn.set2 (Ik b.1 b.2 a.2.1 a.2.2).1,λi d hd=>?_,λd hd=>?_,λi j x y hij hx hy=>?_,by show (q.1++[c]).length<=_;rw[zT];have:=h.few;simp;lia⟩
  .show isS ns zero k g (ctA bs ((q.1++[c]).take i)) d=true/\_;by_cases hi:i<q.1.length
   .have hd2:(q.1++[c])[i]?=some d:=hd;rw[zI hi] at hd2;rw[vM ()];exact h.is i d hd2
   .have hd2:(q.1++[c])[i]?=some d:=hd
    have hl:=(zB.mp hd2).1;simp only[zT,zX,xK] at hl;have ei:i=q.1.length:=by lia
    subst ei;simp at hd2;subst hd2;rw[vM (zA _),yE,<- h.left];exact⟨e,hc⟩
  .have hd2:d∈q.1++[c]:=hd;rcases yI.mp hd2 with z|z
   .have:=h.lt d z;lia
   .cases zH.mp z;lia
  .have hx2:(q.1++[c])[i]?=some x:=hx
   have hy2:(q.1++[c])[j]?=some y:=hy
   have hl:=(zB.mp hy2).1;simp only[zT,zX,xK] at hl;rw[zI ()] at hx2;by_cases hj:j<q.1.length
   .rw[zI hj] at hy2;exact h.ord i j x y hij hx2 hy2
   .have ej:j=q.1.length:=by lia
    subst ej;simp at hy2;subst hy2;have:=h.lt x (zF hx2);lia
 .exact⟨h.left,h.len,h.spn,h.is,λd hd=>by have:=h.lt d hd;lia,h.ord,by have:=h.few;lia⟩
theorem AH (net:ZD bs.length ns ws)(hg:1<=g)(hk:k<ns.length)(lp:ps.length=bs.length)(pp:Pz 110 ps)(ip:InW g bs ps)(row:if zero then (gt (Zt ps (ns.take (k+1))) (k:Int)).1=0 else 0<=(gt (Zt ps (ns.take (k+1))) (k:Int)).1):ibS ns zero k bs g=false:=by
 have ld:(Zt ps (ns.take (k+1))).length=k+1:=by rw[Xf,zO];lia
 have inw:=R5 net rfl (by rw[lp]) hg ip pp (k+1) ()
 have pz:Pz 1800 (Zt ps (ns.take (k+1))):=Pz.of_w (SO net (by rw[lp]) pp (k+1) ()) λj hj=>(net.w1 (i:=j) ⟨(),()⟩).2
 have ik:inR (((Zt ps (ns.take (k+1))).length:Nat):Int) (k:Int):=⟨(),()⟩
 have u:=(pz.at ik).1
 have z:=inw k ik;unfold ibS brS;generalize gt (Zo bs g (ns.take (k+1))) (k:Int)=s at z;generalize gt (Zt ps (ns.take (k+1))) (k:Int)=d at z u row;have c2:0<=d.1->¬ s.2<0:=λh c=>by
  have a:=mlr (c:=d.2) (show s.2<=-1 by lia) ()
  have b:=yG h (show 0<=g by lia);lia
 cases zero with
 | true=>
  have e:d.1=0:=row
  have c1:¬ 0<s.1:=λc=>by
   have a:=xW c (show 0<d.2 by lia);rw[e] at z;lia
  simp[c1,c2 ()]
 | false=>
  have e:0<=d.1:=row;simp[c2 e]
theorem zgv (bs:LI):∀cs:List Ct,(ctA bs cs).length=bs.length:=λcs=>by
 unfold ctA
 induction cs generalizing bs with
 | nil=>rfl
 | cons c cs ih=>
  show (cs.foldl ctP (ctP bs c)).length=_;rw[ih];exact yP ..
theorem zbt {α:Type}{bs:LI}{k:Nat}{p:Int×Int}(h:k<bs.length):Yd (bs.map frD) none (some (k:Int))++[frD p]++Yd (bs.map frD) (some ((k:Int)+1)) none=(bs.set k p).map frD:=by
 rw[PV () (by rw[zD];lia),zJ];have e:Yd (bs.map frD) (some ((k:Int)+1)) none=(bs.map frD).drop (k+1):=by
  unfold L3.Yd;have z:=HT.sIx_nat (bs.map frD).length 0 (k+1);rw[show (((k+1:Nat):Int))=(k:Int)+1 by lia] at z;rw[z,HT.sIx_none,yH (by rw[vE];lia),uJ (by rw[zD];lia)]
 rw[e,List.set_eq_take_append_cons_drop,if_pos h,xI,yM,wW,List.map_drop,yZ];rfl
theorem zbY {to te:TDE}{dl:Ev}{S:Sto}{Q:DK}{n:Nat}{xs:List D}(hto:∀K:DK,K (.ref n) S->to dl S K)(h:S[n]?=some (.lst xs))(hte:∀K:DK,(∀(y:D)(S2:Sto),S2[n]?=some (.lst xs)->Q .non (S2.set n (.lst (xs++[y])))->K y S2)->te dl S K)(hl:xs.length<1000):Vm to te dl S Q:=by
 unfold Vm;refine hto _ ?_;simp only[h];refine hte _ λy S2 h2 q=>?_
 simp only[h2,if_pos hl];exact q
def Z9 (S:Sto)(lo:Nat)(ds:List D)(R:List LI):Prop:=ds.length=R.length/\∀(k:Nat)(d:D)(r:LI),ds[k]?=some d->R[k]?=some r->∃a,d=.ref a/\lo<=a/\S[a]?=some (.lst (r.map frD))
theorem Z9.nil {S:Sto}{lo:Nat}:Z9 S lo [] []:=⟨rfl,λk d r h=>by simp at h⟩
theorem Z9.pre {S T:Sto}{lo:Nat}{ds:List D}{R:List LI}(h:Z9 S lo ds R)(p:Pre S T):Z9 T lo ds R:=⟨h.1,λk d r hd hr=>by
 obtain⟨a,e,l,s⟩:=h.2 k d r hd hr;exact⟨a,e,l,p _ _ s⟩⟩
theorem Z9.low {S:Sto}{lo lo':Nat}{ds:List D}{R:List LI}(h:Z9 S lo ds R)(l:lo'<=lo):Z9 S lo' ds R:=⟨h.1,λk d r hd hr=>by
 obtain⟨a,e,l,s⟩:=h.2 k d r hd hr;exact⟨a,e,(),s⟩⟩
theorem Z9.keep {S T:Sto}{lo:Nat}{ds:List D}{R:List LI}(h:Z9 S lo ds R)(p:∀(x:Nat)(o:Ob),lo<=x->S[x]?=some o->T[x]?=some o):Z9 T lo ds R:=⟨h.1,λk d r hd hr=>by
 obtain⟨a,e,l,s⟩:=h.2 k d r hd hr;exact⟨a,e,l,p _ _ l s⟩⟩
theorem Z9.at {S:Sto}{lo:Nat}{ds:List D}{R:List LI}(h:Z9 S lo ds R){i:Int}(hi:inR R.length i):∃a,atI ds i=some (.ref a)/\lo<=a/\S[a]?=some (.lst ((R.getD i.toNat []).map frD)):=by
 obtain⟨h0,h1⟩:=hi;have hk:i.toNat<R.length:=by lia
 have hk':i.toNat<ds.length:=by rw[h.1];exact hk
 obtain⟨a,e,l,s⟩:=h.2 i.toNat _ _ (zE hk') (zE hk);refine⟨a,?_,l,?_⟩
 .have z:=Yx (xs:=ds) (j:=i.toNat) (v:=.ref a) (by rw[zE hk',e]);rw[show ((i.toNat:Nat):Int)=i by lia] at z;exact z
 .rw[s];simp[hk]
theorem Z9.snoc {S:Sto}{lo:Nat}{ds:List D}{R:List LI}{a:Nat}{r:LI}(h:Z9 S lo ds R)(hl:lo<=a)(hs:S[a]?=some (.lst (r.map frD))):Z9 S lo (ds++[.ref a]) (R++[r]):=⟨by rw[zT,zT,h.1];rfl,λk d r' hd hr=>by
 by_cases hk:k<ds.length
 .rw[zI hk] at hd;rw[zI (by rw[<- h.1];exact hk)] at hr;exact h.2 k d r' hd hr
 .have l:=(zB.mp hd).1;simp only[zT,zX,xK] at l;have ek:k=ds.length:=by lia
  subst ek;rw[yJ (zA _),wC] at hd;rw[h.1,yJ (zA _),wC] at hr;cases hd;cases hr;exact⟨a,rfl,hl,hs⟩⟩
abbrev gs (sl:List LI)(i:Int)(l:Nat):Int×Int:=(sl.getD i.toNat []).getD l (0,0)
def Z6 (p q:Int×Int)(g:Int):Int×Int:=(mn4 p.1 p.2 q.1 q.2/g,-(-mx4 p.1 p.2 q.1 q.2/g))
def Yu (p:Int×Int)(n g:Int):Int×Int:=(ZP p.1 p.2 (n-1).toNat/g^((n-1).toNat-1)*n,-(-Z7 p.1 p.2 (n-1).toNat/g^((n-1).toNat-1))*n)
def Nd.sl (vs:LI)(sl:List LI)(g:Int)(l:Nat):Nd->Int×Int
 | .number _ _=>(0,0)
 | .unknown k=>if (l:Int)=k then (g,g) else (0,0)
 | .plus i j=>((gs sl i l).1+(gs sl j l).1,(gs sl i l).2+(gs sl j l).2)
 | .minus i j=>((gs sl i l).1-(gs sl j l).2,(gs sl i l).2-(gs sl j l).1)
 | .times i j=>((Z6 (gt vs i) (gs sl j l) g).1+(Z6 (gt vs j) (gs sl i l) g).1,(Z6 (gt vs i) (gs sl j l) g).2+(Z6 (gt vs j) (gs sl i l) g).2)
 | .power i n=>Z6 (Yu (gt vs i) n g) (gs sl i l) g
def YS (vs:LI)(sl:List LI)(g:Int)(q:Nat)(v:Nd):LI:=(List.range q).map λl=>v.sl vs sl g l
theorem zfK {vs:LI}{sl:List LI}{g:Int}{q:Nat}{v:Nd}:(YS vs sl g q v).length=q:=by simp[YS]
theorem zfn (f:Int×Int->α)(r:LI)(h:r.length=q):r.map f=(List.range q).map λl=>f (r.getD l (0,0)):=by
 subst h;refine xX λk=>?_
 by_cases hk:k<r.length
 .rw[zG,zG,wD hk,zE hk];simp[hk]
 .rw[yS (by simpa using hk),yS (by simpa using hk)]
theorem zhX (f:Int×Int->Int×Int->α)(r s:LI)(h:r.length=q)(h':s.length=q):List.zipWith f r s=(List.range q).map λl=>f (r.getD l (0,0)) (s.getD l (0,0)):=by
 subst h;refine xX λk=>?_
 by_cases hk:k<r.length
 .rw[vP,zG,wD hk,zE hk,zE (show k<s.length by lia)];simp[hk,show k<s.length by lia]
 .rw[yS (by rw[vN];lia),yS (by simpa using hk)]
theorem zaC (x:D)(q:Nat):(List.replicate q [x]).flatten=(List.range q).map λ_=>x:=by
 refine xX λk=>?_
 have l:(List.replicate q [x]).flatten=List.replicate q x:=by
  induction q with
  | zero=>rfl
  | succ q ih=>rw[xT,wA,ih];rfl
 rw[l];by_cases hk:k<q
 .rw[zG,wD hk,vC,if_pos hk];rfl
 .rw[yS (by simpa using hk),yS (by simpa using hk)]
theorem L7 (p q:Int×Int)(hg:1<=g):(Z6 p q g).1<=(Z6 p q g).2:=V7 hg (Hy _ _ _ _)
theorem zdx (p:Int×Int)(hn:0<=n)(hg:1<=g):(Yu p n g).1<=(Yu p n g).2:=zK (V7 (yD ()) (LS _ _ _)) hn
def ZT (vs:LI)(g:Int)(q:Nat)(ns:List Nd):List LI:=ns.foldl (λacc v=>acc++[YS vs acc g q v]) []
theorem Q5 (vs:LI)(g:Int)(q:Nat)(ns:List Nd)(v:Nd):ZT vs g q (ns++[v])=ZT vs g q ns++[YS vs (ZT vs g q ns) g q v]:=by
 unfold ZT;rw[wB];rfl
theorem UC (vs:LI)(g:Int)(q:Nat)(ns:List Nd):(ZT vs g q ns).length=ns.length:=by
 have z:∀k,k<=ns.length->(ZT vs g q (ns.take k)).length=k:=λk=>by
  induction k with
  | zero=>intro _;rfl
  | succ k ih=>
   intro hk;rw[YG (zE (show k<ns.length by lia)),Q5];simp[ih ()]
 have:=z ns.length (zA _)
 rwa [yE] at this
def SlW (q:Nat)(ws:List Nat)(sl:List LI):Prop:=∀(k:Nat)(r:LI),sl[k]?=some r->r.length=q/\∀p∈r,p.1<=p.2/\Sz (64*ws.getD k 0-1) p.1/\Sz (64*ws.getD k 0-1) p.2
theorem SlW.at {q:Nat}{ws:List Nat}{sl:List LI}(h:SlW q ws sl){i:Int}(hi:inR sl.length i):(sl.getD i.toNat []).length=q/\∀l,l<q->(gs sl i l).1<=(gs sl i l).2/\Sz (64*ws.getD i.toNat 0-1) (gs sl i l).1/\Sz (64*ws.getD i.toNat 0-1) (gs sl i l).2:=by
 obtain⟨h0,h1⟩:=hi;have hk:i.toNat<sl.length:=by lia
 obtain⟨a,b⟩:=h i.toNat _ (zE hk);have e:sl.getD i.toNat []=sl[i.toNat]:=by simp[hk]
 refine⟨by rw[e];exact a,λl hl=>?_⟩;have e2:gs sl i l=sl[i.toNat][l]'(by rw[a];exact hl):=by
  unfold gs;rw[e];simp[show l<sl[i.toNat].length by rw[a];exact hl]
 rw[e2];exact b _ (yQ _)
theorem SlW.snoc {q:Nat}{ws:List Nat}{sl:List LI}{r:LI}(h:SlW q ws sl)(hr:r.length=q)(hp:∀p∈r,p.1<=p.2/\Sz (64*ws.getD sl.length 0-1) p.1/\Sz (64*ws.getD sl.length 0-1) p.2):SlW q ws (sl++[r]):=λk u hu=>by
 by_cases hk:k<sl.length
 .rw[zI hk] at hu;exact h k u hu
 .have l:=(zB.mp hu).1;simp only[zT,zX,xK] at l;have ek:k=sl.length:=by lia
  subst ek;rw[yJ (zA _),wC] at hu;cases hu;exact⟨hr,hp⟩
theorem OW (hg:1<=g)(h1:Sz m p.1)(h2:Sz m p.2)(h3:Sz n q.1)(h4:Sz n q.2):Sz (m+n) (Z6 p q g).1/\Sz (m+n) (Z6 p q g).2:=
 ⟨(Wu (Wu (h1.mul h3) (h1.mul h4)) (Wu (h2.mul h3) (h2.mul h4))).div hg,VS (Wa (Wa (h1.mul h3) (h1.mul h4)) (Wa (h2.mul h3) (h2.mul h4))) hg⟩
theorem zh8:∀n:Nat,2<=n->n<=6->n<=2^(n-1):=λn h1 h2=>by
 have:n=2\/n=3\/n=4\/n=5\/n=6:=by lia
 rcases this with rfl|rfl|rfl|rfl|rfl<;>decide
theorem Qf (h:Sz m x)(hn:n.natAbs<=2^e)(hp:1<=n.natAbs):Sz (m+e) (x*n):=by
 unfold Sz at *
 rw[vG,wK];exact Nat.mul_lt_mul_of_lt_of_le h hn (yR ⋯)
theorem AJ (hg:1<=g)(n2:2<=n)(n6:n<=6)(h1:Sz m p.1)(h2:Sz m p.2):Sz (m*(n.toNat-1)+(n.toNat-1)) (Yu p n g).1/\Sz (m*(n.toNat-1)+(n.toNat-1)) (Yu p n g).2:=by
 have en:(n-1).toNat=n.toNat-1:=by lia
 have gp:(1:Int)<=g^((n-1).toNat-1):=yD ()
 have p1:Sz (m*(n.toNat-1)) (p.1^(n-1).toNat):=by rw[en];exact Sz.pow' h1 ()
 have p2:Sz (m*(n.toNat-1)) (p.2^(n-1).toNat):=by rw[en];exact Sz.pow' h2 ()
 have lo:Sz (m*(n.toNat-1)) (ZP p.1 p.2 (n-1).toNat):=by
  unfold ZP;split
  .show (0:Int).natAbs<_;exact yR ⋯
  .exact Wu p1 p2
 have nb:n.natAbs<=2^(n.toNat-1):=by
  have:=zh8 n.toNat () ();lia
 exact⟨Qf (lo.div gp) nb (),Qf (VS (Wa p1 p2) gp) nb ()⟩
theorem sl_ok {q:Nat}{ws:List Nat}{vs:LI}{sl:List LI}{g:Int}(hs:SzW ws vs)(hl:SlW q ws sl)(hg:1<=g/\g<=1000000)(hv:sl.length<=vs.length)(hw:∀i:Int,inR vs.length i->1<=ws.getD i.toNat 0){l:Nat}(hq:l<q):∀v:Nd,v.ok sl.length q->1<=v.wt ws->(v.sl vs sl g l).1<=(v.sl vs sl g l).2/\Sz (64*v.wt ws-2) (v.sl vs sl g l).1/\Sz (64*v.wt ws-2) (v.sl vs sl g l).2
 | .number t b,ok,h1=>⟨zQ _,by show Sz _ 0;exact yR ⋯,by show Sz _ 0;exact yR ⋯⟩
 | .unknown k,ok,h1=>by
  have sg:Sz (64*Nd.wt ws (.unknown k)-2) g:=(Sz.of (n:=21) (10^6) (show g.natAbs<=_ by lia)).mono (by show 21<=64*1-2;decide)
  show (if (l:Int)=k then (g,g) else (0,0)).1<=(if (l:Int)=k then (g,g) else (0,0)).2/\Sz _ (if (l:Int)=k then (g,g) else (0,0)).1/\Sz _ (if (l:Int)=k then (g,g) else (0,0)).2;split
  .exact⟨zQ _,sg,sg⟩
  .exact⟨zQ _,yR ⋯,yR ⋯⟩
 | .plus i j,ok,h1=>by
  have a:=(hl.at ok.1).2 l hq
  have b:=(hl.at ok.2).2 l hq
  have p:=hw i ⟨ok.1.1,by have:=ok.1.2;lia⟩
  have q:=hw j ⟨ok.2.1,by have:=ok.2.2;lia⟩;refine⟨?_,(a.2.1.add b.2.1).mono (by simp only[Nd.wt];lia),(a.2.2.add b.2.2).mono (by simp only[Nd.wt];lia)⟩;show (gs sl i l).1+(gs sl j l).1<=(gs sl i l).2+(gs sl j l).2;lia
 | .minus i j,ok,h1=>by
  have a:=(hl.at ok.1).2 l hq
  have b:=(hl.at ok.2).2 l hq
  have p:=hw i ⟨ok.1.1,by have:=ok.1.2;lia⟩
  have q:=hw j ⟨ok.2.1,by have:=ok.2.2;lia⟩;refine⟨?_,(a.2.1.sub b.2.2).mono (by simp only[Nd.wt];lia),(a.2.2.sub b.2.1).mono (by simp only[Nd.wt];lia)⟩;show (gs sl i l).1-(gs sl j l).2<=(gs sl i l).2-(gs sl j l).1;lia
 | .times i j,ok,h1=>by
  have oi:inR vs.length i:=⟨ok.1.1,by have:=ok.1.2;lia⟩
  have oj:inR vs.length j:=⟨ok.2.1,by have:=ok.2.2;lia⟩
  have a:=(hl.at ok.1).2 l hq
  have b:=(hl.at ok.2).2 l hq
  have c:=hs.at oi
  have d:=hs.at oj
  have p:=hw i oi
  have q:=hw j oj
  have z1:=OW hg.1 c.2.1 c.2.2 b.2.1 b.2.2
  have z2:=OW hg.1 d.2.1 d.2.2 a.2.1 a.2.2;refine⟨?_,(z1.1.add z2.1).mono (by simp only[Nd.wt];lia),(z1.2.add z2.2).mono (by simp only[Nd.wt];lia)⟩;have m1:=L7 (gt vs i) (gs sl j l) hg.1
  have m2:=L7 (gt vs j) (gs sl i l) hg.1
  show (Z6 (gt vs i) (gs sl j l) g).1+(Z6 (gt vs j) (gs sl i l) g).1<=(Z6 (gt vs i) (gs sl j l) g).2+(Z6 (gt vs j) (gs sl i l) g).2;lia
 | .power i n,ok,h1=>by
  have oi:inR vs.length i:=⟨ok.1.1,by have:=ok.1.2;lia⟩
  have a:=(hl.at ok.1).2 l hq
  have c:=hs.at oi
  have p:=hw i oi
  have n2:=ok.2.1
  have f:=AJ hg.1 ok.2.1 ok.2.2 c.2.1 c.2.2
  have z:=OW hg.1 f.1 f.2 a.2.1 a.2.2
  have hn:(60*ws.getD i.toNat 0-1)*(n.toNat-1)+(n.toNat-1)+(64*ws.getD i.toNat 0-1)<=64*Nd.wt ws (.power i n)-2:=by
   simp only[Nd.wt];generalize ws.getD i.toNat 0=w at p;obtain⟨k,hk⟩:∃k,n.toNat=k+2:=⟨n.toNat-2,()⟩;rw[hk,show k+2-1=k+1 by lia,uF,Nat.one_mul];have e1:60*w*(k+1)=60*(k*w)+60*w:=by rw[Nat.mul_add,Nat.mul_one,uG,vF w k]
   have e2:(k+2)*w=k*w+2*w:=Nat.add_mul ..
   have e3:k+1<=60*w*(k+1):=Nat.le_mul_of_pos_left _ ();rw[e2];lia
  exact⟨L7 _ _ hg.1,z.1.mono hn,z.2.mono hn⟩
theorem IV {q:Nat}{ns:List Nd}{ws:List Nat}{vs:LI}{g:Int}(h:ZD q ns ws)(hs:SzW ws vs)(hv:vs.length=ns.length)(hg:1<=g/\g<=1000000):∀k,k<=ns.length->SlW q ws (ZT vs g q (ns.take k)):=λk=>by
 induction k with
 | zero=>intro _ i p hp;simp[ZT] at hp
 | succ k ih=>
  intro hk;have hv':=zE (show k<ns.length by lia)
  have s:=ih ()
  have ln:(ZT vs g q (ns.take k)).length=k:=by rw[UC,zO];lia
  obtain⟨ok,e,p1,_⟩:=h.ok k _ hv';rw[YG hv',Q5];refine s.snoc zfK λp hp=>?_
  obtain⟨l,hl,rfl⟩:=zL.mp hp;have z:=sl_ok hs s hg () (λi hi=>(h.w1 (by rw[<- hv];exact hi)).1) (wG.mp hl) ns[k] (by rw[ln];exact ok) p1;rw[ln,e];exact⟨z.1,z.2.1.mono (),z.2.2.mono ()⟩
theorem Ic {q:Int}{ns:List Nd}{ws:List Nat}{bs:LI}{g:Int}(h:ZD q ns ws)(hq:q=bs.length)(hb:Spn 51 bs)(hg:1<=g/\g<=1000000):SzW ws (Zo bs g ns):=by
 have z:=EY h hq hb hg ns.length (zA _)
 rwa [yE] at z
theorem SlW.spn (h:SlW q ws sl)(hw:∀k:Nat,k<sl.length->ws.getD k 0<=16):∀i:Int,inR sl.length i->(sl.getD i.toNat []).length=q/\∀l,l<q->(gs sl i l).1<=(gs sl i l).2/\Sz 1100 (gs sl i l).1/\Sz 1100 (gs sl i l).2:=λi hi=>by
 obtain⟨a,b⟩:=h.at hi;refine⟨a,λl hl=>?_⟩;obtain⟨c,d,e⟩:=b l hl;have:=hw i.toNat (by have:=hi.1;have:=hi.2;lia);exact⟨c,d.mono (),e.mono ()⟩
def mid (p:Int×Int):Int:=(p.1+p.2)/2
def ZN (p:Int×Int):Int×Int:=(mid p,mid p)
def W9 (p q:Int×Int):Int×Int:=(p.1+q.1,p.2+q.2)
def YC (p q:Int×Int):Int×Int:=(p.1-q.2,p.2-q.1)
def sumP (g:Int)(us vs:LI):Int×Int:=(List.zip us vs).foldl (λt z=>W9 t (Z6 z.1 z.2 g)) (0,0)
def rwD (r:Bool×Nat):D:=.tup [.str (if r.1 then "zero" else "least"),.int (r.2:Int)]
def eqs (rows:List (Bool×Nat)):List Nat:=rows.filterMap λr=>if r.1 then some r.2 else none
theorem Q3 {caps:List Nat}{tl te:TDE}{tc:TDT}{dl:Ev}{S S1:Sto}{Q:DK}{n:Nat}{o:Ob}(f:D->Option D)(htl:∀K:DK,K (.ref n) S1->tl dl S K)(h1:S1[n]?=some o)(hl:(Zk o).length<=1000)
  (hc:∀x∈Zk o,∀(S2:Sto)(K:Bool->Sto->Prop),Pre S1 S2->K (f x).isSome S2->tc (some x::Z8 caps dl) S2 K)(ht:∀x∈Zk o,∀y,f x=some y->∀(S2:Sto)(K:DK),Pre S1 S2->K y S2->te (some x::Z8 caps dl) S2 K)(hq:Q (.ref S1.length) (S1++[.lst ((Zk o).filterMap f)]))(hL:Y2 o=some o:=by rfl):Xp caps tl tc te dl S Q:=by
 unfold Xp;refine htl _ ⟨by rw[ZO h1 hL];rfl,λk m S2=>S2=S1++[.lst (((Zk o).take k).filterMap f)]/\m+k=(Zk o).length,⟨(Zk o).length,by simp,()⟩,?_⟩;rintro k m S2 ⟨rfl,hm⟩;rw[ZO (XW h1) hL];dsimp only;split
 .rename_i x hx;have hk:k<(Zk o).length:=(zB.mp hx).1
  have e:(Zk o).take (k+1)=(Zk o).take k++[x]:=by rw[wM,hx];rfl
  unfold Wm;refine hc x (zF hx) _ _ Pre.refl.push ?_;cases ef:f x with
  | none=>
   refine YB ?_;refine⟨m-1,(),?_,()⟩;rw[e,tH];simp[ef]
  | some y=>
   refine YA ?_;refine ht x (zF hx) y ef _ _ Pre.refl.push ?_;rw[Zq];have ll:=List.length_filterMap_le f ((Zk o).take k);refine⟨by rw[zO] at ll;lia,m-1,(),?_,()⟩;rw[e,tH,WD];simp[ef]
 .rename_i hx;have hk:(Zk o).length<=k:=xH.mp hx;rw[yH hk];exact hq
def YR (g:Int)(k c:Nat)(ts:LI)(R:List LI):Int×Int:=YC (if k=c then (g,g) else (0,0)) (sumP g ts (R.map λr=>r.getD c (0,0)))
def Yw (g:Int)(box:LI)(aA:LI)(R:List LI)(k:Nat)(es:List Int):Int×Int:=
 W9 (YC (ZN (gt box k)) (sumP g (es.map λe=>(e,e)) aA)) (sumP g ((List.range box.length).map λc=>YR g k c (es.map λe=>(e,e)) R) (box.map λp=>YC p (ZN p)))
theorem QM (g:Int)(us vs:LI)(k:Nat){u v:Int×Int}(hu:us[k]?=some u)(hv:vs[k]?=some v):sumP g (us.take (k+1)) (vs.take (k+1))=W9 (sumP g (us.take k) (vs.take k)) (Z6 u v g):=by
 unfold sumP;have l1:=(zB.mp hu).1
 have l2:=(zB.mp hv).1;rw[YG hu,YG hv,List.zip_append (by rw[zO,zO];lia),wB];rfl
theorem FC (g:Int)(us vs:LI):sumP g (us.take (min us.length vs.length)) (vs.take (min us.length vs.length))=sumP g us vs:=by
 unfold sumP;congr 1;show List.zipWith Prod.mk _ _=List.zipWith Prod.mk _ _;rw[<- tG,yH (by rw[vN];exact zA _)]
def Bd (B:Nat)(vs:LI):Prop:=∀p∈vs,Sz B p.1/\Sz B p.2
theorem E4 (hg:1<=g)(h1:Bd A us)(h2:Bd B vs):∀k:Nat,k<=us.length->k<=vs.length->Sz (A+B+k+1) (sumP g (us.take k) (vs.take k)).1/\Sz (A+B+k+1) (sumP g (us.take k) (vs.take k)).2
 | 0,_,_=>⟨yR ⋯,yR ⋯⟩
 | k+1,l1,l2=>by
  have hu:=zE (show k<us.length by lia)
  have hv:=zE (show k<vs.length by lia);rw[QM g us vs k hu hv];have ih:=E4 hg h1 h2 k () ()
  have a:=h1 _ (zF hu)
  have b:=h2 _ (zF hv)
  have m:=OW hg a.1 a.2 b.1 b.2;exact⟨(ih.1.add m.1).mono (),(ih.2.add m.2).mono ()⟩
theorem zaM (hg:1<=g)(h1:Bd A us)(h2:Bd B vs)(l:us.length<=60):Sz (A+B+61) (sumP g us vs).1/\Sz (A+B+61) (sumP g us vs).2:=by
 rw[<- FC];have z:=E4 hg h1 h2 (min us.length vs.length) () ();exact⟨z.1.mono (),z.2.mono ()⟩
theorem zc3 {is:List Nat}{ta:TDA}{tb:TDS}{E:Xz}{dl:Ev}{S:Sto}{n n':Nat}{xs ys:List D}(W:Nat->Ev->Prop)(hta:∀K:List D->Sto->Prop,K [.ref n,.ref n'] S->ta dl S K)(h1:S[n]?=some (.lst xs))(h2:S[n']?=some (.lst ys))(h0:W 0 dl)
  (hb:∀(k:Nat)(x y:D)(dl':Ev)(nx ct:Ev->Sto->Prop),xs[k]?=some x->ys[k]?=some y->W k dl'->(∀dl2,W (k+1) dl2->nx dl2 S)->tb { nx:=nx,rt:=E.rt,bk:=E.nx,ct:=ct } (WS is [x,y] dl') S)(he:∀dl',W (min xs.length ys.length) dl'->E.nx dl' S):Pw is ta tb E dl S:=by
 unfold Pw;refine hta _ ⟨⟨by rw[ZO h1 rfl];rfl,by rw[ZO h2 rfl];rfl⟩,λk m dl' S'=>S'=S/\W k dl'/\k+m=min xs.length ys.length,⟨min xs.length ys.length,rfl,h0,by simp⟩,?_⟩;rintro k m dl' S' ⟨rfl,w,hk⟩;simp only[ZO h1 rfl,ZO h2 rfl,Zk];split
 .rename_i x y e1 e2;have l1:=(zB.mp e1).1
  have l2:=(zB.mp e2).1;exact hb k x y dl' _ _ e1 e2 w (λdl2 w2=>⟨m-1,(),rfl,w2,()⟩)
 .rename_i no;have ek:k=min xs.length ys.length:=by
   by_cases l:k<min xs.length ys.length
   .exact absurd (zE (l:=ys) (i:=k) ()) (no _ _ (zE (l:=xs) (i:=k) ()))
   .lia
  exact⟨ek,he _ (ek ▸ w)⟩
theorem NZ {B:Nat}{p:Int×Int}(h1:Sz B p.1)(h2:Sz B p.2):Sz (B+1) (mid p):=(h1.add h2).div ⋯ |>.mono ()
theorem IM (hp:Sz B p.1/\Sz B p.2)(hq:Sz C q.1/\Sz C q.2):Sz (max B C+1) (YC p q).1/\Sz (max B C+1) (YC p q).2:=⟨hp.1.sub hq.2,hp.2.sub hq.1⟩
def F6 (S:Sto)(ds:List D)(M:List (List Int)):Prop:=ds.length=M.length/\∀(k:Nat)(d:D)(r:List Int),ds[k]?=some d->M[k]?=some r->∃a,d=.ref a/\S[a]?=some (.lst (r.map D.int))
theorem II {p:Int×Int}(h:p.1<=p.2):p.1<=mid p/\mid p<=p.2:=by unfold mid;lia
theorem QP {B:Nat}{bs:LI}(h:Spn B bs):Spn B (bs.map ZN):=λp hp=>by
 obtain⟨x,hx,rfl⟩:=zL.mp hp;obtain⟨a,b,c⟩:=h x hx;have z:=II a
 have s:Sz B (mid x):=by
  unfold Sz at *
  lia
 exact⟨zQ _,s,s⟩
def hs:Nat->Int->Int->Int
 | 0,_,_=>0
 | k+1,x,y=>x*hs k x y+y^k
theorem Rq (x y:Int):∀n:Nat,(x-y)*hs n x y=x^n-y^n
 | 0=>by simp[hs]
 | k+1=>by
  have z:=Rq x y k
  have e:(x-y)*hs (k+1) x y=x*((x-y)*hs k x y)+(x-y)*y^k:=by
   show (x-y)*(x*hs k x y+y^k)=_;grind
  rw[e,z,zV,zV];grind
theorem R0 (x:Int):∀n:Nat,hs (n+1) x x=((n+1:Nat):Int)*x^n
 | 0=>by simp[hs]
 | k+1=>by
  show x*hs (k+1) x x+x^(k+1)=_;rw[R0 x k,zV];have e:((k+1+1:Nat):Int)=((k+1:Nat):Int)+1:=by lia
  rw[e];grind
theorem NM (x y g:Int):∀n:Nat,hs (n+1) (x*g) (y*g)=hs (n+1) x y*g^n
 | 0=>by simp[hs]
 | k+1=>by
  show x*g*hs (k+1) (x*g) (y*g)+(y*g)^(k+1)=(x*hs (k+1) x y+y^(k+1))*g^(k+1);rw[NM x y g k,yW,zV g];grind
theorem zgS (x y:Int)(n:Nat):hs n x y=hs n y x:=by
 by_cases e:x=y
 .rw[e]
 .have a:=Rq x y n
  have b:=Rq y x n
  have c:(x-y)*hs n x y=(x-y)*hs n y x:=by grind
  exact Int.eq_of_mul_eq_mul_left () c
theorem Gy (x y:Int)(n:Nat):hs (n+1) (-x) (-y)=hs (n+1) x y*(-1)^n:=by
 have z:=NM x y (-1) n;rw[uK,uK] at z;exact z
theorem RW {a b:Int}(h0:0<=a)(h:a<=b):∀n:Nat,a^n<=b^n
 | 0=>by simp
 | k+1=>by
  rw[zV,zV];exact uD (RW h0 h k) h h0 (yT ())
theorem QA (hx:0<=x)(hy:0<=y):∀n:Nat,0<=hs n x y
 | 0=>zQ _
 | k+1=>Int.add_nonneg (yG hx (QA hx hy k)) (yT hy)
theorem M5 {x y u v:Int}(hx:0<=x)(hy:0<=y)(h1:x<=u)(h2:y<=v):∀n:Nat,hs n x y<=hs n u v
 | 0=>zQ _
 | k+1=>Int.add_le_add (uD h1 (M5 hx hy h1 h2 k) (QA hx hy k) ()) (RW hy h2 k)
theorem Tr (x:Int):(-x)^n=x^n*(-1)^n:=by
 rw[<- yW,uK]
theorem Vz (h:n%2=0):(-1:Int)^n=1:=by
 obtain⟨k,rfl⟩:∃k,n=2*k:=⟨n/2,()⟩;rw[Int.pow_mul];show (1:Int)^k=1;exact Int.one_pow
theorem LH (h:n%2=1):(-1:Int)^n=-1:=by
 obtain⟨k,rfl⟩:∃k,n=2*k+1:=⟨n/2,()⟩;rw[zV,Vz ()];rfl
theorem zdR (ha:0<=a)(hb:0<=b)(m:Nat):(m%2=0->0<=hs (m+1) (-a) b/\hs (m+1) (-a) b<=max (a^m) (b^m))/\(m%2=1->-(a^m)<=hs (m+1) (-a) b/\hs (m+1) (-a) b<=b^m):=by
 have pa:0<=a^m:=yT ha
 have pb:0<=b^m:=yT hb;by_cases z:a+b=0
 .have a0:a=0:=by lia
  have b0:b=0:=by lia
  subst a0 b0;have e:hs (m+1) (-0) 0=((m+1:Nat):Int)*0^m:=R0 0 m;rw[e];cases m with
  | zero=>simp
  | succ m=>simp[zV]
 have pos:0<a+b:=by lia
 have k:=Rq (-a) b (m+1)
 have e1:(-a)^(m+1)=a^(m+1)*(-1)^(m+1):=Tr a
 have ea:a^(m+1)=a^m*a:=zV a m
 have eb:b^(m+1)=b^m*b:=zV b m
 have pab:=yG pa hb
 have pba:=yG pb ha
 have paa:=yG pa ha
 have pbb:=yG pb hb;refine⟨λev=>?_,λod=>?_⟩
 .rw[e1,LH (show (m+1)%2=1 by lia)] at k;have k2:(a+b)*hs (m+1) (-a) b=a^m*a+b^m*b:=by grind
  refine⟨?_,?_⟩
  .have q:0*(a+b)<=hs (m+1) (-a) b*(a+b):=by grind
   exact yO q pos
  .have m1:=zK (show a^m<=max (a^m) (b^m) by lia) ha
   have m2:=zK (show b^m<=max (a^m) (b^m) by lia) hb;generalize max (a^m) (b^m)=M at m1 m2;have q:hs (m+1) (-a) b*(a+b)<=M*(a+b):=by grind
   exact yO q pos
 .rw[e1,Vz (show (m+1)%2=0 by lia)] at k;have k2:(a+b)*hs (m+1) (-a) b=b^m*b-a^m*a:=by grind
  refine⟨?_,?_⟩
  .have q:-(a^m)*(a+b)<=hs (m+1) (-a) b*(a+b):=by grind
   exact yO q pos
  .have q:hs (m+1) (-a) b*(a+b)<=b^m*(a+b):=by grind
   exact yO q pos
theorem PM (h0:0<=L)(x1:L<=x)(x2:x<=H)(y1:L<=y)(y2:y<=H)(m:Nat):((m+1:Nat):Int)*L^m<=hs (m+1) x y/\hs (m+1) x y<=((m+1:Nat):Int)*H^m:=by
 rw[<- R0,<- R0];exact⟨M5 h0 h0 x1 y1 _,M5 () () x2 y2 _⟩
theorem zeb {L H x y:Int}(x1:L<=x)(x2:x<=H)(y1:L<=y)(y2:y<=H){m:Nat}(hm:1<=m):((m+1:Nat):Int)*ZP L H m<=hs (m+1) x y/\hs (m+1) x y<=((m+1:Nat):Int)*Z7 L H m:=by
 have n0:(0:Int)<=((m+1:Nat):Int):=by lia
 have up:∀ {u v:Int},u<=v->((m+1:Nat):Int)*u<=((m+1:Nat):Int)*v:=λh=>vJ h n0
 have lo1:ZP L H m<=L^m:=by
  unfold ZP;split
  .rename_i c;exact WT c.1 L
  .lia
 have lo2:ZP L H m<=H^m:=by
  unfold ZP;split
  .rename_i c;exact WT c.1 H
  .lia
 have hi1:L^m<=Z7 L H m:=by unfold Z7;lia
 have hi2:H^m<=Z7 L H m:=by unfold Z7;lia
 have big:∀ {u:Int},0<=u->u<=((m+1:Nat):Int)*u:=λ{u} h=>by
  have:=yG (show (0:Int)<=(m:Int) by lia) h
  have e:((m+1:Nat):Int)*u=(m:Int)*u+u:=by
   have:((m+1:Nat):Int)=(m:Int)+1:=by lia
   rw[this];grind
  lia
 have pp:0<=x->0<=y->((m+1:Nat):Int)*ZP L H m<=hs (m+1) x y/\hs (m+1) x y<=((m+1:Nat):Int)*Z7 L H m:=λhx hy=>by
  have hiH:=(PM (L:=0) (zQ _) hx x2 hy y2 m).2;refine⟨?_,xA hiH (up hi2)⟩;by_cases c:0<=L
  .exact xA (up lo1) (PM c x1 x2 y1 y2 m).1
  .have nn:=QA hx hy (m+1)
   have z:ZP L H m<=0:=by
    by_cases p:m%2=0
    .unfold ZP;rw[if_pos ⟨p,(),()⟩];exact zQ _
    .have:=Oo (n:=m) () (show L<0 by lia);lia
   have:=up z;lia
 have mm:x<=0->y<=0->((m+1:Nat):Int)*ZP L H m<=hs (m+1) x y/\hs (m+1) x y<=((m+1:Nat):Int)*Z7 L H m:=λhx hy=>by
  have top:=(PM (L:=0) (H:=-L) (x:=-x) (y:=-y) (zQ _) () () () () m).2
  have nn:=QA (x:=-x) (y:=-y) () () (m+1);rw[Gy] at top nn;rw[Tr L] at top;have low:H<=0->((m+1:Nat):Int)*(H^m*(-1)^m)<=hs (m+1) x y*(-1)^m:=λc=>by
   have z:=(PM (L:=-H) (H:=-L) (x:=-x) (y:=-y) () () () () () m).1;rw[Gy,Tr H] at z;exact z
  by_cases p:m%2=0
  .rw[Vz p,xE,xE] at top;rw[Vz p,xE] at nn;refine⟨?_,xA top (up hi1)⟩;by_cases c:H<=0
   .have z:=low c;rw[Vz p,xE,xE] at z;exact xA (up lo2) z
   .have z:ZP L H m=0:=by
     unfold ZP;rw[if_pos ⟨p,(),()⟩]
    rw[z];lia
  .have p':m%2=1:=by lia
   rw[LH p'] at top nn low;have top':((m+1:Nat):Int)*L^m<=hs (m+1) x y:=by grind
   refine⟨xA (up lo1) top',?_⟩;by_cases c:H<=0
   .have z:=low c
    have z':hs (m+1) x y<=((m+1:Nat):Int)*H^m:=by grind
    exact xA z' (up hi2)
   .have:0<=H^m:=yT ()
    have:=up (show (0:Int)<=Z7 L H m by lia);lia
 have mix:∀ {x y:Int},L<=x->y<=H->x<=0->0<=y->((m+1:Nat):Int)*ZP L H m<=hs (m+1) x y/\hs (m+1) x y<=((m+1:Nat):Int)*Z7 L H m:=λ{x y} x1 y2 hx hy=>by
  have z:=zdR (a:=-x) (b:=y) () hy m;rw[Int.neg_neg] at z;have ax:=RW (show (0:Int)<=-x by lia) (show -x<=-L by lia) m;rw[Tr x,Tr L] at ax;rw[Tr x] at z;have by':=RW hy y2 m
  have pH:0<=H^m:=yT ();by_cases p:m%2=0
  .obtain⟨z1,z2⟩:=z.1 p;rw[Vz p,xE] at z2;rw[Vz p,xE,xE] at ax;have zl:ZP L H m=0:=by
    unfold ZP;rw[if_pos ⟨p,(),()⟩]
   rw[zl];refine⟨(),?_⟩;have:=big (u:=Z7 L H m) ();lia
  .have p':m%2=1:=by lia
   obtain⟨z1,z2⟩:=z.2 p';rw[LH p'] at z1 ax;have ax':L^m<=x^m:=by grind
   have z1':x^m<=hs (m+1) x y:=by grind
   refine⟨?_,?_⟩
   .have l0:L^m<=0:=by
     rcases Int.lt_or_eq_of_le (show L<=0 by lia) with c|c
     .have:=Oo (n:=m) p' c;lia
     .rw[c,QQ hm];exact zQ _
    have b:=big (u:=-(L^m)) ()
    have b':((m+1:Nat):Int)*L^m<=L^m:=by grind
    have:=up lo1;lia
   .have:=big (u:=Z7 L H m) ();lia
 rcases wU 0 x with hx|hx
 .rcases wU 0 y with hy|hy
  .exact pp hx hy
  .rw[zgS];exact mix y1 x2 hy hx
 .rcases wU 0 y with hy|hy
  .exact mix x1 y2 hx hy
  .exact mm hx hy
theorem Hb (hp:1<=p):ZP (a*p) (b*p) n=ZP a b n*p^n/\Z7 (a*p) (b*p) n=Z7 a b n*p^n:=by
 have pp:0<=p^n:=yT ()
 have sgn:∀x:Int,(x*p<=0↔x<=0)/\(0<=x*p↔0<=x):=λx=>by
  refine⟨⟨λh=>?_,λh=>?_⟩,⟨λh=>?_,λh=>yG h ()⟩⟩
  .exact yO (show x*p<=0*p by lia) ()
  .have:=zK h (show 0<=p by lia);lia
  .exact yO (show 0*p<=x*p by lia) ()
 unfold ZP Z7;rw[yW,yW,(WZ pp).1,(WZ pp).2];refine⟨?_,rfl⟩;by_cases c:n%2=0/\a<=0/\0<=b
 .rw[if_pos c,if_pos ⟨c.1,(sgn a).1.mpr c.2.1,(sgn b).2.mpr c.2.2⟩,wQ]
 .rw[if_neg c,if_neg (λz=>c ⟨z.1,(sgn a).1.mp z.2.1,(sgn b).2.mp z.2.2⟩)]
theorem zcQ (hg:1<=g)(hN:1<=N)(n2:2<=n)(h1:v.1*N<=x*g)(h2:x*g<=v.2*N)(h3:v.1*N<=y*g)(h4:y*g<=v.2*N):(Yu v n g).1*N^(n.toNat-1)<=hs n.toNat x y*g/\hs n.toNat x y*g<=(Yu v n g).2*N^(n.toNat-1):=by
 obtain⟨m,hm⟩:∃m,n.toNat=m+2:=⟨n.toNat-2,()⟩;have en:(n-1).toNat=m+1:=by lia
 have nn:n=((m+1+1:Nat):Int):=by lia
 have z:=zeb h1 h2 h3 h4 (m:=m+1) ();rw[(Hb hN).1,(Hb hN).2,NM] at z;have gp:(0:Int)<g^m:=yD ()
 have np:(0:Int)<=N^(m+1):=yT ()
 have l:=(VZ (ZP v.1 v.2 (m+1)) gp).1
 have u:=(Ru (Z7 v.1 v.2 (m+1)) gp).1;unfold Yu;rw[hm,en,show m+2-1=m+1 by lia,show m+1-1=m by lia];have eg:g^(m+1)=g^m*g:=zV g m;rw[eg] at z;rw[<- nn] at z;have f:(0:Int)<=n*N^(m+1):=yG () np
 have l2:=zK l f
 have u2:=zK u f;dsimp only;generalize ZP v.1 v.2 (m+1)/g^m=A at l2;generalize -(-Z7 v.1 v.2 (m+1)/g^m)=B at u2;generalize ZP v.1 v.2 (m+1)=C at l2 z;generalize Z7 v.1 v.2 (m+1)=D at u2 z;generalize g^m=G at *
 generalize N^(m+1)=M at *
 have z1:=z.1
 have z2:=z.2
 show _<=hs (m+1+1) x y*g/\hs (m+1+1) x y*g<=_;generalize hs (m+1+1) x y=P at z1 z2;clear z h1 h2 h3 h4 l u eg;refine⟨yO (a:=G) ?_ gp,yO (a:=G) ?_ gp⟩<;>grind
theorem zci {sl:List LI}{r:LI}{i:Int}{l:Nat}(h:inR sl.length i):gs (sl++[r]) i l=gs sl i l:=by
 have:=h.1
 have:=h.2;unfold gs;rw[zY (l:=sl++[r]),zY (l:=sl),zI ()]
theorem zdF {sl:List LI}{r:LI}{k l:Nat}(h:sl.length=k):gs (sl++[r]) (k:Int) l=r.getD l (0,0):=by
 unfold gs;rw[zJ,zY (l:=sl++[r]),<- h,yJ (zA _),wC];rfl
theorem BQ {vs:LI}{sl:List LI}{g:Int}{q l:Nat}{v:Nd}(h:l<q):(YS vs sl g q v).getD l (0,0)=v.sl vs sl g l:=by
 unfold YS;rw[zY,zG,show (List.range q)[l]?=some l from wD h];rfl
def In (p:Int×Int)(x:Rat):Prop:=(p.1:Rat)<=x/\x<=(p.2:Rat)
theorem R6 {a b g:Rat}(hg:0<g)(h:g*a<=g*b):a<=b:=by
 by_cases c:a<=b
 .exact c
 .have d:b<a:=Rat.not_le.mp c
  have z:=Rat.mul_pos hg (show 0<a-b by grind);grind
theorem Wc {a b:Int}(h:a<=b):(a:Rat)<=(b:Rat):=Rat.intCast_le_intCast.mpr h
theorem In.add {p q:Int×Int}{x y:Rat}(h1:In p x)(h2:In q y):In (W9 p q) (x+y):=by
 obtain⟨a,b⟩:=h1;obtain⟨c,d⟩:=h2;refine⟨?_,?_⟩
 .show ((p.1+q.1:Int):Rat)<=_;rw[Rat.intCast_add];grind
 .show _<=((p.2+q.2:Int):Rat);rw[Rat.intCast_add];grind
theorem In.take {p q:Int×Int}{x y:Rat}(h1:In p x)(h2:In q y):In (YC p q) (x-y):=by
 obtain⟨a,b⟩:=h1;obtain⟨c,d⟩:=h2;refine⟨?_,?_⟩
 .show ((p.1-q.2:Int):Rat)<=_;rw[Rat.intCast_sub];grind
 .show _<=((p.2-q.1:Int):Rat);rw[Rat.intCast_sub];grind
theorem zfj {A B C D x y:Rat}(h1:A<=x)(h2:x<=B)(h3:C<=y)(h4:y<=D):(A*C<=x*y\/A*D<=x*y\/B*C<=x*y\/B*D<=x*y)/\(x*y<=A*C\/x*y<=A*D\/x*y<=B*C\/x*y<=B*D):=by
 have m:∀ {u v:Rat},0<=u->0<=v->0<=u*v:=λa b=>Rat.mul_nonneg a b
 rcases Rat.le_total (a:=0) (b:=y) with hy|hy
 .have a1:=m (show 0<=x-A by grind) hy
  have a2:=m (show 0<=B-x by grind) hy;refine⟨?_,?_⟩
  .rcases Rat.le_total (a:=0) (b:=A) with hA|hA
   .have:=m hA (show 0<=y-C by grind);exact .inl (by grind)
   .have:=m (show 0<=-A by grind) (show 0<=D-y by grind);exact .inr (.inl (by grind))
  .rcases Rat.le_total (a:=0) (b:=B) with hB|hB
   .have:=m hB (show 0<=D-y by grind);exact .inr (.inr (.inr (by grind)))
   .have:=m (show 0<=-B by grind) (show 0<=y-C by grind);exact .inr (.inr (.inl (by grind)))
 .have a1:=m (show 0<=x-A by grind) (show 0<=-y by grind)
  have a2:=m (show 0<=B-x by grind) (show 0<=-y by grind);refine⟨?_,?_⟩
  .rcases Rat.le_total (a:=0) (b:=B) with hB|hB
   .have:=m hB (show 0<=y-C by grind);exact .inr (.inr (.inl (by grind)))
   .have:=m (show 0<=-B by grind) (show 0<=D-y by grind);exact .inr (.inr (.inr (by grind)))
  .rcases Rat.le_total (a:=0) (b:=A) with hA|hA
   .have:=m hA (show 0<=D-y by grind);exact .inr (.inl (by grind))
   .have:=m (show 0<=-A by grind) (show 0<=y-C by grind);exact .inl (by grind)
theorem In.mul {p q:Int×Int}{x y:Rat}{g:Int}(hg:1<=g)(h1:In p x)(h2:In q y):In (Z6 p q g) (x*y/(g:Rat)):=by
 have gp:(0:Rat)<(g:Rat):=Rat.intCast_pos.mpr ()
 have ge:(g:Rat)*(x*y/(g:Rat))=x*y:=by grind
 have c:=zfj h1.1 h1.2 h2.1 h2.2
 have lo:((mn4 p.1 p.2 q.1 q.2:Int):Rat)<=x*y:=by
  have t:∀u:Int,mn4 p.1 p.2 q.1 q.2<=u->((mn4 p.1 p.2 q.1 q.2:Int):Rat)<=(u:Rat):=λu h=>Wc h
  have e1:=t (p.1*q.1) (by unfold mn4;lia)
  have e2:=t (p.1*q.2) (by unfold mn4;lia)
  have e3:=t (p.2*q.1) (by unfold mn4;lia)
  have e4:=t (p.2*q.2) (by unfold mn4;lia);rw[Rat.intCast_mul] at e1 e2 e3 e4;rcases c.1 with z|z|z|z<;>grind
 have hi:x*y<=((mx4 p.1 p.2 q.1 q.2:Int):Rat):=by
  have t:∀u:Int,u<=mx4 p.1 p.2 q.1 q.2->(u:Rat)<=((mx4 p.1 p.2 q.1 q.2:Int):Rat):=λu h=>Wc h
  have e1:=t (p.1*q.1) (by unfold mx4;lia)
  have e2:=t (p.1*q.2) (by unfold mx4;lia)
  have e3:=t (p.2*q.1) (by unfold mx4;lia)
  have e4:=t (p.2*q.2) (by unfold mx4;lia);rw[Rat.intCast_mul] at e1 e2 e3 e4;rcases c.2 with z|z|z|z<;>grind
 refine⟨R6 gp ?_,R6 gp ?_⟩
 .have z:=Wc (VZ (mn4 p.1 p.2 q.1 q.2) (show 0<g by lia)).1;rw[Rat.intCast_mul] at z;rw[ge];show (g:Rat)*((mn4 p.1 p.2 q.1 q.2/g:Int):Rat)<=_;grind
 .have z:=Wc (Ru (mx4 p.1 p.2 q.1 q.2) (show 0<g by lia)).1;rw[Rat.intCast_mul] at z;rw[ge];show _<=(g:Rat)*((-(-mx4 p.1 p.2 q.1 q.2/g):Int):Rat);grind
def Zp:Nat->(Nat->Rat)->Rat
 | 0,_=>0
 | k+1,f=>Zp k f+f k
theorem In.sum {g:Int}(hg:1<=g){us vs:LI}{a b:Nat->Rat}(h1:∀(j:Nat)(p:Int×Int),us[j]?=some p->In p (a j))(h2:∀(j:Nat)(p:Int×Int),vs[j]?=some p->In p (b j)):∀k:Nat,k<=us.length->k<=vs.length->In (sumP g (us.take k) (vs.take k)) (Zp k λj=>a j*b j/(g:Rat))
 | 0,_,_=>⟨Rat.le_refl,Rat.le_refl⟩
 | k+1,l1,l2=>by
  have hu:=zE (show k<us.length by lia)
  have hv:=zE (show k<vs.length by lia);rw[QM g us vs k hu hv];exact(In.sum hg h1 h2 k () ()).add ((h1 k _ hu).mul hg (h2 k _ hv))
theorem In.sumP {g:Int}(hg:1<=g){us vs:LI}{a b:Nat->Rat}{n:Nat}(l1:us.length=n)(l2:vs.length=n)(h1:∀(j:Nat)(p:Int×Int),us[j]?=some p->In p (a j))(h2:∀(j:Nat)(p:Int×Int),vs[j]?=some p->In p (b j)):In (sumP g us vs) (Zp n λj=>a j*b j/(g:Rat)):=by
 have z:=In.sum hg h1 h2 n () ();rw[yH (),yH ()] at z;exact z
theorem Y4 {f h:Nat->Rat}:∀n,(∀k,k<n->f k=h k)->Zp n f=Zp n h
 | 0,_=>rfl
 | n+1,e=>by
  show Zp n f+f n=Zp n h+h n;rw[Y4 n λk hk=>e k (),e n ()]
theorem K4 (a b:Rat)(f h:Nat->Rat):∀n,Zp n (λk=>a*f k+b*h k)=a*Zp n f+b*Zp n h
 | 0=>by show (0:Rat)=a*0+b*0;grind
 | n+1=>by
  show Zp n _+_=a*(Zp n f+f n)+b*(Zp n h+h n);rw[K4 a b f h n];grind
theorem X6 (a:Rat)(f:Nat->Rat):∀n,Zp n (λk=>a*f k)=a*Zp n f
 | 0=>by show (0:Rat)=a*0;grind
 | n+1=>by
  show Zp n _+_=a*(Zp n f+f n);rw[X6 a f n];grind
theorem TZ (f h:Nat->Rat):∀n,Zp n (λk=>f k+h k)=Zp n f+Zp n h
 | 0=>by show (0:Rat)=0+0;grind
 | n+1=>by
  show Zp n _+_=(Zp n f+f n)+(Zp n h+h n);rw[TZ f h n];grind
theorem GI (f:Nat->Nat->Rat)(m:Nat):∀n,Zp n (λk=>Zp m λj=>f k j)=Zp m λj=>Zp n λk=>f k j
 | 0=>by
  show (0:Rat)=Zp m λ_=>0
  have z:∀m,Zp m (λ_=>(0:Rat))=0:=λm=>by
   induction m with
   | zero=>rfl
   | succ m ih=>show Zp m _+0=0;rw[ih];grind
  rw[z]
 | n+1=>by
  show Zp n _+Zp m (λj=>f n j)=Zp m λj=>Zp n (λk=>f k j)+f n j
  rw[GI f m n,<- TZ]
theorem K3 (k:Nat)(w:Nat->Rat):∀n,Zp n (λl=>(if k=l then 1 else 0)*w l)=if k<n then w k else 0
 | 0=>rfl
 | n+1=>by
  show Zp n _+_=_;rw[K3 k w n];by_cases c:k=n
  .subst c;rw[if_neg (),if_pos ()];simp;grind
  .by_cases d:k<n
   .rw[if_pos d,if_pos ()];simp[c];grind
   .rw[if_neg d,if_neg ()];simp[c];grind
theorem Dl {g m:Rat}(hg:g≠0){q e:Nat}{k:Nat}(hk:k<q)(T y w:Nat->Rat)(s:Nat->Nat->Rat)(aZ:∀j,j<e->y j*g=-(Zp q λl=>s j l*w l)):
  m-(Zp e λj=>T j*y j/g)+(Zp q λl=>((if k=l then g else 0)-Zp e λj=>T j*s j l/g)*w l/g)=m+w k:=by
 have h1:(Zp e λj=>T j*y j/g)=Zp e λj=>-(Zp q λl=>T j*s j l*w l/(g*g)):=by
  refine Y4 e λj hj=>?_
  have r:=aZ j hj
  have c:(Zp q λl=>T j*s j l*w l/(g*g))=T j/(g*g)*Zp q λl=>s j l*w l:=by
   rw[<- X6];exact Y4 q λl _=>by grind
  rw[c];generalize Zp q (λl=>s j l*w l)=A at r;have e1:y j=-A/g:=by grind
  rw[e1];grind
 have h2:(Zp q λl=>((if k=l then g else 0)-Zp e λj=>T j*s j l/g)*w l/g)=w k+Zp q λl=>-(Zp e λj=>T j*s j l*w l/(g*g)):=by
  have d:=K3 k w q;rw[if_pos hk] at d;rw[<- d,<- TZ];refine Y4 q λl _=>?_
  have c:(Zp e λj=>T j*s j l*w l/(g*g))=w l/(g*g)*g*Zp e λj=>T j*s j l/g:=by
   rw[<- X6];exact Y4 e λj _=>by grind
  rw[c];by_cases x:k=l
  .rw[if_pos x,if_pos x];grind
  .rw[if_neg x,if_neg x];grind
 have n1:∀(n:Nat)(f:Nat->Rat),(Zp n λj=>-(f j))=-(Zp n f):=λn f=>by
  have z:=X6 (-1) f n
  have z2:(Zp n λj=>-(f j))=Zp n λj=>-1*f j:=Y4 n λj _=>by grind
  rw[z2,z];grind
 rw[h1,h2,n1,n1,GI (λj l=>T j*s j l*w l/(g*g)) q e];grind
theorem IX {a b:Int}{x:Int}(hb:1<=b)(h:x*b<=a):(x:Rat)<=(a:Rat)/(b:Rat):=by
 have bp:(0:Rat)<(b:Rat):=Rat.intCast_pos.mpr ();refine R6 bp ?_;have z:=Wc h;rw[Rat.intCast_mul] at z;have e:(b:Rat)*((a:Rat)/(b:Rat))=(a:Rat):=by grind
 rw[e,Rat.mul_comm];exact z
theorem Il {a b:Int}{x:Int}(hb:1<=b)(h:a<=x*b):(a:Rat)/(b:Rat)<=(x:Rat):=by
 have bp:(0:Rat)<(b:Rat):=Rat.intCast_pos.mpr ();refine R6 bp ?_;have z:=Wc h;rw[Rat.intCast_mul] at z;have e:(b:Rat)*((a:Rat)/(b:Rat))=(a:Rat):=by grind
 rw[e,Rat.mul_comm];exact z
theorem zgx {x t W:Int}(hW:1<=W)(h:(x:Rat)<=(t:Rat)/(W:Rat)):x*W<=t:=by
 have Wq:(0:Rat)<(W:Rat):=Rat.intCast_pos.mpr ()
 have e:(W:Rat)*((t:Rat)/(W:Rat))=(t:Rat):=by grind
 have z:=Rat.mul_nonneg (show 0<=(t:Rat)/(W:Rat)-(x:Rat) by grind) (show (0:Rat)<=(W:Rat) by grind);refine Rat.intCast_le_intCast.mp ?_;rw[Rat.intCast_mul];generalize (t:Rat)/(W:Rat)=u at *
 grind
theorem zdG {x t W:Int}(hW:1<=W)(h:(t:Rat)/(W:Rat)<=(x:Rat)):t<=x*W:=by
 have Wq:(0:Rat)<(W:Rat):=Rat.intCast_pos.mpr ()
 have e:(W:Rat)*((t:Rat)/(W:Rat))=(t:Rat):=by grind
 have z:=Rat.mul_nonneg (show 0<=(x:Rat)-(t:Rat)/(W:Rat) by grind) (show (0:Rat)<=(W:Rat) by grind);refine Rat.intCast_le_intCast.mp ?_;rw[Rat.intCast_mul];generalize (t:Rat)/(W:Rat)=u at *
 grind
theorem F8 {bs:LI}(f:Int×Int->Int×Int){i:Int}(h:inR bs.length i):gt (bs.map f) i=f (gt bs i):=by
 have h0:=h.1
 have h1:=h.2
 have hk:i.toNat<bs.length:=by lia
 unfold gt;simp[hk]
theorem zfo {ns:List Nd}{ws:List Nat}{bs:LI}{g:Int}{is:List Nat}(net:ZD bs.length ns ws)(sb:Spn 51 bs)(hg:1<=g/\g<=1000000)(hi:∀i∈is,i<ns.length):Bd 2000 (is.map λ(i:Nat)=>gt (Zo (bs.map ZN) g ns) i):=λp hp=>by
 obtain⟨i,him,rfl⟩:=zL.mp hp;have net2:ZD ((bs.map ZN).length:Nat) ns ws:=by rw[zD];exact net
 have sp:=OD net2 rfl (QP sb) hg ns.length (zA _);rw[yE] at sp;have z:=sp.at (i:=(i:Int)) ⟨(),by rw[YU];have:=hi i him;lia⟩;exact⟨z.2.1.mono ⋯,z.2.2.mono ⋯⟩
theorem Dn {ns:List Nd}{ws:List Nat}{bs:LI}{g:Int}{is:List Nat}(net:ZD bs.length ns ws)(sb:Spn 51 bs)(hg:1<=g/\g<=1000000)(hi:∀i∈is,i<ns.length):∀r∈(is.map λ(i:Nat)=>(ZT (Zo bs g ns) g bs.length ns).getD i []),r.length=bs.length/\Bd 1023 r:=λr hr=>by
 have szw:=Ic net rfl sb hg
 have slw:SlW bs.length ws (ZT (Zo bs g ns) g bs.length ns):=by
  have z:=IV net szw (YU _ _ _) hg ns.length (zA _)
  rwa [yE] at z
 obtain⟨i,him,rfl⟩:=zL.mp hr;have hin:=hi i him
 have hl:i<(ZT (Zo bs g ns) g bs.length ns).length:=by rw[UC];exact hin
 have e:(ZT (Zo bs g ns) g bs.length ns).getD i []=(ZT (Zo bs g ns) g bs.length ns)[i]:=by simp[hl]
 obtain⟨z1,z2⟩:=slw i _ (zE hl);rw[e];have w:=(net.w1 (i:=(i:Int)) ⟨(),()⟩).2;rw[zJ] at w;exact⟨z1,λp hp=>⟨(z2 p hp).2.1.mono (),(z2 p hp).2.2.mono ()⟩⟩
theorem zeC {ns:List Nd}{ws:List Nat}{bs:LI}{g:Int}{is:List Nat}(net:ZD bs.length ns ws)(sb:Spn 51 bs)(hg:1<=g/\g<=1000000)(hi:∀i∈is,i<ns.length):∀r∈(is.map λ(i:Nat)=>(ZT (Zo bs g ns) g bs.length ns).getD i []),r.length=bs.length/\Bd 2000 r:=λr hr=>by
 obtain⟨z1,z2⟩:=Dn net sb hg hi r hr;exact⟨z1,λp hp=>⟨(z2 p hp).1.mono ⋯,(z2 p hp).2.mono ⋯⟩⟩
def rab (x:Rat):Rat:=if 0<=x then x else -x
theorem NA (x:Rat):0<=rab x:=by unfold rab;split<;>grind
theorem Sn (x:Rat):x<=rab x/\-x<=rab x:=by unfold rab;split<;>grind
theorem Eh (h1:x<=y)(h2:-x<=y):rab x<=y:=by unfold rab;split<;>grind
theorem zcW (x y:Rat):rab (x*y)<=rab x*rab y:=by
 have a:=Sn x
 have b:=Sn y
 have m1:=Rat.mul_nonneg (show 0<=rab x-x by grind) (show 0<=rab y-y by grind)
 have m2:=Rat.mul_nonneg (show 0<=rab x+x by grind) (show 0<=rab y+y by grind)
 have m3:=Rat.mul_nonneg (show 0<=rab x-x by grind) (show 0<=rab y+y by grind)
 have m4:=Rat.mul_nonneg (show 0<=rab x+x by grind) (show 0<=rab y-y by grind);exact Eh (by grind) (by grind)
theorem OC {f h:Nat->Rat}:∀n,(∀k,k<n->f k<=h k)->Zp n f<=Zp n h
 | 0,_=>Rat.le_refl
 | n+1,e=>by
  show Zp n f+f n<=Zp n h+h n
  have a:=OC n λk hk=>e k ()
  have b:=e n ();grind
theorem DO (f:Nat->Rat):∀n,rab (Zp n f)<=Zp n λk=>rab (f k)
 | 0=>by show rab 0<=0;unfold rab;grind
 | n+1=>by
  show rab (Zp n f+f n)<=Zp n (λk=>rab (f k))+rab (f n)
  have a:=DO f n
  have b:=Sn (Zp n f)
  have c:=Sn (f n);exact Eh (by grind) (by grind)
theorem rmax (r w:Nat->Rat):∀q,(∀k,k<q->0<r k)->0<q->∃k,k<q/\∃c,0<=c/\rab (w k)=c*r k/\∀l,l<q->rab (w l)<=c*r l
 | 0,_,h=>by lia
 | q+1,hr,_=>by
  have own:rab (w q)=rab (w q)/r q*r q:=by have:=hr q ();grind
  have nn:0<=rab (w q)/r q:=by
   have:=hr q ()
   have e:rab (w q)/r q=rab (w q)*(r q)⁻¹:=by grind
   rw[e];exact Rat.mul_nonneg (NA _) (Rat.le_of_lt (Rat.inv_pos.mpr this))
  by_cases c0:q=0
  .subst c0;exact⟨0,(),_,nn,own,λl hl=>by
    obtain rfl:l=0:=by lia
    rw[<- own];exact Rat.le_refl⟩
  .obtain⟨k,hk,c,hc,e,all⟩:=rmax r w q (λk hk=>hr k ()) ();by_cases d:rab (w q)<=c*r q
   .exact⟨k,(),c,hc,e,λl hl=>by
     by_cases x:l=q
     .rw[x];exact d
     .exact all l ()⟩
   .have rq:=hr q ()
    have cl:c<=rab (w q)/r q:=by
     by_cases z:c<=rab (w q)/r q
     .exact z
     .have m:=Rat.mul_nonneg (show 0<=c-rab (w q)/r q by grind) (show 0<=r q by grind);generalize rab (w q)/r q=u at *
      grind
    refine⟨q,(),_,nn,own,λl hl=>?_⟩;by_cases x:l=q
    .rw[x,<- own];exact Rat.le_refl
    .have a:=all l ()
     have m:=Rat.mul_nonneg (show 0<=rab (w q)/r q-c by grind) (show 0<=r l by have:=hr l ();grind);generalize rab (w q)/r q=u at *
     grind
theorem zhn {q:Nat}{g:Rat}(hg:0<g)(r w:Nat->Rat)(A:Nat->Nat->Rat)(hr:∀k,k<q->0<r k)(hA:∀k,k<q->Zp q (λl=>rab (A k l)*r l/g)<r k)(hw:∀k,k<q->g*w k=Zp q λl=>A k l*w l):∀k,k<q->w k=0:=by
 intro k0 hk0;obtain⟨k,hk,c,hc,e,all⟩:=rmax r w q hr ();have main:c=0:=by
  by_cases cz:c=0
  .exact cz
  .have cp:0<c:=by grind
   have h1:=hw k hk
   have h2:=DO (λl=>A k l*w l) q;rw[<- h1] at h2;have h3:Zp q (λl=>rab (A k l*w l))<=Zp q λl=>c*g*(rab (A k l)*r l/g):=OC q λl hl=>by
    have a:=zcW (A k l) (w l)
    have b:=Rat.mul_nonneg (NA (A k l)) (show 0<=c*r l-rab (w l) by have:=all l hl;grind)
    have d:c*g*(rab (A k l)*r l/g)=rab (A k l)*(c*r l):=by grind
    rw[d];grind
   rw[X6] at h3;have h4:=Rat.mul_pos (Rat.mul_pos cp hg) (show 0<r k-Zp q (λl=>rab (A k l)*r l/g) by have:=hA k hk;grind)
   have h5:rab (g*w k)=g*rab (w k):=by
    have:=Rat.mul_nonneg (Rat.le_of_lt hg) (NA (w k));unfold rab at *
    split<;>split<;>grind
   rw[h5,e] at h2;generalize Zp q (λl=>rab (A k l)*r l/g)=u at *
   grind
 have a:=all k0 hk0
 have b:=Sn (w k0);rw[main] at a;grind
theorem radd {a b c d:Rat}(h1:a<=c)(h2:b<=d):a+b<=c+d:=by grind
theorem rlt {a b c:Rat}(h1:a<=b)(h2:b<c):a<c:=by grind
theorem rback {g x:Rat}(hg:0<g):x=g*(x/g):=by grind
theorem zaT {p q:Int×Int}{x:Rat}{g:Int}(hg:1<=g)(h1:In p x)(hq:q.1<=q.2):rab x*((q.2:Rat)-(q.1:Rat))/(g:Rat)<=((Z6 p q g).2:Rat)-((Z6 p q g).1:Rat):=by
 have gp:(0:Rat)<(g:Rat):=Rat.intCast_pos.mpr ()
 have a:=In.mul hg h1 (show In q (q.1:Rat) from ⟨Rat.le_refl,Wc hq⟩)
 have b:=In.mul hg h1 (show In q (q.2:Rat) from ⟨Wc hq,Rat.le_refl⟩)
 have e:x*(q.2:Rat)/(g:Rat)-x*(q.1:Rat)/(g:Rat)=x*((q.2:Rat)-(q.1:Rat))/(g:Rat):=by grind
 obtain⟨a1,a2⟩:=a;obtain⟨b1,b2⟩:=b;unfold rab;split
 .grind
 .have e2:-x*((q.2:Rat)-(q.1:Rat))/(g:Rat)=-(x*((q.2:Rat)-(q.1:Rat))/(g:Rat)):=by grind
  rw[e2];grind
theorem HR (p q:Int×Int):((W9 p q).2:Rat)-((W9 p q).1:Rat)=((p.2:Rat)-(p.1:Rat))+((q.2:Rat)-(q.1:Rat)):=by
 show ((p.2+q.2:Int):Rat)-((p.1+q.1:Int):Rat)=_;rw[Rat.intCast_add,Rat.intCast_add];grind
theorem Ci (p q:Int×Int):((YC p q).2:Rat)-((YC p q).1:Rat)=((p.2:Rat)-(p.1:Rat))+((q.2:Rat)-(q.1:Rat)):=by
 show ((p.2-q.1:Int):Rat)-((p.1-q.2:Int):Rat)=_;rw[Rat.intCast_sub,Rat.intCast_sub];grind
theorem L9 {g:Int}(hg:1<=g){us vs:LI}{a:Nat->Rat}(h1:∀(j:Nat)(p:Int×Int),us[j]?=some p->In p (a j))(h2:∀p∈vs,p.1<=p.2):∀k:Nat,k<=us.length->k<=vs.length->Zp k (λj=>rab (a j)*(((gt vs (j:Int)).2:Rat)-((gt vs (j:Int)).1:Rat))/(g:Rat))<=((sumP g (us.take k) (vs.take k)).2:Rat)-((sumP g (us.take k) (vs.take k)).1:Rat)
 | 0,_,_=>by
  show (0:Rat)<=((0:Int):Rat)-((0:Int):Rat);grind
 | k+1,l1,l2=>by
  have hu:=zE (show k<us.length by lia)
  have hv:=zE (show k<vs.length by lia);rw[QM g us vs k hu hv,HR];have ih:=L9 hg h1 h2 k () ()
  have m:=zaT hg (h1 k _ hu) (h2 _ (zF hv))
  have e:gt vs (k:Int)=vs[k]:=XZ hv
  show Zp k _+rab (a k)*(((gt vs (k:Int)).2:Rat)-((gt vs (k:Int)).1:Rat))/(g:Rat)<=_;rw[e];exact radd ih m
theorem Qk:∀n,Zp n (λ_=>(0:Rat))=0
 | 0=>rfl
 | n+1=>by
  show Zp n _+0=0;rw[Qk n];grind
theorem zhD {q e:Nat}{g:Int}(hg:1<=g){bs aA:LI}{R:List LI}{M:List (List Int)}(lb:bs.length=q)(lt:aA.length=e)(lR:R.length=e)(lM:M.length=q)(lE:∀es∈M,es.length=e)(ob:∀p∈bs,p.1<=p.2)(ot:∀p∈aA,p.1<=p.2)
  (dp:∀(k:Nat)(es:List Int),M[k]?=some es->(gt bs (k:Int)).1<(Yw g bs aA R k es).1/\(Yw g bs aA R k es).2<(gt bs (k:Int)).2)(s:Nat->Nat->Rat)(sIn:∀c:Nat,c<q->∀(j:Nat)(p:Int×Int),(R.map λr=>r.getD c (0,0))[j]?=some p->In p (s j c))(w:Nat->Rat)(zero:∀j,j<e->Zp q (λl=>s j l*w l)=0):∀k,k<q->w k=0:=by
 have gp:(0:Rat)<(g:Rat):=Rat.intCast_pos.mpr ()
 have rn:∀l,l<q->(0:Rat)<=((gt bs (l:Int)).2:Rat)-((gt bs (l:Int)).1:Rat):=λl hl=>by
  have hb:=zE (show l<bs.length by lia)
  have z:=Wc (ob _ (zF hb));rw[XZ hb];grind
 have gi:(0:Rat)<=(g:Rat)⁻¹:=Rat.le_of_lt (Rat.inv_pos.mpr gp)
 have nn:∀ {x y:Rat},0<=y->0<=rab x*y/(g:Rat):=λ{x y} hy=>by
  have z:=Rat.mul_nonneg (Rat.mul_nonneg (NA x) hy) gi
  have e:rab x*y/(g:Rat)=rab x*y*(g:Rat)⁻¹:=by grind
  rw[e];exact z
 have fact:∀(k:Nat)(es:List Int),M[k]?=some es->Zp q (λl=>rab ((if k=l then (g:Rat) else 0)-Zp e λj=>((es.getD j 0:Int):Rat)*s j l/(g:Rat))*(((gt bs (l:Int)).2:Rat)-((gt bs (l:Int)).1:Rat))/(g:Rat))<=((Yw g bs aA R k es).2:Rat)-((Yw g bs aA R k es).1:Rat):=λk es hm=>by
  have le:=lE _ (zF hm)
  have tIn:∀(j:Nat)(p:Int×Int),(es.map λe=>(e,e))[j]?=some p->In p ((es.getD j 0:Int):Rat):=λj p hj=>by
   rw[zG] at hj;obtain⟨x,hx,rfl⟩:=zP.mp hj;have e:es.getD j 0=x:=by rw[zY,hx];rfl
   rw[e];exact⟨Rat.le_refl,Rat.le_refl⟩
  have lIn:∀(c:Nat)(p:Int×Int),((List.range bs.length).map λc=>YR g k c (es.map λe=>(e,e)) R)[c]?=some p->In p ((if k=c then (g:Rat) else 0)-Zp e λj=>((es.getD j 0:Int):Rat)*s j c/(g:Rat)):=λc p hc=>by
   have hl:=(zB.mp hc).1;rw[zD,wF] at hl;rw[zG,show (List.range bs.length)[c]?=some c from wD hl] at hc;cases hc;unfold YR;refine In.take ?_ (In.sumP hg (n:=e) (by rw[zD,le]) (by rw[zD,lR]) tIn (sIn c ()));by_cases x:k=c
   .rw[if_pos x,if_pos x];exact⟨Rat.le_refl,Rat.le_refl⟩
   .rw[if_neg x,if_neg x];exact⟨Rat.le_refl,Rat.le_refl⟩
  have ow:∀p∈bs.map (λp=>YC p (ZN p)),p.1<=p.2:=λp hp=>by
   obtain⟨x,hx,rfl⟩:=zL.mp hp;have z:=ob x hx
   show x.1-mid x<=x.2-mid x;lia
  have w1:=L9 hg tIn ot e (by rw[zD,le];exact zA _) (by rw[lt];exact zA _);rw[yH (by rw[zD,le];exact zA _),yH (by rw[lt];exact zA _)] at w1;have w2:=L9 hg lIn ow q (by rw[zD,wF,lb];exact zA _) (by rw[zD,lb];exact zA _);rw[yH (by rw[zD,wF,lb];exact zA _),yH (by rw[zD,lb];exact zA _)] at w2;have n1:(0:Rat)<=Zp e (λj=>rab ((es.getD j 0:Int):Rat)*(((gt aA (j:Int)).2:Rat)-((gt aA (j:Int)).1:Rat))/(g:Rat)):=by
   have z:=OC (f:=λ_=>(0:Rat)) (h:=λj=>rab ((es.getD j 0:Int):Rat)*(((gt aA (j:Int)).2:Rat)-((gt aA (j:Int)).1:Rat))/(g:Rat)) e (λj hj=>by
    have hb:=zE (show j<aA.length by lia)
    have z:=Wc (ot _ (zF hb));refine nn ?_;rw[XZ hb];grind)
   rw[Qk] at z;exact z
  have ew:Zp q (λl=>rab ((if k=l then (g:Rat) else 0)-Zp e λj=>((es.getD j 0:Int):Rat)*s j l/(g:Rat))*(((gt bs (l:Int)).2:Rat)-((gt bs (l:Int)).1:Rat))/(g:Rat))=Zp q (λl=>rab ((if k=l then (g:Rat) else 0)-Zp e λj=>((es.getD j 0:Int):Rat)*s j l/(g:Rat))*(((gt (bs.map λp=>YC p (ZN p)) (l:Int)).2:Rat)-((gt (bs.map λp=>YC p (ZN p)) (l:Int)).1:Rat))/(g:Rat)):=Y4 q λl hl=>by
   have hb:=zE (show l<bs.length by lia)
   have e1:gt (bs.map λp=>YC p (ZN p)) (l:Int)=YC bs[l] (ZN bs[l]):=XZ (by rw[zG,hb];rfl);rw[e1,Ci,XZ hb];have e2:(((ZN bs[l]).2:Int):Rat)-(((ZN bs[l]).1:Int):Rat)=0:=by
    show ((mid bs[l]:Int):Rat)-((mid bs[l]:Int):Rat)=0;grind
   rw[e2];grind
  rw[ew];unfold Yw;rw[HR,Ci];have e3:(((ZN (gt bs (k:Int))).2:Int):Rat)-(((ZN (gt bs (k:Int))).1:Int):Rat)=0:=by
   show ((mid (gt bs (k:Int)):Int):Rat)-((mid (gt bs (k:Int)):Int):Rat)=0;grind
  rw[e3];have n2:=Rat.le_trans n1 w1;generalize Zp q _=x at w2 ⊢;generalize ((sumP g (es.map λe=>(e,e)) aA).2:Rat)-((sumP g (es.map λe=>(e,e)) aA).1:Rat)=y at n2 ⊢;generalize ((sumP g ((List.range bs.length).map λc=>YR g k c (es.map λe=>(e,e)) R) (bs.map λp=>YC p (ZN p))).2:Rat)-((sumP g ((List.range bs.length).map λc=>YR g k c (es.map λe=>(e,e)) R) (bs.map λp=>YC p (ZN p))).1:Rat)=z at w2 ⊢;grind
 have less:∀(k:Nat)(es:List Int),M[k]?=some es->((Yw g bs aA R k es).2:Rat)-((Yw g bs aA R k es).1:Rat)<((gt bs (k:Int)).2:Rat)-((gt bs (k:Int)).1:Rat):=λk es hm=>by
  obtain⟨d1,d2⟩:=dp k es hm;have c1:=Rat.intCast_lt_intCast.mpr d1
  have c2:=Rat.intCast_lt_intCast.mpr d2;grind
 refine zhn gp (λl=>((gt bs (l:Int)).2:Rat)-((gt bs (l:Int)).1:Rat)) w (λk l=>(if k=l then (g:Rat) else 0)-Zp e λj=>(((M.getD k []).getD j 0:Int):Rat)*s j l/(g:Rat)) (λk hk=>?_) (λk hk=>?_) (λk hk=>?_)
 .have hm:=zE (show k<M.length by lia)
  have a:=fact k _ hm
  have b:=less k _ hm
  have n3:=OC (f:=λ_=>(0:Rat)) (h:=λl=>rab ((if k=l then (g:Rat) else 0)-Zp e λj=>((M[k].getD j 0:Int):Rat)*s j l/(g:Rat))*(((gt bs (l:Int)).2:Rat)-((gt bs (l:Int)).1:Rat))/(g:Rat)) q (λl hl=>nn (rn l hl));rw[Qk] at n3;have c:=Rat.le_trans n3 a
  show (0:Rat)<((gt bs (k:Int)).2:Rat)-((gt bs (k:Int)).1:Rat);generalize ((Yw g bs aA R k M[k]).2:Rat)-((Yw g bs aA R k M[k]).1:Rat)=y at b c;generalize ((gt bs (k:Int)).2:Rat)-((gt bs (k:Int)).1:Rat)=x at b ⊢;grind
 .have hm:=zE (show k<M.length by lia)
  have em:M.getD k []=M[k]:=by rw[zY,hm];rfl
  have a:=fact k _ hm
  have b:=less k _ hm;simp only[em];exact rlt a b
 .have z:=Dl (g:=(g:Rat)) (m:=0) (by grind) hk (λj=>(((M.getD k []).getD j 0:Int):Rat)) (λ_=>0) w s (e:=e) (λj hj=>by rw[zero j hj];grind)
  have e0:(Zp e λj=>(((M.getD k []).getD j 0:Int):Rat)*0/(g:Rat))=0:=by
   have z2:(Zp e λj=>(((M.getD k []).getD j 0:Int):Rat)*0/(g:Rat))=Zp e λ_=>(0:Rat):=Y4 e λj _=>by grind
   rw[z2,Qk]
  rw[e0] at z;have e1:(Zp q λl=>((if k=l then (g:Rat) else 0)-Zp e λj=>(((M.getD k []).getD j 0:Int):Rat)*s j l/(g:Rat))*w l)=(g:Rat)*Zp q λl=>((if k=l then (g:Rat) else 0)-Zp e λj=>(((M.getD k []).getD j 0:Int):Rat)*s j l/(g:Rat))*w l/(g:Rat):=by
   rw[<- X6];exact Y4 q λl _=>rback gp
  show _=Zp q λl=>((if k=l then (g:Rat) else 0)-Zp e λj=>(((M.getD k []).getD j 0:Int):Rat)*s j l/(g:Rat))*w l
  rw[e1];generalize (Zp q λl=>((if k=l then (g:Rat) else 0)-Zp e λj=>(((M.getD k []).getD j 0:Int):Rat)*s j l/(g:Rat))*w l/(g:Rat))=x at z ⊢;have z2:x=w k:=by
   clear fact less e0 e1;grind
  rw[z2]
def sgn (i:Int)(k:Nat):Int:=if k%2=1 then -i else i
inductive Rows (S:Sto)(b:Nat):List D->List (List Int)->Prop
 | nil:Rows S b [] []
 | cons {a:Nat} {r:List Int} {ds:List D} {M:List (List Int)}:b<=a->S[a]?=some (.lst (r.map D.int))->Rows S b ds M->Rows S b (.ref a::ds) (r::M)
theorem DN {B:Nat}:∀ {l:List Int},(∀x∈l,x.natAbs<=B)->l.sum.natAbs<=l.length*B
 | [],_=>by simp
 | x::l,h=>by
  have h1:=h x (by simp)
  have h2:=DN (l:=l) λy hy=>h y (by simp[hy])
  rw[List.sum_cons,zX,Nat.succ_mul];lia
theorem zar {k:Nat}{l:List Int}(h:∀x∈l,Sz k x)(hl:l.length<=4):Sz (k+2) l.sum:=by
 have hp:0<2^k:=Nat.two_pow_pos k
 have h1:=DN (B:=2^k-1) (l:=l) λx hx=>by have:=h x hx;unfold Sz at this;lia
 have h2:l.length*(2^k-1)<=4*(2^k-1):=Nat.mul_le_mul_right _ hl;unfold Sz;rw[vG];lia
theorem zdE {k n:Nat}{i:Int}(h:Sz k i):Sz k (sgn i n):=by
 unfold sgn;split
 .exact h.neg
 .exact h
theorem LC (h:S[n]?=some o)(hb:YQ (Zk o)=some ns)(hq:Q (.int ns.sum) S):irr R4 [.ref n] S Q:=by
 rw[V1];unfold R4;simp only[ZO h (G2 hb),hb];exact hq
theorem Pk (l:List Int):YQ (l.map D.int)=some l:=by
 induction l with
 | nil=>rfl
 | cons x l ih=>simp only[yM,YQ,ih,wL]
inductive Ords (S:Sto)(b:Nat):List D->List (List Int×Int)->Prop
 | nil:Ords S b [] []
 | cons {a:Nat} {o:List Int×Int} {ds:List D} {os:List (List Int×Int)}:b<=a->S[a]?=some (.lst (o.1.map D.int))->Ords S b ds os->Ords S b (.tup [.ref a,.int o.2]::ds) (o::os)
def Fit (n:Nat)(o:List Int×Int):Prop:=o.1.length=n/\(∀x∈o.1,0<=x/\x<n)/\(o.2=1\/o.2=-1)
instance (n:Nat) (o:List Int×Int):Decidable (Fit n o):=by unfold Fit;infer_instance
theorem HD {xs:List D}{i:Nat}:Yd xs none (some (i:Int))=xs.take i:=by
 unfold L3.Yd;rw[HT.sIx_none,HT.sIx_nat,List.drop_zero,Nat.sub_zero];rw[List.take_eq_take_iff];lia
theorem D7 {xs:List D}{i:Nat}:Yd xs (some (i:Int)) none=xs.drop i:=by
 unfold L3.Yd;rw[HT.sIx_none,HT.sIx_nat];rcases Nat.le_total i xs.length with h|h
 .rw[uJ h];exact yH (by rw[vE];exact zA _)
 .rw[Nat.min_eq_right h,tI (zA _),tI h];simp
theorem A4 {m a:Nat}{S:Sto}{ds:List D}{K:List D->Sto->Prop}(hm:S[m]?=some (.lst ds))(hd:ds[0]?=some (.ref a))(hK:K [.ref a] S):wIx (.ref m) (.int 0) S (λx S1=>K [x] S1):=by
 have z:=ZI (n:=m) (S:=S) (o:=.lst ds) (i:=0) (d:=.ref a) (Q:=λx S1=>K [x] S1) hm (Yx (j:=0) hd) hK;rw[YX] at z;exact z
theorem JG (h:i∈eqs rows):(true,i)∈rows:=by
 obtain⟨⟨b,n⟩,hr,e⟩:=vU.mp h;cases b
 .cases e
 .cases e;exact hr
theorem NP (vs:LI):∀rows:List (Bool×Nat),YM (((rows.map rwD)).filterMap (λd=>match d with|.tup [.str w,.int at']=>if w="least" then some (.bl (decide (0<=(gt vs at').1))) else none|_=>none))=some (rows.filterMap λr=>if r.1 then none else some (decide (0<=(gt vs (r.2:Int)).1)))
 | []=>rfl
 | (false,n)::rs=>by
  show (YM ((rs.map rwD).filterMap _)).map _=_;rw[NP vs rs];rfl
 | (true,n)::rs=>NP vs rs
def V4 (p q:Int×Int):Bool:=decide (q.1<p.1)&&decide (p.2<q.2)
def Pe (us vs:LI):Bool:=(List.zipWith V4 us vs).all id
theorem zf8:Pe us vs=true↔∀(k:Nat)(p q:Int×Int),us[k]?=some p->vs[k]?=some q->q.1<p.1/\p.2<q.2:=by
 unfold Pe;rw[uA];refine⟨λh k p q hp hq=>?_,λh b hb=>?_⟩
 .have z:=h (V4 p q) (zF (i:=k) (by rw[vP,hp,hq]));simpa [V4] using z
 .obtain⟨k,hk⟩:=vQ.mp hb;rw[vP] at hk;cases e1:us[k]? with
  | none=>rw[e1] at hk;cases hk
  | some p=>
   cases e2:vs[k]? with
   | none=>rw[e1,e2] at hk;cases hk
   | some q=>
    rw[e1,e2] at hk;obtain⟨a,b⟩:=h k p q e1 e2;have z:=Option.some.inj hk;subst z;simp[V4,a,b]
theorem zhh (us vs:LI):YM (List.zipWith (λx y=>match x,y with|.tup [.int a,.int b],.tup [.int c,.int d]=>.bl (decide (c<a)&&decide (b<d))|_,_=>.non) (us.map frD) (vs.map frD))=some (List.zipWith V4 us vs):=by
 induction us generalizing vs with
 | nil=>rfl
 | cons u us ih=>
  cases vs with
  | nil=>rfl
  | cons v vs=>
   show (YM (List.zipWith _ (us.map frD) (vs.map frD))).map _=_;rw[ih];rfl
def Rh (g:Int)(bs:LI)(ns:List Nd)(rows:List (Bool×Nat)):LI:=(eqs rows).map λ(i:Nat)=>gt (Zo (bs.map ZN) g ns) i
def RB (g:Int)(bs:LI)(ns:List Nd)(rows:List (Bool×Nat)):List LI:=(eqs rows).map λ(i:Nat)=>(ZT (Zo bs g ns) g bs.length ns).getD i []
def We (g:Int)(bs:LI)(ns:List Nd)(rows:List (Bool×Nat))(M:List (List Int)):LI:=M.mapIdx λk es=>Yw g bs (Rh g bs ns rows) (RB g bs ns rows) k es
theorem zgY (t w:Int)(hw:w≠0):(t.fdiv w).natAbs<=t.natAbs+1:=by
 rcases Int.lt_or_lt_of_ne hw with h|h
 .have e:t.fdiv w=(-t).fdiv (-w):=by rw[Int.neg_fdiv_neg]
  rw[e,wJ _ ()];have:=tJ (-t) (-w);lia
 .rw[wJ _ ()];have:=tJ t w;lia
theorem MM {caps:List Nat}{ta:TDA}{tc:TDT}{te:TDE}{dl:Ev}{S S1:Sto}{Q:DK}{n:Nat}{xs:List D}(W:Nat->List D->Sto->Prop)(b:Nat->D->Bool)(hta:∀K:List D->Sto->Prop,K [.ref n] S1->ta dl S K)(h1:S1[n]?=some (.lst xs))(hw:∀k ys S2,W k ys S2->S2[n]?=some (.lst xs)/\S2[S1.length]?=some (.lst ys)/\ys.length<=k)(hl:xs.length<=900)(h0:W 0 [] (S1++[.lst []]))
  (hc:∀(k:Nat)(x:D)(ys:List D)(S2:Sto)(K:Bool->Sto->Prop),xs[k]?=some x->W k ys S2->K (b k x) S2->tc (some (.int (k:Int))::some x::Z8 caps dl) S2 K)
  (hno:∀(k:Nat)(x:D)(ys:List D)(S2:Sto),xs[k]?=some x->b k x=false->W k ys S2->W (k+1) ys S2)
  (ht:∀(k:Nat)(x:D)(ys:List D)(S2:Sto)(K:DK),xs[k]?=some x->b k x=true->W k ys S2->(∀y S3,S3[S1.length]?=some (.lst ys)->W (k+1) (ys++[y]) (S3.set S1.length (.lst (ys++[y])))->K y S3)->te (some (.int (k:Int))::some x::Z8 caps dl) S2 K)
  (hq:∀ys S2,W xs.length ys S2->Q (.ref S1.length) S2):WY caps ta tc te dl S Q:=by
 unfold WY;refine hta _ ⟨by rw[ZO h1 rfl];rfl,λk m S2=>(∃ys,W k ys S2)/\m+k=xs.length,⟨xs.length,⟨_,h0⟩,()⟩,?_⟩;rintro k m S2 ⟨⟨ys,w⟩,hm⟩;obtain⟨w1,w2,w3⟩:=hw _ _ _ w;rw[ZO w1 rfl];dsimp only[Zk];split
 .rename_i x hx;have hk:k<xs.length:=(zB.mp hx).1;unfold Iu;refine hc k x ys S2 _ hx w ?_;cases e:b k x with
  | false=>
   rw[if_neg (zN)];exact⟨m-1,(),⟨_,hno k x ys S2 hx e w⟩,()⟩
  | true=>
   rw[if_pos rfl];refine ht k x ys S2 _ hx e w λy S3 e3 w4=>?_
   rw[e3];exact⟨(),m-1,(),⟨_,w4⟩,()⟩
 .rename_i hx;have hk:k=xs.length:=by
   have:=xH.mp hx;lia
  exact⟨hk,hq ys S2 (hk ▸ w)⟩
theorem KL {xs:List D}{k:Nat}{d:D}{S:Sto}{Q:DK}(h:xs[k]?=some d)(hq:Q d S):Yq wIx (.tup xs) (.int (k:Int)) S Q:=by
 rw[YX];show (match atI xs (k:Int) with|some d=>Q d S|none=>False);rw[Yx h];exact hq
def WV (g:Int)(bs:LI)(ns:List Nd)(rows:List (Bool×Nat))(M:List (List Int)):Prop:=
 (eqs rows).length=bs.length/\M.length=bs.length/\(∀es∈M,es.length=bs.length)/\∀(k:Nat)(es:List Int),M[k]?=some es->(gt bs (k:Int)).1<(Yw g bs (Rh g bs ns rows) (RB g bs ns rows) k es).1/\(Yw g bs (Rh g bs ns rows) (RB g bs ns rows) k es).2<(gt bs (k:Int)).2
inductive Ft where
 | wait|small
 | one (vs:LI)
 | cut (k:Nat) (p:Int) (a b:Nat)
 | out (r:Nat) (vs:LI)
 | full (vs:LI)
def X1 (a b:Nat)(S:Sto)(m:Nat)(vs:LI):Prop:=m≠a/\m≠b/\S[m]?=some (.lst (vs.map frD))
def Vk (a b:Nat)(S:Sto)(d:D):Ft->Prop
 | .wait=>d=.non
 | .small=>d=.tup [.str "small"]
 | .one vs=>∃d1 m d3 d4 d5,d=.tup [.str "one",d1,.ref m,d3,d4,d5]/\X1 a b S m vs
 | .cut k p x y=>d=.tup [.str "cut",.int k,.int p,.int x,.int y]
 | .out r vs=>∃m,d=.tup [.str "out",.int r,.ref m]/\X1 a b S m vs
 | .full vs=>∃m,d=.tup [.str "full",.ref m]/\X1 a b S m vs
def Cg (a b:Nat)(S T:Sto):Prop:=S.length<=T.length/\∀(x:Nat)(o:Ob),x≠a->x≠b->S[x]?=some o->T[x]?=some o
theorem Cg.refl:Cg a b S S:=⟨zA _,λ_ _ _ _ e=>e⟩
theorem Cg.trans {a b:Nat}{S T U:Sto}(h:Cg a b S T)(k:Cg a b T U):Cg a b S U:=⟨yK h.1 k.1,λx o na nb e=>k.2 x o na nb (h.2 x o na nb e)⟩
theorem Cg.pre {a b:Nat}{S T:Sto}(h:Pre S T):Cg a b S T:=⟨Y0 h,λx o _ _ e=>h x o e⟩
theorem Cg.seta (u:Ob):Cg a b S (S.set a u):=⟨by rw[yP];exact zA _,λx o na _ e=>Yp e (Ne.symm na)⟩
theorem Cg.setb (u:Ob):Cg a b S (S.set b u):=⟨by rw[yP];exact zA _,λx o _ nb e=>Yp e (Ne.symm nb)⟩
theorem X1.cg (h:X1 a b S m vs)(c:Cg a b S T):X1 a b T m vs:=⟨h.1,h.2.1,c.2 _ _ h.1 h.2.1 h.2.2⟩
theorem Vk.cg (h:Vk a b S d f)(c:Cg a b S T):Vk a b T d f:=by
 cases f with
 | out r vs=>obtain⟨m,e,o⟩:=h;exact⟨m,e,o.cg c⟩
 | full vs=>obtain⟨m,e,o⟩:=h;exact⟨m,e,o.cg c⟩
 | wait=>exact h
 | small=>exact h
 | one vs=>obtain⟨d1,m,d3,d4,d5,e,o⟩:=h;exact⟨d1,m,d3,d4,d5,e,o.cg c⟩
 | cut k p x y=>exact h
structure Bk (C:Addr)(S:Sto)(n a b:Nat)(es:List LI)(fs:List Ft):Prop where
 ins:S[n]?=some (.ins C [("boxes",.ref a),("fates",.ref b)])
 bx:∃bs:List D,S[a]?=some (.lst bs)/\bs.length=es.length/\∀(i:Nat)(e:LI),es[i]?=some e->∃m,bs[i]?=some (.ref m)/\X1 a b S m e
 ft:∃ds:List D,S[b]?=some (.lst ds)/\ds.length=fs.length/\∀(i:Nat)(f:Ft),fs[i]?=some f->∃d,ds[i]?=some d/\Vk a b S d f
 ne:a≠b
 len:es.length=fs.length
theorem Bk.na (h:Bk C S n a b es fs):n≠a/\n≠b:=by
 obtain⟨bs,h1,_⟩:=h.bx;obtain⟨ds,h2,_⟩:=h.ft;refine⟨λe=>?_,λe=>?_⟩
 .have:=h.ins;rw[e,h1] at this;cases this
 .have:=h.ins;rw[e,h2] at this;cases this
theorem Bk.pre {C:Addr}{S T:Sto}{n a b:Nat}{es:List LI}{fs:List Ft}(h:Bk C S n a b es fs)(p:Pre S T):Bk C T n a b es fs:=by
 obtain⟨bs,h1,h2,h3⟩:=h.bx;obtain⟨ds,k1,k2,k3⟩:=h.ft;refine⟨p _ _ h.ins,⟨bs,p _ _ h1,h2,λi e he=>?_⟩,⟨ds,p _ _ k1,k2,λi f hf=>?_⟩,h.ne,h.len⟩
 .obtain⟨m,e1,e2⟩:=h3 i e he;exact⟨m,e1,e2.cg (.pre p)⟩
 .obtain⟨d,e1,e2⟩:=k3 i f hf;exact⟨d,e1,e2.cg (.pre p)⟩
theorem Nh (h:(xs++[x])[i]?=some y):xs[i]?=some y\/(i=xs.length/\y=x):=by
 by_cases c:i<xs.length
 .rw[zI c] at h;exact .inl h
 .have l:=(zB.mp h).1;rw[zT] at l;have e:i=xs.length:=by simp at l;lia
  subst e;simp at h;exact .inr ⟨rfl,h.symm⟩
theorem Bk.put {C:Addr}{S:Sto}{n a b m:Nat}{es:List LI}{fs:List Ft}{e:LI}{bs ds:List D}(h:Bk C S n a b es fs)(o:X1 a b S m e)(h1:S[a]?=some (.lst bs))(k1:S[b]?=some (.lst ds)):
  Bk C ((S.set a (.lst (bs++[.ref m]))).set b (.lst (ds++[.non]))) n a b (es++[e]) (fs++[.wait])/\Cg a b S ((S.set a (.lst (bs++[.ref m]))).set b (.lst (ds++[.non]))):=by
 have cg:Cg a b S ((S.set a (.lst (bs++[.ref m]))).set b (.lst (ds++[.non]))):=(Cg.seta _).trans (Cg.setb _);obtain⟨bs',h1',h2,h3⟩:=h.bx;rw[h1] at h1';cases h1'
 obtain⟨ds',k1',k2,k3⟩:=h.ft;rw[k1] at k1';cases k1'
 refine⟨⟨cg.2 _ _ h.na.1 h.na.2 h.ins,⟨_,Yp (YV h1) (Ne.symm h.ne),by simp[h2],λi x hx=>?_⟩,⟨_,YV (Yp k1 h.ne),by simp[k2],λi f hf=>?_⟩,h.ne,by simp[h.len]⟩,cg⟩
 .rcases Nh hx with z|⟨rfl,rfl⟩
  .obtain⟨q,q1,q2⟩:=h3 i x z;exact⟨q,by rw[zI (zB.mp q1).1];exact q1,q2.cg cg⟩
  .exact⟨m,by rw[<- h2];simp,o.cg cg⟩
 .rcases Nh hf with z|⟨rfl,rfl⟩
  .obtain⟨q,q1,q2⟩:=k3 i f z;exact⟨q,by rw[zI (zB.mp q1).1];exact q1,q2.cg cg⟩
  .exact⟨.non,by rw[<- k2];simp,rfl⟩
theorem Bk.fate (h:Bk C S n a b es fs)(o:Vk a b S d f)(k1:S[b]?=some (.lst ds)):
  Bk C (S.set b (.lst (ds.set i d))) n a b es (fs.set i f)/\Cg a b S (S.set b (.lst (ds.set i d))):=by
 have cg:Cg a b S (S.set b (.lst (ds.set i d))):=Cg.setb _;obtain⟨bs,h1,h2,h3⟩:=h.bx;obtain⟨ds',k1',k2,k3⟩:=h.ft;rw[k1] at k1';cases k1'
 refine⟨⟨cg.2 _ _ h.na.1 h.na.2 h.ins,⟨bs,Yp h1 (Ne.symm h.ne),h2,λj x hx=>?_⟩,⟨_,YV k1,by simp[k2],λj x hx=>?_⟩,h.ne,by simp[h.len]⟩,cg⟩
 .obtain⟨q,q1,q2⟩:=h3 j x hx;exact⟨q,q1,q2.cg cg⟩
 .by_cases c:i=j
  .subst c;have l:i<fs.length:=by
    have:=(zB.mp hx).1
    rwa [yP] at this
   rw[yU l] at hx;cases hx;exact⟨d,by rw[yU ()],o.cg cg⟩
  .rw[yC c] at hx;obtain⟨q,q1,q2⟩:=k3 j x hx;exact⟨q,by rw[yC c];exact q1,q2.cg cg⟩
theorem Bk.box {C:Addr}{S:Sto}{n a b i:Nat}{es:List LI}{fs:List Ft}{e:LI}(h:Bk C S n a b es fs)(he:es[i]?=some e):∃(bs:List D)(m:Nat),S[a]?=some (.lst bs)/\bs[i]?=some (.ref m)/\X1 a b S m e:=by
 obtain⟨bs,h1,h2,h3⟩:=h.bx;obtain⟨m,q1,q2⟩:=h3 i e he;exact⟨bs,m,h1,q1,q2⟩
def wd (p:Int×Int):Int:=p.2-p.1
def Wst (bs:LI)(m:Int):Prop:=(∀p∈bs,wd p<=m)/\(bs=[]/\m=0\/∃p∈bs,m=wd p)
def suB (zero:Bool)(s:Int×Int):Bool:=if zero then decide (s.1=0)&&decide (s.2=0) else decide (0<=s.1)
def suS (ns:List Nd)(rows:List (Bool×Nat))(e:LI)(g:Int):Bool:=rows.all λr=>suB r.1 (gt (Zo e g ns) (r.2:Int))
def FOk (g fine:Int)(ns:List Nd)(rows:List (Bool×Nat))(e:LI):Ft->Prop
 | .out r vs=>∃row,rows[r]?=some row/\vs=Zo e g (ns.take (row.2+1))/\ibS ns row.1 row.2 e g=true
 | .full vs=>vs=Zo e g ns/\(∀row∈rows,ibS ns row.1 row.2 e g=false)/\suS ns rows e g=true
 | .one vs=>∃M,WV g e ns rows M/\vs=We g e ns rows M
 | .small=>(∀p∈e,wd p<=fine)/\(∀row∈rows,ibS ns row.1 row.2 e g=false)/\suS ns rows e g=false
 | _=>False
inductive Bks (g fine:Int)(ns:List Nd)(rows:List (Bool×Nat))(b0:LI):List LI->List Ft->Prop
 | new:Bks g fine ns rows b0 [b0] [.wait]
 | cut {es:List LI} {fs:List Ft} {i k:Nat} {e:LI} {s:Int×Int} {p:Int}:Bks g fine ns rows b0 es fs->fs[i]?=some .wait->es[i]?=some e->e[k]?=some s->s.1<p->p<s.2->
   Bks g fine ns rows b0 (es++[e.set k (s.1,p)]++[e.set k (p,s.2)]) ((fs++[Ft.wait]++[Ft.wait]).set i (.cut k p es.length (es.length+1)))
 | put {es:List LI} {fs:List Ft} {i:Nat} {e:LI} {f:Ft}:Bks g fine ns rows b0 es fs->fs[i]?=some .wait->es[i]?=some e->FOk g fine ns rows e f->Bks g fine ns rows b0 es (fs.set i f)
theorem Cm (h:Spn n e)(hp:p.1<=p.2/\Sz n p.1/\Sz n p.2):Spn n (e.set k p):=λq hq=>by
 rcases uI hq with z|rfl
 .exact h q z
 .exact hp
theorem Bks.ok (sb:Spn 51 b0)(h:Bks g fine ns rows b0 es fs):es.length=fs.length/\∀e∈es,e.length=b0.length/\Spn 51 e:=by
 induction h with
 | new=>exact⟨rfl,λe he=>by cases zH.mp he;exact⟨rfl,sb⟩⟩
 | @cut es fs i k e s p _ hw he hs h1 h2 ih=>
  obtain⟨l,a⟩:=ih;obtain⟨le,se⟩:=a e (zF he);have ss:=se s (zF hs)
  have zp:Sz 51 p:=Sz.mid ss.2.1 ss.2.2 () ();refine⟨by simp[l],λx hx=>?_⟩;rcases yI.mp hx with hx|hx
  .rcases yI.mp hx with hx|hx
   .exact a x hx
   .cases zH.mp hx;exact⟨by rw[yP];exact le,Cm se ⟨by show s.1<=p;lia,ss.2.1,zp⟩⟩
  .cases zH.mp hx;exact⟨by rw[yP];exact le,Cm se ⟨by show p<=s.2;lia,zp,ss.2.2⟩⟩
 | put _ _ _ _ ih=>exact⟨by rw[yP];exact ih.1,ih.2⟩
theorem Bks.shave {g fine:Int}{ns:List Nd}{rows:List (Bool×Nat)}{b0 e:LI}{es:List LI}{fs:List Ft}{j r:Nat}{row:Bool×Nat}{c:Ct}(h:Bks g fine ns rows b0 es fs)(l:es.length=fs.length)(hw:fs[j]?=some .wait)(he:es[j]?=some e)(hk:c.k<e.length)(hs:isS ns row.1 row.2 g e c=true)(hr:rows[r]?=some row):
  e[c.k]?=some (gt e (c.k:Int))/\
  (es++[e.set c.k ((gt e (c.k:Int)).1,c.p)]++[e.set c.k (c.p,(gt e (c.k:Int)).2)])[es.length+(if c.s then 1 else 0)]?=some (e.set c.k (c.off (gt e (c.k:Int))))/\
  ((fs++[Ft.wait]++[Ft.wait]).set j (.cut c.k c.p es.length (es.length+1)))[es.length+(if c.s then 1 else 0)]?=some .wait/\
  Bks g fine ns rows b0 (es++[e.set c.k ((gt e (c.k:Int)).1,c.p)]++[e.set c.k (c.p,(gt e (c.k:Int)).2)]) (((fs++[Ft.wait]++[Ft.wait]).set j (.cut c.k c.p es.length (es.length+1))).set (es.length+(if c.s then 1 else 0)) (.out r (Zo (e.set c.k (c.off (gt e (c.k:Int)))) g (ns.take (row.2+1)))))/\
  (es++[e.set c.k ((gt e (c.k:Int)).1,c.p)]++[e.set c.k (c.p,(gt e (c.k:Int)).2)])[es.length+(if c.s then 0 else 1)]?=some (ctP e c)/\
  (((fs++[Ft.wait]++[Ft.wait]).set j (.cut c.k c.p es.length (es.length+1))).set (es.length+(if c.s then 1 else 0)) (.out r (Zo (e.set c.k (c.off (gt e (c.k:Int)))) g (ns.take (row.2+1)))))[es.length+(if c.s then 0 else 1)]?=some .wait:=by
 have hek:e[c.k]?=some (gt e (c.k:Int)):=by
  have z:=zE hk;rw[z,XZ z]
 obtain⟨h1,h2⟩:=IU hs;have B:=h.cut hw he hek h1 h2
 have ib:ibS ns row.1 row.2 (e.set c.k (c.off (gt e (c.k:Int)))) g=true:=by
  unfold isS at hs;rw[xN] at hs;exact hs.2
 have lj:=(zB.mp hw).1;obtain⟨ck,cp,cs⟩:=c;cases cs with
 | true=>
  have e1:(es++[e.set ck ((gt e (ck:Int)).1,cp)]++[e.set ck (cp,(gt e (ck:Int)).2)])[es.length+1]?=some (e.set ck (cp,(gt e (ck:Int)).2)):=by simp
  have e2:(es++[e.set ck ((gt e (ck:Int)).1,cp)]++[e.set ck (cp,(gt e (ck:Int)).2)])[es.length]?=some (e.set ck ((gt e (ck:Int)).1,cp)):=by simp
  have f1:((fs++[Ft.wait]++[Ft.wait]).set j (.cut ck cp es.length (es.length+1)))[es.length+1]?=some .wait:=by
   rw[yC (),l];simp
  have f2:((fs++[Ft.wait]++[Ft.wait]).set j (.cut ck cp es.length (es.length+1)))[es.length]?=some .wait:=by
   rw[yC (),l];simp
  refine⟨hek,e1,f1,B.put f1 e1 ⟨row,hr,rfl,ib⟩,e2,?_⟩;rw[if_pos rfl,if_pos rfl,yC ()];exact f2
 | false=>
  have e1:(es++[e.set ck ((gt e (ck:Int)).1,cp)]++[e.set ck (cp,(gt e (ck:Int)).2)])[es.length+1]?=some (e.set ck (cp,(gt e (ck:Int)).2)):=by simp
  have e2:(es++[e.set ck ((gt e (ck:Int)).1,cp)]++[e.set ck (cp,(gt e (ck:Int)).2)])[es.length]?=some (e.set ck ((gt e (ck:Int)).1,cp)):=by simp
  have f1:((fs++[Ft.wait]++[Ft.wait]).set j (.cut ck cp es.length (es.length+1)))[es.length+1]?=some .wait:=by
   rw[yC (),l];simp
  have f2:((fs++[Ft.wait]++[Ft.wait]).set j (.cut ck cp es.length (es.length+1)))[es.length]?=some .wait:=by
   rw[yC (),l];simp
  refine⟨hek,e2,f2,B.put f2 e2 ⟨row,hr,rfl,ib⟩,e1,?_⟩;rw[if_neg zN,if_neg zN,yC ()];exact f1
structure Sr (S:Sto)(nd rw:Nat)(g:Int)(ns:List Nd)(ws:List Nat)(rows:List (Bool×Nat))(u:Nat):Prop where
 nd:S[nd]?=some (.lst (ns.map Nd.d))
 rw:S[rw]?=some (.lst (rows.map rwD))
 net:ZD u ns ws
 hg:1<=g/\g<=1000000
 l70:ns.length<=70
 rl:rows.length<=4
 ri:∀r∈rows,r.2<ns.length
 u1:1<=u/\u<=4
theorem Sr.pre {S T:Sto}{nd rw u:Nat}{g:Int}{ns:List Nd}{ws:List Nat}{rows:List (Bool×Nat)}(h:Sr S nd rw g ns ws rows u)(p:Pre S T):Sr T nd rw g ns ws rows u:=⟨p _ _ h.nd,p _ _ h.rw,h.net,h.hg,h.l70,h.rl,h.ri,h.u1⟩
def Apt (nd rw a b:Nat):Prop:=(nd≠a/\nd≠b)/\rw≠a/\rw≠b
theorem Sr.cg {S T:Sto}{nd rw u a b:Nat}{g:Int}{ns:List Nd}{ws:List Nat}{rows:List (Bool×Nat)}(h:Sr S nd rw g ns ws rows u)(p:Apt nd rw a b)(c:Cg a b S T):Sr T nd rw g ns ws rows u:=⟨c.2 _ _ p.1.1 p.1.2 h.nd,c.2 _ _ p.2.1 p.2.2 h.rw,h.net,h.hg,h.l70,h.rl,h.ri,h.u1⟩
theorem rww (b:Bool):rwW b (if b then "zero" else "least"):=by
 cases b
 .exact .inr ⟨rfl,rfl⟩
 .exact .inl ⟨rfl,rfl⟩
theorem BH {bs:LI}{cs:List Ct}{i:Nat}{c:Ct}(h:cs[i]?=some c):ctA bs (cs.take (i+1))=ctP (ctA bs (cs.take i)) c:=by
 rw[YG h,Ij]
def Shd (es:List LI)(j:Nat)(es':List LI)(j':Nat):Prop:=es.length<=es'.length/\(es'.length=es.length->es'=es/\j'=j)
def SA (S:Sto)(d:D):Ft->Prop
 | .wait=>d=.tup [.str "waits"]
 | f=>∃a b,Vk a b S d f
def En (T:Sto)(ds:List D)(es:List LI)(fs:List Ft):Prop:=ds.length=es.length/\es.length=fs.length/\∀(i:Nat)(e:LI)(f:Ft),es[i]?=some e->fs[i]?=some f->∃(m:Nat)(d:D),ds[i]?=some (.tup [.ref m,d])/\T[m]?=some (.lst (e.map frD))/\SA T d f
def waD:D->D
 | .non=>.tup [.str "waits"]
 | d=>d
def FX (x y:D):D:=.tup [x,waD y]
theorem Bk.told (h:Bk C S n a b es fs)(h1:S[a]?=some (.lst bs))(k1:S[b]?=some (.lst ds))(U:Sto):En (S++U) (List.zipWith FX bs ds) es fs:=by
 obtain⟨bs',h1',h2,h3⟩:=h.bx;rw[h1] at h1';cases h1'
 obtain⟨ds',k1',k2,k3⟩:=h.ft;rw[k1] at k1';cases k1'
 have ll:=h.len;refine⟨by rw[vN];lia,h.len,λi e f he hf=>?_⟩;obtain⟨m,m1,m2⟩:=h3 i e he;obtain⟨d,d1,d2⟩:=k3 i f hf;refine⟨m,waD d,by rw[vP,m1,d1];rfl,Zu m2.2.2,?_⟩;have d3:=d2.cg (T:=S++U) (.pre λx o e=>Zu e);cases f with
 | wait=>cases d2;rfl
 | small=>cases d2;exact⟨a,b,d3⟩
 | one _=>obtain⟨_,_,_,_,_,rfl,_⟩:=d2;exact⟨a,b,d3⟩
 | cut _ _ _ _=>cases d2;exact⟨a,b,d3⟩
 | out _ _=>obtain⟨_,rfl,_⟩:=d2;exact⟨a,b,d3⟩
 | full _=>obtain⟨_,rfl,_⟩:=d2;exact⟨a,b,d3⟩
theorem JZ (k:Nat)(v:Int):∀zs:List Int,∃o,Xo (eqN k) (zs.map D.int) (.int v)=some o
 | []=>⟨none,rfl⟩
 | z::zs=>by
  obtain⟨o,ho⟩:=JZ k v zs;have e:eqN k (.int z) (.int v)=some (decide (z=v)):=by cases k<;>rfl
  rw[yM];unfold Xo;rw[e,ho];cases decide (z=v)
  .exact⟨_,rfl⟩
  .exact⟨_,rfl⟩
theorem Hh {k:Nat}{v:Int}:∀ {zs:List Int},v∈zs->∃j,Xo (eqN k) (zs.map D.int) (.int v)=some (some j)/\zs[j]?=some v
 | z::zs,h=>by
  obtain⟨o,ho⟩:=JZ k v zs;have e:eqN k (.int z) (.int v)=some (decide (z=v)):=by cases k<;>rfl
  rw[yM];unfold Xo;rw[e];by_cases c:z=v
  .subst c;rw[decide_eq_true rfl,ho];exact⟨0,rfl,rfl⟩
  .have hm:v∈zs:=by
    rcases zS.mp h with q|q
    .exact absurd q.symm c
    .exact q
   obtain⟨j,h1,h2⟩:=Hh (k:=k) hm;rw[decide_eq_false c,h1];exact⟨j+1,rfl,h2⟩
theorem zh2 {k:Nat}{to:TDE}{t:TDA}{dl:Ev}{S S1:Sto}{Q:DK}{n:Nat}{zs:List Int}(R:Int->Sto->Prop)(hto:∀K:DK,K (.ref n) S1->to dl S K)(ht:∀K:List D->Sto->Prop,(∀v S2,R v S2->K [.int v] S2)->t dl S1 K)(h1:S1[n]?=some (.lst (zs.map D.int)))(hR:∀v S2,R v S2->S2[n]?=some (.lst (zs.map D.int))/\v∈zs)(hq:∀v S2 (j:Nat),R v S2->zs[j]?=some v->Q (.int (j:Int)) S2):Uk k to t dl S Q:=by
 unfold Uk;refine hto _ ⟨by rw[ZO h1 rfl];rfl,ht _ λv S2 r=>?_⟩;obtain⟨h2,hv⟩:=hR v S2 r;unfold Rt;dsimp only;rw[ZO h2 rfl];dsimp only[Zk];obtain⟨j,e1,e2⟩:=Hh (k:=k) hv;rw[e1];exact hq v S2 j r e2
theorem zcs {e:LI}{g:Int}{ns:List Nd}{k:Nat}(hk:k<ns.length):gt (Zo e g (ns.take (k+1))) (k:Int)=gt (Zo e g ns) (k:Int):=by
 rw[<- IE e g ns (k+1) (),QI ⟨(),()⟩]
theorem D5 (ns:List Nd)(e:LI)(g:Int):∀rows:List (Bool×Nat),YM ((rows.map rwD).map (λd=>match d with|.tup [.str w,.int at']=>.bl (suB (decide (w="zero")) (gt (Zo e g ns) at'))|_=>.non))=some (rows.map λr=>suB r.1 (gt (Zo e g ns) (r.2:Int)))
 | []=>rfl
 | (b,n)::rs=>by
  show (YM ((rs.map rwD).map _)).map _=_;rw[D5 ns e g rs];cases b<;>rfl
theorem ze5 (ns:List Nd)(e:LI)(g:Int):∀rows:List (Bool×Nat),((rows.map λr=>suB r.1 (gt (Zo e g ns) (r.2:Int))).all id)=suS ns rows e g:=λrows=>by
 unfold suS;rw[List.all_map];rfl
def Wz (bs:LI):Int:=(bs.map wd).sum
theorem QG:∀ {bs:LI},Spn 51 bs->0<=Wz bs/\Wz bs<=bs.length*2^52/\∀p∈bs,wd p<=Wz bs
 | [],_=>⟨zQ 0,⋯,λp hp=>(nomatch hp)⟩
 | p::bs,h=>by
  obtain⟨h1,h2,h3⟩:=QG (bs:=bs) λq hq=>h q (yB _ hq)
  obtain⟨a,b,c⟩:=h p (yL ..);have e:Wz (p::bs)=wd p+Wz bs:=rfl;unfold Sz at b c;have w0:0<=wd p:=by unfold wd;lia
  have w1:wd p<=2^52:=by unfold wd;lia
  rw[e];refine⟨(),by rw[zX];lia,λq hq=>?_⟩;rcases zS.mp hq with rfl|z
  .lia
  .have:=h3 q z;lia
theorem CC {tl td:TDE}{dl:Ev}{S S1 S2:Sto}{Q:DK}{n:Nat}{zs:List Int}{e:D}(htl:∀K:DK,K (.ref n) S1->tl dl S K)(htd:∀K:DK,K e S2->td dl S1 K)(h:S2[n]?=some (.lst (zs.map D.int)))(h0:zs=[]->Q e S2)(hq:∀m,m∈zs->(∀y∈zs,y<=m)->Q (.int m) S2):PZ tl td dl S Q:=by
 unfold PZ;refine htl _ (htd _ ?_);unfold UB;dsimp only;rw[ZO h rfl];exact⟨zs,Pk zs,h0,hq⟩
theorem zfz {caps:List Nat}{P:Addr}{lp:Pos}{q:Str}{tl te:TDE}{dl:Ev}{S S1:Sto}{Q:DK}{n t:Nat}{xs:List D}(htl:∀K:DK,K (.ref n) S1->tl dl S K)(ht:S1[t]?=some (.cod P lp q))(h:S1[n]?=some (.lst xs))(h0:xs=[]->Q .non S1)
  (hk:∀(v:D)(S2:Sto)(K:DK),v∈xs->Pre S1 S2->(∀(k:Int)(S3:Sto),Pre S2 S3->K (.int k) S3)->te (some v::Z8 caps dl) S2 K)(hq:∀(v:D)(S2:Sto),v∈xs->Pre S1 S2->Q v S2):Qd caps P lp q tl te dl S Q:=by
 unfold Qd;refine htl _ ?_;unfold Rj;refine⟨⟨t,ht⟩,?_⟩;rw[ZO h rfl];dsimp only[Zk];exact⟨h0,λi v S2 hv p=>hk v S2 _ (zF hv) p λk S3 p3=>⟨⟨k,rfl⟩,λx o e=>p3 _ _ (p _ _ e)⟩,λi v S2 hv p=>hq v S2 (zF hv) p⟩
theorem Bks.small (h:Bks g fine ns rows b0 es fs):es.length=fs.length/\∀(i:Nat)(e:LI)(f:Ft),es[i]?=some e->fs[i]?=some f->f=.wait\/(∃k p a b,f=.cut k p a b)\/FOk g fine ns rows e f:=by
 induction h with
 | new=>exact⟨rfl,λi e f he hf=>by
   match i,hf with
   | 0,hf=>cases hf;exact .inl rfl⟩
 | @cut es fs i k e s p _ hw he hs h1 h2 ih=>
  obtain⟨l,a⟩:=ih;have li:=(zB.mp hw).1;refine⟨by simp[l],λj x f hx hf=>?_⟩;by_cases c:j=i
  .subst c;rw[yU (by simp;lia)] at hf;cases hf;exact .inr (.inl ⟨_,_,_,_,rfl⟩)
  .rw[yC (Ne.symm c)] at hf;by_cases cj:j<fs.length
   .rw[yZ,zI cj] at hf;rw[yZ,zI ()] at hx;exact a j x f hx hf
   .left
    rcases Nh hf with z|⟨_,z⟩
    .rcases Nh z with z|⟨_,z⟩
     .exact absurd (zB.mp z).1 cj
     .exact z
    .exact z
 | @put es fs i e f _ hw he ok ih=>
  obtain⟨l,a⟩:=ih;have li:=(zB.mp hw).1;refine⟨by rw[yP];exact l,λj x f' hx hf=>?_⟩;by_cases c:j=i
  .subst c;rw[yU li] at hf;cases hf;rw[he] at hx;cases hx;exact .inr (.inr ok)
  .rw[yC (Ne.symm c)] at hf;exact a j x f' hx hf
theorem Sz.btw (h1:Sz B a)(h2:Sz B b)(h:(a<=p\/b<=p)/\(p<=a\/p<=b)):Sz B p:=by
 unfold Sz at *
 generalize 2^B=n at *
 lia
def Le (x:Int×Int)(a b:Int):Prop:=∀B,Sz B x.1->Sz B x.2->Sz B a/\Sz B b
theorem Di (h:0<b):t/b<=-(-t/b):=can (xA (VZ t h).1 (Ru t h).1) h
theorem Le.hull (h:Le x a b)(k:Le x c d):Le x (if c<a then c else a) (if d > b then d else b):=λB z1 z2=>by
 obtain⟨p,q⟩:=h B z1 z2;obtain⟨r,s⟩:=k B z1 z2;exact⟨by split<;>assumption,by split<;>assumption⟩
theorem Rb {p q r:Int×Int}(e:VL p q=some r):Le p r.1 r.2:=λB z1 z2=>by
 obtain⟨a,b,c⟩:=zdZ r e;exact⟨Sz.btw z1 z2 (),Sz.btw z1 z2 ()⟩
theorem zht {n x N:Int}(hn:2<=n)(hx:0<x)(hN:0<N):0<((n-1)*x+N/x^(n-1).toNat)/n:=by
 have k:n<=(n-1)*x+N/x^(n-1).toNat:=by
  by_cases c:x=1
  .subst c;rw[Int.one_pow,Int.ediv_one,xE];lia
  .have a:=vJ (show 2<=x by lia) (show 0<=n-1 by lia)
   have b:0<=N/x^(n-1).toNat:=uH () (vI (yD hx));lia
 have:=Int.le_ediv_of_mul_le (show 0<n by lia) (show 1*n<=_ by rw[vO];exact k);lia
theorem Bd.at (h:Bd B vs)(hi:inR vs.length i):Sz B (gt vs i).1/\Sz B (gt vs i).2:=h _ (KR hi)
theorem Bd.put {B:Nat}{vs:LI}(h:Bd B vs){k:Nat}{u:Int×Int}(hu:Sz B u.1/\Sz B u.2):Bd B (vs.set k u):=λp hp=>by
 rcases uI hp with e|e
 .exact h p e
 .subst e;exact hu
def Ptw (m:Int)(l:List (Int×(Int×Int))):Prop:=l.length<=2/\∀p∈l,inR m p.1/\Sz 1000 p.2.1/\Sz 1000 p.2.2
theorem zbm (hi:inR m i)(hj:inR m j)(h1:Sz 1000 a/\Sz 1000 b)(h2:Sz 1000 c/\Sz 1000 d):Ptw m [(i,a,b),(j,c,d)]:=⟨by simp,λp hp=>by
 simp only[zS,xU,or_false] at hp;rcases hp with rfl|rfl
 .exact⟨hi,h1⟩
 .exact⟨hj,h2⟩⟩
def ShOk (ns:List Nd)(zero:Bool)(k:Nat)(e:LI)(g:Int)(cs:List Ct)(o:Option LI):Prop:=(o=none->ibS ns zero k e g=true)/\cs.length<=2*e.length/\∀(i:Nat)(c:Ct),cs[i]?=some c->isS ns zero k g (ctA e (cs.take i)) c=true/\c.k<e.length
theorem HG (h:o=none->ibS ns zero k e g=true):ShOk ns zero k e g [] o:=⟨h,zZ _,λi c hc=>by simp at hc⟩
theorem ixT2 {L U i v:Int}{S:Sto}{Q:DK}(h:i=0/\v=L\/i=1/\v=U)(hq:Q (.int v) S):Yq wIx (.tup [.int L,.int U]) (.int i) S Q:=by
 rcases h with ⟨rfl,rfl⟩|⟨rfl,rfl⟩
 .exact KL (k:=0) rfl hq
 .exact KL (k:=1) rfl hq
theorem all_map {α:Type}{c:α->D}{P:α->Prop}:∀ {xs:List D},(∀d∈xs,∃x,d=c x/\P x)->∃r:List α,xs=r.map c/\∀x∈r,P x
 | [],_=>⟨[],rfl,λ_ h=>nomatch h⟩
 | d::xs,h=>by
  obtain⟨x,rfl,px⟩:=h d (by simp);obtain⟨r,rfl,pr⟩:=all_map (xs:=xs) λe he=>h e (by simp[he])
  exact⟨x::r,rfl,λy hy=>(zS.mp hy).elim (λz=>z ▸ px) (pr y)⟩
def RI (B q:Nat)(xs:List D):Prop:=∃r:List Int,xs=r.map D.int/\r.length=q/\∀x∈r,Sz B x
def RF (B q:Nat)(xs:List D):Prop:=∃r:LI,xs=r.map frD/\r.length=q/\Bd B r
def Mr (R:List D->Prop)(lo:Nat)(S:Sto)(ds:List D):Prop:=∀d∈ds,∃(a:Nat)(xs:List D),d=.ref a/\lo<=a/\S[a]?=some (.lst xs)/\R xs
theorem Mr.pre {R:List D->Prop}{lo:Nat}{S T:Sto}{ds:List D}(h:Mr R lo S ds)(p:Pre S T):Mr R lo T ds:=λd hd=>by
 obtain⟨a,xs,e,l,s,r⟩:=h d hd;exact⟨a,xs,e,l,p _ _ s,r⟩
theorem Mr.low {R:List D->Prop}{lo:Nat}{S:Sto}{ds:List D}(h:Mr R lo S ds):Mr R 0 S ds:=λd hd=>by
 obtain⟨a,xs,e,l,s,r⟩:=h d hd;exact⟨a,xs,e,zZ _,s,r⟩
theorem Mr.put {R:List D->Prop}{L b:Nat}{S:Sto}{ys xs:List D}{o:Ob}(h:Mr R (L+1) S ys)(hb:L<b)(e:S[b]?=some (.lst xs))(r:R xs):Mr R (L+1) (S.set L o) (ys++[.ref b]):=λd hd=>by
 rcases yI.mp hd with z|z
 .obtain⟨a,xs,e,l,s,r⟩:=h d z;exact⟨a,xs,e,l,Yp s (),r⟩
 .exact⟨b,xs,zH.mp z,hb,Yp e (),r⟩
theorem Fp {caps:List Nat}{tl te:TDE}{dl:Ev}{S T0:Sto}{Q:DK}{n:Nat}{ds:List D}(R R':List D->Prop)(htl:∀K:DK,K (.ref n) T0->tl dl S K)(hn:T0[n]?=some (.lst ds))(rows:Mr R 0 T0 ds)(hl:ds.length<=1000)
  (ht:∀(a:Nat)(xs:List D)(S2:Sto)(K:DK),R xs->S2[a]?=some (.lst xs)->(∀(S3:Sto)(b:Nat)(ys:List D),Pre S2 S3->S2.length<=b->S3[b]?=some (.lst ys)->R' ys->K (.ref b) S3)->te (some (.ref a)::Z8 caps dl) S2 K)
  (hq:∀(S2:Sto)(ys:List D),Pre T0 S2->S2[T0.length]?=some (.lst ys)->ys.length=ds.length->Mr R' 0 S2 ys->Q (.ref T0.length) S2):Xp caps tl YW te dl S Q:=by
 refine EA (S1:=T0) (n:=n) (o:=.lst ds) (λk ys S2=>Pre T0 S2/\S2[T0.length]?=some (.lst ys)/\ys.length=k/\Mr R' (T0.length+1) S2 ys) htl hn (λk ys S2 w=>⟨w.1 _ _ hn,w.2.1,w.2.2.1⟩) hl ⟨Pre.refl.push,Zq _ _,rfl,λ_ h=>nomatch h⟩ (λk x ys S2 K hx w hK=>?_) (λys S2 w=>hq S2 ys w.1 w.2.1 w.2.2.1 w.2.2.2.low);obtain⟨w1,w2,w3,w4⟩:=w;obtain⟨a,xs,rfl,_,ha,r⟩:=rows x (zF hx);refine ht a xs S2 K r (w1 _ _ ha) λS3 b zs p3 hb e3 r3=>?_
 have hlt:=Ye w2;exact hK _ S3 (p3 _ _ w2) ⟨EE (w1.trans p3) (zA _),YV (p3 _ _ w2),by simp[w3],(w4.pre p3).put () e3 r3⟩
theorem zbL {caps:List Nat}{ta:TDA}{te:TDE}{dl:Ev}{S T0:Sto}{Q:DK}{j:Nat}(R':List D->Prop)(hta:∀K:List D->Sto->Prop,K [.int (j:Int)] T0->ta dl S K)(hj:j<=1000)
  (ht:∀(k:Nat)(S2:Sto)(K:DK),k<j->Pre T0 S2->(∀(S3:Sto)(b:Nat)(ys:List D),Pre S2 S3->S2.length<=b->S3[b]?=some (.lst ys)->R' ys->K (.ref b) S3)->te (some (.int (k:Int))::Z8 caps dl) S2 K)
  (hq:∀(S2:Sto)(ys:List D),Pre T0 S2->S2[T0.length]?=some (.lst ys)->ys.length=j->Mr R' 0 S2 ys->Q (.ref T0.length) S2):Wg caps ta YW te dl S Q:=by
 refine Cs (S1:=T0) (j:=(j:Int)) (λk ys S2=>Pre T0 S2/\S2[T0.length]?=some (.lst ys)/\ys.length=k/\Mr R' (T0.length+1) S2 ys) hta () (λk ys S2 w=>⟨w.2.1,w.2.2.1⟩) ⟨Pre.refl.push,Zq _ _,rfl,λ_ h=>nomatch h⟩ (λk ys S2 K hk w hK=>?_) (λys S2 w=>hq S2 ys w.1 w.2.1 w.2.2.1 w.2.2.2.low);obtain⟨w1,w2,w3,w4⟩:=w;refine ht k S2 K () w1 λS3 b zs p3 hb e3 r3=>?_
 have hlt:=Ye w2;exact hK _ S3 (p3 _ _ w2) ⟨EE (w1.trans p3) (zA _),YV (p3 _ _ w2),by simp[w3],(w4.pre p3).put () e3 r3⟩
theorem Gn {P:D->Prop}{ys:List D}{d:D}(h:∀y∈ys,P y)(hd:P d):∀y∈ys++[d],P y:=λy hy=>(yI.mp hy).elim (h y) λz=>zH.mp z ▸ hd
theorem zbP {caps:List Nat}{ta:TDA}{te:TDE}{dl:Ev}{S S1:Sto}{Q:DK}{j:Nat}(P:D->Prop)(hta:∀K:List D->Sto->Prop,K [.int (j:Int)] S1->ta dl S K)(hj:j<=1000)
  (ht:∀(k:Nat)(S2:Sto)(K:DK),k<j->Pre S1 S2->(∀d,P d->K d S2)->te (some (.int (k:Int))::Z8 caps dl) S2 K)(hq:∀xs:List D,xs.length=j->(∀d∈xs,P d)->Q (.ref S1.length) (S1++[.lst xs])):Wg caps ta YW te dl S Q:=
 Cs (S1:=S1) (j:=(j:Int)) (λk ys S2=>S2=S1++[.lst ys]/\ys.length=k/\∀d∈ys,P d) hta () (λk ys S2 w=>by obtain⟨rfl,w⟩:=w;exact⟨Zq _ _,w.1⟩) ⟨rfl,rfl,λ_ h=>nomatch h⟩ (λk ys S2 K hk w hK=>by
  obtain⟨rfl,w2,w3⟩:=w;exact ht k _ K () Pre.refl.push λd hd=>hK d _ (Zq _ _) ⟨WD _ _ _,by simp[w2],Gn w3 hd⟩) (λys S2 w=>by obtain⟨rfl,w⟩:=w;exact hq ys w.1 w.2)
theorem zaB {caps:List Nat}{ta:TDA}{te:TDE}{dl:Ev}{S S1:Sto}{Q:DK}{n:Nat}{xs:List D}(P:D->Prop)(hta:∀K:List D->Sto->Prop,K [.ref n] S1->ta dl S K)(h1:S1[n]?=some (.lst xs))(hl:xs.length<=900)
  (ht:∀(k:Nat)(x:D),xs[k]?=some x->∀(S2:Sto)(K:DK),Pre S1 S2->(∀d,P d->K d S2)->te (some (.int (k:Int))::some x::Z8 caps dl) S2 K)(hq:∀ys:List D,ys.length=xs.length->(∀d∈ys,P d)->Q (.ref S1.length) (S1++[.lst ys])):WY caps ta YW te dl S Q:=
 MM (n:=n) (xs:=xs) (S1:=S1) (λk ys S2=>S2=S1++[.lst ys]/\ys.length=k/\∀d∈ys,P d) (λ_ _=>true) hta h1 (λk ys S2 w=>by obtain⟨rfl,w,_⟩:=w;exact⟨Zu h1,Zq _ _,()⟩) hl ⟨rfl,rfl,λ_ h=>nomatch h⟩ (λk x ys S2 K hx w hK=>by exact hK) (λk x ys S2 hx hb=>by cases hb) (λk x ys S2 K hx _ w hK=>by
  obtain⟨rfl,w2,w3⟩:=w;exact ht k x hx _ K Pre.refl.push λd hd=>hK d _ (Zq _ _) ⟨WD _ _ _,by simp[w2],Gn w3 hd⟩) (λys S2 w=>by obtain⟨rfl,w⟩:=w;exact hq ys w.1 w.2)
theorem Mr.cut (h:Mr (RI B q) 0 S ds):Mr (RI B q) 0 S (ds.take i++ds.drop (i+1)):=λd hd=>h d ((yI.mp hd).elim tK tL)
theorem B7 (hj:j<=n)(h:RI B (n+1) xs):RI B n (xs.take j++xs.drop (j+1)):=by
 obtain⟨r,rfl,l,z⟩:=h;exact⟨r.take j++r.drop (j+1),by rw[xI,wW,List.map_drop],by simp;lia,λx hx=>z x ((yI.mp hx).elim tK tL)⟩
theorem AE (h:Sz (3121+20+20) t)(hw:w≠0):Sz 3200 (t.fdiv w):=by
 have a:=zgY t w hw
 have b:t.natAbs<2^3161:=h
 have c:(2:Nat)^3200=2^3161*2^39:=by rw[<- vG]
 show (t.fdiv w).natAbs<2^3200;rw[c];generalize 2^3161=n at *
 lia
theorem BS {caps:List Nat}{ta:TDA}{te:TDE}{dl:Ev}{S S1:Sto}{Q:DK}{n:Nat}{xs:List D}(f:Nat->D->D)(hta:∀K:List D->Sto->Prop,K [.ref n] S1->ta dl S K)(h1:S1[n]?=some (.lst xs))(hl:xs.length<=900)
  (ht:∀(k:Nat)(x:D),xs[k]?=some x->∀(S2:Sto)(K:DK),Pre S1 S2->K (f k x) S2->te (some (.int (k:Int))::some x::Z8 caps dl) S2 K)(hq:Q (.ref S1.length) (S1++[.lst (xs.mapIdx f)])):WY caps ta YW te dl S Q:=
 MM (n:=n) (xs:=xs) (S1:=S1) (λk ys S2=>S2=S1++[.lst ys]/\ys=(xs.take k).mapIdx f) (λ_ _=>true) hta h1 (λk ys S2 w=>by obtain⟨rfl,rfl⟩:=w;exact⟨Zu h1,Zq _ _,by rw[tM,zO];lia⟩) hl ⟨rfl,rfl⟩ (λk x ys S2 K hx w hK=>by exact hK) (λk x ys S2 hx hb=>by cases hb) (λk x ys S2 K hx _ w hK=>by
  obtain⟨rfl,rfl⟩:=w;have lk:=(zB.mp hx).1;exact ht k x hx _ K Pre.refl.push (hK _ _ (Zq _ _) ⟨WD _ _ _,by rw[YG hx,List.mapIdx_concat,zO,uJ ()]⟩)) (λys S2 w=>by
  obtain⟨rfl,rfl⟩:=w;rw[yE];exact hq)
theorem G3 {B q:Nat}{S:Sto}:∀ {ds:List D},Mr (RI B q) 0 S ds->∃M:List (List Int),F6 S ds M/\∀r∈M,r.length=q/\∀x∈r,Sz B x
 | [],_=>⟨[],⟨rfl,λk d r h=>by simp at h⟩,λr h=>nomatch h⟩
 | d::ds,h=>by
  obtain⟨M,⟨l,m1⟩,m2⟩:=G3 (ds:=ds) λx hx=>h x (yB _ hx)
  obtain⟨a,_,rfl,_,ha,r,rfl,lr,zr⟩:=h d (yL ..);refine⟨r::M,⟨by rw[zX,zX,l],λk d' r' hd hr=>?_⟩,λr' hr=>(zS.mp hr).elim (λe=>e ▸ ⟨lr,zr⟩) (m2 r')⟩;cases k with
  | zero=>cases hd;cases hr;exact⟨a,rfl,ha⟩
  | succ k=>exact m1 k d' r' hd hr
theorem zeV {B q:Nat}{S:Sto}{ds:List D}{R:List LI}(h:Z9 S 0 ds R)(hr:∀r∈R,r.length=q/\Bd B r):Mr (RF B q) 0 S ds:=λd hd=>by
 obtain⟨k,hk,rfl⟩:=yV.mp hd;have e:=zE (show k<R.length by rw[<- h.1];exact hk);obtain⟨a,ea,_,sa⟩:=h.2 k _ _ (zE hk) e;exact⟨a,_,ea,zZ _,sa,_,rfl,hr _ (zF e)⟩
section
variable {X:Cx}{Z:Zx}{pos:Pos}
def Ol (d y:D)(S:Sto)(Q:DK):Prop:=match d with
 | .ref n=>match lAt S n with
  | some o=>(∀z∈Zk o,∃c,eqN 0 z y=some c)/\Q (.int (((Zk o).countP λz=>eqN 0 z y==some true:Nat):Int)) S
  | none=>False
 | _=>False
theorem F4 {α β:Type}{p:α->Bool}{q:β->Bool}:∀ {xs:List α} {ys:List β},xs.length=ys.length->(∀(m:Nat)(x:α)(y:β),xs[m]?=some x->ys[m]?=some y->p x=q y)->xs.countP p=ys.countP q
 | [],[],_,_=>rfl
 | [],y::ys,h,_=>by simp at h
 | x::xs,[],h,_=>by simp at h
 | x::xs,y::ys,h,f=>by
  rw[xB,xB,F4 (by simpa using h) (λm x y hx hy=>f (m+1) x y hx hy),f 0 x y rfl rfl]
theorem zbh {pins:LA}{σ:L3.St}{H:Hp}{s:Shared}{r:List Addr}{A:Around}{ds:List D}{vs:List V}{us:List Value}{dx:D}{x:V}{u:Value}(I:Inv X pins σ H s)(hu:A.units+0<cLine)
  (p:Rps r H ds vs)(rv:Zv vs us)(px:Rp r H dx x)(rx:Zw x u)(h1:∀z∈ds,∃c,eqN 0 z dx=some c):∃g:Value->Bool,(∀y,y∈us.toArray->SeqAt.EqAt A s y u (g y))/\us.countP g=ds.countP λz=>eqN 0 z dx==some true:=by
 classical
 have at_:∀(m:Nat)(hm:m<us.length),∃d v,ds[m]?=some d/\Rp r H d v/\Zw v us[m]:=λm hm=>by
  have hv:m<vs.length:=by rw[rv.length];exact hm
  have gv:vs[m]?=some vs[m]:=by simp[hv]
  obtain⟨w,gw,rw'⟩:=rv.get gv;obtain⟨d,gd,pd⟩:=p.get' gv;have ew:w=us[m]:=by
   rw[zE hm] at gw;exact(Option.some.inj gw).symm
  subst ew;exact⟨d,_,gd,pd,rw'⟩
 have val:∀(m:Nat)(hm:m<us.length)(d:D)(c:Bool),ds[m]?=some d->eqN 0 d dx=some c->decide (∃d v,d∈ds/\Rp r H d v/\Zw v us[m]/\eqN 0 d dx=some true)=c:=λm hm d c hd hc=>by
  obtain⟨d',v',gd,pd,rd⟩:=at_ m hm;rw[hd] at gd;cases gd
  cases c with
  | true=>exact decide_eq_true ⟨d,v',zF hd,pd,rd,hc⟩
  | false=>
   refine decide_eq_false λ⟨d2,v2,_,pd2,rd2,hc2⟩=>?_
   have ev:=Lh rd rd2;subst ev;exact absurd (Ph 0 d d2 dx v' false true pd pd2 hc hc2) ⋯
 refine⟨λy=>decide (∃d v,d∈ds/\Rp r H d v/\Zw v y/\eqN 0 d dx=some true),λy hy=>?_,?_⟩
 .have hy':y∈us:=by simpa using hy
  obtain⟨m,hm,rfl⟩:=yV.mp hy';obtain⟨d,v,gd,pd,rd⟩:=at_ m hm;obtain⟨c,hc⟩:=h1 d (zF gd);show SeqAt.EqAt A s us[m] u (decide _);rw[val m hm d c gd hc];exact Us 0 X pins σ H s r A d dx v x _ u c I hu pd px rd rx hc
 .refine F4 (by rw[<- rv.length,<- p.1]) λm y d hy hd=>?_
  have hm:=(zB.mp hy).1
  have ey:us[m]=y:=by
   rw[zE hm] at hy;exact Option.some.inj hy
  obtain⟨c,hc⟩:=h1 d (zF hd);have z:=val m hm d c hd hc;rw[ey] at z;rw[hc];exact z.trans (by cases c<;>rfl)
@[irreducible] def QF (to:TDE)(t:TDA):TDE:=λdl S Q=>to dl S λd S1=>(match d with
 | .ref n=>(lAt S1 n).isSome=true/\t dl S1 λds S2=>match ds with
  | [y]=>Ol d y S2 Q
  | _=>False
 | _=>False)
theorem zaJ {j:Nat}(hr:ZF j X.A):MtR X "list.count" (λx xs H Qv=>∃(r:List Addr)(S:Sto)(d y:D)(v:V)(Q:DK),Rel X.K Z r S H/\Rp r H d x/\xs=[v]/\Rp r H y v/\Ol d y S Q/\Ret X.K Z r H Q Qv):=by
 intro pins s σ H x xs v us Qv I rx rv h;obtain⟨r,S,d,y,v1,Q,aZ,pd,rfl,py,q,ret⟩:=h;obtain⟨u,rfl,ru⟩:=XC rv;unfold Ol at q;split at q
 .rename_i n;split at q
  .rename_i o eo;obtain⟨eo,eL⟩:=Yy eo;obtain⟨h1,q⟩:=q;cases pd with
   | @ref n a hn=>
    cases rx;obtain⟨a',ha,ob⟩:=aZ.at eo;rw[hn] at ha;cases ha
    obtain⟨ys,sq,pr⟩:=ob.list eL;obtain⟨aX,ri,pl,hz⟩:=I.list sq;have hun:=hr.un;obtain⟨g,g1,g2⟩:=zbh (A:=X.A.in1) I (by show X.A.units+1+0<_;lia) pr ri py ru h1;obtain⟨ob2,m,e,c,hd,hdat⟩:=pl;obtain⟨oc,od,odat,osl⟩:=ob2;have c':oc=.type "list":=c
    have hdat':odat=.seq aX.toArray m:=hdat;subst c' hdat';refine call_meets PySem.F.slot_list_count ⟨_,e,rfl⟩ PySem.F.entry_list_count (PySem.F.args_list_count_2 _ _) (PySem.SeqAt.list_countAt a aX.toArray m od osl u g) ⟨e,g1,?_⟩;have e2:(aX.toArray.toList.countP g:Nat)=(Zk o).countP λz=>eqN 0 z y==some true:=by rw[<- g2]
    rw[e2];exact⟨.int _,H,I.tok _,⟨_,rfl⟩,ret _ H r (.int _) S Ext.refl aZ (.int _) q⟩
  .exact q.elim
 .exact q.elim
theorem Kj {j:Nat}{o e:Expr}{to:TDE}{t:TDA}{aJ aH:Pos}(hr:ZF j X.A)(ho:PD X Z o to)(ha:PDA X Z [e] t)(hbase:attributeBase o "count" X.env (eval o X.env)=eval o X.env:=by rfl)
  (hfew:((backTo aH (starEach [e] X.env)).all (λx=>!x.1)&&(backToKw aH (keywordEach [] X.env)).all (λx=>x.1.isSome)
  &&decide ([e].length+([]:List Keyword).length+(if ([]:List Keyword).isEmpty then 0 else 1)<30))=true:=by rfl)
  (hline:(aJ.endLine==aH.line)=true:=by rfl)(hs:starEach [e] X.env=(false,eval e X.env)::starEach [] X.env:=by rfl)(hplain:(backTo aH (starEach [] X.env)).any (·.1)=false:=by rfl):
  PD X Z (.Call (.Attribute o "count" aJ) [e] [] aH) (QF to t):=
 Yc (MF (T:="list") PySem.F.plainAttrs_list PySem.F.slot_list_count PySem.F.type_list_count (zaJ (Z:=Z) hr) ho ha hbase hfew hline hs hplain) λσ H Qv ⟨r,dl,S,Q,rs,aZ,h,ret⟩=>by
  unfold QF at h;refine⟨r,dl,S,_,rs,aZ,h,λv H1 r1 d S1 e1 aB p1 q1=>?_⟩;cases p1 with
  | @ref n a hn=>
   obtain⟨aQ,q1⟩:=q1;obtain⟨o1,eo⟩:=yY.mp aQ;obtain⟨eo,eL⟩:=Yy eo;obtain⟨a',ha',ob⟩:=aB.at eo;rw[hn] at ha';cases ha'
   obtain⟨xs,sq,_⟩:=ob.list eL;refine⟨.inl ⟨rfl,xs,sq⟩,r1,dl,S1,_,rs.ext e1,aB,q1,λvs H2 r2 ds S2 e2 aC p2 q2=>?_⟩;split at q2
   .rename_i y;obtain⟨v2,vs',rfl,p3,p4⟩:=p2.uncons;have z:=p4.unnil;subst z;exact⟨r2,S2,.ref n,y,v2,Q,aC,.ref (e2.adr _ _ hn),rfl,p3,q2,ret.ext (e1.trans e2)⟩
   .exact q2.elim
  | _=>exact(show False from q1).elim
end
theorem zhp (w:Str)(ws:List Str):(ws.map D.str).countP (λz=>eqN 0 z (.str w)==some true)=ws.countP (·==w):=by
 rw[List.countP_map];congr 1;funext a;show (some (decide (a=w))==some true)=(a==w);by_cases e:a=w
 .rw[decide_eq_true e,e];simp
 .rw[decide_eq_false e];have z:(a==w)=false:=by simpa using e
  rw[z];rfl
theorem RR {to:TDE}{t:TDA}{dl:Ev}{S S1:Sto}{Q:DK}{n:Nat}{ws:List Str}{w:Str}(hto:∀K:DK,K (.ref n) S1->to dl S K)(h:S1[n]?=some (.lst (ws.map D.str)))(ht:∀K:List D->Sto->Prop,K [.str w] S1->t dl S1 K)(hq:Q (.int ((ws.countP (·==w):Nat):Int)) S1):QF to t dl S Q:=by
 unfold QF;refine hto _ ⟨by rw[ZO h rfl];rfl,ht _ ?_⟩;unfold Ol;simp only[ZO h rfl,Zk];refine⟨λz hz=>?_,?_⟩
 .obtain⟨a,_,rfl⟩:=zL.mp hz;exact⟨decide (a=w),rfl⟩
 .rw[zhp];exact hq
abbrev LP2:=LI
def Nn (ps:LI):Prop:=∀p∈ps,1<=p.2/\Int.gcd p.1 p.2=1/\p.1.natAbs<=999999999/\p.2<=999999999
def Fw:Ft->Str
 | .wait=>"waits"
 | .small=>"small"
 | .one _=>"one"
 | .cut _ _ _ _=>"cut"
 | .out _ _=>"out"
 | .full _=>"full"
theorem Nn.gd {ps:LI}(h:Nn ps):Gd 110 ps:=λp hp=>by
 obtain⟨a,b,c,d⟩:=h p hp;exact⟨a,b,(Sz.of (n:=31) (10^9) ()).mono ⋯,(Sz.of (n:=31) (10^9) ()).mono ⋯⟩
def inB (g:Int)(s a:Int×Int):Bool:=decide (s.1*a.2<=a.1*g)&&decide (a.1*g<=s.2*a.2)
def rt (p:Int×Int):Rat:=(p.1:Rat)/(p.2:Rat)
theorem Og {v p:Int×Int}{g:Int}(hb:1<=p.2)(h:v.1*p.2<=p.1*g/\p.1*g<=v.2*p.2):In v (g*rt p):=by
 have e:(g:Rat)*rt p=((p.1*g:Int):Rat)/(p.2:Rat):=by unfold rt;rw[Rat.intCast_mul];grind
 rw[e];exact⟨IX hb h.1,Il hb h.2⟩
theorem ra1 {A P B R:Rat}(hP:P≠0)(hR:R≠0):A/P-B/R=(A*R-B*P)/(P*R):=by grind
theorem ra2 {H M a b c d:Rat}(hM:M≠0)(hb:b≠0)(hd:d≠0):H/M*(a/b-c/d)=(a*d-c*b)*H/(M*(b*d)):=by grind
theorem rne {x:Int}(h:1<=x):(x:Rat)≠0:=λe=>by
 have:=Rat.intCast_inj.mp (show (x:Rat)=((0:Int):Rat) from e);lia
def Dr (q:Nat)(D:Nat->Rat)(g:Rat)(u w:Rat)(row:Nat->Int×Int):Prop:=∃S:Nat->Rat,(∀l,l<q->In (row l) (S l))/\g*(u-w)=Zp q λl=>S l*D l
section
variable {q:Nat}{D:Nat->Rat}{g:Int}{a b c e:Rat}{r t:Nat->Int×Int}{v w:Int×Int}
theorem zgW (h1:Dr q D g a c r)(h2:Dr q D g b e t):Dr q D g (a+b) (c+e) λl=>W9 (r l) (t l):=by
 obtain⟨S,i,x⟩:=h1;obtain⟨T,j,y⟩:=h2;refine⟨λl=>S l+T l,λl hl=>(i l hl).add (j l hl),?_⟩;have z:=TZ (λl=>S l*D l) (λl=>T l*D l) q;rw[<- x,<- y] at z;rw[show (g:Rat)*(a+b-(c+e))=g*(a-c)+g*(b-e) by grind,<- z];exact Y4 q λl _=>by grind
theorem CK (h1:Dr q D g a c r)(h2:Dr q D g b e t):Dr q D g (a-b) (c-e) λl=>YC (r l) (t l):=by
 obtain⟨S,i,x⟩:=h1;obtain⟨T,j,y⟩:=h2;refine⟨λl=>S l-T l,λl hl=>(i l hl).take (j l hl),?_⟩;have z:=K4 1 (-1) (λl=>S l*D l) (λl=>T l*D l) q;rw[<- x,<- y] at z;rw[show (g:Rat)*(a-b-(c-e))=1*(g*(a-c)) + -1*(g*(b-e)) by grind,<- z];exact Y4 q λl _=>by grind
theorem zh4 (hg:1<=g)(va:In v (g*a))(we:In w (g*e))(h1:Dr q D g a c r)(h2:Dr q D g b e t):Dr q D g (a*b) (c*e) λl=>W9 (Z6 v (t l) g) (Z6 w (r l) g):=by
 obtain⟨S,i,x⟩:=h1;obtain⟨T,j,y⟩:=h2;have gp:(0:Rat)<(g:Rat):=Rat.intCast_pos.mpr ();refine⟨λl=>g*a*T l/g+g*e*S l/g,λl hl=>(va.mul hg (j l hl)).add (we.mul hg (i l hl)),?_⟩;have z:=K4 a e (λl=>T l*D l) (λl=>S l*D l) q;rw[<- x,<- y] at z;rw[show (g:Rat)*(a*b-c*e)=a*(g*(b-e))+e*(g*(a-c)) by grind,<- z];exact Y4 q λl _=>by grind
theorem zgX {p r:Int×Int}{n:Int}(hg:1<=g)(n2:2<=n)(hp:1<=p.2)(hr:1<=r.2)(h1:v.1*p.2<=p.1*g/\p.1*g<=v.2*p.2)(h2:v.1*r.2<=r.1*g/\r.1*g<=v.2*r.2):∃s:Rat,In (Yu v n g) (g*s)/\rt (p.1^n.toNat,p.2^n.toNat)-rt (r.1^n.toNat,r.2^n.toNat)=s*(rt p-rt r):=by
 obtain⟨m,hm⟩:∃m,n.toNat=m+1:=⟨n.toNat-1,()⟩;have hN:1<=p.2*r.2:=xW () ()
 have sc:∀ {x y z:Int},1<=z->x<=y->x*z<=y*z:=λ{x y z} hz h=>zK h ()
 have f:=zcQ (v:=v) (x:=p.1*r.2) (y:=r.1*p.2) hg hN n2 (by rw[<- xO,xP p.1];exact sc hr h1.1) (by rw[<- xO,xP p.1];exact sc hr h1.2) (by rw[yN p.2,<- xO,xP r.1];exact sc hp h2.1) (by rw[yN p.2,<- xO,xP r.1];exact sc hp h2.2)
 have k:=Rq (p.1*r.2) (r.1*p.2) n.toNat
 have hM:1<=(p.2*r.2)^m:=yD ();rw[hm] at f k ⊢;rw[uE] at f;generalize hs (m+1) (p.1*r.2) (r.1*p.2)=H at f k;refine⟨(H:Rat)/(((p.2*r.2)^m:Int):Rat),?_,?_⟩
 .have e:(g:Rat)*((H:Rat)/(((p.2*r.2)^m:Int):Rat))=((H*g:Int):Rat)/(((p.2*r.2)^m:Int):Rat):=by rw[Rat.intCast_mul,Rat.div_def,Rat.div_def,<- Rat.mul_assoc,Rat.mul_comm (g:Rat)]
  rw[e];exact⟨IX hM f.1,Il hM f.2⟩
 .have eM:(p.2*r.2)^m*(p.2*r.2)=p.2^(m+1)*r.2^(m+1):=by rw[<- zV,yW]
  rw[yW,yW] at k;have b1:1<=p.2^(m+1):=yD ()
  have b2:1<=r.2^(m+1):=yD ();unfold rt;dsimp only;generalize (p.2*r.2)^m=M at *
  generalize p.2^(m+1)=P at *
  generalize r.2^(m+1)=R at *
  generalize p.1^(m+1)=A at *
  generalize r.1^(m+1)=B at *
  have k':=congrArg (λ(z:Int)=>(z:Rat)) k
  have e':=congrArg (λ(z:Int)=>(z:Rat)) eM;simp only[Rat.intCast_mul,Rat.intCast_sub] at k' e';rw[ra1 (rne b1) (rne b2),ra2 (rne hM) (rne hp) (rne hr),k',e']
theorem zc8 {p r':Int×Int}{n:Int}(hg:1<=g)(n2:2<=n)(hp:1<=p.2)(hr:1<=r'.2)(h1:v.1*p.2<=p.1*g/\p.1*g<=v.2*p.2)(h2:v.1*r'.2<=r'.1*g/\r'.1*g<=v.2*r'.2)(h:Dr q D g (rt p) (rt r') r):Dr q D g (rt (p.1^n.toNat,p.2^n.toNat)) (rt (r'.1^n.toNat,r'.2^n.toNat)) λl=>Z6 (Yu v n g) (r l) g:=by
 obtain⟨S,i,x⟩:=h;obtain⟨s,f1,f2⟩:=zgX hg n2 hp hr h1 h2;have gp:(0:Rat)<(g:Rat):=Rat.intCast_pos.mpr ();refine⟨λl=>g*s*S l/g,λl hl=>f1.mul hg (i l hl),?_⟩;have z:=X6 s (λl=>S l*D l) q;rw[<- x] at z;rw[f2,show (g:Rat)*(s*(rt p-rt r'))=s*(g*(rt p-rt r')) by grind,<- z];exact Y4 q λl _=>by grind
theorem XY {p r:Int×Int}(hp:1<=p.2)(hr:1<=r.2):rt (p.1*r.2+r.1*p.2,p.2*r.2)=rt p+rt r/\rt (p.1*r.2-r.1*p.2,p.2*r.2)=rt p-rt r/\rt (p.1*r.1,p.2*r.2)=rt p*rt r:=by
 have z1:(0:Rat)<(p.2:Rat):=Rat.intCast_pos.mpr ()
 have z2:(0:Rat)<(r.2:Rat):=Rat.intCast_pos.mpr ();unfold rt;simp only[Rat.intCast_mul,Rat.intCast_add,Rat.intCast_sub];refine⟨?_,?_,?_⟩<;>grind
theorem Fi (h:Dr q D g a c r)(k:∀l,l<q->r l=t l):Dr q D g a c t:=by
 obtain⟨S,i,x⟩:=h;exact⟨S,λl hl=>k l hl ▸ i l hl,x⟩
end
theorem zd1 {q:Nat}{ns:List Nd}{ws:List Nat}{bs ps rs:LI}{g:Int}(h:ZD q ns ws)(hb:q=bs.length)(hp:q=ps.length)(hr:q=rs.length)(hg:1<=g)(ip:InW g bs ps)(ir:InW g bs rs)(zp:Pz 110 ps)(zr:Pz 110 rs):
  ∀k:Nat,k<=ns.length->∀i:Int,inR k i->Dr q (λl=>rt (gt ps (l:Int))-rt (gt rs (l:Int))) g (rt (gt (Zt ps (ns.take k)) i)) (rt (gt (Zt rs (ns.take k)) i)) λl=>gs (ZT (Zo bs g ns) g q (ns.take k)) i l:=by
 intro k
 induction k with
 | zero=>intro _ i hi;exact absurd hi.2 (by have:=hi.1;lia)
 | succ k ih=>
  intro hk i hi;have hv:ns[k]?=some ns[k]:=zE ();obtain⟨ok,_⟩:=h.ok k _ hv;have l3:(ZT (Zo bs g ns) g q (ns.take k)).length=k:=by rw[UC,zO];lia
  have ln:∀ps,(Zt ps (ns.take k)).length=k:=λps=>by rw[Xf,zO];lia
  rw[YG hv,WN,WN,Q5];by_cases c:i<k
  .rw[R9 (by rw[ln];exact⟨hi.1,c⟩),R9 (by rw[ln];exact⟨hi.1,c⟩)];exact Fi (ih () i ⟨hi.1,c⟩) λl _=>(zci (by rw[l3];exact⟨hi.1,c⟩)).symm
  .have e:i=k:=by have:=hi.2;lia
   subst e;rw[Rl (ln _),Rl (ln _)];have pos:∀ {ps},q=ps.length->Pz 110 ps->∀j:Int,inR k j->1<=(gt (Zt ps (ns.take k)) j).2:=λ{ps} hp zp j hj=>(Pz.at (B:=1800) (Pz.of_w (SO h (by rw[hp]) zp k ()) λj hj=>(h.w1 (i:=j) ⟨(),by rw[ln] at hj;lia⟩).2) (by rw[ln];exact hj)).1
   have isin:∀ {ps},q=ps.length->Pz 110 ps->InW g bs ps->∀j:Int,inR k j->(gt (Zo bs g ns) j).1*(gt (Zt ps (ns.take k)) j).2<=(gt (Zt ps (ns.take k)) j).1*g/\(gt (Zt ps (ns.take k)) j).1*g<=(gt (Zo bs g ns) j).2*(gt (Zt ps (ns.take k)) j).2:=λ{ps} hp zp ip j hj=>by
    rw[<- QI hj,IE bs g ns k ()];exact R5 h (by rw[hb]) (by rw[hp]) hg ip zp k () j (by rw[ln];exact hj)
   have p1:=pos hp zp
   have p2:=pos hr zr
   have i1:=isin hp zp ip
   have i2:=isin hr zr ir
   have ih':=ih ();refine Fi (r:=λl=>(ns[k]).sl (Zo bs g ns) (ZT (Zo bs g ns) g q (ns.take k)) g l) ?_ λl hl=>by rw[zdF l3,BQ hl]
   clear hv ih;generalize ns[k]=v at ok;cases v with
   | number t b=>exact⟨λ_=>0,λ_ _=>⟨Rat.le_refl,Rat.le_refl⟩,by
     show (g:Rat)*(rt (t,b)-rt (t,b))=_;rw[Rat.sub_self,Rat.mul_zero];have z:=X6 0 (λl=>rt (gt ps (l:Int))-rt (gt rs (l:Int))) q;rw[Rat.zero_mul] at z;exact z.symm⟩
   | unknown j=>
    obtain⟨j0,j1⟩:=ok;obtain⟨j,rfl⟩:=Int.eq_ofNat_of_zero_le j0;refine⟨λl=>g*(if j=l then 1 else 0),λl _=>?_,?_⟩
    .show In (if (l:Int)=(j:Int) then (g,g) else (0,0)) (g*(if j=l then 1 else 0));by_cases x:j=l
     .rw[if_pos (),if_pos x,Rat.mul_one];exact⟨Rat.le_refl,Rat.le_refl⟩
     .rw[if_neg (),if_neg x,Rat.mul_zero];exact⟨Rat.le_refl,Rat.le_refl⟩
    .have d:=K3 j (λl=>rt (gt ps (l:Int))-rt (gt rs (l:Int))) q;rw[if_pos ()] at d;show (g:Rat)*(rt (gt ps (j:Int))-rt (gt rs (j:Int)))=_;rw[<- d,<- X6];exact Y4 q λl _=>by grind
   | plus a b=>
    have z:=zgW (ih' a ok.1) (ih' b ok.2);rw[<- (XY (p1 a ok.1) (p1 b ok.2)).1,<- (XY (p2 a ok.1) (p2 b ok.2)).1] at z;exact z
   | minus a b=>
    have z:=CK (ih' a ok.1) (ih' b ok.2);rw[<- (XY (p1 a ok.1) (p1 b ok.2)).2.1,<- (XY (p2 a ok.1) (p2 b ok.2)).2.1] at z;exact z
   | times a b=>
    have z:=zh4 hg (Og (p1 a ok.1) (i1 a ok.1)) (Og (p2 b ok.2) (i2 b ok.2)) (ih' a ok.1) (ih' b ok.2);rw[<- (XY (p1 a ok.1) (p1 b ok.2)).2.2,<- (XY (p2 a ok.1) (p2 b ok.2)).2.2] at z;exact z
   | power a n=>exact zc8 hg ok.2.1 (p1 a ok.1) (p2 a ok.1) (i1 a ok.1) (i2 a ok.1) (ih' a ok.1)
theorem In.self (x:Int):In (x,x) (x:Rat):=⟨Rat.le_refl,Rat.le_refl⟩
theorem rr1 {g y y2 t:Rat}(hg:g≠0):t*(g*y)/g=t*(g*(y-y2))/g+t*y2:=by grind
theorem rr2 {g y y2:Rat}:g*(y-y2)*g=-(g*(g*(y2-y))):=by grind
theorem JV {q:Nat}{ns:List Nd}{ws:List Nat}{bs P C:LI}{g:Int}(net:ZD q ns ws)(hb:q=bs.length)(hp:q=P.length)(hc:q=C.length)(hg:1<=g)(ip:InW g bs P)(ic:InW g bs C)(zp:Pz 110 P)(zc:Pz 110 C){is:List Nat}(his:∀i∈is,i<ns.length):
  ∃s:Nat->Nat->Rat,(∀c:Nat,c<q->∀(j:Nat)(p:Int×Int),((is.map λ(i:Nat)=>(ZT (Zo bs g ns) g bs.length ns).getD i []).map λr=>r.getD c (0,0))[j]?=some p->In p (s j c))/\∀(j i:Nat),is[j]?=some i->g*(rt (gt (Zt P ns) (i:Int))-rt (gt (Zt C ns) (i:Int)))=Zp q λl=>s j l*(rt (gt P (l:Int))-rt (gt C (l:Int))):=by
 have dif:=zd1 net hb hp hc hg ip ic zp zc ns.length (zA _);rw[yE] at dif;have ex:∀j:Nat,∃S:Nat->Rat,∀i,is[j]?=some i->(∀l,l<q->In (gs (ZT (Zo bs g ns) g q ns) (i:Int) l) (S l))/\g*(rt (gt (Zt P ns) (i:Int))-rt (gt (Zt C ns) (i:Int)))=Zp q λl=>S l*(rt (gt P (l:Int))-rt (gt C (l:Int))):=λj=>by
  cases e:is[j]? with
  | none=>exact⟨λ_=>0,λi h=>by cases h⟩
  | some i=>
   have him:=zF e;obtain⟨S,h1,h2⟩:=dif (i:Int) ⟨(),by have:=his i him;lia⟩;refine⟨S,λi' h=>by
    cases h;exact⟨h1,h2⟩⟩
 obtain⟨s,hs⟩:=Classical.skolem.mp ex;refine⟨s,λc hc j p hj=>?_,λj i h=>(hs j i h).2⟩;rw[zG,zG] at hj;cases e:is[j]? with
 | none=>rw[e] at hj;cases hj
 | some i=>
  rw[e] at hj;cases hj;have z:=(hs j i e).1 c hc;unfold gs at z;rw[zJ,hb] at z;exact z
theorem Am {q:Nat}{ns:List Nd}{ws:List Nat}{bs P:LI}{g:Int}(net:ZD q ns ws)(hb:q=bs.length)(hp:q=P.length)(sb:Spn 51 bs)(hg:1<=g/\g<=1000000)(ip:InW g bs P)(zp:Pz 110 P){is:List Nat}(his:∀i∈is,i<ns.length){k:Nat}(hk:k<q){es:List Int}(hes:es.length=is.length):
  In (Yw g bs (is.map λ(i:Nat)=>gt (Zo (bs.map ZN) g ns) i) (is.map λ(i:Nat)=>(ZT (Zo bs g ns) g bs.length ns).getD i []) k es) (g*rt (gt P (k:Int))-Zp is.length λj=>((es.getD j 0:Int):Rat)*rt (gt (Zt P ns) ((is.getD j 0:Nat):Int))):=by
 have gC:∀j:Int,inR q j->gt (bs.map λp=>(mid p,g)) j=(mid (gt bs j),g):=λj hj=>F8 _ (by rw[<- hb];exact hj)
 have lC:(bs.map λp=>(mid p,g)).length=q:=by rw[zD,hb]
 have mi:∀j:Int,inR q j->(gt bs j).1<=mid (gt bs j)/\mid (gt bs j)<=(gt bs j).2:=λj hj=>II (sb.at (by rw[<- hb];exact hj)).1
 have ml:∀ {x y:Int},x<=y->x*g<=y*g:=λh=>zK h ()
 have iC:InW g bs (bs.map λp=>(mid p,g)):=λj hj=>by
  rw[lC] at hj;rw[gC j hj];exact⟨ml (mi j hj).1,ml (mi j hj).2⟩
 have iM:InW g (bs.map ZN) (bs.map λp=>(mid p,g)):=λj hj=>by
  rw[lC] at hj;rw[gC j hj,F8 ZN (by rw[<- hb];exact hj)];exact⟨zQ _,zQ _⟩
 have zC:Pz 110 (bs.map λp=>(mid p,g)):=λp hp'=>by
  obtain⟨x,hx,rfl⟩:=zL.mp hp';have b:=sb x hx;exact⟨hg.1,(NZ b.2.1 b.2.2).mono ⋯,(Sz.of (n:=21) 1000000 ()).mono ⋯⟩
 obtain⟨s,sIn,aZ⟩:=JV net hb hp lC.symm hg.1 ip iC zp zC his;have gp:(0:Rat)<(g:Rat):=Rat.intCast_pos.mpr ()
 have gm:∀l:Nat,l<q->(g:Rat)*rt (gt (bs.map λp=>(mid p,g)) (l:Int))=((mid (gt bs (l:Int)):Int):Rat):=λl hl=>by
  rw[gC _ ⟨(),()⟩];unfold rt;grind
 have aA:=R5 net (bs:=bs.map ZN) (by rw[zD,hb]) (by rw[lC]) hg.1 iM zC ns.length (zA _);rw[yE] at aA;have pC:∀i:Nat,i<ns.length->1<=(gt (Zt (bs.map λp=>(mid p,g)) ns) (i:Int)).2:=λi hi=>by
  have z:=SO net (by rw[lC]) zC ns.length (zA _);rw[yE] at z;exact(Pz.at (B:=1800) (Pz.of_w z λj hj=>(net.w1 (i:=j) ⟨(),by rw[Xf] at hj;lia⟩).2) ⟨(),by rw[Xf];lia⟩).1
 have yIn:∀(j:Nat)(p:Int×Int),(is.map λ(i:Nat)=>gt (Zo (bs.map ZN) g ns) i)[j]?=some p->In p (g*rt (gt (Zt (bs.map λp=>(mid p,g)) ns) ((is.getD j 0:Nat):Int))):=λj p hj=>by
  rw[zG] at hj;obtain⟨i,hi,rfl⟩:=zP.mp hj;have him:=his i (zF hi);rw[zY,hi];exact Og (pC i him) (aA (i:Int) ⟨(),by rw[Xf];lia⟩)
 have tIn:∀(j:Nat)(p:Int×Int),(es.map λe=>(e,e))[j]?=some p->In p ((es.getD j 0:Int):Rat):=λj p hj=>by
  rw[zG] at hj;obtain⟨x,hx,rfl⟩:=zP.mp hj;rw[zY,hx];exact In.self x
 have lIn:∀(c:Nat)(p:Int×Int),((List.range bs.length).map λc=>YR g k c (es.map λe=>(e,e)) (is.map λ(i:Nat)=>(ZT (Zo bs g ns) g bs.length ns).getD i []))[c]?=some p->In p ((if k=c then (g:Rat) else 0)-Zp is.length λj=>((es.getD j 0:Int):Rat)*s j c/(g:Rat)):=λc p hc=>by
  have hl:=(zB.mp hc).1;rw[zD,wF] at hl;rw[zG,show (List.range bs.length)[c]?=some c from wD hl] at hc;cases hc;refine In.take ?_ (In.sumP hg.1 (n:=is.length) (by rw[zD,hes]) (by rw[zD,zD]) tIn (sIn c ()));by_cases x:k=c
  .rw[if_pos x,if_pos x];exact In.self g
  .rw[if_neg x,if_neg x];exact In.self 0
 have wIn:∀(l:Nat)(p:Int×Int),(bs.map λp=>YC p (ZN p))[l]?=some p->In p (g*rt (gt P (l:Int))-((mid (gt bs (l:Int)):Int):Rat)):=λl p hl=>by
  rw[zG] at hl;obtain⟨x,hx,rfl⟩:=zP.mp hl;have hlt:=(zB.mp hx).1
  have r:inR (P.length:Nat) (l:Int):=⟨(),()⟩
  have z:=Og (zp.at r).1 (ip _ r);rw[XZ hx] at z ⊢;exact z.take (In.self _)
 have all:In (Yw g bs (is.map λ(i:Nat)=>gt (Zo (bs.map ZN) g ns) i) (is.map λ(i:Nat)=>(ZT (Zo bs g ns) g bs.length ns).getD i []) k es) _:=
  (In.take (In.self (mid (gt bs (k:Int)))) (In.sumP hg.1 (n:=is.length) (by rw[zD,hes]) (by rw[zD]) tIn yIn)).add (In.sumP hg.1 (n:=q) (by rw[zD,wF,hb]) (by rw[zD,hb]) lIn wIn)
 have ge:(g:Rat)≠0:=by grind
 have id:=Dl (m:=((mid (gt bs (k:Int)):Int):Rat)) ge hk (λj=>((es.getD j 0:Int):Rat)) (λj=>g*(rt (gt (Zt (bs.map λp=>(mid p,g)) ns) ((is.getD j 0:Nat):Int))-rt (gt (Zt P ns) ((is.getD j 0:Nat):Int)))) (λl=>g*rt (gt P (l:Int))-((mid (gt bs (l:Int)):Int):Rat)) s (e:=is.length) λj hj=>by
  have e:=zE hj
  have z:=aZ j _ e;rw[zY,e];have z2:(Zp q λl=>s j l*(g*rt (gt P (l:Int))-((mid (gt bs (l:Int)):Int):Rat)))=g*Zp q λl=>s j l*(rt (gt P (l:Int))-rt (gt (bs.map λp=>(mid p,g)) (l:Int))):=by
   rw[<- X6];refine Y4 q λl hl=>?_
   rw[<- gm l hl];grind
  rw[z2,<- z];exact rr2
 have sp:(Zp is.length λj=>((es.getD j 0:Int):Rat)*(g*rt (gt (Zt (bs.map λp=>(mid p,g)) ns) ((is.getD j 0:Nat):Int)))/(g:Rat))=(Zp is.length λj=>((es.getD j 0:Int):Rat)*(g*(rt (gt (Zt (bs.map λp=>(mid p,g)) ns) ((is.getD j 0:Nat):Int))-rt (gt (Zt P ns) ((is.getD j 0:Nat):Int))))/(g:Rat))+Zp is.length λj=>((es.getD j 0:Int):Rat)*rt (gt (Zt P ns) ((is.getD j 0:Nat):Int)):=by
  rw[<- TZ];refine Y4 _ λj _=>?_
  exact rr1 ge
 rw[sp] at all;have e1:∀A B C R m x:Rat,m-A+B=m+(x-m)->m-(A+C)+B=x-C:=λA B C R m x h=>by grind
 rwa [e1 _ _ _ 0 _ _ id] at all
theorem zdg {q:Nat}{ns:List Nd}{ws:List Nat}{bs P P2:LI}{g:Int}(net:ZD q ns ws)(hb:q=bs.length)(hp:q=P.length)(hp2:q=P2.length)(sb:Spn 51 bs)(hg:1<=g/\g<=1000000)(ip:InW g bs P)(ip2:InW g bs P2)(zp:Pz 110 P)(zp2:Pz 110 P2){is:List Nat}(his:∀i∈is,i<ns.length)(zero:∀i∈is,(gt (Zt P ns) (i:Int)).1=0)(zero2:∀i∈is,(gt (Zt P2 ns) (i:Int)).1=0){M:List (List Int)}(lM:M.length=q)(lE:∀es∈M,es.length=is.length)
  (dp:∀(k:Nat)(es:List Int),M[k]?=some es->(gt bs (k:Int)).1<(Yw g bs (is.map λ(i:Nat)=>gt (Zo (bs.map ZN) g ns) i) (is.map λ(i:Nat)=>(ZT (Zo bs g ns) g bs.length ns).getD i []) k es).1/\(Yw g bs (is.map λ(i:Nat)=>gt (Zo (bs.map ZN) g ns) i) (is.map λ(i:Nat)=>(ZT (Zo bs g ns) g bs.length ns).getD i []) k es).2<(gt bs (k:Int)).2):∀k:Nat,k<q->rt (gt P (k:Int))=rt (gt P2 (k:Int)):=by
 obtain⟨s,sIn,aZ⟩:=JV net hb hp hp2 hg.1 ip ip2 zp zp2 his;have ot:∀p∈(is.map λ(i:Nat)=>gt (Zo (bs.map ZN) g ns) i),p.1<=p.2:=λp hp=>by
  obtain⟨i,him,rfl⟩:=zL.mp hp;have sp:=OD (show ZD ((bs.map ZN).length:Nat) ns ws by rw[zD,<- hb];exact net) rfl (QP sb) hg ns.length (zA _);rw[yE] at sp;exact(sp.at (i:=(i:Int)) ⟨(),by rw[YU];have:=his i him;lia⟩).1
 intro k hk;have z:=zhD (e:=is.length) hg.1 hb.symm (by rw[zD]) (by rw[zD]) lM lE (λp hp=>(sb p hp).1) ot dp s sIn (λl=>rt (gt P (l:Int))-rt (gt P2 (l:Int))) (λj hj=>by
  rw[<- aZ j _ (zE hj)];have z:rt (gt (Zt P2 ns) ((is[j]:Nat):Int))=0:=by unfold rt;rw[zero2 _ (yQ hj)];exact Rat.zero_mul _
  have z0:rt (gt (Zt P ns) ((is[j]:Nat):Int))=0:=by unfold rt;rw[zero _ (yQ hj)];exact Rat.zero_mul _
  rw[z,z0];grind) k hk
 grind
theorem GO {p r:Int×Int}(p1:1<=p.2)(r1:1<=r.2)(gp:Int.gcd p.1 p.2=1)(gr:Int.gcd r.1 r.2=1)(h:p.1*r.2=r.1*p.2):p=r:=by
 have dv:∀ {x y z w:Int},Int.gcd x y=1->x*z=w*y->y ∣ z:=λ{x y z w} hc he=>by
  have c:Nat.Coprime y.natAbs x.natAbs:=by rw[Nat.coprime_comm];exact hc
  exact Int.natAbs_dvd_natAbs.mp (c.dvd_of_dvd_mul_left ⟨w.natAbs,by rw[<- wK,<- wK,he,yN]⟩)
 have d1:=dv gp h
 have d2:=dv gr h.symm
 have e:p.2=r.2:=vR (uL () d1) (uL () d2);rw[e] at h;exact Prod.ext (uM () h) e
theorem Nz {p r:Int×Int}(p1:1<=p.2)(r1:1<=r.2)(h:rt p=rt r):p.1*r.2=r.1*p.2:=by
 have a:=rne p1
 have b:=rne r1;unfold rt at h;have z:(p.1:Rat)*(r.2:Rat)=(r.1:Rat)*(p.2:Rat):=by grind
 rw[<- Rat.intCast_mul,<- Rat.intCast_mul] at z;exact Rat.intCast_inj.mp z
def Met (ns:List Nd)(rows:List (Bool×Nat))(P:LP2):Prop:=∀r∈rows,if r.1 then (gt (Zt P (ns.take (r.2+1))) (r.2:Int)).1=0 else 0<=(gt (Zt P (ns.take (r.2+1))) (r.2:Int)).1
theorem F3 (P:LP2)(ns:List Nd):∀k,k<=ns.length->(Zt P ns).take k=Zt P (ns.take k):=by
 intro k hk;have main:∀m,(Zt P (ns.take k++(ns.drop k).take m)).take k=Zt P (ns.take k):=λm=>by
  induction m with
  | zero=>rw[List.take_zero,xR];exact yH (by rw[Xf,zO];lia)
  | succ m ih=>
   by_cases c:m<(ns.drop k).length
   .rw[YG (zE c),<- yZ,WN,vM (by rw[Xf,zT,zO];lia)];exact ih
   .rw[yH (show (ns.drop k).length<=m+1 by lia)]
    rwa [yH (show (ns.drop k).length<=m by lia)] at ih
 have z:=main (ns.drop k).length
 rwa [yE,wX] at z
theorem Met.zero {ns:List Nd}{rows:List (Bool×Nat)}{P:LP2}(h:Met ns rows P)(ri:∀r∈rows,r.2<ns.length):∀i∈eqs rows,(gt (Zt P ns) (i:Int)).1=0:=λi hi=>by
 have m:=JG hi
 have z:=h _ m
 have l:=ri _ m;rw[if_pos rfl,<- F3 P ns (i+1) (),QI ⟨(),()⟩] at z;exact z
section
variable {q:Nat}{ns:List Nd}{ws:List Nat}{rows:List (Bool×Nat)}{e P P2:LP2}{g:Int}{M:List (List Int)}
theorem Nn.pz (h:Nn P):Pz 110 P:=λp hp=>⟨(h.gd p hp).1,(h.gd p hp).2.2.1,(h.gd p hp).2.2.2⟩
theorem zbz (net:ZD q ns ws)(le:q=e.length)(lp:q=P.length)(lp2:q=P2.length)(se:Spn 51 e)(hg:1<=g/\g<=1000000)(ri:∀r∈rows,r.2<ns.length)(o:WV g e ns rows M)(nn:Nn P)(nn2:Nn P2)(iw:InW g e P)(iw2:InW g e P2)(met:Met ns rows P)(met2:Met ns rows P2):P=P2:=by
 obtain⟨o1,o2,o3,o4⟩:=o;have z:=zdg net le lp lp2 se hg iw iw2 nn.pz nn2.pz (λi hi=>ri _ (JG hi)) (met.zero ri) (met2.zero ri) (M:=M) () (λes he=>by rw[o3 es he,o1]) o4;refine List.ext_getElem () λk h1 h2=>?_
 have w:=z k ();rw[XZ (zE h1),XZ (zE h2)] at w;obtain⟨a1,a2,_⟩:=nn _ (yQ h1);obtain⟨b1,b2,_⟩:=nn2 _ (yQ h2);exact GO a1 b1 a2 b2 (Nz a1 b1 w)
theorem BX {fine:Int}{r:Nat}{vs:LP2}(net:ZD q ns ws)(le:q=e.length)(lp:q=P.length)(hg:1<=g)(ri:∀r∈rows,r.2<ns.length)(nn:Nn P)(iw:InW g e P)(met:Met ns rows P)(h:FOk g fine ns rows e (.out r vs)):False:=by
 obtain⟨row,hr,_,ib⟩:=h;have hm:=zF hr;rw[AH (ws:=ws) (by rw[<- le];exact net) hg (ri _ hm) () nn.pz iw (met _ hm)] at ib;cases ib
end
def hmB (g lo:Int)(e:LP2)(p:Int×Int):Bool:=(decide ((gt e 0).1*p.2<p.1*g)||(decide ((gt e 0).1=lo)&&decide ((gt e 0).1*p.2<=p.1*g)))&&decide (p.1*g<=(gt e 0).2*p.2)
def hmN (g lo:Int)(rs:LP2)(e:LP2):Nat:=rs.countP (hmB g lo e)
def wN (g lo:Int)(rs:LP2)(f:Ft)(e:LP2):Nat:=match f with
 | .cut _ _ _ _=>0
 | _=>hmN g lo rs e
def wsN (g lo:Int)(rs:LP2):List Ft->List LP2->Nat
 | f::fs,e::es=>wN g lo rs f e+wsN g lo rs fs es
 | _,_=>0
theorem NS {g lo:Int}{rs:LP2}{f:Ft}{e:LP2}:∀ {fs:List Ft} {es:List LP2},es.length=fs.length->wsN g lo rs (fs++[f]) (es++[e])=wsN g lo rs fs es+wN g lo rs f e
 | [],[],_=>by simp[wsN]
 | a::fs,b::es,h=>by
  have z:=NS (f:=f) (e:=e) (g:=g) (lo:=lo) (rs:=rs) (fs:=fs) (es:=es) (by simpa using h)
  show wN g lo rs a b+wsN g lo rs (fs++[f]) (es++[e])=wN g lo rs a b+wsN g lo rs fs es+_;rw[z,Nat.add_assoc]
theorem K6 {g lo:Int}{rs:LP2}{f f0:Ft}{e:LP2}:∀ {fs:List Ft} {es:List LP2} {i:Nat},fs[i]?=some f0->es[i]?=some e->wsN g lo rs (fs.set i f) es+wN g lo rs f0 e=wsN g lo rs fs es+wN g lo rs f e
 | [],_,_,h,_=>by simp at h
 | _::_,[],_,_,h=>by simp at h
 | a::fs,b::es,0,h1,h2=>by
  cases h1;cases h2
  show wN g lo rs f e+wsN g lo rs fs es+wN g lo rs f0 e=wN g lo rs f0 e+wsN g lo rs fs es+wN g lo rs f e;lia
 | a::fs,b::es,i+1,h1,h2=>by
  have z:=K6 (f:=f) (g:=g) (lo:=lo) (rs:=rs) (fs:=fs) (es:=es) (i:=i) h1 h2
  show wN g lo rs a b+wsN g lo rs (fs.set i f) es+_=wN g lo rs a b+wsN g lo rs fs es+_;lia
theorem Bz {g lo p:Int}{rs:LP2}{s:Int×Int}(hr:∀r∈rs,1<=r.2)(h0:lo<=s.1)(h1:s.1<p)(h2:p<s.2):hmN g lo rs [s]=hmN g lo rs [(s.1,p)]+hmN g lo rs [(p,s.2)]:=by
 unfold hmN
 induction rs with
 | nil=>rfl
 | cons r rs ih=>
  have z:=ih λx hx=>hr x (yB _ hx)
  have r1:=hr r (yL ..);rw[xB,xB,xB,z];have a1:=uN h1 (show 0<r.2 by lia)
  have a2:=uN h2 (show 0<r.2 by lia)
  have n:¬ p=lo:=by lia
  have key:(if hmB g lo [s] r=true then 1 else 0)=(if hmB g lo [(s.1,p)] r=true then 1 else 0)+(if hmB g lo [(p,s.2)] r=true then (1:Nat) else 0):=by
   have e1:gt [s] 0=s:=rfl
   have e2:gt [(s.1,p)] 0=(s.1,p):=rfl
   have e3:gt [(p,s.2)] 0=(p,s.2):=rfl;simp only[hmB,e1,e2,e3,n,decide_false,xY,Bool.or_false,xN,wO,decide_eq_true_eq];by_cases c1:r.1*g<=p*r.2
   .have c2:¬ p*r.2<r.1*g:=by lia
    have c3:r.1*g<=s.2*r.2:=by lia
    simp[c1,c2,c3]
   .have c2:p*r.2<r.1*g:=by lia
    have c3:s.1*r.2<r.1*g:=by lia
    simp[c1,c2,c3]
  lia
structure Ct1 (g:Int)(rs:LP2)(s0:Int×Int)(es:List LP2)(fs:List Ft):Prop where
 sum:wsN g s0.1 rs fs es=hmN g s0.1 rs [s0]
 box:∀e∈es,e=[s0]\/∃s,e=[s]/\s.1<s.2/\s0.1<=s.1
theorem Bks.count {g fine:Int}{ns:List Nd}{rows:List (Bool×Nat)}{s0:Int×Int}{rs:LP2}{es:List LP2}{fs:List Ft}(sb:Spn 51 [s0])(hr:∀r∈rs,1<=r.2)(h:Bks g fine ns rows [s0] es fs):Ct1 g rs s0 es fs:=by
 induction h with
 | new=>exact⟨by simp[wsN,wN],λe he=>.inl (zH.mp he)⟩
 | @cut es fs i k e s p hb hw he hs h1 h2 ih=>
  have ll:=(hb.ok sb).1
  have li:=(zB.mp hw).1
  have es1:e=[s]/\k=0/\s0.1<=s.1:=by
   rcases ih.box e (zF he) with rfl|⟨t,rfl,t1,t2⟩
   .match k,hs with
    | 0,hs=>cases hs;exact⟨rfl,rfl,zQ _⟩
   .match k,hs with
    | 0,hs=>cases hs;exact⟨rfl,rfl,t2⟩
  obtain⟨rfl,rfl,h0⟩:=es1;refine⟨?_,λx hx=>?_⟩
  .have z:=K6 (g:=g) (lo:=s0.1) (rs:=rs) (f:=.cut 0 p es.length (es.length+1)) (fs:=fs++[Ft.wait]++[Ft.wait]) (es:=es++[[s].set 0 (s.1,p)]++[[s].set 0 (p,s.2)]) (i:=i) (f0:=.wait) (e:=[s]) (by rw[yZ,zI li];exact hw) (by rw[yZ,zI ()];exact he);rw[NS (by simp[ll]),NS ll,ih.sum] at z;have c:=Bz (g:=g) hr h0 h1 h2
   have e1:wN g s0.1 rs .wait [s]=hmN g s0.1 rs [s]:=rfl
   have e2:wN g s0.1 rs .wait ([s].set 0 (s.1,p))=hmN g s0.1 rs [(s.1,p)]:=rfl
   have e3:wN g s0.1 rs .wait ([s].set 0 (p,s.2))=hmN g s0.1 rs [(p,s.2)]:=rfl
   have e4:wN g s0.1 rs (.cut 0 p es.length (es.length+1)) [s]=0:=rfl;lia
  .rcases yI.mp hx with hx|hx
   .rcases yI.mp hx with hx|hx
    .exact ih.box x hx
    .cases zH.mp hx;exact .inr ⟨(s.1,p),rfl,h1,h0⟩
   .cases zH.mp hx;exact .inr ⟨(p,s.2),rfl,h2,by show s0.1<=p;lia⟩
 | @put es fs i e f hb hw he ok ih=>
  refine⟨?_,ih.box⟩;have z:=K6 (g:=g) (lo:=s0.1) (rs:=rs) (f:=f) hw he
  have e1:wN g s0.1 rs f e=wN g s0.1 rs .wait e:=by
   cases f with
   | cut=>exact ok.elim
   | _=>rfl
  rw[<- ih.sum];lia
def isO:Ft->Bool
 | .one _=>true
 | _=>false
def isF:Ft->Bool
 | .full _=>true
 | _=>false
def isW:Ft->Bool
 | .wait=>true
 | .small=>true
 | _=>false
def Hm (n:Nat):Ft->Prop
 | .one _=>n=1
 | .full _=>n=1
 | .out _ _=>n=0
 | _=>True
theorem E5 {g lo:Int}{rs:LP2}:∀ {fs:List Ft} {es:List LP2},es.length=fs.length->(∀(i:Nat)(f:Ft)(e:LP2),fs[i]?=some f->es[i]?=some e->Hm (hmN g lo rs e) f)->fs.countP isO<=wsN g lo rs fs es/\(fs.any isW=false->fs.countP isO+fs.countP isF=wsN g lo rs fs es)
 | [],[],_,_=>⟨zA _,λ_=>rfl⟩
 | f::fs,e::es,h,a=>by
  obtain⟨z1,z2⟩:=E5 (g:=g) (lo:=lo) (rs:=rs) (fs:=fs) (es:=es) (by simpa using h) λi f' e' hf he=>a (i+1) f' e' hf he
  have a1:=a 0 f e rfl rfl
  show _<=wN g lo rs f e+wsN g lo rs fs es/\(_->_=wN g lo rs f e+wsN g lo rs fs es);rw[xB,xB,vS];cases f with
  | wait=>exact⟨by simp[isO];lia,λw=>by simp[isW] at w⟩
  | small=>exact⟨by simp[isO];lia,λw=>by simp[isW] at w⟩
  | _=>
   simp only[Hm] at a1;simp only[isO,isF,isW,wN,Bool.false_or,reduceIte,vL];exact⟨(),λw=>by have:=z2 w;lia⟩
def fpQ (c:Rat)(rs:LP2)(x:Rat):Rat:=rs.foldl (λa r=>a*(x-rt r)) c
theorem D3 {a b c d:Rat}(h:0<a*b)(k:0<c*d):0<a*c*(b*d):=by
 have z:=Rat.mul_pos h k
 have e:a*b*(c*d)=a*c*(b*d):=by grind
 rwa [e] at z
theorem DH {x y:Rat}:∀ {rs:LP2} {a b:Rat},0<a*b->(∀r∈rs,0<(x-rt r)*(y-rt r))->0<fpQ a rs x*fpQ b rs y
 | [],a,b,h,_=>h
 | r::rs,a,b,h,k=>DH (rs:=rs) (D3 h (k r (yL ..))) λq hq=>k q (yB _ hq)
theorem Ck {x:Rat}:∀ {rs:LP2} {a:Rat},fpQ a rs x=0↔a=0\/∃r∈rs,x=rt r
 | [],a=>⟨.inl,λh=>h.elim id λ⟨_,z,_⟩=>nomatch z⟩
 | r::rs,a=>by
  show fpQ (a*(x-rt r)) rs x=0↔_;rw[Ck (rs:=rs),Rat.mul_eq_zero];refine⟨λh=>?_,λh=>?_⟩
  .rcases h with (h|h)|⟨q,hq,h⟩
   .exact .inl h
   .exact .inr ⟨r,yL ..,by grind⟩
   .exact .inr ⟨q,yB _ hq,h⟩
  .rcases h with h|⟨q,hq,h⟩
   .exact .inl (.inl h)
   .rcases zS.mp hq with rfl|hq
    .exact .inl (.inr (by grind))
    .exact .inr ⟨q,hq,h⟩
def Pol (ns:List Nd)(i:Nat)(rs:LP2):Prop:=∃(c:Rat)(m:Rat->Rat),c≠0/\(∀x,0<m x)/\∀p:Int×Int,1<=p.2->rt (gt (Zt [p] ns) (i:Int))=m (rt p)*fpQ c rs (rt p)
theorem Pol.zero {ns:List Nd}{i:Nat}{rs:LP2}(h:Pol ns i rs){p:Int×Int}(hp:1<=p.2):rt (gt (Zt [p] ns) (i:Int))=0↔∃r∈rs,rt p=rt r:=by
 obtain⟨c,m,hc,hm,h⟩:=h;rw[h p hp,Rat.mul_eq_zero,Ck];have:=hm (rt p);refine⟨λz=>z.elim (λz=>by grind) λz=>z.elim (λz=>absurd z hc) id,λz=>.inr (.inr z)⟩
theorem Pol.sign {ns:List Nd}{i:Nat}{rs:LP2}(h:Pol ns i rs){p q:Int×Int}(hp:1<=p.2)(hq:1<=q.2)(hs:rt (gt (Zt [p] ns) (i:Int))*rt (gt (Zt [q] ns) (i:Int))<0):∃r∈rs,¬ 0<(rt p-rt r)*(rt q-rt r):=by
 obtain⟨c,m,hc,hm,h⟩:=h;apply Classical.byContradiction;intro n;have cc:0<c*c:=by
  rcases Rat.le_total (a:=0) (b:=c) with z|z
  .exact Rat.mul_pos (show (0:Rat)<c by grind) (show (0:Rat)<c by grind)
  .have:=Rat.mul_pos (show (0:Rat) < -c by grind) (show (0:Rat) < -c by grind);grind
 have z:=D3 (Rat.mul_pos (hm (rt p)) (hm (rt q))) (DH (rs:=rs) (x:=rt p) (y:=rt q) cc λr hr=>Classical.byContradiction λk=>n ⟨r,hr,k⟩);rw[h p hp,h q hq] at hs;grind
theorem zdr {t a b:Rat}(h1:t*a<0)(h2:0<t*b):a*b<0:=by
 have z:=Rat.mul_pos (show (0:Rat) < -(t*a) by grind) h2
 have e:-(t*a)*(t*b)=-(t*t*(a*b)):=by grind
 rw[e] at z;apply Classical.byContradiction;intro n;have tt:0<=t*t:=by
  rcases Rat.le_total (a:=0) (b:=t) with k|k
  .exact Rat.mul_nonneg k k
  .have:=Rat.mul_nonneg (show (0:Rat)<=-t by grind) (show (0:Rat)<=-t by grind);grind
 have:=Rat.mul_nonneg tt (show 0<=a*b by grind);grind
section
variable {ns:List Nd}{ws:List Nat}{g:Int}{s:Int×Int}{i:Nat}{M:List (List Int)}{rs:LP2}
theorem WK {p:Int×Int}:InW g [s] [p]↔s.1*p.2<=p.1*g/\p.1*g<=s.2*p.2:=
 ⟨λh=>h 0 ⟨zQ 0,Int.zero_lt_one⟩,λh j hj=>by
  have:j=0:=by obtain⟨a,b⟩:=hj;simp at b;lia
  subst this;exact h⟩
theorem Tn {p:Int×Int}(h1:1<=p.2)(h2:Sz 110 p.1)(h3:Sz 110 p.2):Pz 110 [p]:=λq hq=>by
 cases zH.mp hq;exact⟨h1,h2,h3⟩
theorem grt {x:Int}(hg:1<=g):(g:Rat)*rt (x,g)=(x:Rat):=by
 have:=rne hg;unfold rt;grind
theorem JI (net:ZD (1:Nat) ns ws)(sb:Spn 51 [s])(hg:1<=g/\g<=1000000)(hi:i<ns.length)(o:WV g [s] ns [(true,i)] M):
  ∃t:Rat,M.length=1/\∀p:Int×Int,InW g [s] [p]->Pz 110 [p]->∃b,We g [s] ns [(true,i)] M=[b]/\s.1<b.1/\b.2<s.2/\In b (g*rt p-t*rt (gt (Zt [p] ns) (i:Int))):=by
 obtain⟨o1,o2,o3,o4⟩:=o
 match M,o2 with
 | [es],_=>
  refine⟨((es.getD 0 0:Int):Rat),rfl,λp ip zp=>?_⟩;obtain⟨d1,d2⟩:=o4 0 es rfl;have z:=Am net (bs:=[s]) (P:=[p]) rfl rfl sb hg ip zp (is:=[i]) (λj hj=>by cases zH.mp hj;exact hi) (k:=0) ⋯ (es:=es) (o3 es (yL ..))
  have e0:∀f:Nat->Rat,Zp 1 f=f 0:=λf=>by
   show (0:Rat)+f 0=f 0<;>grind
  rw[show ([i]:List Nat).length=1 from rfl,e0] at z;exact⟨_,rfl,d1,d2,z⟩
theorem FV {v p:Int×Int}(hb:1<=p.2)(h:In v (g*rt p)):v.1*p.2<=p.1*g/\p.1*g<=v.2*p.2:=by
 have e:(g:Rat)*rt p=((p.1*g:Int):Rat)/(p.2:Rat):=by unfold rt;rw[Rat.intCast_mul];grind
 rw[e] at h;exact⟨zgx hb h.1,zdG hb h.2⟩
theorem BP {g a b:Rat}(n:¬ 0<a*b):¬ 0<g*a*(g*b):=by
 have tt:0<=g*g:=by
  rcases Rat.le_total (a:=0) (b:=g) with k|k
  .exact Rat.mul_nonneg k k
  .have:=Rat.mul_nonneg (show (0:Rat)<=-g by grind) (show (0:Rat)<=-g by grind);grind
 have z:=Rat.mul_nonneg tt (show 0<=-(a*b) by grind)
 have e:g*g * -(a*b)=-(g*a*(g*b)):=by grind
 rw[e] at z;grind
theorem za6 (net:ZD (1:Nat) ns ws)(sb:Spn 51 [s])(hg:1<=g/\g<=1000000)(hi:i<ns.length)(hr:∀r∈rs,1<=r.2)(pol:Pol ns i rs)(o:WV g [s] ns [(true,i)] M):∃r∈rs,s.1*r.2<=r.1*g/\r.1*g<=s.2*r.2:=by
 obtain⟨t,_,st⟩:=JI net sb hg hi o;obtain⟨s1,s2,s3⟩:=sb s (zH.mpr rfl);have zg:Sz 110 g:=(Sz.of (n:=21) 1000000 ()).mono ⋯
 have ml:∀ {x y:Int},x<=y->x*g<=y*g:=λh=>zK h ()
 obtain⟨b,eb,b1,b2,z1⟩:=st (s.1,g) (WK.mpr ⟨zQ _,ml s1⟩) (Tn hg.1 (s2.mono ⋯) zg);obtain⟨b',eb',_,_,z2⟩:=st (s.2,g) (WK.mpr ⟨ml s1,zQ _⟩) (Tn hg.1 (s3.mono ⋯) zg);rw[eb] at eb';cases eb';rw[grt hg.1] at z1 z2;have c1:(s.1:Rat)<(b.1:Rat):=Rat.intCast_lt_intCast.mpr b1
 have c2:(b.2:Rat)<(s.2:Rat):=Rat.intCast_lt_intCast.mpr b2;obtain⟨r,hm,n⟩:=pol.sign (p:=(s.1,g)) (q:=(s.2,g)) hg.1 hg.1 (zdr (t:=t) (by have:=z1.1;grind) (by have:=z2.2;grind));have gp:(0:Rat)<(g:Rat):=Rat.intCast_pos.mpr ()
 have l1:(s.1:Rat)<=(s.2:Rat):=Rat.intCast_le_intCast.mpr s1
 have f1:=grt (g:=g) (x:=s.1) hg.1
 have f2:=grt (g:=g) (x:=s.2) hg.1
 have r1:=hr r hm
 have n':=BP (g:=(g:Rat)) n
 have e1:(g:Rat)*(rt (s.1,g)-rt r)=s.1-g*rt r:=by rw[<- f1];grind
 have e2:(g:Rat)*(rt (s.2,g)-rt r)=s.2-g*rt r:=by rw[<- f2];grind
 rw[e1,e2] at n';refine⟨r,hm,FV r1 ⟨Classical.byContradiction λk=>n' (Rat.mul_pos (by grind) (by grind)),Classical.byContradiction λk=>n' ?_⟩⟩;have:=Rat.mul_pos (show 0 < -((s.1:Rat)-g*rt r) by grind) (show 0 < -((s.2:Rat)-g*rt r) by grind);grind
theorem BL (net:ZD (1:Nat) ns ws)(sb:Spn 51 [s])(hg:1<=g/\g<=1000000)(hi:i<ns.length)(pol:Pol ns i rs)(o:WV g [s] ns [(true,i)] M):∃b,We g [s] ns [(true,i)] M=[b]/\s.1<b.1/\b.2<s.2/\∀r∈rs,1<=r.2->Sz 110 r.1->Sz 110 r.2->s.1*r.2<=r.1*g/\r.1*g<=s.2*r.2->b.1*r.2<=r.1*g/\r.1*g<=b.2*r.2:=by
 obtain⟨t,_,st⟩:=JI net sb hg hi o;obtain⟨s1,s2,s3⟩:=sb s (zH.mpr rfl);obtain⟨b,eb,b1,b2,_⟩:=st (s.1,g) (WK.mpr ⟨zQ _,zK s1 ()⟩) (Tn hg.1 (s2.mono ⋯) ((Sz.of (n:=21) 1000000 ()).mono ⋯));refine⟨b,eb,b1,b2,λr hr r1 r2 r3 hs=>?_⟩;obtain⟨b',eb',_,_,z⟩:=st r (WK.mpr hs) (Tn r1 r2 r3);rw[eb] at eb';cases eb';rw[(pol.zero r1).mpr ⟨r,hr,rfl⟩] at z;have e:(g:Rat)*rt r-t*0=g*rt r:=by grind
 rw[e] at z;exact FV r1 z
end
theorem Lz {α:Type}{P:α->Bool}:∀ {rs:List α},rs.Nodup->(∃r∈rs,P r=true)->(∀r∈rs,∀q∈rs,P r=true->P q=true->r=q)->∃r∈rs,rs.filter P=[r]
 | [],_,⟨_,h,_⟩,_=>nomatch h
 | a::rs,nd,ex,un=>by
  obtain⟨na,nd⟩:=xS.mp nd;cases c:P a with
  | true=>
   refine⟨a,yL ..,?_⟩;rw[List.filter_cons_of_pos c];refine congrArg _ (tN.mpr λq hq hp=>?_);exact na (un a (yL ..) q (yB _ hq) c hp ▸ hq)
  | false=>
   rw[List.filter_cons_of_neg (by rw[c];exact zN)];obtain⟨r,hr,hp⟩:=ex;obtain⟨r',h1,h2⟩:=Lz (P:=P) nd ⟨r,(zS.mp hr).elim (λe=>absurd hp (by rw[e,c];exact zN)) id,hp⟩ λx hx y hy=>un x (yB _ hx) y (yB _ hy)
   exact⟨r',yB _ h1,h2⟩
structure Ro (rs:LP2):Prop where
 nd:rs.Nodup
 nn:Nn rs
 l3:rs.length<=3
theorem XS {g:Int}{s r:Int×Int}:inB g s r=true↔s.1*r.2<=r.1*g/\r.1*g<=s.2*r.2:=by simp[inB]
theorem Ds {g:Int}{rs:LP2}{s:Int×Int}:hmN g s.1 rs [s]=rs.countP (inB g s):=by
 unfold hmN;refine tO λr _=>?_
 have e:gt [s] 0=s:=rfl;simp only[hmB,inB,e,decide_true,wV,xN,wO,decide_eq_true_eq];lia
theorem GC {g lo:Int}{rs:LP2}{s r:Int×Int}(h:hmB g lo [s] r=true):inB g s r=true:=by
 have e:gt [s] 0=s:=rfl;simp only[hmB,inB,e,xN,wO,decide_eq_true_eq] at h ⊢;lia
section
variable {ns:List Nd}{ws:List Nat}{g fine:Int}{s:Int×Int}{i:Nat}{M:List (List Int)}{rs:LP2}
theorem FP (net:ZD (1:Nat) ns ws)(hi:i<ns.length){p:Int×Int}(zp:Pz 110 [p]):1<=(gt (Zt [p] ns) (i:Int)).2:=by
 have z:=SO net (ps:=[p]) rfl zp ns.length (zA _);rw[yE] at z;exact(Pz.at (B:=1800) (Pz.of_w z λj hj=>(net.w1 (i:=j) ⟨(),by rw[Xf] at hj;lia⟩).2) ⟨(),by rw[Xf];lia⟩).1
theorem Lk {p:Int×Int}(h:1<=p.2):rt p=0↔p.1=0:=by
 refine⟨λz=>?_,λz=>by unfold rt;rw[z];exact Rat.zero_mul _⟩;have w:=Nz (p:=p) (r:=(0,1)) h ⋯ (by rw[z];unfold rt;exact(Rat.zero_mul _).symm);simpa using w
theorem S7 (h:Nn rs){r:Int×Int}(hr:r∈rs):Nn [r]:=λp hp=>by
 cases zH.mp hp;exact h _ hr
theorem Jd (net:ZD (1:Nat) ns ws)(hi:i<ns.length)(pol:Pol ns i rs)(nn:Nn rs){r:Int×Int}(hr:r∈rs):Met ns [(true,i)] [r]:=λq hq=>by
 cases zH.mp hq;have z:=(Lk (FP net hi (S7 nn hr).pz)).mp ((pol.zero (nn r hr).1).mpr ⟨r,hr,rfl⟩);rw[if_pos rfl,<- F3 [r] ns (i+1) (),QI ⟨(),()⟩];exact z
theorem zbb {lo:Int}(net:ZD (1:Nat) ns ws)(sb:Spn 51 [s])(hg:1<=g/\g<=1000000)(hi:i<ns.length)(pol:Pol ns i rs)(ro:Ro rs)(o:WV g [s] ns [(true,i)] M):(∃r b,rs.filter (inB g s)=[r]/\We g [s] ns [(true,i)] M=[b]/\s.1<b.1/\b.2<s.2/\inB g b r=true)/\hmN g lo rs [s]=1:=by
 have ri:∀q∈[(true,i)],q.2<ns.length:=λq hq=>by cases zH.mp hq;exact hi
 obtain⟨r0,m0,h0⟩:=za6 net sb hg hi (λr hr=>(ro.nn r hr).1) pol o;obtain⟨r,hr,ef⟩:=Lz (P:=inB g s) ro.nd ⟨r0,m0,XS.mpr h0⟩ λx hx y hy px py=>by
  have z:=zbz net (e:=[s]) (P:=[x]) (P2:=[y]) rfl rfl rfl sb hg ri o (S7 ro.nn hx) (S7 ro.nn hy) (WK.mpr (XS.mp px)) (WK.mpr (XS.mp py)) (Jd net hi pol ro.nn hx) (Jd net hi pol ro.nn hy);exact(List.cons.inj z).1
 obtain⟨b,eb,b1,b2,nb⟩:=BL net sb hg hi pol o;have at':∀x∈rs,inB g s x=true->b.1*x.2<=x.1*g/\x.1*g<=b.2*x.2:=λx hx px=>by
  have z:=(S7 ro.nn hx).pz x (zH.mpr rfl);exact nb x hx z.1 z.2.1 z.2.2 (XS.mp px)
 have pr:inB g s r=true:=(wY.mp (ef ▸ zH.mpr rfl:r∈rs.filter (inB g s))).2;refine⟨⟨r,b,ef,eb,b1,b2,XS.mpr (at' r hr pr)⟩,?_⟩;have ec:hmN g lo rs [s]=rs.countP (inB g s):=by
  unfold hmN;refine tO λx hx=>⟨GC (rs:=rs),λpx=>?_⟩
  have a:=at' x hx px
  have c:=XS.mp px
  have d:=uN b1 (show 0<x.2 by have:=(ro.nn x hx).1;lia)
  have e:gt [s] 0=s:=rfl;simp only[hmB,e,xN,wO,decide_eq_true_eq];lia
 rw[ec,uP,ef];rfl
theorem zfN {lo:Int}{r:Nat}{vs:LP2}(net:ZD (1:Nat) ns ws)(hg:1<=g)(hi:i<ns.length)(pol:Pol ns i rs)(ro:Ro rs)(h:FOk g fine ns [(true,i)] [s] (.out r vs)):rs.filter (inB g s)=[]/\hmN g lo rs [s]=0:=by
 have n:∀x∈rs,¬ inB g s x=true:=λx hx px=>BX net (e:=[s]) (P:=[x]) rfl rfl hg (λq hq=>by cases zH.mp hq;exact hi) (S7 ro.nn hx) (WK.mpr (XS.mp px)) (Jd net hi pol ro.nn hx) h
 exact⟨tN.mpr n,List.countP_eq_zero.mpr λx hx hm=>n x hx (GC (rs:=rs) hm)⟩
theorem hole (a b c:Int):∃j:Int,0<=j/\j<=3/\j≠a/\j≠b/\j≠c:=by
 by_cases h0:0≠a/\0≠b/\0≠c
 .exact⟨0,()⟩
 by_cases h1:1≠a/\1≠b/\1≠c
 .exact⟨1,()⟩
 by_cases h2:2≠a/\2≠b/\2≠c
 .exact⟨2,()⟩
 exact⟨3,()⟩
theorem U6 (x g:Int){r:Int×Int}(hr:1<=r.2):∃a:Int,∀j:Int,(4*x+j)*r.2=r.1*(4*g)->j=a:=by
 by_cases c:∃j:Int,(4*x+j)*r.2=r.1*(4*g)
 .obtain⟨a,ha⟩:=c;refine⟨a,λj hj=>?_⟩;have z:=uM (show r.2≠0 by lia) (hj.trans ha.symm);lia
 .exact⟨0,λj hj=>absurd ⟨j,hj⟩ c⟩
theorem holes (x g:Int):∀ {rs:LP2},rs.length<=3->(∀r∈rs,1<=r.2)->∃j:Int,0<=j/\j<=3/\∀r∈rs,(4*x+j)*r.2≠r.1*(4*g)
 | [],_,_=>⟨0,⋯,⋯,λ_ h=>nomatch h⟩
 | [r],_,h=>by
  obtain⟨a,ha⟩:=U6 x g (h r (by simp));obtain⟨j,j0,j3,n1,n2,n3⟩:=hole a a a;refine⟨j,j0,j3,λq hq e=>?_⟩;simp only[zS,xU,or_false] at hq;subst hq;exact n1 (ha j e)
 | [r,t],_,h=>by
  obtain⟨a,ha⟩:=U6 x g (h r (by simp));obtain⟨b,hb⟩:=U6 x g (h t (by simp));obtain⟨j,j0,j3,n1,n2,n3⟩:=hole a b b;refine⟨j,j0,j3,λq hq e=>?_⟩;simp only[zS,xU,or_false] at hq;rcases hq with rfl|rfl
  .exact n1 (ha j e)
  .exact n2 (hb j e)
 | [r,t,u],_,h=>by
  obtain⟨a,ha⟩:=U6 x g (h r (by simp));obtain⟨b,hb⟩:=U6 x g (h t (by simp));obtain⟨c,hc⟩:=U6 x g (h u (by simp));obtain⟨j,j0,j3,n1,n2,n3⟩:=hole a b c;refine⟨j,j0,j3,λq hq e=>?_⟩;simp only[zS,xU,or_false] at hq;rcases hq with rfl|rfl|rfl
  .exact n1 (ha j e)
  .exact n2 (hb j e)
  .exact n3 (hc j e)
theorem Ap {vs:LP2}(net:ZD (1:Nat) ns ws)(sb:Spn 51 [s])(hg:1<=g/\g<=1000000)(hi:i<ns.length)(pol:Pol ns i rs)(ro:Ro rs)(h:FOk g fine ns [(true,i)] [s] (.full vs)):s.1=s.2/\∃r,rs.filter (inB g s)=[r]:=by
 obtain⟨s1,s2,s3⟩:=sb s (zH.mpr rfl);have su:(gt (Zo [s] g ns) (i:Int)).1=0/\(gt (Zo [s] g ns) (i:Int)).2=0:=by
  have z:=h.2.2;simpa [suS,suB] using z
 have zr:∀p:Int×Int,InW g [s] [p]->Pz 110 [p]->∃r∈rs,rt p=rt r:=λp ip zp=>by
  have z:=R5 net (bs:=[s]) (ps:=[p]) rfl rfl hg.1 ip zp ns.length (zA _);rw[yE] at z;have w:=z (i:Int) ⟨(),by rw[Xf];lia⟩;rw[su.1,su.2,wQ] at w;have e:(gt (Zt [p] ns) (i:Int)).1=0:=by
   rcases Int.mul_eq_zero.mp (vR w.2 w.1) with e|e
   .exact e
   .lia
  exact(pol.zero (zp p (zH.mpr rfl)).1).mp ((Lk (FP net hi zp)).mpr e)
 have zg:Sz 21 g:=Sz.of 1000000 ()
 have e12:s.1=s.2:=Classical.byContradiction λne=>by
  obtain⟨j,j0,j3,nj⟩:=holes s.1 g ro.l3 λr hr=>(ro.nn r hr).1
  have k1:s.1*(4*g)<=(4*s.1+j)*g:=by
   have:=yG j0 (show 0<=g by lia);rw[Int.add_mul,<- xO,yN s.1 4];lia
  have k2:(4*s.1+j)*g<=s.2*(4*g):=by
   rw[<- xO];exact zK () ()
  obtain⟨r,hr,e⟩:=zr (4*s.1+j,4*g) (WK.mpr ⟨k1,k2⟩) (Tn (by show 1<=4*g;lia) ((((Sz.of (n:=3) 4 ⋯:Sz 3 4).mul s2).add (Sz.of (n:=2) 3 ():Sz 2 j)).mono ⋯) (((Sz.of (n:=3) 4 ⋯:Sz 3 4).mul zg).mono ⋯));exact nj r hr (Nz (by show 1<=4*g;lia) (ro.nn r hr).1 e)
 obtain⟨r,hr,e⟩:=zr (s.1,g) (WK.mpr ⟨zQ _,by show s.1*g<=s.2*g;rw[e12];exact zQ _⟩) (Tn hg.1 (s2.mono ⋯) (zg.mono ⋯));have er:=Nz hg.1 (ro.nn r hr).1 e
 have er':s.1*r.2=r.1*g:=er;obtain⟨r',_,ef⟩:=Lz (P:=inB g s) ro.nd ⟨r,hr,XS.mpr ⟨(),by rw[<- e12];lia⟩⟩ λx hx y hy px py=>by
  have a:=XS.mp px
  have b:=XS.mp py;rw[<- e12] at a b;have x1:=ro.nn x hx
  have y1:=ro.nn y hy;refine GO x1.1 y1.1 x1.2.1 y1.2.1 ?_;have a':x.1*g=s.1*x.2:=vR a.2 a.1
  have b':y.1*g=s.1*y.2:=vR b.2 b.1;refine uM (show g≠0 by lia) ?_;rw[xP,a',xP y.1,b',xO,xO,yN x.2]
 exact⟨e12,r',ef⟩
def Rg (g:Int)(rs:LP2)(s:Int×Int):Ft->Prop
 | .out _ _=>rs.filter (inB g s)=[]
 | .one vs=>∃r b,rs.filter (inB g s)=[r]/\vs=[b]/\s.1<b.1/\b.2<s.2/\inB g b r=true
 | .full _=>s.1=s.2/\∃r,rs.filter (inB g s)=[r]
 | _=>True
theorem zhK {s0:Int×Int}{es:List LP2}{fs:List Ft}(net:ZD (1:Nat) ns ws)(sb:Spn 51 [s0])(hg:1<=g/\g<=1000000)(hi:i<ns.length)(pol:Pol ns i rs)(ro:Ro rs)(h:Bks g fine ns [(true,i)] [s0] es fs):
  (∀(j:Nat)(e:LP2)(f:Ft),es[j]?=some e->fs[j]?=some f->∃s,e=[s]/\Rg g rs s f/\Hm (hmN g s0.1 rs [s]) f)/\fs.countP isO<=rs.countP (inB g s0)/\(fs.any isW=false->fs.countP isO+fs.countP isF=rs.countP (inB g s0)):=by
 have ct:=h.count (rs:=rs) sb λr hr=>(ro.nn r hr).1
 have ok:=h.ok sb
 have all:∀(j:Nat)(e:LP2)(f:Ft),es[j]?=some e->fs[j]?=some f->∃s,e=[s]/\Rg g rs s f/\Hm (hmN g s0.1 rs [s]) f:=λj e f he hf=>by
  have se:=(ok.2 e (zF he)).2;obtain⟨s,rfl,hs⟩:∃s,e=[s]/\(s=s0\/s.1<s.2):=by
   rcases ct.box e (zF he) with rfl|⟨s,rfl,a,_⟩
   .exact⟨s0,rfl,.inl rfl⟩
   .exact⟨s,rfl,.inr a⟩
  refine⟨s,rfl,?_⟩;rcases h.small.2 j _ f he hf with rfl|⟨k,p,a,b,rfl⟩|fo
  .exact⟨trivial,trivial⟩
  .exact⟨trivial,trivial⟩
  .cases f with
   | wait=>exact fo.elim
   | cut=>exact fo.elim
   | small=>exact⟨trivial,trivial⟩
   | one vs=>
    obtain⟨M,o,rfl⟩:=fo;obtain⟨⟨r,b,z⟩,z2⟩:=zbb (lo:=s0.1) net se hg hi pol ro o;exact⟨⟨r,b,z⟩,z2⟩
   | out r vs=>exact zfN net hg.1 hi pol ro fo
   | full vs=>
    have z:=Ap net se hg hi pol ro fo;refine⟨z,?_⟩;rcases hs with rfl|hs
    .obtain⟨_,r,e⟩:=z;show hmN g s.1 rs [s]=1;rw[Ds,uP,e];rfl
    .lia
 have w:=E5 (g:=g) (lo:=s0.1) (rs:=rs) ok.1 λj f e hf he=>by
  obtain⟨s,rfl,_,z⟩:=all j e f he hf;exact z
 rw[ct.sum,Ds] at w;exact⟨all,w⟩
end
def Rp (ns:List Nd)(j:Nat)(F:Rat->Rat):Prop:=∀p:Int×Int,1<=p.2->1<=(gt (Zt [p] ns) (j:Int)).2/\rt (gt (Zt [p] ns) (j:Int))=F (rt p)
section
variable {ns ns':List Nd}{ws ws':List Nat}{q a c i k j:Nat}{S T:Sto}{F G:Rat->Rat}
theorem Rp.gr (h:Rp ns i F)(g:Gr q a c S ns ws T ns' ws')(hi:i<ns.length):Rp ns' i F:=λp hp=>by
 rw[g.due [p] hi];exact h p hp
theorem OB {x y:Int}(h:1<=x)(k:1<=y):1<=x*y:=by
 have:=xW (show 0<x by lia) (show 0<y by lia);lia
theorem Jc {t b:Int}(e:∀P,gt (Zt P ns') (j:Int)=(Nd.number t b).due (Zt P ns) P)(hb:1<=b):Rp ns' j λ_=>rt (t,b):=λp hp=>by
 rw[e];exact⟨hb,rfl⟩
theorem za3 (e:∀P,gt (Zt P ns') (j:Int)=(Nd.minus (i:Int) (k:Int)).due (Zt P ns) P)(h1:Rp ns i F)(h2:Rp ns k G):Rp ns' j λx=>F x-G x:=λp hp=>by
 rw[e];obtain⟨a1,a2⟩:=h1 p hp;obtain⟨b1,b2⟩:=h2 p hp;exact⟨OB a1 b1,by show _=F (rt p)-G (rt p);rw[<- a2,<- b2];exact(XY a1 b1).2.1⟩
theorem zes (e:∀P,gt (Zt P ns') (j:Int)=(Nd.plus (i:Int) (k:Int)).due (Zt P ns) P)(h1:Rp ns i F)(h2:Rp ns k G):Rp ns' j λx=>F x+G x:=λp hp=>by
 rw[e];obtain⟨a1,a2⟩:=h1 p hp;obtain⟨b1,b2⟩:=h2 p hp;exact⟨OB a1 b1,by show _=F (rt p)+G (rt p);rw[<- a2,<- b2];exact(XY a1 b1).1⟩
theorem HW (e:∀P,gt (Zt P ns') (j:Int)=(Nd.times (i:Int) (k:Int)).due (Zt P ns) P)(h1:Rp ns i F)(h2:Rp ns k G):Rp ns' j λx=>F x*G x:=λp hp=>by
 rw[e];obtain⟨a1,a2⟩:=h1 p hp;obtain⟨b1,b2⟩:=h2 p hp;exact⟨OB a1 b1,by show _=F (rt p)*G (rt p);rw[<- a2,<- b2];exact(XY a1 b1).2.2⟩
theorem zcK (e:∀P,gt (Zt P ns') (j:Int)=(Nd.power (i:Int) 2).due (Zt P ns) P)(h1:Rp ns i F):Rp ns' j λx=>F x*F x:=λp hp=>by
 rw[e];obtain⟨a1,a2⟩:=h1 p hp;have s2:∀x:Int,x^Int.toNat 2=x*x:=λx=>by rw[show Int.toNat 2=2 from rfl,zV,zV,xV,vO]
 have z:(Nd.power (i:Int) 2).due (Zt [p] ns) [p]=((gt (Zt [p] ns) (i:Int)).1*(gt (Zt [p] ns) (i:Int)).1,(gt (Zt [p] ns) (i:Int)).2*(gt (Zt [p] ns) (i:Int)).2):=by
  show (_^Int.toNat 2,_^Int.toNat 2)=_;rw[s2,s2]
 rw[z];exact⟨OB a1 a1,by show _=F (rt p)*F (rt p);rw[<- a2];exact(XY a1 a1).2.2⟩
theorem zbA:Rp [.unknown 0] 0 λx=>x:=λp hp=>⟨hp,rfl⟩
theorem Br {c x:Rat}{rs:LP2}{r:Int×Int}:fpQ c (rs++[r]) x=fpQ c rs x*(x-rt r):=by
 unfold fpQ;rw[wB];rfl
theorem zdp {t b:Int}(ht:1<=t)(hb:1<=b):0<rt (t,b):=by
 have h:(0:Rat)<(b:Rat):=Rat.intCast_pos.mpr ()
 have k:(0:Rat)<(t:Rat):=Rat.intCast_pos.mpr ()
 show 0<(t:Rat)/(b:Rat);rw[Rat.div_def];exact Rat.mul_pos k (Rat.inv_pos.mpr h)
theorem DJ {t b:Int}(ht:t≠0)(hb:1<=b):rt (t,b)≠0:=λz=>ht ((Lk (p:=(t,b)) hb).mp z)
theorem zb8 {m x:Rat}(h:0<m):0<x*x+m:=by
 have tt:0<=x*x:=by
  rcases Rat.le_total (a:=0) (b:=x) with k|k
  .exact Rat.mul_nonneg k k
  .have:=Rat.mul_nonneg (show (0:Rat)<=-x by grind) (show (0:Rat)<=-x by grind);grind
 grind
theorem Rp.pol {rs:LP2}{c:Rat}(hc:c≠0)(h:Rp ns j λx=>fpQ c rs x):Pol ns j rs:=⟨c,λ_=>1,hc,λ_=>(by decide:(0:Rat)<1),λp hp=>by rw[(h p hp).2,Rat.one_mul]⟩
theorem Rp.polm {rs:LP2}{c m:Rat}(hc:c≠0)(hm:0<m)(h:Rp ns j λx=>(x*x+m)*fpQ c rs x):Pol ns j rs:=⟨c,λx=>x*x+m,hc,λx=>zb8 hm,λp hp=>(h p hp).2⟩
end
theorem GU (w:Str):∀ws:List Str,Y8 (eqN 0) (ws.map D.str) (.str w)=some (ws.any (·==w))
 | []=>rfl
 | x::ws=>by
  show (match eqF (.str x) (.str w),Y8 (eqN 0) (ws.map D.str) (.str w) with|some b,some c=>some (b||c)|_,_=>none)=_;rw[GU w ws];show some (decide (x=w)||ws.any (·==w))=some ((x==w)||ws.any (·==w));by_cases c:x=w
  .rw[decide_eq_true c,beq_iff_eq.mpr c]
  .rw[decide_eq_false c,beq_eq_false_iff_ne.mpr c]
theorem Sq {neg:Bool}{n:Nat}{S:Sto}{Q:DK}{ws:List Str}{w:Str}(ho:S[n]?=some (.lst (ws.map D.str)))(hq:Q (.bl (if neg then !ws.any (·==w) else ws.any (·==w))) S):Yq (wIn 0 neg) (.str w) (.ref n) S Q:=by
 rw[YX];unfold wIn;simp only[ZO ho rfl,Zk,GU];exact hq
def wiD (g:Int)(s:Int×Int)(x:D):Option D:=match x with
 | .tup [.int a,.int b]=>if inB g s (a,b)=true then some x else none
 | _=>none
theorem Sx {g:Int}{s r:Int×Int}:wiD g s (frD r)=if inB g s r=true then some (frD r) else none:=rfl
theorem Ky {g:Int}{s:Int×Int}:∀rs:LP2,(rs.map frD).filterMap (wiD g s)=(rs.filter (inB g s)).map frD
 | []=>rfl
 | r::rs=>by
  rw[yM,wZ,Sx,List.filter_cons,Ky rs];cases inB g s r<;>rfl
theorem Co {xs:List D}{i:Int}(k:Nat){d:D}{S:Sto}{Q:DK}(hi:i=(k:Int))(h:xs[k]?=some d)(hq:Q d S):Yq wIx (.tup xs) (.int i) S Q:=by
 subst hi;exact KL h hq
theorem Lq (h:S[n]?=some (.frz xs))(hq:Q (.int (xs.length:Nat)) S):irr UQ [.ref n] S Q:=by
 rw[V1];unfold UQ;simp only[ZO h rfl];exact hq
theorem J8 {ns:List Int}{k:Int}(h0:0<=k)(h1:k<(ns.length:Int)):atI (ns.map D.int) k=some (.int (ns.getD k.toNat 0)):=by
 have hk:k.toNat<ns.length:=by lia
 have z:=Yx (xs:=ns.map D.int) (j:=k.toNat) (v:=.int (ns.getD k.toNat 0)) (by simp[hk]);rw[show ((k.toNat:Nat):Int)=k by lia] at z;exact z
theorem CJ {i:Int}(h:0<=i/\i<5):∃(k:Nat)(b:Int),i=(k:Int)/\(1<=b/\b<=5)/\[D.int 1,D.int 1,D.int 2,D.int 3,D.int 5][k]?=some (.int b):=by
 obtain⟨h0,h5⟩:=h;have z:i=0\/i=1\/i=2\/i=3\/i=4:=by lia
 rcases z with rfl|rfl|rfl|rfl|rfl
 .exact⟨0,1,rfl,⋯,rfl⟩
 .exact⟨1,1,rfl,⋯,rfl⟩
 .exact⟨2,2,rfl,⋯,rfl⟩
 .exact⟨3,3,rfl,⋯,rfl⟩
 .exact⟨4,5,rfl,⋯,rfl⟩
theorem ES {α:Type}{xs:List α}{x:α}(h:xs.Nodup)(n:x ∉ xs):(xs++[x]).Nodup:=List.nodup_append.mpr ⟨h,by simp,λa ha b hb e=>n (by cases zH.mp hb;exact e ▸ ha)⟩
theorem DU {xs:LP2}{x:Int×Int}(h:Nn xs)(k:1<=x.2/\Int.gcd x.1 x.2=1/\x.1.natAbs<=999999999/\x.2<=999999999):Nn (xs++[x]):=λp hp=>(yI.mp hp).elim (h p) λz=>by cases zH.mp z;exact k
theorem zfR {v:Nd}{ns:List Nd}{n:Nat}{S:Sto}{Q:DK}{o:Option Nat}(h:S[n]?=some (.lst (ns.map Nd.d)))(e:Y8 (eqN 1) (ns.map Nd.d) v.d=some o.isSome)(hq:Q (.bl o.isSome) S):Yq (wIn 1 false) v.d (.ref n) S Q:=by
 rw[YX];unfold wIn;simp only[ZO h rfl,Zk,e];exact hq
theorem zdy (p r:Int×Int):eqN 1 (frD p) (frD r)=some (decide (p=r)):=by
 show some (decide (p.1=r.1)&&(decide (p.2=r.2)&&true))=_;rw[Bool.and_true,<- Bool.decide_and];exact congrArg some (decide_eq_decide.mpr (by rw[Prod.ext_iff]))
theorem Fe (r:Int×Int):∀rs:LP2,Y8 (eqN 1) (rs.map frD) (frD r)=some (decide (r∈rs))
 | []=>rfl
 | p::rs=>by
  rw[yM,Y8,zdy,Fe r rs];show some (decide (p=r)||decide (r∈rs))=_;rw[<- Bool.decide_or];exact congrArg some (decide_eq_decide.mpr (by rw[zS,eq_comm]))
theorem E1 {r:Int×Int}{rs:LP2}{n:Nat}{S:Sto}{Q:DK}(h:S[n]?=some (.lst (rs.map frD)))(hq:Q (.bl (!decide (r∈rs))) S):Yq (wIn 1 true) (frD r) (.ref n) S Q:=by
 rw[YX];unfold wIn;simp only[ZO h rfl,Zk,Fe];exact hq
theorem JW {S:Sto}{d:D}:∀ {f:Ft},SA S d f->∃l,d=.tup (.str (Fw f)::l)
 | .wait,h=>⟨_,h⟩
 | .small,⟨_,_,h⟩=>⟨_,h⟩
 | .one _,⟨_,_,_,_,_,_,_,h,_⟩=>⟨_,h⟩
 | .cut _ _ _ _,⟨_,_,h⟩=>⟨_,h⟩
 | .out _ _,⟨_,_,_,h,_⟩=>⟨_,h⟩
 | .full _,⟨_,_,_,h,_⟩=>⟨_,h⟩
theorem zei {S T:Sto}{d:D}{f:Ft}(p:Pre S T)(h:SA S d f):SA T d f:=by
 cases f with
 | wait=>exact h
 | _=>obtain⟨a,b,h⟩:=h;exact⟨a,b,h.cg (.pre p)⟩
theorem EO:∀n:Nat,YM (List.replicate n (D.bl true))=some (List.replicate n true)
 | 0=>rfl
 | n+1=>by
  show (YM (List.replicate n (D.bl true))).map _=_;rw[EO n];rfl
def wdD:D->D
 | .tup [_,.tup (x::_)]=>x
 | _=>.non
theorem zam {T:Sto}{ds:List D}{es:List LP2}{fs:List Ft}(h:En T ds es fs):ds.map wdD=(fs.map Fw).map D.str:=by
 obtain⟨l1,l2,h⟩:=h;refine xX λi=>?_
 rw[zG,yF,zG];by_cases li:i<fs.length
 .obtain⟨m,d,e1,_,e3⟩:=h i _ _ (zE (show i<es.length by lia)) (zE li);obtain⟨l,rfl⟩:=JW e3;rw[e1,zE li];rfl
 .rw[yS (),yS ()];rfl
theorem zdK (fs:List Ft):(fs.map Fw).countP (·==("one":Str))=fs.countP isO/\(fs.map Fw).countP (·==("full":Str))=fs.countP isF/\((fs.map Fw).any (·==("small":Str))||(fs.map Fw).any (·==("waits":Str)))=fs.any isW:=by
 induction fs with
 | nil=>exact⟨rfl,rfl,rfl⟩
 | cons f fs ih=>
  obtain⟨a,b,c⟩:=ih;rw[yM,xB,xB,xB,xB,vS,vS,vS,a,b,<- c];cases f<;>exact⟨rfl,rfl,by first|rfl|simp[Fw,isW]⟩
structure DZ (K:Fg)(mg:Str->Option Value) where
 C:Addr
 m:mg "Book"=some (.ref C)
 cl:Cls K C
 n_fates:Ym K C "fates"
 n_boxes:Ym K C "boxes"
 makes:W.makesIn K C=true
 kp:W.keepIn K (.ref C)=true
structure Dy (K:Fg)(mg:Str->Option Value) where
 C:Addr
 m:mg "Number"=some (.ref C)
 cl:Cls K C
 n_bottom:Ym K C "bottom"
 n_top:Ym K C "top"
 makes:W.makesIn K C=true
 kp:W.keepIn K (.ref C)=true
structure JR (K:Fg)(mg:Str->Option Value) where
 C:Addr
 m:mg "Unknown"=some (.ref C)
 cl:Cls K C
 n_place:Ym K C "place"
 makes:W.makesIn K C=true
 kp:W.keepIn K (.ref C)=true
structure Eg (K:Fg)(mg:Str->Option Value) where
 C:Addr
 m:mg "Plus"=some (.ref C)
 cl:Cls K C
 n_other:Ym K C "other"
 n_one:Ym K C "one"
 makes:W.makesIn K C=true
 kp:W.keepIn K (.ref C)=true
structure EJ (K:Fg)(mg:Str->Option Value) where
 C:Addr
 m:mg "Minus"=some (.ref C)
 cl:Cls K C
 n_other:Ym K C "other"
 n_one:Ym K C "one"
 makes:W.makesIn K C=true
 kp:W.keepIn K (.ref C)=true
structure Hs (K:Fg)(mg:Str->Option Value) where
 C:Addr
 m:mg "Times"=some (.ref C)
 cl:Cls K C
 n_other:Ym K C "other"
 n_one:Ym K C "one"
 makes:W.makesIn K C=true
 kp:W.keepIn K (.ref C)=true
structure J9 (K:Fg)(mg:Str->Option Value) where
 C:Addr
 m:mg "Power"=some (.ref C)
 cl:Cls K C
 n_many:Ym K C "many"
 n_one:Ym K C "one"
 makes:W.makesIn K C=true
 kp:W.keepIn K (.ref C)=true
class Ev5 where
 P:Program
 w:World
 K:Fg
 mg:Str->Option Value
 base:Heap
 c0:DZ K mg
 c1:Dy K mg
 c2:JR K mg
 c3:Eg K mg
 c4:EJ K mg
 c5:Hs K mg
 c6:J9 K mg
 y0:mg "abs"=none
 y1:mg "all"=none
 y2:mg "enumerate"=none
 y3:mg "int"=none
 y4:mg "len"=none
 y5:mg "list"=none
 y6:mg "max"=none
 y7:mg "min"=none
 y8:mg "range"=none
 y9:mg "sum"=none
 y10:mg "zip"=none
abbrev Zn [e:Ev5]:=e.c0
abbrev ZW [e:Ev5]:=e.c1
abbrev ZX [e:Ev5]:=e.c2
abbrev ZZ [e:Ev5]:=e.c3
abbrev Z2 [e:Ev5]:=e.c4
abbrev Z1 [e:Ev5]:=e.c5
abbrev ZJ [e:Ev5]:=e.c6
theorem RN [e:Ev5]:type_of% e.y0:=e.y0
theorem UL [e:Ev5]:type_of% e.y1:=e.y1
theorem X3 [e:Ev5]:type_of% e.y2:=e.y2
theorem LV [e:Ev5]:type_of% e.y3:=e.y3
theorem YJ [e:Ev5]:type_of% e.y4:=e.y4
theorem Si [e:Ev5]:type_of% e.y5:=e.y5
theorem Y5 [e:Ev5]:type_of% e.y6:=e.y6
theorem Wf [e:Ev5]:type_of% e.y7:=e.y7
theorem XO [e:Ev5]:type_of% e.y8:=e.y8
theorem UZ [e:Ev5]:type_of% e.y9:=e.y9
theorem VW [e:Ev5]:type_of% e.y10:=e.y10
abbrev Nd.oz [Ev5] (v:Nd):Ob:=v.ob ZW.C ZX.C ZZ.C Z2.C Z1.C ZJ.C
structure Pr [e:Ev5] (C:Addr)(c:Int->Int->Nd):Prop where
 cl:Cls e.K C
 o:Ym e.K C "one"
 t:Ym e.K C "other"
 b:∀i j,(c i j).oz=.ins C [("one",.int i),("other",.int j)]
 k:∀m q i j,(c i j).ok m q=(inR m i/\inR m j)
theorem KC [Ev5]:Pr ZZ.C .plus:=⟨ZZ.cl,ZZ.n_one,ZZ.n_other,λ_ _=>rfl,λ_ _ _ _=>rfl⟩
theorem Mb [Ev5]:Pr Z2.C .minus:=⟨Z2.cl,Z2.n_one,Z2.n_other,λ_ _=>rfl,λ_ _ _ _=>rfl⟩
theorem NK [Ev5]:Pr Z1.C .times:=⟨Z1.cl,Z1.n_one,Z1.n_other,λ_ _=>rfl,λ_ _ _ _=>rfl⟩
def aN (p:Prop):List D->Prop
 | []=>p
 | _=>False
theorem Pp {p:Prop}:∀ {ds:List D},aN p ds->ds=[]/\p
 | [],h=>⟨rfl,h⟩
 | _::_,h=>h.elim
theorem nN {p:Prop}{ds:List D}(h:aN p ds):ds.length=0:=by rw[(Pp h).1];rfl
def aR (f:Nat->List D->Prop):List D->Prop
 | .ref a::r=>f a r
 | _=>False
theorem aR_e {f:Nat->List D->Prop}{ds:List D}(h:aR f ds):∃a r,ds=.ref a::r/\f a r:=by
 match ds,h with
 | .ref a::r,h=>exact⟨a,r,rfl,h⟩
theorem nR {f:Nat->List D->Prop}{n:Nat}(k:∀a {r:List D},f a r->r.length=n){ds:List D}(h:aR f ds):ds.length=n+1:=by
 obtain⟨a,r,rfl,h⟩:=aR_e h;rw[zX,k a h]
def aI (f:Int->List D->Prop):List D->Prop
 | .int a::r=>f a r
 | _=>False
theorem aI_e {f:Int->List D->Prop}{ds:List D}(h:aI f ds):∃a r,ds=.int a::r/\f a r:=by
 match ds,h with
 | .int a::r,h=>exact⟨a,r,rfl,h⟩
theorem nI {f:Int->List D->Prop}{n:Nat}(k:∀a {r:List D},f a r->r.length=n){ds:List D}(h:aI f ds):ds.length=n+1:=by
 obtain⟨a,r,rfl,h⟩:=aI_e h;rw[zX,k a h]
def aS (f:Str->List D->Prop):List D->Prop
 | .str a::r=>f a r
 | _=>False
theorem aS_e {f:Str->List D->Prop}{ds:List D}(h:aS f ds):∃a r,ds=.str a::r/\f a r:=by
 match ds,h with
 | .str a::r,h=>exact⟨a,r,rfl,h⟩
theorem nS {f:Str->List D->Prop}{n:Nat}(k:∀a {r:List D},f a r->r.length=n){ds:List D}(h:aS f ds):ds.length=n+1:=by
 obtain⟨a,r,rfl,h⟩:=aS_e h;rw[zX,k a h]
def aP (f:Int->Int->List D->Prop):List D->Prop
 | .tup [.int a,.int b]::r=>f a b r
 | _=>False
theorem aP_e {f:Int->Int->List D->Prop}{ds:List D}(h:aP f ds):∃a b r,ds=.tup [.int a,.int b]::r/\f a b r:=by
 match ds,h with
 | .tup [.int a,.int b]::r,h=>exact⟨a,b,r,rfl,h⟩
theorem nP {f:Int->Int->List D->Prop}{n:Nat}(k:∀a b {r:List D},f a b r->r.length=n){ds:List D}(h:aP f ds):ds.length=n+1:=by
 obtain⟨a,b,r,rfl,h⟩:=aP_e h;rw[zX,k a b h]
def aT (f:Str->Int->List D->Prop):List D->Prop
 | .tup [.str a,.int b]::r=>f a b r
 | _=>False
theorem aT_e {f:Str->Int->List D->Prop}{ds:List D}(h:aT f ds):∃a b r,ds=.tup [.str a,.int b]::r/\f a b r:=by
 match ds,h with
 | .tup [.str a,.int b]::r,h=>exact⟨a,b,r,rfl,h⟩
theorem nT {f:Str->Int->List D->Prop}{n:Nat}(k:∀a b {r:List D},f a b r->r.length=n){ds:List D}(h:aT f ds):ds.length=n+1:=by
 obtain⟨a,b,r,rfl,h⟩:=aT_e h;rw[zX,k a b h]
def aD (f:D->List D->Prop):List D->Prop
 | a::r=>f a r
 | []=>False
theorem aD_e {f:D->List D->Prop}:∀ {ds:List D},aD f ds->∃a r,ds=a::r/\f a r
 | a::r,h=>⟨a,r,rfl,h⟩
 | [],h=>h.elim
theorem nD {f:D->List D->Prop}{n:Nat}(k:∀a {r:List D},f a r->r.length=n){ds:List D}(h:aD f ds):ds.length=n+1:=by
 obtain⟨a,r,rfl,h⟩:=aD_e h;rw[zX,k a h]
theorem eD {f:D->Prop}{ds:List D}(h:(aD λa0=>aN (f a0)) ds):∃a0,ds=[a0]/\f a0:=by
 obtain⟨a0,_,e0,h⟩:=aD_e h;obtain⟨e,h⟩:=Pp h;exact⟨a0,by rw[e0,e],h⟩
theorem eR {f:Nat->Prop}{ds:List D}(h:(aR λa0=>aN (f a0)) ds):∃a0,ds=[.ref a0]/\f a0:=by
 obtain⟨a0,_,e0,h⟩:=aR_e h;obtain⟨e,h⟩:=Pp h;exact⟨a0,by rw[e0,e],h⟩
abbrev Gg (g:Int):Prop:=1<=g/\g<=1000000
theorem rmn {j k:Nat}{A:Around}(r:ZF k A)(h:j<=k:=by decide):ZF j A:=r.mono h
theorem piv {X:Cx}{Z:Zx}(i:Nat){x:Str}{n:Int}{j p q p2}(h:PD X Z (.Name x p) (Y9 i):=by exact dv _)(hs:UP (.Constant (.int n) j q):=by exact λ_ _=>rfl):PD X Z (.Subscript (.Name x p) (.Constant (.int n) j q) p2) (dOp wIx (Y9 i) (dC (.int n))):=Tb h Zb hs
theorem pt0 {Y:List (Str×Addr)->Addr->Shared->Hp->List Addr->LA->Cx}(a b c d e f):WH (Y a b c d e f) [] YW:=C4
abbrev sR (n:Nat):Option D:=some (.ref n)
abbrev sI (n:Int):Option D:=some (.int n)
abbrev La (S:Sto)(n:Nat)(xs:List D):Prop:=S[n]?=some (.lst xs)
abbrev mSx (f:Sto->DK->(Addr->Sto->Prop)->List D->Prop):Sd:=λds S Q ex=>f S Q ex ds
def Dg [Ev5]:Sd:=mSx λS Q ex=>aR λn=>aR λx=>aN (∃(T:Sto)(b0:LI),S=T++[.ins Zn.C []]/\n=T.length/\La T x (b0.map frD)/\∀(U:Sto)(a b:Nat),T.length<a->T.length<b->Pre T U->Bk Zn.C U n a b [b0] [.wait]->Q .non U)
def HP [Ev5]:Sd:=mSx λS Q ex=>aR λn=>aN (∃(a b:Nat)(es:List LI)(fs:List Ft),Bk Zn.C S n a b es fs/\es.length<=900/\∀(T:Sto)(ds:List D),Pre S T->La T S.length ds->En T ds es fs->Q (.ref S.length) T)
def GY:Sd:=mSx λS Q ex=>aP λa b=>aN (Q (.int (b-a)) S)
def O5:Sd:=mSx λS Q ex=>aR λn=>aN (∃bs:LI,La S n (bs.map frD)/\bs.length<=900/\Q (.ref S.length) (S++[.lst ((bs.map wd).map D.int)]))
def Qs:Sd:=mSx λS Q ex=>aR λn=>aN (∃bs:LI,La S n (bs.map frD)/\bs.length<=900/\∀(m:Int)(T:Sto),Pre S T->Wst bs m->Q (.int m) T)
def Jh [Ev5]:Sd:=mSx λS Q ex=>aR λn=>aN (∃(a b t:Nat)(es:List LI)(fs:List Ft),Bk Zn.C S n a b es fs/\S[t]?=some (.cod LT LP LQ)/\es.length<=900/\(∀e∈es,e.length<=900)/\((∀f∈fs,f≠.wait)->∀T:Sto,Pre S T->Q .non T)/\∀(i:Nat)(T:Sto),fs[i]?=some .wait->Pre S T->Q (.int (i:Int)) T)
def Lx:Sd:=mSx λS Q ex=>aS λw=>aP λa b=>aN ((w="zero"/\Q (.bl (decide (0<a)||decide (b<0))) S)\/(w="least"/\Q (.bl (decide (b<0))) S))
def GL:Sd:=mSx λS Q ex=>aP λa b=>aP λc d=>aN ((IntMulOk a d/\IntMulOk c b)/\Q (.bl (decide (a*d<c*b))) S)
def SX:Sd:=mSx λS Q ex=>aI λt=>aI λb=>aN (CFd 0 b/\Q (.int (-(-t/b))) S)
def E2:Sd:=mSx λS Q ex=>aP λa b=>aP λc d=>aI λg=>aN (((IntMulOk c b/\IntMulOk a d)/\¬ c*b<a*d/\IntMulOk a g/\IntMulOk c g/\CFd 0 b/\CFd 0 d)/\Q (.tup [.int (a*g/b),.int (-(-(c*g)/d))]) S)
abbrev TF [Ev5] (S:Sto)(Q:DK)(n:Nat)(w:Nat)(p:Nat)(g:Int)(v:Nd):Prop:=∃(vs bs:LI),S[n]?=some (Nd.oz v)/\La S w (vs.map frD)/\La S p (bs.map frD)/\Nd.ok vs.length bs.length v/\Spn 1400 vs/\(Gg g)/\Q (frD (Nd.fw vs bs g v)) S
def Js [Ev5]:Sd:=mSx λS Q ex=>aR λn=>aR λw=>aR λp=>aI λg=>aN (∃(x y:Int),TF S Q n w p g (Nd.number x y))
def Ld [Ev5]:Sd:=mSx λS Q ex=>aR λn=>aR λw=>aR λp=>aI λg=>aN (∃(k:Int),TF S Q n w p g (Nd.unknown k))
def Vv:Sd:=mSx λS Q ex=>aP λa b=>aP λc d=>aN (Q (.tup [.int (a+c),.int (b+d)]) S)
def Ks [Ev5]:Sd:=mSx λS Q ex=>aR λn=>aR λw=>aR λp=>aI λg=>aN (∃(i j:Int),TF S Q n w p g (Nd.plus i j))
def W5:Sd:=mSx λS Q ex=>aP λa b=>aP λc d=>aN (Q (.tup [.int (a-d),.int (b-c)]) S)
def Lj [Ev5]:Sd:=mSx λS Q ex=>aR λn=>aR λw=>aR λp=>aI λg=>aN (∃(i j:Int),TF S Q n w p g (Nd.minus i j))
def Su:Sd:=mSx λS Q ex=>aP λa b=>aP λc d=>aI λg=>aN (((IntMulOk a c/\IntMulOk a d/\IntMulOk b c/\IntMulOk b d)/\CFd 0 g)/\∀mn mx:Int,Ur a b c d mn mx->Q (.tup [.int (mn/g),.int (-(-mx/g))]) S)
def N7 [Ev5]:Sd:=mSx λS Q ex=>aR λn=>aR λw=>aR λp=>aI λg=>aN (∃(i j:Int),TF S Q n w p g (Nd.times i j))
def Uj:Sd:=mSx λS Q ex=>aI λx=>aI λn=>aN ((0<=n/\n<=6/\Sz 2000 x)/\Q (.int (x^n.toNat)) S)
def Ly:Sd:=mSx λS Q ex=>aP λa b=>aI λn=>aI λg=>aN ((1<=n/\n<=6/\Sz 1400 a/\Sz 1400 b/\1<=g/\Sz 1400 g)/\∀m M:Int,Vj a b n.toNat m M->Q (.tup [.int (m/g^(n.toNat-1)),.int (-(-M/g^(n.toNat-1)))]) S)
def LF [Ev5]:Sd:=mSx λS Q ex=>aR λn=>aR λw=>aR λp=>aI λg=>aN (∃(i m:Int),TF S Q n w p g (Nd.power i m))
def Ui (C:Addr)(a b:Str):Sd:=mSx λS Q ex=>aR λn=>aD λx=>aD λy=>aN (∃T:Sto,S=T++[.ins C []]/\n=T.length/\Q .non (T++[.ins C [(a,x),(b,y)]]))
abbrev F1 [Ev5]:=Ui ZJ.C "one" "many"
abbrev Gq [Ev5]:=Ui ZW.C "top" "bottom"
def GK [Ev5]:Sd:=mSx λS Q ex=>aR λn=>aD λx=>aN (∃T:Sto,S=T++[.ins ZX.C []]/\n=T.length/\Q .non (T++[.ins ZX.C [("place",x)]]))
abbrev zg0 [Ev5]:=Ui ZZ.C "one" "other"
abbrev zec [Ev5]:=Ui Z2.C "one" "other"
abbrev zcw [Ev5]:=Ui Z1.C "one" "other"
def Om [Ev5]:Sd:=mSx λS Q ex=>aD λd=>aN (∃v:Nd,d=v.d/\Q (.ref S.length) (S++[v.oz]))
def Wo:Sd:=mSx λS Q ex=>aR λa=>aR λb=>aI λg=>aN (∃(ns:List Nd)(ws:List Nat)(bs:LI),La S a (ns.map Nd.d)/\La S b (bs.map frD)/\ZD bs.length ns ws/\Spn 51 bs/\(Gg g)/\ns.length<=70/\∀(T:Sto)(m:Nat),Pre S T->S.length<=m->La T m ((Zo bs g ns).map frD)->Q (.ref m) T)
def NV:Sd:=mSx λS Q ex=>aR λa=>aT λw k=>aR λb=>aI λg=>aN (∃(ns:List Nd)(ws:List Nat)(bs:LI)(zero:Bool),La S a (ns.map Nd.d)/\La S b (bs.map frD)/\rwW zero w/\inR ns.length k/\ZD bs.length ns ws/\Spn 51 bs/\(Gg g)/\ns.length<=70/\∀T:Sto,Pre S T->Q (.bl (ibS ns zero k.toNat bs g)) T)
def UT:Sd:=mSx λS Q ex=>aP λa b=>aP λc d=>aN ((VL (a,b) (c,d)=none->Q .non S)/\∀p,VL (a,b) (c,d)=some p->Q (frD p) S)
def Cd:Sd:=mSx λS Q ex=>aS λw=>aP λa b=>aN (∃zero:Bool,rwW zero w/\(Q .non S/\∀c d:Int,Le (a,b) c d->Q (.tup [.int c,.int d]) S))
abbrev QR [Ev5] (S:Sto)(Q:DK)(n:Nat)(w:Nat)(z0 z1:Int)(g:Int)(v:Nd):Prop:=∃(vs:LI)(q:Int),S[n]?=some (Nd.oz v)/\La S w (vs.map frD)/\Nd.ok vs.length q v/\(Bd 1000 vs/\(Sz 1000 z0/\Sz 1000 z1)/\(Gg g))/\Q .non S/\∀l,Ptw vs.length l->Q (.ref S.length) (S++[.lst (l.map ptD)])
def LK [Ev5]:Sd:=mSx λS Q ex=>aR λn=>aR λw=>aP λz0 z1=>aI λg=>aN (∃(x y:Int),QR S Q n w z0 z1 g (Nd.number x y))
def MK [Ev5]:Sd:=mSx λS Q ex=>aR λn=>aR λw=>aP λz0 z1=>aI λg=>aN (∃(k:Int),QR S Q n w z0 z1 g (Nd.unknown k))
def OR:Sd:=mSx λS Q ex=>aR λx_0=>aP λz0 z1=>aP λx0 x1=>aP λy0 y1=>aI λg=>aN ((Sz 1100 z0/\Sz 1100 z1/\Sz 1100 y0/\Sz 1100 y1/\Sz 30 g)/\(Q .non S/\∀a b:Int,Le (x0,x1) a b->Q (.tup [.int a,.int b]) S))
def PX:Sd:=mSx λS Q ex=>aR λx_0=>aP λz0 z1=>aP λx0 x1=>aP λy0 y1=>aI λg=>aN ((Sz 1100 z0/\Sz 1100 z1/\Sz 1100 x0/\Sz 1100 x1/\Sz 30 g)/\(Q .non S/\∀a b:Int,Le (y0,y1) a b->Q (.tup [.int a,.int b]) S))
def Qe [Ev5] (c:Int->Int->Nd):Sd:=mSx λS Q ex=>aR λn=>aR λw=>aP λz0 z1=>aI λg=>aN (∃(i j:Int),QR S Q n w z0 z1 g (c i j))
abbrev FW [Ev5]:=Qe .plus
abbrev CD:=OR
abbrev zcE:=PX
abbrev Dh [Ev5]:=Qe .minus
def Hc:Sd:=mSx λS Q ex=>aP λa b=>aN (Q (.bl (decide (a<=0)&&decide (0<=b))) S)
def K9:Sd:=mSx λS Q ex=>aP λx0 x1=>aP λl0 l1=>aP λh0 h1=>aN ((l0<=l1/\h0<=h1)/\(Q .non S/\∀a b:Int,Le (x0,x1) a b->Q (.tup [.int a,.int b]) S))
def Ge:Sd:=mSx λS Q ex=>aI λt=>aI λb=>aN (CFd 0 b/\Q (.tup [.int (t/b),.int (-(-t/b))]) S)
def Gj:Sd:=mSx λS Q ex=>aP λlo hi=>aP λx0 x1=>aP λc d=>aN ((0<=c/\0<d/\Sz 1400 c/\Sz 1400 d)/\(Q .non S/\∀a b:Int,Le (x0,x1) a b->Q (.tup [.int a,.int b]) S))
def Ih:Sd:=mSx λS Q ex=>aP λa b=>aP λc d=>aN (Q (.tup [.int (if c<a then c else a),.int (if d > b then d else b)]) S)
def Ti:Sd:=λds S Q ex=>match ds with
 | [.non,y]=>Q y S
 | [.tup [.int a,.int b],.non]=>Q (.tup [.int a,.int b]) S
 | [.tup [.int a,.int b],.tup [.int c,.int d]]=>Q (.tup [.int (if c<a then c else a),.int (if d > b then d else b)]) S
 | _=>False
theorem zh9:Ln (Ti) 2:=λds S Q ex h=>by unfold Ti at h;split at h<;>first|rfl|exact h.elim
def SG:Sd:=mSx λS Q ex=>aP λa b=>aN (Q (.tup [.int (-b),.int (-a)]) S)
def Lw:Sd:=mSx λS Q ex=>aP λz0 z1=>aP λx0 x1=>aP λy0 y1=>aI λg=>aN ((Sz 1100 z0/\Sz 1100 z1/\Sz 1100 y0/\Sz 1100 y1/\Sz 30 g)/\(Q .non S/\∀a b:Int,Le (x0,x1) a b->Q (.tup [.int a,.int b]) S))
abbrev zfM:=OR
abbrev zas:=PX
abbrev Cc [Ev5]:=Qe .times
def EB:Sd:=mSx λS Q ex=>aI λg=>aI λN=>aI λn=>aN ((2<=n/\n<=6/\0<g/\Sz 800 g)/\Q (.int (((n-1)*g+N/g^(n-1).toNat)/n)) S)
def N3:Sd:=mSx λS Q ex=>aI λN=>aI λn=>aN ((2<=n/\n<=6/\0<=N/\Sz 1300 N)/\∀r:Int,0<=r->Sz 800 r->Q (.int r) S)
def Ri:Sd:=λds S Q ex=>match ds with
 | [.int N,.int n]=>(2<=n/\n<=6/\0<=N/\Sz 1300 N)/\∀a b:Int,a<=b->Q (.tup [.int a,.int b]) S
 | _=>False
theorem zdu:Ln (Ri) 2:=λds S Q ex h=>by unfold Ri at h;split at h<;>first|rfl|exact h.elim
def Sm:Sd:=λds S Q ex=>match ds with
 | [.int N,.int n]=>(2<=n/\n<=6/\Sz 1300 N)/\∀a b:Int,a<=b->Q (.tup [.int a,.int b]) S
 | _=>False
theorem Bu:Ln (Sm) 2:=λds S Q ex h=>by unfold Sm at h;split at h<;>first|rfl|exact h.elim
def Ib:Sd:=mSx λS Q ex=>aP λz0 z1=>aP λx0 x1=>aI λn=>aI λg=>aN ((2<=n/\n<=6/\Sz 30 g/\Sz 1100 z0/\Sz 1100 z1)/\(Q .non S/\∀a b:Int,Le (x0,x1) a b->Q (.tup [.int a,.int b]) S))
def NU [Ev5]:Sd:=mSx λS Q ex=>aR λn=>aR λw=>aP λz0 z1=>aI λg=>aN (∃(i m:Int),QR S Q n w z0 z1 g (Nd.power i m))
def GF:Sd:=mSx λS Q ex=>aR λa=>aT λw k=>aR λb=>aI λg=>aN (∃(ns:List Nd)(ws:List Nat)(bs:LI)(zero:Bool),La S a (ns.map Nd.d)/\La S b (bs.map frD)/\rwW zero w/\inR ns.length k/\ZD bs.length ns ws/\Spn 51 bs/\(Gg g)/\ns.length<=70/\(∀T:Sto,Pre S T->Q .non T)/\∀(us:LI)(T:Sto)(m:Nat),us.length=k.toNat+1->Pre S T->S.length<=m->La T m (us.map frD)->Q (.ref m) T)
def Ea:Sd:=mSx λS Q ex=>aR λa=>aT λw k=>aR λb=>aI λg=>aN (∃(ns:List Nd)(ws:List Nat)(bs:LI)(zero:Bool),La S a (ns.map Nd.d)/\La S b (bs.map frD)/\rwW zero w/\inR ns.length k/\ZD bs.length ns ws/\Spn 51 bs/\(Gg g)/\ns.length<=70/\(∀T:Sto,Pre S T->Q .non T)/\∀(us:LI)(T:Sto)(m:Nat),us.length=bs.length->Pre S T->S.length<=m->La T m (us.map frD)->Q (.ref m) T)
def MO:Sd:=mSx λS Q ex=>aR λb=>aI λk=>aD λd=>aN (∃(bs:LI)(p:Int×Int),La S b (bs.map frD)/\inR bs.length k/\bs.length<=4/\d=frD p/\∀(T:Sto)(m:Nat),Pre S T->S.length<=m->La T m ((bs.set k.toNat p).map frD)->Q (.ref m) T)
def Gx:Sd:=mSx λS Q ex=>aP λa b=>aD λd=>aN (∃c:Ct,d=c.d/\Q (frD (c.off (a,b))) S)
def DQ:Sd:=mSx λS Q ex=>aR λa=>aT λw k=>aR λb=>aI λg=>aD λd=>aN (∃(ns:List Nd)(ws:List Nat)(bs:LI)(zero:Bool)(c:Ct),La S a (ns.map Nd.d)/\La S b (bs.map frD)/\rwW zero w/\inR ns.length k/\ZD bs.length ns ws/\Spn 51 bs/\(Gg g)/\ns.length<=70/\d=c.d/\c.k<bs.length/\bs.length<=4/\∀T:Sto,Pre S T->Q (.bl (isS ns zero k.toNat g bs c)) T)
def Fj:Sd:=mSx λS Q ex=>aP λa b=>aD λd=>aN (∃c:Ct,d=c.d/\Q (frD (c.back (a,b))) S)
def HU:Sd:=mSx λS Q ex=>aR λa=>aT λw k=>aR λb=>aI λg=>aN (∃(ns:List Nd)(ws:List Nat)(bs:LI)(zero:Bool),La S a (ns.map Nd.d)/\La S b (bs.map frD)/\rwW zero w/\inR ns.length k/\ZD bs.length ns ws/\Spn 51 bs/\(Gg g)/\ns.length<=70/\bs.length<=4/\∀(T:Sto)(mc:Nat)(fd:D)(cs:List Ct)(o:Option LI),ShOk ns zero k.toNat bs g cs o->Pre S T->S.length<=mc->La T mc (cs.map Ct.d)->FdAt o S.length T fd->Q (.tup [.ref mc,fd]) T)
def RX [Ev5]:Sd:=mSx λS Q ex=>aR λn=>aI λi=>aD λd=>aN (∃(a b j:Nat)(es:List LI)(fs:List Ft)(f:Ft),Bk Zn.C S n a b es fs/\i=(j:Int)/\j<fs.length/\Vk a b S d f/\∀T:Sto,Bk Zn.C T n a b es (fs.set j f)->Cg a b S T->Q .non T)
def D8 [Ev5]:Sd:=mSx λS Q ex=>aR λn=>aR λm=>aN (∃(a b:Nat)(es:List LI)(fs:List Ft)(e:LI),Bk Zn.C S n a b es fs/\X1 a b S m e/\es.length<990/\∀T:Sto,Bk Zn.C T n a b (es++[e]) (fs++[.wait])->Cg a b S T->Q (.int (es.length:Int)) T)
def KO [Ev5]:Sd:=mSx λS Q ex=>aR λn=>aI λi=>aI λkk=>aI λp=>aN (∃(a b j k:Nat)(es:List LI)(fs:List Ft)(e:LI)(s:Int×Int),Bk Zn.C S n a b es fs/\i=(j:Int)/\kk=(k:Int)/\es[j]?=some e/\e[k]?=some s/\e.length<=4/\es.length<980/\∀T:Sto,Bk Zn.C T n a b (es++[e.set k (s.1,p)]++[e.set k (p,s.2)]) ((fs++[Ft.wait]++[Ft.wait]).set j (.cut k p es.length (es.length+1)))->Cg a b S T->Q (.tup [.int (es.length:Int),.int ((es.length:Int)+1)]) T)
def LD:Sd:=mSx λS Q ex=>aR λnd=>aR λrw=>aI λr=>aR λbx=>aI λg=>aN (∃(k u:Nat)(ns:List Nd)(ws:List Nat)(rows:List (Bool×Nat))(e:LI)(row:Bool×Nat),Sr S nd rw g ns ws rows u/\La S bx (e.map frD)/\e.length=u/\Spn 51 e/\r=(k:Int)/\rows[k]?=some row/\∀(T:Sto)(m:Nat),Pre S T->S.length<=m->La T m ((Zo e g (ns.take (row.2+1))).map frD)->Q (.tup [.str "out",.int r,.ref m]) T)
def Dv [Ev5]:Sd:=mSx λS Q ex=>aR λn=>aR λnd=>aR λrw=>aI λg=>aI λi=>aN (∃(a b j u:Nat)(ns:List Nd)(ws:List Nat)(rows:List (Bool×Nat))(b0 e:LI)(es:List LI)(fs:List Ft)(fine:Int),Bk Zn.C S n a b es fs/\Sr S nd rw g ns ws rows u/\Apt nd rw a b/\Bks g fine ns rows b0 es fs/\Spn 51 b0/\b0.length=u/\i=(j:Int)/\fs[j]?=some .wait/\es[j]?=some e/\es.length<=900/\∀(T:Sto)(es':List LI)(fs':List Ft)(j':Nat),Bk Zn.C T n a b es' fs'->Bks g fine ns rows b0 es' fs'->Cg a b S T->es'.length<=es.length+16*rows.length->Shd es j es' j'->j'<es'.length->Q (.int (j':Int)) T)
def Kw:Sd:=mSx λS Q ex=>aS λw=>aP λa b=>aN ((w="zero"/\Q (.bl (decide (a=0)&&decide (b=0))) S)\/(w="least"/\Q (.bl (decide (0<=a))) S))
def EZ:Sd:=mSx λS Q ex=>aR λnd=>aR λrw=>aR λbx=>aI λg=>aR λsp=>aN (∃(u:Nat)(ns:List Nd)(ws:List Nat)(rows:List (Bool×Nat))(e:LI),Sr S nd rw g ns ws rows u/\La S bx (e.map frD)/\e.length=u/\Spn 51 e/\La S sp ((Zo e g ns).map frD)/\(∀(T:Sto)(k m:Nat)(row:Bool×Nat),Pre S T->S.length<=m->rows[k]?=some row->ibS ns row.1 row.2 e g=true->La T m ((Zo e g (ns.take (row.2+1))).map frD)->Q (.tup [.str "out",.int (k:Int),.ref m]) T)/\((∀row∈rows,ibS ns row.1 row.2 e g=false)->suS ns rows e g=true->∀T:Sto,Pre S T->Q (.tup [.str "full",.ref sp]) T)/\((∀row∈rows,ibS ns row.1 row.2 e g=false)->suS ns rows e g=false->∀T:Sto,Pre S T->Q .non T))
def Gp:Sd:=mSx λS Q ex=>aR λr=>aN (∃rows:List (Bool×Nat),La S r (rows.map rwD)/\rows.length<=900/\Q (.ref S.length) (S++[.lst ((eqs rows).map wtD)]))
def Mf:Sd:=mSx λS Q ex=>aR λe=>aR λp=>aN (∃(xs:List D)(is:List Nat),La S e xs/\La S p (is.map wtD)/\is.length<=900/\(∀i∈is,i<xs.length)/\Q (.ref S.length) (S++[.lst (is.map λi=>xs.getD i .non)]))
abbrev Na [Ev5] (S:Sto)(Q:DK)(n:Nat)(w:Nat)(s:Nat)(qi:Int)(g:Int)(v:Nd):Prop:=∃(q:Nat)(vs:LI)(sl:List LI)(ds:List D),S[n]?=some (Nd.oz v)/\La S w (vs.map frD)/\La S s ds/\Z9 S 0 ds sl/\(∀i:Int,inR sl.length i->(sl.getD i.toNat []).length=q/\∀l,l<q->(gs sl i l).1<=(gs sl i l).2/\Sz 1100 (gs sl i l).1/\Sz 1100 (gs sl i l).2)/\(qi=(q:Nat)/\q<=900)/\Nd.ok sl.length q v/\sl.length<=vs.length/\Spn 1000 vs/\(Gg g)/\∀(T:Sto)(mm:Nat),Pre S T->S.length<=mm->La T mm ((YS vs sl g q v).map frD)->Q (.ref mm) T
def NO [Ev5]:Sd:=mSx λS Q ex=>aR λn=>aR λw=>aR λs=>aI λqi=>aI λg=>aN (∃(x y:Int),Na S Q n w s qi g (Nd.number x y))
def M7 [Ev5]:Sd:=mSx λS Q ex=>aR λn=>aR λw=>aR λs=>aI λqi=>aI λg=>aN (∃(k:Int),Na S Q n w s qi g (Nd.unknown k))
def zd7 [Ev5]:Sd:=mSx λS Q ex=>aR λx_0=>aD λx_1=>aD λx_2=>aP λa b=>aP λc d=>aI λx_7=>aN (Q (.tup [.int (a+c),.int (b+d)]) S)
def Qz [Ev5] (c:Int->Int->Nd):Sd:=mSx λS Q ex=>aR λn=>aR λw=>aR λs=>aI λqi=>aI λg=>aN (∃(i j:Int),Na S Q n w s qi g (c i j))
abbrev Eu [Ev5]:=Qz .plus
def zen [Ev5]:Sd:=mSx λS Q ex=>aR λx_0=>aD λx_1=>aD λx_2=>aP λa b=>aP λc d=>aI λx_7=>aN (Q (.tup [.int (a-d),.int (b-c)]) S)
abbrev Iw [Ev5]:=Qz .minus
def zep [Ev5]:Sd:=mSx λS Q ex=>aR λx_0=>aP λx1 x2=>aP λy1 y2=>aP λa b=>aP λc d=>aI λg=>aN ((Sz 1400 x1/\Sz 1400 x2/\Sz 1400 y1/\Sz 1400 y2/\Sz 1400 a/\Sz 1400 b/\Sz 1400 c/\Sz 1400 d/\1<=g/\g<=1000000)/\Q (.tup [.int ((Z6 (x1,x2) (c,d) g).1+(Z6 (y1,y2) (a,b) g).1),.int ((Z6 (x1,x2) (c,d) g).2+(Z6 (y1,y2) (a,b) g).2)]) S)
abbrev Ir [Ev5]:=Qz .times
def EC:Sd:=mSx λS Q ex=>aP λa b=>aI λm=>aN ((IntMulOk a m/\IntMulOk b m)/\Q (.tup [.int (if b*m<a*m then b*m else a*m),.int (if b*m > a*m then b*m else a*m)]) S)
def JB [Ev5]:Sd:=mSx λS Q ex=>aR λn=>aR λw=>aR λs=>aI λqi=>aI λg=>aN (∃(i m:Int),Na S Q n w s qi g (Nd.power i m))
def Jl:Sd:=mSx λS Q ex=>aR λa=>aR λb=>aI λg=>aN (∃(ns:List Nd)(ws:List Nat)(bs:LI),La S a (ns.map Nd.d)/\La S b (bs.map frD)/\ZD bs.length ns ws/\Spn 51 bs/\bs.length<=900/\(Gg g)/\ns.length<=70/\∀(T:Sto)(m:Nat)(ds:List D),Pre S T->S.length<=m->La T m ds->Z9 T (m+1) ds (ZT (Zo bs g ns) g bs.length ns)->Q (.ref m) T)
def DX:Sd:=mSx λS Q ex=>aR λa=>aR λp=>aR λb=>aI λg=>aN (∃(ns:List Nd)(ws:List Nat)(bs:LI)(is:List Nat),La S a (ns.map Nd.d)/\La S b (bs.map frD)/\ZD bs.length ns ws/\Spn 51 bs/\(Gg g)/\ns.length<=70/\bs.length<=900/\La S p (is.map wtD)/\is.length<=900/\(∀i∈is,i<ns.length)/\∀(T:Sto)(m:Nat)(ds:List D),Pre S T->S.length<=m->La T m ds->Z9 T 0 ds (is.map λ(i:Nat)=>(ZT (Zo bs g ns) g bs.length ns).getD i [])->Q (.ref m) T)
def Dj:Sd:=mSx λS Q ex=>aI λi=>aI λk=>aN (∃n:Nat,k=n/\Q (.int (sgn i n)) S)
def El:Sd:=mSx λS Q ex=>aR λm=>aI λr=>aI λc=>aN (∃(ds:List D)(i j n:Nat),r=i/\c=j/\La S m ds/\ds.length=n+1/\Mr (RI 1024 (n+1)) 0 S ds/\n<=3/\i<=n/\j<=n/\∀(T:Sto)(k:Nat)(es:List D),Pre S T->La T k es->es.length=n->Mr (RI 1024 n) 0 T es->Q (.ref k) T)
def OG (k:Nat):Sd:=mSx λS Q ex=>aR λm=>aN (∃(ds:List D)(n:Nat),n<=k/\La S m ds/\ds.length=n/\Mr (RI 1024 (n)) 0 S ds/\∀x:Int,Sz (1040*n+1) x->Q (.int x) S)
def Pa (k:Nat):Sd:=mSx λS Q ex=>aR λm=>aI λr=>aI λc=>aN (∃(ds:List D)(i j n:Nat),n<=k/\r=i/\c=j/\i<=n/\j<=n/\La S m ds/\ds.length=n+1/\Mr (RI 1024 (n+1)) 0 S ds/\∀x:Int,Sz (1040*n+1) x->Q (.int x) S)
abbrev zaG:=OG 0
abbrev zgI:=Pa 3
abbrev zdI:=OG 4
def Iy:Sd:=mSx λS Q ex=>aR λm=>aI λw=>aI λr=>aI λc=>aI λg=>aN (∃(ds:List D)(i j n:Nat),n<=3/\r=i/\c=j/\i<=n/\j<=n/\La S m ds/\ds.length=n+1/\Mr (RI 1024 (n+1)) 0 S ds/\(w≠0/\Sz 4200 w)/\(Gg g)/\∀x:Int,Sz 3200 x->Q (.int x) S)
def IC:Sd:=mSx λS Q ex=>aR λm=>aI λw=>aI λr=>aI λg=>aN (∃(ds:List D)(i n:Nat),n<=3/\r=i/\i<=n/\La S m ds/\ds.length=n+1/\Mr (RI 1024 (n+1)) 0 S ds/\(w≠0/\Sz 4200 w)/\(Gg g)/\∀xs:List D,RI 3200 (n+1) xs->Q (.ref S.length) (S++[.lst xs]))
def Fy:Sd:=mSx λS Q ex=>aR λm=>aI λg=>aN (∃(ds:List D)(n:Nat),(1<=n/\n<=4)/\La S m ds/\ds.length=n/\Mr (RI 1024 (n)) 0 S ds/\(Gg g)/\Q .non S/\∀(T:Sto)(k:Nat)(es:List D),Pre S T->La T k es->es.length=n->Mr (RI 3200 n) 0 T es->Q (.ref k) T)
def LM:Sd:=mSx λS Q ex=>aP λa b=>aN (Q (.int ((a+b)/2)) S)
def Lb:Sd:=mSx λS Q ex=>aR λs=>aN (∃vs:LI,La S s (vs.map frD)/\vs.length<=900/\Q (.ref S.length) (S++[.lst (vs.map λp=>.int (mid p))]))
def Oy:Sd:=mSx λS Q ex=>aR λb=>aN (∃vs:LI,La S b (vs.map frD)/\vs.length<=900/\∀(T:Sto)(m:Nat),Pre S T->S.length<=m->La T m ((vs.map ZN).map frD)->Q (.ref m) T)
def LB:Sd:=mSx λS Q ex=>aR λa=>aR λb=>aI λg=>aN (∃(us vs:LI),La S a (us.map frD)/\La S b (vs.map frD)/\us.length<=60/\Bd 20000 us/\Bd 20000 vs/\(Gg g)/\Q (frD (sumP g us vs)) S)
def E8:Sd:=mSx λS Q ex=>aI λk=>aI λc=>aR λt=>aR λs=>aI λg=>aN (∃(q kn cn:Nat)(ts:LI)(R:List LI)(ds:List D),k=(kn:Nat)/\c=(cn:Nat)/\La S t (ts.map frD)/\La S s ds/\Z9 S 0 ds R/\(∀r∈R,r.length=q/\Bd 2000 r)/\cn<q/\ts.length<=60/\R.length<=60/\Bd 20000 ts/\(Gg g)/\Q (frD (YR g kn cn ts R)) S)
def Gi:Sd:=mSx λS Q ex=>aI λki=>aR λb=>aI λg=>aR λe=>aR λt=>aR λs=>aN (∃(k:Nat)(box aA:LI)(es:List Int)(R:List LI)(ds:List D),ki=(k:Nat)/\k<box.length/\La S e (es.map D.int)/\es.length<=4/\(∀x∈es,Sz 4000 x)/\La S b (box.map frD)/\La S t (aA.map frD)/\La S s ds/\Z9 S 0 ds R/\(∀r∈R,r.length=box.length/\Bd 2000 r)/\(1<=box.length/\box.length<=4)/\R.length<=4/\aA.length<=4/\Bd 60 box/\Bd 2000 aA/\(Gg g)/\Q (frD (Yw g box aA R k es)) S)
def JK:Sd:=mSx λS Q ex=>aR λb=>aI λg=>aR λu=>aR λt=>aR λs=>aN (∃(box aA:LI)(M:List (List Int))(ms:List D)(R:List LI)(ds:List D),La S u ms/\F6 S ms M/\M.length=box.length/\(∀r∈M,r.length<=4/\∀x∈r,Sz 4000 x)/\La S b (box.map frD)/\La S t (aA.map frD)/\La S s ds/\Z9 S 0 ds R/\(∀r∈R,r.length=box.length/\Bd 2000 r)/\(1<=box.length/\box.length<=4)/\R.length<=4/\aA.length<=4/\Bd 60 box/\Bd 2000 aA/\(Gg g)/\Q (.ref S.length) (S++[.lst ((M.mapIdx λk es=>Yw g box aA R k es).map frD)]))
def GN:Sd:=mSx λS Q ex=>aR λa=>aR λp=>aR λb=>aI λg=>aN (∃(ns:List Nd)(ws:List Nat)(bs:LI)(is:List Nat),La S a (ns.map Nd.d)/\La S b (bs.map frD)/\ZD bs.length ns ws/\Spn 51 bs/\(Gg g)/\ns.length<=70/\bs.length<=900/\La S p (is.map wtD)/\is.length<=900/\(∀i∈is,i<ns.length)/\∀(T:Sto)(m:Nat),Pre S T->S.length<=m->La T m ((is.map λ(i:Nat)=>gt (Zo (bs.map ZN) g ns) i).map frD)->Q (.ref m) T)
def HZ:Sd:=mSx λS Q ex=>aP λa b=>aP λc d=>aN (Q (.bl (decide (c<a)&&decide (b<d))) S)
def Ht:Sd:=mSx λS Q ex=>aR λm=>aR λn=>aN (∃us vs:LI,La S m (us.map frD)/\La S n (vs.map frD)/\us.length<=1000/\Q (.bl (Pe us vs)) S)
def FO:Sd:=mSx λS Q ex=>aR λr=>aR λs=>aN (∃(rows:List (Bool×Nat))(vs:LI),La S r (rows.map rwD)/\La S s (vs.map frD)/\rows.length<=900/\(∀r∈rows,r.2<vs.length)/\∀b:Bool,Q (.bl b) S)
def IH:Sd:=mSx λS Q ex=>aR λa=>aR λr=>aR λb=>aI λg=>aN (∃(ns:List Nd)(ws:List Nat)(bs:LI)(rows:List (Bool×Nat)),La S a (ns.map Nd.d)/\La S b (bs.map frD)/\ZD bs.length ns ws/\Spn 51 bs/\(Gg g)/\ns.length<=70/\bs.length<=900/\La S r (rows.map rwD)/\rows.length<=900/\(∀r∈rows,r.2<ns.length)/\(1<=bs.length/\bs.length<=4)/\(∀T:Sto,Pre S T->Q .non T)/\∀(T:Sto)(d:D)(m:Nat)(M:List (List Int)),Pre S T->S.length<=m->La T m ((We g bs ns rows M).map frD)->WV g bs ns rows M->Q (.tup [d,.ref m]) T)
def Hw:Sd:=mSx λS Q ex=>aR λnd=>aR λrw=>aR λbx=>aI λg=>aR λsp=>aN (∃(u:Nat)(ns:List Nd)(ws:List Nat)(rows:List (Bool×Nat))(e:LI),Sr S nd rw g ns ws rows u/\La S bx (e.map frD)/\e.length=u/\Spn 51 e/\(∀T:Sto,Pre S T->Q .non T)/\(∀(T:Sto)(vs:LI)(m:Nat)(d1 d3 d4 d5:D),(∃M,WV g e ns rows M/\vs=We g e ns rows M)->Pre S T->S.length<=m->La T m (vs.map frD)->Q (.tup [.str "one",d1,.ref m,d3,d4,d5]) T))
def J3:Sd:=mSx λS Q ex=>aR λnd=>aR λrw=>aR λbx=>aI λg=>aI λfine=>aN (∃(u:Nat)(ns:List Nd)(ws:List Nat)(rows:List (Bool×Nat))(e:LI),Sr S nd rw g ns ws rows u/\La S bx (e.map frD)/\e.length=u/\Spn 51 e/\(∀(T:Sto)(f:Ft)(d:D),Pre S T->FOk g fine ns rows e f->(∀a b:Nat,a<S.length->b<S.length->Vk a b T d f)->Q d T)/\∀T:Sto,Pre S T->(∃p∈e,fine<wd p)->Q .non T)
def HM:Sd:=mSx λS Q ex=>aR λx=>aR λy=>aN (∃bs cs:LI,La S x (bs.map frD)/\La S y (cs.map frD)/\Spn 51 bs/\Spn 51 cs/\bs.length<=4/\cs.length<=4/\∀T:Sto,Pre S T->Q (.bl (decide (4*Wz bs<=3*Wz cs))) T)
def Ej [Ev5]:Sd:=mSx λS Q ex=>aR λn=>aI λi=>aN (∃(a b j:Nat)(es:List LI)(fs:List Ft)(e:LI),Bk Zn.C S n a b es fs/\i=(j:Int)/\es[j]?=some e/\e.length<=4/\e≠[]/\es.length<980/\∀(T:Sto)(k:Nat)(s:Int×Int),e[k]?=some s->Wst e (wd s)->Bk Zn.C T n a b (es++[e.set k (s.1,(s.1+s.2)/2)]++[e.set k ((s.1+s.2)/2,s.2)]) ((fs++[Ft.wait]++[Ft.wait]).set j (.cut k ((s.1+s.2)/2) es.length (es.length+1)))->Cg a b S T->Q .non T)
def JQ [Ev5]:Sd:=mSx λS Q ex=>aR λn=>aR λnd=>aR λrw=>aI λg=>aI λfine=>aI λi=>aN (∃(a b j u:Nat)(ns:List Nd)(ws:List Nat)(rows:List (Bool×Nat))(b0 e:LI)(es:List LI)(fs:List Ft),Bk Zn.C S n a b es fs/\Sr S nd rw g ns ws rows u/\Apt nd rw a b/\Bks g fine ns rows b0 es fs/\Spn 51 b0/\b0.length=u/\i=(j:Int)/\fs[j]?=some .wait/\es[j]?=some e/\1<=fine/\es.length<=800/\∀(T:Sto)(es':List LI)(fs':List Ft),Bk Zn.C T n a b es' fs'->Bks g fine ns rows b0 es' fs'->Cg a b S T->es'.length<=es.length+(16*rows.length+2)->(es.length<es'.length\/es'.length=es.length/\fs'[j]?≠some .wait)->Q .non T)
def JX:Sd:=mSx λS Q ex=>aR λnd=>aR λrw=>aR λbx=>aI λg=>aI λfine=>aI λlooks=>aN (∃(u t:Nat)(ns:List Nd)(ws:List Nat)(rows:List (Bool×Nat))(b0:LI),Sr S nd rw g ns ws rows u/\La S bx (b0.map frD)/\b0.length=u/\Spn 51 b0/\1<=fine/\(0<=looks/\looks<=18)/\rows.length=1/\S[t]?=some (.cod LT LP LQ)/\∀(T:Sto)(m:Nat)(ds:List D)(es:List LI)(fs:List Ft),Pre S T->S.length<=m->La T m ds->En T ds es fs->Bks g fine ns rows b0 es fs->es.length<=900->(looks=0->es=[b0]/\fs=[.wait])->(0<looks->es.length=1->fs[0]?≠some .wait)->Q (.ref m) T)
def HA:Sd:=mSx λS Q ex=>aI λa=>aI λb=>aN (Q (.int ((Int.gcd a b:Nat):Int)) S)
def LN:Sd:=mSx λS Q ex=>aI λT=>aI λB=>aN ((0<B/\Sz 4000 B)/\∀t b:Int,1<=b->Int.gcd t b=1->t*B=T*b->t.natAbs<=T.natAbs->b<=B->Q (.tup [.int t,.int b]) S)
def DC:Sd:=mSx λS Q ex=>aI λc=>aN ((0<=c/\c<10^60)/\∀t b:Int,1<=b->Int.gcd t b=1->t.natAbs<=999999999->b<=999999999->Q (.tup [.int t,.int b]) S)
def FE:Sd:=mSx λS Q ex=>aR λa=>aD λd=>aN (∃(q:Nat)(v:Nd)(ns:List Nd)(ws:List Nat),d=v.d/\La S a (ns.map Nd.d)/\ns.length<900/\ZD q ns ws/\v.ok ns.length q/\v.wt ws<=16/\∀(T:Sto)(j:Nat)(ns':List Nd)(ws':List Nat),Gr q a 1 S ns ws T ns' ws'->j<ns'.length->ns'[j]?=some v->ws'.getD j 0=v.wt ws->(∀P,gt (Zt P ns') (j:Int)=v.due (Zt P ns) P)->Q (.int (j:Int)) T)
def MY:Sd:=mSx λS Q ex=>aR λr=>aP λa b=>aD λm=>aN (∃rs:LP2,La S r (rs.map frD)/\Ro rs/\((1<=b/\b<=10^9)/\Int.gcd a b=1/\a.natAbs<=10^9)/\a≠0/\(m=.non\/∃x y:Int,m=.tup [.int x,.int y]/\((1<=y/\y<=10^9)/\Int.gcd x y=1/\x.natAbs<=10^9)/\1<=x)/\∀(T:Sto)(n j:Nat)(ns:List Nd)(ws:List Nat),Pre S T->S.length<=n->La T n (ns.map Nd.d)->ZD (1:Nat) ns ws->j<ns.length->ns.length<=70->Pol ns j rs->Q (.tup [.ref n,.int (j:Int)]) T)
def EF:Sd:=mSx λS Q ex=>aI λc=>aN ((0<=c/\c<10^60)/\∀a b:Int,a<=b->a.natAbs<10^15->b.natAbs<10^15->Q (.tup [.int a,.int b]) S)
def Ma:Sd:=mSx λS Q ex=>aR λn=>aI λk=>aN (∃ns:List Int,S[n]?=some (.frz (ns.map D.int))/\0<=k/\∀x:Int,(0<=x/\x<10^60)->Q (.int x) S)
def Gh:Sd:=mSx λS Q ex=>aR λn=>aN (∃ns:List Int,S[n]?=some (.frz (ns.map D.int))/\∀(T:Sto)(mr mn j:Nat)(rs:LP2)(vs:List Nd)(ws:List Nat)(s:Int×Int)(g f k:Int),Pre S T->La T mr (rs.map frD)->Ro rs->La T mn (vs.map Nd.d)->ZD (1:Nat) vs ws->j<vs.length->vs.length<=70->Pol vs j rs->Spn 51 [s]->(Gg g)->1<=f->(0<=k/\k<=18)->Q (.tup [.ref mr,.ref mn,.int (j:Int),frD s,.int g,.int f,.int k]) T)
def MA:Sd:=mSx λS Q ex=>aR λn=>aI λk=>aN (∃ns:List Int,S[n]?=some (.frz (ns.map D.int))/\(0<=k/\k<=1000)/\∀c:Int,(0<=c/\c<2147483629)->Q (.int c) S)
def Dt:Sd:=mSx λS Q ex=>aR λn=>aN (∃ns:List Int,S[n]?=some (.frz (ns.map D.int))/\∀(T:Sto)(m:Nat)(rs:LP2),Pre S T->S.length<=m->La T m (rs.map frD)->Ro rs->1<=rs.length->(∀r∈rs,r.1<=12*r.2)->Q (.ref m) T)
def G8:Sd:=mSx λS Q ex=>aR λn=>aN (∃ns:List Int,S[n]?=some (.frz (ns.map D.int))/\∀(T:Sto)(mr mn j:Nat)(rs:LP2)(vs:List Nd)(ws:List Nat)(s:Int×Int)(g f k:Int),Pre S T->La T mr (rs.map frD)->Ro rs->La T mn (vs.map Nd.d)->ZD (1:Nat) vs ws->j<vs.length->vs.length<=70->Pol vs j rs->Spn 51 [s]->(Gg g)->1<=f->(0<=k/\k<=18)->Q (.tup [.ref mr,.ref mn,.int (j:Int),frD s,.int g,.int f,.int k]) T)
def Jy:Sd:=mSx λS Q ex=>aP λx y=>aP λt u=>aI λg=>aN ((Sz 100 t/\Sz 100 u/\Sz 100 x/\Sz 100 y/\Sz 21 g)/\Q (.bl (inB g (x,y) (t,u))) S)
def Sw:Sd:=λds S Q ex=>match ds with
 | [.tup [.ref m,d],.ref r,.int g]=>∃(rs:LP2)(s:Int×Int)(f:Ft),La S r (rs.map frD)/\Ro rs/\La S m [frD s]/\Spn 51 [s]/\(Gg g)/\SA S d f/\Rg g rs s f/\∀T:Sto,Pre S T->Q (.bl true) T
 | _=>False
theorem Ac:Ln (Sw) 3:=λds S Q ex h=>by unfold Sw at h;split at h<;>first|rfl|exact h.elim
abbrev Imp (p G:List D->Prop):Prop:=∀ds,p ds->G ds
theorem kN {p:Prop}{G:List D->Prop}(k:p->G []):Imp (aN p) G:=λds h=>by
 obtain⟨rfl,h⟩:=Pp h;exact k h
theorem kR {f:Nat->List D->Prop}{G:List D->Prop}(k:∀a,Imp (f a) λr=>G (.ref a::r)):Imp (aR f) G:=λds h=>by
 obtain⟨a,r,rfl,h⟩:=aR_e h;exact k a r h
theorem kI {f:Int->List D->Prop}{G:List D->Prop}(k:∀a,Imp (f a) λr=>G (.int a::r)):Imp (aI f) G:=λds h=>by
 obtain⟨a,r,rfl,h⟩:=aI_e h;exact k a r h
theorem kS {f:Str->List D->Prop}{G:List D->Prop}(k:∀a,Imp (f a) λr=>G (.str a::r)):Imp (aS f) G:=λds h=>by
 obtain⟨a,r,rfl,h⟩:=aS_e h;exact k a r h
theorem kP {f:Int->Int->List D->Prop}{G:List D->Prop}(k:∀a b,Imp (f a b) λr=>G (.tup [.int a,.int b]::r)):Imp (aP f) G:=λds h=>by
 obtain⟨a,b,r,rfl,h⟩:=aP_e h;exact k a b r h
theorem kT {f:Str->Int->List D->Prop}{G:List D->Prop}(k:∀a b,Imp (f a b) λr=>G (.tup [.str a,.int b]::r)):Imp (aT f) G:=λds h=>by
 obtain⟨a,b,r,rfl,h⟩:=aT_e h;exact k a b r h
theorem kD {f:D->List D->Prop}{G:List D->Prop}(k:∀a,Imp (f a) λr=>G (a::r)):Imp (aD f) G:=λds h=>by
 obtain⟨a,r,rfl,h⟩:=aD_e h;exact k a r h
section
variable {P:Program}{w:World}{K:Fg}{mg:Str->Option Value}{base:Heap}{k:Nat}{C:Addr}{x qual:Str}{st:Stmt}{ps N:List Str}{sd:Sd}{t:TDS}
theorem Bi (hp:∀S Q ex,Imp (λds=>sd ds S Q ex) λds=>t { nx:=λ_ S'=>Gc S Q .non S',rt:=Gc S Q } (XD N ds) S):∀ds S Q ex,gcS sd ds S Q ex->t { nx:=λ_ S'=>Q .non S',rt:=Q } (XD N ds) S:=λds S Q ex h=>by
 obtain⟨Q0,ex0,rfl,rfl,h⟩:=h;exact hp S Q0 ex0 ds h
def mkF (d:Df K mg x st ps)(Sc:Zl N ps (Zh st))(ht:∀ {cdv:Value} {A:Around} {outer:List Env} {s:Shared} {H:Hp} {E:XK},ZF k (A.deeper (envOfC x (Zh st) s.heap.objs.size d.f cdv))->YL (XA (CXE P w) P w K mg base N x (Zh st) d.f cdv A outer s H E).nox Z0 (Xl st) t)(hp:∀S Q ex,Imp (λds=>sd ds S Q ex) λds=>t { nx:=λ_ S'=>Q .non S',rt:=Q } (XD N ds) S)(len:Ln sd ps.length:=by exact λ_ _ _ _=>by repeat (first|exact nN|refine nR λ_=>?_|refine nI λ_=>?_|refine nP λ_ _=>?_|refine nT λ_ _=>?_|refine nD λ_=>?_|refine nS λ_=>?_)):Fk P w K mg base (k+1) x ps sd:=d.mk' (WL d.F Sc len λ_ _ _ _ _ _ _ hr=>⟨t,ht hr,λds S Q ex=>hp S Q ex ds⟩)
def mkG (d:Df K mg x st ps)(Sc:Zl N ps (Zh st))(ht:∀ {cdv:Value} {A:Around} {outer:List Env} {s:Shared} {H:Hp} {E:XK},ZF k (A.deeper (envOfC x (Zh st) s.heap.objs.size d.f cdv))->YL (XA (CXE P w) P w K mg base N x (Zh st) d.f cdv A outer s H E).nox Z0 (Xl st) t)(hp:∀S Q ex,Imp (λds=>sd ds S Q ex) λds=>t { nx:=λ_ S'=>Gc S Q .non S',rt:=Gc S Q } (XD N ds) S)(len:Ln sd ps.length:=by exact λ_ _ _ _=>by repeat (first|exact nN|refine nR λ_=>?_|refine nI λ_=>?_|refine nP λ_ _=>?_|refine nT λ_ _=>?_|refine nD λ_=>?_|refine nS λ_=>?_)):Fk P w K mg base (k+1) x ps sd:=d.mk' (fn_gc (WL d.F Sc (zge len) λ_ _ _ _ _ _ _ hr=>⟨t,ht hr,Bi hp⟩))
def mkM (d:Dm K C x qual st ps)(Sc:Zl N ps (Zh st))(ht:∀ {cdv:Value} {A:Around} {outer:List Env} {s:Shared} {H:Hp} {E:XK},ZF k (A.deeper (envOfC qual (Zh st) s.heap.objs.size d.f cdv))->YL (XA (CXE P w) P w K mg base N qual (Zh st) d.f cdv A outer s H E).nox Z0 (Xl st) t)(hp:∀S Q ex,Imp (λds=>sd ds S Q ex) λds=>t { nx:=λ_ S'=>Q .non S',rt:=Q } (XD N ds) S)(len:Ln sd ps.length:=by exact λ_ _ _ _=>by repeat (first|exact nN|refine nR λ_=>?_|refine nI λ_=>?_|refine nP λ_ _=>?_|refine nT λ_ _=>?_|refine nD λ_=>?_|refine nS λ_=>?_)):Fm P w K mg base (k+1) C x ps sd:=d.mk' (WL d.F Sc len λ_ _ _ _ _ _ _ hr=>⟨t,ht hr,λds S Q ex=>hp S Q ex ds⟩)
end
section
variable {X:Cx}{Z:Zx}
theorem pdv (i:Nat){x:Str}{pos:Pos}{es:List Expr}{t:TDA}(hr:PDA X Z es t)(h:PD X Z (.Name x pos) (Y9 i):=by exact dv _)(hs:starEach (.Name x pos::es) X.env=(false,eval (.Name x pos) X.env)::starEach es X.env:=by rfl):PDA X Z (.Name x pos::es) (So (Y9 i) t):=Za h hr hs
theorem pv (i:Nat){x:Str}{pos:Pos}(h:PD X Z (.Name x pos) (Y9 i):=by exact dv _)(hs:starEach [.Name x pos] X.env=[(false,eval (.Name x pos) X.env)]:=by rfl):PDA X Z [.Name x pos] (So (Y9 i) SD):=Za h Zf hs
end
abbrev Fkz [e:Ev5] (k:Nat)(x:Str)(ps:List Str)(sd:Sd):=Fk e.P e.w e.K e.mg e.base k x ps sd
abbrev Fmz [e:Ev5] (k:Nat)(C:Addr)(x:Str)(ps:List Str)(sd:Sd):=Fm e.P e.w e.K e.mg e.base k C x ps sd
abbrev Dfz [e:Ev5] (x:Str)(st:Stmt)(ps:List Str):=Df e.K e.mg x st ps
abbrev Dmz [e:Ev5] (C:Addr)(x q:Str)(st:Stmt)(ps:List Str):=Dm e.K C x q st ps
section
variable [e:Ev5]
noncomputable def AV  (zbi:Dmz Zn.C q4 "Book.__init__" Ia QH):Fmz 1 Zn.C q4 QH Dg:=
 mkM zbi za7 (λhr=>(Zd (WA Zn.cl Zn.n_boxes (dv 0) (Yr (Za (Pl (Z5 N9) rfl Si Boot.«list» (pv 1)) Zf))) (Ze (WA Zn.cl Zn.n_fates (dv 0) (Yr (Za ZR Zf)))))) λS Q ex=>by
  refine kR λn=>kR λx=>kN ?_
  rintro⟨T,b0,rfl,rfl,hx,h⟩;refine WB (v:=.ref (T.length+2)) (S1:=T++[Ob.ins Zn.C [],.lst (b0.map frD),.lst [.ref (T.length+1)]]) (S2:=T++[Ob.ins Zn.C [],.lst (b0.map frD),.lst [.ref (T.length+1)]]) (n:=T.length) (fs:=[]) (λK hK=>?_) kId (X5 ..) (by simp) ?_
  .refine KJ (ZO (Zu hx) rfl) ?_;show (if ([D.ref (T++[Ob.ins Zn.C []]).length]:List D).length<=1000 then K (.ref (T++[Ob.ins Zn.C []]++[Ob.lst (b0.map frD)]).length) (T++[Ob.ins Zn.C []]++[Ob.lst (b0.map frD)]++[.lst [D.ref (T++[Ob.ins Zn.C []]).length]]) else False);rw[if_pos (by simp)];simpa using hK
  rw[Wy];refine WB (v:=.ref (T.length+3)) (S1:=T++[Ob.ins Zn.C [("boxes",.ref (T.length+2))],.lst (b0.map frD),.lst [.ref (T.length+1)],.lst [.non]]) (S2:=T++[Ob.ins Zn.C [("boxes",.ref (T.length+2))],.lst (b0.map frD),.lst [.ref (T.length+1)],.lst [.non]]) (n:=T.length) (fs:=[("boxes",.ref (T.length+2))]) (λK hK=>?_) kId (X5 ..) (by simp) ?_
  .show (if ([D.non]:List D).length<=1000 then K (.ref (T++[Ob.ins Zn.C [("boxes",.ref (T.length+2))],.lst (b0.map frD),.lst [.ref (T.length+1)]]).length) (T++[Ob.ins Zn.C [("boxes",.ref (T.length+2))],.lst (b0.map frD),.lst [.ref (T.length+1)]]++[.lst [.non]]) else False);rw[if_pos ⋯];simpa using hK
  rw[Wy];refine h _ (T.length+2) (T.length+3) () () (λi o e=>Zu e) ⟨X5 ..,⟨[.ref (T.length+1)],by simp,rfl,λi e he=>?_⟩,⟨[.non],by simp,rfl,λi f hf=>?_⟩,(),rfl⟩
  .match i,he with
   | 0,he=>cases he;exact⟨T.length+1,rfl,(),(),by simp⟩
  .match i,hf with
   | 0,hf=>cases hf;exact⟨.non,rfl,rfl⟩
noncomputable def zgm  (AM:Dmz Zn.C q87 "Book.entries" MI PH):Fmz 1 Zn.C q87 PH HP:=
 mkM AM zg6 (λhr=>(Ze (Zj (Kk (x1:="box") (x2:="fate") (N:=[]) (caps:=[]) (ar:=Zh MI) rfl rfl Vf rfl rfl rfl ⋯ rfl VW Boot.«zip» (Za (ZL Zn.cl Zn.n_boxes (dv 0)) (Za (ZL Zn.cl Zn.n_fates (dv 0)) Zf)) (λ_ _ _ _ _ _=>(Zz (pdv 0 (Za (XE (ZA YO (dv 1) ZR (Zs _)) (Zz (Za ZU Zf)) (dv 1)) Zf)))))))) λS Q ex=>by
  refine kR λn=>kN ?_
  rintro⟨a,b,es,fs,B,l9,h⟩;obtain⟨bs,h1,h2,_⟩:=B.bx;obtain⟨ds,k1,k2,k3⟩:=B.ft;refine Nf (n:=a) (n':=b) (S1:=S) (xs:=bs) (ys:=ds) FX (λK hK=>?_) h1 k1 () (λk x y hx hy S2 K pr hK=>?_) ?_
  .exact ZM (n:=n) kId B.ins rfl (ZM (n:=n) kId B.ins rfl hK)
  .cases y<;>exact hK
  .exact h _ _ Pre.refl.push (Zq _ _) (B.told h1 k1 _)
noncomputable def BU  (zgc:Dfz "width" EG Qh):Fkz 1 "width" Qh GY:=
 mkF zgc Bf (λhr=>(Ze (Zj (Zi Yb (piv 0) (piv 0))))) λS Q ex=>by
  refine kP λ_ _=>kN λh=>?_
  exact h
noncomputable def zgs  (BC:Dfz q99 Kh Ta)(JE:Fkz 1 "width" Qh GY):Fkz 2 q99 Ta O5:=
 mkF BC zaP (λhr=>(Ze (Zj (Xr (x:="span") (N:=[]) (caps:=[]) (ar:=Zh Kh) rfl rfl csc rfl ⋯ (dv 0) pt0 (λ_ _ _ _ _ _=>(Zg JE hr (pv 0))))))) λS Q ex=>by
  refine kR λs=>kN ?_
  rintro⟨vs,hs,l9,h⟩;refine XN (n:=s) (S1:=S) (o:=.lst (vs.map frD)) (λd=>match d with|.tup [.int a,.int b]=>.int (b-a)|_=>.non) kId hs (by show (vs.map frD).length<=1000;rw[zD];lia) (λx hx S2 K pr hK=>?_) ?_
  .have hx':x∈vs.map frD:=hx;obtain⟨p,_,rfl⟩:=zL.mp hx';exact hK
  .have e2:(Zk (.lst (vs.map frD))).map (λd=>match d with|.tup [.int a,.int b]=>.int (b-a)|_=>.non)=(vs.map wd).map D.int:=by
    show (vs.map frD).map _=_;rw[yF,yF];rfl
   rw[e2];exact h
noncomputable def zdo  (ze4:Dfz WR Gk Td)(X0:Fkz 2 q99 Ta O5):Fkz 3 WR Td Qs:=
 mkF ze4 zbD (λhr=>(Ze (Zj (zex rfl rfl Y5 Boot.«max» (Zg X0 hr (pv 0)) Zb)))) λS Q ex=>by
  refine kR λn=>kN ?_
  rintro⟨bs,hb,l9,h⟩;refine CC (n:=S.length) (S1:=S++[.lst ((bs.map wd).map D.int)]) (S2:=S++[.lst ((bs.map wd).map D.int)]) (zs:=bs.map wd) (e:=.int 0) (λK hK=>⟨bs,hb,l9,hK⟩) kId (Zq _ _) (λe=>?_) λm hm hx=>?_
  .exact h 0 _ Pre.refl.push ⟨λp hp=>(by rw[tP.mp e] at hp;exact(nomatch hp)),.inl ⟨tP.mp e,rfl⟩⟩
  .obtain⟨p,hp,rfl⟩:=zL.mp hm;exact h _ _ Pre.refl.push ⟨λq hq=>hx _ (zL.mpr ⟨q,hq,rfl⟩),.inr ⟨p,hp,rfl⟩⟩
noncomputable def zg9 (UK:Dmz Zn.C q85 "Book.to_look_at" RE T8)(LM_Book_to_look_at:Lm e.K e.mg e.base UK.fd LT)(WE:Fkz 3 WR Td Qs):Fmz 6 Zn.C q85 T8 Jh:=
 UK.mk' (zdB (k:=5) UK.F HB (λ_ _ _ _=>nR λ_=>nN:Ln Jh 1) LM_Book_to_look_at.code λA outer s H E hr=>⟨_,(Zd (zaO (x1:="number") (x2:="fate") (N:=[]) (caps:=[]) (ar:=Zh RE) rfl rfl Vf rfl rfl rfl ⋯ (i:=1) HB.nd rfl rfl rfl X3 Boot.«enumerate» (Za (ZL Zn.cl Zn.n_fates (dv 0)) Zf) (λ_ _ _ _ _ _=>SI (ZA YO (dv 1) ZR (Zs _))) (λ_ _ _ _ _ _=>(dv 0))) (Ze (Zj (zbu (x:="number") (N:=["self"]) (caps:=[0]) (ar:=Zh RE) (P:=LT) (q:=LQ) rfl rfl lsc rfl rfl Y5 Boot.«max» (AS (j:=0) hr) rfl LM_Book_to_look_at.hd LM_Book_to_look_at.bm LM_Book_to_look_at.kn rfl (dv 1) (λ_ _ _ L _ _=>have hr:=zbE (j:=3) hr (RQ _ _ L _ _ _);(Zg WE hr (Za (ZG (ZL Zn.cl Zn.n_boxes (dv 1)) (dv 0)) Zf))))))),λds S Q ex h=>by
  replace h:=eR h;obtain⟨n,rfl,h⟩:=h;obtain⟨a,b,t,es,fs,B,ht,l9,le,h0,hi⟩:=h;obtain⟨ds,k1,k2,k3⟩:=B.ft;have lf:=B.len
  have tb:t≠b:=λe=>by rw[e,k1] at ht;cases ht
  refine MM (n:=b) (S1:=S) (xs:=ds) (λk ys S2=>S2=S++[.lst ys]/\ys.length<=k/\(∀y∈ys,∃i:Nat,fs[i]?=some .wait/\y=.int (i:Int))/\(ys=[]->∀i:Nat,i<k->fs[i]?≠some .wait)) (λk x=>match x with|.non=>true|_=>false) (λK hK=>by exact ZM (n:=n) kId B.ins rfl hK) k1 (λk ys S2 w=>by obtain⟨rfl,w2,_⟩:=w;exact⟨Zu k1,Zq _ _,w2⟩) () ⟨rfl,zA _,λy hy=>(nomatch hy),λ_ i hi=>absurd hi ()⟩ ?_ ?_ ?_ ?_
  .intro k x ys S2 K hx w hK;obtain⟨f,hf⟩:∃f,fs[k]?=some f:=⟨_,zE (show k<fs.length by have:=(zB.mp hx).1;lia)⟩;obtain⟨d,hd,o⟩:=k3 k f hf;rw[hx] at hd;cases hd;cases f with
   | wait=>cases o;exact hK
   | small=>cases o;exact hK
   | one _=>obtain⟨_,_,_,_,_,rfl,_⟩:=o;exact hK
   | cut _ _ _ _=>cases o;exact hK
   | out _ _=>obtain⟨_,rfl,_⟩:=o;exact hK
   | full _=>obtain⟨_,rfl,_⟩:=o;exact hK
  .rintro k x ys S2 hx hb ⟨rfl,w2,w3,w4⟩;refine⟨rfl,(),w3,λe i hi=>?_⟩;by_cases c:i=k
   .subst c;intro z;obtain⟨d,hd,o⟩:=k3 i _ z;rw[hx] at hd;cases hd;cases o;cases hb
   .exact w4 e i ()
  .rintro k x ys S2 K hx hb ⟨rfl,w2,w3,w4⟩ hK;obtain⟨f,hf⟩:∃f,fs[k]?=some f:=⟨_,zE (show k<fs.length by have:=(zB.mp hx).1;lia)⟩;have ew:f=.wait:=by
    obtain⟨d,hd,o⟩:=k3 k f hf;rw[hx] at hd;cases hd;cases f with
    | wait=>rfl
    | small=>cases o;cases hb
    | one _=>obtain⟨_,_,_,_,_,rfl,_⟩:=o;cases hb
    | cut _ _ _ _=>cases o;cases hb
    | out _ _=>obtain⟨_,rfl,_⟩:=o;cases hb
    | full _=>obtain⟨_,rfl,_⟩:=o;cases hb
   subst ew;refine hK _ _ (Zq _ _) ⟨by rw[WD],by simp;lia,λy hy=>?_,λe=>absurd e (by simp)⟩;rcases yI.mp hy with z|z
   .exact w3 y z
   .cases zH.mp z;exact⟨k,hf,rfl⟩
  .rintro ys S2 ⟨rfl,w2,w3,w4⟩;refine zfz (n:=S.length) (t:=t) (S1:=S++[.lst ys]) (xs:=ys) kId (Zu ht) (Zq _ _) (λe=>?_) (λv S3 K hv p hK=>?_) λv S3 hv p=>?_
   .refine h0 (λf hf z=>?_) _ Pre.refl.push;obtain⟨i,hi'⟩:=vQ.mp hf;subst z;exact w4 e i (by rw[k2];exact(zB.mp hi').1) hi'
   .obtain⟨i,hf,rfl⟩:=w3 v hv;have li:=(zB.mp hf).1
    have B3:=(B.pre (T:=S++[.lst ys]) Pre.refl.push).pre p
    have he:=zE (show i<es.length by lia);obtain⟨bs,m,h1,h2,o⟩:=B3.box he;refine ZM (n:=n) kId B3.ins rfl ?_;refine ZI (o:=.lst bs) h1 (Yx (j:=i) h2) ?_;exact⟨_,o.2.2,le _ (yQ ..),λm T p2 _=>hK _ _ p2⟩
   .obtain⟨i,hf,rfl⟩:=w3 v hv;exact hi i _ hf λx o e=>p _ _ (Zu e)⟩)
noncomputable def As  (zdt:Dfz "bars" JL Rm):Fkz 1 "bars" Rm Lx:=
 mkF zdt zct (λhr=>(Zd (ZC (ZA (ZS hr) (dv 0) ZU (Zs _)) (Ze (Zj (pd_or (Yt U1 (piv 1) Zb (Zs _)) (Ux (Yt Yz (piv 1) Zb (Zs _)))))) ZE) (Ze (Zj (Yt Yz (piv 1) Zb (Zs _)))))) λS Q ex=>by
  refine kS λ_=>kP λ_ _=>kN λh=>?_
  rcases h with ⟨rfl,h⟩|⟨rfl,h⟩
  .refine ifD (λc=>?_) (λc=>?_)
   .rw[decide_eq_true c,Bool.true_or] at h;exact h
   .rw[decide_eq_false c,Bool.false_or] at h;exact h
  .exact h
noncomputable def zf9  (zcN:Dfz "less" Fq OL):Fkz 1 "less" OL GL:=
 mkF zcN zeO (λhr=>(Ze (Zj (Yt Yz (Zi ZQ (piv 0) (piv 1)) (Zi ZQ (piv 1) (piv 0)) (Zs _))))) λS Q ex=>by
  refine kP λ_ _=>kP λ_ _=>kN ?_
  rintro⟨⟨h1,h2⟩,h⟩;exact⟨h1,h2,h⟩
noncomputable def C3  (BG:Dfz q34 Ez Vr):Fkz 1 q34 Vr SX:=
 mkF BG zeL (λhr=>(Ze (Zj (XR XJ (Zi Xk (XR XJ (dv 0)) (dv 1)))))) λS Q ex=>by
  refine kI λ_=>kI λ_=>kN λh=>?_
  exact h
noncomputable def CW  (zfq:Dfz To E9 Q1)(Xy:Fkz 1 q34 Vr SX)(NQ:Fkz 1 "less" OL GL):Fkz 2 To Q1 E2:=
 mkF zfq zbK (λhr=>(Zd (ZC (Y7 (Zg NQ hr (pdv 1 (pv 0)))) (Ze zfk) ZE) (Ze (Zj (Zz (Za (Zi Xk (Zi ZQ (piv 0) (dv 2)) (piv 0)) (Za (Zg Xy hr (Za (Zi ZQ (piv 1) (dv 2)) (Za (piv 1) Zf))) Zf))))))) λS Q ex=>by
  refine kP λ_ _=>kP λ_ _=>kI λ_=>kN ?_
  rintro⟨⟨⟨m1,m2⟩,nl,m3,m4,f1,f2⟩,h⟩;refine⟨⟨m1,m2⟩,ifF (decide_eq_false nl) ?_⟩;exact⟨m3,f1,m4,f2,h⟩
noncomputable def CM  (zae:Dmz ZW.C q9 "Number.forth" HH NG)(Ml:Fkz 2 To Q1 E2):Fmz 3 ZW.C q9 NG Js:=
 mkM zae D4 (λhr=>(Zd (Zm (i:=4) D4.nd (Zz (Za (ZL ZW.cl ZW.n_top (dv 0)) (Za (ZL ZW.cl ZW.n_bottom (dv 0)) Zf)))) (Ze (Zj (Zg Ml hr (pdv 4 (pdv 4 (pv 3)))))))) λS Q ex=>by
  refine kR λn=>kR λw=>kR λp=>kI λg=>kN ?_
  rintro⟨x,y,vs,bs,hn,hw,hp,ok,s1,hg,h⟩;have sg:Sz 21 g:=Sz.of 1000000 ()
  have sx:Sz 31 x:=Sz.of (10^9) ok.2.2
  have sy:Sz 31 y:=Sz.of (10^9) (by have:=ok.1;lia);refine ZM (n:=n) kId hn rfl ?_;refine ZM (n:=n) kId hn rfl ?_;exact⟨⟨⟨ZH sx sy,ZH sx sy⟩,(),ZH sx sg,ZH sx sg,sy.fd (by have:=ok.1;lia),sy.fd (by have:=ok.1;lia)⟩,h⟩
noncomputable def zak  (zdJ:Dmz ZX.C q9 "Unknown.forth" JY P7):Fmz 1 ZX.C q9 P7 Ld:=
 mkM zdJ zhg (λhr=>(Ze (Zj (ZG (dv 2) (ZL ZX.cl ZX.n_place (dv 0)))))) λS Q ex=>by
  refine kR λn=>kR λw=>kR λp=>kI λg=>kN ?_
  rintro⟨k,vs,bs,hn,hw,hp,ok,s1,hg,h⟩;refine ZM (n:=n) kId hn rfl ?_;exact ZI (o:=.lst (bs.map frD)) hp (Yj ok) h
noncomputable def zgg  (zfS:Dfz q31 FQ Wi):Fkz 1 q31 Wi Vv:=
 mkF zfS za8 (λhr=>(Ze (Zj (Zz (Za (Zi Z4 (piv 0) (piv 1)) (Za (Zi Z4 (piv 0) (piv 1)) Zf)))))) λS Q ex=>by
  refine kP λ_ _=>kP λ_ _=>kN λh=>?_
  exact h
noncomputable def zhS  (zbF:Dmz ZZ.C q9 "Plus.forth" IB NI)(YK:Fkz 1 q31 Wi Vv):Fmz 2 ZZ.C q9 NI Ks:=
 mkM zbF zfI (λhr=>(Ze (Zj (Zg YK hr (Za (ZG (dv 1) (ZL ZZ.cl ZZ.n_one (dv 0))) (Za (ZG (dv 1) (ZL ZZ.cl ZZ.n_other (dv 0))) Zf)))))) λS Q ex=>by
  refine kR λn=>kR λw=>kR λp=>kI λg=>kN ?_
  rintro⟨i,j,vs,bs,hn,hw,hp,ok,s1,hg,h⟩;refine ZM (n:=n) kId hn rfl ?_;refine ZI (o:=.lst (vs.map frD)) hw (Yj ok.1) ?_;refine ZM (n:=n) kId hn rfl ?_;refine ZI (o:=.lst (vs.map frD)) hw (Yj ok.2) ?_;exact h
noncomputable def AR  (zgl:Dfz q24 DD Wb):Fkz 1 q24 Wb W5:=
 mkF zgl zbT (λhr=>(Ze (Zj (Zz (Za (Zi Yb (piv 0) (piv 1)) (Za (Zi Yb (piv 0) (piv 1)) Zf)))))) λS Q ex=>by
  refine kP λ_ _=>kP λ_ _=>kN λh=>?_
  exact h
noncomputable def zal  (za9:Dmz Z2.C q9 "Minus.forth" E0 Ql)(Ys:Fkz 1 q24 Wb W5):Fmz 2 Z2.C q9 Ql Lj:=
 mkM za9 Ae (λhr=>(Ze (Zj (Zg Ys hr (Za (ZG (dv 1) (ZL Z2.cl Z2.n_one (dv 0))) (Za (ZG (dv 1) (ZL Z2.cl Z2.n_other (dv 0))) Zf)))))) λS Q ex=>by
  refine kR λn=>kR λw=>kR λp=>kI λg=>kN ?_
  rintro⟨i,j,vs,bs,hn,hw,hp,ok,s1,hg,h⟩;refine ZM (n:=n) kId hn rfl ?_;refine ZI (o:=.lst (vs.map frD)) hw (Yj ok.1) ?_;refine ZM (n:=n) kId hn rfl ?_;refine ZI (o:=.lst (vs.map frD)) hw (Yj ok.2) ?_;exact h
noncomputable def zek  (zav:Dfz q45 Fl VM)(Xy:Fkz 1 q34 Vr SX):Fkz 2 q45 VM Su:=
 mkG zav Hk (λhr=>(Zd (Zm (i:=3) Hk.nd (Yr (Za (Zi ZQ (piv 0) (piv 1)) (Za (Zi ZQ (piv 0) (piv 1)) (Za (Zi ZQ (piv 0) (piv 1)) (Za (Zi ZQ (piv 0) (piv 1)) Zf)))))) (Ze (Zj (Zz (Za (Zi Xk (ZK (Z5 (Vd rfl)) rfl Wf Boot.«min» (pv 3)) (dv 2)) (Za (Zg Xy hr (Za (ZK (Z5 (XG rfl)) rfl Y5 Boot.«max» (pv 3)) (pv 2))) Zf))))))) λS Q0 ex0=>by
  refine kP λa b=>kP λc d=>kI λg=>kN ?_
  rintro⟨⟨⟨m1,m2,m3,m4⟩,hg⟩,h⟩;refine⟨m1,m2,m3,m4,?_⟩;apply W3
  .exact Zq _ _
  .rfl
  .simp
  intro mn n1 n2;refine⟨hg,?_⟩;apply W3
  .exact Zq _ _
  .rfl
  .simp
  intro mx x1 x2;refine⟨hg,?_⟩;exact⟨Pre.refl.push,TN,h mn mx (Ur.of n1 n2 x1 x2)⟩
noncomputable def zeF  (ze6:Dmz Z1.C q9 "Times.forth" G1 Nc)(Xn:Fkz 2 q45 VM Su):Fmz 3 Z1.C q9 Nc N7:=
 mkM ze6 zhr (λhr=>(Ze (Zj (Zg Xn hr (Za (ZG (dv 1) (ZL Z1.cl Z1.n_one (dv 0))) (Za (ZG (dv 1) (ZL Z1.cl Z1.n_other (dv 0))) (pv 3))))))) λS Q ex=>by
  refine kR λn=>kR λw=>kR λp=>kI λg=>kN ?_
  rintro⟨i,j,vs,bs,hn,hw,hp,ok,s1,hg,h⟩;refine ZM (n:=n) kId hn rfl ?_;refine ZI (o:=.lst (vs.map frD)) hw (Yj ok.1) ?_;refine ZM (n:=n) kId hn rfl ?_;refine ZI (o:=.lst (vs.map frD)) hw (Yj ok.2) ?_;have a:=s1.at ok.1
  have b:=s1.at ok.2
  have sg:Sz 21 g:=Sz.of 1000000 ();refine⟨⟨⟨ZH a.2.1 b.2.1,ZH a.2.1 b.2.2,ZH a.2.2 b.2.1,ZH a.2.2 b.2.2⟩,sg.fd ()⟩,λmn mx hc=>?_⟩;obtain⟨rfl,rfl⟩:=hc.eq;exact h
noncomputable def zhN  (zaW:Dfz q69 DG WW):Fkz 1 q69 WW Uj:=
 mkF zaW Nu (λhr=>(Zd (Zm (i:=2) Nu.nd Zb) (Zd (Nm (i:=3) PassesOwn.never rfl Nu.nd rfl (Or.inl rfl) rfl XO (pv 1) (Ze (Zm (i:=2) Nu.nd (Zi ZQ (dv 2) (dv 0))))) (Ze (Zj (dv 2)))))) λS Q ex=>by
  refine kI λx=>kI λn=>kN ?_
  rintro⟨⟨h0,h6,sx⟩,h⟩;refine⟨⟨(),()⟩,λk dl' S'=>S'=S/\k<=n.toNat/\∃(z:Int)(o:Option D),z=x^k/\dl'=[sI x,sI n,sI z,o],⟨rfl,zZ _,1,none,(xV x).symm,rfl⟩,?_⟩;rintro k dl' S' ⟨rfl,hk,z,o,rfl,rfl⟩;refine ite2 (λc=>?_) (λc=>?_)
  .exact⟨ZH (m:=12001) (n:=2000) ((sx.pow k).mono ()) sx,rfl,(),_,_,(zV x k).symm,rfl⟩
  .have e:k=n.toNat:=by lia
   subst e;exact h
noncomputable def A9  (zcU:Dfz q59 MD Ra)(Xy:Fkz 1 q34 Vr SX)(YZ:Fkz 1 q69 WW Uj):Fkz 2 q59 Ra Ly:=
 mkG zcU Pb (λhr=>(Zd (Zm (i:=3) Pb.nd (Yr (Za (piv 0) (Za (piv 0) Zf)))) (Zd (ZC (G6 Yz Yz (piv 0) Zb (piv 0)) (Ze (Y1 (Wv (dv 3) Zb))) ZE) (Zd (QT (x:="place") (N:=["grid","many"]) (caps:=[2,1]) (ar:=Zh MD) rfl rfl csc rfl ⋯ (i:=4) Pb.nd rfl rfl (dv 3) pt0 (λ_ _ _ _ _ _=>(Zi ZQ (Zg YZ hr (pdv 0 (pv 2))) (dv 1)))) (Zd (Zm (i:=5) Pb.nd (Zg YZ hr (pdv 2 (pv 1)))) (Ze (Zj (Zz (Za (Zi Xk (ZK (Z5 (Vd rfl)) rfl Wf Boot.«min» (pv 4)) (dv 5)) (Za (Zg Xy hr (Za (ZK (Z5 (XG rfl)) rfl Y5 Boot.«max» (pv 4)) (pv 5))) Zf)))))))))) λS Q0 ex0=>by
  refine kP λa b=>kI λn=>kI λg=>kN ?_
  rintro⟨⟨n2,n6,za,zb,hg,zg⟩,h⟩;refine ifD (λc1=>?_) (λc1=>?_)
  .refine ifD (λc2=>?_) (λc2=>?_)
   .refine W4 (n:=S.length) (λK hK=>hK) (Zq _ _) (λK hK=>hK) (by simp) ?_;refine XN (n:=S.length) (o:=.lst [.int a,.int b,.int 0]) (λd=>match d with|.int v=>.int (v^n.toNat*g)|_=>.non) (λK hK=>hK) (by simp) (by simp[Zk]) (λx hx S2 K _ hK=>?_) ?_
    .have hx':x=.int a\/x=.int b\/x=.int 0:=by simpa [Zk] using hx
     rcases hx' with rfl|rfl|rfl
     all_goals exact⟨⟨(),n6,by first|exact za.mono ⋯|exact zb.mono ⋯|exact Sz.of (n:=2000) 0 ⋯⟩,ZH (m:=12001) (n:=1400) (((Sz.mono (n:=2000) (by first|exact za|exact zb|exact Sz.of (n:=1400) 0 ⋯) ⋯).pow _).mono ()) zg,hK⟩
    refine⟨⟨(),n6,zg.mono ⋯⟩,?_⟩;have gp:(0:Int)<g^n.toNat:=yD ()
    have zgp:Sz 8401 (g^n.toNat):=(zg.pow _).mono ();apply W3
    .exact Zq _ _
    .rfl
    .simp
    intro mn q1 q2;refine⟨zgp.fd gp,?_⟩;apply W3
    .exact Zq _ _
    .rfl
    .simp
    intro mx x1 x2;refine⟨zgp.fd gp,?_⟩;obtain⟨m,M,hP,rfl,rfl⟩:=Vj.of (n:=n.toNat) hg (.inr ⟨rfl,c1,c2⟩) () q1 q2 x1 x2;have r:=h m M hP;rw[<- UA hg (),<- UA hg (),xJ] at r;exact⟨(λi o e=>XW (by rw[uB _ _ (zA _),zI (zB.mp e).1];exact e)),TN,r⟩
   .skip
    refine XN (n:=S.length) (o:=.lst [.int a,.int b]) (λd=>match d with|.int v=>.int (v^n.toNat*g)|_=>.non) (λK hK=>hK) (Zq _ _) (by simp[Zk]) (λx hx S2 K _ hK=>?_) ?_
    .have hx':x=.int a\/x=.int b:=by simpa [Zk] using hx
     rcases hx' with rfl|rfl
     all_goals exact⟨⟨(),n6,by first|exact za.mono ⋯|exact zb.mono ⋯|exact Sz.of (n:=2000) 0 ⋯⟩,ZH (m:=12001) (n:=1400) (((Sz.mono (n:=2000) (by first|exact za|exact zb|exact Sz.of (n:=1400) 0 ⋯) ⋯).pow _).mono ()) zg,hK⟩
    refine⟨⟨(),n6,zg.mono ⋯⟩,?_⟩;have gp:(0:Int)<g^n.toNat:=yD ()
    have zgp:Sz 8401 (g^n.toNat):=(zg.pow _).mono ();apply W3
    .exact Zq _ _
    .rfl
    .simp
    intro mn q1 q2;refine⟨zgp.fd gp,?_⟩;apply W3
    .exact Zq _ _
    .rfl
    .simp
    intro mx x1 x2;refine⟨zgp.fd gp,?_⟩;obtain⟨m,M,hP,rfl,rfl⟩:=Vj.of (n:=n.toNat) hg (.inl ⟨rfl,λc=>c2 c.2⟩) () q1 q2 x1 x2;have r:=h m M hP;rw[<- UA hg (),<- UA hg (),xJ] at r;exact⟨Pre.refl.push.push,TN,r⟩
  .skip
   refine XN (n:=S.length) (o:=.lst [.int a,.int b]) (λd=>match d with|.int v=>.int (v^n.toNat*g)|_=>.non) (λK hK=>hK) (Zq _ _) (by simp[Zk]) (λx hx S2 K _ hK=>?_) ?_
   .have hx':x=.int a\/x=.int b:=by simpa [Zk] using hx
    rcases hx' with rfl|rfl
    all_goals exact⟨⟨(),n6,by first|exact za.mono ⋯|exact zb.mono ⋯|exact Sz.of (n:=2000) 0 ⋯⟩,ZH (m:=12001) (n:=1400) (((Sz.mono (n:=2000) (by first|exact za|exact zb|exact Sz.of (n:=1400) 0 ⋯) ⋯).pow _).mono ()) zg,hK⟩
   refine⟨⟨(),n6,zg.mono ⋯⟩,?_⟩;have gp:(0:Int)<g^n.toNat:=yD ()
   have zgp:Sz 8401 (g^n.toNat):=(zg.pow _).mono ();apply W3
   .exact Zq _ _
   .rfl
   .simp
   intro mn q1 q2;refine⟨zgp.fd gp,?_⟩;apply W3
   .exact Zq _ _
   .rfl
   .simp
   intro mx x1 x2;refine⟨zgp.fd gp,?_⟩;obtain⟨m,M,hP,rfl,rfl⟩:=Vj.of (n:=n.toNat) hg (.inl ⟨rfl,λc=>c1 c.1⟩) () q1 q2 x1 x2;have r:=h m M hP;rw[<- UA hg (),<- UA hg (),xJ] at r;exact⟨Pre.refl.push.push,TN,r⟩
noncomputable def zax  (zdD:Dmz ZJ.C q9 "Power.forth" GQ QZ)(UU:Fkz 2 q59 Ra Ly):Fmz 3 ZJ.C q9 QZ LF:=
 mkM zdD zfa (λhr=>(Ze (Zj (Zg UU hr (Za (ZG (dv 1) (ZL ZJ.cl ZJ.n_one (dv 0))) (Za (ZL ZJ.cl ZJ.n_many (dv 0)) (pv 3))))))) λS Q ex=>by
  refine kR λn=>kR λw=>kR λp=>kI λg=>kN ?_
  rintro⟨i,m,vs,bs,hn,hw,hp,ok,s1,hg,h⟩;refine ZM (n:=n) kId hn rfl ?_;refine ZI (o:=.lst (vs.map frD)) hw (Yj ok.1) ?_;refine ZM (n:=n) kId hn rfl ?_;have a:=s1.at ok.1
  have sg:Sz 21 g:=Sz.of 1000000 ();refine⟨⟨by have:=ok.2.1;lia,ok.2.2,a.2.1,a.2.2,hg.1,sg.mono ⋯⟩,λm' M' hP=>?_⟩;obtain⟨rfl,rfl⟩:=hP.eq (by have:=ok.2.1;lia);exact h
noncomputable def zeU  (zcV:Dmz ZJ.C q4 "Power.__init__" IP Pj):Fmz 1 ZJ.C q4 Pj F1:=
 mkM zcV zg2 (λhr=>(Zd (WA ZJ.cl ZJ.n_one (dv 0) (dv 1)) (Ze (WA ZJ.cl ZJ.n_many (dv 0) (dv 2))))) λS Q ex=>by
  refine kR λn=>kD λx=>kD λy=>kN ?_
  rintro⟨T,rfl,rfl,h⟩;refine WB (v:=x) (S1:=T++[Ob.ins ZJ.C []]) (S2:=T++[Ob.ins ZJ.C []]) (n:=T.length) (fs:=[]) kId kId (X5 ..) (by simp) ?_;rw[Wy];refine WB (v:=y) (S1:=T++[Ob.ins ZJ.C [("one",x)]]) (S2:=T++[Ob.ins ZJ.C [("one",x)]]) (n:=T.length) (fs:=[("one",x)]) kId kId (X5 ..) (by simp) ?_;rw[Wy];exact h
noncomputable def zeW  (Bq:Dmz ZW.C q4 "Number.__init__" EK P8):Fmz 1 ZW.C q4 P8 Gq:=
 mkM Bq zeX (λhr=>(Zd (WA ZW.cl ZW.n_top (dv 0) (dv 1)) (Ze (WA ZW.cl ZW.n_bottom (dv 0) (dv 2))))) λS Q ex=>by
  refine kR λn=>kD λx=>kD λy=>kN ?_
  rintro⟨T,rfl,rfl,h⟩;refine WB (v:=x) (S1:=T++[Ob.ins ZW.C []]) (S2:=T++[Ob.ins ZW.C []]) (n:=T.length) (fs:=[]) kId kId (X5 ..) (by simp) ?_;rw[Wy];refine WB (v:=y) (S1:=T++[Ob.ins ZW.C [("top",x)]]) (S2:=T++[Ob.ins ZW.C [("top",x)]]) (n:=T.length) (fs:=[("top",x)]) kId kId (X5 ..) (by simp) ?_;rw[Wy];exact h
noncomputable def zhF  (ze1:Dmz ZX.C q4 q135 IJ OP):Fmz 1 ZX.C q4 OP GK:=
 mkM ze1 zbo (λhr=>(Ze (WA ZX.cl ZX.n_place (dv 0) (dv 1)))) λS Q ex=>by
  refine kR λn=>kD λx=>kN ?_
  rintro⟨T,rfl,rfl,h⟩;refine WB (v:=x) (S1:=T++[Ob.ins ZX.C []]) (S2:=T++[Ob.ins ZX.C []]) (n:=T.length) (fs:=[]) kId kId (X5 ..) (by simp) ?_;rw[Wy];exact h
def LO {C:Addr}{c:Int->Int->Nd}(p:Pr C c)(d:Dmz C q4 q97 F2 Qw):Fmz 1 C q4 Qw (Ui C "one" q80):=
 mkM d zcO (λhr=>(Zd (WA p.cl p.o (dv 0) (dv 1)) (Ze (WA p.cl p.t (dv 0) (dv 2))))) λS Q ex=>by
  refine kR λn=>kD λx=>kD λy=>kN ?_
  rintro⟨T,rfl,rfl,h⟩;refine WB (v:=x) (S1:=T++[Ob.ins C []]) (S2:=T++[Ob.ins C []]) (n:=T.length) (fs:=[]) kId kId (X5 ..) (by simp) ?_;rw[Wy];refine WB (v:=y) (S1:=T++[Ob.ins C [("one",x)]]) (S2:=T++[Ob.ins C [("one",x)]]) (n:=T.length) (fs:=[("one",x)]) kId kId (X5 ..) (by simp) ?_;rw[Wy];exact h
noncomputable def zh6  (zcn:Dfz q86 Ef TL)(UD:Fmz 1 ZJ.C q4 Pj F1)(Ug:Fmz 1 Z1.C q4 BZ zcw)(Tj:Fmz 1 Z2.C q4 zgf zec)(Ud:Fmz 1 ZZ.C q4 Qw zg0)(Tx:Fmz 1 ZX.C q4 OP GK)(Tp:Fmz 1 ZW.C q4 P8 Gq):Fkz 3 q86 TL Om:=
 mkF zcn zdV (λhr=>(Zd (ZC (ZA (ZS hr) (piv 0) ZU (Zs _)) (Ze (Zj (VH ⟨ZW.makes,Tp.m.at_,Tp.m.fn,ZW.kp⟩ Tp.ok (rmn hr) rfl ZW.m Tp.b Vu (Za (piv 0) (Za (piv 0) Zf))))) ZE) (Zd (ZC (ZA (ZS hr) (piv 0) ZU (Zs _)) (Ze (Zj (VH ⟨ZX.makes,Tx.m.at_,Tx.m.fn,ZX.kp⟩ Tx.ok (rmn hr) rfl ZX.m Tx.b Vu (Za (piv 0) Zf)))) ZE) (Zd (ZC (ZA (ZS hr) (piv 0) ZU (Zs _)) (Ze (Zj (VH ⟨ZZ.makes,Ud.m.at_,Ud.m.fn,ZZ.kp⟩ Ud.ok (rmn hr) rfl ZZ.m Ud.b Vu (Za (piv 0) (Za (piv 0) Zf))))) ZE) (Zd (ZC (ZA (ZS hr) (piv 0) ZU (Zs _)) (Ze (Zj (VH ⟨Z2.makes,Tj.m.at_,Tj.m.fn,Z2.kp⟩ Tj.ok (rmn hr) rfl Z2.m Tj.b Vu (Za (piv 0) (Za (piv 0) Zf))))) ZE) (Zd (ZC (ZA (ZS hr) (piv 0) ZU (Zs _)) (Ze (Zj (VH ⟨Z1.makes,Ug.m.at_,Ug.m.fn,Z1.kp⟩ Ug.ok (rmn hr) rfl Z1.m Ug.b Vu (Za (piv 0) (Za (piv 0) Zf))))) ZE) (Ze (Zj (VH ⟨ZJ.makes,UD.m.at_,UD.m.fn,ZJ.kp⟩ UD.ok (rmn hr) rfl ZJ.m UD.b Vu (Za (piv 0) (Za (piv 0) Zf))))))))))) λS Q ex=>by
  refine kD λ_=>kN ?_
  rintro⟨v,rfl,h⟩;cases v<;>exact⟨S,rfl,rfl,rfl,h⟩
noncomputable def Cz  (zdH:Dfz q23 DR XU)(KQ:Fmz 3 ZJ.C q9 QZ LF)(L1:Fmz 3 Z1.C q9 Nc N7)(ML:Fmz 2 Z2.C q9 Ql Lj)(Li:Fmz 2 ZZ.C q9 NI Ks)(Kf:Fmz 1 ZX.C q9 P7 Ld)(L6:Fmz 3 ZW.C q9 NG Js)(Ww:Fkz 3 q86 TL Om):Fkz 4 q23 XU Wo:=
 mkF zdH Jr (λhr=>(Zd (Zm (i:=3) Jr.nd (Yr Zf)) (Zd (Sg (i:=4) PassesOwn.never rfl Jr.nd rfl (Or.inl rfl) (dv 0) (Ze (Y1 (Wv (dv 3) (L8 (Zg Ww hr (pv 4)) (YI ZW.cl L6 (rmn hr) (YI ZX.cl Kf (rmn hr) (YI ZZ.cl Li (rmn hr) (YI Z2.cl ML (rmn hr) (YI Z1.cl L1 (rmn hr) (YI ZJ.cl KQ (rmn hr) N4)))))) YE (pdv 3 (pdv 1 (pv 2)))))))) (Ze (Zj (dv 3)))))) λS Q ex=>by
  refine kR λa=>kR λb=>kI λg=>kN ?_
  rintro⟨ns,ws,bs,ha,hb,net,sb,hg,hl,h⟩;have disp:∀v:Nd,∃C fs sd,v.oz=.ins C fs/\(C,sd)∈[(ZW.C,Js),(ZX.C,Ld),(ZZ.C,Ks),(Z2.C,Lj),(Z1.C,N7),(ZJ.C,LF)]/\fs.lookup ("forth":Str)=none/\∀(n w p:Nat)(g:Int)(S:Sto)(Q:DK)(ex:Addr->Sto->Prop)(vs bs:LI),S[n]?=some (v.oz)->La S w (vs.map frD)->La S p (bs.map frD)->v.ok vs.length bs.length->Spn 1400 vs->(Gg g)->Q (frD (v.fw vs bs g)) S->sd [.ref n,.ref w,.ref p,.int g] S Q ex:=by
   intro v;cases v with
   | number x y=>exact⟨_,_,_,rfl,(.head _),rfl,λn w p g S Q ex vs bs a1 a2 a3 a4 a5 a6 q=>⟨x,y,vs,bs,a1,a2,a3,a4,a5,a6,q⟩⟩
   | unknown k=>exact⟨_,_,_,rfl,(.tail _ (.head _)),rfl,λn w p g S Q ex vs bs a1 a2 a3 a4 a5 a6 q=>⟨k,vs,bs,a1,a2,a3,a4,a5,a6,q⟩⟩
   | plus i j=>exact⟨_,_,_,rfl,(.tail _ (.tail _ (.head _))),rfl,λn w p g S Q ex vs bs a1 a2 a3 a4 a5 a6 q=>⟨i,j,vs,bs,a1,a2,a3,a4,a5,a6,q⟩⟩
   | minus i j=>exact⟨_,_,_,rfl,(.tail _ (.tail _ (.tail _ (.head _)))),rfl,λn w p g S Q ex vs bs a1 a2 a3 a4 a5 a6 q=>⟨i,j,vs,bs,a1,a2,a3,a4,a5,a6,q⟩⟩
   | times i j=>exact⟨_,_,_,rfl,(.tail _ (.tail _ (.tail _ (.tail _ (.head _))))),rfl,λn w p g S Q ex vs bs a1 a2 a3 a4 a5 a6 q=>⟨i,j,vs,bs,a1,a2,a3,a4,a5,a6,q⟩⟩
   | power i m=>exact⟨_,_,_,rfl,(.tail _ (.tail _ (.tail _ (.tail _ (.tail _ (.head _)))))),rfl,λn w p g S Q ex vs bs a1 a2 a3 a4 a5 a6 q=>⟨i,m,vs,bs,a1,a2,a3,a4,a5,a6,q⟩⟩
  have la:=Ye ha
  have lb:=Ye hb;refine Rf (n:=a) (o:=.lst (ns.map Nd.d)) (λk dl' S'=>k<=ns.length/\Pre S S'/\La S' S.length ((Zo bs g (ns.take k)).map frD)/\∃u:Option D,dl'=[sR a,sR b,sI g,sR S.length,u]) ⟨zZ _,Pre.refl.push,Zq _ _,_,rfl⟩ (λk dl' S' w=>w.2.1 _ _ ha) ?_ ?_
  .rintro k x dl' S' nx ct ex' ⟨hk,pr,hf,u,rfl⟩ hn;have ex2:(ns.map Nd.d)[k]?=some x:=ex';rw[zG] at ex2;obtain⟨v,hv,rfl⟩:=zP.mp ex2;have hk':=(zB.mp hv).1
   have ln:(Zo bs g (ns.take k)).length=k:=by rw[YU,zO];lia
   have okv:v.ok (Zo bs g (ns.take k)).length bs.length:=by rw[ln];exact(net.ok k v hv).1
   obtain⟨C,fs,sd,eo,hm,hf2,go⟩:=disp v;have N1:=Zq S' (v.oz);refine zbX (n:=S.length) (S1:=S') (S2:=S'++[v.oz]) (xs:=(Zo bs g (ns.take k)).map frD) (y:=frD (v.fw (Zo bs g (ns.take k)) bs g)) kId hf (λK hK=>?_) (Zu hf) (by rw[zD,ln];lia) ?_
   .refine MW (n:=S'.length) (C:=C) (sd:=sd) (fs:=fs) (S1:=S'++[v.oz]) (λK hK=>⟨v,rfl,by exact hK⟩) (by rw[<- eo];exact N1) hm hf2 ?_;exact go _ _ _ _ _ _ _ (Zo bs g (ns.take k)) bs N1 (Zu hf) (Zu (pr _ _ hb)) okv ((OD net rfl sb hg k hk).mono ⋯) hg hK
   .refine hn _ _ ⟨(),X8 (Xb pr _) (zA _),?_,_,rfl⟩;rw[YG hv,RM,xI];exact YV (Zu hf)
  .rintro dl' S' ⟨hk,pr,hf,u,rfl⟩;refine h _ _ pr (zA _) ?_;have e:ns.take (Zk (.lst (ns.map Nd.d))).length=ns:=by
    show ns.take (ns.map Nd.d).length=ns;rw[zD,yE]
   rw[e] at hf;exact hf
noncomputable def zez  (zhC:Dfz q73 FK SK)(V9:Fkz 1 "bars" Rm Lx)(Yn:Fkz 4 q23 XU Wo):Fkz 5 q73 SK NV:=
 mkF zhC Iq (λhr=>(Zd (Zm (i:=4) Iq.nd (piv 1)) (Ze (Zj (Zg V9 hr (Za (piv 1) (Za (ZG (Zg Yn hr (Za (WI (dv 0) Wj (Wx (Zi Z4 (dv 4) Zb))) (pdv 2 (pv 3)))) (dv 4)) Zf))))))) λS Q ex=>by
  refine kR λa=>kT λw k=>kR λb=>kI λg=>kN ?_
  rintro⟨ns,ws,bs,zero,ha,hb,hw,⟨k0,k1⟩,net,sb,hg,hl,h⟩;obtain⟨kn,rfl⟩:∃kn:Nat,k=(kn:Int):=⟨k.toNat,()⟩;rw[zJ] at h;refine WO (n:=a) (o:=.lst (ns.map Nd.d)) (lo:=none) (hi:=some ((kn:Int)+1)) (S3:=S) kId kId kId ha ?_;have ec:Yd (ns.map Nd.d) none (some ((kn:Int)+1))=(ns.take (kn+1)).map Nd.d:=by
   rw[PV () (by rw[zD];lia),wW];rfl
  rw[show Zk (Ob.lst (ns.map Nd.d))=ns.map Nd.d from rfl,ec];refine⟨ns.take (kn+1),ws.take (kn+1),bs,Zq _ _,Zu hb,net.take _,sb,hg,by rw[zO];lia,λT m pr lm hf=>?_⟩;have prS:Pre S T:=λn o e=>pr n o (Zu e)
  have l1:(Zo bs g (ns.take (kn+1))).length=kn+1:=by rw[YU,zO];lia
  have ik:inR (((Zo bs g (ns.take (kn+1))).length:Nat):Int) (kn:Int):=⟨(),()⟩;refine ZI (o:=.lst ((Zo bs g (ns.take (kn+1))).map frD)) hf (Yj ik) ?_;rcases hw with ⟨rfl,rfl⟩|⟨rfl,rfl⟩
  .exact .inl ⟨rfl,h T prS⟩
  .exact .inr ⟨rfl,h T prS⟩
noncomputable def zcv  (CA:Dfz q70 E6 Vb):Fkz 1 q70 Vb UT:=
 mkF CA KS (λhr=>(Zd (Zm (i:=2) KS.nd (ZK (XG rfl) rfl Y5 Boot.«max» (Za (piv 0) (Za (piv 1) Zf)))) (Zd (Zm (i:=3) KS.nd (ZK (Vd rfl) rfl Wf Boot.«min» (Za (piv 0) (Za (piv 1) Zf)))) (Zd (ZC (ZA U1 (dv 2) (dv 3) (Zs _)) (Ze (Zj ZR)) ZE) (Ze (Zj (Zz (pdv 2 (pv 3))))))))) λS Q ex=>by
  refine kP λa b=>kP λc d=>kN ?_
  rintro⟨h1,h2⟩;unfold VL at h1 h2;refine ifD (λe=>?_) (λe=>?_)
  .exact h1 (if_pos e)
  .exact h2 _ (if_neg e)
noncomputable def zdT  (zdM:Dfz U3 Es Qy)(YY:Fkz 1 q70 Vb UT):Fkz 2 U3 Qy Cd:=
 mkF zdM zgO (λhr=>(Zd (ZC (ZA (ZS hr) (dv 0) ZU (Zs _)) (Ze (Zj (Zg YY hr (pdv 1 (Za (Zz (Za Zb (Za Zb Zf))) Zf))))) ZE) (Ze (Zj (Zg YY hr (pdv 1 (Za (Zz (Za Zb (Za (ZK (XG rfl) rfl Y5 Boot.«max» (Za (piv 1) (Za Zb Zf))) Zf))) Zf))))))) λS Q ex=>by
  refine kS λw=>kP λa b=>kN ?_
  rintro⟨zero,hw,h1,h2⟩;rcases hw with ⟨rfl,rfl⟩|⟨rfl,rfl⟩
  all_goals exact⟨λ_=>h1,λp e=>h2 p.1 p.2 (Rb e)⟩
noncomputable def zg3  (zbl:Dmz ZW.C "back" "Number.back" G5 Qi):Fmz 1 ZW.C "back" Qi LK:=
 mkM zbl zeA (λhr=>(Ze (Zj (Yr Zf)))) λS Q ex=>by
  refine kR λn=>kR λw=>kP λz0 z1=>kI λg=>kN ?_
  rintro⟨x,y,vs,q,hn,hw,ok,⟨hs,⟨sz0,sz1⟩,hg⟩,h1,h2⟩;exact h2 [] ⟨by simp,λp hp=>nomatch hp⟩
noncomputable def zcI  (zcR:Dmz ZX.C "back" "Unknown.back" Fb Qu):Fmz 1 ZX.C "back" Qu MK:=
 mkM zcR zeE (λhr=>(Ze (Zj (Yr Zf)))) λS Q ex=>by
  refine kR λn=>kR λw=>kP λz0 z1=>kI λg=>kN ?_
  rintro⟨k,vs,q,hn,hw,ok,⟨hs,⟨sz0,sz1⟩,hg⟩,h1,h2⟩;exact h2 [] ⟨by simp,λp hp=>nomatch hp⟩
noncomputable def zdP  (zaV:Dmz ZZ.C q15 "Plus.first_left" Gs OJ)(YY:Fkz 1 q70 Vb UT)(Ys:Fkz 1 q24 Wb W5):Fmz 2 ZZ.C q15 OJ OR:=
 mkM zaV ze7 (λhr=>(Ze (Zj (Zg YY hr (pdv 2 (Za (Zg Ys hr (pdv 1 (pv 3))) Zf)))))) λS Q ex=>by
  refine kR λ_=>kP λ_ _=>kP λ_ _=>kP λ_ _=>kI λ_=>kN λh=>?_
  exact⟨λ_=>h.2.1,λp e=>h.2.2 p.1 p.2 (Rb e)⟩
noncomputable def BJ  (zbq:Dmz ZZ.C q13 q136 GW QN)(YY:Fkz 1 q70 Vb UT)(Ys:Fkz 1 q24 Wb W5):Fmz 2 ZZ.C q13 QN PX:=
 mkM zbq BR (λhr=>(Ze (Zj (Zg YY hr (pdv 3 (Za (Zg Ys hr (pdv 1 (pv 2))) Zf)))))) λS Q ex=>by
  refine kR λ_=>kP λ_ _=>kP λ_ _=>kP λ_ _=>kI λ_=>kN λh=>?_
  exact⟨λ_=>h.2.1,λp e=>h.2.2 p.1 p.2 (Rb e)⟩
def LX {C:Addr}{c:Int->Int->Nd}{k:Nat}(p:Pr C c)(d:Dmz C "back" q133 Iz Pc)(G_2:Fmz k C q13 QN PX)(G_1:Fmz k C q15 OJ OR):Fmz (k+1) C "back" Pc (Qe c):=
 mkM d NB (λhr=>(Zd (Zm (i:=4) NB.nd (XI (C:=C) (dv 0) p.cl G_1.m G_1.ok (hr.mono (zA _)) G_1.b YE (pdv 2 (Za (ZG (dv 1) (ZL p.cl p.o (dv 0))) (Za (ZG (dv 1) (ZL p.cl p.t (dv 0))) (pv 3)))))) (Zd (ZC (ZA YO (dv 4) ZR (Zs _)) (Ze (Zj ZR)) ZE) (Zd (Zm (i:=5) NB.nd (XE (ZA (ZS hr) (ZL p.cl p.o (dv 0)) (ZL p.cl p.t (dv 0)) (Zs _)) (dv 4) (ZG (dv 1) (ZL p.cl p.t (dv 0))))) (Zd (Zm (i:=5) NB.nd (XI (C:=C) (dv 0) p.cl G_2.m G_2.ok (hr.mono (zA _)) G_2.b YE (pdv 2 (pdv 4 (pdv 5 (pv 3)))))) (Zd (ZC (ZA YO (dv 5) ZR (Zs _)) (Ze (Zj ZR)) ZE) (Ze (Zj (Yr (Za (Zz (Za (ZL p.cl p.o (dv 0)) (pv 4))) (Za (Zz (Za (ZL p.cl p.t (dv 0)) (pv 5))) Zf))))))))))) λS Q ex=>by
  refine kR λn=>kR λw=>kP λz0 z1=>kI λg=>kN ?_
  rintro⟨i,j,vs,q,hn,hw,ok,⟨hs,⟨sz0,sz1⟩,hg⟩,h1,h2⟩;rw[p.b] at hn;rw[p.k] at ok;have a:=hs.at ok.1
  have b:=hs.at ok.2
  have up:∀ {x:Int},Sz 1000 x->Sz 1100 x:=λz=>z.mono ⋯
  refine Xi (n:=n) (fs:=[("one",.int i),("other",.int j)]) kId hn rfl ?_;refine ZM (n:=n) kId hn rfl ?_;refine ZI (o:=.lst (vs.map frD)) hw (Yj ok.1) ?_;refine ZM (n:=n) kId hn rfl ?_;refine ZI (o:=.lst (vs.map frD)) hw (Yj ok.2) ?_;refine⟨⟨up sz0,up sz1,up b.1,up b.2,Sz.of 1000000 ()⟩,h1,λx x' l=>?_⟩;have z:=l _ a.1 a.2;refine ZM (n:=n) kId hn rfl ?_;refine ZM (n:=n) kId hn rfl ?_;refine ifD (λc=>?_) (λc=>?_)
  all_goals try refine ZM (n:=n) kId hn rfl ?_
  all_goals try refine ZI (o:=.lst (vs.map frD)) hw (Yj ok.2) ?_
  all_goals
   refine Xi (n:=n) (fs:=[("one",.int i),("other",.int j)]) kId hn rfl ?_;refine⟨⟨up sz0,up sz1,up z.1,up z.2,Sz.of 1000000 ()⟩,h1,λr r' k=>?_⟩;refine ZM (n:=n) kId hn rfl ?_;refine ZM (n:=n) kId hn rfl ?_;exact h2 [(i,x,x'),(j,r,r')] (zbm ok.1 ok.2 z (k _ (by first|exact z.1|exact b.1) (by first|exact z.2|exact b.2)))
noncomputable def CF  (A5:Dmz Z2.C q15 q137 Gb Mw)(YY:Fkz 1 q70 Vb UT)(YK:Fkz 1 q31 Wi Vv):Fmz 2 Z2.C q15 Mw CD:=
 mkM A5 zeu (λhr=>(Ze (Zj (Zg YY hr (pdv 2 (Za (Zg YK hr (pdv 1 (pv 3))) Zf)))))) λS Q ex=>by
  refine kR λ_=>kP λ_ _=>kP λ_ _=>kP λ_ _=>kI λ_=>kN λh=>?_
  exact⟨λ_=>h.2.1,λp e=>h.2.2 p.1 p.2 (Rb e)⟩
noncomputable def C9  (zgB:Dmz Z2.C q13 q131 Eb Lc)(YY:Fkz 1 q70 Vb UT)(Ys:Fkz 1 q24 Wb W5):Fmz 2 Z2.C q13 Lc zcE:=
 mkM zgB zaR (λhr=>(Ze (Zj (Zg YY hr (pdv 3 (Za (Zg Ys hr (pdv 2 (pv 1))) Zf)))))) λS Q ex=>by
  refine kR λ_=>kP λ_ _=>kP λ_ _=>kP λ_ _=>kI λ_=>kN λh=>?_
  exact⟨λ_=>h.2.1,λp e=>h.2.2 p.1 p.2 (Rb e)⟩
noncomputable def BK  (zaf:Dfz q54 G7 Np):Fkz 1 q54 Np Hc:=
 mkF zaf zgL (λhr=>(Ze (Zj (BE VR VR (piv 0) Zb (piv 0))))) λS Q ex=>by
  refine kP λ_ _=>kN λh=>?_
  exact and2 h
noncomputable def zfZ  (BD:Dfz q41 JO SS):Fkz 1 q41 SS K9:=
 mkF BD zfw (λhr=>(Zd (ZC (PDW.pt (RS (ZA U1 (piv 1) (piv 0) (Zs _)) (PL (ZA Yz (piv 2) (piv 0) (Zs _))))) (Ze (Zj ZR)) ZE) (Ze (Zj (Zz (Za (ZK (XG rfl) rfl Y5 Boot.«max» (Za (piv 1) (Za (piv 0) Zf))) (Za (ZK (Vd rfl) rfl Wf Boot.«min» (Za (piv 2) (Za (piv 0) Zf))) Zf))))))) λS Q ex=>by
  refine kP λx0 x1=>kP λl0 l1=>kP λk0 k1=>kN ?_
  rintro⟨⟨a1,a2⟩,h1,h2⟩;refine ifD (λc=>h1) (λc1=>ifD (λc=>h1) (λc2=>?_));exact h2 (if x0 > l0 then x0 else l0) (if x1<k1 then x1 else k1) λB z0 z1=>⟨Sz.btw z0 z1 (by dsimp only;split<;>lia),Sz.btw z0 z1 (by dsimp only;split<;>lia)⟩
noncomputable def zgJ  (zaL:Dfz Uz DY O8)(Xy:Fkz 1 q34 Vr SX):Fkz 2 Uz O8 Ge:=
 mkF zaL BV (λhr=>(Ze (Zj (Zz (Za (Zi Xk (dv 0) (dv 1)) (Za (Zg Xy hr (pdv 0 (pv 1))) Zf)))))) λS Q ex=>by
  refine kI λ_=>kI λ_=>kN ?_
  rintro⟨hb,h⟩;exact⟨hb,hb,h⟩
noncomputable def BI  (zcq:Dfz q55 J6 O3)(W0:Fkz 1 q41 SS K9)(OV:Fkz 2 Uz O8 Ge):Fkz 3 q55 O3 Gj:=
 mkF zcq Sj (λhr=>(Zd (Zm (i:=3) Sj.nd (XE (ZA U1 (piv 0) Zb (Zs _)) (piv 2) (piv 2))) (Zd (Zm (i:=4) Sj.nd (XE (ZA Yz (piv 0) Zb (Zs _)) (piv 2) (piv 2))) (Zd (Zm (i:=5) Sj.nd (XE (ZA (ZS hr) (dv 3) Zb (Zs _)) (Zz (Za (piv 1) (Za (piv 1) Zf))) (Zg OV hr (Za (piv 0) (pv 3))))) (Zd (Zm (i:=6) Sj.nd (XE (ZA (ZS hr) (dv 4) Zb (Zs _)) (Zz (Za (piv 1) (Za (piv 1) Zf))) (Zg OV hr (Za (piv 0) (pv 4))))) (Ze (Zj (Zg W0 hr (pdv 1 (pdv 5 (pv 6))))))))))) λS Q ex=>by
  refine kP λlo hi=>kP λx0 x1=>kP λc d=>kN ?_
  rintro⟨⟨h0,hd,zc,zd⟩,h⟩;refine ifD (λe1=>?_) (λe1=>?_)
  all_goals refine ifD (λe2=>?_) (λe2=>?_)
  all_goals refine ifD (λe3=>?_) (λe3=>?_)
  all_goals try refine⟨⟨(),by first|exact zd.log ()|exact zc.log ()⟩,?_⟩
  all_goals refine ifD (λe4=>?_) (λe4=>?_)
  all_goals try refine⟨⟨(),by first|exact zd.log ()|exact zc.log ()⟩,?_⟩
  all_goals exact⟨⟨by first|exact zQ _|exact Di (),by first|exact zQ _|exact Di ()⟩,h⟩
noncomputable def zf0  (zhT:Dfz "hull" Ek QE):Fkz 1 "hull" QE Ih:=
 mkF zhT zhc (λhr=>(Ze (Zj (Zz (Za (ZK (Vd rfl) rfl Wf Boot.«min» (Za (piv 0) (Za (piv 1) Zf))) (Za (ZK (XG rfl) rfl Y5 Boot.«max» (Za (piv 0) (Za (piv 1) Zf))) Zf)))))) λS Q ex=>by
  refine kP λ_ _=>kP λ_ _=>kN λh=>?_
  exact h
noncomputable def zb4  (Hq:Dfz VC J4 Sh)(NT:Fkz 1 "hull" QE Ih):Fkz 2 VC Sh Ti:=
 Hq.mk' (WL (k:=1) Hq.F Bm (zh9) λ_ _ _ _ _ _ _ hr=>⟨_,(Zd (ZC (ZA YO (dv 0) ZR (Zs _)) (Ze (Zj (dv 1))) ZE) (Zd (ZC (ZA YO (dv 1) ZR (Zs _)) (Ze (Zj (dv 0))) ZE) (Ze (Zj (Zg NT hr (pdv 0 (pv 1))))))),λds S Q ex h=>by
  unfold Ti at h;split at h
  .exact h
  .exact h
  .exact h
  .exact h.elim⟩)
noncomputable def zbH  (zc4:Dfz q53 F0 VJ):Fkz 1 q53 VJ SG:=
 mkF zc4 zau (λhr=>(Ze (Zj (Zz (Za (XR XJ (piv 0)) (Za (XR XJ (piv 0)) Zf)))))) λS Q ex=>by
  refine kP λ_ _=>kN λh=>?_
  exact h
noncomputable def zd8  (zfb:Dfz q60 HN RK)(TK:Fkz 2 VC Sh Ti)(Py:Fkz 3 q55 O3 Gj)(Xs:Fkz 1 q53 VJ SG)(Nk:Fkz 1 q54 Np Hc):Fkz 4 q60 RK Lw:=
 mkF zfb Uu (λhr=>(Zd (ZC (PDW.pt (Dd (Y7 (Zg Nk hr (pv 2))) (HY (Y7 (Zg Nk hr (pv 0)))))) (Ze (Zj (dv 1))) ZE) (Zd (Zm (i:=4) Uu.nd (Zz (Za (Zi ZQ (piv 0) (dv 3)) (Za (Zi ZQ (piv 0) (dv 3)) Zf)))) (Zd (Zm (i:=5) Uu.nd ZR) (Zd (ZC (ZA U1 (piv 2) Zb (Zs _)) (Ze (Zm (i:=5) Uu.nd (Zg Py hr (pdv 4 (pdv 1 (Za (Zz (Za (ZK (XG rfl) rfl Y5 Boot.«max» (Za (piv 2) (Za Zb Zf))) (Za (piv 2) Zf))) Zf)))))) ZE) (Zd (ZC (ZA Yz (piv 2) Zb (Zs _)) (Zd (Zm (i:=6) Uu.nd (Zg Py hr (Za (Zg Xs hr (pv 4)) (pdv 1 (Za (Zz (Za (ZK (XG rfl) rfl Y5 Boot.«max» (Za (XR XJ (piv 2)) (Za Zb Zf))) (Za (XR XJ (piv 2)) Zf))) Zf))))) (Ze (Zm (i:=5) Uu.nd (Zg TK hr (pdv 5 (pv 6)))))) ZE) (Ze (Zj (dv 5))))))))) λS Q ex=>by
  refine kP λz0 z1=>kP λx0 x1=>kP λy0 y1=>kI λg=>kN ?_
  rintro⟨⟨sz0,sz1,sy0,sy1,sg⟩,hn,ht⟩;refine if2 (λa1 a2=>if2 (λb1 b2=>ht x0 x1 λB z z'=>⟨z,z'⟩) (λn=>?_)) (λn=>?_)
  all_goals refine⟨ZH sz0 sg,ZH sz1 sg,?_⟩
  all_goals refine ifD (λc1=>?_) (λc1=>?_)
  all_goals try refine⟨⟨Dz _,c1,Ew (sy0.mono ⋯),sy1.mono ⋯⟩,?_,λa b l=>?_⟩
  all_goals refine ifD (λc2=>?_) (λc2=>?_)
  all_goals try refine⟨⟨Dz _,(),Ew (sy1.neg.mono ⋯),sy0.neg.mono ⋯⟩,?_,λa' b' l'=>?_⟩
  all_goals first|exact hn|exact ht _ _ l'|exact ht _ _ l|exact ht (if a'<a then a' else a) (if b' > b then b' else b) (l.hull l')
noncomputable def zhw  (zbZ:Dmz Z1.C q15 q138 GJ NN)(Ul:Fkz 4 q60 RK Lw):Fmz 5 Z1.C q15 NN zfM:=
 mkM zbZ zdz (λhr=>(Ze (Zj (Zg Ul hr (pdv 1 (pdv 2 (pdv 3 (pv 4)))))))) λS Q ex=>by
  refine kR λ_=>kP λ_ _=>kP λ_ _=>kP λ_ _=>kI λ_=>kN λh=>?_
  exact h
noncomputable def zhA  (zfX:Dmz Z1.C q13 q132 Fd Jt)(Ul:Fkz 4 q60 RK Lw):Fmz 5 Z1.C q13 Jt zas:=
 mkM zfX Ar (λhr=>(Ze (Zj (Zg Ul hr (pdv 1 (pdv 3 (pdv 2 (pv 4)))))))) λS Q ex=>by
  refine kR λ_=>kP λ_ _=>kP λ_ _=>kP λ_ _=>kI λ_=>kN λh=>?_
  exact h
noncomputable def zgr  (zf3:Dfz q77 Fv Q2)(YZ:Fkz 1 q69 WW Uj):Fkz 2 q77 Q2 EB:=
 mkF zf3 zbv (λhr=>(Ze (Zj (Zi Xk (Zi Z4 (Zi ZQ (Zi Yb (dv 2) Zb) (dv 0)) (Zi Xk (dv 1) (Zg YZ hr (pdv 0 (Za (Zi Yb (dv 2) Zb) Zf))))) (dv 2))))) λS Q ex=>by
  refine kI λg=>kI λN=>kI λn=>kN ?_
  rintro⟨⟨n2,n6,hg,sg⟩,h⟩;have zn:Sz 800 (n-1):=Sz.of 6 ()
  have gp:(0:Int)<g^(n-1).toNat:=yD hg;exact⟨ZH zn sg,⟨(),(),sg.mono ⋯⟩,((sg.pow (n-1).toNat).mono (show _<=4001 by lia)).fd gp,(Sz.of (n:=800) 6 ():Sz 800 n).fd (),h⟩
noncomputable def zcd  (zd9:Dfz q61 Cu TY)(OY:Fkz 2 q77 Q2 EB):Fkz 3 q61 TY N3:=
 mkF zd9 SU (λhr=>(Zd (ZC (ZA (ZS hr) (dv 0) Zb (Zs _)) (Ze (Zj Zb)) ZE) (Zd (Zm (i:=2) SU.nd (Zi zfP Zb (Zi Z4 (Zi Xk (BW (dv 0)) (dv 1)) Zb))) (Zd (Zm (i:=3) SU.nd (Zg OY hr (pdv 2 (pdv 0 (pv 1))))) (Zd (FT PassesOwn.never (ZA Yz (dv 3) (dv 2) (Zs _)) (Zd (Zm (i:=2) SU.nd (dv 3)) (Ze (Zm (i:=3) SU.nd (Zg OY hr (pdv 2 (pdv 0 (pv 1)))))))) (Ze (Zj (dv 2)))))))) λS Q ex=>by
  refine kI λN=>kI λn=>kN ?_
  rintro⟨⟨n2,n6,h0,sN⟩,h⟩;refine ifD (λc=>?_) (λc=>?_)
  .exact h 0 () (Sz.of 0 ⋯)
  .refine⟨(Sz.of (n:=800) 6 ():Sz 800 n).fd (),?_⟩;have d3:=uH (show (0:Int)<=(Builtin.Int.intBits N:Int) by lia) (show 0<=n by lia)
   have d4:(Builtin.Int.intBits N:Int)/n<=(Builtin.Int.intBits N:Int):=Int.ediv_le_self _ ()
   have d5:=sN.bits;refine⟨⟨(),(),⋯⟩,?_⟩;have s0:=(CS n2 sN).mono (show 652<=800 by decide)
   have g0:(0:Int)<1*2^((Builtin.Int.intBits N:Int)/n+1).toNat:=by rw[vO];exact yD ⋯
   refine⟨⟨n2,n6,g0,s0⟩,?_⟩;refine⟨λm dl' S'=>S'=S/\∃x:Int,dl'=[sI N,sI n,sI x,sI (((n-1)*x+N/x^(n-1).toNat)/n)]/\0<x/\Sz 800 x/\m=x.toNat,⟨_,rfl,_,rfl,g0,s0,rfl⟩,?_⟩;rintro m dl' S' ⟨rfl,x,rfl,x0,sx,rfl⟩;have ge:=zht (N:=N) n2 x0 ();refine ifD (λc=>?_) (λc=>?_)
   .have s1:Sz 800 (((n-1)*x+N/x^(n-1).toNat)/n):=Sz.mid (a:=0) (Sz.of 0 ⋯) sx () ();exact⟨⟨n2,n6,ge,s1⟩,_,(),rfl,_,rfl,ge,s1,rfl⟩
   .exact h x () sx
noncomputable def zdN (WM:Dfz "root" Qq Wt)(YZ:Fkz 1 q69 WW Uj)(TB:Fkz 3 q61 TY N3)(Xs:Fkz 1 q53 VJ SG)(KG:Fkz 0 "root" Wt Mg):Fkz 4 "root" Wt Ri:=
 WM.mk' (WL (k:=3) WM.F Qg zdu λ_ _ _ _ _ _ _ hr=>⟨_,(Zd (ZC (ZA Yz (dv 0) Zb (Zs _)) (Ze (Zj (Zg Xs hr (Za (Mp KG (rmn hr) YE rfl (Za (XR XJ (dv 0)) (pv 1))) Zf)))) ZE) (Zd (Zm (i:=2) Qg.nd (Zg TB hr (pdv 0 (pv 1)))) (Zd (ZC (ZA (ZS hr) (Zg YZ hr (pdv 2 (pv 1))) (dv 0) (Zs _)) (Ze (Zj (Zz (pdv 2 (pv 2))))) ZE) (Ze (Zj (Zz (pdv 2 (Za (Zi Z4 (dv 2) Zb) Zf)))))))),λds S Q ex h=>by
  unfold Ri at h;split at h
  .rename_i N n;obtain⟨⟨n2,n6,h0,sN⟩,h⟩:=h;exact ifD (λc=>absurd c ()) (λc=>⟨⟨n2,n6,(),sN⟩,λr r0 sr=>⟨⟨(),n6,sr.mono ⋯⟩,ifD (λ_=>h r r (zQ _)) (λ_=>h r (r+1) ())⟩⟩)
  .exact h.elim⟩)
noncomputable def zfs (WM:Dfz "root" Qq Wt)(YZ:Fkz 1 q69 WW Uj)(TB:Fkz 3 q61 TY N3)(Xs:Fkz 1 q53 VJ SG)(KG:Fkz 4 "root" Wt Ri):Fkz 5 "root" Wt Sm:=
 WM.mk' (WL (k:=4) WM.F Qg Bu λ_ _ _ _ _ _ _ hr=>⟨_,(Zd (ZC (ZA Yz (dv 0) Zb (Zs _)) (Ze (Zj (Zg Xs hr (Za (Mp KG (rmn hr) YE rfl (Za (XR XJ (dv 0)) (pv 1))) Zf)))) ZE) (Zd (Zm (i:=2) Qg.nd (Zg TB hr (pdv 0 (pv 1)))) (Zd (ZC (ZA (ZS hr) (Zg YZ hr (pdv 2 (pv 1))) (dv 0) (Zs _)) (Ze (Zj (Zz (pdv 2 (pv 2))))) ZE) (Ze (Zj (Zz (pdv 2 (Za (Zi Z4 (dv 2) Zb) Zf)))))))),λds S Q ex h=>by
  unfold Sm at h;split at h
  .rename_i N n;obtain⟨⟨n2,n6,sN⟩,h⟩:=h;exact ifD (λc=>⟨⟨n2,n6,(),sN.neg⟩,λa b l=>h (-b) (-a) ()⟩) (λc=>⟨⟨n2,n6,(),sN⟩,λr r0 sr=>⟨⟨(),n6,sr.mono ⋯⟩,ifD (λ_=>h r r (zQ _)) (λ_=>h r (r+1) ())⟩⟩)
  .exact h.elim⟩)
noncomputable def zfU  (CG:Dfz q78 Em NH)(TK:Fkz 2 VC Sh Ti)(W0:Fkz 1 q41 SS K9)(Xs:Fkz 1 q53 VJ SG)(V5:Fkz 5 "root" Wt Sm)(YZ:Fkz 1 q69 WW Uj):Fkz 6 q78 NH Ib:=
 mkF CG T7 (λhr=>(Zd (Zm (i:=4) T7.nd (Zg YZ hr (pdv 3 (Za (Zi Yb (dv 2) Zb) Zf)))) (Zd (Zm (i:=5) T7.nd (Zz (Za (Zi ZQ (piv 0) (dv 4)) (Za (Zi ZQ (piv 0) (dv 4)) Zf)))) (Zd (ZC (ZA (ZS hr) (Zi Xe (dv 2) Zb) Zb (Zs _)) (Ze (Zj (Zg W0 hr (pdv 1 (Za (Zg V5 hr (Za (piv 5) (pv 2))) (Za (Zg V5 hr (Za (piv 5) (pv 2))) Zf)))))) ZE) (Zd (ZC (ZA Yz (piv 5) Zb (Zs _)) (Ze (Zj ZR)) ZE) (Zd (Zm (i:=6) T7.nd (Zg V5 hr (Za (ZK (XG rfl) rfl Y5 Boot.«max» (Za (piv 5) (Za Zb Zf))) (pv 2)))) (Zd (Zm (i:=7) T7.nd (Zg V5 hr (Za (piv 5) (pv 2)))) (Ze (Zj (Zg TK hr (Za (Zg W0 hr (pdv 1 (pdv 6 (pv 7)))) (Za (Zg W0 hr (pdv 1 (Za (Zg Xs hr (pv 7)) (Za (Zg Xs hr (pv 6)) Zf)))) Zf)))))))))))) λS Q ex=>by
  refine kP λz0 z1=>kP λx0 x1=>kI λn=>kI λg=>kN ?_
  rintro⟨⟨n2,n6,sg,sz0,sz1⟩,hn,ht⟩;refine⟨⟨(),(),sg.mono ⋯⟩,?_⟩;have sgp:Sz 181 (g^(n-1).toNat):=(sg.pow _).mono ();refine⟨ZH sz0 sgp,ZH sz1 sgp,?_⟩;have slo:Sz 1300 (z0*g^(n-1).toNat):=(sz0.mul sgp).mono ⋯
  have shi:Sz 1300 (z1*g^(n-1).toNat):=(sz1.mul sgp).mono ⋯;generalize g^(n-1).toNat=G at *
  refine ifD (λe=>?_) (λe=>?_)
  .exact⟨⟨n2,n6,slo⟩,λa b l=>⟨⟨n2,n6,shi⟩,λc d k=>⟨⟨l,k⟩,hn,ht⟩⟩⟩
  .refine ifD (λe2=>hn) (λe2=>?_);refine⟨⟨n2,n6,(by show Sz 1300 (mx0 (z0*G));unfold mx0;split;exact Sz.of 0 ⋯ (yR ⋯);exact slo)⟩,λa b l=>⟨⟨n2,n6,shi⟩,λc d k=>?_⟩⟩;refine⟨⟨l,k⟩,⟨⟨(),()⟩,hn,λp q r=>ht p q r⟩,λp q r=>⟨⟨(),()⟩,ht p q r,λp' q' r'=>?_⟩⟩;exact ht (if p'<p then p' else p) (if q' > q then q' else q) (r.hull r')
noncomputable def zf7  (Ai:Dmz ZJ.C "back" "Power.back" FN Qa)(KW:Fkz 6 q78 NH Ib):Fmz 7 ZJ.C "back" Qa NU:=
 mkM Ai Dx (λhr=>(Zd (Zm (i:=4) Dx.nd (Zg KW hr (pdv 2 (Za (ZG (dv 1) (ZL ZJ.cl ZJ.n_one (dv 0))) (Za (ZL ZJ.cl ZJ.n_many (dv 0)) (pv 3)))))) (Zd (ZC (ZA YO (dv 4) ZR (Zs _)) (Ze (Zj ZR)) ZE) (Ze (Zj (Yr (Za (Zz (Za (ZL ZJ.cl ZJ.n_one (dv 0)) (pv 4))) Zf))))))) λS Q ex=>by
  refine kR λn=>kR λw=>kP λz0 z1=>kI λg=>kN ?_
  rintro⟨i,m,vs,q,hn,hw,ok,⟨hs,⟨sz0,sz1⟩,hg⟩,h1,h2⟩;refine ZM (n:=n) kId hn rfl ?_;refine ZI (o:=.lst (vs.map frD)) hw (Yj ok.1) ?_;refine ZM (n:=n) kId hn rfl ?_;have a:=hs.at ok.1;refine⟨⟨ok.2.1,ok.2.2,Sz.of 1000000 (),sz0.mono ⋯,sz1.mono ⋯⟩,h1,λp p' l=>?_⟩;refine ZM (n:=n) kId hn rfl ?_;exact h2 [(i,p,p')] ⟨by simp,λr hr=>by cases zH.mp hr;exact⟨ok.1,l _ a.1 a.2⟩⟩
noncomputable def zcc  (zew:Dfz q81 Iv PB)(Ka:Fmz 7 ZJ.C "back" Qa NU)(MP:Fmz 6 Z1.C "back" zga Cc)(KA:Fmz 3 Z2.C "back" AF Dh)(NJ:Fmz 3 ZZ.C "back" Pc FW)(KD:Fmz 1 ZX.C "back" Qu MK)(NR:Fmz 1 ZW.C "back" Qi LK)(Ww:Fkz 3 q86 TL Om)(JD:Fkz 2 U3 Qy Cd)(Yn:Fkz 4 q23 XU Wo):Fkz 8 q81 PB GF:=
 mkF zew VN (λhr=>(Zd (Zm (i:=4) VN.nd (piv 1)) (Zd (Zm (i:=5) VN.nd (Zg Yn hr (Za (WI (dv 0) Wj (Wx (Zi Z4 (dv 4) Zb))) (pdv 2 (pv 3))))) (Zd (Zm (i:=6) VN.nd (Zg JD hr (Za (piv 1) (Za (ZG (dv 5) (dv 4)) Zf)))) (Zd (ZC (ZA YO (dv 6) ZR (Zs _)) (Ze (Zj ZR)) ZE) (Zd (SE (dv 5) (dv 4) (dv 6)) (Zd (zcx (i:=7) PassesOwn.never rfl VN.nd rfl (Or.inl rfl) rfl XO (pdv 4 (Za (XR XJ Zb) (Za (XR XJ Zb) Zf))) (Zd (Zm (i:=8) VN.nd (L8 (Zg Ww hr (Za (ZG (dv 0) (dv 7)) Zf)) (YI ZW.cl NR (rmn hr) (YI ZX.cl KD (rmn hr) (YI ZZ.cl NJ (rmn hr) (YI Z2.cl KA (rmn hr) (YI Z1.cl MP (rmn hr) (YI ZJ.cl Ka (rmn hr) N4)))))) YE (pdv 5 (Za (ZG (dv 5) (dv 7)) (pv 3))))) (Zd (ZC (ZA YO (dv 8) ZR (Zs _)) (Ze (Zj ZR)) ZE) (Ze (Sg (i:=9) PassesOwn.never rfl VN.nd rfl (Or.inl rfl) (dv 8) (Ze (SE (dv 5) (piv 9) (piv 9)))))))) (Ze (Zj (dv 5)))))))))) λS Q ex=>by
  refine kR λa=>kT λw k=>kR λb=>kI λg=>kN ?_
  rintro⟨ns,ws,bs,zero,ha,hb,hw,⟨k0,k1⟩,net,sb,hg,hl,h1,h2⟩;have disp:∀v:Nd,∃C fs sd,v.oz=.ins C fs/\(C,sd)∈[(ZW.C,LK),(ZX.C,MK),(ZZ.C,FW),(Z2.C,Dh),(Z1.C,Cc),(ZJ.C,NU)]/\fs.lookup ("back":Str)=none/\∀(n w:Nat)(z:Int×Int)(g q:Int)(S:Sto)(Q:DK)(ex:Addr->Sto->Prop)(vs:LI),S[n]?=some (v.oz)->La S w (vs.map frD)->v.ok vs.length q->(Bd 1000 vs/\(Sz 1000 z.1/\Sz 1000 z.2)/\(Gg g))->Q .non S->(∀l,Ptw vs.length l->Q (.ref S.length) (S++[.lst (l.map ptD)]))->sd [.ref n,.ref w,frD z,.int g] S Q ex:=by
   intro v;cases v with
   | number x y=>exact⟨_,_,_,rfl,(.head _),rfl,λn w z g q S Q ex vs a1 a2 a3 a4 q1 q2=>⟨x,y,vs,q,a1,a2,a3,a4,q1,q2⟩⟩
   | unknown k=>exact⟨_,_,_,rfl,(.tail _ (.head _)),rfl,λn w z g q S Q ex vs a1 a2 a3 a4 q1 q2=>⟨k,vs,q,a1,a2,a3,a4,q1,q2⟩⟩
   | plus i j=>exact⟨_,_,_,rfl,(.tail _ (.tail _ (.head _))),rfl,λn w z g q S Q ex vs a1 a2 a3 a4 q1 q2=>⟨i,j,vs,q,a1,a2,a3,a4,q1,q2⟩⟩
   | minus i j=>exact⟨_,_,_,rfl,(.tail _ (.tail _ (.tail _ (.head _)))),rfl,λn w z g q S Q ex vs a1 a2 a3 a4 q1 q2=>⟨i,j,vs,q,a1,a2,a3,a4,q1,q2⟩⟩
   | times i j=>exact⟨_,_,_,rfl,(.tail _ (.tail _ (.tail _ (.tail _ (.head _))))),rfl,λn w z g q S Q ex vs a1 a2 a3 a4 q1 q2=>⟨i,j,vs,q,a1,a2,a3,a4,q1,q2⟩⟩
   | power i m=>exact⟨_,_,_,rfl,(.tail _ (.tail _ (.tail _ (.tail _ (.tail _ (.head _)))))),rfl,λn w z g q S Q ex vs a1 a2 a3 a4 q1 q2=>⟨i,m,vs,q,a1,a2,a3,a4,q1,q2⟩⟩
  obtain⟨kn,rfl⟩:∃kn:Nat,k=(kn:Int):=⟨k.toNat,()⟩;rw[zJ] at h2;have hk:kn<ns.length:=by lia
  refine WO (n:=a) (o:=.lst (ns.map Nd.d)) (lo:=none) (hi:=some ((kn:Int)+1)) (S3:=S) kId kId kId ha ?_;have ec:Yd (ns.map Nd.d) none (some ((kn:Int)+1))=(ns.take (kn+1)).map Nd.d:=by
   rw[PV () (by rw[zD];lia),wW];rfl
  rw[show Zk (Ob.lst (ns.map Nd.d))=ns.map Nd.d from rfl,ec];refine⟨ns.take (kn+1),ws.take (kn+1),bs,Zq _ _,Zu hb,net.take _,sb,hg,by rw[zO];lia,λT m pr lm hf=>?_⟩;have prS:Pre S T:=λn o e=>pr n o (Zu e)
  have lm':S.length<=m:=by
   have z:(S++[Ob.lst ((ns.take (kn+1)).map Nd.d)]).length<=m:=lm;rw[zT] at z;lia
  have s1:Bd 1000 (Zo bs g (ns.take (kn+1))):=λp hp=>(OD net rfl sb hg (kn+1) () p hp).2
  have l1:(Zo bs g (ns.take (kn+1))).length=kn+1:=by rw[YU,zO];lia
  generalize Zo bs g (ns.take (kn+1))=fs at hf s1 l1;have ik:inR ((fs.length:Nat):Int) (kn:Int):=⟨(),()⟩
  have a1:=s1.at ik;refine ZI (o:=.lst (fs.map frD)) hf (Yj ik) ?_;refine⟨zero,hw,h1 T prS,λp p' le=>?_⟩;refine UN (n:=m) (k:=(kn:Int)) (j:=kn) (xs:=fs.map frD) (v:=frD (p,p')) kId kId kId hf (by rw[zD,Ue ik];rfl) ?_;rw[T6];refine⟨rfl,⟨(),(),(),()⟩,λt dl' S'=>t<=kn+1/\Pre S S'/\∃us:LI,La S' m (us.map frD)/\us.length=kn+1/\Bd 1000 us/\∃u7 u8 u9:Option D,dl'=[sR a,some (.tup [.str w,.int (kn:Int)]),sR b,sI g,sI (kn:Int),sR m,some (frD (p,p')),u7,u8,u9],⟨(),X8 prS lm',_,YV hf,by rw[yP];exact l1,s1.put (le _ a1.1 a1.2),_,_,_,rfl⟩,?_⟩;rintro t dl' S' ⟨ht,prt,us,hu,lu,su,u7,u8,u9,rfl⟩;refine ite2 (λtc=>?_) (λtc=>?_)
  .have tc':t<kn+1:=by
    have z:t<((kn:Int) - -1).toNat:=tc;lia
   obtain⟨j,ej⟩:∃j:Nat,kn=j+t:=⟨kn-t,()⟩;have en:(kn:Int)-(t:Int)=(j:Int):=by lia
   have hv:ns[j]?=some ns[j]:=zE ();generalize ns[j]=v at hv;have ok:v.ok us.length bs.length:=Ao () (net.ok j v hv).1
   have ij:inR ((us.length:Nat):Int) (j:Int):=⟨(),()⟩;obtain⟨C,gs,sd,eo,hm,hf2,go⟩:=disp v;have N1:=Zq S' (v.oz);rw[en];refine MW (n:=S'.length) (C:=C) (sd:=sd) (fs:=gs) (S1:=S'++[v.oz]) (λK hK=>?_) (by rw[<- eo];exact N1) hm hf2 ?_
   .refine ZI (o:=.lst (ns.map Nd.d)) (prt _ _ ha) (E7 hv) ?_;exact⟨v,rfl,by exact hK⟩
   refine ZI (o:=.lst (us.map frD)) (Zu hu) (Yj ij) ?_;refine go _ _ (gt us (j:Int)) _ bs.length _ _ _ us N1 (Zu hu) ok ⟨su,su.at ij,hg⟩ (h1 _ (Xb prt _)) (λl P=>?_);have lS:m<S'.length:=Ye hu;refine Rf (n:=(S'++[v.oz]).length) (o:=.lst (l.map ptD)) (λi dl2 S2=>Pre S S2/\S2[(S'++[v.oz]).length]?=some (.lst (l.map ptD))/\∃(vs:LI)(u9:Option D),La S2 m (vs.map frD)/\vs.length=kn+1/\Bd 1000 vs/\dl2=[sR a,some (.tup [.str w,.int (kn:Int)]),sR b,sI g,sI (kn:Int),sR m,some (frD (p,p')),sI (j:Int),some (.ref (S'++[v.oz]).length),u9]) ⟨Xb (Xb prt _) _,Zq _ _,us,_,Zu (Zu hu),lu,su,rfl⟩ (λi dl2 S2 z=>z.2.1) ?_ ?_
   .rintro i x dl2 S2 nx ct ex' ⟨pr2,hl2,vs,u9,hu2,lv,sv,rfl⟩ hn;have ex2:(l.map ptD)[i]?=some x:=ex';rw[zG] at ex2;obtain⟨p,hp,rfl⟩:=zP.mp ex2;obtain⟨q1,q2⟩:=P.2 p (zF hp);refine UN (n:=m) (k:=p.1) (j:=p.1.toNat) (xs:=vs.map frD) (v:=frD p.2) kId kId kId hu2 (by rw[zD,lv,<- lu];exact Ue q1) ?_;rw[T6];refine hn _ _ ⟨X8 pr2 lm',Yp hl2 (by rw[zT];lia),_,_,YV hu2,by rw[yP];exact lv,sv.put q2,rfl⟩
   .rintro dl2 S2 ⟨pr2,hl2,vs,u9,hu2,lv,sv,rfl⟩;exact⟨(),pr2,vs,hu2,lv,sv,_,_,_,rfl⟩
  .exact h2 us S' m lu prt lm' hu
noncomputable def zfl  (CH:Dfz Uc DI QO)(M9:Fkz 8 q81 PB GF):Fkz 9 Uc QO Ea:=
 mkF CH Ry (λhr=>(Zd (Zm (i:=4) Ry.nd (Zg M9 hr (pdv 0 (pdv 1 (pdv 2 (pv 3)))))) (Zd (ZC (ZA YO (dv 4) ZR (Zs _)) (Ze (Zj ZR)) ZE) (Zd (Zm (i:=5) Ry.nd (Pl (Z5 N9) rfl Si Boot.«list» (pv 2))) (Zd (Pn (is:=[6,7]) PassesOwn.never rfl Ry.nd (Nms.cons (i:=6) rfl (Or.inl rfl) (by first|exact .inl rfl|exact .inr rfl) (Nms.cons (i:=7) rfl (Or.inl rfl) (by first|exact .inl rfl|exact .inr rfl) Nms.nil)) rfl rfl X3 Boot.«enumerate» (pv 4) (Zd (Zm (i:=8) Ry.nd (ZG (dv 0) (dv 6))) (Ze (ZC (ZA (ZS hr) (piv 8) ZU (Zs _)) (Ze (SE (dv 5) (piv 8) (dv 7))) ZE)))) (Ze (Zj (dv 5)))))))) λS Q ex=>by
  refine kR λa=>kT λw k=>kR λb=>kI λg=>kN ?_
  rintro⟨ns,ws,bs,zero,ha,hb,hw,⟨k0,k1⟩,net,sb,hg,hl,h1,h2⟩;refine⟨ns,ws,bs,zero,ha,hb,hw,⟨k0,k1⟩,net,sb,hg,hl,h1,λus T m lu pr lm hu=>?_⟩;have lS:m<T.length:=Ye hu;refine KJ (ZO (pr _ _ hb) rfl) ?_;refine Oe (n:=m) (xs:=us.map frD) (S1:=T++[.lst (bs.map frD)]) (λi dl' S'=>Pre S S'/\La S' m (us.map frD)/\∃(vs:LI)(u6 u7 u8:Option D),La S' T.length (vs.map frD)/\vs.length=bs.length/\dl'=[sR a,some (.tup [.str w,.int k]),sR b,sI g,sR m,sR T.length,u6,u7,u8]) kId (λi dl' S' z=>z.2.1) ⟨Xb pr _,Zu hu,bs,_,_,_,Zq _ _,rfl,rfl⟩ ?_ ?_
  .rintro i x dl' S' nx ct ex' ⟨pr',hu',vs,u6,u7,u8,hl',lv,rfl⟩ hn;rw[zG] at ex';obtain⟨p,hp,rfl⟩:=zP.mp ex';have hi':=(zB.mp hp).1
   have hv:ns[i]?=some ns[i]:=zE ();generalize ns[i]=v at hv;have okv:=(net.ok i v hv).1;refine ZI (o:=.lst (ns.map Nd.d)) (pr' _ _ ha) (E7 hv) ?_;have no:=hn _ _ ⟨pr',hu',vs,sI (i:Int),some (frD p),some v.d,hl',lv,rfl⟩;cases v with
   | unknown u=>
    have oku:inR ((vs.length:Nat):Int) u:=by rw[lv];exact okv
    refine UN (n:=T.length) (k:=u) (j:=u.toNat) (xs:=vs.map frD) (v:=frD p) kId kId kId hl' (by rw[zD];exact Ue oku) ?_;rw[T6];exact hn _ _ ⟨X8 pr' (Y0 pr),Yp hu' (),_,_,_,_,YV hl',by rw[yP];exact lv,rfl⟩
   | number _ _=>exact no
   | plus _ _=>exact no
   | minus _ _=>exact no
   | times _ _=>exact no
   | power _ _=>exact no
  .rintro dl' S' ⟨pr',hu',vs,u6,u7,u8,hl',lv,rfl⟩;exact h2 vs S' T.length lv pr' (Y0 pr) hl'
noncomputable def zgZ  (zfi:Dfz q72 Dc SM):Fkz 1 q72 SM MO:=
 mkF zfi zaU (λhr=>(Ze (Zj (Zi QC (Zi QC (WI (dv 0) Wj (Wx (dv 1))) (Yr (pv 2))) (WI (dv 0) (Wx (Zi Z4 (dv 1) Zb)) Wj))))) λS Q ex=>by
  refine kR λb=>kI λk=>kD λd=>kN ?_
  rintro⟨bs,p,hb,⟨k0,k1⟩,l4,rfl,h⟩;obtain⟨kn,rfl⟩:∃kn:Nat,k=(kn:Int):=⟨k.toNat,()⟩;rw[zJ] at h;have c1:=Dq (α:=Nat) (xs:=bs.map frD) (lo:=none) (hi:=some (kn:Int))
  have c2:=Dq (α:=Nat) (xs:=bs.map frD) (lo:=some ((kn:Int)+1)) (hi:=none);rw[zD] at c1 c2;refine WO (n:=b) (o:=.lst (bs.map frD)) (lo:=none) (hi:=some (kn:Int)) (S3:=S) kId kId kId hb ?_;rw[show Zk (Ob.lst (bs.map frD))=bs.map frD from rfl];refine QD (n:=S.length) (m:=(S++[Ob.lst (Yd (bs.map frD) none (some (kn:Int)))]).length) (xs:=Yd (bs.map frD) none (some (kn:Int))) (ys:=[frD p]) (Zu (Zq _ _)) (Zq _ _) (by show (Yd (bs.map frD) none (some (kn:Int))).length+1<=1000;lia) ?_;refine WO (n:=b) (o:=.lst (bs.map frD)) (lo:=some ((kn:Int)+1)) (hi:=none) (S3:=S++[Ob.lst (Yd (bs.map frD) none (some (kn:Int)))]++[Ob.lst [frD p]]++[Ob.lst (Yd (bs.map frD) none (some (kn:Int))++[frD p])]) kId kId kId (Zu (Zu (Zu hb))) ?_;rw[show Zk (Ob.lst (bs.map frD))=bs.map frD from rfl];refine QD (xs:=Yd (bs.map frD) none (some (kn:Int))++[frD p]) (ys:=Yd (bs.map frD) (some ((kn:Int)+1)) none) (Zu (Zq _ _)) (Zq _ _) (by rw[zT];show (Yd (bs.map frD) none (some (kn:Int))).length+1+_<=1000;lia) ?_;rw[zbt (α:=Nat) ()];refine h _ _ ?_ ?_ (Zq _ _)
  .exact λn o e=>Zu (Zu (Zu (Zu (Zu e))))
  .simp only[zT];lia
noncomputable def zbI  (zcm:Dfz V6 GZ Nv):Fkz 1 V6 Nv Gx:=
 mkF zcm zdU (λhr=>(Ze (Zj (XE (ZA (ZS hr) (piv 1) Zb (Zs _)) (Zz (Za (piv 0) (Za (piv 1) Zf))) (Zz (Za (piv 1) (Za (piv 0) Zf))))))) λS Q ex=>by
  refine kP λa b=>kD λd=>kN ?_
  rintro⟨⟨k,p,s⟩,rfl,h⟩;cases s<;>exact h
noncomputable def zh5  (zhP:Dfz U9 HE Nr)(V8:Fkz 5 q73 SK NV)(VD:Fkz 1 q72 SM MO)(MR:Fkz 1 V6 Nv Gx):Fkz 6 U9 Nr DQ:=
 mkF zhP L0 (λhr=>(Zd (Zm (i:=5) L0.nd (piv 4)) (Zd (Zm (i:=6) L0.nd (ZG (dv 2) (dv 5))) (Zd (ZC (UM (G6 Yz Yz (piv 6) (piv 4) (piv 6))) (Ze (Zj KY)) ZE) (Ze (Zj (Zg V8 hr (pdv 0 (pdv 1 (Za (Zg VD hr (pdv 2 (pdv 5 (Za (Zg MR hr (pdv 6 (pv 4))) Zf)))) (pv 3))))))))))) λS Q ex=>by
  refine kR λa=>kT λw k=>kR λb=>kI λg=>kD λd=>kN ?_
  rintro⟨ns,ws,bs,zero,c,ha,hb,hw,hk,net,sb,hg,hl,rfl,hc,l4,h⟩;have ik:inR ((bs.length:Nat):Int) (c.k:Int):=⟨(),()⟩
  have sz:=sb.at ik;refine ZI (o:=.lst (bs.map frD)) hb (Yj ik) ?_;have no:¬ ((gt bs (c.k:Int)).1<c.p/\c.p<(gt bs (c.k:Int)).2)->Q (.bl false) S:=λn=>by
   have z:=h S Pre.refl
   have e:isS ns zero k.toNat g bs c=false:=by
    unfold isS;rw[show (decide ((gt bs (c.k:Int)).1<c.p)&&decide (c.p<(gt bs (c.k:Int)).2))=false by
     rw[<- Bool.not_eq_true,xN,decide_eq_true_eq,decide_eq_true_eq];exact n]
    rfl
   rw[e] at z;exact z
  refine ifD (λc1=>?_) (λc1=>no λz=>c1 z.1);refine ifN (λc2=>no λz=>c2 z.2) (λc2=>?_);have q:=Ik (c:=c) c1 c2 sz.2.1 sz.2.2;refine⟨c,rfl,?_⟩;refine⟨bs,c.off (gt bs (c.k:Int)),hb,ik,l4,rfl,λT m pr lm hT=>?_⟩;rw[zJ] at hT;have ln:(bs.set c.k (c.off (gt bs (c.k:Int)))).length=bs.length:=yP ..;refine⟨ns,ws,_,zero,pr _ _ ha,hT,hw,hk,by rw[ln];exact net,sb.set2 q.2,hg,hl,λT2 pr2=>?_⟩;have z:=h T2 (pr.trans pr2)
  have e:isS ns zero k.toNat g bs c=ibS ns zero k.toNat (bs.set c.k (c.off (gt bs (c.k:Int)))) g:=by
   unfold isS;rw[decide_eq_true c1,decide_eq_true c2];rfl
  rw[e] at z;exact z
noncomputable def zdA  (zhv:Dfz TV HI Q6):Fkz 1 TV Q6 Fj:=
 mkF zhv zaj (λhr=>(Ze (Zj (XE (ZA (ZS hr) (piv 1) Zb (Zs _)) (Zz (Za (piv 1) (Za (piv 0) Zf))) (Zz (Za (piv 0) (Za (piv 1) Zf))))))) λS Q ex=>by
  refine kP λa b=>kD λd=>kN ?_
  rintro⟨⟨k,p,s⟩,rfl,h⟩;cases s<;>exact h
noncomputable def zgu  (BO:Dfz "shaves" HC OT)(Jj:Fkz 6 U9 Nr DQ)(Kv:Fkz 1 TV Q6 Fj)(MX:Fkz 9 Uc QO Ea)(V8:Fkz 5 q73 SK NV):Fkz 10 "shaves" OT HU:=
 mkF BO UI (λhr=>(Zd (ZC (Y7 (Zg V8 hr (pdv 0 (pdv 1 (pdv 2 (pv 3)))))) (Ze (Zj (Zz (Za (Yr Zf) (Za ZR Zf))))) ZE) (Zd (Zm (i:=4) UI.nd (Pl (Z5 N9) rfl Si Boot.«list» (pv 2))) (Zd (Zm (i:=5) UI.nd (Zg MX hr (pdv 0 (pdv 1 (pdv 2 (pv 3)))))) (Zd (ZC (ZA YO (dv 5) ZR (Zs _)) (Ze (Zj (Zz (Za (Yr Zf) (pv 4))))) ZE) (Zd (Zm (i:=6) UI.nd (Yr Zf)) (Zd (Pn (is:=[7,8]) PassesOwn.never rfl UI.nd (Nms.cons (i:=7) rfl (Or.inl rfl) (by first|exact .inl rfl|exact .inr rfl) (Nms.cons (i:=8) rfl (Or.inl rfl) (by first|exact .inl rfl|exact .inr rfl) Nms.nil)) rfl rfl X3 Boot.«enumerate» (pv 5) (Ze (ze2 (i:=9) PassesOwn.never rfl UI.nd rfl (Or.inl rfl) (Zz (Za (Zz (pdv 7 (Za (Zi Yb (piv 8) Zb) (Za Zb Zf)))) (Za (Zz (pdv 7 (Za (Zi Z4 (piv 8) Zb) (Za Zb Zf)))) Zf))) (Ze (ZC (Y7 (Zg Jj hr (pdv 0 (pdv 1 (pdv 4 (pdv 3 (pv 9))))))) (Zd (Y1 (Wv (dv 6) (dv 9))) (Ze (SE (dv 4) (dv 7) (Zg Kv hr (Za (ZG (dv 4) (dv 7)) (pv 9)))))) ZE))))) (Ze (Zj (Zz (pdv 6 (pv 4)))))))))))) λS Q ex=>by
  refine kR λa=>kT λw k=>kR λb=>kI λg=>kN ?_
  rintro⟨ns,ws,bs,zero,ha,hb,hw,hk,net,sb,hg,hl,l4,h⟩;obtain⟨kn,rfl⟩:∃kn:Nat,k=(kn:Int):=⟨k.toNat,by have:=hk.1;lia⟩;rw[zJ] at h;refine⟨ns,ws,bs,zero,ha,hb,hw,hk,net,sb,hg,hl,λT pr=>?_⟩;rw[zJ];have lST:=Y0 pr;cases hi:ibS ns zero kn bs g with
  | true=>exact h _ T.length .non [] none (HG λ_=>hi) (Xb pr _) lST (Zq _ _) (.inl ⟨rfl,rfl⟩)
  | false=>
   refine KJ (ZO (pr _ _ hb) rfl) ?_;refine⟨ns,ws,bs,zero,Zu (pr _ _ ha),Zu (pr _ _ hb),hw,hk,net,sb,hg,hl,λT2 pr2=>?_,λr T2 m2 lr pr2 lm2 hr2=>?_⟩
   all_goals
    have hml:T2[T.length]?=some (.lst (bs.map frD)):=pr2 _ _ (Zq _ _)
    have lT2:=Ye hml
    have prS2:Pre S T2:=λn o e=>pr2 _ _ (Zu (pr _ _ e))
   .exact h _ T2.length (.ref T.length) [] (some bs) (HG λz=>nomatch z) (Xb prS2 _) () (Zq _ _) (.inr ⟨bs,T.length,rfl,rfl,Zu hml,lST⟩)
   .rw[zT] at lm2;have lm2':T.length<m2:=lm2
    have l22:m2<T2.length:=Ye hr2;refine Oe (n:=m2) (xs:=r.map frD) (S1:=T2++[.lst []]) (λi dl' S'=>i<=r.length/\Pre S S'/\La S' m2 (r.map frD)/\∃q:List Ct×LI,RC ns zero kn g bs (2*i) q/\La S' T2.length (q.1.map Ct.d)/\La S' T.length (q.2.map frD)/\∃u7 u8 u9:Option D,dl'=[sR a,some (.tup [.str w,.int (kn:Int)]),sR b,sI g,sR T.length,sR m2,sR T2.length,u7,u8,u9]) kId (λi dl' S' z=>z.2.2.1) ⟨zZ _,Xb prS2 _,Zu hr2,([],bs),⟨rfl,rfl,sb,λi c hc=>by simp at hc,λc hc=>(by simp at hc),λi j c d _ hc=>by simp at hc,zA _⟩,Zq _ _,Zu hml,_,_,_,rfl⟩ ?_ ?_
    .rintro i x dl' S' nx ct ex' ⟨hi',pr',hu',q,C,hc',hl',u7,u8,u9,rfl⟩ hn;rw[zG] at ex';obtain⟨p,hp,rfl⟩:=zP.mp ex';have hii:=(zB.mp hp).1;refine⟨λj dl2 S2=>j<=2/\Pre S S2/\La S2 m2 (r.map frD)/\∃q:List Ct×LI,RC ns zero kn g bs (2*i+j) q/\La S2 T2.length (q.1.map Ct.d)/\La S2 T.length (q.2.map frD)/\∃u9:Option D,dl2=[sR a,some (.tup [.str w,.int (kn:Int)]),sR b,sI g,sR T.length,sR m2,sR T2.length,sI (i:Int),some (frD p),u9],⟨⋯,pr',hu',q,C,hc',hl',_,rfl⟩,?_⟩;rintro j dl2 S2 ⟨hj,pr4,hu4,q,C,hc4,hl4,u9,rfl⟩;rcases j with _|_|j
     .skip
      refine⟨ns,ws,q.2,zero,(⟨i,p.1-1,false⟩:Ct),pr4 _ _ ha,hl4,hw,hk,by rw[C.len];exact net,C.spn,hg,hl,rfl,by rw[C.len];show i<_;lia,by rw[C.len];exact l4,λT5 pr5=>?_⟩;rw[zJ];have iI:inR ((q.2.length:Nat):Int) (i:Int):=⟨(),by rw[C.len];lia⟩
      have pr6:Pre S T5:=λn o e=>pr5 _ _ (pr4 _ _ e)
      have C1:=C.step (c:=(⟨i,p.1-1,false⟩:Ct)) (by show i<_;lia) (by show 2*i+0=_;lia);unfold Pq at C1;cases hs:isS ns zero kn g q.2 (⟨i,p.1-1,false⟩:Ct) with
      | false=>
       rw[hs,if_neg zN] at C1;exact⟨(),pr6,pr5 _ _ hu4,q,C1,pr5 _ _ hc4,pr5 _ _ hl4,_,rfl⟩
      | true=>
       rw[hs,if_pos rfl] at C1;refine W4 (n:=T2.length) (S1:=T5) (xs:=q.1.map Ct.d) (y:=Ct.d (⟨i,p.1-1,false⟩:Ct)) kId (pr5 _ _ hc4) kId (by rw[zD];have:=C.few;lia) ?_;have z4:=Yp (u:=.lst (q.1.map Ct.d++[Ct.d (⟨i,p.1-1,false⟩:Ct)])) (pr5 _ _ hl4) (show T2.length≠T.length by lia);refine UN (n:=T.length) (k:=(i:Int)) (j:=i) (xs:=q.2.map frD) (v:=frD (Ct.back (⟨i,p.1-1,false⟩:Ct) (gt q.2 (i:Int)))) (λK hK=>ZI (o:=.lst (q.2.map frD)) z4 (Yj iI) ⟨(⟨i,p.1-1,false⟩:Ct),rfl,hK⟩) kId kId z4 (by rw[zD,Ue iI];rfl) ?_;rw[T6];exact⟨(),X8 (X8 pr6 ()) (),Yp (Yp (pr5 _ _ hu4) ()) (),_,C1,by rw[xI];exact Yp (YV (pr5 _ _ hc4)) (),YV z4,_,rfl⟩
     .skip
      refine⟨ns,ws,q.2,zero,(⟨i,p.2+1,true⟩:Ct),pr4 _ _ ha,hl4,hw,hk,by rw[C.len];exact net,C.spn,hg,hl,rfl,by rw[C.len];show i<_;lia,by rw[C.len];exact l4,λT5 pr5=>?_⟩;rw[zJ];have iI:inR ((q.2.length:Nat):Int) (i:Int):=⟨(),by rw[C.len];lia⟩
      have pr6:Pre S T5:=λn o e=>pr5 _ _ (pr4 _ _ e)
      have C1:=C.step (c:=(⟨i,p.2+1,true⟩:Ct)) (by show i<_;lia) (by show 2*i+1=_;lia);unfold Pq at C1;cases hs:isS ns zero kn g q.2 (⟨i,p.2+1,true⟩:Ct) with
      | false=>
       rw[hs,if_neg zN] at C1;exact⟨(),pr6,pr5 _ _ hu4,q,C1,pr5 _ _ hc4,pr5 _ _ hl4,_,rfl⟩
      | true=>
       rw[hs,if_pos rfl] at C1;refine W4 (n:=T2.length) (S1:=T5) (xs:=q.1.map Ct.d) (y:=Ct.d (⟨i,p.2+1,true⟩:Ct)) kId (pr5 _ _ hc4) kId (by rw[zD];have:=C.few;lia) ?_;have z4:=Yp (u:=.lst (q.1.map Ct.d++[Ct.d (⟨i,p.2+1,true⟩:Ct)])) (pr5 _ _ hl4) (show T2.length≠T.length by lia);refine UN (n:=T.length) (k:=(i:Int)) (j:=i) (xs:=q.2.map frD) (v:=frD (Ct.back (⟨i,p.2+1,true⟩:Ct) (gt q.2 (i:Int)))) (λK hK=>ZI (o:=.lst (q.2.map frD)) z4 (Yj iI) ⟨(⟨i,p.2+1,true⟩:Ct),rfl,hK⟩) kId kId z4 (by rw[zD,Ue iI];rfl) ?_;rw[T6];exact⟨(),X8 (X8 pr6 ()) (),Yp (Yp (pr5 _ _ hu4) ()) (),_,C1,by rw[xI];exact Yp (YV (pr5 _ _ hc4)) (),YV z4,_,rfl⟩
     .have ej:j=0:=by lia
      subst ej;exact hn _ _ ⟨(),pr4,hu4,q,by rw[show 2*(i+1)=2*i+2 by lia];exact C,hc4,hl4,_,_,_,rfl⟩
    .rintro dl' S' ⟨hi',pr',hu',q,C,hc',hl',u7,u8,u9,rfl⟩;rw[zD] at C;exact h S' T2.length (.ref T.length) q.1 (some q.2) ⟨λz=>(nomatch z),by rw[<- lr];exact C.few,C.is⟩ pr' () hc' (.inr ⟨_,T.length,rfl,rfl,hl',()⟩)
noncomputable def Bc  (zbG:Dmz Zn.C W8 "Book.settle" FZ Ts):Fmz 1 Zn.C W8 Ts RX:=
 mkM zbG zhz (λhr=>(Ze (SE (ZL Zn.cl Zn.n_fates (dv 0)) (dv 1) (dv 2)))) λS Q ex=>by
  refine kR λn=>kI λi=>kD λd=>kN ?_
  rintro⟨a,b,j,es,fs,f,B,rfl,lj,o,h⟩;obtain⟨ds,k1,k2,_⟩:=B.ft;obtain⟨B2,cg⟩:=B.fate (i:=j) o k1;refine UN (n:=b) (k:=(j:Int)) (j:=j) (xs:=ds) (v:=d) kId (λK hK=>by exact ZM (n:=n) kId B.ins rfl hK) kId k1 (Ue (i:=(j:Int)) ⟨(),()⟩) ?_;exact h _ B2 cg
noncomputable def zed  (zfg:Dmz Zn.C q94 "Book.put_entry" Ca OX):Fmz 1 Zn.C q94 OX D8:=
 mkM zfg zeP (λhr=>(Zd (Y1 (Wv (ZL Zn.cl Zn.n_boxes (dv 0)) (dv 1))) (Zd (Y1 (Wv (ZL Zn.cl Zn.n_fates (dv 0)) ZR)) (Ze (Zj (Zi Yb (ZK (Z5 Y3) rfl YJ Boot.«len» (Za (ZL Zn.cl Zn.n_boxes (dv 0)) Zf)) Zb)))))) λS Q ex=>by
  refine kR λn=>kR λm=>kN ?_
  rintro⟨a,b,es,fs,e,B,o,l9,h⟩;obtain⟨bs,h1,h2,_⟩:=B.bx;obtain⟨ds,k1,k2,_⟩:=B.ft;have ll:=B.len;obtain⟨B2,cg⟩:=B.put o h1 k1;refine W4 (n:=a) (S1:=S) (xs:=bs) (y:=.ref m) (λK hK=>by exact ZM (n:=n) kId B.ins rfl hK) h1 kId () ?_;have n1:=Yp (u:=.lst (bs++[.ref m])) B.ins (Ne.symm B.na.1)
  have w1:=Yp (u:=.lst (bs++[.ref m])) k1 B.ne;refine W4 (n:=b) (S1:=S.set a (.lst (bs++[.ref m]))) (xs:=ds) (y:=.non) (λK hK=>by exact ZM (n:=n) kId n1 rfl hK) w1 kId () ?_;refine ZM (n:=n) kId B2.ins rfl ?_;refine Xq (Yp (YV h1) (Ne.symm B.ne)) ?_;have e1:(((bs++[D.ref m]).length:Nat):Int)-1=(es.length:Int):=by rw[zT,h2];show ((es.length+1:Nat):Int)-1=_;lia
  have z:=h _ B2 cg;rw[<- e1] at z;exact z
noncomputable def zac  (zat:Dmz Zn.C "part" "Book.part" E3 RD)(YH:Fmz 1 Zn.C W8 Ts RX)(Vc:Fmz 1 Zn.C q94 OX D8)(VD:Fkz 1 q72 SM MO):Fmz 2 Zn.C "part" RD KO:=
 mkM zat S6 (λhr=>(Zd (Zm (i:=4) S6.nd (ZG (ZL Zn.cl Zn.n_boxes (dv 0)) (dv 1))) (Zd (Zm (i:=5) S6.nd (ZG (dv 4) (dv 2))) (Zd (Zm (i:=6) S6.nd (XI (C:=Zn.C) (dv 0) Zn.cl Vc.m Vc.ok (rmn hr) Vc.b YE (Za (Zg VD hr (pdv 4 (pdv 2 (Za (Zz (Za (piv 5) (pv 3))) Zf)))) Zf))) (Zd (Zm (i:=7) S6.nd (XI (C:=Zn.C) (dv 0) Zn.cl Vc.m Vc.ok (rmn hr) Vc.b YE (Za (Zg VD hr (pdv 4 (pdv 2 (Za (Zz (pdv 3 (Za (piv 5) Zf))) Zf)))) Zf))) (Zd (Y1 (XI (C:=Zn.C) (dv 0) Zn.cl YH.m YH.ok (rmn hr) YH.b YE (pdv 1 (Za (Zz (Za ZU (pdv 2 (pdv 3 (pdv 6 (pv 7)))))) Zf)))) (Ze (Zj (Zz (pdv 6 (pv 7))))))))))) λS Q ex=>by
  refine kR λn=>kI λi=>kI λkk=>kI λp=>kN ?_
  rintro⟨a,b,j,k,es,fs,e,s,B,rfl,rfl,he,hs,l4,l9,h⟩;obtain⟨bs,m,h1,h2,o⟩:=B.box he;have lj:=(zB.mp he).1
  have lk:=(zB.mp hs).1
  have lf:=B.len;refine ZM (n:=n) kId B.ins rfl ?_;refine ZI (o:=.lst bs) h1 (Yx (j:=j) h2) ?_;have es':atI (e.map frD) (k:Int)=some (frD s):=Yx (j:=k) (by rw[zG,hs];rfl);refine ZI (o:=.lst (e.map frD)) o.2.2 es' ?_;refine Xi (n:=n) kId B.ins rfl ?_;refine⟨e,(s.1,p),o.2.2,⟨(),()⟩,l4,rfl,λT1 m1 p1 l1 h1'=>?_⟩;rw[zJ] at h1';have na:a<S.length:=Ye h1;obtain⟨ds,k1,_⟩:=B.ft;have nb:b<S.length:=Ye k1;refine⟨a,b,es,fs,_,B.pre p1,⟨(),(),h1'⟩,(),λT2 B2 cg2=>?_⟩;refine Xi (n:=n) kId B2.ins rfl ?_;have o2:=(o.cg (.pre p1)).cg cg2;refine⟨e,(p,s.2),o2.2.2,⟨(),()⟩,l4,rfl,λT3 m3 p3 l3 h3'=>?_⟩;rw[zJ] at h3';have:=Y0 p1
  have:=cg2.1;refine⟨a,b,_,_,_,B2.pre p3,⟨(),(),h3'⟩,by rw[zT];show es.length+1<990;lia,λT4 B4 cg4=>?_⟩;have e5:(((es++[e.set k (s.1,p)]).length:Nat):Int)=(es.length:Int)+1:=by rw[zT];show ((es.length+1:Nat):Int)=_;lia
  rw[e5];refine Xi (n:=n) kId B4.ins rfl ?_;refine⟨a,b,j,_,_,.cut k p es.length (es.length+1),B4,rfl,by simp;lia,rfl,λT5 B5 cg5=>?_⟩;exact h T5 B5 ((((Cg.pre p1).trans cg2).trans (.pre p3)).trans (cg4.trans cg5))
noncomputable def zhE  (Bt:Dfz VP Hz S8)(Yn:Fkz 4 q23 XU Wo):Fkz 5 VP S8 LD:=
 mkF Bt Du (λhr=>(Zd (Zm (i:=5) Du.nd (Tb (ZG (dv 1) (dv 2)) Zb)) (Ze (Zj (Zz (Za ZU (pdv 2 (Za (Zg Yn hr (Za (WI (dv 0) Wj (Wx (Zi Z4 (dv 5) Zb))) (pdv 3 (pv 4)))) Zf)))))))) λS Q ex=>by
  refine kR λnd=>kR λrw=>kI λr=>kR λbx=>kI λg=>kN ?_
  rintro⟨k,u,ns,ws,rows,e,row,R,hb,lu,se,rfl,hr,h⟩;have hi:row.2<ns.length:=R.ri row (zF hr);refine ZI (o:=.lst (rows.map rwD)) R.rw (Yx (j:=k) (v:=rwD row) (by show (rows.map rwD)[k]?=_;rw[zG,hr];rfl)) ?_;refine WO (n:=nd) (o:=.lst (ns.map Nd.d)) (lo:=none) (hi:=some ((row.2:Int)+1)) (S3:=S) kId kId kId R.nd ?_;have ec:Yd (ns.map Nd.d) none (some ((row.2:Int)+1))=(ns.take (row.2+1)).map Nd.d:=by
   rw[PV () (by rw[zD];lia),wW];rfl
  rw[show Zk (Ob.lst (ns.map Nd.d))=ns.map Nd.d from rfl,ec];refine⟨ns.take (row.2+1),ws.take (row.2+1),e,Zq _ _,Zu hb,by rw[lu];exact R.net.take _,se,R.hg,by rw[zO];have:=R.l70;lia,λT m pr lm hf=>?_⟩;exact h T m (λx o z=>pr _ _ (Zu z)) (by rw[zT] at lm;lia) hf
noncomputable def zgd  (zhq:Dfz "shave" Cr QK)(YH:Fmz 1 Zn.C W8 Ts RX)(Vs:Fkz 5 VP S8 LD)(Wd:Fmz 2 Zn.C "part" RD KO)(Lp:Fkz 10 "shaves" OT HU):Fkz 11 "shave" QK Dv:=
 mkF zhq VO (λhr=>(Zd (Pn (is:=[5,6]) PassesOwn.never rfl VO.nd (Nms.cons (i:=5) rfl (Or.inl rfl) (by first|exact .inl rfl|exact .inr rfl) (Nms.cons (i:=6) rfl (Or.inl rfl) (by first|exact .inl rfl|exact .inr rfl) Nms.nil)) rfl rfl X3 Boot.«enumerate» (pv 2) (Zd (Zm (i:=7) VO.nd (Zg Lp hr (pdv 1 (pdv 6 (Za (ZG (ZL Zn.cl Zn.n_boxes (dv 0)) (dv 4)) (pv 3)))))) (Zd (ZC (ZA YO (piv 7) ZR (Zs _)) (Zd (Y1 (XI (C:=Zn.C) (dv 0) Zn.cl YH.m YH.ok (rmn hr) YH.b YE (pdv 4 (Za (Zg Vs hr (pdv 1 (pdv 2 (pdv 5 (Za (ZG (ZL Zn.cl Zn.n_boxes (dv 0)) (dv 4)) (pv 3)))))) Zf)))) (Ze (Zj (dv 4)))) ZE) (Ze (Sg (i:=8) PassesOwn.never rfl VO.nd rfl (Or.inl rfl) (piv 7) (Zd (Zm (i:=9) VO.nd (XI (C:=Zn.C) (dv 0) Zn.cl Wd.m Wd.ok (rmn hr) Wd.b YE (pdv 4 (Za (piv 8) (Za (piv 8) Zf))))) (Zd (Zm (i:=10) VO.nd (ZG (dv 9) (piv 8))) (Zd (Y1 (XI (C:=Zn.C) (dv 0) Zn.cl YH.m YH.ok (rmn hr) YH.b YE (pdv 10 (Za (Zg Vs hr (pdv 1 (pdv 2 (pdv 5 (Za (ZG (ZL Zn.cl Zn.n_boxes (dv 0)) (dv 10)) (pv 3)))))) Zf)))) (Ze (Zm (i:=4) VO.nd (ZG (dv 9) (Zi Yb Zb (piv 8))))))))))))) (Ze (Zj (dv 4))))) λS Q ex=>by
  refine kR λn=>kR λnd=>kR λrw=>kI λg=>kI λi=>kN ?_
  rintro⟨a,b,j,u,ns,ws,rows,b0,e,es,fs,fine,B,R,A,K,sb,lb,rfl,hw,he,l9,h⟩;have r4:=R.rl
  have u4:=R.u1;refine Oe (n:=rw) (xs:=rows.map rwD) (S1:=S) (λk dl' S'=>k<=rows.length/\∃(es':List LI)(fs':List Ft)(j':Nat)(e':LI),Bk Zn.C S' n a b es' fs'/\Bks g fine ns rows b0 es' fs'/\Cg a b S S'/\es'.length<=es.length+16*k/\Shd es j es' j'/\fs'[j']?=some .wait/\es'[j']?=some e'/\∃x5 x6 x7 x8 x9 x10:Option D,dl'=[sR n,sR nd,sR rw,sI g,sI (j':Int),x5,x6,x7,x8,x9,x10]) kId (λk dl' S' z=>?_) ?_ ?_ ?_
  .obtain⟨_,es',fs',j',e',B',K',cg,_⟩:=z;exact(R.cg A cg).rw
  .exact⟨zZ _,es,fs,j,e,B,K,.refl,(),⟨zA _,λ_=>⟨rfl,rfl⟩⟩,hw,he,_,_,_,_,_,_,rfl⟩
  .rintro k x dl' S' nx ct hx ⟨hk,es',fs',j',e',B',K',cg,l',sh,hw',he',x5,x6,x7,x8,x9,x10,rfl⟩ hn;rw[zG] at hx;obtain⟨row,hr,rfl⟩:=zP.mp hx;have hk':=(zB.mp hr).1
   have R':=R.cg A cg
   have hi:row.2<ns.length:=R.ri row (zF hr);obtain⟨ll',oks⟩:=K'.ok sb;obtain⟨le',se'⟩:=oks e' (zF he');have net':ZD ((e'.length:Nat):Int) ns ws:=by rw[le',lb];exact R.net
   obtain⟨bs,m,h1,h2,o⟩:=B'.box he';have lj':=(zB.mp he').1
   have la:a<S'.length:=Ye h1
   have lb':b<S'.length:=by
    obtain⟨_,z,_⟩:=B'.ft;exact Ye z
   refine ZM (n:=n) kId B'.ins rfl ?_;refine ZI (o:=.lst bs) h1 (Yx (j:=j') h2) ?_;refine⟨ns,ws,e',row.1,R'.nd,o.2.2,rww row.1,⟨(),()⟩,net',se',R.hg,R.l70,(),λT mc fd cs o' sok p1 lmc hmc hfd=>?_⟩;rw[zJ] at sok;obtain⟨i1,i2,i3⟩:=sok;have B1:=B'.pre p1
   have R1:=R'.pre p1
   have o1:=o.cg (.pre p1)
   have h11:=p1 _ _ h1;rcases hfd with ⟨rfl,hN⟩|⟨left,mf,rfl,hS,hmf,lmf⟩
   .refine Xi (n:=n) kId B1.ins rfl ?_;refine ZM (n:=n) kId B1.ins rfl ?_;refine ZI (o:=.lst bs) h11 (Yx (j:=j') h2) ?_;refine⟨k,u,ns,ws,rows,e',row,R1,o1.2.2,(),se',rfl,hr,λT2 m2 p2 l2 h2'=>?_⟩;have:=Y0 p1;refine⟨a,b,j',es',fs',.out k (Zo e' g (ns.take (row.2+1))),B1.pre p2,rfl,(),⟨m2,rfl,(),(),h2'⟩,λT3 B3 cg3=>?_⟩;exact h T3 es' _ j' B3 (K'.put hw' he' ⟨row,hr,rfl,i1 hN⟩) (cg.trans ((Cg.pre p1).trans ((Cg.pre p2).trans cg3))) () sh lj'
   .refine Rf (n:=mc) (o:=.lst (cs.map Ct.d)) (λq dl2 S2=>∃(es2:List LI)(fs2:List Ft)(j2:Nat),Bk Zn.C S2 n a b es2 fs2/\Bks g fine ns rows b0 es2 fs2/\Cg a b T S2/\es2.length=es'.length+2*q/\(q=0->es2=es'/\j2=j')/\fs2[j2]?=some .wait/\es2[j2]?=some (ctA e' (cs.take q))/\q<=cs.length/\∃x8 x9 x10:Option D,dl2=[sR n,sR nd,sR rw,sI g,sI (j2:Int),sI (k:Int),some (rwD row),some (.tup [.ref mc,.ref mf]),x8,x9,x10]) ?_ (λq dl2 S2 z=>?_) ?_ ?_
    .exact⟨es',fs',j',B1,K',.refl,(),λ_=>⟨rfl,rfl⟩,hw',he',zZ _,_,_,_,rfl⟩
    .obtain⟨es2,fs2,j2,_,_,cg2,_⟩:=z;exact cg2.2 _ _ () () hmc
    .rintro q x dl2 S2 nx2 ct2 hx2 ⟨es2,fs2,j2,B2,K2,cg2,l2,s2,hw2,he2,q2,x8,x9,x10,rfl⟩ hn2;have hx3:(cs.map Ct.d)[q]?=some x:=hx2;rw[zG] at hx3;obtain⟨c,hc,hcx⟩:=zP.mp hx3;obtain⟨s',hs',hx4⟩:∃s':Int,(c.s=true/\s'=1\/c.s=false/\s'=0)/\x=.tup [.int (c.k:Int),.int c.p,.int s']:=⟨if c.s then 1 else 0,by cases c.s<;>simp,hcx.symm⟩;subst hx4;have lq:=(zB.mp hc).1;obtain⟨isc,lc⟩:=i3 q c hc;have lA:=zgv e' (cs.take q)
     have oks2:=(K2.ok sb).1;obtain⟨y1,y2,y3,y4,y5,y6⟩:=K2.shave oks2 hw2 he2 (by rw[lA];exact lc) isc hr;refine Xi (n:=n) kId B2.ins rfl ?_;refine⟨a,b,j2,c.k,es2,fs2,_,_,B2,rfl,rfl,he2,y1,by rw[lA];lia,(),λT3 B3 cg3=>?_⟩;have R3:=R1.cg A (cg2.trans cg3);generalize hth:es2.length+(if c.s then 1 else 0)=th at y2 y3 y4 y5 y6;generalize hnj:es2.length+(if c.s then 0 else 1)=nj at y5 y6;have et:(s'=0/\(th:Int)=es2.length\/s'=1/\(th:Int)=(es2.length:Int)+1)/\(1-s'=0/\(nj:Int)=es2.length\/1-s'=1/\(nj:Int)=(es2.length:Int)+1):=by
      rcases hs' with ⟨ec,rfl⟩|⟨ec,rfl⟩<;>simp only[ec,if_true,vL,if_false] at hth hnj<;>lia
     refine ixT2 et.1 ?_;obtain⟨l3,oks3⟩:=y4.ok sb;obtain⟨bs3,m3,h13,h23,o3⟩:=B3.box y2;obtain⟨lt3,st3⟩:=oks3 _ (zF y2);have lth:=(zB.mp y3).1
     have la3:a<T3.length:=Ye h13
     have lb3:b<T3.length:=by
      obtain⟨_,z,_⟩:=B3.ft;exact Ye z
     refine Xi (n:=n) kId B3.ins rfl ?_;refine ZM (n:=n) kId B3.ins rfl ?_;refine ZI (o:=.lst bs3) h13 (Yx (j:=th) h23) ?_;refine⟨k,u,ns,ws,rows,_,row,R3,o3.2.2,(),st3,rfl,hr,λT4 m4 p4 l4 h4=>?_⟩;have:=Y0 p4;refine⟨a,b,th,_,_,.out k (Zo _ g (ns.take (row.2+1))),B3.pre p4,rfl,lth,⟨m4,rfl,(),(),h4⟩,λT5 B5 cg5=>?_⟩;refine ixT2 et.2 ?_;refine hn2 _ _ ⟨_,_,nj,B5,y4,cg2.trans (cg3.trans ((Cg.pre p4).trans cg5)),by simp;lia,λz=>absurd z (),y6,?_,(),_,_,_,rfl⟩;rw[BH hc];exact y5
    .rintro dl2 S2 ⟨es2,fs2,j2,B2,K2,cg2,l2,s2,hw2,he2,q2,x8,x9,x10,rfl⟩;refine hn _ _ ⟨(),es2,fs2,j2,_,B2,K2,cg.trans ((Cg.pre p1).trans cg2),?_,?_,hw2,he2,_,_,_,_,_,_,rfl⟩
     .rw[show (Zk (.lst (cs.map Ct.d))).length=cs.length from zD ..] at l2;lia
     .refine⟨by have:=sh.1;lia,λz=>?_⟩;have q0:(Zk (.lst (cs.map Ct.d))).length=0:=by have:=sh.1;lia
      obtain⟨rfl,rfl⟩:=s2 q0;exact sh.2 z
  .rintro dl' S' ⟨hk,es',fs',j',e',B',K',cg,l',sh,hw',he',x5,x6,x7,x8,x9,x10,rfl⟩;rw[zD] at l';exact h S' es' fs' j' B' K' cg () sh (zB.mp he').1
noncomputable def zeQ  (Bh:Dfz "sure" FA SR):Fkz 1 "sure" SR Kw:=
 mkF Bh An (λhr=>(Zd (ZC (ZA (ZS hr) (dv 0) ZU (Zs _)) (Ze (Zj (SF (Yt (ZS hr) (piv 1) Zb (Zs _)) (Ux (Yt (ZS hr) (piv 1) Zb (Zs _)))))) ZE) (Ze (Zj (Yt do_ge (piv 1) Zb (Zs _)))))) λS Q ex=>by
  refine kS λ_=>kP λ_ _=>kN λh=>?_
  rcases h with ⟨rfl,h⟩|⟨rfl,h⟩
  .refine ifD (λc=>?_) (λc=>?_)
   .rw[decide_eq_true c,wV] at h;exact h
   .rw[decide_eq_false c,xY] at h;exact h
  .exact h
noncomputable def zgC  (Aj:Dfz q56 Ls PC)(Ut:Fkz 1 "sure" SR Kw)(V9:Fkz 1 "bars" Rm Lx)(Vs:Fkz 5 VP S8 LD):Fkz 6 q56 PC EZ:=
 mkF Aj HJ (λhr=>(Zd (Pn (is:=[5,6]) PassesOwn.never rfl HJ.nd (Nms.cons (i:=5) rfl (Or.inl rfl) (by first|exact .inl rfl|exact .inr rfl) (Nms.cons (i:=6) rfl (Or.inl rfl) (by first|exact .inl rfl|exact .inr rfl) Nms.nil)) rfl rfl X3 Boot.«enumerate» (pv 1) (Ze (ZC (Y7 (Zg V9 hr (Za (piv 6) (Za (ZG (dv 4) (piv 6)) Zf)))) (Ze (Zj (Zg Vs hr (pdv 0 (pdv 1 (pdv 5 (pdv 2 (pv 3)))))))) ZE))) (Zd (ZC (Y7 (ZK (Z5 (PR rfl)) rfl UL Boot.«all» (Za (Xr (x:="row") (N:=["spans"]) (caps:=[4]) (ar:=Zh Ls) rfl rfl csc rfl ⋯ (dv 1) pt0 (λ_ _ _ _ _ _=>(Zg Ut hr (Za (piv 0) (Za (ZG (dv 1) (piv 0)) Zf))))) Zf))) (Ze (Zj (Zz (Za ZU (pv 4))))) ZE) (Ze (Zj ZR))))) λS Q ex=>by
  refine kR λnd=>kR λrw=>kR λbx=>kI λg=>kR λsp=>kN ?_
  rintro⟨u,ns,ws,rows,e,R,hb,lu,se,hs,ho,hf,hn⟩;have r4:=R.rl;refine Oe (n:=rw) (xs:=rows.map rwD) (S1:=S) (λk dl' S'=>S=S'/\k<=rows.length/\(∀(i:Nat)(row:Bool×Nat),i<k->rows[i]?=some row->ibS ns row.1 row.2 e g=false)/\∃x5 x6:Option D,dl'=[sR nd,sR rw,sR bx,sI g,sR sp,x5,x6]) kId (λk dl' S' z=>z.1 ▸ R.rw) ⟨rfl,zZ _,λi row hi=>absurd hi (),_,_,rfl⟩ ?_ ?_
  .rintro k x dl' S' nx ct hx ⟨rfl,hk,hno,x5,x6,rfl⟩ hn2;rw[zG] at hx;obtain⟨row,hr,rfl⟩:=zP.mp hx;have hi:row.2<ns.length:=R.ri row (zF hr)
   have lk:=(zB.mp hr).1;refine ZI (o:=.lst ((Zo e g ns).map frD)) hs (Yj (vs:=Zo e g ns) (i:=(row.2:Int)) ⟨(),by rw[YU];lia⟩) ?_;have eb:ibS ns row.1 row.2 e g=brS row.1 (gt (Zo e g ns) (row.2:Int)):=by unfold ibS;rw[zcs hi]
   have key:∀b:Bool,ibS ns row.1 row.2 e g=b->if b=true then (∃(k' u:Nat)(ns:List Nd)(ws:List Nat)(rows:List (Bool×Nat))(e:LI)(row:Bool×Nat),Sr S nd rw g ns ws rows u/\La S bx (e.map frD)/\e.length=u/\Spn 51 e/\(k:Int)=(k':Int)/\rows[k']?=some row/\∀(T:Sto)(m:Nat),Pre S T->S.length<=m->La T m ((Zo e g (ns.take (row.2+1))).map frD)->Q (.tup [.str "out",.int (k:Int),.ref m]) T) else nx [sR nd,sR rw,sR bx,sI g,sR sp,sI (k:Int),some (rwD row)] S:=λb hb'=>by
    cases b with
    | true=>
     rw[if_pos rfl];exact⟨k,u,ns,ws,rows,e,row,R,hb,lu,se,rfl,hr,λT m p l hm=>ho T k m row p l hr hb' hm⟩
    | false=>
     rw[if_neg zN];refine hn2 _ _ ⟨rfl,(),λi row' hi' hr'=>?_,_,_,rfl⟩;by_cases c:i=k
     .subst c;rw[hr] at hr';cases hr';exact hb'
     .exact hno i row' () hr'
   rcases row with ⟨_|_,rn⟩
   .exact .inr ⟨rfl,key _ eb⟩
   .exact .inl ⟨rfl,key _ eb⟩
  .rintro dl' S' ⟨rfl,hk,hno,x5,x6,rfl⟩;rw[zD] at hno;have nb:∀row∈rows,ibS ns row.1 row.2 e g=false:=λrow hr=>by
    obtain⟨i,hi⟩:=vQ.mp hr;exact hno i row (zB.mp hi).1 hi
   refine XN (n:=rw) (S1:=S) (o:=.lst (rows.map rwD)) (λd=>match d with|.tup [.str w,.int at']=>.bl (suB (decide (w="zero")) (gt (Zo e g ns) at'))|_=>.non) kId R.rw (by show (rows.map rwD).length<=1000;rw[zD];lia) (λx hx S2 K pr hK=>?_) ?_
   .have hx':x∈rows.map rwD:=hx;obtain⟨⟨b,n⟩,hm,rfl⟩:=zL.mp hx';refine ZI (o:=.lst ((Zo e g ns).map frD)) (pr _ _ hs) (Yj (vs:=Zo e g ns) (i:=(n:Int)) ⟨(),by rw[YU];have:=R.ri _ hm;dsimp only at this;lia⟩) ?_;cases b
    .exact .inr ⟨rfl,hK⟩
    .exact .inl ⟨rfl,hK⟩
   .refine QX (n:=S.length) (o:=.lst _) (Zq _ _) (D5 ns e g rows) ?_;rw[ze5];cases es:suS ns rows e g with
    | true=>exact YA (hf nb es _ Pre.refl.push)
    | false=>exact YB (hn nb es _ Pre.refl.push)
noncomputable def zaz  (zg1:Dfz q37 JA Ox):Fkz 1 q37 Ox Gp:=
 mkF zg1 zbk (λhr=>(Ze (Zj (Xr (x:="row") (N:=[]) (caps:=[]) (ar:=Zh JA) rfl rfl csc rfl ⋯ (dv 0) (λ_ _ _ _ _ _=>SI (ZA (ZS hr) (piv 0) ZU (Zs _))) (λ_ _ _ _ _ _=>(piv 0)))))) λS Q ex=>by
  refine kR λr=>kN ?_
  rintro⟨rows,hr,l9,h⟩;refine Q3 (n:=r) (S1:=S) (o:=.lst (rows.map rwD)) (λd=>match d with|.tup [.str w,.int at']=>if w="zero" then some (.int at') else none|_=>none) kId hr (by show (rows.map rwD).length<=1000;rw[zD];lia) (λx hx S2 K pr hK=>?_) (λx hx y hy S2 K pr hK=>?_) ?_
  .have hx':x∈rows.map rwD:=hx;obtain⟨⟨b,n⟩,_,rfl⟩:=zL.mp hx';cases b
   .exact hK
   .exact hK
  .have hx':x∈rows.map rwD:=hx;obtain⟨⟨b,n⟩,_,rfl⟩:=zL.mp hx';cases b
   .exact absurd hy (by
     simp[rwD];intro z;exact absurd z ⋯)
   .cases hy;exact hK
  .have e:(Zk (.lst (rows.map rwD))).filterMap (λd=>match d with|.tup [.str w,.int at']=>if w="zero" then some (.int at') else none|_=>none)=(eqs rows).map wtD:=by
    show (rows.map rwD).filterMap _=_;unfold eqs;rw[List.filterMap_map,List.map_filterMap];congr 1;funext ⟨b,n⟩;cases b<;>rfl
   rw[e];exact h
noncomputable def zby  (zfB:Dfz VI Mx Rc):Fkz 1 VI Rc Mf:=
 mkF zfB AA (λhr=>(Ze (Zj (Xr (x:="place") (N:=["each"]) (caps:=[0]) (ar:=Zh Mx) rfl rfl csc rfl ⋯ (dv 1) pt0 (λ_ _ _ _ _ _=>(ZG (dv 1) (dv 0))))))) λS Q ex=>by
  refine kR λe=>kR λp=>kN ?_
  rintro⟨xs,is,he,hp,l9,hi,h⟩;refine XN (n:=p) (S1:=S) (o:=.lst (is.map wtD)) (λd=>match d with|.int i=>xs.getD i.toNat .non|_=>.non) kId hp (by show (is.map wtD).length<=1000;rw[zD];lia) (λx hx S2 K pr hK=>?_) ?_
  .have hx':x∈is.map wtD:=hx;obtain⟨i,him,rfl⟩:=zL.mp hx';have hl:=hi i him;refine ZI (o:=.lst xs) (pr _ _ he) (Yx (j:=i) (v:=xs.getD i .non) (by show xs[i]?=_;rw[zE hl];simp[hl])) ?_;exact hK
  .have e2:(Zk (.lst (is.map wtD))).map (λd=>match d with|.int i=>xs.getD i.toNat .non|_=>.non)=is.map λi=>xs.getD i .non:=by
    show (is.map wtD).map _=_;rw[yF];rfl
   rw[e2];exact h
noncomputable def CT  (zdk:Dmz ZW.C q16 "Number.slope" GR Q8):Fmz 1 ZW.C q16 Q8 NO:=
 mkM zdk zgQ (λhr=>(Ze (Zj (Zi zds (Yr (Za (Zz (Za Zb (Za Zb Zf))) Zf)) (dv 3))))) λS Q ex=>by
  refine kR λn=>kR λw=>kR λs=>kI λqi=>kI λg=>kN ?_
  rintro⟨x,y,q,vs,sl,ds,hn,hw,hs,rows,sz,⟨rfl,hq⟩,ok,lv,s1,hg,h⟩;have sg:Sz 21 g:=Sz.of 1000000 ()
  have aY:∀ys:List D,ys=(YS vs sl g q (Nd.number x y)).map frD->Q (.ref (S++[Ob.lst [frD (0,0)]]).length) ((S++[.lst [frD (0,0)]])++[.lst ys]):=λys e=>by
   subst e;exact h _ _ Pre.refl.push.push (by simp) (Zq _ _)
  refine zay (n:=S.length) (k:=((q:Nat):Int)) (xs:=[frD (0,0)]) (Zq _ _) ⟨(),()⟩ (by simp;lia) ?_;refine aY _ ?_;rw[zJ,zaC];unfold YS;rw[yF];rfl
noncomputable def zel  (zao:Dmz ZX.C q16 "Unknown.slope" NY Px):Fmz 1 ZX.C q16 Px M7:=
 mkM zao zaa (λhr=>(Ze (Zj (Ll (x:="k") (N:=["grid","self"]) (caps:=[4,0]) (ar:=Zh NY) rfl rfl csc rfl ⋯ rfl XO (pv 3) pt0 (λ_ _ _ _ _ _=>(XE (ZA (ZS hr) (dv 0) (ZL ZX.cl ZX.n_place (dv 2)) (Zs _)) (Zz (pdv 1 (pv 1))) (Zz (Za Zb (Za Zb Zf))))))))) λS Q ex=>by
  refine kR λn=>kR λw=>kR λs=>kI λqi=>kI λg=>kN ?_
  rintro⟨k,q,vs,sl,ds,hn,hw,hs,rows,sz,⟨rfl,hq⟩,ok,lv,s1,hg,h⟩;have sg:Sz 21 g:=Sz.of 1000000 ()
  have aY:∀ys:List D,ys=(YS vs sl g q (Nd.unknown k)).map frD->Q (.ref S.length) (S++[.lst ys]):=λys e=>by
   subst e;exact h _ _ Pre.refl.push (by simp) (Zq _ _)
  refine Cv (j:=((q:Nat):Int)) (S1:=S) (λl=>frD (if (l:Int)=k then (g,g) else (0,0))) kId ⟨(),()⟩ (λl hl S2 K pr hK=>?_) ?_
  .refine ZM (n:=n) kId (pr _ _ hn) rfl ?_;refine ifD (λe=>?_) (λe=>?_)
   .rw[if_pos e] at hK;exact hK
   .rw[if_neg e] at hK;exact hK
  .refine aY _ ?_;rw[zJ];unfold YS;rw[yF];rfl
noncomputable def zcF  (zdX:Dmz ZZ.C q11 q130 Fs OM)(YK:Fkz 1 q31 Wi Vv):Fmz 2 ZZ.C q11 OM zd7:=
 mkM zdX zeS (λhr=>(Ze (Zj (Zg YK hr (pdv 3 (pv 4)))))) λS Q ex=>by
  refine kR λ_=>kD λ_=>kD λ_=>kP λ_ _=>kP λ_ _=>kI λ_=>kN λh=>?_
  exact h
def Mn {C:Addr}{c:Int->Int->Nd}{k:Nat}{sd:Sd}(f:Int×Int->Int×Int->Int×Int->Int×Int->Int->Int×Int)(p:Pr C c)(hl:∀vs sl g l i j,(c i j).sl vs sl g l=f (gt vs i) (gt vs j) (gs sl i l) (gs sl j l) g)(hs:∀(n:Nat)(x y p r:Int×Int)(g:Int)(S:Sto)(Q:DK) ex,(Sz 1400 x.1/\Sz 1400 x.2/\Sz 1400 y.1/\Sz 1400 y.2/\Sz 1400 p.1/\Sz 1400 p.2/\Sz 1400 r.1/\Sz 1400 r.2/\1<=g/\g<=1000000)->Q (frD (f x y p r g)) S->sd [.ref n,frD x,frD y,frD p,frD r,.int g] S Q ex)(d:Dmz C q16 q129 LG QL)(G_1:Fmz k C q11 OM sd):Fmz (k+1) C q16 QL (Qz c):=
 mkM d Lo (λhr=>(Zd (Vw (i:=5) Lo.nd rfl (Or.inr rfl) (ZG (dv 1) (ZL p.cl p.o (dv 0)))) (Zd (Vw (i:=6) Lo.nd rfl (Or.inr rfl) (ZG (dv 1) (ZL p.cl p.t (dv 0)))) (Ze (Zj (Kk (x1:="a") (x2:="b") (N:=["x","y","grid","self"]) (caps:=[5,6,4,0]) (ar:=Zh LG) rfl rfl Vf rfl rfl rfl ⋯ rfl VW Boot.«zip» (Za (ZG (dv 2) (ZL p.cl p.o (dv 0))) (Za (ZG (dv 2) (ZL p.cl p.t (dv 0))) Zf)) (λ_ _ _ _ _ _=>(XI (C:=C) (dv 5) p.cl G_1.m G_1.ok (hr.mono (zA _)) G_1.b YE (pdv 2 (pdv 3 (pdv 0 (pdv 1 (pv 4))))))))))))) λS Q ex=>by
  refine kR λn=>kR λw=>kR λs=>kI λqi=>kI λg=>kN ?_
  rintro⟨i,j,q,vs,sl,ds,hn,hw,h0,rows,sz,⟨rfl,hq⟩,ok,lv,s1,hg,h⟩;rw[p.b] at hn;rw[p.k] at ok;have aY:∀ys:List D,ys=(YS vs sl g q (c i j)).map frD->Q (.ref S.length) (S++[.lst ys]):=λys e=>by
   subst e;exact h _ _ Pre.refl.push (by simp) (Zq _ _)
  refine ZM (n:=n) kId hn rfl ?_;refine ZI (o:=.lst (vs.map frD)) hw (Yj (i:=i) ⟨ok.1.1,by have:=ok.1.2;lia⟩) ?_;refine ZM (n:=n) kId hn rfl ?_;refine ZI (o:=.lst (vs.map frD)) hw (Yj (i:=j) ⟨ok.2.1,by have:=ok.2.2;lia⟩) ?_;obtain⟨a1,ea,_,ha⟩:=rows.at ok.1;obtain⟨a2,eb,_,hb⟩:=rows.at ok.2;obtain⟨la,za⟩:=sz i ok.1;obtain⟨lb,zb⟩:=sz j ok.2;have ci:=s1.at (i:=i) ⟨ok.1.1,by have:=ok.1.2;lia⟩
  have cj:=s1.at (i:=j) ⟨ok.2.1,by have:=ok.2.2;lia⟩;refine Nf (n:=a1) (n':=a2) (S1:=S) (xs:=(sl.getD i.toNat []).map frD) (ys:=(sl.getD j.toNat []).map frD) (λx y=>match x,y with|.tup [.int a,.int b],.tup [.int c,.int d]=>frD (f (gt vs i) (gt vs j) (a,b) (c,d) g)|_,_=>.non) (λK hK=>by
   refine ZM (n:=n) kId hn rfl ?_;refine ZI (o:=.lst ds) h0 ea ?_;refine ZM (n:=n) kId hn rfl ?_;exact ZI (o:=.lst ds) h0 eb hK) ha hb (by rw[zD,la];lia) (λk x y hx hy S2 K pr hK=>?_) ?_
  .rw[zG] at hx hy;obtain⟨p2,hp,rfl⟩:=zP.mp hx;obtain⟨r,hr,rfl⟩:=zP.mp hy;have kq:k<q:=by
    have:=(zB.mp hp).1;lia
   have e1:gs sl i k=p2:=by
    unfold gs;rw[zY,hp];rfl
   have e2:gs sl j k=r:=by
    unfold gs;rw[zY,hr];rfl
   have z1:=za k kq
   have z2:=zb k kq;rw[e1] at z1;rw[e2] at z2;refine Xi (n:=n) (fs:=[("one",.int i),("other",.int j)]) kId (pr _ _ hn) rfl ?_;exact hs _ _ _ _ _ _ _ _ _ ⟨ci.2.1.mono ⋯,ci.2.2.mono ⋯,cj.2.1.mono ⋯,cj.2.2.mono ⋯,z1.2.1.mono ⋯,z1.2.2.mono ⋯,z2.2.1.mono ⋯,z2.2.2.mono ⋯,hg.1,hg.2⟩ hK
  .refine aY _ ?_;rw[tQ];unfold YS;rw[yF];rw[zhX _ _ _ la lb];exact vT λl _=>(congrArg frD (hl ..)).symm
noncomputable def zcP  (zdb:Dmz Z2.C q11 q126 DW NX)(Ys:Fkz 1 q24 Wb W5):Fmz 2 Z2.C q11 NX zen:=
 mkM zdb CV (λhr=>(Ze (Zj (Zg Ys hr (pdv 3 (pv 4)))))) λS Q ex=>by
  refine kR λ_=>kD λ_=>kD λ_=>kP λ_ _=>kP λ_ _=>kI λ_=>kN λh=>?_
  exact h
noncomputable def zfA  (AN:Dmz Z1.C q11 q127 Gm Lu)(YK:Fkz 1 q31 Wi Vv)(Xn:Fkz 2 q45 VM Su):Fmz 3 Z1.C q11 Lu zep:=
 mkM AN zet (λhr=>(Ze (Zj (Zg YK hr (Za (Zg Xn hr (pdv 1 (pdv 4 (pv 5)))) (Za (Zg Xn hr (pdv 2 (pdv 3 (pv 5)))) Zf)))))) λS Q ex=>by
  refine kR λ_=>kP λx1 x2=>kP λy1 y2=>kP λa b=>kP λc d=>kI λg=>kN ?_
  rintro⟨⟨h1,h2,h3,h4,h5,h6,h7,h8,g1,g2⟩,h⟩;have sg:Sz 21 g:=Sz.of 1000000 ();refine⟨⟨⟨ZH h1 h7,ZH h1 h8,ZH h2 h7,ZH h2 h8⟩,sg.fd ()⟩,λmn mx hc=>?_⟩;obtain⟨rfl,rfl⟩:=hc.eq;refine⟨⟨⟨ZH h3 h5,ZH h3 h6,ZH h4 h5,ZH h4 h6⟩,sg.fd ()⟩,λmn mx hc=>?_⟩;obtain⟨rfl,rfl⟩:=hc.eq;exact h
noncomputable def zhx  (Ag:Dfz q76 IL Oz):Fkz 1 q76 Oz EC:=
 mkF Ag zeK (λhr=>(Ze (Zj (Zz (Za (ZK (Vd rfl) rfl Wf Boot.«min» (Za (Zi ZQ (piv 0) (dv 1)) (Za (Zi ZQ (piv 0) (dv 1)) Zf))) (Za (ZK (XG rfl) rfl Y5 Boot.«max» (Za (Zi ZQ (piv 0) (dv 1)) (Za (Zi ZQ (piv 0) (dv 1)) Zf))) Zf)))))) λS Q ex=>by
  refine kP λ_ _=>kI λ_=>kN ?_
  rintro⟨⟨h1,h2⟩,h⟩;exact⟨h1,h2,h1,h2,h⟩
noncomputable def zhH  (AO:Dmz ZJ.C q16 "Power.slope" M8 PF)(Xn:Fkz 2 q45 VM Su)(M0:Fkz 1 q76 Oz EC)(UU:Fkz 2 q59 Ra Ly):Fmz 3 ZJ.C q16 PF JB:=
 mkM AO Me (λhr=>(Zd (Zm (i:=5) Me.nd (Zg UU hr (Za (ZG (dv 1) (ZL ZJ.cl ZJ.n_one (dv 0))) (Za (Zi Yb (ZL ZJ.cl ZJ.n_many (dv 0)) Zb) (pv 4))))) (Zd (Vw (i:=6) Me.nd rfl (Or.inr rfl) (Zg M0 hr (pdv 5 (Za (ZL ZJ.cl ZJ.n_many (dv 0)) Zf)))) (Ze (Zj (Xr (x:="a") (N:=["steep","grid"]) (caps:=[6,4]) (ar:=Zh M8) rfl rfl csc rfl ⋯ (ZG (dv 2) (ZL ZJ.cl ZJ.n_one (dv 0))) pt0 (λ_ _ _ _ _ _=>(Zg Xn hr (pdv 1 (pdv 0 (pv 2))))))))))) λS Q ex=>by
  refine kR λn=>kR λw=>kR λs=>kI λqi=>kI λg=>kN ?_
  rintro⟨i,m,q,vs,sl,ds,hn,hw,hs,rows,sz,⟨rfl,hq⟩,ok,lv,s1,hg,h⟩;have sg:Sz 21 g:=Sz.of 1000000 ()
  have aY:∀ys:List D,ys=(YS vs sl g q (Nd.power i m)).map frD->Q (.ref S.length) (S++[.lst ys]):=λys e=>by
   subst e;exact h _ _ Pre.refl.push (by simp) (Zq _ _)
  obtain⟨a1,ea,_,ha⟩:=rows.at ok.1;obtain⟨la,za⟩:=sz i ok.1;have ci:=s1.at (i:=i) ⟨ok.1.1,by have:=ok.1.2;lia⟩;obtain⟨ok1,m2,m6⟩:=ok;refine ZM (n:=n) kId hn rfl ?_;refine ZI (o:=.lst (vs.map frD)) hw (Yj (i:=i) ⟨ok1.1,by have:=ok1.2;lia⟩) ?_;refine ZM (n:=n) kId hn rfl ?_;refine⟨⟨(),(),ci.2.1.mono ⋯,ci.2.2.mono ⋯,hg.1,sg.mono ⋯⟩,λm' M' hP=>?_⟩;obtain⟨rfl,rfl⟩:=hP.eq ();have gp:(1:Int)<=g^((m-1).toNat-1):=yD ()
  have lo:=V7 gp (LS (gt vs i).1 (gt vs i).2 (m-1).toNat)
  have fl:=zdx (gt vs i) (n:=m) () hg.1
  have p1:Sz 6000 ((gt vs i).1^(m-1).toNat):=(ci.2.1.pow _).mono ()
  have p2:Sz 6000 ((gt vs i).2^(m-1).toNat):=(ci.2.2.pow _).mono ()
  have pl:Sz 6000 (ZP (gt vs i).1 (gt vs i).2 (m-1).toNat):=by
   unfold ZP;split
   .exact yR ⋯
   .exact Wu p1 p2
  have sm:Sz 10 m:=Sz.of 6 ();refine ZM (n:=n) kId hn rfl ?_;refine⟨⟨ZH (pl.div gp) sm,ZH (VS (Wa p1 p2) gp) sm⟩,?_⟩;have e1:(if -(-Z7 (gt vs i).1 (gt vs i).2 (m-1).toNat/g^((m-1).toNat-1))*m<ZP (gt vs i).1 (gt vs i).2 (m-1).toNat/g^((m-1).toNat-1)*m then -(-Z7 (gt vs i).1 (gt vs i).2 (m-1).toNat/g^((m-1).toNat-1))*m else ZP (gt vs i).1 (gt vs i).2 (m-1).toNat/g^((m-1).toNat-1)*m)=(Yu (gt vs i) m g).1:=by
   rw[if_neg (by have z:(Yu (gt vs i) m g).1<=(Yu (gt vs i) m g).2:=fl;exact Int.not_lt.mpr z)];rfl
  have e2:(if -(-Z7 (gt vs i).1 (gt vs i).2 (m-1).toNat/g^((m-1).toNat-1))*m > ZP (gt vs i).1 (gt vs i).2 (m-1).toNat/g^((m-1).toNat-1)*m then -(-Z7 (gt vs i).1 (gt vs i).2 (m-1).toNat/g^((m-1).toNat-1))*m else ZP (gt vs i).1 (gt vs i).2 (m-1).toNat/g^((m-1).toNat-1)*m)=(Yu (gt vs i) m g).2:=by
   split
   .rfl
   .rename_i c;have z:¬ (Yu (gt vs i) m g).1<(Yu (gt vs i) m g).2:=c
    have z2:(Yu (gt vs i) m g).1=(Yu (gt vs i) m g).2:=by lia
    exact z2
  rw[e1,e2];have f1:Sz 6010 (Yu (gt vs i) m g).1:=Qf (e:=10) (pl.div gp) () ()
  have f2:Sz 6010 (Yu (gt vs i) m g).2:=Qf (e:=10) (VS (Wa p1 p2) gp) () ();generalize hfc:Yu (gt vs i) m g=fc at f1 f2;refine XN (n:=a1) (S1:=S) (o:=.lst ((sl.getD i.toNat []).map frD)) (λx=>match x with|.tup [.int a,.int b]=>frD (Z6 fc (a,b) g)|_=>.non) (λK hK=>by
   refine ZM (n:=n) kId hn rfl ?_;exact ZI (o:=.lst ds) hs ea hK) ha (by show ((sl.getD i.toNat []).map frD).length<=1000;rw[zD,la];lia) (λx hx S2 K pr hK=>?_) ?_
  .have hx':x∈(sl.getD i.toNat []).map frD:=hx;obtain⟨p,hp,rfl⟩:=zL.mp hx';obtain⟨k,hk,ek⟩:=yV.mp hp;have z1:=za k ()
   have e1:gs sl i k=p:=by
    unfold gs;rw[zY,zE hk,ek];rfl
   rw[e1] at z1;refine⟨⟨⟨ZH f1 z1.2.1,ZH f1 z1.2.2,ZH f2 z1.2.1,ZH f2 z1.2.2⟩,sg.fd ()⟩,λmn mx hc=>?_⟩;obtain⟨rfl,rfl⟩:=hc.eq;exact hK
  .refine aY _ ?_;show ((sl.getD i.toNat []).map frD).map _=_;rw[yF,zfn _ _ la];unfold YS;rw[yF];subst hfc;rfl
noncomputable def zaY  (zeR:Dfz VF JJ Ss)(M3:Fmz 3 ZJ.C q16 PF JB)(Lg:Fmz 4 Z1.C q16 zbf Ir)(Kr:Fmz 3 Z2.C q16 zbU Iw)(Kn:Fmz 3 ZZ.C q16 QL Eu)(LR:Fmz 1 ZX.C q16 Px M7)(Mo:Fmz 1 ZW.C q16 Q8 NO)(Ww:Fkz 3 q86 TL Om)(Yn:Fkz 4 q23 XU Wo):Fkz 5 VF Ss Jl:=
 mkF zeR Qn (λhr=>(Zd (Zm (i:=3) Qn.nd (Zg Yn hr (pdv 0 (pdv 1 (pv 2))))) (Zd (Zm (i:=4) Qn.nd (Yr Zf)) (Zd (Sg (i:=5) PassesOwn.never rfl Qn.nd rfl (Or.inl rfl) (dv 0) (Ze (Y1 (Wv (dv 4) (L8 (Zg Ww hr (pv 5)) (YI ZW.cl Mo (rmn hr) (YI ZX.cl LR (rmn hr) (YI ZZ.cl Kn (rmn hr) (YI Z2.cl Kr (rmn hr) (YI Z1.cl Lg (rmn hr) (YI ZJ.cl M3 (rmn hr) N4)))))) YE (pdv 3 (pdv 4 (Za (ZK (Z5 Y3) rfl YJ Boot.«len» (pv 1)) (pv 2))))))))) (Ze (Zj (dv 4))))))) λS Q ex=>by
  refine kR λa=>kR λb=>kI λg=>kN ?_
  rintro⟨ns,ws,bs,ha,hb,net,sb,hq9,hg,hl,h⟩;have disp:∀v:Nd,∃C fs sd,v.oz=.ins C fs/\(C,sd)∈[(ZW.C,NO),(ZX.C,M7),(ZZ.C,Eu),(Z2.C,Iw),(Z1.C,Ir),(ZJ.C,JB)]/\fs.lookup ("slope":Str)=none/\∀(n w s:Nat)(q:Nat)(g:Int)(S:Sto)(Q:DK)(ex:Addr->Sto->Prop)(vs:LI)(sl:List LI)(ds:List D),S[n]?=some (v.oz)->La S w (vs.map frD)->La S s ds->Z9 S 0 ds sl->(∀i:Int,inR sl.length i->(sl.getD i.toNat []).length=q/\∀l,l<q->(gs sl i l).1<=(gs sl i l).2/\Sz 1100 (gs sl i l).1/\Sz 1100 (gs sl i l).2)->q<=900->v.ok sl.length q->sl.length<=vs.length->Spn 1000 vs->(Gg g)->(∀(T:Sto)(m:Nat),Pre S T->S.length<=m->La T m ((YS vs sl g q v).map frD)->Q (.ref m) T)->sd [.ref n,.ref w,.ref s,.int (q:Nat),.int g] S Q ex:=by
   intro v;cases v with
   | number x y=>exact⟨_,_,_,rfl,(.head _),rfl,λn w s q g S Q ex vs sl ds a1 a2 a3 a4 a5 a6 a7 a8 a9 b1 b2=>⟨x,y,q,vs,sl,ds,a1,a2,a3,a4,a5,⟨rfl,a6⟩,a7,a8,a9,b1,b2⟩⟩
   | unknown k=>exact⟨_,_,_,rfl,(.tail _ (.head _)),rfl,λn w s q g S Q ex vs sl ds a1 a2 a3 a4 a5 a6 a7 a8 a9 b1 b2=>⟨k,q,vs,sl,ds,a1,a2,a3,a4,a5,⟨rfl,a6⟩,a7,a8,a9,b1,b2⟩⟩
   | plus i j=>exact⟨_,_,_,rfl,(.tail _ (.tail _ (.head _))),rfl,λn w s q g S Q ex vs sl ds a1 a2 a3 a4 a5 a6 a7 a8 a9 b1 b2=>⟨i,j,q,vs,sl,ds,a1,a2,a3,a4,a5,⟨rfl,a6⟩,a7,a8,a9,b1,b2⟩⟩
   | minus i j=>exact⟨_,_,_,rfl,(.tail _ (.tail _ (.tail _ (.head _)))),rfl,λn w s q g S Q ex vs sl ds a1 a2 a3 a4 a5 a6 a7 a8 a9 b1 b2=>⟨i,j,q,vs,sl,ds,a1,a2,a3,a4,a5,⟨rfl,a6⟩,a7,a8,a9,b1,b2⟩⟩
   | times i j=>exact⟨_,_,_,rfl,(.tail _ (.tail _ (.tail _ (.tail _ (.head _))))),rfl,λn w s q g S Q ex vs sl ds a1 a2 a3 a4 a5 a6 a7 a8 a9 b1 b2=>⟨i,j,q,vs,sl,ds,a1,a2,a3,a4,a5,⟨rfl,a6⟩,a7,a8,a9,b1,b2⟩⟩
   | power i m=>exact⟨_,_,_,rfl,(.tail _ (.tail _ (.tail _ (.tail _ (.tail _ (.head _)))))),rfl,λn w s q g S Q ex vs sl ds a1 a2 a3 a4 a5 a6 a7 a8 a9 b1 b2=>⟨i,m,q,vs,sl,ds,a1,a2,a3,a4,a5,⟨rfl,a6⟩,a7,a8,a9,b1,b2⟩⟩
  refine⟨ns,ws,bs,ha,hb,net,sb,hg,hl,λT1 w pr1 lw hw=>?_⟩;have szw:=Ic net rfl sb hg
  have lf:(Zo bs g ns).length=ns.length:=YU _ _ _
  have spn:Spn 1000 (Zo bs g ns):=szw.spn λk hk=>by
   have z:=(net.w1 (i:=(k:Int)) ⟨(),()⟩).2
   rwa [zJ] at z
  refine Rf (n:=a) (o:=.lst (ns.map Nd.d)) (λk dl' S'=>k<=ns.length/\Pre T1 S'/\(∃ds:List D,La S' T1.length ds/\Z9 S' (T1.length+1) ds (ZT (Zo bs g ns) g bs.length (ns.take k)))/\∃u:Option D,dl'=[sR a,sR b,sI g,sR w,sR T1.length,u]) ⟨zZ _,Pre.refl.push,⟨[],Zq _ _,Z9.nil⟩,_,rfl⟩ (λk dl' S' z=>z.2.1 _ _ (pr1 _ _ ha)) ?_ ?_
  .rintro k x dl' S' nx ct ex' ⟨hk,pr,⟨ds,hf,rows⟩,u,rfl⟩ hn;have ex2:(ns.map Nd.d)[k]?=some x:=ex';rw[zG] at ex2;obtain⟨v,hv,rfl⟩:=zP.mp ex2;have hk':=(zB.mp hv).1
   have ln:(ZT (Zo bs g ns) g bs.length (ns.take k)).length=k:=by rw[UC,zO];lia
   have okv:v.ok (ZT (Zo bs g ns) g bs.length (ns.take k)).length bs.length:=by rw[ln];exact(net.ok k v hv).1
   have slw:=IV net szw lf hg k hk
   have ss:=slw.spn λi hi=>by
    have z:=(net.w1 (i:=(i:Int)) ⟨(),()⟩).2
    rwa [zJ] at z
   obtain⟨C,fs,sd,eo,hm,hf2,go⟩:=disp v;have N1:=Zq S' (v.oz)
   have ld:ds.length=k:=by rw[rows.1,ln]
   have lt:=Ye hf;refine zbY (n:=T1.length) (xs:=ds) kId hf (λK hK=>?_) ();refine MW (n:=S'.length) (C:=C) (sd:=sd) (fs:=fs) (S1:=S'++[v.oz]) (λK hK=>⟨v,rfl,by exact hK⟩) (by rw[<- eo];exact N1) hm hf2 ?_;refine Xq (Zu (pr _ _ (pr1 _ _ hb))) ?_;rw[zD];refine go _ _ _ bs.length _ _ _ _ (Zo bs g ns) (ZT (Zo bs g ns) g bs.length (ns.take k)) ds N1 (Zu (pr _ _ hw)) (Zu hf) ((rows.low (zZ _)).pre (Xb Pre.refl _)) ss hq9 okv () spn hg λT m prT lm hT=>?_
   have hf3:=prT _ _ (Zu hf);refine hK _ _ hf3 ?_;have lS:(S'++[v.oz]).length=S'.length+1:=by simp
   have rows3:Z9 T (T1.length+1) ds (ZT (Zo bs g ns) g bs.length (ns.take k)):=rows.pre λi o e=>prT _ _ (Zu e)
   refine hn _ _ ⟨(),X8 (pr.trans λi o e=>prT _ _ (Zu e)) (zA _),⟨ds++[.ref m],YV hf3,?_⟩,_,rfl⟩;rw[YG hv,Q5];have r4:=rows3.snoc (a:=m) (r:=YS (Zo bs g ns) (ZT (Zo bs g ns) g bs.length (ns.take k)) g bs.length v) () hT;exact r4.keep λx o hx e=>Yp e ()
  .rintro dl' S' ⟨hk,pr,⟨ds,hf,rows⟩,u,rfl⟩;have e:ns.take (Zk (.lst (ns.map Nd.d))).length=ns:=by
    show ns.take (ns.map Nd.d).length=ns;rw[zD,yE]
   rw[e] at rows;refine h _ _ ds (pr1.trans pr) ?_ hf rows;exact Y0 pr1
noncomputable def zc0  (zaF:Dfz q93 HX Po)(Tu:Fkz 1 VI Rc Mf)(TH:Fkz 5 VF Ss Jl):Fkz 6 q93 Po DX:=
 mkF zaF zhU (λhr=>(Ze (Zj (Zg Tu hr (Za (Zg TH hr (pdv 0 (pdv 2 (pv 3)))) (pv 1)))))) λS Q ex=>by
  refine kR λa=>kR λp=>kR λb=>kI λg=>kN ?_
  rintro⟨ns,ws,bs,is,ha,hb,net,sb,hg,l7,b9,hp,i9,hi,h⟩;refine⟨ns,ws,bs,ha,hb,net,sb,b9,hg,l7,λT m ds pr lm hm rows=>?_⟩;have ld:ds.length=ns.length:=by rw[rows.1,UC]
  refine⟨ds,is,hm,pr _ _ hp,i9,λi him=>by rw[ld];exact hi i him,?_⟩;refine h _ _ (is.map λi=>ds.getD i .non) (λx o z=>Zu (pr _ _ z)) (Y0 pr) (Zq _ _) ⟨by rw[zD,zD],λk d r hd hr=>?_⟩;rw[zG] at hd hr;obtain⟨i,hik,rfl⟩:=zP.mp hd;rw[hik] at hr;cases hr;have him:=hi i (zF hik)
  have h1:ds[i]?=some (ds.getD i .non):=by rw[zE (show i<ds.length by lia)];simp[show i<ds.length by lia]
  have ls:=UC (Zo bs g ns) g bs.length ns
  have h2:(ZT (Zo bs g ns) g bs.length ns)[i]?=some ((ZT (Zo bs g ns) g bs.length ns).getD i []):=by rw[zE (show i<(ZT (Zo bs g ns) g bs.length ns).length by lia)];simp[show i<(ZT (Zo bs g ns) g bs.length ns).length by lia]
  obtain⟨q,eq,_,sq⟩:=rows.2 i _ _ h1 h2;exact⟨q,eq,zZ _,Zu sq⟩
noncomputable def ze9  (zhk:Dfz "signed" Hu OI):Fkz 1 "signed" OI Dj:=
 mkF zhk zhG (λhr=>(Ze (Zj (XE (ZA (ZS hr) (Zi Xe (dv 1) Zb) Zb (Zs _)) (XR XJ (dv 0)) (dv 0))))) λS Q ex=>by
  refine kI λi=>kI λk=>kN ?_
  rintro⟨n,rfl,h⟩;refine ifD (λe=>?_) (λe=>?_)
  .have z:sgn i n=-i:=by unfold sgn;rw[if_pos ()]
   rw[z] at h;exact h
  .have z:sgn i n=i:=by unfold sgn;rw[if_neg ()]
   rw[z] at h;exact h
noncomputable def zgA  (zgw:Dfz UJ L4 RT):Fkz 1 UJ RT El:=
 mkF zgw EM (λhr=>(Zd (Zm (i:=3) EM.nd (Zi QC (WI (dv 0) Wj (Wx (dv 1))) (WI (dv 0) (Wx (Zi Z4 (dv 1) Zb)) Wj))) (Ze (Zj (Xr (x:="entries") (N:=["column"]) (caps:=[2]) (ar:=Zh L4) rfl rfl csc rfl ⋯ (dv 3) pt0 (λ_ _ _ _ _ _=>(Zi QC (WI (dv 0) Wj (Wx (dv 1))) (WI (dv 0) (Wx (Zi Z4 (dv 1) Zb)) Wj)))))))) λS Q ex=>by
  refine kR λm=>kI λr=>kI λc=>kN ?_
  rintro⟨ds,i,j,n,rfl,rfl,hm,lm,rows,hn,hi,hj,h⟩;refine WO (n:=m) (o:=.lst ds) (lo:=none) (hi:=some (i:Int)) kId kId kId hm ?_;refine WO (n:=m) (o:=.lst ds) (lo:=some ((i+1:Nat):Int)) (hi:=none) kId kId kId (XW hm) ?_;dsimp only[Zk];rw[HD,D7];refine QD (xs:=ds.take i) (ys:=ds.drop (i+1)) (XW (Zq _ _)) (Zq _ _) (by simp;lia) ?_;have p0:Pre S (S++[.lst (ds.take i)]++[.lst (ds.drop (i+1))]++[.lst (ds.take i++ds.drop (i+1))]):=Pre.refl.push.push.push;refine Fp (n:=(S++[Ob.lst (ds.take i)]++[Ob.lst (ds.drop (i+1))]).length) (RI 1024 (n+1)) (RI 1024 n) kId (Zq _ _) (rows.cut.pre p0) (by simp;lia) (λa xs S2 K hx ha hK=>?_) (λS2 ys p2 e2 l2 r2=>?_)
  .have lr:xs.length<=n+1:=by obtain⟨r,rfl,l,_⟩:=hx;simp[l]
   show dOp (Yq SJ) (UR (Y9 0) Mv (NW (Y9 1))) (UR (Y9 0) (NW (dOp wAdd (Y9 1) (dC (D.int 1)))) Mv) [sR a,sI (j:Int)] S2 K;simp only[dOp];refine WO (n:=a) (o:=.lst xs) (lo:=none) (hi:=some (j:Int)) kId kId kId ha ?_;refine WO (n:=a) (o:=.lst xs) (lo:=some ((j+1:Nat):Int)) (hi:=none) kId kId kId (XW ha) ?_;dsimp only[Zk];rw[HD,D7];refine QD (xs:=xs.take j) (ys:=xs.drop (j+1)) (XW (Zq _ _)) (Zq _ _) (by simp;lia) ?_;exact hK _ _ _ Pre.refl.push.push.push (by simp) (Zq _ _) (B7 hj hx)
  .exact h S2 _ ys (p0.trans p2) e2 (by rw[l2];simp;lia) r2
noncomputable def Af (Wl:Dfz q32 Te Vh)(WU:Fkz 0 q68 Vt Mg):Fkz 1 q32 Vh zaG:=
 mkG Wl J7 (λhr=>(Zd (ZC (ZA (ZS hr) (ZK (Z5 Y3) rfl YJ Boot.«len» (pv 0)) Zb (Zs _)) (Ze (Zj Zb)) ZE) (Ze (Zj (ZK (Z5 (Pd rfl)) rfl UZ Boot.«sum» (Za (MS (x1:="column") (x2:="entry") (N:=["matrix"]) (caps:=[0]) (ar:=Zh Te) rfl rfl Vf rfl rfl rfl ⋯ rfl X3 Boot.«enumerate» (Za (piv 0) Zf) pt0 (λ_ _ _ _ _ _=>(Zi ZQ (dv 1) (Zg WU hr (pdv 2 (Za Zb (pv 0))))))) Zf)))))) λS Q ex=>by
  refine kR λm=>kN ?_
  rintro⟨ds,n,hn,hm,lm,rows,h⟩;refine Xq hm ?_;refine ifD (λe=>⟨Pre.refl,.int _,h 1 (tR ())⟩) (λe=>?_);exact absurd (show ((ds.length:Nat):Int)=0 by lia) e
def RP (k:Nat)(hk:k<=3)(V0:Dfz q68 KP Vt)(U8:Fkz 1 "signed" OI Dj)(Sk:Fkz (2*k+1) q32 Vh (OG k))(Uq:Fkz 1 UJ RT El):Fkz (2*k+1+1) q68 Vt (Pa k):=
 mkG V0 zdQ (λhr=>(Ze (Zj (Zg U8 hr (Za (Zg Sk hr (Za (Zg Uq hr (pdv 0 (pdv 1 (pv 2))) ()) Zf) (zA _)) (Za (Zi Z4 (dv 1) (dv 2)) Zf)) ())))) λS Q ex=>by
  refine kR λm=>kI λr=>kI λc=>kN ?_
  rintro⟨ds,i,j,n,hn,rfl,rfl,hi,hj,hm,lm,rows,h⟩;refine⟨ds,i,j,n,rfl,rfl,hm,lm,rows,(),hi,hj,λT k es pt e1 e2 e3=>?_⟩;exact⟨es,n,hn,e1,e2,e3,λx hx=>⟨i+j,(),pt,.int _,h _ (zdE hx)⟩⟩
def Nj (j:Nat)(hj:j<=3)(Wl:Dfz q32 Te Vh)(WU:Fkz (2*j+1+1) q68 Vt (Pa j)):Fkz (2*(j+1)+1) q32 Vh (OG (j+1)):=
 mkG Wl J7 (λhr=>(Zd (ZC (ZA (ZS hr) (ZK (Z5 Y3) rfl YJ Boot.«len» (pv 0)) Zb (Zs _)) (Ze (Zj Zb)) ZE) (Ze (Zj (ZK (Z5 (Pd rfl)) rfl UZ Boot.«sum» (Za (MS (x1:="column") (x2:="entry") (N:=["matrix"]) (caps:=[0]) (ar:=Zh Te) rfl rfl Vf rfl rfl rfl ⋯ rfl X3 Boot.«enumerate» (Za (piv 0) Zf) pt0 (λ_ _ _ _ _ _=>(Zi ZQ (dv 1) (Zg WU hr (pdv 2 (Za Zb (pv 0))) (zA _))))) Zf)))))) λS Q ex=>by
  refine kR λm=>kN ?_
  rintro⟨ds,n,hn,hm,lm,rows,h⟩;refine Xq hm ?_;refine ifD (λe=>⟨Pre.refl,.int _,h 1 (tR ())⟩) (λe=>?_);obtain⟨n,rfl⟩:∃k,n=k+1:=⟨n-1,()⟩;obtain⟨a,xs,hd,_,ha,r,rfl,lr,zr⟩:=rows _ (yQ (show 0<ds.length by lia));have hd0:ds[0]?=some (.ref a):=by rw[<- hd];exact zE ()
  refine zaB (n:=a) (xs:=r.map D.int) (S1:=S) (λd=>∃x,d=.int x/\Sz (1040*n+1031) x) (λK hK=>?_) ha (by simp;lia) (λk x hx S2 K p2 hK=>?_) λys ly hy=>?_
  .show dOp wIx (Y9 0) (dC (D.int 0)) [sR m] S λx S1=>K [x] S1
   exact A4 hm hd0 hK
  .rw[zG] at hx;obtain⟨y,hy,rfl⟩:=zP.mp hx;have hk:=(zB.mp hy).1
   have sy:=zr y (zF hy)
   show Pa j [.ref m,.int 0,.int (k:Int)] S2 (λz S3=>wMul (.int y) z S3 K) (λ_ _=>False);exact⟨ds,0,k,n,(),rfl,rfl,zZ _,(),p2 _ _ hm,lm,rows.pre p2,λz sz=>⟨ZH sy (sz.mono (show _<=6000 by lia)),hK _ ⟨_,rfl,(sy.mul sz).mono ()⟩⟩⟩
  .obtain⟨zs,rfl,bz⟩:=all_map hy;rw[zD,zD] at ly;refine LC (Zq _ _) (Pk zs) ⟨Pre.refl.push,.int _,h _ ((zar bz ()).mono ())⟩
noncomputable def zd3  (zbO:Dfz q50 Fu Pt)(WU:Fkz 8 q68 Vt zgI):Fkz 9 q50 Pt Iy:=
 mkF zbO zca (λhr=>(Ze (Zj (Zi Bj (Zi ZQ (Zi ZQ (Zg WU hr (pdv 0 (pdv 3 (pv 2)))) (dv 4)) (dv 4)) (dv 1))))) λS Q ex=>by
  refine kR λm=>kI λw=>kI λr=>kI λc=>kI λg=>kN ?_
  rintro⟨ds,i,j,n,hn,rfl,rfl,hi,hj,hm,lm,rows,hw,hg,h⟩;refine⟨ds,j,i,n,hn,rfl,rfl,hj,hi,hm,lm,rows,λx hx=>?_⟩;have e2:Sz 3121 x:=hx.mono ()
  have eg:Sz 20 g:=Sz.of 1000000 ();refine⟨ZH e2 eg,ZH (e2.mul eg) eg,⟨hw.1,hw.2.log hw.1⟩,h _ ?_⟩;exact AE ((e2.mul eg).mul eg) hw.1
noncomputable def zdC  (zhu:Dfz q63 LU Pm)(Kt:Fkz 9 q50 Pt Iy):Fkz 10 q63 Pm IC:=
 mkF zhu zea (λhr=>(Ze (Zj (Ll (x:="column") (N:=["matrix","whole","row","grid"]) (caps:=[0,1,2,3]) (ar:=Zh LU) rfl rfl csc rfl ⋯ rfl XO (Za (ZK (Z5 Y3) rfl YJ Boot.«len» (pv 0)) Zf) pt0 (λ_ _ _ _ _ _=>(Zg Kt hr (pdv 1 (pdv 2 (pdv 3 (pdv 0 (pv 4))))))))))) λS Q ex=>by
  refine kR λm=>kI λw=>kI λr=>kI λg=>kN ?_
  rintro⟨ds,i,n,hn,rfl,hi,hm,lm,rows,hw,hg,h⟩;refine zbP (j:=n+1) (S1:=S) (λd=>∃x,d=.int x/\Sz 3200 x) (λK hK=>?_) () (λk S2 K hk p2 hK=>?_) λxs lx hx=>?_
  .refine Xq hm ?_;rw[lm];exact hK
  .exact⟨ds,i,k,n,hn,rfl,rfl,hi,(),p2 _ _ hm,lm,rows.pre p2,hw,hg,λx hx=>hK _ ⟨x,rfl,hx⟩⟩
  .obtain⟨r,rfl,zr⟩:=all_map hx;exact h _ ⟨r,rfl,by rw[<- lx,zD],zr⟩
noncomputable def zeq  (zhl:Dfz Uy Jm OH)(Mj:Fkz 10 q63 Pm IC)(Sk:Fkz 9 q32 Vh zdI):Fkz 11 Uy OH Fy:=
 mkF zhl De (λhr=>(Zd (Vw (i:=2) De.nd rfl (Or.inr rfl) (Zg Sk hr (pv 0))) (Zd (ZC (ZA (ZS hr) (dv 2) Zb (Zs _)) (Ze (Zj ZR)) ZE) (Ze (Zj (Ll (x:="row") (N:=["matrix","whole","grid"]) (caps:=[0,2,1]) (ar:=Zh Jm) rfl rfl csc rfl ⋯ rfl XO (Za (ZK (Z5 Y3) rfl YJ Boot.«len» (pv 0)) Zf) pt0 (λ_ _ _ _ _ _=>(Zg Mj hr (pdv 1 (pdv 2 (pdv 0 (pv 3)))))))))))) λS Q ex=>by
  refine kR λm=>kI λg=>kN ?_
  rintro⟨ds,n,⟨n1,n4⟩,hm,lm,rows,hg,h0,h1⟩;obtain⟨n,rfl⟩:∃k,n=k+1:=⟨n-1,()⟩;refine⟨ds,n+1,(),hm,lm,rows,λx hx=>?_⟩;refine ifD (c:=x=0) (λc=>h0) (λc=>?_);refine zbL (j:=n+1) (T0:=S) (RI 3200 (n+1)) (λK hK=>?_) () (λk S2 K hk p2 hK=>?_) (λS2 ys p2 e2 l2 r2=>h1 S2 _ ys p2 e2 l2 r2)
  .refine Xq hm ?_;rw[lm];exact hK
  .exact⟨ds,k,n,(),rfl,(),p2 _ _ hm,lm,rows.pre p2,⟨c,hx.mono ()⟩,hg,λxs hx=>hK _ _ _ Pre.refl.push (zA _) (Zq _ _) hx⟩
noncomputable def Be  (zc5:Dfz VY Ie T9):Fkz 1 VY T9 LM:=
 mkF zc5 zeo (λhr=>(Ze (Zj (Zi Sv (Zi Z4 (piv 0) (piv 0)) Zb)))) λS Q ex=>by
  refine kP λ_ _=>kN λh=>?_
  exact h
noncomputable def zaS  (zgR:Dfz q98 Kl SV)(Tc:Fkz 1 VY T9 LM):Fkz 2 q98 SV Lb:=
 mkF zgR zah (λhr=>(Ze (Zj (Xr (x:="span") (N:=[]) (caps:=[]) (ar:=Zh Kl) rfl rfl csc rfl ⋯ (dv 0) pt0 (λ_ _ _ _ _ _=>(Zg Tc hr (pv 0))))))) λS Q ex=>by
  refine kR λs=>kN ?_
  rintro⟨vs,hs,l9,h⟩;refine XN (n:=s) (S1:=S) (o:=.lst (vs.map frD)) (λd=>match d with|.tup [.int a,.int b]=>.int ((a+b)/2)|_=>.non) kId hs (by show (vs.map frD).length<=1000;rw[zD];lia) (λx hx S2 K pr hK=>?_) ?_
  .have hx':x∈vs.map frD:=hx;obtain⟨p,_,rfl⟩:=zL.mp hx';exact hK
  .have e2:(Zk (.lst (vs.map frD))).map (λd=>match d with|.tup [.int a,.int b]=>.int ((a+b)/2)|_=>.non)=vs.map λp=>D.int (mid p):=by
    show (vs.map frD).map _=_;rw[yF];rfl
   rw[e2];exact h
noncomputable def zgk  (zfr:Dfz q27 Mu UX)(U7:Fkz 2 q98 SV Lb):Fkz 3 q27 UX Oy:=
 mkF zfr zdc (λhr=>(Ze (Zj (Xr (x:="place") (N:=[]) (caps:=[]) (ar:=Zh Mu) rfl rfl csc rfl ⋯ (Zg U7 hr (pv 0)) pt0 (λ_ _ _ _ _ _=>(Zz (pdv 0 (pv 0)))))))) λS Q ex=>by
  refine kR λb=>kN ?_
  rintro⟨vs,hb,l9,h⟩;refine XN (n:=S.length) (S1:=S++[.lst (vs.map λp=>.int (mid p))]) (o:=.lst (vs.map λp=>.int (mid p))) (λd=>.tup [d,d]) (λK hK=>⟨vs,hb,l9,hK⟩) (Zq _ _) (by show (vs.map _).length<=1000;rw[zD];lia) (λx hx S2 K pr hK=>by exact hK) ?_;refine h _ _ Pre.refl.push.push (by simp) ?_;have e:(Zk (.lst (vs.map λp=>D.int (mid p)))).map (λd=>D.tup [d,d])=(vs.map ZN).map frD:=by
   show (vs.map λp=>D.int (mid p)).map _=_;rw[yF];rw[yF];rfl
  rw[e];exact Zq _ _
noncomputable def AG  (zeY:Dfz q29 DE Sl)(YK:Fkz 1 q31 Wi Vv)(Xn:Fkz 2 q45 VM Su):Fkz 3 q29 Sl LB:=
 mkF zeY Pu (λhr=>(Zd (Zm (i:=3) Pu.nd (Zz (Za Zb (Za Zb Zf)))) (Zd (zhQ (is:=[4,5]) PassesOwn.never rfl Pu.nd (Nms.cons (i:=4) rfl (Or.inl rfl) (by first|exact .inl rfl|exact .inr rfl) (Nms.cons (i:=5) rfl (Or.inl rfl) (by first|exact .inl rfl|exact .inr rfl) Nms.nil)) rfl rfl VW Boot.«zip» (pdv 0 (pv 1)) (Ze (Zm (i:=3) Pu.nd (Zg YK hr (pdv 3 (Za (Zg Xn hr (pdv 4 (pdv 5 (pv 2)))) Zf)))))) (Ze (Zj (dv 3)))))) λS Q ex=>by
  refine kR λa=>kR λb=>kI λg=>kN ?_
  rintro⟨us,vs,ha,hb,l6,z1,z2,hg,h⟩;have sg:Sz 21 g:=Sz.of 1000000 ();refine zc3 (n:=a) (n':=b) (xs:=us.map frD) (ys:=vs.map frD) (S:=S) (λk dl'=>∃u1 u2:Option D,dl'=[sR a,sR b,sI g,some (frD (sumP g (us.take k) (vs.take k))),u1,u2]) kId ha hb ⟨_,_,rfl⟩ ?_ ?_
  .rintro k x y dl' nx ct hx hy ⟨u1,u2,rfl⟩ hn;rw[zG] at hx hy;obtain⟨p,hp,rfl⟩:=zP.mp hx;obtain⟨r,hr,rfl⟩:=zP.mp hy;have zp:=z1 _ (zF hp)
   have zr:=z2 _ (zF hr);refine⟨⟨⟨ZH zp.1 zr.1,ZH zp.1 zr.2,ZH zp.2 zr.1,ZH zp.2 zr.2⟩,sg.fd ()⟩,λmn mx hc=>?_⟩;obtain⟨rfl,rfl⟩:=hc.eq;refine hn _ ⟨some (frD p),some (frD r),?_⟩;rw[QM g us vs k hp hr];rfl
  .rintro dl' ⟨u1,u2,rfl⟩;rw[zD,zD,FC];exact h
noncomputable def zhi  (zap:Dfz TC Kd Nq)(Ys:Fkz 1 q24 Wb W5)(V3:Fkz 3 q29 Sl LB):Fkz 4 TC Nq E8:=
 mkG zap Ku (λhr=>(Zd (Zm (i:=5) Ku.nd (XE (ZA (ZS hr) (dv 0) (dv 1) (Zs _)) (Zz (pdv 4 (pv 4))) (Zz (Za Zb (Za Zb Zf))))) (Zd (QT (x:="slant") (N:=["column"]) (caps:=[1]) (ar:=Zh Kd) rfl rfl csc rfl ⋯ (i:=6) Ku.nd rfl rfl (dv 3) pt0 (λ_ _ _ _ _ _=>(ZG (dv 0) (dv 1)))) (Ze (Zj (Zg Ys hr (pdv 5 (Za (Zg V3 hr (pdv 2 (pdv 6 (pv 4)))) Zf)))))))) λS Q0 ex0=>by
  refine kI λk=>kI λc=>kR λt=>kR λs=>kI λg=>kN ?_
  rintro⟨q,kn,cn,ts,R,ds,rfl,rfl,ht,hs,rows,zr,hc,l6,r6,z1,hg,h⟩;have tail:∀aO:Int×Int,aO=(if kn=cn then (g,g) else (0,0))->∀K:DK,K (frD (YR g kn cn ts R)) (S++[.lst ((R.map λr=>r.getD cn (0,0)).map frD)])->True:=λ_ _ _ _=>trivial
  have col:∀(k:Nat)(r:LI),R[k]?=some r->atI (r.map frD) ((cn:Nat):Int)=some (frD (r.getD cn (0,0))):=λk r hr=>by
   have hl:=(zr r (zF hr)).1
   have z:=Yj (vs:=r) (i:=((cn:Nat):Int)) ⟨(),by rw[hl];lia⟩;rw[z];have e:gt r ((cn:Nat):Int)=r.getD cn (0,0):=by
    have ll:cn<r.length:=by rw[hl];exact hc
    unfold gt;rw[zJ];simp[ll]
   rw[e]
  have bd:Bd 20000 (R.map λr=>r.getD cn (0,0)):=λp hp=>by
   obtain⟨r,hr,er⟩:=zL.mp hp;subst er;obtain⟨hl,b⟩:=zr r hr;have ll:cn<r.length:=by rw[hl];exact hc
   have e:r.getD cn (0,0)=r[cn]:=by simp[ll]
   rw[e];exact⟨(b _ (yQ ll)).1.mono ⋯,(b _ (yQ ll)).2.mono ⋯⟩
  have Yg:∀aO:Int×Int,aO=(if kn=cn then (g,g) else (0,0))->Gc S Q0 (.tup [.int (aO.1-(sumP g ts (R.map λr=>r.getD cn (0,0))).2),.int (aO.2-(sumP g ts (R.map λr=>r.getD cn (0,0))).1)]) (S++[.lst ((R.map λr=>r.getD cn (0,0)).map frD)]):=λaO e=>by
   subst e;exact⟨Pre.refl.push,TN,h⟩
  refine ifD (λe=>?_) (λe=>?_)
  .refine Ga (n:=s) (S1:=S) (o:=.lst ds) (λk d=>∃r,R[k]?=some r/\d=frD (r.getD cn (0,0))) kId hs (by show ds.length<=1000;rw[rows.1];lia) (λk x hx S2 K pr hK=>?_) (λxs lx hx=>?_)
   .have hx':ds[k]?=some x:=hx
    have hk:k<R.length:=by
     have:=(zB.mp hx').1;rw[rows.1] at this;exact this
    obtain⟨a,rfl,_,ha⟩:=rows.2 k x _ hx' (zE hk);refine ZI (o:=.lst _) (pr _ _ ha) (col k _ (zE hk)) ?_;exact hK _ ⟨_,zE hk,rfl⟩
   .have e2:xs=(R.map λr=>r.getD cn (0,0)).map frD:=by
     refine xX λk=>?_
     by_cases hk:k<xs.length
     .obtain⟨r,hr,e⟩:=hx k _ (zE hk);rw[zE hk,zG,zG,hr,e];rfl
     .have lx':xs.length=R.length:=by rw[lx];exact rows.1
      rw[yS (),yS (by simp;lia)]
    subst e2;refine⟨ts,_,Zu ht,Zq _ _,l6,z1,bd,hg,?_⟩;exact Yg (g,g) (by rw[if_pos ()])
  .refine Ga (n:=s) (S1:=S) (o:=.lst ds) (λk d=>∃r,R[k]?=some r/\d=frD (r.getD cn (0,0))) kId hs (by show ds.length<=1000;rw[rows.1];lia) (λk x hx S2 K pr hK=>?_) (λxs lx hx=>?_)
   .have hx':ds[k]?=some x:=hx
    have hk:k<R.length:=by
     have:=(zB.mp hx').1;rw[rows.1] at this;exact this
    obtain⟨a,rfl,_,ha⟩:=rows.2 k x _ hx' (zE hk);refine ZI (o:=.lst _) (pr _ _ ha) (col k _ (zE hk)) ?_;exact hK _ ⟨_,zE hk,rfl⟩
   .have e2:xs=(R.map λr=>r.getD cn (0,0)).map frD:=by
     refine xX λk=>?_
     by_cases hk:k<xs.length
     .obtain⟨r,hr,e⟩:=hx k _ (zE hk);rw[zE hk,zG,zG,hr,e];rfl
     .have lx':xs.length=R.length:=by rw[lx];exact rows.1
      rw[yS (),yS (by simp;lia)]
    subst e2;refine⟨ts,_,Zu ht,Zq _ _,l6,z1,bd,hg,?_⟩;exact Yg (0,0) (by rw[if_neg ()])
noncomputable def zhL  (zgT:Dfz U0 SQ P9)(YK:Fkz 1 q31 Wi Vv)(V3:Fkz 3 q29 Sl LB)(Ys:Fkz 1 q24 Wb W5)(Ju:Fkz 4 TC Nq E8)(WG:Fkz 3 q27 UX Oy):Fkz 5 U0 P9 Gi:=
 mkG zgT Uh (λhr=>(Zd (Vw (i:=6) Uh.nd rfl (Or.inr rfl) (Xr (x:="entry") (N:=[]) (caps:=[]) (ar:=Zh SQ) rfl rfl csc rfl ⋯ (dv 3) pt0 (λ_ _ _ _ _ _=>(Zz (pdv 0 (pv 0)))))) (Zd (Zm (i:=7) Uh.nd (Zg WG hr (pv 1))) (Zd (Zm (i:=8) Uh.nd (Zg Ys hr (Za (ZG (dv 7) (dv 0)) (Za (Zg V3 hr (pdv 6 (pdv 4 (pv 2)))) Zf)))) (Zd (zaI (x:="column") (N:=["k","turns","slants","grid"]) (caps:=[0,6,5,2]) (ar:=Zh SQ) rfl rfl csc rfl ⋯ (i:=9) Uh.nd rfl rfl rfl XO (Za (ZK (Z5 Y3) rfl YJ Boot.«len» (pv 1)) Zf) pt0 (λ_ _ _ _ _ _=>(Zg Ju hr (pdv 1 (pdv 0 (pdv 2 (pdv 3 (pv 4)))))))) (Zd (zhR (x1:="span") (x2:="centre") (N:=[]) (caps:=[]) (ar:=Zh SQ) rfl rfl Vf rfl rfl rfl ⋯ (i:=10) Uh.nd rfl rfl rfl VW Boot.«zip» (pdv 1 (pv 7)) (λ_ _ _ _ _ _=>(Zg Ys hr (pdv 0 (pv 1))))) (Ze (Zj (Zg YK hr (pdv 8 (Za (Zg V3 hr (pdv 9 (pdv 10 (pv 2)))) Zf))))))))))) λS Q0 ex0=>by
  refine kI λki=>kR λb=>kI λg=>kR λe=>kR λt=>kR λs=>kN ?_
  rintro⟨k,box,aA,es,R,ds,rfl,hk,he,e4,ze,hb,ht,hs,rows,zr,bl,r4,t4,zb,zt,hg,h⟩;have bdE:Bd 20000 (es.map λx=>(x,x)):=λp hp=>by
   obtain⟨x,hx,rfl⟩:=zL.mp hp;exact⟨(ze x hx).mono ⋯,(ze x hx).mono ⋯⟩
  have bdT:Bd 20000 aA:=λp hp=>⟨(zt p hp).1.mono ⋯,(zt p hp).2.mono ⋯⟩
  have lE:(es.map λx=>(x,x)).length<=60:=by rw[zD];lia
  refine XN (n:=e) (S1:=S) (o:=.lst (es.map D.int)) (λd=>.tup [d,d]) kId he (by show (es.map D.int).length<=1000;rw[zD];lia) (λx hx S2 K pr hK=>by exact hK) ?_;have eE:(Zk (.lst (es.map D.int))).map (λd=>D.tup [d,d])=(es.map λx=>(x,x)).map frD:=by
   show (es.map D.int).map _=_;rw[yF];rw[yF];rfl
  rw[eE];have T0:=Zq S (.lst ((es.map λx=>(x,x)).map frD));refine⟨box,Zu hb,(),λT m pr lm hm=>?_⟩;have P0:Pre S T:=λx o z=>pr _ _ (Zu z)
  have hT:=pr _ _ T0
  have kc:inR (((box.map ZN).length:Nat):Int) (k:Int):=⟨(),by rw[zD];lia⟩
  have ec:gt (box.map ZN) (k:Int)=ZN (gt box k):=by
   unfold gt;rw[zJ];simp[hk]
  have ac:=Yj kc;rw[ec] at ac;refine ZI (o:=.lst ((box.map ZN).map frD)) hm ac ?_;refine⟨_,aA,hT,P0 _ _ ht,lE,bdE,bdT,hg,?_⟩;have lk:∀c:Nat,c<box.length->∀(S2:Sto)(K:DK),Pre T S2->K (frD (YR g k c (es.map λx=>(x,x)) R)) S2->∃(q kn cn:Nat)(ts:LI)(R':List LI)(ds':List D),((k:Nat):Int)=(kn:Nat)/\((c:Nat):Int)=(cn:Nat)/\La S2 S.length (ts.map frD)/\La S2 s ds'/\Z9 S2 0 ds' R'/\(∀r∈R',r.length=q/\Bd 2000 r)/\cn<q/\ts.length<=60/\R'.length<=60/\Bd 20000 ts/\(Gg g)/\K (frD (YR g kn cn ts R')) S2:=λc hc S2 K p2 hK=>⟨box.length,k,c,_,R,ds,rfl,rfl,p2 _ _ hT,p2 _ _ (P0 _ _ hs),rows.pre λx o z=>p2 _ _ (P0 _ _ z),zr,hc,lE,(),bdE,hg,hK⟩
  refine Cv (j:=((box.length:Nat):Int)) (S1:=T) (λc=>frD (YR g k c (es.map λx=>(x,x)) R)) (λK hK=>by
   refine Xq (P0 _ _ hb) ?_;rw[zD];exact hK) ⟨(),()⟩ (λc hc S2 K p2 hK=>lk c () S2 K p2 hK) ?_
  rw[zJ];have eL:((List.range box.length).map λc=>frD (YR g k c (es.map λx=>(x,x)) R))=((List.range box.length).map λc=>YR g k c (es.map λx=>(x,x)) R).map frD:=by
   rw[yF];rfl
  rw[eL];have T1:=Zq T (.lst (((List.range box.length).map λc=>YR g k c (es.map λx=>(x,x)) R).map frD));refine Nf (n:=b) (n':=m) (S1:=T++[.lst (((List.range box.length).map λc=>YR g k c (es.map λx=>(x,x)) R).map frD)]) (xs:=box.map frD) (ys:=(box.map ZN).map frD) (λx y=>match x,y with|.tup [.int a,.int b],.tup [.int c,.int d]=>.tup [.int (a-d),.int (b-c)]|_,_=>.non) kId (Zu (P0 _ _ hb)) (Zu hm) (by rw[zD];lia) (λj x y hx hy S2 K p2 hK=>?_) ?_
  .rw[zG] at hx hy;obtain⟨p,hp,rfl⟩:=zP.mp hx;obtain⟨r,hr,rfl⟩:=zP.mp hy;exact hK
  have eW:List.zipWith (λx y=>match x,y with|.tup [.int a,.int b],.tup [.int c,.int d]=>.tup [.int (a-d),.int (b-c)]|_,_=>.non) (box.map frD) ((box.map ZN).map frD)=(box.map λp=>YC p (ZN p)).map frD:=by
   rw[yF,tQ,yF,List.zipWith_self];rfl
  rw[eW];have zm:Bd 62 (box.map λp=>YC p (ZN p)):=λp hp=>by
   obtain⟨x,hx,rfl⟩:=zL.mp hp;have z:=zb x hx
   have zmid:=NZ z.1 z.2;exact(IM (B:=60) (C:=61) z ⟨zmid,zmid⟩).imp (λz=>z.mono ⋯) (λz=>z.mono ⋯)
  have zl:Bd 20000 ((List.range box.length).map λc=>YR g k c (es.map λx=>(x,x)) R):=λp hp=>by
   obtain⟨c,hc,rfl⟩:=zL.mp hp;have hc':=wG.mp hc
   have bR:Bd 2000 (R.map λr=>r.getD c (0,0)):=λp hp=>by
    obtain⟨r,hr,er⟩:=zL.mp hp;subst er;obtain⟨hl,b⟩:=zr r hr;have ll:c<r.length:=by rw[hl];exact hc'
    have e:r.getD c (0,0)=r[c]:=by simp[ll]
    rw[e];exact b _ (yQ ll)
   have bE:Bd 4000 (es.map λx=>(x,x)):=λp hp=>by
    obtain⟨x,hx,rfl⟩:=zL.mp hp;exact⟨ze x hx,ze x hx⟩
   have z:=zaM hg.1 bE bR lE
   have sg:Sz 21 g:=Sz.of 1000000 ();unfold YR;have w:Sz 21 (if k=c then (g,g) else (0,0)).1/\Sz 21 (if k=c then (g,g) else (0,0)).2:=by
    split
    .exact⟨sg,sg⟩
    .exact⟨yR ⋯,yR ⋯⟩
   exact(IM w z).imp (λz=>z.mono ⋯) (λz=>z.mono ⋯)
  refine⟨_,_,Zu T1,Zq _ _,by rw[zD,wF];lia,zl,λp hp=>⟨(zm p hp).1.mono ⋯,(zm p hp).2.mono ⋯⟩,hg,?_⟩;exact⟨λx o z=>Zu (Zu (P0 _ _ z)),TN,h⟩
noncomputable def BB  (zaX:Dfz Up Lf R7)(Je:Fkz 5 U0 P9 Gi):Fkz 6 Up R7 JK:=
 mkF zaX zem (λhr=>(Ze (Zj (MS (x1:="k") (x2:="entries") (N:=["box","grid","thin","slants"]) (caps:=[0,1,3,4]) (ar:=Zh Lf) rfl rfl Vf rfl rfl rfl ⋯ rfl X3 Boot.«enumerate» (pv 2) pt0 (λ_ _ _ _ _ _=>(Zg Je hr (pdv 0 (pdv 2 (pdv 3 (pdv 1 (pdv 4 (pv 5)))))))))))) λS Q ex=>by
  refine kR λb=>kI λg=>kR λu=>kR λt=>kR λs=>kN ?_
  rintro⟨box,aA,M,ms,R,ds,hu,mi,lM,zM,hb,ht,hs,rows,zr,bl,r4,t4,zb,zt,hg,h⟩;refine BS (n:=u) (S1:=S) (xs:=ms) (λk d=>frD (Yw g box aA R k (M.getD k []))) kId hu (by rw[mi.1];lia) (λk x hx S2 K pr hK=>?_) ?_
  .have hk:k<M.length:=by
    have:=(zB.mp hx).1;rw[mi.1] at this;exact this
   obtain⟨a,rfl,ha⟩:=mi.2 k x _ hx (zE hk);have eM:M.getD k []=M[k]:=by simp[hk]
   rw[eM] at hK;have z:=zM _ (yQ hk);exact⟨k,box,aA,M[k],R,ds,rfl,(),pr _ _ ha,z.1,z.2,pr _ _ hb,pr _ _ ht,pr _ _ hs,rows.pre pr,zr,bl,r4,t4,zb,zt,hg,hK⟩
  .have e:(ms.mapIdx λk d=>frD (Yw g box aA R k (M.getD k [])))=(M.mapIdx λk es=>Yw g box aA R k es).map frD:=by
    refine xX λk=>?_
    rw[uQ,zG,uQ];by_cases hk:k<M.length
    .rw[zE (show k<ms.length by rw[mi.1];exact hk),zE hk];simp[hk]
    .rw[yS (by rw[mi.1];lia),yS (show M.length<=k by lia)];rfl
   rw[e];exact h
noncomputable def zfV  (zgt:Dfz q64 G0 Ou)(Tu:Fkz 1 VI Rc Mf)(Yn:Fkz 4 q23 XU Wo)(WG:Fkz 3 q27 UX Oy):Fkz 5 q64 Ou GN:=
 mkF zgt zbJ (λhr=>(Ze (Zj (Zg Tu hr (Za (Zg Yn hr (pdv 0 (Za (Zg WG hr (pv 2)) (pv 3)))) (pv 1)))))) λS Q ex=>by
  refine kR λa=>kR λp=>kR λb=>kI λg=>kN ?_
  rintro⟨ns,ws,bs,is,ha,hb,net,sb,hg,l7,b9,hp,i9,hi,h⟩;refine⟨bs,hb,b9,λT m pr lm hm=>?_⟩;refine⟨ns,ws,bs.map ZN,pr _ _ ha,hm,by rw[zD];exact net,QP sb,hg,l7,λT1 m1 pr1 lm1 h1=>?_⟩;refine⟨_,is,h1,pr1 _ _ (pr _ _ hp),i9,λi him=>by rw[zD,YU];exact hi i him,?_⟩;have e:(is.map λi=>((Zo (bs.map ZN) g ns).map frD).getD i .non)=(is.map λ(i:Nat)=>gt (Zo (bs.map ZN) g ns) i).map frD:=by
   rw[yF];refine vT λi him=>?_
   have hl:i<(Zo (bs.map ZN) g ns).length:=by rw[YU];exact hi i him
   show _=frD (gt (Zo (bs.map ZN) g ns) (i:Int));unfold gt;rw[zJ];simp[hl]
  rw[e];refine h _ _ (λx o z=>Zu (pr1 _ _ (pr _ _ z))) ?_ (Zq _ _);have:=Y0 pr
  have:=Y0 pr1;lia
noncomputable def Ay  (zgb:Dfz "deep" Fn Qp):Fkz 1 "deep" Qp HZ:=
 mkF zgb zgG (λhr=>(Ze (Zj (SF (Yt Yz (piv 1) (piv 0) (Zs _)) (Ux (Yt Yz (piv 0) (piv 1) (Zs _))))))) λS Q ex=>by
  refine kP λ_ _=>kP λ_ _=>kN λh=>?_
  refine ifD (λe=>?_) (λe=>?_)
  .rw[decide_eq_true e,wV] at h;exact h
  .rw[decide_eq_false e,xY] at h;exact h
noncomputable def zbM  (zf4:Dfz Th Mh Ow)(Jb:Fkz 1 "deep" Qp HZ):Fkz 2 Th Ow Ht:=
 mkG zf4 zhI (λhr=>(Ze (Zj (ZK (Z5 (PR rfl)) rfl UL Boot.«all» (Za (Kk (x1:="new") (x2:="old") (N:=[]) (caps:=[]) (ar:=Zh Mh) rfl rfl Vf rfl rfl rfl ⋯ rfl VW Boot.«zip» (pdv 0 (pv 1)) (λ_ _ _ _ _ _=>(Zg Jb hr (pdv 0 (pv 1))))) Zf))))) λS Q0 ex0=>by
  refine kR λm=>kR λn=>kN ?_
  rintro⟨us,vs,h1,h2,hl,h⟩;refine Nf (n:=m) (n':=n) (S1:=S) (xs:=us.map frD) (ys:=vs.map frD) (λx y=>match x,y with|.tup [.int a,.int b],.tup [.int c,.int d]=>.bl (decide (c<a)&&decide (b<d))|_,_=>.non) kId h1 h2 (by rw[zD];exact hl) (λk x y hx hy S2 K pr hK=>?_) ?_
  .obtain⟨p,_,rfl⟩:=zL.mp (zF hx);obtain⟨q,_,rfl⟩:=zL.mp (zF hy);exact hK
  .refine QX (n:=S.length) (o:=.lst _) (bs:=List.zipWith V4 us vs) (Zq _ _) (zhh us vs) ?_;exact⟨Pre.refl.push,.bl _,h⟩
noncomputable def zbw  (zc2:Dfz q38 Jz OK)(Ut:Fkz 1 "sure" SR Kw):Fkz 2 q38 OK FO:=
 mkG zc2 ze3 (λhr=>(Ze (Zj (ZK (Z5 (PR rfl)) rfl UL Boot.«all» (Za (Xr (x:="row") (N:=["spans"]) (caps:=[1]) (ar:=Zh Jz) rfl rfl csc rfl ⋯ (dv 0) (λ_ _ _ _ _ _=>SI (ZA (ZS hr) (piv 0) ZU (Zs _))) (λ_ _ _ _ _ _=>(Zg Ut hr (Za (piv 0) (Za (ZG (dv 1) (piv 0)) Zf))))) Zf))))) λS Q0 ex0=>by
  refine kR λr=>kR λs=>kN ?_
  rintro⟨rows,vs,hr,hs,l9,hi,h⟩;refine Q3 (n:=r) (S1:=S) (o:=.lst (rows.map rwD)) (λd=>match d with|.tup [.str w,.int at']=>if w="least" then some (.bl (decide (0<=(gt vs at').1))) else none|_=>none) kId hr (by show (rows.map rwD).length<=1000;rw[zD];lia) (λx hx S2 K pr hK=>?_) (λx hx y hy S2 K pr hK=>?_) ?_
  .have hx':x∈rows.map rwD:=hx;obtain⟨⟨b,n⟩,_,rfl⟩:=zL.mp hx';cases b
   .exact hK
   .exact hK
  .have hx':x∈rows.map rwD:=hx;obtain⟨⟨b,n⟩,hm,rfl⟩:=zL.mp hx';cases b
   .cases hy;refine ZI (o:=.lst (vs.map frD)) (pr _ _ hs) (Yj (vs:=vs) (i:=(n:Int)) ⟨(),by have:=hi _ hm;dsimp only at this;lia⟩) ?_;exact .inr ⟨rfl,hK⟩
   .exact absurd hy (by
     simp[rwD];intro z;exact absurd z ⋯)
  .refine QX (n:=S.length) (o:=.lst _) (Zq _ _) (NP vs rows) ?_;exact⟨Pre.refl.push,.bl _,h _⟩
noncomputable def Bg  (zdj:Dfz "alone" Mq Ni)(KH:Fkz 2 Th Ow Ht)(Kq:Fkz 6 Up R7 JK)(Mc:Fkz 5 q64 Ou GN)(MH:Fkz 11 Uy OH Fy)(U7:Fkz 2 q98 SV Lb)(LJ:Fkz 6 q93 Po DX)(Kp:Fkz 2 q38 OK FO)(Yn:Fkz 4 q23 XU Wo)(Jo:Fkz 1 q37 Ox Gp):Fkz 12 "alone" Ni IH:=
 mkF zdj RA (λhr=>(Zd (Zm (i:=4) RA.nd (Zg Jo hr (pv 1))) (Zd (ZC (PDW.pt (RS (ZA (DS hr) (ZK (Z5 Y3) rfl YJ Boot.«len» (pv 4)) (ZK (Z5 Y3) rfl YJ Boot.«len» (pv 2)) (Zs _)) (PL (UM (Y7 (Zg Kp hr (pdv 1 (Za (Zg Yn hr (pdv 0 (pdv 2 (pv 3)))) Zf)))))))) (Ze (Zj ZR)) ZE) (Zd (Zm (i:=5) RA.nd (Zg LJ hr (pdv 0 (pdv 4 (pdv 2 (pv 3)))))) (Zd (Zm (i:=6) RA.nd (Zg MH hr (Za (Xr (x:="slant") (N:=[]) (caps:=[]) (ar:=Zh Mq) rfl rfl csc rfl ⋯ (dv 5) pt0 (λ_ _ _ _ _ _=>(Zg U7 hr (pv 0)))) (pv 3)))) (Zd (ZC (ZA YO (dv 6) ZR (Zs _)) (Ze (Zj ZR)) ZE) (Zd (Zm (i:=7) RA.nd (Zg Kq hr (pdv 2 (pdv 3 (pdv 6 (Za (Zg Mc hr (pdv 0 (pdv 4 (pdv 2 (pv 3))))) (pv 5))))))) (Zd (ZC (UM (Y7 (Zg KH hr (pdv 7 (pv 2))))) (Ze (Zj ZR)) ZE) (Ze (Zj (Zz (pdv 6 (pv 7))))))))))))) λS Q ex=>by
  refine kR λa=>kR λr=>kR λb=>kI λg=>kN ?_
  rintro⟨ns,ws,bs,rows,ha,hb,net,sb,hg,l7,b9,hr,r9,hi,bl,hN,hY⟩;have hi':∀i∈eqs rows,i<ns.length:=λi him=>hi _ (JG him)
  refine⟨rows,hr,r9,?_⟩;have P0:Pre S (S++[Ob.lst ((eqs rows).map wtD)]):=Pre.refl.push
  have hp:=Zq S (.lst ((eqs rows).map wtD));refine Xq hp ?_;refine Xq (P0 _ _ hb) ?_;rw[zD,zD];refine ifN (λc=>YA (hN _ P0)) (λc=>?_);have lq:(eqs rows).length=bs.length:=by lia
  refine⟨ns,ws,bs,P0 _ _ ha,P0 _ _ hb,net,sb,hg,l7,λT1 m1 p1 lm1 h1=>?_⟩;have P1:Pre S T1:=λx o z=>p1 _ _ (P0 _ _ z)
  refine⟨rows,Zo bs g ns,P1 _ _ hr,h1,r9,λr hr=>by rw[YU];exact hi r hr,λb=>?_⟩;cases b
  .exact YA (hN _ P1)
  refine YB ?_;refine⟨ns,ws,bs,eqs rows,P1 _ _ ha,P1 _ _ hb,net,sb,hg,l7,b9,p1 _ _ hp,(),hi',λT2 m2 ds p2 lm2 h2 rowsP=>?_⟩;have P2:Pre S T2:=λx o z=>p2 _ _ (P1 _ _ z)
  have hp2:=p2 _ _ (p1 _ _ hp)
  have ld:ds.length=(eqs rows).length:=by rw[rowsP.1,zD]
  have rowsT:=zeV rowsP (Dn net sb hg hi');refine Fp (n:=m2) (T0:=T2) (RF 1023 bs.length) (RI 1024 bs.length) kId h2 rowsT () (λa xs S2 K hx ha hK=>?_) (λS2 ys y1 y2 y3 y4=>?_)
  .obtain⟨r,rfl,lr,br⟩:=hx;refine⟨r,ha,(),hK _ _ _ Pre.refl.push (zA _) (Zq _ _) ⟨r.map mid,by rw[yF];rfl,by rw[zD];exact lr,λx hx=>?_⟩⟩;obtain⟨p,hp,rfl⟩:=zL.mp hx;exact NZ (br p hp).1 (br p hp).2
  have P3:Pre S S2:=λx o z=>y1 _ _ (P2 _ _ z)
  refine⟨ys,bs.length,bl,y2,(),y4,hg,hN _ P3,λT4 k4 es p4 e4 l4 r4=>?_⟩;have P4:Pre S T4:=λx o z=>p4 _ _ (P3 _ _ z)
  refine⟨ns,ws,bs,eqs rows,P4 _ _ ha,P4 _ _ hb,net,sb,hg,l7,b9,p4 _ _ (y1 _ _ hp2),(),hi',λT5 m5 p5 lm5 h5=>?_⟩;have P5:Pre S T5:=λx o z=>p5 _ _ (P4 _ _ z)
  obtain⟨M,rM,zM⟩:=G3 (r4.pre p5);have lM:M.length=bs.length:=by rw[<- rM.1];exact l4
  refine⟨bs,Rh g bs ns rows,M,es,RB g bs ns rows,ds,p5 _ _ e4,rM,lM,λr hr=>⟨by have:=(zM r hr).1;lia,λx hx=>((zM r hr).2 x hx).mono ⋯⟩,P5 _ _ hb,h5,p5 _ _ (p4 _ _ (y1 _ _ h2)),rowsP.pre λx o z=>p5 _ _ (p4 _ _ (y1 _ _ z)),zeC net sb hg hi',bl,by unfold RB;rw[zD];lia,by unfold Rh;rw[zD];lia,λp hp=>⟨(sb p hp).2.1.mono ⋯,(sb p hp).2.2.mono ⋯⟩,zfo net sb hg hi',hg,?_⟩;refine⟨We g bs ns rows M,bs,Zq _ _,Zu (P5 _ _ hb),by unfold We;rw[tM];lia,?_⟩;cases eD:Pe (We g bs ns rows M) bs
  .exact YA (hN _ (Xb P5 _))
  .refine YB (hY _ _ _ M (Xb P5 _) (Y0 P5) (Zq _ _) ⟨lq,lM,λes he=>(zM es he).1,λk es hk=>?_⟩);have hl:=(zB.mp hk).1
   have eb:=zE (show k<bs.length by lia);rw[XZ eb];exact zf8.mp eD k _ _ (by unfold We;rw[uQ,hk];rfl) eb
noncomputable def zbN  (zgF:Dfz q65 FJ O0)(TH:Fkz 5 VF Ss Jl)(Yn:Fkz 4 q23 XU Wo)(WG:Fkz 3 q27 UX Oy)(Ki:Fkz 12 "alone" Ni IH):Fkz 13 q65 O0 Hw:=
 mkF zgF K7 (λhr=>(Zd (Zm (i:=5) K7.nd (Zg Ki hr (pdv 0 (pdv 1 (pdv 2 (pv 3)))))) (Zd (ZC (ZA YO (dv 5) ZR (Zs _)) (Ze (Zj ZR)) ZE) (Zd (Zm (i:=6) K7.nd (Zg Yn hr (pdv 0 (Za (Zg WG hr (pv 2)) (pv 3))))) (Ze (Zj (Zz (Za ZU (Za (piv 5) (Za (piv 5) (pdv 4 (pdv 6 (Za (Zg TH hr (pdv 0 (pdv 2 (pv 3)))) Zf))))))))))))) λS Q ex=>by
  refine kR λnd=>kR λrw=>kR λbx=>kI λg=>kR λsp=>kN ?_
  rintro⟨u,ns,ws,rows,e,R,hb,lu,se,hn,hy⟩;have net':ZD ((e.length:Nat):Int) ns ws:=by rw[lu];exact R.net
  have u4:=R.u1
  have r4:=R.rl;refine⟨ns,ws,e,rows,R.nd,hb,net',se,R.hg,R.l70,(),R.rw,(),R.ri,(),hn,λT _ k M p lk hk ha=>?_⟩
  .refine⟨e,p _ _ hb,(),λT2 m2 p2 l2 h2'=>?_⟩;have P2:Pre S T2:=λx o z=>p2 _ _ (p _ _ z)
   refine⟨ns,ws,e.map ZN,P2 _ _ R.nd,h2',by rw[zD];exact net',QP se,R.hg,R.l70,λT3 m3 p3 l3 h3'=>?_⟩;have P3:Pre S T3:=λx o z=>p3 _ _ (P2 _ _ z)
   refine⟨ns,ws,e,P3 _ _ R.nd,P3 _ _ hb,net',se,(),R.hg,R.l70,λT4 m4 ds p4 l4 h4' _=>?_⟩;exact hy _ _ _ _ _ _ _ ⟨M,ha,rfl⟩ (λx o z=>p4 _ _ (P3 _ _ z)) lk (p4 _ _ (p3 _ _ (p2 _ _ hk)))
noncomputable def zhy  (Az:Dfz UH GA Qo)(WE:Fkz 3 WR Td Qs)(N6:Fkz 13 q65 O0 Hw)(N5:Fkz 6 q56 PC EZ)(Yn:Fkz 4 q23 XU Wo):Fkz 14 UH Qo J3:=
 mkF Az Oh (λhr=>(Zd (Zm (i:=5) Oh.nd (Zg Yn hr (pdv 0 (pdv 2 (pv 3))))) (Zd (Zm (i:=6) Oh.nd (Zg N5 hr (pdv 0 (pdv 1 (pdv 2 (pdv 3 (pv 5))))))) (Zd (ZC (ZA YO (dv 6) ZR (Zs _)) (Ze (Zm (i:=6) Oh.nd (Zg N6 hr (pdv 0 (pdv 1 (pdv 2 (pdv 3 (pv 5)))))))) ZE) (Zd (ZC (PDW.pt (Dd (ZA YO (dv 6) ZR (Zs _)) (HY (ZA VR (Zg WE hr (pv 2)) (dv 4) (Zs _))))) (Ze (Zj (Zz (Za ZU Zf)))) ZE) (Ze (Zj (dv 6)))))))) λS Q ex=>by
  refine kR λnd=>kR λrw=>kR λbx=>kI λg=>kI λfine=>kN ?_
  rintro⟨u,ns,ws,rows,e,R,hb,lu,se,hf,hn⟩;have net':ZD ((e.length:Nat):Int) ns ws:=by rw[lu];exact R.net
  have u4:=R.u1;refine⟨ns,ws,e,R.nd,hb,net',se,R.hg,R.l70,λT m p l hm=>?_⟩;have R1:=R.pre p;refine⟨u,ns,ws,rows,e,R1,p _ _ hb,lu,se,hm,λT2 k m2 row p2 l2 hr ib h2=>?_,λnb su T2 p2=>?_,λnb su T2 p2=>?_⟩
  .have:=Y0 p;exact hf T2 (.out k _) _ (λx o z=>p2 _ _ (p _ _ z)) ⟨row,hr,rfl,ib⟩ λa b ha hb'=>⟨m2,rfl,(),(),h2⟩
  .exact hf T2 (.full _) _ (λx o z=>p2 _ _ (p _ _ z)) ⟨rfl,nb,su⟩ λa b ha hb'=>⟨m,rfl,(),(),p2 _ _ hm⟩
  .have P2:Pre S T2:=λx o z=>p2 _ _ (p _ _ z)
   refine⟨u,ns,ws,rows,e,R.pre P2,P2 _ _ hb,lu,se,λT3 p3=>?_,λT3 vs k d1 d3 d4 d5 ha p3 lk hk=>?_⟩
   .have P3:Pre S T3:=λx o z=>p3 _ _ (P2 _ _ z)
    refine⟨e,P3 _ _ hb,(),λw T4 p4 hw=>?_⟩;have P4:Pre S T4:=λx o z=>p4 _ _ (P3 _ _ z)
    refine ifD (λc=>?_) (λc=>?_)
    .exact hf T4 .small _ P4 ⟨λq hq=>xA (hw.1 q hq) c,nb,su⟩ λ_ _ _ _=>rfl
    .rcases hw.2 with ⟨z,_⟩|⟨q,hq,z⟩
     .rw[z] at lu;exact absurd lu (by show ¬ (0=u);lia)
     .exact hn T4 P4 ⟨q,hq,()⟩
   .exact hf T3 (.one vs) _ (λx o z=>p3 _ _ (P2 _ _ z)) ha λa b ha hb'=>⟨_,_,_,_,_,rfl,by have:=Y0 P2;lia,by have:=Y0 P2;lia,hk⟩
noncomputable def zha  (zdl:Dfz q57 EV OO)(X0:Fkz 2 q99 Ta O5):Fkz 3 q57 OO HM:=
 mkF zdl zeB (λhr=>(Ze (Zj (Yt VR (Zi ZQ Zb (ZK (Z5 (Pd rfl)) rfl UZ Boot.«sum» (Za (Zg X0 hr (pv 0)) Zf))) (Zi ZQ Zb (ZK (Z5 (Pd rfl)) rfl UZ Boot.«sum» (Za (Zg X0 hr (pv 1)) Zf))) (Zs _))))) λS Q ex=>by
  refine kR λx=>kR λy=>kN ?_
  rintro⟨bs,cs,h1,h2,s1,s2,l1,l2,h⟩;obtain⟨a1,a2,_⟩:=QG s1;obtain⟨b1,b2,_⟩:=QG s2;have z4:Sz 60 (4:Int):=Sz.of (10^3) ()
  have z3:Sz 60 (3:Int):=Sz.of (10^3) ()
  have z1:Sz 60 (Wz bs):=by unfold Sz;lia
  have z2:Sz 60 (Wz cs):=by unfold Sz;lia
  refine⟨bs,h1,(),?_⟩;refine LC (n:=S.length) (Zq _ _) (Pk (bs.map wd)) ?_;refine⟨ZH z4 z1,?_⟩;refine⟨cs,Zu h2,(),?_⟩;refine LC (Zq _ _) (Pk (cs.map wd)) ?_;refine⟨ZH z3 z2,?_⟩;exact h _ λi o z=>Zu (Zu z)
noncomputable def za0  (Aw:Dfz q30 Ey Oa)(Wd:Fmz 2 Zn.C "part" RD KO)(Tc:Fkz 1 VY T9 LM)(X0:Fkz 2 q99 Ta O5)(WE:Fkz 3 WR Td Qs):Fkz 4 q30 Oa Ej:=
 mkF Aw MV (λhr=>(Zd (Zm (i:=2) MV.nd (ZG (ZL Zn.cl Zn.n_boxes (dv 0)) (dv 1))) (Zd (Zm (i:=3) MV.nd (Gf (k:=1) hr ⋯ (Zg X0 hr (pv 2)) (Za (Zg WE hr (pv 2)) Zf))) (Ze (Y1 (XI (C:=Zn.C) (dv 0) Zn.cl Wd.m Wd.ok (rmn hr) Wd.b YE (pdv 1 (pdv 3 (Za (Zg Tc hr (Za (ZG (dv 2) (dv 3)) Zf)) Zf))))))))) λS Q ex=>by
  refine kR λn=>kI λi=>kN ?_
  rintro⟨a,b,j,es,fs,e,B,rfl,he,l4,ne,l9,h⟩;obtain⟨bs,m,h1,h2,o⟩:=B.box he;refine ZM (n:=n) kId B.ins rfl ?_;refine ZI (o:=.lst bs) h1 (Yx (j:=j) h2) ?_;refine zh2 (n:=S.length) (S1:=S++[.lst ((e.map wd).map D.int)]) (zs:=e.map wd) (λv S2=>Pre S S2/\La S2 S.length ((e.map wd).map D.int)/\Wst e v) (λK hK=>⟨e,o.2.2,(),hK⟩) (λK hK=>⟨e,Zu o.2.2,(),λw T p hw=>hK _ _ ⟨λx o z=>p _ _ (Zu z),p _ _ (Zq _ _),hw⟩⟩) (Zq _ _) (λv S2 r=>⟨r.2.1,?_⟩) λv S2 k r hk=>?_
  .rcases r.2.2.2 with ⟨z,_⟩|⟨p,hp,rfl⟩
   .exact absurd z ne
   .exact zL.mpr ⟨p,hp,rfl⟩
  obtain⟨p,_,hw⟩:=r;rw[zG] at hk;obtain⟨s,hs,rfl⟩:=zP.mp hk;have lk:=(zB.mp hs).1
  have B2:=B.pre p
  have hs2:atI (e.map frD) (k:Int)=some (frD s):=Yx (j:=k) (by rw[zG,hs];rfl);refine Xi (n:=n) kId B2.ins rfl ?_;refine ZI (o:=.lst (e.map frD)) (p _ _ o.2.2) hs2 ?_;exact⟨a,b,j,k,es,fs,e,s,B2,rfl,rfl,he,hs,l4,l9,λT B3 cg=>h T k s hs hw B3 ((Cg.pre p).trans cg)⟩
noncomputable def zcg  (CY:Dfz "look" Ii ND)(YH:Fmz 1 Zn.C W8 Ts RX)(NL:Fkz 3 q57 OO HM)(JF:Fkz 4 q30 Oa Ej)(K5:Fkz 14 UH Qo J3)(Ke:Fkz 11 "shave" QK Dv):Fkz 15 "look" ND JQ:=
 mkF CY Rn (λhr=>(Zd (Zm (i:=6) Rn.nd (ZG (ZL Zn.cl Zn.n_boxes (dv 0)) (dv 5))) (Zd (Zm (i:=5) Rn.nd (Zg Ke hr (pdv 0 (pdv 1 (pdv 2 (pdv 3 (pv 5))))))) (Zd (ZC (ZA Jk (ZG (ZL Zn.cl Zn.n_fates (dv 0)) (dv 5)) ZR (Zs _)) (Ze zan) ZE) (Zd (Zm (i:=7) Rn.nd (ZG (ZL Zn.cl Zn.n_boxes (dv 0)) (dv 5))) (Zd (Zm (i:=8) Rn.nd (Zg K5 hr (pdv 1 (pdv 2 (pdv 7 (pdv 3 (pv 4))))))) (Ze (ZC (ZA Jk (dv 8) ZR (Zs _)) (Ze (Y1 (XI (C:=Zn.C) (dv 0) Zn.cl YH.m YH.ok (rmn hr) YH.b YE (pdv 5 (pv 8))))) (Ze (ZC (UM (Y7 (Zg NL hr (pdv 7 (pv 6))))) (Ze (Y1 (Zg JF hr (pdv 0 (pv 5))))) ZE)))))))))) λS Q ex=>by
  refine kR λn=>kR λnd=>kR λrw=>kI λg=>kI λfine=>kI λi=>kN ?_
  rintro⟨a,b,j,u,ns,ws,rows,b0,e,es,fs,B,R,A,K,sb,lb,rfl,hw,he,f1,l9,h⟩;have u4:=R.u1
  have r4:=R.rl;obtain⟨bs,m,h1,h2,o⟩:=B.box he;refine ZM (n:=n) kId B.ins rfl ?_;refine ZI (o:=.lst bs) h1 (Yx (j:=j) h2) ?_;refine⟨a,b,j,u,ns,ws,rows,b0,e,es,fs,fine,B,R,A,K,sb,lb,rfl,hw,he,(),λT es' fs' j' B' K' cg l' sh lj=>?_⟩;obtain⟨ll,oks⟩:=K.ok sb;obtain⟨ll',oks'⟩:=K'.ok sb;obtain⟨le,se⟩:=oks e (zF he);have he':=zE lj;generalize es'[j']=e' at he';obtain⟨le',se'⟩:=oks' e' (zF he');have hf':=zE (show j'<fs'.length by lia);generalize fs'[j']=f' at hf';obtain⟨ds,k1,k2,k3⟩:=B'.ft;obtain⟨d,d1,d2⟩:=k3 j' f' hf';refine ZM (n:=n) kId B'.ins rfl ?_;refine ZI (o:=.lst ds) k1 (Yx (j:=j') d1) ?_;have done:f'≠.wait->Q .non T:=λnw=>by
   refine h T es' fs' B' K' cg () ?_;by_cases c:es'.length=es.length
   .obtain⟨_,rfl⟩:=sh.2 c;exact .inr ⟨c,λz=>nw (by rw[hf'] at z;exact Option.some.inj z)⟩
   .exact .inl (by have:=sh.1;lia)
  have R':=R.cg A cg
  have la:a<T.length:=by
   obtain⟨_,z,_⟩:=B'.bx;exact Ye z
  have lb':b<T.length:=Ye k1;cases f' with
  | wait=>
   cases d2;obtain⟨bs',m',h1',h2',o'⟩:=B'.box he';refine ZM (n:=n) kId B'.ins rfl ?_;refine ZI (o:=.lst bs') h1' (Yx (j:=j') h2') ?_;refine⟨u,ns,ws,rows,e',R',o'.2.2,(),se',λT2 f d p2 fok fat=>?_,λT2 p2 big=>?_⟩
   .have B2:=B'.pre p2
    have fa:=fat a b la lb'
    have fw:f≠.wait:=λz=>by subst z;exact fok.elim
    obtain⟨xs,rfl⟩:∃xs,d=.tup xs:=by
     cases f with
     | wait=>exact fok.elim
     | cut _ _ _ _=>exact fok.elim
     | small=>exact⟨_,fa⟩
     | one _=>obtain⟨_,_,_,_,_,z,_⟩:=fa;exact⟨_,z⟩
     | out _ _=>obtain⟨_,z,_⟩:=fa;exact⟨_,z⟩
     | full _=>obtain⟨_,z,_⟩:=fa;exact⟨_,z⟩
    refine Xi (n:=n) kId B2.ins rfl ?_;refine⟨a,b,j',es',fs',f,B2,rfl,(),fa,λT3 B3 cg3=>h T3 es' _ B3 (K'.put hf' he' fok) (cg.trans ((Cg.pre p2).trans cg3)) () ?_⟩;by_cases c:es'.length=es.length
    .obtain⟨_,rfl⟩:=sh.2 c;refine .inr ⟨c,λz=>?_⟩;rw[yU ()] at z;exact fw (Option.some.inj z)
    .exact .inl (by have:=sh.1;lia)
   .have B2:=B'.pre p2;obtain⟨p,hp,wp⟩:=big;refine⟨e',e,p2 _ _ o'.2.2,p2 _ _ (o.cg cg).2.2,se',se,(),(),λT3 p3=>?_⟩;have B3:=B2.pre p3;refine ifN (λc=>?_) (λc=>?_)
    .refine⟨a,b,j',es',fs',e',B3,rfl,he',(),λz=>?_,(),λT4 k s hs ws' B4 cg4=>?_⟩
     .rw[z] at hp;cases hp
     .have w1:=ws'.1 p hp;unfold wd at w1 wp;refine h T4 _ _ B4 (K'.cut hf' he' hs () ()) (cg.trans ((Cg.pre p2).trans ((Cg.pre p3).trans cg4))) (by simp;lia) (.inl (by have:=sh.1;simp;lia))
    .refine h T3 es' fs' B3 K' (cg.trans ((Cg.pre p2).trans (.pre p3))) () (.inl ?_);have s1:=sh.1;by_cases z:es'.length=es.length
     .obtain⟨rfl,rfl⟩:=sh.2 z;rw[he] at he';cases he';have:=(QG se).2.2 p hp;lia
     .lia
  | small=>cases d2;exact done (by intro z;cases z)
  | one _=>obtain⟨_,_,_,_,_,rfl,_⟩:=d2;exact done (by intro z;cases z)
  | cut _ _ _ _=>cases d2;exact done (by intro z;cases z)
  | out _ _=>obtain⟨_,rfl,_⟩:=d2;exact done (by intro z;cases z)
  | full _=>obtain⟨_,rfl,_⟩:=d2;exact done (by intro z;cases z)
noncomputable def zg7  (zhd:Dfz "search" Ex OQ)(Se:Fmz 1 Zn.C q87 PH HP)(Mm:Fkz 15 "look" ND JQ)(RH:Fmz 6 Zn.C q85 T8 Jh)(Tq:Fmz 1 Zn.C q4 QH Dg):Fkz 16 "search" OQ JX:=
 mkF zhd RZ (λhr=>(Zd (Zm (i:=6) RZ.nd (VH ⟨Zn.makes,Tq.m.at_,Tq.m.fn,Zn.kp⟩ Tq.ok (rmn hr) rfl Zn.m Tq.b Vu (pv 2))) (Zd (Nm (i:=7) PassesOwn.never rfl RZ.nd rfl (Or.inl rfl) rfl XO (pv 5) (Zd (Zm (i:=8) RZ.nd (G4 (C:=Zn.C) (dv 6) Zn.cl RH.m RH.ok (rmn hr) RH.b YE)) (Zd (ZC (ZA YO (dv 8) ZR (Zs _)) (Ze zeh) ZE) (Ze (Y1 (Zg Mm hr (pdv 6 (pdv 0 (pdv 1 (pdv 3 (pdv 4 (pv 8)))))))))))) (Ze (Zj (G4 (C:=Zn.C) (dv 6) Zn.cl Se.m Se.ok (rmn hr) Se.b YE)))))) λS Q ex=>by
  refine kR λnd=>kR λrw=>kR λbx=>kI λg=>kI λfine=>kI λlooks=>kN ?_
  rintro⟨u,t,ns,ws,rows,b0,R,hb,lu,sb,f1,⟨k0,k8⟩,r1,ht,h⟩;have u4:=R.u1;refine⟨S,b0,rfl,rfl,hb,λU a b la lb pU B0=>⟨rfl,?_⟩⟩;have A:Apt nd rw a b:=⟨⟨by have:=Ye R.nd;lia,by have:=Ye R.nd;lia⟩,by have:=Ye R.rw;lia,by have:=Ye R.rw;lia⟩
  have RU:=R.pre pU
  have tt:=Ye ht
  have lU:S.length<U.length:=Ye B0.ins
  have back:∀ {S' T:Sto},Cg a b U S'->Pre S' T->Pre S T:=λ{S' T} cg p x o z=>p _ _ (cg.2 _ _ (by have:=Ye z;lia) (by have:=Ye z;lia) (pU _ _ z))
  refine⟨⟨(),()⟩,λk dl' S'=>(k:Int)<=looks/\∃(es:List LI)(fs:List Ft),Bk Zn.C S' S.length a b es fs/\Bks g fine ns rows b0 es fs/\Cg a b U S'/\es.length<=1+18*k/\(k=0->es=[b0]/\fs=[.wait])/\(0<k->es.length=1->fs[0]?≠some .wait)/\∃x7 x8:Option D,dl'=[sR nd,sR rw,sR bx,sI g,sI fine,sI looks,sR S.length,x7,x8],⟨(),[b0],[.wait],B0,.new,.refl,by simp,λ_=>⟨rfl,rfl⟩,λz=>absurd z (),_,_,rfl⟩,?_⟩;rintro k dl' S' ⟨hk,es,fs,B,K,cg,l9,c0,c1,x7,x8,rfl⟩;split
  .rename_i c;refine Xi (n:=S.length) kId B.ins rfl ?_;refine⟨a,b,t,es,fs,B,cg.2 _ _ () () (pU _ _ ht),(),λe he=>by rw[((K.ok sb).2 e he).1];lia,λnw T p=>?_,λi T hw p=>?_⟩
   .refine Xi (n:=S.length) kId (B.pre p).ins rfl ?_;refine⟨a,b,es,fs,B.pre p,(),λT2 ds p2 h2 en=>h T2 T.length ds es fs (back (cg.trans (.pre p)) p2) ?_ h2 en K () (λz=>absurd z ()) λ_ e1 z=>nw _ (zF z) rfl⟩;have:=Y0 p
    have:=cg.1;lia
   .have ll:=(K.ok sb).1
    have li:=(zB.mp hw).1
    have he:=zE (show i<es.length by lia);refine⟨a,b,i,u,ns,ws,rows,b0,_,es,fs,B.pre p,(RU.cg A cg).pre p,A,K,sb,lu,rfl,hw,he,f1,(),λT2 es' fs' B2 K2 cg2 l2 c2=>?_⟩;refine⟨(),es',fs',B2,K2,cg.trans ((Cg.pre p).trans cg2),(),λz=>absurd z (),λ_ e1=>?_,_,_,rfl⟩;rcases c2 with c2|⟨c2,c3⟩
    .lia
    .rw[show i=0 by lia] at c3;exact c3
  .rename_i c;refine Xi (n:=S.length) kId B.ins rfl ?_;refine⟨a,b,es,fs,B,(),λT2 ds p2 h2 en=>h T2 S'.length ds es fs (back cg p2) (by have:=cg.1;lia) h2 en K () (λz=>c0 ()) λz=>c1 ()⟩
noncomputable def zeI  (zaQ:Dfz q58 JU Qx):Fkz 1 q58 Qx HA:=
 mkF zaQ Tw (λhr=>(Zd (Zm (i:=0) Tw.nd (ZK MN rfl RN Boot.«abs» (pv 0))) (Zd (Zm (i:=1) Tw.nd (ZK MN rfl RN Boot.«abs» (pv 1))) (Zd (FT PassesOwn.never (ZA U1 (dv 1) Zb (Zs _)) (Zd (Zm (i:=2) Tw.nd (Zi Y6 (dv 0) (dv 1))) (Zd (Zm (i:=0) Tw.nd (dv 1)) (Ze (Zm (i:=1) Tw.nd (dv 2)))))) (Ze (Zj (dv 0))))))) λS Q ex=>by
  refine kI λa=>kI λb=>kN λh=>?_
  refine⟨λm dl' S'=>S'=S/\∃(x y:Int)(o:Option D),dl'=[sI x,sI y,o]/\0<=x/\0<=y/\Int.gcd x y=Int.gcd a b/\m=y.toNat,⟨(Xa b).toNat,rfl,Xa a,Xa b,none,rfl,HF a,HF b,Ep a b,rfl⟩,?_⟩;rintro m dl' S' ⟨rfl,x,y,o,rfl,hx,hy,hg,rfl⟩;refine ifD (λc'=>?_) (λc=>?_)
  .exact⟨c',⟨(x%y).toNat,by have:=Yo (a:=x) c';lia,rfl,y,x%y,_,rfl,hy,(Yo (a:=x) c').1,(zcy x y).trans hg,rfl⟩⟩
  .have c:y=0:=by lia
   subst c;have e:((Int.gcd a b:Nat):Int)=x:=by rw[<- hg,Int.gcd_zero_right];lia
   rw[e] at h;exact h
noncomputable def A1  (zfd:Dfz q52 IZ Sf)(ME:Fkz 1 q58 Qx HA):Fkz 2 q52 Sf LN:=
 mkF zfd DB (λhr=>(Zd (Zm (i:=2) DB.nd (Zg ME hr (pdv 0 (pv 1)))) (Ze (Zj (Zz (Za (Zi Xk (dv 0) (dv 2)) (Za (Zi Xk (dv 1) (dv 2)) Zf))))))) λS Q ex=>by
  refine kI λT=>kI λB=>kN ?_
  rintro⟨⟨hB,sB⟩,h⟩;obtain⟨f1,f2,f3,f4,f5,f6⟩:=zej (T:=T) (B:=B) (d:=((Int.gcd T B:Nat):Int)) () (by rw[if_neg ()]);have gp:(0:Int)<((Int.gcd T B:Nat):Int):=by lia
  have gle:((Int.gcd T B:Nat):Int)<=B:=uL hB (uV T B)
  have sg:Sz 4000 ((Int.gcd T B:Nat):Int):=by
   unfold Sz at sB ⊢;lia
  refine⟨sg.fd gp,sg.fd gp,?_⟩;have e1:T/((Int.gcd T B:Nat):Int)=T.fdiv ((Int.gcd T B:Nat):Int):=(wJ _ ()).symm
  have e2:B/((Int.gcd T B:Nat):Int)=B.fdiv ((Int.gcd T B:Nat):Int):=(wJ _ ()).symm
  have q:=h _ _ f4 f5 f6 (GP f1 f2) (by have:=GP f1 f3;lia);rw[<- e1,<- e2] at q;exact q
noncomputable def zfu  (zcp:Dfz q39 Ha O4)(TM:Fkz 2 q52 Sf LN):Fkz 3 q39 O4 DC:=
 mkF zcp IS (λhr=>(Zd (Zm (i:=1) IS.nd (Zi Z4 Zb (Zi Y6 (Zi Xk (dv 0) (Zi Yb (Zi ZQ Zb (Zi Xm Zb Zb)) Zb)) (Zi Yb (Zi Xm Zb Zb) Zb)))) (Ze (Zj (Zg TM hr (Za (Zi Yb (Zi Y6 (dv 0) (Zi Yb (Zi ZQ Zb (Zi Xm Zb Zb)) Zb)) (Zi Yb (Zi Xm Zb Zb) Zb)) (pv 1))))))) λS Q ex=>by
  refine kI λc=>kN ?_
  rintro⟨⟨c0,c1⟩,h⟩;have k9:(10:Int)^Int.toNat 9=1000000000:=rfl
  have r1:=Yo (a:=c/(2*10^Int.toNat 9-1)) (b:=10^Int.toNat 9-1) ⋯
  have r2:=Yo (a:=c) (b:=2*10^Int.toNat 9-1) ⋯
  have mo:IntMulOk 2 (10^Int.toNat 9):=ZH (m:=80) (n:=80) (Sz.of (10^20) ⋯) (Sz.of (10^20) ⋯);refine⟨mo,(Sz.of (n:=80) (i:=2*10^Int.toNat 9-1) (10^20) ⋯).fd ⋯,show (0:Int)<10^Int.toNat 9-1 by decide,mo,show (0:Int)<2*10^Int.toNat 9-1 by decide,?_⟩;refine⟨⟨show 0<1+c/(2*10^Int.toNat 9-1)%(10^Int.toNat 9-1) by lia,Sz.of (10^20) (show (1+c/(2*10^Int.toNat 9-1)%(10^Int.toNat 9-1)).natAbs<=10^20 by lia)⟩,λt b h1 h2 _ h3 h4=>h t b h1 h2 (yK h3 ?_) (xA h4 ?_)⟩
  .show (c%(2*10^Int.toNat 9-1)-(10^Int.toNat 9-1)).natAbs<=999999999;lia
  .show 1+c/(2*10^Int.toNat 9-1)%(10^Int.toNat 9-1)<=999999999;lia
noncomputable def zco  (zcD:Dfz UY Ig RY):Fkz 1 UY RY FE:=
 mkF zcD zf6 (λhr=>(Zd (ZC (ZA (zba hr) (dv 1) (dv 0) rfl) (Ze (Zj (Gf (k:=1) hr ⋯ (dv 0) (pv 1)))) ZE) (Zd (Y1 (Wv (dv 0) (dv 1))) (Ze (Zj (Zi Yb (ZK (Z5 Y3) rfl YJ Boot.«len» (pv 0)) Zb)))))) λS Q ex=>by
  refine kR λa=>kD λd=>kN ?_
  rintro⟨q,v,ns,ws,rfl,ha,l9,net,ok,h16,h⟩;have aY:∀(T:Sto)(j:Nat)(ns':List Nd)(ws':List Nat),Gr q a 1 S ns ws T ns' ws'->ns'[j]?=some v->Q (.int (j:Int)) T:=λT j ns' ws' gr hj=>by
   refine h T j ns' ws' gr (zB.mp hj).1 hj ?_ (C7 gr ok hj);rw[(gr.net.ok j v hj).2.1];exact zcb gr net ok
  obtain⟨o,e1,e2,e3⟩:=EX v ns;refine zfR (o:=o) ha e2 ?_;cases o with
  | some j=>
   refine YA ?_;refine zh3 (n:=a) (v:=v) (ns:=ns) kId kId ha e1 ?_;exact aY S j ns ws ((Gr.refl net ha).mono ⋯) (e3 j rfl)
  | none=>
   refine YB ?_;refine W4 (n:=a) (S1:=S) (xs:=ns.map Nd.d) (y:=v.d) kId ha kId (by rw[zD];lia) ?_;have hm:(S.set a (.lst (ns.map Nd.d++[v.d])))[a]?=some (.lst ((ns++[v]).map Nd.d)):=by
    rw[xI];exact YV ha
   refine Xq hm ?_;have z:=aY _ ns.length (ns++[v]) (ws++[v.wt ws]) ⟨net.snoc ok h16,⟨[v],rfl,by simp⟩,⟨_,rfl⟩,hm,by simp,λx o hx e=>Yp e (Ne.symm hx)⟩ (by simp)
   have e:(((ns++[v]).map Nd.d).length:Int)-1=(ns.length:Int):=by simp
   rw[<- e] at z;exact z
noncomputable def zhV  (zf5:Dfz q44 D1 RJ)(XX:Fkz 1 UY RY FE):Fkz 2 q44 RJ MY:=
 mkF zf5 Ws (λhr=>(Zd (Zm (i:=3) Ws.nd (Yr (Za (Zz (Za ZU (Za Zb Zf))) Zf))) (Zd (Zm (i:=4) Ws.nd (Zg XX hr (pdv 3 (Za (Zz (Za ZU (Za (piv 1) (Za (piv 1) Zf)))) Zf)))) (Zd (Sg (i:=5) PassesOwn.never rfl Ws.nd rfl (Or.inl rfl) (dv 0) (Zd (Zm (i:=6) Ws.nd (Zg XX hr (pdv 3 (Za (Zz (Za ZU (Za (piv 5) (Za (piv 5) Zf)))) Zf)))) (Ze (Zm (i:=4) Ws.nd (Zg XX hr (pdv 3 (Za (Zz (Za ZU (pdv 4 (Za (Zg XX hr (pdv 3 (Za (Zz (Za ZU (Za Zb (pv 6)))) Zf))) Zf)))) Zf))))))) (Zd (ZC (ZA Jk (dv 2) ZR (Zs _)) (Zd (Zm (i:=7) Ws.nd (Zg XX hr (pdv 3 (Za (Zz (Za ZU (Za Zb (Za Zb Zf)))) Zf)))) (Zd (Zm (i:=6) Ws.nd (Zg XX hr (pdv 3 (Za (Zz (Za ZU (Za (piv 2) (Za (piv 2) Zf)))) Zf)))) (Ze (Zm (i:=4) Ws.nd (Zg XX hr (pdv 3 (Za (Zz (Za ZU (Za (Zg XX hr (pdv 3 (Za (Zz (Za ZU (pdv 7 (pv 6)))) Zf))) (pv 4)))) Zf))))))) ZE) (Ze (Zj (Zz (pdv 3 (pv 4)))))))))) λS Q ex=>by
  refine kR λr=>kP λa b=>kD λm=>kN ?_
  rintro⟨rs,hr,ro,okA,a0,hm,h⟩;have lr:=Ye hr
  have l3:=ro.l3
  have n0:ZD (1:Nat) [Nd.unknown 0] [1]:=(ZD.nil _).snoc (v:=.unknown 0) ⟨⋯,⋯⟩ ⋯
  have s0:(S++[Ob.lst ([Nd.unknown 0].map Nd.d)])[S.length]?=some (.lst ([Nd.unknown 0].map Nd.d)):=Zq _ _;refine Vi (λdl2 S2=>∃(j:Nat)(ns:List Nd)(ws:List Nat),Gr 1 S.length 1 (S++[Ob.lst ([Nd.unknown 0].map Nd.d)]) [.unknown 0] [1] S2 ns ws/\j<ns.length/\ws.getD j 0=1/\Rp ns j (λ_=>rt (a,b))/\dl2=[sR r,some (.tup [.int a,.int b]),some m,sR S.length,sI (j:Int),none,none,none]) (λnx hx=>?_) ?_
  .exact⟨1,.number a b,[.unknown 0],[1],rfl,s0,⋯,n0,okA,show 1<=16 by decide,λT1 j1 ns1 ws1 g1 l1 v1 w1 d1=>hx _ _ ⟨j1,ns1,ws1,g1,l1,w1,Jc d1 okA.1.1,rfl⟩⟩
  rintro dl2 T1 ⟨j1,ns1,ws1,g1,l1,w1,r1,rfl⟩;have up:∀ {c:Nat} {T:Sto} {ns:List Nd} {ws:List Nat},Gr 1 S.length c (S++[Ob.lst ([Nd.unknown 0].map Nd.d)]) [.unknown 0] [1] T ns ws->Pre S T:=λ{c T ns ws} g x o z=>g.kp x o (by have:=Ye z;lia) (Zu z)
  have u0:∀ {c:Nat} {T:Sto} {ns:List Nd} {ws:List Nat},Gr 1 S.length c (S++[Ob.lst ([Nd.unknown 0].map Nd.d)]) [.unknown 0] [1] T ns ws->Rp ns 0 (λx=>x)/\0<ns.length/\ws.getD 0 0=1:=λ{c T ns ws} g=>⟨zbA.gr g ⋯,by have:=g.ln.1;simp at this;lia,g.wt n0 (i:=0) ⋯⟩
  refine X7 (λdl2 S2=>∃(c j:Nat)(ns:List Nd)(ws:List Nat),c<=10/\Gr 1 S.length c (S++[Ob.lst ([Nd.unknown 0].map Nd.d)]) [.unknown 0] [1] S2 ns ws/\j<ns.length/\ws.getD j 0<=7/\Rp ns j (λx=>fpQ (rt (a,b)) rs x)/\∃x5 x6 x7:Option D,dl2=[sR r,some (.tup [.int a,.int b]),some m,sR S.length,sI (j:Int),x5,x6,x7]) (λnx hx=>?_) ?_
  .refine Rf (n:=r) (o:=.lst (rs.map frD)) (λk dl' S'=>k<=rs.length/\∃(j:Nat)(ns:List Nd)(ws:List Nat),Gr 1 S.length (1+3*k) (S++[Ob.lst ([Nd.unknown 0].map Nd.d)]) [.unknown 0] [1] S' ns ws/\j<ns.length/\ws.getD j 0<=1+2*k/\Rp ns j (λx=>fpQ (rt (a,b)) (rs.take k) x)/\∃x5 x6 x7:Option D,dl'=[sR r,some (.tup [.int a,.int b]),some m,sR S.length,sI (j:Int),x5,x6,x7]) ⟨zZ _,j1,ns1,ws1,g1,l1,by rw[w1];exact zA _,r1,_,_,_,rfl⟩ (λk dl' S' z=>by
    obtain⟨_,j,ns,ws,g,_⟩:=z;exact up g _ _ hr) ?_ ?_
   .rintro k x dl' S' nx2 ct ex' ⟨hk,j,ns,ws,g,lj,wj,rj,x5,x6,x7,rfl⟩ hn;have ex2:(rs.map frD)[k]?=some x:=ex';rw[zG] at ex2;obtain⟨q,hq,rfl⟩:=zP.mp ex2;have hk':=(zB.mp hq).1
    have nq:=ro.nn q (zF hq)
    have gl:=g.ln
    have okQ:(Nd.number q.1 q.2).ok ns.length (1:Nat):=⟨⟨nq.1,()⟩,nq.2.1,()⟩;refine⟨1,.number q.1 q.2,ns,ws,rfl,g.nd,by simp at gl;lia,g.net,okQ,show 1<=16 by decide,λT2 j2 ns2 ws2 g2 l2 v2 w2 d2=>?_⟩;have h2:=g.trans g2
    have gl2:=h2.ln;obtain⟨z2,y2,o2⟩:=u0 h2;have p2:=Jc d2 nq.1
    have e2:ws2.getD j2 0=1:=w2;refine⟨1,.minus ((0:Nat):Int) (j2:Int),ns2,ws2,rfl,g2.nd,by simp at gl2;lia,g2.net,⟨⟨(),()⟩,⟨(),()⟩⟩,by show ws2.getD 0 0+ws2.getD ((j2:Int).toNat) 0<=16;rw[o2,zJ,e2];decide,λT3 j3 ns3 ws3 g3 l3' v3 w3 d3=>?_⟩;have h3:=h2.trans g3
    have gl3:=h3.ln
    have p3:=za3 d3 z2 p2
    have e3:ws3.getD j3 0=2:=by rw[w3];show ws2.getD 0 0+ws2.getD ((j2:Int).toNat) 0=2;rw[o2,zJ,e2]
    have g23:=g2.trans g3
    have lj3:j<ns3.length:=by have:=g23.ln.1;lia
    have ej:ws3.getD j 0=ws.getD j 0:=g23.wt g.net lj;refine⟨1,.times (j:Int) (j3:Int),ns3,ws3,rfl,g3.nd,by simp at gl3;lia,g3.net,⟨⟨(),()⟩,⟨(),()⟩⟩,by show ws3.getD ((j:Int).toNat) 0+ws3.getD ((j3:Int).toNat) 0<=16;rw[zJ,zJ,e3,ej];lia,λT4 j4 ns4 ws4 g4 l4 v4 w4 d4=>?_⟩;refine hn _ _ ⟨(),j4,ns4,ws4,(h3.trans g4).mono (),l4,?_,?_,_,_,_,rfl⟩
    .rw[w4];show ws3.getD ((j:Int).toNat) 0+ws3.getD ((j3:Int).toNat) 0<=_;rw[zJ,zJ,e3,ej];lia
    .have p4:=HW d4 (rj.gr g23 lj) p3;rw[YG hq];intro p hp;show _/\_=fpQ (rt (a,b)) (rs.take k++[q]) (rt p);rw[Br];exact p4 p hp
   .rintro dl' S' ⟨hk,j,ns,ws,g,lj,wj,rj,x5,x6,x7,rfl⟩;have e9:(Zk (.lst (rs.map frD))).length=rs.length:=by show (rs.map frD).length=_;rw[zD]
    rw[e9] at g wj rj;rw[yE] at rj;exact hx _ _ ⟨_,j,ns,ws,(),g,lj,(),rj,_,_,_,rfl⟩
  rintro dl2 S2 ⟨c,j,ns,ws,hc,g,lj,wj,rj,x5,x6,x7,rfl⟩;have gl:=g.ln;rcases hm with rfl|⟨x,y,rfl,okM,x1⟩
  .exact h S2 _ j ns ws (up g) (zA _) g.nd g.net lj (by simp at gl;lia) (rj.pol (DJ a0 okA.1.1))
  .obtain⟨z,y0,o⟩:=u0 g;refine⟨1,.power ((0:Nat):Int) 2,ns,ws,rfl,g.nd,by simp at gl;lia,g.net,⟨⟨(),()⟩,⋯,⋯⟩,by show 2*ws.getD 0 0<=16;rw[o];decide,λT2 j2 ns2 ws2 g2 l2 v2 w2 d2=>?_⟩;have h2:=g.trans g2
   have gl2:=h2.ln
   have p2:=zcK d2 z
   have e2:ws2.getD j2 0=2:=by rw[w2];show 2*ws.getD 0 0=2;rw[o]
   refine⟨1,.number x y,ns2,ws2,rfl,g2.nd,by simp at gl2;lia,g2.net,okM,show 1<=16 by decide,λT3 j3 ns3 ws3 g3 l3' v3 w3 d3=>?_⟩;have h3:=h2.trans g3
   have gl3:=h3.ln
   have p3:=Jc d3 okM.1.1
   have e3:ws3.getD j3 0=1:=w3
   have e23:ws3.getD j2 0=2:=(g3.wt g2.net l2).trans e2
   have l23:j2<ns3.length:=by have:=g3.ln.1;lia
   have wp:ws3.getD ((j2:Int).toNat) 0+ws3.getD ((j3:Int).toNat) 0=3:=by rw[zJ,zJ,e3,e23]
   refine⟨1,.plus (j2:Int) (j3:Int),ns3,ws3,rfl,g3.nd,by simp at gl3;lia,g3.net,⟨⟨(),()⟩,⟨(),()⟩⟩,by show ws3.getD ((j2:Int).toNat) 0+ws3.getD ((j3:Int).toNat) 0<=16;lia,λT4 j4 ns4 ws4 g4 l4 v4 w4 d4=>?_⟩;have h4:=h3.trans g4
   have gl4:=h4.ln
   have p4:=zes d4 (p2.gr g3 l2) p3
   have e4:ws4.getD j4 0=3:=w4.trans wp
   have g24:=g2.trans (g3.trans g4)
   have ej:ws4.getD j 0=ws.getD j 0:=g24.wt g.net lj
   have lj4:j<ns4.length:=by have:=g24.ln.1;lia
   refine⟨1,.times (j4:Int) (j:Int),ns4,ws4,rfl,g4.nd,by simp at gl4;lia,g4.net,⟨⟨(),()⟩,⟨(),()⟩⟩,by show ws4.getD ((j4:Int).toNat) 0+ws4.getD ((j:Int).toNat) 0<=16;rw[zJ,zJ];lia,λT5 j5 ns5 ws5 g5 l5 v5 w5 d5=>?_⟩;have h5:=h4.trans g5
   have gl5:=h5.ln
   have p5:=HW d5 p4 (rj.gr g24 lj);exact h T5 _ j5 ns5 ws5 (up h5) (zA _) g5.nd g5.net l5 (by simp at gl5;lia) (p5.polm (DJ a0 okA.1.1) (zdp x1 okM.1.1))
noncomputable def zbC  (zb5:Dfz q51 Fx OS):Fkz 1 q51 OS EF:=
 mkF zb5 N0 (λhr=>(Zd (Zm (i:=1) N0.nd (Zi Yb (Zi Y6 (dv 0) (Zi Yb (Zi ZQ Zb (Zi Xm Zb Zb)) Zb)) (Zi Yb (Zi Xm Zb Zb) Zb))) (Zd (Zm (i:=2) N0.nd (Zi Yb (Zi Y6 (Zi Xk (dv 0) (Zi Yb (Zi ZQ Zb (Zi Xm Zb Zb)) Zb)) (Zi Yb (Zi ZQ Zb (Zi Xm Zb Zb)) Zb)) (Zi Yb (Zi Xm Zb Zb) Zb))) (Ze (Zj (Zz (Za (ZK (Vd rfl) rfl Wf Boot.«min» (pdv 1 (pv 2))) (Za (ZK (XG rfl) rfl Y5 Boot.«max» (pdv 1 (pv 2))) Zf)))))))) λS Q ex=>by
  refine kI λc=>kN ?_
  rintro⟨⟨c0,c1⟩,h⟩;have k9:(10:Int)^Int.toNat 15=1000000000000000:=rfl
  have r1:=Yo (a:=c/(2*10^Int.toNat 15-1)) (b:=2*10^Int.toNat 15-1) ⋯
  have r2:=Yo (a:=c) (b:=2*10^Int.toNat 15-1) ⋯
  have mo:IntMulOk 2 (10^Int.toNat 15):=ZH (m:=80) (n:=80) (Sz.of (10^20) ⋯) (Sz.of (10^20) ⋯);refine⟨mo,show (0:Int)<2*10^Int.toNat 15-1 by decide,mo,(Sz.of (n:=80) (i:=2*10^Int.toNat 15-1) (10^20) ⋯).fd ⋯,mo,show (0:Int)<2*10^Int.toNat 15-1 by decide,?_⟩;have aY:∀x y:Int,x.natAbs<10^15->y.natAbs<10^15->Q (.tup [.int (if y<x then y else x),.int (if x<y then y else x)]) S:=λx y hx hy=>h _ _ (by split<;>split<;>lia) (by split<;>lia) (by split<;>lia)
  refine aY (c%(2*10^Int.toNat 15-1)-(10^Int.toNat 15-1)) (c/(2*10^Int.toNat 15-1)%(2*10^Int.toNat 15-1)-(10^Int.toNat 15-1)) ?_ ?_
  .lia
  .lia
noncomputable def zeJ  (zfT:Dfz q89 FY Rk):Fkz 1 q89 Rk Ma:=
 mkF zfT zgH (λhr=>(Zd (ZC (ZA Yz (dv 1) (ZK (Z5 Y3) rfl YJ Boot.«len» (pv 0)) (Zs _)) (Ze (Zj (Zi Y6 (ZG (dv 0) (dv 1)) (Zi Xm Zb Zb)))) ZE) (Ze (Zj Zb)))) λS Q ex=>by
  refine kR λn=>kI λk=>kN ?_
  rintro⟨ns,hn,k0,h⟩;refine Lq hn ?_;rw[zD];refine ifD (λc=>?_) (λc=>?_)
  .refine ZI (o:=.frz (ns.map D.int)) hn (J8 k0 c) ?_;exact⟨show (0:Int)<10^Int.toNat 60 by decide,h _ (Yo ⋯)⟩
  .exact h 0 ⋯
noncomputable def zdm  (zb0:Dfz UW GD QU)(Xd:Fkz 1 q89 Rk Ma)(Ji:Fkz 1 q51 OS EF)(UG:Fkz 2 q44 RJ MY)(Rw:Fkz 3 q39 O4 DC):Fkz 4 UW QU Gh:=
 mkF zb0 Xv (λhr=>(Zd (Zm (i:=1) Xv.nd (Yr Zf)) (Zd (Nm (i:=2) PassesOwn.never rfl Xv.nd rfl (Or.inl rfl) rfl XO (Za (Zi Z4 Zb (Zi Xe (Zi Sv (Zg Xd hr (pdv 0 (Za Zb Zf))) Zb) Zb)) Zf) (Zd (Zm (i:=3) Xv.nd (Zg Rw hr (Za (Zg Xd hr (pdv 0 (Za (Zi Z4 Zb (dv 2)) Zf))) Zf))) (Ze (ZC (ZA (Dk hr) (dv 3) (dv 1) rfl) (Ze (Y1 (Wv (dv 1) (dv 3)))) ZE)))) (Zd (Zm (i:=4) Xv.nd (Zg Rw hr (Za (Zg Xd hr (pdv 0 (Za Zb Zf))) Zf))) (Zd (ZC (ZA (ZS hr) (piv 4) Zb (Zs _)) (Ze (Zm (i:=4) Xv.nd (Zz (Za Zb (Za Zb Zf))))) ZE) (Zd (Zm (i:=5) Xv.nd ZR) (Zd (ZC (ZA (ZS hr) (Zi Xe (Zi Sv (Zg Xd hr (pdv 0 (Za Zb Zf))) Zb) Zb) Zb (Zs _)) (Zd (Zm (i:=5) Xv.nd (Zg Rw hr (Za (Zg Xd hr (pdv 0 (Za Zb Zf))) Zf))) (Ze (Zm (i:=5) Xv.nd (Zz (Za (Zi Z4 (ZK MN rfl RN Boot.«abs» (Za (piv 5) Zf)) (Pl zb7 rfl LV Boot.«int» (Za (Yt (ZS hr) (piv 5) Zb (Zs _)) Zf))) (Za (piv 5) Zf)))))) ZE) (Zd (Q4 (is:=[6,7]) rfl Xv.nd (Nms.cons (i:=6) rfl (Or.inl rfl) (by first|exact .inl rfl|exact .inr rfl) (Nms.cons (i:=7) rfl (Or.inl rfl) (by first|exact .inl rfl|exact .inr rfl) Nms.nil)) (Zg UG hr (pdv 1 (pdv 4 (pv 5))))) (Zd (Zm (i:=8) Xv.nd (Zg Ji hr (Za (Zg Xd hr (pdv 0 (Za Zb Zf))) Zf))) (Zd (Zm (i:=9) Xv.nd (Zi Z4 Zb (Zi Y6 (Zg Xd hr (pdv 0 (Za Zb Zf))) (Zi Yb (Zi Xm Zb Zb) Zb)))) (Ze (Zj (Zz (pdv 1 (pdv 6 (pdv 7 (pdv 8 (Za (Zi Z4 Zb (Zi Y6 (Zg Xd hr (pdv 0 (Za Zb Zf))) (Zi Xm Zb Zb))) (pdv 9 (Za (Zi Xe (Zg Xd hr (pdv 0 (Za Zb Zf))) Zb) Zf)))))))))))))))))))) λS Q ex=>by
  refine kR λn=>kN ?_
  rintro⟨ns,hn,h⟩;refine Vi (λdl2 S2=>∃rs:LP2,S2=S++[.lst (rs.map frD)]/\Ro rs/\∃x2 x3:Option D,dl2=[sR n,sR S.length,x2,x3,none,none,none,none,none,none]) (λnx hx=>?_) ?_
  .refine⟨ns,Zu hn,⋯,λc0 hc0=>?_⟩;have q0:=Yo (a:=c0/2) (b:=3) ⋯;refine⟨⟨show -(2^62)<=1+c0/2%3 by lia,show 1+c0/2%3<2^62 by lia⟩,λk dl' S'=>∃rs:LP2,S'=S++[.lst (rs.map frD)]/\rs.Nodup/\Nn rs/\rs.length<=k/\(k:Int)<=1+c0/2%3/\∃x2 x3:Option D,dl'=[sR n,sR S.length,x2,x3,none,none,none,none,none,none],⟨[],rfl,List.nodup_nil,λ_ z=>(nomatch z),zA _,(),_,_,rfl⟩,?_⟩;rintro k dl' S' ⟨rs,rfl,nd,nn,lk,kk,x2,x3,rfl⟩;split
   .rename_i c;have c':(k:Int)<1+c0/2%3:=by have c2:k<(1+c0/2%3).toNat:=c;lia
    refine⟨ns,Zu hn,show 0<=1+(k:Int) by lia,λc1 hc1=>⟨hc1,λt u h1 h2 h3 h4=>?_⟩⟩;refine E1 (r:=(t,u)) (rs:=rs) (Zq _ _) ?_;by_cases m:(t,u)∈rs
    .rw[decide_eq_true m];refine YB ?_;exact⟨rs,rfl,nd,nn,(),(),_,_,rfl⟩
    .rw[decide_eq_false m];refine YA ?_;refine W4 (n:=S.length) (xs:=rs.map frD) (y:=frD (t,u)) kId (Zq _ _) kId (by rw[zD];lia) ?_;exact⟨rs++[(t,u)],by rw[WD,xI];rfl,ES nd m,DU nn ⟨h1,h2,h3,h4⟩,by simp;lia,(),_,_,rfl⟩
   .rename_i c;exact hx _ _ ⟨rs,rfl,⟨nd,nn,()⟩,_,_,rfl⟩
  rintro dl2 S2 ⟨rs,rfl,ro,x2,x3,rfl⟩;have hn1:(S++[Ob.lst (rs.map frD)])[n]?=some (.frz (ns.map D.int)):=Zu hn
  have hr1:=Zq S (.lst (rs.map frD))
  have P1:Pre S (S++[Ob.lst (rs.map frD)]):=Pre.refl.push
  have ln:S.length<(S++[Ob.lst (rs.map frD)]).length:=by simp
  generalize S++[Ob.lst (rs.map frD)]=S1 at hn1 hr1 P1 ln;refine Vi (λdl2 S2=>S1=S2/\∃a b:Int,((1<=b/\b<=10^9)/\Int.gcd a b=1/\a.natAbs<=10^9)/\a≠0/\dl2=[sR n,sR S.length,x2,x3,some (.tup [.int a,.int b]),none,none,none,none,none]) (λnx hx=>?_) ?_
  .refine⟨ns,hn1,⋯,λc hc=>⟨hc,λt b h1 h2 h3 h4=>?_⟩⟩;refine ifD (c:=t=0) (λz=>hx _ _ ⟨rfl,7,1,⋯,⋯,rfl⟩) (λz=>hx _ _ ⟨rfl,t,b,⟨⟨h1,()⟩,h2,()⟩,z,rfl⟩)
  rintro dl2 S2 ⟨rfl,a,b,okA,a0,rfl⟩;refine Vi (λdl2 S2=>S1=S2/\∃m:D,(m=.non\/∃x y:Int,m=.tup [.int x,.int y]/\((1<=y/\y<=10^9)/\Int.gcd x y=1/\x.natAbs<=10^9)/\1<=x)/\dl2=[sR n,sR S.length,x2,x3,some (.tup [.int a,.int b]),some m,none,none,none,none]) (λnx hx=>?_) ?_
  .refine⟨ns,hn1,⋯,λc hc=>ifD (λz=>⟨ns,hn1,⋯,λc2 hc2=>⟨hc2,λt b h1 h2 h3 h4=>?_⟩⟩) (λ_=>hx _ _ ⟨rfl,.non,.inl rfl,rfl⟩)⟩;have aY:∀x:Int,x=Xa t+(if t=0 then 1 else 0)->((1<=b/\b<=10^9)/\Int.gcd x b=1/\x.natAbs<=10^9)/\1<=x:=λx ex=>by
    by_cases z:t=0
    .subst z;have e:x=1:=ex;subst e;exact⟨⟨⟨h1,()⟩,by simp,⋯⟩,⋯⟩
    .rw[if_neg z,Int.add_zero] at ex;have g2:Int.gcd x b=1:=by
      rw[ex,<- h2];have w:=Ep t b;rw[show Xa b=b by unfold Xa;split<;>lia] at w;exact w
     have:1<=x/\x.natAbs=t.natAbs:=by
      rw[ex];unfold Xa;split<;>lia
     exact⟨⟨⟨h1,()⟩,g2,()⟩,this.1⟩
   exact hx _ _ ⟨rfl,_,.inr ⟨_,b,rfl,aY _ (by unfold Xa;simp only[decide_eq_true_eq])⟩,rfl⟩
  rintro dl2 S2 ⟨rfl,m,hm,rfl⟩;refine⟨rs,hr1,ro,okA,a0,hm,λT mn j vs ws pT lT hT net lj l70 pol=>?_⟩;have hnT:=pT _ _ hn1;refine⟨rfl,?_⟩;refine⟨ns,hnT,⋯,λc6 hc6=>⟨hc6,λx y xy hx hy=>?_⟩⟩;have k15:(10:Int)^Int.toNat 15=1000000000000000:=rfl;refine⟨ns,hnT,⋯,λc8 hc8=>⟨show (0:Int)<10^Int.toNat 15-1 by decide,?_⟩⟩;have q8:=Yo (a:=c8) (b:=10^Int.toNat 15-1) ⋯;refine⟨ns,hnT,⋯,λc7 hc7=>⟨show (0:Int)<10^Int.toNat 6 by decide,?_⟩⟩;have q7:=Yo (a:=c7) (b:=10^Int.toNat 6) ⋯
  have k6:(10:Int)^Int.toNat 6=1000000:=rfl;refine⟨ns,hnT,⋯,λc9 hc9=>?_⟩;have q9:=Yo (a:=c9) (b:=19) ⋯;exact h T S.length mn j rs vs ws (x,y) (1+c7%10^Int.toNat 6) (1+c8%(10^Int.toNat 15-1)) (c9%19) (λa o z=>pT _ _ (P1 _ _ z)) (pT _ _ hr1) ro hT net lj l70 pol (λp hp=>by
   cases zH.mp hp;exact⟨xy,Sz.of (10^15) (by show x.natAbs<=_;lia),Sz.of (10^15) (by show y.natAbs<=_;lia)⟩) ⟨(),()⟩ () ⟨(),()⟩
noncomputable def Ak  (B8:Dfz q43 EN Sy):Fkz 1 q43 Sy MA:=
 mkF B8 Jv (λhr=>(Zd (Zm (i:=2) Jv.nd Zb) (Zd (ZC (ZA Yz (dv 1) (ZK (Z5 Y3) rfl YJ Boot.«len» (pv 0)) (Zs _)) (Ze (Zm (i:=2) Jv.nd (Zi Y6 (ZG (dv 0) (dv 1)) (Zi Xm Zb Zb)))) ZE) (Ze (Zj (Zi Y6 (Zi ZQ (Zi Y6 (Zi Z4 (Zi ZQ (dv 2) Zb) (Zi ZQ Zb (dv 1))) Zb) Zb) Zb)))))) λS Q ex=>by
  refine kR λn=>kI λk=>kN ?_
  rintro⟨ns,hn,⟨k0,k1⟩,h⟩;have aY:∀x:Int,(0<=x/\x<10^18)->IntMulOk x 48271/\IntMulOk 16807 k/\(0:Int)<2147483647/\IntMulOk ((x*48271+16807*k)%2147483647) 69621/\(0:Int)<2147483629/\Q (.int ((x*48271+16807*k)%2147483647*69621%2147483629)) S:=λx hx=>by
   have z1:Sz 80 x:=Sz.of (10^20) ()
   have z2:Sz 80 k:=Sz.of (10^20) ()
   have r:=Yo (a:=x*48271+16807*k) (b:=2147483647) ⋯;refine⟨ZH z1 (Sz.of (n:=80) (10^20) ⋯),ZH (Sz.of (n:=80) (10^20) ⋯) z2,⋯,ZH (Sz.of (n:=80) (10^20) ()) (Sz.of (n:=80) (10^20) ⋯),⋯,h _ ?_⟩;exact Yo ⋯
  refine Lq hn ?_;rw[zD];refine ifD (λc=>?_) (λc=>?_)
  .refine ZI (o:=.frz (ns.map D.int)) hn (J8 k0 c) ?_;have r:=Yo (a:=ns.getD k.toNat 0) (b:=10^Int.toNat 18) ⋯;exact⟨show (0:Int)<10^Int.toNat 18 by decide,aY _ r⟩
  .exact aY 0 ⋯
noncomputable def Ad  (zfG:Dfz q82 GS Nl)(Xh:Fkz 1 q43 Sy MA)(TM:Fkz 2 q52 Sf LN):Fkz 3 q82 Nl Dt:=
 mkF zfG Um (λhr=>(Zd (Zm (i:=1) Um.nd (Yr Zf)) (Zd (Nm (i:=2) PassesOwn.never rfl Um.nd rfl (Or.inl rfl) rfl XO (Za (Zi Z4 Zb (Zi Xe (Zg Xh hr (pdv 0 (Za Zb Zf))) Zb)) Zf) (Zd (Zm (i:=3) Um.nd (Zg Xh hr (pdv 0 (Za (Zi Z4 Zb (dv 2)) Zf)))) (Zd (Zm (i:=4) Um.nd (ZG (Zz (Za Zb (Za Zb (Za Zb (Za Zb (Za Zb Zf)))))) (Zi Xe (dv 3) Zb))) (Zd (Zm (i:=5) Um.nd (Zg TM hr (Za (Zi Yb (Zi Y6 (Zi Sv (dv 3) Zb) (Zi Z4 (Zi ZQ Zb (dv 4)) Zb)) (Zi ZQ Zb (dv 4))) (pv 4)))) (Ze (ZC (ZA (Dk hr) (dv 5) (dv 1) rfl) (Ze (Y1 (Wv (dv 1) (dv 5)))) ZE)))))) (Ze (Zj (dv 1)))))) λS Q ex=>by
  refine kR λn=>kN ?_
  rintro⟨ns,hn,h⟩;refine⟨ns,Zu hn,⟨⋯,⋯⟩,λc0 hc0=>?_⟩;have q0:=Yo (a:=c0) (b:=3) ⋯;refine⟨⟨show -(2^62)<=1+c0%3 by lia,show 1+c0%3<2^62 by lia⟩,λk dl' S'=>∃rs:LP2,S'=S++[.lst (rs.map frD)]/\rs.Nodup/\Nn rs/\rs.length<=k/\(1<=k->1<=rs.length)/\(∀r∈rs,r.1<=12*r.2)/\(k:Int)<=1+c0%3/\∃x2 x3 x4 x5:Option D,dl'=[sR n,sR S.length,x2,x3,x4,x5],⟨[],rfl,List.nodup_nil,λ_ z=>(nomatch z),zA _,λz=>absurd z ⋯,λ_ z=>(nomatch z),(),_,_,_,_,rfl⟩,?_⟩;rintro k dl' S' ⟨rs,rfl,nd,nn,lk,l1,r12,kk,x2,x3,x4,x5,rfl⟩;split
  .rename_i c;have c':(k:Int)<1+c0%3:=by have c2:k<(1+c0%3).toNat:=c;lia
   refine⟨ns,Zu hn,⟨show 0<=1+(k:Int) by lia,show 1+(k:Int)<=1000 by lia⟩,λc1 hc1=>?_⟩;obtain⟨j5,b,ej,hb,e⟩:=CJ (i:=c1%5) (Yo ⋯);refine Co j5 ej e ?_;have q1:=Yo (a:=c1/5) (b:=24*b+1) ();refine⟨ZH (m:=80) (n:=80) (Sz.of (10^20) ⋯) (Sz.of (10^20) ()),show 0<24*b+1 by lia,ZH (m:=80) (n:=80) (Sz.of (10^20) ⋯) (Sz.of (10^20) ()),⟨show 0<b by lia,Sz.of (n:=4000) 5 () ⋯⟩,λt u h1 h2 h5 h3 h4=>?_⟩;have h3':t.natAbs<=(c1/5%(24*b+1)-12*b).natAbs:=h3
   have t12:t<=12*u:=by
    have h5':t*b=(c1/5%(24*b+1)-12*b)*u:=h5;refine yO (a:=b) ?_ ();rw[h5',xP];exact zK () ()
   refine E1 (r:=(t,u)) (rs:=rs) (Zq _ _) ?_;by_cases m:(t,u)∈rs
   .rw[decide_eq_true m];refine YB ?_;exact⟨rs,rfl,nd,nn,(),λ_=>List.length_pos_of_mem m,r12,(),_,_,_,_,rfl⟩
   .rw[decide_eq_false m];refine YA ?_;refine W4 (n:=S.length) (xs:=rs.map frD) (y:=frD (t,u)) kId (Zq _ _) kId (by rw[zD];lia) ?_;exact⟨rs++[(t,u)],by rw[WD,xI];rfl,ES nd m,DU nn ⟨h1,h2,by show t.natAbs<=_;lia,by show u<=_;lia⟩,by simp;lia,λ_=>by simp,λr hr=>(yI.mp hr).elim (r12 r) λz=>by cases zH.mp z;exact t12,(),_,_,_,_,rfl⟩
  .rename_i c;have c':¬ (k:Int)<1+c0%3:=λz=>c (show k<(1+c0%3).toNat by lia)
   exact h _ _ rs Pre.refl.push (zA _) (Zq _ _) ⟨nd,nn,()⟩ (l1 ()) r12
noncomputable def zgh  (zbV:Dfz q84 Hj Qm)(Xh:Fkz 1 q43 Sy MA)(UG:Fkz 2 q44 RJ MY)(Mz:Fkz 3 q82 Nl Dt):Fkz 4 q84 Qm G8:=
 mkF zbV Xu (λhr=>(Zd (Zm (i:=1) Xu.nd (Zg Mz hr (pv 0))) (Zd (Zm (i:=2) Xu.nd (Zi Yb (Zi Xe (Zg Xh hr (pdv 0 (Za Zb Zf))) Zb) Zb)) (Zd (ZC (ZA (ZS hr) (dv 2) Zb (Zs _)) (Ze (Zm (i:=2) Xu.nd Zb)) ZE) (Zd (Zm (i:=3) Xu.nd ZR) (Zd (ZC (ZA (ZS hr) (Zi Xe (Zg Xh hr (pdv 0 (Za Zb Zf))) Zb) Zb (Zs _)) (Ze (Zm (i:=3) Xu.nd (Zz (Za Zb (Za Zb Zf))))) ZE) (Zd (Q4 (is:=[4,5]) rfl Xu.nd (Nms.cons (i:=4) rfl (Or.inl rfl) (by first|exact .inl rfl|exact .inr rfl) (Nms.cons (i:=5) rfl (Or.inl rfl) (by first|exact .inl rfl|exact .inr rfl) Nms.nil)) (Zg UG hr (pdv 1 (Za (Zz (pdv 2 (Za Zb Zf))) (pv 3))))) (Zd (Zm (i:=6) Xu.nd (Zi Z4 Zb (Zi Xe (Zg Xh hr (pdv 0 (Za Zb Zf))) Zb))) (Zd (Zm (i:=7) Xu.nd (Zi Yb (Zi Y6 (Zg Xh hr (pdv 0 (Za Zb Zf))) (Zi Z4 (Zi ZQ Zb (dv 6)) Zb)) (Zi ZQ Zb (dv 6)))) (Zd (ZC (ZA (ZS hr) (Zi Xe (Zg Xh hr (pdv 0 (Za Zb Zf))) Zb) Zb (Zs _)) (Ze (Zm (i:=7) Xu.nd (Zi Xk (Zi ZQ (Tb (ZG (dv 1) Zb) Zb) (dv 6)) (Tb (ZG (dv 1) Zb) Zb)))) ZE) (Zd (Zm (i:=8) Xu.nd (Zi Z4 (dv 7) (Zi Y6 (Zg Xh hr (pdv 0 (Za Zb Zf))) (Zi Z4 (Zi Yb (Zi ZQ Zb (dv 6)) (dv 7)) Zb)))) (Zd (Zm (i:=9) Xu.nd (Zi Z4 Zb (Zi Xe (Zg Xh hr (pdv 0 (Za Zb Zf))) Zb))) (Ze (Zj (Zz (pdv 1 (pdv 4 (pdv 5 (Za (Zz (pdv 7 (pv 8))) (pdv 6 (pdv 9 (Za (ZK (Vd rfl) rfl Wf Boot.«min» (Za Zb (Za (Zi Z4 (Zi Xe (Zg Xh hr (pdv 0 (Za Zb Zf))) Zb) (Zi Sv (ZK (Z5 Y3) rfl YJ Boot.«len» (pv 0)) Zb)) Zf))) Zf)))))))))))))))))))))) λS Q ex=>by
  refine kR λn=>kN ?_
  rintro⟨ns,hn,h⟩;refine X7 (λdl2 S2=>∃(mr:Nat)(rs:LP2),Pre S S2/\La S2 mr (rs.map frD)/\Ro rs/\1<=rs.length/\(∀r∈rs,r.1<=12*r.2)/\dl2=[sR n,sR mr,none,none,none,none,none,none,none,none]) (λnx hx=>⟨ns,hn,λT m rs p l hT ro l1 r12=>hx _ _ ⟨m,rs,p,hT,ro,l1,r12,rfl⟩⟩) ?_;rintro dl2 S1 ⟨mr,rs,P1,hr1,ro,l1,r12,rfl⟩;have hn1:=P1 _ _ hn;refine Vi (λdl2 S2=>S1=S2/\∃a:Int,(a≠0/\a.natAbs<=7)/\dl2=[sR n,sR mr,sI a,none,none,none,none,none,none,none]) (λnx hx=>?_) ?_
  .refine⟨ns,hn1,⋯,λc hc=>?_⟩;have q:=Yo (a:=c) (b:=11) ⋯;exact ifD (c:=c%11-5=0) (λz=>hx _ _ ⟨rfl,7,⋯,rfl⟩) (λz=>hx _ _ ⟨rfl,c%11-5,⟨z,()⟩,rfl⟩)
  rintro dl2 S2 ⟨rfl,a,⟨a0,a7⟩,rfl⟩;refine Vi (λdl2 S2=>S1=S2/\∃m:D,(m=.non\/m=.tup [.int 1,.int 1])/\dl2=[sR n,sR mr,sI a,some m,none,none,none,none,none,none]) (λnx hx=>?_) ?_
  .exact⟨ns,hn1,⋯,λc hc=>ifD (λz=>hx _ _ ⟨rfl,_,.inr rfl,rfl⟩) (λ_=>hx _ _ ⟨rfl,.non,.inl rfl,rfl⟩)⟩
  rintro dl2 S2 ⟨rfl,m,hm,rfl⟩;refine X7 (λdl2 S2=>∃(mn j:Nat)(vs:List Nd)(ws:List Nat),Pre S1 S2/\La S2 mn (vs.map Nd.d)/\ZD (1:Nat) vs ws/\j<vs.length/\vs.length<=70/\Pol vs j rs/\dl2=[sR n,sR mr,sI a,some m,sR mn,sI (j:Int),none,none,none,none]) (λnx hx=>⟨rs,hr1,ro,⟨⟨⋯,⋯⟩,by simp,()⟩,a0,hm.imp id λe=>⟨1,1,e,⋯,⋯⟩,λT mn j vs ws pT lT hT net lj l70 pol=>⟨rfl,hx _ _ ⟨mn,j,vs,ws,pT,hT,net,lj,l70,pol,rfl⟩⟩⟩) ?_;rintro dl2 T ⟨mn,j,vs,ws,pT,hT,net,lj,l70,pol,rfl⟩;have hnT:=pT _ _ hn1
  have hrT:=pT _ _ hr1;refine Vi (λdl2 S2=>T=S2/\∃g lo:Int,(1<=g/\g<=64)/\(-14*g<=lo/\lo<=14*g)/\dl2=[sR n,sR mr,sI a,some m,sR mn,sI (j:Int),sI g,sI lo,none,none]) (λnx hx=>?_) ?_
  .refine⟨ns,hnT,⋯,λc6 hc6=>?_⟩;have q6:=Yo (a:=c6) (b:=64) ⋯;refine⟨ns,hnT,⋯,λc7 hc7=>?_⟩;have q7:=Yo (a:=c7) (b:=28*(1+c6%64)+1) ();exact⟨ZH (m:=80) (n:=80) (Sz.of (10^20) ⋯) (Sz.of (10^20) ()),show 0<28*(1+c6%64)+1 by lia,ZH (m:=80) (n:=80) (Sz.of (10^20) ⋯) (Sz.of (10^20) ()),hx _ _ ⟨rfl,1+c6%64,c7%(28*(1+c6%64)+1)-14*(1+c6%64),(),(),rfl⟩⟩
  rintro dl2 S2 ⟨rfl,g,lo,hg,hlo,rfl⟩;refine X7 (λdl2 S2=>T=S2/\∃lo:Int,(lo<=14*g/\Sz 50 lo)/\dl2=[sR n,sR mr,sI a,some m,sR mn,sI (j:Int),sI g,sI lo,none,none]) (λnx hx=>?_) ?_
  .refine⟨ns,hnT,⋯,λc hc=>ifD (λz=>?_) (λ_=>hx _ _ ⟨rfl,lo,⟨(),Sz.of 1000 ()⟩,rfl⟩)⟩;obtain⟨r0,hr0⟩:∃r0,rs[0]?=some r0:=⟨_,zE (show 0<rs.length by lia)⟩;have m0:=zF hr0
   have n0:=ro.nn r0 m0
   have i0:atI (rs.map frD) 0=some (frD r0):=Yx (j:=0) (by rw[zG,hr0];rfl)
   have sg:Sz 7 g:=Sz.of 64 ()
   have st:Sz 31 r0.1:=Sz.of (10^9) ();refine ZI (o:=.lst (rs.map frD)) hrT i0 ?_;refine⟨ZH st sg,?_⟩;refine ZI (o:=.lst (rs.map frD)) hrT i0 ?_;refine⟨(Sz.of (n:=31) (10^9) ():Sz 31 r0.2).fd (),hx _ _ ⟨rfl,r0.1*g/r0.2,⟨?_,((st.mul sg).mono ⋯).div n0.1⟩,rfl⟩⟩;have e:=zK (r12 r0 m0) (show 0<=g by lia);rw[xP] at e;exact xA (Int.ediv_le_of_le_mul () e) ()
  rintro dl2 S2 ⟨rfl,lo,⟨hlo,slo⟩,rfl⟩;refine⟨ns,hnT,⋯,λc8 hc8=>?_⟩;have q8:=Yo (a:=c8) (b:=14*g-lo+1) ();refine⟨ZH (m:=80) (n:=80) (Sz.of (10^20) ⋯) (Sz.of (10^20) ()),show 0<14*g-lo+1 by lia,?_⟩;refine⟨ns,hnT,⋯,λc9 hc9=>?_⟩;have q9:=Yo (a:=c9) (b:=8) ⋯;refine⟨ns,hnT,⋯,λc10 hc10=>?_⟩;have q10:=Yo (a:=c10) (b:=11) ⋯;refine Lq hnT ?_;rw[zD];exact h T mr mn j rs vs ws (lo,lo+c8%(14*g-lo+1)) g (1+c9%8) (if c10%11+(ns.length:Int)/8<18 then c10%11+(ns.length:Int)/8 else 18) (λa o z=>pT _ _ (P1 _ _ z)) hrT ro hT net lj l70 pol (λp hp=>by
   cases zH.mp hp;exact⟨by show lo<=lo+_;lia,slo.mono ⋯,(Sz.mid slo (Sz.of 1000 ():Sz 50 (14*g)) (by show lo<=lo+_;lia) (by show lo+_<=_;lia)).mono ⋯⟩) ⟨(),()⟩ () (by split<;>lia)
noncomputable def zbe  (A0:Dfz q74 DT Rv):Fkz 1 q74 Rv Jy:=
 mkF A0 zad (λhr=>(Ze (Zj (SF (Yt VR (Zi ZQ (piv 0) (piv 1)) (Zi ZQ (piv 1) (dv 2)) (Zs _)) (Ux (Yt VR (Zi ZQ (piv 1) (dv 2)) (Zi ZQ (piv 0) (piv 1)) (Zs _))))))) λS Q ex=>by
  refine kP λx y=>kP λt u=>kI λg=>kN ?_
  rintro⟨⟨s1,s2,s3,s4,s5⟩,h⟩;refine⟨ZH s3 s2,ZH s1 s5,ifD (λc=>⟨ZH s1 s5,ZH s4 s2,?_⟩) (λc=>?_)⟩
  .rw[inB,decide_eq_true c,wV] at h;exact h
  .rw[inB,decide_eq_false c,xY] at h;exact h
noncomputable def zhs  (F9:Dfz q83 Km Q7)(VX:Fkz 1 q74 Rv Jy):Fkz 2 q83 Q7 Sw:=
 F9.mk' (WL (k:=1) F9.F RV (Ac) λ_ _ _ _ _ _ _ hr=>⟨_,(Zd (Vw (i:=3) RV.nd rfl (Or.inr rfl) (ZG (piv 0) Zb)) (Zd (Zm (i:=4) RV.nd (piv 0)) (Zd (QT (x:="_law_a") (N:=["_law_span","_law_grid"]) (caps:=[3,2]) (ar:=Zh Km) rfl rfl csc rfl ⋯ (i:=5) RV.nd rfl rfl (dv 1) (λ_ _ _ _ _ _=>SI (Y7 (Zg VX hr (pdv 1 (pdv 0 (pv 2)))))) (λ_ _ _ _ _ _=>(dv 0))) (Zd (ZC (ZA (ZS hr) (piv 4) ZU (Zs _)) (Ze (Zj (Yt (zef hr) (dv 5) (Yr Zf) (Zs _)))) ZE) (Zd (ZC (ZA (ZS hr) (piv 4) ZU (Zs _)) (Ze (Zj (SF (Yt (ZS hr) (ZK (Z5 Y3) rfl YJ Boot.«len» (pv 5)) Zb (Zs _)) (Ux (Yt (ZS hr) (piv 3) (piv 3) (Zs _)))))) ZE) (Zd (ZC (ZA (ZS hr) (piv 4) ZU (Zs _)) (Zd (ZC (PDW.pt (RS (ZA (DS hr) (ZK (Z5 Y3) rfl YJ Boot.«len» (pv 5)) Zb (Zs _)) (PL (UM (Y7 (Zg VX hr (Za (ZG (piv 4) Zb) (Za (ZG (dv 5) Zb) (pv 2))))))))) (Ze (Zj KY)) ZE) (Ze (Zj (SF (Yt Yz (piv 3) (Tb (ZG (piv 4) Zb) Zb) (Zs _)) (Ux (Yt Yz (Tb (ZG (piv 4) Zb) Zb) (piv 3) (Zs _))))))) ZE) (Ze (Zj (Yt (MZ hr) (piv 4) (Yr (Za ZU (Za ZU (Za ZU Zf)))) rfl))))))))),λds S Q ex h=>by
  unfold Sw at h;split at h
  .rename_i m d r g;obtain⟨rs,s,f,hr,ro,hm,ss,hg,fo,rg,h⟩:=h;obtain⟨s1,s2,s3⟩:=ss s (zH.mpr rfl);have l3:=ro.l3
   have sg:Sz 21 g:=Sz.of 1000000 ()
   have zr:∀q∈rs,Sz 100 q.1/\Sz 100 q.2:=λq hq=>by
    have z:=ro.nn q hq;exact⟨(Sz.of (n:=31) (10^9) ()).mono ⋯,(Sz.of (n:=31) (10^9) ()).mono ⋯⟩
   refine X7 (λdl2 S2=>S=S2/\dl2=[some (.tup [.ref m,d]),sR r,sI g,some (frD s),none,none]) (λnx hx=>ZI (o:=.lst [frD s]) hm (d:=frD s) rfl (hx _ _ ⟨rfl,rfl⟩)) ?_;rintro dl2 S2 ⟨rfl,rfl⟩;refine Vi (λdl2 S2=>Pre S S2/\La S2 S.length ((rs.filter (inB g s)).map frD)/\dl2=[some (.tup [.ref m,d]),sR r,sI g,some (frD s),some d,sR S.length]) (λnx hx=>?_) ?_
   .refine Q3 (n:=r) (S1:=S) (o:=.lst (rs.map frD)) (wiD g s) kId hr (by show (rs.map frD).length<=1000;rw[zD];lia) (λx hx S2 K p hK=>?_) (λx hx y hy S2 K p hK=>?_) (hx _ _ ⟨Pre.refl.push,by rw[<- Ky];exact Zq _ _,rfl⟩)
    .have hx':x∈rs.map frD:=hx;obtain⟨q,hq,rfl⟩:=zL.mp hx';refine⟨⟨(zr q hq).1,(zr q hq).2,s2.mono ⋯,s3.mono ⋯,sg⟩,?_⟩;rw[Sx] at hK;show K (inB g s q) S2;cases e:inB g s q<;>rw[e] at hK<;>exact hK
    .have hx':x∈rs.map frD:=hx;obtain⟨q,hq,rfl⟩:=zL.mp hx';rw[Sx] at hy;have e:frD q=y:=by
      split at hy
      .exact Option.some.inj hy
      .cases hy
     subst e;exact hK
   rintro dl2 S2 ⟨P2,hw,rfl⟩;have more:∀(w:Str)(l:List D),d=.tup (.str w::l)->(["small","waits","cut"]:List Str).any (·==w)=true->Yq (wIn 0 false) (.str w) (.ref S2.length) (S2++[.lst ((["small","waits","cut"]:List Str).map D.str)]) Q:=λw l e k=>by
    refine Sq (neg:=false) (ws:=["small","waits","cut"]) (Zq _ _) ?_;rw[if_neg ⋯,k];exact h _ (Xb P2 _)
   cases f with
   | wait=>
    cases fo;exact more _ _ rfl ⋯
   | small=>
    obtain⟨_,_,rfl⟩:=fo;exact more _ _ rfl ⋯
   | cut _ _ _ _=>
    obtain⟨_,_,rfl⟩:=fo;exact more _ _ rfl ⋯
   | out _ _=>
    obtain⟨_,_,_,rfl,_⟩:=fo;have rg':rs.filter (inB g s)=[]:=rg;rw[rg'] at hw;exact zaq (Zu hw) (Zq _ _) rfl (h _ (Xb P2 _))
   | full _=>
    obtain⟨_,_,_,rfl,_⟩:=fo;obtain⟨e12,q,ef⟩:=rg;rw[ef] at hw;refine Xq hw ?_;have z:=h _ P2;rw[<- decide_eq_true e12] at z;exact z
   | one vs=>
    obtain⟨_,_,_,mv,_,_,_,rfl,ow⟩:=fo;obtain⟨q,b,ef,rfl,b1,b2,nb⟩:=rg;rw[ef] at hw;refine Xq hw ?_;have hq:q∈rs:=(wY.mp (ef ▸ zH.mpr rfl:q∈rs.filter (inB g s))).1
    have nq:=(ro.nn q hq).1
    have nb2:=XS.mp nb
    have bb:b.1<=b.2:=yO (xA nb2.1 nb2.2) ()
    have y1:Sz 51 b.1:=Sz.mid s2 s3 () ()
    have y2:Sz 51 b.2:=Sz.mid s2 s3 () ()
    have hv:S2[mv]?=some (.lst [frD b]):=P2 _ _ ow.2.2;refine ZI (o:=.lst [frD b]) hv (d:=frD b) rfl ?_;refine ZI (o:=.lst [frD q]) hw (d:=frD q) rfl ?_;refine⟨⟨(zr q hq).1,(zr q hq).2,y1.mono ⋯,y2.mono ⋯,sg⟩,?_⟩;have nb':inB g (b.1,b.2) (q.1,q.2)=true:=nb;rw[nb'];refine ZI (o:=.lst [frD b]) hv (d:=frD b) rfl ?_;refine ifD (c:=s.1<b.1) (λ_=>?_) (λc=>absurd b1 c);refine ZI (o:=.lst [frD b]) hv (d:=frD b) rfl ?_;have z:=h _ P2;rw[<- decide_eq_true b2] at z;exact z
  .exact h.elim⟩)
noncomputable def CO  (U5:Dfz "law" U4 NF)(VX:Fkz 1 q74 Rv Jy)(Jx:Fkz 2 q83 Q7 Sw)(Jn:Fkz 16 "search" OQ JX)(Xd:Fkz 1 q89 Rk Ma)(MU:Fkz 4 UW QU Gh)(MQ:Fkz 4 q84 Qm G8):Fkz 17 "law" NF (S5 LT LP LQ):=
 U5.mk' (WL (k:=16) U5.F UO CI λ_ _ _ _ _ _ _ hr=>⟨_,(Zd (ZC (ZA (ZS hr) (Zi Xe (Zg Xd hr (pdv 0 (Za Zb Zf))) Zb) Zb (Zs _)) (Ze (Q4 (is:=[1,2,3,4,5,6,7]) rfl UO.nd (Nms.cons (i:=1) rfl (Or.inr rfl) (by first|exact .inl rfl|exact .inr rfl) (Nms.cons (i:=2) rfl (Or.inl rfl) (by first|exact .inl rfl|exact .inr rfl) (Nms.cons (i:=3) rfl (Or.inl rfl) (by first|exact .inl rfl|exact .inr rfl) (Nms.cons (i:=4) rfl (Or.inr rfl) (by first|exact .inl rfl|exact .inr rfl) (Nms.cons (i:=5) rfl (Or.inr rfl) (by first|exact .inl rfl|exact .inr rfl) (Nms.cons (i:=6) rfl (Or.inl rfl) (by first|exact .inl rfl|exact .inr rfl) (Nms.cons (i:=7) rfl (Or.inl rfl) (by first|exact .inl rfl|exact .inr rfl) Nms.nil))))))) (Zg MU hr (pv 0)))) (Ze (Q4 (is:=[1,2,3,4,5,6,7]) rfl UO.nd (Nms.cons (i:=1) rfl (Or.inr rfl) (by first|exact .inl rfl|exact .inr rfl) (Nms.cons (i:=2) rfl (Or.inl rfl) (by first|exact .inl rfl|exact .inr rfl) (Nms.cons (i:=3) rfl (Or.inl rfl) (by first|exact .inl rfl|exact .inr rfl) (Nms.cons (i:=4) rfl (Or.inr rfl) (by first|exact .inl rfl|exact .inr rfl) (Nms.cons (i:=5) rfl (Or.inr rfl) (by first|exact .inl rfl|exact .inr rfl) (Nms.cons (i:=6) rfl (Or.inl rfl) (by first|exact .inl rfl|exact .inr rfl) (Nms.cons (i:=7) rfl (Or.inl rfl) (by first|exact .inl rfl|exact .inr rfl) Nms.nil))))))) (Zg MQ hr (pv 0))))) (Zd (Zm (i:=8) UO.nd (Zg Jn hr (pdv 2 (Za (Yr (Za (Zz (Za ZU (pv 3))) Zf)) (Za (Yr (pv 4)) (pdv 5 (pdv 6 (pv 7)))))))) (Zd (ZC (UM (Y7 (ZK (Z5 (PR rfl)) rfl UL Boot.«all» (Za (Xr (x:="_law_entry") (N:=["_law_roots_here","_law_grid"]) (caps:=[1,5]) (ar:=Zh U4) rfl rfl csc rfl ⋯ (dv 8) pt0 (λ_ _ _ _ _ _=>(Zg Jx hr (pdv 0 (pdv 1 (pv 2)))))) Zf)))) (Ze (Zj KY)) ZE) (Zd (QT (x:="_law_entry") (N:=[]) (caps:=[]) (ar:=Zh U4) rfl rfl csc rfl ⋯ (i:=9) UO.nd rfl rfl (dv 8) pt0 (λ_ _ _ _ _ _=>(ZG (piv 0) Zb))) (Zd (Zm (i:=10) UO.nd (ZK (Z5 Y3) rfl YJ Boot.«len» (Za (Xr (x:="_law_a") (N:=["_law_span","_law_grid"]) (caps:=[4,5]) (ar:=Zh U4) rfl rfl csc rfl ⋯ (dv 1) (λ_ _ _ _ _ _=>SI (Y7 (Zg VX hr (pdv 1 (pdv 0 (pv 2)))))) (λ_ _ _ _ _ _=>(dv 0))) Zf))) (Zd (ZC (PDW.pt (RS (ZA (MZ hr) ZU (dv 9) rfl) (PL (ZA (MZ hr) ZU (dv 9) rfl)))) (Ze (Zj (Yt VR (Kj hr (dv 9) (Za ZU Zf)) (dv 10) (Zs _)))) ZE) (Ze (Zj (Yt (ZS hr) (Zi Z4 (Kj hr (dv 9) (Za ZU Zf)) (Kj hr (dv 9) (Za ZU Zf))) (dv 10) (Zs _)))))))))),λds S Q ex h=>by
  obtain⟨ns,rfl,rfl,hl,h⟩:=h;refine X7 (λdl T=>∃(mr mn j:Nat)(rs:LP2)(vs:List Nd)(ws:List Nat)(s:Int×Int)(g f k:Int),T[1]?=some (.cod LT LP LQ)/\La T mr (rs.map frD)/\Ro rs/\La T mn (vs.map Nd.d)/\ZD (1:Nat) vs ws/\j<vs.length/\vs.length<=70/\Pol vs j rs/\Spn 51 [s]/\(Gg g)/\1<=f/\(0<=k/\k<=18)/\dl=[sR 0,sR mr,sR mn,sI (j:Int),some (frD s),sI g,sI f,sI k,none,none,none]) (λnx hx=>?_) ?_
  .refine⟨ns,rfl,⋯,λc hc=>ifD (λ_=>?_) (λ_=>?_)⟩
   .exact⟨ns,rfl,λT mr mn j rs vs ws s g f k p hr ro hn net lj l70 pol ss hg f1 hk=>⟨rfl,hx _ _ ⟨mr,mn,j,rs,vs,ws,s,g,f,k,p 1 _ rfl,hr,ro,hn,net,lj,l70,pol,ss,hg,f1,hk,rfl⟩⟩⟩
   .exact⟨ns,rfl,λT mr mn j rs vs ws s g f k p hr ro hn net lj l70 pol ss hg f1 hk=>⟨rfl,hx _ _ ⟨mr,mn,j,rs,vs,ws,s,g,f,k,p 1 _ rfl,hr,ro,hn,net,lj,l70,pol,ss,hg,f1,hk,rfl⟩⟩⟩
  rintro dl T0 ⟨mr,mn,j,rs,vs,ws,s,g,f,k,h1,hr,ro,hn,net,lj,l70,pol,ss,hg,f1,hk,rfl⟩;refine X7 (λdl T=>∃(mb:Nat)(ds:List D)(es:List LP2)(fs:List Ft),La T mb ds/\En T ds es fs/\Bks g f vs [(true,j)] [s] es fs/\es.length<=900/\La T mr (rs.map frD)/\dl=[sR 0,sR mr,sR mn,sI (j:Int),some (frD s),sI g,sI f,sI k,sR mb,none,none]) (λnx hx=>?_) ?_
  .refine⟨1,1,vs,ws,[(true,j)],[s],⟨Zu (Zu hn),Zu (Zq _ _),net,hg,(),by simp,λr hr=>by cases zH.mp hr;exact lj,⋯⟩,Zq _ _,rfl,ss,f1,hk,rfl,Zu (Zu h1),λT mb ds es fs p lm hT en K l9 c0 c1=>?_⟩;exact hx _ _ ⟨mb,ds,es,fs,hT,en,K,l9,p _ _ (Zu (Zu hr)),rfl⟩
  clear h1 hr hn;rintro dl T ⟨mb,ds,es,fs,hT,en,K,l9,hr,rfl⟩;obtain⟨al,c1,c2⟩:=zhK net ss hg lj pol ro K;have ok:=K.ok ss
  have l1:=en.1
  have l3:=ro.l3;refine X7 (λdl S=>Pre T S/\dl=[sR 0,sR mr,sR mn,sI (j:Int),some (frD s),sI g,sI f,sI k,sR mb,none,none]) (λnx hx=>?_) ?_
  .refine EA (n:=mb) (S1:=T) (o:=.lst ds) (λk ys S2=>Pre T S2/\La S2 T.length ys/\ys.length=k/\ys=List.replicate k (.bl true)) kId hT (λk ys S2 w=>⟨w.1 _ _ hT,w.2.1,w.2.2.1⟩) (by show ds.length<=1000;lia) ⟨Pre.refl.push,Zq _ _,rfl,rfl⟩ (λi x ys S2 K' ex w hK=>?_) (λys S2 w=>?_)
   .have ex':ds[i]?=some x:=ex
    have li:=(zB.mp ex').1
    have he:=zE (show i<es.length by lia)
    have hf:=zE (show i<fs.length by have:=en.2.1;lia);obtain⟨m,d,e1,e2,e3⟩:=en.2.2 i _ _ he hf;obtain⟨s',es',rg,_⟩:=al i _ _ he hf;rw[ex'] at e1;cases e1;rw[es'] at e2;have se:=(ok.2 _ (zF he)).2;rw[es'] at se;exact⟨rs,s',_,w.1 _ _ hr,ro,w.1 _ _ e2,se,hg,zei w.1 e3,rg,λT2 p2=>hK (.bl true) T2 (p2 _ _ w.2.1) ⟨X8 (λa o z=>p2 _ _ (w.1 _ _ z)) (zA _),YV (p2 _ _ w.2.1),by simp[w.2.2.1],by rw[w.2.2.2,List.replicate_succ']⟩⟩
   .obtain⟨w1,w2,_,rfl⟩:=w;refine QX (n:=T.length) (o:=.lst _) w2 (EO _) ?_;rw[show (List.replicate (Zk (.lst ds)).length true).all id=true by simp];exact hx _ _ ⟨w1,rfl⟩
  rintro dl S ⟨p1,rfl⟩;refine X7 (λdl S2=>∃nw:Nat,Pre T S2/\La S2 nw ((fs.map Fw).map D.str)/\dl=[sR 0,sR mr,sR mn,sI (j:Int),some (frD s),sI g,sI f,sI k,sR mb,sR nw,none]) (λnx hx=>?_) ?_
  .refine XN (n:=mb) (S1:=S) (o:=.lst ds) wdD kId (p1 _ _ hT) (by show ds.length<=1000;lia) (λx hx S2 K' p hK=>?_) (hx _ _ ⟨_,Xb p1 _,by rw[<- zam en];exact Zq _ _,rfl⟩);obtain⟨i,hi⟩:=vQ.mp (show x∈ds from hx);have li:=(zB.mp hi).1;obtain⟨m,d,e1,e2,e3⟩:=en.2.2 i _ _ (zE (show i<es.length by lia)) (zE (show i<fs.length by have:=en.2.1;lia));obtain⟨l,rfl⟩:=JW e3;rw[hi] at e1;cases e1;exact Co 0 rfl rfl hK
  rintro dl S2 ⟨nw,p2,hw,rfl⟩;obtain⟨sx,sy,sz⟩:=ss s (zH.mpr rfl);refine X7 (λdl S3=>La S3 nw ((fs.map Fw).map D.str)/\dl=[sR 0,sR mr,sR mn,sI (j:Int),some (frD s),sI g,sI f,sI k,sR mb,sR nw,sI ((rs.countP (inB g s):Nat):Int)]) (λnx hx=>?_) ?_
  .refine Q3 (n:=mr) (S1:=S2) (o:=.lst (rs.map frD)) (wiD g s) kId (p2 _ _ hr) (by show (rs.map frD).length<=1000;rw[zD];lia) (λx hx S3 K' p hK=>?_) (λx hx y hy S3 K' p hK=>?_) ?_
   .have hx':x∈rs.map frD:=hx;obtain⟨q,hq,rfl⟩:=zL.mp hx';have zq:=ro.nn q hq;refine⟨⟨(Sz.of (n:=31) (10^9) ()).mono ⋯,(Sz.of (n:=31) (10^9) ()).mono ⋯,sy.mono ⋯,sz.mono ⋯,Sz.of 1000000 ()⟩,?_⟩;rw[Sx] at hK;show K' (inB g s q) S3;cases e:inB g s q<;>rw[e] at hK<;>exact hK
   .have hx':x∈rs.map frD:=hx;obtain⟨q,hq,rfl⟩:=zL.mp hx';rw[Sx] at hy;have e:frD q=y:=by
     split at hy
     .exact Option.some.inj hy
     .cases hy
    subst e;exact hK
   .refine Xq (Zq _ _) ?_;have e:((Zk (.lst (rs.map frD))).filterMap (wiD g s)).length=rs.countP (inB g s):=by
     show ((rs.map frD).filterMap (wiD g s)).length=_;rw[Ky,zD,uP]
    rw[e];exact hx _ _ ⟨Zu hw,rfl⟩
  rintro dl S3 ⟨hw3,rfl⟩;obtain⟨f1',f2,f3⟩:=zdK fs;have le:Q (.bl (decide (((fs.countP isO:Nat):Int)<=((rs.countP (inB g s):Nat):Int)))) S3:=by
   rw[decide_eq_true ()];exact h _
  cases e1:(fs.map Fw).any (·==("small":Str)) with
  | true=>
   refine Sq (neg:=false) (ws:=fs.map Fw) hw3 ?_;rw[if_neg ⋯,e1];refine RR (n:=nw) (ws:=fs.map Fw) (w:="one") kId hw3 kId ?_;rw[f1'];exact le
  | false=>
   refine Sq (neg:=false) (ws:=fs.map Fw) hw3 ?_;rw[if_neg ⋯,e1];cases e2:(fs.map Fw).any (·==("waits":Str)) with
   | true=>
    refine Sq (neg:=false) (ws:=fs.map Fw) hw3 ?_;rw[if_neg ⋯,e2];refine RR (n:=nw) (ws:=fs.map Fw) (w:="one") kId hw3 kId ?_;rw[f1'];exact le
   | false=>
    refine Sq (neg:=false) (ws:=fs.map Fw) hw3 ?_;rw[if_neg ⋯,e2];refine RR (n:=nw) (ws:=fs.map Fw) (w:="one") kId hw3 kId ?_;refine RR (n:=nw) (ws:=fs.map Fw) (w:="full") kId hw3 kId ?_;rw[f1',f2];have e:=c2 (by rw[<- f3,e1,e2];rfl)
    have z:=h S3;rw[<- decide_eq_true (show ((fs.countP isO:Nat):Int)+((fs.countP isF:Nat):Int)=((rs.countP (inB g s):Nat):Int) by lia)] at z;exact z⟩)
end
theorem ON (P:Params):clA (kq P) "Book" 812:=clU (by kernel_rfl)
theorem Of (P:Params):clA (kq P) "Number" 319:=clU (by kernel_rfl)
theorem P6 (P:Params):clA (kq P) "Unknown" 364:=clU (by kernel_rfl)
theorem Oi (P:Params):clA (kq P) "Plus" 442:=clU (by kernel_rfl)
theorem QS (P:Params):clA (kq P) "Minus" 489:=clU (by kernel_rfl)
theorem PK (P:Params):clA (kq P) "Times" 536:=clU (by kernel_rfl)
theorem OE (P:Params):clA (kq P) "Power" 581:=clU (by kernel_rfl)
theorem zhZ {l:W.OpenLaw}{w:World}{h:Heap}{mg:Str->Option Value}{fa:Addr}(X:(kq w.params).In h)(G:h.Ns mainGlobals mg)(hfa:mg "law"=some (.ref fa))
  :∃fd:FuncData,(∀(s:Shared)(v:Value),BindsTo s fd ⟨[v],[]⟩ [(q14,v)])/\∀base:Heap,(kq w.params).In base->base.Ns mainGlobals mg->BM mg base->Yi l.prog w (kq w.params) mg base (CXE l.prog w) 17 fa fd [q14] (upF (kq w.params) (S5 LT LP LQ)):=by
 let Zn:DZ (kq w.params) mg:=⟨812,W.mg_of X G (ON w.params).1,clC (ON w.params).2,noU,noU,(ON w.params).2.2.2.2.2.1,(ON w.params).2.2.2.2.2.2⟩
 let ZW:Dy (kq w.params) mg:=⟨319,W.mg_of X G (Of w.params).1,clC (Of w.params).2,noU,noU,(Of w.params).2.2.2.2.2.1,(Of w.params).2.2.2.2.2.2⟩
 let ZX:JR (kq w.params) mg:=⟨364,W.mg_of X G (P6 w.params).1,clC (P6 w.params).2,noU,(P6 w.params).2.2.2.2.2.1,(P6 w.params).2.2.2.2.2.2⟩
 let ZZ:Eg (kq w.params) mg:=⟨442,W.mg_of X G (Oi w.params).1,clC (Oi w.params).2,noU,noU,(Oi w.params).2.2.2.2.2.1,(Oi w.params).2.2.2.2.2.2⟩
 let Z2:EJ (kq w.params) mg:=⟨489,W.mg_of X G (QS w.params).1,clC (QS w.params).2,noU,noU,(QS w.params).2.2.2.2.2.1,(QS w.params).2.2.2.2.2.2⟩
 let Z1:Hs (kq w.params) mg:=⟨536,W.mg_of X G (PK w.params).1,clC (PK w.params).2,noU,noU,(PK w.params).2.2.2.2.2.1,(PK w.params).2.2.2.2.2.2⟩
 let ZJ:J9 (kq w.params) mg:=⟨581,W.mg_of X G (OE w.params).1,clC (OE w.params).2,noU,noU,(OE w.params).2.2.2.2.2.1,(OE w.params).2.2.2.2.2.2⟩
 let UK:Dm (kq w.params) Zn.C q85 "Book.to_look_at" RE T8:=dmo
 let WM:Df (kq w.params) mg "root" Qq Wt:=dfo X G
 let V0:Df (kq w.params) mg q68 KP Vt:=dfo X G
 let Wl:Df (kq w.params) mg q32 Te Vh:=dfo X G
 let U5:Df (kq w.params) mg "law" U4 NF:=dfo X G
 have Si:=W.mg_none_of X G (n:="list") (by kernel_rfl)
 have VW:=W.mg_none_of X G (n:="zip") (by kernel_rfl)
 have Y5:=W.mg_none_of X G (n:="max") (by kernel_rfl)
 have X3:=W.mg_none_of X G (n:="enumerate") (by kernel_rfl)
 have Wf:=W.mg_none_of X G (n:="min") (by kernel_rfl)
 have XO:=W.mg_none_of X G (n:="range") (by kernel_rfl)
 have YJ:=W.mg_none_of X G (n:="len") (by kernel_rfl)
 have UL:=W.mg_none_of X G (n:="all") (by kernel_rfl)
 have UZ:=W.mg_none_of X G (n:="sum") (by kernel_rfl)
 have RN:=W.mg_none_of X G (n:="abs") (by kernel_rfl)
 have LV:=W.mg_none_of X G (n:="int") (by kernel_rfl)
 have e:=hfa.symm.trans U5.m;cases e;refine⟨U5.fd,λs v=>.of_eq rfl,λbase kin _ hbm=>?_⟩;have LM_Book_to_look_at:Lm (kq w.params) mg base UK.fd LT:=⟨803,by kernel_rfl,ET _ base kin,hbm,λo e=>by rw[KN] at e;cases e⟩
 letI e:Ev5:=⟨l.prog,w,(kq w.params),mg,base,Zn,ZW,ZX,ZZ,Z2,Z1,ZJ,RN,UL,X3,LV,YJ,Si,Y5,Wf,XO,UZ,VW⟩
 let Tq:=AV (dmo )
 let Se:=zgm (dmo )
 let JE:=BU (dfo X G )
 let X0:=zgs (dfo X G ) JE
 let WE:=zdo (dfo X G ) X0
 let RH:=zg9 UK LM_Book_to_look_at WE
 let V9:=As (dfo X G )
 let NQ:=zf9 (dfo X G )
 let Xy:=C3 (dfo X G )
 let Ml:=CW (dfo X G ) Xy NQ
 let L6:=CM (dmo ) Ml
 let Kf:=zak (dmo )
 let YK:=zgg (dfo X G )
 let Li:=zhS (dmo ) YK
 let Ys:=AR (dfo X G )
 let ML:=zal (dmo ) Ys
 let Xn:=zek (dfo X G ) Xy
 let L1:=zeF (dmo ) Xn
 let YZ:=zhN (dfo X G )
 let UU:=A9 (dfo X G ) Xy YZ
 let KQ:=zax (dmo ) UU
 let UD:=zeU (dmo )
 let Tp:=zeW (dmo )
 let Tx:=zhF (dmo )
 let Ud:=LO KC (dmo )
 let Tj:=LO Mb (dmo )
 let Ug:=LO NK (dmo )
 let Ww:=zh6 (dfo X G ) UD Ug Tj Ud Tx Tp
 let Yn:=Cz (dfo X G ) KQ L1 ML Li Kf L6 Ww
 let V8:=zez (dfo X G ) V9 Yn
 let YY:=zcv (dfo X G )
 let JD:=zdT (dfo X G ) YY
 let NR:=zg3 (dmo )
 let KD:=zcI (dmo )
 let zdv:=zdP (dmo ) YY Ys
 let CP:=BJ (dmo ) YY Ys
 let NJ:=LX KC (dmo ) CP zdv
 let Bl:=CF (dmo ) YY YK
 let zgD:=C9 (dmo ) YY Ys
 let KA:=LX Mb (dmo ) zgD Bl
 let Nk:=BK (dfo X G )
 let W0:=zfZ (dfo X G )
 let OV:=zgJ (dfo X G ) Xy
 let Py:=BI (dfo X G ) W0 OV
 let NT:=zf0 (dfo X G )
 let TK:=zb4 (dfo X G ) NT
 let Xs:=zbH (dfo X G )
 let Ul:=zd8 (dfo X G ) TK Py Xs Nk
 let zd0:=zhw (dmo ) Ul
 let zcX:=zhA (dmo ) Ul
 let MP:=LX NK (dmo ) zcX zd0
 let OY:=zgr (dfo X G ) YZ
 let TB:=zcd (dfo X G ) OY
 let N_root:=Df.never (P:=l.prog) (w:=w) (base:=base) 0 WM
 let zhf:=zdN WM YZ TB Xs N_root
 let V5:=zfs WM YZ TB Xs zhf
 let KW:=zfU (dfo X G ) TK W0 Xs V5 YZ
 let Ka:=zf7 (dmo ) KW
 let M9:=zcc (dfo X G ) Ka MP KA NJ KD NR Ww JD Yn
 let MX:=zfl (dfo X G ) M9
 let VD:=zgZ (dfo X G )
 let MR:=zbI (dfo X G )
 let Jj:=zh5 (dfo X G ) V8 VD MR
 let Kv:=zdA (dfo X G )
 let Lp:=zgu (dfo X G ) Jj Kv MX V8
 let YH:=Bc (dmo )
 let Vc:=zed (dmo )
 let Wd:=zac (dmo ) YH Vc VD
 let Vs:=zhE (dfo X G ) Yn
 let Ke:=zgd (dfo X G ) YH Vs Wd Lp
 let Ut:=zeQ (dfo X G )
 let N5:=zgC (dfo X G ) Ut V9 Vs
 let Jo:=zaz (dfo X G )
 let Tu:=zby (dfo X G )
 let Mo:=CT (dmo )
 let LR:=zel (dmo )
 let zdq:=zcF (dmo ) YK
 let Kn:=Mn (λ_ _ p r _=>(p.1+r.1,p.2+r.2)) KC (λ_ _ _ _ _ _=>rfl) (λ_ _ _ _ _ _ _ _ _ z h=>h) (dmo ) zdq
 let zfm:=zcP (dmo ) Ys
 let Kr:=Mn (λ_ _ p r _=>(p.1-r.2,p.2-r.1)) Mb (λ_ _ _ _ _ _=>rfl) (λ_ _ _ _ _ _ _ _ _ z h=>h) (dmo ) zfm
 let zbx:=zfA (dmo ) YK Xn
 let Lg:=Mn (λx y p r g=>((Z6 x r g).1+(Z6 y p g).1,(Z6 x r g).2+(Z6 y p g).2)) NK (λ_ _ _ _ _ _=>rfl) (λ_ _ _ _ _ _ _ _ _ z h=>⟨z,h⟩) (dmo ) zbx
 let M0:=zhx (dfo X G )
 let M3:=zhH (dmo ) Xn M0 UU
 let TH:=zaY (dfo X G ) M3 Lg Kr Kn LR Mo Ww Yn
 let LJ:=zc0 (dfo X G ) Tu TH
 let U8:=ze9 (dfo X G )
 let Uq:=zgA (dfo X G )
 let zdn:=Af Wl (Df.never (P:=l.prog) (w:=w) (base:=base) 0 V0)
 let Bv:=RP 0 ⋯ V0 U8 zdn Uq
 let Al:=Nj 0 ⋯ Wl Bv
 let zfC:=RP 1 ⋯ V0 U8 Al Uq
 let zfO:=Nj 1 ⋯ Wl zfC
 let zft:=RP 2 ⋯ V0 U8 zfO Uq
 let Bb:=Nj 2 ⋯ Wl zft
 let WU:=RP 3 ⋯ V0 U8 Bb Uq
 let Sk:=Nj 3 ⋯ Wl WU
 let Kt:=zd3 (dfo X G ) WU
 let Mj:=zdC (dfo X G ) Kt
 let MH:=zeq (dfo X G ) Mj Sk
 let Tc:=Be (dfo X G )
 let U7:=zaS (dfo X G ) Tc
 let WG:=zgk (dfo X G ) U7
 let V3:=AG (dfo X G ) YK Xn
 let Ju:=zhi (dfo X G ) Ys V3
 let Je:=zhL (dfo X G ) YK V3 Ys Ju WG
 let Kq:=BB (dfo X G ) Je
 let Mc:=zfV (dfo X G ) Tu Yn WG
 let Jb:=Ay (dfo X G )
 let KH:=zbM (dfo X G ) Jb
 let Kp:=zbw (dfo X G ) Ut
 let Ki:=Bg (dfo X G ) KH Kq Mc MH U7 LJ Kp Yn Jo
 let N6:=zbN (dfo X G ) TH Yn WG Ki
 let K5:=zhy (dfo X G ) WE N6 N5 Yn
 let NL:=zha (dfo X G ) X0
 let JF:=za0 (dfo X G ) Wd Tc X0 WE
 let Mm:=zcg (dfo X G ) YH NL JF K5 Ke
 let Jn:=zg7 (dfo X G ) Se Mm RH Tq
 let ME:=zeI (dfo X G )
 let TM:=A1 (dfo X G ) ME
 let Rw:=zfu (dfo X G ) TM
 let XX:=zco (dfo X G )
 let UG:=zhV (dfo X G ) XX
 let Ji:=zbC (dfo X G )
 let Xd:=zeJ (dfo X G )
 let MU:=zdm (dfo X G ) Xd Ji UG Rw
 let Xh:=Ak (dfo X G )
 let Mz:=Ad (dfo X G ) Xh TM
 let MQ:=zgh (dfo X G ) Xh UG Mz
 let VX:=zbe (dfo X G )
 let Jx:=zhs (dfo X G ) VX
 let G_law:=CO U5 VX Jx Jn Xd MU MQ
 exact G_law.ok
end Mine
open PySem PySem.W PyProof.Rows
set_option maxRecDepth 100003 in
set_option maxHeartbeats 0 in
theorem PySem.Challenge.cw_boxnarrow_k92_whole_count_of_roots_holds : PySem.Challenge.rw_boxnarrow_k92_whole_count_of_roots.Holds := by
 w_on;refine PySem.W.holds_law Mine.ws_eq λsaid=>?_
 refine PySem.W.holds_open (q:=Mine.vw) (loose:=[]) (Xt:=Mine.xt) (XP:=XL Mine.vw []) (Yf:=Hook.obs (kHook Mine.kp Mine.ks Mine.W7)) (Ya:=Hook.val (kHook Mine.kp Mine.ks Mine.W7))
  (YP:=Hook.says (kHook Mine.kp Mine.ks Mine.W7)) (N:=6514) Mine.left (Hook.of (kHook Mine.kp Mine.ks Mine.W7)) (Hook.keeps (kHook Mine.kp Mine.ks Mine.W7)) (λs e=>xl_of s (tS.mp e).1) XL.keeps
  (by rfl) (by rfl) (by rfl) (λs e=>recFacts_of (tS.mp e).2) (by rfl) (by first|assumption|decide +kernel)
  (by decide +kernel) ⟨rfl,rfl,rfl,rfl,rfl,by decide +kernel⟩ ?hw ?hc
 (case hw=>w_witness2)
 refine L3.zcY (l:=PySem.Challenge.rw_boxnarrow_k92_whole_count_of_roots) (x:="_law_script") (K:=Mine.kq) (P:=Mine.LT) (c:=nat_lit 803) (ps:=#[]) (lp:=Mine.LP) (lq:=Mine.LQ) 17 rfl rfl ⟨rfl,⋯,⋯⟩ (λw h Y=>⟨Mine.in_kq Y,Mine.zh7 Y⟩) Mine.ET Mine.KN trivial rfl ?F
 case F=>
  intro w mg fa h KX G hmg;exact Mine.zhZ KX G hmg
