import PyProof.Rows.All
import Wide.All
import OpenK.AllK
import Wide.FinOn
import Lean
import PyProof.EqAt
import PyProof.EqKinds
import PyProof.TupleCall
import KE.KLam
import KE.KMinKey
import PySem.Challenge.RW_boxnarrow_k58_enough_looks
def zA:=@List.getElem?_eq_some_iff
def zB:=@Nat.le_refl
def zC:=@List.length_map
def zD:=@List.getElem?_eq_getElem
def zE:=@List.getElem?_map
def zF:=@List.mem_of_getElem?
def zG:=@Int.toNat_natCast
def zH:=@List.mem_map
def zI:=@Option.map_eq_some_iff
def zJ:=@Nat.zero_le
def zK:=@List.length_take
def zL:=@List.getElem?_append_left
def zN:=@List.size_toArray
def zO:=@Bool.false_ne_true
def zP:=@Nat.ne_of_lt
def zQ:=@List.getElem?_set_ne
def zR:=@List.getD_eq_getElem?_getD
def zS:=@Nat.lt_of_lt_of_le
def zT:=@List.mem_singleton
def zU:=@Int.pow_succ
def zV:=@Int.le_refl
def zW:=@List.lookup_cons
def zX:=@List.map_map
def zY:=@List.mem_cons
def zZ:=@Int.neg_mul
def yA:=@List.length_set
def yB:=@List.length_append
def yC:=@List.map_append
def yD:=@Int.pow_pos
def yE:=@List.mem_append
def yF:=@Nat.le_trans
def yG:=@List.length_cons
def yH:=@List.take_length
def yI:=@List.mem_cons_of_mem
def yJ:=@Nat.pow_pos
def yK:=@Int.le_of_lt
def yL:=@List.getElem?_append_right
def yM:=@List.take_of_length_le
def yN:=@Int.mul_nonneg
def yO:=@List.getElem_mem
def yP:=@List.mem_iff_getElem
def yQ:=@List.getElem?_eq_none
def yR:=@Nat.lt_irrefl
def yS:=@List.getElem?_set_self
def yT:=@List.mem_range
def yU:=@Nat.le_of_lt
def yV:=@List.mem_cons_self
def yW:=@List.mem_append_right
def yX:=@Option.isSome_iff_exists
def yY:=@List.getElem?_eq_none_iff
def yZ:=@Nat.ne_of_gt
def xA:=@List.foldl_append
def xB:=@List.map_cons
def xD:=@List.append_assoc
def xE:=@Int.mul_zero
def xG:=@Bool.eq_iff_iff
def xH:=@List.append_nil
def xI:=@Int.mul_le_mul_of_nonneg_right
def xJ:=@Int.le_trans
def xK:=@Int.toNat_of_nonneg
def xN:=@Nat.le_succ
def xO:=@List.nodup_cons
def xP:=@Nat.lt_of_le_of_lt
def xQ:=@Int.mul_comm
def xR:=@List.take_succ
def xS:=@Int.mul_pos
def xT:=@List.map_take
def xU:=@List.ext_getElem?
def xV:=@Nat.le_of_eq
def xW:=@Nat.lt_succ_self
def xX:=@Int.lt_of_le_of_lt
def xY:=@Bool.false_eq_true
def xZ:=@Int.pow_zero
def wA:=@Nat.mul_le_mul
def wB:=@Nat.sub_self
def wC:=@Bool.false_and
def wD:=@List.of_mem_zip
def wF:=@List.getElem?_replicate
def wG:=@List.getElem?_take_of_lt
def wH:=@List.length_drop
def wJ:=@List.replicate_succ
def wK:=@Int.emod_lt_of_pos
def wL:=@Int.emod_add_mul_ediv
def wM:=@Nat.lt_or_ge
def wN:=@Option.map_some
def wO:=@List.range_succ
def wQ:=@Nat.le_add_right
def wR:=@Int.pow_nonneg
def wU:=@List.getElem?_range
def wV:=@List.length_zipWith
def wW:=@Int.one_mul
def wX:=@List.length_zip
def wY:=@List.mem_of_mem_take
def wZ:=@List.mem_of_mem_drop
def vA:=@List.mem_iff_getElem?
def vB:=@List.map_congr_left
def vC:=@List.take_append_drop
def vD:=@List.mem_filter
def vE:=@List.filterMap_cons
def vF:=@List.mem_filterMap
def vG:=@List.flatten_cons
def vH:=@Int.zero_add
def vI:=@Nat.log2_lt
def vJ:=@Nat.pow_succ
def vK:=@Int.emod_nonneg
def vL:=@Int.natAbs_pow
def vM:=@Int.mul_le_mul_of_nonneg_left
def vN:=@List.any_eq_true
def vO:=@List.set_append_right
def vP:=@Int.not_lt
def vQ:=@Int.le_of_mul_le_mul_right
def vR:=@Int.zero_mul
def vS:=@Nat.add_sub_cancel
def vT:=@List.take_append_of_le_length
def vU:=@Nat.sub_mul
def vV:=@Int.mul_lt_mul_of_pos_right
def vW:=@Int.neg_neg
def vX:=@Int.neg_le_neg
def vY:=@Int.mul_nonpos_of_nonpos_of_nonneg
def vZ:=@Int.mul_nonneg_of_nonpos_of_nonpos
def uA:=@Int.mul_neg
def uB:=@Bool.true_and
def uC:=@Int.le_ediv_iff_mul_le
def uD:=@Int.pow_mul
def uE:=@Int.ediv_nonneg
def uF:=@List.not_mem_nil
def uG:=@Nat.min_eq_left
def uH:=@Nat.lt_trichotomy
def uI:=@Nat.lt_succ_of_le
def uJ:=@Nat.zero_add
def uK:=@List.map_eq_nil_iff
def uL:=@Option.bind_eq_some_iff
def uM:=@List.mem_append_left
def uN:=@List.length_replicate
def uP:=@Option.getD_none
def uQ:=@Int.fdiv_eq_ediv_of_nonneg
def uR:=@Nat.pow_le_pow_right
def uS:=@List.forIn_cons
def uT:=@List.getElem?_cons_succ
def uU:=@List.all_eq_true
def uV:=@List.getElem?_take
def uW:=@List.length_eq_zero_iff
def uX:=@Int.ediv_mul_le
def uY:=@List.zipWith_append
def uZ:=@List.take_zipWith
def tD:=@Int.lt_of_lt_of_le
def tE:=@Int.lt_of_mul_lt_mul_right
def tF:=@Int.mul_nonpos_of_nonneg_of_nonpos
def tG:=@Int.natCast_add
def tH:=@Int.ediv_lt_iff_lt_mul
def tI:=@Int.natCast_mul
def tJ:=@List.mem_or_eq_of_mem_set
def tK:=@List.getElem?_zipWith
def tL:=@List.filterMap_append
def tM:=@List.drop_of_length_le
def tN:=@Int.natAbs_ediv_le_natAbs
def tO:=@Bool.and_eq_true
def tP:=@List.filter_append
def tQ:=@List.filter_nil
def tS:=@List.length_mapIdx
def tT:=@Int.gcd_dvd_right
def tU:=@Nat.add_right_comm
def tV:=@List.length_range
def tW:=@List.zipWith_map
def tX:=@List.getElem?_mapIdx
def tY:=@Bool.and_eq_true_iff
set_option Elab.async false
set_option linter.all false
local macro_rules|`(())=>`(by lia)
local macro_rules|`(⋯)=>`(by decide)
set_option maxRecDepth 100000
set_option genSizeOf false
set_option bootstrap.genMatcherCode false
set_option compiler.extract_closed false
set_option genInjectivity false
set_option maxHeartbeats 40000000
abbrev LI:=List (Int×Int)
abbrev LA:=List (PySem.Addr×PySem.Obj)
abbrev QW:=PySem.Challenge.pw_boxnarrow_k58_enough_looks
abbrev Fg:=PySem.W.Frag
namespace L2
open PySem PySem.Spec PyProof.Rows
def XA (s:Stmt)(j:Nat):Stmt:=match s with
 | .ClassDef _ _ _ body _ _ _ _ _ _ _=>body.getD j (.Pass ⟨0,0,0,0⟩)
 | _=>.Pass ⟨0,0,0,0⟩
def W4 (s:Stmt):Arguments:=match s with
 | .FunctionDef _ a _ _ _ _ _ _ _ _=>a
 | _=>{ posonlyargs:=[],args:=[],vararg:=none,kwonlyargs:=[],kw_defaults:=[],kwarg:=none,defaults:=[] }
def YS (s:Stmt):List Stmt:=match s with
 | .FunctionDef _ _ b _ _ _ _ _ _ _=>b
 | _=>[]
def Zw (s:Stmt):Scope:=match s with
 | .FunctionDef _ _ _ _ _ _ sc _ _ _=>sc
 | _=>{ kind:=.function,names:=[],isGenerator:=false,isCoroutine:=false }
end L2
namespace L3
open PySem PySem.W PyProof.Rows PySem.Calls
theorem Pe {α β γ δ:Type}{f:α->Option β}{A:β->γ}{B:β->δ}{a:γ}{b:δ}(h1:(λx=>(f x).map A)=λ_=>some a)(h2:(λx=>(f x).map B)=λ_=>some b):(λx=>(f x).map λs=>(A s,B s))=λ_=>some (a,b):=by
 funext x;have e1:=congrFun h1 x
 have e2:=congrFun h2 x;cases h:f x with
 | none=>rw[h] at e1;cases e1
 | some s=>
  rw[h] at e1 e2;exact congrArg some (Prod.ext (Option.some.inj e1) (Option.some.inj e2))
def goT (tb:String->Option Builtin)(p:Program)(w:World)(n₀:Nat)(ann:Option Value):Nat->SharedT->Thread->Option SharedT
 | 0,_,_=>none
 | k+1,s,t=>bif through t then some s else bif stepOk n₀ ann t then (stepT (denote tb) p w s t).bind (λr=>goT tb p w n₀ ann k r.1 r.2) else none
theorem Ow:∀ {n:Nat} {s s':SharedT} {t:Thread},goT tb p w n₀ ann n s t=some s'->topRun tb p w n₀ ann n s.abs t=some s'.abs
 | 0,_,_,_,q=>nomatch q
 | n+1,s,s',t,q=>by
  unfold goT at q;unfold topRun;cases c1:through t
  .rw[c1] at q;cases c2:stepOk n₀ ann t
   .rw[c2] at q;exact nomatch q
   .rw[c2] at q;obtain⟨⟨s2,t2⟩,c3,q⟩:=uL.mp q;rw[stepT_spec c3];exact Ow q
  .rw[c1] at q;cases q;rfl
def Qp (os:Array Obj):Nat->Nat->Nat->BT
 | 0,_,_=>.nil
 | f+1,a,b=>match os[b]? with
  | some o=>.node o (Qp os f (2*a) (a+b)) (Qp os f (2*a) (2*a+b))
  | none=>.nil
noncomputable def bootT (P:Params):BT:=Qp (boot_heap P).objs 6 1 0
noncomputable abbrev UD (w:World)(os:OsState):SharedT:=⟨bootT w.params,11,(boot_heap w.params).life,Array.mk [],boot_drawn,boot_toks,os⟩
def Tr (s:SharedT)(a:Addr):Option Obj:=if a<s.n then (match s.tree.get a with|some o=>alive o|none=>s.abs.heap.get? a) else none
theorem C6 (s:SharedT)(a:Addr):s.abs.heap.get? a=Tr s a:=by
 unfold Tr;split
 .rename_i h;cases e:s.tree.get a with
  | none=>rfl
  | some o=>exact abs_get h e
 .rename_i h;exact abs_get_none h
theorem EH (l:List Addr)(s:SharedT):l.map s.abs.heap.get?=l.map (Tr s):=vB λa _=>C6 s a
noncomputable abbrev seenT (p q:Program)(aH:List Str)(Xt:Shared->Bool){α:Type}(YT:SharedT->α)(g0:Bool)(w:World)(s:SharedT):=
 ((staticsOk (importedModules p.main.body) (boot_heap w.params) s.abs.heap&&namesBound p s.abs.heap&&gensDone s.abs&&laidKept (boot_heap w.params) s.abs.heap),openSeen q aH (importedModules p.main.body) Xt g0 s.abs,YT s)
noncomputable abbrev QQ (p:Program)(w:World)(s:SharedT):Bool:=staticsOk (importedModules p.main.body) (boot_heap w.params) s.abs.heap&&namesBound p s.abs.heap&&gensDone s.abs&&laidKept (boot_heap w.params) s.abs.heap
def goK (tb:String->Option Builtin)(p:Program)(w:World)(n₀:Nat)(ann:Option Value):Nat->SharedT->Thread->Option (SharedT×Thread)
 | 0,s,t=>some (s,t)
 | k+1,s,t=>bif through t then none else bif stepOk n₀ ann t then (stepT (denote tb) p w s t).bind (λr=>goK tb p w n₀ ann k r.1 r.2) else none
theorem OI:∀ {n:Nat} {s s':SharedT} {t t':Thread},goK tb p w n₀ ann n s t=some (s',t')->topGo tb p w n₀ ann n s.abs t=some (s'.abs,t')
 | 0,_,_,_,_,q=>by cases q;rfl
 | n+1,s,s',t,t',q=>by
  unfold goK at q;unfold topGo;cases c1:through t
  .rw[c1] at q;cases c2:stepOk n₀ ann t
   .rw[c2] at q;exact nomatch q
   .rw[c2] at q;obtain⟨⟨s2,t2⟩,c3,q⟩:=uL.mp q;rw[stepT_spec c3];exact OI q
  .rw[c1] at q;exact nomatch q
theorem Gi {p:Program}{w:World}{os:OsState}{ann:Option Value}{env:Env}{c:Code}{posa posb q:Pos}{n0 nb N2 N:Nat}{Sa Sb s':SharedT}(hc:c=Code.body (behindTheImports p) env)
  (pre:goK treeTable p w 11 ann n0 (UD w os) (topStub p)=some (Sa,⟨denote treeTable c,c,posa,[topFrame q]⟩))
  (block:segRunT treeTable p w 11 ann 1 nb Sa (blockOf (behindTheImports p) env c posa [topFrame q])=some (.next,Sb,c,posb))
  (e:n0+(nb+N2)=N)(r:topRun treeTable p w 11 ann N2 Sb.abs (restOf (behindTheImports p) env c posb [topFrame q])=some s'.abs):topRun treeTable p w 11 ann N (UD w os).abs (topStub p)=some s'.abs:=by
 subst e hc;exact go_top (OI pre) (piece_block (segRun_of block) r)
theorem N9 {p:Program}{w:World}{ann:Option Value}{env:Env}{c:Code}{pos1 aL q:Pos}{l:List Stmt}{n1 N2 m:Nat}{S1 S2 s':SharedT}
  (p1:segRunT treeTable p w 11 ann 1 n1 S1 (piecesOf (l.take m) env c pos1 [topFrame q])=some (.next,S2,c,aL))
  (r:topRun treeTable p w 11 ann N2 S2.abs (restOf (l.drop m) env c aL [topFrame q])=some s'.abs):topRun treeTable p w 11 ann (n1+N2) S1.abs (restOf l env c pos1 [topFrame q])=some s'.abs:=by
 have z:=piece_app (segRun_of p1) r;rw[vC] at z;exact z
theorem Ga {p q:Program}{aH:List Str}{Xt:Shared->Bool}{α:Type}{Yf:Shared->α}{YT:SharedT->α}{Ya:World->α}{N:Nat}{g0:Bool}{ann:Option Value}{go:World->OsState->Option SharedT}(hY:∀s:SharedT,Yf s.abs=YT s)(e:opening p=plainProg p.main.scope.names)(hN:Nat.ble 600 N=true)(f:∀s,fenceModules? p s=some s)
  (size:∀w:World,((boot_heap w.params).isNs mainGlobals&&(Array.mk []:Array GenState).size==0,(boot_heap w.params).objs.size,(boot_heap w.params).nsMap mainGlobals "__annotations__")=(true,11,ann))
  (hgo:∀w os s',go w os=some s'->topRun treeTable p w 11 ann N (UD w os).abs (topStub p)=some s'.abs)
  (run:∀w:World,(λos=>(go w os).map λs=>seenT p q aH Xt YT g0 w s)=λ_=>some (true,openGood q aH,Ya w)):LeftO p q aH Xt Yf Ya N g0:=λw=>by
 obtain⟨⟨h,gs,d,k,os⟩,e1,e'⟩:=zI.mp (boot_open e hN f w);obtain⟨rfl,rfl,rfl,rfl⟩:h=boot_heap w.params/\gs=Array.mk []/\d=boot_drawn/\k=boot_toks:=by simpa using e'
 obtain⟨y1,y2,y3⟩:_/\_/\_:=by simpa only [Prod.mk.injEq] using size w
 obtain⟨s',r1,r2⟩:=zI.mp (congrFun (run w) os);obtain⟨l1,l2,l3⟩:_/\_/\_:=by simpa only [Prod.mk.injEq] using r2
 have r:topRun treeTable p w 11 ann N ⟨boot_heap w.params,Array.mk [],boot_drawn,boot_toks,os⟩ (topStub p)=some s'.abs:=hgo w os s' r1
 have t:topFrom treeTable p w N ⟨boot_heap w.params,Array.mk [],boot_drawn,boot_toks,os⟩=some s'.abs:=by
  unfold topFrom;dsimp only;rw[y1,y2,y3,r];show (match staticsOk (importedModules p.main.body) (boot_heap w.params) s'.abs.heap&&namesBound p s'.abs.heap&&gensDone s'.abs&&laidKept (boot_heap w.params) s'.abs.heap with|true=>_|false=>_)=_;rw[l1]
 unfold openEnds;rw[e1];show Option.map _ (topFrom treeTable p w N _)=_;rw[t];exact congrArg some (Prod.ext l2 ((hY s').trans l3))
theorem GX {p q:Program}{aH:List Str}{Xt:Shared->Bool}{α:Type}{Yf:Shared->α}{YT:SharedT->α}{Ya:World->α}{N:Nat}{g0:Bool}{ann:Option Value}{go:World->OsState->Option SharedT}(hY:∀s:SharedT,Yf s.abs=YT s)(e:opening p=plainProg p.main.scope.names)(hN:Nat.ble 600 N=true)(f:∀s,fenceModules? p s=some s)
  (size:∀w:World,((boot_heap w.params).isNs mainGlobals&&(Array.mk []:Array GenState).size==0,(boot_heap w.params).objs.size,(boot_heap w.params).nsMap mainGlobals "__annotations__")=(true,11,ann))
  (hgo:∀w os s',go w os=some s'->topRun treeTable p w 11 ann N (UD w os).abs (topStub p)=some s'.abs)
  (ra:∀w:World,(λos=>(go w os).map λs=>(QQ p w s,(openSeen q aH (importedModules p.main.body) Xt g0 s.abs).1))=λ_=>some (true,(openGood q aH).1))
  (rb:∀w:World,(λos=>(go w os).map λs=>((openSeen q aH (importedModules p.main.body) Xt g0 s.abs).2.1,(openSeen q aH (importedModules p.main.body) Xt g0 s.abs).2.2.1))=λ_=>some ((openGood q aH).2.1,(openGood q aH).2.2.1))
  (rc:∀w:World,(λos=>(go w os).map λs=>(openSeen q aH (importedModules p.main.body) Xt g0 s.abs).2.2.2)=λ_=>some (openGood q aH).2.2.2)
  (objs:∀w:World,(λos=>(go w os).map YT)=λ_=>some (Ya w)):LeftO p q aH Xt Yf Ya N g0:=by
 refine Ga hY e hN f size hgo λw=>funext λos=>?_
 obtain⟨s1,a1,b1⟩:=zI.mp (congrFun (ra w) os);obtain⟨s2,a2,b2⟩:=zI.mp (congrFun (rb w) os);obtain⟨s3,a3,b3⟩:=zI.mp (congrFun (rc w) os);obtain⟨s4,a4,b4⟩:=zI.mp (congrFun (objs w) os);rw[a1] at a2 a3 a4;cases a2;cases a3;cases a4;obtain⟨l1,l2⟩:=Prod.mk.inj b1;obtain⟨l3,l4⟩:=Prod.mk.inj b2;have l5:openSeen q aH (importedModules p.main.body) Xt g0 s1.abs=openGood q aH:=Prod.ext l2 (Prod.ext l3 (Prod.ext l4 b3));rw[a1];show some (QQ p w s1,openSeen q aH (importedModules p.main.body) Xt g0 s1.abs,YT s1)=some (true,openGood q aH,Ya w);rw[l1,l5,b4]
def frc {α:Type}:BT->(BT->α)->α
 | .nil,k=>k .nil
 | .node o l r,k=>frc l λl'=>frc r λr'=>k (.node o l' r')
theorem RV:∀(t:BT)(k:BT->α),frc t k=k t
 | .nil,_=>rfl
 | .node o l r,k=>by
  show frc l (λl'=>frc r λr'=>k (.node o l' r'))=_;rw[RV l,RV r]
def odB:List Obj->List Obj
 | x::_::r=>x::odB r
 | l=>l
def evB:List Obj->List Obj
 | _::y::r=>y::evB r
 | _=>[]
def mkB:Nat->List Obj->BT
 | d+1,o::l=>.node o (mkB d (odB l)) (mkB d (evB l))
 | _,_=>.nil
abbrev tpO (l:List Value):Obj:=⟨.type "tuple",none,.seq ⟨l⟩ 0,#[]⟩
abbrev fdO (l:List Value):Obj:=⟨.none,none,.fields ⟨l⟩,#[]⟩
def nmO:Nat->List Str->List Value
 | _,[]=>[]
 | t,x::r=>.str x t::nmO (t+1) r
abbrev coO (n q:Str)(t j:Nat)(i k:Int)(a s:Nat)(y z:Value)(f:Nat):Obj:=⟨.type "code",none,.fields #[.str n t,.str q (t+1),.str "/claim/cut.py" (t+2),.int i 0,.int k 0,.int 0 0,.int 0 0,.int 3 0,.ref a,.bool Bool.true,.int 181 0,.ref s,.none,y,z,.ref f,.int j 0,.int i 0,.str "/claim/cut.py" (j+1)],#[]⟩
abbrev fuO (n q:Str)(st:Stmt)(m d:Value):Obj:=⟨.type "function",none,.func (W.fnOf n q (L2.W4 st) (L2.YS st) (L2.Zw st) .none .none .none m none d .none),#[]⟩
abbrev fnO (n q:Str)(st:Stmt):Obj:=⟨.none,none,.func { W.fnOf n q (L2.W4 st) (L2.YS st) (L2.Zw st) .none .none .none .none none .none .none with globals:=0 },#[]⟩
def df (n q:Str)(st:Stmt)(m:Value)(i k:Int)(a t:Nat)(vs:List Str):List Obj:=[tpO [],fdO [],tpO (nmO (t+3) vs),tpO [],fnO n q st,coO n q t (t+3+vs.length) i k a (a+1) (.ref (a+2)) (.ref (a+3)) (a+4),fuO n q st m (.ref (a+5))]
def dg (n q:Str)(st:Stmt)(m:Value)(i k:Int)(a t:Nat):List Obj:=[tpO [],fdO [],fnO n q st,coO n q t (t+3) i k a (a+1) .none .none (a+2),fuO n q st m (.ref (a+3))]
end L3
namespace Mine
open PySem PySem.Spec PyProof.Rows L2 L3
theorem kId {α:Type}{p:α->Prop}(K:α)(h:p K):p K:=h
def top (i:Nat):Stmt:=QW.main.body.getD i (.Pass ⟨0,0,0,0⟩)
theorem ws_eq:W.OpenLaw.wellSaid PySem.Challenge.rw_boxnarrow_k58_enough_looks=true:=by
 unfold W.OpenLaw.wellSaid
 repeat' (with_reducible refine W.look_both ?_ ?_)
 all_goals decide +kernel
def vw:Program:={ QW with main:={ QW.main with body:=[top 0,top 2,top 3,top 4,top 5,top 6,top 7,top 8,top 10,top 11,top 13,top 14,top 16,top 17,top 18,top 19,top 20,top 21,top 22,top 23,top 24,top 25,top 26,top 27,top 29,top 30,top 31,top 32,top 33,top 34,top 35,top 36,top 37,top 38,top 39,top 41,top 42,top 43,top 44,top 45,top 46,top 47,top 48,top 49,top 51,top 52,top 53,top 55,top 57,top 58,top 59,top 60,top 61,top 62,top 63,top 64,top 65,top 66,top 67,top 68,top 69,top 71,top 72,top 73,top 75,top 76,top 77,top 78,top 79,top 80,top 82,top 83,top 84,top 85,top 86,top 87,top 88,top 89,top 90,top 91,top 92,top 93,top 95,top 96,top 97,top 98,top 99,top 100,top 101,top 102,top 103,top 104,top 105,top 106,top 107] } }
noncomputable abbrev de (P:Params)(s:Str)(t:Tok)(v:Value):DictEntry:=⟨PySem.PyData.keyHash P s,.str s t,v⟩
abbrev co (n q:Str)(a b c d:Tok)(i k:Int)(r s:Addr)(y z:Value)(t:Addr)(j:Int):Obj:=⟨.type "code",none,.fields #[.str n a,.str q b,.str "/claim/cut.py" c,.int i 0,.int k 0,.int 0 0,.int 0 0,.int 3 0,.ref r,.bool Bool.true,.int 181 0,.ref s,.none,y,z,.ref t,.int j 0,.int i 0,.str "/claim/cut.py" d],#[]⟩
abbrev fo (n q:Str)(st:Stmt)(m:Value)(c:Addr):Obj:=⟨.type "function",none,.func (W.fnOf n q (W4 st) (YS st) (Zw st) .none .none .none m none (.ref c) .none),#[]⟩
abbrev xt (s:Shared):Bool:=W.xlAt vw [] s&&W.recOk (W.RowW.records (W.OpenRow.toRowW (W.OpenLaw.row PySem.Challenge.rw_boxnarrow_k58_enough_looks))) s
theorem Pm:W.opening QW=W.plainProg QW.main.scope.names:=by kernel_rfl
theorem fe_eq (s:Shared):PySem.fenceModules? QW s=some s:=by kernel_rfl
theorem si_eq (w:World):((W.boot_heap w.params).isNs mainGlobals&&(Array.mk []:Array GenState).size==0,(W.boot_heap w.params).objs.size,(W.boot_heap w.params).nsMap mainGlobals "__annotations__")=(true,11,some (.ref 6)):=by kernel_rfl
open PySem.W PySem.Calls
def ev:Env:={ scope:=QW.main.scope,locals:=mainNs,globals:=mainNs,cells:=[],code:=.ref 13,frame:=some 14 }
abbrev bI:List Stmt:=behindTheImports QW
abbrev cE:Code:=Code.body bI ev
abbrev fT:List Frame:=[topFrame ⟨0,0,0,0⟩]
noncomputable abbrev mS (k:Nat)(l:Params->List Obj)(n t:Nat)(w:World)(os:OsState):SharedT:=⟨L3.mkB k (l w.params),n,(boot_heap w.params).life,Array.mk [],boot_drawn,t,os⟩
abbrev q0:Str:="boxnarrow.kinds"
abbrev q1:Str:="__static_attributes__"
abbrev q2:Str:="__firstlineno__"
abbrev q3:String:="object.__init_subclass__"
abbrev q4:Str:="__module__"
abbrev q5:String:="type.__prepare__"
abbrev q6:String:="object.__new__"
abbrev q7:Str:="law_boxnarrow_k58_enough_looks"
abbrev q8:Str:="__qualname__"
abbrev q9:String:="object"
abbrev q10:Str:="__doc__"
abbrev q11:Str:="boxnarrow.errors"
abbrev q12:Str:="boxnarrow.search"
abbrev q13:Str:="__init__"
abbrev q14:String:="getset_descriptor"
abbrev q15:Str:="slope_of_both"
abbrev q16:String:="ExceptionGroup.__weakref__"
abbrev q17:Str:="exact"
abbrev q18:Str:="forth"
abbrev q19:Str:="__weakref__"
abbrev q20:Str:="second_left"
abbrev q21:Str:="first_left"
abbrev q22:Str:="_law_script"
abbrev r (n:Addr):Value:=.ref n
abbrev sr (n:Addr):Option Value:=some (.ref n)
noncomputable abbrev dr (P:Params)(s:Str)(t:Tok)(n:Addr):DictEntry:=de P s t (.ref n)
noncomputable abbrev dn (P:Params)(s:Str)(t:Tok):DictEntry:=de P s t .none
abbrev dO (l:Array DictEntry)(n:Nat):Obj:=.mk (.type "dict") none (.dict l n) #[]
abbrev bO (s:String)(v:Value):Obj:=.mk (.type "builtin_function_or_method") none (.fields #[.builtin s,v]) #[]
abbrev cO (a:Str)(t1:Tok)(b:Str)(t2 t3:Tok)(l:Int)(x:Addr)(m:Int)(y:Addr)(k l2:Int)(t4:Tok):Obj:=.mk (.type "code") none (.fields #[.str a t1,.str b t2,.str "/claim/cut.py" t3,.int l 0,.int 0 0,.int 0 0,.int 0 0,.int 0 0,.ref x,.bool Bool.false,.int m 0,.ref y,.none,.none,.none,.none,.int k 0,.int l2 0,.str "/claim/cut.py" t4]) #[]
abbrev gO (a b c:Addr)(s:Value)(d:Addr):Obj:=.mk (.type "frame") none .plain #[some (.ref a),some (.ref b),some (.ref c),none,some s,none,some (.ref d)]
abbrev cp (n q:Str)(t:Tok)(i k:Int)(a:Addr)(j:Tok):Obj:=co n q t (t+1) (t+2) (j+1) i k a (a+1) (.ref (a+2)) (.ref (a+3)) (a+4) j
abbrev fp (n q:Str)(k:Nat)(m:Str)(t:Tok)(c:Addr):Obj:=fo n q (top k) (.str m t) c
abbrev fq (l:List (Int×Addr))(c:Int):Obj:=fdO (l.flatMap λx=>[.int x.1 0,.int c 0,.ref x.2])
abbrev tyO (nw:String)(n:Str)(bs ms:List Value)(d:Addr)(ss:List Value)(b:Addr)(t1 t2:Tok):Obj:=.mk (.type "type") none (.cls (PySem.ClassData.mk n bs ms d n Bool.true [] ss Bool.false none Bool.false)) #[some (.ref b),none,some (.str n t1),some (.str n t2),some (.builtin nw),some (.bool Bool.true)]
abbrev uO (a:Addr):Obj:=.mk (.type "super") none (.fields #[.ref a,.ref a,.ref a]) #[]
noncomputable def mO0 (P:Params):List Obj:=[boot_o_0 P,boot_o_1 P,boot_o_2 P,boot_o_3 P,boot_o_4 P,boot_o_5 P,boot_o_6 P,boot_o_7 P,boot_o_8 P,boot_o_9 P,boot_o_10 P]++[tpO [],fdO [],(cO "<module>" 182 "<module>" 183 184 1 11 181 12 185 1 186),(gO 13 3 3 (.str "__main__" 164) 0)]
noncomputable def S0:=mS 5 mO0 15 187
theorem EN (w:World):(λos=>L3.goK treeTable QW w 11 (some (.ref 6)) 12 (L3.UD w os) (topStub QW))=λos=>some (S0 w os,⟨denote treeTable cE,cE,⟨0,0,0,0⟩,fT⟩):=by kernel_rfl
theorem CK (w:World):(λos=>segRunT treeTable QW w 11 (some (.ref 6)) 1 1 (S0 w os) (blockOf bI ev cE ⟨0,0,0,0⟩ fT))=λos=>some (.next,S0 w os,cE,⟨0,0,0,0⟩):=by kernel_rfl
def nmS:Stmt->Str
 | .FunctionDef n ..|.ClassDef n ..=>n
 | _=>Str.empty
def lnS:Stmt->Int×Int
 | .FunctionDef _ a _ _ _ _ _ _ _ p=>(p.line,a.args.length)
 | _=>(0,0)
def qlS (i j:Nat):Str:=⟨(nmS (top i)).cps++#[46]++(nmS (XA (top i) j)).cps⟩
def tR (i n:Nat):List (Str×Stmt):=(List.range' i n).map λi=>(nmS (top i),top i)
def cR (i n:Nat):List (Str×Stmt):=(List.range n).map λj=>(qlS i j,XA (top i) j)
def dfs:List (Str×Stmt)->Value->Nat->Nat->List Obj
 | [],_,_,_=>[]
 | (q,st)::l,m,a,t=>if !(Zw st).more.isEmpty then dg (nmS st) q st m (lnS st).1 (lnS st).2 a t++dfs l m (a+5) (t+6) else
  let vs:=((Zw st).names.filter (·.2==.local)).map (·.1)
  df (nmS st) q st m (lnS st).1 (lnS st).2 a t vs++dfs l m (a+7) (t+6+vs.length)
abbrev dX (e:DictEntry)(l:List DictEntry)(n:Nat):Obj:=.mk (.type "dict") none (.dict (e::l).toArray n) #[]
noncomputable abbrev dE0 (P:Params):List DictEntry:=[(dn P q10 166),(dn P "__package__" 167),(de P "__loader__" 168 (.builtin "__main__.__loader__#opaque")),(dn P "__spec__" 169),(dr P "__annotations__" 170 6),(dr P "__builtins__" 171 4),(de P "__file__" 173 (.str "/claim/cut.py" 172)),(dn P "__cached__" 174),(dr P "_wall" 193 21),(dr P "signed" 203 28),(dr P "without" 209 33),(dr P "cofactor" 218 40),(dr P "determinant" 224 45),(dr P "inverse_entry" 235 52),(dr P "inverse_row" 241 57),(dr P "inverse" 247 62),(dr P "BoxError" 267 72),(dr P "NoSpan" 283 85),(dr P "raised" 295 94),(dr P "less" 303 101),(dr P "rounded_up" 313 108),(dr P "span_of" 322 115),(dr P "add_spans" 330 122),(dr P "take_spans" 338 129),(dr P "mul_spans" 348 136),(dr P "raise_span" 354 141),(dr P "scale_span" 362 148),(dr P "common" 372 155),(dr P "hull" 380 162),(dr P "deep" 388 169),(dr P "width" 395 176),(dr P "middle" 402 183),(dr P "holds_nought" 411 190),(dr P "opposite" 418 197),(dr P "joined" 426 204),(dr P "part_between" 435 211),(dr P "quotient" 443 218),(dr P "back_by_side" 456 225),(dr P "back_times" 469 232),(dr P "root_below" 479 239),(dr P "next_guess" 488 246),(dr P "root" 497 253),(dr P "back_power" 511 260),(dr P "Node" 533 270),(dr P "Number" 601 319),(dr P "Unknown" 661 364)]
abbrev fE0:List (Int×Addr):=[(1,20),(5,27),(7,32),(10,39),(12,44),(16,51),(18,56),(20,61),(26,68),(28,81),(31,93),(36,100),(39,107),(41,114),(45,121),(47,128),(49,135),(52,140),(59,147),(61,154),(67,161),(69,168),(71,175),(73,182),(76,189),(78,196),(80,203),(86,210),(90,217),(92,224),(98,231),(109,238),(118,245),(120,252),(127,259),(138,266),(140,280),(158,327)]
noncomputable def mO1 (P:Params):List Obj:=[boot_o_0 P,boot_o_1 P,boot_o_2 P,(dX (de P "__name__" 165 (.str q0 512)) (dE0 P) 47),boot_o_4 P,boot_o_5 P,boot_o_6 P,boot_o_7 P,boot_o_8 P,boot_o_9 P,boot_o_10 P]++[tpO [],fq fE0 0,(cO "<module>" 182 "<module>" 183 184 1 11 181 12 185 1 186),(gO 13 3 3 (.str "__main__" 164) 0)]++
 dfs (tR 0 1) (.str "__main__" 164) 15 187++
 dfs (tR 2 7) (.str "boxnarrow.matrices" 194) 22 196++
 [tpO [(.type "ValueError")],(bO q5 (.type "type")),(dO #[(de P q4 257 (.str q11 248)),(de P q8 259 (.str "BoxError" 258)),(de P q2 261 (.int 26 260)),(dr P q1 262 70)] 4),tpO [],fdO [],(cO "BoxError" 252 "BoxError" 253 254 26 66 181 67 255 26 256),(gO 68 3 65 (.str q11 248) 0),tpO [],(dO #[(de P q4 257 (.str q11 248)),(de P q2 261 (.int 26 260)),(dr P q1 262 70),(dr P q19 264 73),(dn P q10 265)] 3),(tyO "ValueError.__new__" "BoxError" [(.type "ValueError")] [(r 72),(.type "ValueError"),(.type "Exception"),(.type "BaseException"),(.type q9)] 71 [(r 85)] 63 250 258),(.mk (.type q14) none (.fields #[(.str q19 263),(r 72),(.builtin q16),.none]) #[]),(uO 72),(bO q3 (r 72)),tpO [(r 72)],(bO q5 (.type "type")),(dO #[(de P q4 275 (.str q11 248)),(de P q8 277 (.str "NoSpan" 276)),(de P q2 279 (.int 28 278)),(dr P q1 280 83)] 4),tpO [],fdO [],(cO "NoSpan" 270 "NoSpan" 271 272 28 79 181 80 273 28 274),(gO 81 3 78 (.str q11 248) 0),tpO [],(dO #[(de P q4 275 (.str q11 248)),(de P q2 279 (.int 28 278)),(dr P q1 280 83),(dn P q10 281)] 2),(tyO "ValueError.__new__" "NoSpan" [(r 72)] [(r 85),(r 72),(.type "ValueError"),(.type "Exception"),(.type "BaseException"),(.type q9)] 84 [] 76 268 276),(uO 85),(bO q3 (r 85))]++
 dfs (tR 13 2) (.str "boxnarrow.fractions" 284) 88 286++
 dfs (tR 16 12) (.str "boxnarrow.spans" 304) 102 306++
 dfs (tR 29 11) (.str "boxnarrow.backs" 403) 184 405++
 [tpO [],(bO q5 (.type "type")),(dO #[(de P q4 521 (.str q0 512)),(de P q8 523 (.str "Node" 522)),(de P q2 525 (.int 138 524)),(dr P q1 526 268)] 4),tpO [],fdO [],(cO "Node" 516 "Node" 517 518 138 264 181 265 519 138 520),(gO 266 3 263 (.str q0 512) 0),tpO [],(dO #[(de P q4 521 (.str q0 512)),(de P q2 525 (.int 138 524)),(dr P q1 526 268),(dr P "__dict__" 528 271),(dr P q19 530 272),(dn P q10 531)] 4),(.mk (.type "type") none (.cls (PySem.ClassData.mk "Node" [(.type q9)] [(r 270),(.type q9)] 269 "Node" Bool.true [] [(r 319),(r 364)] Bool.false none Bool.false)) #[none,none,(some (.str "Node" 514)),(some (.str "Node" 522)),(some (.builtin q6)),(some (.bool Bool.true))]),(.mk (.type q14) none (.fields #[(.str "__dict__" 527),(r 270),(.builtin "function.__dict__"),(.builtin "function.__dict__#set")]) #[]),(.mk (.type q14) none (.fields #[(.str q19 529),(r 270),(.builtin q16),.none]) #[]),(uO 270),(bO q3 (r 270)),tpO [(r 270)],(bO q5 (.type "type")),(dO #[(de P q4 541 (.str q0 512)),(de P q8 543 (.str "Number" 542)),(de P q2 545 (.int 140 544)),(dr P q13 554 288),(dr P q17 563 295),(dr P q18 574 302),(dr P "back" 584 309),(dr P "slope" 595 316),(dr P q1 598 317)] 9),tpO [],fq [(142,287),(146,294),(149,301),(153,308),(156,315)] 4,(cO "Number" 536 "Number" 537 538 140 278 181 279 539 140 540),(gO 280 3 277 (.str q0 512) 0)]++
 dfs (cR 42 5) (.str q0 512) 282 546++
 [tpO [(.str "bottom" 596),(.str "top" 597)],(dO #[(de P q4 541 (.str q0 512)),(de P q2 545 (.int 140 544)),(dr P q13 554 288),(dr P q17 563 295),(dr P q18 574 302),(dr P "back" 584 309),(dr P "slope" 595 316),(dr P q1 598 317),(dn P q10 599)] 2),(tyO q6 "Number" [(r 270)] [(r 319),(r 270),(.type q9)] 318 [] 275 534 542),(uO 319),(bO q3 (r 319)),tpO [(r 270)],(bO q5 (.type "type")),(dO #[(de P q4 609 (.str q0 512)),(de P q8 611 (.str "Unknown" 610)),(de P q2 613 (.int 158 612)),(dr P q13 621 335),(dr P q17 630 342),(dr P q18 640 349),(dr P "back" 650 356),(dr P "slope" 656 361),(dr P q1 658 362)] 9),tpO [],fq [(160,334),(163,341),(166,348),(169,355),(172,360)] 4,(cO "Unknown" 604 "Unknown" 605 606 158 325 181 326 607 158 608),(gO 327 3 324 (.str q0 512) 0)]++
 dfs (cR 43 5) (.str q0 512) 329 614++
 [tpO [(.str "place" 657)],(dO #[(de P q4 609 (.str q0 512)),(de P q2 613 (.int 158 612)),(dr P q13 621 335),(dr P q17 630 342),(dr P q18 640 349),(dr P "back" 650 356),(dr P "slope" 656 361),(dr P q1 658 362),(dn P q10 659)] 2),(tyO q6 "Unknown" [(r 270)] [(r 364),(r 270),(.type q9)] 363 [] 322 602 610),(uO 364),(bO q3 (r 364))]
noncomputable def S1:=mS 12 mO1 367 662
theorem p1_eq (w:World):(λos=>segRunT treeTable QW w 11 (some (.ref 6)) 1 2399 (S0 w os) (piecesOf (bI.take 44) ev cE ⟨0,0,0,0⟩ fT))=λos=>some (.next,S1 w os,cE,⟨158,0,173,85⟩):=by kernel_rfl
noncomputable abbrev dE1 (P:Params):List DictEntry:=dE0 P++[(dr P "Pair" 706 395),(dr P "Plus" 775 442),(dr P "Minus" 844 489),(dr P "Times" 913 536),(dr P "Power" 976 581),(dr P "kind_of" 983 590),(dr P "worths" 996 597),(dr P "bars" 1004 604),(dr P "sure" 1012 611),(dr P "slopes" 1026 618),(dr P "equation_places" 1034 623),(dr P "picked" 1040 628),(dr P "middles" 1046 633),(dr P "box_of_middles" 1052 638),(dr P "sum_of_products" 1064 645),(dr P "lacking" 1070 650),(dr P "span_by" 1076 655),(dr P "step_by" 1082 660),(dr P "thin_worths" 1092 667),(dr P "slopes_at" 1102 674),(dr P "leasts_are_sure" 1108 679),(dr P "all_deep" 1114 684),(dr P "alone" 1120 689),(dr P "asked_of" 1130 696),(dr P "spans_back" 1146 703),(dr P "narrowed" 1161 710),(dr P "with_span" 1172 717),(dr P "is_barred" 1183 724),(dr P "cut_off" 1191 731),(dr P "cut_back" 1199 738),(dr P "is_shave" 1212 745),(dr P "shaves" 1228 752),(dr P "widths" 1236 757),(dr P "widest" 1243 764),(dr P "Book" 1316 812),(dr P "out_by" 1328 823),(dr P "shave" 1345 830),(dr P "fate_by_rows" 1351 835),(dr P "fate_of_one" 1364 842),(dr P "fate_of" 1377 849),(dr P "is_much_less" 1385 856),(dr P "cut_in_the_middle" 1395 863),(dr P "look" 1410 870),(dr P "search" 1425 877),(dr P "_law_cell_at" 1436 884),(dr P "_law_node" 1448 891),(dr P "_law_weight" 1456 898),(dr P "_law_net" 1462 903),(dr P "_law_divisor" 1471 910),(dr P "_law_power" 1481 917),(dr P "_law_exacts" 1493 924),(dr P "_law_heavy" 1502 931),(dr P "_law_put" 1510 938),(dr P "_law_row" 1529 945),(dr P "_law_rows" 1543 952),(dr P "_law_grid" 1550 959)]
abbrev fE1:List (Int×Addr):=fE0++[(174,372),(194,403),(210,450),(226,497),(242,544),(264,589),(277,596),(282,603),(286,610),(291,617),(298,622),(300,627),(302,632),(304,637),(306,644),(311,649),(315,654),(322,659),(324,666),(326,673),(328,678),(330,683),(332,688),(345,695),(349,702),(363,709),(374,716),(376,723),(379,730),(381,737),(383,744),(389,751),(404,756),(406,763),(408,770),(436,822),(439,829),(451,834),(458,841),(464,848),(472,855),(474,862),(478,869),(489,876),(498,883),(503,890),(517,897),(523,902),(533,909),(541,916),(546,923),(566,930),(571,937),(575,944),(589,951),(600,958)]
noncomputable def mO2 (P:Params):List Obj:=((((mO1 P).set 3 (dX (de P "__name__" 165 (.str q7 1426)) (dE1 P) 103)).set 12 (fq fE1 0)).set 270 (.mk (.type "type") none (.cls (PySem.ClassData.mk "Node" [(.type q9)] [(r 270),(.type q9)] 269 "Node" Bool.true [] [(r 319),(r 364),(r 395),(r 581)] Bool.false none Bool.false)) #[none,none,(some (.str "Node" 514)),(some (.str "Node" 522)),(some (.builtin q6)),(some (.bool Bool.true))]))++
 [tpO [(r 270)],(bO q5 (.type "type")),(dO #[(de P q4 669 (.str q0 512)),(de P q8 671 (.str "Pair" 670)),(de P q2 673 (.int 174 672)),(dr P q13 682 380),(dr P "back" 694 387),(dr P "slope" 700 392),(dr P q1 703 393)] 7),tpO [],fq [(176,379),(180,386),(190,391)] 4,(cO "Pair" 664 "Pair" 665 666 174 370 181 371 667 174 668),(gO 372 3 369 (.str q0 512) 0)]++
 dfs (cR 44 3) (.str q0 512) 374 674++
 [tpO [(.str "one" 701),(.str "other" 702)],(dO #[(de P q4 669 (.str q0 512)),(de P q2 673 (.int 174 672)),(dr P q13 682 380),(dr P "back" 694 387),(dr P "slope" 700 392),(dr P q1 703 393),(dn P q10 704)] 2),(tyO q6 "Pair" [(r 270)] [(r 395),(r 270),(.type q9)] 394 [(r 442),(r 489),(r 536)] 367 662 670),(uO 395),(bO q3 (r 395)),tpO [(r 395)],(bO q5 (.type "type")),(dO #[(de P q4 714 (.str q0 512)),(de P q8 716 (.str "Plus" 715)),(de P q2 718 (.int 194 717)),(dr P q17 727 411),(dr P q18 737 418),(dr P q21 748 425),(dr P q20 759 432),(dr P q15 771 439),(dr P q1 772 440)] 9),tpO [],fq [(196,410),(199,417),(202,424),(205,431),(208,438)] 4,(cO "Plus" 709 "Plus" 710 711 194 401 181 402 712 194 713),(gO 403 3 400 (.str q0 512) 0)]++
 dfs (cR 45 5) (.str q0 512) 405 719++
 [tpO [],(dO #[(de P q4 714 (.str q0 512)),(de P q2 718 (.int 194 717)),(dr P q17 727 411),(dr P q18 737 418),(dr P q21 748 425),(dr P q20 759 432),(dr P q15 771 439),(dr P q1 772 440),(dn P q10 773)] 2),(tyO q6 "Plus" [(r 395)] [(r 442),(r 395),(r 270),(.type q9)] 441 [] 398 707 715),(uO 442),(bO q3 (r 442)),tpO [(r 395)],(bO q5 (.type "type")),(dO #[(de P q4 783 (.str q0 512)),(de P q8 785 (.str "Minus" 784)),(de P q2 787 (.int 210 786)),(dr P q17 796 458),(dr P q18 806 465),(dr P q21 817 472),(dr P q20 828 479),(dr P q15 840 486),(dr P q1 841 487)] 9),tpO [],fq [(212,457),(215,464),(218,471),(221,478),(224,485)] 4,(cO "Minus" 778 "Minus" 779 780 210 448 181 449 781 210 782),(gO 450 3 447 (.str q0 512) 0)]++
 dfs (cR 46 5) (.str q0 512) 452 788++
 [tpO [],(dO #[(de P q4 783 (.str q0 512)),(de P q2 787 (.int 210 786)),(dr P q17 796 458),(dr P q18 806 465),(dr P q21 817 472),(dr P q20 828 479),(dr P q15 840 486),(dr P q1 841 487),(dn P q10 842)] 2),(tyO q6 "Minus" [(r 395)] [(r 489),(r 395),(r 270),(.type q9)] 488 [] 445 776 784),(uO 489),(bO q3 (r 489)),tpO [(r 395)],(bO q5 (.type "type")),(dO #[(de P q4 852 (.str q0 512)),(de P q8 854 (.str "Times" 853)),(de P q2 856 (.int 226 855)),(dr P q17 865 505),(dr P q18 875 512),(dr P q21 886 519),(dr P q20 897 526),(dr P q15 909 533),(dr P q1 910 534)] 9),tpO [],fq [(228,504),(231,511),(234,518),(237,525),(240,532)] 4,(cO "Times" 847 "Times" 848 849 226 495 181 496 850 226 851),(gO 497 3 494 (.str q0 512) 0)]++
 dfs (cR 47 5) (.str q0 512) 499 857++
 [tpO [],(dO #[(de P q4 852 (.str q0 512)),(de P q2 856 (.int 226 855)),(dr P q17 865 505),(dr P q18 875 512),(dr P q21 886 519),(dr P q20 897 526),(dr P q15 909 533),(dr P q1 910 534),(dn P q10 911)] 2),(tyO q6 "Times" [(r 395)] [(r 536),(r 395),(r 270),(.type q9)] 535 [] 492 845 853),(uO 536),(bO q3 (r 536)),tpO [(r 270)],(bO q5 (.type "type")),(dO #[(de P q4 921 (.str q0 512)),(de P q8 923 (.str "Power" 922)),(de P q2 925 (.int 242 924)),(dr P q13 934 552),(dr P q17 943 559),(dr P q18 953 566),(dr P "back" 964 573),(dr P "slope" 970 578),(dr P q1 973 579)] 9),tpO [],fq [(244,551),(248,558),(251,565),(254,572),(260,577)] 4,(cO "Power" 916 "Power" 917 918 242 542 181 543 919 242 920),(gO 544 3 541 (.str q0 512) 0)]++
 dfs (cR 48 5) (.str q0 512) 546 926++
 [tpO [(.str "many" 971),(.str "one" 972)],(dO #[(de P q4 921 (.str q0 512)),(de P q2 925 (.int 242 924)),(dr P q13 934 552),(dr P q17 943 559),(dr P q18 953 566),(dr P "back" 964 573),(dr P "slope" 970 578),(dr P q1 973 579),(dn P q10 974)] 2),(tyO q6 "Power" [(r 270)] [(r 581),(r 270),(.type q9)] 580 [] 539 914 922),(uO 581),(bO q3 (r 581))]++
 dfs (tR 49 1) (.str q0 512) 584 977++
 dfs (tR 51 3) (.str "boxnarrow.worths" 984) 591 986++
 dfs (tR 55 1) (.str "boxnarrow.sloping" 1013) 612 1015++
 dfs (tR 57 13) (.str "boxnarrow.alone" 1027) 619 1029++
 dfs (tR 71 3) (.str "boxnarrow.narrow" 1121) 690 1123++
 dfs (tR 75 6) (.str "boxnarrow.shaving" 1162) 711 1164++
 dfs (tR 82 2) (.str q12 1229) 753 1231++
 [tpO [],(bO q5 (.type "type")),(dO #[(de P q4 1251 (.str q12 1229)),(de P q8 1253 (.str "Book" 1252)),(de P q2 1255 (.int 408 1254)),(dr P q13 1263 778),(dr P "put_entry" 1271 785),(dr P "settle" 1280 792),(dr P "part" 1294 799),(dr P "to_look_at" 1300 804),(dr P "entries" 1306 809),(dr P q1 1309 810)] 10),tpO [],fq [(410,777),(414,784),(419,791),(422,798),(430,803),(434,808)] 4,(cO "Book" 1246 "Book" 1247 1248 408 768 181 769 1249 408 1250),(gO 770 3 767 (.str q12 1229) 0)]++
 dfs (cR 84 6) (.str q12 1229) 772 1256++
 [tpO [(.str "boxes" 1307),(.str "fates" 1308)],(dO #[(de P q4 1251 (.str q12 1229)),(de P q2 1255 (.int 408 1254)),(dr P q13 1263 778),(dr P "put_entry" 1271 785),(dr P "settle" 1280 792),(dr P "part" 1294 799),(dr P "to_look_at" 1300 804),(dr P "entries" 1306 809),(dr P q1 1309 810),(dr P "__dict__" 1311 813),(dr P q19 1313 814),(dn P q10 1314)] 4),(.mk (.type "type") none (.cls (PySem.ClassData.mk "Book" [(.type q9)] [(r 812),(.type q9)] 811 "Book" Bool.true [] [] Bool.false none Bool.false)) #[none,none,(some (.str "Book" 1244)),(some (.str "Book" 1252)),(some (.builtin q6)),(some (.bool Bool.true))]),(.mk (.type q14) none (.fields #[(.str "__dict__" 1310),(r 812),(.builtin "function.__dict__"),(.builtin "function.__dict__#set")]) #[]),(.mk (.type q14) none (.fields #[(.str q19 1312),(r 812),(.builtin q16),.none]) #[]),(uO 812),(bO q3 (r 812))]++
 dfs (tR 85 9) (.str q12 1229) 817 1317++
 dfs (tR 95 11) (.str q7 1426) 878 1428++
 df "_law_grid" "_law_grid" (top 106) (.str q7 1426) 600 1 953 1544 ["_law_cell"]
noncomputable def S2:=mS 12 mO2 960 1551
theorem p2_eq (w:World):(λos=>segRunT treeTable QW w 11 (some (.ref 6)) 1 3892 (S1 w os) (piecesOf ((bI.drop 44).take 63) ev cE ⟨158,0,173,85⟩ fT))=λos=>some (.next,S2 w os,cE,⟨600,0,603,34⟩):=by kernel_rfl
def kA:List Addr:=(27::32::39::44::51::56::61::71::84::93::100::107::114::121::128::135::140::147::154::161::168::175::182::189::196::203::210::217::224::231::238::245::252::259::269::287::301::308::315::318::334::348::355::360::363::379::386::391::394::417::424::431::438::441::464::471::478::485::488::511::518::525::532::535::551::565::572::577::580::589::596::603::610::617::622::627::632::637::644::649::654::659::666::673::678::683::688::695::702::709::716::723::730::737::744::751::756::763::777::784::791::798::803::808::811::822::829::834::841::848::855::862::869::876::883::890::897::902::909::916::923::930::937::944::951::958::[]).flatMap λa=>[a,a+1]
noncomputable abbrev dE2 (P:Params):List DictEntry:=dE1 P++[(dr P "law" 1556 964)]
noncomputable def kq:Params->PySem.W.Frag:=λP=>
 (3,(dX (de P "__name__" 165 (.str q7 1426)) (dE2 P) 104))::
 (963,co "law" "law" 1551 1552 1553 1555 604 1 960 961 .none .none 962 1554)::
 (964,fp "law" "law" 107 q7 1426 963)::
 kA.map λa=>(a,(mO2 P).getD a (boot_o_0 P))
noncomputable def kp:Params->PySem.W.Frag:=λP=>(nat_lit 801,⟨.none,none,.fields #[],#[]⟩)::kq P
def ks:List Addr:=801::3::963::964::kA
theorem W0 (P:Params):ks=(kp P).map (·.1):=by kernel_rfl
noncomputable abbrev hk:W.Hook:=W.kHook kp ks W0
noncomputable abbrev gT {α:Type}(w:World)(f:SharedT->α):=λos=>(L3.frc (L3.mkB 12 (mO2 w.params)) λT=>L3.goT treeTable QW w 11 (some (.ref 6)) 178 ⟨T,960,(boot_heap w.params).life,Array.mk [],boot_drawn,1551,os⟩ (restOf ((bI.drop 44).drop 63) ev cE ⟨600,0,603,34⟩ fT)).map f
theorem IQ (w:World):gT w (λs=>(L3.QQ QW w s))=λ_=>some (true):=by kernel_rfl
theorem Ii (w:World):gT w (λs=>(seen ((recsOf vw).map (·.name)) (ownsOf vw) [] { s.abs with gens:=#[] }))=λ_=>some (expectedOf vw):=by kernel_rfl
theorem KQ (w:World):gT w (λs=>(s.abs.heap.bltView))=λ_=>some (bltViewBooted):=by kernel_rfl
theorem Bv (w:World):gT w (λs=>(s.abs.heap.keysOk (looseW vw []) ((recsOf vw).map (·.name)) ((litsOf vw).map (·.1)) ((clssOf vw (looseW vw [])).map (·.name))&&s.abs.heap.accountedOkI (importedModules QW.main.body)&&s.abs.heap.isNs mainGlobals&&s.abs.heap.isNs builtinsNs&&tablesOk vw s.abs.heap&&xt s.abs&&(if true then s.abs.gens.size==0 else !leftWithCleanup s.abs.gens)))=λ_=>some (true):=by kernel_rfl
theorem JK (w:World):gT w (λs=>(tabsOk vw s.abs))=λ_=>some (true):=by kernel_rfl
theorem HA (w:World):gT w (λs=>(pinSeenD vw (drecsOf vw) s.abs,plainSeenE vw (looseW vw []) s.abs,plainSeenD vw [] s.abs,wideSeen vw s.abs,clsSeenW vw [] s.abs))=λ_=>some (pinGoodD (drecsOf vw),plainGoodE vw (looseW vw []),plainGoodD vw [],wideGood vw,clsGoodW vw []):=by kernel_rfl
theorem ob_eq (w:World):gT w (λs=>ks.map (L3.Tr s))=λ_=>some (hk.val w):=by kernel_rfl
theorem left:LeftO QW vw [] xt hk.obs hk.val 6482:=L3.GX (L3.EH ks) Pm ⋯ fe_eq si_eq (λw os _ r=>L3.Gi rfl (congrFun (EN w) os) (congrFun (CK w) os) ⋯ (L3.N9 (congrFun (p1_eq w) os) (L3.N9 (congrFun (p2_eq w) os) (L3.Ow ((L3.RV _ _).symm.trans r))))) (λw=>L3.Pe (IQ w) (Ii w)) (λw=>L3.Pe (KQ w) (Bv w)) (λw=>L3.Pe (JK w) (HA w)) ob_eq
end Mine
namespace L2
open PySem PySem.Spec PyProof.Rows
abbrev Key:=Sum Int Str
def Mv:Key->Value->Bool
 | .inl k,v=>Value.isInt k v
 | .inr x,v=>Value.isStrOf x v
def keyH (w:World):Key->Int
 | .inl k=>hashInt k
 | .inr x=>hashStr w x
theorem WG:∀ {k:Key} {v:Value},Mv k v=true->(∃i t,k=Sum.inl i/\v=Value.int i t)\/(∃x t,k=Sum.inr x/\v=Value.str x t)
 | .inl i,v,h=>by
  obtain⟨t,e⟩:=Value.isInt_shape h;exact .inl ⟨i,t,rfl,e⟩
 | .inr x,v,h=>by
  obtain⟨t,e⟩:=Value.isStrOf_shape h;exact .inr ⟨x,t,rfl,e⟩
theorem Fl (a b:Int):decide ((Sum.inl a:Key)=Sum.inl b)=(a==b):=by
 by_cases e:a=b
 .subst e;simp
 .have h:¬ (Sum.inl a:Key)=Sum.inl b:=λq=>e (Sum.inl.inj q)
  rw[decide_eq_false h];exact(beq_eq_false_iff_ne.mpr e).symm
theorem Hd (a b:Str):decide ((Sum.inr a:Key)=Sum.inr b)=decide (a=b):=by
 by_cases e:a=b
 .subst e;simp
 .have h:¬ (Sum.inr a:Key)=Sum.inr b:=λq=>e (Sum.inr.inj q)
  rw[decide_eq_false h,decide_eq_false e]
theorem CS (a:Int)(b:Str):decide ((Sum.inl a:Key)=Sum.inr b)=false:=decide_eq_false (λq=>nomatch q)
theorem Jv (a:Str)(b:Int):decide ((Sum.inr a:Key)=Sum.inl b)=false:=decide_eq_false (λq=>nomatch q)
def OY (prog:Program)(w:World):PySem.KeyKind prog w Key where
 is:=Mv
 hash:=keyH w
 inj:=λv a b ha hb=>by
  rcases WG ha with ⟨i,t,rfl,rfl⟩|⟨x,t,rfl,rfl⟩
  .rcases WG hb with ⟨j,u,rfl,e⟩|⟨y,u,rfl,e⟩
   .injection e with e1 _;rw[e1]
   .exact nomatch e
  .rcases WG hb with ⟨j,u,rfl,e⟩|⟨y,u,rfl,e⟩
   .exact nomatch e
   .injection e with e1 _;rw[e1]
 byValue:=λk v h=>by
  rcases WG h with ⟨i,t,rfl,rfl⟩|⟨x,t,rfl,rfl⟩<;>rfl
 pyHash:=λhv h=>by
  rcases WG hv with ⟨i,t,rfl,rfl⟩|⟨x,t,rfl,rfl⟩
  .exact wpAny_pyHash_int h
  .exact wpAny_pyHash_str h
 eqBool:=λhu hv h=>by
  rcases WG hu with ⟨i,t,rfl,rfl⟩|⟨x,t,rfl,rfl⟩
  .rcases WG hv with ⟨j,u,rfl,rfl⟩|⟨y,u,rfl,rfl⟩
   .rw[Fl] at h;exact wpAny_eqBool_int h
   .rw[CS] at h;exact SeqAt.EqAt.int_str i t y u _ _ _ _ h
  .rcases WG hv with ⟨j,u,rfl,rfl⟩|⟨y,u,rfl,rfl⟩
   .rw[Jv] at h;exact SeqAt.EqAt.str_int x t j u _ _ _ _ h
   .rw[Hd] at h;exact wpAny_eqBool_str h
 «strs»:=λk x t v h=>by
  rcases WG h with ⟨i,u,rfl,e⟩|⟨y,u,rfl,e⟩
  .exact nomatch e
  .injection e with e1 _
   subst e1;cases v<;>rfl
set_option genInjectivity true in
inductive V where
 | non|bl (b:Bool)|int (i:Int)|str (x:Str)|byt (b:Array UInt8)|flt (b:UInt64)|ref (a:Addr)|ty (n:String)
 deriving DecidableEq
def Zs:V->Value->Prop
 | .non,u=>u=Value.none
 | .bl b,u=>u=Value.bool b
 | .int i,u=>∃t,u=Value.int i t
 | .str x,u=>∃t,u=Value.str x t
 | .byt b,u=>∃t,u=Value.bytes b t
 | .flt b,u=>∃t,u=Value.float b t
 | .ref a,u=>u=Value.ref a
 | .ty n,u=>u=Value.type n
abbrev Zq:List V->List Value->Prop:=Paired Zs
theorem Zq.length {xs:List V}{us:List Value}(r:Zq xs us):xs.length=us.length:=Paired.length r
theorem Zq.get:∀ {xs:List V} {us:List Value} {i:Nat} {x:V},Zq xs us->xs[i]?=some x->∃u,us[i]?=some u/\Zs x u
 | _,_,_,_,.nil,e=>by simp at e
 | _,_,0,_,.cons r _,e=>by simp at e;subst e;exact⟨_,rfl,r⟩
 | _,_,i+1,x,.cons _ t,e=>by
  obtain⟨u,h1,h2⟩:=Zq.get t (by simpa using e);exact⟨u,by simpa using h1,h2⟩
theorem Zq.set {x:V}{u:Value}(r:Zs x u):∀ {xs:List V} {us:List Value} (i:Nat),Zq xs us->Zq (xs.set i x) (us.set i u)
 | _,_,_,.nil=>.nil
 | _,_,0,.cons _ t=>.cons r t
 | _,_,i+1,.cons q t=>.cons q (Zq.set r i t)
theorem Zq.append:∀ {xs ys:List V} {us ws:List Value},Zq xs us->Zq ys ws->Zq (xs++ys) (us++ws)
 | _,_,_,_,.nil,s=>s
 | _,_,_,_,.cons r t,s=>.cons r (Zq.append t s)
theorem Zq.take:∀ {xs:List V} {us:List Value} (n:Nat),Zq xs us->Zq (xs.take n) (us.take n)
 | _,_,0,_=>.nil
 | _,_,_+1,.nil=>.nil
 | _,_,n+1,.cons r t=>.cons r (Zq.take n t)
theorem Zq.drop:∀ {xs:List V} {us:List Value} (n:Nat),Zq xs us->Zq (xs.drop n) (us.drop n)
 | _,_,0,r=>r
 | _,_,_+1,.nil=>.nil
 | _,_,n+1,.cons _ t=>Zq.drop n t
def Wg:Option V->Option Value->Prop
 | some v,some u=>Zs v u
 | none,none=>True
 | _,_=>False
def KV {κ:Type}:List (κ×V)->List (κ×Value)->Prop:=Paired λ(p:κ×V)(q:κ×Value)=>p.1=q.1/\Zs p.2 q.2
def kV:Key->V
 | .inl i=>.int i
 | .inr x=>.str x
inductive HO where
  | lst (xs:List V)
  | tup (xs:List V)
  | dK (aW:List (Key×V))|dT (aW:List (List Key×V))
  | set (S:Int->Bool) (n:Nat)
  | ins (C dx:Addr) (fs:List (Str×V))
  | own (x:Addr)
  | xd (fs:List (Str×V))
  | met (f x:Addr)
  | rng (lo hi:Int)
  | frz (o:Obj) (u:HO)
  | tbl (ps:Array Value)
  | ext (φ:Heap->Prop)
abbrev Hp:=Addr->Option HO
def upd (H:Hp)(a:Addr)(o:HO):Hp:=λb=>if b=a then some o else H b
theorem YK {H:Hp}{a:Addr}{o:HO}:upd H a o a=some o:=by unfold upd;rw[if_pos rfl]
theorem ZT {H:Hp}{a b:Addr}{o:HO}(h:b≠a):upd H a o b=H b:=by unfold upd;rw[if_neg h]
theorem QY {H:Hp}{a b:Addr}{o u:HO}(h:H a=some o)(h':H b=some u)(d:o≠u):a≠b:=by
 intro e;subst e;rw[h] at h';exact d (Option.some.inj h')
theorem WS {H:Hp}{a b:Addr}{o:HO}(h:H a=some o)(h':H b=none):a≠b:=by
 intro e;subst e;rw[h] at h';cases h'
section
variable (P:Program)(w:World)
def YH (H:Hp)(h:Heap)(a:Addr):HO->Prop
 | .lst xs=>xs.length<=sizeLine/\∃(aY:List Value)(n:Nat),Zq xs aY/\h.get? a=some { cls:=.type "list",data:=.seq aY.toArray n }
 | .tup xs=>xs.length<=sizeLine/\∃aY:List Value,Zq xs aY/\IsTup h a aY.toArray
 | .dK aW=>aW.length<=sizeLine/\(a==sysModules)=false/\∃vs,KV aW vs/\h.DictOf (OY P w) a vs
 | .dT aW=>aW.length<=sizeLine/\(a==sysModules)=false/\∃xs:List (List Key×Addr×Value),
   Paired (λ(p:List Key×V)(q:List Key×Addr×Value)=>p.1=q.1/\H q.2.1=some (.tup (p.1.map kV))/\Zs p.2 q.2.2) aW xs/\
   ∃o es ep,h.get? a=some o/\o.ExactDict/\o.data=.dict es ep/\es.toList=xs.map (entryOfKey (tupleKind (OY P w)))/\(xs.map (·.1)).Nodup
 | .set S n=>h.SetOf (intKind P w) a S n
 | .ins C dx fs=>H dx=some (.own a)/\fs.length<=1000/\dx≠a/\h.get? a=some (W.instObj C dx)/\
   ∃mA,h.Ns1 dx mA/\(∀f,Wg (fs.lookup f) (mA f))/\PySem.Within mA (fs.map (·.1))
 | .own _=>∃o,h.get? a=some o
 | .xd fs=>∃mA,h.Ns1 a mA/\∀f,Wg (fs.lookup f) (mA f)
 | .rng lo hi=>∃t u v,h.get? a=some { cls:=.type "range",data:=.fields #[.int lo t,.int hi u,.int 1 v] }
 | .frz o u=>h.get? a=some o/\YH H h a u
 | .tbl ps=>h.get? a=some { cls:=.none,data:=.fields ps }
 | .met f x=>h.get? a=some (W.methodObj (.ref f) (.ref x))
 | .ext φ=>φ h/\(∃o,h.get? a=some o)/\∀h1 h2:Heap,φ h1->(∀o,h1.get? a=some o->h2.get? a=some o)->φ h2
def HOk (H:Hp)(h:Heap):Prop:=∀a o,H a=some o->YH P w H h a o
end
section
variable {P:Program}{w:World}{H H':Hp}{h h':Heap}{a:Addr}{o:HO}
theorem YH.lt (x:YH P w H h a o):a<h.objs.size:=by
 cases o with
 | lst xs=>obtain⟨_,_,_,_,e⟩:=x;exact Heap.lt_size e
 | tup xs=>obtain⟨_,_,_,p⟩:=x;exact p.lt
 | dK aW=>obtain⟨_,_,_,_,o,_,_,e,_⟩:=x;exact Heap.lt_size e
 | dT aW=>obtain⟨_,_,_,_,o,_,_,e,_⟩:=x;exact Heap.lt_size e
 | set S n=>obtain⟨o,_,_,_,e,_⟩:=x;exact Heap.lt_size e
 | ins C dx fs=>obtain⟨_,_,_,e,_⟩:=x;exact Heap.lt_size e
 | own y=>obtain⟨_,e⟩:=x;exact Heap.lt_size e
 | xd fs=>obtain⟨_,⟨_,_,_,e,_⟩,_⟩:=x;exact Heap.lt_size e
 | rng lo hi=>obtain⟨_,_,_,e⟩:=x;exact Heap.lt_size e
 | frz ob u=>obtain⟨e,_⟩:=x;exact Heap.lt_size e
 | tbl ps=>exact Heap.lt_size (show h.get? a=some _ from x)
 | met f y=>exact Heap.lt_size (show h.get? a=some _ from x)
 | ext φ=>obtain⟨_,⟨_,e⟩,_⟩:=x;exact Heap.lt_size e
theorem Paired.mapP:∀ {l₁:List α} {l₂:List β},Paired F l₁ l₂->(∀a b,F a b->G a b)->Paired G l₁ l₂
 | _,_,.nil,_=>.nil
 | _,_,.cons r t,f=>.cons (f _ _ r) (Paired.mapP t f)
theorem YH.stay (x:YH P w H h a o)(k:∀b u,(b=a\/H b=some (.own a))->h.get? b=some u->h'.get? b=some u)
  (ho:∀b,H b=some (.own a)->H' b=some (.own a))(ht:∀b xs,H b=some (.tup xs)->H' b=some (.tup xs)):YH P w H' h' a o:=by
 induction o with
 | lst xs=>obtain⟨z,aY,n,r,e⟩:=x;exact⟨z,aY,n,r,k _ _ (.inl rfl) e⟩
 | tup xs=>obtain⟨z,aY,r,ob,e,c⟩:=x;exact⟨z,aY,r,ob,k _ _ (.inl rfl) e,c⟩
 | dK aW=>obtain⟨z,y,vs,r,ob,es,ep,e,c⟩:=x;exact⟨z,y,vs,r,ob,es,ep,k _ _ (.inl rfl) e,c⟩
 | dT aW=>
  obtain⟨z,y,xs,r,ob,es,ep,e,c⟩:=x;exact⟨z,y,xs,Paired.mapP r λp q z=>⟨z.1,ht _ _ z.2.1,z.2.2⟩,ob,es,ep,k _ _ (.inl rfl) e,c⟩
 | set S n=>obtain⟨ob,es,ep,t,e,c⟩:=x;exact⟨ob,es,ep,t,k _ _ (.inl rfl) e,c⟩
 | ins C dx fs=>
  obtain⟨d,z,ne,e,mA,⟨od,es,ep,e2,c⟩,r⟩:=x;exact⟨ho _ d,z,ne,k _ _ (.inl rfl) e,mA,⟨od,es,ep,k _ _ (.inr d) e2,c⟩,r⟩
 | own y=>obtain⟨ob,e⟩:=x;exact⟨ob,k _ _ (.inl rfl) e⟩
 | xd fs=>obtain⟨mA,⟨od,es,ep,e,c⟩,r⟩:=x;exact⟨mA,⟨od,es,ep,k _ _ (.inl rfl) e,c⟩,r⟩
 | rng lo hi=>obtain⟨t,u,v,e⟩:=x;exact⟨t,u,v,k _ _ (.inl rfl) e⟩
 | frz ob u ih=>obtain⟨e,q⟩:=x;exact⟨k _ _ (.inl rfl) e,ih q⟩
 | tbl ps=>
  have e:h.get? a=some { cls:=.none,data:=.fields ps }:=x;exact k a _ (.inl rfl) e
 | met f y=>
  have e:h.get? a=some (W.methodObj (.ref f) (.ref y)):=x;exact k a _ (.inl rfl) e
 | ext φ=>obtain⟨p,⟨o,e⟩,st⟩:=x;exact⟨st _ _ p λo q=>k _ _ (.inl rfl) q,⟨o,k _ _ (.inl rfl) e⟩,st⟩
theorem HOk.lt (x:HOk P w H h)(e:H a=some o):a<h.objs.size:=(x a o e).lt
theorem HOk.fresh (x:HOk P w H h)(e:h.objs.size<=a):H a=none:=by
 cases q:H a with
 | none=>rfl
 | some u=>exact absurd (zS (x.lt q) e) (yR _)
theorem HOk.kept (x:HOk P w H h)(k:∀b u,h.get? b=some u->h'.get? b=some u):HOk P w H h':=λa o e=>
 (x a o e).stay (λb u _ q=>k b u q) (λ_ q=>q) λ_ _ q=>q
theorem HOk.laid (x:HOk P w H h)(k:∀b u,h.get? b=some u->h'.get? b=some u)(hp:h.objs.size<=a)(new:YH P w (upd H a o) h' a o):HOk P w (upd H a o) h':=λb u e=>by
 have hn:=x.fresh hp;by_cases hb:b=a
 .subst hb;rw[YK] at e;cases e;exact new
 .rw[ZT hb] at e;exact(x b u e).stay (λc v _ q=>k c v q) (λc q=>by rw[ZT (WS q hn)];exact q) λc xs q=>by rw[ZT (WS q hn)];exact q
end
def Rd (H:Hp)(a:Addr)(u:HO):Prop:=H a=some u\/∃o,H a=some (.frz o u)
theorem Rd.ok {P:Program}{w:World}{H:Hp}{h:Heap}{a:Addr}{u:HO}(r:Rd H a u)(x:HOk P w H h):YH P w H h a u:=by
 rcases r with r|⟨o,r⟩
 .exact x a u r
 .obtain⟨_,q⟩:=x a _ r;exact q
def Mut:Option HO->Prop
 | some (.lst _)=>True
 | some (.dK _)=>True
 | some (.dT _)=>True
 | some (.set _ _)=>True
 | some (.ins _ _ _)=>True
 | some (.ext _)=>True
 | _=>False
section
variable {P:Program}{w:World}{H:Hp}{h h':Heap}{x e:Addr}{o':HO}
theorem HOk.write (ok:HOk P w H h)(mu:Mut (H x))(he:e=x\/H e=some (.own x))(k:∀b u,b≠e->h.get? b=some u->h'.get? b=some u)(heo:∃u,h'.get? e=some u)
  (new:YH P w (upd H x o') h' x o'):HOk P w (upd H x o') h':=λb u q=>by
 have nown:∀c y,H c=some (.own y)->c≠x:=λc y r z=>by subst z;rw[r] at mu;exact mu
 have ntup:∀c xs,H c=some (.tup xs)->c≠x:=λc xs r z=>by subst z;rw[r] at mu;exact mu
 by_cases hb:b=x
 .subst hb;rw[YK] at q;cases q;exact new
 .rw[ZT hb] at q;by_cases hbe:b=e
  .have q':H b=some (.own x):=by
    rcases he with z|z
    .exact absurd (hbe.trans z) hb
    .rw[hbe];exact z
   rw[q] at q';cases q'
   obtain⟨v,hv⟩:=heo;exact⟨v,by rw[hbe];exact hv⟩
  .refine(ok b u q).stay (λc v hc r=>k c v ?_ r) (λc r=>by rw[ZT (nown c b r)];exact r) λc xs r=>by rw[ZT (ntup c xs r)];exact r
   rcases hc with rfl|hc
   .exact hbe
   .rintro rfl;rcases he with z|z
    .exact nown c b hc z
    .rw[hc] at z;cases z;exact hb rfl
end
structure Un (fs ex:List Addr)(H H':Hp)(h h':Heap):Prop where
 keep:∀b o,h.get? b=some o->H b=none->b ∉ fs->b ∉ ex->h'.get? b=some o
 slot:∀b o,h.get? b=some o->H b=none->b∈fs->b ∉ ex->∃sl,h'.get? b=some { o with slots:=sl }
 free:∀b o,h.get? b=some o->H b=none->b ∉ ex->H' b=none
 there:∀b o,h.get? b=some o->b ∉ ex->∃o',h'.get? b=some o'
 tups:∀b xs,H b=some (.tup xs)->H' b=some (.tup xs)
 frzs:∀b o u,H b=some (.frz o u)->H' b=some (.frz o u)
 tbls:∀b ps,H b=some (.tbl ps)->∃more,H' b=some (.tbl (ps++more))
theorem Un.any (u:Un fs ex H H1 h h1){b:Addr}{ob:Obj}(q:h.get? b=some ob)(n:H b=none)(hx:b ∉ ex):∃sl,h1.get? b=some { ob with slots:=sl }:=by
 by_cases hb:b∈fs
 .exact u.slot b ob q n hb hx
 .exact⟨ob.slots,u.keep b ob q n hb hx⟩
theorem Un.trans (a:Un fs ex H H1 h h1)(b:Un fs ex H1 H2 h1 h2):Un fs ex H H2 h h2 where
 keep:=λc ob q n hc hx=>b.keep c ob (a.keep c ob q n hc hx) (a.free c ob q n hx) hc hx
 slot:=λc ob q n hc hx=>by
  obtain⟨sl,e1⟩:=a.slot c ob q n hc hx;obtain⟨sl',e2⟩:=b.slot c _ e1 (a.free c ob q n hx) hc hx;exact⟨sl',e2⟩
 free:=λc ob q n hx=>by
  obtain⟨o',e1⟩:=a.there c ob q hx;exact b.free c o' e1 (a.free c ob q n hx) hx
 there:=λc ob q hx=>by
  obtain⟨o',e1⟩:=a.there c ob q hx;exact b.there c o' e1 hx
 tups:=λc xs q=>b.tups c xs (a.tups c xs q)
 frzs:=λc ob xs q=>b.frzs c ob xs (a.frzs c ob xs q)
 tbls:=λc ps q=>by
  obtain⟨m1,e1⟩:=a.tbls c ps q;obtain⟨m2,e2⟩:=b.tbls c _ e1;exact⟨m1++m2,by rw[e2,Array.append_assoc]⟩
theorem Un.kept (k:∀b u,h.get? b=some u->h'.get? b=some u):Un fs ex H H h h':=
 ⟨λb ob q _ _ _=>k b ob q,λb ob q _ _ _=>⟨ob.slots,k b ob q⟩,λ_ _ _ n _=>n,λb ob q _=>⟨ob,k b ob q⟩,λ_ _ q=>q,λ_ _ _ q=>q,λ_ ps q=>⟨#[],by rw[q];simp⟩⟩
theorem Un.refl:Un fs ex H H h h:=Un.kept λ_ _ q=>q
theorem Un.laid (k:∀b u,h.get? b=some u->h'.get? b=some u)(hp:h.objs.size<=a)(hn:H a=none):Un fs ex H (upd H a o) h h' where
 keep:=λb u q _ _ _=>k b u q
 slot:=λb u q _ _ _=>⟨u.slots,k b u q⟩
 free:=λb u q n _=>by rw[ZT (zP (zS (Heap.lt_size q) hp))];exact n
 there:=λb u q _=>⟨u,k b u q⟩
 tups:=λb xs q=>by rw[ZT (WS q hn)];exact q
 frzs:=λb u xs q=>by rw[ZT (WS q hn)];exact q
 tbls:=λb ps q=>⟨#[],by rw[ZT (WS q hn),q];simp⟩
theorem Un.write (mu:Mut (H x))(he:e=x\/H e=some (.own x))(k:∀b u,b≠e->h.get? b=some u->h'.get? b=some u)(heo:∃u,h'.get? e=some u):Un fs ex H (upd H x o) h h':=by
 have hx:∀b,H b=none->b≠x:=λb n z=>by subst z;rw[n] at mu;exact mu
 have hb:∀b,H b=none->b≠e:=λb n z=>by
  subst z;rcases he with r|r
  .exact hx b n r
  .rw[n] at r;cases r
 have hm:∀b u,H b=some u->¬ Mut (some u)->b≠x:=λb u q nm z=>by subst z;rw[q] at mu;exact nm mu
 refine⟨λb u q n _ _=>k b u (hb b n) q,λb u q n _ _=>⟨u.slots,k b u (hb b n) q⟩,λb u q n _=>by rw[ZT (hx b n)];exact n,λb u q _=>?_,
  λb xs q=>by rw[ZT (hm b _ q λz=>z)];exact q,λb u xs q=>by rw[ZT (hm b _ q λz=>z)];exact q,λb ps q=>⟨#[],by rw[ZT (hm b _ q λz=>z),q];simp⟩⟩
 by_cases hbe:b=e
 .subst hbe;exact heo
 .exact⟨u,k b u hbe q⟩
theorem Un.mono (u:Un fs ex H H1 h h1)(hs:∀b∈fs,b∈fs')(hx:∀b∈ex,b∈ex'):Un fs' ex' H H1 h h1:=
 ⟨λb ob q n hb he=>u.keep b ob q n (λz=>hb (hs b z)) λz=>he (hx b z),λ_ _ q n _ he=>u.any q n λz=>he (hx _ z),λb ob q n he=>u.free b ob q n λz=>he (hx b z),λb ob q he=>u.there b ob q λz=>he (hx b z),u.tups,u.frzs,u.tbls⟩
def trk (h:Heap)(H:Hp):List Addr:=(List.range h.objs.size).filter λa=>(H a).isSome
def X7 (h:Heap)(H:Hp):Heap:=W.hideAll h (trk h H)
theorem Ia (h:Heap)(H:Hp):(X7 h H).objs.size=h.objs.size:=W.hideAll_size _ _
theorem CA {h:Heap}{H:Hp}{b:Addr}{o:Obj}(e:h.get? b=some o)(n:H b=none):(X7 h H).get? b=some o:=
 W.hideAll_get _ e λhm=>by
  have q:(H b).isSome=true:=(vD.mp hm).2;rw[n] at q;simp at q
theorem CD {h:Heap}{H:Hp}{b:Addr}{o:Obj}(e:(X7 h H).get? b=some o):h.get? b=some o/\H b=none:=by
 have e':h.get? b=some o:=W.of_hideAll (trk h H) e;refine⟨e',?_⟩;cases q:H b with
 | none=>rfl
 | some x=>
  have hm:b∈trk h H:=vD.mpr ⟨yT.mpr (Heap.lt_size e'),by simp[q]⟩
  have z:(X7 h H).get? b=none:=W.hideAll_none (trk h H) hm;rw[z] at e;cases e
def FY (g h:Heap)(L:Addr):LA:=(List.range h.objs.size).filterMap λa=>if a=L\/(g.get? a).isSome=true then none else (h.get? a).map λo=>(a,o)
def Ye (g h:Heap)(L d:Addr):LA:=(FY g h L).filter λp=>decide (p.1≠d)
structure Mod (K:Fg)(mg:Str->Option Value)(base:Heap):Prop where
 kin:K.In base
 glob:base.Ns mainGlobals mg
 blt:∃mb,base.Ns builtinsNs mb/\∀x:Str,x≠"__name__"->mb x=bootBuiltins x
 nolimit:base.NoLimit
structure Cx where
 prog:Program
 w:World
 K:Fg
 mg:Str->Option Value
 base:Heap
 A:Around
 N:List Str
 s₀:Shared
 H₀:Hp
 env:Env
 outer:List Env
 stack:List Env
 ex:List Addr
 fn:Str->Bool
 calm:Bool
 pn:LA
 xe:Value->Shared->Prop
abbrev mX (X:Cx):=model X.prog X.w
abbrev Hf (X:Cx)(x:Str):Prop:=X.fn x=true\/X.env.scope.names.lookup x=some .local
abbrev He (X:Cx)(e:Expr)(es:List Expr):Prop:=starEach (e::es) X.env=(false,eval e X.env)::starEach es X.env
abbrev Hn (X:Cx)(caps:List Nat)(N:List Str):Prop:=caps.map (λi=>X.N[i]?)=N.map some
abbrev Hp1 (X:Cx)(pos:Pos)(es:List Expr):Prop:=(backTo pos (starEach es X.env)).any (·.1)=false
def frs (l:List Env):List Addr:=l.filterMap (·.frame)
abbrev Cx.fs (X:Cx):List Addr:=frs X.outer
def Vis (sc:Scope)(x:Str):Prop:=sc.names.lookup x=some .local\/sc.names.lookup x=some .cell\/sc.names.lookup x=some .free
def Loc (sc:Scope)(x:Str):Prop:=sc.names.lookup x=some .local\/sc.names.lookup x=some .cell
def Wn (env:Env)(h:Heap)(m:Str->Option Value)(x:Str)(u:Value):Prop:=
 (env.kindOf x=some .local/\m x=some u)\/((env.kindOf x=some .cell\/env.kindOf x=some .free)/\∃c,env.cells.lookup x=some c/\h.IsCell c (some u))
structure Cx.Ok (X:Cx):Prop where
 mod:Mod X.K X.mg X.base
 kind:X.env.scope.kind=.function
 glob:X.env.globals=mainGlobals
 blt:X.env.builtins=builtinsNs
 above:X.s₀.heap.objs.size<=X.env.locals
 inj:∀x y c,X.env.cells.lookup x=some c->X.env.cells.lookup y=some c->x=y
 has:∀x,(X.env.kindOf x=some .cell\/X.env.kindOf x=some .free)->∃c,X.env.cells.lookup x=some c
 cab:∀x c,X.fn x=true->X.env.cells.lookup x=some c->X.s₀.heap.objs.size<=c
 hd:X.calm=true->X.A.handled=none
 frames:X.A.frames=some X.stack
 stk:X.stack=X.outer\/(X.stack=X.env::X.outer/\X.env.frame=some X.env.locals)
 exf:∀b∈X.ex,b≠X.env.locals/\∀x c,X.env.cells.lookup x=some c->c≠b
 bs:∀b o,X.base.get? b=some o->X.s₀.heap.get? b=some o/\X.H₀ b=none
 bsz:X.base.objs.size<=X.s₀.heap.objs.size
 noex:∀b o,X.base.get? b=some o->b ∉ X.ex
 exfs:∀b∈X.ex,b ∉ X.fs
 funs:X.s₀.heap.FunFrames X.base X.outer
 frf:∀b∈X.fs,X.H₀ b=none
structure Inv (X:Cx)(pins:LA)(σ:List (Option V))(H:Hp)(s:Shared):Prop where
 ok:X.Ok
 os:s.os=X.s₀.os
 bare:AllBare s.gens
 base:Un X.fs X.ex X.H₀ H X.s₀.heap s.heap
 loc:∃m,s.heap.Ns X.env.locals m/\∀(i:Nat)(x:Str)(v:V),X.N[i]?=some x->σ[i]?=some (some v)->Vis X.env.scope x->∃u,Zs v u/\Wn X.env s.heap m x u
 cell:∀x c,X.env.cells.lookup x=some c->∃v,s.heap.IsCell c v
 free:H X.env.locals=none
 freeC:∀x c,X.env.cells.lookup x=some c->H c=none
 pin:∀p∈X.pn++pins,s.heap.get? p.1=some p.2/\H p.1=none/\p.1≠X.env.locals/\p.1 ∉ X.fs/\∀v,p.2.data≠.cell v
 hok:HOk X.prog X.w H s.heap
 len:σ.length=X.N.length
section
variable {X:Cx}{pins:LA}{σ:List (Option V)}{H H':Hp}{s:Shared}{h':Heap}
theorem Cx.Ok.nofr (ok:X.Ok)(e:X.base.get? b=some o):b ∉ X.fs:=λhb=>by
 have:=(ok.funs.mem hb).1;rw[e] at this;cases this
theorem Inv.bs (I:Inv X pins σ H s):∀b o,X.base.get? b=some o->s.heap.get? b=some o/\H b=none:=λb o e=>
 ⟨I.base.keep b o (I.ok.bs b o e).1 (I.ok.bs b o e).2 (I.ok.nofr e) (I.ok.noex b o e),I.base.free b o (I.ok.bs b o e).1 (I.ok.bs b o e).2 (I.ok.noex b o e)⟩
theorem Inv.bk (I:Inv X pins σ H s):∀b o,X.base.get? b=some o->s.heap.get? b=some o:=λb o e=>(I.bs b o e).1
theorem Inv.mod (I:Inv X pins σ H s):Mod X.K X.mg X.base:=I.ok.mod
theorem Inv.kIn (I:Inv X pins σ H s):X.K.In s.heap:=I.ok.mod.kin.keeps I.bk
theorem Inv.nolimit (I:Inv X pins σ H s):s.heap.NoLimit:=I.ok.mod.nolimit.keeps I.bk
theorem Inv.lt (I:Inv X pins σ H s):X.env.locals<s.heap.objs.size:=let ⟨_,hn,_⟩:=I.loc;hn.lt
theorem Inv.sz (I:Inv X pins σ H s):X.s₀.heap.objs.size<=s.heap.objs.size:=yF I.ok.above (yU I.lt)
theorem Inv.nofs (I:Inv X pins σ H s)(h:s.heap.objs.size<=a):a ∉ X.fs:=λhb=>by
 obtain⟨_,o,ho,_⟩:=I.ok.funs.mem hb;exact absurd (zS (Heap.lt_size ho) (yF I.sz h)) (yR _)
theorem Inv.cne (I:Inv X pins σ H s):∀x c,X.env.cells.lookup x=some c->c≠X.env.locals:=λx c e z=>by
 obtain⟨v,o,ho,hd⟩:=I.cell x c e;obtain⟨m,⟨o',es,ep,ho',hd',_⟩,_⟩:=I.loc;rw[z,ho'] at ho;cases ho;rw[hd'] at hd;cases hd
theorem Inv.funs (I:Inv X pins σ H s):s.heap.FunFrames X.base X.outer:=by
 have all:∀(l:List Env),(∀b∈frs l,b∈X.fs)->X.s₀.heap.FunFrames X.base l->s.heap.FunFrames X.base l:=by
  intro l
  induction l with
  | nil=>intro _ _;trivial
  | cons env r ih=>
   intro hs hl;obtain⟨hk,⟨L,o,hf,hn,ho,hd⟩,hr⟩:=hl;have hL:L∈X.fs:=hs L (by unfold frs;rw[vE,hf];exact yV);obtain⟨sl,e⟩:=I.base.slot L o ho (I.ok.frf L hL) hL λz=>I.ok.exfs L z hL
   exact⟨hk,⟨L,_,hf,hn,e,hd⟩,ih (λb hb=>hs b (by unfold frs;rw[vE,hf];exact yI _ hb)) hr⟩
 exact all X.outer (λ_ hb=>hb) I.ok.funs
theorem Inv.stack (I:Inv X pins σ H s):s.heap.FunFrames X.base X.stack:=by
 rcases I.ok.stk with e|⟨e,hf⟩
 .rw[e];exact I.funs
 .rw[e];obtain⟨m,hn,_⟩:=I.loc;refine .cons (by rw[I.ok.kind];decide) hf hn ?_ I.funs;exact Heap.get?_none_of_le (yF I.ok.bsz I.ok.above)
theorem Inv.stkSub (I:Inv X pins σ H s):∀b∈frs X.stack,b∈X.env.locals::X.fs:=λb hb=>by
 rcases I.ok.stk with e|⟨e,hf⟩
 .rw[e] at hb;exact yI _ hb
 .rw[e] at hb;unfold frs at hb;rw[vE,hf] at hb;exact hb
theorem Inv.stkFree (I:Inv X pins σ H s):∀b∈frs X.stack,H b=none:=λb hb=>by
 rcases zY.mp (I.stkSub b hb) with e|hb
 .rw[e];exact I.free
 .obtain⟨_,o,ho,_⟩:=I.ok.funs.mem hb;exact I.base.free b o ho (I.ok.frf b hb) λz=>I.ok.exfs b z hb
theorem Inv.step {g':Array GenState}{t':Nat}{d':Drawn}{ch:List Addr}(I:Inv X pins σ H s)
  (hch:∀b∈ch,(b∈X.ex\/X.s₀.heap.objs.size<=b)/\b≠X.env.locals/\(∀x c,X.env.cells.lookup x=some c->c≠b)/\∀p∈X.pn++pins,p.1≠b)
  (keep:∀b o,b≠X.env.locals->b ∉ X.fs->b ∉ ch->s.heap.get? b=some o->H b=none->h'.get? b=some o)
  (slot:∀b o,b≠X.env.locals->b∈X.fs->b ∉ ch->s.heap.get? b=some o->H b=none->∃sl,h'.get? b=some { o with slots:=sl })(free:∀b o,b ∉ ch->s.heap.get? b=some o->H b=none->H' b=none)
  (there:∀b o,b ∉ ch->s.heap.get? b=some o->∃o',h'.get? b=some o')
  (tups:∀b xs,H b=some (.tup xs)->H' b=some (.tup xs))(frzs:∀b o u,H b=some (.frz o u)->H' b=some (.frz o u))(tbls:∀b ps,H b=some (.tbl ps)->∃more,H' b=some (.tbl (ps++more)))
  (ns:∀m,s.heap.Ns X.env.locals m->h'.Ns X.env.locals m)(hok:HOk X.prog X.w H' h')(hg:AllBare g'):
  Inv X pins σ H' { s with heap:=h',gens:=g',drawn:=d',toks:=t' }:=by
 have neL:∀b o,X.s₀.heap.get? b=some o->b≠X.env.locals:=λb o e=>zP (zS (Heap.lt_size e) I.ok.above)
 have neC:∀b o,X.s₀.heap.get? b=some o->b ∉ X.ex->b ∉ ch:=λb o e hx hb=>by
  rcases (hch b hb).1 with z|z
  .exact hx z
  .exact absurd (zS (Heap.lt_size e) z) (yR _)
 have cellK:∀x c,X.env.cells.lookup x=some c->∀v,s.heap.IsCell c v->h'.IsCell c v:=λx c e v ⟨o,ho,hd⟩=>by
  have nch:c ∉ ch:=λz=>(hch c z).2.2.1 x c e rfl
  by_cases hc:c∈X.fs
  .obtain⟨sl,q⟩:=slot c o (I.cne x c e) hc nch ho (I.freeC x c e);exact⟨_,q,hd⟩
  .exact⟨o,keep c o (I.cne x c e) hc nch ho (I.freeC x c e),hd⟩
 refine⟨I.ok,I.os,hg,⟨λb o e n hb hx=>?_,λb o e n hb hx=>?_,λb o e n hx=>?_,λb o e hx=>?_,λb xs e=>tups b xs (I.base.tups b xs e),λb o xs e=>frzs b o xs (I.base.frzs b o xs e),λb ps e=>?_⟩,?_,λx c e=>?_,?_,λx c e=>?_,λp hp=>?_,hok,I.len⟩
 .exact keep b o (neL b o e) hb (neC b o e hx) (I.base.keep b o e n hb hx) (I.base.free b o e n hx)
 .obtain⟨sl,e1⟩:=I.base.slot b o e n hb hx;obtain⟨sl',e2⟩:=slot b _ (neL b o e) hb (neC b o e hx) e1 (I.base.free b o e n hx);exact⟨sl',e2⟩
 .obtain⟨o',e1⟩:=I.base.there b o e hx;exact free b o' (neC b o e hx) e1 (I.base.free b o e n hx)
 .obtain⟨o',e1⟩:=I.base.there b o e hx;exact there b o' (neC b o e hx) e1
 .obtain⟨m1,e1⟩:=I.base.tbls b ps e;obtain⟨m2,e2⟩:=tbls b _ e1;exact⟨m1++m2,by rw[e2,Array.append_assoc]⟩
 .obtain⟨m,hn,hl⟩:=I.loc;refine⟨m,ns m hn,λi x v e1 e2 e3=>?_⟩;obtain⟨u,r,l⟩:=hl i x v e1 e2 e3;refine⟨u,r,?_⟩;rcases l with l|⟨k,c,e,z⟩
  .exact .inl l
  .exact .inr ⟨k,c,e,cellK x c e _ z⟩
 .obtain⟨v,z⟩:=I.cell x c e;exact⟨v,cellK x c e v z⟩
 .obtain⟨m,⟨o,_,_,ho,_⟩,_⟩:=I.loc;exact free _ o (λz=>(hch _ z).2.1 rfl) ho I.free
 .obtain⟨v,o,ho,hd⟩:=I.cell x c e;exact free c o (λz=>(hch c z).2.2.1 x c e rfl) ho (I.freeC x c e)
 .obtain⟨e,n,ne,nf,d⟩:=I.pin p hp;have nch:p.1 ∉ ch:=λz=>(hch p.1 z).2.2.2 p hp rfl
  exact⟨keep p.1 p.2 ne nf nch e n,free p.1 p.2 nch e n,ne,nf,d⟩
theorem Inv.un {t':Nat}(I:Inv X pins σ H s)(u:Un X.fs [] H H' s.heap h')(hok:HOk X.prog X.w H' h'):Inv X pins σ H' { s with heap:=h',toks:=t' }:=by
 obtain⟨m,⟨o,es,ep,ho,r⟩,_⟩:=id I.loc;obtain⟨sl,hL⟩:=u.any ho I.free (by simp);exact I.step (ch:=[]) (λ_ z=>nomatch z) (λb o _ hb _ e n=>u.keep b o e n hb (by simp)) (λb o _ hb _ e n=>u.slot b o e n hb (by simp)) (λb o _ e n=>u.free b o e n (by simp)) (λb o _ e=>u.there b o e (by simp)) u.tups u.frzs u.tbls (λm' hm=>by
  obtain⟨o',es',ep',ho',r'⟩:=hm;rw[ho] at ho';cases ho'
  exact⟨_,es',ep',hL,r'⟩) hok I.bare
theorem Inv.call {g':Array GenState}{t':Nat}{d':Drawn}{ch:List Addr}(I:Inv X pins σ H s)(u:Un (frs X.stack) ch H H' s.heap h')(hok:HOk X.prog X.w H' h')(hg:AllBare g')
  (hch:∀b∈ch,(b∈X.ex\/X.s₀.heap.objs.size<=b)/\b≠X.env.locals/\(∀x c,X.env.cells.lookup x=some c->c≠b)/\∀p∈X.pn++pins,p.1≠b):
  Inv X pins σ H' { s with heap:=h',gens:=g',drawn:=d',toks:=t' }:=by
 obtain⟨m,⟨o,es,ep,ho,r⟩,_⟩:=id I.loc;obtain⟨sl,hL⟩:=u.any ho I.free λz=>(hch _ z).2.1 rfl
 exact I.step hch (λb o hL hb hc e n=>u.keep b o e n (λz=>(zY.mp (I.stkSub b z)).elim hL hb) hc) (λb o _ _ hc e n=>u.any e n hc) (λb o hc e n=>u.free b o e n hc) (λb o hc e=>u.there b o e hc) u.tups u.frzs u.tbls (λm' hm=>by
  obtain⟨o',es',ep',ho',r'⟩:=hm;rw[ho] at ho';cases ho'
  exact⟨_,es',ep',hL,r'⟩) hok hg
theorem Inv.turned {t':Nat}{it:Addr}(I:Inv X pins σ H s)(k:∀b o,b≠it->s.heap.get? b=some o->h'.get? b=some o)(hn:H it=none)(hL:it≠X.env.locals)
  (h1:it∈X.ex\/X.s₀.heap.objs.size<=it)(h2:∀x c,X.env.cells.lookup x=some c->c≠it)(h3:∀p∈X.pn++pins,p.1≠it):Inv X pins σ H { s with heap:=h',toks:=t' }:=by
 have nit:∀b u,H b=some u->b≠it:=λb u e z=>by rw[z,hn] at e;cases e
 refine I.step (ch:=[it]) (λb hb=>?_) (λb o _ _ hc e _=>k b o (λz=>hc (by simp[z])) e) (λb o _ _ hc e _=>⟨o.slots,k b o (λz=>hc (by simp[z])) e⟩) (λ_ _ _ _ n=>n)
  (λb o hc e=>⟨o,k b o (λz=>hc (by simp[z])) e⟩) (λ_ _ e=>e) (λ_ _ _ e=>e) (λb ps e=>⟨#[],by rw[e];simp⟩) (λm hm=>?_) (λb u e=>?_) I.bare
 .have e:b=it:=by simpa using hb
  subst e;exact⟨h1,hL,h2,h3⟩
 .obtain⟨o,es,ep,ho,r⟩:=hm;exact⟨o,es,ep,k _ o (Ne.symm hL) ho,r⟩
 .refine(I.hok b u e).stay (λc v hc q=>k c v ?_ q) (λ_ q=>q) λ_ _ q=>q
  rcases hc with z|z
  .rw[z];exact nit b u e
  .exact nit c _ z
theorem Inv.tok (I:Inv X pins σ H s)(t:Nat):Inv X pins σ H { s with toks:=t }:=I.un Un.refl I.hok
theorem Inv.kept {t':Nat}(I:Inv X pins σ H s)(k:∀b u,s.heap.get? b=some u->h'.get? b=some u):Inv X pins σ H { s with heap:=h',toks:=t' }:=I.un (Un.kept k) (I.hok.kept k)
theorem Inv.laid (I:Inv X pins σ H s)(k:∀b u,s.heap.get? b=some u->h'.get? b=some u)(hp:s.heap.objs.size<=a)(new:YH X.prog X.w (upd H a o) h' a o):
  Inv X pins σ (upd H a o) { s with heap:=h',toks:=t' }:=I.un (Un.laid k hp (I.hok.fresh hp)) (I.hok.laid k hp new)
theorem Inv.write (I:Inv X pins σ H s)(mu:Mut (H x))(he:e=x\/H e=some (.own x))(k:∀b u,b≠e->s.heap.get? b=some u->h'.get? b=some u)(heo:∃u,h'.get? e=some u)(new:YH X.prog X.w (upd H x o) h' x o):Inv X pins σ (upd H x o) { s with heap:=h',toks:=t' }:=I.un (Un.write mu he k heo) (I.hok.write mu he k heo new)
theorem Inv.pins_of (I:Inv X pins σ H s)(h:∀p∈pins',s.heap.get? p.1=some p.2/\H p.1=none/\p.1≠X.env.locals/\p.1 ∉ X.fs/\∀v,p.2.data≠.cell v):Inv X pins' σ H s:=
 ⟨I.ok,I.os,I.bare,I.base,I.loc,I.cell,I.free,I.freeC,λp hp=>(yE.mp hp).elim (λz=>I.pin p (uM _ z)) (h p),I.hok,I.len⟩
theorem Mi {N:List Str}(hN:N.Nodup){i j:Nat}{x:Str}(a:N[i]?=some x)(b:N[j]?=some x):i=j:=by
 obtain⟨h1,e1⟩:=zA.mp a;obtain⟨h2,e2⟩:=zA.mp b;exact(List.getElem_inj hN).mp (e1.trans e2.symm)
theorem Of {M:Model}{A:Around}{E:Value->Shared->Prop}{i:Nat}{x:Str}{v:V}{u:Value}{Q:Unit->Shared->Prop}(I:Inv X pins σ H s)(hN:X.N.Nodup)(hi:X.N[i]?=some x)(hx:Loc X.env.scope x)(r:Zs v u)
  (h:∀s',Inv X pins (σ.set i (some v)) H s'->(∃a,Heap.SameBut a s.heap s'.heap/\(a=X.env.locals\/X.env.cells.lookup x=some a))->Q Unit.unit s')(hf:Hf X x:=by first|exact .inl rfl|exact .inr rfl|assumption):wpAny M A (storeName X.env x u) Q E s:=by
 obtain⟨m,hn,hl⟩:=id I.loc;have hcls:(X.env.scope.kind==.class||(X.env.scope.kind==.module&&X.env.locals != X.env.globals))=false:=by rw[I.ok.kind];rfl
 have hiσ:i<σ.length:=by rw[I.len];exact(zA.mp hi).1
 have cne:=I.cne
 have tracked:∀ {a:Addr} {h':Heap},(∃o,s.heap.get? a=some o/\H a=none)->Heap.SameBut a s.heap h'->HOk X.prog X.w H h':=λ{a h'} ha hs b ob e=>by
  obtain⟨_,_,hfree⟩:=ha;refine(I.hok b ob e).stay (λc w' hc q=>(hs.2 c ?_).trans q) (λ_ q=>q) λ_ _ q=>q
  rintro rfl;rcases hc with rfl|hc
  .rw[hfree] at e;cases e
  .rw[hfree] at hc;cases hc
 rcases hx with hk|hk
 .refine wpAny_storeName_local hk hn (λh' hn' hs=>?_) hcls;obtain⟨oL,_,_,hoL,_⟩:=id hn;refine h _ ⟨I.ok,I.os,I.bare,⟨λb o e n hb hx=>?_,λb o e n hb hx=>?_,I.base.free,λb o e hx=>?_,I.base.tups,I.base.frzs,I.base.tbls⟩,⟨_,hn',λj y v' e1 e2 e3=>?_⟩,λy c e=>?_,I.free,I.freeC,λp hp=>?_,tracked ⟨oL,hoL,I.free⟩ hs,by simpa using I.len⟩ ⟨_,hs,.inl rfl⟩
  .exact(hs.2 b (zP (zS (Heap.lt_size e) I.ok.above))).trans (I.base.keep b o e n hb hx)
  .obtain⟨sl,e1⟩:=I.base.slot b o e n hb hx;exact⟨sl,(hs.2 b (zP (zS (Heap.lt_size e) I.ok.above))).trans e1⟩
  .obtain⟨o',e1⟩:=I.base.there b o e hx;exact⟨o',(hs.2 b (zP (zS (Heap.lt_size e) I.ok.above))).trans e1⟩
  .by_cases hj:j=i
   .subst hj;rw[hi] at e1;cases e1
    rw[yS hiσ] at e2;cases e2;exact⟨u,r,.inl ⟨hk,by simp⟩⟩
   .rw[zQ (Ne.symm hj)] at e2;obtain⟨u',r',q⟩:=hl j y v' e1 e2 e3;refine⟨u',r',?_⟩;rcases q with ⟨k,e⟩|⟨k,c,e,z⟩
    .refine .inl ⟨k,?_⟩;have:y≠x:=λe=>hj (Mi hN e1 (e ▸ hi))
     simp[this,e]
    .exact .inr ⟨k,c,e,z.sameBut hs (cne y c e)⟩
  .obtain⟨w',z⟩:=I.cell y c e;exact⟨w',z.sameBut hs (cne y c e)⟩
  .obtain⟨e,n,ne,nf,d⟩:=I.pin p hp;exact⟨(hs.2 p.1 ne).trans e,n,ne,nf,d⟩
 .have hfn:X.fn x=true:=by
   rcases hf with z|z
   .exact z
   .rw[z] at hk;cases hk
  obtain⟨c,hc⟩:=I.ok.has x (.inl hk);obtain⟨w',z⟩:=I.cell x c hc;refine wpAny_storeName_cell I.ok.kind hk hc z (λh' hc' hs=>?_);obtain⟨oc,hoc,hocd⟩:=id z;refine h { s with heap:=h' } ⟨I.ok,I.os,I.bare,⟨λb o e n hb hx=>?_,λb o e n hb hx=>?_,I.base.free,λb o e hx=>?_,I.base.tups,I.base.frzs,I.base.tbls⟩,⟨m,hn.sameBut hs (Ne.symm (cne x c hc)),λj y v' e1 e2 e3=>?_⟩,λy c' e=>?_,I.free,I.freeC,λp hp=>?_,tracked ⟨oc,hoc,I.freeC x c hc⟩ hs,by simpa using I.len⟩ ⟨c,hs,.inr hc⟩
  .exact(hs.2 b (zP (zS (Heap.lt_size e) (I.ok.cab x c hfn hc)))).trans (I.base.keep b o e n hb hx)
  .obtain⟨sl,e1⟩:=I.base.slot b o e n hb hx;exact⟨sl,(hs.2 b (zP (zS (Heap.lt_size e) (I.ok.cab x c hfn hc)))).trans e1⟩
  .obtain⟨o',e1⟩:=I.base.there b o e hx;exact⟨o',(hs.2 b (zP (zS (Heap.lt_size e) (I.ok.cab x c hfn hc)))).trans e1⟩
  .by_cases hj:j=i
   .subst hj;rw[hi] at e1;cases e1
    rw[yS hiσ] at e2;cases e2;exact⟨u,r,.inr ⟨.inl hk,c,hc,hc'⟩⟩
   .rw[zQ (Ne.symm hj)] at e2;obtain⟨u',r',q⟩:=hl j y v' e1 e2 e3;refine⟨u',r',?_⟩;rcases q with q|⟨k,c',e,z'⟩
    .exact .inl q
    .refine .inr ⟨k,c',e,z'.sameBut hs ?_⟩;rintro rfl;exact hj (Mi hN e1 (I.ok.inj _ _ _ e hc ▸ hi))
  .by_cases hcc:c'=c
   .subst hcc;exact⟨_,hc'⟩
   .obtain⟨w2,z2⟩:=I.cell y c' e;exact⟨w2,z2.sameBut hs hcc⟩
  .obtain⟨e,n,ne,nf,d⟩:=I.pin p hp;refine⟨(hs.2 p.1 ?_).trans e,n,ne,nf,d⟩;intro q;rw[q,hoc] at e;have q':oc=p.2:=Option.some.inj e;exact d w' (by rw[<- q'];exact hocd)
theorem Oy (I:Inv X pins σ H s)(hN:X.N.Nodup)(hi:X.N[i]?=some x)(hx:Loc X.env.scope x)(r:Zs v u)(h:∀s',Inv X pins (σ.set i (some v)) H s'->Q Unit.unit s')(hf:Hf X x:=by first|exact .inl rfl|exact .inr rfl|assumption):wpAny M A (storeName X.env x u) Q E s:=
 Of I hN hi hx r (λs' I' _=>h s' I') hf
theorem Inv.call' (I:Inv X pins σ H s)(ho:s'.os=s.os)(u:Un (frs X.stack) ch H H' s.heap s'.heap)(hok:HOk X.prog X.w H' s'.heap)(hg:AllBare s'.gens)(hch:∀b∈ch,(b∈X.ex\/X.s₀.heap.objs.size<=b)/\b≠X.env.locals/\(∀x c,X.env.cells.lookup x=some c->c≠b)/\∀p∈X.pn++pins,p.1≠b):Inv X pins σ H' s':=by
 obtain⟨h',g',d',t',o'⟩:=s';have e:o'=s.os:=ho;subst e;exact I.call u hok hg hch
end
abbrev XK:=Value->Option Addr->Hp->Prop
abbrev St:=List (Option V)
abbrev VK:=V->Hp->Prop
abbrev TE:=St->Hp->VK->Prop
abbrev TT:=St->Hp->(Bool->Hp->Prop)->Prop
abbrev TA:=St->Hp->(List V->Hp->Prop)->Prop
structure Wo where
 nx:St->Hp->Prop
 rt:VK
 bk:St->Hp->Prop:=λ_ _=>False
 ct:St->Hp->Prop:=λ_ _=>False
abbrev TS:=Wo->St->Hp->Prop
inductive EP (X:Cx)(pins:LA)(σ:St)(Q:VK)(u:Value)(s':Shared):Prop
 | mk (v:V) (H1:Hp) (a:Inv X pins σ H1 s') (b:Zs v u) (c:Q v H1):EP X pins σ Q u s'
def TP (X:Cx)(pins:LA)(σ:St)(Q:Bool->Hp->Prop)(b:Bool)(s':Shared):Prop:=∃H',Inv X pins σ H' s'/\Q b H'
inductive AP (X:Cx)(pins:LA)(σ:St)(Q:List V->Hp->Prop)(us:List Value)(s':Shared):Prop
 | mk (vs:List V) (H1:Hp) (a:Inv X pins σ H1 s') (b:Zq vs us) (c:Q vs H1):AP X pins σ Q us s'
def SP (X:Cx)(pins:LA)(D:Wo)(f:Flow)(s':Shared):Prop:=
 match f with
 | .next=>∃σ' H',Inv X pins σ' H' s'/\D.nx σ' H'
 | .brk=>∃σ' H',Inv X pins σ' H' s'/\D.bk σ' H'
 | .cont=>∃σ' H',Inv X pins σ' H' s'/\D.ct σ' H'
 | .ret u=>∃v σ' H',Inv X pins σ' H' s'/\Zs v u/\D.rt v H'
def PE (X:Cx)(e:Expr)(t:TE):Prop:=
 ∀(pins:LA)(s:Shared)(σ:St)(H:Hp)(Q:VK),Inv X pins σ H s->t σ H Q->wpAny (mX X) X.A (eval e X.env) (EP X pins σ Q) X.xe s
def PT (X:Cx)(e:Expr)(t:TT):Prop:=
 ∀(pins:LA)(s:Shared)(σ:St)(H:Hp)(Q:Bool->Hp->Prop),Inv X pins σ H s->t σ H Q->wpAny (mX X) X.A (isTrue e X.env (eval e X.env)) (TP X pins σ Q) X.xe s
def PW (X:Cx)(e:Expr)(t:TT):Prop:=
 ∀(aQ:Sem Value)(pins:LA)(s:Shared)(σ:St)(H:Hp)(Q:Bool->Hp->Prop),Inv X pins σ H s->t σ H Q->wpAny (mX X) X.A (isTrue e X.env aQ) (TP X pins σ Q) X.xe s
theorem PW.pt (h:PW X e t):PT X e t:=h _
def PA (X:Cx)(es:List Expr)(t:TA):Prop:=
 ∀(pos:Pos)(pins:LA)(s:Shared)(σ:St)(H:Hp)(Q:List V->Hp->Prop),Inv X pins σ H s->t σ H Q->wpAny (mX X) X.A (spliced (backTo pos (starEach es X.env))) (AP X pins σ Q) X.xe s
def PS (X:Cx)(st:Stmt)(t:TS):Prop:=
 ∀(pins:LA)(s:Shared)(σ:St)(H:Hp)(D:Wo),Inv X pins σ H s->t D σ H->wpAny (mX X) X.A (exec st X.env) (SP X pins D) X.xe s
def PSs (X:Cx)(st:List Stmt)(t:TS):Prop:=
 ∀(pins:LA)(s:Shared)(σ:St)(H:Hp)(D:Wo),Inv X pins σ H s->t D σ H->wpAny (mX X) X.A (execs st X.env) (SP X pins D) X.xe s
theorem thn {α:Type}{t:Sem α}{Q Q':α->Shared->Prop}{M:Model}{A:Around}{E:Value->Shared->Prop}{s:Shared}(h:wpAny M A t Q E s)(hQ:∀a s,Q a s->Q' a s):wpAny M A t Q' E s:=wpAny_mono h hQ λ_ _ x=>x
section
variable {X:Cx}
def tVar (i:Nat):TE:=λσ H Q=>∃v,σ[i]?=some (some v)/\Q v H
def tC (v:V):TE:=λ_ H Q=>Q v H
theorem Nc (hN:X.N[i]?=some x)(hv:Vis X.env.scope x)(hd:(x==("__debug__":Str))=false:=by decide)(hcd:(x==("__classdict__":Str))=false:=by decide):PE X (.Name x pos) (tVar i):=by
 intro pins s σ H Q I h;obtain⟨v,e,h⟩:=h;obtain⟨m,hn,hl⟩:=I.loc;obtain⟨u,r,l⟩:=hl i x v hN e hv;have aZ:EP X pins σ Q u s:=⟨v,H,I,r,h⟩;rcases l with ⟨hk,hm⟩|⟨hk,c,hc,hcell⟩
 .exact wpAny_Name (wpAny_loadName_local I.ok.kind hk hn hm aZ) hd
 .rcases hk with hk|hk
  .exact wpAny_Name (wpAny_loadName_cell I.ok.kind hk hc hcell aZ) hd
  .exact wpAny_Name (wpAny_loadName_free I.ok.kind hk hc hcell aZ hcd) hd
theorem Eb {i j pos}:PE X (.Constant (.int i) j pos) (tC (.int i)):=λ_ _ _ H _ I h=>wpAny_Constant_int ⟨.int i,H,I.tok _,⟨_,rfl⟩,h⟩
theorem pe_bl {b j pos}:PE X (.Constant (.bool b) j pos) (tC (.bl b)):=λ_ _ _ H _ I h=>Constant_bool ⟨.bl b,H,I,rfl,h⟩
theorem HL {j pos}:PE X (.Constant .none j pos) (tC .non):=λ_ _ _ H _ I h=>Constant_none ⟨.non,H,I,rfl,h⟩
theorem HN {x j pos}:PE X (.Constant (.str x) j pos) (tC (.str x)):=λ_ _ _ H _ I h=>Calls.Constant_str ⟨.str x,H,I.tok _,⟨_,rfl⟩,h⟩
def Gl (X:Cx)(x:Str):Prop:=X.env.kindOf x=some .globalImplicit
theorem Lg (I:Inv X pins σ H s)(hg:Gl X x)(hm:X.mg x=some u)(h:Q u s)(hd:(x==("__debug__":Str))=false:=by decide):wpAny (mX X) X.A (eval (.Name x pos) X.env) Q E s:=
 Calls.Name_function_global I.ok.kind hg (Calls.loadGlobal_global (by rw[I.ok.glob];exact I.mod.glob.keeps I.bk) hm h) hd
theorem Wd (I:Inv X pins σ H s)(hg:Gl X x)(hm:X.mg x=none)(hv:bootBuiltins x=some u)(h:Q u s)(hn:x≠"__name__":=by decide)(hd:(x==("__debug__":Str))=false:=by decide):wpAny (mX X) X.A (eval (.Name x pos) X.env) Q E s:=by
 obtain⟨mb,h1,h2⟩:=I.mod.blt;exact Calls.Name_function_global I.ok.kind hg (Calls.loadGlobal_builtin (by rw[I.ok.glob];exact I.mod.glob.keeps I.bk) hm (by rw[I.ok.blt];exact h1.keeps I.bk) ((h2 x hn).trans hv) h) hd
theorem EV (hg:Gl X x)(hm:X.mg x=none)(hv:bootBuiltins x=some u)(r:Zs v u)(hn:x≠"__name__":=by decide)(hd:(x==("__debug__":Str))=false:=by decide):PE X (.Name x pos) (tC v):=
 λ_ _ _ H _ I h=>Wd I hg hm hv ⟨v,H,I,r,h⟩ hn hd
variable {a b:Expr}{ta tb:TE}{pos:Pos}
def tB (t:TE):TT:=λσ H Q=>t σ H λx H1=>∃c,x=.bl c/\Q c H1
theorem Hv (h:PE X e t)(he:∀aQ,isTrue e X.env aQ=(do let v <- aQ;standAt e.pos;holding [v] (truthy v)):=by intro _;rfl):PT X e (tB t):=by
 intro pins s σ H Q I hw;refine isTrue_plain (thn (h pins s σ H _ I hw) λv s1 ⟨x,H1,I1,r1,q1⟩=>?_) (he _);obtain⟨d,rfl,q⟩:=q1;cases r1;exact wpAny_truthy_bool ⟨H1,I1,q⟩
variable {tA tB':TT}{Ye:List Expr}
def tAnd (t u:TT):TT:=λσ H Q=>t σ H λc H1=>if c=true then u σ H1 Q else Q false H1
def tOr (t u:TT):TT:=λσ H Q=>t σ H λc H1=>if c=true then Q true H1 else u σ H1 Q
def tNot (t:TT):TT:=λσ H Q=>t σ H λc H1=>Q (!c) H1
theorem Fb (ha:PT X a tA):PW X (.BoolOp .And [a] pos) tA:=by
 intro wh pins s σ H Q I h;refine isTrue_and (thn (ha pins s σ H Q I h) λc s1 e=>?_);cases c with
 | true=>exact isTrue_and_nil e
 | false=>exact e
theorem G9 (ha:PT X a tA):PW X (.BoolOp .Or [a] pos) tA:=by
 intro wh pins s σ H Q I h;refine isTrue_or (thn (ha pins s σ H Q I h) λc s1 e=>?_);cases c with
 | false=>exact isTrue_or_nil e
 | true=>exact e
theorem C9 (ha:PT X a tA)(hb:PW X (.BoolOp .And (b::Ye) pos) tB'):PW X (.BoolOp .And (a::b::Ye) pos) (tAnd tA tB'):=by
 intro wh pins s σ H Q I h;refine isTrue_and (thn (ha pins s σ H _ I h) λc s1 ⟨H1,I1,q1⟩=>?_);cases c with
 | true=>exact hb wh pins s1 σ H1 Q I1 q1
 | false=>exact⟨H1,I1,q1⟩
theorem pw_or (ha:PT X a tA)(hb:PW X (.BoolOp .Or (b::Ye) pos) tB'):PW X (.BoolOp .Or (a::b::Ye) pos) (tOr tA tB'):=by
 intro wh pins s σ H Q I h;refine isTrue_or (thn (ha pins s σ H _ I h) λc s1 ⟨H1,I1,q1⟩=>?_);cases c with
 | true=>exact⟨H1,I1,q1⟩
 | false=>exact hb wh pins s1 σ H1 Q I1 q1
theorem Kq (ha:PT X a tA):PT X (.UnaryOp .Not a pos) (tNot tA):=by
 intro pins s σ H Q I h;exact isTrue_not (ha pins s σ H (λc H1=>Q (!c) H1) I h)
def tAndV (ta tb:TE):TE:=λσ H Q=>ta σ H λx H1=>∃c,x=.bl c/\if c=true then tb σ H1 Q else Q (.bl false) H1
def tOrV (ta tb:TE):TE:=λσ H Q=>ta σ H λx H1=>∃c,x=.bl c/\if c=true then Q (.bl true) H1 else tb σ H1 Q
theorem Cc {op}(h:PE X a t):PE X (.BoolOp op [a] pos) t:=λpins s σ H Q I hw=>BoolOp_one (h pins s σ H Q I hw)
theorem G0 (ha:PE X a ta)(hb:PE X (.BoolOp .And (b::Ye) pos) tb):PE X (.BoolOp .And (a::b::Ye) pos) (tAndV ta tb):=by
 intro pins s σ H Q I h;refine BoolOp_and (thn (ha pins s σ H _ I h) λv s1 ⟨x,H1,I1,r1,q1⟩=>?_);obtain⟨c,rfl,q1⟩:=q1;cases r1;refine wpAny_truthy_bool ?_;cases c with
 | true=>exact hb pins s1 σ H1 Q I1 q1
 | false=>exact⟨.bl false,H1,I1,rfl,q1⟩
theorem pe_or (ha:PE X a ta)(hb:PE X (.BoolOp .Or (b::Ye) pos) tb):PE X (.BoolOp .Or (a::b::Ye) pos) (tOrV ta tb):=by
 intro pins s σ H Q I h;refine BoolOp_or (thn (ha pins s σ H _ I h) λv s1 ⟨x,H1,I1,r1,q1⟩=>?_);obtain⟨c,rfl,q1⟩:=q1;cases r1;refine wpAny_truthy_bool ?_;cases c with
 | false=>exact hb pins s1 σ H1 Q I1 q1
 | true=>exact⟨.bl true,H1,I1,rfl,q1⟩
def tIf (t:TT)(ta tb:TE):TE:=λσ H Q=>t σ H λc H1=>if c=true then ta σ H1 Q else tb σ H1 Q
theorem ES (hc:PT X c tA)(ha:PE X a ta)(hb:PE X b tb):PE X (.IfExp c a b pos) (tIf tA ta tb):=by
 intro pins s σ H Q I h;refine wpAny_IfExp (thn (hc pins s σ H _ I h) λd s1 ⟨H1,I1,q1⟩=>?_);cases d with
 | true=>exact ha pins s1 σ H1 Q I1 q1
 | false=>exact hb pins s1 σ H1 Q I1 q1
end
def SqL (K:Fg)(H:Hp)(a:Addr)(xs:List V):Prop:=
 Rd H a (.lst xs)\/
  ∃(o:Obj)(aY:Array Value)(n:Nat),K.lookup a=some o/\o.cls=.type "list"/\o.dict=none/\o.data=.seq aY n/\aY.size<=sizeLine/\Zq xs aY.toList
def SqT (K:Fg)(H:Hp)(a:Addr)(xs:List V):Prop:=
 Rd H a (.tup xs)\/
  ∃(o:Obj)(aY:Array Value)(n:Nat),K.lookup a=some o/\o.cls=.type "tuple"/\o.data=.seq aY n/\aY.size<=sizeLine/\Zq xs aY.toList
def absV:Value->Option V
 | .none=>some .non
 | .bool b=>some (.bl b)
 | .int i _=>some (.int i)
 | .str x _=>some (.str x)
 | .bytes b _=>some (.byt b)
 | .float b _=>some (.flt b)
 | .ref a=>some (.ref a)
 | .type n=>some (.ty n)
 | _=>none
theorem Zs.abs (r:Zs x u):absV u=some x:=by
 cases x with
 | non=>cases r;rfl
 | bl _=>cases r;rfl
 | int _=>obtain⟨t,rfl⟩:=r;rfl
 | str _=>obtain⟨t,rfl⟩:=r;rfl
 | byt _=>obtain⟨t,rfl⟩:=r;rfl
 | flt _=>obtain⟨t,rfl⟩:=r;rfl
 | ref _=>cases r;rfl
 | ty _=>cases r;rfl
theorem Zs.inj (r:Zs x u)(q:Zs y u):x=y:=Option.some.inj (r.abs.symm.trans q.abs)
theorem Zq.inj:∀ {xs ys:List V} {us:List Value},Zq xs us->Zq ys us->xs=ys
 | _,_,_,.nil,.nil=>rfl
 | _,_,_,.cons r t,.cons r' t'=>by rw[r.inj r',Zq.inj t t']
theorem SqL.of {K:Fg}(h:H a=some (.lst xs)):SqL K H a xs:=.inl (.inl h)
theorem SqT.of {K:Fg}(h:H a=some (.tup xs)):SqT K H a xs:=.inl (.inl h)
theorem Inv.list (I:Inv X pins σ H s)(h:SqL X.K H a xs):∃aY:List Value,Zq xs aY/\PlainL s.heap a aY.toArray/\xs.length<=sizeLine:=by
 rcases h with h|⟨o,aY,n,hk,hc,hd,hs,hz,r⟩
 .obtain⟨z,aY,n,r,e⟩:=h.ok I.hok;exact⟨aY,r,⟨_,n,e,rfl,rfl,rfl⟩,z⟩
 .refine⟨aY.toList,r,⟨o,n,I.kIn a o hk,hc,hd,by simpa using hs⟩,?_⟩;have e:=r.length;simp at e;omega
theorem Inv.tuple (I:Inv X pins σ H s)(h:SqT X.K H a xs):∃aY:List Value,Zq xs aY/\IsTup s.heap a aY.toArray/\xs.length<=sizeLine:=by
 rcases h with h|⟨o,aY,n,hk,hc,hs,hz,r⟩
 .obtain⟨z,aY,r,p⟩:=h.ok I.hok;exact⟨aY,r,p,z⟩
 .refine⟨aY.toList,r,⟨o,I.kIn a o hk,hc,n,by simpa using hs⟩,?_⟩;have e:=r.length;simp at e;omega
theorem Inv.list_inj (I:Inv X pins σ H s)(h:SqL X.K H a xs)(h':SqL X.K H a ys):xs=ys:=by
 obtain⟨aY,r,⟨o,n,e,_,_,d⟩,_⟩:=I.list h;obtain⟨its',r',⟨o',n',e',_,_,d'⟩,_⟩:=I.list h';rw[e] at e';cases e'
 rw[d] at d';injection d' with d1 _
 have:aY=its':=by simpa using congrArg Array.toList d1
 subst this;exact r.inj r'
theorem Inv.tuple_inj (I:Inv X pins σ H s)(h:SqT X.K H a xs)(h':SqT X.K H a ys):xs=ys:=by
 obtain⟨aY,r,⟨o,e,_,n,d⟩,_⟩:=I.tuple h;obtain⟨its',r',⟨o',e',_,n',d'⟩,_⟩:=I.tuple h';rw[e] at e';cases e'
 rw[d] at d';injection d' with d1 _
 have:aY=its':=by simpa using congrArg Array.toList d1
 subst this;exact r.inj r'
abbrev Cx.wish (X:Cx)(E:Value->Shared->Prop):Cx:={ X with xe:=E }
abbrev Cx.nox (X:Cx):Cx:=X.wish λ_ _=>False
theorem Cx.Ok.wish {X:Cx}(ok:X.Ok)(E:Value->Shared->Prop):(X.wish E).Ok:=
 ⟨ok.mod,ok.kind,ok.glob,ok.blt,ok.above,ok.inj,ok.has,ok.cab,ok.hd,ok.frames,ok.stk,ok.exf,ok.bs,ok.bsz,ok.noex,ok.exfs,ok.funs,ok.frf⟩
theorem Cx.Ok.unwish {X:Cx}{E:Value->Shared->Prop}(ok:(X.wish E).Ok):X.Ok:=
 ⟨ok.mod,ok.kind,ok.glob,ok.blt,ok.above,ok.inj,ok.has,ok.cab,ok.hd,ok.frames,ok.stk,ok.exf,ok.bs,ok.bsz,ok.noex,ok.exfs,ok.funs,ok.frf⟩
theorem Inv.wish (I:Inv X pins σ H s)(E:Value->Shared->Prop):Inv (X.wish E) pins σ H s:=⟨I.ok.wish E,I.os,I.bare,I.base,I.loc,I.cell,I.free,I.freeC,I.pin,I.hok,I.len⟩
theorem Inv.unwish (I:Inv (X.wish E) pins σ H s):Inv X pins σ H s:=⟨I.ok.unwish,I.os,I.bare,I.base,I.loc,I.cell,I.free,I.freeC,I.pin,I.hok,I.len⟩
theorem SP.unwish (h:SP (X.wish E) pins D f s'):SP X pins D f s':=by
 cases f with
 | next=>obtain⟨σ',H',I,q⟩:=h;exact⟨σ',H',I.unwish,q⟩
 | brk=>obtain⟨σ',H',I,q⟩:=h;exact⟨σ',H',I.unwish,q⟩
 | cont=>obtain⟨σ',H',I,q⟩:=h;exact⟨σ',H',I.unwish,q⟩
 | ret u=>obtain⟨v,σ',H',I,r,q⟩:=h;exact⟨v,σ',H',I.unwish,r,q⟩
theorem PE.nox {e:Expr}{t:TE}(h:PE X.nox e t):PE X e t:=λpins s σ H Q I hw=>
 wpAny_mono (h pins s σ H Q (I.wish _) hw) (λ_ _ ⟨v,H',I',r,q⟩=>⟨v,H',I'.unwish,r,q⟩) λ_ _ z=>False.elim z
theorem PSs.nox {st:List Stmt}{t:TS}(h:PSs X.nox st t):PSs X st t:=λpins s σ H D I hw=>
 wpAny_mono (h pins s σ H D (I.wish _) hw) (λ_ _ q=>q.unwish) λ_ _ z=>False.elim z
section
variable {X:Cx}{st:Stmt}{Ye:List Stmt}{t u:TS}{e:Expr}{te:TE}{pos:Pos}
def tNext:TS:=λD σ H=>D.nx σ H
def tSeq (t u:TS):TS:=λD σ H=>t { D with nx:=u D } σ H
theorem Jg:PSs X [] tNext:=λ_ _ σ H _ I h=>wpAny_execs_nil ⟨σ,H,I,h⟩
theorem Ko (h1:PS X st t)(h2:PSs X Ye u):PSs X (st::Ye) (tSeq t u):=by
 intro pins s σ H D I h;refine wpAny_execs_cons (thn (h1 pins s σ H { D with nx:=u D } I h) λf s1 q=>?_);cases f with
 | next=>
  obtain⟨σ',H',I',q⟩:=q;exact h2 pins s1 σ' H' D I' q
 | ret v=>exact q
 | brk=>exact q
 | cont=>exact q
theorem EU (h1:PS X st t):PSs X [st] t:=by
 intro pins s σ H D I h;refine wpAny_execs_cons (thn (h1 pins s σ H D I h) λf s1 q=>?_);cases f with
 | next=>exact wpAny_execs_nil q
 | ret v=>exact q
 | brk=>exact q
 | cont=>exact q
def Cq:TS:=λD σ H=>D.bk σ H
theorem KR:PS X (.Break pos) Cq:=λ_ _ σ H _ I h=>wpAny_Break ⟨σ,H,I,h⟩
theorem Inv.quiet (I:Inv X pins σ H s):interactive X.env=false:=by simp[interactive,I.ok.kind]
def tDrop (te:TE):TS:=λD σ H=>te σ H λ_ H1=>D.nx σ H1
theorem Kk (he:PE X e te)(hs:swapsWith e none pos.line X.env=pure false:=by rfl):PS X (.Expr e pos) (tDrop te):=by
 intro pins s σ H D I h;exact wpAny_Expr_any (thn (he pins s σ H _ I h) λv s1 ⟨x,H1,I1,r1,q1⟩=>⟨σ,H1,I1,q1⟩) I.quiet hs
def tRet (te:TE):TS:=λD σ H=>te σ H D.rt
theorem Hu (he:PE X e te):PS X (.Return (some e) pos) (tRet te):=by
 intro pins s σ H D I h;exact wpAny_Return_some (thn (he pins s σ H _ I h) λv s1 ⟨x,H1,I1,r1,q1⟩=>⟨x,σ,H1,I1,r1,q1⟩)
def tRetN:TS:=λD _ H=>D.rt .non H
theorem Ji:PS X (.Return none pos) tRetN:=λ_ _ σ H _ I h=>wpAny_Return_none ⟨.non,σ,H,I,rfl,h⟩
def tIfS (c:TT)(t u:TS):TS:=λD σ H=>c σ H λb H1=>if b=true then t D σ H1 else u D σ H1
theorem ps_if (hc:PT X c tc)(ha:PSs X a t)(hb:PSs X b u):PS X (.If c a b pos) (tIfS tc t u):=by
 intro pins s σ H D I h;refine wpAny_If (thn (hc pins s σ H _ I h) λd s1 ⟨H1,I1,q1⟩=>?_);cases d with
 | true=>exact ha pins s1 σ H1 D I1 q1
 | false=>exact hb pins s1 σ H1 D I1 q1
def Kn:TS:=λ_ _ _=>False
theorem K4:PS X st Kn:=λ_ _ _ _ _ _ h=>h.elim
end
abbrev TG:=V->St->Hp->(St->Hp->Prop)->Prop
abbrev TGs:=List V->St->Hp->(St->Hp->Prop)->Prop
def PG (X:Cx)(target:Expr)(t:TG):Prop:=
 ∀(pins:LA)(s:Shared)(σ:St)(H:Hp)(v:V)(u:Value)(Q:St->Hp->Prop),Inv X pins σ H s->Zs v u->t v σ H Q->
  wpAny (mX X) X.A (assign target X.env u) (λ_ s'=>∃σ' H',Inv X pins σ' H' s'/\Q σ' H') X.xe s
def PGs (X:Cx)(ts:List Expr)(t:TGs):Prop:=
 ∀(pins:LA)(s:Shared)(σ:St)(H:Hp)(vs:List V)(us:List Value)(Q:St->Hp->Prop),Inv X pins σ H s->Zq vs us->t vs σ H Q->
  wpAny (mX X) X.A (assignInOrder ((assignEach ts X.env).map (·.2)) us) (λ_ s'=>∃σ' H',Inv X pins σ' H' s'/\Q σ' H') X.xe s
abbrev TSet:=V->V->V->Hp->(Hp->Prop)->Prop
def PSet (X:Cx)(t:TSet):Prop:=
 ∀(pins:LA)(s:Shared)(σ:St)(H:Hp)(o i v:V)(ov iv u:Value)(Q:Hp->Prop),Inv X pins σ H s->Zs o ov->Zs i iv->Zs v u->t o i v H Q->
  wpAny (mX X) X.A (setItem ov iv u) (λ_ s'=>∃H',Inv X pins σ H' s'/\Q H') X.xe s
def RO (i:Nat):TG:=λv σ H Q=>Q (σ.set i (some v)) H
theorem Ud (hN:X.N.Nodup)(hi:X.N[i]?=some x)(hx:Loc X.env.scope x)(hf:Hf X x:=by first|exact .inl rfl|exact .inr rfl|assumption):PG X (.Name x pos) (RO i):=by
 intro pins s σ H v u Q I r h;exact wpAny_assign_Name (Oy I hN hi hx r (λs' I'=>⟨_,H,I',h⟩) hf)
def gNil:TGs:=λvs σ H Q=>vs=[]/\Q σ H
def gCons (t:TG)(u:TGs):TGs:=λvs σ H Q=>∃v r,vs=v::r/\t v σ H λσ' H'=>u r σ' H' Q
theorem Kb:PGs X [] gNil:=by
 intro pins s σ H vs us Q I r h;obtain⟨e,h⟩:=h;subst e;cases r;exact assignInOrder_nil ⟨σ,H,I,h⟩
theorem Bl (h1:PG X e t)(h2:PGs X es u)(hs:(assignEach (e::es) X.env).map (·.2)=assign e X.env::(assignEach es X.env).map (·.2):=by rfl):PGs X (e::es) (gCons t u):=by
 intro pins s σ H vs us Q I r h;obtain⟨v,vr,e1,h⟩:=h;subst e1;cases r with
 | cons r rr=>
  rw[hs];refine assignInOrder_cons (thn (h1 pins s σ H _ _ _ I r h) λ_ s1 ⟨σ1,H1,I1,q1⟩=>?_);exact h2 pins s1 σ1 H1 _ _ Q I1 rr q1
def gTup (K:Fg)(n:Nat)(t:TGs):TG:=λv σ H Q=>∃a xs,v=.ref a/\SqT K H a xs/\xs.length=n/\t xs σ H Q
theorem VC (hc:X.calm=true)(h:PGs X es t)(hn:(assignEach es X.env).length=n:=by rfl)(hst:(assignEach es X.env).findIdx? (·.1)=none:=by rfl):PG X (.Tuple es k pos) (gTup X.K n t):=by
 intro pins s σ H v u Q I r hw;obtain⟨a,xs,e1,hq,hl,hw⟩:=hw;subst e1;cases r;obtain⟨aY,rv,ht,hz⟩:=I.tuple hq;refine assign_Tuple_tuple (I.ok.hd hc) ht (by simp[hn,<- hl,rv.length]) hst λh' hx=>?_
 have I1:Inv X pins σ H { s with heap:=h' }:=I.kept λb o e=>hx b o (zP (Heap.lt_size e)) e
 exact h pins _ σ H xs _ Q I1 (by simpa using rv) hw
def gSub (to ti:TE)(t:TSet):TG:=λv σ H Q=>to σ H λo H1=>ti σ H1 λi H2=>t o i v H2 λH3=>Q σ H3
theorem JM (ho:PE X o to)(hi:PE X i ti)(hs:PSet X t)(ha:∀v,assign (.Subscript o i pos) X.env v=(do
   let ov <- holding [v] (eval o X.env)
   let iv <- holding [v,ov] (eval i X.env)
   standAt pos
   holding [v,ov,iv] (setItem ov iv v)
   release [v,ov,iv] []):=by intro _;rfl):PG X (.Subscript o i pos) (gSub to ti t):=by
 intro pins s σ H v u Q I r h;refine wpAny_bind (wpAny_holding (thn (ho pins s σ H _ I h) λov s1 ⟨x,H1,I1,r1,q1⟩=>?_));refine wpAny_bind (wpAny_holding (thn (hi pins s1 σ H1 _ I1 q1) λiv s2 ⟨y,H2,I2,r2,q2⟩=>?_));refine wpAny_bind (wpAny_standAt (wpAny_bind (wpAny_holding (thn (hs pins s2 σ H2 x y v ov iv u _ I2 r1 r2 r q2) λ_ s3 ⟨H3,I3,q3⟩=>?_))));exact wpAny_release ⟨σ,H3,I3,q3⟩
def tAsg (te:TE)(g:TG):TS:=λD σ H=>te σ H λx H1=>g x σ H1 D.nx
theorem Hy (he:PE X e te)(hg:PG X tg g)(hs:swapsWithSole [tg] e pos.line X.env=pure false:=by rfl)(hw:swappedStores [tg] e X.env=pure none:=by rfl)(h1:(assignEach [tg] X.env).map (·.2)=[assign tg X.env]:=by rfl):PS X (.Assign [tg] e pos) (tAsg te g):=by
 intro pins s σ H D I h;refine wpAny_Assign_stores (thn (he pins s σ H _ I h) λv s1 ⟨x,H1,I1,r1,q1⟩=>?_) hs hw;rw[h1];exact thn (hg pins s1 σ H1 x v _ I1 r1 q1) λ_ s2 q=>q
theorem JO (hN:X.N.Nodup)(hi:X.N[i]?=some x)(hx:Loc X.env.scope x)(he:PE X e te)(hs:swapsWith e (some (.Name x pos')) pos.line X.env=pure false:=by rfl)(hf:Hf X x:=by first|exact .inl rfl|exact .inr rfl|assumption):
  PS X (.Assign [.Name x pos'] e pos) (tAsg te (RO i)):=by
 intro pins s σ H D I h;refine wpAny_Assign_Name (thn (he pins s σ H _ I h) λv s1 ⟨y,H1,I1,r1,q1⟩=>?_) hs;exact Oy I1 hN hi hx r1 (λs2 I2=>⟨_,H1,I2,q1⟩) hf
def HZ (c:TT)(tb:TS):TS:=λD σ H=>∃W:Nat->St->Hp->Prop,(∃m,W m σ H)/\∀m σ H,W m σ H->
 c σ H λb H1=>if b=true then ∃N:St->Hp->Prop,(∀σ' H',N σ' H'->∃m',m'<m/\W m' σ' H')/\tb { D with nx:=N,ct:=N,bk:=D.nx } σ H1 else D.nx σ H1
theorem E0 (hp:PassesOwn (mX X) X.A X.env X.xe)(hc:PT X c tc)(hb:PSs X body tb):PS X (.While c body [] pos) (HZ tc tb):=by
 intro pins s σ H D I h;obtain⟨W,⟨m0,w0⟩,turn⟩:=h;refine wpAny_While (codeAny_whileLoop (λn s'=>∃σ' H',Inv X pins σ' H' s'/\W n σ' H') ?_ m0 ⟨σ,H,I,w0⟩);rintro n s1 ⟨σ1,H1,I1,w1⟩;refine wpAny_passesOwn hp (thn (hc pins s1 σ1 H1 _ I1 (turn n σ1 H1 w1)) λb s2 ⟨H2,I2,q2⟩=>?_);cases b with
 | true=>
  obtain⟨N,hN,q2⟩:=q2;refine wpAny_passesOwn hp (thn (hb pins s2 σ1 H2 _ I2 q2) λf s3 q3=>?_);cases f with
  | next=>
   obtain⟨σ3,H3,I3,n3⟩:=q3;obtain⟨m',hm,w3⟩:=hN σ3 H3 n3;exact⟨m',hm,σ3,H3,I3,w3⟩
  | cont=>
   obtain⟨σ3,H3,I3,n3⟩:=q3;obtain⟨m',hm,w3⟩:=hN σ3 H3 n3;exact⟨m',hm,σ3,H3,I3,w3⟩
  | brk=>exact q3
  | ret v=>exact q3
 | false=>
  exact wpAny_execs_nil ⟨σ1,H2,I2,q2⟩
structure It where
 go:Nat->Hp->Prop
 yld:Nat->Hp->V->Hp->Prop
 stop:Nat->Hp->Prop
def Yk (X:Cx)(pins:LA)(H:Hp)(b:Addr):Prop:=
 H b=none/\b≠X.env.locals/\b ∉ X.fs/\(b∈X.ex\/X.s₀.heap.objs.size<=b)/\(∀x c,X.env.cells.lookup x=some c->c≠b)/\∀p∈X.pn++pins,p.1≠b
theorem Inv.fpOk {X:Cx}{pins:LA}{σ:St}{H H':Hp}{s:Shared}{b:Addr}(I:Inv X pins σ H s)(hb:s.heap.objs.size<=b)(hn:H' b=none):Yk X pins H' b:=by
 refine⟨hn,yZ (zS I.lt hb),I.nofs hb,.inr (yF I.sz hb),λx c e z=>?_,λp hp z=>?_⟩
 .obtain⟨v,q⟩:=I.cell x c e;exact absurd (zS q.lt (by rw[z];exact hb)) (yR _)
 .exact absurd (zS (Heap.lt_size (I.pin p hp).1) (by rw[z];exact hb)) (yR _)
structure W8 (P:Program)(w:World)(K:Fg)(tg:Expr)(J:It)(fp:List Addr)(it:Addr)(tn:Nat->Heap->Prop):Prop where
 mem:it∈fp
 obj:∀i h,tn i h->∀b∈fp,∃o,h.get? b=some o/\∀v,o.data≠.cell v
 keep:∀i h h',tn i h->(∀b∈fp,∀o,h.get? b=some o->h'.get? b=some o)->tn i h'
 item:∀(X:Cx),X.prog=P->X.w=w->X.K=K->X.calm=true->∀(i:Nat)(pins:LA)(s:Shared)(σ:St)(H:Hp)(E:Value->Shared->Prop),Inv X pins σ H s->(∀b∈fp,Yk X pins H b)->tn i s.heap->J.go i H->
  wpAny (model P w) X.A (pyNext (.ref it)) (λr s1=>∃u,r=some u/\
   wpAny (model P w) X.A (letOwnedTupleGo tg (.ref it) u) (λ_ s2=>∃x H',Inv X pins σ H' s2/\Zs x u/\J.yld i H x H'/\tn (i+1) s2.heap/\∀b∈fp,H' b=none) E s1) E s
 done:∀(X:Cx),X.prog=P->X.w=w->X.K=K->X.calm=true->∀(i:Nat)(pins:LA)(s:Shared)(σ:St)(H:Hp)(E:Value->Shared->Prop),Inv X pins σ H s->(∀b∈fp,Yk X pins H b)->tn i s.heap->J.stop i H->
  wpAny (model P w) X.A (pyNext (.ref it)) (λr s1=>r=none/\Inv X pins σ H s1) E s
 self:∀(A:Around)(i:Nat)(s:Shared)(Q:Value->Shared->Prop)(E:Value->Shared->Prop),tn i s.heap->Q (.ref it) s->wpAny (model P w) A (pyIter (.ref it)) Q E s
abbrev TI:=St->Hp->(It->Hp->Prop)->Prop
def PIE (X:Cx)(pins:LA)(σ:St)(tg:Expr)(R:It->Hp->Prop)(itv:Value)(s2:Shared):Prop:=
 ∃(it:Addr)(fp:List Addr)(tn:Nat->Heap->Prop)(J:It)(H':Hp),itv=.ref it/\Inv X pins σ H' s2/\W8 X.prog X.w X.K tg J fp it tn/\tn 0 s2.heap/\(∀b∈fp,Yk X pins H' b)/\R J H'
def PI (X:Cx)(tg aV:Expr)(wi:TI):Prop:=
 ∀(pins:LA)(s:Shared)(σ:St)(H:Hp)(R:It->Hp->Prop),Inv X pins σ H s->wi σ H R->
  wpAny (mX X) X.A (eval aV X.env) (λv s1=>wpAny (mX X) X.A (pyIter v) (PIE X pins σ tg R) X.xe s1) X.xe s
theorem TN (ho:s.heap.get? it=some o)(hc:o.cls=.type n)(hd:o.data=.fields vs)(hn:["enumerate","zip","dict_itemiterator","dict_reverseitemiterator","odict_iterator","itertools.zip_longest","itertools.pairwise"].contains n=false)(hQ:Q Unit.unit s):wpAny M A (letOwnedTupleGo tg (.ref it) u) Q E s:=by
  cases tg<;>first
    | exact wpAny_pure hQ
    | (cases u<;>first
        | exact wpAny_pure hQ
        | (refine wpAny_bind (wpAny_load ho ?_)
           rw[hc,hd];show wpAny M A (if (["enumerate","zip","dict_itemiterator","dict_reverseitemiterator","odict_iterator","itertools.zip_longest","itertools.pairwise"].contains n&&vs[0]?==some (rawInt _))=true then _ else _) Q E s;rw[if_neg (by intro h;rw[hn,wC] at h;cases h)];exact wpAny_pure hQ))
def Itl (K:Fg)(a:Addr):It:=
 ⟨λi H=>∃xs x,SqL K H a xs/\xs[i]?=some x,λi H x H'=>H'=H/\∀xs,SqL K H a xs->xs[i]?=some x,λi H=>∃xs,SqL K H a xs/\xs.length<=i⟩
def Itt (K:Fg)(a:Addr):It:=
 ⟨λi H=>∃xs x,SqT K H a xs/\xs[i]?=some x,λi H x H'=>H'=H/\∀xs,SqT K H a xs->xs[i]?=some x,λi H=>∃xs,SqT K H a xs/\xs.length<=i⟩
def Itr (lo:Int)(n:Nat):It:=⟨λi _=>i<n,λi H x H'=>H'=H/\x=.int (lo+i),λi _=>n<=i⟩
theorem BB {P:Program}{w:World}{K:Fg}{tg:Expr}(a it:Addr):W8 P w K tg (Itl K a) [it] it (λi h=>h.IsListIter it a i) where
 mem:=by simp
 obj:=λi h st b hb=>by
  have e:b=it:=by simpa using hb
  subst e;obtain⟨o,e,c,d⟩:=st;exact⟨o,e,λv z=>by rw[d] at z;cases z⟩
 keep:=λi h h' st k=>st.at λo e=>k it (by simp) o e
 item:=by
  intro X hP hw hK hc i pins s σ H E I hf st hg;subst hP hw hK;obtain⟨xs,x,hq,hx⟩:=hg;obtain⟨aY,rv,p,hz⟩:=I.list hq;obtain⟨u,hu,ru⟩:=rv.get hx;obtain⟨f0,f1,f2,f3,f4,f5⟩:=hf it (by simp);refine wpAny_pyNext_list_item st p.isList (by simpa using hu) λh' st' sb=>?_
  have I1:Inv X pins σ H { s with heap:=h' }:=I.turned (λb o hb e=>(sb.2 b hb).trans e) f0 f1 f3 f4 f5;obtain⟨o,e,c,d⟩:=id st';exact⟨u,rfl,TN e c d ⋯ ⟨x,H,I1,ru,⟨rfl,λys hy=>by rw[I.list_inj hy hq];exact hx⟩,st',λb hb=>(hf b hb).1⟩⟩
 done:=by
  intro X hP hw hK hc i pins s σ H E I hf st hg;subst hP hw hK;obtain⟨xs,hq,hx⟩:=hg;obtain⟨aY,rv,p,hz⟩:=I.list hq;obtain⟨f0,f1,f2,f3,f4,f5⟩:=hf it (by simp);have hl:=rv.length;exact wpAny_pyNext_list_end (I.ok.hd hc) st p.isList (by simp;omega) λh' eb=>⟨rfl,I.turned (λb o hb e=>eb b o hb e) f0 f1 f3 f4 f5⟩
 self:=λ_ _ _ _ _ st h=>wpAny_pyIter_listiter st h
theorem HB {P:Program}{w:World}{K:Fg}{tg:Expr}(a it:Addr):W8 P w K tg (Itt K a) [it] it (λi h=>h.IsTupleIter it a i) where
 mem:=by simp
 obj:=λi h st b hb=>by
  have e:b=it:=by simpa using hb
  subst e;obtain⟨o,e,c,d⟩:=st;exact⟨o,e,λv z=>by rw[d] at z;cases z⟩
 keep:=λi h h' st k=>st.at λo e=>k it (by simp) o e
 item:=by
  intro X hP hw hK hc i pins s σ H E I hf st hg;subst hP hw hK;obtain⟨xs,x,hq,hx⟩:=hg;obtain⟨aY,rv,p,hz⟩:=I.tuple hq;obtain⟨u,hu,ru⟩:=rv.get hx;obtain⟨f0,f1,f2,f3,f4,f5⟩:=hf it (by simp);refine wpAny_pyNext_tuple_item st (show s.heap.IsTuple a aY.toArray from p) (by simpa using hu) λh' st' sb=>?_
  have I1:Inv X pins σ H { s with heap:=h' }:=I.turned (λb o hb e=>(sb.2 b hb).trans e) f0 f1 f3 f4 f5;obtain⟨o,e,c,d⟩:=id st';exact⟨u,rfl,TN e c d ⋯ ⟨x,H,I1,ru,⟨rfl,λys hy=>by rw[I.tuple_inj hy hq];exact hx⟩,st',λb hb=>(hf b hb).1⟩⟩
 done:=by
  intro X hP hw hK hc i pins s σ H E I hf st hg;subst hP hw hK;obtain⟨xs,hq,hx⟩:=hg;obtain⟨aY,rv,p,hz⟩:=I.tuple hq;obtain⟨f0,f1,f2,f3,f4,f5⟩:=hf it (by simp);have hl:=rv.length;exact wpAny_pyNext_tuple_end (I.ok.hd hc) st (show s.heap.IsTuple a aY.toArray from p) (by simp;omega) λh' eb=>⟨rfl,I.turned (λb o hb e=>eb b o hb e) f0 f1 f3 f4 f5⟩
 self:=λ_ _ _ _ _ st h=>wpAny_pyIter_tupleiter st h
theorem L0 {P:Program}{w:World}{K:Fg}{tg:Expr}(it:Addr)(lo:Int)(n:Nat):W8 P w K tg (Itr lo n) [it] it (λi h=>IsRangeIter h it (lo+(i:Nat)*1) ((n:Int)-(i:Nat)) 1) where
 mem:=by simp
 obj:=λi h st b hb=>by
  have e:b=it:=by simpa using hb
  subst e;exact⟨_,st,λv z=>by
   have z':Data.fields _=Data.cell v:=z;cases z'⟩
 keep:=λi h h' st k=>k it (by simp) _ st
 item:=by
  intro X hP hw hK hc i pins s σ H E I hf st hg;subst hP hw hK;obtain⟨f0,f1,f2,f3,f4,f5⟩:=hf it (by simp);have W:=Walks.range (prog:=X.prog) (w:=X.w) (I.ok.hd hc) it lo 1 n;refine W.item i s _ _ hg st λv h' tk hv st' kk=>?_
  obtain⟨t,rfl⟩:=hv;have I1:Inv X pins σ H { s with heap:=h',toks:=tk }:=I.turned (λb o hb e=>kk b o (by simpa using hb) e) f0 f1 f3 f4 f5;refine⟨_,rfl,TN st' rfl rfl ⋯ ⟨.int (lo+i),H,I1,⟨t,?_⟩,⟨rfl,rfl⟩,st',λb hb=>(hf b hb).1⟩⟩;rw[Int.mul_one]
 done:=by
  intro X hP hw hK hc i pins s σ H E I hf st hg;obtain⟨f0,f1,f2,f3,f4,f5⟩:=hf it (by simp);exact wpAny_pyNext_range_end (I.ok.hd hc) st (by have:n<=i:=hg;omega) λh' eb=>⟨rfl,I.turned (λb o hb e=>eb b o hb e) f0 f1 f3 f4 f5⟩
 self:=λ_ _ _ _ _ st h=>wpAny_pyIter_rangeiter st h
def ND (K:Fg)(tl:TE):TI:=λσ H R=>tl σ H λx H1=>∃a,x=.ref a/\(∃xs,SqL K H1 a xs)/\R (Itl K a) H1
def iTup (K:Fg)(tl:TE):TI:=λσ H R=>tl σ H λx H1=>∃a,x=.ref a/\(∃xs,SqT K H1 a xs)/\R (Itt K a) H1
theorem RZ {l:Expr}{tl:TE}(hl:PE X l tl):PI X tg l (ND X.K tl):=by
 intro pins s σ H R I h;refine thn (hl pins s σ H _ I h) λv s1 ⟨x,H1,I1,r1,q1⟩=>?_
 obtain⟨a,e,⟨xs,hq⟩,q⟩:=q1;subst e;cases r1;obtain⟨aY,rv,p,hz⟩:=I1.list hq;refine wpAny_pyIter_list p.isList ?_;refine⟨s1.heap.objs.size,[s1.heap.objs.size],_,_,H1,rfl,I1.kept λb o e=>Heap.get?_push_of_some _ e,BB a _,⟨_,Heap.get?_push_size _ rfl,rfl,rfl⟩,λb hb=>?_,q⟩;have e:b=s1.heap.objs.size:=by simpa using hb
 subst e;exact I1.fpOk (zB _) (I1.hok.fresh (zB _))
theorem K0 {l:Expr}{tl:TE}(hl:PE X l tl):PI X tg l (iTup X.K tl):=by
 intro pins s σ H R I h;refine thn (hl pins s σ H _ I h) λv s1 ⟨x,H1,I1,r1,q1⟩=>?_
 obtain⟨a,e,⟨xs,hq⟩,q⟩:=q1;subst e;cases r1;obtain⟨aY,rv,p,hz⟩:=I1.tuple hq;refine wpAny_pyIter_tuple (show s1.heap.IsTuple a aY.toArray from p) ?_;refine⟨s1.heap.objs.size,[s1.heap.objs.size],_,_,H1,rfl,I1.kept λb o e=>Heap.get?_push_of_some _ e,HB a _,⟨_,Heap.get?_push_size _ rfl,rfl,rfl⟩,λb hb=>?_,q⟩;have e:b=s1.heap.objs.size:=by simpa using hb
 subst e;exact I1.fpOk (zB _) (I1.hok.fresh (zB _))
theorem NO {pins:LA}{σ:St}{H:Hp}{s:Shared}{R:It->Hp->Prop}{E:Value->Shared->Prop}{lo hi:Int}{t u v:Tok}{tk:Nat}(I:Inv X pins σ H s)(h1:-(2^62)<=lo)(h2:lo<2^62)(h3:-(2^62)<=hi)(h4:hi<2^62)
  (q:R (Itr lo (hi-lo).toNat) H):wpAny (mX X) X.A (pyIter (.ref s.heap.objs.size)) (PIE X pins σ tg R) E { s with heap:=s.heap.push { cls:=.type "range",data:=.fields #[.int lo t,.int hi u,.int 1 v] },toks:=tk }:=by
 refine wpAny_pyIter_range (IsRange.new ..) (small_one h1 h2 h3 h4) ?_;have I1:Inv X pins σ H { s with heap:=s.heap.push { cls:=.type "range",data:=.fields #[.int lo t,.int hi u,.int 1 v] },toks:=tk }:=I.kept λb o e=>Heap.get?_push_of_some _ e
 refine⟨(s.heap.push { cls:=.type "range",data:=.fields #[.int lo t,.int hi u,.int 1 v] }).objs.size,[(s.heap.push { cls:=.type "range",data:=.fields #[.int lo t,.int hi u,.int 1 v] }).objs.size],_,_,H,rfl,
  I1.kept λb o e=>Heap.get?_push_of_some _ e,L0 _ lo (hi-lo).toNat,?_,λb hb=>?_,q⟩
 .have e1:lo+((0:Nat):Int)*1=lo:=by simp
  have e2:(((hi-lo).toNat:Nat):Int)-((0:Nat):Int)=Builtin.Range.rangeSize lo hi 1:=by rw[rangeSize_one];split<;>omega
  rw[e1,e2];exact Heap.get?_push_size _ rfl
 .have e:b=(s.heap.push { cls:=.type "range",data:=.fields #[.int lo t,.int hi u,.int 1 v] }).objs.size:=by simpa using hb
  subst e;exact I1.fpOk (zB _) (I1.hok.fresh (zB _))
def Oo (ta:TA):TI:=λσ H R=>ta σ H λvs H1=>∃j:Int,vs=[.int j]/\-(2^62)<=j/\j<2^62/\R (Itr 0 j.toNat) H1
def MU (ta:TA):TI:=λσ H R=>ta σ H λvs H1=>∃i j:Int,vs=[.int i,.int j]/\(-(2^62)<=i/\i<2^62/\-(2^62)<=j/\j<2^62)/\R (Itr i (j-i).toNat) H1
theorem QG {a:Expr}{ta:TA}{p pos:Pos}(hg:Gl X "range")(hm:X.mg "range"=none)(ha:PA X [a] ta)(hs:starEach [a] X.env=[(false,eval a X.env)]:=by rfl):PI X tg (.Call (.Name "range" p) [a] [] pos) (Oo ta):=by
 intro pins s σ H R I h;refine Call_ (Wd I hg hm boot_range (PyProof.Rows.callWith_type1 (thn (ha pos pins s σ H _ I h) λus s1 ⟨vs,H1,I1,r1,q1⟩=>?_) hs rfl));obtain⟨j,e,q1,q2,q⟩:=q1;subst e;cases r1 with
 | cons r rr=>
  cases rr;obtain⟨t,rfl⟩:=r;exact call_range_1 (NO I1 (by omega) (by omega) q1 q2 (by simpa using q))
theorem Gd (hg:Gl X "range")(hm:X.mg "range"=none)(ha:PA X [a,b] ta)(hs:starEach [a,b] X.env=[(false,eval a X.env),(false,eval b X.env)]:=by rfl)(hs2:starEach [b] X.env=[(false,eval b X.env)]:=by rfl):
  PI X tg (.Call (.Name "range" p) [a,b] [] pos) (MU ta):=by
 intro pins s σ H R I h;refine Call_ (Wd I hg hm boot_range (PyProof.Rows.callWith_type1 (thn (ha pos pins s σ H _ I h) λus s1 ⟨vs,H1,I1,r1,q1⟩=>?_) (by rw[hs,hs2]) (by rw[hs2];rfl)));obtain⟨i,j,e,⟨q1,q2,q3,q4⟩,q⟩:=q1;subst e;cases r1 with
 | cons r rr=>
  cases rr with
  | cons r' rr=>
   cases rr;obtain⟨t,rfl⟩:=r;obtain⟨t',rfl⟩:=r';exact call_range_2 (NO I1 q1 q2 q3 q4 q)
def tFor (wi:TI)(g:TG)(tb:TS):TS:=λD σ H=>wi σ H λJ H1=>∃W:Nat->Nat->St->Hp->Prop,(∃m,W 0 m σ H1)/\∀i m σ H,W i m σ H->
 (J.stop i H/\D.nx σ H)\/(J.go i H/\∃N:St->Hp->Prop,(∀σ' H',N σ' H'->∃m',m'<m/\W (i+1) m' σ' H')/\∀x H',J.yld i H x H'->g x σ H' λσ2 H2=>tb { D with nx:=N,ct:=N,bk:=D.nx } σ2 H2)
def UU (fp:List Addr)(h:Heap):LA:=fp.filterMap λb=>(h.get? b).map λo=>(b,o)
theorem TY {fp:List Addr}{h:Heap}{b:Addr}{o:Obj}(hb:b∈fp)(e:h.get? b=some o):(b,o)∈UU fp h:=vF.mpr ⟨b,hb,by rw[e];rfl⟩
theorem Cn {fp:List Addr}{h:Heap}{p:Addr×Obj}(hp:p∈UU fp h):p.1∈fp/\h.get? p.1=some p.2:=by
 obtain⟨b,hb,e⟩:=vF.mp hp;cases q:h.get? b with
 | none=>rw[q] at e;cases e
 | some o=>
  rw[q] at e;have e':(b,o)=p:=Option.some.inj e;subst e';exact⟨hb,q⟩
theorem Inv.pinned {pins:LA}{σ:St}{H:Hp}{s:Shared}{fp:List Addr}(I:Inv X pins σ H s)(hf:∀b∈fp,Yk X pins H b)(ho:∀b∈fp,∃o,s.heap.get? b=some o/\∀v,o.data≠.cell v):Inv X (pins++UU fp s.heap) σ H s:=
 I.pins_of λp hp=>(yE.mp hp).elim (λz=>I.pin p (yW _ z)) λz=>by
  obtain⟨hb,e⟩:=Cn z;obtain⟨f0,f1,f2,_⟩:=hf p.1 hb;obtain⟨o,e',d⟩:=ho p.1 hb;rw[e] at e';cases e'
  exact⟨e,f0,f1,f2,d⟩
theorem Inv.unpinned (I:Inv X (pins++pl) σ H s):Inv X pins σ H s:=I.pins_of λp hp=>I.pin p (yW _ (uM _ hp))
theorem Um (hp:PassesOwn (mX X) X.A X.env X.xe)(hc:X.calm=true)(hi:PI X tg aV wi)(hg:PG X tg g)(hb:PSs X body tb)(hs:∀x,foldedSetIterable aV X.env x=pure x:=by intro _;rfl):PS X (.For tg aV body [] pos) (tFor wi g tb):=by
 intro pins s σ H D I h;refine wpAny_For (thn (hi pins s σ H _ I h) λv s1 h1=>thn h1 λitv s2 h2=>?_) hs;obtain⟨it,fp,tn,J,H2,e,I2,T,st2,f2,W,⟨m0,w0⟩,turn⟩:=h2;subst e;have stat:∀ {H':Hp},(∀b∈fp,H' b=none)->∀b∈fp,Yk X pins H' b:=λhn b hb=>⟨hn b hb,(f2 b hb).2⟩
 refine codeAny_forLoop_any (λn s'=>∃i σ' H',Inv X pins σ' H' s'/\tn i s'.heap/\(∀b∈fp,H' b=none)/\W i n σ' H') ?_ m0 ⟨0,σ,H2,I2,st2,λb hb=>(f2 b hb).1,w0⟩;rintro n s3 ⟨i,σ3,H3,I3,st3,fr3,w3⟩;rcases turn i n σ3 H3 w3 with ⟨stop,qn⟩|⟨go,N,hN,step⟩
 .refine wpAny_passesOwn hp (thn (T.done X rfl rfl rfl hc i pins s3 σ3 H3 X.xe I3 (stat fr3) st3 stop) λr s4 ⟨hr,I4⟩=>?_);subst hr;exact wpAny_execs_nil ⟨σ3,H3,I4,qn⟩
 .refine wpAny_passesOwn hp (thn (T.item X rfl rfl rfl hc i pins s3 σ3 H3 X.xe I3 (stat fr3) st3 go) λr s4 ⟨u,hr,h4⟩=>?_);subst hr;refine wpAny_passesOwn hp (thn h4 λ_ s5 ⟨x,H5,I5,r5,y5,st5,fr5⟩=>?_);have I5':=I5.pinned (stat fr5) (T.obj _ _ st5);refine wpAny_passesOwn hp (thn (hg _ s5 σ3 H5 x u _ I5' r5 (step x H5 y5)) λ_ s6 ⟨σ6,H6,I6,q6⟩=>?_);refine wpAny_passesOwn hp (thn (hb _ s6 σ6 H6 _ I6 q6) λf s7 q7=>?_);have again:∀ {σ7:St} {H7:Hp},Inv X (pins++UU fp s5.heap) σ7 H7 s7->N σ7 H7->∃m,m<n/\∃i σ' H',Inv X pins σ' H' s7/\tn i s7.heap/\(∀b∈fp,H' b=none)/\W i m σ' H':=λ{σ7 H7} I7 n7=>by
   obtain⟨m',hm,w7⟩:=hN σ7 H7 n7;refine⟨m',hm,i+1,σ7,H7,I7.unpinned,T.keep _ _ _ st5 λb hb o e=>(I7.pin (b,o) (yW _ (yW _ (TY hb e)))).1,λb hb=>?_,w7⟩;obtain⟨o,e,d⟩:=T.obj _ _ st5 b hb;exact(I7.pin (b,o) (yW _ (yW _ (TY hb e)))).2.1
  cases f with
  | next=>obtain⟨σ7,H7,I7,n7⟩:=q7;exact again I7 n7
  | cont=>obtain⟨σ7,H7,I7,n7⟩:=q7;exact again I7 n7
  | brk=>obtain⟨σ7,H7,I7,q7⟩:=q7;exact⟨σ7,H7,I7.unpinned,q7⟩
  | ret v=>obtain⟨x7,σ7,H7,I7,r7,q7⟩:=q7;exact⟨x7,σ7,H7,I7.unpinned,r7,q7⟩
abbrev R2:=V->V->Hp->VK->Prop
def OpR (X:Cx)(f:Value->Value->Sem Value)(r:R2):Prop:=
 ∀(pins:LA)(s:Shared)(σ:St)(H:Hp)(x y:V)(v u:Value)(Q:VK),Inv X pins σ H s->Zs x v->Zs y u->r x y H Q->
  wpAny (mX X) X.A (f v u) (EP X pins σ Q) X.xe s
def UnR (X:Cx)(f:Value->Sem Value)(r:V->Hp->VK->Prop):Prop:=
 ∀(pins:LA)(s:Shared)(σ:St)(H:Hp)(x:V)(v:Value)(Q:VK),Inv X pins σ H s->Zs x v->r x H Q->
  wpAny (mX X) X.A (f v) (EP X pins σ Q) X.xe s
def Yi (X:Cx)(f:Value)(r:List V->Hp->VK->Prop):Prop:=
 ∀(pins:LA)(s:Shared)(σ:St)(H:Hp)(xs:List V)(us:List Value)(Q:VK),Inv X pins σ H s->Zq xs us->r xs H Q->
  wpAny (mX X) X.A (call f us) (EP X pins σ Q) X.xe s
def tOp (r:R2)(ta tb:TE):TE:=λσ H Q=>ta σ H λx H1=>tb σ H1 λy H2=>r x y H2 Q
def tUn (r:V->Hp->VK->Prop)(ta:TE):TE:=λσ H Q=>ta σ H λx H1=>r x H1 Q
def rI (C:Int->Int->Prop)(g:Int->Int->V):R2:=λx y H Q=>∃i j,x=.int i/\y=.int j/\C i j/\Q (g i j) H
def rI0 (g:Int->Int->V):R2:=λx y H Q=>∃i j,x=.int i/\y=.int j/\Q (g i j) H
def rU (g:Int->V):V->Hp->VK->Prop:=λx H Q=>∃i,x=.int i/\Q (g i) H
theorem binT (ha:PE X a ta)(hb:PE X b tb){pins:LA}{s:Shared}{σ:St}{H:Hp}{R:V->V->Hp->Prop}(I:Inv X pins σ H s)
  (h:ta σ H λx H1=>tb σ H1 λy H2=>R x y H2){Q:Value->Shared->Prop}{f:Value->Value->Sem Value}
  (hf:∀v u s2 x y H2,Inv X pins σ H2 s2->Zs x v->Zs y u->R x y H2->wpAny (mX X) X.A (f v u) Q X.xe s2):
  wpAny (mX X) X.A (eval a X.env) (λv s₁=>wpAny (mX X) X.A (eval b X.env) (λu s₂=>wpAny (mX X) X.A (f v u) Q X.xe s₂) X.xe s₁) X.xe s:=by
 refine thn (ha pins s σ H _ I h) λv s1 ⟨x,H1,I1,r1,q1⟩=>?_
 refine thn (hb pins s1 σ H1 _ I1 q1) λu s2 ⟨y,H2,I2,r2,q2⟩=>?_
 exact hf v u s2 x y H2 I2 r1 r2 q2
theorem pe_op {op:Operator}{r:R2}(ho:OpR X (binaryOp op) r)(ha:PE X a ta)(hb:PE X b tb):PE X (.BinOp a op b pos) (tOp r ta tb):=by
 intro pins s σ H Q I h;exact wpAny_BinOp (binT ha hb I h λv u s2 x y H2 I2 rx ry q=>ho pins s2 σ H2 x y v u Q I2 rx ry q)
theorem pe_un {op:UnaryOp}{r:V->Hp->VK->Prop}(ho:UnR X (unaryOp op) r)(ha:PE X a ta):PE X (.UnaryOp op a pos) (tUn r ta):=by
 intro pins s σ H Q I h;exact UnaryOp_ (thn (ha pins s σ H _ I h) λv s1 ⟨x,H1,I1,r1,q1⟩=>ho pins s1 σ H1 x v Q I1 r1 q1)
theorem opI {f:Value->Value->Sem Value}{C:Int->Int->Prop}{g:Int->Int->Int}
  (rule:∀(i j:Int)(t u:Tok)(s:Shared)(Q:Value->Shared->Prop)(E:Value->Shared->Prop),C i j->Q (.int (g i j) s.toks) { s with toks:=s.toks+1 }->wpAny (mX X) X.A (f (.int i t) (.int j u)) Q E s):
  OpR X f (rI C λi j=>.int (g i j)):=by
 intro pins s σ H x y v u Q I rx ry h;obtain⟨i,j,rfl,rfl,hc,q⟩:=h;obtain⟨t,rfl⟩:=rx;obtain⟨t',rfl⟩:=ry;exact rule i j t t' s _ _ hc ⟨.int (g i j),H,I.tok _,⟨_,rfl⟩,q⟩
theorem opI0 {f:Value->Value->Sem Value}{g:Int->Int->Int}
  (rule:∀(i j:Int)(t u:Tok)(s:Shared)(Q:Value->Shared->Prop)(E:Value->Shared->Prop),Q (.int (g i j) s.toks) { s with toks:=s.toks+1 }->wpAny (mX X) X.A (f (.int i t) (.int j u)) Q E s):
  OpR X f (rI0 λi j=>.int (g i j)):=by
 intro pins s σ H x y v u Q I rx ry h;obtain⟨i,j,rfl,rfl,q⟩:=h;obtain⟨t,rfl⟩:=rx;obtain⟨t',rfl⟩:=ry;exact rule i j t t' s _ _ ⟨.int (g i j),H,I.tok _,⟨_,rfl⟩,q⟩
theorem Rt {f:Value->Value->Sem Value}{g:Int->Int->Bool}
  (rule:∀(i j:Int)(t u:Tok)(s:Shared)(Q:Value->Shared->Prop)(E:Value->Shared->Prop),Q (.bool (g i j)) s->wpAny (mX X) X.A (f (.int i t) (.int j u)) Q E s):
  OpR X f (rI0 λi j=>.bl (g i j)):=by
 intro pins s σ H x y v u Q I rx ry h;obtain⟨i,j,rfl,rfl,q⟩:=h;obtain⟨t,rfl⟩:=rx;obtain⟨t',rfl⟩:=ry;exact rule i j t t' s _ _ ⟨.bl (g i j),H,I,rfl,q⟩
def RB (i j:Int):Prop:=0<=j/\j<=1000000/\i.natAbs<2^64
theorem JF:OpR X (binaryOp .Add) (rI0 λi j=>.int (i+j)):=opI0 λ_ _ _ _ _ _ _ q=>add_int q
theorem Dp:OpR X (binaryOp .Sub) (rI0 λi j=>.int (i-j)):=opI0 λ_ _ _ _ _ _ _ q=>sub_int q
theorem F8:OpR X (binaryOp .Mod) (rI (λ_ j=>0<j) λi j=>.int (i%j)):=opI λi j _ _ _ _ _ hc q=>by
 exact mod_int' (by omega) (by rw[Int.fmod_eq_emod_of_nonneg i (by omega)];exact q)
theorem HQ:OpR X (binaryOp .Pow) (rI RB λi j=>.int (i^j.toNat)):=opI λ_ _ _ _ _ _ _ hc q=>pow_int_small hc.1 hc.2.1 hc.2.2 q
theorem D8:OpR X (binaryOp .LShift) (rI RB λi j=>.int (i*2^j.toNat)):=opI λ_ _ _ _ _ _ _ hc q=>lshift_int_small hc.1 hc.2.1 hc.2.2 q
theorem unI {f:Value->Sem Value}{g:Int->Int}
  (rule:∀(i:Int)(t:Tok)(s:Shared)(Q:Value->Shared->Prop)(E:Value->Shared->Prop),Q (.int (g i) s.toks) { s with toks:=s.toks+1 }->wpAny (mX X) X.A (f (.int i t)) Q E s):
  UnR X f (rU λi=>.int (g i)):=by
 intro pins s σ H x v Q I rx h;obtain⟨i,rfl,q⟩:=h;obtain⟨t,rfl⟩:=rx;exact rule i t s _ _ ⟨.int (g i),H,I.tok _,⟨_,rfl⟩,q⟩
theorem J4:UnR X (unaryOp .USub) (rU λi=>.int (-i)):=unI λ_ _ _ _ _ q=>neg_int q
def TK:V->V->Bool
 | .non,.non=>true|.non,.int _=>true|.int _,.non=>true|.non,.bl _=>true|.bl _,.non=>true|.non,.str _=>true|.str _,.non=>true
 | .int _,.int _=>true|.bl _,.bl _=>true|.str _,.str _=>true|.byt _,.byt _=>true
 | .int _,.str _=>true|.str _,.int _=>true|.bl _,.str _=>true|.str _,.bl _=>true
 | _,_=>false
def rEq:R2:=λx y H Q=>TK x y=true/\Q (.bl (decide (x=y))) H
def rNe:R2:=λx y H Q=>TK x y=true/\Q (.bl (!decide (x=y))) H
theorem OU:decide (V.int i=V.int j)=(i==j):=by
 rw[xG];simp
theorem O7:decide (V.bl i=V.bl j)=(i==j):=by
 rw[xG];simp
theorem OB:decide (V.str i=V.str j)=(i==j):=by
 rw[xG];simp
theorem Ov:decide (V.byt i=V.byt j)=(i.toList==j.toList):=by
 rw[xG];cases i;cases j;simp
theorem ZZ (I:Inv X pins σ H s)(q:Q (.bl k) H)(e:k=k'):EP X pins σ Q (.bool k') s:=by
 subst e;exact⟨.bl k,H,I,rfl,q⟩
theorem Pm:OpR X (compareOp .Eq) rEq:=by
 intro pins s σ H x y v u Q I rx ry h;obtain⟨hs,q⟩:=h;cases x with
 | non=>
  cases rx;cases y with
  | non=>cases ry;exact PySem.EqNone.eq_none_none (ZZ I q (by simp))
  | bl j=>cases ry;exact PySem.EqNone.eq_none_bool (ZZ I q (by simp))
  | int j=>obtain⟨t',rfl⟩:=ry;exact PySem.EqNone.eq_none_int (ZZ I q (by simp))
  | str j=>obtain⟨t',rfl⟩:=ry;exact PySem.EqNone.eq_none_str (ZZ I q (by simp))
  | _=>exact absurd (show false=true from hs) zO
 | bl i=>
  cases rx;cases y with
  | non=>cases ry;exact PySem.EqNone.eq_bool_none (ZZ I q (by simp))
  | bl j=>cases ry;exact eq_bool (ZZ I q O7)
  | str j=>obtain⟨t',rfl⟩:=ry;exact PySem.EqMixed.eq_bool_str (ZZ I q (by simp))
  | _=>exact absurd (show false=true from hs) zO
 | int i=>
  obtain⟨t,rfl⟩:=rx;cases y with
  | non=>cases ry;exact PySem.EqNone.eq_int_none (ZZ I q (by simp))
  | int j=>obtain⟨t',rfl⟩:=ry;exact eq_int (ZZ I q OU)
  | str j=>obtain⟨t',rfl⟩:=ry;exact PySem.EqMixed.eq_int_str (ZZ I q (by simp))
  | _=>exact absurd (show false=true from hs) zO
 | str i=>
  obtain⟨t,rfl⟩:=rx;cases y with
  | non=>cases ry;exact PySem.EqNone.eq_str_none (ZZ I q (by simp))
  | bl j=>cases ry;exact PySem.EqMixed.eq_str_bool (ZZ I q (by simp))
  | int j=>obtain⟨t',rfl⟩:=ry;exact PySem.EqMixed.eq_str_int (ZZ I q (by simp))
  | str j=>obtain⟨t',rfl⟩:=ry;exact eq_str (ZZ I q OB)
  | _=>exact absurd (show false=true from hs) zO
 | byt i=>
  obtain⟨t,rfl⟩:=rx;cases y with
  | byt j=>obtain⟨t',rfl⟩:=ry;exact W.eq_bytes (ZZ I q Ov)
  | _=>exact absurd (show false=true from hs) zO
 | _=>cases y<;>exact absurd (show false=true from hs) zO
theorem op_ne:OpR X (compareOp .NotEq) rNe:=by
 intro pins s σ H x y v u Q I rx ry h;obtain⟨hs,q⟩:=h;cases x with
 | non=>
  cases rx;cases y with
  | non=>cases ry;exact PySem.EqNone.ne_none_none (ZZ I q (by simp))
  | bl j=>cases ry;exact PySem.EqNone.ne_none_bool (ZZ I q (by simp))
  | int j=>obtain⟨t',rfl⟩:=ry;exact PySem.EqNone.ne_none_int (ZZ I q (by simp))
  | str j=>obtain⟨t',rfl⟩:=ry;exact PySem.EqNone.ne_none_str (ZZ I q (by simp))
  | _=>exact absurd (show false=true from hs) zO
 | bl i=>
  cases rx;cases y with
  | non=>cases ry;exact PySem.EqNone.ne_bool_none (ZZ I q (by simp))
  | bl j=>cases ry;exact ne_bool (ZZ I q (congrArg not O7))
  | str j=>obtain⟨t',rfl⟩:=ry;exact PySem.EqMixed.ne_bool_str (ZZ I q (by simp))
  | _=>exact absurd (show false=true from hs) zO
 | int i=>
  obtain⟨t,rfl⟩:=rx;cases y with
  | non=>cases ry;exact PySem.EqNone.ne_int_none (ZZ I q (by simp))
  | int j=>obtain⟨t',rfl⟩:=ry;exact ne_int (ZZ I q (congrArg not OU))
  | str j=>obtain⟨t',rfl⟩:=ry;exact PySem.EqMixed.ne_int_str (ZZ I q (by simp))
  | _=>exact absurd (show false=true from hs) zO
 | str i=>
  obtain⟨t,rfl⟩:=rx;cases y with
  | non=>cases ry;exact PySem.EqNone.ne_str_none (ZZ I q (by simp))
  | bl j=>cases ry;exact PySem.EqMixed.ne_str_bool (ZZ I q (by simp))
  | int j=>obtain⟨t',rfl⟩:=ry;exact PySem.EqMixed.ne_str_int (ZZ I q (by simp))
  | str j=>obtain⟨t',rfl⟩:=ry;exact ne_str (ZZ I q (congrArg not OB))
  | _=>exact absurd (show false=true from hs) zO
 | byt i=>
  obtain⟨t,rfl⟩:=rx;cases y with
  | byt j=>obtain⟨t',rfl⟩:=ry;exact W.ne_bytes (ZZ I q (congrArg not Ov))
  | _=>exact absurd (show false=true from hs) zO
 | _=>cases y<;>exact absurd (show false=true from hs) zO
theorem op_lt:OpR X (compareOp .Lt) (rI0 λi j=>.bl (decide (i<j))):=Rt λ_ _ _ _ _ _ _ q=>lt_int q
theorem op_le:OpR X (compareOp .LtE) (rI0 λi j=>.bl (decide (i<=j))):=Rt λ_ _ _ _ _ _ _ q=>le_int q
theorem op_gt:OpR X (compareOp .Gt) (rI0 λi j=>.bl (decide (j<i))):=Rt λ_ _ _ _ _ _ _ q=>gt_int q
theorem op_ge:OpR X (compareOp .GtE) (rI0 λi j=>.bl (decide (j<=i))):=Rt λ_ _ _ _ _ _ _ q=>ge_int q
theorem Hz:OpR X (compareOp .Is) (λx y H Q=>y=.non/\Q (.bl (decide (x=.non))) H):=by
 intro pins s σ H x y v u Q I rx ry h;obtain⟨rfl,q⟩:=h;cases ry;refine is_none_gen (ZZ I q ?_);cases x<;>first
  | (cases rx;rfl)
  | (obtain⟨t,rfl⟩:=rx;rfl)
theorem JB:OpR X (compareOp .IsNot) (λx y H Q=>y=.non/\Q (.bl (!decide (x=.non))) H):=by
 intro pins s σ H x y v u Q I rx ry h;obtain⟨rfl,q⟩:=h;cases ry;refine isnot_none_gen (ZZ I q ?_);cases x<;>first
  | (cases rx;rfl)
  | (obtain⟨t,rfl⟩:=rx;rfl)
theorem Zm (b:Expr)(h:op≠.In:=by decide)(h2:op≠.NotIn:=by decide):behindInMarks op b=false:=by
 have e1:(op==CmpOp.In)=false:=by cases op<;>first|rfl|exact absurd rfl h
 have e2:(op==CmpOp.NotIn)=false:=by cases op<;>first|rfl|exact absurd rfl h2
 cases b<;>simp[behindInMarks,e1,e2]
theorem Ef {op:CmpOp}{r:R2}(ho:OpR X (compareOp op) r)(ha:PE X a ta)(hb:PE X b tb)(hm:behindInMarks op b=false):PE X (.Compare a [op] [b] pos) (tOp r ta tb):=by
 intro pins s σ H Q I h;exact wpAny_Compare1 (binT ha hb I h λv u s2 x y H2 I2 rx ry q=>ho pins s2 σ H2 x y v u Q I2 rx ry q) hm
def MN (t:TE):TT:=λσ H Q=>t σ H λx H'=>∃k,x=.bl k/\Q k H'
theorem JP {op:CmpOp}{r:R2}(ho:OpR X (compareOp op) r)(ha:PE X a ta)(hb:PE X b tb)(hm:behindInMarks op b=false):PT X (.Compare a [op] [b] pos) (MN (tOp r ta tb)):=by
 intro pins s σ H Q I h;refine wpAny_isTrue_Compare1 (thn (ha pins s σ H _ I h) λv s1 ⟨x,H1,I1,r1,q1⟩=>thn (hb pins s1 σ H1 _ I1 q1) λu s2 ⟨y,H2,I2,r2,q2⟩=>
  thn (ho pins s2 σ H2 x y v u _ I2 r1 r2 q2) λc s3 ⟨z,H3,I3,r3,k,e,q3⟩=>?_) hm
 subst e;cases r3;exact wpAny_truthy_bool ⟨H3,I3,q3⟩
def QH (r r':R2)(ta tb tc:TE):TE:=λσ H Q=>ta σ H λx H1=>tb σ H1 λy H2=>r x y H2 λz H3=>∃k,z=.bl k/\
 (if k=true then tc σ H3 λw' H4=>r' y w' H4 Q else Q (.bl false) H3)
theorem FG {op op':CmpOp}{r r':R2}(ho:OpR X (compareOp op) r)(ho':OpR X (compareOp op') r')(ha:PE X a ta)(hb:PE X b tb)(hc:PE X c tc)
  (hm:lastMarks [op,op'] [b,c]=false:=by with_unfolding_all rfl):PE X (.Compare a [op,op'] [b,c] pos) (QH r r' ta tb tc):=by
 intro pins s σ H Q I h;refine Compare_chain (thn (ha pins s σ H _ I h) λv s1 ⟨x,H1,I1,r1,q1⟩=>chain_link (thn (hb pins s1 σ H1 _ I1 q1) λu s2 ⟨y,H2,I2,r2,q2⟩=>
  thn (ho pins s2 σ H2 x y v u _ I2 r1 r2 q2) λd s3 ⟨z,H3,I3,r3,k,e,q3⟩=>?_)) hm
 subst e;cases r3;refine wpAny_truthy_bool ?_;cases k with
 | false=>exact ite_ff ⟨.bl false,H3,I3,rfl,q3⟩
 | true=>exact ite_tt (chain_last (thn (hc pins s3 σ H3 _ I3 q3) λw' s4 ⟨z',H4,I4,r4,q4⟩=>ho' pins s4 σ H4 y z' u w' Q I4 r2 r4 q4))
theorem CN {op op':CmpOp}{r r':R2}(ho:OpR X (compareOp op) r)(ho':OpR X (compareOp op') r')(ha:PE X a ta)(hb:PE X b tb)(hc:PE X c tc)
  (hm:lastMarks [op,op'] [b,c]=false:=by with_unfolding_all rfl):PT X (.Compare a [op,op'] [b,c] pos) (MN (QH r r' ta tb tc)):=by
 intro pins s σ H Q I h;refine isTrue_chain (thn (ha pins s σ H _ I h) λv s1 ⟨x,H1,I1,r1,q1⟩=>test_link (thn (hb pins s1 σ H1 _ I1 q1) λu s2 ⟨y,H2,I2,r2,q2⟩=>
  thn (ho pins s2 σ H2 x y v u _ I2 r1 r2 q2) λd s3 ⟨z,H3,I3,r3,k,e,q3⟩=>?_)) hm
 subst e;cases r3;refine wpAny_truthy_bool ?_;cases k with
 | false=>
  obtain⟨k',e',q'⟩:=q3;cases e';exact ite_ff ⟨H3,I3,q'⟩
 | true=>
  refine ite_tt (test_last (thn (hc pins s3 σ H3 _ I3 q3) λw' s4 ⟨z',H4,I4,r4,q4⟩=>thn (ho' pins s4 σ H4 y z' u w' _ I4 r2 r4 q4) λd' s5 ⟨z2,H5,I5,r5,k2,e2,q5⟩=>?_));subst e2;cases r5;exact wpAny_truthy_bool ⟨H5,I5,q5⟩
theorem U6:(sizeLine:Nat)<2^63:=by rw[sizeLine_eq];decide
theorem WA (r:Zq [x] us):∃u,us=[u]/\Zs x u:=by
 cases r with
 | cons r1 r2=>cases r2;exact⟨_,rfl,r1⟩
theorem RQ (r:Zq [x,y] us):∃u w',us=[u,w']/\Zs x u/\Zs y w':=by
 cases r with
 | cons r1 r2=>
  cases r2 with
  | cons r3 r4=>cases r4;exact⟨_,_,rfl,r1,r3⟩
theorem JT:Yi X (.builtin "abs") (λxs H Q=>∃i,xs=[.int i]/\Q (.int (if i<0 then -i else i)) H):=by
 intro pins s σ H xs us Q I r h;obtain⟨i,rfl,q⟩:=h;obtain⟨u,rfl,t,rfl⟩:=WA r;exact call_abs_int λu tk=>⟨.int (if i<0 then -i else i),H,I.tok _,⟨_,rfl⟩,q⟩
theorem Kv (hc:X.calm=true):Yi X (.builtin "max") (λxs H Q=>∃i j,xs=[.int i,.int j]/\Q (.int (if j > i then j else i)) H):=by
 intro pins s σ H xs us Q I r h;obtain⟨i,j,rfl,q⟩:=h;obtain⟨u,w',rfl,⟨t,rfl⟩,⟨t',rfl⟩⟩:=RQ r;refine max_two_ints (I.ok.hd hc) λh' tk k=>⟨_,H,I.kept k,?_,q⟩
 by_cases hj:j > i
 .rw[if_pos hj,if_pos hj];exact⟨_,rfl⟩
 .rw[if_neg hj,if_neg hj];exact⟨_,rfl⟩
theorem DD (hc:X.calm=true):Yi X (.builtin "min") (λxs H Q=>∃i j,xs=[.int i,.int j]/\Q (.int (if j<i then j else i)) H):=by
 intro pins s σ H xs us Q I r h;obtain⟨i,j,rfl,q⟩:=h;obtain⟨u,w',rfl,⟨t,rfl⟩,⟨t',rfl⟩⟩:=RQ r;refine min_two_ints (I.ok.hd hc) λh' tk k=>⟨_,H,I.kept k,?_,q⟩
 by_cases hj:j<i
 .rw[if_pos hj,if_pos hj];exact⟨_,rfl⟩
 .rw[if_neg hj,if_neg hj];exact⟨_,rfl⟩
structure Vj (h:Heap)(x dx C:Addr)(mA:Str->Option Value):Prop where
 obj:h.get? x=some (W.instObj C dx)
 ns:h.Ns1 dx mA
 ne:dx≠x
theorem JE {h:Heap}{dx:Addr}{mA:Str->Option Value}(n:h.Ns1 dx mA):∃od,h.get? dx=some od/\∀name,W.lookIn name od=some (mA name):=by
 obtain⟨o,es,ep,ho,hd,hk,_,hm⟩:=n;refine⟨o,ho,λname=>?_⟩;have e:=hm name;unfold nsFind findBy at e;rw[<- Array.find?_toList] at e;unfold W.lookIn;rw[hd];dsimp only;split
 .rename_i y q;rw[q] at e;exact congrArg some e
 .rename_i q;rw[q] at e;have a:es.toList.any (·.refKey)=false:=by
   rw[List.any_eq_false];intro y hy;obtain⟨z,t,hkey⟩:=hk y (Array.mem_toList_iff.mp hy);simp[DictEntry.refKey,hkey]
  have a':¬ es.toList.any (·.refKey)=true:=by rw[a];exact zO
  rw[if_neg a'];exact congrArg some e
theorem Vj.look (I:Vj h x dx C mA):∃od,W.InstAt h x (W.instObj C dx) C (some od)/\∀name,W.lookIn name od=some (mA name):=
 let ⟨od,ho,hl⟩:=JE I.ns
 ⟨od,⟨I.obj,rfl,rfl,ho⟩,hl⟩
section
variable {prog:Program}{w:World}{A:Around}{E:Value->Shared->Prop}{s:Shared}{K:Fg}{x dx C f:Addr}{mA:Str->Option Value}{name:Str}{v:Value}
theorem HS (X:K.In s.heap)(I:Vj s.heap x dx C mA)(hg:W.plainGet K C name=true)(hh:W.hasDictIn K C=true)(ha:W.findIn K (.ref C) name=some none)(hv:mA name=some v)(hv':W.handedIn v=true)(h:Q v { s with toks:=s.toks+1 }):
  wpAny (model prog w) A (getAttr (.ref x) name expr) Q E s:=by
 obtain⟨od,J,hl⟩:=I.look;exact W.get_value X J (W.plainGet_of hg).1 (W.findObj_own hh ha rfl (by rw[hl,hv])) hv' h
theorem HF (X:K.In s.heap)(I:Vj s.heap x dx C mA)(hg:W.plainGet K C name=true)(hf:W.findIn K (.ref C) name=some (some (.ref f)))(ht:W.isFn K (.ref f)=true)(hv:mA name=none)(h:Q (.ref f,[.ref x]) s):
  wpAny (model prog w) A (getMethod (.ref x) name pl) Q E s:=by
 obtain⟨od,J,hl⟩:=I.look;exact W.method_fn X J (W.plainGet_of hg).1 (W.plainGet_of hg).2 hf (beq_iff_eq.mp ht) (by show (W.lookIn name od).map (·.isSome)=some false;rw[hl,hv];rfl) h
theorem Bp (X:K.In s.heap)(I:Vj s.heap x dx C mA)(hs:W.findIn K (.ref C) "__setattr__"=some (some (.builtin "object.__setattr__")))(hp:W.plainOver K C=true)(ht:W.takerIn K C name=some none)(hh:W.hasDictIn K C=true)(hw:PySem.Within mA ns)(hsz:ns.length<=sizeLine)(h:∀h',Vj h' x dx C (λy=>if y=name then some v else mA y)->Heap.SameBut dx s.heap h'->Q Unit.unit { s with heap:=h',toks:=s.toks+2 }):
  wpAny (model prog w) A (setAttr (.ref x) name v) Q E s:=by
 obtain⟨od,J,hl⟩:=I.look;refine W.set_plain X J hs (W.osa_open X J hp ht λb=>?_);obtain⟨cd,hc,hd'⟩:=W.any_some hh;have hx:s.heap.get? x=some ⟨.ref C,some dx,.plain,#[]⟩:=I.obj;refine wpAny_bind (wpAny_pure (wpAny_bind (wpAny_bind (wpAny_loadPart hx (wpAny_bind (W.Looks.here (W.looks_clsIn X hc) ?_))))));rw[hd'];refine wpAny_pure (wpAny_bind (wpAny_pure (wpAny_bind ?_)));refine wpAny_nsSet1 I.ns λh' hn2 hs2=>?_
 obtain⟨oD,esD,epD,hoD,hdD,hcD⟩:=hn2.count (PySem.Within.cons name v hw);refine wpAny_bind (wpAny_lookBehind hoD (by rw[hdD];exact pastItsLine_dict (yF hcD (by rw[yG];omega))) ?_);exact wpAny_pure (h _ ⟨(hs2.2 _ (Ne.symm I.ne)).trans I.obj,hn2,I.ne⟩ hs2)
theorem HV (X:K.In s.heap)(hm:W.makesIn K C=true)(hi:W.findIn K (.ref C) "__init__"=some (some (.ref f)))(hf:W.typeIn K (.ref f)=some (.type "function"))(h:codeAny (model prog w) (A.under (.builtin "type.__call__" ⟨.ref C::vs,kw⟩)) (.call (.ref f) ⟨.ref (s.heap.objs.size+1)::vs,kw⟩) (W.InitBack (s.heap.objs.size+1) R)
   { s with heap:=(s.heap.push W.emptyDict).push (W.instObj C s.heap.objs.size) }):
  codeAny (model prog w) A (.call (.ref C) ⟨vs,kw⟩) R s:=by
 obtain⟨hh,g,d,t,os⟩:=s;exact W.make_core (W.makes_of X hm) (W.looks_findIn X hi) (λself=>W.bind_fn X self hf) (.inl rfl) h
end
def YL (f:Str)(v:V):List (Str×V)->List (Str×V)
 | []=>[(f,v)]
 | (g,x)::r=>if g=f then (g,v)::r else (g,x)::YL f v r
theorem Oj (f g:Str)(v:V):∀fs:List (Str×V),(YL f v fs).lookup g=if g=f then some v else fs.lookup g
 | []=>by
  show List.lookup g [(f,v)]=_;by_cases h:g=f
  .have hb:(g==f)=true:=beq_iff_eq.mpr h;simp only[List.lookup,hb,if_pos h]
  .have hb:(g==f)=false:=beq_eq_false_iff_ne.mpr h;simp only[List.lookup,hb,if_neg h]
 | (k,x)::r=>by
  have ih:=Oj f g v r;rw[show YL f v ((k,x)::r)=(if k=f then (k,v)::r else (k,x)::YL f v r) from rfl];by_cases hk:k=f
  .rw[if_pos hk];by_cases h:g=k
   .have hb:(g==k)=true:=beq_iff_eq.mpr h;simp only[List.lookup,hb,if_pos (h.trans hk)]
   .have hb:(g==k)=false:=beq_eq_false_iff_ne.mpr h;simp only[List.lookup,hb,if_neg (λe:g=f=>h (e.trans hk.symm))]
  .rw[if_neg hk];by_cases h:g=k
   .have hb:(g==k)=true:=beq_iff_eq.mpr h;simp only[List.lookup,hb,if_neg (λe:g=f=>hk (h.symm.trans e))]
   .have hb:(g==k)=false:=beq_eq_false_iff_ne.mpr h;simp only[List.lookup,hb];exact ih
theorem Pb (f:Str)(v:V):∀fs:List (Str×V),f∈(YL f v fs).map (·.1)/\∀g,g∈fs.map (·.1)->g∈(YL f v fs).map (·.1)
 | []=>⟨by simp[YL],λg h=>by simp at h⟩
 | (k,x)::r=>by
  obtain⟨i1,i2⟩:=Pb f v r;rw[show YL f v ((k,x)::r)=(if k=f then (k,v)::r else (k,x)::YL f v r) from rfl];by_cases hk:k=f
  .rw[if_pos hk];subst hk;exact⟨by simp,λg h=>by simpa using h⟩
  .rw[if_neg hk];refine⟨?_,λg h=>?_⟩
   .rw[xB];exact yI _ i1
   .rw[xB] at h ⊢;rcases zY.mp h with e|e
    .exact zY.mpr (.inl e)
    .exact yI _ (i2 g e)
theorem O1 (f:Str)(v:V):∀fs:List (Str×V),(YL f v fs).length<=fs.length+1
 | []=>by simp[YL]
 | (k,x)::r=>by
  have ih:=O1 f v r;rw[show YL f v ((k,x)::r)=(if k=f then (k,v)::r else (k,x)::YL f v r) from rfl];by_cases hk:k=f
  .rw[if_pos hk,yG,yG];omega
  .rw[if_neg hk,yG,yG];omega
theorem Wg.some_of (r:Wg (some v) o):∃u,o=some u/\Zs v u:=by
 cases o with
 | none=>exact(show False from r).elim
 | some u=>exact⟨u,rfl,r⟩
theorem Wg.none_of (r:Wg none o):o=none:=by
 cases o with
 | none=>rfl
 | some u=>exact(show False from r).elim
theorem Ff (r:Zs v u):W.handedIn u=true:=by
 cases v with
 | non=>cases (show u=Value.none from r);rfl
 | bl b=>cases (show u=Value.bool b from r);rfl
 | int i=>obtain⟨t,e⟩:=(show ∃t,u=Value.int i t from r);cases e;rfl
 | str x=>obtain⟨t,e⟩:=(show ∃t,u=Value.str x t from r);cases e;rfl
 | byt b=>obtain⟨t,e⟩:=(show ∃t,u=Value.bytes b t from r);cases e;rfl
 | flt b=>obtain⟨t,e⟩:=(show ∃t,u=Value.float b t from r);cases e;rfl
 | ref a=>cases (show u=Value.ref a from r);rfl
 | ty n=>cases (show u=Value.type n from r);rfl
theorem Sw (hok:HOk P w H h)(e:H a=some (.ins C dx fs)):∃mA,Vj h a dx C mA/\(∀f,Wg (fs.lookup f) (mA f))/\PySem.Within mA (fs.map (·.1))/\fs.length<=1000/\H dx=some (.own a):=by
 obtain⟨d,z,ne,ob,mA,n,r,q⟩:=(show YH P w H h a (.ins C dx fs) from hok a _ e);exact⟨mA,⟨ob,n,ne⟩,r,q,z,d⟩
structure Cls (K:Fg)(C:Addr):Prop where
 pg:W.plainGet K C Str.empty=true
 hd:W.hasDictIn K C=true
 po:W.plainOver K C=true
 sa:W.findIn K (.ref C) "__setattr__"=some (some (.builtin "object.__setattr__"))
theorem Cls.get {K:Fg}{C:Addr}(c:Cls K C)(f:Str):W.plainGet K C f=true:=c.pg
def Ym (K:Fg)(C:Addr)(f:Str):Prop:=W.findIn K (.ref C) f=some none
theorem Ym.taker {K:Fg}{C:Addr}{f:Str}(n:Ym K C f):W.takerIn K C f=some none:=by
 unfold W.takerIn;rw[show W.findIn K (.ref C) f=some none from n];rfl
structure Con (K:Fg)(C:Addr)(f:Str)(v:V)(u:Value):Prop where
 at_:W.findIn K (.ref C) f=some (some u)
 bA:Zs v u
 get:W.specialIn K u "__get__"=some none
 cp:W.copiedNames.contains f=false
structure WT (K:Fg)(C:Addr)(m:Str)(f:Addr):Prop where
 at_:W.findIn K (.ref C) m=some (some (.ref f))
 fn:W.isFn K (.ref f)=true
 kp:W.keepIn K (.ref f)=true
theorem FT (I:Inv X pins σ H s)(e:H a=some (.ins C dx fs))(c:Cls X.K C)(n:Ym X.K C f)(l:fs.lookup f=some v)(h:∀u s',Inv X pins σ H s'->Zs v u->Q u s'):wpAny (mX X) A (getAttr (.ref a) f b) Q E s:=by
 obtain⟨mA,O,r,_,_,_⟩:=Sw I.hok e;obtain⟨u,hu,ru⟩:=Wg.some_of (by rw[<- l];exact r f);exact HS I.kIn O (c.get f) c.hd n hu (Ff ru) (h u _ (I.tok _) ru)
theorem Px (I:Inv X pins σ H s)(e:H a=some (.ins C dx fs))(c:Cls X.K C)(k:WT X.K C m g)(l:fs.lookup m=none)(h:Q (.ref g,[.ref a]) s):wpAny (mX X) A (getMethod (.ref a) m pl) Q E s:=by
 obtain⟨mA,O,r,_,_,_⟩:=Sw I.hok e;have hn:mA m=none:=Wg.none_of (by rw[<- l];exact r m);exact HF I.kIn O (c.get m) k.at_ k.fn hn h
theorem DZ (I:Inv X pins σ H s)(e:H a=some (.ins C dx fs))(c:Cls X.K C)(n:Ym X.K C f)(hl:fs.length<1000)(ry:Zs y u)(h:∀s',Inv X pins σ (upd H a (.ins C dx (YL f y fs))) s'->Q Unit.unit s'):wpAny (mX X) A (setAttr (.ref a) f u) Q E s:=by
 obtain⟨mA,O,r,wi,_,ho⟩:=Sw I.hok e;have hz:(fs.map (·.1)).length<=sizeLine:=by rw[zC,sizeLine_eq];omega
 refine Bp I.kIn O c.sa c.po n.taker c.hd wi hz λh' O' sb=>h _ ?_
 have hd:∃o,h'.get? dx=some o:=let ⟨o,_,_,e',_⟩:=O'.ns;⟨o,e'⟩
 refine I.write (by rw[e];exact True.intro) (.inr ho) (λb q hb z=>(sb.2 b hb).trans z) hd ?_;refine⟨by rw[ZT O.ne];exact ho,?_,O.ne,O'.obj,_,O'.ns,λg=>?_,λg hg=>?_⟩
 .have:=O1 f y fs;omega
 .show Wg ((YL f y fs).lookup g) (if g=f then some u else mA g);rw[Oj];by_cases q:g=f
  .rw[if_pos q,if_pos q];exact ry
  .rw[if_neg q,if_neg q];exact r g
 .by_cases q:g=f
  .rw[q];exact(Pb f y fs).1
  .refine(Pb f y fs).2 g (wi g λz=>hg ?_);show (if g=f then some u else mA g)=none;rw[if_neg q];exact z
theorem Inv.made (I:Inv X pins σ H s):Inv X pins σ (upd (upd H s.heap.objs.size (.own (s.heap.objs.size+1))) (s.heap.objs.size+1) (.ins C s.heap.objs.size []))
  { s with heap:=(s.heap.push W.emptyDict).push (W.instObj C s.heap.objs.size) }:=by
 have e1:(s.heap.push W.emptyDict).get? s.heap.objs.size=some W.emptyDict:=Heap.get?_push_size s.heap rfl
 have e2:((s.heap.push W.emptyDict).push (W.instObj C s.heap.objs.size)).get? (s.heap.objs.size+1)=some (W.instObj C s.heap.objs.size):=by
  have:=Heap.get?_push_size (s.heap.push W.emptyDict) (o:=W.instObj C s.heap.objs.size) rfl
  rwa [Heap.size_push] at this
 have e3:(s.heap.push W.emptyDict).Ns s.heap.objs.size (λ_=>none):=⟨W.emptyDict,#[],_,e1,rfl,(λe he=>absurd he (by simp)),λ_=>rfl⟩
 have I1:=I.laid (o:=.own (s.heap.objs.size+1)) (t':=s.toks) (λb u q=>Heap.get?_push_of_some _ q) (zB _) ⟨_,e1⟩;refine I1.laid (λb u q=>Heap.get?_push_of_some _ q) (xV (Heap.size_push _ _)) ?_;have ne:s.heap.objs.size≠s.heap.objs.size+1:=zP (xW _);refine⟨by rw[ZT ne,YK],zJ _,ne,e2,λ_=>none,(Heap.Ns1.of_empty e3).at λo q=>Heap.get?_push_of_some _ q,λ_=>True.intro,λy hy=>absurd rfl hy⟩
theorem D3 (hb:attributeBase e f env (eval e env)=eval e env)(h:wpAny (model prog w) A (eval e env) (λo s₁=>wpAny (model prog w) A (getAttr o f true) Q E s₁) E s):wpAny (model prog w) A (eval (.Attribute e f pos) env) Q E s:=
 Attribute_any_ h (by rw[arm_eval_Attribute,hb])
def tFld (K:Fg)(ta:TE)(f:Str):TE:=λσ H Q=>ta σ H λx H1=>∃a C dx fs v,x=.ref a/\H1 a=some (.ins C dx fs)/\Cls K C/\Ym K C f/\fs.lookup f=some v/\Q v H1
def sFld (K:Fg)(ta tv:TE)(f:Str):TS:=λD σ H=>tv σ H λy H1=>ta σ H1 λx H2=>∃a C dx fs,x=.ref a/\H2 a=some (.ins C dx fs)/\Cls K C/\Ym K C f/\fs.length<1000/\
 D.nx σ (upd H2 a (.ins C dx (YL f y fs)))
theorem CH (he:PE X e ta)(hb:attributeBase e f X.env (eval e X.env)=eval e X.env):PE X (.Attribute e f pos) (tFld X.K ta f):=by
 intro pins s σ H Q I h;refine D3 hb (thn (he pins s σ H _ I h) λu s1 ⟨x,H1,I1,rx,a,C,dx,fs,v,ex,ea,c,n,l,q⟩=>?_);subst ex;obtain rfl:u=Value.ref a:=rx;exact FT I1 ea c n l λu' s2 I2 ru=>⟨v,H1,I2,ru,q⟩
theorem GO (ha:PE X o ta)(hv:PE X value tv)(hs:swapsWith value (some (.Attribute o f pos')) pos.line X.env=pure false):PS X (.Assign [.Attribute o f pos'] value pos) (sFld X.K ta tv f):=by
 intro pins s σ H D I h;refine plainObj_wpAny_Assign_Attribute (thn (hv pins s σ H _ I h) λu s1 ⟨y,H1,I1,ry,q⟩=>thn (ha pins s1 σ H1 _ I1 q) λov s2 ⟨x,H2,I2,rx,a,C,dx,fs,ex,ea,c,n,l,q2⟩=>?_) hs;subst ex;obtain rfl:ov=Value.ref a:=rx;exact DZ I2 ea c n l ry λs3 I3=>⟨σ,_,I3,q2⟩
inductive Xr (K:Fg)(H:Hp):V->Value->Prop where
 | non:Xr K H .non (.type "NoneType")
 | bl (x:Bool):Xr K H (.bl x) (.type "bool")
 | int (i:Int):Xr K H (.int i) (.type "int")
 | str (x:Str):Xr K H (.str x) (.type "str")
 | flt (x:UInt64):Xr K H (.flt x) (.type "float")
 | lst {a:Addr} {xs:List V} (e:H a=some (.lst xs)):Xr K H (.ref a) (.type "list")
 | frz {a:Addr} {o:Obj} {xs:List V} (e:H a=some (.frz o (.lst xs))):Xr K H (.ref a) (.type "list")
 | tup {a:Addr} {xs:List V} (e:H a=some (.tup xs)):Xr K H (.ref a) (.type "tuple")
 | dK {a:Addr} {aW:List (Key×V)} (e:H a=some (.dK aW)):Xr K H (.ref a) (.type "dict")
 | dT {a:Addr} {aW:List (List Key×V)} (e:H a=some (.dT aW)):Xr K H (.ref a) (.type "dict")
 | ins {a C dx:Addr} {fs:List (Str×V)} (e:H a=some (.ins C dx fs)) (cl:Cls K C) (ha:W.findIn K (.ref C) "__class__"=some (some (.builtin "object.__class__")))
   (hn:W.specialIn K (.builtin "object.__class__") "__get__"=some (some (.builtin "getset_descriptor.__get__"))) (htk:W.takesIn K (.builtin "object.__class__")=some true)
   (hm:W.mroIn K C (.type "object")=some true):Xr K H (.ref a) (.ref C)
theorem Iw (I:Inv X pins σ H s)(rx:Zs x u)(ty:Xr X.K H x t)(e:W.kitOne X.K t c=some b)(h:∀tk,Q (.bool b) { s with toks:=tk }):
  wpAny (mX X) A (call (.builtin "isinstance") [u,c]) Q E s:=by
 cases ty with
 | non=>cases (show u=Value.none from rx);exact W.kia_one W.kitx_none I.kIn True.intro e (λz=>nomatch z) h
 | bl y=>cases (show u=Value.bool y from rx);exact W.kia_one W.kitx_bool I.kIn True.intro e (λz=>nomatch z) h
 | int i=>obtain⟨t,q⟩:=(show ∃t,u=Value.int i t from rx);cases q;exact W.kia_one W.kitx_int I.kIn True.intro e (λz=>nomatch z) h
 | str y=>obtain⟨t,q⟩:=(show ∃t,u=Value.str y t from rx);cases q;exact W.kia_one W.kitx_str I.kIn True.intro e (λz=>nomatch z) h
 | flt y=>obtain⟨t,q⟩:=(show ∃t,u=Value.float y t from rx);cases q;exact W.kia_one W.kitx_float I.kIn True.intro e (λz=>nomatch z) h
 | @lst a xs ea=>
  cases (show u=Value.ref a from rx);obtain⟨_,_,n,_,h1⟩:=(show YH X.prog X.w H s.heap a (.lst xs) from I.hok a _ ea);exact W.kia_one W.kitx_list I.kIn ⟨_,h1,rfl⟩ e (λz=>nomatch z) h
 | @frz a ob xs ea=>
  cases (show u=Value.ref a from rx);obtain⟨_,_,_,n,_,h1⟩:=(show YH X.prog X.w H s.heap a (.frz ob (.lst xs)) from I.hok a _ ea);exact W.kia_one W.kitx_list I.kIn ⟨_,h1,rfl⟩ e (λz=>nomatch z) h
 | @tup a xs ea=>
  cases (show u=Value.ref a from rx);obtain⟨_,_,_,p⟩:=(show YH X.prog X.w H s.heap a (.tup xs) from I.hok a _ ea);obtain⟨o,h1,h2,_⟩:=p;exact W.kia_one W.kitx_tuple I.kIn ⟨o,h1,h2⟩ e (λz=>nomatch z) h
 | @dK a aW ea=>
  cases (show u=Value.ref a from rx);obtain⟨_,_,vs,_,p⟩:=(show YH X.prog X.w H s.heap a (.dK aW) from I.hok a _ ea);obtain⟨o,es,ep,h1,h2,_⟩:=p;exact W.kia_one W.kitx_dict I.kIn ⟨o,h1,h2.1⟩ e (λz=>nomatch z) h
 | @dT a aW ea=>
  cases (show u=Value.ref a from rx);obtain⟨_,_,xs,_,o,es,ep,h1,h2,_⟩:=(show YH X.prog X.w H s.heap a (.dT aW) from I.hok a _ ea);exact W.kia_one W.kitx_dict I.kIn ⟨o,h1,h2.1⟩ e (λz=>nomatch z) h
 | @ins a C dx fs ea cl ha hn htk hm=>
  cases (show u=Value.ref a from rx);obtain⟨mA,O,_⟩:=Sw I.hok ea;obtain⟨od,J,_⟩:=O.look;exact W.kia_one (W.kitx_own (cl.get _) cl.hd ha hn htk hm) I.kIn J e (λz=>nomatch z) h
structure ZG (k:Nat)(A:Around):Prop where
 hd:A.handled=none
 dp:A.depth+3*k+5<recursionLimit
 un:A.units+16*k+200<cLine
theorem ZG.mono {j k:Nat}{A:Around}(r:ZG k A)(h:j<=k):ZG j A:=⟨r.hd,by have:=r.dp;omega,by have:=r.un;omega⟩
theorem ZG.deeper {k:Nat}{A:Around}(r:ZG (k+1) A)(env:Env):ZG k (A.deeper env):=
 ⟨r.hd,by have:=r.dp;show A.depth+1+3*k+5<_;omega,by have:=r.un;show A.units+3+16*k+200<_;omega⟩
theorem ZG.in1 {k:Nat}{A:Around}(r:ZG (k+1) A):ZG k A.in1:=
 ⟨r.hd,by have:=r.dp;show A.depth+3*k+5<_;omega,by have:=r.un;show A.units+1+16*k+200<_;omega⟩
theorem Hg {A:Around}{C:Addr}{us:List Value}{kw:List (Str×Value)}:(A.under (.builtin "type.__call__" ⟨.ref C::us,kw⟩)).depth=A.depth+1:=by
 first|rfl|simp[Around.under,Code.weight,Code.isCreation,Code.isGuard,Code.isCaller,Code.frames,Code.isFrame,guardIds]
theorem GV {A:Around}{C:Addr}{us:List Value}{kw:List (Str×Value)}:(A.under (.builtin "type.__call__" ⟨.ref C::us,kw⟩)).units=A.units+1:=by
 first|rfl|simp[Around.under,Code.cUnits,Code.frames,Code.isFrame]
theorem ZG.make {k:Nat}{A:Around}(r:ZG (k+1) A)(C:Addr)(us:List Value)(kw:List (Str×Value)):ZG k (A.under (.builtin "type.__call__" ⟨.ref C::us,kw⟩)):=
 ⟨r.hd,by have:=r.dp;rw[Hg];omega,by have:=r.un;rw[GV];omega⟩
theorem ZG.depth {k:Nat}{A:Around}(r:ZG k A):A.depth<recursionLimit:=by have:=r.dp;omega
theorem ZG.units (r:ZG k A):A.units+64<cLine:=by have:=r.un;omega
def tNil:TA:=λ_ H Q=>Q [] H
def tCons (ta:TE)(tr:TA):TA:=λσ H Q=>ta σ H λx H1=>tr σ H1 λxs H2=>Q (x::xs) H2
theorem PB:PA X [] tNil:=λ_ _ _ _ H Q I h=>Calls.spliced_nil ⟨[],H,I,.nil,h⟩
theorem Tz (ha:PE X e te)(hr:PA X es t)(hs:starEach (e::es) X.env=(false,eval e X.env)::starEach es X.env:=by rfl):PA X (e::es) (tCons te t):=by
 intro pos pins s σ H Q I h;rw[hs];refine Calls.spliced_cons (thn (ha pins s σ H _ I h) λu s1 ⟨x,H1,I1,r1,q1⟩=>?_);exact thn (hr pos pins s1 σ H1 _ I1 q1) λus s2 ⟨xs,H2,I2,r2,q2⟩=>⟨x::xs,H2,I2,.cons r1 r2,q2⟩
def tTup (t:TA):TE:=λσ H Q=>t σ H λxs H1=>xs.length<=sizeLine/\∀p,H1 p=none->Q (.ref p) (upd H1 p (.tup xs))
def tLst (t:TA):TE:=λσ H Q=>t σ H λxs H1=>xs.length<=sizeLine/\∀p,H1 p=none->Q (.ref p) (upd H1 p (.lst xs))
theorem LY {x1}(h:PA X es t):PE X (.Tuple es x1 pos) (tTup t):=by
 intro pins s σ H Q I hq;refine wpAny_Tuple_spliced (thn (h pos pins s σ H _ I hq) λus s1 ⟨xs,H1,I1,r,z,q⟩=>⟨by rw[<- r.length];exact z,?_⟩);have hf:H1 s1.heap.objs.size=none:=I1.hok.fresh (zB _);refine⟨.ref s1.heap.objs.size,upd H1 s1.heap.objs.size (.tup xs),I1.laid (λb u e=>Heap.get?_push_of_some _ e) (zB _) ?_,rfl,q _ hf⟩;exact⟨z,us,r,⟨_,Heap.get?_push_size _ rfl,rfl,_,rfl⟩⟩
theorem Hq (h:PA X es t):PE X (.List es pos) (tLst t):=by
 intro pins s σ H Q I hq;refine wpAny_List_spliced (thn (h pos pins s σ H _ I hq) λus s1 ⟨xs,H1,I1,r,z,q⟩=>⟨by rw[<- r.length];exact z,?_⟩);have hf:H1 s1.heap.objs.size=none:=I1.hok.fresh (zB _);refine⟨.ref s1.heap.objs.size,upd H1 s1.heap.objs.size (.lst xs),I1.laid (λb u e=>Heap.get?_push_of_some _ e) (zB _) ?_,rfl,q _ hf⟩;exact⟨z,us,0,r,Heap.get?_push_size _ rfl⟩
abbrev Sp:=List V->Hp->VK->XK->Prop
abbrev CXT:=List Env->Hp->Shared->XK->Value->Shared->Prop
structure WI (P:Program)(w:World)(K:Fg)(mg:Str->Option Value)(base:Heap)(A:Around)(outer:List Env)(s:Shared)(H:Hp):Prop where
 frames:A.frames=some outer
 mod:Mod K mg base
 bs:∀b o,base.get? b=some o->s.heap.get? b=some o/\H b=none
 bsz:base.objs.size<=s.heap.objs.size
 funs:s.heap.FunFrames base outer
 frf:∀b∈frs outer,H b=none
 hok:HOk P w H s.heap
 bare:AllBare s.gens
def CE (outer:List Env)(P:Program)(w:World)(H:Hp)(s:Shared)(Q:VK)(u:Value)(s':Shared):Prop:=
 ∃v H',s'.os=s.os/\AllBare s'.gens/\Un (frs outer) [] H H' s.heap s'.heap/\HOk P w H' s'.heap/\Zs v u/\Q v H'
def CR (CX:CXT)(outer:List Env)(P:Program)(w:World)(H:Hp)(s:Shared)(Q:VK)(E:XK)(r:Result)(s':Shared):Prop:=
 match r with
 | .ok (.ret u)=>CE outer P w H s Q u s'
 | .ok _=>False
 | .error e=>CX outer H s E e s'
structure Yc (P:Program)(w:World)(K:Fg)(mg:Str->Option Value)(base:Heap)(CX:CXT)(k:Nat)(f:Addr)(fd:FuncData)(ps:List Str)(sp:Sp):Prop where
 len:∀vs H Q E,sp vs H Q E->vs.length=ps.length
 run:∀(A:Around)(outer:List Env)(s:Shared)(H:Hp)(args:Args)(us:List Value)(vs:List V)(Q:VK)(E:XK),ZG k A->WI P w K mg base A outer s H->BindsTo s fd args (ps.zip us)->Zq vs us->sp vs H Q E->
  codeAny (model P w) A (.call (.ref f) args) (CR CX outer P w H s Q E) s
theorem Yc.mono {P:Program}{w:World}{K:Fg}{mg:Str->Option Value}{base:Heap}{CX:CXT}{j k:Nat}{f:Addr}{fd:FuncData}{ps:List Str}{sp:Sp}(F:Yc P w K mg base CX j f fd ps sp)(h:j<=k):
  Yc P w K mg base CX k f fd ps sp:=⟨F.len,λA outer s H args us vs Q E hr=>F.run A outer s H args us vs Q E (hr.mono h)⟩
theorem WI.make {P:Program}{w:World}{K:Fg}{mg:Str->Option Value}{base:Heap}{A:Around}{outer:List Env}{s:Shared}{H:Hp}(e:WI P w K mg base A outer s H)(C:Addr)(us:List Value)(kw:List (Str×Value)):
  WI P w K mg base (A.under (.builtin "type.__call__" ⟨.ref C::us,kw⟩)) outer s H:=⟨by first|exact e.frames|(simpa [Around.under,Code.envs,Code.isFrame,pushEnvs] using e.frames),e.mod,e.bs,e.bsz,e.funs,e.frf,e.hok,e.bare⟩
theorem Inv.env0 (I:Inv X pins σ H s):WI X.prog X.w X.K X.mg X.base X.A X.stack s H:=
 ⟨I.ok.frames,I.ok.mod,I.bs,yF I.ok.bsz I.sz,I.stack,I.stkFree,I.hok,I.bare⟩
theorem Inv.after (I:Inv X pins σ H s)(h:CE X.stack X.prog X.w H s Q u s'):EP X pins σ Q u s':=by
 obtain⟨v,H',os,bare,un,hok,r,q⟩:=h;obtain⟨hh,g,d,t,os'⟩:=s';obtain rfl:os'=s.os:=os;exact⟨v,H',I.call un hok bare (λb z=>absurd z (by simp)),r,q⟩
def tMake (C:Addr)(sp:Sp)(dvs:List V)(E:XK)(t:TA):TE:=λσ H Q=>t σ H λvs H1=>∀x dx,H1 x=none->H1 dx=none->dx≠x->
 sp (.ref x::(vs++dvs)) (upd (upd H1 dx (.own x)) x (.ins C dx [])) (λv H2=>v=.non/\Q (.ref x) H2) E
def YG (K:Fg)(fd:FuncData)(ps:List Str)(ds:List Value):Prop:=
 ∀(s:Shared)(us:List Value),K.In s.heap->(us++ds).length=ps.length->BindsTo s fd ⟨us,[]⟩ (ps.zip (us++ds))
theorem YG.all {K:Fg}{fd:FuncData}{ps:List Str}(h:∀us:List Value,us.length=ps.length->bindArgs fd ⟨us,[]⟩=pure (ps.zip us)):YG K fd ps []:=λs us _ hl=>by
 rw[xH] at hl ⊢;exact .of_eq (h us hl)
def Rv (CX:CXT)(X:Cx)(E:XK):Prop:=∀(pins:LA)(σ:St)(H:Hp)(s:Shared)(e:Value)(s':Shared),Inv X pins σ H s->CX X.stack H s E e s'->X.xe e s'
structure Mk (K:Fg)(C f:Addr):Prop where
 makes:W.makesIn K C=true
 init:W.findIn K (.ref C) "__init__"=some (some (.ref f))
 fn:W.isFn K (.ref f)=true
 kp:W.keepIn K (.ref C)=true
theorem Cm (M:Mk X.K C f)(F:Yc X.prog X.w X.K X.mg X.base CX k f fd ps sp)(hr:ZG (k+1) X.A)(hb:YG X.K fd ps ds)(hd:Zq dvs ds)(hx:Rv CX X E)(I:Inv X pins σ H s)(r:Zq vs us)(h:∀x dx,H x=none->H dx=none->dx≠x->sp (.ref x::(vs++dvs)) (upd (upd H dx (.own x)) x (.ins C dx [])) (λv H2=>v=.non/\Q (.ref x) H2) E):
  wpAny (mX X) X.A (call (.ref C) us) (EP X pins σ Q) X.xe s:=by
 have hq:=h (s.heap.objs.size+1) s.heap.objs.size (I.hok.fresh (xN _)) (I.hok.fresh (zB _)) (zP (xW _))
 have I2:=Inv.made (C:=C) I
 have r2:Zq (V.ref (s.heap.objs.size+1)::(vs++dvs)) (Value.ref (s.heap.objs.size+1)::(us++ds)):=.cons rfl (r.append hd)
 have hl:(Value.ref (s.heap.objs.size+1)::us++ds).length=ps.length:=by
  have e:=r2.length;rw[F.len _ _ _ _ hq] at e;exact e.symm
 refine wpAny_call (HV I.kIn M.makes M.init (beq_iff_eq.mp M.fn) (codeAny_mono (F.run _ X.stack _ _ ⟨Value.ref (s.heap.objs.size+1)::us,[]⟩ (Value.ref (s.heap.objs.size+1)::(us++ds)) _ _ E (hr.make C us [])
  (I2.env0.make C us []) (hb _ (Value.ref (s.heap.objs.size+1)::us) I2.kIn hl) r2 hq) λr s' hq'=>?_))
 cases r with
 | error e=>exact hx pins σ _ _ e s' I2 hq'
 | ok fl=>
  cases fl with
  | ret u=>
   obtain⟨v,H',I3,rv,ev,q3⟩:=I2.after hq';subst ev;exact⟨rv,⟨V.ref (s.heap.objs.size+1),H',I3,rfl,q3⟩⟩
  | next=>exact False.elim hq'
  | brk=>exact False.elim hq'
  | cont=>exact False.elim hq'
theorem DJ (M:Mk X.K C f)(F:Yc X.prog X.w X.K X.mg X.base CX k f fd ps sp)(hr:ZG (k+1) X.A)(hg:Gl X x)(hm:X.mg x=some (.ref C))(hb:YG X.K fd ps ds)(hd:Zq dvs ds)(hx:Rv CX X E)
  (ha:PA X (e::es) t)(hdb:(x==("__debug__":Str))=false:=by decide)(he:He X e es:=by rfl)(hpl:Hp1 X pos es:=by rfl):
  PE X (.Call (.Name x p) (e::es) [] pos) (tMake C sp dvs E t):=by
 intro pins s σ H Q I h;refine wpAny_Call_Name_kw (Lg I hg hm ?_ hdb);refine W.callWith_K I.ok.mod.kin M.kp (thn (ha pos pins s σ H _ I h) λus s1 ⟨vs,H1,I1,r,q⟩=>⟨I1.kIn,?_⟩) he hpl;exact Cm M F hr hb hd hx I1 r q
section
structure KBinds (K:Fg)(fd:FuncData)(ps ks:List Str)(g:List Value->List Value->List Value)(gV:List V->List V->List V):Prop where
 to:∀(s:Shared)(us ws:List Value),K.In s.heap->(g us ws).length=ps.length->BindsTo s fd ⟨us,ks.zip ws⟩ (ps.zip (g us ws))
 bA:∀ {vs:List V} {us:List Value} {zs:List V} {ws:List Value},Zq vs us->Zq zs ws->Zq (gV vs zs) (g us ws)
variable {g:List Value->List Value->List Value}{gV:List V->List V->List V}
end
structure YF (N P:List Str)(sc:Scope):Prop where
 kind:sc.kind=.function
 co:sc.isCoroutine=false
 gen:sc.isGenerator=false
 nd:N.Nodup
 pre:N.take P.length=P
 par:∀x∈P,sc.names.lookup x=some .local\/sc.names.lookup x=some .cell
 nofree:∀y∈sc.names,y.2≠.free
theorem NM {kindOf:Str->Option NameKind}{x:Str}:∀ {binds:List (Str×Value)} {m:Str->Option Value},(∀v,(x,v) ∉ binds)->bindL kindOf binds m x=m x
 | [],_,_=>rfl
 | (n,v)::r,m,h=>by
  unfold bindL;rw[NM λw hw=>h w (yI _ hw)];split
  .have:x≠n:=by rintro rfl;exact h v yV
   simp[this]
  .rfl
theorem M9 {kindOf:Str->Option NameKind}{x:Str}:∀ {binds:List (Str×Value)} {m:Str->Option Value},(∀v,(x,v) ∉ binds)->bindC kindOf binds m x=m x
 | [],_,_=>rfl
 | (n,v)::r,m,h=>by
  unfold bindC;rw[M9 λw hw=>h w (yI _ hw)];split
  .rfl
  .have:x≠n:=by rintro rfl;exact h v yV
   simp[this]
theorem OW {kindOf:Str->Option NameKind}{x:Str}{v:Value}:∀ {P:List Str} {vs:List Value} {i:Nat} {m:Str->Option Value},P.Nodup->P[i]?=some x->vs[i]?=some v->kindOf x=some .local->
  bindL kindOf (P.zip vs) m x=some v
 | [],_,_,_,_,h,_,_=>by simp at h
 | _::_,[],_,_,_,_,h,_=>by simp at h
 | p::P,w::vs,0,m,nd,h1,h2,hk=>by
  simp at h1 h2;subst h1;subst h2
  show bindL kindOf ((p,w)::P.zip vs) m p=_;unfold bindL;rw[NM λv hv=>(xO.mp nd).1 (wD hv).1,if_pos hk];simp
 | p::P,w::vs,i+1,m,nd,h1,h2,hk=>by
  unfold bindL;exact OW (xO.mp nd).2 (by simpa using h1) (by simpa using h2) hk
theorem ME {kindOf:Str->Option NameKind}{x:Str}{v:Value}:∀ {P:List Str} {vs:List Value} {i:Nat} {m:Str->Option Value},P.Nodup->P[i]?=some x->vs[i]?=some v->kindOf x≠some .local->
  bindC kindOf (P.zip vs) m x=some v
 | [],_,_,_,_,h,_,_=>by simp at h
 | _::_,[],_,_,_,_,h,_=>by simp at h
 | p::P,w::vs,0,m,nd,h1,h2,hk=>by
  simp at h1 h2;subst h1;subst h2
  show bindC kindOf ((p,w)::P.zip vs) m p=_;unfold bindC;rw[M9 λv hv=>(xO.mp nd).1 (wD hv).1,if_neg hk];simp
 | p::P,w::vs,i+1,m,nd,h1,h2,hk=>by
  unfold bindC;exact ME (xO.mp nd).2 (by simpa using h1) (by simpa using h2) hk
def X4 (N:List Str)(vs:List V):St:=vs.map some++List.replicate (N.length-vs.length) none
def Xl (CX:CXT)(P:Program)(w:World)(K:Fg)(mg:Str->Option Value)(base:Heap)(N:List Str)(qual:Str)(scope:Scope)(f:Addr)(cd:Value)(A:Around)(outer:List Env)(s:Shared)(H:Hp)(E:XK):Cx where
 prog:=P
 w:=w
 K:=K
 mg:=mg
 base:=base
 A:=A.deeper (envOfC qual scope s.heap.objs.size f cd)
 N:=N
 s₀:=s
 H₀:=H
 env:=envOfC qual scope s.heap.objs.size f cd
 outer:=outer
 stack:=envOfC qual scope s.heap.objs.size f cd::outer
 ex:=[]
 calm:=true
 fn:=λ_=>true
 pn:=[]
 xe:=λe s'=>wpAny (model P w) (A.deeper (envOfC qual scope s.heap.objs.size f cd)) (leaving (envOfC qual scope s.heap.objs.size f cd) e) (λ_ s''=>CX outer H s E e s'') (λe' s''=>CX outer H s E e' s'') s'
theorem Li {sc:Scope}{n:Nat}{x:Str}(h:sc.names.lookup x=some .cell):∃c,(cellsFrom n sc.names []).lookup x=some c:=by
 have q:=W.cellsFrom_some sc.names n [] (.inl h);exact yX.mp q
theorem F3 {CX:CXT}{P:Program}{w:World}{K:Fg}{mg:Str->Option Value}{base:Heap}{N ps:List Str}{qual:Str}{scope:Scope}{f:Addr}{cd:Value}{A:Around}{outer:List Env}{s s1:Shared}{H:Hp}{E:XK}{us:List Value}{vs:List V}
  (S:YF N ps scope)(hd:A.handled=none)(e0:WI P w K mg base A outer s H)(hl:vs.length=ps.length)(r:Zq vs us)
  (x:InCallC s s.heap.objs.size (bindL (envOfC qual scope s.heap.objs.size f cd).kindOf (ps.zip us) λ_=>none) (cellsFrom (s.heap.objs.size+1) scope.names []) (bindC (envOfC qual scope s.heap.objs.size f cd).kindOf (ps.zip us) λ_=>none) s1):
  Inv (Xl CX P w K mg base N qual scope f cd A outer s H E) [] (X4 N vs) H s1:=by
 have hpl:ps.length<=N.length:=by have:=congrArg List.length S.pre;rw[zK] at this;omega
 obtain⟨h1,tk,rfl,hk⟩:=x.done;have noA:∀b:Addr,b ∉ (Xl CX P w K mg base N qual scope f cd A outer s H E).ex:=λb z=>absurd (show b∈([]:List Addr) from z) (by simp)
 refine⟨⟨e0.mod,S.kind,rfl,rfl,zB _,λy z c h1 h2=>?_,λy hy=>?_,λy c _ h=>?_,λ_=>hd,Around.frames_deeper e0.frames,.inr ⟨rfl,rfl⟩,λb z=>absurd z (noA b),e0.bs,e0.bsz,λb _ _=>noA b,λb z=>absurd z (noA b),e0.funs,e0.frf⟩,
  rfl,e0.bare,Un.kept hk,⟨_,x.toInCall.ns,λi y v h1 h2 h3=>?_⟩,λy c h=>⟨_,x.cell y c h⟩,e0.hok.fresh (zB _),λy c h=>?_,λp hp=>absurd (show p∈([]:LA) from hp) (by simp),e0.hok.kept hk,?_⟩
 .exact name_of_addr x.apart (PySem.mem_of_lookup h1) (PySem.mem_of_lookup h2)
 .have hy:scope.names.lookup y=some .cell\/scope.names.lookup y=some .free:=hy;rcases hy with hy|hy
  .exact Li hy
  .exact absurd rfl (S.nofree _ (PySem.mem_of_lookup hy))
 .exact yU (x.above y c (PySem.mem_of_lookup h))
 .have hi:i<vs.length:=by
   unfold X4 at h2;by_cases hi:i<vs.length
   .exact hi
   .rw[yL (by simpa using hi)] at h2;rw[wF] at h2;split at h2<;>cases h2
  have ha:vs[i]?=some v:=by
   unfold X4 at h2;rw[zL (by simpa using hi),zE] at h2;cases e:vs[i]? with
   | none=>rw[e] at h2;cases h2
   | some a=>rw[e] at h2;cases h2;rfl
  obtain⟨u,hu,rv⟩:=r.get ha;have hp:ps[i]?=some y:=by
   rw[<- S.pre,wG (by omega)];exact h1
  have ndP:ps.Nodup:=by rw[<- S.pre];exact S.nd.sublist (List.take_sublist _ _)
  refine⟨u,rv,?_⟩;rcases S.par y (zF hp) with k|k
  .exact .inl ⟨k,OW ndP hp hu k⟩
  .obtain⟨c,e⟩:=Li k;refine .inr ⟨.inl k,c,e,?_⟩;have q:=x.cell y c e;rw[ME ndP hp hu (by show scope.names.lookup y≠_;rw[k];decide)] at q;exact q
 .exact e0.hok.fresh (yU (x.above y c (PySem.mem_of_lookup h)))
 .unfold X4;show _=N.length;rw[yB,zC,uN];omega
theorem OE {CX:CXT}{P:Program}{w:World}{K:Fg}{mg:Str->Option Value}{base:Heap}{k:Nat}{f:Addr}{name qual:Str}{params:Arguments}{body:List Stmt}{scope:Scope}{dV kV doc pm cdv ct oc:Value}{an od:Option Addr}
  {osl:Array (Option Value)}{N ps:List Str}{sp:Sp}(lk:K.lookup f=some ⟨oc,od,.func (W.fnOf name qual params body scope dV kV doc pm an cdv ct),osl⟩)(hcd:W.codeIn K cdv qual=true)(S:YF N ps scope)
  (len:∀vs H Q E,sp vs H Q E->vs.length=ps.length)
  (hbody:∀(A:Around)(outer:List Env)(s:Shared)(H:Hp)(vs:List V)(Q:VK)(E:XK),ZG k (A.deeper (envOfC qual scope s.heap.objs.size f cdv))->sp vs H Q E->
   ∃t,PSs (Xl CX P w K mg base N qual scope f cdv A outer s H E) body t/\t { nx:=λ_ H'=>Q .non H',rt:=Q } (X4 N vs) H):
  Yc P w K mg base CX (k+1) f (W.fnOf name qual params body scope dV kV doc pm an cdv ct) ps sp:=by
 refine⟨len,λA outer s H args us vs Q E hr e0 hb r hsp=>?_⟩;have hl:=len _ _ _ _ hsp
 have KX:K.In s.heap:=e0.mod.kin.keeps λb o e=>(e0.bs b o e).1
 have lim:s.heap.NoLimit:=e0.mod.nolimit.keeps λb o e=>(e0.bs b o e).1
 have hkind:∀y∈ps.zip us,scope.names.lookup y.1=some .local\/(scope.names.lookup y.1=some .cell/\((cellsFrom (s.heap.objs.size+1) scope.names []).lookup y.1).isSome=true):=λ⟨n,v⟩ hy=>by
  rcases S.par n (wD hy).1 with q|q
  .exact .inl q
  .exact .inr ⟨q,W.cellsFrom_some _ _ _ (.inl q)⟩
 refine codeAny_call_function hr.depth (KX _ _ lk) rfl S.co S.gen rfl (W.codeRec_of KX hcd) (hb _ _ _ _ ?_);refine wpAny_newFunctionEnv_cells S.kind hkind λenv he s1 x=>?_
 subst he;refine⟨lim.keeps x.toInCall.keep,codeAny_func ?_⟩;obtain⟨t,ht,hq⟩:=hbody A outer s H vs Q E (hr.deeper _) hsp;have I:Inv (Xl CX P w K mg base N qual scope f cdv A outer s H E) [] (X4 N vs) H s1:=F3 S hr.hd e0 hl r x;refine wpAny_mono (ht [] s1 (X4 N vs) H _ I hq) (λfl s' hs=>?_) λe s' hs=>hs
 have aZ:∀ {σ':St} {H':Hp} {v:V} {u:Value},Inv (Xl CX P w K mg base N qual scope f cdv A outer s H E) [] σ' H' s'->Zs v u->Q v H'->CE outer P w H s Q u s':=
  λ{σ' H' v u} J rv q=>⟨v,H',J.os,J.bare,J.base,J.hok,rv,q⟩
 cases fl with
 | ret u=>
  obtain⟨v,σ',H',J,rv,q⟩:=hs;exact aZ J rv q
 | next=>
  obtain⟨σ',H',J,q⟩:=hs;exact aZ (v:=V.non) J rfl q
 | brk=>
  obtain⟨_,_,_,q⟩:=hs;exact False.elim q
 | cont=>
  obtain⟨_,_,_,q⟩:=hs;exact False.elim q
section
variable {X:Cx}{x:Str}{p pos:Pos}{e:Expr}{es:List Expr}{t:TA}{id T:String}{r:List V->Hp->VK->Prop}
def tCB (r:List V->Hp->VK->Prop)(t:TA):TE:=λσ H Q=>t σ H λvs H1=>r vs H1 Q
theorem Oe (hc:Yi X (.builtin id) r)(hg:Gl X x)(hm:X.mg x=none)(hv:bootBuiltins x=some (.builtin id))(ha:PA X (e::es) t)(hn:x≠"__name__":=by decide)(hdb:(x==("__debug__":Str))=false:=by decide)
  (he:He X e es:=by rfl)(hpl:Hp1 X pos es:=by rfl):PE X (.Call (.Name x p) (e::es) [] pos) (tCB r t):=by
 intro pins s σ H Q I h;refine wpAny_Call_Name_kw (Wd I hg hm hv ?_ hn hdb);exact PyProof.Rows.callWith_builtin1 (thn (ha pos pins s σ H _ I h) λus s1 ⟨vs,H1,I1,r1,q1⟩=>hc pins s1 σ H1 vs us Q I1 r1 q1) he hpl
theorem ER (hc:Yi X (.type T) r)(hg:Gl X x)(hm:X.mg x=none)(hv:bootBuiltins x=some (.type T))(ha:PA X (e::es) t)(hn:x≠"__name__":=by decide)(hdb:(x==("__debug__":Str))=false:=by decide)
  (he:He X e es:=by rfl)(hpl:Hp1 X pos es:=by rfl):PE X (.Call (.Name x p) (e::es) [] pos) (tCB r t):=by
 intro pins s σ H Q I h;refine wpAny_Call_Name_kw (Wd I hg hm hv ?_ hn hdb);exact PyProof.Rows.callWith_type1 (thn (ha pos pins s σ H _ I h) λus s1 ⟨vs,H1,I1,r1,q1⟩=>hc pins s1 σ H1 vs us Q I1 r1 q1) he hpl
end
end L2
namespace HT
open PySem PyProof.Rows
section
open PySem.SeqAt
open PySem.AutoSeq1 (wpAny_loadPart')
open PySem.MeetsSeq PySem.MeetsSeq2 PySem.MeetsSeq3
end
def sIx (n d:Nat):Option Int->Nat
 | none=>d
 | some v=>if v<0 then (v+(n:Int)).toNat else min v.toNat n
theorem sIx_none (n d:Nat):sIx n d none=d:=rfl
theorem sIx_nat (n d k:Nat):sIx n d (some (k:Int))=min k n:=by
 show (if (k:Int)<0 then ((k:Int)+(n:Int)).toNat else min (k:Int).toNat n)=min k n;rw[if_neg (by omega),zG]
end HT
namespace L2
open PySem PySem.Spec PyProof.Rows
abbrev TO:=St->Hp->(Option Int->Hp->Prop)->Prop
def PO (X:Cx)(e:Option Expr)(t:TO):Prop:=
 ∀(pins:LA)(s:Shared)(σ:St)(H:Hp)(Q:Option Int->Hp->Prop),Inv X pins σ H s->t σ H Q->
  wpAny (mX X) X.A (evalPart e X.env) (λu s'=>∃o H',Inv X pins σ H' s'/\IsPart u o/\Q o H') X.xe s
def Dr:TO:=λ_ H Q=>Q none H
def tPart (t:TE):TO:=λσ H Q=>t σ H λx H1=>∃i,x=.int i/\Q (some i) H1
theorem Dk:∀ {us:List Value},Zq (ns.map V.int) us->IntsAre us ns:=by
 induction ns with
 | nil=>intro us r;rw[List.map_nil] at r;cases r;exact .nil
 | cons n ns ih=>
  intro us r;cases r with
  | cons r1 r2=>
   obtain⟨t,e⟩:=r1;subst e;exact .cons n t (ih r2)
section
variable {X:Cx}{e:Expr}{te:TE}{lo hi:Option Expr}{tl th:TO}{pos p2:Pos}
theorem GL:PO X none Dr:=by
 intro pins s σ H Q I h;exact wpAny_pure ⟨none,H,I,.none,h⟩
theorem Et (h:PE X e te):PO X (some e) (tPart te):=by
 intro pins s σ H Q I hw;refine thn (h pins s σ H _ I hw) λu s1 ⟨x,H1,I1,r1,q1⟩=>?_
 obtain⟨i,rfl,q⟩:=q1;obtain⟨t,rfl⟩:=r1;exact⟨some i,H1,I1,.int i t,q⟩
def SlR (X:Cx)(r:V->Option Int->Option Int->Hp->VK->Prop):Prop:=
 ∀(pins:LA)(s:Shared)(σ:St)(H:Hp)(x:V)(v vl vu:Value)(lo hi:Option Int)(sl:Addr)(Q:VK),Inv X pins σ H s->Zs x v->s.heap.IsSliceOf sl vl vu .none->IsPart vl lo->IsPart vu hi->r x lo hi H Q->
  ∃T id,typeLookup (.type T) "__getitem__"=pure (some (.builtin id))/\s.TypeIs v T/\wpAny (mX X) X.A (getItem v (.ref sl)) (EP X pins σ Q) X.xe s
def tSl (r:V->Option Int->Option Int->Hp->VK->Prop)(te:TE)(tl th:TO):TE:=λσ H Q=>te σ H λx H1=>tl σ H1 λl H2=>th σ H2 λu H3=>r x l u H3 Q
theorem Kz {r:V->Option Int->Option Int->Hp->VK->Prop}(hr:SlR X r)(he:PE X e te)(hl:PO X lo tl)(hu:PO X hi th):PE X (.Subscript e (.Slice lo hi none p2) pos) (tSl r te tl th):=by
 intro pins s σ H Q I h;refine Subscript_ (thn (he pins s σ H _ I h) λv s1 ⟨x,H1,I1,r1,q1⟩=>?_);refine wpAny_Slice (thn (hl pins s1 σ H1 _ I1 q1) λvl s2 ⟨l,H2,I2,pl,q2⟩=>thn (hu pins s2 σ H2 _ I2 q2) λvu s3 ⟨u,H3,I3,pu,q3⟩=>?_);refine wpAny_pure ?_;have I4:Inv X pins σ H3 { s3 with heap:=s3.heap.push { cls:=.type "slice",data:=.fields #[vl,vu,.none] } }:=I3.kept λb ob q=>Heap.get?_push_of_some _ q
 obtain⟨T,id,hT,ht,hg⟩:=hr pins { s3 with heap:=s3.heap.push { cls:=.type "slice",data:=.fields #[vl,vu,.none] } } σ H3 x v vl vu l u s3.heap.objs.size Q I4 r1 (Heap.IsSliceOf.new ..) pl pu q3;exact tail_any ht hT hg (by with_unfolding_all rfl)
def UE (xs:List V)(lo hi:Option Int):List V:=(xs.drop (HT.sIx xs.length 0 lo)).take (HT.sIx xs.length xs.length hi-HT.sIx xs.length 0 lo)
theorem G7 (xs:List V)(lo hi:Option Int):(UE xs lo hi).length<=xs.length:=by
 unfold UE;rw[zK,wH];omega
end
def ixN (n:Nat)(i:Int):Option Nat:=if 0<=i then (if i<n then some i.toNat else none) else if -(n:Int)<=i then some (i+n).toNat else none
def atI {α:Type}(xs:List α)(i:Int):Option α:=(ixN xs.length i).bind λj=>xs[j]?
theorem Ld (h:ixN n i=some j):seqIndex? i n=some j/\j<n/\-(n:Int)<=i/\i<n:=by
 unfold ixN at h;by_cases h0:0<=i
 .rw[if_pos h0] at h;by_cases h1:i<n
  .rw[if_pos h1] at h;have e:i.toNat=j:=Option.some.inj h;exact⟨by rw[seqIndex_of h0 h1,e],by omega,by omega,h1⟩
  .rw[if_neg h1] at h;cases h
 .rw[if_neg h0] at h;by_cases h1:-(n:Int)<=i
  .rw[if_pos h1] at h;have e:(i+n).toNat=j:=Option.some.inj h;exact⟨by rw[seqIndex_neg (by omega) h1,e],by omega,h1,by omega⟩
  .rw[if_neg h1] at h;cases h
theorem MQ (h:atI xs i=some v):∃j,seqIndex? i xs.length=some j/\xs[j]?=some v/\j<xs.length/\-(xs.length:Int)<=i/\i<xs.length:=by
 unfold atI at h;cases e:ixN xs.length i with
 | none=>rw[e] at h;cases h
 | some j=>
  rw[e] at h;obtain⟨h1,h2,h3,h4⟩:=Ld e;exact⟨j,h1,h,h2,h3,h4⟩
theorem YC {α:Type}{xs:List α}{j:Nat}{v:α}(h:xs[j]?=some v):atI xs (j:Int)=some v:=by
 have hj:j<xs.length:=(zA.mp h).1
 have e:ixN xs.length (j:Int)=some j:=by
  unfold ixN;rw[if_pos (by omega),if_pos (by omega)];simp
 unfold atI;rw[e];exact h
def VV (b:Expr):Prop:=∀o i,subscripted b false o i=operate [o,i] (getItem o i)
def IxR (X:Cx)(r:R2):Prop:=
 ∀(value slice:Expr)(pins:LA)(s:Shared)(σ:St)(H:Hp)(x y:V)(v u:Value)(Q:VK),Inv X pins σ H s->Zs x v->Zs y u->r x y H Q->
  subscripted slice false v u=operate [v,u] (getItem v u)->wpAny (mX X) X.A (subscriptTail value slice v u) (EP X pins σ Q) X.xe s
def MtR (X:Cx)(id:String)(r:V->List V->Hp->VK->Prop):Prop:=
 ∀(pins:LA)(s:Shared)(σ:St)(H:Hp)(x:V)(xs:List V)(v:Value)(us:List Value)(Q:VK),Inv X pins σ H s->Zs x v->Zq xs us->r x xs H Q->
  wpAny (mX X) X.A (call (.builtin id) (v::us)) (EP X pins σ Q) X.xe s
section
variable {X:Cx}{a b:Expr}{ta tb:TE}{pos:Pos}
theorem pe_ix {r:R2}(hr:IxR X r)(ha:PE X a ta)(hb:PE X b tb)(hs:VV b):PE X (.Subscript a b pos) (tOp r ta tb):=by
 intro pins s σ H Q I h;exact Subscript_ (binT ha hb I h λv u s2 x y H2 I2 rx ry q=>hr a b pins s2 σ H2 x y v u Q I2 rx ry q (hs _ _))
def rIxL (K:Fg):R2:=λx y H Q=>∃p xs i v,x=.ref p/\y=.int i/\SqL K H p xs/\atI xs i=some v/\Q v H
def rIxT (K:Fg):R2:=λx y H Q=>∃p xs i v,x=.ref p/\y=.int i/\SqT K H p xs/\atI xs i=some v/\Q v H
theorem Bf:IxR X (rIxL X.K):=by
 intro value slice pins s σ H x y v u Q I rx ry h hs;obtain⟨p,xs,i,z,rfl,rfl,hq,he,q⟩:=h;cases rx;obtain⟨t,rfl⟩:=ry;obtain⟨aY,r,pl,hz⟩:=I.list hq;obtain⟨j,h1,h2,h3,h4,h5⟩:=MQ he;obtain⟨w,ew,rw'⟩:=r.get h2;have hl:=r.length
 have hn:=U6
 have aZ:EP X pins σ Q w s:=⟨z,H,I,rw',q⟩;by_cases h0:0<=i
 .have hj:i.toNat=j:=by
   rw[seqIndex_of h0 h5] at h1;exact Option.some.inj h1
  exact item_listR pl.isList h0 (by omega) (by rw[hj];simpa using ew) aZ hs
 .have hj:(i+(aY.toArray.size:Int)).toNat=j:=by
   rw[seqIndex_neg (by omega) h4] at h1;rw[zN,<- hl];exact Option.some.inj h1
  exact subscriptTail_builtinR pl.isList.typeIs slot_list_getitem.lookup
   (wpAny_getItem_list_neg pl.isList (by omega) (by rw[zN]<;>omega) (by omega) (by rw[hj];simpa using ew) ⟨rfl,aZ⟩) hs
theorem C7:IxR X (rIxT X.K):=by
 intro value slice pins s σ H x y v u Q I rx ry h hs;obtain⟨p,xs,i,z,rfl,rfl,hq,he,q⟩:=h;cases rx;obtain⟨t,rfl⟩:=ry;obtain⟨aY,r,pl,hz⟩:=I.tuple hq;obtain⟨j,h1,h2,h3,h4,h5⟩:=MQ he;obtain⟨w,ew,rw'⟩:=r.get h2;have hl:=r.length
 have hn:=U6
 have aZ:EP X pins σ Q w s:=⟨z,H,I,rw',q⟩;exact subscriptTail_builtinR pl.typeIs slot_tuple_getitem.lookup
  (getItem_tuple pl (by omega) (by omega) (by rw[zN,<- hl];exact h1) (by simpa using ew) ⟨rfl,aZ⟩) hs
theorem EX (aY:List Value)(n j:Nat)(u:Value):Obj.mapSeq (·.setIfInBounds j u) { cls:=.type "list",data:=.seq aY.toArray n }={ cls:=.type "list",data:=.seq (aY.set j u).toArray n }:=by
 simp[Obj.mapSeq]
theorem Inv.lst {pins:LA}{σ:St}{H:Hp}{s:Shared}{p:Addr}{xs:List V}(I:Inv X pins σ H s)(h:H p=some (.lst xs)):
  ∃(aY:List Value)(n:Nat),Zq xs aY/\s.heap.get? p=some { cls:=.type "list",data:=.seq aY.toArray n }/\xs.length<=sizeLine:=by
 obtain⟨z,aY,n,r,e⟩:=I.hok p _ h;exact⟨aY,n,r,e,z⟩
theorem Inv.lstUpd {pins:LA}{σ:St}{H:Hp}{s:Shared}{p:Addr}{xs ys:List V}{aY its':List Value}{n n':Nat}{f:Obj->Obj}(I:Inv X pins σ H s)(h:H p=some (.lst xs))
  (ho:s.heap.get? p=some { cls:=.type "list",data:=.seq aY.toArray n })(hf:f { cls:=.type "list",data:=.seq aY.toArray n }={ cls:=.type "list",data:=.seq its'.toArray n' })(r:Zq ys its')(hz:ys.length<=sizeLine)(t:Nat):
  Inv X pins σ (upd H p (.lst ys)) { s with heap:=s.heap.update p f,toks:=t }:=by
 have e:(s.heap.update p f).get? p=some { cls:=.type "list",data:=.seq its'.toArray n' }:=by
  rw[Heap.get?_update_self f ho (by rw[hf]<;>rfl),hf]
 refine I.write (by rw[h];trivial) (.inl rfl) (λb u hb q=>(Heap.get?_update_other _ _ (Ne.symm hb)).trans q) ⟨_,e⟩ ?_;exact⟨hz,its',n',r,e⟩
def rSetL:V->V->V->Hp->(Hp->Prop)->Prop:=λo i v H Q=>∃p xs k j,o=.ref p/\i=.int k/\H p=some (.lst xs)/\ixN xs.length k=some j/\Q (upd H p (.lst (xs.set j v)))
theorem DU:PSet X rSetL:=by
 intro pins s σ H o i v ov iv u Q I ro ri rv h;obtain⟨p,xs,k,j,rfl,rfl,hp,hj,q⟩:=h;cases ro;obtain⟨t,rfl⟩:=ri;obtain⟨aY,n,r,ho,hz⟩:=I.lst hp;obtain⟨h1,h2,h3,h4⟩:=Ld hj;have hl:=r.length
 have hn:=U6
 have I':Inv X pins σ (upd H p (.lst (xs.set j v))) { s with heap:=s.heap.update p (Obj.mapSeq (·.setIfInBounds j u)) }:=
  I.lstUpd hp ho (EX aY n j u) (r.set rv j) (by rw[yA];exact hz) s.toks
 by_cases h0:0<=k
 .have hk:k.toNat=j:=by
   rw[seqIndex_of h0 h4] at h1;exact Option.some.inj h1
  exact W.ki_setAt ho h0 (by omega) (by rw[zN,<- hl];exact h4) (by rw[hk];exact⟨_,I',q⟩)
 .have hk:(k+(aY.toArray.size:Int)).toNat=j:=by
   rw[seqIndex_neg (by omega) h3] at h1;rw[zN,<- hl];exact Option.some.inj h1
  exact W.ki_setBack ho (by omega) (by rw[zN,<- hl];exact h3) (by omega) (by rw[hk];exact⟨_,I',q⟩)
theorem Dq (lo hi:Option Int)(n:Nat):(sliceBounds lo hi none n).1=((HT.sIx n 0 lo:Nat):Int)/\(sliceBounds lo hi none n).2.1=((HT.sIx n n hi:Nat):Int)/\(sliceBounds lo hi none n).2.2=1:=by
 refine⟨?_,?_,rfl⟩
 .cases lo with
  | none=>simp[sliceBounds,HT.sIx]
  | some i=>
   simp only[sliceBounds,HT.sIx,uP,show (1:Int) > 0 by decide,if_true];by_cases h:i<0
   .simp only[h,if_true]<;>omega
   .simp only[h,if_false]<;>omega
 .cases hi with
  | none=>simp[sliceBounds,HT.sIx]
  | some i=>
   simp only[sliceBounds,HT.sIx,uP,show (1:Int) > 0 by decide,if_true];by_cases h:i<0
   .simp only[h,if_true]<;>omega
   .simp only[h,if_false]<;>omega
theorem Cu (aY:List Value)(lo hi:Option Int):slicePick aY.toArray lo hi none=((aY.drop (HT.sIx aY.length 0 lo)).take (HT.sIx aY.length aY.length hi-HT.sIx aY.length 0 lo)).toArray:=by
 obtain⟨h1,h2,h3⟩:=Dq lo hi aY.toArray.size;unfold slicePick;rw[h1,h2,h3];simp only[sliceRange_one,pick_run,zN]<;>rfl
def rSlL (K:Fg):V->Option Int->Option Int->Hp->VK->Prop:=λx lo hi H Q=>∃a xs,x=.ref a/\SqL K H a xs/\∀p,H p=none->Q (.ref p) (upd H p (.lst (UE xs lo hi)))
theorem FU:SlR X (rSlL X.K):=by
 intro pins s σ H x v vl vu lo hi sl Q I rx hs pl pu h;obtain⟨a,xs,rfl,hx,q⟩:=h;cases rx;obtain⟨aY,r,ht,hz⟩:=I.list hx;have aO:=r.length;refine⟨"list",_,slot_list_getitem.lookup,ht.isList.typeIs,?_⟩;refine wpAny_getItem_list_slice ht.isList hs pl pu .none (by simp) ?_ (by rw[zN]<;>omega);rw[Cu,<- aO];refine⟨.ref s.heap.objs.size,_,I.laid (λb ob q=>Heap.get?_push_of_some _ q) (zB _) ?_,rfl,q _ (I.hok.fresh (zB _))⟩;exact⟨yF (G7 xs lo hi) hz,_,0,(r.drop (HT.sIx xs.length 0 lo)).take (HT.sIx xs.length xs.length hi-HT.sIx xs.length 0 lo),Heap.get?_push_size _ rfl⟩
def Rl:V->Bool
 | .non=>true
 | .bl _=>true
 | .int _=>true
 | .str _=>true
 | _=>false
def eqV:V->V->Bool
 | .non,.non=>true
 | .bl a,.bl b=>a==b
 | .bl a,.int b=>(if a then 1 else 0)==b
 | .int a,.bl b=>a==(if b then 1 else 0)
 | .int a,.int b=>a==b
 | .str a,.str b=>a==b
 | _,_=>false
theorem KP (ry:Zs y u)(rx:Zs x v)(fy:Rl y=true)(fx:Rl x=true):SeqAt.EqAt A s u v (eqV y x):=by
 cases y with
 | non=>
  cases ry;cases x with
  | non=>cases rx;exact SeqAt.EqAt.same _
  | bl b=>cases rx;exact SeqAt.EqAt.none_bool b
  | int b=>obtain⟨t,rfl⟩:=rx;exact SeqAt.EqAt.none_int b t
  | str b=>obtain⟨t,rfl⟩:=rx;exact SeqAt.EqAt.none_str b t
  | _=>exact absurd (show false=true from fx) zO
 | bl a=>
  cases ry;cases x with
  | non=>cases rx;exact SeqAt.EqAt.bool_none a
  | bl b=>cases rx;exact SeqAt.EqAt.bool_bool a b
  | int b=>obtain⟨t,rfl⟩:=rx;exact SeqAt.EqAt.bool_int a b t
  | str b=>obtain⟨t,rfl⟩:=rx;exact SeqAt.EqAt.bool_str a b t
  | _=>exact absurd (show false=true from fx) zO
 | int a=>
  obtain⟨t',rfl⟩:=ry;cases x with
  | non=>cases rx;exact SeqAt.EqAt.int_none a t'
  | bl b=>cases rx;exact SeqAt.EqAt.int_bool a t' b
  | int b=>obtain⟨t,rfl⟩:=rx;exact SeqAt.EqAt.int_int a t' b t
  | str b=>obtain⟨t,rfl⟩:=rx;exact SeqAt.EqAt.int_str a t' b t
  | _=>exact absurd (show false=true from fx) zO
 | str a=>
  obtain⟨t',rfl⟩:=ry;cases x with
  | non=>cases rx;exact SeqAt.EqAt.str_none a t'
  | bl b=>cases rx;exact SeqAt.EqAt.str_bool a t' b
  | int b=>obtain⟨t,rfl⟩:=rx;exact SeqAt.EqAt.str_int a t' b t
  | str b=>obtain⟨t,rfl⟩:=rx;exact SeqAt.EqAt.str_str a t' b t
  | _=>exact absurd (show false=true from fx) zO
 | _=>exact absurd (show false=true from fy) zO
theorem Gf:Yi X (.builtin "len") (λxs H Q=>∃p ys,xs=[.ref p]/\(SqL X.K H p ys\/SqT X.K H p ys)/\Q (.int ys.length) H):=by
 intro pins s σ H xs us Q I r h;obtain⟨p,ys,rfl,hq,q⟩:=h;obtain⟨u,rfl,rx⟩:=WA r;cases rx;have hn:=U6;rcases hq with hq|hq
 .obtain⟨aY,r',pl,hz⟩:=I.list hq;have aO:=r'.length;exact Calls.call_len_list pl.isList (by simp only[zN]<;>omega) ⟨.int ys.length,H,I.tok _,⟨s.toks+1,by rw[zN,aO]⟩,q⟩
 .obtain⟨aY,r',pl,hz⟩:=I.tuple hq;have aO:=r'.length;exact len_tuple pl (by simp only[zN]<;>omega) ⟨.int ys.length,H,I.tok _,⟨s.toks+1,by rw[zN,aO]⟩,q⟩
theorem Dz:Yi X (.type "list") (λxs H Q=>∃p ys,xs=[.ref p]/\(SqL X.K H p ys\/SqT X.K H p ys)/\∀l,H l=none->Q (.ref l) (upd H l (.lst ys))):=by
 intro pins s σ H xs us Q I r h;obtain⟨p,ys,rfl,hq,q⟩:=h;obtain⟨u,rfl,rx⟩:=WA r;cases rx;have aZ:∀(aY:List Value),Zq ys aY->ys.length<=sizeLine->∀(h':Heap)(c':Nat),(∀b o',s.heap.get? b=some o'->h'.get? b=some o')->
   h'.get? s.heap.objs.size=some { cls:=.type "list",dict:=none,data:=.seq aY.toArray c',slots:=#[] }->EP X pins σ Q (.ref s.heap.objs.size) { s with heap:=h' }:=λaY r' hz h' c' kp e=>
  ⟨.ref s.heap.objs.size,_,I.laid kp (zB _) (show YH X.prog X.w _ h' _ (.lst ys) from ⟨hz,aY,c',r',e⟩),rfl,q _ (I.hok.fresh (zB _))⟩
 rcases hq with hq|hq
 .obtain⟨aY,r',pl,hz⟩:=I.list hq;have aO:=r'.length;obtain⟨o,ho,hc,n,hd⟩:=pl.isList;exact call_list_seq p (.inl rfl) ho hc hd (λh' c' kp e=>aZ aY r' hz h' c' kp e) (by simp only[zN]<;>omega)
 .obtain⟨aY,r',pl,hz⟩:=I.tuple hq;have aO:=r'.length;obtain⟨o,ho,hc,n,hd⟩:=pl;exact call_list_seq p (.inr rfl) ho hc hd (λh' c' kp e=>aZ aY r' hz h' c' kp e) (by simp only[zN]<;>omega)
def tyV (K:Fg)(T:String)(x:V)(H:Hp):Prop:=match x with
 | .str _=>T="str"
 | .int _=>T="int"
 | .ref p=>(T="list"/\∃xs,SqL K H p xs)\/(T="tuple"/\∃o,K.lookup p=some o/\o.cls=.type "tuple"/\o.dict=none)\/
   (T="dict"/\((∃aW,H p=some (.dK aW))\/∃aW,H p=some (.dT aW)))\/(T="set"/\∃S n,H p=some (.set S n))
 | _=>False
theorem LS (I:Inv X pins σ H s)(r:Zs x v)(ty:tyV X.K T x H):
  s.TypeIs v T/\∀a,v=.ref a->∃ob,s.heap.get? a=some ob/\ob.dict=none:=by
 cases x with
 | str z=>
  obtain⟨t,rfl⟩:=r;cases (show T="str" from ty);exact⟨typeIs_str s z t,λ_ e=>nomatch e⟩
 | int i=>
  obtain⟨t,rfl⟩:=r;cases (show T="int" from ty);exact⟨typeIs_int s i t,λ_ e=>nomatch e⟩
 | ref p=>
  cases r;rcases ty with ⟨rfl,xs,hq⟩|⟨rfl,o,hk,hc,hd⟩|⟨rfl,hk⟩|⟨rfl,S,n,hk⟩
  .obtain⟨aY,_,pl,_⟩:=I.list hq;refine⟨pl.isList.typeIs,λa e=>?_⟩;cases e;obtain⟨o,n,e,c,hd,_⟩:=pl;exact⟨o,e,hd⟩
  .refine⟨⟨o,I.kIn p o hk,hc⟩,λa e=>?_⟩;cases e;exact⟨o,I.kIn _ o hk,hd⟩
  .have z:∃o,s.heap.get? p=some o/\o.ExactDict:=by
    rcases hk with ⟨aW,hk⟩|⟨aW,hk⟩
    .obtain⟨_,_,_,_,o,_,_,e,ex,_⟩:=I.hok p _ hk;exact⟨o,e,ex⟩
    .obtain⟨_,_,_,_,o,_,_,e,ex,_⟩:=I.hok p _ hk;exact⟨o,e,ex⟩
   obtain⟨o,e,ex⟩:=z;refine⟨⟨o,e,ex.1⟩,λa e2=>?_⟩;cases e2;exact⟨o,e,ex.2.1⟩
  .obtain⟨o,_,_,_,e,ex,_⟩:=I.hok p _ hk;refine⟨⟨o,e,ex.1⟩,λa e2=>?_⟩;cases e2;exact⟨o,e,ex.2.1⟩
 | _=>exact False.elim ty
def tBM0 (K:Fg)(T:String)(r:V->List V->Hp->VK->Prop)(to:TE):TE:=λσ H Q=>to σ H λx H1=>tyV K T x H1/\r x [] H1 Q
def tBM (K:Fg)(T:String)(r:V->List V->Hp->VK->Prop)(to:TE)(t:TA):TE:=λσ H Q=>to σ H λx H1=>tyV K T x H1/\t σ H1 λxs H2=>r x xs H2 Q
variable {o e:Expr}{es:List Expr}{to:TE}{t:TA}{name:Str}{aK aJ:Pos}{T id:String}{r:V->List V->Hp->VK->Prop}
theorem Jm (pa:PlainAttrs T)(slot:Slot T name id)(hty:typeOf (.builtin id)=pure (.type "method_descriptor"))(hm:MtR X id r)(ho:PE X o to)
  (hbase:attributeBase o name X.env (eval o X.env)=eval o X.env:=by rfl)(hline:(aK.endLine==aJ.line)=true:=by rfl):PE X (.Call (.Attribute o name aK) [] [] aJ) (tBM0 X.K T r to):=by
 intro pins s σ H Q I h;refine wpAny_Call_method0_late hbase hline (thn (ho pins s σ H _ I h) λv s1 ⟨x,H1,I1,r1,ty,q1⟩=>?_);obtain⟨h1,h2⟩:=LS I1 r1 ty;exact⟨T,id,pa,slot,hty,h1,h2,Calls.callWith_builtin rfl (PySem.evalArgs_none (hm pins s1 σ H1 x [] v [] Q I1 r1 .nil q1))⟩
theorem NH (pa:PlainAttrs T)(slot:Slot T name id)(hty:typeOf (.builtin id)=pure (.type "method_descriptor"))(hm:MtR X id r)(ho:PE X o to)(ha:PA X (e::es) t)
  (hbase:attributeBase o name X.env (eval o X.env)=eval o X.env:=by rfl)
  (hfew:((backTo aJ (starEach (e::es) X.env)).all (λx=>!x.1)&&(backToKw aJ (keywordEach [] X.env)).all (λx=>x.1.isSome)
  &&decide ((e::es).length+([]:List Keyword).length+(if ([]:List Keyword).isEmpty then 0 else 1)<30))=true:=by rfl)
  (hline:(aK.endLine==aJ.line)=true:=by rfl)(hs:starEach (e::es) X.env=(false,eval e X.env)::starEach es X.env:=by rfl)(hplain:(backTo aJ (starEach es X.env)).any (·.1)=false:=by rfl):
  PE X (.Call (.Attribute o name aK) (e::es) [] aJ) (tBM X.K T r to t):=by
 intro pins s σ H Q I h;refine wpAny_Call_method_late hbase hfew hline rfl (thn (ho pins s σ H _ I h) λv s1 ⟨x,H1,I1,r1,ty,q1⟩=>?_);obtain⟨h1,h2⟩:=LS I1 r1 ty;refine⟨T,id,pa,slot,hty,h1,h2,?_⟩;have hA:=ha aJ pins s1 σ H1 _ I1 q1;rw[hs] at hA ⊢;refine Calls.callWith_builtin (by show (false||(backTo aJ (starEach es X.env)).any (·.1))=false;rw[hplain]<;>rfl) (Calls.evalArgs_plain ?_);exact thn hA λus s2 ⟨vs,H2,I2,r2,q2⟩=>hm pins s2 σ H2 x vs v us Q I2 r1 r2 q2
end
def MtM (X:Cx)(id:String)(r:V->List V->Hp->VK->Prop):Prop:=
 ∀(pins:LA)(s:Shared)(σ:St)(H:Hp)(x:V)(xs:List V)(v:Value)(us:List Value)(Q:VK),Inv X pins σ H s->Zs x v->Zq xs us->r x xs H Q->
  wpAny (mX X) X.A (call (.builtin id) (v::us)) (EP X pins σ Q) X.xe s
theorem Zq.one:∀ {x:V} {us:List Value},Zq [x] us->∃u,us=[u]/\Zs x u
 | _,_,.cons r .nil=>⟨_,rfl,r⟩
theorem Zq.rep (h:Zq xs us):∀k:Nat,Zq (List.replicate k xs).flatten (List.replicate k us).flatten
 | 0=>.nil
 | k+1=>by
  exact Zq.append h (Zq.rep h k)
theorem MD (aY:List Value):∀(k:Nat)(acc:List Value),
  List.foldl (λx1 x2=>x1++x2) acc.toArray (List.replicate k aY.toArray)=(acc++(List.replicate k aY).flatten).toArray
 | 0,acc=>by simp
 | k+1,acc=>by
  have e:acc.toArray++aY.toArray=(acc++aY).toArray:=by simp
  have e2:(acc++aY)++(List.replicate k aY).flatten=acc++(List.replicate (k+1) aY).flatten:=by
   rw[wJ,vG,xD]
  rw[<- e2,<- MD aY k (acc++aY),<- e,wJ,List.foldl_cons]
theorem Inv.lset {aY its':List Value}{n:Nat}{f:Array Value->Array Value}{t':Nat}(I:Inv X pins σ H s)(hH:H l=some (.lst xs))
  (e:s.heap.get? l=some { cls:=.type "list",data:=.seq aY.toArray n })(hf:f aY.toArray=its'.toArray)(hv:Zq ys its')(hz:ys.length<=sizeLine):
  Inv X pins σ (upd H l (.lst ys)) { s with heap:=s.heap.update l (Obj.mapSeq f),toks:=t' }:=by
 have q:=PySem.IsL.update e f;rw[hf] at q;refine I.write (by rw[hH];exact trivial) (.inl rfl) (λb' u hb hu=>(Heap.get?_update_other s.heap (Obj.mapSeq f) (Ne.symm hb)).trans hu) ⟨_,q⟩ ?_;exact⟨hz,its',_,hv,q⟩
theorem Inv.lnew (I:Inv X pins σ H s)(hv:Zq ys aY)(hz:ys.length<=sizeLine):
  Inv X pins σ (upd H s.heap.objs.size (.lst ys)) { s with heap:=s.heap.push { cls:=.type "list",data:=.seq aY.toArray },toks:=t' }:=
 I.laid (λ_ _ q=>Heap.get?_push_of_some _ q) (zB _) ⟨hz,aY,0,hv,Heap.get?_push_size _ rfl⟩
theorem Inv.fresh (I:Inv X pins σ H s):H s.heap.objs.size=none:=I.hok.fresh (zB _)
theorem Inv.lstM (I:Inv X pins σ H s)(hH:H l=some (.lst xs)):xs.length<=sizeLine/\∃(aY:List Value)(n:Nat),Zq xs aY/\xs.length=aY.length/\s.heap.get? l=some { cls:=.type "list",data:=.seq aY.toArray n }:=by
 obtain⟨z,aY,n,r,e⟩:=I.hok l _ hH;exact⟨z,aY,n,r,r.length,e⟩
theorem IG {n:Nat}(h:n<=sizeLine):Builtin.List.listTooLong n=false:=by
 exact decide_eq_false (by omega)
def Gv:V->List V->Hp->VK->Prop:=λx vs H Q=>∃l xs y,x=.ref l/\vs=[y]/\H l=some (.lst xs)/\xs.length<sizeLine/\Q .non (upd H l (.lst (xs++[y])))
theorem Oh:MtM X "list.append" Gv:=by
 intro pins s σ H x vs v us Q I rx rv h;obtain⟨l,xs,y,rfl,rfl,hH,hz,q⟩:=h;cases rx;obtain⟨u,rfl,ru⟩:=rv.one;obtain⟨z,aY,n,r,hl,e⟩:=I.lstM hH;refine call_meets F.slot_list_append ⟨_,e,rfl⟩ F.entry_list_append (F.args_list_append_2 _ _) (PySem.list_append l aY.toArray n u (by rw[zN];omega)) ⟨e,?_⟩;refine⟨.non,_,I.lset hH e (by simp) (r.append (.cons ru .nil)) ?_,rfl,q⟩;rw[yB,List.length_singleton];omega
def rCat:R2:=λx y H Q=>∃l b xs zs,x=.ref l/\y=.ref b/\H l=some (.lst xs)/\H b=some (.lst zs)/\xs.length+zs.length<=sizeLine/\∀p,H p=none->Q (.ref p) (upd H p (.lst (xs++zs)))
theorem HI:OpR X (binaryOp .Add) rCat:=by
 intro pins s σ H x y v u Q I rx ry h;obtain⟨l,b,xs,zs,rfl,rfl,hH,hB,hz,q⟩:=h;cases rx;cases ry;obtain⟨z,aY,n,r,hl,e⟩:=I.lstM hH;obtain⟨z2,its2,n2,r2,hl2,e2⟩:=I.lstM hB;refine PySem.P.add_list e e2 ?_ (by rw[zN,zN];omega);have ea:aY.toArray++its2.toArray=(aY++its2).toArray:=by simp
 rw[ea];exact⟨.ref _,_,I.lnew (r.append r2) (by rw[yB];omega),rfl,q _ I.fresh⟩
def rRep:R2:=λx y H Q=>∃l k xs,x=.ref l/\y=.int k/\H l=some (.lst xs)/\-(2^63)<=k/\k<2^63/\xs.length*k.toNat<=sizeLine/\
 ∀p,H p=none->Q (.ref p) (upd H p (.lst (List.replicate k.toNat xs).flatten))
theorem F0 (xs:List α)(k:Nat):(List.replicate k xs).flatten.length=k*xs.length:=by
 induction k with
 | zero=>simp
 | succ k ih=>rw[wJ,vG,yB,ih,Nat.succ_mul,Nat.add_comm]
theorem Hb:OpR X (binaryOp .Mult) rRep:=by
 intro pins s σ H x y v u Q I rx ry h;obtain⟨l,k,xs,rfl,rfl,hH,h1,h2,hz,q⟩:=h;cases rx;obtain⟨t,rfl⟩:=ry;obtain⟨z,aY,n,r,hl,e⟩:=I.lstM hH;have aO:aY.toArray.size*k.toNat<=sizeLine:=by rw[zN,<- hl];exact hz
 have hcap:¬ aY.toArray.size*k.toNat > (2^63-1)/8:=by
  have:(sizeLine:Nat)<=(2^63-1)/8:=by decide
  omega
 have hfit:¬ (!Builtin.List.listFitsIndex k)=true:=by
  rw[fitsIndex_both h1 h2];exact zO
 have hlong:¬ Builtin.List.listTooLong (aY.toArray.size*k.toNat)=true:=by
  rw[IG aO];exact zO
 have hnew:List.foldl (λx1 x2=>x1++x2) #[] (List.replicate (if aY.toArray.isEmpty=true then 0 else k.toNat) aY.toArray)=(List.replicate k.toNat aY).flatten.toArray:=by
  have f0:∀m:Nat,List.foldl (λx1 x2=>x1++x2) #[] (List.replicate m aY.toArray)=(List.replicate m aY).flatten.toArray:=λm=>by
   have:=MD aY m [];exact this
  rw[f0];cases aY with
  | nil=>simp
  | cons a r'=>rw[if_neg (by simp)]
 refine wpAny_binaryOp_repeat_ref ⋯ ⟨_,e,rfl⟩ (λs'=>typeIs_int s' k t) noFill_list_mul F.fills_int_mul F.slot_int_rmul repeat_list F.slot_int_index.lookup
  (call_meets F.slot_int_rmul (typeIs_int s k t) F.entry_int_rmul (F.args_int_rmul_2 _ _) (int___rmul___int_list k t l aY.toArray n)
   ⟨e,rfl,⟨_,e,rfl⟩,call_meets F.slot_list_mul ⟨_,e,rfl⟩ F.entry_list_mul (F.args_list_mul_2 _ _) (AutoListH.list___mul___list_int_3 l aY.toArray n k t hfit hcap hlong) ⟨e,?_⟩⟩)
 rw[hnew];exact⟨.ref _,_,I.lnew (r.rep k.toNat) (by rw[F0,Nat.mul_comm];exact hz),rfl,q _ I.fresh⟩
section
variable {prog:Program}{w:World}{A:Around}{E:Value->Shared->Prop}{s:Shared}
set_option maxRecDepth 100000 in
end
section
variable {X:Cx}
end
end L2
namespace Att
open PySem PySem.W PySem.Calls PyProof.Rows
theorem Br {P:Params}{h:Heap}:∀(ns:List Int)(vs:List Value),WellAll P h vs (ns.map WData.int)->IntsAre vs ns:=by
 intro ns
 induction ns with
 | nil=>
  intro vs w;cases w;exact .nil
 | cons n ns ih=>
  intro vs w;cases w with
  | cons a b=>
   cases a;exact .cons _ _ (ih _ b)
theorem Bj {l:OpenLaw}{n:Nat}(hn:l.most=some n){P:Params}{h:Heap}{args:List WData}{vals:List Value}
  (hpre:l.row.toRowW.claim.pre args=true)(hwl:WellAll P h vals args):
  ∃a vs ns,vals=[Value.ref a]/\args=[WData.list (ns.map WData.int)]/\h.get? a=some { cls:=.type "list",data:=.seq vs.toArray }/\IntsAre vs ns/\ns.length<=n:=by
 have hsh:WShape.hasAll [] args [.list .int]=true:=(pre_splitW hpre).1
 have hc:l.pre.holds [] { args:=args }=true:=(pre_splitW hpre).2;obtain⟨d,r,rfl,h1,h2⟩:=hasAllW_cons hsh;obtain rfl:=hasAllW_nil h2;obtain⟨xs,rfl,h3⟩:=hasW_list h1;obtain⟨ns,rfl⟩:=items_int h3;have aO:ns.length<=n:=by
  have h4:(WTm.not (.lt (.lit (.int (n:Int))) (.len (.arg 0)))).holds [] { args:=[.list (ns.map .int)] }=true:=by
   have h4:=(holds_andW hc).1;rw[hn] at h4;exact h4
  have h5:=condW_of h4 (w_not (w_lt w_lit (w_len_list (w_arg rfl))));refine Nat.le_of_not_lt λq=>?_
  first
   | (rw[decide_eq_true q'] at h5;exact absurd h5 ⋯)
   | (simp at h5;omega)
 cases hwl with
 | cons w1 w2=>
  cases w2;cases w1 with
  | list ho hall=>exact⟨_,_,ns,rfl,rfl,ho,Br ns _ hall,aO⟩
theorem LZ (l:OpenLaw)(args:List WData):l.row.toRowW.claim.post args (.bool true) args=true:=
 postW_of
  (show WShape.has [] (.bool true) .bool=true by first|rfl|decide|simp[WShape.has,WShape.arms,WShape.armsAll])
  (show (WTm.eq .res (.lit (.bool true))).value [] { args:=args,res:=some (.bool true),after:=args }=some (.bool (true==true)) from w_eq_bool (w_res rfl) w_lit) rfl
theorem attach_call {l:OpenLaw}{n:Nat}{q:Program}{aH:List Str}{XP:(Str->Option Value)->Heap->Prop}{YP:World->Heap->Prop}{d:DefRec}
  (hn:l.most=some n)(hdf:d.params.defaults=[])
  (call:∀(w:World)(s₀ s₁:Shared)(mg mb:Str->Option Value)(fa:Addr)(o:Obj)(pm cd doc:Value)(a:Addr)(vs:List Value)(ns:List Int),
   Ground q aH [] XP w s₀ mg mb s₁.heap->YP w s₁.heap->
   s₁.heap.get? fa=some o->o.data=.func (docDef d.name d.params d.body d.scope pm cd doc)->s₁.heap.CodeRec cd d.name->mg d.name=some (.ref fa)->
   s₁.heap.get? a=some { cls:=.type "list",data:=.seq vs.toArray }->IntsAre vs ns->ns.length<=n->s₁.gens=#[]->
   codeAny (model l.prog w) callerA (.call (.ref fa) ⟨[.ref a],[]⟩) (λr s'=>r=.ok (.ret (.bool true))/\OldK s₁.heap s'.heap/\s'.os=s₁.os/\AllBare s'.gens) s₁):
  WalkO q aH XP YP l.row.toRowW d [] (λf vs=>PySem.call f vs):=by
 intro w s₀ s₁ mg mb G Y fa o pm cd doc dV kV ho hd hcd hD hmg hg args vals as hpre hlay hrd hwl hlo;obtain rfl:dV=.none:=Dflts.none hD hdf;obtain rfl:kV=.none:=Dflts.noKw hD;obtain⟨a,vs,ns,rfl,rfl,hobj,hints,aO⟩:=Bj hn hpre hwl;refine enter_call (codeAny_mono (call w s₀ s₁ mg mb fa o pm cd doc a vs ns G Y ho (fd_plain hd) hcd hmg hobj hints aO hg) λr s' hq=>?_);obtain⟨rfl,h2,h3,h4⟩:=hq;exact⟨.inl ⟨.bool true,.bool true,[],rfl,λ_=>rfl,.bool true,LZ l _,λ_=>⟨List.Pairwise.nil,λ_ hm=>(nomatch hm)⟩⟩,h2,h3,h4⟩
section
variable {prog:Program}{w:World}{A:Around}{E:Value->Shared->Prop}{s:Shared}{K:Frag}
end
end Att
namespace L2
open PySem PySem.Spec PyProof.Rows
theorem SD:∀ {vs:List Value} {ns:List Int},IntsAre vs ns->Zq (ns.map V.int) vs
 | _,_,.nil=>.nil
 | _,_,.cons n t h=>.cons ⟨t,rfl⟩ (SD h)
end L2
namespace L2
open PySem PySem.Spec PyProof.Rows
abbrev CX0:CXT:=λ_ _ _ _ _ _=>False
structure Fun (K:Fg)(x qual:Str)(st:Stmt)(f:Addr)(fd:FuncData):Prop where
 ex:∃(oc:Value)(od:Option Addr)(kV doc pm:Value)(an:Option Addr)(cdv ct:Value)(osl:Array (Option Value)),
  fd=W.fnOf x qual (W4 st) (YS st) (Zw st) .none kV doc pm an cdv ct/\K.lookup f=some ⟨oc,od,.func fd,osl⟩/\W.codeIn K cdv qual=true
 kp:W.keepIn K (.ref f)=true
section
variable {P:Program}{w:World}{K:Fg}{mg:Str->Option Value}{base:Heap}
theorem Fun.ok {x qual:Str}{st:Stmt}{f:Addr}{fd:FuncData}{N ps:List Str}{k:Nat}{sp:Sp}(F:Fun K x qual st f fd)(S:YF N ps (Zw st))(len:∀vs H Q E,sp vs H Q E->vs.length=ps.length)
  (hbody:∀(cdv:Value)(A:Around)(outer:List Env)(s:Shared)(H:Hp)(vs:List V)(Q:VK)(E:XK),ZG k (A.deeper (envOfC qual (Zw st) s.heap.objs.size f cdv))->sp vs H Q E->
   ∃t,PSs (Xl CX0 P w K mg base N qual (Zw st) f cdv A outer s H E).nox (YS st) t/\t { nx:=λ_ H'=>Q .non H',rt:=Q } (X4 N vs) H):Yc P w K mg base CX0 (k+1) f fd ps sp:=by
 obtain⟨oc,od,kV,doc,pm,an,cdv,ct,osl,rfl,lk,hcd⟩:=F.ex;refine OE lk hcd S len λA outer s H vs Q E hr hsp=>?_
 obtain⟨t,h,q⟩:=hbody cdv A outer s H vs Q E hr hsp;exact⟨t,h.nox,q⟩
theorem Fun.binds {x qual:Str}{st:Stmt}{f:Addr}{fd:FuncData}{ps:List Str}(F:Fun K x qual st f fd)
  (h:∀(kV doc pm:Value)(an:Option Addr)(cdv ct:Value)(us:List Value),us.length=ps.length->bindArgs (W.fnOf x qual (W4 st) (YS st) (Zw st) .none kV doc pm an cdv ct) ⟨us,[]⟩=pure (ps.zip us)):YG K fd ps []:=by
 obtain⟨oc,od,kV,doc,pm,an,cdv,ct,osl,rfl,lk,hcd⟩:=F.ex;exact .all (h kV doc pm an cdv ct)
theorem TJ {x qual:Str}{st:Stmt}{f:Addr}{oc:Value}{od an:Option Addr}{osl:Array (Option Value)}{kV doc pm cdv ct:Value}(l:K.lookup f=some ⟨oc,od,.func (W.fnOf x qual (W4 st) (YS st) (Zw st) .none kV doc pm an cdv ct),osl⟩)
  (c:W.codeIn K cdv qual=true)(k:W.keepIn K (.ref f)=true):Fun K x qual st f (W.fnOf x qual (W4 st) (YS st) (Zw st) .none kV doc pm an cdv ct):=⟨⟨oc,od,kV,doc,pm,an,cdv,ct,osl,rfl,l,c⟩,k⟩
end
theorem Uu (h:n<=1000):n<sizeLine:=xP h ⋯
section
variable {X:Cx}
theorem pv (i:Nat)(hN:X.N[i]?=some x:=by rfl)(hv:Vis X.env.scope x:=by first|exact Or.inl rfl|exact Or.inr (Or.inl rfl)|exact Or.inr (Or.inr rfl))(hd:(x==("__debug__":Str))=false:=by decide)(hcd:(x==("__classdict__":Str))=false:=by decide):PE X (.Name x pos) (tVar i):=Nc hN hv hd hcd
end
theorem Y0 {A B:Prop}(h:B):if false=true then A else B:=by
 exact h
theorem YQ {A B:Prop}(h:A):if true=true then A else B:=by
 exact h
theorem ite2 {c A B:Prop} [Decidable c] (h1:c->A)(h2:¬ c->B):if c then A else B:=by
 by_cases h:c
 .rw[if_pos h];exact h1 h
 .rw[if_neg h];exact h2 h
section
variable {κ:Type} [DecidableEq κ]
end
section
variable {P:Program}{w:World}{H:Hp}{h:Heap}{a:Addr}
end
section
variable {X:Cx}{pins:LA}{σ:St}{H:Hp}{s:Shared}{a:Addr}{y v:V}{u r:Value}{o:Option V}{A:Around}{E:Value->Shared->Prop}
end
section
variable {X:Cx}{pins:LA}{σ:St}{H:Hp}{s:Shared}{a:Addr}{aW:List (Key×V)}{k:Key}{u:Value}{A:Around}{E:Value->Shared->Prop}
end
section
variable {X:Cx}{o i e value:Expr}{pos pos' tpos:Pos}{td ty tv:TE}
end
section
variable {X:Cx}{pos:Pos}
end
structure M1 (X:Cx)(o:Expr)(m:Str)(aK:Pos)(e:Expr)(aJ:Pos):Prop where
 base:attributeBase o m X.env (eval o X.env)=eval o X.env
 few:((backTo aJ (starEach [e] X.env)).all (λx=>!x.1)&&(backToKw aJ (keywordEach [] X.env)).all (λx=>x.1.isSome)
 &&decide (([e]:List Expr).length+([]:List Keyword).length+(if ([]:List Keyword).isEmpty then 0 else 1)<30))=true
 line:(aK.endLine==aJ.line)=true
 trees:backTo aJ (starEach [e] X.env)=[(false,eval e X.env)]
structure M2 (X:Cx)(o:Expr)(m:Str)(aK:Pos)(e f:Expr)(aJ:Pos):Prop where
 base:attributeBase o m X.env (eval o X.env)=eval o X.env
 few:((backTo aJ (starEach [e,f] X.env)).all (λx=>!x.1)&&(backToKw aJ (keywordEach [] X.env)).all (λx=>x.1.isSome)
 &&decide (([e,f]:List Expr).length+([]:List Keyword).length+(if ([]:List Keyword).isEmpty then 0 else 1)<30))=true
 line:(aK.endLine==aJ.line)=true
 trees:backTo aJ (starEach [e,f] X.env)=[(false,eval e X.env),(false,eval f X.env)]
section
variable {X:Cx}{pins:LA}{σ:St}{H:Hp}{s:Shared}{a:Addr}{y d:V}{u r:Value}{o:Option V}{A:Around}{E:Value->Shared->Prop}
end
section
variable {X:Cx}{o e f:Expr}{aK aJ:Pos}{td ty tx:TE}
end
section
variable {X:Cx}{pins:LA}{σ:St}{H:Hp}{s:Shared}{a:Addr}{aW:List (Key×V)}{A:Around}{E:Value->Shared->Prop}
end
section
variable {X:Cx}{pins:LA}{σ:St}{H:Hp}{s:Shared}{a:Addr}{y:V}{u:Value}{A:Around}{E:Value->Shared->Prop}
end
end L2
namespace L3
open PySem PySem.Spec PyProof.Rows L2
abbrev St:=L2.St
inductive D where
 | non|bl (b:Bool)|int (i:Int)|str (x:Str)|tup (xs:List D)|ref (n:Nat)|exc (c:Addr)
inductive Ob where
 | lst (xs:List D)|frz (xs:List D)
  | ins (C:Addr) (fs:List (Str×D))
  | dct (aW:List (List Key×D))
  | tpl (ws:List Str)
  | dck (aW:List (Key×D))
  | cod (P:Addr) (pos:Pos) (q:Str)
abbrev Sto:=List Ob
abbrev Ev:=List (Option D)
abbrev DK:=D->Sto->Prop
abbrev TDE:=Ev->Sto->DK->Prop
abbrev TDT:=Ev->Sto->(Bool->Sto->Prop)->Prop
abbrev TDA:=Ev->Sto->(List D->Sto->Prop)->Prop
structure Xw where
 nx:Ev->Sto->Prop
 rt:DK
 bk:Ev->Sto->Prop:=λ_ _=>False
 ct:Ev->Sto->Prop:=λ_ _=>False
abbrev TDS:=Xw->Ev->Sto->Prop
def isX (a c:Addr):HO:=.ext λh=>∃o,h.get? a=some o/\o.cls=.ref c
inductive Rp (r:List Addr)(H:Hp):D->V->Prop
 | non:Rp r H .non .non
 | bl (b:Bool):Rp r H (.bl b) (.bl b)
 | int (i:Int):Rp r H (.int i) (.int i)
 | str (x:Str):Rp r H (.str x) (.str x)
 | tup {ds:List D} {xs:List V} {a:Addr}:H a=some (.tup xs)->ds.length=xs.length->(∀(i:Nat)(d:D)(v:V),ds[i]?=some d->xs[i]?=some v->Rp r H d v)->Rp r H (.tup ds) (.ref a)
 | ref {n:Nat} {a:Addr}:r[n]?=some a->Rp r H (.ref n) (.ref a)
 | exc {c a:Addr}:H a=some (isX a c)->Rp r H (.exc c) (.ref a)
def Rps (r:List Addr)(H:Hp)(ds:List D)(vs:List V):Prop:=ds.length=vs.length/\∀(i:Nat)(d:D)(v:V),ds[i]?=some d->vs[i]?=some v->Rp r H d v
structure Ext (r r':List Addr)(H H':Hp):Prop where
 adr:∀(n:Nat)(a:Addr),r[n]?=some a->r'[n]?=some a
 tup:∀a xs,H a=some (.tup xs)->H' a=some (.tup xs)
 xc:∀a φ,H a=some (.ext φ)->H' a=some (.ext φ)
theorem Ext.refl:Ext r r H H:=⟨λ_ _ h=>h,λ_ _ h=>h,λ_ _ h=>h⟩
theorem Ext.trans (a:Ext r r' H H')(b:Ext r' r2 H' H2):Ext r r2 H H2:=⟨λn x h=>b.adr n x (a.adr n x h),λx y h=>b.tup x y (a.tup x y h),λx y h=>b.xc x y (a.xc x y h)⟩
theorem Rp.ext (h:Rp r H d v)(e:Ext r r' H H'):Rp r' H' d v:=by
 induction h with
 | non=>exact .non
 | bl b=>exact .bl b
 | int i=>exact .int i
 | str x=>exact .str x
 | tup h l _ ih=>exact .tup (e.tup _ _ h) l ih
 | ref h=>exact .ref (e.adr _ _ h)
 | exc h=>exact .exc (e.xc _ _ h)
theorem Rps.ext (h:Rps r H ds vs)(e:Ext r r' H H'):Rps r' H' ds vs:=⟨h.1,λi d v h1 h2=>(h.2 i d v h1 h2).ext e⟩
theorem Rps.nil:Rps r H [] []:=⟨rfl,λi d v h=>by simp at h⟩
theorem Rps.cons (h:Rp r H d v)(t:Rps r H ds vs):Rps r H (d::ds) (v::vs):=by
 refine⟨by simp[t.1],λi x y h1 h2=>?_⟩;cases i with
 | zero=>
  simp at h1 h2;subst h1;subst h2
  exact h
 | succ i=>exact t.2 i x y (by simpa using h1) (by simpa using h2)
theorem Rps.tail (h:Rps r H (d::ds) (y::vs)):Rp r H d y/\Rps r H ds vs:=
 ⟨h.2 0 d y rfl rfl,by simpa using h.1,λi a b h1 h2=>h.2 (i+1) a b (by simpa using h1) (by simpa using h2)⟩
theorem Rps.uncons (h:Rps r H (d::ds) vs):∃v vs',vs=v::vs'/\Rp r H d v/\Rps r H ds vs':=by
 cases vs with
 | nil=>exact absurd h.1 (by simp)
 | cons v vs'=>exact⟨v,vs',rfl,h.tail⟩
theorem Rps.unnil (h:Rps r H [] vs):vs=[]:=by
 cases vs with
 | nil=>rfl
 | cons v vs'=>exact absurd h.1 (by simp)
theorem Rps.get {i:Nat}(h:Rps r H ds vs)(e:ds[i]?=some d):∃v,vs[i]?=some v/\Rp r H d v:=by
 have hi:i<ds.length:=(zA.mp e).1
 have hv:i<vs.length:=by rw[<- h.1];exact hi
 exact⟨vs[i],by simp[hv],h.2 i d vs[i] e (by simp[hv])⟩
theorem Rps.get' {i:Nat}(h:Rps r H ds vs)(e:vs[i]?=some v):∃d,ds[i]?=some d/\Rp r H d v:=by
 have hv:i<vs.length:=(zA.mp e).1
 have hi:i<ds.length:=by rw[h.1];exact hv
 exact⟨ds[i],by simp[hi],h.2 i ds[i] v (by simp[hi]) e⟩
theorem Rps.snoc (h:Rps r H ds vs)(t:Rp r H d v):Rps r H (ds++[d]) (vs++[v]):=by
 refine⟨by simp[h.1],λi x y h1 h2=>?_⟩;by_cases hi:i<ds.length
 .rw[zL hi] at h1;rw[zL (by rw[<- h.1];exact hi)] at h2;exact h.2 i x y h1 h2
 .have hl:i<(ds++[d]).length:=(zA.mp h1).1
  have e:i=ds.length:=by simp at hl;omega
  subst e;rw[h.1,yL (zB _)] at h2;simp at h1 h2;subst h1;subst h2
  exact t
theorem Rps.tupR (h:Rps r H ds vs)(e:H a=some (.tup vs)):Rp r H (.tup ds) (.ref a):=.tup e h.1 h.2
theorem Rp.untup {vs:V}(h:Rp r H (.tup ds) vs):∃a xs,vs=.ref a/\H a=some (.tup xs)/\Rps r H ds xs:=by
 cases h with
 | tup e l f=>exact⟨_,_,rfl,e,l,f⟩
def SqF (K:Fg)(H:Hp)(a:Addr)(xs:List V):Prop:=
 (∃o,H a=some (.frz o (.lst xs)))\/
  ∃(o:Obj)(aY:Array Value)(n:Nat),K.lookup a=some o/\o.cls=.type "list"/\o.dict=none/\o.data=.seq aY n/\aY.size<=sizeLine/\Zq xs aY.toList
theorem SqF.sql {K:Fg}{H:Hp}{a:Addr}{xs:List V}(h:SqF K H a xs):SqL K H a xs:=by
 rcases h with ⟨o,h⟩|h
 .exact .inl (.inr ⟨o,h⟩)
 .exact .inr h
def FR {α:Type}(r:List Addr)(H:Hp)(fs:List (α×D))(fs':List (α×V)):Prop:=fs.map (·.1)=fs'.map (·.1)/\Rps r H (fs.map (·.2)) (fs'.map (·.2))
theorem FR.ext {α:Type}{r r':List Addr}{H H':Hp}{fs:List (α×D)}{fs':List (α×V)}(h:FR r H fs fs')(e:Ext r r' H H'):FR r' H' fs fs':=⟨h.1,h.2.ext e⟩
theorem FR.nil {α:Type}{r:List Addr}{H:Hp}:FR (α:=α) r H [] []:=⟨rfl,Rps.nil⟩
def Tab (pos:Pos)(q:Str)(H:Hp)(ps:Array Value):Prop:=TriplesOk ps.toList/\(codeAmong pos ps.toList=none\/∃c,codeAmong pos ps.toList=some (.ref c)/\H c=some (.ext λh=>h.CodeRec (.ref c) q))
theorem Tab.same {pos:Pos}{q:Str}{H H':Hp}{ps:Array Value}(h:Tab pos q H ps)(e:∀b φ,H b=some (.ext φ)->H' b=some (.ext φ)):Tab pos q H' ps:=⟨h.1,h.2.imp id λ⟨c,a,b⟩=>⟨c,a,e _ _ b⟩⟩
def ObR (K:Fg)(r:List Addr)(H:Hp)(a:Addr):Ob->Prop
 | .lst ds=>∃xs,H a=some (.lst xs)/\Rps r H ds xs
 | .frz ds=>∃xs,SqF K H a xs/\Rps r H ds xs
 | .ins C fs=>∃dx fs',H a=some (.ins C dx fs')/\FR r H fs fs'
 | .dct aW=>∃kvs',H a=some (.dT kvs')/\FR r H aW kvs'
 | .dck aW=>∃kvs',H a=some (.dK kvs')/\FR r H aW kvs'
 | .tpl ws=>∃(o:Obj)(aY:Array Value)(n:Nat),K.lookup a=some o/\o.cls=.type "tuple"/\o.data=.seq aY n/\aY.size<=sizeLine/\Zq (ws.map V.str) aY.toList
 | .cod P pos q=>a=P/\∃ps,H a=some (.tbl ps)/\Tab pos q H ps
def WE:Ob->Bool
 | .frz _=>false
 | .tpl _=>false
 | _=>true
structure ZV (K:Fg)(r:List Addr)(S:Sto)(H:Hp):Prop where
 len:r.length=S.length
 ob:∀(n:Nat)(a:Addr)(o:Ob),r[n]?=some a->S[n]?=some o->ObR K r H a o
 nd:∀(n m:Nat)(a:Addr)(o u:Ob),r[n]?=some a->r[m]?=some a->S[n]?=some o->S[m]?=some u->WE o=true->WE u=true->n=m
def Zk:Ob->List D
 | .lst ds=>ds
 | .frz ds=>ds
 | _=>[.exc 0]
def Y5:Ob->Option Ob
 | .lst ds=>some (.lst ds)
 | .frz ds=>some (.frz ds)
 | _=>none
def lAt (S:Sto)(n:Nat):Option Ob:=(S[n]?).bind Y5
theorem EJ (h:Y5 o=some u):u=o:=by
 cases o<;>simp[Y5] at h<;>exact h.symm
theorem Xb {S:Sto}{n:Nat}{o:Ob}(h:lAt S n=some o):S[n]?=some o/\Y5 o=some o:=by
  unfold lAt at h;cases q:S[n]? with
  | none=>
   rw[q] at h;cases h
  | some u=>
    rw[q] at h;have h':Y5 u=some o:=h
    have e:=EJ h';subst e;exact⟨rfl,h'⟩
theorem ZR {S:Sto}{n:Nat}{o:Ob}(h:S[n]?=some o)(hL:Y5 o=some o):lAt S n=some o:=by
 unfold lAt;rw[h];exact hL
section
variable {K:Fg}{r r':List Addr}{S:Sto}{H H':Hp}{n:Nat}{a p:Addr}
theorem ZV.at {o:Ob}(h:ZV K r S H)(e:S[n]?=some o):∃a,r[n]?=some a/\ObR K r H a o:=by
 have hn:n<S.length:=(zA.mp e).1
 have hr:n<r.length:=by rw[h.len];exact hn
 exact⟨r[n],by simp[hr],h.ob n r[n] o (by simp[hr]) e⟩
theorem ObR.list {o:Ob}(h:ObR K r H a o)(hL:Y5 o=some o):∃xs,SqL K H a xs/\Rps r H (Zk o) xs:=by
 cases o with
 | lst ds=>obtain⟨xs,e,q⟩:=h;exact⟨xs,SqL.of e,q⟩
 | frz ds=>obtain⟨xs,e,q⟩:=h;exact⟨xs,e.sql,q⟩
 | ins C fs=>cases hL
 | dct aW=>cases hL
 | dck aW=>cases hL
 | tpl ws=>cases hL
 | cod P pos q=>cases hL
theorem ObR.keep {o:Ob}(q:ObR K r H a o)(x:Ext r r' H H')(ha:∀u,H a=some u->H' a=some u):ObR K r' H' a o:=by
 cases o with
 | lst ds=>obtain⟨xs,h3,h4⟩:=q;exact⟨xs,ha _ h3,h4.ext x⟩
 | frz ds=>
  obtain⟨xs,h3,h4⟩:=q;refine⟨xs,?_,h4.ext x⟩;rcases h3 with ⟨o,h3⟩|h3
  .exact .inl ⟨o,ha _ h3⟩
  .exact .inr h3
 | ins C fs=>obtain⟨dx,fs',h3,h4⟩:=q;exact⟨dx,fs',ha _ h3,h4.ext x⟩
 | dct aW=>obtain⟨ks,h3,h4⟩:=q;exact⟨ks,ha _ h3,h4.ext x⟩
 | dck aW=>obtain⟨ks,h3,h4⟩:=q;exact⟨ks,ha _ h3,h4.ext x⟩
 | tpl ws=>exact q
 | cod P pos q'=>obtain⟨e,ps,h3,h4⟩:=q;exact⟨e,ps,ha _ h3,h4.same x.xc⟩
theorem ObR.own {o:Ob}(q:ObR K r H a o)(h:WE o=true):∃u,H a=some u/\(∀xs,u≠HO.tup xs)/\(∀φ,u≠HO.ext φ)/\∀z y,u≠HO.frz z y:=by
 cases o with
 | lst ds=>obtain⟨xs,h3,h4⟩:=q;exact⟨_,h3,(λ_ z=>by cases z),(λ_ z=>by cases z),(λ_ _ z=>by cases z)⟩
 | frz ds=>cases h
 | tpl ws=>cases h
 | ins C fs=>obtain⟨dx,fs',h3,h4⟩:=q;exact⟨_,h3,(λ_ z=>by cases z),(λ_ z=>by cases z),(λ_ _ z=>by cases z)⟩
 | dct aW=>obtain⟨ks,h3,h4⟩:=q;exact⟨_,h3,(λ_ z=>by cases z),(λ_ z=>by cases z),(λ_ _ z=>by cases z)⟩
 | dck aW=>obtain⟨ks,h3,h4⟩:=q;exact⟨_,h3,(λ_ z=>by cases z),(λ_ z=>by cases z),(λ_ _ z=>by cases z)⟩
 | cod P pos q'=>obtain⟨_,ps,h3,_⟩:=q;exact⟨_,h3,(λ_ z=>by cases z),(λ_ z=>by cases z),(λ_ _ z=>by cases z)⟩
theorem ZV.same (h:ZV K r S H)(e:∀b o,H b=some o->H' b=some o):ZV K r S H':=
 ⟨h.len,λn a o h1 h2=>(h.ob n a o h1 h2).keep ⟨λ_ _ q=>q,λa xs q=>e _ _ q,λa c q=>e _ _ q⟩ (e a),h.nd⟩
theorem XW {o:HO}(h:H p=none):∀b u,H b=some u->(upd H p o) b=some u:=λb u q=>by rw[ZT (WS q h)];exact q
theorem Tx (e:(r++[p])[n]?=some b):(n<r.length/\r[n]?=some b)\/(n=r.length/\b=p):=by
 by_cases hn:n<r.length
 .rw[zL hn] at e;exact .inl ⟨hn,e⟩
 .have hl:n<(r++[p]).length:=(zA.mp e).1
  have en:n=r.length:=by simp at hl;omega
  subst en;simp at e;exact .inr ⟨rfl,e.symm⟩
theorem ZV.pushO (h:ZV K r S H)(hp:H p=none)(keep:∀b u,H b=some u->H' b=some u)(q:Ext r (r++[p]) H H'->ObR K (r++[p]) H' p o):ZV K (r++[p]) (S++[o]) H'/\Ext r (r++[p]) H H':=by
 have x:Ext r (r++[p]) H H':=⟨λn a e=>by
  have hn:n<r.length:=(zA.mp e).1;rw[zL hn];exact e,λa ys e=>keep _ _ e,λa c e=>keep _ _ e⟩
 have sS:∀ {n:Nat} {u:Ob},n<r.length->(S++[o])[n]?=some u->S[n]?=some u:=λ{n u} hn e=>by
  rw[zL (by rw[<- h.len];exact hn)] at e;exact e
 refine⟨⟨by simp[h.len],λn a u h1 h2=>?_,λn m a u w h1 h2 h3 h4 o1 o2=>?_⟩,x⟩
 .rcases Tx h1 with ⟨hn,e⟩|⟨rfl,rfl⟩
  .exact(h.ob n a u e (sS hn h2)).keep x (keep a)
  .rw[h.len,yL (zB _)] at h2;simp at h2;subst h2;exact q x
 .rcases Tx h1 with ⟨hn,e⟩|⟨rfl,rfl⟩
  .rcases Tx h2 with ⟨hm,e'⟩|⟨rfl,rfl⟩
   .exact h.nd n m a u w e e' (sS hn h3) (sS hm h4) o1 o2
   .obtain⟨zs,h5,_⟩:=(h.ob n _ _ e (sS hn h3)).own o1;rw[hp] at h5;cases h5
  .rcases Tx h2 with ⟨hm,e'⟩|⟨rfl,_⟩
   .obtain⟨zs,h5,_⟩:=(h.ob m _ _ e' (sS hm h4)).own o2;rw[hp] at h5;cases h5
   .rfl
theorem ZV.push {ds:List D}{xs:List V}(h:ZV K r S H)(hp:H p=none)(q:Rps r H ds xs):ZV K (r++[p]) (S++[.lst ds]) (upd H p (.lst xs))/\Ext r (r++[p]) H (upd H p (.lst xs)):=
 h.pushO hp (XW hp) λx=>⟨xs,YK,q.ext x⟩
theorem ZV.setO (h:ZV K r S H)(hn:r[n]?=some a)(hS:S[n]?=some o)(ho:WE o=true)(ho':WE o'=true)(q:Ext r r H (upd H a u)->ObR K r (upd H a u) a o'):ZV K r (S.set n o') (upd H a u)/\Ext r r H (upd H a u):=by
 obtain⟨u0,h0,t1,t2,t3⟩:=(h.ob n a _ hn hS).own ho;have x:Ext r r H (upd H a u):=⟨λ_ _ e=>e,λb zs e=>by
  rw[ZT (QY e h0 (λz=>t1 zs z.symm))];exact e,λb c e=>by
  rw[ZT (QY e h0 (λz=>t2 c z.symm))];exact e⟩
 have hlt:n<S.length:=(zA.mp hS).1
 have off:∀ {m:Nat} {w:Ob},m≠n->(S.set n o')[m]?=some w->S[m]?=some w:=λ{m w} hm e=>by
  rw[zQ (Ne.symm hm)] at e;exact e
 refine⟨⟨by simp[h.len],λm b w h1 h2=>?_,λm k b w y h1 h2 h3 h4 o1 o2=>?_⟩,x⟩
 .by_cases hm:m=n
  .subst hm;rw[hn] at h1;cases h1
   rw[yS hlt] at h2;cases h2;exact q x
  .have h2':=off hm h2
   have q':=h.ob m b w h1 h2';by_cases hw:WE w=true
   .have hb:b≠a:=λz=>hm (by subst z;exact h.nd m n b w o h1 hn h2' hS hw ho)
    exact q'.keep x λz e=>by rw[ZT hb];exact e
   .cases w with
    | frz es=>
     obtain⟨zs,h3,h4⟩:=q';refine⟨zs,?_,h4.ext x⟩;rcases h3 with ⟨z,h3⟩|h3
     .exact .inl ⟨z,by rw[ZT (QY h3 h0 (λy=>t3 _ _ y.symm))];exact h3⟩
     .exact .inr h3
    | tpl ws=>exact q'
    | _=>exact absurd rfl hw
 .have back:∀ {j:Nat} {w:Ob},(S.set n o')[j]?=some w->WE w=true->∃y,S[j]?=some y/\WE y=true:=λ{j w} e ow=>by
   by_cases hj:j=n
   .subst hj;exact⟨o,hS,ho⟩
   .exact⟨w,off hj e,ow⟩
  obtain⟨us',h3',q3⟩:=back h3 o1;obtain⟨ws',h4',q4⟩:=back h4 o2;exact h.nd m k b us' ws' h1 h2 h3' h4' q3 q4
theorem ZV.set {ds ds':List D}{xs:List V}(h:ZV K r S H)(hn:r[n]?=some a)(hS:S[n]?=some (.lst ds))(q:Rps r H ds' xs):ZV K r (S.set n (.lst ds')) (upd H a (.lst xs))/\Ext r r H (upd H a (.lst xs)):=
 h.setO hn hS rfl rfl λx=>⟨xs,YK,q.ext x⟩
end
def Rs (r:List Addr)(H:Hp)(dl:Ev)(σ:St):Prop:=dl.length=σ.length/\∀(i:Nat)(d:D),dl[i]?=some (some d)->∃v,σ[i]?=some (some v)/\Rp r H d v
theorem Rs.ext {r r':List Addr}{H H':Hp}{dl:Ev}{σ:St}(h:Rs r H dl σ)(e:Ext r r' H H'):Rs r' H' dl σ:=⟨h.1,λi d q=>by
 obtain⟨v,h1,h2⟩:=h.2 i d q;exact⟨v,h1,h2.ext e⟩⟩
theorem Rs.set {r:List Addr}{H:Hp}{dl:Ev}{σ:St}{d:D}{v:V}(i:Nat)(h:Rs r H dl σ)(q:Rp r H d v):Rs r H (dl.set i (some d)) (σ.set i (some v)):=by
 refine⟨by simp[h.1],λj e hj=>?_⟩;by_cases hij:i=j
 .subst hij;have hl:i<dl.length:=by
   have:=(zA.mp hj).1;simpa using this
  rw[yS hl] at hj;cases hj;exact⟨v,by rw[yS (by rw[<- h.1];exact hl)],q⟩
 .rw[zQ hij] at hj;obtain⟨v',h1,h2⟩:=h.2 j e hj;exact⟨v',by rw[zQ hij];exact h1,h2⟩
structure Zx where
 ex:Ev->Addr->Sto->Prop
 w:St->XK
abbrev Zc (ex:Addr->Sto->Prop)(E:XK):Zx:=⟨λ_=>ex,λ_=>E⟩
def Vg (K:Fg)(Z:Zx)(r:List Addr)(H:Hp):Prop:=∀(dl:Ev)(σ:St)(c:Addr)(H':Hp)(r':List Addr)(S':Sto),Ext r r' H H'->Rs r' H' dl σ->ZV K r' S' H'->Z.ex dl c S'->Z.w σ (.ref c) none H'
theorem Vg.ext {K:Fg}{Z:Zx}{r r':List Addr}{H H':Hp}(h:Vg K Z r H)(e:Ext r r' H H'):Vg K Z r' H':=λdl σ c H2 r2 S2 x=>h dl σ c H2 r2 S2 (e.trans x)
structure Rel (K:Fg)(Z:Zx)(r:List Addr)(S:Sto)(H:Hp):Prop where
 b:ZV K r S H
 xw:Vg K Z r H
section
variable {K:Fg}{Z:Zx}{r r':List Addr}{S:Sto}{H H':Hp}{n:Nat}{a p:Addr}
theorem Rel.len (h:Rel K Z r S H):r.length=S.length:=h.b.len
theorem Rel.at {o:Ob}(h:Rel K Z r S H)(e:S[n]?=some o):∃a,r[n]?=some a/\ObR K r H a o:=h.b.at e
theorem Rel.same (h:Rel K Z r S H)(e:∀b o,H b=some o->H' b=some o):Rel K Z r S H':=⟨h.b.same e,h.xw.ext ⟨λ_ _ q=>q,λa xs q=>e _ _ q,λa c q=>e _ _ q⟩⟩
theorem Rel.push {ds:List D}{xs:List V}(h:Rel K Z r S H)(hp:H p=none)(q:Rps r H ds xs):Rel K Z (r++[p]) (S++[.lst ds]) (upd H p (.lst xs))/\Ext r (r++[p]) H (upd H p (.lst xs)):=by
 obtain⟨h1,h2⟩:=h.b.push hp q;exact⟨⟨h1,h.xw.ext h2⟩,h2⟩
theorem Rel.set {ds ds':List D}{xs:List V}(h:Rel K Z r S H)(hn:r[n]?=some a)(hS:S[n]?=some (.lst ds))(q:Rps r H ds' xs):Rel K Z r (S.set n (.lst ds')) (upd H a (.lst xs))/\Ext r r H (upd H a (.lst xs)):=by
 obtain⟨h1,h2⟩:=h.b.set hn hS q;exact⟨⟨h1,h.xw.ext h2⟩,h2⟩
end
def Ret (K:Fg)(Z:Zx)(r:List Addr)(H:Hp)(Q:DK)(Qv:VK):Prop:=∀v H' r' d S',Ext r r' H H'->Rel K Z r' S' H'->Rp r' H' d v->Q d S'->Qv v H'
theorem Ret.ext {K:Fg}{Z:Zx}{r r':List Addr}{H H':Hp}{Q:DK}{Qv:VK}(h:Ret K Z r H Q Qv)(e:Ext r r' H H'):Ret K Z r' H' Q Qv:=λv H2 r2 d S2 x=>h v H2 r2 d S2 (e.trans x)
inductive up (K:Fg)(Z:Zx)(t:TDE)(σ:St)(H:Hp)(Qv:VK):Prop
 | mk (r:List Addr) (dl:Ev) (S:Sto) (Q:DK) (rs:Rs r H dl σ) (bA:Rel K Z r S H) (h:t dl S Q) (ret:Ret K Z r H Q Qv):up K Z t σ H Qv
inductive upT (K:Fg)(Z:Zx)(t:TDT)(σ:St)(H:Hp)(Qb:Bool->Hp->Prop):Prop
 | mk (r:List Addr) (dl:Ev) (S:Sto) (Q:Bool->Sto->Prop) (rs:Rs r H dl σ) (bA:Rel K Z r S H) (h:t dl S Q) (ret:∀b H' r' S',Ext r r' H H'->Rel K Z r' S' H'->Q b S'->Qb b H'):upT K Z t σ H Qb
inductive upA (K:Fg)(Z:Zx)(t:TDA)(σ:St)(H:Hp)(Qv:List V->Hp->Prop):Prop
 | mk (r:List Addr) (dl:Ev) (S:Sto) (Q:List D->Sto->Prop) (rs:Rs r H dl σ) (bA:Rel K Z r S H) (h:t dl S Q) (ret:∀vs H' r' ds S',Ext r r' H H'->Rel K Z r' S' H'->Rps r' H' ds vs->Q ds S'->Qv vs H'):upA K Z t σ H Qv
structure UQ (K:Fg)(Z:Zx)(r:List Addr)(H:Hp)(E:Xw)(F:Wo):Prop where
 nx:∀σ' H' r' dl' S',Ext r r' H H'->Rs r' H' dl' σ'->Rel K Z r' S' H'->E.nx dl' S'->F.nx σ' H'
 bk:∀σ' H' r' dl' S',Ext r r' H H'->Rs r' H' dl' σ'->Rel K Z r' S' H'->E.bk dl' S'->F.bk σ' H'
 ct:∀σ' H' r' dl' S',Ext r r' H H'->Rs r' H' dl' σ'->Rel K Z r' S' H'->E.ct dl' S'->F.ct σ' H'
 rt:Ret K Z r H E.rt F.rt
theorem UQ.ext {K:Fg}{Z:Zx}{r r':List Addr}{H H':Hp}{E:Xw}{F:Wo}(h:UQ K Z r H E F)(e:Ext r r' H H'):UQ K Z r' H' E F:=
 ⟨λa b c d f x=>h.nx a b c d f (e.trans x),λa b c d f x=>h.bk a b c d f (e.trans x),λa b c d f x=>h.ct a b c d f (e.trans x),h.rt.ext e⟩
inductive upS (K:Fg)(Z:Zx)(t:TDS)(F:Wo)(σ:St)(H:Hp):Prop
 | mk (r:List Addr) (dl:Ev) (S:Sto) (E:Xw) (rs:Rs r H dl σ) (bA:Rel K Z r S H) (h:t E dl S) (ret:UQ K Z r H E F):upS K Z t F σ H
def PD (X:Cx)(Z:Zx)(e:Expr)(t:TDE):Prop:=PE X e (up X.K Z t)
def PDT (X:Cx)(Z:Zx)(e:Expr)(t:TDT):Prop:=PT X e (upT X.K Z t)
def PDW (X:Cx)(Z:Zx)(e:Expr)(t:TDT):Prop:=PW X e (upT X.K Z t)
def PDA (X:Cx)(Z:Zx)(es:List Expr)(t:TDA):Prop:=PA X es (upA X.K Z t)
def PDS (X:Cx)(Z:Zx)(st:Stmt)(t:TDS):Prop:=PS X st (upS X.K Z t)
def Yy (X:Cx)(Z:Zx)(st:List Stmt)(t:TDS):Prop:=PSs X st (upS X.K Z t)
section
variable {X:Cx}{Z:Zx}
theorem Z6 (h:PE X e t)(f:∀σ H Q,t' σ H Q->t σ H Q):PE X e t':=λpins s σ H Q I q=>h pins s σ H Q I (f σ H Q q)
theorem To (h:PT X e t)(f:∀σ H Q,t' σ H Q->t σ H Q):PT X e t':=λpins s σ H Q I q=>h pins s σ H Q I (f σ H Q q)
theorem OT (h:PW X e t)(f:∀σ H Q,t' σ H Q->t σ H Q):PW X e t':=λwh pins s σ H Q I q=>h wh pins s σ H Q I (f σ H Q q)
theorem MY (h:PA X e t)(f:∀σ H Q,t' σ H Q->t σ H Q):PA X e t':=λpos pins s σ H Q I q=>h pos pins s σ H Q I (f σ H Q q)
theorem YB {e:Stmt}{t t':TS}(h:PS X e t)(f:∀F σ H,t' F σ H->t F σ H):PS X e t':=λpins s σ H F I q=>h pins s σ H F I (f F σ H q)
theorem NA (h:PSs X e t)(f:∀F σ H,t' F σ H->t F σ H):PSs X e t':=λpins s σ H F I q=>h pins s σ H F I (f F σ H q)
theorem PDW.pt (h:PDW X Z e t):PDT X Z e t:=PW.pt h
def Xn (i:Nat):TDE:=λdl S Q=>match dl[i]? with
 | some (some d)=>Q d S
 | _=>False
def dC (d:D):TDE:=λ_ S Q=>Q d S
theorem Du (h:PE X e (tVar i)):PD X Z e (Xn i):=Z6 h λσ H Qv ⟨r,dl,S,Q,rs,bA,q,ret⟩=>by
 unfold Xn at q;split at q
 .rename_i d e;obtain⟨v,h1,h2⟩:=rs.2 i d e;exact⟨v,h1,ret v H r d S Ext.refl bA h2 q⟩
 .exact q.elim
theorem dv (i:Nat)(hN:X.N[i]?=some x:=by rfl)(hv:Vis X.env.scope x:=by first|exact Or.inl rfl|exact Or.inr (Or.inl rfl)|exact Or.inr (Or.inr rfl))(hd:(x==("__debug__":Str))=false:=by decide)(hcd:(x==("__classdict__":Str))=false:=by decide):PD X Z (.Name x pos) (Xn i):=Du (Nc hN hv hd hcd)
theorem Tg (h:PE X e (tC v))(q:∀r H,Rp r H d v):PD X Z e (dC d):=Z6 h λσ H Qv ⟨r,dl,S,Q,rs,bA,h,ret⟩=>ret v H r d S Ext.refl bA (q r H) h
theorem Ze {i j pos}:PD X Z (.Constant (.int i) j pos) (dC (.int i)):=Tg Eb λ_ _=>.int i
theorem LD {b j pos}:PD X Z (.Constant (.bool b) j pos) (dC (.bl b)):=Tg pe_bl λ_ _=>.bl b
theorem ZJ {j pos}:PD X Z (.Constant .none j pos) (dC .non):=Tg HL λ_ _=>.non
theorem ZS {x j pos}:PD X Z (.Constant (.str x) j pos) (dC (.str x)):=Tg HN λ_ _=>.str x
abbrev W2:=D->D->Sto->DK->Prop
abbrev W1:=D->Sto->DK->Prop
inductive upO (K:Fg)(Z:Zx)(w:W2)(x y:V)(H:Hp)(Qv:VK):Prop
 | mk (r:List Addr) (S:Sto) (dx dy:D) (Q:DK) (bA:Rel K Z r S H) (px:Rp r H dx x) (py:Rp r H dy y) (q:w dx dy S Q) (ret:Ret K Z r H Q Qv):upO K Z w x y H Qv
inductive upU (K:Fg)(Z:Zx)(w:W1)(x:V)(H:Hp)(Qv:VK):Prop
 | mk (r:List Addr) (S:Sto) (dx:D) (Q:DK) (bA:Rel K Z r S H) (px:Rp r H dx x) (q:w dx S Q) (ret:Ret K Z r H Q Qv):upU K Z w x H Qv
def dOp (w:W2)(ta tb:TDE):TDE:=λdl S Q=>ta dl S λx S1=>tb dl S1 λy S2=>w x y S2 Q
def dUn (w:W1)(ta:TDE):TDE:=λdl S Q=>ta dl S λx S1=>w x S1 Q
variable {a b c:Expr}{ta tb tc:TDE}{pos:Pos}
theorem SJ (h:up X.K Z (dOp w ta tb) σ H Qv):tOp (upO X.K Z w) (up X.K Z ta) (up X.K Z tb) σ H Qv:=by
 obtain⟨r,dl,S,Q,rs,bA,h,ret⟩:=h;exact⟨r,dl,S,_,rs,bA,h,λv H1 r1 dx S1 e1 aC p1 h1=>⟨r1,dl,S1,_,rs.ext e1,aC,h1,λv2 H2 r2 dy S2 e2 aE p2 h2=>⟨r2,S2,dx,dy,Q,aE,p1.ext e2,p2,h2,ret.ext (e1.trans e2)⟩⟩⟩
theorem Zh (ho:OpR X (binaryOp op) (upO X.K Z w))(ha:PD X Z a ta)(hb:PD X Z b tb):PD X Z (.BinOp a op b pos) (dOp w ta tb):=Z6 (pe_op ho ha hb) λ_ _ _ h=>SJ h
theorem XZ (ho:UnR X (unaryOp op) (upU X.K Z w))(ha:PD X Z a ta):PD X Z (.UnaryOp op a pos) (dUn w ta):=Z6 (pe_un ho ha) λσ H Qv ⟨r,dl,S,Q,rs,bA,h,ret⟩=>
 ⟨r,dl,S,_,rs,bA,h,λv H1 r1 dx S1 e1 aC p1 h1=>⟨r1,S1,dx,Q,aC,p1,h1,ret.ext e1⟩⟩
theorem XO (ho:OpR X (compareOp op) (upO X.K Z w))(ha:PD X Z a ta)(hb:PD X Z b tb)(hm:behindInMarks op b=false):PD X Z (.Compare a [op] [b] pos) (dOp w ta tb):=Z6 (Ef ho ha hb hm) λ_ _ _ h=>SJ h
theorem Vv {f:Value->Value->Sem Value}{r r':R2}(h:OpR X f r)(g:∀x y H Q,r' x y H Q->r x y H Q):OpR X f r':=λpins s σ H x y v u Q I rx ry q=>h pins s σ H x y v u Q I rx ry (g x y H Q q)
theorem De {f:Value->Sem Value}{r r':V->Hp->VK->Prop}(h:UnR X f r)(g:∀x H Q,r' x H Q->r x H Q):UnR X f r':=λpins s σ H x v Q I rx q=>h pins s σ H x v Q I rx (g x H Q q)
theorem PR {f:Value}{r r':List V->Hp->VK->Prop}(h:Yi X f r)(g:∀x H Q,r' x H Q->r x H Q):Yi X f r':=λpins s σ H xs us Q I rx q=>h pins s σ H xs us Q I rx (g xs H Q q)
def wI (C:Int->Int->Prop)(g:Int->Int->D):W2:=λx y S Q=>match x,y with
 | .int i,.int j=>C i j/\Q (g i j) S
 | _,_=>False
def wI0 (g:Int->Int->D):W2:=λx y S Q=>match x,y with
 | .int i,.int j=>Q (g i j) S
 | _,_=>False
theorem opD (h:OpR X f (rI C g))(hg:∀r H i j,Rp r H (g' i j) (g i j)):OpR X f (upO X.K Z (wI C g')):=
 Vv h λx y H Qv ⟨r,S,dx,dy,Q,bA,px,py,q,ret⟩=>by
  cases px<;>cases py<;>first
   | exact⟨_,_,rfl,rfl,q.1,ret _ _ _ _ _ Ext.refl bA (hg _ _ _ _) q.2⟩
   | exact(show False from q).elim
theorem VI (h:OpR X f (rI0 g))(hg:∀r H i j,Rp r H (g' i j) (g i j)):OpR X f (upO X.K Z (wI0 g')):=
 Vv h λx y H Qv ⟨r,S,dx,dy,Q,bA,px,py,q,ret⟩=>by
  cases px<;>cases py<;>first
   | exact⟨_,_,rfl,rfl,ret _ _ _ _ _ Ext.refl bA (hg _ _ _ _) q⟩
   | exact(show False from q).elim
abbrev wAdd:W2:=wI0 λi j=>.int (i+j)
abbrev wSub:W2:=wI0 λi j=>.int (i-j)
abbrev wMul:W2:=wI IntMulOk λi j=>.int (i*j)
def CFd (_ j:Int):Prop:=0<j/\j.natAbs.log2<9000
abbrev wFdiv:W2:=wI CFd λi j=>.int (i/j)
def CFn (_ j:Int):Prop:=j≠0/\j.natAbs.log2<9000
abbrev Fs:W2:=wI CFn λi j=>.int (i.fdiv j)
abbrev wMod:W2:=wI (λ_ j=>0<j) λi j=>.int (i%j)
abbrev wPow:W2:=wI RB λi j=>.int (i^j.toNat)
theorem ZW:OpR X (binaryOp .Add) (upO X.K Z wAdd):=VI JF λ_ _ _ _=>.int _
theorem Yx:OpR X (binaryOp .Sub) (upO X.K Z wSub):=VI Dp λ_ _ _ _=>.int _
theorem ZK:OpR X (binaryOp .Mult) (upO X.K Z wMul):=opD (opI λ_ _ _ _ _ _ _ hc q=>mul_int q hc) λ_ _ _ _=>.int _
theorem Xu:OpR X (binaryOp .FloorDiv) (upO X.K Z wFdiv):=opD (opI λi j _ _ _ _ _ hc q=>floordiv_int (by have h:0<j:=hc.1;omega) (by have h:0<j:=hc.1;rw[uQ i (by omega)];exact q) (.inl (PyProof.noPylong_of_log2 hc.2))) λ_ _ _ _=>.int _
theorem Ki:OpR X (binaryOp .FloorDiv) (upO X.K Z Fs):=opD (opI λ_ _ _ _ _ _ _ hc q=>floordiv_int hc.1 q (.inl (PyProof.noPylong_of_log2 hc.2))) λ_ _ _ _=>.int _
theorem Xh:OpR X (binaryOp .Mod) (upO X.K Z wMod):=opD F8 λ_ _ _ _=>.int _
theorem Co:OpR X (binaryOp .Pow) (upO X.K Z wPow):=opD HQ λ_ _ _ _=>.int _
abbrev wLt:W2:=wI0 λi j=>.bl (decide (i<j))
abbrev wLe:W2:=wI0 λi j=>.bl (decide (i<=j))
abbrev wGt:W2:=wI0 λi j=>.bl (decide (j<i))
abbrev wGe:W2:=wI0 λi j=>.bl (decide (j<=i))
theorem YU:OpR X (compareOp .Lt) (upO X.K Z wLt):=VI op_lt λ_ _ _ _=>.bl _
theorem UY:OpR X (compareOp .LtE) (upO X.K Z wLe):=VI op_le λ_ _ _ _=>.bl _
theorem W6:OpR X (compareOp .Gt) (upO X.K Z wGt):=VI op_gt λ_ _ _ _=>.bl _
theorem Q2:OpR X (compareOp .GtE) (upO X.K Z wGe):=VI op_ge λ_ _ _ _=>.bl _
def wNeg:W1:=λx S Q=>match x with
 | .int i=>Q (.int (-i)) S
 | _=>False
theorem XU:UnR X (unaryOp .USub) (upU X.K Z wNeg):=De J4 λx H Qv ⟨r,S,dx,Q,bA,px,q,ret⟩=>by
 cases px<;>first
  | exact⟨_,rfl,ret _ _ _ _ _ Ext.refl bA (.int _) q⟩
  | exact(show False from q).elim
end
def eqF:D->D->Option Bool
 | .non,.non=>some true
 | .bl i,.bl j=>some (i==j)
 | .int i,.int j=>some (decide (i=j))
 | .str i,.str j=>some (decide (i=j))
 | .non,.int _=>some false|.int _,.non=>some false|.non,.bl _=>some false|.bl _,.non=>some false|.non,.str _=>some false|.str _,.non=>some false
 | .int _,.str _=>some false|.str _,.int _=>some false|.bl _,.str _=>some false|.str _,.bl _=>some false
 | _,_=>none
def eqL (f:D->D->Option Bool):List D->List D->Option Bool
 | [],[]=>some true
 | x::xs,y::ys=>match f x y,eqL f xs ys with
  | some b,some c=>some (b&&c)
  | _,_=>none
 | _,_=>some false
def eqT (f:D->D->Option Bool):D->D->Option Bool
 | .tup xs,.tup ys=>eqL f xs ys
 | x,y=>eqF x y
abbrev eq1:D->D->Option Bool:=eqT eqF
abbrev eq2:D->D->Option Bool:=eqT eq1
def WJ (n:Nat)(f:D->D->Option Bool):Prop:=∀(X:Cx)(pins:LA)(σ:St)(H:Hp)(s:Shared)(r:List Addr)(A:Around)(dx dy:D)(x y:V)(u v:Value)(b:Bool),
 Inv X pins σ H s->A.units+n<cLine->Rp r H dx x->Rp r H dy y->Zs x u->Zs y v->f dx dy=some b->SeqAt.EqAt A s u v b
def Uk (f:D->D->Option Bool):Prop:=∀(r:List Addr)(H:Hp)(dx dy:D)(x:V)(b:Bool),Rp r H dx x->Rp r H dy x->f dx dy=some b->b=true
theorem VT:Uk eqF:=by
 intro r H dx dy x b px py e;cases px<;>cases py<;>simp[eqF] at e<;>first|exact e.symm|exact e
theorem LC {f:D->D->Option Bool}(hf:Uk f){r:List Addr}{H:Hp}:∀ {xs ys:List D} {vs:List V} {b:Bool},Rps r H xs vs->Rps r H ys vs->eqL f xs ys=some b->b=true
 | [],[],_,b,_,_,e=>by simp[eqL] at e;exact e
 | [],y::ys,vs,b,p,q,e=>by
  have h1:=p.unnil;subst h1;exact absurd q.1 (by simp)
 | x::xs,[],vs,b,p,q,e=>by
  have h1:=q.unnil;subst h1;exact absurd p.1 (by simp)
 | x::xs,y::ys,vs,b,p,q,e=>by
  obtain⟨v,vs',rfl,p1,p2⟩:=p.uncons;obtain⟨q1,q2⟩:=q.tail;unfold eqL at e;split at e
  .rename_i b1 c1 e1 e2;have h1:=hf r H x y v b1 p1 q1 e1
   have h2:=LC hf p2 q2 e2;subst h1;subst h2
   simp at e;exact e
  .cases e
theorem Nu (hf:Uk f):Uk (eqT f):=by
 intro r H dx dy x b px py e;cases px with
 | tup e1 l1 f1=>
  cases py with
  | tup e2 l2 f2=>
   rw[e1] at e2;cases e2
   exact LC hf ⟨l1,f1⟩ ⟨l2,f2⟩ e
  | ref h=>simp[eqT,eqF] at e
  | exc h=>simp[eqT,eqF] at e
 | non=>exact VT r H _ _ _ b .non py (by cases py<;>exact e)
 | bl i=>exact VT r H _ _ _ b (.bl i) py (by cases py<;>exact e)
 | int i=>exact VT r H _ _ _ b (.int i) py (by cases py<;>exact e)
 | str i=>exact VT r H _ _ _ b (.str i) py (by cases py<;>exact e)
 | ref h=>cases py<;>simp[eqT,eqF] at e
 | exc h=>cases py<;>simp[eqT,eqF] at e
theorem RA (n:Nat):WJ n eqF:=by
 intro X pins σ H s r A dx dy x y u v b I hu px py rx ry e;have aZ:∀ {x y:V},Zs x u->Zs y v->Rl x=true->Rl y=true->eqV x y=b->SeqAt.EqAt A s u v b:=λrx ry fx fy e'=>by
  subst e';exact KP rx ry fx fy
 cases px<;>cases py<;>simp[eqF] at e<;>refine aZ rx ry rfl rfl ?_<;>simp[eqV,e]<;>first|exact e|(subst e;simp)|skip
theorem Uh (I:Inv X pins σ H s)(h:H a=some (.tup xs)):∃aY:List Value,Zq xs aY/\IsTup s.heap a aY.toArray/\xs.length<=sizeLine:=I.tuple (SqT.of h)
def Wb (f:D->D->Option Bool)(xs ys:List D)(j:Nat):Bool:=match xs[j]?,ys[j]? with
 | some x,some y=>(f x y).getD false
 | _,_=>false
theorem NN:∀ {xs ys:List D} {b:Bool},eqL f xs ys=some b->(∀(j:Nat)(x y:D),xs[j]?=some x->ys[j]?=some y->∃c,f x y=some c)/\((List.range (min xs.length ys.length)).all (Wb f xs ys)&&xs.length==ys.length)=b
 | [],[],b,e=>by simp[eqL] at e;subst e;simp
 | [],y::ys,b,e=>by simp[eqL] at e;subst e;simp
 | x::xs,[],b,e=>by simp[eqL] at e;subst e;simp
 | x::xs,y::ys,b,e=>by
  unfold eqL at e;split at e
  .rename_i b1 c1 e1 e2;obtain⟨h1,h2⟩:=NN e2;refine⟨λj p q hp hq=>?_,?_⟩
   .cases j with
    | zero=>simp at hp hq;subst hp;subst hq;exact⟨b1,e1⟩
    | succ j=>exact h1 j p q (by simpa using hp) (by simpa using hq)
   .have z:min (x::xs).length (y::ys).length=min xs.length ys.length+1:=by simp[Nat.succ_min_succ]
    rw[z,List.range_succ_eq_map,List.all_cons,List.all_map];have e0:Wb f (x::xs) (y::ys) 0=b1:=by simp[Wb,e1]
    have es:(Wb f (x::xs) (y::ys) ∘ Nat.succ)=Wb f xs ys:=by funext j;simp[Wb]
    rw[e0,es];have e3:((x::xs).length==(y::ys).length)=(xs.length==ys.length):=by simp
    rw[e3,Bool.and_assoc,h2];simp at e;exact e
  .cases e
theorem QP {n:Nat}{f:D->D->Option Bool}(hf:WJ n f){X:Cx}{pins:LA}{σ:St}{H:Hp}{s:Shared}{r:List Addr}{A:Around}{xs ys:List D}{us vs:List V}{is js:List Value}{b:Bool}
  (I:Inv X pins σ H s)(hu:A.units+n<cLine)(p:Rps r H xs us)(q:Rps r H ys vs)(ri:Zq us is)(rj:Zq vs js)(e:eqL f xs ys=some b):
  (∀j (h1:j<is.toArray.size) (h2:j<js.toArray.size),SeqAt.EqAt A s is.toArray[j] js.toArray[j] (Wb f xs ys j))/\((List.range (min is.toArray.size js.toArray.size)).all (Wb f xs ys)&&is.toArray.size==js.toArray.size)=b:=by
 obtain⟨h1,h2⟩:=NN e;have l1:is.toArray.size=xs.length:=by rw[zN,<- ri.length,p.1]
 have l2:js.toArray.size=ys.length:=by rw[zN,<- rj.length,q.1]
 refine⟨λj hj1 hj2=>?_,by rw[l1,l2];exact h2⟩;have k1:j<xs.length:=by omega
 have k2:j<ys.length:=by omega
 have g1:xs[j]?=some xs[j]:=by simp[k1]
 have g2:ys[j]?=some ys[j]:=by simp[k2]
 obtain⟨x,gx,px⟩:=p.get g1;obtain⟨y,gy,py⟩:=q.get g2;obtain⟨u,gu,ru⟩:=ri.get gx;obtain⟨v,gv,rv⟩:=rj.get gy;obtain⟨c,hc⟩:=h1 j _ _ g1 g2;have eu:is.toArray[j]=u:=by
  have z:=zA.mp gu;simpa using z.2
 have ev:js.toArray[j]=v:=by
  have z:=zA.mp gv;simpa using z.2
 have ec:Wb f xs ys j=c:=by simp[Wb,g1,g2,hc]
 rw[eu,ev,ec];exact hf X pins σ H s r A _ _ x y u v c I hu px py ru rv hc
theorem Ly (hf:WJ n f)(hs:Uk f):WJ (n+1) (eqT f):=by
 intro X pins σ H s r A dx dy x y u v b I hu px py rx ry e;have flat:∀ {dx dy:D} {x y:V},Rp r H dx x->Rp r H dy y->Zs x u->Zs y v->eqF dx dy=some b->SeqAt.EqAt A s u v b:=λpx py rx ry e=>RA (n+1) X pins σ H s r A _ _ _ _ u v b I hu px py rx ry e
 cases px with
 | @tup ds xs a e1 l1 f1=>
  cases py with
  | @tup es ys a' e2 l2 f2=>
   cases rx;cases ry;by_cases z:a=a'
   .subst z;have hb:=Nu hs r H _ _ _ b (.tup e1 l1 f1) (.tup e2 l2 f2) e;subst hb;exact SeqAt.EqAt.same _
   .obtain⟨is,ri,ti,_⟩:=Uh I e1;obtain⟨js,rj,tj,_⟩:=Uh I e2;obtain⟨g1,g2⟩:=QP (A:=A.in1) hf I (by show A.units+1+n<_;omega) ⟨l1,f1⟩ ⟨l2,f2⟩ ri rj e;have q:=SeqAt.RcAt.tuples ti tj (by omega) g1;rw[g2] at q;exact SeqAt.EqAt.of_refs z q
  | ref h=>simp[eqT,eqF] at e
  | _=>simp[eqT,eqF] at e
 | non=>exact flat .non py rx ry (by cases py<;>exact e)
 | bl i=>exact flat (.bl i) py rx ry (by cases py<;>exact e)
 | int i=>exact flat (.int i) py rx ry (by cases py<;>exact e)
 | str i=>exact flat (.str i) py rx ry (by cases py<;>exact e)
 | ref h=>cases py<;>simp[eqT,eqF] at e
 | exc h=>cases py<;>simp[eqT,eqF] at e
theorem M8 (n:Nat):WJ (n+1) eq1:=Ly (RA n) VT
def wEq (f:D->D->Option Bool):W2:=λx y S Q=>match f x y with
 | some b=>Q (.bl b) S
 | none=>False
def wNe (f:D->D->Option Bool):W2:=λx y S Q=>match f x y with
 | some b=>Q (.bl (!b)) S
 | none=>False
theorem Lh {r:List Addr}{H:Hp}{dx dy:D}{x y:V}{b:Bool}(px:Rp r H dx x)(py:Rp r H dy y)(e:eqF dx dy=some b):TK x y=true/\decide (x=y)=b:=by
 cases px<;>cases py<;>simp[eqF] at e<;>simp[TK]<;>first|exact e|(subst e;simp)|skip
theorem Kp (hf:WJ n f)(hu:X.A.units+1+n<cLine):OpR X (compareOp .Eq) (upO X.K Z (wEq (eqT f))):=by
 intro pins s σ H x y v u Qv I rx ry h;obtain⟨r,S,dx,dy,Q,bA,px,py,q,ret⟩:=h;unfold wEq at q;split at q
 .rename_i b e;have flat:∀ {dx dy:D} {x y:V},Rp r H dx x->Rp r H dy y->Zs x v->Zs y u->eqF dx dy=some b->wpAny (mX X) X.A (compareOp .Eq v u) (EP X pins σ Qv) X.xe s:=λpx py rx ry e=>by
   obtain⟨h1,h2⟩:=Lh px py e;refine Pm pins s σ H _ _ v u Qv I rx ry ⟨h1,?_⟩;rw[h2];exact ret _ _ _ _ _ Ext.refl bA (.bl b) q
  cases px with
  | @tup ds xs a e1 l1 f1=>
   cases py with
   | @tup es ys a' e2 l2 f2=>
    cases rx;cases ry;obtain⟨is,ri,ti,_⟩:=Uh I e1;obtain⟨js,rj,tj,_⟩:=Uh I e2;obtain⟨g1,g2⟩:=QP (A:=X.A.in1) hf I (by show X.A.units+1+n<_;omega) ⟨l1,f1⟩ ⟨l2,f2⟩ ri rj e;refine SeqAt.eq_tupleAt ti tj (by omega) g1 ?_;rw[g2];exact⟨.bl b,H,I,rfl,ret _ _ _ _ _ Ext.refl bA (.bl b) q⟩
   | _=>simp[eqT,eqF] at e
  | non=>exact flat .non py rx ry (by cases py<;>exact e)
  | bl i=>exact flat (.bl i) py rx ry (by cases py<;>exact e)
  | int i=>exact flat (.int i) py rx ry (by cases py<;>exact e)
  | str i=>exact flat (.str i) py rx ry (by cases py<;>exact e)
  | ref h=>cases py<;>simp[eqT,eqF] at e
  | exc h=>cases py<;>simp[eqT,eqF] at e
 .exact q.elim
theorem J3 (hf:WJ n f)(hu:X.A.units+1+n<cLine):OpR X (compareOp .NotEq) (upO X.K Z (wNe (eqT f))):=by
 intro pins s σ H x y v u Qv I rx ry h;obtain⟨r,S,dx,dy,Q,bA,px,py,q,ret⟩:=h;unfold wNe at q;split at q
 .rename_i b e;have flat:∀ {dx dy:D} {x y:V},Rp r H dx x->Rp r H dy y->Zs x v->Zs y u->eqF dx dy=some b->wpAny (mX X) X.A (compareOp .NotEq v u) (EP X pins σ Qv) X.xe s:=λpx py rx ry e=>by
   obtain⟨h1,h2⟩:=Lh px py e;refine op_ne pins s σ H _ _ v u Qv I rx ry ⟨h1,?_⟩;rw[h2];exact ret _ _ _ _ _ Ext.refl bA (.bl (!b)) q
  cases px with
  | @tup ds xs a e1 l1 f1=>
   cases py with
   | @tup es ys a' e2 l2 f2=>
    cases rx;cases ry;obtain⟨is,ri,ti,_⟩:=Uh I e1;obtain⟨js,rj,tj,_⟩:=Uh I e2;obtain⟨g1,g2⟩:=QP (A:=X.A.in1) hf I (by show X.A.units+1+n<_;omega) ⟨l1,f1⟩ ⟨l2,f2⟩ ri rj e;refine SeqAt.RcNeAt.tuples ti tj (by omega) g1 X.prog X.w _ _ ?_;rw[g2];exact⟨.bl (!b),H,I,rfl,ret _ _ _ _ _ Ext.refl bA (.bl (!b)) q⟩
   | _=>simp[eqT,eqF] at e
  | non=>exact flat .non py rx ry (by cases py<;>exact e)
  | bl i=>exact flat (.bl i) py rx ry (by cases py<;>exact e)
  | int i=>exact flat (.int i) py rx ry (by cases py<;>exact e)
  | str i=>exact flat (.str i) py rx ry (by cases py<;>exact e)
  | ref h=>cases py<;>simp[eqT,eqF] at e
  | exc h=>cases py<;>simp[eqT,eqF] at e
 .exact q.elim
theorem ZI (hr:ZG k X.A):OpR X (compareOp .Eq) (upO X.K Z (wEq eq2)):=Kp (M8 0) (by have:=hr.un;omega)
theorem do_ne (hr:ZG k X.A):OpR X (compareOp .NotEq) (upO X.K Z (wNe eq2)):=J3 (M8 0) (by have:=hr.un;omega)
section
variable {X:Cx}{Z:Zx}{a b c:Expr}{ta tb tc:TDE}{pos:Pos}{Ye:List Expr}
def Qj (t:TDE):TDT:=λdl S Q=>t dl S λd S'=>match d with
 | .bl k=>Q k S'
 | _=>False
theorem Qu {K:Fg}{Z:Zx}{r:List Addr}{H:Hp}{Q:Bool->Sto->Prop}{Qb:Bool->Hp->Prop}(h:∀b H' r' S',Ext r r' H H'->Rel K Z r' S' H'->Q b S'->Qb b H'):
  Ret K Z r H (λd S'=>match d with|.bl k=>Q k S'|_=>False) (λx H'=>∃k,x=.bl k/\Qb k H'):=λv H' r' d S' e bA p q=>by
 cases p with
 | bl k=>exact⟨k,rfl,h k H' r' S' e bA q⟩
 | _=>exact(show False from q).elim
theorem Zp {op:CmpOp}{w:W2}(ho:OpR X (compareOp op) (upO X.K Z w))(ha:PD X Z a ta)(hb:PD X Z b tb)(hm:behindInMarks op b=false):PDT X Z (.Compare a [op] [b] pos) (Qj (dOp w ta tb)):=
 To (JP ho ha hb hm) λσ H Qb ⟨r,dl,S,Q,rs,bA,h,ret⟩=>SJ ⟨r,dl,S,_,rs,bA,h,Qu ret⟩
theorem XJ {e:Expr}{t:TDE}(h:PD X Z e t)(he:∀aQ,isTrue e X.env aQ=(do let v <- aQ;standAt e.pos;holding [v] (truthy v)):=by intro _;rfl):PDT X Z e (Qj t):=
 To (Hv h he) λσ H Qb ⟨r,dl,S,Q,rs,bA,h,ret⟩=>⟨r,dl,S,_,rs,bA,h,Qu ret⟩
def dNot (t:TDT):TDT:=λdl S Q=>t dl S λk S'=>Q (!k) S'
theorem Ut (ha:PDT X Z a t):PDT X Z (.UnaryOp .Not a pos) (dNot t):=
 To (Kq ha) λσ H Qb ⟨r,dl,S,Q,rs,bA,h,ret⟩=>⟨r,dl,S,_,rs,bA,h,λk H' r' S' e rel' q=>ret (!k) H' r' S' e rel' q⟩
def dAnd (t u:TDT):TDT:=λdl S Q=>t dl S λk S1=>if k=true then u dl S1 Q else Q false S1
def dOr (t u:TDT):TDT:=λdl S Q=>t dl S λk S1=>if k=true then Q true S1 else u dl S1 Q
theorem SW (ha:PDT X Z a t):PDW X Z (.BoolOp .And [a] pos) t:=Fb ha
theorem UN (ha:PDT X Z a t):PDW X Z (.BoolOp .Or [a] pos) t:=G9 ha
theorem Ri (ha:PDT X Z a t)(hb:PDW X Z (.BoolOp .And (b::Ye) pos) u):PDW X Z (.BoolOp .And (a::b::Ye) pos) (dAnd t u):=
 OT (C9 ha hb) λσ H Qb ⟨r,dl,S,Q,rs,bA,h,ret⟩=>⟨r,dl,S,_,rs,bA,h,λk H1 r1 S1 e1 aC q1=>by
  cases k with
  | true=>exact YQ ⟨r1,dl,S1,Q,rs.ext e1,aC,(by simpa using q1),λk' H2 r2 S2 e2=>ret k' H2 r2 S2 (e1.trans e2)⟩
  | false=>exact Y0 (ret false H1 r1 S1 e1 aC (by simpa using q1))⟩
theorem W9 (ha:PDT X Z a t)(hb:PDW X Z (.BoolOp .Or (b::Ye) pos) u):PDW X Z (.BoolOp .Or (a::b::Ye) pos) (dOr t u):=
 OT (pw_or ha hb) λσ H Qb ⟨r,dl,S,Q,rs,bA,h,ret⟩=>⟨r,dl,S,_,rs,bA,h,λk H1 r1 S1 e1 aC q1=>by
  cases k with
  | true=>exact YQ (ret true H1 r1 S1 e1 aC (by simpa using q1))
  | false=>exact Y0 ⟨r1,dl,S1,Q,rs.ext e1,aC,(by simpa using q1),λk' H2 r2 S2 e2=>ret k' H2 r2 S2 (e1.trans e2)⟩⟩
def dAndV (ta tb:TDE):TDE:=λdl S Q=>ta dl S λx S1=>match x with
 | .bl k=>if k=true then tb dl S1 Q else Q (.bl false) S1
 | _=>False
def dOrV (ta tb:TDE):TDE:=λdl S Q=>ta dl S λx S1=>match x with
 | .bl k=>if k=true then Q (.bl true) S1 else tb dl S1 Q
 | _=>False
theorem QR {op}(h:PD X Z a t):PD X Z (.BoolOp op [a] pos) t:=Cc h
theorem NB (ha:PD X Z a ta)(hb:PD X Z (.BoolOp .And (b::Ye) pos) tb):PD X Z (.BoolOp .And (a::b::Ye) pos) (dAndV ta tb):=
 Z6 (G0 ha hb) λσ H Qv ⟨r,dl,S,Q,rs,bA,h,ret⟩=>⟨r,dl,S,_,rs,bA,h,λv H1 r1 d S1 e1 aC p q1=>by
  cases p with
  | bl k=>
   refine⟨k,rfl,?_⟩;cases k with
   | true=>exact YQ ⟨r1,dl,S1,Q,rs.ext e1,aC,(by simpa using q1),ret.ext e1⟩
   | false=>exact Y0 (ret _ H1 r1 (.bl false) S1 e1 aC (.bl false) (by simpa using q1))
  | _=>exact(show False from q1).elim⟩
theorem pd_or (ha:PD X Z a ta)(hb:PD X Z (.BoolOp .Or (b::Ye) pos) tb):PD X Z (.BoolOp .Or (a::b::Ye) pos) (dOrV ta tb):=
 Z6 (pe_or ha hb) λσ H Qv ⟨r,dl,S,Q,rs,bA,h,ret⟩=>⟨r,dl,S,_,rs,bA,h,λv H1 r1 d S1 e1 aC p q1=>by
  cases p with
  | bl k=>
   refine⟨k,rfl,?_⟩;cases k with
   | true=>exact YQ (ret _ H1 r1 (.bl true) S1 e1 aC (.bl true) (by simpa using q1))
   | false=>exact Y0 ⟨r1,dl,S1,Q,rs.ext e1,aC,(by simpa using q1),ret.ext e1⟩
  | _=>exact(show False from q1).elim⟩
def dIfE (t:TDT)(ta tb:TDE):TDE:=λdl S Q=>t dl S λk S1=>if k=true then ta dl S1 Q else tb dl S1 Q
theorem XB (hc:PDT X Z c t)(ha:PD X Z a ta)(hb:PD X Z b tb):PD X Z (.IfExp c a b pos) (dIfE t ta tb):=
 Z6 (ES hc ha hb) λσ H Qv ⟨r,dl,S,Q,rs,bA,h,ret⟩=>⟨r,dl,S,_,rs,bA,h,λk H1 r1 S1 e1 aC q1=>by
  cases k with
  | true=>exact YQ ⟨r1,dl,S1,Q,rs.ext e1,aC,(by simpa using q1),ret.ext e1⟩
  | false=>exact Y0 ⟨r1,dl,S1,Q,rs.ext e1,aC,(by simpa using q1),ret.ext e1⟩⟩
def QZ (w w':W2)(ta tb tc:TDE):TDE:=λdl S Q=>ta dl S λx S1=>tb dl S1 λy S2=>w x y S2 λz S3=>match z with
 | .bl k=>if k=true then tc dl S3 λu S4=>w' y u S4 Q else Q (.bl false) S3
 | _=>False
theorem Mh (h:up X.K Z (QZ w w' ta tb tc) σ H Qv):QH (upO X.K Z w) (upO X.K Z w') (up X.K Z ta) (up X.K Z tb) (up X.K Z tc) σ H Qv:=by
 obtain⟨r,dl,S,Q,rs,bA,h,ret⟩:=h;refine⟨r,dl,S,_,rs,bA,h,λv H1 r1 dx S1 e1 aC p1 h1=>⟨r1,dl,S1,_,rs.ext e1,aC,h1,λv2 H2 r2 dy S2 e2 aE p2 h2=>⟨r2,S2,dx,dy,_,aE,p1.ext e2,p2,h2,λv3 H3 r3 dz S3 e3 aF p3 h3=>?_⟩⟩⟩;cases p3 with
 | bl k=>
  refine⟨k,rfl,?_⟩;cases k with
  | true=>exact YQ ⟨r3,dl,S3,_,rs.ext (e1.trans (e2.trans e3)),aF,(by simpa using h3),λv4 H4 r4 du S4 e4 aG p4 h4=>⟨r4,S4,dy,du,Q,aG,(p2.ext e3).ext e4,p4,h4,ret.ext (e1.trans (e2.trans (e3.trans e4)))⟩⟩
  | false=>exact Y0 (ret _ H3 r3 (.bl false) S3 (e1.trans (e2.trans e3)) aF (.bl false) (by simpa using h3))
 | _=>exact(show False from h3).elim
theorem Jh (ho:OpR X (compareOp op) (upO X.K Z w))(ho':OpR X (compareOp op') (upO X.K Z w'))(ha:PD X Z a ta)(hb:PD X Z b tb)(hc:PD X Z c tc)(hm:lastMarks [op,op'] [b,c]=false:=by with_unfolding_all rfl):PD X Z (.Compare a [op,op'] [b,c] pos) (QZ w w' ta tb tc):=Z6 (FG ho ho' ha hb hc hm) λ_ _ _ h=>Mh h
theorem Mp {op op':CmpOp}{w w':W2}(ho:OpR X (compareOp op) (upO X.K Z w))(ho':OpR X (compareOp op') (upO X.K Z w'))(ha:PD X Z a ta)(hb:PD X Z b tb)(hc:PD X Z c tc)
  (hm:lastMarks [op,op'] [b,c]=false:=by with_unfolding_all rfl):PDT X Z (.Compare a [op,op'] [b,c] pos) (Qj (QZ w w' ta tb tc)):=
 To (CN ho ho' ha hb hc hm) λσ H Qb ⟨r,dl,S,Q,rs,bA,h,ret⟩=>Mh ⟨r,dl,S,_,rs,bA,h,Qu ret⟩
def RE:D->Bool
 | .non=>true
 | _=>false
def wIsN:W2:=λx y S Q=>match y with
 | .non=>Q (.bl (RE x)) S
 | _=>False
def wNotN:W2:=λx y S Q=>match y with
 | .non=>Q (.bl (!RE x)) S
 | _=>False
theorem NC {r:List Addr}{H:Hp}{d:D}{x:V}(p:Rp r H d x):decide (x=.non)=RE d:=by
 cases p<;>simp[RE]
theorem Yv:OpR X (compareOp .Is) (upO X.K Z wIsN):=Vv Hz λx y H Qv ⟨r,S,dx,dy,Q,bA,px,py,q,ret⟩=>by
 cases py with
 | non=>exact⟨rfl,by rw[NC px];exact ret _ _ _ _ _ Ext.refl bA (.bl _) q⟩
 | _=>exact(show False from q).elim
theorem Lu:OpR X (compareOp .IsNot) (upO X.K Z wNotN):=Vv JB λx y H Qv ⟨r,S,dx,dy,Q,bA,px,py,q,ret⟩=>by
 cases py with
 | non=>exact⟨rfl,by rw[NC px];exact ret _ _ _ _ _ Ext.refl bA (.bl _) q⟩
 | _=>exact(show False from q).elim
variable {e:Expr}{es:List Expr}
def U0:TDA:=λ_ S Q=>Q [] S
def U9 (ta:TDE)(tr:TDA):TDA:=λdl S Q=>ta dl S λx S1=>tr dl S1 λxs S2=>Q (x::xs) S2
theorem Zf:PDA X Z [] U0:=MY PB λσ H Qv ⟨r,dl,S,Q,rs,bA,h,ret⟩=>ret [] H r [] S Ext.refl bA Rps.nil h
theorem Za (ha:PD X Z e te)(hr:PDA X Z es t)(hs:starEach (e::es) X.env=(false,eval e X.env)::starEach es X.env:=by rfl):PDA X Z (e::es) (U9 te t):=
 MY (Tz ha hr hs) λσ H Qv ⟨r,dl,S,Q,rs,bA,h,ret⟩=>⟨r,dl,S,_,rs,bA,h,λv H1 r1 d S1 e1 aC p1 h1=>⟨r1,dl,S1,_,rs.ext e1,aC,h1,λvs H2 r2 ds S2 e2 aE p2 h2=>
  ret (v::vs) H2 r2 (d::ds) S2 (e1.trans e2) aE (Rps.cons (p1.ext e2) p2) h2⟩⟩
def dTup (t:TDA):TDE:=λdl S Q=>t dl S λds S1=>if ds.length<=1000 then Q (.tup ds) S1 else False
def dLst (t:TDA):TDE:=λdl S Q=>t dl S λds S1=>if ds.length<=1000 then Q (.ref S1.length) (S1++[.lst ds]) else False
theorem Rc [Decidable p] (h:if p then A else False):p/\A:=by
 split at h
 .exact⟨by assumption,h⟩
 .exact h.elim
theorem VS (h:n<=1000):n<=sizeLine:=yU (Uu h)
theorem Zt {x1}(h:PDA X Z es t):PD X Z (.Tuple es x1 pos) (dTup t):=
 Z6 (LY h) λσ H Qv ⟨r,dl,S,Q,rs,bA,h,ret⟩=>⟨r,dl,S,_,rs,bA,h,λvs H1 r1 ds S1 e1 aC p1 h1=>by
  obtain⟨hl,h1⟩:=Rc h1;refine⟨by rw[<- p1.1];exact VS hl,λp hp=>?_⟩;have x:Ext r1 r1 H1 (upd H1 p (.tup vs)):=⟨λ_ _ q=>q,λa xs q=>XW hp _ _ q,λa c q=>XW hp _ _ q⟩;exact ret _ _ r1 (.tup ds) S1 (e1.trans x) (aC.same (XW hp)) ((p1.ext x).tupR YK) h1⟩
theorem Vf {r:List Addr}{p:Addr}{H:Hp}{n:Nat}(h:r.length=n):Rp (r++[p]) H (.ref n) (.ref p):=.ref (by subst h;simp)
theorem Yu (h:PDA X Z es t):PD X Z (.List es pos) (dLst t):=
 Z6 (Hq h) λσ H Qv ⟨r,dl,S,Q,rs,bA,h,ret⟩=>⟨r,dl,S,_,rs,bA,h,λvs H1 r1 ds S1 e1 aC p1 h1=>by
  obtain⟨hl,h1⟩:=Rc h1;refine⟨by rw[<- p1.1];exact VS hl,λp hp=>?_⟩;obtain⟨aE,x⟩:=aC.push hp p1;exact ret _ _ _ (.ref S1.length) _ (e1.trans x) aE (Vf aC.len) h1⟩
def wIx:W2:=λx y S Q=>match x,y with
 | .tup xs,.int i=>match atI xs i with
  | some d=>Q d S
  | none=>False
 | .ref n,.int i=>match lAt S n with
  | some o=>match atI (Zk o) i with
   | some d=>Q d S
   | none=>False
  | none=>False
 | _,_=>False
theorem P9 {r:List Addr}{H:Hp}{ds:List D}{vs:List V}{i:Int}{d:D}(h:Rps r H ds vs)(e:atI ds i=some d):∃v,atI vs i=some v/\Rp r H d v:=by
  unfold atI at e ⊢;rw[<- h.1];cases q:ixN ds.length i with
  | none=>
   rw[q] at e;cases e
  | some j=>
    rw[q] at e;exact h.get e
theorem do_ix:IxR X (upO X.K Z wIx):=by
 intro value slice pins s σ H x y v u Qv I rx ry h hs;obtain⟨r,S,dx,dy,Q,bA,px,py,q,ret⟩:=h;cases px with
 | @tup ds xs a e1 l1 f1=>
  cases py with
  | int i=>
   have q':(match atI ds i with|some d=>Q d S|none=>False):=q;split at q'
   .rename_i d e;obtain⟨w,hw,pw⟩:=P9 ⟨l1,f1⟩ e;exact C7 value slice pins s σ H _ _ v u Qv I rx ry ⟨a,xs,i,w,rfl,rfl,SqT.of e1,hw,ret w H r d S Ext.refl bA pw q'⟩ hs
   .exact q'.elim
  | _=>exact(show False from q).elim
 | @ref n a e1=>
  cases py with
  | int i=>
   have q':(match lAt S n with|some o=>(match atI (Zk o) i with|some d=>Q d S|none=>False)|none=>False):=q;split at q'
   .rename_i o eo;obtain⟨eo,eL⟩:=Xb eo;obtain⟨a',ha,ob⟩:=bA.at eo;rw[e1] at ha;cases ha
    obtain⟨xs,sq,pr⟩:=ob.list eL;split at q'
    .rename_i d e;obtain⟨w,hw,pw⟩:=P9 pr e;exact Bf value slice pins s σ H _ _ v u Qv I rx ry ⟨a,xs,i,w,rfl,rfl,sq,hw,ret w H r d S Ext.refl bA pw q'⟩ hs
    .exact q'.elim
   .exact q'.elim
  | _=>exact(show False from q).elim
 | _=>exact(show False from q).elim
theorem Ms (ha:PD X Z a ta)(hb:PD X Z b tb)(hs:VV b):PD X Z (.Subscript a b pos) (dOp wIx ta tb):=Z6 (pe_ix do_ix ha hb hs) λ_ _ _ h=>SJ h
theorem Mq (ha:PD X Z a ta)(hb:PD X Z b tb)(hs:VV b:=by exact λ_ _=>rfl):PD X Z (.Subscript a b pos) (dOp wIx ta tb):=Ms ha hb hs
end
structure Bk (fs:List Addr)(H H':Hp)(B h:Heap)(ea:Addr):Prop where
 trk:∀b u,H' b=some u->∃o,B.get? b=some o
 old:∀b o,h.get? b=some o->H b=none->b ∉ fs->B.get? b=some o
 all:∀b o,h.get? b=some o->b ∉ fs->∃o',B.get? b=some o'
 new:H' ea=none
def CXE (P:Program)(w:World):CXT:=λouter H s E e s'=>∃(ea c:Addr)(a0:Value)(B:Heap)(H':Hp),e=.ref ea/\s'.os=s.os/\AllBare s'.gens/\Un (frs outer) [] H H' s.heap s'.heap/\HOk P w H' s'.heap/\
 Heap.FlyingW B outer ea (.ref c) a0 s'.heap/\Bk (frs outer) H H' B s.heap ea/\E (.ref c) none H'
section
variable {X:Cx}{pins:LA}{σ:St}{H:Hp}{s:Shared}
end
section
variable {P:Program}{w:World}{K:Fg}{mg:Str->Option Value}{base:Heap}{N:List Str}{qual:Str}{scope:Scope}{f:Addr}{cdv:Value}{A:Around}{outer:List Env}{s0:Shared}{H0:Hp}{E:XK}
end
structure Xc (K:Fg)(mg:Str->Option Value)(x:Str)(C:Addr)(bm:List Value)(nid:String):Prop where
 bound:mg x=some (.ref C)
 ex:W.excIn K C bm nid=true
abbrev WC:=List D->Sto->DK->Prop
abbrev Sd:=List D->Sto->DK->(Addr->Sto->Prop)->Prop
inductive upC (K:Fg)(Z:Zx)(w:WC)(xs:List V)(H:Hp)(Qv:VK):Prop
 | mk (r:List Addr) (S:Sto) (ds:List D) (Q:DK) (bA:Rel K Z r S H) (ps:Rps r H ds xs) (q:w ds S Q) (ret:Ret K Z r H Q Qv):upC K Z w xs H Qv
def upF (K:Fg)(sd:Sd):Sp:=λvs H Qv E=>∃ex:Addr->Sto->Prop,upC K (Zc ex E) (λds S Q=>sd ds S Q ex) vs H Qv
def QT (w:WC)(t:TDA):TDE:=λdl S Q=>t dl S λds S1=>w ds S1 Q
def Qd (ex:Ev->Addr->Sto->Prop)(sd:Sd)(t:TDA):TDE:=λdl S Q=>t dl S λds S1=>sd ds S1 Q (ex dl)
def X2 (X:Cx)(W:St->XK):Prop:=∀(pins:LA)(σ:St)(H:Hp)(s:Shared)(e:Value)(s':Shared),Inv X pins σ H s->CXE X.prog X.w X.stack H s (W σ) e s'->X.xe e s'
theorem RD (F:Yc X.prog X.w X.K X.mg X.base (CXE X.prog X.w) k f fd ps sp)(hr:ZG k X.A)(hb:YG X.K fd ps [])(hx:X2 X W)(I:Inv X pins σ H s)(r:Zq vs us)(h:sp vs H Q (W σ)):wpAny (mX X) X.A (call (.ref f) us) (EP X pins σ Q) X.xe s:=by
 have hl:us.length=ps.length:=by rw[<- r.length];exact F.len _ _ _ _ h
 have hb':=hb s us I.kIn (by rw[xH];exact hl);rw[xH] at hb';refine wpAny_call (codeAny_mono (F.run X.A X.stack s H ⟨us,[]⟩ us vs Q (W σ) hr I.env0 hb' r h) λz s' hq=>?_);cases z with
 | error ev=>exact hx pins σ H s ev s' I hq
 | ok fl=>
  cases fl with
  | ret u=>exact I.after hq
  | _=>exact False.elim hq
theorem Hw (F:Yc X.prog X.w X.K X.mg X.base (CXE X.prog X.w) k f fd ps sp)(hr:ZG k X.A)(hg:Gl X x)(hm:X.mg x=some (.ref f))(hk:PySem.W.keepIn X.K (.ref f)=true)(hb:YG X.K fd ps [])(hx:X2 X W)
  (ha:PA X (e::es) t)(hdb:(x==("__debug__":Str))=false)(he:He X e es)(hpl:Hp1 X pos es):
  PE X (.Call (.Name x p) (e::es) [] pos) (λσ H Q=>t σ H λvs H1=>sp vs H1 Q (W σ)):=by
 intro pins s σ H Q I h;refine wpAny_Call_Name_kw (Lg I hg hm ?_ hdb);exact PySem.W.callWith_K I.ok.mod.kin hk (thn (ha pos pins s σ H _ I h) λus s1 ⟨vs,H1,I1,r,q⟩=>⟨I1.kIn,RD F hr hb hx I1 r q⟩) he hpl
section
variable {X:Cx}{Z:Zx}{x:Str}{p pos:Pos}{e:Expr}{es:List Expr}{t:TDA}{id T:String}{w:WC}
theorem LG (h:up X.K Z (QT w t) σ H Qv):upA X.K Z t σ H λvs H1=>upC X.K Z w vs H1 Qv:=by
 obtain⟨r,dl,S,Q,rs,bA,h,ret⟩:=h;exact⟨r,dl,S,_,rs,bA,h,λvs H1 r1 ds S1 e1 aC p1 h1=>⟨r1,S1,ds,Q,aC,p1,h1,ret.ext e1⟩⟩
theorem ZO (hc:Yi X (.builtin id) (upC X.K Z w))(hg:Gl X x)(hm:X.mg x=none)(hv:bootBuiltins x=some (.builtin id))(ha:PDA X Z (e::es) t)(hn:x≠"__name__":=by decide)(hdb:(x==("__debug__":Str))=false:=by decide)
  (he:He X e es:=by rfl)(hpl:Hp1 X pos es:=by rfl):PD X Z (.Call (.Name x p) (e::es) [] pos) (QT w t):=
 Z6 (Oe hc hg hm hv ha hn hdb he hpl) λ_ _ _ h=>LG h
theorem RP (hc:Yi X (.type T) (upC X.K Z w))(hg:Gl X x)(hm:X.mg x=none)(hv:bootBuiltins x=some (.type T))(ha:PDA X Z (e::es) t)(hn:x≠"__name__":=by decide)(hdb:(x==("__debug__":Str))=false:=by decide)
  (he:He X e es:=by rfl)(hpl:Hp1 X pos es:=by rfl):PD X Z (.Call (.Name x p) (e::es) [] pos) (QT w t):=
 Z6 (ER hc hg hm hv ha hn hdb he hpl) λ_ _ _ h=>LG h
theorem SE {sd:Sd}{r:List Addr}{S:Sto}{H:Hp}{dl:Ev}{σ:St}{ds:List D}{vs:List V}{Q:DK}{Qv:VK}(rs:Rs r H dl σ)(bA:Rel X.K Z r S H)(p:Rps r H ds vs)(h:sd ds S Q (Z.ex dl))(ret:Ret X.K Z r H Q Qv):upF X.K sd vs H Qv (Z.w σ):=
 ⟨Z.ex dl,r,S,ds,Q,⟨bA.b,λ_ _ c H' r' S' x _ rb q=>bA.xw dl σ c H' r' S' x (rs.ext x) rb q⟩,p,h,λv H' r' d S' x rel' pv q=>ret v H' r' d S' x ⟨rel'.b,bA.xw.ext x⟩ pv q⟩
theorem CQ (F:Yc X.prog X.w X.K X.mg X.base (CXE X.prog X.w) k f fd ps (upF X.K sd))(hr:ZG k X.A)(hg:Gl X x)(hm:X.mg x=some (.ref f))(hk:PySem.W.keepIn X.K (.ref f)=true)(hb:YG X.K fd ps [])(hx:X2 X W)(ha:PDA X ⟨ex,W⟩ (e::es) t)(hdb:(x==("__debug__":Str))=false:=by decide)(he:He X e es:=by rfl)(hpl:Hp1 X pos es:=by rfl):PD X ⟨ex,W⟩ (.Call (.Name x p) (e::es) [] pos) (Qd ex sd t):=
 Z6 (Hw F hr hg hm hk hb hx ha hdb he hpl) λσ H Qv ⟨r,dl,S,Q,rs,bA,h,ret⟩=>⟨r,dl,S,_,rs,bA,h,λvs H1 r1 ds S1 e1 aC p1 h1=>SE (rs.ext e1) aC p1 h1 (ret.ext e1)⟩
def wAbs:WC:=λds S Q=>match ds with
 | [.int i]=>Q (.int (if i<0 then -i else i)) S
 | _=>False
theorem QV:Yi X (.builtin "abs") (upC X.K Z wAbs):=PR JT λxs H Qv ⟨r,S,ds,Q,bA,ps,q,ret⟩=>by
 unfold wAbs at q;split at q
 .rename_i i;obtain⟨v,vs,rfl,p1,p2⟩:=ps.uncons;have z:=p2.unnil;subst z;cases p1;exact⟨i,rfl,ret _ _ _ _ _ Ext.refl bA (.int _) q⟩
 .exact q.elim
def YI:List D->Option (List Int)
 | []=>some []
 | .int i::r=>(YI r).map (i::·)
 | _::_=>none
def VL (le:Int->Int->Prop)(two:Int->Int->Int):WC:=λds S Q=>match ds with
 | [.int i,.int j]=>Q (.int (two i j)) S
 | [.ref n]=>match lAt S n with
  | some o=>match YI (Zk o) with
   | some xs=>xs≠[]/\∀m,m∈xs->(∀y∈xs,le y m)->Q (.int m) S
   | none=>False
  | none=>False
 | _=>False
abbrev wMax:WC:=VL (λy m=>y<=m) λi j=>if j > i then j else i
abbrev wMin:WC:=VL (λy m=>m<=y) λi j=>if j<i then j else i
theorem PH {r:List Addr}{H:Hp}:∀ {ds:List D} {ns:List Int} {vs:List V} {us:List Value},YI ds=some ns->Rps r H ds vs->Zq vs us->∃xs:List (Int×Tok),us.toArray=intItems xs.toArray/\xs.map (·.1)=ns
 | [],ns,vs,us,e,p,q=>by
  have z:=p.unnil;subst z;cases q;simp[YI] at e;subst e;exact⟨[],by simp[intItems],rfl⟩
 | d::ds,ns,vs,us,e,p,q=>by
  obtain⟨v,vs',rfl,p1,p2⟩:=p.uncons;cases d with
  | int i=>
   cases p1;cases q with
   | cons q1 q2=>
    obtain⟨t,rfl⟩:=q1;simp only[YI,zI] at e;obtain⟨ms,e1,rfl⟩:=e;obtain⟨xs,h1,h2⟩:=PH e1 p2 q2;refine⟨(i,t)::xs,?_,by simp[h2]⟩;simp[intItems] at h1 ⊢;exact h1
  | _=>simp[YI] at e
theorem Me (f:Nat->Int):∀k j,j<=k->f j<=f (argBest (λi j=>decide (f i > f j)) k)
 | 0,j,h=>by
  have z:j=0:=by omega
  subst z;exact zV _
 | k+1,j,h=>by
  have ih:=Me f k;unfold argBest;split
  .rename_i hb;have hb':f (k+1) > f (argBest (λi j=>decide (f i > f j)) k):=of_decide_eq_true hb;by_cases z:j=k+1
   .subst z;exact zV _
   .have:=ih j (by omega);omega
  .rename_i hb;have hb':¬ f (k+1) > f (argBest (λi j=>decide (f i > f j)) k):=λq=>hb (decide_eq_true q)
   by_cases z:j=k+1
   .subst z;omega
   .exact ih j (by omega)
theorem N4 (f:Nat->Int):∀k j,j<=k->f (argBest (λi j=>decide (f i<f j)) k)<=f j
 | 0,j,h=>by
  have z:j=0:=by omega
  subst z;exact zV _
 | k+1,j,h=>by
  have ih:=N4 f k;unfold argBest;split
  .rename_i hb;have hb':f (k+1)<f (argBest (λi j=>decide (f i<f j)) k):=of_decide_eq_true hb;by_cases z:j=k+1
   .subst z;exact zV _
   .have:=ih j (by omega);omega
  .rename_i hb;have hb':¬ f (k+1)<f (argBest (λi j=>decide (f i<f j)) k):=λq=>hb (decide_eq_true q)
   by_cases z:j=k+1
   .subst z;omega
   .exact ih j (by omega)
theorem LR (bt:Nat->Nat->Bool):∀k,argBest bt k<=k
 | 0=>zB _
 | k+1=>by
  unfold argBest;split
  .exact zB _
  .exact Nat.le_succ_of_le (LR bt k)
theorem OO {xs:List (Int×Tok)}{ns:List Int}(h:xs.map (·.1)=ns){j:Nat}{y:Int}(e:ns[j]?=some y):numAt xs.toArray j=y:=by
  subst h;unfold numAt;rw[zE] at e;simp;cases q:xs[j]? with
  | none=>
   rw[q] at e;cases e
  | some z=>rw[q] at e;simpa using e
theorem HP {xs:List (Int×Tok)}{ns:List Int}(h:xs.map (·.1)=ns){j:Nat}(hj:j<ns.length):numAt xs.toArray j∈ns:=by
 have e:ns[j]?=some ns[j]:=by simp[hj]
 rw[OO h e];exact yO hj
theorem Mn {nm:String}{le:Int->Int->Prop}{two:Int->Int->Int}(cm:Int->Int->Bool)(hc:X.calm=true)(c2:Yi X (.builtin nm) (λxs H Q=>∃i j,xs=[.int i,.int j]/\Q (.int (two i j)) H))(c1:∀ {s:Shared} {l:Addr} {xs:Array (Int×Tok)} {Q:Value->Shared->Prop} {E:Value->Shared->Prop},X.A.handled=none->s.heap.IsList l (intItems xs)->0<xs.size->(∀v h' tk,(intItems xs)[argBest (λi j=>cm (numAt xs i) (numAt xs j)) (xs.size-1)]?=some v->(∀b o,s.heap.get? b=some o->h'.get? b=some o)->Q v { s with heap:=h',toks:=tk })->wpAny (mX X) X.A (call (.builtin nm) [.ref l]) Q E s)(bg:∀(f:Nat->Int)(k j:Nat),j<=k->le (f j) (f (argBest (λi j=>cm (f i) (f j)) k))):Yi X (.builtin nm) (upC X.K Z (VL le two)):=by
 intro pins s σ H xs us Qv I rv h;obtain⟨r,S,ds,Q,bA,ps,q,ret⟩:=h;unfold VL at q;split at q
 .rename_i i j;obtain⟨v,vs,rfl,p1,p2⟩:=ps.uncons;obtain⟨v2,vs2,rfl,p3,p4⟩:=p2.uncons;have z:=p4.unnil;subst z;cases p1;cases p3;exact c2 pins s σ H _ us Qv I rv ⟨i,j,rfl,ret _ _ _ _ _ Ext.refl bA (.int _) q⟩
 .rename_i n;obtain⟨v,vs,rfl,p1,p2⟩:=ps.uncons;have z:=p2.unnil;subst z;split at q
  .rename_i o eo;split at q
   .rename_i ns en;obtain⟨hne,q⟩:=q;obtain⟨eo,eL⟩:=Xb eo;obtain⟨a,ha,ob⟩:=bA.at eo;cases p1 with
    | ref h1=>
     rw[h1] at ha;cases ha
     obtain⟨ys,sq,pr⟩:=ob.list eL;obtain⟨u,rfl,ru⟩:=WA rv;cases ru;obtain⟨aY,ri,pl,hz⟩:=I.list sq;obtain⟨zs,hz1,hz2⟩:=PH en pr ri;have hl:zs.length=ns.length:=by rw[<- hz2,zC]
     have hpos:0<ns.length:=List.length_pos_iff.mpr hne
     have isl:=pl.isList;rw[hz1] at isl;refine c1 (I.ok.hd hc) isl (by simp;omega) λv h' tk hv hk=>?_
     have hvi:=intItems_at hv;obtain⟨t,rfl⟩:=hvi;have hb:=LR (λi j=>cm (numAt zs.toArray i) (numAt zs.toArray j)) (zs.toArray.size-1)
     have hsz:zs.toArray.size=ns.length:=by simp[hl]
     refine⟨.int _,H,I.kept hk,⟨_,rfl⟩,ret _ _ _ _ _ Ext.refl bA (.int _) (q _ (HP hz2 (by omega)) λy hy=>?_)⟩;obtain⟨j,hj,ej⟩:=yP.mp hy;have e1:=OO hz2 (show ns[j]?=some y by simp[hj,ej]);rw[<- e1];exact bg _ _ j (by omega)
   .exact q.elim
  .exact q.elim
 .exact q.elim
theorem Wf (hc:X.calm=true):Yi X (.builtin "max") (upC X.K Z wMax):=Mn (λx y=>decide (x > y)) hc (Kv hc) max_intList Me
theorem WW (hc:X.calm=true):Yi X (.builtin "min") (upC X.K Z wMin):=Mn (λx y=>decide (x<y)) hc (DD hc) min_intList N4
def Ub:WC:=λds S Q=>match ds with
 | [.tup xs]=>Q (.int xs.length) S
 | [.ref n]=>match lAt S n with
  | some o=>Q (.int (Zk o).length) S
  | none=>False
 | _=>False
theorem Xo:Yi X (.builtin "len") (upC X.K Z Ub):=PR Gf λxs H Qv ⟨r,S,ds,Q,bA,ps,q,ret⟩=>by
 unfold Ub at q;split at q
 .rename_i ys;obtain⟨v,vs,rfl,p1,p2⟩:=ps.uncons;have z:=p2.unnil;subst z;obtain⟨a,zs,rfl,h1,h2⟩:=p1.untup;exact⟨a,zs,rfl,.inr (SqT.of h1),by rw[<- h2.1];exact ret _ _ _ _ _ Ext.refl bA (.int _) q⟩
 .rename_i n;obtain⟨v,vs,rfl,p1,p2⟩:=ps.uncons;have z:=p2.unnil;subst z;split at q
  .rename_i o eo;obtain⟨eo,eL⟩:=Xb eo;obtain⟨a,ha,ob⟩:=bA.at eo;cases p1 with
   | ref h1=>
    rw[h1] at ha;cases ha
    obtain⟨ys,sq,pr⟩:=ob.list eL;exact⟨_,ys,rfl,.inl sq,by rw[<- pr.1];exact ret _ _ _ _ _ Ext.refl bA (.int _) q⟩
  .exact q.elim
 .exact q.elim
def isTy (t T:String):Bool:=t==T||(t == "bool"&&T == "int")
def rInst (K:Fg):List V->Hp->VK->Prop:=λxs H Qv=>∃x T t b,xs=[x,.ty T]/\Xr K H x t/\W.kitOne K t (.type T)=some b/\Qv (.bl b) H
theorem KJ:Yi X (.builtin "isinstance") (rInst X.K):=by
 intro pins s σ H xs us Q I r h;obtain⟨x,T,t,b,rfl,ty,e,q⟩:=h;obtain⟨u,w',rfl,r1,r2⟩:=RQ r;cases r2;exact Iw I r1 ty e λtk=>⟨.bl b,H,I.tok tk,rfl,q⟩
end
section
variable {X:Cx}{Z:Zx}{st:Stmt}{Ye:List Stmt}{t u:TDS}{e:Expr}{te:TDE}{pos:Pos}
def dNext:TDS:=λE dl S=>E.nx dl S
def XX (t u:TDS):TDS:=λE dl S=>t { nx:=λdl' S'=>u E dl' S',rt:=E.rt,bk:=E.bk,ct:=E.ct } dl S
theorem Zy:Yy X Z [] dNext:=NA Jg λF σ H ⟨r,dl,S,E,rs,bA,h,ret⟩=>ret.nx σ H r dl S Ext.refl rs bA h
theorem Zd (h1:PDS X Z st t)(h2:Yy X Z Ye u):Yy X Z (st::Ye) (XX t u):=
 NA (Ko h1 h2) λF σ H ⟨r,dl,S,E,rs,bA,h,ret⟩=>⟨r,dl,S,_,rs,bA,h,λσ' H' r' dl' S' x rs' rel' q=>⟨r',dl',S',E,rs',rel',q,ret.ext x⟩,ret.bk,ret.ct,ret.rt⟩
theorem Zb (h1:PDS X Z st t):Yy X Z [st] t:=EU h1
def JR:TDS:=λE dl S=>E.bk dl S
theorem Cs:PDS X Z (.Break pos) JR:=YB KR λF σ H ⟨r,dl,S,E,rs,bA,h,ret⟩=>ret.bk σ H r dl S Ext.refl rs bA h
def dDrop (te:TDE):TDS:=λE dl S=>te dl S λ_ S1=>E.nx dl S1
theorem Yl (he:PD X Z e te)(hs:swapsWith e none pos.line X.env=pure false:=by rfl):PDS X Z (.Expr e pos) (dDrop te):=
 YB (Kk he hs) λF σ H ⟨r,dl,S,E,rs,bA,h,ret⟩=>⟨r,dl,S,_,rs,bA,h,λv H1 r1 d S1 x aC p q=>ret.nx σ H1 r1 dl S1 x (rs.ext x) aC q⟩
def dRet (te:TDE):TDS:=λE dl S=>te dl S E.rt
theorem Zi (he:PD X Z e te):PDS X Z (.Return (some e) pos) (dRet te):=
 YB (Hu he) λF σ H ⟨r,dl,S,E,rs,bA,h,ret⟩=>⟨r,dl,S,_,rs,bA,h,ret.rt⟩
def dRetN:TDS:=λE _ S=>E.rt .non S
theorem EF:PDS X Z (.Return none pos) dRetN:=YB Ji λF σ H ⟨r,dl,S,E,rs,bA,h,ret⟩=>ret.rt _ _ _ _ _ Ext.refl bA .non h
def dIf (c:TDT)(t u:TDS):TDS:=λE dl S=>c dl S λk S1=>if k=true then t E dl S1 else u E dl S1
theorem Zv (hc:PDT X Z c tc)(ha:Yy X Z a t)(hb:Yy X Z b u):PDS X Z (.If c a b pos) (dIf tc t u):=
 YB (ps_if hc ha hb) λF σ H ⟨r,dl,S,E,rs,bA,h,ret⟩=>⟨r,dl,S,_,rs,bA,h,λk H1 r1 S1 x aC q=>by
  cases k with
  | true=>exact YQ ⟨r1,dl,S1,E,rs.ext x,aC,(by simpa using q),ret.ext x⟩
  | false=>exact Y0 ⟨r1,dl,S1,E,rs.ext x,aC,(by simpa using q),ret.ext x⟩⟩
def V8 (i:Nat)(te:TDE):TDS:=λE dl S=>te dl S λd S1=>E.nx (dl.set i (some d)) S1
theorem VH (hN:X.N.Nodup)(hi:X.N[i]?=some x)(hx:Loc X.env.scope x)(he:PD X Z e te)(hs:swapsWith e (some (.Name x pos')) pos.line X.env=pure false:=by rfl)(hf:Hf X x:=by first|exact .inl rfl|exact .inr rfl|assumption):PDS X Z (.Assign [.Name x pos'] e pos) (V8 i te):=
 YB (JO hN hi hx he hs hf) λF σ H ⟨r,dl,S,E,rs,bA,h,ret⟩=>⟨r,dl,S,_,rs,bA,h,λv H1 r1 d S1 x aC p q=>ret.nx _ H1 r1 _ S1 x ((rs.ext x).set i p) aC q⟩
theorem Zj {i:Nat}{x:Str}{pos':Pos}(hN:X.N.Nodup)(he:PD X Z e te)(hi:X.N[i]?=some x:=by rfl)(hx:Loc X.env.scope x:=by exact Or.inl rfl)(hs:swapsWith e (some (.Name x pos')) pos.line X.env=pure false:=by rfl)
  (hf:Hf X x:=by first|exact .inl rfl|exact .inr rfl|assumption):PDS X Z (.Assign [.Name x pos'] e pos) (V8 i te):=VH hN hi hx he hs hf
def D7 (c:TDT)(tb:TDS):TDS:=λE dl S=>∃W:Nat->Ev->Sto->Prop,(∃m,W m dl S)/\∀m dl S,W m dl S->
 c dl S λk S1=>if k=true then tb { nx:=λdl' S'=>∃m',m'<m/\W m' dl' S',rt:=E.rt,bk:=E.nx,ct:=λdl' S'=>∃m',m'<m/\W m' dl' S' } dl S1 else E.nx dl S1
theorem Oc (hp:PassesOwn (mX X) X.A X.env X.xe)(hc:PDT X Z c tc)(hb:Yy X Z body tb):PDS X Z (.While c body [] pos) (D7 tc tb):=
 YB (E0 hp hc hb) λF σ H ⟨r,dl,S,E,rs,bA,⟨W,⟨m0,w0⟩,turn⟩,ret⟩=>by
  refine⟨λm σ' H'=>∃r' dl' S',Ext r r' H H'/\Rs r' H' dl' σ'/\Rel X.K Z r' S' H'/\W m dl' S',⟨m0,r,dl,S,Ext.refl,rs,bA,w0⟩,?_⟩;rintro m σ1 H1 ⟨r1,dl1,S1,x1,rs1,aC,w1⟩;refine⟨r1,dl1,S1,_,rs1,aC,turn m dl1 S1 w1,λk H2 r2 S2 x2 aE q2=>?_⟩;cases k with
  | true=>
   refine YQ ⟨λσ' H'=>∃m',m'<m/\∃r' dl' S',Ext r r' H H'/\Rs r' H' dl' σ'/\Rel X.K Z r' S' H'/\W m' dl' S',λ_ _ z=>z,r2,dl1,S2,_,rs1.ext x2,aE,(by simpa using q2),?_⟩;have go:∀σ' H' r' dl' S',Ext r2 r' H2 H'->Rs r' H' dl' σ'->Rel X.K Z r' S' H'->(∃m',m'<m/\W m' dl' S')->∃m',m'<m/\∃r' dl' S',Ext r r' H H'/\Rs r' H' dl' σ'/\Rel X.K Z r' S' H'/\W m' dl' S':=
    λσ' H' r' dl' S' x rs' rel' ⟨m',hm,w'⟩=>⟨m',hm,r',dl',S',x1.trans (x2.trans x),rs',rel',w'⟩
   exact⟨go,λσ' H' r' dl' S' x rs' rel' q=>ret.nx σ' H' r' dl' S' (x1.trans (x2.trans x)) rs' rel' q,go,ret.rt.ext (x1.trans x2)⟩
  | false=>exact Y0 (ret.nx σ1 H2 r2 dl1 S2 (x1.trans x2) (rs1.ext x2) aE (by simpa using q2))
theorem Us {X:Cx}{Z:Zx}{J:It}{F:Wo}{E:Xw}{tb:TDS}{g:TG}{r r1:List Addr}{H H1:Hp}{dl:Ev}{S1:Sto}{σ:St}(x1:Ext r r1 H H1)(rs:Rs r H dl σ)(aC:Rel X.K Z r1 S1 H1)(ret:UQ X.K Z r H E F)(W:Nat->Nat->Ev->Sto->Prop){m0:Nat}(w0:W 0 m0 dl S1)
  (step:∀k m r2 dl2 S2 σ2 H2,Ext r1 r2 H1 H2->Rs r2 H2 dl2 σ2->Rel X.K Z r2 S2 H2->W k m dl2 S2->J.stop k H2/\E.nx dl2 S2\/J.go k H2/\∃N:Ev->Sto->Prop,(∀d s,N d s->∃m',m'<m/\W (k+1) m' d s)/\∀x H',J.yld k H2 x H'->∀K:St->Hp->Prop,(∀σ3 H3 dl3,Ext r2 r2 H2 H3->Rs r2 H3 dl3 σ3->Rel X.K Z r2 S2 H3->tb { nx:=N,rt:=E.rt,bk:=E.nx,ct:=N } dl3 S2->K σ3 H3)->g x σ2 H' K):
  ∃W:Nat->Nat->St->Hp->Prop,(∃m,W 0 m σ H1)/\∀i m σ H,W i m σ H->J.stop i H/\F.nx σ H\/J.go i H/\∃N:St->Hp->Prop,(∀σ' H',N σ' H'->∃m',m'<m/\W (i+1) m' σ' H')/\∀x H',J.yld i H x H'->g x σ H' λσ2 H2=>upS X.K Z tb { F with nx:=N,ct:=N,bk:=F.nx } σ2 H2:=by
 refine⟨λk m σ' H'=>∃r' dl' S',Ext r1 r' H1 H'/\Rs r' H' dl' σ'/\Rel X.K Z r' S' H'/\W k m dl' S',⟨m0,r1,dl,S1,Ext.refl,rs.ext x1,aC,w0⟩,?_⟩;rintro k m σ2 H2 ⟨r2,dl2,S2,x2,rs2,aE,w2⟩;rcases step k m r2 dl2 S2 σ2 H2 x2 rs2 aE w2 with ⟨a,q⟩|⟨a,N,hN,st⟩
 .exact .inl ⟨a,ret.nx σ2 H2 r2 dl2 S2 (x1.trans x2) rs2 aE q⟩
 .refine .inr ⟨a,λσ' H'=>∃r' dl' S',Ext r1 r' H1 H'/\Rs r' H' dl' σ'/\Rel X.K Z r' S' H'/\N dl' S',λσ' H' z=>?_,λx H' y=>st x H' y _ λσ3 H3 dl3 x3 rs3 aF q=>?_⟩
  .obtain⟨r',dl',S',e1,e2,e3,e4⟩:=z;obtain⟨m',hm,w'⟩:=hN _ _ e4;exact⟨m',hm,r',dl',S',e1,e2,e3,w'⟩
  .have go:∀σ' H' r' dl' S',Ext r2 r' H3 H'->Rs r' H' dl' σ'->Rel X.K Z r' S' H'->N dl' S'->∃r' dl' S',Ext r1 r' H1 H'/\Rs r' H' dl' σ'/\Rel X.K Z r' S' H'/\N dl' S':=λσ' H' r' dl' S' x a b c=>⟨r',dl',S',x2.trans (x3.trans x),a,b,c⟩
   exact⟨r2,dl3,S2,_,rs3,aF,q,go,λσ' H' r' dl' S' x a b c=>ret.nx σ' H' r' dl' S' (x1.trans (x2.trans (x3.trans x))) a b c,go,ret.rt.ext (x1.trans (x2.trans x3))⟩
def dFor (i:Nat)(tl:TDE)(tb:TDS):TDS:=λE dl S=>tl dl S λd S1=>match d with
 | .ref n=>(lAt S1 n).isSome=true/\∃W:Nat->Nat->Ev->Sto->Prop,(∃m,W 0 m dl S1)/\∀k m dl S,W k m dl S->match lAt S n with
  | some o=>match (Zk o)[k]? with
   | some x=>tb { nx:=λdl' S'=>∃m',m'<m/\W (k+1) m' dl' S',rt:=E.rt,bk:=E.nx,ct:=λdl' S'=>∃m',m'<m/\W (k+1) m' dl' S' } (dl.set i (some x)) S
   | none=>E.nx dl S
  | none=>False
 | _=>False
theorem WV (hp:PassesOwn (mX X) X.A X.env X.xe)(hc:X.calm=true)(hN:X.N.Nodup)(hi:X.N[i]?=some x)(hx:Loc X.env.scope x)(hl:PD X Z aV tl)(hb:Yy X Z body tb)(hf:Hf X x:=by first|exact .inl rfl|exact .inr rfl|assumption)(hs:∀y,foldedSetIterable aV X.env y=pure y:=by intro _;rfl):PDS X Z (.For (.Name x pos') aV body [] pos) (dFor i tl tb):=
 YB (Um hp hc (RZ hl) (Ud hN hi hx hf) hb hs) λF σ H ⟨r,dl,S,E,rs,bA,h,ret⟩=>by
  refine⟨r,dl,S,_,rs,bA,h,λv H1 r1 d S1 x1 aC p1 q1=>?_⟩;cases p1 with
  | @ref n a hn=>
   obtain⟨aU,W,⟨m0,w0⟩,turn⟩:=q1;have sql:∀ {r':List Addr} {S':Sto} {H':Hp} {o:Ob},Ext r1 r' H1 H'->Rel X.K Z r' S' H'->lAt S' n=some o->∃xs,SqL X.K H' a xs/\Rps r' H' (Zk o) xs:=λ{r' S' H' o} x' rel' eo=>by
    obtain⟨eo,eL⟩:=Xb eo;obtain⟨a',ha,ob⟩:=rel'.at eo;rw[x'.adr n a hn] at ha;cases ha
    exact ob.list eL
   obtain⟨o1,eo1⟩:=yX.mp aU;obtain⟨xs1,sq1,_⟩:=sql Ext.refl aC eo1;refine⟨a,rfl,⟨xs1,sq1⟩,Us x1 rs aC ret W w0 λk m r2 dl2 S2 σ2 H2 x2 rs2 aE w2=>?_⟩;have q:=turn k m dl2 S2 w2;split at q
   .rename_i o eo;obtain⟨xs,sq,pr⟩:=sql x2 aE eo;split at q
    .rename_i y ey;obtain⟨v,hv,pv⟩:=pr.get ey;refine .inr ⟨⟨xs,v,sq,hv⟩,_,λ_ _ z=>z,λv' H' y' K hK=>?_⟩;obtain⟨rfl,y'⟩:=y';cases (y' xs sq).symm.trans hv;exact hK _ _ _ Ext.refl (rs2.set i pv) aE q
    .rename_i ey;exact .inl ⟨⟨xs,sq,by rw[<- pr.1];exact yY.mp ey⟩,q⟩
   .exact q.elim
  | _=>exact(show False from q1).elim
def dForR (i:Nat)(ta:TDA)(tb:TDS):TDS:=λE dl S=>ta dl S λds S1=>match ds with
 | [.int j]=>(-(2^62)<=j/\j<2^62)/\∃W:Nat->Ev->Sto->Prop,W 0 dl S1/\∀k dl S,W k dl S->
   if k<j.toNat then tb { nx:=λdl' S'=>W (k+1) dl' S',rt:=E.rt,bk:=E.nx,ct:=λdl' S'=>W (k+1) dl' S' } (dl.set i (some (.int k))) S else E.nx dl S
 | _=>False
theorem TH (hp:PassesOwn (mX X) X.A X.env X.xe)(hc:X.calm=true)(hN:X.N.Nodup)(hi:X.N[i]?=some x)(hx:Loc X.env.scope x)(hg:Gl X "range")(hm:X.mg "range"=none)(ha:PDA X Z [a] ta)(hb:Yy X Z body tb)(hf:Hf X x:=by first|exact .inl rfl|exact .inr rfl|assumption)(hs:∀y,foldedSetIterable (.Call (.Name "range" p) [a] [] pos) X.env y=pure y:=by intro _;rfl)(hst:starEach [a] X.env=[(false,eval a X.env)]:=by rfl):
  PDS X Z (.For (.Name x pos') (.Call (.Name "range" p) [a] [] pos) body [] aL) (dForR i ta tb):=
 YB (Um hp hc (QG hg hm ha hst) (Ud hN hi hx hf) hb hs) λF σ H ⟨r,dl,S,E,rs,bA,h,ret⟩=>by
  refine⟨r,dl,S,_,rs,bA,h,λvs H1 r1 ds S1 x1 aC p1 q1=>?_⟩;split at q1
  .rename_i j;obtain⟨v,vs',rfl,p2,p3⟩:=p1.uncons;have z:=p3.unnil;subst z;cases p2;obtain⟨⟨b1,b2⟩,W,w0,turn⟩:=q1;refine⟨j,rfl,b1,b2,Us x1 rs aC ret (λk m d s=>m=j.toNat-k/\W k d s) ⟨rfl,w0⟩ λk m r2 dl2 S2 σ2 H2 x2 rs2 aE w=>?_⟩;have q:=turn k dl2 S2 w.2;split at q
   .rename_i hk;refine .inr ⟨hk,_,λd s z=>⟨j.toNat-(k+1),by omega,rfl,z⟩,λv' H' y K hK=>?_⟩;obtain⟨rfl,rfl⟩:=y;exact hK _ _ _ Ext.refl (rs2.set i (by rw[vH];exact .int _)) aE q
   .rename_i hk;exact .inl ⟨by show j.toNat<=k;omega,q⟩
  .exact q1.elim
end
def YR (N:List Str)(ds:List D):Ev:=ds.map some++List.replicate (N.length-ds.length) none
theorem Jz {r:List Addr}{H:Hp}{N:List Str}{ds:List D}{vs:List V}(h:Rps r H ds vs):Rs r H (YR N ds) (L2.X4 N vs):=by
  refine⟨by simp[YR,L2.X4,h.1],λi d e=>?_⟩;unfold YR at e;by_cases hi:i<ds.length
  · rw[zL (by simpa using hi),zE] at e
    cases q:ds[i]? with
    | none=>
   rw[q] at e;cases e
    | some z=>
      rw[q] at e;cases e;obtain⟨v,hv,pv⟩:=h.get q;refine⟨v,?_,pv⟩;unfold L2.X4;rw[zL (by simpa [h.1] using hi),zE,hv];rfl
  · rw[yL (by simpa using hi),wF] at e
    split at e<;>cases e
section
variable {P:Program}{w:World}{K:Fg}{mg:Str->Option Value}{base:Heap}
abbrev Z0:Zx:=Zc (λ_ _=>False) (λ_ _ _=>False)
theorem Yq:X2 X Z0.w:=λ_ _ _ _ _ _ _ h=>by
 obtain⟨_,_,_,_,_,_,_,_,_,_,_,_,q⟩:=h;exact q.elim
theorem Vp {x qual:Str}{st:Stmt}{f:Addr}{fd:FuncData}{N ps:List Str}{k:Nat}{sd:Sd}(F:Fun K x qual st f fd)(Sc:YF N ps (Zw st))(len:∀ds S Q ex,sd ds S Q ex->ds.length=ps.length)
  (hbody:∀(cdv:Value)(A:Around)(outer:List Env)(s:Shared)(H:Hp)(E:XK),fd.code=cdv->ZG k (A.deeper (envOfC qual (Zw st) s.heap.objs.size f cdv))->
   ∃t,Yy (Xl (CXE P w) P w K mg base N qual (Zw st) f cdv A outer s H E).nox Z0 (YS st) t/\∀ds S Q ex,sd ds S Q ex->t { nx:=λ_ S'=>Q .non S',rt:=Q } (YR N ds) S):Yc P w K mg base (CXE P w) (k+1) f fd ps (upF K sd):=by
 obtain⟨oc,od,kV,doc,pm,an,cdv,ct,osl,rfl,lk,hcd⟩:=F.ex;refine OE lk hcd Sc (λvs H Q E h=>?_) λA outer s H vs Q E hr h=>?_
 .obtain⟨ex,r,S,ds,Q',bA,p,q,ret⟩:=h;rw[<- p.1];exact len ds S Q' ex q
 .obtain⟨ex,r,S,ds,Q',bA,p,q,ret⟩:=h;obtain⟨t,ht,hq⟩:=hbody cdv A outer s H E rfl hr;have back:∀ {H':Hp} {r':List Addr} {S':Sto},Ext r r' H H'->Rel K Z0 r' S' H'->Rel K (Zc ex E) r' S' H':=λx rel'=>⟨rel'.b,bA.xw.ext x⟩
  refine⟨upS K Z0 t,ht.nox,r,YR N ds,S,_,Jz p,⟨bA.b,λ_ _ _ _ _ _ _ _ _ z=>z.elim⟩,hq ds S Q' ex q,?_,?_,?_,?_⟩
  .intro σ' H' r' dl' S' x _ rel' z;exact ret .non H' r' .non S' x (back x rel') .non z
  .intro σ' H' r' dl' S' x _ rel' z;exact z
  .intro σ' H' r' dl' S' x _ rel' z;exact z
  .intro v H' r' d S' x rel' p' z;exact ret v H' r' d S' x (back x rel') p' z
end
open PySem
def Sz (n:Nat)(i:Int):Prop:=i.natAbs<2^n
theorem Sz.mono (h:Sz m i)(hn:m<=n):Sz n i:=zS h (uR ⋯ hn)
theorem Sz.bits (h:Sz n i):Builtin.Int.intBits i<=n:=by
 unfold Builtin.Int.intBits;split
 .exact zJ _
 .rename_i hz;have hp:i.natAbs≠0:=by
   intro z;have z2:i=0:=by omega
   simp[z2] at hz
  have:=(vI hp).mpr h;omega
theorem ZD (hi:Sz m i)(hj:Sz n j)(hm:m<=1048576:=by decide)(hn:n<=1048576:=by decide):IntMulOk i j:=by
 exact IntMulOk.of_bits (yF hi.bits (by omega)) (yF hj.bits (by omega))
theorem Sz.of {n:Nat}{i:Int}(m:Nat)(h:i.natAbs<=m)(hm:m<2^n:=by decide):Sz n i:=xP h hm
theorem Sz.mul (hi:Sz m i)(hj:Sz n j):Sz (m+n) (i*j):=by
 unfold Sz at *
 rw[Nat.pow_add,Int.natAbs_mul];exact Nat.mul_lt_mul'' hi hj
theorem Sz.add (hi:Sz m i)(hj:Sz n j):Sz (max m n+1) (i+j):=by
 have h1:Sz (max m n) i:=hi.mono (Nat.le_max_left _ _)
 have h2:Sz (max m n) j:=hj.mono (Nat.le_max_right _ _);unfold Sz at *
 have e:(2:Nat)^(max m n+1)=2^max m n+2^max m n:=by rw[vJ];omega
 omega
theorem Sz.neg (hi:Sz m i):Sz m (-i):=by
 unfold Sz at *
 rw[Int.natAbs_neg];exact hi
theorem Sz.sub (hi:Sz m i)(hj:Sz n j):Sz (max m n+1) (i-j):=by
 rw[Int.sub_eq_add_neg];exact hi.add hj.neg
theorem Sz.log (h:Sz n i)(hi:i≠0)(hn:n<=9000:=by decide):i.natAbs.log2<9000:=by
 have:=(vI (by omega:i.natAbs≠0)).mpr h;omega
theorem Sz.fd {n:Nat}{i:Int}(h:Sz n i)(hi:0<i)(hn:n<=9000:=by decide):0<i/\i.natAbs.log2<9000:=⟨hi,h.log (by omega) hn⟩
theorem Xz {a b:Int}(hb:0<b):0<=a%b/\a%b<b:=⟨vK _ (by omega),wK _ hb⟩
example (x:Int):-(10^40)<=x%(2*10^40+1)-10^40:=by omega
example (x:Int):x%(2*10^40+1)-10^40<=10^40:=by omega
example (x:Int) (h:-(10^40)<=x) (h2:x<=2*10^41):Sz 140 x:=Sz.of (2*10^41) (by omega)
theorem K5 (a b:Int):Int.gcd b (a%b)=Int.gcd a b:=by
 rw[Int.emod_def,show a-b*(a/b)=a-(a/b)*b by rw[xQ],Int.gcd_sub_mul_right_right,Int.gcd_comm]
def Wa (i:Int):Int:=if i<0 then -i else i
theorem Mb (i:Int):0<=Wa i:=by unfold Wa;split<;>omega
theorem G8 (a b:Int):Int.gcd (Wa a) (Wa b)=Int.gcd a b:=by
 have h:∀i:Int,(Wa i).natAbs=i.natAbs:=λi=>by unfold Wa;split<;>omega
 unfold Int.gcd;rw[h,h]
theorem HJ (m:Int)(hg:0<g):m/g*g<=m/\m<(m/g+1)*g:=by
 have h1:=wL m g
 have h2:=vK m (show g≠0 by omega)
 have h3:=wK m hg
 have e:(m/g+1)*g=g*(m/g)+g:=by grind
 have e2:m/g*g=g*(m/g):=xQ _ _;omega
def wIf (C:Int->Int->Bool)(g:Int->Int->D):W2:=λx y S Q=>match x,y with
 | .int i,.int j=>if C i j=true then Q (g i j) S else False
 | _,_=>False
theorem opIf (h:OpR X f (upO X.K Z (wI C g)))(hc:∀i j,C' i j=true->C i j):OpR X f (upO X.K Z (wIf C' g)):=
 Vv h λx y H Qv ⟨r,S,dx,dy,Q,bA,px,py,q,ret⟩=>⟨r,S,dx,dy,Q,bA,px,py,by
  unfold wIf at q;split at q
  .obtain⟨h1,h2⟩:=Rc q;exact⟨hc _ _ h1,h2⟩
  .exact q.elim,ret⟩
def SF (_ j:Int):Bool:=decide (0<j)&&decide (j<1073741824)
abbrev BN:W2:=wIf SF λi j=>.int (i/j)
abbrev wModL:W2:=wIf SF λi j=>.int (i%j)
def powB (i j:Int):Bool:=decide (0<=j)&&decide (j<=1000)&&decide (-1000<i)&&decide (i<1000)
abbrev wPowL:W2:=wIf powB λi j=>.int (i^j.toNat)
theorem OQ (h:SF i j=true):0<j/\j<1073741824:=by
 unfold SF at h;simpa using h
theorem Yz:OpR X (binaryOp .FloorDiv) (upO X.K Z BN):=opIf Xu λi j h=>by
 obtain⟨h1,h2⟩:=OQ h;refine⟨h1,?_⟩;have:j.natAbs.log2<30:=(vI (by omega)).mpr (by omega);omega
theorem Yr:OpR X (binaryOp .Mod) (upO X.K Z wModL):=opIf Xh λi j h=>(OQ h).1
theorem Ue:OpR X (binaryOp .Pow) (upO X.K Z wPowL):=opIf Co λi j h=>by
 unfold powB at h;simp at h;refine⟨h.1.1.1,by have:=h.1.1.2;omega,?_⟩;omega
structure Df (K:Fg)(mg:Str->Option Value)(x:Str)(st:Stmt)(ps:List Str) where
 f:Addr
 fd:FuncData
 F:Fun K x x st f fd
 m:mg x=some (.ref f)
 b:YG K fd ps []
structure Fk (P:Program)(w:World)(K:Fg)(mg:Str->Option Value)(base:Heap)(k:Nat)(x:Str)(ps:List Str)(sd:Sd) where
 f:Addr
 fd:FuncData
 ok:Yc P w K mg base (CXE P w) k f fd ps (upF K sd)
 m:mg x=some (.ref f)
 kp:W.keepIn K (.ref f)=true
 b:YG K fd ps []
def Df.mk' {P:Program}{w:World}{K:Fg}{mg:Str->Option Value}{base:Heap}{k:Nat}{x:Str}{st:Stmt}{ps:List Str}{sd:Sd}(d:Df K mg x st ps)(h:Yc P w K mg base (CXE P w) k d.f d.fd ps (upF K sd)):Fk P w K mg base k x ps sd:=
 ⟨d.f,d.fd,h,d.m,d.F.kp,d.b⟩
theorem PF (G:Fk X.prog X.w X.K X.mg X.base k x ps sd)(hr:ZG k X.A)(hx:X2 X W)(hg:Gl X x)(ha:PDA X ⟨ex,W⟩ (e::es) t)(hdb:(x==("__debug__":Str))=false:=by decide)(he:He X e es:=by rfl)(hpl:Hp1 X pos es:=by rfl):
  PD X ⟨ex,W⟩ (.Call (.Name x p) (e::es) [] pos) (Qd ex sd t):=CQ G.ok hr hg G.m G.kp G.b hx ha hdb he hpl
theorem Di {st:Stmt}:PDS X Z st (λ_ _ _=>False):=YB K4 λF σ H ⟨_,_,_,_,_,_,h,_⟩=>h
theorem Cr {r:List Addr}{H:Hp}(ns:List Int):Rps r H (ns.map D.int) (ns.map V.int):=by
 refine⟨by simp,λi d v h1 h2=>?_⟩;rw[zE] at h1 h2;cases q:ns[i]? with
 | none=>rw[q] at h1;cases h1
 | some z=>
  rw[q] at h1 h2;cases h1;cases h2;exact .int z
theorem ifF {c:Bool}{A B:Prop}(h:c=false)(b:B):if c=true then A else B:=by rw[h];exact Y0 b
theorem ifP {c A B:Prop} [Decidable c] (h:c)(a:A):if c then A else B:=by rw[if_pos h];exact a
theorem ifD {c:Prop} [Decidable c] {A B:Prop}(h1:c->A)(h2:¬ c->B):if decide c=true then A else B:=by
 by_cases h:c
 .rw[decide_eq_true h];exact YQ (h1 h)
 .rw[decide_eq_false h];exact Y0 (h2 h)
open PySem L2
open PySem L2
theorem Sz.pow (h:Sz n i)(k:Nat):Sz (n*k+1) (i^k):=by
 unfold Sz at *
 rw[vL,vJ,Nat.pow_mul];have h1:i.natAbs^k<=(2^n)^k:=Nat.pow_le_pow_left (yU h) k
 have h2:0<(2^n)^k:=yJ (yJ ⋯);omega
theorem ifN {c:Prop} [Decidable c] {A B:Prop}(h1:¬ c->A)(h2:c->B):if (!decide c)=true then A else B:=by
 by_cases h:c
 .rw[decide_eq_true h];exact L2.Y0 (h2 h)
 .rw[decide_eq_false h];exact L2.YQ (h1 h)
section
variable {X:Cx}{Z:Zx}
end
structure Vb (k:Nat)(A:Around):Prop where
 dp:A.depth+3*k+5<recursionLimit
 un:A.units+16*k+200<cLine
theorem Vb.mono (r:Vb k A)(h:j<=k):Vb j A:=⟨by have:=r.dp;omega,by have:=r.un;omega⟩
theorem Vb.deeper {k:Nat}{A:Around}(r:Vb (k+1) A)(env:Env):Vb k (A.deeper env):=
 ⟨by have:=r.dp;show A.depth+1+3*k+5<_;omega,by have:=r.un;show A.units+3+16*k+200<_;omega⟩
structure FnOkN (P:Program)(w:World)(K:Fg)(mg:Str->Option Value)(base:Heap)(k:Nat)(f:Addr)(fd:FuncData)(ps:List Str)(sp:Sp):Prop where
 len:∀vs H Q E,sp vs H Q E->vs.length=ps.length
 run:∀(A:Around)(outer:List Env)(s:Shared)(H:Hp)(args:Args)(us:List Value)(vs:List V)(Q:VK)(E:XK),Vb k A->WI P w K mg base A outer s H->BindsTo s fd args (ps.zip us)->Zq vs us->sp vs H Q E->
  codeAny (model P w) A (.call (.ref f) args) (CR (CXE P w) outer P w H s Q E) s
section
variable {X:Cx}{k:Nat}{f:Addr}{fd:FuncData}{ps:List Str}{sp:Sp}{W:St->XK}{x:Str}{p pos:Pos}{e:Expr}{es:List Expr}{t:TA}
end
section
variable {X:Cx}{Z:Zx}{x:Str}{p pos:Pos}{e:Expr}{es:List Expr}{t:TDA}
end
section
variable {P:Program}{w:World}{K:Fg}{mg:Str->Option Value}{base:Heap}
end
structure FkN (P:Program)(w:World)(K:Fg)(mg:Str->Option Value)(base:Heap)(k:Nat)(x:Str)(ps:List Str)(sd:Sd) where
 f:Addr
 fd:FuncData
 ok:FnOkN P w K mg base k f fd ps (upF K sd)
 m:mg x=some (.ref f)
 kp:W.keepIn K (.ref f)=true
 b:YG K fd ps []
theorem SV {r:List Addr}{H:Hp}{a:Addr}{o:HO}(h:H a=none):Ext r r H (upd H a o):=⟨λ_ _ q=>q,λ_ _ q=>XW h _ _ q,λ_ _ q=>XW h _ _ q⟩
abbrev VE:List Value:=[.type "ValueError",.type "Exception",.type "BaseException",.type "object"]
structure Ec (K:Fg)(mg:Str->Option Value)(x:Str) where
 c:Addr
 xc:Xc K mg x c VE "ValueError.__new__"
theorem Sz.div (h:Sz n i)(hj:1<=j):Sz n (i/j):=by
 refine xP ?_ h;obtain⟨h1,h2⟩:=HJ i (show 0<j by omega);by_cases q:0<=i/j
 .have:=vM hj q;omega
 .have:=vM hj (show 0<=-(i/j+1) by omega)
  have e:-(i/j+1)*j=-((i/j+1)*j):=zZ _ _;omega
inductive Sco (n:Nat):D->Prop
 | non:Sco n .non
 | bl (b:Bool):Sco n (.bl b)
 | int (i:Int):Sco n (.int i)
 | str (x:Str):Sco n (.str x)
 | tup {ds:List D}:(∀d∈ds,Sco n d)->Sco n (.tup ds)
 | ref {m:Nat}:m<n->Sco n (.ref m)
 | exc (c:Addr):Sco n (.exc c)
theorem Rp.sco {r:List Addr}{H:Hp}{d:D}{v:V}(h:Rp r H d v):Sco r.length d:=by
 induction h with
 | non=>exact .non
 | bl b=>exact .bl b
 | int i=>exact .int i
 | str x=>exact .str x
 | @tup ds xs a _ l _ ih=>
  refine .tup λd hd=>?_
  obtain⟨i,hi,e⟩:=yP.mp hd;exact ih i d xs[i] (by simp[hi,e]) (by simp[l ▸ hi])
 | ref h=>exact .ref (zA.mp h).1
 | exc _=>exact .exc _
theorem Rp.low {r r':List Addr}{H:Hp}{d:D}{v:V}(h:Rp r' H d v)(low:∀m a,m<r.length->r'[m]?=some a->r[m]?=some a)(s:Sco r.length d):Rp r H d v:=by
 induction h with
 | non=>exact .non
 | bl b=>exact .bl b
 | int i=>exact .int i
 | str x=>exact .str x
 | tup e l f ih=>
  cases s with
  | tup s=>exact .tup e l λi d v h1 h2=>ih i d v h1 h2 (s d (zF h1))
 | ref h=>
  cases s with
  | ref s=>exact .ref (low _ _ s h)
 | exc h=>exact .exc h
def Pre (S S':Sto):Prop:=∀(n:Nat)(o:Ob),S[n]?=some o->S'[n]?=some o
theorem Pre.refl {S:Sto}:Pre S S:=λ_ _ h=>h
theorem Pre.push {S S':Sto}{o:Ob}(h:Pre S S'):Pre S (S'++[o]):=λn u e=>by
 have z:=h n u e;rw[zL (zA.mp z).1];exact z
theorem Pre.trans {S S' S2:Sto}(h:Pre S S')(k:Pre S' S2):Pre S S2:=λn o e=>k n o (h n o e)
theorem VY {r r':List Addr}{H H':Hp}(e:Ext r r' H H'):∀m a,m<r.length->r'[m]?=some a->r[m]?=some a:=λm a hm h=>by
 have z:r[m]?=some r[m]:=by simp[hm]
 rw[e.adr _ _ z] at h;rw[z];exact h
theorem ZV.low {K:Fg}{r r':List Addr}{S S':Sto}{H H':Hp}(h:ZV K r S H)(e:Ext r r' H H')(h':ZV K r' S' H')(p:Pre S S'):ZV K r S H':=by
 have rl:∀ {ds:List D} {xs ys:List V},Rps r H ds xs->Rps r' H' ds ys->Rps r H' ds ys:=λ{ds xs ys} a b=>⟨b.1,λi d v h1 h2=>by
  obtain⟨v0,_,q⟩:=a.get h1;exact(b.2 i d v h1 h2).low (VY e) q.sco⟩
 refine⟨h.len,λn a o h1 h2=>?_,λn m a xs ys h1 h2 h3 h4 o1 o2=>h'.nd n m a xs ys (e.adr _ _ h1) (e.adr _ _ h2) (p _ _ h3) (p _ _ h4) o1 o2⟩;have q:=h.ob n a o h1 h2
 have q':=h'.ob n a o (e.adr _ _ h1) (p _ _ h2);cases o with
 | lst ds=>
  obtain⟨xs,_,a1⟩:=q;obtain⟨ys,b0,b1⟩:=q';exact⟨ys,b0,rl a1 b1⟩
 | frz ds=>
  obtain⟨xs,_,a1⟩:=q;obtain⟨ys,b0,b1⟩:=q';exact⟨ys,b0,rl a1 b1⟩
 | ins C fs=>
  obtain⟨_,_,_,a1⟩:=q;obtain⟨dx,fs',b0,b1⟩:=q';exact⟨dx,fs',b0,b1.1,rl a1.2 b1.2⟩
 | dct aW=>
  obtain⟨_,_,a1⟩:=q;obtain⟨ks,b0,b1⟩:=q';exact⟨ks,b0,b1.1,rl a1.2 b1.2⟩
 | dck aW=>
  obtain⟨_,_,a1⟩:=q;obtain⟨ks,b0,b1⟩:=q';exact⟨ks,b0,b1.1,rl a1.2 b1.2⟩
 | tpl ws=>exact q'
 | cod P pos q0=>exact q'
def Gc (S:Sto)(Q:DK):DK:=λd S'=>Pre S S'/\Sco S.length d/\Q d S
def GcX (S:Sto)(ex:Addr->Sto->Prop):Addr->Sto->Prop:=λc S'=>Pre S S'/\ex c S
theorem Ret.gc {K:Fg}{Z Z':Zx}{r:List Addr}{S:Sto}{H:Hp}{Q:DK}{Qv:VK}(h:Ret K Z r H Q Qv)(bA:Rel K Z r S H):Ret K Z' r H (Gc S Q) Qv:=λv H' r' d S' e rel' p q=>by
 obtain⟨pre,sc,q⟩:=q;have e':Ext r r H H':=⟨λ_ _ z=>z,e.tup,e.xc⟩;rw[<- bA.len] at sc;exact h v H' r d S e' ⟨bA.b.low e rel'.b pre,bA.xw.ext e'⟩ (p.low (VY e) sc) q
theorem Vg.gc {K:Fg}{ex:Addr->Sto->Prop}{E:XK}{r:List Addr}{S:Sto}{H:Hp}(bA:Rel K (Zc ex E) r S H):Vg K (Zc (GcX S ex) E) r H:=λdl σ c H' r' S' e _ rb q=>by
 obtain⟨pre,q⟩:=q;have e':Ext r r H H':=⟨λ_ _ z=>z,e.tup,e.xc⟩;exact bA.xw [] [] c H' r S e' ⟨rfl,λi d z=>by simp at z⟩ (bA.b.low e rb pre) q
section
variable {P:Program}{w:World}{K:Fg}{mg:Str->Option Value}{base:Heap}
def gcS (sd:Sd):Sd:=λds S Q ex=>∃Q0 ex0,Q=Gc S Q0/\ex=GcX S ex0/\sd ds S Q0 ex0
theorem fn_gc (h:Yc P w K mg base CX k f fd ps (upF K (gcS sd))):Yc P w K mg base CX k f fd ps (upF K sd):=by
 have imp:∀vs H Q E,upF K sd vs H Q E->upF K (gcS sd) vs H Q E:=λvs H Qv E ⟨ex,r,S,ds,Q,bA,p,q,ret⟩=>
  ⟨GcX S ex,r,S,ds,Gc S Q,⟨bA.b,Vg.gc bA⟩,p,⟨Q,ex,rfl,rfl,q⟩,ret.gc bA⟩
 obtain⟨h1,h2⟩:=h;exact⟨λvs H Q E q=>h1 vs H Q E (imp vs H Q E q),λA outer s H args us vs Q E hr e0 hb rv q=>h2 A outer s H args us vs Q E hr e0 hb rv (imp vs H Q E q)⟩
end
theorem JQ (len:∀ds S Q ex,sd ds S Q ex->ds.length=n):∀ds S Q ex,gcS sd ds S Q ex->ds.length=n:=λds S Q ex h=>by
 obtain⟨Q0,ex0,_,_,h⟩:=h;exact len _ _ _ _ h
structure WD (sc around:Scope)(x:Str)(caps:List Str):Prop where
 kind:sc.kind=.function
 nocell:∀y∈sc.names,y.2≠.cell
 own:∀y∈sc.names,y.2=.local->sc.names.lookup y.1=some .local
 loc:sc.names.lookup x=some .local
 cap:∀y∈caps,sc.names.lookup y=some .free
 out:∀y∈sc.names,y.2=.free->around.names.lookup y.1=some .cell
theorem VW {α:Type}{y:Str}{v:α}:∀ {l:List (Str×α)},l.lookup y=some v->(y,v)∈l
 | [],h=>by simp at h
 | (n,k)::r,h=>by
  cases e:y==n with
  | true=>
   rw[zW,e] at h;have z:k=v:=Option.some.inj h
   have z2:y=n:=by simpa using e
   rw[z,z2];exact yV
  | false=>
   rw[zW,e] at h;exact yI _ (VW h)
theorem R7:∀(l:List (Str×NameKind))(acc:List (Str×Addr)),(∀y∈l,y.2=.free->∃c,env.cells.lookup y.1=some c)->(∀x c,acc.lookup x=some c->env.cells.lookup x=some c)->
  ∃cl,(forIn l acc λx r=>(if (x.2==NameKind.free)=true then do let a <- cellOf env x.1;pure (ForInStep.yield ((x.1,a)::r)) else pure (ForInStep.yield r):Sem (ForInStep (List (Str×Addr)))))=pure cl/\
   (∀x c,cl.lookup x=some c->env.cells.lookup x=some c)/\(∀y∈l,y.2=.free->cl.lookup y.1=env.cells.lookup y.1)/\∀x c,acc.lookup x=some c->∃c',cl.lookup x=some c'
 | [],acc,_,ha=>⟨acc,by simp,ha,λy hy=>(by cases hy),λx c e=>⟨c,e⟩⟩
 | (n,k)::r,acc,h,ha=>by
  cases hk:(k==NameKind.free) with
  | false=>
   obtain⟨cl,h1,h2,h3,h4⟩:=R7 r acc (λy hy=>h y (yI _ hy)) ha;refine⟨cl,?_,h2,λy hy hf=>?_,h4⟩
   .rw[uS];simp[hk];simpa using h1
   .have hy':=zY.mp hy;rcases hy' with rfl|hy
    .rw[show k=NameKind.free from hf] at hk;exact absurd hk ⋯
    .exact h3 y hy hf
  | true=>
   have hf:k=NameKind.free:=by simpa using hk
   obtain⟨c,hc⟩:=h (n,k) yV hf;obtain⟨cl,h1,h2,h3,h4⟩:=R7 r ((n,c)::acc) (λy hy=>h y (yI _ hy)) (λx c' e=>by
    cases q:x==n with
    | true=>
     rw[zW,q] at e;have z:x=n:=by simpa using q
     rw[z,hc];exact e
    | false=>
     rw[zW,q] at e;exact ha x c' e)
   refine⟨cl,?_,h2,λy hy hf=>?_,λx c' e=>?_⟩
   .have ec:cellOf env n=pure c:=by unfold cellOf;rw[hc]
    rw[uS];simp[hk,ec];simpa using h1
   .have hy':=zY.mp hy;rcases hy' with rfl|hy
    .obtain⟨c',e⟩:=h4 n c (by simp);rw[e];exact(h2 _ _ e).symm
    .exact h3 y hy hf
   .refine h4 x (if x==n then c else c') ?_;cases q:x==n with
    | true=>simp[zW,q]
    | false=>simp[zW,q,e]
theorem Lp (h:∀y∈sc.names,y.2=.free->∃c,env.cells.lookup y.1=some c):
  ∃cl,closureFor sc env=pure cl/\(∀x c,cl.lookup x=some c->env.cells.lookup x=some c)/\∀y∈sc.names,y.2=.free->cl.lookup y.1=env.cells.lookup y.1:=by
 obtain⟨cl,h1,h2,h3,_⟩:=R7 sc.names [] h (λx c e=>by simp at e);refine⟨cl,?_,h2,h3⟩;unfold closureFor;simp only[bind_pure];exact h1
theorem LO {env:Env}:∀ {names:List (Str×NameKind)} {x:Str},names.lookup x=some .free->
  (names.map λ(n,k)=>if (k==NameKind.free&&env.scope.kind==.function&&env.kindOf n==some .cell) then (n,NameKind.cell) else (n,k)).lookup x=some .cell\/
  (names.map λ(n,k)=>if (k==NameKind.free&&env.scope.kind==.function&&env.kindOf n==some .cell) then (n,NameKind.cell) else (n,k)).lookup x=some .free
 | [],_,h=>by simp at h
 | (n,k)::r,x,h=>by
  have ih:=@LO env r x;rw[xB];cases hx:x==n with
  | true=>
   rw[zW,hx] at h;have hk:k=.free:=Option.some.inj h;subst hk;dsimp only;split
   .left;simp[zW,hx]
   .right;simp[zW,hx]
  | false=>
   rw[zW,hx] at h;dsimp only;split
   .simp only[zW,hx];exact ih h
   .simp only[zW,hx];exact ih h
theorem Og {env:Env}:∀ {names:List (Str×NameKind)} {x:Str},(∀y∈names,y.2≠.cell)->
  ((names.map λ(n,k)=>if (k==NameKind.free&&env.scope.kind==.function&&env.kindOf n==some .cell) then (n,NameKind.cell) else (n,k)).lookup x=some .cell\/
  (names.map λ(n,k)=>if (k==NameKind.free&&env.scope.kind==.function&&env.kindOf n==some .cell) then (n,NameKind.cell) else (n,k)).lookup x=some .free)->names.lookup x=some .free
 | [],_,_,h=>by simp at h
 | (n,k)::r,x,hc,h=>by
  have ih:=@Og env r x λy hy=>hc y (yI _ hy)
  rw[xB] at h;cases hx:x==n with
  | true=>
   rw[zW,hx];dsimp only at h;split at h
   .rename_i q;simp at q;have hk:k=.free:=by simpa using q.1.1
    rw[hk]
   .simp only[zW,hx] at h;rcases h with h|h
    .exact absurd (Option.some.inj h) (hc (n,k) yV)
    .exact h
  | false=>
   rw[zW,hx];dsimp only at h;split at h
   .simp only[zW,hx] at h;exact ih h
   .simp only[zW,hx] at h;exact ih h
abbrev Cx.comp (X:Cx)(sc:Scope)(N:List Str)(cl:List (Str×Addr))(C:Addr)(s0:Shared)(H0:Hp)(fp:List Addr)(pn:LA):Cx:=
 { X with N:=N,env:=compEnvC sc cl C X.env,s₀:=s0,H₀:=H0,outer:=X.stack,stack:=X.stack,ex:=fp,fn:=λ_=>false,pn:=pn,xe:=λ_ _=>False }
def Yd (caps:List Nat)(σ:St):St:=caps.map λj=>(σ[j]?).join
def Z9 (caps:List Nat)(dl:Ev):Ev:=caps.map λj=>(dl[j]?).join
def Uq (caps:List Nat)(wi:TI)(tc:TT)(te:TE):TE:=λσ H Q=>wi σ H λJ H1=>∀D,H1 D=none->∃W:Nat->Nat->Hp->Prop,(∃m,W 0 m (upd H1 D (.lst [])))/\∀i m H,W i m H->
 (J.stop i H/\Q (.ref D) H)\/(J.go i H/\∀x H',J.yld i H x H'->tc (some x::Yd caps σ) H' λb H2=>if b=true then te (some x::Yd caps σ) H2 λy H3=>∃ys,H3 D=some (.lst ys)/\ys.length<sizeLine/\∃m',m'<m/\W (i+1) m' (upd H3 D (.lst (ys++[y])))
  else ∃m',m'<m/\W (i+1) m' H2)
def PTs (Y:Cx)(ifs:List Expr)(tc:TT):Prop:=∀(pins:LA)(s:Shared)(σ:St)(H:Hp)(Q:Bool->Hp->Prop),Inv Y pins σ H s->tc σ H Q->
 wpAny (model Y.prog Y.w) Y.A (forIn ifs true λc r=>if r=true then do let ok <- isTrue c Y.env (eval c Y.env);pure (ForInStep.yield ok) else pure (ForInStep.yield r)) (TP Y pins σ Q) Y.xe s
theorem LN:PTs Y [] (λ_ H Q=>Q true H):=λ_ _ _ H _ I h=>wpAny_tests_nil ⟨H,I,h⟩
theorem JZ (h:PT Y c tc):PTs Y [c] tc:=λpins s σ H Q I q=>wpAny_tests_one (h pins s σ H Q I q)
section
variable {X:Cx}{pins:LA}{σ:St}{H:Hp}{s:Shared}
end
structure UK (X:Cx)(pins:LA)(σ:St)(C:Addr)(Q:VK)(D:Addr)(s':Shared):Prop where
 q:∃H',Inv X pins σ H' s'/\Q (.ref D) H'/\H' C=none
 ns:∃m,s'.heap.Ns C m
 loc:C≠X.env.locals
 old:X.s₀.heap.objs.size<=C
 cell:∀x c,X.env.cells.lookup x=some c->c≠C
 pin:∀p∈X.pn++pins,p.1≠C
theorem D6 {aX aV:Expr}{tg:Expr}{ifs:List Expr}{scope:Scope}{pos:Pos}{it acc:Value}{env:Env}{R:Result->Shared->Prop}(I:Nat->Shared->Prop)
  (turn:∀n s,I n s->wpAny (model prog w) A (pyNext it) (λr s1=>match r with
   | none=>R (.ok .next) s1
   | some v=>wpAny (model prog w) A (letOwnedTupleGo tg it v) (λ_ s2=>wpAny (model prog w) A (assign tg env v) (λ_ s3=>
     wpAny (model prog w) A (forIn ifs true λc r=>if r=true then do let ok <- isTrue c env (eval c env);pure (ForInStep.yield ok) else pure (ForInStep.yield r)) (λok s4=>
      if ok=true then wpAny (model prog w) A (eval aX env) (λx s5=>
       wpAny (model prog w) A (call (.builtin "list.append") [acc,x]) (λ_ s6=>∃m,m<n/\I m s6) (notedBy (model prog w) A env λe s'=>R (.error e) s') s5) (notedBy (model prog w) A env λe s'=>R (.error e) s') s4
      else ∃m,m<n/\I m s4) (notedBy (model prog w) A env λe s'=>R (.error e) s') s3)
     (notedBy (model prog w) A env λe s'=>R (.error e) s') s2) (notedBy (model prog w) A env λe s'=>R (.error e) s') s1) (notedBy (model prog w) A env λe s'=>R (.error e) s') s)
  (n:Nat)(h:I n s):codeAny (model prog w) A (.compLoop (.ListComp aX [⟨tg,aV,ifs,0⟩] scope pos) 0 it acc env) R s:=by
 refine codeAny_loop rfl I (λj t hI=>?_) n h;refine wpAny_noted ?_;refine wpAny_bind (wpAny_standAt (wpAny_bind (wpAny_mono (turn j t hI) (λr s1 h1=>?_) λ_ _ z=>z)));cases r with
 | none=>exact wpAny_pure h1
 | some v=>
  refine wpAny_bind (wpAny_mono h1 (λ_ s2 h2=>?_) λ_ _ z=>z);refine wpAny_bind (wpAny_mono h2 (λ_ s3 h3=>wpAny_bind (wpAny_mono h3 (λok s4 h4=>?_) λ_ _ z=>z)) λ_ _ z=>z);cases ok with
  | false=>exact wpAny_pure ⟨rfl,h4⟩
  | true=>exact wpAny_bind (wpAny_bind (wpAny_mono h4 (λx s5 h5=>wpAny_bind (wpAny_mono h5 (λ_ s6 h6=>wpAny_pure (wpAny_pure ⟨rfl,h6⟩)) λ_ _ z=>z)) λ_ _ z=>z))
structure XH (sc around:Scope)(own caps:List Str):Prop where
 kind:sc.kind=.function
 nocell:∀y∈sc.names,y.2≠.cell
 own:∀y∈sc.names,y.2=.local->sc.names.lookup y.1=some .local
 cap:∀y∈caps,sc.names.lookup y=some .free
 out:∀y∈sc.names,y.2=.free->around.names.lookup y.1=some .cell
theorem DA {sc:Scope}{own N:List Str}{caps:List Nat}{cl:List (Str×Addr)}{fp:List Addr}{h1:Heap}{m:Str->Option Value}{tk:Nat}(I:Inv X pins σ H s)(cs:XH sc X.env.scope own N)
  (hN:∀(j:Nat)(y:Str),N[j]?=some y->∃i,caps[j]?=some i/\X.N[i]?=some y)(aO:caps.length=N.length)
  (c1:∀x c,cl.lookup x=some c->X.env.cells.lookup x=some c)(c2:∀y∈sc.names,y.2=.free->cl.lookup y.1=X.env.cells.lookup y.1)
  (hf:∀b∈fp,Yk X pins H b)(hfo:∀b∈fp,b<s.heap.objs.size)(hns:h1.Ns s.heap.objs.size m)(hk:∀b o,s.heap.get? b=some o->h1.get? b=some o):
  Inv (Cx.comp X sc (own++N) cl s.heap.objs.size s H fp (X.pn++pins)) [] (List.replicate own.length none++Yd caps σ) H { s with heap:=h1,toks:=tk }:=by
 have stk:∀b∈frs X.stack,b=X.env.locals\/b∈X.fs:=λb hb=>zY.mp (I.stkSub b hb)
 refine⟨⟨I.ok.mod,cs.kind,I.ok.glob,I.ok.blt,zB _,λa b c h1 h2=>I.ok.inj a b c (c1 _ _ h1) (c1 _ _ h2),λy hy=>?_,λ_ _ z=>Bool.noConfusion z,I.ok.hd,I.ok.frames,.inl rfl,λb hb=>⟨zP (hfo b hb),λy c e=>(hf b hb).2.2.2.2.1 y c (c1 _ _ e)⟩,
  I.bs,yF I.ok.bsz I.sz,λb o e hb=>?_,λb hb z=>?_,I.stack,I.stkFree⟩,rfl,I.bare,Un.kept hk,⟨m,hns,λi y v e1 e2 e3=>?_⟩,λy c e=>?_,I.hok.fresh (zB _),λy c e=>I.freeC y c (c1 _ _ e),λp hp=>?_,I.hok.kept hk,?_⟩
 .have hfr:sc.names.lookup y=some .free:=Og cs.nocell hy
  have hm:=VW hfr;obtain⟨c,e⟩:=I.ok.has y (.inl (cs.out _ hm rfl));exact⟨c,(c2 _ hm rfl).trans e⟩
 .rcases (hf b hb).2.2.2.1 with z|z
  .exact I.ok.noex b o e z
  .exact absurd (zS (Heap.lt_size (I.ok.bs b o e).1) z) (yR _)
 .rcases stk b z with z|z
  .exact(hf b hb).2.1 z
  .exact(hf b hb).2.2.1 z
 .rcases wM i own.length with hi|hi
  .rw[zL (by simpa using hi),wF] at e2;simp[hi] at e2
  .obtain⟨i,rfl⟩:∃k,i=own.length+k:=⟨i-own.length,by omega⟩;have e1':N[i]?=some y:=by
    rw[yL hi] at e1;simpa using e1
   have e2:(Yd caps σ)[i]?=some (some v):=by
    rw[yL (by simp)] at e2;simpa using e2
   obtain⟨j,hj,hy⟩:=hN i y e1';have e2':σ[j]?=some (some v):=by
    simp only[Yd,zE,hj,wN,Option.some.injEq] at e2;cases q:σ[j]? with
    | none=>rw[q] at e2;cases e2
    | some o=>rw[q] at e2;simp at e2;rw[e2]
   have hfr:sc.names.lookup y=some .free:=cs.cap y (zF e1')
   have hm:=VW hfr
   have hce:X.env.scope.names.lookup y=some .cell:=cs.out _ hm rfl;obtain⟨m0,_,hl⟩:=I.loc;obtain⟨u,r,l⟩:=hl j y v hy e2' (.inr (.inl hce));refine⟨u,r,.inr ⟨LO hfr,?_⟩⟩;rcases l with ⟨k,_⟩|⟨_,c,ec,hcell⟩
   .rw[show X.env.kindOf y=some .cell from hce] at k;cases k
   .exact⟨c,(c2 _ hm rfl).trans ec,hcell.keeps hk⟩
 .obtain⟨v,z⟩:=I.cell y c (c1 _ _ e);exact⟨v,z.keeps hk⟩
 .have hp':p∈X.pn++pins:=by simpa using hp
  obtain⟨p1,p2,p3,p4,p5⟩:=I.pin p hp';refine⟨hk _ _ p1,p2,zP (Heap.lt_size p1),λz=>?_,p5⟩;rcases stk _ z with z|z
  .exact p3 z
  .exact p4 z
 .simp[Yd,aO]
theorem Qy {tg:Expr}{K:It->Hp->Prop}{ifs:List Expr}{tc:TT}{use:Option (Value->Sem Unit)}{Qr:Value->Shared->Prop}(hc:X.calm=true)(cs:XH sc X.env.scope own N)(hN:∀(j:Nat)(y:Str),N[j]?=some y->∃i,caps[j]?=some i/\X.N[i]?=some y)(aO:caps.length=N.length)
  (hi:PI X tg aV wi)(hg:∀cl C s0 H0 fp pn,PG (Cx.comp X sc (own++N) cl C s0 H0 fp pn) tg gt)(he:∀cl C s0 H0 fp pn,PE (Cx.comp X sc (own++N) cl C s0 H0 fp pn) aX te)
  (ht:∀cl C s0 H0 fp pn,PTs (Cx.comp X sc (own++N) cl C s0 H0 fp pn) ifs tc)(hs:∀y,foldedSetIterable aV X.env y=pure y)
  {pins:LA}{s:Shared}{σ:L2.St}{H:Hp}{Q:VK}{p2:Pos}(I:Inv X pins σ H s)(h:wi σ H K)(hK:∀J H1,K J H1->∀D,H1 D=none->∃W:Nat->Nat->Hp->Prop,(∃m,W 0 m (upd H1 D (.lst [])))/\∀i m H,W i m H->(J.stop i H/\Q (.ref D) H)\/(J.go i H/\∀x H',J.yld i H x H'->∀o:L2.St,o.length=own.length->gt x (o++Yd caps σ) H' λσ8 H8=>(∃o8:L2.St,o8.length=own.length/\σ8=o8++Yd caps σ)/\tc σ8 H8 λb H9=>if b=true then te σ8 H9 λy H3=>∃ys,H3 D=some (.lst ys)/\ys.length<sizeLine/\∃m',m'<m/\W (i+1) m' (upd H3 D (.lst (ys++[y]))) else ∃m',m'<m/\W (i+1) m' H9))
  (aZ:∀D C s',UK X pins σ C Q D s'->compPost (mX X) X.A X.xe use Qr (.ref D) C (.ok .next) s'):
  wpAny (mX X) X.A (comprehension (.ListComp aX [⟨tg,aV,ifs,0⟩] sc pos) sc X.env p2 (newList []) false (eval aV X.env) use) Qr X.xe s:=by
 obtain⟨cl,k1,k2,k3⟩:=Lp λy hy hf=>I.ok.has y.1 (.inl (cs.out y hy hf))
 refine wpAny_comprehension_free rfl hs k1 cs.kind cs.own (thn (hi pins s σ H _ I h) λv s1 h1=>thn h1 λitv s2 h2=>?_);obtain⟨it,fp,tn,J,H2,e,I2,T,st2,f2,body⟩:=h2;subst e;have hfo:∀b∈fp,b<s2.heap.objs.size:=λb hb=>by
  obtain⟨o,e,_⟩:=T.obj _ _ st2 b hb;exact Heap.lt_size e
 have hD:H2 s2.heap.objs.size=none:=I2.hok.fresh (zB _);obtain⟨W,⟨m0,w0⟩,turn⟩:=hK _ _ body _ hD;refine wpAny_newObj_type ?_;have I3:Inv X pins σ (upd H2 s2.heap.objs.size (.lst [])) { s2 with heap:=s2.heap.push { cls:=.type "list",dict:=none,data:=.seq ([]:List Value).toArray },toks:=s2.toks }:=
  I2.laid (λb u e=>Heap.get?_push_of_some _ e) (zB _) ⟨zJ _,[],0,.nil,Heap.get?_push_size _ rfl⟩
 generalize hs3:({ s2 with heap:=s2.heap.push { cls:=.type "list",dict:=none,data:=.seq ([]:List Value).toArray },toks:=s2.toks }:Shared)=s3 at I3;have f3:∀b∈fp,Yk X pins (upd H2 s2.heap.objs.size (.lst [])) b:=λb hb=>⟨by rw[ZT (zP (hfo b hb))];exact(f2 b hb).1,(f2 b hb).2⟩
 have up3:∀b o,s2.heap.get? b=some o->s3.heap.get? b=some o:=λb o e=>by rw[<- hs3];exact Heap.get?_push_of_some _ e
 have st3:tn 0 s3.heap:=T.keep _ _ _ st2 λb _ o e=>up3 b o e
 have hfo3:∀b∈fp,b<s3.heap.objs.size:=λb hb=>by
  obtain⟨o,e,_⟩:=T.obj _ _ st3 b hb;exact Heap.lt_size e
 refine wpAny_newFunctionEnv cs.nocell (λy hy=>by simp at hy) (λh4 ns4 sb4=>?_) cs.kind;have hk4:∀b o,s3.heap.get? b=some o->h4.get? b=some o:=λb o e=>(sb4.2 b (zP (Heap.lt_size e))).trans (Heap.get?_push_of_some _ e)
 have I4:=DA (tk:=s3.toks+([]:List (Str×Value)).length) I3 cs hN aO k2 k3 f3 hfo3 ns4 hk4;generalize hs4:({ s3 with heap:=h4,toks:=s3.toks+([]:List (Str×Value)).length }:Shared)=s4 at I4 ⊢;have eh4:s4.heap=h4:=by rw[<- hs4]
 have st4:tn 0 s4.heap:=by rw[eh4];exact T.keep _ _ _ st3 λb _ o e=>hk4 b o e
 have fY:∀ {H':Hp},(∀b∈fp,H' b=none)->∀b∈fp,Yk (Cx.comp X sc (own++N) cl s3.heap.objs.size s3 (upd H2 s2.heap.objs.size (.lst [])) fp (X.pn++pins)) [] H' b:=λhn b hb=>by
  obtain⟨_,z2,z3,z4,z5,z6⟩:=f3 b hb;refine⟨hn b hb,zP (hfo3 b hb),λz=>?_,.inl hb,λy c e=>z5 y c (k2 _ _ e),λp hp=>z6 p (by simpa using hp)⟩;rcases zY.mp (I3.stkSub b z) with z|z
  .exact z2 z
  .exact z3 z
 have loop:codeAny (mX X) X.A (.compLoop (.ListComp aX [⟨tg,aV,ifs,0⟩] sc pos) 0 (.ref it) (.ref s2.heap.objs.size) (compEnvC sc cl s3.heap.objs.size X.env))
   (compPost (mX X) X.A X.xe use Qr (.ref s2.heap.objs.size) s3.heap.objs.size) s4:=by
  refine D6 (λn s'=>∃i o H',o.length=own.length/\Inv (Cx.comp X sc (own++N) cl s3.heap.objs.size s3 (upd H2 s2.heap.objs.size (.lst [])) fp (X.pn++pins)) [] (o++Yd caps σ) H' s'/\tn i s'.heap/\(∀b∈fp,H' b=none)/\W i n H') ?_ m0
   ⟨0,_,_,uN,I4,st4,λb hb=>(f3 b hb).1,w0⟩
  rintro n s5 ⟨i,o,H5,ho,I5,st5,fr5,w5⟩;rcases turn i n H5 w5 with ⟨stop,q⟩|⟨go,step⟩
  .refine thn (T.done (Cx.comp X sc (own++N) cl s3.heap.objs.size s3 (upd H2 s2.heap.objs.size (.lst [])) fp (X.pn++pins)) rfl rfl rfl hc i [] s5 _ H5 _ I5 (fY fr5) st5 stop) λr s6 ⟨hr,I6⟩=>?_
   subst hr;refine aZ _ _ _ ⟨⟨H5,I3.call' I6.os I6.base I6.hok I6.bare (λb hb=>?_),q,I6.free⟩,?_,yZ I3.lt,I3.sz,λy c e z=>?_,λp hp z=>?_⟩
   .obtain⟨_,z2,z3,z4,z5,z6⟩:=f3 b hb;exact⟨z4,z2,z5,z6⟩
   .obtain⟨m,hm,_⟩:=I6.loc;exact⟨m,hm⟩
   .obtain⟨v,hv⟩:=I3.cell y c e;exact absurd (z ▸ hv.lt) (yR _)
   .exact absurd (z ▸ Heap.lt_size (I3.pin p hp).1) (yR _)
  .refine thn (T.item (Cx.comp X sc (own++N) cl s3.heap.objs.size s3 (upd H2 s2.heap.objs.size (.lst [])) fp (X.pn++pins)) rfl rfl rfl hc i [] s5 _ H5 _ I5 (fY fr5) st5 go) λr s6 ⟨u,hr,h6⟩=>?_
   subst hr;refine wpAny_mono h6 (λ_ s7 ⟨y,H7,I7,r7,y7,st7,fr7⟩=>?_) λ_ _ z=>z
   have I7':=I7.pinned (fY fr7) (T.obj _ _ st7);refine wpAny_mono (hg _ _ _ _ _ _ _ s7 _ H7 y u _ I7' r7 (step y H7 y7 o ho)) (λ_ s8 ⟨σ8,H8,I8,⟨o8,ho8,e8⟩,q8⟩=>?_) λ_ _ z=>z.elim
   subst e8;have stay:∀ {H':Hp} {s':Shared},Inv (Cx.comp X sc (own++N) cl s3.heap.objs.size s3 (upd H2 s2.heap.objs.size (.lst [])) fp (X.pn++pins)) ([]++UU fp s7.heap) (o8++Yd caps σ) H' s'->∀m',m'<n->W (i+1) m' H'->
     ∃m,m<n/\∃i o H',o.length=own.length/\Inv (Cx.comp X sc (own++N) cl s3.heap.objs.size s3 (upd H2 s2.heap.objs.size (.lst [])) fp (X.pn++pins)) [] (o++Yd caps σ) H' s'/\tn i s'.heap/\(∀b∈fp,H' b=none)/\W i m H':=λ{H' s'} J m' hm w'=>by
    refine⟨m',hm,i+1,o8,H',ho8,J.unpinned,T.keep _ _ _ st7 λb hb o e=>(J.pin (b,o) (yW _ (yW _ (TY hb e)))).1,λb hb=>?_,w'⟩;obtain⟨o,e,d⟩:=T.obj _ _ st7 b hb;exact(J.pin (b,o) (yW _ (yW _ (TY hb e)))).2.1
   refine wpAny_mono (ht _ _ _ _ _ _ _ s8 _ H8 _ I8 q8) (λb s9 ⟨H9,I9,q9⟩=>?_) λ_ _ z=>z.elim
   cases b with
   | false=>
    obtain⟨m',hm,w9⟩:=q9;exact stay I9 m' hm w9
   | true=>
    refine wpAny_mono (he _ _ _ _ _ _ _ s9 _ H9 _ I9 q9) (λu2 s10 ⟨z,H10,I10,r10,q10⟩=>?_) λ_ _ z=>z.elim
    obtain⟨ys,hD10,hlt,m',hm,w10⟩:=q10;refine wpAny_mono (Oh (X:=(Cx.comp X sc (own++N) cl s3.heap.objs.size s3 (upd H2 s2.heap.objs.size (.lst [])) fp (X.pn++pins))) _ s10 _ H10 (.ref s2.heap.objs.size) [z] (.ref s2.heap.objs.size) [u2] (λ_ H'=>H'=upd H10 s2.heap.objs.size (.lst (ys++[z]))) I10 rfl (.cons r10 .nil) ⟨_,ys,z,rfl,rfl,hD10,hlt,rfl⟩) (λ_ s11 ⟨_,H11,I11,_,e11⟩=>?_) λ_ _ z=>z.elim
    subst e11;exact stay I11 m' hm w10
 exact codeAny_compStart_list loop (T.self _ 0 s4 _ _ st4 loop)
section
variable {X:Cx}{aX aV:Expr}{x:Str}{px pos:Pos}{ifs:List Expr}{sc:Scope}{N:List Str}{caps:List Nat}{wi:TI}{tc:TT}{te:TE}
theorem My (hc:X.calm=true)(cs:WD sc X.env.scope x N)(hN:∀(j:Nat)(y:Str),N[j]?=some y->∃i,caps[j]?=some i/\X.N[i]?=some y)(aO:caps.length=N.length)(hnd:(x::N).Nodup)(hi:PI X (.Name x px) aV wi)(ht:∀cl C s0 H0 fp pn,PTs (Cx.comp X sc (x::N) cl C s0 H0 fp pn) ifs tc)(he:∀cl C s0 H0 fp pn,PE (Cx.comp X sc (x::N) cl C s0 H0 fp pn) aX te)(hs:∀y,foldedSetIterable aV X.env y=pure y)(I:Inv X pins σ H s)(h:Uq caps wi tc te σ H Q)(aZ:∀D C s',UK X pins σ C Q D s'->compPost (mX X) X.A X.xe use Qr (.ref D) C (.ok .next) s'):
  wpAny (mX X) X.A (comprehension (.ListComp aX [⟨.Name x px,aV,ifs,0⟩] sc pos) sc X.env p2 (newList []) false (eval aV X.env) use) Qr X.xe s:=by
 refine Qy (own:=[x]) (gt:=RO 0) hc ⟨cs.kind,cs.nocell,cs.own,cs.cap,cs.out⟩ hN aO hi (λcl C s0 H0 fp pn=>Ud hnd rfl (.inl (lookup_relabel_local cs.loc)) (.inr (lookup_relabel_local cs.loc))) he ht hs I h (λJ H1 b D hD=>?_) aZ;obtain⟨W,w0,turn⟩:=b D hD;refine⟨W,w0,λi m H w=>(turn i m H w).imp id λ⟨go,st⟩=>⟨go,λv H' y o ho=>?_⟩⟩
 match o,ho with
 | [_],_=>exact⟨⟨[some v],rfl,rfl⟩,st v H' y⟩
theorem Xf (h:caps.map (λi=>X.N[i]?)=N.map some):(∀(j:Nat)(y:Str),N[j]?=some y->∃i,caps[j]?=some i/\X.N[i]?=some y)/\caps.length=N.length:=by
 refine⟨λj y e=>?_,by simpa using congrArg List.length h⟩;have z:(caps.map (λi=>X.N[i]?))[j]?=some (some y):=by rw[h,zE,e];rfl
 rw[zE] at z;cases q:caps[j]? with
 | none=>rw[q] at z;cases z
 | some i=>rw[q] at z;exact⟨i,rfl,by simpa using z⟩
theorem P6 (hc:X.calm=true)(cs:WD sc X.env.scope x N)(hN:Hn X caps N)(hnd:(x::N).Nodup)
  (hi:PI X (.Name x px) aV wi)(ht:∀cl C s0 H0 fp pn,PTs (Cx.comp X sc (x::N) cl C s0 H0 fp pn) ifs tc)(he:∀cl C s0 H0 fp pn,PE (Cx.comp X sc (x::N) cl C s0 H0 fp pn) aX te)
  (hs:∀y,foldedSetIterable aV X.env y=pure y:=by intro _;rfl):PE X (.ListComp aX [⟨.Name x px,aV,ifs,0⟩] sc pos) (Uq caps wi tc te):=by
 intro pins s σ H Q I h;refine My hc cs (Xf hN).1 (Xf hN).2 hnd hi ht he hs I h λD C s' f=>?_
 obtain⟨⟨H',I',q,hC⟩,⟨m,ns⟩,l,o,c,p⟩:=f;exact⟨m,ns,λh' sb=>⟨.ref D,H',I'.turned (λb ob hb e=>(sb.2 b hb).trans e) hC l (.inr o) c p,rfl,q⟩⟩
theorem RX {tg:Expr}{ifs:List Expr}{T:TE}{i:Nat}{y:Str}{py spos:Pos}
  (core:∀ {use:Option (Value->Sem Unit)} {Qr:Value->Shared->Prop} {pins:LA} {s:Shared} {σ:St} {H:Hp} {Q:VK} {p2:Pos},Inv X pins σ H s->T σ H Q->(∀D C s',UK X pins σ C Q D s'->compPost (mX X) X.A X.xe use Qr (.ref D) C (.ok .next) s')->
   wpAny (mX X) X.A (comprehension (.ListComp aX [⟨tg,aV,ifs,0⟩] sc pos) sc X.env p2 (newList []) false (eval aV X.env) use) Qr X.xe s)
  (hNd:X.N.Nodup)(hy:X.N[i]?=some y)(hl:X.env.scope.names.lookup y=some .local)(hsw:swapsWith (.ListComp aX [⟨tg,aV,ifs,0⟩] sc pos) (some (.Name y py)) spos.line X.env=pure true):
  PS X (.Assign [.Name y py] (.ListComp aX [⟨tg,aV,ifs,0⟩] sc pos) spos) (λE σ H=>T σ H λv H1=>E.nx (σ.set i (some v)) H1):=by
 intro pins s σ H E I h;rw[exec_Assign_Name_used (hs:=hsw)];refine wpAny_bind (wpAny_standAt ?_);refine wpAny_bind ?_;show wpAny _ _ (comprehension _ sc X.env _ (newList []) false (eval aV X.env) (some (assign (.Name y py) X.env)) >>= λ_=>pure Unit.unit) _ _ s
 refine wpAny_bind (thn (core I h λD C s' f=>?_) λ_ s' hq=>wpAny_pure (wpAny_pure hq));obtain⟨⟨H',I',q,hC⟩,⟨m,ns⟩,l,o,c,p⟩:=f;refine wpAny_assign_Name (Of (v:=.ref D) I' hNd hy (.inl hl) rfl (λs'' I'' ⟨a,sb,ha⟩=>⟨m,ns.sameBut sb ?_,λh' sb'=>⟨_,H',I''.turned (λb ob hb e=>(sb'.2 b hb).trans e) hC l (.inr o) c p,q⟩⟩) (.inr hl));rcases ha with rfl|ha
 .exact l
 .exact Ne.symm (c _ _ ha)
theorem O2 (hc:X.calm=true)(cs:WD sc X.env.scope x N)(hN:Hn X caps N)(hnd:(x::N).Nodup)(hi:PI X (.Name x px) aV wi)(ht:∀cl C s0 H0 fp pn,PTs (Cx.comp X sc (x::N) cl C s0 H0 fp pn) ifs tc)(he:∀cl C s0 H0 fp pn,PE (Cx.comp X sc (x::N) cl C s0 H0 fp pn) aX te)(hNd:X.N.Nodup)(hy:X.N[i]?=some y)(hl:X.env.scope.names.lookup y=some .local)(hsw:swapsWith (.ListComp aX [⟨.Name x px,aV,ifs,0⟩] sc pos) (some (.Name y py)) spos.line X.env=pure true)(hs:∀y,foldedSetIterable aV X.env y=pure y:=by intro _;rfl):PS X (.Assign [.Name y py] (.ListComp aX [⟨.Name x px,aV,ifs,0⟩] sc pos) spos) (λE σ H=>Uq caps wi tc te σ H λv H1=>E.nx (σ.set i (some v)) H1):=
 RX (λI h aZ=>My hc cs (Xf hN).1 (Xf hN).2 hnd hi ht he hs I h aZ) hNd hy hl hsw
end
section
variable {X:Cx}{Z:Zx}{aX aV:Expr}{x:Str}{px pos:Pos}{ifs:List Expr}{sc ar:Scope}{N:List Str}{caps:List Nat}
theorem PZ {r:List Addr}{H:Hp}{dl:Ev}{σ:St}{d:D}{v:V}(h:Rs r H dl σ)(p:Rp r H d v):Rs r H (some d::Z9 caps dl) (some v::Yd caps σ):=by
 refine⟨by simp[Z9,Yd],λi e hi=>?_⟩;cases i with
 | zero=>simp at hi;subst hi;exact⟨v,rfl,p⟩
 | succ i=>
  simp only[uT,Z9,zE] at hi;cases q:caps[i]? with
  | none=>rw[q] at hi;cases hi
  | some j=>
   rw[q] at hi;simp at hi;have hj:dl[j]?=some (some e):=by
    cases q2:dl[j]? with
    | none=>rw[q2] at hi;cases hi
    | some o=>rw[q2] at hi;simp at hi;rw[hi]
   obtain⟨w,h1,h2⟩:=h.2 j e hj;refine⟨w,?_,h2⟩;simp only[uT,Yd,zE,q,wN,h1,Option.join_some]
def We (Y:Cx)(ifs:List Expr)(t:TDT):Prop:=PTs Y ifs (upT Y.K Z0 t)
def Xe:TDT:=λ_ S Q=>Q true S
theorem Fc:We Y [] Xe:=λpins s σ H Qb I ⟨r,dl,S,Q,rs,bA,q,ret⟩=>LN pins s σ H Qb I (ret true H r S Ext.refl bA q)
theorem PL (h:PDT Y Z0 c t):We Y [c] t:=JZ h
def WL (caps:List Nat)(tc:TDT)(te:TDE)(k:Nat)(dl:Ev)(d:D)(S:Sto)(nx:Sto->Prop):Prop:=
 tc (some d::Z9 caps dl) S λb S1=>if b=true then te (some d::Z9 caps dl) S1 λy S2=>match S2[k]? with
  | some (.lst ys)=>ys.length<1000/\nx (S2.set k (.lst (ys++[y])))
  | _=>False
 else nx S1
@[irreducible] def Xs (caps:List Nat)(tl:TDE)(tc:TDT)(te:TDE):TDE:=λdl S Q=>tl dl S λd S1=>match d with
 | .ref n=>(lAt S1 n).isSome=true/\∃W:Nat->Nat->Sto->Prop,(∃m,W 0 m (S1++[.lst []]))/\∀k m S2,W k m S2->match lAt S2 n with
  | some o=>match (Zk o)[k]? with
   | some y=>WL caps tc te S1.length dl y S2 λS3=>∃m',m'<m/\W (k+1) m' S3
   | none=>Q (.ref S1.length) S2
  | none=>False
 | _=>False
@[irreducible] def WH (caps:List Nat)(ta:TDA)(tc:TDT)(te:TDE):TDE:=λdl S Q=>ta dl S λds S1=>match ds with
 | [.int j]=>(-(2^62)<=j/\j<2^62)/\∃W:Nat->Sto->Prop,W 0 (S1++[.lst []])/\∀k S2,W k S2->
   if k<j.toNat then WL caps tc te S1.length dl (.int k) S2 λS3=>W (k+1) S3 else Q (.ref S1.length) S2
 | _=>False
theorem PC {tc:TDT}{te:TDE}{r2:List Addr}{H2:Hp}{S1 S2:Sto}{dl:Ev}{σ:St}{D0:Addr}{d:D}{v:V}{nx:Sto->Prop}{Nx:Hp->Prop}(rs:Rs r2 H2 dl σ)(ha:r2[S1.length]?=some D0)(rb:ZV X.K r2 S2 H2)(p:Rp r2 H2 d v)
  (h:WL caps tc te S1.length dl d S2 nx)(hn:∀r' S' H',Ext r2 r' H2 H'->ZV X.K r' S' H'->nx S'->Nx H'):
  upT X.K Z0 tc (some v::Yd caps σ) H2 λb H3=>if b=true then up X.K Z0 te (some v::Yd caps σ) H3 λy H4=>∃ys,H4 D0=some (.lst ys)/\ys.length<sizeLine/\Nx (upd H4 D0 (.lst (ys++[y]))) else Nx H3:=by
 have rsY:Rs r2 H2 (some d::Z9 caps dl) (some v::Yd caps σ):=PZ rs p;refine⟨r2,_,S2,_,rsY,⟨rb,λ_ _ _ _ _ _ _ _ _ z=>z.elim⟩,h,λb H3 r3 S3 x3 aF q3=>?_⟩;cases b with
 | false=>rw[if_neg zO] at q3 ⊢;exact hn r3 S3 H3 x3 aF.b q3
 | true=>
  refine⟨r3,_,S3,_,rsY.ext x3,aF,q3,λz H4 r4 dz S4 x4 aG p4 q4=>?_⟩;split at q4
  .rename_i ys eys;obtain⟨hl,q4⟩:=q4;have ha4:r4[S1.length]?=some D0:=x4.adr _ _ (x3.adr _ _ ha);obtain⟨zs,hD4,pz⟩:=aG.b.ob _ _ _ ha4 eys;obtain⟨rel5,x5⟩:=aG.b.set ha4 eys (pz.snoc p4);exact⟨zs,hD4,by rw[<- pz.1];exact Uu (yU hl),hn r4 _ _ (x3.trans (x4.trans x5)) rel5 q4⟩
  .exact q4.elim
theorem VF {r:List Addr}{D0:Addr}{n:Nat}(h:r.length=n):(r++[D0])[n]?=some D0:=by subst h;simp
theorem M5 {tl:TDE}{tc:TDT}{te:TDE}{σ:St}{H:Hp}{Qv:VK}(h:up X.K Z (Xs caps tl tc te) σ H Qv):Uq caps (ND X.K (up X.K Z tl)) (upT X.K Z0 tc) (up X.K Z0 te) σ H Qv:=by
 obtain⟨r,dl,S,Q,rs,bA,h,ret⟩:=h;unfold Xs at h;refine⟨r,dl,S,_,rs,bA,h,λv H1 r1 d S1 x1 aC p1 q1=>?_⟩;cases p1 with
 | @ref n a hn=>
  obtain⟨aU,W,⟨m0,w0⟩,turn⟩:=q1;have sql:∀ {r':List Addr} {S':Sto} {H':Hp} {o:Ob},Ext r1 r' H1 H'->ZV X.K r' S' H'->lAt S' n=some o->∃xs,SqL X.K H' a xs/\Rps r' H' (Zk o) xs:=λ{r' S' H' o} x' rel' eo=>by
   obtain⟨eo,eL⟩:=Xb eo;obtain⟨a',ha,ob⟩:=rel'.at eo;rw[x'.adr n a hn] at ha;cases ha
   exact ob.list eL
  obtain⟨o1,eo1⟩:=yX.mp aU;obtain⟨xs1,sq1,_⟩:=sql Ext.refl aC.b eo1;refine⟨a,rfl,⟨xs1,sq1⟩,λD0 hD=>?_⟩;obtain⟨aE,x2⟩:=aC.b.push hD Rps.nil;refine⟨λk m H'=>∃r' S',Ext (r1++[D0]) r' (upd H1 D0 (.lst [])) H'/\ZV X.K r' S' H'/\W k m S',⟨m0,_,_,Ext.refl,aE,w0⟩,?_⟩;rintro k m H2 ⟨r2,S2,x3,rb2,w2⟩;have ha2:r2[S1.length]?=some D0:=x3.adr _ _ (VF aC.len)
  have q:=turn k m S2 w2;split at q
  .rename_i o eo;obtain⟨xs,sq,pr⟩:=sql (x2.trans x3) rb2 eo;split at q
   .rename_i y ey;obtain⟨v,hv,pv⟩:=pr.get ey;refine .inr ⟨⟨xs,v,sq,hv⟩,λv' H' y'=>?_⟩;obtain⟨eH,y'⟩:=y';subst eH;have ev:v'=v:=by
     have z:=y' xs sq;rw[hv] at z;exact(Option.some.inj z).symm
    subst ev;exact PC (rs.ext (x1.trans (x2.trans x3))) ha2 rb2 pv q λr' S' H' x' rb' ⟨m',hm,w'⟩=>⟨m',hm,r',S',x3.trans x',rb',w'⟩
   .rename_i ey;have aO:(Zk o).length<=k:=yY.mp ey;exact .inl ⟨⟨xs,sq,by rw[<- pr.1];exact aO⟩,ret _ H2 r2 _ S2 (x1.trans (x2.trans x3)) ⟨rb2,bA.xw.ext (x1.trans (x2.trans x3))⟩ (.ref ha2) q⟩
  .exact q.elim
 | _=>exact(show False from q1).elim
theorem N3 {ta:TDA}{tc:TDT}{te:TDE}{σ:St}{H:Hp}{Qv:VK}(h:up X.K Z (WH caps ta tc te) σ H Qv):Uq caps (Oo (upA X.K Z ta)) (upT X.K Z0 tc) (up X.K Z0 te) σ H Qv:=by
 obtain⟨r,dl,S,Q,rs,bA,h,ret⟩:=h;unfold WH at h;refine⟨r,dl,S,_,rs,bA,h,λvs H1 r1 ds S1 x1 aC p1 q1=>?_⟩;split at q1
 .rename_i j;obtain⟨v,vs',rfl,p2,p3⟩:=p1.uncons;have z:=p3.unnil;subst z;cases p2;obtain⟨⟨b1,b2⟩,W,w0,turn⟩:=q1;refine⟨j,rfl,b1,b2,λD0 hD=>?_⟩;obtain⟨aE,x2⟩:=aC.b.push hD Rps.nil;refine⟨λk m H'=>m=j.toNat-k/\∃r' S',Ext (r1++[D0]) r' (upd H1 D0 (.lst [])) H'/\ZV X.K r' S' H'/\W k S',⟨j.toNat,by simp,_,_,Ext.refl,aE,w0⟩,?_⟩;rintro k m H2 ⟨em,r2,S2,x3,rb2,w2⟩;have ha2:r2[S1.length]?=some D0:=x3.adr _ _ (VF aC.len)
  have q:=turn k S2 w2;split at q
  .rename_i hk;refine .inr ⟨hk,λv' H' y'=>?_⟩;obtain⟨eH,y'⟩:=y';subst eH;subst y';have pk:Rp r2 H' (.int (k:Int)) (.int (0+(k:Int))):=by rw[vH];exact .int _
   exact PC (rs.ext (x1.trans (x2.trans x3))) ha2 rb2 pk q
    λr' S' H' x' rb' w'=>⟨j.toNat-(k+1),by omega,rfl,r',S',x3.trans x',rb',w'⟩
  .rename_i hk;exact .inl ⟨by show j.toNat<=k;omega,ret _ H2 r2 _ S2 (x1.trans (x2.trans x3)) ⟨rb2,bA.xw.ext (x1.trans (x2.trans x3))⟩ (.ref ha2) q⟩
 .exact q1.elim
theorem XD (har:X.env.scope=ar)(hc:X.calm=true)(cs:WD sc ar x N)(hN:Hn X caps N)(hnd:(x::N).Nodup)(hl:PD X Z aV tl)(ht:∀cl C s0 H0 fp pn,We (Cx.comp X sc (x::N) cl C s0 H0 fp pn) ifs tc)(he:∀cl C s0 H0 fp pn,PD (Cx.comp X sc (x::N) cl C s0 H0 fp pn) Z0 aX te)(hs:∀y,foldedSetIterable aV X.env y=pure y:=by intro _;rfl):PD X Z (.ListComp aX [⟨.Name x px,aV,ifs,0⟩] sc pos) (Xs caps tl tc te):=by
 subst har;exact Z6 (P6 hc cs hN hnd (tc:=upT X.K Z0 tc) (te:=up X.K Z0 te) (RZ hl) ht he hs) λ_ _ _ h=>M5 h
theorem Qe (har:X.env.scope=ar)(hc:X.calm=true)(cs:WD sc ar x N)(hN:Hn X caps N)(hnd:(x::N).Nodup)(hg:Gl X "range")(hm:X.mg "range"=none)(ha:PDA X Z [a] ta)(ht:∀cl C s0 H0 fp pn,We (Cx.comp X sc (x::N) cl C s0 H0 fp pn) ifs tc)(he:∀cl C s0 H0 fp pn,PD (Cx.comp X sc (x::N) cl C s0 H0 fp pn) Z0 aX te)(hs:∀y,foldedSetIterable (.Call (.Name "range" p) [a] [] aL) X.env y=pure y:=by intro _;rfl)(hst:starEach [a] X.env=[(false,eval a X.env)]:=by rfl):
  PD X Z (.ListComp aX [⟨.Name x px,.Call (.Name "range" p) [a] [] aL,ifs,0⟩] sc pos) (WH caps ta tc te):=by
 subst har;exact Z6 (P6 hc cs hN hnd (tc:=upT X.K Z0 tc) (te:=up X.K Z0 te) (QG hg hm ha hst) ht he hs) λ_ _ _ h=>N3 h
theorem Sn {t:TE}{td:TDE}{i:Nat}{F:Wo}{σ:St}{H:Hp}(imp:∀Qv,up X.K Z td σ H Qv->t σ H Qv)(h:upS X.K Z (λE dl S=>td dl S λd S1=>E.nx (dl.set i (some d)) S1) F σ H):t σ H λv H1=>F.nx (σ.set i (some v)) H1:=by
 obtain⟨r,dl,S,E,rs,bA,h,ret⟩:=h;exact imp _ ⟨r,dl,S,_,rs,bA,h,λv H1 r1 d S1 x aC p q=>ret.nx _ H1 r1 _ S1 x ((rs.ext x).set i p) aC q⟩
theorem Lb {tl:TDE}{tc:TDT}{te:TDE}{i:Nat}{y:Str}{py spos:Pos}(har:X.env.scope=ar)(hc:X.calm=true)(cs:WD sc ar x N)(hN:Hn X caps N)(hnd:(x::N).Nodup)(hNd:X.N.Nodup)(hy:X.N[i]?=some y)(hlo:ar.names.lookup y=some .local)
  (hl:PD X Z aV tl)(ht:∀cl C s0 H0 fp pn,We (Cx.comp X sc (x::N) cl C s0 H0 fp pn) ifs tc)(he:∀cl C s0 H0 fp pn,PD (Cx.comp X sc (x::N) cl C s0 H0 fp pn) Z0 aX te)
  (hsw:swapsWith (.ListComp aX [⟨.Name x px,aV,ifs,0⟩] sc pos) (some (.Name y py)) spos.line X.env=pure true:=by rfl)
  (hs:∀y,foldedSetIterable aV X.env y=pure y:=by intro _;rfl):PDS X Z (.Assign [.Name y py] (.ListComp aX [⟨.Name x px,aV,ifs,0⟩] sc pos) spos) (V8 i (Xs caps tl tc te)):=by
 subst har;exact YB (O2 hc cs hN hnd (tc:=upT X.K Z0 tc) (te:=up X.K Z0 te) (RZ hl) ht he hNd hy hlo hsw hs) λF σ H h=>Sn (λ_ h=>M5 h) h
theorem QU {ta:TDA}{tc:TDT}{te:TDE}{a:Expr}{p aL:Pos}{i:Nat}{y:Str}{py spos:Pos}(har:X.env.scope=ar)(hc:X.calm=true)(cs:WD sc ar x N)(hN:Hn X caps N)(hnd:(x::N).Nodup)(hNd:X.N.Nodup)(hy:X.N[i]?=some y)
  (hlo:ar.names.lookup y=some .local)(hg:Gl X "range")(hm:X.mg "range"=none)(ha:PDA X Z [a] ta)
  (ht:∀cl C s0 H0 fp pn,We (Cx.comp X sc (x::N) cl C s0 H0 fp pn) ifs tc)(he:∀cl C s0 H0 fp pn,PD (Cx.comp X sc (x::N) cl C s0 H0 fp pn) Z0 aX te)
  (hsw:swapsWith (.ListComp aX [⟨.Name x px,.Call (.Name "range" p) [a] [] aL,ifs,0⟩] sc pos) (some (.Name y py)) spos.line X.env=pure true:=by rfl)
  (hs:∀y,foldedSetIterable (.Call (.Name "range" p) [a] [] aL) X.env y=pure y:=by intro _;rfl)(hst:starEach [a] X.env=[(false,eval a X.env)]:=by rfl):
  PDS X Z (.Assign [.Name y py] (.ListComp aX [⟨.Name x px,.Call (.Name "range" p) [a] [] aL,ifs,0⟩] sc pos) spos) (V8 i (WH caps ta tc te)):=by
 subst har;exact YB (O2 hc cs hN hnd (tc:=upT X.K Z0 tc) (te:=up X.K Z0 te) (QG hg hm ha hst) ht he hNd hy hlo hsw hs) λF σ H h=>Sn (λ_ h=>N3 h) h
@[irreducible] def Wh (to te:TDE):TDE:=λdl S Q=>to dl S λx S1=>match x with
 | .ref n=>match S1[n]? with
  | some (.lst _)=>te dl S1 λy S2=>match S2[n]? with
   | some (.lst xs)=>if xs.length<1000 then Q .non (S2.set n (.lst (xs++[y]))) else False
   | _=>False
  | _=>False
 | _=>False
theorem YO (ho:PD X Z o to)(he:PD X Z e te)(hbase:attributeBase o "append" X.env (eval o X.env)=eval o X.env:=by rfl)(hfew:((backTo aJ (starEach [e] X.env)).all (λx=>!x.1)&&(backToKw aJ (keywordEach [] X.env)).all (λx=>x.1.isSome)
  &&decide (([e]:List Expr).length+([]:List Keyword).length+(if ([]:List Keyword).isEmpty then 0 else 1)<30))=true:=by rfl)(hline:(aK.endLine==aJ.line)=true:=by rfl)(hst:starEach [e] X.env=[(false,eval e X.env)]:=by rfl):
  PD X Z (.Call (.Attribute o "append" aK) [e] [] aJ) (Wh to te):=
 Z6 (NH PySem.F.plainAttrs_list PySem.F.slot_list_append PySem.F.type_list_append Oh ho (Tz he PB hst) hbase hfew hline hst rfl) λσ H Qv h=>by
  obtain⟨r,dl,S,Q,rs,bA,h,ret⟩:=h;unfold Wh at h;refine⟨r,dl,S,_,rs,bA,h,λv H1 r1 d S1 x1 aC p1 h1=>?_⟩;cases p1 with
  | @ref n a hn=>
   dsimp only at h1;split at h1
   .rename_i xs0 e0;obtain⟨a',ha,ob⟩:=aC.at e0;rw[hn] at ha;cases ha
    obtain⟨ys,hH,_⟩:=ob;refine⟨.inl ⟨rfl,ys,SqL.of hH⟩,r1,dl,S1,_,rs.ext x1,aC,h1,λv2 H2 r2 d2 S2 x2 aE p2 h2=>?_⟩;split at h2
    .rename_i xs1 e1;obtain⟨hlt,h2⟩:=Rc h2;have ha2:=x2.adr n a hn;obtain⟨zs,hH2,pz⟩:=aE.b.ob n a _ ha2 e1;obtain⟨aF,x3⟩:=aE.set ha2 e1 (pz.snoc p2);exact⟨a,zs,v2,rfl,rfl,hH2,by rw[<- pz.1];exact Uu (yU hlt),ret .non _ r2 .non _ (x1.trans (x2.trans x3)) aF .non h2⟩
    .exact h2.elim
   .exact h1.elim
  | _=>exact(show False from h1).elim
def Tw:WC:=λds S Q=>match ds with
 | [.tup xs]=>Q (.ref S.length) (S++[.lst xs])
 | [.ref n]=>match lAt S n with
  | some o=>Q (.ref S.length) (S++[.lst (Zk o)])
  | none=>False
 | _=>False
theorem Qt:Yi X (.type "list") (upC X.K Z Tw):=PR Dz λxs H Qv ⟨r,S,ds,Q,bA,ps,q,ret⟩=>by
 unfold Tw at q;split at q
 .rename_i ys;obtain⟨v,vs,rfl,p1,p2⟩:=ps.uncons;have z:=p2.unnil;subst z;obtain⟨a,zs,rfl,h1,h2⟩:=p1.untup;refine⟨a,zs,rfl,.inr (SqT.of h1),λl hl=>?_⟩;obtain⟨aE,x⟩:=bA.push hl h2;exact ret _ _ _ (.ref S.length) _ x aE (Vf bA.len) q
 .rename_i n;obtain⟨v,vs,rfl,p1,p2⟩:=ps.uncons;have z:=p2.unnil;subst z;split at q
  .rename_i o eo;obtain⟨eo,eL⟩:=Xb eo;obtain⟨a,ha,ob⟩:=bA.at eo;cases p1 with
   | ref h1=>
    rw[h1] at ha;cases ha
    obtain⟨ys,sq,pr⟩:=ob.list eL;refine⟨_,ys,rfl,.inl sq,λl hl=>?_⟩;obtain⟨aE,x⟩:=bA.push hl pr;exact ret _ _ _ (.ref S.length) _ x aE (Vf bA.len) q
  .exact q.elim
 .exact q.elim
def YN:List D->Option (List Bool)
 | []=>some []
 | .bl b::r=>(YN r).map (b::·)
 | _::_=>none
def Uj (g:List Bool->Bool):WC:=λds S Q=>match ds with
 | [.ref n]=>match lAt S n with
  | some o=>match YN (Zk o) with
   | some bs=>Q (.bl (g bs)) S
   | none=>False
  | none=>False
 | _=>False
theorem NU {r:List Addr}{H:Hp}:∀ {ds:List D} {bs:List Bool} {vs:List V} {us:List Value},YN ds=some bs->Rps r H ds vs->Zq vs us->us=bs.map Value.bool
 | [],bs,vs,us,e,p,q=>by
  have z:=p.unnil;subst z;cases q;simp[YN] at e;subst e;rfl
 | d::ds,bs,vs,us,e,p,q=>by
  obtain⟨v,vs',rfl,p1,p2⟩:=p.uncons;cases d with
  | bl b=>
   cases p1;cases q with
   | cons q1 q2=>
    have q1':_=Value.bool b:=q1;subst q1';simp only[YN,zI] at e;obtain⟨ms,e1,rfl⟩:=e;rw[NU e1 p2 q2];rfl
  | _=>simp[YN] at e
theorem EI {bs:List Bool}:(List.range bs.length).all (λi=>bs.getD i false)=bs.all id:=by
 rw[xG];rw[uU,uU];refine⟨λh b hb=>?_,λh i hi=>?_⟩
 .obtain⟨i,hi,e⟩:=yP.mp hb;have hb':=h i (yT.mpr hi);simpa [hi,e] using hb'
 .have hi':i<bs.length:=yT.mp hi
  have:=h bs[i] (yO hi');simpa [hi'] using this
theorem Fd {bs:List Bool}:(List.range bs.length).any (λi=>bs.getD i false)=bs.any id:=by
 rw[xG];rw[vN,vN];refine⟨λ⟨i,hi,h⟩=>?_,λ⟨b,hb,h⟩=>?_⟩
 .have hi':i<bs.length:=yT.mp hi;exact⟨bs[i],yO hi',by simpa [hi'] using h⟩
 .obtain⟨i,hi,e⟩:=yP.mp hb;exact⟨i,yT.mpr hi,by simpa [hi,e] using h⟩
theorem Js {prog:Program}{w:World}{A:Around}{bs:List Bool}:TruthOf prog w A (λi v=>(bs.map Value.bool).toArray[i]?=some v) λi=>bs.getD i false:=λi v s Q E hP hQ=>by
  have e:(bs.map Value.bool)[i]?=some v:=by simpa using hP
  rw[zE] at e;cases q:bs[i]? with
  | none=>
   rw[q] at e;cases e
  | some b=>
    rw[q] at e;have z:Value.bool b=v:=by simpa using e
    subst z;have z2:bs.getD i false=b:=by simp[zR,q]
    have hQ':Q (bs.getD i false) s:=hQ;rw[z2] at hQ';exact wpAny_truthy_bool hQ'
theorem ON {n:Nat}{a:Addr}{o:Ob}{bs:List Bool}{pins:LA}{σ:St}{H:Hp}{s:Shared}{r:List Addr}{S:Sto}{Q:DK}{Qv:VK}{E:Value->Shared->Prop}{g:List Bool->Bool}(G:List Nat->(Nat->Bool)->Bool)
  (hG:G (List.range bs.length) (λi=>bs.getD i false)=g bs)(hc:X.calm=true)(I:Inv X pins σ H s)(bA:Rel X.K Z r S H)(hn:r[n]?=some a)(eo:lAt S n=some o)(eb:YN (Zk o)=some bs)(q:Q (.bl (g bs)) S)(ret:Ret X.K Z r H Q Qv):
  wpAny (mX X) X.A.in1 (pyIter (.ref a)) (λit s₂=>∃I fp wr n P' St tr,it=.ref I/\Walks X.prog X.w X.A.in1 I fp wr n P' St/\St 0 s₂.heap/\TruthOf X.prog X.w X.A.in1 P' tr/\
   ∀h' tk,(∀b o,b ∉ wr->s₂.heap.get? b=some o->h'.get? b=some o)->EP X pins σ Qv (.bool (G (List.range n) tr)) { s₂ with heap:=h',toks:=tk }) E s:=by
 obtain⟨eo,eL⟩:=Xb eo;obtain⟨a',ha,ob⟩:=bA.at eo;rw[hn] at ha;cases ha
 obtain⟨ys,sq,pr⟩:=ob.list eL;obtain⟨aY,ri,pl,hz⟩:=I.list sq;have eits:=NU eb pr ri;subst eits;refine wpAny_pyIter_list pl.isList ?_;have hne:a≠s.heap.objs.size:=zP (by
  obtain⟨ob,e,_⟩:=pl.isList;exact Heap.lt_size e)
 refine⟨s.heap.objs.size,_,_,_,_,_,λi=>bs.getD i false,rfl,Walks.list (show X.A.in1.handled=none from I.ok.hd hc) _ a hne (bs.map Value.bool).toArray,⟨⟨_,Heap.get?_push_size _ rfl,rfl,rfl⟩,pl.isList.at λo e=>Heap.get?_push_of_some _ e⟩,Js,λh' tk hk=>?_⟩;have ez:(bs.map Value.bool).toArray.size=bs.length:=by simp
 rw[ez,hG];refine⟨.bl (g bs),H,I.kept λb o e=>hk b o (λz=>?_) (Heap.get?_push_of_some _ e),rfl,ret _ _ _ _ _ Ext.refl bA (.bl _) q⟩;have z':b=s.heap.objs.size:=by simpa using z
 exact absurd (z' ▸ Heap.lt_size e) (yR _)
theorem Mw {id:String}{g:List Bool->Bool}(rule:∀(pins:LA)(σ:St)(H:Hp)(s:Shared)(r:List Addr)(S:Sto)(Q:DK)(Qv:VK)(n:Nat)(a:Addr)(o:Ob)(bs:List Bool),Inv X pins σ H s->Rel X.K Z r S H->r[n]?=some a->lAt S n=some o->YN (Zk o)=some bs->
   Q (.bl (g bs)) S->Ret X.K Z r H Q Qv->wpAny (mX X) X.A (call (.builtin id) [.ref a]) (EP X pins σ Qv) X.xe s):Yi X (.builtin id) (upC X.K Z (Uj g)):=by
 intro pins s σ H xs us Qv I rv h;obtain⟨r,S,ds,Q,bA,ps,q,ret⟩:=h;unfold Uj at q;split at q
 .rename_i n;obtain⟨v,vs,rfl,p1,p2⟩:=ps.uncons;have z:=p2.unnil;subst z;split at q
  .rename_i o eo;split at q
   .rename_i bs eb;cases p1 with
    | ref h1=>
     obtain⟨u,rfl,ru⟩:=WA rv;cases ru;exact rule pins σ H s r S Q Qv n _ o bs I bA h1 eo eb q ret
   .exact q.elim
  .exact q.elim
 .exact q.elim
theorem Qk (hc:X.calm=true):Yi X (.builtin "all") (upC X.K Z (Uj λbs=>bs.all id)):=
 Mw λ_ _ _ _ _ _ _ _ _ _ _ _ I bA h1 eo eb q ret=>call_all_walk (ON (g:=λbs=>bs.all id) (λl f=>l.all f) EI hc I bA h1 eo eb q ret)
theorem Gj (hc:X.calm=true):Yi X (.builtin "any") (upC X.K Z (Uj λbs=>bs.any id)):=
 Mw λ_ _ _ _ _ _ _ _ _ _ _ _ I bA h1 eo eb q ret=>call_any_walk (ON (g:=λbs=>bs.any id) (λl f=>l.any f) Fd hc I bA h1 eo eb q ret)
@[irreducible] def irr (w:WC):WC:=w
@[irreducible] def Y4 (w:W2):W2:=w
theorem Vl (w:WC):irr w=w:=by unfold irr;rfl
theorem XY (w:W2):Y4 w=w:=by unfold Y4;rfl
theorem Z7 (h:Yi X f (upC X.K Z w)):Yi X f (upC X.K Z (irr w)):=by rw[Vl];exact h
theorem JC (ha:PD X Z a ta)(hb:PD X Z b tb)(hs:VV b):PD X Z (.Subscript a b pos) (dOp (Y4 wIx) ta tb):=by rw[XY];exact Ms ha hb hs
theorem ZC {a b:Expr}{ta tb:TDE}(ha:PD X Z a ta)(hb:PD X Z b tb)(hs:VV b:=by exact λ_ _=>rfl):PD X Z (.Subscript a b pos) (dOp (Y4 wIx) ta tb):=JC ha hb hs
theorem Zo (S:Sto)(o:Ob):(S++[o])[S.length]?=some o:=by simp
theorem X6 {S:Sto}{o u:Ob}{n:Nat}(h:S[n]?=some o):(S++[u])[n]?=some o:=by
 rw[zL (zA.mp h).1];exact h
theorem XT {tl te:TDE}{dl:Ev}{S S1:Sto}{Q:DK}{n:Nat}{o:Ob}(g:D->D)(htl:∀K:DK,K (.ref n) S1->tl dl S K)(h1:S1[n]?=some o)(hl:(Zk o).length<=1000)
  (ht:∀x∈Zk o,∀(S2:Sto)(K:DK),Pre S1 S2->K (g x) S2->te (some x::Z9 caps dl) S2 K)(hq:Q (.ref S1.length) (S1++[.lst ((Zk o).map g)]))(hL:Y5 o=some o:=by rfl):Xs caps tl Xe te dl S Q:=by
 unfold Xs;refine htl _ ⟨by rw[ZR h1 hL];rfl,λk m S2=>S2=S1++[.lst (((Zk o).take k).map g)]/\m+k=(Zk o).length,⟨(Zk o).length,by simp,by omega⟩,?_⟩;rintro k m S2 ⟨rfl,hm⟩;rw[ZR (X6 h1) hL];dsimp only;split
 .rename_i x hx;have hk:k<(Zk o).length:=(zA.mp hx).1;unfold WL Xe;refine ht x (zF hx) _ _ Pre.refl.push ?_;rw[Zo];refine⟨by simp;omega,m-1,by omega,?_,by omega⟩;have e:(Zk o).take (k+1)=(Zk o).take k++[x]:=by rw[xR,hx];rfl
  rw[e,yC,vO _ _ (zB _)];simp
 .rename_i hx;have hk:(Zk o).length<=k:=yY.mp hx;rw[yM hk];exact hq
theorem Bh (h:YN (Zk o)=some bs):Y5 o=some o:=by
 cases o<;>first|rfl|cases h
theorem OS (h:YI (Zk o)=some xs):Y5 o=some o:=by
 cases o<;>first|rfl|cases h
theorem SG (h:S[n]?=some o)(hb:YN (Zk o)=some bs)(hq:Q (.bl (g bs)) S):irr (Uj g) [.ref n] S Q:=by
 rw[Vl];unfold Uj;simp only[ZR h (Bh hb),hb];exact hq
theorem WR (h:S[n]?=some o)(hb:YI (Zk o)=some xs)(hne:xs≠[])(hq:∀m,m∈xs->(∀y∈xs,le y m)->Q (.int m) S):irr (VL le two) [.ref n] S Q:=by
 rw[Vl];unfold VL;simp only[ZR h (OS hb),hb];exact⟨hne,hq⟩
theorem PQ (h:lAt S n=some o)(hq:Q (.ref S.length) (S++[.lst (Zk o)])):irr Tw [.ref n] S Q:=by
 rw[Vl];unfold Tw;simp only[h];exact hq
theorem Y6 {to te:TDE}{dl:Ev}{S S1:Sto}{Q:DK}{n:Nat}{xs:List D}{y:D}(hto:∀K:DK,K (.ref n) S1->to dl S K)(h:S1[n]?=some (.lst xs))(hte:∀K:DK,K y S1->te dl S1 K)(hl:xs.length<1000)(hq:Q .non (S1.set n (.lst (xs++[y])))):Wh to te dl S Q:=by
 unfold Wh;refine hto _ ?_;simp only[h];refine hte _ ?_;simp only[h];exact ifP hl hq
end
theorem V2:Sco n (.tup [.int x,.int y]):=.tup λd hd=>by
 have z:d=.int x\/d=.int y:=by simpa using hd
 rcases z with rfl|rfl<;>exact .int _
open PySem PySem.Spec PyProof.Rows L2 PySem.W Builtin Builtin.ObjectAttr Builtin.Getset_descriptor
structure Nx (K:Frag)(D:Addr):Prop where
 ga:findIn K (.ref D) "__getattribute__"=some (some (.builtin "BaseException.__getattribute__"))
 hk:findIn K (.ref D) "__getattr__"=some none
 ha:findIn K (.ref D) "__class__"=some (some (.builtin "object.__class__"))
 hn:specialIn K (.builtin "object.__class__") "__get__"=some (some (.builtin "getset_descriptor.__get__"))
 ht:takesIn K (.builtin "object.__class__")=some true
 hm:mroIn K D (.type "object")=some true
 hb:mroIn K D (.type "BaseException")=some true
section
variable {X:Cx}{Z:Zx}
end
def eqN:Nat->D->D->Option Bool
 | 0=>eqF
 | k+1=>eqT (eqN k)
theorem M7:∀k,Uk (eqN k)
 | 0=>VT
 | k+1=>Nu (M7 k)
theorem PK:∀k,WJ k (eqN k)
 | 0=>RA 0
 | k+1=>Ly (PK k) (M7 k)
def Y8 (f:D->D->Option Bool):List D->D->Option Bool
 | [],_=>some false
 | y::ys,x=>match f y x,Y8 f ys x with
  | some b,some c=>some (b||c)
  | _,_=>none
def wIn (k:Nat)(neg:Bool):W2:=λx y S Q=>match y with
 | .ref n=>match lAt S n with
  | some o=>match Y8 (eqN k) (Zk o) x with
   | some b=>Q (.bl (if neg then !b else b)) S
   | none=>False
  | none=>False
 | _=>False
theorem NQ (h:Zs v u)(h':Zs v' u):v=v':=by
 cases v<;>cases v'<;>simp[L2.Zs] at h h'<;>first
  | rfl
  | (subst h;simp at h';subst h';rfl)
  | (obtain⟨t,rfl⟩:=h;simp at h';subst h';rfl)
  | (obtain⟨t,rfl⟩:=h;simp at h')
  | (subst h;simp at h')
  | skip
theorem UR {r:List Addr}{H:Hp}{d d' x:D}{v:V}{b b':Bool}(p:Rp r H d v)(p':Rp r H d' v)(e:eqF d x=some b)(e':eqF d' x=some b'):b=b':=by
 have z:d=d':=by
  cases p<;>cases p'<;>first
   | rfl
   | (cases x<;>simp[eqF] at e)
   | (cases x<;>simp[eqF] at e')
 subst z;rw[e] at e';exact Option.some.inj e'
theorem MH {f:D->D->Option Bool}{r:List Addr}{H:Hp}(hf:∀(d d' x:D)(v:V)(b b':Bool),Rp r H d v->Rp r H d' v->f d x=some b->f d' x=some b'->b=b'):
  ∀ {ds ds' zs:List D} {vs:List V} {b b':Bool},Rps r H ds vs->Rps r H ds' vs->eqL f ds zs=some b->eqL f ds' zs=some b'->b=b'
 | [],ds',zs,vs,b,b',p,p',e,e'=>by
  have z:=p.unnil;subst z;cases ds' with
  | nil=>rw[e] at e';exact Option.some.inj e'
  | cons y ys=>exact absurd p'.1 (by simp)
 | d::ds,ds',zs,vs,b,b',p,p',e,e'=>by
  obtain⟨v,vs',rfl,p1,p2⟩:=p.uncons;cases ds' with
  | nil=>exact absurd p'.1 (by simp)
  | cons d' ds'=>
   obtain⟨q1,q2⟩:=p'.tail;cases zs with
   | nil=>
    simp only[eqL,Option.some.injEq] at e e';exact e.symm.trans e'
   | cons z zs=>
    unfold eqL at e e';split at e
    .rename_i b1 c1 a1 a2;split at e'
     .rename_i b2 c2 a3 a4;have h1:=hf d d' z v b1 b2 p1 q1 a1 a3
      have h2:=MH hf p2 q2 a2 a4;subst h1 h2;simp at e e';exact e.symm.trans e'
     .cases e'
    .cases e
theorem RT:∀(k:Nat) {r:List Addr} {H:Hp} (d d' x:D) (v:V) (b b':Bool),Rp r H d v->Rp r H d' v->eqN k d x=some b->eqN k d' x=some b'->b=b'
 | 0,r,H,d,d',x,v,b,b',p,p',e,e'=>UR p p' e e'
 | k+1,r,H,d,d',x,v,b,b',p,p',e,e'=>by
  cases p with
  | tup h1 l1 f1=>
   cases p' with
   | tup h2 l2 f2=>
    rw[h1] at h2;cases h2
    cases x with
    | tup zs=>exact MH (λd d' x v b b'=>RT k d d' x v b b') ⟨l1,f1⟩ ⟨l2,f2⟩ e e'
    | _=>simp[eqN,eqT,eqF] at e
   | ref h=>cases x<;>simp[eqN,eqT,eqF] at e'
   | exc h=>cases x<;>simp[eqN,eqT,eqF] at e'
  | non=>exact UR (x:=x) .non p' (by cases x<;>exact e) (by cases p'<;>cases x<;>exact e')
  | bl i=>exact UR (x:=x) (.bl i) p' (by cases x<;>exact e) (by cases p'<;>cases x<;>exact e')
  | int i=>exact UR (x:=x) (.int i) p' (by cases x<;>exact e) (by cases p'<;>cases x<;>exact e')
  | str i=>exact UR (x:=x) (.str i) p' (by cases x<;>exact e) (by cases p'<;>cases x<;>exact e')
  | ref h=>cases x<;>simp[eqN,eqT,eqF] at e
  | exc h=>cases x<;>simp[eqN,eqT,eqF] at e
theorem Nl:∀ {ys:List D} {b:Bool},Y8 f ys x=some b->(∀y∈ys,∃c,f y x=some c)/\(b=true↔∃y∈ys,f y x=some true)
 | [],b,e=>by
  simp only[Y8,Option.some.injEq] at e;subst e;simp
 | y::ys,b,e=>by
  unfold Y8 at e;split at e
  .rename_i b1 c1 e1 e2;obtain⟨h1,h2⟩:=Nl e2;simp at e;subst e;refine⟨λz hz=>?_,?_⟩
   .rcases zY.mp hz with rfl|hz'
    .exact⟨b1,e1⟩
    .exact h1 z hz'
   .rw[Bool.or_eq_true,h2];refine⟨λq=>?_,λ⟨z,hz,q⟩=>?_⟩
    .rcases q with q|⟨z,hz,q⟩
     .exact⟨y,yV,by rw[e1,q]⟩
     .exact⟨z,yI _ hz,q⟩
    .rcases zY.mp hz with rfl|hz'
     .left
      rw[e1] at q;exact Option.some.inj q
     .exact .inr ⟨z,hz',q⟩
  .cases e
theorem Ei {k:Nat}{pins:LA}{σ:St}{H:Hp}{s:Shared}{r:List Addr}{A:Around}{ds:List D}{vs:List V}{us:List Value}{dx:D}{x:V}{u:Value}{b:Bool}(I:Inv X pins σ H s)(hu:A.units+k<cLine)
  (p:Rps r H ds vs)(rv:Zq vs us)(px:Rp r H dx x)(rx:Zs x u)(e:Y8 (eqN k) ds dx=some b):∃g:Value->Bool,(∀y,y∈us.toArray->SeqAt.EqAt A s y u (g y))/\us.toArray.any g=b:=by
 obtain⟨h1,h2⟩:=Nl e;have at_:∀y∈us,∃d v,d∈ds/\Rp r H d v/\Zs v y:=λy hy=>by
  obtain⟨j,hj,ej⟩:=yP.mp hy;have hv:j<vs.length:=by rw[rv.length];exact hj
  have gv:vs[j]?=some vs[j]:=by simp[hv]
  obtain⟨w,gw,rw'⟩:=rv.get gv;obtain⟨d,gd,pd⟩:=p.get' gv;have ew:w=y:=by
   rw[zD hj,ej] at gw;exact(Option.some.inj gw).symm
  subst ew;exact⟨d,_,zF gd,pd,rw'⟩
 classical
 refine⟨λy=>decide (∃d v,d∈ds/\Rp r H d v/\Zs v y/\eqN k d dx=some true),λy hy=>?_,?_⟩
 .obtain⟨d,v,hd,pd,rd⟩:=at_ y (by simpa using hy);obtain⟨c,hc⟩:=h1 d hd;have same:decide (∃d v,d∈ds/\Rp r H d v/\Zs v y/\eqN k d dx=some true)=c:=by
   cases c with
   | true=>exact decide_eq_true ⟨d,v,hd,pd,rd,hc⟩
   | false=>
    refine decide_eq_false λ⟨d',v',_,pd',rd',hc'⟩=>?_
    have ev:=NQ rd rd';subst ev;exact absurd (RT k d d' dx v false true pd pd' hc hc') ⋯
  show SeqAt.EqAt A s y u (decide _);rw[same];exact PK k X pins σ H s r A d dx v x y u c I hu pd px rd rx hc
 .rw[xG,h2,List.any_toArray,vN];refine⟨λ⟨y,hy,q⟩=>?_,λ⟨d,hd,q⟩=>?_⟩
  .obtain⟨d,v,hd,_,_,q'⟩:=of_decide_eq_true q;exact⟨d,hd,q'⟩
  .obtain⟨j,hj,ej⟩:=yP.mp hd;have gd:ds[j]?=some d:=by simp[hj,ej]
   obtain⟨v,gv,pv⟩:=p.get gd;obtain⟨w,gw,rw'⟩:=rv.get gv;exact⟨w,zF gw,decide_eq_true ⟨d,v,hd,pv,rw',q⟩⟩
theorem Jb (k:Nat)(hu:X.A.units+1+k<cLine):OpR X (compareOp .NotIn) (upO X.K Z (wIn k true)):=by
 intro pins s σ H x y v u Qv I rx ry h;obtain⟨r,S,dx,dy,Q,bA,px,py,q,ret⟩:=h;cases py with
 | @ref n a hn=>
  unfold wIn at q;dsimp only at q;split at q
  .rename_i o eo;split at q
   .rename_i b eb;cases ry;obtain⟨eo,eL⟩:=Xb eo;obtain⟨a',ha,ob⟩:=bA.at eo;rw[hn] at ha;cases ha
    obtain⟨ys,sq,pr⟩:=ob.list eL;obtain⟨us,ru,pl,_⟩:=I.list sq;obtain⟨g,g1,g2⟩:=Ei (A:=X.A.in1) I (by show X.A.units+1+k<_;omega) pr ru px rx eb;refine SeqAt.notIn_listAt g pl.isList g1 ?_;rw[g2];exact⟨.bl (!b),H,I,rfl,ret _ _ _ _ _ Ext.refl bA (.bl (!b)) q⟩
   .exact q.elim
  .exact q.elim
 | _=>exact(show False from q).elim
def dForT (i:Nat)(tl:TDE)(tb:TDS):TDS:=λE dl S=>tl dl S λd S1=>match d with
 | .tup xs=>∃W:Nat->Ev->Sto->Prop,W 0 dl S1/\∀k dl S,W k dl S->match xs[k]? with
  | some x=>tb { nx:=λdl' S'=>W (k+1) dl' S',rt:=E.rt,bk:=E.nx,ct:=λdl' S'=>W (k+1) dl' S' } (dl.set i (some x)) S
  | none=>E.nx dl S
 | _=>False
theorem DV (hp:PassesOwn (mX X) X.A X.env X.xe)(hc:X.calm=true)(hN:X.N.Nodup)(hi:X.N[i]?=some x)(hx:Loc X.env.scope x)(hl:PD X Z aV tl)(hb:Yy X Z body tb)(hf:Hf X x:=by first|exact .inl rfl|exact .inr rfl|assumption)(hs:∀y,foldedSetIterable aV X.env y=pure y:=by intro _;rfl):PDS X Z (.For (.Name x pos') aV body [] pos) (dForT i tl tb):=
 YB (Um hp hc (K0 hl) (Ud hN hi hx hf) hb hs) λF σ H ⟨r,dl,S,E,rs,bA,h,ret⟩=>by
  refine⟨r,dl,S,_,rs,bA,h,λv H1 r1 d S1 x1 aC p1 q1=>?_⟩;cases p1 with
  | @tup ds xs a e1 l1 f1=>
   obtain⟨W,w0,turn⟩:=q1;have sq:∀ {r':List Addr} {H':Hp},Ext r1 r' H1 H'->SqT X.K H' a xs:=λ{r' H'} x'=>SqT.of (x'.tup _ _ e1)
   refine⟨a,rfl,⟨xs,sq Ext.refl⟩,Us x1 rs aC ret (λk m d s=>m+k=xs.length/\W k d s) ⟨rfl,w0⟩ λk m r2 dl2 S2 σ2 H2 x2 rs2 aE w=>?_⟩;obtain⟨em,w2⟩:=w;have q:=turn k dl2 S2 w2;split at q
   .rename_i y ey;have hk:k<ds.length:=(zA.mp ey).1
    have hkx:k<xs.length:=by rw[<- l1];exact hk
    have pv:Rp r2 H2 y xs[k]:=(f1 k y xs[k] ey (by simp[hkx])).ext x2;refine .inr ⟨⟨xs,xs[k],sq x2,by simp[hkx]⟩,_,λd s z=>⟨m-1,by omega,by omega,z⟩,λv' H' y' K hK=>?_⟩;obtain⟨rfl,y'⟩:=y';cases (y' xs (sq x2)).symm.trans (zD hkx);exact hK _ _ _ Ext.refl (rs2.set i pv) aE q
   .rename_i ey;exact .inl ⟨⟨xs,sq x2,by rw[<- l1];exact yY.mp ey⟩,q⟩
  | _=>exact(show False from q1).elim
def Vt:List Nat->List D->Ev->Ev
 | i::is,d::ds,dl=>Vt is ds (dl.set i (some d))
 | _,_,dl=>dl
def TF:List Nat->List V->St->St
 | i::is,v::vs,σ=>TF is vs (σ.set i (some v))
 | _,_,σ=>σ
theorem QX {r:List Addr}{H:Hp}:∀ {is:List Nat} {ds:List D} {vs:List V} {dl:Ev} {σ:St},Rs r H dl σ->Rps r H ds vs->Rs r H (Vt is ds dl) (TF is vs σ)
 | [],ds,vs,dl,σ,h,p=>by cases ds<;>cases vs<;>exact h
 | i::is,[],vs,dl,σ,h,p=>by
  have z:=p.unnil;subst z;exact h
 | i::is,d::ds,vs,dl,σ,h,p=>by
  obtain⟨v,vs',rfl,p1,p2⟩:=p.uncons;show Rs r H (Vt is ds (dl.set i (some d))) (TF is vs' (σ.set i (some v)));exact QX (Rs.set i h p1) p2
inductive Nms (X:Cx):List Expr->List Nat->Prop
 | nil:Nms X [] []
 | cons {x:Str} {p:Pos} {i:Nat} {es:List Expr} {is:List Nat}:X.N[i]?=some x->Loc X.env.scope x->(X.fn x=true\/X.env.scope.names.lookup x=some .local)->Nms X es is->Nms X (.Name x p::es) (i::is)
def gAll (is:List Nat):TGs:=λvs σ H Q=>vs.length=is.length/\Q (TF is vs σ) H
theorem Vh (hN:X.N.Nodup):∀ {es:List Expr} {is:List Nat},Nms X es is->PGs X es (gAll is)
 | _,_,.nil=>λpins s σ H vs us Q I r h=>by
  obtain⟨e,h⟩:=h;have z:vs=[]:=by simpa using e
  subst z;exact Kb pins s σ H [] us Q I r ⟨rfl,h⟩
 | _,_,.cons h1 h2 h3 t=>λpins s σ H vs us Q I r h=>by
  obtain⟨e,h⟩:=h;cases vs with
  | nil=>simp at e
  | cons v vs=>exact Bl (Ud hN h1 h2 h3) (Vh hN t) rfl pins s σ H (v::vs) us Q I r ⟨v,vs,rfl,by simpa using e,h⟩
open PySem L2
theorem Vn (S:Sto)(o u:Ob):(S++[o]).set S.length u=S++[u]:=by simp
abbrev wShl:W2:=wI RB λi j=>.int (i*2^j.toNat)
theorem Jx:OpR X (binaryOp .LShift) (upO X.K Z wShl):=opD D8 λ_ _ _ _=>.int _
def dBits (to:TDE):TDE:=λdl S Q=>to dl S λd S1=>match d with
 | .int i=>Q (.int (Builtin.Int.intBits i)) S1
 | _=>False
theorem K1:MtR X "int.bit_length" (λx xs H Q=>∃i,x=.int i/\xs=[]/\Q (.int (Builtin.Int.intBits i)) H):=by
 intro pins s σ H x xs v us Q I rx rv h;obtain⟨i,rfl,rfl,q⟩:=h;obtain⟨t,rfl⟩:=rx;cases rv;exact call_int_bit_length ⟨.int _,H,I.tok _,⟨_,rfl⟩,q⟩
theorem D2 (ho:PD X Z o to)(hbase:attributeBase o "bit_length" X.env (eval o X.env)=eval o X.env:=by rfl)(hline:(aK.endLine==aJ.line)=true:=by rfl):
  PD X Z (.Call (.Attribute o "bit_length" aK) [] [] aJ) (dBits to):=
 Z6 (Jm ⟨⟨_,ga_int,canon_ga_int⟩,no_getattr_int⟩ slot_int_bit_length type_int_bit_length K1 ho hbase hline) λσ H Qv ⟨r,dl,S,Q,rs,bA,h,ret⟩=>⟨r,dl,S,_,rs,bA,h,λv H1 r1 d S1 e1 aC p1 q1=>by
  cases p1 with
  | int i=>exact⟨rfl,i,rfl,rfl,ret _ H1 r1 (.int _) S1 e1 aC (.int _) q1⟩
  | _=>exact(show False from q1).elim⟩
def QA:Sd:=λ_ _ _ _=>False
def Df.never {P:Program}{w:World}{K:Fg}{mg:Str->Option Value}{base:Heap}{x:Str}{st:Stmt}{ps:List Str}(k:Nat)(d:Df K mg x st ps):Fk P w K mg base k x ps QA:=
 ⟨d.f,d.fd,⟨λ_ _ _ _ ⟨_,_,_,_,_,_,_,z,_⟩=>z.elim,λ_ _ _ _ _ _ _ _ _ _ _ _ _ ⟨_,_,_,_,_,_,_,z,_⟩=>z.elim⟩,d.m,d.F.kp,d.b⟩
section
variable {X:Cx}{Z:Zx}{pos:Pos}
end
theorem UP {ta:TDA}{te:TDE}{dl:Ev}{S S1:Sto}{Q:DK}{j:Int}(g:Nat->D)(hta:∀K:List D->Sto->Prop,K [.int j] S1->ta dl S K)(hj:0<=j/\j<=1000)
  (ht:∀k:Nat,k<j.toNat->∀(S2:Sto)(K:DK),Pre S1 S2->K (g k) S2->te (some (.int k)::Z9 caps dl) S2 K)(hq:Q (.ref S1.length) (S1++[.lst ((List.range j.toNat).map g)])):WH caps ta Xe te dl S Q:=by
 unfold WH;refine hta _ ⟨⟨by omega,by omega⟩,λk S2=>S2=S1++[.lst ((List.range k).map g)]/\k<=j.toNat,⟨by simp,by omega⟩,?_⟩;rintro k S2 ⟨rfl,hk⟩;split
 .rename_i hk';refine ht k hk' _ _ Pre.refl.push ?_;rw[Zo];refine⟨by simp;omega,?_,by omega⟩;rw[wO,yC,vO _ _ (zB _)];simp
 .have e:k=j.toNat:=by omega
  subst e;exact hq
abbrev TDO:=Ev->Sto->(Option Int->Sto->Prop)->Prop
inductive upP (K:Fg)(Z:Zx)(t:TDO)(σ:St)(H:Hp)(Q:Option Int->Hp->Prop):Prop
 | mk (r:List Addr) (dl:Ev) (S:Sto) (Q':Option Int->Sto->Prop) (rs:Rs r H dl σ) (bA:Rel K Z r S H) (h:t dl S Q') (ret:∀o H' r' S',Ext r r' H H'->Rel K Z r' S' H'->Q' o S'->Q o H'):upP K Z t σ H Q
def PDO (X:Cx)(Z:Zx)(e:Option Expr)(t:TDO):Prop:=PO X e (upP X.K Z t)
def Q6:TDO:=λ_ S Q=>Q none S
def P7 (t:TDE):TDO:=λdl S Q=>t dl S λd S1=>match d with
 | .int i=>Q (some i) S1
 | _=>False
theorem M6 (h:PO X e t)(g:∀σ H Q,t' σ H Q->t σ H Q):PO X e t':=λpins s σ H Q I q=>h pins s σ H Q I (g σ H Q q)
theorem Wi:PDO X Z none Q6:=M6 GL λσ H Q ⟨r,dl,S,Q',rs,bA,h,ret⟩=>ret none H r S Ext.refl bA h
theorem Wm (he:PD X Z e t):PDO X Z (some e) (P7 t):=M6 (Et he) λσ H Q ⟨r,dl,S,Q',rs,bA,h,ret⟩=>⟨r,dl,S,_,rs,bA,h,λv H1 r1 d S1 e1 aC p1 q1=>by
 cases p1 with
 | int i=>exact⟨i,rfl,ret (some i) H1 r1 S1 e1 aC q1⟩
 | _=>exact(show False from q1).elim⟩
section
variable {X:Cx}{Z:Zx}
end
section
variable {X:Cx}{Z:Zx}
end
theorem Zz (ho:S[n]?=some o)(hd:atI (Zk o) i=some d)(hq:Q d S)(hL:Y5 o=some o:=by rfl):Y4 wIx (.ref n) (.int i) S Q:=by
 rw[XY];unfold wIx;simp only[ZR ho hL,hd];exact hq
def VB (f:Str)(v:D):List (Str×D)->List (Str×D)
 | []=>[(f,v)]
 | p::r=>if p.1=f then (f,v)::r else p::VB f v r
theorem FR.lookup {r:List Addr}{H:Hp}{f:Str}:∀ {fs:List (Str×D)} {fs':List (Str×V)},FR r H fs fs'->(∀d,fs.lookup f=some d->∃v,fs'.lookup f=some v/\Rp r H d v)/\(fs.lookup f=none->fs'.lookup f=none)
 | [],fs',h=>by
  have e:fs'=[]:=by
   have:=h.1;simpa using this.symm
  subst e;exact⟨λd z=>by simp at z,λ_=>rfl⟩
 | p::fs,[],h=>by
  have:=h.1;simp at this
 | p::fs,q::fs',h=>by
  obtain⟨h1,h2⟩:=h;simp at h1;obtain⟨p1,p2⟩:=h2.tail;obtain⟨i1,i2⟩:=FR.lookup ⟨h1.2,p2⟩;obtain⟨pk,pv⟩:=p;obtain⟨qk,qv⟩:=q;have ek:pk=qk:=h1.1;subst ek;by_cases z:f=pk
  .subst z;simp only[List.lookup_cons_self];exact⟨λd hd=>⟨qv,rfl,by cases hd;exact p1⟩,λhd=>by cases hd⟩
  .have zb:(f==pk)=false:=by simpa using z
   simp only[zW,zb];exact⟨i1,i2⟩
theorem FR.put {r:List Addr}{H:Hp}{f:Str}{d:D}{v:V}(q:Rp r H d v):∀ {fs:List (Str×D)} {fs':List (Str×V)},FR r H fs fs'->FR r H (VB f d fs) (YL f v fs')
 | [],fs',h=>by
  have e:fs'=[]:=by
   have:=h.1;simpa using this.symm
  subst e;exact⟨rfl,Rps.cons q Rps.nil⟩
 | p::fs,[],h=>by
  have:=h.1;simp at this
 | p::fs,p'::fs',h=>by
  obtain⟨h1,h2⟩:=h;simp at h1;obtain⟨p1,p2⟩:=h2.tail;have ih:=FR.put (f:=f) q ⟨h1.2,p2⟩;obtain⟨pk,pv⟩:=p;obtain⟨qk,qv⟩:=p';have ek:pk=qk:=h1.1;subst ek;unfold VB YL;by_cases z:pk=f
  .rw[if_pos z,if_pos z];exact⟨by simp[h1.2,z],Rps.cons q p2⟩
  .rw[if_neg z,if_neg z];exact⟨by simp[ih.1],Rps.cons p1 ih.2⟩
section
variable {X:Cx}{Z:Zx}{pos:Pos}
def X8 (C:Addr)(S:Sto):D->Option (Nat×List (Str×D))
 | .ref n=>match S[n]? with
  | some (.ins C' fs)=>if C'=C then some (n,fs) else none
  | _=>none
 | _=>none
theorem Qq (h:X8 C S d=some (n,fs)):d=.ref n/\S[n]?=some (.ins C fs):=by
 unfold X8 at h;split at h
 .split at h
  .rename_i m _ C' fs' e;split at h
   .rename_i ec;subst ec;obtain⟨rfl,rfl⟩:=h;exact⟨rfl,e⟩
   .cases h
  .cases h
 .cases h
@[irreducible] def S6 (C:Addr)(f:Str)(to:TDE):TDE:=λdl S Q=>to dl S λd S1=>match X8 C S1 d with
 | some (_,fs)=>match fs.lookup f with
  | some v=>Q v S1
  | none=>False
 | none=>False
theorem ZF (c:Cls X.K C)(n:Ym X.K C f)(ho:PD X Z o to)(hb:attributeBase o f X.env (eval o X.env)=eval o X.env:=by rfl):PD X Z (.Attribute o f pos) (S6 C f to):=
 Z6 (CH ho hb) λσ H Qv ⟨r,dl,S,Q,rs,bA,h,ret⟩=>by unfold S6 at h;exact⟨r,dl,S,_,rs,bA,h,λv H1 r1 d S1 e1 aC p1 q1=>by
  split at q1
  .rename_i m fs ei;obtain⟨rfl,eS⟩:=Qq ei;split at q1
   .rename_i w ew;obtain⟨a,ha,ob⟩:=aC.at eS;obtain⟨dx,fs',eH,fr⟩:=ob;cases p1 with
    | ref hr=>
     rw[hr] at ha;cases ha
     obtain⟨u,hu,pu⟩:=fr.lookup.1 w ew;exact⟨a,C,dx,fs',u,rfl,eH,c,n,hu,ret u H1 r1 w S1 e1 aC pu q1⟩
   .exact q1.elim
  .exact q1.elim⟩
@[irreducible] def Rm (C:Addr)(f:Str)(to te:TDE):TDS:=λE dl S=>te dl S λv S1=>to dl S1 λd S2=>match X8 C S2 d with
 | some (n,fs)=>fs.length<1000/\E.nx dl (S2.set n (.ins C (VB f v fs)))
 | none=>False
theorem Wt (c:Cls X.K C)(n:Ym X.K C f)(ho:PD X Z o to)(he:PD X Z e te)(hs:swapsWith e (some (.Attribute o f p2)) pos.line X.env=pure false:=by rfl):PDS X Z (.Assign [.Attribute o f p2] e pos) (Rm C f to te):=
 YB (GO ho he hs) λF σ H ⟨r,dl,S,E,rs,bA,h,ret⟩=>by unfold Rm at h;exact⟨r,dl,S,_,rs,bA,h,λv H1 r1 dv S1 e1 aC p1 q1=>⟨r1,dl,S1,_,rs.ext e1,aC,q1,λw H2 r2 d S2 e2 aE p2' q2=>by
  split at q2
  .rename_i m fs ei;obtain⟨rfl,eS⟩:=Qq ei;obtain⟨hl,q2⟩:=q2;obtain⟨a,ha,ob⟩:=aE.at eS;obtain⟨dx,fs',eH,fr⟩:=id ob;cases p2' with
   | ref hr=>
    rw[hr] at ha;cases ha
    have aO:fs'.length=fs.length:=by
     have:=congrArg List.length fr.1;simpa using this.symm
    obtain⟨rb,x⟩:=aE.b.setO (o':=.ins C (VB f dv fs)) hr eS rfl rfl λx=>⟨dx,_,YK,(fr.put (p1.ext e2)).ext x⟩
    exact⟨a,C,dx,fs',rfl,eH,c,n,by omega,ret.nx _ _ r2 _ _ (e1.trans (e2.trans x)) (rs.ext (e1.trans (e2.trans x))) ⟨rb,aE.xw.ext x⟩ q2⟩
  .exact q2.elim⟩⟩
@[irreducible] def Vz (C:Addr)(m:Str)(ex:Ev->Addr->Sto->Prop)(sd:Sd)(to:TDE)(t:TDA):TDE:=λdl S Q=>to dl S λd S1=>match X8 C S1 d with
 | some (_,fs)=>fs.lookup m=none/\t dl S1 λds S2=>sd (d::ds) S2 Q (ex dl)
 | none=>False
theorem Kj (he:PE X o ta)(c:Cls X.K C)(hm:WT X.K C m f)(F:Yc X.prog X.w X.K X.mg X.base (CXE X.prog X.w) k f fd ps sp)(hr:ZG k X.A)(hb:YG X.K fd ps [])(hx:X2 X W)(ha:PA X (e::es) t)(hst:starEach (e::es) X.env=(false,eval e X.env)::starEach es X.env)(hpl:Hp1 X pos es)(ht:eval (.Call (.Attribute o m aK) (e::es) [] pos) X.env=(do
   let ov <- eval o X.env
   standAt aK.atName
   let (f,first) <- holding [ov] (getMethod ov m pl)
   callWith pos f first (backTo pos (starEach (e::es) X.env)) (backToKw pos (keywordEach [] X.env)))):
  PE X (.Call (.Attribute o m aK) (e::es) [] pos) (λσ H Q=>ta σ H λx H1=>∃a dx fs,x=.ref a/\H1 a=some (.ins C dx fs)/\fs.lookup m=none/\t σ H1 λvs H2=>sp (x::vs) H2 Q (W σ)):=by
 intro pins s σ H Q I h;refine PySem.W.methodCall_KW (thn (he pins s σ H _ I h) λu s1 ⟨x,H1,I1,rx,a,dx,fs,ex,ea,l,q⟩=>?_) ht;subst ex;obtain rfl:u=Value.ref a:=rx;refine Px I1 ea c hm l ?_;exact PySem.W.callWith_K I.ok.mod.kin hm.kp (thn (ha pos pins s1 σ H1 _ I1 q) λus s2 ⟨vs,H2,I2,r,q2⟩=>⟨I2.kIn,RD (vs:=.ref a::vs) F hr hb hx I2 (.cons rfl r) q2⟩) hst hpl
theorem CV (he:PE X o ta)(c:Cls X.K C)(hm:WT X.K C m f)(F:Yc X.prog X.w X.K X.mg X.base (CXE X.prog X.w) k f fd ps sp)(hr:ZG k X.A)(hb:YG X.K fd ps [])(hx:X2 X W)(ht:eval (.Call (.Attribute o m aK) [] [] pos) X.env=(do
   let ov <- eval o X.env
   standAt aK.atName
   let (f,first) <- holding [ov] (getMethod ov m pl)
   callWith pos f first (backTo pos (starEach [] X.env)) (backToKw pos (keywordEach [] X.env)))):
  PE X (.Call (.Attribute o m aK) [] [] pos) (λσ H Q=>ta σ H λx H1=>∃a dx fs,x=.ref a/\H1 a=some (.ins C dx fs)/\fs.lookup m=none/\sp [x] H1 Q (W σ)):=by
 intro pins s σ H Q I h;refine PySem.W.methodCall_KW (thn (he pins s σ H _ I h) λu s1 ⟨x,H1,I1,rx,a,dx,fs,ex,ea,l,q⟩=>?_) ht;subst ex;obtain rfl:u=Value.ref a:=rx;refine Px I1 ea c hm l ?_;exact PySem.W.callWith_K0 I1.kIn hm.kp (RD (vs:=[.ref a]) F hr hb hx I1 (.cons rfl .nil) q)
theorem RR {C:Addr}{r:List Addr}{S:Sto}{H:Hp}{d:D}{v:V}{n:Nat}{fs:List (Str×D)}(bA:ZV X.K r S H)(p:Rp r H d v)(h:X8 C S d=some (n,fs)):∃a dx fs',v=.ref a/\r[n]?=some a/\H a=some (.ins C dx fs')/\FR r H fs fs':=by
 obtain⟨rfl,eS⟩:=Qq h;obtain⟨a,ha,dx,fs',eH,fr⟩:=bA.at eS;cases p with
 | ref hr=>
  rw[hr] at ha;cases ha
  exact⟨a,dx,fs',rfl,hr,eH,fr⟩
theorem Xa (ho:PD X ⟨ex,W⟩ o to)(c:Cls X.K C)(hm:WT X.K C m f)(F:Yc X.prog X.w X.K X.mg X.base (CXE X.prog X.w) k f fd ps (upF X.K sd))(hr:ZG k X.A)(hb:YG X.K fd ps [])(hx:X2 X W)(ha:PDA X ⟨ex,W⟩ (e::es) t)(hst:starEach (e::es) X.env=(false,eval e X.env)::starEach es X.env:=by rfl)(hpl:Hp1 X pos es:=by rfl)(ht:eval (.Call (.Attribute o m aK) (e::es) [] pos) X.env=(do
   let ov <- eval o X.env
   standAt aK.atName
   let (f,first) <- holding [ov] (getMethod ov m pl)
   callWith pos f first (backTo pos (starEach (e::es) X.env)) (backToKw pos (keywordEach [] X.env))):=by rfl):PD X ⟨ex,W⟩ (.Call (.Attribute o m aK) (e::es) [] pos) (Vz C m ex sd to t):=
 Z6 (Kj ho c hm F hr hb hx ha hst hpl ht) λσ H Qv ⟨r,dl,S,Q,rs,bA,h,ret⟩=>by unfold Vz at h;exact⟨r,dl,S,_,rs,bA,h,λv H1 r1 d S1 e1 aC p1 q1=>by
  split at q1
  .rename_i n fs ei;obtain⟨hl,q1⟩:=q1;obtain⟨a,dx,fs',rfl,hr1,eH,fr⟩:=RR aC.b p1 ei;exact⟨a,dx,fs',rfl,eH,fr.lookup.2 hl,r1,dl,S1,_,rs.ext e1,aC,q1,λvs H2 r2 ds S2 e2 aE p2 q2=>SE (rs.ext (e1.trans e2)) aE (Rps.cons (p1.ext e2) p2) q2 (ret.ext (e1.trans e2))⟩
  .exact q1.elim⟩
theorem Nq (ho:PD X ⟨ex,W⟩ o to)(c:Cls X.K C)(hm:WT X.K C m f)(F:Yc X.prog X.w X.K X.mg X.base (CXE X.prog X.w) k f fd ps (upF X.K sd))(hr:ZG k X.A)(hb:YG X.K fd ps [])(hx:X2 X W)(ht:eval (.Call (.Attribute o m aK) [] [] pos) X.env=(do
   let ov <- eval o X.env
   standAt aK.atName
   let (f,first) <- holding [ov] (getMethod ov m pl)
   callWith pos f first (backTo pos (starEach [] X.env)) (backToKw pos (keywordEach [] X.env))):=by rfl):PD X ⟨ex,W⟩ (.Call (.Attribute o m aK) [] [] pos) (Vz C m ex sd to U0):=
 Z6 (CV ho c hm F hr hb hx ht) λσ H Qv ⟨r,dl,S,Q,rs,bA,h,ret⟩=>by unfold Vz at h;exact⟨r,dl,S,_,rs,bA,h,λv H1 r1 d S1 e1 aC p1 q1=>by
  split at q1
  .rename_i n fs ei;obtain⟨hl,q1⟩:=q1;obtain⟨a,dx,fs',rfl,hr1,eH,fr⟩:=RR aC.b p1 ei;exact⟨a,dx,fs',rfl,eH,fr.lookup.2 hl,SE (rs.ext e1) aC (Rps.cons p1 Rps.nil) q1 (ret.ext e1)⟩
  .exact q1.elim⟩
def dMake (C:Addr)(ex:Addr->Sto->Prop)(sd:Sd)(t:TDA):TDE:=λdl S Q=>t dl S λds S1=>sd (.ref S1.length::ds) (S1++[.ins C []]) (λd S2=>d=.non/\Q (.ref S1.length) S2) ex
theorem Hr {C x dx:Addr}{r:List Addr}{S:Sto}{H:Hp}(bA:Rel X.K Z r S H)(h1:H x=none)(h2:H dx=none)(h3:dx≠x):
  Rel X.K Z (r++[x]) (S++[.ins C []]) (upd (upd H dx (.own x)) x (.ins C dx []))/\Ext r (r++[x]) H (upd (upd H dx (.own x)) x (.ins C dx [])):=by
 obtain⟨rb,e⟩:=bA.b.pushO (o:=.ins C []) (H':=upd (upd H dx (.own x)) x (.ins C dx [])) h1 (λb u q=>by rw[ZT (WS q h1),ZT (WS q h2)];exact q) λ_=>⟨dx,[],YK,FR.nil⟩
 exact⟨⟨rb,bA.xw.ext e⟩,e⟩
theorem Jf {C x:Addr}{r r':List Addr}{n:Nat}{H H':Hp}{Z:Zx}{K:Fg}{Q:DK}{Qv:VK}(ret:Ret K Z r H Q Qv)(e:Ext r r' H H')(hx:r'[n]?=some x):
  Ret K Z r' H' (λd S2=>d=.non/\Q (.ref n) S2) (λv H2=>v=.non/\Qv (.ref x) H2):=λv H2 r2 d S2 e2 aE p2 q2=>by
 obtain⟨rfl,q2⟩:=q2;cases p2;exact⟨rfl,ret _ H2 r2 (.ref n) S2 (e.trans e2) aE (.ref (e2.adr _ _ hx)) q2⟩
theorem Vi {C f:Addr}{fd:FuncData}{k:Nat}{ps:List Str}{sd:Sd}{ex:Addr->Sto->Prop}{W:XK}{x:Str}{p:Pos}{e:Expr}{es:List Expr}{t:TDA}(M:Mk X.K C f)
  (F:Yc X.prog X.w X.K X.mg X.base (CXE X.prog X.w) k f fd ps (upF X.K sd))(hr:ZG (k+1) X.A)(hg:Gl X x)(hm:X.mg x=some (.ref C))(hb:YG X.K fd ps [])(hx:Rv (CXE X.prog X.w) X W)(ha:PDA X (Zc ex W) (e::es) t)
  (hdb:(x==("__debug__":Str))=false:=by decide)(he:He X e es:=by rfl)(hpl:Hp1 X pos es:=by rfl):
  PD X (Zc ex W) (.Call (.Name x p) (e::es) [] pos) (dMake C ex sd t):=
 Z6 (DJ M F hr hg hm hb .nil hx ha hdb he hpl) λσ H Qv ⟨r,dl,S,Q,rs,bA,h,ret⟩=>⟨r,dl,S,_,rs,bA,h,λvs H1 r1 ds S1 e1 aC p1 q1=>λx dx n1 n2 n3=>by
  obtain⟨aE,e2⟩:=Hr aC n1 n2 n3;rw[xH];exact⟨ex,_,_,.ref S1.length::ds,_,aE,Rps.cons (Vf aC.len) (p1.ext e2),q1,Jf (C:=C) ret (e1.trans e2) (VF aC.len)⟩⟩
end
section
variable {κ:Type} [DecidableEq κ]
end
section
variable {X:Cx}{Z:Zx}{pos:Pos}
end
section
variable {X:Cx}{Z:Zx}{pos:Pos}
end
def Z8 (xs:List D)(lo hi:Option Int):List D:=(xs.drop (HT.sIx xs.length 0 lo)).take (HT.sIx xs.length xs.length hi-HT.sIx xs.length 0 lo)
theorem Rps.drop {r:List Addr}{H:Hp}{ds:List D}{vs:List V}(h:Rps r H ds vs)(k:Nat):Rps r H (ds.drop k) (vs.drop k):=
 ⟨by simp[h.1],λi d v h1 h2=>h.2 (k+i) d v (by simpa using h1) (by simpa using h2)⟩
theorem Rps.take {r:List Addr}{H:Hp}{ds:List D}{vs:List V}(h:Rps r H ds vs)(k:Nat):Rps r H (ds.take k) (vs.take k):=by
 refine⟨by simp[h.1],λi d v h1 h2=>?_⟩;rw[uV] at h1 h2;split at h1
 .rw[if_pos (by assumption)] at h2;exact h.2 i d v h1 h2
 .cases h1
theorem Rps.cut {r:List Addr}{H:Hp}{ds:List D}{vs:List V}(h:Rps r H ds vs)(lo hi:Option Int):Rps r H (Z8 ds lo hi) (UE vs lo hi):=by
 unfold Z8 UE;rw[h.1];exact(h.drop _).take _
@[irreducible] def VX (te:TDE)(tl th:TDO):TDE:=λdl S Q=>te dl S λd S1=>tl dl S1 λl S2=>th dl S2 λu S3=>match d with
 | .ref n=>match lAt S3 n with
  | some o=>Q (.ref S3.length) (S3++[.lst (Z8 (Zk o) l u)])
  | none=>False
 | _=>False
theorem Wr {e:Expr}{te:TDE}{lo hi:Option Expr}{tl th:TDO}{p2:Pos}(he:PD X Z e te)(hl:PDO X Z lo tl)(hu:PDO X Z hi th):PD X Z (.Subscript e (.Slice lo hi none p2) pos) (VX te tl th):=
 Z6 (Kz FU he hl hu) λσ H Qv ⟨r,dl,S,Q,rs,bA,h,ret⟩=>by
  unfold VX at h;refine⟨r,dl,S,_,rs,bA,h,λv H1 r1 d S1 e1 aC p1 q1=>⟨r1,dl,S1,_,rs.ext e1,aC,q1,λl H2 r2 S2 e2 aE q2=>⟨r2,dl,S2,_,rs.ext (e1.trans e2),aE,q2,λu H3 r3 S3 e3 aF q3=>?_⟩⟩⟩;cases p1 with
  | @ref n a hn=>
   dsimp only at q3;split at q3
   .rename_i o eo;obtain⟨eo,eL⟩:=Xb eo;obtain⟨a',ha,ob⟩:=aF.at eo;rw[e3.adr _ _ (e2.adr _ _ hn)] at ha;cases ha
    obtain⟨xs,sq,pr⟩:=ob.list eL;refine⟨a,xs,rfl,sq,λp hp=>?_⟩;obtain⟨aG,x⟩:=aF.push hp (pr.cut l u);exact ret _ _ _ (.ref S3.length) _ (e1.trans (e2.trans (e3.trans x))) aG (Vf aF.len) q3
   .exact q3.elim
  | _=>exact(show False from q3).elim
theorem Wj {te:TDE}{tl th:TDO}{dl:Ev}{S S3:Sto}{Q:DK}{n:Nat}{o:Ob}{lo hi:Option Int}(h:∀K:DK,K (.ref n) S3->te dl S K)(hl:∀K:Option Int->Sto->Prop,K lo S3->tl dl S3 K)(hh:∀K:Option Int->Sto->Prop,K hi S3->th dl S3 K)(ho:S3[n]?=some o)
  (hq:Q (.ref S3.length) (S3++[.lst (Z8 (Zk o) lo hi)]))(hL:Y5 o=some o:=by rfl):VX te tl th dl S Q:=by
 unfold VX;refine h _ (hl _ (hh _ ?_));simp only[ZR ho hL];exact hq
theorem Rps.put {r:List Addr}{H:Hp}{ds:List D}{vs:List V}{d:D}{v:V}(h:Rps r H ds vs)(p:Rp r H d v)(j:Nat):Rps r H (ds.set j d) (vs.set j v):=by
 refine⟨by simp[h.1],λi x y h1 h2=>?_⟩;by_cases z:j=i
 .subst z;have hl:j<ds.length:=by
   have:=(zA.mp h1).1;simpa using this
  rw[yS hl] at h1;rw[yS (by rw[<- h.1];exact hl)] at h2;cases h1;cases h2;exact p
 .rw[zQ z] at h1 h2;exact h.2 i x y h1 h2
@[irreducible] def SS (to ti te:TDE):TDS:=λE dl S=>te dl S λv S1=>to dl S1 λd S2=>ti dl S2 λi S3=>match d,i with
 | .ref n,.int k=>match S3[n]? with
  | some (.lst xs)=>match ixN xs.length k with
   | some j=>E.nx dl (S3.set n (.lst (xs.set j v)))
   | none=>False
  | _=>False
 | _,_=>False
theorem Td (ho:PD X Z o to)(hi:PD X Z i ti)(he:PD X Z e te)(hs:swapsWithSole [.Subscript o i p2] e pos.line X.env=pure false:=by rfl)(hw:swappedStores [.Subscript o i p2] e X.env=pure none:=by rfl)(h1:(assignEach [.Subscript o i p2] X.env).map (·.2)=[assign (.Subscript o i p2) X.env]:=by rfl)(ha:∀v,assign (.Subscript o i p2) X.env v=(do let ov <- holding [v] (eval o X.env);let iv <- holding [v,ov] (eval i X.env);standAt p2;holding [v,ov,iv] (setItem ov iv v);release [v,ov,iv] []):=by intro _;rfl):PDS X Z (.Assign [.Subscript o i p2] e pos) (SS to ti te):=
 YB (Hy he (JM ho hi DU ha) hs hw h1) λF σ H ⟨r,dl,S,E,rs,bA,h,ret⟩=>by
  unfold SS at h;refine⟨r,dl,S,_,rs,bA,h,λv H1 r1 dv S1 e1 aC p1 q1=>⟨r1,dl,S1,_,rs.ext e1,aC,q1,λx H2 r2 d S2 e2 aE pd q2=>⟨r2,dl,S2,_,rs.ext (e1.trans e2),aE,q2,λy H3 r3 di S3 e3 aF pi q3=>?_⟩⟩⟩;cases pd with
  | @ref n a hn=>
   cases pi with
   | int k=>
    dsimp only at q3;split at q3
    .rename_i xs eS;split at q3
     .rename_i j ej;have hn3:=e3.adr _ _ hn;obtain⟨ys,eH,pr⟩:=aF.b.ob n a _ hn3 eS;obtain⟨aG,x4⟩:=aF.set hn3 eS (pr.put (p1.ext (e2.trans e3)) j);exact⟨a,ys,k,j,rfl,rfl,eH,by rw[<- pr.1];exact ej,ret.nx _ _ r3 _ _ (e1.trans (e2.trans (e3.trans x4))) (rs.ext (e1.trans (e2.trans (e3.trans x4)))) aG q3⟩
     .exact q3.elim
    .exact q3.elim
   | _=>exact(show False from q3).elim
  | _=>exact(show False from q3).elim
def Xy (f:D->D->Option Bool):List D->D->Option (Option Nat)
 | [],_=>some none
 | y::ys,x=>match f y x,Xy f ys x with
  | some true,some _=>some (some 0)
  | some false,some o=>some (o.map (·+1))
  | _,_=>none
theorem Ql:∀ {ys:List D} {o:Option Nat},Xy f ys x=some o->(∀y∈ys,∃c,f y x=some c)/\∀j,o=some j->(∃y,ys[j]?=some y/\f y x=some true)/\∀m y,m<j->ys[m]?=some y->f y x=some false
 | [],o,e=>by
  have h:=Option.some.inj e;subst h;exact⟨(λy hy=>by cases hy),λj z=>by cases z⟩
 | y::ys,o,e=>by
  unfold Xy at e;split at e
  .rename_i o1 e1 e2;have h:=Option.some.inj e;subst h;obtain⟨h1,_⟩:=Ql e2;refine⟨λz hz=>?_,λj hj=>?_⟩
   .rcases zY.mp hz with rfl|hz
    .exact⟨true,e1⟩
    .exact h1 z hz
   .cases hj;exact⟨⟨y,rfl,e1⟩,λm z hm=>by omega⟩
  .rename_i o1 e1 e2;have h:=Option.some.inj e;subst h;obtain⟨h1,h2⟩:=Ql e2;refine⟨λz hz=>?_,λj hj=>?_⟩
   .rcases zY.mp hz with rfl|hz
    .exact⟨false,e1⟩
    .exact h1 z hz
   .obtain⟨k,rfl,rfl⟩:=zI.mp hj;obtain⟨⟨z,hz1,hz2⟩,h3⟩:=h2 k rfl;refine⟨⟨z,by simpa using hz1,hz2⟩,λm w hm hw=>?_⟩;cases m with
    | zero=>
     have:w=y:=by simpa using hw.symm
     rw[this];exact e1
    | succ m=>exact h3 m w (by omega) (by simpa using hw)
  .cases e
theorem KS {k:Nat}{pins:LA}{σ:St}{H:Hp}{s:Shared}{r:List Addr}{A:Around}{ds:List D}{vs:List V}{us:List Value}{dx:D}{x:V}{u:Value}{j:Nat}(I:Inv X pins σ H s)(hu:A.units+k<cLine)
  (p:Rps r H ds vs)(rv:Zq vs us)(px:Rp r H dx x)(rx:Zs x u)(e:Xy (eqN k) ds dx=some (some j)):
  ∃g:Value->Bool,(∀y,y∈us.toArray->SeqAt.EqAt A s y u (g y))/\∃hj:j<us.toArray.size,g us.toArray[j]=true/\∀m (hm:m<us.toArray.size),m<j->g us.toArray[m]=false:=by
 obtain⟨h1,h2⟩:=Ql e;obtain⟨⟨yj,hyj,htj⟩,hno⟩:=h2 j rfl
 classical
 have at_:∀(m:Nat)(hm:m<us.length),∃d v,ds[m]?=some d/\Rp r H d v/\Zs v us[m]:=λm hm=>by
  have hv:m<vs.length:=by rw[rv.length];exact hm
  have gv:vs[m]?=some vs[m]:=by simp[hv]
  obtain⟨w,gw,rw'⟩:=rv.get gv;obtain⟨d,gd,pd⟩:=p.get' gv;have ew:w=us[m]:=by
   rw[zD hm] at gw;exact(Option.some.inj gw).symm
  subst ew;exact⟨d,_,gd,pd,rw'⟩
 have val:∀(m:Nat)(hm:m<us.length)(d:D)(c:Bool),ds[m]?=some d->eqN k d dx=some c->decide (∃d v,d∈ds/\Rp r H d v/\Zs v us[m]/\eqN k d dx=some true)=c:=λm hm d c hd hc=>by
  obtain⟨d',v',gd,pd,rd⟩:=at_ m hm;rw[hd] at gd;cases gd
  cases c with
  | true=>exact decide_eq_true ⟨d,v',zF hd,pd,rd,hc⟩
  | false=>
   refine decide_eq_false λ⟨d2,v2,_,pd2,rd2,hc2⟩=>?_
   have ev:=NQ rd rd2;subst ev;exact absurd (RT k d d2 dx v' false true pd pd2 hc hc2) ⋯
 refine⟨λy=>decide (∃d v,d∈ds/\Rp r H d v/\Zs v y/\eqN k d dx=some true),λy hy=>?_,?_⟩
 .have hy':y∈us:=by simpa using hy
  obtain⟨m,hm,rfl⟩:=yP.mp hy';obtain⟨d,v,gd,pd,rd⟩:=at_ m hm;obtain⟨c,hc⟩:=h1 d (zF gd);show SeqAt.EqAt A s us[m] u (decide _);rw[val m hm d c gd hc];exact PK k X pins σ H s r A d dx v x _ u c I hu pd px rd rx hc
 .have hjl:j<us.length:=by
   have:=(zA.mp hyj).1;rw[p.1,rv.length] at this;exact this
  refine⟨by simpa using hjl,?_,λm hm hmj=>?_⟩
  .have z:=val j hjl yj true hyj htj;simpa using z
  .have hm':m<us.length:=by simpa using hm
   obtain⟨d,v,gd,pd,rd⟩:=at_ m hm';have z:=val m hm' d false gd (hno m d hmj gd);simpa using z
def U8 (k:Nat)(d y:D)(S:Sto)(Q:DK):Prop:=match d with
 | .ref n=>match lAt S n with
  | some o=>match Xy (eqN k) (Zk o) y with
   | some (some j)=>Q (.int (j:Int)) S
   | _=>False
  | none=>False
 | _=>False
@[irreducible] def Ul (k:Nat)(to:TDE)(t:TDA):TDE:=λdl S Q=>to dl S λd S1=>(match d with
 | .ref n=>(lAt S1 n).isSome=true/\t dl S1 λds S2=>match ds with
  | [y]=>U8 k d y S2 Q
  | _=>False
 | _=>False)
theorem L9 (hr:ZG j X.A)(hk:k<=3):MtR X "list.index" (λx xs H Qv=>∃(r:List Addr)(S:Sto)(d y:D)(v:V)(Q:DK),Rel X.K Z r S H/\Rp r H d x/\xs=[v]/\Rp r H y v/\U8 k d y S Q/\Ret X.K Z r H Q Qv):=by
 intro pins s σ H x xs v us Qv I rx rv h;obtain⟨r,S,d,y,v1,Q,bA,pd,rfl,py,q,ret⟩:=h;obtain⟨u,rfl,ru⟩:=WA rv;unfold U8 at q;split at q
 .rename_i n;split at q
  .rename_i o eo;obtain⟨eo,eL⟩:=Xb eo;split at q
   .rename_i i ei;cases pd with
    | @ref n a hn=>
     cases rx;obtain⟨a',ha,ob⟩:=bA.at eo;rw[hn] at ha;cases ha
     obtain⟨ys,sq,pr⟩:=ob.list eL;obtain⟨aY,ri,pl,hz⟩:=I.list sq;have hun:=hr.un;obtain⟨g,g1,hj,g2,g3⟩:=KS (A:=X.A.in1) I (by show X.A.units+1+k<_;omega) pr ri py ru ei;obtain⟨ob2,m,e,c,hd,hdat⟩:=pl;obtain⟨oc,od,odat,osl⟩:=ob2;have c':oc=.type "list":=c
     have hdat':odat=.seq aY.toArray m:=hdat;subst c' hdat';refine call_meets PySem.F.slot_list_index ⟨_,e,rfl⟩ PySem.F.entry_list_index (PySem.F.args_list_index_2 _ _) (PySem.SeqAt.list_indexAt a aY.toArray m od osl u g i hj (by
      have:aY.toArray.size<=sizeLine:=by rw[zN,<- ri.length];exact hz
      have h2:=U6;omega) g2 λm hm h2=>g3 m hm h2) ⟨e,g1,?_⟩
     exact⟨.int (i:Int),H,I.tok _,⟨_,rfl⟩,ret _ H r (.int _) S Ext.refl bA (.int _) q⟩
   .exact q.elim
  .exact q.elim
 .exact q.elim
theorem Lz (hr:ZG j X.A)(hk:k<=3)(ho:PD X Z o to)(ha:PDA X Z [e] t)(hbase:attributeBase o "index" X.env (eval o X.env)=eval o X.env:=by rfl)(hfew:((backTo aJ (starEach [e] X.env)).all (λx=>!x.1)&&(backToKw aJ (keywordEach [] X.env)).all (λx=>x.1.isSome)
  &&decide ([e].length+([]:List Keyword).length+(if ([]:List Keyword).isEmpty then 0 else 1)<30))=true:=by rfl)(hline:(aK.endLine==aJ.line)=true:=by rfl)(hs:starEach [e] X.env=(false,eval e X.env)::starEach [] X.env:=by rfl)(hplain:(backTo aJ (starEach [] X.env)).any (·.1)=false:=by rfl):
  PD X Z (.Call (.Attribute o "index" aK) [e] [] aJ) (Ul k to t):=
 Z6 (NH PySem.F.plainAttrs_list PySem.F.slot_list_index PySem.F.type_list_index (L9 hr hk) ho ha hbase hfew hline hs hplain) λσ H Qv ⟨r,dl,S,Q,rs,bA,h,ret⟩=>by
  unfold Ul at h;refine⟨r,dl,S,_,rs,bA,h,λv H1 r1 d S1 e1 aC p1 q1=>?_⟩;cases p1 with
  | @ref n a hn=>
   obtain⟨aU,q1⟩:=q1;obtain⟨o1,eo⟩:=yX.mp aU;obtain⟨eo,eL⟩:=Xb eo;obtain⟨a',ha',ob⟩:=aC.at eo;rw[hn] at ha';cases ha'
   obtain⟨xs,sq,_⟩:=ob.list eL;refine⟨.inl ⟨rfl,xs,sq⟩,r1,dl,S1,_,rs.ext e1,aC,q1,λvs H2 r2 ds S2 e2 aE p2 q2=>?_⟩;split at q2
   .rename_i y;obtain⟨v2,vs',rfl,p3,p4⟩:=p2.uncons;have z:=p4.unnil;subst z;exact⟨r2,S2,.ref n,y,v2,Q,aE,.ref (e2.adr _ _ hn),rfl,p3,q2,ret.ext (e1.trans e2)⟩
   .exact q2.elim
  | _=>exact(show False from q1).elim
theorem OJ {t':Nat}{ch:List Addr}{T:Addr}{xs:List V}{vals:Array Value}(I:Inv X pins σ H s)(k:∀b o,b ∉ ch->s.heap.get? b=some o->h'.get? b=some o)(hch:∀b∈ch,Yk X pins H b)
  (hT:s.heap.objs.size<=T)(ht:h'.IsTuple T vals)(rv:Zq xs vals.toList)(hl:xs.length<=sizeLine):Inv X pins σ (upd H T (.tup xs)) { s with heap:=h',toks:=t' }:=by
 have hTn:H T=none:=I.hok.fresh hT
 have old:∀ {b:Addr} {o:Obj},s.heap.get? b=some o->b≠T:=λ{b o} e z=>absurd (zS (Heap.lt_size e) hT) (by rw[z];exact yR _)
 have trk:∀b u,H b=some u->b ∉ ch:=λb u e z=>by
  rw[(hch b z).1] at e;cases e
 have up:∀b u,H b=some u->(upd H T (.tup xs)) b=some u:=XW hTn;refine I.step (λb hb=>?_) (λb o _ _ hc e _=>k b o hc e) (λb o _ _ hc e _=>⟨o.slots,k b o hc e⟩) (λb o _ e n=>by rw[ZT (old e)];exact n)
  (λb o hc e=>⟨o,k b o hc e⟩) (λb ys e=>up _ _ e) (λb o u e=>up _ _ e) (λb ps e=>⟨#[],by rw[up _ _ e];simp⟩) (λm hm=>?_) (λb u e=>?_) I.bare
 .obtain⟨_,f1,_,f3,f4,f5⟩:=hch b hb;exact⟨f3,f1,f4,f5⟩
 .obtain⟨o,es,ep,ho,r⟩:=hm;exact⟨o,es,ep,k _ o (λz=>(hch _ z).2.1 rfl) ho,r⟩
 .by_cases hb:b=T
  .subst hb;rw[YK] at e;cases e;exact⟨hl,vals.toList,rv,by rw[Array.toArray_toList];exact ht⟩
  .rw[ZT hb] at e;refine(I.hok b u e).stay (λc v hc q=>k c v ?_ q) (λd z=>up _ _ z) λd ys z=>up _ _ z
   rcases hc with z|z
   .rw[z];exact trk b u e
   .exact trk c _ z
theorem So {t':Nat}{ch:List Addr}(I:Inv X pins σ H s)(k:∀b o,b ∉ ch->s.heap.get? b=some o->h'.get? b=some o)(hch:∀b∈ch,Yk X pins H b):Inv X pins σ H { s with heap:=h',toks:=t' }:=by
 have trk:∀b u,H b=some u->b ∉ ch:=λb u e z=>by
  rw[(hch b z).1] at e;cases e
 refine I.step (λb hb=>?_) (λb o _ _ hc e _=>k b o hc e) (λb o _ _ hc e _=>⟨o.slots,k b o hc e⟩) (λb o _ e n=>n)
  (λb o hc e=>⟨o,k b o hc e⟩) (λb ys e=>e) (λb o u e=>e) (λb ps e=>⟨#[],by rw[e];simp⟩) (λm hm=>?_) (λb u e=>?_) I.bare
 .obtain⟨_,f1,_,f3,f4,f5⟩:=hch b hb;exact⟨f3,f1,f4,f5⟩
 .obtain⟨o,es,ep,ho,r⟩:=hm;exact⟨o,es,ep,k _ o (λz=>(hch _ z).2.1 rfl) ho,r⟩
 .refine(I.hok b u e).stay (λc v hc q=>k c v ?_ q) (λd z=>z) λd ys z=>z
  rcases hc with z|z
  .rw[z];exact trk b u e
  .exact trk c _ z
def Ite (K:Fg)(a:Addr):It:=
 ⟨λi H=>∃xs x,SqL K H a xs/\xs[i]?=some x,λi H x H'=>∃T v,x=.ref T/\H T=none/\H'=upd H T (.tup [.int (i:Int),v])/\∀xs,SqL K H a xs->xs[i]?=some v,λi H=>∃xs,SqL K H a xs/\xs.length=i⟩
theorem K3 {P:Program}{w:World}{K:Fg}{aM:List Expr}{kk:Nat}{tp:Pos}(a e it:Addr)(hei:e≠it)(hae:a≠e)(hai:a≠it):
  W8 P w K (.Tuple aM kk tp) (Ite K a) [e,it] e (λi h=>(∃old,IsEnum h e it i old)/\h.IsListIter it a i) where
 mem:=by simp
 obj:=λi h st b hb=>by
  obtain⟨⟨old,he⟩,o,e1,c,d⟩:=st;have hb':b=e\/b=it:=by simpa using hb
  rcases hb' with rfl|rfl
  .exact⟨_,he,λv z=>by cases z⟩
  .exact⟨o,e1,λv z=>by rw[d] at z;cases z⟩
 keep:=λi h h' st k=>by
  obtain⟨⟨old,he⟩,hit⟩:=st;exact⟨⟨old,k e (by simp) _ he⟩,hit.at λo x=>k it (by simp) o x⟩
 item:=by
  intro X hP hw hK hc i pins s σ H E I hf st hg;subst hP hw hK;obtain⟨xs,x,hq,hx⟩:=hg;obtain⟨aY,rv,p,hz⟩:=I.list hq;obtain⟨u,hu,ru⟩:=rv.get hx;have hi:i<aY.toArray.size:=by
   have:=(zA.mp hu).1;simpa using this
  have W:=WalksT.enumerate (prog:=X.prog) (w:=X.w) (I.ok.hd hc) e it a hei hae hai aY.toArray;refine W.item i s _ _ hi ⟨st.1,st.2,p.isList⟩ λT vals h' tk hP hT ht mid k1=>?_
  obtain⟨t,y,hy,rfl⟩:=hP;have ey:y=u:=by
   have z:aY[i]?=some y:=by simpa using hy
   rw[hu] at z;exact(Option.some.inj z).symm
  subst ey;have hw:∀b∈[e,it],Yk X pins H b:=hf
  have I1:Inv X pins σ (upd H T (.tup [.int (i:Int),x])) { s with heap:=h',toks:=tk }:=OJ I k1 hw hT ht (.cons ⟨t,rfl⟩ (.cons ru .nil)) (show 2<=sizeLine from VS ⋯)
  have neT:∀b∈[e,it],b≠T:=λb hb z=>W.apart i T h' mid (z ▸ hb)
  have hf1:∀b∈[e,it],Yk X pins (upd H T (.tup [.int (i:Int),x])) b:=λb hb=>⟨by rw[ZT (neT b hb)];exact(hf b hb).1,(hf b hb).2⟩
  refine⟨.ref T,rfl,W.go aM kk tp i T _ _ _ mid λh2 st2 k2=>?_⟩;have I2:Inv X pins σ (upd H T (.tup [.int (i:Int),x])) { s with heap:=h2,toks:=tk }:=So (s:={ s with heap:=h',toks:=tk }) I1 k2 hf1;exact⟨.ref T,_,I2,rfl,⟨T,x,rfl,I.hok.fresh hT,rfl,λys hy=>by rw[I.list_inj hy hq];exact hx⟩,⟨st2.1,st2.2.1⟩,λb hb=>(hf1 b hb).1⟩
 done:=by
  intro X hP hw hK hc i pins s σ H E I hf st hg;subst hP hw hK;obtain⟨xs,hq,hx⟩:=hg;obtain⟨aY,rv,p,hz⟩:=I.list hq;have W:=WalksT.enumerate (prog:=X.prog) (w:=X.w) (I.ok.hd hc) e it a hei hae hai aY.toArray
  have hi:i=aY.toArray.size:=by rw[zN,<- rv.length];exact hx.symm
  subst hi;exact W.done s _ _ ⟨st.1,st.2,p.isList⟩ λh' tk k1=>⟨rfl,So I k1 hf⟩
 self:=λA i s Q E st h=>by
  obtain⟨⟨old,he⟩,_⟩:=st;exact wpAny_pyIter_enum he h
def Mm (K:Fg)(ta:TA):TI:=λσ H R=>ta σ H λvs H1=>∃a,vs=[.ref a]/\(∃xs,SqL K H1 a xs)/\R (Ite K a) H1
theorem Q9 {a:Expr}{ta:TA}{p pos tp:Pos}{aM:List Expr}{kk:Nat}(hg:Gl X "enumerate")(hm:X.mg "enumerate"=none)(hv:bootBuiltins "enumerate"=some (.type "enumerate"))(ha:PA X [a] ta)(hs:starEach [a] X.env=[(false,eval a X.env)]:=by rfl):
  PI X (.Tuple aM kk tp) (.Call (.Name "enumerate" p) [a] [] pos) (Mm X.K ta):=by
 intro pins s σ H R I h;refine Call_ (Wd I hg hm hv (PyProof.Rows.callWith_type1 (thn (ha pos pins s σ H _ I h) λus s1 ⟨vs,H1,I1,r1,q1⟩=>?_) hs rfl));obtain⟨l,e,⟨xs,hq⟩,q⟩:=q1;subst e;cases r1 with
 | cons r rr=>
  cases rr;cases r;obtain⟨aY,rv,pl,hz⟩:=I1.list hq;have hll:l<s1.heap.objs.size:=by
   obtain⟨o,e,_⟩:=pl.isList;exact Heap.lt_size e
  refine call_enumerate_list pl.isList λh' he hit hsz hk=>?_
  have I2:Inv X pins σ H1 { s1 with heap:=h' }:=I1.kept hk;refine wpAny_pyIter_enum he ⟨s1.heap.objs.size+1,[s1.heap.objs.size+1,s1.heap.objs.size],_,_,H1,rfl,I2,K3 l _ _ (Nat.succ_ne_self _) (zP (Nat.lt_succ_of_lt hll)) (zP hll),⟨⟨_,he⟩,hit⟩,λb hb=>?_,q⟩;have hb':b=s1.heap.objs.size+1\/b=s1.heap.objs.size:=by simpa using hb
  rcases hb' with rfl|rfl
  .exact I1.fpOk (xN _) (I1.hok.fresh (xN _))
  .exact I1.fpOk (zB _) (I1.hok.fresh (zB _))
def Itz (K:Fg)(a b:Addr):It:=
  ⟨λi H=>∃xs ys x y,SqL K H a xs/\SqL K H b ys/\xs[i]?=some x/\ys[i]?=some y,
   λi H x H'=>∃T v u,x=.ref T/\H T=none/\H'=upd H T (.tup [v,u])/\(∀xs,SqL K H a xs->xs[i]?=some v)/\∀ys,SqL K H b ys->ys[i]?=some u,
   λi H=>∃xs ys,SqL K H a xs/\SqL K H b ys/\min xs.length ys.length=i⟩
theorem Em {P:Program}{w:World}{K:Fg}{aM:List Expr}{kk:Nat}{tp:Pos}(a b z TI TO i1 i2:Addr)(D:ZipApart z TI TO i1 i2 a b):
  W8 P w K (.Tuple aM kk tp) (Itz K a b) [z,TI,TO,i1,i2] z (λi h=>IsZip h z TI TO .none/\IsPair h TI (.ref i1) (.ref i2)/\(∃p q,IsPair h TO p q)/\h.IsListIter i1 a i/\h.IsListIter i2 b i) where
 mem:=by simp
 obj:=λi h st c hc=>by
  obtain⟨hz,hTI,⟨p,q,hTO⟩,⟨o1,e1,c1,d1⟩,o2,e2,c2,d2⟩:=st;have hc':c=z\/c=TI\/c=TO\/c=i1\/c=i2:=by simpa using hc
  rcases hc' with rfl|rfl|rfl|rfl|rfl
  .exact⟨_,hz,λv y=>by cases y⟩
  .exact⟨_,hTI,λv y=>by cases y⟩
  .exact⟨_,hTO,λv y=>by cases y⟩
  .exact⟨o1,e1,λv y=>by rw[d1] at y;cases y⟩
  .exact⟨o2,e2,λv y=>by rw[d2] at y;cases y⟩
 keep:=λi h h' st k=>by
  obtain⟨hz,hTI,⟨p,q,hTO⟩,h1,h2⟩:=st;exact⟨k z (by simp) _ hz,k TI (by simp) _ hTI,⟨p,q,k TO (by simp) _ hTO⟩,h1.at λo x=>k i1 (by simp) o x,h2.at λo x=>k i2 (by simp) o x⟩
 item:=by
  intro X hP hw hK hc i pins s σ H E I hf st hg;subst hP hw hK;obtain⟨xs,ys,x,y,hq,hq2,hx,hy⟩:=hg;obtain⟨aY,rv,p,_⟩:=I.list hq;obtain⟨jts,rv2,p2,_⟩:=I.list hq2;obtain⟨u,hu,ru⟩:=rv.get hx;obtain⟨u2,hu2,ru2⟩:=rv2.get hy;have hi:i<min aY.toArray.size jts.toArray.size:=by
   have z1:=(zA.mp hu).1
   have z2:=(zA.mp hu2).1
   have sizes:aY.toArray.size=aY.length/\jts.toArray.size=jts.length:=⟨by simp,by simp⟩;omega
  have W:=WalksT.zip2 (prog:=X.prog) (w:=X.w) (I.ok.hd hc) z TI TO i1 i2 a b D aY.toArray jts.toArray;obtain⟨s1,s2,s3,s4,s5⟩:=st;refine W.item i s _ _ hi ⟨s1,s2,s3,s4,s5,p.isList,p2.isList⟩ λT vals h' tk hP hT ht mid k1=>?_
  obtain⟨v1,v2,hv1,hv2,rfl⟩:=hP;have e1:v1=u:=by
   have z:aY[i]?=some v1:=by simpa using hv1
   rw[hu] at z;exact(Option.some.inj z).symm
  have e2:v2=u2:=by
   have z:jts[i]?=some v2:=by simpa using hv2
   rw[hu2] at z;exact(Option.some.inj z).symm
  subst e1 e2;have sub:∀c∈[z,TO,i1,i2],c∈[z,TI,TO,i1,i2]:=λc hc=>by
   have hc':c=z\/c=TO\/c=i1\/c=i2:=by simpa using hc
   rcases hc' with rfl|rfl|rfl|rfl<;>simp
  have I1:Inv X pins σ (upd H T (.tup [x,y])) { s with heap:=h',toks:=tk }:=OJ I k1 (λc hc=>hf c (sub c hc)) hT ht (.cons ru (.cons ru2 .nil)) (show 2<=sizeLine from VS ⋯)
  have tiT:TI≠T:=λq=>by
   have hl:TI<s.heap.objs.size:=Heap.lt_size s2;rw[q] at hl;exact absurd (zS hl hT) (yR _)
  have neT:∀c∈[z,TI,TO,i1,i2],c≠T:=λc hc q=>by
   have hc':c=TI\/c∈[z,TO,i1,i2]:=by
    have hc2:c=z\/c=TI\/c=TO\/c=i1\/c=i2:=by simpa using hc
    rcases hc2 with rfl|rfl|rfl|rfl|rfl<;>simp
   rcases hc' with rfl|hc'
   .exact tiT q
   .exact W.apart i T h' mid (q ▸ hc')
  have hf1:∀c∈[z,TI,TO,i1,i2],Yk X pins (upd H T (.tup [x,y])) c:=λc hc=>⟨by rw[ZT (neT c hc)];exact(hf c hc).1,(hf c hc).2⟩
  refine⟨.ref T,rfl,W.go aM kk tp i T _ _ _ mid λh2 st2 k2=>?_⟩;have I2:Inv X pins σ (upd H T (.tup [x,y])) { s with heap:=h2,toks:=tk }:=So (s:={ s with heap:=h',toks:=tk }) I1 k2 λc hc=>hf1 c (sub c hc)
  obtain⟨t1,t2,t3,t4,t5,_,_⟩:=st2;exact⟨.ref T,_,I2,rfl,⟨T,x,y,rfl,I.hok.fresh hT,rfl,λzs hz=>by rw[I.list_inj hz hq];exact hx,λzs hz=>by rw[I.list_inj hz hq2];exact hy⟩,⟨t1,t2,t3,t4,t5⟩,λc hc=>(hf1 c hc).1⟩
 done:=by
  intro X hP hw hK hc i pins s σ H E I hf st hg;subst hP hw hK;obtain⟨xs,ys,hq,hq2,hx⟩:=hg;obtain⟨aY,rv,p,_⟩:=I.list hq;obtain⟨jts,rv2,p2,_⟩:=I.list hq2;have W:=WalksT.zip2 (prog:=X.prog) (w:=X.w) (I.ok.hd hc) z TI TO i1 i2 a b D aY.toArray jts.toArray
  have hi:i=min aY.toArray.size jts.toArray.size:=by rw[zN,zN,<- rv.length,<- rv2.length];exact hx.symm
  subst hi;have sub:∀c∈[z,TO,i1,i2],c∈[z,TI,TO,i1,i2]:=λc hc=>by
   have hc':c=z\/c=TO\/c=i1\/c=i2:=by simpa using hc
   rcases hc' with rfl|rfl|rfl|rfl<;>simp
  obtain⟨s1,s2,s3,s4,s5⟩:=st;exact W.done s _ _ ⟨s1,s2,s3,s4,s5,p.isList,p2.isList⟩ λh' tk k1=>⟨rfl,So I k1 λc hc=>hf c (sub c hc)⟩
 self:=λA i s Q E st h=>wpAny_pyIter_zip st.1 h
theorem Jw {n l m:Nat}(h1:l<n)(h2:m<n):ZipApart (n+4) (n+2) (n+3) n (n+1) l m:=by
 have ne:∀ {i j:Nat},i<j\/j<i->i≠j:=λ{i j} h z=>by omega
 exact⟨ne (by omega),ne (by omega),ne (by omega),ne (by omega),ne (by omega),ne (by omega),ne (by omega),ne (by omega),ne (by omega),ne (by omega),ne (by omega),ne (by omega),ne (by omega),ne (by omega),ne (by omega),ne (by omega),ne (by omega),ne (by omega)⟩
def iZip (K:Fg)(ta:TA):TI:=λσ H R=>ta σ H λvs H1=>∃a b,vs=[.ref a,.ref b]/\(∃xs,SqL K H1 a xs)/\(∃ys,SqL K H1 b ys)/\R (Itz K a b) H1
theorem PX {a b:Expr}{ta:TA}{p pos tp:Pos}{aM:List Expr}{kk:Nat}(hg:Gl X "zip")(hm:X.mg "zip"=none)(hv:bootBuiltins "zip"=some (.type "zip"))(ha:PA X [a,b] ta)
  (hs:starEach [a,b] X.env=[(false,eval a X.env),(false,eval b X.env)]:=by rfl)(hs2:starEach [b] X.env=[(false,eval b X.env)]:=by rfl):PI X (.Tuple aM kk tp) (.Call (.Name "zip" p) [a,b] [] pos) (iZip X.K ta):=by
 intro pins s σ H R I h;refine Call_ (Wd I hg hm hv (PyProof.Rows.callWith_type1 (thn (ha pos pins s σ H _ I h) λus s1 ⟨vs,H1,I1,r1,q1⟩=>?_) (by rw[hs,hs2]) (by rw[hs2];rfl)));obtain⟨l,m,e,⟨xs,hq⟩,⟨ys,hq2⟩,q⟩:=q1;subst e;cases r1 with
 | cons r rr=>
  cases rr with
  | cons r2 rr=>
   cases rr;cases r;cases r2;obtain⟨aY,rv,pl,_⟩:=I1.list hq;obtain⟨jts,rv2,pl2,_⟩:=I1.list hq2;have h1:l<s1.heap.objs.size:=by
    obtain⟨o,e,_⟩:=pl.isList;exact Heap.lt_size e
   have h2:m<s1.heap.objs.size:=by
    obtain⟨o,e,_⟩:=pl2.isList;exact Heap.lt_size e
   refine call_zip_2 pl.isList pl2.isList λh' hz hTI hTO hi1 hi2 hsz hk=>?_
   have I2:Inv X pins σ H1 { s1 with heap:=h' }:=I1.kept hk
   have D:=Jw h1 h2;refine wpAny_pyIter_zip hz ⟨s1.heap.objs.size+4,[s1.heap.objs.size+4,s1.heap.objs.size+2,s1.heap.objs.size+3,s1.heap.objs.size,s1.heap.objs.size+1],_,_,H1,rfl,I2,Em l m _ _ _ _ _ D,⟨hz,hTI,⟨_,_,hTO⟩,hi1,hi2⟩,λc hc=>?_,q⟩;have hge:s1.heap.objs.size<=c:=by
    have hc':c=s1.heap.objs.size+4\/c=s1.heap.objs.size+2\/c=s1.heap.objs.size+3\/c=s1.heap.objs.size\/c=s1.heap.objs.size+1:=by simpa using hc
    rcases hc' with rfl|rfl|rfl|rfl|rfl
    .exact wQ _ _
    .exact wQ _ _
    .exact wQ _ _
    .exact zB _
    .exact wQ _ _
   exact I1.fpOk hge (I1.hok.fresh hge)
section
variable {X:Cx}{Z:Zx}{pos:Pos}
@[irreducible] def S5 (is:List Nat)(ta:TDA)(tb:TDS):TDS:=λE dl S=>ta dl S λds S1=>match ds with
 | [.ref n]=>(lAt S1 n).isSome=true/\∃W:Nat->Nat->Ev->Sto->Prop,(∃m,W 0 m dl S1)/\∀k m dl S,W k m dl S->match lAt S n with
  | some o=>match (Zk o)[k]? with
   | some x=>tb { nx:=λdl' S'=>∃m',m'<m/\W (k+1) m' dl' S',rt:=E.rt,bk:=E.nx,ct:=λdl' S'=>∃m',m'<m/\W (k+1) m' dl' S' } (Vt is [.int (k:Int),x] dl) S
   | none=>k=(Zk o).length/\E.nx dl S
  | none=>False
 | _=>False
theorem XE {r r':List Addr}{S':Sto}{H':Hp}{n:Nat}{a:Addr}{o:Ob}(hn:r'[n]?=some a)(bA:ZV X.K r' S' H')(eo:lAt S' n=some o):∃xs,SqL X.K H' a xs/\Rps r' H' (Zk o) xs:=by
 obtain⟨eo,eL⟩:=Xb eo;obtain⟨a',ha,ob⟩:=bA.at eo;rw[hn] at ha;cases ha
 exact ob.list eL
theorem Ru {aV:Expr}{body:List Stmt}{es:List Expr}{kk:Nat}{tp p aL:Pos}{is:List Nat}{ta:TDA}{tb:TDS}(hp:PassesOwn (mX X) X.A X.env X.xe)(hc:X.calm=true)(hN:X.N.Nodup)(hn:Nms X es is)(h2:is.length=2)
  (hg:Gl X "enumerate")(hm:X.mg "enumerate"=none)(hv:bootBuiltins "enumerate"=some (.type "enumerate"))(ha:PDA X Z [aV] ta)(hb:Yy X Z body tb)
  (aO:(assignEach es X.env).length=is.length:=by rfl)(hst:(assignEach es X.env).findIdx? (·.1)=none:=by rfl)(hse:starEach [aV] X.env=[(false,eval aV X.env)]:=by rfl)
  (hs:∀y,foldedSetIterable (.Call (.Name "enumerate" p) [aV] [] aL) X.env y=pure y:=by intro _;rfl):PDS X Z (.For (.Tuple es kk tp) (.Call (.Name "enumerate" p) [aV] [] aL) body [] pos) (S5 is ta tb):=
 YB (Um hp hc (Q9 hg hm hv ha hse) (VC hc (Vh hN hn) aO hst) hb hs) λF σ H ⟨r,dl,S,E,rs,bA,h,ret⟩=>by
  unfold S5 at h;refine⟨r,dl,S,_,rs,bA,h,λvs H1 r1 ds S1 x1 aC p1 q1=>?_⟩;split at q1
  .rename_i n;obtain⟨v,vs',rfl,p2,p3⟩:=p1.uncons;have z:=p3.unnil;subst z;cases p2 with
   | @ref n a hr=>
    obtain⟨aU,W,⟨m0,w0⟩,turn⟩:=q1;obtain⟨o1,eo1⟩:=yX.mp aU;obtain⟨xs1,sq1,_⟩:=XE (r:=r1) hr aC.b eo1;refine⟨a,rfl,⟨xs1,sq1⟩,Us x1 rs aC ret W w0 λk m r2 dl2 S2 σ2 H2 x2 rs2 aE w2=>?_⟩;have q:=turn k m dl2 S2 w2;split at q
    .rename_i o eo;obtain⟨xs,sq,pr⟩:=XE (r:=r2) (x2.adr _ _ hr) aE.b eo;split at q
     .rename_i y ey;obtain⟨v,hvv,pv⟩:=pr.get ey;refine .inr ⟨⟨xs,v,sq,hvv⟩,_,λ_ _ z=>z,λv' H' y' K hK=>?_⟩;obtain⟨T,w,rfl,hT,rfl,hw⟩:=y';cases (hw xs sq).symm.trans hvv;have x3:=SV (r:=r2) (o:=.tup [.int (k:Int),v]) hT;exact⟨T,[.int (k:Int),v],rfl,SqT.of YK,by rw[h2];rfl,by rw[h2];rfl,hK _ _ _ x3 (QX (rs2.ext x3) (Rps.cons (.int _) (Rps.cons (pv.ext x3) Rps.nil))) (aE.same (XW hT)) q⟩
     .obtain⟨hk,q⟩:=q;exact .inl ⟨⟨xs,sq,by rw[<- pr.1];exact hk.symm⟩,q⟩
    .exact q.elim
  .exact q1.elim
@[irreducible] def Su (is:List Nat)(ta:TDA)(tb:TDS):TDS:=λE dl S=>ta dl S λds S1=>match ds with
 | [.ref n,.ref n']=>((lAt S1 n).isSome=true/\(lAt S1 n').isSome=true)/\∃W:Nat->Nat->Ev->Sto->Prop,(∃m,W 0 m dl S1)/\∀k m dl S,W k m dl S->match lAt S n,lAt S n' with
  | some o,some o'=>match (Zk o)[k]?,(Zk o')[k]? with
   | some x,some y=>tb { nx:=λdl' S'=>∃m',m'<m/\W (k+1) m' dl' S',rt:=E.rt,bk:=E.nx,ct:=λdl' S'=>∃m',m'<m/\W (k+1) m' dl' S' } (Vt is [x,y] dl) S
   | _,_=>k=min (Zk o).length (Zk o').length/\E.nx dl S
  | _,_=>False
 | _=>False
theorem IX {i1 i2:Expr}{body:List Stmt}{es:List Expr}{kk:Nat}{tp p aL:Pos}{is:List Nat}{ta:TDA}{tb:TDS}(hp:PassesOwn (mX X) X.A X.env X.xe)(hc:X.calm=true)(hN:X.N.Nodup)(hn:Nms X es is)(h2:is.length=2)
  (hg:Gl X "zip")(hm:X.mg "zip"=none)(hv:bootBuiltins "zip"=some (.type "zip"))(ha:PDA X Z [i1,i2] ta)(hb:Yy X Z body tb)
  (aO:(assignEach es X.env).length=is.length:=by rfl)(hst:(assignEach es X.env).findIdx? (·.1)=none:=by rfl)(hse:starEach [i1,i2] X.env=[(false,eval i1 X.env),(false,eval i2 X.env)]:=by rfl)(hse2:starEach [i2] X.env=[(false,eval i2 X.env)]:=by rfl)
  (hs:∀y,foldedSetIterable (.Call (.Name "zip" p) [i1,i2] [] aL) X.env y=pure y:=by intro _;rfl):PDS X Z (.For (.Tuple es kk tp) (.Call (.Name "zip" p) [i1,i2] [] aL) body [] pos) (Su is ta tb):=
 YB (Um hp hc (PX hg hm hv ha hse hse2) (VC hc (Vh hN hn) aO hst) hb hs) λF σ H ⟨r,dl,S,E,rs,bA,h,ret⟩=>by
  unfold Su at h;refine⟨r,dl,S,_,rs,bA,h,λvs H1 r1 ds S1 x1 aC p1 q1=>?_⟩;split at q1
  .rename_i n n';obtain⟨v,vs',rfl,p2,p3⟩:=p1.uncons;obtain⟨v',vs2,rfl,p4,p5⟩:=p3.uncons;have z:=p5.unnil;subst z;cases p2 with
   | @ref n a hr=>
    cases p4 with
    | @ref n' a' hr'=>
     obtain⟨⟨aU,hsome'⟩,W,⟨m0,w0⟩,turn⟩:=q1;obtain⟨o1,eo1⟩:=yX.mp aU;obtain⟨o2,eo2⟩:=yX.mp hsome';obtain⟨xs1,sq1,_⟩:=XE (r:=r1) hr aC.b eo1;obtain⟨ys1,sq2,_⟩:=XE (r:=r1) hr' aC.b eo2;refine⟨a,a',rfl,⟨xs1,sq1⟩,⟨ys1,sq2⟩,Us x1 rs aC ret W w0 λk m r2 dl2 S2 σ2 H2 x2 rs2 aE w2=>?_⟩;have q:=turn k m dl2 S2 w2;split at q
     .rename_i o o' eo eo';obtain⟨xs,sq,pr⟩:=XE (r:=r2) (x2.adr _ _ hr) aE.b eo;obtain⟨ys,sq',pr'⟩:=XE (r:=r2) (x2.adr _ _ hr') aE.b eo';split at q
      .rename_i y y2 ey ey2;obtain⟨v,hvv,pv⟩:=pr.get ey;obtain⟨u,hvu,pu⟩:=pr'.get ey2;refine .inr ⟨⟨xs,ys,v,u,sq,sq',hvv,hvu⟩,_,λ_ _ z=>z,λv' H' y' K hK=>?_⟩;obtain⟨T,w,w2',rfl,hT,rfl,hw,hw2⟩:=y';cases (hw xs sq).symm.trans hvv;cases (hw2 ys sq').symm.trans hvu;have x3:=SV (r:=r2) (o:=.tup [v,u]) hT;exact⟨T,[v,u],rfl,SqT.of YK,by rw[h2];rfl,by rw[h2];rfl,hK _ _ _ x3 (QX (rs2.ext x3) (Rps.cons (pv.ext x3) (Rps.cons (pu.ext x3) Rps.nil))) (aE.same (XW hT)) q⟩
      .obtain⟨hk,q⟩:=q;exact .inl ⟨⟨xs,ys,sq,sq',by rw[<- pr.1,<- pr'.1];exact hk.symm⟩,q⟩
     .exact q.elim
  .exact q1.elim
end
section
variable {X:Cx}{Z:Zx}{pos:Pos}
@[irreducible] def Sv (T:String)(te:TDE):TDE:=λdl S Q=>te dl S λd S1=>match d with
 | .ref n=>match S1[n]? with
  | some (.lst _)=>Q (.bl (isTy "list" T)) S1
  | _=>False
 | _=>False
theorem Ce (KT:W.kitOne X.K (.type "list") (.type T)=some (isTy "list" T))(hg:Gl X "isinstance")(hm:X.mg "isinstance"=none)(hg2:Gl X y)(hm2:X.mg y=none)(hv2:bootBuiltins y=some (.type T))(ha:PD X Z e te)(hv:bootBuiltins "isinstance"=some (.builtin "isinstance"):=by exact PyProof.Rows.Boot.«isinstance»)(hn2:y≠"__name__":=by decide)(hd2:(y==("__debug__":Str))=false:=by decide)(he2:starEach [e,.Name y p2] X.env=(false,eval e X.env)::starEach [.Name y p2] X.env:=by rfl)(he3:starEach [.Name y p2] X.env=(false,eval (.Name y p2) X.env)::starEach [] X.env:=by rfl)(hpl:(backTo pos (starEach [.Name y p2] X.env)).any (·.1)=false:=by rfl):
  PD X Z (.Call (.Name "isinstance" p) [e,.Name y p2] [] pos) (Sv T te):=
 Z6 (Oe KJ hg hm hv (Tz ha (Tz (EV (v:=.ty T) hg2 hm2 hv2 rfl hn2 hd2) PB he3) he2) ⋯ ⋯ he2 hpl) λσ H Qv ⟨r,dl,S,Q,rs,bA,h,ret⟩=>
  by unfold Sv at h;exact⟨r,dl,S,_,rs,bA,h,λv H1 r1 d S1 e1 aC p1 h1=>by
   cases p1 with
   | @ref n a hr=>
    dsimp only at h1;split at h1
    .rename_i xs eS;obtain⟨ys,eH,_⟩:=aC.b.ob n a _ hr eS;exact⟨_,T,_,_,rfl,.lst eH,KT,ret _ _ _ _ _ e1 aC (.bl _) h1⟩
    .exact h1.elim
   | _=>exact(show False from h1).elim⟩
end
theorem JA (K:Fg):W.kitOne K (.type "list") (.type "list")=some (isTy "list" "list"):=by kernel_rfl
structure Dm (K:Fg)(C:Addr)(m qual:Str)(st:Stmt)(ps:List Str) where
 f:Addr
 fd:FuncData
 F:Fun K m qual st f fd
 m:WT K C m f
 b:YG K fd ps []
structure Fm (P:Program)(w:World)(K:Fg)(mg:Str->Option Value)(base:Heap)(k:Nat)(C:Addr)(x:Str)(ps:List Str)(sd:Sd) where
 f:Addr
 fd:FuncData
 ok:Yc P w K mg base (CXE P w) k f fd ps (upF K sd)
 m:WT K C x f
 b:YG K fd ps []
def Dm.mk' {P:Program}{w:World}{K:Fg}{mg:Str->Option Value}{base:Heap}{k:Nat}{C:Addr}{x qual:Str}{st:Stmt}{ps:List Str}{sd:Sd}(d:Dm K C x qual st ps)(h:Yc P w K mg base (CXE P w) k d.f d.fd ps (upF K sd)):Fm P w K mg base k C x ps sd:=
 ⟨d.f,d.fd,h,d.m,d.b⟩
theorem Vc:Rv (CXE P w) X (λ_ _ _=>False):=λ_ _ _ _ _ _ _ h=>by
 obtain⟨_,_,_,_,_,_,_,_,_,_,_,_,q⟩:=h;exact q.elim
theorem NV (hr:ZG k X.A):OpR X (compareOp .NotIn) (upO X.K Z (Y4 (wIn 1 true))):=by rw[XY];exact Jb 1 (by have:=hr.un;omega)
def UW:W2:=λx y S Q=>match x,y with
 | .ref n,.ref m=>match S[n]?,S[m]? with
  | some (.lst xs),some (.lst ys)=>xs.length+ys.length<=1000/\Q (.ref S.length) (S++[.lst (xs++ys)])
  | _,_=>False
 | _,_=>False
theorem Rps.app {r:List Addr}{H:Hp}:∀ {ds es:List D} {xs ys:List V},Rps r H ds xs->Rps r H es ys->Rps r H (ds++es) (xs++ys)
 | [],es,xs,ys,p,q=>by
  have z:=p.unnil;subst z;exact q
 | d::ds,es,xs,ys,p,q=>by
  obtain⟨v,vs,rfl,p1,p2⟩:=p.uncons;exact Rps.cons p1 (p2.app q)
theorem Ro:OpR X (binaryOp .Add) (upO X.K Z (Y4 UW)):=by
 rw[XY];exact Vv HI λx y H Qv ⟨r,S,dx,dy,Q,bA,px,py,q,ret⟩=>by
  unfold UW at q;split at q
  .rename_i n m;split at q
   .rename_i xs ys e1 e2;obtain⟨hl,q⟩:=q;cases px with
    | @ref _ a hn=>
     cases py with
     | @ref _ a' hm=>
      obtain⟨z,hz,ob⟩:=bA.at e1;rw[hn] at hz;cases hz
      obtain⟨z,hz,ob'⟩:=bA.at e2;rw[hm] at hz;cases hz
      obtain⟨us,h1,p1⟩:=ob;obtain⟨vs,h2,p2⟩:=ob';refine⟨a,a',us,vs,rfl,rfl,h1,h2,?_,λp hp=>?_⟩
      .rw[<- p1.1,<- p2.1];exact VS hl
      .obtain⟨aG,x⟩:=bA.push hp (p1.app p2);exact ret _ _ _ (.ref S.length) _ x aG (Vf bA.len) q
   .exact q.elim
  .exact q.elim
theorem Sy (h1:S[n]?=some (.lst xs))(h2:S[m]?=some (.lst ys))(hl:xs.length+ys.length<=1000)(hq:Q (.ref S.length) (S++[.lst (xs++ys)])):Y4 UW (.ref n) (.ref m) S Q:=by
 rw[XY];unfold UW;simp only[h1,h2];exact⟨hl,hq⟩
def MT (X:Cx)(m:Str)(tbl:List (Addr×Sd)):Prop:=∀C sd,(C,sd)∈tbl->Cls X.K C/\∃(f:Addr)(fd:FuncData)(k:Nat)(ps:List Str),WT X.K C m f/\Yc X.prog X.w X.K X.mg X.base (CXE X.prog X.w) k f fd ps (upF X.K sd)/\ZG k X.A/\YG X.K fd ps []
theorem QI:MT X m []:=λ_ _ h=>by cases h
theorem YM (c:Cls X.K C)(G:Fm X.prog X.w X.K X.mg X.base k C m ps sd)(hr:ZG k X.A)(h:MT X m tbl):MT X m ((C,sd)::tbl):=λC' sd' hm=>by
 rcases zY.mp hm with e|e
 .cases e;exact⟨c,G.f,G.fd,k,ps,G.m,G.ok,hr,G.b⟩
 .exact h C' sd' e
theorem Gx (he:PE X o ta)(M:MT X m tbl)(hx:X2 X W)(ha:PA X (e::es) t)(hst:starEach (e::es) X.env=(false,eval e X.env)::starEach es X.env)(hpl:Hp1 X pos es)(ht:eval (.Call (.Attribute o m aK) (e::es) [] pos) X.env=(do
   let ov <- eval o X.env
   standAt aK.atName
   let (f,first) <- holding [ov] (getMethod ov m pl)
   callWith pos f first (backTo pos (starEach (e::es) X.env)) (backToKw pos (keywordEach [] X.env)))):
  PE X (.Call (.Attribute o m aK) (e::es) [] pos) (λσ H Q=>ta σ H λx H1=>∃a C dx fs sd,x=.ref a/\H1 a=some (.ins C dx fs)/\(C,sd)∈tbl/\fs.lookup m=none/\t σ H1 λvs H2=>upF X.K sd (x::vs) H2 Q (W σ)):=by
 intro pins s σ H Q I h;refine PySem.W.methodCall_KW (thn (he pins s σ H _ I h) λu s1 ⟨x,H1,I1,rx,a,C,dx,fs,sd,ex,ea,hm',l,q⟩=>?_) ht;subst ex;obtain rfl:u=Value.ref a:=rx;obtain⟨c,f,fd,k,ps,hm,F,hr,hb⟩:=M C sd hm';refine Px I1 ea c hm l ?_;exact PySem.W.callWith_K I.ok.mod.kin hm.kp (thn (ha pos pins s1 σ H1 _ I1 q) λus s2 ⟨vs,H2,I2,r,q2⟩=>⟨I2.kIn,RD (vs:=.ref a::vs) F hr hb hx I2 (.cons rfl r) q2⟩) hst hpl
@[irreducible] def RC (tbl:List (Addr×Sd))(m:Str)(ex:Ev->Addr->Sto->Prop)(to:TDE)(t:TDA):TDE:=λdl S Q=>to dl S λd S1=>∃n C fs sd,d=.ref n/\S1[n]?=some (.ins C fs)/\(C,sd)∈tbl/\fs.lookup m=none/\t dl S1 λds S2=>sd (d::ds) S2 Q (ex dl)
theorem QN (ho:PD X ⟨ex,W⟩ o to)(M:MT X m tbl)(hx:X2 X W)(ha:PDA X ⟨ex,W⟩ (e::es) t)(hst:starEach (e::es) X.env=(false,eval e X.env)::starEach es X.env:=by rfl)(hpl:Hp1 X pos es:=by rfl)(ht:eval (.Call (.Attribute o m aK) (e::es) [] pos) X.env=(do
   let ov <- eval o X.env
   standAt aK.atName
   let (f,first) <- holding [ov] (getMethod ov m pl)
   callWith pos f first (backTo pos (starEach (e::es) X.env)) (backToKw pos (keywordEach [] X.env))):=by rfl):PD X ⟨ex,W⟩ (.Call (.Attribute o m aK) (e::es) [] pos) (RC tbl m ex to t):=
 Z6 (Gx ho M hx ha hst hpl ht) λσ H Qv ⟨r,dl,S,Q,rs,bA,h,ret⟩=>by
  unfold RC at h;refine⟨r,dl,S,_,rs,bA,h,λv H1 r1 d S1 e1 aC p1 q1=>?_⟩;obtain⟨n,C,fs,sd,rfl,eS,hm,hl,q1⟩:=q1;obtain⟨a,dx,fs',rfl,hr1,eH,fr⟩:=RR (C:=C) (n:=n) (fs:=fs) aC.b p1 (by simp only[X8,eS,if_pos]);exact⟨a,C,dx,fs',sd,rfl,eH,hm,fr.lookup.2 hl,r1,dl,S1,_,rs.ext e1,aC,q1,λvs H2 r2 ds S2 e2 aE p2 q2=>SE (rs.ext (e1.trans e2)) aE (Rps.cons (p1.ext e2) p2) q2 (ret.ext (e1.trans e2))⟩
theorem QM {tbl:List (Addr×Sd)}{C:Addr}{m:Str}{ex:Ev->Addr->Sto->Prop}{sd:Sd}{to:TDE}{t:TDA}{dl:Ev}{S S1:Sto}{Q:DK}{n:Nat}{fs:List (Str×D)}(hto:∀K:DK,K (.ref n) S1->to dl S K)(h:S1[n]?=some (.ins C fs))(hm:(C,sd)∈tbl)(hf:fs.lookup m=none)(hq:t dl S1 λds S2=>sd (.ref n::ds) S2 Q (ex dl)):RC tbl m ex to t dl S Q:=by
 unfold RC;exact hto _ ⟨n,C,fs,sd,rfl,h,hm,hf,hq⟩
structure Kx (K:Fg)(C:Addr):Prop where
 cl:Cls K C
 ha:W.findIn K (.ref C) "__class__"=some (some (.builtin "object.__class__"))
 hn:W.specialIn K (.builtin "object.__class__") "__get__"=some (some (.builtin "getset_descriptor.__get__"))
 ht:W.takesIn K (.builtin "object.__class__")=some true
 hm:W.mroIn K C (.type "object")=some true
section
variable {X:Cx}{Z:Zx}
end
section
variable {n:Nat}{I:Addr}{fp wr:List Addr}{P:Nat->Value->Prop}{St:Nat->Shared->Prop}{prog:Program}{w:World}{A:Around}{s:Shared}{E:Value->Shared->Prop}{G:Array GenState->Array GenState->Prop}
end
section
variable {X:Cx}{Z:Zx}
end
def Sm (k:Nat)(caps:List Nat)(wi:TI)(gt:TG)(te:TE):TE:=λσ H Q=>wi σ H λJ H1=>∀D,H1 D=none->∃W:Nat->Nat->Hp->Prop,(∃m,W 0 m (upd H1 D (.lst [])))/\∀i m H,W i m H->
 (J.stop i H/\Q (.ref D) H)\/(J.go i H/\∀x H',J.yld i H x H'->∀o:St,o.length=k->gt x (o++Yd caps σ) H' λσ8 H8=>(∃o8:St,o8.length=k/\σ8=o8++Yd caps σ)/\
  te σ8 H8 λy H3=>∃ys,H3 D=some (.lst ys)/\ys.length<sizeLine/\∃m',m'<m/\W (i+1) m' (upd H3 D (.lst (ys++[y]))))
section
variable {X:Cx}{pins:LA}{σ:St}{H:Hp}{s:Shared}
end
theorem NR (hc:X.calm=true)(cs:XH sc X.env.scope own N)(hN:∀(j:Nat)(y:Str),N[j]?=some y->∃i,caps[j]?=some i/\X.N[i]?=some y)(aO:caps.length=N.length)(hi:PI X (.Tuple aM kk tp) aV wi)(hg:∀cl C s0 H0 fp pn,PG (Cx.comp X sc (own++N) cl C s0 H0 fp pn) (.Tuple aM kk tp) gt)(he:∀cl C s0 H0 fp pn,PE (Cx.comp X sc (own++N) cl C s0 H0 fp pn) aX te)(hs:∀y,foldedSetIterable aV X.env y=pure y)(I:Inv X pins σ H s)(h:Sm own.length caps wi gt te σ H Q)(aZ:∀D C s',UK X pins σ C Q D s'->compPost (mX X) X.A X.xe use Qr (.ref D) C (.ok .next) s'):
  wpAny (mX X) X.A (comprehension (.ListComp aX [⟨.Tuple aM kk tp,aV,[],0⟩] sc pos) sc X.env p2 (newList []) false (eval aV X.env) use) Qr X.xe s:=
 Qy hc cs hN aO hi hg he (λ_ _ _ _ _ _=>LN) hs I h (λ_ _ b=>b) aZ
theorem Hh (hc:X.calm=true)(cs:XH sc X.env.scope own N)(hN:Hn X caps N)
  (hi:PI X (.Tuple aM kk tp) aV wi)(hg:∀cl C s0 H0 fp pn,PG (Cx.comp X sc (own++N) cl C s0 H0 fp pn) (.Tuple aM kk tp) gt)(he:∀cl C s0 H0 fp pn,PE (Cx.comp X sc (own++N) cl C s0 H0 fp pn) aX te)
  (hs:∀y,foldedSetIterable aV X.env y=pure y:=by intro _;rfl):PE X (.ListComp aX [⟨.Tuple aM kk tp,aV,[],0⟩] sc pos) (Sm own.length caps wi gt te):=by
 intro pins s σ H Q I h;refine NR hc cs (Xf hN).1 (Xf hN).2 hi hg he hs I h λD C s' f=>?_
 obtain⟨⟨H',I',q,hC⟩,⟨m,ns⟩,l,o,c,p⟩:=f;exact⟨m,ns,λh' sb=>⟨.ref D,H',I'.turned (λb ob hb e=>(sb.2 b hb).trans e) hC l (.inr o) c p,rfl,q⟩⟩
section
variable {X:Cx}{Z:Zx}{aX:Expr}{pos:Pos}{sc ar:Scope}{N:List Str}{caps:List Nat}
def KI (caps:List Nat)(te:TDE)(k:Nat)(dl:Ev)(d1 d2:D)(S:Sto)(nx:Sto->Prop):Prop:=
 te (some d1::some d2::Z9 caps dl) S λy S2=>match S2[k]? with
  | some (.lst ys)=>ys.length<1000/\nx (S2.set k (.lst (ys++[y])))
  | _=>False
theorem LM {r:List Addr}{H:Hp}{dl:Ev}{σ:St}{d1 d2:D}{v1 v2:V}(h:Rs r H dl σ)(p1:Rp r H d1 v1)(p2:Rp r H d2 v2):Rs r H (some d1::some d2::Z9 caps dl) (some v1::some v2::Yd caps σ):=by
 have z:=PZ (caps:=caps) h p2;refine⟨by have:=z.1;simp only[yG] at this ⊢;omega,λi e hi=>?_⟩;cases i with
 | zero=>simp at hi;subst hi;exact⟨v1,rfl,p1⟩
 | succ i=>exact z.2 i e (by simpa using hi)
end
def TR:WC:=λds S Q=>match ds with
 | [.ref n]=>match lAt S n with
  | some o=>match YI (Zk o) with
   | some ns=>Q (.int ns.sum) S
   | none=>False
  | none=>False
 | _=>False
theorem TC (hc:X.calm=true):Yi X (.builtin "sum") (upC X.K Z TR):=by
 intro pins s σ H xs us Qv I rv h;obtain⟨r,S,ds,Q,bA,ps,q,ret⟩:=h;unfold TR at q;split at q
 .rename_i n;obtain⟨v,vs,rfl,p1,p2⟩:=ps.uncons;have z:=p2.unnil;subst z;split at q
  .rename_i o eo;split at q
   .rename_i ns en;cases p1 with
    | ref h1=>
     obtain⟨eo,eL⟩:=Xb eo;obtain⟨a,ha,ob⟩:=bA.at eo;rw[h1] at ha;cases ha
     obtain⟨ys,sq,pr⟩:=ob.list eL;obtain⟨u,rfl,ru⟩:=WA rv;cases ru;obtain⟨aY,ri,pl,hz⟩:=I.list sq;obtain⟨zs,hz1,hz2⟩:=PH en pr ri;have isl:=pl.isList;rw[hz1] at isl;refine sum_intListG (I.ok.hd hc) isl λh' tk t' hk=>?_
     have e:preSum (numAt zs.toArray) zs.toArray.size=ns.sum:=by
      rw[preSum_eq,yM (by simp)];rw[hz2]
     rw[e];exact⟨.int _,H,I.kept hk,⟨_,rfl⟩,ret _ _ _ _ _ Ext.refl bA (.int _) q⟩
   .exact q.elim
  .exact q.elim
 .exact q.elim
section
variable {X:Cx}{Z:Zx}
end
theorem SD:∀ {us:List Value} {ms:List Int},IntsAre us ms->Zq (ms.map V.int) us
 | _,_,.nil=>.nil
 | _,_,.cons n t h=>.cons ⟨t,rfl⟩ (SD h)
def SM:W2:=λx y S Q=>match x,y with
 | .ref n,.int k=>match S[n]? with
  | some (.lst xs)=>(0<=k/\k<=1000/\xs.length*k.toNat<=1000)/\Q (.ref S.length) (S++[.lst (List.replicate k.toNat xs).flatten])
  | _=>False
 | _,_=>False
theorem Rps.rep {r:List Addr}{H:Hp}{ds:List D}{xs:List V}(h:Rps r H ds xs):∀k:Nat,Rps r H (List.replicate k ds).flatten (List.replicate k xs).flatten
 | 0=>Rps.nil
 | k+1=>by
  exact h.app (Rps.rep h k)
theorem F9:OpR X (binaryOp .Mult) (upO X.K Z (Y4 SM)):=by
 rw[XY];exact Vv Hb λx y H Qv ⟨r,S,dx,dy,Q,bA,px,py,q,ret⟩=>by
  unfold SM at q;split at q
  .rename_i n k;split at q
   .rename_i xs e1;obtain⟨⟨h0,h1,hl⟩,q⟩:=q;cases py;cases px with
    | @ref _ a hn=>
     obtain⟨z,hz,ob⟩:=bA.at e1;rw[hn] at hz;cases hz
     obtain⟨us,g1,p1⟩:=ob;refine⟨a,k,us,rfl,rfl,g1,by omega,by omega,by rw[<- p1.1];exact VS hl,λp hp=>?_⟩;obtain⟨aG,x⟩:=bA.push hp (p1.rep k.toNat);exact ret _ _ _ (.ref S.length) _ x aG (Vf bA.len) q
   .exact q.elim
  .exact q.elim
theorem F6 (h1:S[n]?=some (.lst xs))(hk:0<=k/\k<=1000)(hl:xs.length*k.toNat<=1000)(hq:Q (.ref S.length) (S++[.lst (List.replicate k.toNat xs).flatten])):Y4 SM (.ref n) (.int k) S Q:=by
 rw[XY];unfold SM;simp only[h1];exact⟨⟨hk.1,hk.2,hl⟩,hq⟩
section
variable {X:Cx}{Z:Zx}{aX:Expr}{pos:Pos}{sc ar:Scope}{N:List Str}{caps:List Nat}
@[irreducible] def Ui (caps:List Nat)(ta:TDA)(te:TDE):TDE:=λdl S Q=>ta dl S λds S1=>match ds with
 | [.ref n,.ref n']=>((lAt S1 n).isSome=true/\(lAt S1 n').isSome=true)/\∃W:Nat->Nat->Sto->Prop,(∃m,W 0 m (S1++[.lst []]))/\∀k m S2,W k m S2->match lAt S2 n,lAt S2 n' with
  | some o,some o'=>match (Zk o)[k]?,(Zk o')[k]? with
   | some x,some y=>KI caps te S1.length dl x y S2 λS3=>∃m',m'<m/\W (k+1) m' S3
   | _,_=>k=min (Zk o).length (Zk o').length/\Q (.ref S1.length) S2
  | _,_=>False
 | _=>False
theorem Ma (h:up X.K Z (Ui caps ta te) σ H Qv):
  Sm 2 caps (iZip X.K (upA X.K Z ta)) (gTup X.K 2 (gAll [0,1])) (up X.K Z0 te) σ H Qv:=by
 obtain⟨r,dl,S,Q,rs,bA,h,ret⟩:=h;unfold Ui at h;refine⟨r,dl,S,_,rs,bA,h,λvs H1 r1 ds S1 x1 aC p1 q1=>?_⟩;split at q1
 .rename_i n n';obtain⟨v,vs',rfl,p2,p3⟩:=p1.uncons;obtain⟨v',vs2,rfl,p4,p5⟩:=p3.uncons;have z:=p5.unnil;subst z;cases p2 with
  | @ref n a hr=>
   cases p4 with
   | @ref n' a' hr'=>
    obtain⟨⟨aU,hsome'⟩,W,⟨m0,w0⟩,turn⟩:=q1;obtain⟨o1,eo1⟩:=yX.mp aU;obtain⟨o2,eo2⟩:=yX.mp hsome';obtain⟨xs1,sq1,_⟩:=XE (r:=r1) hr aC.b eo1;obtain⟨ys1,sq2,_⟩:=XE (r:=r1) hr' aC.b eo2;refine⟨a,a',rfl,⟨xs1,sq1⟩,⟨ys1,sq2⟩,λD0 hD=>?_⟩;obtain⟨aE,x2⟩:=aC.b.push hD Rps.nil;refine⟨λk m H'=>∃r' S',Ext (r1++[D0]) r' (upd H1 D0 (.lst [])) H'/\ZV X.K r' S' H'/\W k m S',⟨m0,_,_,Ext.refl,aE,w0⟩,?_⟩;rintro k m H2 ⟨r2,S2,x3,rb2,w2⟩;have ha2:r2[S1.length]?=some D0:=x3.adr _ _ (VF aC.len)
    have hr2:r2[n]?=some a:=(x2.trans x3).adr _ _ hr
    have hr2':r2[n']?=some a':=(x2.trans x3).adr _ _ hr'
    have q:=turn k m S2 w2;split at q
    .rename_i o o' eo eo';obtain⟨xs,sq,pr⟩:=XE (r:=r2) hr2 rb2 eo;obtain⟨ys,sq',pr'⟩:=XE (r:=r2) hr2' rb2 eo';split at q
     .rename_i y y2 ey ey2;obtain⟨v,hv,pv⟩:=pr.get ey;obtain⟨u,hvu,pu⟩:=pr'.get ey2;refine .inr ⟨⟨xs,ys,v,u,sq,sq',hv,hvu⟩,λv' H' y' o8 ho8=>?_⟩;obtain⟨T,w,w2',rfl,hT,rfl,hw,hw2⟩:=y';have ew:w=v:=by
       have z:=hw xs sq;rw[hv] at z;exact(Option.some.inj z).symm
      have ew2:w2'=u:=by
       have z:=hw2 ys sq';rw[hvu] at z;exact(Option.some.inj z).symm
      subst ew ew2;obtain⟨c1,c2,rfl⟩:∃c1 c2,o8=[c1,c2]:=by
       match o8,ho8 with
       | [c1,c2],_=>exact⟨c1,c2,rfl⟩
      have x4:Ext r2 r2 H2 (upd H2 T (.tup [w,w2'])):=SV hT
      have rb3:=rb2.same (XW (o:=.tup [w,w2']) hT)
      have rs3:=rs.ext (x1.trans (x2.trans (x3.trans x4)));refine⟨T,[w,w2'],rfl,SqT.of YK,rfl,rfl,⟨[some w,some w2'],rfl,rfl⟩,?_⟩;have rsY:=LM (caps:=caps) rs3 (pv.ext x4) (pu.ext x4);refine⟨r2,_,S2,_,rsY,⟨rb3,λ_ _ _ _ _ _ _ _ _ z=>z.elim⟩,q,λz H4 r4 dz S4 x6 aG p4 q4=>?_⟩;split at q4
      .rename_i ys eys;obtain⟨hl,m',hm,q4⟩:=q4;have ha4:r4[S1.length]?=some D0:=x6.adr _ _ ha2;obtain⟨zs,hD4,pz⟩:=aG.b.ob _ _ _ ha4 eys;obtain⟨rel5,x7⟩:=aG.b.set ha4 eys (pz.snoc p4);exact⟨zs,hD4,by rw[<- pz.1];exact Uu (yU hl),m',hm,r4,_,x3.trans (x4.trans (x6.trans x7)),rel5,q4⟩
      .exact q4.elim
     .obtain⟨hk,q⟩:=q;exact .inl ⟨⟨xs,ys,sq,sq',by rw[<- pr.1,<- pr'.1];exact hk.symm⟩,ret _ H2 r2 _ S2 (x1.trans (x2.trans x3)) ⟨rb2,bA.xw.ext (x1.trans (x2.trans x3))⟩ (.ref ha2) q⟩
    .exact q.elim
 .exact q1.elim
theorem Qi (har:X.env.scope=ar)(hc:X.calm=true)(cs:XH sc ar [x1,x2] N)(hl1:sc.names.lookup x1=some .local)(hl2:sc.names.lookup x2=some .local)(hN:Hn X caps N)(hnd:([x1,x2]++N).Nodup)(hg:Gl X "zip")(hm:X.mg "zip"=none)(hv:bootBuiltins "zip"=some (.type "zip"))(ha:PDA X Z [a,b] ta)(he:∀cl C s0 H0 fp pn,PD (Cx.comp X sc ([x1,x2]++N) cl C s0 H0 fp pn) Z0 aX te)(hse:starEach [a,b] X.env=[(false,eval a X.env),(false,eval b X.env)]:=by rfl)(hse2:starEach [b] X.env=[(false,eval b X.env)]:=by rfl)(hs:∀y,foldedSetIterable (.Call (.Name "zip" p) [a,b] [] aL) X.env y=pure y:=by intro _;rfl):
  PD X Z (.ListComp aX [⟨.Tuple [.Name x1 p1,.Name x2 p2] kk tp,.Call (.Name "zip" p) [a,b] [] aL,[],0⟩] sc pos) (Ui caps ta te):=by
 subst har;refine Z6 (Hh hc cs hN (te:=up X.K Z0 te) (PX hg hm hv ha hse hse2) (λcl C s0 H0 fp pn=>?_) he hs) λ_ _ _ h=>Ma h
 have l1:(Cx.comp X sc ([x1,x2]++N) cl C s0 H0 fp pn).env.scope.names.lookup x1=some .local:=lookup_relabel_local hl1
 have l2:(Cx.comp X sc ([x1,x2]++N) cl C s0 H0 fp pn).env.scope.names.lookup x2=some .local:=lookup_relabel_local hl2;exact VC hc (Vh hnd (.cons rfl (.inl l1) (.inr l1) (.cons rfl (.inl l2) (.inr l2) .nil))) rfl rfl
end
section
variable {X:Cx}{Z:Zx}{pos:Pos}
end
section
variable {n:Nat}{I:Addr}{fp wr:List Addr}{P:Nat->Value->Prop}{St:Nat->Shared->Prop}{prog:Program}{w:World}{A:Around}{s:Shared}{E:Value->Shared->Prop}{G:Array GenState->Array GenState->Prop}
end
section
variable {X:Cx}{Z:Zx}{pos:Pos}
end
theorem Rps.ins {r:List Addr}{H:Hp}{y:D}{w:V}(hy:Rp r H y w):∀ {ds:List D} {xs:List V} (k:Nat),Rps r H ds xs->Rps r H (ds.take k++y::ds.drop k) (xs.take k++w::xs.drop k)
 | [],xs,k,h=>by
  have z:=h.unnil;subst z;simpa using Rps.cons hy h
 | d::ds,xs,0,h=>Rps.cons hy h
 | d::ds,xs,k+1,h=>by
  obtain⟨v,vs,rfl,p1,p2⟩:=h.uncons;exact Rps.cons p1 (Rps.ins hy k p2)
theorem NF {P:Sto->D->D->Prop}{A:Around}{H:Hp}{s:Shared}{r:List Addr}{S:Sto}{ds es:List D}{xs ys:List V}{is js:List Value}(f:∀ {d e:D} {v1 v2:V} {u1 u2:Value},P S d e->Rp r H d v1->Rp r H e v2->Zs v1 u1->Zs v2 u2->SeqAt.EqAt A s u1 u2 true)(pr:Rps r H ds xs)(pr':Rps r H es ys)(ri:Zq xs is)(rj:Zq ys js)(hall:∀(k:Nat)(d e:D),ds[k]?=some d->es[k]?=some e->P S d e):
  ∀(k:Nat)(h1:k<is.toArray.size)(h2:k<js.toArray.size),SeqAt.EqAt A s is.toArray[k] js.toArray[k] true:=λk h1 h2=>by
 have l3:=ri.length
 have l4:=rj.length
 have k1:k<is.length:=by simpa using h1
 have k2:k<js.length:=by simpa using h2
 obtain⟨d,hd,pd⟩:=pr.get' (zD (l:=xs) (i:=k) (by omega));obtain⟨e,he,pe⟩:=pr'.get' (zD (l:=ys) (i:=k) (by omega));obtain⟨u1,hu1,ru1⟩:=ri.get (zD (l:=xs) (i:=k) (by omega));obtain⟨u2,hu2,ru2⟩:=rj.get (zD (l:=ys) (i:=k) (by omega));have z1:is.toArray[k]=u1:=by
  rw[zD k1] at hu1;simpa using Option.some.inj hu1
 have z2:js.toArray[k]=u2:=by
  rw[zD k2] at hu2;simpa using Option.some.inj hu2
 rw[z1,z2];exact f (hall k d e hd he) pd pe ru1 ru2
theorem Bt (hc:X.calm=true)(cs:XH sc X.env.scope own N)(hN:Hn X caps N)(hi:PI X (.Tuple aM kk tp) aV wi)(hg:∀cl C s0 H0 fp pn,PG (Cx.comp X sc (own++N) cl C s0 H0 fp pn) (.Tuple aM kk tp) gt)(he:∀cl C s0 H0 fp pn,PE (Cx.comp X sc (own++N) cl C s0 H0 fp pn) aX te)(hNd:X.N.Nodup)(hy:X.N[i]?=some y)(hl:X.env.scope.names.lookup y=some .local)(hsw:swapsWith (.ListComp aX [⟨.Tuple aM kk tp,aV,[],0⟩] sc pos) (some (.Name y py)) spos.line X.env=pure true)(hs:∀y,foldedSetIterable aV X.env y=pure y:=by intro _;rfl):PS X (.Assign [.Name y py] (.ListComp aX [⟨.Tuple aM kk tp,aV,[],0⟩] sc pos) spos) (λE σ H=>Sm own.length caps wi gt te σ H λv H1=>E.nx (σ.set i (some v)) H1):=
 RX (λI h aZ=>NR hc cs (Xf hN).1 (Xf hN).2 hi hg he hs I h aZ) hNd hy hl hsw
theorem Jr (har:X.env.scope=ar)(hc:X.calm=true)(cs:XH sc ar [x1,x2] N)(hl1:sc.names.lookup x1=some .local)(hl2:sc.names.lookup x2=some .local)(hN:Hn X caps N)(hnd:([x1,x2]++N).Nodup)(hNd:X.N.Nodup)(hy:X.N[i]?=some y)(hlo:ar.names.lookup y=some .local)(hg:Gl X "zip")(hm:X.mg "zip"=none)(hv:bootBuiltins "zip"=some (.type "zip"))(ha:PDA X Z [a,b] ta)(he:∀cl C s0 H0 fp pn,PD (Cx.comp X sc ([x1,x2]++N) cl C s0 H0 fp pn) Z0 aX te)(hsw:swapsWith (.ListComp aX [⟨.Tuple [.Name x1 p1,.Name x2 p2] kk tp,.Call (.Name "zip" p) [a,b] [] aL,[],0⟩] sc pos) (some (.Name y py)) spos.line X.env=pure true:=by rfl)(hse:starEach [a,b] X.env=[(false,eval a X.env),(false,eval b X.env)]:=by rfl)(hse2:starEach [b] X.env=[(false,eval b X.env)]:=by rfl)(hs:∀y,foldedSetIterable (.Call (.Name "zip" p) [a,b] [] aL) X.env y=pure y:=by intro _;rfl):
  PDS X Z (.Assign [.Name y py] (.ListComp aX [⟨.Tuple [.Name x1 p1,.Name x2 p2] kk tp,.Call (.Name "zip" p) [a,b] [] aL,[],0⟩] sc pos) spos) (V8 i (Ui caps ta te)):=by
 subst har;refine YB (Bt hc cs hN (te:=up X.K Z0 te) (PX hg hm hv ha hse hse2) (λcl C s0 H0 fp pn=>?_) he hNd hy hlo hsw hs) λF σ H h=>Sn (λ_ h=>Ma h) h
 have l1:(Cx.comp X sc ([x1,x2]++N) cl C s0 H0 fp pn).env.scope.names.lookup x1=some .local:=lookup_relabel_local hl1
 have l2:(Cx.comp X sc ([x1,x2]++N) cl C s0 H0 fp pn).env.scope.names.lookup x2=some .local:=lookup_relabel_local hl2;exact VC hc (Vh hnd (.cons rfl (.inl l1) (.inr l1) (.cons rfl (.inl l2) (.inr l2) .nil))) rfl rfl
section
variable {X:Cx}{Z:Zx}
end
section
variable {X:Cx}{Z:Zx}{pos:Pos}
end
end L3
namespace L2
open PySem PySem.Spec PyProof.Rows
def Itd (lo:Int)(n:Nat):It:=⟨λi _=>i<n,λi H x H'=>H'=H/\x=.int (lo-i),λi _=>n<=i⟩
theorem Kr {P:Program}{w:World}{K:Fg}{tg:Expr}(it:Addr)(lo:Int)(n:Nat):W8 P w K tg (Itd lo n) [it] it (λi h=>IsRangeIter h it (lo+(i:Nat)*(-1)) ((n:Int)-(i:Nat)) (-1)) where
 mem:=zT.mpr rfl
 obj:=λi h st b hb=>by
  cases zT.mp hb;refine⟨_,st,λv z=>?_⟩;have z':Data.fields _=Data.cell v:=z;cases z'
 keep:=λi h h' st k=>k it (zT.mpr rfl) _ st
 item:=by
  intro X hP hw hK hc i pins s σ H E I hf st hg;subst hP hw hK;obtain⟨f0,f1,f2,f3,f4,f5⟩:=hf it (zT.mpr rfl);have W:=Walks.range (prog:=X.prog) (w:=X.w) (I.ok.hd hc) it lo (-1) n;refine W.item i s _ _ hg st λv h' tk hv st' kk=>?_
  obtain⟨t,rfl⟩:=hv;have I1:Inv X pins σ H { s with heap:=h',toks:=tk }:=I.turned (λb o hb e=>kk b o (λz=>hb (zT.mp z)) e) f0 f1 f3 f4 f5
  have ev:lo+(i:Int)*(-1)=lo-(i:Int):=by omega
  exact⟨_,rfl,TN st' rfl rfl ⋯ ⟨.int (lo-i),H,I1,⟨t,by rw[ev]⟩,⟨rfl,rfl⟩,st',λb hb=>(hf b hb).1⟩⟩
 done:=by
  intro X hP hw hK hc i pins s σ H E I hf st hg;obtain⟨f0,f1,f2,f3,f4,f5⟩:=hf it (zT.mpr rfl);have hg':n<=i:=hg;exact wpAny_pyNext_range_end (I.ok.hd hc) st (by omega) λh' eb=>⟨rfl,I.turned (λb o hb e=>eb b o hb e) f0 f1 f3 f4 f5⟩
 self:=λ_ _ _ _ _ st h=>wpAny_pyIter_rangeiter st h
theorem Io {pins:LA}{σ:St}{H:Hp}{s:Shared}{R:It->Hp->Prop}{E:Value->Shared->Prop}{lo hi:Int}{t u v:Tok}{tk:Nat}(I:Inv X pins σ H s)(h1:-(2^62)<=lo)(h2:lo<2^62)(h3:-(2^62)<=hi)(h4:hi<2^62)
  (q:R (Itd lo (lo-hi).toNat) H):wpAny (mX X) X.A (pyIter (.ref s.heap.objs.size)) (PIE X pins σ tg R) E { s with heap:=s.heap.push { cls:=.type "range",data:=.fields #[.int lo t,.int hi u,.int (-1) v] },toks:=tk }:=by
 have I1:Inv X pins σ H { s with heap:=s.heap.push { cls:=.type "range",data:=.fields #[.int lo t,.int hi u,.int (-1) v] },toks:=tk }:=I.kept λb o e=>Heap.get?_push_of_some _ e
 refine wpAny_pyIter_range (IsRange.new ..) (W.small_down h1 h2 h3 h4) ?_;refine⟨(s.heap.push { cls:=.type "range",data:=.fields #[.int lo t,.int hi u,.int (-1) v] }).objs.size,[(s.heap.push { cls:=.type "range",data:=.fields #[.int lo t,.int hi u,.int (-1) v] }).objs.size],_,_,H,rfl,
  I1.kept λb o e=>Heap.get?_push_of_some _ e,Kr _ lo (lo-hi).toNat,?_,λb hb=>?_,q⟩
 .show IsRangeIter _ _ (lo+((0:Nat):Int)*(-1)) ((((lo-hi).toNat:Nat):Int)-((0:Nat):Int)) (-1);rw[show lo+((0:Nat):Int)*(-1)=lo by simp,show (((lo-hi).toNat:Nat):Int)-((0:Nat):Int)=Builtin.Range.rangeSize lo hi (-1) by rw[W.rangeSize_downNat];simp];exact(Heap.get?_push_size _ rfl)
 .cases zT.mp hb;exact I1.fpOk (zB _) (I1.hok.fresh (zB _))
def iRngD (ta:TA):TI:=λσ H R=>ta σ H λvs H1=>∃i j:Int,vs=[.int i,.int j,.int (-1)]/\(-(2^62)<=i/\i<2^62/\-(2^62)<=j/\j<2^62)/\R (Itd i (i-j).toNat) H1
theorem JD {a b c:Expr}{ta:TA}{p pos:Pos}(hg:Gl X "range")(hm:X.mg "range"=none)(ha:PA X [a,b,c] ta)(hs:starEach [a,b,c] X.env=[(false,eval a X.env),(false,eval b X.env),(false,eval c X.env)]:=by rfl)(hs2:starEach [b,c] X.env=[(false,eval b X.env),(false,eval c X.env)]:=by rfl):
  PI X tg (.Call (.Name "range" p) [a,b,c] [] pos) (iRngD ta):=by
 intro pins s σ H R I h;refine Call_ (Wd I hg hm boot_range (PyProof.Rows.callWith_type1 (thn (ha pos pins s σ H _ I h) λus s1 ⟨vs,H1,I1,r1,q1⟩=>?_) (by rw[hs,hs2]) (by rw[hs2];rfl)));obtain⟨i,j,e,⟨q1,q2,q3,q4⟩,q⟩:=q1;subst e;cases r1 with
 | cons r rr=>
  cases rr with
  | cons r' rr=>
   cases rr with
   | cons r2 rr=>
    cases rr;obtain⟨t,rfl⟩:=r;obtain⟨t',rfl⟩:=r';obtain⟨t2,rfl⟩:=r2;exact call_range_3 ⋯ (Io I1 q1 q2 q3 q4 q) (.inl (PyProof.noPylong_small (by omega)))
end L2
namespace L3
open PySem PySem.Spec PyProof.Rows L2
def Fn (i:Nat)(ta:TDA)(tb:TDS):TDS:=λE dl S=>ta dl S λds S1=>match ds with
 | [.int lo,.int hi,.int st]=>st=-1/\(-(2^62)<=lo/\lo<2^62/\-(2^62)<=hi/\hi<2^62)/\∃W:Nat->Ev->Sto->Prop,W 0 dl S1/\∀k dl S,W k dl S->
   if k<(lo-hi).toNat then tb { nx:=λdl' S'=>W (k+1) dl' S',rt:=E.rt,bk:=E.nx,ct:=λdl' S'=>W (k+1) dl' S' } (dl.set i (some (.int (lo-k)))) S else E.nx dl S
 | _=>False
theorem Jt (hp:PassesOwn (mX X) X.A X.env X.xe)(hc:X.calm=true)(hN:X.N.Nodup)(hi:X.N[i]?=some x)(hx:Loc X.env.scope x)(hg:Gl X "range")(hm:X.mg "range"=none)(ha:PDA X Z [a,b,c] ta)(hb:Yy X Z body tb)(hf:Hf X x:=by first|exact .inl rfl|exact .inr rfl|assumption)(hs:∀y,foldedSetIterable (.Call (.Name "range" p) [a,b,c] [] pos) X.env y=pure y:=by intro _;rfl)(hst:starEach [a,b,c] X.env=[(false,eval a X.env),(false,eval b X.env),(false,eval c X.env)]:=by rfl)(hst2:starEach [b,c] X.env=[(false,eval b X.env),(false,eval c X.env)]:=by rfl):
  PDS X Z (.For (.Name x pos') (.Call (.Name "range" p) [a,b,c] [] pos) body [] aL) (Fn i ta tb):=
 YB (Um hp hc (JD hg hm ha hst hst2) (Ud hN hi hx hf) hb hs) λF σ H ⟨r,dl,S,E,rs,bA,h,ret⟩=>by
  refine⟨r,dl,S,_,rs,bA,h,λvs H1 r1 ds S1 x1 aC p1 q1=>?_⟩;split at q1
  .rename_i lo hi st;obtain⟨v,vs',rfl,p2,p3⟩:=p1.uncons;obtain⟨v2,vs2,rfl,p4,p5⟩:=p3.uncons;obtain⟨v3,vs3,rfl,p6,p7⟩:=p5.uncons;have z:=p7.unnil;subst z;cases p2;cases p4;cases p6;obtain⟨e3,bds,W,w0,turn⟩:=q1;subst e3;refine⟨lo,hi,rfl,bds,Us x1 rs aC ret (λk m d s=>m=(lo-hi).toNat-k/\W k d s) ⟨rfl,w0⟩ λk m r2 dl2 S2 σ2 H2 x2 rs2 aE w=>?_⟩;have q:=turn k dl2 S2 w.2;split at q
   .rename_i hk;refine .inr ⟨hk,_,λd s z=>⟨(lo-hi).toNat-(k+1),by omega,rfl,z⟩,λv' H' y K hK=>?_⟩;obtain⟨rfl,rfl⟩:=y;exact hK _ _ _ Ext.refl (rs2.set i (.int _)) aE q
   .rename_i hk;exact .inl ⟨by show (lo-hi).toNat<=k;omega,q⟩
  .exact q1.elim
open PySem PySem.Spec PyProof.Rows L2 PySem.W
structure SI (sc around:Scope)(own caps:List Str):Prop where
 kind:sc.kind=.function
 co:sc.isCoroutine=false
 gen:sc.isGenerator=false
 nocell:∀y∈sc.names,y.2≠.cell
 loc:∀y∈own,sc.names.lookup y=some .local
 cap:∀y∈caps,sc.names.lookup y=some .free
 out:∀y∈sc.names,y.2=.free->around.names.lookup y.1=some .cell
 nd:own.Nodup
theorem N0:∀ {l:List (Str×α)},(l.map (·.1)).Nodup->(y,v)∈l->l.lookup y=some v
 | (n,k)::r,nd,h=>by
  rw[zW];rcases zY.mp h with e|e
  .cases e;simp
  .have hn:n ∉ r.map (·.1):=(xO.mp nd).1
   have ne:(y==n)=false:=by
    cases q:y==n with
    | false=>rfl
    | true=>
     have z:y=n:=by simpa using q
     subst z;exact absurd (zH.mpr ⟨_,e,rfl⟩) hn
   rw[ne];exact N0 (xO.mp nd).2 e
abbrev Sk (qual:Str)(sc:Scope)(L f:Addr)(cd:Value)(cl:List (Str×Addr)):Env:=newEnv sc L mainGlobals cl (qual++".<locals>.") (some f) cd none builtinsNs
abbrev Cx.lam (X:Cx)(A:Around)(sc:Scope)(N:List Str)(qual:Str)(f:Addr)(cd:Value)(cl:List (Str×Addr))(L:Addr)(s0:Shared)(H0:Hp):Cx:=
 { prog:=X.prog,w:=X.w,K:=X.K,mg:=X.mg,base:=X.base,A:=A.deeper (Sk qual sc L f cd cl),N:=N,s₀:=s0,H₀:=H0,env:=Sk qual sc L f cd cl,outer:=X.stack,stack:=Sk qual sc L f cd cl::X.stack,ex:=[],fn:=λ_=>false,calm:=true,pn:=[],xe:=λ_ _=>False }
theorem II (I:Inv X pins σ H s)(cs:SI sc X.env.scope own N)(hN:∀(j:Nat)(y:Str),N[j]?=some y->∃i,caps[j]?=some i/\X.N[i]?=some y)(aO:caps.length=N.length)(c1:∀x c,cl.lookup x=some c->X.env.cells.lookup x=some c)(c2:∀y∈sc.names,y.2=.free->cl.lookup y.1=X.env.cells.lookup y.1)(hh:A.handled=none)(hfr:A.frames=some X.stack)(hv:Zq vs us)(hlv:vs.length=own.length)(hns:h1.Ns s.heap.objs.size (λx=>(own.zip us).reverse.lookup x))(hk:∀b o,s.heap.get? b=some o->h1.get? b=some o):
  Inv (Cx.lam X A sc (own++N) qual f cd cl s.heap.objs.size s H) [] (vs.map some++Yd caps σ) H { s with heap:=h1,toks:=tk }:=by
 have noA:∀b:Addr,b ∉ (Cx.lam X A sc (own++N) qual f cd cl s.heap.objs.size s H).ex:=λb z=>absurd (show b∈([]:List Addr) from z) (by simp)
 refine⟨⟨I.ok.mod,cs.kind,rfl,rfl,zB _,λa b c h1 h2=>I.ok.inj a b c (c1 _ _ h1) (c1 _ _ h2),λy hy=>?_,λ_ _ z=>Bool.noConfusion z,λ_=>hh,Around.frames_deeper hfr,.inr ⟨rfl,rfl⟩,λb z=>absurd z (noA b),
  I.bs,yF I.ok.bsz I.sz,λb _ _=>noA b,λb z=>absurd z (noA b),I.stack,I.stkFree⟩,rfl,I.bare,Un.kept hk,⟨_,hns,λi y v e1 e2 e3=>?_⟩,λy c e=>?_,I.hok.fresh (zB _),λy c e=>I.freeC y c (c1 _ _ e),λp hp=>absurd (show p∈([]:LA) from hp) (by simp),I.hok.kept hk,?_⟩
 .have hfree:sc.names.lookup y=some .free:=by
   rcases (show sc.names.lookup y=some .cell\/sc.names.lookup y=some .free from hy) with z|z
   .exact absurd rfl (cs.nocell _ (VW z))
   .exact z
  have hm:=VW hfree;obtain⟨c,e⟩:=I.ok.has y (.inl (cs.out _ hm rfl));exact⟨c,(c2 _ hm rfl).trans e⟩
 .rcases wM i own.length with hi|hi
  .have e1':own[i]?=some y:=by rw[zL hi] at e1;exact e1
   have e2':vs[i]?=some v:=by
    rw[zL (by rw[zC];omega),zE] at e2;cases e:vs[i]? with
    | none=>rw[e] at e2;cases e2
    | some a=>rw[e] at e2;cases e2;rfl
   obtain⟨u,hu,rv⟩:=hv.get e2';refine⟨u,rv,.inl ⟨cs.loc y (zF e1'),?_⟩⟩;have z:(y,u)∈(own.zip us).reverse:=by
    rw[List.mem_reverse];exact zF (by rw[List.getElem?_zip_eq_some];exact⟨e1',hu⟩)
   have nd:((own.zip us).reverse.map (·.1)).Nodup:=by
    rw[List.map_reverse,List.map_fst_zip (by rw[<- hv.length];omega)];exact List.pairwise_reverse.mpr (cs.nd.imp λh=>Ne.symm h)
   exact N0 nd z
  .obtain⟨i,rfl⟩:∃k,i=own.length+k:=⟨i-own.length,by omega⟩;have e1':N[i]?=some y:=by
    rw[yL hi] at e1;simpa using e1
   have e2:(Yd caps σ)[i]?=some (some v):=by
    rw[yL (by rw[zC];omega),zC] at e2;simpa [hlv] using e2
   obtain⟨j,hj,hy⟩:=hN i y e1';have e2':σ[j]?=some (some v):=by
    simp only[Yd,zE,hj,wN,Option.some.injEq] at e2;cases q:σ[j]? with
    | none=>rw[q] at e2;cases e2
    | some o=>rw[q] at e2;simp at e2;rw[e2]
   have hfree:sc.names.lookup y=some .free:=cs.cap y (zF e1')
   have hm:=VW hfree
   have hce:X.env.scope.names.lookup y=some .cell:=cs.out _ hm rfl;obtain⟨m0,_,hl⟩:=I.loc;obtain⟨u,r,l⟩:=hl j y v hy e2' (.inr (.inl hce));refine⟨u,r,.inr ⟨.inr hfree,?_⟩⟩;rcases l with ⟨k,_⟩|⟨_,c,ec,hcell⟩
   .rw[show X.env.kindOf y=some .cell from hce] at k;cases k
   .exact⟨c,(c2 _ hm rfl).trans ec,hcell.keeps hk⟩
 .obtain⟨v,z⟩:=I.cell y c (c1 _ _ e);exact⟨v,z.keeps hk⟩
 .simp[Yd,aO,hlv]
abbrev Wy (qual:Str)(params:Arguments)(body:Expr)(sc:Scope)(cl:List (Str×Addr))(pm:Value)(cd:Value)(ctv:Value):Obj:={ cls:=.type "function",data:=.func (kla_fn "<lambda>" qual params body sc cl pm cd ctv) }
theorem G6 (I:Inv X pins σ H s)(cs:SI sc X.env.scope own N)(hN:∀(j:Nat)(y:Str),N[j]?=some y->∃i,caps[j]?=some i/\X.N[i]?=some y)(aO:caps.length=N.length)(c1:∀x c,cl.lookup x=some c->X.env.cells.lookup x=some c)(c2:∀y∈sc.names,y.2=.free->cl.lookup y.1=X.env.cells.lookup y.1)(hh:A.handled=none)(hfr:A.frames=some X.stack)(hv:Zq vs us)(hlv:vs.length=own.length)(hroom:A.depth<recursionLimit)(ho:s.heap.get? f=some (Wy qual params body sc cl pm cd ctv))(hcd:s.heap.CodeRec cd qual)(hb:bindArgs (kla_fn "<lambda>" qual params body sc cl pm cd ctv) ⟨us,[]⟩=pure (own.zip us))(he:PE (Cx.lam X A sc (own++N) qual f cd cl s.heap.objs.size s H) body te)(h:te (vs.map some++Yd caps σ) H Q):
  codeAny (mX X) A (.call (.ref f) ⟨us,[]⟩) (λr s'=>match r with|.ok (.ret u)=>CE X.stack X.prog X.w H s Q u s'|_=>False) s:=by
 refine kla_callFunE hroom ho rfl cs.co cs.gen rfl hcd ?_;rw[hb];have lim:s.heap.NoLimit:=I.ok.mod.nolimit.keeps λb o e=>(I.bs b o e).1
 refine wpAny_pure (wpAny_newFunctionEnv cs.nocell (λy hy=>cs.loc y.1 (wD hy).1) (λh₁ hns hsb=>?_) cs.kind);have hk₁:∀b o,s.heap.get? b=some o->h₁.get? b=some o:=λb o e=>hsb.extBut b o (zP (Heap.lt_size e)) (Heap.get?_push_of_some _ e)
 refine⟨lim.keeps hk₁,?_⟩;refine kla_codeExpr ?_;have J:=II (qual:=qual) (f:=f) (cd:=cd) (tk:=s.toks+(own.zip us).length) I cs hN aO c1 c2 hh hfr hv hlv hns hk₁;exact wpAny_mono (he [] _ _ H _ J h) (λu s' ⟨v,H',J',rv,q⟩=>⟨v,H',J'.os,J'.bare,J'.base,J'.hok,rv,q⟩) λ_ _ z=>z.elim
theorem Nj {h1 h2:Heap}{c:Addr}{q:Str}(h:h1.CodeRec (.ref c) q)(k:∀o,h1.get? c=some o->h2.get? c=some o):h2.CodeRec (.ref c) q:=by
 obtain⟨c2,o,vs,t,e,h1,h3,h4⟩:=h;cases e;exact⟨c,o,vs,t,rfl,k _ h1,h3,h4⟩
theorem Dl {sc:Scope}{cl:List (Str×Addr)}{qual:Str}{params:Arguments}{body:Expr}{c P:Addr}{ps:Array Value}{pos:Pos}{fl:Nat}{Q:Value->Shared->Prop}(I:Inv X pins σ H s)(hcl:closureFor sc X.env=pure cl)
  (hcode:X.env.code=.ref c)(C:CodeHd X.base c P)(hb:∃bm o,X.mg "__builtins__"=some (.ref bm)/\bm≠builtinsNs/\bm≠mainGlobals/\X.base.get? bm=some o/\o.cls=.type "module"/\o.dict=some builtinsNs/\o.data=.plain)
  (hP:H P=some (.tbl ps))(tab:Tab pos qual H ps)
  (h:∀(f:Addr)(cd ctv:Value)(H':Hp)(ps':Array Value)(s':Shared),Inv X pins σ H' s'->H' P=some (.tbl ps')->Tab pos qual H' ps'->(∀b o,H b=some o->b≠P->H' b=some o)->s'.heap.CodeRec cd qual->(∃c',cd=.ref c'/\H' c'=some (.ext λh=>h.CodeRec (.ref c') qual))->
   s'.heap.get? f=some (Wy qual params body sc cl ((X.mg "__name__").getD .none) cd ctv)->Yk X pins H' f->Q (.ref f) s'):
  wpAny (mX X) X.A (makeFunction "<lambda>" qual params (.expr body) sc X.env [] [] [] pos fl) Q X.xe s:=by
 have hg:s.heap.Ns mainGlobals X.mg:=I.ok.mod.glob.keeps I.bk
 have hPs:s.heap.get? P=some (tabObj ps):=I.hok P _ hP
 have nP:∀b,H b=none->b≠P:=λb n e=>by rw[e,hP] at n;cases n
 have gP:mainGlobals≠P:=by
  obtain⟨o,es,ep,e,_⟩:=I.ok.mod.glob;exact nP _ (I.bs _ _ e).2
 obtain⟨bm,ob,b1,b2,b3,b4,b5,b6,b7⟩:=hb;have bP:bm≠P:=nP _ (I.bs _ _ b4).2
 have BA:s.heap.BuiltinsAt X.mg P:=⟨bm,ob,b1,b2,b3,bP,(I.bs _ _ b4).1,b5,b6,b7⟩;obtain⟨tr,alt⟩:=tab;rcases alt with hn|⟨c',hf,hc'⟩
 .refine kla_makeFunction hcl I.ok.glob hg hcode (C.keeps I.bk) hPs tr hn gP BA λc' ctv h' tk hx hge hlt hrec htb=>?_
  have lt:∀b o,H b=some o->b<s.heap.objs.size:=λb o e=>I.hok.lt e
  have ltP:=lt P _ hP
  have ncP:c'≠P:=yZ (zS ltP hge)
  have up:∀b o,b≠P->s.heap.get? b=some o->(h'.push (Wy qual params body sc cl ((X.mg "__name__").getD .none) (.ref c') ctv)).get? b=some o:=λb o n e=>Heap.get?_push_of_some _ (hx b o n e)
  have upP:=Heap.get?_push_of_some (Wy qual params body sc cl ((X.mg "__name__").getD .none) (.ref c') ctv) htb
  have rec2:(h'.push (Wy qual params body sc cl ((X.mg "__name__").getD .none) (.ref c') ctv)).CodeRec (.ref c') qual:=Nj hrec λo e=>Heap.get?_push_of_some _ e
  have hH:∀b o,H b=some o->b≠P->upd (upd H c' (.ext λh=>h.CodeRec (.ref c') qual)) P (.tbl (ps++#[rawInt pos.line,rawInt pos.col,.ref c'])) b=some o:=λb o e n=>by
   rw[ZT n,ZT (zP (zS (lt b o e) hge))];exact e
  have hc2:upd (upd H c' (.ext λh=>h.CodeRec (.ref c') qual)) P (.tbl (ps++#[rawInt pos.line,rawInt pos.col,.ref c'])) c'=some (.ext λh=>h.CodeRec (.ref c') qual):=by
   rw[ZT ncP,YK]
  have un:Un X.fs [] H (upd (upd H c' (.ext λh=>h.CodeRec (.ref c') qual)) P (.tbl (ps++#[rawInt pos.line,rawInt pos.col,.ref c']))) s.heap (h'.push (Wy qual params body sc cl ((X.mg "__name__").getD .none) (.ref c') ctv)):=
   ⟨λb o e n _ _=>up b o (nP b n) e,λb o e n _ _=>⟨o.slots,up b o (nP b n) e⟩,λb o e n _=>by
    rw[ZT (nP b n),ZT (zP (zS (Heap.lt_size e) hge))];exact n,λb o e _=>by
    by_cases q:b=P
    .rw[q];exact⟨_,upP⟩
    .exact⟨_,up b o q e⟩,λb xs e=>hH b _ e (λq=>by rw[q,hP] at e;cases e),λb o u e=>hH b _ e (λq=>by rw[q,hP] at e;cases e),λb qs e=>by
    by_cases q:b=P
    .subst q;rw[hP] at e;cases e;exact⟨_,YK⟩
    .exact⟨#[],by rw[hH b _ e q];simp⟩⟩
  have hok:HOk X.prog X.w (upd (upd H c' (.ext λh=>h.CodeRec (.ref c') qual)) P (.tbl (ps++#[rawInt pos.line,rawInt pos.col,.ref c']))) (h'.push (Wy qual params body sc cl ((X.mg "__name__").getD .none) (.ref c') ctv)):=λa o e=>by
   by_cases q:a=P
   .subst q;rw[YK] at e;cases e;exact upP
   .rw[ZT q] at e;by_cases q2:a=c'
    .subst q2;rw[YK] at e;cases e;obtain⟨_,o2,_,_,e2,e3,_⟩:=id rec2;cases e2;exact⟨rec2,⟨o2,e3⟩,λh1 h2 p k=>Nj p k⟩
    .rw[ZT q2] at e;refine(I.hok a o e).stay (λb u hb r=>up b u (λz=>?_) r) (λb r=>hH b _ r λz=>by rw[z,hP] at r;cases r) λb xs r=>hH b _ r λz=>by rw[z,hP] at r;cases r
     rcases hb with hb|hb
     .exact q (hb ▸ z)
     .rw[z,hP] at hb;cases hb
  have I2:Inv X pins σ _ { s with heap:=h'.push (Wy qual params body sc cl ((X.mg "__name__").getD .none) (.ref c') ctv),toks:=tk }:=I.un un hok
  have fresh:s.heap.objs.size<=h'.objs.size:=yF hge (yU hlt)
  have ff:=I.fpOk (H':=upd (upd H c' (.ext λh=>h.CodeRec (.ref c') qual)) P (.tbl (ps++#[rawInt pos.line,rawInt pos.col,.ref c']))) fresh (by
   rw[ZT (yZ (zS ltP fresh)),ZT (yZ hlt)];exact I.hok.fresh fresh)
  refine h _ (.ref c') ctv _ _ _ I2 YK ⟨?_,.inr ⟨c',?_,hc2⟩⟩ hH rec2 ⟨c',rfl,hc2⟩ (Heap.get?_push_size _ rfl) ff
  .rw[Array.toList_append];exact TriplesOk_snoc _ _ _ _ tr
  .rw[Array.toList_append];exact codeAmong_snoc _ tr hn
 .refine kla_makeFunctionHit hcl I.ok.glob hg hcode (C.keeps I.bk) hPs tr hf BA λctv h' tk hk hsz=>?_
  have I2:Inv X pins σ H { s with heap:=h'.push (Wy qual params body sc cl ((X.mg "__name__").getD .none) (.ref c') ctv),toks:=tk }:=I.kept λb u e=>Heap.get?_push_of_some _ (hk b u e)
  exact h _ (.ref c') ctv H ps _ I2 hP ⟨tr,.inr ⟨c',hf,hc'⟩⟩ (λb o e _=>e) (I2.hok c' _ hc').1 ⟨c',rfl,hc'⟩ (Heap.get?_push_size _ rfl) (I.fpOk hsz (I.hok.fresh hsz))
theorem TM {h':Heap}{t':Nat}{b:Addr}(I:Inv X pins σ H s)(f:Yk X pins H b)(k:∀a o,a≠b->s.heap.get? a=some o->h'.get? a=some o):Inv X pins σ H { s with heap:=h',toks:=t' }:=
 I.turned k f.1 f.2.1 f.2.2.2.1 f.2.2.2.2.1 f.2.2.2.2.2
theorem Kf {b:Addr}(I:Inv X pins σ H s)(f:Yk X pins H b):b ∉ frs X.stack:=λz=>by
 rcases zY.mp (I.stkSub b z) with e|e
 .exact f.2.1 e
 .exact f.2.2.1 e
theorem HC (hc:X.calm=true){l it S f:Addr}{of:Obj}{N:Nat}{M:Nat->V->Hp->Prop}{key:Nat->Int}{W:Nat->Hp->Prop}{Q:VK}{d:V}{dv:Value}(rd:Zs d dv)(hsq:∀i H',W i H'->∃xs,SqL X.K H' l xs/\xs.length=N/\∀(j:Nat)(v:V),xs[j]?=some v->M j v H')
  (turn:∀(i:Nat)(v:V)(u:Value)(H':Hp)(s':Shared),M i v H'->Zs v u->W i H'->Inv X pins σ H' s'->s'.heap.get? f=some of->codeAny (mX X) X.A.in1 (.call (.ref f) ⟨[u],[]⟩) (λr s''=>match r with|.ok (.ret u')=>CE X.stack X.prog X.w H' s' (λy H''=>y=.int (key i)/\W (i+1) H''/\∀(k:Nat)(v:V),M k v H'->M k v H'') u' s''|_=>False) s')
  (hQ:∀H',W N H'->∀(i:Nat)(v:V),M i v H'->i<N->(∀i':Nat,i'<N->key i'<=key i)->(∀i':Nat,i'<i->key i'<key i)->Q v H')(hlI:l≠it)(hIS:it≠S)(hIf:it≠f)(hSf:S≠f):
  ∀(n j:Nat)(H:Hp)(s:Shared)(ob:Array Value)(c:Nat),N-j=n->j<=N->Inv X pins σ H s->W j H->Yk X pins H it->Yk X pins H S->Yk X pins H f->s.heap.IsListIter it l j->s.heap.get? S=some (seqObj "list" ob c)->s.heap.get? f=some of->(ob=#[]/\j=0/\(N=j->Q d H)\/∃(vb:Value)(tb:Tok)(i:Nat)(v:V),ob=#[vb,.int (key i) tb]/\M i v H/\Zs v vb/\i<j/\(∀i':Nat,i'<j->key i'<=key i)/\∀i':Nat,i'<i->key i'<key i)->
   codeAny (mX X) X.A (.builtin "max.loop" ⟨[.ref it,.ref f,.ref S],[(Str.ofString "default",dv)]⟩) (λr s'=>match r with|.ok (.ret u)=>EP X pins σ Q u s'|.ok _=>False|.error e=>X.xe e s') s:=by
 have hname:(toString "max"++toString ".loop":String)="max.loop":=by decide
 intro n
 induction n with
 | zero=>
  intro j H s ob c hn hj I w fI fS ff hit hS hf hvb;obtain⟨xs,hxs,lxs,mxs⟩:=hsq j H w;obtain⟨aY,rv,pl,hz⟩:=I.list hxs;have aO:=rv.length
  have ej:j=aY.length:=by omega
  have Wk:=Walks.list (prog:=X.prog) (w:=X.w) (A:=X.A.in1) (I.ok.hd hc) it l hlI aY.toArray;refine codeAny_builtin PySem.F.entry_max_loop ?_;rw[Around.under_plainId PySem.F.plain_max_loop _];show wpAny _ X.A.in1 (seqItems? (.ref S) >>= _) _ _ _;refine wpAny_bind (wpAny_seqItems hS rfl ?_);show wpAny _ X.A.in1 (tryCatch (pyNext (.ref it)) _ >>= _) _ _ _;refine wpAny_bind (wpAny_tryCatch (Wk.done _ _ _ ⟨by rw[zN,<- ej];exact hit,pl.isList⟩ λh' tk' hk'=>?_));have I1:Inv X pins σ H { s with heap:=h',toks:=tk' }:=TM (t':=tk') I fI λa o na e=>hk' a o (by simpa using na) e
  rcases hvb with ⟨rfl,_,h0⟩|⟨vb,tb,i,v,rfl,hv,r,li,mx,ft⟩
  .exact wpAny_bind (wpAny_rule (wpAny_pure ⟨d,H,I1,rd,h0 (by omega)⟩))
  have hS':=hk' S _ (by simpa using hIS.symm) hS
  show wpAny _ X.A.in1 (updateSeq S (λ_=>#[]) >>= _) _ _ _;refine wpAny_bind ?_;refine wpAny_updateSeq hS' rfl (wpAny_bind (wpAny_letGo (wpAny_pure ?_)));have s1:=Heap.SameBut.update h' S (Obj.mapSeq λ_=>(#[]:Array Value));exact⟨v,H,TM (t':=tk') I1 fS λa o na e=>(s1.2 a na).trans e,r,hQ H (by rw[show N=j by omega];exact w) i v hv (by omega) (λi' l=>mx i' (by omega)) ft⟩
 | succ n ih=>
  intro j H s ob c hn hj I w fI fS ff hit hS hf hvb;obtain⟨xs,hxs,lxs,mxs⟩:=hsq j H w;obtain⟨aY,rv,pl,hz⟩:=I.list hxs;have aO:=rv.length
  have Wk:=Walks.list (prog:=X.prog) (w:=X.w) (A:=X.A.in1) (I.ok.hd hc) it l hlI aY.toArray;refine codeAny_builtin PySem.F.entry_max_loop ?_;rw[Around.under_plainId PySem.F.plain_max_loop _];show wpAny _ X.A.in1 (seqItems? (.ref S) >>= _) _ _ _;refine wpAny_bind (wpAny_seqItems hS rfl ?_);show wpAny _ X.A.in1 (tryCatch (pyNext (.ref it)) _ >>= _) _ _ _;refine wpAny_bind (wpAny_tryCatch (Wk.item j _ _ _ (by rw[zN];omega) ⟨hit,pl.isList⟩ λu h' tk' hP hst' hk'=>?_));have hu:aY[j]?=some u:=by simpa using hP
  have hk1:∀a o,a≠it->s.heap.get? a=some o->h'.get? a=some o:=λa o na e=>hk' a o (by simpa using na) e
  have I1:Inv X pins σ H { s with heap:=h',toks:=tk' }:=TM (t':=tk') I fI hk1;obtain⟨v,hv⟩:∃v,xs[j]?=some v:=⟨_,zD (by omega)⟩;obtain⟨u2,hu2,rvu⟩:=rv.get hv;rw[hu] at hu2;cases hu2;have hS1:=hk1 S _ hIS.symm hS
  have hf1:=hk1 f _ hIf.symm hf;obtain⟨oI,hoI,hoc,hod⟩:=id hst'.1;show wpAny _ X.A.in1 (tryCatch (holding [u] (call (.ref f) [u])) _ >>= _) _ _ _;refine wpAny_bind (wpAny_tryCatch (wpAny_holding (wpAny_call (codeAny_mono (turn j v u H _ (mxs j v hv) rvu w I1 hf1) λr s2 h2=>?_))));cases r with
  | error e=>exact h2.elim
  | ok fl=>
   cases fl with
   | next=>exact h2.elim
   | brk=>exact h2.elim
   | cont=>exact h2.elim
   | ret ku=>
    obtain⟨y,H2,os2,bare2,un2,hok2,ry,rfl,w2,up2⟩:=(show CE X.stack X.prog X.w H _ _ ku s2 from h2);obtain⟨t2,rfl⟩:=ry;have I2:Inv X pins σ H2 s2:=I1.call' (ch:=[]) os2 un2 hok2 bare2 (λb hb=>by simp at hb)
    have kp:∀b o,Yk X pins H b->h'.get? b=some o->s2.heap.get? b=some o/\Yk X pins H2 b:=λb o fb e=>⟨un2.keep b o e fb.1 (Kf I1 fb) (by simp),un2.free b o e fb.1 (by simp),fb.2⟩
    obtain⟨hI2,fI2⟩:=kp it oI fI hoI;obtain⟨hS2,fS2⟩:=kp S _ fS hS1;obtain⟨hf2,ff2⟩:=kp f _ ff hf1;have s1:=Heap.SameBut.update s2.heap S (Obj.mapSeq λ_=>#[u,.int (key j) t2]);obtain⟨c2,hc2⟩:∃c2,(s2.heap.update S (Obj.mapSeq λ_=>#[u,.int (key j) t2])).get? S=some (seqObj "list" #[u,.int (key j) t2] c2):=⟨_,get?_update_seq hS2 λ_=>#[u,.int (key j) t2]⟩;have I3:Inv X pins σ H2 { s2 with heap:=s2.heap.update S (Obj.mapSeq λ_=>#[u,.int (key j) t2]) }:=TM (t':=s2.toks) I2 fS2 λa o na e=>(s1.2 a na).trans e
    have go:=λ(g1:∀i':Nat,i'<j+1->key i'<=key j)(g2:∀i':Nat,i'<j->key i'<key j)=>ih (j+1) H2 _ _ c2 (by clear hvb;omega) (by clear hvb;omega) I3 w2 fI2 fS2 ff2 ⟨oI,(s1.2 it hIS).trans hI2,hoc,hod⟩ hc2 ((s1.2 f hSf.symm).trans hf2) (.inr ⟨u,t2,j,v,rfl,up2 j v (mxs j v hv),rvu,xW j,g1,g2⟩)
    rcases hvb with ⟨rfl,j0,_⟩|⟨vb,tb,i,vv,rfl,hvv,r,li,mx,ft⟩
    .show wpAny _ X.A.in1 (updateSeq S (λ_=>#[u,.int (key j) t2]) >>= _) _ _ _;refine wpAny_bind (wpAny_updateSeq hS2 rfl ?_);rw[hname];exact wpAny_pure ⟨plainId_quiet PySem.F.plain_max_loop _,go (λi' l=>by rw[show i'=j by omega];exact zV _) λi' l=>by omega⟩
    show wpAny _ X.A.in1 (tryCatch (holding [u,.int (key j) t2] (richCompare .Gt (.int (key j) t2) (.int (key i) tb) >>= _)) _ >>= _) _ _ _;refine wpAny_bind (wpAny_tryCatch (wpAny_holding (wpAny_bind (CmpOf.ints_gt (prog:=X.prog) (w:=X.w) (A:=X.A.in1) (P:=λq v=>∃t,v=.int (([key j,key i]:List Int).getD q 0) t) (λq=>([key j,key i]:List Int).getD q 0) (λi v h=>h) 0 1 _ _ _ _ _ ⟨t2,rfl⟩ ⟨tb,rfl⟩ ?_))));refine wpAny_bind (wpAny_holding (wpAny_truthy_bool ?_));refine wpAny_bind (wpAny_letGo (wpAny_pure ?_));by_cases hb':([key j,key i]:List Int).getD 0 0 > ([key j,key i]:List Int).getD 1 0
    .simp only[hb',decide_true,if_true];refine wpAny_bind ?_;refine wpAny_updateSeq hS2 rfl (wpAny_bind (wpAny_letGo ?_));rw[hname];have hb2:key i<key j:=hb';exact wpAny_pure ⟨plainId_quiet PySem.F.plain_max_loop _,go (λi' l=>(wM i' j).elim (λz=>yK (xX (mx i' z) hb2)) λz=>by rw[show i'=j by omega];exact zV _) λi' z=>xX (mx i' z) hb2⟩
    .simp only[hb',decide_false,xY,if_false];refine wpAny_bind (wpAny_letGo ?_);rw[hname];exact wpAny_pure ⟨plainId_quiet PySem.F.plain_max_loop _,ih (j+1) H2 _ _ c (by omega) (by omega) I2 w2 fI2 fS2 ff2 ⟨oI,hI2,hoc,hod⟩ hS2 hf2 (.inr ⟨vb,tb,i,vv,rfl,up2 i vv hvv,r,by omega,λi' l=>(wM i' j).elim (mx i') λz=>by rw[show i'=j by omega];exact vP.mp hb',ft⟩)⟩
theorem Gm (a v d:Value):argsOk "max" ⟨[a],[(Str.ofString "key",v),(Str.ofString "default",d)]⟩:=by unfold argsOk;kernel_rfl
theorem FD (hc:X.calm=true){l f:Addr}{of:Obj}{N:Nat}{M:Nat->V->Hp->Prop}{key:Nat->Int}{W:Nat->Hp->Prop}{Q:VK}{d:V}{dv:Value}(I:Inv X pins σ H s)(w0:W 0 H)(hsq:∀i H',W i H'->∃xs,SqL X.K H' l xs/\xs.length=N/\∀(j:Nat)(v:V),xs[j]?=some v->M j v H')
  (turn:∀(i:Nat)(v:V)(u:Value)(H':Hp)(s':Shared),M i v H'->Zs v u->W i H'->Inv X pins σ H' s'->s'.heap.get? f=some of->codeAny (mX X) X.A.in1 (.call (.ref f) ⟨[u],[]⟩) (λr s''=>match r with|.ok (.ret u')=>CE X.stack X.prog X.w H' s' (λy H''=>y=.int (key i)/\W (i+1) H''/\∀(k:Nat)(v:V),M k v H'->M k v H'') u' s''|_=>False) s')
  (hQ:∀H',W N H'->∀(i:Nat)(v:V),M i v H'->i<N->(∀i':Nat,i'<N->key i'<=key i)->(∀i':Nat,i'<i->key i'<key i)->Q v H')(ff:Yk X pins H f)(hf:s.heap.get? f=some of)(rd:Zs d dv)(h0:N=0->Q d H):
  wpAny (mX X) X.A (call (.builtin "max") [.ref l] [(Str.ofString "key",.ref f),(Str.ofString "default",dv)]) (EP X pins σ Q) X.xe s:=by
 have hname:(toString "max"++toString ".loop":String)="max.loop":=by decide
 obtain⟨xs,hxs,lxs,mxs⟩:=hsq 0 H w0;obtain⟨aY,rv,pl,hz⟩:=I.list hxs;have aO:=rv.length
 have hls:=pl.isList;obtain⟨ol,hol,_⟩:=id hls;have hll:l<s.heap.objs.size:=Heap.lt_size hol
 have hlf:f<s.heap.objs.size:=Heap.lt_size hf;refine kmk_tree PySem.F.kind_max PySem.F.plain_max PySem.F.entry_max (Gm _ _ _) ?_;show wpAny _ X.A.in1 (Builtin.Builtins.bindParams "max" ["key","default"] 0 ⟨[],[(Str.ofString "key",.ref f),(Str.ofString "default",dv)]⟩ >>= _) _ _ s;refine wpAny_bind (wpAny_of_eq (show Builtin.Builtins.bindParams "max" ["key","default"] 0 ⟨[],[(Str.ofString "key",.ref f),(Str.ofString "default",dv)]⟩=pure [some (.ref f),some dv] from rfl) ?_);refine wpAny_bind (wpAny_pure ?_);refine wpAny_bind (wpAny_pyIter_list hls ?_);refine wpAny_bind (wpAny_newList ?_ (zJ _));rw[hname];have hS:(s.heap.push { cls:=.type "list_iterator",data:=.fields #[.ref l,.int 0 0] }).objs.size=s.heap.objs.size+1:=size_push' ..;refine wpAny_pure ⟨plainId_quiet PySem.F.plain_max_loop _,?_⟩;generalize ePI:s.heap.push { cls:=.type "list_iterator",data:=.fields #[.ref l,.int 0 0] }=hI at hS ⊢;have hk0:∀b o,s.heap.get? b=some o->(hI.push (seqObj "list" #[] 0)).get? b=some o:=λb o e=>Heap.get?_push_of_some _ (by rw[<- ePI];exact Heap.get?_push_of_some _ e)
 have gI:(hI.push (seqObj "list" #[] 0)).get? s.heap.objs.size=some { cls:=.type "list_iterator",data:=.fields #[.ref l,.int 0 0] }:=Heap.get?_push_of_some _ (by rw[<- ePI];exact Heap.get?_push_size _ rfl)
 have gS:(hI.push (seqObj "list" #[] 0)).get? hI.objs.size=some (seqObj "list" #[] 0):=Heap.get?_push_size _ rfl
 have I0:Inv X pins σ H { s with heap:=hI.push (seqObj "list" #[] 0) }:=I.kept (t':=s.toks) hk0
 have fI:Yk X pins H s.heap.objs.size:=I.fpOk (zB _) (I.hok.fresh (zB _))
 have leS:s.heap.objs.size<=hI.objs.size:=by rw[hS];exact xN _
 have fS:Yk X pins H hI.objs.size:=I.fpOk leS (I.hok.fresh leS)
 have hlI:l≠s.heap.objs.size:=zP hll
 have hIS:s.heap.objs.size≠hI.objs.size:=by rw[hS];exact zP (xW _)
 have hIf:s.heap.objs.size≠f:=yZ hlf
 have hSf:hI.objs.size≠f:=yZ (zS hlf leS)
 have hf0:=hk0 f _ hf;obtain⟨its0,rv0,pl0,_⟩:=I0.list hxs;have hlen0:=rv0.length;generalize hI.objs.size=S at gS fS hIS hSf ⊢;generalize s.heap.objs.size=it at gI fI hlI hIS hIf ⊢;exact HC (pins:=pins) (σ:=σ) hc rd hsq turn hQ hlI hIS hIf hSf _ 0 H _ _ _ rfl (zJ _) I0 w0 fI fS ff ⟨_,gI,rfl,rfl⟩ gS hf0 (.inl ⟨rfl,rfl,h0⟩)
section
variable {X:Cx}{Z:Zx}{pins:LA}{σ:St}{H H2:Hp}{s:Shared}
theorem IZ {r:List Addr}{S:Sto}{n:Nat}{P:Addr}{lp:Pos}{q:Str}{ps ps':Array Value}(kn:∀o,X.K.lookup P≠some o)(bA:Rel X.K Z r S H)(hS:S[n]?=some (.cod P lp q))(hP:H P=some (.tbl ps))(hP2:H2 P=some (.tbl ps'))(tab:Tab lp q H2 ps')(hH:∀b o,H b=some o->b≠P->H2 b=some o):
  Rel X.K Z r S H2/\Ext r r H H2:=by
 have x:Ext r r H H2:=⟨λ_ _ e=>e,λa xs e=>hH a _ e λz=>(by rw[z,hP] at e;cases e),λa φ e=>hH a _ e λz=>(by rw[z,hP] at e;cases e)⟩;obtain⟨a0,ea0,e0,_⟩:=bA.at hS;subst e0;refine⟨⟨⟨bA.b.len,λm a o h1 h2=>?_,bA.b.nd⟩,bA.xw.ext x⟩,x⟩;have q0:=bA.b.ob m a o h1 h2;by_cases z:a=a0
 .subst z;by_cases ho:WE o=true
  .have e:m=n:=bA.b.nd m n a o _ h1 ea0 h2 hS ho rfl;subst e;rw[hS] at h2;cases h2;exact⟨rfl,ps',hP2,tab⟩
  .cases o with
   | frz ds=>
    obtain⟨xs,y,_⟩:=q0;rcases y with ⟨o,y⟩|⟨o,_,_,y,_⟩
    .rw[hP] at y;cases y
    .exact absurd y (kn o)
   | tpl ws=>
    obtain⟨o,_,_,y,_⟩:=q0;exact absurd y (kn o)
   | lst _=>exact absurd rfl ho
   | ins _ _=>exact absurd rfl ho
   | dct _=>exact absurd rfl ho
   | dck _=>exact absurd rfl ho
   | cod _ _ _=>exact absurd rfl ho
 .exact q0.keep x λu e=>hH a u e z
def UJ (caps:List Nat)(P:Addr)(lp:Pos)(q:Str)(te:TDE)(dl:Ev)(Q:DK)(d:D)(S1:Sto):Prop:=match d with
 | .ref n=>(∃t:Nat,S1[t]?=some (Ob.cod P lp q))/\match lAt S1 n with
  | some o=>∃key:Nat->Int,(Zk o=[]->Q .non S1)/\(∀(i:Nat)(v:D)(S2:Sto),(Zk o)[i]?=some v->Pre S1 S2->te (some v::Z9 caps dl) S2 λy S3=>y=.int (key i)/\Pre S1 S3)/\∀(i:Nat)(v:D)(S2:Sto),(Zk o)[i]?=some v->(∀i':Nat,i'<(Zk o).length->key i'<=key i)->(∀i':Nat,i'<i->key i'<key i)->Pre S1 S2->Q v S2
  | none=>False
 | _=>False
@[irreducible] def TX (caps:List Nat)(P:Addr)(lp:Pos)(q:Str)(tl te:TDE):TDE:=λdl S Q=>tl dl S (UJ caps P lp q te dl Q)
def BM (mg:Str->Option Value)(base:Heap):Prop:=∃bm o,mg "__builtins__"=some (.ref bm)/\bm≠builtinsNs/\bm≠mainGlobals/\base.get? bm=some o/\o.cls=.type "module"/\o.dict=some builtinsNs/\o.data=.plain
theorem Dd {a body:Expr}{tl te:TDE}{x:Str}{N:List Str}{caps:List Nat}{params:Arguments}{sc ar:Scope}{c P:Addr}{q:Str}{lp p pos kp dp np:Pos}{j:Nat}(har:X.env.scope=ar)(hc:X.calm=true)(cs:SI sc ar [x] N)(hN:Hn X caps N)
  (hg:Gl X "max")(hm:X.mg "max"=none)(hv:bootBuiltins "max"=some (.builtin "max"))(hr:X.A.in1.depth<recursionLimit)(hcode:X.env.code=.ref c)(C:CodeHd X.base c P)(hb:BM X.mg X.base)(kn:∀o,X.K.lookup P≠some o)(hq:X.env.qual++"<lambda>"=q)
  (ha:PD X Z a tl)(he:∀f cd cl L s0 H0,PD (Cx.lam X X.A.in1 sc ([x]++N) q f cd cl L s0 H0) Z0 body te)
  (hbind:∀cl pm cd ctv u,bindArgs (kla_fn "<lambda>" q params body sc cl pm cd ctv) ⟨[u],[]⟩=pure ([x].zip [u]):=by intros;rfl)(hdef:defaultsOf params X.env=([],[]):=by rfl)(hs:starEach [a] X.env=[(false,eval a X.env)]:=by rfl):
  PD X Z (.Call (.Name "max" p) [a] [⟨some "key",.Lambda params body sc lp,kp⟩,⟨some "default",.Constant .none j np,dp⟩] pos) (TX caps P lp q tl te):=by
 subst har;subst hq;intro pins s σ H Qv I h;obtain⟨r,dl,S,Q,rs,bA,h,ret⟩:=h;unfold TX at h;refine wpAny_Call_Name_kw (Wd I hg hm hv ?_ ⋯ ⋯);have hda:PDA X Z [a] (U9 tl U0):=Za ha Zf hs;refine PyProof.Rows.callWith_kw (thn (hda pos pins s σ H (λvs H1=>∃(r1:List Addr)(S1:Sto)(d:D)(v:V),vs=[v]/\Ext r r1 H H1/\Rel X.K Z r1 S1 H1/\Rp r1 H1 d v/\UJ caps P lp (X.env.qual++"<lambda>") te dl Q d S1) I ?_) λus s1 ⟨vs,H1,I1,rvs,r1,S1,d,v,evs,x1,aC,pd,hk⟩=>?_) (by show backTo pos (starEach [a] X.env)=_;rw[hs];rfl) (by rw[hs];rfl)
 .refine⟨r,dl,S,λds S1=>match ds with|[d]=>UJ caps P lp (X.env.qual++"<lambda>") te dl Q d S1|_=>False,rs,bA,h,λvs H1 r1 ds S1 e1 aC p1 q1=>?_⟩;split at q1
  .rename_i d;obtain⟨v,vs',rfl,p2,p3⟩:=p1.uncons;have z:=p3.unnil;subst z;exact⟨r1,S1,d,v,rfl,e1,aC,p2,q1⟩
  .exact q1.elim
 unfold UJ at hk;split at hk
 rotate_left
 .exact hk.elim
 rename_i n;cases pd with
 | @ref _ a0 ha0=>
  obtain⟨⟨t,ht⟩,hk⟩:=hk;split at hk
  rotate_left
  .exact hk.elim
  rename_i o ho;obtain⟨key,q0,q1,q2⟩:=hk;subst evs;obtain⟨u0,rfl,ru0⟩:=WA rvs;cases ru0;obtain⟨cl,k1,k2,k3⟩:=Lp (sc:=sc) (env:=X.env) λy hy hf=>I.ok.has y.1 (.inl (cs.out y hy hf))
  obtain⟨aP,eaP,eP,ps,hP,tab⟩:=aC.at ht;subst eP;refine PyProof.Rows.kws_cons (kla_eval hdef (Dl I1 k1 hcode C hb hP tab λf cd ctv H2 ps' s2 I2 hP2 tab2 hH hrec hc' hf ff=>?_));obtain⟨aE,x2⟩:=IZ kn aC ht hP hP2 tab2 hH;refine PyProof.Rows.kws_cons (Constant_none (PyProof.Rows.kws_nil ?_));obtain⟨c',rfl,hc'⟩:=hc';obtain⟨hSn,hkL⟩:=Xb ho;have hob:=aE.b.ob n a0 o ha0 hSn;obtain⟨xs0,sq0,rp0⟩:=hob.list hkL;have x12:Ext r r1 H H2:=x1.trans x2;refine FD hc (N:=(Zk o).length) (key:=key) (M:=λi v H'=>∃d,(Zk o)[i]?=some d/\Rp r1 H' d v) (W:=λ_ H'=>∃r2 S2,Ext r1 r2 H2 H'/\ZV X.K r2 S2 H'/\Pre S1 S2) (Q:=Qv) (d:=.non) I2 ⟨r1,S1,Ext.refl,aE.b,Pre.refl⟩ ?_ ?_ ?_ ff hf rfl ?_
  .rintro i H' ⟨r2,S2,e2,rb,pr⟩;obtain⟨xs,sq,rp⟩:=(rb.ob n a0 o (e2.adr _ _ ha0) (pr _ _ hSn)).list hkL;refine⟨xs,sq,rp.1.symm,λj v hv=>?_⟩;have lj:j<(Zk o).length:=by
    have:=(zA.mp hv).1;rw[rp.1];exact this
   have hd:=zD lj;obtain⟨v0,_,p0⟩:=rp0.get hd;exact⟨_,hd,(rp.2 j _ v hd hv).low (VY e2) p0.sco⟩
  .rintro i v u H' s' ⟨d,hd,pv⟩ ru ⟨r2,S2,e2,rb,pr⟩ I' hf';have hcr:s'.heap.CodeRec (.ref c') (X.env.qual++"<lambda>"):=(I'.hok c' _ (e2.xc _ _ hc')).1
   have eL:Ext r1 r2 H' H':=⟨e2.adr,λ_ _ z=>z,λ_ _ z=>z⟩;refine G6 (vs:=[v]) (us:=[u]) (te:=up X.K Z0 te) I' cs (Xf hN).1 (Xf hN).2 k2 k3 (I'.ok.hd hc) I'.ok.frames (.cons ru .nil) rfl hr hf' hcr (hbind _ _ _ _ _) (he _ _ _ _ _ _) ?_;refine⟨r2,some d::Z9 caps dl,S2,_,PZ ((rs.ext x12).ext e2) (pv.ext eL),⟨rb,λ_ _ _ _ _ _ _ _ _ z=>z.elim⟩,q1 i d S2 hd pr,λy H3 r3 dy S3 x3 aF p3 ⟨ek,pr3⟩=>?_⟩;subst ek;cases p3;refine⟨rfl,⟨r3,S3,e2.trans x3,aF.b,pr3⟩,λk v ⟨d,hd,pv⟩=>⟨d,hd,pv.ext ⟨λ_ _ z=>z,x3.tup,x3.xc⟩⟩⟩
  .rintro H' ⟨r2,S2,e2,rb,pr⟩ i v ⟨d,hd,pv⟩ li mx ft;have eL:Ext r1 r2 H' H':=⟨e2.adr,λ_ _ z=>z,λ_ _ z=>z⟩;exact ret v H' r2 d S2 (x12.trans e2) ⟨rb,(bA.xw.ext x12).ext e2⟩ (pv.ext eL) (q2 i d S2 hd mx ft pr)
  .intro e;exact ret .non H2 r1 .non S1 x12 aE .non (q0 (uW.mp e))
end
def R4 (P:Addr)(ps:Array Value)(H:Hp):Prop:=H P=some (.tbl ps)/\∀b,b≠P->H b=none\/∃o xs,H b=some (.frz o (.lst xs))
theorem EY {Pg:Program}{w:World}{K:Fg}{mg mb:Str->Option Value}{CX:CXT}{k:Nat}{fa a P:Addr}{ps:Array Value}{fd:FuncData}{x:Str}{sp:Sp}{s₁:Shared}{vs:List Value}{ns:List Int}
  (KX:K.In s₁.heap)(hns:s₁.heap.Ns mainGlobals mg)(hb:s₁.heap.Ns builtinsNs mb)(hbb:∀x:Str,x≠"__name__"->mb x=bootBuiltins x)(hlim:s₁.heap.NoLimit)(hg:s₁.gens=#[])
  (ha:s₁.heap.get? a=some { cls:=.type "list",data:=.seq vs.toArray })(hi:IntsAre vs ns)(hl:ns.length<=sizeLine)(hr:ZG k callerA)(hP:s₁.heap.get? P=some { cls:=.none,data:=.fields ps })(ht:isCodeTable s₁.heap P)(kP:K.lookup P=none)(hbm:BM mg s₁.heap)
  (F:∀base:Heap,K.In base->base.Ns mainGlobals mg->BM mg base->Yc Pg w K mg base CX k fa fd [x] sp)(hbind:∀(s:Shared)(u:Value),BindsTo s fd ⟨[u],[]⟩ [(x,u)])
  (hsp:∀H:Hp,R4 P ps H->a≠P->SqL K H a (ns.map V.int)->sp [.ref a] H (λv _=>v=.bl true) λ_ _ _=>False)
  (hCX:∀H e s',CX [] H s₁ (λ_ _ _=>False) e s'->False):
  codeAny (model Pg w) callerA (.call (.ref fa) ⟨[.ref a],[]⟩) (λr s'=>r=.ok (.ret (.bool true))/\OldK s₁.heap s'.heap/\s'.os=s₁.os/\AllBare s'.gens) s₁:=by
 have rv:=SD hi
 have lenV:=hi.length
 have aP:a≠P:=λe=>by rw[e,hP] at ha;cases ha
 have core:∀H:Hp,R4 P ps H->SqL K H a (ns.map V.int)->HOk Pg w H s₁.heap->(∀b,H b≠none->b=a\/b=P)->(H a≠none->K.lookup a=none)->
   codeAny (model Pg w) callerA (.call (.ref fa) ⟨[.ref a],[]⟩) (λr s'=>r=.ok (.ret (.bool true))/\OldK s₁.heap s'.heap/\s'.os=s₁.os/\AllBare s'.gens) s₁:=by
  intro H hO hS hok hA hK;have base_of:∀ {b:Addr} {o:Obj},s₁.heap.get? b=some o->H b=none->(X7 s₁.heap H).get? b=some o:=λe n=>CA e n
  have noA:∀ {b:Addr} {o:Obj},s₁.heap.get? b=some o->(∀aY n,o.data≠.seq aY n)->(∀f,o.data≠.fields f)->H b=none:=λ{b o} e d1 d2=>by
   cases q:H b with
   | none=>rfl
   | some u=>
    rcases hA b (by rw[q];simp) with e'|e'
    .subst e';rw[ha] at e;cases e
     exact absurd rfl (d1 _ _)
    .subst e';rw[hP] at e;cases e
     exact absurd rfl (d2 _)
  have nsK:∀ {b:Addr} {m:Str->Option Value},s₁.heap.Ns b m->(X7 s₁.heap H).Ns b m:=λ{b m} ⟨o,es,ep,e,d,r⟩=>⟨o,es,ep,base_of e (noA e (λ_ _ z=>by rw[d] at z;cases z) (λ_ z=>by rw[d] at z;cases z)),d,r⟩
  have hKb:K.In (X7 s₁.heap H):=λb o e=>base_of (KX b o e) (by
   cases q:H b with
   | none=>rfl
   | some u=>
    rcases hA b (by rw[q];simp) with e'|e'
    .subst e';rw[hK (by rw[q];simp)] at e;cases e
    .subst e';rw[kP] at e;cases e)
  have hM:Mod K mg (X7 s₁.heap H):=⟨hKb,nsK hns,⟨mb,nsK hb,hbb⟩,let ⟨mc,h1,h2⟩:=hlim;⟨mc,nsK h1,h2⟩⟩
  have hB:BM mg (X7 s₁.heap H):=by
   obtain⟨bm,o,b1,b2,b3,b4,b5,b6,b7⟩:=hbm;exact⟨bm,o,b1,b2,b3,base_of b4 (noA b4 (λ_ _ z=>by rw[b7] at z;cases z) (λ_ z=>by rw[b7] at z;cases z)),b5,b6,b7⟩
  have e0:WI Pg w K mg (X7 s₁.heap H) callerA [] s₁ H:=⟨rfl,hM,λb o e=>CD e,xV (Ia _ _),trivial,λb hb=>absurd (show b∈([]:List Addr) from hb) (by simp),hok,.of_eq hg⟩;refine codeAny_mono ((F _ hKb (nsK hns) hB).run callerA [] s₁ H ⟨[.ref a],[]⟩ [.ref a] [.ref a] _ _ hr e0 (hbind s₁ (.ref a)) (.cons rfl .nil) (hsp H hO aP hS)) λr s' h=>?_
  cases r with
  | error e=>exact(hCX H e s' h).elim
  | ok fl=>
   cases fl with
   | next=>exact False.elim h
   | brk=>exact False.elim h
   | cont=>exact False.elim h
   | ret u=>
    obtain⟨v,H',os,bare,un,hok',r',q⟩:=h;have q':v=.bl true:=q;subst q';obtain rfl:u=Value.bool true:=r';refine⟨rfl,⟨λb o e=>?_,λb o e=>un.there b o e (by simp)⟩,os,bare⟩;by_cases z:b=P
    .subst z;obtain⟨more,em⟩:=un.tbls b ps hO.1;have e2:=hok' b _ em;rw[hP] at e;cases e;exact .inr (.inl ⟨ht,rfl,ps,more,rfl,e2⟩)
    .refine .inl ?_;cases q:H b with
     | none=>exact un.keep b o e q (by intro z;exact absurd (show b∈([]:List Addr) from z) (by simp)) (by simp)
     | some u=>
      rcases hO.2 b z with z|⟨ob,xs,z⟩
      .rw[q] at z;cases z
      .have z2:=un.frzs b ob _ z;obtain⟨e1,_⟩:=hok b _ z;obtain⟨e2,_⟩:=hok' b _ z2;rw[e] at e1;cases e1
       exact e2
 cases hk:K.lookup a with
 | some o=>
  have e:=KX a o hk;rw[ha] at e;cases e;refine core (λb=>if b=P then some (.tbl ps) else none) ⟨if_pos rfl,λb nb=>.inl (if_neg nb)⟩ (.inr ⟨_,vs.toArray,_,hk,rfl,rfl,rfl,by rw[zN,lenV];exact hl,by simpa using rv⟩) (λb u z=>?_) (λb z=>?_) λz=>absurd (if_neg aP) z
  .by_cases hb:b=P
   .have z':=(if_pos hb).symm.trans z;cases z';subst hb;exact hP
   .have z':=(if_neg hb).symm.trans z;cases z'
  .by_cases hb:b=P
   .exact .inr hb
   .exact absurd (if_neg hb) z
 | none=>
  refine core (λb=>if b=P then some (.tbl ps) else if b=a then some (.frz { cls:=.type "list",data:=.seq vs.toArray } (.lst (ns.map V.int))) else none) ⟨if_pos rfl,λb nb=>?_⟩ (.inl (.inr ⟨{ cls:=.type "list",data:=.seq vs.toArray },(if_neg aP).trans (if_pos rfl)⟩)) (λb u z=>?_) (λb z=>?_) λ_=>hk
  .by_cases hb:b=a
   .exact .inr ⟨_,_,(if_neg nb).trans (if_pos hb)⟩
   .exact .inl ((if_neg nb).trans (if_neg hb))
  .by_cases hp:b=P
   .have z':=(if_pos hp).symm.trans z;cases z';subst hp;exact hP
   .by_cases hb:b=a
    .have z':=((if_neg hp).trans (if_pos hb)).symm.trans z;cases z';subst hb;exact⟨ha,by rw[zC];exact hl,vs,_,rv,ha⟩
    .have z':=((if_neg hp).trans (if_neg hb)).symm.trans z;cases z'
  .by_cases hp:b=P
   .exact .inr hp
   .by_cases hb:b=a
    .exact .inl hb
    .exact absurd ((if_neg hp).trans (if_neg hb)) z
def Uz (P:Addr)(lp:Pos)(q:Str):Sd:=λds S Q _=>∃ns:List Int,ds=[.ref 0]/\S=[.frz (ns.map D.int),.cod P lp q]/\ns.length<=63/\∀S',Q (.bl true) S'
theorem BR:∀ds S Q ex,Uz P lp q ds S Q ex->ds.length=1:=λds S Q ex h=>by
 obtain⟨ns,rfl,_⟩:=h;rfl
theorem JJ {K:Fg}{H:Hp}{a P:Addr}{ps:Array Value}{lp:Pos}{q:Str}{ns:List Int}(hl:ns.length<=63)(hO:R4 P ps H)(aP:a≠P)(tr:TriplesOk ps.toList)(hn:codeAmong lp ps.toList=none)(hS:SqL K H a (ns.map V.int)):upF K (Uz P lp q) [.ref a] H (λv _=>v=.bl true) λ_ _ _=>False:=by
 have sf:SqF K H a (ns.map V.int):=by
  rcases hS with (h|⟨o,h⟩)|h
  .rcases hO.2 a aP with z|⟨o,ys,z⟩
   .rw[h] at z;cases z
   .rw[h] at z;cases z
  .exact .inl ⟨o,h⟩
  .exact .inr h
 refine⟨λ_ _=>False,[a,P],[.frz (ns.map D.int),.cod P lp q],[.ref 0],λd _=>d=.bl true,⟨⟨rfl,λn b o h1 h2=>?_,λn m b xs ys h1 h2 h3 h4 o1 o2=>?_⟩,λ_ _ _ _ _ _ _ _ _ z=>z.elim⟩,Rps.cons (.ref rfl) Rps.nil,⟨ns,rfl,rfl,hl,λ_=>rfl⟩,λv H' r' d S' e bA p q=>?_⟩
 .match n,h1,h2 with
  | 0,h1,h2=>
   cases h1;cases h2
   exact⟨_,sf,Cr ns⟩
  | 1,h1,h2=>
   cases h1;cases h2
   exact⟨rfl,ps,hO.1,tr,.inl hn⟩
  | n+2,h1,h2=>cases h1
 .match n,m,h1,h2,h3,h4 with
  | 0,m,h1,h2,h3,h4=>cases h3;cases o1
  | 1,0,h1,h2,h3,h4=>cases h4;cases o2
  | 1,1,h1,h2,h3,h4=>rfl
  | 1,m+2,h1,h2,h3,h4=>cases h2
  | n+2,m,h1,h2,h3,h4=>cases h1
 .subst q;cases p;rfl
theorem GK {l:W.OpenLaw}{q:Program}{aH:List Str}{XP:(Str->Option Value)->Heap->Prop}{YP:World->Heap->Prop}{d:DefRec}{K:Params->Fg}{x:Str}{P c:Addr}{ps:Array Value}{lp:Pos}{lq:Str}(k:Nat)(hn:l.most=some 63)(hdf:d.params.defaults=[])(hr:ZG k callerA)
  (hY:∀(w:World)(h:Heap),YP w h->(K w.params).In h/\h.get? P=some { cls:=.none,data:=.fields ps })(hC:∀(p:Params)(h:Heap),(K p).In h->CodeHd h c P)(kP:∀p:Params,(K p).lookup P=none)(tr:TriplesOk ps.toList)(hcn:codeAmong lp ps.toList=none)
  (F:∀(w:World)(mg:Str->Option Value)(fa:Addr)(h:Heap),(K w.params).In h->h.Ns mainGlobals mg->mg d.name=some (.ref fa)->
   ∃fd:FuncData,(∀(s:Shared)(u:Value),BindsTo s fd ⟨[u],[]⟩ [(x,u)])/\∀base:Heap,(K w.params).In base->base.Ns mainGlobals mg->BM mg base->Yc l.prog w (K w.params) mg base (CXE l.prog w) k fa fd [x] (upF (K w.params) (Uz P lp lq))):
  W.WalkO q aH XP YP l.row.toRowW d [] (λf vs=>PySem.call f vs):=by
 refine Att.attach_call hn hdf λw s₀ s₁ mg mb fa o pm cd doc a vs ns G Y ho hd hcd hmg hobj hints aO hg=>?_
 obtain⟨KX,hP⟩:=hY w _ Y;obtain⟨fd,hb,hF⟩:=F w mg fa _ KX G.T.g hmg;have hbm:BM mg s₁.heap:=by
  obtain⟨bm,ob,b1,b2,b3,b4,b5,b6⟩:=G.T.bmain;refine⟨bm,ob,b1,b2,λe=>?_,b3,b4,b5,b6⟩;obtain⟨o,es,ep,e2,hd,_⟩:=G.T.g;rw[e,e2] at b3;cases b3;rw[hd] at b6;cases b6
 exact EY KX G.T.g G.T.b G.T.builtins G.T.nolimit hg hobj hints (yF aO ⋯) hr hP ((hC _ _ KX).tab hP).isCodeTable (kP _) hbm hF hb (λH hO aP hS=>JJ aO hO aP tr hcn hS) λ_ _ _ ⟨_,_,_,_,_,_,_,_,_,_,_,_,z⟩=>z
theorem J0 {prog:Program}{w:World}{A:Around}{R:Result->Shared->Prop}(hh:A.handled=none){l it S:Addr}{zs:List Int}{aY:List Value}(hi:IntsAre aY zs)(hlI:l≠it)(hlS:l≠S)(hIS:it≠S){dv:Value}{h₀:Heap}{g:Array GenState}{dr:Drawn}{os:OsState}
  (hR:∀(b:Int)(t:Tok)(h':Heap)(tk':Nat),b∈zs->(∀y∈zs,y<=b)->(∀a o,a≠it->a≠S->h₀.get? a=some o->h'.get? a=some o)->R (.ok (.ret (.int b t))) ⟨h',g,dr,tk',os⟩)
  (hD:zs=[]->∀(h':Heap)(tk':Nat),(∀a o,a≠it->a≠S->h₀.get? a=some o->h'.get? a=some o)->R (.ok (.ret dv)) ⟨h',g,dr,tk',os⟩):
  ∀(n j:Nat)(h:Heap)(tk:Nat)(ob:Array Value)(c:Nat),zs.length-j=n->j<=zs.length->h.IsList l aY.toArray->(∀a o,a≠it->a≠S->h₀.get? a=some o->h.get? a=some o)->h.IsListIter it l j->h.get? S=some (seqObj "list" ob c)->(ob=#[]/\j=0\/∃(b:Int)(t:Tok),ob=#[.int b t,.int b t]/\b∈zs/\∀y∈zs.take j,y<=b)->
   codeAny (model prog w) A (.builtin "max.loop" ⟨[.ref it,.none,.ref S],[(Str.ofString "default",dv)]⟩) R ⟨h,g,dr,tk,os⟩:=by
 have hname:(toString "max"++toString ".loop":String)="max.loop":=by decide
 have Wk:=Walks.list (prog:=prog) (w:=w) (A:=A.in1) hh it l hlI aY.toArray
 have aO:=hi.length;intro n
 induction n with
 | zero=>
  intro j h tk ob c hn hj hl kp hit hS hvb;have ej:j=aY.length:=by omega
  refine codeAny_builtin PySem.F.entry_max_loop ?_;refine wpAny_bind (wpAny_seqItems hS rfl ?_);refine wpAny_bind (wpAny_tryCatch (Wk.done _ _ _ ⟨by rw[zN,<- ej];exact hit,hl⟩ λh' tk' hk'=>?_));rcases hvb with ⟨rfl,e0⟩|⟨b,t,rfl,hb,hbest⟩
  .exact wpAny_bind (wpAny_rule (wpAny_pure (hD (uW.mp (by omega)) _ _ λa o n1 n2 e=>hk' a o (by simpa using n1) (kp a o n1 n2 e))))
  have hS':=hk' S _ (by simpa using hIS.symm) hS;refine wpAny_bind ?_;refine wpAny_updateSeq hS' rfl (wpAny_bind (wpAny_letGo (wpAny_pure ?_)));have s1:=Heap.SameBut.update h' S (Obj.mapSeq λ_=>(#[]:Array Value));refine hR b t _ _ hb (λy hy=>hbest y (by rw[yM (by omega)];exact hy)) λa o n1 n2 e=>(s1.2 a n2).trans (hk' a o (by simpa using n1) (kp a o n1 n2 e))
 | succ n ih=>
  intro j h tk ob c hn hj hl kp hit hS hvb;refine codeAny_builtin PySem.F.entry_max_loop ?_;refine wpAny_bind (wpAny_seqItems hS rfl ?_);refine wpAny_bind (wpAny_tryCatch (Wk.item j _ _ _ (by rw[zN];omega) ⟨hit,hl⟩ λu h' tk' hP hst' hk'=>?_));have hu:aY[j]?=some u:=by simpa using hP
  obtain⟨z,hz⟩:∃z,zs[j]?=some z:=⟨_,zD (by omega)⟩;obtain⟨t2,ht2⟩:=hi.get j z hz;rw[hu] at ht2;cases ht2;have hk1:∀a o,a≠it->h.get? a=some o->h'.get? a=some o:=λa o na e=>hk' a o (by simpa using na) e
  have hS1:=hk1 S _ hIS.symm hS
  have tk1:zs.take (j+1)=zs.take j++[z]:=by rw[List.take_add_one,hz];rfl
  have s1:=Heap.SameBut.update h' S (Obj.mapSeq λ_=>#[.int z t2,.int z t2]);obtain⟨c2,hc2⟩:∃c2,(h'.update S (Obj.mapSeq λ_=>#[.int z t2,.int z t2])).get? S=some (seqObj "list" #[.int z t2,.int z t2] c2):=⟨_,get?_update_seq hS1 λ_=>#[.int z t2,.int z t2]⟩;have go:=λ(tk0:Nat)(best:∀y∈zs.take j,y<=z)=>ih (j+1) (h'.update S (Obj.mapSeq λ_=>#[.int z t2,.int z t2])) tk0 _ c2 (by omega) (by omega) (by obtain⟨ol,hol,r⟩:=id hst'.2;exact⟨ol,(s1.2 l hlS).trans hol,r⟩) (λa o n1 n2 e=>(s1.2 a n2).trans (hk1 a o n1 (kp a o n1 n2 e))) (by obtain⟨oI,hoI,hoc,hod⟩:=id hst'.1;exact⟨oI,(s1.2 it hIS).trans hoI,hoc,hod⟩) hc2 (.inr ⟨z,t2,rfl,zF hz,λy hy=>by
   rw[tk1] at hy;rcases yE.1 hy with hy|hy
   .exact best y hy
   .rw[zT.mp hy];exact zV _⟩)
  rcases hvb with ⟨rfl,rfl⟩|⟨b,t,rfl,hb,hbest⟩
  .show wpAny _ A.in1 (updateSeq S (λ_=>#[.int z t2,.int z t2]) >>= _) _ _ _;refine wpAny_bind (wpAny_updateSeq hS1 rfl ?_);exact wpAny_pure ⟨plainId_quiet PySem.F.plain_max_loop _,go _ λy hy=>by simp at hy⟩
  show wpAny _ A.in1 (tryCatch (holding [.int z t2,.int z t2] (richCompare .Gt (.int z t2) (.int b t) >>= _)) _ >>= _) _ _ _;refine wpAny_bind (wpAny_tryCatch (wpAny_holding (wpAny_bind (CmpOf.ints_gt (λi=>([z,b]:List Int).getD i 0) (λi v h=>h) 0 1 _ _ _ _ _ ⟨t2,rfl⟩ ⟨t,rfl⟩ ?_))));refine wpAny_bind (wpAny_holding (wpAny_truthy_bool ?_));refine wpAny_bind (wpAny_letGo (wpAny_pure ?_));by_cases hb':([z,b]:List Int).getD 0 0 > ([z,b]:List Int).getD 1 0
  .simp only[hb',decide_true,if_true];have hb2:z > b:=hb';refine wpAny_bind ?_;refine wpAny_updateSeq hS1 rfl (wpAny_bind (wpAny_letGo ?_));exact wpAny_pure ⟨plainId_quiet PySem.F.plain_max_loop _,go _ λy hy=>by have:=hbest y hy;omega⟩
  .simp only[hb',decide_false,xY,if_false];have hb2:¬ z > b:=hb';refine wpAny_bind (wpAny_letGo ?_);refine wpAny_pure ⟨plainId_quiet PySem.F.plain_max_loop _,ih (j+1) _ _ _ c (by omega) (by omega) hst'.2 (λa o n1 n2 e=>hk1 a o n1 (kp a o n1 n2 e)) hst'.1 hS1 (.inr ⟨b,t,rfl,hb,λy hy=>?_⟩)⟩;rw[tk1] at hy;rcases yE.1 hy with hy|hy
   .exact hbest y hy
   .rw[zT.mp hy];omega
theorem IH (a d:Value):argsOk "max" ⟨[a],[(Str.ofString "default",d)]⟩:=by unfold argsOk;kernel_rfl
theorem K6 (hc:X.calm=true){l:Addr}{zs:List Int}{Q:VK}{d:V}{dv:Value}(I:Inv X pins σ H s)(hsq:SqL X.K H l (zs.map V.int))(rd:Zs d dv)(h0:zs=[]->Q d H)(hQ:∀m,m∈zs->(∀y∈zs,y<=m)->Q (.int m) H):
  wpAny (mX X) X.A (call (.builtin "max") [.ref l] [(Str.ofString "default",dv)]) (EP X pins σ Q) X.xe s:=by
 have hname:(toString "max"++toString ".loop":String)="max.loop":=by decide
 obtain⟨aY,rv,pl,hz⟩:=I.list hsq;have hi:=Dk rv
 have hls:=pl.isList;obtain⟨ol,hol,hrl⟩:=id hls;have hll:l<s.heap.objs.size:=Heap.lt_size hol;refine kmk_tree PySem.F.kind_max PySem.F.plain_max PySem.F.entry_max (IH _ _) ?_;refine wpAny_bind (wpAny_of_eq (show Builtin.Builtins.bindParams "max" ["key","default"] 0 ⟨[],[(Str.ofString "default",dv)]⟩=pure [none,some dv] from rfl) ?_);refine wpAny_bind (wpAny_pure ?_);refine wpAny_bind (wpAny_pyIter_list hls ?_);refine wpAny_bind (wpAny_newList ?_ (zJ _));have hS:(s.heap.push { cls:=.type "list_iterator",data:=.fields #[.ref l,.int 0 0] }).objs.size=s.heap.objs.size+1:=size_push' ..;refine wpAny_pure ⟨plainId_quiet PySem.F.plain_max_loop _,?_⟩;generalize ePI:s.heap.push { cls:=.type "list_iterator",data:=.fields #[.ref l,.int 0 0] }=hI at hS ⊢;have hk0:∀b o,s.heap.get? b=some o->(hI.push (seqObj "list" #[] 0)).get? b=some o:=λb o e=>Heap.get?_push_of_some _ (by rw[<- ePI];exact Heap.get?_push_of_some _ e)
 have gI:(hI.push (seqObj "list" #[] 0)).get? s.heap.objs.size=some { cls:=.type "list_iterator",data:=.fields #[.ref l,.int 0 0] }:=Heap.get?_push_of_some _ (by rw[<- ePI];exact Heap.get?_push_size _ rfl)
 have gS:(hI.push (seqObj "list" #[] 0)).get? hI.objs.size=some (seqObj "list" #[] 0):=Heap.get?_push_size _ rfl
 have leS:s.heap.objs.size<=hI.objs.size:=by rw[hS];exact xN _
 have hlI:l≠s.heap.objs.size:=zP hll
 have hlS:l≠hI.objs.size:=zP (zS hll leS)
 have hIS:s.heap.objs.size≠hI.objs.size:=by rw[hS];exact zP (xW _)
 have old:∀a o,s.heap.get? a=some o->a≠s.heap.objs.size/\a≠hI.objs.size:=λa o e=>⟨zP (Heap.lt_size e),zP (zS (Heap.lt_size e) leS)⟩
 have aZ:∀(h':Heap)(tk':Nat),(∀a o,a≠s.heap.objs.size->a≠hI.objs.size->(hI.push (seqObj "list" #[] 0)).get? a=some o->h'.get? a=some o)->Inv X pins σ H { s with heap:=h',toks:=tk' }:=λh' tk' k=>I.kept λb u e=>k b u (old b u e).1 (old b u e).2 (hk0 b u e)
 have ls0:(hI.push (seqObj "list" #[] 0)).IsList l aY.toArray:=⟨ol,hk0 _ _ hol,hrl⟩;exact J0 (I.ok.hd hc) hi hlI hlS hIS (λb t h' tk' hb hbest k=>⟨.int b,H,aZ h' tk' k,⟨t,rfl⟩,hQ b hb hbest⟩) (λe h' tk' k=>⟨d,H,aZ h' tk' k,rd,h0 e⟩) _ 0 _ _ _ _ rfl (zJ _) ls0 (λa o _ _ e=>e) ⟨_,gI,rfl,rfl⟩ gS (.inl ⟨rfl,rfl⟩)
theorem EK {r:List Addr}:∀ {ds:List D} {zs:List Int} {vs:List V},YI ds=some zs->Rps r H ds vs->vs=zs.map V.int:=λ{ds}=>by
 induction ds with
 | nil=>
  intro zs vs h p;have z:=p.unnil;subst z;simp[YI] at h;subst h;rfl
 | cons d ds ih=>
  intro zs vs h p;obtain⟨v,vs',rfl,p1,p2⟩:=p.uncons;cases d with
  | int i=>
   simp only[YI,zI] at h;obtain⟨zr,h,rfl⟩:=h;cases p1;rw[ih h p2];rfl
  | _=>simp[YI] at h
def V7 (Q:DK)(d e:D)(S:Sto):Prop:=match d with
 | .ref n=>match lAt S n with
  | some o=>∃zs,YI (Zk o)=some zs/\(zs=[]->Q e S)/\∀m,m∈zs->(∀y∈zs,y<=m)->Q (.int m) S
  | none=>False
 | _=>False
@[irreducible] def Th (tl td:TDE):TDE:=λdl S Q=>tl dl S λd S1=>td dl S1 λe S2=>V7 Q d e S2
theorem CG (hc:X.calm=true)(hg:Gl X "max")(hm:X.mg "max"=none)(hv:bootBuiltins "max"=some (.builtin "max"))(ha:PD X Z a tl)(hd:PD X Z b td)(hs:starEach [a] X.env=[(false,eval a X.env)]:=by rfl):
  PD X Z (.Call (.Name "max" p) [a] [⟨some "default",b,dp⟩] pos) (Th tl td):=by
 intro pins s σ H Qv I h;obtain⟨r,dl,S,Q,rs,bA,h,ret⟩:=h;unfold Th at h;refine wpAny_Call_Name_kw (Wd I hg hm hv ?_ ⋯ ⋯);have hda:PDA X Z [a] (U9 tl U0):=Za ha Zf hs;refine PyProof.Rows.callWith_kw (thn (hda pos pins s σ H (λvs H1=>∃(r1:List Addr)(S1:Sto)(d:D)(v:V),vs=[v]/\Ext r r1 H H1/\Rel X.K Z r1 S1 H1/\Rp r1 H1 d v/\td dl S1 λe S2=>V7 Q d e S2) I ?_) λus s1 ⟨vs,H1,I1,rvs,r1,S1,d,v,evs,x1,aC,pd,hk⟩=>?_) (by show backTo pos (starEach [a] X.env)=_;rw[hs];rfl) (by rw[hs];rfl)
 .refine⟨r,dl,S,λds S1=>match ds with|[d]=>td dl S1 λe S2=>V7 Q d e S2|_=>False,rs,bA,h,λvs H1 r1 ds S1 e1 aC p1 q1=>?_⟩;split at q1
  .rename_i d;obtain⟨v,vs',rfl,p2,p3⟩:=p1.uncons;have z:=p3.unnil;subst z;exact⟨r1,S1,d,v,rfl,e1,aC,p2,q1⟩
  .exact q1.elim
 subst evs;obtain⟨u0,rfl,ru0⟩:=WA rvs;refine PyProof.Rows.kws_cons (thn (hd pins s1 σ H1 (λe H2=>∃(r2:List Addr)(S2:Sto)(de:D),Ext r1 r2 H1 H2/\Rel X.K Z r2 S2 H2/\Rp r2 H2 de e/\V7 Q d de S2) I1 ⟨r1,dl,S1,_,rs.ext x1,aC,hk,λe H2 r2 de S2 x2 aE p2 q2=>⟨r2,S2,de,x2,aE,p2,q2⟩⟩) λue s2 ⟨e,H2,I2,re,r2,S2,de,x2,aE,pe,hk⟩=>PyProof.Rows.kws_nil ?_);unfold V7 at hk;split at hk
 rotate_left
 .exact hk.elim
 rename_i n hk0 ep;cases pd with
 | @ref _ a0 ha0=>
  cases ru0;split at hk
  rotate_left
  .exact hk.elim
  rename_i o ho;obtain⟨zs,hz,q0,q1⟩:=hk;obtain⟨hSn,hkL⟩:=Xb ho;obtain⟨xs,sq,rp⟩:=(aE.b.ob n a0 o (x2.adr _ _ ha0) hSn).list hkL;rw[EK hz rp] at sq;exact K6 hc I2 sq re (λz=>ret _ H2 r2 de S2 (x1.trans x2) aE pe (q0 z)) λm hm hb=>ret _ H2 r2 (.int m) S2 (x1.trans x2) aE (.int m) (q1 m hm hb)
open PySem PySem.Spec PyProof.Rows L2 PySem.W
section
variable {s:Shared}{A:Around}{w:World}{prog:Program}
end
def Ph (k:Nat)(caps:List Nat)(wi:TI)(gt:TG)(tc:TT)(te:TE):TE:=λσ H Q=>wi σ H λJ H1=>∀D,H1 D=none->∃W:Nat->Nat->Hp->Prop,(∃m,W 0 m (upd H1 D (.lst [])))/\∀i m H,W i m H->
 (J.stop i H/\Q (.ref D) H)\/(J.go i H/\∀x H',J.yld i H x H'->∀o:L2.St,o.length=k->gt x (o++Yd caps σ) H' λσ8 H8=>(∃o8:L2.St,o8.length=k/\σ8=o8++Yd caps σ)/\
  tc σ8 H8 λb H9=>if b=true then te σ8 H9 λy H3=>∃ys,H3 D=some (.lst ys)/\ys.length<sizeLine/\∃m',m'<m/\W (i+1) m' (upd H3 D (.lst (ys++[y]))) else ∃m',m'<m/\W (i+1) m' H9)
theorem Mu (hc:X.calm=true)(cs:XH sc X.env.scope own N)(hN:∀(j:Nat)(y:Str),N[j]?=some y->∃i,caps[j]?=some i/\X.N[i]?=some y)(aO:caps.length=N.length)(hi:PI X (.Tuple aM kk tp) aV wi)(hg:∀cl C s0 H0 fp pn,PG (Cx.comp X sc (own++N) cl C s0 H0 fp pn) (.Tuple aM kk tp) gt)(he:∀cl C s0 H0 fp pn,PE (Cx.comp X sc (own++N) cl C s0 H0 fp pn) aX te)(ht:∀cl C s0 H0 fp pn,PTs (Cx.comp X sc (own++N) cl C s0 H0 fp pn) ifs tc)(hs:∀y,foldedSetIterable aV X.env y=pure y)(I:Inv X pins σ H s)(h:Ph own.length caps wi gt tc te σ H Q)(aZ:∀D C s',UK X pins σ C Q D s'->compPost (mX X) X.A X.xe use Qr (.ref D) C (.ok .next) s'):
  wpAny (mX X) X.A (comprehension (.ListComp aX [⟨.Tuple aM kk tp,aV,ifs,0⟩] sc pos) sc X.env p2 (newList []) false (eval aV X.env) use) Qr X.xe s:=
 Qy hc cs hN aO hi hg he ht hs I h (λ_ _ b=>b) aZ
section
variable {X:Cx}{Z:Zx}{aX:Expr}{pos:Pos}{sc ar:Scope}{N:List Str}{caps:List Nat}
def Ex (caps:List Nat)(tc:TDT)(te:TDE)(k:Nat)(dl:Ev)(d1 d2:D)(S:Sto)(nx:Sto->Prop):Prop:=
 tc (some d1::some d2::Z9 caps dl) S λb S1=>if b=true then te (some d1::some d2::Z9 caps dl) S1 λy S2=>match S2[k]? with
  | some (.lst ys)=>ys.length<1000/\nx (S2.set k (.lst (ys++[y])))
  | _=>False
 else nx S1
@[irreducible] def Va (caps:List Nat)(ta:TDA)(tc:TDT)(te:TDE):TDE:=λdl S Q=>ta dl S λds S1=>match ds with
 | [.ref n]=>(lAt S1 n).isSome=true/\∃W:Nat->Nat->Sto->Prop,(∃m,W 0 m (S1++[.lst []]))/\∀k m S2,W k m S2->match lAt S2 n with
  | some o=>match (Zk o)[k]? with
   | some y=>Ex caps tc te S1.length dl (.int (k:Int)) y S2 λS3=>∃m',m'<m/\W (k+1) m' S3
   | none=>k=(Zk o).length/\Q (.ref S1.length) S2
  | none=>False
 | _=>False
theorem Mz {ta:TDA}{tc:TDT}{te:TDE}{σ:L2.St}{H:Hp}{Qv:VK}(h:up X.K Z (Va caps ta tc te) σ H Qv):
  Ph 2 caps (Mm X.K (upA X.K Z ta)) (gTup X.K 2 (gAll [0,1])) (upT X.K Z0 tc) (up X.K Z0 te) σ H Qv:=by
 obtain⟨r,dl,S,Q,rs,bA,h,ret⟩:=h;unfold Va at h;refine⟨r,dl,S,_,rs,bA,h,λvs H1 r1 ds S1 x1 aC p1 q1=>?_⟩;split at q1
 .rename_i n;obtain⟨v,vs',rfl,p2,p3⟩:=p1.uncons;have z:=p3.unnil;subst z;cases p2 with
  | @ref n a hr=>
   obtain⟨aU,W,⟨m0,w0⟩,turn⟩:=q1;obtain⟨o1,eo1⟩:=yX.mp aU;obtain⟨xs1,sq1,_⟩:=XE (r:=r1) hr aC.b eo1;refine⟨a,rfl,⟨xs1,sq1⟩,λD0 hD=>?_⟩;obtain⟨aE,x2⟩:=aC.b.push hD Rps.nil;refine⟨λk m H'=>∃r' S',Ext (r1++[D0]) r' (upd H1 D0 (.lst [])) H'/\ZV X.K r' S' H'/\W k m S',⟨m0,_,_,Ext.refl,aE,w0⟩,?_⟩;rintro k m H2 ⟨r2,S2,x3,rb2,w2⟩;have ha2:r2[S1.length]?=some D0:=x3.adr _ _ (VF aC.len)
   have hr2:r2[n]?=some a:=(x2.trans x3).adr _ _ hr
   have q:=turn k m S2 w2;split at q
   .rename_i o eo;obtain⟨xs,sq,pr⟩:=XE (r:=r2) hr2 rb2 eo;split at q
    .rename_i y ey;obtain⟨v,hv,pv⟩:=pr.get ey;refine .inr ⟨⟨xs,v,sq,hv⟩,λv' H' y' o8 ho8=>?_⟩;obtain⟨T,w,rfl,hT,rfl,hw⟩:=y';have ew:w=v:=by
      have z:=hw xs sq;rw[hv] at z;exact(Option.some.inj z).symm
     subst ew;obtain⟨c1,c2,rfl⟩:∃c1 c2,o8=[c1,c2]:=by
      match o8,ho8 with
      | [c1,c2],_=>exact⟨c1,c2,rfl⟩
     have x4:Ext r2 r2 H2 (upd H2 T (.tup [.int (k:Int),w])):=SV hT
     have rb3:=rb2.same (XW (o:=.tup [.int (k:Int),w]) hT)
     have rs3:=rs.ext (x1.trans (x2.trans (x3.trans x4)));refine⟨T,[.int (k:Int),w],rfl,SqT.of YK,rfl,rfl,⟨[some (.int (k:Int)),some w],rfl,rfl⟩,?_⟩;have rsY:=LM (caps:=caps) rs3 (.int (k:Int)) (pv.ext x4);refine⟨r2,_,S2,_,rsY,⟨rb3,λ_ _ _ _ _ _ _ _ _ z=>z.elim⟩,q,λb H9 r9 S9 x9 rel9 q9=>?_⟩;cases b with
     | false=>
      obtain⟨m',hm,q9⟩:=q9;exact⟨m',hm,r9,S9,x3.trans (x4.trans x9),rel9.b,q9⟩
     | true=>
      refine⟨r9,_,S9,_,rsY.ext x9,rel9,q9,λz H4 r4 dz S4 x6 aG p4 q4=>?_⟩;split at q4
      .rename_i ys eys;obtain⟨hl,m',hm,q4⟩:=q4;have ha4:r4[S1.length]?=some D0:=x6.adr _ _ (x9.adr _ _ ha2);obtain⟨zs,hD4,pz⟩:=aG.b.ob _ _ _ ha4 eys;obtain⟨rel5,x7⟩:=aG.b.set ha4 eys (pz.snoc p4);exact⟨zs,hD4,by rw[<- pz.1];exact Uu (yU hl),m',hm,r4,_,x3.trans (x4.trans (x9.trans (x6.trans x7))),rel5,q4⟩
      .exact q4.elim
    .obtain⟨hk,q⟩:=q;exact .inl ⟨⟨xs,sq,by rw[<- pr.1];exact hk.symm⟩,ret _ H2 r2 _ S2 (x1.trans (x2.trans x3)) ⟨rb2,bA.xw.ext (x1.trans (x2.trans x3))⟩ (.ref ha2) q⟩
   .exact q.elim
 .exact q1.elim
theorem RH (har:X.env.scope=ar)(hc:X.calm=true)(cs:XH sc ar [x1,x2] N)(hl1:sc.names.lookup x1=some .local)(hl2:sc.names.lookup x2=some .local)(hN:Hn X caps N)(hnd:([x1,x2]++N).Nodup)(hg:Gl X "enumerate")(hm:X.mg "enumerate"=none)(hv:bootBuiltins "enumerate"=some (.type "enumerate"))(ha:PDA X Z [a] ta)(ht:∀cl C s0 H0 fp pn,We (Cx.comp X sc ([x1,x2]++N) cl C s0 H0 fp pn) ifs tc)(he:∀cl C s0 H0 fp pn,PD (Cx.comp X sc ([x1,x2]++N) cl C s0 H0 fp pn) Z0 aX te)(hse:starEach [a] X.env=[(false,eval a X.env)]:=by rfl)(hs:∀y,foldedSetIterable (.Call (.Name "enumerate" p) [a] [] aL) X.env y=pure y:=by intro _;rfl):
  PD X Z (.ListComp aX [⟨.Tuple [.Name x1 p1,.Name x2 p2] kk tp,.Call (.Name "enumerate" p) [a] [] aL,ifs,0⟩] sc pos) (Va caps ta tc te):=by
 subst har;intro pins s σ H Q I h;have h:=Mz h;refine Mu (tc:=upT X.K Z0 tc) (te:=up X.K Z0 te) hc cs (Xf hN).1 (Xf hN).2 (Q9 hg hm hv ha hse) (λcl C s0 H0 fp pn=>?_) he ht hs I h λD C s' f=>?_
 .have l1:(Cx.comp X sc ([x1,x2]++N) cl C s0 H0 fp pn).env.scope.names.lookup x1=some .local:=lookup_relabel_local hl1
  have l2:(Cx.comp X sc ([x1,x2]++N) cl C s0 H0 fp pn).env.scope.names.lookup x2=some .local:=lookup_relabel_local hl2;exact VC hc (Vh hnd (.cons rfl (.inl l1) (.inr l1) (.cons rfl (.inl l2) (.inr l2) .nil))) rfl rfl
 .obtain⟨⟨H',I',q,hC⟩,⟨m,ns⟩,l,o,c,p⟩:=f;exact⟨m,ns,λh' sb=>⟨.ref D,H',I'.turned (λb ob hb e=>(sb.2 b hb).trans e) hC l (.inr o) c p,rfl,q⟩⟩
end
section
variable {P:Program}{w:World}{K:Fg}{mg:Str->Option Value}{base:Heap}
structure Lm (K:Fg)(mg:Str->Option Value)(base:Heap)(fd:FuncData)(T:Addr) where
 c:Addr
 code:fd.code=.ref c
 hd:CodeHd base c T
 bm:BM mg base
 kn:∀o,K.lookup T≠some o
theorem KW {x qual:Str}{st:Stmt}{f c:Addr}{fd:FuncData}{N ps:List Str}{k:Nat}{sd:Sd}(F:Fun K x qual st f fd)(Sc:YF N ps (Zw st))(len:∀ds S Q ex,sd ds S Q ex->ds.length=ps.length)(hcd:fd.code=.ref c)
  (hbody:∀(A:Around)(outer:List Env)(s:Shared)(H:Hp)(E:XK),ZG k (A.deeper (envOfC qual (Zw st) s.heap.objs.size f (.ref c)))->
   ∃t,Yy (Xl (CXE P w) P w K mg base N qual (Zw st) f (.ref c) A outer s H E).nox Z0 (YS st) t/\∀ds S Q ex,sd ds S Q ex->t { nx:=λ_ S'=>Q .non S',rt:=Q } (YR N ds) S):Yc P w K mg base (CXE P w) (k+1) f fd ps (upF K sd):=Vp F Sc len λcdv A o s H E e hr=>by
 cases hcd.symm.trans e;exact hbody A o s H E hr
theorem Gn (hr:ZG k A)(env:Env)(h:j+2<=k:=by decide):ZG j (A.in1.deeper env):=(ZG.in1 (hr.mono h)).deeper env
theorem KC (hr:ZG k A)(h:j+1<=k:=by decide):A.in1.depth<recursionLimit:=(ZG.in1 (hr.mono h)).depth
theorem lsc (a:sc.kind=.function:=by rfl)(b:sc.isCoroutine=false:=by rfl)(c:sc.isGenerator=false:=by rfl)(d:∀y∈sc.names,y.2≠.cell:=by decide +kernel)(e:∀y∈own,sc.names.lookup y=some .local:=by decide +kernel)(f:∀y∈caps,sc.names.lookup y=some .free:=by decide +kernel)(g:∀y∈sc.names,y.2=.free->ar.names.lookup y.1=some .cell:=by decide +kernel)(i:own.Nodup:=by decide +kernel):SI sc ar own caps:=⟨a,b,c,d,e,f,g,i⟩
end
section
variable {X:Cx}{Z:Zx}{aX aV:Expr}{aM:List Expr}{kk:Nat}{tp pos:Pos}{sc ar:Scope}{own N:List Str}{caps:List Nat}{wi:TI}{gt:TG}{te:TE}
theorem Dg {ifs:List Expr}{tc:TT}{i:Nat}{y:Str}{py spos:Pos}(hc:X.calm=true)(cs:XH sc X.env.scope own N)(hN:Hn X caps N)
  (hi:PI X (.Tuple aM kk tp) aV wi)(hg:∀cl C s0 H0 fp pn,PG (Cx.comp X sc (own++N) cl C s0 H0 fp pn) (.Tuple aM kk tp) gt)(he:∀cl C s0 H0 fp pn,PE (Cx.comp X sc (own++N) cl C s0 H0 fp pn) aX te)(ht:∀cl C s0 H0 fp pn,PTs (Cx.comp X sc (own++N) cl C s0 H0 fp pn) ifs tc)
  (hNd:X.N.Nodup)(hy:X.N[i]?=some y)(hl:X.env.scope.names.lookup y=some .local)
  (hsw:swapsWith (.ListComp aX [⟨.Tuple aM kk tp,aV,ifs,0⟩] sc pos) (some (.Name y py)) spos.line X.env=pure true)
  (hs:∀y,foldedSetIterable aV X.env y=pure y:=by intro _;rfl):PS X (.Assign [.Name y py] (.ListComp aX [⟨.Tuple aM kk tp,aV,ifs,0⟩] sc pos) spos) (λE σ H=>Ph own.length caps wi gt tc te σ H λv H1=>E.nx (σ.set i (some v)) H1):=
 RX (λI h aZ=>Mu hc cs (Xf hN).1 (Xf hN).2 hi hg he ht hs I h aZ) hNd hy hl hsw
theorem BL {ifs:List Expr}{ta:TDA}{tc:TDT}{te:TDE}{x1 x2:Str}{p1 p2 p aL:Pos}{a:Expr}{i:Nat}{y:Str}{py spos:Pos}(har:X.env.scope=ar)(hc:X.calm=true)(cs:XH sc ar [x1,x2] N)(hl1:sc.names.lookup x1=some .local)(hl2:sc.names.lookup x2=some .local)
  (hN:Hn X caps N)(hnd:([x1,x2]++N).Nodup)(hNd:X.N.Nodup)(hy:X.N[i]?=some y)(hlo:ar.names.lookup y=some .local)(hg:Gl X "enumerate")(hm:X.mg "enumerate"=none)(hv:bootBuiltins "enumerate"=some (.type "enumerate"))(ha:PDA X Z [a] ta)
  (ht:∀cl C s0 H0 fp pn,We (Cx.comp X sc ([x1,x2]++N) cl C s0 H0 fp pn) ifs tc)
  (he:∀cl C s0 H0 fp pn,PD (Cx.comp X sc ([x1,x2]++N) cl C s0 H0 fp pn) Z0 aX te)
  (hsw:swapsWith (.ListComp aX [⟨.Tuple [.Name x1 p1,.Name x2 p2] kk tp,.Call (.Name "enumerate" p) [a] [] aL,ifs,0⟩] sc pos) (some (.Name y py)) spos.line X.env=pure true:=by rfl)
  (hse:starEach [a] X.env=[(false,eval a X.env)]:=by rfl)(hs:∀y,foldedSetIterable (.Call (.Name "enumerate" p) [a] [] aL) X.env y=pure y:=by intro _;rfl):
  PDS X Z (.Assign [.Name y py] (.ListComp aX [⟨.Tuple [.Name x1 p1,.Name x2 p2] kk tp,.Call (.Name "enumerate" p) [a] [] aL,ifs,0⟩] sc pos) spos) (V8 i (Va caps ta tc te)):=by
 subst har;refine YB (Dg hc cs hN (tc:=upT X.K Z0 tc) (te:=up X.K Z0 te) (Q9 hg hm hv ha hse) (λcl C s0 H0 fp pn=>?_) he ht hNd hy hlo hsw hs) λF σ H h=>Sn (λ_ h=>Mz h) h
 have l1:(Cx.comp X sc ([x1,x2]++N) cl C s0 H0 fp pn).env.scope.names.lookup x1=some .local:=lookup_relabel_local hl1
 have l2:(Cx.comp X sc ([x1,x2]++N) cl C s0 H0 fp pn).env.scope.names.lookup x2=some .local:=lookup_relabel_local hl2;exact VC hc (Vh hnd (.cons rfl (.inl l1) (.inr l1) (.cons rfl (.inl l2) (.inr l2) .nil))) rfl rfl
@[irreducible] def UA (caps:List Nat)(ta:TDA)(tc:TDT)(te:TDE):TDE:=λdl S Q=>ta dl S λds S1=>match ds with
 | [.int lo,.int hi]=>(-(2^62)<=lo/\lo<2^62/\-(2^62)<=hi/\hi<2^62)/\∃W:Nat->Sto->Prop,W 0 (S1++[.lst []])/\∀k S2,W k S2->
   if k<(hi-lo).toNat then WL caps tc te S1.length dl (.int (lo+k)) S2 (W (k+1)) else Q (.ref S1.length) S2
 | _=>False
theorem CL {ta:TDA}{tc:TDT}{te:TDE}{σ:L2.St}{H:Hp}{Qv:VK}(h:up X.K Z (UA caps ta tc te) σ H Qv):Uq caps (MU (upA X.K Z ta)) (upT X.K Z0 tc) (up X.K Z0 te) σ H Qv:=by
 obtain⟨r,dl,S,Q,rs,bA,h,ret⟩:=h;unfold UA at h;refine⟨r,dl,S,_,rs,bA,h,λvs H1 r1 ds S1 x1 aC p1 q1=>?_⟩;split at q1
 .rename_i lo hi;obtain⟨v,vs',rfl,p2,p3⟩:=p1.uncons;obtain⟨v2,vs2,rfl,p4,p5⟩:=p3.uncons;have z:=p5.unnil;subst z;cases p2;cases p4;obtain⟨⟨b1,b2,b3,b4⟩,W,w0,turn⟩:=q1;refine⟨lo,hi,rfl,⟨b1,b2,b3,b4⟩,λD0 hD=>?_⟩;obtain⟨aE,x2⟩:=aC.b.push (ds:=[]) (xs:=[]) hD Rps.nil;refine⟨λk m H'=>m=(hi-lo).toNat-k/\∃r' S',Ext (r1++[D0]) r' (upd H1 D0 (.lst [])) H'/\ZV X.K r' S' H'/\W k S',⟨(hi-lo).toNat,by simp,_,_,Ext.refl,aE,w0⟩,?_⟩;rintro k m H2 ⟨em,r2,S2,x3,rb2,w2⟩;have ha2:r2[S1.length]?=some D0:=x3.adr _ _ (VF aC.len)
  have q:=turn k S2 w2;split at q
  .rename_i hk;refine .inr ⟨hk,λv' H' y'=>?_⟩;obtain⟨eH,y'⟩:=y';subst eH;subst y';have pk:Rp r2 H' (.int (lo+(k:Int))) (.int (lo+(k:Int))):=.int _;exact PC (rs.ext (x1.trans (x2.trans x3))) ha2 rb2 pk q
    λr' S' H' x' rb' w'=>⟨(hi-lo).toNat-(k+1),by omega,rfl,r',S',x3.trans x',rb',w'⟩
  .rename_i hk;exact .inl ⟨by show (hi-lo).toNat<=k;omega,ret _ H2 r2 _ S2 (x1.trans (x2.trans x3)) ⟨rb2,bA.xw.ext (x1.trans (x2.trans x3))⟩ (.ref ha2) q⟩
 .exact q1.elim
theorem Gp {x:Str}{px:Pos}{ifs:List Expr}{ta:TDA}{tc:TDT}{te:TDE}{a b:Expr}{p aL:Pos}(har:X.env.scope=ar)(hc:X.calm=true)(cs:WD sc ar x N)(hN:Hn X caps N)(hnd:(x::N).Nodup)(hg:Gl X "range")(hm:X.mg "range"=none)(ha:PDA X Z [a,b] ta)
  (ht:∀cl C s0 H0 fp pn,We (Cx.comp X sc (x::N) cl C s0 H0 fp pn) ifs tc)(he:∀cl C s0 H0 fp pn,PD (Cx.comp X sc (x::N) cl C s0 H0 fp pn) Z0 aX te)
  (hs:∀y,foldedSetIterable (.Call (.Name "range" p) [a,b] [] aL) X.env y=pure y:=by intro _;rfl)(hst:starEach [a,b] X.env=[(false,eval a X.env),(false,eval b X.env)]:=by rfl)(hst2:starEach [b] X.env=[(false,eval b X.env)]:=by rfl):
  PD X Z (.ListComp aX [⟨.Name x px,.Call (.Name "range" p) [a,b] [] aL,ifs,0⟩] sc pos) (UA caps ta tc te):=by
 subst har;exact Z6 (P6 hc cs hN hnd (tc:=upT X.K Z0 tc) (te:=up X.K Z0 te) (Gd hg hm ha hst hst2) ht he hs) λ_ _ _ h=>CL h
end
end L3
namespace Mine
open PySem PySem.Spec PyProof.Rows L2 L3
abbrev LT:Addr:=801
abbrev LP:Pos:=⟨432,32,432,73⟩
abbrev LQ:Str:="Book.to_look_at.<locals>.<lambda>"
theorem fsc {N P:List Str}{sc:Scope}(a:sc.kind=.function:=by rfl)(b:sc.isCoroutine=false:=by rfl)(c:sc.isGenerator=false:=by rfl)(d:N.Nodup:=by decide +kernel)(e:N.take P.length=P:=by rfl)(f:∀x∈P,sc.names.lookup x=some .local\/sc.names.lookup x=some .cell:=by decide +kernel)(g:∀y∈sc.names,y.2≠.free:=by decide +kernel):YF N P sc:=⟨a,b,c,d,e,f,g⟩
theorem csc {sc ar:Scope}{x:Str}{caps:List Str}(a:sc.kind=.function:=by rfl)(b:∀y∈sc.names,y.2≠.cell:=by decide +kernel)(c:∀y∈sc.names,y.2=.local->sc.names.lookup y.1=some .local:=by decide +kernel)(d:sc.names.lookup x=some .local:=by rfl)(e:∀y∈caps,sc.names.lookup y=some .free:=by decide +kernel)(f:∀y∈sc.names,y.2=.free->ar.names.lookup y.1=some .cell:=by decide +kernel):WD sc ar x caps:=⟨a,b,c,d,e,f⟩
theorem W5 {sc ar:Scope}{own caps:List Str}(a:sc.kind=.function:=by rfl)(b:∀y∈sc.names,y.2≠.cell:=by decide +kernel)(c:∀y∈sc.names,y.2=.local->sc.names.lookup y.1=some .local:=by decide +kernel)(e:∀y∈caps,sc.names.lookup y=some .free:=by decide +kernel)(f:∀y∈sc.names,y.2=.free->ar.names.lookup y.1=some .cell:=by decide +kernel):XH sc ar own caps:=⟨a,b,c,e,f⟩
abbrev Ln (sp:Sd)(n:Nat):Prop:=∀ds S Q ex,sp ds S Q ex->ds.length=n
theorem Zg {X:Cx}{x:Str}{p pos:Pos}{e:Expr}{es:List Expr}{t:TDA}{k j:Nat}{ps:List Str}{sd:Sd}{ex:Ev->Addr->Sto->Prop}(G:Fk X.prog X.w X.K X.mg X.base k x ps sd)(hr:ZG j X.A)(ha:PDA X ⟨ex,Z0.w⟩ (e::es) t)(hk:k<=j:=by decide)(hg:Gl X x:=by rfl)
  (hdb:(x==("__debug__":Str))=false:=by decide)(he:He X e es:=by rfl)(hpl:Hp1 X pos es:=by rfl):PD X ⟨ex,Z0.w⟩ (.Call (.Name x p) (e::es) [] pos) (Qd ex sd t):=PF G (hr.mono hk) Yq hg ha hdb he hpl
abbrev Te:Stmt:=XA (top 84) 4
abbrev Pk:List Str:=["self"]
theorem MK:YF ["self","waiting"] Pk (Zw Te):=fsc
abbrev Lr:List Str:=["number","many"]
abbrev Qw:Stmt:=XA (top 44) 0
abbrev Rq:List Str:=["self","one","other"]
theorem JS:YF ["self","one","other"] Rq (Zw Qw):=fsc
abbrev Gy:Stmt:=XA (top 44) 0
abbrev J2:List Str:=["self","one","other"]
abbrev Ij:Stmt:=XA (top 44) 0
abbrev Fh:List Str:=["self","one","other"]
abbrev MX:List Str:=["pair"]
abbrev OL:List Str:=["number","many"]
abbrev Rj:Stmt:=top 38
abbrev WU:List Str:=["number","many"]
theorem Sx:YF ["number","many","below"] WU (Zw Rj):=fsc
abbrev GA:List Str:=["self","x","y","a","b","grid"]
abbrev Rr:Stmt:=XA (top 44) 2
abbrev Ss:List Str:=["self","spans","slants","unknowns","grid"]
theorem PY:YF ["self","spans","slants","unknowns","grid","x","y"] Ss (Zw Rr):=fsc
abbrev FI:Stmt:=XA (top 44) 2
abbrev DS:List Str:=["self","spans","slants","unknowns","grid"]
abbrev JN:Stmt:=XA (top 44) 2
abbrev Cp:List Str:=["self","spans","slants","unknowns","grid"]
abbrev JW:List Str:=["number","place"]
abbrev DR:List Str:=["matrix","row","column"]
abbrev Pw:Stmt:=top 4
abbrev VM:List Str:=["matrix","row","column"]
theorem BE:YF ["matrix","row","column"] VM (Zw Pw):=fsc
abbrev V0:Stmt:=top 5
abbrev Vr:List Str:=["matrix"]
theorem Ox:YF ["matrix"] Vr (Zw V0):=fsc
abbrev U7:Stmt:=top 107
abbrev Rw:List Str:=[q22]
theorem XM:YF [q22,"_law_grid_here","_law_fine","_law_low","_law_wide","_law_box","_law_nodes","_law_rows_here","_law_book"] Rw (Zw U7):=fsc
theorem kfo {K:Fg}{f c:Addr}{m:Value}{n q:Str}{st:Stmt}(l:K.lookup f=some (fo n q st m c)):W.keepIn K (.ref f)=true:=by
 unfold W.keepIn;simp only[l]
theorem ifo {K:Fg}{f c:Addr}{m:Value}{n q:Str}{st:Stmt}(l:K.lookup f=some (fo n q st m c)):W.isFn K (.ref f)=true:=by
 unfold W.isFn W.typeIn;simp only[l];rfl
theorem lnc {n:Nat}{P:List Value->Prop}(h:∀a (us:List Value),us.length=n->P (a::us))(us:List Value)(e:us.length=n+1):P us:=by
 cases us with
 | nil=>cases e
 | cons a r=>exact h a r (Nat.succ.inj e)
theorem ln0 {P:List Value->Prop}(h:P []):∀us:List Value,us.length=0->P us:=λus e=>List.eq_nil_of_length_eq_zero e ▸ h
theorem ln1 {P:List Value->Prop}(h:∀a,P [a]):∀us:List Value,us.length=1->P us:=lnc λa=>ln0 (h a)
theorem ln2 {P:List Value->Prop}(h:∀a b,P [a,b]):∀us:List Value,us.length=2->P us:=lnc λa=>ln1 (h a)
theorem ln3 {P:List Value->Prop}(h:∀a b c,P [a,b,c]):∀us:List Value,us.length=3->P us:=lnc λa=>ln2 (h a)
theorem ln4 {P:List Value->Prop}(h:∀a b c d,P [a,b,c,d]):∀us:List Value,us.length=4->P us:=lnc λa=>ln3 (h a)
theorem ln5 {P:List Value->Prop}(h:∀a b c d e,P [a,b,c,d,e]):∀us:List Value,us.length=5->P us:=lnc λa=>ln4 (h a)
theorem ln6 {P:List Value->Prop}(h:∀a b c d e f,P [a,b,c,d,e,f]):∀us:List Value,us.length=6->P us:=lnc λa=>ln5 (h a)
abbrev Bn (n q:Str)(st:Stmt)(ps:List Str):Prop:=∀(kV doc pm:Value)(an:Option Addr)(cdv ct:Value)(us:List Value),us.length=ps.length->bindArgs (W.fnOf n q (W4 st) (YS st) (Zw st) .none kV doc pm an cdv ct) ⟨us,[]⟩=pure (ps.zip us)
abbrev clA (K:Fg)(n:Str)(C:Addr):Prop:=W.nsIn K mainGlobals n=some (some (.ref C))/\W.plainGet K C Str.empty=true/\W.hasDictIn K C=true/\W.plainOver K C=true/\W.findIn K (.ref C) "__setattr__"=some (some (.builtin "object.__setattr__"))/\W.makesIn K C=true/\W.keepIn K (.ref C)=true
theorem clC {K:Fg}{C:Addr}{p:Prop}(h:W.plainGet K C Str.empty=true/\W.hasDictIn K C=true/\W.plainOver K C=true/\W.findIn K (.ref C) "__setattr__"=some (some (.builtin "object.__setattr__"))/\p):Cls K C:=⟨h.1,h.2.1,h.2.2.1,h.2.2.2.1⟩
abbrev xF (v:Option (Option Value)):Addr:=match v with|some (some (.ref f))=>f|_=>0
abbrev xM (o:Option Obj):Value:=match o with|some ⟨_,_,.func d,_⟩=>d.pyModule|_=>.none
abbrev xC (o:Option Obj):Addr:=match o with|some ⟨_,_,.func d,_⟩=>xF (some (some d.code))|_=>0
abbrev fnE (K:Fg)(v:Option (Option Value))(n q:Str)(st:Stmt):Prop:=(v,K.lookup (xF v),W.codeIn K (.ref (xC (K.lookup (xF v)))) q)=(some (some (.ref (xF v))),some (fo n q st (xM (K.lookup (xF v))) (xC (K.lookup (xF v)))),true)
theorem fnU {K:Fg}{v:Option (Option Value)}{n q:Str}{st:Stmt}(a:fnE K v n q st):v=some (some (.ref (xF v)))/\K.lookup (xF v)=some (fo n q st (xM (K.lookup (xF v))) (xC (K.lookup (xF v))))/\W.codeIn K (.ref (xC (K.lookup (xF v)))) q=true:=⟨congrArg (·.1) a,congrArg (·.2.1) a,congrArg (·.2.2) a⟩
def dfo {K:Fg}{mg:Str->Option Value}{h:Heap}(X:K.In h)(G:h.Ns mainGlobals mg){n:Str}{st:Stmt}{ps:List Str}(a:fnE K (W.nsIn K mainGlobals n) n n st:=by kernel_rfl)(b:Bn n n st ps:=by first|exact λ_ _ _ _ _ _=>ln2 λ_ _=>rfl|exact λ_ _ _ _ _ _=>ln3 λ_ _ _=>rfl|exact λ_ _ _ _ _ _=>ln1 λ_=>rfl|exact λ_ _ _ _ _ _=>ln4 λ_ _ _ _=>rfl|exact λ_ _ _ _ _ _=>ln5 λ_ _ _ _ _=>rfl|exact λ_ _ _ _ _ _=>ln6 λ_ _ _ _ _ _=>rfl|exact λ_ _ _ _ _ _=>ln0 rfl):Df K mg n st ps:=⟨_,_,TJ (st:=st) (fnU a).2.1 (fnU a).2.2 (kfo (fnU a).2.1),W.mg_of X G (fnU a).1,(TJ (st:=st) (fnU a).2.1 (fnU a).2.2 (kfo (fnU a).2.1)).binds b⟩
def dmo {K:Fg}{C:Addr}{n q:Str}{st:Stmt}{ps:List Str}(a:fnE K (W.findIn K (.ref C) n) n q st:=by kernel_rfl)(b:Bn n q st ps:=by first|exact λ_ _ _ _ _ _=>ln2 λ_ _=>rfl|exact λ_ _ _ _ _ _=>ln3 λ_ _ _=>rfl|exact λ_ _ _ _ _ _=>ln1 λ_=>rfl|exact λ_ _ _ _ _ _=>ln4 λ_ _ _ _=>rfl|exact λ_ _ _ _ _ _=>ln5 λ_ _ _ _ _=>rfl|exact λ_ _ _ _ _ _=>ln6 λ_ _ _ _ _ _=>rfl|exact λ_ _ _ _ _ _=>ln0 rfl):Dm K C n q st ps:=⟨_,_,TJ (st:=st) (fnU a).2.1 (fnU a).2.2 (kfo (fnU a).2.1),⟨(fnU a).1,ifo (fnU a).2.1,kfo (fnU a).2.1⟩,(TJ (st:=st) (fnU a).2.1 (fnU a).2.2 (kfo (fnU a).2.1)).binds b⟩
theorem noU {K:Fg}{C:Addr}{f:Str}(h:W.findIn K (.ref C) f=some none:=by kernel_rfl):Ym K C f:=h
theorem clU {K:Fg}{n:Str}{C:Addr}(h:(W.nsIn K mainGlobals n,W.plainGet K C Str.empty,W.hasDictIn K C,W.plainOver K C,W.findIn K (.ref C) "__setattr__",W.makesIn K C,W.keepIn K (.ref C))=(some (some (.ref C)),true,true,true,some (some (.builtin "object.__setattr__")),true,true)):clA K n C:=⟨congrArg (·.1) h,congrArg (·.2.1) h,congrArg (·.2.2.1) h,congrArg (·.2.2.2.1) h,congrArg (·.2.2.2.2.1) h,congrArg (·.2.2.2.2.2.1) h,congrArg (·.2.2.2.2.2.2) h⟩
theorem Pd (P:Params):(kq P).lookup (nat_lit 801)=none:=by kernel_rfl
theorem in_kq {w:World}{h:Heap}(Y:(W.kHook kp ks W0).says w h):(kq w.params).In h:=λa o e=>(show (kp w.params).In h from Y) a o (by
 show List.lookup a ((nat_lit 801,_)::kq w.params)=some o;rw[zW];cases q:a==nat_lit 801 with
 | false=>exact e
 | true=>
  rw[show a=nat_lit 801 by simpa using q,Pd] at e;cases e)
theorem IA {w:World}{h:Heap}(Y:(W.kHook kp ks W0).says w h):h.get? (nat_lit 801)=some { cls:=.none,data:=.fields #[] }:=(show (kp w.params).In h from Y) _ _ (by
 show List.lookup _ ((nat_lit 801,_)::kq w.params)=_;rw[zW];rfl)
theorem cd_eq (P:Params):(kq P).lookup (nat_lit 803)=some (co "to_look_at" "Book.to_look_at" 1295 1296 1297 1299 430 1 800 801 .none .none 802 1298):=by kernel_rfl
theorem OA (P:Params)(h:Heap)(X:(kq P).In h):W.CodeHd h (nat_lit 803) (nat_lit 801):=⟨_,_,_,_,_,_,_,_,_,X _ _ (cd_eq P),rfl,rfl,rfl,rfl,rfl,rfl,rfl,rfl,⋯⟩
theorem ZA {C:Addr}{f:Str}{to:TDE}{dl:Ev}{S S1:Sto}{Q:DK}{n:Nat}{fs:List (Str×D)}{v:D}(hto:∀K:DK,K (.ref n) S1->to dl S K)(h:S1[n]?=some (.ins C fs))(hf:fs.lookup f=some v)(hq:Q v S1):S6 C f to dl S Q:=by
 unfold S6;refine hto _ ?_;simp only[X8,h,if_pos,hf];exact hq
theorem WB {C:Addr}{f:Str}{to te:TDE}{dl:Ev}{S S1 S2:Sto}{E:Xw}{n:Nat}{fs:List (Str×D)}{v:D}(hte:∀K:DK,K v S1->te dl S K)(hto:∀K:DK,K (.ref n) S2->to dl S1 K)(h:S2[n]?=some (.ins C fs))(hl:fs.length<1000)(hq:E.nx dl (S2.set n (.ins C (VB f v fs)))):Rm C f to te E dl S:=by
 unfold Rm;refine hte _ (hto _ ?_);simp only[X8,h,if_pos];exact⟨hl,hq⟩
theorem Yw {C:Addr}{m:Str}{ex:Ev->Addr->Sto->Prop}{sd:Sd}{to:TDE}{t:TDA}{dl:Ev}{S S1:Sto}{Q:DK}{n:Nat}{fs:List (Str×D)}(hto:∀K:DK,K (.ref n) S1->to dl S K)(h:S1[n]?=some (.ins C fs))(hf:fs.lookup m=none)(hq:t dl S1 λds S2=>sd (.ref n::ds) S2 Q (ex dl)):Vz C m ex sd to t dl S Q:=by
 unfold Vz;refine hto _ ?_;simp only[X8,h,if_pos];exact⟨hf,hq⟩
theorem G3 {te:TDE}{dl:Ev}{S:Sto}{Q:DK}{n:Nat}{xs:List D}(ht:∀K:DK,K (.ref n) S->te dl S K)(h:S[n]?=some (.lst xs))(hq:Q (.bl true) S):Sv "list" te dl S Q:=by
 unfold Sv;refine ht _ ?_;simp only[h];exact hq
theorem V9 {to ti te:TDE}{dl:Ev}{S:Sto}{E:Xw}{n j:Nat}{k:Int}{xs:List D}{v:D}(hte:∀K:DK,K v S->te dl S K)(hto:∀K:DK,K (.ref n) S->to dl S K)(hti:∀K:DK,K (.int k) S->ti dl S K)(h:S[n]?=some (.lst xs))(hj:ixN xs.length k=some j)(hq:E.nx dl (S.set n (.lst (xs.set j v)))):SS to ti te E dl S:=by
 unfold SS;refine hte _ (hto _ (hti _ ?_));simp only[h,hj];exact hq
theorem XC (h:S[n]?=some (.lst xs))(hq:Q (.int (xs.length:Nat)) S):irr Ub [.ref n] S Q:=by
 rw[Vl];unfold Ub;simp only[ZR h rfl];exact hq
theorem Z2 {S:Sto}{n a:Nat}{o u:Ob}(h:S[n]?=some o)(hn:a≠n):(S.set a u)[n]?=some o:=by rw[zQ hn];exact h
theorem Ys {S:Sto}{n:Nat}{o u:Ob}(h:S[n]?=some o):(S.set n u)[n]?=some u:=by
 have hk:=(zA.mp h).1;simp[hk]
theorem Zu {S:Sto}{n:Nat}{o:Ob}{T:Sto}(h:S[n]?=some o):(S++T)[n]?=some o:=by
 have hk:=(zA.mp h).1;rw[zL hk];exact h
theorem Wq (T R:Sto)(u:Ob):(T++u::R)[T.length]?=some u:=by simp
theorem Wx (T R:Sto)(u v:Ob):(T++u::R).set T.length v=T++v::R:=by simp
theorem ZY {S:Sto}{n:Nat}{o:Ob}(h:S[n]?=some o):n<S.length:=(zA.mp h).1
theorem WZ {i n:Nat}{tb:TDS}{E:Xw}{dl:Ev}{S:Sto}{o:Ob}(W:Nat->Ev->Sto->Prop)(h0:W 0 dl S)(hk:∀k dl' S',W k dl' S'->S'[n]?=some o)
  (ht:∀(k:Nat)(x:D)(dl':Ev)(S':Sto)(nx ct:Ev->Sto->Prop),(Zk o)[k]?=some x->W k dl' S'->(∀dl2 S2,W (k+1) dl2 S2->nx dl2 S2)->tb { nx:=nx,rt:=E.rt,bk:=E.nx,ct:=ct } (dl'.set i (some x)) S')(he:∀dl' S',W (Zk o).length dl' S'->E.nx dl' S')(hL:Y5 o=some o:=by rfl):
  (lAt S n).isSome=true/\∃W:Nat->Nat->Ev->Sto->Prop,(∃m,W 0 m dl S)/\∀k m dl S,W k m dl S->match lAt S n with
  | some o=>match (Zk o)[k]? with
   | some x=>tb { nx:=λdl' S'=>∃m',m'<m/\W (k+1) m' dl' S',rt:=E.rt,bk:=E.nx,ct:=λdl' S'=>∃m',m'<m/\W (k+1) m' dl' S' } (dl.set i (some x)) S
   | none=>E.nx dl S
  | none=>False:=by
 refine⟨by rw[ZR (hk _ _ _ h0) hL];rfl,λk m dl' S'=>m+k=(Zk o).length/\W k dl' S',⟨(Zk o).length,(),h0⟩,?_⟩;rintro k m dl' S' ⟨hm,w⟩;rw[ZR (hk _ _ _ w) hL];show (match (Zk o)[k]? with
   | some x=>tb { nx:=λdl' S''=>∃m',m'<m/\(m'+(k+1)=(Zk o).length/\W (k+1) dl' S''),rt:=E.rt,bk:=E.nx,ct:=λdl' S''=>∃m',m'<m/\(m'+(k+1)=(Zk o).length/\W (k+1) dl' S'') } (dl'.set i (some x)) S'
   | none=>E.nx dl' S')
 split
 .rename_i x hx;have hk:k<(Zk o).length:=(zA.mp hx).1;exact ht k x dl' S' _ _ hx w λdl2 S2 w2=>⟨m-1,(),(),w2⟩
 .rename_i hx;have hk:k=(Zk o).length:=by
   have:=yY.mp hx;lia
  exact he dl' S' (hk ▸ w)
inductive Nd where
 | number (t b:Int)|unknown (k:Int)|plus (i j:Int)|minus (i j:Int)|times (i j:Int)|power (i n:Int)
def Nd.d:Nd->D
 | .number t b=>.tup [.str "number",.int t,.int b]
 | .unknown k=>.tup [.str "unknown",.int k]
 | .plus i j=>.tup [.str "plus",.int i,.int j]
 | .minus i j=>.tup [.str "minus",.int i,.int j]
 | .times i j=>.tup [.str "times",.int i,.int j]
 | .power i n=>.tup [.str "power",.int i,.int n]
def Nd.ob (cN cU cP cM cT cW:Addr):Nd->Ob
 | .number t b=>.ins cN [("top",.int t),("bottom",.int b)]
 | .unknown k=>.ins cU [("place",.int k)]
 | .plus i j=>.ins cP [("one",.int i),("other",.int j)]
 | .minus i j=>.ins cM [("one",.int i),("other",.int j)]
 | .times i j=>.ins cT [("one",.int i),("other",.int j)]
 | .power i n=>.ins cW [("one",.int i),("many",.int n)]
def inR (m i:Int):Prop:=0<=i/\i<m
def Nd.ok (m q:Int):Nd->Prop
 | .number t b=>(1<=b/\b<=10^9)/\Int.gcd t b=1/\t.natAbs<=10^9
 | .unknown k=>inR q k
 | .plus i j=>inR m i/\inR m j
 | .minus i j=>inR m i/\inR m j
 | .times i j=>inR m i/\inR m j
 | .power i n=>inR m i/\2<=n/\n<=6
def frD (p:Int×Int):D:=.tup [.int p.1,.int p.2]
abbrev gt (vs:LI)(i:Int):Int×Int:=vs.getD i.toNat (0,1)
theorem OP (h:inR vs.length i):gt vs i∈vs:=by
 obtain⟨h0,h1⟩:=h;have hk:i.toNat<vs.length:=by lia
 have e:gt vs i=vs[i.toNat]:=by simp[gt,hk]
 rw[e];exact yO hk
theorem ZP (h:inR vs.length i):atI (vs.map frD) i=some (frD (gt vs i)):=by
 obtain⟨h0,h1⟩:=h;have hk:i.toNat<vs.length:=by lia
 have z:=YC (xs:=vs.map frD) (v:=frD (gt vs i)) (by rw[zE,zD hk];simp[gt,hk]);rw[show ((i.toNat:Nat):Int)=i by lia] at z;exact z
theorem Dh {xs:List D}{d e:D}{i:Nat}{P:Nat->D->Prop}(h:(xs++[d])[i]?=some e)(hp:∀i d,xs[i]?=some d->P i d)(hd:P xs.length d):P i e:=by
 by_cases hi:i<xs.length
 .rw[zL hi] at h;exact hp i e h
 .have hk:=(zA.mp h).1;simp at hk;have e1:i=xs.length:=by lia
  subst e1;simp at h;subst h;exact hd
theorem MV {caps:List Nat}{tl te:TDE}{dl:Ev}{S S1:Sto}{Q:DK}{n:Nat}{o:Ob}(P:Nat->D->Prop)(htl:∀K:DK,K (.ref n) S1->tl dl S K)(h1:S1[n]?=some o)(hl:(Zk o).length<=1000)
  (ht:∀(k:Nat)(x:D),(Zk o)[k]?=some x->∀(S2:Sto)(K:DK),Pre S1 S2->(∀d,P k d->K d S2)->te (some x::Z9 caps dl) S2 K)(hq:∀xs:List D,xs.length=(Zk o).length->(∀k d,xs[k]?=some d->P k d)->Q (.ref S1.length) (S1++[.lst xs]))(hL:Y5 o=some o:=by rfl):Xs caps tl Xe te dl S Q:=by
 unfold Xs;refine htl _ ⟨by rw[ZR h1 hL];rfl,λk m S2=>(∃xs:List D,S2=S1++[.lst xs]/\xs.length=k/\∀i d,xs[i]?=some d->P i d)/\m+k=(Zk o).length,⟨(Zk o).length,⟨[],rfl,rfl,λi d h=>by simp at h⟩,()⟩,?_⟩;rintro k m S2 ⟨⟨xs,rfl,hx,hp⟩,hm⟩;rw[ZR (X6 h1) hL];dsimp only;split
 .rename_i x hk;have hk':k<(Zk o).length:=(zA.mp hk).1;unfold WL Xe;refine ht k x hk _ _ Pre.refl.push λd hd=>?_
  rw[Zo];refine⟨(),m-1,(),⟨xs++[d],Vn _ _ _,by simp[hx],λi e he=>Dh he hp (hx ▸ hd)⟩,()⟩
 .rename_i hk;have hk':=yY.mp hk;exact hq xs () hp
theorem MZ {α:Type}{xs:List D}{lo hi:Option Int}:(Z8 xs lo hi).length<=xs.length:=by
 unfold L3.Z8;rw[zK,wH];lia
structure Uo (a b c d mn mx:Int):Prop where
 lo:mn=a*c\/mn=a*d\/mn=b*c\/mn=b*d
 l1:mn<=a*c
 l2:mn<=a*d
 l3:mn<=b*c
 l4:mn<=b*d
 hi:mx=a*c\/mx=a*d\/mx=b*c\/mx=b*d
 h1:a*c<=mx
 h2:a*d<=mx
 h3:b*c<=mx
 h4:b*d<=mx
theorem Uo.of {a b c d mn mx:Int}(m1:mn∈[a*c,a*d,b*c,b*d])(m2:∀y∈[a*c,a*d,b*c,b*d],mn<=y)(x1:mx∈[a*c,a*d,b*c,b*d])(x2:∀y∈[a*c,a*d,b*c,b*d],y<=mx):Uo a b c d mn mx:=by
 simp at m1 x1;exact⟨m1,m2 _ (by simp),m2 _ (by simp),m2 _ (by simp),m2 _ (by simp),x1,x2 _ (by simp),x2 _ (by simp),x2 _ (by simp),x2 _ (by simp)⟩
structure WQ (a b:Int)(n:Nat)(m M:Int):Prop where
 lo:m=a^n\/m=b^n\/(a<0/\0<b/\m=0)
 l1:m<=a^n
 l2:m<=b^n
 l3:a<0->0<b->m<=0
 hi:M=a^n\/M=b^n
 h1:a^n<=M
 h2:b^n<=M
theorem zpow (h:1<=n):(0:Int)^n=0:=by
 cases n with
 | zero=>lia
 | succ k=>rw[zU,xE]
theorem WQ.of {a b g mn mx:Int}{n:Nat}(hg:1<=g){l:List Int}(hl:l=[a^n*g,b^n*g]/\¬ (a<0/\0<b)\/l=[a^n*g,b^n*g,0^n*g]/\a<0/\0<b)(hn:1<=n)(m1:mn∈l)(m2:∀y∈l,mn<=y)(x1:mx∈l)(x2:∀y∈l,y<=mx):
  ∃m M,WQ a b n m M/\mn=m*g/\mx=M*g:=by
 have can:∀ {x y:Int},x*g<=y*g->x<=y:=λ{x y} h=>vQ h (by omega)
 rcases hl with ⟨rfl,hz⟩|⟨rfl,hz1,hz2⟩
 .simp at m1 x1;have a1:=m2 (a^n*g) (by simp)
  have a2:=m2 (b^n*g) (by simp)
  have b1:=x2 (a^n*g) (by simp)
  have b2:=x2 (b^n*g) (by simp);obtain⟨m,hm,em⟩:∃m,(m=a^n\/m=b^n)/\mn=m*g:=by
   rcases m1 with e|e
   .exact⟨_,.inl rfl,e⟩
   .exact⟨_,.inr rfl,e⟩
  obtain⟨M,hM,eM⟩:∃m,(m=a^n\/m=b^n)/\mx=m*g:=by
   rcases x1 with e|e
   .exact⟨_,.inl rfl,e⟩
   .exact⟨_,.inr rfl,e⟩
  subst em eM;exact⟨m,M,⟨hm.elim .inl λe=>.inr (.inl e),can a1,can a2,λc1 c2=>absurd ⟨c1,c2⟩ hz,hM,can b1,can b2⟩,rfl,rfl⟩
 .rw[zpow hn,vR] at m1 m2 x1 x2;simp at m1 x1;have a1:=m2 (a^n*g) (by simp)
  have a2:=m2 (b^n*g) (by simp)
  have a3:=m2 0 (by simp)
  have b1:=x2 (a^n*g) (by simp)
  have b2:=x2 (b^n*g) (by simp);obtain⟨m,hm,em⟩:∃m,(m=a^n\/m=b^n\/m=0)/\mn=m*g:=by
   rcases m1 with e|e|e
   .exact⟨_,.inl rfl,e⟩
   .exact⟨_,.inr (.inl rfl),e⟩
   .exact⟨0,.inr (.inr rfl),by rw[e,vR]⟩
  have bp:(0:Int)<=b^n:=wR (by omega)
  have bg:=yN bp (show 0<=g by omega);obtain⟨M,hM,eM⟩:∃m,(m=a^n\/m=b^n)/\mx=m*g:=by
   rcases x1 with e|e|e
   .exact⟨_,.inl rfl,e⟩
   .exact⟨_,.inr rfl,e⟩
   .exact⟨_,.inr rfl,by omega⟩
  subst em eM;refine⟨m,M,⟨?_,can a1,can a2,λ_ _=>can (by rw[vR];exact a3),hM,can b1,can b2⟩,rfl,rfl⟩;rcases hm with e|e|e
  .exact .inl e
  .exact .inr (.inl e)
  .exact .inr (.inr ⟨hz1,hz2,e⟩)
theorem VU {m g:Int}{n:Nat}(hg:1<=g)(hn:1<=n):m*g/g^n=m/g^(n-1):=by
 obtain⟨k,rfl⟩:∃k,n=k+1:=⟨n-1,()⟩;rw[zU,vS,Int.mul_ediv_mul_of_pos_left _ _ ()]
def mn4 (a b c d:Int):Int:=min (min (a*c) (a*d)) (min (b*c) (b*d))
def mx4 (a b c d:Int):Int:=max (max (a*c) (a*d)) (max (b*c) (b*d))
theorem Uo.eq {a b c d mn mx:Int}(h:Uo a b c d mn mx):mn=mn4 a b c d/\mx=mx4 a b c d:=by
 obtain⟨h0,h1,h2,h3,h4,h5,h6,h7,h8,h9⟩:=h;unfold mn4 mx4;omega
def Y3 (a b:Int)(n:Nat):Int:=if n%2=0/\a<=0/\0<=b then 0 else min (a^n) (b^n)
def Wc (a b:Int)(n:Nat):Int:=max (a^n) (b^n)
theorem S7 {n:Nat}(h:n%2=0)(x:Int):0<=x^n:=by
 obtain⟨k,rfl⟩:∃k,n=k+k:=⟨n/2,()⟩;rw[Int.pow_add];by_cases c:0<=x^k
 .exact yN c c
 .have:=yN (show 0<=-(x^k) by lia) (show 0<=-(x^k) by lia);rw[Int.neg_mul_neg] at this;exact this
theorem JU {n:Nat}(h:n%2=1){x:Int}(hx:x<0):x^n<0:=by
 obtain⟨k,rfl⟩:∃k,n=k+1:=⟨n-1,()⟩;have z:=S7 (n:=k) () x
 have nz:∀k:Nat,x^k≠0:=λk=>by
  induction k with
  | zero=>rw[xZ];decide
  | succ k ih=>rw[zU];exact Int.mul_ne_zero ih ()
 have nz:=nz k
 have:=xS (show 0<x^k by lia) (show 0 < -x by lia);lia
theorem WQ.eq {a b m M:Int}{n:Nat}(h:WQ a b n m M)(hn:1<=n):m=Y3 a b n/\M=Wc a b n:=by
 obtain⟨h0,h1,h2,h3,h4,h5,h6⟩:=h;refine⟨?_,by unfold Wc;lia⟩;unfold Y3;split
 .rename_i c;obtain⟨c1,c2,c3⟩:=c;have e1:=S7 c1 a
  have e2:=S7 c1 b;by_cases z:a<0/\0<b
  .have:=h3 z.1 z.2;lia
  .have z':a=0\/b=0:=by lia
   rcases z' with rfl|rfl
   .rw[zpow hn] at h1;lia
   .rw[zpow hn] at h2;lia
 .rename_i c;have hz:a<0->0<b->m≠0:=λa1 b1 e=>by
   by_cases p:n%2=0
   .exact c ⟨p,(),()⟩
   .have:=JU (n:=n) () a1;lia
  lia
def Nd.fw (vs bs:LI)(g:Int):Nd->Int×Int
 | .number t b=>(t*g/b,-(-(t*g)/b))
 | .unknown k=>gt bs k
 | .plus i j=>((gt vs i).1+(gt vs j).1,(gt vs i).2+(gt vs j).2)
 | .minus i j=>((gt vs i).1-(gt vs j).2,(gt vs i).2-(gt vs j).1)
 | .times i j=>(mn4 (gt vs i).1 (gt vs i).2 (gt vs j).1 (gt vs j).2/g,-(-mx4 (gt vs i).1 (gt vs i).2 (gt vs j).1 (gt vs j).2/g))
 | .power i n=>(Y3 (gt vs i).1 (gt vs i).2 n.toNat/g^(n.toNat-1),-(-Wc (gt vs i).1 (gt vs i).2 n.toNat/g^(n.toNat-1)))
def Spn (B:Nat)(vs:LI):Prop:=∀p∈vs,p.1<=p.2/\Sz B p.1/\Sz B p.2
theorem Spn.at {B:Nat}{vs:LI}(h:Spn B vs){i:Int}(hi:inR vs.length i):(gt vs i).1<=(gt vs i).2/\Sz B (gt vs i).1/\Sz B (gt vs i).2:=h _ (OP hi)
theorem Spn.mono {B C:Nat}{vs:LI}(h:Spn B vs)(hc:B<=C):Spn C vs:=λp hp=>⟨(h p hp).1,(h p hp).2.1.mono hc,(h p hp).2.2.mono hc⟩
theorem VG (hg:1<=g)(h:m<=M):m/g<=-(-M/g):=by
 have h1:=uX m (show g≠0 by lia)
 have h2:=uX (-M) (show g≠0 by lia)
 have:m/g*g<=-(-M/g)*g:=by rw[zZ];lia
 exact vQ this ()
theorem P8 (a b:Int)(n:Nat):Y3 a b n<=Wc a b n:=by
 unfold Y3 Wc;split
 .rename_i c;have:=S7 c.1 a;lia
 .lia
theorem N5 (a b c d:Int):mn4 a b c d<=mx4 a b c d:=by unfold mn4 mx4;lia
theorem Nd.fw_le (h1:Spn B vs)(h2:Spn B bs)(hg:1<=g):∀v:Nd,v.ok vs.length bs.length->(v.fw vs bs g).1<=(v.fw vs bs g).2
 | .number t b,ok=>VG ok.1.1 (zV _)
 | .unknown k,ok=>(h2.at ok).1
 | .plus i j,ok=>by
  have a:=(h1.at ok.1).1
  have b:=(h1.at ok.2).1
  show (gt vs i).1+(gt vs j).1<=(gt vs i).2+(gt vs j).2;lia
 | .minus i j,ok=>by
  have a:=(h1.at ok.1).1
  have b:=(h1.at ok.2).1
  show (gt vs i).1-(gt vs j).2<=(gt vs i).2-(gt vs j).1;lia
 | .times i j,ok=>VG hg (N5 _ _ _ _)
 | .power i n,ok=>VG (yD ()) (P8 _ _ _)
def Z5 (p q:Int×Int):Option (Int×Int):=if (if q.2<p.2 then q.2 else p.2)<(if q.1 > p.1 then q.1 else p.1) then none else some (if q.1 > p.1 then q.1 else p.1,if q.2<p.2 then q.2 else p.2)
theorem HU {p q r:Int×Int}(h:Z5 p q=some r):r.1<=r.2:=by
 have go:∀lo hi:Int,(if hi<lo then none else some (lo,hi))=some r->r.1<=r.2:=λlo hi e=>by
  split at e
  .cases e
  .rename_i c;cases e;exact vP.mp c
 exact go _ _ h
def ptD (q:Int×(Int×Int)):D:=.tup [.int q.1,.tup [.int q.2.1,.int q.2.2]]
theorem YZ {a b:TDS}{E:Xw}{dl:Ev}{S:Sto}(W:Ev->Sto->Prop)(ha:∀nx:Ev->Sto->Prop,(∀dl' S',W dl' S'->nx dl' S')->a { nx:=nx,rt:=E.rt,bk:=E.bk,ct:=E.ct } dl S)(hb:∀dl' S',W dl' S'->b E dl' S'):XX a b E dl S:=ha _ hb
theorem MG {a b c:TDS}{E:Xw}{dl:Ev}{S:Sto}(W:Ev->Sto->Prop)(ha:∀nx:Ev->Sto->Prop,(∀dl' S',W dl' S'->nx dl' S')->XX a b { nx:=nx,rt:=E.rt,bk:=E.bk,ct:=E.ct } dl S)(hb:∀dl' S',W dl' S'->c E dl' S'):XX a (XX b c) E dl S:=ha _ hb
theorem Vm (h:Sz n m)(hg:1<=g):Sz n (-(-m/g)):=(h.neg.div hg).neg
theorem Wz (ha:Sz n a)(hb:Sz n b):Sz n (min a b):=by unfold Sz at *;lia
theorem Wl (ha:Sz n a)(hb:Sz n b):Sz n (max a b):=by unfold Sz at *;lia
theorem Uy (vs:LI)(k:Nat)(p:Int×Int):(vs.map frD).set k (frD p)=(vs.set k p).map frD:=(List.map_set).symm
theorem VA {n:Nat}{i:Int}(h:inR n i):ixN n i=some i.toNat:=by
 obtain⟨h0,h1⟩:=h;unfold ixN;split<;>first|lia|rfl|(split<;>first|lia|rfl)
def Nd.wt (ws:List Nat):Nd->Nat
 | .number _ _=>1
 | .unknown _=>1
 | .plus i j=>ws.getD i.toNat 0+ws.getD j.toNat 0
 | .minus i j=>ws.getD i.toNat 0+ws.getD j.toNat 0
 | .times i j=>ws.getD i.toNat 0+ws.getD j.toNat 0
 | .power i n=>n.toNat*ws.getD i.toNat 0
structure ZE (q:Int)(ns:List Nd)(ws:List Nat):Prop where
 len:ws.length=ns.length
 ok:∀(k:Nat)(v:Nd),ns[k]?=some v->v.ok k q/\ws.getD k 0=v.wt ws/\1<=v.wt ws/\v.wt ws<=16
theorem ZE.w1 {q:Int}{ns:List Nd}{ws:List Nat}(h:ZE q ns ws){i:Int}(hi:inR ns.length i):1<=ws.getD i.toNat 0/\ws.getD i.toNat 0<=16:=by
 obtain⟨h0,h1⟩:=hi;have hk:i.toNat<ns.length:=();obtain⟨_,e,a,b⟩:=h.ok i.toNat _ (zD hk);lia
theorem ZE.w2 {q:Int}{ns:List Nd}{ws:List Nat}(h:ZE q ns ws):∀v:Nd,v.ok ns.length q->1<=v.wt ws/\v.wt ws<=96
 | .number _ _,_=>⟨zB 1,show 1<=96 by decide⟩
 | .unknown _,_=>⟨zB 1,show 1<=96 by decide⟩
 | .plus i j,ok=>by have a:=h.w1 ok.1;have b:=h.w1 ok.2;simp only[Nd.wt];lia
 | .minus i j,ok=>by have a:=h.w1 ok.1;have b:=h.w1 ok.2;simp only[Nd.wt];lia
 | .times i j,ok=>by have a:=h.w1 ok.1;have b:=h.w1 ok.2;simp only[Nd.wt];lia
 | .power i n,ok=>by
  have a:=h.w1 ok.1
  have n2:=ok.2.1
  have n6:=ok.2.2
  have m1:=wA (show 1<=n.toNat by lia) a.1
  have m2:=wA (show n.toNat<=6 by lia) a.2;simp only[Nd.wt];lia
theorem Ny (h:k<ws.length):(ws++[w]).getD k 0=ws.getD k 0:=by
 rw[zR,zR,zL h]
theorem LK (hk:k<=ws.length):∀v:Nd,v.ok k q->v.wt (ws++[w])=v.wt ws:=by
 have e:∀i:Int,inR k i->(ws++[w]).getD i.toNat 0=ws.getD i.toNat 0:=λi hi=>Ny (by have a:=hi.1;have b:=hi.2;lia)
 intro v ok;cases v with
 | number _ _=>rfl
 | unknown _=>rfl
 | plus i j=>show _+_=_+_;rw[e i ok.1,e j ok.2]
 | minus i j=>show _+_=_+_;rw[e i ok.1,e j ok.2]
 | times i j=>show _+_=_+_;rw[e i ok.1,e j ok.2]
 | power i n=>show _*_=_*_;rw[e i ok.1]
theorem ZE.snoc {q:Int}{ns:List Nd}{ws:List Nat}(h:ZE q ns ws){v:Nd}(ok:v.ok ns.length q)(h16:v.wt ws<=16):ZE q (ns++[v]) (ws++[v.wt ws]):=by
 refine⟨by simp[h.len],λk u hu=>?_⟩;by_cases hk:k<ns.length
 .rw[zL hk] at hu;obtain⟨a,b,c,d⟩:=h.ok k u hu;have e:=LK (w:=v.wt ws) (by rw[h.len];lia) u a;rw[e,Ny (by rw[h.len];exact hk)];exact⟨a,b,c,d⟩
 .have hl:=(zA.mp hu).1;simp at hl;have ek:k=ns.length:=by lia
  subst ek;simp at hu;subst hu;have e:=LK (w:=v.wt ws) (by rw[h.len];lia) v ok;rw[e];refine⟨ok,?_,(h.w2 v ok).1,h16⟩;rw[<- h.len];simp
theorem ZE.take {q:Int}{ns:List Nd}{ws:List Nat}(h:ZE q ns ws)(n:Nat):ZE q (ns.take n) (ws.take n):=by
 have e:∀k:Nat,k<n->(ws.take n).getD k 0=ws.getD k 0:=λk hk=>by
  rw[zR,zR,wG hk]
 refine⟨by simp[h.len],λk u hu=>?_⟩;have hl:=(zA.mp hu).1;rw[zK] at hl;have hk:k<n:=by lia
 rw[wG hk] at hu;obtain⟨a,b,c,d⟩:=h.ok k u hu;have e2:u.wt (ws.take n)=u.wt ws:=by
  have f:∀i:Int,inR k i->(ws.take n).getD i.toNat 0=ws.getD i.toNat 0:=λi hi=>e _ (by have:=hi.1;have:=hi.2;lia)
  cases u with
  | number _ _=>rfl
  | unknown _=>rfl
  | plus i j=>show _+_=_+_;rw[f i a.1,f j a.2]
  | minus i j=>show _+_=_+_;rw[f i a.1,f j a.2]
  | times i j=>show _+_=_+_;rw[f i a.1,f j a.2]
  | power i m=>show _*_=_*_;rw[f i a.1]
 rw[e2,e k hk];exact⟨a,b,c,d⟩
def Zl (bs:LI)(g:Int)(ns:List Nd):LI:=ns.foldl (λacc v=>acc++[v.fw acc bs g]) []
theorem TZ (bs:LI)(g:Int)(ns:List Nd)(v:Nd):Zl bs g (ns++[v])=Zl bs g ns++[v.fw (Zl bs g ns) bs g]:=by
 unfold Zl;rw[xA];rfl
theorem Yt {α:Type}{xs:List α}{k:Nat}{x:α}(h:xs[k]?=some x):xs.take (k+1)=xs.take k++[x]:=by rw[xR,h];rfl
theorem YX (bs:LI)(g:Int)(ns:List Nd):(Zl bs g ns).length=ns.length:=by
 have z:∀k,k<=ns.length->(Zl bs g (ns.take k)).length=k:=λk=>by
  induction k with
  | zero=>intro _;rfl
  | succ k ih=>
   intro hk;rw[Yt (zD (show k<ns.length by lia)),TZ];simp[ih ()]
 have:=z ns.length (zB _)
 rwa [yH] at this
theorem JI (bs:LI)(g:Int)(ns:List Nd)(k:Nat):k<=ns.length->(Zl bs g ns).take k=Zl bs g (ns.take k):=by
 have z:∀m,k<=m->m<=ns.length->(Zl bs g (ns.take m)).take k=Zl bs g (ns.take k):=λm=>by
  induction m with
  | zero=>
   intro h1 _;have:k=0:=by lia
   subst this;rfl
  | succ m ih=>
   intro h1 h2;by_cases e:k=m+1
   .subst e;rw[yM (by rw[YX,zK];lia)]
   .rw[Yt (zD (show m<ns.length by lia)),TZ,vT (by rw[YX,zK];lia)];exact ih () ()
 intro hk;have:=z ns.length hk (zB _)
 rwa [yH] at this
def SzW (ws:List Nat)(vs:LI):Prop:=∀(k:Nat)(p:Int×Int),vs[k]?=some p->p.1<=p.2/\Sz (60*ws.getD k 0-1) p.1/\Sz (60*ws.getD k 0-1) p.2
theorem SzW.at {ws:List Nat}{vs:LI}(h:SzW ws vs){i:Int}(hi:inR vs.length i):(gt vs i).1<=(gt vs i).2/\Sz (60*ws.getD i.toNat 0-1) (gt vs i).1/\Sz (60*ws.getD i.toNat 0-1) (gt vs i).2:=by
 obtain⟨h0,h1⟩:=hi;have hk:i.toNat<vs.length:=by lia
 have e:gt vs i=vs[i.toNat]:=by simp[gt,hk]
 rw[e];exact h _ _ (zD hk)
theorem fw_w (hs:SzW ws vs)(hb:Spn 51 bs)(hg:1<=g/\g<=1000000)(hw:∀i:Int,inR vs.length i->1<=ws.getD i.toNat 0):∀v:Nd,v.ok vs.length bs.length->Sz (60*v.wt ws-1) (v.fw vs bs g).1/\Sz (60*v.wt ws-1) (v.fw vs bs g).2
 | .number t b,ok=>by
  have z:Sz 52 (t*g):=(Sz.of (10^9) ok.2.2).mul (Sz.of (n:=21) (10^6) (show g.natAbs<=_ by lia));exact⟨(z.div ok.1.1).mono (show 52<=60*1-1 by decide),(Vm z ok.1.1).mono (show 52<=60*1-1 by decide)⟩
 | .unknown k,ok=>⟨(hb.at ok).2.1.mono (show 51<=60*1-1 by decide),(hb.at ok).2.2.mono (show 51<=60*1-1 by decide)⟩
 | .plus i j,ok=>by
  have a:=hs.at ok.1
  have b:=hs.at ok.2
  have p:=hw i ok.1
  have q:=hw j ok.2;exact⟨(a.2.1.add b.2.1).mono (by simp only[Nd.wt];lia),(a.2.2.add b.2.2).mono (by simp only[Nd.wt];lia)⟩
 | .minus i j,ok=>by
  have a:=hs.at ok.1
  have b:=hs.at ok.2
  have p:=hw i ok.1
  have q:=hw j ok.2;exact⟨(a.2.1.sub b.2.2).mono (by simp only[Nd.wt];lia),(a.2.2.sub b.2.1).mono (by simp only[Nd.wt];lia)⟩
 | .times i j,ok=>by
  have a:=hs.at ok.1
  have b:=hs.at ok.2
  have le:∀ {x y:Int},Sz (60*ws.getD i.toNat 0-1) x->Sz (60*ws.getD j.toNat 0-1) y->Sz (60*Nd.wt ws (.times i j)-1) (x*y):=λh1 h2=>(h1.mul h2).mono (by simp only[Nd.wt];lia)
  have l:=Wz (Wz (le a.2.1 b.2.1) (le a.2.1 b.2.2)) (Wz (le a.2.2 b.2.1) (le a.2.2 b.2.2))
  have u:=Wl (Wl (le a.2.1 b.2.1) (le a.2.1 b.2.2)) (Wl (le a.2.2 b.2.1) (le a.2.2 b.2.2));exact⟨l.div hg.1,Vm u hg.1⟩
 | .power i n,ok=>by
  have a:=hs.at ok.1
  have p:=hw i ok.1
  have n2:=ok.2.1
  have gp:(1:Int)<=g^(n.toNat-1):=yD ()
  have hn:(60*ws.getD i.toNat 0-1)*n.toNat+1<=60*Nd.wt ws (.power i n)-1:=by
   simp only[Nd.wt];rw[vU,Nat.one_mul];have m1:=wA (zB n.toNat) p;lia
  have p1:Sz (60*Nd.wt ws (.power i n)-1) ((gt vs i).1^n.toNat):=(a.2.1.pow _).mono hn
  have p2:Sz (60*Nd.wt ws (.power i n)-1) ((gt vs i).2^n.toNat):=(a.2.2.pow _).mono hn
  have l:Sz (60*Nd.wt ws (.power i n)-1) (Y3 (gt vs i).1 (gt vs i).2 n.toNat):=by
   unfold Y3;split
   .exact(Sz.of (n:=1) 0 ⋯).mono (by have:=wA (show 1<=n.toNat by lia) p;simp only[Nd.wt];lia)
   .exact Wz p1 p2
  exact⟨l.div gp,Vm (Wl p1 p2) gp⟩
theorem Spn.of_w {ws:List Nat}{vs:LI}(h:SzW ws vs)(hw:∀k:Nat,k<vs.length->ws.getD k 0<=16):Spn 1000 vs:=λp hp=>by
 obtain⟨k,hk,e⟩:=yP.mp hp;obtain⟨a,b,c⟩:=h k p (by rw[zD hk,e]);have:=hw k hk;exact⟨a,b.mono (),c.mono ()⟩
theorem Lv {q:Int}{ns:List Nd}{ws:List Nat}{bs:LI}{g:Int}(h:ZE q ns ws)(hq:q=bs.length)(hb:Spn 51 bs)(hg:1<=g/\g<=1000000):∀k,k<=ns.length->SzW ws (Zl bs g (ns.take k)):=λk=>by
 induction k with
 | zero=>intro _ i p hp;simp[Zl] at hp
 | succ k ih=>
  intro hk;have hv:=zD (show k<ns.length by lia)
  have s:=ih ()
  have ln:(Zl bs g (ns.take k)).length=k:=by rw[YX,zK];lia
  obtain⟨ok,e,_,_⟩:=h.ok k _ hv;rw[Yt hv,TZ];have okv:(ns[k]).ok (Zl bs g (ns.take k)).length bs.length:=by rw[ln,<- hq];exact ok
  have w1:∀i:Int,inR (Zl bs g (ns.take k)).length i->1<=ws.getD i.toNat 0:=λi hi=>(h.w1 (by rw[ln] at hi;exact⟨hi.1,by have:=hi.2;lia⟩)).1
  have z:=fw_w s hb hg w1 ns[k] okv
  have l:((ns[k]).fw (Zl bs g (ns.take k)) bs g).1<=((ns[k]).fw (Zl bs g (ns.take k)) bs g).2:=by
   refine Nd.fw_le (B:=6000) ?_ (hb.mono ⋯) hg.1 _ okv;intro p hp;obtain⟨i,hi,ei⟩:=yP.mp hp;obtain⟨a,b,c⟩:=s i p (by rw[zD hi,ei]);have:=(h.w1 (i:=i) ⟨(),by rw[ln] at hi;lia⟩).2;rw[zG] at this;exact⟨a,b.mono (),c.mono ()⟩
  intro i p hp;by_cases hi:i<k
  .rw[zL (by rw[ln];exact hi)] at hp;exact s i p hp
  .have hl:=(zA.mp hp).1;simp at hl;have ei:i=k:=by lia
   subst ei;rw[yL (by rw[ln];exact zB _),ln,wB] at hp;simp at hp;subst hp;rw[e];exact⟨l,z⟩
theorem Uw {q:Int}{ns:List Nd}{ws:List Nat}{bs:LI}{g:Int}(h:ZE q ns ws)(hq:q=bs.length)(hb:Spn 51 bs)(hg:1<=g/\g<=1000000)(k:Nat)(hk:k<=ns.length):Spn 1000 (Zl bs g (ns.take k)):=
 Spn.of_w (Lv h hq hb hg k hk) λi hi=>by
  rw[YX,zK] at hi;have:=(h.w1 (i:=i) ⟨(),()⟩).2
  rwa [zG] at this
theorem Xj (h:Pre S T)(hn:S.length<=n):Pre S (T.set n o):=λk u e=>by
 have hk:=(zA.mp e).1;rw[zQ ()];exact h k u e
theorem Xm (h:Pre S T)(U:Sto):Pre S (T++U):=λk u e=>Zu (h k u e)
theorem Hx {to te:TDE}{dl:Ev}{S S1 S2:Sto}{Q:DK}{n:Nat}{xs:List D}{y:D}(hto:∀K:DK,K (.ref n) S1->to dl S K)(h:S1[n]?=some (.lst xs))(hte:∀K:DK,K y S2->te dl S1 K)(h2:S2[n]?=some (.lst xs))(hl:xs.length<1000)(hq:Q .non (S2.set n (.lst (xs++[y])))):Wh to te dl S Q:=by
 unfold Wh;refine hto _ ?_;simp only[h];refine hte _ ?_;simp only[h2,if_pos hl];exact hq
theorem PV (u v:Nd):∃b,eqN 1 u.d v.d=some b:=by cases u<;>cases v<;>exact⟨_,rfl⟩
theorem EZ (u:Nd):eqN 1 u.d u.d=some true:=by cases u<;>simp[Nd.d,eqN,L3.eqT,eqL,eqF]
theorem SX (v:Nd):∀ns:List Nd,∃b,Y8 (eqN 1) (ns.map Nd.d) v.d=some b
 | []=>⟨false,rfl⟩
 | u::us=>by
  obtain⟨b,e⟩:=PV u v;obtain⟨c,e2⟩:=SX v us;refine⟨b||c,?_⟩;show (match eqN 1 u.d v.d,Y8 (eqN 1) (us.map Nd.d) v.d with|some b,some c=>some (b||c)|_,_=>none)=_;rw[e,e2]
theorem Ee {v:Nd}{ns:List Nd}{n:Nat}{S:Sto}{Q:DK}(h:S[n]?=some (.lst (ns.map Nd.d)))(hq:∀b:Bool,Q (.bl b) S):Y4 (wIn 1 true) v.d (.ref n) S Q:=by
 obtain⟨b,e⟩:=SX v ns;rw[XY];unfold wIn;simp only[ZR h rfl,Zk,e];exact hq _
def wtD (w:Nat):D:=.int (w:Int)
theorem WN {ws:List Nat}{i:Int}(h:inR ws.length i):atI (ws.map wtD) i=some (.int ((ws.getD i.toNat 0:Nat):Int)):=by
 obtain⟨h0,h1⟩:=h;have hk:i.toNat<ws.length:=by lia
 have z:=YC (xs:=ws.map wtD) (v:=wtD (ws.getD i.toNat 0)) (by rw[zE,zD hk];simp[hk]);rw[show ((i.toNat:Nat):Int)=i by lia] at z;exact z
theorem Ew (q:Nat):ZE q ((List.range q).map λ(k:Nat)=>Nd.unknown (k:Int)) ((List.range q).map λ_=>1):=by
 refine⟨by simp,λk v hv=>?_⟩;have hl:=(zA.mp hv).1;simp at hl;rw[zE,wU hl] at hv;cases hv;refine⟨⟨(),()⟩,?_,zB _,show 1<=16 by decide⟩;simp[Nd.wt,hl]
theorem JV {u v:Nd}(h:eqN 1 u.d v.d=some true):u=v:=by
 cases u<;>cases v<;>simp[Nd.d,eqN,L3.eqT,eqL,eqF] at h
 all_goals first|(obtain⟨rfl,rfl⟩:=h;rfl)|(subst h;rfl)|exact absurd h.1 ⋯
theorem R6 (v:Nd):∀ns:List Nd,∃o:Option Nat,Xy (eqN 1) (ns.map Nd.d) v.d=some o/\Y8 (eqN 1) (ns.map Nd.d) v.d=some o.isSome/\∀j,o=some j->ns[j]?=some v
 | []=>⟨none,rfl,rfl,λj h=>by cases h⟩
 | u::us=>by
  obtain⟨b,e⟩:=PV u v;obtain⟨o,h1,h2,h3⟩:=R6 v us;have f1:Xy (eqN 1) ((u::us).map Nd.d) v.d=(match eqN 1 u.d v.d,Xy (eqN 1) (us.map Nd.d) v.d with|some true,some _=>some (some 0)|some false,some o=>some (o.map (·+1))|_,_=>none):=rfl
  have f2:Y8 (eqN 1) ((u::us).map Nd.d) v.d=(match eqN 1 u.d v.d,Y8 (eqN 1) (us.map Nd.d) v.d with|some b,some c=>some (b||c)|_,_=>none):=rfl;rw[f1,f2,e,h1,h2];cases b with
  | true=>exact⟨some 0,rfl,rfl,λj hj=>by
    cases hj;rw[JV e];rfl⟩
  | false=>exact⟨o.map (·+1),rfl,by cases o<;>rfl,λj hj=>by
    cases o with
    | none=>cases hj
    | some i=>
     cases hj;exact h3 i rfl⟩
theorem Mx {v:Nd}{ns:List Nd}{n j:Nat}{to:TDE}{t:TDA}{dl:Ev}{S:Sto}{Q:DK}(hto:∀K:DK,K (.ref n) S->to dl S K)(ht:∀K:List D->Sto->Prop,K [v.d] S->t dl S K)(h:S[n]?=some (.lst (ns.map Nd.d)))(e:Xy (eqN 1) (ns.map Nd.d) v.d=some (some j))(hq:Q (.int (j:Int)) S):Ul 1 to t dl S Q:=by
 unfold Ul;refine hto _ ⟨by rw[ZR h rfl];rfl,ht _ ?_⟩;unfold U8;simp only[ZR h rfl,Zk,e];exact hq
theorem Tt {caps:List Nat}{ta:TDA}{te:TDE}{dl:Ev}{S S1:Sto}{Q:DK}{n n':Nat}{xs ys:List D}(g:D->D->D)(hta:∀K:List D->Sto->Prop,K [.ref n,.ref n'] S1->ta dl S K)(h1:S1[n]?=some (.lst xs))(h2:S1[n']?=some (.lst ys))(hl:xs.length<=1000)
  (ht:∀(k:Nat)(x y:D),xs[k]?=some x->ys[k]?=some y->∀(S2:Sto)(K:DK),Pre S1 S2->K (g x y) S2->te (some x::some y::Z9 caps dl) S2 K)(hq:Q (.ref S1.length) (S1++[.lst (List.zipWith g xs ys)])):Ui caps ta te dl S Q:=by
 unfold Ui;refine hta _ ⟨⟨by rw[ZR h1 rfl];rfl,by rw[ZR h2 rfl];rfl⟩,λk m S2=>S2=S1++[.lst (List.zipWith g (xs.take k) (ys.take k))]/\m+k=min xs.length ys.length,⟨min xs.length ys.length,by simp,()⟩,?_⟩;rintro k m S2 ⟨rfl,hm⟩;rw[ZR (X6 h1) rfl,ZR (X6 h2) rfl];dsimp only[Zk];split
 .rename_i x y hx hy;have hk:k<xs.length:=(zA.mp hx).1
  have hk':k<ys.length:=(zA.mp hy).1;refine ht k x y hx hy _ _ Pre.refl.push ?_;rw[Zo];refine⟨by simp;lia,m-1,(),?_,()⟩;have e:xs.take (k+1)=xs.take k++[x]:=by rw[xR,hx];rfl
  have e':ys.take (k+1)=ys.take k++[y]:=by rw[xR,hy];rfl
  rw[e,e',uY (by rw[zK,zK];lia),Vn];rfl
 .rename_i no;have hk:min xs.length ys.length<=k:=by
   by_cases l:k<min xs.length ys.length
   .exact absurd (zD ()) (no _ _ (zD ()))
   .lia
  refine⟨(),?_⟩;have e:List.zipWith g (xs.take k) (ys.take k)=List.zipWith g xs ys:=by
   rw[<- uZ,yM (by rw[wV];exact hk)]
  rw[e];exact hq
theorem LL (h:k<=m):∀ {v:Nd},v.ok k q->v.ok m q:=λ{v} ok=>by
 have z:∀i:Int,inR k i->inR m i:=λi hi=>⟨hi.1,by have:=hi.2;lia⟩
 cases v with
 | number _ _=>exact ok
 | unknown _=>exact ok
 | plus i j=>exact⟨z _ ok.1,z _ ok.2⟩
 | minus i j=>exact⟨z _ ok.1,z _ ok.2⟩
 | times i j=>exact⟨z _ ok.1,z _ ok.2⟩
 | power i n=>exact⟨z _ ok.1,ok.2⟩
theorem ET {vs:LI}{k:Nat}{i:Int}(h:inR k i):gt (vs.take k) i=gt vs i:=by
 have:=h.1
 have:=h.2;unfold gt;rw[zR,zR,wG ()]
theorem Gz {vs us:LI}{k:Nat}{i:Int}(h:inR k i)(hk:k<=vs.length):gt (vs++us) i=gt vs i:=by
 have:=h.1
 have:=h.2;unfold gt;rw[zR,zR,zL ()]
theorem O6 {vs:LI}{k:Nat}{p:Int×Int}(h:vs[k]?=some p):gt vs (k:Int)=p:=by
 unfold gt;rw[zR,zG,h];rfl
theorem Sz.pow' (h:Sz n i)(hk:1<=k):Sz (n*k) (i^k):=by
 unfold Sz at *
 rw[vL,Nat.pow_mul];exact Nat.pow_lt_pow_left h ()
theorem SzW.spn (h:SzW ws vs)(hw:∀k:Nat,k<vs.length->ws.getD k 0<=16):Spn 1000 vs:=Spn.of_w h hw
theorem G2 {vs:LI}{p:Int×Int}{k:Nat}(h:vs.length=k):gt (vs++[p]) (k:Int)=p:=by
 subst h;simp[gt]
def Pz (B:Nat)(vs:LI):Prop:=∀p∈vs,1<=p.2/\Sz B p.1/\Sz B p.2
theorem Pz.at {B:Nat}{vs:LI}(h:Pz B vs){i:Int}(hi:inR vs.length i):1<=(gt vs i).2/\Sz B (gt vs i).1/\Sz B (gt vs i).2:=h _ (OP hi)
def Nd.due (vs ps:LI):Nd->Int×Int
 | .number t b=>(t,b)
 | .unknown k=>gt ps k
 | .plus i j=>((gt vs i).1*(gt vs j).2+(gt vs j).1*(gt vs i).2,(gt vs i).2*(gt vs j).2)
 | .minus i j=>((gt vs i).1*(gt vs j).2-(gt vs j).1*(gt vs i).2,(gt vs i).2*(gt vs j).2)
 | .times i j=>((gt vs i).1*(gt vs j).1,(gt vs i).2*(gt vs j).2)
 | .power i n=>((gt vs i).1^n.toNat,(gt vs i).2^n.toNat)
def PzW (ws:List Nat)(vs:LI):Prop:=∀(k:Nat)(p:Int×Int),vs[k]?=some p->1<=p.2/\Sz (112*ws.getD k 0-2) p.1/\Sz (112*ws.getD k 0-2) p.2
theorem PzW.at {ws:List Nat}{vs:LI}(h:PzW ws vs){i:Int}(hi:inR vs.length i):1<=(gt vs i).2/\Sz (112*ws.getD i.toNat 0-2) (gt vs i).1/\Sz (112*ws.getD i.toNat 0-2) (gt vs i).2:=by
 obtain⟨h0,h1⟩:=hi;have hk:i.toNat<vs.length:=by lia
 have e:gt vs i=vs[i.toNat]:=by simp[gt,hk]
 rw[e];exact h _ _ (zD hk)
theorem due_w (hs:PzW ws vs)(hp:Pz 110 ps)(hw:∀i:Int,inR vs.length i->1<=ws.getD i.toNat 0):∀v:Nd,v.ok vs.length ps.length->1<=(v.due vs ps).2/\Sz (112*v.wt ws-2) (v.due vs ps).1/\Sz (112*v.wt ws-2) (v.due vs ps).2
 | .number t b,ok=>⟨ok.1.1,(Sz.of (10^9) ok.2.2).mono (show 31<=112*1-2 by decide),(Sz.of (10^9) (by have:=ok.1;show b.natAbs<=_;lia)).mono (show 31<=112*1-2 by decide)⟩
 | .unknown k,ok=>⟨(hp.at ok).1,(hp.at ok).2.1.mono (show 110<=112*1-2 by decide),(hp.at ok).2.2.mono (show 110<=112*1-2 by decide)⟩
 | .plus i j,ok=>by
  have a:=hs.at ok.1
  have b:=hs.at ok.2
  have p:=hw i ok.1
  have q:=hw j ok.2;exact⟨xS (show 0<_ by lia) (show 0<_ by lia),((a.2.1.mul b.2.2).add (b.2.1.mul a.2.2)).mono (by simp only[Nd.wt];lia),(a.2.2.mul b.2.2).mono (by simp only[Nd.wt];lia)⟩
 | .minus i j,ok=>by
  have a:=hs.at ok.1
  have b:=hs.at ok.2
  have p:=hw i ok.1
  have q:=hw j ok.2;exact⟨xS (show 0<_ by lia) (show 0<_ by lia),((a.2.1.mul b.2.2).sub (b.2.1.mul a.2.2)).mono (by simp only[Nd.wt];lia),(a.2.2.mul b.2.2).mono (by simp only[Nd.wt];lia)⟩
 | .times i j,ok=>by
  have a:=hs.at ok.1
  have b:=hs.at ok.2;exact⟨xS (show 0<_ by lia) (show 0<_ by lia),(a.2.1.mul b.2.1).mono (by simp only[Nd.wt];lia),(a.2.2.mul b.2.2).mono (by simp only[Nd.wt];lia)⟩
 | .power i n,ok=>by
  have a:=hs.at ok.1
  have p:=hw i ok.1
  have n2:=ok.2.1
  have hn:(112*ws.getD i.toNat 0-2)*n.toNat+1<=112*Nd.wt ws (.power i n)-2:=by
   simp only[Nd.wt];rw[vU];have m1:=wA (zB n.toNat) p;lia
  exact⟨yD (show 0<_ by lia),(a.2.1.pow _).mono hn,(a.2.2.pow _).mono hn⟩
def ZH (ps:LI)(ns:List Nd):LI:=ns.foldl (λacc v=>acc++[v.due acc ps]) []
theorem UB (ps:LI)(ns:List Nd)(v:Nd):ZH ps (ns++[v])=ZH ps ns++[v.due (ZH ps ns) ps]:=by
 unfold ZH;rw[xA];rfl
theorem U5 (ps:LI)(ns:List Nd):(ZH ps ns).length=ns.length:=by
 have z:∀k,k<=ns.length->(ZH ps (ns.take k)).length=k:=λk=>by
  induction k with
  | zero=>intro _;rfl
  | succ k ih=>
   intro hk;rw[Yt (zD (show k<ns.length by lia)),UB];simp[ih ()]
 have y:=z ns.length (zB _)
 rwa [yH] at y
theorem Hs (h:PzW ws vs)(lk:vs.length=k)(hp:1<=p.2/\Sz (112*ws.getD k 0-2) p.1/\Sz (112*ws.getD k 0-2) p.2):PzW ws (vs++[p]):=λi q hq=>by
 by_cases hi:i<k
 .rw[zL ()] at hq;exact h i q hq
 .have hl:=(zA.mp hq).1;simp at hl;have ei:i=k:=by lia
  subst ei;rw[yL (),lk,wB] at hq;simp at hq;subst hq;exact hp
theorem Dy {q:Int}{ns:List Nd}{ws:List Nat}(h:ZE q ns ws){k:Nat}{vs:LI}(hk:k<=ns.length)(lv:vs.length=k):∀i:Int,inR vs.length i->1<=ws.getD i.toNat 0:=λi hi=>(h.w1 ⟨hi.1,by have:=hi.2;lia⟩).1
theorem M0 {q:Int}{ns:List Nd}{ws:List Nat}{ps:LI}(h:ZE q ns ws)(hq:q=ps.length)(hp:Pz 110 ps):∀k,k<=ns.length->PzW ws (ZH ps (ns.take k)):=by
 intro k
 induction k with
 | zero=>intro _ i p hp;simp[ZH] at hp
 | succ k ih=>
  intro hk;have hv:=zD (show k<ns.length by lia)
  have s:=ih ()
  have ln:(ZH ps (ns.take k)).length=k:=by rw[U5,zK];lia
  obtain⟨ok,e,_,_⟩:=h.ok k _ hv;rw[Yt hv,UB];refine Hs s ln ?_;rw[e];exact due_w s hp (Dy h () ln) _ (by rw[ln,<- hq];exact ok)
theorem Pz.of_w {ws:List Nat}{vs:LI}(h:PzW ws vs)(hw:∀k:Nat,k<vs.length->ws.getD k 0<=16):Pz 1800 vs:=λp hp=>by
 obtain⟨k,hk,e⟩:=yP.mp hp;obtain⟨a,b,c⟩:=h k p (by rw[zD hk,e]);have:=hw k hk;exact⟨a,b.mono (),c.mono ()⟩
theorem Fq {v:Nd}{ns:List Nd}{n:Nat}{S:Sto}{Q:DK}{o:Option Nat}(h:S[n]?=some (.lst (ns.map Nd.d)))(e:Y8 (eqN 1) (ns.map Nd.d) v.d=some o.isSome)(hq:Q (.bl (!o.isSome)) S):Y4 (wIn 1 true) v.d (.ref n) S Q:=by
 rw[XY];unfold wIn;simp only[ZR h rfl,Zk,e];exact hq
theorem any_some:∀ {ns:List Nd} {k:Nat},ns[k]?=some v->Y8 (eqN 1) (ns.map Nd.d) v.d≠some (none:Option Nat).isSome
 | [],k,h=>by simp at h
 | u::us,0,h=>by
  have e:u=v:=by simpa using h
  subst e;show (match eqN 1 u.d u.d,Y8 (eqN 1) (us.map Nd.d) u.d with|some b,some c=>some (b||c)|_,_=>none)≠_;obtain⟨c,hc⟩:=SX u us;rw[EZ,hc];simp
 | u::us,k+1,h=>by
  have ih:=any_some (by simpa using h)
  show (match eqN 1 u.d v.d,Y8 (eqN 1) (us.map Nd.d) v.d with|some b,some c=>some (b||c)|_,_=>none)≠_;obtain⟨b,hb⟩:=PV u v;obtain⟨c,hc⟩:=SX v us;rw[hc] at ih;rw[hb,hc];cases c
  .exact absurd rfl ih
  .simp
theorem Lc {vs us ps:LI}{k:Nat}{q:Int}(h:∀i:Int,inR k i->gt vs i=gt us i):∀v:Nd,v.ok k q->v.due vs ps=v.due us ps
 | .number _ _,_=>rfl
 | .unknown _,_=>rfl
 | .plus i j,ok=>by simp only[Nd.due,h i ok.1,h j ok.2]
 | .minus i j,ok=>by simp only[Nd.due,h i ok.1,h j ok.2]
 | .times i j,ok=>by simp only[Nd.due,h i ok.1,h j ok.2]
 | .power i n,ok=>by simp only[Nd.due,h i ok.1]
theorem NJ (P:LI)(ns:List Nd):∀ms:List Nd,∃r,ZH P (ns++ms)=ZH P ns++r
 | []=>⟨[],by rw[xH,xH]⟩
 | v::ms=>by
  obtain⟨r,e⟩:=NJ P (ns++[v]) ms;rw[xD] at e;refine⟨v.due (ZH P ns) P::r,?_⟩;rw[show ns++v::ms=ns++([v]++ms) from rfl,e,UB,xD];rfl
theorem Q7 {P:LI}{ns ms:List Nd}{i:Int}(h:inR ns.length i):gt (ZH P (ns++ms)) i=gt (ZH P ns) i:=by
 obtain⟨r,e⟩:=NJ P ns ms;rw[e];exact Gz h (by rw[U5];exact zB _)
theorem L6 {P:LI}{ns:List Nd}{ws:List Nat}{q:Int}{j:Nat}{v:Nd}(net:ZE q ns ws)(h:ns[j]?=some v):gt (ZH P ns) (j:Int)=v.due (ZH P ns) P:=by
 have hj:=(zA.mp h).1
 have e:ns=ns.take (j+1)++ns.drop (j+1):=(vC _ _).symm
 have e2:ns=ns.take j++ns.drop j:=(vC _ _).symm
 have l:(ns.take (j+1)).length=j+1:=by rw[zK];lia
 have lj:(ns.take j).length=j:=by rw[zK];lia
 have g1:gt (ZH P ns) (j:Int)=gt (ZH P (ns.take (j+1))) (j:Int):=by
  have z:=Q7 (P:=P) (ms:=ns.drop (j+1)) (i:=(j:Int)) ⟨(),by rw[l];lia⟩;rw[<- e] at z;exact z
 rw[g1,Yt h,UB,G2 (by rw[U5,lj])];refine Lc (λi hi=>?_) v (net.ok j v h).1;have z:=Q7 (P:=P) (ms:=ns.drop j) (by rw[lj];exact hi);rw[<- e2] at z;exact z.symm
theorem J8 {ws us:List Nat}{i:Nat}(h:i<ws.length):(ws++us).getD i 0=ws.getD i 0:=by rw[zR,zR,zL h]
structure Gr (q a c:Nat)(S:Sto)(ns:List Nd)(ws:List Nat)(T:Sto)(ns':List Nd)(ws':List Nat):Prop where
 net:ZE q ns' ws'
 pn:∃ms,ns'=ns++ms/\ms.length<=c
 pw:∃us,ws'=ws++us
 nd:T[a]?=some (.lst (ns'.map Nd.d))
 len:S.length<=T.length
 kp:∀(x:Nat)(o:Ob),x≠a->S[x]?=some o->T[x]?=some o
theorem Gr.refl {q a:Nat}{S:Sto}{ns:List Nd}{ws:List Nat}(net:ZE q ns ws)(h:S[a]?=some (.lst (ns.map Nd.d))):Gr q a 0 S ns ws S ns ws:=⟨net,⟨[],by simp,by simp⟩,⟨[],by simp⟩,h,zB _,λ_ _ _ e=>e⟩
theorem Gr.trans {q a c d:Nat}{S T U:Sto}{ns ns' ns2:List Nd}{ws ws' ws2:List Nat}(h:Gr q a c S ns ws T ns' ws')(k:Gr q a d T ns' ws' U ns2 ws2):Gr q a (c+d) S ns ws U ns2 ws2:=by
 obtain⟨n1,⟨ms,rfl,l1⟩,⟨us,rfl⟩,a1,e1,k1⟩:=h;obtain⟨n2,⟨ms2,rfl,l2⟩,⟨us2,rfl⟩,a2,e2,k2⟩:=k;exact⟨n2,⟨ms++ms2,by rw[xD],by rw[yB];lia⟩,⟨us++us2,by rw[xD]⟩,a2,(),λx o hx e=>k2 x o hx (k1 x o hx e)⟩
theorem Gr.mono {q a c d:Nat}{S T:Sto}{ns ns':List Nd}{ws ws':List Nat}(h:Gr q a c S ns ws T ns' ws')(l:c<=d):Gr q a d S ns ws T ns' ws':=by
 obtain⟨n1,⟨ms,e,l1⟩,u,a1,e1,k1⟩:=h;exact⟨n1,⟨ms,e,()⟩,u,a1,e1,k1⟩
theorem Gr.ln {q a c:Nat}{S T:Sto}{ns ns':List Nd}{ws ws':List Nat}(h:Gr q a c S ns ws T ns' ws'):ns.length<=ns'.length/\ns'.length<=ns.length+c:=by
 obtain⟨n1,⟨ms,rfl,l1⟩,_⟩:=h;rw[yB];lia
theorem Gr.wt {q a c:Nat}{S T:Sto}{ns ns':List Nd}{ws ws':List Nat}(h:Gr q a c S ns ws T ns' ws')(net:ZE q ns ws){i:Nat}(hi:i<ns.length):ws'.getD i 0=ws.getD i 0:=by
 obtain⟨us,rfl⟩:=h.pw;exact J8 (by rw[net.len];exact hi)
theorem Gr.due {q a c:Nat}{S T:Sto}{ns ns':List Nd}{ws ws':List Nat}(h:Gr q a c S ns ws T ns' ws')(P:LI){i:Nat}(hi:i<ns.length):gt (ZH P ns') (i:Int)=gt (ZH P ns) (i:Int):=by
 obtain⟨ms,rfl,_⟩:=h.pn;exact Q7 ⟨(),()⟩
theorem Gr.put {q a c n:Nat}{S T:Sto}{ns ns':List Nd}{ws ws':List Nat}{o:Ob}(h:Gr q a c S ns ws T ns' ws')(ha:n≠a)(hn:S.length<=n):Gr q a c S ns ws (T.set n o) ns' ws':=by
 obtain⟨n1,pn,pw,a1,e1,k1⟩:=h;refine⟨n1,pn,pw,Z2 a1 ha,by rw[yA];exact e1,λx u hx e=>Z2 (k1 x u hx e) ?_⟩;have:=ZY e;lia
theorem Gr.push {q a:Nat}{S:Sto}{ns:List Nd}{ws:List Nat}(net:ZE q ns ws)(h:S[a]?=some (.lst (ns.map Nd.d)))(U:Sto):Gr q a 0 S ns ws (S++U) ns ws:=⟨net,⟨[],by simp,by simp⟩,⟨[],by simp⟩,Zu h,by simp,λ_ _ _ e=>Zu e⟩
structure Zr (P:LI)(ns:List Nd)(ws:List Nat)(w i:Nat):Prop where
 lt:i<ns.length
 wt:ws.getD i 0<=w
 due:(gt (ZH P ns) (i:Int)).1=0
theorem KO {q a c:Nat}{S T:Sto}{ns ns':List Nd}{ws ws':List Nat}(h:Gr q a c S ns ws T ns' ws')(net:ZE q ns ws){v:Nd}(ok:v.ok ns.length q):v.wt ws'=v.wt ws:=by
 have z:∀i:Int,inR (ns.length:Nat) i->ws'.getD i.toNat 0=ws.getD i.toNat 0:=λi hi=>by
  have h0:=hi.1
  have h1:=hi.2;exact h.wt net ()
 cases v with
 | number _ _=>rfl
 | unknown _=>rfl
 | plus i j=>show ws'.getD i.toNat 0+ws'.getD j.toNat 0=ws.getD i.toNat 0+ws.getD j.toNat 0;rw[z i ok.1,z j ok.2]
 | minus i j=>show ws'.getD i.toNat 0+ws'.getD j.toNat 0=ws.getD i.toNat 0+ws.getD j.toNat 0;rw[z i ok.1,z j ok.2]
 | times i j=>show ws'.getD i.toNat 0+ws'.getD j.toNat 0=ws.getD i.toNat 0+ws.getD j.toNat 0;rw[z i ok.1,z j ok.2]
 | power i n=>show n.toNat*ws'.getD i.toNat 0=n.toNat*ws.getD i.toNat 0;rw[z i ok.1]
theorem IE {q a c j:Nat}{S T:Sto}{ns ns':List Nd}{ws ws':List Nat}(h:Gr q a c S ns ws T ns' ws'){v:Nd}(ok:v.ok ns.length q)(hj:ns'[j]?=some v)(P:LI):gt (ZH P ns') (j:Int)=v.due (ZH P ns) P:=by
 rw[L6 h.net hj];refine Lc (λi hi=>?_) v ok;have h0:=hi.1
 have h1:=hi.2
 have z:=h.due P (i:=i.toNat) ();exact z
def Ans (lo hi y0 y1 p q:Int):Prop:=(p*y0<=hi*q\/p*y1<=hi*q)/\(lo*q<=p*y0\/lo*q<=p*y1)
structure Yb (x0 x1:Int)(V Sp:Int->Int->Prop)(L U:Int):Prop where
 all:∀p q,0<q->x0*q<=p->p<=x1*q->V p q->L*q<=p/\p<=U*q
 lo:∃p q,Sp p q/\0<q/\x0*q<=p/\p<=x1*q/\V p q/\p<(L+1)*q
 hi:∃p q,Sp p q/\0<q/\x0*q<=p/\p<=x1*q/\V p q/\(U-1)*q<p
theorem dl (m:Int){g:Int}(hg:0<g):m/g*g<=m/\m<(m/g+1)*g:=by
 have h1:=wL m g
 have h2:=vK m (show g≠0 by lia)
 have h3:=wK m hg;lia
theorem dh (m:Int){g:Int}(hg:0<g):m<=-(-m/g)*g/\(-(-m/g)-1)*g<m:=by
 obtain⟨h1,h2⟩:=dl (-m) hg;have e1:-(-m/g)*g=-(-m/g*g):=by rw[zZ]
 have e2:(-(-m/g)-1)*g=-((-m/g+1)*g):=by grind
 lia
theorem mlr {a b c:Int}(h:a<=b)(hc:0<=c):a*c<=b*c:=xI h hc
theorem mll {a b c:Int}(h:a<=b)(hc:0<=c):c*a<=c*b:=vM h hc
theorem can {a b c:Int}(h:a*c<=b*c)(hc:0<c):a<=b:=vQ h hc
structure Low (x0 x1 lo hi lb hb L:Int):Prop where
 all:∀p q,0<q->x0*q<=p->lo*q<=p*lb->L*q<=p
 ex:∃p q,(p=x0/\q=1\/p=lo/\q=lb)/\0<q/\x0*q<=p/\p<=x1*q/\(lo*q<=p*lb/\p*hb<=hi*q)/\p<(L+1)*q
theorem VY {x0 x1 lo hi lb hb L f:Int}(hx:x0<=x1)(hl:0<=lb)(hh:0<=hb)(l0:lb=0->lo<=0)(h0:hb=0->0<=hi)(cr:lo*hb<=hi*lb)(ef:lb≠0->f=lo/lb)(hc:lb≠0->-(-lo/lb)<=x1)(hr:hb≠0->x0<=hi/hb)
  (eL:L=x0/\(lb=0\/f<=x0)\/lb≠0/\L=f/\x0<=f):Low x0 x1 lo hi lb hb L:=by
 have xh:x0*hb<=hi:=by
  by_cases z:hb=0
  .subst z;rw[xE];exact h0 rfl
  .exact xJ (mlr (hr z) hh) (dl hi ()).1
 refine⟨λp q hq h1 h2=>?_,?_⟩
 .rcases eL with ⟨rfl,_⟩|⟨z,rfl,_⟩
  .exact h1
  .have e:=ef z;subst e;have d:=mlr (dl lo (show 0<lb by lia)).1 (yK hq)
   have e:lo/lb*lb*q=lo/lb*q*lb:=by grind
   exact can (show lo/lb*q*lb<=p*lb by lia) ()
 .by_cases z:lb=0
  .refine⟨x0,1,.inl ⟨rfl,rfl⟩,(),(),(),⟨?_,()⟩,?_⟩
   .have:=l0 z;subst z;rw[xE];lia
   .rcases eL with ⟨rfl,_⟩|⟨z',_⟩
    .lia
    .exact absurd z z'
  .have lp:0<lb:=by lia
   obtain⟨d1,d2⟩:=dl lo lp;have e:=ef z;subst e;have hL:lo/lb<=L/\x0<=L:=by
    rcases eL with ⟨rfl,z'|z'⟩|⟨_,rfl,z'⟩<;>lia
   by_cases c:lo<=x0*lb
   .exact⟨x0,1,.inl ⟨rfl,rfl⟩,(),(),(),⟨(),()⟩,()⟩
   .refine⟨lo,lb,.inr ⟨rfl,rfl⟩,lp,(),?_,⟨zV _,cr⟩,?_⟩
    .exact xJ (dh lo lp).1 (mlr (hc z) hl)
    .exact tD d2 (mlr () hl)
theorem NL {x1 lo lb p q:Int}(hq:0<q)(lp:0<lb)(h:x1 < -(-lo/lb))(hp:p<=x1*q)(hv:lo*q<=p*lb):False:=by
 have d:=(dh lo lp).2
 have h1:x1*lb<=(-(-lo/lb)-1)*lb:=mlr () (yK lp)
 have h2:p*lb<=x1*q*lb:=mlr hp (yK lp)
 have h3:x1*lb*q<lo*q:=vV () hq
 have e:x1*lb*q=x1*q*lb:=by grind
 lia
theorem U3 {lo hi c d p q:Int}(h0:0<=c)(hcd:c<=d)(hd:0<d)(hq:0<q):Ans lo hi c d p q↔lo*q<=p*(if lo > 0 then d else c)/\p*(if hi<0 then d else c)<=hi*q:=by
 unfold Ans;have sl:lo > 0->0<lo*q:=λh=>xS h hq
 have sl':¬ lo > 0->lo*q<=0:=λh=>by
  have:=mlr (show lo<=0 by lia) (yK hq);lia
 have sh:hi<0->hi*q<0:=λh=>by
  have:=vV h hq;lia
 have sh':¬ hi<0->0<=hi*q:=λh=>yN () (yK hq)
 by_cases z:0<=p
 .have a1:=mll hcd z
  have a2:=yN z h0;split<;>split<;>lia
 .have b1:=mll hcd (show 0<=-p by lia)
  have b2:=yN (show 0<=-p by lia) h0;simp only[zZ] at b1 b2;split<;>split<;>lia
structure Xg (lo hi x0 x1 c d:Int):Prop where
 hz:lo<=hi
 hx:x0<=x1
 h0:0<=c
 hcd:c<=d
 hd:0<d
abbrev Z1 (lo c d:Int):Int:=if lo > 0 then d else c
abbrev ZU (hi c d:Int):Int:=if hi<0 then d else c
section
variable {lo hi x0 x1 c d:Int}
theorem Xg.cross (h:Xg lo hi x0 x1 c d):lo*ZU hi c d<=hi*Z1 lo c d:=by
 obtain⟨hz,hx,h0,hcd,hd⟩:=h;unfold ZU Z1;split<;>split
 .lia
 .have a1:=mlr hz h0
  have a2:=mll hcd (show 0<=-lo by lia);simp only[zZ] at a2;lia
 .have a1:=mlr hz h0
  have a2:=mll hcd (show 0<=hi by lia);lia
 .exact mlr hz h0
theorem Xg.l (h:Xg lo hi x0 x1 c d):0<=Z1 lo c d/\(Z1 lo c d=0->lo<=0):=by
 obtain⟨hz,hx,h0,hcd,hd⟩:=h;unfold Z1;split<;>lia
theorem Xg.h (h:Xg lo hi x0 x1 c d):0<=ZU hi c d/\(ZU hi c d=0->0<=hi):=by
 obtain⟨hz,hx,h0,hcd,hd⟩:=h;unfold ZU;split<;>lia
theorem Xg.none1 (h:Xg lo hi x0 x1 c d)(n:Z1 lo c d≠0)(e:x1 < -(-lo/Z1 lo c d)):∀p q,0<q->x0*q<=p->p<=x1*q->¬ Ans lo hi c d p q:=λp q hq _ h2 hv=>
 NL hq (by have:=h.l.1;lia) e h2 ((U3 h.h0 h.hcd h.hd hq).mp hv).1
theorem Xg.none2 (h:Xg lo hi x0 x1 c d)(n:ZU hi c d≠0)(e:hi/ZU hi c d<x0):∀p q,0<q->x0*q<=p->p<=x1*q->¬ Ans lo hi c d p q:=λp q hq h1 _ hv=>by
 have v:=((U3 h.h0 h.hcd h.hd hq).mp hv).2;refine NL (x1:=-x0) (lo:=-hi) (lb:=ZU hi c d) (p:=-p) hq (by have:=h.h.1;lia) (by rw[vW];lia) (by rw[zZ];lia) ?_;show -hi*q<=-p*ZU hi c d;rw[zZ,zZ];exact vX v
def Xq (lo hi x0 x1 c d p q:Int):Prop:=(p=x0/\q=1)\/(p=x1/\q=1)\/((p=lo\/p=hi)/\(q=c\/q=d))
theorem Xg.some (h:Xg lo hi x0 x1 c d){L U:Int}(hc:Z1 lo c d≠0->-(-lo/Z1 lo c d)<=x1)(hr:ZU hi c d≠0->x0<=hi/ZU hi c d)
  (eL:L=x0/\(Z1 lo c d=0\/lo/Z1 lo c d<=x0)\/Z1 lo c d≠0/\L=lo/Z1 lo c d/\x0<=lo/Z1 lo c d)
  (eU:U=x1/\(ZU hi c d=0\/x1<=-(-hi/ZU hi c d))\/ZU hi c d≠0/\U=-(-hi/ZU hi c d)/\-(-hi/ZU hi c d)<=x1):Yb x0 x1 (Ans lo hi c d) (Xq lo hi x0 x1 c d) L U:=by
 obtain⟨l1,l2⟩:=h.l;obtain⟨h1,h2⟩:=h.h;have cr:=h.cross
 have A:=VY h.hx l1 h1 l2 h2 cr (λ_=>rfl) hc hr eL
 have B:=VY (x0:=-x1) (x1:=-x0) (lo:=-hi) (hi:=-lo) (lb:=ZU hi c d) (hb:=Z1 lo c d) (L:=-U) (f:=-hi/ZU hi c d) (by have:=h.hx;lia) h1 l1 (λz=>by have:=h2 z;lia) (λz=>by have:=l2 z;lia)
  (by rw[zZ,zZ];exact vX cr) (λ_=>rfl) (λz=>by have:=hr z;rw[vW];lia) (λz=>by have:=hc z;lia) ()
 refine⟨λp q hq p1 p2 hv=>?_,?_,?_⟩
 .obtain⟨v1,v2⟩:=(U3 h.h0 h.hcd h.hd hq).mp hv;refine⟨A.all p q hq p1 v1,?_⟩;have:=B.all (-p) q hq (by rw[zZ];lia) (by rw[zZ,zZ];exact vX v2);rw[zZ] at this;lia
 .obtain⟨p,q,hs,hq,p1,p2,hv,t⟩:=A.ex;refine⟨p,q,?_,hq,p1,p2,(U3 h.h0 h.hcd h.hd hq).mpr hv,t⟩;unfold Xq;unfold Z1 at hs;split at hs<;>lia
 .obtain⟨p,q,hs,hq,p1,p2,hv,t⟩:=B.ex;rw[zZ] at p1 p2;have hv':lo*q<=-p*Z1 lo c d/\-p*ZU hi c d<=hi*q:=by
   simp only[zZ] at hv ⊢;exact⟨(),()⟩
  refine⟨-p,q,?_,hq,(),(),(U3 h.h0 h.hcd h.hd hq).mpr hv',?_⟩
  .unfold Xq;unfold ZU at hs;split at hs<;>lia
  .have e:(U-1)*q=-((-U+1)*q):=by grind
   lia
end
theorem Yb.mono {x0 x1 L U:Int}{V V' Sp Sp':Int->Int->Prop}(h:Yb x0 x1 V Sp L U)(hv:∀p q,0<q->(V p q↔V' p q))(hs:∀p q,0<q->Sp p q->Sp' p q):Yb x0 x1 V' Sp' L U:=by
 refine⟨λp q hq h1 h2 v=>h.all p q hq h1 h2 ((hv p q hq).mpr v),?_,?_⟩
 .obtain⟨p,q,s,hq,h1,h2,v,t⟩:=h.lo;exact⟨p,q,hs p q hq s,hq,h1,h2,(hv p q hq).mp v,t⟩
 .obtain⟨p,q,s,hq,h1,h2,v,t⟩:=h.hi;exact⟨p,q,hs p q hq s,hq,h1,h2,(hv p q hq).mp v,t⟩
abbrev NoV (x0 x1:Int)(V:Int->Int->Prop):Prop:=∀p q,0<q->x0*q<=p->p<=x1*q->¬ V p q
theorem Yb.left {x0 x1 L U:Int}{V V' Sp:Int->Int->Prop}(h:Yb x0 x1 V Sp L U)(n:NoV x0 x1 V'):Yb x0 x1 (λp q=>V p q\/V' p q) Sp L U:=by
 refine⟨λp q hq h1 h2 v=>h.all p q hq h1 h2 (v.resolve_right (n p q hq h1 h2)),?_,?_⟩
 .obtain⟨p,q,s,hq,h1,h2,v,t⟩:=h.lo;exact⟨p,q,s,hq,h1,h2,.inl v,t⟩
 .obtain⟨p,q,s,hq,h1,h2,v,t⟩:=h.hi;exact⟨p,q,s,hq,h1,h2,.inl v,t⟩
theorem Yb.right {x0 x1 L U:Int}{V V' Sp:Int->Int->Prop}(h:Yb x0 x1 V' Sp L U)(n:NoV x0 x1 V):Yb x0 x1 (λp q=>V p q\/V' p q) Sp L U:=by
 refine⟨λp q hq h1 h2 v=>h.all p q hq h1 h2 (v.resolve_left (n p q hq h1 h2)),?_,?_⟩
 .obtain⟨p,q,s,hq,h1,h2,v,t⟩:=h.lo;exact⟨p,q,s,hq,h1,h2,.inr v,t⟩
 .obtain⟨p,q,s,hq,h1,h2,v,t⟩:=h.hi;exact⟨p,q,s,hq,h1,h2,.inr v,t⟩
theorem Yb.both {x0 x1 L U L' U' l u:Int}{V V' Sp Sp':Int->Int->Prop}(h:Yb x0 x1 V Sp L U)(h':Yb x0 x1 V' Sp' L' U')(el:l=L/\L<=L'\/l=L'/\L'<=L)(eu:u=U/\U'<=U\/u=U'/\U<=U'):Yb x0 x1 (λp q=>V p q\/V' p q) (λp q=>Sp p q\/Sp' p q) l u:=by
 refine⟨λp q hq h1 h2 v=>?_,?_,?_⟩
 .have hq':=yK hq;rcases v with v|v
  .obtain⟨a,b⟩:=h.all p q hq h1 h2 v;exact⟨xJ (mlr () hq') a,xJ b (mlr () hq')⟩
  .obtain⟨a,b⟩:=h'.all p q hq h1 h2 v;exact⟨xJ (mlr () hq') a,xJ b (mlr () hq')⟩
 .rcases el with ⟨rfl,_⟩|⟨rfl,_⟩
  .obtain⟨p,q,s,hq,h1,h2,v,t⟩:=h.lo;exact⟨p,q,.inl s,hq,h1,h2,.inl v,t⟩
  .obtain⟨p,q,s,hq,h1,h2,v,t⟩:=h'.lo;exact⟨p,q,.inr s,hq,h1,h2,.inr v,t⟩
 .rcases eu with ⟨rfl,_⟩|⟨rfl,_⟩
  .obtain⟨p,q,s,hq,h1,h2,v,t⟩:=h.hi;exact⟨p,q,.inl s,hq,h1,h2,.inl v,t⟩
  .obtain⟨p,q,s,hq,h1,h2,v,t⟩:=h'.hi;exact⟨p,q,.inr s,hq,h1,h2,.inr v,t⟩
theorem Yb.le {x0 x1 L U:Int}{V Sp:Int->Int->Prop}(h:Yb x0 x1 V Sp L U):L<=U:=by
 obtain⟨p,q,s,hq,h1,h2,v,t⟩:=h.lo;obtain⟨a,b⟩:=h.all p q hq h1 h2 v;exact can (show L*q<=U*q by lia) hq
theorem Yb.within {x0 x1 L U:Int}{V Sp:Int->Int->Prop}(h:Yb x0 x1 V Sp L U):x0<=L/\U<=x1:=by
 constructor
 .obtain⟨p,q,s,hq,h1,h2,v,t⟩:=h.lo;have:=tE (show x0*q<(L+1)*q by lia) (yK hq);lia
 .obtain⟨p,q,s,hq,h1,h2,v,t⟩:=h.hi;have:=tE (show (U-1)*q<x1*q by lia) (yK hq);lia
abbrev tur (t e:Int):Int×Int:=(if e<0 then -t else t,if e<0 then -e else e)
def V4 (lo hi e:Int):LI:=if e=0 then [] else [tur lo e,tur hi e]
def Qf (lo hi x0 x1 y0 y1:Int):LI:=[(x0,1),(x1,1)]++V4 lo hi y0++V4 lo hi y1
abbrev SpY (lo hi x0 x1 y0 y1 p q:Int):Prop:=(p,q)∈Qf lo hi x0 x1 y0 y1
theorem Sg {lo hi e p q:Int}:(p,q)∈V4 lo hi e↔e≠0/\((p,q)=tur lo e\/(p,q)=tur hi e):=by
 unfold V4;split
 .simp[*]
 .rename_i h;simp[h]
theorem Ts {lo hi x0 x1 y0 y1 p q:Int}:(p,q)∈Qf lo hi x0 x1 y0 y1↔(p=x0/\q=1)\/(p=x1/\q=1)\/(p,q)∈V4 lo hi y0\/(p,q)∈V4 lo hi y1:=by
 unfold Qf;simp[yE,or_assoc]
abbrev mx0 (a:Int):Int:=if 0 > a then 0 else a
theorem Vo {lo hi y0 y1 p q:Int}(hz:lo<=hi)(hy:y0<=y1)(nb:¬ ((y0<=0/\0<=y1)/\lo<=0/\0<=hi))(hq:0<q):
  Ans lo hi y0 y1 p q↔(y1 > 0/\Ans lo hi (mx0 y0) y1 p q)\/(y0<0/\Ans (-hi) (-lo) (mx0 (-y1)) (-y0) p q):=by
 unfold Ans mx0;have sl:lo > 0->0<lo*q:=λh=>xS h hq
 have sl':¬ lo > 0->lo*q<=0:=λh=>by
  have:=mlr (show lo<=0 by omega) (yK hq);omega
 have sh:hi<0->hi*q<0:=λh=>by
  have:=vV h hq;omega
 have sh':¬ hi<0->0<=hi*q:=λh=>yN (by omega) (yK hq)
 have zz:=mlr hz (yK hq)
 have f:∀y:Int,(0<=p->0<=y->0<=p*y)/\(0<=p->y<=0->p*y<=0)/\(p<=0->0<=y->p*y<=0)/\(p<=0->y<=0->0<=p*y):=λy=>
  ⟨yN,tF,vY,vZ⟩
 obtain⟨f1,f2,f3,f4⟩:=f y0;obtain⟨g1,g2,g3,g4⟩:=f y1;simp only[uA,zZ];by_cases c1:0 > y0
 .by_cases c2:0 > -y1
  .rw[if_pos c1,if_pos c2,xE];omega
  .rw[if_pos c1,if_neg c2,xE,uA];omega
 .by_cases c2:0 > -y1
  .rw[if_neg c1,if_pos c2,xE];omega
  .rw[if_neg c1,if_neg c2,uA];have e0:y0=0:=by omega
   have e1:y1=0:=by omega
   subst e0 e1;simp only[xE];omega
theorem RG {lo hi x0 x1 y0 y1 p q:Int}(hy:y0<=y1)(hq:0<q)(h:Xq lo hi x0 x1 (mx0 y0) y1 p q):SpY lo hi x0 x1 y0 y1 p q:=by
 unfold SpY;rw[Ts,Sg,Sg];simp only[tur,Prod.mk.injEq];rcases h with h|h|⟨h1,h2⟩
 .exact .inl h
 .exact .inr (.inl h)
 .rcases h2 with e|e
  .have c:¬ 0 > y0:=λc=>by rw[mx0,if_pos c] at e;lia
   rw[mx0,if_neg c] at e;subst e;refine .inr (.inr (.inl ⟨(),?_⟩));rw[if_neg (),if_neg (),if_neg ()];lia
  .subst e;refine .inr (.inr (.inr ⟨(),?_⟩));rw[if_neg (),if_neg (),if_neg ()];lia
theorem RW {lo hi x0 x1 y0 y1 p q:Int}(hy:y0<=y1)(hq:0<q)(h:Xq (-hi) (-lo) x0 x1 (mx0 (-y1)) (-y0) p q):SpY lo hi x0 x1 y0 y1 p q:=by
 unfold SpY;rw[Ts,Sg,Sg];simp only[tur,Prod.mk.injEq];rcases h with h|h|⟨h1,h2⟩
 .exact .inl h
 .exact .inr (.inl h)
 .rcases h2 with e|e
  .have c:¬ 0 > -y1:=λc=>by rw[mx0,if_pos c] at e;lia
   rw[mx0,if_neg c] at e;subst e;refine .inr (.inr (.inr ⟨(),?_⟩));rw[if_pos (),if_pos (),if_pos ()];lia
  .subst e;refine .inr (.inr (.inl ⟨(),?_⟩));rw[if_pos (),if_pos (),if_pos ()];lia
abbrev Vy (lo hi x0 x1 y0 y1 L U:Int):Prop:=Yb x0 x1 (Ans lo hi y0 y1) (SpY lo hi x0 x1 y0 y1) L U
section
variable {lo hi x0 x1 y0 y1 L U L' U' l u:Int}
theorem Hl (hx:x0<=x1)(hy:y0<=0/\0<=y1)(hz:lo<=0/\0<=hi):Vy lo hi x0 x1 y0 y1 x0 x1:=by
 have v:∀p:Int,Ans lo hi y0 y1 p 1:=λp=>by
  unfold Ans;by_cases c:0<=p
  .have:=tF c hy.1
   have:=yN c hy.2;lia
  .have:=vZ (show p<=0 by lia) hy.1
   have:=vY (show p<=0 by lia) hy.2;lia
 refine⟨λp q hq h1 h2 _=>⟨h1,h2⟩,⟨x0,1,Ts.mpr (.inl ⟨rfl,rfl⟩),(),(),(),v _,()⟩,⟨x1,1,Ts.mpr (.inr (.inl ⟨rfl,rfl⟩)),(),(),(),v _,()⟩⟩
variable (hz:lo<=hi)(hy:y0<=y1)(nb:¬ ((y0<=0/\0<=y1)/\lo<=0/\0<=hi))
abbrev Ve (lo hi y0 y1:Int):Int->Int->Prop:=Ans lo hi (mx0 y0) y1
abbrev Vw (lo hi y0 y1:Int):Int->Int->Prop:=Ans (-hi) (-lo) (mx0 (-y1)) (-y0)
include hz hy nb
theorem J7 (c1:¬ y1 > 0)(c2:¬ y0<0):NoV x0 x1 (Ans lo hi y0 y1):=λp q hq _ _ v=>by
 rcases (Vo hz hy nb hq).mp v with ⟨h,_⟩|⟨h,_⟩
 .exact c1 h
 .exact c2 h
theorem Kw (h:NoV x0 x1 (Ve lo hi y0 y1))(c2:¬ y0<0):NoV x0 x1 (Ans lo hi y0 y1):=λp q hq h1 h2 v=>by
 rcases (Vo hz hy nb hq).mp v with ⟨_,z⟩|⟨z,_⟩
 .exact h p q hq h1 h2 z
 .exact c2 z
theorem DQ (c1:¬ y1 > 0)(h:NoV x0 x1 (Vw lo hi y0 y1)):NoV x0 x1 (Ans lo hi y0 y1):=λp q hq h1 h2 v=>by
 rcases (Vo hz hy nb hq).mp v with ⟨z,_⟩|⟨_,z⟩
 .exact c1 z
 .exact h p q hq h1 h2 z
theorem DM (h1:NoV x0 x1 (Ve lo hi y0 y1))(h2:NoV x0 x1 (Vw lo hi y0 y1)):NoV x0 x1 (Ans lo hi y0 y1):=λp q hq a b v=>by
 rcases (Vo hz hy nb hq).mp v with ⟨_,z⟩|⟨_,z⟩
 .exact h1 p q hq a b z
 .exact h2 p q hq a b z
theorem CP (c1:y1 > 0)(c2:¬ y0<0)(h:Yb x0 x1 (Ve lo hi y0 y1) (Xq lo hi x0 x1 (mx0 y0) y1) L U):Vy lo hi x0 x1 y0 y1 L U:=
 h.mono (λp q hq=>by rw[Vo hz hy nb hq];exact⟨λz=>.inl ⟨c1,z⟩,λz=>z.elim (λz=>z.2) λz=>absurd z.1 c2⟩) λp q hq s=>RG hy hq s
theorem K8 (c1:¬ y1 > 0)(c2:y0<0)(h:Yb x0 x1 (Vw lo hi y0 y1) (Xq (-hi) (-lo) x0 x1 (mx0 (-y1)) (-y0)) L U):Vy lo hi x0 x1 y0 y1 L U:=
 h.mono (λp q hq=>by rw[Vo hz hy nb hq];exact⟨λz=>.inr ⟨c2,z⟩,λz=>z.elim (λz=>absurd z.1 c1) λz=>z.2⟩) λp q hq s=>RW hy hq s
theorem QO (c1:y1 > 0)(c2:y0<0):∀p q,0<q->(Ve lo hi y0 y1 p q\/Vw lo hi y0 y1 p q↔Ans lo hi y0 y1 p q):=λp q hq=>by
 rw[Vo hz hy nb hq];exact⟨λz=>z.elim (λz=>.inl ⟨c1,z⟩) λz=>.inr ⟨c2,z⟩,λz=>z.elim (λz=>.inl z.2) λz=>.inr z.2⟩
theorem Dw (c1:y1 > 0)(c2:y0<0)(h:Yb x0 x1 (Ve lo hi y0 y1) (Xq lo hi x0 x1 (mx0 y0) y1) L U)(n:NoV x0 x1 (Vw lo hi y0 y1)):Vy lo hi x0 x1 y0 y1 L U:=
 (h.left n).mono (QO hz hy nb c1 c2) λp q hq s=>RG hy hq s
theorem Fz (c1:y1 > 0)(c2:y0<0)(n:NoV x0 x1 (Ve lo hi y0 y1))(h:Yb x0 x1 (Vw lo hi y0 y1) (Xq (-hi) (-lo) x0 x1 (mx0 (-y1)) (-y0)) L U):Vy lo hi x0 x1 y0 y1 L U:=
 (h.right n).mono (QO hz hy nb c1 c2) λp q hq s=>RW hy hq s
theorem FK (c1:y1 > 0)(c2:y0<0)(h:Yb x0 x1 (Ve lo hi y0 y1) (Xq lo hi x0 x1 (mx0 y0) y1) L U)(h':Yb x0 x1 (Vw lo hi y0 y1) (Xq (-hi) (-lo) x0 x1 (mx0 (-y1)) (-y0)) L' U'):Vy lo hi x0 x1 y0 y1 (if L'<L then L' else L) (if U' > U then U' else U):=
 (h.both h' (by split<;>lia) (by split<;>lia)).mono (QO hz hy nb c1 c2) λp q hq s=>s.elim (RG hy hq) (RW hy hq)
end
theorem IY {lo hi x0 x1 c d l0 l1 h0 h1:Int}(h:Xg lo hi x0 x1 c d)(hl:Z1 lo c d=0/\l0=x0/\l1=x0\/Z1 lo c d≠0/\l0=lo/Z1 lo c d/\l1=-(-lo/Z1 lo c d))
  (hh:ZU hi c d=0/\h0=x1/\h1=x1\/ZU hi c d≠0/\h0=hi/ZU hi c d/\h1=-(-hi/ZU hi c d)):
  (l1 > x1\/h0<x0->NoV x0 x1 (Ans lo hi c d))/\(¬ l1 > x1->¬ h0<x0->Yb x0 x1 (Ans lo hi c d) (Xq lo hi x0 x1 c d) (if x0 > l0 then x0 else l0) (if x1<h1 then x1 else h1)):=by
 have hx:=h.hx;refine⟨λz=>?_,λz1 z2=>h.some (λn=>?_) (λn=>?_) ?_ ?_⟩
 .rcases z with z|z
  .rcases hl with ⟨_,_,rfl⟩|⟨n,_,rfl⟩
   .lia
   .exact h.none1 n z
  .rcases hh with ⟨_,rfl,_⟩|⟨n,rfl,_⟩
   .lia
   .exact h.none2 n z
 .rcases hl with ⟨z,_⟩|⟨_,_,rfl⟩
  .exact absurd z n
  .lia
 .rcases hh with ⟨z,_⟩|⟨_,rfl,_⟩
  .exact absurd z n
  .lia
 .rcases hl with ⟨z,rfl,_⟩|⟨n,rfl,_⟩
  .refine .inl ⟨by split<;>lia,.inl z⟩
  .split<;>lia
 .rcases hh with ⟨z,_,rfl⟩|⟨n,_,rfl⟩
  .refine .inl ⟨by split<;>lia,.inl z⟩
  .split<;>lia
theorem if2 {a b:Prop} [Decidable a] [Decidable b] {A B:Prop}(h1:a->b->A)(h2:¬ (a/\b)->B):if (decide a&&decide b)=true then A else B:=by
 by_cases z:a/\b
 .rw[decide_eq_true z.1,decide_eq_true z.2];exact YQ (h1 z.1 z.2)
 .have e:(decide a&&decide b)=false:=by
   simp only[Bool.and_eq_false_iff,decide_eq_false_iff_not];by_cases y:a
   .exact .inr λy2=>z ⟨y,y2⟩
   .exact .inl y
  rw[e];exact Y0 (h2 z)
theorem and2 {a b:Prop} [Decidable a] [Decidable b] {Q:DK}{S:Sto}(h:Q (.bl (decide a&&decide b)) S):if decide a=true then Q (.bl (decide b)) S else Q (.bl false) S:=
 ifD (λe=>by rw[decide_eq_true e,uB] at h;exact h) (λe=>by rw[decide_eq_false e,wC] at h;exact h)
theorem Xv (a:Int):0<=mx0 a:=by unfold mx0;split<;>lia
theorem SO {a b:Int}(h:a<=b)(h0:0<=b):mx0 a<=b:=by unfold mx0;split<;>lia
theorem W3 (h:Sz 1400 a):Sz 1400 (mx0 a):=by
 unfold mx0;split
 .exact Sz.of 0 ⋯
 .exact h
theorem cut {a b c t2:TDS}{E:Xw}{dl:Ev}{S:Sto}{α:Type}(G:α->Ev)(P:α->Prop)(h:(∀a,P a->t2 E (G a) S)->XX a (XX b (XX c t2)) E dl S)(main:∀a,P a->t2 E (G a) S):XX a (XX b (XX c t2)) E dl S:=h main
theorem Lo {a b:Int}{n:Nat}(ha:0<=a)(h:a<=b):a^n<=b^n:=by
 induction n with
 | zero=>simp
 | succ n ih=>
  rw[zU,zU];exact Int.mul_le_mul ih h ha (wR ())
theorem RS {a b:Int}{n:Nat}(ha:0<=a)(h:a<b)(hn:1<=n):a^n<b^n:=by
 obtain⟨k,rfl⟩:∃k,n=k+1:=⟨n-1,()⟩;rw[zU,zU];have h1:a^k*a<=b^k*a:=xI (Lo ha ()) ha
 have h2:b^k*a<b^k*b:=Int.mul_lt_mul_of_pos_left h (yD ());lia
theorem plt {a b:Int}{n:Nat}(hb:0<=b)(h:a^n<b^n):a<b:=by
 by_cases c:a<b
 .exact c
 .have:=Lo (n:=n) hb (show b<=a by lia);lia
theorem Nk {r g:Int}(hr:0<=r)(hg:0<=g):∀k:Nat,((k:Int)+1)*g^k*r-(k:Int)*(g^k*g)<=r^k*r
 | 0=>by simp
 | k+1=>by
  have ih:=Nk hr hg k
  have m:=xI ih hr
  have sq:0<=((k:Int)+1)*g^k*((r-g)*(r-g)):=by
   refine yN (yN () (wR hg)) ?_;by_cases c:0<=r-g
   .exact yN c c
   .exact vZ () ()
  rw[zU,zU];have e:((k:Int)+1+1)*(g^k*g)*r-((k:Int)+1)*(g^k*g*g)=(((k:Int)+1)*g^k*r-(k:Int)*(g^k*g))*r-((k:Int)+1)*g^k*((r-g)*(r-g)):=by
   grind
  have e2:(((k+1:Nat):Int)+1)*(g^k*g)*r-((k+1:Nat):Int)*(g^k*g*g)=((k:Int)+1+1)*(g^k*g)*r-((k:Int)+1)*(g^k*g*g):=by
   rw[tG];rfl
  rw[e2,e];lia
theorem Ku {r g N:Int}{n:Nat}(hn:1<=n)(hr:0<=r)(hg:0<g)(h:r^n<=N):r<=(((n:Int)-1)*g+N/g^(n-1))/n:=by
 obtain⟨k,rfl⟩:∃k,n=k+1:=⟨n-1,()⟩;have t:=Nk hr (yK hg) k;rw[zU] at h;have gp:0<g^k:=yD hg
 have e0:(((k+1:Nat):Int)-1)=k:=by lia
 rw[e0,vS];have q:((k:Int)+1)*r-k*g<=N/g^k:=by
  refine(uC gp).mpr ?_;have e:(((k:Int)+1)*r-k*g)*g^k=((k:Int)+1)*g^k*r-(k:Int)*(g^k*g):=by grind
  lia
 refine(uC ()).mpr ?_;have e:r*((k+1:Nat):Int)=((k:Int)+1)*r:=by rw[xQ];rfl
 lia
theorem HD {g N:Int}{n:Nat}(hn:1<=n)(hg:0<g)(h:N<g^n):(((n:Int)-1)*g+N/g^(n-1))/n<g:=by
 obtain⟨k,rfl⟩:∃k,n=k+1:=⟨n-1,()⟩;have gp:0<g^k:=yD hg;rw[zU] at h;have e0:(((k+1:Nat):Int)-1)=k:=by lia
 rw[e0,vS];have q:N/g^k<g:=(tH gp).mpr (by rw[xQ g];exact h);refine(tH ()).mpr ?_;have e:g*((k+1:Nat):Int)=(k:Int)*g+g:=by
  rw[xQ,tG,Int.add_mul];simp
 lia
theorem Tb (h:n%2=1)(a:Int):(-a)^n=-(a^n):=by
 obtain⟨k,rfl⟩:∃k,n=2*k+1:=⟨n/2,()⟩;rw[zU,zU,uD,uD];have e:(-a)^2=a^2:=by rw[zU,zU,zU,zU];grind
 rw[e];grind
theorem Dx {n:Nat}(h:n%2=1){a b:Int}(hab:a<b):a^n<b^n:=by
 by_cases c:0<=a
 .exact RS c hab ()
 .by_cases d:0<=b
  .have h1:a^n=-((-a)^n):=by rw[Tb h,vW]
   have h2:(0:Int)<(-a)^n:=yD ()
   have h3:(0:Int)<=b^n:=wR d;lia
  .have h1:=RS (n:=n) (show 0<=-b by lia) (show -b < -a by lia) ();rw[Tb h,Tb h] at h1;lia
def Mt (n:Nat)(lo hi l h:Int):Prop:=((n%2=0/\l<0/\0<h)/\0<=hi\/¬ (n%2=0/\l<0/\0<h)/\(l^n<=hi\/h^n<=hi))/\(lo<=l^n\/lo<=h^n)
def XG (n:Nat)(N a b:Int):Prop:=b=a/\a^n=N\/b=a+1/\a^n<N/\N<b^n
structure Rts (n:Nat)(lo hi al bl ah bh:Int):Prop where
 hz:lo<=hi
 hn:1<=n
 nn:n%2=0->0<=al/\0<=ah
 up:∀t:Int,n%2=1\/0<=t->(t^n<=hi↔t<=ah)
 dn:∀t:Int,n%2=1\/0<=t->(lo<=t^n↔bl<=t)
 el:bl=al/\(bl^n=lo\/bl=0/\n%2=0)\/bl=al+1/\bl^n≠lo
 eh:bh=ah/\ah^n=hi\/bh=ah+1/\ah^n≠hi
theorem Lw {n:Nat}(hn:1<=n):(0:Int)^n=0:=by
 obtain⟨k,rfl⟩:∃k,n=k+1:=⟨n-1,()⟩;rw[zU,xE]
section
variable {n:Nat}{lo hi al bl ah bh:Int}
structure Least (n:Nat)(lo hi x0 x1 m:Int):Prop where
 a:x0<=m
 b:m<=x1
 c:Mt n lo hi x0 m
 d:∀k,x0<=k->k<m->¬ Mt n lo hi x0 k
def QF (n:Nat)(lo hi x0 x1 v:Int):Prop:=∃m,Least n lo hi x0 x1 m/\(m=x0/\v=x0\/m≠x0/\(((m-1)^n<lo/\m^n=lo\/(m-1)^n > hi/\m^n=hi)/\v=m\/¬ ((m-1)^n<lo/\m^n=lo\/(m-1)^n > hi/\m^n=hi)/\v=m-1))
end
structure Wo (n:Nat)(lo hi x0 x1 L U:Int):Prop where
 m:Mt n lo hi x0 x1
 low:∀v,QF n lo hi x0 x1 v->v=L
 he:n%2=0->∀v,QF n lo hi (-x1) (-x0) v->v=-U
 ho:n%2=1->∀v,QF n (-hi) (-lo) (-x1) (-x0) v->v=-U
 lu:L<=U
 has:∀t,x0<=t->t<=x1->lo<=t^n->t^n<=hi->L<=t/\t<=U
section
variable {n:Nat}{lo hi al bl ah bh x0 x1:Int}
end
theorem Om (hn:1<=n)(h0:0<=N):∃r:Int,0<=r/\r^n<=N/\N<(r+1)^n:=by
 have key:∀k:Nat,N<((k:Int)+1)^n->∃r:Int,0<=r/\r^n<=N/\N<(r+1)^n:=by
  intro k
  induction k with
  | zero=>exact λh=>⟨0,(),by rw[Lw hn];exact h0,by simpa using h⟩
  | succ k ih=>
   intro h;by_cases c:N<((k:Int)+1)^n
   .exact ih c
   .exact⟨(k:Int)+1,(),(),by simpa using h⟩
 refine key N.toNat ?_;have h1:N<N+1:=by lia
 have h2:(N+1)^1<=(N+1)^n:=by
  obtain⟨k,rfl⟩:∃k,n=k+1:=⟨n-1,()⟩;rw[zU (N+1) k,zU,xZ];have:0<(N+1)^k:=yD ();exact xI (show (1:Int)<=(N+1)^k by lia) ()
 have e:((N.toNat:Nat):Int)=N:=by lia
 rw[e];have e1:(N+1)^1=N+1:=by rw[zU,xZ,wW]
 lia
theorem Ni {n:Nat}{N r:Int}(h1:r^n<=N)(h2:N<(r+1)^n):(r^n=N->XG n N r r)/\(r^n≠N->XG n N r (r+1)):=
 ⟨λe=>.inl ⟨rfl,e⟩,λe=>.inr ⟨rfl,(),h2⟩⟩
theorem Dv (ho:n%2=1)(h:XG n (-N) a b):XG n N (-b) (-a):=by
 unfold XG at h ⊢;rw[Tb ho,Tb ho];rcases h with ⟨rfl,e⟩|⟨rfl,e1,e2⟩
 .exact .inl ⟨rfl,()⟩
 .exact .inr ⟨(),(),()⟩
theorem Sz.mid {n:Nat}{a b x:Int}(ha:Sz n a)(hb:Sz n b)(h1:a<=x)(h2:x<=b):Sz n x:=by
 unfold Sz at *
 generalize 2^n=B at *
 lia
theorem DN (N:Int)(h:0<=N):N<2^(Builtin.Int.intBits N):=by
 unfold Builtin.Int.intBits;split
 .rename_i z;have:N=0:=by simpa using z
  subst this;decide
 .have l:N.natAbs<2^(N.natAbs.log2+1):=Nat.lt_log2_self
  have e:((2^(N.natAbs.log2+1):Nat):Int)=2^(N.natAbs.log2+1):=by simp
  lia
theorem CT (h0:0<=N)(hn:1<=n):N<(1*2^((Builtin.Int.intBits N:Int)/n+1).toNat)^n.toNat:=by
 have b:=DN N h0;rw[wW,<- uD];refine tD b ?_;have e:(2:Int)^(((Builtin.Int.intBits N:Int)/n+1).toNat*n.toNat)=((2^(((Builtin.Int.intBits N:Int)/n+1).toNat*n.toNat):Nat):Int):=by simp
 have e2:(2:Int)^(Builtin.Int.intBits N)=((2^(Builtin.Int.intBits N):Nat):Int):=by simp
 rw[e,e2];refine Int.ofNat_le.mpr (uR ⋯ ?_);have d1:=wL (Builtin.Int.intBits N:Int) n
 have d2:=wK (Builtin.Int.intBits N:Int) (show 0<n by lia)
 have d3:=uE (show (0:Int)<=(Builtin.Int.intBits N:Int) by lia) (show 0<=n by lia)
 have m:(((((Builtin.Int.intBits N:Int)/n+1).toNat*n.toNat:Nat):Int))=n*((Builtin.Int.intBits N:Int)/n)+n:=by
  rw[tI,xK (),xK ()];grind
 lia
theorem C2 (hn:2<=n)(s:Sz 1300 N):Sz 652 (1*2^((Builtin.Int.intBits N:Int)/n+1).toNat):=by
 have b:=s.bits;rw[wW];unfold Sz;rw[vL];have e:(2:Int).natAbs=2:=rfl;refine Nat.pow_lt_pow_right ⋯ ?_;have d:(Builtin.Int.intBits N:Int)/n<=650:=by
  have h1:(Builtin.Int.intBits N:Int)/n<=(Builtin.Int.intBits N:Int)/2:=by
   refine(uC ()).mpr ?_;have d1:=wL (Builtin.Int.intBits N:Int) n
   have d3:=uE (show (0:Int)<=(Builtin.Int.intBits N:Int) by lia) (show 0<=n by lia)
   have d4:=xI hn d3;lia
  lia
 lia
theorem FA (hn:1<=n):((n-1)*g+N/g^(n-1).toNat)/n=((((n.toNat:Nat):Int)-1)*g+N/g^(n.toNat-1))/((n.toNat:Nat):Int):=by
 have e1:((n.toNat:Nat):Int)=n:=by lia
 have e2:(n-1).toNat=n.toNat-1:=by lia
 rw[e1,e2]
def bk2 (i j:Int)(f:Option (Int×Int))(s:Int×Int->Option (Int×Int)):Option (List (Int×(Int×Int))):=match f with
 | none=>none
 | some x=>match s x with
  | none=>none
  | some y=>some [(i,x),(j,y)]
theorem Le {caps:List Nat}{tl te:TDE}{dl:Ev}{S S1:Sto}{Q:DK}{n:Nat}{o:Ob}(W:Nat->List D->Sto->Prop)(htl:∀K:DK,K (.ref n) S1->tl dl S K)(h1:S1[n]?=some o)(hw:∀k ys S2,W k ys S2->S2[n]?=some o/\S2[S1.length]?=some (.lst ys)/\ys.length=k)(hl:(Zk o).length<=1000)(h0:W 0 [] (S1++[.lst []]))
  (ht:∀(k:Nat)(x:D)(ys:List D)(S2:Sto)(K:DK),(Zk o)[k]?=some x->W k ys S2->(∀y S3,S3[S1.length]?=some (.lst ys)->W (k+1) (ys++[y]) (S3.set S1.length (.lst (ys++[y])))->K y S3)->te (some x::Z9 caps dl) S2 K)
  (hq:∀ys S2,W (Zk o).length ys S2->Q (.ref S1.length) S2)(hL:Y5 o=some o:=by rfl):Xs caps tl Xe te dl S Q:=by
 unfold Xs;refine htl _ ⟨by rw[ZR h1 hL];rfl,λk m S2=>(∃ys,W k ys S2)/\m+k=(Zk o).length,⟨(Zk o).length,⟨_,h0⟩,()⟩,?_⟩;rintro k m S2 ⟨⟨ys,w⟩,hm⟩;obtain⟨w1,w2,w3⟩:=hw _ _ _ w;rw[ZR w1 hL];dsimp only;split
 .rename_i x hx;have hk:k<(Zk o).length:=(zA.mp hx).1;unfold WL Xe;refine ht k x ys S2 _ hx w λy S3 e3 w4=>?_
  rw[e3];exact⟨(),m-1,(),⟨_,w4⟩,()⟩
 .rename_i hx;have hk:k=(Zk o).length:=by
   have:=yY.mp hx;lia
  exact hq ys S2 (hk ▸ w)
theorem Kt {caps:List Nat}{ta:TDA}{te:TDE}{dl:Ev}{S S1:Sto}{Q:DK}{j:Int}(W:Nat->List D->Sto->Prop)(hta:∀K:List D->Sto->Prop,K [.int j] S1->ta dl S K)(hj:0<=j/\j<=1000)(hw:∀k ys S2,W k ys S2->S2[S1.length]?=some (.lst ys)/\ys.length=k)(h0:W 0 [] (S1++[.lst []]))
  (ht:∀(k:Nat)(ys:List D)(S2:Sto)(K:DK),k<j.toNat->W k ys S2->(∀y S3,S3[S1.length]?=some (.lst ys)->W (k+1) (ys++[y]) (S3.set S1.length (.lst (ys++[y])))->K y S3)->te (some (.int (k:Int))::Z9 caps dl) S2 K)
  (hq:∀ys S2,W j.toNat ys S2->Q (.ref S1.length) S2):WH caps ta Xe te dl S Q:=by
 unfold WH;refine hta _ ⟨⟨(),()⟩,λk S2=>k<=j.toNat/\∃ys,W k ys S2,⟨zJ _,_,h0⟩,?_⟩;rintro k S2 ⟨hk,ys,w⟩;obtain⟨w2,w3⟩:=hw _ _ _ w;split
 .rename_i c;refine ht k ys S2 _ c w λy S3 e3 w4=>?_
  rw[e3];exact⟨(),(),_,w4⟩
 .rename_i c;have hk:k=j.toNat:=by lia
  exact hq ys S2 (hk ▸ w)
theorem N8 {S T:Sto}{n:Nat}{o:Ob}(h:Pre S T)(hn:S.length<=n):Pre S (T.set n o):=λk u e=>by
 have l:=(zA.mp e).1;rw[zQ ()];exact h k u e
theorem NG {vs:List Nd}{k:Nat}{v:Nd}(h:vs[k]?=some v):atI (vs.map Nd.d) (k:Int)=some v.d:=YC (by rw[zE,h];rfl)
theorem Tu {is:List Nat}{ta:TDA}{tb:TDS}{E:Xw}{dl:Ev}{S S1:Sto}{n:Nat}{xs:List D}(W:Nat->Ev->Sto->Prop)(hta:∀K:List D->Sto->Prop,K [.ref n] S1->ta dl S K)(hk:∀k dl' S',W k dl' S'->S'[n]?=some (.lst xs))(h0:W 0 dl S1)
  (hb:∀(k:Nat)(x:D)(dl':Ev)(S':Sto)(nx ct:Ev->Sto->Prop),xs[k]?=some x->W k dl' S'->(∀dl2 S2,W (k+1) dl2 S2->nx dl2 S2)->tb { nx:=nx,rt:=E.rt,bk:=E.nx,ct:=ct } (Vt is [.int (k:Int),x] dl') S')(he:∀dl' S',W xs.length dl' S'->E.nx dl' S'):S5 is ta tb E dl S:=by
 unfold S5;refine hta _ ⟨by rw[ZR (hk _ _ _ h0) rfl];rfl,λk m dl' S'=>W k dl' S'/\k+m=xs.length,⟨xs.length,h0,()⟩,?_⟩;rintro k m dl' S' ⟨w,hm⟩;rw[ZR (hk _ _ _ w) rfl];dsimp only[Zk];split
 .rename_i x e1;have l1:=(zA.mp e1).1;exact hb k x dl' S' _ _ e1 w (λdl2 S2 w2=>⟨m-1,(),w2,()⟩)
 .rename_i e1;have l1:=yY.mp e1
  have ek:k=xs.length:=by lia
  exact⟨ek,he _ _ (ek ▸ w)⟩
theorem Tc (h0:0<=n)(h1:n<=xs.length):Z8 xs none (some n)=xs.take n.toNat:=by
 unfold L3.Z8;have e:HT.sIx xs.length xs.length (some n)=n.toNat:=by
  have z:=HT.sIx_nat xs.length xs.length n.toNat;rw[xK h0] at z;lia
 rw[e,HT.sIx_none,List.drop_zero,Nat.sub_zero]
def ptB (x l h:Int×Int):Option (Int×Int):=if l.2 > x.2 then none else if h.1<x.1 then none else some (if x.1 > l.1 then x.1 else l.1,if x.2<h.2 then x.2 else h.2)
def loE (lo:Int)(x:Int×Int)(lb:Int):Int×Int:=if lb=0 then (x.1,x.1) else (lo/lb,-(-lo/lb))
def hiE (hi:Int)(x:Int×Int)(hb:Int):Int×Int:=if hb=0 then (x.2,x.2) else (hi/hb,-(-hi/hb))
def sdS (lo hi:Int)(x:Int×Int)(c d:Int):Option (Int×Int):=ptB x (loE lo x (Z1 lo c d)) (hiE hi x (ZU hi c d))
def joS:Option (Int×Int)->Option (Int×Int)->Option (Int×Int)
 | none,o=>o
 | some p,none=>some p
 | some p,some q=>some (if q.1<p.1 then q.1 else p.1,if q.2 > p.2 then q.2 else p.2)
def btS (z x y:Int×Int)(g:Int):Option (Int×Int):=
 if (y.1<=0/\0<=y.2)/\z.1<=0/\0<=z.2 then some x else
  joS (if y.2 > 0 then sdS (z.1*g) (z.2*g) x (mx0 y.1) y.2 else none) (if y.1<0 then sdS (-(z.2*g)) (-(z.1*g)) x (mx0 (-y.2)) (-y.1) else none)
theorem Q8 {lo hi c d:Int}{x:Int×Int}(h:Xg lo hi x.1 x.2 c d):(sdS lo hi x c d=none->NoV x.1 x.2 (Ans lo hi c d))/\∀p,sdS lo hi x c d=some p->Yb x.1 x.2 (Ans lo hi c d) (Xq lo hi x.1 x.2 c d) p.1 p.2:=by
 have hl:Z1 lo c d=0/\(loE lo x (Z1 lo c d)).1=x.1/\(loE lo x (Z1 lo c d)).2=x.1\/Z1 lo c d≠0/\(loE lo x (Z1 lo c d)).1=lo/Z1 lo c d/\(loE lo x (Z1 lo c d)).2=-(-lo/Z1 lo c d):=by
  by_cases e:Z1 lo c d=0
  .exact .inl ⟨e,by rw[loE,if_pos e],by rw[loE,if_pos e]⟩
  .exact .inr ⟨e,by rw[loE,if_neg e],by rw[loE,if_neg e]⟩
 have hh:ZU hi c d=0/\(hiE hi x (ZU hi c d)).1=x.2/\(hiE hi x (ZU hi c d)).2=x.2\/ZU hi c d≠0/\(hiE hi x (ZU hi c d)).1=hi/ZU hi c d/\(hiE hi x (ZU hi c d)).2=-(-hi/ZU hi c d):=by
  by_cases e:ZU hi c d=0
  .exact .inl ⟨e,by rw[hiE,if_pos e],by rw[hiE,if_pos e]⟩
  .exact .inr ⟨e,by rw[hiE,if_neg e],by rw[hiE,if_neg e]⟩
 have z:=IY h hl hh;unfold sdS ptB;refine⟨λe=>?_,λp e=>?_⟩
 .refine z.1 ?_;split at e
  .exact .inl ‹_›
  .split at e
   .exact .inr ‹_›
   .cases e
 .split at e
  .cases e
  .split at e
   .cases e
   .cases e;exact z.2 ‹_› ‹_›
theorem Ja {z x y:Int×Int}{g:Int}(hz:z.1<=z.2)(hx:x.1<=x.2)(hy:y.1<=y.2)(hg:1<=g):(btS z x y g=none->NoV x.1 x.2 (Ans (z.1*g) (z.2*g) y.1 y.2))/\∀p,btS z x y g=some p->Vy (z.1*g) (z.2*g) x.1 x.2 y.1 y.2 p.1 p.2:=by
 have hzz:z.1*g<=z.2*g:=mlr hz ()
 have zlo:z.1*g<=0/\0<=z.2*g↔z.1<=0/\0<=z.2:=by
  constructor
  .rintro⟨a,b⟩;exact⟨can (show z.1*g<=0*g by lia) (),can (show 0*g<=z.2*g by lia) ()⟩
  .rintro⟨a,b⟩;exact⟨vY a (),yN b ()⟩
 unfold btS;split
 .rename_i c;refine⟨λe=>(by cases e),λp e=>?_⟩;cases e;exact Hl hx c.1 (zlo.mpr c.2)
 .rename_i c;have nb:¬ ((y.1<=0/\0<=y.2)/\z.1*g<=0/\0<=z.2*g):=λq=>c ⟨q.1,zlo.mp q.2⟩
  by_cases c1:y.2 > 0
  .have S1:=Q8 (x:=x) (lo:=z.1*g) (hi:=z.2*g) (c:=mx0 y.1) (d:=y.2) ⟨hzz,hx,Xv _,SO () (),c1⟩;rw[if_pos c1];by_cases c2:y.1<0
   .have S2:=Q8 (x:=x) (lo:=-(z.2*g)) (hi:=-(z.1*g)) (c:=mx0 (-y.2)) (d:=-y.1) ⟨(),hx,Xv _,SO () (),()⟩;rw[if_pos c2];generalize sdS (z.1*g) (z.2*g) x (mx0 y.1) y.2=o1 at S1;generalize sdS (-(z.2*g)) (-(z.1*g)) x (mx0 (-y.2)) (-y.1)=o2 at S2;cases o1 with
    | none=>cases o2 with
     | none=>exact⟨λ_=>DM hzz hy nb (S1.1 rfl) (S2.1 rfl),λp e=>by cases e⟩
     | some q=>exact⟨λe=>(by cases e),λp e=>by cases e;exact Fz hzz hy nb c1 c2 (S1.1 rfl) (S2.2 _ rfl)⟩
    | some p=>cases o2 with
     | none=>exact⟨λe=>(by cases e),λp e=>by cases e;exact Dw hzz hy nb c1 c2 (S1.2 _ rfl) (S2.1 rfl)⟩
     | some q=>exact⟨λe=>(by cases e),λp e=>by cases e;exact FK hzz hy nb c1 c2 (S1.2 _ rfl) (S2.2 _ rfl)⟩
   .rw[if_neg c2];generalize sdS (z.1*g) (z.2*g) x (mx0 y.1) y.2=o1 at S1;cases o1 with
    | none=>exact⟨λ_=>Kw hzz hy nb (S1.1 rfl) c2,λp e=>by cases e⟩
    | some p=>exact⟨λe=>(by cases e),λp e=>by cases e;exact CP hzz hy nb c1 c2 (S1.2 _ rfl)⟩
  .rw[if_neg c1];by_cases c2:y.1<0
   .have S2:=Q8 (x:=x) (lo:=-(z.2*g)) (hi:=-(z.1*g)) (c:=mx0 (-y.2)) (d:=-y.1) ⟨(),hx,Xv _,SO () (),()⟩;rw[if_pos c2];generalize sdS (-(z.2*g)) (-(z.1*g)) x (mx0 (-y.2)) (-y.1)=o2 at S2;cases o2 with
    | none=>exact⟨λ_=>DQ hzz hy nb c1 (S2.1 rfl),λp e=>by cases e⟩
    | some q=>exact⟨λe=>(by cases e),λp e=>by cases e;exact K8 hzz hy nb c1 c2 (S2.2 _ rfl)⟩
   .rw[if_neg c2];exact⟨λ_=>J7 hzz hy nb c1 c2,λp e=>by cases e⟩
def Sub (x:Int×Int)(o:Option (Int×Int)):Prop:=∀p,o=some p->p.1<=p.2/\x.1<=p.1/\p.2<=x.2
theorem Pl (hz:z.1<=z.2)(hx:x.1<=x.2)(hy:y.1<=y.2)(hg:1<=g):Sub x (btS z x y g):=λp e=>by
 have W:=(Ja hz hx hy hg).2 p e;exact⟨W.le,W.within.1,W.within.2⟩
noncomputable def rbS (N:Int)(n:Nat):Int:=open Classical in if h:∃r:Int,0<=r/\r^n<=N/\N<(r+1)^n then Classical.choose h else 0
theorem Pq {N r:Int}{n:Nat}(h0:0<=r)(h1:r^n<=N)(h2:N<(r+1)^n):r=rbS N n:=by
 have ex:∃r:Int,0<=r/\r^n<=N/\N<(r+1)^n:=⟨r,h0,h1,h2⟩
 have e:rbS N n=Classical.choose ex:=by unfold rbS;rw[dif_pos ex]
 obtain⟨c0,c1,c2⟩:=Classical.choose_spec ex;rw[<- e] at c0 c1 c2;have a:=plt (n:=n) (show 0<=rbS N n+1 by lia) (xX h1 c2)
 have b:=plt (n:=n) (show 0<=r+1 by lia) (xX c1 h2);lia
noncomputable def rt0 (N:Int)(n:Nat):Int×Int:=if (rbS N n)^n=N then (rbS N n,rbS N n) else (rbS N n,rbS N n+1)
noncomputable def rtS (N:Int)(n:Nat):Int×Int:=if N<0 then (-(rt0 (-N) n).2,-(rt0 (-N) n).1) else rt0 N n
theorem OZ (hn:1<=n)(h0:0<=N):XG n N (rt0 N n).1 (rt0 N n).2/\0<=(rt0 N n).1:=by
 obtain⟨r,r0,r1,r2⟩:=Om hn h0;have e:=Pq r0 r1 r2;unfold rt0;rw[<- e];split
 .exact⟨(Ni r1 r2).1 ‹_›,r0⟩
 .exact⟨(Ni r1 r2).2 ‹_›,r0⟩
theorem Ra (hn:1<=n)(h:n%2=1\/0<=N):XG n N (rtS N n).1 (rtS N n).2/\(0<=N->0<=(rtS N n).1):=by
 unfold rtS;split
 .exact⟨Dv () (OZ hn ()).1,λz=>()⟩
 .have z:=OZ (N:=N) hn ();exact⟨z.1,λ_=>z.2⟩
noncomputable def bpS (z x:Int×Int)(n g:Int):Option (Int×Int):=
 if n%2=1 then ptB x (rtS (z.1*g^(n-1).toNat) n.toNat) (rtS (z.2*g^(n-1).toNat) n.toNat) else
  if z.2*g^(n-1).toNat<0 then none else
   joS (ptB x (rtS (mx0 (z.1*g^(n-1).toNat)) n.toNat) (rtS (z.2*g^(n-1).toNat) n.toNat))
    (ptB x (-(rtS (z.2*g^(n-1).toNat) n.toNat).2,-(rtS (z.2*g^(n-1).toNat) n.toNat).1) (-(rtS (mx0 (z.1*g^(n-1).toNat)) n.toNat).2,-(rtS (mx0 (z.1*g^(n-1).toNat)) n.toNat).1))
theorem XG.ab {n:Nat}{N a b:Int}(h:XG n N a b):a<=b/\a^n<=N/\N<=b^n:=by
 unfold XG at h;rcases h with ⟨e,h⟩|⟨e,h1,h2⟩
 .subst e;lia
 .lia
theorem Qx (hx:x.1<=x.2)(hl:l.1<=l.2)(hh:h.1<=h.2)(lh:l.1<=h.2):Sub x (ptB x l h):=λp e=>by
 unfold ptB at e;split at e
 .cases e
 .split at e
  .cases e
  .cases e;dsimp only;split<;>split<;>lia
theorem CY (h1:Sub x a)(h2:Sub x b):Sub x (joS a b):=λp e=>by
 cases a with
 | none=>exact h2 p e
 | some q=>cases b with
  | none=>exact h1 p e
  | some r=>
   have z1:=h1 q rfl
   have z2:=h2 r rfl;cases e;dsimp only;split<;>split<;>lia
theorem Ls (hn:1<=n)(ok:n%2=1\/0<=al/\0<=ah)(h1:XG n N al bl)(h2:XG n M ah bh)(h:N<=M):al<=bh:=by
 have a:=h1.ab
 have b:=h2.ab;by_cases c:al<=bh
 .exact c
 .rcases ok with ho|⟨o1,o2⟩
  .have:=Dx ho (show bh<al by lia);lia
  .have:=RS (n:=n) (show 0<=bh by lia) (show bh<al by lia) hn;lia
theorem HG (hz:z.1<=z.2)(hx:x.1<=x.2)(hg:1<=g)(hn:2<=n):Sub x (bpS z x n g):=by
 have gp:(0:Int)<g^(n-1).toNat:=yD ()
 have hzz:z.1*g^(n-1).toNat<=z.2*g^(n-1).toNat:=mlr hz ();unfold bpS;generalize g^(n-1).toNat=G at gp hzz;generalize z.1*G=lo at hzz;generalize z.2*G=hi at hzz;have hn1:1<=n.toNat:=by lia
 split
 .have ho:n.toNat%2=1:=by lia
  have r1:=(Ra (N:=lo) hn1 (.inl ho)).1
  have r2:=(Ra (N:=hi) hn1 (.inl ho)).1;exact Qx hx r1.ab.1 r2.ab.1 (Ls hn1 (.inl ho) r1 r2 hzz)
 .split
  .exact λp e=>by cases e
  .have m0:0<=mx0 lo:=Xv lo
   have r1:=Ra (N:=mx0 lo) hn1 (.inr m0)
   have r2:=Ra (N:=hi) hn1 (.inr ())
   have le:mx0 lo<=hi:=SO hzz ()
   have k:=Ls hn1 (.inr ⟨r1.2 m0,r2.2 ()⟩) r1.1 r2.1 le
   have a1:=r1.1.ab.1
   have a2:=r2.1.ab.1;refine CY (Qx hx a1 a2 k) (Qx hx ?_ ?_ ?_)
   .show -(rtS hi n.toNat).2<=-(rtS hi n.toNat).1;lia
   .show -(rtS (mx0 lo) n.toNat).2<=-(rtS (mx0 lo) n.toNat).1;lia
   .show -(rtS hi n.toNat).2<=-(rtS (mx0 lo) n.toNat).1;lia
theorem UH:Sub p (Z5 p q):=λr e=>by
 refine⟨HU e,?_⟩;have go:∀lo hi:Int,p.1<=lo->hi<=p.2->(if hi<lo then none else some (lo,hi))=some r->p.1<=r.1/\r.2<=p.2:=λlo hi a b e=>by
  split at e
  .cases e
  .cases e;exact⟨a,b⟩
 refine go _ _ ?_ ?_ e
 .split<;>lia
 .split<;>lia
noncomputable def Nd.bk (vs:LI)(z:Int×Int)(g:Int):Nd->Option (List (Int×(Int×Int)))
 | .plus i j=>bk2 i j (Z5 (gt vs i) (z.1-(gt vs j).2,z.2-(gt vs j).1)) λx=>Z5 (if i=j then x else gt vs j) (z.1-x.2,z.2-x.1)
 | .minus i j=>bk2 i j (Z5 (gt vs i) (z.1+(gt vs j).1,z.2+(gt vs j).2)) λx=>Z5 (if i=j then x else gt vs j) (x.1-z.2,x.2-z.1)
 | .times i j=>bk2 i j (btS z (gt vs i) (gt vs j) g) λx=>btS z (if i=j then x else gt vs j) x g
 | .power i n=>match bpS z (gt vs i) n g with
  | none=>none
  | some x=>some [(i,x)]
 | _=>some []
theorem Sz.in2 {B:Nat}{x p:Int×Int}(h1:Sz B x.1)(h2:Sz B x.2)(h:p.1<=p.2/\x.1<=p.1/\p.2<=x.2):p.1<=p.2/\Sz B p.1/\Sz B p.2:=⟨h.1,Sz.mid h1 h2 h.2.1 (),Sz.mid h1 h2 () h.2.2⟩
def Pts (B:Nat)(m:Int)(l:List (Int×(Int×Int))):Prop:=l.length<=2/\∀p∈l,inR m p.1/\p.2.1<=p.2.2/\Sz B p.2.1/\Sz B p.2.2
theorem Qc {B:Nat}{vs:LI}{i j:Int}{f:Option (Int×Int)}{s:Int×Int->Option (Int×Int)}{l:List (Int×(Int×Int))}(hs:Spn B vs)(hi:inR vs.length i)(hj:inR vs.length j)(h1:Sub (gt vs i) f)(h2:∀x,f=some x->Sub (if i=j then x else gt vs j) (s x))(h:bk2 i j f s=some l):Pts B vs.length l:=by
 unfold bk2 at h;split at h
 .cases h
 .rename_i x;split at h
  .cases h
  .rename_i y ey;cases h;have a:=(hs.at hi).2
   have b:=(hs.at hj).2
   have zx:=Sz.in2 a.1 a.2 (h1 x rfl)
   have zy:y.1<=y.2/\Sz B y.1/\Sz B y.2:=by
    have q:=h2 x rfl y ey;split at q
    .exact Sz.in2 zx.2.1 zx.2.2 q
    .exact Sz.in2 b.1 b.2 q
   refine⟨by simp,λp hp=>?_⟩;simp only[zY,uF,or_false] at hp;rcases hp with rfl|rfl
   .exact⟨hi,zx⟩
   .exact⟨hj,zy⟩
theorem Nd.bk_pts {B:Nat}{vs:LI}{z:Int×Int}{g q:Int}(hs:Spn B vs)(hz:z.1<=z.2)(hg:1<=g):∀(v:Nd) (l:List (Int×(Int×Int))),v.ok vs.length q->v.bk vs z g=some l->Pts B vs.length l
 | .number _ _,l,_,h=>by cases h;exact⟨by simp,λp hp=>nomatch hp⟩
 | .unknown _,l,_,h=>by cases h;exact⟨by simp,λp hp=>nomatch hp⟩
 | .plus i j,l,ok,h=>Qc hs ok.1 ok.2 UH (λx _=>UH) h
 | .minus i j,l,ok,h=>Qc hs ok.1 ok.2 UH (λx _=>UH) h
 | .times i j,l,ok,h=>by
  have a:=(hs.at ok.1).1
  have b:=(hs.at ok.2).1
  have s1:=Pl (z:=z) (x:=gt vs i) (y:=gt vs j) hz a b hg;refine Qc hs ok.1 ok.2 s1 (λx e=>?_) h;have lx:=(s1 x e).1;refine Pl hz ?_ lx hg;split
  .exact lx
  .exact b
 | .power i n,l,ok,h=>by
  have a:=hs.at ok.1
  have s1:=HG (z:=z) (x:=gt vs i) (n:=n) hz a.1 hg ok.2.1;unfold Nd.bk at h;dsimp only at h;split at h
  .cases h
  .rename_i x ex;cases h;refine⟨by simp,λp hp=>?_⟩;simp only[zY,uF,or_false] at hp;subst hp;exact⟨ok.1,Sz.in2 a.2.1 a.2.2 (s1 x ex)⟩
def XR (vs:LI)(l:List (Int×(Int×Int))):LI:=l.foldl (λa p=>a.set p.1.toNat p.2) vs
theorem DY (vs:LI)(l:List (Int×(Int×Int)))(p:Int×(Int×Int)):XR vs (l++[p])=(XR vs l).set p.1.toNat p.2:=by
 unfold XR;rw[xA];rfl
theorem UX:∀(l:List (Int×(Int×Int))) (vs:LI),(XR vs l).length=vs.length
 | [],vs=>rfl
 | p::r,vs=>by
  show (XR (vs.set p.1.toNat p.2) r).length=_;rw[UX r,yA]
theorem Fe (hi:inR vs.length i)(hk:inR vs.length k):gt (vs.set k.toNat p) i=if i=k then p else gt vs i:=by
 have h0:=hi.1
 have h1:=hi.2
 have k0:=hk.1;unfold gt;rw[zR,zR,List.getElem?_set];by_cases e:i=k
 .subst e;rw[if_pos rfl,if_pos (),if_pos rfl];rfl
 .rw[if_neg (),if_neg e]
theorem Spn.set2 (h:Spn B vs)(hu:u.1<=u.2/\Sz B u.1/\Sz B u.2):Spn B (vs.set k u):=λp hp=>by
 rcases tJ hp with e|e
 .exact h p e
 .subst e;exact hu
theorem Q1:∀(l:List (Int×(Int×Int))) (vs:LI),Spn B vs->(∀p∈l,p.2.1<=p.2.2/\Sz B p.2.1/\Sz B p.2.2)->Spn B (XR vs l)
 | [],vs,h,_=>h
 | p::r,vs,h,hl=>Q1 r _ (h.set2 (hl p (.head _))) λq hq=>hl q (.tail _ hq)
noncomputable def X1 (g:Int)(ns:List Nd):Nat->LI->Option LI
 | 0,vs=>some vs
 | k+1,vs=>match ns[k]? with
  | none=>none
  | some v=>match v.bk vs (gt vs (k:Int)) g with
   | none=>none
   | some l=>X1 g ns k (XR vs l)
theorem Mc (hv:ns[k]?=some v)(h:v.bk vs (gt vs (k:Int)) g=none):X1 g ns (k+1) vs=none:=by
 unfold X1;rw[hv];dsimp only;rw[h]
theorem MM (hv:ns[k]?=some v)(h:v.bk vs (gt vs (k:Int)) g=some l):X1 g ns (k+1) vs=X1 g ns k (XR vs l):=by
 conv=>lhs;unfold X1
 rw[hv];dsimp only;rw[h]
def V3 (zero:Bool)(s:Int×Int):Option (Int×Int):=Z5 s (if zero then (0,0) else (0,mx0 s.2))
noncomputable def sbS (ns:List Nd)(zero:Bool)(k:Nat)(bs:LI)(g:Int):Option LI:=match V3 zero (gt (Zl bs g (ns.take (k+1))) (k:Int)) with
 | none=>none
 | some w=>X1 g ns (k+1) ((Zl bs g (ns.take (k+1))).set k w)
def Xk (bs:LI)(l:List (Nd×(Int×Int))):LI:=l.foldl (λa p=>match p.1 with
 | .unknown u=>a.set u.toNat p.2
 | _=>a) bs
theorem OV (bs:LI)(l:List (Nd×(Int×Int)))(p:Nd×(Int×Int)):Xk bs (l++[p])=match p.1 with
 | .unknown u=>(Xk bs l).set u.toNat p.2
 | _=>Xk bs l:=by
 unfold Xk;rw[xA];rfl
noncomputable def nwS (ns:List Nd)(zero:Bool)(k:Nat)(bs:LI)(g:Int):Option LI:=(sbS ns zero k bs g).map λus=>Xk bs (ns.zip us)
theorem MF (net:ZE q ns ws)(hq:q=bs.length)(P:Int->Int×Int->Prop)(h0:∀i:Int,inR bs.length i->P i (gt bs i))(hu:∀(k:Nat)(u:Int),ns[k]?=some (.unknown u)->k<us.length->P u (gt us (k:Int))):∀k,k<=(ns.zip us).length->(Xk bs ((ns.zip us).take k)).length=bs.length/\∀i:Int,inR bs.length i->P i (gt (Xk bs ((ns.zip us).take k)) i):=by
 intro k
 induction k with
 | zero=>intro _;exact⟨rfl,h0⟩
 | succ k ih=>
  intro hk;obtain⟨ln,ih⟩:=ih ();have hl:k<ns.length/\k<us.length:=by rw[wX] at hk;lia
  have hz:(ns.zip us)[k]?=some (ns[k],us[k]):=by rw[zD ()];simp
  have hv:ns[k]?=some ns[k]:=zD hl.1
  have eu:us[k]=gt us (k:Int):=by simp[gt,hl.2]
  rw[Yt hz,OV];dsimp only;generalize ns[k]=v at hv;cases v with
  | unknown u=>
   dsimp only;have ok:inR q u:=(net.ok k _ hv).1;rw[hq] at ok;refine⟨by rw[yA];exact ln,λi hi=>?_⟩;rw[Fe (by rw[ln];exact hi) (by rw[ln];exact ok)];split
   .rename_i e;subst e;rw[eu];exact hu k i hv hl.2
   .exact ih i hi
  | number _ _=>exact⟨ln,ih⟩
  | plus _ _=>exact⟨ln,ih⟩
  | minus _ _=>exact⟨ln,ih⟩
  | times _ _=>exact⟨ln,ih⟩
  | power _ _=>exact⟨ln,ih⟩
theorem Pf (net:ZE q ns ws)(hg:1<=g):∀(k:Nat)(vs us:LI),k<=vs.length->Spn B vs->X1 g ns k vs=some us->us.length=vs.length/\Spn B us
 | 0,vs,us,_,hs,e=>by cases e;exact⟨rfl,hs⟩
 | k+1,vs,us,hk,hs,e=>by
  cases hv:ns[k]? with
  | none=>
   unfold X1 at e;rw[hv] at e;cases e
  | some v=>
   have ok:v.ok vs.length q:=LL () (net.ok k v hv).1
   have ik:inR ((vs.length:Nat):Int) (k:Int):=⟨(),()⟩;cases el:v.bk vs (gt vs (k:Int)) g with
   | none=>rw[Mc hv el] at e;cases e
   | some l=>
    have P:=v.bk_pts hs (hs.at ik).1 hg l ok el;rw[MM hv el] at e;have z:=Pf net hg k (XR vs l) us (by rw[UX];lia) (Q1 l vs hs λp hp=>(P.2 p hp).2) e;rw[UX] at z;exact z
theorem RJ:Sub s (V3 zero s):=UH
theorem J6 (h:∀i:Int,inR vs.length i->(gt vs i).1<=(gt vs i).2/\Sz B (gt vs i).1/\Sz B (gt vs i).2):Spn B vs:=λp hp=>by
 obtain⟨k,hk,e⟩:=yP.mp hp;have z:=h (k:Int) ⟨(),()⟩
 have e2:gt vs (k:Int)=p:=by simp[gt,hk,e]
 rw[e2] at z;exact z
theorem FN (h:Spn 51 vs):Spn 1000 vs:=h.mono ⋯
theorem MA {ns:List Nd}{ws:List Nat}{zero:Bool}{k:Nat}{bs r:LI}{g:Int}(net:ZE bs.length ns ws)(gp:Spn 51 bs)(hg:1<=g/\g<=1000000)(hk:k<ns.length)(e:nwS ns zero k bs g=some r):r.length=bs.length/\Spn 1000 r:=by
 unfold nwS at e;obtain⟨us,eu,er⟩:=zI.mp e;have s1:Spn 1000 (Zl bs g (ns.take (k+1))):=Uw net rfl gp hg (k+1) ()
 have l1:(Zl bs g (ns.take (k+1))).length=k+1:=by rw[YX,zK];lia
 unfold sbS at eu;split at eu
 .cases eu
 .rename_i w ew;have a:=s1.at (i:=(k:Int)) ⟨(),by rw[l1];lia⟩
  have zw:=Sz.in2 a.2.1 a.2.2 (RJ w ew);obtain⟨lu,su⟩:=Pf net hg.1 (k+1) _ us (by rw[yA,l1];lia) (s1.set2 zw) eu;rw[yA,l1] at lu;have lz:(ns.zip us).length=k+1:=by rw[wX];lia
  obtain⟨lr,P⟩:=MF net rfl (us:=us) (bs:=bs) (λ_ p=>p.1<=p.2/\Sz 1000 p.1/\Sz 1000 p.2) (λi hi=>(FN gp).at hi) (λj u _ hj=>su.at ⟨(),()⟩) (ns.zip us).length (zB _);rw[yH] at lr P;subst er;exact⟨lr,J6 λi hi=>P i (by rw[<- lr];exact hi)⟩
theorem Eh (net:ZE bs.length ns ws)(gp:Spn 51 bs)(hg:1<=g/\g<=1000000)(hk:k<ns.length)(eu:sbS ns zero k bs g=some us):us.length=k+1:=by
 have s1:Spn 1000 (Zl bs g (ns.take (k+1))):=Uw net rfl gp hg (k+1) ()
 have l1:(Zl bs g (ns.take (k+1))).length=k+1:=by rw[YX,zK];lia
 unfold sbS at eu;split at eu
 .cases eu
 .rename_i w ew;have a:=s1.at (i:=(k:Int)) ⟨(),by rw[l1];lia⟩
  have zw:=Sz.in2 a.2.1 a.2.2 (RJ w ew);obtain⟨lu,su⟩:=Pf net hg.1 (k+1) _ us (by rw[yA,l1];lia) (s1.set2 zw) eu;rw[yA,l1] at lu;exact lu
theorem C3 {ns:List Nd}{us:LI}{i:Nat}{v:Nd}{p:Int×Int}(h1:ns[i]?=some v)(h2:us[i]?=some p):(ns.zip us)[i]?=some (v,p):=by
 obtain⟨a1,rfl⟩:=zA.mp h1;obtain⟨a2,rfl⟩:=zA.mp h2;rw[zD (by rw[wX];lia)];simp
def rwW (zero:Bool)(w:Str):Prop:=zero=true/\w="zero"\/zero=false/\w="least"
theorem Gr.pre {q a:Nat}{S T:Sto}{ns:List Nd}{ws:List Nat}(net:ZE q ns ws)(h:S[a]?=some (.lst (ns.map Nd.d)))(pr:Pre S T)(hl:S.length<=T.length):Gr q a 0 S ns ws T ns ws:=⟨net,⟨[],by simp,by simp⟩,⟨[],by simp⟩,pr _ _ h,hl,λx o _ e=>pr x o e⟩
def FdAt (o:Option LI)(L:Nat)(S:Sto)(fd:D):Prop:=(fd=.non/\o=none)\/∃(r:LI)(mf:Nat),fd=.ref mf/\o=some r/\S[mf]?=some (.lst (r.map frD))/\L<=mf
theorem Yj (h:Pre S T):S.length<=T.length:=by
 by_cases c:S.length<=T.length
 .exact c
 .have e:=h T.length _ (zD ())
  have:=(zA.mp e).1;lia
structure Ct where
 k:Nat
 p:Int
 s:Bool
def Ct.d (c:Ct):D:=.tup [.int (c.k:Int),.int c.p,.int (if c.s then 1 else 0)]
def brS (zero:Bool)(s:Int×Int):Bool:=if zero then decide (0<s.1)||decide (s.2<0) else decide (s.2<0)
def ibS (ns:List Nd)(zero:Bool)(k:Nat)(bs:LI)(g:Int):Bool:=brS zero (gt (Zl bs g (ns.take (k+1))) (k:Int))
def Ct.off (c:Ct)(s:Int×Int):Int×Int:=if c.s then (c.p,s.2) else (s.1,c.p)
def Ct.back (c:Ct)(s:Int×Int):Int×Int:=if c.s then (s.1,c.p) else (c.p,s.2)
def isS (ns:List Nd)(zero:Bool)(k:Nat)(g:Int)(bs:LI)(c:Ct):Bool:=(decide ((gt bs (c.k:Int)).1<c.p)&&decide (c.p<(gt bs (c.k:Int)).2))&&ibS ns zero k (bs.set c.k (c.off (gt bs (c.k:Int)))) g
def ctP (bs:LI)(c:Ct):LI:=bs.set c.k (c.back (gt bs (c.k:Int)))
def YD (ns:List Nd)(zero:Bool)(k:Nat)(g:Int)(a:List Ct×LI)(c:Ct):List Ct×LI:=if isS ns zero k g a.2 c then (a.1++[c],ctP a.2 c) else a
def cand (i:Nat)(s:Int×Int):List Ct:=[⟨i,s.1-1,false⟩,⟨i,s.2+1,true⟩]
def shN (ns:List Nd)(zero:Bool)(k:Nat)(g:Int)(bs:LI):LI->Nat->List Ct×LI
 | _,0=>([],bs)
 | r,i+1=>(cand i (gt r (i:Int))).foldl (YD ns zero k g) (shN ns zero k g bs r i)
noncomputable def shS (ns:List Nd)(zero:Bool)(k:Nat)(bs:LI)(g:Int):List Ct×Option LI:=
 if ibS ns zero k bs g then ([],none) else match nwS ns zero k bs g with
  | none=>([],some bs)
  | some r=>((shN ns zero k g bs r r.length).1,some (shN ns zero k g bs r r.length).2)
def ctA (bs:LI)(cs:List Ct):LI:=cs.foldl ctP bs
theorem QL (bs:LI)(cs:List Ct)(c:Ct):ctA bs (cs++[c])=ctP (ctA bs cs) c:=by
 unfold ctA;rw[xA];rfl
def Ct.ix (c:Ct):Nat:=2*c.k+(if c.s then 1 else 0)
structure US (ns:List Nd)(zero:Bool)(k:Nat)(g:Int)(bs:LI)(n:Nat)(q:List Ct×LI):Prop where
 left:q.2=ctA bs q.1
 len:q.2.length=bs.length
 spn:Spn 51 q.2
 is:∀(i:Nat)(c:Ct),q.1[i]?=some c->isS ns zero k g (ctA bs (q.1.take i)) c=true/\c.k<bs.length
 lt:∀c∈q.1,c.ix<n
 ord:∀(i j:Nat)(c d:Ct),i<j->q.1[i]?=some c->q.1[j]?=some d->c.ix<d.ix
 few:q.1.length<=n
theorem QE {ns:List Nd}{zero:Bool}{k:Nat}{g:Int}{bs:LI}{c:Ct}(h:isS ns zero k g bs c=true):(gt bs (c.k:Int)).1<c.p/\c.p<(gt bs (c.k:Int)).2:=by
 unfold isS at h;simp at h;exact h.1
theorem Nf {c:Ct}{s:Int×Int}(h1:s.1<c.p)(h2:c.p<s.2)(z1:Sz 51 s.1)(z2:Sz 51 s.2):((c.back s).1<=(c.back s).2/\Sz 51 (c.back s).1/\Sz 51 (c.back s).2)/\(c.off s).1<=(c.off s).2/\Sz 51 (c.off s).1/\Sz 51 (c.off s).2:=by
 have zp:Sz 51 c.p:=Sz.mid z1 z2 () ();unfold Ct.back Ct.off;cases c.s with
 | true=>exact⟨⟨by show s.1<=c.p;lia,z1,zp⟩,by show c.p<=s.2;lia,zp,z2⟩
 | false=>exact⟨⟨by show c.p<=s.2;lia,zp,z2⟩,by show s.1<=c.p;lia,z1,zp⟩
theorem US.step {ns:List Nd}{zero:Bool}{k n:Nat}{g:Int}{bs:LI}{q:List Ct×LI}(h:US ns zero k g bs n q){c:Ct}(hc:c.k<bs.length)(hn:c.ix=n):US ns zero k g bs (n+1) (YD ns zero k g q c):=by
 unfold YD;split
 .rename_i e;have ik:inR ((q.2.length:Nat):Int) (c.k:Int):=⟨(),by have:=h.len;lia⟩
  have a:=h.spn.at ik
  have b:=QE e;refine⟨by rw[QL,<- h.left],by show (q.2.set _ _).length=_;rw[yA];exact h.len,h.spn.set2 (Nf b.1 b.2 a.2.1 a.2.2).1,λi d hd=>?_,λd hd=>?_,λi j x y hij hx hy=>?_,by show (q.1++[c]).length<=_;rw[yB];have:=h.few;simp;lia⟩
  .show isS ns zero k g (ctA bs ((q.1++[c]).take i)) d=true/\_;by_cases hi:i<q.1.length
   .have hd2:(q.1++[c])[i]?=some d:=hd;rw[zL hi] at hd2;rw[vT ()];exact h.is i d hd2
   .have hd2:(q.1++[c])[i]?=some d:=hd
    have hl:=(zA.mp hd2).1;simp at hl;have ei:i=q.1.length:=by lia
    subst ei;simp at hd2;subst hd2;rw[vT (zB _),yH,<- h.left];exact⟨e,hc⟩
  .have hd2:d∈q.1++[c]:=hd;rcases yE.mp hd2 with z|z
   .have:=h.lt d z;lia
   .cases zT.mp z;lia
  .have hx2:(q.1++[c])[i]?=some x:=hx
   have hy2:(q.1++[c])[j]?=some y:=hy
   have hl:=(zA.mp hy2).1;simp at hl;rw[zL ()] at hx2;by_cases hj:j<q.1.length
   .rw[zL hj] at hy2;exact h.ord i j x y hij hx2 hy2
   .have ej:j=q.1.length:=by lia
    subst ej;simp at hy2;have:=h.lt x (zF hx2);lia
 .exact⟨h.left,h.len,h.spn,h.is,λd hd=>by have:=h.lt d hd;lia,h.ord,by have:=h.few;lia⟩
theorem Q3 {ns:List Nd}{zero:Bool}{k:Nat}{g:Int}{bs r:LI}(sb:Spn 51 bs)(lr:r.length=bs.length):∀i,i<=r.length->US ns zero k g bs (2*i) (shN ns zero k g bs r i)
 | 0,_=>⟨rfl,rfl,sb,λi c hc=>by simp[shN] at hc,λc hc=>by simp[shN] at hc,λi j c d _ hc=>by simp[shN] at hc,zB _⟩
 | i+1,hi=>by
  have ih:=Q3 (ns:=ns) (zero:=zero) (k:=k) (g:=g) sb lr i ()
  have s1:=ih.step (c:=⟨i,(gt r (i:Int)).1-1,false⟩) (by show i<_;lia) (by show 2*i+0=_;lia);exact s1.step (c:=⟨i,(gt r (i:Int)).2+1,true⟩) (by show i<_;lia) (by show 2*i+1=_;lia)
theorem IB (bs:LI):∀cs:List Ct,(ctA bs cs).length=bs.length:=λcs=>by
 unfold ctA
 induction cs generalizing bs with
 | nil=>rfl
 | cons c cs ih=>
  show (cs.foldl ctP (ctP bs c)).length=_;rw[ih];exact yA ..
theorem KN {α:Type}{bs:LI}{k:Nat}{p:Int×Int}(h:k<bs.length):Z8 (bs.map frD) none (some (k:Int))++[frD p]++Z8 (bs.map frD) (some ((k:Int)+1)) none=(bs.set k p).map frD:=by
 rw[Tc () (by rw[zC];lia),zG];have e:Z8 (bs.map frD) (some ((k:Int)+1)) none=(bs.map frD).drop (k+1):=by
  unfold L3.Z8;have z:=HT.sIx_nat (bs.map frD).length 0 (k+1);rw[show (((k+1:Nat):Int))=(k:Int)+1 by lia] at z;rw[z,HT.sIx_none,yM (by rw[wH];lia),uG (by rw[zC];lia)]
 rw[e,List.set_eq_take_append_cons_drop,if_pos h,yC,xB,xT,List.map_drop,xD];rfl
theorem BH {to te:TDE}{dl:Ev}{S:Sto}{Q:DK}{n:Nat}{xs:List D}(hto:∀K:DK,K (.ref n) S->to dl S K)(h:S[n]?=some (.lst xs))(hte:∀K:DK,(∀(y:D)(S2:Sto),S2[n]?=some (.lst xs)->Q .non (S2.set n (.lst (xs++[y])))->K y S2)->te dl S K)(hl:xs.length<1000):Wh to te dl S Q:=by
 unfold Wh;refine hto _ ?_;simp only[h];refine hte _ λy S2 h2 q=>?_
 simp only[h2,if_pos hl];exact q
def Z4 (S:Sto)(lo:Nat)(ds:List D)(R:List LI):Prop:=ds.length=R.length/\∀(k:Nat)(d:D)(r:LI),ds[k]?=some d->R[k]?=some r->∃a,d=.ref a/\lo<=a/\S[a]?=some (.lst (r.map frD))
theorem Z4.nil {S:Sto}{lo:Nat}:Z4 S lo [] []:=⟨rfl,λk d r h=>by simp at h⟩
theorem Z4.pre {S T:Sto}{lo:Nat}{ds:List D}{R:List LI}(h:Z4 S lo ds R)(p:Pre S T):Z4 T lo ds R:=⟨h.1,λk d r hd hr=>by
 obtain⟨a,e,l,s⟩:=h.2 k d r hd hr;exact⟨a,e,l,p _ _ s⟩⟩
theorem Z4.low {S:Sto}{lo lo':Nat}{ds:List D}{R:List LI}(h:Z4 S lo ds R)(l:lo'<=lo):Z4 S lo' ds R:=⟨h.1,λk d r hd hr=>by
 obtain⟨a,e,l,s⟩:=h.2 k d r hd hr;exact⟨a,e,(),s⟩⟩
theorem Z4.keep {S T:Sto}{lo:Nat}{ds:List D}{R:List LI}(h:Z4 S lo ds R)(p:∀(x:Nat)(o:Ob),lo<=x->S[x]?=some o->T[x]?=some o):Z4 T lo ds R:=⟨h.1,λk d r hd hr=>by
 obtain⟨a,e,l,s⟩:=h.2 k d r hd hr;exact⟨a,e,l,p _ _ l s⟩⟩
theorem Z4.at {S:Sto}{lo:Nat}{ds:List D}{R:List LI}(h:Z4 S lo ds R){i:Int}(hi:inR R.length i):∃a,atI ds i=some (.ref a)/\lo<=a/\S[a]?=some (.lst ((R.getD i.toNat []).map frD)):=by
 obtain⟨h0,h1⟩:=hi;have hk:i.toNat<R.length:=by lia
 have hk':i.toNat<ds.length:=by rw[h.1];exact hk
 obtain⟨a,e,l,s⟩:=h.2 i.toNat _ _ (zD hk') (zD hk);refine⟨a,?_,l,?_⟩
 .have z:=YC (xs:=ds) (by rw[zD hk',e]);rw[show ((i.toNat:Nat):Int)=i by lia] at z;exact z
 .rw[s];simp[hk]
theorem Z4.snoc {S:Sto}{lo:Nat}{ds:List D}{R:List LI}{a:Nat}{r:LI}(h:Z4 S lo ds R)(hl:lo<=a)(hs:S[a]?=some (.lst (r.map frD))):Z4 S lo (ds++[.ref a]) (R++[r]):=⟨by rw[yB,yB,h.1];rfl,λk d r' hd hr=>by
 by_cases hk:k<ds.length
 .rw[zL hk] at hd;rw[zL (by rw[<- h.1];exact hk)] at hr;exact h.2 k d r' hd hr
 .have l:=(zA.mp hd).1;simp at l;have ek:k=ds.length:=by lia
  subst ek;rw[yL (zB _),wB] at hd;rw[h.1,yL (zB _),wB] at hr;cases hd;cases hr;exact⟨a,rfl,hl,hs⟩⟩
abbrev gs (sl:List LI)(i:Int)(l:Nat):Int×Int:=(sl.getD i.toNat []).getD l (0,0)
def Yn (p q:Int×Int)(g:Int):Int×Int:=(mn4 p.1 p.2 q.1 q.2/g,-(-mx4 p.1 p.2 q.1 q.2/g))
def Y1 (p:Int×Int)(n g:Int):Int×Int:=(Y3 p.1 p.2 (n-1).toNat/g^((n-1).toNat-1)*n,-(-Wc p.1 p.2 (n-1).toNat/g^((n-1).toNat-1))*n)
def Nd.sl (vs:LI)(sl:List LI)(g:Int)(l:Nat):Nd->Int×Int
 | .number _ _=>(0,0)
 | .unknown k=>if (l:Int)=k then (g,g) else (0,0)
 | .plus i j=>((gs sl i l).1+(gs sl j l).1,(gs sl i l).2+(gs sl j l).2)
 | .minus i j=>((gs sl i l).1-(gs sl j l).2,(gs sl i l).2-(gs sl j l).1)
 | .times i j=>((Yn (gt vs i) (gs sl j l) g).1+(Yn (gt vs j) (gs sl i l) g).1,(Yn (gt vs i) (gs sl j l) g).2+(Yn (gt vs j) (gs sl i l) g).2)
 | .power i n=>Yn (Y1 (gt vs i) n g) (gs sl i l) g
def Y9 (vs:LI)(sl:List LI)(g:Int)(q:Nat)(v:Nd):LI:=(List.range q).map λl=>v.sl vs sl g l
theorem L5 {vs:LI}{sl:List LI}{g:Int}{q:Nat}{v:Nd}:(Y9 vs sl g q v).length=q:=by simp[Y9]
theorem Eg (f:Int×Int->α)(r:LI)(h:r.length=q):r.map f=(List.range q).map λl=>f (r.getD l (0,0)):=by
 subst h;refine xU λk=>?_
 by_cases hk:k<r.length
 .rw[zE,zE,wU hk,zD hk];simp[hk]
 .rw[yQ (by simpa using hk),yQ (by simpa using hk)]
theorem JG (f:Int×Int->Int×Int->α)(r s:LI)(h:r.length=q)(h':s.length=q):List.zipWith f r s=(List.range q).map λl=>f (r.getD l (0,0)) (s.getD l (0,0)):=by
 subst h;refine xU λk=>?_
 by_cases hk:k<r.length
 .rw[tK,zE,wU hk,zD hk,zD (show k<s.length by lia)];simp[hk,show k<s.length by lia]
 .rw[yQ (by rw[wV];lia),yQ (by simpa using hk)]
theorem BD (x:D)(q:Nat):(List.replicate q [x]).flatten=(List.range q).map λ_=>x:=by
 refine xU λk=>?_
 have l:(List.replicate q [x]).flatten=List.replicate q x:=by
  induction q with
  | zero=>rfl
  | succ q ih=>rw[wJ,vG,ih];rfl
 rw[l];by_cases hk:k<q
 .rw[zE,wU hk,wF,if_pos hk];rfl
 .rw[yQ (by simpa using hk),yQ (by simpa using hk)]
theorem Pc (p q:Int×Int)(hg:1<=g):(Yn p q g).1<=(Yn p q g).2:=VG hg (N5 _ _ _ _)
theorem EL (p:Int×Int)(hn:0<=n)(hg:1<=g):(Y1 p n g).1<=(Y1 p n g).2:=xI (VG (yD ()) (P8 _ _ _)) hn
def Z3 (vs:LI)(g:Int)(q:Nat)(ns:List Nd):List LI:=ns.foldl (λacc v=>acc++[Y9 vs acc g q v]) []
theorem Qa (vs:LI)(g:Int)(q:Nat)(ns:List Nd)(v:Nd):Z3 vs g q (ns++[v])=Z3 vs g q ns++[Y9 vs (Z3 vs g q ns) g q v]:=by
 unfold Z3;rw[xA];rfl
theorem UL (vs:LI)(g:Int)(q:Nat)(ns:List Nd):(Z3 vs g q ns).length=ns.length:=by
 have z:∀k,k<=ns.length->(Z3 vs g q (ns.take k)).length=k:=λk=>by
  induction k with
  | zero=>intro _;rfl
  | succ k ih=>
   intro hk;rw[Yt (zD (show k<ns.length by lia)),Qa];simp[ih ()]
 have:=z ns.length (zB _)
 rwa [yH] at this
def SlW (q:Nat)(ws:List Nat)(sl:List LI):Prop:=∀(k:Nat)(r:LI),sl[k]?=some r->r.length=q/\∀p∈r,p.1<=p.2/\Sz (64*ws.getD k 0-1) p.1/\Sz (64*ws.getD k 0-1) p.2
theorem SlW.at {q:Nat}{ws:List Nat}{sl:List LI}(h:SlW q ws sl){i:Int}(hi:inR sl.length i):(sl.getD i.toNat []).length=q/\∀l,l<q->(gs sl i l).1<=(gs sl i l).2/\Sz (64*ws.getD i.toNat 0-1) (gs sl i l).1/\Sz (64*ws.getD i.toNat 0-1) (gs sl i l).2:=by
 obtain⟨h0,h1⟩:=hi;have hk:i.toNat<sl.length:=by lia
 obtain⟨a,b⟩:=h i.toNat _ (zD hk);have e:sl.getD i.toNat []=sl[i.toNat]:=by simp[hk]
 refine⟨by rw[e];exact a,λl hl=>?_⟩;have e2:gs sl i l=sl[i.toNat][l]'(by rw[a];exact hl):=by
  unfold gs;rw[e];simp[show l<sl[i.toNat].length by rw[a];exact hl]
 rw[e2];exact b _ (yO _)
theorem SlW.snoc {q:Nat}{ws:List Nat}{sl:List LI}{r:LI}(h:SlW q ws sl)(hr:r.length=q)(hp:∀p∈r,p.1<=p.2/\Sz (64*ws.getD sl.length 0-1) p.1/\Sz (64*ws.getD sl.length 0-1) p.2):SlW q ws (sl++[r]):=λk u hu=>by
 by_cases hk:k<sl.length
 .rw[zL hk] at hu;exact h k u hu
 .have l:=(zA.mp hu).1;simp at l;have ek:k=sl.length:=by lia
  subst ek;rw[yL (zB _),wB] at hu;cases hu;exact⟨hr,hp⟩
theorem Se (hg:1<=g)(h1:Sz m p.1)(h2:Sz m p.2)(h3:Sz n q.1)(h4:Sz n q.2):Sz (m+n) (Yn p q g).1/\Sz (m+n) (Yn p q g).2:=
 ⟨(Wz (Wz (h1.mul h3) (h1.mul h4)) (Wz (h2.mul h3) (h2.mul h4))).div hg,Vm (Wl (Wl (h1.mul h3) (h1.mul h4)) (Wl (h2.mul h3) (h2.mul h4))) hg⟩
theorem Kc:∀n:Nat,2<=n->n<=6->n<=2^(n-1):=λn h1 h2=>by
 have:n=2\/n=3\/n=4\/n=5\/n=6:=by lia
 rcases this with rfl|rfl|rfl|rfl|rfl<;>decide
theorem Rn (h:Sz m x)(hn:n.natAbs<=2^e)(hp:1<=n.natAbs):Sz (m+e) (x*n):=by
 unfold Sz at *
 rw[Nat.pow_add,Int.natAbs_mul];exact Nat.mul_lt_mul_of_lt_of_le h hn (yJ ⋯)
theorem GW (hg:1<=g)(n2:2<=n)(n6:n<=6)(h1:Sz m p.1)(h2:Sz m p.2):Sz (m*(n.toNat-1)+(n.toNat-1)) (Y1 p n g).1/\Sz (m*(n.toNat-1)+(n.toNat-1)) (Y1 p n g).2:=by
 have en:(n-1).toNat=n.toNat-1:=by lia
 have gp:(1:Int)<=g^((n-1).toNat-1):=yD ()
 have p1:Sz (m*(n.toNat-1)) (p.1^(n-1).toNat):=by rw[en];exact Sz.pow' h1 ()
 have p2:Sz (m*(n.toNat-1)) (p.2^(n-1).toNat):=by rw[en];exact Sz.pow' h2 ()
 have lo:Sz (m*(n.toNat-1)) (Y3 p.1 p.2 (n-1).toNat):=by
  unfold Y3;split
  .show (0:Int).natAbs<_;exact yJ ⋯
  .exact Wz p1 p2
 have nb:n.natAbs<=2^(n.toNat-1):=by
  have:=Kc n.toNat () ();lia
 exact⟨Rn (lo.div gp) nb (),Rn (Vm (Wl p1 p2) gp) nb ()⟩
theorem sl_ok {q:Nat}{ws:List Nat}{vs:LI}{sl:List LI}{g:Int}(hs:SzW ws vs)(hl:SlW q ws sl)(hg:1<=g/\g<=1000000)(hv:sl.length<=vs.length)(hw:∀i:Int,inR vs.length i->1<=ws.getD i.toNat 0){l:Nat}(hq:l<q):∀v:Nd,v.ok sl.length q->1<=v.wt ws->(v.sl vs sl g l).1<=(v.sl vs sl g l).2/\Sz (64*v.wt ws-2) (v.sl vs sl g l).1/\Sz (64*v.wt ws-2) (v.sl vs sl g l).2
 | .number t b,ok,h1=>⟨zV _,by show Sz _ 0;exact yJ ⋯,by show Sz _ 0;exact yJ ⋯⟩
 | .unknown k,ok,h1=>by
  have sg:Sz (64*Nd.wt ws (.unknown k)-2) g:=(Sz.of (n:=21) (10^6) (show g.natAbs<=_ by lia)).mono (by show 21<=64*1-2;decide)
  show (if (l:Int)=k then (g,g) else (0,0)).1<=(if (l:Int)=k then (g,g) else (0,0)).2/\Sz _ (if (l:Int)=k then (g,g) else (0,0)).1/\Sz _ (if (l:Int)=k then (g,g) else (0,0)).2;split
  .exact⟨zV _,sg,sg⟩
  .exact⟨zV _,yJ ⋯,yJ ⋯⟩
 | .plus i j,ok,h1=>by
  have a:=(hl.at ok.1).2 l hq
  have b:=(hl.at ok.2).2 l hq
  have p:=hw i ⟨ok.1.1,by have:=ok.1.2;lia⟩
  have q:=hw j ⟨ok.2.1,by have:=ok.2.2;lia⟩;refine⟨?_,(a.2.1.add b.2.1).mono (by simp only[Nd.wt];lia),(a.2.2.add b.2.2).mono (by simp only[Nd.wt];lia)⟩;show (gs sl i l).1+(gs sl j l).1<=(gs sl i l).2+(gs sl j l).2;lia
 | .minus i j,ok,h1=>by
  have a:=(hl.at ok.1).2 l hq
  have b:=(hl.at ok.2).2 l hq
  have p:=hw i ⟨ok.1.1,by have:=ok.1.2;lia⟩
  have q:=hw j ⟨ok.2.1,by have:=ok.2.2;lia⟩;refine⟨?_,(a.2.1.sub b.2.2).mono (by simp only[Nd.wt];lia),(a.2.2.sub b.2.1).mono (by simp only[Nd.wt];lia)⟩;show (gs sl i l).1-(gs sl j l).2<=(gs sl i l).2-(gs sl j l).1;lia
 | .times i j,ok,h1=>by
  have oi:inR vs.length i:=⟨ok.1.1,by have:=ok.1.2;lia⟩
  have oj:inR vs.length j:=⟨ok.2.1,by have:=ok.2.2;lia⟩
  have a:=(hl.at ok.1).2 l hq
  have b:=(hl.at ok.2).2 l hq
  have c:=hs.at oi
  have d:=hs.at oj
  have p:=hw i oi
  have q:=hw j oj
  have z1:=Se hg.1 c.2.1 c.2.2 b.2.1 b.2.2
  have z2:=Se hg.1 d.2.1 d.2.2 a.2.1 a.2.2;refine⟨?_,(z1.1.add z2.1).mono (by simp only[Nd.wt];lia),(z1.2.add z2.2).mono (by simp only[Nd.wt];lia)⟩;have m1:=Pc (gt vs i) (gs sl j l) hg.1
  have m2:=Pc (gt vs j) (gs sl i l) hg.1
  show (Yn (gt vs i) (gs sl j l) g).1+(Yn (gt vs j) (gs sl i l) g).1<=(Yn (gt vs i) (gs sl j l) g).2+(Yn (gt vs j) (gs sl i l) g).2;lia
 | .power i n,ok,h1=>by
  have oi:inR vs.length i:=⟨ok.1.1,by have:=ok.1.2;lia⟩
  have a:=(hl.at ok.1).2 l hq
  have c:=hs.at oi
  have p:=hw i oi
  have n2:=ok.2.1
  have f:=GW hg.1 ok.2.1 ok.2.2 c.2.1 c.2.2
  have z:=Se hg.1 f.1 f.2 a.2.1 a.2.2
  have hn:(60*ws.getD i.toNat 0-1)*(n.toNat-1)+(n.toNat-1)+(64*ws.getD i.toNat 0-1)<=64*Nd.wt ws (.power i n)-2:=by
   simp only[Nd.wt];generalize ws.getD i.toNat 0=w at p;obtain⟨k,hk⟩:∃k,n.toNat=k+2:=⟨n.toNat-2,()⟩;rw[hk,show k+2-1=k+1 by lia,vU,Nat.one_mul];have e2:(k+2)*w=k*w+2*w:=Nat.add_mul ..
   have e3:k+1<=60*w*(k+1):=Nat.le_mul_of_pos_left _ ();lia
  exact⟨Pc _ _ hg.1,z.1.mono hn,z.2.mono hn⟩
theorem Lf {q:Nat}{ns:List Nd}{ws:List Nat}{vs:LI}{g:Int}(h:ZE q ns ws)(hs:SzW ws vs)(hv:vs.length=ns.length)(hg:1<=g/\g<=1000000):∀k,k<=ns.length->SlW q ws (Z3 vs g q (ns.take k)):=λk=>by
 induction k with
 | zero=>intro _ i p hp;simp[Z3] at hp
 | succ k ih=>
  intro hk;have hv':=zD (show k<ns.length by lia)
  have s:=ih ()
  have ln:(Z3 vs g q (ns.take k)).length=k:=by rw[UL,zK];lia
  obtain⟨ok,e,p1,_⟩:=h.ok k _ hv';rw[Yt hv',Qa];refine s.snoc L5 λp hp=>?_
  obtain⟨l,hl,rfl⟩:=zH.mp hp;have z:=sl_ok hs s hg () (λi hi=>(h.w1 (by rw[<- hv];exact hi)).1) (yT.mp hl) ns[k] (by rw[ln];exact ok) p1;exact⟨z.1,z.2.1.mono (),z.2.2.mono ()⟩
theorem LJ {q:Int}{ns:List Nd}{ws:List Nat}{bs:LI}{g:Int}(h:ZE q ns ws)(hq:q=bs.length)(hb:Spn 51 bs)(hg:1<=g/\g<=1000000):SzW ws (Zl bs g ns):=by
 have z:=Lv h hq hb hg ns.length (zB _)
 rwa [yH] at z
theorem SlW.spn (h:SlW q ws sl)(hw:∀k:Nat,k<sl.length->ws.getD k 0<=16):∀i:Int,inR sl.length i->(sl.getD i.toNat []).length=q/\∀l,l<q->(gs sl i l).1<=(gs sl i l).2/\Sz 1100 (gs sl i l).1/\Sz 1100 (gs sl i l).2:=λi hi=>by
 obtain⟨a,b⟩:=h.at hi;refine⟨a,λl hl=>?_⟩;obtain⟨c,d,e⟩:=b l hl;have:=hw i.toNat (by have:=hi.1;have:=hi.2;lia);exact⟨c,d.mono (),e.mono ()⟩
def mid (p:Int×Int):Int:=(p.1+p.2)/2
def Yh (p:Int×Int):Int×Int:=(mid p,mid p)
def addS (p q:Int×Int):Int×Int:=(p.1+q.1,p.2+q.2)
def Vx (p q:Int×Int):Int×Int:=(p.1-q.2,p.2-q.1)
def YY (g:Int)(us vs:LI):Int×Int:=(List.zip us vs).foldl (λt z=>addS t (Yn z.1 z.2 g)) (0,0)
def rwD (r:Bool×Nat):D:=.tup [.str (if r.1 then "zero" else "least"),.int (r.2:Int)]
def eqs (rows:List (Bool×Nat)):List Nat:=rows.filterMap λr=>if r.1 then some r.2 else none
theorem Ol {caps:List Nat}{tl te:TDE}{tc:TDT}{dl:Ev}{S S1:Sto}{Q:DK}{n:Nat}{o:Ob}(f:D->Option D)(htl:∀K:DK,K (.ref n) S1->tl dl S K)(h1:S1[n]?=some o)(hl:(Zk o).length<=1000)
  (hc:∀x∈Zk o,∀(S2:Sto)(K:Bool->Sto->Prop),Pre S1 S2->K (f x).isSome S2->tc (some x::Z9 caps dl) S2 K)(ht:∀x∈Zk o,∀y,f x=some y->∀(S2:Sto)(K:DK),Pre S1 S2->K y S2->te (some x::Z9 caps dl) S2 K)(hq:Q (.ref S1.length) (S1++[.lst ((Zk o).filterMap f)]))(hL:Y5 o=some o:=by rfl):Xs caps tl tc te dl S Q:=by
 unfold Xs;refine htl _ ⟨by rw[ZR h1 hL];rfl,λk m S2=>S2=S1++[.lst (((Zk o).take k).filterMap f)]/\m+k=(Zk o).length,⟨(Zk o).length,by simp,()⟩,?_⟩;rintro k m S2 ⟨rfl,hm⟩;rw[ZR (X6 h1) hL];dsimp only;split
 .rename_i x hx;have hk:k<(Zk o).length:=(zA.mp hx).1
  have e:(Zk o).take (k+1)=(Zk o).take k++[x]:=by rw[xR,hx];rfl
  refine hc x (zF hx) _ _ Pre.refl.push ?_;cases ef:f x with
  | none=>
   refine Y0 ?_;refine⟨m-1,(),?_,()⟩;rw[e,tL];simp[ef]
  | some y=>
   refine YQ ?_;refine ht x (zF hx) y ef _ _ Pre.refl.push ?_;rw[Zo];have ll:=List.length_filterMap_le f ((Zk o).take k);refine⟨by rw[zK] at ll;lia,m-1,(),?_,()⟩;rw[e,tL,Vn];simp[ef]
 .rename_i hx;have hk:(Zk o).length<=k:=yY.mp hx;rw[yM hk];exact hq
def XN (g:Int)(k c:Nat)(ts:LI)(R:List LI):Int×Int:=Vx (if k=c then (g,g) else (0,0)) (YY g ts (R.map λr=>r.getD c (0,0)))
def V6 (g:Int)(box:LI)(aA:LI)(R:List LI)(k:Nat)(es:List Int):Int×Int:=
 addS (Vx (Yh (gt box k)) (YY g (es.map λe=>(e,e)) aA)) (YY g ((List.range box.length).map λc=>XN g k c (es.map λe=>(e,e)) R) (box.map λp=>Vx p (Yh p)))
theorem Nr (g:Int)(us vs:LI)(k:Nat){u v:Int×Int}(hu:us[k]?=some u)(hv:vs[k]?=some v):YY g (us.take (k+1)) (vs.take (k+1))=addS (YY g (us.take k) (vs.take k)) (Yn u v g):=by
 unfold YY;have l1:=(zA.mp hu).1
 have l2:=(zA.mp hv).1;rw[Yt hu,Yt hv,List.zip_append (by rw[zK,zK];lia),xA];rfl
theorem ML (g:Int)(us vs:LI):YY g (us.take (min us.length vs.length)) (vs.take (min us.length vs.length))=YY g us vs:=by
 unfold YY;congr 1;show List.zipWith Prod.mk _ _=List.zipWith Prod.mk _ _;rw[<- uZ,yM (by rw[wV];exact zB _)]
def Bd (B:Nat)(vs:LI):Prop:=∀p∈vs,Sz B p.1/\Sz B p.2
theorem Nm (hg:1<=g)(h1:Bd A us)(h2:Bd B vs):∀k:Nat,k<=us.length->k<=vs.length->Sz (A+B+k+1) (YY g (us.take k) (vs.take k)).1/\Sz (A+B+k+1) (YY g (us.take k) (vs.take k)).2
 | 0,_,_=>⟨yJ ⋯,yJ ⋯⟩
 | k+1,l1,l2=>by
  have hu:=zD (show k<us.length by lia)
  have hv:=zD (show k<vs.length by lia);rw[Nr g us vs k hu hv];have ih:=Nm hg h1 h2 k () ()
  have a:=h1 _ (zF hu)
  have b:=h2 _ (zF hv)
  have m:=Se hg a.1 a.2 b.1 b.2;exact⟨(ih.1.add m.1).mono (),(ih.2.add m.2).mono ()⟩
theorem Ig (hg:1<=g)(h1:Bd A us)(h2:Bd B vs)(l:us.length<=60):Sz (A+B+61) (YY g us vs).1/\Sz (A+B+61) (YY g us vs).2:=by
 rw[<- ML];have z:=Nm hg h1 h2 (min us.length vs.length) () ();exact⟨z.1.mono (),z.2.mono ()⟩
theorem Je {is:List Nat}{ta:TDA}{tb:TDS}{E:Xw}{dl:Ev}{S:Sto}{n n':Nat}{xs ys:List D}(W:Nat->Ev->Prop)(hta:∀K:List D->Sto->Prop,K [.ref n,.ref n'] S->ta dl S K)(h1:S[n]?=some (.lst xs))(h2:S[n']?=some (.lst ys))(h0:W 0 dl)
  (hb:∀(k:Nat)(x y:D)(dl':Ev)(nx ct:Ev->Sto->Prop),xs[k]?=some x->ys[k]?=some y->W k dl'->(∀dl2,W (k+1) dl2->nx dl2 S)->tb { nx:=nx,rt:=E.rt,bk:=E.nx,ct:=ct } (Vt is [x,y] dl') S)(he:∀dl',W (min xs.length ys.length) dl'->E.nx dl' S):Su is ta tb E dl S:=by
 unfold Su;refine hta _ ⟨⟨by rw[ZR h1 rfl];rfl,by rw[ZR h2 rfl];rfl⟩,λk m dl' S'=>S'=S/\W k dl'/\k+m=min xs.length ys.length,⟨min xs.length ys.length,rfl,h0,by simp⟩,?_⟩;rintro k m dl' S' ⟨rfl,w,hk⟩;simp only[ZR h1 rfl,ZR h2 rfl,Zk];split
 .rename_i x y e1 e2;have l1:=(zA.mp e1).1
  have l2:=(zA.mp e2).1;exact hb k x y dl' _ _ e1 e2 w (λdl2 w2=>⟨m-1,(),rfl,w2,()⟩)
 .rename_i no;have ek:k=min xs.length ys.length:=by
   by_cases l:k<min xs.length ys.length
   .exact absurd (zD ()) (no _ _ (zD ()))
   .lia
  exact⟨ek,he _ (ek ▸ w)⟩
theorem Np {B:Nat}{p:Int×Int}(h1:Sz B p.1)(h2:Sz B p.2):Sz (B+1) (mid p):=(h1.add h2).div ⋯ |>.mono ()
theorem Mj (hp:Sz B p.1/\Sz B p.2)(hq:Sz C q.1/\Sz C q.2):Sz (max B C+1) (Vx p q).1/\Sz (max B C+1) (Vx p q).2:=⟨hp.1.sub hq.2,hp.2.sub hq.1⟩
def Uv (S:Sto)(ds:List D)(M:List (List Int)):Prop:=ds.length=M.length/\∀(k:Nat)(d:D)(r:List Int),ds[k]?=some d->M[k]?=some r->∃a,d=.ref a/\S[a]?=some (.lst (r.map D.int))
theorem Uv.pre {S T:Sto}{ds:List D}{M:List (List Int)}(h:Uv S ds M)(p:Pre S T):Uv T ds M:=⟨h.1,λk d r hd hr=>by
 obtain⟨a,e,s⟩:=h.2 k d r hd hr;exact⟨a,e,p _ _ s⟩⟩
theorem DE {p:Int×Int}(h:p.1<=p.2):p.1<=mid p/\mid p<=p.2:=by unfold mid;lia
theorem RK {B:Nat}{bs:LI}(h:Spn B bs):Spn B (bs.map Yh):=λp hp=>by
 obtain⟨x,hx,rfl⟩:=zH.mp hp;obtain⟨a,b,c⟩:=h x hx;have z:=DE a
 have s:Sz B (mid x):=by
  unfold Sz at *
  lia
 exact⟨zV _,s,s⟩
def hs:Nat->Int->Int->Int
 | 0,_,_=>0
 | k+1,x,y=>x*hs k x y+y^k
def In (p:Int×Int)(x:Rat):Prop:=(p.1:Rat)<=x/\x<=(p.2:Rat)
theorem CB {ns:List Nd}{ws:List Nat}{bs:LI}{g:Int}{is:List Nat}(net:ZE bs.length ns ws)(sb:Spn 51 bs)(hg:1<=g/\g<=1000000)(hi:∀i∈is,i<ns.length):Bd 2000 (is.map λ(i:Nat)=>gt (Zl (bs.map Yh) g ns) i):=λp hp=>by
 obtain⟨i,him,rfl⟩:=zH.mp hp;have net2:ZE ((bs.map Yh).length:Nat) ns ws:=by rw[zC];exact net
 have sp:=Uw net2 rfl (RK sb) hg ns.length (zB _);rw[yH] at sp;have z:=sp.at (i:=(i:Int)) ⟨(),by rw[YX];have:=hi i him;lia⟩;exact⟨z.2.1.mono ⋯,z.2.2.mono ⋯⟩
theorem NZ {ns:List Nd}{ws:List Nat}{bs:LI}{g:Int}{is:List Nat}(net:ZE bs.length ns ws)(sb:Spn 51 bs)(hg:1<=g/\g<=1000000)(hi:∀i∈is,i<ns.length):∀r∈(is.map λ(i:Nat)=>(Z3 (Zl bs g ns) g bs.length ns).getD i []),r.length=bs.length/\Bd 1023 r:=λr hr=>by
 have szw:=LJ net rfl sb hg
 have slw:SlW bs.length ws (Z3 (Zl bs g ns) g bs.length ns):=by
  have z:=Lf net szw (YX _ _ _) hg ns.length (zB _)
  rwa [yH] at z
 obtain⟨i,him,rfl⟩:=zH.mp hr;have hin:=hi i him
 have hl:i<(Z3 (Zl bs g ns) g bs.length ns).length:=by rw[UL];exact hin
 have e:(Z3 (Zl bs g ns) g bs.length ns).getD i []=(Z3 (Zl bs g ns) g bs.length ns)[i]:=by simp[hl]
 obtain⟨z1,z2⟩:=slw i _ (zD hl);rw[e];have w:=(net.w1 (i:=(i:Int)) ⟨(),()⟩).2;rw[zG] at w;exact⟨z1,λp hp=>⟨(z2 p hp).2.1.mono (),(z2 p hp).2.2.mono ()⟩⟩
theorem RL {ns:List Nd}{ws:List Nat}{bs:LI}{g:Int}{is:List Nat}(net:ZE bs.length ns ws)(sb:Spn 51 bs)(hg:1<=g/\g<=1000000)(hi:∀i∈is,i<ns.length):∀r∈(is.map λ(i:Nat)=>(Z3 (Zl bs g ns) g bs.length ns).getD i []),r.length=bs.length/\Bd 2000 r:=λr hr=>by
 obtain⟨z1,z2⟩:=NZ net sb hg hi r hr;exact⟨z1,λp hp=>⟨(z2 p hp).1.mono ⋯,(z2 p hp).2.mono ⋯⟩⟩
def YA (M:List (List Int))(r c:Nat):List (List Int):=(M.take r++M.drop (r+1)).map λe=>e.take c++e.drop (c+1)
def sgn (i:Int)(k:Nat):Int:=if k%2=1 then -i else i
def ZX:Nat->List (List Int)->Int
 | 0,_=>1
 | n+1,M=>((List.range (M.headD []).length).map λc=>(M.headD []).getD c 0*sgn (ZX n (YA M 0 c)) c).sum
def Sq (n:Nat)(M:List (List Int)):Prop:=M.length=n/\∀r∈M,r.length=n
theorem UM {n:Nat}{M:List (List Int)}(h:Sq (n+1) M){r c:Nat}(hr:r<=n)(hc:c<=n):Sq n (YA M r c):=by
 obtain⟨h1,h2⟩:=h;refine⟨by simp[YA];lia,λq hq=>?_⟩;simp only[YA,zH,yE] at hq;obtain⟨e,he,rfl⟩:=hq;have hm:e∈M:=he.elim wY wZ
 have:=h2 e hm;simp;lia
inductive Rows (S:Sto)(b:Nat):List D->List (List Int)->Prop
 | nil:Rows S b [] []
 | cons {a:Nat} {r:List Int} {ds:List D} {M:List (List Int)}:b<=a->S[a]?=some (.lst (r.map D.int))->Rows S b ds M->Rows S b (.ref a::ds) (r::M)
theorem Rows.keep (h:Rows S b ds M)(k:∀a o,b<=a->S[a]?=some o->T[a]?=some o):Rows T b ds M:=by
 induction h with
 | nil=>exact .nil
 | cons h1 h2 _ ih=>exact .cons h1 (k _ _ h1 h2) ih
theorem Rows.pre {S T:Sto}{b:Nat}{ds:List D}{M:List (List Int)}(h:Rows S b ds M)(p:Pre S T):Rows T b ds M:=h.keep λa o _ e=>p a o e
theorem Rows.low {S:Sto}{b c:Nat}{ds:List D}{M:List (List Int)}(h:Rows S b ds M)(k:c<=b):Rows S c ds M:=by
 induction h with
 | nil=>exact .nil
 | cons h1 h2 _ ih=>exact .cons (yF k h1) h2 ih
theorem Rows.len {S:Sto}{b:Nat}{ds:List D}{M:List (List Int)}(h:Rows S b ds M):ds.length=M.length:=by
 induction h with
 | nil=>rfl
 | cons _ _ _ ih=>simp[ih]
theorem Rows.get {S:Sto}{b:Nat}{ds:List D}{M:List (List Int)}(h:Rows S b ds M):∀ {k:Nat} {d:D},ds[k]?=some d->∃a r,d=.ref a/\b<=a/\M[k]?=some r/\S[a]?=some (.lst (r.map D.int)):=by
 induction h with
 | nil=>intro k d e;simp at e
 | cons h1 h2 _ ih=>
  intro k d e;cases k with
  | zero=>simp at e;exact⟨_,_,e.symm,h1,rfl,h2⟩
  | succ k=>exact ih (by simpa using e)
theorem Rows.get' {S:Sto}{b:Nat}{ds:List D}{M:List (List Int)}(h:Rows S b ds M){k:Nat}{r:List Int}(e:M[k]?=some r):∃a,ds[k]?=some (.ref a)/\b<=a/\S[a]?=some (.lst (r.map D.int)):=by
 have hk:k<ds.length:=by rw[h.len];exact(zA.mp e).1
 obtain⟨a,r',e1,e2,e3,e4⟩:=h.get (zD hk);rw[e3] at e;cases e
 exact⟨a,by rw[zD hk,e1],e2,e4⟩
theorem Rows.app (h:Rows S b ds M)(g:Rows S b es M'):Rows S b (ds++es) (M++M'):=by
 induction h with
 | nil=>exact g
 | cons h1 h2 _ ih=>exact .cons h1 h2 ih
theorem Rows.snoc {S:Sto}{b a:Nat}{r:List Int}{ds:List D}{M:List (List Int)}(h:Rows S b ds M)(h1:b<=a)(h2:S[a]?=some (.lst (r.map D.int))):Rows S b (ds++[.ref a]) (M++[r]):=h.app (.cons h1 h2 .nil)
theorem Rows.drop (h:Rows S b ds M):∀k:Nat,Rows S b (ds.drop k) (M.drop k):=by
 induction h with
 | nil=>intro k;simpa using Rows.nil
 | cons h1 h2 t ih=>
  intro k;cases k with
  | zero=>exact .cons h1 h2 t
  | succ k=>simpa using ih k
theorem Rows.take {S:Sto}{b:Nat}{ds:List D}{M:List (List Int)}(h:Rows S b ds M):∀k:Nat,Rows S b (ds.take k) (M.take k):=by
 induction h with
 | nil=>intro k;simpa using Rows.nil
 | cons h1 h2 t ih=>
  intro k;cases k with
  | zero=>simpa using Rows.nil
  | succ k=>simpa using Rows.cons h1 h2 (ih k)
def X0 (S:Sto)(n:Nat)(M:List (List Int)):Prop:=∃ds,S[n]?=some (.lst ds)/\Rows S 0 ds M
theorem X0.pre {S T:Sto}{n:Nat}{M:List (List Int)}(h:X0 S n M)(p:Pre S T):X0 T n M:=by
 obtain⟨ds,h1,h2⟩:=h;exact⟨ds,p _ _ h1,h2.pre p⟩
def Big (M:List (List Int)):Prop:=∀r∈M,∀x∈r,Sz 1030 x
theorem Big.minor {M:List (List Int)}(h:Big M)(r c:Nat):Big (YA M r c):=λq hq x hx=>by
 simp only[YA,zH,yE] at hq;obtain⟨e,he,rfl⟩:=hq;have hm:e∈M:=he.elim wY wZ;rcases yE.mp hx with z|z
 .exact h e hm x (wY z)
 .exact h e hm x (wZ z)
theorem N6 {B:Nat}:∀ {l:List Int},(∀x∈l,x.natAbs<=B)->l.sum.natAbs<=l.length*B
 | [],_=>by simp
 | x::l,h=>by
  have h1:=h x (by simp)
  have h2:=N6 (l:=l) λy hy=>h y (by simp[hy])
  rw[List.sum_cons,yG,Nat.succ_mul];lia
theorem DW {k:Nat}{l:List Int}(h:∀x∈l,Sz k x)(hl:l.length<=4):Sz (k+2) l.sum:=by
 have hp:0<2^k:=Nat.two_pow_pos k
 have h1:=N6 (B:=2^k-1) λx hx=>by have:=h x hx;unfold Sz at this;lia
 have h2:l.length*(2^k-1)<=4*(2^k-1):=Nat.mul_le_mul_right _ hl;unfold Sz;lia
theorem RF {k n:Nat}{i:Int}(h:Sz k i):Sz k (sgn i n):=by
 unfold sgn;split
 .exact h.neg
 .exact h
theorem Qn:∀ {n:Nat} {M:List (List Int)},Sq n M->Big M->n<=4->Sz (n*1034+1) (ZX n M)
 | 0,_,_,_,_=>by unfold Sz ZX;decide
 | n+1,M,h,b,hn=>by
  unfold ZX;obtain⟨r,M',rfl⟩:∃r M',M=r::M':=by
   match M,h.1 with
   | r::M',_=>exact⟨r,M',rfl⟩
  have hr:r.length=n+1:=h.2 r (by simp)
  have q:Sz ((n*1034+1031)+2) (((List.range ((r::M').headD []).length).map λc=>((r::M').headD []).getD c 0*sgn (ZX n (YA (r::M') 0 c)) c).sum):=by
   refine DW (λx hx=>?_) (by simp[hr];lia);obtain⟨c,hc,rfl⟩:=zH.mp hx;have hc':c<n+1:=by simpa [hr] using hc
   have e1:Sz 1030 ((r::M').headD [] |>.getD c 0):=by
    show Sz 1030 (r.getD c 0);rw[zR,zD ()];exact b r (by simp) _ (yO ..)
   have e2:=RF (n:=c) (Qn (UM h (zJ n) (show c<=n by lia)) (b.minor 0 c) ());exact(e1.mul e2).mono ()
  exact q.mono ()
theorem Pn (h:Sq n M)(b:Big M)(hn:n<=4):Sz 4140 (ZX n M):=(Qn h b hn).mono ()
theorem F4 {caps:List Nat}{tl te:TDE}{dl:Ev}{S T0:Sto}{Q:DK}{n:Nat}{ds:List D}{R:List (List Int)}(g:List Int->List Int)(htl:∀K:DK,K (.ref n) T0->tl dl S K)(hn:T0[n]?=some (.lst ds))(rows:Rows T0 0 ds R)(hl:ds.length<=1000)
  (ht:∀(a:Nat)(r:List Int)(S2:Sto)(K:DK),r∈R->S2[a]?=some (.lst (r.map D.int))->(∀(S3:Sto)(b:Nat),Pre S2 S3->S2.length<=b->S3[b]?=some (.lst ((g r).map D.int))->K (.ref b) S3)->te (some (.ref a)::Z9 caps dl) S2 K)
  (hq:∀(S2:Sto)(ys:List D),Pre T0 S2->S2[T0.length]?=some (.lst ys)->Rows S2 0 ys (R.map g)->Q (.ref T0.length) S2):Xs caps tl Xe te dl S Q:=by
 refine Le (S1:=T0) (n:=n) (o:=.lst ds) (λk ys S2=>Pre T0 S2/\S2[T0.length]?=some (.lst ys)/\ys.length=k/\Rows S2 (T0.length+1) ys ((R.take k).map g)) htl hn (λk ys S2 w=>⟨w.1 _ _ hn,w.2.1,w.2.2.1⟩) hl
  ⟨Pre.refl.push,Zo _ _,rfl,by simpa using Rows.nil⟩ (λk x ys S2 K hx w hK=>?_) (λys S2 w=>?_)
 .obtain⟨w1,w2,w3,w4⟩:=w;obtain⟨a,r,rfl,_,hr,ha⟩:=rows.get hx;refine ht a r S2 K (zF hr) (w1 _ _ ha) λS3 b p3 hb e3=>?_
  have hlt:=ZY w2;refine hK _ S3 (p3 _ _ w2) ⟨N8 (w1.trans p3) (zB _),Ys (p3 _ _ w2),by simp[w3],?_⟩;have e:(R.take (k+1)).map g=(R.take k).map g++[g r]:=by rw[xR,hr];simp
  rw[e];refine Rows.snoc (w4.keep λa o l q=>?_) () ?_
  .rw[zQ ()];exact p3 _ _ q
  .rw[zQ ()];exact e3
 .obtain⟨w1,w2,w3,w4⟩:=w;have e:R.take (Zk (.lst ds)).length=R:=yM (by show R.length<=ds.length;rw[rows.len];exact zB _);rw[e] at w4;exact hq S2 ys w1 w2 (w4.low (zJ _))
theorem FO {caps:List Nat}{ta:TDA}{te:TDE}{dl:Ev}{S T0:Sto}{Q:DK}{j:Nat}(g:Nat->List Int)(hta:∀K:List D->Sto->Prop,K [.int (j:Int)] T0->ta dl S K)(hj:j<=1000)
  (ht:∀(k:Nat)(S2:Sto)(K:DK),k<j->Pre T0 S2->(∀(S3:Sto)(b:Nat),Pre S2 S3->S2.length<=b->S3[b]?=some (.lst ((g k).map D.int))->K (.ref b) S3)->te (some (.int (k:Int))::Z9 caps dl) S2 K)
  (hq:∀(S2:Sto)(ys:List D),Pre T0 S2->S2[T0.length]?=some (.lst ys)->Rows S2 (T0.length+1) ys ((List.range j).map g)->Q (.ref T0.length) S2):WH caps ta Xe te dl S Q:=by
 refine Kt (S1:=T0) (j:=(j:Int)) (λk ys S2=>Pre T0 S2/\S2[T0.length]?=some (.lst ys)/\ys.length=k/\Rows S2 (T0.length+1) ys ((List.range k).map g)) hta () (λk ys S2 w=>⟨w.2.1,w.2.2.1⟩)
  ⟨Pre.refl.push,Zo _ _,rfl,by simpa using Rows.nil⟩ (λk ys S2 K hk w hK=>?_) (λys S2 w=>?_)
 .obtain⟨w1,w2,w3,w4⟩:=w;refine ht k S2 K () w1 λS3 b p3 hb e3=>?_
  have hlt:=ZY w2;refine hK _ S3 (p3 _ _ w2) ⟨N8 (w1.trans p3) (zB _),Ys (p3 _ _ w2),by simp[w3],?_⟩;rw[wO,yC];refine Rows.snoc (w4.keep λa o l q=>?_) () ?_
  .rw[zQ ()];exact p3 _ _ q
  .rw[zQ ()];exact e3
 .obtain⟨w1,w2,w3,w4⟩:=w;exact hq S2 ys w1 w2 w4
theorem Pj (h:S[n]?=some o)(hb:YI (Zk o)=some ns)(hq:Q (.int ns.sum) S):irr TR [.ref n] S Q:=by
 rw[Vl];unfold TR;simp only[ZR h (OS hb),hb];exact hq
theorem Rk (l:List Int):YI (l.map D.int)=some l:=by
 induction l with
 | nil=>rfl
 | cons x l ih=>simp only[xB,YI,ih,wN]
def U4 (M:List (List Int))(n:Nat)(w g:Int)(i j:Nat):Int:=(sgn (ZX n (YA M j i)) (j+i)*g*g).fdiv w
def Vq (M:List (List Int))(n:Nat)(w g:Int)(i:Nat):List Int:=(List.range (n+1)).map (U4 M n w g i)
def Xd (M:List (List Int))(n:Nat)(w g:Int):List (List Int):=(List.range (n+1)).map (Vq M n w g)
inductive Ords (S:Sto)(b:Nat):List D->List (List Int×Int)->Prop
 | nil:Ords S b [] []
 | cons {a:Nat} {o:List Int×Int} {ds:List D} {os:List (List Int×Int)}:b<=a->S[a]?=some (.lst (o.1.map D.int))->Ords S b ds os->Ords S b (.tup [.ref a,.int o.2]::ds) (o::os)
def Fit (n:Nat)(o:List Int×Int):Prop:=o.1.length=n/\(∀x∈o.1,0<=x/\x<n)/\(o.2=1\/o.2=-1)
instance (n:Nat) (o:List Int×Int):Decidable (Fit n o):=by unfold Fit;infer_instance
theorem MR {xs:List D}{i:Nat}:Z8 xs none (some (i:Int))=xs.take i:=by
 unfold L3.Z8;rw[HT.sIx_none,HT.sIx_nat,List.drop_zero,Nat.sub_zero];rw[List.take_eq_take_iff];lia
theorem Oi {xs:List D}{i:Nat}:Z8 xs (some (i:Int)) none=xs.drop i:=by
 unfold L3.Z8;rw[HT.sIx_none,HT.sIx_nat];rcases Nat.le_total i xs.length with h|h
 .rw[uG h];exact yM (by rw[wH];exact zB _)
 .rw[Nat.min_eq_right h,tM (zB _),tM h];simp
theorem Ks {r0:List Int}{k:Nat}{x:D}(hx:(r0.map D.int)[k]?=some x):x=.int (r0.getD k 0):=by
 have hk:k<r0.length:=by
  have:=(zA.mp hx).1
  rwa [zC] at this
 rw[zE,zD hk] at hx;rw[zR,zD hk];exact(Option.some.inj hx).symm
theorem Iz (sq:Sq (n+1) (r0::M'))(big:Big (r0::M'))(hn:n<=3)(hk:k<n+1):IntMulOk (r0.getD k 0) (sgn (ZX n (YA (r0::M') 0 k)) (0+k)):=by
 have lr:r0.length=n+1:=sq.2 r0 (by simp)
 have e1:Sz 1030 (r0.getD k 0):=by
  rw[zR,zD ()];exact big r0 (by simp) _ (yO ..)
 exact ZD e1 (RF (Pn (UM sq (zJ _) ()) (big.minor 0 k) ()))
theorem G4 (n:Nat)(r0:List Int)(M':List (List Int)):YI ((r0.map D.int).mapIdx λk d=>D.int (r0.getD k 0*sgn (ZX n (YA (r0::M') 0 k)) k))=some ((List.range r0.length).map λk=>r0.getD k 0*sgn (ZX n (YA (r0::M') 0 k)) k):=by
 have e:(r0.map D.int).mapIdx (λk d=>D.int (r0.getD k 0*sgn (ZX n (YA (r0::M') 0 k)) k))=((List.range r0.length).map λk=>r0.getD k 0*sgn (ZX n (YA (r0::M') 0 k)) k).map D.int:=by
  refine List.ext_getElem (by simp) λk h1 h2=>?_
  simp
 rw[e,Rk]
theorem HW {m a:Nat}{S:Sto}{ds:List D}{K:List D->Sto->Prop}(hm:S[m]?=some (.lst ds))(hd:ds[0]?=some (.ref a))(hK:K [.ref a] S):wIx (.ref m) (.int 0) S (λx S1=>K [x] S1):=by
 have z:=Zz (Q:=λx S1=>K [x] S1) hm (YC hd) hK;rw[XY] at z;exact z
theorem Rows.toI (h:Rows S b ds M):Uv S ds M:=⟨h.len,λk d r hd hr=>by
 obtain⟨a,r',e,_,e3,e4⟩:=h.get hd;rw[e3] at hr;cases hr;exact⟨a,e,e4⟩⟩
theorem Bu (h:i∈eqs rows):(true,i)∈rows:=by
 obtain⟨⟨b,n⟩,hr,e⟩:=vF.mp h;cases b
 .cases e
 .cases e;exact hr
def S8 (rows:List (Bool×Nat))(vs:LI):Bool:=rows.all λr=>r.1||decide (0<=(gt vs (r.2:Int)).1)
theorem QS (vs:LI):∀rows:List (Bool×Nat),YN (((rows.map rwD)).filterMap (λd=>match d with|.tup [.str w,.int at']=>if w="least" then some (.bl (decide (0<=(gt vs at').1))) else none|_=>none))=some (rows.filterMap λr=>if r.1 then none else some (decide (0<=(gt vs (r.2:Int)).1)))
 | []=>rfl
 | (false,n)::rs=>by
  show (YN ((rs.map rwD).filterMap _)).map _=_;rw[QS vs rs];rfl
 | (true,n)::rs=>QS vs rs
theorem R9 (vs:LI):∀rows:List (Bool×Nat),((rows.filterMap λr=>if r.1 then none else some (decide (0<=(gt vs (r.2:Int)).1))).all id)=S8 rows vs
 | []=>rfl
 | (false,n)::rs=>by
  show (decide _&&(rs.filterMap _).all id)=_;rw[R9 vs rs];rfl
 | (true,n)::rs=>R9 vs rs
def Qs (p q:Int×Int):Bool:=decide (q.1<p.1)&&decide (p.2<q.2)
def RN (us vs:LI):Bool:=(List.zipWith Qs us vs).all id
def dpW:D->D->D
 | .tup [.int a,.int b],.tup [.int c,.int d]=>.bl (decide (c<a)&&decide (b<d))
 | _,_=>.non
theorem JY (us vs:LI):YN (List.zipWith dpW (us.map frD) (vs.map frD))=some (List.zipWith Qs us vs):=by
 induction us generalizing vs with
 | nil=>rfl
 | cons u us ih=>
  cases vs with
  | nil=>rfl
  | cons v vs=>
   show (YN (List.zipWith _ (us.map frD) (vs.map frD))).map _=_;rw[ih];rfl
def Pt (g:Int)(bs:LI)(ns:List Nd)(rows:List (Bool×Nat)):LI:=(eqs rows).map λ(i:Nat)=>gt (Zl (bs.map Yh) g ns) i
def X5 (g:Int)(bs:LI)(ns:List Nd)(rows:List (Bool×Nat)):List LI:=(eqs rows).map λ(i:Nat)=>(Z3 (Zl bs g ns) g bs.length ns).getD i []
def Yp (g:Int)(bs:LI)(ns:List Nd)(rows:List (Bool×Nat)):List (List Int):=(X5 g bs ns rows).map λr=>r.map mid
def Ur (g:Int)(bs:LI)(ns:List Nd)(rows:List (Bool×Nat))(M:List (List Int)):LI:=M.mapIdx λk es=>V6 g bs (Pt g bs ns rows) (X5 g bs ns rows) k es
def alS (g:Int)(bs:LI)(ns:List Nd)(rows:List (Bool×Nat)):Option (List (List Int)×LI):=
 if (eqs rows).length=bs.length/\S8 rows (Zl bs g ns)=true then
  if ZX bs.length (Yp g bs ns rows)=0 then none
  else if RN (Ur g bs ns rows (Xd (Yp g bs ns rows) (bs.length-1) (ZX bs.length (Yp g bs ns rows)) g)) bs=true then some (Xd (Yp g bs ns rows) (bs.length-1) (ZX bs.length (Yp g bs ns rows)) g,Ur g bs ns rows (Xd (Yp g bs ns rows) (bs.length-1) (ZX bs.length (Yp g bs ns rows)) g))
  else none
 else none
theorem LW (M:List (List Int))(n:Nat)(w g:Int):(Xd M n w g).length=n+1:=by simp[Xd]
theorem Dn:∀r∈Xd M n w g,r.length=n+1:=λr hr=>by
 unfold Xd at hr;obtain⟨i,_,rfl⟩:=zH.mp hr;simp[Vq]
theorem Eo (t w:Int)(hw:w≠0):(t.fdiv w).natAbs<=t.natAbs+1:=by
 rcases Int.lt_or_lt_of_ne hw with h|h
 .have e:t.fdiv w=(-t).fdiv (-w):=by rw[Int.neg_fdiv_neg]
  have:=tN (-t) (-w);lia
 .rw[uQ _ ()];have:=tN t w;lia
theorem FC (sq:Sq (n+1) M)(big:Big M)(hn:n<=3)(hw:w≠0)(hg:1<=g/\g<=1000000):∀r∈Xd M n w g,∀x∈r,Sz 4000 x:=λr hr x hx=>by
 unfold Xd at hr;obtain⟨i,hi,rfl⟩:=zH.mp hr;unfold Vq at hx;obtain⟨j,hj,rfl⟩:=zH.mp hx;have hi9:=yT.mp hi
 have hj9:=yT.mp hj;unfold U4;have e2:=RF (n:=j+i) (Qn (UM sq (show j<=n by lia) (show i<=n by lia)) (big.minor j i) ())
 have eg:Sz 20 g:=Sz.of 1000000 ()
 have e3:=(e2.mul eg).mul eg
 have e4:Sz 3999 (sgn (ZX n (YA M j i)) (j+i)*g*g):=e3.mono ()
 have:=Eo (sgn (ZX n (YA M j i)) (j+i)*g*g) w hw;unfold Sz at *
 have e5:2^4000=2*2^3999:=by rw[vJ];lia
 have e6:1<2^3999:=Nat.one_lt_two_pow ⋯;lia
theorem NI {caps:List Nat}{ta:TDA}{tc:TDT}{te:TDE}{dl:Ev}{S S1:Sto}{Q:DK}{n:Nat}{xs:List D}(W:Nat->List D->Sto->Prop)(b:Nat->D->Bool)(hta:∀K:List D->Sto->Prop,K [.ref n] S1->ta dl S K)(h1:S1[n]?=some (.lst xs))(hw:∀k ys S2,W k ys S2->S2[n]?=some (.lst xs)/\S2[S1.length]?=some (.lst ys)/\ys.length<=k)(hl:xs.length<=900)(h0:W 0 [] (S1++[.lst []]))
  (hc:∀(k:Nat)(x:D)(ys:List D)(S2:Sto)(K:Bool->Sto->Prop),xs[k]?=some x->W k ys S2->K (b k x) S2->tc (some (.int (k:Int))::some x::Z9 caps dl) S2 K)
  (hno:∀(k:Nat)(x:D)(ys:List D)(S2:Sto),xs[k]?=some x->b k x=false->W k ys S2->W (k+1) ys S2)
  (ht:∀(k:Nat)(x:D)(ys:List D)(S2:Sto)(K:DK),xs[k]?=some x->b k x=true->W k ys S2->(∀y S3,S3[S1.length]?=some (.lst ys)->W (k+1) (ys++[y]) (S3.set S1.length (.lst (ys++[y])))->K y S3)->te (some (.int (k:Int))::some x::Z9 caps dl) S2 K)
  (hq:∀ys S2,W xs.length ys S2->Q (.ref S1.length) S2):Va caps ta tc te dl S Q:=by
 unfold Va;refine hta _ ⟨by rw[ZR h1 rfl];rfl,λk m S2=>(∃ys,W k ys S2)/\m+k=xs.length,⟨xs.length,⟨_,h0⟩,()⟩,?_⟩;rintro k m S2 ⟨⟨ys,w⟩,hm⟩;obtain⟨w1,w2,w3⟩:=hw _ _ _ w;rw[ZR w1 rfl];dsimp only[Zk];split
 .rename_i x hx;have hk:k<xs.length:=(zA.mp hx).1;refine hc k x ys S2 _ hx w ?_;cases e:b k x with
  | false=>
   exact⟨m-1,(),⟨_,hno k x ys S2 hx e w⟩,()⟩
  | true=>
   refine ht k x ys S2 _ hx e w λy S3 e3 w4=>?_
   rw[e3];exact⟨(),m-1,(),⟨_,w4⟩,()⟩
 .rename_i hx;have hk:k=xs.length:=by
   have:=yY.mp hx;lia
  exact⟨hk,hq ys S2 (hk ▸ w)⟩
theorem SR {xs:List D}{k:Nat}{d:D}{S:Sto}{Q:DK}(h:xs[k]?=some d)(hq:Q d S):Y4 wIx (.tup xs) (.int (k:Int)) S Q:=by
 rw[XY];show (match atI xs (k:Int) with|some d=>Q d S|none=>False);rw[YC h];exact hq
inductive Ft where
 | wait|small
 | one (M:List (List Int)) (aB sp th:LI) (sl:List LI)
 | cut (k:Nat) (p:Int) (a b:Nat)
 | out (r:Nat) (vs:LI)
 | full (vs:LI)
def Vs (a b:Nat)(S:Sto)(m:Nat)(vs:LI):Prop:=m≠a/\m≠b/\S[m]?=some (.lst (vs.map frD))
def WO (a b:Nat)(S:Sto)(m:Nat)(vs:LI):Prop:=a<m/\b<m/\S[m]?=some (.lst (vs.map frD))
def X3 (a b:Nat)(S:Sto)(d:D):Ft->Prop
 | .wait=>d=.non
 | .small=>d=.tup [.str "small"]
 | .one M aB sp th sl=>∃(m1 m2 m3 m4 m5 lo:Nat)(ms ss:List D),d=.tup [.str "one",.ref m1,.ref m2,.ref m3,.ref m4,.ref m5]/\(a<lo/\b<lo/\lo<=m1/\lo<=m5)/\S[m1]?=some (.lst ms)/\Rows S lo ms M/\WO a b S m2 aB/\WO a b S m3 sp/\WO a b S m4 th/\S[m5]?=some (.lst ss)/\Z4 S lo ss sl
 | .cut k p x y=>d=.tup [.str "cut",.int k,.int p,.int x,.int y]
 | .out r vs=>∃m,d=.tup [.str "out",.int r,.ref m]/\WO a b S m vs
 | .full vs=>∃m,d=.tup [.str "full",.ref m]/\WO a b S m vs
def Cg (a b:Nat)(S T:Sto):Prop:=S.length<=T.length/\∀(x:Nat)(o:Ob),x≠a->x≠b->S[x]?=some o->T[x]?=some o
theorem Cg.refl:Cg a b S S:=⟨zB _,λ_ _ _ _ e=>e⟩
theorem Cg.trans {a b:Nat}{S T U:Sto}(h:Cg a b S T)(k:Cg a b T U):Cg a b S U:=⟨yF h.1 k.1,λx o na nb e=>k.2 x o na nb (h.2 x o na nb e)⟩
theorem Cg.pre {a b:Nat}{S T:Sto}(h:Pre S T):Cg a b S T:=⟨Yj h,λx o _ _ e=>h x o e⟩
theorem Cg.seta (u:Ob):Cg a b S (S.set a u):=⟨by rw[yA];exact zB _,λx o na _ e=>Z2 e (Ne.symm na)⟩
theorem Cg.setb (u:Ob):Cg a b S (S.set b u):=⟨by rw[yA];exact zB _,λx o _ nb e=>Z2 e (Ne.symm nb)⟩
theorem Vs.cg (h:Vs a b S m vs)(c:Cg a b S T):Vs a b T m vs:=⟨h.1,h.2.1,c.2 _ _ h.1 h.2.1 h.2.2⟩
theorem WO.cg {a b m:Nat}{S T:Sto}{vs:LI}(h:WO a b S m vs)(c:Cg a b S T):WO a b T m vs:=⟨h.1,h.2.1,c.2 _ _ (yZ h.1) (yZ h.2.1) h.2.2⟩
theorem X3.cg (h:X3 a b S d f)(c:Cg a b S T):X3 a b T d f:=by
 cases f with
 | out r vs=>obtain⟨m,e,o⟩:=h;exact⟨m,e,o.cg c⟩
 | full vs=>obtain⟨m,e,o⟩:=h;exact⟨m,e,o.cg c⟩
 | wait=>exact h
 | small=>exact h
 | one M aB sp th sl=>
  obtain⟨m1,m2,m3,m4,m5,lo,ms,ss,e,l,h1,rI,o2,o3,o4,h5,rP⟩:=h;exact⟨m1,m2,m3,m4,m5,lo,ms,ss,e,l,c.2 _ _ () () h1,rI.keep λx o l2 z=>c.2 _ _ () () z,o2.cg c,o3.cg c,o4.cg c,c.2 _ _ () () h5,rP.keep λx o l2 z=>c.2 _ _ () () z⟩
 | cut k p x y=>exact h
structure Bk (C:Addr)(S:Sto)(n a b:Nat)(es:List LI)(fs:List Ft):Prop where
 ins:S[n]?=some (.ins C [("boxes",.ref a),("fates",.ref b)])
 bx:∃bs:List D,S[a]?=some (.lst bs)/\bs.length=es.length/\∀(i:Nat)(e:LI),es[i]?=some e->∃m,bs[i]?=some (.ref m)/\Vs a b S m e
 ft:∃ds:List D,S[b]?=some (.lst ds)/\ds.length=fs.length/\∀(i:Nat)(f:Ft),fs[i]?=some f->∃d,ds[i]?=some d/\X3 a b S d f
 ne:a≠b
 len:es.length=fs.length
theorem Bk.na (h:Bk C S n a b es fs):n≠a/\n≠b:=by
 obtain⟨bs,h1,_⟩:=h.bx;obtain⟨ds,h2,_⟩:=h.ft;refine⟨λe=>?_,λe=>?_⟩
 .have:=h.ins;rw[e,h1] at this;cases this
 .have:=h.ins;rw[e,h2] at this;cases this
theorem Bk.pre {C:Addr}{S T:Sto}{n a b:Nat}{es:List LI}{fs:List Ft}(h:Bk C S n a b es fs)(p:Pre S T):Bk C T n a b es fs:=by
 obtain⟨bs,h1,h2,h3⟩:=h.bx;obtain⟨ds,k1,k2,k3⟩:=h.ft;refine⟨p _ _ h.ins,⟨bs,p _ _ h1,h2,λi e he=>?_⟩,⟨ds,p _ _ k1,k2,λi f hf=>?_⟩,h.ne,h.len⟩
 .obtain⟨m,e1,e2⟩:=h3 i e he;exact⟨m,e1,e2.cg (.pre p)⟩
 .obtain⟨d,e1,e2⟩:=k3 i f hf;exact⟨d,e1,e2.cg (.pre p)⟩
theorem Oz (h:(xs++[x])[i]?=some y):xs[i]?=some y\/(i=xs.length/\y=x):=by
 by_cases c:i<xs.length
 .rw[zL c] at h;exact .inl h
 .have l:=(zA.mp h).1
  have e:i=xs.length:=by simp at l;lia
  subst e;simp at h;exact .inr ⟨rfl,h.symm⟩
theorem Bk.put {C:Addr}{S:Sto}{n a b m:Nat}{es:List LI}{fs:List Ft}{e:LI}{bs ds:List D}(h:Bk C S n a b es fs)(o:Vs a b S m e)(h1:S[a]?=some (.lst bs))(k1:S[b]?=some (.lst ds)):
  Bk C ((S.set a (.lst (bs++[.ref m]))).set b (.lst (ds++[.non]))) n a b (es++[e]) (fs++[.wait])/\Cg a b S ((S.set a (.lst (bs++[.ref m]))).set b (.lst (ds++[.non]))):=by
 have cg:Cg a b S ((S.set a (.lst (bs++[.ref m]))).set b (.lst (ds++[.non]))):=(Cg.seta _).trans (Cg.setb _);obtain⟨bs',h1',h2,h3⟩:=h.bx;rw[h1] at h1';cases h1'
 obtain⟨ds',k1',k2,k3⟩:=h.ft;rw[k1] at k1';cases k1'
 refine⟨⟨cg.2 _ _ h.na.1 h.na.2 h.ins,⟨_,Z2 (Ys h1) (Ne.symm h.ne),by simp[h2],λi x hx=>?_⟩,⟨_,Ys (Z2 k1 h.ne),by simp[k2],λi f hf=>?_⟩,h.ne,by simp[h.len]⟩,cg⟩
 .rcases Oz hx with z|⟨rfl,rfl⟩
  .obtain⟨q,q1,q2⟩:=h3 i x z;exact⟨q,by rw[zL (zA.mp q1).1];exact q1,q2.cg cg⟩
  .exact⟨m,by rw[<- h2];simp,o.cg cg⟩
 .rcases Oz hf with z|⟨rfl,rfl⟩
  .obtain⟨q,q1,q2⟩:=k3 i f z;exact⟨q,by rw[zL (zA.mp q1).1];exact q1,q2.cg cg⟩
  .exact⟨.non,by rw[<- k2];simp,rfl⟩
theorem Bk.fate (h:Bk C S n a b es fs)(o:X3 a b S d f)(k1:S[b]?=some (.lst ds)):
  Bk C (S.set b (.lst (ds.set i d))) n a b es (fs.set i f)/\Cg a b S (S.set b (.lst (ds.set i d))):=by
 have cg:Cg a b S (S.set b (.lst (ds.set i d))):=Cg.setb _;obtain⟨bs,h1,h2,h3⟩:=h.bx;obtain⟨ds',k1',k2,k3⟩:=h.ft;rw[k1] at k1';cases k1'
 refine⟨⟨cg.2 _ _ h.na.1 h.na.2 h.ins,⟨bs,Z2 h1 (Ne.symm h.ne),h2,λj x hx=>?_⟩,⟨_,Ys k1,by simp[k2],λj x hx=>?_⟩,h.ne,by simp[h.len]⟩,cg⟩
 .obtain⟨q,q1,q2⟩:=h3 j x hx;exact⟨q,q1,q2.cg cg⟩
 .by_cases c:i=j
  .subst c;have l:i<fs.length:=by
    have:=(zA.mp hx).1
    rwa [yA] at this
   rw[yS l] at hx;cases hx;exact⟨d,by rw[yS ()],o.cg cg⟩
  .rw[zQ c] at hx;obtain⟨q,q1,q2⟩:=k3 j x hx;exact⟨q,by rw[zQ c];exact q1,q2.cg cg⟩
theorem Bk.box {C:Addr}{S:Sto}{n a b i:Nat}{es:List LI}{fs:List Ft}{e:LI}(h:Bk C S n a b es fs)(he:es[i]?=some e):∃(bs:List D)(m:Nat),S[a]?=some (.lst bs)/\bs[i]?=some (.ref m)/\Vs a b S m e:=by
 obtain⟨bs,h1,h2,h3⟩:=h.bx;obtain⟨m,q1,q2⟩:=h3 i e he;exact⟨bs,m,h1,q1,q2⟩
def wd (p:Int×Int):Int:=p.2-p.1
def Wst (bs:LI)(m:Int):Prop:=(∀p∈bs,wd p<=m)/\(bs=[]/\m=0\/∃p∈bs,m=wd p)
def suB (zero:Bool)(s:Int×Int):Bool:=if zero then decide (s.1=0)&&decide (s.2=0) else decide (0<=s.1)
def suS (ns:List Nd)(rows:List (Bool×Nat))(e:LI)(g:Int):Bool:=rows.all λr=>suB r.1 (gt (Zl e g ns) (r.2:Int))
def FOk (g fine:Int)(ns:List Nd)(rows:List (Bool×Nat))(e:LI):Ft->Prop
 | .out r vs=>∃row,rows[r]?=some row/\vs=Zl e g (ns.take (row.2+1))/\ibS ns row.1 row.2 e g=true
 | .full vs=>vs=Zl e g ns/\(∀row∈rows,ibS ns row.1 row.2 e g=false)/\suS ns rows e g=true
 | .one M aB sp th sl=>alS g e ns rows=some (M,aB)/\sp=Zl e g ns/\th=Zl (e.map Yh) g ns/\sl=Z3 (Zl e g ns) g e.length ns
 | .small=>(∀p∈e,wd p<=fine)/\(∀row∈rows,ibS ns row.1 row.2 e g=false)/\suS ns rows e g=false
 | _=>False
inductive Bks (g fine:Int)(ns:List Nd)(rows:List (Bool×Nat))(b0:LI):List LI->List Ft->Prop
 | new:Bks g fine ns rows b0 [b0] [.wait]
 | cut {es:List LI} {fs:List Ft} {i k:Nat} {e:LI} {s:Int×Int} {p:Int}:Bks g fine ns rows b0 es fs->fs[i]?=some .wait->es[i]?=some e->e[k]?=some s->s.1<p->p<s.2->
   Bks g fine ns rows b0 (es++[e.set k (s.1,p)]++[e.set k (p,s.2)]) ((fs++[Ft.wait]++[Ft.wait]).set i (.cut k p es.length (es.length+1)))
 | put {es:List LI} {fs:List Ft} {i:Nat} {e:LI} {f:Ft}:Bks g fine ns rows b0 es fs->fs[i]?=some .wait->es[i]?=some e->FOk g fine ns rows e f->Bks g fine ns rows b0 es (fs.set i f)
theorem MI (h:Spn n e)(hp:p.1<=p.2/\Sz n p.1/\Sz n p.2):Spn n (e.set k p):=λq hq=>by
 rcases tJ hq with z|rfl
 .exact h q z
 .exact hp
theorem Bks.ok (sb:Spn 51 b0)(h:Bks g fine ns rows b0 es fs):es.length=fs.length/\∀e∈es,e.length=b0.length/\Spn 51 e:=by
 induction h with
 | new=>exact⟨rfl,λe he=>by cases zT.mp he;exact⟨rfl,sb⟩⟩
 | @cut es fs i k e s p _ hw he hs h1 h2 ih=>
  obtain⟨l,a⟩:=ih;obtain⟨le,se⟩:=a e (zF he);have ss:=se s (zF hs)
  have zp:Sz 51 p:=Sz.mid ss.2.1 ss.2.2 () ();refine⟨by simp[l],λx hx=>?_⟩;rcases yE.mp hx with hx|hx
  .rcases yE.mp hx with hx|hx
   .exact a x hx
   .cases zT.mp hx;exact⟨by rw[yA];exact le,MI se ⟨by show s.1<=p;lia,ss.2.1,zp⟩⟩
  .cases zT.mp hx;exact⟨by rw[yA];exact le,MI se ⟨by show p<=s.2;lia,zp,ss.2.2⟩⟩
 | put _ _ _ _ ih=>exact⟨by rw[yA];exact ih.1,ih.2⟩
theorem Bks.shave {g fine:Int}{ns:List Nd}{rows:List (Bool×Nat)}{b0 e:LI}{es:List LI}{fs:List Ft}{j r:Nat}{row:Bool×Nat}{c:Ct}(h:Bks g fine ns rows b0 es fs)(l:es.length=fs.length)(hw:fs[j]?=some .wait)(he:es[j]?=some e)(hk:c.k<e.length)(hs:isS ns row.1 row.2 g e c=true)(hr:rows[r]?=some row):
  e[c.k]?=some (gt e (c.k:Int))/\
  (es++[e.set c.k ((gt e (c.k:Int)).1,c.p)]++[e.set c.k (c.p,(gt e (c.k:Int)).2)])[es.length+(if c.s then 1 else 0)]?=some (e.set c.k (c.off (gt e (c.k:Int))))/\
  ((fs++[Ft.wait]++[Ft.wait]).set j (.cut c.k c.p es.length (es.length+1)))[es.length+(if c.s then 1 else 0)]?=some .wait/\
  Bks g fine ns rows b0 (es++[e.set c.k ((gt e (c.k:Int)).1,c.p)]++[e.set c.k (c.p,(gt e (c.k:Int)).2)]) (((fs++[Ft.wait]++[Ft.wait]).set j (.cut c.k c.p es.length (es.length+1))).set (es.length+(if c.s then 1 else 0)) (.out r (Zl (e.set c.k (c.off (gt e (c.k:Int)))) g (ns.take (row.2+1)))))/\
  (es++[e.set c.k ((gt e (c.k:Int)).1,c.p)]++[e.set c.k (c.p,(gt e (c.k:Int)).2)])[es.length+(if c.s then 0 else 1)]?=some (ctP e c)/\
  (((fs++[Ft.wait]++[Ft.wait]).set j (.cut c.k c.p es.length (es.length+1))).set (es.length+(if c.s then 1 else 0)) (.out r (Zl (e.set c.k (c.off (gt e (c.k:Int)))) g (ns.take (row.2+1)))))[es.length+(if c.s then 0 else 1)]?=some .wait:=by
 have hek:e[c.k]?=some (gt e (c.k:Int)):=by
  have z:=zD hk;rw[z,O6 z]
 obtain⟨h1,h2⟩:=QE hs;have B:=h.cut hw he hek h1 h2
 have ib:ibS ns row.1 row.2 (e.set c.k (c.off (gt e (c.k:Int)))) g=true:=by
  unfold isS at hs;rw[tO] at hs;exact hs.2
 have lj:=(zA.mp hw).1;obtain⟨ck,cp,cs⟩:=c;cases cs with
 | true=>
  have e1:(es++[e.set ck ((gt e (ck:Int)).1,cp)]++[e.set ck (cp,(gt e (ck:Int)).2)])[es.length+1]?=some (e.set ck (cp,(gt e (ck:Int)).2)):=by simp
  have e2:(es++[e.set ck ((gt e (ck:Int)).1,cp)]++[e.set ck (cp,(gt e (ck:Int)).2)])[es.length]?=some (e.set ck ((gt e (ck:Int)).1,cp)):=by simp
  have f1:((fs++[Ft.wait]++[Ft.wait]).set j (.cut ck cp es.length (es.length+1)))[es.length+1]?=some .wait:=by
   rw[zQ (),l];simp
  have f2:((fs++[Ft.wait]++[Ft.wait]).set j (.cut ck cp es.length (es.length+1)))[es.length]?=some .wait:=by
   rw[zQ (),l];simp
  refine⟨hek,e1,f1,B.put f1 e1 ⟨row,hr,rfl,ib⟩,e2,?_⟩;rw[if_pos rfl,if_pos rfl,zQ ()];exact f2
 | false=>
  have e1:(es++[e.set ck ((gt e (ck:Int)).1,cp)]++[e.set ck (cp,(gt e (ck:Int)).2)])[es.length+1]?=some (e.set ck (cp,(gt e (ck:Int)).2)):=by simp
  have e2:(es++[e.set ck ((gt e (ck:Int)).1,cp)]++[e.set ck (cp,(gt e (ck:Int)).2)])[es.length]?=some (e.set ck ((gt e (ck:Int)).1,cp)):=by simp
  have f1:((fs++[Ft.wait]++[Ft.wait]).set j (.cut ck cp es.length (es.length+1)))[es.length+1]?=some .wait:=by
   rw[zQ (),l];simp
  have f2:((fs++[Ft.wait]++[Ft.wait]).set j (.cut ck cp es.length (es.length+1)))[es.length]?=some .wait:=by
   rw[zQ (),l];simp
  refine⟨hek,e2,f2,B.put f2 e2 ⟨row,hr,rfl,ib⟩,e1,?_⟩;rw[if_neg zO,if_neg zO,zQ ()];exact f1
structure Sr (S:Sto)(nd rw:Nat)(g:Int)(ns:List Nd)(ws:List Nat)(rows:List (Bool×Nat))(u:Nat):Prop where
 nd:S[nd]?=some (.lst (ns.map Nd.d))
 rw:S[rw]?=some (.lst (rows.map rwD))
 net:ZE u ns ws
 hg:1<=g/\g<=1000000
 l70:ns.length<=70
 rl:rows.length<=4
 ri:∀r∈rows,r.2<ns.length
 u1:1<=u/\u<=4
theorem Sr.pre {S T:Sto}{nd rw u:Nat}{g:Int}{ns:List Nd}{ws:List Nat}{rows:List (Bool×Nat)}(h:Sr S nd rw g ns ws rows u)(p:Pre S T):Sr T nd rw g ns ws rows u:=⟨p _ _ h.nd,p _ _ h.rw,h.net,h.hg,h.l70,h.rl,h.ri,h.u1⟩
def Apt (nd rw a b:Nat):Prop:=(nd≠a/\nd≠b)/\rw≠a/\rw≠b
theorem Sr.cg {S T:Sto}{nd rw u a b:Nat}{g:Int}{ns:List Nd}{ws:List Nat}{rows:List (Bool×Nat)}(h:Sr S nd rw g ns ws rows u)(p:Apt nd rw a b)(c:Cg a b S T):Sr T nd rw g ns ws rows u:=⟨c.2 _ _ p.1.1 p.1.2 h.nd,c.2 _ _ p.2.1 p.2.2 h.rw,h.net,h.hg,h.l70,h.rl,h.ri,h.u1⟩
theorem rww (b:Bool):rwW b (if b then "zero" else "least"):=by
 cases b
 .exact .inr ⟨rfl,rfl⟩
 .exact .inl ⟨rfl,rfl⟩
theorem M4 (net:ZE e.length ns ws)(se:Spn 51 e)(hg:1<=g/\g<=1000000)(hk:k<ns.length):
  ((shS ns zero k e g).2=none->ibS ns zero k e g=true)/\(shS ns zero k e g).1.length<=2*e.length/\∀(i:Nat)(c:Ct),(shS ns zero k e g).1[i]?=some c->isS ns zero k g (ctA e ((shS ns zero k e g).1.take i)) c=true/\c.k<e.length:=by
 unfold shS;cases hb:ibS ns zero k e g with
 | true=>exact⟨λ_=>rfl,zJ _,λi c hc=>by simp at hc⟩
 | false=>
  rw[if_neg zO];cases hn:nwS ns zero k e g with
  | none=>exact⟨λz=>(nomatch z),zJ _,λi c hc=>by simp at hc⟩
  | some r=>
   have lr:=(MA net se hg hk hn).1
   have C:=Q3 (ns:=ns) (zero:=zero) (k:=k) (g:=g) se lr r.length (zB _);exact⟨λz=>(nomatch z),by have:=C.few;rw[<- lr];exact this,C.is⟩
theorem FZ {bs:LI}{cs:List Ct}{i:Nat}{c:Ct}(h:cs[i]?=some c):ctA bs (cs.take (i+1))=ctP (ctA bs (cs.take i)) c:=by
 rw[Yt h,QL]
def Shd (es:List LI)(j:Nat)(es':List LI)(j':Nat):Prop:=es.length<=es'.length/\(es'.length=es.length->es'=es/\j'=j)
def Vd (S:Sto)(d:D):Ft->Prop
 | .wait=>d=.tup [.str "waits"]
 | f=>∃a b,X3 a b S d f
def En (T:Sto)(ds:List D)(es:List LI)(fs:List Ft):Prop:=ds.length=es.length/\es.length=fs.length/\∀(i:Nat)(e:LI)(f:Ft),es[i]?=some e->fs[i]?=some f->∃(m:Nat)(d:D),ds[i]?=some (.tup [.ref m,d])/\T[m]?=some (.lst (e.map frD))/\Vd T d f
def waD:D->D
 | .non=>.tup [.str "waits"]
 | d=>d
def Ou (x y:D):D:=.tup [x,waD y]
theorem Bk.told (h:Bk C S n a b es fs)(h1:S[a]?=some (.lst bs))(k1:S[b]?=some (.lst ds))(U:Sto):En (S++U) (List.zipWith Ou bs ds) es fs:=by
 obtain⟨bs',h1',h2,h3⟩:=h.bx;rw[h1] at h1';cases h1'
 obtain⟨ds',k1',k2,k3⟩:=h.ft;rw[k1] at k1';cases k1'
 have ll:=h.len;refine⟨by rw[wV];lia,h.len,λi e f he hf=>?_⟩;obtain⟨m,m1,m2⟩:=h3 i e he;obtain⟨d,d1,d2⟩:=k3 i f hf;refine⟨m,waD d,by rw[tK,m1,d1];rfl,Zu m2.2.2,?_⟩;have d3:=d2.cg (T:=S++U) (.pre λx o e=>Zu e);cases f with
 | wait=>cases d2;rfl
 | small=>cases d2;exact⟨a,b,d3⟩
 | one _ _ _ _ _=>obtain⟨_,_,_,_,_,_,_,_,rfl,_⟩:=id d2;exact⟨a,b,d3⟩
 | cut _ _ _ _=>cases d2;exact⟨a,b,d3⟩
 | out _ _=>obtain⟨_,rfl,_⟩:=d2;exact⟨a,b,d3⟩
 | full _=>obtain⟨_,rfl,_⟩:=d2;exact⟨a,b,d3⟩
theorem OH (k:Nat)(v:Int):∀zs:List Int,∃o,Xy (eqN k) (zs.map D.int) (.int v)=some o
 | []=>⟨none,rfl⟩
 | z::zs=>by
  obtain⟨o,ho⟩:=OH k v zs;have e:eqN k (.int z) (.int v)=some (decide (z=v)):=by cases k<;>rfl
  rw[xB];unfold Xy;rw[e,ho];cases decide (z=v)
  .exact⟨_,rfl⟩
  .exact⟨_,rfl⟩
theorem Nv {k:Nat}{v:Int}:∀ {zs:List Int},v∈zs->∃j,Xy (eqN k) (zs.map D.int) (.int v)=some (some j)/\zs[j]?=some v/\∀i:Nat,i<j->zs[i]?≠some v
 | z::zs,h=>by
  obtain⟨o,ho⟩:=OH k v zs;have e:eqN k (.int z) (.int v)=some (decide (z=v)):=by cases k<;>rfl
  rw[xB];unfold Xy;rw[e];by_cases c:z=v
  .subst c;rw[decide_eq_true rfl,ho];exact⟨0,rfl,rfl,λi hi=>absurd hi (Nat.not_lt_zero i)⟩
  .have hm:v∈zs:=by
    rcases zY.mp h with q|q
    .exact absurd q.symm c
    .exact q
   obtain⟨j,h1,h2,h3⟩:=Nv (k:=k) hm;rw[decide_eq_false c,h1];exact⟨j+1,rfl,h2,λi hi=>by
    cases i with
    | zero=>exact λq=>c (Option.some.inj q)
    | succ i=>exact h3 i ()⟩
theorem DF {k:Nat}{to:TDE}{t:TDA}{dl:Ev}{S S1:Sto}{Q:DK}{n:Nat}{zs:List Int}(R:Int->Sto->Prop)(hto:∀K:DK,K (.ref n) S1->to dl S K)(ht:∀K:List D->Sto->Prop,(∀v S2,R v S2->K [.int v] S2)->t dl S1 K)(h1:S1[n]?=some (.lst (zs.map D.int)))(hR:∀v S2,R v S2->S2[n]?=some (.lst (zs.map D.int))/\v∈zs)(hq:∀v S2 (j:Nat),R v S2->zs[j]?=some v->(∀i:Nat,i<j->zs[i]?≠some v)->Q (.int (j:Int)) S2):Ul k to t dl S Q:=by
 unfold Ul;refine hto _ ⟨by rw[ZR h1 rfl];rfl,ht _ λv S2 r=>?_⟩;obtain⟨h2,hv⟩:=hR v S2 r;unfold U8;dsimp only;rw[ZR h2 rfl];dsimp only[Zk];obtain⟨j,e1,e2,e3⟩:=Nv (k:=k) hv;rw[e1];exact hq v S2 j r e2 e3
theorem FW {e:LI}{g:Int}{ns:List Nd}{k:Nat}(hk:k<ns.length):gt (Zl e g (ns.take (k+1))) (k:Int)=gt (Zl e g ns) (k:Int):=by
 rw[<- JI e g ns (k+1) (),ET ⟨(),()⟩]
theorem O4 (ns:List Nd)(e:LI)(g:Int):∀rows:List (Bool×Nat),YN ((rows.map rwD).map (λd=>match d with|.tup [.str w,.int at']=>.bl (suB (decide (w="zero")) (gt (Zl e g ns) at'))|_=>.non))=some (rows.map λr=>suB r.1 (gt (Zl e g ns) (r.2:Int)))
 | []=>rfl
 | (b,n)::rs=>by
  show (YN ((rs.map rwD).map _)).map _=_;rw[O4 ns e g rs];cases b<;>rfl
theorem Cj (ns:List Nd)(e:LI)(g:Int):∀rows:List (Bool×Nat),((rows.map λr=>suB r.1 (gt (Zl e g ns) (r.2:Int))).all id)=suS ns rows e g:=λrows=>by
 rw[List.all_map];rfl
def YE (bs:LI):Int:=(bs.map wd).sum
theorem SQ:∀ {bs:LI},Spn 51 bs->0<=YE bs/\YE bs<=bs.length*2^52/\∀p∈bs,wd p<=YE bs
 | [],_=>⟨zV 0,⋯,λp hp=>(nomatch hp)⟩
 | p::bs,h=>by
  obtain⟨h1,h2,h3⟩:=SQ λq hq=>h q (yI _ hq)
  obtain⟨a,b,c⟩:=h p (yV ..);have e:YE (p::bs)=wd p+YE bs:=rfl;unfold Sz at b c;have w0:0<=wd p:=by unfold wd;lia
  have w1:wd p<=2^52:=by unfold wd;lia
  refine⟨(),by rw[yG];lia,λq hq=>?_⟩;rcases zY.mp hq with rfl|z
  .lia
  .have:=h3 q z;lia
theorem EC {tl td:TDE}{dl:Ev}{S S1 S2:Sto}{Q:DK}{n:Nat}{zs:List Int}{e:D}(htl:∀K:DK,K (.ref n) S1->tl dl S K)(htd:∀K:DK,K e S2->td dl S1 K)(h:S2[n]?=some (.lst (zs.map D.int)))(h0:zs=[]->Q e S2)(hq:∀m,m∈zs->(∀y∈zs,y<=m)->Q (.int m) S2):Th tl td dl S Q:=by
 unfold Th;refine htl _ (htd _ ?_);unfold V7;dsimp only;rw[ZR h rfl];exact⟨zs,Rk zs,h0,hq⟩
theorem Ht {caps:List Nat}{P:Addr}{lp:Pos}{q:Str}{tl te:TDE}{dl:Ev}{S S1:Sto}{Q:DK}{n t:Nat}{xs:List D}(key:Nat->Int)(htl:∀K:DK,K (.ref n) S1->tl dl S K)(ht:S1[t]?=some (.cod P lp q))(h:S1[n]?=some (.lst xs))(h0:xs=[]->Q .non S1)
  (hk:∀(i:Nat)(v:D)(S2:Sto)(K:DK),xs[i]?=some v->Pre S1 S2->(∀S3:Sto,Pre S2 S3->K (.int (key i)) S3)->te (some v::Z9 caps dl) S2 K)(hq:∀(i:Nat)(v:D)(S2:Sto),xs[i]?=some v->(∀k:Nat,k<xs.length->key k<=key i)->(∀k:Nat,k<i->key k<key i)->Pre S1 S2->Q v S2):TX caps P lp q tl te dl S Q:=by
 unfold TX;refine htl _ ?_;unfold UJ;refine⟨⟨t,ht⟩,?_⟩;rw[ZR h rfl];dsimp only[Zk];exact⟨key,h0,λi v S2 hv p=>hk i v S2 _ hv p λS3 p3=>⟨rfl,λx o e=>p3 _ _ (p _ _ e)⟩,hq⟩
theorem Wst.eq {bs:LI}{m m':Int}(h:Wst bs m)(k:Wst bs m'):m=m':=by
 rcases h.2 with ⟨e,z⟩|⟨p,hp,rfl⟩
 .rcases k.2 with ⟨_,z'⟩|⟨q,hq,_⟩
  .lia
  .rw[e] at hq;cases hq
 .rcases k.2 with ⟨e,_⟩|⟨q,hq,rfl⟩
  .rw[e] at hp;cases hp
  .have:=h.1 q hq
   have:=k.1 p hp;lia
noncomputable def Xx (bs:LI):Int:=Classical.epsilon (Wst bs)
theorem Wst.is {bs:LI}{m:Int}(h:Wst bs m):Xx bs=m:=(Classical.epsilon_spec (p:=Wst bs) ⟨m,h⟩).eq h
def WK (es:List LI)(fs:List Ft)(i:Nat):Prop:=fs[i]?=some .wait/\(∀k:Nat,fs[k]?=some .wait->Xx (es.getD k [])<=Xx (es.getD i []))/\∀k:Nat,k<i->fs[k]?=some .wait->Xx (es.getD k [])<Xx (es.getD i [])
theorem WK.eq {es:List LI}{fs:List Ft}{i j:Nat}(h:WK es fs i)(k:WK es fs j):i=j:=by
 rcases uH i j with c|c|c
 .have:=k.2.2 i c h.1
  have:=h.2.1 j k.1;lia
 .exact c
 .have:=h.2.2 j c k.1
  have:=k.2.1 i h.1;lia
def YJ (g:Int)(ns:List Nd)(r n:Nat)(st:List LI×List Ft×Nat)(c:Ct):List LI×List Ft×Nat:=
 (st.1++[(st.1.getD st.2.2 []).set c.k ((gt (st.1.getD st.2.2 []) (c.k:Int)).1,c.p)]++[(st.1.getD st.2.2 []).set c.k (c.p,(gt (st.1.getD st.2.2 []) (c.k:Int)).2)],
  ((st.2.1++[Ft.wait]++[Ft.wait]).set st.2.2 (.cut c.k c.p st.1.length (st.1.length+1))).set (st.1.length+(if c.s then 1 else 0)) (.out r (Zl ((st.1.getD st.2.2 []).set c.k (c.off (gt (st.1.getD st.2.2 []) (c.k:Int)))) g (ns.take (n+1)))),
  st.1.length+(if c.s then 0 else 1))
noncomputable def YV (g:Int)(ns:List Nd):Nat->List (Bool×Nat)->List LI×List Ft×Nat->List LI×List Ft×Nat
 | _,[],st=>st
 | r,row::rs,st=>match (shS ns row.1 row.2 (st.1.getD st.2.2 []) g).2 with
  | none=>(st.1,st.2.1.set st.2.2 (.out r (Zl (st.1.getD st.2.2 []) g (ns.take (row.2+1)))),st.2.2)
  | some _=>YV g ns (r+1) rs ((shS ns row.1 row.2 (st.1.getD st.2.2 []) g).1.foldl (YJ g ns r row.2) st)
theorem IV {α:Type}{xs:List α}{k:Nat}{x:α}(h:xs[k]?=some x):xs.drop k=x::xs.drop (k+1):=by
 obtain⟨l,rfl⟩:=zA.mp h;exact(List.getElem_cons_drop (h:=l)).symm
theorem Y2 {es:List LI}{j:Nat}{e:LI}(h:es[j]?=some e):es.getD j []=e:=by rw[zR,h];rfl
def Wv (g:Int)(ns:List Nd)(e:LI):Nat->List (Bool×Nat)->Option Ft
 | _,[]=>none
 | r,row::rs=>if ibS ns row.1 row.2 e g=true then some (.out r (Zl e g (ns.take (row.2+1)))) else Wv g ns e (r+1) rs
theorem UI {g:Int}{ns:List Nd}{e:LI}:∀ {rows:List (Bool×Nat)} {r:Nat},(∀row∈rows,ibS ns row.1 row.2 e g=false)->Wv g ns e r rows=none
 | [],_,_=>rfl
 | row::rs,r,h=>by
  unfold Wv;rw[h row (yV ..),if_neg zO];exact UI λx hx=>h x (yI _ hx)
theorem OF {g:Int}{ns:List Nd}{e:LI}{row:Bool×Nat}:∀ {rows:List (Bool×Nat)} {r k:Nat},rows[k]?=some row->ibS ns row.1 row.2 e g=true->(∀(i:Nat)(x:Bool×Nat),i<k->rows[i]?=some x->ibS ns x.1 x.2 e g=false)->Wv g ns e r rows=some (.out (r+k) (Zl e g (ns.take (row.2+1))))
 | x::rs,r,0,h,hb,_=>by
  cases h;unfold Wv;rw[if_pos hb];rfl
 | x::rs,r,k+1,h,hb,hn=>by
  unfold Wv;rw[hn 0 x (Nat.succ_pos _) rfl,if_neg zO,OF (k:=k) (r:=r+1) h hb λi y hi hy=>hn (i+1) y () hy,show r+1+k=r+(k+1) by lia]
noncomputable def Xp (g fine:Int)(ns:List Nd)(rows:List (Bool×Nat))(e:LI):Option Ft:=
 match Wv g ns e 0 rows with
 | some f=>some f
 | none=>if suS ns rows e g=true then some (.full (Zl e g ns)) else match alS g e ns rows with
  | some q=>some (.one q.1 q.2 (Zl e g ns) (Zl (e.map Yh) g ns) (Z3 (Zl e g ns) g e.length ns))
  | none=>if Xx e<=fine then some .small else none
def UT (e:LI)(k:Nat)(s:Int×Int):Prop:=e[k]?=some s/\Wst e (wd s)/\∀(i:Nat)(q:Int×Int),i<k->e[i]?=some q->wd q≠wd s
theorem UT.eq {e:LI}{k i:Nat}{s q:Int×Int}(h:UT e k s)(h':UT e i q):k=i/\s=q:=by
 have w:=h.2.1.eq h'.2.1;rcases uH k i with c|rfl|c
 .exact absurd w (h'.2.2 k s c h.1)
 .exact⟨rfl,Option.some.inj (h.1.symm.trans h'.1)⟩
 .exact absurd w.symm (h.2.2 i q c h'.1)
def Wn (g fine:Int)(ns:List Nd)(rows:List (Bool×Nat))(a:List LI×List Ft)(j:Nat)(b:List LI×List Ft):Prop:=
 ∃(es:List LI)(fs:List Ft)(i:Nat),YV g ns 0 rows (a.1,a.2,j)=(es,fs,i)/\
  (fs[i]?≠some .wait/\b=(es,fs)\/fs[i]?=some .wait/\((∃f,Xp g fine ns rows (es.getD i [])=some f/\b=(es,fs.set i f))\/Xp g fine ns rows (es.getD i [])=none/\
   (4*YE (es.getD i [])<=3*YE (a.1.getD j [])/\b=(es,fs)\/¬ 4*YE (es.getD i [])<=3*YE (a.1.getD j [])/\∃(k:Nat)(s:Int×Int),UT (es.getD i []) k s/\
    b=(es++[(es.getD i []).set k (s.1,(s.1+s.2)/2)]++[(es.getD i []).set k ((s.1+s.2)/2,s.2)],(fs++[Ft.wait]++[Ft.wait]).set i (.cut k ((s.1+s.2)/2) es.length (es.length+1))))))
theorem Wn.eq {g fine:Int}{ns:List Nd}{rows:List (Bool×Nat)}{a b c:List LI×List Ft}{j:Nat}(h:Wn g fine ns rows a j b)(h':Wn g fine ns rows a j c):b=c:=by
 obtain⟨es,fs,i,e,q⟩:=h;obtain⟨es',fs',i',e',q'⟩:=h';rw[e] at e';cases e';rcases q with ⟨n,rfl⟩|⟨w,q⟩
 .rcases q' with ⟨_,rfl⟩|⟨w,_⟩
  .rfl
  .exact absurd w n
 rcases q' with ⟨n,_⟩|⟨_,q'⟩
 .exact absurd w n
 rcases q with ⟨f,hf,rfl⟩|⟨hn,q⟩
 .rcases q' with ⟨f',hf',rfl⟩|⟨hn,_⟩
  .rw[hf] at hf';cases hf';rfl
  .rw[hf] at hn;cases hn
 rcases q' with ⟨f',hf',_⟩|⟨_,q'⟩
 .rw[hn] at hf';cases hf'
 rcases q with ⟨l,rfl⟩|⟨l,k,s,hs,rfl⟩
 .rcases q' with ⟨_,rfl⟩|⟨l',_⟩
  .rfl
  .exact absurd l l'
 rcases q' with ⟨l',_⟩|⟨_,k',s',hs',rfl⟩
 .exact absurd l' l
 obtain⟨rfl,rfl⟩:=hs.eq hs';rfl
inductive Run (g fine:Int)(ns:List Nd)(rows:List (Bool×Nat)):Nat->List LI×List Ft->List LI×List Ft->Prop
 | zero {a}:Run g fine ns rows 0 a a
 | stop {n a}:(∀f∈a.2,f≠Ft.wait)->Run g fine ns rows (n+1) a a
 | step {n a b c i}:WK a.1 a.2 i->Wn g fine ns rows a i b->Run g fine ns rows n b c->Run g fine ns rows (n+1) a c
theorem Run.eq {g fine:Int}{ns:List Nd}{rows:List (Bool×Nat)}{n:Nat}{a b c:List LI×List Ft}(h:Run g fine ns rows n a b)(h':Run g fine ns rows n a c):b=c:=by
 induction h with
 | zero=>cases h';rfl
 | stop hn=>
  cases h' with
  | stop _=>rfl
  | step p _ _=>exact absurd rfl (hn _ (zF p.1))
 | step p l _ ih=>
  cases h' with
  | stop hn=>exact absurd rfl (hn _ (zF p.1))
  | step p' l' r'=>
   cases p.eq p';cases l.eq l';exact ih r'
theorem LU {g:Int}{ns:List Nd}{r j:Nat}{row:Bool×Nat}{rs:List (Bool×Nat)}{es:List LI}{fs:List Ft}{e:LI}(he:es[j]?=some e)(h:(shS ns row.1 row.2 e g).2=none):YV g ns r (row::rs) (es,fs,j)=(es,fs.set j (.out r (Zl e g (ns.take (row.2+1)))),j):=by
 rw[YV];dsimp only;rw[Y2 he,h]
theorem NW {g:Int}{ns:List Nd}{r j:Nat}{row:Bool×Nat}{rs:List (Bool×Nat)}{es:List LI}{fs:List Ft}{e l:LI}(he:es[j]?=some e)(h:(shS ns row.1 row.2 e g).2=some l):YV g ns r (row::rs) (es,fs,j)=YV g ns (r+1) rs ((shS ns row.1 row.2 e g).1.foldl (YJ g ns r row.2) (es,fs,j)):=by
 rw[YV];dsimp only;rw[Y2 he,h]
def wtB (fs:List Ft)(i:Nat):Bool:=match fs[i]? with
 | some .wait=>true
 | _=>false
theorem UC {fs:List Ft}{i:Nat}:wtB fs i=true↔fs[i]?=some .wait:=by
 unfold wtB;split
 .rename_i h;simp[h]
 .rename_i h;exact⟨λz=>Bool.noConfusion z,λz=>absurd z h⟩
def wts (fs:List Ft)(k:Nat):List Nat:=(List.range k).filter (wtB fs)
theorem Ds {fs:List Ft}{k:Nat}(h:fs[k]?≠some .wait):wts fs (k+1)=wts fs k:=by
 unfold wts;rw[wO,tP,List.filter_cons_of_neg (λz=>h (UC.mp z)),tQ,xH]
theorem Cw {fs:List Ft}{k:Nat}(h:fs[k]?=some .wait):wts fs (k+1)=wts fs k++[k]:=by
 unfold wts;rw[wO,tP,List.filter_cons_of_pos (UC.mpr h),tQ]
theorem Tf {fs:List Ft}{i k:Nat}:i∈wts fs k↔i<k/\fs[i]?=some .wait:=by
 unfold wts;rw[vD,yT,UC]
theorem Jc {fs:List Ft}{k p q i j:Nat}(h:p<q)(hp:(wts fs k)[p]?=some i)(hq:(wts fs k)[q]?=some j):i<j:=by
 obtain⟨l1,rfl⟩:=zA.mp hp;obtain⟨l2,rfl⟩:=zA.mp hq;exact List.pairwise_iff_getElem.mp ((List.pairwise_lt_range (n:=k)).filter (wtB fs)) p q l1 l2 h
theorem D1 {es:List LI}{fs:List Ft}{p i:Nat}(hp:(wts fs fs.length)[p]?=some i)(h1:∀q:Nat,q<(wts fs fs.length).length->Xx (es.getD ((wts fs fs.length).getD q 0) [])<=Xx (es.getD ((wts fs fs.length).getD p 0) []))
  (h2:∀q:Nat,q<p->Xx (es.getD ((wts fs fs.length).getD q 0) [])<Xx (es.getD ((wts fs fs.length).getD p 0) [])):WK es fs i:=by
 have gd:∀ {q k:Nat},(wts fs fs.length)[q]?=some k->(wts fs fs.length).getD q 0=k:=λh=>by rw[zR,h];rfl
 rw[gd hp] at h1 h2;have ix:∀k:Nat,fs[k]?=some .wait->∃q,(wts fs fs.length)[q]?=some k:=λk hk=>vA.mp (Tf.mpr ⟨(zA.mp hk).1,hk⟩)
 refine⟨(Tf.mp (zF hp)).2,λk hk=>?_,λk l hk=>?_⟩
 .obtain⟨q,hq⟩:=ix k hk;have z:=h1 q (zA.mp hq).1
  rwa [gd hq] at z
 .obtain⟨q,hq⟩:=ix k hk;rcases uH q p with c|rfl|c
  .have z:=h2 q c
   rwa [gd hq] at z
  .rw[hp] at hq;cases hq;lia
  .have:=Jc c hp hq;lia
theorem ixT2 {L U i v:Int}{S:Sto}{Q:DK}(h:i=0/\v=L\/i=1/\v=U)(hq:Q (.int v) S):Y4 wIx (.tup [.int L,.int U]) (.int i) S Q:=by
 rcases h with ⟨rfl,rfl⟩|⟨rfl,rfl⟩
 .exact SR (k:=0) rfl hq
 .exact SR (k:=1) rfl hq
theorem Oq {caps:List Nat}{ta:TDA}{te:TDE}{dl:Ev}{S S1:Sto}{Q:DK}{n:Nat}{xs:List D}(f:Nat->D->D)(hta:∀K:List D->Sto->Prop,K [.ref n] S1->ta dl S K)(h1:S1[n]?=some (.lst xs))(hl:xs.length<=900)
  (ht:∀(k:Nat)(x:D),xs[k]?=some x->∀(S2:Sto)(K:DK),Pre S1 S2->K (f k x) S2->te (some (.int (k:Int))::some x::Z9 caps dl) S2 K)(hq:Q (.ref S1.length) (S1++[.lst (xs.mapIdx f)])):Va caps ta Xe te dl S Q:=
 NI (λk ys S2=>S2=S1++[.lst ys]/\ys=(xs.take k).mapIdx f) (λ_ _=>true) hta h1 (λk ys S2 w=>by obtain⟨rfl,rfl⟩:=w;exact⟨Zu h1,Zo _ _,by rw[tS,zK];lia⟩) hl ⟨rfl,rfl⟩ (λk x ys S2 K hx w hK=>by exact hK) (λk x ys S2 hx hb=>by cases hb) (λk x ys S2 K hx _ w hK=>by
  obtain⟨rfl,rfl⟩:=w;have lk:=(zA.mp hx).1;exact ht k x hx _ K Pre.refl.push (hK _ _ (Zo _ _) ⟨Vn _ _ _,by rw[Yt hx,List.mapIdx_concat,zK,uG ()]⟩)) (λys S2 w=>by
  obtain⟨rfl,rfl⟩:=w;rw[yH];exact hq)
theorem Ux {xs:List D}{i:Int}(k:Nat){d:D}{S:Sto}{Q:DK}(hi:i=(k:Int))(h:xs[k]?=some d)(hq:Q d S):Y4 wIx (.tup xs) (.int i) S Q:=by
 subst hi;exact SR h hq
theorem OM (h:S[n]?=some (.frz xs))(hq:Q (.int (xs.length:Nat)) S):irr Ub [.ref n] S Q:=by
 rw[Vl];unfold Ub;simp only[ZR h rfl];exact hq
theorem CC {ns:List Int}{k:Int}(h0:0<=k)(h1:k<(ns.length:Int)):atI (ns.map D.int) k=some (.int (ns.getD k.toNat 0)):=by
 have hk:k.toNat<ns.length:=by lia
 have z:=YC (xs:=ns.map D.int) (j:=k.toNat) (v:=.int (ns.getD k.toNat 0)) (by simp[hk]);rw[show ((k.toNat:Nat):Int)=k by lia] at z;exact z
theorem Nh (t:Int):Int.gcd t 1=1:=by simp
theorem CW (b k:Int):Int.gcd (b*k+1) b=1:=by
 have h:=Int.gcd_dvd_left (a:=b*k+1) (b:=b)
 have h2:=tT (a:=b*k+1) (b:=b)
 have h3:((Int.gcd (b*k+1) b:Nat):Int) ∣ 1:=by
  have z:=Int.dvd_sub h (Int.dvd_trans h2 (Int.dvd_mul_right b k))
  rwa [show b*k+1-b*k=1 by lia] at z
 have:=Int.eq_one_of_dvd_one () h3;lia
theorem Fi (net:ZE q ns ws)(hv:ns[k]?=some v):v.ok (ws.take k).length q/\v.wt (ws.take k)=ws.getD k 0/\(∀i:Int,inR (ws.take k).length i->(ws.take k).getD i.toNat 0<=16):=by
 obtain⟨ok,e,_,_⟩:=net.ok k v hv;have lk:=(zA.mp hv).1
 have ln:(ws.take k).length=k:=by rw[zK,net.len];lia
 have g:∀i:Int,inR (k:Nat) i->(ws.take k).getD i.toNat 0=ws.getD i.toNat 0:=λi hi=>by
  have h0:=hi.1
  have h1:=hi.2;rw[zR,zR,uV,if_pos ()]
 rw[ln];refine⟨ok,?_,λi hi=>?_⟩
 .rw[e];cases v with
  | number t b=>rfl
  | unknown j=>rfl
  | plus i j=>simp only[Nd.wt];rw[g i ok.1,g j ok.2]
  | minus i j=>simp only[Nd.wt];rw[g i ok.1,g j ok.2]
  | times i j=>simp only[Nd.wt];rw[g i ok.1,g j ok.2]
  | power i n=>simp only[Nd.wt];rw[g i ok.1]
 .rw[g i hi];exact(net.w1 ⟨hi.1,by have:=hi.2;lia⟩).2
theorem Ea {to te:TDE}{dl:Ev}{S S1:Sto}{Q:DK}{n:Nat}{xs:List D}(R:D->Sto->Prop)(hto:∀K:DK,K (.ref n) S1->to dl S K)(h:S1[n]?=some (.lst xs))(hte:∀K:DK,(∀y T,R y T->K y T)->te dl S1 K)(h2:∀y T,R y T->T[n]?=some (.lst xs))(hl:xs.length<1000)(hq:∀y T,R y T->Q .non (T.set n (.lst (xs++[y])))):Wh to te dl S Q:=by
 unfold Wh;refine hto _ ?_;simp only[h];refine hte _ λy T r=>?_
 simp only[h2 y T r,if_pos hl];exact hq y T r
section
variable {X:Cx}{Z:Zx}{pos:Pos}
def Alk (S:Sto):Nat->D->D->Prop
 | 0,d,e=>eqF d e=some true
 | n+1,d,e=>Alk S n d e\/(∃xs ys,d=.tup xs/\e=.tup ys/\xs.length=ys.length/\∀(k:Nat)(x y:D),xs[k]?=some x->ys[k]?=some y->Alk S n x y)\/
  ∃a b xs ys,d=.ref a/\e=.ref b/\S[a]?=some (.lst xs)/\S[b]?=some (.lst ys)/\xs.length=ys.length/\∀(k:Nat)(x y:D),xs[k]?=some x->ys[k]?=some y->Alk S n x y
theorem N7 (n:Nat):(List.range n).all (λ_=>true)=true:=by simp
theorem NY {n:Nat}{A:Around}{pins:LA}{σ:L3.St}{H:Hp}{s:Shared}{r:List Addr}{S:Sto}(I:Inv X pins σ H s)(bA:Rel X.K Z r S H){a b:Nat}{xs ys:List D}{p p':Addr}(hp:r[a]?=some p)(hp':r[b]?=some p')(s1:S[a]?=some (.lst xs))(s2:S[b]?=some (.lst ys))(l:xs.length=ys.length)(hu:A.units<cLine)
  (f:∀ {d e:D} {v1 v2:V} {u1 u2:Value},Alk S n d e->Rp r H d v1->Rp r H e v2->Zs v1 u1->Zs v2 u2->SeqAt.EqAt A.in1 s u1 u2 true)(al:∀(k:Nat)(x y:D),xs[k]?=some x->ys[k]?=some y->Alk S n x y):SeqAt.RcAt A s (.ref p) (.ref p') true:=by
 obtain⟨z,hz,ob⟩:=bA.at s1;rw[hp] at hz;cases hz
 obtain⟨z,hz,ob'⟩:=bA.at s2;rw[hp'] at hz;cases hz
 obtain⟨vs,sq,pr⟩:=ob.list rfl;obtain⟨ws,sq',pr'⟩:=ob'.list rfl;obtain⟨is,ri,pl,_⟩:=I.list sq;obtain⟨js,rj,pl',_⟩:=I.list sq';have g1:=NF (P:=λS=>Alk S n) (S:=S) f pr pr' ri rj al
 have hs:is.toArray.size=js.toArray.size:=by
  have a1:=ri.length
  have a2:=rj.length
  have a3:=pr.1
  have a4:=pr'.1;simp only[zN];show is.length=js.length
  have a3:xs.length=vs.length:=a3
  have a4:ys.length=ws.length:=a4;lia
 have q:=SeqAt.RcAt.lists (A:=A) (e:=λ_=>true) pl.isList pl'.isList hs hu g1;rw[N7] at q;exact q
theorem T7:∀(n:Nat) {A:Around} {pins:LA} {σ:L3.St} {H:Hp} {s:Shared} {r:List Addr} {S:Sto} {d e:D} {v1 v2:V} {u1 u2:Value},Inv X pins σ H s->Rel X.K Z r S H->Alk S n d e->Rp r H d v1->Rp r H e v2->Zs v1 u1->Zs v2 u2->A.units+n<cLine->SeqAt.EqAt A s u1 u2 true
 | 0,A,pins,σ,H,s,r,S,d,e,v1,v2,u1,u2,I,bA,h,pd,pe,ru1,ru2,hu=>RA 0 X pins σ H s r A d e v1 v2 u1 u2 true I hu pd pe ru1 ru2 h
 | n+1,A,pins,σ,H,s,r,S,d,e,v1,v2,u1,u2,I,bA,h,pd,pe,ru1,ru2,hu=>by
  rcases h with h|⟨xs,ys,rfl,rfl,l,al⟩|⟨a,b,xs,ys,rfl,rfl,s1,s2,l,al⟩
  .exact T7 n I bA h pd pe ru1 ru2 ()
  .cases pd with
   | @tup _ vs a h1 l1 f1=>
    cases pe with
    | @tup _ ws b h2 l2 f2=>
     cases ru1;cases ru2;by_cases hne:a=b
     .subst hne;exact SeqAt.EqAt.same _
     .obtain⟨is,ri,pl,_⟩:=I.tuple (SqT.of h1);obtain⟨js,rj,pl',_⟩:=I.tuple (SqT.of h2);have g1:=NF (P:=λS=>Alk S n) (S:=S) (A:=A.in1) (λh p q r1 r2=>T7 n I bA h p q r1 r2 (by show A.units+1+n<_;lia)) ⟨l1,f1⟩ ⟨l2,f2⟩ ri rj al
      have q:=SeqAt.RcAt.tuples (A:=A) (e:=λ_=>true) pl pl' () g1
      have hs:(is.toArray.size==js.toArray.size)=true:=by
       have a1:=ri.length
       have a2:=rj.length;simp only[zN,beq_iff_eq];show is.length=js.length;lia
      rw[N7,hs] at q;exact SeqAt.EqAt.of_refs hne q
  .cases pd with
   | @ref _ p hp=>
    cases pe with
    | @ref _ p' hp'=>
     cases ru1;cases ru2;by_cases hne:p=p'
     .subst hne;exact SeqAt.EqAt.same _
     .exact SeqAt.EqAt.of_refs hne (NY I bA hp hp' s1 s2 l () (λh p q r1 r2=>T7 n I bA h p q r1 r2 (by show A.units+1+n<_;lia)) al)
def wEqK:W2:=λx y S Q=>match x,y with
 | .ref a,.ref b=>(∃xs ys,S[a]?=some (.lst xs)/\S[b]?=some (.lst ys)/\xs.length=ys.length/\∀(k:Nat)(x y:D),xs[k]?=some x->ys[k]?=some y->Alk S 5 x y)/\Q (.bl true) S
 | _,_=>False
theorem DO {j:Nat}(hr:ZG j X.A):OpR X (compareOp .Eq) (upO X.K Z wEqK):=by
 have hu:=hr.un;intro pins s σ H x y v u Qv I rx ry h;obtain⟨r,S,dx,dy,Q,bA,px,py,q,ret⟩:=h;cases px with
 | @ref n a hn=>
  cases py with
  | @ref m a' hm=>
   cases rx;cases ry;obtain⟨⟨xs,ys,s1,s2,l,al⟩,q⟩:=(show (∃xs ys,_)/\_ from q);exact NY I bA hn hm s1 s2 l () (λh p q r1 r2=>T7 5 I bA h p q r1 r2 (by show X.A.units+1+5<_;lia)) al X.prog X.w X.xe _ ⟨.bl true,H,I,rfl,ret _ _ _ _ _ Ext.refl bA (.bl true) q⟩
  | _=>exact(show False from q).elim
 | _=>exact(show False from q).elim
end
theorem Sh (h:eqF d e=some true):∀n,Alk S n d e
 | 0=>h
 | n+1=>.inl (Sh h n)
theorem Im (h:∀x∈xs,eqF x x=some true):Alk S (n+1) (.tup xs) (.tup xs):=.inr (.inl ⟨xs,xs,rfl,rfl,rfl,λk x y hx hy=>by
 rw[hx] at hy;cases hy;exact Sh (h x (zF hx)) n⟩)
theorem Ml (i:Int):eqF (.int i) (.int i)=some true:=by simp[eqF]
theorem GU (p:Int×Int):Alk S (n+1) (frD p) (frD p):=Im λx hx=>by
 simp only[zY,uF,or_false] at hx;rcases hx with rfl|rfl<;>exact Ml _
theorem OD {S:Sto}{n a b:Nat}{α:Type}{f:α->D}{xs:List α}(hf:∀x,Alk S n (f x) (f x))(h1:S[a]?=some (.lst (xs.map f)))(h2:S[b]?=some (.lst (xs.map f))):Alk S (n+1) (.ref a) (.ref b):=.inr (.inr ⟨a,b,_,_,rfl,rfl,h1,h2,rfl,λk x y hx hy=>by
 rw[hx] at hy;cases hy;rw[zE] at hx;obtain⟨z,_,rfl⟩:=zI.mp hx;exact hf z⟩)
theorem eq_at (h:f x y=some b)(hq:Q (.bl b) S):wEq f x y S Q:=by
 unfold wEq;rw[h];exact hq
theorem Iy {caps:List Nat}{ta:TDA}{te:TDE}{dl:Ev}{S S1:Sto}{Q:DK}{lo hi:Int}(P:Int->Prop)(hta:∀K:List D->Sto->Prop,K [.int lo,.int hi] S1->ta dl S K)(hb:(0<=lo/\lo<=1000)/\0<=hi/\hi<=1000)
  (ht:∀(k:Int)(S2:Sto)(K:DK),lo<=k->k<hi->Pre S1 S2->(∀c,P c->K (.int c) S2)->te (some (.int k)::Z9 caps dl) S2 K)(hq:∀cs:List Int,cs.length=(hi-lo).toNat->(∀c∈cs,P c)->Q (.ref S1.length) (S1++[.lst (cs.map D.int)])):UA caps ta Xe te dl S Q:=by
 unfold UA;refine hta _ ⟨⟨(),(),(),()⟩,λk S2=>k<=(hi-lo).toNat/\∃cs:List Int,cs.length=k/\(∀c∈cs,P c)/\S2=S1++[.lst (cs.map D.int)],⟨zJ _,[],rfl,λc hc=>(nomatch hc),rfl⟩,?_⟩;rintro k S2 ⟨hk,cs,lc,pc,rfl⟩;split
 .rename_i c;unfold WL Xe;simp only[if_true];refine ht _ _ _ () () Pre.refl.push λv hv=>?_
  rw[Zo];dsimp only;refine⟨by rw[zC];lia,(),cs++[v],by simp[lc],λx hx=>?_,by rw[Vn,yC];rfl⟩;rcases yE.mp hx with z|z
  .exact pc x z
  .cases zT.mp z;exact hv
 .rename_i c;exact hq cs () pc
def ph (f w:Int):Nat:=if w<=f then 1 else if 3*w<=4*f then 3 else if 9*w<=16*f then 4 else if w<=2*f then 5 else if 3*w<=8*f then 8 else if 9*w<=32*f then 10 else 11
theorem Qg {f w:Int}:1<=ph f w/\ph f w<=11:=by unfold ph;(repeat' split)<;>lia
theorem Rz {f x:Int}(h:x<=f):ph f x=1:=by unfold ph;rw[if_pos h]
theorem ph_3 {f x:Int}(h:3*x<=4*f):ph f x<=3:=by unfold ph;(repeat' split)<;>lia
theorem T6 {f x:Int}(h:9*x<=16*f):ph f x<=4:=by unfold ph;(repeat' split)<;>lia
theorem Ta {f x:Int}(h:x<=2*f):ph f x<=5:=by unfold ph;(repeat' split)<;>lia
theorem ph_8 {f x:Int}(h:3*x<=8*f):ph f x<=8:=by unfold ph;(repeat' split)<;>lia
theorem MO {f x:Int}(h:9*x<=32*f):ph f x<=10:=by unfold ph;(repeat' split)<;>lia
theorem Qh (f w:Int):w<=f\/(f<w/\3*w<=4*f/\ph f w=3)\/(4*f<3*w/\9*w<=16*f/\ph f w=4)\/(16*f<9*w/\w<=2*f/\ph f w=5)\/(2*f<w/\3*w<=8*f/\ph f w=8)\/(8*f<3*w/\9*w<=32*f/\ph f w=10)\/32*f<9*w/\ph f w=11:=by unfold ph;(repeat' split)<;>lia
theorem Cz {f v w:Int}(f1:1<=f)(h:v<=w):ph f v<=ph f w:=by
 have p:=(Qg (f:=f) (w:=v)).2;rcases Qh f w with c|⟨_,c,e⟩|⟨_,c,e⟩|⟨_,c,e⟩|⟨_,c,e⟩|⟨_,c,e⟩|⟨_,e⟩
 .rw[Rz (x:=v) (),Rz c];exact zB _
 .rw[e];exact ph_3 ()
 .rw[e];exact T6 ()
 .rw[e];exact Ta ()
 .rw[e];exact ph_8 ()
 .rw[e];exact MO ()
 .rw[e];exact p
theorem FQ {f v w:Int}(h1:f<v)(h:4*v<=3*w)(h4:w<=4*f):ph f v<ph f w:=by
 rcases Qh f w with c|⟨_,c,e⟩|⟨_,c,e⟩|⟨_,c,e⟩|⟨_,c,e⟩|⟨_,c,e⟩|⟨_,e⟩
 .lia
 .lia
 .rw[e];exact uI (ph_3 ())
 .rw[e];exact uI (T6 ())
 .rw[e];exact xP (Ta ()) ⋯
 .rw[e];exact xP (ph_8 ()) ⋯
 .rw[e];exact uI (MO ())
theorem Km {f x y w:Int}(f1:1<=f)(h1:f<w)(h4:w<=4*f)(e:x+y=w)(hx:x<=y)(hy:y<=x+1):ph f x+ph f y<ph f w:=by
 have s1:∀ {a b:Nat},ph f x<=a->ph f y<=b->a+b<ph f w->ph f x+ph f y<ph f w:=λh k l=>xP (Nat.add_le_add h k) l
 have l1:w<=2*f->ph f x<=1/\ph f y<=1:=λh=>⟨xV (Rz ()),xV (Rz ())⟩
 rcases Qh f w with c|⟨_,c,q⟩|⟨_,c,q⟩|⟨_,c,q⟩|⟨_,c,q⟩|⟨_,c,q⟩|⟨_,q⟩
 .lia
 .have l:=l1 ();exact s1 l.1 l.2 (by rw[q];decide)
 .have l:=l1 ();exact s1 l.1 l.2 (by rw[q];decide)
 .have l:=l1 ();exact s1 l.1 l.2 (by rw[q];decide)
 .exact s1 (ph_3 (x:=x) ()) (T6 (x:=y) ()) (by rw[q];decide)
 .exact s1 (T6 (x:=x) ()) (Ta (x:=y) ()) (by rw[q];decide)
 .exact s1 (Ta (x:=x) ()) (Ta (x:=y) ()) (by rw[q];decide)
def pe (f:Int)(e:LI):Ft->Nat
 | .wait=>ph f (YE e)
 | _=>0
def pot (f:Int)(es:List LI)(fs:List Ft):Nat:=(List.zipWith (pe f) es fs).sum
theorem VQ {f:Int}{x y:Ft}{e:LI}:∀ {es:List LI} {fs:List Ft} {j:Nat},fs[j]?=some y->es[j]?=some e->pot f es (fs.set j x)+pe f e y=pot f es fs+pe f e x
 | a::es,b::fs,0,h1,h2=>by
  cases h1;cases h2;show pe f e x+_+pe f e y=pe f e y+_+pe f e x;lia
 | a::es,b::fs,j+1,h1,h2=>by
  have z:pot f es (fs.set j x)+pe f e y=pot f es fs+pe f e x:=VQ (j:=j) h1 h2
  show pe f a b+pot f es (fs.set j x)+pe f e y=pe f a b+pot f es fs+pe f e x;lia
theorem Mf {f:Int}{x:Ft}{e:LI}{es:List LI}{fs:List Ft}(l:es.length=fs.length):pot f (es++[e]) (fs++[x])=pot f es fs+pe f e x:=by
 unfold pot;rw[uY l,List.sum_append];simp
theorem XQ (s:Int×Int):YE [s]=wd s:=by unfold YE;simp
theorem MS {f:Int}{e x y:LI}{es:List LI}{fs:List Ft}{j k a b:Nat}{p:Int}(l:es.length=fs.length)(hw:fs[j]?=some .wait)(he:es[j]?=some e):
  pot f (es++[x]++[y]) ((fs++[Ft.wait]++[Ft.wait]).set j (.cut k p a b))+ph f (YE e)=pot f es fs+ph f (YE x)+ph f (YE y):=by
 have lj:=(zA.mp hw).1
 have z:=VQ (f:=f) (x:=.cut k p a b) (y:=.wait) (e:=e) (es:=es++[x]++[y]) (fs:=fs++[Ft.wait]++[Ft.wait]) (j:=j) (by rw[xD,zL lj];exact hw) (by rw[xD,zL ()];exact he);rw[Mf (by simp[l]),Mf l] at z;exact z
theorem C4 {f g:Int}{ns:List Nd}{r n j:Nat}{s:Int×Int}{es:List LI}{fs:List Ft}{c:Ct}(l:es.length=fs.length)(hw:fs[j]?=some .wait)(he:es[j]?=some [s])(hk:c.k=0)(h1:s.1<c.p)(h2:c.p<s.2):
  ∃s',(YJ g ns r n (es,fs,j) c).1.length=(YJ g ns r n (es,fs,j) c).2.1.length/\(YJ g ns r n (es,fs,j) c).2.1[(YJ g ns r n (es,fs,j) c).2.2]?=some .wait/\(YJ g ns r n (es,fs,j) c).1[(YJ g ns r n (es,fs,j) c).2.2]?=some [s']/\ctP [s] c=[s']/\(s.1<=s'.1/\s'.1<=s'.2/\s'.2<=s.2)/\
   pot f (YJ g ns r n (es,fs,j) c).1 (YJ g ns r n (es,fs,j) c).2.1+ph f (wd s)=pot f es fs+ph f (wd s'):=by
 have lj:=(zA.mp hw).1;unfold YJ;dsimp only;rw[Y2 he,hk];have z:=MS (f:=f) (x:=[s].set 0 ((gt [s] ((0:Nat):Int)).1,c.p)) (y:=[s].set 0 (c.p,(gt [s] ((0:Nat):Int)).2)) (k:=0) (a:=es.length) (b:=es.length+1) (p:=c.p) l hw he
 have gs:gt [s] ((0:Nat):Int)=s:=rfl;rw[gs] at z ⊢;have ex:[s].set 0 (s.1,c.p)=[(s.1,c.p)]:=rfl
 have ey:[s].set 0 (c.p,s.2)=[(c.p,s.2)]:=rfl;rw[ex,ey] at z ⊢;rw[XQ,XQ,XQ] at z;obtain⟨ck,cp,cs⟩:=c;dsimp only at *
 cases cs with
 | true=>
  have g1:((fs++[Ft.wait]++[Ft.wait]).set j (.cut 0 cp es.length (es.length+1)))[es.length+1]?=some .wait:=by
   rw[zQ (),l];simp
  have g2:(es++[[(s.1,cp)]]++[[(cp,s.2)]])[es.length+1]?=some [(cp,s.2)]:=by simp
  have z2:=VQ (f:=f) (x:=.out r (Zl ([s].set 0 (Ct.off ⟨ck,cp,true⟩ s)) g (ns.take (n+1)))) g1 g2;refine⟨(s.1,cp),by simp[l],?_,by simp,?_,⟨zV _,by dsimp only;lia,by dsimp only;lia⟩,?_⟩
  .simp only[if_true];rw[zQ (),zQ (),l];simp
  .subst hk;rfl
  .simp only[if_true];rw[show pe f [(cp,s.2)] .wait=ph f (wd (cp,s.2)) by unfold pe;rw[XQ]] at z2;have e0:pe f [(cp,s.2)] (.out r (Zl ([s].set 0 (Ct.off ⟨ck,cp,true⟩ s)) g (ns.take (n+1))))=0:=rfl;lia
 | false=>
  have g1:((fs++[Ft.wait]++[Ft.wait]).set j (.cut 0 cp es.length (es.length+1)))[es.length]?=some .wait:=by
   rw[zQ (),l];simp
  have g2:(es++[[(s.1,cp)]]++[[(cp,s.2)]])[es.length]?=some [(s.1,cp)]:=by simp
  have z2:=VQ (f:=f) (x:=.out r (Zl ([s].set 0 (Ct.off ⟨ck,cp,false⟩ s)) g (ns.take (n+1)))) g1 g2;refine⟨(cp,s.2),by simp[l],?_,by simp,?_,⟨by dsimp only;lia,by dsimp only;lia,zV _⟩,?_⟩
  .simp only[xY,if_false];rw[zQ (),zQ (),l];simp
  .subst hk;rfl
  .simp only[xY,if_false,Nat.add_zero];rw[show pe f [(s.1,cp)] .wait=ph f (wd (s.1,cp)) by unfold pe;rw[XQ]] at z2;have e0:pe f [(s.1,cp)] (.out r (Zl ([s].set 0 (Ct.off ⟨ck,cp,false⟩ s)) g (ns.take (n+1))))=0:=rfl;lia
def Pot (f:Int)(es:List LI)(fs:List Ft)(s:Int×Int)(t:List LI×List Ft×Nat)(s':Int×Int):Prop:=
 t.1.length=t.2.1.length/\t.2.1[t.2.2]?=some .wait/\t.1[t.2.2]?=some [s']/\(s.1<=s'.1/\s'.1<=s'.2/\s'.2<=s.2)/\pot f t.1 t.2.1+ph f (wd s)=pot f es fs+ph f (wd s')
theorem Mr {f g:Int}{ns:List Nd}{r n j k:Nat}{zero:Bool}{s s0:Int×Int}{es es0:List LI}{fs fs0:List Ft}(cs:List Ct)(l:Pot f es0 fs0 s0 (es,fs,j) s)(is:∀(i:Nat)(c:Ct),cs[i]?=some c->isS ns zero k g (ctA [s] (cs.take i)) c=true/\c.k<[s].length):
  ∀q,q<=cs.length->∃s',ctA [s] (cs.take q)=[s']/\(s.1<=s'.1/\s'.1<=s'.2/\s'.2<=s.2)/\Pot f es0 fs0 s0 ((cs.take q).foldl (YJ g ns r n) (es,fs,j)) s'
 | 0,_=>⟨s,rfl,⟨zV _,l.2.2.2.1.2.1,zV _⟩,l⟩
 | q+1,hq=>by
  obtain⟨s',e,w,ih⟩:=Mr (r:=r) (n:=n) cs l is q ();have hc:=zD (show q<cs.length by lia);generalize cs[q]=c at hc;obtain⟨i1,i2⟩:=is q c hc;rw[e] at i1;have hk:c.k=0:=by simp at i2;exact i2
  have h:=QE i1;rw[hk] at h;rw[Yt hc,xA,QL,e];generalize (cs.take q).foldl (YJ g ns r n) (es,fs,j)=t at ih;obtain⟨es1,fs1,j1⟩:=t;obtain⟨a1,a2,a3,a4,a5⟩:=ih;dsimp only at a1 a2 a3 a4;obtain⟨s2,b1,b2,b3,b4,b5,b6⟩:=C4 (f:=f) (g:=g) (ns:=ns) (r:=r) (n:=n) (es:=es1) (fs:=fs1) (j:=j1) a1 a2 a3 hk h.1 h.2;dsimp only at a5;exact⟨s2,b4,⟨(),b5.2.1,()⟩,b1,b2,b3,⟨(),b5.2.1,()⟩,by show pot f (YJ g ns r n (es1,fs1,j1) c).1 (YJ g ns r n (es1,fs1,j1) c).2.1+_=_;lia⟩
theorem spn1 {n:Nat}{s:Int×Int}(h:Spn n [s]):s.1<=s.2/\Sz n s.1/\Sz n s.2:=h s (zT.mpr rfl)
theorem Nt {f g:Int}{ns:List Nd}{ws:List Nat}{s0:Int×Int}{es0:List LI}{fs0:List Ft}(net:ZE 1 ns ws)(hg:1<=g/\g<=1000000):∀(rows:List (Bool×Nat))(r:Nat)(s:Int×Int)(t:List LI×List Ft×Nat),(∀x∈rows,x.2<ns.length)->Spn 51 [s]->Pot f es0 fs0 s0 t s->
  ((YV g ns r rows t).1.length=(YV g ns r rows t).2.1.length/\(YV g ns r rows t).2.1[(YV g ns r rows t).2.2]?≠some .wait/\pot f (YV g ns r rows t).1 (YV g ns r rows t).2.1+ph f (wd s0)=pot f es0 fs0)\/∃s',Spn 51 [s']/\Pot f es0 fs0 s0 (YV g ns r rows t) s'
 | [],r,s,t,_,ss,h=>.inr ⟨s,ss,h⟩
 | row::rs,r,s,(es,fs,j),hi,ss,h=>by
  have he:es[j]?=some [s]:=h.2.2.1
  have hw:fs[j]?=some .wait:=h.2.1;obtain⟨i1,i2,i3⟩:=M4 (zero:=row.1) (k:=row.2) (e:=[s]) net ss hg (hi row (yV ..));cases hS:(shS ns row.1 row.2 [s] g).2 with
  | none=>
   rw[LU he hS];have lj:=(zA.mp hw).1
   have z:=VQ (f:=f) (x:=.out r (Zl [s] g (ns.take (row.2+1)))) hw he;obtain⟨a1,a2,a3,a4,a5⟩:=h;have e1:pe f [s] .wait=ph f (wd s):=by unfold pe;rw[XQ]
   have e0:pe f [s] (.out r (Zl [s] g (ns.take (row.2+1))))=0:=rfl;dsimp only at *
   refine .inl ⟨by rw[yA];exact a1,?_,()⟩;rw[yS lj];intro z;cases z
  | some lft=>
   rw[NW he hS];obtain⟨s',e,w,p⟩:=Mr (r:=r) (n:=row.2) _ h i3 _ (zB _);rw[yH] at e p;refine Nt net hg rs (r+1) s' _ (λx hx=>hi x (yI _ hx)) ?_ p;have q:=spn1 ss;intro x hx;cases zT.mp hx;exact⟨w.2.1,Sz.mid q.2.1 q.2.2 w.1 (),Sz.mid q.2.1 q.2.2 () w.2.2⟩
theorem FX {g f:Int}{ns:List Nd}{rows:List (Bool×Nat)}{e:LI}{x:Ft}(h:Xp g f ns rows e=some x):x≠.wait:=by
 rintro rfl;unfold Xp at h;have ho:∀(rows:List (Bool×Nat)) r,Wv g ns e r rows≠some .wait:=by
  intro rows
  induction rows with
  | nil=>intro r z;cases z
  | cons row rs ih=>
   intro r;unfold Wv;split
   .intro z;cases z
   .exact ih (r+1)
 split at h
 .rename_i q hq;cases h;exact ho _ _ hq
 .split at h
  .cases h
  .split at h
   .cases h
   .split at h
    .cases h
    .cases h
theorem Iq {g f:Int}{ns:List Nd}{rows:List (Bool×Nat)}{e:LI}(h:Xp g f ns rows e=none):f<Xx e:=by
 unfold Xp at h;split at h
 .cases h
 .split at h
  .cases h
  .split at h
   .cases h
   .split at h
    .cases h
    .lia
theorem wdst1 (s:Int×Int):Xx [s]=wd s:=Wst.is ⟨λp hp=>by cases zT.mp hp;exact zV _,.inr ⟨s,zT.mpr rfl,rfl⟩⟩
theorem GY {f g:Int}{ns:List Nd}{ws:List Nat}{rows:List (Bool×Nat)}{s:Int×Int}{es es':List LI}{fs fs':List Ft}{j:Nat}(net:ZE 1 ns ws)(hg:1<=g/\g<=1000000)(hi:∀x∈rows,x.2<ns.length)(f1:1<=f)(ll:es.length=fs.length)(hw:fs[j]?=some .wait)(he:es[j]?=some [s])(ss:Spn 51 [s])(w4:wd s<=4*f)
  (h:Wn g f ns rows (es,fs) j (es',fs')):pot f es' fs'<pot f es fs:=by
 obtain⟨es1,fs1,i,e1,q⟩:=h;have z:=Nt (f:=f) (es0:=es) (fs0:=fs) (s0:=s) net hg rows 0 s (es,fs,j) hi ss ⟨ll,hw,he,⟨zV _,(spn1 ss).1,zV _⟩,rfl⟩;rw[e1] at z;have p1:=(Qg (f:=f) (w:=wd s)).1;rcases z with ⟨z1,z2,z3⟩|⟨s',ss',a1,a2,a3,a4,a5⟩
 .rcases q with ⟨_,eq⟩|⟨w,_⟩
  .cases eq;dsimp only at z3;lia
  .exact absurd w z2
 dsimp only at a1 a2 a3 a4 a5;rcases q with ⟨w,_⟩|⟨_,q⟩
 .exact absurd a2 w
 rw[Y2 a3] at q;have g0:es.getD j []=[s]:=Y2 he
 have e1':pe f [s'] .wait=ph f (wd s'):=by unfold pe;rw[XQ]
 have v:=spn1 ss';rcases q with ⟨x,hx,eq⟩|⟨hn,q⟩
 .cases eq;have z:=VQ (f:=f) (x:=x) a2 a3
  have e0:pe f [s'] x=0:=by
   have:=FX hx;cases x with
   | wait=>exact absurd rfl this
   | _=>rfl
  lia
 have big:=Iq hn;rw[wdst1] at big;rcases q with ⟨l,eq⟩|⟨_,k,t,⟨hk,_,_⟩,eq⟩
 .cases eq;dsimp only at l;rw[g0,XQ,XQ] at l;have:=FQ big l w4;lia
 .cases k with
  | succ k=>simp at hk
  | zero=>
   cases hk;cases eq;have z:=MS (f:=f) (x:=[s'].set 0 (s'.1,(s'.1+s'.2)/2)) (y:=[s'].set 0 ((s'.1+s'.2)/2,s'.2)) (k:=0) (a:=es1.length) (b:=es1.length+1) (p:=(s'.1+s'.2)/2) a1 a2 a3;rw[show [s'].set 0 (s'.1,(s'.1+s'.2)/2)=[(s'.1,(s'.1+s'.2)/2)] from rfl,show [s'].set 0 ((s'.1+s'.2)/2,s'.2)=[((s'.1+s'.2)/2,s'.2)] from rfl,XQ,XQ,XQ] at z;have m1:=Cz (v:=wd s') (w:=wd s) f1 (by unfold wd;lia)
   have h2:=Km (f:=f) (x:=wd (s'.1,(s'.1+s'.2)/2)) (y:=wd ((s'.1+s'.2)/2,s'.2)) (w:=wd s') f1 big (by unfold wd at w4 ⊢;lia) (by unfold wd;dsimp only;lia) (by unfold wd;dsimp only;lia) (by unfold wd;dsimp only;lia)
   show pot f (es1++[[(s'.1,(s'.1+s'.2)/2)]]++[[((s'.1+s'.2)/2,s'.2)]]) _<_;lia
theorem Bks.one {g f:Int}{ns:List Nd}{rows:List (Bool×Nat)}{s0:Int×Int}{es:List LI}{fs:List Ft}(h:Bks g f ns rows [s0] es fs):∀e∈es,∃s,e=[s]/\wd s<=wd s0:=by
 generalize hb:[s0]=b0 at h
 induction h with
 | new=>exact λe he=>⟨s0,by rw[zT.mp he,hb],zV _⟩
 | @cut es fs i k e s p _ hw he hs h1 h2 ih=>
  obtain⟨t,rfl,wt⟩:=ih e (zF he);cases k with
  | succ k=>simp at hs
  | zero=>
   cases hs;unfold wd at wt ⊢;intro x hx;rcases yE.mp hx with hx|hx
   .rcases yE.mp hx with hx|hx
    .exact ih x hx
    .exact⟨_,zT.mp hx,by dsimp only;lia⟩
   .exact⟨_,zT.mp hx,by dsimp only;lia⟩
 | put _ _ _ _ ih=>exact ih
theorem Run.more {g f:Int}{ns:List Nd}{rows:List (Bool×Nat)}{n d:Nat}{a b:List LI×List Ft}(h:Run g f ns rows n a b)(nw:∀x∈b.2,x≠Ft.wait):Run g f ns rows (n+d) a b:=by
 induction h with
 | zero=>
  rw[uJ];cases d with
  | zero=>exact .zero
  | succ d=>exact .stop nw
 | @stop n a hn=>
  rw[tU];exact .stop hn
 | @step n a b c i p l _ ih=>
  rw[tU];exact .step p l (ih nw)
inductive Y7 (S:Sto)(n:Nat):List D->List D->Prop
 | nil:Y7 S n [] []
 | cons {x y xs ys}:Alk S n x y->Y7 S n xs ys->Y7 S n (x::xs) (y::ys)
theorem Y7.len {S:Sto}{n:Nat}{xs ys:List D}(h:Y7 S n xs ys):xs.length=ys.length:=by
 induction h with
 | nil=>rfl
 | cons _ _ ih=>rw[yG,yG,ih]
theorem Y7.get {S:Sto}{n:Nat}{xs ys:List D}(h:Y7 S n xs ys):∀(k:Nat)(x y:D),xs[k]?=some x->ys[k]?=some y->Alk S n x y:=by
 induction h with
 | nil=>intro k x y hx;cases hx
 | cons a _ ih=>
  intro k x y hx hy;cases k with
  | zero=>cases hx;cases hy;exact a
  | succ k=>exact ih k x y hx hy
theorem Y7.tup {S:Sto}{n:Nat}{xs ys:List D}(h:Y7 S n xs ys):Alk S (n+1) (.tup xs) (.tup ys):=.inr (.inl ⟨xs,ys,rfl,rfl,h.len,h.get⟩)
theorem VO {S:Sto}{s:Str}:∀ {n:Nat},Alk S n (.str s) (.str s):=λ{n}=>Sh (by simp[eqF]) n
theorem V5 {S:Sto}{i:Int}:∀ {n:Nat},Alk S n (.int i) (.int i):=λ{n}=>Sh (Ml i) n
theorem Vk {S:Sto}{n a b:Nat}{vs:LI}(h1:S[a]?=some (.lst (vs.map frD)))(h2:S[b]?=some (.lst (vs.map frD))):Alk S (n+2) (.ref a) (.ref b):=OD (λp=>GU p) h1 h2
theorem Nw {S:Sto}{n a b:Nat}{xs ys:List D}(h1:S[a]?=some (.lst xs))(h2:S[b]?=some (.lst ys))(l:xs.length=ys.length)(h:∀(k:Nat)(x y:D),xs[k]?=some x->ys[k]?=some y->Alk S n x y):Alk S (n+1) (.ref a) (.ref b):=.inr (.inr ⟨a,b,xs,ys,rfl,rfl,h1,h2,l,h⟩)
theorem IT {S:Sto}{n a b lo lo':Nat}{xs ys:List D}{M:List (List Int)}(h1:S[a]?=some (.lst xs))(h2:S[b]?=some (.lst ys))(r1:Rows S lo xs M)(r2:Rows S lo' ys M):Alk S (n+2) (.ref a) (.ref b):=
 Nw h1 h2 (r1.len.trans r2.len.symm) λk x y hx hy=>by
  obtain⟨p,r,rfl,_,hr,hp⟩:=r1.get hx;obtain⟨q,r',rfl,_,hr',hq⟩:=r2.get hy;rw[hr] at hr';cases hr';exact OD (λi=>V5) hp hq
theorem D5 {S:Sto}{n a b lo lo':Nat}{xs ys:List D}{R:List LI}(h1:S[a]?=some (.lst xs))(h2:S[b]?=some (.lst ys))(r1:Z4 S lo xs R)(r2:Z4 S lo' ys R):Alk S (n+3) (.ref a) (.ref b):=
 Nw h1 h2 (r1.1.trans r2.1.symm) λk x y hx hy=>by
  have l:=(zA.mp hx).1;rw[r1.1] at l;have hr:=zD l;obtain⟨p,rfl,_,hp⟩:=r1.2 k x _ hx hr;obtain⟨q,rfl,_,hq⟩:=r2.2 k y _ hy hr;exact Vk hp hq
theorem U1 {S:Sto}{a b a' b':Nat}{d d':D}{f:Ft}(h:X3 a b S d f)(h':X3 a' b' S d' f)(nw:f≠.wait):Alk S 4 d d':=by
 cases f with
 | wait=>exact absurd rfl nw
 | small=>cases h;cases h';exact(Y7.cons VO .nil).tup
 | cut k p x y=>cases h;cases h';exact(Y7.cons VO (.cons V5 (.cons V5 (.cons V5 (.cons V5 .nil))))).tup
 | out r vs=>
  obtain⟨m,rfl,o⟩:=h;obtain⟨m',rfl,o'⟩:=h';exact(Y7.cons VO (.cons V5 (.cons (Vk (n:=1) o.2.2 o'.2.2) .nil))).tup
 | full vs=>
  obtain⟨m,rfl,o⟩:=h;obtain⟨m',rfl,o'⟩:=h';exact(Y7.cons VO (.cons (Vk (n:=1) o.2.2 o'.2.2) .nil)).tup
 | one M aB sp th sl=>
  obtain⟨m1,m2,m3,m4,m5,lo,ms,ss,rfl,_,h1,rI,o2,o3,o4,h5,rP⟩:=h;obtain⟨k1,k2,k3,k4,k5,lo',ms',ss',rfl,_,g1,gI,p2,p3,p4,g5,gP⟩:=h';exact(Y7.cons VO (.cons (IT (n:=1) h1 g1 rI gI) (.cons (Vk (n:=1) o2.2.2 p2.2.2) (.cons (Vk (n:=1) o3.2.2 p3.2.2) (.cons (Vk (n:=1) o4.2.2 p4.2.2) (.cons (D5 h5 g5 rP gP) .nil)))))).tup
theorem CU (h:Vd S d f)(h':Vd S d' f):Alk S 4 d d':=by
 cases f with
 | wait=>cases h;cases h';exact(Y7.cons VO .nil).tup
 | small=>obtain⟨a,b,h⟩:=h;obtain⟨a',b',h'⟩:=h';exact U1 h h' (by intro z;cases z)
 | cut k p x y=>obtain⟨a,b,h⟩:=h;obtain⟨a',b',h'⟩:=h';exact U1 h h' (by intro z;cases z)
 | out r vs=>obtain⟨a,b,h⟩:=h;obtain⟨a',b',h'⟩:=h';exact U1 h h' (by intro z;cases z)
 | full vs=>obtain⟨a,b,h⟩:=h;obtain⟨a',b',h'⟩:=h';exact U1 h h' (by intro z;cases z)
 | one M aB sp th sl=>obtain⟨a,b,h⟩:=h;obtain⟨a',b',h'⟩:=h';exact U1 h h' (by intro z;cases z)
theorem Vd.pre {S T:Sto}{d:D}{f:Ft}(h:Vd S d f)(p:Pre S T):Vd T d f:=by
 cases f with
 | wait=>exact h
 | small=>obtain⟨a,b,h⟩:=h;exact⟨a,b,h.cg (.pre p)⟩
 | cut k p' x y=>obtain⟨a,b,h⟩:=h;exact⟨a,b,h.cg (.pre p)⟩
 | out r vs=>obtain⟨a,b,h⟩:=h;exact⟨a,b,h.cg (.pre p)⟩
 | full vs=>obtain⟨a,b,h⟩:=h;exact⟨a,b,h.cg (.pre p)⟩
 | one M aB sp th sl=>obtain⟨a,b,h⟩:=h;exact⟨a,b,h.cg (.pre p)⟩
theorem En.pre (h:En S ds es fs)(p:Pre S T):En T ds es fs:=⟨h.1,h.2.1,λi e f he hf=>by
 obtain⟨m,d,e1,e2,e3⟩:=h.2.2 i e f he hf;exact⟨m,d,e1,p _ _ e2,e3.pre p⟩⟩
theorem Fj {S:Sto}{ds ds':List D}{es:List LI}{fs:List Ft}(h:En S ds es fs)(h':En S ds' es fs)(k:Nat)(x y:D)(hx:ds[k]?=some x)(hy:ds'[k]?=some y):Alk S 5 x y:=by
 have l:=(zA.mp hx).1
 have l1:=h.1
 have l2:=h.2.1
 have he:=zD (show k<es.length by lia)
 have hf:=zD (show k<fs.length by lia);obtain⟨m,d,e1,e2,e3⟩:=h.2.2 k _ _ he hf;obtain⟨m',d',g1,g2,g3⟩:=h'.2.2 k _ _ he hf;rw[hx] at e1;rw[hy] at g1;cases e1;cases g1;exact(Y7.cons (Vk (n:=2) e2 g2) (.cons (CU e3 g3) .nil)).tup
theorem fo_no {S:Sto}{d:D}{f:Ft}(h:Vd S d f)(nw:f≠.wait):eq2 d (.tup [.str "waits"])=some false:=by
 cases f with
 | wait=>exact absurd rfl nw
 | small=>obtain⟨a,b,rfl⟩:=h;rfl
 | one _ _ _ _ _=>obtain⟨a,b,_,_,_,_,_,_,_,_,rfl,_⟩:=h;rfl
 | cut _ _ _ _=>obtain⟨a,b,rfl⟩:=h;rfl
 | out _ _=>obtain⟨a,b,m,rfl,_⟩:=h;rfl
 | full _=>obtain⟨a,b,m,rfl,_⟩:=h;rfl
theorem NK:∀xs:List D,YN (xs.map λ_=>D.bl false)=some (List.replicate xs.length false)
 | []=>rfl
 | x::xs=>by
  show (YN (xs.map λ_=>D.bl false)).map _=_;rw[NK xs];rfl
structure FE (K:Fg)(mg:Str->Option Value) where
 C:Addr
 m:mg "Book"=some (.ref C)
 cl:Cls K C
 n_fates:Ym K C "fates"
 n_boxes:Ym K C "boxes"
 makes:W.makesIn K C=true
 kp:W.keepIn K (.ref C)=true
structure JL (K:Fg)(mg:Str->Option Value) where
 C:Addr
 m:mg "Number"=some (.ref C)
 cl:Cls K C
 n_bottom:Ym K C "bottom"
 n_top:Ym K C "top"
 makes:W.makesIn K C=true
 kp:W.keepIn K (.ref C)=true
structure Kh (K:Fg)(mg:Str->Option Value) where
 C:Addr
 m:mg "Unknown"=some (.ref C)
 cl:Cls K C
 n_place:Ym K C "place"
 makes:W.makesIn K C=true
 kp:W.keepIn K (.ref C)=true
structure Kl (K:Fg)(mg:Str->Option Value) where
 C:Addr
 m:mg "Plus"=some (.ref C)
 cl:Cls K C
 n_other:Ym K C "other"
 n_one:Ym K C "one"
 makes:W.makesIn K C=true
 kp:W.keepIn K (.ref C)=true
structure JH (K:Fg)(mg:Str->Option Value) where
 C:Addr
 m:mg "Minus"=some (.ref C)
 cl:Cls K C
 n_other:Ym K C "other"
 n_one:Ym K C "one"
 makes:W.makesIn K C=true
 kp:W.keepIn K (.ref C)=true
structure Kd (K:Fg)(mg:Str->Option Value) where
 C:Addr
 m:mg "Times"=some (.ref C)
 cl:Cls K C
 n_other:Ym K C "other"
 n_one:Ym K C "one"
 makes:W.makesIn K C=true
 kp:W.keepIn K (.ref C)=true
structure IF (K:Fg)(mg:Str->Option Value) where
 C:Addr
 m:mg "Power"=some (.ref C)
 cl:Cls K C
 n_many:Ym K C "many"
 n_one:Ym K C "one"
 makes:W.makesIn K C=true
 kp:W.keepIn K (.ref C)=true
theorem Tn (P:Params):clA (kq P) "Book" 812:=clU (by kernel_rfl)
theorem SY (P:Params):clA (kq P) "Number" 319:=clU (by kernel_rfl)
theorem Tv (P:Params):clA (kq P) "Unknown" 364:=clU (by kernel_rfl)
theorem Ry (P:Params):clA (kq P) "Plus" 442:=clU (by kernel_rfl)
theorem SA (P:Params):clA (kq P) "Minus" 489:=clU (by kernel_rfl)
theorem Sj (P:Params):clA (kq P) "Times" 536:=clU (by kernel_rfl)
theorem TB (P:Params):clA (kq P) "Power" 581:=clU (by kernel_rfl)
class Ev5 where
 P:Program
 w:World
 mg:Str->Option Value
 h:Heap
 X:(kq w.params).In h
 G:h.Ns mainGlobals mg
 base:Heap
 kin:(kq w.params).In base
 bm:BM mg base
noncomputable abbrev Ev5.K (e:Ev5):Fg:=kq e.w.params
abbrev Fkz [e:Ev5] (k:Nat)(x:Str)(ps:List Str)(sd:Sd):=Fk e.P e.w e.K e.mg e.base k x ps sd
abbrev Fmz [e:Ev5] (k:Nat)(C:Addr)(x:Str)(ps:List Str)(sd:Sd):=Fm e.P e.w e.K e.mg e.base k C x ps sd
abbrev Dfz [e:Ev5] (x:Str)(st:Stmt)(ps:List Str):=Df e.K e.mg x st ps
abbrev Dmz [e:Ev5] (C:Addr)(x q:Str)(st:Stmt)(ps:List Str):=Dm e.K C x q st ps
noncomputable def Zn [e:Ev5]:FE e.K e.mg:=⟨812,W.mg_of e.X e.G (Tn e.w.params).1,clC (Tn e.w.params).2,noU,noU,(Tn e.w.params).2.2.2.2.2.1,(Tn e.w.params).2.2.2.2.2.2⟩
noncomputable def Yg [e:Ev5]:JL e.K e.mg:=⟨319,W.mg_of e.X e.G (SY e.w.params).1,clC (SY e.w.params).2,noU,noU,(SY e.w.params).2.2.2.2.2.1,(SY e.w.params).2.2.2.2.2.2⟩
noncomputable def Yo [e:Ev5]:Kh e.K e.mg:=⟨364,W.mg_of e.X e.G (Tv e.w.params).1,clC (Tv e.w.params).2,noU,(Tv e.w.params).2.2.2.2.2.1,(Tv e.w.params).2.2.2.2.2.2⟩
noncomputable def ZL [e:Ev5]:Kl e.K e.mg:=⟨442,W.mg_of e.X e.G (Ry e.w.params).1,clC (Ry e.w.params).2,noU,noU,(Ry e.w.params).2.2.2.2.2.1,(Ry e.w.params).2.2.2.2.2.2⟩
noncomputable def ZN [e:Ev5]:JH e.K e.mg:=⟨489,W.mg_of e.X e.G (SA e.w.params).1,clC (SA e.w.params).2,noU,noU,(SA e.w.params).2.2.2.2.2.1,(SA e.w.params).2.2.2.2.2.2⟩
noncomputable def ZM [e:Ev5]:Kd e.K e.mg:=⟨536,W.mg_of e.X e.G (Sj e.w.params).1,clC (Sj e.w.params).2,noU,noU,(Sj e.w.params).2.2.2.2.2.1,(Sj e.w.params).2.2.2.2.2.2⟩
noncomputable def ZQ [e:Ev5]:IF e.K e.mg:=⟨581,W.mg_of e.X e.G (TB e.w.params).1,clC (TB e.w.params).2,noU,noU,(TB e.w.params).2.2.2.2.2.1,(TB e.w.params).2.2.2.2.2.2⟩
theorem Xi [e:Ev5]:e.mg "len"=none:=W.mg_none_of e.X e.G (by kernel_rfl)
theorem XS [e:Ev5]:e.mg "range"=none:=W.mg_none_of e.X e.G (by kernel_rfl)
theorem RY [e:Ev5]:e.mg "abs"=none:=W.mg_none_of e.X e.G (by kernel_rfl)
theorem WX [e:Ev5]:e.mg "min"=none:=W.mg_none_of e.X e.G (by kernel_rfl)
theorem Rg [e:Ev5]:e.mg "list"=none:=W.mg_none_of e.X e.G (by kernel_rfl)
theorem UG [e:Ev5]:e.mg "zip"=none:=W.mg_none_of e.X e.G (by kernel_rfl)
theorem XF [e:Ev5]:e.mg "max"=none:=W.mg_none_of e.X e.G (by kernel_rfl)
theorem WM [e:Ev5]:e.mg "enumerate"=none:=W.mg_none_of e.X e.G (by kernel_rfl)
theorem R0 [e:Ev5]:e.mg "all"=none:=W.mg_none_of e.X e.G (by kernel_rfl)
theorem T8 [e:Ev5]:e.mg "sum"=none:=W.mg_none_of e.X e.G (by kernel_rfl)
theorem z_any [e:Ev5]:e.mg "any"=none:=W.mg_none_of e.X e.G (by kernel_rfl)
theorem Jo [e:Ev5]:e.mg "isinstance"=none:=W.mg_none_of e.X e.G (by kernel_rfl)
noncomputable def dF [e:Ev5] {n:Str}{st:Stmt}{ps:List Str}(a:fnE e.K (W.nsIn e.K mainGlobals n) n n st:=by kernel_rfl)(b:Bn n n st ps:=by first|exact λ_ _ _ _ _ _=>ln1 λ_=>rfl|exact λ_ _ _ _ _ _=>ln2 λ_ _=>rfl|exact λ_ _ _ _ _ _=>ln3 λ_ _ _=>rfl|exact λ_ _ _ _ _ _=>ln4 λ_ _ _ _=>rfl|exact λ_ _ _ _ _ _=>ln5 λ_ _ _ _ _=>rfl|exact λ_ _ _ _ _ _=>ln6 λ_ _ _ _ _ _=>rfl):Dfz n st ps:=dfo e.X e.G a b
noncomputable def dM [e:Ev5] {C:Addr}{n q:Str}{st:Stmt}{ps:List Str}(a:fnE e.K (W.findIn e.K (.ref C) n) n q st:=by kernel_rfl)(b:Bn n q st ps:=by first|exact λ_ _ _ _ _ _=>ln1 λ_=>rfl|exact λ_ _ _ _ _ _=>ln2 λ_ _=>rfl|exact λ_ _ _ _ _ _=>ln3 λ_ _ _=>rfl|exact λ_ _ _ _ _ _=>ln4 λ_ _ _ _=>rfl|exact λ_ _ _ _ _ _=>ln5 λ_ _ _ _ _=>rfl|exact λ_ _ _ _ _ _=>ln6 λ_ _ _ _ _ _=>rfl):Dmz C n q st ps:=dmo a b
noncomputable abbrev Nd.oz [Ev5] (v:Nd):Ob:=v.ob Yg.C Yo.C ZL.C ZN.C ZM.C ZQ.C
structure Pr [e:Ev5] (C:Addr)(c:Int->Int->Nd):Prop where
 cl:Cls e.K C
 o:Ym e.K C "one"
 t:Ym e.K C "other"
 b:∀i j,(c i j).oz=.ins C [("one",.int i),("other",.int j)]
 k:∀m q i j,(c i j).ok m q=(inR m i/\inR m j)
theorem OC [Ev5]:Pr ZL.C .plus:=⟨ZL.cl,ZL.n_one,ZL.n_other,λ_ _=>rfl,λ_ _ _ _=>rfl⟩
theorem LH [Ev5]:Pr ZN.C .minus:=⟨ZN.cl,ZN.n_one,ZN.n_other,λ_ _=>rfl,λ_ _ _ _=>rfl⟩
theorem Na [Ev5]:Pr ZM.C .times:=⟨ZM.cl,ZM.n_one,ZM.n_other,λ_ _=>rfl,λ_ _ _ _=>rfl⟩
structure A3 (a0 a1 a2:Prop):Prop where
 p0:a0
 p1:a1
 p2:a2
structure A4 (a0 a1 a2 a3:Prop):Prop where
 p0:a0
 p1:a1
 p2:a2
 p3:a3
structure A5 (a0 a1 a2 a3 a4:Prop):Prop where
 p0:a0
 p1:a1
 p2:a2
 p3:a3
 p4:a4
structure A6 (a0 a1 a2 a3 a4 a5:Prop):Prop where
 p0:a0
 p1:a1
 p2:a2
 p3:a3
 p4:a4
 p5:a5
structure A7 (a0 a1 a2 a3 a4 a5 a6:Prop):Prop where
 p0:a0
 p1:a1
 p2:a2
 p3:a3
 p4:a4
 p5:a5
 p6:a6
structure A8 (a0 a1 a2 a3 a4 a5 a6 a7:Prop):Prop where
 p0:a0
 p1:a1
 p2:a2
 p3:a3
 p4:a4
 p5:a5
 p6:a6
 p7:a7
structure A9 (a0 a1 a2 a3 a4 a5 a6 a7 a8:Prop):Prop where
 p0:a0
 p1:a1
 p2:a2
 p3:a3
 p4:a4
 p5:a5
 p6:a6
 p7:a7
 p8:a8
structure A10 (a0 a1 a2 a3 a4 a5 a6 a7 a8 a9:Prop):Prop where
 p0:a0
 p1:a1
 p2:a2
 p3:a3
 p4:a4
 p5:a5
 p6:a6
 p7:a7
 p8:a8
 p9:a9
structure A11 (a0 a1 a2 a3 a4 a5 a6 a7 a8 a9 a10:Prop):Prop where
 p0:a0
 p1:a1
 p2:a2
 p3:a3
 p4:a4
 p5:a5
 p6:a6
 p7:a7
 p8:a8
 p9:a9
 p10:a10
structure A12 (a0 a1 a2 a3 a4 a5 a6 a7 a8 a9 a10 a11:Prop):Prop where
 p0:a0
 p1:a1
 p2:a2
 p3:a3
 p4:a4
 p5:a5
 p6:a6
 p7:a7
 p8:a8
 p9:a9
 p10:a10
 p11:a11
structure A14 (a0 a1 a2 a3 a4 a5 a6 a7 a8 a9 a10 a11 a12 a13:Prop):Prop where
 p0:a0
 p1:a1
 p2:a2
 p3:a3
 p4:a4
 p5:a5
 p6:a6
 p7:a7
 p8:a8
 p9:a9
 p10:a10
 p11:a11
 p12:a12
 p13:a13
structure A16 (a0 a1 a2 a3 a4 a5 a6 a7 a8 a9 a10 a11 a12 a13 a14 a15:Prop):Prop where
 p0:a0
 p1:a1
 p2:a2
 p3:a3
 p4:a4
 p5:a5
 p6:a6
 p7:a7
 p8:a8
 p9:a9
 p10:a10
 p11:a11
 p12:a12
 p13:a13
 p14:a14
 p15:a15
structure A17 (a0 a1 a2 a3 a4 a5 a6 a7 a8 a9 a10 a11 a12 a13 a14 a15 a16:Prop):Prop where
 p0:a0
 p1:a1
 p2:a2
 p3:a3
 p4:a4
 p5:a5
 p6:a6
 p7:a7
 p8:a8
 p9:a9
 p10:a10
 p11:a11
 p12:a12
 p13:a13
 p14:a14
 p15:a15
 p16:a16
inductive E2 {α0 α1:Type}(p:α0->α1->Prop):Prop
 | mk (x0:α0) (x1:α1) (h:p x0 x1)
inductive E3 {α0 α1 α2:Type}(p:α0->α1->α2->Prop):Prop
 | mk (x0:α0) (x1:α1) (x2:α2) (h:p x0 x1 x2)
inductive E4 {α0 α1 α2 α3:Type}(p:α0->α1->α2->α3->Prop):Prop
 | mk (x0:α0) (x1:α1) (x2:α2) (x3:α3) (h:p x0 x1 x2 x3)
inductive E5 {α0 α1 α2 α3 α4:Type}(p:α0->α1->α2->α3->α4->Prop):Prop
 | mk (x0:α0) (x1:α1) (x2:α2) (x3:α3) (x4:α4) (h:p x0 x1 x2 x3 x4)
inductive E6 {α0 α1 α2 α3 α4 α5:Type}(p:α0->α1->α2->α3->α4->α5->Prop):Prop
 | mk (x0:α0) (x1:α1) (x2:α2) (x3:α3) (x4:α4) (x5:α5) (h:p x0 x1 x2 x3 x4 x5)
inductive E7 {α0 α1 α2 α3 α4 α5 α6:Type}(p:α0->α1->α2->α3->α4->α5->α6->Prop):Prop
 | mk (x0:α0) (x1:α1) (x2:α2) (x3:α3) (x4:α4) (x5:α5) (x6:α6) (h:p x0 x1 x2 x3 x4 x5 x6)
inductive E8 {α0 α1 α2 α3 α4 α5 α6 α7:Type}(p:α0->α1->α2->α3->α4->α5->α6->α7->Prop):Prop
 | mk (x0:α0) (x1:α1) (x2:α2) (x3:α3) (x4:α4) (x5:α5) (x6:α6) (x7:α7) (h:p x0 x1 x2 x3 x4 x5 x6 x7)
inductive E11 {α0 α1 α2 α3 α4 α5 α6 α7 α8 α9 α10:Type}(p:α0->α1->α2->α3->α4->α5->α6->α7->α8->α9->α10->Prop):Prop
 | mk (x0:α0) (x1:α1) (x2:α2) (x3:α3) (x4:α4) (x5:α5) (x6:α6) (x7:α7) (x8:α8) (x9:α9) (x10:α10) (h:p x0 x1 x2 x3 x4 x5 x6 x7 x8 x9 x10)
inductive E12 {α0 α1 α2 α3 α4 α5 α6 α7 α8 α9 α10 α11:Type}(p:α0->α1->α2->α3->α4->α5->α6->α7->α8->α9->α10->α11->Prop):Prop
 | mk (x0:α0) (x1:α1) (x2:α2) (x3:α3) (x4:α4) (x5:α5) (x6:α6) (x7:α7) (x8:α8) (x9:α9) (x10:α10) (x11:α11) (h:p x0 x1 x2 x3 x4 x5 x6 x7 x8 x9 x10 x11)
def aN (p:Prop):List D->Prop
 | []=>p
 | _=>False
theorem TU {p:Prop}:∀ {ds:List D},aN p ds->ds=[]/\p
 | [],h=>⟨rfl,h⟩
 | _::_,h=>h.elim
theorem nN {p:Prop}{ds:List D}(h:aN p ds):ds.length=0:=by rw[(TU h).1];rfl
def aR (f:Nat->List D->Prop):List D->Prop
 | .ref a::r=>f a r
 | _=>False
theorem aR_e {f:Nat->List D->Prop}{ds:List D}(h:aR f ds):∃a r,ds=.ref a::r/\f a r:=by
 match ds,h with
 | .ref a::r,h=>exact⟨a,r,rfl,h⟩
theorem nR {f:Nat->List D->Prop}{n:Nat}(k:∀a {r:List D},f a r->r.length=n){ds:List D}(h:aR f ds):ds.length=n+1:=by
 obtain⟨a,r,rfl,h⟩:=aR_e h;rw[yG,k a h]
def aI (f:Int->List D->Prop):List D->Prop
 | .int a::r=>f a r
 | _=>False
theorem aI_e {f:Int->List D->Prop}{ds:List D}(h:aI f ds):∃a r,ds=.int a::r/\f a r:=by
 match ds,h with
 | .int a::r,h=>exact⟨a,r,rfl,h⟩
theorem nI {f:Int->List D->Prop}{n:Nat}(k:∀a {r:List D},f a r->r.length=n){ds:List D}(h:aI f ds):ds.length=n+1:=by
 obtain⟨a,r,rfl,h⟩:=aI_e h;rw[yG,k a h]
def aS (f:Str->List D->Prop):List D->Prop
 | .str a::r=>f a r
 | _=>False
theorem aS_e {f:Str->List D->Prop}{ds:List D}(h:aS f ds):∃a r,ds=.str a::r/\f a r:=by
 match ds,h with
 | .str a::r,h=>exact⟨a,r,rfl,h⟩
theorem nS {f:Str->List D->Prop}{n:Nat}(k:∀a {r:List D},f a r->r.length=n){ds:List D}(h:aS f ds):ds.length=n+1:=by
 obtain⟨a,r,rfl,h⟩:=aS_e h;rw[yG,k a h]
def aP (f:Int->Int->List D->Prop):List D->Prop
 | .tup [.int a,.int b]::r=>f a b r
 | _=>False
theorem aP_e {f:Int->Int->List D->Prop}{ds:List D}(h:aP f ds):∃a b r,ds=.tup [.int a,.int b]::r/\f a b r:=by
 match ds,h with
 | .tup [.int a,.int b]::r,h=>exact⟨a,b,r,rfl,h⟩
theorem nP {f:Int->Int->List D->Prop}{n:Nat}(k:∀a b {r:List D},f a b r->r.length=n){ds:List D}(h:aP f ds):ds.length=n+1:=by
 obtain⟨a,b,r,rfl,h⟩:=aP_e h;rw[yG,k a b h]
def aT (f:Str->Int->List D->Prop):List D->Prop
 | .tup [.str a,.int b]::r=>f a b r
 | _=>False
theorem aT_e {f:Str->Int->List D->Prop}{ds:List D}(h:aT f ds):∃a b r,ds=.tup [.str a,.int b]::r/\f a b r:=by
 match ds,h with
 | .tup [.str a,.int b]::r,h=>exact⟨a,b,r,rfl,h⟩
theorem nT {f:Str->Int->List D->Prop}{n:Nat}(k:∀a b {r:List D},f a b r->r.length=n){ds:List D}(h:aT f ds):ds.length=n+1:=by
 obtain⟨a,b,r,rfl,h⟩:=aT_e h;rw[yG,k a b h]
def aD (f:D->List D->Prop):List D->Prop
 | a::r=>f a r
 | []=>False
theorem aD_e {f:D->List D->Prop}:∀ {ds:List D},aD f ds->∃a r,ds=a::r/\f a r
 | a::r,h=>⟨a,r,rfl,h⟩
 | [],h=>h.elim
theorem nD {f:D->List D->Prop}{n:Nat}(k:∀a {r:List D},f a r->r.length=n){ds:List D}(h:aD f ds):ds.length=n+1:=by
 obtain⟨a,r,rfl,h⟩:=aD_e h;rw[yG,k a h]
theorem eD {f:D->Prop}{ds:List D}(h:(aD λa0=>aN (f a0)) ds):∃a0,ds=[a0]/\f a0:=by
 obtain⟨a0,_,e0,h⟩:=aD_e h;obtain⟨e,h⟩:=TU h;exact⟨a0,by rw[e0,e],h⟩
theorem eR {f:Nat->Prop}{ds:List D}(h:(aR λa0=>aN (f a0)) ds):∃a0,ds=[.ref a0]/\f a0:=by
 obtain⟨a0,_,e0,h⟩:=aR_e h;obtain⟨e,h⟩:=TU h;exact⟨a0,by rw[e0,e],h⟩
abbrev Gg (g:Int):Prop:=1<=g/\g<=1000000
theorem rmn {j k:Nat}{A:Around}(r:ZG k A)(h:j<=k:=by decide):ZG j A:=r.mono h
theorem piv {X:Cx}{Z:Zx}(i:Nat){x:Str}{n:Int}{j p q p2}(h:PD X Z (.Name x p) (Xn i):=by exact dv _)(hs:VV (.Constant (.int n) j q):=by exact λ_ _=>rfl):PD X Z (.Subscript (.Name x p) (.Constant (.int n) j q) p2) (dOp wIx (Xn i) (dC (.int n))):=Mq h Ze hs
theorem pt0 {Y:List (Str×Addr)->Addr->Shared->Hp->List Addr->LA->Cx}(a b c d e f):We (Y a b c d e f) [] Xe:=Fc
abbrev sR (n:Nat):Option D:=some (.ref n)
abbrev sI (n:Int):Option D:=some (.int n)
abbrev La (S:Sto)(n:Nat)(xs:List D):Prop:=S[n]?=some (.lst xs)
abbrev mSx (f:Sto->DK->(Addr->Sto->Prop)->List D->Prop):Sd:=λds S Q ex=>f S Q ex ds
def IU:Sd:=mSx λS Q ex=>aI λc=>aN (0<=c/\∀g:Int,1<=g->g<=1000000->Q (.int g) S)
def IP:Sd:=mSx λS Q ex=>aI λc=>aI λm=>aN ((0<=c/\c<2147483629/\1<=m/\m<=60)/\∀v:Nd,(∀q:Int,v.ok m q)->Q v.d S)
def G1:Sd:=mSx λS Q ex=>aD λd=>aR λn=>aN (E3 λ(v:Nd)(ws:List Nat)(q:Int)=>A5 (d=v.d) (S[n]?=some (Ob.lst (ws.map wtD))) (v.ok ws.length q) (∀i:Int,inR ws.length i->ws.getD i.toNat 0<=16) (Q (.int (v.wt ws:Nat)) S))
def IL:Sd:=mSx λS Q ex=>aR λc=>aI λq=>aN (E2 λ(cs:List D)(qn:Nat)=>A6 (La S c cs) (∀x∈cs,∃i:Int,x=.int i/\0<=i/\i<2147483629) (q=qn) (1<=qn/\qn<=4) (cs.length<=20) (∀(ns:List Nd)(ws:List Nat)(T:Sto)(m:Nat),ZE qn ns ws->1<=ns.length->ns.length<=24->Pre S T->S.length<=m->La T m (ns.map Nd.d)->Q (.ref m) T))
def Jd:Sd:=mSx λS Q ex=>aR λn=>aI λk=>aN (∃ns:List Int,A3 (S[n]?=some (.frz (ns.map D.int))) (0<=k/\k<=1000) (∀c:Int,(0<=c/\c<2147483629)->Q (.int c) S))
def Cv:Sd:=mSx λS Q ex=>aI λa=>aI λb=>aN (Q (.int ((Int.gcd a b:Nat):Int)) S)
def Gk:Sd:=mSx λS Q ex=>aI λx=>aI λn=>aN ((0<=n/\n<=6/\Sz 2000 x)/\Q (.int (x^n.toNat)) S)
def L8:Sd:=mSx λS Q ex=>aR λa=>aR λb=>aN (∃(ns:List Nd)(ws:List Nat)(ps:LI),La S a (ns.map Nd.d)/\La S b (ps.map frD)/\ZE ps.length ns ws/\Pz 110 ps/\ns.length<=70/\∀(T:Sto)(m:Nat),Pre S T->S.length<=m->La T m ((ZH ps ns).map frD)->Q (.ref m) T)
def Bx:Sd:=mSx λS Q ex=>aR λa=>aD λd=>aN (E4 λ(q:Nat)(v:Nd)(ns:List Nd)(ws:List Nat)=>A7 (d=v.d) (La S a (ns.map Nd.d)) (ns.length<900) (ZE q ns ws) (v.ok ns.length q) (v.wt ws<=16) (∀(T:Sto)(j:Nat)(ns':List Nd)(ws':List Nat),Gr q a 1 S ns ws T ns' ws'->j<ns'.length->ns'[j]?=some v->ws'.getD j 0=v.wt ws->(∀P,gt (ZH P ns') (j:Int)=v.due (ZH P ns) P)->Q (.int (j:Int)) T))
def Jn:Sd:=mSx λS Q ex=>aR λa=>aN (∃(ns:List Nd)(ws:List Nat)(q:Int),La S a (ns.map Nd.d)/\ZE q ns ws/\ns.length<=70/\∀T:Sto,Pre S T->La T S.length (ws.map wtD)->Q (.ref S.length) T)
def J1:Sd:=mSx λS Q ex=>aR λa=>aR λb=>aI λg=>aI λc=>aI λpl=>aN (E4 λ(q:Nat)(ns:List Nd)(ws:List Nat)(bs:LI)=>A11 (La S a (ns.map Nd.d)) (La S b (bs.map frD)) (ZE q ns ws) (bs.length=q) (q<=4) (Spn 51 bs) (Gg g) (0<=c) (0<=pl) (1<=ns.length/\ns.length<=60) (∀(T:Sto)(ns':List Nd)(ws':List Nat)(r:Bool×Nat),Gr q a 2 S ns ws T ns' ws'->r.2<ns'.length->Q (rwD r) T))
def Eu:Sd:=mSx λS Q ex=>aR λn=>aR λa=>aR λb=>aI λg=>aN (E5 λ(q:Nat)(xs:List Int)(ns:List Nd)(ws:List Nat)(bs:LI)=>A11 (S[n]?=some (.frz (xs.map D.int))) (La S a (ns.map Nd.d)) (La S b (bs.map frD)) (a≠b) (ZE q ns ws) (bs.length=q) (q<=4) (Spn 51 bs) (Gg g) (1<=ns.length/\ns.length<=50) (∀(T:Sto)(m:Nat)(ns':List Nd)(ws':List Nat)(rows:List (Bool×Nat)),Gr q a 6 S ns ws T ns' ws'->rows.length<=3->(∀r∈rows,r.2<ns'.length)->S.length<=m->La T m (rows.map rwD)->Q (.ref m) T))
def J5 [Ev5]:Sd:=mSx λS Q ex=>aR λn=>aR λx=>aN (E2 λ(T:Sto)(b0:LI)=>A4 (S=T++[.ins Zn.C []]) (n=T.length) (La T x (b0.map frD)) (∀(U:Sto)(a b:Nat),T.length<a->T.length<b->Pre T U->Bk Zn.C U n a b [b0] [.wait]->Q .non U))
def Be [Ev5]:Sd:=mSx λS Q ex=>aR λn=>aN (E4 λ(a b:Nat)(es:List LI)(fs:List Ft)=>A3 (Bk Zn.C S n a b es fs) (es.length<=900) (∀(T:Sto)(ds:List D),Pre S T->La T S.length ds->En T ds es fs->Q (.ref S.length) T))
def Jj:Sd:=mSx λS Q ex=>aP λa b=>aN (Q (.int (b-a)) S)
def EE:Sd:=mSx λS Q ex=>aR λn=>aN (∃bs:LI,A3 (La S n (bs.map frD)) (bs.length<=900) (Q (.ref S.length) (S++[.lst ((bs.map wd).map D.int)])))
def KD:Sd:=mSx λS Q ex=>aR λn=>aN (∃bs:LI,A3 (La S n (bs.map frD)) (bs.length<=900) (∀(m:Int)(T:Sto),Pre S T->Wst bs m->Q (.int m) T))
def MC [Ev5]:Sd:=mSx λS Q ex=>aR λn=>aN (E5 λ(a b t:Nat)(es:List LI)(fs:List Ft)=>A6 (Bk Zn.C S n a b es fs) (S[t]?=some (.cod LT LP LQ)) (es.length<=900) (∀e∈es,e.length<=900) ((∀f∈fs,f≠.wait)->∀T:Sto,Pre S T->Q .non T) (∀(i:Nat)(T:Sto),WK es fs i->Pre S T->Q (.int (i:Int)) T))
def EO:Sd:=mSx λS Q ex=>aS λw=>aP λa b=>aN ((w="zero"/\Q (.bl (decide (0<a)||decide (b<0))) S)\/(w="least"/\Q (.bl (decide (b<0))) S))
def Fo:Sd:=mSx λS Q ex=>aP λa b=>aP λc d=>aN ((IntMulOk a d/\IntMulOk c b)/\Q (.bl (decide (a*d<c*b))) S)
def GP:Sd:=mSx λS Q ex=>aI λt=>aI λb=>aN (CFd 0 b/\Q (.int (-(-t/b))) S)
def KZ:Sd:=mSx λS Q ex=>aP λa b=>aP λc d=>aI λg=>aN (((IntMulOk c b/\IntMulOk a d)/\¬ c*b<a*d/\IntMulOk a g/\IntMulOk c g/\CFd 0 b/\CFd 0 d)/\Q (.tup [.int (a*g/b),.int (-(-(c*g)/d))]) S)
abbrev VR [Ev5] (S:Sto)(Q:DK)(n:Nat)(w:Nat)(p:Nat)(g:Int)(v:Nd):Prop:=∃(vs bs:LI),S[n]?=some (Nd.oz v)/\La S w (vs.map frD)/\La S p (bs.map frD)/\Nd.ok vs.length bs.length v/\Spn 1400 vs/\(Gg g)/\Q (frD (Nd.fw vs bs g v)) S
def Lj [Ev5]:Sd:=mSx λS Q ex=>aR λn=>aR λw=>aR λp=>aI λg=>aN (∃(x y:Int),VR S Q n w p g (Nd.number x y))
def NT [Ev5]:Sd:=mSx λS Q ex=>aR λn=>aR λw=>aR λp=>aI λg=>aN (∃(k:Int),VR S Q n w p g (Nd.unknown k))
def D4:Sd:=mSx λS Q ex=>aP λa b=>aP λc d=>aN (Q (.tup [.int (a+c),.int (b+d)]) S)
def OR [Ev5]:Sd:=mSx λS Q ex=>aR λn=>aR λw=>aR λp=>aI λg=>aN (∃(i j:Int),VR S Q n w p g (Nd.plus i j))
def Ir:Sd:=mSx λS Q ex=>aP λa b=>aP λc d=>aN (Q (.tup [.int (a-d),.int (b-c)]) S)
def OK [Ev5]:Sd:=mSx λS Q ex=>aR λn=>aR λw=>aR λp=>aI λg=>aN (∃(i j:Int),VR S Q n w p g (Nd.minus i j))
def HK:Sd:=mSx λS Q ex=>aP λa b=>aP λc d=>aI λg=>aN (((IntMulOk a c/\IntMulOk a d/\IntMulOk b c/\IntMulOk b d)/\CFd 0 g)/\∀mn mx:Int,Uo a b c d mn mx->Q (.tup [.int (mn/g),.int (-(-mx/g))]) S)
def O8 [Ev5]:Sd:=mSx λS Q ex=>aR λn=>aR λw=>aR λp=>aI λg=>aN (∃(i j:Int),VR S Q n w p g (Nd.times i j))
def PJ:Sd:=mSx λS Q ex=>aI λx=>aI λn=>aN ((0<=n/\n<=6/\Sz 2000 x)/\Q (.int (x^n.toNat)) S)
def Er:Sd:=mSx λS Q ex=>aP λa b=>aI λn=>aI λg=>aN ((1<=n/\n<=6/\Sz 1400 a/\Sz 1400 b/\1<=g/\Sz 1400 g)/\∀m M:Int,WQ a b n.toNat m M->Q (.tup [.int (m/g^(n.toNat-1)),.int (-(-M/g^(n.toNat-1)))]) S)
def NS [Ev5]:Sd:=mSx λS Q ex=>aR λn=>aR λw=>aR λp=>aI λg=>aN (∃(i m:Int),VR S Q n w p g (Nd.power i m))
def Ua (C:Addr)(a b:Str):Sd:=mSx λS Q ex=>aR λn=>aD λx=>aD λy=>aN (∃T:Sto,S=T++[.ins C []]/\n=T.length/\Q .non (T++[.ins C [(a,x),(b,y)]]))
abbrev F5 [Ev5]:=Ua ZQ.C "one" "many"
abbrev D9 [Ev5]:=Ua Yg.C "top" "bottom"
def C5 [Ev5]:Sd:=mSx λS Q ex=>aR λn=>aD λx=>aN (∃T:Sto,S=T++[.ins Yo.C []]/\n=T.length/\Q .non (T++[.ins Yo.C [("place",x)]]))
abbrev BV [Ev5]:=Ua ZL.C "one" "other"
abbrev BU [Ev5]:=Ua ZN.C "one" "other"
abbrev BW [Ev5]:=Ua ZM.C "one" "other"
def DG [Ev5]:Sd:=mSx λS Q ex=>aD λd=>aN (∃v:Nd,d=v.d/\Q (.ref S.length) (S++[v.oz]))
def GC:Sd:=mSx λS Q ex=>aR λa=>aR λb=>aI λg=>aN (∃(ns:List Nd)(ws:List Nat)(bs:LI),La S a (ns.map Nd.d)/\La S b (bs.map frD)/\ZE bs.length ns ws/\Spn 51 bs/\(Gg g)/\ns.length<=70/\∀(T:Sto)(m:Nat),Pre S T->S.length<=m->La T m ((Zl bs g ns).map frD)->Q (.ref m) T)
def Ci:Sd:=mSx λS Q ex=>aR λa=>aT λw k=>aR λb=>aI λg=>aN (E4 λ(ns:List Nd)(ws:List Nat)(bs:LI)(zero:Bool)=>A9 (La S a (ns.map Nd.d)) (La S b (bs.map frD)) (rwW zero w) (inR ns.length k) (ZE bs.length ns ws) (Spn 51 bs) (Gg g) (ns.length<=70) (∀T:Sto,Pre S T->Q (.bl (ibS ns zero k.toNat bs g)) T))
def BK:Sd:=mSx λS Q ex=>aP λa b=>aP λc d=>aN ((Z5 (a,b) (c,d)=none->Q .non S)/\∀p,Z5 (a,b) (c,d)=some p->Q (frD p) S)
def Ge:Sd:=mSx λS Q ex=>aS λw=>aP λa b=>aN (∃zero:Bool,rwW zero w/\(V3 zero (a,b)=none->Q .non S)/\∀p,V3 zero (a,b)=some p->Q (frD p) S)
abbrev VN [Ev5] (S:Sto)(Q:DK)(n:Nat)(w:Nat)(z0 z1:Int)(g:Int)(v:Nd):Prop:=∃(vs:LI)(q:Int),S[n]?=some (Nd.oz v)/\La S w (vs.map frD)/\Nd.ok vs.length q v/\Spn 1000 vs/\(z0<=z1/\Sz 1000 z0/\Sz 1000 z1)/\(Gg g)/\(Nd.bk vs (z0,z1) g v=none->Q .non S)/\∀l,Nd.bk vs (z0,z1) g v=some l->Q (.ref S.length) (S++[.lst (l.map ptD)])
def LF [Ev5]:Sd:=mSx λS Q ex=>aR λn=>aR λw=>aP λz0 z1=>aI λg=>aN (∃(x y:Int),VN S Q n w z0 z1 g (Nd.number x y))
def Nb [Ev5]:Sd:=mSx λS Q ex=>aR λn=>aR λw=>aP λz0 z1=>aI λg=>aN (∃(k:Int),VN S Q n w z0 z1 g (Nd.unknown k))
def Dc:Sd:=mSx λS Q ex=>aR λx_0=>aP λz0 z1=>aP λx0 x1=>aP λy0 y1=>aI λx_7=>aN ((Z5 (x0,x1) (z0-y1,z1-y0)=none->Q .non S)/\∀p,Z5 (x0,x1) (z0-y1,z1-y0)=some p->Q (frD p) S)
def JX:Sd:=mSx λS Q ex=>aR λx_0=>aP λz0 z1=>aP λx0 x1=>aP λy0 y1=>aI λx_7=>aN ((Z5 (y0,y1) (z0-x1,z1-x0)=none->Q .non S)/\∀p,Z5 (y0,y1) (z0-x1,z1-x0)=some p->Q (frD p) S)
def MB [Ev5]:Sd:=mSx λS Q ex=>aR λn=>aR λw=>aP λz0 z1=>aI λg=>aN (∃(i j:Int),VN S Q n w z0 z1 g (Nd.plus i j))
def Ek:Sd:=mSx λS Q ex=>aR λx_0=>aP λz0 z1=>aP λx0 x1=>aP λy0 y1=>aI λx_7=>aN ((Z5 (x0,x1) (z0+y0,z1+y1)=none->Q .non S)/\∀p,Z5 (x0,x1) (z0+y0,z1+y1)=some p->Q (frD p) S)
def ED:Sd:=mSx λS Q ex=>aR λx_0=>aP λz0 z1=>aP λx0 x1=>aP λy0 y1=>aI λx_7=>aN ((Z5 (y0,y1) (x0-z1,x1-z0)=none->Q .non S)/\∀p,Z5 (y0,y1) (x0-z1,x1-z0)=some p->Q (frD p) S)
def Ot [Ev5]:Sd:=mSx λS Q ex=>aR λn=>aR λw=>aP λz0 z1=>aI λg=>aN (∃(i j:Int),VN S Q n w z0 z1 g (Nd.minus i j))
def CJ:Sd:=mSx λS Q ex=>aP λa b=>aN (Q (.bl (decide (a<=0)&&decide (0<=b))) S)
def GG:Sd:=mSx λS Q ex=>aP λx0 x1=>aP λl0 l1=>aP λh0 h1=>aN ((ptB (x0,x1) (l0,l1) (h0,h1)=none->Q .non S)/\∀p,ptB (x0,x1) (l0,l1) (h0,h1)=some p->Q (frD p) S)
def BC:Sd:=mSx λS Q ex=>aI λt=>aI λb=>aN (CFd 0 b/\Q (.tup [.int (t/b),.int (-(-t/b))]) S)
def Es:Sd:=mSx λS Q ex=>aP λlo hi=>aP λx0 x1=>aP λc d=>aN ((0<=c/\0<d/\Sz 1400 c/\Sz 1400 d)/\(sdS lo hi (x0,x1) c d=none->Q .non S)/\∀p,sdS lo hi (x0,x1) c d=some p->Q (frD p) S)
def DI:Sd:=mSx λS Q ex=>aP λa b=>aP λc d=>aN (Q (.tup [.int (if c<a then c else a),.int (if d > b then d else b)]) S)
def jnP (S:Sto)(Q:DK)(y:D):D->Prop
 | .non=>Q y S
 | .tup [.int a,.int b]=>(match y with
  | .non=>Q (.tup [.int a,.int b]) S
  | .tup [.int c,.int d]=>Q (.tup [.int (if c<a then c else a),.int (if d > b then d else b)]) S
  | _=>False)
 | _=>False
def GB:Sd:=mSx λS Q ex=>aD λx=>aD λy=>aN (jnP S Q y x)
def Qo:Sd:=mSx λS Q ex=>aP λa b=>aN (Q (.tup [.int (-b),.int (-a)]) S)
def BI:Sd:=mSx λS Q ex=>aP λz0 z1=>aP λx0 x1=>aP λy0 y1=>aI λg=>aN ((y0<=y1/\Sz 1100 z0/\Sz 1100 z1/\Sz 1100 y0/\Sz 1100 y1/\Sz 30 g)/\(btS (z0,z1) (x0,x1) (y0,y1) g=none->Q .non S)/\∀p,btS (z0,z1) (x0,x1) (y0,y1) g=some p->Q (frD p) S)
def DX:Sd:=mSx λS Q ex=>aR λx_0=>aP λz0 z1=>aP λx0 x1=>aP λy0 y1=>aI λg=>aN ((y0<=y1/\Sz 1100 z0/\Sz 1100 z1/\Sz 1100 y0/\Sz 1100 y1/\Sz 30 g)/\(btS (z0,z1) (x0,x1) (y0,y1) g=none->Q .non S)/\∀p,btS (z0,z1) (x0,x1) (y0,y1) g=some p->Q (frD p) S)
def Iu:Sd:=mSx λS Q ex=>aR λx_0=>aP λz0 z1=>aP λx0 x1=>aP λy0 y1=>aI λg=>aN ((x0<=x1/\Sz 1100 z0/\Sz 1100 z1/\Sz 1100 x0/\Sz 1100 x1/\Sz 30 g)/\(btS (z0,z1) (y0,y1) (x0,x1) g=none->Q .non S)/\∀p,btS (z0,z1) (y0,y1) (x0,x1) g=some p->Q (frD p) S)
def O5 [Ev5]:Sd:=mSx λS Q ex=>aR λn=>aR λw=>aP λz0 z1=>aI λg=>aN (∃(i j:Int),VN S Q n w z0 z1 g (Nd.times i j))
def Ep:Sd:=mSx λS Q ex=>aI λg=>aI λN=>aI λn=>aN ((2<=n/\n<=6/\0<g/\Sz 800 g)/\Q (.int (((n-1)*g+N/g^(n-1).toNat)/n)) S)
def PN:Sd:=mSx λS Q ex=>aI λN=>aI λn=>aN ((2<=n/\n<=6/\0<=N/\Sz 1300 N)/\∀r:Int,0<=r->Sz 800 r->r^n.toNat<=N->N<(r+1)^n.toNat->Q (.int r) S)
def UZ:Sd:=λds S Q ex=>match ds with
 | [.int N,.int n]=>(2<=n/\n<=6/\0<=N/\Sz 1300 N)/\Q (frD (rt0 N n.toNat)) S
 | _=>False
theorem Hm:Ln (UZ) 2:=λds S Q ex h=>by unfold UZ at h;split at h<;>first|rfl|exact h.elim
def Sf:Sd:=λds S Q ex=>match ds with
 | [.int N,.int n]=>(2<=n/\n<=6/\(n%2=1\/0<=N)/\Sz 1300 N)/\Q (frD (rtS N n.toNat)) S
 | _=>False
theorem Hc:Ln (Sf) 2:=λds S Q ex h=>by unfold Sf at h;split at h<;>first|rfl|exact h.elim
def Ca:Sd:=mSx λS Q ex=>aP λz0 z1=>aP λx0 x1=>aI λn=>aI λg=>aN (A3 (2<=n/\n<=6/\1<=g/\Sz 30 g/\Sz 1100 z0/\Sz 1100 z1) (bpS (z0,z1) (x0,x1) n g=none->Q .non S) (∀p,bpS (z0,z1) (x0,x1) n g=some p->Q (frD p) S))
def M3 [Ev5]:Sd:=mSx λS Q ex=>aR λn=>aR λw=>aP λz0 z1=>aI λg=>aN (∃(i m:Int),VN S Q n w z0 z1 g (Nd.power i m))
def Jk:Sd:=mSx λS Q ex=>aR λa=>aT λw k=>aR λb=>aI λg=>aN (E4 λ(ns:List Nd)(ws:List Nat)(bs:LI)(zero:Bool)=>A10 (La S a (ns.map Nd.d)) (La S b (bs.map frD)) (rwW zero w) (inR ns.length k) (ZE bs.length ns ws) (Spn 51 bs) (Gg g) (ns.length<=70) (sbS ns zero k.toNat bs g=none->∀T:Sto,Pre S T->Q .non T) (∀(us:LI)(T:Sto)(m:Nat),sbS ns zero k.toNat bs g=some us->Pre S T->S.length<=m->La T m (us.map frD)->Q (.ref m) T))
def Ib:Sd:=mSx λS Q ex=>aR λa=>aT λw k=>aR λb=>aI λg=>aN (E4 λ(ns:List Nd)(ws:List Nat)(bs:LI)(zero:Bool)=>A10 (La S a (ns.map Nd.d)) (La S b (bs.map frD)) (rwW zero w) (inR ns.length k) (ZE bs.length ns ws) (Spn 51 bs) (Gg g) (ns.length<=70) (nwS ns zero k.toNat bs g=none->∀T:Sto,Pre S T->Q .non T) (∀(us:LI)(T:Sto)(m:Nat),nwS ns zero k.toNat bs g=some us->Pre S T->S.length<=m->La T m (us.map frD)->Q (.ref m) T))
def CM:Sd:=mSx λS Q ex=>aR λb=>aI λk=>aD λd=>aN (E2 λ(bs:LI)(p:Int×Int)=>A5 (La S b (bs.map frD)) (inR bs.length k) (bs.length<=4) (d=frD p) (∀(T:Sto)(m:Nat),Pre S T->S.length<=m->La T m ((bs.set k.toNat p).map frD)->Q (.ref m) T))
def Iv:Sd:=mSx λS Q ex=>aP λa b=>aD λd=>aN (∃c:Ct,d=c.d/\Q (frD (c.off (a,b))) S)
def C8:Sd:=mSx λS Q ex=>aR λa=>aT λw k=>aR λb=>aI λg=>aD λd=>aN (E5 λ(ns:List Nd)(ws:List Nat)(bs:LI)(zero:Bool)(c:Ct)=>A12 (La S a (ns.map Nd.d)) (La S b (bs.map frD)) (rwW zero w) (inR ns.length k) (ZE bs.length ns ws) (Spn 51 bs) (Gg g) (ns.length<=70) (d=c.d) (c.k<bs.length) (bs.length<=4) (∀T:Sto,Pre S T->Q (.bl (isS ns zero k.toNat g bs c)) T))
def GN:Sd:=mSx λS Q ex=>aP λa b=>aD λd=>aN (∃c:Ct,d=c.d/\Q (frD (c.back (a,b))) S)
def KH:Sd:=mSx λS Q ex=>aR λa=>aT λw k=>aR λb=>aI λg=>aN (E4 λ(ns:List Nd)(ws:List Nat)(bs:LI)(zero:Bool)=>A10 (La S a (ns.map Nd.d)) (La S b (bs.map frD)) (rwW zero w) (inR ns.length k) (ZE bs.length ns ws) (Spn 51 bs) (Gg g) (ns.length<=70) (bs.length<=4) (∀(T:Sto)(mc:Nat)(fd:D),Pre S T->S.length<=mc->La T mc ((shS ns zero k.toNat bs g).1.map Ct.d)->FdAt (shS ns zero k.toNat bs g).2 S.length T fd->Q (.tup [.ref mc,fd]) T))
def HH [Ev5]:Sd:=mSx λS Q ex=>aR λn=>aI λi=>aD λd=>aN (E6 λ(a b j:Nat)(es:List LI)(fs:List Ft)(f:Ft)=>A5 (Bk Zn.C S n a b es fs) (i=(j:Int)) (j<fs.length) (X3 a b S d f) (∀T:Sto,Bk Zn.C T n a b es (fs.set j f)->Cg a b S T->Q .non T))
def Ha [Ev5]:Sd:=mSx λS Q ex=>aR λn=>aR λm=>aN (E5 λ(a b:Nat)(es:List LI)(fs:List Ft)(e:LI)=>A4 (Bk Zn.C S n a b es fs) (Vs a b S m e) (es.length<990) (∀T:Sto,Bk Zn.C T n a b (es++[e]) (fs++[.wait])->Cg a b S T->Q (.int (es.length:Int)) T))
def Il [Ev5]:Sd:=mSx λS Q ex=>aR λn=>aI λi=>aI λkk=>aI λp=>aN (E8 λ(a b j k:Nat)(es:List LI)(fs:List Ft)(e:LI)(s:Int×Int)=>A8 (Bk Zn.C S n a b es fs) (i=(j:Int)) (kk=(k:Int)) (es[j]?=some e) (e[k]?=some s) (e.length<=4) (es.length<980) (∀T:Sto,Bk Zn.C T n a b (es++[e.set k (s.1,p)]++[e.set k (p,s.2)]) ((fs++[Ft.wait]++[Ft.wait]).set j (.cut k p es.length (es.length+1)))->Cg a b S T->Q (.tup [.int (es.length:Int),.int ((es.length:Int)+1)]) T))
def GS:Sd:=mSx λS Q ex=>aR λnd=>aR λrw=>aI λr=>aR λbx=>aI λg=>aN (∃(k u:Nat)(ns:List Nd)(ws:List Nat)(rows:List (Bool×Nat))(e:LI)(row:Bool×Nat),Sr S nd rw g ns ws rows u/\La S bx (e.map frD)/\e.length=u/\Spn 51 e/\r=(k:Int)/\rows[k]?=some row/\∀(T:Sto)(m:Nat),Pre S T->S.length<=m->La T m ((Zl e g (ns.take (row.2+1))).map frD)->Q (.tup [.str "out",.int r,.ref m]) T)
def CO [Ev5]:Sd:=mSx λS Q ex=>aR λn=>aR λnd=>aR λrw=>aI λg=>aI λi=>aN (E12 λ(a b j u:Nat)(ns:List Nd)(ws:List Nat)(rows:List (Bool×Nat))(b0 e:LI)(es:List LI)(fs:List Ft)(fine:Int)=>A11 (Bk Zn.C S n a b es fs) (Sr S nd rw g ns ws rows u) (Apt nd rw a b) (Bks g fine ns rows b0 es fs) (Spn 51 b0) (b0.length=u) (i=(j:Int)) (fs[j]?=some .wait) (es[j]?=some e) (es.length<=900) (∀(T:Sto)(es':List LI)(fs':List Ft)(j':Nat),Bk Zn.C T n a b es' fs'->Bks g fine ns rows b0 es' fs'->Cg a b S T->es'.length<=es.length+64->Shd es j es' j'->j'<es'.length->YV g ns 0 rows (es,fs,j)=(es',fs',j')->Q (.int (j':Int)) T))
def GQ:Sd:=mSx λS Q ex=>aS λw=>aP λa b=>aN ((w="zero"/\Q (.bl (decide (a=0)&&decide (b=0))) S)\/(w="least"/\Q (.bl (decide (0<=a))) S))
def K9:Sd:=mSx λS Q ex=>aR λnd=>aR λrw=>aR λbx=>aI λg=>aR λsp=>aN (∃(u:Nat)(ns:List Nd)(ws:List Nat)(rows:List (Bool×Nat))(e:LI),Sr S nd rw g ns ws rows u/\La S bx (e.map frD)/\e.length=u/\Spn 51 e/\La S sp ((Zl e g ns).map frD)/\(∀(T:Sto)(k m:Nat)(row:Bool×Nat),Pre S T->S.length<=m->rows[k]?=some row->ibS ns row.1 row.2 e g=true->(∀(i:Nat)(x:Bool×Nat),i<k->rows[i]?=some x->ibS ns x.1 x.2 e g=false)->La T m ((Zl e g (ns.take (row.2+1))).map frD)->Q (.tup [.str "out",.int (k:Int),.ref m]) T)/\((∀row∈rows,ibS ns row.1 row.2 e g=false)->suS ns rows e g=true->∀T:Sto,Pre S T->Q (.tup [.str "full",.ref sp]) T)/\((∀row∈rows,ibS ns row.1 row.2 e g=false)->suS ns rows e g=false->∀T:Sto,Pre S T->Q .non T))
def L4:Sd:=mSx λS Q ex=>aR λr=>aN (∃rows:List (Bool×Nat),A3 (La S r (rows.map rwD)) (rows.length<=900) (Q (.ref S.length) (S++[.lst ((eqs rows).map wtD)])))
def LX:Sd:=mSx λS Q ex=>aR λe=>aR λp=>aN (E2 λ(xs:List D)(is:List Nat)=>A5 (La S e xs) (La S p (is.map wtD)) (is.length<=900) (∀i∈is,i<xs.length) (Q (.ref S.length) (S++[.lst (is.map λi=>xs.getD i .non)])))
abbrev Rb [Ev5] (S:Sto)(Q:DK)(n:Nat)(w:Nat)(s:Nat)(qi:Int)(g:Int)(v:Nd):Prop:=∃(q:Nat)(vs:LI)(sl:List LI)(ds:List D),S[n]?=some (Nd.oz v)/\La S w (vs.map frD)/\La S s ds/\Z4 S 0 ds sl/\(∀i:Int,inR sl.length i->(sl.getD i.toNat []).length=q/\∀l,l<q->(gs sl i l).1<=(gs sl i l).2/\Sz 1100 (gs sl i l).1/\Sz 1100 (gs sl i l).2)/\(qi=(q:Nat)/\q<=900)/\Nd.ok sl.length q v/\sl.length<=vs.length/\Spn 1000 vs/\(Gg g)/\∀(T:Sto)(mm:Nat),Pre S T->S.length<=mm->La T mm ((Y9 vs sl g q v).map frD)->Q (.ref mm) T
def Mg [Ev5]:Sd:=mSx λS Q ex=>aR λn=>aR λw=>aR λs=>aI λqi=>aI λg=>aN (∃(x y:Int),Rb S Q n w s qi g (Nd.number x y))
def OX [Ev5]:Sd:=mSx λS Q ex=>aR λn=>aR λw=>aR λs=>aI λqi=>aI λg=>aN (∃(k:Int),Rb S Q n w s qi g (Nd.unknown k))
def Ej [Ev5]:Sd:=mSx λS Q ex=>aR λx_0=>aD λx_1=>aD λx_2=>aP λa b=>aP λc d=>aI λx_7=>aN (Q (.tup [.int (a+c),.int (b+d)]) S)
def SU [Ev5] (c:Int->Int->Nd):Sd:=mSx λS Q ex=>aR λn=>aR λw=>aR λs=>aI λqi=>aI λg=>aN (∃(i j:Int),Rb S Q n w s qi g (c i j))
abbrev Ke [Ev5]:=SU .plus
def Cb [Ev5]:Sd:=mSx λS Q ex=>aR λx_0=>aD λx_1=>aD λx_2=>aP λa b=>aP λc d=>aI λx_7=>aN (Q (.tup [.int (a-d),.int (b-c)]) S)
abbrev FL [Ev5]:=SU .minus
def Cd [Ev5]:Sd:=mSx λS Q ex=>aR λx_0=>aP λx1 x2=>aP λy1 y2=>aP λa b=>aP λc d=>aI λg=>aN ((Sz 1400 x1/\Sz 1400 x2/\Sz 1400 y1/\Sz 1400 y2/\Sz 1400 a/\Sz 1400 b/\Sz 1400 c/\Sz 1400 d/\1<=g/\g<=1000000)/\Q (.tup [.int ((Yn (x1,x2) (c,d) g).1+(Yn (y1,y2) (a,b) g).1),.int ((Yn (x1,x2) (c,d) g).2+(Yn (y1,y2) (a,b) g).2)]) S)
abbrev Bg [Ev5]:=SU .times
def FF:Sd:=mSx λS Q ex=>aP λa b=>aI λm=>aN ((IntMulOk a m/\IntMulOk b m)/\Q (.tup [.int (if b*m<a*m then b*m else a*m),.int (if b*m > a*m then b*m else a*m)]) S)
def Nz [Ev5]:Sd:=mSx λS Q ex=>aR λn=>aR λw=>aR λs=>aI λqi=>aI λg=>aN (∃(i m:Int),Rb S Q n w s qi g (Nd.power i m))
def Bw:Sd:=mSx λS Q ex=>aR λa=>aR λb=>aI λg=>aN (E3 λ(ns:List Nd)(ws:List Nat)(bs:LI)=>A8 (La S a (ns.map Nd.d)) (La S b (bs.map frD)) (ZE bs.length ns ws) (Spn 51 bs) (bs.length<=900) (Gg g) (ns.length<=70) (∀(T:Sto)(m:Nat)(ds:List D),Pre S T->S.length<=m->La T m ds->Z4 T (m+1) ds (Z3 (Zl bs g ns) g bs.length ns)->Q (.ref m) T))
def IW:Sd:=mSx λS Q ex=>aR λa=>aR λp=>aR λb=>aI λg=>aN (E4 λ(ns:List Nd)(ws:List Nat)(bs:LI)(is:List Nat)=>A11 (La S a (ns.map Nd.d)) (La S b (bs.map frD)) (ZE bs.length ns ws) (Spn 51 bs) (Gg g) (ns.length<=70) (bs.length<=900) (La S p (is.map wtD)) (is.length<=900) (∀i∈is,i<ns.length) (∀(T:Sto)(m:Nat)(ds:List D),Pre S T->S.length<=m->La T m ds->Z4 T 0 ds (is.map λ(i:Nat)=>(Z3 (Zl bs g ns) g bs.length ns).getD i [])->Q (.ref m) T))
def MW:Sd:=mSx λS Q ex=>aI λi=>aI λk=>aN (∃n:Nat,k=n/\Q (.int (sgn i n)) S)
def Od:Sd:=mSx λS Q ex=>aR λm=>aI λr=>aI λc=>aN (∃(M:List (List Int))(i j n:Nat),r=i/\c=j/\X0 S m M/\Sq (n+1) M/\n<=3/\i<=n/\j<=n/\∀(T:Sto)(k:Nat),Pre S T->X0 T k (YA M i j)->Q (.ref k) T)
def Tp (k:Nat):Sd:=mSx λS Q ex=>aR λm=>aN (∃(M:List (List Int))(n:Nat),n<=k/\X0 S m M/\Sq n M/\Big M/\Q (.int (ZX n M)) S)
def Tj (k:Nat):Sd:=mSx λS Q ex=>aR λm=>aI λr=>aI λc=>aN (∃(M:List (List Int))(i j n:Nat),n<=k/\r=i/\c=j/\i<=n/\j<=n/\X0 S m M/\Sq (n+1) M/\Big M/\Q (.int (sgn (ZX n (YA M i j)) (i+j))) S)
abbrev Ih:=Tp 0
abbrev BX:=Tj 3
abbrev BS:=Tp 4
def FJ:Sd:=mSx λS Q ex=>aR λm=>aI λw=>aI λr=>aI λc=>aI λg=>aN (E4 λ(M:List (List Int))(i j n:Nat)=>A11 (n<=3) (r=i) (c=j) (i<=n) (j<=n) (X0 S m M) (Sq (n+1) M) (Big M) (w≠0/\Sz 4140 w) (Gg g) (Q (.int (U4 M n w g i j)) S))
def Gs:Sd:=mSx λS Q ex=>aR λm=>aI λw=>aI λr=>aI λg=>aN (E3 λ(M:List (List Int))(i n:Nat)=>A9 (n<=3) (r=i) (i<=n) (X0 S m M) (Sq (n+1) M) (Big M) (w≠0/\Sz 4140 w) (Gg g) (Q (.ref S.length) (S++[.lst ((Vq M n w g i).map D.int)])))
def Jp:Sd:=mSx λS Q ex=>aR λm=>aI λg=>aN (E2 λ(M:List (List Int))(n:Nat)=>A7 (n<=3) (X0 S m M) (Sq (n+1) M) (Big M) (Gg g) (ZX (n+1) M=0->Q .non S) (ZX (n+1) M≠0->∀(T:Sto)(k:Nat)(ds:List D),Pre S T->S.length<=k->La T k ds->Rows T S.length ds (Xd M n (ZX (n+1) M) g)->Q (.ref k) T))
def Ho:Sd:=mSx λS Q ex=>aP λa b=>aN (Q (.int ((a+b)/2)) S)
def HX:Sd:=mSx λS Q ex=>aR λs=>aN (∃vs:LI,A3 (La S s (vs.map frD)) (vs.length<=900) (Q (.ref S.length) (S++[.lst (vs.map λp=>.int (mid p))])))
def IM:Sd:=mSx λS Q ex=>aR λb=>aN (∃vs:LI,A3 (La S b (vs.map frD)) (vs.length<=900) (∀(T:Sto)(m:Nat),Pre S T->S.length<=m->La T m ((vs.map Yh).map frD)->Q (.ref m) T))
def KA:Sd:=mSx λS Q ex=>aR λa=>aR λb=>aI λg=>aN (E2 λ(us vs:LI)=>A7 (La S a (us.map frD)) (La S b (vs.map frD)) (us.length<=60) (Bd 20000 us) (Bd 20000 vs) (Gg g) (Q (frD (YY g us vs)) S))
def EM:Sd:=mSx λS Q ex=>aI λk=>aI λc=>aR λt=>aR λs=>aI λg=>aN (∃(q kn cn:Nat)(ts:LI)(R:List LI)(ds:List D),k=(kn:Nat)/\c=(cn:Nat)/\La S t (ts.map frD)/\La S s ds/\Z4 S 0 ds R/\(∀r∈R,r.length=q/\Bd 2000 r)/\cn<q/\ts.length<=60/\R.length<=60/\Bd 20000 ts/\(Gg g)/\Q (frD (XN g kn cn ts R)) S)
def BJ:Sd:=mSx λS Q ex=>aI λki=>aR λb=>aI λg=>aR λe=>aR λt=>aR λs=>aN (∃(k:Nat)(box aA:LI)(es:List Int)(R:List LI)(ds:List D),ki=(k:Nat)/\k<box.length/\La S e (es.map D.int)/\es.length<=4/\(∀x∈es,Sz 4000 x)/\La S b (box.map frD)/\La S t (aA.map frD)/\La S s ds/\Z4 S 0 ds R/\(∀r∈R,r.length=box.length/\Bd 2000 r)/\(1<=box.length/\box.length<=4)/\R.length<=4/\aA.length<=4/\Bd 60 box/\Bd 2000 aA/\(Gg g)/\Q (frD (V6 g box aA R k es)) S)
def F2:Sd:=mSx λS Q ex=>aR λb=>aI λg=>aR λu=>aR λt=>aR λs=>aN (E6 λ(box aA:LI)(M:List (List Int))(ms:List D)(R:List LI)(ds:List D)=>A16 (La S u ms) (Uv S ms M) (M.length=box.length) (∀r∈M,r.length<=4/\∀x∈r,Sz 4000 x) (La S b (box.map frD)) (La S t (aA.map frD)) (La S s ds) (Z4 S 0 ds R) (∀r∈R,r.length=box.length/\Bd 2000 r) (1<=box.length/\box.length<=4) (R.length<=4) (aA.length<=4) (Bd 60 box) (Bd 2000 aA) (Gg g) (Q (.ref S.length) (S++[.lst ((M.mapIdx λk es=>V6 g box aA R k es).map frD)])))
def Ik:Sd:=mSx λS Q ex=>aR λa=>aR λp=>aR λb=>aI λg=>aN (E4 λ(ns:List Nd)(ws:List Nat)(bs:LI)(is:List Nat)=>A11 (La S a (ns.map Nd.d)) (La S b (bs.map frD)) (ZE bs.length ns ws) (Spn 51 bs) (Gg g) (ns.length<=70) (bs.length<=900) (La S p (is.map wtD)) (is.length<=900) (∀i∈is,i<ns.length) (∀(T:Sto)(m:Nat),Pre S T->S.length<=m->La T m ((is.map λ(i:Nat)=>gt (Zl (bs.map Yh) g ns) i).map frD)->Q (.ref m) T))
def KY:Sd:=mSx λS Q ex=>aP λa b=>aP λc d=>aN (Q (.bl (decide (c<a)&&decide (b<d))) S)
def BF:Sd:=mSx λS Q ex=>aR λm=>aR λn=>aN (E2 λ(us vs:LI)=>A4 (La S m (us.map frD)) (La S n (vs.map frD)) (us.length<=1000) (Q (.bl (RN us vs)) S))
def El:Sd:=mSx λS Q ex=>aR λr=>aR λs=>aN (E2 λ(rows:List (Bool×Nat))(vs:LI)=>A5 (La S r (rows.map rwD)) (La S s (vs.map frD)) (rows.length<=900) (∀r∈rows,r.2<vs.length) (Q (.bl (S8 rows vs)) S))
def GZ:Sd:=mSx λS Q ex=>aR λa=>aR λr=>aR λb=>aI λg=>aN (∃(ns:List Nd)(ws:List Nat)(bs:LI)(rows:List (Bool×Nat)),La S a (ns.map Nd.d)/\La S b (bs.map frD)/\ZE bs.length ns ws/\Spn 51 bs/\(Gg g)/\ns.length<=70/\bs.length<=900/\La S r (rows.map rwD)/\rows.length<=900/\(∀r∈rows,r.2<ns.length)/\(1<=bs.length/\bs.length<=4)/\(alS g bs ns rows=none->∀T:Sto,Pre S T->Q .non T)/\(∀(M:List (List Int))(aB:LI),alS g bs ns rows=some (M,aB)->∀(T:Sto)(m n:Nat)(ms:List D),Pre S T->S.length<=m->La T m ms->Rows T S.length ms M->La T n (aB.map frD)->S.length<=n->Q (.tup [.ref m,.ref n]) T))
def LV:Sd:=mSx λS Q ex=>aR λnd=>aR λrw=>aR λbx=>aI λg=>aR λsp=>aN (E5 λ(u:Nat)(ns:List Nd)(ws:List Nat)(rows:List (Bool×Nat))(e:LI)=>A7 (Sr S nd rw g ns ws rows u) (La S bx (e.map frD)) (La S sp ((Zl e g ns).map frD)) (e.length=u) (Spn 51 e) (alS g e ns rows=none->∀T:Sto,Pre S T->Q .non T) (∀(M:List (List Int))(aB:LI)(T:Sto)(d:D),alS g e ns rows=some (M,aB)->Pre S T->(∀a b:Nat,a<S.length->b<S.length->sp<T.length->a<sp->b<sp->X3 a b T d (.one M aB (Zl e g ns) (Zl (e.map Yh) g ns) (Z3 (Zl e g ns) g e.length ns)))->(∃xs,d=.tup xs)->Q d T))
def HY:Sd:=mSx λS Q ex=>aR λnd=>aR λrw=>aR λbx=>aI λg=>aI λfine=>aN (E5 λ(u:Nat)(ns:List Nd)(ws:List Nat)(rows:List (Bool×Nat))(e:LI)=>A6 (Sr S nd rw g ns ws rows u) (La S bx (e.map frD)) (e.length=u) (Spn 51 e) (∀(T:Sto)(f:Ft)(d:D),Pre S T->FOk g fine ns rows e f->Xp g fine ns rows e=some f->(∀a b:Nat,a<S.length->b<S.length->X3 a b T d f)->Q d T) (∀T:Sto,Pre S T->(∃p∈e,fine<wd p)->Xp g fine ns rows e=none->Q .non T))
def Bb:Sd:=mSx λS Q ex=>aR λx=>aR λy=>aN (E2 λ(bs cs:LI)=>A7 (La S x (bs.map frD)) (La S y (cs.map frD)) (Spn 51 bs) (Spn 51 cs) (bs.length<=4) (cs.length<=4) (∀T:Sto,Pre S T->Q (.bl (decide (4*YE bs<=3*YE cs))) T))
def BQ [Ev5]:Sd:=mSx λS Q ex=>aR λn=>aI λi=>aN (E6 λ(a b j:Nat)(es:List LI)(fs:List Ft)(e:LI)=>A7 (Bk Zn.C S n a b es fs) (i=(j:Int)) (es[j]?=some e) (e.length<=4) (e≠[]) (es.length<980) (∀(T:Sto)(k:Nat)(s:Int×Int),UT e k s->Bk Zn.C T n a b (es++[e.set k (s.1,(s.1+s.2)/2)]++[e.set k ((s.1+s.2)/2,s.2)]) ((fs++[Ft.wait]++[Ft.wait]).set j (.cut k ((s.1+s.2)/2) es.length (es.length+1)))->Cg a b S T->Q .non T))
def Jl [Ev5]:Sd:=mSx λS Q ex=>aR λn=>aR λnd=>aR λrw=>aI λg=>aI λfine=>aI λi=>aN (E11 λ(a b j u:Nat)(ns:List Nd)(ws:List Nat)(rows:List (Bool×Nat))(b0 e:LI)(es:List LI)(fs:List Ft)=>A12 (Bk Zn.C S n a b es fs) (Sr S nd rw g ns ws rows u) (Apt nd rw a b) (Bks g fine ns rows b0 es fs) (Spn 51 b0) (b0.length=u) (i=(j:Int)) (fs[j]?=some .wait) (es[j]?=some e) (1<=fine) (es.length<=800) (∀(T:Sto)(es':List LI)(fs':List Ft),Bk Zn.C T n a b es' fs'->Bks g fine ns rows b0 es' fs'->Cg a b S T->Wn g fine ns rows (es,fs) j (es',fs')->es'.length<=es.length+66->(es.length<es'.length\/es'.length=es.length/\fs'[j]?≠some .wait)->Q .non T))
def E9:Sd:=mSx λS Q ex=>aR λnd=>aR λrw=>aR λbx=>aI λg=>aI λfine=>aI λlooks=>aN (E7 λ(u t:Nat)(ns:List Nd)(ws:List Nat)(rows:List (Bool×Nat))(b0:LI)(I:Nat->List LI×List Ft->Prop)=>A9 (Sr S nd rw g ns ws rows u) (La S bx (b0.map frD)) (b0.length=u) (Spn 51 b0) (1<=fine) (0<=looks/\looks<=30) (I 0 ([b0],[.wait])/\∀(k i:Nat)(es es':List LI)(fs fs':List Ft),I k (es,fs)->(k:Int)<looks->Bks g fine ns rows b0 es fs->WK es fs i->Wn g fine ns rows (es,fs) i (es',fs')->k<=11/\I (k+1) (es',fs')) (S[t]?=some (.cod LT LP LQ)) (∀(T:Sto)(m:Nat)(ds:List D)(es:List LI)(fs:List Ft),Pre S T->S.length<=m->La T m ds->En T ds es fs->Bks g fine ns rows b0 es fs->es.length<=900->Run g fine ns rows looks.toNat ([b0],[.wait]) (es,fs)->((∀k:Nat,k<=12->(k:Int)=looks->¬ I k (es,fs))->∀x∈fs,x≠.wait)->Q (.ref m) T))
abbrev Imp (p G:List D->Prop):Prop:=∀ds,p ds->G ds
theorem kN {p:Prop}{G:List D->Prop}(k:p->G []):Imp (aN p) G:=λds h=>by
 obtain⟨rfl,h⟩:=TU h;exact k h
theorem kR {f:Nat->List D->Prop}{G:List D->Prop}(k:∀a,Imp (f a) λr=>G (.ref a::r)):Imp (aR f) G:=λds h=>by
 obtain⟨a,r,rfl,h⟩:=aR_e h;exact k a r h
theorem kI {f:Int->List D->Prop}{G:List D->Prop}(k:∀a,Imp (f a) λr=>G (.int a::r)):Imp (aI f) G:=λds h=>by
 obtain⟨a,r,rfl,h⟩:=aI_e h;exact k a r h
theorem kS {f:Str->List D->Prop}{G:List D->Prop}(k:∀a,Imp (f a) λr=>G (.str a::r)):Imp (aS f) G:=λds h=>by
 obtain⟨a,r,rfl,h⟩:=aS_e h;exact k a r h
theorem kP {f:Int->Int->List D->Prop}{G:List D->Prop}(k:∀a b,Imp (f a b) λr=>G (.tup [.int a,.int b]::r)):Imp (aP f) G:=λds h=>by
 obtain⟨a,b,r,rfl,h⟩:=aP_e h;exact k a b r h
theorem kT {f:Str->Int->List D->Prop}{G:List D->Prop}(k:∀a b,Imp (f a b) λr=>G (.tup [.str a,.int b]::r)):Imp (aT f) G:=λds h=>by
 obtain⟨a,b,r,rfl,h⟩:=aT_e h;exact k a b r h
theorem kD {f:D->List D->Prop}{G:List D->Prop}(k:∀a,Imp (f a) λr=>G (a::r)):Imp (aD f) G:=λds h=>by
 obtain⟨a,r,rfl,h⟩:=aD_e h;exact k a r h
section
variable {P:Program}{w:World}{K:Fg}{mg:Str->Option Value}{base:Heap}{k:Nat}{C:Addr}{x qual:Str}{st:Stmt}{ps N:List Str}{sd:Sd}{t:TDS}
theorem GH (hp:∀S Q ex,Imp (λds=>sd ds S Q ex) λds=>t { nx:=λ_ S'=>Gc S Q .non S',rt:=Gc S Q } (YR N ds) S):∀ds S Q ex,gcS sd ds S Q ex->t { nx:=λ_ S'=>Q .non S',rt:=Q } (YR N ds) S:=λds S Q ex h=>by
 obtain⟨Q0,ex0,rfl,rfl,h⟩:=h;exact hp S Q0 ex0 ds h
def mkF (d:Df K mg x st ps)(Sc:YF N ps (Zw st))(ht:∀ {cdv:Value} {A:Around} {outer:List Env} {s:Shared} {H:Hp} {E:XK},ZG k (A.deeper (envOfC x (Zw st) s.heap.objs.size d.f cdv))->Yy (Xl (CXE P w) P w K mg base N x (Zw st) d.f cdv A outer s H E).nox Z0 (YS st) t)(hp:∀S Q ex,Imp (λds=>sd ds S Q ex) λds=>t { nx:=λ_ S'=>Q .non S',rt:=Q } (YR N ds) S)(len:Ln sd ps.length:=by exact λ_ _ _ _=>by repeat (first|exact nN|refine nR λ_=>?_|refine nI λ_=>?_|refine nP λ_ _=>?_|refine nT λ_ _=>?_|refine nD λ_=>?_|refine nS λ_=>?_)):Fk P w K mg base (k+1) x ps sd:=d.mk' (Vp d.F Sc len λ_ _ _ _ _ _ _ hr=>⟨t,ht hr,λds S Q ex=>hp S Q ex ds⟩)
def mkG (d:Df K mg x st ps)(Sc:YF N ps (Zw st))(ht:∀ {cdv:Value} {A:Around} {outer:List Env} {s:Shared} {H:Hp} {E:XK},ZG k (A.deeper (envOfC x (Zw st) s.heap.objs.size d.f cdv))->Yy (Xl (CXE P w) P w K mg base N x (Zw st) d.f cdv A outer s H E).nox Z0 (YS st) t)(hp:∀S Q ex,Imp (λds=>sd ds S Q ex) λds=>t { nx:=λ_ S'=>Gc S Q .non S',rt:=Gc S Q } (YR N ds) S)(len:Ln sd ps.length:=by exact λ_ _ _ _=>by repeat (first|exact nN|refine nR λ_=>?_|refine nI λ_=>?_|refine nP λ_ _=>?_|refine nT λ_ _=>?_|refine nD λ_=>?_|refine nS λ_=>?_)):Fk P w K mg base (k+1) x ps sd:=d.mk' (fn_gc (Vp d.F Sc (JQ len) λ_ _ _ _ _ _ _ hr=>⟨t,ht hr,GH hp⟩))
def mkM (d:Dm K C x qual st ps)(Sc:YF N ps (Zw st))(ht:∀ {cdv:Value} {A:Around} {outer:List Env} {s:Shared} {H:Hp} {E:XK},ZG k (A.deeper (envOfC qual (Zw st) s.heap.objs.size d.f cdv))->Yy (Xl (CXE P w) P w K mg base N qual (Zw st) d.f cdv A outer s H E).nox Z0 (YS st) t)(hp:∀S Q ex,Imp (λds=>sd ds S Q ex) λds=>t { nx:=λ_ S'=>Q .non S',rt:=Q } (YR N ds) S)(len:Ln sd ps.length:=by exact λ_ _ _ _=>by repeat (first|exact nN|refine nR λ_=>?_|refine nI λ_=>?_|refine nP λ_ _=>?_|refine nT λ_ _=>?_|refine nD λ_=>?_|refine nS λ_=>?_)):Fm P w K mg base (k+1) C x ps sd:=d.mk' (Vp d.F Sc len λ_ _ _ _ _ _ _ hr=>⟨t,ht hr,λds S Q ex=>hp S Q ex ds⟩)
end
def psS:Stmt->List Str
 | .FunctionDef _ a ..=>a.args.map (·.arg)
 | _=>[]
def nsS (st:Stmt):List Str:=((Zw st).names.filter λy=>y.2==.local||y.2==.cell).map (·.1)
abbrev iC (i j:Nat):Stmt:=XA (top i) j
abbrev stD (n:Nat)(ds:List D):Ev:=ds.map some++List.replicate n none
abbrev Fx [e:Ev5] (k:Nat)(st:Stmt)(sd:Sd):=Fkz k (nmS st) (psS st) sd
abbrev Fy [e:Ev5] (k:Nat)(C:Addr)(i j:Nat)(sd:Sd):=Fmz k C (nmS (iC i j)) (psS (iC i j)) sd
noncomputable def mF [e:Ev5] {st:Stmt}{t:TDS}{sd:Sd}{k:Nat}(n:Nat)(ht:∀ {cdv:Value} {A:Around} {outer:List Env} {s:Shared} {H:Hp} {E:XK},ZG k (A.deeper (envOfC (nmS st) (Zw st) s.heap.objs.size (xF (W.nsIn e.K mainGlobals (nmS st))) cdv))->(nsS st).Nodup->Yy (Xl (CXE e.P e.w) e.P e.w e.K e.mg e.base (nsS st) (nmS st) (Zw st) (xF (W.nsIn e.K mainGlobals (nmS st))) cdv A outer s H E).nox Z0 (YS st) t)(hp:∀S Q ex,Imp (λds=>sd ds S Q ex) λds=>t { nx:=λ_ S'=>Q .non S',rt:=Q } (stD n ds) S)(hn:(nsS st).length-(psS st).length=n:=by decide +kernel)(Sc:YF (nsS st) (psS st) (Zw st):=by exact fsc)(a:fnE e.K (W.nsIn e.K mainGlobals (nmS st)) (nmS st) (nmS st) st:=by kernel_rfl)(b:Bn (nmS st) (nmS st) st (psS st):=by first|exact λ_ _ _ _ _ _=>ln1 λ_=>rfl|exact λ_ _ _ _ _ _=>ln2 λ_ _=>rfl|exact λ_ _ _ _ _ _=>ln3 λ_ _ _=>rfl|exact λ_ _ _ _ _ _=>ln4 λ_ _ _ _=>rfl|exact λ_ _ _ _ _ _=>ln5 λ_ _ _ _ _=>rfl|exact λ_ _ _ _ _ _=>ln6 λ_ _ _ _ _ _=>rfl)(len:Ln sd (psS st).length:=by exact λ_ _ _ _=>by repeat (first|exact nN|refine nR λ_=>?_|refine nI λ_=>?_|refine nP λ_ _=>?_|refine nT λ_ _=>?_|refine nD λ_=>?_|refine nS λ_=>?_)):Fkz (k+1) (nmS st) (psS st) sd:=mkF (dfo e.X e.G a b) Sc (λhr=>ht hr Sc.nd) (λS Q ex ds h=>by have z:=hp S Q ex ds h;subst hn;show t _ (YR _ ds) S;unfold YR;rw[len _ _ _ _ h];exact z) len
noncomputable def mG [e:Ev5] {st:Stmt}{t:TDS}{sd:Sd}{k:Nat}(n:Nat)(ht:∀ {cdv:Value} {A:Around} {outer:List Env} {s:Shared} {H:Hp} {E:XK},ZG k (A.deeper (envOfC (nmS st) (Zw st) s.heap.objs.size (xF (W.nsIn e.K mainGlobals (nmS st))) cdv))->(nsS st).Nodup->Yy (Xl (CXE e.P e.w) e.P e.w e.K e.mg e.base (nsS st) (nmS st) (Zw st) (xF (W.nsIn e.K mainGlobals (nmS st))) cdv A outer s H E).nox Z0 (YS st) t)(hp:∀S Q ex,Imp (λds=>sd ds S Q ex) λds=>t { nx:=λ_ S'=>Gc S Q .non S',rt:=Gc S Q } (stD n ds) S)(hn:(nsS st).length-(psS st).length=n:=by decide +kernel)(Sc:YF (nsS st) (psS st) (Zw st):=by exact fsc)(a:fnE e.K (W.nsIn e.K mainGlobals (nmS st)) (nmS st) (nmS st) st:=by kernel_rfl)(b:Bn (nmS st) (nmS st) st (psS st):=by first|exact λ_ _ _ _ _ _=>ln1 λ_=>rfl|exact λ_ _ _ _ _ _=>ln2 λ_ _=>rfl|exact λ_ _ _ _ _ _=>ln3 λ_ _ _=>rfl|exact λ_ _ _ _ _ _=>ln4 λ_ _ _ _=>rfl|exact λ_ _ _ _ _ _=>ln5 λ_ _ _ _ _=>rfl|exact λ_ _ _ _ _ _=>ln6 λ_ _ _ _ _ _=>rfl)(len:Ln sd (psS st).length:=by exact λ_ _ _ _=>by repeat (first|exact nN|refine nR λ_=>?_|refine nI λ_=>?_|refine nP λ_ _=>?_|refine nT λ_ _=>?_|refine nD λ_=>?_|refine nS λ_=>?_)):Fkz (k+1) (nmS st) (psS st) sd:=mkG (dfo e.X e.G a b) Sc (λhr=>ht hr Sc.nd) (λS Q ex ds h=>by have z:=hp S Q ex ds h;subst hn;show t _ (YR _ ds) S;unfold YR;rw[len _ _ _ _ h];exact z) len
noncomputable def mM [e:Ev5] {C:Addr}{i j:Nat}{t:TDS}{sd:Sd}{k:Nat}(n:Nat)(ht:∀ {cdv:Value} {A:Around} {outer:List Env} {s:Shared} {H:Hp} {E:XK},ZG k (A.deeper (envOfC (qlS i j) (Zw (iC i j)) s.heap.objs.size (xF (W.findIn e.K (.ref C) (nmS (iC i j)))) cdv))->(nsS (iC i j)).Nodup->Yy (Xl (CXE e.P e.w) e.P e.w e.K e.mg e.base (nsS (iC i j)) (qlS i j) (Zw (iC i j)) (xF (W.findIn e.K (.ref C) (nmS (iC i j)))) cdv A outer s H E).nox Z0 (YS (iC i j)) t)(hp:∀S Q ex,Imp (λds=>sd ds S Q ex) λds=>t { nx:=λ_ S'=>Q .non S',rt:=Q } (stD n ds) S)(hn:(nsS (iC i j)).length-(psS (iC i j)).length=n:=by decide +kernel)(Sc:YF (nsS (iC i j)) (psS (iC i j)) (Zw (iC i j)):=by exact fsc)(a:fnE e.K (W.findIn e.K (.ref C) (nmS (iC i j))) (nmS (iC i j)) (qlS i j) (iC i j):=by kernel_rfl)(b:Bn (nmS (iC i j)) (qlS i j) (iC i j) (psS (iC i j)):=by first|exact λ_ _ _ _ _ _=>ln1 λ_=>rfl|exact λ_ _ _ _ _ _=>ln2 λ_ _=>rfl|exact λ_ _ _ _ _ _=>ln3 λ_ _ _=>rfl|exact λ_ _ _ _ _ _=>ln4 λ_ _ _ _=>rfl|exact λ_ _ _ _ _ _=>ln5 λ_ _ _ _ _=>rfl|exact λ_ _ _ _ _ _=>ln6 λ_ _ _ _ _ _=>rfl)(len:Ln sd (psS (iC i j)).length:=by exact λ_ _ _ _=>by repeat (first|exact nN|refine nR λ_=>?_|refine nI λ_=>?_|refine nP λ_ _=>?_|refine nT λ_ _=>?_|refine nD λ_=>?_|refine nS λ_=>?_)):Fmz (k+1) C (nmS (iC i j)) (psS (iC i j)) sd:=mkM (dmo a b) Sc (λhr=>ht hr Sc.nd) (λS Q ex ds h=>by have z:=hp S Q ex ds h;subst hn;show t _ (YR _ ds) S;unfold YR;rw[len _ _ _ _ h];exact z) len
section
variable {X:Cx}{Z:Zx}
theorem pdv (i:Nat){x:Str}{pos:Pos}{es:List Expr}{t:TDA}(hr:PDA X Z es t)(h:PD X Z (.Name x pos) (Xn i):=by exact dv _)(hs:starEach (.Name x pos::es) X.env=(false,eval (.Name x pos) X.env)::starEach es X.env:=by rfl):PDA X Z (.Name x pos::es) (U9 (Xn i) t):=Za h hr hs
theorem pv (i:Nat){x:Str}{pos:Pos}(h:PD X Z (.Name x pos) (Xn i):=by exact dv _)(hs:starEach [.Name x pos] X.env=[(false,eval (.Name x pos) X.env)]:=by rfl):PDA X Z [.Name x pos] (U9 (Xn i) U0):=Za h Zf hs
end
section
variable [e:Ev5]
noncomputable def By:Fx 1 (top 106) IU:=
 mF 0 (λhr hn=>(Zd (Zv (Zp (ZI hr) (Zh Yr (dv 0) Ze) Ze (Zm _)) (Zb (Zi (Zh ZW Ze (Zh Yr (Zh Yz (dv 0) Ze) Ze)))) Zy) (Zb (Zi (Zh ZW Ze (Zh Yr (Zh Yz (dv 0) Ze) Ze)))))) λS Q ex=>by
  refine kI λc=>kN ?_
  rintro⟨c0,h⟩;refine ifD (λe=>?_) (λe=>?_)
  .refine h _ ?_ ?_<;>lia
  .refine h _ ?_ ?_<;>lia
noncomputable def DC:Fx 1 (top 96) IP:=
 mF 4 (λhr hn=>(Zd (Zj (i:=2) hn (Zh Yr (dv 0) Ze)) (Zd (Zj (i:=3) hn (Zh Yz (dv 0) Ze)) (Zd (Zv (PDW.pt (Ri (Zp (ZI hr) (dv 2) Ze (Zm _)) (SW (Zp (ZI hr) (Zh Yr (dv 3) Ze) Ze (Zm _))))) (Zb (Zi (Zt (Za ZS (Za (Zh Yx (Zh Xh (Zh Yz (dv 3) Ze) Ze) Ze) (Za Ze Zf)))))) Zy) (Zd (Zv (Zp (ZI hr) (dv 2) Ze (Zm _)) (Zb (Zi (Zt (Za ZS (Za (Zh Yx (Zh Yr (Zh Yz (dv 3) Ze) Ze) Ze) (Za Ze Zf)))))) Zy) (Zd (Zv (Zp (ZI hr) (dv 2) Ze (Zm _)) (Zd (Zj (i:=4) hn (Zh ZW Ze (Zh Yr (dv 3) Ze))) (Zb (Zi (Zt (Za ZS (Za (Zh ZW (Zh ZK (dv 4) (Zh Yx (Zh Yr (Zh Yz (dv 3) Ze) Ze) Ze)) Ze) (pv 4))))))) Zy) (Zd (Zv (Zp (ZI hr) (dv 2) Ze (Zm _)) (Zb (Zi (Zt (Za ZS (Za (Zh Xh (dv 3) (dv 1)) (Za (Zh ZW Ze (Zh Yr (Zh Xu (dv 3) (dv 1)) Ze)) Zf)))))) Zy) (Zd (Zj (i:=5) hn (ZC (Zt (Za ZS (Za ZS (Za ZS (Za ZS Zf))))) (Zh Yx (dv 2) Ze))) (Zb (Zi (Zt (pdv 5 (Za (Zh Xh (dv 3) (dv 1)) (Za (Zh Xh (Zh Xu (dv 3) (dv 1)) (dv 1)) Zf)))))))))))))) λS Q ex=>by
  refine kI λc=>kI λm=>kN ?_
  rintro⟨⟨c0,c1,m1,m60⟩,h⟩;have zm:Sz 100 m:=Sz.of (10^20) ()
  have r1:=Xz (a:=c/7) (b:=m) ()
  have r2:=Xz (a:=c/7/m) (b:=m) ()
  have two:∀w:Str,w="plus"\/w="minus"\/w="times"->Q (.tup [.str w,.int (c/7%m),.int (c/7/m%m)]) S:=λw hw=>by
   rcases hw with rfl|rfl|rfl
   .exact h (.plus _ _) λq=>⟨r1,r2⟩
   .exact h (.minus _ _) λq=>⟨r1,r2⟩
   .exact h (.times _ _) λq=>⟨r1,r2⟩
  have num:∀t b:Int,1<=b->b<=10^9->Int.gcd t b=1->t.natAbs<=10^9->Q (.tup [.str "number",.int t,.int b]) S:=λt b a1 a2 a3 a4=>h (.number t b) λq=>⟨⟨a1,a2⟩,a3,a4⟩
  refine ifD (λe0=>?_) (λe0=>?_)
  .refine ifD (λe1=>?_) (λe1=>?_)
   .have r:=Xz (a:=c/7/5) (b:=1999999999) ⋯;exact⟨show (0:Int)<1999999999 by decide,num (c/7/5%1999999999-999999999) 1 ⋯ ⋯ (Nh _) ()⟩
   .refine ifD (λ_=>?_) (λz=>absurd e0 z);exact num (c/7/5%41-20) 1 ⋯ ⋯ (Nh _) ()
  .refine ifD (λz=>absurd z e0) (λ_=>?_);refine ifD (λe1=>?_) (λe1=>?_)
   .have a1:0<=c/7%8/\c/7%8<8:=⟨(),()⟩
    have a2:0<=c/7/8%25/\c/7/8%25<25:=⟨(),()⟩
    have z1:Sz 10 (2+c/7%8):=Sz.of 1000 ()
    have z2:Sz 10 (c/7/8%25-12):=Sz.of 1000 ();refine⟨ZD z1 z2,num _ _ () () (CW _ _) ?_⟩;have z3:=z1.mul z2;unfold Sz at z3;lia
   .refine ifD (λe2=>?_) (λe2=>?_)
    .exact⟨(),zm.fd (),h (.power (c/7%m) (2+c/7/m%3)) λq=>⟨r1,(),()⟩⟩
    .have e3:c%7=3\/c%7=4\/c%7=5\/c%7=6:=by lia
     rcases e3 with e|e|e|e
     .exact Ux 0 () rfl ⟨(),zm.fd (),(),two _ (.inl rfl)⟩
     .exact Ux 1 () rfl ⟨(),zm.fd (),(),two _ (.inr (.inl rfl))⟩
     .exact Ux 2 () rfl ⟨(),zm.fd (),(),two _ (.inr (.inr rfl))⟩
     .exact Ux 3 () rfl ⟨(),zm.fd (),(),two _ (.inr (.inr rfl))⟩
noncomputable def NP:Fx 1 (top 97) G1:=
 mF 0 (λhr hn=>(Zd (Zv (PDW.pt (W9 (Zp (ZI hr) (piv 0) ZS (Zm _)) (UN (Zp (ZI hr) (piv 0) ZS (Zm _))))) (Zb (Zi Ze)) Zy) (Zd (Zv (Zp (ZI hr) (piv 0) ZS (Zm _)) (Zb (Zi (Zh ZK (ZC (dv 1) (piv 0)) (piv 0)))) Zy) (Zb (Zi (Zh ZW (ZC (dv 1) (piv 0)) (ZC (dv 1) (piv 0)))))))) λS Q ex=>by
  refine kD λd=>kR λr=>kN ?_
  rintro⟨v,ws,q,rfl,hl,ok,sm,h⟩;cases v with
  | number t b=>exact h
  | unknown k=>exact h
  | power i n=>
   obtain⟨hi,n2,n6⟩:=ok;have b:=sm i hi;refine Zz (o:=.lst (ws.map wtD)) hl (WN hi) ?_;refine⟨ZD (m:=400) (n:=400) (Sz.of (10^20) ()) (Sz.of (10^20) ()),?_⟩;have e:((ws.getD i.toNat 0:Nat):Int)*n=((Nd.wt ws (.power i n):Nat):Int):=by
    simp only[Nd.wt];rw[tI];rw[xK (),xQ]
   show Q (.int (((ws.getD i.toNat 0:Nat):Int)*n)) S;rw[e];exact h
  | plus i j=>
   refine Zz (o:=.lst (ws.map wtD)) hl (WN ok.1) ?_;exact Zz (o:=.lst (ws.map wtD)) hl (WN ok.2) h
  | minus i j=>
   refine Zz (o:=.lst (ws.map wtD)) hl (WN ok.1) ?_;exact Zz (o:=.lst (ws.map wtD)) hl (WN ok.2) h
  | times i j=>
   refine Zz (o:=.lst (ws.map wtD)) hl (WN ok.1) ?_;exact Zz (o:=.lst (ws.map wtD)) hl (WN ok.2) h
noncomputable def L1:Fx 2 (top 98) IL:=
 mF 5 (λhr hn=>(Zd (QU (x:="_law_k") (N:=[]) (caps:=[]) (ar:=Zw (top 98)) rfl rfl csc rfl ⋯ (i:=2) hn rfl rfl rfl XS (pv 1) pt0 (λ_ _ _ _ _ _=>(Zt (Za ZS (pv 0))))) (Zd (QU (x:="_law_k") (N:=[]) (caps:=[]) (ar:=Zw (top 98)) rfl rfl csc rfl ⋯ (i:=3) hn rfl rfl rfl XS (pv 1) pt0 (λ_ _ _ _ _ _=>Ze)) (Zd (WV (i:=4) PassesOwn.never rfl hn rfl (Or.inl rfl) (dv 0) (Zd (Zj (i:=5) hn (Zg DC hr (pdv 4 (Za (ZO (Z7 Xo) rfl Xi Boot.«len» (pv 2)) Zf)))) (Zd (Zj (i:=6) hn (Zg NP hr (pdv 5 (pv 3)))) (Zb (Zv (PDW.pt (Ri (Zp UY (dv 6) Ze (Zm _)) (SW (Zp (NV hr) (dv 5) (dv 2) rfl)))) (Zd (Yl (YO (dv 2) (dv 5))) (Zb (Yl (YO (dv 3) (dv 6))))) Zy))))) (Zb (Zi (dv 2))))))) λS Q ex=>by
  refine kR λc=>kI λq=>kN ?_
  rintro⟨cs,qn,hc,hint,rfl,hq,lc,h⟩;refine UP (j:=(qn:Nat)) (S1:=S) (λk=>.tup [.str "unknown",.int (k:Int)]) kId ⟨(),()⟩ (λk hk S2 K pr hK=>by exact hK) ?_;have e:((List.range ((qn:Nat):Int).toNat).map λ(k:Nat)=>D.tup [.str "unknown",.int (k:Int)])=((List.range qn).map λ(k:Nat)=>Nd.unknown (k:Int)).map Nd.d:=by
   rw[zX,zG];rfl
  rw[e];refine UP (j:=(qn:Nat)) (S1:=S++[.lst (((List.range qn).map λ(k:Nat)=>Nd.unknown (k:Int)).map Nd.d)]) (λk=>.int 1) kId ⟨(),()⟩ (λk hk S2 K pr hK=>by exact hK) ?_;have e2:((List.range ((qn:Nat):Int).toNat).map λ(k:Nat)=>D.int 1)=((List.range qn).map λ_=>(1:Nat)).map wtD:=by
   rw[zX,zG];rfl
  rw[e2];have l1:(S++[Ob.lst (((List.range qn).map λ(k:Nat)=>Nd.unknown (k:Int)).map Nd.d)]).length=S.length+1:=by simp
  refine WZ (n:=c) (o:=.lst cs) (λk dl' S'=>k<=cs.length/\E2 λ(ns:List Nd)(ws:List Nat)=>A7 (ZE qn ns ws) (1<=ns.length) (ns.length<=4+k) (Pre S S') (La S' S.length (ns.map Nd.d)) (S'[S.length+1]?=some (.lst (ws.map wtD))) (E3 λ(u4 u5 u6:Option D)=>dl'=[sR c,sI (qn:Nat),sR S.length,sR (S.length+1),u4,u5,u6])) ⟨zJ _,_,_,Ew qn,by simp;lia,by simp;lia,Pre.refl.push.push,Zu (Zo _ _),by rw[<- l1];exact Zo _ _,_,_,_,by rw[<- l1];rfl⟩ (λk dl' S' z=>?_) ?_ ?_
  .obtain⟨_,_,_,_,_,_,p,_⟩:=z;exact p _ _ hc
  .rintro k x dl' S' nx ct ex' ⟨hk,ns,ws,net,n1,n4,pr',hS',hW',u4,u5,u6,rfl⟩ hn;have hk':=(zA.mp ex').1
   have hk'':k<cs.length:=hk';obtain⟨i,rfl,i0,i1⟩:=hint _ (zF ex');refine XC hS' ?_;rw[zC];refine⟨⟨i0,i1,(),()⟩,λv ok=>?_⟩;have okw:v.ok ws.length (qn:Nat):=by rw[net.len];exact ok _
   refine⟨v,ws,_,rfl,hW',okw,λi hi=>(net.w1 (by rw[<- net.len];exact hi)).2,?_⟩;have on:=hn _ _ ⟨(),ns,ws,net,n1,(),pr',hS',hW',sI i,some v.d,sI (v.wt ws:Nat),rfl⟩;refine ifD (λe1=>?_) (λe1=>on);refine Ee hS' λb=>?_
   cases b with
   | false=>exact on
   | true=>
    refine Y6 (n:=S.length) (S1:=S') (xs:=ns.map Nd.d) (y:=v.d) kId hS' kId (by rw[zC];lia) ?_;have nmm:S.length≠S.length+1:=by lia
    refine Y6 (n:=S.length+1) (S1:=S'.set S.length (.lst (ns.map Nd.d++[v.d]))) (xs:=ws.map wtD) (y:=wtD (v.wt ws)) kId (Z2 hW' nmm) kId (by rw[zC,net.len];lia) ?_;refine hn _ _ ⟨(),ns++[v],ws++[v.wt ws],net.snoc (ok _) (),by simp,by simp;lia,Xj (Xj pr' (zB _)) (),?_,?_,_,_,_,rfl⟩
    .rw[yC];exact Z2 (Ys hS') (Ne.symm nmm)
    .rw[yC];exact Ys (Z2 hW' nmm)
  .rintro dl' S' ⟨hk,ns,ws,net,n1,n4,pr',hS',hW',u4,u5,u6,rfl⟩;exact h ns ws _ _ net n1 () pr' (zB _) hS'
noncomputable def YW:Fx 1 (top 95) Jd:=
 mF 1 (λhr hn=>(Zd (Zj (i:=2) hn Ze) (Zd (Zv (Zp YU (dv 1) (ZO (Z7 Xo) rfl Xi Boot.«len» (pv 0)) (Zm _)) (Zb (Zj (i:=2) hn (Zh Xh (ZC (dv 0) (dv 1)) (Zh Ue Ze Ze)))) Zy) (Zb (Zi (Zh Xh (Zh ZK (Zh Xh (Zh ZW (Zh ZK (dv 2) Ze) (Zh ZK Ze (dv 1))) Ze) Ze) Ze)))))) λS Q ex=>by
  refine kR λn=>kI λk=>kN ?_
  rintro⟨ns,hn,⟨k0,k1⟩,h⟩;have aZ:∀x:Int,(0<=x/\x<10^18)->IntMulOk x 48271/\IntMulOk 16807 k/\(0:Int)<2147483647/\IntMulOk ((x*48271+16807*k)%2147483647) 69621/\(0:Int)<2147483629/\Q (.int ((x*48271+16807*k)%2147483647*69621%2147483629)) S:=λx hx=>by
   have z1:Sz 80 x:=Sz.of (10^20) ()
   have z2:Sz 80 k:=Sz.of (10^20) ()
   have r:=Xz (a:=x*48271+16807*k) (b:=2147483647) ⋯;refine⟨ZD z1 (Sz.of (n:=80) (10^20) ⋯),ZD (Sz.of (n:=80) (10^20) ⋯) z2,⋯,ZD (Sz.of (n:=80) (10^20) ()) (Sz.of (n:=80) (10^20) ⋯),⋯,h _ ?_⟩;exact Xz ⋯
  refine OM hn ?_;rw[zC];refine ifD (λc=>?_) (λc=>?_)
  .refine Zz (o:=.frz (ns.map D.int)) hn (CC k0 c) ?_;have r:=Xz (a:=ns.getD k.toNat 0) (b:=10^Int.toNat 18) ⋯;exact⟨show (0:Int)<10^Int.toNat 18 by decide,aZ _ r⟩
  .exact aZ 0 ⋯
noncomputable def Ed:Fx 1 (top 99) Cv:=
 mF 1 (λhr hn=>(Zd (Zj (i:=0) hn (ZO QV rfl RY Boot.«abs» (pv 0))) (Zd (Zj (i:=1) hn (ZO QV rfl RY Boot.«abs» (pv 1))) (Zd (Oc PassesOwn.never (Zp W6 (dv 1) Ze (Zm _)) (Zd (Zj (i:=2) hn (Zh Xh (dv 0) (dv 1))) (Zd (Zj (i:=0) hn (dv 1)) (Zb (Zj (i:=1) hn (dv 2)))))) (Zb (Zi (dv 0))))))) λS Q ex=>by
  refine kI λa=>kI λb=>kN λh=>?_
  refine⟨λm dl' S'=>S'=S/\∃(x y:Int)(o:Option D),dl'=[sI x,sI y,o]/\0<=x/\0<=y/\Int.gcd x y=Int.gcd a b/\m=y.toNat,⟨(Wa b).toNat,rfl,Wa a,Wa b,none,rfl,Mb a,Mb b,G8 a b,rfl⟩,?_⟩;rintro m dl' S' ⟨rfl,x,y,o,rfl,hx,hy,hg,rfl⟩;refine ifD (λc=>?_) (λc=>?_)
  .exact⟨c,⟨(x%y).toNat,by have:=Xz (a:=x) c;lia,rfl,y,x%y,_,rfl,hy,(Xz (a:=x) c).1,(K5 x y).trans hg,rfl⟩⟩
  .have hy0:y=0:=by lia
   subst hy0;have e:((Int.gcd a b:Nat):Int)=x:=by rw[<- hg,Int.gcd_zero_right];lia
   rw[e] at h;exact h
noncomputable def Lk:Fx 1 (top 100) Gk:=
 mF 2 (λhr hn=>(Zd (Zj (i:=2) hn Ze) (Zd (TH (i:=3) PassesOwn.never rfl hn rfl (Or.inl rfl) rfl XS (pv 1) (Zb (Zj (i:=2) hn (Zh ZK (dv 2) (dv 0))))) (Zb (Zi (dv 2)))))) λS Q ex=>by
  refine kI λx=>kI λn=>kN ?_
  rintro⟨⟨h0,h6,sx⟩,h⟩;refine⟨⟨(),()⟩,λk dl' S'=>A3 (S'=S) (k<=n.toNat) (E2 λ(z:Int)(o:Option D)=>z=x^k/\dl'=[sI x,sI n,sI z,o]),⟨rfl,zJ _,1,none,(xZ x).symm,rfl⟩,?_⟩;rintro k dl' S' ⟨rfl,hk,z,o,rfl,rfl⟩;refine ite2 (λc=>?_) (λc=>?_)
  .exact⟨ZD (m:=12001) (n:=2000) ((sx.pow k).mono ()) sx,rfl,(),_,_,(zU x k).symm,rfl⟩
  .have e:k=n.toNat:=by lia
   subst e;exact h
noncomputable def FV:Fx 2 (top 101) L8:=
 mF 4 (λhr hn=>(Zd (Zj (i:=2) hn (Yu Zf)) (Zd (WV (i:=3) PassesOwn.never rfl hn rfl (Or.inl rfl) (dv 0) (Zb (Zv (Zp (ZI hr) (piv 3) ZS (Zm _)) (Zb (Yl (YO (dv 2) (Zt (Za (piv 3) (Za (piv 3) Zf)))))) (Zb (Zv (Zp (ZI hr) (piv 3) ZS (Zm _)) (Zb (Yl (YO (dv 2) (ZC (dv 1) (piv 3))))) (Zb (Zv (Zp (ZI hr) (piv 3) ZS (Zm _)) (Zd (Zj (i:=4) hn (ZC (dv 2) (piv 3))) (Zb (Yl (YO (dv 2) (Zt (Za (Zg Lk hr (Za (piv 4) (Za (piv 3) Zf))) (Za (Zg Lk hr (Za (piv 4) (Za (piv 3) Zf))) Zf))))))) (Zd (Zj (i:=4) hn (ZC (dv 2) (piv 3))) (Zd (Zj (i:=5) hn (ZC (dv 2) (piv 3))) (Zb (Zv (Zp (ZI hr) (piv 3) ZS (Zm _)) (Zb (Yl (YO (dv 2) (Zt (Za (Zh ZK (piv 4) (piv 5)) (Za (Zh ZK (piv 4) (piv 5)) Zf)))))) (Zb (Zv (Zp (ZI hr) (piv 3) ZS (Zm _)) (Zb (Yl (YO (dv 2) (Zt (Za (Zh ZW (Zh ZK (piv 4) (piv 5)) (Zh ZK (piv 5) (piv 4))) (Za (Zh ZK (piv 4) (piv 5)) Zf)))))) (Zb (Yl (YO (dv 2) (Zt (Za (Zh Yx (Zh ZK (piv 4) (piv 5)) (Zh ZK (piv 5) (piv 4))) (Za (Zh ZK (piv 4) (piv 5)) Zf))))))))))))))))))) (Zb (Zi (dv 2)))))) λS Q ex=>by
  refine kR λa=>kR λb=>kN ?_
  rintro⟨ns,ws,ps,ha,hb,net,zp,hl,h⟩;refine WZ (n:=a) (o:=.lst (ns.map Nd.d)) (λk dl' S'=>k<=ns.length/\Pre S S'/\La S' S.length ((ZH ps (ns.take k)).map frD)/\∃u3 u4 u5:Option D,dl'=[sR a,sR b,sR S.length,u3,u4,u5]) ⟨zJ _,Pre.refl.push,Zo _ _,_,_,_,rfl⟩ (λk dl' S' z=>z.2.1 _ _ ha) ?_ ?_
  .rintro k x dl' S' nx ct ex' ⟨hk,pr,hf,u3,u4,u5,rfl⟩ hn;have ex2:(ns.map Nd.d)[k]?=some x:=ex';rw[zE] at ex2;obtain⟨v,hv,rfl⟩:=zI.mp ex2;have hk':=(zA.mp hv).1
   have ln:(ZH ps (ns.take k)).length=k:=by rw[U5,zK];lia
   have okv:v.ok (ZH ps (ns.take k)).length ps.length:=by rw[ln];exact(net.ok k v hv).1
   have pz:Pz 1800 (ZH ps (ns.take k)):=Pz.of_w (M0 net rfl zp k ()) λj hj=>(net.w1 (i:=j) ⟨(),()⟩).2
   have aZ:∀u3 u4 u5:Option D,nx [sR a,sR b,sR S.length,u3,u4,u5] (S'.set S.length (.lst ((ZH ps (ns.take k)).map frD++[frD (v.due (ZH ps (ns.take k)) ps)]))):=λu3 u4 u5=>by
    refine hn _ _ ⟨(),Xj pr (zB _),?_,_,_,_,rfl⟩;rw[Yt hv,UB,yC];exact Ys hf
   cases v with
   | number t d=>
    refine Y6 (n:=S.length) (S1:=S') (xs:=(ZH ps (ns.take k)).map frD) (y:=frD (t,d)) kId hf kId (by rw[zC,ln];lia) ?_;exact aZ _ _ _
   | unknown j=>
    refine Y6 (n:=S.length) (S1:=S') (xs:=(ZH ps (ns.take k)).map frD) (y:=frD (gt ps j)) kId hf (λK hK=>Zz (o:=.lst (ps.map frD)) (pr _ _ hb) (ZP okv) hK) (by rw[zC,ln];lia) ?_;exact aZ _ _ _
   | power i n=>
    obtain⟨ii,n2,n6⟩:=okv;have bi:=pz.at ii;refine Zz (o:=.lst ((ZH ps (ns.take k)).map frD)) hf (ZP ii) ?_;refine Y6 (n:=S.length) (S1:=S') (xs:=(ZH ps (ns.take k)).map frD) (y:=frD (Nd.due (ZH ps (ns.take k)) ps (.power i n))) kId hf (λK hK=>by exact⟨⟨(),n6,bi.2.1.mono ⋯⟩,⟨(),n6,bi.2.2.mono ⋯⟩,hK⟩) (by rw[zC,ln];lia) ?_;exact aZ _ _ _
   | times i j=>
    have ii:=okv.1
    have jj:=okv.2
    have bi:=pz.at ii
    have bj:=pz.at jj;refine Zz (o:=.lst ((ZH ps (ns.take k)).map frD)) hf (ZP ii) ?_;refine Zz (o:=.lst ((ZH ps (ns.take k)).map frD)) hf (ZP jj) ?_;refine Y6 (n:=S.length) (S1:=S') (xs:=(ZH ps (ns.take k)).map frD) (y:=frD (Nd.due (ZH ps (ns.take k)) ps (.times i j))) kId hf (λK hK=>by exact⟨ZD bi.2.1 bj.2.1,ZD bi.2.2 bj.2.2,hK⟩) (by rw[zC,ln];lia) ?_;exact aZ _ _ _
   | plus i j=>
    have ii:=okv.1
    have jj:=okv.2
    have bi:=pz.at ii
    have bj:=pz.at jj;refine Zz (o:=.lst ((ZH ps (ns.take k)).map frD)) hf (ZP ii) ?_;refine Zz (o:=.lst ((ZH ps (ns.take k)).map frD)) hf (ZP jj) ?_;refine Y6 (n:=S.length) (S1:=S') (xs:=(ZH ps (ns.take k)).map frD) (y:=frD (Nd.due (ZH ps (ns.take k)) ps (.plus i j))) kId hf (λK hK=>by exact⟨ZD bi.2.1 bj.2.2,ZD bj.2.1 bi.2.2,ZD bi.2.2 bj.2.2,hK⟩) (by rw[zC,ln];lia) ?_;exact aZ _ _ _
   | minus i j=>
    have ii:=okv.1
    have jj:=okv.2
    have bi:=pz.at ii
    have bj:=pz.at jj;refine Zz (o:=.lst ((ZH ps (ns.take k)).map frD)) hf (ZP ii) ?_;refine Zz (o:=.lst ((ZH ps (ns.take k)).map frD)) hf (ZP jj) ?_;refine Y6 (n:=S.length) (S1:=S') (xs:=(ZH ps (ns.take k)).map frD) (y:=frD (Nd.due (ZH ps (ns.take k)) ps (.minus i j))) kId hf (λK hK=>by exact⟨ZD bi.2.1 bj.2.2,ZD bj.2.1 bi.2.2,ZD bi.2.2 bj.2.2,hK⟩) (by rw[zC,ln];lia) ?_;exact aZ _ _ _
  .rintro dl' S' ⟨hk,pr,hf,u3,u4,u5,rfl⟩;have e:ns.take (Zk (.lst (ns.map Nd.d))).length=ns:=by
    show ns.take (ns.map Nd.d).length=ns;rw[zC,yH]
   rw[e] at hf;exact h _ _ pr (zB _) hf
noncomputable def Lx:Fx 1 (top 103) Bx:=
 mF 0 (λhr hn=>(Zd (Zv (Zp (NV hr) (dv 1) (dv 0) rfl) (Zb (Yl (YO (dv 0) (dv 1)))) Zy) (Zb (Zi (Lz (k:=1) hr ⋯ (dv 0) (pv 1)))))) λS Q ex=>by
  refine kR λa=>kD λd=>kN ?_
  rintro⟨q,v,ns,ws,rfl,ha,l9,net,ok,h16,h⟩;have aZ:∀(T:Sto)(j:Nat)(ns':List Nd)(ws':List Nat),Gr q a 1 S ns ws T ns' ws'->ns'[j]?=some v->Q (.int (j:Int)) T:=λT j ns' ws' gr hj=>by
   refine h T j ns' ws' gr (zA.mp hj).1 hj ?_ (IE gr ok hj);rw[(gr.net.ok j v hj).2.1];exact KO gr net ok
  obtain⟨o,e1,e2,e3⟩:=R6 v ns;refine Fq (o:=o) ha e2 ?_;cases o with
  | some j=>
   refine Y0 ?_;refine Mx (n:=a) (v:=v) (ns:=ns) kId kId ha e1 ?_;exact aZ S j ns ws ((Gr.refl net ha).mono ⋯) (e3 j rfl)
  | none=>
   refine YQ ?_;refine Y6 (n:=a) (S1:=S) (xs:=ns.map Nd.d) (y:=v.d) kId ha kId (by rw[zC];lia) ?_;have hm:(S.set a (.lst (ns.map Nd.d++[v.d])))[a]?=some (.lst ((ns++[v]).map Nd.d)):=by
    rw[yC];exact Ys ha
   obtain⟨o2,f1,f2,f3⟩:=R6 v (ns++[v]);cases o2 with
   | none=>
    obtain⟨k,hk⟩:∃k,(ns++[v])[k]?=some v:=⟨ns.length,by simp⟩;exact absurd f2 (any_some hk)
   | some j=>
    refine Mx (n:=a) (v:=v) (ns:=ns++[v]) kId kId hm f1 ?_;exact aZ _ j (ns++[v]) (ws++[v.wt ws]) ⟨net.snoc ok h16,⟨[v],rfl,by simp⟩,⟨_,rfl⟩,hm,by simp,λx o hx e=>Z2 e (Ne.symm hx)⟩ (f3 j rfl)
noncomputable def Ju:Fx 2 (top 102) Jn:=
 mF 2 (λhr hn=>(Zd (Zj (i:=1) hn (Yu Zf)) (Zd (WV (i:=2) PassesOwn.never rfl hn rfl (Or.inl rfl) (dv 0) (Zb (Yl (YO (dv 1) (Zg NP hr (pdv 2 (pv 1))))))) (Zb (Zi (dv 1)))))) λS Q ex=>by
  refine kR λa=>kN ?_
  rintro⟨ns,ws,q,ha,net,l70,h⟩;refine WZ (n:=a) (o:=.lst (ns.map Nd.d)) (λk dl' S'=>k<=ns.length/\Pre S S'/\La S' S.length ((ws.take k).map wtD)/\∃u:Option D,dl'=[sR a,sR S.length,u]) ⟨zJ _,Pre.refl.push,Zo _ _,_,rfl⟩ (λk dl' S' z=>z.2.1 _ _ ha) ?_ ?_
  .rintro k x dl' S' nx ct ex' ⟨hk,pr,hf,u,rfl⟩ hn;have ex2:(ns.map Nd.d)[k]?=some x:=ex';rw[zE] at ex2;obtain⟨v,hv,rfl⟩:=zI.mp ex2;have hk':=(zA.mp hv).1;obtain⟨okv,ew,sm⟩:=Fi net hv;have ln:(ws.take k).length=k:=by rw[zK,net.len];lia
   refine Y6 (n:=S.length) (S1:=S') (xs:=(ws.take k).map wtD) (y:=wtD (ws.getD k 0)) kId hf (λK hK=>?_) (by rw[zC,ln];lia) ?_
   .refine⟨v,ws.take k,q,rfl,hf,okv,sm,?_⟩;rw[ew];exact hK
   .refine hn _ _ ⟨(),Xj pr (zB _),?_,_,rfl⟩;have ek:ws[k]?=some (ws.getD k 0):=by
     rw[zR,zD (by rw[net.len];lia)];rfl
    rw[Yt ek,yC];exact Ys hf
  .rintro dl' S' ⟨hk,pr,hf,u,rfl⟩;have e:ws.take (Zk (.lst (ns.map Nd.d))).length=ws:=by
    show ws.take (ns.map Nd.d).length=ws;rw[zC,<- net.len,yH]
   rw[e] at hf;exact h _ pr hf
noncomputable def HE:Fx 3 (top 104) J1:=
 mF 8 (λhr hn=>(Zd (Zj (i:=5) hn (Zh Yx (Zh Yx (ZO (Z7 Xo) rfl Xi Boot.«len» (pv 0)) Ze) (Zh Xh (Zh Yz (dv 3) Ze) (ZO (WW rfl) rfl WX Boot.«min» (Za (ZO (Z7 Xo) rfl Xi Boot.«len» (pv 0)) (Za Ze Zf)))))) (Zd (Zj (i:=6) hn (ZC (Zt (Za ZS (Za ZS (Za ZS Zf)))) (Zh Yr (dv 3) Ze))) (Zd (Zj (i:=7) hn (Yu Zf)) (Zd (WV (i:=8) PassesOwn.never rfl hn rfl (Or.inl rfl) (dv 1) (Zd (Yl (YO (dv 7) (Zt (Za (Zh ZW (piv 8) (Zh Yz (Zh ZK (Zh Yx (piv 8) (piv 8)) (Zh Yr (dv 4) Ze)) Ze)) (pv 2))))) (Zb (Zj (i:=4) hn (Zh Yz (dv 4) Ze))))) (Zd (Zj (i:=9) hn (ZC (Zg FV hr (Za (Wr (dv 0) Wi (Wm (Zh ZW (dv 5) Ze))) (pv 7))) (dv 5))) (Zd (Zj (i:=10) hn (Zg Ed hr (Za (piv 9) (Za (piv 9) Zf)))) (Zd (Zj (i:=11) hn (Zh Xu (piv 9) (dv 10))) (Zd (Zj (i:=12) hn (Zh Xu (piv 9) (dv 10))) (Zd (Zv (PDW.pt (W9 (Zp (ZI hr) (Zh Yr (Zh Yz (dv 3) Ze) Ze) Ze (Zm _)) (W9 (Zp Q2 (ZO QV rfl RY Boot.«abs» (pv 11)) (Zh Ue Ze Ze) (Zm _)) (W9 (Zp Q2 (dv 12) (Zh Ue Ze Ze) (Zm _)) (UN (Zp W6 (ZC (Zg Ju hr (pv 0)) (dv 5)) Ze (Zm _))))))) (Zb (Zi (Zt (pdv 6 (pv 5))))) Zy) (Zb (Zi (Zt (pdv 6 (Za (Zg Lx hr (pdv 0 (Za (Zt (Za ZS (pdv 5 (Za (Zg Lx hr (pdv 0 (Za (Zt (Za ZS (pdv 11 (pv 12)))) Zf))) Zf)))) Zf))) Zf))))))))))))))) λS Q ex=>by
  refine kR λa=>kR λb=>kI λg=>kI λc=>kI λpl=>kN ?_
  rintro⟨q,ns,ws,bs,ha,hb,net,lb,q4,sb,hg,c0,p0,l60,h⟩;have lt:=ZY ha
  have lt2:=ZY hb;obtain⟨zr,wz,ez⟩:∃(zero:Bool)(k:Nat),c%3=(k:Int)/\([.str "zero",.str "zero",.str "least"]:List D)[k]?=some (.str (if zero then "zero" else "least")):=by
   have:c%3=0\/c%3=1\/c%3=2:=by lia
   rcases this with e|e|e
   .exact⟨true,0,e,rfl⟩
   .exact⟨true,1,e,rfl⟩
   .exact⟨false,2,e,rfl⟩
  refine YZ (λdl2 S2=>S=S2/\∃k:Nat,k<ns.length/\dl2=[sR a,sR b,sI g,sI c,sI pl,sI (k:Int),none,none,none,none,none,none,none]) (λnx hx=>?_) ?_
  .refine XC ha ?_;refine XC ha ?_;rw[zC];have em:0<(if (4:Int)<(ns.length:Int) then 4 else (ns.length:Int))/\(if (4:Int)<(ns.length:Int) then 4 else (ns.length:Int))<=ns.length:=by split<;>lia
   have rm:=Xz (a:=c/3) em.1;refine⟨em.1,hx _ _ ⟨rfl,((ns.length:Int)-1-c/3%(if (4:Int)<(ns.length:Int) then 4 else (ns.length:Int))).toNat,(),?_⟩⟩;rw[xK ()];rfl
  rintro dl2 S2 ⟨rfl,at',lat,rfl⟩;refine YZ (λdl2 S2=>S=S2/\dl2=[sR a,sR b,sI g,sI c,sI pl,sI (at':Int),some (.str (if zr then "zero" else "least")),none,none,none,none,none,none]) (λnx hx=>?_) ?_
  .exact Ux wz ez.1 ez.2 (hx _ _ ⟨rfl,rfl⟩)
  rintro dl2 S2 ⟨rfl,rfl⟩;refine MG (λdl2 S2=>∃ps:LI,A4 (ps.length=bs.length) (Pz 110 ps) (S2=S++[.lst (ps.map frD)]) (E2 λ(x4 x8:Option D)=>dl2=[sR a,sR b,sI g,sI c,x4,sI (at':Int),some (.str (if zr then "zero" else "least")),sR S.length,x8,none,none,none,none])) (λnx hx=>?_) ?_
  .refine WZ (n:=b) (o:=.lst (bs.map frD)) (λi dl' S'=>i<=bs.length/\E2 λ(ps:LI)(pl:Int)=>A5 (ps.length=i) (Pz 110 ps) (0<=pl) (S'=S++[.lst (ps.map frD)]) (∃x8:Option D,dl'=[sR a,sR b,sI g,sI c,sI pl,sI (at':Int),some (.str (if zr then "zero" else "least")),sR S.length,x8,none,none,none,none])) ⟨zJ _,[],pl,rfl,λp hp=>(nomatch hp),p0,rfl,_,rfl⟩ (λi dl' S' z=>?_) ?_ ?_
   .obtain⟨_,_,_,_,_,_,rfl,_⟩:=z;exact Zu hb
   .rintro i x dl' S' nx2 ct hx2 ⟨hi,ps,pl,lp,zp,pl0,rfl,x8,rfl⟩ hn;have hx3:(bs.map frD)[i]?=some x:=hx2;rw[zE] at hx3;obtain⟨s,hs,rfl⟩:=zI.mp hx3;have li:=(zA.mp hs).1;obtain⟨s1,s2,s3⟩:=sb s (zF hs);have z1:Sz 53 (s.2-s.1):=by unfold Sz at *;lia
    have z2:Sz 5 (pl%9):=Sz.of 16 ()
    have z3:=(z1.mul z2).div (j:=8) ⋯;refine Y6 (n:=S.length) (S1:=S++[.lst (ps.map frD)]) (xs:=ps.map frD) (y:=frD (s.1+(s.2-s.1)*(pl%9)/8,g)) kId (Zo _ _) (λK hK=>⟨ZD z1 z2,hK⟩) (by rw[zC];lia) ?_;refine hn _ _ ⟨(),ps++[(s.1+(s.2-s.1)*(pl%9)/8,g)],pl/9,by simp[lp],λp hp=>?_,(),by rw[Vn,yC];rfl,_,rfl⟩;rcases yE.mp hp with z|z
    .exact zp p z
    .cases zT.mp z;unfold Sz at *
     refine⟨hg.1,?_,?_⟩
     .show (s.1+(s.2-s.1)*(pl%9)/8).natAbs<_;lia
     .show g.natAbs<_;lia
   .rintro dl' S' ⟨hi,ps,pl,lp,zp,pl0,rfl,x8,rfl⟩;refine hx _ _ ⟨ps,?_,zp,rfl,_,_,rfl⟩;rw[lp];exact zC ..
  rintro dl2 S2 ⟨ps,lp,zp,rfl,x4,x8,rfl⟩;have at7:=Zo S (.lst (ps.map frD));refine Wj (n:=a) (o:=.lst (ns.map Nd.d)) (lo:=none) (hi:=some ((at':Int)+1)) (S3:=S++[.lst (ps.map frD)]) kId kId kId (Zu ha) ?_;have ec:Z8 (ns.map Nd.d) none (some ((at':Int)+1))=(ns.take (at'+1)).map Nd.d:=by
   rw[Tc () (by rw[zC];lia),xT];rfl
  rw[show Zk (Ob.lst (ns.map Nd.d))=ns.map Nd.d from rfl,ec];have netP:ZE ((ps.length:Nat):Int) ns ws:=by rw[lp,lb];exact net
  refine⟨ns.take (at'+1),ws.take (at'+1),ps,Zo _ _,Zu at7,netP.take _,zp,by rw[zK];lia,λT m pr lm hf=>?_⟩;have prS:Pre S T:=λn o e=>pr n o (Zu (Zu e))
  have l1:(ZH ps (ns.take (at'+1))).length=at'+1:=by rw[U5,zK];lia
  have ik:inR (((ZH ps (ns.take (at'+1))).length:Nat):Int) (at':Int):=⟨(),()⟩
  have pz:Pz 1800 (ZH ps (ns.take (at'+1))):=Pz.of_w (M0 netP rfl zp (at'+1) ()) λj hj=>(net.w1 (i:=j) ⟨(),()⟩).2
  obtain⟨d1,d2,d3⟩:=pz.at ik;refine Zz (o:=.lst ((ZH ps (ns.take (at'+1))).map frD)) hf (ZP ik) ?_;generalize gt (ZH ps (ns.take (at'+1))) (at':Int)=d at d1 d2 d3;have gp:0<Int.gcd d.1 d.2:=Int.gcd_pos_of_ne_zero_right _ ()
  have g1:((Int.gcd d.1 d.2:Nat):Int) ∣ d.2:=tT ..
  have gl:((Int.gcd d.1 d.2:Nat):Int)<=d.2:=Int.le_of_dvd () g1
  have zg:Sz 1800 ((Int.gcd d.1 d.2:Nat):Int):=by unfold Sz at *;lia
  have cop:=Int.gcd_ediv_gcd_ediv_gcd gp
  have bp:1<=d.2/((Int.gcd d.1 d.2:Nat):Int):=by
   have:=Int.ediv_mul_cancel g1;by_cases z:1<=d.2/((Int.gcd d.1 d.2:Nat):Int)
   .exact z
   .have w:=xI (show d.2/((Int.gcd d.1 d.2:Nat):Int)<=0 by lia) (show (0:Int)<=((Int.gcd d.1 d.2:Nat):Int) by lia);lia
  refine⟨zg.fd (),zg.fd (),?_⟩;generalize ((Int.gcd d.1 d.2:Nat):Int)=s at cop bp;have t9:(10:Int)^Int.toNat 9=10^9:=rfl
  have ret:∀T:Sto,Pre S T->Q (rwD (zr,at')) T:=λT p=>h T ns ws (zr,at') ((Gr.pre net ha p (Yj p)).mono ()) lat
  refine ifD (λ_=>ret T prS) (λ_=>?_);refine ifD (λ_=>ret T prS) (λc2=>?_);refine ifD (λ_=>ret T prS) (λc3=>?_);refine⟨ns,ws,q,prS _ _ ha,net,(),λT2 p2 h2=>?_⟩;have P2:Pre S T2:=λn o e=>p2 n o (prS _ _ e)
  refine Zz (o:=.lst (ws.map wtD)) h2 (WN (i:=(at':Int)) ⟨(),by rw[net.len];lia⟩) ?_;refine ifD (λ_=>ret T2 P2) (λc4=>?_);rw[zG] at c4;have a2:(d.1/s).natAbs<=10^9:=by
   unfold Wa at c2;split at c2<;>lia
  have g0:=Gr.pre net ha P2 (Yj P2);refine⟨q,.number (d.1/s) (d.2/s),ns,ws,rfl,g0.nd,(),net,⟨⟨bp,()⟩,cop,a2⟩,show 1<=16 by decide,λT3 j ns3 ws3 gr3 lj hj wj dj=>?_⟩;have ln3:=gr3.ln
  have w1:=gr3.wt net lat
  have wj1:ws3.getD j 0=1:=wj;refine⟨q,.minus at' j,ns3,ws3,rfl,gr3.nd,(),gr3.net,⟨⟨(),()⟩,(),()⟩,?_,λT4 j4 ns4 ws4 gr4 lj4 _ _ _=>?_⟩
  .simp only[Nd.wt,zG];lia
  .exact h T4 ns4 ws4 (zr,j4) (((g0.trans gr3).trans gr4).mono ()) lj4
noncomputable def ID:Fx 4 (top 105) Eu:=
 mF 4 (λhr hn=>(Zd (Zj (i:=4) hn (Yu Zf)) (Zd (Zj (i:=5) hn (Zh Yr (Zg YW hr (pdv 0 (Za Ze Zf))) Ze)) (Zd (Zv (Zp W6 (dv 5) Ze (Zm _)) (Zb (Zj (i:=5) hn (Zh ZW Ze (Zh Yr (dv 5) Ze)))) Zy) (Zd (TH (i:=6) PassesOwn.never rfl hn rfl (Or.inl rfl) rfl XS (pv 5) (Zd (Zj (i:=7) hn (Zh Yz (Zg YW hr (pdv 0 (Za Ze Zf))) Ze)) (Zd (Zv (Zp (ZI hr) (Zh Yr (Zh Yz (Zg YW hr (pdv 0 (Za Ze Zf))) Ze) Ze) Ze (Zm _)) (Zb (Zj (i:=7) hn (Zh Yz (Zg YW hr (pdv 0 (Za (Zh ZW Ze (dv 6)) Zf))) Ze))) Zy) (Zb (Yl (YO (dv 4) (Zg HE hr (pdv 1 (pdv 2 (pdv 3 (Za (Zg YW hr (pdv 0 (Za (Zh ZW Ze (dv 6)) Zf))) (pv 7)))))))))))) (Zb (Zi (dv 4)))))))) λS Q ex=>by
  refine kR λn=>kR λa=>kR λb=>kI λg=>kN ?_
  rintro⟨q,xs,ns,ws,bs,hn,ha,hb,nab,net,lb,q4,sb,hg,l50,h⟩;have lt:=ZY ha
  have na:n≠a:=λe=>by rw[e,ha] at hn;cases hn
  have g0:=Gr.push net ha [.lst []]
  have at0:=Zo S (.lst []);refine MG (λdl2 S2=>S2=S++[.lst []]/\∃k:Int,(0<=k/\k<8)/\dl2=[sR n,sR a,sR b,sI g,sR S.length,sI k,none,none]) (λnx hx=>?_) ?_
  .refine⟨xs,Zu hn,⟨⋯,⋯⟩,λc hc=>?_⟩;exact hx _ _ ⟨rfl,_,⟨(),()⟩,rfl⟩
  rintro dl2 S2 ⟨rfl,k0,hk0,rfl⟩;refine YZ (λdl2 S2=>S2=S++[.lst []]/\∃k:Nat,k<=3/\dl2=[sR n,sR a,sR b,sI g,sR S.length,sI (k:Int),none,none]) (λnx hx=>?_) ?_
  .refine ifD (λc=>?_) (λc=>?_)
   .refine hx _ _ ⟨rfl,(1+k0%3).toNat,(),?_⟩;rw[xK ()];rfl
   .refine hx _ _ ⟨rfl,k0.toNat,(),?_⟩;rw[xK ()]
  rintro dl2 S2 ⟨rfl,many,hm,rfl⟩;refine⟨⟨(),()⟩,λk dl' S'=>k<=many/\E3 λ(ns':List Nd)(ws':List Nat)(rows:List (Bool×Nat))=>A5 (Gr q a (2*k) S ns ws S' ns' ws') (rows.length=k) (∀r∈rows,r.2<ns'.length) (La S' S.length (rows.map rwD)) (E2 λ(u6 u7:Option D)=>dl'=[sR n,sR a,sR b,sI g,sR S.length,sI (many:Int),u6,u7]),⟨zJ _,ns,ws,[],g0,rfl,λr hr=>(nomatch hr),at0,_,_,rfl⟩,?_⟩;rintro k dl' S' ⟨hk,ns',ws',rows,gr,lr,ri,hr,u6,u7,rfl⟩;have gl:=gr.ln;split
  .rename_i c;have ck:k<many:=by rw[zG] at c;exact c
   have hn':=gr.kp _ _ na hn
   have hb':=gr.kp _ _ (Ne.symm nab) hb;refine YZ (λdl2 S2=>S'=S2/\∃p:Int,0<=p/\dl2=[sR n,sR a,sR b,sI g,sR S.length,sI (many:Int),sI (k:Int),sI p]) (λnx hx=>?_) ?_
   .refine⟨xs,hn',⟨⋯,⋯⟩,λc1 hc1=>?_⟩;exact hx _ _ ⟨rfl,c1/97,(),rfl⟩
   rintro dl2 S2 ⟨rfl,pp,pp0,rfl⟩;refine YZ (λdl2 S2=>S'=S2/\∃p:Int,0<=p/\dl2=[sR n,sR a,sR b,sI g,sR S.length,sI (many:Int),sI (k:Int),sI p]) (λnx hx=>?_) ?_
   .refine⟨xs,hn',⟨⋯,⋯⟩,λc2 hc2=>?_⟩;refine ifD (λ_=>?_) (λ_=>?_)
    .refine⟨xs,hn',⟨(),()⟩,λc3 hc3=>?_⟩;exact hx _ _ ⟨rfl,c3/97,(),rfl⟩
    .exact hx _ _ ⟨rfl,pp,pp0,rfl⟩
   rintro dl2 S2 ⟨rfl,p,p0,rfl⟩;refine Ea (n:=S.length) (S1:=S') (xs:=rows.map rwD) (λy T=>∃(ns2:List Nd)(ws2:List Nat)(r:Bool×Nat),y=rwD r/\Gr q a 2 S' ns' ws' T ns2 ws2/\r.2<ns2.length) kId hr (λK hK=>?_) (λy T z=>?_) (by rw[zC];lia) λy T z=>?_
   .refine⟨xs,hn',⟨(),()⟩,λc4 hc4=>?_⟩;exact⟨q,ns',ws',bs,gr.nd,hb',gr.net,lb,q4,sb,hg,hc4.1,p0,⟨(),()⟩,λT ns2 ws2 r g2 lr2=>hK _ _ ⟨ns2,ws2,r,rfl,g2,lr2⟩⟩
   .obtain⟨ns2,ws2,r,rfl,g2,lr2⟩:=z;exact g2.kp _ _ () hr
   .obtain⟨ns2,ws2,r,rfl,g2,lr2⟩:=z;have gl2:=g2.ln;refine⟨(),ns2,ws2,rows++[r],((gr.trans g2).put (n:=S.length) () (zB _)).mono (),by simp[lr],λx hx=>?_,?_,_,_,rfl⟩
    .rcases yE.mp hx with z|z
     .have:=ri x z;lia
     .cases zT.mp z;exact lr2
    .rw[yC];exact Ys (g2.kp _ _ () hr)
  .rename_i c;have ek:k=many:=by rw[zG] at c;lia
   exact h S' S.length ns' ws' rows (gr.mono ()) () ri (zB _) hr
noncomputable def T9:Fy 1 Zn.C 84 0 J5:=
 mM 0 (λhr hn=>(Zd (Wt Zn.cl Zn.n_boxes (dv 0) (Yu (Za (RP (Z7 Qt) rfl Rg Boot.«list» (pv 1)) Zf))) (Zb (Wt Zn.cl Zn.n_fates (dv 0) (Yu (Za ZJ Zf)))))) λS Q ex=>by
  refine kR λn=>kR λx=>kN ?_
  rintro⟨T,b0,rfl,rfl,hx,h⟩;refine WB (v:=.ref (T.length+2)) (S1:=T++[Ob.ins Zn.C [],.lst (b0.map frD),.lst [.ref (T.length+1)]]) (S2:=T++[Ob.ins Zn.C [],.lst (b0.map frD),.lst [.ref (T.length+1)]]) (n:=T.length) (fs:=[]) (λK hK=>?_) kId (Wq ..) (by simp) ?_
  .refine PQ (ZR (Zu hx) rfl) ?_;show (if ([D.ref (T++[Ob.ins Zn.C []]).length]:List D).length<=1000 then K (.ref (T++[Ob.ins Zn.C []]++[Ob.lst (b0.map frD)]).length) (T++[Ob.ins Zn.C []]++[Ob.lst (b0.map frD)]++[.lst [D.ref (T++[Ob.ins Zn.C []]).length]]) else False);rw[if_pos (by simp)];simpa using hK
  rw[Wx];refine WB (v:=.ref (T.length+3)) (S1:=T++[Ob.ins Zn.C [("boxes",.ref (T.length+2))],.lst (b0.map frD),.lst [.ref (T.length+1)],.lst [.non]]) (S2:=T++[Ob.ins Zn.C [("boxes",.ref (T.length+2))],.lst (b0.map frD),.lst [.ref (T.length+1)],.lst [.non]]) (n:=T.length) (fs:=[("boxes",.ref (T.length+2))]) (λK hK=>?_) kId (Wq ..) (by simp) ?_
  .show (if ([D.non]:List D).length<=1000 then K (.ref (T++[Ob.ins Zn.C [("boxes",.ref (T.length+2))],.lst (b0.map frD),.lst [.ref (T.length+1)]]).length) (T++[Ob.ins Zn.C [("boxes",.ref (T.length+2))],.lst (b0.map frD),.lst [.ref (T.length+1)]]++[.lst [.non]]) else False);rw[if_pos ⋯];simpa using hK
  rw[Wx];refine h _ (T.length+2) (T.length+3) () () (λi o e=>Zu e) ⟨Wq ..,⟨[.ref (T.length+1)],by simp,rfl,λi e he=>?_⟩,⟨[.non],by simp,rfl,λi f hf=>?_⟩,(),rfl⟩
  .match i,he with
   | 0,he=>cases he;exact⟨T.length+1,rfl,(),(),by simp⟩
  .match i,hf with
   | 0,hf=>cases hf;exact⟨.non,rfl,rfl⟩
noncomputable def Pu:Fy 1 Zn.C 84 5 Be:=
 mM 0 (λhr hn=>(Zb (Zi (Qi (x1:="box") (x2:="fate") (N:=[]) (caps:=[]) (ar:=Zw (XA (top 84) 5)) rfl rfl W5 rfl rfl rfl ⋯ rfl UG Boot.«zip» (Za (ZF Zn.cl Zn.n_boxes (dv 0)) (Za (ZF Zn.cl Zn.n_fates (dv 0)) Zf)) (λ_ _ _ _ _ _=>(Zt (pdv 0 (Za (XB (Zp Yv (dv 1) ZJ (Zm _)) (Zt (Za ZS Zf)) (dv 1)) Zf)))))))) λS Q ex=>by
  refine kR λn=>kN ?_
  rintro⟨a,b,es,fs,B,l9,h⟩;obtain⟨bs,h1,h2,_⟩:=B.bx;obtain⟨ds,k1,k2,k3⟩:=B.ft;refine Tt (n:=a) (n':=b) (S1:=S) (xs:=bs) (ys:=ds) Ou (λK hK=>?_) h1 k1 () (λk x y hx hy S2 K pr hK=>?_) ?_
  .exact ZA (n:=n) kId B.ins rfl (ZA (n:=n) kId B.ins rfl hK)
  .cases y<;>exact hK
  .exact h _ _ Pre.refl.push (Zo _ _) (B.told h1 k1 _)
noncomputable def GI:Fx 1 (top 26) Jj:=
 mF 0 (λhr hn=>(Zb (Zi (Zh Yx (piv 0) (piv 0))))) λS Q ex=>by
  refine kP λ_ _=>kN λh=>?_
  exact h
noncomputable def Sl:Fx 2 (top 82) EE:=
 mF 0 (λhr hn=>(Zb (Zi (XD (x:="span") (N:=[]) (caps:=[]) (ar:=Zw (top 82)) rfl rfl csc rfl ⋯ (dv 0) pt0 (λ_ _ _ _ _ _=>(Zg GI hr (pv 0))))))) λS Q ex=>by
  refine kR λs=>kN ?_
  rintro⟨vs,hs,l9,h⟩;refine XT (n:=s) (S1:=S) (o:=.lst (vs.map frD)) (λd=>match d with|.tup [.int a,.int b]=>.int (b-a)|_=>.non) kId hs (by show (vs.map frD).length<=1000;rw[zC];lia) (λx hx S2 K pr hK=>?_) ?_
  .have hx':x∈vs.map frD:=hx;obtain⟨p,_,rfl⟩:=zH.mp hx';exact hK
  .have e2:(Zk (.lst (vs.map frD))).map (λd=>match d with|.tup [.int a,.int b]=>.int (b-a)|_=>.non)=(vs.map wd).map D.int:=by
    show (vs.map frD).map _=_;rw[zX,zX];rfl
   rw[e2];exact h
noncomputable def Po:Fx 3 (top 83) KD:=
 mF 0 (λhr hn=>(Zb (Zi (CG rfl rfl XF Boot.«max» (Zg Sl hr (pv 0)) Ze)))) λS Q ex=>by
  refine kR λn=>kN ?_
  rintro⟨bs,hb,l9,h⟩;refine EC (n:=S.length) (S1:=S++[.lst ((bs.map wd).map D.int)]) (S2:=S++[.lst ((bs.map wd).map D.int)]) (zs:=bs.map wd) (e:=.int 0) (λK hK=>⟨bs,hb,l9,hK⟩) kId (Zo _ _) (λe=>?_) λm hm hx=>?_
  .exact h 0 _ Pre.refl.push ⟨λp hp=>(by rw[uK.mp e] at hp;exact(nomatch hp)),.inl ⟨uK.mp e,rfl⟩⟩
  .obtain⟨p,hp,rfl⟩:=zH.mp hm;exact h _ _ Pre.refl.push ⟨λq hq=>hx _ (zH.mpr ⟨q,hq,rfl⟩),.inr ⟨p,hp,rfl⟩⟩
noncomputable def Pa:Dmz Zn.C "to_look_at" "Book.to_look_at" Te Pk:=dM
noncomputable def Rh:Lm e.K e.mg e.base Pa.fd LT:=⟨803,by kernel_rfl,OA _ e.base e.kin,e.bm,λo z=>by rw[Pd] at z;cases z⟩
noncomputable def R8:Fmz 6 Zn.C "to_look_at" Pk MC:=
 Pa.mk' (KW (k:=5) Pa.F MK (λ_ _ _ _=>nR λ_=>nN:Ln MC 1) Rh.code λA outer s H E hr=>⟨_,(Zd (BL (x1:="number") (x2:="fate") (N:=[]) (caps:=[]) (ar:=Zw Te) rfl rfl W5 rfl rfl rfl ⋯ (i:=1) MK.nd rfl rfl rfl WM Boot.«enumerate» (Za (ZF Zn.cl Zn.n_fates (dv 0)) Zf) (λ_ _ _ _ _ _=>PL (Zp Yv (dv 1) ZJ (Zm _))) (λ_ _ _ _ _ _=>(dv 0))) (Zb (Zi (Dd (x:="number") (N:=["self"]) (caps:=[0]) (ar:=Zw Te) (P:=LT) (q:=LQ) rfl rfl lsc rfl rfl XF Boot.«max» (KC (j:=0) hr) rfl Rh.hd Rh.bm Rh.kn rfl (dv 1) (λ_ _ _ L _ _=>have hr:=Gn (j:=3) hr (Sk _ _ L _ _ _);(Zg Po hr (Za (ZC (ZF Zn.cl Zn.n_boxes (dv 1)) (dv 0)) Zf))))))),λds S Q ex h=>by
  replace h:=eR h;obtain⟨n,rfl,h⟩:=h;obtain⟨a,b,t,es,fs,B,ht,l9,le,h0,hi⟩:=h;obtain⟨ds,k1,k2,k3⟩:=B.ft;have lf:=B.len
  have tb:t≠b:=λe=>by rw[e,k1] at ht;cases ht
  have kind:∀(k:Nat)(x:D),ds[k]?=some x->(match x with|.non=>true|_=>false)=wtB fs k:=λk x hx=>by
   obtain⟨f,hf⟩:∃f,fs[k]?=some f:=⟨_,zD (show k<fs.length by have:=(zA.mp hx).1;lia)⟩;obtain⟨d,hd,o⟩:=k3 k f hf;rw[hx] at hd;cases hd;unfold wtB;rw[hf];cases f with
   | wait=>cases o;rfl
   | small=>cases o;rfl
   | one _ _ _ _ _=>obtain⟨_,_,_,_,_,_,_,_,rfl,_⟩:=o;rfl
   | cut _ _ _ _=>cases o;rfl
   | out _ _=>obtain⟨_,rfl,_⟩:=o;rfl
   | full _=>obtain⟨_,rfl,_⟩:=o;rfl
  refine NI (n:=b) (S1:=S) (xs:=ds) (λk ys S2=>S2=S++[.lst ys]/\ys=(wts fs k).map (λi:Nat=>D.int (i:Int))) (λk x=>match x with|.non=>true|_=>false) (λK hK=>by exact ZA (n:=n) kId B.ins rfl hK) k1 (λk ys S2 w=>?_) () ⟨rfl,rfl⟩ ?_ ?_ ?_ ?_
  .obtain⟨rfl,rfl⟩:=w;refine⟨Zu k1,Zo _ _,?_⟩;rw[zC];exact yF (List.length_filter_le ..) (xV tV)
  .intro k x ys S2 K hx w hK;obtain⟨f,hf⟩:∃f,fs[k]?=some f:=⟨_,zD (show k<fs.length by have:=(zA.mp hx).1;lia)⟩;obtain⟨d,hd,o⟩:=k3 k f hf;rw[hx] at hd;cases hd;cases f with
   | wait=>cases o;exact hK
   | small=>cases o;exact hK
   | one _ _ _ _ _=>obtain⟨_,_,_,_,_,_,_,_,rfl,_⟩:=o;exact hK
   | cut _ _ _ _=>cases o;exact hK
   | out _ _=>obtain⟨_,rfl,_⟩:=o;exact hK
   | full _=>obtain⟨_,rfl,_⟩:=o;exact hK
  .rintro k x ys S2 hx hb ⟨rfl,rfl⟩;refine⟨rfl,?_⟩;rw[Ds λz=>?_];rw[kind k x hx,UC.mpr z] at hb;cases hb
  .rintro k x ys S2 K hx hb ⟨rfl,rfl⟩ hK;refine hK _ _ (Zo _ _) ⟨by rw[Vn],?_⟩;rw[Cw (UC.mp ((kind k x hx).symm.trans hb)),yC];rfl
  .rintro ys S2 ⟨rfl,rfl⟩;rw[k2] at *
   have gd:∀ {q k:Nat},(wts fs fs.length)[q]?=some k->(wts fs fs.length).getD q 0=k:=λh=>by rw[zR,h];rfl
   refine Ht (n:=S.length) (t:=t) (S1:=S++[.lst ((wts fs fs.length).map (λi:Nat=>D.int (i:Int)))]) (xs:=(wts fs fs.length).map (λi:Nat=>D.int (i:Int))) (λp=>Xx (es.getD ((wts fs fs.length).getD p 0) [])) kId (Zu ht) (Zo _ _) (λe=>?_) (λp v S3 K hv pr hK=>?_) λp v S3 hv h1 h2 pr=>?_
   .refine h0 (λf hf z=>?_) _ Pre.refl.push;obtain⟨i,hi'⟩:=vA.mp hf;subst z;have z:=Tf.mpr ⟨(zA.mp hi').1,hi'⟩;rw[uK.mp e] at z;cases z
   .rw[zE] at hv;obtain⟨i,hi',rfl⟩:=zI.mp hv;have li:=(Tf.mp (zF hi')).1
    have B3:=(B.pre (T:=S++[.lst ((wts fs fs.length).map (λi:Nat=>D.int (i:Int)))]) Pre.refl.push).pre pr
    have he:=zD (show i<es.length by lia);obtain⟨bs,m,g1,g2,o⟩:=B3.box he;refine ZA (n:=n) kId B3.ins rfl ?_;refine Zz (o:=.lst bs) g1 (YC (j:=i) g2) ?_;refine⟨_,o.2.2,le _ (yO ..),λm T p2 wm=>?_⟩;have z:=hK T p2;rw[gd hi',Y2 he,wm.is] at z;exact z
   .rw[zE] at hv;obtain⟨i,hi',rfl⟩:=zI.mp hv;rw[zC] at h1;exact hi i _ (D1 hi' h1 h2) λx o e=>pr _ _ (Zu e)⟩)
noncomputable def Lq:Fx 1 (top 52) EO:=
 mF 0 (λhr hn=>(Zd (Zv (Zp (ZI hr) (dv 0) ZS (Zm _)) (Zb (Zi (pd_or (XO W6 (piv 1) Ze (Zm _)) (QR (XO YU (piv 1) Ze (Zm _)))))) Zy) (Zb (Zi (XO YU (piv 1) Ze (Zm _)))))) λS Q ex=>by
  refine kS λ_=>kP λ_ _=>kN λh=>?_
  rcases h with ⟨rfl,h⟩|⟨rfl,h⟩
  .refine ifD (λc=>?_) (λc=>?_)
   .rw[decide_eq_true c,Bool.true_or] at h;exact h
   .rw[decide_eq_false c,Bool.false_or] at h;exact h
  .exact h
noncomputable def CF:Fx 1 (top 14) Fo:=
 mF 0 (λhr hn=>(Zb (Zi (XO YU (Zh ZK (piv 0) (piv 1)) (Zh ZK (piv 1) (piv 0)) (Zm _))))) λS Q ex=>by
  refine kP λ_ _=>kP λ_ _=>kN ?_
  rintro⟨⟨h1,h2⟩,h⟩;exact⟨h1,h2,h⟩
noncomputable def SH:Fx 1 (top 16) GP:=
 mF 0 (λhr hn=>(Zb (Zi (XZ XU (Zh Xu (XZ XU (dv 0)) (dv 1)))))) λS Q ex=>by
  refine kI λ_=>kI λ_=>kN λh=>?_
  exact h
noncomputable def Dt:Fx 2 (top 17) KZ:=
 mF 0 (λhr hn=>(Zd (Zv (XJ (Zg CF hr (pdv 1 (pv 0)))) (Zb Di) Zy) (Zb (Zi (Zt (Za (Zh Xu (Zh ZK (piv 0) (dv 2)) (piv 0)) (Za (Zg SH hr (Za (Zh ZK (piv 1) (dv 2)) (Za (piv 1) Zf))) Zf))))))) λS Q ex=>by
  refine kP λ_ _=>kP λ_ _=>kI λ_=>kN ?_
  rintro⟨⟨⟨m1,m2⟩,nl,m3,m4,f1,f2⟩,h⟩;refine⟨⟨m1,m2⟩,ifF (decide_eq_false nl) ?_⟩;exact⟨m3,f1,m4,f2,h⟩
noncomputable def Cf:Fy 3 Yg.C 42 2 Lj:=
 mM 1 (λhr hn=>(Zd (Zj (i:=4) hn (Zt (Za (ZF Yg.cl Yg.n_top (dv 0)) (Za (ZF Yg.cl Yg.n_bottom (dv 0)) Zf)))) (Zb (Zi (Zg Dt hr (pdv 4 (pdv 4 (pv 3)))))))) λS Q ex=>by
  refine kR λn=>kR λw=>kR λp=>kI λg=>kN ?_
  rintro⟨x,y,vs,bs,hn,hw,hp,ok,s1,hg,h⟩;have sg:Sz 21 g:=Sz.of 1000000 ()
  have sx:Sz 31 x:=Sz.of (10^9) ok.2.2
  have sy:Sz 31 y:=Sz.of (10^9) (by have:=ok.1;lia);refine ZA (n:=n) kId hn rfl ?_;refine ZA (n:=n) kId hn rfl ?_;exact⟨⟨⟨ZD sx sy,ZD sx sy⟩,(),ZD sx sg,ZD sx sg,sy.fd (by have:=ok.1;lia),sy.fd (by have:=ok.1;lia)⟩,h⟩
noncomputable def DL:Fy 1 Yo.C 43 2 NT:=
 mM 0 (λhr hn=>(Zb (Zi (ZC (dv 2) (ZF Yo.cl Yo.n_place (dv 0)))))) λS Q ex=>by
  refine kR λn=>kR λw=>kR λp=>kI λg=>kN ?_
  rintro⟨k,vs,bs,hn,hw,hp,ok,s1,hg,h⟩;refine ZA (n:=n) kId hn rfl ?_;exact Zz (o:=.lst (bs.map frD)) hp (ZP ok) h
noncomputable def VJ:Fx 1 (top 18) D4:=
 mF 0 (λhr hn=>(Zb (Zi (Zt (Za (Zh ZW (piv 0) (piv 1)) (Za (Zh ZW (piv 0) (piv 1)) Zf)))))) λS Q ex=>by
  refine kP λ_ _=>kP λ_ _=>kN λh=>?_
  exact h
noncomputable def L7:Fy 2 ZL.C 45 1 OR:=
 mM 0 (λhr hn=>(Zb (Zi (Zg VJ hr (Za (ZC (dv 1) (ZF ZL.cl ZL.n_one (dv 0))) (Za (ZC (dv 1) (ZF ZL.cl ZL.n_other (dv 0))) Zf)))))) λS Q ex=>by
  refine kR λn=>kR λw=>kR λp=>kI λg=>kN ?_
  rintro⟨i,j,vs,bs,hn,hw,hp,ok,s1,hg,h⟩;refine ZA (n:=n) kId hn rfl ?_;refine Zz (o:=.lst (vs.map frD)) hw (ZP ok.1) ?_;refine ZA (n:=n) kId hn rfl ?_;refine Zz (o:=.lst (vs.map frD)) hw (ZP ok.2) ?_;exact h
noncomputable def W7:Fx 1 (top 19) Ir:=
 mF 0 (λhr hn=>(Zb (Zi (Zt (Za (Zh Yx (piv 0) (piv 1)) (Za (Zh Yx (piv 0) (piv 1)) Zf)))))) λS Q ex=>by
  refine kP λ_ _=>kP λ_ _=>kN λh=>?_
  exact h
noncomputable def Gq:Fy 2 ZN.C 46 1 OK:=
 mM 0 (λhr hn=>(Zb (Zi (Zg W7 hr (Za (ZC (dv 1) (ZF ZN.cl ZN.n_one (dv 0))) (Za (ZC (dv 1) (ZF ZN.cl ZN.n_other (dv 0))) Zf)))))) λS Q ex=>by
  refine kR λn=>kR λw=>kR λp=>kI λg=>kN ?_
  rintro⟨i,j,vs,bs,hn,hw,hp,ok,s1,hg,h⟩;refine ZA (n:=n) kId hn rfl ?_;refine Zz (o:=.lst (vs.map frD)) hw (ZP ok.1) ?_;refine ZA (n:=n) kId hn rfl ?_;refine Zz (o:=.lst (vs.map frD)) hw (ZP ok.2) ?_;exact h
noncomputable def UO:Fx 2 (top 20) HK:=
 mG 1 (λhr hn=>(Zd (Zj (i:=3) hn (Yu (Za (Zh ZK (piv 0) (piv 1)) (Za (Zh ZK (piv 0) (piv 1)) (Za (Zh ZK (piv 0) (piv 1)) (Za (Zh ZK (piv 0) (piv 1)) Zf)))))) (Zb (Zi (Zt (Za (Zh Xu (ZO (Z7 (WW rfl)) rfl WX Boot.«min» (pv 3)) (dv 2)) (Za (Zg SH hr (Za (ZO (Z7 (Wf rfl)) rfl XF Boot.«max» (pv 3)) (pv 2))) Zf))))))) λS Q0 ex0=>by
  refine kP λa b=>kP λc d=>kI λg=>kN ?_
  rintro⟨⟨⟨m1,m2,m3,m4⟩,hg⟩,h⟩;refine⟨m1,m2,m3,m4,?_⟩;apply WR
  .exact Zo _ _
  .rfl
  .simp
  intro mn n1 n2;refine⟨hg,?_⟩;apply WR
  .exact Zo _ _
  .rfl
  .simp
  intro mx x1 x2;refine⟨hg,?_⟩;exact⟨Pre.refl.push,V2,h mn mx (Uo.of n1 n2 x1 x2)⟩
noncomputable def Ic:Fy 3 ZM.C 47 1 O8:=
 mM 0 (λhr hn=>(Zb (Zi (Zg UO hr (Za (ZC (dv 1) (ZF ZM.cl ZM.n_one (dv 0))) (Za (ZC (dv 1) (ZF ZM.cl ZM.n_other (dv 0))) (pv 3))))))) λS Q ex=>by
  refine kR λn=>kR λw=>kR λp=>kI λg=>kN ?_
  rintro⟨i,j,vs,bs,hn,hw,hp,ok,s1,hg,h⟩;refine ZA (n:=n) kId hn rfl ?_;refine Zz (o:=.lst (vs.map frD)) hw (ZP ok.1) ?_;refine ZA (n:=n) kId hn rfl ?_;refine Zz (o:=.lst (vs.map frD)) hw (ZP ok.2) ?_;have a:=s1.at ok.1
  have b:=s1.at ok.2
  have sg:Sz 21 g:=Sz.of 1000000 ();refine⟨⟨⟨ZD a.2.1 b.2.1,ZD a.2.1 b.2.2,ZD a.2.2 b.2.1,ZD a.2.2 b.2.2⟩,sg.fd ()⟩,λmn mx hc=>?_⟩;obtain⟨rfl,rfl⟩:=hc.eq;exact h
noncomputable def X9:Fx 1 (top 13) PJ:=
 mF 2 (λhr hn=>(Zd (Zj (i:=2) hn Ze) (Zd (TH (i:=3) PassesOwn.never rfl hn rfl (Or.inl rfl) rfl XS (pv 1) (Zb (Zj (i:=2) hn (Zh ZK (dv 2) (dv 0))))) (Zb (Zi (dv 2)))))) λS Q ex=>by
  refine kI λx=>kI λn=>kN ?_
  rintro⟨⟨h0,h6,sx⟩,h⟩;refine⟨⟨(),()⟩,λk dl' S'=>A3 (S'=S) (k<=n.toNat) (E2 λ(z:Int)(o:Option D)=>z=x^k/\dl'=[sI x,sI n,sI z,o]),⟨rfl,zJ _,1,none,(xZ x).symm,rfl⟩,?_⟩;rintro k dl' S' ⟨rfl,hk,z,o,rfl,rfl⟩;refine ite2 (λc=>?_) (λc=>?_)
  .exact⟨ZD (m:=12001) (n:=2000) ((sx.pow k).mono ()) sx,rfl,(),_,_,(zU x k).symm,rfl⟩
  .have e:k=n.toNat:=by lia
   subst e;exact h
noncomputable def O3:Fx 2 (top 21) Er:=
 mG 3 (λhr hn=>(Zd (Zj (i:=3) hn (Yu (Za (piv 0) (Za (piv 0) Zf)))) (Zd (Zv (Mp YU YU (piv 0) Ze (piv 0)) (Zb (Yl (YO (dv 3) Ze))) Zy) (Zd (Lb (x:="place") (N:=["grid","many"]) (caps:=[2,1]) (ar:=Zw (top 21)) rfl rfl csc rfl ⋯ (i:=4) hn rfl rfl (dv 3) pt0 (λ_ _ _ _ _ _=>(Zh ZK (Zg X9 hr (pdv 0 (pv 2))) (dv 1)))) (Zd (Zj (i:=5) hn (Zg X9 hr (pdv 2 (pv 1)))) (Zb (Zi (Zt (Za (Zh Xu (ZO (Z7 (WW rfl)) rfl WX Boot.«min» (pv 4)) (dv 5)) (Za (Zg SH hr (Za (ZO (Z7 (Wf rfl)) rfl XF Boot.«max» (pv 4)) (pv 5))) Zf)))))))))) λS Q0 ex0=>by
  refine kP λa b=>kI λn=>kI λg=>kN ?_
  rintro⟨⟨n2,n6,za,zb,hg,zg⟩,h⟩;refine ifD (λc1=>?_) (λc1=>?_)
  .refine ifD (λc2=>?_) (λc2=>?_)
   .refine Y6 (n:=S.length) (λK hK=>hK) (Zo _ _) (λK hK=>hK) (by simp) ?_;refine XT (n:=S.length) (o:=.lst [.int a,.int b,.int 0]) (λd=>match d with|.int v=>.int (v^n.toNat*g)|_=>.non) (λK hK=>hK) (by simp) (by simp[Zk]) (λx hx S2 K _ hK=>?_) ?_
    .have hx':x=.int a\/x=.int b\/x=.int 0:=by simpa [Zk] using hx
     rcases hx' with rfl|rfl|rfl
     all_goals exact⟨⟨(),n6,by first|exact za.mono ⋯|exact zb.mono ⋯|exact Sz.of (n:=2000) 0 ⋯⟩,ZD (m:=12001) (n:=1400) (((Sz.mono (n:=2000) (by first|exact za|exact zb|exact Sz.of (n:=1400) 0 ⋯) ⋯).pow _).mono ()) zg,hK⟩
    refine⟨⟨(),n6,zg.mono ⋯⟩,?_⟩;have gp:(0:Int)<g^n.toNat:=yD ()
    have zgp:Sz 8401 (g^n.toNat):=(zg.pow _).mono ();apply WR
    .exact Zo _ _
    .rfl
    .simp
    intro mn q1 q2;refine⟨zgp.fd gp,?_⟩;apply WR
    .exact Zo _ _
    .rfl
    .simp
    intro mx x1 x2;refine⟨zgp.fd gp,?_⟩;obtain⟨m,M,hP,rfl,rfl⟩:=WQ.of (n:=n.toNat) hg (.inr ⟨rfl,c1,c2⟩) () q1 q2 x1 x2;have r:=h m M hP;rw[<- VU hg (),<- VU hg (),zZ] at r;exact⟨(λi o e=>X6 (by rw[vO _ _ (zB _),zL (zA.mp e).1];exact e)),V2,r⟩
   .skip
    refine XT (n:=S.length) (o:=.lst [.int a,.int b]) (λd=>match d with|.int v=>.int (v^n.toNat*g)|_=>.non) (λK hK=>hK) (Zo _ _) (by simp[Zk]) (λx hx S2 K _ hK=>?_) ?_
    .have hx':x=.int a\/x=.int b:=by simpa [Zk] using hx
     rcases hx' with rfl|rfl
     all_goals exact⟨⟨(),n6,by first|exact za.mono ⋯|exact zb.mono ⋯|exact Sz.of (n:=2000) 0 ⋯⟩,ZD (m:=12001) (n:=1400) (((Sz.mono (n:=2000) (by first|exact za|exact zb|exact Sz.of (n:=1400) 0 ⋯) ⋯).pow _).mono ()) zg,hK⟩
    refine⟨⟨(),n6,zg.mono ⋯⟩,?_⟩;have gp:(0:Int)<g^n.toNat:=yD ()
    have zgp:Sz 8401 (g^n.toNat):=(zg.pow _).mono ();apply WR
    .exact Zo _ _
    .rfl
    .simp
    intro mn q1 q2;refine⟨zgp.fd gp,?_⟩;apply WR
    .exact Zo _ _
    .rfl
    .simp
    intro mx x1 x2;refine⟨zgp.fd gp,?_⟩;obtain⟨m,M,hP,rfl,rfl⟩:=WQ.of (n:=n.toNat) hg (.inl ⟨rfl,λc=>c2 c.2⟩) () q1 q2 x1 x2;have r:=h m M hP;rw[<- VU hg (),<- VU hg (),zZ] at r;exact⟨Pre.refl.push.push,V2,r⟩
  .skip
   refine XT (n:=S.length) (o:=.lst [.int a,.int b]) (λd=>match d with|.int v=>.int (v^n.toNat*g)|_=>.non) (λK hK=>hK) (Zo _ _) (by simp[Zk]) (λx hx S2 K _ hK=>?_) ?_
   .have hx':x=.int a\/x=.int b:=by simpa [Zk] using hx
    rcases hx' with rfl|rfl
    all_goals exact⟨⟨(),n6,by first|exact za.mono ⋯|exact zb.mono ⋯|exact Sz.of (n:=2000) 0 ⋯⟩,ZD (m:=12001) (n:=1400) (((Sz.mono (n:=2000) (by first|exact za|exact zb|exact Sz.of (n:=1400) 0 ⋯) ⋯).pow _).mono ()) zg,hK⟩
   refine⟨⟨(),n6,zg.mono ⋯⟩,?_⟩;have gp:(0:Int)<g^n.toNat:=yD ()
   have zgp:Sz 8401 (g^n.toNat):=(zg.pow _).mono ();apply WR
   .exact Zo _ _
   .rfl
   .simp
   intro mn q1 q2;refine⟨zgp.fd gp,?_⟩;apply WR
   .exact Zo _ _
   .rfl
   .simp
   intro mx x1 x2;refine⟨zgp.fd gp,?_⟩;obtain⟨m,M,hP,rfl,rfl⟩:=WQ.of (n:=n.toNat) hg (.inl ⟨rfl,λc=>c1 c.1⟩) () q1 q2 x1 x2;have r:=h m M hP;rw[<- VU hg (),<- VU hg (),zZ] at r;exact⟨Pre.refl.push.push,V2,r⟩
noncomputable def F1:Fy 3 ZQ.C 48 2 NS:=
 mM 0 (λhr hn=>(Zb (Zi (Zg O3 hr (Za (ZC (dv 1) (ZF ZQ.cl ZQ.n_one (dv 0))) (Za (ZF ZQ.cl ZQ.n_many (dv 0)) (pv 3))))))) λS Q ex=>by
  refine kR λn=>kR λw=>kR λp=>kI λg=>kN ?_
  rintro⟨i,m,vs,bs,hn,hw,hp,ok,s1,hg,h⟩;refine ZA (n:=n) kId hn rfl ?_;refine Zz (o:=.lst (vs.map frD)) hw (ZP ok.1) ?_;refine ZA (n:=n) kId hn rfl ?_;have a:=s1.at ok.1
  have sg:Sz 21 g:=Sz.of 1000000 ();refine⟨⟨by have:=ok.2.1;lia,ok.2.2,a.2.1,a.2.2,hg.1,sg.mono ⋯⟩,λm' M' hP=>?_⟩;obtain⟨rfl,rfl⟩:=hP.eq (by have:=ok.2.1;lia);exact h
noncomputable def Rx:Fy 1 ZQ.C 48 0 F5:=
 mM 0 (λhr hn=>(Zd (Wt ZQ.cl ZQ.n_one (dv 0) (dv 1)) (Zb (Wt ZQ.cl ZQ.n_many (dv 0) (dv 2))))) λS Q ex=>by
  refine kR λn=>kD λx=>kD λy=>kN ?_
  rintro⟨T,rfl,rfl,h⟩;refine WB (v:=x) (S1:=T++[Ob.ins ZQ.C []]) (S2:=T++[Ob.ins ZQ.C []]) (n:=T.length) (fs:=[]) kId kId (Wq ..) (by simp) ?_;rw[Wx];refine WB (v:=y) (S1:=T++[Ob.ins ZQ.C [("one",x)]]) (S2:=T++[Ob.ins ZQ.C [("one",x)]]) (n:=T.length) (fs:=[("one",x)]) kId kId (Wq ..) (by simp) ?_;rw[Wx];exact h
noncomputable def SK:Fy 1 Yg.C 42 0 D9:=
 mM 0 (λhr hn=>(Zd (Wt Yg.cl Yg.n_top (dv 0) (dv 1)) (Zb (Wt Yg.cl Yg.n_bottom (dv 0) (dv 2))))) λS Q ex=>by
  refine kR λn=>kD λx=>kD λy=>kN ?_
  rintro⟨T,rfl,rfl,h⟩;refine WB (v:=x) (S1:=T++[Ob.ins Yg.C []]) (S2:=T++[Ob.ins Yg.C []]) (n:=T.length) (fs:=[]) kId kId (Wq ..) (by simp) ?_;rw[Wx];refine WB (v:=y) (S1:=T++[Ob.ins Yg.C [("top",x)]]) (S2:=T++[Ob.ins Yg.C [("top",x)]]) (n:=T.length) (fs:=[("top",x)]) kId kId (Wq ..) (by simp) ?_;rw[Wx];exact h
noncomputable def TL:Fy 1 Yo.C 43 0 C5:=
 mM 0 (λhr hn=>(Zb (Wt Yo.cl Yo.n_place (dv 0) (dv 1)))) λS Q ex=>by
  refine kR λn=>kD λx=>kN ?_
  rintro⟨T,rfl,rfl,h⟩;refine WB (v:=x) (S1:=T++[Ob.ins Yo.C []]) (S2:=T++[Ob.ins Yo.C []]) (n:=T.length) (fs:=[]) kId kId (Wq ..) (by simp) ?_;rw[Wx];exact h
noncomputable def Qz {C:Addr}{c:Int->Int->Nd}(p:Pr C c)(d:Dmz C "__init__" "Pair.__init__" Qw Rq):Fmz 1 C "__init__" Rq (Ua C "one" "other"):=
 mkM d JS (λhr=>(Zd (Wt p.cl p.o (dv 0) (dv 1)) (Zb (Wt p.cl p.t (dv 0) (dv 2))))) λS Q ex=>by
  refine kR λn=>kD λx=>kD λy=>kN ?_
  rintro⟨T,rfl,rfl,h⟩;refine WB (v:=x) (S1:=T++[Ob.ins C []]) (S2:=T++[Ob.ins C []]) (n:=T.length) (fs:=[]) kId kId (Wq ..) (by simp) ?_;rw[Wx];refine WB (v:=y) (S1:=T++[Ob.ins C [("one",x)]]) (S2:=T++[Ob.ins C [("one",x)]]) (n:=T.length) (fs:=[("one",x)]) kId kId (Wq ..) (by simp) ?_;rw[Wx];exact h
noncomputable def Bo:Dmz ZL.C "__init__" "Pair.__init__" Qw Rq:=dM
noncomputable def Rf:=Qz OC Bo
noncomputable def Ip:Dmz ZN.C "__init__" "Pair.__init__" Gy J2:=dM
noncomputable def Si:=Qz LH Ip
noncomputable def DH:Dmz ZM.C "__init__" "Pair.__init__" Ij Fh:=dM
noncomputable def Ti:=Qz Na DH
noncomputable def Q5:Fx 3 (top 49) DG:=
 mF 0 (λhr hn=>(Zd (Zv (Zp (ZI hr) (piv 0) ZS (Zm _)) (Zb (Zi (Vi ⟨Yg.makes,SK.m.at_,SK.m.fn,Yg.kp⟩ SK.ok (rmn hr) rfl Yg.m SK.b Vc (Za (piv 0) (Za (piv 0) Zf))))) Zy) (Zd (Zv (Zp (ZI hr) (piv 0) ZS (Zm _)) (Zb (Zi (Vi ⟨Yo.makes,TL.m.at_,TL.m.fn,Yo.kp⟩ TL.ok (rmn hr) rfl Yo.m TL.b Vc (Za (piv 0) Zf)))) Zy) (Zd (Zv (Zp (ZI hr) (piv 0) ZS (Zm _)) (Zb (Zi (Vi ⟨ZL.makes,Rf.m.at_,Rf.m.fn,ZL.kp⟩ Rf.ok (rmn hr) rfl ZL.m Rf.b Vc (Za (piv 0) (Za (piv 0) Zf))))) Zy) (Zd (Zv (Zp (ZI hr) (piv 0) ZS (Zm _)) (Zb (Zi (Vi ⟨ZN.makes,Si.m.at_,Si.m.fn,ZN.kp⟩ Si.ok (rmn hr) rfl ZN.m Si.b Vc (Za (piv 0) (Za (piv 0) Zf))))) Zy) (Zd (Zv (Zp (ZI hr) (piv 0) ZS (Zm _)) (Zb (Zi (Vi ⟨ZM.makes,Ti.m.at_,Ti.m.fn,ZM.kp⟩ Ti.ok (rmn hr) rfl ZM.m Ti.b Vc (Za (piv 0) (Za (piv 0) Zf))))) Zy) (Zb (Zi (Vi ⟨ZQ.makes,Rx.m.at_,Rx.m.fn,ZQ.kp⟩ Rx.ok (rmn hr) rfl ZQ.m Rx.b Vc (Za (piv 0) (Za (piv 0) Zf))))))))))) λS Q ex=>by
  refine kD λ_=>kN ?_
  rintro⟨v,rfl,h⟩;cases v<;>exact⟨S,rfl,rfl,rfl,h⟩
noncomputable def WY:Fx 4 (top 51) GC:=
 mF 2 (λhr hn=>(Zd (Zj (i:=3) hn (Yu Zf)) (Zd (WV (i:=4) PassesOwn.never rfl hn rfl (Or.inl rfl) (dv 0) (Zb (Yl (YO (dv 3) (QN (Zg Q5 hr (pv 4)) (YM Yg.cl Cf (rmn hr) (YM Yo.cl DL (rmn hr) (YM ZL.cl L7 (rmn hr) (YM ZN.cl Gq (rmn hr) (YM ZM.cl Ic (rmn hr) (YM ZQ.cl F1 (rmn hr) QI)))))) Yq (pdv 3 (pdv 1 (pv 2)))))))) (Zb (Zi (dv 3)))))) λS Q ex=>by
  refine kR λa=>kR λb=>kI λg=>kN ?_
  rintro⟨ns,ws,bs,ha,hb,net,sb,hg,hl,h⟩;have disp:∀v:Nd,∃C fs sd,v.oz=.ins C fs/\(C,sd)∈[(Yg.C,Lj),(Yo.C,NT),(ZL.C,OR),(ZN.C,OK),(ZM.C,O8),(ZQ.C,NS)]/\fs.lookup ("forth":Str)=none/\∀(n w p:Nat)(g:Int)(S:Sto)(Q:DK)(ex:Addr->Sto->Prop)(vs bs:LI),S[n]?=some (v.oz)->La S w (vs.map frD)->La S p (bs.map frD)->v.ok vs.length bs.length->Spn 1400 vs->(Gg g)->Q (frD (v.fw vs bs g)) S->sd [.ref n,.ref w,.ref p,.int g] S Q ex:=by
   intro v;cases v with
   | number x y=>exact⟨_,_,_,rfl,(.head _),rfl,λn w p g S Q ex vs bs a1 a2 a3 a4 a5 a6 q=>⟨x,y,vs,bs,a1,a2,a3,a4,a5,a6,q⟩⟩
   | unknown k=>exact⟨_,_,_,rfl,(.tail _ (.head _)),rfl,λn w p g S Q ex vs bs a1 a2 a3 a4 a5 a6 q=>⟨k,vs,bs,a1,a2,a3,a4,a5,a6,q⟩⟩
   | plus i j=>exact⟨_,_,_,rfl,(.tail _ (.tail _ (.head _))),rfl,λn w p g S Q ex vs bs a1 a2 a3 a4 a5 a6 q=>⟨i,j,vs,bs,a1,a2,a3,a4,a5,a6,q⟩⟩
   | minus i j=>exact⟨_,_,_,rfl,(.tail _ (.tail _ (.tail _ (.head _)))),rfl,λn w p g S Q ex vs bs a1 a2 a3 a4 a5 a6 q=>⟨i,j,vs,bs,a1,a2,a3,a4,a5,a6,q⟩⟩
   | times i j=>exact⟨_,_,_,rfl,(.tail _ (.tail _ (.tail _ (.tail _ (.head _))))),rfl,λn w p g S Q ex vs bs a1 a2 a3 a4 a5 a6 q=>⟨i,j,vs,bs,a1,a2,a3,a4,a5,a6,q⟩⟩
   | power i m=>exact⟨_,_,_,rfl,(.tail _ (.tail _ (.tail _ (.tail _ (.tail _ (.head _)))))),rfl,λn w p g S Q ex vs bs a1 a2 a3 a4 a5 a6 q=>⟨i,m,vs,bs,a1,a2,a3,a4,a5,a6,q⟩⟩
  have la:=ZY ha
  have lb:=ZY hb;refine WZ (n:=a) (o:=.lst (ns.map Nd.d)) (λk dl' S'=>k<=ns.length/\Pre S S'/\La S' S.length ((Zl bs g (ns.take k)).map frD)/\∃u:Option D,dl'=[sR a,sR b,sI g,sR S.length,u]) ⟨zJ _,Pre.refl.push,Zo _ _,_,rfl⟩ (λk dl' S' w=>w.2.1 _ _ ha) ?_ ?_
  .rintro k x dl' S' nx ct ex' ⟨hk,pr,hf,u,rfl⟩ hn;have ex2:(ns.map Nd.d)[k]?=some x:=ex';rw[zE] at ex2;obtain⟨v,hv,rfl⟩:=zI.mp ex2;have hk':=(zA.mp hv).1
   have ln:(Zl bs g (ns.take k)).length=k:=by rw[YX,zK];lia
   have okv:v.ok (Zl bs g (ns.take k)).length bs.length:=by rw[ln];exact(net.ok k v hv).1
   obtain⟨C,fs,sd,eo,hm,hf2,go⟩:=disp v;have N1:=Zo S' (v.oz);refine Hx (n:=S.length) (S1:=S') (S2:=S'++[v.oz]) (xs:=(Zl bs g (ns.take k)).map frD) (y:=frD (v.fw (Zl bs g (ns.take k)) bs g)) kId hf (λK hK=>?_) (Zu hf) (by rw[zC,ln];lia) ?_
   .refine QM (n:=S'.length) (C:=C) (sd:=sd) (fs:=fs) (S1:=S'++[v.oz]) (λK hK=>⟨v,rfl,by exact hK⟩) (by rw[<- eo];exact N1) hm hf2 ?_;exact go _ _ _ _ _ _ _ (Zl bs g (ns.take k)) bs N1 (Zu hf) (Zu (pr _ _ hb)) okv ((Uw net rfl sb hg k hk).mono ⋯) hg hK
   .refine hn _ _ ⟨(),Xj (Xm pr _) (zB _),?_,_,rfl⟩;rw[Yt hv,TZ,yC];exact Ys (Zu hf)
  .rintro dl' S' ⟨hk,pr,hf,u,rfl⟩;refine h _ _ pr (zB _) ?_;have e:ns.take (Zk (.lst (ns.map Nd.d))).length=ns:=by
    show ns.take (ns.map Nd.d).length=ns;rw[zC,yH]
   rw[e] at hf;exact hf
noncomputable def O9:Fx 5 (top 76) Ci:=
 mF 1 (λhr hn=>(Zd (Zj (i:=4) hn (piv 1)) (Zb (Zi (Zg Lq hr (Za (piv 1) (Za (ZC (Zg WY hr (Za (Wr (dv 0) Wi (Wm (Zh ZW (dv 4) Ze))) (pdv 2 (pv 3)))) (dv 4)) Zf))))))) λS Q ex=>by
  refine kR λa=>kT λw k=>kR λb=>kI λg=>kN ?_
  rintro⟨ns,ws,bs,zero,ha,hb,hw,⟨k0,k1⟩,net,sb,hg,hl,h⟩;obtain⟨kn,rfl⟩:∃kn:Nat,k=(kn:Int):=⟨k.toNat,()⟩;rw[zG] at h;refine Wj (n:=a) (o:=.lst (ns.map Nd.d)) (lo:=none) (hi:=some ((kn:Int)+1)) (S3:=S) kId kId kId ha ?_;have ec:Z8 (ns.map Nd.d) none (some ((kn:Int)+1))=(ns.take (kn+1)).map Nd.d:=by
   rw[Tc () (by rw[zC];lia),xT];rfl
  rw[show Zk (Ob.lst (ns.map Nd.d))=ns.map Nd.d from rfl,ec];refine⟨ns.take (kn+1),ws.take (kn+1),bs,Zo _ _,Zu hb,net.take _,sb,hg,by rw[zK];lia,λT m pr lm hf=>?_⟩;have prS:Pre S T:=λn o e=>pr n o (Zu e)
  have l1:(Zl bs g (ns.take (kn+1))).length=kn+1:=by rw[YX,zK];lia
  have ik:inR (((Zl bs g (ns.take (kn+1))).length:Nat):Int) (kn:Int):=⟨(),()⟩;refine Zz (o:=.lst ((Zl bs g (ns.take (kn+1))).map frD)) hf (ZP ik) ?_;rcases hw with ⟨rfl,rfl⟩|⟨rfl,rfl⟩
  .exact .inl ⟨rfl,h T prS⟩
  .exact .inr ⟨rfl,h T prS⟩
noncomputable def VZ:Fx 1 (top 23) BK:=
 mF 2 (λhr hn=>(Zd (Zj (i:=2) hn (ZO (Wf rfl) rfl XF Boot.«max» (Za (piv 0) (Za (piv 1) Zf)))) (Zd (Zj (i:=3) hn (ZO (WW rfl) rfl WX Boot.«min» (Za (piv 0) (Za (piv 1) Zf)))) (Zd (Zv (Zp W6 (dv 2) (dv 3) (Zm _)) (Zb (Zi ZJ)) Zy) (Zb (Zi (Zt (pdv 2 (pv 3))))))))) λS Q ex=>by
  refine kP λa b=>kP λc d=>kN ?_
  rintro⟨h1,h2⟩;unfold Z5 at h1 h2;refine ifD (λe=>?_) (λe=>?_)
  .exact h1 (if_pos e)
  .exact h2 _ (if_neg e)
noncomputable def Bi:Fx 2 (top 71) Ge:=
 mF 0 (λhr hn=>(Zd (Zv (Zp (ZI hr) (dv 0) ZS (Zm _)) (Zb (Zi (Zg VZ hr (pdv 1 (Za (Zt (Za Ze (Za Ze Zf))) Zf))))) Zy) (Zb (Zi (Zg VZ hr (pdv 1 (Za (Zt (Za Ze (Za (ZO (Wf rfl) rfl XF Boot.«max» (Za (piv 1) (Za Ze Zf))) Zf))) Zf))))))) λS Q ex=>by
  refine kS λw=>kP λa b=>kN ?_
  rintro⟨zero,hw,h⟩;rcases hw with ⟨rfl,rfl⟩|⟨rfl,rfl⟩
  .exact h
  .exact h
noncomputable def GF:Fy 1 Yg.C 42 3 LF:=
 mM 0 (λhr hn=>(Zb (Zi (Yu Zf)))) λS Q ex=>by
  refine kR λn=>kR λw=>kP λz0 z1=>kI λg=>kN ?_
  rintro⟨x,y,vs,q,hn,hw,ok,hs,⟨hz,sz0,sz1⟩,hg,h1,h2⟩;exact h2 [] rfl
noncomputable def HM:Fy 1 Yo.C 43 3 Nb:=
 mM 0 (λhr hn=>(Zb (Zi (Yu Zf)))) λS Q ex=>by
  refine kR λn=>kR λw=>kP λz0 z1=>kI λg=>kN ?_
  rintro⟨k,vs,q,hn,hw,ok,hs,⟨hz,sz0,sz1⟩,hg,h1,h2⟩;exact h2 [] rfl
noncomputable def PM:Fy 2 ZL.C 45 2 Dc:=
 mM 0 (λhr hn=>(Zb (Zi (Zg VZ hr (pdv 2 (Za (Zg W7 hr (pdv 1 (pv 3))) Zf)))))) λS Q ex=>by
  refine kR λ_=>kP λ_ _=>kP λ_ _=>kP λ_ _=>kI λ_=>kN λh=>?_
  exact h
noncomputable def Q4:Fy 2 ZL.C 45 3 JX:=
 mM 0 (λhr hn=>(Zb (Zi (Zg VZ hr (pdv 3 (Za (Zg W7 hr (pdv 1 (pv 2))) Zf)))))) λS Q ex=>by
  refine kR λ_=>kP λ_ _=>kP λ_ _=>kP λ_ _=>kI λ_=>kN λh=>?_
  exact h
noncomputable def GR:Fy 3 ZL.C 44 1 MB:=
 mM 2 (λhr hn=>(Zd (Zj (i:=4) hn (Xa (C:=ZL.C) (dv 0) ZL.cl PM.m PM.ok (rmn hr) PM.b Yq (pdv 2 (Za (ZC (dv 1) (ZF ZL.cl ZL.n_one (dv 0))) (Za (ZC (dv 1) (ZF ZL.cl ZL.n_other (dv 0))) (pv 3)))))) (Zd (Zv (Zp Yv (dv 4) ZJ (Zm _)) (Zb (Zi ZJ)) Zy) (Zd (Zj (i:=5) hn (XB (Zp (ZI hr) (ZF ZL.cl ZL.n_one (dv 0)) (ZF ZL.cl ZL.n_other (dv 0)) (Zm _)) (dv 4) (ZC (dv 1) (ZF ZL.cl ZL.n_other (dv 0))))) (Zd (Zj (i:=5) hn (Xa (C:=ZL.C) (dv 0) ZL.cl Q4.m Q4.ok (rmn hr) Q4.b Yq (pdv 2 (pdv 4 (pdv 5 (pv 3)))))) (Zd (Zv (Zp Yv (dv 5) ZJ (Zm _)) (Zb (Zi ZJ)) Zy) (Zb (Zi (Yu (Za (Zt (Za (ZF ZL.cl ZL.n_one (dv 0)) (pv 4))) (Za (Zt (Za (ZF ZL.cl ZL.n_other (dv 0)) (pv 5))) Zf))))))))))) λS Q ex=>by
  refine kR λn=>kR λw=>kP λz0 z1=>kI λg=>kN ?_
  rintro⟨i,j,vs,q,hn,hw,ok,hs,⟨hz,sz0,sz1⟩,hg,h1,h2⟩;refine Yw (n:=n) (fs:=[("one",.int i),("other",.int j)]) kId hn rfl ?_;refine ZA (n:=n) kId hn rfl ?_;refine Zz (o:=.lst (vs.map frD)) hw (ZP ok.1) ?_;refine ZA (n:=n) kId hn rfl ?_;refine Zz (o:=.lst (vs.map frD)) hw (ZP ok.2) ?_;refine⟨λe=>?_,λx' e=>?_⟩
  .have e':Z5 (gt vs i) (z0-(gt vs j).2,z1-(gt vs j).1)=none:=e;refine h1 ?_;unfold Nd.bk bk2;dsimp only;rw[e']
  .have e':Z5 (gt vs i) (z0-(gt vs j).2,z1-(gt vs j).1)=some x':=e;refine ZA (n:=n) kId hn rfl ?_;refine ZA (n:=n) kId hn rfl ?_;refine ifD (λc=>?_) (λc=>?_)
   .skip
    refine Yw (n:=n) (fs:=[("one",.int i),("other",.int j)]) kId hn rfl ?_;refine⟨λe2=>?_,λy' e2=>?_⟩
    .refine h1 ?_;unfold Nd.bk bk2;dsimp only;rw[e'];dsimp only;rw[if_pos c,show Z5 x' (z0-x'.2,z1-x'.1)=none from e2]
    .refine ZA (n:=n) kId hn rfl ?_;refine ZA (n:=n) kId hn rfl ?_;refine h2 [(i,x'),(j,y')] ?_;unfold Nd.bk bk2;dsimp only;rw[e'];dsimp only;rw[if_pos c,show Z5 x' (z0-x'.2,z1-x'.1)=some y' from e2]
   .refine ZA (n:=n) kId hn rfl ?_;refine Zz (o:=.lst (vs.map frD)) hw (ZP ok.2) ?_;refine Yw (n:=n) (fs:=[("one",.int i),("other",.int j)]) kId hn rfl ?_;refine⟨λe2=>?_,λy' e2=>?_⟩
    .refine h1 ?_;unfold Nd.bk bk2;dsimp only;rw[e'];dsimp only;rw[if_neg c,show Z5 (gt vs j) (z0-x'.2,z1-x'.1)=none from e2]
    .refine ZA (n:=n) kId hn rfl ?_;refine ZA (n:=n) kId hn rfl ?_;refine h2 [(i,x'),(j,y')] ?_;unfold Nd.bk bk2;dsimp only;rw[e'];dsimp only;rw[if_neg c,show Z5 (gt vs j) (z0-x'.2,z1-x'.1)=some y' from e2]
noncomputable def QJ:Fy 2 ZN.C 46 2 Ek:=
 mM 0 (λhr hn=>(Zb (Zi (Zg VZ hr (pdv 2 (Za (Zg VJ hr (pdv 1 (pv 3))) Zf)))))) λS Q ex=>by
  refine kR λ_=>kP λ_ _=>kP λ_ _=>kP λ_ _=>kI λ_=>kN λh=>?_
  exact h
noncomputable def QD:Fy 2 ZN.C 46 3 ED:=
 mM 0 (λhr hn=>(Zb (Zi (Zg VZ hr (pdv 3 (Za (Zg W7 hr (pdv 2 (pv 1))) Zf)))))) λS Q ex=>by
  refine kR λ_=>kP λ_ _=>kP λ_ _=>kP λ_ _=>kI λ_=>kN λh=>?_
  exact h
noncomputable def Fp:Fy 3 ZN.C 44 1 Ot:=
 mM 2 (λhr hn=>(Zd (Zj (i:=4) hn (Xa (C:=ZN.C) (dv 0) ZN.cl QJ.m QJ.ok (rmn hr) QJ.b Yq (pdv 2 (Za (ZC (dv 1) (ZF ZN.cl ZN.n_one (dv 0))) (Za (ZC (dv 1) (ZF ZN.cl ZN.n_other (dv 0))) (pv 3)))))) (Zd (Zv (Zp Yv (dv 4) ZJ (Zm _)) (Zb (Zi ZJ)) Zy) (Zd (Zj (i:=5) hn (XB (Zp (ZI hr) (ZF ZN.cl ZN.n_one (dv 0)) (ZF ZN.cl ZN.n_other (dv 0)) (Zm _)) (dv 4) (ZC (dv 1) (ZF ZN.cl ZN.n_other (dv 0))))) (Zd (Zj (i:=5) hn (Xa (C:=ZN.C) (dv 0) ZN.cl QD.m QD.ok (rmn hr) QD.b Yq (pdv 2 (pdv 4 (pdv 5 (pv 3)))))) (Zd (Zv (Zp Yv (dv 5) ZJ (Zm _)) (Zb (Zi ZJ)) Zy) (Zb (Zi (Yu (Za (Zt (Za (ZF ZN.cl ZN.n_one (dv 0)) (pv 4))) (Za (Zt (Za (ZF ZN.cl ZN.n_other (dv 0)) (pv 5))) Zf))))))))))) λS Q ex=>by
  refine kR λn=>kR λw=>kP λz0 z1=>kI λg=>kN ?_
  rintro⟨i,j,vs,q,hn,hw,ok,hs,⟨hz,sz0,sz1⟩,hg,h1,h2⟩;refine Yw (n:=n) (fs:=[("one",.int i),("other",.int j)]) kId hn rfl ?_;refine ZA (n:=n) kId hn rfl ?_;refine Zz (o:=.lst (vs.map frD)) hw (ZP ok.1) ?_;refine ZA (n:=n) kId hn rfl ?_;refine Zz (o:=.lst (vs.map frD)) hw (ZP ok.2) ?_;refine⟨λe=>?_,λx' e=>?_⟩
  .have e':Z5 (gt vs i) (z0+(gt vs j).1,z1+(gt vs j).2)=none:=e;refine h1 ?_;unfold Nd.bk bk2;dsimp only;rw[e']
  .have e':Z5 (gt vs i) (z0+(gt vs j).1,z1+(gt vs j).2)=some x':=e;refine ZA (n:=n) kId hn rfl ?_;refine ZA (n:=n) kId hn rfl ?_;refine ifD (λc=>?_) (λc=>?_)
   .skip
    refine Yw (n:=n) (fs:=[("one",.int i),("other",.int j)]) kId hn rfl ?_;refine⟨λe2=>?_,λy' e2=>?_⟩
    .refine h1 ?_;unfold Nd.bk bk2;dsimp only;rw[e'];dsimp only;rw[if_pos c,show Z5 x' (x'.1-z1,x'.2-z0)=none from e2]
    .refine ZA (n:=n) kId hn rfl ?_;refine ZA (n:=n) kId hn rfl ?_;refine h2 [(i,x'),(j,y')] ?_;unfold Nd.bk bk2;dsimp only;rw[e'];dsimp only;rw[if_pos c,show Z5 x' (x'.1-z1,x'.2-z0)=some y' from e2]
   .refine ZA (n:=n) kId hn rfl ?_;refine Zz (o:=.lst (vs.map frD)) hw (ZP ok.2) ?_;refine Yw (n:=n) (fs:=[("one",.int i),("other",.int j)]) kId hn rfl ?_;refine⟨λe2=>?_,λy' e2=>?_⟩
    .refine h1 ?_;unfold Nd.bk bk2;dsimp only;rw[e'];dsimp only;rw[if_neg c,show Z5 (gt vs j) (x'.1-z1,x'.2-z0)=none from e2]
    .refine ZA (n:=n) kId hn rfl ?_;refine ZA (n:=n) kId hn rfl ?_;refine h2 [(i,x'),(j,y')] ?_;unfold Nd.bk bk2;dsimp only;rw[e'];dsimp only;rw[if_neg c,show Z5 (gt vs j) (x'.1-z1,x'.2-z0)=some y' from e2]
noncomputable def Mo:Fx 1 (top 29) CJ:=
 mF 0 (λhr hn=>(Zb (Zi (Jh UY UY (piv 0) Ze (piv 0))))) λS Q ex=>by
  refine kP λ_ _=>kN λh=>?_
  exact and2 h
noncomputable def TQ:Fx 1 (top 32) GG:=
 mF 0 (λhr hn=>(Zd (Zv (PDW.pt (W9 (Zp W6 (piv 1) (piv 0) (Zm _)) (UN (Zp YU (piv 2) (piv 0) (Zm _))))) (Zb (Zi ZJ)) Zy) (Zb (Zi (Zt (Za (ZO (Wf rfl) rfl XF Boot.«max» (Za (piv 1) (Za (piv 0) Zf))) (Za (ZO (WW rfl) rfl WX Boot.«min» (Za (piv 2) (Za (piv 0) Zf))) Zf))))))) λS Q ex=>by
  refine kP λx0 x1=>kP λl0 l1=>kP λk0 k1=>kN ?_
  rintro⟨h1,h2⟩;unfold ptB at h1 h2;refine ifD (λc=>h1 (if_pos c)) (λc1=>ifD (λc=>h1 (by rw[if_neg c1,if_pos c])) (λc2=>?_));have z:=h2 (if x0 > l0 then x0 else l0,if x1<k1 then x1 else k1) (by rw[if_neg c1,if_neg c2]);exact z
noncomputable def MP:Fx 2 (top 33) BC:=
 mF 0 (λhr hn=>(Zb (Zi (Zt (Za (Zh Xu (dv 0) (dv 1)) (Za (Zg SH hr (pdv 0 (pv 1))) Zf)))))) λS Q ex=>by
  refine kI λ_=>kI λ_=>kN ?_
  rintro⟨hb,h⟩;exact⟨hb,hb,h⟩
noncomputable def OG:Fx 3 (top 34) Es:=
 mF 4 (λhr hn=>(Zd (Zj (i:=3) hn (XB (Zp W6 (piv 0) Ze (Zm _)) (piv 2) (piv 2))) (Zd (Zj (i:=4) hn (XB (Zp YU (piv 0) Ze (Zm _)) (piv 2) (piv 2))) (Zd (Zj (i:=5) hn (XB (Zp (ZI hr) (dv 3) Ze (Zm _)) (Zt (Za (piv 1) (Za (piv 1) Zf))) (Zg MP hr (Za (piv 0) (pv 3))))) (Zd (Zj (i:=6) hn (XB (Zp (ZI hr) (dv 4) Ze (Zm _)) (Zt (Za (piv 1) (Za (piv 1) Zf))) (Zg MP hr (Za (piv 0) (pv 4))))) (Zb (Zi (Zg TQ hr (pdv 1 (pdv 5 (pv 6))))))))))) λS Q ex=>by
  refine kP λlo hi=>kP λx0 x1=>kP λc d=>kN ?_
  rintro⟨⟨h0,hd,zc,zd⟩,h⟩;unfold sdS loE hiE Z1 ZU at h;refine ifD (λe1=>?_) (λe1=>?_)
  all_goals first|rw[if_pos e1] at h|rw[if_neg e1] at h
  all_goals refine ifD (λe2=>?_) (λe2=>?_)
  all_goals first|rw[if_pos e2] at h|rw[if_neg e2] at h
  all_goals refine ifD (λe3=>?_) (λe3=>?_)
  all_goals try refine⟨⟨(),by first|exact zd.log ()|exact zc.log ()⟩,?_⟩
  all_goals refine ifD (λe4=>?_) (λe4=>?_)
  all_goals try refine⟨⟨(),by first|exact zd.log ()|exact zc.log ()⟩,?_⟩
  all_goals
   first|rw[if_pos e3] at h|rw[if_neg e3] at h
   try first|rw[if_pos e4] at h|rw[if_neg e4] at h
   exact h
noncomputable def Ez:Fx 1 (top 24) DI:=
 mF 0 (λhr hn=>(Zb (Zi (Zt (Za (ZO (WW rfl) rfl WX Boot.«min» (Za (piv 0) (Za (piv 1) Zf))) (Za (ZO (Wf rfl) rfl XF Boot.«max» (Za (piv 0) (Za (piv 1) Zf))) Zf)))))) λS Q ex=>by
  refine kP λ_ _=>kP λ_ _=>kN λh=>?_
  exact h
noncomputable def NX:Fx 2 (top 31) GB:=
 mF 0 (λhr hn=>(Zd (Zv (Zp Yv (dv 0) ZJ (Zm _)) (Zb (Zi (dv 1))) Zy) (Zd (Zv (Zp Yv (dv 1) ZJ (Zm _)) (Zb (Zi (dv 0))) Zy) (Zb (Zi (Zg Ez hr (pdv 0 (pv 1)))))))) λS Q ex=>by
  refine kD λx=>kD λy=>kN λh=>?_
  match x,h with
  | .non,h=>exact h
  | .tup [.int a,.int b],h=>match y,h with
   | .non,h=>exact h
   | .tup [.int c,.int d],h=>exact h
noncomputable def Ws:Fx 1 (top 30) Qo:=
 mF 0 (λhr hn=>(Zb (Zi (Zt (Za (XZ XU (piv 0)) (Za (XZ XU (piv 0)) Zf)))))) λS Q ex=>by
  refine kP λ_ _=>kN λh=>?_
  exact h
noncomputable def Oa:Fx 4 (top 35) BI:=
 mF 3 (λhr hn=>(Zd (Zv (PDW.pt (Ri (XJ (Zg Mo hr (pv 2))) (SW (XJ (Zg Mo hr (pv 0)))))) (Zb (Zi (dv 1))) Zy) (Zd (Zj (i:=4) hn (Zt (Za (Zh ZK (piv 0) (dv 3)) (Za (Zh ZK (piv 0) (dv 3)) Zf)))) (Zd (Zj (i:=5) hn ZJ) (Zd (Zv (Zp W6 (piv 2) Ze (Zm _)) (Zb (Zj (i:=5) hn (Zg OG hr (pdv 4 (pdv 1 (Za (Zt (Za (ZO (Wf rfl) rfl XF Boot.«max» (Za (piv 2) (Za Ze Zf))) (Za (piv 2) Zf))) Zf)))))) Zy) (Zd (Zv (Zp YU (piv 2) Ze (Zm _)) (Zd (Zj (i:=6) hn (Zg OG hr (Za (Zg Ws hr (pv 4)) (pdv 1 (Za (Zt (Za (ZO (Wf rfl) rfl XF Boot.«max» (Za (XZ XU (piv 2)) (Za Ze Zf))) (Za (XZ XU (piv 2)) Zf))) Zf))))) (Zb (Zj (i:=5) hn (Zg NX hr (pdv 5 (pv 6)))))) Zy) (Zb (Zi (dv 5))))))))) λS Q ex=>by
  refine kP λz0 z1=>kP λx0 x1=>kP λy0 y1=>kI λg=>kN ?_
  rintro⟨⟨hy,sz0,sz1,sy0,sy1,sg⟩,hn,ht⟩;have eq:¬ ((y0<=0/\0<=y1)/\z0<=0/\0<=z1)->btS (z0,z1) (x0,x1) (y0,y1) g=joS (if y1 > 0 then sdS (z0*g) (z1*g) (x0,x1) (mx0 y0) y1 else none) (if y0<0 then sdS (-(z1*g)) (-(z0*g)) (x0,x1) (mx0 (-y1)) (-y0) else none):=λn=>if_neg n
  refine if2 (λa1 a2=>?_) (λn=>?_)
  .refine if2 (λb1 b2=>?_) (λn=>?_)
   .exact ht (x0,x1) (if_pos ⟨⟨a1,a2⟩,b1,b2⟩)
   .have eb:=eq λz=>n z.2
    refine⟨ZD sz0 sg,ZD sz1 sg,?_⟩;refine ifD (λc1=>?_) (λc1=>?_)
    .refine⟨⟨Xv _,c1,W3 (sy0.mono ⋯),sy1.mono ⋯⟩,λn1=>?_,λL t1=>?_⟩
     .refine ifD (λc2=>?_) (λc2=>?_)
      .refine⟨⟨Xv _,(),W3 (sy1.neg.mono ⋯),sy0.neg.mono ⋯⟩,λn2=>?_,λL' t2=>?_⟩
       .exact hn (by rw[eb,if_pos c1,if_pos c2,n1,n2];rfl)
       .exact ht _ (by rw[eb,if_pos c1,if_pos c2,n1,t2];rfl)
      .exact hn (by rw[eb,if_pos c1,if_neg c2,n1];rfl)
     .refine ifD (λc2=>?_) (λc2=>?_)
      .refine⟨⟨Xv _,(),W3 (sy1.neg.mono ⋯),sy0.neg.mono ⋯⟩,λn2=>?_,λL' t2=>?_⟩
       .exact ht _ (by rw[eb,if_pos c1,if_pos c2,t1,n2];rfl)
       .have z:=ht (if L'.1<L.1 then L'.1 else L.1,if L'.2 > L.2 then L'.2 else L.2) (by rw[eb,if_pos c1,if_pos c2,t1,t2];rfl);exact z
      .exact ht _ (by rw[eb,if_pos c1,if_neg c2,t1];rfl)
    .refine ifD (λc2=>?_) (λc2=>?_)
     .refine⟨⟨Xv _,(),W3 (sy1.neg.mono ⋯),sy0.neg.mono ⋯⟩,λn2=>?_,λL' t2=>?_⟩
      .exact hn (by rw[eb,if_neg c1,if_pos c2,n2];rfl)
      .exact ht _ (by rw[eb,if_neg c1,if_pos c2,t2];rfl)
     .exact hn (by rw[eb,if_neg c1,if_neg c2];rfl)
  .have eb:=eq λz=>n z.1
   refine⟨ZD sz0 sg,ZD sz1 sg,?_⟩;refine ifD (λc1=>?_) (λc1=>?_)
   .refine⟨⟨Xv _,c1,W3 (sy0.mono ⋯),sy1.mono ⋯⟩,λn1=>?_,λL t1=>?_⟩
    .refine ifD (λc2=>?_) (λc2=>?_)
     .refine⟨⟨Xv _,(),W3 (sy1.neg.mono ⋯),sy0.neg.mono ⋯⟩,λn2=>?_,λL' t2=>?_⟩
      .exact hn (by rw[eb,if_pos c1,if_pos c2,n1,n2];rfl)
      .exact ht _ (by rw[eb,if_pos c1,if_pos c2,n1,t2];rfl)
     .exact hn (by rw[eb,if_pos c1,if_neg c2,n1];rfl)
    .refine ifD (λc2=>?_) (λc2=>?_)
     .refine⟨⟨Xv _,(),W3 (sy1.neg.mono ⋯),sy0.neg.mono ⋯⟩,λn2=>?_,λL' t2=>?_⟩
      .exact ht _ (by rw[eb,if_pos c1,if_pos c2,t1,n2];rfl)
      .have z:=ht (if L'.1<L.1 then L'.1 else L.1,if L'.2 > L.2 then L'.2 else L.2) (by rw[eb,if_pos c1,if_pos c2,t1,t2];rfl);exact z
     .exact ht _ (by rw[eb,if_pos c1,if_neg c2,t1];rfl)
   .refine ifD (λc2=>?_) (λc2=>?_)
    .refine⟨⟨Xv _,(),W3 (sy1.neg.mono ⋯),sy0.neg.mono ⋯⟩,λn2=>?_,λL' t2=>?_⟩
     .exact hn (by rw[eb,if_neg c1,if_pos c2,n2];rfl)
     .exact ht _ (by rw[eb,if_neg c1,if_pos c2,t2];rfl)
    .exact hn (by rw[eb,if_neg c1,if_neg c2];rfl)
noncomputable def QK:Fy 5 ZM.C 47 2 DX:=
 mM 0 (λhr hn=>(Zb (Zi (Zg Oa hr (pdv 1 (pdv 2 (pdv 3 (pv 4)))))))) λS Q ex=>by
  refine kR λ_=>kP λ_ _=>kP λ_ _=>kP λ_ _=>kI λ_=>kN λh=>?_
  exact h
noncomputable def QB:Fy 5 ZM.C 47 3 Iu:=
 mM 0 (λhr hn=>(Zb (Zi (Zg Oa hr (pdv 1 (pdv 3 (pdv 2 (pv 4)))))))) λS Q ex=>by
  refine kR λ_=>kP λ_ _=>kP λ_ _=>kP λ_ _=>kI λ_=>kN λh=>?_
  exact h
noncomputable def Bs:Fy 6 ZM.C 44 1 O5:=
 mM 2 (λhr hn=>(Zd (Zj (i:=4) hn (Xa (C:=ZM.C) (dv 0) ZM.cl QK.m QK.ok (rmn hr) QK.b Yq (pdv 2 (Za (ZC (dv 1) (ZF ZM.cl ZM.n_one (dv 0))) (Za (ZC (dv 1) (ZF ZM.cl ZM.n_other (dv 0))) (pv 3)))))) (Zd (Zv (Zp Yv (dv 4) ZJ (Zm _)) (Zb (Zi ZJ)) Zy) (Zd (Zj (i:=5) hn (XB (Zp (ZI hr) (ZF ZM.cl ZM.n_one (dv 0)) (ZF ZM.cl ZM.n_other (dv 0)) (Zm _)) (dv 4) (ZC (dv 1) (ZF ZM.cl ZM.n_other (dv 0))))) (Zd (Zj (i:=5) hn (Xa (C:=ZM.C) (dv 0) ZM.cl QB.m QB.ok (rmn hr) QB.b Yq (pdv 2 (pdv 4 (pdv 5 (pv 3)))))) (Zd (Zv (Zp Yv (dv 5) ZJ (Zm _)) (Zb (Zi ZJ)) Zy) (Zb (Zi (Yu (Za (Zt (Za (ZF ZM.cl ZM.n_one (dv 0)) (pv 4))) (Za (Zt (Za (ZF ZM.cl ZM.n_other (dv 0)) (pv 5))) Zf))))))))))) λS Q ex=>by
  refine kR λn=>kR λw=>kP λz0 z1=>kI λg=>kN ?_
  rintro⟨i,j,vs,q,hn,hw,ok,hs,⟨hz,sz0,sz1⟩,hg,h1,h2⟩;have a:=hs.at ok.1
  have b:=hs.at ok.2
  have sg:Sz 30 g:=Sz.of 1000000 ();refine Yw (n:=n) (fs:=[("one",.int i),("other",.int j)]) kId hn rfl ?_;refine ZA (n:=n) kId hn rfl ?_;refine Zz (o:=.lst (vs.map frD)) hw (ZP ok.1) ?_;refine ZA (n:=n) kId hn rfl ?_;refine Zz (o:=.lst (vs.map frD)) hw (ZP ok.2) ?_;refine⟨⟨b.1,sz0.mono ⋯,sz1.mono ⋯,b.2.1.mono ⋯,b.2.2.mono ⋯,sg⟩,λe=>?_,λx' e=>?_⟩
  .have e':btS (z0,z1) (gt vs i) (gt vs j) g=none:=e;refine h1 ?_;unfold Nd.bk bk2;dsimp only;rw[e']
  .have e':btS (z0,z1) (gt vs i) (gt vs j) g=some x':=e
   have zx:=Sz.in2 a.2.1 a.2.2 (Pl (z:=(z0,z1)) hz a.1 b.1 hg.1 x' e');refine ZA (n:=n) kId hn rfl ?_;refine ZA (n:=n) kId hn rfl ?_;refine ifD (λc=>?_) (λc=>?_)
   .skip
    refine Yw (n:=n) (fs:=[("one",.int i),("other",.int j)]) kId hn rfl ?_;refine⟨⟨zx.1,sz0.mono ⋯,sz1.mono ⋯,zx.2.1.mono ⋯,zx.2.2.mono ⋯,sg⟩,λe2=>?_,λy' e2=>?_⟩
    .refine h1 ?_;unfold Nd.bk bk2;dsimp only;rw[e'];dsimp only;rw[if_pos c,show btS (z0,z1) x' x' g=none from e2]
    .refine ZA (n:=n) kId hn rfl ?_;refine ZA (n:=n) kId hn rfl ?_;refine h2 [(i,x'),(j,y')] ?_;unfold Nd.bk bk2;dsimp only;rw[e'];dsimp only;rw[if_pos c,show btS (z0,z1) x' x' g=some y' from e2]
   .refine ZA (n:=n) kId hn rfl ?_;refine Zz (o:=.lst (vs.map frD)) hw (ZP ok.2) ?_;refine Yw (n:=n) (fs:=[("one",.int i),("other",.int j)]) kId hn rfl ?_;refine⟨⟨zx.1,sz0.mono ⋯,sz1.mono ⋯,zx.2.1.mono ⋯,zx.2.2.mono ⋯,sg⟩,λe2=>?_,λy' e2=>?_⟩
    .refine h1 ?_;unfold Nd.bk bk2;dsimp only;rw[e'];dsimp only;rw[if_neg c,show btS (z0,z1) (gt vs j) x' g=none from e2]
    .refine ZA (n:=n) kId hn rfl ?_;refine ZA (n:=n) kId hn rfl ?_;refine h2 [(i,x'),(j,y')] ?_;unfold Nd.bk bk2;dsimp only;rw[e'];dsimp only;rw[if_neg c,show btS (z0,z1) (gt vs j) x' g=some y' from e2]
noncomputable def Ng:Fx 2 (top 37) Ep:=
 mF 0 (λhr hn=>(Zb (Zi (Zh Xu (Zh ZW (Zh ZK (Zh Yx (dv 2) Ze) (dv 0)) (Zh Xu (dv 1) (Zg X9 hr (pdv 0 (Za (Zh Yx (dv 2) Ze) Zf))))) (dv 2))))) λS Q ex=>by
  refine kI λg=>kI λN=>kI λn=>kN ?_
  rintro⟨⟨n2,n6,hg,sg⟩,h⟩;have zn:Sz 800 (n-1):=Sz.of 6 ()
  have gp:(0:Int)<g^(n-1).toNat:=yD hg;exact⟨ZD zn sg,⟨(),(),sg.mono ⋯⟩,((sg.pow (n-1).toNat).mono (show _<=4001 by lia)).fd gp,(Sz.of (n:=800) 6 ():Sz 800 n).fd (),h⟩
noncomputable def Ug:Fx 3 (top 36) PN:=
 mF 2 (λhr hn=>(Zd (Zv (Zp (ZI hr) (dv 0) Ze (Zm _)) (Zb (Zi Ze)) Zy) (Zd (Zj (i:=2) hn (Zh Jx Ze (Zh ZW (Zh Xu (D2 (dv 0)) (dv 1)) Ze))) (Zd (Zj (i:=3) hn (Zg Ng hr (pdv 2 (pdv 0 (pv 1))))) (Zd (Oc PassesOwn.never (Zp YU (dv 3) (dv 2) (Zm _)) (Zd (Zj (i:=2) hn (dv 3)) (Zb (Zj (i:=3) hn (Zg Ng hr (pdv 2 (pdv 0 (pv 1)))))))) (Zb (Zi (dv 2)))))))) λS Q ex=>by
  refine kI λN=>kI λn=>kN ?_
  rintro⟨⟨n2,n6,h0,sN⟩,h⟩;have hn:1<=n.toNat:=by lia
  refine ifD (λc=>?_) (λc=>?_)
  .subst c;exact h 0 () (Sz.of 0 ⋯) (by rw[Lw hn];lia) (by
    have:(0:Int)<(0+1)^n.toNat:=yD ();exact this)
  .obtain⟨r,r0,r1,r2⟩:=Om hn h0;have rp:1<=r:=by
    by_cases z:r=0
    .subst z;have e:((0:Int)+1)^n.toNat=1:=by rw[vH];exact Int.one_pow
     lia
    .lia
   refine⟨(Sz.of (n:=800) 6 ():Sz 800 n).fd (),?_⟩;have d3:=uE (show (0:Int)<=(Builtin.Int.intBits N:Int) by lia) (show 0<=n by lia)
   have d4:(Builtin.Int.intBits N:Int)/n<=(Builtin.Int.intBits N:Int):=Int.ediv_le_self _ ()
   have d5:=sN.bits;refine⟨⟨(),(),⋯⟩,?_⟩;have s0:=(C2 n2 sN).mono (show 652<=800 by decide)
   have g0:(0:Int)<1*2^((Builtin.Int.intBits N:Int)/n+1).toNat:=by rw[wW];exact yD ⋯
   have rg:r<=1*2^((Builtin.Int.intBits N:Int)/n+1).toNat:=by
    have:=plt (n:=n.toNat) (yK g0) (xX r1 (CT h0 ()));lia
   refine⟨⟨n2,n6,g0,s0⟩,?_⟩;refine⟨λm dl' S'=>S'=S/\∃x:Int,dl'=[sI N,sI n,sI x,sI (((n-1)*x+N/x^(n-1).toNat)/n)]/\0<x/\r<=x/\Sz 800 x/\m=x.toNat,⟨_,rfl,_,rfl,g0,rg,s0,rfl⟩,?_⟩;rintro m dl' S' ⟨rfl,x,rfl,x0,rx,sx,rfl⟩;have e:=FA (n:=n) (g:=x) (N:=N) ()
   have ge:=Ku hn r0 x0 r1;rw[<- e] at ge;refine ifD (λc=>?_) (λc=>?_)
   .have s1:Sz 800 (((n-1)*x+N/x^(n-1).toNat)/n):=Sz.mid (a:=0) (Sz.of 0 ⋯) sx () ();exact⟨⟨n2,n6,(),s1⟩,_,(),rfl,_,rfl,(),(),s1,rfl⟩
   .have xr:x=r:=by
     by_cases z:N<x^n.toNat
     .have lt:=HD hn x0 z;rw[<- e] at lt;lia
     .have:=plt (n:=n.toNat) (show 0<=r+1 by lia) (show x^n.toNat<(r+1)^n.toNat by lia);lia
    subst xr;exact h x r0 sx r1 r2
noncomputable def FH (Wu:Dfz "root" Rj WU)(X9:Fkz 1 "raised" Lr PJ)(Ug:Fkz 3 "root_below" OL PN)(Ws:Fkz 1 "opposite" MX Qo)(R5:Fkz 0 "root" WU QA):Fkz 4 "root" WU UZ:=
 Wu.mk' (Vp (k:=3) Wu.F Sx Hm λ_ _ _ _ _ _ _ hr=>⟨_,(Zd (Zv (Zp YU (dv 0) Ze (Zm _)) (Zb (Zi (Zg Ws hr (Za (PF R5 (rmn hr) Yq rfl (Za (XZ XU (dv 0)) (pv 1))) Zf)))) Zy) (Zd (Zj (i:=2) Sx.nd (Zg Ug hr (pdv 0 (pv 1)))) (Zd (Zv (Zp (ZI hr) (Zg X9 hr (pdv 2 (pv 1))) (dv 0) (Zm _)) (Zb (Zi (Zt (pdv 2 (pv 2))))) Zy) (Zb (Zi (Zt (pdv 2 (Za (Zh ZW (dv 2) Ze) Zf)))))))),λds S Q ex h=>by
  unfold UZ at h;split at h
  .rename_i N n;obtain⟨⟨n2,n6,h0,sN⟩,h⟩:=h;refine ifD (λc=>absurd c ()) (λc=>?_);refine⟨⟨n2,n6,h0,sN⟩,λr r0 sr r1 r2=>?_⟩;have e:=Pq r0 r1 r2;unfold rt0 at h;rw[<- e] at h;refine⟨⟨(),n6,sr.mono ⋯⟩,?_⟩;refine ifD (λe2=>?_) (λe2=>?_)
   .rw[if_pos e2] at h;exact h
   .rw[if_neg e2] at h;exact h
  .exact h.elim⟩)
noncomputable def Wu:Dfz "root" Rj WU:=dF
noncomputable def F7:=Df.never (P:=e.P) (w:=e.w) (base:=e.base) 0 Wu
noncomputable def DT:=FH Wu X9 Ug Ws F7
noncomputable def E1 (Wu:Dfz "root" Rj WU)(X9:Fkz 1 "raised" Lr PJ)(Ug:Fkz 3 "root_below" OL PN)(Ws:Fkz 1 "opposite" MX Qo)(R5:Fkz 4 "root" WU UZ):Fkz 5 "root" WU Sf:=
 Wu.mk' (Vp (k:=4) Wu.F Sx Hc λ_ _ _ _ _ _ _ hr=>⟨_,(Zd (Zv (Zp YU (dv 0) Ze (Zm _)) (Zb (Zi (Zg Ws hr (Za (PF R5 (rmn hr) Yq rfl (Za (XZ XU (dv 0)) (pv 1))) Zf)))) Zy) (Zd (Zj (i:=2) Sx.nd (Zg Ug hr (pdv 0 (pv 1)))) (Zd (Zv (Zp (ZI hr) (Zg X9 hr (pdv 2 (pv 1))) (dv 0) (Zm _)) (Zb (Zi (Zt (pdv 2 (pv 2))))) Zy) (Zb (Zi (Zt (pdv 2 (Za (Zh ZW (dv 2) Ze) Zf)))))))),λds S Q ex h=>by
  unfold Sf at h;split at h
  .rename_i N n;obtain⟨⟨n2,n6,ok,sN⟩,h⟩:=h;unfold rtS at h;refine ifD (λc=>?_) (λc=>?_)
   .rw[if_pos c] at h;exact⟨⟨n2,n6,(),sN.neg⟩,h⟩
   .have h0:0<=N:=by lia
    rw[if_neg c] at h;refine⟨⟨n2,n6,h0,sN⟩,λr r0 sr r1 r2=>?_⟩;have e:=Pq r0 r1 r2;unfold rt0 at h;rw[<- e] at h;refine⟨⟨(),n6,sr.mono ⋯⟩,?_⟩;refine ifD (λe2=>?_) (λe2=>?_)
    .rw[if_pos e2] at h;exact h
    .rw[if_neg e2] at h;exact h
  .exact h.elim⟩)
noncomputable def TV:=E1 Wu X9 Ug Ws DT
noncomputable def IC:Fx 6 (top 39) Ca:=
 mF 4 (λhr hn=>(Zd (Zj (i:=4) hn (Zg X9 hr (pdv 3 (Za (Zh Yx (dv 2) Ze) Zf)))) (Zd (Zj (i:=5) hn (Zt (Za (Zh ZK (piv 0) (dv 4)) (Za (Zh ZK (piv 0) (dv 4)) Zf)))) (Zd (Zv (Zp (ZI hr) (Zh Yr (dv 2) Ze) Ze (Zm _)) (Zb (Zi (Zg TQ hr (pdv 1 (Za (Zg TV hr (Za (piv 5) (pv 2))) (Za (Zg TV hr (Za (piv 5) (pv 2))) Zf)))))) Zy) (Zd (Zv (Zp YU (piv 5) Ze (Zm _)) (Zb (Zi ZJ)) Zy) (Zd (Zj (i:=6) hn (Zg TV hr (Za (ZO (Wf rfl) rfl XF Boot.«max» (Za (piv 5) (Za Ze Zf))) (pv 2)))) (Zd (Zj (i:=7) hn (Zg TV hr (Za (piv 5) (pv 2)))) (Zb (Zi (Zg NX hr (Za (Zg TQ hr (pdv 1 (pdv 6 (pv 7)))) (Za (Zg TQ hr (pdv 1 (Za (Zg Ws hr (pv 7)) (Za (Zg Ws hr (pv 6)) Zf)))) Zf)))))))))))) λS Q ex=>by
  refine kP λz0 z1=>kP λx0 x1=>kI λn=>kI λg=>kN ?_
  rintro⟨⟨n2,n6,g1,sg,sz0,sz1⟩,hn,ht⟩;refine⟨⟨(),(),sg.mono ⋯⟩,?_⟩;have sgp:Sz 181 (g^(n-1).toNat):=(sg.pow _).mono ();refine⟨ZD sz0 sgp,ZD sz1 sgp,?_⟩;have slo:Sz 1300 (z0*g^(n-1).toNat):=(sz0.mul sgp).mono ⋯
  have shi:Sz 1300 (z1*g^(n-1).toNat):=(sz1.mul sgp).mono ⋯;unfold bpS at hn ht;dsimp only at hn ht;generalize g^(n-1).toNat=G at *
  refine ifD (λe=>?_) (λe=>?_)
  .rw[if_pos e] at hn ht;exact⟨⟨n2,n6,.inl e,slo⟩,⟨n2,n6,.inl e,shi⟩,hn,ht⟩
  .rw[if_neg e] at hn ht;refine ifD (λe2=>?_) (λe2=>?_)
   .exact hn (if_pos e2)
   .rw[if_neg e2] at hn ht;refine⟨⟨n2,n6,.inr (Xv _),(by show Sz 1300 (mx0 (z0*G));unfold mx0;split;exact Sz.of 0 ⋯ (yJ ⋯);exact slo)⟩,?_⟩;refine⟨⟨n2,n6,.inr (),shi⟩,?_⟩;refine⟨λq1=>?_,λp1 q1=>?_⟩
    .refine⟨λq2=>hn ?_,λp2 q2=>ht _ ?_⟩
     .rw[q1,q2];rfl
     .rw[q1,q2];rfl
    .refine⟨λq2=>ht _ ?_,λp2 q2=>?_⟩
     .rw[q1,q2];rfl
     .have z:=ht (if p2.1<p1.1 then p2.1 else p1.1,if p2.2 > p1.2 then p2.2 else p1.2) (by rw[q1,q2];rfl);exact z
noncomputable def CZ:Fy 7 ZQ.C 48 3 M3:=
 mM 1 (λhr hn=>(Zd (Zj (i:=4) hn (Zg IC hr (pdv 2 (Za (ZC (dv 1) (ZF ZQ.cl ZQ.n_one (dv 0))) (Za (ZF ZQ.cl ZQ.n_many (dv 0)) (pv 3)))))) (Zd (Zv (Zp Yv (dv 4) ZJ (Zm _)) (Zb (Zi ZJ)) Zy) (Zb (Zi (Yu (Za (Zt (Za (ZF ZQ.cl ZQ.n_one (dv 0)) (pv 4))) Zf))))))) λS Q ex=>by
  refine kR λn=>kR λw=>kP λz0 z1=>kI λg=>kN ?_
  rintro⟨i,m,vs,q,hn,hw,ok,hs,⟨hz,sz0,sz1⟩,hg,h1,h2⟩;refine ZA (n:=n) kId hn rfl ?_;refine Zz (o:=.lst (vs.map frD)) hw (ZP ok.1) ?_;refine ZA (n:=n) kId hn rfl ?_;have sg:Sz 30 g:=Sz.of 1000000 ();refine⟨⟨ok.2.1,ok.2.2,hg.1,sg,sz0.mono ⋯,sz1.mono ⋯⟩,λe=>?_,λx' e=>?_⟩
  .refine h1 ?_;show (match bpS (z0,z1) (gt vs i) m g with|none=>none|some x=>some [(i,x)])=none;rw[show bpS (z0,z1) (gt vs i) m g=none from e]
  .refine ZA (n:=n) kId hn rfl ?_;refine h2 [(i,x')] ?_;show (match bpS (z0,z1) (gt vs i) m g with|none=>none|some x=>some [(i,x)])=_;rw[show bpS (z0,z1) (gt vs i) m g=some x' from e]
noncomputable def J9:Fx 8 (top 72) Jk:=
 mF 6 (λhr hn=>(Zd (Zj (i:=4) hn (piv 1)) (Zd (Zj (i:=5) hn (Zg WY hr (Za (Wr (dv 0) Wi (Wm (Zh ZW (dv 4) Ze))) (pdv 2 (pv 3))))) (Zd (Zj (i:=6) hn (Zg Bi hr (Za (piv 1) (Za (ZC (dv 5) (dv 4)) Zf)))) (Zd (Zv (Zp Yv (dv 6) ZJ (Zm _)) (Zb (Zi ZJ)) Zy) (Zd (Td (dv 5) (dv 4) (dv 6)) (Zd (Jt (i:=7) PassesOwn.never rfl hn rfl (Or.inl rfl) rfl XS (pdv 4 (Za (XZ XU Ze) (Za (XZ XU Ze) Zf))) (Zd (Zj (i:=8) hn (QN (Zg Q5 hr (Za (ZC (dv 0) (dv 7)) Zf)) (YM Yg.cl GF (rmn hr) (YM Yo.cl HM (rmn hr) (YM ZL.cl GR (rmn hr) (YM ZN.cl Fp (rmn hr) (YM ZM.cl Bs (rmn hr) (YM ZQ.cl CZ (rmn hr) QI)))))) Yq (pdv 5 (Za (ZC (dv 5) (dv 7)) (pv 3))))) (Zd (Zv (Zp Yv (dv 8) ZJ (Zm _)) (Zb (Zi ZJ)) Zy) (Zb (WV (i:=9) PassesOwn.never rfl hn rfl (Or.inl rfl) (dv 8) (Zb (Td (dv 5) (piv 9) (piv 9)))))))) (Zb (Zi (dv 5)))))))))) λS Q ex=>by
  refine kR λa=>kT λw k=>kR λb=>kI λg=>kN ?_
  rintro⟨ns,ws,bs,zero,ha,hb,hw,⟨k0,k1⟩,net,sb,hg,hl,h1,h2⟩;have disp:∀v:Nd,∃C fs sd,v.oz=.ins C fs/\(C,sd)∈[(Yg.C,LF),(Yo.C,Nb),(ZL.C,MB),(ZN.C,Ot),(ZM.C,O5),(ZQ.C,M3)]/\fs.lookup ("back":Str)=none/\∀(n w:Nat)(z:Int×Int)(g q:Int)(S:Sto)(Q:DK)(ex:Addr->Sto->Prop)(vs:LI),S[n]?=some (v.oz)->La S w (vs.map frD)->v.ok vs.length q->Spn 1000 vs->(z.1<=z.2/\Sz 1000 z.1/\Sz 1000 z.2)->(Gg g)->(v.bk vs z g=none->Q .non S)->(∀l,v.bk vs z g=some l->Q (.ref S.length) (S++[.lst (l.map ptD)]))->sd [.ref n,.ref w,frD z,.int g] S Q ex:=by
   intro v;cases v with
   | number x y=>exact⟨_,_,_,rfl,(.head _),rfl,λn w z g q S Q ex vs a1 a2 a3 a4 a5 a6 q1 q2=>⟨x,y,vs,q,a1,a2,a3,a4,a5,a6,q1,q2⟩⟩
   | unknown k=>exact⟨_,_,_,rfl,(.tail _ (.head _)),rfl,λn w z g q S Q ex vs a1 a2 a3 a4 a5 a6 q1 q2=>⟨k,vs,q,a1,a2,a3,a4,a5,a6,q1,q2⟩⟩
   | plus i j=>exact⟨_,_,_,rfl,(.tail _ (.tail _ (.head _))),rfl,λn w z g q S Q ex vs a1 a2 a3 a4 a5 a6 q1 q2=>⟨i,j,vs,q,a1,a2,a3,a4,a5,a6,q1,q2⟩⟩
   | minus i j=>exact⟨_,_,_,rfl,(.tail _ (.tail _ (.tail _ (.head _)))),rfl,λn w z g q S Q ex vs a1 a2 a3 a4 a5 a6 q1 q2=>⟨i,j,vs,q,a1,a2,a3,a4,a5,a6,q1,q2⟩⟩
   | times i j=>exact⟨_,_,_,rfl,(.tail _ (.tail _ (.tail _ (.tail _ (.head _))))),rfl,λn w z g q S Q ex vs a1 a2 a3 a4 a5 a6 q1 q2=>⟨i,j,vs,q,a1,a2,a3,a4,a5,a6,q1,q2⟩⟩
   | power i m=>exact⟨_,_,_,rfl,(.tail _ (.tail _ (.tail _ (.tail _ (.tail _ (.head _)))))),rfl,λn w z g q S Q ex vs a1 a2 a3 a4 a5 a6 q1 q2=>⟨i,m,vs,q,a1,a2,a3,a4,a5,a6,q1,q2⟩⟩
  obtain⟨kn,rfl⟩:∃kn:Nat,k=(kn:Int):=⟨k.toNat,()⟩;rw[zG] at h1 h2;have hk:kn<ns.length:=by lia
  refine Wj (n:=a) (o:=.lst (ns.map Nd.d)) (lo:=none) (hi:=some ((kn:Int)+1)) (S3:=S) kId kId kId ha ?_;have ec:Z8 (ns.map Nd.d) none (some ((kn:Int)+1))=(ns.take (kn+1)).map Nd.d:=by
   rw[Tc () (by rw[zC];lia),xT];rfl
  rw[show Zk (Ob.lst (ns.map Nd.d))=ns.map Nd.d from rfl,ec];refine⟨ns.take (kn+1),ws.take (kn+1),bs,Zo _ _,Zu hb,net.take _,sb,hg,by rw[zK];lia,λT m pr lm hf=>?_⟩;have prS:Pre S T:=λn o e=>pr n o (Zu e)
  have lm':S.length<=m:=by
   have z:(S++[Ob.lst ((ns.take (kn+1)).map Nd.d)]).length<=m:=lm;rw[yB] at z;lia
  have s1:Spn 1000 (Zl bs g (ns.take (kn+1))):=Uw net rfl sb hg (kn+1) ()
  have l1:(Zl bs g (ns.take (kn+1))).length=kn+1:=by rw[YX,zK];lia
  have ik:inR (((Zl bs g (ns.take (kn+1))).length:Nat):Int) (kn:Int):=⟨(),()⟩
  have a1:=s1.at ik;refine Zz (o:=.lst ((Zl bs g (ns.take (kn+1))).map frD)) hf (ZP ik) ?_;refine⟨zero,hw,λe=>?_,λwd e=>?_⟩
  .refine h1 ?_ T prS;unfold sbS;rw[show V3 zero (gt (Zl bs g (ns.take (kn+1))) (kn:Int))=none from e]
  have es:sbS ns zero kn bs g=X1 g ns (kn+1) ((Zl bs g (ns.take (kn+1))).set kn wd):=by
   unfold sbS;rw[show V3 zero (gt (Zl bs g (ns.take (kn+1))) (kn:Int))=some wd from e]
  have zw:=Sz.in2 a1.2.1 a1.2.2 (RJ wd e);refine V9 (n:=m) (k:=(kn:Int)) (j:=kn) (xs:=(Zl bs g (ns.take (kn+1))).map frD) (v:=frD wd) kId kId kId hf (by rw[zC,VA ik];rfl) ?_;rw[Uy];refine⟨rfl,⟨(),(),(),()⟩,λt dl' S'=>t<=kn+1/\Pre S S'/\∃us:LI,La S' m (us.map frD)/\us.length=kn+1/\Spn 1000 us/\X1 g ns (kn+1-t) us=sbS ns zero kn bs g/\∃u7 u8 u9:Option D,dl'=[sR a,some (.tup [.str w,.int (kn:Int)]),sR b,sI g,sI (kn:Int),sR m,some (frD wd),u7,u8,u9],⟨(),Xj prS lm',_,Ys hf,by rw[yA];exact l1,s1.set2 zw,es.symm,_,_,_,rfl⟩,?_⟩;rintro t dl' S' ⟨ht,prt,us,hu,lu,su,eb,u7,u8,u9,rfl⟩;refine ite2 (λtc=>?_) (λtc=>?_)
  .have tc':t<kn+1:=by
    have z:t<((kn:Int) - -1).toNat:=tc;lia
   obtain⟨j,ej⟩:∃j:Nat,kn=j+t:=⟨kn-t,()⟩;have en:(kn:Int)-(t:Int)=(j:Int):=by lia
   have ek:kn+1-t=j+1:=by lia
   have hv:ns[j]?=some ns[j]:=zD ();generalize ns[j]=v at hv;have ok:v.ok us.length bs.length:=LL () (net.ok j v hv).1
   have ij:inR ((us.length:Nat):Int) (j:Int):=⟨(),()⟩;obtain⟨C,fs,sd,eo,hm,hf2,go⟩:=disp v;have N1:=Zo S' (v.oz);rw[en];rw[ek] at eb;refine QM (n:=S'.length) (C:=C) (sd:=sd) (fs:=fs) (S1:=S'++[v.oz]) (λK hK=>?_) (by rw[<- eo];exact N1) hm hf2 ?_
   .refine Zz (o:=.lst (ns.map Nd.d)) (prt _ _ ha) (NG hv) ?_;exact⟨v,rfl,by exact hK⟩
   refine Zz (o:=.lst (us.map frD)) (Zu hu) (ZP ij) ?_;refine go _ _ (gt us (j:Int)) _ bs.length _ _ _ us N1 (Zu hu) ok su (su.at ij) hg (λe=>?_) (λl e=>?_)
   .refine h1 ?_ _ (Xm prt _);rw[<- eb,Mc hv e]
   have P:=v.bk_pts su (su.at ij).1 hg.1 l ok e;rw[MM hv e] at eb;have lS:m<S'.length:=ZY hu;refine WZ (n:=(S'++[v.oz]).length) (o:=.lst (l.map ptD)) (λi dl2 S2=>A5 (i<=l.length) (Pre S S2) (La S2 m ((XR us (l.take i)).map frD)) (S2[(S'++[v.oz]).length]?=some (.lst (l.map ptD))) (∃u9:Option D,dl2=[sR a,some (.tup [.str w,.int (kn:Int)]),sR b,sI g,sI (kn:Int),sR m,some (frD wd),sI (j:Int),some (.ref (S'++[v.oz]).length),u9])) ⟨zJ _,Xm (Xm prt _) _,Zu (Zu hu),Zo _ _,_,rfl⟩ (λi dl2 S2 z=>by obtain⟨_,_,_,h,_⟩:=z;exact h) ?_ ?_
   .rintro i x dl2 S2 nx ct ex' ⟨hi,pr2,hu2,hl2,u9,rfl⟩ hn;have ex2:(l.map ptD)[i]?=some x:=ex';rw[zE] at ex2;obtain⟨p,hp,rfl⟩:=zI.mp ex2;have hi':=(zA.mp hp).1
    have Pp:=P.2 p (zF hp)
    have ipp:inR (((XR us (l.take i)).length:Nat):Int) p.1:=by rw[UX];exact Pp.1
    refine V9 (n:=m) (k:=p.1) (j:=p.1.toNat) (xs:=(XR us (l.take i)).map frD) (v:=frD p.2) kId kId kId hu2 (by rw[zC];exact VA ipp) ?_;rw[Uy,<- DY,<- Yt hp];refine hn _ _ ⟨(),Xj pr2 lm',Ys hu2,Z2 hl2 (by rw[yB];lia),_,rfl⟩
   .rintro dl2 S2 ⟨hi,pr2,hu2,hl2,u9,rfl⟩;have e9:l.take (Zk (Ob.lst (l.map ptD))).length=l:=by
     show l.take (l.map ptD).length=l;rw[zC,yH]
    rw[e9] at hu2;refine⟨(),pr2,_,hu2,by rw[UX];exact lu,Q1 l us su λp hp=>(P.2 p hp).2,?_,_,_,_,rfl⟩;rw[show kn+1-(t+1)=j by lia];exact eb
  .have tc':¬ t<kn+1:=λz=>tc (show t<((kn:Int) - -1).toNat by lia)
   rw[show kn+1-t=0 by lia] at eb;exact h2 us S' m eb.symm prt lm' hu
noncomputable def Ba:Fx 9 (top 73) Ib:=
 mF 5 (λhr hn=>(Zd (Zj (i:=4) hn (Zg J9 hr (pdv 0 (pdv 1 (pdv 2 (pv 3)))))) (Zd (Zv (Zp Yv (dv 4) ZJ (Zm _)) (Zb (Zi ZJ)) Zy) (Zd (Zj (i:=5) hn (RP (Z7 Qt) rfl Rg Boot.«list» (pv 2))) (Zd (Ru (is:=[6,7]) PassesOwn.never rfl hn (Nms.cons (i:=6) rfl (Or.inl rfl) (by first|exact .inl rfl|exact .inr rfl) (Nms.cons (i:=7) rfl (Or.inl rfl) (by first|exact .inl rfl|exact .inr rfl) Nms.nil)) rfl rfl WM Boot.«enumerate» (pv 4) (Zd (Zj (i:=8) hn (ZC (dv 0) (dv 6))) (Zb (Zv (Zp (ZI hr) (piv 8) ZS (Zm _)) (Zb (Td (dv 5) (piv 8) (dv 7))) Zy)))) (Zb (Zi (dv 5)))))))) λS Q ex=>by
  refine kR λa=>kT λw k=>kR λb=>kI λg=>kN ?_
  rintro⟨ns,ws,bs,zero,ha,hb,hw,⟨k0,k1⟩,net,sb,hg,hl,h1,h2⟩;obtain⟨kn,rfl⟩:∃kn:Nat,k=(kn:Int):=⟨k.toNat,()⟩;rw[zG] at h1 h2;refine⟨ns,ws,bs,zero,ha,hb,hw,⟨k0,k1⟩,net,sb,hg,hl,?_,?_⟩
  .rw[zG];intro e T pr;exact h1 (by unfold nwS;rw[e];rfl) T pr
  .rw[zG];intro us T m e pr lm hu;have lu:=Eh net sb hg (show kn<ns.length by lia) e
   have lz:(ns.zip us).length=kn+1:=by rw[wX];lia
   have en:nwS ns zero kn bs g=some (Xk bs (ns.zip us)):=by unfold nwS;rw[e];rfl
   have lS:m<T.length:=ZY hu;refine PQ (ZR (pr _ _ hb) rfl) ?_;refine Tu (n:=m) (xs:=us.map frD) (S1:=T++[.lst (bs.map frD)]) (λi dl' S'=>A5 (i<=us.length) (Pre S S') (La S' m (us.map frD)) (La S' T.length ((Xk bs ((ns.zip us).take i)).map frD)) (E3 λ(u6 u7 u8:Option D)=>dl'=[sR a,some (.tup [.str w,.int (kn:Int)]),sR b,sI g,sR m,sR T.length,u6,u7,u8])) kId (λi dl' S' z=>by obtain⟨_,_,h,_⟩:=z;exact h) ⟨zJ _,Xm pr _,Zu hu,Zo _ _,_,_,_,rfl⟩ ?_ ?_
   .rintro i x dl' S' nx ct ex' ⟨hi,pr',hu',hl',u6,u7,u8,rfl⟩ hn;rw[zE] at ex';obtain⟨p,hp,rfl⟩:=zI.mp ex';have hi':=(zA.mp hp).1
    have hv:ns[i]?=some ns[i]:=zD ();generalize ns[i]=v at hv;have hz:=C3 hv hp
    have lp:=(MF net rfl (us:=us) (bs:=bs) (λ_ _=>True) (λ_ _=>trivial) (λ_ _ _ _=>trivial) i ()).1
    have es:Xk bs ((ns.zip us).take (i+1))=match v with
     | .unknown u=>(Xk bs ((ns.zip us).take i)).set u.toNat p
     | _=>Xk bs ((ns.zip us).take i):=by
     rw[Yt hz,OV];cases v<;>rfl
    have okv:=(net.ok i v hv).1;refine Zz (o:=.lst (ns.map Nd.d)) (pr' _ _ ha) (NG hv) ?_;cases v with
    | unknown u=>
     have oku:inR (((Xk bs ((ns.zip us).take i)).length:Nat):Int) u:=by rw[lp];exact okv
     refine V9 (n:=T.length) (k:=u) (j:=u.toNat) (xs:=(Xk bs ((ns.zip us).take i)).map frD) (v:=frD p) kId kId kId hl' (by rw[zC];exact VA oku) ?_;rw[Uy];refine hn _ _ ⟨(),Xj pr' (),Z2 hu' (),?_,_,_,_,rfl⟩;rw[es];exact Ys hl'
    | number _ _=>exact hn _ _ ⟨(),pr',hu',by rw[es];exact hl',_,_,_,rfl⟩
    | plus _ _=>exact hn _ _ ⟨(),pr',hu',by rw[es];exact hl',_,_,_,rfl⟩
    | minus _ _=>exact hn _ _ ⟨(),pr',hu',by rw[es];exact hl',_,_,_,rfl⟩
    | times _ _=>exact hn _ _ ⟨(),pr',hu',by rw[es];exact hl',_,_,_,rfl⟩
    | power _ _=>exact hn _ _ ⟨(),pr',hu',by rw[es];exact hl',_,_,_,rfl⟩
   .rintro dl' S' ⟨hi,pr',hu',hl',u6,u7,u8,rfl⟩;rw[zC,yM ()] at hl';exact h2 _ S' T.length en pr' () hl'
noncomputable def RI:Fx 1 (top 75) CM:=
 mF 0 (λhr hn=>(Zb (Zi (Zh Ro (Zh Ro (Wr (dv 0) Wi (Wm (dv 1))) (Yu (pv 2))) (Wr (dv 0) (Wm (Zh ZW (dv 1) Ze)) Wi))))) λS Q ex=>by
  refine kR λb=>kI λk=>kD λd=>kN ?_
  rintro⟨bs,p,hb,⟨k0,k1⟩,l4,rfl,h⟩;obtain⟨kn,rfl⟩:∃kn:Nat,k=(kn:Int):=⟨k.toNat,()⟩;rw[zG] at h;have c1:=MZ (α:=Nat) (xs:=bs.map frD) (lo:=none) (hi:=some (kn:Int))
  have c2:=MZ (α:=Nat) (xs:=bs.map frD) (lo:=some ((kn:Int)+1)) (hi:=none);rw[zC] at c1 c2;refine Wj (n:=b) (o:=.lst (bs.map frD)) (lo:=none) (hi:=some (kn:Int)) (S3:=S) kId kId kId hb ?_;rw[show Zk (Ob.lst (bs.map frD))=bs.map frD from rfl];refine Sy (n:=S.length) (m:=(S++[Ob.lst (Z8 (bs.map frD) none (some (kn:Int)))]).length) (xs:=Z8 (bs.map frD) none (some (kn:Int))) (ys:=[frD p]) (Zu (Zo _ _)) (Zo _ _) (by show (Z8 (bs.map frD) none (some (kn:Int))).length+1<=1000;lia) ?_;refine Wj (n:=b) (o:=.lst (bs.map frD)) (lo:=some ((kn:Int)+1)) (hi:=none) (S3:=S++[Ob.lst (Z8 (bs.map frD) none (some (kn:Int)))]++[Ob.lst [frD p]]++[Ob.lst (Z8 (bs.map frD) none (some (kn:Int))++[frD p])]) kId kId kId (Zu (Zu (Zu hb))) ?_;rw[show Zk (Ob.lst (bs.map frD))=bs.map frD from rfl];refine Sy (xs:=Z8 (bs.map frD) none (some (kn:Int))++[frD p]) (ys:=Z8 (bs.map frD) (some ((kn:Int)+1)) none) (Zu (Zo _ _)) (Zo _ _) (by rw[yB];show (Z8 (bs.map frD) none (some (kn:Int))).length+1+_<=1000;lia) ?_;rw[KN (α:=Nat) ()];refine h _ _ ?_ ?_ (Zo _ _)
  .exact λn o e=>Zu (Zu (Zu (Zu (Zu e))))
  .simp only[yB];lia
noncomputable def EB:Fx 1 (top 77) Iv:=
 mF 0 (λhr hn=>(Zb (Zi (XB (Zp (ZI hr) (piv 1) Ze (Zm _)) (Zt (Za (piv 0) (Za (piv 1) Zf))) (Zt (Za (piv 1) (Za (piv 0) Zf))))))) λS Q ex=>by
  refine kP λa b=>kD λd=>kN ?_
  rintro⟨⟨k,p,s⟩,rfl,h⟩;cases s<;>exact h
noncomputable def Gw:Fx 6 (top 79) C8:=
 mF 2 (λhr hn=>(Zd (Zj (i:=5) hn (piv 4)) (Zd (Zj (i:=6) hn (ZC (dv 2) (dv 5))) (Zd (Zv (Ut (Mp YU YU (piv 6) (piv 4) (piv 6))) (Zb (Zi LD)) Zy) (Zb (Zi (Zg O9 hr (pdv 0 (pdv 1 (Za (Zg RI hr (pdv 2 (pdv 5 (Za (Zg EB hr (pdv 6 (pv 4))) Zf)))) (pv 3))))))))))) λS Q ex=>by
  refine kR λa=>kT λw k=>kR λb=>kI λg=>kD λd=>kN ?_
  rintro⟨ns,ws,bs,zero,c,ha,hb,hw,hk,net,sb,hg,hl,rfl,hc,l4,h⟩;have ik:inR ((bs.length:Nat):Int) (c.k:Int):=⟨(),()⟩
  have sz:=sb.at ik;refine Zz (o:=.lst (bs.map frD)) hb (ZP ik) ?_;have no:¬ ((gt bs (c.k:Int)).1<c.p/\c.p<(gt bs (c.k:Int)).2)->Q (.bl false) S:=λn=>by
   have z:=h S Pre.refl
   have e:isS ns zero k.toNat g bs c=false:=by
    unfold isS;rw[show (decide ((gt bs (c.k:Int)).1<c.p)&&decide (c.p<(gt bs (c.k:Int)).2))=false by
     rw[<- Bool.not_eq_true,tO,decide_eq_true_eq,decide_eq_true_eq];exact n]
    rfl
   rw[e] at z;exact z
  refine ifD (λc1=>?_) (λc1=>no λz=>c1 z.1);refine ifN (λc2=>no λz=>c2 z.2) (λc2=>?_);have q:=Nf (c:=c) c1 c2 sz.2.1 sz.2.2;refine⟨c,rfl,?_⟩;refine⟨bs,c.off (gt bs (c.k:Int)),hb,ik,l4,rfl,λT m pr lm hT=>?_⟩;rw[zG] at hT;have ln:(bs.set c.k (c.off (gt bs (c.k:Int)))).length=bs.length:=yA ..;refine⟨ns,ws,_,zero,pr _ _ ha,hT,hw,hk,by rw[ln];exact net,sb.set2 q.2,hg,hl,λT2 pr2=>?_⟩;have z:=h T2 (pr.trans pr2)
  have e:isS ns zero k.toNat g bs c=ibS ns zero k.toNat (bs.set c.k (c.off (gt bs (c.k:Int)))) g:=by
   unfold isS;rw[decide_eq_true c1,decide_eq_true c2];rfl
  rw[e] at z;exact z
noncomputable def Gu:Fx 1 (top 78) GN:=
 mF 0 (λhr hn=>(Zb (Zi (XB (Zp (ZI hr) (piv 1) Ze (Zm _)) (Zt (Za (piv 1) (Za (piv 0) Zf))) (Zt (Za (piv 0) (Za (piv 1) Zf))))))) λS Q ex=>by
  refine kP λa b=>kD λd=>kN ?_
  rintro⟨⟨k,p,s⟩,rfl,h⟩;cases s<;>exact h
noncomputable def Fw:Fx 10 (top 80) KH:=
 mF 6 (λhr hn=>(Zd (Zv (XJ (Zg O9 hr (pdv 0 (pdv 1 (pdv 2 (pv 3)))))) (Zb (Zi (Zt (Za (Yu Zf) (Za ZJ Zf))))) Zy) (Zd (Zj (i:=4) hn (RP (Z7 Qt) rfl Rg Boot.«list» (pv 2))) (Zd (Zj (i:=5) hn (Zg Ba hr (pdv 0 (pdv 1 (pdv 2 (pv 3)))))) (Zd (Zv (Zp Yv (dv 5) ZJ (Zm _)) (Zb (Zi (Zt (Za (Yu Zf) (pv 4))))) Zy) (Zd (Zj (i:=6) hn (Yu Zf)) (Zd (Ru (is:=[7,8]) PassesOwn.never rfl hn (Nms.cons (i:=7) rfl (Or.inl rfl) (by first|exact .inl rfl|exact .inr rfl) (Nms.cons (i:=8) rfl (Or.inl rfl) (by first|exact .inl rfl|exact .inr rfl) Nms.nil)) rfl rfl WM Boot.«enumerate» (pv 5) (Zb (DV (i:=9) PassesOwn.never rfl hn rfl (Or.inl rfl) (Zt (Za (Zt (pdv 7 (Za (Zh Yx (piv 8) Ze) (Za Ze Zf)))) (Za (Zt (pdv 7 (Za (Zh ZW (piv 8) Ze) (Za Ze Zf)))) Zf))) (Zb (Zv (XJ (Zg Gw hr (pdv 0 (pdv 1 (pdv 4 (pdv 3 (pv 9))))))) (Zd (Yl (YO (dv 6) (dv 9))) (Zb (Td (dv 4) (dv 7) (Zg Gu hr (Za (ZC (dv 4) (dv 7)) (pv 9)))))) Zy))))) (Zb (Zi (Zt (pdv 6 (pv 4)))))))))))) λS Q ex=>by
  refine kR λa=>kT λw k=>kR λb=>kI λg=>kN ?_
  rintro⟨ns,ws,bs,zero,ha,hb,hw,hk,net,sb,hg,hl,l4,h⟩;obtain⟨kn,rfl⟩:∃kn:Nat,k=(kn:Int):=⟨k.toNat,by have:=hk.1;lia⟩;have hkn:kn<ns.length:=by have:=hk.2;lia
  rw[zG] at h;refine⟨ns,ws,bs,zero,ha,hb,hw,hk,net,sb,hg,hl,λT pr=>?_⟩;rw[zG];unfold shS at h;cases hi:ibS ns zero kn bs g with
  | true=>
   rw[hi] at h;exact h _ T.length .non (Xm pr _) (by have:=Yj pr;lia) (Zo _ _) (.inl ⟨rfl,rfl⟩)
  | false=>
   rw[hi] at h;have lST:=Yj pr;refine PQ (ZR (pr _ _ hb) rfl) ?_;refine⟨ns,ws,bs,zero,Zu (pr _ _ ha),Zu (pr _ _ hb),hw,hk,net,sb,hg,hl,?_,?_⟩
   .rw[zG];intro e T2 pr2;rw[e] at h;have lT2:T.length<T2.length:=ZY (pr2 _ _ (Zo T (.lst (bs.map frD))));exact h _ T2.length (.ref T.length) (λn o e=>Zu (pr2 _ _ (Zu (pr _ _ e)))) () (Zo _ _) (.inr ⟨bs,T.length,rfl,rfl,Zu (pr2 _ _ (Zo _ _)),lST⟩)
   .rw[zG];intro r T2 m2 e pr2 lm2 hr2;rw[e] at h;obtain⟨lr,sr⟩:=MA net sb hg hkn e;have lT2:T.length<T2.length:=ZY (pr2 _ _ (Zo T (.lst (bs.map frD))))
    have lm2':T.length<m2:=by
     have z:(T++[Ob.lst (bs.map frD)]).length<=m2:=lm2;rw[yB] at z;have e1:([Ob.lst (bs.map frD)]:Sto).length=1:=rfl;lia
    have l22:m2<T2.length:=ZY hr2
    have hml:T2[T.length]?=some (.lst (bs.map frD)):=pr2 _ _ (Zo _ _)
    have prS2:Pre S T2:=λn o e=>pr2 _ _ (Zu (pr _ _ e))
    have nlc:T.length≠T2.length:=by lia
    have nuc:m2≠T2.length:=by lia
    have nul:m2≠T.length:=by lia
    have lmc:S.length<=T2.length:=by lia
    have lml:S.length<=T.length:=by lia
    refine Tu (n:=m2) (xs:=r.map frD) (S1:=T2++[.lst []]) (λi dl' S'=>A6 (i<=r.length) (Pre S S') (La S' m2 (r.map frD)) (La S' T2.length ((shN ns zero kn g bs r i).1.map Ct.d)) (La S' T.length ((shN ns zero kn g bs r i).2.map frD)) (E3 λ(u7 u8 u9:Option D)=>dl'=[sR a,some (.tup [.str w,.int (kn:Int)]),sR b,sI g,sR T.length,sR m2,sR T2.length,u7,u8,u9])) kId (λi dl' S' z=>by obtain⟨_,_,h,_⟩:=z;exact h) ⟨zJ _,Xm prS2 _,Zu hr2,Zo _ _,Zu hml,_,_,_,rfl⟩ ?_ ?_
    .rintro i x dl' S' nx ct ex' ⟨hi',pr',hu',hc',hl',u7,u8,u9,rfl⟩ hn;rw[zE] at ex';obtain⟨p,hp,rfl⟩:=zI.mp ex';have hii:=(zA.mp hp).1
     have ep:p=gt r (i:Int):=(O6 hp).symm;subst ep
     let qj:Nat->Nat->List Ct×LI:=λi j=>((cand i (gt r (i:Int))).take j).foldl (YD ns zero kn g) (shN ns zero kn g bs r i)
     have C0:=Q3 (ns:=ns) (zero:=zero) (k:=kn) (g:=g) sb lr i ()
     have C1:US ns zero kn g bs (2*i+1) (qj i 1):=C0.step (c:=⟨i,(gt r (i:Int)).1-1,false⟩) (by show i<_;lia) (by show 2*i+0=_;lia);refine⟨λj dl2 S2=>A6 (j<=2) (Pre S S2) (La S2 m2 (r.map frD)) (La S2 T2.length ((qj i j).1.map Ct.d)) (La S2 T.length ((qj i j).2.map frD)) (∃u9:Option D,dl2=[sR a,some (.tup [.str w,.int (kn:Int)]),sR b,sI g,sR T.length,sR m2,sR T2.length,sI (i:Int),some (frD (gt r (i:Int))),u9]),⟨⋯,pr',hu',hc',hl',_,rfl⟩,?_⟩;rintro j dl2 S2 ⟨hj,pr4,hu4,hc4,hl4,u9,rfl⟩;rcases j with _|_|j
     .skip
      refine⟨ns,ws,(shN ns zero kn g bs r i).2,zero,(⟨i,(gt r (i:Int)).1-1,false⟩:Ct),pr4 _ _ ha,hl4,hw,hk,by rw[C0.len];exact net,C0.spn,hg,hl,rfl,by rw[C0.len];show i<_;lia,by rw[C0.len];exact l4,λT5 pr5=>?_⟩;rw[zG];have iI:inR (((shN ns zero kn g bs r i).2.length:Nat):Int) (i:Int):=⟨(),by rw[C0.len];lia⟩
      have pr6:Pre S T5:=λn o e=>pr5 _ _ (pr4 _ _ e)
      cases hs:isS ns zero kn g (shN ns zero kn g bs r i).2 (⟨i,(gt r (i:Int)).1-1,false⟩:Ct) with
      | false=>
       refine⟨(),pr6,pr5 _ _ hu4,?_,?_,_,rfl⟩
       .rw[show qj i 1=YD ns zero kn g (shN ns zero kn g bs r i) ⟨i,(gt r (i:Int)).1-1,false⟩ from rfl,YD,if_neg (by rw[hs];decide)];exact pr5 _ _ hc4
       .rw[show qj i 1=YD ns zero kn g (shN ns zero kn g bs r i) ⟨i,(gt r (i:Int)).1-1,false⟩ from rfl,YD,if_neg (by rw[hs];decide)];exact pr5 _ _ hl4
      | true=>
       refine Y6 (n:=T2.length) (S1:=T5) (xs:=(shN ns zero kn g bs r i).1.map Ct.d) (y:=Ct.d (⟨i,(gt r (i:Int)).1-1,false⟩:Ct)) kId (pr5 _ _ hc4) kId (by rw[zC];have:=C0.few;lia) ?_;refine V9 (n:=T.length) (k:=(i:Int)) (j:=i) (xs:=(shN ns zero kn g bs r i).2.map frD) (v:=frD (Ct.back (⟨i,(gt r (i:Int)).1-1,false⟩:Ct) (gt (shN ns zero kn g bs r i).2 (i:Int)))) (λK hK=>?_) kId kId (Z2 (pr5 _ _ hl4) (Ne.symm nlc)) (by rw[zC,VA iI];rfl) ?_
       .refine Zz (o:=.lst ((shN ns zero kn g bs r i).2.map frD)) (Z2 (pr5 _ _ hl4) (Ne.symm nlc)) (ZP iI) ?_;exact⟨(⟨i,(gt r (i:Int)).1-1,false⟩:Ct),rfl,hK⟩
       rw[Uy];refine⟨(),Xj (Xj pr6 lmc) lml,Z2 (Z2 (pr5 _ _ hu4) (Ne.symm nuc)) (Ne.symm nul),?_,?_,_,rfl⟩
       .rw[show qj i 1=YD ns zero kn g (shN ns zero kn g bs r i) ⟨i,(gt r (i:Int)).1-1,false⟩ from rfl,YD,if_pos hs,yC];exact Z2 (Ys (pr5 _ _ hc4)) nlc
       .rw[show qj i 1=YD ns zero kn g (shN ns zero kn g bs r i) ⟨i,(gt r (i:Int)).1-1,false⟩ from rfl,YD,if_pos hs];exact Ys (Z2 (pr5 _ _ hl4) (Ne.symm nlc))
     .skip
      refine⟨ns,ws,(qj i 1).2,zero,(⟨i,(gt r (i:Int)).2+1,true⟩:Ct),pr4 _ _ ha,hl4,hw,hk,by rw[C1.len];exact net,C1.spn,hg,hl,rfl,by rw[C1.len];show i<_;lia,by rw[C1.len];exact l4,λT5 pr5=>?_⟩;rw[zG];have iI:inR (((qj i 1).2.length:Nat):Int) (i:Int):=⟨(),by rw[C1.len];lia⟩
      have pr6:Pre S T5:=λn o e=>pr5 _ _ (pr4 _ _ e)
      cases hs:isS ns zero kn g (qj i 1).2 (⟨i,(gt r (i:Int)).2+1,true⟩:Ct) with
      | false=>
       refine⟨(),pr6,pr5 _ _ hu4,?_,?_,_,rfl⟩
       .rw[show qj i 2=YD ns zero kn g (qj i 1) ⟨i,(gt r (i:Int)).2+1,true⟩ from rfl,YD,if_neg (by rw[hs];decide)];exact pr5 _ _ hc4
       .rw[show qj i 2=YD ns zero kn g (qj i 1) ⟨i,(gt r (i:Int)).2+1,true⟩ from rfl,YD,if_neg (by rw[hs];decide)];exact pr5 _ _ hl4
      | true=>
       refine Y6 (n:=T2.length) (S1:=T5) (xs:=(qj i 1).1.map Ct.d) (y:=Ct.d (⟨i,(gt r (i:Int)).2+1,true⟩:Ct)) kId (pr5 _ _ hc4) kId (by rw[zC];have:=C1.few;lia) ?_;refine V9 (n:=T.length) (k:=(i:Int)) (j:=i) (xs:=(qj i 1).2.map frD) (v:=frD (Ct.back (⟨i,(gt r (i:Int)).2+1,true⟩:Ct) (gt (qj i 1).2 (i:Int)))) (λK hK=>?_) kId kId (Z2 (pr5 _ _ hl4) (Ne.symm nlc)) (by rw[zC,VA iI];rfl) ?_
       .refine Zz (o:=.lst ((qj i 1).2.map frD)) (Z2 (pr5 _ _ hl4) (Ne.symm nlc)) (ZP iI) ?_;exact⟨(⟨i,(gt r (i:Int)).2+1,true⟩:Ct),rfl,hK⟩
       rw[Uy];refine⟨(),Xj (Xj pr6 lmc) lml,Z2 (Z2 (pr5 _ _ hu4) (Ne.symm nuc)) (Ne.symm nul),?_,?_,_,rfl⟩
       .rw[show qj i 2=YD ns zero kn g (qj i 1) ⟨i,(gt r (i:Int)).2+1,true⟩ from rfl,YD,if_pos hs,yC];exact Z2 (Ys (pr5 _ _ hc4)) nlc
       .rw[show qj i 2=YD ns zero kn g (qj i 1) ⟨i,(gt r (i:Int)).2+1,true⟩ from rfl,YD,if_pos hs];exact Ys (Z2 (pr5 _ _ hl4) (Ne.symm nlc))
     .have ej:j=0:=by lia
      subst ej;exact hn _ _ ⟨(),pr4,hu4,hc4,hl4,_,_,_,rfl⟩
    .rintro dl' S' ⟨hi',pr',hu',hc',hl',u7,u8,u9,rfl⟩;rw[zC] at hc' hl';exact h S' T2.length (.ref T.length) pr' lmc hc' (.inr ⟨_,T.length,rfl,rfl,hl',lml⟩)
noncomputable def XI:Fy 1 Zn.C 84 2 HH:=
 mM 0 (λhr hn=>(Zb (Td (ZF Zn.cl Zn.n_fates (dv 0)) (dv 1) (dv 2)))) λS Q ex=>by
  refine kR λn=>kI λi=>kD λd=>kN ?_
  rintro⟨a,b,j,es,fs,f,B,rfl,lj,o,h⟩;obtain⟨ds,k1,k2,_⟩:=B.ft;obtain⟨B2,cg⟩:=B.fate (i:=j) o k1;refine V9 (n:=b) (k:=(j:Int)) (j:=j) (xs:=ds) (v:=d) kId (λK hK=>by exact ZA (n:=n) kId B.ins rfl hK) kId k1 (VA (i:=(j:Int)) ⟨(),()⟩) ?_;exact h _ B2 cg
noncomputable def VP:Fy 1 Zn.C 84 1 Ha:=
 mM 0 (λhr hn=>(Zd (Yl (YO (ZF Zn.cl Zn.n_boxes (dv 0)) (dv 1))) (Zd (Yl (YO (ZF Zn.cl Zn.n_fates (dv 0)) ZJ)) (Zb (Zi (Zh Yx (ZO (Z7 Xo) rfl Xi Boot.«len» (Za (ZF Zn.cl Zn.n_boxes (dv 0)) Zf)) Ze)))))) λS Q ex=>by
  refine kR λn=>kR λm=>kN ?_
  rintro⟨a,b,es,fs,e,B,o,l9,h⟩;obtain⟨bs,h1,h2,_⟩:=B.bx;obtain⟨ds,k1,k2,_⟩:=B.ft;have ll:=B.len;obtain⟨B2,cg⟩:=B.put o h1 k1;refine Y6 (n:=a) (S1:=S) (xs:=bs) (y:=.ref m) (λK hK=>by exact ZA (n:=n) kId B.ins rfl hK) h1 kId () ?_;have n1:=Z2 (u:=.lst (bs++[.ref m])) B.ins (Ne.symm B.na.1)
  have w1:=Z2 (u:=.lst (bs++[.ref m])) k1 B.ne;refine Y6 (n:=b) (S1:=S.set a (.lst (bs++[.ref m]))) (xs:=ds) (y:=.non) (λK hK=>by exact ZA (n:=n) kId n1 rfl hK) w1 kId () ?_;refine ZA (n:=n) kId B2.ins rfl ?_;refine XC (Z2 (Ys h1) (Ne.symm B.ne)) ?_;have e1:(((bs++[D.ref m]).length:Nat):Int)-1=(es.length:Int):=by rw[yB,h2];show ((es.length+1:Nat):Int)-1=_;lia
  have z:=h _ B2 cg;rw[<- e1] at z;exact z
noncomputable def VD:Fy 2 Zn.C 84 3 Il:=
 mM 4 (λhr hn=>(Zd (Zj (i:=4) hn (ZC (ZF Zn.cl Zn.n_boxes (dv 0)) (dv 1))) (Zd (Zj (i:=5) hn (ZC (dv 4) (dv 2))) (Zd (Zj (i:=6) hn (Xa (C:=Zn.C) (dv 0) Zn.cl VP.m VP.ok (rmn hr) VP.b Yq (Za (Zg RI hr (pdv 4 (pdv 2 (Za (Zt (Za (piv 5) (pv 3))) Zf)))) Zf))) (Zd (Zj (i:=7) hn (Xa (C:=Zn.C) (dv 0) Zn.cl VP.m VP.ok (rmn hr) VP.b Yq (Za (Zg RI hr (pdv 4 (pdv 2 (Za (Zt (pdv 3 (Za (piv 5) Zf))) Zf)))) Zf))) (Zd (Yl (Xa (C:=Zn.C) (dv 0) Zn.cl XI.m XI.ok (rmn hr) XI.b Yq (pdv 1 (Za (Zt (Za ZS (pdv 2 (pdv 3 (pdv 6 (pv 7)))))) Zf)))) (Zb (Zi (Zt (pdv 6 (pv 7))))))))))) λS Q ex=>by
  refine kR λn=>kI λi=>kI λkk=>kI λp=>kN ?_
  rintro⟨a,b,j,k,es,fs,e,s,B,rfl,rfl,he,hs,l4,l9,h⟩;obtain⟨bs,m,h1,h2,o⟩:=B.box he;have lj:=(zA.mp he).1
  have lk:=(zA.mp hs).1
  have lf:=B.len;refine ZA (n:=n) kId B.ins rfl ?_;refine Zz (o:=.lst bs) h1 (YC (j:=j) h2) ?_;have es':atI (e.map frD) (k:Int)=some (frD s):=YC (j:=k) (by rw[zE,hs];rfl);refine Zz (o:=.lst (e.map frD)) o.2.2 es' ?_;refine Yw (n:=n) kId B.ins rfl ?_;refine⟨e,(s.1,p),o.2.2,⟨(),()⟩,l4,rfl,λT1 m1 p1 l1 h1'=>?_⟩;rw[zG] at h1';have na:a<S.length:=ZY h1;obtain⟨ds,k1,_⟩:=B.ft;have nb:b<S.length:=ZY k1;refine⟨a,b,es,fs,_,B.pre p1,⟨(),(),h1'⟩,(),λT2 B2 cg2=>?_⟩;refine Yw (n:=n) kId B2.ins rfl ?_;have o2:=(o.cg (.pre p1)).cg cg2;refine⟨e,(p,s.2),o2.2.2,⟨(),()⟩,l4,rfl,λT3 m3 p3 l3 h3'=>?_⟩;rw[zG] at h3';have:=Yj p1
  have:=cg2.1;refine⟨a,b,_,_,_,B2.pre p3,⟨(),(),h3'⟩,by rw[yB];show es.length+1<990;lia,λT4 B4 cg4=>?_⟩;have e5:(((es++[e.set k (s.1,p)]).length:Nat):Int)=(es.length:Int)+1:=by rw[yB];show ((es.length+1:Nat):Int)=_;lia
  rw[e5];refine Yw (n:=n) kId B4.ins rfl ?_;refine⟨a,b,j,_,_,.cut k p es.length (es.length+1),B4,rfl,by simp;lia,rfl,λT5 B5 cg5=>?_⟩;exact h T5 B5 ((((Cg.pre p1).trans cg2).trans (.pre p3)).trans (cg4.trans cg5))
noncomputable def RM:Fx 5 (top 85) GS:=
 mF 1 (λhr hn=>(Zd (Zj (i:=5) hn (Mq (ZC (dv 1) (dv 2)) Ze)) (Zb (Zi (Zt (Za ZS (pdv 2 (Za (Zg WY hr (Za (Wr (dv 0) Wi (Wm (Zh ZW (dv 5) Ze))) (pdv 3 (pv 4)))) Zf)))))))) λS Q ex=>by
  refine kR λnd=>kR λrw=>kI λr=>kR λbx=>kI λg=>kN ?_
  rintro⟨k,u,ns,ws,rows,e,row,R,hb,lu,se,rfl,hr,h⟩;have hi:row.2<ns.length:=R.ri row (zF hr);refine Zz (o:=.lst (rows.map rwD)) R.rw (YC (j:=k) (v:=rwD row) (by show (rows.map rwD)[k]?=_;rw[zE,hr];rfl)) ?_;refine Wj (n:=nd) (o:=.lst (ns.map Nd.d)) (lo:=none) (hi:=some ((row.2:Int)+1)) (S3:=S) kId kId kId R.nd ?_;have ec:Z8 (ns.map Nd.d) none (some ((row.2:Int)+1))=(ns.take (row.2+1)).map Nd.d:=by
   rw[Tc () (by rw[zC];lia),xT];rfl
  rw[show Zk (Ob.lst (ns.map Nd.d))=ns.map Nd.d from rfl,ec];refine⟨ns.take (row.2+1),ws.take (row.2+1),e,Zo _ _,Zu hb,by rw[lu];exact R.net.take _,se,R.hg,by rw[zK];have:=R.l70;lia,λT m pr lm hf=>?_⟩;exact h T m (λx o z=>pr _ _ (Zu z)) (by rw[yB] at lm;lia) hf
noncomputable def BG:Fx 11 (top 86) CO:=
 mF 6 (λhr hn=>(Zd (Ru (is:=[5,6]) PassesOwn.never rfl hn (Nms.cons (i:=5) rfl (Or.inl rfl) (by first|exact .inl rfl|exact .inr rfl) (Nms.cons (i:=6) rfl (Or.inl rfl) (by first|exact .inl rfl|exact .inr rfl) Nms.nil)) rfl rfl WM Boot.«enumerate» (pv 2) (Zd (Zj (i:=7) hn (Zg Fw hr (pdv 1 (pdv 6 (Za (ZC (ZF Zn.cl Zn.n_boxes (dv 0)) (dv 4)) (pv 3)))))) (Zd (Zv (Zp Yv (piv 7) ZJ (Zm _)) (Zd (Yl (Xa (C:=Zn.C) (dv 0) Zn.cl XI.m XI.ok (rmn hr) XI.b Yq (pdv 4 (Za (Zg RM hr (pdv 1 (pdv 2 (pdv 5 (Za (ZC (ZF Zn.cl Zn.n_boxes (dv 0)) (dv 4)) (pv 3)))))) Zf)))) (Zb (Zi (dv 4)))) Zy) (Zb (WV (i:=8) PassesOwn.never rfl hn rfl (Or.inl rfl) (piv 7) (Zd (Zj (i:=9) hn (Xa (C:=Zn.C) (dv 0) Zn.cl VD.m VD.ok (rmn hr) VD.b Yq (pdv 4 (Za (piv 8) (Za (piv 8) Zf))))) (Zd (Zj (i:=10) hn (ZC (dv 9) (piv 8))) (Zd (Yl (Xa (C:=Zn.C) (dv 0) Zn.cl XI.m XI.ok (rmn hr) XI.b Yq (pdv 10 (Za (Zg RM hr (pdv 1 (pdv 2 (pdv 5 (Za (ZC (ZF Zn.cl Zn.n_boxes (dv 0)) (dv 10)) (pv 3)))))) Zf)))) (Zb (Zj (i:=4) hn (ZC (dv 9) (Zh Yx Ze (piv 8))))))))))))) (Zb (Zi (dv 4))))) λS Q ex=>by
  refine kR λn=>kR λnd=>kR λrw=>kI λg=>kI λi=>kN ?_
  rintro⟨a,b,j,u,ns,ws,rows,b0,e,es,fs,fine,B,R,A,K,sb,lb,rfl,hw,he,l9,h⟩;have r4:=R.rl
  have u4:=R.u1;refine Tu (n:=rw) (xs:=rows.map rwD) (S1:=S) (λk dl' S'=>k<=rows.length/\E4 λ(es':List LI)(fs':List Ft)(j':Nat)(e':LI)=>A9 (Bk Zn.C S' n a b es' fs') (Bks g fine ns rows b0 es' fs') (Cg a b S S') (es'.length<=es.length+16*k) (Shd es j es' j') (fs'[j']?=some .wait) (es'[j']?=some e') (YV g ns k (rows.drop k) (es',fs',j')=YV g ns 0 rows (es,fs,j)) (E6 λ(x5 x6 x7 x8 x9 x10:Option D)=>dl'=[sR n,sR nd,sR rw,sI g,sI (j':Int),x5,x6,x7,x8,x9,x10])) kId (λk dl' S' z=>?_) ?_ ?_ ?_
  .obtain⟨_,es',fs',j',e',B',K',cg,_⟩:=z;exact(R.cg A cg).rw
  .exact⟨zJ _,es,fs,j,e,B,K,.refl,(),⟨zB _,λ_=>⟨rfl,rfl⟩⟩,hw,he,rfl,_,_,_,_,_,_,rfl⟩
  .rintro k x dl' S' nx ct hx ⟨hk,es',fs',j',e',B',K',cg,l',sh,hw',he',ev,x5,x6,x7,x8,x9,x10,rfl⟩ hn;rw[zE] at hx;obtain⟨row,hr,rfl⟩:=zI.mp hx;have hk':=(zA.mp hr).1
   have R':=R.cg A cg;rw[IV hr] at ev;have hi:row.2<ns.length:=R.ri row (zF hr);obtain⟨ll',oks⟩:=K'.ok sb;obtain⟨le',se'⟩:=oks e' (zF he');have net':ZE ((e'.length:Nat):Int) ns ws:=by rw[le',lb];exact R.net
   obtain⟨bs,m,h1,h2,o⟩:=B'.box he';have lj':=(zA.mp he').1
   have la:a<S'.length:=ZY h1
   have lb':b<S'.length:=by
    obtain⟨_,z,_⟩:=B'.ft;exact ZY z
   refine ZA (n:=n) kId B'.ins rfl ?_;refine Zz (o:=.lst bs) h1 (YC (j:=j') h2) ?_;refine⟨ns,ws,e',row.1,R'.nd,o.2.2,rww row.1,⟨(),()⟩,net',se',R.hg,R.l70,(),λT mc fd p1 lmc hmc hfd=>?_⟩;rw[zG] at hmc hfd;obtain⟨i1,i2,i3⟩:=M4 (zero:=row.1) net' se' R.hg hi;obtain⟨cs,ecs⟩:∃cs,cs=(shS ns row.1 row.2 e' g).1:=⟨_,rfl⟩;rw[<- ecs] at hmc i2 i3;have B1:=B'.pre p1
   have R1:=R'.pre p1
   have o1:=o.cg (.pre p1)
   have h11:=p1 _ _ h1;rcases hfd with ⟨rfl,hN⟩|⟨left,mf,rfl,hS,hmf,lmf⟩
   .refine Yw (n:=n) kId B1.ins rfl ?_;refine ZA (n:=n) kId B1.ins rfl ?_;refine Zz (o:=.lst bs) h11 (YC (j:=j') h2) ?_;refine⟨k,u,ns,ws,rows,e',row,R1,o1.2.2,(),se',rfl,hr,λT2 m2 p2 l2 h2'=>?_⟩;have:=Yj p1;refine⟨a,b,j',es',fs',.out k (Zl e' g (ns.take (row.2+1))),B1.pre p2,rfl,(),⟨m2,rfl,(),(),h2'⟩,λT3 B3 cg3=>?_⟩;exact h T3 es' _ j' B3 (K'.put hw' he' ⟨row,hr,rfl,i1 hN⟩) (cg.trans ((Cg.pre p1).trans ((Cg.pre p2).trans cg3))) () sh lj' (by rw[<- ev,LU he' hN])
   .refine WZ (n:=mc) (o:=.lst (cs.map Ct.d)) (λq dl2 S2=>∃(es2:List LI)(fs2:List Ft)(j2:Nat),Bk Zn.C S2 n a b es2 fs2/\Bks g fine ns rows b0 es2 fs2/\Cg a b T S2/\es2.length=es'.length+2*q/\(q=0->es2=es'/\j2=j')/\fs2[j2]?=some .wait/\es2[j2]?=some (ctA e' (cs.take q))/\q<=cs.length/\(es2,fs2,j2)=(cs.take q).foldl (YJ g ns k row.2) (es',fs',j')/\∃x8 x9 x10:Option D,dl2=[sR n,sR nd,sR rw,sI g,sI (j2:Int),sI (k:Int),some (rwD row),some (.tup [.ref mc,.ref mf]),x8,x9,x10]) ?_ (λq dl2 S2 z=>?_) ?_ ?_
    .exact⟨es',fs',j',B1,K',.refl,(),λ_=>⟨rfl,rfl⟩,hw',he',zJ _,rfl,_,_,_,rfl⟩
    .obtain⟨es2,fs2,j2,_,_,cg2,_⟩:=z;exact cg2.2 _ _ () () hmc
    .rintro q x dl2 S2 nx2 ct2 hx2 ⟨es2,fs2,j2,B2,K2,cg2,l2,s2,hw2,he2,q2,ev2,x8,x9,x10,rfl⟩ hn2;have hx3:(cs.map Ct.d)[q]?=some x:=hx2;rw[zE] at hx3;obtain⟨c,hc,hcx⟩:=zI.mp hx3;obtain⟨s',hs',hx4⟩:∃s':Int,(c.s=true/\s'=1\/c.s=false/\s'=0)/\x=.tup [.int (c.k:Int),.int c.p,.int s']:=⟨if c.s then 1 else 0,by cases c.s<;>simp,hcx.symm⟩;subst hx4;have lq:=(zA.mp hc).1;obtain⟨isc,lc⟩:=i3 q c hc;have lA:=IB e' (cs.take q)
     have oks2:=(K2.ok sb).1;obtain⟨y1,y2,y3,y4,y5,y6⟩:=K2.shave oks2 hw2 he2 (by rw[lA];exact lc) isc hr;refine Yw (n:=n) kId B2.ins rfl ?_;refine⟨a,b,j2,c.k,es2,fs2,_,_,B2,rfl,rfl,he2,y1,by rw[lA];lia,(),λT3 B3 cg3=>?_⟩;have R3:=R1.cg A (cg2.trans cg3);generalize hth:es2.length+(if c.s then 1 else 0)=th at y2 y3 y4 y5 y6;generalize hnj:es2.length+(if c.s then 0 else 1)=nj at y5 y6;have et:(s'=0/\(th:Int)=es2.length\/s'=1/\(th:Int)=(es2.length:Int)+1)/\(1-s'=0/\(nj:Int)=es2.length\/1-s'=1/\(nj:Int)=(es2.length:Int)+1):=by
      rcases hs' with ⟨ec,rfl⟩|⟨ec,rfl⟩<;>simp only[ec,if_true,xY,if_false] at hth hnj<;>lia
     refine ixT2 et.1 ?_;obtain⟨l3,oks3⟩:=y4.ok sb;obtain⟨bs3,m3,h13,h23,o3⟩:=B3.box y2;obtain⟨lt3,st3⟩:=oks3 _ (zF y2);have lth:=(zA.mp y3).1
     have la3:a<T3.length:=ZY h13
     have lb3:b<T3.length:=by
      obtain⟨_,z,_⟩:=B3.ft;exact ZY z
     refine Yw (n:=n) kId B3.ins rfl ?_;refine ZA (n:=n) kId B3.ins rfl ?_;refine Zz (o:=.lst bs3) h13 (YC (j:=th) h23) ?_;refine⟨k,u,ns,ws,rows,_,row,R3,o3.2.2,(),st3,rfl,hr,λT4 m4 p4 l4 h4=>?_⟩;have:=Yj p4;refine⟨a,b,th,_,_,.out k (Zl _ g (ns.take (row.2+1))),B3.pre p4,rfl,lth,⟨m4,rfl,(),(),h4⟩,λT5 B5 cg5=>?_⟩;refine ixT2 et.2 ?_;refine hn2 _ _ ⟨_,_,nj,B5,y4,cg2.trans (cg3.trans ((Cg.pre p4).trans cg5)),by simp;lia,λz=>absurd z (),y6,?_,(),?_,_,_,_,rfl⟩
     .rw[FZ hc];exact y5
     .rw[Yt hc,xA,<- ev2];show _=YJ g ns k row.2 (es2,fs2,j2) c;unfold YJ;dsimp only;rw[Y2 he2,hth,hnj]
    .rintro dl2 S2 ⟨es2,fs2,j2,B2,K2,cg2,l2,s2,hw2,he2,q2,ev2,x8,x9,x10,rfl⟩;refine hn _ _ ⟨(),es2,fs2,j2,_,B2,K2,cg.trans ((Cg.pre p1).trans cg2),?_,?_,hw2,he2,?_,_,_,_,_,_,_,rfl⟩
     .rw[show (Zk (.lst (cs.map Ct.d))).length=cs.length from zC ..] at l2;lia
     .refine⟨by have:=sh.1;lia,λz=>?_⟩;have q0:(Zk (.lst (cs.map Ct.d))).length=0:=by have:=sh.1;lia
      obtain⟨rfl,rfl⟩:=s2 q0;exact sh.2 z
     .rw[ev2,yM (by show cs.length<=(cs.map Ct.d).length;rw[zC];exact zB _),ecs,<- NW he' hS];exact ev
  .rintro dl' S' ⟨hk,es',fs',j',e',B',K',cg,l',sh,hw',he',ev,x5,x6,x7,x8,x9,x10,rfl⟩;rw[zC] at l';exact h S' es' fs' j' B' K' cg () sh (zA.mp he').1 (by rw[<- ev,List.drop_eq_nil_of_le (by rw[zC];exact zB _)];rfl)
noncomputable def O0:Fx 1 (top 53) GQ:=
 mF 0 (λhr hn=>(Zd (Zv (Zp (ZI hr) (dv 0) ZS (Zm _)) (Zb (Zi (NB (XO (ZI hr) (piv 1) Ze (Zm _)) (QR (XO (ZI hr) (piv 1) Ze (Zm _)))))) Zy) (Zb (Zi (XO Q2 (piv 1) Ze (Zm _)))))) λS Q ex=>by
  refine kS λ_=>kP λ_ _=>kN λh=>?_
  rcases h with ⟨rfl,h⟩|⟨rfl,h⟩
  .refine ifD (λc=>?_) (λc=>?_)
   .rw[decide_eq_true c,uB] at h;exact h
   .rw[decide_eq_false c,wC] at h;exact h
  .exact h
noncomputable def Kg:Fx 6 (top 87) K9:=
 mF 2 (λhr hn=>(Zd (Ru (is:=[5,6]) PassesOwn.never rfl hn (Nms.cons (i:=5) rfl (Or.inl rfl) (by first|exact .inl rfl|exact .inr rfl) (Nms.cons (i:=6) rfl (Or.inl rfl) (by first|exact .inl rfl|exact .inr rfl) Nms.nil)) rfl rfl WM Boot.«enumerate» (pv 1) (Zb (Zv (XJ (Zg Lq hr (Za (piv 6) (Za (ZC (dv 4) (piv 6)) Zf)))) (Zb (Zi (Zg RM hr (pdv 0 (pdv 1 (pdv 5 (pdv 2 (pv 3)))))))) Zy))) (Zd (Zv (XJ (ZO (Z7 (Qk rfl)) rfl R0 Boot.«all» (Za (XD (x:="row") (N:=["spans"]) (caps:=[4]) (ar:=Zw (top 87)) rfl rfl csc rfl ⋯ (dv 1) pt0 (λ_ _ _ _ _ _=>(Zg O0 hr (Za (piv 0) (Za (ZC (dv 1) (piv 0)) Zf))))) Zf))) (Zb (Zi (Zt (Za ZS (pv 4))))) Zy) (Zb (Zi ZJ))))) λS Q ex=>by
  refine kR λnd=>kR λrw=>kR λbx=>kI λg=>kR λsp=>kN ?_
  rintro⟨u,ns,ws,rows,e,R,hb,lu,se,hs,ho,hf,hn⟩;have r4:=R.rl;refine Tu (n:=rw) (xs:=rows.map rwD) (S1:=S) (λk dl' S'=>S=S'/\k<=rows.length/\(∀(i:Nat)(row:Bool×Nat),i<k->rows[i]?=some row->ibS ns row.1 row.2 e g=false)/\∃x5 x6:Option D,dl'=[sR nd,sR rw,sR bx,sI g,sR sp,x5,x6]) kId (λk dl' S' z=>z.1 ▸ R.rw) ⟨rfl,zJ _,λi row hi=>absurd hi (),_,_,rfl⟩ ?_ ?_
  .rintro k x dl' S' nx ct hx ⟨rfl,hk,hno,x5,x6,rfl⟩ hn2;rw[zE] at hx;obtain⟨row,hr,rfl⟩:=zI.mp hx;have hi:row.2<ns.length:=R.ri row (zF hr)
   have lk:=(zA.mp hr).1;refine Zz (o:=.lst ((Zl e g ns).map frD)) hs (ZP (vs:=Zl e g ns) (i:=(row.2:Int)) ⟨(),by rw[YX];lia⟩) ?_;have eb:ibS ns row.1 row.2 e g=brS row.1 (gt (Zl e g ns) (row.2:Int)):=by unfold ibS;rw[FW hi]
   have key:∀b:Bool,ibS ns row.1 row.2 e g=b->if b=true then (∃(k' u:Nat)(ns:List Nd)(ws:List Nat)(rows:List (Bool×Nat))(e:LI)(row:Bool×Nat),Sr S nd rw g ns ws rows u/\La S bx (e.map frD)/\e.length=u/\Spn 51 e/\(k:Int)=(k':Int)/\rows[k']?=some row/\∀(T:Sto)(m:Nat),Pre S T->S.length<=m->La T m ((Zl e g (ns.take (row.2+1))).map frD)->Q (.tup [.str "out",.int (k:Int),.ref m]) T) else nx [sR nd,sR rw,sR bx,sI g,sR sp,sI (k:Int),some (rwD row)] S:=λb hb'=>by
    cases b with
    | true=>
     rw[if_pos rfl];exact⟨k,u,ns,ws,rows,e,row,R,hb,lu,se,rfl,hr,λT m p l hm=>ho T k m row p l hr hb' hno hm⟩
    | false=>
     rw[if_neg zO];refine hn2 _ _ ⟨rfl,(),λi row' hi' hr'=>?_,_,_,rfl⟩;by_cases c:i=k
     .subst c;rw[hr] at hr';cases hr';exact hb'
     .exact hno i row' () hr'
   rcases row with ⟨_|_,rn⟩
   .exact .inr ⟨rfl,key _ eb⟩
   .exact .inl ⟨rfl,key _ eb⟩
  .rintro dl' S' ⟨rfl,hk,hno,x5,x6,rfl⟩;rw[zC] at hno;have nb:∀row∈rows,ibS ns row.1 row.2 e g=false:=λrow hr=>by
    obtain⟨i,hi⟩:=vA.mp hr;exact hno i row (zA.mp hi).1 hi
   refine XT (n:=rw) (S1:=S) (o:=.lst (rows.map rwD)) (λd=>match d with|.tup [.str w,.int at']=>.bl (suB (decide (w="zero")) (gt (Zl e g ns) at'))|_=>.non) kId R.rw (by show (rows.map rwD).length<=1000;rw[zC];lia) (λx hx S2 K pr hK=>?_) ?_
   .have hx':x∈rows.map rwD:=hx;obtain⟨⟨b,n⟩,hm,rfl⟩:=zH.mp hx';refine Zz (o:=.lst ((Zl e g ns).map frD)) (pr _ _ hs) (ZP (vs:=Zl e g ns) (i:=(n:Int)) ⟨(),by rw[YX];have:=R.ri _ hm;dsimp only at this;lia⟩) ?_;cases b
    .exact .inr ⟨rfl,hK⟩
    .exact .inl ⟨rfl,hK⟩
   .refine SG (n:=S.length) (o:=.lst _) (Zo _ _) (O4 ns e g rows) ?_;rw[Cj];cases es:suS ns rows e g with
    | true=>exact YQ (hf nb es _ Pre.refl.push)
    | false=>exact Y0 (hn nb es _ Pre.refl.push)
noncomputable def Fv:Fx 1 (top 57) L4:=
 mF 0 (λhr hn=>(Zb (Zi (XD (x:="row") (N:=[]) (caps:=[]) (ar:=Zw (top 57)) rfl rfl csc rfl ⋯ (dv 0) (λ_ _ _ _ _ _=>PL (Zp (ZI hr) (piv 0) ZS (Zm _))) (λ_ _ _ _ _ _=>(piv 0)))))) λS Q ex=>by
  refine kR λr=>kN ?_
  rintro⟨rows,hr,l9,h⟩;refine Ol (n:=r) (S1:=S) (o:=.lst (rows.map rwD)) (λd=>match d with|.tup [.str w,.int at']=>if w="zero" then some (.int at') else none|_=>none) kId hr (by show (rows.map rwD).length<=1000;rw[zC];lia) (λx hx S2 K pr hK=>?_) (λx hx y hy S2 K pr hK=>?_) ?_
  .have hx':x∈rows.map rwD:=hx;obtain⟨⟨b,n⟩,_,rfl⟩:=zH.mp hx';cases b
   .exact hK
   .exact hK
  .have hx':x∈rows.map rwD:=hx;obtain⟨⟨b,n⟩,_,rfl⟩:=zH.mp hx';cases b
   .exact absurd hy (by
     simp[rwD];intro z;exact absurd z ⋯)
   .cases hy;exact hK
  .have e:(Zk (.lst (rows.map rwD))).filterMap (λd=>match d with|.tup [.str w,.int at']=>if w="zero" then some (.int at') else none|_=>none)=(eqs rows).map wtD:=by
    show (rows.map rwD).filterMap _=_;unfold eqs;rw[List.filterMap_map,List.map_filterMap];congr 1;funext ⟨b,n⟩;cases b<;>rfl
   rw[e];exact h
noncomputable def MJ:Fx 1 (top 58) LX:=
 mF 0 (λhr hn=>(Zb (Zi (XD (x:="place") (N:=["each"]) (caps:=[0]) (ar:=Zw (top 58)) rfl rfl csc rfl ⋯ (dv 1) pt0 (λ_ _ _ _ _ _=>(ZC (dv 1) (dv 0))))))) λS Q ex=>by
  refine kR λe=>kR λp=>kN ?_
  rintro⟨xs,is,he,hp,l9,hi,h⟩;refine XT (n:=p) (S1:=S) (o:=.lst (is.map wtD)) (λd=>match d with|.int i=>xs.getD i.toNat .non|_=>.non) kId hp (by show (is.map wtD).length<=1000;rw[zC];lia) (λx hx S2 K pr hK=>?_) ?_
  .have hx':x∈is.map wtD:=hx;obtain⟨i,him,rfl⟩:=zH.mp hx';have hl:=hi i him;refine Zz (o:=.lst xs) (pr _ _ he) (YC (j:=i) (v:=xs.getD i .non) (by show xs[i]?=_;rw[zD hl];simp[hl])) ?_;exact hK
  .have e2:(Zk (.lst (is.map wtD))).map (λd=>match d with|.int i=>xs.getD i.toNat .non|_=>.non)=is.map λi=>xs.getD i .non:=by
    show (is.map wtD).map _=_;rw[zX];rfl
   rw[e2];exact h
noncomputable def Ck:Fy 1 Yg.C 42 4 Mg:=
 mM 0 (λhr hn=>(Zb (Zi (Zh F9 (Yu (Za (Zt (Za Ze (Za Ze Zf))) Zf)) (dv 3))))) λS Q ex=>by
  refine kR λn=>kR λw=>kR λs=>kI λqi=>kI λg=>kN ?_
  rintro⟨x,y,q,vs,sl,ds,hn,hw,hs,rows,sz,⟨rfl,hq⟩,ok,lv,s1,hg,h⟩;have sg:Sz 21 g:=Sz.of 1000000 ()
  have aZ:∀ys:List D,ys=(Y9 vs sl g q (Nd.number x y)).map frD->Q (.ref (S++[Ob.lst [frD (0,0)]]).length) ((S++[.lst [frD (0,0)]])++[.lst ys]):=λys e=>by
   subst e;exact h _ _ Pre.refl.push.push (by simp) (Zo _ _)
  refine F6 (n:=S.length) (k:=((q:Nat):Int)) (xs:=[frD (0,0)]) (Zo _ _) ⟨(),()⟩ (by simp;lia) ?_;refine aZ _ ?_;rw[zG,BD];unfold Y9;rw[zX];rfl
noncomputable def Bz:Fy 1 Yo.C 43 4 OX:=
 mM 0 (λhr hn=>(Zb (Zi (Qe (x:="k") (N:=["grid","self"]) (caps:=[4,0]) (ar:=Zw (XA (top 43) 4)) rfl rfl csc rfl ⋯ rfl XS (pv 3) pt0 (λ_ _ _ _ _ _=>(XB (Zp (ZI hr) (dv 0) (ZF Yo.cl Yo.n_place (dv 2)) (Zm _)) (Zt (pdv 1 (pv 1))) (Zt (Za Ze (Za Ze Zf))))))))) λS Q ex=>by
  refine kR λn=>kR λw=>kR λs=>kI λqi=>kI λg=>kN ?_
  rintro⟨k,q,vs,sl,ds,hn,hw,hs,rows,sz,⟨rfl,hq⟩,ok,lv,s1,hg,h⟩;have sg:Sz 21 g:=Sz.of 1000000 ()
  have aZ:∀ys:List D,ys=(Y9 vs sl g q (Nd.unknown k)).map frD->Q (.ref S.length) (S++[.lst ys]):=λys e=>by
   subst e;exact h _ _ Pre.refl.push (by simp) (Zo _ _)
  refine UP (j:=((q:Nat):Int)) (S1:=S) (λl=>frD (if (l:Int)=k then (g,g) else (0,0))) kId ⟨(),()⟩ (λl hl S2 K pr hK=>?_) ?_
  .refine ZA (n:=n) kId (pr _ _ hn) rfl ?_;refine ifD (λe=>?_) (λe=>?_)
   .rw[if_pos e] at hK;exact hK
   .rw[if_neg e] at hK;exact hK
  .refine aZ _ ?_;rw[zG];unfold Y9;rw[zX];rfl
noncomputable def EW:Fy 2 ZL.C 45 4 Ej:=
 mM 0 (λhr hn=>(Zb (Zi (Zg VJ hr (pdv 3 (pv 4)))))) λS Q ex=>by
  refine kR λ_=>kD λ_=>kD λ_=>kP λ_ _=>kP λ_ _=>kI λ_=>kN λh=>?_
  exact h
noncomputable def Qm {C:Addr}{c:Int->Int->Nd}{k:Nat}{sd:Sd}(f:Int×Int->Int×Int->Int×Int->Int×Int->Int->Int×Int)(p:Pr C c)(hl:∀vs sl g l i j,(c i j).sl vs sl g l=f (gt vs i) (gt vs j) (gs sl i l) (gs sl j l) g)(hs:∀(n:Nat)(x y p r:Int×Int)(g:Int)(S:Sto)(Q:DK) ex,(Sz 1400 x.1/\Sz 1400 x.2/\Sz 1400 y.1/\Sz 1400 y.2/\Sz 1400 p.1/\Sz 1400 p.2/\Sz 1400 r.1/\Sz 1400 r.2/\1<=g/\g<=1000000)->Q (frD (f x y p r g)) S->sd [.ref n,frD x,frD y,frD p,frD r,.int g] S Q ex)(d:Dmz C "slope" "Pair.slope" Rr Ss)(G_1:Fmz k C "slope_of_both" GA sd):Fmz (k+1) C "slope" Ss (SU c):=
 mkM d PY (λhr=>(Zd (VH (i:=5) PY.nd rfl (Or.inr rfl) (ZC (dv 1) (ZF p.cl p.o (dv 0)))) (Zd (VH (i:=6) PY.nd rfl (Or.inr rfl) (ZC (dv 1) (ZF p.cl p.t (dv 0)))) (Zb (Zi (Qi (x1:="a") (x2:="b") (N:=["x","y","grid","self"]) (caps:=[5,6,4,0]) (ar:=Zw Rr) rfl rfl W5 rfl rfl rfl ⋯ rfl UG Boot.«zip» (Za (ZC (dv 2) (ZF p.cl p.o (dv 0))) (Za (ZC (dv 2) (ZF p.cl p.t (dv 0))) Zf)) (λ_ _ _ _ _ _=>(Xa (C:=C) (dv 5) p.cl G_1.m G_1.ok (hr.mono (zB _)) G_1.b Yq (pdv 2 (pdv 3 (pdv 0 (pdv 1 (pv 4))))))))))))) λS Q ex=>by
  refine kR λn=>kR λw=>kR λs=>kI λqi=>kI λg=>kN ?_
  rintro⟨i,j,q,vs,sl,ds,hn,hw,h0,rows,sz,⟨rfl,hq⟩,ok,lv,s1,hg,h⟩;rw[p.b] at hn;rw[p.k] at ok;have aZ:∀ys:List D,ys=(Y9 vs sl g q (c i j)).map frD->Q (.ref S.length) (S++[.lst ys]):=λys e=>by
   subst e;exact h _ _ Pre.refl.push (by simp) (Zo _ _)
  refine ZA (n:=n) kId hn rfl ?_;refine Zz (o:=.lst (vs.map frD)) hw (ZP (i:=i) ⟨ok.1.1,by have:=ok.1.2;lia⟩) ?_;refine ZA (n:=n) kId hn rfl ?_;refine Zz (o:=.lst (vs.map frD)) hw (ZP (i:=j) ⟨ok.2.1,by have:=ok.2.2;lia⟩) ?_;obtain⟨a1,ea,_,ha⟩:=rows.at ok.1;obtain⟨a2,eb,_,hb⟩:=rows.at ok.2;obtain⟨la,za⟩:=sz i ok.1;obtain⟨lb,zb⟩:=sz j ok.2;have ci:=s1.at (i:=i) ⟨ok.1.1,by have:=ok.1.2;lia⟩
  have cj:=s1.at (i:=j) ⟨ok.2.1,by have:=ok.2.2;lia⟩;refine Tt (n:=a1) (n':=a2) (S1:=S) (xs:=(sl.getD i.toNat []).map frD) (ys:=(sl.getD j.toNat []).map frD) (λx y=>match x,y with|.tup [.int a,.int b],.tup [.int c,.int d]=>frD (f (gt vs i) (gt vs j) (a,b) (c,d) g)|_,_=>.non) (λK hK=>by
   refine ZA (n:=n) kId hn rfl ?_;refine Zz (o:=.lst ds) h0 ea ?_;refine ZA (n:=n) kId hn rfl ?_;exact Zz (o:=.lst ds) h0 eb hK) ha hb (by rw[zC,la];lia) (λk x y hx hy S2 K pr hK=>?_) ?_
  .rw[zE] at hx hy;obtain⟨p2,hp,rfl⟩:=zI.mp hx;obtain⟨r,hr,rfl⟩:=zI.mp hy;have kq:k<q:=by
    have:=(zA.mp hp).1;lia
   have e1:gs sl i k=p2:=by
    unfold gs;rw[zR,hp];rfl
   have e2:gs sl j k=r:=by
    unfold gs;rw[zR,hr];rfl
   have z1:=za k kq
   have z2:=zb k kq;rw[e1] at z1;rw[e2] at z2;refine Yw (n:=n) (fs:=[("one",.int i),("other",.int j)]) kId (pr _ _ hn) rfl ?_;exact hs _ _ _ _ _ _ _ _ _ ⟨ci.2.1.mono ⋯,ci.2.2.mono ⋯,cj.2.1.mono ⋯,cj.2.2.mono ⋯,z1.2.1.mono ⋯,z1.2.2.mono ⋯,z2.2.1.mono ⋯,z2.2.2.mono ⋯,hg.1,hg.2⟩ hK
  .refine aZ _ ?_;rw[tW];unfold Y9;rw[zX];rw[JG _ _ _ la lb];exact vB λl _=>(congrArg frD (hl ..)).symm
noncomputable def Dj:Dmz ZL.C "slope" "Pair.slope" Rr Ss:=dM
noncomputable def DB:=Qm (λ_ _ p r _=>(p.1+r.1,p.2+r.2)) OC (λ_ _ _ _ _ _=>rfl) (λ_ _ _ _ _ _ _ _ _ z h=>h) Dj EW
noncomputable def IK:Fy 2 ZN.C 46 4 Cb:=
 mM 0 (λhr hn=>(Zb (Zi (Zg W7 hr (pdv 3 (pv 4)))))) λS Q ex=>by
  refine kR λ_=>kD λ_=>kD λ_=>kP λ_ _=>kP λ_ _=>kI λ_=>kN λh=>?_
  exact h
noncomputable def Hk:Dmz ZN.C "slope" "Pair.slope" FI DS:=dM
noncomputable def EG:=Qm (λ_ _ p r _=>(p.1-r.2,p.2-r.1)) LH (λ_ _ _ _ _ _=>rfl) (λ_ _ _ _ _ _ _ _ _ z h=>h) Hk IK
noncomputable def Bm:Fy 3 ZM.C 47 4 Cd:=
 mM 0 (λhr hn=>(Zb (Zi (Zg VJ hr (Za (Zg UO hr (pdv 1 (pdv 4 (pv 5)))) (Za (Zg UO hr (pdv 2 (pdv 3 (pv 5)))) Zf)))))) λS Q ex=>by
  refine kR λ_=>kP λx1 x2=>kP λy1 y2=>kP λa b=>kP λc d=>kI λg=>kN ?_
  rintro⟨⟨h1,h2,h3,h4,h5,h6,h7,h8,g1,g2⟩,h⟩;have sg:Sz 21 g:=Sz.of 1000000 ();refine⟨⟨⟨ZD h1 h7,ZD h1 h8,ZD h2 h7,ZD h2 h8⟩,sg.fd ()⟩,λmn mx hc=>?_⟩;obtain⟨rfl,rfl⟩:=hc.eq;refine⟨⟨⟨ZD h3 h5,ZD h3 h6,ZD h4 h5,ZD h4 h6⟩,sg.fd ()⟩,λmn mx hc=>?_⟩;obtain⟨rfl,rfl⟩:=hc.eq;exact h
noncomputable def Bq:Dmz ZM.C "slope" "Pair.slope" JN Cp:=dM
noncomputable def GD:=Qm (λx y p r g=>((Yn x r g).1+(Yn y p g).1,(Yn x r g).2+(Yn y p g).2)) Na (λ_ _ _ _ _ _=>rfl) (λ_ _ _ _ _ _ _ _ _ z h=>⟨z,h⟩) Bq Bm
noncomputable def Jq:Fx 1 (top 22) FF:=
 mF 0 (λhr hn=>(Zb (Zi (Zt (Za (ZO (WW rfl) rfl WX Boot.«min» (Za (Zh ZK (piv 0) (dv 1)) (Za (Zh ZK (piv 0) (dv 1)) Zf))) (Za (ZO (Wf rfl) rfl XF Boot.«max» (Za (Zh ZK (piv 0) (dv 1)) (Za (Zh ZK (piv 0) (dv 1)) Zf))) Zf)))))) λS Q ex=>by
  refine kP λ_ _=>kI λ_=>kN ?_
  rintro⟨⟨h1,h2⟩,h⟩;exact⟨h1,h2,h1,h2,h⟩
noncomputable def Ky:Fy 3 ZQ.C 48 4 Nz:=
 mM 2 (λhr hn=>(Zd (Zj (i:=5) hn (Zg O3 hr (Za (ZC (dv 1) (ZF ZQ.cl ZQ.n_one (dv 0))) (Za (Zh Yx (ZF ZQ.cl ZQ.n_many (dv 0)) Ze) (pv 4))))) (Zd (VH (i:=6) hn rfl (Or.inr rfl) (Zg Jq hr (pdv 5 (Za (ZF ZQ.cl ZQ.n_many (dv 0)) Zf)))) (Zb (Zi (XD (x:="a") (N:=["steep","grid"]) (caps:=[6,4]) (ar:=Zw (XA (top 48) 4)) rfl rfl csc rfl ⋯ (ZC (dv 2) (ZF ZQ.cl ZQ.n_one (dv 0))) pt0 (λ_ _ _ _ _ _=>(Zg UO hr (pdv 1 (pdv 0 (pv 2))))))))))) λS Q ex=>by
  refine kR λn=>kR λw=>kR λs=>kI λqi=>kI λg=>kN ?_
  rintro⟨i,m,q,vs,sl,ds,hn,hw,hs,rows,sz,⟨rfl,hq⟩,ok,lv,s1,hg,h⟩;have sg:Sz 21 g:=Sz.of 1000000 ()
  have aZ:∀ys:List D,ys=(Y9 vs sl g q (Nd.power i m)).map frD->Q (.ref S.length) (S++[.lst ys]):=λys e=>by
   subst e;exact h _ _ Pre.refl.push (by simp) (Zo _ _)
  obtain⟨a1,ea,_,ha⟩:=rows.at ok.1;obtain⟨la,za⟩:=sz i ok.1;have ci:=s1.at (i:=i) ⟨ok.1.1,by have:=ok.1.2;lia⟩;obtain⟨ok1,m2,m6⟩:=ok;refine ZA (n:=n) kId hn rfl ?_;refine Zz (o:=.lst (vs.map frD)) hw (ZP (i:=i) ⟨ok1.1,by have:=ok1.2;lia⟩) ?_;refine ZA (n:=n) kId hn rfl ?_;refine⟨⟨(),(),ci.2.1.mono ⋯,ci.2.2.mono ⋯,hg.1,sg.mono ⋯⟩,λm' M' hP=>?_⟩;obtain⟨rfl,rfl⟩:=hP.eq ();have gp:(1:Int)<=g^((m-1).toNat-1):=yD ()
  have lo:=VG gp (P8 (gt vs i).1 (gt vs i).2 (m-1).toNat)
  have fl:=EL (gt vs i) (n:=m) () hg.1
  have p1:Sz 6000 ((gt vs i).1^(m-1).toNat):=(ci.2.1.pow _).mono ()
  have p2:Sz 6000 ((gt vs i).2^(m-1).toNat):=(ci.2.2.pow _).mono ()
  have pl:Sz 6000 (Y3 (gt vs i).1 (gt vs i).2 (m-1).toNat):=by
   unfold Y3;split
   .exact yJ ⋯
   .exact Wz p1 p2
  have sm:Sz 10 m:=Sz.of 6 ();refine ZA (n:=n) kId hn rfl ?_;refine⟨⟨ZD (pl.div gp) sm,ZD (Vm (Wl p1 p2) gp) sm⟩,?_⟩;have e1:(if -(-Wc (gt vs i).1 (gt vs i).2 (m-1).toNat/g^((m-1).toNat-1))*m<Y3 (gt vs i).1 (gt vs i).2 (m-1).toNat/g^((m-1).toNat-1)*m then -(-Wc (gt vs i).1 (gt vs i).2 (m-1).toNat/g^((m-1).toNat-1))*m else Y3 (gt vs i).1 (gt vs i).2 (m-1).toNat/g^((m-1).toNat-1)*m)=(Y1 (gt vs i) m g).1:=by
   rw[if_neg (by have z:(Y1 (gt vs i) m g).1<=(Y1 (gt vs i) m g).2:=fl;exact vP.mpr z)];rfl
  have e2:(if -(-Wc (gt vs i).1 (gt vs i).2 (m-1).toNat/g^((m-1).toNat-1))*m > Y3 (gt vs i).1 (gt vs i).2 (m-1).toNat/g^((m-1).toNat-1)*m then -(-Wc (gt vs i).1 (gt vs i).2 (m-1).toNat/g^((m-1).toNat-1))*m else Y3 (gt vs i).1 (gt vs i).2 (m-1).toNat/g^((m-1).toNat-1)*m)=(Y1 (gt vs i) m g).2:=by
   split
   .rfl
   .rename_i c;have z:¬ (Y1 (gt vs i) m g).1<(Y1 (gt vs i) m g).2:=c
    have z2:(Y1 (gt vs i) m g).1=(Y1 (gt vs i) m g).2:=by lia
    exact z2
  rw[e1,e2];have f1:Sz 6010 (Y1 (gt vs i) m g).1:=Rn (e:=10) (pl.div gp) () ()
  have f2:Sz 6010 (Y1 (gt vs i) m g).2:=Rn (e:=10) (Vm (Wl p1 p2) gp) () ();generalize hfc:Y1 (gt vs i) m g=fc at f1 f2;refine XT (n:=a1) (S1:=S) (o:=.lst ((sl.getD i.toNat []).map frD)) (λx=>match x with|.tup [.int a,.int b]=>frD (Yn fc (a,b) g)|_=>.non) (λK hK=>by
   refine ZA (n:=n) kId hn rfl ?_;exact Zz (o:=.lst ds) hs ea hK) ha (by show ((sl.getD i.toNat []).map frD).length<=1000;rw[zC,la];lia) (λx hx S2 K pr hK=>?_) ?_
  .have hx':x∈(sl.getD i.toNat []).map frD:=hx;obtain⟨p,hp,rfl⟩:=zH.mp hx';obtain⟨k,hk,ek⟩:=yP.mp hp;have z1:=za k ()
   have e1:gs sl i k=p:=by
    unfold gs;rw[zR,zD hk,ek];rfl
   rw[e1] at z1;refine⟨⟨⟨ZD f1 z1.2.1,ZD f1 z1.2.2,ZD f2 z1.2.1,ZD f2 z1.2.2⟩,sg.fd ()⟩,λmn mx hc=>?_⟩;obtain⟨rfl,rfl⟩:=hc.eq;exact hK
  .refine aZ _ ?_;show ((sl.getD i.toNat []).map frD).map _=_;rw[zX,Eg _ _ la];unfold Y9;rw[zX];subst hfc;rfl
noncomputable def LB:Fx 5 (top 55) Bw:=
 mF 3 (λhr hn=>(Zd (Zj (i:=3) hn (Zg WY hr (pdv 0 (pdv 1 (pv 2))))) (Zd (Zj (i:=4) hn (Yu Zf)) (Zd (WV (i:=5) PassesOwn.never rfl hn rfl (Or.inl rfl) (dv 0) (Zb (Yl (YO (dv 4) (QN (Zg Q5 hr (pv 5)) (YM Yg.cl Ck (rmn hr) (YM Yo.cl Bz (rmn hr) (YM ZL.cl DB (rmn hr) (YM ZN.cl EG (rmn hr) (YM ZM.cl GD (rmn hr) (YM ZQ.cl Ky (rmn hr) QI)))))) Yq (pdv 3 (pdv 4 (Za (ZO (Z7 Xo) rfl Xi Boot.«len» (pv 1)) (pv 2))))))))) (Zb (Zi (dv 4))))))) λS Q ex=>by
  refine kR λa=>kR λb=>kI λg=>kN ?_
  rintro⟨ns,ws,bs,ha,hb,net,sb,hq9,hg,hl,h⟩;have disp:∀v:Nd,∃C fs sd,v.oz=.ins C fs/\(C,sd)∈[(Yg.C,Mg),(Yo.C,OX),(ZL.C,Ke),(ZN.C,FL),(ZM.C,Bg),(ZQ.C,Nz)]/\fs.lookup ("slope":Str)=none/\∀(n w s:Nat)(q:Nat)(g:Int)(S:Sto)(Q:DK)(ex:Addr->Sto->Prop)(vs:LI)(sl:List LI)(ds:List D),S[n]?=some (v.oz)->La S w (vs.map frD)->La S s ds->Z4 S 0 ds sl->(∀i:Int,inR sl.length i->(sl.getD i.toNat []).length=q/\∀l,l<q->(gs sl i l).1<=(gs sl i l).2/\Sz 1100 (gs sl i l).1/\Sz 1100 (gs sl i l).2)->q<=900->v.ok sl.length q->sl.length<=vs.length->Spn 1000 vs->(Gg g)->(∀(T:Sto)(m:Nat),Pre S T->S.length<=m->La T m ((Y9 vs sl g q v).map frD)->Q (.ref m) T)->sd [.ref n,.ref w,.ref s,.int (q:Nat),.int g] S Q ex:=by
   intro v;cases v with
   | number x y=>exact⟨_,_,_,rfl,(.head _),rfl,λn w s q g S Q ex vs sl ds a1 a2 a3 a4 a5 a6 a7 a8 a9 b1 b2=>⟨x,y,q,vs,sl,ds,a1,a2,a3,a4,a5,⟨rfl,a6⟩,a7,a8,a9,b1,b2⟩⟩
   | unknown k=>exact⟨_,_,_,rfl,(.tail _ (.head _)),rfl,λn w s q g S Q ex vs sl ds a1 a2 a3 a4 a5 a6 a7 a8 a9 b1 b2=>⟨k,q,vs,sl,ds,a1,a2,a3,a4,a5,⟨rfl,a6⟩,a7,a8,a9,b1,b2⟩⟩
   | plus i j=>exact⟨_,_,_,rfl,(.tail _ (.tail _ (.head _))),rfl,λn w s q g S Q ex vs sl ds a1 a2 a3 a4 a5 a6 a7 a8 a9 b1 b2=>⟨i,j,q,vs,sl,ds,a1,a2,a3,a4,a5,⟨rfl,a6⟩,a7,a8,a9,b1,b2⟩⟩
   | minus i j=>exact⟨_,_,_,rfl,(.tail _ (.tail _ (.tail _ (.head _)))),rfl,λn w s q g S Q ex vs sl ds a1 a2 a3 a4 a5 a6 a7 a8 a9 b1 b2=>⟨i,j,q,vs,sl,ds,a1,a2,a3,a4,a5,⟨rfl,a6⟩,a7,a8,a9,b1,b2⟩⟩
   | times i j=>exact⟨_,_,_,rfl,(.tail _ (.tail _ (.tail _ (.tail _ (.head _))))),rfl,λn w s q g S Q ex vs sl ds a1 a2 a3 a4 a5 a6 a7 a8 a9 b1 b2=>⟨i,j,q,vs,sl,ds,a1,a2,a3,a4,a5,⟨rfl,a6⟩,a7,a8,a9,b1,b2⟩⟩
   | power i m=>exact⟨_,_,_,rfl,(.tail _ (.tail _ (.tail _ (.tail _ (.tail _ (.head _)))))),rfl,λn w s q g S Q ex vs sl ds a1 a2 a3 a4 a5 a6 a7 a8 a9 b1 b2=>⟨i,m,q,vs,sl,ds,a1,a2,a3,a4,a5,⟨rfl,a6⟩,a7,a8,a9,b1,b2⟩⟩
  refine⟨ns,ws,bs,ha,hb,net,sb,hg,hl,λT1 w pr1 lw hw=>?_⟩;have szw:=LJ net rfl sb hg
  have lf:(Zl bs g ns).length=ns.length:=YX _ _ _
  have spn:Spn 1000 (Zl bs g ns):=szw.spn λk hk=>by
   have z:=(net.w1 (i:=(k:Int)) ⟨(),()⟩).2
   rwa [zG] at z
  refine WZ (n:=a) (o:=.lst (ns.map Nd.d)) (λk dl' S'=>A4 (k<=ns.length) (Pre T1 S') (∃ds:List D,La S' T1.length ds/\Z4 S' (T1.length+1) ds (Z3 (Zl bs g ns) g bs.length (ns.take k))) (∃u:Option D,dl'=[sR a,sR b,sI g,sR w,sR T1.length,u])) ⟨zJ _,Pre.refl.push,⟨[],Zo _ _,Z4.nil⟩,_,rfl⟩ (λk dl' S' z=>by obtain⟨_,h,_⟩:=z;exact h _ _ (pr1 _ _ ha)) ?_ ?_
  .rintro k x dl' S' nx ct ex' ⟨hk,pr,⟨ds,hf,rows⟩,u,rfl⟩ hn;have ex2:(ns.map Nd.d)[k]?=some x:=ex';rw[zE] at ex2;obtain⟨v,hv,rfl⟩:=zI.mp ex2;have hk':=(zA.mp hv).1
   have ln:(Z3 (Zl bs g ns) g bs.length (ns.take k)).length=k:=by rw[UL,zK];lia
   have okv:v.ok (Z3 (Zl bs g ns) g bs.length (ns.take k)).length bs.length:=by rw[ln];exact(net.ok k v hv).1
   have slw:=Lf net szw lf hg k hk
   have ss:=slw.spn λi hi=>by
    have z:=(net.w1 (i:=(i:Int)) ⟨(),()⟩).2
    rwa [zG] at z
   obtain⟨C,fs,sd,eo,hm,hf2,go⟩:=disp v;have N1:=Zo S' (v.oz)
   have ld:ds.length=k:=by rw[rows.1,ln]
   have lt:=ZY hf;refine BH (n:=T1.length) (xs:=ds) kId hf (λK hK=>?_) ();refine QM (n:=S'.length) (C:=C) (sd:=sd) (fs:=fs) (S1:=S'++[v.oz]) (λK hK=>⟨v,rfl,by exact hK⟩) (by rw[<- eo];exact N1) hm hf2 ?_;refine XC (Zu (pr _ _ (pr1 _ _ hb))) ?_;rw[zC];refine go _ _ _ bs.length _ _ _ _ (Zl bs g ns) (Z3 (Zl bs g ns) g bs.length (ns.take k)) ds N1 (Zu (pr _ _ hw)) (Zu hf) ((rows.low (zJ _)).pre (Xm Pre.refl _)) ss hq9 okv () spn hg λT m prT lm hT=>?_
   have hf3:=prT _ _ (Zu hf);refine hK _ _ hf3 ?_;have lS:(S'++[v.oz]).length=S'.length+1:=by simp
   have rows3:Z4 T (T1.length+1) ds (Z3 (Zl bs g ns) g bs.length (ns.take k)):=rows.pre λi o e=>prT _ _ (Zu e)
   refine hn _ _ ⟨(),Xj (pr.trans λi o e=>prT _ _ (Zu e)) (zB _),⟨ds++[.ref m],Ys hf3,?_⟩,_,rfl⟩;rw[Yt hv,Qa];have r4:=rows3.snoc (a:=m) (r:=Y9 (Zl bs g ns) (Z3 (Zl bs g ns) g bs.length (ns.take k)) g bs.length v) () hT;exact r4.keep λx o hx e=>Z2 e ()
  .rintro dl' S' ⟨hk,pr,⟨ds,hf,rows⟩,u,rfl⟩;have e:ns.take (Zk (.lst (ns.map Nd.d))).length=ns:=by
    show ns.take (ns.map Nd.d).length=ns;rw[zC,yH]
   rw[e] at rows;refine h _ _ ds (pr1.trans pr) ?_ hf rows;exact Yj pr1
noncomputable def GJ:Fx 6 (top 66) IW:=
 mF 0 (λhr hn=>(Zb (Zi (Zg MJ hr (Za (Zg LB hr (pdv 0 (pdv 2 (pv 3)))) (pv 1)))))) λS Q ex=>by
  refine kR λa=>kR λp=>kR λb=>kI λg=>kN ?_
  rintro⟨ns,ws,bs,is,ha,hb,net,sb,hg,l7,b9,hp,i9,hi,h⟩;refine⟨ns,ws,bs,ha,hb,net,sb,b9,hg,l7,λT m ds pr lm hm rows=>?_⟩;have ld:ds.length=ns.length:=by rw[rows.1,UL]
  refine⟨ds,is,hm,pr _ _ hp,i9,λi him=>by rw[ld];exact hi i him,?_⟩;refine h _ _ (is.map λi=>ds.getD i .non) (λx o z=>Zu (pr _ _ z)) (Yj pr) (Zo _ _) ⟨by rw[zC,zC],λk d r hd hr=>?_⟩;rw[zE] at hd hr;obtain⟨i,hik,rfl⟩:=zI.mp hd;rw[hik] at hr;cases hr;have him:=hi i (zF hik)
  have h1:ds[i]?=some (ds.getD i .non):=by rw[zD (show i<ds.length by lia)];simp[show i<ds.length by lia]
  have ls:=UL (Zl bs g ns) g bs.length ns
  have h2:(Z3 (Zl bs g ns) g bs.length ns)[i]?=some ((Z3 (Zl bs g ns) g bs.length ns).getD i []):=by rw[zD (show i<(Z3 (Zl bs g ns) g bs.length ns).length by lia)];simp[show i<(Z3 (Zl bs g ns) g bs.length ns).length by lia]
  obtain⟨q,eq,_,sq⟩:=rows.2 i _ _ h1 h2;exact⟨q,eq,zJ _,Zu sq⟩
noncomputable def Up:Fx 1 (top 2) MW:=
 mF 0 (λhr hn=>(Zb (Zi (XB (Zp (ZI hr) (Zh Yr (dv 1) Ze) Ze (Zm _)) (XZ XU (dv 0)) (dv 0))))) λS Q ex=>by
  refine kI λi=>kI λk=>kN ?_
  rintro⟨n,rfl,h⟩;refine ifD (λe=>?_) (λe=>?_)
  .have z:sgn i n=-i:=by unfold sgn;rw[if_pos ()]
   rw[z] at h;exact h
  .have z:sgn i n=i:=by unfold sgn;rw[if_neg ()]
   rw[z] at h;exact h
noncomputable def V1:Fx 1 (top 3) Od:=
 mF 1 (λhr hn=>(Zd (Zj (i:=3) hn (Zh Ro (Wr (dv 0) Wi (Wm (dv 1))) (Wr (dv 0) (Wm (Zh ZW (dv 1) Ze)) Wi))) (Zb (Zi (XD (x:="entries") (N:=["column"]) (caps:=[2]) (ar:=Zw (top 3)) rfl rfl csc rfl ⋯ (dv 3) pt0 (λ_ _ _ _ _ _=>(Zh Ro (Wr (dv 0) Wi (Wm (dv 1))) (Wr (dv 0) (Wm (Zh ZW (dv 1) Ze)) Wi)))))))) λS Q ex=>by
  refine kR λm=>kI λr=>kI λc=>kN ?_
  rintro⟨M,i,j,n,rfl,rfl,⟨ds,hm,rows⟩,sq,hn,hi,hj,h⟩;have lm:ds.length=n+1:=by rw[rows.len];exact sq.1
  refine Wj (n:=m) (o:=.lst ds) (lo:=none) (hi:=some (i:Int)) kId kId kId hm ?_;refine Wj (n:=m) (o:=.lst ds) (lo:=some ((i+1:Nat):Int)) (hi:=none) kId kId kId (X6 hm) ?_;dsimp only[Zk];rw[MR,Oi];refine Sy (xs:=ds.take i) (ys:=ds.drop (i+1)) (X6 (Zo _ _)) (Zo _ _) (by simp;lia) ?_;have p0:Pre S (S++[.lst (ds.take i)]++[.lst (ds.drop (i+1))]++[.lst (ds.take i++ds.drop (i+1))]):=Pre.refl.push.push.push
  have r0:Rows (S++[.lst (ds.take i)]++[.lst (ds.drop (i+1))]++[.lst (ds.take i++ds.drop (i+1))]) 0 (ds.take i++ds.drop (i+1)) (M.take i++M.drop (i+1)):=((rows.take i).app (rows.drop (i+1))).pre p0;refine F4 (n:=(S++[Ob.lst (ds.take i)]++[Ob.lst (ds.drop (i+1))]).length) (λe=>e.take j++e.drop (j+1)) kId (Zo _ _) r0 (by simp;lia) (λa r S2 K hr ha hK=>?_) (λS2 ys p2 e2 r2=>?_)
  .have lr:r.length<=n+1:=by
    have z:=sq.2 r ((yE.mp hr).elim wY wZ);lia
   show dOp (Y4 UW) (VX (Xn 0) Q6 (P7 (Xn 1))) (VX (Xn 0) (P7 (dOp wAdd (Xn 1) (dC (D.int 1)))) Q6) [sR a,sI (j:Int)] S2 K;simp only[dOp];refine Wj (n:=a) (o:=.lst (r.map D.int)) (lo:=none) (hi:=some (j:Int)) kId kId kId ha ?_;refine Wj (n:=a) (o:=.lst (r.map D.int)) (lo:=some ((j+1:Nat):Int)) (hi:=none) kId kId kId (X6 ha) ?_;dsimp only[Zk];rw[MR,Oi];refine Sy (xs:=(r.map D.int).take j) (ys:=(r.map D.int).drop (j+1)) (X6 (Zo _ _)) (Zo _ _) (by simp;lia) ?_;refine hK _ _ Pre.refl.push.push.push (by simp) ?_;rw[yC,xT,List.map_drop];exact Zo _ _
  .exact h S2 _ (p0.trans p2) ⟨ys,e2,r2⟩
noncomputable def KL (Ww:Dfz "determinant" V0 Vr)(Uc:Fkz 0 "cofactor" VM QA):Fkz 1 "determinant" Vr Ih:=
 mkG Ww Ox (λhr=>(Zd (Zv (Zp (ZI hr) (ZO (Z7 Xo) rfl Xi Boot.«len» (pv 0)) Ze (Zm _)) (Zb (Zi Ze)) Zy) (Zb (Zi (ZO (Z7 (TC rfl)) rfl T8 Boot.«sum» (Za (RH (x1:="column") (x2:="entry") (N:=["matrix"]) (caps:=[0]) (ar:=Zw V0) rfl rfl W5 rfl rfl rfl ⋯ rfl WM Boot.«enumerate» (Za (piv 0) Zf) pt0 (λ_ _ _ _ _ _=>(Zh ZK (dv 1) (Zg Uc hr (pdv 2 (Za Ze (pv 0))))))) Zf)))))) λS Q ex=>by
  refine kR λm=>kN ?_
  rintro⟨M,n,hn,⟨ds,hm,rows⟩,sq,big,h⟩;have lm:ds.length=n:=by rw[rows.len];exact sq.1
  refine XC hm ?_;refine ifD (λe=>?_) (λe=>?_)
  .have n0:n=0:=by lia
   subst n0;exact⟨Pre.refl,.int _,h⟩
  .exact absurd (show ((ds.length:Nat):Int)=0 by lia) e
noncomputable def Ww:Dfz "determinant" V0 Vr:=dF
noncomputable def Vu:Dfz "cofactor" Pw VM:=dF
noncomputable def Fu:=KL Ww (Df.never (P:=e.P) (w:=e.w) (base:=e.base) 0 Vu)
noncomputable def SN (k:Nat)(hk:k<=3)(Vu:Dfz "cofactor" Pw VM)(Up:Fkz 1 "signed" JW MW)(Py:Fkz (2*k+1) "determinant" Vr (Tp k))(V1:Fkz 1 "without" DR Od):Fkz (2*k+1+1) "cofactor" VM (Tj k):=
 mkG Vu BE (λhr=>(Zb (Zi (Zg Up hr (Za (Zg Py hr (Za (Zg V1 hr (pdv 0 (pdv 1 (pv 2))) ()) Zf) (zB _)) (Za (Zh ZW (dv 1) (dv 2)) Zf)) ())))) λS Q ex=>by
  refine kR λm=>kI λr=>kI λc=>kN ?_
  rintro⟨M,i,j,n,hn,rfl,rfl,hi,hj,hm,sq,big,h⟩;refine⟨M,i,j,n,rfl,rfl,hm,sq,(),hi,hj,λT k pt mt=>?_⟩;refine⟨YA M i j,n,hn,mt,UM sq hi hj,big.minor i j,?_⟩;exact⟨i+j,(),pt,.int _,h⟩
noncomputable def EA:=SN 0 ⋯ Vu Up Fu V1
noncomputable def Tq (j:Nat)(hj:j<=3)(Ww:Dfz "determinant" V0 Vr)(Uc:Fkz (2*j+1+1) "cofactor" VM (Tj j)):Fkz (2*(j+1)+1) "determinant" Vr (Tp (j+1)):=
 mkG Ww Ox (λhr=>(Zd (Zv (Zp (ZI hr) (ZO (Z7 Xo) rfl Xi Boot.«len» (pv 0)) Ze (Zm _)) (Zb (Zi Ze)) Zy) (Zb (Zi (ZO (Z7 (TC rfl)) rfl T8 Boot.«sum» (Za (RH (x1:="column") (x2:="entry") (N:=["matrix"]) (caps:=[0]) (ar:=Zw V0) rfl rfl W5 rfl rfl rfl ⋯ rfl WM Boot.«enumerate» (Za (piv 0) Zf) pt0 (λ_ _ _ _ _ _=>(Zh ZK (dv 1) (Zg Uc hr (pdv 2 (Za Ze (pv 0))) (zB _))))) Zf)))))) λS Q ex=>by
  refine kR λm=>kN ?_
  rintro⟨M,n,hn,⟨ds,hm,rows⟩,sq,big,h⟩;have lm:ds.length=n:=by rw[rows.len];exact sq.1
  refine XC hm ?_;refine ifD (λe=>?_) (λe=>?_)
  .have n0:n=0:=by lia
   subst n0;exact⟨Pre.refl,.int _,h⟩
  .obtain⟨n,rfl⟩:∃k,n=k+1:=⟨n-1,()⟩;obtain⟨r0,M',rfl⟩:∃r M',M=r::M':=by
    match M,sq.1 with
    | r::M',_=>exact⟨r,M',rfl⟩
   have lr:r0.length=n+1:=sq.2 r0 (by simp);obtain⟨a,hd,_,ha⟩:=rows.get' (k:=0) (r:=r0) rfl;refine Oq (n:=a) (xs:=r0.map D.int) (λk d=>.int (r0.getD k 0*sgn (ZX n (YA (r0::M') 0 k)) k)) (λK hK=>?_) ha (by simp;lia) (λk x hx S2 K p2 hK=>?_) ?_
   .show dOp wIx (Xn 0) (dC (D.int 0)) [sR m] S λx S1=>K [x] S1
    exact HW hm hd hK
   .have hk:k<n+1:=by
     have:=(zA.mp hx).1;simpa [lr] using this
    obtain rfl:=Ks hx;show Tj j [.ref m,.int 0,.int (k:Int)] S2 (λy S3=>wMul (.int (r0.getD k 0)) y S3 K) (λ_ _=>False);refine⟨r0::M',0,k,n,(),rfl,rfl,zJ _,(),(show X0 S m (r0::M') from ⟨ds,hm,rows⟩).pre p2,sq,big,?_⟩;refine⟨Iz sq big () (),?_⟩;rw[uJ];exact hK
   .refine Pj (Zo _ _) (G4 n r0 M') ?_;exact⟨Pre.refl.push,.int _,h⟩
noncomputable def KU:=Tq 0 ⋯ Ww EA
noncomputable def IJ:=SN 1 ⋯ Vu Up KU V1
noncomputable def Hi:=Tq 1 ⋯ Ww IJ
noncomputable def Ey:=SN 2 ⋯ Vu Up Hi V1
noncomputable def BP:=Tq 2 ⋯ Ww Ey
noncomputable def Uc:=SN 3 ⋯ Vu Up BP V1
noncomputable def Py:=Tq 3 ⋯ Ww Uc
noncomputable def FP:Fx 9 (top 6) FJ:=
 mF 0 (λhr hn=>(Zb (Zi (Zh Ki (Zh ZK (Zh ZK (Zg Uc hr (pdv 0 (pdv 3 (pv 2)))) (dv 4)) (dv 4)) (dv 1))))) λS Q ex=>by
  refine kR λm=>kI λw=>kI λr=>kI λc=>kI λg=>kN ?_
  rintro⟨M,i,j,n,hn,rfl,rfl,hi,hj,hm,sq,big,hw,hg,h⟩;refine⟨M,j,i,n,hn,rfl,rfl,hj,hi,hm,sq,big,?_⟩;have e2:Sz 4140 (sgn (ZX n (YA M j i)) (j+i)):=RF (Pn (UM sq hj hi) (big.minor j i) ())
  have eg:Sz 20 g:=Sz.of 1000000 ();refine⟨ZD e2 eg,ZD (e2.mul eg) eg,⟨hw.1,hw.2.log hw.1⟩,?_⟩;exact h
noncomputable def IS:Fx 10 (top 7) Gs:=
 mF 0 (λhr hn=>(Zb (Zi (Qe (x:="column") (N:=["matrix","whole","row","grid"]) (caps:=[0,1,2,3]) (ar:=Zw (top 7)) rfl rfl csc rfl ⋯ rfl XS (Za (ZO (Z7 Xo) rfl Xi Boot.«len» (pv 0)) Zf) pt0 (λ_ _ _ _ _ _=>(Zg FP hr (pdv 1 (pdv 2 (pdv 3 (pdv 0 (pv 4))))))))))) λS Q ex=>by
  refine kR λm=>kI λw=>kI λr=>kI λg=>kN ?_
  rintro⟨M,i,n,hn,rfl,hi,hm,sq,big,hw,hg,h⟩;obtain⟨ds,hds,rows⟩:=id hm;have lm:ds.length=n+1:=by rw[rows.len];exact sq.1
  refine UP (j:=((n+1:Nat):Int)) (S1:=S) (λk=>.int (U4 M n w g i k)) (λK hK=>?_) () (λk hk S2 K p2 hK=>?_) ?_
  .refine XC hds ?_;rw[lm];exact hK
  .exact⟨M,i,k,n,hn,rfl,rfl,hi,(),hm.pre p2,sq,big,hw,hg,hK⟩
  .have e:(List.range ((n+1:Nat):Int).toNat).map (λk=>D.int (U4 M n w g i k))=(Vq M n w g i).map D.int:=by
    unfold Vq;rw[zX];rfl
   rw[e];exact h
noncomputable def Cy:Fx 11 (top 8) Jp:=
 mF 1 (λhr hn=>(Zd (VH (i:=2) hn rfl (Or.inr rfl) (Zg Py hr (pv 0))) (Zd (Zv (Zp (ZI hr) (dv 2) Ze (Zm _)) (Zb (Zi ZJ)) Zy) (Zb (Zi (Qe (x:="row") (N:=["matrix","whole","grid"]) (caps:=[0,2,1]) (ar:=Zw (top 8)) rfl rfl csc rfl ⋯ rfl XS (Za (ZO (Z7 Xo) rfl Xi Boot.«len» (pv 0)) Zf) pt0 (λ_ _ _ _ _ _=>(Zg IS hr (pdv 1 (pdv 2 (pdv 0 (pv 3)))))))))))) λS Q ex=>by
  refine kR λm=>kI λg=>kN ?_
  rintro⟨M,n,hn,hm,sq,big,hg,h0,h1⟩;obtain⟨ds,hds,rows⟩:=id hm;have lm:ds.length=n+1:=by rw[rows.len];exact sq.1
  refine⟨M,n+1,(),hm,sq,big,?_⟩;refine ifD (c:=ZX (n+1) M=0) (λc=>?_) (λc=>?_)
  .exact h0 c
  .refine FO (j:=n+1) (T0:=S) (Vq M n (ZX (n+1) M) g) (λK hK=>?_) () (λk S2 K hk p2 hK=>?_) (λS2 ys p2 e2 r2=>?_)
   .refine XC hds ?_;rw[lm];exact hK
   .refine⟨M,k,n,hn,rfl,(),hm.pre p2,sq,big,⟨c,Pn sq big ()⟩,hg,?_⟩;exact hK _ _ Pre.refl.push (zB _) (Zo _ _)
   .exact h1 c S2 _ ys p2 (zB _) e2 (r2.low (xN _))
noncomputable def Ll:Fx 1 (top 27) Ho:=
 mF 0 (λhr hn=>(Zb (Zi (Zh Yz (Zh ZW (piv 0) (piv 0)) Ze)))) λS Q ex=>by
  refine kP λ_ _=>kN λh=>?_
  exact h
noncomputable def Nn:Fx 2 (top 59) HX:=
 mF 0 (λhr hn=>(Zb (Zi (XD (x:="span") (N:=[]) (caps:=[]) (ar:=Zw (top 59)) rfl rfl csc rfl ⋯ (dv 0) pt0 (λ_ _ _ _ _ _=>(Zg Ll hr (pv 0))))))) λS Q ex=>by
  refine kR λs=>kN ?_
  rintro⟨vs,hs,l9,h⟩;refine XT (n:=s) (S1:=S) (o:=.lst (vs.map frD)) (λd=>match d with|.tup [.int a,.int b]=>.int ((a+b)/2)|_=>.non) kId hs (by show (vs.map frD).length<=1000;rw[zC];lia) (λx hx S2 K pr hK=>?_) ?_
  .have hx':x∈vs.map frD:=hx;obtain⟨p,_,rfl⟩:=zH.mp hx';exact hK
  .have e2:(Zk (.lst (vs.map frD))).map (λd=>match d with|.tup [.int a,.int b]=>.int ((a+b)/2)|_=>.non)=vs.map λp=>D.int (mid p):=by
    show (vs.map frD).map _=_;rw[zX];rfl
   rw[e2];exact h
noncomputable def PU:Fx 3 (top 60) IM:=
 mF 0 (λhr hn=>(Zb (Zi (XD (x:="place") (N:=[]) (caps:=[]) (ar:=Zw (top 60)) rfl rfl csc rfl ⋯ (Zg Nn hr (pv 0)) pt0 (λ_ _ _ _ _ _=>(Zt (pdv 0 (pv 0)))))))) λS Q ex=>by
  refine kR λb=>kN ?_
  rintro⟨vs,hb,l9,h⟩;refine XT (n:=S.length) (S1:=S++[.lst (vs.map λp=>.int (mid p))]) (o:=.lst (vs.map λp=>.int (mid p))) (λd=>.tup [d,d]) (λK hK=>⟨vs,hb,l9,hK⟩) (Zo _ _) (by show (vs.map _).length<=1000;rw[zC];lia) (λx hx S2 K pr hK=>by exact hK) ?_;refine h _ _ Pre.refl.push.push (by simp) ?_;have e:(Zk (.lst (vs.map λp=>D.int (mid p)))).map (λd=>D.tup [d,d])=(vs.map Yh).map frD:=by
   show (vs.map λp=>D.int (mid p)).map _=_;rw[zX];rw[zX];rfl
  rw[e];exact Zo _ _
noncomputable def QC:Fx 3 (top 61) KA:=
 mF 3 (λhr hn=>(Zd (Zj (i:=3) hn (Zt (Za Ze (Za Ze Zf)))) (Zd (IX (is:=[4,5]) PassesOwn.never rfl hn (Nms.cons (i:=4) rfl (Or.inl rfl) (by first|exact .inl rfl|exact .inr rfl) (Nms.cons (i:=5) rfl (Or.inl rfl) (by first|exact .inl rfl|exact .inr rfl) Nms.nil)) rfl rfl UG Boot.«zip» (pdv 0 (pv 1)) (Zb (Zj (i:=3) hn (Zg VJ hr (pdv 3 (Za (Zg UO hr (pdv 4 (pdv 5 (pv 2)))) Zf)))))) (Zb (Zi (dv 3)))))) λS Q ex=>by
  refine kR λa=>kR λb=>kI λg=>kN ?_
  rintro⟨us,vs,ha,hb,l6,z1,z2,hg,h⟩;have sg:Sz 21 g:=Sz.of 1000000 ();refine Je (n:=a) (n':=b) (xs:=us.map frD) (ys:=vs.map frD) (S:=S) (λk dl'=>∃u1 u2:Option D,dl'=[sR a,sR b,sI g,some (frD (YY g (us.take k) (vs.take k))),u1,u2]) kId ha hb ⟨_,_,rfl⟩ ?_ ?_
  .rintro k x y dl' nx ct hx hy ⟨u1,u2,rfl⟩ hn;rw[zE] at hx hy;obtain⟨p,hp,rfl⟩:=zI.mp hx;obtain⟨r,hr,rfl⟩:=zI.mp hy;have zp:=z1 _ (zF hp)
   have zr:=z2 _ (zF hr);refine⟨⟨⟨ZD zp.1 zr.1,ZD zp.1 zr.2,ZD zp.2 zr.1,ZD zp.2 zr.2⟩,sg.fd ()⟩,λmn mx hc=>?_⟩;obtain⟨rfl,rfl⟩:=hc.eq;refine hn _ ⟨some (frD p),some (frD r),?_⟩;rw[Nr g us vs k hp hr];rfl
  .rintro dl' ⟨u1,u2,rfl⟩;rw[zC,zC,ML];exact h
noncomputable def DP:Fx 4 (top 62) EM:=
 mG 2 (λhr hn=>(Zd (Zj (i:=5) hn (XB (Zp (ZI hr) (dv 0) (dv 1) (Zm _)) (Zt (pdv 4 (pv 4))) (Zt (Za Ze (Za Ze Zf))))) (Zd (Lb (x:="slant") (N:=["column"]) (caps:=[1]) (ar:=Zw (top 62)) rfl rfl csc rfl ⋯ (i:=6) hn rfl rfl (dv 3) pt0 (λ_ _ _ _ _ _=>(ZC (dv 0) (dv 1)))) (Zb (Zi (Zg W7 hr (pdv 5 (Za (Zg QC hr (pdv 2 (pdv 6 (pv 4)))) Zf)))))))) λS Q0 ex0=>by
  refine kI λk=>kI λc=>kR λt=>kR λs=>kI λg=>kN ?_
  rintro⟨q,kn,cn,ts,R,ds,rfl,rfl,ht,hs,rows,zr,hc,l6,r6,z1,hg,h⟩;have tail:∀aQ:Int×Int,aQ=(if kn=cn then (g,g) else (0,0))->∀K:DK,K (frD (XN g kn cn ts R)) (S++[.lst ((R.map λr=>r.getD cn (0,0)).map frD)])->True:=λ_ _ _ _=>trivial
  have col:∀(k:Nat)(r:LI),R[k]?=some r->atI (r.map frD) ((cn:Nat):Int)=some (frD (r.getD cn (0,0))):=λk r hr=>by
   have hl:=(zr r (zF hr)).1
   have z:=ZP (vs:=r) (i:=((cn:Nat):Int)) ⟨(),by rw[hl];lia⟩;rw[z];have e:gt r ((cn:Nat):Int)=r.getD cn (0,0):=by
    have ll:cn<r.length:=by rw[hl];exact hc
    unfold gt;rw[zG];simp[ll]
   rw[e]
  have bd:Bd 20000 (R.map λr=>r.getD cn (0,0)):=λp hp=>by
   obtain⟨r,hr,er⟩:=zH.mp hp;subst er;obtain⟨hl,b⟩:=zr r hr;have ll:cn<r.length:=by rw[hl];exact hc
   have e:r.getD cn (0,0)=r[cn]:=by simp[ll]
   rw[e];exact⟨(b _ (yO ll)).1.mono ⋯,(b _ (yO ll)).2.mono ⋯⟩
  have Ye:∀aQ:Int×Int,aQ=(if kn=cn then (g,g) else (0,0))->Gc S Q0 (.tup [.int (aQ.1-(YY g ts (R.map λr=>r.getD cn (0,0))).2),.int (aQ.2-(YY g ts (R.map λr=>r.getD cn (0,0))).1)]) (S++[.lst ((R.map λr=>r.getD cn (0,0)).map frD)]):=λaQ e=>by
   subst e;exact⟨Pre.refl.push,V2,h⟩
  refine ifD (λe=>?_) (λe=>?_)
  .refine MV (n:=s) (S1:=S) (o:=.lst ds) (λk d=>∃r,R[k]?=some r/\d=frD (r.getD cn (0,0))) kId hs (by show ds.length<=1000;rw[rows.1];lia) (λk x hx S2 K pr hK=>?_) (λxs lx hx=>?_)
   .have hx':ds[k]?=some x:=hx
    have hk:k<R.length:=by
     have:=(zA.mp hx').1;rw[rows.1] at this;exact this
    obtain⟨a,rfl,_,ha⟩:=rows.2 k x _ hx' (zD hk);refine Zz (o:=.lst _) (pr _ _ ha) (col k _ (zD hk)) ?_;exact hK _ ⟨_,zD hk,rfl⟩
   .have e2:xs=(R.map λr=>r.getD cn (0,0)).map frD:=by
     refine xU λk=>?_
     by_cases hk:k<xs.length
     .obtain⟨r,hr,e⟩:=hx k _ (zD hk);rw[zD hk,zE,zE,hr,e];rfl
     .have lx':xs.length=R.length:=by rw[lx];exact rows.1
      rw[yQ (),yQ (by simp;lia)]
    subst e2;refine⟨ts,_,Zu ht,Zo _ _,l6,z1,bd,hg,?_⟩;exact Ye (g,g) (by rw[if_pos ()])
  .refine MV (n:=s) (S1:=S) (o:=.lst ds) (λk d=>∃r,R[k]?=some r/\d=frD (r.getD cn (0,0))) kId hs (by show ds.length<=1000;rw[rows.1];lia) (λk x hx S2 K pr hK=>?_) (λxs lx hx=>?_)
   .have hx':ds[k]?=some x:=hx
    have hk:k<R.length:=by
     have:=(zA.mp hx').1;rw[rows.1] at this;exact this
    obtain⟨a,rfl,_,ha⟩:=rows.2 k x _ hx' (zD hk);refine Zz (o:=.lst _) (pr _ _ ha) (col k _ (zD hk)) ?_;exact hK _ ⟨_,zD hk,rfl⟩
   .have e2:xs=(R.map λr=>r.getD cn (0,0)).map frD:=by
     refine xU λk=>?_
     by_cases hk:k<xs.length
     .obtain⟨r,hr,e⟩:=hx k _ (zD hk);rw[zD hk,zE,zE,hr,e];rfl
     .have lx':xs.length=R.length:=by rw[lx];exact rows.1
      rw[yQ (),yQ (by simp;lia)]
    subst e2;refine⟨ts,_,Zu ht,Zo _ _,l6,z1,bd,hg,?_⟩;exact Ye (0,0) (by rw[if_neg ()])
noncomputable def Bc:Fx 5 (top 63) BJ:=
 mG 5 (λhr hn=>(Zd (VH (i:=6) hn rfl (Or.inr rfl) (XD (x:="entry") (N:=[]) (caps:=[]) (ar:=Zw (top 63)) rfl rfl csc rfl ⋯ (dv 3) pt0 (λ_ _ _ _ _ _=>(Zt (pdv 0 (pv 0)))))) (Zd (Zj (i:=7) hn (Zg PU hr (pv 1))) (Zd (Zj (i:=8) hn (Zg W7 hr (Za (ZC (dv 7) (dv 0)) (Za (Zg QC hr (pdv 6 (pdv 4 (pv 2)))) Zf)))) (Zd (QU (x:="column") (N:=["k","turns","slants","grid"]) (caps:=[0,6,5,2]) (ar:=Zw (top 63)) rfl rfl csc rfl ⋯ (i:=9) hn rfl rfl rfl XS (Za (ZO (Z7 Xo) rfl Xi Boot.«len» (pv 1)) Zf) pt0 (λ_ _ _ _ _ _=>(Zg DP hr (pdv 1 (pdv 0 (pdv 2 (pdv 3 (pv 4)))))))) (Zd (Jr (x1:="span") (x2:="centre") (N:=[]) (caps:=[]) (ar:=Zw (top 63)) rfl rfl W5 rfl rfl rfl ⋯ (i:=10) hn rfl rfl rfl UG Boot.«zip» (pdv 1 (pv 7)) (λ_ _ _ _ _ _=>(Zg W7 hr (pdv 0 (pv 1))))) (Zb (Zi (Zg VJ hr (pdv 8 (Za (Zg QC hr (pdv 9 (pdv 10 (pv 2)))) Zf))))))))))) λS Q0 ex0=>by
  refine kI λki=>kR λb=>kI λg=>kR λe=>kR λt=>kR λs=>kN ?_
  rintro⟨k,box,aA,es,R,ds,rfl,hk,he,e4,ze,hb,ht,hs,rows,zr,bl,r4,t4,zb,zt,hg,h⟩;have bdE:Bd 20000 (es.map λx=>(x,x)):=λp hp=>by
   obtain⟨x,hx,rfl⟩:=zH.mp hp;exact⟨(ze x hx).mono ⋯,(ze x hx).mono ⋯⟩
  have bdT:Bd 20000 aA:=λp hp=>⟨(zt p hp).1.mono ⋯,(zt p hp).2.mono ⋯⟩
  have lE:(es.map λx=>(x,x)).length<=60:=by rw[zC];lia
  refine XT (n:=e) (S1:=S) (o:=.lst (es.map D.int)) (λd=>.tup [d,d]) kId he (by show (es.map D.int).length<=1000;rw[zC];lia) (λx hx S2 K pr hK=>by exact hK) ?_;have eE:(Zk (.lst (es.map D.int))).map (λd=>D.tup [d,d])=(es.map λx=>(x,x)).map frD:=by
   show (es.map D.int).map _=_;rw[zX];rw[zX];rfl
  rw[eE];have T0:=Zo S (.lst ((es.map λx=>(x,x)).map frD));refine⟨box,Zu hb,(),λT m pr lm hm=>?_⟩;have P0:Pre S T:=λx o z=>pr _ _ (Zu z)
  have hT:=pr _ _ T0
  have kc:inR (((box.map Yh).length:Nat):Int) (k:Int):=⟨(),by rw[zC];lia⟩
  have ec:gt (box.map Yh) (k:Int)=Yh (gt box k):=by
   unfold gt;rw[zG];simp[hk]
  have ac:=ZP kc;rw[ec] at ac;refine Zz (o:=.lst ((box.map Yh).map frD)) hm ac ?_;refine⟨_,aA,hT,P0 _ _ ht,lE,bdE,bdT,hg,?_⟩;have lk:∀c:Nat,c<box.length->∀(S2:Sto)(K:DK),Pre T S2->K (frD (XN g k c (es.map λx=>(x,x)) R)) S2->∃(q kn cn:Nat)(ts:LI)(R':List LI)(ds':List D),((k:Nat):Int)=(kn:Nat)/\((c:Nat):Int)=(cn:Nat)/\La S2 S.length (ts.map frD)/\La S2 s ds'/\Z4 S2 0 ds' R'/\(∀r∈R',r.length=q/\Bd 2000 r)/\cn<q/\ts.length<=60/\R'.length<=60/\Bd 20000 ts/\(Gg g)/\K (frD (XN g kn cn ts R')) S2:=λc hc S2 K p2 hK=>⟨box.length,k,c,_,R,ds,rfl,rfl,p2 _ _ hT,p2 _ _ (P0 _ _ hs),rows.pre λx o z=>p2 _ _ (P0 _ _ z),zr,hc,lE,(),bdE,hg,hK⟩
  refine UP (j:=((box.length:Nat):Int)) (S1:=T) (λc=>frD (XN g k c (es.map λx=>(x,x)) R)) (λK hK=>by
   refine XC (P0 _ _ hb) ?_;rw[zC];exact hK) ⟨(),()⟩ (λc hc S2 K p2 hK=>lk c () S2 K p2 hK) ?_
  rw[zG];have eL:((List.range box.length).map λc=>frD (XN g k c (es.map λx=>(x,x)) R))=((List.range box.length).map λc=>XN g k c (es.map λx=>(x,x)) R).map frD:=by
   rw[zX];rfl
  rw[eL];have T1:=Zo T (.lst (((List.range box.length).map λc=>XN g k c (es.map λx=>(x,x)) R).map frD));refine Tt (n:=b) (n':=m) (S1:=T++[.lst (((List.range box.length).map λc=>XN g k c (es.map λx=>(x,x)) R).map frD)]) (xs:=box.map frD) (ys:=(box.map Yh).map frD) (λx y=>match x,y with|.tup [.int a,.int b],.tup [.int c,.int d]=>.tup [.int (a-d),.int (b-c)]|_,_=>.non) kId (Zu (P0 _ _ hb)) (Zu hm) (by rw[zC];lia) (λj x y hx hy S2 K p2 hK=>?_) ?_
  .rw[zE] at hx hy;obtain⟨p,hp,rfl⟩:=zI.mp hx;obtain⟨r,hr,rfl⟩:=zI.mp hy;exact hK
  have eW:List.zipWith (λx y=>match x,y with|.tup [.int a,.int b],.tup [.int c,.int d]=>.tup [.int (a-d),.int (b-c)]|_,_=>.non) (box.map frD) ((box.map Yh).map frD)=(box.map λp=>Vx p (Yh p)).map frD:=by
   rw[zX,tW,zX,List.zipWith_self];rfl
  rw[eW];have zm:Bd 62 (box.map λp=>Vx p (Yh p)):=λp hp=>by
   obtain⟨x,hx,rfl⟩:=zH.mp hp;have z:=zb x hx
   have zmid:=Np z.1 z.2;exact(Mj (B:=60) (C:=61) z ⟨zmid,zmid⟩).imp (λz=>z.mono ⋯) (λz=>z.mono ⋯)
  have zl:Bd 20000 ((List.range box.length).map λc=>XN g k c (es.map λx=>(x,x)) R):=λp hp=>by
   obtain⟨c,hc,rfl⟩:=zH.mp hp;have hc':=yT.mp hc
   have bR:Bd 2000 (R.map λr=>r.getD c (0,0)):=λp hp=>by
    obtain⟨r,hr,er⟩:=zH.mp hp;subst er;obtain⟨hl,b⟩:=zr r hr;have ll:c<r.length:=by rw[hl];exact hc'
    have e:r.getD c (0,0)=r[c]:=by simp[ll]
    rw[e];exact b _ (yO ll)
   have bE:Bd 4000 (es.map λx=>(x,x)):=λp hp=>by
    obtain⟨x,hx,rfl⟩:=zH.mp hp;exact⟨ze x hx,ze x hx⟩
   have z:=Ig hg.1 bE bR lE
   have sg:Sz 21 g:=Sz.of 1000000 ();unfold XN;have w:Sz 21 (if k=c then (g,g) else (0,0)).1/\Sz 21 (if k=c then (g,g) else (0,0)).2:=by
    split
    .exact⟨sg,sg⟩
    .exact⟨yJ ⋯,yJ ⋯⟩
   exact(Mj w z).imp (λz=>z.mono ⋯) (λz=>z.mono ⋯)
  refine⟨_,_,Zu T1,Zo _ _,by rw[zC,tV];lia,zl,λp hp=>⟨(zm p hp).1.mono ⋯,(zm p hp).2.mono ⋯⟩,hg,?_⟩;exact⟨λx o z=>Zu (Zu (P0 _ _ z)),V2,h⟩
noncomputable def Ka:Fx 6 (top 64) F2:=
 mF 0 (λhr hn=>(Zb (Zi (RH (x1:="k") (x2:="entries") (N:=["box","grid","thin","slants"]) (caps:=[0,1,3,4]) (ar:=Zw (top 64)) rfl rfl W5 rfl rfl rfl ⋯ rfl WM Boot.«enumerate» (pv 2) pt0 (λ_ _ _ _ _ _=>(Zg Bc hr (pdv 0 (pdv 2 (pdv 3 (pdv 1 (pdv 4 (pv 5)))))))))))) λS Q ex=>by
  refine kR λb=>kI λg=>kR λu=>kR λt=>kR λs=>kN ?_
  rintro⟨box,aA,M,ms,R,ds,hu,mi,lM,zM,hb,ht,hs,rows,zr,bl,r4,t4,zb,zt,hg,h⟩;refine Oq (n:=u) (S1:=S) (xs:=ms) (λk d=>frD (V6 g box aA R k (M.getD k []))) kId hu (by rw[mi.1];lia) (λk x hx S2 K pr hK=>?_) ?_
  .have hk:k<M.length:=by
    have:=(zA.mp hx).1;rw[mi.1] at this;exact this
   obtain⟨a,rfl,ha⟩:=mi.2 k x _ hx (zD hk);have eM:M.getD k []=M[k]:=by simp[hk]
   rw[eM] at hK;have z:=zM _ (yO hk);exact⟨k,box,aA,M[k],R,ds,rfl,(),pr _ _ ha,z.1,z.2,pr _ _ hb,pr _ _ ht,pr _ _ hs,rows.pre pr,zr,bl,r4,t4,zb,zt,hg,hK⟩
  .have e:(ms.mapIdx λk d=>frD (V6 g box aA R k (M.getD k [])))=(M.mapIdx λk es=>V6 g box aA R k es).map frD:=by
    refine xU λk=>?_
    rw[tX,zE,tX];by_cases hk:k<M.length
    .rw[zD (show k<ms.length by rw[mi.1];exact hk),zD hk];simp[hk]
    .rw[yQ (by rw[mi.1];lia),yQ (show M.length<=k by lia)];rfl
   rw[e];exact h
noncomputable def KG:Fx 5 (top 65) Ik:=
 mF 0 (λhr hn=>(Zb (Zi (Zg MJ hr (Za (Zg WY hr (pdv 0 (Za (Zg PU hr (pv 2)) (pv 3)))) (pv 1)))))) λS Q ex=>by
  refine kR λa=>kR λp=>kR λb=>kI λg=>kN ?_
  rintro⟨ns,ws,bs,is,ha,hb,net,sb,hg,l7,b9,hp,i9,hi,h⟩;refine⟨bs,hb,b9,λT m pr lm hm=>?_⟩;refine⟨ns,ws,bs.map Yh,pr _ _ ha,hm,by rw[zC];exact net,RK sb,hg,l7,λT1 m1 pr1 lm1 h1=>?_⟩;refine⟨_,is,h1,pr1 _ _ (pr _ _ hp),i9,λi him=>by rw[zC,YX];exact hi i him,?_⟩;have e:(is.map λi=>((Zl (bs.map Yh) g ns).map frD).getD i .non)=(is.map λ(i:Nat)=>gt (Zl (bs.map Yh) g ns) i).map frD:=by
   rw[zX];refine vB λi him=>?_
   have hl:i<(Zl (bs.map Yh) g ns).length:=by rw[YX];exact hi i him
   show _=frD (gt (Zl (bs.map Yh) g ns) (i:Int));unfold gt;rw[zG];simp[hl]
  rw[e];refine h _ _ (λx o z=>Zu (pr1 _ _ (pr _ _ z))) ?_ (Zo _ _);have:=Yj pr
  have:=Yj pr1;lia
noncomputable def Jy:Fx 1 (top 25) KY:=
 mF 0 (λhr hn=>(Zb (Zi (NB (XO YU (piv 1) (piv 0) (Zm _)) (QR (XO YU (piv 0) (piv 1) (Zm _))))))) λS Q ex=>by
  refine kP λ_ _=>kP λ_ _=>kN λh=>?_
  refine ifD (λe=>?_) (λe=>?_)
  .rw[decide_eq_true e,uB] at h;exact h
  .rw[decide_eq_false e,wC] at h;exact h
noncomputable def Hj:Fx 2 (top 68) BF:=
 mG 0 (λhr hn=>(Zb (Zi (ZO (Z7 (Qk rfl)) rfl R0 Boot.«all» (Za (Qi (x1:="new") (x2:="old") (N:=[]) (caps:=[]) (ar:=Zw (top 68)) rfl rfl W5 rfl rfl rfl ⋯ rfl UG Boot.«zip» (pdv 0 (pv 1)) (λ_ _ _ _ _ _=>(Zg Jy hr (pdv 0 (pv 1))))) Zf))))) λS Q0 ex0=>by
  refine kR λm=>kR λn=>kN ?_
  rintro⟨us,vs,h1,h2,hl,h⟩;refine Tt (n:=m) (n':=n) (S1:=S) (xs:=us.map frD) (ys:=vs.map frD) dpW kId h1 h2 (by rw[zC];exact hl) (λk x y hx hy S2 K pr hK=>?_) ?_
  .obtain⟨p,_,rfl⟩:=zH.mp (zF hx);obtain⟨q,_,rfl⟩:=zH.mp (zF hy);exact hK
  .refine SG (n:=S.length) (o:=.lst _) (bs:=List.zipWith Qs us vs) (Zo _ _) (JY us vs) ?_;exact⟨Pre.refl.push,.bl _,h⟩
noncomputable def Gb:Fx 2 (top 67) El:=
 mG 0 (λhr hn=>(Zb (Zi (ZO (Z7 (Qk rfl)) rfl R0 Boot.«all» (Za (XD (x:="row") (N:=["spans"]) (caps:=[1]) (ar:=Zw (top 67)) rfl rfl csc rfl ⋯ (dv 0) (λ_ _ _ _ _ _=>PL (Zp (ZI hr) (piv 0) ZS (Zm _))) (λ_ _ _ _ _ _=>(Zg O0 hr (Za (piv 0) (Za (ZC (dv 1) (piv 0)) Zf))))) Zf))))) λS Q0 ex0=>by
  refine kR λr=>kR λs=>kN ?_
  rintro⟨rows,vs,hr,hs,l9,hi,h⟩;refine Ol (n:=r) (S1:=S) (o:=.lst (rows.map rwD)) (λd=>match d with|.tup [.str w,.int at']=>if w="least" then some (.bl (decide (0<=(gt vs at').1))) else none|_=>none) kId hr (by show (rows.map rwD).length<=1000;rw[zC];lia) (λx hx S2 K pr hK=>?_) (λx hx y hy S2 K pr hK=>?_) ?_
  .have hx':x∈rows.map rwD:=hx;obtain⟨⟨b,n⟩,_,rfl⟩:=zH.mp hx';cases b
   .exact hK
   .exact hK
  .have hx':x∈rows.map rwD:=hx;obtain⟨⟨b,n⟩,hm,rfl⟩:=zH.mp hx';cases b
   .cases hy;refine Zz (o:=.lst (vs.map frD)) (pr _ _ hs) (ZP (vs:=vs) (i:=(n:Int)) ⟨(),by have:=hi _ hm;dsimp only at this;lia⟩) ?_;exact .inr ⟨rfl,hK⟩
   .exact absurd hy (by
     simp[rwD];intro z;exact absurd z ⋯)
  .refine SG (n:=S.length) (o:=.lst _) (Zo _ _) (QS vs rows) ?_;rw[<- R9 vs rows] at h;exact⟨Pre.refl.push,.bl _,h⟩
noncomputable def G5:Fx 12 (top 69) GZ:=
 mF 4 (λhr hn=>(Zd (Zj (i:=4) hn (Zg Fv hr (pv 1))) (Zd (Zv (PDW.pt (W9 (Zp (do_ne hr) (ZO (Z7 Xo) rfl Xi Boot.«len» (pv 4)) (ZO (Z7 Xo) rfl Xi Boot.«len» (pv 2)) (Zm _)) (UN (Ut (XJ (Zg Gb hr (pdv 1 (Za (Zg WY hr (pdv 0 (pdv 2 (pv 3)))) Zf)))))))) (Zb (Zi ZJ)) Zy) (Zd (Zj (i:=5) hn (Zg GJ hr (pdv 0 (pdv 4 (pdv 2 (pv 3)))))) (Zd (Zj (i:=6) hn (Zg Cy hr (Za (XD (x:="slant") (N:=[]) (caps:=[]) (ar:=Zw (top 69)) rfl rfl csc rfl ⋯ (dv 5) pt0 (λ_ _ _ _ _ _=>(Zg Nn hr (pv 0)))) (pv 3)))) (Zd (Zv (Zp Yv (dv 6) ZJ (Zm _)) (Zb (Zi ZJ)) Zy) (Zd (Zj (i:=7) hn (Zg Ka hr (pdv 2 (pdv 3 (pdv 6 (Za (Zg KG hr (pdv 0 (pdv 4 (pdv 2 (pv 3))))) (pv 5))))))) (Zd (Zv (Ut (XJ (Zg Hj hr (pdv 7 (pv 2))))) (Zb (Zi ZJ)) Zy) (Zb (Zi (Zt (pdv 6 (pv 7))))))))))))) λS Q ex=>by
  refine kR λa=>kR λr=>kR λb=>kI λg=>kN ?_
  rintro⟨ns,ws,bs,rows,ha,hb,net,sb,hg,l7,b9,hr,r9,hi,bl,hN,hY⟩;have hi':∀i∈eqs rows,i<ns.length:=λi him=>hi _ (Bu him)
  refine⟨rows,hr,r9,?_⟩;have P0:Pre S (S++[Ob.lst ((eqs rows).map wtD)]):=Pre.refl.push
  have hp:=Zo S (.lst ((eqs rows).map wtD));refine XC hp ?_;refine XC (P0 _ _ hb) ?_;rw[zC,zC];refine ifN (λc=>?_) (λc=>?_)
  .refine YQ ?_;exact hN (by unfold alS;rw[if_neg (λz=>c (by rw[z.1]))]) _ P0
  have lq:(eqs rows).length=bs.length:=by lia
  refine⟨ns,ws,bs,P0 _ _ ha,P0 _ _ hb,net,sb,hg,l7,λT1 m1 p1 lm1 h1=>?_⟩;have P1:Pre S T1:=λx o z=>p1 _ _ (P0 _ _ z)
  refine⟨rows,Zl bs g ns,P1 _ _ hr,h1,r9,λr hr=>by rw[YX];exact hi r hr,?_⟩;cases eL:S8 rows (Zl bs g ns)
  .refine YQ ?_;exact hN (by unfold alS;rw[if_neg (λz=>by rw[eL] at z;cases z.2)]) _ P1
  refine Y0 ?_;refine⟨ns,ws,bs,eqs rows,P1 _ _ ha,P1 _ _ hb,net,sb,hg,l7,b9,p1 _ _ hp,(),hi',λT2 m2 ds p2 lm2 h2 rowsT=>?_⟩;have P2:Pre S T2:=λx o z=>p2 _ _ (P1 _ _ z)
  have hp2:=p2 _ _ (p1 _ _ hp);refine Le (S1:=T2) (n:=m2) (o:=.lst ds) (λk ys S2=>Pre T2 S2/\La S2 T2.length ys/\ys.length=k/\Rows S2 (T2.length+1) ys (((X5 g bs ns rows).take k).map λr=>r.map mid)) kId h2 (λk ys S2 w=>⟨w.1 _ _ h2,w.2.1,w.2.2.1⟩) (by show ds.length<=1000;rw[rowsT.1,zC];lia) ⟨Pre.refl.push,Zo _ _,rfl,by simpa using Rows.nil⟩ (λk x ys S2 K hx w hK=>?_) (λys S2 w=>?_)
  .obtain⟨y1,y2,y3,y4⟩:=w;have hx':ds[k]?=some x:=hx
   have hk:k<(X5 g bs ns rows).length:=by
    have:=(zA.mp hx').1;rw[rowsT.1] at this;exact this
   have hr:=zD hk;generalize (X5 g bs ns rows)[k]=r at hr;obtain⟨ar,rfl,_,har⟩:=rowsT.2 k x r hx' hr;have zr':=RL net sb hg hi' r (zF hr);refine⟨r,y1 _ _ har,by rw[zr'.1];lia,?_⟩;have lt:=ZY y2;refine hK _ _ (Zu y2) ⟨Xj (Xm y1 _) (zB _),Ys (Zu y2),by simp[y3],?_⟩;rw[Yt hr,yC];refine Rows.snoc (y4.keep λa o l q=>?_) () ?_
   .exact Z2 (Zu q) ()
   .refine Z2 ?_ ();have e:(r.map mid).map D.int=r.map λp=>D.int (mid p):=by rw[zX];rfl
    rw[e];exact Zo _ _
  obtain⟨y1,y2,y3,y4⟩:=w;have e9:(X5 g bs ns rows).take (Zk (.lst ds)).length=X5 g bs ns rows:=yM (by show (X5 g bs ns rows).length<=ds.length;rw[rowsT.1];exact zB _);rw[e9] at y4;have P3:Pre S S2:=λx o z=>y1 _ _ (P2 _ _ z)
  have hn:bs.length-1+1=bs.length:=by lia
  have sq:Sq (bs.length-1+1) (Yp g bs ns rows):=⟨by unfold Yp X5;rw[zC,zC];lia,λr hr=>by
   obtain⟨x,hx,rfl⟩:=zH.mp hr;rw[zC,(RL net sb hg hi' x hx).1,hn]⟩
  have bigM:Big (Yp g bs ns rows):=λr hr x hx=>by
   obtain⟨z,hz,rfl⟩:=zH.mp hr;obtain⟨p,hp,rfl⟩:=zH.mp hx;have z2:=(NZ net sb hg hi' z hz).2 p hp;exact(Np z2.1 z2.2).mono ⋯
  refine⟨Yp g bs ns rows,bs.length-1,(),⟨ys,y2,y4.low (zJ _)⟩,sq,bigM,hg,λdz=>?_,λdz T4 k4 tds p4 lk4 ht rowsM=>?_⟩
  .rw[hn] at dz;exact hN (by unfold alS;rw[if_pos ⟨lq,eL⟩,if_pos dz]) _ P3
  rw[hn] at dz rowsM;have P4:Pre S T4:=λx o z=>p4 _ _ (P3 _ _ z)
  refine⟨ns,ws,bs,eqs rows,P4 _ _ ha,P4 _ _ hb,net,sb,hg,l7,b9,p4 _ _ (y1 _ _ hp2),(),hi',λT5 m5 p5 lm5 h5=>?_⟩;have P5:Pre S T5:=λx o z=>p5 _ _ (P4 _ _ z)
  have lI:=LW (Yp g bs ns rows) (bs.length-1) (ZX bs.length (Yp g bs ns rows)) g;refine⟨bs,Pt g bs ns rows,Xd (Yp g bs ns rows) (bs.length-1) (ZX bs.length (Yp g bs ns rows)) g,tds,X5 g bs ns rows,ds,p5 _ _ ht,rowsM.toI.pre p5,(),λr hr=>⟨by have:=Dn r hr;lia,FC sq bigM () dz hg r hr⟩,P5 _ _ hb,h5,p5 _ _ (p4 _ _ (y1 _ _ h2)),rowsT.pre λx o z=>p5 _ _ (p4 _ _ (y1 _ _ z)),RL net sb hg hi',bl,by unfold X5;rw[zC];lia,by unfold Pt;rw[zC];lia,λp hp=>⟨(sb p hp).2.1.mono ⋯,(sb p hp).2.2.mono ⋯⟩,CB net sb hg hi',hg,?_⟩;refine⟨Ur g bs ns rows (Xd (Yp g bs ns rows) (bs.length-1) (ZX bs.length (Yp g bs ns rows)) g),bs,Zo _ _,Zu (P5 _ _ hb),by unfold Ur;rw[tS];lia,?_⟩;cases eD:RN (Ur g bs ns rows (Xd (Yp g bs ns rows) (bs.length-1) (ZX bs.length (Yp g bs ns rows)) g)) bs
  .refine YQ ?_;exact hN (by unfold alS;rw[if_pos ⟨lq,eL⟩,if_neg dz,if_neg (by rw[eD];decide)]) _ (Xm P5 _)
  refine Y0 ?_;have:=Yj P5;exact hY (Xd (Yp g bs ns rows) (bs.length-1) (ZX bs.length (Yp g bs ns rows)) g) (Ur g bs ns rows (Xd (Yp g bs ns rows) (bs.length-1) (ZX bs.length (Yp g bs ns rows)) g)) (by unfold alS;rw[if_pos ⟨lq,eL⟩,if_neg dz,if_pos eD]) _ _ _ _ (Xm P5 _) (by have:=Yj P3;lia) (Zu (p5 _ _ ht)) (((rowsM.low (Yj P3)).pre p5).pre (Xm Pre.refl _)) (Zo _ _) this
noncomputable def HR:Fx 13 (top 88) LV:=
 mF 2 (λhr hn=>(Zd (Zj (i:=5) hn (Zg G5 hr (pdv 0 (pdv 1 (pdv 2 (pv 3)))))) (Zd (Zv (Zp Yv (dv 5) ZJ (Zm _)) (Zb (Zi ZJ)) Zy) (Zd (Zj (i:=6) hn (Zg WY hr (pdv 0 (Za (Zg PU hr (pv 2)) (pv 3))))) (Zb (Zi (Zt (Za ZS (Za (piv 5) (Za (piv 5) (pdv 4 (pdv 6 (Za (Zg LB hr (pdv 0 (pdv 2 (pv 3)))) Zf))))))))))))) λS Q ex=>by
  refine kR λnd=>kR λrw=>kR λbx=>kI λg=>kR λsp=>kN ?_
  rintro⟨u,ns,ws,rows,e,R,hb,hs,lu,se,hn,hy⟩;have net':ZE ((e.length:Nat):Int) ns ws:=by rw[lu];exact R.net
  have u4:=R.u1
  have r4:=R.rl;refine⟨ns,ws,e,rows,R.nd,hb,net',se,R.hg,R.l70,(),R.rw,(),R.ri,(),λha T p=>?_,λM aB ha T m n ms p h0 h1 h2 h3 h4=>?_⟩
  .exact hn ha T p
  .refine⟨e,p _ _ hb,(),λT2 m2 p2 l2 h2'=>?_⟩;have P2:Pre S T2:=λx o z=>p2 _ _ (p _ _ z)
   refine⟨ns,ws,e.map Yh,P2 _ _ R.nd,h2',by rw[zC];exact net',RK se,R.hg,R.l70,λT3 m3 p3 l3 h3'=>?_⟩;have P3:Pre S T3:=λx o z=>p3 _ _ (P2 _ _ z)
   refine⟨ns,ws,e,P3 _ _ R.nd,P3 _ _ hb,net',se,(),R.hg,R.l70,λT4 m4 ds p4 l4 h4' rP=>?_⟩;have P24:Pre T T4:=λx o z=>p4 _ _ (p3 _ _ (p2 _ _ z))
   have l1:=Yj p
   have l2':=Yj p2
   have l3':=Yj p3;exact hy M aB T4 _ ha (λx o z=>p4 _ _ (P3 _ _ z)) (λa b la lb _ sa sb=>⟨m,n,sp,m3,m4,S.length,ms,ds,rfl,⟨la,lb,h0,()⟩,P24 _ _ h1,h2.pre P24,⟨(),(),P24 _ _ h3⟩,⟨sa,sb,p4 _ _ (P3 _ _ hs)⟩,⟨(),(),p4 _ _ h3'⟩,h4',rP.low ()⟩) ⟨_,rfl⟩
noncomputable def Gh:Fx 14 (top 89) HY:=
 mF 2 (λhr hn=>(Zd (Zj (i:=5) hn (Zg WY hr (pdv 0 (pdv 2 (pv 3))))) (Zd (Zj (i:=6) hn (Zg Kg hr (pdv 0 (pdv 1 (pdv 2 (pdv 3 (pv 5))))))) (Zd (Zv (Zp Yv (dv 6) ZJ (Zm _)) (Zb (Zj (i:=6) hn (Zg HR hr (pdv 0 (pdv 1 (pdv 2 (pdv 3 (pv 5)))))))) Zy) (Zd (Zv (PDW.pt (Ri (Zp Yv (dv 6) ZJ (Zm _)) (SW (Zp UY (Zg Po hr (pv 2)) (dv 4) (Zm _))))) (Zb (Zi (Zt (Za ZS Zf)))) Zy) (Zb (Zi (dv 6)))))))) λS Q ex=>by
  refine kR λnd=>kR λrw=>kR λbx=>kI λg=>kI λfine=>kN ?_
  rintro⟨u,ns,ws,rows,e,R,hb,lu,se,hf,hn⟩;have net':ZE ((e.length:Nat):Int) ns ws:=by rw[lu];exact R.net
  have u4:=R.u1;refine⟨ns,ws,e,R.nd,hb,net',se,R.hg,R.l70,λT m p l hm=>?_⟩;have R1:=R.pre p;refine⟨u,ns,ws,rows,e,R1,p _ _ hb,lu,se,hm,λT2 k m2 row p2 l2 hr ib fi h2=>?_,λnb su T2 p2=>?_,λnb su T2 p2=>?_⟩
  .have:=Yj p;exact hf T2 (.out k _) _ (λx o z=>p2 _ _ (p _ _ z)) ⟨row,hr,rfl,ib⟩ (by unfold Xp;rw[OF (r:=0) hr ib fi,uJ]) λa b ha hb'=>⟨m2,rfl,(),(),h2⟩
  .exact hf T2 (.full _) _ (λx o z=>p2 _ _ (p _ _ z)) ⟨rfl,nb,su⟩ (by unfold Xp;rw[UI nb];dsimp only;rw[if_pos su]) λa b ha hb'=>⟨m,rfl,(),(),p2 _ _ hm⟩
  .have lp1:=Yj p
   have lm:=ZY hm
   have P2:Pre S T2:=λx o z=>p2 _ _ (p _ _ z)
   refine⟨u,ns,ws,rows,e,R.pre P2,P2 _ _ hb,p2 _ _ hm,lu,se,λha T3 p3=>?_,λM aB T3 d ha p3 fa xd=>?_⟩
   .have P3:Pre S T3:=λx o z=>p3 _ _ (P2 _ _ z)
    refine⟨e,P3 _ _ hb,(),λw T4 p4 hw=>?_⟩;have P4:Pre S T4:=λx o z=>p4 _ _ (P3 _ _ z)
    refine ifD (λc=>?_) (λc=>?_)
    .exact hf T4 .small _ P4 ⟨λq hq=>xJ (hw.1 q hq) c,nb,su⟩ (by unfold Xp;rw[UI nb,su,ha,hw.is];dsimp only;rw[if_neg zO,if_pos c]) λ_ _ _ _=>rfl
    .rcases hw.2 with ⟨z,_⟩|⟨q,hq,z⟩
     .rw[z] at lu;exact absurd lu (by show ¬ (0=u);lia)
     .exact hn T4 P4 ⟨q,hq,()⟩ (by unfold Xp;rw[UI nb,su,ha,hw.is];dsimp only;rw[if_neg zO,if_neg c])
   .obtain⟨xs,rfl⟩:=xd;exact hf T3 (.one _ _ _ _ _) _ (λx o z=>p3 _ _ (P2 _ _ z)) ⟨ha,rfl,rfl,rfl⟩ (by unfold Xp;rw[UI nb,su,ha];dsimp only;rw[if_neg zO]) λa b la lb=>fa a b (by have:=Yj P2;lia) (by have:=Yj P2;lia) (by have:=Yj p2;have:=Yj p3;lia) () ()
noncomputable def Ie:Fx 3 (top 90) Bb:=
 mF 0 (λhr hn=>(Zb (Zi (XO UY (Zh ZK Ze (ZO (Z7 (TC rfl)) rfl T8 Boot.«sum» (Za (Zg Sl hr (pv 0)) Zf))) (Zh ZK Ze (ZO (Z7 (TC rfl)) rfl T8 Boot.«sum» (Za (Zg Sl hr (pv 1)) Zf))) (Zm _))))) λS Q ex=>by
  refine kR λx=>kR λy=>kN ?_
  rintro⟨bs,cs,h1,h2,s1,s2,l1,l2,h⟩;obtain⟨a1,a2,_⟩:=SQ s1;obtain⟨b1,b2,_⟩:=SQ s2;have z4:Sz 60 (4:Int):=Sz.of (10^3) ()
  have z3:Sz 60 (3:Int):=Sz.of (10^3) ()
  have z1:Sz 60 (YE bs):=by unfold Sz;lia
  have z2:Sz 60 (YE cs):=by unfold Sz;lia
  refine⟨bs,h1,(),?_⟩;refine Pj (n:=S.length) (Zo _ _) (Rk (bs.map wd)) ?_;refine⟨ZD z4 z1,?_⟩;refine⟨cs,Zu h2,(),?_⟩;refine Pj (Zo _ _) (Rk (cs.map wd)) ?_;refine⟨ZD z3 z2,?_⟩;exact h _ λi o z=>Zu (Zu z)
noncomputable def K7:Fx 4 (top 91) BQ:=
 mF 2 (λhr hn=>(Zd (Zj (i:=2) hn (ZC (ZF Zn.cl Zn.n_boxes (dv 0)) (dv 1))) (Zd (Zj (i:=3) hn (Lz (k:=1) hr ⋯ (Zg Sl hr (pv 2)) (Za (Zg Po hr (pv 2)) Zf))) (Zb (Yl (Xa (C:=Zn.C) (dv 0) Zn.cl VD.m VD.ok (rmn hr) VD.b Yq (pdv 1 (pdv 3 (Za (Zg Ll hr (Za (ZC (dv 2) (dv 3)) Zf)) Zf))))))))) λS Q ex=>by
  refine kR λn=>kI λi=>kN ?_
  rintro⟨a,b,j,es,fs,e,B,rfl,he,l4,ne,l9,h⟩;obtain⟨bs,m,h1,h2,o⟩:=B.box he;refine ZA (n:=n) kId B.ins rfl ?_;refine Zz (o:=.lst bs) h1 (YC (j:=j) h2) ?_;refine DF (n:=S.length) (S1:=S++[.lst ((e.map wd).map D.int)]) (zs:=e.map wd) (λv S2=>Pre S S2/\La S2 S.length ((e.map wd).map D.int)/\Wst e v) (λK hK=>⟨e,o.2.2,(),hK⟩) (λK hK=>⟨e,Zu o.2.2,(),λw T p hw=>hK _ _ ⟨λx o z=>p _ _ (Zu z),p _ _ (Zo _ _),hw⟩⟩) (Zo _ _) (λv S2 r=>⟨r.2.1,?_⟩) λv S2 k r hk fi=>?_
  .rcases r.2.2.2 with ⟨z,_⟩|⟨p,hp,rfl⟩
   .exact absurd z ne
   .exact zH.mpr ⟨p,hp,rfl⟩
  obtain⟨p,_,hw⟩:=r;rw[zE] at hk;obtain⟨s,hs,rfl⟩:=zI.mp hk;have lk:=(zA.mp hs).1
  have B2:=B.pre p
  have hs2:atI (e.map frD) (k:Int)=some (frD s):=YC (j:=k) (by rw[zE,hs];rfl);refine Yw (n:=n) kId B2.ins rfl ?_;refine Zz (o:=.lst (e.map frD)) (p _ _ o.2.2) hs2 ?_;exact⟨a,b,j,k,es,fs,e,s,B2,rfl,rfl,he,hs,l4,l9,λT B3 cg=>h T k s ⟨hs,hw,λi q hi hq z=>fi i hi (by rw[zE,hq,<- z];rfl)⟩ B3 ((Cg.pre p).trans cg)⟩
noncomputable def CI:Fx 15 (top 92) Jl:=
 mF 3 (λhr hn=>(Zd (Zj (i:=6) hn (ZC (ZF Zn.cl Zn.n_boxes (dv 0)) (dv 5))) (Zd (Zj (i:=5) hn (Zg BG hr (pdv 0 (pdv 1 (pdv 2 (pdv 3 (pv 5))))))) (Zd (Zv (Zp Lu (ZC (ZF Zn.cl Zn.n_fates (dv 0)) (dv 5)) ZJ (Zm _)) (Zb EF) Zy) (Zd (Zj (i:=7) hn (ZC (ZF Zn.cl Zn.n_boxes (dv 0)) (dv 5))) (Zd (Zj (i:=8) hn (Zg Gh hr (pdv 1 (pdv 2 (pdv 7 (pdv 3 (pv 4))))))) (Zb (Zv (Zp Lu (dv 8) ZJ (Zm _)) (Zb (Yl (Xa (C:=Zn.C) (dv 0) Zn.cl XI.m XI.ok (rmn hr) XI.b Yq (pdv 5 (pv 8))))) (Zb (Zv (Ut (XJ (Zg Ie hr (pdv 7 (pv 6))))) (Zb (Yl (Zg K7 hr (pdv 0 (pv 5))))) Zy)))))))))) λS Q ex=>by
  refine kR λn=>kR λnd=>kR λrw=>kI λg=>kI λfine=>kI λi=>kN ?_
  rintro⟨a,b,j,u,ns,ws,rows,b0,e,es,fs,B,R,A,K,sb,lb,rfl,hw,he,f1,l9,h⟩;have u4:=R.u1;obtain⟨bs,m,h1,h2,o⟩:=B.box he;refine ZA (n:=n) kId B.ins rfl ?_;refine Zz (o:=.lst bs) h1 (YC (j:=j) h2) ?_;refine⟨a,b,j,u,ns,ws,rows,b0,e,es,fs,fine,B,R,A,K,sb,lb,rfl,hw,he,(),λT es' fs' j' B' K' cg l' sh lj sv=>?_⟩;obtain⟨ll,oks⟩:=K.ok sb;obtain⟨ll',oks'⟩:=K'.ok sb;obtain⟨le,se⟩:=oks e (zF he);have he':=zD lj;generalize es'[j']=e' at he';obtain⟨le',se'⟩:=oks' e' (zF he');have hf':=zD (show j'<fs'.length by lia);generalize fs'[j']=f' at hf';obtain⟨ds,k1,k2,k3⟩:=B'.ft;obtain⟨d,d1,d2⟩:=k3 j' f' hf';refine ZA (n:=n) kId B'.ins rfl ?_;refine Zz (o:=.lst ds) k1 (YC (j:=j') d1) ?_;have done:f'≠.wait->Q .non T:=λnw=>by
   refine h T es' fs' B' K' cg ⟨es',fs',j',sv,.inl ⟨λz=>nw (Option.some.inj (hf'.symm.trans z)),rfl⟩⟩ () ?_;by_cases c:es'.length=es.length
   .obtain⟨_,rfl⟩:=sh.2 c;exact .inr ⟨c,λz=>nw (by rw[hf'] at z;exact Option.some.inj z)⟩
   .exact .inl (by have:=sh.1;lia)
  have R':=R.cg A cg
  have la:a<T.length:=by
   obtain⟨_,z,_⟩:=B'.bx;exact ZY z
  have lb':b<T.length:=ZY k1;cases f' with
  | wait=>
   cases d2;obtain⟨bs',m',h1',h2',o'⟩:=B'.box he';refine ZA (n:=n) kId B'.ins rfl ?_;refine Zz (o:=.lst bs') h1' (YC (j:=j') h2') ?_;refine⟨u,ns,ws,rows,e',R',o'.2.2,(),se',λT2 f d p2 fok ef fat=>?_,λT2 p2 big en=>?_⟩
   .have B2:=B'.pre p2
    have fa:=fat a b la lb'
    have fw:f≠.wait:=λz=>by subst z;exact fok.elim
    obtain⟨xs,rfl⟩:∃xs,d=.tup xs:=by
     cases f with
     | wait=>exact fok.elim
     | cut _ _ _ _=>exact fok.elim
     | small=>exact⟨_,fa⟩
     | one _ _ _ _ _=>obtain⟨_,_,_,_,_,_,_,_,z,_⟩:=fa;exact⟨_,z⟩
     | out _ _=>obtain⟨_,z,_⟩:=fa;exact⟨_,z⟩
     | full _=>obtain⟨_,z,_⟩:=fa;exact⟨_,z⟩
    refine Yw (n:=n) kId B2.ins rfl ?_;refine⟨a,b,j',es',fs',f,B2,rfl,(),fa,λT3 B3 cg3=>h T3 es' _ B3 (K'.put hf' he' fok) (cg.trans ((Cg.pre p2).trans cg3)) ⟨es',fs',j',sv,.inr ⟨hf',.inl ⟨f,by rw[Y2 he'];exact ef,rfl⟩⟩⟩ () ?_⟩;by_cases c:es'.length=es.length
    .obtain⟨_,rfl⟩:=sh.2 c;refine .inr ⟨c,λz=>?_⟩;rw[yS ()] at z;exact fw (Option.some.inj z)
    .exact .inl (by have:=sh.1;lia)
   .have B2:=B'.pre p2;obtain⟨p,hp,wp⟩:=big;refine⟨e',e,p2 _ _ o'.2.2,p2 _ _ (o.cg cg).2.2,se',se,(),(),λT3 p3=>?_⟩;have B3:=B2.pre p3;refine ifN (λc=>?_) (λc=>?_)
    .refine⟨a,b,j',es',fs',e',B3,rfl,he',(),λz=>?_,(),λT4 k s cm B4 cg4=>?_⟩
     .rw[z] at hp;cases hp
     .obtain⟨hs,ws',_⟩:=id cm;have w1:=ws'.1 p hp;unfold wd at w1 wp;refine h T4 _ _ B4 (K'.cut hf' he' hs () ()) (cg.trans ((Cg.pre p2).trans ((Cg.pre p3).trans cg4))) ⟨es',fs',j',sv,.inr ⟨hf',.inr ⟨by rw[Y2 he'];exact en,.inr ⟨by rw[Y2 he',Y2 he];exact c,k,s,by rw[Y2 he'];exact cm,by rw[Y2 he']⟩⟩⟩⟩ (by simp;lia) (.inl (by have:=sh.1;simp;lia))
    .refine h T3 es' fs' B3 K' (cg.trans ((Cg.pre p2).trans (.pre p3))) ⟨es',fs',j',sv,.inr ⟨hf',.inr ⟨by rw[Y2 he'];exact en,.inl ⟨by rw[Y2 he',Y2 he];exact c,rfl⟩⟩⟩⟩ () (.inl ?_);have s1:=sh.1;by_cases z:es'.length=es.length
     .obtain⟨rfl,rfl⟩:=sh.2 z;rw[he] at he';cases he';have:=(SQ se).2.2 p hp;lia
     .lia
  | small=>cases d2;exact done (by intro z;cases z)
  | one _ _ _ _ _=>obtain⟨_,_,_,_,_,_,_,_,rfl,_⟩:=id d2;exact done (by intro z;cases z)
  | cut _ _ _ _=>cases d2;exact done (by intro z;cases z)
  | out _ _=>obtain⟨_,rfl,_⟩:=d2;exact done (by intro z;cases z)
  | full _=>obtain⟨_,rfl,_⟩:=d2;exact done (by intro z;cases z)
noncomputable def Md:Fx 16 (top 93) E9:=
 mF 3 (λhr hn=>(Zd (Zj (i:=6) hn (Vi ⟨Zn.makes,T9.m.at_,T9.m.fn,Zn.kp⟩ T9.ok (rmn hr) rfl Zn.m T9.b Vc (pv 2))) (Zd (TH (i:=7) PassesOwn.never rfl hn rfl (Or.inl rfl) rfl XS (pv 5) (Zd (Zj (i:=8) hn (Nq (C:=Zn.C) (dv 6) Zn.cl R8.m R8.ok (rmn hr) R8.b Yq)) (Zd (Zv (Zp Yv (dv 8) ZJ (Zm _)) (Zb Cs) Zy) (Zb (Yl (Zg CI hr (pdv 6 (pdv 0 (pdv 1 (pdv 3 (pdv 4 (pv 8)))))))))))) (Zb (Zi (Nq (C:=Zn.C) (dv 6) Zn.cl Pu.m Pu.ok (rmn hr) Pu.b Yq)))))) λS Q ex=>by
  refine kR λnd=>kR λrw=>kR λbx=>kI λg=>kI λfine=>kI λlooks=>kN ?_
  rintro⟨u,t,ns,ws,rows,b0,I,R,hb,lu,sb,f1,⟨k0,k8⟩,⟨i0,iS⟩,ht,h⟩;have u4:=R.u1;refine⟨S,b0,rfl,rfl,hb,λU a b la lb pU B0=>⟨rfl,?_⟩⟩;have A:Apt nd rw a b:=⟨⟨by have:=ZY R.nd;lia,by have:=ZY R.nd;lia⟩,by have:=ZY R.rw;lia,by have:=ZY R.rw;lia⟩
  have RU:=R.pre pU
  have tt:=ZY ht
  have lU:S.length<U.length:=ZY B0.ins
  have back:∀ {S' T:Sto},Cg a b U S'->Pre S' T->Pre S T:=λ{S' T} cg p x o z=>p _ _ (cg.2 _ _ (by have:=ZY z;lia) (by have:=ZY z;lia) (pU _ _ z))
  refine⟨⟨(),()⟩,λk dl' S'=>(k:Int)<=looks/\E2 λ(es:List LI)(fs:List Ft)=>A7 (Bk Zn.C S' S.length a b es fs) (Bks g fine ns rows b0 es fs) (Cg a b U S') (es.length<=1+66*k) (k<=12/\I k (es,fs)) (∀c,Run g fine ns rows (looks.toNat-k) (es,fs) c->Run g fine ns rows looks.toNat ([b0],[.wait]) c) (E2 λ(x7 x8:Option D)=>dl'=[sR nd,sR rw,sR bx,sI g,sI fine,sI looks,sR S.length,x7,x8]),⟨(),[b0],[.wait],B0,.new,.refl,by simp,⟨(),i0⟩,λc r=>r,_,_,rfl⟩,?_⟩;rintro k dl' S' ⟨hk,es,fs,B,K,cg,l9,⟨k12,ik⟩,rn,x7,x8,rfl⟩;split
  .rename_i c;refine Yw (n:=S.length) kId B.ins rfl ?_;refine⟨a,b,t,es,fs,B,cg.2 _ _ () () (pU _ _ ht),(),λe he=>by rw[((K.ok sb).2 e he).1];lia,λnw T p=>?_,λi T hw p=>?_⟩
   .refine Yw (n:=S.length) kId (B.pre p).ins rfl ?_;refine⟨a,b,es,fs,B.pre p,(),λT2 ds p2 h2 en=>h T2 T.length ds es fs (back (cg.trans (.pre p)) p2) ?_ h2 en K () (rn _ (by rw[show looks.toNat-k=(looks.toNat-k-1)+1 by lia];exact .stop nw)) λ_=>nw⟩;have:=Yj p
    have:=cg.1;lia
   .have pk:=hw;replace hw:=hw.1;have ll:=(K.ok sb).1
    have li:=(zA.mp hw).1
    have he:=zD (show i<es.length by lia);refine⟨a,b,i,u,ns,ws,rows,b0,_,es,fs,B.pre p,(RU.cg A cg).pre p,A,K,sb,lu,rfl,hw,he,f1,(),λT2 es' fs' B2 K2 cg2 lk l2 c2=>?_⟩;obtain⟨k11,ik2⟩:=iS k i es es' fs fs' ik () K pk lk;refine⟨(),es',fs',B2,K2,cg.trans ((Cg.pre p).trans cg2),(),⟨(),ik2⟩,λc r=>rn c ?_,_,_,rfl⟩;rw[show looks.toNat-k=(looks.toNat-(k+1))+1 by lia];exact .step pk lk r
  .rename_i c;refine Yw (n:=S.length) kId B.ins rfl ?_;refine⟨a,b,es,fs,B,(),λT2 ds p2 h2 en=>h T2 S'.length ds es fs (back cg p2) (by have:=cg.1;lia) h2 en K () (rn _ (by rw[show looks.toNat-k=0 by lia];exact .zero)) λz=>absurd ik (z k k12 ())⟩
noncomputable def U2:Dfz "law" U7 Rw:=dF
noncomputable def G_law:Fkz 17 "law" Rw (Uz LT LP LQ):=
 U2.mk' (Vp (k:=16) U2.F XM BR λ_ _ _ _ _ _ _ hr=>⟨_,(Zd (Zj (i:=1) XM.nd (Zg By hr (Za (Zg YW hr (pdv 0 (Za Ze Zf))) Zf))) (Zd (Zj (i:=2) XM.nd (Zh ZW Ze (Zh Yr (Zh Yz (Zg YW hr (pdv 0 (Za Ze Zf))) Ze) Ze))) (Zd (Zv (Zp (ZI hr) (Zh Yr (Zg YW hr (pdv 0 (Za Ze Zf))) Ze) Ze (Zm _)) (Zb (Zj (i:=2) XM.nd (Zh ZW Ze (Zh Xh (Zh ZK (Zh Yz (Zg YW hr (pdv 0 (Za Ze Zf))) Ze) Ze) (Zh Ue Ze Ze))))) Zy) (Zd (Zj (i:=3) XM.nd (Zh Yx (Zh Yr (Zh Yz (Zg YW hr (pdv 0 (Za Ze Zf))) Ze) Ze) Ze)) (Zd (Zv (Zp (ZI hr) (Zh Yr (Zg YW hr (pdv 0 (Za Ze Zf))) Ze) Ze (Zm _)) (Zb (Zj (i:=3) XM.nd (Zh Yx (Zh Xh (Zh ZK (Zh Yz (Zg YW hr (pdv 0 (Za Ze Zf))) Ze) Ze) (Zh ZK Ze (Zh Ue Ze Ze))) (Zh Ue Ze Ze)))) Zy) (Zd (Zj (i:=4) XM.nd (Zh Yx (Zh ZK Ze (dv 2)) (Zh Xh (Zh Yz (Zg YW hr (pdv 0 (Za Ze Zf))) Ze) (Zh ZW (dv 2) Ze)))) (Zd (Zv (Zp (ZI hr) (Zh Yr (Zg YW hr (pdv 0 (Za Ze Zf))) Ze) Ze (Zm _)) (Zb (Zj (i:=4) XM.nd (Zh Xh (Zh Yz (Zg YW hr (pdv 0 (Za Ze Zf))) Ze) (Zh ZW (Zh ZK Ze (dv 2)) Ze)))) Zy) (Zd (Zj (i:=5) XM.nd (Yu (Za (Zt (pdv 3 (Za (Zh ZW (dv 3) (dv 4)) Zf))) Zf))) (Zd (Zj (i:=6) XM.nd (Zg L1 hr (Za (Gp (x:="_law_k") (N:=["_law_script"]) (caps:=[0]) (ar:=Zw U7) rfl rfl csc rfl ⋯ rfl XS (Za Ze (Za (ZO (WW rfl) rfl WX Boot.«min» (Za (ZO (Z7 Xo) rfl Xi Boot.«len» (pv 0)) (Za Ze Zf))) Zf)) pt0 (λ_ _ _ _ _ _=>(Zg YW hr (pdv 1 (pv 0))))) (Za Ze Zf)))) (Zd (Zj (i:=7) XM.nd (Zg ID hr (pdv 0 (pdv 6 (pdv 5 (pv 1)))))) (Zd (Zj (i:=8) XM.nd (Zg Md hr (pdv 6 (pdv 7 (pdv 5 (pdv 1 (pdv 2 (Za Ze Zf)))))))) (Zd (Zv (PDW.pt (W9 (Ut (XJ (Ce (JA _) rfl Jo rfl Rg Boot.«list» (dv 8)))) (UN (XJ (ZO (Z7 (Gj rfl)) rfl z_any Boot.«any» (Za (XD (x:="_law_entry") (N:=[]) (caps:=[]) (ar:=Zw U7) rfl rfl csc rfl ⋯ (dv 8) pt0 (λ_ _ _ _ _ _=>(XO (ZI hr) (ZC (dv 0) Ze) (Zt (Za ZS Zf)) (Zm _)))) Zf)))))) (Zb (Zi LD)) Zy) (Zb (Zi (XO (DO hr) (Zg Md hr (pdv 6 (pdv 7 (pdv 5 (pdv 1 (pdv 2 (Za (Zh ZW Ze (Zh Yr (Zg YW hr (pdv 0 (Za Ze Zf))) Ze)) Zf))))))) (dv 8) (Zm _)))))))))))))))),λds S Q ex h=>by
  obtain⟨ns,rfl,rfl,hl,h⟩:=h;refine YZ (λdl S=>S=[.frz (ns.map D.int),.cod LT LP LQ]/\∃g:Int,(Gg g)/\dl=[sR 0,sI g,none,none,none,none,none,none,none]) (λnx hx=>?_) ?_
  .refine⟨ns,rfl,⟨⋯,⋯⟩,λc hc=>?_⟩;exact⟨hc.1,λg g1 g2=>hx _ _ ⟨rfl,g,⟨g1,g2⟩,rfl⟩⟩
  rintro dl S ⟨rfl,g,hg,rfl⟩;refine YZ (λdl S=>S=[.frz (ns.map D.int),.cod LT LP LQ]/\∃f:Int,(1<=f/\f<=10^12)/\dl=[sR 0,sI g,sI f,none,none,none,none,none,none]) (λnx hx=>?_) ?_
  .refine⟨ns,rfl,⟨⋯,⋯⟩,λc hc=>?_⟩;exact hx _ _ ⟨rfl,1+c/4%60,⟨(),()⟩,rfl⟩
  rintro dl S ⟨rfl,f,hf,rfl⟩;refine YZ (λdl S=>S=[.frz (ns.map D.int),.cod LT LP LQ]/\∃f:Int,(1<=f/\f<=10^12)/\dl=[sR 0,sI g,sI f,none,none,none,none,none,none]) (λnx hx=>?_) ?_
  .refine⟨ns,rfl,⟨⋯,⋯⟩,λc hc=>?_⟩;refine ifD (λ_=>?_) (λ_=>hx _ _ ⟨rfl,f,hf,rfl⟩);refine⟨ns,rfl,⟨⋯,⋯⟩,λc hc=>?_⟩;have zl:Sz 80 (c/4):=Sz.of (10^20) ()
   have r:=Xz (a:=c/4*10007) (b:=10^Int.toNat 12) ⋯
   have t12:(10:Int)^Int.toNat 12=10^12:=rfl;refine⟨ZD zl (Sz.of (n:=80) (10^20) ⋯),show (0:Int)<10^Int.toNat 12 by decide,?_⟩;exact hx _ _ ⟨rfl,_,⟨(),()⟩,rfl⟩
  clear hf f;rintro dl S ⟨rfl,f,hf,rfl⟩;refine YZ (λdl S=>S=[.frz (ns.map D.int),.cod LT LP LQ]/\∃lo:Int,(-10^14<=lo/\lo<=10^14)/\dl=[sR 0,sI g,sI f,sI lo,none,none,none,none,none]) (λnx hx=>?_) ?_
  .refine⟨ns,rfl,⟨⋯,⋯⟩,λc hc=>?_⟩;exact hx _ _ ⟨rfl,c/5%401-200,⟨(),()⟩,rfl⟩
  rintro dl S ⟨rfl,lo,hlo,rfl⟩;refine YZ (λdl S=>S=[.frz (ns.map D.int),.cod LT LP LQ]/\∃lo:Int,(-10^14<=lo/\lo<=10^14)/\dl=[sR 0,sI g,sI f,sI lo,none,none,none,none,none]) (λnx hx=>?_) ?_
  .refine⟨ns,rfl,⟨⋯,⋯⟩,λc hc=>?_⟩;refine ifD (λ_=>?_) (λ_=>hx _ _ ⟨rfl,lo,hlo,rfl⟩);refine⟨ns,rfl,⟨⋯,⋯⟩,λc hc=>?_⟩;have zl:Sz 80 (c/5):=Sz.of (10^20) ()
   have r:=Xz (a:=c/5*900001) (b:=2*10^Int.toNat 14) ⋯
   have t14:(10:Int)^Int.toNat 14=10^14:=rfl;refine⟨ZD zl (Sz.of (n:=80) (10^20) ⋯),ZD (m:=80) (n:=80) (Sz.of (10^20) ⋯) (Sz.of (10^20) ⋯),show (0:Int)<2*10^Int.toNat 14 by decide,?_⟩;exact hx _ _ ⟨rfl,_,⟨(),()⟩,rfl⟩
  clear hlo lo;rintro dl S ⟨rfl,lo,hlo,rfl⟩;have z4:Sz 80 (4:Int):=Sz.of (10^20) ⋯
  have zf:Sz 80 f:=Sz.of (10^20) ();refine YZ (λdl S=>S=[.frz (ns.map D.int),.cod LT LP LQ]/\∃w:Int,(0<=w/\w<=4*f)/\dl=[sR 0,sI g,sI f,sI lo,sI w,none,none,none,none]) (λnx hx=>?_) ?_
  .refine⟨ZD z4 zf,?_⟩;refine⟨ns,rfl,⟨⋯,⋯⟩,λc hc=>?_⟩;have r:=Xz (a:=c/3) (b:=f+1) ();refine⟨show (0:Int)<f+1 by lia,?_⟩;exact hx _ _ ⟨rfl,_,⟨(),()⟩,rfl⟩
  rintro dl S ⟨rfl,w,hw,rfl⟩;refine YZ (λdl S=>S=[.frz (ns.map D.int),.cod LT LP LQ]/\∃w:Int,(0<=w/\w<=4*f)/\dl=[sR 0,sI g,sI f,sI lo,sI w,none,none,none,none]) (λnx hx=>?_) ?_
  .refine⟨ns,rfl,⟨⋯,⋯⟩,λc hc=>?_⟩;refine ifD (λ_=>?_) (λ_=>hx _ _ ⟨rfl,w,hw,rfl⟩);refine⟨ns,rfl,⟨⋯,⋯⟩,λc hc=>?_⟩;have r:=Xz (a:=c/3) (b:=4*f+1) ();refine⟨ZD z4 zf,show (0:Int)<4*f+1 by lia,?_⟩;exact hx _ _ ⟨rfl,_,⟨(),()⟩,rfl⟩
  clear hw w;rintro dl S ⟨rfl,w,hw,rfl⟩;refine YZ (λdl S=>∃s:Int×Int,A5 (s.1<=s.2) (wd s<=4*f) (Spn 51 [s]) (S=[.frz (ns.map D.int),.cod LT LP LQ]++[.lst ([s].map frD)]) (dl=[sR 0,sI g,sI f,sI lo,sI w,sR 2,none,none,none])) (λnx hx=>?_) ?_
  .refine hx _ _ ⟨(lo,lo+w),by show lo<=lo+w;lia,by show lo+w-lo<=_;lia,λp hp=>?_,rfl,rfl⟩;cases zT.mp hp;unfold Sz;exact⟨by show lo<=lo+w;lia,by dsimp only;lia,by dsimp only;lia⟩
  rintro dl S ⟨s,ls,w4,ss,rfl,rfl⟩;refine YZ (λdl S=>E3 λ(vs:List Nd)(ws:List Nat)(m:Nat)=>A6 (ZE 1 vs ws) (1<=vs.length/\vs.length<=24) (S[0]?=some (.frz (ns.map D.int))/\S[1]?=some (.cod LT LP LQ)/\La S 2 ([s].map frD)) (3<=m) (La S m (vs.map Nd.d)) (dl=[sR 0,sI g,sI f,sI lo,sI w,sR 2,sR m,none,none])) (λnx hx=>?_) ?_
  .have lm:0<=(if (18:Int)<(ns.length:Int) then 18 else (ns.length:Int))/\(if (18:Int)<(ns.length:Int) then 18 else (ns.length:Int))<=18:=by split<;>lia
   refine Iy (S1:=[.frz (ns.map D.int),.cod LT LP LQ]++[.lst ([s].map frD)]) (lo:=12) (hi:=if (18:Int)<(ns.length:Int) then 18 else (ns.length:Int)) (λc=>0<=c/\c<2147483629) (λK hK=>?_) ⟨⋯,lm.1,()⟩ (λk S2 K k0 k1 pr hK=>?_) λcs lc pc=>?_
   .refine OM (xs:=ns.map D.int) rfl ?_;rw[zC];exact hK
   .exact⟨ns,pr 0 _ rfl,⟨(),()⟩,λc hc=>hK c hc⟩
   .refine⟨cs.map D.int,1,Zo _ _,λx hx=>?_,rfl,⋯,by rw[zC];lia,λvs ws T m net n1 n2 pr lm' hT=>?_⟩
    .obtain⟨c,hc,rfl⟩:=zH.mp hx;exact⟨c,rfl,pc c hc⟩
    .have l3:4<=m:=lm';exact hx _ _ ⟨vs,ws,m,net,⟨n1,n2⟩,⟨pr 0 _ rfl,pr 1 _ rfl,pr 2 _ rfl⟩,(),hT,rfl⟩
  rintro dl S ⟨vs,ws,m,net,hn,⟨h0,h1,h2⟩,m3,hm,rfl⟩;refine YZ (λdl S=>E4 λ(vs:List Nd)(ws:List Nat)(rows:List (Bool×Nat))(mr:Nat)=>A8 (ZE 1 vs ws) (1<=vs.length/\vs.length<=30) (S[0]?=some (.frz (ns.map D.int))/\S[1]?=some (.cod LT LP LQ)/\La S 2 ([s].map frD)) (La S m (vs.map Nd.d)) (La S mr (rows.map rwD)) (rows.length<=3) (∀r∈rows,r.2<vs.length) (dl=[sR 0,sI g,sI f,sI lo,sI w,sR 2,sR m,sR mr,none])) (λnx hx=>?_) ?_
  .refine⟨1,ns,vs,ws,[s],h0,hm,h2,(),net,rfl,⋯,ss,hg,⟨(),()⟩,λT mr ns' ws' rows gr rl ri lr hr=>?_⟩;have gl:=gr.ln;exact hx _ _ ⟨ns',ws',rows,mr,gr.net,⟨(),()⟩,⟨gr.kp _ _ () h0,gr.kp _ _ () h1,gr.kp _ _ () h2⟩,gr.nd,hr,rl,ri,rfl⟩
  clear hm h0 h1 h2 hn net;rintro dl S ⟨vs,ws,rows,mr,net,hn,⟨h0,h1,h2⟩,hm,hr,rl,ri,rfl⟩;have hI:∀looks:Int,(λ(k:Nat)(q:List LI×List Ft)=>pot f q.1 q.2+k<=11) 0 ([[s]],[.wait])/\∀(k i:Nat)(es es':List LI)(fs fs':List Ft),(λ(k:Nat)(q:List LI×List Ft)=>pot f q.1 q.2+k<=11) k (es,fs)->(k:Int)<looks->Bks g f vs rows [s] es fs->WK es fs i->Wn g f vs rows (es,fs) i (es',fs')->k<=11/\(λ(k:Nat)(q:List LI×List Ft)=>pot f q.1 q.2+k<=11) (k+1) (es',fs'):=λlooks=>by
   refine⟨?_,λk i es es' fs fs' hk _ K pk lk=>?_⟩
   .show pot f [[s]] [.wait]+0<=11;unfold pot;have:=(Qg (f:=f) (w:=YE [s])).2;simpa [pe] using this
   .dsimp only at hk ⊢;obtain⟨ll,ok⟩:=K.ok ss;have li:=(zA.mp pk.1).1
    have he:=zD (show i<es.length by lia);generalize es[i]=e at he;obtain⟨t,rfl,wt⟩:=K.one e (zF he);have z:=GY net hg ri hf.1 ll pk.1 he (ok _ (zF he)).2 () lk;exact⟨(),()⟩
  have R:∀ {T:Sto},Pre S T->Sr T m mr g vs ws rows 1:=λP=>⟨P _ _ hm,P _ _ hr,net,hg,(),(),ri,⋯⟩
  refine YZ (λdl S'=>Pre S S'/\E4 λ(mb:Nat)(ds:List D)(es:List LI)(fs:List Ft)=>A6 (La S' mb ds) (En S' ds es fs) (Run g f vs rows 16 ([[s]],[.wait]) (es,fs)) (es.length<=900) (∀x∈fs,x≠.wait) (dl=[sR 0,sI g,sI f,sI lo,sI w,sR 2,sR m,sR mr,sR mb])) (λnx hx=>?_) ?_
  .refine⟨1,1,vs,ws,rows,[s],λ(k:Nat)(q:List LI×List Ft)=>pot f q.1 q.2+k<=11,R Pre.refl,h2,rfl,ss,hf.1,⟨⋯,⋯⟩,hI 16,h1,λT mb ds es fs p lm hT en K l9 rn nk=>?_⟩;exact hx _ _ ⟨p,mb,ds,es,fs,hT,en,rn,l9,nk (λk k12 e=>()),rfl⟩
  rintro dl T ⟨P,mb,ds,es,fs,hT,en,rn,l9,nw,rfl⟩;have l1:=en.1
  have l2:=en.2.1;refine YZ (λdl S'=>A4 (Pre S S') (La S' mb ds) (En S' ds es fs) (dl=[sR 0,sI g,sI f,sI lo,sI w,sR 2,sR m,sR mr,sR mb])) (λnx hx=>?_) ?_
  .refine G3 (n:=mb) (xs:=ds) kId hT ?_;refine XT (n:=mb) (S1:=T) (o:=.lst ds) (λ_=>.bl false) kId hT (by show ds.length<=1000;lia) (λx hx2 S2 K pr hK=>?_) ?_
   .obtain⟨i,hi⟩:=vA.mp (show x∈ds from hx2);have li:=(zA.mp hi).1
    have hfi:=zD (show i<fs.length by lia);obtain⟨m1,d1,e1,e2,e3⟩:=en.2.2 i _ _ (zD (show i<es.length by lia)) hfi;rw[hi] at e1;cases e1;unfold dOp;exact SR (k:=1) rfl (eq_at (fo_no e3 (nw _ (zF hfi))) hK)
   .refine SG (n:=T.length) (o:=.lst _) (Zo _ _) (NK ds) ?_;rw[show (List.replicate ds.length false).any id=false by simp];exact hx _ _ ⟨Xm P _,Zu hT,en.pre (Xm Pre.refl _),rfl⟩
  clear en hT P;rintro dl T ⟨P,hT,en,rfl⟩;refine⟨ns,P _ _ h0,⟨⋯,⋯⟩,λc hc=>?_⟩;refine⟨1,1,vs,ws,rows,[s],λ(k:Nat)(q:List LI×List Ft)=>pot f q.1 q.2+k<=11,R P,P _ _ h2,rfl,ss,hf.1,⟨(),()⟩,hI _,P _ _ h1,λT2 mb2 ds2 es2 fs2 p lm hT2 en2 K l9' rn2 nk=>?_⟩;have eq:=(rn.more (d:=(c%9).toNat) nw).eq (show Run g f vs rows (16+(c%9).toNat) _ _ by rw[show 16+(c%9).toNat=(16+c%9).toNat by lia];exact rn2);cases eq;have l1':=en2.1;exact⟨⟨_,_,hT2,p _ _ hT,(),Fj en2 (en.pre p)⟩,h _⟩⟩)
end
theorem BO {l:W.OpenLaw}{w:World}{h:Heap}{mg:Str->Option Value}{fa:Addr}(X:(kq w.params).In h)(G:h.Ns mainGlobals mg)(hfa:mg "law"=some (.ref fa))
  :∃fd:FuncData,(∀(s:Shared)(v:Value),BindsTo s fd ⟨[v],[]⟩ [(q22,v)])/\∀base:Heap,(kq w.params).In base->base.Ns mainGlobals mg->BM mg base->Yc l.prog w (kq w.params) mg base (CXE l.prog w) 17 fa fd [q22] (upF (kq w.params) (Uz LT LP LQ)):=by
 let U2:Df (kq w.params) mg "law" U7 Rw:=dfo X G
 have e:=hfa.symm.trans U2.m;cases e;refine⟨U2.fd,λs v=>.of_eq rfl,λbase kin _ hbm=>?_⟩
 letI e:Ev5:=⟨l.prog,w,mg,h,X,G,base,kin,hbm⟩
 exact G_law.ok
end Mine
open PySem PySem.W PyProof.Rows
set_option maxRecDepth 100003 in
set_option maxHeartbeats 0 in
theorem PySem.Challenge.cw_boxnarrow_k58_enough_looks_holds : PySem.Challenge.rw_boxnarrow_k58_enough_looks.Holds := by
 w_on;refine PySem.W.holds_law Mine.ws_eq λsaid=>?_
 refine PySem.W.holds_open (q:=Mine.vw) (loose:=[]) (Xt:=Mine.xt) (XP:=XL Mine.vw []) (Yf:=Hook.obs (kHook Mine.kp Mine.ks Mine.W0)) (Ya:=Hook.val (kHook Mine.kp Mine.ks Mine.W0))
  (YP:=Hook.says (kHook Mine.kp Mine.ks Mine.W0)) (N:=6482) Mine.left (Hook.of (kHook Mine.kp Mine.ks Mine.W0)) (Hook.keeps (kHook Mine.kp Mine.ks Mine.W0)) (λs e=>xl_of s (tY.mp e).1) XL.keeps
  (by rfl) (by rfl) (by rfl) (λs e=>recFacts_of (tY.mp e).2) (by rfl) (by first|assumption|decide +kernel)
  (by decide +kernel) ⟨rfl,rfl,rfl,rfl,rfl,by decide +kernel⟩ ?hw ?hc
 (case hw=>w_witness2)
 refine L3.GK (l:=PySem.Challenge.rw_boxnarrow_k58_enough_looks) (x:="_law_script") (K:=Mine.kq) (P:=Mine.LT) (c:=nat_lit 803) (ps:=#[]) (lp:=Mine.LP) (lq:=Mine.LQ) 17 rfl rfl ⟨rfl,⋯,⋯⟩ (λw h Y=>⟨Mine.in_kq Y,Mine.IA Y⟩) Mine.OA Mine.Pd trivial rfl ?F
 case F=>
  intro w mg fa h KX G hmg;exact Mine.BO KX G hmg
