import PyProof.Rows.All
import Wide.All
import OpenK.AllK
import Wide.FinOn
import Lean
import PyProof.EqAt
import PyProof.EqKinds
import PyProof.TupleCall
import KE.KLam
import KE.KMinKey
import PySem.Challenge.RW_boxnarrow_k53_leaf_of_points
def zA:=@List.getElem?_eq_some_iff
def zB:=@List.length_map
def zC:=@Nat.le_refl
def zD:=@List.getElem?_eq_getElem
def zE:=@List.mem_of_getElem?
def zF:=@List.getElem?_map
def zG:=@Option.map_eq_some_iff
def zH:=@List.size_toArray
def zI:=@Bool.false_ne_true
def zJ:=@List.getElem?_append_left
def zK:=@Nat.ne_of_lt
def zL:=@Int.toNat_natCast
def zM:=@List.length_take
def zN:=@Nat.zero_le
def zO:=@List.mem_singleton
def zP:=@List.mem_map
def zQ:=@List.length_append
def zR:=@Nat.lt_of_lt_of_le
def zS:=@List.mem_cons
def zT:=@List.getElem?_set_ne
def zU:=@List.length_cons
def zV:=@Int.le_refl
def zW:=@List.lookup_cons
def zX:=@List.mem_append
def zY:=@List.map_map
def zZ:=@List.getD_eq_getElem?_getD
def yA:=@List.map_append
def yB:=@List.getElem?_set_self
def yC:=@List.getElem?_append_right
def yD:=@List.length_set
def yE:=@Nat.le_trans
def yF:=@Nat.pow_pos
def yG:=@List.mem_cons_of_mem
def yH:=@List.map_cons
def yI:=@Int.pow_pos
def yJ:=@List.take_length
def yK:=@Nat.lt_irrefl
def yL:=@Nat.le_of_lt
def yM:=@List.mem_append_right
def yN:=@Option.isSome_iff_exists
def yO:=@List.mem_iff_getElem
def yP:=@List.getElem?_eq_none_iff
def yQ:=@List.take_of_length_le
def yR:=@Int.mul_le_mul_of_nonneg_right
def yS:=@List.mem_cons_self
def yT:=@Nat.ne_of_gt
def yU:=@List.replicate_succ
def yV:=@List.append_assoc
def yW:=@List.getElem_mem
def yX:=@Int.mul_comm
def yY:=@Int.neg_mul
def yZ:=@List.length_nil
def xA:=@Int.mul_right_comm
def xB:=@Bool.false_and
def xC:=@Bool.eq_iff_iff
def xD:=@List.append_nil
def xE:=@List.nodup_cons
def xF:=@List.flatten_cons
def xG:=@List.not_mem_nil
def xH:=@Int.pow_succ
def xI:=@Int.le_of_mul_le_mul_right
def xJ:=@List.map_take
def xK:=@List.getElem?_eq_none
def xM:=@List.mem_iff_getElem?
def xN:=@Int.mul_one
def xO:=@Nat.le_succ
def xP:=@Int.gcd_dvd_right
def xQ:=@Int.ediv_mul_cancel
def xR:=@Int.le_of_lt
def xS:=@Int.mul_nonneg
def xT:=@Bool.and_eq_true
def xU:=@Option.map_some
def xV:=@List.take_succ
def xW:=@Nat.mul_le_mul
def xX:=@List.foldl_append
def xY:=@Nat.sub_self
def xZ:=@Bool.true_and
def wA:=@Int.toNat_of_nonneg
def wB:=@List.mem_range
def wC:=@List.mem_filterMap
def wD:=@Nat.lt_succ_self
def wF:=@List.of_mem_zip
def wG:=@List.getElem?_replicate
def wH:=@List.getElem?_take_of_lt
def wJ:=@List.length_drop
def wK:=@Nat.mul_comm
def wL:=@Nat.pow_add
def wM:=@Int.emod_nonneg
def wN:=@Int.mul_le_mul_of_nonneg_left
def wO:=@Nat.le_add_right
def wQ:=@Int.mul_pos
def wR:=@List.getElem?_range
def wU:=@List.length_zipWith
def wV:=@List.mem_or_eq_of_mem_set
def wW:=@Int.mul_assoc
def wX:=@List.take_append_drop
def wY:=@List.filterMap_cons
def wZ:=@Nat.lt_of_le_of_lt
def vA:=@Int.fdiv_eq_ediv_of_nonneg
def vB:=@Nat.log2_lt
def vC:=@Int.natAbs_mul
def vD:=@Int.emod_lt_of_pos
def vE:=@Int.gcd_dvd_left
def vF:=@Int.emod_add_mul_ediv
def vG:=@Int.natAbs_pow
def vH:=@List.set_append_right
def vI:=@Bool.false_eq_true
def vJ:=@Int.zero_mul
def vK:=@Int.pow_zero
def vL:=@List.map_set
def vM:=@List.take_append_of_le_length
def vN:=@Nat.sub_mul
def vO:=@Nat.mul_assoc
def vP:=@Int.one_mul
def vQ:=@Int.ediv_nonneg
def vR:=@List.ext_getElem?
def vS:=@Int.mul_lt_mul_of_pos_right
def vT:=@Option.bind_eq_some_iff
def vU:=@List.map_congr_left
def vV:=@List.mem_filter
def vW:=@List.mem_append_left
def vX:=@List.length_replicate
def vY:=@Option.getD_none
def vZ:=@Int.gcd_eq_zero_iff
def uA:=@Int.fdiv_eq_ediv_of_dvd
def uB:=@Int.gcd_ediv_gcd_ediv_gcd
def uC:=@List.forIn_cons
def uD:=@List.getElem?_cons_succ
def uE:=@List.all_eq_true
def uF:=@List.getElem?_take
def uG:=@List.length_eq_zero_iff
def uH:=@Int.ediv_mul_le
def uI:=@List.take_zipWith
def uJ:=@Nat.min_eq_left
def uK:=@List.getElem?_zipWith
def uL:=@List.filterMap_append
def uM:=@List.drop_of_length_le
def uN:=@Int.natAbs_ediv_le_natAbs
def uP:=@List.mem_of_mem_take
def uQ:=@List.mem_of_mem_drop
def uR:=@Int.gcd_zero_right
def uS:=@List.map_eq_nil_iff
def uT:=@List.zipWith_map
def uU:=@Nat.one_lt_two_pow
def uV:=@Bool.and_eq_true_iff
set_option Elab.async false
set_option linter.all false
local macro_rules|`(())=>`(by lia)
local macro_rules|`(⋯)=>`(by decide)
set_option maxRecDepth 100000
set_option genSizeOf false
set_option bootstrap.genMatcherCode false
set_option compiler.extract_closed false
set_option genInjectivity false
set_option maxHeartbeats 40000000
abbrev LI:=List (Int×Int)
abbrev LA:=List (PySem.Addr×PySem.Obj)
abbrev QW:=PySem.Challenge.pw_boxnarrow_k53_leaf_of_points
abbrev Fg:=PySem.W.Frag
namespace L2
open PySem PySem.Spec PyProof.Rows
def Zo (s:Stmt)(j:Nat):Stmt:=match s with
 | .ClassDef _ _ _ body _ _ _ _ _ _ _=>body.getD j (.Pass ⟨0,0,0,0⟩)
 | _=>.Pass ⟨0,0,0,0⟩
def Vm (s:Stmt):Arguments:=match s with
 | .FunctionDef _ a _ _ _ _ _ _ _ _=>a
 | _=>{ posonlyargs:=[],args:=[],vararg:=none,kwonlyargs:=[],kw_defaults:=[],kwarg:=none,defaults:=[] }
def Xb (s:Stmt):List Stmt:=match s with
 | .FunctionDef _ _ b _ _ _ _ _ _ _=>b
 | _=>[]
def Zi (s:Stmt):Scope:=match s with
 | .FunctionDef _ _ _ _ _ _ sc _ _ _=>sc
 | _=>{ kind:=.function,names:=[],isGenerator:=false,isCoroutine:=false }
end L2
namespace L3
open PySem PySem.W PyProof.Rows PySem.Calls
theorem Kq {α β γ δ:Type}{f:α->Option β}{A:β->γ}{B:β->δ}{a:γ}{b:δ}(h1:(λx=>(f x).map A)=λ_=>some a)(h2:(λx=>(f x).map B)=λ_=>some b):(λx=>(f x).map λs=>(A s,B s))=λ_=>some (a,b):=by
 funext x;have e1:=congrFun h1 x
 have e2:=congrFun h2 x;cases h:f x with
 | none=>rw[h] at e1;cases e1
 | some s=>
  rw[h] at e1 e2;exact congrArg some (Prod.ext (Option.some.inj e1) (Option.some.inj e2))
theorem HG {α β:Type}{f:α->Option β}{A B:β->Bool}(h1:(λx=>(f x).map A)=λ_=>some true)(h2:(λx=>(f x).map B)=λ_=>some true):(λx=>(f x).map λs=>A s&&B s)=λ_=>some true:=by
 funext x;have e1:=congrFun h1 x
 have e2:=congrFun h2 x;cases h:f x with
 | none=>rw[h] at e1;cases e1
 | some s=>
  rw[h] at e1 e2;have a:A s=true:=Option.some.inj e1
  have b:B s=true:=Option.some.inj e2
  show some (A s&&B s)=some true;rw[a,b];rfl
def goT (tb:String->Option Builtin)(p:Program)(w:World)(n₀:Nat)(ann:Option Value):Nat->SharedT->Thread->Option SharedT
 | 0,_,_=>none
 | k+1,s,t=>bif through t then some s else bif stepOk n₀ ann t then (stepT (denote tb) p w s t).bind (λr=>goT tb p w n₀ ann k r.1 r.2) else none
theorem D1:∀ {n:Nat} {s s':SharedT} {t:Thread},goT tb p w n₀ ann n s t=some s'->topRun tb p w n₀ ann n s.abs t=some s'.abs
 | 0,_,_,_,q=>nomatch q
 | n+1,s,s',t,q=>by
  unfold goT at q;unfold topRun;cases c1:through t
  .rw[c1] at q;cases c2:stepOk n₀ ann t
   .rw[c2] at q;exact nomatch q
   .rw[c2] at q;obtain⟨⟨s2,t2⟩,c3,q⟩:=vT.mp q;rw[stepT_spec c3];exact D1 q
  .rw[c1] at q;cases q;rfl
def JZ (os:Array Obj):Nat->Nat->Nat->BT
 | 0,_,_=>.nil
 | f+1,a,b=>match os[b]? with
  | some o=>.node o (JZ os f (2*a) (a+b)) (JZ os f (2*a) (2*a+b))
  | none=>.nil
noncomputable def bootT (P:Params):BT:=JZ (boot_heap P).objs 6 1 0
noncomputable abbrev RM (w:World)(os:OsState):SharedT:=⟨bootT w.params,11,(boot_heap w.params).life,Array.mk [],boot_drawn,boot_toks,os⟩
def ML (s:SharedT)(a:Addr):Option Obj:=if a<s.n then (match s.tree.get a with|some o=>alive o|none=>s.abs.heap.get? a) else none
theorem BR (s:SharedT)(a:Addr):s.abs.heap.get? a=ML s a:=by
 unfold ML;split
 .rename_i h;cases e:s.tree.get a with
  | none=>rfl
  | some o=>exact abs_get h e
 .rename_i h;exact abs_get_none h
theorem zjb (l:List Addr)(s:SharedT):l.map s.abs.heap.get?=l.map (ML s):=vU λa _=>BR s a
noncomputable abbrev seenT (p q:Program)(aG:List Str)(Xt:Shared->Bool){α:Type}(YT:SharedT->α)(g0:Bool)(w:World)(s:SharedT):=
 ((staticsOk (importedModules p.main.body) (boot_heap w.params) s.abs.heap&&namesBound p s.abs.heap&&gensDone s.abs&&laidKept (boot_heap w.params) s.abs.heap),openSeen q aG (importedModules p.main.body) Xt g0 s.abs,YT s)
noncomputable abbrev Ko (p:Program)(w:World)(s:SharedT):Bool:=staticsOk (importedModules p.main.body) (boot_heap w.params) s.abs.heap&&namesBound p s.abs.heap&&gensDone s.abs&&laidKept (boot_heap w.params) s.abs.heap
def goK (tb:String->Option Builtin)(p:Program)(w:World)(n₀:Nat)(ann:Option Value):Nat->SharedT->Thread->Option (SharedT×Thread)
 | 0,s,t=>some (s,t)
 | k+1,s,t=>bif through t then none else bif stepOk n₀ ann t then (stepT (denote tb) p w s t).bind (λr=>goK tb p w n₀ ann k r.1 r.2) else none
theorem Cd:∀ {n:Nat} {s s':SharedT} {t t':Thread},goK tb p w n₀ ann n s t=some (s',t')->topGo tb p w n₀ ann n s.abs t=some (s'.abs,t')
 | 0,_,_,_,_,q=>by cases q;rfl
 | n+1,s,s',t,t',q=>by
  unfold goK at q;unfold topGo;cases c1:through t
  .rw[c1] at q;cases c2:stepOk n₀ ann t
   .rw[c2] at q;exact nomatch q
   .rw[c2] at q;obtain⟨⟨s2,t2⟩,c3,q⟩:=vT.mp q;rw[stepT_spec c3];exact Cd q
  .rw[c1] at q;exact nomatch q
theorem zf7 {p:Program}{w:World}{os:OsState}{ann:Option Value}{env:Env}{c:Code}{posa posb q:Pos}{n0 nb N2 N:Nat}{Sa Sb s':SharedT}(hc:c=Code.body (behindTheImports p) env)
  (pre:goK treeTable p w 11 ann n0 (RM w os) (topStub p)=some (Sa,⟨denote treeTable c,c,posa,[topFrame q]⟩))
  (block:segRunT treeTable p w 11 ann 1 nb Sa (blockOf (behindTheImports p) env c posa [topFrame q])=some (.next,Sb,c,posb))
  (e:n0+(nb+N2)=N)(r:topRun treeTable p w 11 ann N2 Sb.abs (restOf (behindTheImports p) env c posb [topFrame q])=some s'.abs):topRun treeTable p w 11 ann N (RM w os).abs (topStub p)=some s'.abs:=by
 subst e hc;exact go_top (Cd pre) (piece_block (segRun_of block) r)
theorem Bw {p:Program}{w:World}{ann:Option Value}{env:Env}{c:Code}{pos1 aK q:Pos}{l:List Stmt}{n1 N2 m:Nat}{S1 S2 s':SharedT}
  (p1:segRunT treeTable p w 11 ann 1 n1 S1 (piecesOf (l.take m) env c pos1 [topFrame q])=some (.next,S2,c,aK))
  (r:topRun treeTable p w 11 ann N2 S2.abs (restOf (l.drop m) env c aK [topFrame q])=some s'.abs):topRun treeTable p w 11 ann (n1+N2) S1.abs (restOf l env c pos1 [topFrame q])=some s'.abs:=by
 have z:=piece_app (segRun_of p1) r;rw[wX] at z;exact z
theorem zh9 {p q:Program}{aG:List Str}{Xt:Shared->Bool}{α:Type}{Yf:Shared->α}{YT:SharedT->α}{Ya:World->α}{N:Nat}{g0:Bool}{ann:Option Value}{go:World->OsState->Option SharedT}(hY:∀s:SharedT,Yf s.abs=YT s)(e:opening p=plainProg p.main.scope.names)(hN:Nat.ble 600 N=true)(f:∀s,fenceModules? p s=some s)
  (size:∀w:World,((boot_heap w.params).isNs mainGlobals&&(Array.mk []:Array GenState).size==0,(boot_heap w.params).objs.size,(boot_heap w.params).nsMap mainGlobals "__annotations__")=(true,11,ann))
  (hgo:∀w os s',go w os=some s'->topRun treeTable p w 11 ann N (RM w os).abs (topStub p)=some s'.abs)
  (run:∀w:World,(λos=>(go w os).map λs=>seenT p q aG Xt YT g0 w s)=λ_=>some (true,openGood q aG,Ya w)):LeftO p q aG Xt Yf Ya N g0:=λw=>by
 obtain⟨⟨h,gs,d,k,os⟩,e1,e'⟩:=zG.mp (boot_open e hN f w);obtain⟨rfl,rfl,rfl,rfl⟩:h=boot_heap w.params/\gs=Array.mk []/\d=boot_drawn/\k=boot_toks:=by simpa using e'
 obtain⟨y1,y2,y3⟩:_/\_/\_:=by simpa only [Prod.mk.injEq] using size w
 obtain⟨s',r1,r2⟩:=zG.mp (congrFun (run w) os);obtain⟨l1,l2,l3⟩:_/\_/\_:=by simpa only [Prod.mk.injEq] using r2
 have r:topRun treeTable p w 11 ann N ⟨boot_heap w.params,Array.mk [],boot_drawn,boot_toks,os⟩ (topStub p)=some s'.abs:=hgo w os s' r1
 have t:topFrom treeTable p w N ⟨boot_heap w.params,Array.mk [],boot_drawn,boot_toks,os⟩=some s'.abs:=by
  unfold topFrom;dsimp only;rw[y1,y2,y3,r];show (match staticsOk (importedModules p.main.body) (boot_heap w.params) s'.abs.heap&&namesBound p s'.abs.heap&&gensDone s'.abs&&laidKept (boot_heap w.params) s'.abs.heap with|true=>_|false=>_)=_;rw[l1]
 unfold openEnds;rw[e1];show Option.map _ (topFrom treeTable p w N _)=_;rw[t];exact congrArg some (Prod.ext l2 ((hY s').trans l3))
theorem zb0 {p q:Program}{aG:List Str}{Xt:Shared->Bool}{α:Type}{Yf:Shared->α}{YT:SharedT->α}{Ya:World->α}{N:Nat}{g0:Bool}{ann:Option Value}{go:World->OsState->Option SharedT}(hY:∀s:SharedT,Yf s.abs=YT s)(e:opening p=plainProg p.main.scope.names)(hN:Nat.ble 600 N=true)(f:∀s,fenceModules? p s=some s)
  (size:∀w:World,((boot_heap w.params).isNs mainGlobals&&(Array.mk []:Array GenState).size==0,(boot_heap w.params).objs.size,(boot_heap w.params).nsMap mainGlobals "__annotations__")=(true,11,ann))
  (hgo:∀w os s',go w os=some s'->topRun treeTable p w 11 ann N (RM w os).abs (topStub p)=some s'.abs)
  (ra:∀w:World,(λos=>(go w os).map λs=>(Ko p w s,(openSeen q aG (importedModules p.main.body) Xt g0 s.abs).1))=λ_=>some (true,(openGood q aG).1))
  (rb:∀w:World,(λos=>(go w os).map λs=>((openSeen q aG (importedModules p.main.body) Xt g0 s.abs).2.1,(openSeen q aG (importedModules p.main.body) Xt g0 s.abs).2.2.1))=λ_=>some ((openGood q aG).2.1,(openGood q aG).2.2.1))
  (rc:∀w:World,(λos=>(go w os).map λs=>(openSeen q aG (importedModules p.main.body) Xt g0 s.abs).2.2.2)=λ_=>some (openGood q aG).2.2.2)
  (objs:∀w:World,(λos=>(go w os).map YT)=λ_=>some (Ya w)):LeftO p q aG Xt Yf Ya N g0:=by
 refine zh9 hY e hN f size hgo λw=>funext λos=>?_
 obtain⟨s1,a1,b1⟩:=zG.mp (congrFun (ra w) os);obtain⟨s2,a2,b2⟩:=zG.mp (congrFun (rb w) os);obtain⟨s3,a3,b3⟩:=zG.mp (congrFun (rc w) os);obtain⟨s4,a4,b4⟩:=zG.mp (congrFun (objs w) os);rw[a1] at a2 a3 a4;cases a2;cases a3;cases a4;obtain⟨l1,l2⟩:=Prod.mk.inj b1;obtain⟨l3,l4⟩:=Prod.mk.inj b2;have l5:openSeen q aG (importedModules p.main.body) Xt g0 s1.abs=openGood q aG:=Prod.ext l2 (Prod.ext l3 (Prod.ext l4 b3));rw[a1];show some (Ko p w s1,openSeen q aG (importedModules p.main.body) Xt g0 s1.abs,YT s1)=some (true,openGood q aG,Ya w);rw[l1,l5,b4]
def frc {α:Type}:BT->(BT->α)->α
 | .nil,k=>k .nil
 | .node o l r,k=>frc l λl'=>frc r λr'=>k (.node o l' r')
theorem HY:∀(t:BT)(k:BT->α),frc t k=k t
 | .nil,_=>rfl
 | .node o l r,k=>by
  show frc l (λl'=>frc r λr'=>k (.node o l' r'))=_;rw[HY l,HY r]
def odB:List Obj->List Obj
 | x::_::r=>x::odB r
 | l=>l
def evB:List Obj->List Obj
 | _::y::r=>y::evB r
 | _=>[]
def mkB:Nat->List Obj->BT
 | d+1,o::l=>.node o (mkB d (odB l)) (mkB d (evB l))
 | _,_=>.nil
abbrev tpO (l:List Value):Obj:=⟨.type "tuple",none,.seq ⟨l⟩ 0,#[]⟩
abbrev fdO (l:List Value):Obj:=⟨.none,none,.fields ⟨l⟩,#[]⟩
def nmO:Nat->List Str->List Value
 | _,[]=>[]
 | t,x::r=>.str x t::nmO (t+1) r
abbrev coO (n q:Str)(t j:Nat)(i k:Int)(a s:Nat)(y z:Value)(f:Nat):Obj:=⟨.type "code",none,.fields #[.str n t,.str q (t+1),.str "/claim/cut.py" (t+2),.int i 0,.int k 0,.int 0 0,.int 0 0,.int 3 0,.ref a,.bool Bool.true,.int 181 0,.ref s,.none,y,z,.ref f,.int j 0,.int i 0,.str "/claim/cut.py" (j+1)],#[]⟩
abbrev fuO (n q:Str)(st:Stmt)(m d:Value):Obj:=⟨.type "function",none,.func (W.fnOf n q (L2.Vm st) (L2.Xb st) (L2.Zi st) .none .none .none m none d .none),#[]⟩
abbrev fnO (n q:Str)(st:Stmt):Obj:=⟨.none,none,.func { W.fnOf n q (L2.Vm st) (L2.Xb st) (L2.Zi st) .none .none .none .none none .none .none with globals:=0 },#[]⟩
def df (n q:Str)(st:Stmt)(m:Value)(i k:Int)(a t:Nat)(vs:List Str):List Obj:=[tpO [],fdO [],tpO (nmO (t+3) vs),tpO [],fnO n q st,coO n q t (t+3+vs.length) i k a (a+1) (.ref (a+2)) (.ref (a+3)) (a+4),fuO n q st m (.ref (a+5))]
def dg (n q:Str)(st:Stmt)(m:Value)(i k:Int)(a t:Nat):List Obj:=[tpO [],fdO [],fnO n q st,coO n q t (t+3) i k a (a+1) .none .none (a+2),fuO n q st m (.ref (a+3))]
end L3
namespace Mine
open PySem PySem.Spec PyProof.Rows L2 L3
theorem kId {α:Type}{p:α->Prop}(K:α)(h:p K):p K:=h
def top (i:Nat):Stmt:=QW.main.body.getD i (.Pass ⟨0,0,0,0⟩)
theorem ws_eq:W.OpenLaw.wellSaid PySem.Challenge.rw_boxnarrow_k53_leaf_of_points=true:=by
 unfold W.OpenLaw.wellSaid
 repeat' (with_reducible refine W.look_both ?_ ?_)
 all_goals decide +kernel
def vw:Program:={ QW with main:={ QW.main with body:=[top 0,top 2,top 3,top 4,top 5,top 6,top 7,top 8,top 10,top 11,top 12,top 14,top 15,top 16,top 17,top 18,top 20,top 21,top 22,top 23,top 24,top 25,top 26,top 27,top 28,top 29,top 30,top 31,top 32,top 34,top 35,top 36,top 37,top 38,top 39,top 40,top 41,top 42,top 43,top 44,top 46,top 47,top 48,top 49,top 50,top 51,top 52,top 53,top 54,top 56,top 57,top 58,top 60,top 62,top 63,top 64,top 65,top 66,top 67,top 68,top 69,top 70,top 71,top 72,top 73,top 74,top 76,top 77,top 78,top 80,top 81,top 82,top 83,top 84,top 85,top 87,top 88,top 89,top 90,top 91,top 92,top 93,top 94,top 95,top 96,top 97,top 98,top 99,top 100,top 102,top 103,top 104,top 105,top 106,top 107,top 108,top 109,top 110,top 111,top 112,top 113,top 114,top 115,top 116,top 117,top 118,top 119,top 120,top 121,top 122] } }
noncomputable abbrev de (P:Params)(s:Str)(t:Tok)(v:Value):DictEntry:=⟨PySem.PyData.keyHash P s,.str s t,v⟩
abbrev co (n q:Str)(a b c d:Tok)(i k:Int)(r s:Addr)(y z:Value)(t:Addr)(j:Int):Obj:=⟨.type "code",none,.fields #[.str n a,.str q b,.str "/claim/cut.py" c,.int i 0,.int k 0,.int 0 0,.int 0 0,.int 3 0,.ref r,.bool Bool.true,.int 181 0,.ref s,.none,y,z,.ref t,.int j 0,.int i 0,.str "/claim/cut.py" d],#[]⟩
abbrev fo (n q:Str)(st:Stmt)(m:Value)(c:Addr):Obj:=⟨.type "function",none,.func (W.fnOf n q (Vm st) (Xb st) (Zi st) .none .none .none m none (.ref c) .none),#[]⟩
abbrev q0:Str:="boxnarrow.kinds"
abbrev q1:Str:="law_boxnarrow_k53_leaf_of_points"
abbrev q2:Str:="__static_attributes__"
abbrev q3:Str:="boxnarrow.search"
abbrev q4:Str:="__firstlineno__"
abbrev q5:Str:="__init__"
abbrev q6:Str:="slope_of_both"
abbrev q7:Str:="forth"
abbrev q8:Str:="boxnarrow.spans"
abbrev q9:Str:="boxnarrow.alone"
abbrev q10:Str:="__module__"
abbrev q11:Str:="spans"
abbrev q12:Str:="second_left"
abbrev q13:Str:="boxnarrow.backs"
abbrev q14:Str:="first_left"
abbrev q15:Str:="slope"
abbrev q16:Str:="nodes"
abbrev q17:Str:="number"
abbrev q18:Str:="_law_grid_here"
abbrev q19:String:="object.__init_subclass__"
abbrev q20:Str:="_law_point_here"
abbrev q21:String:="object.__new__"
abbrev q22:Str:="_law_box_here"
abbrev q23:Str:="boxnarrow.matrices"
abbrev q24:Str:="greatest_divisor"
abbrev q25:Str:="cut_in_the_middle"
abbrev q26:Str:="__doc__"
abbrev q27:Str:="take_spans"
abbrev q28:Str:="box_of_middles"
abbrev q29:Str:="sum_of_products"
abbrev q30:Str:="boxnarrow.shaving"
abbrev q31:Str:="_law_divisor"
abbrev q32:String:="object"
abbrev q33:Str:="determinant"
abbrev q34:Str:="equation_places"
abbrev q35:Str:="leasts_are_sure"
abbrev q36:Str:="_law_cell"
abbrev q37:Str:="boxnarrow.errors"
abbrev q38:String:="type.__prepare__"
abbrev q39:Str:="inverse_entry"
abbrev q40:Str:="part_between"
abbrev q41:Str:="_law_cell_at"
abbrev q42:Str:="boxnarrow.fractions"
abbrev q43:Str:="add_spans"
abbrev q44:Str:="worths"
abbrev q45:Str:="rounded_up"
abbrev q46:Str:="_law_nodes"
abbrev q47:Str:="holds_nought"
abbrev q48:Str:="back_by_side"
abbrev q49:Str:="mul_spans"
abbrev q50:Str:="inverse_row"
abbrev q51:Str:="fate_by_rows"
abbrev q52:Str:="is_much_less"
abbrev q53:Str:="_law_weight"
abbrev q54:Str:="_law_outside"
abbrev q55:Str:="raise_span"
abbrev q56:Str:="back_times"
abbrev q57:Str:="root_below"
abbrev q58:Str:="_law_node_here"
abbrev q59:Str:="opposite"
abbrev q60:Str:="thin_worths"
abbrev q61:Str:="fate_of_one"
abbrev q62:Str:="_law_exacts"
abbrev q63:Str:="_law_within"
abbrev q64:Str:="_law_walked"
abbrev q65:Str:="_law_at_cut"
abbrev q66:Str:="_law_script"
abbrev q67:Str:="scale_span"
abbrev q68:Str:="next_guess"
abbrev q69:Str:="exact"
abbrev q70:Str:="__qualname__"
abbrev q71:Str:="cofactor"
abbrev q72:Str:="back_power"
abbrev q73:Str:="spans_back"
abbrev q74:Str:="_law_whole"
abbrev q75:Str:="_law_power"
abbrev q76:Str:="_law_heavy"
abbrev q77:Str:="_law_cells"
abbrev q78:Str:="_law_point"
abbrev q79:Str:="with_span"
abbrev q80:Str:="is_barred"
abbrev q81:Str:="Pair.__init__"
abbrev q82:Str:="raised"
abbrev q83:Str:="common"
abbrev q84:Str:="slants"
abbrev q85:Str:="slopes_at"
abbrev q86:Str:="_law_node"
abbrev q87:Str:="_law_rows"
abbrev q88:Str:="_law_grid"
abbrev q89:Str:="is_whole"
abbrev q90:Str:="fraction"
abbrev q91:Str:="quotient"
abbrev q92:Str:="kind_of"
abbrev q93:Str:="to_look_at"
abbrev q94:Str:="all_deep"
abbrev q95:Str:="asked_of"
abbrev q96:Str:="narrowed"
abbrev q97:Str:="cut_back"
abbrev q98:Str:="is_shave"
abbrev q99:Str:="_law_net"
abbrev Wc:Str:="_law_put"
abbrev X2:Str:="_law_row"
abbrev XX:Str:="_law_box"
abbrev XI:Str:="without"
abbrev Xx:Str:="inverse"
abbrev XH:Str:="span_of"
abbrev XN:Str:="middles"
abbrev Rr:Str:="Minus.slope_of_both"
abbrev RH:Str:="Times.slope_of_both"
abbrev YJ:Str:="other"
abbrev WJ:Str:="put_entry"
abbrev Xs:Str:="middle"
abbrev Xl:Str:="joined"
abbrev Xm:Str:="widths"
abbrev Xo:Str:="widest"
abbrev SA:String:="ValueError.__new__"
abbrev Uo:Str:="Pair.slope"
abbrev RL:Str:="Plus.slope_of_both"
abbrev Xe:Str:="bottom"
abbrev W5:Str:="_law_found"
abbrev XZ:Str:="lacking"
abbrev X3:Str:="span_by"
abbrev XR:Str:="step_by"
abbrev XT:Str:="cut_off"
abbrev X4:Str:="fate_of"
abbrev Wa:Str:="leaf_of"
abbrev VI:Str:="__weakref__"
abbrev Wg:Str:="entries"
abbrev Rh:Str:="Minus.second_left"
abbrev Rn:Str:="Times.second_left"
abbrev Xy:Str:="signed"
abbrev XJ:Str:="slopes"
abbrev XA:Str:="picked"
abbrev XD:Str:="out_by"
abbrev Xk:Str:="matrix"
abbrev Ue:Str:="Pair.back"
abbrev Wi:Str:="unknowns"
abbrev Vg:String:="ValueError"
abbrev Qe:Str:="Unknown.__init__"
abbrev RS:Str:="Plus.second_left"
abbrev QO:Str:="Minus.first_left"
abbrev Qw:Str:="Times.first_left"
abbrev So:Str:="boxnarrow.worths"
abbrev U3:Str:="boxnarrow.narrow"
abbrev XO:Str:="shaves"
abbrev XS:Str:="search"
abbrev XU:Str:="settle"
abbrev R6:Str:="Number.__init__"
abbrev RN:Str:="Plus.first_left"
abbrev TK:Str:="Book.to_look_at"
abbrev TN:Str:="_law_heavy_here"
abbrev XE:Str:="holds"
abbrev Xu:Str:="width"
abbrev Qg:Str:="Power.__init__"
abbrev R7:Str:="Book.put_entry"
abbrev XQ:Str:="_law_a"
abbrev QC:String:="getset_descriptor"
abbrev X8:Str:="alone"
abbrev X7:Str:="shave"
abbrev We:Str:="is_in"
abbrev Ux:Str:="_law_shared"
abbrev TC:String:="BaseException"
abbrev QX:Str:="Unknown.forth"
abbrev Rz:Str:="Unknown.slope"
abbrev QE:Str:="Book.__init__"
abbrev SR:Str:="_law_unknowns"
abbrev Qt:Str:="_law_cells_here"
abbrev q167:String:="__main__.__loader__#opaque"
abbrev RJ:Str:="Number.forth"
abbrev QP:Str:="Number.slope"
abbrev Qz:Str:="Unknown.back"
abbrev QA:Str:="Book.entries"
abbrev q172:String:="ExceptionGroup.__weakref__"
abbrev VT:Str:="BoxError"
abbrev V8:Str:="NoNumber"
abbrev WM:Str:="column"
abbrev WE:Str:="places"
abbrev WO:Str:="_law_k"
abbrev Qo:Str:="Number.back"
abbrev Qn:Str:="Minus.forth"
abbrev Qy:Str:="Times.forth"
abbrev R0:Str:="Power.forth"
abbrev QQ:Str:="Power.slope"
abbrev QV:Str:="Book.settle"
abbrev Wv:Str:="place"
abbrev Wo:Str:="point"
abbrev V3:Str:="Unknown"
abbrev RV:Str:="Plus.forth"
abbrev RZ:Str:="Power.back"
abbrev Uv:Str:="products"
abbrev Tx:String:="Exception"
abbrev QS:Str:="Book.part"
abbrev SQ:Str:="_law_book"
abbrev VO:Str:="NoSpan"
abbrev V6:Str:="Number"
abbrev Up:Str:="_law_at"
abbrev Tq:Str:="__dict__"
abbrev Q2:Str:="_law_place"
abbrev UY:Str:="_law_top"
abbrev QD:Str:="_law_many"
abbrev Ld:Str:="_law_bottom"
abbrev r (n:Addr):Value:=.ref n
abbrev sr (n:Addr):Option Value:=some (.ref n)
noncomputable abbrev dr (P:Params)(s:Str)(t:Tok)(n:Addr):DictEntry:=de P s t (.ref n)
noncomputable abbrev dn (P:Params)(s:Str)(t:Tok):DictEntry:=de P s t .none
abbrev dO (l:Array DictEntry)(n:Nat):Obj:=.mk (.type "dict") none (.dict l n) #[]
abbrev bO (s:String)(v:Value):Obj:=.mk (.type "builtin_function_or_method") none (.fields #[.builtin s,v]) #[]
abbrev cO (a:Str)(t1:Tok)(b:Str)(t2 t3:Tok)(l:Int)(x:Addr)(m:Int)(y:Addr)(k l2:Int)(t4:Tok):Obj:=.mk (.type "code") none (.fields #[.str a t1,.str b t2,.str "/claim/cut.py" t3,.int l 0,.int 0 0,.int 0 0,.int 0 0,.int 0 0,.ref x,.bool Bool.false,.int m 0,.ref y,.none,.none,.none,.none,.int k 0,.int l2 0,.str "/claim/cut.py" t4]) #[]
abbrev gO (a b c:Addr)(s:Value)(d:Addr):Obj:=.mk (.type "frame") none .plain #[some (.ref a),some (.ref b),some (.ref c),none,some s,none,some (.ref d)]
abbrev cp (n q:Str)(t:Tok)(i k:Int)(a:Addr)(j:Tok):Obj:=co n q t (t+1) (t+2) (j+1) i k a (a+1) (.ref (a+2)) (.ref (a+3)) (a+4) j
abbrev fp (n q:Str)(k:Nat)(m:Str)(t:Tok)(c:Addr):Obj:=fo n q (top k) (.str m t) c
abbrev fq (l:List (Int×Addr))(c:Int):Obj:=fdO (l.flatMap λx=>[.int x.1 0,.int c 0,.ref x.2])
abbrev tyO (nw:String)(n:Str)(bs ms:List Value)(d:Addr)(ss:List Value)(b:Addr)(t1 t2:Tok):Obj:=.mk (.type "type") none (.cls (PySem.ClassData.mk n bs ms d n Bool.true [] ss Bool.false none Bool.false)) #[some (.ref b),none,some (.str n t1),some (.str n t2),some (.builtin nw),some (.bool Bool.true)]
abbrev uO (a:Addr):Obj:=.mk (.type "super") none (.fields #[.ref a,.ref a,.ref a]) #[]
noncomputable def kq:Params->PySem.W.Frag:=λP=>
 (nat_lit 3,(dO #[(de P "__name__" 165 (.str q1 1494)),(dn P q26 166),(dn P "__package__" 167),(de P "__loader__" 168 (.builtin q167)),(dn P "__spec__" 169),(dr P "__annotations__" 170 6),(dr P "__builtins__" 171 4),(de P "__file__" 173 (.str "/claim/cut.py" 172)),(dn P "__cached__" 174),(dr P "_wall" 193 21),(dr P Xy 203 28),(dr P XI 209 33),(dr P q71 218 40),(dr P q33 224 45),(dr P q39 235 52),(dr P q50 241 57),(dr P Xx 247 62),(dr P VT 267 72),(dr P V8 283 85),(dr P VO 299 97),(dr P q89 308 106),(dr P q24 317 113),(dr P q82 327 120),(dr P q90 336 127),(dr P "less" 344 134),(dr P q45 354 141),(dr P XH 363 148),(dr P XE 372 155),(dr P q43 380 162),(dr P q27 388 169),(dr P q49 398 176),(dr P q55 404 181),(dr P q67 412 188),(dr P q83 422 195),(dr P "hull" 430 202),(dr P "deep" 438 209),(dr P Xu 445 216),(dr P Xs 452 223),(dr P q47 461 230),(dr P q59 468 237),(dr P Xl 476 244),(dr P q40 485 251),(dr P q91 493 258),(dr P q48 506 265),(dr P q56 519 272),(dr P q57 529 279),(dr P q68 538 286),(dr P "root" 547 293),(dr P q72 561 300),(dr P "Node" 583 310),(dr P V6 651 359),(dr P V3 711 404),(dr P "Pair" 756 435),(dr P "Plus" 825 482),(dr P "Minus" 894 529),(dr P "Times" 963 576),(dr P "Power" 1026 621),(dr P q92 1033 630),(dr P q44 1046 637),(dr P "bars" 1054 644),(dr P "sure" 1062 651),(dr P XJ 1076 658),(dr P q34 1084 663),(dr P XA 1090 668),(dr P XN 1096 673),(dr P q28 1102 678),(dr P q29 1114 685),(dr P XZ 1120 690),(dr P X3 1126 695),(dr P XR 1132 700),(dr P q60 1142 707),(dr P q85 1152 714),(dr P q35 1158 719),(dr P q94 1164 724),(dr P X8 1170 729),(dr P q95 1180 736),(dr P q73 1196 743),(dr P q96 1211 750),(dr P q79 1222 757),(dr P q80 1233 764),(dr P XT 1241 771),(dr P q97 1249 778),(dr P q98 1262 785),(dr P XO 1278 792),(dr P Xm 1286 797),(dr P Xo 1293 804),(dr P "Book" 1366 852),(dr P XD 1378 863),(dr P X7 1395 870),(dr P q51 1401 875),(dr P q61 1414 882),(dr P X4 1427 889),(dr P q52 1435 896),(dr P q25 1445 903),(dr P "look" 1460 910),(dr P XS 1475 917),(dr P We 1481 922),(dr P Wa 1493 929),(dr P q41 1504 936),(dr P q74 1511 943),(dr P q86 1523 950),(dr P q53 1531 957),(dr P q99 1537 962),(dr P q31 1546 969),(dr P q75 1556 976),(dr P q62 1568 983),(dr P q76 1577 990),(dr P Wc 1585 997),(dr P X2 1604 1004),(dr P q87 1618 1011),(dr P XX 1630 1018),(dr P q88 1637 1025),(dr P q77 1644 1032),(dr P q78 1659 1039),(dr P q63 1665 1044),(dr P q64 1677 1051),(dr P q65 1683 1056),(dr P q54 1697 1063),(dr P "law" 1703 1068)] 119))::
 (nat_lit 27,cp Xy Xy 196 5 2 22 201)::
 (nat_lit 28,fp Xy Xy 2 q23 194 27)::
 (nat_lit 32,co XI XI 204 205 206 208 7 3 29 30 .none .none 31 207)::
 (nat_lit 33,fp XI XI 3 q23 194 32)::
 (nat_lit 39,cp q71 q71 210 10 3 34 216)::
 (nat_lit 40,fp q71 q71 4 q23 194 39)::
 (nat_lit 44,co q33 q33 219 220 221 223 12 1 41 42 .none .none 43 222)::
 (nat_lit 45,fp q33 q33 5 q23 194 44)::
 (nat_lit 51,cp q39 q39 225 16 5 46 233)::
 (nat_lit 52,fp q39 q39 6 q23 194 51)::
 (nat_lit 56,co q50 q50 236 237 238 240 18 4 53 54 .none .none 55 239)::
 (nat_lit 57,fp q50 q50 7 q23 194 56)::
 (nat_lit 61,co Xx Xx 242 243 244 246 20 2 58 59 .none .none 60 245)::
 (nat_lit 62,fp Xx Xx 8 q23 194 61)::
 (nat_lit 71,(dO #[(de P q10 257 (.str q37 248)),(de P q4 261 (.int 26 260)),(dr P q2 262 70),(dr P VI 264 73),(dn P q26 265)] 3))::
 (nat_lit 72,(tyO SA VT [(.type Vg)] [(r 72),(.type Vg),(.type Tx),(.type TC),(.type q32)] 71 [(r 85),(r 97)] 63 250 258))::
 (nat_lit 84,(dO #[(de P q10 275 (.str q37 248)),(de P q4 279 (.int 28 278)),(dr P q2 280 83),(dn P q26 281)] 2))::
 (nat_lit 85,(tyO SA V8 [(r 72)] [(r 85),(r 72),(.type Vg),(.type Tx),(.type TC),(.type q32)] 84 [] 76 268 276))::
 (nat_lit 96,(dO #[(de P q10 291 (.str q37 248)),(de P q4 295 (.int 30 294)),(dr P q2 296 95),(dn P q26 297)] 2))::
 (nat_lit 97,(tyO SA VO [(r 72)] [(r 97),(r 72),(.type Vg),(.type Tx),(.type TC),(.type q32)] 96 [] 88 284 292))::
 (nat_lit 105,cp q89 q89 302 33 1 100 306)::
 (nat_lit 106,fp q89 q89 14 q42 300 105)::
 (nat_lit 112,cp q24 q24 309 35 2 107 315)::
 (nat_lit 113,fp q24 q24 15 q42 300 112)::
 (nat_lit 119,cp q82 q82 318 41 2 114 325)::
 (nat_lit 120,fp q82 q82 16 q42 300 119)::
 (nat_lit 126,cp q90 q90 328 46 2 121 334)::
 (nat_lit 127,fp q90 q90 17 q42 300 126)::
 (nat_lit 133,cp "less" "less" 337 53 2 128 342)::
 (nat_lit 134,fp "less" "less" 18 q42 300 133)::
 (nat_lit 140,cp q45 q45 347 56 2 135 352)::
 (nat_lit 141,fp q45 q45 20 q8 345 140)::
 (nat_lit 147,cp XH XH 355 58 3 142 361)::
 (nat_lit 148,fp XH XH 21 q8 345 147)::
 (nat_lit 154,cp XE XE 364 62 3 149 370)::
 (nat_lit 155,fp XE XE 22 q8 345 154)::
 (nat_lit 161,cp q43 q43 373 64 2 156 378)::
 (nat_lit 162,fp q43 q43 23 q8 345 161)::
 (nat_lit 168,cp q27 q27 381 66 2 163 386)::
 (nat_lit 169,fp q27 q27 24 q8 345 168)::
 (nat_lit 175,cp q49 q49 389 68 3 170 396)::
 (nat_lit 176,fp q49 q49 25 q8 345 175)::
 (nat_lit 180,co q55 q55 399 400 401 403 71 3 177 178 .none .none 179 402)::
 (nat_lit 181,fp q55 q55 26 q8 345 180)::
 (nat_lit 187,cp q67 q67 405 78 2 182 410)::
 (nat_lit 188,fp q67 q67 27 q8 345 187)::
 (nat_lit 194,cp q83 q83 413 80 2 189 420)::
 (nat_lit 195,fp q83 q83 28 q8 345 194)::
 (nat_lit 201,cp "hull" "hull" 423 86 2 196 428)::
 (nat_lit 202,fp "hull" "hull" 29 q8 345 201)::
 (nat_lit 208,cp "deep" "deep" 431 88 2 203 436)::
 (nat_lit 209,fp "deep" "deep" 30 q8 345 208)::
 (nat_lit 215,cp Xu Xu 439 90 1 210 443)::
 (nat_lit 216,fp Xu Xu 31 q8 345 215)::
 (nat_lit 222,cp Xs Xs 446 92 1 217 450)::
 (nat_lit 223,fp Xs Xs 32 q8 345 222)::
 (nat_lit 229,cp q47 q47 455 95 1 224 459)::
 (nat_lit 230,fp q47 q47 34 q13 453 229)::
 (nat_lit 236,cp q59 q59 462 97 1 231 466)::
 (nat_lit 237,fp q59 q59 35 q13 453 236)::
 (nat_lit 243,cp Xl Xl 469 99 2 238 474)::
 (nat_lit 244,fp Xl Xl 36 q13 453 243)::
 (nat_lit 250,cp q40 q40 477 105 3 245 483)::
 (nat_lit 251,fp q40 q40 37 q13 453 250)::
 (nat_lit 257,cp q91 q91 486 109 2 252 491)::
 (nat_lit 258,fp q91 q91 38 q13 453 257)::
 (nat_lit 264,cp q48 q48 494 111 3 259 504)::
 (nat_lit 265,fp q48 q48 39 q13 453 264)::
 (nat_lit 271,cp q56 q56 507 117 4 266 517)::
 (nat_lit 272,fp q56 q56 40 q13 453 271)::
 (nat_lit 278,cp q57 q57 520 128 2 273 527)::
 (nat_lit 279,fp q57 q57 41 q13 453 278)::
 (nat_lit 285,cp q68 q68 530 137 3 280 536)::
 (nat_lit 286,fp q68 q68 42 q13 453 285)::
 (nat_lit 292,cp "root" "root" 539 139 2 287 545)::
 (nat_lit 293,fp "root" "root" 43 q13 453 292)::
 (nat_lit 299,cp q72 q72 548 146 4 294 559)::
 (nat_lit 300,fp q72 q72 44 q13 453 299)::
 (nat_lit 309,(dO #[(de P q10 571 (.str q0 562)),(de P q4 575 (.int 157 574)),(dr P q2 576 308),(dr P Tq 578 311),(dr P VI 580 312),(dn P q26 581)] 4))::
 (nat_lit 310,(.mk (.type "type") none (.cls (PySem.ClassData.mk "Node" [(.type q32)] [(r 310),(.type q32)] 309 "Node" Bool.true [] [(r 359),(r 404),(r 435),(r 621)] Bool.false none Bool.false)) #[none,none,(some (.str "Node" 564)),(some (.str "Node" 572)),(some (.builtin q21)),(some (.bool Bool.true))]))::
 (nat_lit 327,cp q5 R6 596 161 3 322 602)::
 (nat_lit 328,fo q5 R6 (Zo (top 47) 0) (.str q0 562) 327)::
 (nat_lit 341,cp q7 RJ 614 168 4 336 622)::
 (nat_lit 342,fo q7 RJ (Zo (top 47) 2) (.str q0 562) 341)::
 (nat_lit 348,cp "back" Qo 625 172 4 343 632)::
 (nat_lit 349,fo "back" Qo (Zo (top 47) 3) (.str q0 562) 348)::
 (nat_lit 355,cp q15 QP 635 175 5 350 643)::
 (nat_lit 356,fo q15 QP (Zo (top 47) 4) (.str q0 562) 355)::
 (nat_lit 358,(dO #[(de P q10 591 (.str q0 562)),(de P q4 595 (.int 159 594)),(dr P q5 604 328),(dr P q69 613 335),(dr P q7 624 342),(dr P "back" 634 349),(dr P q15 645 356),(dr P q2 648 357),(dn P q26 649)] 2))::
 (nat_lit 359,(tyO q21 V6 [(r 310)] [(r 359),(r 310),(.type q32)] 358 [] 315 584 592))::
 (nat_lit 374,cp q5 Qe 664 179 2 369 669)::
 (nat_lit 375,fo q5 Qe (Zo (top 48) 0) (.str q0 562) 374)::
 (nat_lit 388,cp q7 QX 681 185 4 383 688)::
 (nat_lit 389,fo q7 QX (Zo (top 48) 2) (.str q0 562) 388)::
 (nat_lit 395,cp "back" Qz 691 188 4 390 698)::
 (nat_lit 396,fo "back" Qz (Zo (top 48) 3) (.str q0 562) 395)::
 (nat_lit 400,co q15 Rz 701 702 703 705 191 5 397 398 .none .none 399 704)::
 (nat_lit 401,fo q15 Rz (Zo (top 48) 4) (.str q0 562) 400)::
 (nat_lit 403,(dO #[(de P q10 659 (.str q0 562)),(de P q4 663 (.int 177 662)),(dr P q5 671 375),(dr P q69 680 382),(dr P q7 690 389),(dr P "back" 700 396),(dr P q15 706 401),(dr P q2 708 402),(dn P q26 709)] 2))::
 (nat_lit 404,(tyO q21 V3 [(r 310)] [(r 404),(r 310),(.type q32)] 403 [] 362 652 660))::
 (nat_lit 419,cp q5 q81 724 195 3 414 730)::
 (nat_lit 420,fo q5 q81 (Zo (top 49) 0) (.str q0 562) 419)::
 (nat_lit 426,cp "back" Ue 733 199 4 421 742)::
 (nat_lit 427,fo "back" Ue (Zo (top 49) 1) (.str q0 562) 426)::
 (nat_lit 431,co q15 Uo 745 746 747 749 209 5 428 429 .none .none 430 748)::
 (nat_lit 432,fo q15 Uo (Zo (top 49) 2) (.str q0 562) 431)::
 (nat_lit 434,(dO #[(de P q10 719 (.str q0 562)),(de P q4 723 (.int 193 722)),(dr P q5 732 420),(dr P "back" 744 427),(dr P q15 750 432),(dr P q2 753 433),(dn P q26 754)] 2))::
 (nat_lit 435,(tyO q21 "Pair" [(r 310)] [(r 435),(r 310),(.type q32)] 434 [(r 482),(r 529),(r 576)] 407 712 720))::
 (nat_lit 457,cp q7 RV 778 218 4 452 785)::
 (nat_lit 458,fo q7 RV (Zo (top 50) 1) (.str q0 562) 457)::
 (nat_lit 464,cp q14 RN 788 221 5 459 796)::
 (nat_lit 465,fo q14 RN (Zo (top 50) 2) (.str q0 562) 464)::
 (nat_lit 471,cp q12 RS 799 224 5 466 807)::
 (nat_lit 472,fo q12 RS (Zo (top 50) 3) (.str q0 562) 471)::
 (nat_lit 478,cp q6 RL 810 227 6 473 819)::
 (nat_lit 479,fo q6 RL (Zo (top 50) 4) (.str q0 562) 478)::
 (nat_lit 481,(dO #[(de P q10 764 (.str q0 562)),(de P q4 768 (.int 213 767)),(dr P q69 777 451),(dr P q7 787 458),(dr P q14 798 465),(dr P q12 809 472),(dr P q6 821 479),(dr P q2 822 480),(dn P q26 823)] 2))::
 (nat_lit 482,(tyO q21 "Plus" [(r 435)] [(r 482),(r 435),(r 310),(.type q32)] 481 [] 438 757 765))::
 (nat_lit 504,cp q7 Qn 847 234 4 499 854)::
 (nat_lit 505,fo q7 Qn (Zo (top 51) 1) (.str q0 562) 504)::
 (nat_lit 511,cp q14 QO 857 237 5 506 865)::
 (nat_lit 512,fo q14 QO (Zo (top 51) 2) (.str q0 562) 511)::
 (nat_lit 518,cp q12 Rh 868 240 5 513 876)::
 (nat_lit 519,fo q12 Rh (Zo (top 51) 3) (.str q0 562) 518)::
 (nat_lit 525,cp q6 Rr 879 243 6 520 888)::
 (nat_lit 526,fo q6 Rr (Zo (top 51) 4) (.str q0 562) 525)::
 (nat_lit 528,(dO #[(de P q10 833 (.str q0 562)),(de P q4 837 (.int 229 836)),(dr P q69 846 498),(dr P q7 856 505),(dr P q14 867 512),(dr P q12 878 519),(dr P q6 890 526),(dr P q2 891 527),(dn P q26 892)] 2))::
 (nat_lit 529,(tyO q21 "Minus" [(r 435)] [(r 529),(r 435),(r 310),(.type q32)] 528 [] 485 826 834))::
 (nat_lit 551,cp q7 Qy 916 250 4 546 923)::
 (nat_lit 552,fo q7 Qy (Zo (top 52) 1) (.str q0 562) 551)::
 (nat_lit 558,cp q14 Qw 926 253 5 553 934)::
 (nat_lit 559,fo q14 Qw (Zo (top 52) 2) (.str q0 562) 558)::
 (nat_lit 565,cp q12 Rn 937 256 5 560 945)::
 (nat_lit 566,fo q12 Rn (Zo (top 52) 3) (.str q0 562) 565)::
 (nat_lit 572,cp q6 RH 948 259 6 567 957)::
 (nat_lit 573,fo q6 RH (Zo (top 52) 4) (.str q0 562) 572)::
 (nat_lit 575,(dO #[(de P q10 902 (.str q0 562)),(de P q4 906 (.int 245 905)),(dr P q69 915 545),(dr P q7 925 552),(dr P q14 936 559),(dr P q12 947 566),(dr P q6 959 573),(dr P q2 960 574),(dn P q26 961)] 2))::
 (nat_lit 576,(tyO q21 "Times" [(r 435)] [(r 576),(r 435),(r 310),(.type q32)] 575 [] 532 895 903))::
 (nat_lit 591,cp q5 Qg 976 263 3 586 982)::
 (nat_lit 592,fo q5 Qg (Zo (top 53) 0) (.str q0 562) 591)::
 (nat_lit 605,cp q7 R0 994 270 4 600 1001)::
 (nat_lit 606,fo q7 R0 (Zo (top 53) 2) (.str q0 562) 605)::
 (nat_lit 612,cp "back" RZ 1004 273 4 607 1012)::
 (nat_lit 613,fo "back" RZ (Zo (top 53) 3) (.str q0 562) 612)::
 (nat_lit 617,co q15 QQ 1015 1016 1017 1019 279 5 614 615 .none .none 616 1018)::
 (nat_lit 618,fo q15 QQ (Zo (top 53) 4) (.str q0 562) 617)::
 (nat_lit 620,(dO #[(de P q10 971 (.str q0 562)),(de P q4 975 (.int 261 974)),(dr P q5 984 592),(dr P q69 993 599),(dr P q7 1003 606),(dr P "back" 1014 613),(dr P q15 1020 618),(dr P q2 1023 619),(dn P q26 1024)] 2))::
 (nat_lit 621,(tyO q21 "Power" [(r 310)] [(r 621),(r 310),(.type q32)] 620 [] 579 964 972))::
 (nat_lit 629,cp q92 q92 1027 283 1 624 1031)::
 (nat_lit 630,fp q92 q92 54 q0 562 629)::
 (nat_lit 636,cp q44 q44 1036 296 3 631 1044)::
 (nat_lit 637,fp q44 q44 56 So 1034 636)::
 (nat_lit 643,cp "bars" "bars" 1047 301 2 638 1052)::
 (nat_lit 644,fp "bars" "bars" 57 So 1034 643)::
 (nat_lit 650,cp "sure" "sure" 1055 305 2 645 1060)::
 (nat_lit 651,fp "sure" "sure" 58 So 1034 650)::
 (nat_lit 657,cp XJ XJ 1065 310 3 652 1074)::
 (nat_lit 658,fp XJ XJ 60 "boxnarrow.sloping" 1063 657)::
 (nat_lit 662,co q34 q34 1079 1080 1081 1083 317 1 659 660 .none .none 661 1082)::
 (nat_lit 663,fp q34 q34 62 q9 1077 662)::
 (nat_lit 667,co XA XA 1085 1086 1087 1089 319 2 664 665 .none .none 666 1088)::
 (nat_lit 668,fp XA XA 63 q9 1077 667)::
 (nat_lit 672,co XN XN 1091 1092 1093 1095 321 1 669 670 .none .none 671 1094)::
 (nat_lit 673,fp XN XN 64 q9 1077 672)::
 (nat_lit 677,co q28 q28 1097 1098 1099 1101 323 1 674 675 .none .none 676 1100)::
 (nat_lit 678,fp q28 q28 65 q9 1077 677)::
 (nat_lit 684,cp q29 q29 1103 325 3 679 1112)::
 (nat_lit 685,fp q29 q29 66 q9 1077 684)::
 (nat_lit 689,co XZ XZ 1115 1116 1117 1119 330 5 686 687 .none .none 688 1118)::
 (nat_lit 690,fp XZ XZ 67 q9 1077 689)::
 (nat_lit 694,co X3 X3 1121 1122 1123 1125 334 6 691 692 .none .none 693 1124)::
 (nat_lit 695,fp X3 X3 68 q9 1077 694)::
 (nat_lit 699,co XR XR 1127 1128 1129 1131 341 5 696 697 .none .none 698 1130)::
 (nat_lit 700,fp XR XR 69 q9 1077 699)::
 (nat_lit 706,cp q60 q60 1133 343 4 701 1140)::
 (nat_lit 707,fp q60 q60 70 q9 1077 706)::
 (nat_lit 713,cp q85 q85 1143 345 4 708 1150)::
 (nat_lit 714,fp q85 q85 71 q9 1077 713)::
 (nat_lit 718,co q35 q35 1153 1154 1155 1157 347 2 715 716 .none .none 717 1156)::
 (nat_lit 719,fp q35 q35 72 q9 1077 718)::
 (nat_lit 723,co q94 q94 1159 1160 1161 1163 349 2 720 721 .none .none 722 1162)::
 (nat_lit 724,fp q94 q94 73 q9 1077 723)::
 (nat_lit 728,co X8 X8 1165 1166 1167 1169 351 4 725 726 .none .none 727 1168)::
 (nat_lit 729,fp X8 X8 74 q9 1077 728)::
 (nat_lit 735,cp q95 q95 1173 364 2 730 1178)::
 (nat_lit 736,fp q95 q95 76 U3 1171 735)::
 (nat_lit 742,cp q73 q73 1181 368 4 737 1194)::
 (nat_lit 743,fp q73 q73 77 U3 1171 742)::
 (nat_lit 749,cp q96 q96 1197 382 4 744 1209)::
 (nat_lit 750,fp q96 q96 78 U3 1171 749)::
 (nat_lit 756,cp q79 q79 1214 393 3 751 1220)::
 (nat_lit 757,fp q79 q79 80 q30 1212 756)::
 (nat_lit 763,cp q80 q80 1223 395 4 758 1231)::
 (nat_lit 764,fp q80 q80 81 q30 1212 763)::
 (nat_lit 770,cp XT XT 1234 398 2 765 1239)::
 (nat_lit 771,fp XT XT 82 q30 1212 770)::
 (nat_lit 777,cp q97 q97 1242 400 2 772 1247)::
 (nat_lit 778,fp q97 q97 83 q30 1212 777)::
 (nat_lit 784,cp q98 q98 1250 402 5 779 1260)::
 (nat_lit 785,fp q98 q98 84 q30 1212 784)::
 (nat_lit 791,cp XO XO 1263 408 4 786 1276)::
 (nat_lit 792,fp XO XO 85 q30 1212 791)::
 (nat_lit 796,co Xm Xm 1281 1282 1283 1285 423 1 793 794 .none .none 795 1284)::
 (nat_lit 797,fp Xm Xm 87 q3 1279 796)::
 (nat_lit 803,cp Xo Xo 1287 425 1 798 1291)::
 (nat_lit 804,fp Xo Xo 88 q3 1279 803)::
 (nat_lit 817,cp q5 QE 1306 429 2 812 1311)::
 (nat_lit 818,fo q5 QE (Zo (top 89) 0) (.str q3 1279) 817)::
 (nat_lit 824,cp WJ R7 1314 433 2 819 1319)::
 (nat_lit 825,fo WJ R7 (Zo (top 89) 1) (.str q3 1279) 824)::
 (nat_lit 831,cp XU QV 1322 438 3 826 1328)::
 (nat_lit 832,fo XU QV (Zo (top 89) 2) (.str q3 1279) 831)::
 (nat_lit 838,cp "part" QS 1331 441 4 833 1342)::
 (nat_lit 839,fo "part" QS (Zo (top 89) 3) (.str q3 1279) 838)::
 (nat_lit 843,co q93 TK 1345 1346 1347 1349 449 1 840 841 .none .none 842 1348)::
 (nat_lit 844,fo q93 TK (Zo (top 89) 4) (.str q3 1279) 843)::
 (nat_lit 848,co Wg QA 1351 1352 1353 1355 453 1 845 846 .none .none 847 1354)::
 (nat_lit 849,fo Wg QA (Zo (top 89) 5) (.str q3 1279) 848)::
 (nat_lit 851,(dO #[(de P q10 1301 (.str q3 1279)),(de P q4 1305 (.int 427 1304)),(dr P q5 1313 818),(dr P WJ 1321 825),(dr P XU 1330 832),(dr P "part" 1344 839),(dr P q93 1350 844),(dr P Wg 1356 849),(dr P q2 1359 850),(dr P Tq 1361 853),(dr P VI 1363 854),(dn P q26 1364)] 4))::
 (nat_lit 852,(.mk (.type "type") none (.cls (PySem.ClassData.mk "Book" [(.type q32)] [(r 852),(.type q32)] 851 "Book" Bool.true [] [] Bool.false none Bool.false)) #[none,none,(some (.str "Book" 1294)),(some (.str "Book" 1302)),(some (.builtin q21)),(some (.bool Bool.true))]))::
 (nat_lit 862,cp XD XD 1367 455 5 857 1376)::
 (nat_lit 863,fp XD XD 90 q3 1279 862)::
 (nat_lit 869,cp X7 X7 1379 458 5 864 1393)::
 (nat_lit 870,fp X7 X7 91 q3 1279 869)::
 (nat_lit 874,co q51 q51 1396 1397 1398 1400 470 5 871 872 .none .none 873 1399)::
 (nat_lit 875,fp q51 q51 92 q3 1279 874)::
 (nat_lit 881,cp q61 q61 1402 477 5 876 1412)::
 (nat_lit 882,fp q61 q61 93 q3 1279 881)::
 (nat_lit 888,cp X4 X4 1415 483 5 883 1425)::
 (nat_lit 889,fp X4 X4 94 q3 1279 888)::
 (nat_lit 895,cp q52 q52 1428 491 2 890 1433)::
 (nat_lit 896,fp q52 q52 95 q3 1279 895)::
 (nat_lit 902,cp q25 q25 1436 493 2 897 1443)::
 (nat_lit 903,fp q25 q25 96 q3 1279 902)::
 (nat_lit 909,cp "look" "look" 1446 497 6 904 1458)::
 (nat_lit 910,fp "look" "look" 97 q3 1279 909)::
 (nat_lit 916,cp XS XS 1461 508 6 911 1473)::
 (nat_lit 917,fp XS XS 98 q3 1279 916)::
 (nat_lit 921,co We We 1476 1477 1478 1480 516 3 918 919 .none .none 920 1479)::
 (nat_lit 922,fp We We 99 q3 1279 921)::
 (nat_lit 928,cp Wa Wa 1482 518 3 923 1491)::
 (nat_lit 929,fp Wa Wa 100 q3 1279 928)::
 (nat_lit 935,cp q41 q41 1496 529 2 930 1502)::
 (nat_lit 936,fp q41 q41 102 q1 1494 935)::
 (nat_lit 942,cp q74 q74 1505 534 1 937 1509)::
 (nat_lit 943,fp q74 q74 103 q1 1494 942)::
 (nat_lit 949,cp q86 q86 1512 536 2 944 1521)::
 (nat_lit 950,fp q86 q86 104 q1 1494 949)::
 (nat_lit 956,cp q53 q53 1524 550 2 951 1529)::
 (nat_lit 957,fp q53 q53 105 q1 1494 956)::
 (nat_lit 961,co q99 q99 1532 1533 1534 1536 556 2 958 959 .none .none 960 1535)::
 (nat_lit 962,fp q99 q99 106 q1 1494 961)::
 (nat_lit 968,cp q31 q31 1538 566 2 963 1544)::
 (nat_lit 969,fp q31 q31 107 q1 1494 968)::
 (nat_lit 975,cp q75 q75 1547 574 2 970 1554)::
 (nat_lit 976,fp q75 q75 108 q1 1494 975)::
 (nat_lit 982,cp q62 q62 1557 579 2 977 1566)::
 (nat_lit 983,fp q62 q62 109 q1 1494 982)::
 (nat_lit 989,cp q76 q76 1569 599 1 984 1575)::
 (nat_lit 990,fp q76 q76 110 q1 1494 989)::
 (nat_lit 996,cp Wc Wc 1578 604 2 991 1583)::
 (nat_lit 997,fp Wc Wc 111 q1 1494 996)::
 (nat_lit 1003,cp X2 X2 1586 608 5 998 1602)::
 (nat_lit 1004,fp X2 X2 112 q1 1494 1003)::
 (nat_lit 1010,cp q87 q87 1605 622 4 1005 1616)::
 (nat_lit 1011,fp q87 q87 113 q1 1494 1010)::
 (nat_lit 1017,cp XX XX 1619 633 2 1012 1628)::
 (nat_lit 1018,fp XX XX 114 q1 1494 1017)::
 (nat_lit 1024,cp q88 q88 1631 650 1 1019 1635)::
 (nat_lit 1025,fp q88 q88 115 q1 1494 1024)::
 (nat_lit 1031,cp q77 q77 1638 654 1 1026 1642)::
 (nat_lit 1032,fp q77 q77 116 q1 1494 1031)::
 (nat_lit 1038,cp q78 q78 1645 656 3 1033 1657)::
 (nat_lit 1039,fp q78 q78 117 q1 1494 1038)::
 (nat_lit 1043,co q63 q63 1660 1661 1662 1664 664 3 1040 1041 .none .none 1042 1663)::
 (nat_lit 1044,fp q63 q63 118 q1 1494 1043)::
 (nat_lit 1050,cp q64 q64 1666 666 3 1045 1675)::
 (nat_lit 1051,fp q64 q64 119 q1 1494 1050)::
 (nat_lit 1055,co q65 q65 1678 1679 1680 1682 676 4 1052 1053 .none .none 1054 1681)::
 (nat_lit 1056,fp q65 q65 120 q1 1494 1055)::
 (nat_lit 1062,cp q54 q54 1684 688 4 1057 1695)::
 (nat_lit 1063,fp q54 q54 121 q1 1494 1062)::
 (nat_lit 1067,co "law" "law" 1698 1699 1700 1702 697 1 1064 1065 .none .none 1066 1701)::
 (nat_lit 1068,fp "law" "law" 122 q1 1494 1067)::[]
noncomputable def kp:Params->PySem.W.Frag:=λP=>(nat_lit 841,⟨.none,none,.fields #[],#[]⟩)::kq P
def ks:List Addr:=841::3::27::28::32::33::39::40::44::45::51::52::56::57::61::62::71::72::84::85::96::97::105::106::112::113::119::120::126::127::133::134::140::141::147::148::154::155::161::162::168::169::175::176::180::181::187::188::194::195::201::202::208::209::215::216::222::223::229::230::236::237::243::244::250::251::257::258::264::265::271::272::278::279::285::286::292::293::299::300::309::310::327::328::341::342::348::349::355::356::358::359::374::375::388::389::395::396::400::401::403::404::419::420::426::427::431::432::434::435::457::458::464::465::471::472::478::479::481::482::504::505::511::512::518::519::525::526::528::529::551::552::558::559::565::566::572::573::575::576::591::592::605::606::612::613::617::618::620::621::629::630::636::637::643::644::650::651::657::658::662::663::667::668::672::673::677::678::684::685::689::690::694::695::699::700::706::707::713::714::718::719::723::724::728::729::735::736::742::743::749::750::756::757::763::764::770::771::777::778::784::785::791::792::796::797::803::804::817::818::824::825::831::832::838::839::843::844::848::849::851::852::862::863::869::870::874::875::881::882::888::889::895::896::902::903::909::910::916::917::921::922::928::929::935::936::942::943::949::950::956::957::961::962::968::969::975::976::982::983::989::990::996::997::1003::1004::1010::1011::1017::1018::1024::1025::1031::1032::1038::1039::1043::1044::1050::1051::1055::1056::1062::1063::1067::1068::[]
theorem VV (P:Params):ks=(kp P).map (·.1):=by kernel_rfl
noncomputable abbrev hk:W.Hook:=W.kHook kp ks VV
abbrev xt (s:Shared):Bool:=W.xlAt vw [] s&&W.recOk (W.RowW.records (W.OpenRow.toRowW (W.OpenLaw.row PySem.Challenge.rw_boxnarrow_k53_leaf_of_points))) s
theorem KN:W.opening QW=W.plainProg QW.main.scope.names:=by kernel_rfl
theorem fe_eq (s:Shared):PySem.fenceModules? QW s=some s:=by kernel_rfl
theorem si_eq (w:World):((W.boot_heap w.params).isNs mainGlobals&&(Array.mk []:Array GenState).size==0,(W.boot_heap w.params).objs.size,(W.boot_heap w.params).nsMap mainGlobals "__annotations__")=(true,11,some (.ref 6)):=by kernel_rfl
open PySem.W PySem.Calls
def ev:Env:={ scope:=QW.main.scope,locals:=mainNs,globals:=mainNs,cells:=[],code:=.ref 13,frame:=some 14 }
abbrev bI:List Stmt:=behindTheImports QW
abbrev cE:Code:=Code.body bI ev
abbrev fT:List Frame:=[topFrame ⟨0,0,0,0⟩]
noncomputable abbrev mS (k:Nat)(l:Params->List Obj)(n t:Nat)(w:World)(os:OsState):SharedT:=⟨L3.mkB k (l w.params),n,(boot_heap w.params).life,Array.mk [],boot_drawn,t,os⟩
noncomputable def mO0 (P:Params):List Obj:=[boot_o_0 P,boot_o_1 P,boot_o_2 P,boot_o_3 P,boot_o_4 P,boot_o_5 P,boot_o_6 P,boot_o_7 P,boot_o_8 P,boot_o_9 P,boot_o_10 P]++[tpO [],fdO [],(cO "<module>" 182 "<module>" 183 184 1 11 181 12 185 1 186),(gO 13 3 3 (.str "__main__" 164) 0)]
noncomputable def S0:=mS 5 mO0 15 187
theorem zhs (w:World):(λos=>L3.goK treeTable QW w 11 (some (.ref 6)) 12 (L3.RM w os) (topStub QW))=λos=>some (S0 w os,⟨denote treeTable cE,cE,⟨0,0,0,0⟩,fT⟩):=by kernel_rfl
theorem Ak (w:World):(λos=>segRunT treeTable QW w 11 (some (.ref 6)) 1 1 (S0 w os) (blockOf bI ev cE ⟨0,0,0,0⟩ fT))=λos=>some (.next,S0 w os,cE,⟨0,0,0,0⟩):=by kernel_rfl
noncomputable def mO1 (P:Params):List Obj:=[boot_o_0 P,boot_o_1 P,boot_o_2 P,(dO #[(de P "__name__" 165 (.str q13 453)),(dn P q26 166),(dn P "__package__" 167),(de P "__loader__" 168 (.builtin q167)),(dn P "__spec__" 169),(dr P "__annotations__" 170 6),(dr P "__builtins__" 171 4),(de P "__file__" 173 (.str "/claim/cut.py" 172)),(dn P "__cached__" 174),(dr P "_wall" 193 21),(dr P Xy 203 28),(dr P XI 209 33),(dr P q71 218 40),(dr P q33 224 45),(dr P q39 235 52),(dr P q50 241 57),(dr P Xx 247 62),(dr P VT 267 72),(dr P V8 283 85),(dr P VO 299 97),(dr P q89 308 106),(dr P q24 317 113),(dr P q82 327 120),(dr P q90 336 127),(dr P "less" 344 134),(dr P q45 354 141),(dr P XH 363 148),(dr P XE 372 155),(dr P q43 380 162),(dr P q27 388 169),(dr P q49 398 176),(dr P q55 404 181),(dr P q67 412 188),(dr P q83 422 195),(dr P "hull" 430 202),(dr P "deep" 438 209),(dr P Xu 445 216),(dr P Xs 452 223),(dr P q47 461 230),(dr P q59 468 237),(dr P Xl 476 244),(dr P q40 485 251),(dr P q91 493 258),(dr P q48 506 265),(dr P q56 519 272),(dr P q57 529 279),(dr P q68 538 286),(dr P "root" 547 293)] 48),boot_o_4 P,boot_o_5 P,boot_o_6 P,boot_o_7 P,boot_o_8 P,boot_o_9 P,boot_o_10 P]++[tpO [],fq [(1,20),(5,27),(7,32),(10,39),(12,44),(16,51),(18,56),(20,61),(26,68),(28,81),(30,93),(33,105),(35,112),(41,119),(46,126),(53,133),(56,140),(58,147),(62,154),(64,161),(66,168),(68,175),(71,180),(78,187),(80,194),(86,201),(88,208),(90,215),(92,222),(95,229),(97,236),(99,243),(105,250),(109,257),(111,264),(117,271),(128,278),(137,285),(139,292)] 0,(cO "<module>" 182 "<module>" 183 184 1 11 181 12 185 1 186),(gO 13 3 3 (.str "__main__" 164) 0)]++
 df "_wall" "_wall" (top 0) (.str "__main__" 164) 1 1 15 187 ["k"]++
 df Xy Xy (top 2) (.str q23 194) 5 2 22 196 [q17,Wv]++
 dg XI XI (top 3) (.str q23 194) 7 3 29 204++
 df q71 q71 (top 4) (.str q23 194) 10 3 34 210 [Xk,"row",WM]++
 dg q33 q33 (top 5) (.str q23 194) 12 1 41 219++
 df q39 q39 (top 6) (.str q23 194) 16 5 46 225 [Xk,"whole","row",WM,"grid"]++
 dg q50 q50 (top 7) (.str q23 194) 18 4 53 236++
 dg Xx Xx (top 8) (.str q23 194) 20 2 58 242++
 [tpO [(.type Vg)],(bO q38 (.type "type")),(dO #[(de P q10 257 (.str q37 248)),(de P q70 259 (.str VT 258)),(de P q4 261 (.int 26 260)),(dr P q2 262 70)] 4),tpO [],fdO [],(cO VT 252 VT 253 254 26 66 181 67 255 26 256),(gO 68 3 65 (.str q37 248) 0),tpO [],(dO #[(de P q10 257 (.str q37 248)),(de P q4 261 (.int 26 260)),(dr P q2 262 70),(dr P VI 264 73),(dn P q26 265)] 3),(tyO SA VT [(.type Vg)] [(r 72),(.type Vg),(.type Tx),(.type TC),(.type q32)] 71 [(r 85),(r 97)] 63 250 258),(.mk (.type QC) none (.fields #[(.str VI 263),(r 72),(.builtin q172),.none]) #[]),(uO 72),(bO q19 (r 72)),tpO [(r 72)],(bO q38 (.type "type")),(dO #[(de P q10 275 (.str q37 248)),(de P q70 277 (.str V8 276)),(de P q4 279 (.int 28 278)),(dr P q2 280 83)] 4),tpO [],fdO [],(cO V8 270 V8 271 272 28 79 181 80 273 28 274),(gO 81 3 78 (.str q37 248) 0),tpO [],(dO #[(de P q10 275 (.str q37 248)),(de P q4 279 (.int 28 278)),(dr P q2 280 83),(dn P q26 281)] 2),(tyO SA V8 [(r 72)] [(r 85),(r 72),(.type Vg),(.type Tx),(.type TC),(.type q32)] 84 [] 76 268 276),(uO 85),(bO q19 (r 85)),tpO [(r 72)],(bO q38 (.type "type")),(dO #[(de P q10 291 (.str q37 248)),(de P q70 293 (.str VO 292)),(de P q4 295 (.int 30 294)),(dr P q2 296 95)] 4),tpO [],fdO [],(cO VO 286 VO 287 288 30 91 181 92 289 30 290),(gO 93 3 90 (.str q37 248) 0),tpO [],(dO #[(de P q10 291 (.str q37 248)),(de P q4 295 (.int 30 294)),(dr P q2 296 95),(dn P q26 297)] 2),(tyO SA VO [(r 72)] [(r 97),(r 72),(.type Vg),(.type Tx),(.type TC),(.type q32)] 96 [] 88 284 292),(uO 97),(bO q19 (r 97))]++
 df q89 q89 (top 14) (.str q42 300) 33 1 100 302 ["value"]++
 df q24 q24 (top 15) (.str q42 300) 35 2 107 309 ["one",YJ,"rest"]++
 df q82 q82 (top 16) (.str q42 300) 41 2 114 318 [q17,"many","worth","step"]++
 df q90 q90 (top 17) (.str q42 300) 46 2 121 328 ["top",Xe,"divisor"]++
 df "less" "less" (top 18) (.str q42 300) 53 2 128 337 ["a","b"]++
 df q45 q45 (top 20) (.str q8 345) 56 2 135 347 ["top",Xe]++
 df XH XH (top 21) (.str q8 345) 58 3 142 355 ["low","high","grid"]++
 df XE XE (top 22) (.str q8 345) 62 3 149 364 ["span","a","grid"]++
 df q43 q43 (top 23) (.str q8 345) 64 2 156 373 ["a","b"]++
 df q27 q27 (top 24) (.str q8 345) 66 2 163 381 ["a","b"]++
 df q49 q49 (top 25) (.str q8 345) 68 3 170 389 ["a","b","grid",Uv]++
 dg q55 q55 (top 26) (.str q8 345) 71 3 177 399++
 df q67 q67 (top 27) (.str q8 345) 78 2 182 405 ["a","many"]++
 df q83 q83 (top 28) (.str q8 345) 80 2 189 413 ["a","b","low","high"]++
 df "hull" "hull" (top 29) (.str q8 345) 86 2 196 423 ["a","b"]++
 df "deep" "deep" (top 30) (.str q8 345) 88 2 203 431 ["a","b"]++
 df Xu Xu (top 31) (.str q8 345) 90 1 210 439 ["a"]++
 df Xs Xs (top 32) (.str q8 345) 92 1 217 446 ["a"]++
 df q47 q47 (top 34) (.str q13 453) 95 1 224 455 ["span"]++
 df q59 q59 (top 35) (.str q13 453) 97 1 231 462 ["pair"]++
 df Xl Xl (top 36) (.str q13 453) 99 2 238 469 ["one",YJ]++
 df q40 q40 (top 37) (.str q13 453) 105 3 245 477 ["x","low","high"]++
 df q91 q91 (top 38) (.str q13 453) 109 2 252 486 ["top",Xe]++
 df q48 q48 (top 39) (.str q13 453) 111 3 259 494 [Uv,"x","y","low_by","high_by","low","high"]++
 df q56 q56 (top 40) (.str q13 453) 117 4 266 507 ["z","x","y","grid",Uv,"left","turned"]++
 df q57 q57 (top 41) (.str q13 453) 128 2 273 520 [q17,"many","guess","better"]++
 df q68 q68 (top 42) (.str q13 453) 137 3 280 530 ["guess",q17,"many"]++
 df "root" "root" (top 43) (.str q13 453) 139 2 287 539 [q17,"many","below"]
noncomputable def S1:=mS 12 mO1 294 548
theorem p1_eq (w:World):(λos=>segRunT treeTable QW w 11 (some (.ref 6)) 1 1741 (S0 w os) (piecesOf (bI.take 44) ev cE ⟨0,0,0,0⟩ fT))=λos=>some (.next,S1 w os,cE,⟨139,0,145,29⟩):=by kernel_rfl
noncomputable def mO2 (P:Params):List Obj:=[boot_o_0 P,boot_o_1 P,boot_o_2 P,(dO #[(de P "__name__" 165 (.str q1 1494)),(dn P q26 166),(dn P "__package__" 167),(de P "__loader__" 168 (.builtin q167)),(dn P "__spec__" 169),(dr P "__annotations__" 170 6),(dr P "__builtins__" 171 4),(de P "__file__" 173 (.str "/claim/cut.py" 172)),(dn P "__cached__" 174),(dr P "_wall" 193 21),(dr P Xy 203 28),(dr P XI 209 33),(dr P q71 218 40),(dr P q33 224 45),(dr P q39 235 52),(dr P q50 241 57),(dr P Xx 247 62),(dr P VT 267 72),(dr P V8 283 85),(dr P VO 299 97),(dr P q89 308 106),(dr P q24 317 113),(dr P q82 327 120),(dr P q90 336 127),(dr P "less" 344 134),(dr P q45 354 141),(dr P XH 363 148),(dr P XE 372 155),(dr P q43 380 162),(dr P q27 388 169),(dr P q49 398 176),(dr P q55 404 181),(dr P q67 412 188),(dr P q83 422 195),(dr P "hull" 430 202),(dr P "deep" 438 209),(dr P Xu 445 216),(dr P Xs 452 223),(dr P q47 461 230),(dr P q59 468 237),(dr P Xl 476 244),(dr P q40 485 251),(dr P q91 493 258),(dr P q48 506 265),(dr P q56 519 272),(dr P q57 529 279),(dr P q68 538 286),(dr P "root" 547 293),(dr P q72 561 300),(dr P "Node" 583 310),(dr P V6 651 359),(dr P V3 711 404),(dr P "Pair" 756 435),(dr P "Plus" 825 482),(dr P "Minus" 894 529),(dr P "Times" 963 576),(dr P "Power" 1026 621),(dr P q92 1033 630),(dr P q44 1046 637),(dr P "bars" 1054 644),(dr P "sure" 1062 651),(dr P XJ 1076 658),(dr P q34 1084 663),(dr P XA 1090 668),(dr P XN 1096 673),(dr P q28 1102 678),(dr P q29 1114 685),(dr P XZ 1120 690),(dr P X3 1126 695),(dr P XR 1132 700),(dr P q60 1142 707),(dr P q85 1152 714),(dr P q35 1158 719),(dr P q94 1164 724),(dr P X8 1170 729),(dr P q95 1180 736),(dr P q73 1196 743),(dr P q96 1211 750),(dr P q79 1222 757),(dr P q80 1233 764),(dr P XT 1241 771),(dr P q97 1249 778),(dr P q98 1262 785),(dr P XO 1278 792),(dr P Xm 1286 797),(dr P Xo 1293 804),(dr P "Book" 1366 852),(dr P XD 1378 863),(dr P X7 1395 870),(dr P q51 1401 875),(dr P q61 1414 882),(dr P X4 1427 889),(dr P q52 1435 896),(dr P q25 1445 903),(dr P "look" 1460 910),(dr P XS 1475 917),(dr P We 1481 922),(dr P Wa 1493 929),(dr P q41 1504 936),(dr P q74 1511 943),(dr P q86 1523 950),(dr P q53 1531 957),(dr P q99 1537 962),(dr P q31 1546 969),(dr P q75 1556 976),(dr P q62 1568 983),(dr P q76 1577 990),(dr P Wc 1585 997),(dr P X2 1604 1004),(dr P q87 1618 1011),(dr P XX 1630 1018),(dr P q88 1637 1025),(dr P q77 1644 1032),(dr P q78 1659 1039),(dr P q63 1665 1044),(dr P q64 1677 1051),(dr P q65 1683 1056),(dr P q54 1697 1063)] 118),boot_o_4 P,boot_o_5 P,boot_o_6 P,boot_o_7 P,boot_o_8 P,boot_o_9 P,boot_o_10 P]++[tpO [],fq [(1,20),(5,27),(7,32),(10,39),(12,44),(16,51),(18,56),(20,61),(26,68),(28,81),(30,93),(33,105),(35,112),(41,119),(46,126),(53,133),(56,140),(58,147),(62,154),(64,161),(66,168),(68,175),(71,180),(78,187),(80,194),(86,201),(88,208),(90,215),(92,222),(95,229),(97,236),(99,243),(105,250),(109,257),(111,264),(117,271),(128,278),(137,285),(139,292),(146,299),(157,306),(159,320),(177,367),(193,412),(213,443),(229,490),(245,537),(261,584),(283,629),(296,636),(301,643),(305,650),(310,657),(317,662),(319,667),(321,672),(323,677),(325,684),(330,689),(334,694),(341,699),(343,706),(345,713),(347,718),(349,723),(351,728),(364,735),(368,742),(382,749),(393,756),(395,763),(398,770),(400,777),(402,784),(408,791),(423,796),(425,803),(427,810),(455,862),(458,869),(470,874),(477,881),(483,888),(491,895),(493,902),(497,909),(508,916),(516,921),(518,928),(529,935),(534,942),(536,949),(550,956),(556,961),(566,968),(574,975),(579,982),(599,989),(604,996),(608,1003),(622,1010),(633,1017),(650,1024),(654,1031),(656,1038),(664,1043),(666,1050),(676,1055),(688,1062)] 0]++
 (mO1 P).drop 13++
 df q72 q72 (top 44) (.str q13 453) 146 4 294 548 ["z","x","many","grid","scale","powers","low","high"]++
 [tpO [],(bO q38 (.type "type")),(dO #[(de P q10 571 (.str q0 562)),(de P q70 573 (.str "Node" 572)),(de P q4 575 (.int 157 574)),(dr P q2 576 308)] 4),tpO [],fdO [],(cO "Node" 566 "Node" 567 568 157 304 181 305 569 157 570),(gO 306 3 303 (.str q0 562) 0),tpO [],(dO #[(de P q10 571 (.str q0 562)),(de P q4 575 (.int 157 574)),(dr P q2 576 308),(dr P Tq 578 311),(dr P VI 580 312),(dn P q26 581)] 4),(.mk (.type "type") none (.cls (PySem.ClassData.mk "Node" [(.type q32)] [(r 310),(.type q32)] 309 "Node" Bool.true [] [(r 359),(r 404),(r 435),(r 621)] Bool.false none Bool.false)) #[none,none,(some (.str "Node" 564)),(some (.str "Node" 572)),(some (.builtin q21)),(some (.bool Bool.true))]),(.mk (.type QC) none (.fields #[(.str Tq 577),(r 310),(.builtin "function.__dict__"),(.builtin "function.__dict__#set")]) #[]),(.mk (.type QC) none (.fields #[(.str VI 579),(r 310),(.builtin q172),.none]) #[]),(uO 310),(bO q19 (r 310)),tpO [(r 310)],(bO q38 (.type "type")),(dO #[(de P q10 591 (.str q0 562)),(de P q70 593 (.str V6 592)),(de P q4 595 (.int 159 594)),(dr P q5 604 328),(dr P q69 613 335),(dr P q7 624 342),(dr P "back" 634 349),(dr P q15 645 356),(dr P q2 648 357)] 9),tpO [],fq [(161,327),(165,334),(168,341),(172,348),(175,355)] 4,(cO V6 586 V6 587 588 159 318 181 319 589 159 590),(gO 320 3 317 (.str q0 562) 0)]++
 df q5 R6 (Zo (top 47) 0) (.str q0 562) 161 3 322 596 ["self","top",Xe]++
 df q69 "Number.exact" (Zo (top 47) 1) (.str q0 562) 165 3 329 605 ["self",q44,Wo]++
 df q7 RJ (Zo (top 47) 2) (.str q0 562) 168 4 336 614 ["self",q11,"box","grid",q17]++
 df "back" Qo (Zo (top 47) 3) (.str q0 562) 172 4 343 625 ["self",q11,"here","grid"]++
 df q15 QP (Zo (top 47) 4) (.str q0 562) 175 5 350 635 ["self",q11,q84,Wi,"grid"]++
 [tpO [(.str Xe 646),(.str "top" 647)],(dO #[(de P q10 591 (.str q0 562)),(de P q4 595 (.int 159 594)),(dr P q5 604 328),(dr P q69 613 335),(dr P q7 624 342),(dr P "back" 634 349),(dr P q15 645 356),(dr P q2 648 357),(dn P q26 649)] 2),(tyO q21 V6 [(r 310)] [(r 359),(r 310),(.type q32)] 358 [] 315 584 592),(uO 359),(bO q19 (r 359)),tpO [(r 310)],(bO q38 (.type "type")),(dO #[(de P q10 659 (.str q0 562)),(de P q70 661 (.str V3 660)),(de P q4 663 (.int 177 662)),(dr P q5 671 375),(dr P q69 680 382),(dr P q7 690 389),(dr P "back" 700 396),(dr P q15 706 401),(dr P q2 708 402)] 9),tpO [],fq [(179,374),(182,381),(185,388),(188,395),(191,400)] 4,(cO V3 654 V3 655 656 177 365 181 366 657 177 658),(gO 367 3 364 (.str q0 562) 0)]++
 df q5 Qe (Zo (top 48) 0) (.str q0 562) 179 2 369 664 ["self",Wv]++
 df q69 "Unknown.exact" (Zo (top 48) 1) (.str q0 562) 182 3 376 672 ["self",q44,Wo]++
 df q7 QX (Zo (top 48) 2) (.str q0 562) 185 4 383 681 ["self",q11,"box","grid"]++
 df "back" Qz (Zo (top 48) 3) (.str q0 562) 188 4 390 691 ["self",q11,"here","grid"]++
 dg q15 Rz (Zo (top 48) 4) (.str q0 562) 191 5 397 701++
 [tpO [(.str Wv 707)],(dO #[(de P q10 659 (.str q0 562)),(de P q4 663 (.int 177 662)),(dr P q5 671 375),(dr P q69 680 382),(dr P q7 690 389),(dr P "back" 700 396),(dr P q15 706 401),(dr P q2 708 402),(dn P q26 709)] 2),(tyO q21 V3 [(r 310)] [(r 404),(r 310),(.type q32)] 403 [] 362 652 660),(uO 404),(bO q19 (r 404)),tpO [(r 310)],(bO q38 (.type "type")),(dO #[(de P q10 719 (.str q0 562)),(de P q70 721 (.str "Pair" 720)),(de P q4 723 (.int 193 722)),(dr P q5 732 420),(dr P "back" 744 427),(dr P q15 750 432),(dr P q2 753 433)] 7),tpO [],fq [(195,419),(199,426),(209,431)] 4,(cO "Pair" 714 "Pair" 715 716 193 410 181 411 717 193 718),(gO 412 3 409 (.str q0 562) 0)]++
 df q5 q81 (Zo (top 49) 0) (.str q0 562) 195 3 414 724 ["self","one",YJ]++
 df "back" Ue (Zo (top 49) 1) (.str q0 562) 199 4 421 733 ["self",q11,"here","grid","x","y"]++
 dg q15 Uo (Zo (top 49) 2) (.str q0 562) 209 5 428 745++
 [tpO [(.str "one" 751),(.str YJ 752)],(dO #[(de P q10 719 (.str q0 562)),(de P q4 723 (.int 193 722)),(dr P q5 732 420),(dr P "back" 744 427),(dr P q15 750 432),(dr P q2 753 433),(dn P q26 754)] 2),(tyO q21 "Pair" [(r 310)] [(r 435),(r 310),(.type q32)] 434 [(r 482),(r 529),(r 576)] 407 712 720),(uO 435),(bO q19 (r 435)),tpO [(r 435)],(bO q38 (.type "type")),(dO #[(de P q10 764 (.str q0 562)),(de P q70 766 (.str "Plus" 765)),(de P q4 768 (.int 213 767)),(dr P q69 777 451),(dr P q7 787 458),(dr P q14 798 465),(dr P q12 809 472),(dr P q6 821 479),(dr P q2 822 480)] 9),tpO [],fq [(215,450),(218,457),(221,464),(224,471),(227,478)] 4,(cO "Plus" 759 "Plus" 760 761 213 441 181 442 762 213 763),(gO 443 3 440 (.str q0 562) 0)]++
 df q69 "Plus.exact" (Zo (top 50) 0) (.str q0 562) 215 3 445 769 ["self",q44,Wo]++
 df q7 RV (Zo (top 50) 1) (.str q0 562) 218 4 452 778 ["self",q11,"box","grid"]++
 df q14 RN (Zo (top 50) 2) (.str q0 562) 221 5 459 788 ["self","here","x","y","grid"]++
 df q12 RS (Zo (top 50) 3) (.str q0 562) 224 5 466 799 ["self","here","x","y","grid"]++
 df q6 RL (Zo (top 50) 4) (.str q0 562) 227 6 473 810 ["self","x","y","a","b","grid"]++
 [tpO [],(dO #[(de P q10 764 (.str q0 562)),(de P q4 768 (.int 213 767)),(dr P q69 777 451),(dr P q7 787 458),(dr P q14 798 465),(dr P q12 809 472),(dr P q6 821 479),(dr P q2 822 480),(dn P q26 823)] 2),(tyO q21 "Plus" [(r 435)] [(r 482),(r 435),(r 310),(.type q32)] 481 [] 438 757 765),(uO 482),(bO q19 (r 482)),tpO [(r 435)],(bO q38 (.type "type")),(dO #[(de P q10 833 (.str q0 562)),(de P q70 835 (.str "Minus" 834)),(de P q4 837 (.int 229 836)),(dr P q69 846 498),(dr P q7 856 505),(dr P q14 867 512),(dr P q12 878 519),(dr P q6 890 526),(dr P q2 891 527)] 9),tpO [],fq [(231,497),(234,504),(237,511),(240,518),(243,525)] 4,(cO "Minus" 828 "Minus" 829 830 229 488 181 489 831 229 832),(gO 490 3 487 (.str q0 562) 0)]++
 df q69 "Minus.exact" (Zo (top 51) 0) (.str q0 562) 231 3 492 838 ["self",q44,Wo]++
 df q7 Qn (Zo (top 51) 1) (.str q0 562) 234 4 499 847 ["self",q11,"box","grid"]++
 df q14 QO (Zo (top 51) 2) (.str q0 562) 237 5 506 857 ["self","here","x","y","grid"]++
 df q12 Rh (Zo (top 51) 3) (.str q0 562) 240 5 513 868 ["self","here","x","y","grid"]++
 df q6 Rr (Zo (top 51) 4) (.str q0 562) 243 6 520 879 ["self","x","y","a","b","grid"]++
 [tpO [],(dO #[(de P q10 833 (.str q0 562)),(de P q4 837 (.int 229 836)),(dr P q69 846 498),(dr P q7 856 505),(dr P q14 867 512),(dr P q12 878 519),(dr P q6 890 526),(dr P q2 891 527),(dn P q26 892)] 2),(tyO q21 "Minus" [(r 435)] [(r 529),(r 435),(r 310),(.type q32)] 528 [] 485 826 834),(uO 529),(bO q19 (r 529)),tpO [(r 435)],(bO q38 (.type "type")),(dO #[(de P q10 902 (.str q0 562)),(de P q70 904 (.str "Times" 903)),(de P q4 906 (.int 245 905)),(dr P q69 915 545),(dr P q7 925 552),(dr P q14 936 559),(dr P q12 947 566),(dr P q6 959 573),(dr P q2 960 574)] 9),tpO [],fq [(247,544),(250,551),(253,558),(256,565),(259,572)] 4,(cO "Times" 897 "Times" 898 899 245 535 181 536 900 245 901),(gO 537 3 534 (.str q0 562) 0)]++
 df q69 "Times.exact" (Zo (top 52) 0) (.str q0 562) 247 3 539 907 ["self",q44,Wo]++
 df q7 Qy (Zo (top 52) 1) (.str q0 562) 250 4 546 916 ["self",q11,"box","grid"]++
 df q14 Qw (Zo (top 52) 2) (.str q0 562) 253 5 553 926 ["self","here","x","y","grid"]++
 df q12 Rn (Zo (top 52) 3) (.str q0 562) 256 5 560 937 ["self","here","x","y","grid"]++
 df q6 RH (Zo (top 52) 4) (.str q0 562) 259 6 567 948 ["self","x","y","a","b","grid"]++
 [tpO [],(dO #[(de P q10 902 (.str q0 562)),(de P q4 906 (.int 245 905)),(dr P q69 915 545),(dr P q7 925 552),(dr P q14 936 559),(dr P q12 947 566),(dr P q6 959 573),(dr P q2 960 574),(dn P q26 961)] 2),(tyO q21 "Times" [(r 435)] [(r 576),(r 435),(r 310),(.type q32)] 575 [] 532 895 903),(uO 576),(bO q19 (r 576)),tpO [(r 310)],(bO q38 (.type "type")),(dO #[(de P q10 971 (.str q0 562)),(de P q70 973 (.str "Power" 972)),(de P q4 975 (.int 261 974)),(dr P q5 984 592),(dr P q69 993 599),(dr P q7 1003 606),(dr P "back" 1014 613),(dr P q15 1020 618),(dr P q2 1023 619)] 9),tpO [],fq [(263,591),(267,598),(270,605),(273,612),(279,617)] 4,(cO "Power" 966 "Power" 967 968 261 582 181 583 969 261 970),(gO 584 3 581 (.str q0 562) 0)]++
 df q5 Qg (Zo (top 53) 0) (.str q0 562) 263 3 586 976 ["self","one","many"]++
 df q69 "Power.exact" (Zo (top 53) 1) (.str q0 562) 267 3 593 985 ["self",q44,Wo]++
 df q7 R0 (Zo (top 53) 2) (.str q0 562) 270 4 600 994 ["self",q11,"box","grid"]++
 df "back" RZ (Zo (top 53) 3) (.str q0 562) 273 4 607 1004 ["self",q11,"here","grid","x"]++
 dg q15 QQ (Zo (top 53) 4) (.str q0 562) 279 5 614 1015++
 [tpO [(.str "many" 1021),(.str "one" 1022)],(dO #[(de P q10 971 (.str q0 562)),(de P q4 975 (.int 261 974)),(dr P q5 984 592),(dr P q69 993 599),(dr P q7 1003 606),(dr P "back" 1014 613),(dr P q15 1020 618),(dr P q2 1023 619),(dn P q26 1024)] 2),(tyO q21 "Power" [(r 310)] [(r 621),(r 310),(.type q32)] 620 [] 579 964 972),(uO 621),(bO q19 (r 621))]++
 df q92 q92 (top 54) (.str q0 562) 283 1 624 1027 ["node"]++
 df q44 q44 (top 56) (.str So 1034) 296 3 631 1036 [q16,"box","grid","found","node"]++
 df "bars" "bars" (top 57) (.str So 1034) 301 2 638 1047 ["word","span"]++
 df "sure" "sure" (top 58) (.str So 1034) 305 2 645 1055 ["word","span"]++
 df XJ XJ (top 60) (.str "boxnarrow.sloping" 1063) 310 3 652 1065 [q16,"box","grid",q11,"found","node"]++
 dg q34 q34 (top 62) (.str q9 1077) 317 1 659 1079++
 dg XA XA (top 63) (.str q9 1077) 319 2 664 1085++
 dg XN XN (top 64) (.str q9 1077) 321 1 669 1091++
 dg q28 q28 (top 65) (.str q9 1077) 323 1 674 1097++
 df q29 q29 (top 66) (.str q9 1077) 325 3 679 1103 ["ones","others","grid","total","one",YJ]++
 dg XZ XZ (top 67) (.str q9 1077) 330 5 686 1115++
 dg X3 X3 (top 68) (.str q9 1077) 334 6 691 1121++
 dg XR XR (top 69) (.str q9 1077) 341 5 696 1127++
 df q60 q60 (top 70) (.str q9 1077) 343 4 701 1133 [q16,WE,"box","grid"]++
 df q85 q85 (top 71) (.str q9 1077) 345 4 708 1143 [q16,WE,"box","grid"]++
 dg q35 q35 (top 72) (.str q9 1077) 347 2 715 1153++
 dg q94 q94 (top 73) (.str q9 1077) 349 2 720 1159++
 dg X8 X8 (top 74) (.str q9 1077) 351 4 725 1165++
 df q95 q95 (top 76) (.str U3 1171) 364 2 730 1173 ["word","span"]++
 df q73 q73 (top 77) (.str U3 1171) 368 4 737 1181 [q16,"row","box","grid","at",q11,"wished",q17,"left","part"]++
 df q96 q96 (top 78) (.str U3 1171) 382 4 744 1197 [q16,"row","box","grid",q11,"left",q17,"span","node"]++
 df q79 q79 (top 80) (.str q30 1212) 393 3 751 1214 ["box","k","span"]++
 df q80 q80 (top 81) (.str q30 1212) 395 4 758 1223 [q16,"row","box","grid","at"]++
 df XT XT (top 82) (.str q30 1212) 398 2 765 1234 ["span","cut"]++
 df q97 q97 (top 83) (.str q30 1212) 400 2 772 1242 ["span","cut"]++
 df q98 q98 (top 84) (.str q30 1212) 402 5 779 1250 [q16,"row","box","grid","cut","k","span"]++
 df XO XO (top 85) (.str q30 1212) 408 4 786 1263 [q16,"row","box","grid","left","wished","cuts","k","span","cut"]++
 dg Xm Xm (top 87) (.str q3 1279) 423 1 793 1281++
 df Xo Xo (top 88) (.str q3 1279) 425 1 798 1287 ["box"]++
 [tpO [],(bO q38 (.type "type")),(dO #[(de P q10 1301 (.str q3 1279)),(de P q70 1303 (.str "Book" 1302)),(de P q4 1305 (.int 427 1304)),(dr P q5 1313 818),(dr P WJ 1321 825),(dr P XU 1330 832),(dr P "part" 1344 839),(dr P q93 1350 844),(dr P Wg 1356 849),(dr P q2 1359 850)] 10),tpO [],fq [(429,817),(433,824),(438,831),(441,838),(449,843),(453,848)] 4,(cO "Book" 1296 "Book" 1297 1298 427 808 181 809 1299 427 1300),(gO 810 3 807 (.str q3 1279) 0)]++
 df q5 QE (Zo (top 89) 0) (.str q3 1279) 429 2 812 1306 ["self","box"]++
 df WJ R7 (Zo (top 89) 1) (.str q3 1279) 433 2 819 1314 ["self","box"]++
 df XU QV (Zo (top 89) 2) (.str q3 1279) 438 3 826 1322 ["self",q17,"fate"]++
 df "part" QS (Zo (top 89) 3) (.str q3 1279) 441 4 833 1331 ["self",q17,"k",Wv,"box","span","a","b"]++
 dg q93 TK (Zo (top 89) 4) (.str q3 1279) 449 1 840 1345++
 dg Wg QA (Zo (top 89) 5) (.str q3 1279) 453 1 845 1351++
 [tpO [(.str "boxes" 1357),(.str "fates" 1358)],(dO #[(de P q10 1301 (.str q3 1279)),(de P q4 1305 (.int 427 1304)),(dr P q5 1313 818),(dr P WJ 1321 825),(dr P XU 1330 832),(dr P "part" 1344 839),(dr P q93 1350 844),(dr P Wg 1356 849),(dr P q2 1359 850),(dr P Tq 1361 853),(dr P VI 1363 854),(dn P q26 1364)] 4),(.mk (.type "type") none (.cls (PySem.ClassData.mk "Book" [(.type q32)] [(r 852),(.type q32)] 851 "Book" Bool.true [] [] Bool.false none Bool.false)) #[none,none,(some (.str "Book" 1294)),(some (.str "Book" 1302)),(some (.builtin q21)),(some (.bool Bool.true))]),(.mk (.type QC) none (.fields #[(.str Tq 1360),(r 852),(.builtin "function.__dict__"),(.builtin "function.__dict__#set")]) #[]),(.mk (.type QC) none (.fields #[(.str VI 1362),(r 852),(.builtin q172),.none]) #[]),(uO 852),(bO q19 (r 852))]++
 df XD XD (top 90) (.str q3 1279) 455 5 857 1367 [q16,"rows","r","box","grid","at"]++
 df X7 X7 (top 91) (.str q3 1279) 458 5 864 1379 ["book",q16,"rows","grid",q17,"r","row","found","cut","parts","thrown"]++
 dg q51 q51 (top 92) (.str q3 1279) 470 5 871 1396++
 df q61 q61 (top 93) (.str q3 1279) 477 5 876 1402 [q16,"rows","box","grid",q11,"found","thin"]++
 df X4 X4 (top 94) (.str q3 1279) 483 5 883 1415 [q16,"rows","box","grid","fine",q11,"fate"]++
 df q52 q52 (top 95) (.str q3 1279) 491 2 890 1428 ["box","began"]++
 df q25 q25 (top 96) (.str q3 1279) 493 2 897 1436 ["book",q17,"box","k"]++
 df "look" "look" (top 97) (.str q3 1279) 497 6 904 1446 ["book",q16,"rows","grid","fine",q17,"began","box","fate"]++
 df XS XS (top 98) (.str q3 1279) 508 6 911 1461 [q16,"rows","box","grid","fine","looks","book","time",q17]++
 dg We We (top 99) (.str q3 1279) 516 3 918 1476++
 df Wa Wa (top 100) (.str q3 1279) 518 3 923 1482 ["book",Wo,"grid",q17,"fate","is_above"]++
 df q41 q41 (top 102) (.str q1 1494) 529 2 930 1496 [q66,WO,q36]++
 df q74 q74 (top 103) (.str q1 1494) 534 1 937 1505 [W5]++
 df q86 q86 (top 104) (.str q1 1494) 536 2 944 1512 [q36,"_law_size","_law_kind","_law_part",Ld,"_law_word"]++
 df q53 q53 (top 105) (.str q1 1494) 550 2 951 1524 [q58,TN]++
 dg q99 q99 (top 106) (.str q1 1494) 556 2 958 1532++
 df q31 q31 (top 107) (.str q1 1494) 566 2 963 1538 [XQ,"_law_b","_law_rest"]++
 df q75 q75 (top 108) (.str q1 1494) 574 2 970 1547 [XQ,QD,W5,"_law_turn"]++
 df q62 q62 (top 109) (.str q1 1494) 579 2 977 1557 [q46,q20,W5,q58,XQ,"_law_b"]++
 df q76 q76 (top 110) (.str q1 1494) 599 1 984 1569 [q46,TN,q58]++
 df Wc Wc (top 111) (.str q1 1494) 604 2 991 1578 [q46,q58]++
 df X2 X2 (top 112) (.str q1 1494) 608 5 998 1586 [q46,q22,q18,q36,Q2,Up,"_law_word",q20,"_law_span",XQ,Ux,UY,Ld]++
 df q87 q87 (top 113) (.str q1 1494) 622 4 1005 1605 [q66,q46,q22,q18,"_law_rows_here",QD,WO,Q2]++
 df XX XX (top 114) (.str q1 1494) 633 2 1012 1619 [q66,SR,q22,Up,"_law_low","_law_wide"]++
 df q88 q88 (top 115) (.str q1 1494) 650 1 1019 1631 [q36]++
 df q77 q77 (top 116) (.str q1 1494) 654 1 1026 1638 [q36]++
 df q78 q78 (top 117) (.str q1 1494) 656 3 1033 1645 [q22,q18,Qt,q20,WO,"_law_span","_law_parts",UY,Ux]++
 dg q63 q63 (top 118) (.str q1 1494) 664 3 1040 1660++
 df q64 q64 (top 119) (.str q1 1494) 666 3 1045 1666 [SQ,q20,q18,Up,"_law_fate",XQ]++
 dg q65 q65 (top 120) (.str q1 1494) 676 4 1052 1678++
 df q54 q54 (top 121) (.str q1 1494) 688 4 1057 1684 [q20,q22,q18,q36,WO,UY,Ux,W5]
noncomputable def S2:=mS 12 mO2 1064 1698
theorem p2_eq (w:World):(λos=>segRunT treeTable QW w 11 (some (.ref 6)) 1 5196 (S1 w os) (piecesOf ((bI.drop 44).take 78) ev cE ⟨139,0,145,29⟩ fT))=λos=>some (.next,S2 w os,cE,⟨688,0,696,21⟩):=by kernel_rfl
theorem zdH (w:World):(λos=>(L3.frc (L3.mkB 12 (mO2 w.params)) λT=>L3.goT treeTable QW w 11 (some (.ref 6)) 178 ⟨T,1064,(boot_heap w.params).life,Array.mk [],boot_drawn,1698,os⟩ (restOf ((bI.drop 44).drop 78) ev cE ⟨688,0,696,21⟩ fT)).map λs=>(L3.Ko QW w s))=λ_=>some (true):=by kernel_rfl
theorem zbb (w:World):(λos=>(L3.frc (L3.mkB 12 (mO2 w.params)) λT=>L3.goT treeTable QW w 11 (some (.ref 6)) 178 ⟨T,1064,(boot_heap w.params).life,Array.mk [],boot_drawn,1698,os⟩ (restOf ((bI.drop 44).drop 78) ev cE ⟨688,0,696,21⟩ fT)).map λs=>(seen ((recsOf vw).map (·.name)) (ownsOf vw) [] { s.abs with gens:=#[] }))=λ_=>some (expectedOf vw):=by kernel_rfl
theorem zdu (w:World):(λos=>(L3.frc (L3.mkB 12 (mO2 w.params)) λT=>L3.goT treeTable QW w 11 (some (.ref 6)) 178 ⟨T,1064,(boot_heap w.params).life,Array.mk [],boot_drawn,1698,os⟩ (restOf ((bI.drop 44).drop 78) ev cE ⟨688,0,696,21⟩ fT)).map λs=>(s.abs.heap.bltView))=λ_=>some (bltViewBooted):=by kernel_rfl
theorem zgF (w:World):(λos=>(L3.frc (L3.mkB 12 (mO2 w.params)) λT=>L3.goT treeTable QW w 11 (some (.ref 6)) 178 ⟨T,1064,(boot_heap w.params).life,Array.mk [],boot_drawn,1698,os⟩ (restOf ((bI.drop 44).drop 78) ev cE ⟨688,0,696,21⟩ fT)).map λs=>(s.abs.heap.keysOk (looseW vw []) ((recsOf vw).map (·.name)) ((litsOf vw).map (·.1)) ((clssOf vw (looseW vw [])).map (·.name))&&s.abs.heap.accountedOkI (importedModules QW.main.body)&&s.abs.heap.isNs mainGlobals&&s.abs.heap.isNs builtinsNs&&tablesOk vw s.abs.heap&&xt s.abs&&(if true then s.abs.gens.size==0 else !leftWithCleanup s.abs.gens)))=λ_=>some (true):=by kernel_rfl
theorem zcl (w:World):(λos=>(L3.frc (L3.mkB 12 (mO2 w.params)) λT=>L3.goT treeTable QW w 11 (some (.ref 6)) 178 ⟨T,1064,(boot_heap w.params).life,Array.mk [],boot_drawn,1698,os⟩ (restOf ((bI.drop 44).drop 78) ev cE ⟨688,0,696,21⟩ fT)).map λs=>((recsOf vw).all λd=>s.abs.heap.tab0Ok d.name))=λ_=>some (true):=by kernel_rfl
theorem zg9 (w:World):(λos=>(L3.frc (L3.mkB 12 (mO2 w.params)) λT=>L3.goT treeTable QW w 11 (some (.ref 6)) 178 ⟨T,1064,(boot_heap w.params).life,Array.mk [],boot_drawn,1698,os⟩ (restOf ((bI.drop 44).drop 78) ev cE ⟨688,0,696,21⟩ fT)).map λs=>(s.abs.heap.bmainOk))=λ_=>some (true):=by kernel_rfl
theorem zhX (w:World):(λos=>(L3.frc (L3.mkB 12 (mO2 w.params)) λT=>L3.goT treeTable QW w 11 (some (.ref 6)) 178 ⟨T,1064,(boot_heap w.params).life,Array.mk [],boot_drawn,1698,os⟩ (restOf ((bI.drop 44).drop 78) ev cE ⟨688,0,696,21⟩ fT)).map λs=>(valsOk vw s.abs.heap))=λ_=>some (true):=by kernel_rfl
theorem zja (w:World):(λos=>(L3.frc (L3.mkB 12 (mO2 w.params)) λT=>L3.goT treeTable QW w 11 (some (.ref 6)) 178 ⟨T,1064,(boot_heap w.params).life,Array.mk [],boot_drawn,1698,os⟩ (restOf ((bI.drop 44).drop 78) ev cE ⟨688,0,696,21⟩ fT)).map λs=>(!importsNone vw||s.abs.heap.noSeerOk))=λ_=>some (true):=by kernel_rfl
theorem zio (w:World):(λos=>(L3.frc (L3.mkB 12 (mO2 w.params)) λT=>L3.goT treeTable QW w 11 (some (.ref 6)) 178 ⟨T,1064,(boot_heap w.params).life,Array.mk [],boot_drawn,1698,os⟩ (restOf ((bI.drop 44).drop 78) ev cE ⟨688,0,696,21⟩ fT)).map λs=>(tabsOk vw s.abs))=λ_=>some (true):=L3.HG (L3.HG (L3.HG (zcl w) (zg9 w)) (zhX w)) (zja w)
theorem zbx (w:World):(λos=>(L3.frc (L3.mkB 12 (mO2 w.params)) λT=>L3.goT treeTable QW w 11 (some (.ref 6)) 178 ⟨T,1064,(boot_heap w.params).life,Array.mk [],boot_drawn,1698,os⟩ (restOf ((bI.drop 44).drop 78) ev cE ⟨688,0,696,21⟩ fT)).map λs=>(pinSeenD vw (drecsOf vw) s.abs,plainSeenE vw (looseW vw []) s.abs,plainSeenD vw [] s.abs,wideSeen vw s.abs,clsSeenW vw [] s.abs))=λ_=>some (pinGoodD (drecsOf vw),plainGoodE vw (looseW vw []),plainGoodD vw [],wideGood vw,clsGoodW vw []):=by kernel_rfl
theorem ob_eq (w:World):(λos=>(L3.frc (L3.mkB 12 (mO2 w.params)) λT=>L3.goT treeTable QW w 11 (some (.ref 6)) 178 ⟨T,1064,(boot_heap w.params).life,Array.mk [],boot_drawn,1698,os⟩ (restOf ((bI.drop 44).drop 78) ev cE ⟨688,0,696,21⟩ fT)).map λs=>ks.map (L3.ML s))=λ_=>some (hk.val w):=by kernel_rfl
theorem left:LeftO QW vw [] xt hk.obs hk.val 7128:=L3.zb0 (L3.zjb ks) KN ⋯ fe_eq si_eq (λw os _ r=>L3.zf7 rfl (congrFun (zhs w) os) (congrFun (Ak w) os) ⋯ (L3.Bw (congrFun (p1_eq w) os) (L3.Bw (congrFun (p2_eq w) os) (L3.D1 ((L3.HY _ _).symm.trans r))))) (λw=>L3.Kq (zdH w) (zbb w)) (λw=>L3.Kq (zdu w) (zgF w)) (λw=>L3.Kq (zio w) (zbx w)) ob_eq
end Mine
namespace L2
open PySem PySem.Spec PyProof.Rows
abbrev Key:=Sum Int Str
def CU:Key->Value->Bool
 | .inl k,v=>Value.isInt k v
 | .inr x,v=>Value.isStrOf x v
def keyH (w:World):Key->Int
 | .inl k=>hashInt k
 | .inr x=>hashStr w x
theorem VH:∀ {k:Key} {v:Value},CU k v=true->(∃i t,k=Sum.inl i/\v=Value.int i t)\/(∃x t,k=Sum.inr x/\v=Value.str x t)
 | .inl i,v,h=>by
  obtain⟨t,e⟩:=Value.isInt_shape (k:=i) (v:=v) h;exact .inl ⟨i,t,rfl,e⟩
 | .inr x,v,h=>by
  obtain⟨t,e⟩:=Value.isStrOf_shape (x:=x) (v:=v) h;exact .inr ⟨x,t,rfl,e⟩
theorem zho (a b:Int):decide ((Sum.inl a:Key)=Sum.inl b)=(a==b):=by
 by_cases e:a=b
 .subst e;simp
 .have h:¬ (Sum.inl a:Key)=Sum.inl b:=λq=>e (Sum.inl.inj q)
  rw[decide_eq_false h];exact(beq_eq_false_iff_ne.mpr e).symm
theorem zbh (a b:Str):decide ((Sum.inr a:Key)=Sum.inr b)=decide (a=b):=by
 by_cases e:a=b
 .subst e;simp
 .have h:¬ (Sum.inr a:Key)=Sum.inr b:=λq=>e (Sum.inr.inj q)
  rw[decide_eq_false h,decide_eq_false e]
theorem zij (a:Int)(b:Str):decide ((Sum.inl a:Key)=Sum.inr b)=false:=decide_eq_false (λq=>nomatch q)
theorem ziy (a:Str)(b:Int):decide ((Sum.inr a:Key)=Sum.inl b)=false:=decide_eq_false (λq=>nomatch q)
def Ke (prog:Program)(w:World):PySem.KeyKind prog w Key where
 is:=CU
 hash:=keyH w
 inj:=λv a b ha hb=>by
  rcases VH ha with ⟨i,t,rfl,rfl⟩|⟨x,t,rfl,rfl⟩
  .rcases VH hb with ⟨j,u,rfl,e⟩|⟨y,u,rfl,e⟩
   .injection e with e1 _;rw[e1]
   .exact nomatch e
  .rcases VH hb with ⟨j,u,rfl,e⟩|⟨y,u,rfl,e⟩
   .exact nomatch e
   .injection e with e1 _;rw[e1]
 byValue:=λk v h=>by
  rcases VH h with ⟨i,t,rfl,rfl⟩|⟨x,t,rfl,rfl⟩<;>rfl
 pyHash:=λhv h=>by
  rcases VH hv with ⟨i,t,rfl,rfl⟩|⟨x,t,rfl,rfl⟩
  .exact wpAny_pyHash_int h
  .exact wpAny_pyHash_str h
 eqBool:=λhu hv h=>by
  rcases VH hu with ⟨i,t,rfl,rfl⟩|⟨x,t,rfl,rfl⟩
  .rcases VH hv with ⟨j,u,rfl,rfl⟩|⟨y,u,rfl,rfl⟩
   .rw[zho] at h;exact wpAny_eqBool_int h
   .rw[zij] at h;exact SeqAt.EqAt.int_str i t y u _ _ _ _ h
  .rcases VH hv with ⟨j,u,rfl,rfl⟩|⟨y,u,rfl,rfl⟩
   .rw[ziy] at h;exact SeqAt.EqAt.str_int x t j u _ _ _ _ h
   .rw[zbh] at h;exact wpAny_eqBool_str h
 «strs»:=λk x t v h=>by
  rcases VH h with ⟨i,u,rfl,e⟩|⟨y,u,rfl,e⟩
  .exact nomatch e
  .injection e with e1 _
   subst e1;cases v<;>rfl
set_option genInjectivity true in
inductive V where
 | non|bl (b:Bool)|int (i:Int)|str (x:Str)|byt (b:Array UInt8)|flt (b:UInt64)|ref (a:Addr)|ty (n:String)
 deriving DecidableEq
def Zv:V->Value->Prop
 | .non,u=>u=Value.none
 | .bl b,u=>u=Value.bool b
 | .int i,u=>∃t,u=Value.int i t
 | .str x,u=>∃t,u=Value.str x t
 | .byt b,u=>∃t,u=Value.bytes b t
 | .flt b,u=>∃t,u=Value.float b t
 | .ref a,u=>u=Value.ref a
 | .ty n,u=>u=Value.type n
abbrev Zw:List V->List Value->Prop:=Paired Zv
theorem Zw.length {xs:List V}{us:List Value}(r:Zw xs us):xs.length=us.length:=Paired.length r
theorem Zw.get:∀ {xs:List V} {us:List Value} {i:Nat} {x:V},Zw xs us->xs[i]?=some x->∃u,us[i]?=some u/\Zv x u
 | _,_,_,_,.nil,e=>by simp at e
 | _,_,0,_,.cons r _,e=>by simp at e;subst e;exact⟨_,rfl,r⟩
 | _,_,i+1,x,.cons _ t,e=>by
  obtain⟨u,h1,h2⟩:=Zw.get (i:=i) (x:=x) t (by simpa using e);exact⟨u,by simpa using h1,h2⟩
theorem Zw.set {x:V}{u:Value}(r:Zv x u):∀ {xs:List V} {us:List Value} (i:Nat),Zw xs us->Zw (xs.set i x) (us.set i u)
 | _,_,_,.nil=>.nil
 | _,_,0,.cons _ t=>.cons r t
 | _,_,i+1,.cons q t=>.cons q (Zw.set r i t)
theorem Zw.append:∀ {xs ys:List V} {us ws:List Value},Zw xs us->Zw ys ws->Zw (xs++ys) (us++ws)
 | _,_,_,_,.nil,s=>s
 | _,_,_,_,.cons r t,s=>.cons r (Zw.append t s)
theorem Zw.take:∀ {xs:List V} {us:List Value} (n:Nat),Zw xs us->Zw (xs.take n) (us.take n)
 | _,_,0,_=>.nil
 | _,_,_+1,.nil=>.nil
 | _,_,n+1,.cons r t=>.cons r (Zw.take n t)
theorem Zw.drop:∀ {xs:List V} {us:List Value} (n:Nat),Zw xs us->Zw (xs.drop n) (us.drop n)
 | _,_,0,r=>r
 | _,_,_+1,.nil=>.nil
 | _,_,n+1,.cons _ t=>Zw.drop n t
def Vd:Option V->Option Value->Prop
 | some v,some u=>Zv v u
 | none,none=>True
 | _,_=>False
def KV {κ:Type}:List (κ×V)->List (κ×Value)->Prop:=Paired λ(p:κ×V)(q:κ×Value)=>p.1=q.1/\Zv p.2 q.2
def kV:Key->V
 | .inl i=>.int i
 | .inr x=>.str x
inductive HO where
  | lst (xs:List V)
  | tup (xs:List V)
  | dK (aV:List (Key×V))|dT (aV:List (List Key×V))
  | set (S:Int->Bool) (n:Nat)
  | ins (C dx:Addr) (fs:List (Str×V))
  | own (x:Addr)
  | xd (fs:List (Str×V))
  | met (f x:Addr)
  | rng (lo hi:Int)
  | frz (o:Obj) (u:HO)
  | tbl (ps:Array Value)
  | ext (φ:Heap->Prop)
abbrev Hp:=Addr->Option HO
def upd (H:Hp)(a:Addr)(o:HO):Hp:=λb=>if b=a then some o else H b
theorem YG {H:Hp}{a:Addr}{o:HO}:upd H a o a=some o:=by unfold upd;rw[if_pos rfl]
theorem ZS {H:Hp}{a b:Addr}{o:HO}(h:b≠a):upd H a o b=H b:=by unfold upd;rw[if_neg h]
theorem Ka {H:Hp}{a b:Addr}{o u:HO}(h:H a=some o)(h':H b=some u)(d:o≠u):a≠b:=by
 intro e;subst e;rw[h] at h';exact d (Option.some.inj h')
theorem Ua {H:Hp}{a b:Addr}{o:HO}(h:H a=some o)(h':H b=none):a≠b:=by
 intro e;subst e;rw[h] at h';cases h'
section
variable (P:Program)(w:World)
def Yy (H:Hp)(h:Heap)(a:Addr):HO->Prop
 | .lst xs=>xs.length<=sizeLine/\∃(aX:List Value)(n:Nat),Zw xs aX/\h.get? a=some { cls:=.type "list",data:=.seq aX.toArray n }
 | .tup xs=>xs.length<=sizeLine/\∃aX:List Value,Zw xs aX/\IsTup h a aX.toArray
 | .dK aV=>aV.length<=sizeLine/\(a==sysModules)=false/\∃vs,KV aV vs/\h.DictOf (Ke P w) a vs
 | .dT aV=>aV.length<=sizeLine/\(a==sysModules)=false/\∃xs:List (List Key×Addr×Value),
   Paired (λ(p:List Key×V)(q:List Key×Addr×Value)=>p.1=q.1/\H q.2.1=some (.tup (p.1.map kV))/\Zv p.2 q.2.2) aV xs/\
   ∃o es ep,h.get? a=some o/\o.ExactDict/\o.data=.dict es ep/\es.toList=xs.map (entryOfKey (tupleKind (Ke P w)))/\(xs.map (·.1)).Nodup
 | .set S n=>h.SetOf (intKind P w) a S n
 | .ins C dx fs=>H dx=some (.own a)/\fs.length<=1000/\dx≠a/\h.get? a=some (W.instObj C dx)/\
   ∃mA,h.Ns1 dx mA/\(∀f,Vd (fs.lookup f) (mA f))/\PySem.Within mA (fs.map (·.1))
 | .own _=>∃o,h.get? a=some o
 | .xd fs=>∃mA,h.Ns1 a mA/\∀f,Vd (fs.lookup f) (mA f)
 | .rng lo hi=>∃t u v,h.get? a=some { cls:=.type "range",data:=.fields #[.int lo t,.int hi u,.int 1 v] }
 | .frz o u=>h.get? a=some o/\Yy H h a u
 | .tbl ps=>h.get? a=some { cls:=.none,data:=.fields ps }
 | .met f x=>h.get? a=some (W.methodObj (.ref f) (.ref x))
 | .ext φ=>φ h/\(∃o,h.get? a=some o)/\∀h1 h2:Heap,φ h1->(∀o,h1.get? a=some o->h2.get? a=some o)->φ h2
def HOk (H:Hp)(h:Heap):Prop:=∀a o,H a=some o->Yy P w H h a o
end
section
variable {P:Program}{w:World}{H H':Hp}{h h':Heap}{a:Addr}{o:HO}
theorem Yy.lt (x:Yy P w H h a o):a<h.objs.size:=by
 cases o with
 | lst xs=>obtain⟨_,_,_,_,e⟩:=x;exact Heap.lt_size e
 | tup xs=>obtain⟨_,_,_,p⟩:=x;exact p.lt
 | dK aV=>obtain⟨_,_,_,_,o,_,_,e,_⟩:=x;exact Heap.lt_size e
 | dT aV=>obtain⟨_,_,_,_,o,_,_,e,_⟩:=x;exact Heap.lt_size e
 | set S n=>obtain⟨o,_,_,_,e,_⟩:=x;exact Heap.lt_size e
 | ins C dx fs=>obtain⟨_,_,_,e,_⟩:=x;exact Heap.lt_size e
 | own y=>obtain⟨_,e⟩:=x;exact Heap.lt_size e
 | xd fs=>obtain⟨_,⟨_,_,_,e,_⟩,_⟩:=x;exact Heap.lt_size e
 | rng lo hi=>obtain⟨_,_,_,e⟩:=x;exact Heap.lt_size e
 | frz ob u=>obtain⟨e,_⟩:=x;exact Heap.lt_size e
 | tbl ps=>exact Heap.lt_size (show h.get? a=some _ from x)
 | met f y=>exact Heap.lt_size (show h.get? a=some _ from x)
 | ext φ=>obtain⟨_,⟨_,e⟩,_⟩:=x;exact Heap.lt_size e
theorem Paired.mapP:∀ {l₁:List α} {l₂:List β},Paired F l₁ l₂->(∀a b,F a b->G a b)->Paired G l₁ l₂
 | _,_,.nil,_=>.nil
 | _,_,.cons r t,f=>.cons (f _ _ r) (Paired.mapP t f)
theorem Yy.stay (x:Yy P w H h a o)(k:∀b u,(b=a\/H b=some (.own a))->h.get? b=some u->h'.get? b=some u)
  (ho:∀b,H b=some (.own a)->H' b=some (.own a))(ht:∀b xs,H b=some (.tup xs)->H' b=some (.tup xs)):Yy P w H' h' a o:=by
 induction o with
 | lst xs=>obtain⟨z,aX,n,r,e⟩:=x;exact⟨z,aX,n,r,k _ _ (.inl rfl) e⟩
 | tup xs=>obtain⟨z,aX,r,ob,e,c⟩:=x;exact⟨z,aX,r,ob,k _ _ (.inl rfl) e,c⟩
 | dK aV=>obtain⟨z,y,vs,r,ob,es,ep,e,c⟩:=x;exact⟨z,y,vs,r,ob,es,ep,k _ _ (.inl rfl) e,c⟩
 | dT aV=>
  obtain⟨z,y,xs,r,ob,es,ep,e,c⟩:=x;exact⟨z,y,xs,Paired.mapP r λp q z=>⟨z.1,ht _ _ z.2.1,z.2.2⟩,ob,es,ep,k _ _ (.inl rfl) e,c⟩
 | set S n=>obtain⟨ob,es,ep,t,e,c⟩:=x;exact⟨ob,es,ep,t,k _ _ (.inl rfl) e,c⟩
 | ins C dx fs=>
  obtain⟨d,z,ne,e,mA,⟨od,es,ep,e2,c⟩,r⟩:=x;exact⟨ho _ d,z,ne,k _ _ (.inl rfl) e,mA,⟨od,es,ep,k _ _ (.inr d) e2,c⟩,r⟩
 | own y=>obtain⟨ob,e⟩:=x;exact⟨ob,k _ _ (.inl rfl) e⟩
 | xd fs=>obtain⟨mA,⟨od,es,ep,e,c⟩,r⟩:=x;exact⟨mA,⟨od,es,ep,k _ _ (.inl rfl) e,c⟩,r⟩
 | rng lo hi=>obtain⟨t,u,v,e⟩:=x;exact⟨t,u,v,k _ _ (.inl rfl) e⟩
 | frz ob u ih=>obtain⟨e,q⟩:=x;exact⟨k _ _ (.inl rfl) e,ih q⟩
 | tbl ps=>
  have e:h.get? a=some { cls:=.none,data:=.fields ps }:=x
  show h'.get? a=some { cls:=.none,data:=.fields ps };exact k a _ (.inl rfl) e
 | met f y=>
  have e:h.get? a=some (W.methodObj (.ref f) (.ref y)):=x
  show h'.get? a=some (W.methodObj (.ref f) (.ref y));exact k a _ (.inl rfl) e
 | ext φ=>obtain⟨p,⟨o,e⟩,st⟩:=x;exact⟨st _ _ p λo q=>k _ _ (.inl rfl) q,⟨o,k _ _ (.inl rfl) e⟩,st⟩
theorem HOk.lt (x:HOk P w H h)(e:H a=some o):a<h.objs.size:=(x a o e).lt
theorem HOk.fresh (x:HOk P w H h)(e:h.objs.size<=a):H a=none:=by
 cases q:H a with
 | none=>rfl
 | some u=>exact absurd (zR (x.lt q) e) (yK _)
theorem HOk.kept (x:HOk P w H h)(k:∀b u,h.get? b=some u->h'.get? b=some u):HOk P w H h':=λa o e=>
 (x a o e).stay (λb u _ q=>k b u q) (λ_ q=>q) λ_ _ q=>q
theorem HOk.laid (x:HOk P w H h)(k:∀b u,h.get? b=some u->h'.get? b=some u)(hp:h.objs.size<=a)(new:Yy P w (upd H a o) h' a o):HOk P w (upd H a o) h':=λb u e=>by
 have hn:=x.fresh hp;by_cases hb:b=a
 .subst hb;rw[YG] at e;cases e;exact new
 .rw[ZS hb] at e;exact(x b u e).stay (λc v _ q=>k c v q) (λc q=>by rw[ZS (Ua q hn)];exact q) λc xs q=>by rw[ZS (Ua q hn)];exact q
end
def Rd (H:Hp)(a:Addr)(u:HO):Prop:=H a=some u\/∃o,H a=some (.frz o u)
theorem Rd.ok {P:Program}{w:World}{H:Hp}{h:Heap}{a:Addr}{u:HO}(r:Rd H a u)(x:HOk P w H h):Yy P w H h a u:=by
 rcases r with r|⟨o,r⟩
 .exact x a u r
 .obtain⟨_,q⟩:=x a _ r;exact q
def Mut:Option HO->Prop
 | some (.lst _)=>True
 | some (.dK _)=>True
 | some (.dT _)=>True
 | some (.set _ _)=>True
 | some (.ins _ _ _)=>True
 | some (.ext _)=>True
 | _=>False
section
variable {P:Program}{w:World}{H:Hp}{h h':Heap}{x e:Addr}{o':HO}
theorem HOk.write (ok:HOk P w H h)(mu:Mut (H x))(he:e=x\/H e=some (.own x))(k:∀b u,b≠e->h.get? b=some u->h'.get? b=some u)(heo:∃u,h'.get? e=some u)
  (new:Yy P w (upd H x o') h' x o'):HOk P w (upd H x o') h':=λb u q=>by
 have nown:∀c y,H c=some (.own y)->c≠x:=λc y r z=>by subst z;rw[r] at mu;exact mu
 have ntup:∀c xs,H c=some (.tup xs)->c≠x:=λc xs r z=>by subst z;rw[r] at mu;exact mu
 by_cases hb:b=x
 .subst hb;rw[YG] at q;cases q;exact new
 .rw[ZS hb] at q;by_cases hbe:b=e
  .have q':H b=some (.own x):=by
    rcases he with z|z
    .exact absurd (hbe.trans z) hb
    .rw[hbe];exact z
   rw[q] at q';cases q'
   obtain⟨v,hv⟩:=heo;exact⟨v,by rw[hbe];exact hv⟩
  .refine(ok b u q).stay (λc v hc r=>k c v ?_ r) (λc r=>by rw[ZS (nown c b r)];exact r) λc xs r=>by rw[ZS (ntup c xs r)];exact r
   rcases hc with rfl|hc
   .exact hbe
   .rintro rfl;rcases he with z|z
    .exact nown c b hc z
    .rw[hc] at z;cases z;exact hb rfl
end
structure Un (fs ex:List Addr)(H H':Hp)(h h':Heap):Prop where
 keep:∀b o,h.get? b=some o->H b=none->b ∉ fs->b ∉ ex->h'.get? b=some o
 slot:∀b o,h.get? b=some o->H b=none->b∈fs->b ∉ ex->∃sl,h'.get? b=some { o with slots:=sl }
 free:∀b o,h.get? b=some o->H b=none->b ∉ ex->H' b=none
 there:∀b o,h.get? b=some o->b ∉ ex->∃o',h'.get? b=some o'
 tups:∀b xs,H b=some (.tup xs)->H' b=some (.tup xs)
 frzs:∀b o u,H b=some (.frz o u)->H' b=some (.frz o u)
 tbls:∀b ps,H b=some (.tbl ps)->∃more,H' b=some (.tbl (ps++more))
theorem Un.any (u:Un fs ex H H1 h h1){b:Addr}{ob:Obj}(q:h.get? b=some ob)(n:H b=none)(hx:b ∉ ex):∃sl,h1.get? b=some { ob with slots:=sl }:=by
 by_cases hb:b∈fs
 .exact u.slot b ob q n hb hx
 .exact⟨ob.slots,u.keep b ob q n hb hx⟩
theorem Un.trans (a:Un fs ex H H1 h h1)(b:Un fs ex H1 H2 h1 h2):Un fs ex H H2 h h2 where
 keep:=λc ob q n hc hx=>b.keep c ob (a.keep c ob q n hc hx) (a.free c ob q n hx) hc hx
 slot:=λc ob q n hc hx=>by
  obtain⟨sl,e1⟩:=a.slot c ob q n hc hx;obtain⟨sl',e2⟩:=b.slot c _ e1 (a.free c ob q n hx) hc hx;exact⟨sl',e2⟩
 free:=λc ob q n hx=>by
  obtain⟨o',e1⟩:=a.there c ob q hx;exact b.free c o' e1 (a.free c ob q n hx) hx
 there:=λc ob q hx=>by
  obtain⟨o',e1⟩:=a.there c ob q hx;exact b.there c o' e1 hx
 tups:=λc xs q=>b.tups c xs (a.tups c xs q)
 frzs:=λc ob xs q=>b.frzs c ob xs (a.frzs c ob xs q)
 tbls:=λc ps q=>by
  obtain⟨m1,e1⟩:=a.tbls c ps q;obtain⟨m2,e2⟩:=b.tbls c _ e1;exact⟨m1++m2,by rw[e2,Array.append_assoc]⟩
theorem Un.kept (k:∀b u,h.get? b=some u->h'.get? b=some u):Un fs ex H H h h':=
 ⟨λb ob q _ _ _=>k b ob q,λb ob q _ _ _=>⟨ob.slots,k b ob q⟩,λ_ _ _ n _=>n,λb ob q _=>⟨ob,k b ob q⟩,λ_ _ q=>q,λ_ _ _ q=>q,λ_ ps q=>⟨#[],by rw[q];simp⟩⟩
theorem Un.refl:Un fs ex H H h h:=Un.kept λ_ _ q=>q
theorem Un.laid (k:∀b u,h.get? b=some u->h'.get? b=some u)(hp:h.objs.size<=a)(hn:H a=none):Un fs ex H (upd H a o) h h' where
 keep:=λb u q _ _ _=>k b u q
 slot:=λb u q _ _ _=>⟨u.slots,k b u q⟩
 free:=λb u q n _=>by rw[ZS (zK (zR (Heap.lt_size q) hp))];exact n
 there:=λb u q _=>⟨u,k b u q⟩
 tups:=λb xs q=>by rw[ZS (Ua q hn)];exact q
 frzs:=λb u xs q=>by rw[ZS (Ua q hn)];exact q
 tbls:=λb ps q=>⟨#[],by rw[ZS (Ua q hn),q];simp⟩
theorem Un.write (mu:Mut (H x))(he:e=x\/H e=some (.own x))(k:∀b u,b≠e->h.get? b=some u->h'.get? b=some u)(heo:∃u,h'.get? e=some u):Un fs ex H (upd H x o) h h':=by
 have hx:∀b,H b=none->b≠x:=λb n z=>by subst z;rw[n] at mu;exact mu
 have hb:∀b,H b=none->b≠e:=λb n z=>by
  subst z;rcases he with r|r
  .exact hx b n r
  .rw[n] at r;cases r
 have hm:∀b u,H b=some u->¬ Mut (some u)->b≠x:=λb u q nm z=>by subst z;rw[q] at mu;exact nm mu
 refine⟨λb u q n _ _=>k b u (hb b n) q,λb u q n _ _=>⟨u.slots,k b u (hb b n) q⟩,λb u q n _=>by rw[ZS (hx b n)];exact n,λb u q _=>?_,
  λb xs q=>by rw[ZS (hm b _ q λz=>z)];exact q,λb u xs q=>by rw[ZS (hm b _ q λz=>z)];exact q,λb ps q=>⟨#[],by rw[ZS (hm b _ q λz=>z),q];simp⟩⟩
 by_cases hbe:b=e
 .subst hbe;exact heo
 .exact⟨u,k b u hbe q⟩
theorem Un.mono (u:Un fs ex H H1 h h1)(hs:∀b∈fs,b∈fs')(hx:∀b∈ex,b∈ex'):Un fs' ex' H H1 h h1:=
 ⟨λb ob q n hb he=>u.keep b ob q n (λz=>hb (hs b z)) λz=>he (hx b z),λ_ _ q n _ he=>u.any q n λz=>he (hx _ z),λb ob q n he=>u.free b ob q n λz=>he (hx b z),λb ob q he=>u.there b ob q λz=>he (hx b z),u.tups,u.frzs,u.tbls⟩
def trk (h:Heap)(H:Hp):List Addr:=(List.range h.objs.size).filter λa=>(H a).isSome
def W7 (h:Heap)(H:Hp):Heap:=W.hideAll h (trk h H)
theorem zfg (h:Heap)(H:Hp):(W7 h H).objs.size=h.objs.size:=W.hideAll_size _ _
theorem zfP {h:Heap}{H:Hp}{b:Addr}{o:Obj}(e:h.get? b=some o)(n:H b=none):(W7 h H).get? b=some o:=
 W.hideAll_get _ e λhm=>by
  have q:(H b).isSome=true:=(vV.mp hm).2;rw[n] at q;simp at q
theorem zaf {h:Heap}{H:Hp}{b:Addr}{o:Obj}(e:(W7 h H).get? b=some o):h.get? b=some o/\H b=none:=by
 have e':h.get? b=some o:=W.of_hideAll (trk h H) e;refine⟨e',?_⟩;cases q:H b with
 | none=>rfl
 | some x=>
  have hm:b∈trk h H:=vV.mpr ⟨wB.mpr (Heap.lt_size e'),by simp[q]⟩
  have z:(W7 h H).get? b=none:=W.hideAll_none (trk h H) hm;rw[z] at e;cases e
def Ag (g h:Heap)(L:Addr):LA:=(List.range h.objs.size).filterMap λa=>if a=L\/(g.get? a).isSome=true then none else (h.get? a).map λo=>(a,o)
def Yk (g h:Heap)(L d:Addr):LA:=(Ag g h L).filter λp=>decide (p.1≠d)
structure Mod (K:Fg)(mg:Str->Option Value)(base:Heap):Prop where
 kin:K.In base
 glob:base.Ns mainGlobals mg
 blt:∃mb,base.Ns builtinsNs mb/\∀x:Str,x≠"__name__"->mb x=bootBuiltins x
 nolimit:base.NoLimit
structure Cx where
 prog:Program
 w:World
 K:Fg
 mg:Str->Option Value
 base:Heap
 A:Around
 N:List Str
 s₀:Shared
 H₀:Hp
 env:Env
 outer:List Env
 stack:List Env
 ex:List Addr
 fn:Str->Bool
 calm:Bool
 pn:LA
 xe:Value->Shared->Prop
abbrev mX (X:Cx):=model X.prog X.w
abbrev Hf (X:Cx)(x:Str):Prop:=X.fn x=true\/X.env.scope.names.lookup x=some .local
abbrev He (X:Cx)(e:Expr)(es:List Expr):Prop:=starEach (e::es) X.env=(false,eval e X.env)::starEach es X.env
abbrev Hn (X:Cx)(caps:List Nat)(N:List Str):Prop:=caps.map (λi=>X.N[i]?)=N.map some
abbrev Hp1 (X:Cx)(pos:Pos)(es:List Expr):Prop:=(backTo pos (starEach es X.env)).any (·.1)=false
def frs (l:List Env):List Addr:=l.filterMap (·.frame)
abbrev Cx.fs (X:Cx):List Addr:=frs X.outer
def Vis (sc:Scope)(x:Str):Prop:=sc.names.lookup x=some .local\/sc.names.lookup x=some .cell\/sc.names.lookup x=some .free
def Loc (sc:Scope)(x:Str):Prop:=sc.names.lookup x=some .local\/sc.names.lookup x=some .cell
def Look (env:Env)(h:Heap)(m:Str->Option Value)(x:Str)(u:Value):Prop:=
 (env.kindOf x=some .local/\m x=some u)\/((env.kindOf x=some .cell\/env.kindOf x=some .free)/\∃c,env.cells.lookup x=some c/\h.IsCell c (some u))
structure Cx.Ok (X:Cx):Prop where
 mod:Mod X.K X.mg X.base
 kind:X.env.scope.kind=.function
 glob:X.env.globals=mainGlobals
 blt:X.env.builtins=builtinsNs
 above:X.s₀.heap.objs.size<=X.env.locals
 inj:∀x y c,X.env.cells.lookup x=some c->X.env.cells.lookup y=some c->x=y
 has:∀x,(X.env.kindOf x=some .cell\/X.env.kindOf x=some .free)->∃c,X.env.cells.lookup x=some c
 cab:∀x c,X.fn x=true->X.env.cells.lookup x=some c->X.s₀.heap.objs.size<=c
 hd:X.calm=true->X.A.handled=none
 frames:X.A.frames=some X.stack
 stk:X.stack=X.outer\/(X.stack=X.env::X.outer/\X.env.frame=some X.env.locals)
 exf:∀b∈X.ex,b≠X.env.locals/\∀x c,X.env.cells.lookup x=some c->c≠b
 bs:∀b o,X.base.get? b=some o->X.s₀.heap.get? b=some o/\X.H₀ b=none
 bsz:X.base.objs.size<=X.s₀.heap.objs.size
 noex:∀b o,X.base.get? b=some o->b ∉ X.ex
 exfs:∀b∈X.ex,b ∉ X.fs
 funs:X.s₀.heap.FunFrames X.base X.outer
 frf:∀b∈X.fs,X.H₀ b=none
structure Inv (X:Cx)(pins:LA)(σ:List (Option V))(H:Hp)(s:Shared):Prop where
 ok:X.Ok
 os:s.os=X.s₀.os
 bare:AllBare s.gens
 base:Un X.fs X.ex X.H₀ H X.s₀.heap s.heap
 loc:∃m,s.heap.Ns X.env.locals m/\∀(i:Nat)(x:Str)(v:V),X.N[i]?=some x->σ[i]?=some (some v)->Vis X.env.scope x->∃u,Zv v u/\Look X.env s.heap m x u
 cell:∀x c,X.env.cells.lookup x=some c->∃v,s.heap.IsCell c v
 free:H X.env.locals=none
 freeC:∀x c,X.env.cells.lookup x=some c->H c=none
 pin:∀p∈X.pn++pins,s.heap.get? p.1=some p.2/\H p.1=none/\p.1≠X.env.locals/\p.1 ∉ X.fs/\∀v,p.2.data≠.cell v
 hok:HOk X.prog X.w H s.heap
 len:σ.length=X.N.length
section
variable {X:Cx}{pins:LA}{σ:List (Option V)}{H H':Hp}{s:Shared}{h':Heap}
theorem Cx.Ok.nofr (ok:X.Ok)(e:X.base.get? b=some o):b ∉ X.fs:=λhb=>by
 have:=(ok.funs.mem hb).1;rw[e] at this;cases this
theorem Inv.bs (I:Inv X pins σ H s):∀b o,X.base.get? b=some o->s.heap.get? b=some o/\H b=none:=λb o e=>
 ⟨I.base.keep b o (I.ok.bs b o e).1 (I.ok.bs b o e).2 (I.ok.nofr e) (I.ok.noex b o e),I.base.free b o (I.ok.bs b o e).1 (I.ok.bs b o e).2 (I.ok.noex b o e)⟩
theorem Inv.bk (I:Inv X pins σ H s):∀b o,X.base.get? b=some o->s.heap.get? b=some o:=λb o e=>(I.bs b o e).1
theorem Inv.mod (I:Inv X pins σ H s):Mod X.K X.mg X.base:=I.ok.mod
theorem Inv.kIn (I:Inv X pins σ H s):X.K.In s.heap:=I.ok.mod.kin.keeps I.bk
theorem Inv.nolimit (I:Inv X pins σ H s):s.heap.NoLimit:=I.ok.mod.nolimit.keeps I.bk
theorem Inv.lt (I:Inv X pins σ H s):X.env.locals<s.heap.objs.size:=let ⟨_,hn,_⟩:=I.loc;hn.lt
theorem Inv.sz (I:Inv X pins σ H s):X.s₀.heap.objs.size<=s.heap.objs.size:=yE I.ok.above (yL I.lt)
theorem Inv.nofs (I:Inv X pins σ H s)(h:s.heap.objs.size<=a):a ∉ X.fs:=λhb=>by
 obtain⟨_,o,ho,_⟩:=I.ok.funs.mem hb;exact absurd (zR (Heap.lt_size ho) (yE I.sz h)) (yK _)
theorem Inv.cne (I:Inv X pins σ H s):∀x c,X.env.cells.lookup x=some c->c≠X.env.locals:=λx c e z=>by
 obtain⟨v,o,ho,hd⟩:=I.cell x c e;obtain⟨m,⟨o',es,ep,ho',hd',_⟩,_⟩:=I.loc;rw[z,ho'] at ho;cases ho;rw[hd'] at hd;cases hd
theorem Inv.funs (I:Inv X pins σ H s):s.heap.FunFrames X.base X.outer:=by
 have all:∀(l:List Env),(∀b∈frs l,b∈X.fs)->X.s₀.heap.FunFrames X.base l->s.heap.FunFrames X.base l:=by
  intro l
  induction l with
  | nil=>intro _ _;trivial
  | cons env r ih=>
   intro hs hl;obtain⟨hk,⟨L,o,hf,hn,ho,hd⟩,hr⟩:=hl;have hL:L∈X.fs:=hs L (by unfold frs;rw[wY,hf];exact yS);obtain⟨sl,e⟩:=I.base.slot L o ho (I.ok.frf L hL) hL λz=>I.ok.exfs L z hL
   exact⟨hk,⟨L,_,hf,hn,e,hd⟩,ih (λb hb=>hs b (by unfold frs;rw[wY,hf];exact yG _ hb)) hr⟩
 exact all X.outer (λ_ hb=>hb) I.ok.funs
theorem Inv.stack (I:Inv X pins σ H s):s.heap.FunFrames X.base X.stack:=by
 rcases I.ok.stk with e|⟨e,hf⟩
 .rw[e];exact I.funs
 .rw[e];obtain⟨m,hn,_⟩:=I.loc;refine .cons (by rw[I.ok.kind];decide) hf hn ?_ I.funs;exact Heap.get?_none_of_le (yE I.ok.bsz I.ok.above)
theorem Inv.stkSub (I:Inv X pins σ H s):∀b∈frs X.stack,b∈X.env.locals::X.fs:=λb hb=>by
 rcases I.ok.stk with e|⟨e,hf⟩
 .rw[e] at hb;exact yG _ hb
 .rw[e] at hb;unfold frs at hb;rw[wY,hf] at hb;exact hb
theorem Inv.stkFree (I:Inv X pins σ H s):∀b∈frs X.stack,H b=none:=λb hb=>by
 rcases zS.mp (I.stkSub b hb) with e|hb
 .rw[e];exact I.free
 .obtain⟨_,o,ho,_⟩:=I.ok.funs.mem hb;exact I.base.free b o ho (I.ok.frf b hb) λz=>I.ok.exfs b z hb
theorem Inv.step {g':Array GenState}{t':Nat}{d':Drawn}{ch:List Addr}(I:Inv X pins σ H s)
  (hch:∀b∈ch,(b∈X.ex\/X.s₀.heap.objs.size<=b)/\b≠X.env.locals/\(∀x c,X.env.cells.lookup x=some c->c≠b)/\∀p∈X.pn++pins,p.1≠b)
  (keep:∀b o,b≠X.env.locals->b ∉ X.fs->b ∉ ch->s.heap.get? b=some o->H b=none->h'.get? b=some o)
  (slot:∀b o,b≠X.env.locals->b∈X.fs->b ∉ ch->s.heap.get? b=some o->H b=none->∃sl,h'.get? b=some { o with slots:=sl })(free:∀b o,b ∉ ch->s.heap.get? b=some o->H b=none->H' b=none)
  (there:∀b o,b ∉ ch->s.heap.get? b=some o->∃o',h'.get? b=some o')
  (tups:∀b xs,H b=some (.tup xs)->H' b=some (.tup xs))(frzs:∀b o u,H b=some (.frz o u)->H' b=some (.frz o u))(tbls:∀b ps,H b=some (.tbl ps)->∃more,H' b=some (.tbl (ps++more)))
  (ns:∀m,s.heap.Ns X.env.locals m->h'.Ns X.env.locals m)(hok:HOk X.prog X.w H' h')(hg:AllBare g'):
  Inv X pins σ H' { s with heap:=h',gens:=g',drawn:=d',toks:=t' }:=by
 have neL:∀b o,X.s₀.heap.get? b=some o->b≠X.env.locals:=λb o e=>zK (zR (Heap.lt_size e) I.ok.above)
 have neC:∀b o,X.s₀.heap.get? b=some o->b ∉ X.ex->b ∉ ch:=λb o e hx hb=>by
  rcases (hch b hb).1 with z|z
  .exact hx z
  .exact absurd (zR (Heap.lt_size e) z) (yK _)
 have cellK:∀x c,X.env.cells.lookup x=some c->∀v,s.heap.IsCell c v->h'.IsCell c v:=λx c e v ⟨o,ho,hd⟩=>by
  have nch:c ∉ ch:=λz=>(hch c z).2.2.1 x c e rfl
  by_cases hc:c∈X.fs
  .obtain⟨sl,q⟩:=slot c o (I.cne x c e) hc nch ho (I.freeC x c e);exact⟨_,q,hd⟩
  .exact⟨o,keep c o (I.cne x c e) hc nch ho (I.freeC x c e),hd⟩
 refine⟨I.ok,I.os,hg,⟨λb o e n hb hx=>?_,λb o e n hb hx=>?_,λb o e n hx=>?_,λb o e hx=>?_,λb xs e=>tups b xs (I.base.tups b xs e),λb o xs e=>frzs b o xs (I.base.frzs b o xs e),λb ps e=>?_⟩,?_,λx c e=>?_,?_,λx c e=>?_,λp hp=>?_,hok,I.len⟩
 .exact keep b o (neL b o e) hb (neC b o e hx) (I.base.keep b o e n hb hx) (I.base.free b o e n hx)
 .obtain⟨sl,e1⟩:=I.base.slot b o e n hb hx;obtain⟨sl',e2⟩:=slot b _ (neL b o e) hb (neC b o e hx) e1 (I.base.free b o e n hx);exact⟨sl',e2⟩
 .obtain⟨o',e1⟩:=I.base.there b o e hx;exact free b o' (neC b o e hx) e1 (I.base.free b o e n hx)
 .obtain⟨o',e1⟩:=I.base.there b o e hx;exact there b o' (neC b o e hx) e1
 .obtain⟨m1,e1⟩:=I.base.tbls b ps e;obtain⟨m2,e2⟩:=tbls b _ e1;exact⟨m1++m2,by rw[e2,Array.append_assoc]⟩
 .obtain⟨m,hn,hl⟩:=I.loc;refine⟨m,ns m hn,λi x v e1 e2 e3=>?_⟩;obtain⟨u,r,l⟩:=hl i x v e1 e2 e3;refine⟨u,r,?_⟩;rcases l with l|⟨k,c,e,z⟩
  .exact .inl l
  .exact .inr ⟨k,c,e,cellK x c e _ z⟩
 .obtain⟨v,z⟩:=I.cell x c e;exact⟨v,cellK x c e v z⟩
 .obtain⟨m,⟨o,_,_,ho,_⟩,_⟩:=I.loc;exact free _ o (λz=>(hch _ z).2.1 rfl) ho I.free
 .obtain⟨v,o,ho,hd⟩:=I.cell x c e;exact free c o (λz=>(hch c z).2.2.1 x c e rfl) ho (I.freeC x c e)
 .obtain⟨e,n,ne,nf,d⟩:=I.pin p hp;have nch:p.1 ∉ ch:=λz=>(hch p.1 z).2.2.2 p hp rfl
  exact⟨keep p.1 p.2 ne nf nch e n,free p.1 p.2 nch e n,ne,nf,d⟩
theorem Inv.un {t':Nat}(I:Inv X pins σ H s)(u:Un X.fs [] H H' s.heap h')(hok:HOk X.prog X.w H' h'):Inv X pins σ H' { s with heap:=h',toks:=t' }:=by
 obtain⟨m,⟨o,es,ep,ho,r⟩,_⟩:=id I.loc;obtain⟨sl,hL⟩:=u.any ho I.free (by simp);exact I.step (g':=s.gens) (d':=s.drawn) (ch:=[]) (λ_ z=>nomatch z) (λb o _ hb _ e n=>u.keep b o e n hb (by simp)) (λb o _ hb _ e n=>u.slot b o e n hb (by simp)) (λb o _ e n=>u.free b o e n (by simp)) (λb o _ e=>u.there b o e (by simp)) u.tups u.frzs u.tbls (λm' hm=>by
  obtain⟨o',es',ep',ho',r'⟩:=hm;rw[ho] at ho';cases ho'
  exact⟨_,es',ep',hL,r'⟩) hok I.bare
theorem Inv.call {g':Array GenState}{t':Nat}{d':Drawn}{ch:List Addr}(I:Inv X pins σ H s)(u:Un (frs X.stack) ch H H' s.heap h')(hok:HOk X.prog X.w H' h')(hg:AllBare g')
  (hch:∀b∈ch,(b∈X.ex\/X.s₀.heap.objs.size<=b)/\b≠X.env.locals/\(∀x c,X.env.cells.lookup x=some c->c≠b)/\∀p∈X.pn++pins,p.1≠b):
  Inv X pins σ H' { s with heap:=h',gens:=g',drawn:=d',toks:=t' }:=by
 obtain⟨m,⟨o,es,ep,ho,r⟩,_⟩:=id I.loc;obtain⟨sl,hL⟩:=u.any ho I.free λz=>(hch _ z).2.1 rfl
 exact I.step (ch:=ch) hch (λb o hL hb hc e n=>u.keep b o e n (λz=>(zS.mp (I.stkSub b z)).elim hL hb) hc) (λb o _ _ hc e n=>u.any e n hc) (λb o hc e n=>u.free b o e n hc) (λb o hc e=>u.there b o e hc) u.tups u.frzs u.tbls (λm' hm=>by
  obtain⟨o',es',ep',ho',r'⟩:=hm;rw[ho] at ho';cases ho'
  exact⟨_,es',ep',hL,r'⟩) hok hg
theorem Inv.turned {t':Nat}{it:Addr}(I:Inv X pins σ H s)(k:∀b o,b≠it->s.heap.get? b=some o->h'.get? b=some o)(hn:H it=none)(hL:it≠X.env.locals)
  (h1:it∈X.ex\/X.s₀.heap.objs.size<=it)(h2:∀x c,X.env.cells.lookup x=some c->c≠it)(h3:∀p∈X.pn++pins,p.1≠it):Inv X pins σ H { s with heap:=h',toks:=t' }:=by
 have nit:∀b u,H b=some u->b≠it:=λb u e z=>by rw[z,hn] at e;cases e
 refine I.step (g':=s.gens) (d':=s.drawn) (ch:=[it]) (λb hb=>?_) (λb o _ _ hc e _=>k b o (λz=>hc (by simp[z])) e) (λb o _ _ hc e _=>⟨o.slots,k b o (λz=>hc (by simp[z])) e⟩) (λ_ _ _ _ n=>n)
  (λb o hc e=>⟨o,k b o (λz=>hc (by simp[z])) e⟩) (λ_ _ e=>e) (λ_ _ _ e=>e) (λb ps e=>⟨#[],by rw[e];simp⟩) (λm hm=>?_) (λb u e=>?_) I.bare
 .have e:b=it:=by simpa using hb
  subst e;exact⟨h1,hL,h2,h3⟩
 .obtain⟨o,es,ep,ho,r⟩:=hm;exact⟨o,es,ep,k _ o (Ne.symm hL) ho,r⟩
 .refine(I.hok b u e).stay (λc v hc q=>k c v ?_ q) (λ_ q=>q) λ_ _ q=>q
  rcases hc with z|z
  .rw[z];exact nit b u e
  .exact nit c _ z
theorem Inv.tok (I:Inv X pins σ H s)(t:Nat):Inv X pins σ H { s with toks:=t }:=I.un (h':=s.heap) (t':=t) Un.refl I.hok
theorem Inv.kept {t':Nat}(I:Inv X pins σ H s)(k:∀b u,s.heap.get? b=some u->h'.get? b=some u):Inv X pins σ H { s with heap:=h',toks:=t' }:=I.un (Un.kept k) (I.hok.kept k)
theorem Inv.laid (I:Inv X pins σ H s)(k:∀b u,s.heap.get? b=some u->h'.get? b=some u)(hp:s.heap.objs.size<=a)(new:Yy X.prog X.w (upd H a o) h' a o):
  Inv X pins σ (upd H a o) { s with heap:=h',toks:=t' }:=I.un (Un.laid k hp (I.hok.fresh hp)) (I.hok.laid k hp new)
theorem Inv.write (I:Inv X pins σ H s)(mu:Mut (H x))(he:e=x\/H e=some (.own x))(k:∀b u,b≠e->s.heap.get? b=some u->h'.get? b=some u)(heo:∃u,h'.get? e=some u)(new:Yy X.prog X.w (upd H x o) h' x o):Inv X pins σ (upd H x o) { s with heap:=h',toks:=t' }:=I.un (Un.write mu he k heo) (I.hok.write mu he k heo new)
theorem Inv.pins_of (I:Inv X pins σ H s)(h:∀p∈pins',s.heap.get? p.1=some p.2/\H p.1=none/\p.1≠X.env.locals/\p.1 ∉ X.fs/\∀v,p.2.data≠.cell v):Inv X pins' σ H s:=
 ⟨I.ok,I.os,I.bare,I.base,I.loc,I.cell,I.free,I.freeC,λp hp=>(zX.mp hp).elim (λz=>I.pin p (vW _ z)) (h p),I.hok,I.len⟩
theorem F3 {N:List Str}(hN:N.Nodup){i j:Nat}{x:Str}(a:N[i]?=some x)(b:N[j]?=some x):i=j:=by
 obtain⟨h1,e1⟩:=zA.mp a;obtain⟨h2,e2⟩:=zA.mp b;exact(List.getElem_inj hN).mp (e1.trans e2.symm)
theorem FG {M:Model}{A:Around}{E:Value->Shared->Prop}{i:Nat}{x:Str}{v:V}{u:Value}{Q:Unit->Shared->Prop}(I:Inv X pins σ H s)(hN:X.N.Nodup)(hi:X.N[i]?=some x)(hx:Loc X.env.scope x)(r:Zv v u)
  (h:∀s',Inv X pins (σ.set i (some v)) H s'->(∃a,Heap.SameBut a s.heap s'.heap/\(a=X.env.locals\/X.env.cells.lookup x=some a))->Q Unit.unit s')(hf:Hf X x:=by first|exact .inl rfl|exact .inr rfl|assumption):wpAny M A (storeName X.env x u) Q E s:=by
 obtain⟨m,hn,hl⟩:=id I.loc;have hcls:(X.env.scope.kind==.class||(X.env.scope.kind==.module&&X.env.locals != X.env.globals))=false:=by rw[I.ok.kind];rfl
 have hiσ:i<σ.length:=by rw[I.len];exact(zA.mp hi).1
 have cne:=I.cne
 have tracked:∀ {a:Addr} {h':Heap},(∃o,s.heap.get? a=some o/\H a=none)->Heap.SameBut a s.heap h'->HOk X.prog X.w H h':=λ{a h'} ha hs b ob e=>by
  obtain⟨_,_,hfree⟩:=ha;refine(I.hok b ob e).stay (λc w' hc q=>(hs.2 c ?_).trans q) (λ_ q=>q) λ_ _ q=>q
  rintro rfl;rcases hc with rfl|hc
  .rw[hfree] at e;cases e
  .rw[hfree] at hc;cases hc
 rcases hx with hk|hk
 .refine wpAny_storeName_local hk hn (λh' hn' hs=>?_) hcls;obtain⟨oL,_,_,hoL,_⟩:=id hn;refine h _ ⟨I.ok,I.os,I.bare,⟨λb o e n hb hx=>?_,λb o e n hb hx=>?_,I.base.free,λb o e hx=>?_,I.base.tups,I.base.frzs,I.base.tbls⟩,⟨_,hn',λj y v' e1 e2 e3=>?_⟩,λy c e=>?_,I.free,I.freeC,λp hp=>?_,tracked ⟨oL,hoL,I.free⟩ hs,by simpa using I.len⟩ ⟨_,hs,.inl rfl⟩
  .exact(hs.2 b (zK (zR (Heap.lt_size e) I.ok.above))).trans (I.base.keep b o e n hb hx)
  .obtain⟨sl,e1⟩:=I.base.slot b o e n hb hx;exact⟨sl,(hs.2 b (zK (zR (Heap.lt_size e) I.ok.above))).trans e1⟩
  .obtain⟨o',e1⟩:=I.base.there b o e hx;exact⟨o',(hs.2 b (zK (zR (Heap.lt_size e) I.ok.above))).trans e1⟩
  .by_cases hj:j=i
   .subst hj;rw[hi] at e1;cases e1
    rw[yB hiσ] at e2;cases e2;exact⟨u,r,.inl ⟨hk,by simp⟩⟩
   .rw[zT (Ne.symm hj)] at e2;obtain⟨u',r',q⟩:=hl j y v' e1 e2 e3;refine⟨u',r',?_⟩;rcases q with ⟨k,e⟩|⟨k,c,e,z⟩
    .refine .inl ⟨k,?_⟩;have:y≠x:=λe=>hj (F3 hN e1 (e ▸ hi))
     simp[this,e]
    .exact .inr ⟨k,c,e,z.sameBut hs (cne y c e)⟩
  .obtain⟨w',z⟩:=I.cell y c e;exact⟨w',z.sameBut hs (cne y c e)⟩
  .obtain⟨e,n,ne,nf,d⟩:=I.pin p hp;exact⟨(hs.2 p.1 ne).trans e,n,ne,nf,d⟩
 .have hfn:X.fn x=true:=by
   rcases hf with z|z
   .exact z
   .rw[z] at hk;cases hk
  obtain⟨c,hc⟩:=I.ok.has x (.inl hk);obtain⟨w',z⟩:=I.cell x c hc;refine wpAny_storeName_cell I.ok.kind hk hc z (λh' hc' hs=>?_);obtain⟨oc,hoc,hocd⟩:=id z;refine h { s with heap:=h' } ⟨I.ok,I.os,I.bare,⟨λb o e n hb hx=>?_,λb o e n hb hx=>?_,I.base.free,λb o e hx=>?_,I.base.tups,I.base.frzs,I.base.tbls⟩,⟨m,hn.sameBut hs (Ne.symm (cne x c hc)),λj y v' e1 e2 e3=>?_⟩,λy c' e=>?_,I.free,I.freeC,λp hp=>?_,tracked ⟨oc,hoc,I.freeC x c hc⟩ hs,by simpa using I.len⟩ ⟨c,hs,.inr hc⟩
  .exact(hs.2 b (zK (zR (Heap.lt_size e) (I.ok.cab x c hfn hc)))).trans (I.base.keep b o e n hb hx)
  .obtain⟨sl,e1⟩:=I.base.slot b o e n hb hx;exact⟨sl,(hs.2 b (zK (zR (Heap.lt_size e) (I.ok.cab x c hfn hc)))).trans e1⟩
  .obtain⟨o',e1⟩:=I.base.there b o e hx;exact⟨o',(hs.2 b (zK (zR (Heap.lt_size e) (I.ok.cab x c hfn hc)))).trans e1⟩
  .by_cases hj:j=i
   .subst hj;rw[hi] at e1;cases e1
    rw[yB hiσ] at e2;cases e2;exact⟨u,r,.inr ⟨.inl hk,c,hc,hc'⟩⟩
   .rw[zT (Ne.symm hj)] at e2;obtain⟨u',r',q⟩:=hl j y v' e1 e2 e3;refine⟨u',r',?_⟩;rcases q with q|⟨k,c',e,z'⟩
    .exact .inl q
    .refine .inr ⟨k,c',e,z'.sameBut hs ?_⟩;rintro rfl;exact hj (F3 hN e1 (I.ok.inj _ _ _ e hc ▸ hi))
  .by_cases hcc:c'=c
   .subst hcc;exact⟨_,hc'⟩
   .obtain⟨w2,z2⟩:=I.cell y c' e;exact⟨w2,z2.sameBut hs hcc⟩
  .obtain⟨e,n,ne,nf,d⟩:=I.pin p hp;refine⟨(hs.2 p.1 ?_).trans e,n,ne,nf,d⟩;intro q;rw[q,hoc] at e;have q':oc=p.2:=Option.some.inj e;exact d w' (by rw[<- q'];exact hocd)
theorem BD (I:Inv X pins σ H s)(hN:X.N.Nodup)(hi:X.N[i]?=some x)(hx:Loc X.env.scope x)(r:Zv v u)(h:∀s',Inv X pins (σ.set i (some v)) H s'->Q Unit.unit s')(hf:Hf X x:=by first|exact .inl rfl|exact .inr rfl|assumption):wpAny M A (storeName X.env x u) Q E s:=
 FG I hN hi hx r (λs' I' _=>h s' I') hf
theorem Inv.call' (I:Inv X pins σ H s)(ho:s'.os=s.os)(u:Un (frs X.stack) ch H H' s.heap s'.heap)(hok:HOk X.prog X.w H' s'.heap)(hg:AllBare s'.gens)(hch:∀b∈ch,(b∈X.ex\/X.s₀.heap.objs.size<=b)/\b≠X.env.locals/\(∀x c,X.env.cells.lookup x=some c->c≠b)/\∀p∈X.pn++pins,p.1≠b):Inv X pins σ H' s':=by
 obtain⟨h',g',d',t',o'⟩:=s';have e:o'=s.os:=ho;subst e;exact I.call (g':=g') (t':=t') (d':=d') u hok hg hch
end
abbrev XK:=Value->Option Addr->Hp->Prop
abbrev St:=List (Option V)
abbrev VK:=V->Hp->Prop
abbrev TE:=St->Hp->VK->Prop
abbrev TT:=St->Hp->(Bool->Hp->Prop)->Prop
abbrev TA:=St->Hp->(List V->Hp->Prop)->Prop
structure Vv where
 nx:St->Hp->Prop
 rt:VK
 bk:St->Hp->Prop:=λ_ _=>False
 ct:St->Hp->Prop:=λ_ _=>False
abbrev TS:=Vv->St->Hp->Prop
def EP (X:Cx)(pins:LA)(σ:St)(Q:VK)(u:Value)(s':Shared):Prop:=∃v H',Inv X pins σ H' s'/\Zv v u/\Q v H'
def TP (X:Cx)(pins:LA)(σ:St)(Q:Bool->Hp->Prop)(b:Bool)(s':Shared):Prop:=∃H',Inv X pins σ H' s'/\Q b H'
def AP (X:Cx)(pins:LA)(σ:St)(Q:List V->Hp->Prop)(us:List Value)(s':Shared):Prop:=∃vs H',Inv X pins σ H' s'/\Zw vs us/\Q vs H'
def SP (X:Cx)(pins:LA)(D:Vv)(f:Flow)(s':Shared):Prop:=
 match f with
 | .next=>∃σ' H',Inv X pins σ' H' s'/\D.nx σ' H'
 | .brk=>∃σ' H',Inv X pins σ' H' s'/\D.bk σ' H'
 | .cont=>∃σ' H',Inv X pins σ' H' s'/\D.ct σ' H'
 | .ret u=>∃v σ' H',Inv X pins σ' H' s'/\Zv v u/\D.rt v H'
def PE (X:Cx)(e:Expr)(t:TE):Prop:=
 ∀(pins:LA)(s:Shared)(σ:St)(H:Hp)(Q:VK),Inv X pins σ H s->t σ H Q->wpAny (mX X) X.A (eval e X.env) (EP X pins σ Q) X.xe s
def PT (X:Cx)(e:Expr)(t:TT):Prop:=
 ∀(pins:LA)(s:Shared)(σ:St)(H:Hp)(Q:Bool->Hp->Prop),Inv X pins σ H s->t σ H Q->wpAny (mX X) X.A (isTrue e X.env (eval e X.env)) (TP X pins σ Q) X.xe s
def PW (X:Cx)(e:Expr)(t:TT):Prop:=
 ∀(aO:Sem Value)(pins:LA)(s:Shared)(σ:St)(H:Hp)(Q:Bool->Hp->Prop),Inv X pins σ H s->t σ H Q->wpAny (mX X) X.A (isTrue e X.env aO) (TP X pins σ Q) X.xe s
theorem PW.pt (h:PW X e t):PT X e t:=h _
def PA (X:Cx)(es:List Expr)(t:TA):Prop:=
 ∀(pos:Pos)(pins:LA)(s:Shared)(σ:St)(H:Hp)(Q:List V->Hp->Prop),Inv X pins σ H s->t σ H Q->wpAny (mX X) X.A (spliced (backTo pos (starEach es X.env))) (AP X pins σ Q) X.xe s
def PS (X:Cx)(st:Stmt)(t:TS):Prop:=
 ∀(pins:LA)(s:Shared)(σ:St)(H:Hp)(D:Vv),Inv X pins σ H s->t D σ H->wpAny (mX X) X.A (exec st X.env) (SP X pins D) X.xe s
def PSs (X:Cx)(st:List Stmt)(t:TS):Prop:=
 ∀(pins:LA)(s:Shared)(σ:St)(H:Hp)(D:Vv),Inv X pins σ H s->t D σ H->wpAny (mX X) X.A (execs st X.env) (SP X pins D) X.xe s
theorem thn {α:Type}{t:Sem α}{Q Q':α->Shared->Prop}{M:Model}{A:Around}{E:Value->Shared->Prop}{s:Shared}(h:wpAny M A t Q E s)(hQ:∀a s,Q a s->Q' a s):wpAny M A t Q' E s:=wpAny_mono h hQ λ_ _ x=>x
section
variable {X:Cx}
def tVar (i:Nat):TE:=λσ H Q=>∃v,σ[i]?=some (some v)/\Q v H
def tC (v:V):TE:=λ_ H Q=>Q v H
theorem E0 (hN:X.N[i]?=some x)(hv:Vis X.env.scope x)(hd:(x==("__debug__":Str))=false:=by decide)(hcd:(x==("__classdict__":Str))=false:=by decide):PE X (.Name x pos) (tVar i):=by
 intro pins s σ H Q I h;obtain⟨v,e,h⟩:=h;obtain⟨m,hn,hl⟩:=I.loc;obtain⟨u,r,l⟩:=hl i x v hN e hv;have aY:EP X pins σ Q u s:=⟨v,H,I,r,h⟩;rcases l with ⟨hk,hm⟩|⟨hk,c,hc,hcell⟩
 .exact wpAny_Name (wpAny_loadName_local I.ok.kind hk hn hm aY) hd
 .rcases hk with hk|hk
  .exact wpAny_Name (wpAny_loadName_cell I.ok.kind hk hc hcell aY) hd
  .exact wpAny_Name (wpAny_loadName_free I.ok.kind hk hc hcell aY hcd) hd
theorem zdN {i j pos}:PE X (.Constant (.int i) j pos) (tC (.int i)):=λ_ _ _ H _ I h=>wpAny_Constant_int ⟨.int i,H,I.tok _,⟨_,rfl⟩,h⟩
theorem pe_bl {b j pos}:PE X (.Constant (.bool b) j pos) (tC (.bl b)):=λ_ _ _ H _ I h=>Constant_bool ⟨.bl b,H,I,rfl,h⟩
theorem zjl {j pos}:PE X (.Constant .none j pos) (tC .non):=λ_ _ _ H _ I h=>Constant_none ⟨.non,H,I,rfl,h⟩
theorem zi4 {x j pos}:PE X (.Constant (.str x) j pos) (tC (.str x)):=λ_ _ _ H _ I h=>Calls.Constant_str ⟨.str x,H,I.tok _,⟨_,rfl⟩,h⟩
def Gl (X:Cx)(x:Str):Prop:=X.env.kindOf x=some .globalImplicit
theorem Dg (I:Inv X pins σ H s)(hg:Gl X x)(hm:X.mg x=some u)(h:Q u s)(hd:(x==("__debug__":Str))=false:=by decide):wpAny (mX X) X.A (eval (.Name x pos) X.env) Q E s:=
 Calls.Name_function_global I.ok.kind hg (Calls.loadGlobal_global (by rw[I.ok.glob];exact I.mod.glob.keeps I.bk) hm h) hd
theorem WD (I:Inv X pins σ H s)(hg:Gl X x)(hm:X.mg x=none)(hv:bootBuiltins x=some u)(h:Q u s)(hn:x≠"__name__":=by decide)(hd:(x==("__debug__":Str))=false:=by decide):wpAny (mX X) X.A (eval (.Name x pos) X.env) Q E s:=by
 obtain⟨mb,h1,h2⟩:=I.mod.blt;exact Calls.Name_function_global I.ok.kind hg (Calls.loadGlobal_builtin (by rw[I.ok.glob];exact I.mod.glob.keeps I.bk) hm (by rw[I.ok.blt];exact h1.keeps I.bk) ((h2 x hn).trans hv) h) hd
theorem zfI (hg:Gl X x)(hm:X.mg x=none)(hv:bootBuiltins x=some u)(r:Zv v u)(hn:x≠"__name__":=by decide)(hd:(x==("__debug__":Str))=false:=by decide):PE X (.Name x pos) (tC v):=
 λ_ _ _ H _ I h=>WD I hg hm hv ⟨v,H,I,r,h⟩ hn hd
variable {a b:Expr}{ta tb:TE}{pos:Pos}
def tB (t:TE):TT:=λσ H Q=>t σ H λx H1=>∃c,x=.bl c/\Q c H1
theorem zcm (h:PE X e t)(he:∀aO,isTrue e X.env aO=(do let v <- aO;standAt e.pos;holding [v] (truthy v)):=by intro _;rfl):PT X e (tB t):=by
 intro pins s σ H Q I hw;refine isTrue_plain (thn (h pins s σ H _ I hw) λv s1 ⟨x,H1,I1,r1,q1⟩=>?_) (he _);obtain⟨d,rfl,q⟩:=q1;cases r1;exact wpAny_truthy_bool ⟨H1,I1,q⟩
variable {tA tB':TT}{Yk:List Expr}
def tAnd (t u:TT):TT:=λσ H Q=>t σ H λc H1=>if c=true then u σ H1 Q else Q false H1
def tOr (t u:TT):TT:=λσ H Q=>t σ H λc H1=>if c=true then Q true H1 else u σ H1 Q
def tNot (t:TT):TT:=λσ H Q=>t σ H λc H1=>Q (!c) H1
theorem zhn (ha:PT X a tA):PW X (.BoolOp .And [a] pos) tA:=by
 intro wh pins s σ H Q I h;refine isTrue_and (thn (ha pins s σ H Q I h) λc s1 e=>?_);cases c with
 | true=>exact isTrue_and_nil e
 | false=>exact e
theorem zea (ha:PT X a tA):PW X (.BoolOp .Or [a] pos) tA:=by
 intro wh pins s σ H Q I h;refine isTrue_or (thn (ha pins s σ H Q I h) λc s1 e=>?_);cases c with
 | false=>exact isTrue_or_nil e
 | true=>exact e
theorem zcZ (ha:PT X a tA)(hb:PW X (.BoolOp .And (b::Yk) pos) tB'):PW X (.BoolOp .And (a::b::Yk) pos) (tAnd tA tB'):=by
 intro wh pins s σ H Q I h;refine isTrue_and (thn (ha pins s σ H _ I h) λc s1 ⟨H1,I1,q1⟩=>?_);cases c with
 | true=>exact hb wh pins s1 σ H1 Q I1 q1
 | false=>exact⟨H1,I1,q1⟩
theorem pw_or (ha:PT X a tA)(hb:PW X (.BoolOp .Or (b::Yk) pos) tB'):PW X (.BoolOp .Or (a::b::Yk) pos) (tOr tA tB'):=by
 intro wh pins s σ H Q I h;refine isTrue_or (thn (ha pins s σ H _ I h) λc s1 ⟨H1,I1,q1⟩=>?_);cases c with
 | true=>exact⟨H1,I1,q1⟩
 | false=>exact hb wh pins s1 σ H1 Q I1 q1
theorem zb1 (ha:PT X a tA):PT X (.UnaryOp .Not a pos) (tNot tA):=by
 intro pins s σ H Q I h;exact isTrue_not (ha pins s σ H (λc H1=>Q (!c) H1) I h)
def tAndV (ta tb:TE):TE:=λσ H Q=>ta σ H λx H1=>∃c,x=.bl c/\if c=true then tb σ H1 Q else Q (.bl false) H1
def tOrV (ta tb:TE):TE:=λσ H Q=>ta σ H λx H1=>∃c,x=.bl c/\if c=true then Q (.bl true) H1 else tb σ H1 Q
def tNotV (ta:TE):TE:=λσ H Q=>ta σ H λx H1=>∃c,x=.bl c/\Q (.bl (!c)) H1
theorem zf4 {op}(h:PE X a t):PE X (.BoolOp op [a] pos) t:=λpins s σ H Q I hw=>BoolOp_one (h pins s σ H Q I hw)
theorem zaY (ha:PE X a ta)(hb:PE X (.BoolOp .And (b::Yk) pos) tb):PE X (.BoolOp .And (a::b::Yk) pos) (tAndV ta tb):=by
 intro pins s σ H Q I h;refine BoolOp_and (thn (ha pins s σ H _ I h) λv s1 ⟨x,H1,I1,r1,q1⟩=>?_);obtain⟨c,rfl,q1⟩:=q1;cases r1;refine wpAny_truthy_bool ?_;cases c with
 | true=>exact hb pins s1 σ H1 Q I1 q1
 | false=>exact⟨.bl false,H1,I1,rfl,q1⟩
theorem pe_or (ha:PE X a ta)(hb:PE X (.BoolOp .Or (b::Yk) pos) tb):PE X (.BoolOp .Or (a::b::Yk) pos) (tOrV ta tb):=by
 intro pins s σ H Q I h;refine BoolOp_or (thn (ha pins s σ H _ I h) λv s1 ⟨x,H1,I1,r1,q1⟩=>?_);obtain⟨c,rfl,q1⟩:=q1;cases r1;refine wpAny_truthy_bool ?_;cases c with
 | false=>exact hb pins s1 σ H1 Q I1 q1
 | true=>exact⟨.bl true,H1,I1,rfl,q1⟩
theorem zdW (ha:PE X a ta):PE X (.UnaryOp .Not a pos) (tNotV ta):=by
 intro pins s σ H Q I h;refine UnaryOp_ (thn (ha pins s σ H _ I h) λv s1 ⟨x,H1,I1,r1,q1⟩=>?_);obtain⟨c,rfl,q1⟩:=q1;cases r1;exact not_of (wpAny_truthy_bool ⟨.bl (!c),H1,I1,rfl,q1⟩)
def tIf (t:TT)(ta tb:TE):TE:=λσ H Q=>t σ H λc H1=>if c=true then ta σ H1 Q else tb σ H1 Q
theorem zit (hc:PT X c tA)(ha:PE X a ta)(hb:PE X b tb):PE X (.IfExp c a b pos) (tIf tA ta tb):=by
 intro pins s σ H Q I h;refine wpAny_IfExp (thn (hc pins s σ H _ I h) λd s1 ⟨H1,I1,q1⟩=>?_);cases d with
 | true=>exact ha pins s1 σ H1 Q I1 q1
 | false=>exact hb pins s1 σ H1 Q I1 q1
end
def SqL (K:Fg)(H:Hp)(a:Addr)(xs:List V):Prop:=
 Rd H a (.lst xs)\/
  ∃(o:Obj)(aX:Array Value)(n:Nat),K.lookup a=some o/\o.cls=.type "list"/\o.dict=none/\o.data=.seq aX n/\aX.size<=sizeLine/\Zw xs aX.toList
def SqT (K:Fg)(H:Hp)(a:Addr)(xs:List V):Prop:=
 Rd H a (.tup xs)\/
  ∃(o:Obj)(aX:Array Value)(n:Nat),K.lookup a=some o/\o.cls=.type "tuple"/\o.data=.seq aX n/\aX.size<=sizeLine/\Zw xs aX.toList
def absV:Value->Option V
 | .none=>some .non
 | .bool b=>some (.bl b)
 | .int i _=>some (.int i)
 | .str x _=>some (.str x)
 | .bytes b _=>some (.byt b)
 | .float b _=>some (.flt b)
 | .ref a=>some (.ref a)
 | .type n=>some (.ty n)
 | _=>none
theorem Zv.abs (r:Zv x u):absV u=some x:=by
 cases x with
 | non=>cases r;rfl
 | bl _=>cases r;rfl
 | int _=>obtain⟨t,rfl⟩:=r;rfl
 | str _=>obtain⟨t,rfl⟩:=r;rfl
 | byt _=>obtain⟨t,rfl⟩:=r;rfl
 | flt _=>obtain⟨t,rfl⟩:=r;rfl
 | ref _=>cases r;rfl
 | ty _=>cases r;rfl
theorem Zv.inj (r:Zv x u)(q:Zv y u):x=y:=Option.some.inj (r.abs.symm.trans q.abs)
theorem Zw.inj:∀ {xs ys:List V} {us:List Value},Zw xs us->Zw ys us->xs=ys
 | _,_,_,.nil,.nil=>rfl
 | _,_,_,.cons r t,.cons r' t'=>by rw[r.inj r',Zw.inj t t']
theorem SqL.of {K:Fg}(h:H a=some (.lst xs)):SqL K H a xs:=.inl (.inl h)
theorem SqT.of {K:Fg}(h:H a=some (.tup xs)):SqT K H a xs:=.inl (.inl h)
theorem Inv.list (I:Inv X pins σ H s)(h:SqL X.K H a xs):∃aX:List Value,Zw xs aX/\PlainL s.heap a aX.toArray/\xs.length<=sizeLine:=by
 rcases h with h|⟨o,aX,n,hk,hc,hd,hs,hz,r⟩
 .obtain⟨z,aX,n,r,e⟩:=h.ok I.hok;exact⟨aX,r,⟨_,n,e,rfl,rfl,rfl⟩,z⟩
 .refine⟨aX.toList,r,⟨o,n,I.kIn a o hk,hc,hd,by simpa using hs⟩,?_⟩;have e:=r.length;simp only[Array.length_toList] at e;omega
theorem Inv.tuple (I:Inv X pins σ H s)(h:SqT X.K H a xs):∃aX:List Value,Zw xs aX/\IsTup s.heap a aX.toArray/\xs.length<=sizeLine:=by
 rcases h with h|⟨o,aX,n,hk,hc,hs,hz,r⟩
 .obtain⟨z,aX,r,p⟩:=h.ok I.hok;exact⟨aX,r,p,z⟩
 .refine⟨aX.toList,r,⟨o,I.kIn a o hk,hc,n,by simpa using hs⟩,?_⟩;have e:=r.length;simp only[Array.length_toList] at e;omega
theorem Inv.list_inj (I:Inv X pins σ H s)(h:SqL X.K H a xs)(h':SqL X.K H a ys):xs=ys:=by
 obtain⟨aX,r,⟨o,n,e,_,_,d⟩,_⟩:=I.list h;obtain⟨its',r',⟨o',n',e',_,_,d'⟩,_⟩:=I.list h';rw[e] at e';cases e'
 rw[d] at d';injection d' with d1 _
 have:aX=its':=by simpa using congrArg Array.toList d1
 subst this;exact r.inj r'
theorem Inv.tuple_inj (I:Inv X pins σ H s)(h:SqT X.K H a xs)(h':SqT X.K H a ys):xs=ys:=by
 obtain⟨aX,r,⟨o,e,_,n,d⟩,_⟩:=I.tuple h;obtain⟨its',r',⟨o',e',_,n',d'⟩,_⟩:=I.tuple h';rw[e] at e';cases e'
 rw[d] at d';injection d' with d1 _
 have:aX=its':=by simpa using congrArg Array.toList d1
 subst this;exact r.inj r'
abbrev Cx.wish (X:Cx)(E:Value->Shared->Prop):Cx:={ X with xe:=E }
abbrev Cx.nox (X:Cx):Cx:=X.wish λ_ _=>False
theorem Cx.Ok.wish {X:Cx}(ok:X.Ok)(E:Value->Shared->Prop):(X.wish E).Ok:=
 ⟨ok.mod,ok.kind,ok.glob,ok.blt,ok.above,ok.inj,ok.has,ok.cab,ok.hd,ok.frames,ok.stk,ok.exf,ok.bs,ok.bsz,ok.noex,ok.exfs,ok.funs,ok.frf⟩
theorem Cx.Ok.unwish {X:Cx}{E:Value->Shared->Prop}(ok:(X.wish E).Ok):X.Ok:=
 ⟨ok.mod,ok.kind,ok.glob,ok.blt,ok.above,ok.inj,ok.has,ok.cab,ok.hd,ok.frames,ok.stk,ok.exf,ok.bs,ok.bsz,ok.noex,ok.exfs,ok.funs,ok.frf⟩
theorem Inv.wish (I:Inv X pins σ H s)(E:Value->Shared->Prop):Inv (X.wish E) pins σ H s:=⟨I.ok.wish E,I.os,I.bare,I.base,I.loc,I.cell,I.free,I.freeC,I.pin,I.hok,I.len⟩
theorem Inv.unwish (I:Inv (X.wish E) pins σ H s):Inv X pins σ H s:=⟨I.ok.unwish,I.os,I.bare,I.base,I.loc,I.cell,I.free,I.freeC,I.pin,I.hok,I.len⟩
theorem SP.unwish (h:SP (X.wish E) pins D f s'):SP X pins D f s':=by
 cases f with
 | next=>obtain⟨σ',H',I,q⟩:=h;exact⟨σ',H',I.unwish,q⟩
 | brk=>obtain⟨σ',H',I,q⟩:=h;exact⟨σ',H',I.unwish,q⟩
 | cont=>obtain⟨σ',H',I,q⟩:=h;exact⟨σ',H',I.unwish,q⟩
 | ret u=>obtain⟨v,σ',H',I,r,q⟩:=h;exact⟨v,σ',H',I.unwish,r,q⟩
theorem PE.nox {e:Expr}{t:TE}(h:PE X.nox e t):PE X e t:=λpins s σ H Q I hw=>
 wpAny_mono (h pins s σ H Q (I.wish _) hw) (λ_ _ ⟨v,H',I',r,q⟩=>⟨v,H',I'.unwish,r,q⟩) λ_ _ z=>False.elim z
theorem PSs.nox {st:List Stmt}{t:TS}(h:PSs X.nox st t):PSs X st t:=λpins s σ H D I hw=>
 wpAny_mono (h pins s σ H D (I.wish _) hw) (λ_ _ q=>q.unwish) λ_ _ z=>False.elim z
section
variable {X:Cx}{st:Stmt}{Yk:List Stmt}{t u:TS}{e:Expr}{te:TE}{pos:Pos}
def tNext:TS:=λD σ H=>D.nx σ H
def tSeq (t u:TS):TS:=λD σ H=>t { D with nx:=u D } σ H
theorem zhD:PSs X [] tNext:=λ_ _ σ H _ I h=>wpAny_execs_nil ⟨σ,H,I,h⟩
theorem zfC (h1:PS X st t)(h2:PSs X Yk u):PSs X (st::Yk) (tSeq t u):=by
 intro pins s σ H D I h;refine wpAny_execs_cons (thn (h1 pins s σ H { D with nx:=u D } I h) λf s1 q=>?_);cases f with
 | next=>
  obtain⟨σ',H',I',q⟩:=q;exact h2 pins s1 σ' H' D I' q
 | ret v=>exact q
 | brk=>exact q
 | cont=>exact q
theorem zaD (h1:PS X st t):PSs X [st] t:=by
 intro pins s σ H D I h;refine wpAny_execs_cons (thn (h1 pins s σ H D I h) λf s1 q=>?_);cases f with
 | next=>exact wpAny_execs_nil q
 | ret v=>exact q
 | brk=>exact q
 | cont=>exact q
def zh8:TS:=λD σ H=>D.bk σ H
theorem za7:PS X (.Break pos) zh8:=λ_ _ σ H _ I h=>wpAny_Break ⟨σ,H,I,h⟩
theorem Inv.quiet (I:Inv X pins σ H s):interactive X.env=false:=by simp[interactive,I.ok.kind]
def tDrop (te:TE):TS:=λD σ H=>te σ H λ_ H1=>D.nx σ H1
theorem zbP (he:PE X e te)(hs:swapsWith e none pos.line X.env=pure false:=by rfl):PS X (.Expr e pos) (tDrop te):=by
 intro pins s σ H D I h;exact wpAny_Expr_any (thn (he pins s σ H _ I h) λv s1 ⟨x,H1,I1,r1,q1⟩=>⟨σ,H1,I1,q1⟩) I.quiet hs
def tRet (te:TE):TS:=λD σ H=>te σ H D.rt
theorem zf8 (he:PE X e te):PS X (.Return (some e) pos) (tRet te):=by
 intro pins s σ H D I h;exact wpAny_Return_some (thn (he pins s σ H _ I h) λv s1 ⟨x,H1,I1,r1,q1⟩=>⟨x,σ,H1,I1,r1,q1⟩)
def tRetN:TS:=λD _ H=>D.rt .non H
theorem zcc:PS X (.Return none pos) tRetN:=λ_ _ σ H _ I h=>wpAny_Return_none ⟨.non,σ,H,I,rfl,h⟩
def tIfS (c:TT)(t u:TS):TS:=λD σ H=>c σ H λb H1=>if b=true then t D σ H1 else u D σ H1
theorem ps_if (hc:PT X c tc)(ha:PSs X a t)(hb:PSs X b u):PS X (.If c a b pos) (tIfS tc t u):=by
 intro pins s σ H D I h;refine wpAny_If (thn (hc pins s σ H _ I h) λd s1 ⟨H1,I1,q1⟩=>?_);cases d with
 | true=>exact ha pins s1 σ H1 D I1 q1
 | false=>exact hb pins s1 σ H1 D I1 q1
def zeR:TS:=λ_ _ _=>False
theorem zik:PS X st zeR:=λ_ _ _ _ _ _ h=>h.elim
end
abbrev TG:=V->St->Hp->(St->Hp->Prop)->Prop
abbrev TGs:=List V->St->Hp->(St->Hp->Prop)->Prop
def PG (X:Cx)(target:Expr)(t:TG):Prop:=
 ∀(pins:LA)(s:Shared)(σ:St)(H:Hp)(v:V)(u:Value)(Q:St->Hp->Prop),Inv X pins σ H s->Zv v u->t v σ H Q->
  wpAny (mX X) X.A (assign target X.env u) (λ_ s'=>∃σ' H',Inv X pins σ' H' s'/\Q σ' H') X.xe s
def PGs (X:Cx)(ts:List Expr)(t:TGs):Prop:=
 ∀(pins:LA)(s:Shared)(σ:St)(H:Hp)(vs:List V)(us:List Value)(Q:St->Hp->Prop),Inv X pins σ H s->Zw vs us->t vs σ H Q->
  wpAny (mX X) X.A (assignInOrder ((assignEach ts X.env).map (·.2)) us) (λ_ s'=>∃σ' H',Inv X pins σ' H' s'/\Q σ' H') X.xe s
abbrev TSet:=V->V->V->Hp->(Hp->Prop)->Prop
def PSet (X:Cx)(t:TSet):Prop:=
 ∀(pins:LA)(s:Shared)(σ:St)(H:Hp)(o i v:V)(ov iv u:Value)(Q:Hp->Prop),Inv X pins σ H s->Zv o ov->Zv i iv->Zv v u->t o i v H Q->
  wpAny (mX X) X.A (setItem ov iv u) (λ_ s'=>∃H',Inv X pins σ H' s'/\Q H') X.xe s
def Hu (i:Nat):TG:=λv σ H Q=>Q (σ.set i (some v)) H
theorem Uq (hN:X.N.Nodup)(hi:X.N[i]?=some x)(hx:Loc X.env.scope x)(hf:Hf X x:=by first|exact .inl rfl|exact .inr rfl|assumption):PG X (.Name x pos) (Hu i):=by
 intro pins s σ H v u Q I r h;exact wpAny_assign_Name (BD I hN hi hx r (λs' I'=>⟨_,H,I',h⟩) hf)
def gNil:TGs:=λvs σ H Q=>vs=[]/\Q σ H
def gCons (t:TG)(u:TGs):TGs:=λvs σ H Q=>∃v r,vs=v::r/\t v σ H λσ' H'=>u r σ' H' Q
theorem zbo:PGs X [] gNil:=by
 intro pins s σ H vs us Q I r h;obtain⟨e,h⟩:=h;subst e;cases r;exact assignInOrder_nil ⟨σ,H,I,h⟩
theorem zgg (h1:PG X e t)(h2:PGs X es u)(hs:(assignEach (e::es) X.env).map (·.2)=assign e X.env::(assignEach es X.env).map (·.2):=by rfl):PGs X (e::es) (gCons t u):=by
 intro pins s σ H vs us Q I r h;obtain⟨v,vr,e1,h⟩:=h;subst e1;cases r with
 | cons r rr=>
  rw[hs];refine assignInOrder_cons (thn (h1 pins s σ H _ _ _ I r h) λ_ s1 ⟨σ1,H1,I1,q1⟩=>?_);exact h2 pins s1 σ1 H1 _ _ Q I1 rr q1
def UK (K:Fg)(n:Nat)(t:TGs):TG:=λv σ H Q=>∃a xs,v=.ref a/\SqT K H a xs/\xs.length=n/\t xs σ H Q
theorem Sy (hc:X.calm=true)(h:PGs X es t)(hn:(assignEach es X.env).length=n:=by rfl)(hst:(assignEach es X.env).findIdx? (·.1)=none:=by rfl):PG X (.Tuple es k pos) (UK X.K n t):=by
 intro pins s σ H v u Q I r hw;obtain⟨a,xs,e1,hq,hl,hw⟩:=hw;subst e1;cases r;obtain⟨aX,rv,ht,hz⟩:=I.tuple hq;refine assign_Tuple_tuple (I.ok.hd hc) ht (by simp[hn,<- hl,rv.length]) hst λh' hx=>?_
 have I1:Inv X pins σ H { s with heap:=h' }:=I.kept (t':=s.toks) λb o e=>hx b o (zK (Heap.lt_size e)) e
 exact h pins _ σ H xs _ Q I1 (by simpa using rv) hw
def gSub (to ti:TE)(t:TSet):TG:=λv σ H Q=>to σ H λo H1=>ti σ H1 λi H2=>t o i v H2 λH3=>Q σ H3
theorem zdZ (ho:PE X o to)(hi:PE X i ti)(hs:PSet X t)(ha:∀v,assign (.Subscript o i pos) X.env v=(do
   let ov <- holding [v] (eval o X.env)
   let iv <- holding [v,ov] (eval i X.env)
   standAt pos
   holding [v,ov,iv] (setItem ov iv v)
   release [v,ov,iv] []):=by intro _;rfl):PG X (.Subscript o i pos) (gSub to ti t):=by
 intro pins s σ H v u Q I r h;rw[ha];refine wpAny_bind (wpAny_holding (thn (ho pins s σ H _ I h) λov s1 ⟨x,H1,I1,r1,q1⟩=>?_));refine wpAny_bind (wpAny_holding (thn (hi pins s1 σ H1 _ I1 q1) λiv s2 ⟨y,H2,I2,r2,q2⟩=>?_));refine wpAny_bind (wpAny_standAt (wpAny_bind (wpAny_holding (thn (hs pins s2 σ H2 x y v ov iv u _ I2 r1 r2 r q2) λ_ s3 ⟨H3,I3,q3⟩=>?_))));exact wpAny_release ⟨σ,H3,I3,q3⟩
def tAsg (te:TE)(g:TG):TS:=λD σ H=>te σ H λx H1=>g x σ H1 D.nx
theorem za4 (he:PE X e te)(hg:PG X tg g)(hs:swapsWithSole [tg] e pos.line X.env=pure false:=by rfl)(hw:swappedStores [tg] e X.env=pure none:=by rfl)(h1:(assignEach [tg] X.env).map (·.2)=[assign tg X.env]:=by rfl):PS X (.Assign [tg] e pos) (tAsg te g):=by
 intro pins s σ H D I h;refine wpAny_Assign_stores (thn (he pins s σ H _ I h) λv s1 ⟨x,H1,I1,r1,q1⟩=>?_) hs hw;rw[h1];exact thn (hg pins s1 σ H1 x v _ I1 r1 q1) λ_ s2 q=>q
theorem zaO (hN:X.N.Nodup)(hi:X.N[i]?=some x)(hx:Loc X.env.scope x)(he:PE X e te)(hs:swapsWith e (some (.Name x pos')) pos.line X.env=pure false:=by rfl)(hf:Hf X x:=by first|exact .inl rfl|exact .inr rfl|assumption):
  PS X (.Assign [.Name x pos'] e pos) (tAsg te (Hu i)):=by
 intro pins s σ H D I h;refine wpAny_Assign_Name (thn (he pins s σ H _ I h) λv s1 ⟨y,H1,I1,r1,q1⟩=>?_) hs;exact BD I1 hN hi hx r1 (λs2 I2=>⟨_,H1,I2,q1⟩) hf
def zhJ (c:TT)(tb:TS):TS:=λD σ H=>∃W:Nat->St->Hp->Prop,(∃m,W m σ H)/\∀m σ H,W m σ H->
 c σ H λb H1=>if b=true then ∃N:St->Hp->Prop,(∀σ' H',N σ' H'->∃m',m'<m/\W m' σ' H')/\tb { D with nx:=N,ct:=N,bk:=D.nx } σ H1 else D.nx σ H1
theorem zhL (hp:PassesOwn (mX X) X.A X.env X.xe)(hc:PT X c tc)(hb:PSs X body tb):PS X (.While c body [] pos) (zhJ tc tb):=by
 intro pins s σ H D I h;obtain⟨W,⟨m0,w0⟩,turn⟩:=h;refine wpAny_While (codeAny_whileLoop (λn s'=>∃σ' H',Inv X pins σ' H' s'/\W n σ' H') ?_ m0 ⟨σ,H,I,w0⟩);rintro n s1 ⟨σ1,H1,I1,w1⟩;refine wpAny_passesOwn hp (thn (hc pins s1 σ1 H1 _ I1 (turn n σ1 H1 w1)) λb s2 ⟨H2,I2,q2⟩=>?_);cases b with
 | true=>
  obtain⟨N,hN,q2⟩:=q2;rw[if_pos rfl];refine wpAny_passesOwn hp (thn (hb pins s2 σ1 H2 _ I2 q2) λf s3 q3=>?_);cases f with
  | next=>
   obtain⟨σ3,H3,I3,n3⟩:=q3;obtain⟨m',hm,w3⟩:=hN σ3 H3 n3;exact⟨m',hm,σ3,H3,I3,w3⟩
  | cont=>
   obtain⟨σ3,H3,I3,n3⟩:=q3;obtain⟨m',hm,w3⟩:=hN σ3 H3 n3;exact⟨m',hm,σ3,H3,I3,w3⟩
  | brk=>exact q3
  | ret v=>exact q3
 | false=>
  rw[if_neg zI];exact wpAny_execs_nil ⟨σ1,H2,I2,q2⟩
structure It where
 go:Nat->Hp->Prop
 yld:Nat->Hp->V->Hp->Prop
 stop:Nat->Hp->Prop
def Yh (X:Cx)(pins:LA)(H:Hp)(b:Addr):Prop:=
 H b=none/\b≠X.env.locals/\b ∉ X.fs/\(b∈X.ex\/X.s₀.heap.objs.size<=b)/\(∀x c,X.env.cells.lookup x=some c->c≠b)/\∀p∈X.pn++pins,p.1≠b
theorem Inv.fpOk {X:Cx}{pins:LA}{σ:St}{H H':Hp}{s:Shared}{b:Addr}(I:Inv X pins σ H s)(hb:s.heap.objs.size<=b)(hn:H' b=none):Yh X pins H' b:=by
 refine⟨hn,yT (zR I.lt hb),I.nofs hb,.inr (yE I.sz hb),λx c e z=>?_,λp hp z=>?_⟩
 .obtain⟨v,q⟩:=I.cell x c e;exact absurd (zR q.lt (by rw[z];exact hb)) (yK _)
 .exact absurd (zR (Heap.lt_size (I.pin p hp).1) (by rw[z];exact hb)) (yK _)
structure UU (P:Program)(w:World)(K:Fg)(tg:Expr)(J:It)(fp:List Addr)(it:Addr)(tn:Nat->Heap->Prop):Prop where
 mem:it∈fp
 obj:∀i h,tn i h->∀b∈fp,∃o,h.get? b=some o/\∀v,o.data≠.cell v
 keep:∀i h h',tn i h->(∀b∈fp,∀o,h.get? b=some o->h'.get? b=some o)->tn i h'
 item:∀(X:Cx),X.prog=P->X.w=w->X.K=K->X.calm=true->∀(i:Nat)(pins:LA)(s:Shared)(σ:St)(H:Hp)(E:Value->Shared->Prop),Inv X pins σ H s->(∀b∈fp,Yh X pins H b)->tn i s.heap->J.go i H->
  wpAny (model P w) X.A (pyNext (.ref it)) (λr s1=>∃u,r=some u/\
   wpAny (model P w) X.A (letOwnedTupleGo tg (.ref it) u) (λ_ s2=>∃x H',Inv X pins σ H' s2/\Zv x u/\J.yld i H x H'/\tn (i+1) s2.heap/\∀b∈fp,H' b=none) E s1) E s
 done:∀(X:Cx),X.prog=P->X.w=w->X.K=K->X.calm=true->∀(i:Nat)(pins:LA)(s:Shared)(σ:St)(H:Hp)(E:Value->Shared->Prop),Inv X pins σ H s->(∀b∈fp,Yh X pins H b)->tn i s.heap->J.stop i H->
  wpAny (model P w) X.A (pyNext (.ref it)) (λr s1=>r=none/\Inv X pins σ H s1) E s
 self:∀(A:Around)(i:Nat)(s:Shared)(Q:Value->Shared->Prop)(E:Value->Shared->Prop),tn i s.heap->Q (.ref it) s->wpAny (model P w) A (pyIter (.ref it)) Q E s
abbrev TI:=St->Hp->(It->Hp->Prop)->Prop
def PIE (X:Cx)(pins:LA)(σ:St)(tg:Expr)(R:It->Hp->Prop)(itv:Value)(s2:Shared):Prop:=
 ∃(it:Addr)(fp:List Addr)(tn:Nat->Heap->Prop)(J:It)(H':Hp),itv=.ref it/\Inv X pins σ H' s2/\UU X.prog X.w X.K tg J fp it tn/\tn 0 s2.heap/\(∀b∈fp,Yh X pins H' b)/\R J H'
def PI (X:Cx)(tg aU:Expr)(wi:TI):Prop:=
 ∀(pins:LA)(s:Shared)(σ:St)(H:Hp)(R:It->Hp->Prop),Inv X pins σ H s->wi σ H R->
  wpAny (mX X) X.A (eval aU X.env) (λv s1=>wpAny (mX X) X.A (pyIter v) (PIE X pins σ tg R) X.xe s1) X.xe s
theorem Pq (ho:s.heap.get? it=some o)(hc:o.cls=.type n)(hd:o.data=.fields vs)(hn:["enumerate","zip","dict_itemiterator","dict_reverseitemiterator","odict_iterator","itertools.zip_longest","itertools.pairwise"].contains n=false)(hQ:Q Unit.unit s):wpAny M A (letOwnedTupleGo tg (.ref it) u) Q E s:=by
  unfold letOwnedTupleGo;cases tg<;>first
    | exact wpAny_pure hQ
    | (cases u<;>first
        | exact wpAny_pure hQ
        | (refine wpAny_bind (wpAny_load ho ?_)
           rw[hc,hd];show wpAny M A (if (["enumerate","zip","dict_itemiterator","dict_reverseitemiterator","odict_iterator","itertools.zip_longest","itertools.pairwise"].contains n&&vs[0]?==some (rawInt _))=true then _ else _) Q E s;rw[if_neg (by intro h;rw[hn,xB] at h;cases h)];exact wpAny_pure hQ))
def Itl (K:Fg)(a:Addr):It:=
 ⟨λi H=>∃xs x,SqL K H a xs/\xs[i]?=some x,λi H x H'=>H'=H/\∀xs,SqL K H a xs->xs[i]?=some x,λi H=>∃xs,SqL K H a xs/\xs.length<=i⟩
def Itt (K:Fg)(a:Addr):It:=
 ⟨λi H=>∃xs x,SqT K H a xs/\xs[i]?=some x,λi H x H'=>H'=H/\∀xs,SqT K H a xs->xs[i]?=some x,λi H=>∃xs,SqT K H a xs/\xs.length<=i⟩
def Itr (lo:Int)(n:Nat):It:=⟨λi _=>i<n,λi H x H'=>H'=H/\x=.int (lo+i),λi _=>n<=i⟩
theorem zdC {P:Program}{w:World}{K:Fg}{tg:Expr}(a it:Addr):UU P w K tg (Itl K a) [it] it (λi h=>h.IsListIter it a i) where
 mem:=by simp
 obj:=λi h st b hb=>by
  have e:b=it:=by simpa using hb
  subst e;obtain⟨o,e,c,d⟩:=st;exact⟨o,e,λv z=>by rw[d] at z;cases z⟩
 keep:=λi h h' st k=>st.at λo e=>k it (by simp) o e
 item:=by
  intro X hP hw hK hc i pins s σ H E I hf st hg;subst hP hw hK;obtain⟨xs,x,hq,hx⟩:=hg;obtain⟨aX,rv,p,hz⟩:=I.list hq;obtain⟨u,hu,ru⟩:=rv.get hx;obtain⟨f0,f1,f2,f3,f4,f5⟩:=hf it (by simp);refine wpAny_pyNext_list_item st p.isList (x:=u) (by simpa using hu) λh' st' sb=>?_
  have I1:Inv X pins σ H { s with heap:=h' }:=I.turned (t':=s.toks) (λb o hb e=>(sb.2 b hb).trans e) f0 f1 f3 f4 f5;obtain⟨o,e,c,d⟩:=id st';exact⟨u,rfl,Pq (s:={ s with heap:=h' }) e c d ⋯ ⟨x,H,I1,ru,⟨rfl,λys hy=>by rw[I.list_inj hy hq];exact hx⟩,st',λb hb=>(hf b hb).1⟩⟩
 done:=by
  intro X hP hw hK hc i pins s σ H E I hf st hg;subst hP hw hK;obtain⟨xs,hq,hx⟩:=hg;obtain⟨aX,rv,p,hz⟩:=I.list hq;obtain⟨f0,f1,f2,f3,f4,f5⟩:=hf it (by simp);have hl:=rv.length;exact wpAny_pyNext_list_end (I.ok.hd hc) st p.isList (by simp;omega) λh' eb=>⟨rfl,I.turned (t':=s.toks) (λb o hb e=>eb b o hb e) f0 f1 f3 f4 f5⟩
 self:=λ_ _ _ _ _ st h=>wpAny_pyIter_listiter st h
theorem zet {P:Program}{w:World}{K:Fg}{tg:Expr}(a it:Addr):UU P w K tg (Itt K a) [it] it (λi h=>h.IsTupleIter it a i) where
 mem:=by simp
 obj:=λi h st b hb=>by
  have e:b=it:=by simpa using hb
  subst e;obtain⟨o,e,c,d⟩:=st;exact⟨o,e,λv z=>by rw[d] at z;cases z⟩
 keep:=λi h h' st k=>st.at λo e=>k it (by simp) o e
 item:=by
  intro X hP hw hK hc i pins s σ H E I hf st hg;subst hP hw hK;obtain⟨xs,x,hq,hx⟩:=hg;obtain⟨aX,rv,p,hz⟩:=I.tuple hq;obtain⟨u,hu,ru⟩:=rv.get hx;obtain⟨f0,f1,f2,f3,f4,f5⟩:=hf it (by simp);refine wpAny_pyNext_tuple_item st (show s.heap.IsTuple a aX.toArray from p) (x:=u) (by simpa using hu) λh' st' sb=>?_
  have I1:Inv X pins σ H { s with heap:=h' }:=I.turned (t':=s.toks) (λb o hb e=>(sb.2 b hb).trans e) f0 f1 f3 f4 f5;obtain⟨o,e,c,d⟩:=id st';exact⟨u,rfl,Pq (s:={ s with heap:=h' }) e c d ⋯ ⟨x,H,I1,ru,⟨rfl,λys hy=>by rw[I.tuple_inj hy hq];exact hx⟩,st',λb hb=>(hf b hb).1⟩⟩
 done:=by
  intro X hP hw hK hc i pins s σ H E I hf st hg;subst hP hw hK;obtain⟨xs,hq,hx⟩:=hg;obtain⟨aX,rv,p,hz⟩:=I.tuple hq;obtain⟨f0,f1,f2,f3,f4,f5⟩:=hf it (by simp);have hl:=rv.length;exact wpAny_pyNext_tuple_end (I.ok.hd hc) st (show s.heap.IsTuple a aX.toArray from p) (by simp;omega) λh' eb=>⟨rfl,I.turned (t':=s.toks) (λb o hb e=>eb b o hb e) f0 f1 f3 f4 f5⟩
 self:=λ_ _ _ _ _ st h=>wpAny_pyIter_tupleiter st h
theorem zjD {P:Program}{w:World}{K:Fg}{tg:Expr}(it:Addr)(lo:Int)(n:Nat):UU P w K tg (Itr lo n) [it] it (λi h=>IsRangeIter h it (lo+(i:Nat)*1) ((n:Int)-(i:Nat)) 1) where
 mem:=by simp
 obj:=λi h st b hb=>by
  have e:b=it:=by simpa using hb
  subst e;exact⟨_,st,λv z=>by
   have z':Data.fields _=Data.cell v:=z;cases z'⟩
 keep:=λi h h' st k=>k it (by simp) _ st
 item:=by
  intro X hP hw hK hc i pins s σ H E I hf st hg;subst hP hw hK;obtain⟨f0,f1,f2,f3,f4,f5⟩:=hf it (by simp);have W:=Walks.range (prog:=X.prog) (w:=X.w) (I.ok.hd hc) it lo 1 n;refine W.item i s _ _ hg st λv h' tk hv st' kk=>?_
  obtain⟨t,rfl⟩:=hv;have I1:Inv X pins σ H { s with heap:=h',toks:=tk }:=I.turned (λb o hb e=>kk b o (by simpa using hb) e) f0 f1 f3 f4 f5;refine⟨_,rfl,Pq (s:={ s with heap:=h',toks:=tk }) (n:="range_iterator") st' rfl rfl ⋯ ⟨.int (lo+i),H,I1,⟨t,?_⟩,⟨rfl,rfl⟩,st',λb hb=>(hf b hb).1⟩⟩;rw[xN]
 done:=by
  intro X hP hw hK hc i pins s σ H E I hf st hg;subst hP hw hK;obtain⟨f0,f1,f2,f3,f4,f5⟩:=hf it (by simp);exact wpAny_pyNext_range_end (I.ok.hd hc) st (by have:n<=i:=hg;omega) λh' eb=>⟨rfl,I.turned (t':=s.toks) (λb o hb e=>eb b o hb e) f0 f1 f3 f4 f5⟩
 self:=λ_ _ _ _ _ st h=>wpAny_pyIter_rangeiter st h
def ED (K:Fg)(tl:TE):TI:=λσ H R=>tl σ H λx H1=>∃a,x=.ref a/\(∃xs,SqL K H1 a xs)/\R (Itl K a) H1
def iTup (K:Fg)(tl:TE):TI:=λσ H R=>tl σ H λx H1=>∃a,x=.ref a/\(∃xs,SqT K H1 a xs)/\R (Itt K a) H1
theorem KW {l:Expr}{tl:TE}(hl:PE X l tl):PI X tg l (ED X.K tl):=by
 intro pins s σ H R I h;refine thn (hl pins s σ H _ I h) λv s1 ⟨x,H1,I1,r1,q1⟩=>?_
 obtain⟨a,e,⟨xs,hq⟩,q⟩:=q1;subst e;cases r1;obtain⟨aX,rv,p,hz⟩:=I1.list hq;refine wpAny_pyIter_list p.isList ?_;refine⟨s1.heap.objs.size,[s1.heap.objs.size],_,_,H1,rfl,I1.kept (t':=s1.toks) λb o e=>Heap.get?_push_of_some _ e,zdC a _,⟨_,Heap.get?_push_size _ rfl,rfl,rfl⟩,λb hb=>?_,q⟩;have e:b=s1.heap.objs.size:=by simpa using hb
 subst e;exact I1.fpOk (zC _) (I1.hok.fresh (zC _))
theorem zdl {l:Expr}{tl:TE}(hl:PE X l tl):PI X tg l (iTup X.K tl):=by
 intro pins s σ H R I h;refine thn (hl pins s σ H _ I h) λv s1 ⟨x,H1,I1,r1,q1⟩=>?_
 obtain⟨a,e,⟨xs,hq⟩,q⟩:=q1;subst e;cases r1;obtain⟨aX,rv,p,hz⟩:=I1.tuple hq;refine wpAny_pyIter_tuple (show s1.heap.IsTuple a aX.toArray from p) ?_;refine⟨s1.heap.objs.size,[s1.heap.objs.size],_,_,H1,rfl,I1.kept (t':=s1.toks) λb o e=>Heap.get?_push_of_some _ e,zet a _,⟨_,Heap.get?_push_size _ rfl,rfl,rfl⟩,λb hb=>?_,q⟩;have e:b=s1.heap.objs.size:=by simpa using hb
 subst e;exact I1.fpOk (zC _) (I1.hok.fresh (zC _))
theorem FL {pins:LA}{σ:St}{H:Hp}{s:Shared}{R:It->Hp->Prop}{E:Value->Shared->Prop}{lo hi:Int}{t u v:Tok}{tk:Nat}(I:Inv X pins σ H s)(h1:-(2^62)<=lo)(h2:lo<2^62)(h3:-(2^62)<=hi)(h4:hi<2^62)
  (q:R (Itr lo (hi-lo).toNat) H):wpAny (mX X) X.A (pyIter (.ref s.heap.objs.size)) (PIE X pins σ tg R) E { s with heap:=s.heap.push { cls:=.type "range",data:=.fields #[.int lo t,.int hi u,.int 1 v] },toks:=tk }:=by
 refine wpAny_pyIter_range (IsRange.new ..) (small_one h1 h2 h3 h4) ?_;have I1:Inv X pins σ H { s with heap:=s.heap.push { cls:=.type "range",data:=.fields #[.int lo t,.int hi u,.int 1 v] },toks:=tk }:=I.kept λb o e=>Heap.get?_push_of_some _ e
 refine⟨(s.heap.push { cls:=.type "range",data:=.fields #[.int lo t,.int hi u,.int 1 v] }).objs.size,[(s.heap.push { cls:=.type "range",data:=.fields #[.int lo t,.int hi u,.int 1 v] }).objs.size],_,_,H,rfl,
  I1.kept (t':=tk) λb o e=>Heap.get?_push_of_some _ e,zjD _ lo (hi-lo).toNat,?_,λb hb=>?_,q⟩
 .have e1:lo+((0:Nat):Int)*1=lo:=by simp
  have e2:(((hi-lo).toNat:Nat):Int)-((0:Nat):Int)=Builtin.Range.rangeSize lo hi 1:=by rw[rangeSize_one];split<;>omega
  show IsRangeIter _ _ (lo+((0:Nat):Int)*1) ((((hi-lo).toNat:Nat):Int)-((0:Nat):Int)) 1;rw[e1,e2];exact Heap.get?_push_size _ rfl
 .have e:b=(s.heap.push { cls:=.type "range",data:=.fields #[.int lo t,.int hi u,.int 1 v] }).objs.size:=by simpa using hb
  subst e;exact I1.fpOk (zC _) (I1.hok.fresh (zC _))
def Be (ta:TA):TI:=λσ H R=>ta σ H λvs H1=>∃j:Int,vs=[.int j]/\-(2^62)<=j/\j<2^62/\R (Itr 0 j.toNat) H1
def BF (ta:TA):TI:=λσ H R=>ta σ H λvs H1=>∃i j:Int,vs=[.int i,.int j]/\(-(2^62)<=i/\i<2^62/\-(2^62)<=j/\j<2^62)/\R (Itr i (j-i).toNat) H1
theorem IJ {a:Expr}{ta:TA}{p pos:Pos}(hg:Gl X "range")(hm:X.mg "range"=none)(ha:PA X [a] ta)(hs:starEach [a] X.env=[(false,eval a X.env)]:=by rfl):PI X tg (.Call (.Name "range" p) [a] [] pos) (Be ta):=by
 intro pins s σ H R I h;refine Call_ (WD I hg hm boot_range (PyProof.Rows.callWith_type1 (thn (ha pos pins s σ H _ I h) λus s1 ⟨vs,H1,I1,r1,q1⟩=>?_) hs rfl));obtain⟨j,e,q1,q2,q⟩:=q1;subst e;cases r1 with
 | cons r rr=>
  cases rr;obtain⟨t,rfl⟩:=r;exact call_range_1 (FL I1 (by omega) (by omega) q1 q2 (by simpa using q))
theorem E6 (hg:Gl X "range")(hm:X.mg "range"=none)(ha:PA X [a,b] ta)(hs:starEach [a,b] X.env=[(false,eval a X.env),(false,eval b X.env)]:=by rfl)(hs2:starEach [b] X.env=[(false,eval b X.env)]:=by rfl):
  PI X tg (.Call (.Name "range" p) [a,b] [] pos) (BF ta):=by
 intro pins s σ H R I h;refine Call_ (WD I hg hm boot_range (PyProof.Rows.callWith_type1 (thn (ha pos pins s σ H _ I h) λus s1 ⟨vs,H1,I1,r1,q1⟩=>?_) (by rw[hs,hs2]) (by rw[hs2];rfl)));obtain⟨i,j,e,⟨q1,q2,q3,q4⟩,q⟩:=q1;subst e;cases r1 with
 | cons r rr=>
  cases rr with
  | cons r' rr=>
   cases rr;obtain⟨t,rfl⟩:=r;obtain⟨t',rfl⟩:=r';exact call_range_2 (FL I1 q1 q2 q3 q4 q)
def tFor (wi:TI)(g:TG)(tb:TS):TS:=λD σ H=>wi σ H λJ H1=>∃W:Nat->Nat->St->Hp->Prop,(∃m,W 0 m σ H1)/\∀i m σ H,W i m σ H->
 (J.stop i H/\D.nx σ H)\/(J.go i H/\∃N:St->Hp->Prop,(∀σ' H',N σ' H'->∃m',m'<m/\W (i+1) m' σ' H')/\∀x H',J.yld i H x H'->g x σ H' λσ2 H2=>tb { D with nx:=N,ct:=N,bk:=D.nx } σ2 H2)
def Pa (fp:List Addr)(h:Heap):LA:=fp.filterMap λb=>(h.get? b).map λo=>(b,o)
theorem PC {fp:List Addr}{h:Heap}{b:Addr}{o:Obj}(hb:b∈fp)(e:h.get? b=some o):(b,o)∈Pa fp h:=wC.mpr ⟨b,hb,by rw[e];rfl⟩
theorem zgs {fp:List Addr}{h:Heap}{p:Addr×Obj}(hp:p∈Pa fp h):p.1∈fp/\h.get? p.1=some p.2:=by
 obtain⟨b,hb,e⟩:=wC.mp hp;cases q:h.get? b with
 | none=>rw[q] at e;cases e
 | some o=>
  rw[q] at e;have e':(b,o)=p:=Option.some.inj e;subst e';exact⟨hb,q⟩
theorem Inv.pinned {pins:LA}{σ:St}{H:Hp}{s:Shared}{fp:List Addr}(I:Inv X pins σ H s)(hf:∀b∈fp,Yh X pins H b)(ho:∀b∈fp,∃o,s.heap.get? b=some o/\∀v,o.data≠.cell v):Inv X (pins++Pa fp s.heap) σ H s:=
 I.pins_of λp hp=>(zX.mp hp).elim (λz=>I.pin p (yM _ z)) λz=>by
  obtain⟨hb,e⟩:=zgs z;obtain⟨f0,f1,f2,_⟩:=hf p.1 hb;obtain⟨o,e',d⟩:=ho p.1 hb;rw[e] at e';cases e'
  exact⟨e,f0,f1,f2,d⟩
theorem Inv.unpinned (I:Inv X (pins++pl) σ H s):Inv X pins σ H s:=I.pins_of λp hp=>I.pin p (yM _ (vW _ hp))
theorem Ut (hp:PassesOwn (mX X) X.A X.env X.xe)(hc:X.calm=true)(hi:PI X tg aU wi)(hg:PG X tg g)(hb:PSs X body tb)(hs:∀x,foldedSetIterable aU X.env x=pure x:=by intro _;rfl):PS X (.For tg aU body [] pos) (tFor wi g tb):=by
 intro pins s σ H D I h;refine wpAny_For (thn (hi pins s σ H _ I h) λv s1 h1=>thn h1 λitv s2 h2=>?_) hs;obtain⟨it,fp,tn,J,H2,e,I2,T,st2,f2,W,⟨m0,w0⟩,turn⟩:=h2;subst e;have stat:∀ {H':Hp},(∀b∈fp,H' b=none)->∀b∈fp,Yh X pins H' b:=λhn b hb=>⟨hn b hb,(f2 b hb).2⟩
 refine codeAny_forLoop_any (λn s'=>∃i σ' H',Inv X pins σ' H' s'/\tn i s'.heap/\(∀b∈fp,H' b=none)/\W i n σ' H') ?_ m0 ⟨0,σ,H2,I2,st2,λb hb=>(f2 b hb).1,w0⟩;rintro n s3 ⟨i,σ3,H3,I3,st3,fr3,w3⟩;rcases turn i n σ3 H3 w3 with ⟨stop,qn⟩|⟨go,N,hN,step⟩
 .refine wpAny_passesOwn hp (thn (T.done X rfl rfl rfl hc i pins s3 σ3 H3 X.xe I3 (stat fr3) st3 stop) λr s4 ⟨hr,I4⟩=>?_);subst hr;exact wpAny_execs_nil ⟨σ3,H3,I4,qn⟩
 .refine wpAny_passesOwn hp (thn (T.item X rfl rfl rfl hc i pins s3 σ3 H3 X.xe I3 (stat fr3) st3 go) λr s4 ⟨u,hr,h4⟩=>?_);subst hr;refine wpAny_passesOwn hp (thn h4 λ_ s5 ⟨x,H5,I5,r5,y5,st5,fr5⟩=>?_);have I5':=I5.pinned (stat fr5) (T.obj _ _ st5);refine wpAny_passesOwn hp (thn (hg _ s5 σ3 H5 x u _ I5' r5 (step x H5 y5)) λ_ s6 ⟨σ6,H6,I6,q6⟩=>?_);refine wpAny_passesOwn hp (thn (hb _ s6 σ6 H6 _ I6 q6) λf s7 q7=>?_);have again:∀ {σ7:St} {H7:Hp},Inv X (pins++Pa fp s5.heap) σ7 H7 s7->N σ7 H7->∃m,m<n/\∃i σ' H',Inv X pins σ' H' s7/\tn i s7.heap/\(∀b∈fp,H' b=none)/\W i m σ' H':=λ{σ7 H7} I7 n7=>by
   obtain⟨m',hm,w7⟩:=hN σ7 H7 n7;refine⟨m',hm,i+1,σ7,H7,I7.unpinned,T.keep _ _ _ st5 λb hb o e=>(I7.pin (b,o) (yM _ (yM _ (PC hb e)))).1,λb hb=>?_,w7⟩;obtain⟨o,e,d⟩:=T.obj _ _ st5 b hb;exact(I7.pin (b,o) (yM _ (yM _ (PC hb e)))).2.1
  cases f with
  | next=>obtain⟨σ7,H7,I7,n7⟩:=q7;exact again I7 n7
  | cont=>obtain⟨σ7,H7,I7,n7⟩:=q7;exact again I7 n7
  | brk=>obtain⟨σ7,H7,I7,q7⟩:=q7;exact⟨σ7,H7,I7.unpinned,q7⟩
  | ret v=>obtain⟨x7,σ7,H7,I7,r7,q7⟩:=q7;exact⟨x7,σ7,H7,I7.unpinned,r7,q7⟩
abbrev R2:=V->V->Hp->VK->Prop
def OpR (X:Cx)(f:Value->Value->Sem Value)(r:R2):Prop:=
 ∀(pins:LA)(s:Shared)(σ:St)(H:Hp)(x y:V)(v u:Value)(Q:VK),Inv X pins σ H s->Zv x v->Zv y u->r x y H Q->
  wpAny (mX X) X.A (f v u) (EP X pins σ Q) X.xe s
def UnR (X:Cx)(f:Value->Sem Value)(r:V->Hp->VK->Prop):Prop:=
 ∀(pins:LA)(s:Shared)(σ:St)(H:Hp)(x:V)(v:Value)(Q:VK),Inv X pins σ H s->Zv x v->r x H Q->
  wpAny (mX X) X.A (f v) (EP X pins σ Q) X.xe s
def Ym (X:Cx)(f:Value)(r:List V->Hp->VK->Prop):Prop:=
 ∀(pins:LA)(s:Shared)(σ:St)(H:Hp)(xs:List V)(us:List Value)(Q:VK),Inv X pins σ H s->Zw xs us->r xs H Q->
  wpAny (mX X) X.A (call f us) (EP X pins σ Q) X.xe s
def TruR (X:Cx)(r:V->Hp->(Bool->Hp->Prop)->Prop):Prop:=
 ∀(pins:LA)(s:Shared)(σ:St)(H:Hp)(x:V)(v:Value)(Q:Bool->Hp->Prop),Inv X pins σ H s->Zv x v->r x H Q->
  wpAny (mX X) X.A (truthy v) (TP X pins σ Q) X.xe s
def tOp (r:R2)(ta tb:TE):TE:=λσ H Q=>ta σ H λx H1=>tb σ H1 λy H2=>r x y H2 Q
def tUn (r:V->Hp->VK->Prop)(ta:TE):TE:=λσ H Q=>ta σ H λx H1=>r x H1 Q
def rI (C:Int->Int->Prop)(g:Int->Int->V):R2:=λx y H Q=>∃i j,x=.int i/\y=.int j/\C i j/\Q (g i j) H
def rI0 (g:Int->Int->V):R2:=λx y H Q=>∃i j,x=.int i/\y=.int j/\Q (g i j) H
def rU (g:Int->V):V->Hp->VK->Prop:=λx H Q=>∃i,x=.int i/\Q (g i) H
theorem binT (ha:PE X a ta)(hb:PE X b tb){pins:LA}{s:Shared}{σ:St}{H:Hp}{R:V->V->Hp->Prop}(I:Inv X pins σ H s)
  (h:ta σ H λx H1=>tb σ H1 λy H2=>R x y H2){Q:Value->Shared->Prop}{f:Value->Value->Sem Value}
  (hf:∀v u s2 x y H2,Inv X pins σ H2 s2->Zv x v->Zv y u->R x y H2->wpAny (mX X) X.A (f v u) Q X.xe s2):
  wpAny (mX X) X.A (eval a X.env) (λv s₁=>wpAny (mX X) X.A (eval b X.env) (λu s₂=>wpAny (mX X) X.A (f v u) Q X.xe s₂) X.xe s₁) X.xe s:=by
 refine thn (ha pins s σ H _ I h) λv s1 ⟨x,H1,I1,r1,q1⟩=>?_
 refine thn (hb pins s1 σ H1 _ I1 q1) λu s2 ⟨y,H2,I2,r2,q2⟩=>?_
 exact hf v u s2 x y H2 I2 r1 r2 q2
theorem pe_op {op:Operator}{r:R2}(ho:OpR X (binaryOp op) r)(ha:PE X a ta)(hb:PE X b tb):PE X (.BinOp a op b pos) (tOp r ta tb):=by
 intro pins s σ H Q I h;exact wpAny_BinOp (binT ha hb I h λv u s2 x y H2 I2 rx ry q=>ho pins s2 σ H2 x y v u Q I2 rx ry q)
theorem pe_un {op:UnaryOp}{r:V->Hp->VK->Prop}(ho:UnR X (unaryOp op) r)(ha:PE X a ta):PE X (.UnaryOp op a pos) (tUn r ta):=by
 intro pins s σ H Q I h;exact UnaryOp_ (thn (ha pins s σ H _ I h) λv s1 ⟨x,H1,I1,r1,q1⟩=>ho pins s1 σ H1 x v Q I1 r1 q1)
theorem opI {f:Value->Value->Sem Value}{C:Int->Int->Prop}{g:Int->Int->Int}
  (rule:∀(i j:Int)(t u:Tok)(s:Shared)(Q:Value->Shared->Prop)(E:Value->Shared->Prop),C i j->Q (.int (g i j) s.toks) { s with toks:=s.toks+1 }->wpAny (mX X) X.A (f (.int i t) (.int j u)) Q E s):
  OpR X f (rI C λi j=>.int (g i j)):=by
 intro pins s σ H x y v u Q I rx ry h;obtain⟨i,j,rfl,rfl,hc,q⟩:=h;obtain⟨t,rfl⟩:=rx;obtain⟨t',rfl⟩:=ry;exact rule i j t t' s _ _ hc ⟨.int (g i j),H,I.tok _,⟨_,rfl⟩,q⟩
theorem opI0 {f:Value->Value->Sem Value}{g:Int->Int->Int}
  (rule:∀(i j:Int)(t u:Tok)(s:Shared)(Q:Value->Shared->Prop)(E:Value->Shared->Prop),Q (.int (g i j) s.toks) { s with toks:=s.toks+1 }->wpAny (mX X) X.A (f (.int i t) (.int j u)) Q E s):
  OpR X f (rI0 λi j=>.int (g i j)):=by
 intro pins s σ H x y v u Q I rx ry h;obtain⟨i,j,rfl,rfl,q⟩:=h;obtain⟨t,rfl⟩:=rx;obtain⟨t',rfl⟩:=ry;exact rule i j t t' s _ _ ⟨.int (g i j),H,I.tok _,⟨_,rfl⟩,q⟩
theorem M3 {f:Value->Value->Sem Value}{g:Int->Int->Bool}
  (rule:∀(i j:Int)(t u:Tok)(s:Shared)(Q:Value->Shared->Prop)(E:Value->Shared->Prop),Q (.bool (g i j)) s->wpAny (mX X) X.A (f (.int i t) (.int j u)) Q E s):
  OpR X f (rI0 λi j=>.bl (g i j)):=by
 intro pins s σ H x y v u Q I rx ry h;obtain⟨i,j,rfl,rfl,q⟩:=h;obtain⟨t,rfl⟩:=rx;obtain⟨t',rfl⟩:=ry;exact rule i j t t' s _ _ ⟨.bl (g i j),H,I,rfl,q⟩
def Ml (i j:Int):Prop:=0<=j/\j<=1000000/\i.natAbs<2^64
theorem zhf:OpR X (binaryOp .Add) (rI0 λi j=>.int (i+j)):=opI0 λ_ _ _ _ _ _ _ q=>add_int q
theorem zfG:OpR X (binaryOp .Sub) (rI0 λi j=>.int (i-j)):=opI0 λ_ _ _ _ _ _ _ q=>sub_int q
theorem zgO:OpR X (binaryOp .Mod) (rI (λ_ j=>0<j) λi j=>.int (i%j)):=opI λi j _ _ _ _ _ hc q=>by
 have h1:(0:Int)<j:=hc;exact mod_int' (by omega) (by rw[Int.fmod_eq_emod_of_nonneg i (by omega)];exact q)
theorem zeX:OpR X (binaryOp .Pow) (rI Ml λi j=>.int (i^j.toNat)):=opI λ_ _ _ _ _ _ _ hc q=>pow_int_small hc.1 hc.2.1 hc.2.2 q
theorem zg3:OpR X (binaryOp .LShift) (rI Ml λi j=>.int (i*2^j.toNat)):=opI λ_ _ _ _ _ _ _ hc q=>lshift_int_small hc.1 hc.2.1 hc.2.2 q
theorem unI {f:Value->Sem Value}{g:Int->Int}
  (rule:∀(i:Int)(t:Tok)(s:Shared)(Q:Value->Shared->Prop)(E:Value->Shared->Prop),Q (.int (g i) s.toks) { s with toks:=s.toks+1 }->wpAny (mX X) X.A (f (.int i t)) Q E s):
  UnR X f (rU λi=>.int (g i)):=by
 intro pins s σ H x v Q I rx h;obtain⟨i,rfl,q⟩:=h;obtain⟨t,rfl⟩:=rx;exact rule i t s _ _ ⟨.int (g i),H,I.tok _,⟨_,rfl⟩,q⟩
theorem zba:UnR X (unaryOp .USub) (rU λi=>.int (-i)):=unI λ_ _ _ _ _ q=>neg_int q
def OY:V->V->Bool
 | .non,.non=>true|.non,.int _=>true|.int _,.non=>true|.non,.bl _=>true|.bl _,.non=>true|.non,.str _=>true|.str _,.non=>true
 | .int _,.int _=>true|.bl _,.bl _=>true|.str _,.str _=>true|.byt _,.byt _=>true
 | .int _,.str _=>true|.str _,.int _=>true|.bl _,.str _=>true|.str _,.bl _=>true
 | _,_=>false
def rEq:R2:=λx y H Q=>OY x y=true/\Q (.bl (decide (x=y))) H
def rNe:R2:=λx y H Q=>OY x y=true/\Q (.bl (!decide (x=y))) H
theorem DE:decide (V.int i=V.int j)=(i==j):=by
 rw[xC];simp
theorem EO:decide (V.bl i=V.bl j)=(i==j):=by
 rw[xC];simp
theorem Cb:decide (V.str i=V.str j)=(i==j):=by
 rw[xC];simp
theorem Ds:decide (V.byt i=V.byt j)=(i.toList==j.toList):=by
 rw[xC];cases i;cases j;simp
theorem Z3 (I:Inv X pins σ H s)(q:Q (.bl k) H)(e:k=k'):EP X pins σ Q (.bool k') s:=by
 subst e;exact⟨.bl k,H,I,rfl,q⟩
theorem KN:OpR X (compareOp .Eq) rEq:=by
 intro pins s σ H x y v u Q I rx ry h;obtain⟨hs,q⟩:=h;cases x with
 | non=>
  cases rx;cases y with
  | non=>cases ry;exact PySem.EqNone.eq_none_none (Z3 I q (by simp))
  | bl j=>cases ry;exact PySem.EqNone.eq_none_bool (Z3 I q (by simp))
  | int j=>obtain⟨t',rfl⟩:=ry;exact PySem.EqNone.eq_none_int (Z3 I q (by simp))
  | str j=>obtain⟨t',rfl⟩:=ry;exact PySem.EqNone.eq_none_str (Z3 I q (by simp))
  | _=>exact absurd (show false=true from hs) zI
 | bl i=>
  cases rx;cases y with
  | non=>cases ry;exact PySem.EqNone.eq_bool_none (Z3 I q (by simp))
  | bl j=>cases ry;exact eq_bool (Z3 I q EO)
  | str j=>obtain⟨t',rfl⟩:=ry;exact PySem.EqMixed.eq_bool_str (Z3 I q (by simp))
  | _=>exact absurd (show false=true from hs) zI
 | int i=>
  obtain⟨t,rfl⟩:=rx;cases y with
  | non=>cases ry;exact PySem.EqNone.eq_int_none (Z3 I q (by simp))
  | int j=>obtain⟨t',rfl⟩:=ry;exact eq_int (Z3 I q DE)
  | str j=>obtain⟨t',rfl⟩:=ry;exact PySem.EqMixed.eq_int_str (Z3 I q (by simp))
  | _=>exact absurd (show false=true from hs) zI
 | str i=>
  obtain⟨t,rfl⟩:=rx;cases y with
  | non=>cases ry;exact PySem.EqNone.eq_str_none (Z3 I q (by simp))
  | bl j=>cases ry;exact PySem.EqMixed.eq_str_bool (Z3 I q (by simp))
  | int j=>obtain⟨t',rfl⟩:=ry;exact PySem.EqMixed.eq_str_int (Z3 I q (by simp))
  | str j=>obtain⟨t',rfl⟩:=ry;exact eq_str (Z3 I q Cb)
  | _=>exact absurd (show false=true from hs) zI
 | byt i=>
  obtain⟨t,rfl⟩:=rx;cases y with
  | byt j=>obtain⟨t',rfl⟩:=ry;exact W.eq_bytes (Z3 I q Ds)
  | _=>exact absurd (show false=true from hs) zI
 | _=>cases y<;>exact absurd (show false=true from hs) zI
theorem op_ne:OpR X (compareOp .NotEq) rNe:=by
 intro pins s σ H x y v u Q I rx ry h;obtain⟨hs,q⟩:=h;cases x with
 | non=>
  cases rx;cases y with
  | non=>cases ry;exact PySem.EqNone.ne_none_none (Z3 I q (by simp))
  | bl j=>cases ry;exact PySem.EqNone.ne_none_bool (Z3 I q (by simp))
  | int j=>obtain⟨t',rfl⟩:=ry;exact PySem.EqNone.ne_none_int (Z3 I q (by simp))
  | str j=>obtain⟨t',rfl⟩:=ry;exact PySem.EqNone.ne_none_str (Z3 I q (by simp))
  | _=>exact absurd (show false=true from hs) zI
 | bl i=>
  cases rx;cases y with
  | non=>cases ry;exact PySem.EqNone.ne_bool_none (Z3 I q (by simp))
  | bl j=>cases ry;exact ne_bool (Z3 I q (congrArg not EO))
  | str j=>obtain⟨t',rfl⟩:=ry;exact PySem.EqMixed.ne_bool_str (Z3 I q (by simp))
  | _=>exact absurd (show false=true from hs) zI
 | int i=>
  obtain⟨t,rfl⟩:=rx;cases y with
  | non=>cases ry;exact PySem.EqNone.ne_int_none (Z3 I q (by simp))
  | int j=>obtain⟨t',rfl⟩:=ry;exact ne_int (Z3 I q (congrArg not DE))
  | str j=>obtain⟨t',rfl⟩:=ry;exact PySem.EqMixed.ne_int_str (Z3 I q (by simp))
  | _=>exact absurd (show false=true from hs) zI
 | str i=>
  obtain⟨t,rfl⟩:=rx;cases y with
  | non=>cases ry;exact PySem.EqNone.ne_str_none (Z3 I q (by simp))
  | bl j=>cases ry;exact PySem.EqMixed.ne_str_bool (Z3 I q (by simp))
  | int j=>obtain⟨t',rfl⟩:=ry;exact PySem.EqMixed.ne_str_int (Z3 I q (by simp))
  | str j=>obtain⟨t',rfl⟩:=ry;exact ne_str (Z3 I q (congrArg not Cb))
  | _=>exact absurd (show false=true from hs) zI
 | byt i=>
  obtain⟨t,rfl⟩:=rx;cases y with
  | byt j=>obtain⟨t',rfl⟩:=ry;exact W.ne_bytes (Z3 I q (congrArg not Ds))
  | _=>exact absurd (show false=true from hs) zI
 | _=>cases y<;>exact absurd (show false=true from hs) zI
theorem op_lt:OpR X (compareOp .Lt) (rI0 λi j=>.bl (decide (i<j))):=M3 λ_ _ _ _ _ _ _ q=>lt_int q
theorem op_le:OpR X (compareOp .LtE) (rI0 λi j=>.bl (decide (i<=j))):=M3 λ_ _ _ _ _ _ _ q=>le_int q
theorem op_gt:OpR X (compareOp .Gt) (rI0 λi j=>.bl (decide (j<i))):=M3 λ_ _ _ _ _ _ _ q=>gt_int q
theorem op_ge:OpR X (compareOp .GtE) (rI0 λi j=>.bl (decide (j<=i))):=M3 λ_ _ _ _ _ _ _ q=>ge_int q
theorem AW:OpR X (compareOp .Is) (λx y H Q=>y=.non/\Q (.bl (decide (x=.non))) H):=by
 intro pins s σ H x y v u Q I rx ry h;obtain⟨rfl,q⟩:=h;cases ry;refine is_none_gen (Z3 I q ?_);cases x<;>first
  | (cases rx;rfl)
  | (obtain⟨t,rfl⟩:=rx;rfl)
theorem AQ:OpR X (compareOp .IsNot) (λx y H Q=>y=.non/\Q (.bl (!decide (x=.non))) H):=by
 intro pins s σ H x y v u Q I rx ry h;obtain⟨rfl,q⟩:=h;cases ry;refine isnot_none_gen (Z3 I q ?_);cases x<;>first
  | (cases rx;rfl)
  | (obtain⟨t,rfl⟩:=rx;rfl)
theorem Zp (b:Expr)(h:op≠.In:=by decide)(h2:op≠.NotIn:=by decide):behindInMarks op b=false:=by
 have e1:(op==CmpOp.In)=false:=by cases op<;>first|rfl|exact absurd rfl h
 have e2:(op==CmpOp.NotIn)=false:=by cases op<;>first|rfl|exact absurd rfl h2
 cases b<;>simp[behindInMarks,e1,e2]
theorem zaW {op:CmpOp}{r:R2}(ho:OpR X (compareOp op) r)(ha:PE X a ta)(hb:PE X b tb)(hm:behindInMarks op b=false):PE X (.Compare a [op] [b] pos) (tOp r ta tb):=by
 intro pins s σ H Q I h;exact wpAny_Compare1 (binT ha hb I h λv u s2 x y H2 I2 rx ry q=>ho pins s2 σ H2 x y v u Q I2 rx ry q) hm
def C9 (t:TE):TT:=λσ H Q=>t σ H λx H'=>∃k,x=.bl k/\Q k H'
theorem AI {op:CmpOp}{r:R2}(ho:OpR X (compareOp op) r)(ha:PE X a ta)(hb:PE X b tb)(hm:behindInMarks op b=false):PT X (.Compare a [op] [b] pos) (C9 (tOp r ta tb)):=by
 intro pins s σ H Q I h;refine wpAny_isTrue_Compare1 (thn (ha pins s σ H _ I h) λv s1 ⟨x,H1,I1,r1,q1⟩=>thn (hb pins s1 σ H1 _ I1 q1) λu s2 ⟨y,H2,I2,r2,q2⟩=>
  thn (ho pins s2 σ H2 x y v u _ I2 r1 r2 q2) λc s3 ⟨z,H3,I3,r3,k,e,q3⟩=>?_) hm
 subst e;cases r3;exact wpAny_truthy_bool ⟨H3,I3,q3⟩
def LR (r r':R2)(ta tb tc:TE):TE:=λσ H Q=>ta σ H λx H1=>tb σ H1 λy H2=>r x y H2 λz H3=>∃k,z=.bl k/\
 (if k=true then tc σ H3 λw' H4=>r' y w' H4 Q else Q (.bl false) H3)
theorem zcD {op op':CmpOp}{r r':R2}(ho:OpR X (compareOp op) r)(ho':OpR X (compareOp op') r')(ha:PE X a ta)(hb:PE X b tb)(hc:PE X c tc)
  (hm:lastMarks [op,op'] [b,c]=false:=by with_unfolding_all rfl):PE X (.Compare a [op,op'] [b,c] pos) (LR r r' ta tb tc):=by
 intro pins s σ H Q I h;refine Compare_chain (thn (ha pins s σ H _ I h) λv s1 ⟨x,H1,I1,r1,q1⟩=>chain_link (thn (hb pins s1 σ H1 _ I1 q1) λu s2 ⟨y,H2,I2,r2,q2⟩=>
  thn (ho pins s2 σ H2 x y v u _ I2 r1 r2 q2) λd s3 ⟨z,H3,I3,r3,k,e,q3⟩=>?_)) hm
 subst e;cases r3;refine wpAny_truthy_bool ?_;cases k with
 | false=>exact ite_ff ⟨.bl false,H3,I3,rfl,q3⟩
 | true=>exact ite_tt (chain_last (thn (hc pins s3 σ H3 _ I3 q3) λw' s4 ⟨z',H4,I4,r4,q4⟩=>ho' pins s4 σ H4 y z' u w' Q I4 r2 r4 q4))
theorem zgX {op op':CmpOp}{r r':R2}(ho:OpR X (compareOp op) r)(ho':OpR X (compareOp op') r')(ha:PE X a ta)(hb:PE X b tb)(hc:PE X c tc)
  (hm:lastMarks [op,op'] [b,c]=false:=by with_unfolding_all rfl):PT X (.Compare a [op,op'] [b,c] pos) (C9 (LR r r' ta tb tc)):=by
 intro pins s σ H Q I h;refine isTrue_chain (thn (ha pins s σ H _ I h) λv s1 ⟨x,H1,I1,r1,q1⟩=>test_link (thn (hb pins s1 σ H1 _ I1 q1) λu s2 ⟨y,H2,I2,r2,q2⟩=>
  thn (ho pins s2 σ H2 x y v u _ I2 r1 r2 q2) λd s3 ⟨z,H3,I3,r3,k,e,q3⟩=>?_)) hm
 subst e;cases r3;refine wpAny_truthy_bool ?_;cases k with
 | false=>
  obtain⟨k',e',q'⟩:=q3;cases e';exact ite_ff ⟨H3,I3,q'⟩
 | true=>
  refine ite_tt (test_last (thn (hc pins s3 σ H3 _ I3 q3) λw' s4 ⟨z',H4,I4,r4,q4⟩=>thn (ho' pins s4 σ H4 y z' u w' _ I4 r2 r4 q4) λd' s5 ⟨z2,H5,I5,r5,k2,e2,q5⟩=>?_));subst e2;cases r5;exact wpAny_truthy_bool ⟨H5,I5,q5⟩
def TruV (K:Fg)(x:V)(H:Hp)(k:Bool):Prop:=
 match x with
 | .non=>k=false
 | .bl b=>k=b
 | .int i=>k=(i != 0)
 | .str y=>y.length<=sizeLine/\k=((y.length:Int) != 0)
 | .byt y=>y.size<=sizeLine/\k=((y.size:Int) != 0)
 | .ref p=>(∃xs,SqL K H p xs/\k=!xs.isEmpty)\/(∃xs,SqT K H p xs/\k=!xs.isEmpty)\/∃aV,H p=some (.dK aV)/\k=!aV.isEmpty
 | _=>False
theorem zdr (r:KV aV vs):(!vs.isEmpty)=!aV.isEmpty:=by
 cases r<;>rfl
theorem CT (r:Zw xs aX):(!aX.toArray.isEmpty)=!xs.isEmpty:=by
 cases r<;>simp
theorem SU:(sizeLine:Nat)<2^63:=by rw[sizeLine_eq];decide
theorem zhw:TruR X (λx H Q=>∃k,TruV X.K x H k/\Q k H):=by
 intro pins s σ H x v Q I rx h;obtain⟨k,e,q⟩:=h;have hl:=SU
 have hs:sizeLine=16777216:=sizeLine_eq;cases x with
 | non=>
  cases rx;have e':k=false:=e;subst e';exact truthy_none ⟨H,I,q⟩
 | bl b=>
  cases rx;have e':k=b:=e;subst e';exact wpAny_truthy_bool ⟨H,I,q⟩
 | int i=>
  obtain⟨t,rfl⟩:=rx;have e':k=(i != 0):=e;subst e';exact PySem.P.truthy_int ⟨H,I,q⟩
 | str y=>
  obtain⟨t,rfl⟩:=rx;obtain⟨hy,e'⟩:y.length<=sizeLine/\k=((y.length:Int) != 0):=e;subst e';exact PySem.P.truthy_str (by omega) ⟨H,I.tok _,q⟩
 | byt y=>
  obtain⟨t,rfl⟩:=rx;obtain⟨hy,e'⟩:y.size<=sizeLine/\k=((y.size:Int) != 0):=e;subst e';exact W.truthy_bytes (by omega) ⟨H,I.tok _,q⟩
 | ref p=>
  cases rx;have e':(∃xs,SqL X.K H p xs/\k=!xs.isEmpty)\/(∃xs,SqT X.K H p xs/\k=!xs.isEmpty)\/∃aV,H p=some (.dK aV)/\k=!aV.isEmpty:=e;rcases e' with ⟨xs,hx,e'⟩|⟨xs,hx,e'⟩|⟨aV,hx,e'⟩
  .subst e';obtain⟨aX,r,pl,hz⟩:=I.list hx;have aM:=r.length;exact wpAny_truthy_list pl.isList (by simp only[zH];omega) ⟨H,I.tok _,by rw[CT r];exact q⟩
  .subst e';obtain⟨aX,r,pl,hz⟩:=I.tuple hx;have aM:=r.length;exact truthy_tuple pl (by simp only[zH];omega) ⟨H,I.tok _,by rw[CT r];exact q⟩
  .subst e';obtain⟨hz,hS,vs,r,m⟩:aV.length<=sizeLine/\(p==sysModules)=false/\∃vs,KV aV vs/\s.heap.DictOf (Ke X.prog X.w) p vs:=I.hok p _ hx;have aM:aV.length=vs.length:=Paired.length r;exact wpAny_truthy_dict hS m (by omega) ⟨H,I.tok _,by rw[zdr r];exact q⟩
 | _=>exact(show False from e).elim
theorem zel (ha:PE X a ta)(he:∀aO,isTrue a X.env aO=(do let v <- aO;standAt a.pos;holding [v] (truthy v))):
  PT X a (λσ H Q=>ta σ H λx H'=>∃k,TruV X.K x H' k/\Q k H'):=by
 intro pins s σ H Q I h;exact isTrue_plain (thn (ha pins s σ H _ I h) λv s1 ⟨x,H1,I1,r1,q1⟩=>zhw pins s1 σ H1 x v Q I1 r1 q1) (he _)
theorem Vw (r:Zw [x] us):∃u,us=[u]/\Zv x u:=by
 cases r with
 | cons r1 r2=>cases r2;exact⟨_,rfl,r1⟩
theorem Hx (r:Zw [x,y] us):∃u w',us=[u,w']/\Zv x u/\Zv y w':=by
 cases r with
 | cons r1 r2=>
  cases r2 with
  | cons r3 r4=>cases r4;exact⟨_,_,rfl,r1,r3⟩
theorem zek:Ym X (.builtin "abs") (λxs H Q=>∃i,xs=[.int i]/\Q (.int (if i<0 then -i else i)) H):=by
 intro pins s σ H xs us Q I r h;obtain⟨i,rfl,q⟩:=h;obtain⟨u,rfl,t,rfl⟩:=Vw r;exact call_abs_int λu tk=>⟨.int (if i<0 then -i else i),H,I.tok _,⟨_,rfl⟩,q⟩
theorem zhC (hc:X.calm=true):Ym X (.builtin "max") (λxs H Q=>∃i j,xs=[.int i,.int j]/\Q (.int (if j > i then j else i)) H):=by
 intro pins s σ H xs us Q I r h;obtain⟨i,j,rfl,q⟩:=h;obtain⟨u,w',rfl,⟨t,rfl⟩,⟨t',rfl⟩⟩:=Hx r;refine max_two_ints (I.ok.hd hc) λh' tk k=>⟨_,H,I.kept k,?_,q⟩
 by_cases hj:j > i
 .rw[if_pos hj,if_pos hj];exact⟨_,rfl⟩
 .rw[if_neg hj,if_neg hj];exact⟨_,rfl⟩
theorem zcR (hc:X.calm=true):Ym X (.builtin "min") (λxs H Q=>∃i j,xs=[.int i,.int j]/\Q (.int (if j<i then j else i)) H):=by
 intro pins s σ H xs us Q I r h;obtain⟨i,j,rfl,q⟩:=h;obtain⟨u,w',rfl,⟨t,rfl⟩,⟨t',rfl⟩⟩:=Hx r;refine min_two_ints (I.ok.hd hc) λh' tk k=>⟨_,H,I.kept k,?_,q⟩
 by_cases hj:j<i
 .rw[if_pos hj,if_pos hj];exact⟨_,rfl⟩
 .rw[if_neg hj,if_neg hj];exact⟨_,rfl⟩
structure UN (h:Heap)(x dx C:Addr)(mA:Str->Option Value):Prop where
 obj:h.get? x=some (W.instObj C dx)
 ns:h.Ns1 dx mA
 ne:dx≠x
theorem zcd {h:Heap}{dx:Addr}{mA:Str->Option Value}(n:h.Ns1 dx mA):∃od,h.get? dx=some od/\∀name,W.lookIn name od=some (mA name):=by
 obtain⟨o,es,ep,ho,hd,hk,_,hm⟩:=n;refine⟨o,ho,λname=>?_⟩;have e:=hm name;unfold nsFind findBy at e;rw[<- Array.find?_toList] at e;unfold W.lookIn;rw[hd];dsimp only;split
 .rename_i y q;rw[q] at e;exact congrArg some e
 .rename_i q;rw[q] at e;have a:es.toList.any (·.refKey)=false:=by
   rw[List.any_eq_false];intro y hy;obtain⟨z,t,hkey⟩:=hk y (Array.mem_toList_iff.mp hy);simp[DictEntry.refKey,hkey]
  have a':¬ es.toList.any (·.refKey)=true:=by rw[a];exact zI
  rw[if_neg a'];exact congrArg some e
theorem UN.look (I:UN h x dx C mA):∃od,W.InstAt h x (W.instObj C dx) C (some od)/\∀name,W.lookIn name od=some (mA name):=
 let ⟨od,ho,hl⟩:=zcd I.ns
 ⟨od,⟨I.obj,rfl,rfl,ho⟩,hl⟩
section
variable {prog:Program}{w:World}{A:Around}{E:Value->Shared->Prop}{s:Shared}{K:Fg}{x dx C f:Addr}{mA:Str->Option Value}{name:Str}{v:Value}
theorem ziH (X:K.In s.heap)(I:UN s.heap x dx C mA)(hg:W.plainGet K C name=true)(hh:W.hasDictIn K C=true)(ha:W.findIn K (.ref C) name=some none)(hv:mA name=some v)(hv':W.handedIn v=true)(h:Q v { s with toks:=s.toks+1 }):
  wpAny (model prog w) A (getAttr (.ref x) name expr) Q E s:=by
 obtain⟨od,J,hl⟩:=I.look;exact W.get_value X J (W.plainGet_of hg).1 (W.findObj_own hh ha rfl (by rw[hl,hv])) hv' h
theorem zh4 (X:K.In s.heap)(I:UN s.heap x dx C mA)(hg:W.plainGet K C name=true)(hf:W.findIn K (.ref C) name=some (some (.ref f)))(ht:W.isFn K (.ref f)=true)(hv:mA name=none)(h:Q (.ref f,[.ref x]) s):
  wpAny (model prog w) A (getMethod (.ref x) name pl) Q E s:=by
 obtain⟨od,J,hl⟩:=I.look;exact W.method_fn X J (W.plainGet_of hg).1 (W.plainGet_of hg).2 hf (beq_iff_eq.mp ht) (by show (W.lookIn name od).map (·.isSome)=some false;rw[hl,hv];rfl) h
theorem zjf (X:K.In s.heap)(I:UN s.heap x dx C mA)(hs:W.findIn K (.ref C) "__setattr__"=some (some (.builtin "object.__setattr__")))(hp:W.plainOver K C=true)(ht:W.takerIn K C name=some none)(hh:W.hasDictIn K C=true)(hw:PySem.Within mA ns)(hsz:ns.length<=sizeLine)(h:∀h',UN h' x dx C (λy=>if y=name then some v else mA y)->Heap.SameBut dx s.heap h'->Q Unit.unit { s with heap:=h',toks:=s.toks+2 }):
  wpAny (model prog w) A (setAttr (.ref x) name v) Q E s:=by
 obtain⟨od,J,hl⟩:=I.look;refine W.set_plain X J hs (W.osa_open (s:={ s with toks:=s.toks+1 }) (r:=none) X J hp ht λb=>?_);obtain⟨cd,hc,hd'⟩:=W.any_some hh;have hx:s.heap.get? x=some ⟨.ref C,some dx,.plain,#[]⟩:=I.obj;refine wpAny_bind (wpAny_pure (wpAny_bind (wpAny_bind (wpAny_loadPart hx (wpAny_bind (W.Looks.here (s:={ s with toks:=s.toks+1 }) (W.looks_clsIn X hc) ?_))))));rw[hd'];refine wpAny_pure (a:=some dx) (wpAny_bind (wpAny_pure (wpAny_bind ?_)));refine wpAny_nsSet1 (s:={ s with toks:=s.toks+1 }) I.ns λh' hn2 hs2=>?_
 obtain⟨oD,esD,epD,hoD,hdD,hcD⟩:=hn2.count (PySem.Within.cons name v hw);refine wpAny_bind (wpAny_lookBehind hoD (by rw[hdD];exact pastItsLine_dict (yE hcD (by rw[zU];omega))) ?_);exact wpAny_pure (h _ ⟨(hs2.2 _ (Ne.symm I.ne)).trans I.obj,hn2,I.ne⟩ hs2)
theorem zih (X:K.In s.heap)(hm:W.makesIn K C=true)(hi:W.findIn K (.ref C) "__init__"=some (some (.ref f)))(hf:W.typeIn K (.ref f)=some (.type "function"))(h:codeAny (model prog w) (A.under (.builtin "type.__call__" ⟨.ref C::vs,kw⟩)) (.call (.ref f) ⟨.ref (s.heap.objs.size+1)::vs,kw⟩) (W.InitBack (s.heap.objs.size+1) R)
   { s with heap:=(s.heap.push W.emptyDict).push (W.instObj C s.heap.objs.size) }):
  codeAny (model prog w) A (.call (.ref C) ⟨vs,kw⟩) R s:=by
 obtain⟨hh,g,d,t,os⟩:=s;exact W.make_core (W.makes_of X hm) (W.looks_findIn X hi) (λself=>W.bind_fn X self hf) (.inl rfl) h
end
def Yz (f:Str)(v:V):List (Str×V)->List (Str×V)
 | []=>[(f,v)]
 | (g,x)::r=>if g=f then (g,v)::r else (g,x)::Yz f v r
theorem C0 (f g:Str)(v:V):∀fs:List (Str×V),(Yz f v fs).lookup g=if g=f then some v else fs.lookup g
 | []=>by
  show List.lookup g [(f,v)]=_;by_cases h:g=f
  .have hb:(g==f)=true:=beq_iff_eq.mpr h;simp only[List.lookup,hb,if_pos h]
  .have hb:(g==f)=false:=beq_eq_false_iff_ne.mpr h;simp only[List.lookup,hb,if_neg h]
 | (k,x)::r=>by
  have ih:=C0 f g v r;rw[show Yz f v ((k,x)::r)=(if k=f then (k,v)::r else (k,x)::Yz f v r) from rfl];by_cases hk:k=f
  .rw[if_pos hk];by_cases h:g=k
   .have hb:(g==k)=true:=beq_iff_eq.mpr h;simp only[List.lookup,hb,if_pos (h.trans hk)]
   .have hb:(g==k)=false:=beq_eq_false_iff_ne.mpr h;simp only[List.lookup,hb,if_neg (λe:g=f=>h (e.trans hk.symm))]
  .rw[if_neg hk];by_cases h:g=k
   .have hb:(g==k)=true:=beq_iff_eq.mpr h;simp only[List.lookup,hb,if_neg (λe:g=f=>hk (h.symm.trans e))]
   .have hb:(g==k)=false:=beq_eq_false_iff_ne.mpr h;simp only[List.lookup,hb];exact ih
theorem HZ (f:Str)(v:V):∀fs:List (Str×V),f∈(Yz f v fs).map (·.1)/\∀g,g∈fs.map (·.1)->g∈(Yz f v fs).map (·.1)
 | []=>⟨by simp[Yz],λg h=>by simp at h⟩
 | (k,x)::r=>by
  obtain⟨i1,i2⟩:=HZ f v r;rw[show Yz f v ((k,x)::r)=(if k=f then (k,v)::r else (k,x)::Yz f v r) from rfl];by_cases hk:k=f
  .rw[if_pos hk];subst hk;exact⟨by simp,λg h=>by simpa using h⟩
  .rw[if_neg hk];refine⟨?_,λg h=>?_⟩
   .rw[yH];exact yG _ i1
   .rw[yH] at h ⊢;rcases zS.mp h with e|e
    .exact zS.mpr (.inl e)
    .exact yG _ (i2 g e)
theorem Bh (f:Str)(v:V):∀fs:List (Str×V),(Yz f v fs).length<=fs.length+1
 | []=>by simp[Yz]
 | (k,x)::r=>by
  have ih:=Bh f v r;rw[show Yz f v ((k,x)::r)=(if k=f then (k,v)::r else (k,x)::Yz f v r) from rfl];by_cases hk:k=f
  .rw[if_pos hk,zU,zU];omega
  .rw[if_neg hk,zU,zU];omega
theorem Vd.some_of (r:Vd (some v) o):∃u,o=some u/\Zv v u:=by
 cases o with
 | none=>exact(show False from r).elim
 | some u=>exact⟨u,rfl,r⟩
theorem Vd.none_of (r:Vd none o):o=none:=by
 cases o with
 | none=>rfl
 | some u=>exact(show False from r).elim
theorem zg7 (r:Zv v u):W.handedIn u=true:=by
 cases v with
 | non=>cases (show u=Value.none from r);rfl
 | bl b=>cases (show u=Value.bool b from r);rfl
 | int i=>obtain⟨t,e⟩:=(show ∃t,u=Value.int i t from r);cases e;rfl
 | str x=>obtain⟨t,e⟩:=(show ∃t,u=Value.str x t from r);cases e;rfl
 | byt b=>obtain⟨t,e⟩:=(show ∃t,u=Value.bytes b t from r);cases e;rfl
 | flt b=>obtain⟨t,e⟩:=(show ∃t,u=Value.float b t from r);cases e;rfl
 | ref a=>cases (show u=Value.ref a from r);rfl
 | ty n=>cases (show u=Value.type n from r);rfl
theorem Nv (hok:HOk P w H h)(e:H a=some (.ins C dx fs)):∃mA,UN h a dx C mA/\(∀f,Vd (fs.lookup f) (mA f))/\PySem.Within mA (fs.map (·.1))/\fs.length<=1000/\H dx=some (.own a):=by
 obtain⟨d,z,ne,ob,mA,n,r,q⟩:=(show Yy P w H h a (.ins C dx fs) from hok a _ e);exact⟨mA,⟨ob,n,ne⟩,r,q,z,d⟩
structure Cls (K:Fg)(C:Addr):Prop where
 pg:W.plainGet K C Str.empty=true
 hd:W.hasDictIn K C=true
 po:W.plainOver K C=true
 sa:W.findIn K (.ref C) "__setattr__"=some (some (.builtin "object.__setattr__"))
theorem Cls.get {K:Fg}{C:Addr}(c:Cls K C)(f:Str):W.plainGet K C f=true:=c.pg
def Yq (K:Fg)(C:Addr)(f:Str):Prop:=W.findIn K (.ref C) f=some none
theorem Yq.taker {K:Fg}{C:Addr}{f:Str}(n:Yq K C f):W.takerIn K C f=some none:=by
 unfold W.takerIn;rw[show W.findIn K (.ref C) f=some none from n];rfl
structure Con (K:Fg)(C:Addr)(f:Str)(v:V)(u:Value):Prop where
 at_:W.findIn K (.ref C) f=some (some u)
 aZ:Zv v u
 get:W.specialIn K u "__get__"=some none
 cp:W.copiedNames.contains f=false
structure V7 (K:Fg)(C:Addr)(m:Str)(f:Addr):Prop where
 at_:W.findIn K (.ref C) m=some (some (.ref f))
 fn:W.isFn K (.ref f)=true
 kp:W.keepIn K (.ref f)=true
theorem A1 (I:Inv X pins σ H s)(e:H a=some (.ins C dx fs))(c:Cls X.K C)(n:Yq X.K C f)(l:fs.lookup f=some v)(h:∀u s',Inv X pins σ H s'->Zv v u->Q u s'):wpAny (mX X) A (getAttr (.ref a) f b) Q E s:=by
 obtain⟨mA,O,r,_,_,_⟩:=Nv I.hok e;obtain⟨u,hu,ru⟩:=Vd.some_of (v:=v) (o:=mA f) (by rw[<- l];exact r f);exact ziH I.kIn O (c.get f) c.hd n hu (zg7 ru) (h u _ (I.tok _) ru)
theorem Iw (I:Inv X pins σ H s)(e:H a=some (.ins C dx fs))(c:Cls X.K C)(k:V7 X.K C m g)(l:fs.lookup m=none)(h:Q (.ref g,[.ref a]) s):wpAny (mX X) A (getMethod (.ref a) m pl) Q E s:=by
 obtain⟨mA,O,r,_,_,_⟩:=Nv I.hok e;have hn:mA m=none:=Vd.none_of (by rw[<- l];exact r m);exact zh4 I.kIn O (c.get m) k.at_ k.fn hn h
theorem zim (I:Inv X pins σ H s)(e:H a=some (.ins C dx fs))(c:Cls X.K C)(n:Yq X.K C f)(hl:fs.length<1000)(ry:Zv y u)(h:∀s',Inv X pins σ (upd H a (.ins C dx (Yz f y fs))) s'->Q Unit.unit s'):wpAny (mX X) A (setAttr (.ref a) f u) Q E s:=by
 obtain⟨mA,O,r,wi,_,ho⟩:=Nv I.hok e;have hz:(fs.map (·.1)).length<=sizeLine:=by rw[zB,sizeLine_eq];omega
 refine zjf I.kIn O c.sa c.po n.taker c.hd wi hz λh' O' sb=>h _ ?_
 have hd:∃o,h'.get? dx=some o:=let ⟨o,_,_,e',_⟩:=O'.ns;⟨o,e'⟩
 refine I.write (x:=a) (e:=dx) (by rw[e];exact True.intro) (.inr ho) (λb q hb z=>(sb.2 b hb).trans z) hd ?_;refine⟨by rw[ZS O.ne];exact ho,?_,O.ne,O'.obj,_,O'.ns,λg=>?_,λg hg=>?_⟩
 .have:=Bh f y fs;omega
 .show Vd ((Yz f y fs).lookup g) (if g=f then some u else mA g);rw[C0];by_cases q:g=f
  .rw[if_pos q,if_pos q];exact ry
  .rw[if_neg q,if_neg q];exact r g
 .by_cases q:g=f
  .rw[q];exact(HZ f y fs).1
  .refine(HZ f y fs).2 g (wi g λz=>hg ?_);show (if g=f then some u else mA g)=none;rw[if_neg q];exact z
theorem Inv.made (I:Inv X pins σ H s):Inv X pins σ (upd (upd H s.heap.objs.size (.own (s.heap.objs.size+1))) (s.heap.objs.size+1) (.ins C s.heap.objs.size []))
  { s with heap:=(s.heap.push W.emptyDict).push (W.instObj C s.heap.objs.size) }:=by
 have e1:(s.heap.push W.emptyDict).get? s.heap.objs.size=some W.emptyDict:=Heap.get?_push_size s.heap rfl
 have e2:((s.heap.push W.emptyDict).push (W.instObj C s.heap.objs.size)).get? (s.heap.objs.size+1)=some (W.instObj C s.heap.objs.size):=by
  have:=Heap.get?_push_size (s.heap.push W.emptyDict) (o:=W.instObj C s.heap.objs.size) rfl
  rwa [Heap.size_push] at this
 have e3:(s.heap.push W.emptyDict).Ns s.heap.objs.size (λ_=>none):=⟨W.emptyDict,#[],_,e1,rfl,(λe he=>absurd he (by simp)),λ_=>rfl⟩
 have I1:=I.laid (a:=s.heap.objs.size) (o:=.own (s.heap.objs.size+1)) (h':=s.heap.push W.emptyDict) (t':=s.toks) (λb u q=>Heap.get?_push_of_some _ q) (zC _) ⟨_,e1⟩;refine I1.laid (a:=s.heap.objs.size+1) (o:=.ins C s.heap.objs.size []) (t':=s.toks) (λb u q=>Heap.get?_push_of_some _ q) (Nat.le_of_eq (Heap.size_push _ _)) ?_;have ne:s.heap.objs.size≠s.heap.objs.size+1:=zK (wD _);refine⟨by rw[ZS ne,YG],zN _,ne,e2,λ_=>none,(Heap.Ns1.of_empty e3).at λo q=>Heap.get?_push_of_some _ q,λ_=>True.intro,λy hy=>absurd rfl hy⟩
theorem zaZ (hb:attributeBase e f env (eval e env)=eval e env)(h:wpAny (model prog w) A (eval e env) (λo s₁=>wpAny (model prog w) A (getAttr o f true) Q E s₁) E s):wpAny (model prog w) A (eval (.Attribute e f pos) env) Q E s:=
 Attribute_any_ h (by rw[arm_eval_Attribute,hb])
def tFld (K:Fg)(ta:TE)(f:Str):TE:=λσ H Q=>ta σ H λx H1=>∃a C dx fs v,x=.ref a/\H1 a=some (.ins C dx fs)/\Cls K C/\Yq K C f/\fs.lookup f=some v/\Q v H1
def sFld (K:Fg)(ta tv:TE)(f:Str):TS:=λD σ H=>tv σ H λy H1=>ta σ H1 λx H2=>∃a C dx fs,x=.ref a/\H2 a=some (.ins C dx fs)/\Cls K C/\Yq K C f/\fs.length<1000/\
 D.nx σ (upd H2 a (.ins C dx (Yz f y fs)))
theorem zdD (he:PE X e ta)(hb:attributeBase e f X.env (eval e X.env)=eval e X.env):PE X (.Attribute e f pos) (tFld X.K ta f):=by
 intro pins s σ H Q I h;refine zaZ hb (thn (he pins s σ H _ I h) λu s1 ⟨x,H1,I1,rx,a,C,dx,fs,v,ex,ea,c,n,l,q⟩=>?_);subst ex;obtain rfl:u=Value.ref a:=rx;exact A1 I1 ea c n l λu' s2 I2 ru=>⟨v,H1,I2,ru,q⟩
theorem zdc (ha:PE X o ta)(hv:PE X value tv)(hs:swapsWith value (some (.Attribute o f pos')) pos.line X.env=pure false):PS X (.Assign [.Attribute o f pos'] value pos) (sFld X.K ta tv f):=by
 intro pins s σ H D I h;refine plainObj_wpAny_Assign_Attribute (thn (hv pins s σ H _ I h) λu s1 ⟨y,H1,I1,ry,q⟩=>thn (ha pins s1 σ H1 _ I1 q) λov s2 ⟨x,H2,I2,rx,a,C,dx,fs,ex,ea,c,n,l,q2⟩=>?_) hs;subst ex;obtain rfl:ov=Value.ref a:=rx;exact zim I2 ea c n l ry λs3 I3=>⟨σ,_,I3,q2⟩
inductive XM (K:Fg)(H:Hp):V->Value->Prop where
 | non:XM K H .non (.type "NoneType")
 | bl (x:Bool):XM K H (.bl x) (.type "bool")
 | int (i:Int):XM K H (.int i) (.type "int")
 | str (x:Str):XM K H (.str x) (.type "str")
 | flt (x:UInt64):XM K H (.flt x) (.type "float")
 | lst {a:Addr} {xs:List V} (e:H a=some (.lst xs)):XM K H (.ref a) (.type "list")
 | frz {a:Addr} {o:Obj} {xs:List V} (e:H a=some (.frz o (.lst xs))):XM K H (.ref a) (.type "list")
 | tup {a:Addr} {xs:List V} (e:H a=some (.tup xs)):XM K H (.ref a) (.type "tuple")
 | dK {a:Addr} {aV:List (Key×V)} (e:H a=some (.dK aV)):XM K H (.ref a) (.type "dict")
 | dT {a:Addr} {aV:List (List Key×V)} (e:H a=some (.dT aV)):XM K H (.ref a) (.type "dict")
 | ins {a C dx:Addr} {fs:List (Str×V)} (e:H a=some (.ins C dx fs)) (cl:Cls K C) (ha:W.findIn K (.ref C) "__class__"=some (some (.builtin "object.__class__")))
   (hn:W.specialIn K (.builtin "object.__class__") "__get__"=some (some (.builtin "getset_descriptor.__get__"))) (htk:W.takesIn K (.builtin "object.__class__")=some true)
   (hm:W.mroIn K C (.type "object")=some true):XM K H (.ref a) (.ref C)
theorem zgE (I:Inv X pins σ H s)(rx:Zv x u)(ty:XM X.K H x t)(e:W.kitOne X.K t c=some b)(h:∀tk,Q (.bool b) { s with toks:=tk }):
  wpAny (mX X) A (call (.builtin "isinstance") [u,c]) Q E s:=by
 cases ty with
 | non=>cases (show u=Value.none from rx);exact W.kia_one W.kitx_none I.kIn True.intro e (λz=>nomatch z) h
 | bl y=>cases (show u=Value.bool y from rx);exact W.kia_one W.kitx_bool I.kIn True.intro e (λz=>nomatch z) h
 | int i=>obtain⟨t,q⟩:=(show ∃t,u=Value.int i t from rx);cases q;exact W.kia_one W.kitx_int I.kIn True.intro e (λz=>nomatch z) h
 | str y=>obtain⟨t,q⟩:=(show ∃t,u=Value.str y t from rx);cases q;exact W.kia_one W.kitx_str I.kIn True.intro e (λz=>nomatch z) h
 | flt y=>obtain⟨t,q⟩:=(show ∃t,u=Value.float y t from rx);cases q;exact W.kia_one W.kitx_float I.kIn True.intro e (λz=>nomatch z) h
 | @lst a xs ea=>
  cases (show u=Value.ref a from rx);obtain⟨_,_,n,_,h1⟩:=(show Yy X.prog X.w H s.heap a (.lst xs) from I.hok a _ ea);exact W.kia_one W.kitx_list I.kIn ⟨_,h1,rfl⟩ e (λz=>nomatch z) h
 | @frz a ob xs ea=>
  cases (show u=Value.ref a from rx);obtain⟨_,_,_,n,_,h1⟩:=(show Yy X.prog X.w H s.heap a (.frz ob (.lst xs)) from I.hok a _ ea);exact W.kia_one W.kitx_list I.kIn ⟨_,h1,rfl⟩ e (λz=>nomatch z) h
 | @tup a xs ea=>
  cases (show u=Value.ref a from rx);obtain⟨_,_,_,p⟩:=(show Yy X.prog X.w H s.heap a (.tup xs) from I.hok a _ ea);obtain⟨o,h1,h2,_⟩:=p;exact W.kia_one W.kitx_tuple I.kIn ⟨o,h1,h2⟩ e (λz=>nomatch z) h
 | @dK a aV ea=>
  cases (show u=Value.ref a from rx);obtain⟨_,_,vs,_,p⟩:=(show Yy X.prog X.w H s.heap a (.dK aV) from I.hok a _ ea);obtain⟨o,es,ep,h1,h2,_⟩:=p;exact W.kia_one W.kitx_dict I.kIn ⟨o,h1,h2.1⟩ e (λz=>nomatch z) h
 | @dT a aV ea=>
  cases (show u=Value.ref a from rx);obtain⟨_,_,xs,_,o,es,ep,h1,h2,_⟩:=(show Yy X.prog X.w H s.heap a (.dT aV) from I.hok a _ ea);exact W.kia_one W.kitx_dict I.kIn ⟨o,h1,h2.1⟩ e (λz=>nomatch z) h
 | @ins a C dx fs ea cl ha hn htk hm=>
  cases (show u=Value.ref a from rx);obtain⟨mA,O,_⟩:=Nv I.hok ea;obtain⟨od,J,_⟩:=O.look;exact W.kia_one (W.kitx_own (cl.get _) cl.hd ha hn htk hm) I.kIn J e (λz=>nomatch z) h
structure ZH (k:Nat)(A:Around):Prop where
 hd:A.handled=none
 dp:A.depth+3*k+5<recursionLimit
 un:A.units+16*k+200<cLine
theorem ZH.mono {j k:Nat}{A:Around}(r:ZH k A)(h:j<=k):ZH j A:=⟨r.hd,by have:=r.dp;omega,by have:=r.un;omega⟩
theorem ZH.deeper {k:Nat}{A:Around}(r:ZH (k+1) A)(env:Env):ZH k (A.deeper env):=
 ⟨r.hd,by have:=r.dp;show A.depth+1+3*k+5<_;omega,by have:=r.un;show A.units+3+16*k+200<_;omega⟩
theorem ZH.in1 {k:Nat}{A:Around}(r:ZH (k+1) A):ZH k A.in1:=
 ⟨r.hd,by have:=r.dp;show A.depth+3*k+5<_;omega,by have:=r.un;show A.units+1+16*k+200<_;omega⟩
theorem zfQ {A:Around}{C:Addr}{us:List Value}{kw:List (Str×Value)}:(A.under (.builtin "type.__call__" ⟨.ref C::us,kw⟩)).depth=A.depth+1:=by
 first|rfl|simp[Around.under,Code.weight,Code.isCreation,Code.isGuard,Code.isCaller,Code.frames,Code.isFrame,guardIds]
theorem zjo {A:Around}{C:Addr}{us:List Value}{kw:List (Str×Value)}:(A.under (.builtin "type.__call__" ⟨.ref C::us,kw⟩)).units=A.units+1:=by
 first|rfl|simp[Around.under,Code.cUnits,Code.frames,Code.isFrame]
theorem ZH.make {k:Nat}{A:Around}(r:ZH (k+1) A)(C:Addr)(us:List Value)(kw:List (Str×Value)):ZH k (A.under (.builtin "type.__call__" ⟨.ref C::us,kw⟩)):=
 ⟨r.hd,by have:=r.dp;rw[zfQ];omega,by have:=r.un;rw[zjo];omega⟩
theorem ZH.depth {k:Nat}{A:Around}(r:ZH k A):A.depth<recursionLimit:=by have:=r.dp;omega
theorem ZH.units (r:ZH k A):A.units+64<cLine:=by have:=r.un;omega
def tNil:TA:=λ_ H Q=>Q [] H
def tCons (ta:TE)(tr:TA):TA:=λσ H Q=>ta σ H λx H1=>tr σ H1 λxs H2=>Q (x::xs) H2
theorem G5:PA X [] tNil:=λ_ _ _ _ H Q I h=>Calls.spliced_nil ⟨[],H,I,.nil,h⟩
theorem P9 (ha:PE X e te)(hr:PA X es t)(hs:starEach (e::es) X.env=(false,eval e X.env)::starEach es X.env:=by rfl):PA X (e::es) (tCons te t):=by
 intro pos pins s σ H Q I h;rw[hs];show wpAny _ _ (spliced ((false,eval e X.env)::backTo pos (starEach es X.env))) _ _ s;refine Calls.spliced_cons (thn (ha pins s σ H _ I h) λu s1 ⟨x,H1,I1,r1,q1⟩=>?_);exact thn (hr pos pins s1 σ H1 _ I1 q1) λus s2 ⟨xs,H2,I2,r2,q2⟩=>⟨x::xs,H2,I2,.cons r1 r2,q2⟩
def tTup (t:TA):TE:=λσ H Q=>t σ H λxs H1=>xs.length<=sizeLine/\∀p,H1 p=none->Q (.ref p) (upd H1 p (.tup xs))
def tLst (t:TA):TE:=λσ H Q=>t σ H λxs H1=>xs.length<=sizeLine/\∀p,H1 p=none->Q (.ref p) (upd H1 p (.lst xs))
theorem za0 {x1}(h:PA X es t):PE X (.Tuple es x1 pos) (tTup t):=by
 intro pins s σ H Q I hq;refine wpAny_Tuple_spliced (thn (h pos pins s σ H _ I hq) λus s1 ⟨xs,H1,I1,r,z,q⟩=>⟨by rw[<- r.length];exact z,?_⟩);have hf:H1 s1.heap.objs.size=none:=I1.hok.fresh (zC _);refine⟨.ref s1.heap.objs.size,upd H1 s1.heap.objs.size (.tup xs),I1.laid (t':=s1.toks) (λb u e=>Heap.get?_push_of_some _ e) (zC _) ?_,rfl,q _ hf⟩;exact⟨z,us,r,⟨_,Heap.get?_push_size _ rfl,rfl,_,rfl⟩⟩
theorem zbl (h:PA X es t):PE X (.List es pos) (tLst t):=by
 intro pins s σ H Q I hq;refine wpAny_List_spliced (thn (h pos pins s σ H _ I hq) λus s1 ⟨xs,H1,I1,r,z,q⟩=>⟨by rw[<- r.length];exact z,?_⟩);have hf:H1 s1.heap.objs.size=none:=I1.hok.fresh (zC _);refine⟨.ref s1.heap.objs.size,upd H1 s1.heap.objs.size (.lst xs),I1.laid (t':=s1.toks) (λb u e=>Heap.get?_push_of_some _ e) (zC _) ?_,rfl,q _ hf⟩;exact⟨z,us,0,r,Heap.get?_push_size _ rfl⟩
abbrev Sp:=List V->Hp->VK->XK->Prop
abbrev CXT:=List Env->Hp->Shared->XK->Value->Shared->Prop
structure VZ (P:Program)(w:World)(K:Fg)(mg:Str->Option Value)(base:Heap)(A:Around)(outer:List Env)(s:Shared)(H:Hp):Prop where
 frames:A.frames=some outer
 mod:Mod K mg base
 bs:∀b o,base.get? b=some o->s.heap.get? b=some o/\H b=none
 bsz:base.objs.size<=s.heap.objs.size
 funs:s.heap.FunFrames base outer
 frf:∀b∈frs outer,H b=none
 hok:HOk P w H s.heap
 bare:AllBare s.gens
def CE (outer:List Env)(P:Program)(w:World)(H:Hp)(s:Shared)(Q:VK)(u:Value)(s':Shared):Prop:=
 ∃v H',s'.os=s.os/\AllBare s'.gens/\Un (frs outer) [] H H' s.heap s'.heap/\HOk P w H' s'.heap/\Zv v u/\Q v H'
def CR (CX:CXT)(outer:List Env)(P:Program)(w:World)(H:Hp)(s:Shared)(Q:VK)(E:XK)(r:Result)(s':Shared):Prop:=
 match r with
 | .ok (.ret u)=>CE outer P w H s Q u s'
 | .ok _=>False
 | .error e=>CX outer H s E e s'
structure Ye (P:Program)(w:World)(K:Fg)(mg:Str->Option Value)(base:Heap)(CX:CXT)(k:Nat)(f:Addr)(fd:FuncData)(ps:List Str)(sp:Sp):Prop where
 len:∀vs H Q E,sp vs H Q E->vs.length=ps.length
 run:∀(A:Around)(outer:List Env)(s:Shared)(H:Hp)(args:Args)(us:List Value)(vs:List V)(Q:VK)(E:XK),ZH k A->VZ P w K mg base A outer s H->BindsTo s fd args (ps.zip us)->Zw vs us->sp vs H Q E->
  codeAny (model P w) A (.call (.ref f) args) (CR CX outer P w H s Q E) s
theorem Ye.mono {P:Program}{w:World}{K:Fg}{mg:Str->Option Value}{base:Heap}{CX:CXT}{j k:Nat}{f:Addr}{fd:FuncData}{ps:List Str}{sp:Sp}(F:Ye P w K mg base CX j f fd ps sp)(h:j<=k):
  Ye P w K mg base CX k f fd ps sp:=⟨F.len,λA outer s H args us vs Q E hr=>F.run A outer s H args us vs Q E (hr.mono h)⟩
theorem VZ.make {P:Program}{w:World}{K:Fg}{mg:Str->Option Value}{base:Heap}{A:Around}{outer:List Env}{s:Shared}{H:Hp}(e:VZ P w K mg base A outer s H)(C:Addr)(us:List Value)(kw:List (Str×Value)):
  VZ P w K mg base (A.under (.builtin "type.__call__" ⟨.ref C::us,kw⟩)) outer s H:=⟨by first|exact e.frames|(simpa [Around.under,Code.envs,Code.isFrame,pushEnvs] using e.frames),e.mod,e.bs,e.bsz,e.funs,e.frf,e.hok,e.bare⟩
theorem Inv.env0 (I:Inv X pins σ H s):VZ X.prog X.w X.K X.mg X.base X.A X.stack s H:=
 ⟨I.ok.frames,I.ok.mod,I.bs,yE I.ok.bsz I.sz,I.stack,I.stkFree,I.hok,I.bare⟩
theorem Inv.after (I:Inv X pins σ H s)(h:CE X.stack X.prog X.w H s Q u s'):EP X pins σ Q u s':=by
 obtain⟨v,H',os,bare,un,hok,r,q⟩:=h;obtain⟨hh,g,d,t,os'⟩:=s';obtain rfl:os'=s.os:=os;exact⟨v,H',I.call (h':=hh) (g':=g) (d':=d) (t':=t) (ch:=[]) un hok bare (λb z=>absurd z (by simp)),r,q⟩
def tMake (C:Addr)(sp:Sp)(dvs:List V)(E:XK)(t:TA):TE:=λσ H Q=>t σ H λvs H1=>∀x dx,H1 x=none->H1 dx=none->dx≠x->
 sp (.ref x::(vs++dvs)) (upd (upd H1 dx (.own x)) x (.ins C dx [])) (λv H2=>v=.non/\Q (.ref x) H2) E
def YA (K:Fg)(fd:FuncData)(ps:List Str)(ds:List Value):Prop:=
 ∀(s:Shared)(us:List Value),K.In s.heap->(us++ds).length=ps.length->BindsTo s fd ⟨us,[]⟩ (ps.zip (us++ds))
theorem YA.all {K:Fg}{fd:FuncData}{ps:List Str}(h:∀us:List Value,us.length=ps.length->bindArgs fd ⟨us,[]⟩=pure (ps.zip us)):YA K fd ps []:=λs us _ hl=>by
 rw[xD] at hl ⊢;exact .of_eq (h us hl)
def Mp (CX:CXT)(X:Cx)(E:XK):Prop:=∀(pins:LA)(σ:St)(H:Hp)(s:Shared)(e:Value)(s':Shared),Inv X pins σ H s->CX X.stack H s E e s'->X.xe e s'
structure Mk (K:Fg)(C f:Addr):Prop where
 makes:W.makesIn K C=true
 init:W.findIn K (.ref C) "__init__"=some (some (.ref f))
 fn:W.isFn K (.ref f)=true
 kp:W.keepIn K (.ref C)=true
theorem zbd (M:Mk X.K C f)(F:Ye X.prog X.w X.K X.mg X.base CX k f fd ps sp)(hr:ZH (k+1) X.A)(hb:YA X.K fd ps ds)(hd:Zw dvs ds)(hx:Mp CX X E)(I:Inv X pins σ H s)(r:Zw vs us)(h:∀x dx,H x=none->H dx=none->dx≠x->sp (.ref x::(vs++dvs)) (upd (upd H dx (.own x)) x (.ins C dx [])) (λv H2=>v=.non/\Q (.ref x) H2) E):
  wpAny (mX X) X.A (call (.ref C) us) (EP X pins σ Q) X.xe s:=by
 have hq:=h (s.heap.objs.size+1) s.heap.objs.size (I.hok.fresh (xO _)) (I.hok.fresh (zC _)) (zK (wD _))
 have I2:=Inv.made (C:=C) I
 have r2:Zw (V.ref (s.heap.objs.size+1)::(vs++dvs)) (Value.ref (s.heap.objs.size+1)::(us++ds)):=.cons rfl (r.append hd)
 have hl:(Value.ref (s.heap.objs.size+1)::us++ds).length=ps.length:=by
  have e:=r2.length;rw[F.len _ _ _ _ hq] at e;exact e.symm
 refine wpAny_call (zih (f:=f) I.kIn M.makes M.init (beq_iff_eq.mp M.fn) (codeAny_mono (F.run _ X.stack _ _ ⟨Value.ref (s.heap.objs.size+1)::us,[]⟩ (Value.ref (s.heap.objs.size+1)::(us++ds)) _ _ E (hr.make C us [])
  (I2.env0.make C us []) (hb _ (Value.ref (s.heap.objs.size+1)::us) I2.kIn hl) r2 hq) λr s' hq'=>?_))
 cases r with
 | error e=>exact hx pins σ _ _ e s' I2 hq'
 | ok fl=>
  cases fl with
  | ret u=>
   obtain⟨v,H',I3,rv,ev,q3⟩:=I2.after hq';subst ev;exact⟨rv,⟨V.ref (s.heap.objs.size+1),H',I3,rfl,q3⟩⟩
  | next=>exact False.elim hq'
  | brk=>exact False.elim hq'
  | cont=>exact False.elim hq'
theorem Av (M:Mk X.K C f)(F:Ye X.prog X.w X.K X.mg X.base CX k f fd ps sp)(hr:ZH (k+1) X.A)(hg:Gl X x)(hm:X.mg x=some (.ref C))(hb:YA X.K fd ps ds)(hd:Zw dvs ds)(hx:Mp CX X E)
  (ha:PA X (e::es) t)(hdb:(x==("__debug__":Str))=false:=by decide)(he:He X e es:=by rfl)(hpl:Hp1 X pos es:=by rfl):
  PE X (.Call (.Name x p) (e::es) [] pos) (tMake C sp dvs E t):=by
 intro pins s σ H Q I h;refine wpAny_Call_Name_kw (Dg I hg hm ?_ hdb);refine W.callWith_K (h₀:=X.base) I.ok.mod.kin M.kp (thn (ha pos pins s σ H _ I h) λus s1 ⟨vs,H1,I1,r,q⟩=>⟨I1.kIn,?_⟩) he hpl;exact zbd M F hr hb hd hx I1 r q
section
structure KBinds (K:Fg)(fd:FuncData)(ps ks:List Str)(g:List Value->List Value->List Value)(gV:List V->List V->List V):Prop where
 to:∀(s:Shared)(us ws:List Value),K.In s.heap->(g us ws).length=ps.length->BindsTo s fd ⟨us,ks.zip ws⟩ (ps.zip (g us ws))
 aZ:∀ {vs:List V} {us:List Value} {zs:List V} {ws:List Value},Zw vs us->Zw zs ws->Zw (gV vs zs) (g us ws)
variable {g:List Value->List Value->List Value}{gV:List V->List V->List V}
end
structure Zl (N P:List Str)(sc:Scope):Prop where
 kind:sc.kind=.function
 co:sc.isCoroutine=false
 gen:sc.isGenerator=false
 nd:N.Nodup
 pre:N.take P.length=P
 par:∀x∈P,sc.names.lookup x=some .local\/sc.names.lookup x=some .cell
 nofree:∀y∈sc.names,y.2≠.free
theorem Dh {kindOf:Str->Option NameKind}{x:Str}:∀ {binds:List (Str×Value)} {m:Str->Option Value},(∀v,(x,v) ∉ binds)->bindL kindOf binds m x=m x
 | [],_,_=>rfl
 | (n,v)::r,m,h=>by
  unfold bindL;rw[Dh λw hw=>h w (yG _ hw)];split
  .have:x≠n:=by rintro rfl;exact h v yS
   simp[this]
  .rfl
theorem Bl {kindOf:Str->Option NameKind}{x:Str}:∀ {binds:List (Str×Value)} {m:Str->Option Value},(∀v,(x,v) ∉ binds)->bindC kindOf binds m x=m x
 | [],_,_=>rfl
 | (n,v)::r,m,h=>by
  unfold bindC;rw[Bl λw hw=>h w (yG _ hw)];split
  .rfl
  .have:x≠n:=by rintro rfl;exact h v yS
   simp[this]
theorem Fv {kindOf:Str->Option NameKind}{x:Str}{v:Value}:∀ {P:List Str} {vs:List Value} {i:Nat} {m:Str->Option Value},P.Nodup->P[i]?=some x->vs[i]?=some v->kindOf x=some .local->
  bindL kindOf (P.zip vs) m x=some v
 | [],_,_,_,_,h,_,_=>by simp at h
 | _::_,[],_,_,_,_,h,_=>by simp at h
 | p::P,w::vs,0,m,nd,h1,h2,hk=>by
  simp at h1 h2;subst h1;subst h2
  show bindL kindOf ((p,w)::P.zip vs) m p=_;unfold bindL;rw[Dh λv hv=>(xE.mp nd).1 (wF hv).1,if_pos hk];simp
 | p::P,w::vs,i+1,m,nd,h1,h2,hk=>by
  show bindL kindOf ((p,w)::P.zip vs) m x=_;unfold bindL;exact Fv (i:=i) (xE.mp nd).2 (by simpa using h1) (by simpa using h2) hk
theorem BC {kindOf:Str->Option NameKind}{x:Str}{v:Value}:∀ {P:List Str} {vs:List Value} {i:Nat} {m:Str->Option Value},P.Nodup->P[i]?=some x->vs[i]?=some v->kindOf x≠some .local->
  bindC kindOf (P.zip vs) m x=some v
 | [],_,_,_,_,h,_,_=>by simp at h
 | _::_,[],_,_,_,_,h,_=>by simp at h
 | p::P,w::vs,0,m,nd,h1,h2,hk=>by
  simp at h1 h2;subst h1;subst h2
  show bindC kindOf ((p,w)::P.zip vs) m p=_;unfold bindC;rw[Bl λv hv=>(xE.mp nd).1 (wF hv).1,if_neg hk];simp
 | p::P,w::vs,i+1,m,nd,h1,h2,hk=>by
  show bindC kindOf ((p,w)::P.zip vs) m x=_;unfold bindC;exact BC (i:=i) (xE.mp nd).2 (by simpa using h1) (by simpa using h2) hk
def Wl (N:List Str)(vs:List V):St:=vs.map some++List.replicate (N.length-vs.length) none
def Wq (CX:CXT)(P:Program)(w:World)(K:Fg)(mg:Str->Option Value)(base:Heap)(N:List Str)(qual:Str)(scope:Scope)(f:Addr)(cd:Value)(A:Around)(outer:List Env)(s:Shared)(H:Hp)(E:XK):Cx where
 prog:=P
 w:=w
 K:=K
 mg:=mg
 base:=base
 A:=A.deeper (envOfC qual scope s.heap.objs.size f cd)
 N:=N
 s₀:=s
 H₀:=H
 env:=envOfC qual scope s.heap.objs.size f cd
 outer:=outer
 stack:=envOfC qual scope s.heap.objs.size f cd::outer
 ex:=[]
 calm:=true
 fn:=λ_=>true
 pn:=[]
 xe:=λe s'=>wpAny (model P w) (A.deeper (envOfC qual scope s.heap.objs.size f cd)) (leaving (envOfC qual scope s.heap.objs.size f cd) e) (λ_ s''=>CX outer H s E e s'') (λe' s''=>CX outer H s E e' s'') s'
theorem FW {sc:Scope}{n:Nat}{x:Str}(h:sc.names.lookup x=some .cell):∃c,(cellsFrom n sc.names []).lookup x=some c:=by
 have q:=W.cellsFrom_some sc.names n [] (.inl h);exact yN.mp q
theorem zfA {CX:CXT}{P:Program}{w:World}{K:Fg}{mg:Str->Option Value}{base:Heap}{N ps:List Str}{qual:Str}{scope:Scope}{f:Addr}{cd:Value}{A:Around}{outer:List Env}{s s1:Shared}{H:Hp}{E:XK}{us:List Value}{vs:List V}
  (S:Zl N ps scope)(hd:A.handled=none)(e0:VZ P w K mg base A outer s H)(hl:vs.length=ps.length)(r:Zw vs us)
  (x:InCallC s s.heap.objs.size (bindL (envOfC qual scope s.heap.objs.size f cd).kindOf (ps.zip us) λ_=>none) (cellsFrom (s.heap.objs.size+1) scope.names []) (bindC (envOfC qual scope s.heap.objs.size f cd).kindOf (ps.zip us) λ_=>none) s1):
  Inv (Wq CX P w K mg base N qual scope f cd A outer s H E) [] (Wl N vs) H s1:=by
 have hpl:ps.length<=N.length:=by have:=congrArg List.length S.pre;rw[zM] at this;omega
 obtain⟨h1,tk,rfl,hk⟩:=x.done;have noA:∀b:Addr,b ∉ (Wq CX P w K mg base N qual scope f cd A outer s H E).ex:=λb z=>absurd (show b∈([]:List Addr) from z) (by simp)
 refine⟨⟨e0.mod,S.kind,rfl,rfl,zC _,λy z c h1 h2=>?_,λy hy=>?_,λy c _ h=>?_,λ_=>hd,Around.frames_deeper e0.frames,.inr ⟨rfl,rfl⟩,λb z=>absurd z (noA b),e0.bs,e0.bsz,λb _ _=>noA b,λb z=>absurd z (noA b),e0.funs,e0.frf⟩,
  rfl,e0.bare,Un.kept hk,⟨_,x.toInCall.ns,λi y v h1 h2 h3=>?_⟩,λy c h=>⟨_,x.cell y c h⟩,e0.hok.fresh (zC _),λy c h=>?_,λp hp=>absurd (show p∈([]:LA) from hp) (by simp),e0.hok.kept hk,?_⟩
 .exact name_of_addr x.apart (PySem.mem_of_lookup h1) (PySem.mem_of_lookup h2)
 .have hy:scope.names.lookup y=some .cell\/scope.names.lookup y=some .free:=hy;rcases hy with hy|hy
  .exact FW hy
  .exact absurd rfl (S.nofree _ (PySem.mem_of_lookup hy))
 .exact yL (x.above y c (PySem.mem_of_lookup h))
 .have hi:i<vs.length:=by
   unfold Wl at h2;by_cases hi:i<vs.length
   .exact hi
   .rw[yC (by simpa using hi)] at h2;rw[wG] at h2;split at h2<;>cases h2
  have ha:vs[i]?=some v:=by
   unfold Wl at h2;rw[zJ (by simpa using hi),zF] at h2;cases e:vs[i]? with
   | none=>rw[e] at h2;cases h2
   | some a=>rw[e] at h2;cases h2;rfl
  obtain⟨u,hu,rv⟩:=r.get ha;have hp:ps[i]?=some y:=by
   rw[<- S.pre,wH (by omega)];exact h1
  have ndP:ps.Nodup:=by rw[<- S.pre];exact S.nd.sublist (List.take_sublist _ _)
  refine⟨u,rv,?_⟩;rcases S.par y (zE hp) with k|k
  .exact .inl ⟨k,Fv ndP hp hu k⟩
  .obtain⟨c,e⟩:=FW (n:=s.heap.objs.size+1) k;refine .inr ⟨.inl k,c,e,?_⟩;have q:=x.cell y c e;rw[BC ndP hp hu (by show scope.names.lookup y≠_;rw[k];decide)] at q;exact q
 .exact e0.hok.fresh (yL (x.above y c (PySem.mem_of_lookup h)))
 .unfold Wl;show _=N.length;rw[zQ,zB,vX];omega
theorem Bz {CX:CXT}{P:Program}{w:World}{K:Fg}{mg:Str->Option Value}{base:Heap}{k:Nat}{f:Addr}{name qual:Str}{params:Arguments}{body:List Stmt}{scope:Scope}{dV kV doc pm cdv ct oc:Value}{an od:Option Addr}
  {osl:Array (Option Value)}{N ps:List Str}{sp:Sp}(lk:K.lookup f=some ⟨oc,od,.func (W.fnOf name qual params body scope dV kV doc pm an cdv ct),osl⟩)(hcd:W.codeIn K cdv qual=true)(S:Zl N ps scope)
  (len:∀vs H Q E,sp vs H Q E->vs.length=ps.length)
  (hbody:∀(A:Around)(outer:List Env)(s:Shared)(H:Hp)(vs:List V)(Q:VK)(E:XK),ZH k (A.deeper (envOfC qual scope s.heap.objs.size f cdv))->sp vs H Q E->
   ∃t,PSs (Wq CX P w K mg base N qual scope f cdv A outer s H E) body t/\t { nx:=λ_ H'=>Q .non H',rt:=Q } (Wl N vs) H):
  Ye P w K mg base CX (k+1) f (W.fnOf name qual params body scope dV kV doc pm an cdv ct) ps sp:=by
 refine⟨len,λA outer s H args us vs Q E hr e0 hb r hsp=>?_⟩;have hl:=len _ _ _ _ hsp
 have KX:K.In s.heap:=e0.mod.kin.keeps λb o e=>(e0.bs b o e).1
 have lim:s.heap.NoLimit:=e0.mod.nolimit.keeps λb o e=>(e0.bs b o e).1
 have hkind:∀y∈ps.zip us,scope.names.lookup y.1=some .local\/(scope.names.lookup y.1=some .cell/\((cellsFrom (s.heap.objs.size+1) scope.names []).lookup y.1).isSome=true):=λ⟨n,v⟩ hy=>by
  rcases S.par n (wF hy).1 with q|q
  .exact .inl q
  .exact .inr ⟨q,W.cellsFrom_some _ _ _ (.inl q)⟩
 refine codeAny_call_function hr.depth (KX _ _ lk) rfl S.co S.gen rfl (W.codeRec_of KX hcd) (hb _ _ _ _ ?_);refine wpAny_newFunctionEnv_cells S.kind hkind λenv he s1 x=>?_
 subst he;refine⟨lim.keeps x.toInCall.keep,codeAny_func ?_⟩;obtain⟨t,ht,hq⟩:=hbody A outer s H vs Q E (hr.deeper _) hsp;have I:Inv (Wq CX P w K mg base N qual scope f cdv A outer s H E) [] (Wl N vs) H s1:=zfA S hr.hd e0 hl r x;refine wpAny_mono (ht [] s1 (Wl N vs) H _ I hq) (λfl s' hs=>?_) λe s' hs=>hs
 have aY:∀ {σ':St} {H':Hp} {v:V} {u:Value},Inv (Wq CX P w K mg base N qual scope f cdv A outer s H E) [] σ' H' s'->Zv v u->Q v H'->CE outer P w H s Q u s':=
  λ{σ' H' v u} J rv q=>⟨v,H',J.os,J.bare,J.base,J.hok,rv,q⟩
 cases fl with
 | ret u=>
  obtain⟨v,σ',H',J,rv,q⟩:=hs;exact aY J rv q
 | next=>
  obtain⟨σ',H',J,q⟩:=hs;exact aY (v:=V.non) (u:=Value.none) J rfl q
 | brk=>
  obtain⟨_,_,_,q⟩:=hs;exact False.elim q
 | cont=>
  obtain⟨_,_,_,q⟩:=hs;exact False.elim q
section
variable {X:Cx}{x:Str}{p pos:Pos}{e:Expr}{es:List Expr}{t:TA}{id T:String}{r:List V->Hp->VK->Prop}
def tCB (r:List V->Hp->VK->Prop)(t:TA):TE:=λσ H Q=>t σ H λvs H1=>r vs H1 Q
theorem Bc (hc:Ym X (.builtin id) r)(hg:Gl X x)(hm:X.mg x=none)(hv:bootBuiltins x=some (.builtin id))(ha:PA X (e::es) t)(hn:x≠"__name__":=by decide)(hdb:(x==("__debug__":Str))=false:=by decide)
  (he:He X e es:=by rfl)(hpl:Hp1 X pos es:=by rfl):PE X (.Call (.Name x p) (e::es) [] pos) (tCB r t):=by
 intro pins s σ H Q I h;refine wpAny_Call_Name_kw (WD I hg hm hv ?_ hn hdb);exact PyProof.Rows.callWith_builtin1 (thn (ha pos pins s σ H _ I h) λus s1 ⟨vs,H1,I1,r1,q1⟩=>hc pins s1 σ H1 vs us Q I1 r1 q1) he hpl
theorem Ac (hc:Ym X (.type T) r)(hg:Gl X x)(hm:X.mg x=none)(hv:bootBuiltins x=some (.type T))(ha:PA X (e::es) t)(hn:x≠"__name__":=by decide)(hdb:(x==("__debug__":Str))=false:=by decide)
  (he:He X e es:=by rfl)(hpl:Hp1 X pos es:=by rfl):PE X (.Call (.Name x p) (e::es) [] pos) (tCB r t):=by
 intro pins s σ H Q I h;refine wpAny_Call_Name_kw (WD I hg hm hv ?_ hn hdb);exact PyProof.Rows.callWith_type1 (thn (ha pos pins s σ H _ I h) λus s1 ⟨vs,H1,I1,r1,q1⟩=>hc pins s1 σ H1 vs us Q I1 r1 q1) he hpl
end
end L2
namespace HT
open PySem PyProof.Rows
section
open PySem.SeqAt
open PySem.AutoSeq1 (wpAny_loadPart')
open PySem.MeetsSeq PySem.MeetsSeq2 PySem.MeetsSeq3
end
def sIx (n d:Nat):Option Int->Nat
 | none=>d
 | some v=>if v<0 then (v+(n:Int)).toNat else min v.toNat n
theorem sIx_none (n d:Nat):sIx n d none=d:=rfl
theorem sIx_nat (n d k:Nat):sIx n d (some (k:Int))=min k n:=by
 show (if (k:Int)<0 then ((k:Int)+(n:Int)).toNat else min (k:Int).toNat n)=min k n;rw[if_neg (by omega),zL]
end HT
namespace L2
open PySem PySem.Spec PyProof.Rows
abbrev TO:=St->Hp->(Option Int->Hp->Prop)->Prop
def PO (X:Cx)(e:Option Expr)(t:TO):Prop:=
 ∀(pins:LA)(s:Shared)(σ:St)(H:Hp)(Q:Option Int->Hp->Prop),Inv X pins σ H s->t σ H Q->
  wpAny (mX X) X.A (evalPart e X.env) (λu s'=>∃o H',Inv X pins σ H' s'/\IsPart u o/\Q o H') X.xe s
def Ar:TO:=λ_ H Q=>Q none H
def tPart (t:TE):TO:=λσ H Q=>t σ H λx H1=>∃i,x=.int i/\Q (some i) H1
theorem zcU:∀ {us:List Value},Zw (ns.map V.int) us->IntsAre us ns:=by
 induction ns with
 | nil=>intro us r;rw[List.map_nil] at r;cases r;exact .nil
 | cons n ns ih=>
  intro us r;rw[yH] at r;cases r with
  | cons r1 r2=>
   obtain⟨t,e⟩:=r1;subst e;exact .cons n t (ih r2)
section
variable {X:Cx}{e:Expr}{te:TE}{lo hi:Option Expr}{tl th:TO}{pos p2:Pos}
theorem ziq:PO X none Ar:=by
 intro pins s σ H Q I h;rw[evalPart_none];exact wpAny_pure ⟨none,H,I,.none,h⟩
theorem zgk (h:PE X e te):PO X (some e) (tPart te):=by
 intro pins s σ H Q I hw;rw[evalPart_some];refine thn (h pins s σ H _ I hw) λu s1 ⟨x,H1,I1,r1,q1⟩=>?_
 obtain⟨i,rfl,q⟩:=q1;obtain⟨t,rfl⟩:=r1;exact⟨some i,H1,I1,.int i t,q⟩
def SlR (X:Cx)(r:V->Option Int->Option Int->Hp->VK->Prop):Prop:=
 ∀(pins:LA)(s:Shared)(σ:St)(H:Hp)(x:V)(v vl vu:Value)(lo hi:Option Int)(sl:Addr)(Q:VK),Inv X pins σ H s->Zv x v->s.heap.IsSliceOf sl vl vu .none->IsPart vl lo->IsPart vu hi->r x lo hi H Q->
  ∃T id,typeLookup (.type T) "__getitem__"=pure (some (.builtin id))/\s.TypeIs v T/\wpAny (mX X) X.A (getItem v (.ref sl)) (EP X pins σ Q) X.xe s
def tSl (r:V->Option Int->Option Int->Hp->VK->Prop)(te:TE)(tl th:TO):TE:=λσ H Q=>te σ H λx H1=>tl σ H1 λl H2=>th σ H2 λu H3=>r x l u H3 Q
theorem zdd {r:V->Option Int->Option Int->Hp->VK->Prop}(hr:SlR X r)(he:PE X e te)(hl:PO X lo tl)(hu:PO X hi th):PE X (.Subscript e (.Slice lo hi none p2) pos) (tSl r te tl th):=by
 intro pins s σ H Q I h;refine Subscript_ (thn (he pins s σ H _ I h) λv s1 ⟨x,H1,I1,r1,q1⟩=>?_);refine wpAny_Slice (thn (hl pins s1 σ H1 _ I1 q1) λvl s2 ⟨l,H2,I2,pl,q2⟩=>thn (hu pins s2 σ H2 _ I2 q2) λvu s3 ⟨u,H3,I3,pu,q3⟩=>?_);rw[evalPart_none];refine wpAny_pure ?_;have I4:Inv X pins σ H3 { s3 with heap:=s3.heap.push { cls:=.type "slice",data:=.fields #[vl,vu,.none] } }:=I3.kept (t':=s3.toks) λb ob q=>Heap.get?_push_of_some _ q
 obtain⟨T,id,hT,ht,hg⟩:=hr pins { s3 with heap:=s3.heap.push { cls:=.type "slice",data:=.fields #[vl,vu,.none] } } σ H3 x v vl vu l u s3.heap.objs.size Q I4 r1 (Heap.IsSliceOf.new ..) pl pu q3;show wpAny (mX X) X.A (subscriptTail e (.Slice lo hi none p2) v (.ref s3.heap.objs.size)) (EP X pins σ Q) X.xe { s3 with heap:=s3.heap.push { cls:=.type "slice",data:=.fields #[vl,vu,.none] } };exact tail_any (ops:=[.ref s3.heap.objs.size,v]) ht hT hg (by with_unfolding_all rfl)
def Si (xs:List V)(lo hi:Option Int):List V:=(xs.drop (HT.sIx xs.length 0 lo)).take (HT.sIx xs.length xs.length hi-HT.sIx xs.length 0 lo)
theorem zcX (xs:List V)(lo hi:Option Int):(Si xs lo hi).length<=xs.length:=by
 unfold Si;rw[zM,wJ];omega
end
def ixN (n:Nat)(i:Int):Option Nat:=if 0<=i then (if i<n then some i.toNat else none) else if -(n:Int)<=i then some (i+n).toNat else none
def atI {α:Type}(xs:List α)(i:Int):Option α:=(ixN xs.length i).bind λj=>xs[j]?
theorem Eg (h:ixN n i=some j):seqIndex? i n=some j/\j<n/\-(n:Int)<=i/\i<n:=by
 unfold ixN at h;by_cases h0:0<=i
 .rw[if_pos h0] at h;by_cases h1:i<n
  .rw[if_pos h1] at h;have e:i.toNat=j:=Option.some.inj h;exact⟨by rw[seqIndex_of h0 h1,e],by omega,by omega,h1⟩
  .rw[if_neg h1] at h;cases h
 .rw[if_neg h0] at h;by_cases h1:-(n:Int)<=i
  .rw[if_pos h1] at h;have e:(i+n).toNat=j:=Option.some.inj h;exact⟨by rw[seqIndex_neg (by omega) h1,e],by omega,h1,by omega⟩
  .rw[if_neg h1] at h;cases h
theorem Dd (h:atI xs i=some v):∃j,seqIndex? i xs.length=some j/\xs[j]?=some v/\j<xs.length/\-(xs.length:Int)<=i/\i<xs.length:=by
 unfold atI at h;cases e:ixN xs.length i with
 | none=>rw[e] at h;cases h
 | some j=>
  rw[e] at h;obtain⟨h1,h2,h3,h4⟩:=Eg e;exact⟨j,h1,h,h2,h3,h4⟩
theorem Z6 {α:Type}{xs:List α}{j:Nat}{v:α}(h:xs[j]?=some v):atI xs (j:Int)=some v:=by
 have hj:j<xs.length:=(zA.mp h).1
 have e:ixN xs.length (j:Int)=some j:=by
  unfold ixN;rw[if_pos (by omega),if_pos (by omega)];simp
 unfold atI;rw[e];exact h
def SM (b:Expr):Prop:=∀o i,subscripted b false o i=operate [o,i] (getItem o i)
def IxR (X:Cx)(r:R2):Prop:=
 ∀(value slice:Expr)(pins:LA)(s:Shared)(σ:St)(H:Hp)(x y:V)(v u:Value)(Q:VK),Inv X pins σ H s->Zv x v->Zv y u->r x y H Q->
  subscripted slice false v u=operate [v,u] (getItem v u)->wpAny (mX X) X.A (subscriptTail value slice v u) (EP X pins σ Q) X.xe s
def MtR (X:Cx)(id:String)(r:V->List V->Hp->VK->Prop):Prop:=
 ∀(pins:LA)(s:Shared)(σ:St)(H:Hp)(x:V)(xs:List V)(v:Value)(us:List Value)(Q:VK),Inv X pins σ H s->Zv x v->Zw xs us->r x xs H Q->
  wpAny (mX X) X.A (call (.builtin id) (v::us)) (EP X pins σ Q) X.xe s
section
variable {X:Cx}{a b:Expr}{ta tb:TE}{pos:Pos}
theorem pe_ix {r:R2}(hr:IxR X r)(ha:PE X a ta)(hb:PE X b tb)(hs:SM b):PE X (.Subscript a b pos) (tOp r ta tb):=by
 intro pins s σ H Q I h;exact Subscript_ (binT ha hb I h λv u s2 x y H2 I2 rx ry q=>hr a b pins s2 σ H2 x y v u Q I2 rx ry q (hs _ _))
def rIxL (K:Fg):R2:=λx y H Q=>∃p xs i v,x=.ref p/\y=.int i/\SqL K H p xs/\atI xs i=some v/\Q v H
def rIxT (K:Fg):R2:=λx y H Q=>∃p xs i v,x=.ref p/\y=.int i/\SqT K H p xs/\atI xs i=some v/\Q v H
theorem zfr:IxR X (rIxL X.K):=by
 intro value slice pins s σ H x y v u Q I rx ry h hs;obtain⟨p,xs,i,z,rfl,rfl,hq,he,q⟩:=h;cases rx;obtain⟨t,rfl⟩:=ry;obtain⟨aX,r,pl,hz⟩:=I.list hq;obtain⟨j,h1,h2,h3,h4,h5⟩:=Dd he;obtain⟨w,ew,rw'⟩:=r.get h2;have hl:=r.length
 have hn:=SU
 have aY:EP X pins σ Q w s:=⟨z,H,I,rw',q⟩;by_cases h0:0<=i
 .have hj:i.toNat=j:=by
   rw[seqIndex_of h0 h5] at h1;exact Option.some.inj h1
  exact item_listR pl.isList h0 (by omega) (by rw[hj];simpa using ew) aY hs
 .have hj:(i+(aX.toArray.size:Int)).toNat=j:=by
   rw[seqIndex_neg (by omega) h4] at h1;rw[zH,<- hl];exact Option.some.inj h1
  exact subscriptTail_builtinR (x:=w) pl.isList.typeIs slot_list_getitem.lookup
   (wpAny_getItem_list_neg (Q:=λr s'=>r=w/\EP X pins σ Q r s') pl.isList (by omega) (by rw[zH]<;>omega) (by omega) (by rw[hj];simpa using ew) ⟨rfl,aY⟩) hs
theorem zdk:IxR X (rIxT X.K):=by
 intro value slice pins s σ H x y v u Q I rx ry h hs;obtain⟨p,xs,i,z,rfl,rfl,hq,he,q⟩:=h;cases rx;obtain⟨t,rfl⟩:=ry;obtain⟨aX,r,pl,hz⟩:=I.tuple hq;obtain⟨j,h1,h2,h3,h4,h5⟩:=Dd he;obtain⟨w,ew,rw'⟩:=r.get h2;have hl:=r.length
 have hn:=SU
 have aY:EP X pins σ Q w s:=⟨z,H,I,rw',q⟩;exact subscriptTail_builtinR (x:=w) pl.typeIs slot_tuple_getitem.lookup
  (getItem_tuple (j:=j) (Q:=λr s'=>r=w/\EP X pins σ Q r s') pl (by omega) (by omega) (by rw[zH,<- hl];exact h1) (by simpa using ew) ⟨rfl,aY⟩) hs
theorem zeb (aX:List Value)(n j:Nat)(u:Value):Obj.mapSeq (·.setIfInBounds j u) { cls:=.type "list",data:=.seq aX.toArray n }={ cls:=.type "list",data:=.seq (aX.set j u).toArray n }:=by
 simp[Obj.mapSeq]
theorem Inv.lst {pins:LA}{σ:St}{H:Hp}{s:Shared}{p:Addr}{xs:List V}(I:Inv X pins σ H s)(h:H p=some (.lst xs)):
  ∃(aX:List Value)(n:Nat),Zw xs aX/\s.heap.get? p=some { cls:=.type "list",data:=.seq aX.toArray n }/\xs.length<=sizeLine:=by
 obtain⟨z,aX,n,r,e⟩:=I.hok p _ h;exact⟨aX,n,r,e,z⟩
theorem Inv.lstUpd {pins:LA}{σ:St}{H:Hp}{s:Shared}{p:Addr}{xs ys:List V}{aX its':List Value}{n n':Nat}{f:Obj->Obj}(I:Inv X pins σ H s)(h:H p=some (.lst xs))
  (ho:s.heap.get? p=some { cls:=.type "list",data:=.seq aX.toArray n })(hf:f { cls:=.type "list",data:=.seq aX.toArray n }={ cls:=.type "list",data:=.seq its'.toArray n' })(r:Zw ys its')(hz:ys.length<=sizeLine)(t:Nat):
  Inv X pins σ (upd H p (.lst ys)) { s with heap:=s.heap.update p f,toks:=t }:=by
 have e:(s.heap.update p f).get? p=some { cls:=.type "list",data:=.seq its'.toArray n' }:=by
  rw[Heap.get?_update_self f ho (by rw[hf]<;>rfl),hf]
 refine I.write (x:=p) (e:=p) (by rw[h];trivial) (.inl rfl) (λb u hb q=>(Heap.get?_update_other _ _ (Ne.symm hb)).trans q) ⟨_,e⟩ ?_;exact⟨hz,its',n',r,e⟩
def rSetL:V->V->V->Hp->(Hp->Prop)->Prop:=λo i v H Q=>∃p xs k j,o=.ref p/\i=.int k/\H p=some (.lst xs)/\ixN xs.length k=some j/\Q (upd H p (.lst (xs.set j v)))
theorem BW:PSet X rSetL:=by
 intro pins s σ H o i v ov iv u Q I ro ri rv h;obtain⟨p,xs,k,j,rfl,rfl,hp,hj,q⟩:=h;cases ro;obtain⟨t,rfl⟩:=ri;obtain⟨aX,n,r,ho,hz⟩:=I.lst hp;obtain⟨h1,h2,h3,h4⟩:=Eg hj;have hl:=r.length
 have hn:=SU
 have I':Inv X pins σ (upd H p (.lst (xs.set j v))) { s with heap:=s.heap.update p (Obj.mapSeq (·.setIfInBounds j u)) }:=
  I.lstUpd hp ho (zeb aX n j u) (r.set rv j) (by rw[yD];exact hz) s.toks
 by_cases h0:0<=k
 .have hk:k.toNat=j:=by
   rw[seqIndex_of h0 h4] at h1;exact Option.some.inj h1
  exact W.ki_setAt ho h0 (by omega) (by rw[zH,<- hl];exact h4) (by rw[hk];exact⟨_,I',q⟩)
 .have hk:(k+(aX.toArray.size:Int)).toNat=j:=by
   rw[seqIndex_neg (by omega) h3] at h1;rw[zH,<- hl];exact Option.some.inj h1
  exact W.ki_setBack ho (by omega) (by rw[zH,<- hl];exact h3) (by omega) (by rw[hk];exact⟨_,I',q⟩)
theorem zgm (lo hi:Option Int)(n:Nat):(sliceBounds lo hi none n).1=((HT.sIx n 0 lo:Nat):Int)/\(sliceBounds lo hi none n).2.1=((HT.sIx n n hi:Nat):Int)/\(sliceBounds lo hi none n).2.2=1:=by
 refine⟨?_,?_,rfl⟩
 .cases lo with
  | none=>simp[sliceBounds,HT.sIx]
  | some i=>
   simp only[sliceBounds,HT.sIx,vY,show (1:Int) > 0 by decide,if_true];by_cases h:i<0
   .simp only[h,if_true]<;>omega
   .simp only[h,if_false]<;>omega
 .cases hi with
  | none=>simp[sliceBounds,HT.sIx]
  | some i=>
   simp only[sliceBounds,HT.sIx,vY,show (1:Int) > 0 by decide,if_true];by_cases h:i<0
   .simp only[h,if_true]<;>omega
   .simp only[h,if_false]<;>omega
theorem ziE (aX:List Value)(lo hi:Option Int):slicePick aX.toArray lo hi none=((aX.drop (HT.sIx aX.length 0 lo)).take (HT.sIx aX.length aX.length hi-HT.sIx aX.length 0 lo)).toArray:=by
 obtain⟨h1,h2,h3⟩:=zgm lo hi aX.toArray.size;unfold slicePick;rw[h1,h2,h3];simp only[sliceRange_one,pick_run,zH]<;>rfl
def rSlL (K:Fg):V->Option Int->Option Int->Hp->VK->Prop:=λx lo hi H Q=>∃a xs,x=.ref a/\SqL K H a xs/\∀p,H p=none->Q (.ref p) (upd H p (.lst (Si xs lo hi)))
theorem za5:SlR X (rSlL X.K):=by
 intro pins s σ H x v vl vu lo hi sl Q I rx hs pl pu h;obtain⟨a,xs,rfl,hx,q⟩:=h;cases rx;obtain⟨aX,r,ht,hz⟩:=I.list hx;have aM:=r.length;refine⟨"list",_,slot_list_getitem.lookup,ht.isList.typeIs,?_⟩;refine wpAny_getItem_list_slice ht.isList hs pl pu .none (by simp) ?_ (by rw[zH]<;>omega);rw[ziE,<- aM];refine⟨.ref s.heap.objs.size,_,I.laid (t':=s.toks) (o:=.lst (Si xs lo hi)) (λb ob q=>Heap.get?_push_of_some _ q) (zC _) ?_,rfl,q _ (I.hok.fresh (zC _))⟩;exact⟨yE (zcX xs lo hi) hz,_,0,(r.drop (HT.sIx xs.length 0 lo)).take (HT.sIx xs.length xs.length hi-HT.sIx xs.length 0 lo),Heap.get?_push_size _ rfl⟩
def Mq:V->Bool
 | .non=>true
 | .bl _=>true
 | .int _=>true
 | .str _=>true
 | _=>false
def eqV:V->V->Bool
 | .non,.non=>true
 | .bl a,.bl b=>a==b
 | .bl a,.int b=>(if a then 1 else 0)==b
 | .int a,.bl b=>a==(if b then 1 else 0)
 | .int a,.int b=>a==b
 | .str a,.str b=>a==b
 | _,_=>false
theorem zeg (ry:Zv y u)(rx:Zv x v)(fy:Mq y=true)(fx:Mq x=true):SeqAt.EqAt A s u v (eqV y x):=by
 cases y with
 | non=>
  cases ry;cases x with
  | non=>cases rx;exact SeqAt.EqAt.same _
  | bl b=>cases rx;exact SeqAt.EqAt.none_bool b
  | int b=>obtain⟨t,rfl⟩:=rx;exact SeqAt.EqAt.none_int b t
  | str b=>obtain⟨t,rfl⟩:=rx;exact SeqAt.EqAt.none_str b t
  | _=>exact absurd (show false=true from fx) zI
 | bl a=>
  cases ry;cases x with
  | non=>cases rx;exact SeqAt.EqAt.bool_none a
  | bl b=>cases rx;exact SeqAt.EqAt.bool_bool a b
  | int b=>obtain⟨t,rfl⟩:=rx;exact SeqAt.EqAt.bool_int a b t
  | str b=>obtain⟨t,rfl⟩:=rx;exact SeqAt.EqAt.bool_str a b t
  | _=>exact absurd (show false=true from fx) zI
 | int a=>
  obtain⟨t',rfl⟩:=ry;cases x with
  | non=>cases rx;exact SeqAt.EqAt.int_none a t'
  | bl b=>cases rx;exact SeqAt.EqAt.int_bool a t' b
  | int b=>obtain⟨t,rfl⟩:=rx;exact SeqAt.EqAt.int_int a t' b t
  | str b=>obtain⟨t,rfl⟩:=rx;exact SeqAt.EqAt.int_str a t' b t
  | _=>exact absurd (show false=true from fx) zI
 | str a=>
  obtain⟨t',rfl⟩:=ry;cases x with
  | non=>cases rx;exact SeqAt.EqAt.str_none a t'
  | bl b=>cases rx;exact SeqAt.EqAt.str_bool a t' b
  | int b=>obtain⟨t,rfl⟩:=rx;exact SeqAt.EqAt.str_int a t' b t
  | str b=>obtain⟨t,rfl⟩:=rx;exact SeqAt.EqAt.str_str a t' b t
  | _=>exact absurd (show false=true from fx) zI
 | _=>exact absurd (show false=true from fy) zI
theorem zfe:Ym X (.builtin "len") (λxs H Q=>∃p ys,xs=[.ref p]/\(SqL X.K H p ys\/SqT X.K H p ys)/\Q (.int ys.length) H):=by
 intro pins s σ H xs us Q I r h;obtain⟨p,ys,rfl,hq,q⟩:=h;obtain⟨u,rfl,rx⟩:=Vw r;cases rx;have hn:=SU;rcases hq with hq|hq
 .obtain⟨aX,r',pl,hz⟩:=I.list hq;have aM:=r'.length;exact Calls.call_len_list pl.isList (by simp only[zH]<;>omega) ⟨.int ys.length,H,I.tok _,⟨s.toks+1,by rw[zH,aM]⟩,q⟩
 .obtain⟨aX,r',pl,hz⟩:=I.tuple hq;have aM:=r'.length;exact len_tuple pl (by simp only[zH]<;>omega) ⟨.int ys.length,H,I.tok _,⟨s.toks+1,by rw[zH,aM]⟩,q⟩
theorem zhk:Ym X (.type "list") (λxs H Q=>∃p ys,xs=[.ref p]/\(SqL X.K H p ys\/SqT X.K H p ys)/\∀l,H l=none->Q (.ref l) (upd H l (.lst ys))):=by
 intro pins s σ H xs us Q I r h;obtain⟨p,ys,rfl,hq,q⟩:=h;obtain⟨u,rfl,rx⟩:=Vw r;cases rx;have aY:∀(aX:List Value),Zw ys aX->ys.length<=sizeLine->∀(h':Heap)(c':Nat),(∀b o',s.heap.get? b=some o'->h'.get? b=some o')->
   h'.get? s.heap.objs.size=some { cls:=.type "list",dict:=none,data:=.seq aX.toArray c',slots:=#[] }->EP X pins σ Q (.ref s.heap.objs.size) { s with heap:=h' }:=λaX r' hz h' c' kp e=>
  ⟨.ref s.heap.objs.size,_,I.laid (t':=s.toks) kp (zC _) (show Yy X.prog X.w _ h' _ (.lst ys) from ⟨hz,aX,c',r',e⟩),rfl,q _ (I.hok.fresh (zC _))⟩
 rcases hq with hq|hq
 .obtain⟨aX,r',pl,hz⟩:=I.list hq;have aM:=r'.length;obtain⟨o,ho,hc,n,hd⟩:=pl.isList;exact call_list_seq p (.inl rfl) ho hc hd (λh' c' kp e=>aY aX r' hz h' c' kp e) (by simp only[zH]<;>omega)
 .obtain⟨aX,r',pl,hz⟩:=I.tuple hq;have aM:=r'.length;obtain⟨o,ho,hc,n,hd⟩:=pl;exact call_list_seq p (.inr rfl) ho hc hd (λh' c' kp e=>aY aX r' hz h' c' kp e) (by simp only[zH]<;>omega)
def tyV (K:Fg)(T:String)(x:V)(H:Hp):Prop:=match x with
 | .str _=>T="str"
 | .int _=>T="int"
 | .ref p=>(T="list"/\∃xs,SqL K H p xs)\/(T="tuple"/\∃o,K.lookup p=some o/\o.cls=.type "tuple"/\o.dict=none)\/
   (T="dict"/\((∃aV,H p=some (.dK aV))\/∃aV,H p=some (.dT aV)))\/(T="set"/\∃S n,H p=some (.set S n))
 | _=>False
theorem CD (I:Inv X pins σ H s)(r:Zv x v)(ty:tyV X.K T x H):
  s.TypeIs v T/\∀a,v=.ref a->∃ob,s.heap.get? a=some ob/\ob.dict=none:=by
 cases x with
 | str z=>
  obtain⟨t,rfl⟩:=r;cases (show T="str" from ty);exact⟨typeIs_str s z t,λ_ e=>nomatch e⟩
 | int i=>
  obtain⟨t,rfl⟩:=r;cases (show T="int" from ty);exact⟨typeIs_int s i t,λ_ e=>nomatch e⟩
 | ref p=>
  cases r;rcases ty with ⟨rfl,xs,hq⟩|⟨rfl,o,hk,hc,hd⟩|⟨rfl,hk⟩|⟨rfl,S,n,hk⟩
  .obtain⟨aX,_,pl,_⟩:=I.list hq;refine⟨pl.isList.typeIs,λa e=>?_⟩;cases e;obtain⟨o,n,e,c,hd,_⟩:=pl;exact⟨o,e,hd⟩
  .refine⟨⟨o,I.kIn p o hk,hc⟩,λa e=>?_⟩;cases e;exact⟨o,I.kIn _ o hk,hd⟩
  .have z:∃o,s.heap.get? p=some o/\o.ExactDict:=by
    rcases hk with ⟨aV,hk⟩|⟨aV,hk⟩
    .obtain⟨_,_,_,_,o,_,_,e,ex,_⟩:=I.hok p _ hk;exact⟨o,e,ex⟩
    .obtain⟨_,_,_,_,o,_,_,e,ex,_⟩:=I.hok p _ hk;exact⟨o,e,ex⟩
   obtain⟨o,e,ex⟩:=z;refine⟨⟨o,e,ex.1⟩,λa e2=>?_⟩;cases e2;exact⟨o,e,ex.2.1⟩
  .obtain⟨o,_,_,_,e,ex,_⟩:=I.hok p _ hk;refine⟨⟨o,e,ex.1⟩,λa e2=>?_⟩;cases e2;exact⟨o,e,ex.2.1⟩
 | _=>exact False.elim ty
def tBM0 (K:Fg)(T:String)(r:V->List V->Hp->VK->Prop)(to:TE):TE:=λσ H Q=>to σ H λx H1=>tyV K T x H1/\r x [] H1 Q
def tBM (K:Fg)(T:String)(r:V->List V->Hp->VK->Prop)(to:TE)(t:TA):TE:=λσ H Q=>to σ H λx H1=>tyV K T x H1/\t σ H1 λxs H2=>r x xs H2 Q
variable {o e:Expr}{es:List Expr}{to:TE}{t:TA}{name:Str}{aJ aH:Pos}{T id:String}{r:V->List V->Hp->VK->Prop}
theorem ziT (pa:PlainAttrs T)(slot:Slot T name id)(hty:typeOf (.builtin id)=pure (.type "method_descriptor"))(hm:MtR X id r)(ho:PE X o to)
  (hbase:attributeBase o name X.env (eval o X.env)=eval o X.env:=by rfl)(hline:(aJ.endLine==aH.line)=true:=by rfl):PE X (.Call (.Attribute o name aJ) [] [] aH) (tBM0 X.K T r to):=by
 intro pins s σ H Q I h;refine wpAny_Call_method0_late hbase hline (thn (ho pins s σ H _ I h) λv s1 ⟨x,H1,I1,r1,ty,q1⟩=>?_);obtain⟨h1,h2⟩:=CD I1 r1 ty;exact⟨T,id,pa,slot,hty,h1,h2,Calls.callWith_builtin rfl (PySem.evalArgs_none (hm pins s1 σ H1 x [] v [] Q I1 r1 .nil q1))⟩
theorem EV (pa:PlainAttrs T)(slot:Slot T name id)(hty:typeOf (.builtin id)=pure (.type "method_descriptor"))(hm:MtR X id r)(ho:PE X o to)(ha:PA X (e::es) t)
  (hbase:attributeBase o name X.env (eval o X.env)=eval o X.env:=by rfl)
  (hfew:((backTo aH (starEach (e::es) X.env)).all (λx=>!x.1)&&(backToKw aH (keywordEach [] X.env)).all (λx=>x.1.isSome)
  &&decide ((e::es).length+([]:List Keyword).length+(if ([]:List Keyword).isEmpty then 0 else 1)<30))=true:=by rfl)
  (hline:(aJ.endLine==aH.line)=true:=by rfl)(hs:starEach (e::es) X.env=(false,eval e X.env)::starEach es X.env:=by rfl)(hplain:(backTo aH (starEach es X.env)).any (·.1)=false:=by rfl):
  PE X (.Call (.Attribute o name aJ) (e::es) [] aH) (tBM X.K T r to t):=by
 intro pins s σ H Q I h;refine wpAny_Call_method_late hbase hfew hline rfl (thn (ho pins s σ H _ I h) λv s1 ⟨x,H1,I1,r1,ty,q1⟩=>?_);obtain⟨h1,h2⟩:=CD I1 r1 ty;refine⟨T,id,pa,slot,hty,h1,h2,?_⟩;have hA:=ha aH pins s1 σ H1 _ I1 q1;rw[hs] at hA ⊢;refine Calls.callWith_builtin (by show (false||(backTo aH (starEach es X.env)).any (·.1))=false;rw[hplain]<;>rfl) (Calls.evalArgs_plain ?_);exact thn hA λus s2 ⟨vs,H2,I2,r2,q2⟩=>hm pins s2 σ H2 x vs v us Q I2 r1 r2 q2
end
def MtM (X:Cx)(id:String)(r:V->List V->Hp->VK->Prop):Prop:=
 ∀(pins:LA)(s:Shared)(σ:St)(H:Hp)(x:V)(xs:List V)(v:Value)(us:List Value)(Q:VK),Inv X pins σ H s->Zv x v->Zw xs us->r x xs H Q->
  wpAny (mX X) X.A (call (.builtin id) (v::us)) (EP X pins σ Q) X.xe s
theorem Zw.one:∀ {x:V} {us:List Value},Zw [x] us->∃u,us=[u]/\Zv x u
 | _,_,.cons r .nil=>⟨_,rfl,r⟩
theorem Zw.rep (h:Zw xs us):∀k:Nat,Zw (List.replicate k xs).flatten (List.replicate k us).flatten
 | 0=>.nil
 | k+1=>by
  rw[yU,yU,xF,xF];exact Zw.append h (Zw.rep h k)
theorem DF (aX:List Value):∀(k:Nat)(acc:List Value),
  List.foldl (λx1 x2=>x1++x2) acc.toArray (List.replicate k aX.toArray)=(acc++(List.replicate k aX).flatten).toArray
 | 0,acc=>by simp
 | k+1,acc=>by
  have e:acc.toArray++aX.toArray=(acc++aX).toArray:=by simp
  have e2:(acc++aX)++(List.replicate k aX).flatten=acc++(List.replicate (k+1) aX).flatten:=by
   rw[yU,xF,yV]
  rw[<- e2,<- DF aX k (acc++aX),<- e,yU,List.foldl_cons]
theorem Inv.lset {aX its':List Value}{n:Nat}{f:Array Value->Array Value}{t':Nat}(I:Inv X pins σ H s)(hH:H l=some (.lst xs))
  (e:s.heap.get? l=some { cls:=.type "list",data:=.seq aX.toArray n })(hf:f aX.toArray=its'.toArray)(hv:Zw ys its')(hz:ys.length<=sizeLine):
  Inv X pins σ (upd H l (.lst ys)) { s with heap:=s.heap.update l (Obj.mapSeq f),toks:=t' }:=by
 have q:=PySem.IsL.update e f;rw[hf] at q;refine I.write (x:=l) (e:=l) (by rw[hH];exact trivial) (.inl rfl) (λb' u hb hu=>(Heap.get?_update_other s.heap (Obj.mapSeq f) (Ne.symm hb)).trans hu) ⟨_,q⟩ ?_;exact⟨hz,its',_,hv,q⟩
theorem Inv.lnew (I:Inv X pins σ H s)(hv:Zw ys aX)(hz:ys.length<=sizeLine):
  Inv X pins σ (upd H s.heap.objs.size (.lst ys)) { s with heap:=s.heap.push { cls:=.type "list",data:=.seq aX.toArray },toks:=t' }:=
 I.laid (λ_ _ q=>Heap.get?_push_of_some _ q) (zC _) ⟨hz,aX,0,hv,Heap.get?_push_size _ rfl⟩
theorem Inv.fresh (I:Inv X pins σ H s):H s.heap.objs.size=none:=I.hok.fresh (zC _)
theorem Inv.lstM (I:Inv X pins σ H s)(hH:H l=some (.lst xs)):xs.length<=sizeLine/\∃(aX:List Value)(n:Nat),Zw xs aX/\xs.length=aX.length/\s.heap.get? l=some { cls:=.type "list",data:=.seq aX.toArray n }:=by
 obtain⟨z,aX,n,r,e⟩:=I.hok l _ hH;exact⟨z,aX,n,r,r.length,e⟩
theorem zcP {n:Nat}(h:n<=sizeLine):Builtin.List.listTooLong n=false:=by
 unfold Builtin.List.listTooLong;exact decide_eq_false (by omega)
def zgC:V->List V->Hp->VK->Prop:=λx vs H Q=>∃l xs y,x=.ref l/\vs=[y]/\H l=some (.lst xs)/\xs.length<sizeLine/\Q .non (upd H l (.lst (xs++[y])))
theorem Cm:MtM X "list.append" zgC:=by
 intro pins s σ H x vs v us Q I rx rv h;obtain⟨l,xs,y,rfl,rfl,hH,hz,q⟩:=h;cases rx;obtain⟨u,rfl,ru⟩:=rv.one;obtain⟨z,aX,n,r,hl,e⟩:=I.lstM hH;refine call_meets F.slot_list_append ⟨_,e,rfl⟩ F.entry_list_append (F.args_list_append_2 _ _) (PySem.list_append l aX.toArray n u (by rw[zH];omega)) ⟨e,?_⟩;refine⟨.non,_,I.lset (its':=aX++[u]) hH e (by simp) (r.append (.cons ru .nil)) ?_,rfl,q⟩;rw[zQ,List.length_singleton];omega
def rCat:R2:=λx y H Q=>∃l b xs zs,x=.ref l/\y=.ref b/\H l=some (.lst xs)/\H b=some (.lst zs)/\xs.length+zs.length<=sizeLine/\∀p,H p=none->Q (.ref p) (upd H p (.lst (xs++zs)))
theorem zgW:OpR X (binaryOp .Add) rCat:=by
 intro pins s σ H x y v u Q I rx ry h;obtain⟨l,b,xs,zs,rfl,rfl,hH,hB,hz,q⟩:=h;cases rx;cases ry;obtain⟨z,aX,n,r,hl,e⟩:=I.lstM hH;obtain⟨z2,its2,n2,r2,hl2,e2⟩:=I.lstM hB;refine PySem.P.add_list e e2 ?_ (by rw[zH,zH];omega);have ea:aX.toArray++its2.toArray=(aX++its2).toArray:=by simp
 rw[ea];exact⟨.ref _,_,I.lnew (t':=s.toks) (r.append r2) (by rw[zQ];omega),rfl,q _ I.fresh⟩
def rRep:R2:=λx y H Q=>∃l k xs,x=.ref l/\y=.int k/\H l=some (.lst xs)/\-(2^63)<=k/\k<2^63/\xs.length*k.toNat<=sizeLine/\
 ∀p,H p=none->Q (.ref p) (upd H p (.lst (List.replicate k.toNat xs).flatten))
theorem zgY (xs:List α)(k:Nat):(List.replicate k xs).flatten.length=k*xs.length:=by
 induction k with
 | zero=>simp
 | succ k ih=>rw[yU,xF,zQ,ih,Nat.succ_mul,Nat.add_comm]
theorem zi5:OpR X (binaryOp .Mult) rRep:=by
 intro pins s σ H x y v u Q I rx ry h;obtain⟨l,k,xs,rfl,rfl,hH,h1,h2,hz,q⟩:=h;cases rx;obtain⟨t,rfl⟩:=ry;obtain⟨z,aX,n,r,hl,e⟩:=I.lstM hH;have aM:aX.toArray.size*k.toNat<=sizeLine:=by rw[zH,<- hl];exact hz
 have hcap:¬ aX.toArray.size*k.toNat > (2^63-1)/8:=by
  have:(sizeLine:Nat)<=(2^63-1)/8:=by decide
  omega
 have hfit:¬ (!Builtin.List.listFitsIndex k)=true:=by
  rw[fitsIndex_both h1 h2];exact zI
 have hlong:¬ Builtin.List.listTooLong (aX.toArray.size*k.toNat)=true:=by
  rw[zcP aM];exact zI
 have hnew:List.foldl (λx1 x2=>x1++x2) #[] (List.replicate (if aX.toArray.isEmpty=true then 0 else k.toNat) aX.toArray)=(List.replicate k.toNat aX).flatten.toArray:=by
  have f0:∀m:Nat,List.foldl (λx1 x2=>x1++x2) #[] (List.replicate m aX.toArray)=(List.replicate m aX).flatten.toArray:=λm=>by
   have:=DF aX m [];rw[List.nil_append] at this;exact this
  rw[f0];cases aX with
  | nil=>simp
  | cons a r'=>rw[if_neg (by simp)]
 refine wpAny_binaryOp_repeat_ref (T:="list") (U:="int") ⋯ ⟨_,e,rfl⟩ (λs'=>typeIs_int s' k t) noFill_list_mul F.fills_int_mul F.slot_int_rmul repeat_list F.slot_int_index.lookup
  (call_meets F.slot_int_rmul (typeIs_int s k t) F.entry_int_rmul (F.args_int_rmul_2 _ _) (int___rmul___int_list k t l aX.toArray n)
   ⟨e,rfl,⟨_,e,rfl⟩,call_meets F.slot_list_mul ⟨_,e,rfl⟩ F.entry_list_mul (F.args_list_mul_2 _ _) (AutoListH.list___mul___list_int_3 l aX.toArray n k t hfit hcap hlong) ⟨e,?_⟩⟩)
 rw[hnew];exact⟨.ref _,_,I.lnew (t':=s.toks) (r.rep k.toNat) (by rw[zgY,wK];exact hz),rfl,q _ I.fresh⟩
section
variable {prog:Program}{w:World}{A:Around}{E:Value->Shared->Prop}{s:Shared}
set_option maxRecDepth 100000 in
end
section
variable {X:Cx}
end
end L2
namespace Att
open PySem PySem.W PySem.Calls PyProof.Rows
theorem zfy {P:Params}{h:Heap}:∀(ns:List Int)(vs:List Value),WellAll P h vs (ns.map WData.int)->IntsAre vs ns:=by
 intro ns
 induction ns with
 | nil=>
  intro vs w;rw[List.map_nil] at w;cases w;exact .nil
 | cons n ns ih=>
  intro vs w;rw[yH] at w;cases w with
  | cons a b=>
   cases a;exact .cons _ _ (ih _ b)
theorem A2 {l:OpenLaw}{n:Nat}(hn:l.most=some n){P:Params}{h:Heap}{args:List WData}{vals:List Value}
  (hpre:l.row.toRowW.claim.pre args=true)(hwl:WellAll P h vals args):
  ∃a vs ns,vals=[Value.ref a]/\args=[WData.list (ns.map WData.int)]/\h.get? a=some { cls:=.type "list",data:=.seq vs.toArray }/\IntsAre vs ns/\ns.length<=n:=by
 have hsh:WShape.hasAll [] args [.list .int]=true:=(pre_splitW hpre).1
 have hc:l.pre.holds [] { args:=args }=true:=(pre_splitW hpre).2;obtain⟨d,r,rfl,h1,h2⟩:=hasAllW_cons hsh;obtain rfl:=hasAllW_nil h2;obtain⟨xs,rfl,h3⟩:=hasW_list h1;obtain⟨ns,rfl⟩:=items_int h3;have aM:ns.length<=n:=by
  unfold OpenLaw.pre at hc;have h4:(WTm.not (.lt (.lit (.int (n:Int))) (.len (.arg 0)))).holds [] { args:=[.list (ns.map .int)] }=true:=by
   have h4:=(holds_andW hc).1;rw[hn] at h4;exact h4
  have h5:=condW_of h4 (w_not (w_lt w_lit (w_len_list (w_arg rfl))));rw[zB] at h5;refine Nat.le_of_not_lt λq=>?_
  have q':(n:Int)<((ns.length:Nat):Int):=by omega
  first
   | (rw[decide_eq_true q'] at h5;exact absurd h5 ⋯)
   | (simp at h5;omega)
 cases hwl with
 | cons w1 w2=>
  cases w2;cases w1 with
  | list ho hall=>exact⟨_,_,ns,rfl,rfl,ho,zfy ns _ hall,aM⟩
theorem zbk (l:OpenLaw)(args:List WData):l.row.toRowW.claim.post args (.bool true) args=true:=
 postW_of (r:=l.row.toRowW) (X:=(true==true))
  (show WShape.has [] (.bool true) .bool=true by first|rfl|decide|simp[WShape.has,WShape.arms,WShape.armsAll])
  (show (WTm.eq .res (.lit (.bool true))).value [] { args:=args,res:=some (.bool true),after:=args }=some (.bool (true==true)) from w_eq_bool (w_res rfl) w_lit) rfl
theorem attach_call {l:OpenLaw}{n:Nat}{q:Program}{aG:List Str}{XP:(Str->Option Value)->Heap->Prop}{YP:World->Heap->Prop}{d:DefRec}
  (hn:l.most=some n)(hdf:d.params.defaults=[])
  (call:∀(w:World)(s₀ s₁:Shared)(mg mb:Str->Option Value)(fa:Addr)(o:Obj)(pm cd doc:Value)(a:Addr)(vs:List Value)(ns:List Int),
   Ground q aG [] XP w s₀ mg mb s₁.heap->YP w s₁.heap->
   s₁.heap.get? fa=some o->o.data=.func (docDef d.name d.params d.body d.scope pm cd doc)->s₁.heap.CodeRec cd d.name->mg d.name=some (.ref fa)->
   s₁.heap.get? a=some { cls:=.type "list",data:=.seq vs.toArray }->IntsAre vs ns->ns.length<=n->s₁.gens=#[]->
   codeAny (model l.prog w) callerA (.call (.ref fa) ⟨[.ref a],[]⟩) (λr s'=>r=.ok (.ret (.bool true))/\OldK s₁.heap s'.heap/\s'.os=s₁.os/\AllBare s'.gens) s₁):
  WalkO q aG XP YP l.row.toRowW d [] (λf vs=>PySem.call f vs):=by
 intro w s₀ s₁ mg mb G Y fa o pm cd doc dV kV ho hd hcd hD hmg hg args vals as hpre hlay hrd hwl hlo;obtain rfl:dV=.none:=Dflts.none hD hdf;obtain rfl:kV=.none:=Dflts.noKw hD;obtain⟨a,vs,ns,rfl,rfl,hobj,hints,aM⟩:=A2 hn hpre hwl;refine enter_call (codeAny_mono (call w s₀ s₁ mg mb fa o pm cd doc a vs ns G Y ho (fd_plain hd) hcd hmg hobj hints aM hg) λr s' hq=>?_);obtain⟨rfl,h2,h3,h4⟩:=hq;exact⟨.inl ⟨.bool true,.bool true,[],rfl,λ_=>rfl,.bool true,zbk l _,λ_=>⟨List.Pairwise.nil,λ_ hm=>(nomatch hm)⟩⟩,h2,h3,h4⟩
section
variable {prog:Program}{w:World}{A:Around}{E:Value->Shared->Prop}{s:Shared}{K:Frag}
end
end Att
namespace L2
open PySem PySem.Spec PyProof.Rows
theorem MF:∀ {vs:List Value} {ns:List Int},IntsAre vs ns->Zw (ns.map V.int) vs
 | _,_,.nil=>.nil
 | _,_,.cons n t h=>.cons ⟨t,rfl⟩ (MF h)
end L2
namespace L2
open PySem PySem.Spec PyProof.Rows
abbrev CX0:CXT:=λ_ _ _ _ _ _=>False
structure Fun (K:Fg)(x qual:Str)(st:Stmt)(f:Addr)(fd:FuncData):Prop where
 ex:∃(oc:Value)(od:Option Addr)(kV doc pm:Value)(an:Option Addr)(cdv ct:Value)(osl:Array (Option Value)),
  fd=W.fnOf x qual (Vm st) (Xb st) (Zi st) .none kV doc pm an cdv ct/\K.lookup f=some ⟨oc,od,.func fd,osl⟩/\W.codeIn K cdv qual=true
 kp:W.keepIn K (.ref f)=true
section
variable {P:Program}{w:World}{K:Fg}{mg:Str->Option Value}{base:Heap}
theorem Fun.ok {x qual:Str}{st:Stmt}{f:Addr}{fd:FuncData}{N ps:List Str}{k:Nat}{sp:Sp}(F:Fun K x qual st f fd)(S:Zl N ps (Zi st))(len:∀vs H Q E,sp vs H Q E->vs.length=ps.length)
  (hbody:∀(cdv:Value)(A:Around)(outer:List Env)(s:Shared)(H:Hp)(vs:List V)(Q:VK)(E:XK),ZH k (A.deeper (envOfC qual (Zi st) s.heap.objs.size f cdv))->sp vs H Q E->
   ∃t,PSs (Wq CX0 P w K mg base N qual (Zi st) f cdv A outer s H E).nox (Xb st) t/\t { nx:=λ_ H'=>Q .non H',rt:=Q } (Wl N vs) H):Ye P w K mg base CX0 (k+1) f fd ps sp:=by
 obtain⟨oc,od,kV,doc,pm,an,cdv,ct,osl,rfl,lk,hcd⟩:=F.ex;refine Bz lk hcd S len λA outer s H vs Q E hr hsp=>?_
 obtain⟨t,h,q⟩:=hbody cdv A outer s H vs Q E hr hsp;exact⟨t,h.nox,q⟩
theorem Fun.binds {x qual:Str}{st:Stmt}{f:Addr}{fd:FuncData}{ps:List Str}(F:Fun K x qual st f fd)
  (h:∀(kV doc pm:Value)(an:Option Addr)(cdv ct:Value)(us:List Value),us.length=ps.length->bindArgs (W.fnOf x qual (Vm st) (Xb st) (Zi st) .none kV doc pm an cdv ct) ⟨us,[]⟩=pure (ps.zip us)):YA K fd ps []:=by
 obtain⟨oc,od,kV,doc,pm,an,cdv,ct,osl,rfl,lk,hcd⟩:=F.ex;exact .all (h kV doc pm an cdv ct)
theorem Mu {x qual:Str}{st:Stmt}{f:Addr}{oc:Value}{od an:Option Addr}{osl:Array (Option Value)}{kV doc pm cdv ct:Value}(l:K.lookup f=some ⟨oc,od,.func (W.fnOf x qual (Vm st) (Xb st) (Zi st) .none kV doc pm an cdv ct),osl⟩)
  (c:W.codeIn K cdv qual=true)(k:W.keepIn K (.ref f)=true):Fun K x qual st f (W.fnOf x qual (Vm st) (Xb st) (Zi st) .none kV doc pm an cdv ct):=⟨⟨oc,od,kV,doc,pm,an,cdv,ct,osl,rfl,l,c⟩,k⟩
end
theorem Q6 (h:n<=1000):n<sizeLine:=wZ h ⋯
section
variable {X:Cx}
theorem pv (i:Nat)(hN:X.N[i]?=some x:=by rfl)(hv:Vis X.env.scope x:=by first|exact Or.inl rfl|exact Or.inr (Or.inl rfl)|exact Or.inr (Or.inr rfl))(hd:(x==("__debug__":Str))=false:=by decide)(hcd:(x==("__classdict__":Str))=false:=by decide):PE X (.Name x pos) (tVar i):=E0 hN hv hd hcd
end
theorem YF {A B:Prop}(h:B):if false=true then A else B:=by
 rw[if_neg zI];exact h
theorem YO {A B:Prop}(h:A):if true=true then A else B:=by
 rw[if_pos rfl];exact h
theorem OL {c A B:Prop} [Decidable c] (h1:c->A)(h2:¬ c->B):if c then A else B:=by
 by_cases h:c
 .rw[if_pos h];exact h1 h
 .rw[if_neg h];exact h2 h
section
variable {κ:Type} [DecidableEq κ]
end
section
variable {P:Program}{w:World}{H:Hp}{h:Heap}{a:Addr}
end
section
variable {X:Cx}{pins:LA}{σ:St}{H:Hp}{s:Shared}{a:Addr}{y v:V}{u r:Value}{o:Option V}{A:Around}{E:Value->Shared->Prop}
end
section
variable {X:Cx}{pins:LA}{σ:St}{H:Hp}{s:Shared}{a:Addr}{aV:List (Key×V)}{k:Key}{u:Value}{A:Around}{E:Value->Shared->Prop}
end
section
variable {X:Cx}{o i e value:Expr}{pos pos' tpos:Pos}{td ty tv:TE}
end
section
variable {X:Cx}{pos:Pos}
end
structure M1 (X:Cx)(o:Expr)(m:Str)(aJ:Pos)(e:Expr)(aH:Pos):Prop where
 base:attributeBase o m X.env (eval o X.env)=eval o X.env
 few:((backTo aH (starEach [e] X.env)).all (λx=>!x.1)&&(backToKw aH (keywordEach [] X.env)).all (λx=>x.1.isSome)
 &&decide (([e]:List Expr).length+([]:List Keyword).length+(if ([]:List Keyword).isEmpty then 0 else 1)<30))=true
 line:(aJ.endLine==aH.line)=true
 trees:backTo aH (starEach [e] X.env)=[(false,eval e X.env)]
structure M2 (X:Cx)(o:Expr)(m:Str)(aJ:Pos)(e f:Expr)(aH:Pos):Prop where
 base:attributeBase o m X.env (eval o X.env)=eval o X.env
 few:((backTo aH (starEach [e,f] X.env)).all (λx=>!x.1)&&(backToKw aH (keywordEach [] X.env)).all (λx=>x.1.isSome)
 &&decide (([e,f]:List Expr).length+([]:List Keyword).length+(if ([]:List Keyword).isEmpty then 0 else 1)<30))=true
 line:(aJ.endLine==aH.line)=true
 trees:backTo aH (starEach [e,f] X.env)=[(false,eval e X.env),(false,eval f X.env)]
section
variable {X:Cx}{pins:LA}{σ:St}{H:Hp}{s:Shared}{a:Addr}{y d:V}{u r:Value}{o:Option V}{A:Around}{E:Value->Shared->Prop}
end
section
variable {X:Cx}{o e f:Expr}{aJ aH:Pos}{td ty tx:TE}
end
section
variable {X:Cx}{pins:LA}{σ:St}{H:Hp}{s:Shared}{a:Addr}{aV:List (Key×V)}{A:Around}{E:Value->Shared->Prop}
end
section
variable {X:Cx}{pins:LA}{σ:St}{H:Hp}{s:Shared}{a:Addr}{y:V}{u:Value}{A:Around}{E:Value->Shared->Prop}
end
end L2
namespace L3
open PySem PySem.Spec PyProof.Rows L2
abbrev St:=L2.St
inductive D where
 | non|bl (b:Bool)|int (i:Int)|str (x:Str)|tup (xs:List D)|ref (n:Nat)|exc (c:Addr)
inductive Ob where
 | lst (xs:List D)|frz (xs:List D)
  | ins (C:Addr) (fs:List (Str×D))
  | dct (aV:List (List Key×D))
  | tpl (ws:List Str)
  | dck (aV:List (Key×D))
  | cod (P:Addr) (pos:Pos) (q:Str)
abbrev Sto:=List Ob
abbrev Ev:=List (Option D)
abbrev DK:=D->Sto->Prop
abbrev TDE:=Ev->Sto->DK->Prop
abbrev TDT:=Ev->Sto->(Bool->Sto->Prop)->Prop
abbrev TDA:=Ev->Sto->(List D->Sto->Prop)->Prop
structure XY where
 nx:Ev->Sto->Prop
 rt:DK
 bk:Ev->Sto->Prop:=λ_ _=>False
 ct:Ev->Sto->Prop:=λ_ _=>False
abbrev TDS:=XY->Ev->Sto->Prop
def isX (a c:Addr):HO:=.ext λh=>∃o,h.get? a=some o/\o.cls=.ref c
inductive Rp (r:List Addr)(H:Hp):D->V->Prop
 | non:Rp r H .non .non
 | bl (b:Bool):Rp r H (.bl b) (.bl b)
 | int (i:Int):Rp r H (.int i) (.int i)
 | str (x:Str):Rp r H (.str x) (.str x)
 | tup {ds:List D} {xs:List V} {a:Addr}:H a=some (.tup xs)->ds.length=xs.length->(∀(i:Nat)(d:D)(v:V),ds[i]?=some d->xs[i]?=some v->Rp r H d v)->Rp r H (.tup ds) (.ref a)
 | ref {n:Nat} {a:Addr}:r[n]?=some a->Rp r H (.ref n) (.ref a)
 | exc {c a:Addr}:H a=some (isX a c)->Rp r H (.exc c) (.ref a)
def Rps (r:List Addr)(H:Hp)(ds:List D)(vs:List V):Prop:=ds.length=vs.length/\∀(i:Nat)(d:D)(v:V),ds[i]?=some d->vs[i]?=some v->Rp r H d v
structure Ext (r r':List Addr)(H H':Hp):Prop where
 adr:∀(n:Nat)(a:Addr),r[n]?=some a->r'[n]?=some a
 tup:∀a xs,H a=some (.tup xs)->H' a=some (.tup xs)
 xc:∀a φ,H a=some (.ext φ)->H' a=some (.ext φ)
theorem Ext.refl:Ext r r H H:=⟨λ_ _ h=>h,λ_ _ h=>h,λ_ _ h=>h⟩
theorem Ext.trans (a:Ext r r' H H')(b:Ext r' r2 H' H2):Ext r r2 H H2:=⟨λn x h=>b.adr n x (a.adr n x h),λx y h=>b.tup x y (a.tup x y h),λx y h=>b.xc x y (a.xc x y h)⟩
theorem Rp.ext (h:Rp r H d v)(e:Ext r r' H H'):Rp r' H' d v:=by
 induction h with
 | non=>exact .non
 | bl b=>exact .bl b
 | int i=>exact .int i
 | str x=>exact .str x
 | tup h l _ ih=>exact .tup (e.tup _ _ h) l ih
 | ref h=>exact .ref (e.adr _ _ h)
 | exc h=>exact .exc (e.xc _ _ h)
theorem Rps.ext (h:Rps r H ds vs)(e:Ext r r' H H'):Rps r' H' ds vs:=⟨h.1,λi d v h1 h2=>(h.2 i d v h1 h2).ext e⟩
theorem Rps.nil:Rps r H [] []:=⟨rfl,λi d v h=>by simp at h⟩
theorem Rps.cons (h:Rp r H d v)(t:Rps r H ds vs):Rps r H (d::ds) (v::vs):=by
 refine⟨by simp[t.1],λi x y h1 h2=>?_⟩;cases i with
 | zero=>
  simp at h1 h2;subst h1;subst h2
  exact h
 | succ i=>exact t.2 i x y (by simpa using h1) (by simpa using h2)
theorem Rps.tail (h:Rps r H (d::ds) (y::vs)):Rp r H d y/\Rps r H ds vs:=
 ⟨h.2 0 d y rfl rfl,by simpa using h.1,λi a b h1 h2=>h.2 (i+1) a b (by simpa using h1) (by simpa using h2)⟩
theorem Rps.uncons (h:Rps r H (d::ds) vs):∃v vs',vs=v::vs'/\Rp r H d v/\Rps r H ds vs':=by
 cases vs with
 | nil=>exact absurd h.1 (by simp)
 | cons v vs'=>exact⟨v,vs',rfl,h.tail⟩
theorem Rps.unnil (h:Rps r H [] vs):vs=[]:=by
 cases vs with
 | nil=>rfl
 | cons v vs'=>exact absurd h.1 (by simp)
theorem Rps.get {i:Nat}(h:Rps r H ds vs)(e:ds[i]?=some d):∃v,vs[i]?=some v/\Rp r H d v:=by
 have hi:i<ds.length:=(zA.mp e).1
 have hv:i<vs.length:=by rw[<- h.1];exact hi
 exact⟨vs[i],by simp[hv],h.2 i d vs[i] e (by simp[hv])⟩
theorem Rps.get' {i:Nat}(h:Rps r H ds vs)(e:vs[i]?=some v):∃d,ds[i]?=some d/\Rp r H d v:=by
 have hv:i<vs.length:=(zA.mp e).1
 have hi:i<ds.length:=by rw[h.1];exact hv
 exact⟨ds[i],by simp[hi],h.2 i ds[i] v (by simp[hi]) e⟩
theorem Rps.snoc (h:Rps r H ds vs)(t:Rp r H d v):Rps r H (ds++[d]) (vs++[v]):=by
 refine⟨by simp[h.1],λi x y h1 h2=>?_⟩;by_cases hi:i<ds.length
 .rw[zJ hi] at h1;rw[zJ (by rw[<- h.1];exact hi)] at h2;exact h.2 i x y h1 h2
 .have hl:i<(ds++[d]).length:=(zA.mp h1).1
  have e:i=ds.length:=by simp at hl;omega
  subst e;rw[yC (zC _)] at h1;rw[h.1,yC (zC _)] at h2;simp at h1 h2;subst h1;subst h2
  exact t
theorem Rps.tupR (h:Rps r H ds vs)(e:H a=some (.tup vs)):Rp r H (.tup ds) (.ref a):=.tup e h.1 h.2
theorem Rp.untup {vs:V}(h:Rp r H (.tup ds) vs):∃a xs,vs=.ref a/\H a=some (.tup xs)/\Rps r H ds xs:=by
 cases h with
 | tup e l f=>exact⟨_,_,rfl,e,l,f⟩
def SqF (K:Fg)(H:Hp)(a:Addr)(xs:List V):Prop:=
 (∃o,H a=some (.frz o (.lst xs)))\/
  ∃(o:Obj)(aX:Array Value)(n:Nat),K.lookup a=some o/\o.cls=.type "list"/\o.dict=none/\o.data=.seq aX n/\aX.size<=sizeLine/\Zw xs aX.toList
theorem SqF.sql {K:Fg}{H:Hp}{a:Addr}{xs:List V}(h:SqF K H a xs):SqL K H a xs:=by
 rcases h with ⟨o,h⟩|h
 .exact .inl (.inr ⟨o,h⟩)
 .exact .inr h
def FR {α:Type}(r:List Addr)(H:Hp)(fs:List (α×D))(fs':List (α×V)):Prop:=fs.map (·.1)=fs'.map (·.1)/\Rps r H (fs.map (·.2)) (fs'.map (·.2))
theorem FR.ext {α:Type}{r r':List Addr}{H H':Hp}{fs:List (α×D)}{fs':List (α×V)}(h:FR r H fs fs')(e:Ext r r' H H'):FR r' H' fs fs':=⟨h.1,h.2.ext e⟩
theorem FR.nil {α:Type}{r:List Addr}{H:Hp}:FR (α:=α) r H [] []:=⟨rfl,Rps.nil⟩
def Tab (pos:Pos)(q:Str)(H:Hp)(ps:Array Value):Prop:=TriplesOk ps.toList/\(codeAmong pos ps.toList=none\/∃c,codeAmong pos ps.toList=some (.ref c)/\H c=some (.ext λh=>h.CodeRec (.ref c) q))
theorem Tab.same {pos:Pos}{q:Str}{H H':Hp}{ps:Array Value}(h:Tab pos q H ps)(e:∀b φ,H b=some (.ext φ)->H' b=some (.ext φ)):Tab pos q H' ps:=⟨h.1,h.2.imp id λ⟨c,a,b⟩=>⟨c,a,e _ _ b⟩⟩
def ObR (K:Fg)(r:List Addr)(H:Hp)(a:Addr):Ob->Prop
 | .lst ds=>∃xs,H a=some (.lst xs)/\Rps r H ds xs
 | .frz ds=>∃xs,SqF K H a xs/\Rps r H ds xs
 | .ins C fs=>∃dx fs',H a=some (.ins C dx fs')/\FR r H fs fs'
 | .dct aV=>∃kvs',H a=some (.dT kvs')/\FR r H aV kvs'
 | .dck aV=>∃kvs',H a=some (.dK kvs')/\FR r H aV kvs'
 | .tpl ws=>∃(o:Obj)(aX:Array Value)(n:Nat),K.lookup a=some o/\o.cls=.type "tuple"/\o.data=.seq aX n/\aX.size<=sizeLine/\Zw (ws.map V.str) aX.toList
 | .cod P pos q=>a=P/\∃ps,H a=some (.tbl ps)/\Tab pos q H ps
def Vn:Ob->Bool
 | .frz _=>false
 | .tpl _=>false
 | _=>true
structure ZW (K:Fg)(r:List Addr)(S:Sto)(H:Hp):Prop where
 len:r.length=S.length
 ob:∀(n:Nat)(a:Addr)(o:Ob),r[n]?=some a->S[n]?=some o->ObR K r H a o
 nd:∀(n m:Nat)(a:Addr)(o u:Ob),r[n]?=some a->r[m]?=some a->S[n]?=some o->S[m]?=some u->Vn o=true->Vn u=true->n=m
def Zm:Ob->List D
 | .lst ds=>ds
 | .frz ds=>ds
 | _=>[.exc 0]
def Y8:Ob->Option Ob
 | .lst ds=>some (.lst ds)
 | .frz ds=>some (.frz ds)
 | _=>none
def lAt (S:Sto)(n:Nat):Option Ob:=(S[n]?).bind Y8
theorem zeY (h:Y8 o=some u):u=o:=by
 cases o<;>simp[Y8] at h<;>exact h.symm
theorem Y1 {S:Sto}{n:Nat}{o:Ob}(h:lAt S n=some o):S[n]?=some o/\Y8 o=some o:=by
  unfold lAt at h;cases q:S[n]? with
  | none=>
   rw[q] at h;cases h
  | some u=>
    rw[q] at h;have h':Y8 u=some o:=h
    have e:=zeY h';subst e;exact⟨rfl,h'⟩
theorem ZM {S:Sto}{n:Nat}{o:Ob}(h:S[n]?=some o)(hL:Y8 o=some o):lAt S n=some o:=by
 unfold lAt;rw[h];exact hL
section
variable {K:Fg}{r r':List Addr}{S:Sto}{H H':Hp}{n:Nat}{a p:Addr}
theorem ZW.at {o:Ob}(h:ZW K r S H)(e:S[n]?=some o):∃a,r[n]?=some a/\ObR K r H a o:=by
 have hn:n<S.length:=(zA.mp e).1
 have hr:n<r.length:=by rw[h.len];exact hn
 exact⟨r[n],by simp[hr],h.ob n r[n] o (by simp[hr]) e⟩
theorem ObR.list {o:Ob}(h:ObR K r H a o)(hL:Y8 o=some o):∃xs,SqL K H a xs/\Rps r H (Zm o) xs:=by
 cases o with
 | lst ds=>obtain⟨xs,e,q⟩:=h;exact⟨xs,SqL.of e,q⟩
 | frz ds=>obtain⟨xs,e,q⟩:=h;exact⟨xs,e.sql,q⟩
 | ins C fs=>cases hL
 | dct aV=>cases hL
 | dck aV=>cases hL
 | tpl ws=>cases hL
 | cod P pos q=>cases hL
theorem ObR.keep {o:Ob}(q:ObR K r H a o)(x:Ext r r' H H')(ha:∀u,H a=some u->H' a=some u):ObR K r' H' a o:=by
 cases o with
 | lst ds=>obtain⟨xs,h3,h4⟩:=q;exact⟨xs,ha _ h3,h4.ext x⟩
 | frz ds=>
  obtain⟨xs,h3,h4⟩:=q;refine⟨xs,?_,h4.ext x⟩;rcases h3 with ⟨o,h3⟩|h3
  .exact .inl ⟨o,ha _ h3⟩
  .exact .inr h3
 | ins C fs=>obtain⟨dx,fs',h3,h4⟩:=q;exact⟨dx,fs',ha _ h3,h4.ext x⟩
 | dct aV=>obtain⟨ks,h3,h4⟩:=q;exact⟨ks,ha _ h3,h4.ext x⟩
 | dck aV=>obtain⟨ks,h3,h4⟩:=q;exact⟨ks,ha _ h3,h4.ext x⟩
 | tpl ws=>exact q
 | cod P pos q'=>obtain⟨e,ps,h3,h4⟩:=q;exact⟨e,ps,ha _ h3,h4.same x.xc⟩
theorem ObR.own {o:Ob}(q:ObR K r H a o)(h:Vn o=true):∃u,H a=some u/\(∀xs,u≠HO.tup xs)/\(∀φ,u≠HO.ext φ)/\∀z y,u≠HO.frz z y:=by
 cases o with
 | lst ds=>obtain⟨xs,h3,h4⟩:=q;exact⟨_,h3,(λ_ z=>by cases z),(λ_ z=>by cases z),(λ_ _ z=>by cases z)⟩
 | frz ds=>cases h
 | tpl ws=>cases h
 | ins C fs=>obtain⟨dx,fs',h3,h4⟩:=q;exact⟨_,h3,(λ_ z=>by cases z),(λ_ z=>by cases z),(λ_ _ z=>by cases z)⟩
 | dct aV=>obtain⟨ks,h3,h4⟩:=q;exact⟨_,h3,(λ_ z=>by cases z),(λ_ z=>by cases z),(λ_ _ z=>by cases z)⟩
 | dck aV=>obtain⟨ks,h3,h4⟩:=q;exact⟨_,h3,(λ_ z=>by cases z),(λ_ z=>by cases z),(λ_ _ z=>by cases z)⟩
 | cod P pos q'=>obtain⟨_,ps,h3,_⟩:=q;exact⟨_,h3,(λ_ z=>by cases z),(λ_ z=>by cases z),(λ_ _ z=>by cases z)⟩
theorem ZW.same (h:ZW K r S H)(e:∀b o,H b=some o->H' b=some o):ZW K r S H':=
 ⟨h.len,λn a o h1 h2=>(h.ob n a o h1 h2).keep ⟨λ_ _ q=>q,λa xs q=>e _ _ q,λa c q=>e _ _ q⟩ (e a),h.nd⟩
theorem Wr {o:HO}(h:H p=none):∀b u,H b=some u->(upd H p o) b=some u:=λb u q=>by rw[ZS (Ua q h)];exact q
theorem MS (e:(r++[p])[n]?=some b):(n<r.length/\r[n]?=some b)\/(n=r.length/\b=p):=by
 by_cases hn:n<r.length
 .rw[zJ hn] at e;exact .inl ⟨hn,e⟩
 .have hl:n<(r++[p]).length:=(zA.mp e).1
  have en:n=r.length:=by simp at hl;omega
  subst en;rw[yC (zC _)] at e;simp at e;exact .inr ⟨rfl,e.symm⟩
theorem ZW.pushO (h:ZW K r S H)(hp:H p=none)(keep:∀b u,H b=some u->H' b=some u)(q:Ext r (r++[p]) H H'->ObR K (r++[p]) H' p o):ZW K (r++[p]) (S++[o]) H'/\Ext r (r++[p]) H H':=by
 have x:Ext r (r++[p]) H H':=⟨λn a e=>by
  have hn:n<r.length:=(zA.mp e).1;rw[zJ hn];exact e,λa ys e=>keep _ _ e,λa c e=>keep _ _ e⟩
 have sS:∀ {n:Nat} {u:Ob},n<r.length->(S++[o])[n]?=some u->S[n]?=some u:=λ{n u} hn e=>by
  rw[zJ (by rw[<- h.len];exact hn)] at e;exact e
 refine⟨⟨by simp[h.len],λn a u h1 h2=>?_,λn m a u w h1 h2 h3 h4 o1 o2=>?_⟩,x⟩
 .rcases MS h1 with ⟨hn,e⟩|⟨rfl,rfl⟩
  .exact(h.ob n a u e (sS hn h2)).keep x (keep a)
  .rw[h.len,yC (zC _)] at h2;simp at h2;subst h2;exact q x
 .rcases MS h1 with ⟨hn,e⟩|⟨rfl,rfl⟩
  .rcases MS h2 with ⟨hm,e'⟩|⟨rfl,rfl⟩
   .exact h.nd n m a u w e e' (sS hn h3) (sS hm h4) o1 o2
   .obtain⟨zs,h5,_⟩:=(h.ob n _ _ e (sS hn h3)).own o1;rw[hp] at h5;cases h5
  .rcases MS h2 with ⟨hm,e'⟩|⟨rfl,_⟩
   .obtain⟨zs,h5,_⟩:=(h.ob m _ _ e' (sS hm h4)).own o2;rw[hp] at h5;cases h5
   .rfl
theorem ZW.push {ds:List D}{xs:List V}(h:ZW K r S H)(hp:H p=none)(q:Rps r H ds xs):ZW K (r++[p]) (S++[.lst ds]) (upd H p (.lst xs))/\Ext r (r++[p]) H (upd H p (.lst xs)):=
 h.pushO hp (Wr hp) λx=>⟨xs,YG,q.ext x⟩
theorem ZW.setO (h:ZW K r S H)(hn:r[n]?=some a)(hS:S[n]?=some o)(ho:Vn o=true)(ho':Vn o'=true)(q:Ext r r H (upd H a u)->ObR K r (upd H a u) a o'):ZW K r (S.set n o') (upd H a u)/\Ext r r H (upd H a u):=by
 obtain⟨u0,h0,t1,t2,t3⟩:=(h.ob n a _ hn hS).own ho;have x:Ext r r H (upd H a u):=⟨λ_ _ e=>e,λb zs e=>by
  rw[ZS (Ka e h0 (λz=>t1 zs z.symm))];exact e,λb c e=>by
  rw[ZS (Ka e h0 (λz=>t2 c z.symm))];exact e⟩
 have hlt:n<S.length:=(zA.mp hS).1
 have off:∀ {m:Nat} {w:Ob},m≠n->(S.set n o')[m]?=some w->S[m]?=some w:=λ{m w} hm e=>by
  rw[zT (Ne.symm hm)] at e;exact e
 refine⟨⟨by simp[h.len],λm b w h1 h2=>?_,λm k b w y h1 h2 h3 h4 o1 o2=>?_⟩,x⟩
 .by_cases hm:m=n
  .subst hm;rw[hn] at h1;cases h1
   rw[yB hlt] at h2;cases h2;exact q x
  .have h2':=off hm h2
   have q':=h.ob m b w h1 h2';by_cases hw:Vn w=true
   .have hb:b≠a:=λz=>hm (by subst z;exact h.nd m n b w o h1 hn h2' hS hw ho)
    exact q'.keep x λz e=>by rw[ZS hb];exact e
   .cases w with
    | frz es=>
     obtain⟨zs,h3,h4⟩:=q';refine⟨zs,?_,h4.ext x⟩;rcases h3 with ⟨z,h3⟩|h3
     .exact .inl ⟨z,by rw[ZS (Ka h3 h0 (λy=>t3 _ _ y.symm))];exact h3⟩
     .exact .inr h3
    | tpl ws=>exact q'
    | _=>exact absurd rfl hw
 .have back:∀ {j:Nat} {w:Ob},(S.set n o')[j]?=some w->Vn w=true->∃y,S[j]?=some y/\Vn y=true:=λ{j w} e ow=>by
   by_cases hj:j=n
   .subst hj;exact⟨o,hS,ho⟩
   .exact⟨w,off hj e,ow⟩
  obtain⟨us',h3',q3⟩:=back h3 o1;obtain⟨ws',h4',q4⟩:=back h4 o2;exact h.nd m k b us' ws' h1 h2 h3' h4' q3 q4
theorem ZW.set {ds ds':List D}{xs:List V}(h:ZW K r S H)(hn:r[n]?=some a)(hS:S[n]?=some (.lst ds))(q:Rps r H ds' xs):ZW K r (S.set n (.lst ds')) (upd H a (.lst xs))/\Ext r r H (upd H a (.lst xs)):=
 h.setO hn hS rfl rfl λx=>⟨xs,YG,q.ext x⟩
end
def Rs (r:List Addr)(H:Hp)(dl:Ev)(σ:St):Prop:=dl.length=σ.length/\∀(i:Nat)(d:D),dl[i]?=some (some d)->∃v,σ[i]?=some (some v)/\Rp r H d v
theorem Rs.ext {r r':List Addr}{H H':Hp}{dl:Ev}{σ:St}(h:Rs r H dl σ)(e:Ext r r' H H'):Rs r' H' dl σ:=⟨h.1,λi d q=>by
 obtain⟨v,h1,h2⟩:=h.2 i d q;exact⟨v,h1,h2.ext e⟩⟩
theorem Rs.set {r:List Addr}{H:Hp}{dl:Ev}{σ:St}{d:D}{v:V}(i:Nat)(h:Rs r H dl σ)(q:Rp r H d v):Rs r H (dl.set i (some d)) (σ.set i (some v)):=by
 refine⟨by simp[h.1],λj e hj=>?_⟩;by_cases hij:i=j
 .subst hij;have hl:i<dl.length:=by
   have:=(zA.mp hj).1;simpa using this
  rw[yB hl] at hj;cases hj;exact⟨v,by rw[yB (by rw[<- h.1];exact hl)],q⟩
 .rw[zT hij] at hj;obtain⟨v',h1,h2⟩:=h.2 j e hj;exact⟨v',by rw[zT hij];exact h1,h2⟩
structure Zx where
 ex:Ev->Addr->Sto->Prop
 w:St->XK
abbrev Zc (ex:Addr->Sto->Prop)(E:XK):Zx:=⟨λ_=>ex,λ_=>E⟩
def UL (K:Fg)(Z:Zx)(r:List Addr)(H:Hp):Prop:=∀(dl:Ev)(σ:St)(c:Addr)(H':Hp)(r':List Addr)(S':Sto),Ext r r' H H'->Rs r' H' dl σ->ZW K r' S' H'->Z.ex dl c S'->Z.w σ (.ref c) none H'
theorem UL.ext {K:Fg}{Z:Zx}{r r':List Addr}{H H':Hp}(h:UL K Z r H)(e:Ext r r' H H'):UL K Z r' H':=λdl σ c H2 r2 S2 x=>h dl σ c H2 r2 S2 (e.trans x)
structure Rel (K:Fg)(Z:Zx)(r:List Addr)(S:Sto)(H:Hp):Prop where
 b:ZW K r S H
 xw:UL K Z r H
section
variable {K:Fg}{Z:Zx}{r r':List Addr}{S:Sto}{H H':Hp}{n:Nat}{a p:Addr}
theorem Rel.len (h:Rel K Z r S H):r.length=S.length:=h.b.len
theorem Rel.at {o:Ob}(h:Rel K Z r S H)(e:S[n]?=some o):∃a,r[n]?=some a/\ObR K r H a o:=h.b.at e
theorem Rel.same (h:Rel K Z r S H)(e:∀b o,H b=some o->H' b=some o):Rel K Z r S H':=⟨h.b.same e,h.xw.ext ⟨λ_ _ q=>q,λa xs q=>e _ _ q,λa c q=>e _ _ q⟩⟩
theorem Rel.push {ds:List D}{xs:List V}(h:Rel K Z r S H)(hp:H p=none)(q:Rps r H ds xs):Rel K Z (r++[p]) (S++[.lst ds]) (upd H p (.lst xs))/\Ext r (r++[p]) H (upd H p (.lst xs)):=by
 obtain⟨h1,h2⟩:=h.b.push hp q;exact⟨⟨h1,h.xw.ext h2⟩,h2⟩
theorem Rel.set {ds ds':List D}{xs:List V}(h:Rel K Z r S H)(hn:r[n]?=some a)(hS:S[n]?=some (.lst ds))(q:Rps r H ds' xs):Rel K Z r (S.set n (.lst ds')) (upd H a (.lst xs))/\Ext r r H (upd H a (.lst xs)):=by
 obtain⟨h1,h2⟩:=h.b.set hn hS q;exact⟨⟨h1,h.xw.ext h2⟩,h2⟩
end
def Ret (K:Fg)(Z:Zx)(r:List Addr)(H:Hp)(Q:DK)(Qv:VK):Prop:=∀v H' r' d S',Ext r r' H H'->Rel K Z r' S' H'->Rp r' H' d v->Q d S'->Qv v H'
theorem Ret.ext {K:Fg}{Z:Zx}{r r':List Addr}{H H':Hp}{Q:DK}{Qv:VK}(h:Ret K Z r H Q Qv)(e:Ext r r' H H'):Ret K Z r' H' Q Qv:=λv H2 r2 d S2 x=>h v H2 r2 d S2 (e.trans x)
def up (K:Fg)(Z:Zx)(t:TDE):TE:=λσ H Qv=>∃r dl S Q,Rs r H dl σ/\Rel K Z r S H/\t dl S Q/\Ret K Z r H Q Qv
def upT (K:Fg)(Z:Zx)(t:TDT):TT:=λσ H Qb=>∃r dl S Q,Rs r H dl σ/\Rel K Z r S H/\t dl S Q/\∀b H' r' S',Ext r r' H H'->Rel K Z r' S' H'->Q b S'->Qb b H'
def upA (K:Fg)(Z:Zx)(t:TDA):TA:=λσ H Qv=>∃r dl S Q,Rs r H dl σ/\Rel K Z r S H/\t dl S Q/\∀vs H' r' ds S',Ext r r' H H'->Rel K Z r' S' H'->Rps r' H' ds vs->Q ds S'->Qv vs H'
structure RO (K:Fg)(Z:Zx)(r:List Addr)(H:Hp)(E:XY)(F:Vv):Prop where
 nx:∀σ' H' r' dl' S',Ext r r' H H'->Rs r' H' dl' σ'->Rel K Z r' S' H'->E.nx dl' S'->F.nx σ' H'
 bk:∀σ' H' r' dl' S',Ext r r' H H'->Rs r' H' dl' σ'->Rel K Z r' S' H'->E.bk dl' S'->F.bk σ' H'
 ct:∀σ' H' r' dl' S',Ext r r' H H'->Rs r' H' dl' σ'->Rel K Z r' S' H'->E.ct dl' S'->F.ct σ' H'
 rt:Ret K Z r H E.rt F.rt
theorem RO.ext {K:Fg}{Z:Zx}{r r':List Addr}{H H':Hp}{E:XY}{F:Vv}(h:RO K Z r H E F)(e:Ext r r' H H'):RO K Z r' H' E F:=
 ⟨λa b c d f x=>h.nx a b c d f (e.trans x),λa b c d f x=>h.bk a b c d f (e.trans x),λa b c d f x=>h.ct a b c d f (e.trans x),h.rt.ext e⟩
def upS (K:Fg)(Z:Zx)(t:TDS):TS:=λF σ H=>∃r dl S E,Rs r H dl σ/\Rel K Z r S H/\t E dl S/\RO K Z r H E F
def PD (X:Cx)(Z:Zx)(e:Expr)(t:TDE):Prop:=PE X e (up X.K Z t)
def PDT (X:Cx)(Z:Zx)(e:Expr)(t:TDT):Prop:=PT X e (upT X.K Z t)
def PDW (X:Cx)(Z:Zx)(e:Expr)(t:TDT):Prop:=PW X e (upT X.K Z t)
def PDA (X:Cx)(Z:Zx)(es:List Expr)(t:TDA):Prop:=PA X es (upA X.K Z t)
def PDS (X:Cx)(Z:Zx)(st:Stmt)(t:TDS):Prop:=PS X st (upS X.K Z t)
def YE (X:Cx)(Z:Zx)(st:List Stmt)(t:TDS):Prop:=PSs X st (upS X.K Z t)
section
variable {X:Cx}{Z:Zx}
theorem Z5 (h:PE X e t)(f:∀σ H Q,t' σ H Q->t σ H Q):PE X e t':=λpins s σ H Q I q=>h pins s σ H Q I (f σ H Q q)
theorem R8 (h:PT X e t)(f:∀σ H Q,t' σ H Q->t σ H Q):PT X e t':=λpins s σ H Q I q=>h pins s σ H Q I (f σ H Q q)
theorem BJ (h:PW X e t)(f:∀σ H Q,t' σ H Q->t σ H Q):PW X e t':=λwh pins s σ H Q I q=>h wh pins s σ H Q I (f σ H Q q)
theorem E1 (h:PA X e t)(f:∀σ H Q,t' σ H Q->t σ H Q):PA X e t':=λpos pins s σ H Q I q=>h pos pins s σ H Q I (f σ H Q q)
theorem Yw {e:Stmt}{t t':TS}(h:PS X e t)(f:∀F σ H,t' F σ H->t F σ H):PS X e t':=λpins s σ H F I q=>h pins s σ H F I (f F σ H q)
theorem Fz (h:PSs X e t)(f:∀F σ H,t' F σ H->t F σ H):PSs X e t':=λpins s σ H F I q=>h pins s σ H F I (f F σ H q)
theorem PDW.pt (h:PDW X Z e t):PDT X Z e t:=PW.pt h
def Xh (i:Nat):TDE:=λdl S Q=>match dl[i]? with
 | some (some d)=>Q d S
 | _=>False
def dC (d:D):TDE:=λ_ S Q=>Q d S
theorem ze4 (h:PE X e (tVar i)):PD X Z e (Xh i):=Z5 h λσ H Qv ⟨r,dl,S,Q,rs,aZ,q,ret⟩=>by
 unfold Xh at q;split at q
 .rename_i d e;obtain⟨v,h1,h2⟩:=rs.2 i d e;exact⟨v,h1,ret v H r d S Ext.refl aZ h2 q⟩
 .exact q.elim
theorem dv (i:Nat)(hN:X.N[i]?=some x:=by rfl)(hv:Vis X.env.scope x:=by first|exact Or.inl rfl|exact Or.inr (Or.inl rfl)|exact Or.inr (Or.inr rfl))(hd:(x==("__debug__":Str))=false:=by decide)(hcd:(x==("__classdict__":Str))=false:=by decide):PD X Z (.Name x pos) (Xh i):=ze4 (E0 hN hv hd hcd)
theorem P8 (h:PE X e (tC v))(q:∀r H,Rp r H d v):PD X Z e (dC d):=Z5 h λσ H Qv ⟨r,dl,S,Q,rs,aZ,h,ret⟩=>ret v H r d S Ext.refl aZ (q r H) h
theorem Zd {i j pos}:PD X Z (.Constant (.int i) j pos) (dC (.int i)):=P8 zdN λ_ _=>.int i
theorem GQ {b j pos}:PD X Z (.Constant (.bool b) j pos) (dC (.bl b)):=P8 pe_bl λ_ _=>.bl b
theorem ZR {j pos}:PD X Z (.Constant .none j pos) (dC .non):=P8 zjl λ_ _=>.non
theorem ZP {x j pos}:PD X Z (.Constant (.str x) j pos) (dC (.str x)):=P8 zi4 λ_ _=>.str x
abbrev W2:=D->D->Sto->DK->Prop
abbrev W1:=D->Sto->DK->Prop
def upO (K:Fg)(Z:Zx)(w:W2):R2:=λx y H Qv=>∃r S dx dy Q,Rel K Z r S H/\Rp r H dx x/\Rp r H dy y/\w dx dy S Q/\Ret K Z r H Q Qv
def upU (K:Fg)(Z:Zx)(w:W1):V->Hp->VK->Prop:=λx H Qv=>∃r S dx Q,Rel K Z r S H/\Rp r H dx x/\w dx S Q/\Ret K Z r H Q Qv
def dOp (w:W2)(ta tb:TDE):TDE:=λdl S Q=>ta dl S λx S1=>tb dl S1 λy S2=>w x y S2 Q
def dUn (w:W1)(ta:TDE):TDE:=λdl S Q=>ta dl S λx S1=>w x S1 Q
variable {a b c:Expr}{ta tb tc:TDE}{pos:Pos}
theorem MK (h:up X.K Z (dOp w ta tb) σ H Qv):tOp (upO X.K Z w) (up X.K Z ta) (up X.K Z tb) σ H Qv:=by
 obtain⟨r,dl,S,Q,rs,aZ,h,ret⟩:=h;exact⟨r,dl,S,_,rs,aZ,h,λv H1 r1 dx S1 e1 aB p1 h1=>⟨r1,dl,S1,_,rs.ext e1,aB,h1,λv2 H2 r2 dy S2 e2 aC p2 h2=>⟨r2,S2,dx,dy,Q,aC,p1.ext e2,p2,h2,ret.ext (e1.trans e2)⟩⟩⟩
theorem Zf (ho:OpR X (binaryOp op) (upO X.K Z w))(ha:PD X Z a ta)(hb:PD X Z b tb):PD X Z (.BinOp a op b pos) (dOp w ta tb):=Z5 (pe_op ho ha hb) λ_ _ _ h=>MK h
theorem Wf (ho:UnR X (unaryOp op) (upU X.K Z w))(ha:PD X Z a ta):PD X Z (.UnaryOp op a pos) (dUn w ta):=Z5 (pe_un ho ha) λσ H Qv ⟨r,dl,S,Q,rs,aZ,h,ret⟩=>
 ⟨r,dl,S,_,rs,aZ,h,λv H1 r1 dx S1 e1 aB p1 h1=>⟨r1,S1,dx,Q,aB,p1,h1,ret.ext e1⟩⟩
theorem Xz (ho:OpR X (compareOp op) (upO X.K Z w))(ha:PD X Z a ta)(hb:PD X Z b tb)(hm:behindInMarks op b=false):PD X Z (.Compare a [op] [b] pos) (dOp w ta tb):=Z5 (zaW ho ha hb hm) λ_ _ _ h=>MK h
theorem UQ {f:Value->Value->Sem Value}{r r':R2}(h:OpR X f r)(g:∀x y H Q,r' x y H Q->r x y H Q):OpR X f r':=λpins s σ H x y v u Q I rx ry q=>h pins s σ H x y v u Q I rx ry (g x y H Q q)
theorem zjE {f:Value->Sem Value}{r r':V->Hp->VK->Prop}(h:UnR X f r)(g:∀x H Q,r' x H Q->r x H Q):UnR X f r':=λpins s σ H x v Q I rx q=>h pins s σ H x v Q I rx (g x H Q q)
theorem Ky {f:Value}{r r':List V->Hp->VK->Prop}(h:Ym X f r)(g:∀x H Q,r' x H Q->r x H Q):Ym X f r':=λpins s σ H xs us Q I rx q=>h pins s σ H xs us Q I rx (g xs H Q q)
def wI (C:Int->Int->Prop)(g:Int->Int->D):W2:=λx y S Q=>match x,y with
 | .int i,.int j=>C i j/\Q (g i j) S
 | _,_=>False
def wI0 (g:Int->Int->D):W2:=λx y S Q=>match x,y with
 | .int i,.int j=>Q (g i j) S
 | _,_=>False
theorem opD (h:OpR X f (rI C g))(hg:∀r H i j,Rp r H (g' i j) (g i j)):OpR X f (upO X.K Z (wI C g')):=
 UQ h λx y H Qv ⟨r,S,dx,dy,Q,aZ,px,py,q,ret⟩=>by
  cases px<;>cases py<;>first
   | exact⟨_,_,rfl,rfl,q.1,ret _ _ _ _ _ Ext.refl aZ (hg _ _ _ _) q.2⟩
   | exact(show False from q).elim
theorem To (h:OpR X f (rI0 g))(hg:∀r H i j,Rp r H (g' i j) (g i j)):OpR X f (upO X.K Z (wI0 g')):=
 UQ h λx y H Qv ⟨r,S,dx,dy,Q,aZ,px,py,q,ret⟩=>by
  cases px<;>cases py<;>first
   | exact⟨_,_,rfl,rfl,ret _ _ _ _ _ Ext.refl aZ (hg _ _ _ _) q⟩
   | exact(show False from q).elim
abbrev wAdd:W2:=wI0 λi j=>.int (i+j)
abbrev wSub:W2:=wI0 λi j=>.int (i-j)
abbrev wMul:W2:=wI IntMulOk λi j=>.int (i*j)
def CFd (_ j:Int):Prop:=0<j/\j.natAbs.log2<9000
abbrev wFdiv:W2:=wI CFd λi j=>.int (i/j)
def CFn (_ j:Int):Prop:=j≠0/\j.natAbs.log2<9000
abbrev zaw:W2:=wI CFn λi j=>.int (i.fdiv j)
abbrev wMod:W2:=wI (λ_ j=>0<j) λi j=>.int (i%j)
abbrev wPow:W2:=wI Ml λi j=>.int (i^j.toNat)
theorem ZX:OpR X (binaryOp .Add) (upO X.K Z wAdd):=To zhf λ_ _ _ _=>.int _
theorem Yp:OpR X (binaryOp .Sub) (upO X.K Z wSub):=To zfG λ_ _ _ _=>.int _
theorem ZF:OpR X (binaryOp .Mult) (upO X.K Z wMul):=opD (opI λ_ _ _ _ _ _ _ hc q=>mul_int q hc) λ_ _ _ _=>.int _
theorem YB:OpR X (binaryOp .FloorDiv) (upO X.K Z wFdiv):=opD (opI λi j _ _ _ _ _ hc q=>floordiv_int (by have h:0<j:=hc.1;omega) (by have h:0<j:=hc.1;rw[vA i (by omega)];exact q) (.inl (PyProof.noPylong_of_log2 hc.2))) λ_ _ _ _=>.int _
theorem JH:OpR X (binaryOp .FloorDiv) (upO X.K Z zaw):=opD (opI λ_ _ _ _ _ _ _ hc q=>floordiv_int hc.1 q (.inl (PyProof.noPylong_of_log2 hc.2))) λ_ _ _ _=>.int _
theorem YW:OpR X (binaryOp .Mod) (upO X.K Z wMod):=opD zgO λ_ _ _ _=>.int _
theorem zeG:OpR X (binaryOp .Pow) (upO X.K Z wPow):=opD zeX λ_ _ _ _=>.int _
abbrev wLt:W2:=wI0 λi j=>.bl (decide (i<j))
abbrev wLe:W2:=wI0 λi j=>.bl (decide (i<=j))
abbrev wGt:W2:=wI0 λi j=>.bl (decide (j<i))
abbrev wGe:W2:=wI0 λi j=>.bl (decide (j<=i))
theorem YS:OpR X (compareOp .Lt) (upO X.K Z wLt):=To op_lt λ_ _ _ _=>.bl _
theorem Wy:OpR X (compareOp .LtE) (upO X.K Z wLe):=To op_le λ_ _ _ _=>.bl _
theorem WB:OpR X (compareOp .Gt) (upO X.K Z wGt):=To op_gt λ_ _ _ _=>.bl _
theorem Ly:OpR X (compareOp .GtE) (upO X.K Z wGe):=To op_ge λ_ _ _ _=>.bl _
def wNeg:W1:=λx S Q=>match x with
 | .int i=>Q (.int (-i)) S
 | _=>False
theorem Wb:UnR X (unaryOp .USub) (upU X.K Z wNeg):=zjE zba λx H Qv ⟨r,S,dx,Q,aZ,px,q,ret⟩=>by
 cases px<;>first
  | exact⟨_,rfl,ret _ _ _ _ _ Ext.refl aZ (.int _) q⟩
  | exact(show False from q).elim
end
def eqF:D->D->Option Bool
 | .non,.non=>some true
 | .bl i,.bl j=>some (i==j)
 | .int i,.int j=>some (decide (i=j))
 | .str i,.str j=>some (decide (i=j))
 | .non,.int _=>some false|.int _,.non=>some false|.non,.bl _=>some false|.bl _,.non=>some false|.non,.str _=>some false|.str _,.non=>some false
 | .int _,.str _=>some false|.str _,.int _=>some false|.bl _,.str _=>some false|.str _,.bl _=>some false
 | _,_=>none
def eqL (f:D->D->Option Bool):List D->List D->Option Bool
 | [],[]=>some true
 | x::xs,y::ys=>match f x y,eqL f xs ys with
  | some b,some c=>some (b&&c)
  | _,_=>none
 | _,_=>some false
def eqT (f:D->D->Option Bool):D->D->Option Bool
 | .tup xs,.tup ys=>eqL f xs ys
 | x,y=>eqF x y
abbrev eq1:D->D->Option Bool:=eqT eqF
abbrev eq2:D->D->Option Bool:=eqT eq1
def VN (n:Nat)(f:D->D->Option Bool):Prop:=∀(X:Cx)(pins:LA)(σ:St)(H:Hp)(s:Shared)(r:List Addr)(A:Around)(dx dy:D)(x y:V)(u v:Value)(b:Bool),
 Inv X pins σ H s->A.units+n<cLine->Rp r H dx x->Rp r H dy y->Zv x u->Zv y v->f dx dy=some b->SeqAt.EqAt A s u v b
def Tj (f:D->D->Option Bool):Prop:=∀(r:List Addr)(H:Hp)(dx dy:D)(x:V)(b:Bool),Rp r H dx x->Rp r H dy x->f dx dy=some b->b=true
theorem Ta:Tj eqF:=by
 intro r H dx dy x b px py e;cases px<;>cases py<;>simp[eqF] at e<;>first|exact e.symm|exact e
theorem Dt {f:D->D->Option Bool}(hf:Tj f){r:List Addr}{H:Hp}:∀ {xs ys:List D} {vs:List V} {b:Bool},Rps r H xs vs->Rps r H ys vs->eqL f xs ys=some b->b=true
 | [],[],_,b,_,_,e=>by simp[eqL] at e;exact e
 | [],y::ys,vs,b,p,q,e=>by
  have h1:=p.unnil;subst h1;exact absurd q.1 (by simp)
 | x::xs,[],vs,b,p,q,e=>by
  have h1:=q.unnil;subst h1;exact absurd p.1 (by simp)
 | x::xs,y::ys,vs,b,p,q,e=>by
  obtain⟨v,vs',rfl,p1,p2⟩:=p.uncons;obtain⟨q1,q2⟩:=q.tail;unfold eqL at e;split at e
  .rename_i b1 c1 e1 e2;have h1:=hf r H x y v b1 p1 q1 e1
   have h2:=Dt hf p2 q2 e2;subst h1;subst h2
   simp at e;exact e
  .cases e
theorem EX (hf:Tj f):Tj (eqT f):=by
 intro r H dx dy x b px py e;cases px with
 | tup e1 l1 f1=>
  cases py with
  | tup e2 l2 f2=>
   rw[e1] at e2;cases e2
   exact Dt hf ⟨l1,f1⟩ ⟨l2,f2⟩ e
  | ref h=>simp[eqT,eqF] at e
  | exc h=>simp[eqT,eqF] at e
 | non=>exact Ta r H _ _ _ b .non py (by cases py<;>exact e)
 | bl i=>exact Ta r H _ _ _ b (.bl i) py (by cases py<;>exact e)
 | int i=>exact Ta r H _ _ _ b (.int i) py (by cases py<;>exact e)
 | str i=>exact Ta r H _ _ _ b (.str i) py (by cases py<;>exact e)
 | ref h=>cases py<;>simp[eqT,eqF] at e
 | exc h=>cases py<;>simp[eqT,eqF] at e
theorem OA (n:Nat):VN n eqF:=by
 intro X pins σ H s r A dx dy x y u v b I hu px py rx ry e;have aY:∀ {x y:V},Zv x u->Zv y v->Mq x=true->Mq y=true->eqV x y=b->SeqAt.EqAt A s u v b:=λrx ry fx fy e'=>by
  subst e';exact zeg rx ry fx fy
 cases px<;>cases py<;>simp[eqF] at e<;>refine aY rx ry rfl rfl ?_<;>simp[eqV,e]<;>first|exact e|(subst e;simp)|skip
theorem U9 (I:Inv X pins σ H s)(h:H a=some (.tup xs)):∃aX:List Value,Zw xs aX/\IsTup s.heap a aX.toArray/\xs.length<=sizeLine:=I.tuple (SqT.of h)
def Wz (f:D->D->Option Bool)(xs ys:List D)(j:Nat):Bool:=match xs[j]?,ys[j]? with
 | some x,some y=>(f x y).getD false
 | _,_=>false
theorem FY:∀ {xs ys:List D} {b:Bool},eqL f xs ys=some b->(∀(j:Nat)(x y:D),xs[j]?=some x->ys[j]?=some y->∃c,f x y=some c)/\((List.range (min xs.length ys.length)).all (Wz f xs ys)&&xs.length==ys.length)=b
 | [],[],b,e=>by simp[eqL] at e;subst e;simp
 | [],y::ys,b,e=>by simp[eqL] at e;subst e;simp
 | x::xs,[],b,e=>by simp[eqL] at e;subst e;simp
 | x::xs,y::ys,b,e=>by
  unfold eqL at e;split at e
  .rename_i b1 c1 e1 e2;obtain⟨h1,h2⟩:=FY e2;refine⟨λj p q hp hq=>?_,?_⟩
   .cases j with
    | zero=>simp at hp hq;subst hp;subst hq;exact⟨b1,e1⟩
    | succ j=>exact h1 j p q (by simpa using hp) (by simpa using hq)
   .have z:min (x::xs).length (y::ys).length=min xs.length ys.length+1:=by simp[Nat.succ_min_succ]
    rw[z,List.range_succ_eq_map,List.all_cons,List.all_map];have e0:Wz f (x::xs) (y::ys) 0=b1:=by simp[Wz,e1]
    have es:(Wz f (x::xs) (y::ys) ∘ Nat.succ)=Wz f xs ys:=by funext j;simp[Wz]
    rw[e0,es];have e3:((x::xs).length==(y::ys).length)=(xs.length==ys.length):=by simp
    rw[e3,Bool.and_assoc,h2];simp at e;exact e
  .cases e
theorem IC {n:Nat}{f:D->D->Option Bool}(hf:VN n f){X:Cx}{pins:LA}{σ:St}{H:Hp}{s:Shared}{r:List Addr}{A:Around}{xs ys:List D}{us vs:List V}{is js:List Value}{b:Bool}
  (I:Inv X pins σ H s)(hu:A.units+n<cLine)(p:Rps r H xs us)(q:Rps r H ys vs)(ri:Zw us is)(rj:Zw vs js)(e:eqL f xs ys=some b):
  (∀j (h1:j<is.toArray.size) (h2:j<js.toArray.size),SeqAt.EqAt A s is.toArray[j] js.toArray[j] (Wz f xs ys j))/\((List.range (min is.toArray.size js.toArray.size)).all (Wz f xs ys)&&is.toArray.size==js.toArray.size)=b:=by
 obtain⟨h1,h2⟩:=FY e;have l1:is.toArray.size=xs.length:=by rw[zH,<- ri.length,p.1]
 have l2:js.toArray.size=ys.length:=by rw[zH,<- rj.length,q.1]
 refine⟨λj hj1 hj2=>?_,by rw[l1,l2];exact h2⟩;have k1:j<xs.length:=by omega
 have k2:j<ys.length:=by omega
 have g1:xs[j]?=some xs[j]:=by simp[k1]
 have g2:ys[j]?=some ys[j]:=by simp[k2]
 obtain⟨x,gx,px⟩:=p.get g1;obtain⟨y,gy,py⟩:=q.get g2;obtain⟨u,gu,ru⟩:=ri.get gx;obtain⟨v,gv,rv⟩:=rj.get gy;obtain⟨c,hc⟩:=h1 j _ _ g1 g2;have eu:is.toArray[j]=u:=by
  have z:=zA.mp gu;simpa using z.2
 have ev:js.toArray[j]=v:=by
  have z:=zA.mp gv;simpa using z.2
 have ec:Wz f xs ys j=c:=by simp[Wz,g1,g2,hc]
 rw[eu,ev,ec];exact hf X pins σ H s r A _ _ x y u v c I hu px py ru rv hc
theorem Bu (hf:VN n f)(hs:Tj f):VN (n+1) (eqT f):=by
 intro X pins σ H s r A dx dy x y u v b I hu px py rx ry e;have flat:∀ {dx dy:D} {x y:V},Rp r H dx x->Rp r H dy y->Zv x u->Zv y v->eqF dx dy=some b->SeqAt.EqAt A s u v b:=λpx py rx ry e=>OA (n+1) X pins σ H s r A _ _ _ _ u v b I hu px py rx ry e
 cases px with
 | @tup ds xs a e1 l1 f1=>
  cases py with
  | @tup es ys a' e2 l2 f2=>
   cases rx;cases ry;by_cases z:a=a'
   .subst z;have hb:=EX hs r H _ _ _ b (.tup e1 l1 f1) (.tup e2 l2 f2) e;subst hb;exact SeqAt.EqAt.same _
   .obtain⟨is,ri,ti,_⟩:=U9 I e1;obtain⟨js,rj,tj,_⟩:=U9 I e2;obtain⟨g1,g2⟩:=IC (A:=A.in1) hf I (by show A.units+1+n<_;omega) ⟨l1,f1⟩ ⟨l2,f2⟩ ri rj e;have q:=SeqAt.RcAt.tuples (A:=A) ti tj (by omega) g1;rw[g2] at q;exact SeqAt.EqAt.of_refs z q
  | ref h=>simp[eqT,eqF] at e
  | _=>simp[eqT,eqF] at e
 | non=>exact flat .non py rx ry (by cases py<;>exact e)
 | bl i=>exact flat (.bl i) py rx ry (by cases py<;>exact e)
 | int i=>exact flat (.int i) py rx ry (by cases py<;>exact e)
 | str i=>exact flat (.str i) py rx ry (by cases py<;>exact e)
 | ref h=>cases py<;>simp[eqT,eqF] at e
 | exc h=>cases py<;>simp[eqT,eqF] at e
theorem CA (n:Nat):VN (n+1) eq1:=Bu (OA n) Ta
def wEq (f:D->D->Option Bool):W2:=λx y S Q=>match f x y with
 | some b=>Q (.bl b) S
 | none=>False
def wNe (f:D->D->Option Bool):W2:=λx y S Q=>match f x y with
 | some b=>Q (.bl (!b)) S
 | none=>False
theorem F7 {r:List Addr}{H:Hp}{dx dy:D}{x y:V}{b:Bool}(px:Rp r H dx x)(py:Rp r H dy y)(e:eqF dx dy=some b):OY x y=true/\decide (x=y)=b:=by
 cases px<;>cases py<;>simp[eqF] at e<;>simp[OY]<;>first|exact e|(subst e;simp)|skip
theorem zhl (hf:VN n f)(hu:X.A.units+1+n<cLine):OpR X (compareOp .Eq) (upO X.K Z (wEq (eqT f))):=by
 intro pins s σ H x y v u Qv I rx ry h;obtain⟨r,S,dx,dy,Q,aZ,px,py,q,ret⟩:=h;unfold wEq at q;split at q
 .rename_i b e;have flat:∀ {dx dy:D} {x y:V},Rp r H dx x->Rp r H dy y->Zv x v->Zv y u->eqF dx dy=some b->wpAny (mX X) X.A (compareOp .Eq v u) (EP X pins σ Qv) X.xe s:=λpx py rx ry e=>by
   obtain⟨h1,h2⟩:=F7 px py e;refine KN pins s σ H _ _ v u Qv I rx ry ⟨h1,?_⟩;rw[h2];exact ret _ _ _ _ _ Ext.refl aZ (.bl b) q
  cases px with
  | @tup ds xs a e1 l1 f1=>
   cases py with
   | @tup es ys a' e2 l2 f2=>
    cases rx;cases ry;obtain⟨is,ri,ti,_⟩:=U9 I e1;obtain⟨js,rj,tj,_⟩:=U9 I e2;obtain⟨g1,g2⟩:=IC (A:=X.A.in1) hf I (by show X.A.units+1+n<_;omega) ⟨l1,f1⟩ ⟨l2,f2⟩ ri rj e;refine SeqAt.eq_tupleAt (A:=X.A) ti tj (by omega) g1 ?_;rw[g2];exact⟨.bl b,H,I,rfl,ret _ _ _ _ _ Ext.refl aZ (.bl b) q⟩
   | _=>simp[eqT,eqF] at e
  | non=>exact flat .non py rx ry (by cases py<;>exact e)
  | bl i=>exact flat (.bl i) py rx ry (by cases py<;>exact e)
  | int i=>exact flat (.int i) py rx ry (by cases py<;>exact e)
  | str i=>exact flat (.str i) py rx ry (by cases py<;>exact e)
  | ref h=>cases py<;>simp[eqT,eqF] at e
  | exc h=>cases py<;>simp[eqT,eqF] at e
 .exact q.elim
theorem zdP (hf:VN n f)(hu:X.A.units+1+n<cLine):OpR X (compareOp .NotEq) (upO X.K Z (wNe (eqT f))):=by
 intro pins s σ H x y v u Qv I rx ry h;obtain⟨r,S,dx,dy,Q,aZ,px,py,q,ret⟩:=h;unfold wNe at q;split at q
 .rename_i b e;have flat:∀ {dx dy:D} {x y:V},Rp r H dx x->Rp r H dy y->Zv x v->Zv y u->eqF dx dy=some b->wpAny (mX X) X.A (compareOp .NotEq v u) (EP X pins σ Qv) X.xe s:=λpx py rx ry e=>by
   obtain⟨h1,h2⟩:=F7 px py e;refine op_ne pins s σ H _ _ v u Qv I rx ry ⟨h1,?_⟩;rw[h2];exact ret _ _ _ _ _ Ext.refl aZ (.bl (!b)) q
  cases px with
  | @tup ds xs a e1 l1 f1=>
   cases py with
   | @tup es ys a' e2 l2 f2=>
    cases rx;cases ry;obtain⟨is,ri,ti,_⟩:=U9 I e1;obtain⟨js,rj,tj,_⟩:=U9 I e2;obtain⟨g1,g2⟩:=IC (A:=X.A.in1) hf I (by show X.A.units+1+n<_;omega) ⟨l1,f1⟩ ⟨l2,f2⟩ ri rj e;refine SeqAt.RcNeAt.tuples (A:=X.A) ti tj (by omega) g1 X.prog X.w _ _ ?_;rw[g2];exact⟨.bl (!b),H,I,rfl,ret _ _ _ _ _ Ext.refl aZ (.bl (!b)) q⟩
   | _=>simp[eqT,eqF] at e
  | non=>exact flat .non py rx ry (by cases py<;>exact e)
  | bl i=>exact flat (.bl i) py rx ry (by cases py<;>exact e)
  | int i=>exact flat (.int i) py rx ry (by cases py<;>exact e)
  | str i=>exact flat (.str i) py rx ry (by cases py<;>exact e)
  | ref h=>cases py<;>simp[eqT,eqF] at e
  | exc h=>cases py<;>simp[eqT,eqF] at e
 .exact q.elim
theorem ZI (hr:ZH k X.A):OpR X (compareOp .Eq) (upO X.K Z (wEq eq2)):=zhl (CA 0) (by have:=hr.un;omega)
theorem Kd (hr:ZH k X.A):OpR X (compareOp .NotEq) (upO X.K Z (wNe eq2)):=zdP (CA 0) (by have:=hr.un;omega)
section
variable {X:Cx}{Z:Zx}{a b c:Expr}{ta tb tc:TDE}{pos:Pos}{Yk:List Expr}
def IM (t:TDE):TDT:=λdl S Q=>t dl S λd S'=>match d with
 | .bl k=>Q k S'
 | _=>False
theorem Ki {K:Fg}{Z:Zx}{r:List Addr}{H:Hp}{Q:Bool->Sto->Prop}{Qb:Bool->Hp->Prop}(h:∀b H' r' S',Ext r r' H H'->Rel K Z r' S' H'->Q b S'->Qb b H'):
  Ret K Z r H (λd S'=>match d with|.bl k=>Q k S'|_=>False) (λx H'=>∃k,x=.bl k/\Qb k H'):=λv H' r' d S' e aZ p q=>by
 cases p with
 | bl k=>exact⟨k,rfl,h k H' r' S' e aZ q⟩
 | _=>exact(show False from q).elim
theorem Zs {op:CmpOp}{w:W2}(ho:OpR X (compareOp op) (upO X.K Z w))(ha:PD X Z a ta)(hb:PD X Z b tb)(hm:behindInMarks op b=false):PDT X Z (.Compare a [op] [b] pos) (IM (dOp w ta tb)):=
 R8 (AI ho ha hb hm) λσ H Qb ⟨r,dl,S,Q,rs,aZ,h,ret⟩=>MK ⟨r,dl,S,_,rs,aZ,h,Ki ret⟩
theorem Y4 {e:Expr}{t:TDE}(h:PD X Z e t)(he:∀aO,isTrue e X.env aO=(do let v <- aO;standAt e.pos;holding [v] (truthy v)):=by intro _;rfl):PDT X Z e (IM t):=
 R8 (zcm h he) λσ H Qb ⟨r,dl,S,Q,rs,aZ,h,ret⟩=>⟨r,dl,S,_,rs,aZ,h,Ki ret⟩
def dNot (t:TDT):TDT:=λdl S Q=>t dl S λk S'=>Q (!k) S'
theorem Vz (ha:PDT X Z a t):PDT X Z (.UnaryOp .Not a pos) (dNot t):=
 R8 (zb1 ha) λσ H Qb ⟨r,dl,S,Q,rs,aZ,h,ret⟩=>⟨r,dl,S,_,rs,aZ,h,λk H' r' S' e rel' q=>ret (!k) H' r' S' e rel' q⟩
def dAnd (t u:TDT):TDT:=λdl S Q=>t dl S λk S1=>if k=true then u dl S1 Q else Q false S1
def dOr (t u:TDT):TDT:=λdl S Q=>t dl S λk S1=>if k=true then Q true S1 else u dl S1 Q
theorem Qx (ha:PDT X Z a t):PDW X Z (.BoolOp .And [a] pos) t:=zhn ha
theorem SS (ha:PDT X Z a t):PDW X Z (.BoolOp .Or [a] pos) t:=zea ha
theorem Rx (ha:PDT X Z a t)(hb:PDW X Z (.BoolOp .And (b::Yk) pos) u):PDW X Z (.BoolOp .And (a::b::Yk) pos) (dAnd t u):=
 BJ (zcZ ha hb) λσ H Qb ⟨r,dl,S,Q,rs,aZ,h,ret⟩=>⟨r,dl,S,_,rs,aZ,h,λk H1 r1 S1 e1 aB q1=>by
  cases k with
  | true=>exact YO ⟨r1,dl,S1,Q,rs.ext e1,aB,(by simpa using q1),λk' H2 r2 S2 e2=>ret k' H2 r2 S2 (e1.trans e2)⟩
  | false=>exact YF (ret false H1 r1 S1 e1 aB (by simpa using q1))⟩
theorem WR (ha:PDT X Z a t)(hb:PDW X Z (.BoolOp .Or (b::Yk) pos) u):PDW X Z (.BoolOp .Or (a::b::Yk) pos) (dOr t u):=
 BJ (pw_or ha hb) λσ H Qb ⟨r,dl,S,Q,rs,aZ,h,ret⟩=>⟨r,dl,S,_,rs,aZ,h,λk H1 r1 S1 e1 aB q1=>by
  cases k with
  | true=>exact YO (ret true H1 r1 S1 e1 aB (by simpa using q1))
  | false=>exact YF ⟨r1,dl,S1,Q,rs.ext e1,aB,(by simpa using q1),λk' H2 r2 S2 e2=>ret k' H2 r2 S2 (e1.trans e2)⟩⟩
def dAndV (ta tb:TDE):TDE:=λdl S Q=>ta dl S λx S1=>match x with
 | .bl k=>if k=true then tb dl S1 Q else Q (.bl false) S1
 | _=>False
def dOrV (ta tb:TDE):TDE:=λdl S Q=>ta dl S λx S1=>match x with
 | .bl k=>if k=true then Q (.bl true) S1 else tb dl S1 Q
 | _=>False
def dNotV (ta:TDE):TDE:=λdl S Q=>ta dl S λx S1=>match x with
 | .bl k=>Q (.bl (!k)) S1
 | _=>False
theorem Ti {op}(h:PD X Z a t):PD X Z (.BoolOp op [a] pos) t:=zf4 h
theorem Qq (ha:PD X Z a ta)(hb:PD X Z (.BoolOp .And (b::Yk) pos) tb):PD X Z (.BoolOp .And (a::b::Yk) pos) (dAndV ta tb):=
 Z5 (zaY ha hb) λσ H Qv ⟨r,dl,S,Q,rs,aZ,h,ret⟩=>⟨r,dl,S,_,rs,aZ,h,λv H1 r1 d S1 e1 aB p q1=>by
  cases p with
  | bl k=>
   refine⟨k,rfl,?_⟩;cases k with
   | true=>exact YO ⟨r1,dl,S1,Q,rs.ext e1,aB,(by simpa using q1),ret.ext e1⟩
   | false=>exact YF (ret _ H1 r1 (.bl false) S1 e1 aB (.bl false) (by simpa using q1))
  | _=>exact(show False from q1).elim⟩
theorem pd_or (ha:PD X Z a ta)(hb:PD X Z (.BoolOp .Or (b::Yk) pos) tb):PD X Z (.BoolOp .Or (a::b::Yk) pos) (dOrV ta tb):=
 Z5 (pe_or ha hb) λσ H Qv ⟨r,dl,S,Q,rs,aZ,h,ret⟩=>⟨r,dl,S,_,rs,aZ,h,λv H1 r1 d S1 e1 aB p q1=>by
  cases p with
  | bl k=>
   refine⟨k,rfl,?_⟩;cases k with
   | true=>exact YO (ret _ H1 r1 (.bl true) S1 e1 aB (.bl true) (by simpa using q1))
   | false=>exact YF ⟨r1,dl,S1,Q,rs.ext e1,aB,(by simpa using q1),ret.ext e1⟩
  | _=>exact(show False from q1).elim⟩
theorem DH (ha:PD X Z a ta):PD X Z (.UnaryOp .Not a pos) (dNotV ta):=
 Z5 (zdW ha) λσ H Qv ⟨r,dl,S,Q,rs,aZ,h,ret⟩=>⟨r,dl,S,_,rs,aZ,h,λv H1 r1 d S1 e1 aB p q1=>by
  cases p with
  | bl k=>exact⟨k,rfl,ret _ H1 r1 (.bl (!k)) S1 e1 aB (.bl (!k)) q1⟩
  | _=>exact(show False from q1).elim⟩
def dIfE (t:TDT)(ta tb:TDE):TDE:=λdl S Q=>t dl S λk S1=>if k=true then ta dl S1 Q else tb dl S1 Q
theorem X6 (hc:PDT X Z c t)(ha:PD X Z a ta)(hb:PD X Z b tb):PD X Z (.IfExp c a b pos) (dIfE t ta tb):=
 Z5 (zit hc ha hb) λσ H Qv ⟨r,dl,S,Q,rs,aZ,h,ret⟩=>⟨r,dl,S,_,rs,aZ,h,λk H1 r1 S1 e1 aB q1=>by
  cases k with
  | true=>exact YO ⟨r1,dl,S1,Q,rs.ext e1,aB,(by simpa using q1),ret.ext e1⟩
  | false=>exact YF ⟨r1,dl,S1,Q,rs.ext e1,aB,(by simpa using q1),ret.ext e1⟩⟩
def GV (w w':W2)(ta tb tc:TDE):TDE:=λdl S Q=>ta dl S λx S1=>tb dl S1 λy S2=>w x y S2 λz S3=>match z with
 | .bl k=>if k=true then tc dl S3 λu S4=>w' y u S4 Q else Q (.bl false) S3
 | _=>False
theorem DU (h:up X.K Z (GV w w' ta tb tc) σ H Qv):LR (upO X.K Z w) (upO X.K Z w') (up X.K Z ta) (up X.K Z tb) (up X.K Z tc) σ H Qv:=by
 obtain⟨r,dl,S,Q,rs,aZ,h,ret⟩:=h;refine⟨r,dl,S,_,rs,aZ,h,λv H1 r1 dx S1 e1 aB p1 h1=>⟨r1,dl,S1,_,rs.ext e1,aB,h1,λv2 H2 r2 dy S2 e2 aC p2 h2=>⟨r2,S2,dx,dy,_,aC,p1.ext e2,p2,h2,λv3 H3 r3 dz S3 e3 aE p3 h3=>?_⟩⟩⟩;cases p3 with
 | bl k=>
  refine⟨k,rfl,?_⟩;cases k with
  | true=>exact YO ⟨r3,dl,S3,_,rs.ext (e1.trans (e2.trans e3)),aE,(by simpa using h3),λv4 H4 r4 du S4 e4 aF p4 h4=>⟨r4,S4,dy,du,Q,aF,(p2.ext e3).ext e4,p4,h4,ret.ext (e1.trans (e2.trans (e3.trans e4)))⟩⟩
  | false=>exact YF (ret _ H3 r3 (.bl false) S3 (e1.trans (e2.trans e3)) aE (.bl false) (by simpa using h3))
 | _=>exact(show False from h3).elim
theorem FD (ho:OpR X (compareOp op) (upO X.K Z w))(ho':OpR X (compareOp op') (upO X.K Z w'))(ha:PD X Z a ta)(hb:PD X Z b tb)(hc:PD X Z c tc)(hm:lastMarks [op,op'] [b,c]=false:=by with_unfolding_all rfl):PD X Z (.Compare a [op,op'] [b,c] pos) (GV w w' ta tb tc):=Z5 (zcD ho ho' ha hb hc hm) λ_ _ _ h=>DU h
theorem Bi {op op':CmpOp}{w w':W2}(ho:OpR X (compareOp op) (upO X.K Z w))(ho':OpR X (compareOp op') (upO X.K Z w'))(ha:PD X Z a ta)(hb:PD X Z b tb)(hc:PD X Z c tc)
  (hm:lastMarks [op,op'] [b,c]=false:=by with_unfolding_all rfl):PDT X Z (.Compare a [op,op'] [b,c] pos) (IM (GV w w' ta tb tc)):=
 R8 (zgX ho ho' ha hb hc hm) λσ H Qb ⟨r,dl,S,Q,rs,aZ,h,ret⟩=>DU ⟨r,dl,S,_,rs,aZ,h,Ki ret⟩
def PV:D->Bool
 | .non=>true
 | _=>false
def wIsN:W2:=λx y S Q=>match y with
 | .non=>Q (.bl (PV x)) S
 | _=>False
def wNotN:W2:=λx y S Q=>match y with
 | .non=>Q (.bl (!PV x)) S
 | _=>False
theorem E8 {r:List Addr}{H:Hp}{d:D}{x:V}(p:Rp r H d x):decide (x=.non)=PV d:=by
 cases p<;>simp[PV]
theorem YY:OpR X (compareOp .Is) (upO X.K Z wIsN):=UQ AW λx y H Qv ⟨r,S,dx,dy,Q,aZ,px,py,q,ret⟩=>by
 cases py with
 | non=>exact⟨rfl,by rw[E8 px];exact ret _ _ _ _ _ Ext.refl aZ (.bl _) q⟩
 | _=>exact(show False from q).elim
theorem GK:OpR X (compareOp .IsNot) (upO X.K Z wNotN):=UQ AQ λx y H Qv ⟨r,S,dx,dy,Q,aZ,px,py,q,ret⟩=>by
 cases py with
 | non=>exact⟨rfl,by rw[E8 px];exact ret _ _ _ _ _ Ext.refl aZ (.bl _) q⟩
 | _=>exact(show False from q).elim
variable {e:Expr}{es:List Expr}
def Rt:TDA:=λ_ S Q=>Q [] S
def QM (ta:TDE)(tr:TDA):TDA:=λdl S Q=>ta dl S λx S1=>tr dl S1 λxs S2=>Q (x::xs) S2
theorem Zg:PDA X Z [] Rt:=E1 G5 λσ H Qv ⟨r,dl,S,Q,rs,aZ,h,ret⟩=>ret [] H r [] S Ext.refl aZ Rps.nil h
theorem Za (ha:PD X Z e te)(hr:PDA X Z es t)(hs:starEach (e::es) X.env=(false,eval e X.env)::starEach es X.env:=by rfl):PDA X Z (e::es) (QM te t):=
 E1 (P9 ha hr hs) λσ H Qv ⟨r,dl,S,Q,rs,aZ,h,ret⟩=>⟨r,dl,S,_,rs,aZ,h,λv H1 r1 d S1 e1 aB p1 h1=>⟨r1,dl,S1,_,rs.ext e1,aB,h1,λvs H2 r2 ds S2 e2 aC p2 h2=>
  ret (v::vs) H2 r2 (d::ds) S2 (e1.trans e2) aC (Rps.cons (p1.ext e2) p2) h2⟩⟩
def dTup (t:TDA):TDE:=λdl S Q=>t dl S λds S1=>if ds.length<=1000 then Q (.tup ds) S1 else False
def dLst (t:TDA):TDE:=λdl S Q=>t dl S λds S1=>if ds.length<=1000 then Q (.ref S1.length) (S1++[.lst ds]) else False
theorem PU [Decidable p] (h:if p then A else False):p/\A:=by
 split at h
 .exact⟨by assumption,h⟩
 .exact h.elim
theorem Sq (h:n<=1000):n<=sizeLine:=yL (Q6 h)
theorem Zu {x1}(h:PDA X Z es t):PD X Z (.Tuple es x1 pos) (dTup t):=
 Z5 (za0 h) λσ H Qv ⟨r,dl,S,Q,rs,aZ,h,ret⟩=>⟨r,dl,S,_,rs,aZ,h,λvs H1 r1 ds S1 e1 aB p1 h1=>by
  obtain⟨hl,h1⟩:=PU h1;refine⟨by rw[<- p1.1];exact Sq hl,λp hp=>?_⟩;have x:Ext r1 r1 H1 (upd H1 p (.tup vs)):=⟨λ_ _ q=>q,λa xs q=>Wr hp _ _ q,λa c q=>Wr hp _ _ q⟩;exact ret _ _ r1 (.tup ds) S1 (e1.trans x) (aB.same (Wr hp)) ((p1.ext x).tupR YG) h1⟩
theorem UO {r:List Addr}{p:Addr}{H:Hp}{n:Nat}(h:r.length=n):Rp (r++[p]) H (.ref n) (.ref p):=.ref (by subst h;simp)
theorem Yo (h:PDA X Z es t):PD X Z (.List es pos) (dLst t):=
 Z5 (zbl h) λσ H Qv ⟨r,dl,S,Q,rs,aZ,h,ret⟩=>⟨r,dl,S,_,rs,aZ,h,λvs H1 r1 ds S1 e1 aB p1 h1=>by
  obtain⟨hl,h1⟩:=PU h1;refine⟨by rw[<- p1.1];exact Sq hl,λp hp=>?_⟩;obtain⟨aC,x⟩:=aB.push hp p1;exact ret _ _ _ (.ref S1.length) _ (e1.trans x) aC (UO aB.len) h1⟩
def wIx:W2:=λx y S Q=>match x,y with
 | .tup xs,.int i=>match atI xs i with
  | some d=>Q d S
  | none=>False
 | .ref n,.int i=>match lAt S n with
  | some o=>match atI (Zm o) i with
   | some d=>Q d S
   | none=>False
  | none=>False
 | _,_=>False
theorem By {r:List Addr}{H:Hp}{ds:List D}{vs:List V}{i:Int}{d:D}(h:Rps r H ds vs)(e:atI ds i=some d):∃v,atI vs i=some v/\Rp r H d v:=by
  unfold atI at e ⊢;rw[<- h.1];cases q:ixN ds.length i with
  | none=>
   rw[q] at e;cases e
  | some j=>
    rw[q] at e;exact h.get e
theorem do_ix:IxR X (upO X.K Z wIx):=by
 intro value slice pins s σ H x y v u Qv I rx ry h hs;obtain⟨r,S,dx,dy,Q,aZ,px,py,q,ret⟩:=h;cases px with
 | @tup ds xs a e1 l1 f1=>
  cases py with
  | int i=>
   have q':(match atI ds i with|some d=>Q d S|none=>False):=q;split at q'
   .rename_i d e;obtain⟨w,hw,pw⟩:=By ⟨l1,f1⟩ e;exact zdk value slice pins s σ H _ _ v u Qv I rx ry ⟨a,xs,i,w,rfl,rfl,SqT.of e1,hw,ret w H r d S Ext.refl aZ pw q'⟩ hs
   .exact q'.elim
  | _=>exact(show False from q).elim
 | @ref n a e1=>
  cases py with
  | int i=>
   have q':(match lAt S n with|some o=>(match atI (Zm o) i with|some d=>Q d S|none=>False)|none=>False):=q;split at q'
   .rename_i o eo;obtain⟨eo,eL⟩:=Y1 eo;obtain⟨a',ha,ob⟩:=aZ.at eo;rw[e1] at ha;cases ha
    obtain⟨xs,sq,pr⟩:=ob.list eL;split at q'
    .rename_i d e;obtain⟨w,hw,pw⟩:=By pr e;exact zfr value slice pins s σ H _ _ v u Qv I rx ry ⟨a,xs,i,w,rfl,rfl,sq,hw,ret w H r d S Ext.refl aZ pw q'⟩ hs
    .exact q'.elim
   .exact q'.elim
  | _=>exact(show False from q).elim
 | _=>exact(show False from q).elim
theorem Cv (ha:PD X Z a ta)(hb:PD X Z b tb)(hs:SM b):PD X Z (.Subscript a b pos) (dOp wIx ta tb):=Z5 (pe_ix do_ix ha hb hs) λ_ _ _ h=>MK h
theorem Y2 (ha:PD X Z a ta)(hb:PD X Z b tb)(hs:SM b:=by exact λ_ _=>rfl):PD X Z (.Subscript a b pos) (dOp wIx ta tb):=Cv ha hb hs
end
structure Bk (fs:List Addr)(H H':Hp)(B h:Heap)(ea:Addr):Prop where
 trk:∀b u,H' b=some u->∃o,B.get? b=some o
 old:∀b o,h.get? b=some o->H b=none->b ∉ fs->B.get? b=some o
 all:∀b o,h.get? b=some o->b ∉ fs->∃o',B.get? b=some o'
 new:H' ea=none
def CXE (P:Program)(w:World):CXT:=λouter H s E e s'=>∃(ea c:Addr)(a0:Value)(B:Heap)(H':Hp),e=.ref ea/\s'.os=s.os/\AllBare s'.gens/\Un (frs outer) [] H H' s.heap s'.heap/\HOk P w H' s'.heap/\
 Heap.FlyingW B outer ea (.ref c) a0 s'.heap/\Bk (frs outer) H H' B s.heap ea/\E (.ref c) none H'
section
variable {X:Cx}{pins:LA}{σ:St}{H:Hp}{s:Shared}
end
section
variable {P:Program}{w:World}{K:Fg}{mg:Str->Option Value}{base:Heap}{N:List Str}{qual:Str}{scope:Scope}{f:Addr}{cdv:Value}{A:Around}{outer:List Env}{s0:Shared}{H0:Hp}{E:XK}
end
structure Xc (K:Fg)(mg:Str->Option Value)(x:Str)(C:Addr)(bm:List Value)(nid:String):Prop where
 bound:mg x=some (.ref C)
 ex:W.excIn K C bm nid=true
abbrev WC:=List D->Sto->DK->Prop
abbrev Sd:=List D->Sto->DK->(Addr->Sto->Prop)->Prop
def upC (K:Fg)(Z:Zx)(w:WC):List V->Hp->VK->Prop:=λxs H Qv=>∃r S ds Q,Rel K Z r S H/\Rps r H ds xs/\w ds S Q/\Ret K Z r H Q Qv
def upF (K:Fg)(sd:Sd):Sp:=λvs H Qv E=>∃ex:Addr->Sto->Prop,upC K (Zc ex E) (λds S Q=>sd ds S Q ex) vs H Qv
def G9 (w:WC)(t:TDA):TDE:=λdl S Q=>t dl S λds S1=>w ds S1 Q
def JO (ex:Ev->Addr->Sto->Prop)(sd:Sd)(t:TDA):TDE:=λdl S Q=>t dl S λds S1=>sd ds S1 Q (ex dl)
def Wu (X:Cx)(W:St->XK):Prop:=∀(pins:LA)(σ:St)(H:Hp)(s:Shared)(e:Value)(s':Shared),Inv X pins σ H s->CXE X.prog X.w X.stack H s (W σ) e s'->X.xe e s'
theorem Ny (F:Ye X.prog X.w X.K X.mg X.base (CXE X.prog X.w) k f fd ps sp)(hr:ZH k X.A)(hb:YA X.K fd ps [])(hx:Wu X W)(I:Inv X pins σ H s)(r:Zw vs us)(h:sp vs H Q (W σ)):wpAny (mX X) X.A (call (.ref f) us) (EP X pins σ Q) X.xe s:=by
 have hl:us.length=ps.length:=by rw[<- r.length];exact F.len _ _ _ _ h
 have hb':=hb s us I.kIn (by rw[xD];exact hl);rw[xD] at hb';refine wpAny_call (codeAny_mono (F.run X.A X.stack s H ⟨us,[]⟩ us vs Q (W σ) hr I.env0 hb' r h) λz s' hq=>?_);cases z with
 | error ev=>exact hx pins σ H s ev s' I hq
 | ok fl=>
  cases fl with
  | ret u=>exact I.after hq
  | _=>exact False.elim hq
theorem zi9 (F:Ye X.prog X.w X.K X.mg X.base (CXE X.prog X.w) k f fd ps sp)(hr:ZH k X.A)(hg:Gl X x)(hm:X.mg x=some (.ref f))(hk:PySem.W.keepIn X.K (.ref f)=true)(hb:YA X.K fd ps [])(hx:Wu X W)
  (ha:PA X (e::es) t)(hdb:(x==("__debug__":Str))=false)(he:He X e es)(hpl:Hp1 X pos es):
  PE X (.Call (.Name x p) (e::es) [] pos) (λσ H Q=>t σ H λvs H1=>sp vs H1 Q (W σ)):=by
 intro pins s σ H Q I h;refine wpAny_Call_Name_kw (Dg I hg hm ?_ hdb);exact PySem.W.callWith_K (h₀:=X.base) I.ok.mod.kin hk (thn (ha pos pins s σ H _ I h) λus s1 ⟨vs,H1,I1,r,q⟩=>⟨I1.kIn,Ny F hr hb hx I1 r q⟩) he hpl
section
variable {X:Cx}{Z:Zx}{x:Str}{p pos:Pos}{e:Expr}{es:List Expr}{t:TDA}{id T:String}{w:WC}
theorem DL (h:up X.K Z (G9 w t) σ H Qv):upA X.K Z t σ H λvs H1=>upC X.K Z w vs H1 Qv:=by
 obtain⟨r,dl,S,Q,rs,aZ,h,ret⟩:=h;exact⟨r,dl,S,_,rs,aZ,h,λvs H1 r1 ds S1 e1 aB p1 h1=>⟨r1,S1,ds,Q,aB,p1,h1,ret.ext e1⟩⟩
theorem ZL (hc:Ym X (.builtin id) (upC X.K Z w))(hg:Gl X x)(hm:X.mg x=none)(hv:bootBuiltins x=some (.builtin id))(ha:PDA X Z (e::es) t)(hn:x≠"__name__":=by decide)(hdb:(x==("__debug__":Str))=false:=by decide)
  (he:He X e es:=by rfl)(hpl:Hp1 X pos es:=by rfl):PD X Z (.Call (.Name x p) (e::es) [] pos) (G9 w t):=
 Z5 (Bc hc hg hm hv ha hn hdb he hpl) λ_ _ _ h=>DL h
theorem W3 (hc:Ym X (.type T) (upC X.K Z w))(hg:Gl X x)(hm:X.mg x=none)(hv:bootBuiltins x=some (.type T))(ha:PDA X Z (e::es) t)(hn:x≠"__name__":=by decide)(hdb:(x==("__debug__":Str))=false:=by decide)
  (he:He X e es:=by rfl)(hpl:Hp1 X pos es:=by rfl):PD X Z (.Call (.Name x p) (e::es) [] pos) (G9 w t):=
 Z5 (Ac hc hg hm hv ha hn hdb he hpl) λ_ _ _ h=>DL h
theorem Np {sd:Sd}{r:List Addr}{S:Sto}{H:Hp}{dl:Ev}{σ:St}{ds:List D}{vs:List V}{Q:DK}{Qv:VK}(rs:Rs r H dl σ)(aZ:Rel X.K Z r S H)(p:Rps r H ds vs)(h:sd ds S Q (Z.ex dl))(ret:Ret X.K Z r H Q Qv):upF X.K sd vs H Qv (Z.w σ):=
 ⟨Z.ex dl,r,S,ds,Q,⟨aZ.b,λ_ _ c H' r' S' x _ rb q=>aZ.xw dl σ c H' r' S' x (rs.ext x) rb q⟩,p,h,λv H' r' d S' x rel' pv q=>ret v H' r' d S' x ⟨rel'.b,aZ.xw.ext x⟩ pv q⟩
theorem AY (F:Ye X.prog X.w X.K X.mg X.base (CXE X.prog X.w) k f fd ps (upF X.K sd))(hr:ZH k X.A)(hg:Gl X x)(hm:X.mg x=some (.ref f))(hk:PySem.W.keepIn X.K (.ref f)=true)(hb:YA X.K fd ps [])(hx:Wu X W)(ha:PDA X ⟨ex,W⟩ (e::es) t)(hdb:(x==("__debug__":Str))=false:=by decide)(he:He X e es:=by rfl)(hpl:Hp1 X pos es:=by rfl):PD X ⟨ex,W⟩ (.Call (.Name x p) (e::es) [] pos) (JO ex sd t):=
 Z5 (zi9 F hr hg hm hk hb hx ha hdb he hpl) λσ H Qv ⟨r,dl,S,Q,rs,aZ,h,ret⟩=>⟨r,dl,S,_,rs,aZ,h,λvs H1 r1 ds S1 e1 aB p1 h1=>Np (Z:=⟨ex,W⟩) (rs.ext e1) aB p1 h1 (ret.ext e1)⟩
def wAbs:WC:=λds S Q=>match ds with
 | [.int i]=>Q (.int (if i<0 then -i else i)) S
 | _=>False
theorem Rv:Ym X (.builtin "abs") (upC X.K Z wAbs):=Ky zek λxs H Qv ⟨r,S,ds,Q,aZ,ps,q,ret⟩=>by
 unfold wAbs at q;split at q
 .rename_i i;obtain⟨v,vs,rfl,p1,p2⟩:=ps.uncons;have z:=p2.unnil;subst z;cases p1;exact⟨i,rfl,ret _ _ _ _ _ Ext.refl aZ (.int _) q⟩
 .exact q.elim
def YX:List D->Option (List Int)
 | []=>some []
 | .int i::r=>(YX r).map (i::·)
 | _::_=>none
def T8 (le:Int->Int->Prop)(two:Int->Int->Int):WC:=λds S Q=>match ds with
 | [.int i,.int j]=>Q (.int (two i j)) S
 | [.ref n]=>match lAt S n with
  | some o=>match YX (Zm o) with
   | some xs=>xs≠[]/\∀m,m∈xs->(∀y∈xs,le y m)->Q (.int m) S
   | none=>False
  | none=>False
 | _=>False
abbrev wMax:WC:=T8 (λy m=>y<=m) λi j=>if j > i then j else i
abbrev wMin:WC:=T8 (λy m=>m<=y) λi j=>if j<i then j else i
theorem IA {r:List Addr}{H:Hp}:∀ {ds:List D} {ns:List Int} {vs:List V} {us:List Value},YX ds=some ns->Rps r H ds vs->Zw vs us->∃xs:List (Int×Tok),us.toArray=intItems xs.toArray/\xs.map (·.1)=ns
 | [],ns,vs,us,e,p,q=>by
  have z:=p.unnil;subst z;cases q;simp[YX] at e;subst e;exact⟨[],by simp[intItems],rfl⟩
 | d::ds,ns,vs,us,e,p,q=>by
  obtain⟨v,vs',rfl,p1,p2⟩:=p.uncons;cases d with
  | int i=>
   cases p1;cases q with
   | cons q1 q2=>
    obtain⟨t,rfl⟩:=q1;simp only[YX,zG] at e;obtain⟨ms,e1,rfl⟩:=e;obtain⟨xs,h1,h2⟩:=IA e1 p2 q2;refine⟨(i,t)::xs,?_,by simp[h2]⟩;simp[intItems] at h1 ⊢;exact h1
  | _=>simp[YX] at e
theorem FT (f:Nat->Int):∀k j,j<=k->f j<=f (argBest (λi j=>decide (f i > f j)) k)
 | 0,j,h=>by
  have z:j=0:=by omega
  subst z;exact zV _
 | k+1,j,h=>by
  have ih:=FT f k;unfold argBest;split
  .rename_i hb;have hb':f (k+1) > f (argBest (λi j=>decide (f i > f j)) k):=of_decide_eq_true hb;by_cases z:j=k+1
   .subst z;exact zV _
   .have:=ih j (by omega);omega
  .rename_i hb;have hb':¬ f (k+1) > f (argBest (λi j=>decide (f i > f j)) k):=λq=>hb (decide_eq_true q)
   by_cases z:j=k+1
   .subst z;omega
   .exact ih j (by omega)
theorem Ck (f:Nat->Int):∀k j,j<=k->f (argBest (λi j=>decide (f i<f j)) k)<=f j
 | 0,j,h=>by
  have z:j=0:=by omega
  subst z;exact zV _
 | k+1,j,h=>by
  have ih:=Ck f k;unfold argBest;split
  .rename_i hb;have hb':f (k+1)<f (argBest (λi j=>decide (f i<f j)) k):=of_decide_eq_true hb;by_cases z:j=k+1
   .subst z;exact zV _
   .have:=ih j (by omega);omega
  .rename_i hb;have hb':¬ f (k+1)<f (argBest (λi j=>decide (f i<f j)) k):=λq=>hb (decide_eq_true q)
   by_cases z:j=k+1
   .subst z;omega
   .exact ih j (by omega)
theorem Fw (bt:Nat->Nat->Bool):∀k,argBest bt k<=k
 | 0=>zC _
 | k+1=>by
  unfold argBest;split
  .exact zC _
  .exact Nat.le_succ_of_le (Fw bt k)
theorem Cc {xs:List (Int×Tok)}{ns:List Int}(h:xs.map (·.1)=ns){j:Nat}{y:Int}(e:ns[j]?=some y):numAt xs.toArray j=y:=by
  subst h;unfold numAt;rw[zF] at e;simp only[List.getElem?_toArray];cases q:xs[j]? with
  | none=>
   rw[q] at e;cases e
  | some z=>rw[q] at e;simpa using e
theorem zjp {xs:List (Int×Tok)}{ns:List Int}(h:xs.map (·.1)=ns){j:Nat}(hj:j<ns.length):numAt xs.toArray j∈ns:=by
 have e:ns[j]?=some ns[j]:=by simp[hj]
 rw[Cc h e];exact yW hj
theorem Co {nm:String}{le:Int->Int->Prop}{two:Int->Int->Int}(cm:Int->Int->Bool)(hc:X.calm=true)(c2:Ym X (.builtin nm) (λxs H Q=>∃i j,xs=[.int i,.int j]/\Q (.int (two i j)) H))(c1:∀ {s:Shared} {l:Addr} {xs:Array (Int×Tok)} {Q:Value->Shared->Prop} {E:Value->Shared->Prop},X.A.handled=none->s.heap.IsList l (intItems xs)->0<xs.size->(∀v h' tk,(intItems xs)[argBest (λi j=>cm (numAt xs i) (numAt xs j)) (xs.size-1)]?=some v->(∀b o,s.heap.get? b=some o->h'.get? b=some o)->Q v { s with heap:=h',toks:=tk })->wpAny (mX X) X.A (call (.builtin nm) [.ref l]) Q E s)(bg:∀(f:Nat->Int)(k j:Nat),j<=k->le (f j) (f (argBest (λi j=>cm (f i) (f j)) k))):Ym X (.builtin nm) (upC X.K Z (T8 le two)):=by
 intro pins s σ H xs us Qv I rv h;obtain⟨r,S,ds,Q,aZ,ps,q,ret⟩:=h;unfold T8 at q;split at q
 .rename_i i j;obtain⟨v,vs,rfl,p1,p2⟩:=ps.uncons;obtain⟨v2,vs2,rfl,p3,p4⟩:=p2.uncons;have z:=p4.unnil;subst z;cases p1;cases p3;exact c2 pins s σ H _ us Qv I rv ⟨i,j,rfl,ret _ _ _ _ _ Ext.refl aZ (.int _) q⟩
 .rename_i n;obtain⟨v,vs,rfl,p1,p2⟩:=ps.uncons;have z:=p2.unnil;subst z;split at q
  .rename_i o eo;split at q
   .rename_i ns en;obtain⟨hne,q⟩:=q;obtain⟨eo,eL⟩:=Y1 eo;obtain⟨a,ha,ob⟩:=aZ.at eo;cases p1 with
    | ref h1=>
     rw[h1] at ha;cases ha
     obtain⟨ys,sq,pr⟩:=ob.list eL;obtain⟨u,rfl,ru⟩:=Vw rv;cases ru;obtain⟨aX,ri,pl,hz⟩:=I.list sq;obtain⟨zs,hz1,hz2⟩:=IA en pr ri;have hl:zs.length=ns.length:=by rw[<- hz2,zB]
     have hpos:0<ns.length:=List.length_pos_iff.mpr hne
     have isl:=pl.isList;rw[hz1] at isl;refine c1 (I.ok.hd hc) isl (by simp;omega) λv h' tk hv hk=>?_
     have hvi:=intItems_at hv;obtain⟨t,rfl⟩:=hvi;have hb:=Fw (λi j=>cm (numAt zs.toArray i) (numAt zs.toArray j)) (zs.toArray.size-1)
     have hsz:zs.toArray.size=ns.length:=by simp[hl]
     refine⟨.int _,H,I.kept hk,⟨_,rfl⟩,ret _ _ _ _ _ Ext.refl aZ (.int _) (q _ (zjp hz2 (by omega)) λy hy=>?_)⟩;obtain⟨j,hj,ej⟩:=yO.mp hy;have e1:=Cc hz2 (show ns[j]?=some y by simp[hj,ej]);rw[<- e1];exact bg _ _ j (by omega)
   .exact q.elim
  .exact q.elim
 .exact q.elim
theorem WW (hc:X.calm=true):Ym X (.builtin "max") (upC X.K Z wMax):=Co (λx y=>decide (x > y)) hc (zhC hc) max_intList FT
theorem Vu (hc:X.calm=true):Ym X (.builtin "min") (upC X.K Z wMin):=Co (λx y=>decide (x<y)) hc (zcR hc) min_intList Ck
def TQ:WC:=λds S Q=>match ds with
 | [.tup xs]=>Q (.int xs.length) S
 | [.ref n]=>match lAt S n with
  | some o=>Q (.int (Zm o).length) S
  | none=>False
 | _=>False
theorem YZ:Ym X (.builtin "len") (upC X.K Z TQ):=Ky zfe λxs H Qv ⟨r,S,ds,Q,aZ,ps,q,ret⟩=>by
 unfold TQ at q;split at q
 .rename_i ys;obtain⟨v,vs,rfl,p1,p2⟩:=ps.uncons;have z:=p2.unnil;subst z;obtain⟨a,zs,rfl,h1,h2⟩:=p1.untup;exact⟨a,zs,rfl,.inr (SqT.of h1),by rw[<- h2.1];exact ret _ _ _ _ _ Ext.refl aZ (.int _) q⟩
 .rename_i n;obtain⟨v,vs,rfl,p1,p2⟩:=ps.uncons;have z:=p2.unnil;subst z;split at q
  .rename_i o eo;obtain⟨eo,eL⟩:=Y1 eo;obtain⟨a,ha,ob⟩:=aZ.at eo;cases p1 with
   | ref h1=>
    rw[h1] at ha;cases ha
    obtain⟨ys,sq,pr⟩:=ob.list eL;exact⟨_,ys,rfl,.inl sq,by rw[<- pr.1];exact ret _ _ _ _ _ Ext.refl aZ (.int _) q⟩
  .exact q.elim
 .exact q.elim
def SF (t T:String):Bool:=t==T||(t == "bool"&&T == "int")
def dInst (T:String)(te:TDE):TDE:=λdl S Q=>te dl S λd S1=>match d with
 | .ref _=>False
 | .exc _=>False
 | .non=>Q (.bl (SF "NoneType" T)) S1
 | .bl _=>Q (.bl (SF "bool" T)) S1
 | .int _=>Q (.bl (SF "int" T)) S1
 | .str _=>Q (.bl (SF "str" T)) S1
 | .tup _=>Q (.bl (SF "tuple" T)) S1
def Kit (K:Fg)(T:String):Prop:=∀t∈["NoneType","bool","int","str","tuple"],W.kitOne K (.type t) (.type T)=some (SF t T)
def rInst (K:Fg):List V->Hp->VK->Prop:=λxs H Qv=>∃x T t b,xs=[x,.ty T]/\XM K H x t/\W.kitOne K t (.type T)=some b/\Qv (.bl b) H
theorem zhb:Ym X (.builtin "isinstance") (rInst X.K):=by
 intro pins s σ H xs us Q I r h;obtain⟨x,T,t,b,rfl,ty,e,q⟩:=h;obtain⟨u,w',rfl,r1,r2⟩:=Hx r;cases r2;exact zgE I r1 ty e λtk=>⟨.bl b,H,I.tok tk,rfl,q⟩
theorem Oh (KT:Kit X.K T)(hg:Gl X "isinstance")(hm:X.mg "isinstance"=none)(hg2:Gl X y)(hm2:X.mg y=none)(hv2:bootBuiltins y=some (.type T))(ha:PD X Z e te)(hv:bootBuiltins "isinstance"=some (.builtin "isinstance"):=by exact PyProof.Rows.Boot.«isinstance»)(hn2:y≠"__name__":=by decide)(hd2:(y==("__debug__":Str))=false:=by decide)(he2:starEach [e,.Name y p2] X.env=(false,eval e X.env)::starEach [.Name y p2] X.env:=by rfl)(he3:starEach [.Name y p2] X.env=(false,eval (.Name y p2) X.env)::starEach [] X.env:=by rfl)(hpl:(backTo pos (starEach [.Name y p2] X.env)).any (·.1)=false:=by rfl):
  PD X Z (.Call (.Name "isinstance" p) [e,.Name y p2] [] pos) (dInst T te):=
 Z5 (Bc zhb hg hm hv (P9 ha (P9 (zfI (v:=.ty T) hg2 hm2 hv2 rfl hn2 hd2) G5 he3) he2) ⋯ ⋯ he2 hpl) λσ H Qv ⟨r,dl,S,Q,rs,aZ,h,ret⟩=>
  ⟨r,dl,S,_,rs,aZ,h,λv H1 r1 d S1 e1 aB p1 h1=>by
   cases p1 with
   | non=>exact⟨_,T,_,_,rfl,.non,KT _ (by simp),ret _ _ _ _ _ e1 aB (.bl _) h1⟩
   | bl b=>exact⟨_,T,_,_,rfl,.bl b,KT _ (by simp),ret _ _ _ _ _ e1 aB (.bl _) h1⟩
   | int b=>exact⟨_,T,_,_,rfl,.int b,KT _ (by simp),ret _ _ _ _ _ e1 aB (.bl _) h1⟩
   | str b=>exact⟨_,T,_,_,rfl,.str b,KT _ (by simp),ret _ _ _ _ _ e1 aB (.bl _) h1⟩
   | tup e2 _ _=>exact⟨_,T,_,_,rfl,.tup e2,KT _ (by simp),ret _ _ _ _ _ e1 aB (.bl _) h1⟩
   | ref _=>exact(show False from h1).elim
   | exc _=>exact(show False from h1).elim⟩
end
section
variable {X:Cx}{Z:Zx}{st:Stmt}{Yk:List Stmt}{t u:TDS}{e:Expr}{te:TDE}{pos:Pos}
def dNext:TDS:=λE dl S=>E.nx dl S
def Wt (t u:TDS):TDS:=λE dl S=>t { nx:=λdl' S'=>u E dl' S',rt:=E.rt,bk:=E.bk,ct:=E.ct } dl S
theorem ZE:YE X Z [] dNext:=Fz zhD λF σ H ⟨r,dl,S,E,rs,aZ,h,ret⟩=>ret.nx σ H r dl S Ext.refl rs aZ h
theorem Zb (h1:PDS X Z st t)(h2:YE X Z Yk u):YE X Z (st::Yk) (Wt t u):=
 Fz (zfC h1 h2) λF σ H ⟨r,dl,S,E,rs,aZ,h,ret⟩=>⟨r,dl,S,_,rs,aZ,h,λσ' H' r' dl' S' x rs' rel' q=>⟨r',dl',S',E,rs',rel',q,ret.ext x⟩,ret.bk,ret.ct,ret.rt⟩
theorem Ze (h1:PDS X Z st t):YE X Z [st] t:=zaD h1
def zbC:TDS:=λE dl S=>E.bk dl S
theorem zce:PDS X Z (.Break pos) zbC:=Yw za7 λF σ H ⟨r,dl,S,E,rs,aZ,h,ret⟩=>ret.bk σ H r dl S Ext.refl rs aZ h
def dDrop (te:TDE):TDS:=λE dl S=>te dl S λ_ S1=>E.nx dl S1
theorem Z7 (he:PD X Z e te)(hs:swapsWith e none pos.line X.env=pure false:=by rfl):PDS X Z (.Expr e pos) (dDrop te):=
 Yw (zbP he hs) λF σ H ⟨r,dl,S,E,rs,aZ,h,ret⟩=>⟨r,dl,S,_,rs,aZ,h,λv H1 r1 d S1 x aB p q=>ret.nx σ H1 r1 dl S1 x (rs.ext x) aB q⟩
def dRet (te:TDE):TDS:=λE dl S=>te dl S E.rt
theorem Zj (he:PD X Z e te):PDS X Z (.Return (some e) pos) (dRet te):=
 Yw (zf8 he) λF σ H ⟨r,dl,S,E,rs,aZ,h,ret⟩=>⟨r,dl,S,_,rs,aZ,h,ret.rt⟩
def dRetN:TDS:=λE _ S=>E.rt .non S
theorem zfx:PDS X Z (.Return none pos) dRetN:=Yw zcc λF σ H ⟨r,dl,S,E,rs,aZ,h,ret⟩=>ret.rt _ _ _ _ _ Ext.refl aZ .non h
def dIf (c:TDT)(t u:TDS):TDS:=λE dl S=>c dl S λk S1=>if k=true then t E dl S1 else u E dl S1
theorem Zy (hc:PDT X Z c tc)(ha:YE X Z a t)(hb:YE X Z b u):PDS X Z (.If c a b pos) (dIf tc t u):=
 Yw (ps_if hc ha hb) λF σ H ⟨r,dl,S,E,rs,aZ,h,ret⟩=>⟨r,dl,S,_,rs,aZ,h,λk H1 r1 S1 x aB q=>by
  cases k with
  | true=>exact YO ⟨r1,dl,S1,E,rs.ext x,aB,(by simpa using q),ret.ext x⟩
  | false=>exact YF ⟨r1,dl,S1,E,rs.ext x,aB,(by simpa using q),ret.ext x⟩⟩
def SI (i:Nat)(te:TDE):TDS:=λE dl S=>te dl S λd S1=>E.nx (dl.set i (some d)) S1
theorem U5 (hN:X.N.Nodup)(hi:X.N[i]?=some x)(hx:Loc X.env.scope x)(he:PD X Z e te)(hs:swapsWith e (some (.Name x pos')) pos.line X.env=pure false:=by rfl)(hf:Hf X x:=by first|exact .inl rfl|exact .inr rfl|assumption):PDS X Z (.Assign [.Name x pos'] e pos) (SI i te):=
 Yw (zaO hN hi hx he hs hf) λF σ H ⟨r,dl,S,E,rs,aZ,h,ret⟩=>⟨r,dl,S,_,rs,aZ,h,λv H1 r1 d S1 x aB p q=>ret.nx _ H1 r1 _ S1 x ((rs.ext x).set i p) aB q⟩
theorem Zk {i:Nat}{x:Str}{pos':Pos}(hN:X.N.Nodup)(he:PD X Z e te)(hi:X.N[i]?=some x:=by rfl)(hx:Loc X.env.scope x:=by exact Or.inl rfl)(hs:swapsWith e (some (.Name x pos')) pos.line X.env=pure false:=by rfl)
  (hf:Hf X x:=by first|exact .inl rfl|exact .inr rfl|assumption):PDS X Z (.Assign [.Name x pos'] e pos) (SI i te):=U5 hN hi hx he hs hf
def za6 (c:TDT)(tb:TDS):TDS:=λE dl S=>∃W:Nat->Ev->Sto->Prop,(∃m,W m dl S)/\∀m dl S,W m dl S->
 c dl S λk S1=>if k=true then tb { nx:=λdl' S'=>∃m',m'<m/\W m' dl' S',rt:=E.rt,bk:=E.nx,ct:=λdl' S'=>∃m',m'<m/\W m' dl' S' } dl S1 else E.nx dl S1
theorem Qk (hp:PassesOwn (mX X) X.A X.env X.xe)(hc:PDT X Z c tc)(hb:YE X Z body tb):PDS X Z (.While c body [] pos) (za6 tc tb):=
 Yw (zhL hp hc hb) λF σ H ⟨r,dl,S,E,rs,aZ,⟨W,⟨m0,w0⟩,turn⟩,ret⟩=>by
  refine⟨λm σ' H'=>∃r' dl' S',Ext r r' H H'/\Rs r' H' dl' σ'/\Rel X.K Z r' S' H'/\W m dl' S',⟨m0,r,dl,S,Ext.refl,rs,aZ,w0⟩,?_⟩;rintro m σ1 H1 ⟨r1,dl1,S1,x1,rs1,aB,w1⟩;refine⟨r1,dl1,S1,_,rs1,aB,turn m dl1 S1 w1,λk H2 r2 S2 x2 aC q2=>?_⟩;cases k with
  | true=>
   refine YO ⟨λσ' H'=>∃m',m'<m/\∃r' dl' S',Ext r r' H H'/\Rs r' H' dl' σ'/\Rel X.K Z r' S' H'/\W m' dl' S',λ_ _ z=>z,r2,dl1,S2,_,rs1.ext x2,aC,(by simpa using q2),?_⟩;have go:∀σ' H' r' dl' S',Ext r2 r' H2 H'->Rs r' H' dl' σ'->Rel X.K Z r' S' H'->(∃m',m'<m/\W m' dl' S')->∃m',m'<m/\∃r' dl' S',Ext r r' H H'/\Rs r' H' dl' σ'/\Rel X.K Z r' S' H'/\W m' dl' S':=
    λσ' H' r' dl' S' x rs' rel' ⟨m',hm,w'⟩=>⟨m',hm,r',dl',S',x1.trans (x2.trans x),rs',rel',w'⟩
   exact⟨go,λσ' H' r' dl' S' x rs' rel' q=>ret.nx σ' H' r' dl' S' (x1.trans (x2.trans x)) rs' rel' q,go,ret.rt.ext (x1.trans x2)⟩
  | false=>exact YF (ret.nx σ1 H2 r2 dl1 S2 (x1.trans x2) (rs1.ext x2) aC (by simpa using q2))
theorem UE {X:Cx}{Z:Zx}{J:It}{F:Vv}{E:XY}{tb:TDS}{g:TG}{r r1:List Addr}{H H1:Hp}{dl:Ev}{S1:Sto}{σ:St}(x1:Ext r r1 H H1)(rs:Rs r H dl σ)(aB:Rel X.K Z r1 S1 H1)(ret:RO X.K Z r H E F)(W:Nat->Nat->Ev->Sto->Prop){m0:Nat}(w0:W 0 m0 dl S1)
  (step:∀k m r2 dl2 S2 σ2 H2,Ext r1 r2 H1 H2->Rs r2 H2 dl2 σ2->Rel X.K Z r2 S2 H2->W k m dl2 S2->J.stop k H2/\E.nx dl2 S2\/J.go k H2/\∃N:Ev->Sto->Prop,(∀d s,N d s->∃m',m'<m/\W (k+1) m' d s)/\∀x H',J.yld k H2 x H'->∀K:St->Hp->Prop,(∀σ3 H3 dl3,Ext r2 r2 H2 H3->Rs r2 H3 dl3 σ3->Rel X.K Z r2 S2 H3->tb { nx:=N,rt:=E.rt,bk:=E.nx,ct:=N } dl3 S2->K σ3 H3)->g x σ2 H' K):
  ∃W:Nat->Nat->St->Hp->Prop,(∃m,W 0 m σ H1)/\∀i m σ H,W i m σ H->J.stop i H/\F.nx σ H\/J.go i H/\∃N:St->Hp->Prop,(∀σ' H',N σ' H'->∃m',m'<m/\W (i+1) m' σ' H')/\∀x H',J.yld i H x H'->g x σ H' λσ2 H2=>upS X.K Z tb { F with nx:=N,ct:=N,bk:=F.nx } σ2 H2:=by
 refine⟨λk m σ' H'=>∃r' dl' S',Ext r1 r' H1 H'/\Rs r' H' dl' σ'/\Rel X.K Z r' S' H'/\W k m dl' S',⟨m0,r1,dl,S1,Ext.refl,rs.ext x1,aB,w0⟩,?_⟩;rintro k m σ2 H2 ⟨r2,dl2,S2,x2,rs2,aC,w2⟩;rcases step k m r2 dl2 S2 σ2 H2 x2 rs2 aC w2 with ⟨a,q⟩|⟨a,N,hN,st⟩
 .exact .inl ⟨a,ret.nx σ2 H2 r2 dl2 S2 (x1.trans x2) rs2 aC q⟩
 .refine .inr ⟨a,λσ' H'=>∃r' dl' S',Ext r1 r' H1 H'/\Rs r' H' dl' σ'/\Rel X.K Z r' S' H'/\N dl' S',λσ' H' z=>?_,λx H' y=>st x H' y _ λσ3 H3 dl3 x3 rs3 aE q=>?_⟩
  .obtain⟨r',dl',S',e1,e2,e3,e4⟩:=z;obtain⟨m',hm,w'⟩:=hN _ _ e4;exact⟨m',hm,r',dl',S',e1,e2,e3,w'⟩
  .have go:∀σ' H' r' dl' S',Ext r2 r' H3 H'->Rs r' H' dl' σ'->Rel X.K Z r' S' H'->N dl' S'->∃r' dl' S',Ext r1 r' H1 H'/\Rs r' H' dl' σ'/\Rel X.K Z r' S' H'/\N dl' S':=λσ' H' r' dl' S' x a b c=>⟨r',dl',S',x2.trans (x3.trans x),a,b,c⟩
   exact⟨r2,dl3,S2,_,rs3,aE,q,go,λσ' H' r' dl' S' x a b c=>ret.nx σ' H' r' dl' S' (x1.trans (x2.trans (x3.trans x))) a b c,go,ret.rt.ext (x1.trans (x2.trans x3))⟩
def dFor (i:Nat)(tl:TDE)(tb:TDS):TDS:=λE dl S=>tl dl S λd S1=>match d with
 | .ref n=>(lAt S1 n).isSome=true/\∃W:Nat->Nat->Ev->Sto->Prop,(∃m,W 0 m dl S1)/\∀k m dl S,W k m dl S->match lAt S n with
  | some o=>match (Zm o)[k]? with
   | some x=>tb { nx:=λdl' S'=>∃m',m'<m/\W (k+1) m' dl' S',rt:=E.rt,bk:=E.nx,ct:=λdl' S'=>∃m',m'<m/\W (k+1) m' dl' S' } (dl.set i (some x)) S
   | none=>E.nx dl S
  | none=>False
 | _=>False
theorem W9 (hp:PassesOwn (mX X) X.A X.env X.xe)(hc:X.calm=true)(hN:X.N.Nodup)(hi:X.N[i]?=some x)(hx:Loc X.env.scope x)(hl:PD X Z aU tl)(hb:YE X Z body tb)(hf:Hf X x:=by first|exact .inl rfl|exact .inr rfl|assumption)(hs:∀y,foldedSetIterable aU X.env y=pure y:=by intro _;rfl):PDS X Z (.For (.Name x pos') aU body [] pos) (dFor i tl tb):=
 Yw (Ut hp hc (KW hl) (Uq hN hi hx hf) hb hs) λF σ H ⟨r,dl,S,E,rs,aZ,h,ret⟩=>by
  refine⟨r,dl,S,_,rs,aZ,h,λv H1 r1 d S1 x1 aB p1 q1=>?_⟩;cases p1 with
  | @ref n a hn=>
   obtain⟨aQ,W,⟨m0,w0⟩,turn⟩:=q1;have sql:∀ {r':List Addr} {S':Sto} {H':Hp} {o:Ob},Ext r1 r' H1 H'->Rel X.K Z r' S' H'->lAt S' n=some o->∃xs,SqL X.K H' a xs/\Rps r' H' (Zm o) xs:=λ{r' S' H' o} x' rel' eo=>by
    obtain⟨eo,eL⟩:=Y1 eo;obtain⟨a',ha,ob⟩:=rel'.at eo;rw[x'.adr n a hn] at ha;cases ha
    exact ob.list eL
   obtain⟨o1,eo1⟩:=yN.mp aQ;obtain⟨xs1,sq1,_⟩:=sql Ext.refl aB eo1;refine⟨a,rfl,⟨xs1,sq1⟩,UE x1 rs aB ret W w0 λk m r2 dl2 S2 σ2 H2 x2 rs2 aC w2=>?_⟩;have q:=turn k m dl2 S2 w2;split at q
   .rename_i o eo;obtain⟨xs,sq,pr⟩:=sql x2 aC eo;split at q
    .rename_i y ey;obtain⟨v,hv,pv⟩:=pr.get ey;refine .inr ⟨⟨xs,v,sq,hv⟩,_,λ_ _ z=>z,λv' H' y' K hK=>?_⟩;obtain⟨rfl,y'⟩:=y';cases (y' xs sq).symm.trans hv;exact hK _ _ _ Ext.refl (rs2.set i pv) aC q
    .rename_i ey;exact .inl ⟨⟨xs,sq,by rw[<- pr.1];exact yP.mp ey⟩,q⟩
   .exact q.elim
  | _=>exact(show False from q1).elim
def dForR (i:Nat)(ta:TDA)(tb:TDS):TDS:=λE dl S=>ta dl S λds S1=>match ds with
 | [.int j]=>(-(2^62)<=j/\j<2^62)/\∃W:Nat->Ev->Sto->Prop,W 0 dl S1/\∀k dl S,W k dl S->
   if k<j.toNat then tb { nx:=λdl' S'=>W (k+1) dl' S',rt:=E.rt,bk:=E.nx,ct:=λdl' S'=>W (k+1) dl' S' } (dl.set i (some (.int k))) S else E.nx dl S
 | _=>False
theorem RT (hp:PassesOwn (mX X) X.A X.env X.xe)(hc:X.calm=true)(hN:X.N.Nodup)(hi:X.N[i]?=some x)(hx:Loc X.env.scope x)(hg:Gl X "range")(hm:X.mg "range"=none)(ha:PDA X Z [a] ta)(hb:YE X Z body tb)(hf:Hf X x:=by first|exact .inl rfl|exact .inr rfl|assumption)(hs:∀y,foldedSetIterable (.Call (.Name "range" p) [a] [] pos) X.env y=pure y:=by intro _;rfl)(hst:starEach [a] X.env=[(false,eval a X.env)]:=by rfl):
  PDS X Z (.For (.Name x pos') (.Call (.Name "range" p) [a] [] pos) body [] aK) (dForR i ta tb):=
 Yw (Ut hp hc (IJ hg hm ha hst) (Uq hN hi hx hf) hb hs) λF σ H ⟨r,dl,S,E,rs,aZ,h,ret⟩=>by
  refine⟨r,dl,S,_,rs,aZ,h,λvs H1 r1 ds S1 x1 aB p1 q1=>?_⟩;split at q1
  .rename_i j;obtain⟨v,vs',rfl,p2,p3⟩:=p1.uncons;have z:=p3.unnil;subst z;cases p2;obtain⟨⟨b1,b2⟩,W,w0,turn⟩:=q1;refine⟨j,rfl,b1,b2,UE x1 rs aB ret (λk m d s=>m=j.toNat-k/\W k d s) ⟨rfl,w0⟩ λk m r2 dl2 S2 σ2 H2 x2 rs2 aC w=>?_⟩;have q:=turn k dl2 S2 w.2;split at q
   .rename_i hk;refine .inr ⟨hk,_,λd s z=>⟨j.toNat-(k+1),by omega,rfl,z⟩,λv' H' y K hK=>?_⟩;obtain⟨rfl,rfl⟩:=y;exact hK _ _ _ Ext.refl (rs2.set i (by rw[Int.zero_add];exact .int _)) aC q
   .rename_i hk;exact .inl ⟨by show j.toNat<=k;omega,q⟩
  .exact q1.elim
end
def Ws (N:List Str)(ds:List D):Ev:=ds.map some++List.replicate (N.length-ds.length) none
theorem zgx {r:List Addr}{H:Hp}{N:List Str}{ds:List D}{vs:List V}(h:Rps r H ds vs):Rs r H (Ws N ds) (L2.Wl N vs):=by
  refine⟨by simp[Ws,L2.Wl,h.1],λi d e=>?_⟩;unfold Ws at e;by_cases hi:i<ds.length
  · rw[zJ (by simpa using hi),zF] at e
    cases q:ds[i]? with
    | none=>
   rw[q] at e;cases e
    | some z=>
      rw[q] at e;cases e;obtain⟨v,hv,pv⟩:=h.get q;refine⟨v,?_,pv⟩;unfold L2.Wl;rw[zJ (by simpa [h.1] using hi),zF,hv];rfl
  · rw[yC (by simpa using hi),wG] at e
    split at e<;>cases e
section
variable {P:Program}{w:World}{K:Fg}{mg:Str->Option Value}{base:Heap}
abbrev Z0:Zx:=Zc (λ_ _=>False) (λ_ _ _=>False)
theorem YD:Wu X Z0.w:=λ_ _ _ _ _ _ _ h=>by
 obtain⟨_,_,_,_,_,_,_,_,_,_,_,_,q⟩:=h;exact q.elim
theorem VW {x qual:Str}{st:Stmt}{f:Addr}{fd:FuncData}{N ps:List Str}{k:Nat}{sd:Sd}(F:Fun K x qual st f fd)(Sc:Zl N ps (Zi st))(len:∀ds S Q ex,sd ds S Q ex->ds.length=ps.length)
  (hbody:∀(cdv:Value)(A:Around)(outer:List Env)(s:Shared)(H:Hp)(E:XK),fd.code=cdv->ZH k (A.deeper (envOfC qual (Zi st) s.heap.objs.size f cdv))->
   ∃t,YE (Wq (CXE P w) P w K mg base N qual (Zi st) f cdv A outer s H E).nox Z0 (Xb st) t/\∀ds S Q ex,sd ds S Q ex->t { nx:=λ_ S'=>Q .non S',rt:=Q } (Ws N ds) S):Ye P w K mg base (CXE P w) (k+1) f fd ps (upF K sd):=by
 obtain⟨oc,od,kV,doc,pm,an,cdv,ct,osl,rfl,lk,hcd⟩:=F.ex;refine Bz lk hcd Sc (λvs H Q E h=>?_) λA outer s H vs Q E hr h=>?_
 .obtain⟨ex,r,S,ds,Q',aZ,p,q,ret⟩:=h;rw[<- p.1];exact len ds S Q' ex q
 .obtain⟨ex,r,S,ds,Q',aZ,p,q,ret⟩:=h;obtain⟨t,ht,hq⟩:=hbody cdv A outer s H E rfl hr;have back:∀ {H':Hp} {r':List Addr} {S':Sto},Ext r r' H H'->Rel K Z0 r' S' H'->Rel K (Zc ex E) r' S' H':=λx rel'=>⟨rel'.b,aZ.xw.ext x⟩
  refine⟨upS K Z0 t,ht.nox,r,Ws N ds,S,_,zgx p,⟨aZ.b,λ_ _ _ _ _ _ _ _ _ z=>z.elim⟩,hq ds S Q' ex q,?_,?_,?_,?_⟩
  .intro σ' H' r' dl' S' x _ rel' z;exact ret .non H' r' .non S' x (back x rel') .non z
  .intro σ' H' r' dl' S' x _ rel' z;exact z
  .intro σ' H' r' dl' S' x _ rel' z;exact z
  .intro v H' r' d S' x rel' p' z;exact ret v H' r' d S' x (back x rel') p' z
end
open PySem
def Sz (n:Nat)(i:Int):Prop:=i.natAbs<2^n
theorem Sz.mono (h:Sz m i)(hn:m<=n):Sz n i:=zR h (Nat.pow_le_pow_right ⋯ hn)
theorem Sz.bits (h:Sz n i):Builtin.Int.intBits i<=n:=by
 unfold Builtin.Int.intBits;split
 .exact zN _
 .rename_i hz;have hp:i.natAbs≠0:=by
   intro z;have z2:i=0:=by omega
   simp[z2] at hz
  have:=(vB hp).mpr h;omega
theorem ZC (hi:Sz m i)(hj:Sz n j)(hm:m<=1048576:=by decide)(hn:n<=1048576:=by decide):IntMulOk i j:=by
 have e20:(2:Nat)^20=1048576:=by decide
 exact IntMulOk.of_bits (yE hi.bits (by omega)) (yE hj.bits (by omega))
theorem Sz.of {n:Nat}{i:Int}(m:Nat)(h:i.natAbs<=m)(hm:m<2^n:=by decide):Sz n i:=wZ h hm
theorem Sz.mul (hi:Sz m i)(hj:Sz n j):Sz (m+n) (i*j):=by
 unfold Sz at *
 rw[wL,vC];exact Nat.mul_lt_mul'' hi hj
theorem Sz.add (hi:Sz m i)(hj:Sz n j):Sz (max m n+1) (i+j):=by
 have h1:Sz (max m n) i:=hi.mono (Nat.le_max_left _ _)
 have h2:Sz (max m n) j:=hj.mono (Nat.le_max_right _ _);unfold Sz at *
 have e:(2:Nat)^(max m n+1)=2^max m n+2^max m n:=by rw[Nat.pow_succ];omega
 rw[e];have:=Int.natAbs_add_le i j;omega
theorem Sz.neg (hi:Sz m i):Sz m (-i):=by
 unfold Sz at *
 rw[Int.natAbs_neg];exact hi
theorem Sz.sub (hi:Sz m i)(hj:Sz n j):Sz (max m n+1) (i-j):=by
 rw[Int.sub_eq_add_neg];exact hi.add hj.neg
theorem Sz.log (h:Sz n i)(hi:i≠0)(hn:n<=9000:=by decide):i.natAbs.log2<9000:=by
 have:=(vB (by omega:i.natAbs≠0)).mpr h;omega
theorem Sz.fd {n:Nat}{i:Int}(h:Sz n i)(hi:0<i)(hn:n<=9000:=by decide):0<i/\i.natAbs.log2<9000:=⟨hi,h.log (by omega) hn⟩
theorem YK {a b:Int}(hb:0<b):0<=a%b/\a%b<b:=⟨wM _ (by omega),vD _ hb⟩
example (x:Int):-(10^40)<=x%(2*10^40+1)-10^40:=by omega
example (x:Int):x%(2*10^40+1)-10^40<=10^40:=by omega
example (x:Int) (h:-(10^40)<=x) (h2:x<=2*10^41):Sz 140 x:=Sz.of (2*10^41) (by omega)
theorem DG (a b:Int):Int.gcd b (a%b)=Int.gcd a b:=by
 rw[Int.emod_def,show a-b*(a/b)=a-(a/b)*b by rw[yX],Int.gcd_sub_mul_right_right,Int.gcd_comm]
def Yx (i:Int):Int:=if i<0 then -i else i
theorem Nr (i:Int):0<=Yx i:=by unfold Yx;split<;>omega
theorem Fs (a b:Int):Int.gcd (Yx a) (Yx b)=Int.gcd a b:=by
 have h:∀i:Int,(Yx i).natAbs=i.natAbs:=λi=>by unfold Yx;split<;>omega
 unfold Int.gcd;rw[h,h]
theorem Ew (hB:B≠0)(hd:d=(if B<0 then -((Int.gcd T B:Nat):Int) else ((Int.gcd T B:Nat):Int))):
  d≠0/\T.fdiv d*d=T/\B.fdiv d*d=B/\1<=B.fdiv d/\Int.gcd (T.fdiv d) (B.fdiv d)=1/\T.fdiv d*B=T*B.fdiv d:=by
 have g0:0<Int.gcd T B:=Nat.pos_of_ne_zero λz=>hB (vZ.mp z).2
 have dT:((Int.gcd T B:Nat):Int) ∣ T:=vE T B
 have dB:((Int.gcd T B:Nat):Int) ∣ B:=xP T B
 have hne:d≠0:=by
  rw[hd];split<;>omega
 have eT:d ∣ T:=by rw[hd];split<;>first|exact Int.neg_dvd.mpr dT|exact dT
 have eB:d ∣ B:=by rw[hd];split<;>first|exact Int.neg_dvd.mpr dB|exact dB
 have fT:T.fdiv d=T/d:=uA eT
 have fB:B.fdiv d=B/d:=uA eB
 have mT:T.fdiv d*d=T:=by rw[fT];exact xQ eT
 have mB:B.fdiv d*d=B:=by rw[fB];exact xQ eB
 have gg:Int.gcd (T.fdiv d) (B.fdiv d)=1:=by
  have z:=uB g0;rw[fT,fB,hd];split
  .rw[Int.ediv_neg,Int.ediv_neg,Int.neg_gcd,Int.gcd_neg];exact z
  .exact z
 have pos:1<=B.fdiv d:=by
  by_cases hb:B<0
  .have dn:d<0:=by rw[hd,if_pos hb];omega
   by_cases q:B.fdiv d<=0
   .have:=Int.mul_nonneg_of_nonpos_of_nonpos q (xR dn);omega
   .omega
  .have dp:0<d:=by rw[hd,if_neg hb];omega
   by_cases q:B.fdiv d<=0
   .have:=xS (show 0<=-(B.fdiv d) by omega) (xR dp);rw[yY] at this;omega
   .omega
 refine⟨hne,mT,mB,pos,gg,?_⟩
 calc T.fdiv d*B=T.fdiv d*(B.fdiv d*d):=by rw[mB]
  _=T.fdiv d*d*B.fdiv d:=by grind
  _=T*B.fdiv d:=by rw[mT]
theorem Pn {T d:Int}(hne:d≠0)(mT:T.fdiv d*d=T):(T.fdiv d).natAbs<=T.natAbs:=by
 have h:(T.fdiv d).natAbs*d.natAbs=T.natAbs:=by rw[<- vC,mT]
 have hd:1<=d.natAbs:=by omega
 calc (T.fdiv d).natAbs=(T.fdiv d).natAbs*1:=by omega
  _<=(T.fdiv d).natAbs*d.natAbs:=Nat.mul_le_mul_left _ hd
  _=T.natAbs:=h
theorem J6 (m:Int)(hg:0<g):m/g*g<=m/\m<(m/g+1)*g:=by
 have h1:=vF m g
 have h2:=wM m (show g≠0 by omega)
 have h3:=vD m hg
 have e:(m/g+1)*g=g*(m/g)+g:=by grind
 have e2:m/g*g=g*(m/g):=yX _ _;omega
theorem zcS (m:Int)(hg:0<g):m<=-(-m/g)*g/\(-(-m/g)-1)*g<m:=by
 obtain⟨h1,h2⟩:=J6 (-m) hg;have e1:-(-m/g)*g=-(-m/g*g):=by rw[yY]
 have e2:(-(-m/g)-1)*g=-((-m/g+1)*g):=by grind
 omega
def wIf (C:Int->Int->Bool)(g:Int->Int->D):W2:=λx y S Q=>match x,y with
 | .int i,.int j=>if C i j=true then Q (g i j) S else False
 | _,_=>False
theorem opIf (h:OpR X f (upO X.K Z (wI C g)))(hc:∀i j,C' i j=true->C i j):OpR X f (upO X.K Z (wIf C' g)):=
 UQ h λx y H Qv ⟨r,S,dx,dy,Q,aZ,px,py,q,ret⟩=>⟨r,S,dx,dy,Q,aZ,px,py,by
  unfold wIf at q;split at q
  .obtain⟨h1,h2⟩:=PU q;exact⟨hc _ _ h1,h2⟩
  .exact q.elim,ret⟩
def O1 (_ j:Int):Bool:=decide (0<j)&&decide (j<1073741824)
abbrev zdE:W2:=wIf O1 λi j=>.int (i/j)
abbrev wModL:W2:=wIf O1 λi j=>.int (i%j)
def powB (i j:Int):Bool:=decide (0<=j)&&decide (j<=1000)&&decide (-1000<i)&&decide (i<1000)
abbrev wPowL:W2:=wIf powB λi j=>.int (i^j.toNat)
theorem Ei (h:O1 i j=true):0<j/\j<1073741824:=by
 unfold O1 at h;simpa using h
theorem Yl:OpR X (binaryOp .FloorDiv) (upO X.K Z zdE):=opIf YB λi j h=>by
 obtain⟨h1,h2⟩:=Ei h;refine⟨h1,?_⟩;have:j.natAbs.log2<30:=(vB (by omega)).mpr (by omega);omega
theorem Z9:OpR X (binaryOp .Mod) (upO X.K Z wModL):=opIf YW λi j h=>(Ei h).1
theorem UJ:OpR X (binaryOp .Pow) (upO X.K Z wPowL):=opIf zeG λi j h=>by
 unfold powB at h;simp at h;refine⟨h.1.1.1,by have:=h.1.1.2;omega,?_⟩;have h3:=h.1.2
 have h4:=h.2
 have big:(18446744073709551616:Nat)=2^64:=by decide
 omega
structure Df (K:Fg)(mg:Str->Option Value)(x:Str)(st:Stmt)(ps:List Str) where
 f:Addr
 fd:FuncData
 F:Fun K x x st f fd
 m:mg x=some (.ref f)
 b:YA K fd ps []
structure Fk (P:Program)(w:World)(K:Fg)(mg:Str->Option Value)(base:Heap)(k:Nat)(x:Str)(ps:List Str)(sd:Sd) where
 f:Addr
 fd:FuncData
 ok:Ye P w K mg base (CXE P w) k f fd ps (upF K sd)
 m:mg x=some (.ref f)
 kp:W.keepIn K (.ref f)=true
 b:YA K fd ps []
def Df.mk' {P:Program}{w:World}{K:Fg}{mg:Str->Option Value}{base:Heap}{k:Nat}{x:Str}{st:Stmt}{ps:List Str}{sd:Sd}(d:Df K mg x st ps)(h:Ye P w K mg base (CXE P w) k d.f d.fd ps (upF K sd)):Fk P w K mg base k x ps sd:=
 ⟨d.f,d.fd,h,d.m,d.F.kp,d.b⟩
theorem G4 (G:Fk X.prog X.w X.K X.mg X.base k x ps sd)(hr:ZH k X.A)(hx:Wu X W)(hg:Gl X x)(ha:PDA X ⟨ex,W⟩ (e::es) t)(hdb:(x==("__debug__":Str))=false:=by decide)(he:He X e es:=by rfl)(hpl:Hp1 X pos es:=by rfl):
  PD X ⟨ex,W⟩ (.Call (.Name x p) (e::es) [] pos) (JO ex sd t):=AY G.ok hr hg G.m G.kp G.b hx ha hdb he hpl
theorem Es {st:Stmt}:PDS X Z st (λ_ _ _=>False):=Yw zik λF σ H ⟨_,_,_,_,_,_,h,_⟩=>h
theorem zbR {r:List Addr}{H:Hp}(ns:List Int):Rps r H (ns.map D.int) (ns.map V.int):=by
 refine⟨by simp,λi d v h1 h2=>?_⟩;rw[zF] at h1 h2;cases q:ns[i]? with
 | none=>rw[q] at h1;cases h1
 | some z=>
  rw[q] at h1 h2;cases h1;cases h2;exact .int z
theorem zcL (K:Fg)(T:String)(h:T∈["int","bool","tuple","str"]):Kit K T:=by
 intro t ht;simp only[zS,xG,or_false] at h ht;rcases h with rfl|rfl|rfl|rfl<;>rcases ht with rfl|rfl|rfl|rfl|rfl<;>kernel_rfl
theorem ifF {c:Bool}{A B:Prop}(h:c=false)(b:B):if c=true then A else B:=by rw[h];exact YF b
theorem ifP {c A B:Prop} [Decidable c] (h:c)(a:A):if c then A else B:=by rw[if_pos h];exact a
theorem ifD {c:Prop} [Decidable c] {A B:Prop}(h1:c->A)(h2:¬ c->B):if decide c=true then A else B:=by
 by_cases h:c
 .rw[decide_eq_true h];exact YO (h1 h)
 .rw[decide_eq_false h];exact YF (h2 h)
open PySem L2
open PySem L2
theorem Sz.pow (h:Sz n i)(k:Nat):Sz (n*k+1) (i^k):=by
 unfold Sz at *
 rw[vG,Nat.pow_succ,Nat.pow_mul];have h1:i.natAbs^k<=(2^n)^k:=Nat.pow_le_pow_left (yL h) k
 have h2:0<(2^n)^k:=yF (yF ⋯);omega
theorem ifN {c:Prop} [Decidable c] {A B:Prop}(h1:¬ c->A)(h2:c->B):if (!decide c)=true then A else B:=by
 by_cases h:c
 .rw[decide_eq_true h];exact L2.YF (h2 h)
 .rw[decide_eq_false h];exact L2.YO (h1 h)
section
variable {X:Cx}{Z:Zx}
end
structure UG (k:Nat)(A:Around):Prop where
 dp:A.depth+3*k+5<recursionLimit
 un:A.units+16*k+200<cLine
theorem UG.mono (r:UG k A)(h:j<=k):UG j A:=⟨by have:=r.dp;omega,by have:=r.un;omega⟩
theorem UG.deeper {k:Nat}{A:Around}(r:UG (k+1) A)(env:Env):UG k (A.deeper env):=
 ⟨by have:=r.dp;show A.depth+1+3*k+5<_;omega,by have:=r.un;show A.units+3+16*k+200<_;omega⟩
structure FnOkN (P:Program)(w:World)(K:Fg)(mg:Str->Option Value)(base:Heap)(k:Nat)(f:Addr)(fd:FuncData)(ps:List Str)(sp:Sp):Prop where
 len:∀vs H Q E,sp vs H Q E->vs.length=ps.length
 run:∀(A:Around)(outer:List Env)(s:Shared)(H:Hp)(args:Args)(us:List Value)(vs:List V)(Q:VK)(E:XK),UG k A->VZ P w K mg base A outer s H->BindsTo s fd args (ps.zip us)->Zw vs us->sp vs H Q E->
  codeAny (model P w) A (.call (.ref f) args) (CR (CXE P w) outer P w H s Q E) s
section
variable {X:Cx}{k:Nat}{f:Addr}{fd:FuncData}{ps:List Str}{sp:Sp}{W:St->XK}{x:Str}{p pos:Pos}{e:Expr}{es:List Expr}{t:TA}
end
section
variable {X:Cx}{Z:Zx}{x:Str}{p pos:Pos}{e:Expr}{es:List Expr}{t:TDA}
end
section
variable {P:Program}{w:World}{K:Fg}{mg:Str->Option Value}{base:Heap}
end
structure FkN (P:Program)(w:World)(K:Fg)(mg:Str->Option Value)(base:Heap)(k:Nat)(x:Str)(ps:List Str)(sd:Sd) where
 f:Addr
 fd:FuncData
 ok:FnOkN P w K mg base k f fd ps (upF K sd)
 m:mg x=some (.ref f)
 kp:W.keepIn K (.ref f)=true
 b:YA K fd ps []
theorem Of {r:List Addr}{H:Hp}{a:Addr}{o:HO}(h:H a=none):Ext r r H (upd H a o):=⟨λ_ _ q=>q,λ_ _ q=>Wr h _ _ q,λ_ _ q=>Wr h _ _ q⟩
open PySem.W in
abbrev VE:List Value:=[.type "ValueError",.type "Exception",.type "BaseException",.type "object"]
structure Ec (K:Fg)(mg:Str->Option Value)(x:Str) where
 c:Addr
 xc:Xc K mg x c VE "ValueError.__new__"
theorem Sz.div (h:Sz n i)(hj:1<=j):Sz n (i/j):=by
 refine wZ ?_ h;obtain⟨h1,h2⟩:=J6 i (show 0<j by omega);by_cases q:0<=i/j
 .have:=wN hj q;omega
 .have:=wN hj (show 0<=-(i/j+1) by omega)
  have e:-(i/j+1)*j=-((i/j+1)*j):=yY _ _;omega
inductive Sco (n:Nat):D->Prop
 | non:Sco n .non
 | bl (b:Bool):Sco n (.bl b)
 | int (i:Int):Sco n (.int i)
 | str (x:Str):Sco n (.str x)
 | tup {ds:List D}:(∀d∈ds,Sco n d)->Sco n (.tup ds)
 | ref {m:Nat}:m<n->Sco n (.ref m)
 | exc (c:Addr):Sco n (.exc c)
theorem Rp.sco {r:List Addr}{H:Hp}{d:D}{v:V}(h:Rp r H d v):Sco r.length d:=by
 induction h with
 | non=>exact .non
 | bl b=>exact .bl b
 | int i=>exact .int i
 | str x=>exact .str x
 | @tup ds xs a _ l _ ih=>
  refine .tup λd hd=>?_
  obtain⟨i,hi,e⟩:=yO.mp hd;exact ih i d xs[i] (by simp[hi,e]) (by simp[l ▸ hi])
 | ref h=>exact .ref (zA.mp h).1
 | exc _=>exact .exc _
theorem Rp.low {r r':List Addr}{H:Hp}{d:D}{v:V}(h:Rp r' H d v)(low:∀m a,m<r.length->r'[m]?=some a->r[m]?=some a)(s:Sco r.length d):Rp r H d v:=by
 induction h with
 | non=>exact .non
 | bl b=>exact .bl b
 | int i=>exact .int i
 | str x=>exact .str x
 | tup e l f ih=>
  cases s with
  | tup s=>exact .tup e l λi d v h1 h2=>ih i d v h1 h2 (s d (zE h1))
 | ref h=>
  cases s with
  | ref s=>exact .ref (low _ _ s h)
 | exc h=>exact .exc h
def Pre (S S':Sto):Prop:=∀(n:Nat)(o:Ob),S[n]?=some o->S'[n]?=some o
theorem Pre.refl {S:Sto}:Pre S S:=λ_ _ h=>h
theorem Pre.push {S S':Sto}{o:Ob}(h:Pre S S'):Pre S (S'++[o]):=λn u e=>by
 have z:=h n u e;rw[zJ (zA.mp z).1];exact z
theorem Pre.trans {S S' S2:Sto}(h:Pre S S')(k:Pre S' S2):Pre S S2:=λn o e=>k n o (h n o e)
theorem Gb {r r':List Addr}{H H':Hp}(e:Ext r r' H H'):∀m a,m<r.length->r'[m]?=some a->r[m]?=some a:=λm a hm h=>by
 have z:r[m]?=some r[m]:=by simp[hm]
 rw[e.adr _ _ z] at h;rw[z];exact h
theorem ZW.low {K:Fg}{r r':List Addr}{S S':Sto}{H H':Hp}(h:ZW K r S H)(e:Ext r r' H H')(h':ZW K r' S' H')(p:Pre S S'):ZW K r S H':=by
 have rl:∀ {ds:List D} {xs ys:List V},Rps r H ds xs->Rps r' H' ds ys->Rps r H' ds ys:=λ{ds xs ys} a b=>⟨b.1,λi d v h1 h2=>by
  obtain⟨v0,_,q⟩:=a.get h1;exact(b.2 i d v h1 h2).low (Gb e) q.sco⟩
 refine⟨h.len,λn a o h1 h2=>?_,λn m a xs ys h1 h2 h3 h4 o1 o2=>h'.nd n m a xs ys (e.adr _ _ h1) (e.adr _ _ h2) (p _ _ h3) (p _ _ h4) o1 o2⟩;have q:=h.ob n a o h1 h2
 have q':=h'.ob n a o (e.adr _ _ h1) (p _ _ h2);cases o with
 | lst ds=>
  obtain⟨xs,_,a1⟩:=q;obtain⟨ys,b0,b1⟩:=q';exact⟨ys,b0,rl a1 b1⟩
 | frz ds=>
  obtain⟨xs,_,a1⟩:=q;obtain⟨ys,b0,b1⟩:=q';exact⟨ys,b0,rl a1 b1⟩
 | ins C fs=>
  obtain⟨_,_,_,a1⟩:=q;obtain⟨dx,fs',b0,b1⟩:=q';exact⟨dx,fs',b0,b1.1,rl a1.2 b1.2⟩
 | dct aV=>
  obtain⟨_,_,a1⟩:=q;obtain⟨ks,b0,b1⟩:=q';exact⟨ks,b0,b1.1,rl a1.2 b1.2⟩
 | dck aV=>
  obtain⟨_,_,a1⟩:=q;obtain⟨ks,b0,b1⟩:=q';exact⟨ks,b0,b1.1,rl a1.2 b1.2⟩
 | tpl ws=>exact q'
 | cod P pos q0=>exact q'
def Gc (S:Sto)(Q:DK):DK:=λd S'=>Pre S S'/\Sco S.length d/\Q d S
def GcX (S:Sto)(ex:Addr->Sto->Prop):Addr->Sto->Prop:=λc S'=>Pre S S'/\ex c S
theorem Ret.gc {K:Fg}{Z Z':Zx}{r:List Addr}{S:Sto}{H:Hp}{Q:DK}{Qv:VK}(h:Ret K Z r H Q Qv)(aZ:Rel K Z r S H):Ret K Z' r H (Gc S Q) Qv:=λv H' r' d S' e rel' p q=>by
 obtain⟨pre,sc,q⟩:=q;have e':Ext r r H H':=⟨λ_ _ z=>z,e.tup,e.xc⟩;rw[<- aZ.len] at sc;exact h v H' r d S e' ⟨aZ.b.low e rel'.b pre,aZ.xw.ext e'⟩ (p.low (Gb e) sc) q
theorem UL.gc {K:Fg}{ex:Addr->Sto->Prop}{E:XK}{r:List Addr}{S:Sto}{H:Hp}(aZ:Rel K (Zc ex E) r S H):UL K (Zc (GcX S ex) E) r H:=λdl σ c H' r' S' e _ rb q=>by
 obtain⟨pre,q⟩:=q;have e':Ext r r H H':=⟨λ_ _ z=>z,e.tup,e.xc⟩;exact aZ.xw [] [] c H' r S e' ⟨rfl,λi d z=>by simp at z⟩ (aZ.b.low e rb pre) q
section
variable {P:Program}{w:World}{K:Fg}{mg:Str->Option Value}{base:Heap}
def gcS (sd:Sd):Sd:=λds S Q ex=>∃Q0 ex0,Q=Gc S Q0/\ex=GcX S ex0/\sd ds S Q0 ex0
theorem fn_gc (h:Ye P w K mg base CX k f fd ps (upF K (gcS sd))):Ye P w K mg base CX k f fd ps (upF K sd):=by
 have imp:∀vs H Q E,upF K sd vs H Q E->upF K (gcS sd) vs H Q E:=λvs H Qv E ⟨ex,r,S,ds,Q,aZ,p,q,ret⟩=>
  ⟨GcX S ex,r,S,ds,Gc S Q,⟨aZ.b,UL.gc aZ⟩,p,⟨Q,ex,rfl,rfl,q⟩,ret.gc aZ⟩
 obtain⟨h1,h2⟩:=h;exact⟨λvs H Q E q=>h1 vs H Q E (imp vs H Q E q),λA outer s H args us vs Q E hr e0 hb rv q=>h2 A outer s H args us vs Q E hr e0 hb rv (imp vs H Q E q)⟩
end
theorem zed (len:∀ds S Q ex,sd ds S Q ex->ds.length=n):∀ds S Q ex,gcS sd ds S Q ex->ds.length=n:=λds S Q ex h=>by
 obtain⟨Q0,ex0,_,_,h⟩:=h;exact len _ _ _ _ h
structure Vo (sc around:Scope)(x:Str)(caps:List Str):Prop where
 kind:sc.kind=.function
 nocell:∀y∈sc.names,y.2≠.cell
 own:∀y∈sc.names,y.2=.local->sc.names.lookup y.1=some .local
 loc:sc.names.lookup x=some .local
 cap:∀y∈caps,sc.names.lookup y=some .free
 out:∀y∈sc.names,y.2=.free->around.names.lookup y.1=some .cell
theorem TJ {α:Type}{y:Str}{v:α}:∀ {l:List (Str×α)},l.lookup y=some v->(y,v)∈l
 | [],h=>by simp at h
 | (n,k)::r,h=>by
  cases e:y==n with
  | true=>
   rw[zW,e] at h;have z:k=v:=Option.some.inj h
   have z2:y=n:=by simpa using e
   rw[z,z2];exact yS
  | false=>
   rw[zW,e] at h;exact yG _ (TJ h)
theorem Jm:∀(l:List (Str×NameKind))(acc:List (Str×Addr)),(∀y∈l,y.2=.free->∃c,env.cells.lookup y.1=some c)->(∀x c,acc.lookup x=some c->env.cells.lookup x=some c)->
  ∃cl,(forIn l acc λx r=>(if (x.2==NameKind.free)=true then do let a <- cellOf env x.1;pure (ForInStep.yield ((x.1,a)::r)) else pure (ForInStep.yield r):Sem (ForInStep (List (Str×Addr)))))=pure cl/\
   (∀x c,cl.lookup x=some c->env.cells.lookup x=some c)/\(∀y∈l,y.2=.free->cl.lookup y.1=env.cells.lookup y.1)/\∀x c,acc.lookup x=some c->∃c',cl.lookup x=some c'
 | [],acc,_,ha=>⟨acc,by simp,ha,λy hy=>(by cases hy),λx c e=>⟨c,e⟩⟩
 | (n,k)::r,acc,h,ha=>by
  cases hk:(k==NameKind.free) with
  | false=>
   obtain⟨cl,h1,h2,h3,h4⟩:=Jm r acc (λy hy=>h y (yG _ hy)) ha;refine⟨cl,?_,h2,λy hy hf=>?_,h4⟩
   .rw[uC];simp[hk];simpa using h1
   .have hy':=zS.mp hy;rcases hy' with rfl|hy
    .rw[show k=NameKind.free from hf] at hk;exact absurd hk ⋯
    .exact h3 y hy hf
  | true=>
   have hf:k=NameKind.free:=by simpa using hk
   obtain⟨c,hc⟩:=h (n,k) yS hf;obtain⟨cl,h1,h2,h3,h4⟩:=Jm r ((n,c)::acc) (λy hy=>h y (yG _ hy)) (λx c' e=>by
    cases q:x==n with
    | true=>
     rw[zW,q] at e;have z:x=n:=by simpa using q
     rw[z,hc];exact e
    | false=>
     rw[zW,q] at e;exact ha x c' e)
   refine⟨cl,?_,h2,λy hy hf=>?_,λx c' e=>?_⟩
   .have ec:cellOf env n=pure c:=by unfold cellOf;rw[hc]
    rw[uC];simp[hk,ec];simpa using h1
   .have hy':=zS.mp hy;rcases hy' with rfl|hy
    .obtain⟨c',e⟩:=h4 n c (by simp);rw[e];exact(h2 _ _ e).symm
    .exact h3 y hy hf
   .refine h4 x (if x==n then c else c') ?_;cases q:x==n with
    | true=>simp[zW,q]
    | false=>simp[zW,q,e]
theorem Fu (h:∀y∈sc.names,y.2=.free->∃c,env.cells.lookup y.1=some c):
  ∃cl,closureFor sc env=pure cl/\(∀x c,cl.lookup x=some c->env.cells.lookup x=some c)/\∀y∈sc.names,y.2=.free->cl.lookup y.1=env.cells.lookup y.1:=by
 obtain⟨cl,h1,h2,h3,_⟩:=Jm sc.names [] h (λx c e=>by simp at e);refine⟨cl,?_,h2,h3⟩;unfold closureFor;simp only[bind_pure];exact h1
theorem Er {env:Env}:∀ {names:List (Str×NameKind)} {x:Str},names.lookup x=some .free->
  (names.map λ(n,k)=>if (k==NameKind.free&&env.scope.kind==.function&&env.kindOf n==some .cell) then (n,NameKind.cell) else (n,k)).lookup x=some .cell\/
  (names.map λ(n,k)=>if (k==NameKind.free&&env.scope.kind==.function&&env.kindOf n==some .cell) then (n,NameKind.cell) else (n,k)).lookup x=some .free
 | [],_,h=>by simp at h
 | (n,k)::r,x,h=>by
  have ih:=@Er env r x;rw[yH];cases hx:x==n with
  | true=>
   rw[zW,hx] at h;have hk:k=.free:=Option.some.inj h;subst hk;dsimp only;split
   .left;simp[zW,hx]
   .right;simp[zW,hx]
  | false=>
   rw[zW,hx] at h;dsimp only;split
   .simp only[zW,hx];exact ih h
   .simp only[zW,hx];exact ih h
theorem F5 {env:Env}:∀ {names:List (Str×NameKind)} {x:Str},(∀y∈names,y.2≠.cell)->
  ((names.map λ(n,k)=>if (k==NameKind.free&&env.scope.kind==.function&&env.kindOf n==some .cell) then (n,NameKind.cell) else (n,k)).lookup x=some .cell\/
  (names.map λ(n,k)=>if (k==NameKind.free&&env.scope.kind==.function&&env.kindOf n==some .cell) then (n,NameKind.cell) else (n,k)).lookup x=some .free)->names.lookup x=some .free
 | [],_,_,h=>by simp at h
 | (n,k)::r,x,hc,h=>by
  have ih:=@F5 env r x λy hy=>hc y (yG _ hy)
  rw[yH] at h;cases hx:x==n with
  | true=>
   rw[zW,hx];dsimp only at h;split at h
   .rename_i q;simp only[xT] at q;have hk:k=.free:=by simpa using q.1.1
    rw[hk]
   .simp only[zW,hx] at h;rcases h with h|h
    .exact absurd (Option.some.inj h) (hc (n,k) yS)
    .exact h
  | false=>
   rw[zW,hx];dsimp only at h;split at h
   .simp only[zW,hx] at h;exact ih h
   .simp only[zW,hx] at h;exact ih h
abbrev Cx.comp (X:Cx)(sc:Scope)(N:List Str)(cl:List (Str×Addr))(C:Addr)(s0:Shared)(H0:Hp)(fp:List Addr)(pn:LA):Cx:=
 { X with N:=N,env:=compEnvC sc cl C X.env,s₀:=s0,H₀:=H0,outer:=X.stack,stack:=X.stack,ex:=fp,fn:=λ_=>false,pn:=pn,xe:=λ_ _=>False }
def Yc (caps:List Nat)(σ:St):St:=caps.map λj=>(σ[j]?).join
def Z8 (caps:List Nat)(dl:Ev):Ev:=caps.map λj=>(dl[j]?).join
def SN (caps:List Nat)(wi:TI)(tc:TT)(te:TE):TE:=λσ H Q=>wi σ H λJ H1=>∀D,H1 D=none->∃W:Nat->Nat->Hp->Prop,(∃m,W 0 m (upd H1 D (.lst [])))/\∀i m H,W i m H->
 (J.stop i H/\Q (.ref D) H)\/(J.go i H/\∀x H',J.yld i H x H'->tc (some x::Yc caps σ) H' λb H2=>if b=true then te (some x::Yc caps σ) H2 λy H3=>∃ys,H3 D=some (.lst ys)/\ys.length<sizeLine/\∃m',m'<m/\W (i+1) m' (upd H3 D (.lst (ys++[y])))
  else ∃m',m'<m/\W (i+1) m' H2)
def PTs (Y:Cx)(ifs:List Expr)(tc:TT):Prop:=∀(pins:LA)(s:Shared)(σ:St)(H:Hp)(Q:Bool->Hp->Prop),Inv Y pins σ H s->tc σ H Q->
 wpAny (model Y.prog Y.w) Y.A (forIn ifs true λc r=>if r=true then do let ok <- isTrue c Y.env (eval c Y.env);pure (ForInStep.yield ok) else pure (ForInStep.yield r)) (TP Y pins σ Q) Y.xe s
theorem Dr:PTs Y [] (λ_ H Q=>Q true H):=λ_ _ _ H _ I h=>wpAny_tests_nil ⟨H,I,h⟩
theorem zht (h:PT Y c tc):PTs Y [c] tc:=λpins s σ H Q I q=>wpAny_tests_one (h pins s σ H Q I q)
section
variable {X:Cx}{pins:LA}{σ:St}{H:Hp}{s:Shared}
end
structure R4 (X:Cx)(pins:LA)(σ:St)(C:Addr)(Q:VK)(D:Addr)(s':Shared):Prop where
 q:∃H',Inv X pins σ H' s'/\Q (.ref D) H'/\H' C=none
 ns:∃m,s'.heap.Ns C m
 loc:C≠X.env.locals
 old:X.s₀.heap.objs.size<=C
 cell:∀x c,X.env.cells.lookup x=some c->c≠C
 pin:∀p∈X.pn++pins,p.1≠C
theorem zc0 {aW aU:Expr}{tg:Expr}{ifs:List Expr}{scope:Scope}{pos:Pos}{it acc:Value}{env:Env}{R:Result->Shared->Prop}(I:Nat->Shared->Prop)
  (turn:∀n s,I n s->wpAny (model prog w) A (pyNext it) (λr s1=>match r with
   | none=>R (.ok .next) s1
   | some v=>wpAny (model prog w) A (letOwnedTupleGo tg it v) (λ_ s2=>wpAny (model prog w) A (assign tg env v) (λ_ s3=>
     wpAny (model prog w) A (forIn ifs true λc r=>if r=true then do let ok <- isTrue c env (eval c env);pure (ForInStep.yield ok) else pure (ForInStep.yield r)) (λok s4=>
      if ok=true then wpAny (model prog w) A (eval aW env) (λx s5=>
       wpAny (model prog w) A (call (.builtin "list.append") [acc,x]) (λ_ s6=>∃m,m<n/\I m s6) (notedBy (model prog w) A env λe s'=>R (.error e) s') s5) (notedBy (model prog w) A env λe s'=>R (.error e) s') s4
      else ∃m,m<n/\I m s4) (notedBy (model prog w) A env λe s'=>R (.error e) s') s3)
     (notedBy (model prog w) A env λe s'=>R (.error e) s') s2) (notedBy (model prog w) A env λe s'=>R (.error e) s') s1) (notedBy (model prog w) A env λe s'=>R (.error e) s') s)
  (n:Nat)(h:I n s):codeAny (model prog w) A (.compLoop (.ListComp aW [⟨tg,aU,ifs,0⟩] scope pos) 0 it acc env) R s:=by
 refine codeAny_loop rfl I (λj t hI=>?_) n h;show wpAny _ A ((compTurn (.ListComp aW [⟨tg,aU,ifs,0⟩] scope pos) 0 it acc env).onRaise (λx=>do noteFrame x env;theTreesLotGoes x)) _ _ t;refine wpAny_noted ?_;rw[compTurn_list];refine wpAny_bind (wpAny_standAt (wpAny_bind (wpAny_mono (turn j t hI) (λr s1 h1=>?_) λ_ _ z=>z)));cases r with
 | none=>exact wpAny_pure h1
 | some v=>
  refine wpAny_bind (wpAny_mono h1 (λ_ s2 h2=>?_) λ_ _ z=>z);refine wpAny_bind (wpAny_mono h2 (λ_ s3 h3=>wpAny_bind (wpAny_mono h3 (λok s4 h4=>?_) λ_ _ z=>z)) λ_ _ z=>z);cases ok with
  | false=>exact wpAny_pure ⟨rfl,h4⟩
  | true=>exact wpAny_bind (wpAny_bind (wpAny_mono h4 (λx s5 h5=>wpAny_bind (wpAny_mono h5 (λ_ s6 h6=>wpAny_pure (wpAny_pure ⟨rfl,h6⟩)) λ_ _ z=>z)) λ_ _ z=>z))
structure Wd (sc around:Scope)(own caps:List Str):Prop where
 kind:sc.kind=.function
 nocell:∀y∈sc.names,y.2≠.cell
 own:∀y∈sc.names,y.2=.local->sc.names.lookup y.1=some .local
 cap:∀y∈caps,sc.names.lookup y=some .free
 out:∀y∈sc.names,y.2=.free->around.names.lookup y.1=some .cell
theorem zeS {sc:Scope}{own N:List Str}{caps:List Nat}{cl:List (Str×Addr)}{fp:List Addr}{h1:Heap}{m:Str->Option Value}{tk:Nat}(I:Inv X pins σ H s)(cs:Wd sc X.env.scope own N)
  (hN:∀(j:Nat)(y:Str),N[j]?=some y->∃i,caps[j]?=some i/\X.N[i]?=some y)(aM:caps.length=N.length)
  (c1:∀x c,cl.lookup x=some c->X.env.cells.lookup x=some c)(c2:∀y∈sc.names,y.2=.free->cl.lookup y.1=X.env.cells.lookup y.1)
  (hf:∀b∈fp,Yh X pins H b)(hfo:∀b∈fp,b<s.heap.objs.size)(hns:h1.Ns s.heap.objs.size m)(hk:∀b o,s.heap.get? b=some o->h1.get? b=some o):
  Inv (Cx.comp X sc (own++N) cl s.heap.objs.size s H fp (X.pn++pins)) [] (List.replicate own.length none++Yc caps σ) H { s with heap:=h1,toks:=tk }:=by
 have stk:∀b∈frs X.stack,b=X.env.locals\/b∈X.fs:=λb hb=>zS.mp (I.stkSub b hb)
 refine⟨⟨I.ok.mod,cs.kind,I.ok.glob,I.ok.blt,zC _,λa b c h1 h2=>I.ok.inj a b c (c1 _ _ h1) (c1 _ _ h2),λy hy=>?_,λ_ _ z=>Bool.noConfusion z,I.ok.hd,I.ok.frames,.inl rfl,λb hb=>⟨zK (hfo b hb),λy c e=>(hf b hb).2.2.2.2.1 y c (c1 _ _ e)⟩,
  I.bs,yE I.ok.bsz I.sz,λb o e hb=>?_,λb hb z=>?_,I.stack,I.stkFree⟩,rfl,I.bare,Un.kept hk,⟨m,hns,λi y v e1 e2 e3=>?_⟩,λy c e=>?_,I.hok.fresh (zC _),λy c e=>I.freeC y c (c1 _ _ e),λp hp=>?_,I.hok.kept hk,?_⟩
 .have hfr:sc.names.lookup y=some .free:=F5 cs.nocell hy
  have hm:=TJ hfr;obtain⟨c,e⟩:=I.ok.has y (.inl (cs.out _ hm rfl));exact⟨c,(c2 _ hm rfl).trans e⟩
 .rcases (hf b hb).2.2.2.1 with z|z
  .exact I.ok.noex b o e z
  .exact absurd (zR (Heap.lt_size (I.ok.bs b o e).1) z) (yK _)
 .rcases stk b z with z|z
  .exact(hf b hb).2.1 z
  .exact(hf b hb).2.2.1 z
 .rcases Nat.lt_or_ge i own.length with hi|hi
  .rw[zJ (by simpa using hi),wG] at e2;simp[hi] at e2
  .obtain⟨i,rfl⟩:∃k,i=own.length+k:=⟨i-own.length,by omega⟩;have e1':N[i]?=some y:=by
    rw[yC hi] at e1;simpa using e1
   have e2:(Yc caps σ)[i]?=some (some v):=by
    rw[yC (by simp)] at e2;simpa using e2
   obtain⟨j,hj,hy⟩:=hN i y e1';have e2':σ[j]?=some (some v):=by
    simp only[Yc,zF,hj,xU,Option.some.injEq] at e2;cases q:σ[j]? with
    | none=>rw[q] at e2;cases e2
    | some o=>rw[q] at e2;simp at e2;rw[e2]
   have hfr:sc.names.lookup y=some .free:=cs.cap y (zE e1')
   have hm:=TJ hfr
   have hce:X.env.scope.names.lookup y=some .cell:=cs.out _ hm rfl;obtain⟨m0,_,hl⟩:=I.loc;obtain⟨u,r,l⟩:=hl j y v hy e2' (.inr (.inl hce));refine⟨u,r,.inr ⟨Er hfr,?_⟩⟩;rcases l with ⟨k,_⟩|⟨_,c,ec,hcell⟩
   .rw[show X.env.kindOf y=some .cell from hce] at k;cases k
   .exact⟨c,(c2 _ hm rfl).trans ec,hcell.keeps hk⟩
 .obtain⟨v,z⟩:=I.cell y c (c1 _ _ e);exact⟨v,z.keeps hk⟩
 .have hp':p∈X.pn++pins:=by simpa using hp
  obtain⟨p1,p2,p3,p4,p5⟩:=I.pin p hp';refine⟨hk _ _ p1,p2,zK (Heap.lt_size p1),λz=>?_,p5⟩;rcases stk _ z with z|z
  .exact p3 z
  .exact p4 z
 .simp[Yc,aM]
theorem GG {tg:Expr}{K:It->Hp->Prop}{ifs:List Expr}{tc:TT}{use:Option (Value->Sem Unit)}{Qr:Value->Shared->Prop}(hc:X.calm=true)(cs:Wd sc X.env.scope own N)(hN:∀(j:Nat)(y:Str),N[j]?=some y->∃i,caps[j]?=some i/\X.N[i]?=some y)(aM:caps.length=N.length)
  (hi:PI X tg aU wi)(hg:∀cl C s0 H0 fp pn,PG (Cx.comp X sc (own++N) cl C s0 H0 fp pn) tg gt)(he:∀cl C s0 H0 fp pn,PE (Cx.comp X sc (own++N) cl C s0 H0 fp pn) aW te)
  (ht:∀cl C s0 H0 fp pn,PTs (Cx.comp X sc (own++N) cl C s0 H0 fp pn) ifs tc)(hs:∀y,foldedSetIterable aU X.env y=pure y)
  {pins:LA}{s:Shared}{σ:L2.St}{H:Hp}{Q:VK}{p2:Pos}(I:Inv X pins σ H s)(h:wi σ H K)(hK:∀J H1,K J H1->∀D,H1 D=none->∃W:Nat->Nat->Hp->Prop,(∃m,W 0 m (upd H1 D (.lst [])))/\∀i m H,W i m H->(J.stop i H/\Q (.ref D) H)\/(J.go i H/\∀x H',J.yld i H x H'->∀o:L2.St,o.length=own.length->gt x (o++Yc caps σ) H' λσ8 H8=>(∃o8:L2.St,o8.length=own.length/\σ8=o8++Yc caps σ)/\tc σ8 H8 λb H9=>if b=true then te σ8 H9 λy H3=>∃ys,H3 D=some (.lst ys)/\ys.length<sizeLine/\∃m',m'<m/\W (i+1) m' (upd H3 D (.lst (ys++[y]))) else ∃m',m'<m/\W (i+1) m' H9))
  (aY:∀D C s',R4 X pins σ C Q D s'->compPost (mX X) X.A X.xe use Qr (.ref D) C (.ok .next) s'):
  wpAny (mX X) X.A (comprehension (.ListComp aW [⟨tg,aU,ifs,0⟩] sc pos) sc X.env p2 (newList []) false (eval aU X.env) use) Qr X.xe s:=by
 obtain⟨cl,k1,k2,k3⟩:=Fu (sc:=sc) (env:=X.env) λy hy hf=>I.ok.has y.1 (.inl (cs.out y hy hf))
 refine wpAny_comprehension_free rfl hs k1 cs.kind cs.own (thn (hi pins s σ H _ I h) λv s1 h1=>thn h1 λitv s2 h2=>?_);obtain⟨it,fp,tn,J,H2,e,I2,T,st2,f2,body⟩:=h2;subst e;have hfo:∀b∈fp,b<s2.heap.objs.size:=λb hb=>by
  obtain⟨o,e,_⟩:=T.obj _ _ st2 b hb;exact Heap.lt_size e
 have hD:H2 s2.heap.objs.size=none:=I2.hok.fresh (zC _);obtain⟨W,⟨m0,w0⟩,turn⟩:=hK _ _ body _ hD;refine wpAny_newObj_type ?_;have I3:Inv X pins σ (upd H2 s2.heap.objs.size (.lst [])) { s2 with heap:=s2.heap.push { cls:=.type "list",dict:=none,data:=.seq ([]:List Value).toArray },toks:=s2.toks }:=
  I2.laid (t':=s2.toks) (λb u e=>Heap.get?_push_of_some _ e) (zC _) ⟨zN _,[],0,.nil,Heap.get?_push_size _ rfl⟩
 generalize hs3:({ s2 with heap:=s2.heap.push { cls:=.type "list",dict:=none,data:=.seq ([]:List Value).toArray },toks:=s2.toks }:Shared)=s3 at I3;have es3:({ s2 with heap:=s2.heap.push { cls:=.type "list",dict:=none,data:=.seq ([]:List Value).toArray } }:Shared)=s3:=hs3
 try rw[es3]
 have f3:∀b∈fp,Yh X pins (upd H2 s2.heap.objs.size (.lst [])) b:=λb hb=>⟨by rw[ZS (zK (hfo b hb))];exact(f2 b hb).1,(f2 b hb).2⟩
 have up3:∀b o,s2.heap.get? b=some o->s3.heap.get? b=some o:=λb o e=>by rw[<- hs3];exact Heap.get?_push_of_some _ e
 have st3:tn 0 s3.heap:=T.keep _ _ _ st2 λb _ o e=>up3 b o e
 have hfo3:∀b∈fp,b<s3.heap.objs.size:=λb hb=>by
  obtain⟨o,e,_⟩:=T.obj _ _ st3 b hb;exact Heap.lt_size e
 refine wpAny_newFunctionEnv cs.nocell (λy hy=>by simp at hy) (λh4 ns4 sb4=>?_) cs.kind;have hk4:∀b o,s3.heap.get? b=some o->h4.get? b=some o:=λb o e=>(sb4.2 b (zK (Heap.lt_size e))).trans (Heap.get?_push_of_some _ e)
 have I4:=zeS (tk:=s3.toks+([]:List (Str×Value)).length) I3 cs hN aM k2 k3 f3 hfo3 ns4 hk4;generalize hs4:({ s3 with heap:=h4,toks:=s3.toks+([]:List (Str×Value)).length }:Shared)=s4 at I4 ⊢;have eh4:s4.heap=h4:=by rw[<- hs4]
 have st4:tn 0 s4.heap:=by rw[eh4];exact T.keep _ _ _ st3 λb _ o e=>hk4 b o e
 have fY:∀ {H':Hp},(∀b∈fp,H' b=none)->∀b∈fp,Yh (Cx.comp X sc (own++N) cl s3.heap.objs.size s3 (upd H2 s2.heap.objs.size (.lst [])) fp (X.pn++pins)) [] H' b:=λhn b hb=>by
  obtain⟨_,z2,z3,z4,z5,z6⟩:=f3 b hb;refine⟨hn b hb,zK (hfo3 b hb),λz=>?_,.inl hb,λy c e=>z5 y c (k2 _ _ e),λp hp=>z6 p (by simpa using hp)⟩;rcases zS.mp (I3.stkSub b z) with z|z
  .exact z2 z
  .exact z3 z
 have loop:codeAny (mX X) X.A (.compLoop (.ListComp aW [⟨tg,aU,ifs,0⟩] sc pos) 0 (.ref it) (.ref s2.heap.objs.size) (compEnvC sc cl s3.heap.objs.size X.env))
   (compPost (mX X) X.A X.xe use Qr (.ref s2.heap.objs.size) s3.heap.objs.size) s4:=by
  refine zc0 (λn s'=>∃i o H',o.length=own.length/\Inv (Cx.comp X sc (own++N) cl s3.heap.objs.size s3 (upd H2 s2.heap.objs.size (.lst [])) fp (X.pn++pins)) [] (o++Yc caps σ) H' s'/\tn i s'.heap/\(∀b∈fp,H' b=none)/\W i n H') ?_ m0
   ⟨0,_,_,vX,I4,st4,λb hb=>(f3 b hb).1,w0⟩
  rintro n s5 ⟨i,o,H5,ho,I5,st5,fr5,w5⟩;rcases turn i n H5 w5 with ⟨stop,q⟩|⟨go,step⟩
  .refine thn (T.done (Cx.comp X sc (own++N) cl s3.heap.objs.size s3 (upd H2 s2.heap.objs.size (.lst [])) fp (X.pn++pins)) rfl rfl rfl hc i [] s5 _ H5 _ I5 (fY fr5) st5 stop) λr s6 ⟨hr,I6⟩=>?_
   subst hr;refine aY _ _ _ ⟨⟨H5,I3.call' I6.os I6.base I6.hok I6.bare (λb hb=>?_),q,I6.free⟩,?_,yT I3.lt,I3.sz,λy c e z=>?_,λp hp z=>?_⟩
   .obtain⟨_,z2,z3,z4,z5,z6⟩:=f3 b hb;exact⟨z4,z2,z5,z6⟩
   .obtain⟨m,hm,_⟩:=I6.loc;exact⟨m,hm⟩
   .obtain⟨v,hv⟩:=I3.cell y c e;exact absurd (z ▸ hv.lt) (yK _)
   .exact absurd (z ▸ Heap.lt_size (I3.pin p hp).1) (yK _)
  .refine thn (T.item (Cx.comp X sc (own++N) cl s3.heap.objs.size s3 (upd H2 s2.heap.objs.size (.lst [])) fp (X.pn++pins)) rfl rfl rfl hc i [] s5 _ H5 _ I5 (fY fr5) st5 go) λr s6 ⟨u,hr,h6⟩=>?_
   subst hr;refine wpAny_mono h6 (λ_ s7 ⟨y,H7,I7,r7,y7,st7,fr7⟩=>?_) λ_ _ z=>z
   have I7':=I7.pinned (fY fr7) (T.obj _ _ st7);refine wpAny_mono (hg _ _ _ _ _ _ _ s7 _ H7 y u _ I7' r7 (step y H7 y7 o ho)) (λ_ s8 ⟨σ8,H8,I8,⟨o8,ho8,e8⟩,q8⟩=>?_) λ_ _ z=>z.elim
   subst e8;have stay:∀ {H':Hp} {s':Shared},Inv (Cx.comp X sc (own++N) cl s3.heap.objs.size s3 (upd H2 s2.heap.objs.size (.lst [])) fp (X.pn++pins)) ([]++Pa fp s7.heap) (o8++Yc caps σ) H' s'->∀m',m'<n->W (i+1) m' H'->
     ∃m,m<n/\∃i o H',o.length=own.length/\Inv (Cx.comp X sc (own++N) cl s3.heap.objs.size s3 (upd H2 s2.heap.objs.size (.lst [])) fp (X.pn++pins)) [] (o++Yc caps σ) H' s'/\tn i s'.heap/\(∀b∈fp,H' b=none)/\W i m H':=λ{H' s'} J m' hm w'=>by
    refine⟨m',hm,i+1,o8,H',ho8,J.unpinned,T.keep _ _ _ st7 λb hb o e=>(J.pin (b,o) (yM _ (yM _ (PC hb e)))).1,λb hb=>?_,w'⟩;obtain⟨o,e,d⟩:=T.obj _ _ st7 b hb;exact(J.pin (b,o) (yM _ (yM _ (PC hb e)))).2.1
   refine wpAny_mono (ht _ _ _ _ _ _ _ s8 _ H8 _ I8 q8) (λb s9 ⟨H9,I9,q9⟩=>?_) λ_ _ z=>z.elim
   cases b with
   | false=>
    rw[if_neg zI] at q9 ⊢;obtain⟨m',hm,w9⟩:=q9;exact stay I9 m' hm w9
   | true=>
    rw[if_pos rfl] at q9 ⊢;refine wpAny_mono (he _ _ _ _ _ _ _ s9 _ H9 _ I9 q9) (λu2 s10 ⟨z,H10,I10,r10,q10⟩=>?_) λ_ _ z=>z.elim
    obtain⟨ys,hD10,hlt,m',hm,w10⟩:=q10;refine wpAny_mono (Cm (X:=(Cx.comp X sc (own++N) cl s3.heap.objs.size s3 (upd H2 s2.heap.objs.size (.lst [])) fp (X.pn++pins))) _ s10 _ H10 (.ref s2.heap.objs.size) [z] (.ref s2.heap.objs.size) [u2] (λ_ H'=>H'=upd H10 s2.heap.objs.size (.lst (ys++[z]))) I10 rfl (.cons r10 .nil) ⟨_,ys,z,rfl,rfl,hD10,hlt,rfl⟩) (λ_ s11 ⟨_,H11,I11,_,e11⟩=>?_) λ_ _ z=>z.elim
    subst e11;exact stay I11 m' hm w10
 exact codeAny_compStart_list loop (T.self _ 0 s4 _ _ st4 loop)
section
variable {X:Cx}{aW aU:Expr}{x:Str}{px pos:Pos}{ifs:List Expr}{sc:Scope}{N:List Str}{caps:List Nat}{wi:TI}{tc:TT}{te:TE}
theorem CC (hc:X.calm=true)(cs:Vo sc X.env.scope x N)(hN:∀(j:Nat)(y:Str),N[j]?=some y->∃i,caps[j]?=some i/\X.N[i]?=some y)(aM:caps.length=N.length)(hnd:(x::N).Nodup)(hi:PI X (.Name x px) aU wi)(ht:∀cl C s0 H0 fp pn,PTs (Cx.comp X sc (x::N) cl C s0 H0 fp pn) ifs tc)(he:∀cl C s0 H0 fp pn,PE (Cx.comp X sc (x::N) cl C s0 H0 fp pn) aW te)(hs:∀y,foldedSetIterable aU X.env y=pure y)(I:Inv X pins σ H s)(h:SN caps wi tc te σ H Q)(aY:∀D C s',R4 X pins σ C Q D s'->compPost (mX X) X.A X.xe use Qr (.ref D) C (.ok .next) s'):
  wpAny (mX X) X.A (comprehension (.ListComp aW [⟨.Name x px,aU,ifs,0⟩] sc pos) sc X.env p2 (newList []) false (eval aU X.env) use) Qr X.xe s:=by
 refine GG (own:=[x]) (gt:=Hu 0) hc ⟨cs.kind,cs.nocell,cs.own,cs.cap,cs.out⟩ hN aM hi (λcl C s0 H0 fp pn=>Uq hnd rfl (.inl (lookup_relabel_local cs.loc)) (.inr (lookup_relabel_local cs.loc))) he ht hs I h (λJ H1 b D hD=>?_) aY;obtain⟨W,w0,turn⟩:=b D hD;refine⟨W,w0,λi m H w=>(turn i m H w).imp id λ⟨go,st⟩=>⟨go,λv H' y o ho=>?_⟩⟩
 match o,ho with
 | [_],_=>exact⟨⟨[some v],rfl,rfl⟩,st v H' y⟩
theorem Xj (h:caps.map (λi=>X.N[i]?)=N.map some):(∀(j:Nat)(y:Str),N[j]?=some y->∃i,caps[j]?=some i/\X.N[i]?=some y)/\caps.length=N.length:=by
 refine⟨λj y e=>?_,by simpa using congrArg List.length h⟩;have z:(caps.map (λi=>X.N[i]?))[j]?=some (some y):=by rw[h,zF,e];rfl
 rw[zF] at z;cases q:caps[j]? with
 | none=>rw[q] at z;cases z
 | some i=>rw[q] at z;exact⟨i,rfl,by simpa using z⟩
theorem Io (hc:X.calm=true)(cs:Vo sc X.env.scope x N)(hN:Hn X caps N)(hnd:(x::N).Nodup)
  (hi:PI X (.Name x px) aU wi)(ht:∀cl C s0 H0 fp pn,PTs (Cx.comp X sc (x::N) cl C s0 H0 fp pn) ifs tc)(he:∀cl C s0 H0 fp pn,PE (Cx.comp X sc (x::N) cl C s0 H0 fp pn) aW te)
  (hs:∀y,foldedSetIterable aU X.env y=pure y:=by intro _;rfl):PE X (.ListComp aW [⟨.Name x px,aU,ifs,0⟩] sc pos) (SN caps wi tc te):=by
 intro pins s σ H Q I h;rw[eval_ListComp];refine CC (use:=none) hc cs (Xj hN).1 (Xj hN).2 hnd hi ht he hs I h λD C s' f=>?_
 obtain⟨⟨H',I',q,hC⟩,⟨m,ns⟩,l,o,c,p⟩:=f;exact⟨m,ns,λh' sb=>⟨.ref D,H',I'.turned (t':=s'.toks) (λb ob hb e=>(sb.2 b hb).trans e) hC l (.inr o) c p,rfl,q⟩⟩
theorem GJ {tg:Expr}{ifs:List Expr}{T:TE}{i:Nat}{y:Str}{py spos:Pos}
  (core:∀ {use:Option (Value->Sem Unit)} {Qr:Value->Shared->Prop} {pins:LA} {s:Shared} {σ:St} {H:Hp} {Q:VK} {p2:Pos},Inv X pins σ H s->T σ H Q->(∀D C s',R4 X pins σ C Q D s'->compPost (mX X) X.A X.xe use Qr (.ref D) C (.ok .next) s')->
   wpAny (mX X) X.A (comprehension (.ListComp aW [⟨tg,aU,ifs,0⟩] sc pos) sc X.env p2 (newList []) false (eval aU X.env) use) Qr X.xe s)
  (hNd:X.N.Nodup)(hy:X.N[i]?=some y)(hl:X.env.scope.names.lookup y=some .local)(hsw:swapsWith (.ListComp aW [⟨tg,aU,ifs,0⟩] sc pos) (some (.Name y py)) spos.line X.env=pure true):
  PS X (.Assign [.Name y py] (.ListComp aW [⟨tg,aU,ifs,0⟩] sc pos) spos) (λE σ H=>T σ H λv H1=>E.nx (σ.set i (some v)) H1):=by
 intro pins s σ H E I h;rw[exec_Assign_Name_used (hs:=hsw)];refine wpAny_bind (wpAny_standAt ?_);refine wpAny_bind ?_;show wpAny _ _ (comprehension _ sc X.env _ (newList []) false (eval aU X.env) (some (assign (.Name y py) X.env)) >>= λ_=>pure Unit.unit) _ _ s
 refine wpAny_bind (thn (core (use:=some (assign (.Name y py) X.env)) (Qr:=λ_ s'=>SP X pins E .next s') I h λD C s' f=>?_) λ_ s' hq=>wpAny_pure (wpAny_pure hq));obtain⟨⟨H',I',q,hC⟩,⟨m,ns⟩,l,o,c,p⟩:=f;refine wpAny_assign_Name (FG (v:=.ref D) I' hNd hy (.inl hl) rfl (λs'' I'' ⟨a,sb,ha⟩=>⟨m,ns.sameBut sb ?_,λh' sb'=>⟨_,H',I''.turned (t':=s''.toks) (λb ob hb e=>(sb'.2 b hb).trans e) hC l (.inr o) c p,q⟩⟩) (.inr hl));rcases ha with rfl|ha
 .exact l
 .exact Ne.symm (c _ _ ha)
theorem Dj (hc:X.calm=true)(cs:Vo sc X.env.scope x N)(hN:Hn X caps N)(hnd:(x::N).Nodup)(hi:PI X (.Name x px) aU wi)(ht:∀cl C s0 H0 fp pn,PTs (Cx.comp X sc (x::N) cl C s0 H0 fp pn) ifs tc)(he:∀cl C s0 H0 fp pn,PE (Cx.comp X sc (x::N) cl C s0 H0 fp pn) aW te)(hNd:X.N.Nodup)(hy:X.N[i]?=some y)(hl:X.env.scope.names.lookup y=some .local)(hsw:swapsWith (.ListComp aW [⟨.Name x px,aU,ifs,0⟩] sc pos) (some (.Name y py)) spos.line X.env=pure true)(hs:∀y,foldedSetIterable aU X.env y=pure y:=by intro _;rfl):PS X (.Assign [.Name y py] (.ListComp aW [⟨.Name x px,aU,ifs,0⟩] sc pos) spos) (λE σ H=>SN caps wi tc te σ H λv H1=>E.nx (σ.set i (some v)) H1):=
 GJ (λI h aY=>CC hc cs (Xj hN).1 (Xj hN).2 hnd hi ht he hs I h aY) hNd hy hl hsw
end
section
variable {X:Cx}{Z:Zx}{aW aU:Expr}{x:Str}{px pos:Pos}{ifs:List Expr}{sc ar:Scope}{N:List Str}{caps:List Nat}
theorem Hc {r:List Addr}{H:Hp}{dl:Ev}{σ:St}{d:D}{v:V}(h:Rs r H dl σ)(p:Rp r H d v):Rs r H (some d::Z8 caps dl) (some v::Yc caps σ):=by
 refine⟨by simp[Z8,Yc],λi e hi=>?_⟩;cases i with
 | zero=>simp at hi;subst hi;exact⟨v,rfl,p⟩
 | succ i=>
  simp only[uD,Z8,zF] at hi;cases q:caps[i]? with
  | none=>rw[q] at hi;cases hi
  | some j=>
   rw[q] at hi;simp only[xU,Option.some.injEq] at hi;have hj:dl[j]?=some (some e):=by
    cases q2:dl[j]? with
    | none=>rw[q2] at hi;cases hi
    | some o=>rw[q2] at hi;simp at hi;rw[hi]
   obtain⟨w,h1,h2⟩:=h.2 j e hj;refine⟨w,?_,h2⟩;simp only[uD,Yc,zF,q,xU,h1,Option.join_some]
def W0 (Y:Cx)(ifs:List Expr)(t:TDT):Prop:=PTs Y ifs (upT Y.K Z0 t)
def YH:TDT:=λ_ S Q=>Q true S
theorem BX:W0 Y [] YH:=λpins s σ H Qb I ⟨r,dl,S,Q,rs,aZ,q,ret⟩=>Dr pins s σ H Qb I (ret true H r S Ext.refl aZ q)
theorem Nw (h:PDT Y Z0 c t):W0 Y [c] t:=zht h
def WS (caps:List Nat)(tc:TDT)(te:TDE)(k:Nat)(dl:Ev)(d:D)(S:Sto)(nx:Sto->Prop):Prop:=
 tc (some d::Z8 caps dl) S λb S1=>if b=true then te (some d::Z8 caps dl) S1 λy S2=>match S2[k]? with
  | some (.lst ys)=>ys.length<1000/\nx (S2.set k (.lst (ys++[y])))
  | _=>False
 else nx S1
@[irreducible] def XG (caps:List Nat)(tl:TDE)(tc:TDT)(te:TDE):TDE:=λdl S Q=>tl dl S λd S1=>match d with
 | .ref n=>(lAt S1 n).isSome=true/\∃W:Nat->Nat->Sto->Prop,(∃m,W 0 m (S1++[.lst []]))/\∀k m S2,W k m S2->match lAt S2 n with
  | some o=>match (Zm o)[k]? with
   | some y=>WS caps tc te S1.length dl y S2 λS3=>∃m',m'<m/\W (k+1) m' S3
   | none=>Q (.ref S1.length) S2
  | none=>False
 | _=>False
@[irreducible] def W8 (caps:List Nat)(ta:TDA)(tc:TDT)(te:TDE):TDE:=λdl S Q=>ta dl S λds S1=>match ds with
 | [.int j]=>(-(2^62)<=j/\j<2^62)/\∃W:Nat->Sto->Prop,W 0 (S1++[.lst []])/\∀k S2,W k S2->
   if k<j.toNat then WS caps tc te S1.length dl (.int k) S2 λS3=>W (k+1) S3 else Q (.ref S1.length) S2
 | _=>False
theorem Ha {tc:TDT}{te:TDE}{r2:List Addr}{H2:Hp}{S1 S2:Sto}{dl:Ev}{σ:St}{D0:Addr}{d:D}{v:V}{nx:Sto->Prop}{Nx:Hp->Prop}(rs:Rs r2 H2 dl σ)(ha:r2[S1.length]?=some D0)(rb:ZW X.K r2 S2 H2)(p:Rp r2 H2 d v)
  (h:WS caps tc te S1.length dl d S2 nx)(hn:∀r' S' H',Ext r2 r' H2 H'->ZW X.K r' S' H'->nx S'->Nx H'):
  upT X.K Z0 tc (some v::Yc caps σ) H2 λb H3=>if b=true then up X.K Z0 te (some v::Yc caps σ) H3 λy H4=>∃ys,H4 D0=some (.lst ys)/\ys.length<sizeLine/\Nx (upd H4 D0 (.lst (ys++[y]))) else Nx H3:=by
 have rsY:Rs r2 H2 (some d::Z8 caps dl) (some v::Yc caps σ):=Hc rs p;refine⟨r2,_,S2,_,rsY,⟨rb,λ_ _ _ _ _ _ _ _ _ z=>z.elim⟩,h,λb H3 r3 S3 x3 aE q3=>?_⟩;cases b with
 | false=>rw[if_neg zI] at q3 ⊢;exact hn r3 S3 H3 x3 aE.b q3
 | true=>
  rw[if_pos rfl] at q3 ⊢;refine⟨r3,_,S3,_,rsY.ext x3,aE,q3,λz H4 r4 dz S4 x4 aF p4 q4=>?_⟩;split at q4
  .rename_i ys eys;obtain⟨hl,q4⟩:=q4;have ha4:r4[S1.length]?=some D0:=x4.adr _ _ (x3.adr _ _ ha);obtain⟨zs,hD4,pz⟩:=aF.b.ob _ _ _ ha4 eys;obtain⟨rel5,x5⟩:=aF.b.set ha4 eys (pz.snoc p4);exact⟨zs,hD4,by rw[<- pz.1];exact Q6 (yL hl),hn r4 _ _ (x3.trans (x4.trans x5)) rel5 q4⟩
  .exact q4.elim
theorem S7 {r:List Addr}{D0:Addr}{n:Nat}(h:r.length=n):(r++[D0])[n]?=some D0:=by subst h;simp
theorem De {tl:TDE}{tc:TDT}{te:TDE}{σ:St}{H:Hp}{Qv:VK}(h:up X.K Z (XG caps tl tc te) σ H Qv):SN caps (ED X.K (up X.K Z tl)) (upT X.K Z0 tc) (up X.K Z0 te) σ H Qv:=by
 obtain⟨r,dl,S,Q,rs,aZ,h,ret⟩:=h;unfold XG at h;refine⟨r,dl,S,_,rs,aZ,h,λv H1 r1 d S1 x1 aB p1 q1=>?_⟩;cases p1 with
 | @ref n a hn=>
  obtain⟨aQ,W,⟨m0,w0⟩,turn⟩:=q1;have sql:∀ {r':List Addr} {S':Sto} {H':Hp} {o:Ob},Ext r1 r' H1 H'->ZW X.K r' S' H'->lAt S' n=some o->∃xs,SqL X.K H' a xs/\Rps r' H' (Zm o) xs:=λ{r' S' H' o} x' rel' eo=>by
   obtain⟨eo,eL⟩:=Y1 eo;obtain⟨a',ha,ob⟩:=rel'.at eo;rw[x'.adr n a hn] at ha;cases ha
   exact ob.list eL
  obtain⟨o1,eo1⟩:=yN.mp aQ;obtain⟨xs1,sq1,_⟩:=sql Ext.refl aB.b eo1;refine⟨a,rfl,⟨xs1,sq1⟩,λD0 hD=>?_⟩;obtain⟨aC,x2⟩:=aB.b.push (ds:=[]) (xs:=[]) hD Rps.nil;refine⟨λk m H'=>∃r' S',Ext (r1++[D0]) r' (upd H1 D0 (.lst [])) H'/\ZW X.K r' S' H'/\W k m S',⟨m0,_,_,Ext.refl,aC,w0⟩,?_⟩;rintro k m H2 ⟨r2,S2,x3,rb2,w2⟩;have ha2:r2[S1.length]?=some D0:=x3.adr _ _ (S7 aB.len)
  have q:=turn k m S2 w2;split at q
  .rename_i o eo;obtain⟨xs,sq,pr⟩:=sql (x2.trans x3) rb2 eo;split at q
   .rename_i y ey;obtain⟨v,hv,pv⟩:=pr.get ey;refine .inr ⟨⟨xs,v,sq,hv⟩,λv' H' y'=>?_⟩;obtain⟨eH,y'⟩:=y';subst eH;have ev:v'=v:=by
     have z:=y' xs sq;rw[hv] at z;exact(Option.some.inj z).symm
    subst ev;exact Ha (rs.ext (x1.trans (x2.trans x3))) ha2 rb2 pv q λr' S' H' x' rb' ⟨m',hm,w'⟩=>⟨m',hm,r',S',x3.trans x',rb',w'⟩
   .rename_i ey;have aM:(Zm o).length<=k:=yP.mp ey;exact .inl ⟨⟨xs,sq,by rw[<- pr.1];exact aM⟩,ret _ H2 r2 _ S2 (x1.trans (x2.trans x3)) ⟨rb2,aZ.xw.ext (x1.trans (x2.trans x3))⟩ (.ref ha2) q⟩
  .exact q.elim
 | _=>exact(show False from q1).elim
theorem DX {ta:TDA}{tc:TDT}{te:TDE}{σ:St}{H:Hp}{Qv:VK}(h:up X.K Z (W8 caps ta tc te) σ H Qv):SN caps (Be (upA X.K Z ta)) (upT X.K Z0 tc) (up X.K Z0 te) σ H Qv:=by
 obtain⟨r,dl,S,Q,rs,aZ,h,ret⟩:=h;unfold W8 at h;refine⟨r,dl,S,_,rs,aZ,h,λvs H1 r1 ds S1 x1 aB p1 q1=>?_⟩;split at q1
 .rename_i j;obtain⟨v,vs',rfl,p2,p3⟩:=p1.uncons;have z:=p3.unnil;subst z;cases p2;obtain⟨⟨b1,b2⟩,W,w0,turn⟩:=q1;refine⟨j,rfl,b1,b2,λD0 hD=>?_⟩;obtain⟨aC,x2⟩:=aB.b.push (ds:=[]) (xs:=[]) hD Rps.nil;refine⟨λk m H'=>m=j.toNat-k/\∃r' S',Ext (r1++[D0]) r' (upd H1 D0 (.lst [])) H'/\ZW X.K r' S' H'/\W k S',⟨j.toNat,by simp,_,_,Ext.refl,aC,w0⟩,?_⟩;rintro k m H2 ⟨em,r2,S2,x3,rb2,w2⟩;have ha2:r2[S1.length]?=some D0:=x3.adr _ _ (S7 aB.len)
  have q:=turn k S2 w2;split at q
  .rename_i hk;refine .inr ⟨hk,λv' H' y'=>?_⟩;obtain⟨eH,y'⟩:=y';subst eH;subst y';have pk:Rp r2 H' (.int (k:Int)) (.int (0+(k:Int))):=by rw[Int.zero_add];exact .int _
   exact Ha (rs.ext (x1.trans (x2.trans x3))) ha2 rb2 pk q
    λr' S' H' x' rb' w'=>⟨j.toNat-(k+1),by omega,rfl,r',S',x3.trans x',rb',w'⟩
  .rename_i hk;exact .inl ⟨by show j.toNat<=k;omega,ret _ H2 r2 _ S2 (x1.trans (x2.trans x3)) ⟨rb2,aZ.xw.ext (x1.trans (x2.trans x3))⟩ (.ref ha2) q⟩
 .exact q1.elim
theorem X1 (har:X.env.scope=ar)(hc:X.calm=true)(cs:Vo sc ar x N)(hN:Hn X caps N)(hnd:(x::N).Nodup)(hl:PD X Z aU tl)(ht:∀cl C s0 H0 fp pn,W0 (Cx.comp X sc (x::N) cl C s0 H0 fp pn) ifs tc)(he:∀cl C s0 H0 fp pn,PD (Cx.comp X sc (x::N) cl C s0 H0 fp pn) Z0 aW te)(hs:∀y,foldedSetIterable aU X.env y=pure y:=by intro _;rfl):PD X Z (.ListComp aW [⟨.Name x px,aU,ifs,0⟩] sc pos) (XG caps tl tc te):=by
 subst har;exact Z5 (Io hc cs hN hnd (tc:=upT X.K Z0 tc) (te:=up X.K Z0 te) (KW hl) ht he hs) λ_ _ _ h=>De h
theorem J8 (har:X.env.scope=ar)(hc:X.calm=true)(cs:Vo sc ar x N)(hN:Hn X caps N)(hnd:(x::N).Nodup)(hg:Gl X "range")(hm:X.mg "range"=none)(ha:PDA X Z [a] ta)(ht:∀cl C s0 H0 fp pn,W0 (Cx.comp X sc (x::N) cl C s0 H0 fp pn) ifs tc)(he:∀cl C s0 H0 fp pn,PD (Cx.comp X sc (x::N) cl C s0 H0 fp pn) Z0 aW te)(hs:∀y,foldedSetIterable (.Call (.Name "range" p) [a] [] aK) X.env y=pure y:=by intro _;rfl)(hst:starEach [a] X.env=[(false,eval a X.env)]:=by rfl):
  PD X Z (.ListComp aW [⟨.Name x px,.Call (.Name "range" p) [a] [] aK,ifs,0⟩] sc pos) (W8 caps ta tc te):=by
 subst har;exact Z5 (Io hc cs hN hnd (tc:=upT X.K Z0 tc) (te:=up X.K Z0 te) (IJ hg hm ha hst) ht he hs) λ_ _ _ h=>DX h
theorem Oj {t:TE}{td:TDE}{i:Nat}{F:Vv}{σ:St}{H:Hp}(imp:∀Qv,up X.K Z td σ H Qv->t σ H Qv)(h:upS X.K Z (λE dl S=>td dl S λd S1=>E.nx (dl.set i (some d)) S1) F σ H):t σ H λv H1=>F.nx (σ.set i (some v)) H1:=by
 obtain⟨r,dl,S,E,rs,aZ,h,ret⟩:=h;exact imp _ ⟨r,dl,S,_,rs,aZ,h,λv H1 r1 d S1 x aB p q=>ret.nx _ H1 r1 _ S1 x ((rs.ext x).set i p) aB q⟩
theorem SD {tl:TDE}{tc:TDT}{te:TDE}{i:Nat}{y:Str}{py spos:Pos}(har:X.env.scope=ar)(hc:X.calm=true)(cs:Vo sc ar x N)(hN:Hn X caps N)(hnd:(x::N).Nodup)(hNd:X.N.Nodup)(hy:X.N[i]?=some y)(hlo:ar.names.lookup y=some .local)
  (hl:PD X Z aU tl)(ht:∀cl C s0 H0 fp pn,W0 (Cx.comp X sc (x::N) cl C s0 H0 fp pn) ifs tc)(he:∀cl C s0 H0 fp pn,PD (Cx.comp X sc (x::N) cl C s0 H0 fp pn) Z0 aW te)
  (hsw:swapsWith (.ListComp aW [⟨.Name x px,aU,ifs,0⟩] sc pos) (some (.Name y py)) spos.line X.env=pure true:=by rfl)
  (hs:∀y,foldedSetIterable aU X.env y=pure y:=by intro _;rfl):PDS X Z (.Assign [.Name y py] (.ListComp aW [⟨.Name x px,aU,ifs,0⟩] sc pos) spos) (SI i (XG caps tl tc te)):=by
 subst har;exact Yw (Dj hc cs hN hnd (tc:=upT X.K Z0 tc) (te:=up X.K Z0 te) (KW hl) ht he hNd hy hlo hsw hs) λF σ H h=>Oj (λ_ h=>De h) h
theorem GR {ta:TDA}{tc:TDT}{te:TDE}{a:Expr}{p aK:Pos}{i:Nat}{y:Str}{py spos:Pos}(har:X.env.scope=ar)(hc:X.calm=true)(cs:Vo sc ar x N)(hN:Hn X caps N)(hnd:(x::N).Nodup)(hNd:X.N.Nodup)(hy:X.N[i]?=some y)
  (hlo:ar.names.lookup y=some .local)(hg:Gl X "range")(hm:X.mg "range"=none)(ha:PDA X Z [a] ta)
  (ht:∀cl C s0 H0 fp pn,W0 (Cx.comp X sc (x::N) cl C s0 H0 fp pn) ifs tc)(he:∀cl C s0 H0 fp pn,PD (Cx.comp X sc (x::N) cl C s0 H0 fp pn) Z0 aW te)
  (hsw:swapsWith (.ListComp aW [⟨.Name x px,.Call (.Name "range" p) [a] [] aK,ifs,0⟩] sc pos) (some (.Name y py)) spos.line X.env=pure true:=by rfl)
  (hs:∀y,foldedSetIterable (.Call (.Name "range" p) [a] [] aK) X.env y=pure y:=by intro _;rfl)(hst:starEach [a] X.env=[(false,eval a X.env)]:=by rfl):
  PDS X Z (.Assign [.Name y py] (.ListComp aW [⟨.Name x px,.Call (.Name "range" p) [a] [] aK,ifs,0⟩] sc pos) spos) (SI i (W8 caps ta tc te)):=by
 subst har;exact Yw (Dj hc cs hN hnd (tc:=upT X.K Z0 tc) (te:=up X.K Z0 te) (IJ hg hm ha hst) ht he hNd hy hlo hsw hs) λF σ H h=>Oj (λ_ h=>DX h) h
@[irreducible] def W4 (to te:TDE):TDE:=λdl S Q=>to dl S λx S1=>match x with
 | .ref n=>match S1[n]? with
  | some (.lst _)=>te dl S1 λy S2=>match S2[n]? with
   | some (.lst xs)=>if xs.length<1000 then Q .non (S2.set n (.lst (xs++[y]))) else False
   | _=>False
  | _=>False
 | _=>False
theorem Ys (ho:PD X Z o to)(he:PD X Z e te)(hbase:attributeBase o "append" X.env (eval o X.env)=eval o X.env:=by rfl)(hfew:((backTo aH (starEach [e] X.env)).all (λx=>!x.1)&&(backToKw aH (keywordEach [] X.env)).all (λx=>x.1.isSome)
  &&decide (([e]:List Expr).length+([]:List Keyword).length+(if ([]:List Keyword).isEmpty then 0 else 1)<30))=true:=by rfl)(hline:(aJ.endLine==aH.line)=true:=by rfl)(hst:starEach [e] X.env=[(false,eval e X.env)]:=by rfl):
  PD X Z (.Call (.Attribute o "append" aJ) [e] [] aH) (W4 to te):=
 Z5 (EV PySem.F.plainAttrs_list PySem.F.slot_list_append PySem.F.type_list_append Cm ho (P9 he G5 hst) hbase hfew hline hst rfl) λσ H Qv h=>by
  obtain⟨r,dl,S,Q,rs,aZ,h,ret⟩:=h;unfold W4 at h;refine⟨r,dl,S,_,rs,aZ,h,λv H1 r1 d S1 x1 aB p1 h1=>?_⟩;cases p1 with
  | @ref n a hn=>
   dsimp only at h1;split at h1
   .rename_i xs0 e0;obtain⟨a',ha,ob⟩:=aB.at e0;rw[hn] at ha;cases ha
    obtain⟨ys,hH,_⟩:=ob;refine⟨.inl ⟨rfl,ys,SqL.of hH⟩,r1,dl,S1,_,rs.ext x1,aB,h1,λv2 H2 r2 d2 S2 x2 aC p2 h2=>?_⟩;split at h2
    .rename_i xs1 e1;obtain⟨hlt,h2⟩:=PU h2;have ha2:=x2.adr n a hn;obtain⟨zs,hH2,pz⟩:=aC.b.ob n a _ ha2 e1;obtain⟨aE,x3⟩:=aC.set ha2 e1 (pz.snoc p2);exact⟨a,zs,v2,rfl,rfl,hH2,by rw[<- pz.1];exact Q6 (yL hlt),ret .non _ r2 .non _ (x1.trans (x2.trans x3)) aE .non h2⟩
    .exact h2.elim
   .exact h1.elim
  | _=>exact(show False from h1).elim
def Pj:WC:=λds S Q=>match ds with
 | [.tup xs]=>Q (.ref S.length) (S++[.lst xs])
 | [.ref n]=>match lAt S n with
  | some o=>Q (.ref S.length) (S++[.lst (Zm o)])
  | none=>False
 | _=>False
theorem Vf:Ym X (.type "list") (upC X.K Z Pj):=Ky zhk λxs H Qv ⟨r,S,ds,Q,aZ,ps,q,ret⟩=>by
 unfold Pj at q;split at q
 .rename_i ys;obtain⟨v,vs,rfl,p1,p2⟩:=ps.uncons;have z:=p2.unnil;subst z;obtain⟨a,zs,rfl,h1,h2⟩:=p1.untup;refine⟨a,zs,rfl,.inr (SqT.of h1),λl hl=>?_⟩;obtain⟨aC,x⟩:=aZ.push hl h2;exact ret _ _ _ (.ref S.length) _ x aC (UO aZ.len) q
 .rename_i n;obtain⟨v,vs,rfl,p1,p2⟩:=ps.uncons;have z:=p2.unnil;subst z;split at q
  .rename_i o eo;obtain⟨eo,eL⟩:=Y1 eo;obtain⟨a,ha,ob⟩:=aZ.at eo;cases p1 with
   | ref h1=>
    rw[h1] at ha;cases ha
    obtain⟨ys,sq,pr⟩:=ob.list eL;refine⟨_,ys,rfl,.inl sq,λl hl=>?_⟩;obtain⟨aC,x⟩:=aZ.push hl pr;exact ret _ _ _ (.ref S.length) _ x aC (UO aZ.len) q
  .exact q.elim
 .exact q.elim
def YV:List D->Option (List Bool)
 | []=>some []
 | .bl b::r=>(YV r).map (b::·)
 | _::_=>none
def RX (g:List Bool->Bool):WC:=λds S Q=>match ds with
 | [.ref n]=>match lAt S n with
  | some o=>match YV (Zm o) with
   | some bs=>Q (.bl (g bs)) S
   | none=>False
  | none=>False
 | _=>False
theorem DC {r:List Addr}{H:Hp}:∀ {ds:List D} {bs:List Bool} {vs:List V} {us:List Value},YV ds=some bs->Rps r H ds vs->Zw vs us->us=bs.map Value.bool
 | [],bs,vs,us,e,p,q=>by
  have z:=p.unnil;subst z;cases q;simp[YV] at e;subst e;rfl
 | d::ds,bs,vs,us,e,p,q=>by
  obtain⟨v,vs',rfl,p1,p2⟩:=p.uncons;cases d with
  | bl b=>
   cases p1;cases q with
   | cons q1 q2=>
    have q1':_=Value.bool b:=q1;subst q1';simp only[YV,zG] at e;obtain⟨ms,e1,rfl⟩:=e;rw[DC e1 p2 q2];rfl
  | _=>simp[YV] at e
theorem zej {bs:List Bool}:(List.range bs.length).all (λi=>bs.getD i false)=bs.all id:=by
 rw[xC];rw[uE,uE];refine⟨λh b hb=>?_,λh i hi=>?_⟩
 .obtain⟨i,hi,e⟩:=yO.mp hb;have hb':=h i (wB.mpr hi);simpa [hi,e] using hb'
 .have hi':i<bs.length:=wB.mp hi
  have:=h bs[i] (yW hi');simpa [hi'] using this
theorem AS {prog:Program}{w:World}{A:Around}{bs:List Bool}:TruthOf prog w A (λi v=>(bs.map Value.bool).toArray[i]?=some v) λi=>bs.getD i false:=λi v s Q E hP hQ=>by
  have e:(bs.map Value.bool)[i]?=some v:=by simpa using hP
  rw[zF] at e;cases q:bs[i]? with
  | none=>
   rw[q] at e;cases e
  | some b=>
    rw[q] at e;have z:Value.bool b=v:=by simpa using e
    subst z;have z2:bs.getD i false=b:=by simp[zZ,q]
    have hQ':Q (bs.getD i false) s:=hQ;rw[z2] at hQ';exact wpAny_truthy_bool hQ'
theorem zcA {n:Nat}{a:Addr}{o:Ob}{bs:List Bool}{pins:LA}{σ:St}{H:Hp}{s:Shared}{r:List Addr}{S:Sto}{Q:DK}{Qv:VK}{E:Value->Shared->Prop}{g:List Bool->Bool}(G:List Nat->(Nat->Bool)->Bool)
  (hG:G (List.range bs.length) (λi=>bs.getD i false)=g bs)(hc:X.calm=true)(I:Inv X pins σ H s)(aZ:Rel X.K Z r S H)(hn:r[n]?=some a)(eo:lAt S n=some o)(eb:YV (Zm o)=some bs)(q:Q (.bl (g bs)) S)(ret:Ret X.K Z r H Q Qv):
  wpAny (mX X) X.A.in1 (pyIter (.ref a)) (λit s₂=>∃I fp wr n P' St tr,it=.ref I/\Walks X.prog X.w X.A.in1 I fp wr n P' St/\St 0 s₂.heap/\TruthOf X.prog X.w X.A.in1 P' tr/\
   ∀h' tk,(∀b o,b ∉ wr->s₂.heap.get? b=some o->h'.get? b=some o)->EP X pins σ Qv (.bool (G (List.range n) tr)) { s₂ with heap:=h',toks:=tk }) E s:=by
 obtain⟨eo,eL⟩:=Y1 eo;obtain⟨a',ha,ob⟩:=aZ.at eo;rw[hn] at ha;cases ha
 obtain⟨ys,sq,pr⟩:=ob.list eL;obtain⟨aX,ri,pl,hz⟩:=I.list sq;have eits:=DC eb pr ri;subst eits;refine wpAny_pyIter_list pl.isList ?_;have hne:a≠s.heap.objs.size:=zK (by
  obtain⟨ob,e,_⟩:=pl.isList;exact Heap.lt_size e)
 refine⟨s.heap.objs.size,_,_,_,_,_,λi=>bs.getD i false,rfl,Walks.list (show X.A.in1.handled=none from I.ok.hd hc) _ a hne (bs.map Value.bool).toArray,⟨⟨_,Heap.get?_push_size _ rfl,rfl,rfl⟩,pl.isList.at λo e=>Heap.get?_push_of_some _ e⟩,AS,λh' tk hk=>?_⟩;have ez:(bs.map Value.bool).toArray.size=bs.length:=by simp
 rw[ez,hG];refine⟨.bl (g bs),H,I.kept λb o e=>hk b o (λz=>?_) (Heap.get?_push_of_some _ e),rfl,ret _ _ _ _ _ Ext.refl aZ (.bl _) q⟩;have z':b=s.heap.objs.size:=by simpa using z
 exact absurd (z' ▸ Heap.lt_size e) (yK _)
theorem zd5 {id:String}{g:List Bool->Bool}(rule:∀(pins:LA)(σ:St)(H:Hp)(s:Shared)(r:List Addr)(S:Sto)(Q:DK)(Qv:VK)(n:Nat)(a:Addr)(o:Ob)(bs:List Bool),Inv X pins σ H s->Rel X.K Z r S H->r[n]?=some a->lAt S n=some o->YV (Zm o)=some bs->
   Q (.bl (g bs)) S->Ret X.K Z r H Q Qv->wpAny (mX X) X.A (call (.builtin id) [.ref a]) (EP X pins σ Qv) X.xe s):Ym X (.builtin id) (upC X.K Z (RX g)):=by
 intro pins s σ H xs us Qv I rv h;obtain⟨r,S,ds,Q,aZ,ps,q,ret⟩:=h;unfold RX at q;split at q
 .rename_i n;obtain⟨v,vs,rfl,p1,p2⟩:=ps.uncons;have z:=p2.unnil;subst z;split at q
  .rename_i o eo;split at q
   .rename_i bs eb;cases p1 with
    | ref h1=>
     obtain⟨u,rfl,ru⟩:=Vw rv;cases ru;exact rule pins σ H s r S Q Qv n _ o bs I aZ h1 eo eb q ret
   .exact q.elim
  .exact q.elim
 .exact q.elim
theorem Qc (hc:X.calm=true):Ym X (.builtin "all") (upC X.K Z (RX λbs=>bs.all id)):=
 zd5 λ_ _ _ _ _ _ _ _ _ _ _ _ I aZ h1 eo eb q ret=>call_all_walk (zcA (g:=λbs=>bs.all id) (λl f=>l.all f) zej hc I aZ h1 eo eb q ret)
@[irreducible] def irr (w:WC):WC:=w
@[irreducible] def Y7 (w:W2):W2:=w
theorem Ug (w:WC):irr w=w:=by unfold irr;rfl
theorem Wx (w:W2):Y7 w=w:=by unfold Y7;rfl
theorem ZQ (h:Ym X f (upC X.K Z w)):Ym X f (upC X.K Z (irr w)):=by rw[Ug];exact h
theorem zaA (ha:PD X Z a ta)(hb:PD X Z b tb)(hs:SM b):PD X Z (.Subscript a b pos) (dOp (Y7 wIx) ta tb):=by rw[Wx];exact Cv ha hb hs
theorem ZD {a b:Expr}{ta tb:TDE}(ha:PD X Z a ta)(hb:PD X Z b tb)(hs:SM b:=by exact λ_ _=>rfl):PD X Z (.Subscript a b pos) (dOp (Y7 wIx) ta tb):=zaA ha hb hs
theorem Zq (S:Sto)(o:Ob):(S++[o])[S.length]?=some o:=by simp
theorem Vl {S:Sto}{o u:Ob}{n:Nat}(h:S[n]?=some o):(S++[u])[n]?=some o:=by
 rw[zJ (zA.mp h).1];exact h
theorem Wm {tl te:TDE}{dl:Ev}{S S1:Sto}{Q:DK}{n:Nat}{o:Ob}(g:D->D)(htl:∀K:DK,K (.ref n) S1->tl dl S K)(h1:S1[n]?=some o)(hl:(Zm o).length<=1000)
  (ht:∀x∈Zm o,∀(S2:Sto)(K:DK),Pre S1 S2->K (g x) S2->te (some x::Z8 caps dl) S2 K)(hq:Q (.ref S1.length) (S1++[.lst ((Zm o).map g)]))(hL:Y8 o=some o:=by rfl):XG caps tl YH te dl S Q:=by
 unfold XG;refine htl _ ⟨by rw[ZM h1 hL];rfl,λk m S2=>S2=S1++[.lst (((Zm o).take k).map g)]/\m+k=(Zm o).length,⟨(Zm o).length,by simp,by omega⟩,?_⟩;rintro k m S2 ⟨rfl,hm⟩;rw[ZM (Vl h1) hL];dsimp only;split
 .rename_i x hx;have hk:k<(Zm o).length:=(zA.mp hx).1;unfold WS YH;simp only[if_true];refine ht x (zE hx) _ _ Pre.refl.push ?_;rw[Zq];refine⟨by simp;omega,m-1,by omega,?_,by omega⟩;have e:(Zm o).take (k+1)=(Zm o).take k++[x]:=by rw[xV,hx];rfl
  rw[e,yA,vH _ _ (zC _)];simp
 .rename_i hx;have hk:(Zm o).length<=k:=yP.mp hx;rw[yQ hk];exact hq
theorem zc2 (h:YV (Zm o)=some bs):Y8 o=some o:=by
 cases o<;>first|rfl|cases h
theorem CQ (h:YX (Zm o)=some xs):Y8 o=some o:=by
 cases o<;>first|rfl|cases h
theorem Qd (h:S[n]?=some o)(hb:YV (Zm o)=some bs)(hq:Q (.bl (g bs)) S):irr (RX g) [.ref n] S Q:=by
 rw[Ug];unfold RX;simp only[ZM h (zc2 hb),hb];exact hq
theorem VQ (h:S[n]?=some o)(hb:YX (Zm o)=some xs)(hne:xs≠[])(hq:∀m,m∈xs->(∀y∈xs,le y m)->Q (.int m) S):irr (T8 le two) [.ref n] S Q:=by
 rw[Ug];unfold T8;simp only[ZM h (CQ hb),hb];exact⟨hne,hq⟩
theorem WH (h:lAt S n=some o)(hq:Q (.ref S.length) (S++[.lst (Zm o)])):irr Pj [.ref n] S Q:=by
 rw[Ug];unfold Pj;simp only[h];exact hq
theorem YC {to te:TDE}{dl:Ev}{S S1:Sto}{Q:DK}{n:Nat}{xs:List D}{y:D}(hto:∀K:DK,K (.ref n) S1->to dl S K)(h:S1[n]?=some (.lst xs))(hte:∀K:DK,K y S1->te dl S1 K)(hl:xs.length<1000)(hq:Q .non (S1.set n (.lst (xs++[y])))):W4 to te dl S Q:=by
 unfold W4;refine hto _ ?_;simp only[h];refine hte _ ?_;simp only[h];exact ifP hl hq
end
theorem Sn:Sco n (.tup [.int x,.int y]):=.tup λd hd=>by
 have z:d=.int x\/d=.int y:=by simpa using hd
 rcases z with rfl|rfl<;>exact .int _
open PySem PySem.Spec PyProof.Rows L2 PySem.W Builtin Builtin.ObjectAttr Builtin.Getset_descriptor
structure Nx (K:Frag)(D:Addr):Prop where
 ga:findIn K (.ref D) "__getattribute__"=some (some (.builtin "BaseException.__getattribute__"))
 hk:findIn K (.ref D) "__getattr__"=some none
 ha:findIn K (.ref D) "__class__"=some (some (.builtin "object.__class__"))
 hn:specialIn K (.builtin "object.__class__") "__get__"=some (some (.builtin "getset_descriptor.__get__"))
 ht:takesIn K (.builtin "object.__class__")=some true
 hm:mroIn K D (.type "object")=some true
 hb:mroIn K D (.type "BaseException")=some true
section
variable {X:Cx}{Z:Zx}
end
def eqN:Nat->D->D->Option Bool
 | 0=>eqF
 | k+1=>eqT (eqN k)
theorem CH:∀k,Tj (eqN k)
 | 0=>Ta
 | k+1=>EX (CH k)
theorem HS:∀k,VN k (eqN k)
 | 0=>OA 0
 | k+1=>Bu (HS k) (CH k)
def Xf (f:D->D->Option Bool):List D->D->Option Bool
 | [],_=>some false
 | y::ys,x=>match f y x,Xf f ys x with
  | some b,some c=>some (b||c)
  | _,_=>none
def wIn (k:Nat)(neg:Bool):W2:=λx y S Q=>match y with
 | .ref n=>match lAt S n with
  | some o=>match Xf (eqN k) (Zm o) x with
   | some b=>Q (.bl (if neg then !b else b)) S
   | none=>False
  | none=>False
 | _=>False
theorem FV (h:Zv v u)(h':Zv v' u):v=v':=by
 cases v<;>cases v'<;>simp[L2.Zv] at h h'<;>first
  | rfl
  | (subst h;simp at h';subst h';rfl)
  | (obtain⟨t,rfl⟩:=h;simp at h';subst h';rfl)
  | (obtain⟨t,rfl⟩:=h;simp at h')
  | (subst h;simp at h')
  | skip
theorem QB {r:List Addr}{H:Hp}{d d' x:D}{v:V}{b b':Bool}(p:Rp r H d v)(p':Rp r H d' v)(e:eqF d x=some b)(e':eqF d' x=some b'):b=b':=by
 have z:d=d':=by
  cases p<;>cases p'<;>first
   | rfl
   | (cases x<;>simp[eqF] at e)
   | (cases x<;>simp[eqF] at e')
 subst z;rw[e] at e';exact Option.some.inj e'
theorem FU {f:D->D->Option Bool}{r:List Addr}{H:Hp}(hf:∀(d d' x:D)(v:V)(b b':Bool),Rp r H d v->Rp r H d' v->f d x=some b->f d' x=some b'->b=b'):
  ∀ {ds ds' zs:List D} {vs:List V} {b b':Bool},Rps r H ds vs->Rps r H ds' vs->eqL f ds zs=some b->eqL f ds' zs=some b'->b=b'
 | [],ds',zs,vs,b,b',p,p',e,e'=>by
  have z:=p.unnil;subst z;cases ds' with
  | nil=>rw[e] at e';exact Option.some.inj e'
  | cons y ys=>exact absurd p'.1 (by simp)
 | d::ds,ds',zs,vs,b,b',p,p',e,e'=>by
  obtain⟨v,vs',rfl,p1,p2⟩:=p.uncons;cases ds' with
  | nil=>exact absurd p'.1 (by simp)
  | cons d' ds'=>
   obtain⟨q1,q2⟩:=p'.tail;cases zs with
   | nil=>
    simp only[eqL,Option.some.injEq] at e e';exact e.symm.trans e'
   | cons z zs=>
    unfold eqL at e e';split at e
    .rename_i b1 c1 a1 a2;split at e'
     .rename_i b2 c2 a3 a4;have h1:=hf d d' z v b1 b2 p1 q1 a1 a3
      have h2:=FU hf p2 q2 a2 a4;subst h1 h2;simp only[Option.some.injEq] at e e';exact e.symm.trans e'
     .cases e'
    .cases e
theorem Gi:∀(k:Nat) {r:List Addr} {H:Hp} (d d' x:D) (v:V) (b b':Bool),Rp r H d v->Rp r H d' v->eqN k d x=some b->eqN k d' x=some b'->b=b'
 | 0,r,H,d,d',x,v,b,b',p,p',e,e'=>QB p p' e e'
 | k+1,r,H,d,d',x,v,b,b',p,p',e,e'=>by
  cases p with
  | tup h1 l1 f1=>
   cases p' with
   | tup h2 l2 f2=>
    rw[h1] at h2;cases h2
    cases x with
    | tup zs=>exact FU (λd d' x v b b'=>Gi k d d' x v b b') ⟨l1,f1⟩ ⟨l2,f2⟩ e e'
    | _=>simp[eqN,eqT,eqF] at e
   | ref h=>cases x<;>simp[eqN,eqT,eqF] at e'
   | exc h=>cases x<;>simp[eqN,eqT,eqF] at e'
  | non=>exact QB (x:=x) .non p' (by cases x<;>exact e) (by cases p'<;>cases x<;>exact e')
  | bl i=>exact QB (x:=x) (.bl i) p' (by cases x<;>exact e) (by cases p'<;>cases x<;>exact e')
  | int i=>exact QB (x:=x) (.int i) p' (by cases x<;>exact e) (by cases p'<;>cases x<;>exact e')
  | str i=>exact QB (x:=x) (.str i) p' (by cases x<;>exact e) (by cases p'<;>cases x<;>exact e')
  | ref h=>cases x<;>simp[eqN,eqT,eqF] at e
  | exc h=>cases x<;>simp[eqN,eqT,eqF] at e
theorem El:∀ {ys:List D} {b:Bool},Xf f ys x=some b->(∀y∈ys,∃c,f y x=some c)/\(b=true↔∃y∈ys,f y x=some true)
 | [],b,e=>by
  simp only[Xf,Option.some.injEq] at e;subst e;simp
 | y::ys,b,e=>by
  unfold Xf at e;split at e
  .rename_i b1 c1 e1 e2;obtain⟨h1,h2⟩:=El e2;simp only[Option.some.injEq] at e;subst e;refine⟨λz hz=>?_,?_⟩
   .rcases zS.mp hz with rfl|hz'
    .exact⟨b1,e1⟩
    .exact h1 z hz'
   .rw[Bool.or_eq_true,h2];refine⟨λq=>?_,λ⟨z,hz,q⟩=>?_⟩
    .rcases q with q|⟨z,hz,q⟩
     .exact⟨y,yS,by rw[e1,q]⟩
     .exact⟨z,yG _ hz,q⟩
    .rcases zS.mp hz with rfl|hz'
     .left
      rw[e1] at q;exact Option.some.inj q
     .exact .inr ⟨z,hz',q⟩
  .cases e
theorem zcj {k:Nat}{pins:LA}{σ:St}{H:Hp}{s:Shared}{r:List Addr}{A:Around}{ds:List D}{vs:List V}{us:List Value}{dx:D}{x:V}{u:Value}{b:Bool}(I:Inv X pins σ H s)(hu:A.units+k<cLine)
  (p:Rps r H ds vs)(rv:Zw vs us)(px:Rp r H dx x)(rx:Zv x u)(e:Xf (eqN k) ds dx=some b):∃g:Value->Bool,(∀y,y∈us.toArray->SeqAt.EqAt A s y u (g y))/\us.toArray.any g=b:=by
 obtain⟨h1,h2⟩:=El e;have at_:∀y∈us,∃d v,d∈ds/\Rp r H d v/\Zv v y:=λy hy=>by
  obtain⟨j,hj,ej⟩:=yO.mp hy;have hv:j<vs.length:=by rw[rv.length];exact hj
  have gv:vs[j]?=some vs[j]:=by simp[hv]
  obtain⟨w,gw,rw'⟩:=rv.get gv;obtain⟨d,gd,pd⟩:=p.get' gv;have ew:w=y:=by
   rw[zD hj,ej] at gw;exact(Option.some.inj gw).symm
  subst ew;exact⟨d,_,zE gd,pd,rw'⟩
 classical
 refine⟨λy=>decide (∃d v,d∈ds/\Rp r H d v/\Zv v y/\eqN k d dx=some true),λy hy=>?_,?_⟩
 .obtain⟨d,v,hd,pd,rd⟩:=at_ y (by simpa using hy);obtain⟨c,hc⟩:=h1 d hd;have same:decide (∃d v,d∈ds/\Rp r H d v/\Zv v y/\eqN k d dx=some true)=c:=by
   cases c with
   | true=>exact decide_eq_true ⟨d,v,hd,pd,rd,hc⟩
   | false=>
    refine decide_eq_false λ⟨d',v',_,pd',rd',hc'⟩=>?_
    have ev:=FV rd rd';subst ev;exact absurd (Gi k d d' dx v false true pd pd' hc hc') ⋯
  show SeqAt.EqAt A s y u (decide _);rw[same];exact HS k X pins σ H s r A d dx v x y u c I hu pd px rd rx hc
 .rw[xC,h2,List.any_toArray,List.any_eq_true];refine⟨λ⟨y,hy,q⟩=>?_,λ⟨d,hd,q⟩=>?_⟩
  .obtain⟨d,v,hd,_,_,q'⟩:=of_decide_eq_true q;exact⟨d,hd,q'⟩
  .obtain⟨j,hj,ej⟩:=yO.mp hd;have gd:ds[j]?=some d:=by simp[hj,ej]
   obtain⟨v,gv,pv⟩:=p.get gd;obtain⟨w,gw,rw'⟩:=rv.get gv;exact⟨w,zE gw,decide_eq_true ⟨d,v,hd,pv,rw',q⟩⟩
theorem zhB (k:Nat)(hu:X.A.units+1+k<cLine):OpR X (compareOp .NotIn) (upO X.K Z (wIn k true)):=by
 intro pins s σ H x y v u Qv I rx ry h;obtain⟨r,S,dx,dy,Q,aZ,px,py,q,ret⟩:=h;cases py with
 | @ref n a hn=>
  unfold wIn at q;dsimp only at q;split at q
  .rename_i o eo;split at q
   .rename_i b eb;cases ry;obtain⟨eo,eL⟩:=Y1 eo;obtain⟨a',ha,ob⟩:=aZ.at eo;rw[hn] at ha;cases ha
    obtain⟨ys,sq,pr⟩:=ob.list eL;obtain⟨us,ru,pl,_⟩:=I.list sq;obtain⟨g,g1,g2⟩:=zcj (A:=X.A.in1) I (by show X.A.units+1+k<_;omega) pr ru px rx eb;refine SeqAt.notIn_listAt g pl.isList g1 ?_;rw[g2];exact⟨.bl (!b),H,I,rfl,ret _ _ _ _ _ Ext.refl aZ (.bl (!b)) q⟩
   .exact q.elim
  .exact q.elim
 | _=>exact(show False from q).elim
def dForT (i:Nat)(tl:TDE)(tb:TDS):TDS:=λE dl S=>tl dl S λd S1=>match d with
 | .tup xs=>∃W:Nat->Ev->Sto->Prop,W 0 dl S1/\∀k dl S,W k dl S->match xs[k]? with
  | some x=>tb { nx:=λdl' S'=>W (k+1) dl' S',rt:=E.rt,bk:=E.nx,ct:=λdl' S'=>W (k+1) dl' S' } (dl.set i (some x)) S
  | none=>E.nx dl S
 | _=>False
theorem zaQ (hp:PassesOwn (mX X) X.A X.env X.xe)(hc:X.calm=true)(hN:X.N.Nodup)(hi:X.N[i]?=some x)(hx:Loc X.env.scope x)(hl:PD X Z aU tl)(hb:YE X Z body tb)(hf:Hf X x:=by first|exact .inl rfl|exact .inr rfl|assumption)(hs:∀y,foldedSetIterable aU X.env y=pure y:=by intro _;rfl):PDS X Z (.For (.Name x pos') aU body [] pos) (dForT i tl tb):=
 Yw (Ut hp hc (zdl hl) (Uq hN hi hx hf) hb hs) λF σ H ⟨r,dl,S,E,rs,aZ,h,ret⟩=>by
  refine⟨r,dl,S,_,rs,aZ,h,λv H1 r1 d S1 x1 aB p1 q1=>?_⟩;cases p1 with
  | @tup ds xs a e1 l1 f1=>
   obtain⟨W,w0,turn⟩:=q1;have sq:∀ {r':List Addr} {H':Hp},Ext r1 r' H1 H'->SqT X.K H' a xs:=λ{r' H'} x'=>SqT.of (x'.tup _ _ e1)
   refine⟨a,rfl,⟨xs,sq Ext.refl⟩,UE x1 rs aB ret (λk m d s=>m+k=xs.length/\W k d s) ⟨rfl,w0⟩ λk m r2 dl2 S2 σ2 H2 x2 rs2 aC w=>?_⟩;obtain⟨em,w2⟩:=w;have q:=turn k dl2 S2 w2;split at q
   .rename_i y ey;have hk:k<ds.length:=(zA.mp ey).1
    have hkx:k<xs.length:=by rw[<- l1];exact hk
    have pv:Rp r2 H2 y xs[k]:=(f1 k y xs[k] ey (by simp[hkx])).ext x2;refine .inr ⟨⟨xs,xs[k],sq x2,by simp[hkx]⟩,_,λd s z=>⟨m-1,by omega,by omega,z⟩,λv' H' y' K hK=>?_⟩;obtain⟨rfl,y'⟩:=y';cases (y' xs (sq x2)).symm.trans (zD hkx);exact hK _ _ _ Ext.refl (rs2.set i pv) aC q
   .rename_i ey;exact .inl ⟨⟨xs,sq x2,by rw[<- l1];exact yP.mp ey⟩,q⟩
  | _=>exact(show False from q1).elim
def UR:List Nat->List D->Ev->Ev
 | i::is,d::ds,dl=>UR is ds (dl.set i (some d))
 | _,_,dl=>dl
def Ll:List Nat->List V->St->St
 | i::is,v::vs,σ=>Ll is vs (σ.set i (some v))
 | _,_,σ=>σ
theorem Hw {r:List Addr}{H:Hp}:∀ {is:List Nat} {ds:List D} {vs:List V} {dl:Ev} {σ:St},Rs r H dl σ->Rps r H ds vs->Rs r H (UR is ds dl) (Ll is vs σ)
 | [],ds,vs,dl,σ,h,p=>by cases ds<;>cases vs<;>exact h
 | i::is,[],vs,dl,σ,h,p=>by
  have z:=p.unnil;subst z;exact h
 | i::is,d::ds,vs,dl,σ,h,p=>by
  obtain⟨v,vs',rfl,p1,p2⟩:=p.uncons;show Rs r H (UR is ds (dl.set i (some d))) (Ll is vs' (σ.set i (some v)));exact Hw (Rs.set i h p1) p2
inductive Nms (X:Cx):List Expr->List Nat->Prop
 | nil:Nms X [] []
 | cons {x:Str} {p:Pos} {i:Nat} {es:List Expr} {is:List Nat}:X.N[i]?=some x->Loc X.env.scope x->(X.fn x=true\/X.env.scope.names.lookup x=some .local)->Nms X es is->Nms X (.Name x p::es) (i::is)
def Uk (is:List Nat):TGs:=λvs σ H Q=>vs.length=is.length/\Q (Ll is vs σ) H
theorem UA (hN:X.N.Nodup):∀ {es:List Expr} {is:List Nat},Nms X es is->PGs X es (Uk is)
 | _,_,.nil=>λpins s σ H vs us Q I r h=>by
  obtain⟨e,h⟩:=h;have z:vs=[]:=by simpa using e
  subst z;exact zbo pins s σ H [] us Q I r ⟨rfl,h⟩
 | _,_,.cons (x:=x) (p:=p) (es:=es) (is:=is) h1 h2 h3 t=>λpins s σ H vs us Q I r h=>by
  obtain⟨e,h⟩:=h;cases vs with
  | nil=>simp at e
  | cons v vs=>exact zgg (Uq hN h1 h2 h3) (UA hN t) rfl pins s σ H (v::vs) us Q I r ⟨v,vs,rfl,by simpa using e,h⟩
open PySem L2
theorem VF (S:Sto)(o u:Ob):(S++[o]).set S.length u=S++[u]:=by simp
abbrev wShl:W2:=wI Ml λi j=>.int (i*2^j.toNat)
theorem zhx:OpR X (binaryOp .LShift) (upO X.K Z wShl):=opD zg3 λ_ _ _ _=>.int _
def dBits (to:TDE):TDE:=λdl S Q=>to dl S λd S1=>match d with
 | .int i=>Q (.int (Builtin.Int.intBits i)) S1
 | _=>False
theorem zdY:MtR X "int.bit_length" (λx xs H Q=>∃i,x=.int i/\xs=[]/\Q (.int (Builtin.Int.intBits i)) H):=by
 intro pins s σ H x xs v us Q I rx rv h;obtain⟨i,rfl,rfl,q⟩:=h;obtain⟨t,rfl⟩:=rx;cases rv;exact call_int_bit_length ⟨.int _,H,I.tok _,⟨_,rfl⟩,q⟩
theorem zd1 (ho:PD X Z o to)(hbase:attributeBase o "bit_length" X.env (eval o X.env)=eval o X.env:=by rfl)(hline:(aJ.endLine==aH.line)=true:=by rfl):
  PD X Z (.Call (.Attribute o "bit_length" aJ) [] [] aH) (dBits to):=
 Z5 (ziT (T:="int") ⟨⟨_,ga_int,canon_ga_int⟩,no_getattr_int⟩ slot_int_bit_length type_int_bit_length zdY ho hbase hline) λσ H Qv ⟨r,dl,S,Q,rs,aZ,h,ret⟩=>⟨r,dl,S,_,rs,aZ,h,λv H1 r1 d S1 e1 aB p1 q1=>by
  cases p1 with
  | int i=>exact⟨rfl,i,rfl,rfl,ret _ H1 r1 (.int _) S1 e1 aB (.int _) q1⟩
  | _=>exact(show False from q1).elim⟩
def GU:Sd:=λ_ _ _ _=>False
def Df.never {P:Program}{w:World}{K:Fg}{mg:Str->Option Value}{base:Heap}{x:Str}{st:Stmt}{ps:List Str}(k:Nat)(d:Df K mg x st ps):Fk P w K mg base k x ps GU:=
 ⟨d.f,d.fd,⟨λ_ _ _ _ ⟨_,_,_,_,_,_,_,z,_⟩=>z.elim,λ_ _ _ _ _ _ _ _ _ _ _ _ _ ⟨_,_,_,_,_,_,_,z,_⟩=>z.elim⟩,d.m,d.F.kp,d.b⟩
section
variable {X:Cx}{Z:Zx}{pos:Pos}
end
theorem Kc {ta:TDA}{te:TDE}{dl:Ev}{S S1:Sto}{Q:DK}{j:Int}(g:Nat->D)(hta:∀K:List D->Sto->Prop,K [.int j] S1->ta dl S K)(hj:0<=j/\j<=1000)
  (ht:∀k:Nat,k<j.toNat->∀(S2:Sto)(K:DK),Pre S1 S2->K (g k) S2->te (some (.int k)::Z8 caps dl) S2 K)(hq:Q (.ref S1.length) (S1++[.lst ((List.range j.toNat).map g)])):W8 caps ta YH te dl S Q:=by
 unfold W8;refine hta _ ⟨⟨by omega,by omega⟩,λk S2=>S2=S1++[.lst ((List.range k).map g)]/\k<=j.toNat,⟨by simp,by omega⟩,?_⟩;rintro k S2 ⟨rfl,hk⟩;split
 .rename_i hk';unfold WS YH;simp only[if_true];refine ht k hk' _ _ Pre.refl.push ?_;rw[Zq];refine⟨by simp;omega,?_,by omega⟩;rw[List.range_succ,yA,vH _ _ (zC _)];simp
 .have e:k=j.toNat:=by omega
  subst e;exact hq
abbrev TDO:=Ev->Sto->(Option Int->Sto->Prop)->Prop
def upP (K:Fg)(Z:Zx)(t:TDO):TO:=λσ H Q=>∃(r:List Addr)(dl:Ev)(S:Sto)(Q':Option Int->Sto->Prop),Rs r H dl σ/\Rel K Z r S H/\t dl S Q'/\∀o H' r' S',Ext r r' H H'->Rel K Z r' S' H'->Q' o S'->Q o H'
def PDO (X:Cx)(Z:Zx)(e:Option Expr)(t:TDO):Prop:=PO X e (upP X.K Z t)
def K4:TDO:=λ_ S Q=>Q none S
def JB (t:TDE):TDO:=λdl S Q=>t dl S λd S1=>match d with
 | .int i=>Q (some i) S1
 | _=>False
theorem C6 (h:PO X e t)(g:∀σ H Q,t' σ H Q->t σ H Q):PO X e t':=λpins s σ H Q I q=>h pins s σ H Q I (g σ H Q q)
theorem WY:PDO X Z none K4:=C6 ziq λσ H Q ⟨r,dl,S,Q',rs,aZ,h,ret⟩=>ret none H r S Ext.refl aZ h
theorem WV (he:PD X Z e t):PDO X Z (some e) (JB t):=C6 (zgk he) λσ H Q ⟨r,dl,S,Q',rs,aZ,h,ret⟩=>⟨r,dl,S,_,rs,aZ,h,λv H1 r1 d S1 e1 aB p1 q1=>by
 cases p1 with
 | int i=>exact⟨i,rfl,ret (some i) H1 r1 S1 e1 aB q1⟩
 | _=>exact(show False from q1).elim⟩
section
variable {X:Cx}{Z:Zx}
end
section
variable {X:Cx}{Z:Zx}
end
theorem Zz (ho:S[n]?=some o)(hd:atI (Zm o) i=some d)(hq:Q d S)(hL:Y8 o=some o:=by rfl):Y7 wIx (.ref n) (.int i) S Q:=by
 rw[Wx];unfold wIx;simp only[ZM ho hL,hd];exact hq
def Sv (f:Str)(v:D):List (Str×D)->List (Str×D)
 | []=>[(f,v)]
 | p::r=>if p.1=f then (f,v)::r else p::Sv f v r
theorem FR.lookup {r:List Addr}{H:Hp}{f:Str}:∀ {fs:List (Str×D)} {fs':List (Str×V)},FR r H fs fs'->(∀d,fs.lookup f=some d->∃v,fs'.lookup f=some v/\Rp r H d v)/\(fs.lookup f=none->fs'.lookup f=none)
 | [],fs',h=>by
  have e:fs'=[]:=by
   have:=h.1;simpa using this.symm
  subst e;exact⟨λd z=>by simp at z,λ_=>rfl⟩
 | p::fs,[],h=>by
  have:=h.1;simp at this
 | p::fs,q::fs',h=>by
  obtain⟨h1,h2⟩:=h;simp only[yH,List.cons.injEq] at h1;obtain⟨p1,p2⟩:=h2.tail;obtain⟨i1,i2⟩:=FR.lookup (f:=f) (fs:=fs) (fs':=fs') ⟨h1.2,p2⟩;obtain⟨pk,pv⟩:=p;obtain⟨qk,qv⟩:=q;have ek:pk=qk:=h1.1;subst ek;by_cases z:f=pk
  .subst z;simp only[List.lookup_cons_self];exact⟨λd hd=>⟨qv,rfl,by cases hd;exact p1⟩,λhd=>by cases hd⟩
  .have zb:(f==pk)=false:=by simpa using z
   simp only[zW,zb];exact⟨i1,i2⟩
theorem FR.put {r:List Addr}{H:Hp}{f:Str}{d:D}{v:V}(q:Rp r H d v):∀ {fs:List (Str×D)} {fs':List (Str×V)},FR r H fs fs'->FR r H (Sv f d fs) (Yz f v fs')
 | [],fs',h=>by
  have e:fs'=[]:=by
   have:=h.1;simpa using this.symm
  subst e;exact⟨rfl,Rps.cons q Rps.nil⟩
 | p::fs,[],h=>by
  have:=h.1;simp at this
 | p::fs,p'::fs',h=>by
  obtain⟨h1,h2⟩:=h;simp only[yH,List.cons.injEq] at h1;obtain⟨p1,p2⟩:=h2.tail;have ih:=FR.put (f:=f) q (fs:=fs) (fs':=fs') ⟨h1.2,p2⟩;obtain⟨pk,pv⟩:=p;obtain⟨qk,qv⟩:=p';have ek:pk=qk:=h1.1;subst ek;unfold Sv Yz;by_cases z:pk=f
  .rw[if_pos z,if_pos z];exact⟨by simp[h1.2,z],Rps.cons q p2⟩
  .rw[if_neg z,if_neg z];exact⟨by simp[ih.1],Rps.cons p1 ih.2⟩
section
variable {X:Cx}{Z:Zx}{pos:Pos}
def WL (C:Addr)(S:Sto):D->Option (Nat×List (Str×D))
 | .ref n=>match S[n]? with
  | some (.ins C' fs)=>if C'=C then some (n,fs) else none
  | _=>none
 | _=>none
theorem LW (h:WL C S d=some (n,fs)):d=.ref n/\S[n]?=some (.ins C fs):=by
 unfold WL at h;split at h
 .split at h
  .rename_i m _ C' fs' e;split at h
   .rename_i ec;subst ec;simp only[Option.some.injEq,Prod.mk.injEq] at h;obtain⟨rfl,rfl⟩:=h;exact⟨rfl,e⟩
   .cases h
  .cases h
 .cases h
@[irreducible] def Ms (C:Addr)(f:Str)(to:TDE):TDE:=λdl S Q=>to dl S λd S1=>match WL C S1 d with
 | some (_,fs)=>match fs.lookup f with
  | some v=>Q v S1
  | none=>False
 | none=>False
theorem ZO (c:Cls X.K C)(n:Yq X.K C f)(ho:PD X Z o to)(hb:attributeBase o f X.env (eval o X.env)=eval o X.env:=by rfl):PD X Z (.Attribute o f pos) (Ms C f to):=
 Z5 (zdD ho hb) λσ H Qv ⟨r,dl,S,Q,rs,aZ,h,ret⟩=>by unfold Ms at h;exact⟨r,dl,S,_,rs,aZ,h,λv H1 r1 d S1 e1 aB p1 q1=>by
  split at q1
  .rename_i m fs ei;obtain⟨rfl,eS⟩:=LW ei;split at q1
   .rename_i w ew;obtain⟨a,ha,ob⟩:=aB.at eS;obtain⟨dx,fs',eH,fr⟩:=ob;cases p1 with
    | ref hr=>
     rw[hr] at ha;cases ha
     obtain⟨u,hu,pu⟩:=fr.lookup.1 w ew;exact⟨a,C,dx,fs',u,rfl,eH,c,n,hu,ret u H1 r1 w S1 e1 aB pu q1⟩
   .exact q1.elim
  .exact q1.elim⟩
@[irreducible] def Nt (C:Addr)(f:Str)(to te:TDE):TDS:=λE dl S=>te dl S λv S1=>to dl S1 λd S2=>match WL C S2 d with
 | some (n,fs)=>fs.length<1000/\E.nx dl (S2.set n (.ins C (Sv f v fs)))
 | none=>False
theorem VD (c:Cls X.K C)(n:Yq X.K C f)(ho:PD X Z o to)(he:PD X Z e te)(hs:swapsWith e (some (.Attribute o f p2)) pos.line X.env=pure false:=by rfl):PDS X Z (.Assign [.Attribute o f p2] e pos) (Nt C f to te):=
 Yw (zdc ho he hs) λF σ H ⟨r,dl,S,E,rs,aZ,h,ret⟩=>by unfold Nt at h;exact⟨r,dl,S,_,rs,aZ,h,λv H1 r1 dv S1 e1 aB p1 q1=>⟨r1,dl,S1,_,rs.ext e1,aB,q1,λw H2 r2 d S2 e2 aC p2' q2=>by
  split at q2
  .rename_i m fs ei;obtain⟨rfl,eS⟩:=LW ei;obtain⟨hl,q2⟩:=q2;obtain⟨a,ha,ob⟩:=aC.at eS;obtain⟨dx,fs',eH,fr⟩:=id ob;cases p2' with
   | ref hr=>
    rw[hr] at ha;cases ha
    have aM:fs'.length=fs.length:=by
     have:=congrArg List.length fr.1;simpa using this.symm
    obtain⟨rb,x⟩:=aC.b.setO (o':=.ins C (Sv f dv fs)) (u:=.ins C dx (Yz f v fs')) hr eS rfl rfl λx=>⟨dx,_,YG,(fr.put (p1.ext e2)).ext x⟩
    exact⟨a,C,dx,fs',rfl,eH,c,n,by omega,ret.nx _ _ r2 _ _ (e1.trans (e2.trans x)) (rs.ext (e1.trans (e2.trans x))) ⟨rb,aC.xw.ext x⟩ q2⟩
  .exact q2.elim⟩⟩
@[irreducible] def SY (C:Addr)(m:Str)(ex:Ev->Addr->Sto->Prop)(sd:Sd)(to:TDE)(t:TDA):TDE:=λdl S Q=>to dl S λd S1=>match WL C S1 d with
 | some (_,fs)=>fs.lookup m=none/\t dl S1 λds S2=>sd (d::ds) S2 Q (ex dl)
 | none=>False
theorem zjt (he:PE X o ta)(c:Cls X.K C)(hm:V7 X.K C m f)(F:Ye X.prog X.w X.K X.mg X.base (CXE X.prog X.w) k f fd ps sp)(hr:ZH k X.A)(hb:YA X.K fd ps [])(hx:Wu X W)(ha:PA X (e::es) t)(hst:starEach (e::es) X.env=(false,eval e X.env)::starEach es X.env)(hpl:Hp1 X pos es)(ht:eval (.Call (.Attribute o m aJ) (e::es) [] pos) X.env=(do
   let ov <- eval o X.env
   standAt aJ.atName
   let (f,first) <- holding [ov] (getMethod ov m pl)
   callWith pos f first (backTo pos (starEach (e::es) X.env)) (backToKw pos (keywordEach [] X.env)))):
  PE X (.Call (.Attribute o m aJ) (e::es) [] pos) (λσ H Q=>ta σ H λx H1=>∃a dx fs,x=.ref a/\H1 a=some (.ins C dx fs)/\fs.lookup m=none/\t σ H1 λvs H2=>sp (x::vs) H2 Q (W σ)):=by
 intro pins s σ H Q I h;refine PySem.W.methodCall_KW (pl:=pl) (thn (he pins s σ H _ I h) λu s1 ⟨x,H1,I1,rx,a,dx,fs,ex,ea,l,q⟩=>?_) ht;subst ex;obtain rfl:u=Value.ref a:=rx;refine Iw I1 ea c hm l ?_;exact PySem.W.callWith_K (first:=[.ref a]) (h₀:=X.base) I.ok.mod.kin hm.kp (thn (ha pos pins s1 σ H1 _ I1 q) λus s2 ⟨vs,H2,I2,r,q2⟩=>⟨I2.kIn,Ny (us:=.ref a::us) (vs:=.ref a::vs) F hr hb hx I2 (.cons rfl r) q2⟩) hst hpl
theorem ziW (he:PE X o ta)(c:Cls X.K C)(hm:V7 X.K C m f)(F:Ye X.prog X.w X.K X.mg X.base (CXE X.prog X.w) k f fd ps sp)(hr:ZH k X.A)(hb:YA X.K fd ps [])(hx:Wu X W)(ht:eval (.Call (.Attribute o m aJ) [] [] pos) X.env=(do
   let ov <- eval o X.env
   standAt aJ.atName
   let (f,first) <- holding [ov] (getMethod ov m pl)
   callWith pos f first (backTo pos (starEach [] X.env)) (backToKw pos (keywordEach [] X.env)))):
  PE X (.Call (.Attribute o m aJ) [] [] pos) (λσ H Q=>ta σ H λx H1=>∃a dx fs,x=.ref a/\H1 a=some (.ins C dx fs)/\fs.lookup m=none/\sp [x] H1 Q (W σ)):=by
 intro pins s σ H Q I h;refine PySem.W.methodCall_KW (pl:=pl) (thn (he pins s σ H _ I h) λu s1 ⟨x,H1,I1,rx,a,dx,fs,ex,ea,l,q⟩=>?_) ht;subst ex;obtain rfl:u=Value.ref a:=rx;refine Iw I1 ea c hm l ?_;exact PySem.W.callWith_K0 (first:=[.ref a]) I1.kIn hm.kp (Ny (us:=[.ref a]) (vs:=[.ref a]) F hr hb hx I1 (.cons rfl .nil) q)
theorem G1 {C:Addr}{r:List Addr}{S:Sto}{H:Hp}{d:D}{v:V}{n:Nat}{fs:List (Str×D)}(aZ:ZW X.K r S H)(p:Rp r H d v)(h:WL C S d=some (n,fs)):∃a dx fs',v=.ref a/\r[n]?=some a/\H a=some (.ins C dx fs')/\FR r H fs fs':=by
 obtain⟨rfl,eS⟩:=LW h;obtain⟨a,ha,dx,fs',eH,fr⟩:=aZ.at eS;cases p with
 | ref hr=>
  rw[hr] at ha;cases ha
  exact⟨a,dx,fs',rfl,hr,eH,fr⟩
theorem Wj (ho:PD X ⟨ex,W⟩ o to)(c:Cls X.K C)(hm:V7 X.K C m f)(F:Ye X.prog X.w X.K X.mg X.base (CXE X.prog X.w) k f fd ps (upF X.K sd))(hr:ZH k X.A)(hb:YA X.K fd ps [])(hx:Wu X W)(ha:PDA X ⟨ex,W⟩ (e::es) t)(hst:starEach (e::es) X.env=(false,eval e X.env)::starEach es X.env:=by rfl)(hpl:Hp1 X pos es:=by rfl)(ht:eval (.Call (.Attribute o m aJ) (e::es) [] pos) X.env=(do
   let ov <- eval o X.env
   standAt aJ.atName
   let (f,first) <- holding [ov] (getMethod ov m pl)
   callWith pos f first (backTo pos (starEach (e::es) X.env)) (backToKw pos (keywordEach [] X.env))):=by rfl):PD X ⟨ex,W⟩ (.Call (.Attribute o m aJ) (e::es) [] pos) (SY C m ex sd to t):=
 Z5 (zjt ho c hm F hr hb hx ha hst hpl ht) λσ H Qv ⟨r,dl,S,Q,rs,aZ,h,ret⟩=>by unfold SY at h;exact⟨r,dl,S,_,rs,aZ,h,λv H1 r1 d S1 e1 aB p1 q1=>by
  split at q1
  .rename_i n fs ei;obtain⟨hl,q1⟩:=q1;obtain⟨a,dx,fs',rfl,hr1,eH,fr⟩:=G1 aB.b p1 ei;exact⟨a,dx,fs',rfl,eH,fr.lookup.2 hl,r1,dl,S1,_,rs.ext e1,aB,q1,λvs H2 r2 ds S2 e2 aC p2 q2=>Np (Z:=⟨ex,W⟩) (rs.ext (e1.trans e2)) aC (Rps.cons (p1.ext e2) p2) q2 (ret.ext (e1.trans e2))⟩
  .exact q1.elim⟩
theorem Cr (ho:PD X ⟨ex,W⟩ o to)(c:Cls X.K C)(hm:V7 X.K C m f)(F:Ye X.prog X.w X.K X.mg X.base (CXE X.prog X.w) k f fd ps (upF X.K sd))(hr:ZH k X.A)(hb:YA X.K fd ps [])(hx:Wu X W)(ht:eval (.Call (.Attribute o m aJ) [] [] pos) X.env=(do
   let ov <- eval o X.env
   standAt aJ.atName
   let (f,first) <- holding [ov] (getMethod ov m pl)
   callWith pos f first (backTo pos (starEach [] X.env)) (backToKw pos (keywordEach [] X.env))):=by rfl):PD X ⟨ex,W⟩ (.Call (.Attribute o m aJ) [] [] pos) (SY C m ex sd to Rt):=
 Z5 (ziW ho c hm F hr hb hx ht) λσ H Qv ⟨r,dl,S,Q,rs,aZ,h,ret⟩=>by unfold SY at h;exact⟨r,dl,S,_,rs,aZ,h,λv H1 r1 d S1 e1 aB p1 q1=>by
  split at q1
  .rename_i n fs ei;obtain⟨hl,q1⟩:=q1;obtain⟨a,dx,fs',rfl,hr1,eH,fr⟩:=G1 aB.b p1 ei;exact⟨a,dx,fs',rfl,eH,fr.lookup.2 hl,Np (Z:=⟨ex,W⟩) (rs.ext e1) aB (Rps.cons p1 Rps.nil) q1 (ret.ext e1)⟩
  .exact q1.elim⟩
def dMake (C:Addr)(ex:Addr->Sto->Prop)(sd:Sd)(t:TDA):TDE:=λdl S Q=>t dl S λds S1=>sd (.ref S1.length::ds) (S1++[.ins C []]) (λd S2=>d=.non/\Q (.ref S1.length) S2) ex
theorem BZ {C x dx:Addr}{r:List Addr}{S:Sto}{H:Hp}(aZ:Rel X.K Z r S H)(h1:H x=none)(h2:H dx=none)(h3:dx≠x):
  Rel X.K Z (r++[x]) (S++[.ins C []]) (upd (upd H dx (.own x)) x (.ins C dx []))/\Ext r (r++[x]) H (upd (upd H dx (.own x)) x (.ins C dx [])):=by
 obtain⟨rb,e⟩:=aZ.b.pushO (o:=.ins C []) (H':=upd (upd H dx (.own x)) x (.ins C dx [])) h1 (λb u q=>by rw[ZS (Ua q h1),ZS (Ua q h2)];exact q) λ_=>⟨dx,[],YG,FR.nil⟩
 exact⟨⟨rb,aZ.xw.ext e⟩,e⟩
theorem zgP {C x:Addr}{r r':List Addr}{n:Nat}{H H':Hp}{Z:Zx}{K:Fg}{Q:DK}{Qv:VK}(ret:Ret K Z r H Q Qv)(e:Ext r r' H H')(hx:r'[n]?=some x):
  Ret K Z r' H' (λd S2=>d=.non/\Q (.ref n) S2) (λv H2=>v=.non/\Qv (.ref x) H2):=λv H2 r2 d S2 e2 aC p2 q2=>by
 obtain⟨rfl,q2⟩:=q2;cases p2;exact⟨rfl,ret _ H2 r2 (.ref n) S2 (e.trans e2) aC (.ref (e2.adr _ _ hx)) q2⟩
theorem UC {C f:Addr}{fd:FuncData}{k:Nat}{ps:List Str}{sd:Sd}{ex:Addr->Sto->Prop}{W:XK}{x:Str}{p:Pos}{e:Expr}{es:List Expr}{t:TDA}(M:Mk X.K C f)
  (F:Ye X.prog X.w X.K X.mg X.base (CXE X.prog X.w) k f fd ps (upF X.K sd))(hr:ZH (k+1) X.A)(hg:Gl X x)(hm:X.mg x=some (.ref C))(hb:YA X.K fd ps [])(hx:Mp (CXE X.prog X.w) X W)(ha:PDA X (Zc ex W) (e::es) t)
  (hdb:(x==("__debug__":Str))=false:=by decide)(he:He X e es:=by rfl)(hpl:Hp1 X pos es:=by rfl):
  PD X (Zc ex W) (.Call (.Name x p) (e::es) [] pos) (dMake C ex sd t):=
 Z5 (Av M F hr hg hm hb .nil hx ha hdb he hpl) λσ H Qv ⟨r,dl,S,Q,rs,aZ,h,ret⟩=>⟨r,dl,S,_,rs,aZ,h,λvs H1 r1 ds S1 e1 aB p1 q1=>λx dx n1 n2 n3=>by
  obtain⟨aC,e2⟩:=BZ (C:=C) aB n1 n2 n3;show upF X.K sd (.ref x::(vs++[])) _ _ W;rw[xD];exact⟨ex,_,_,.ref S1.length::ds,_,aC,Rps.cons (UO aB.len) (p1.ext e2),q1,zgP (C:=C) ret (e1.trans e2) (S7 aB.len)⟩⟩
end
section
variable {κ:Type} [DecidableEq κ]
end
section
variable {X:Cx}{Z:Zx}{pos:Pos}
end
section
variable {X:Cx}{Z:Zx}{pos:Pos}
end
def Yb (xs:List D)(lo hi:Option Int):List D:=(xs.drop (HT.sIx xs.length 0 lo)).take (HT.sIx xs.length xs.length hi-HT.sIx xs.length 0 lo)
theorem Rps.drop {r:List Addr}{H:Hp}{ds:List D}{vs:List V}(h:Rps r H ds vs)(k:Nat):Rps r H (ds.drop k) (vs.drop k):=
 ⟨by simp[h.1],λi d v h1 h2=>h.2 (k+i) d v (by simpa using h1) (by simpa using h2)⟩
theorem Rps.take {r:List Addr}{H:Hp}{ds:List D}{vs:List V}(h:Rps r H ds vs)(k:Nat):Rps r H (ds.take k) (vs.take k):=by
 refine⟨by simp[h.1],λi d v h1 h2=>?_⟩;rw[uF] at h1 h2;split at h1
 .rw[if_pos (by assumption)] at h2;exact h.2 i d v h1 h2
 .cases h1
theorem Rps.cut {r:List Addr}{H:Hp}{ds:List D}{vs:List V}(h:Rps r H ds vs)(lo hi:Option Int):Rps r H (Yb ds lo hi) (Si vs lo hi):=by
 unfold Yb Si;rw[h.1];exact(h.drop _).take _
@[irreducible] def U6 (te:TDE)(tl th:TDO):TDE:=λdl S Q=>te dl S λd S1=>tl dl S1 λl S2=>th dl S2 λu S3=>match d with
 | .ref n=>match lAt S3 n with
  | some o=>Q (.ref S3.length) (S3++[.lst (Yb (Zm o) l u)])
  | none=>False
 | _=>False
theorem WG {e:Expr}{te:TDE}{lo hi:Option Expr}{tl th:TDO}{p2:Pos}(he:PD X Z e te)(hl:PDO X Z lo tl)(hu:PDO X Z hi th):PD X Z (.Subscript e (.Slice lo hi none p2) pos) (U6 te tl th):=
 Z5 (zdd za5 he hl hu) λσ H Qv ⟨r,dl,S,Q,rs,aZ,h,ret⟩=>by
  unfold U6 at h;refine⟨r,dl,S,_,rs,aZ,h,λv H1 r1 d S1 e1 aB p1 q1=>⟨r1,dl,S1,_,rs.ext e1,aB,q1,λl H2 r2 S2 e2 aC q2=>⟨r2,dl,S2,_,rs.ext (e1.trans e2),aC,q2,λu H3 r3 S3 e3 aE q3=>?_⟩⟩⟩;cases p1 with
  | @ref n a hn=>
   dsimp only at q3;split at q3
   .rename_i o eo;obtain⟨eo,eL⟩:=Y1 eo;obtain⟨a',ha,ob⟩:=aE.at eo;rw[e3.adr _ _ (e2.adr _ _ hn)] at ha;cases ha
    obtain⟨xs,sq,pr⟩:=ob.list eL;refine⟨a,xs,rfl,sq,λp hp=>?_⟩;obtain⟨aF,x⟩:=aE.push hp (pr.cut l u);exact ret _ _ _ (.ref S3.length) _ (e1.trans (e2.trans (e3.trans x))) aF (UO aE.len) q3
   .exact q3.elim
  | _=>exact(show False from q3).elim
theorem WA {te:TDE}{tl th:TDO}{dl:Ev}{S S3:Sto}{Q:DK}{n:Nat}{o:Ob}{lo hi:Option Int}(h:∀K:DK,K (.ref n) S3->te dl S K)(hl:∀K:Option Int->Sto->Prop,K lo S3->tl dl S3 K)(hh:∀K:Option Int->Sto->Prop,K hi S3->th dl S3 K)(ho:S3[n]?=some o)
  (hq:Q (.ref S3.length) (S3++[.lst (Yb (Zm o) lo hi)]))(hL:Y8 o=some o:=by rfl):U6 te tl th dl S Q:=by
 unfold U6;refine h _ (hl _ (hh _ ?_));simp only[ZM ho hL];exact hq
theorem Rps.put {r:List Addr}{H:Hp}{ds:List D}{vs:List V}{d:D}{v:V}(h:Rps r H ds vs)(p:Rp r H d v)(j:Nat):Rps r H (ds.set j d) (vs.set j v):=by
 refine⟨by simp[h.1],λi x y h1 h2=>?_⟩;by_cases z:j=i
 .subst z;have hl:j<ds.length:=by
   have:=(zA.mp h1).1;simpa using this
  rw[yB hl] at h1;rw[yB (by rw[<- h.1];exact hl)] at h2;cases h1;cases h2;exact p
 .rw[zT z] at h1 h2;exact h.2 i x y h1 h2
@[irreducible] def OS (to ti te:TDE):TDS:=λE dl S=>te dl S λv S1=>to dl S1 λd S2=>ti dl S2 λi S3=>match d,i with
 | .ref n,.int k=>match S3[n]? with
  | some (.lst xs)=>match ixN xs.length k with
   | some j=>E.nx dl (S3.set n (.lst (xs.set j v)))
   | none=>False
  | _=>False
 | _,_=>False
theorem UW (ho:PD X Z o to)(hi:PD X Z i ti)(he:PD X Z e te)(hs:swapsWithSole [.Subscript o i p2] e pos.line X.env=pure false:=by rfl)(hw:swappedStores [.Subscript o i p2] e X.env=pure none:=by rfl)(h1:(assignEach [.Subscript o i p2] X.env).map (·.2)=[assign (.Subscript o i p2) X.env]:=by rfl)(ha:∀v,assign (.Subscript o i p2) X.env v=(do let ov <- holding [v] (eval o X.env);let iv <- holding [v,ov] (eval i X.env);standAt p2;holding [v,ov,iv] (setItem ov iv v);release [v,ov,iv] []):=by intro _;rfl):PDS X Z (.Assign [.Subscript o i p2] e pos) (OS to ti te):=
 Yw (za4 he (zdZ ho hi BW ha) hs hw h1) λF σ H ⟨r,dl,S,E,rs,aZ,h,ret⟩=>by
  unfold OS at h;refine⟨r,dl,S,_,rs,aZ,h,λv H1 r1 dv S1 e1 aB p1 q1=>⟨r1,dl,S1,_,rs.ext e1,aB,q1,λx H2 r2 d S2 e2 aC pd q2=>⟨r2,dl,S2,_,rs.ext (e1.trans e2),aC,q2,λy H3 r3 di S3 e3 aE pi q3=>?_⟩⟩⟩;cases pd with
  | @ref n a hn=>
   cases pi with
   | int k=>
    dsimp only at q3;split at q3
    .rename_i xs eS;split at q3
     .rename_i j ej;have hn3:=e3.adr _ _ hn;obtain⟨ys,eH,pr⟩:=aE.b.ob n a _ hn3 eS;obtain⟨aF,x4⟩:=aE.set hn3 eS (pr.put (p1.ext (e2.trans e3)) j);exact⟨a,ys,k,j,rfl,rfl,eH,by rw[<- pr.1];exact ej,ret.nx _ _ r3 _ _ (e1.trans (e2.trans (e3.trans x4))) (rs.ext (e1.trans (e2.trans (e3.trans x4)))) aF q3⟩
     .exact q3.elim
    .exact q3.elim
   | _=>exact(show False from q3).elim
  | _=>exact(show False from q3).elim
def XB (f:D->D->Option Bool):List D->D->Option (Option Nat)
 | [],_=>some none
 | y::ys,x=>match f y x,XB f ys x with
  | some true,some _=>some (some 0)
  | some false,some o=>some (o.map (·+1))
  | _,_=>none
theorem K3:∀ {ys:List D} {o:Option Nat},XB f ys x=some o->(∀y∈ys,∃c,f y x=some c)/\∀j,o=some j->(∃y,ys[j]?=some y/\f y x=some true)/\∀m y,m<j->ys[m]?=some y->f y x=some false
 | [],o,e=>by
  have h:=Option.some.inj e;subst h;exact⟨(λy hy=>by cases hy),λj z=>by cases z⟩
 | y::ys,o,e=>by
  unfold XB at e;split at e
  .rename_i o1 e1 e2;have h:=Option.some.inj e;subst h;obtain⟨h1,_⟩:=K3 e2;refine⟨λz hz=>?_,λj hj=>?_⟩
   .rcases zS.mp hz with rfl|hz
    .exact⟨true,e1⟩
    .exact h1 z hz
   .cases hj;exact⟨⟨y,rfl,e1⟩,λm z hm=>by omega⟩
  .rename_i o1 e1 e2;have h:=Option.some.inj e;subst h;obtain⟨h1,h2⟩:=K3 e2;refine⟨λz hz=>?_,λj hj=>?_⟩
   .rcases zS.mp hz with rfl|hz
    .exact⟨false,e1⟩
    .exact h1 z hz
   .obtain⟨k,rfl,rfl⟩:=zG.mp hj;obtain⟨⟨z,hz1,hz2⟩,h3⟩:=h2 k rfl;refine⟨⟨z,by simpa using hz1,hz2⟩,λm w hm hw=>?_⟩;cases m with
    | zero=>
     have:w=y:=by simpa using hw.symm
     rw[this];exact e1
    | succ m=>exact h3 m w (by omega) (by simpa using hw)
  .cases e
theorem zeD {k:Nat}{pins:LA}{σ:St}{H:Hp}{s:Shared}{r:List Addr}{A:Around}{ds:List D}{vs:List V}{us:List Value}{dx:D}{x:V}{u:Value}{j:Nat}(I:Inv X pins σ H s)(hu:A.units+k<cLine)
  (p:Rps r H ds vs)(rv:Zw vs us)(px:Rp r H dx x)(rx:Zv x u)(e:XB (eqN k) ds dx=some (some j)):
  ∃g:Value->Bool,(∀y,y∈us.toArray->SeqAt.EqAt A s y u (g y))/\∃hj:j<us.toArray.size,g us.toArray[j]=true/\∀m (hm:m<us.toArray.size),m<j->g us.toArray[m]=false:=by
 obtain⟨h1,h2⟩:=K3 e;obtain⟨⟨yj,hyj,htj⟩,hno⟩:=h2 j rfl
 classical
 have at_:∀(m:Nat)(hm:m<us.length),∃d v,ds[m]?=some d/\Rp r H d v/\Zv v us[m]:=λm hm=>by
  have hv:m<vs.length:=by rw[rv.length];exact hm
  have gv:vs[m]?=some vs[m]:=by simp[hv]
  obtain⟨w,gw,rw'⟩:=rv.get gv;obtain⟨d,gd,pd⟩:=p.get' gv;have ew:w=us[m]:=by
   rw[zD hm] at gw;exact(Option.some.inj gw).symm
  subst ew;exact⟨d,_,gd,pd,rw'⟩
 have val:∀(m:Nat)(hm:m<us.length)(d:D)(c:Bool),ds[m]?=some d->eqN k d dx=some c->decide (∃d v,d∈ds/\Rp r H d v/\Zv v us[m]/\eqN k d dx=some true)=c:=λm hm d c hd hc=>by
  obtain⟨d',v',gd,pd,rd⟩:=at_ m hm;rw[hd] at gd;cases gd
  cases c with
  | true=>exact decide_eq_true ⟨d,v',zE hd,pd,rd,hc⟩
  | false=>
   refine decide_eq_false λ⟨d2,v2,_,pd2,rd2,hc2⟩=>?_
   have ev:=FV rd rd2;subst ev;exact absurd (Gi k d d2 dx v' false true pd pd2 hc hc2) ⋯
 refine⟨λy=>decide (∃d v,d∈ds/\Rp r H d v/\Zv v y/\eqN k d dx=some true),λy hy=>?_,?_⟩
 .have hy':y∈us:=by simpa using hy
  obtain⟨m,hm,rfl⟩:=yO.mp hy';obtain⟨d,v,gd,pd,rd⟩:=at_ m hm;obtain⟨c,hc⟩:=h1 d (zE gd);show SeqAt.EqAt A s us[m] u (decide _);rw[val m hm d c gd hc];exact HS k X pins σ H s r A d dx v x _ u c I hu pd px rd rx hc
 .have hjl:j<us.length:=by
   have:=(zA.mp hyj).1;rw[p.1,rv.length] at this;exact this
  refine⟨by simpa using hjl,?_,λm hm hmj=>?_⟩
  .have z:=val j hjl yj true hyj htj;simpa using z
  .have hm':m<us.length:=by simpa using hm
   obtain⟨d,v,gd,pd,rd⟩:=at_ m hm';have z:=val m hm' d false gd (hno m d hmj gd);simpa using z
def Rw (k:Nat)(d y:D)(S:Sto)(Q:DK):Prop:=match d with
 | .ref n=>match lAt S n with
  | some o=>match XB (eqN k) (Zm o) y with
   | some (some j)=>Q (.int (j:Int)) S
   | _=>False
  | none=>False
 | _=>False
@[irreducible] def U2 (k:Nat)(to:TDE)(t:TDA):TDE:=λdl S Q=>to dl S λd S1=>(match d with
 | .ref n=>(lAt S1 n).isSome=true/\t dl S1 λds S2=>match ds with
  | [y]=>Rw k d y S2 Q
  | _=>False
 | _=>False)
theorem zhW (hr:ZH j X.A)(hk:k<=3):MtR X "list.index" (λx xs H Qv=>∃(r:List Addr)(S:Sto)(d y:D)(v:V)(Q:DK),Rel X.K Z r S H/\Rp r H d x/\xs=[v]/\Rp r H y v/\Rw k d y S Q/\Ret X.K Z r H Q Qv):=by
 intro pins s σ H x xs v us Qv I rx rv h;obtain⟨r,S,d,y,v1,Q,aZ,pd,rfl,py,q,ret⟩:=h;obtain⟨u,rfl,ru⟩:=Vw rv;unfold Rw at q;split at q
 .rename_i n;split at q
  .rename_i o eo;obtain⟨eo,eL⟩:=Y1 eo;split at q
   .rename_i i ei;cases pd with
    | @ref n a hn=>
     cases rx;obtain⟨a',ha,ob⟩:=aZ.at eo;rw[hn] at ha;cases ha
     obtain⟨ys,sq,pr⟩:=ob.list eL;obtain⟨aX,ri,pl,hz⟩:=I.list sq;have hun:=hr.un;obtain⟨g,g1,hj,g2,g3⟩:=zeD (A:=X.A.in1) I (by show X.A.units+1+k<_;omega) pr ri py ru ei;obtain⟨ob2,m,e,c,hd,hdat⟩:=pl;obtain⟨oc,od,odat,osl⟩:=ob2;have c':oc=.type "list":=c
     have hdat':odat=.seq aX.toArray m:=hdat;subst c' hdat';refine call_meets PySem.F.slot_list_index ⟨_,e,rfl⟩ PySem.F.entry_list_index (PySem.F.args_list_index_2 _ _) (PySem.SeqAt.list_indexAt a aX.toArray m od osl u g i hj (by
      have:aX.toArray.size<=sizeLine:=by rw[zH,<- ri.length];exact hz
      have h2:=SU;omega) g2 λm hm h2=>g3 m hm h2) ⟨e,g1,?_⟩
     exact⟨.int (i:Int),H,I.tok _,⟨_,rfl⟩,ret _ H r (.int _) S Ext.refl aZ (.int _) q⟩
   .exact q.elim
  .exact q.elim
 .exact q.elim
theorem Ex (hr:ZH j X.A)(hk:k<=3)(ho:PD X Z o to)(ha:PDA X Z [e] t)(hbase:attributeBase o "index" X.env (eval o X.env)=eval o X.env:=by rfl)(hfew:((backTo aH (starEach [e] X.env)).all (λx=>!x.1)&&(backToKw aH (keywordEach [] X.env)).all (λx=>x.1.isSome)
  &&decide ([e].length+([]:List Keyword).length+(if ([]:List Keyword).isEmpty then 0 else 1)<30))=true:=by rfl)(hline:(aJ.endLine==aH.line)=true:=by rfl)(hs:starEach [e] X.env=(false,eval e X.env)::starEach [] X.env:=by rfl)(hplain:(backTo aH (starEach [] X.env)).any (·.1)=false:=by rfl):
  PD X Z (.Call (.Attribute o "index" aJ) [e] [] aH) (U2 k to t):=
 Z5 (EV (T:="list") PySem.F.plainAttrs_list PySem.F.slot_list_index PySem.F.type_list_index (zhW (Z:=Z) hr hk) ho ha hbase hfew hline hs hplain) λσ H Qv ⟨r,dl,S,Q,rs,aZ,h,ret⟩=>by
  unfold U2 at h;refine⟨r,dl,S,_,rs,aZ,h,λv H1 r1 d S1 e1 aB p1 q1=>?_⟩;cases p1 with
  | @ref n a hn=>
   obtain⟨aQ,q1⟩:=q1;obtain⟨o1,eo⟩:=yN.mp aQ;obtain⟨eo,eL⟩:=Y1 eo;obtain⟨a',ha',ob⟩:=aB.at eo;rw[hn] at ha';cases ha'
   obtain⟨xs,sq,_⟩:=ob.list eL;refine⟨.inl ⟨rfl,xs,sq⟩,r1,dl,S1,_,rs.ext e1,aB,q1,λvs H2 r2 ds S2 e2 aC p2 q2=>?_⟩;split at q2
   .rename_i y;obtain⟨v2,vs',rfl,p3,p4⟩:=p2.uncons;have z:=p4.unnil;subst z;exact⟨r2,S2,.ref n,y,v2,Q,aC,.ref (e2.adr _ _ hn),rfl,p3,q2,ret.ext (e1.trans e2)⟩
   .exact q2.elim
  | _=>exact(show False from q1).elim
theorem EM {t':Nat}{ch:List Addr}{T:Addr}{xs:List V}{vals:Array Value}(I:Inv X pins σ H s)(k:∀b o,b ∉ ch->s.heap.get? b=some o->h'.get? b=some o)(hch:∀b∈ch,Yh X pins H b)
  (hT:s.heap.objs.size<=T)(ht:h'.IsTuple T vals)(rv:Zw xs vals.toList)(hl:xs.length<=sizeLine):Inv X pins σ (upd H T (.tup xs)) { s with heap:=h',toks:=t' }:=by
 have hTn:H T=none:=I.hok.fresh hT
 have old:∀ {b:Addr} {o:Obj},s.heap.get? b=some o->b≠T:=λ{b o} e z=>absurd (zR (Heap.lt_size e) hT) (by rw[z];exact yK _)
 have trk:∀b u,H b=some u->b ∉ ch:=λb u e z=>by
  rw[(hch b z).1] at e;cases e
 have up:∀b u,H b=some u->(upd H T (.tup xs)) b=some u:=Wr hTn;refine I.step (g':=s.gens) (d':=s.drawn) (ch:=ch) (λb hb=>?_) (λb o _ _ hc e _=>k b o hc e) (λb o _ _ hc e _=>⟨o.slots,k b o hc e⟩) (λb o _ e n=>by rw[ZS (old e)];exact n)
  (λb o hc e=>⟨o,k b o hc e⟩) (λb ys e=>up _ _ e) (λb o u e=>up _ _ e) (λb ps e=>⟨#[],by rw[up _ _ e];simp⟩) (λm hm=>?_) (λb u e=>?_) I.bare
 .obtain⟨_,f1,_,f3,f4,f5⟩:=hch b hb;exact⟨f3,f1,f4,f5⟩
 .obtain⟨o,es,ep,ho,r⟩:=hm;exact⟨o,es,ep,k _ o (λz=>(hch _ z).2.1 rfl) ho,r⟩
 .by_cases hb:b=T
  .subst hb;rw[YG] at e;cases e;exact⟨hl,vals.toList,rv,by rw[Array.toArray_toList];exact ht⟩
  .rw[ZS hb] at e;refine(I.hok b u e).stay (λc v hc q=>k c v ?_ q) (λd z=>up _ _ z) λd ys z=>up _ _ z
   rcases hc with z|z
   .rw[z];exact trk b u e
   .exact trk c _ z
theorem PK {t':Nat}{ch:List Addr}(I:Inv X pins σ H s)(k:∀b o,b ∉ ch->s.heap.get? b=some o->h'.get? b=some o)(hch:∀b∈ch,Yh X pins H b):Inv X pins σ H { s with heap:=h',toks:=t' }:=by
 have trk:∀b u,H b=some u->b ∉ ch:=λb u e z=>by
  rw[(hch b z).1] at e;cases e
 refine I.step (g':=s.gens) (d':=s.drawn) (ch:=ch) (λb hb=>?_) (λb o _ _ hc e _=>k b o hc e) (λb o _ _ hc e _=>⟨o.slots,k b o hc e⟩) (λb o _ e n=>n)
  (λb o hc e=>⟨o,k b o hc e⟩) (λb ys e=>e) (λb o u e=>e) (λb ps e=>⟨#[],by rw[e];simp⟩) (λm hm=>?_) (λb u e=>?_) I.bare
 .obtain⟨_,f1,_,f3,f4,f5⟩:=hch b hb;exact⟨f3,f1,f4,f5⟩
 .obtain⟨o,es,ep,ho,r⟩:=hm;exact⟨o,es,ep,k _ o (λz=>(hch _ z).2.1 rfl) ho,r⟩
 .refine(I.hok b u e).stay (λc v hc q=>k c v ?_ q) (λd z=>z) λd ys z=>z
  rcases hc with z|z
  .rw[z];exact trk b u e
  .exact trk c _ z
def Ite (K:Fg)(a:Addr):It:=
 ⟨λi H=>∃xs x,SqL K H a xs/\xs[i]?=some x,λi H x H'=>∃T v,x=.ref T/\H T=none/\H'=upd H T (.tup [.int (i:Int),v])/\∀xs,SqL K H a xs->xs[i]?=some v,λi H=>∃xs,SqL K H a xs/\xs.length=i⟩
theorem zdX {P:Program}{w:World}{K:Fg}{aL:List Expr}{kk:Nat}{tp:Pos}(a e it:Addr)(hei:e≠it)(hae:a≠e)(hai:a≠it):
  UU P w K (.Tuple aL kk tp) (Ite K a) [e,it] e (λi h=>(∃old,IsEnum h e it i old)/\h.IsListIter it a i) where
 mem:=by simp
 obj:=λi h st b hb=>by
  obtain⟨⟨old,he⟩,o,e1,c,d⟩:=st;have hb':b=e\/b=it:=by simpa using hb
  rcases hb' with rfl|rfl
  .exact⟨_,he,λv z=>by cases z⟩
  .exact⟨o,e1,λv z=>by rw[d] at z;cases z⟩
 keep:=λi h h' st k=>by
  obtain⟨⟨old,he⟩,hit⟩:=st;exact⟨⟨old,k e (by simp) _ he⟩,hit.at λo x=>k it (by simp) o x⟩
 item:=by
  intro X hP hw hK hc i pins s σ H E I hf st hg;subst hP hw hK;obtain⟨xs,x,hq,hx⟩:=hg;obtain⟨aX,rv,p,hz⟩:=I.list hq;obtain⟨u,hu,ru⟩:=rv.get hx;have hi:i<aX.toArray.size:=by
   have:=(zA.mp hu).1;simpa using this
  have W:=WalksT.enumerate (prog:=X.prog) (w:=X.w) (A:=X.A) (I.ok.hd hc) e it a hei hae hai aX.toArray;refine W.item i s _ _ hi ⟨st.1,st.2,p.isList⟩ λT vals h' tk hP hT ht mid k1=>?_
  obtain⟨t,y,hy,rfl⟩:=hP;have ey:y=u:=by
   have z:aX[i]?=some y:=by simpa using hy
   rw[hu] at z;exact(Option.some.inj z).symm
  subst ey;have hw:∀b∈[e,it],Yh X pins H b:=hf
  have I1:Inv X pins σ (upd H T (.tup [.int (i:Int),x])) { s with heap:=h',toks:=tk }:=EM I k1 hw hT ht (.cons ⟨t,rfl⟩ (.cons ru .nil)) (show 2<=sizeLine from Sq ⋯)
  have neT:∀b∈[e,it],b≠T:=λb hb z=>W.apart i T h' mid (z ▸ hb)
  have hf1:∀b∈[e,it],Yh X pins (upd H T (.tup [.int (i:Int),x])) b:=λb hb=>⟨by rw[ZS (neT b hb)];exact(hf b hb).1,(hf b hb).2⟩
  refine⟨.ref T,rfl,W.go aL kk tp i T _ _ _ mid λh2 st2 k2=>?_⟩;have I2:Inv X pins σ (upd H T (.tup [.int (i:Int),x])) { s with heap:=h2,toks:=tk }:=PK (s:={ s with heap:=h',toks:=tk }) (t':=tk) I1 k2 hf1;exact⟨.ref T,_,I2,rfl,⟨T,x,rfl,I.hok.fresh hT,rfl,λys hy=>by rw[I.list_inj hy hq];exact hx⟩,⟨st2.1,st2.2.1⟩,λb hb=>(hf1 b hb).1⟩
 done:=by
  intro X hP hw hK hc i pins s σ H E I hf st hg;subst hP hw hK;obtain⟨xs,hq,hx⟩:=hg;obtain⟨aX,rv,p,hz⟩:=I.list hq;have W:=WalksT.enumerate (prog:=X.prog) (w:=X.w) (A:=X.A) (I.ok.hd hc) e it a hei hae hai aX.toArray
  have hi:i=aX.toArray.size:=by rw[zH,<- rv.length];exact hx.symm
  subst hi;exact W.done s _ _ ⟨st.1,st.2,p.isList⟩ λh' tk k1=>⟨rfl,PK (t':=tk) I k1 hf⟩
 self:=λA i s Q E st h=>by
  obtain⟨⟨old,he⟩,_⟩:=st;exact wpAny_pyIter_enum he h
def DS (K:Fg)(ta:TA):TI:=λσ H R=>ta σ H λvs H1=>∃a,vs=[.ref a]/\(∃xs,SqL K H1 a xs)/\R (Ite K a) H1
theorem JF {a:Expr}{ta:TA}{p pos tp:Pos}{aL:List Expr}{kk:Nat}(hg:Gl X "enumerate")(hm:X.mg "enumerate"=none)(hv:bootBuiltins "enumerate"=some (.type "enumerate"))(ha:PA X [a] ta)(hs:starEach [a] X.env=[(false,eval a X.env)]:=by rfl):
  PI X (.Tuple aL kk tp) (.Call (.Name "enumerate" p) [a] [] pos) (DS X.K ta):=by
 intro pins s σ H R I h;refine Call_ (WD I hg hm hv (PyProof.Rows.callWith_type1 (thn (ha pos pins s σ H _ I h) λus s1 ⟨vs,H1,I1,r1,q1⟩=>?_) hs rfl));obtain⟨l,e,⟨xs,hq⟩,q⟩:=q1;subst e;cases r1 with
 | cons r rr=>
  cases rr;cases r;obtain⟨aX,rv,pl,hz⟩:=I1.list hq;have hll:l<s1.heap.objs.size:=by
   obtain⟨o,e,_⟩:=pl.isList;exact Heap.lt_size e
  refine call_enumerate_list pl.isList λh' he hit hsz hk=>?_
  have I2:Inv X pins σ H1 { s1 with heap:=h' }:=I1.kept (t':=s1.toks) hk;refine wpAny_pyIter_enum he ⟨s1.heap.objs.size+1,[s1.heap.objs.size+1,s1.heap.objs.size],_,_,H1,rfl,I2,zdX l _ _ (Nat.succ_ne_self _) (zK (Nat.lt_succ_of_lt hll)) (zK hll),⟨⟨_,he⟩,hit⟩,λb hb=>?_,q⟩;have hb':b=s1.heap.objs.size+1\/b=s1.heap.objs.size:=by simpa using hb
  rcases hb' with rfl|rfl
  .exact I1.fpOk (xO _) (I1.hok.fresh (xO _))
  .exact I1.fpOk (zC _) (I1.hok.fresh (zC _))
def Itz (K:Fg)(a b:Addr):It:=
  ⟨λi H=>∃xs ys x y,SqL K H a xs/\SqL K H b ys/\xs[i]?=some x/\ys[i]?=some y,
   λi H x H'=>∃T v u,x=.ref T/\H T=none/\H'=upd H T (.tup [v,u])/\(∀xs,SqL K H a xs->xs[i]?=some v)/\∀ys,SqL K H b ys->ys[i]?=some u,
   λi H=>∃xs ys,SqL K H a xs/\SqL K H b ys/\min xs.length ys.length=i⟩
theorem zdv {P:Program}{w:World}{K:Fg}{aL:List Expr}{kk:Nat}{tp:Pos}(a b z TI TO i1 i2:Addr)(D:ZipApart z TI TO i1 i2 a b):
  UU P w K (.Tuple aL kk tp) (Itz K a b) [z,TI,TO,i1,i2] z (λi h=>IsZip h z TI TO .none/\IsPair h TI (.ref i1) (.ref i2)/\(∃p q,IsPair h TO p q)/\h.IsListIter i1 a i/\h.IsListIter i2 b i) where
 mem:=by simp
 obj:=λi h st c hc=>by
  obtain⟨hz,hTI,⟨p,q,hTO⟩,⟨o1,e1,c1,d1⟩,o2,e2,c2,d2⟩:=st;have hc':c=z\/c=TI\/c=TO\/c=i1\/c=i2:=by simpa using hc
  rcases hc' with rfl|rfl|rfl|rfl|rfl
  .exact⟨_,hz,λv y=>by cases y⟩
  .exact⟨_,hTI,λv y=>by cases y⟩
  .exact⟨_,hTO,λv y=>by cases y⟩
  .exact⟨o1,e1,λv y=>by rw[d1] at y;cases y⟩
  .exact⟨o2,e2,λv y=>by rw[d2] at y;cases y⟩
 keep:=λi h h' st k=>by
  obtain⟨hz,hTI,⟨p,q,hTO⟩,h1,h2⟩:=st;exact⟨k z (by simp) _ hz,k TI (by simp) _ hTI,⟨p,q,k TO (by simp) _ hTO⟩,h1.at λo x=>k i1 (by simp) o x,h2.at λo x=>k i2 (by simp) o x⟩
 item:=by
  intro X hP hw hK hc i pins s σ H E I hf st hg;subst hP hw hK;obtain⟨xs,ys,x,y,hq,hq2,hx,hy⟩:=hg;obtain⟨aX,rv,p,_⟩:=I.list hq;obtain⟨jts,rv2,p2,_⟩:=I.list hq2;obtain⟨u,hu,ru⟩:=rv.get hx;obtain⟨u2,hu2,ru2⟩:=rv2.get hy;have hi:i<min aX.toArray.size jts.toArray.size:=by
   have z1:=(zA.mp hu).1
   have z2:=(zA.mp hu2).1
   have sizes:aX.toArray.size=aX.length/\jts.toArray.size=jts.length:=⟨by simp,by simp⟩;omega
  have W:=WalksT.zip2 (prog:=X.prog) (w:=X.w) (A:=X.A) (I.ok.hd hc) z TI TO i1 i2 a b D aX.toArray jts.toArray;obtain⟨s1,s2,s3,s4,s5⟩:=st;refine W.item i s _ _ hi ⟨s1,s2,s3,s4,s5,p.isList,p2.isList⟩ λT vals h' tk hP hT ht mid k1=>?_
  obtain⟨v1,v2,hv1,hv2,rfl⟩:=hP;have e1:v1=u:=by
   have z:aX[i]?=some v1:=by simpa using hv1
   rw[hu] at z;exact(Option.some.inj z).symm
  have e2:v2=u2:=by
   have z:jts[i]?=some v2:=by simpa using hv2
   rw[hu2] at z;exact(Option.some.inj z).symm
  subst e1 e2;have sub:∀c∈[z,TO,i1,i2],c∈[z,TI,TO,i1,i2]:=λc hc=>by
   have hc':c=z\/c=TO\/c=i1\/c=i2:=by simpa using hc
   rcases hc' with rfl|rfl|rfl|rfl<;>simp
  have I1:Inv X pins σ (upd H T (.tup [x,y])) { s with heap:=h',toks:=tk }:=EM I k1 (λc hc=>hf c (sub c hc)) hT ht (.cons ru (.cons ru2 .nil)) (show 2<=sizeLine from Sq ⋯)
  have tiT:TI≠T:=λq=>by
   have hl:TI<s.heap.objs.size:=Heap.lt_size s2;rw[q] at hl;exact absurd (zR hl hT) (yK _)
  have neT:∀c∈[z,TI,TO,i1,i2],c≠T:=λc hc q=>by
   have hc':c=TI\/c∈[z,TO,i1,i2]:=by
    have hc2:c=z\/c=TI\/c=TO\/c=i1\/c=i2:=by simpa using hc
    rcases hc2 with rfl|rfl|rfl|rfl|rfl<;>simp
   rcases hc' with rfl|hc'
   .exact tiT q
   .exact W.apart i T h' mid (q ▸ hc')
  have hf1:∀c∈[z,TI,TO,i1,i2],Yh X pins (upd H T (.tup [x,y])) c:=λc hc=>⟨by rw[ZS (neT c hc)];exact(hf c hc).1,(hf c hc).2⟩
  refine⟨.ref T,rfl,W.go aL kk tp i T _ _ _ mid λh2 st2 k2=>?_⟩;have I2:Inv X pins σ (upd H T (.tup [x,y])) { s with heap:=h2,toks:=tk }:=PK (s:={ s with heap:=h',toks:=tk }) (t':=tk) I1 k2 λc hc=>hf1 c (sub c hc)
  obtain⟨t1,t2,t3,t4,t5,_,_⟩:=st2;exact⟨.ref T,_,I2,rfl,⟨T,x,y,rfl,I.hok.fresh hT,rfl,λzs hz=>by rw[I.list_inj hz hq];exact hx,λzs hz=>by rw[I.list_inj hz hq2];exact hy⟩,⟨t1,t2,t3,t4,t5⟩,λc hc=>(hf1 c hc).1⟩
 done:=by
  intro X hP hw hK hc i pins s σ H E I hf st hg;subst hP hw hK;obtain⟨xs,ys,hq,hq2,hx⟩:=hg;obtain⟨aX,rv,p,_⟩:=I.list hq;obtain⟨jts,rv2,p2,_⟩:=I.list hq2;have W:=WalksT.zip2 (prog:=X.prog) (w:=X.w) (A:=X.A) (I.ok.hd hc) z TI TO i1 i2 a b D aX.toArray jts.toArray
  have hi:i=min aX.toArray.size jts.toArray.size:=by rw[zH,zH,<- rv.length,<- rv2.length];exact hx.symm
  subst hi;have sub:∀c∈[z,TO,i1,i2],c∈[z,TI,TO,i1,i2]:=λc hc=>by
   have hc':c=z\/c=TO\/c=i1\/c=i2:=by simpa using hc
   rcases hc' with rfl|rfl|rfl|rfl<;>simp
  obtain⟨s1,s2,s3,s4,s5⟩:=st;exact W.done s _ _ ⟨s1,s2,s3,s4,s5,p.isList,p2.isList⟩ λh' tk k1=>⟨rfl,PK (t':=tk) I k1 λc hc=>hf c (sub c hc)⟩
 self:=λA i s Q E st h=>wpAny_pyIter_zip st.1 h
theorem An {n l m:Nat}(h1:l<n)(h2:m<n):ZipApart (n+4) (n+2) (n+3) n (n+1) l m:=by
 have ne:∀ {i j:Nat},i<j\/j<i->i≠j:=λ{i j} h z=>by omega
 exact⟨ne (by omega),ne (by omega),ne (by omega),ne (by omega),ne (by omega),ne (by omega),ne (by omega),ne (by omega),ne (by omega),ne (by omega),ne (by omega),ne (by omega),ne (by omega),ne (by omega),ne (by omega),ne (by omega),ne (by omega),ne (by omega)⟩
def iZip (K:Fg)(ta:TA):TI:=λσ H R=>ta σ H λvs H1=>∃a b,vs=[.ref a,.ref b]/\(∃xs,SqL K H1 a xs)/\(∃ys,SqL K H1 b ys)/\R (Itz K a b) H1
theorem Hi {a b:Expr}{ta:TA}{p pos tp:Pos}{aL:List Expr}{kk:Nat}(hg:Gl X "zip")(hm:X.mg "zip"=none)(hv:bootBuiltins "zip"=some (.type "zip"))(ha:PA X [a,b] ta)
  (hs:starEach [a,b] X.env=[(false,eval a X.env),(false,eval b X.env)]:=by rfl)(hs2:starEach [b] X.env=[(false,eval b X.env)]:=by rfl):PI X (.Tuple aL kk tp) (.Call (.Name "zip" p) [a,b] [] pos) (iZip X.K ta):=by
 intro pins s σ H R I h;refine Call_ (WD I hg hm hv (PyProof.Rows.callWith_type1 (thn (ha pos pins s σ H _ I h) λus s1 ⟨vs,H1,I1,r1,q1⟩=>?_) (by rw[hs,hs2]) (by rw[hs2];rfl)));obtain⟨l,m,e,⟨xs,hq⟩,⟨ys,hq2⟩,q⟩:=q1;subst e;cases r1 with
 | cons r rr=>
  cases rr with
  | cons r2 rr=>
   cases rr;cases r;cases r2;obtain⟨aX,rv,pl,_⟩:=I1.list hq;obtain⟨jts,rv2,pl2,_⟩:=I1.list hq2;have h1:l<s1.heap.objs.size:=by
    obtain⟨o,e,_⟩:=pl.isList;exact Heap.lt_size e
   have h2:m<s1.heap.objs.size:=by
    obtain⟨o,e,_⟩:=pl2.isList;exact Heap.lt_size e
   refine call_zip_2 pl.isList pl2.isList λh' hz hTI hTO hi1 hi2 hsz hk=>?_
   have I2:Inv X pins σ H1 { s1 with heap:=h' }:=I1.kept (t':=s1.toks) hk
   have D:=An h1 h2;refine wpAny_pyIter_zip hz ⟨s1.heap.objs.size+4,[s1.heap.objs.size+4,s1.heap.objs.size+2,s1.heap.objs.size+3,s1.heap.objs.size,s1.heap.objs.size+1],_,_,H1,rfl,I2,zdv l m _ _ _ _ _ D,⟨hz,hTI,⟨_,_,hTO⟩,hi1,hi2⟩,λc hc=>?_,q⟩;have hge:s1.heap.objs.size<=c:=by
    have hc':c=s1.heap.objs.size+4\/c=s1.heap.objs.size+2\/c=s1.heap.objs.size+3\/c=s1.heap.objs.size\/c=s1.heap.objs.size+1:=by simpa using hc
    rcases hc' with rfl|rfl|rfl|rfl|rfl
    .exact wO _ _
    .exact wO _ _
    .exact wO _ _
    .exact zC _
    .exact wO _ _
   exact I1.fpOk hge (I1.hok.fresh hge)
section
variable {X:Cx}{Z:Zx}{pos:Pos}
@[irreducible] def NY (is:List Nat)(ta:TDA)(tb:TDS):TDS:=λE dl S=>ta dl S λds S1=>match ds with
 | [.ref n]=>(lAt S1 n).isSome=true/\∃W:Nat->Nat->Ev->Sto->Prop,(∃m,W 0 m dl S1)/\∀k m dl S,W k m dl S->match lAt S n with
  | some o=>match (Zm o)[k]? with
   | some x=>tb { nx:=λdl' S'=>∃m',m'<m/\W (k+1) m' dl' S',rt:=E.rt,bk:=E.nx,ct:=λdl' S'=>∃m',m'<m/\W (k+1) m' dl' S' } (UR is [.int (k:Int),x] dl) S
   | none=>k=(Zm o).length/\E.nx dl S
  | none=>False
 | _=>False
theorem XW {r r':List Addr}{S':Sto}{H':Hp}{n:Nat}{a:Addr}{o:Ob}(hn:r'[n]?=some a)(aZ:ZW X.K r' S' H')(eo:lAt S' n=some o):∃xs,SqL X.K H' a xs/\Rps r' H' (Zm o) xs:=by
 obtain⟨eo,eL⟩:=Y1 eo;obtain⟨a',ha,ob⟩:=aZ.at eo;rw[hn] at ha;cases ha
 exact ob.list eL
theorem QR {aU:Expr}{body:List Stmt}{es:List Expr}{kk:Nat}{tp p aK:Pos}{is:List Nat}{ta:TDA}{tb:TDS}(hp:PassesOwn (mX X) X.A X.env X.xe)(hc:X.calm=true)(hN:X.N.Nodup)(hn:Nms X es is)(h2:is.length=2)
  (hg:Gl X "enumerate")(hm:X.mg "enumerate"=none)(hv:bootBuiltins "enumerate"=some (.type "enumerate"))(ha:PDA X Z [aU] ta)(hb:YE X Z body tb)
  (aM:(assignEach es X.env).length=is.length:=by rfl)(hst:(assignEach es X.env).findIdx? (·.1)=none:=by rfl)(hse:starEach [aU] X.env=[(false,eval aU X.env)]:=by rfl)
  (hs:∀y,foldedSetIterable (.Call (.Name "enumerate" p) [aU] [] aK) X.env y=pure y:=by intro _;rfl):PDS X Z (.For (.Tuple es kk tp) (.Call (.Name "enumerate" p) [aU] [] aK) body [] pos) (NY is ta tb):=
 Yw (Ut hp hc (JF hg hm hv ha hse) (Sy hc (UA hN hn) aM hst) hb hs) λF σ H ⟨r,dl,S,E,rs,aZ,h,ret⟩=>by
  unfold NY at h;refine⟨r,dl,S,_,rs,aZ,h,λvs H1 r1 ds S1 x1 aB p1 q1=>?_⟩;split at q1
  .rename_i n;obtain⟨v,vs',rfl,p2,p3⟩:=p1.uncons;have z:=p3.unnil;subst z;cases p2 with
   | @ref n a hr=>
    obtain⟨aQ,W,⟨m0,w0⟩,turn⟩:=q1;obtain⟨o1,eo1⟩:=yN.mp aQ;obtain⟨xs1,sq1,_⟩:=XW (r:=r1) hr aB.b eo1;refine⟨a,rfl,⟨xs1,sq1⟩,UE x1 rs aB ret W w0 λk m r2 dl2 S2 σ2 H2 x2 rs2 aC w2=>?_⟩;have q:=turn k m dl2 S2 w2;split at q
    .rename_i o eo;obtain⟨xs,sq,pr⟩:=XW (r:=r2) (x2.adr _ _ hr) aC.b eo;split at q
     .rename_i y ey;obtain⟨v,hvv,pv⟩:=pr.get ey;refine .inr ⟨⟨xs,v,sq,hvv⟩,_,λ_ _ z=>z,λv' H' y' K hK=>?_⟩;obtain⟨T,w,rfl,hT,rfl,hw⟩:=y';cases (hw xs sq).symm.trans hvv;have x3:=Of (r:=r2) (o:=.tup [.int (k:Int),v]) hT;exact⟨T,[.int (k:Int),v],rfl,SqT.of YG,by rw[h2];rfl,by rw[h2];rfl,hK _ _ _ x3 (Hw (rs2.ext x3) (Rps.cons (.int _) (Rps.cons (pv.ext x3) Rps.nil))) (aC.same (Wr (o:=.tup [.int (k:Int),v]) hT)) q⟩
     .obtain⟨hk,q⟩:=q;exact .inl ⟨⟨xs,sq,by rw[<- pr.1];exact hk.symm⟩,q⟩
    .exact q.elim
  .exact q1.elim
@[irreducible] def Pm (is:List Nat)(ta:TDA)(tb:TDS):TDS:=λE dl S=>ta dl S λds S1=>match ds with
 | [.ref n,.ref n']=>((lAt S1 n).isSome=true/\(lAt S1 n').isSome=true)/\∃W:Nat->Nat->Ev->Sto->Prop,(∃m,W 0 m dl S1)/\∀k m dl S,W k m dl S->match lAt S n,lAt S n' with
  | some o,some o'=>match (Zm o)[k]?,(Zm o')[k]? with
   | some x,some y=>tb { nx:=λdl' S'=>∃m',m'<m/\W (k+1) m' dl' S',rt:=E.rt,bk:=E.nx,ct:=λdl' S'=>∃m',m'<m/\W (k+1) m' dl' S' } (UR is [x,y] dl) S
   | _,_=>k=min (Zm o).length (Zm o').length/\E.nx dl S
  | _,_=>False
 | _=>False
theorem zg6 {i1 i2:Expr}{body:List Stmt}{es:List Expr}{kk:Nat}{tp p aK:Pos}{is:List Nat}{ta:TDA}{tb:TDS}(hp:PassesOwn (mX X) X.A X.env X.xe)(hc:X.calm=true)(hN:X.N.Nodup)(hn:Nms X es is)(h2:is.length=2)
  (hg:Gl X "zip")(hm:X.mg "zip"=none)(hv:bootBuiltins "zip"=some (.type "zip"))(ha:PDA X Z [i1,i2] ta)(hb:YE X Z body tb)
  (aM:(assignEach es X.env).length=is.length:=by rfl)(hst:(assignEach es X.env).findIdx? (·.1)=none:=by rfl)(hse:starEach [i1,i2] X.env=[(false,eval i1 X.env),(false,eval i2 X.env)]:=by rfl)(hse2:starEach [i2] X.env=[(false,eval i2 X.env)]:=by rfl)
  (hs:∀y,foldedSetIterable (.Call (.Name "zip" p) [i1,i2] [] aK) X.env y=pure y:=by intro _;rfl):PDS X Z (.For (.Tuple es kk tp) (.Call (.Name "zip" p) [i1,i2] [] aK) body [] pos) (Pm is ta tb):=
 Yw (Ut hp hc (Hi hg hm hv ha hse hse2) (Sy hc (UA hN hn) aM hst) hb hs) λF σ H ⟨r,dl,S,E,rs,aZ,h,ret⟩=>by
  unfold Pm at h;refine⟨r,dl,S,_,rs,aZ,h,λvs H1 r1 ds S1 x1 aB p1 q1=>?_⟩;split at q1
  .rename_i n n';obtain⟨v,vs',rfl,p2,p3⟩:=p1.uncons;obtain⟨v',vs2,rfl,p4,p5⟩:=p3.uncons;have z:=p5.unnil;subst z;cases p2 with
   | @ref n a hr=>
    cases p4 with
    | @ref n' a' hr'=>
     obtain⟨⟨aQ,hsome'⟩,W,⟨m0,w0⟩,turn⟩:=q1;obtain⟨o1,eo1⟩:=yN.mp aQ;obtain⟨o2,eo2⟩:=yN.mp hsome';obtain⟨xs1,sq1,_⟩:=XW (r:=r1) hr aB.b eo1;obtain⟨ys1,sq2,_⟩:=XW (r:=r1) hr' aB.b eo2;refine⟨a,a',rfl,⟨xs1,sq1⟩,⟨ys1,sq2⟩,UE x1 rs aB ret W w0 λk m r2 dl2 S2 σ2 H2 x2 rs2 aC w2=>?_⟩;have q:=turn k m dl2 S2 w2;split at q
     .rename_i o o' eo eo';obtain⟨xs,sq,pr⟩:=XW (r:=r2) (x2.adr _ _ hr) aC.b eo;obtain⟨ys,sq',pr'⟩:=XW (r:=r2) (x2.adr _ _ hr') aC.b eo';split at q
      .rename_i y y2 ey ey2;obtain⟨v,hvv,pv⟩:=pr.get ey;obtain⟨u,hvu,pu⟩:=pr'.get ey2;refine .inr ⟨⟨xs,ys,v,u,sq,sq',hvv,hvu⟩,_,λ_ _ z=>z,λv' H' y' K hK=>?_⟩;obtain⟨T,w,w2',rfl,hT,rfl,hw,hw2⟩:=y';cases (hw xs sq).symm.trans hvv;cases (hw2 ys sq').symm.trans hvu;have x3:=Of (r:=r2) (o:=.tup [v,u]) hT;exact⟨T,[v,u],rfl,SqT.of YG,by rw[h2];rfl,by rw[h2];rfl,hK _ _ _ x3 (Hw (rs2.ext x3) (Rps.cons (pv.ext x3) (Rps.cons (pu.ext x3) Rps.nil))) (aC.same (Wr (o:=.tup [v,u]) hT)) q⟩
      .obtain⟨hk,q⟩:=q;exact .inl ⟨⟨xs,ys,sq,sq',by rw[<- pr.1,<- pr'.1];exact hk.symm⟩,q⟩
     .exact q.elim
  .exact q1.elim
end
section
variable {X:Cx}{Z:Zx}{pos:Pos}
end
structure Dm (K:Fg)(C:Addr)(m qual:Str)(st:Stmt)(ps:List Str) where
 f:Addr
 fd:FuncData
 F:Fun K m qual st f fd
 m:V7 K C m f
 b:YA K fd ps []
structure Fm (P:Program)(w:World)(K:Fg)(mg:Str->Option Value)(base:Heap)(k:Nat)(C:Addr)(x:Str)(ps:List Str)(sd:Sd) where
 f:Addr
 fd:FuncData
 ok:Ye P w K mg base (CXE P w) k f fd ps (upF K sd)
 m:V7 K C x f
 b:YA K fd ps []
def Dm.mk' {P:Program}{w:World}{K:Fg}{mg:Str->Option Value}{base:Heap}{k:Nat}{C:Addr}{x qual:Str}{st:Stmt}{ps:List Str}{sd:Sd}(d:Dm K C x qual st ps)(h:Ye P w K mg base (CXE P w) k d.f d.fd ps (upF K sd)):Fm P w K mg base k C x ps sd:=
 ⟨d.f,d.fd,h,d.m,d.b⟩
theorem Ul:Mp (CXE P w) X (λ_ _ _=>False):=λ_ _ _ _ _ _ _ h=>by
 obtain⟨_,_,_,_,_,_,_,_,_,_,_,_,q⟩:=h;exact q.elim
theorem Fy (hr:ZH k X.A):OpR X (compareOp .NotIn) (upO X.K Z (Y7 (wIn 1 true))):=by rw[Wx];exact zhB 1 (by have:=hr.un;omega)
def Qh:W2:=λx y S Q=>match x,y with
 | .ref n,.ref m=>match S[n]?,S[m]? with
  | some (.lst xs),some (.lst ys)=>xs.length+ys.length<=1000/\Q (.ref S.length) (S++[.lst (xs++ys)])
  | _,_=>False
 | _,_=>False
theorem Rps.app {r:List Addr}{H:Hp}:∀ {ds es:List D} {xs ys:List V},Rps r H ds xs->Rps r H es ys->Rps r H (ds++es) (xs++ys)
 | [],es,xs,ys,p,q=>by
  have z:=p.unnil;subst z;exact q
 | d::ds,es,xs,ys,p,q=>by
  obtain⟨v,vs,rfl,p1,p2⟩:=p.uncons;exact Rps.cons p1 (p2.app q)
theorem M8:OpR X (binaryOp .Add) (upO X.K Z (Y7 Qh)):=by
 rw[Wx];exact UQ zgW λx y H Qv ⟨r,S,dx,dy,Q,aZ,px,py,q,ret⟩=>by
  unfold Qh at q;split at q
  .rename_i n m;split at q
   .rename_i xs ys e1 e2;obtain⟨hl,q⟩:=q;cases px with
    | @ref _ a hn=>
     cases py with
     | @ref _ a' hm=>
      obtain⟨z,hz,ob⟩:=aZ.at e1;rw[hn] at hz;cases hz
      obtain⟨z,hz,ob'⟩:=aZ.at e2;rw[hm] at hz;cases hz
      obtain⟨us,h1,p1⟩:=ob;obtain⟨vs,h2,p2⟩:=ob';refine⟨a,a',us,vs,rfl,rfl,h1,h2,?_,λp hp=>?_⟩
      .rw[<- p1.1,<- p2.1];exact Sq hl
      .obtain⟨aF,x⟩:=aZ.push hp (p1.app p2);exact ret _ _ _ (.ref S.length) _ x aF (UO aZ.len) q
   .exact q.elim
  .exact q.elim
theorem Pf (h1:S[n]?=some (.lst xs))(h2:S[m]?=some (.lst ys))(hl:xs.length+ys.length<=1000)(hq:Q (.ref S.length) (S++[.lst (xs++ys)])):Y7 Qh (.ref n) (.ref m) S Q:=by
 rw[Wx];unfold Qh;simp only[h1,h2];exact⟨hl,hq⟩
def MT (X:Cx)(m:Str)(tbl:List (Addr×Sd)):Prop:=∀C sd,(C,sd)∈tbl->Cls X.K C/\∃(f:Addr)(fd:FuncData)(k:Nat)(ps:List Str),V7 X.K C m f/\Ye X.prog X.w X.K X.mg X.base (CXE X.prog X.w) k f fd ps (upF X.K sd)/\ZH k X.A/\YA X.K fd ps []
theorem Ia:MT X m []:=λ_ _ h=>by cases h
theorem YL (c:Cls X.K C)(G:Fm X.prog X.w X.K X.mg X.base k C m ps sd)(hr:ZH k X.A)(h:MT X m tbl):MT X m ((C,sd)::tbl):=λC' sd' hm=>by
 rcases zS.mp hm with e|e
 .cases e;exact⟨c,G.f,G.fd,k,ps,G.m,G.ok,hr,G.b⟩
 .exact h C' sd' e
theorem zjG (he:PE X o ta)(M:MT X m tbl)(hx:Wu X W)(ha:PA X (e::es) t)(hst:starEach (e::es) X.env=(false,eval e X.env)::starEach es X.env)(hpl:Hp1 X pos es)(ht:eval (.Call (.Attribute o m aJ) (e::es) [] pos) X.env=(do
   let ov <- eval o X.env
   standAt aJ.atName
   let (f,first) <- holding [ov] (getMethod ov m pl)
   callWith pos f first (backTo pos (starEach (e::es) X.env)) (backToKw pos (keywordEach [] X.env)))):
  PE X (.Call (.Attribute o m aJ) (e::es) [] pos) (λσ H Q=>ta σ H λx H1=>∃a C dx fs sd,x=.ref a/\H1 a=some (.ins C dx fs)/\(C,sd)∈tbl/\fs.lookup m=none/\t σ H1 λvs H2=>upF X.K sd (x::vs) H2 Q (W σ)):=by
 intro pins s σ H Q I h;refine PySem.W.methodCall_KW (pl:=pl) (thn (he pins s σ H _ I h) λu s1 ⟨x,H1,I1,rx,a,C,dx,fs,sd,ex,ea,hm',l,q⟩=>?_) ht;subst ex;obtain rfl:u=Value.ref a:=rx;obtain⟨c,f,fd,k,ps,hm,F,hr,hb⟩:=M C sd hm';refine Iw I1 ea c hm l ?_;exact PySem.W.callWith_K (first:=[.ref a]) (h₀:=X.base) I.ok.mod.kin hm.kp (thn (ha pos pins s1 σ H1 _ I1 q) λus s2 ⟨vs,H2,I2,r,q2⟩=>⟨I2.kIn,Ny (us:=.ref a::us) (vs:=.ref a::vs) F hr hb hx I2 (.cons rfl r) q2⟩) hst hpl
@[irreducible] def OD (tbl:List (Addr×Sd))(m:Str)(ex:Ev->Addr->Sto->Prop)(to:TDE)(t:TDA):TDE:=λdl S Q=>to dl S λd S1=>∃n C fs sd,d=.ref n/\S1[n]?=some (.ins C fs)/\(C,sd)∈tbl/\fs.lookup m=none/\t dl S1 λds S2=>sd (d::ds) S2 Q (ex dl)
theorem KJ (ho:PD X ⟨ex,W⟩ o to)(M:MT X m tbl)(hx:Wu X W)(ha:PDA X ⟨ex,W⟩ (e::es) t)(hst:starEach (e::es) X.env=(false,eval e X.env)::starEach es X.env:=by rfl)(hpl:Hp1 X pos es:=by rfl)(ht:eval (.Call (.Attribute o m aJ) (e::es) [] pos) X.env=(do
   let ov <- eval o X.env
   standAt aJ.atName
   let (f,first) <- holding [ov] (getMethod ov m pl)
   callWith pos f first (backTo pos (starEach (e::es) X.env)) (backToKw pos (keywordEach [] X.env))):=by rfl):PD X ⟨ex,W⟩ (.Call (.Attribute o m aJ) (e::es) [] pos) (OD tbl m ex to t):=
 Z5 (zjG ho M hx ha hst hpl ht) λσ H Qv ⟨r,dl,S,Q,rs,aZ,h,ret⟩=>by
  unfold OD at h;refine⟨r,dl,S,_,rs,aZ,h,λv H1 r1 d S1 e1 aB p1 q1=>?_⟩;obtain⟨n,C,fs,sd,rfl,eS,hm,hl,q1⟩:=q1;obtain⟨a,dx,fs',rfl,hr1,eH,fr⟩:=G1 (C:=C) (n:=n) (fs:=fs) aB.b p1 (by simp only[WL,eS,if_pos]);exact⟨a,C,dx,fs',sd,rfl,eH,hm,fr.lookup.2 hl,r1,dl,S1,_,rs.ext e1,aB,q1,λvs H2 r2 ds S2 e2 aC p2 q2=>Np (Z:=⟨ex,W⟩) (rs.ext (e1.trans e2)) aC (Rps.cons (p1.ext e2) p2) q2 (ret.ext (e1.trans e2))⟩
theorem Fj {tbl:List (Addr×Sd)}{C:Addr}{m:Str}{ex:Ev->Addr->Sto->Prop}{sd:Sd}{to:TDE}{t:TDA}{dl:Ev}{S S1:Sto}{Q:DK}{n:Nat}{fs:List (Str×D)}(hto:∀K:DK,K (.ref n) S1->to dl S K)(h:S1[n]?=some (.ins C fs))(hm:(C,sd)∈tbl)(hf:fs.lookup m=none)(hq:t dl S1 λds S2=>sd (.ref n::ds) S2 Q (ex dl)):OD tbl m ex to t dl S Q:=by
 unfold OD;exact hto _ ⟨n,C,fs,sd,rfl,h,hm,hf,hq⟩
structure Kx (K:Fg)(C:Addr):Prop where
 cl:Cls K C
 ha:W.findIn K (.ref C) "__class__"=some (some (.builtin "object.__class__"))
 hn:W.specialIn K (.builtin "object.__class__") "__get__"=some (some (.builtin "getset_descriptor.__get__"))
 ht:W.takesIn K (.builtin "object.__class__")=some true
 hm:W.mroIn K C (.type "object")=some true
section
variable {X:Cx}{Z:Zx}
end
section
variable {n:Nat}{I:Addr}{fp wr:List Addr}{P:Nat->Value->Prop}{St:Nat->Shared->Prop}{prog:Program}{w:World}{A:Around}{s:Shared}{E:Value->Shared->Prop}{G:Array GenState->Array GenState->Prop}
end
section
variable {X:Cx}{Z:Zx}
end
def NU (k:Nat)(caps:List Nat)(wi:TI)(gt:TG)(te:TE):TE:=λσ H Q=>wi σ H λJ H1=>∀D,H1 D=none->∃W:Nat->Nat->Hp->Prop,(∃m,W 0 m (upd H1 D (.lst [])))/\∀i m H,W i m H->
 (J.stop i H/\Q (.ref D) H)\/(J.go i H/\∀x H',J.yld i H x H'->∀o:St,o.length=k->gt x (o++Yc caps σ) H' λσ8 H8=>(∃o8:St,o8.length=k/\σ8=o8++Yc caps σ)/\
  te σ8 H8 λy H3=>∃ys,H3 D=some (.lst ys)/\ys.length<sizeLine/\∃m',m'<m/\W (i+1) m' (upd H3 D (.lst (ys++[y]))))
section
variable {X:Cx}{pins:LA}{σ:St}{H:Hp}{s:Shared}
end
theorem C4 (hc:X.calm=true)(cs:Wd sc X.env.scope own N)(hN:∀(j:Nat)(y:Str),N[j]?=some y->∃i,caps[j]?=some i/\X.N[i]?=some y)(aM:caps.length=N.length)(hi:PI X (.Tuple aL kk tp) aU wi)(hg:∀cl C s0 H0 fp pn,PG (Cx.comp X sc (own++N) cl C s0 H0 fp pn) (.Tuple aL kk tp) gt)(he:∀cl C s0 H0 fp pn,PE (Cx.comp X sc (own++N) cl C s0 H0 fp pn) aW te)(hs:∀y,foldedSetIterable aU X.env y=pure y)(I:Inv X pins σ H s)(h:NU own.length caps wi gt te σ H Q)(aY:∀D C s',R4 X pins σ C Q D s'->compPost (mX X) X.A X.xe use Qr (.ref D) C (.ok .next) s'):
  wpAny (mX X) X.A (comprehension (.ListComp aW [⟨.Tuple aL kk tp,aU,[],0⟩] sc pos) sc X.env p2 (newList []) false (eval aU X.env) use) Qr X.xe s:=
 GG (tc:=λ_ H K=>K true H) hc cs hN aM hi hg he (λ_ _ _ _ _ _=>Dr) hs I h (λ_ _ b=>b) aY
theorem zaN (hc:X.calm=true)(cs:Wd sc X.env.scope own N)(hN:Hn X caps N)
  (hi:PI X (.Tuple aL kk tp) aU wi)(hg:∀cl C s0 H0 fp pn,PG (Cx.comp X sc (own++N) cl C s0 H0 fp pn) (.Tuple aL kk tp) gt)(he:∀cl C s0 H0 fp pn,PE (Cx.comp X sc (own++N) cl C s0 H0 fp pn) aW te)
  (hs:∀y,foldedSetIterable aU X.env y=pure y:=by intro _;rfl):PE X (.ListComp aW [⟨.Tuple aL kk tp,aU,[],0⟩] sc pos) (NU own.length caps wi gt te):=by
 intro pins s σ H Q I h;rw[eval_ListComp];refine C4 (use:=none) hc cs (Xj hN).1 (Xj hN).2 hi hg he hs I h λD C s' f=>?_
 obtain⟨⟨H',I',q,hC⟩,⟨m,ns⟩,l,o,c,p⟩:=f;exact⟨m,ns,λh' sb=>⟨.ref D,H',I'.turned (t':=s'.toks) (λb ob hb e=>(sb.2 b hb).trans e) hC l (.inr o) c p,rfl,q⟩⟩
section
variable {X:Cx}{Z:Zx}{aW:Expr}{pos:Pos}{sc ar:Scope}{N:List Str}{caps:List Nat}
def E5 (caps:List Nat)(te:TDE)(k:Nat)(dl:Ev)(d1 d2:D)(S:Sto)(nx:Sto->Prop):Prop:=
 te (some d1::some d2::Z8 caps dl) S λy S2=>match S2[k]? with
  | some (.lst ys)=>ys.length<1000/\nx (S2.set k (.lst (ys++[y])))
  | _=>False
theorem FA {r:List Addr}{H:Hp}{dl:Ev}{σ:St}{d1 d2:D}{v1 v2:V}(h:Rs r H dl σ)(p1:Rp r H d1 v1)(p2:Rp r H d2 v2):Rs r H (some d1::some d2::Z8 caps dl) (some v1::some v2::Yc caps σ):=by
 have z:=Hc (caps:=caps) h p2;refine⟨by have:=z.1;simp only[zU] at this ⊢;omega,λi e hi=>?_⟩;cases i with
 | zero=>simp at hi;subst hi;exact⟨v1,rfl,p1⟩
 | succ i=>exact z.2 i e (by simpa using hi)
end
def Py:WC:=λds S Q=>match ds with
 | [.ref n]=>match lAt S n with
  | some o=>match YX (Zm o) with
   | some ns=>Q (.int ns.sum) S
   | none=>False
  | none=>False
 | _=>False
theorem Ma (hc:X.calm=true):Ym X (.builtin "sum") (upC X.K Z Py):=by
 intro pins s σ H xs us Qv I rv h;obtain⟨r,S,ds,Q,aZ,ps,q,ret⟩:=h;unfold Py at q;split at q
 .rename_i n;obtain⟨v,vs,rfl,p1,p2⟩:=ps.uncons;have z:=p2.unnil;subst z;split at q
  .rename_i o eo;split at q
   .rename_i ns en;cases p1 with
    | ref h1=>
     obtain⟨eo,eL⟩:=Y1 eo;obtain⟨a,ha,ob⟩:=aZ.at eo;rw[h1] at ha;cases ha
     obtain⟨ys,sq,pr⟩:=ob.list eL;obtain⟨u,rfl,ru⟩:=Vw rv;cases ru;obtain⟨aX,ri,pl,hz⟩:=I.list sq;obtain⟨zs,hz1,hz2⟩:=IA en pr ri;have isl:=pl.isList;rw[hz1] at isl;refine sum_intListG (I.ok.hd hc) isl λh' tk t' hk=>?_
     have e:preSum (numAt zs.toArray) zs.toArray.size=ns.sum:=by
      rw[preSum_eq,yQ (by simp)];show (zs.map (·.1)).sum=ns.sum;rw[hz2]
     rw[e];exact⟨.int _,H,I.kept hk,⟨_,rfl⟩,ret _ _ _ _ _ Ext.refl aZ (.int _) q⟩
   .exact q.elim
  .exact q.elim
 .exact q.elim
section
variable {X:Cx}{Z:Zx}
end
theorem MF:∀ {us:List Value} {ms:List Int},IntsAre us ms->Zw (ms.map V.int) us
 | _,_,.nil=>.nil
 | _,_,.cons n t h=>.cons ⟨t,rfl⟩ (MF h)
def M4:W2:=λx y S Q=>match x,y with
 | .ref n,.int k=>match S[n]? with
  | some (.lst xs)=>(0<=k/\k<=1000/\xs.length*k.toNat<=1000)/\Q (.ref S.length) (S++[.lst (List.replicate k.toNat xs).flatten])
  | _=>False
 | _,_=>False
theorem Rps.rep {r:List Addr}{H:Hp}{ds:List D}{xs:List V}(h:Rps r H ds xs):∀k:Nat,Rps r H (List.replicate k ds).flatten (List.replicate k xs).flatten
 | 0=>Rps.nil
 | k+1=>by
  simp only[yU,xF];exact h.app (Rps.rep h k)
theorem zch:OpR X (binaryOp .Mult) (upO X.K Z (Y7 M4)):=by
 rw[Wx];exact UQ zi5 λx y H Qv ⟨r,S,dx,dy,Q,aZ,px,py,q,ret⟩=>by
  unfold M4 at q;split at q
  .rename_i n k;split at q
   .rename_i xs e1;obtain⟨⟨h0,h1,hl⟩,q⟩:=q;cases py;cases px with
    | @ref _ a hn=>
     obtain⟨z,hz,ob⟩:=aZ.at e1;rw[hn] at hz;cases hz
     obtain⟨us,g1,p1⟩:=ob;refine⟨a,k,us,rfl,rfl,g1,by omega,by omega,by rw[<- p1.1];exact Sq hl,λp hp=>?_⟩;obtain⟨aF,x⟩:=aZ.push hp (p1.rep k.toNat);exact ret _ _ _ (.ref S.length) _ x aF (UO aZ.len) q
   .exact q.elim
  .exact q.elim
theorem zhv (h1:S[n]?=some (.lst xs))(hk:0<=k/\k<=1000)(hl:xs.length*k.toNat<=1000)(hq:Q (.ref S.length) (S++[.lst (List.replicate k.toNat xs).flatten])):Y7 M4 (.ref n) (.int k) S Q:=by
 rw[Wx];unfold M4;simp only[h1];exact⟨⟨hk.1,hk.2,hl⟩,hq⟩
section
variable {X:Cx}{Z:Zx}{aW:Expr}{pos:Pos}{sc ar:Scope}{N:List Str}{caps:List Nat}
@[irreducible] def Tb (caps:List Nat)(ta:TDA)(te:TDE):TDE:=λdl S Q=>ta dl S λds S1=>match ds with
 | [.ref n,.ref n']=>((lAt S1 n).isSome=true/\(lAt S1 n').isSome=true)/\∃W:Nat->Nat->Sto->Prop,(∃m,W 0 m (S1++[.lst []]))/\∀k m S2,W k m S2->match lAt S2 n,lAt S2 n' with
  | some o,some o'=>match (Zm o)[k]?,(Zm o')[k]? with
   | some x,some y=>E5 caps te S1.length dl x y S2 λS3=>∃m',m'<m/\W (k+1) m' S3
   | _,_=>k=min (Zm o).length (Zm o').length/\Q (.ref S1.length) S2
  | _,_=>False
 | _=>False
theorem F2 (h:up X.K Z (Tb caps ta te) σ H Qv):
  NU 2 caps (iZip X.K (upA X.K Z ta)) (UK X.K 2 (Uk [0,1])) (up X.K Z0 te) σ H Qv:=by
 obtain⟨r,dl,S,Q,rs,aZ,h,ret⟩:=h;unfold Tb at h;refine⟨r,dl,S,_,rs,aZ,h,λvs H1 r1 ds S1 x1 aB p1 q1=>?_⟩;split at q1
 .rename_i n n';obtain⟨v,vs',rfl,p2,p3⟩:=p1.uncons;obtain⟨v',vs2,rfl,p4,p5⟩:=p3.uncons;have z:=p5.unnil;subst z;cases p2 with
  | @ref n a hr=>
   cases p4 with
   | @ref n' a' hr'=>
    obtain⟨⟨aQ,hsome'⟩,W,⟨m0,w0⟩,turn⟩:=q1;obtain⟨o1,eo1⟩:=yN.mp aQ;obtain⟨o2,eo2⟩:=yN.mp hsome';obtain⟨xs1,sq1,_⟩:=XW (r:=r1) hr aB.b eo1;obtain⟨ys1,sq2,_⟩:=XW (r:=r1) hr' aB.b eo2;refine⟨a,a',rfl,⟨xs1,sq1⟩,⟨ys1,sq2⟩,λD0 hD=>?_⟩;obtain⟨aC,x2⟩:=aB.b.push (ds:=[]) (xs:=[]) hD Rps.nil;refine⟨λk m H'=>∃r' S',Ext (r1++[D0]) r' (upd H1 D0 (.lst [])) H'/\ZW X.K r' S' H'/\W k m S',⟨m0,_,_,Ext.refl,aC,w0⟩,?_⟩;rintro k m H2 ⟨r2,S2,x3,rb2,w2⟩;have ha2:r2[S1.length]?=some D0:=x3.adr _ _ (S7 aB.len)
    have hr2:r2[n]?=some a:=(x2.trans x3).adr _ _ hr
    have hr2':r2[n']?=some a':=(x2.trans x3).adr _ _ hr'
    have q:=turn k m S2 w2;split at q
    .rename_i o o' eo eo';obtain⟨xs,sq,pr⟩:=XW (r:=r2) hr2 rb2 eo;obtain⟨ys,sq',pr'⟩:=XW (r:=r2) hr2' rb2 eo';split at q
     .rename_i y y2 ey ey2;obtain⟨v,hv,pv⟩:=pr.get ey;obtain⟨u,hvu,pu⟩:=pr'.get ey2;refine .inr ⟨⟨xs,ys,v,u,sq,sq',hv,hvu⟩,λv' H' y' o8 ho8=>?_⟩;obtain⟨T,w,w2',rfl,hT,rfl,hw,hw2⟩:=y';have ew:w=v:=by
       have z:=hw xs sq;rw[hv] at z;exact(Option.some.inj z).symm
      have ew2:w2'=u:=by
       have z:=hw2 ys sq';rw[hvu] at z;exact(Option.some.inj z).symm
      subst ew ew2;obtain⟨c1,c2,rfl⟩:∃c1 c2,o8=[c1,c2]:=by
       match o8,ho8 with
       | [c1,c2],_=>exact⟨c1,c2,rfl⟩
      have x4:Ext r2 r2 H2 (upd H2 T (.tup [w,w2'])):=Of hT
      have rb3:=rb2.same (Wr (o:=.tup [w,w2']) hT)
      have rs3:=rs.ext (x1.trans (x2.trans (x3.trans x4)));refine⟨T,[w,w2'],rfl,SqT.of YG,rfl,rfl,⟨[some w,some w2'],rfl,rfl⟩,?_⟩;have rsY:=FA (caps:=caps) rs3 (pv.ext x4) (pu.ext x4);refine⟨r2,_,S2,_,rsY,⟨rb3,λ_ _ _ _ _ _ _ _ _ z=>z.elim⟩,q,λz H4 r4 dz S4 x6 aF p4 q4=>?_⟩;split at q4
      .rename_i ys eys;obtain⟨hl,m',hm,q4⟩:=q4;have ha4:r4[S1.length]?=some D0:=x6.adr _ _ ha2;obtain⟨zs,hD4,pz⟩:=aF.b.ob _ _ _ ha4 eys;obtain⟨rel5,x7⟩:=aF.b.set ha4 eys (pz.snoc p4);exact⟨zs,hD4,by rw[<- pz.1];exact Q6 (yL hl),m',hm,r4,_,x3.trans (x4.trans (x6.trans x7)),rel5,q4⟩
      .exact q4.elim
     .obtain⟨hk,q⟩:=q;exact .inl ⟨⟨xs,ys,sq,sq',by rw[<- pr.1,<- pr'.1];exact hk.symm⟩,ret _ H2 r2 _ S2 (x1.trans (x2.trans x3)) ⟨rb2,aZ.xw.ext (x1.trans (x2.trans x3))⟩ (.ref ha2) q⟩
    .exact q.elim
 .exact q1.elim
theorem Qj (har:X.env.scope=ar)(hc:X.calm=true)(cs:Wd sc ar [x1,x2] N)(hl1:sc.names.lookup x1=some .local)(hl2:sc.names.lookup x2=some .local)(hN:Hn X caps N)(hnd:([x1,x2]++N).Nodup)(hg:Gl X "zip")(hm:X.mg "zip"=none)(hv:bootBuiltins "zip"=some (.type "zip"))(ha:PDA X Z [a,b] ta)(he:∀cl C s0 H0 fp pn,PD (Cx.comp X sc ([x1,x2]++N) cl C s0 H0 fp pn) Z0 aW te)(hse:starEach [a,b] X.env=[(false,eval a X.env),(false,eval b X.env)]:=by rfl)(hse2:starEach [b] X.env=[(false,eval b X.env)]:=by rfl)(hs:∀y,foldedSetIterable (.Call (.Name "zip" p) [a,b] [] aK) X.env y=pure y:=by intro _;rfl):
  PD X Z (.ListComp aW [⟨.Tuple [.Name x1 p1,.Name x2 p2] kk tp,.Call (.Name "zip" p) [a,b] [] aK,[],0⟩] sc pos) (Tb caps ta te):=by
 subst har;refine Z5 (zaN hc cs hN (gt:=UK X.K 2 (Uk [0,1])) (te:=up X.K Z0 te) (Hi hg hm hv ha hse hse2) (λcl C s0 H0 fp pn=>?_) he hs) λ_ _ _ h=>F2 h
 have l1:(Cx.comp X sc ([x1,x2]++N) cl C s0 H0 fp pn).env.scope.names.lookup x1=some .local:=lookup_relabel_local hl1
 have l2:(Cx.comp X sc ([x1,x2]++N) cl C s0 H0 fp pn).env.scope.names.lookup x2=some .local:=lookup_relabel_local hl2;exact Sy hc (UA hnd (.cons rfl (.inl l1) (.inr l1) (.cons rfl (.inl l2) (.inr l2) .nil))) rfl rfl
end
section
variable {X:Cx}{Z:Zx}{pos:Pos}
end
section
variable {n:Nat}{I:Addr}{fp wr:List Addr}{P:Nat->Value->Prop}{St:Nat->Shared->Prop}{prog:Program}{w:World}{A:Around}{s:Shared}{E:Value->Shared->Prop}{G:Array GenState->Array GenState->Prop}
end
section
variable {X:Cx}{Z:Zx}{pos:Pos}
end
theorem Rps.ins {r:List Addr}{H:Hp}{y:D}{w:V}(hy:Rp r H y w):∀ {ds:List D} {xs:List V} (k:Nat),Rps r H ds xs->Rps r H (ds.take k++y::ds.drop k) (xs.take k++w::xs.drop k)
 | [],xs,k,h=>by
  have z:=h.unnil;subst z;simpa using Rps.cons hy h
 | d::ds,xs,0,h=>Rps.cons hy h
 | d::ds,xs,k+1,h=>by
  obtain⟨v,vs,rfl,p1,p2⟩:=h.uncons;exact Rps.cons p1 (Rps.ins hy k p2)
theorem Ba {P:Sto->D->D->Prop}{A:Around}{H:Hp}{s:Shared}{r:List Addr}{S:Sto}{ds es:List D}{xs ys:List V}{is js:List Value}(f:∀ {d e:D} {v1 v2:V} {u1 u2:Value},P S d e->Rp r H d v1->Rp r H e v2->Zv v1 u1->Zv v2 u2->SeqAt.EqAt A s u1 u2 true)(pr:Rps r H ds xs)(pr':Rps r H es ys)(ri:Zw xs is)(rj:Zw ys js)(hall:∀(k:Nat)(d e:D),ds[k]?=some d->es[k]?=some e->P S d e):
  ∀(k:Nat)(h1:k<is.toArray.size)(h2:k<js.toArray.size),SeqAt.EqAt A s is.toArray[k] js.toArray[k] true:=λk h1 h2=>by
 have l3:=ri.length
 have l4:=rj.length
 have k1:k<is.length:=by simpa using h1
 have k2:k<js.length:=by simpa using h2
 obtain⟨d,hd,pd⟩:=pr.get' (zD (l:=xs) (i:=k) (by omega));obtain⟨e,he,pe⟩:=pr'.get' (zD (l:=ys) (i:=k) (by omega));obtain⟨u1,hu1,ru1⟩:=ri.get (zD (l:=xs) (i:=k) (by omega));obtain⟨u2,hu2,ru2⟩:=rj.get (zD (l:=ys) (i:=k) (by omega));have z1:is.toArray[k]=u1:=by
  rw[zD k1] at hu1;simpa using Option.some.inj hu1
 have z2:js.toArray[k]=u2:=by
  rw[zD k2] at hu2;simpa using Option.some.inj hu2
 rw[z1,z2];exact f (hall k d e hd he) pd pe ru1 ru2
theorem zif (hc:X.calm=true)(cs:Wd sc X.env.scope own N)(hN:Hn X caps N)(hi:PI X (.Tuple aL kk tp) aU wi)(hg:∀cl C s0 H0 fp pn,PG (Cx.comp X sc (own++N) cl C s0 H0 fp pn) (.Tuple aL kk tp) gt)(he:∀cl C s0 H0 fp pn,PE (Cx.comp X sc (own++N) cl C s0 H0 fp pn) aW te)(hNd:X.N.Nodup)(hy:X.N[i]?=some y)(hl:X.env.scope.names.lookup y=some .local)(hsw:swapsWith (.ListComp aW [⟨.Tuple aL kk tp,aU,[],0⟩] sc pos) (some (.Name y py)) spos.line X.env=pure true)(hs:∀y,foldedSetIterable aU X.env y=pure y:=by intro _;rfl):PS X (.Assign [.Name y py] (.ListComp aW [⟨.Tuple aL kk tp,aU,[],0⟩] sc pos) spos) (λE σ H=>NU own.length caps wi gt te σ H λv H1=>E.nx (σ.set i (some v)) H1):=
 GJ (λI h aY=>C4 hc cs (Xj hN).1 (Xj hN).2 hi hg he hs I h aY) hNd hy hl hsw
theorem ziS (har:X.env.scope=ar)(hc:X.calm=true)(cs:Wd sc ar [x1,x2] N)(hl1:sc.names.lookup x1=some .local)(hl2:sc.names.lookup x2=some .local)(hN:Hn X caps N)(hnd:([x1,x2]++N).Nodup)(hNd:X.N.Nodup)(hy:X.N[i]?=some y)(hlo:ar.names.lookup y=some .local)(hg:Gl X "zip")(hm:X.mg "zip"=none)(hv:bootBuiltins "zip"=some (.type "zip"))(ha:PDA X Z [a,b] ta)(he:∀cl C s0 H0 fp pn,PD (Cx.comp X sc ([x1,x2]++N) cl C s0 H0 fp pn) Z0 aW te)(hsw:swapsWith (.ListComp aW [⟨.Tuple [.Name x1 p1,.Name x2 p2] kk tp,.Call (.Name "zip" p) [a,b] [] aK,[],0⟩] sc pos) (some (.Name y py)) spos.line X.env=pure true:=by rfl)(hse:starEach [a,b] X.env=[(false,eval a X.env),(false,eval b X.env)]:=by rfl)(hse2:starEach [b] X.env=[(false,eval b X.env)]:=by rfl)(hs:∀y,foldedSetIterable (.Call (.Name "zip" p) [a,b] [] aK) X.env y=pure y:=by intro _;rfl):
  PDS X Z (.Assign [.Name y py] (.ListComp aW [⟨.Tuple [.Name x1 p1,.Name x2 p2] kk tp,.Call (.Name "zip" p) [a,b] [] aK,[],0⟩] sc pos) spos) (SI i (Tb caps ta te)):=by
 subst har;refine Yw (zif hc cs hN (gt:=UK X.K 2 (Uk [0,1])) (te:=up X.K Z0 te) (Hi hg hm hv ha hse hse2) (λcl C s0 H0 fp pn=>?_) he hNd hy hlo hsw hs) λF σ H h=>Oj (λ_ h=>F2 h) h
 have l1:(Cx.comp X sc ([x1,x2]++N) cl C s0 H0 fp pn).env.scope.names.lookup x1=some .local:=lookup_relabel_local hl1
 have l2:(Cx.comp X sc ([x1,x2]++N) cl C s0 H0 fp pn).env.scope.names.lookup x2=some .local:=lookup_relabel_local hl2;exact Sy hc (UA hnd (.cons rfl (.inl l1) (.inr l1) (.cons rfl (.inl l2) (.inr l2) .nil))) rfl rfl
section
variable {X:Cx}{Z:Zx}
end
section
variable {X:Cx}{Z:Zx}{pos:Pos}
def ze1 (i:Nat)(ta:TDA)(tb:TDS):TDS:=λE dl S=>ta dl S λds S1=>match ds with
 | [.int lo,.int hi]=>(-(2^62)<=lo/\lo<2^62/\-(2^62)<=hi/\hi<2^62)/\∃W:Nat->Ev->Sto->Prop,W 0 dl S1/\∀k dl S,W k dl S->
   if k<(hi-lo).toNat then tb { nx:=λdl' S'=>W (k+1) dl' S',rt:=E.rt,bk:=E.nx,ct:=λdl' S'=>W (k+1) dl' S' } (dl.set i (some (.int (lo+k)))) S else E.nx dl S
 | _=>False
theorem zhr (hp:PassesOwn (mX X) X.A X.env X.xe)(hc:X.calm=true)(hN:X.N.Nodup)(hi:X.N[i]?=some x)(hx:Loc X.env.scope x)(hg:Gl X "range")(hm:X.mg "range"=none)(ha:PDA X Z [a,b] ta)(hb:YE X Z body tb)(hf:Hf X x:=by first|exact .inl rfl|exact .inr rfl|assumption)(hs:∀y,foldedSetIterable (.Call (.Name "range" p) [a,b] [] pos) X.env y=pure y:=by intro _;rfl)(hst:starEach [a,b] X.env=[(false,eval a X.env),(false,eval b X.env)]:=by rfl)(hst2:starEach [b] X.env=[(false,eval b X.env)]:=by rfl):
  PDS X Z (.For (.Name x pos') (.Call (.Name "range" p) [a,b] [] pos) body [] aK) (ze1 i ta tb):=
 Yw (Ut hp hc (E6 hg hm ha hst hst2) (Uq hN hi hx hf) hb hs) λF σ H ⟨r,dl,S,E,rs,aZ,h,ret⟩=>by
  refine⟨r,dl,S,_,rs,aZ,h,λvs H1 r1 ds S1 x1 aB p1 q1=>?_⟩;split at q1
  .rename_i lo hi;obtain⟨v,vs',rfl,p2,p3⟩:=p1.uncons;obtain⟨v2,vs2,rfl,p4,p5⟩:=p3.uncons;have z:=p5.unnil;subst z;cases p2;cases p4;obtain⟨bds,W,w0,turn⟩:=q1;refine⟨lo,hi,rfl,bds,UE x1 rs aB ret (λk m d s=>m=(hi-lo).toNat-k/\W k d s) ⟨rfl,w0⟩ λk m r2 dl2 S2 σ2 H2 x2 rs2 aC w=>?_⟩;have q:=turn k dl2 S2 w.2;split at q
   .rename_i hk;refine .inr ⟨hk,_,λd s z=>⟨(hi-lo).toNat-(k+1),by omega,rfl,z⟩,λv' H' y K hK=>?_⟩;obtain⟨rfl,rfl⟩:=y;exact hK _ _ _ Ext.refl (rs2.set i (.int _)) aC q
   .rename_i hk;exact .inl ⟨by show (hi-lo).toNat<=k;omega,q⟩
  .exact q1.elim
end
end L3
namespace L2
open PySem PySem.Spec PyProof.Rows
def Itd (lo:Int)(n:Nat):It:=⟨λi _=>i<n,λi H x H'=>H'=H/\x=.int (lo-i),λi _=>n<=i⟩
theorem zal {P:Program}{w:World}{K:Fg}{tg:Expr}(it:Addr)(lo:Int)(n:Nat):UU P w K tg (Itd lo n) [it] it (λi h=>IsRangeIter h it (lo+(i:Nat)*(-1)) ((n:Int)-(i:Nat)) (-1)) where
 mem:=zO.mpr rfl
 obj:=λi h st b hb=>by
  cases zO.mp hb;refine⟨_,st,λv z=>?_⟩;have z':Data.fields _=Data.cell v:=z;cases z'
 keep:=λi h h' st k=>k it (zO.mpr rfl) _ st
 item:=by
  intro X hP hw hK hc i pins s σ H E I hf st hg;subst hP hw hK;obtain⟨f0,f1,f2,f3,f4,f5⟩:=hf it (zO.mpr rfl);have W:=Walks.range (prog:=X.prog) (w:=X.w) (I.ok.hd hc) it lo (-1) n;refine W.item i s _ _ hg st λv h' tk hv st' kk=>?_
  obtain⟨t,rfl⟩:=hv;have I1:Inv X pins σ H { s with heap:=h',toks:=tk }:=I.turned (λb o hb e=>kk b o (λz=>hb (zO.mp z)) e) f0 f1 f3 f4 f5
  have ev:lo+(i:Int)*(-1)=lo-(i:Int):=by omega
  exact⟨_,rfl,Pq (s:={ s with heap:=h',toks:=tk }) (n:="range_iterator") st' rfl rfl ⋯ ⟨.int (lo-i),H,I1,⟨t,by rw[ev]⟩,⟨rfl,rfl⟩,st',λb hb=>(hf b hb).1⟩⟩
 done:=by
  intro X hP hw hK hc i pins s σ H E I hf st hg;subst hP hw hK;obtain⟨f0,f1,f2,f3,f4,f5⟩:=hf it (zO.mpr rfl);have hg':n<=i:=hg;exact wpAny_pyNext_range_end (I.ok.hd hc) st (by omega) λh' eb=>⟨rfl,I.turned (t':=s.toks) (λb o hb e=>eb b o hb e) f0 f1 f3 f4 f5⟩
 self:=λ_ _ _ _ _ st h=>wpAny_pyIter_rangeiter st h
theorem zci {pins:LA}{σ:St}{H:Hp}{s:Shared}{R:It->Hp->Prop}{E:Value->Shared->Prop}{lo hi:Int}{t u v:Tok}{tk:Nat}(I:Inv X pins σ H s)(h1:-(2^62)<=lo)(h2:lo<2^62)(h3:-(2^62)<=hi)(h4:hi<2^62)
  (q:R (Itd lo (lo-hi).toNat) H):wpAny (mX X) X.A (pyIter (.ref s.heap.objs.size)) (PIE X pins σ tg R) E { s with heap:=s.heap.push { cls:=.type "range",data:=.fields #[.int lo t,.int hi u,.int (-1) v] },toks:=tk }:=by
 have I1:Inv X pins σ H { s with heap:=s.heap.push { cls:=.type "range",data:=.fields #[.int lo t,.int hi u,.int (-1) v] },toks:=tk }:=I.kept λb o e=>Heap.get?_push_of_some _ e
 refine wpAny_pyIter_range (IsRange.new ..) (W.small_down h1 h2 h3 h4) ?_;refine⟨(s.heap.push { cls:=.type "range",data:=.fields #[.int lo t,.int hi u,.int (-1) v] }).objs.size,[(s.heap.push { cls:=.type "range",data:=.fields #[.int lo t,.int hi u,.int (-1) v] }).objs.size],_,_,H,rfl,
  I1.kept (t':=tk) λb o e=>Heap.get?_push_of_some _ e,zal _ lo (lo-hi).toNat,?_,λb hb=>?_,q⟩
 .show IsRangeIter _ _ (lo+((0:Nat):Int)*(-1)) ((((lo-hi).toNat:Nat):Int)-((0:Nat):Int)) (-1);rw[show lo+((0:Nat):Int)*(-1)=lo by simp,show (((lo-hi).toNat:Nat):Int)-((0:Nat):Int)=Builtin.Range.rangeSize lo hi (-1) by rw[W.rangeSize_downNat];simp];exact(Heap.get?_push_size _ rfl)
 .cases zO.mp hb;exact I1.fpOk (zC _) (I1.hok.fresh (zC _))
def iRngD (ta:TA):TI:=λσ H R=>ta σ H λvs H1=>∃i j:Int,vs=[.int i,.int j,.int (-1)]/\(-(2^62)<=i/\i<2^62/\-(2^62)<=j/\j<2^62)/\R (Itd i (i-j).toNat) H1
theorem zay {a b c:Expr}{ta:TA}{p pos:Pos}(hg:Gl X "range")(hm:X.mg "range"=none)(ha:PA X [a,b,c] ta)(hs:starEach [a,b,c] X.env=[(false,eval a X.env),(false,eval b X.env),(false,eval c X.env)]:=by rfl)(hs2:starEach [b,c] X.env=[(false,eval b X.env),(false,eval c X.env)]:=by rfl):
  PI X tg (.Call (.Name "range" p) [a,b,c] [] pos) (iRngD ta):=by
 intro pins s σ H R I h;refine Call_ (WD I hg hm boot_range (PyProof.Rows.callWith_type1 (thn (ha pos pins s σ H _ I h) λus s1 ⟨vs,H1,I1,r1,q1⟩=>?_) (by rw[hs,hs2]) (by rw[hs2];rfl)));obtain⟨i,j,e,⟨q1,q2,q3,q4⟩,q⟩:=q1;subst e;cases r1 with
 | cons r rr=>
  cases rr with
  | cons r' rr=>
   cases rr with
   | cons r2 rr=>
    cases rr;obtain⟨t,rfl⟩:=r;obtain⟨t',rfl⟩:=r';obtain⟨t2,rfl⟩:=r2;exact call_range_3 ⋯ (zci I1 q1 q2 q3 q4 q) (.inl (PyProof.noPylong_small (by omega)))
end L2
namespace L3
open PySem PySem.Spec PyProof.Rows L2
def zeJ (i:Nat)(ta:TDA)(tb:TDS):TDS:=λE dl S=>ta dl S λds S1=>match ds with
 | [.int lo,.int hi,.int st]=>st=-1/\(-(2^62)<=lo/\lo<2^62/\-(2^62)<=hi/\hi<2^62)/\∃W:Nat->Ev->Sto->Prop,W 0 dl S1/\∀k dl S,W k dl S->
   if k<(lo-hi).toNat then tb { nx:=λdl' S'=>W (k+1) dl' S',rt:=E.rt,bk:=E.nx,ct:=λdl' S'=>W (k+1) dl' S' } (dl.set i (some (.int (lo-k)))) S else E.nx dl S
 | _=>False
theorem zgR (hp:PassesOwn (mX X) X.A X.env X.xe)(hc:X.calm=true)(hN:X.N.Nodup)(hi:X.N[i]?=some x)(hx:Loc X.env.scope x)(hg:Gl X "range")(hm:X.mg "range"=none)(ha:PDA X Z [a,b,c] ta)(hb:YE X Z body tb)(hf:Hf X x:=by first|exact .inl rfl|exact .inr rfl|assumption)(hs:∀y,foldedSetIterable (.Call (.Name "range" p) [a,b,c] [] pos) X.env y=pure y:=by intro _;rfl)(hst:starEach [a,b,c] X.env=[(false,eval a X.env),(false,eval b X.env),(false,eval c X.env)]:=by rfl)(hst2:starEach [b,c] X.env=[(false,eval b X.env),(false,eval c X.env)]:=by rfl):
  PDS X Z (.For (.Name x pos') (.Call (.Name "range" p) [a,b,c] [] pos) body [] aK) (zeJ i ta tb):=
 Yw (Ut hp hc (zay hg hm ha hst hst2) (Uq hN hi hx hf) hb hs) λF σ H ⟨r,dl,S,E,rs,aZ,h,ret⟩=>by
  refine⟨r,dl,S,_,rs,aZ,h,λvs H1 r1 ds S1 x1 aB p1 q1=>?_⟩;split at q1
  .rename_i lo hi st;obtain⟨v,vs',rfl,p2,p3⟩:=p1.uncons;obtain⟨v2,vs2,rfl,p4,p5⟩:=p3.uncons;obtain⟨v3,vs3,rfl,p6,p7⟩:=p5.uncons;have z:=p7.unnil;subst z;cases p2;cases p4;cases p6;obtain⟨e3,bds,W,w0,turn⟩:=q1;subst e3;refine⟨lo,hi,rfl,bds,UE x1 rs aB ret (λk m d s=>m=(lo-hi).toNat-k/\W k d s) ⟨rfl,w0⟩ λk m r2 dl2 S2 σ2 H2 x2 rs2 aC w=>?_⟩;have q:=turn k dl2 S2 w.2;split at q
   .rename_i hk;refine .inr ⟨hk,_,λd s z=>⟨(lo-hi).toNat-(k+1),by omega,rfl,z⟩,λv' H' y K hK=>?_⟩;obtain⟨rfl,rfl⟩:=y;exact hK _ _ _ Ext.refl (rs2.set i (.int _)) aC q
   .rename_i hk;exact .inl ⟨by show (lo-hi).toNat<=k;omega,q⟩
  .exact q1.elim
open PySem PySem.Spec PyProof.Rows L2 PySem.W
structure Oy (sc around:Scope)(own caps:List Str):Prop where
 kind:sc.kind=.function
 co:sc.isCoroutine=false
 gen:sc.isGenerator=false
 nocell:∀y∈sc.names,y.2≠.cell
 loc:∀y∈own,sc.names.lookup y=some .local
 cap:∀y∈caps,sc.names.lookup y=some .free
 out:∀y∈sc.names,y.2=.free->around.names.lookup y.1=some .cell
 nd:own.Nodup
theorem F9:∀ {l:List (Str×α)},(l.map (·.1)).Nodup->(y,v)∈l->l.lookup y=some v
 | (n,k)::r,nd,h=>by
  rw[zW];rcases zS.mp h with e|e
  .cases e;simp
  .have hn:n ∉ r.map (·.1):=(xE.mp nd).1
   have ne:(y==n)=false:=by
    cases q:y==n with
    | false=>rfl
    | true=>
     have z:y=n:=by simpa using q
     subst z;exact absurd (zP.mpr ⟨_,e,rfl⟩) hn
   rw[ne];exact F9 (xE.mp nd).2 e
abbrev N3 (qual:Str)(sc:Scope)(L f:Addr)(cd:Value)(cl:List (Str×Addr)):Env:=newEnv sc L mainGlobals cl (qual++".<locals>.") (some f) cd none builtinsNs
abbrev Cx.lam (X:Cx)(A:Around)(sc:Scope)(N:List Str)(qual:Str)(f:Addr)(cd:Value)(cl:List (Str×Addr))(L:Addr)(s0:Shared)(H0:Hp):Cx:=
 { prog:=X.prog,w:=X.w,K:=X.K,mg:=X.mg,base:=X.base,A:=A.deeper (N3 qual sc L f cd cl),N:=N,s₀:=s0,H₀:=H0,env:=N3 qual sc L f cd cl,outer:=X.stack,stack:=N3 qual sc L f cd cl::X.stack,ex:=[],fn:=λ_=>false,calm:=true,pn:=[],xe:=λ_ _=>False }
theorem zbs (I:Inv X pins σ H s)(cs:Oy sc X.env.scope own N)(hN:∀(j:Nat)(y:Str),N[j]?=some y->∃i,caps[j]?=some i/\X.N[i]?=some y)(aM:caps.length=N.length)(c1:∀x c,cl.lookup x=some c->X.env.cells.lookup x=some c)(c2:∀y∈sc.names,y.2=.free->cl.lookup y.1=X.env.cells.lookup y.1)(hh:A.handled=none)(hfr:A.frames=some X.stack)(hv:Zw vs us)(hlv:vs.length=own.length)(hns:h1.Ns s.heap.objs.size (λx=>(own.zip us).reverse.lookup x))(hk:∀b o,s.heap.get? b=some o->h1.get? b=some o):
  Inv (Cx.lam X A sc (own++N) qual f cd cl s.heap.objs.size s H) [] (vs.map some++Yc caps σ) H { s with heap:=h1,toks:=tk }:=by
 have noA:∀b:Addr,b ∉ (Cx.lam X A sc (own++N) qual f cd cl s.heap.objs.size s H).ex:=λb z=>absurd (show b∈([]:List Addr) from z) (by simp)
 refine⟨⟨I.ok.mod,cs.kind,rfl,rfl,zC _,λa b c h1 h2=>I.ok.inj a b c (c1 _ _ h1) (c1 _ _ h2),λy hy=>?_,λ_ _ z=>Bool.noConfusion z,λ_=>hh,Around.frames_deeper hfr,.inr ⟨rfl,rfl⟩,λb z=>absurd z (noA b),
  I.bs,yE I.ok.bsz I.sz,λb _ _=>noA b,λb z=>absurd z (noA b),I.stack,I.stkFree⟩,rfl,I.bare,Un.kept hk,⟨_,hns,λi y v e1 e2 e3=>?_⟩,λy c e=>?_,I.hok.fresh (zC _),λy c e=>I.freeC y c (c1 _ _ e),λp hp=>absurd (show p∈([]:LA) from hp) (by simp),I.hok.kept hk,?_⟩
 .have hfree:sc.names.lookup y=some .free:=by
   rcases (show sc.names.lookup y=some .cell\/sc.names.lookup y=some .free from hy) with z|z
   .exact absurd rfl (cs.nocell _ (TJ z))
   .exact z
  have hm:=TJ hfree;obtain⟨c,e⟩:=I.ok.has y (.inl (cs.out _ hm rfl));exact⟨c,(c2 _ hm rfl).trans e⟩
 .rcases Nat.lt_or_ge i own.length with hi|hi
  .have e1':own[i]?=some y:=by rw[zJ hi] at e1;exact e1
   have e2':vs[i]?=some v:=by
    rw[zJ (by rw[zB];omega),zF] at e2;cases e:vs[i]? with
    | none=>rw[e] at e2;cases e2
    | some a=>rw[e] at e2;cases e2;rfl
   obtain⟨u,hu,rv⟩:=hv.get e2';refine⟨u,rv,.inl ⟨cs.loc y (zE e1'),?_⟩⟩;have z:(y,u)∈(own.zip us).reverse:=by
    rw[List.mem_reverse];exact zE (i:=i) (by rw[List.getElem?_zip_eq_some];exact⟨e1',hu⟩)
   have nd:((own.zip us).reverse.map (·.1)).Nodup:=by
    rw[List.map_reverse,List.map_fst_zip (by rw[<- hv.length];omega)];exact List.pairwise_reverse.mpr (cs.nd.imp λh=>Ne.symm h)
   exact F9 nd z
  .obtain⟨i,rfl⟩:∃k,i=own.length+k:=⟨i-own.length,by omega⟩;have e1':N[i]?=some y:=by
    rw[yC hi] at e1;simpa using e1
   have e2:(Yc caps σ)[i]?=some (some v):=by
    rw[yC (by rw[zB];omega),zB] at e2;simpa [hlv] using e2
   obtain⟨j,hj,hy⟩:=hN i y e1';have e2':σ[j]?=some (some v):=by
    simp only[Yc,zF,hj,xU,Option.some.injEq] at e2;cases q:σ[j]? with
    | none=>rw[q] at e2;cases e2
    | some o=>rw[q] at e2;simp at e2;rw[e2]
   have hfree:sc.names.lookup y=some .free:=cs.cap y (zE e1')
   have hm:=TJ hfree
   have hce:X.env.scope.names.lookup y=some .cell:=cs.out _ hm rfl;obtain⟨m0,_,hl⟩:=I.loc;obtain⟨u,r,l⟩:=hl j y v hy e2' (.inr (.inl hce));refine⟨u,r,.inr ⟨.inr hfree,?_⟩⟩;rcases l with ⟨k,_⟩|⟨_,c,ec,hcell⟩
   .rw[show X.env.kindOf y=some .cell from hce] at k;cases k
   .exact⟨c,(c2 _ hm rfl).trans ec,hcell.keeps hk⟩
 .obtain⟨v,z⟩:=I.cell y c (c1 _ _ e);exact⟨v,z.keeps hk⟩
 .simp[Yc,aM,hlv]
abbrev VA (qual:Str)(params:Arguments)(body:Expr)(sc:Scope)(cl:List (Str×Addr))(pm:Value)(cd:Value)(ctv:Value):Obj:={ cls:=.type "function",data:=.func (kla_fn "<lambda>" qual params body sc cl pm cd ctv) }
theorem zdL (I:Inv X pins σ H s)(cs:Oy sc X.env.scope own N)(hN:∀(j:Nat)(y:Str),N[j]?=some y->∃i,caps[j]?=some i/\X.N[i]?=some y)(aM:caps.length=N.length)(c1:∀x c,cl.lookup x=some c->X.env.cells.lookup x=some c)(c2:∀y∈sc.names,y.2=.free->cl.lookup y.1=X.env.cells.lookup y.1)(hh:A.handled=none)(hfr:A.frames=some X.stack)(hv:Zw vs us)(hlv:vs.length=own.length)(hroom:A.depth<recursionLimit)(ho:s.heap.get? f=some (VA qual params body sc cl pm cd ctv))(hcd:s.heap.CodeRec cd qual)(hb:bindArgs (kla_fn "<lambda>" qual params body sc cl pm cd ctv) ⟨us,[]⟩=pure (own.zip us))(he:PE (Cx.lam X A sc (own++N) qual f cd cl s.heap.objs.size s H) body te)(h:te (vs.map some++Yc caps σ) H Q):
  codeAny (mX X) A (.call (.ref f) ⟨us,[]⟩) (λr s'=>match r with|.ok (.ret u)=>CE X.stack X.prog X.w H s Q u s'|_=>False) s:=by
 refine kla_callFunE hroom ho rfl cs.co cs.gen rfl hcd ?_;rw[hb];have lim:s.heap.NoLimit:=I.ok.mod.nolimit.keeps λb o e=>(I.bs b o e).1
 refine wpAny_pure (wpAny_newFunctionEnv cs.nocell (λy hy=>cs.loc y.1 (wF hy).1) (λh₁ hns hsb=>?_) cs.kind);have hk₁:∀b o,s.heap.get? b=some o->h₁.get? b=some o:=λb o e=>hsb.extBut b o (zK (Heap.lt_size e)) (Heap.get?_push_of_some _ e)
 refine⟨lim.keeps hk₁,?_⟩;refine kla_codeExpr ?_;have J:=zbs (A:=A) (qual:=qual) (f:=f) (cd:=cd) (tk:=s.toks+(own.zip us).length) I cs hN aM c1 c2 hh hfr hv hlv hns hk₁;exact wpAny_mono (he [] _ _ H _ J h) (λu s' ⟨v,H',J',rv,q⟩=>⟨v,H',J'.os,J'.bare,J'.base,J'.hok,rv,q⟩) λ_ _ z=>z.elim
theorem EH {h1 h2:Heap}{c:Addr}{q:Str}(h:h1.CodeRec (.ref c) q)(k:∀o,h1.get? c=some o->h2.get? c=some o):h2.CodeRec (.ref c) q:=by
 obtain⟨c2,o,vs,t,e,h1,h3,h4⟩:=h;cases e;exact⟨c,o,vs,t,rfl,k _ h1,h3,h4⟩
theorem zgn {sc:Scope}{cl:List (Str×Addr)}{qual:Str}{params:Arguments}{body:Expr}{c P:Addr}{ps:Array Value}{pos:Pos}{fl:Nat}{Q:Value->Shared->Prop}(I:Inv X pins σ H s)(hcl:closureFor sc X.env=pure cl)
  (hcode:X.env.code=.ref c)(C:CodeHd X.base c P)(hb:∃bm o,X.mg "__builtins__"=some (.ref bm)/\bm≠builtinsNs/\bm≠mainGlobals/\X.base.get? bm=some o/\o.cls=.type "module"/\o.dict=some builtinsNs/\o.data=.plain)
  (hP:H P=some (.tbl ps))(tab:Tab pos qual H ps)
  (h:∀(f:Addr)(cd ctv:Value)(H':Hp)(ps':Array Value)(s':Shared),Inv X pins σ H' s'->H' P=some (.tbl ps')->Tab pos qual H' ps'->(∀b o,H b=some o->b≠P->H' b=some o)->s'.heap.CodeRec cd qual->(∃c',cd=.ref c'/\H' c'=some (.ext λh=>h.CodeRec (.ref c') qual))->
   s'.heap.get? f=some (VA qual params body sc cl ((X.mg "__name__").getD .none) cd ctv)->Yh X pins H' f->Q (.ref f) s'):
  wpAny (mX X) X.A (makeFunction "<lambda>" qual params (.expr body) sc X.env [] [] [] pos fl) Q X.xe s:=by
 have hg:s.heap.Ns mainGlobals X.mg:=I.ok.mod.glob.keeps I.bk
 have hPs:s.heap.get? P=some (tabObj ps):=I.hok P _ hP
 have nP:∀b,H b=none->b≠P:=λb n e=>by rw[e,hP] at n;cases n
 have gP:mainGlobals≠P:=by
  obtain⟨o,es,ep,e,_⟩:=I.ok.mod.glob;exact nP _ (I.bs _ _ e).2
 obtain⟨bm,ob,b1,b2,b3,b4,b5,b6,b7⟩:=hb;have bP:bm≠P:=nP _ (I.bs _ _ b4).2
 have BA:s.heap.BuiltinsAt X.mg P:=⟨bm,ob,b1,b2,b3,bP,(I.bs _ _ b4).1,b5,b6,b7⟩;obtain⟨tr,alt⟩:=tab;rcases alt with hn|⟨c',hf,hc'⟩
 .refine kla_makeFunction hcl I.ok.glob hg hcode (C.keeps I.bk) hPs tr hn gP BA λc' ctv h' tk hx hge hlt hrec htb=>?_
  have lt:∀b o,H b=some o->b<s.heap.objs.size:=λb o e=>I.hok.lt e
  have ltP:=lt P _ hP
  have ncP:c'≠P:=yT (zR ltP hge)
  have up:∀b o,b≠P->s.heap.get? b=some o->(h'.push (VA qual params body sc cl ((X.mg "__name__").getD .none) (.ref c') ctv)).get? b=some o:=λb o n e=>Heap.get?_push_of_some _ (hx b o n e)
  have upP:=Heap.get?_push_of_some (VA qual params body sc cl ((X.mg "__name__").getD .none) (.ref c') ctv) htb
  have rec2:(h'.push (VA qual params body sc cl ((X.mg "__name__").getD .none) (.ref c') ctv)).CodeRec (.ref c') qual:=EH hrec λo e=>Heap.get?_push_of_some _ e
  have hH:∀b o,H b=some o->b≠P->upd (upd H c' (.ext λh=>h.CodeRec (.ref c') qual)) P (.tbl (ps++#[rawInt pos.line,rawInt pos.col,.ref c'])) b=some o:=λb o e n=>by
   rw[ZS n,ZS (zK (zR (lt b o e) hge))];exact e
  have hc2:upd (upd H c' (.ext λh=>h.CodeRec (.ref c') qual)) P (.tbl (ps++#[rawInt pos.line,rawInt pos.col,.ref c'])) c'=some (.ext λh=>h.CodeRec (.ref c') qual):=by
   rw[ZS ncP,YG]
  have un:Un X.fs [] H (upd (upd H c' (.ext λh=>h.CodeRec (.ref c') qual)) P (.tbl (ps++#[rawInt pos.line,rawInt pos.col,.ref c']))) s.heap (h'.push (VA qual params body sc cl ((X.mg "__name__").getD .none) (.ref c') ctv)):=
   ⟨λb o e n _ _=>up b o (nP b n) e,λb o e n _ _=>⟨o.slots,up b o (nP b n) e⟩,λb o e n _=>by
    rw[ZS (nP b n),ZS (zK (zR (Heap.lt_size e) hge))];exact n,λb o e _=>by
    by_cases q:b=P
    .rw[q];exact⟨_,upP⟩
    .exact⟨_,up b o q e⟩,λb xs e=>hH b _ e (λq=>by rw[q,hP] at e;cases e),λb o u e=>hH b _ e (λq=>by rw[q,hP] at e;cases e),λb qs e=>by
    by_cases q:b=P
    .subst q;rw[hP] at e;cases e;exact⟨_,YG⟩
    .exact⟨#[],by rw[hH b _ e q];simp⟩⟩
  have hok:HOk X.prog X.w (upd (upd H c' (.ext λh=>h.CodeRec (.ref c') qual)) P (.tbl (ps++#[rawInt pos.line,rawInt pos.col,.ref c']))) (h'.push (VA qual params body sc cl ((X.mg "__name__").getD .none) (.ref c') ctv)):=λa o e=>by
   by_cases q:a=P
   .subst q;rw[YG] at e;cases e;exact upP
   .rw[ZS q] at e;by_cases q2:a=c'
    .subst q2;rw[YG] at e;cases e;obtain⟨_,o2,_,_,e2,e3,_⟩:=id rec2;cases e2;exact⟨rec2,⟨o2,e3⟩,λh1 h2 p k=>EH p k⟩
    .rw[ZS q2] at e;refine(I.hok a o e).stay (λb u hb r=>up b u (λz=>?_) r) (λb r=>hH b _ r λz=>by rw[z,hP] at r;cases r) λb xs r=>hH b _ r λz=>by rw[z,hP] at r;cases r
     rcases hb with hb|hb
     .exact q (hb ▸ z)
     .rw[z,hP] at hb;cases hb
  have I2:Inv X pins σ _ { s with heap:=h'.push (VA qual params body sc cl ((X.mg "__name__").getD .none) (.ref c') ctv),toks:=tk }:=I.un (t':=tk) un hok
  have fresh:s.heap.objs.size<=h'.objs.size:=yE hge (yL hlt)
  have ff:=I.fpOk (H':=upd (upd H c' (.ext λh=>h.CodeRec (.ref c') qual)) P (.tbl (ps++#[rawInt pos.line,rawInt pos.col,.ref c']))) fresh (by
   rw[ZS (yT (zR ltP fresh)),ZS (yT hlt)];exact I.hok.fresh fresh)
  refine h _ (.ref c') ctv _ _ _ I2 YG ⟨?_,.inr ⟨c',?_,hc2⟩⟩ hH rec2 ⟨c',rfl,hc2⟩ (Heap.get?_push_size _ rfl) ff
  .rw[Array.toList_append];exact TriplesOk_snoc _ _ _ _ tr
  .rw[Array.toList_append];exact codeAmong_snoc _ tr hn
 .refine kla_makeFunctionHit hcl I.ok.glob hg hcode (C.keeps I.bk) hPs tr hf BA λctv h' tk hk hsz=>?_
  have I2:Inv X pins σ H { s with heap:=h'.push (VA qual params body sc cl ((X.mg "__name__").getD .none) (.ref c') ctv),toks:=tk }:=I.kept (t':=tk) λb u e=>Heap.get?_push_of_some _ (hk b u e)
  exact h _ (.ref c') ctv H ps _ I2 hP ⟨tr,.inr ⟨c',hf,hc'⟩⟩ (λb o e _=>e) (I2.hok c' _ hc').1 ⟨c',rfl,hc'⟩ (Heap.get?_push_size _ rfl) (I.fpOk hsz (I.hok.fresh hsz))
theorem Lk {h':Heap}{t':Nat}{b:Addr}(I:Inv X pins σ H s)(f:Yh X pins H b)(k:∀a o,a≠b->s.heap.get? a=some o->h'.get? a=some o):Inv X pins σ H { s with heap:=h',toks:=t' }:=
 I.turned k f.1 f.2.1 f.2.2.2.1 f.2.2.2.2.1 f.2.2.2.2.2
theorem zau {b:Addr}(I:Inv X pins σ H s)(f:Yh X pins H b):b ∉ frs X.stack:=λz=>by
 rcases zS.mp (I.stkSub b z) with e|e
 .exact f.2.1 e
 .exact f.2.2.1 e
theorem zcr (hc:X.calm=true){l it S f:Addr}{of:Obj}{N:Nat}{M:Nat->V->Hp->Prop}{W:Nat->Hp->Prop}{Q:VK}{d:V}{dv:Value}(rd:Zv d dv)(hsq:∀i H',W i H'->∃xs,SqL X.K H' l xs/\xs.length=N/\∀(j:Nat)(v:V),xs[j]?=some v->M j v H')
  (turn:∀(i:Nat)(v:V)(u:Value)(H':Hp)(s':Shared),M i v H'->Zv v u->W i H'->Inv X pins σ H' s'->s'.heap.get? f=some of->codeAny (mX X) X.A.in1 (.call (.ref f) ⟨[u],[]⟩) (λr s''=>match r with|.ok (.ret u')=>CE X.stack X.prog X.w H' s' (λy H''=>(∃n:Int,y=.int n)/\W (i+1) H''/\∀(k:Nat)(v:V),M k v H'->M k v H'') u' s''|_=>False) s')
  (hQ:∀H',W N H'->∀(i:Nat)(v:V),M i v H'->Q v H')(hlI:l≠it)(hIS:it≠S)(hIf:it≠f)(hSf:S≠f):
  ∀(n j:Nat)(H:Hp)(s:Shared)(ob:Array Value)(c:Nat),N-j=n->j<=N->Inv X pins σ H s->W j H->Yh X pins H it->Yh X pins H S->Yh X pins H f->s.heap.IsListIter it l j->s.heap.get? S=some (seqObj "list" ob c)->s.heap.get? f=some of->(ob=#[]/\(N=j->Q d H)\/∃(vb:Value)(kb:Int)(tb:Tok)(i:Nat)(v:V),ob=#[vb,.int kb tb]/\M i v H/\Zv v vb)->
   codeAny (mX X) X.A (.builtin "max.loop" ⟨[.ref it,.ref f,.ref S],[(Str.ofString "default",dv)]⟩) (λr s'=>match r with|.ok (.ret u)=>EP X pins σ Q u s'|.ok _=>False|.error e=>X.xe e s') s:=by
 have hname:(toString "max"++toString ".loop":String)="max.loop":=by decide
 intro n
 induction n with
 | zero=>
  intro j H s ob c hn hj I w fI fS ff hit hS hf hvb;obtain⟨xs,hxs,lxs,mxs⟩:=hsq j H w;obtain⟨aX,rv,pl,hz⟩:=I.list hxs;have aM:=rv.length
  have ej:j=aX.length:=by omega
  have Wk:=Walks.list (prog:=X.prog) (w:=X.w) (A:=X.A.in1) (I.ok.hd hc) it l hlI aX.toArray;refine codeAny_builtin PySem.F.entry_max_loop ?_;rw[Around.under_plainId PySem.F.plain_max_loop _];show wpAny _ X.A.in1 (seqItems? (.ref S) >>= _) _ _ _;refine wpAny_bind (wpAny_seqItems hS rfl ?_);show wpAny _ X.A.in1 (tryCatch (pyNext (.ref it)) _ >>= _) _ _ _;refine wpAny_bind (wpAny_tryCatch (Wk.done _ _ _ ⟨by rw[zH,<- ej];exact hit,pl.isList⟩ λh' tk' hk'=>?_));have I1:Inv X pins σ H { s with heap:=h',toks:=tk' }:=Lk (t':=tk') I fI λa o na e=>hk' a o (by simpa using na) e
  rcases hvb with ⟨rfl,h0⟩|⟨vb,kb,tb,i,v,rfl,hv,r⟩
  .exact wpAny_bind (wpAny_rule (wpAny_pure ⟨d,H,I1,rd,h0 (by omega)⟩))
  have hS':=hk' S _ (by simpa using hIS.symm) hS
  show wpAny _ X.A.in1 (updateSeq S (λ_=>#[]) >>= _) _ _ _;refine wpAny_bind ?_;refine wpAny_updateSeq hS' rfl (wpAny_bind (wpAny_letGo (wpAny_pure ?_)));have s1:=Heap.SameBut.update h' S (Obj.mapSeq λ_=>(#[]:Array Value));exact⟨v,H,Lk (t':=tk') I1 fS λa o na e=>(s1.2 a na).trans e,r,hQ H (by rw[show N=j by omega];exact w) i v hv⟩
 | succ n ih=>
  intro j H s ob c hn hj I w fI fS ff hit hS hf hvb;obtain⟨xs,hxs,lxs,mxs⟩:=hsq j H w;obtain⟨aX,rv,pl,hz⟩:=I.list hxs;have aM:=rv.length
  have Wk:=Walks.list (prog:=X.prog) (w:=X.w) (A:=X.A.in1) (I.ok.hd hc) it l hlI aX.toArray;refine codeAny_builtin PySem.F.entry_max_loop ?_;rw[Around.under_plainId PySem.F.plain_max_loop _];show wpAny _ X.A.in1 (seqItems? (.ref S) >>= _) _ _ _;refine wpAny_bind (wpAny_seqItems hS rfl ?_);show wpAny _ X.A.in1 (tryCatch (pyNext (.ref it)) _ >>= _) _ _ _;refine wpAny_bind (wpAny_tryCatch (Wk.item j _ _ _ (by rw[zH];omega) ⟨hit,pl.isList⟩ λu h' tk' hP hst' hk'=>?_));have hu:aX[j]?=some u:=by simpa using hP
  have hk1:∀a o,a≠it->s.heap.get? a=some o->h'.get? a=some o:=λa o na e=>hk' a o (by simpa using na) e
  have I1:Inv X pins σ H { s with heap:=h',toks:=tk' }:=Lk (t':=tk') I fI hk1;obtain⟨v,hv⟩:∃v,xs[j]?=some v:=⟨_,zD (by omega)⟩;obtain⟨u2,hu2,rvu⟩:=rv.get hv;rw[hu] at hu2;cases hu2;have hS1:=hk1 S _ hIS.symm hS
  have hf1:=hk1 f _ hIf.symm hf;obtain⟨oI,hoI,hoc,hod⟩:=id hst'.1;show wpAny _ X.A.in1 (tryCatch (holding [u] (call (.ref f) [u])) _ >>= _) _ _ _;refine wpAny_bind (wpAny_tryCatch (wpAny_holding (wpAny_call (codeAny_mono (turn j v u H _ (mxs j v hv) rvu w I1 hf1) λr s2 h2=>?_))));cases r with
  | error e=>exact h2.elim
  | ok fl=>
   cases fl with
   | next=>exact h2.elim
   | brk=>exact h2.elim
   | cont=>exact h2.elim
   | ret ku=>
    obtain⟨y,H2,os2,bare2,un2,hok2,ry,⟨k2,rfl⟩,w2,up2⟩:=(show CE X.stack X.prog X.w H _ _ ku s2 from h2);obtain⟨t2,rfl⟩:=ry;have I2:Inv X pins σ H2 s2:=I1.call' (ch:=[]) os2 un2 hok2 bare2 (λb hb=>by simp at hb)
    have kp:∀b o,Yh X pins H b->h'.get? b=some o->s2.heap.get? b=some o/\Yh X pins H2 b:=λb o fb e=>⟨un2.keep b o e fb.1 (zau I1 fb) (by simp),un2.free b o e fb.1 (by simp),fb.2⟩
    obtain⟨hI2,fI2⟩:=kp it oI fI hoI;obtain⟨hS2,fS2⟩:=kp S _ fS hS1;obtain⟨hf2,ff2⟩:=kp f _ ff hf1;have s1:=Heap.SameBut.update s2.heap S (Obj.mapSeq λ_=>#[u,.int k2 t2]);obtain⟨c2,hc2⟩:∃c2,(s2.heap.update S (Obj.mapSeq λ_=>#[u,.int k2 t2])).get? S=some (seqObj "list" #[u,.int k2 t2] c2):=⟨_,get?_update_seq hS2 λ_=>#[u,.int k2 t2]⟩;have I3:Inv X pins σ H2 { s2 with heap:=s2.heap.update S (Obj.mapSeq λ_=>#[u,.int k2 t2]) }:=Lk (t':=s2.toks) I2 fS2 λa o na e=>(s1.2 a na).trans e
    have go:=ih (j+1) H2 _ _ c2 (by omega) (by omega) I3 w2 fI2 fS2 ff2 ⟨oI,(s1.2 it hIS).trans hI2,hoc,hod⟩ hc2 ((s1.2 f hSf.symm).trans hf2) (.inr ⟨u,k2,t2,j,v,rfl,up2 j v (mxs j v hv),rvu⟩);rcases hvb with ⟨rfl,_⟩|⟨vb,kb,tb,i,vv,rfl,hvv,r⟩
    .show wpAny _ X.A.in1 (updateSeq S (λ_=>#[u,.int k2 t2]) >>= _) _ _ _;refine wpAny_bind (wpAny_updateSeq hS2 rfl ?_);rw[hname];exact wpAny_pure ⟨plainId_quiet PySem.F.plain_max_loop _,go⟩
    show wpAny _ X.A.in1 (tryCatch (holding [u,.int k2 t2] (richCompare .Gt (.int k2 t2) (.int kb tb) >>= _)) _ >>= _) _ _ _;refine wpAny_bind (wpAny_tryCatch (wpAny_holding (wpAny_bind (CmpOf.ints_gt (prog:=X.prog) (w:=X.w) (A:=X.A.in1) (P:=λi v=>∃t,v=.int (([k2,kb]:List Int).getD i 0) t) (λi=>([k2,kb]:List Int).getD i 0) (λi v h=>h) 0 1 _ _ _ _ _ ⟨t2,rfl⟩ ⟨tb,rfl⟩ ?_))));refine wpAny_bind (wpAny_holding (wpAny_truthy_bool ?_));refine wpAny_bind (wpAny_letGo (wpAny_pure ?_));by_cases hb':([k2,kb]:List Int).getD 0 0 > ([k2,kb]:List Int).getD 1 0
    .simp only[hb',decide_true,if_true];refine wpAny_bind ?_;refine wpAny_updateSeq hS2 rfl (wpAny_bind (wpAny_letGo ?_));rw[hname];exact wpAny_pure ⟨plainId_quiet PySem.F.plain_max_loop _,go⟩
    .simp only[hb',decide_false,vI,if_false];refine wpAny_bind (wpAny_letGo ?_);rw[hname];exact wpAny_pure ⟨plainId_quiet PySem.F.plain_max_loop _,ih (j+1) H2 _ _ c (by omega) (by omega) I2 w2 fI2 fS2 ff2 ⟨oI,hI2,hoc,hod⟩ hS2 hf2 (.inr ⟨vb,kb,tb,i,vv,rfl,up2 i vv hvv,r⟩)⟩
theorem zev (a v d:Value):argsOk "max" ⟨[a],[(Str.ofString "key",v),(Str.ofString "default",d)]⟩:=by unfold argsOk;kernel_rfl
theorem zjn (hc:X.calm=true){l f:Addr}{of:Obj}{N:Nat}{M:Nat->V->Hp->Prop}{W:Nat->Hp->Prop}{Q:VK}{d:V}{dv:Value}(I:Inv X pins σ H s)(w0:W 0 H)(hsq:∀i H',W i H'->∃xs,SqL X.K H' l xs/\xs.length=N/\∀(j:Nat)(v:V),xs[j]?=some v->M j v H')
  (turn:∀(i:Nat)(v:V)(u:Value)(H':Hp)(s':Shared),M i v H'->Zv v u->W i H'->Inv X pins σ H' s'->s'.heap.get? f=some of->codeAny (mX X) X.A.in1 (.call (.ref f) ⟨[u],[]⟩) (λr s''=>match r with|.ok (.ret u')=>CE X.stack X.prog X.w H' s' (λy H''=>(∃n:Int,y=.int n)/\W (i+1) H''/\∀(k:Nat)(v:V),M k v H'->M k v H'') u' s''|_=>False) s')
  (hQ:∀H',W N H'->∀(i:Nat)(v:V),M i v H'->Q v H')(ff:Yh X pins H f)(hf:s.heap.get? f=some of)(rd:Zv d dv)(h0:N=0->Q d H):
  wpAny (mX X) X.A (call (.builtin "max") [.ref l] [(Str.ofString "key",.ref f),(Str.ofString "default",dv)]) (EP X pins σ Q) X.xe s:=by
 have hname:(toString "max"++toString ".loop":String)="max.loop":=by decide
 obtain⟨xs,hxs,lxs,mxs⟩:=hsq 0 H w0;obtain⟨aX,rv,pl,hz⟩:=I.list hxs;have aM:=rv.length
 have hls:=pl.isList;obtain⟨ol,hol,_⟩:=id hls;have hll:l<s.heap.objs.size:=Heap.lt_size hol
 have hlf:f<s.heap.objs.size:=Heap.lt_size hf;refine kmk_tree PySem.F.kind_max PySem.F.plain_max PySem.F.entry_max (zev _ _ _) ?_;show wpAny _ X.A.in1 (Builtin.Builtins.bindParams "max" ["key","default"] 0 ⟨[],[(Str.ofString "key",.ref f),(Str.ofString "default",dv)]⟩ >>= _) _ _ s;refine wpAny_bind (wpAny_of_eq (show Builtin.Builtins.bindParams "max" ["key","default"] 0 ⟨[],[(Str.ofString "key",.ref f),(Str.ofString "default",dv)]⟩=pure [some (.ref f),some dv] from rfl) ?_);refine wpAny_bind (wpAny_pure ?_);refine wpAny_bind (wpAny_pyIter_list hls ?_);refine wpAny_bind (wpAny_newList ?_ (zN _));rw[hname];have hS:(s.heap.push { cls:=.type "list_iterator",data:=.fields #[.ref l,.int 0 0] }).objs.size=s.heap.objs.size+1:=size_push' ..;refine wpAny_pure ⟨plainId_quiet PySem.F.plain_max_loop _,?_⟩;generalize ePI:s.heap.push { cls:=.type "list_iterator",data:=.fields #[.ref l,.int 0 0] }=hI at hS ⊢;have hk0:∀b o,s.heap.get? b=some o->(hI.push (seqObj "list" #[] 0)).get? b=some o:=λb o e=>Heap.get?_push_of_some _ (by rw[<- ePI];exact Heap.get?_push_of_some _ e)
 have gI:(hI.push (seqObj "list" #[] 0)).get? s.heap.objs.size=some { cls:=.type "list_iterator",data:=.fields #[.ref l,.int 0 0] }:=Heap.get?_push_of_some _ (by rw[<- ePI];exact Heap.get?_push_size _ rfl)
 have gS:(hI.push (seqObj "list" #[] 0)).get? hI.objs.size=some (seqObj "list" #[] 0):=Heap.get?_push_size _ rfl
 have I0:Inv X pins σ H { s with heap:=hI.push (seqObj "list" #[] 0) }:=I.kept (t':=s.toks) hk0
 have fI:Yh X pins H s.heap.objs.size:=I.fpOk (zC _) (I.hok.fresh (zC _))
 have leS:s.heap.objs.size<=hI.objs.size:=by rw[hS];exact xO _
 have fS:Yh X pins H hI.objs.size:=I.fpOk leS (I.hok.fresh leS)
 have hlI:l≠s.heap.objs.size:=zK hll
 have hIS:s.heap.objs.size≠hI.objs.size:=by rw[hS];exact zK (wD _)
 have hIf:s.heap.objs.size≠f:=yT hlf
 have hSf:hI.objs.size≠f:=yT (zR hlf leS)
 have hf0:=hk0 f _ hf;obtain⟨its0,rv0,pl0,_⟩:=I0.list hxs;have hlen0:=rv0.length;generalize hI.objs.size=S at gS fS hIS hSf ⊢;generalize s.heap.objs.size=it at gI fI hlI hIS hIf ⊢;exact zcr (pins:=pins) (σ:=σ) hc rd hsq turn hQ hlI hIS hIf hSf _ 0 H _ _ _ rfl (zN _) I0 w0 fI fS ff ⟨_,gI,rfl,rfl⟩ gS hf0 (.inl ⟨rfl,h0⟩)
section
variable {X:Cx}{Z:Zx}{pins:LA}{σ:St}{H H2:Hp}{s:Shared}
theorem ziJ {r:List Addr}{S:Sto}{n:Nat}{P:Addr}{lp:Pos}{q:Str}{ps ps':Array Value}(kn:∀o,X.K.lookup P≠some o)(aZ:Rel X.K Z r S H)(hS:S[n]?=some (.cod P lp q))(hP:H P=some (.tbl ps))(hP2:H2 P=some (.tbl ps'))(tab:Tab lp q H2 ps')(hH:∀b o,H b=some o->b≠P->H2 b=some o):
  Rel X.K Z r S H2/\Ext r r H H2:=by
 have x:Ext r r H H2:=⟨λ_ _ e=>e,λa xs e=>hH a _ e λz=>(by rw[z,hP] at e;cases e),λa φ e=>hH a _ e λz=>(by rw[z,hP] at e;cases e)⟩;obtain⟨a0,ea0,e0,_⟩:=aZ.at hS;subst e0;refine⟨⟨⟨aZ.b.len,λm a o h1 h2=>?_,aZ.b.nd⟩,aZ.xw.ext x⟩,x⟩;have q0:=aZ.b.ob m a o h1 h2;by_cases z:a=a0
 .subst z;by_cases ho:Vn o=true
  .have e:m=n:=aZ.b.nd m n a o _ h1 ea0 h2 hS ho rfl;subst e;rw[hS] at h2;cases h2;exact⟨rfl,ps',hP2,tab⟩
  .cases o with
   | frz ds=>
    obtain⟨xs,y,_⟩:=q0;rcases y with ⟨o,y⟩|⟨o,_,_,y,_⟩
    .rw[hP] at y;cases y
    .exact absurd y (kn o)
   | tpl ws=>
    obtain⟨o,_,_,y,_⟩:=q0;exact absurd y (kn o)
   | lst _=>exact absurd rfl ho
   | ins _ _=>exact absurd rfl ho
   | dct _=>exact absurd rfl ho
   | dck _=>exact absurd rfl ho
   | cod _ _ _=>exact absurd rfl ho
 .exact q0.keep x λu e=>hH a u e z
def Qs (caps:List Nat)(P:Addr)(lp:Pos)(q:Str)(te:TDE)(dl:Ev)(Q:DK)(d:D)(S1:Sto):Prop:=match d with
 | .ref n=>(∃t:Nat,S1[t]?=some (Ob.cod P lp q))/\match lAt S1 n with
  | some o=>(Zm o=[]->Q .non S1)/\(∀(i:Nat)(v:D)(S2:Sto),(Zm o)[i]?=some v->Pre S1 S2->te (some v::Z8 caps dl) S2 λy S3=>(∃k:Int,y=.int k)/\Pre S1 S3)/\∀(i:Nat)(v:D)(S2:Sto),(Zm o)[i]?=some v->Pre S1 S2->Q v S2
  | none=>False
 | _=>False
@[irreducible] def M7 (caps:List Nat)(P:Addr)(lp:Pos)(q:Str)(tl te:TDE):TDE:=λdl S Q=>tl dl S (Qs caps P lp q te dl Q)
def BM (mg:Str->Option Value)(base:Heap):Prop:=∃bm o,mg "__builtins__"=some (.ref bm)/\bm≠builtinsNs/\bm≠mainGlobals/\base.get? bm=some o/\o.cls=.type "module"/\o.dict=some builtinsNs/\o.data=.plain
theorem BO {a body:Expr}{tl te:TDE}{x:Str}{N:List Str}{caps:List Nat}{params:Arguments}{sc ar:Scope}{c P:Addr}{q:Str}{lp p pos kp dp np:Pos}{j:Nat}(har:X.env.scope=ar)(hc:X.calm=true)(cs:Oy sc ar [x] N)(hN:Hn X caps N)
  (hg:Gl X "max")(hm:X.mg "max"=none)(hv:bootBuiltins "max"=some (.builtin "max"))(hr:X.A.in1.depth<recursionLimit)(hcode:X.env.code=.ref c)(C:CodeHd X.base c P)(hb:BM X.mg X.base)(kn:∀o,X.K.lookup P≠some o)(hq:X.env.qual++"<lambda>"=q)
  (ha:PD X Z a tl)(he:∀f cd cl L s0 H0,PD (Cx.lam X X.A.in1 sc ([x]++N) q f cd cl L s0 H0) Z0 body te)
  (hbind:∀cl pm cd ctv u,bindArgs (kla_fn "<lambda>" q params body sc cl pm cd ctv) ⟨[u],[]⟩=pure ([x].zip [u]):=by intros;rfl)(hdef:defaultsOf params X.env=([],[]):=by rfl)(hs:starEach [a] X.env=[(false,eval a X.env)]:=by rfl):
  PD X Z (.Call (.Name "max" p) [a] [⟨some "key",.Lambda params body sc lp,kp⟩,⟨some "default",.Constant .none j np,dp⟩] pos) (M7 caps P lp q tl te):=by
 subst har;subst hq;intro pins s σ H Qv I h;obtain⟨r,dl,S,Q,rs,aZ,h,ret⟩:=h;unfold M7 at h;refine wpAny_Call_Name_kw (WD I hg hm hv ?_ ⋯ ⋯);have hda:PDA X Z [a] (QM tl Rt):=Za ha Zg hs;refine PyProof.Rows.callWith_kw (thn (hda pos pins s σ H (λvs H1=>∃(r1:List Addr)(S1:Sto)(d:D)(v:V),vs=[v]/\Ext r r1 H H1/\Rel X.K Z r1 S1 H1/\Rp r1 H1 d v/\Qs caps P lp (X.env.qual++"<lambda>") te dl Q d S1) I ?_) λus s1 ⟨vs,H1,I1,rvs,r1,S1,d,v,evs,x1,aB,pd,hk⟩=>?_) (by show backTo pos (starEach [a] X.env)=_;rw[hs];rfl) (by rw[hs];rfl)
 .refine⟨r,dl,S,λds S1=>match ds with|[d]=>Qs caps P lp (X.env.qual++"<lambda>") te dl Q d S1|_=>False,rs,aZ,h,λvs H1 r1 ds S1 e1 aB p1 q1=>?_⟩;dsimp only at q1;split at q1
  .rename_i d;obtain⟨v,vs',rfl,p2,p3⟩:=p1.uncons;have z:=p3.unnil;subst z;exact⟨r1,S1,d,v,rfl,e1,aB,p2,q1⟩
  .exact q1.elim
 unfold Qs at hk;split at hk
 rotate_left
 .exact hk.elim
 rename_i n;cases pd with
 | @ref _ a0 ha0=>
  obtain⟨⟨t,ht⟩,hk⟩:=hk;split at hk
  rotate_left
  .exact hk.elim
  rename_i o ho;obtain⟨q0,q1,q2⟩:=hk;subst evs;obtain⟨u0,rfl,ru0⟩:=Vw rvs;cases ru0;obtain⟨cl,k1,k2,k3⟩:=Fu (sc:=sc) (env:=X.env) λy hy hf=>I.ok.has y.1 (.inl (cs.out y hy hf))
  obtain⟨aP,eaP,eP,ps,hP,tab⟩:=aB.at ht;subst eP;refine PyProof.Rows.kws_cons (kla_eval hdef (zgn I1 k1 hcode C hb hP tab λf cd ctv H2 ps' s2 I2 hP2 tab2 hH hrec hc' hf ff=>?_));obtain⟨aC,x2⟩:=ziJ kn aB ht hP hP2 tab2 hH;refine PyProof.Rows.kws_cons (Constant_none (PyProof.Rows.kws_nil ?_));obtain⟨c',rfl,hc'⟩:=hc';obtain⟨hSn,hkL⟩:=Y1 ho;have hob:=aC.b.ob n a0 o ha0 hSn;obtain⟨xs0,sq0,rp0⟩:=hob.list hkL;have x12:Ext r r1 H H2:=x1.trans x2;refine zjn hc (N:=(Zm o).length) (M:=λi v H'=>∃d,(Zm o)[i]?=some d/\Rp r1 H' d v) (W:=λ_ H'=>∃r2 S2,Ext r1 r2 H2 H'/\ZW X.K r2 S2 H'/\Pre S1 S2) (Q:=Qv) (d:=.non) I2 ⟨r1,S1,Ext.refl,aC.b,Pre.refl⟩ ?_ ?_ ?_ ff hf rfl ?_
  .rintro i H' ⟨r2,S2,e2,rb,pr⟩;obtain⟨xs,sq,rp⟩:=(rb.ob n a0 o (e2.adr _ _ ha0) (pr _ _ hSn)).list hkL;refine⟨xs,sq,rp.1.symm,λj v hv=>?_⟩;have lj:j<(Zm o).length:=by
    have:=(zA.mp hv).1;rw[rp.1];exact this
   have hd:=zD lj;obtain⟨v0,_,p0⟩:=rp0.get hd;exact⟨_,hd,(rp.2 j _ v hd hv).low (Gb e2) p0.sco⟩
  .rintro i v u H' s' ⟨d,hd,pv⟩ ru ⟨r2,S2,e2,rb,pr⟩ I' hf';have hcr:s'.heap.CodeRec (.ref c') (X.env.qual++"<lambda>"):=(I'.hok c' _ (e2.xc _ _ hc')).1
   have eL:Ext r1 r2 H' H':=⟨e2.adr,λ_ _ z=>z,λ_ _ z=>z⟩;refine zdL (vs:=[v]) (us:=[u]) (te:=up X.K Z0 te) I' cs (Xj hN).1 (Xj hN).2 k2 k3 (I'.ok.hd hc) I'.ok.frames (.cons ru .nil) rfl hr hf' hcr (hbind _ _ _ _ _) (he _ _ _ _ _ _) ?_;refine⟨r2,some d::Z8 caps dl,S2,_,Hc ((rs.ext x12).ext e2) (pv.ext eL),⟨rb,λ_ _ _ _ _ _ _ _ _ z=>z.elim⟩,q1 i d S2 hd pr,λy H3 r3 dy S3 x3 aE p3 ⟨⟨k,ek⟩,pr3⟩=>?_⟩;subst ek;cases p3;refine⟨⟨k,rfl⟩,⟨r3,S3,e2.trans x3,aE.b,pr3⟩,λk v ⟨d,hd,pv⟩=>⟨d,hd,pv.ext ⟨λ_ _ z=>z,x3.tup,x3.xc⟩⟩⟩
  .rintro H' ⟨r2,S2,e2,rb,pr⟩ i v ⟨d,hd,pv⟩;have eL:Ext r1 r2 H' H':=⟨e2.adr,λ_ _ z=>z,λ_ _ z=>z⟩;exact ret v H' r2 d S2 (x12.trans e2) ⟨rb,(aZ.xw.ext x12).ext e2⟩ (pv.ext eL) (q2 i d S2 hd pr)
  .intro e;exact ret .non H2 r1 .non S1 x12 aC .non (q0 (uG.mp e))
end
def Fi (P:Addr)(ps:Array Value)(H:Hp):Prop:=H P=some (.tbl ps)/\∀b,b≠P->H b=none\/∃o xs,H b=some (.frz o (.lst xs))
theorem za1 {Pg:Program}{w:World}{K:Fg}{mg mb:Str->Option Value}{CX:CXT}{k:Nat}{fa a P:Addr}{ps:Array Value}{fd:FuncData}{x:Str}{sp:Sp}{s₁:Shared}{vs:List Value}{ns:List Int}
  (KX:K.In s₁.heap)(hns:s₁.heap.Ns mainGlobals mg)(hb:s₁.heap.Ns builtinsNs mb)(hbb:∀x:Str,x≠"__name__"->mb x=bootBuiltins x)(hlim:s₁.heap.NoLimit)(hg:s₁.gens=#[])
  (ha:s₁.heap.get? a=some { cls:=.type "list",data:=.seq vs.toArray })(hi:IntsAre vs ns)(hl:ns.length<=sizeLine)(hr:ZH k callerA)(hP:s₁.heap.get? P=some { cls:=.none,data:=.fields ps })(ht:isCodeTable s₁.heap P)(kP:K.lookup P=none)(hbm:BM mg s₁.heap)
  (F:∀base:Heap,K.In base->base.Ns mainGlobals mg->BM mg base->Ye Pg w K mg base CX k fa fd [x] sp)(hbind:∀(s:Shared)(u:Value),BindsTo s fd ⟨[u],[]⟩ [(x,u)])
  (hsp:∀H:Hp,Fi P ps H->a≠P->SqL K H a (ns.map V.int)->sp [.ref a] H (λv _=>v=.bl true) λ_ _ _=>False)
  (hCX:∀H e s',CX [] H s₁ (λ_ _ _=>False) e s'->False):
  codeAny (model Pg w) callerA (.call (.ref fa) ⟨[.ref a],[]⟩) (λr s'=>r=.ok (.ret (.bool true))/\OldK s₁.heap s'.heap/\s'.os=s₁.os/\AllBare s'.gens) s₁:=by
 have rv:=MF hi
 have lenV:=hi.length
 have aP:a≠P:=λe=>by rw[e,hP] at ha;cases ha
 have core:∀H:Hp,Fi P ps H->SqL K H a (ns.map V.int)->HOk Pg w H s₁.heap->(∀b,H b≠none->b=a\/b=P)->(H a≠none->K.lookup a=none)->
   codeAny (model Pg w) callerA (.call (.ref fa) ⟨[.ref a],[]⟩) (λr s'=>r=.ok (.ret (.bool true))/\OldK s₁.heap s'.heap/\s'.os=s₁.os/\AllBare s'.gens) s₁:=by
  intro H hO hS hok hA hK;have base_of:∀ {b:Addr} {o:Obj},s₁.heap.get? b=some o->H b=none->(W7 s₁.heap H).get? b=some o:=λe n=>zfP e n
  have noA:∀ {b:Addr} {o:Obj},s₁.heap.get? b=some o->(∀aX n,o.data≠.seq aX n)->(∀f,o.data≠.fields f)->H b=none:=λ{b o} e d1 d2=>by
   cases q:H b with
   | none=>rfl
   | some u=>
    rcases hA b (by rw[q];simp) with e'|e'
    .subst e';rw[ha] at e;cases e
     exact absurd rfl (d1 _ _)
    .subst e';rw[hP] at e;cases e
     exact absurd rfl (d2 _)
  have nsK:∀ {b:Addr} {m:Str->Option Value},s₁.heap.Ns b m->(W7 s₁.heap H).Ns b m:=λ{b m} ⟨o,es,ep,e,d,r⟩=>⟨o,es,ep,base_of e (noA e (λ_ _ z=>by rw[d] at z;cases z) (λ_ z=>by rw[d] at z;cases z)),d,r⟩
  have hKb:K.In (W7 s₁.heap H):=λb o e=>base_of (KX b o e) (by
   cases q:H b with
   | none=>rfl
   | some u=>
    rcases hA b (by rw[q];simp) with e'|e'
    .subst e';rw[hK (by rw[q];simp)] at e;cases e
    .subst e';rw[kP] at e;cases e)
  have hM:Mod K mg (W7 s₁.heap H):=⟨hKb,nsK hns,⟨mb,nsK hb,hbb⟩,let ⟨mc,h1,h2⟩:=hlim;⟨mc,nsK h1,h2⟩⟩
  have hB:BM mg (W7 s₁.heap H):=by
   obtain⟨bm,o,b1,b2,b3,b4,b5,b6,b7⟩:=hbm;exact⟨bm,o,b1,b2,b3,base_of b4 (noA b4 (λ_ _ z=>by rw[b7] at z;cases z) (λ_ z=>by rw[b7] at z;cases z)),b5,b6,b7⟩
  have e0:VZ Pg w K mg (W7 s₁.heap H) callerA [] s₁ H:=⟨rfl,hM,λb o e=>zaf e,Nat.le_of_eq (zfg _ _),trivial,λb hb=>absurd (show b∈([]:List Addr) from hb) (by simp),hok,.of_eq hg⟩;refine codeAny_mono ((F _ hKb (nsK hns) hB).run callerA [] s₁ H ⟨[.ref a],[]⟩ [.ref a] [.ref a] _ _ hr e0 (hbind s₁ (.ref a)) (.cons rfl .nil) (hsp H hO aP hS)) λr s' h=>?_
  cases r with
  | error e=>exact(hCX H e s' h).elim
  | ok fl=>
   cases fl with
   | next=>exact False.elim h
   | brk=>exact False.elim h
   | cont=>exact False.elim h
   | ret u=>
    obtain⟨v,H',os,bare,un,hok',r',q⟩:=h;have q':v=.bl true:=q;subst q';obtain rfl:u=Value.bool true:=r';refine⟨rfl,⟨λb o e=>?_,λb o e=>un.there b o e (by simp)⟩,os,bare⟩;by_cases z:b=P
    .subst z;obtain⟨more,em⟩:=un.tbls b ps hO.1;have e2:=hok' b _ em;rw[hP] at e;cases e;exact .inr (.inl ⟨ht,rfl,ps,more,rfl,e2⟩)
    .refine .inl ?_;cases q:H b with
     | none=>exact un.keep b o e q (by intro z;exact absurd (show b∈([]:List Addr) from z) (by simp)) (by simp)
     | some u=>
      rcases hO.2 b z with z|⟨ob,xs,z⟩
      .rw[q] at z;cases z
      .have z2:=un.frzs b ob _ z;obtain⟨e1,_⟩:=hok b _ z;obtain⟨e2,_⟩:=hok' b _ z2;rw[e] at e1;cases e1
       exact e2
 cases hk:K.lookup a with
 | some o=>
  have e:=KX a o hk;rw[ha] at e;cases e;refine core (λb=>if b=P then some (.tbl ps) else none) ⟨if_pos rfl,λb nb=>.inl (if_neg nb)⟩ (.inr ⟨_,vs.toArray,_,hk,rfl,rfl,rfl,by rw[zH,lenV];exact hl,by simpa using rv⟩) (λb u z=>?_) (λb z=>?_) λz=>absurd (if_neg aP) z
  .by_cases hb:b=P
   .have z':=(if_pos hb).symm.trans z;cases z';subst hb;exact hP
   .have z':=(if_neg hb).symm.trans z;cases z'
  .by_cases hb:b=P
   .exact .inr hb
   .exact absurd (if_neg hb) z
 | none=>
  refine core (λb=>if b=P then some (.tbl ps) else if b=a then some (.frz { cls:=.type "list",data:=.seq vs.toArray } (.lst (ns.map V.int))) else none) ⟨if_pos rfl,λb nb=>?_⟩ (.inl (.inr ⟨{ cls:=.type "list",data:=.seq vs.toArray },(if_neg aP).trans (if_pos rfl)⟩)) (λb u z=>?_) (λb z=>?_) λ_=>hk
  .by_cases hb:b=a
   .exact .inr ⟨_,_,(if_neg nb).trans (if_pos hb)⟩
   .exact .inl ((if_neg nb).trans (if_neg hb))
  .by_cases hp:b=P
   .have z':=(if_pos hp).symm.trans z;cases z';subst hp;exact hP
   .by_cases hb:b=a
    .have z':=((if_neg hp).trans (if_pos hb)).symm.trans z;cases z';subst hb;exact⟨ha,by rw[zB];exact hl,vs,_,rv,ha⟩
    .have z':=((if_neg hp).trans (if_neg hb)).symm.trans z;cases z'
  .by_cases hp:b=P
   .exact .inr hp
   .by_cases hb:b=a
    .exact .inl hb
    .exact absurd ((if_neg hp).trans (if_neg hb)) z
def Q7 (P:Addr)(lp:Pos)(q:Str):Sd:=λds S Q _=>∃ns:List Int,ds=[.ref 0]/\S=[.frz (ns.map D.int),.cod P lp q]/\ns.length<=63/\∀S',Q (.bl true) S'
theorem zgy:∀ds S Q ex,Q7 P lp q ds S Q ex->ds.length=1:=λds S Q ex h=>by
 obtain⟨ns,rfl,_⟩:=h;rfl
theorem zhu {K:Fg}{H:Hp}{a P:Addr}{ps:Array Value}{lp:Pos}{q:Str}{ns:List Int}(hl:ns.length<=63)(hO:Fi P ps H)(aP:a≠P)(tr:TriplesOk ps.toList)(hn:codeAmong lp ps.toList=none)(hS:SqL K H a (ns.map V.int)):upF K (Q7 P lp q) [.ref a] H (λv _=>v=.bl true) λ_ _ _=>False:=by
 have sf:SqF K H a (ns.map V.int):=by
  rcases hS with (h|⟨o,h⟩)|h
  .rcases hO.2 a aP with z|⟨o,ys,z⟩
   .rw[h] at z;cases z
   .rw[h] at z;cases z
  .exact .inl ⟨o,h⟩
  .exact .inr h
 refine⟨λ_ _=>False,[a,P],[.frz (ns.map D.int),.cod P lp q],[.ref 0],λd _=>d=.bl true,⟨⟨rfl,λn b o h1 h2=>?_,λn m b xs ys h1 h2 h3 h4 o1 o2=>?_⟩,λ_ _ _ _ _ _ _ _ _ z=>z.elim⟩,Rps.cons (.ref rfl) Rps.nil,⟨ns,rfl,rfl,hl,λ_=>rfl⟩,λv H' r' d S' e aZ p q=>?_⟩
 .match n,h1,h2 with
  | 0,h1,h2=>
   cases h1;cases h2
   exact⟨_,sf,zbR ns⟩
  | 1,h1,h2=>
   cases h1;cases h2
   exact⟨rfl,ps,hO.1,tr,.inl hn⟩
  | n+2,h1,h2=>cases h1
 .match n,m,h1,h2,h3,h4 with
  | 0,m,h1,h2,h3,h4=>cases h3;cases o1
  | 1,0,h1,h2,h3,h4=>cases h4;cases o2
  | 1,1,h1,h2,h3,h4=>rfl
  | 1,m+2,h1,h2,h3,h4=>cases h2
  | n+2,m,h1,h2,h3,h4=>cases h1
 .subst q;cases p;rfl
theorem zez {l:W.OpenLaw}{q:Program}{aG:List Str}{XP:(Str->Option Value)->Heap->Prop}{YP:World->Heap->Prop}{d:DefRec}{K:Params->Fg}{x:Str}{P c:Addr}{ps:Array Value}{lp:Pos}{lq:Str}(k:Nat)(hn:l.most=some 63)(hdf:d.params.defaults=[])(hr:ZH k callerA)
  (hY:∀(w:World)(h:Heap),YP w h->(K w.params).In h/\h.get? P=some { cls:=.none,data:=.fields ps })(hC:∀(p:Params)(h:Heap),(K p).In h->CodeHd h c P)(kP:∀p:Params,(K p).lookup P=none)(tr:TriplesOk ps.toList)(hcn:codeAmong lp ps.toList=none)
  (F:∀(w:World)(mg:Str->Option Value)(fa:Addr)(h:Heap),(K w.params).In h->h.Ns mainGlobals mg->mg d.name=some (.ref fa)->
   ∃fd:FuncData,(∀(s:Shared)(u:Value),BindsTo s fd ⟨[u],[]⟩ [(x,u)])/\∀base:Heap,(K w.params).In base->base.Ns mainGlobals mg->BM mg base->Ye l.prog w (K w.params) mg base (CXE l.prog w) k fa fd [x] (upF (K w.params) (Q7 P lp lq))):
  W.WalkO q aG XP YP l.row.toRowW d [] (λf vs=>PySem.call f vs):=by
 refine Att.attach_call hn hdf λw s₀ s₁ mg mb fa o pm cd doc a vs ns G Y ho hd hcd hmg hobj hints aM hg=>?_
 obtain⟨KX,hP⟩:=hY w _ Y;obtain⟨fd,hb,hF⟩:=F w mg fa _ KX G.T.g hmg;have hbm:BM mg s₁.heap:=by
  obtain⟨bm,ob,b1,b2,b3,b4,b5,b6⟩:=G.T.bmain;refine⟨bm,ob,b1,b2,λe=>?_,b3,b4,b5,b6⟩;obtain⟨o,es,ep,e2,hd,_⟩:=G.T.g;rw[e,e2] at b3;cases b3;rw[hd] at b6;cases b6
 exact za1 KX G.T.g G.T.b G.T.builtins G.T.nolimit hg hobj hints (yE aM ⋯) hr hP ((hC _ _ KX).tab hP).isCodeTable (kP _) hbm hF hb (λH hO aP hS=>zhu aM hO aP tr hcn hS) λ_ _ _ ⟨_,_,_,_,_,_,_,_,_,_,_,_,z⟩=>z
theorem zh0 {prog:Program}{w:World}{A:Around}{R:Result->Shared->Prop}(hh:A.handled=none){l it S:Addr}{zs:List Int}{aX:List Value}(hi:IntsAre aX zs)(hlI:l≠it)(hlS:l≠S)(hIS:it≠S){dv:Value}{h₀:Heap}{g:Array GenState}{dr:Drawn}{os:OsState}
  (hR:∀(b:Int)(t:Tok)(h':Heap)(tk':Nat),b∈zs->(∀y∈zs,y<=b)->(∀a o,a≠it->a≠S->h₀.get? a=some o->h'.get? a=some o)->R (.ok (.ret (.int b t))) ⟨h',g,dr,tk',os⟩)
  (hD:zs=[]->∀(h':Heap)(tk':Nat),(∀a o,a≠it->a≠S->h₀.get? a=some o->h'.get? a=some o)->R (.ok (.ret dv)) ⟨h',g,dr,tk',os⟩):
  ∀(n j:Nat)(h:Heap)(tk:Nat)(ob:Array Value)(c:Nat),zs.length-j=n->j<=zs.length->h.IsList l aX.toArray->(∀a o,a≠it->a≠S->h₀.get? a=some o->h.get? a=some o)->h.IsListIter it l j->h.get? S=some (seqObj "list" ob c)->(ob=#[]/\j=0\/∃(b:Int)(t:Tok),ob=#[.int b t,.int b t]/\b∈zs/\∀y∈zs.take j,y<=b)->
   codeAny (model prog w) A (.builtin "max.loop" ⟨[.ref it,.none,.ref S],[(Str.ofString "default",dv)]⟩) R ⟨h,g,dr,tk,os⟩:=by
 have hname:(toString "max"++toString ".loop":String)="max.loop":=by decide
 have Wk:=Walks.list (prog:=prog) (w:=w) (A:=A.in1) hh it l hlI aX.toArray
 have aM:=hi.length;intro n
 induction n with
 | zero=>
  intro j h tk ob c hn hj hl kp hit hS hvb;have ej:j=aX.length:=by omega
  refine codeAny_builtin PySem.F.entry_max_loop ?_;rw[Around.under_plainId PySem.F.plain_max_loop _];show wpAny _ A.in1 (seqItems? (.ref S) >>= _) _ _ _;refine wpAny_bind (wpAny_seqItems hS rfl ?_);show wpAny _ A.in1 (tryCatch (pyNext (.ref it)) _ >>= _) _ _ _;refine wpAny_bind (wpAny_tryCatch (Wk.done _ _ _ ⟨by rw[zH,<- ej];exact hit,hl⟩ λh' tk' hk'=>?_));rcases hvb with ⟨rfl,e0⟩|⟨b,t,rfl,hb,hbest⟩
  .exact wpAny_bind (wpAny_rule (wpAny_pure (hD (uG.mp (by omega)) _ _ λa o n1 n2 e=>hk' a o (by simpa using n1) (kp a o n1 n2 e))))
  have hS':=hk' S _ (by simpa using hIS.symm) hS
  show wpAny _ A.in1 (updateSeq S (λ_=>#[]) >>= _) _ _ _;refine wpAny_bind ?_;refine wpAny_updateSeq hS' rfl (wpAny_bind (wpAny_letGo (wpAny_pure ?_)));have s1:=Heap.SameBut.update h' S (Obj.mapSeq λ_=>(#[]:Array Value));refine hR b t _ _ hb (λy hy=>hbest y (by rw[yQ (by omega)];exact hy)) λa o n1 n2 e=>(s1.2 a n2).trans (hk' a o (by simpa using n1) (kp a o n1 n2 e))
 | succ n ih=>
  intro j h tk ob c hn hj hl kp hit hS hvb;refine codeAny_builtin PySem.F.entry_max_loop ?_;rw[Around.under_plainId PySem.F.plain_max_loop _];show wpAny _ A.in1 (seqItems? (.ref S) >>= _) _ _ _;refine wpAny_bind (wpAny_seqItems hS rfl ?_);show wpAny _ A.in1 (tryCatch (pyNext (.ref it)) _ >>= _) _ _ _;refine wpAny_bind (wpAny_tryCatch (Wk.item j _ _ _ (by rw[zH];omega) ⟨hit,hl⟩ λu h' tk' hP hst' hk'=>?_));have hu:aX[j]?=some u:=by simpa using hP
  obtain⟨z,hz⟩:∃z,zs[j]?=some z:=⟨_,zD (by omega)⟩;obtain⟨t2,ht2⟩:=hi.get j z hz;rw[hu] at ht2;cases ht2;have hk1:∀a o,a≠it->h.get? a=some o->h'.get? a=some o:=λa o na e=>hk' a o (by simpa using na) e
  have hS1:=hk1 S _ hIS.symm hS
  have tk1:zs.take (j+1)=zs.take j++[z]:=by rw[List.take_add_one,hz];rfl
  have s1:=Heap.SameBut.update h' S (Obj.mapSeq λ_=>#[.int z t2,.int z t2]);obtain⟨c2,hc2⟩:∃c2,(h'.update S (Obj.mapSeq λ_=>#[.int z t2,.int z t2])).get? S=some (seqObj "list" #[.int z t2,.int z t2] c2):=⟨_,get?_update_seq hS1 λ_=>#[.int z t2,.int z t2]⟩;have go:=λ(tk0:Nat)(best:∀y∈zs.take j,y<=z)=>ih (j+1) (h'.update S (Obj.mapSeq λ_=>#[.int z t2,.int z t2])) tk0 _ c2 (by omega) (by omega) (by obtain⟨ol,hol,r⟩:=id hst'.2;exact⟨ol,(s1.2 l hlS).trans hol,r⟩) (λa o n1 n2 e=>(s1.2 a n2).trans (hk1 a o n1 (kp a o n1 n2 e))) (by obtain⟨oI,hoI,hoc,hod⟩:=id hst'.1;exact⟨oI,(s1.2 it hIS).trans hoI,hoc,hod⟩) hc2 (.inr ⟨z,t2,rfl,zE hz,λy hy=>by
   rw[tk1] at hy;rcases zX.1 hy with hy|hy
   .exact best y hy
   .rw[zO.mp hy];exact zV _⟩)
  rcases hvb with ⟨rfl,rfl⟩|⟨b,t,rfl,hb,hbest⟩
  .show wpAny _ A.in1 (updateSeq S (λ_=>#[.int z t2,.int z t2]) >>= _) _ _ _;refine wpAny_bind (wpAny_updateSeq hS1 rfl ?_);rw[hname];exact wpAny_pure ⟨plainId_quiet PySem.F.plain_max_loop _,go _ λy hy=>by simp at hy⟩
  show wpAny _ A.in1 (tryCatch (holding [.int z t2,.int z t2] (richCompare .Gt (.int z t2) (.int b t) >>= _)) _ >>= _) _ _ _;refine wpAny_bind (wpAny_tryCatch (wpAny_holding (wpAny_bind (CmpOf.ints_gt (prog:=prog) (w:=w) (A:=A.in1) (P:=λi v=>∃t,v=.int (([z,b]:List Int).getD i 0) t) (λi=>([z,b]:List Int).getD i 0) (λi v h=>h) 0 1 _ _ _ _ _ ⟨t2,rfl⟩ ⟨t,rfl⟩ ?_))));refine wpAny_bind (wpAny_holding (wpAny_truthy_bool ?_));refine wpAny_bind (wpAny_letGo (wpAny_pure ?_));by_cases hb':([z,b]:List Int).getD 0 0 > ([z,b]:List Int).getD 1 0
  .simp only[hb',decide_true,if_true];have hb2:z > b:=hb';refine wpAny_bind ?_;refine wpAny_updateSeq hS1 rfl (wpAny_bind (wpAny_letGo ?_));rw[hname];exact wpAny_pure ⟨plainId_quiet PySem.F.plain_max_loop _,go _ λy hy=>by have:=hbest y hy;omega⟩
  .simp only[hb',decide_false,vI,if_false];have hb2:¬ z > b:=hb';refine wpAny_bind (wpAny_letGo ?_);rw[hname];refine wpAny_pure ⟨plainId_quiet PySem.F.plain_max_loop _,ih (j+1) _ _ _ c (by omega) (by omega) hst'.2 (λa o n1 n2 e=>hk1 a o n1 (kp a o n1 n2 e)) hst'.1 hS1 (.inr ⟨b,t,rfl,hb,λy hy=>?_⟩)⟩;rw[tk1] at hy;rcases zX.1 hy with hy|hy
   .exact hbest y hy
   .rw[zO.mp hy];omega
theorem zdO (a d:Value):argsOk "max" ⟨[a],[(Str.ofString "default",d)]⟩:=by unfold argsOk;kernel_rfl
theorem AJ (hc:X.calm=true){l:Addr}{zs:List Int}{Q:VK}{d:V}{dv:Value}(I:Inv X pins σ H s)(hsq:SqL X.K H l (zs.map V.int))(rd:Zv d dv)(h0:zs=[]->Q d H)(hQ:∀m,m∈zs->(∀y∈zs,y<=m)->Q (.int m) H):
  wpAny (mX X) X.A (call (.builtin "max") [.ref l] [(Str.ofString "default",dv)]) (EP X pins σ Q) X.xe s:=by
 have hname:(toString "max"++toString ".loop":String)="max.loop":=by decide
 obtain⟨aX,rv,pl,hz⟩:=I.list hsq;have hi:=zcU rv
 have aM:=hi.length
 have hls:=pl.isList;obtain⟨ol,hol,hrl⟩:=id hls;have hll:l<s.heap.objs.size:=Heap.lt_size hol;refine kmk_tree PySem.F.kind_max PySem.F.plain_max PySem.F.entry_max (zdO _ _) ?_;show wpAny _ X.A.in1 (Builtin.Builtins.bindParams "max" ["key","default"] 0 ⟨[],[(Str.ofString "default",dv)]⟩ >>= _) _ _ s;refine wpAny_bind (wpAny_of_eq (show Builtin.Builtins.bindParams "max" ["key","default"] 0 ⟨[],[(Str.ofString "default",dv)]⟩=pure [none,some dv] from rfl) ?_);refine wpAny_bind (wpAny_pure ?_);refine wpAny_bind (wpAny_pyIter_list hls ?_);refine wpAny_bind (wpAny_newList ?_ (zN _));rw[hname];have hS:(s.heap.push { cls:=.type "list_iterator",data:=.fields #[.ref l,.int 0 0] }).objs.size=s.heap.objs.size+1:=size_push' ..;refine wpAny_pure ⟨plainId_quiet PySem.F.plain_max_loop _,?_⟩;generalize ePI:s.heap.push { cls:=.type "list_iterator",data:=.fields #[.ref l,.int 0 0] }=hI at hS ⊢;have hk0:∀b o,s.heap.get? b=some o->(hI.push (seqObj "list" #[] 0)).get? b=some o:=λb o e=>Heap.get?_push_of_some _ (by rw[<- ePI];exact Heap.get?_push_of_some _ e)
 have gI:(hI.push (seqObj "list" #[] 0)).get? s.heap.objs.size=some { cls:=.type "list_iterator",data:=.fields #[.ref l,.int 0 0] }:=Heap.get?_push_of_some _ (by rw[<- ePI];exact Heap.get?_push_size _ rfl)
 have gS:(hI.push (seqObj "list" #[] 0)).get? hI.objs.size=some (seqObj "list" #[] 0):=Heap.get?_push_size _ rfl
 have leS:s.heap.objs.size<=hI.objs.size:=by rw[hS];exact xO _
 have hlI:l≠s.heap.objs.size:=zK hll
 have hlS:l≠hI.objs.size:=zK (zR hll leS)
 have hIS:s.heap.objs.size≠hI.objs.size:=by rw[hS];exact zK (wD _)
 have old:∀a o,s.heap.get? a=some o->a≠s.heap.objs.size/\a≠hI.objs.size:=λa o e=>⟨zK (Heap.lt_size e),zK (zR (Heap.lt_size e) leS)⟩
 have aY:∀(h':Heap)(tk':Nat),(∀a o,a≠s.heap.objs.size->a≠hI.objs.size->(hI.push (seqObj "list" #[] 0)).get? a=some o->h'.get? a=some o)->Inv X pins σ H { s with heap:=h',toks:=tk' }:=λh' tk' k=>I.kept (t':=tk') λb u e=>k b u (old b u e).1 (old b u e).2 (hk0 b u e)
 have ls0:(hI.push (seqObj "list" #[] 0)).IsList l aX.toArray:=⟨ol,hk0 _ _ hol,hrl⟩;exact zh0 (prog:=X.prog) (w:=X.w) (A:=X.A) (R:=λr s'=>match r with|.ok (.ret u)=>EP X pins σ Q u s'|.ok _=>False|.error e=>X.xe e s') (I.ok.hd hc) hi hlI hlS hIS (h₀:=hI.push (seqObj "list" #[] 0)) (g:=s.gens) (dr:=s.drawn) (os:=s.os) (λb t h' tk' hb hbest k=>⟨.int b,H,aY h' tk' k,⟨t,rfl⟩,hQ b hb hbest⟩) (λe h' tk' k=>⟨d,H,aY h' tk' k,rd,h0 e⟩) _ 0 _ _ _ _ rfl (zN _) ls0 (λa o _ _ e=>e) ⟨_,gI,rfl,rfl⟩ gS (.inl ⟨rfl,rfl⟩)
theorem zfW {r:List Addr}:∀ {ds:List D} {zs:List Int} {vs:List V},YX ds=some zs->Rps r H ds vs->vs=zs.map V.int:=λ{ds}=>by
 induction ds with
 | nil=>
  intro zs vs h p;have z:=p.unnil;subst z;simp[YX] at h;subst h;rfl
 | cons d ds ih=>
  intro zs vs h p;obtain⟨v,vs',rfl,p1,p2⟩:=p.uncons;cases d with
  | int i=>
   simp only[YX,zG] at h;obtain⟨zr,h,rfl⟩:=h;cases p1;rw[ih h p2];rfl
  | _=>simp[YX] at h
def Te (Q:DK)(d e:D)(S:Sto):Prop:=match d with
 | .ref n=>match lAt S n with
  | some o=>∃zs,YX (Zm o)=some zs/\(zs=[]->Q e S)/\∀m,m∈zs->(∀y∈zs,y<=m)->Q (.int m) S
  | none=>False
 | _=>False
@[irreducible] def NR (tl td:TDE):TDE:=λdl S Q=>tl dl S λd S1=>td dl S1 λe S2=>Te Q d e S2
theorem zgo (hc:X.calm=true)(hg:Gl X "max")(hm:X.mg "max"=none)(hv:bootBuiltins "max"=some (.builtin "max"))(ha:PD X Z a tl)(hd:PD X Z b td)(hs:starEach [a] X.env=[(false,eval a X.env)]:=by rfl):
  PD X Z (.Call (.Name "max" p) [a] [⟨some "default",b,dp⟩] pos) (NR tl td):=by
 intro pins s σ H Qv I h;obtain⟨r,dl,S,Q,rs,aZ,h,ret⟩:=h;unfold NR at h;refine wpAny_Call_Name_kw (WD I hg hm hv ?_ ⋯ ⋯);have hda:PDA X Z [a] (QM tl Rt):=Za ha Zg hs;refine PyProof.Rows.callWith_kw (thn (hda pos pins s σ H (λvs H1=>∃(r1:List Addr)(S1:Sto)(d:D)(v:V),vs=[v]/\Ext r r1 H H1/\Rel X.K Z r1 S1 H1/\Rp r1 H1 d v/\td dl S1 λe S2=>Te Q d e S2) I ?_) λus s1 ⟨vs,H1,I1,rvs,r1,S1,d,v,evs,x1,aB,pd,hk⟩=>?_) (by show backTo pos (starEach [a] X.env)=_;rw[hs];rfl) (by rw[hs];rfl)
 .refine⟨r,dl,S,λds S1=>match ds with|[d]=>td dl S1 λe S2=>Te Q d e S2|_=>False,rs,aZ,h,λvs H1 r1 ds S1 e1 aB p1 q1=>?_⟩;dsimp only at q1;split at q1
  .rename_i d;obtain⟨v,vs',rfl,p2,p3⟩:=p1.uncons;have z:=p3.unnil;subst z;exact⟨r1,S1,d,v,rfl,e1,aB,p2,q1⟩
  .exact q1.elim
 subst evs;obtain⟨u0,rfl,ru0⟩:=Vw rvs;refine PyProof.Rows.kws_cons (thn (hd pins s1 σ H1 (λe H2=>∃(r2:List Addr)(S2:Sto)(de:D),Ext r1 r2 H1 H2/\Rel X.K Z r2 S2 H2/\Rp r2 H2 de e/\Te Q d de S2) I1 ⟨r1,dl,S1,_,rs.ext x1,aB,hk,λe H2 r2 de S2 x2 aC p2 q2=>⟨r2,S2,de,x2,aC,p2,q2⟩⟩) λue s2 ⟨e,H2,I2,re,r2,S2,de,x2,aC,pe,hk⟩=>PyProof.Rows.kws_nil ?_);unfold Te at hk;split at hk
 rotate_left
 .exact hk.elim
 rename_i n hk0 ep;cases pd with
 | @ref _ a0 ha0=>
  cases ru0;split at hk
  rotate_left
  .exact hk.elim
  rename_i o ho;obtain⟨zs,hz,q0,q1⟩:=hk;obtain⟨hSn,hkL⟩:=Y1 ho;obtain⟨xs,sq,rp⟩:=(aC.b.ob n a0 o (x2.adr _ _ ha0) hSn).list hkL;rw[zfW hz rp] at sq;exact AJ hc I2 sq re (λz=>ret _ H2 r2 de S2 (x1.trans x2) aC pe (q0 z)) λm hm hb=>ret _ H2 r2 (.int m) S2 (x1.trans x2) aC (.int m) (q1 m hm hb)
open PySem PySem.Spec PyProof.Rows L2 PySem.W
section
variable {s:Shared}{A:Around}{w:World}{prog:Program}
end
def K8 (k:Nat)(caps:List Nat)(wi:TI)(gt:TG)(tc:TT)(te:TE):TE:=λσ H Q=>wi σ H λJ H1=>∀D,H1 D=none->∃W:Nat->Nat->Hp->Prop,(∃m,W 0 m (upd H1 D (.lst [])))/\∀i m H,W i m H->
 (J.stop i H/\Q (.ref D) H)\/(J.go i H/\∀x H',J.yld i H x H'->∀o:L2.St,o.length=k->gt x (o++Yc caps σ) H' λσ8 H8=>(∃o8:L2.St,o8.length=k/\σ8=o8++Yc caps σ)/\
  tc σ8 H8 λb H9=>if b=true then te σ8 H9 λy H3=>∃ys,H3 D=some (.lst ys)/\ys.length<sizeLine/\∃m',m'<m/\W (i+1) m' (upd H3 D (.lst (ys++[y]))) else ∃m',m'<m/\W (i+1) m' H9)
theorem E7 (hc:X.calm=true)(cs:Wd sc X.env.scope own N)(hN:∀(j:Nat)(y:Str),N[j]?=some y->∃i,caps[j]?=some i/\X.N[i]?=some y)(aM:caps.length=N.length)(hi:PI X (.Tuple aL kk tp) aU wi)(hg:∀cl C s0 H0 fp pn,PG (Cx.comp X sc (own++N) cl C s0 H0 fp pn) (.Tuple aL kk tp) gt)(he:∀cl C s0 H0 fp pn,PE (Cx.comp X sc (own++N) cl C s0 H0 fp pn) aW te)(ht:∀cl C s0 H0 fp pn,PTs (Cx.comp X sc (own++N) cl C s0 H0 fp pn) ifs tc)(hs:∀y,foldedSetIterable aU X.env y=pure y)(I:Inv X pins σ H s)(h:K8 own.length caps wi gt tc te σ H Q)(aY:∀D C s',R4 X pins σ C Q D s'->compPost (mX X) X.A X.xe use Qr (.ref D) C (.ok .next) s'):
  wpAny (mX X) X.A (comprehension (.ListComp aW [⟨.Tuple aL kk tp,aU,ifs,0⟩] sc pos) sc X.env p2 (newList []) false (eval aU X.env) use) Qr X.xe s:=
 GG hc cs hN aM hi hg he ht hs I h (λ_ _ b=>b) aY
section
variable {X:Cx}{Z:Zx}{aW:Expr}{pos:Pos}{sc ar:Scope}{N:List Str}{caps:List Nat}
def Et (caps:List Nat)(tc:TDT)(te:TDE)(k:Nat)(dl:Ev)(d1 d2:D)(S:Sto)(nx:Sto->Prop):Prop:=
 tc (some d1::some d2::Z8 caps dl) S λb S1=>if b=true then te (some d1::some d2::Z8 caps dl) S1 λy S2=>match S2[k]? with
  | some (.lst ys)=>ys.length<1000/\nx (S2.set k (.lst (ys++[y])))
  | _=>False
 else nx S1
@[irreducible] def US (caps:List Nat)(ta:TDA)(tc:TDT)(te:TDE):TDE:=λdl S Q=>ta dl S λds S1=>match ds with
 | [.ref n]=>(lAt S1 n).isSome=true/\∃W:Nat->Nat->Sto->Prop,(∃m,W 0 m (S1++[.lst []]))/\∀k m S2,W k m S2->match lAt S2 n with
  | some o=>match (Zm o)[k]? with
   | some y=>Et caps tc te S1.length dl (.int (k:Int)) y S2 λS3=>∃m',m'<m/\W (k+1) m' S3
   | none=>k=(Zm o).length/\Q (.ref S1.length) S2
  | none=>False
 | _=>False
theorem Eu {ta:TDA}{tc:TDT}{te:TDE}{σ:L2.St}{H:Hp}{Qv:VK}(h:up X.K Z (US caps ta tc te) σ H Qv):
  K8 2 caps (DS X.K (upA X.K Z ta)) (UK X.K 2 (Uk [0,1])) (upT X.K Z0 tc) (up X.K Z0 te) σ H Qv:=by
 obtain⟨r,dl,S,Q,rs,aZ,h,ret⟩:=h;unfold US at h;refine⟨r,dl,S,_,rs,aZ,h,λvs H1 r1 ds S1 x1 aB p1 q1=>?_⟩;split at q1
 .rename_i n;obtain⟨v,vs',rfl,p2,p3⟩:=p1.uncons;have z:=p3.unnil;subst z;cases p2 with
  | @ref n a hr=>
   obtain⟨aQ,W,⟨m0,w0⟩,turn⟩:=q1;obtain⟨o1,eo1⟩:=yN.mp aQ;obtain⟨xs1,sq1,_⟩:=XW (r:=r1) hr aB.b eo1;refine⟨a,rfl,⟨xs1,sq1⟩,λD0 hD=>?_⟩;obtain⟨aC,x2⟩:=aB.b.push (ds:=[]) (xs:=[]) hD Rps.nil;refine⟨λk m H'=>∃r' S',Ext (r1++[D0]) r' (upd H1 D0 (.lst [])) H'/\ZW X.K r' S' H'/\W k m S',⟨m0,_,_,Ext.refl,aC,w0⟩,?_⟩;rintro k m H2 ⟨r2,S2,x3,rb2,w2⟩;have ha2:r2[S1.length]?=some D0:=x3.adr _ _ (S7 aB.len)
   have hr2:r2[n]?=some a:=(x2.trans x3).adr _ _ hr
   have q:=turn k m S2 w2;split at q
   .rename_i o eo;obtain⟨xs,sq,pr⟩:=XW (r:=r2) hr2 rb2 eo;split at q
    .rename_i y ey;obtain⟨v,hv,pv⟩:=pr.get ey;refine .inr ⟨⟨xs,v,sq,hv⟩,λv' H' y' o8 ho8=>?_⟩;obtain⟨T,w,rfl,hT,rfl,hw⟩:=y';have ew:w=v:=by
      have z:=hw xs sq;rw[hv] at z;exact(Option.some.inj z).symm
     subst ew;obtain⟨c1,c2,rfl⟩:∃c1 c2,o8=[c1,c2]:=by
      match o8,ho8 with
      | [c1,c2],_=>exact⟨c1,c2,rfl⟩
     have x4:Ext r2 r2 H2 (upd H2 T (.tup [.int (k:Int),w])):=Of hT
     have rb3:=rb2.same (Wr (o:=.tup [.int (k:Int),w]) hT)
     have rs3:=rs.ext (x1.trans (x2.trans (x3.trans x4)));refine⟨T,[.int (k:Int),w],rfl,SqT.of YG,rfl,rfl,⟨[some (.int (k:Int)),some w],rfl,rfl⟩,?_⟩;have rsY:=FA (caps:=caps) rs3 (.int (k:Int)) (pv.ext x4);refine⟨r2,_,S2,_,rsY,⟨rb3,λ_ _ _ _ _ _ _ _ _ z=>z.elim⟩,q,λb H9 r9 S9 x9 rel9 q9=>?_⟩;cases b with
     | false=>
      rw[if_neg zI] at q9 ⊢;obtain⟨m',hm,q9⟩:=q9;exact⟨m',hm,r9,S9,x3.trans (x4.trans x9),rel9.b,q9⟩
     | true=>
      rw[if_pos rfl] at q9 ⊢;refine⟨r9,_,S9,_,rsY.ext x9,rel9,q9,λz H4 r4 dz S4 x6 aF p4 q4=>?_⟩;split at q4
      .rename_i ys eys;obtain⟨hl,m',hm,q4⟩:=q4;have ha4:r4[S1.length]?=some D0:=x6.adr _ _ (x9.adr _ _ ha2);obtain⟨zs,hD4,pz⟩:=aF.b.ob _ _ _ ha4 eys;obtain⟨rel5,x7⟩:=aF.b.set ha4 eys (pz.snoc p4);exact⟨zs,hD4,by rw[<- pz.1];exact Q6 (yL hl),m',hm,r4,_,x3.trans (x4.trans (x9.trans (x6.trans x7))),rel5,q4⟩
      .exact q4.elim
    .obtain⟨hk,q⟩:=q;exact .inl ⟨⟨xs,sq,by rw[<- pr.1];exact hk.symm⟩,ret _ H2 r2 _ S2 (x1.trans (x2.trans x3)) ⟨rb2,aZ.xw.ext (x1.trans (x2.trans x3))⟩ (.ref ha2) q⟩
   .exact q.elim
 .exact q1.elim
theorem Ie (har:X.env.scope=ar)(hc:X.calm=true)(cs:Wd sc ar [x1,x2] N)(hl1:sc.names.lookup x1=some .local)(hl2:sc.names.lookup x2=some .local)(hN:Hn X caps N)(hnd:([x1,x2]++N).Nodup)(hg:Gl X "enumerate")(hm:X.mg "enumerate"=none)(hv:bootBuiltins "enumerate"=some (.type "enumerate"))(ha:PDA X Z [a] ta)(ht:∀cl C s0 H0 fp pn,W0 (Cx.comp X sc ([x1,x2]++N) cl C s0 H0 fp pn) ifs tc)(he:∀cl C s0 H0 fp pn,PD (Cx.comp X sc ([x1,x2]++N) cl C s0 H0 fp pn) Z0 aW te)(hse:starEach [a] X.env=[(false,eval a X.env)]:=by rfl)(hs:∀y,foldedSetIterable (.Call (.Name "enumerate" p) [a] [] aK) X.env y=pure y:=by intro _;rfl):
  PD X Z (.ListComp aW [⟨.Tuple [.Name x1 p1,.Name x2 p2] kk tp,.Call (.Name "enumerate" p) [a] [] aK,ifs,0⟩] sc pos) (US caps ta tc te):=by
 subst har;intro pins s σ H Q I h;rw[eval_ListComp];have h:=Eu h;refine E7 (use:=none) (ifs:=ifs) (tc:=upT X.K Z0 tc) (gt:=UK X.K 2 (Uk [0,1])) (te:=up X.K Z0 te) hc cs (Xj hN).1 (Xj hN).2 (JF hg hm hv ha hse) (λcl C s0 H0 fp pn=>?_) he ht hs I h λD C s' f=>?_
 .have l1:(Cx.comp X sc ([x1,x2]++N) cl C s0 H0 fp pn).env.scope.names.lookup x1=some .local:=lookup_relabel_local hl1
  have l2:(Cx.comp X sc ([x1,x2]++N) cl C s0 H0 fp pn).env.scope.names.lookup x2=some .local:=lookup_relabel_local hl2;exact Sy hc (UA hnd (.cons rfl (.inl l1) (.inr l1) (.cons rfl (.inl l2) (.inr l2) .nil))) rfl rfl
 .obtain⟨⟨H',I',q,hC⟩,⟨m,ns⟩,l,o,c,p⟩:=f;exact⟨m,ns,λh' sb=>⟨.ref D,H',I'.turned (t':=s'.toks) (λb ob hb e=>(sb.2 b hb).trans e) hC l (.inr o) c p,rfl,q⟩⟩
end
section
variable {P:Program}{w:World}{K:Fg}{mg:Str->Option Value}{base:Heap}
structure Lm (K:Fg)(mg:Str->Option Value)(base:Heap)(fd:FuncData)(T:Addr) where
 c:Addr
 code:fd.code=.ref c
 hd:CodeHd base c T
 bm:BM mg base
 kn:∀o,K.lookup T≠some o
theorem ze7 {x qual:Str}{st:Stmt}{f c:Addr}{fd:FuncData}{N ps:List Str}{k:Nat}{sd:Sd}(F:Fun K x qual st f fd)(Sc:Zl N ps (Zi st))(len:∀ds S Q ex,sd ds S Q ex->ds.length=ps.length)(hcd:fd.code=.ref c)
  (hbody:∀(A:Around)(outer:List Env)(s:Shared)(H:Hp)(E:XK),ZH k (A.deeper (envOfC qual (Zi st) s.heap.objs.size f (.ref c)))->
   ∃t,YE (Wq (CXE P w) P w K mg base N qual (Zi st) f (.ref c) A outer s H E).nox Z0 (Xb st) t/\∀ds S Q ex,sd ds S Q ex->t { nx:=λ_ S'=>Q .non S',rt:=Q } (Ws N ds) S):Ye P w K mg base (CXE P w) (k+1) f fd ps (upF K sd):=VW F Sc len λcdv A o s H E e hr=>by
 cases hcd.symm.trans e;exact hbody A o s H E hr
theorem zgl (hr:ZH k A)(env:Env)(h:j+2<=k:=by decide):ZH j (A.in1.deeper env):=(ZH.in1 (k:=j+1) (hr.mono h)).deeper env
theorem zfK (hr:ZH k A)(h:j+1<=k:=by decide):A.in1.depth<recursionLimit:=(ZH.in1 (k:=j) (hr.mono h)).depth
theorem lsc (a:sc.kind=.function:=by rfl)(b:sc.isCoroutine=false:=by rfl)(c:sc.isGenerator=false:=by rfl)(d:∀y∈sc.names,y.2≠.cell:=by decide +kernel)(e:∀y∈own,sc.names.lookup y=some .local:=by decide +kernel)(f:∀y∈caps,sc.names.lookup y=some .free:=by decide +kernel)(g:∀y∈sc.names,y.2=.free->ar.names.lookup y.1=some .cell:=by decide +kernel)(i:own.Nodup:=by decide +kernel):Oy sc ar own caps:=⟨a,b,c,d,e,f,g,i⟩
end
section
variable {X:Cx}{Z:Zx}{aW aU:Expr}{aL:List Expr}{kk:Nat}{tp pos:Pos}{sc ar:Scope}{own N:List Str}{caps:List Nat}{wi:TI}{gt:TG}{te:TE}
theorem zie {ifs:List Expr}{tc:TT}{i:Nat}{y:Str}{py spos:Pos}(hc:X.calm=true)(cs:Wd sc X.env.scope own N)(hN:Hn X caps N)
  (hi:PI X (.Tuple aL kk tp) aU wi)(hg:∀cl C s0 H0 fp pn,PG (Cx.comp X sc (own++N) cl C s0 H0 fp pn) (.Tuple aL kk tp) gt)(he:∀cl C s0 H0 fp pn,PE (Cx.comp X sc (own++N) cl C s0 H0 fp pn) aW te)(ht:∀cl C s0 H0 fp pn,PTs (Cx.comp X sc (own++N) cl C s0 H0 fp pn) ifs tc)
  (hNd:X.N.Nodup)(hy:X.N[i]?=some y)(hl:X.env.scope.names.lookup y=some .local)
  (hsw:swapsWith (.ListComp aW [⟨.Tuple aL kk tp,aU,ifs,0⟩] sc pos) (some (.Name y py)) spos.line X.env=pure true)
  (hs:∀y,foldedSetIterable aU X.env y=pure y:=by intro _;rfl):PS X (.Assign [.Name y py] (.ListComp aW [⟨.Tuple aL kk tp,aU,ifs,0⟩] sc pos) spos) (λE σ H=>K8 own.length caps wi gt tc te σ H λv H1=>E.nx (σ.set i (some v)) H1):=
 GJ (λI h aY=>E7 hc cs (Xj hN).1 (Xj hN).2 hi hg he ht hs I h aY) hNd hy hl hsw
theorem zfj {ifs:List Expr}{ta:TDA}{tc:TDT}{te:TDE}{x1 x2:Str}{p1 p2 p aK:Pos}{a:Expr}{i:Nat}{y:Str}{py spos:Pos}(har:X.env.scope=ar)(hc:X.calm=true)(cs:Wd sc ar [x1,x2] N)(hl1:sc.names.lookup x1=some .local)(hl2:sc.names.lookup x2=some .local)
  (hN:Hn X caps N)(hnd:([x1,x2]++N).Nodup)(hNd:X.N.Nodup)(hy:X.N[i]?=some y)(hlo:ar.names.lookup y=some .local)(hg:Gl X "enumerate")(hm:X.mg "enumerate"=none)(hv:bootBuiltins "enumerate"=some (.type "enumerate"))(ha:PDA X Z [a] ta)
  (ht:∀cl C s0 H0 fp pn,W0 (Cx.comp X sc ([x1,x2]++N) cl C s0 H0 fp pn) ifs tc)
  (he:∀cl C s0 H0 fp pn,PD (Cx.comp X sc ([x1,x2]++N) cl C s0 H0 fp pn) Z0 aW te)
  (hsw:swapsWith (.ListComp aW [⟨.Tuple [.Name x1 p1,.Name x2 p2] kk tp,.Call (.Name "enumerate" p) [a] [] aK,ifs,0⟩] sc pos) (some (.Name y py)) spos.line X.env=pure true:=by rfl)
  (hse:starEach [a] X.env=[(false,eval a X.env)]:=by rfl)(hs:∀y,foldedSetIterable (.Call (.Name "enumerate" p) [a] [] aK) X.env y=pure y:=by intro _;rfl):
  PDS X Z (.Assign [.Name y py] (.ListComp aW [⟨.Tuple [.Name x1 p1,.Name x2 p2] kk tp,.Call (.Name "enumerate" p) [a] [] aK,ifs,0⟩] sc pos) spos) (SI i (US caps ta tc te)):=by
 subst har;refine Yw (zie hc cs hN (gt:=UK X.K 2 (Uk [0,1])) (tc:=upT X.K Z0 tc) (te:=up X.K Z0 te) (JF hg hm hv ha hse) (λcl C s0 H0 fp pn=>?_) he ht hNd hy hlo hsw hs) λF σ H h=>Oj (λ_ h=>Eu h) h
 have l1:(Cx.comp X sc ([x1,x2]++N) cl C s0 H0 fp pn).env.scope.names.lookup x1=some .local:=lookup_relabel_local hl1
 have l2:(Cx.comp X sc ([x1,x2]++N) cl C s0 H0 fp pn).env.scope.names.lookup x2=some .local:=lookup_relabel_local hl2;exact Sy hc (UA hnd (.cons rfl (.inl l1) (.inr l1) (.cons rfl (.inl l2) (.inr l2) .nil))) rfl rfl
@[irreducible] def Ri (caps:List Nat)(ta:TDA)(tc:TDT)(te:TDE):TDE:=λdl S Q=>ta dl S λds S1=>match ds with
 | [.int lo,.int hi]=>(-(2^62)<=lo/\lo<2^62/\-(2^62)<=hi/\hi<2^62)/\∃W:Nat->Sto->Prop,W 0 (S1++[.lst []])/\∀k S2,W k S2->
   if k<(hi-lo).toNat then WS caps tc te S1.length dl (.int (lo+k)) S2 (W (k+1)) else Q (.ref S1.length) S2
 | _=>False
theorem zcu {ta:TDA}{tc:TDT}{te:TDE}{σ:L2.St}{H:Hp}{Qv:VK}(h:up X.K Z (Ri caps ta tc te) σ H Qv):SN caps (BF (upA X.K Z ta)) (upT X.K Z0 tc) (up X.K Z0 te) σ H Qv:=by
 obtain⟨r,dl,S,Q,rs,aZ,h,ret⟩:=h;unfold Ri at h;refine⟨r,dl,S,_,rs,aZ,h,λvs H1 r1 ds S1 x1 aB p1 q1=>?_⟩;split at q1
 .rename_i lo hi;obtain⟨v,vs',rfl,p2,p3⟩:=p1.uncons;obtain⟨v2,vs2,rfl,p4,p5⟩:=p3.uncons;have z:=p5.unnil;subst z;cases p2;cases p4;obtain⟨⟨b1,b2,b3,b4⟩,W,w0,turn⟩:=q1;refine⟨lo,hi,rfl,⟨b1,b2,b3,b4⟩,λD0 hD=>?_⟩;obtain⟨aC,x2⟩:=aB.b.push (ds:=[]) (xs:=[]) hD Rps.nil;refine⟨λk m H'=>m=(hi-lo).toNat-k/\∃r' S',Ext (r1++[D0]) r' (upd H1 D0 (.lst [])) H'/\ZW X.K r' S' H'/\W k S',⟨(hi-lo).toNat,by simp,_,_,Ext.refl,aC,w0⟩,?_⟩;rintro k m H2 ⟨em,r2,S2,x3,rb2,w2⟩;have ha2:r2[S1.length]?=some D0:=x3.adr _ _ (S7 aB.len)
  have q:=turn k S2 w2;split at q
  .rename_i hk;refine .inr ⟨hk,λv' H' y'=>?_⟩;obtain⟨eH,y'⟩:=y';subst eH;subst y';have pk:Rp r2 H' (.int (lo+(k:Int))) (.int (lo+(k:Int))):=.int _;exact Ha (rs.ext (x1.trans (x2.trans x3))) ha2 rb2 pk q
    λr' S' H' x' rb' w'=>⟨(hi-lo).toNat-(k+1),by omega,rfl,r',S',x3.trans x',rb',w'⟩
  .rename_i hk;exact .inl ⟨by show (hi-lo).toNat<=k;omega,ret _ H2 r2 _ S2 (x1.trans (x2.trans x3)) ⟨rb2,aZ.xw.ext (x1.trans (x2.trans x3))⟩ (.ref ha2) q⟩
 .exact q1.elim
theorem zdj {x:Str}{px:Pos}{ifs:List Expr}{ta:TDA}{tc:TDT}{te:TDE}{a b:Expr}{p aK:Pos}(har:X.env.scope=ar)(hc:X.calm=true)(cs:Vo sc ar x N)(hN:Hn X caps N)(hnd:(x::N).Nodup)(hg:Gl X "range")(hm:X.mg "range"=none)(ha:PDA X Z [a,b] ta)
  (ht:∀cl C s0 H0 fp pn,W0 (Cx.comp X sc (x::N) cl C s0 H0 fp pn) ifs tc)(he:∀cl C s0 H0 fp pn,PD (Cx.comp X sc (x::N) cl C s0 H0 fp pn) Z0 aW te)
  (hs:∀y,foldedSetIterable (.Call (.Name "range" p) [a,b] [] aK) X.env y=pure y:=by intro _;rfl)(hst:starEach [a,b] X.env=[(false,eval a X.env),(false,eval b X.env)]:=by rfl)(hst2:starEach [b] X.env=[(false,eval b X.env)]:=by rfl):
  PD X Z (.ListComp aW [⟨.Name x px,.Call (.Name "range" p) [a,b] [] aK,ifs,0⟩] sc pos) (Ri caps ta tc te):=by
 subst har;exact Z5 (Io hc cs hN hnd (tc:=upT X.K Z0 tc) (te:=up X.K Z0 te) (E6 hg hm ha hst hst2) ht he hs) λ_ _ _ h=>zcu h
end
end L3
namespace Mine
open PySem PySem.Spec PyProof.Rows L2 L3
abbrev LT:Addr:=841
abbrev LP:Pos:=⟨451,32,451,73⟩
abbrev LQ:Str:="Book.to_look_at.<locals>.<lambda>"
theorem fsc {N P:List Str}{sc:Scope}(a:sc.kind=.function:=by rfl)(b:sc.isCoroutine=false:=by rfl)(c:sc.isGenerator=false:=by rfl)(d:N.Nodup:=by decide +kernel)(e:N.take P.length=P:=by rfl)(f:∀x∈P,sc.names.lookup x=some .local\/sc.names.lookup x=some .cell:=by decide +kernel)(g:∀y∈sc.names,y.2≠.free:=by decide +kernel):Zl N P sc:=⟨a,b,c,d,e,f,g⟩
theorem csc {sc ar:Scope}{x:Str}{caps:List Str}(a:sc.kind=.function:=by rfl)(b:∀y∈sc.names,y.2≠.cell:=by decide +kernel)(c:∀y∈sc.names,y.2=.local->sc.names.lookup y.1=some .local:=by decide +kernel)(d:sc.names.lookup x=some .local:=by rfl)(e:∀y∈caps,sc.names.lookup y=some .free:=by decide +kernel)(f:∀y∈sc.names,y.2=.free->ar.names.lookup y.1=some .cell:=by decide +kernel):Vo sc ar x caps:=⟨a,b,c,d,e,f⟩
theorem WK {sc ar:Scope}{own caps:List Str}(a:sc.kind=.function:=by rfl)(b:∀y∈sc.names,y.2≠.cell:=by decide +kernel)(c:∀y∈sc.names,y.2=.local->sc.names.lookup y.1=some .local:=by decide +kernel)(e:∀y∈caps,sc.names.lookup y=some .free:=by decide +kernel)(f:∀y∈sc.names,y.2=.free->ar.names.lookup y.1=some .cell:=by decide +kernel):Wd sc ar own caps:=⟨a,b,c,e,f⟩
abbrev Ln (sp:Sd)(n:Nat):Prop:=∀ds S Q ex,sp ds S Q ex->ds.length=n
theorem Zh {X:Cx}{x:Str}{p pos:Pos}{e:Expr}{es:List Expr}{t:TDA}{k j:Nat}{ps:List Str}{sd:Sd}{ex:Ev->Addr->Sto->Prop}(G:Fk X.prog X.w X.K X.mg X.base k x ps sd)(hr:ZH j X.A)(ha:PDA X ⟨ex,Z0.w⟩ (e::es) t)(hk:k<=j:=by decide)(hg:Gl X x:=by rfl)
  (hdb:(x==("__debug__":Str))=false:=by decide)(he:He X e es:=by rfl)(hpl:Hp1 X pos es:=by rfl):PD X ⟨ex,Z0.w⟩ (.Call (.Name x p) (e::es) [] pos) (JO ex sd t):=G4 G (hr.mono hk) YD hg ha hdb he hpl
abbrev JN:Stmt:=top 115
abbrev Nz:List Str:=[q36]
theorem zcv:Zl [q36] Nz (Zi JN):=fsc
abbrev K7:Stmt:=top 102
abbrev Tt:List Str:=[q66,WO]
theorem Kt:Zl [q66,WO,q36] Tt (Zi K7):=fsc
abbrev JQ:Stmt:=top 114
abbrev NZ:List Str:=[q66,SR]
theorem WQ:Zl [q66,SR,q22,Up,"_law_low","_law_wide"] NZ (Zi JQ):=fsc
abbrev LL:Stmt:=top 104
abbrev Nj:List Str:=[q36,"_law_size"]
theorem Rk:Zl [q36,"_law_size","_law_kind","_law_part",Ld,"_law_word"] Nj (Zi LL):=fsc
abbrev IZ:Stmt:=top 105
abbrev Qa:List Str:=[q58,TN]
theorem zfo:Zl [q58,TN] Qa (Zi IZ):=fsc
abbrev QH:Stmt:=top 106
abbrev Oq:List Str:=[Qt,SR]
theorem Sg:Zl [Qt,SR,q46,TN,q36,q58,"_law_weight_here"] Oq (Zi QH):=fsc
abbrev K9:Stmt:=top 107
abbrev Uu:List Str:=[XQ,"_law_b"]
theorem TB:Zl [XQ,"_law_b","_law_rest"] Uu (Zi K9):=fsc
abbrev Fq:Stmt:=top 108
abbrev MU:List Str:=[XQ,QD]
theorem Po:Zl [XQ,QD,W5,"_law_turn"] MU (Zi Fq):=fsc
abbrev Hq:Stmt:=top 109
abbrev Oz:List Str:=[q46,q20]
theorem Ts:Zl [q46,q20,W5,q58,XQ,"_law_b"] Oz (Zi Hq):=fsc
abbrev IF:Stmt:=top 111
abbrev O0:List Str:=[q46,q58]
theorem zbI:Zl [q46,q58] O0 (Zi IF):=fsc
abbrev LZ:Stmt:=top 110
abbrev N6:List Str:=[q46]
theorem GH:Zl [q46,TN,q58] N6 (Zi LZ):=fsc
abbrev LO:Stmt:=top 112
abbrev MQ:List Str:=[q46,q22,q18,q36,Q2]
theorem WU:Zl [q46,q22,q18,q36,Q2,Up,"_law_word",q20,"_law_span",XQ,Ux,UY,Ld] MQ (Zi LO):=fsc
abbrev KP:Stmt:=top 113
abbrev OM:List Str:=[q66,q46,q22,q18]
theorem UT:Zl [q66,q46,q22,q18,"_law_rows_here",QD,WO,Q2] OM (Zi KP):=fsc
abbrev Fe:Stmt:=Zo (top 89) 0
abbrev ME:List Str:=["self","box"]
theorem ziK:Zl ["self","box"] ME (Zi Fe):=fsc
abbrev Mh:Stmt:=Zo (top 89) 5
abbrev NS:List Str:=["self"]
theorem zca:Zl ["self"] NS (Zi Mh):=fsc
abbrev Fp:Stmt:=top 31
abbrev N7:List Str:=["a"]
theorem zaR:Zl ["a"] N7 (Zi Fp):=fsc
abbrev NJ:Stmt:=top 87
abbrev TU:List Str:=["box"]
theorem zah:Zl ["box"] TU (Zi NJ):=fsc
abbrev LS:Stmt:=top 88
abbrev SG:List Str:=["box"]
theorem zhc:Zl ["box"] SG (Zi LS):=fsc
abbrev SK:Stmt:=Zo (top 89) 4
abbrev QF:List Str:=["self"]
theorem Dq:Zl ["self","waiting"] QF (Zi SK):=fsc
abbrev Kv:Stmt:=top 57
abbrev Rq:List Str:=["word","span"]
theorem zga:Zl ["word","span"] Rq (Zi Kv):=fsc
abbrev Fn:Stmt:=top 18
abbrev RW:List Str:=["a","b"]
theorem zeU:Zl ["a","b"] RW (Zi Fn):=fsc
abbrev J9:Stmt:=top 20
abbrev Uj:List Str:=["top",Xe]
theorem zg0:Zl ["top",Xe] Uj (Zi J9):=fsc
abbrev Ju:Stmt:=top 21
abbrev OV:List Str:=["low","high","grid"]
theorem zh3:Zl ["low","high","grid"] OV (Zi Ju):=fsc
abbrev Ik:Stmt:=Zo (top 47) 2
abbrev Oi:List Str:=["self",q11,"box","grid"]
theorem Fx:Zl ["self",q11,"box","grid",q17] Oi (Zi Ik):=fsc
abbrev G0:Stmt:=Zo (top 48) 2
abbrev Lj:List Str:=["self",q11,"box","grid"]
theorem zdU:Zl ["self",q11,"box","grid"] Lj (Zi G0):=fsc
abbrev KI:Stmt:=top 23
abbrev VB:List Str:=["a","b"]
theorem Al:Zl ["a","b"] VB (Zi KI):=fsc
abbrev Hy:Stmt:=Zo (top 50) 1
abbrev NO:List Str:=["self",q11,"box","grid"]
theorem zec:Zl ["self",q11,"box","grid"] NO (Zi Hy):=fsc
abbrev Km:Stmt:=top 24
abbrev Vc:List Str:=["a","b"]
theorem zaX:Zl ["a","b"] Vc (Zi Km):=fsc
abbrev LG:Stmt:=Zo (top 51) 1
abbrev PY:List Str:=["self",q11,"box","grid"]
theorem zcw:Zl ["self",q11,"box","grid"] PY (Zi LG):=fsc
abbrev JE:Stmt:=top 25
abbrev Um:List Str:=["a","b","grid"]
theorem C7:Zl ["a","b","grid",Uv] Um (Zi JE):=fsc
abbrev Jw:Stmt:=Zo (top 52) 1
abbrev PZ:List Str:=["self",q11,"box","grid"]
theorem zfh:Zl ["self",q11,"box","grid"] PZ (Zi Jw):=fsc
abbrev KQ:Stmt:=top 16
abbrev Ud:List Str:=[q17,"many"]
theorem NN:Zl [q17,"many","worth","step"] Ud (Zi KQ):=fsc
abbrev NK:Stmt:=top 26
abbrev Qu:List Str:=["a","many","grid"]
theorem OI:Zl ["a","many","grid",WE,"powers",Xe] Qu (Zi NK):=fsc
abbrev Kf:Stmt:=Zo (top 53) 2
abbrev Mc:List Str:=["self",q11,"box","grid"]
theorem zjv:Zl ["self",q11,"box","grid"] Mc (Zi Kf):=fsc
abbrev HA:Stmt:=Zo (top 53) 0
abbrev OP:List Str:=["self","one","many"]
theorem zhH:Zl ["self","one","many"] OP (Zi HA):=fsc
abbrev Lv:Stmt:=Zo (top 47) 0
abbrev Ox:List Str:=["self","top",Xe]
theorem zcK:Zl ["self","top",Xe] Ox (Zi Lv):=fsc
abbrev Ii:Stmt:=Zo (top 48) 0
abbrev OQ:List Str:=["self",Wv]
theorem zfp:Zl ["self",Wv] OQ (Zi Ii):=fsc
abbrev Fb:Stmt:=Zo (top 49) 0
abbrev MN:List Str:=["self","one",YJ]
theorem zcn:Zl ["self","one",YJ] MN (Zi Fb):=fsc
abbrev zil:Stmt:=Zo (top 49) 0
abbrev zdt:List Str:=["self","one",YJ]
abbrev zji:Stmt:=Zo (top 49) 0
abbrev zgV:List Str:=["self","one",YJ]
abbrev Jt:Stmt:=top 54
abbrev TF:List Str:=["node"]
theorem zhS:Zl ["node"] TF (Zi Jt):=fsc
abbrev Hk:Stmt:=top 56
abbrev Ww:List Str:=[q16,"box","grid"]
theorem GY:Zl [q16,"box","grid","found","node"] Ww (Zi Hk):=fsc
abbrev JR:Stmt:=top 81
abbrev QU:List Str:=[q16,"row","box","grid"]
theorem E9:Zl [q16,"row","box","grid","at"] QU (Zi JR):=fsc
abbrev HJ:Stmt:=top 28
abbrev VS:List Str:=["a","b"]
theorem JD:Zl ["a","b","low","high"] VS (Zi HJ):=fsc
abbrev GO:Stmt:=top 76
abbrev Me:List Str:=["word","span"]
theorem zcf:Zl ["word","span"] Me (Zi GO):=fsc
abbrev Hg:Stmt:=Zo (top 47) 3
abbrev N9:List Str:=["self",q11,"here","grid"]
theorem zeH:Zl ["self",q11,"here","grid"] N9 (Zi Hg):=fsc
abbrev LH:Stmt:=Zo (top 48) 3
abbrev Pb:List Str:=["self",q11,"here","grid"]
theorem zaC:Zl ["self",q11,"here","grid"] Pb (Zi LH):=fsc
abbrev Jf:Stmt:=Zo (top 50) 2
abbrev Pw:List Str:=["self","here","x","y","grid"]
theorem zb3:Zl ["self","here","x","y","grid"] Pw (Zi Jf):=fsc
abbrev IY:Stmt:=Zo (top 50) 3
abbrev O3:List Str:=["self","here","x","y","grid"]
theorem zcH:Zl ["self","here","x","y","grid"] O3 (Zi IY):=fsc
abbrev Kk:Stmt:=Zo (top 49) 1
abbrev Oo:List Str:=["self",q11,"here","grid"]
theorem O5:Zl ["self",q11,"here","grid","x","y"] Oo (Zi Kk):=fsc
abbrev Hj:Stmt:=Zo (top 51) 2
abbrev Lq:List Str:=["self","here","x","y","grid"]
theorem zee:Zl ["self","here","x","y","grid"] Lq (Zi Hj):=fsc
abbrev HC:Stmt:=Zo (top 51) 3
abbrev Ge:List Str:=["self","here","x","y","grid"]
theorem zfq:Zl ["self","here","x","y","grid"] Ge (Zi HC):=fsc
abbrev zhi:Stmt:=Zo (top 49) 1
abbrev zcN:List Str:=["self",q11,"here","grid"]
abbrev JP:Stmt:=top 34
abbrev O6:List Str:=["span"]
theorem zaj:Zl ["span"] O6 (Zi JP):=fsc
abbrev IW:Stmt:=top 37
abbrev Qf:List Str:=["x","low","high"]
theorem zjw:Zl ["x","low","high"] Qf (Zi IW):=fsc
abbrev KY:Stmt:=top 38
abbrev OU:List Str:=["top",Xe]
theorem ze8:Zl ["top",Xe] OU (Zi KY):=fsc
abbrev Jv:Stmt:=top 39
abbrev Oe:List Str:=[Uv,"x","y"]
theorem QY:Zl [Uv,"x","y","low_by","high_by","low","high"] Oe (Zi Jv):=fsc
abbrev L6:Stmt:=top 29
abbrev OX:List Str:=["a","b"]
theorem zbj:Zl ["a","b"] OX (Zi L6):=fsc
abbrev Ic:Stmt:=top 36
abbrev RK:List Str:=["one",YJ]
theorem zcF:Zl ["one",YJ] RK (Zi Ic):=fsc
abbrev JU:Stmt:=top 35
abbrev UP:List Str:=["pair"]
theorem zf9:Zl ["pair"] UP (Zi JU):=fsc
abbrev LD:Stmt:=top 40
abbrev Ro:List Str:=["z","x","y","grid"]
theorem T9:Zl ["z","x","y","grid",Uv,"left","turned"] Ro (Zi LD):=fsc
abbrev IV:Stmt:=Zo (top 52) 2
abbrev Ks:List Str:=["self","here","x","y","grid"]
theorem zft:Zl ["self","here","x","y","grid"] Ks (Zi IV):=fsc
abbrev GP:Stmt:=Zo (top 52) 3
abbrev Hd:List Str:=["self","here","x","y","grid"]
theorem zb2:Zl ["self","here","x","y","grid"] Hd (Zi GP):=fsc
abbrev zex:Stmt:=Zo (top 49) 1
abbrev zbE:List Str:=["self",q11,"here","grid"]
abbrev LM:Stmt:=top 42
abbrev NV:List Str:=["guess",q17,"many"]
theorem ze6:Zl ["guess",q17,"many"] NV (Zi LM):=fsc
abbrev Gx:Stmt:=top 41
abbrev RA:List Str:=[q17,"many"]
theorem QK:Zl [q17,"many","guess","better"] RA (Zi Gx):=fsc
abbrev Q3:Stmt:=top 43
abbrev Vk:List Str:=[q17,"many"]
theorem ND:Zl [q17,"many","below"] Vk (Zi Q3):=fsc
abbrev KH:Stmt:=top 44
abbrev PJ:List Str:=["z","x","many","grid"]
theorem RD:Zl ["z","x","many","grid","scale","powers","low","high"] PJ (Zi KH):=fsc
abbrev Je:Stmt:=Zo (top 53) 3
abbrev ON:List Str:=["self",q11,"here","grid"]
theorem CW:Zl ["self",q11,"here","grid","x"] ON (Zi Je):=fsc
abbrev Gn:Stmt:=top 77
abbrev MZ:List Str:=[q16,"row","box","grid"]
theorem Uh:Zl [q16,"row","box","grid","at",q11,"wished",q17,"left","part"] MZ (Zi Gn):=fsc
abbrev HE:Stmt:=top 78
abbrev MO:List Str:=[q16,"row","box","grid"]
theorem QG:Zl [q16,"row","box","grid",q11,"left",q17,"span","node"] MO (Zi HE):=fsc
abbrev IH:Stmt:=top 80
abbrev Rj:List Str:=["box","k","span"]
theorem Ad:Zl ["box","k","span"] Rj (Zi IH):=fsc
abbrev Jd:Stmt:=top 82
abbrev Nn:List Str:=["span","cut"]
theorem za8:Zl ["span","cut"] Nn (Zi Jd):=fsc
abbrev Hs:Stmt:=top 84
abbrev Mi:List Str:=[q16,"row","box","grid","cut"]
theorem IX:Zl [q16,"row","box","grid","cut","k","span"] Mi (Zi Hs):=fsc
abbrev L7:Stmt:=top 83
abbrev O9:List Str:=["span","cut"]
theorem ziB:Zl ["span","cut"] O9 (Zi L7):=fsc
abbrev KR:Stmt:=top 85
abbrev NT:List Str:=[q16,"row","box","grid"]
theorem SX:Zl [q16,"row","box","grid","left","wished","cuts","k","span","cut"] NT (Zi KR):=fsc
abbrev G6:Stmt:=Zo (top 89) 2
abbrev S6:List Str:=["self",q17,"fate"]
theorem zbi:Zl ["self",q17,"fate"] S6 (Zi G6):=fsc
abbrev HV:Stmt:=Zo (top 89) 1
abbrev MH:List Str:=["self","box"]
theorem zg2:Zl ["self","box"] MH (Zi HV):=fsc
abbrev KG:Stmt:=Zo (top 89) 3
abbrev QZ:List Str:=["self",q17,"k",Wv]
theorem Rm:Zl ["self",q17,"k",Wv,"box","span","a","b"] QZ (Zi KG):=fsc
abbrev LJ:Stmt:=top 90
abbrev RP:List Str:=[q16,"rows","r","box","grid"]
theorem Bv:Zl [q16,"rows","r","box","grid","at"] RP (Zi LJ):=fsc
abbrev Ir:Stmt:=top 91
abbrev Pp:List Str:=["book",q16,"rows","grid",q17]
theorem Ur:Zl ["book",q16,"rows","grid",q17,"r","row","found","cut","parts","thrown"] Pp (Zi Ir):=fsc
abbrev JA:Stmt:=top 58
abbrev QT:List Str:=["word","span"]
theorem zgB:Zl ["word","span"] QT (Zi JA):=fsc
abbrev Pu:Stmt:=top 92
abbrev OZ:List Str:=[q16,"rows","box","grid",q11]
theorem Eb:Zl [q16,"rows","box","grid",q11,"r","row"] OZ (Zi Pu):=fsc
abbrev M6:Stmt:=top 62
abbrev MJ:List Str:=["rows"]
theorem zhe:Zl ["rows"] MJ (Zi M6):=fsc
abbrev MY:Stmt:=top 63
abbrev Qp:List Str:=["each",WE]
theorem zaS:Zl ["each",WE] Qp (Zi MY):=fsc
abbrev Ib:Stmt:=Zo (top 47) 4
abbrev Lg:List Str:=["self",q11,q84,Wi,"grid"]
theorem BU:Zl ["self",q11,q84,Wi,"grid"] Lg (Zi Ib):=fsc
abbrev Nl:Stmt:=Zo (top 48) 4
abbrev OJ:List Str:=["self",q11,q84,Wi,"grid"]
theorem zhy:Zl ["self",q11,q84,Wi,"grid"] OJ (Zi Nl):=fsc
abbrev Jb:Stmt:=Zo (top 50) 4
abbrev Lb:List Str:=["self","x","y","a","b","grid"]
theorem zaF:Zl ["self","x","y","a","b","grid"] Lb (Zi Jb):=fsc
abbrev PM:Stmt:=Zo (top 49) 2
abbrev Pc:List Str:=["self",q11,q84,Wi,"grid"]
theorem GC:Zl ["self",q11,q84,Wi,"grid","x","y"] Pc (Zi PM):=fsc
abbrev LU:Stmt:=Zo (top 51) 4
abbrev Fl:List Str:=["self","x","y","a","b","grid"]
theorem zgq:Zl ["self","x","y","a","b","grid"] Fl (Zi LU):=fsc
abbrev zam:Stmt:=Zo (top 49) 2
abbrev zbN:List Str:=["self",q11,q84,Wi,"grid"]
abbrev Ku:Stmt:=Zo (top 52) 4
abbrev II:List Str:=["self","x","y","a","b","grid"]
theorem zei:Zl ["self","x","y","a","b","grid"] II (Zi Ku):=fsc
abbrev zjy:Stmt:=Zo (top 49) 2
abbrev zgi:List Str:=["self",q11,q84,Wi,"grid"]
abbrev L8:Stmt:=top 27
abbrev PF:List Str:=["a","many"]
theorem zhM:Zl ["a","many"] PF (Zi L8):=fsc
abbrev Nm:Stmt:=Zo (top 53) 4
abbrev Nb:List Str:=["self",q11,q84,Wi,"grid"]
theorem G8:Zl ["self",q11,q84,Wi,"grid","lower","steep"] Nb (Zi Nm):=fsc
abbrev G2:Stmt:=top 60
abbrev RG:List Str:=[q16,"box","grid"]
theorem Ou:Zl [q16,"box","grid",q11,"found","node"] RG (Zi G2):=fsc
abbrev HU:Stmt:=top 71
abbrev O7:List Str:=[q16,WE,"box","grid"]
theorem zat:Zl [q16,WE,"box","grid"] O7 (Zi HU):=fsc
abbrev Iz:Stmt:=top 2
abbrev Nh:List Str:=[q17,Wv]
theorem zfT:Zl [q17,Wv] Nh (Zi Iz):=fsc
abbrev Li:Stmt:=top 3
abbrev Pe:List Str:=[Xk,"row",WM]
theorem EB:Zl [Xk,"row",WM,"rest"] Pe (Zi Li):=fsc
abbrev Ov:Stmt:=top 4
abbrev UX:List Str:=[Xk,"row",WM]
theorem ze0:Zl [Xk,"row",WM] UX (Zi Ov):=fsc
abbrev UH:Stmt:=top 5
abbrev VU:List Str:=[Xk]
theorem DQ:Zl [Xk] VU (Zi UH):=fsc
abbrev Jh:Stmt:=top 6
abbrev OC:List Str:=[Xk,"whole","row",WM,"grid"]
theorem zfL:Zl [Xk,"whole","row",WM,"grid"] OC (Zi Jh):=fsc
abbrev M9:Stmt:=top 7
abbrev Mx:List Str:=[Xk,"whole","row","grid"]
theorem zdR:Zl [Xk,"whole","row","grid"] Mx (Zi M9):=fsc
abbrev NM:Stmt:=top 8
abbrev N5:List Str:=[Xk,"grid"]
theorem EW:Zl [Xk,"grid","whole"] N5 (Zi NM):=fsc
abbrev JI:Stmt:=top 32
abbrev RE:List Str:=["a"]
theorem zfl:Zl ["a"] RE (Zi JI):=fsc
abbrev OG:Stmt:=top 64
abbrev QJ:List Str:=[q11]
theorem zeM:Zl [q11] QJ (Zi OG):=fsc
abbrev Mf:Stmt:=top 65
abbrev TR:List Str:=["box"]
theorem zhA:Zl ["box"] TR (Zi Mf):=fsc
abbrev Gf:Stmt:=top 66
abbrev Ql:List Str:=["ones","others","grid"]
theorem Od:Zl ["ones","others","grid","total","one",YJ] Ql (Zi Gf):=fsc
abbrev MI:Stmt:=top 67
abbrev NQ:List Str:=["k",WM,"turns",q84,"grid"]
theorem JS:Zl ["k",WM,"turns",q84,"grid","whole","column_slants"] NQ (Zi MI):=fsc
abbrev Sk:Stmt:=top 68
abbrev Md:List Str:=["k","box","grid",Wg,"thin",q84]
theorem U7:Zl ["k","box","grid",Wg,"thin",q84,"turns","centres","moved","lacks","ways"] Md (Zi Sk):=fsc
abbrev MR:Stmt:=top 69
abbrev NC:List Str:=["box","grid","turn","thin",q84]
theorem zbG:Zl ["box","grid","turn","thin",q84] NC (Zi MR):=fsc
abbrev Gd:Stmt:=top 70
abbrev O4:List Str:=[q16,WE,"box","grid"]
theorem zeV:Zl [q16,WE,"box","grid"] O4 (Zi Gd):=fsc
abbrev IS:Stmt:=top 30
abbrev OF:List Str:=["a","b"]
theorem zcW:Zl ["a","b"] OF (Zi IS):=fsc
abbrev Mv:Stmt:=top 73
abbrev OK:List Str:=["near","box"]
theorem zhY:Zl ["near","box"] OK (Zi Mv):=fsc
abbrev MM:Stmt:=top 72
abbrev Oc:List Str:=["rows",q11]
theorem zbZ:Zl ["rows",q11] Oc (Zi MM):=fsc
abbrev Nk:Stmt:=top 74
abbrev MX:List Str:=[q16,"rows","box","grid"]
theorem Q1:Zl [q16,"rows","box","grid",WE,q84,"turn","near"] MX (Zi Nk):=fsc
abbrev Gv:Stmt:=top 93
abbrev M5:List Str:=[q16,"rows","box","grid",q11]
theorem GB:Zl [q16,"rows","box","grid",q11,"found","thin"] M5 (Zi Gv):=fsc
abbrev KS:Stmt:=top 94
abbrev OW:List Str:=[q16,"rows","box","grid","fine"]
theorem Pl:Zl [q16,"rows","box","grid","fine",q11,"fate"] OW (Zi KS):=fsc
abbrev KL:Stmt:=top 95
abbrev NF:List Str:=["box","began"]
theorem As:Zl ["box","began"] NF (Zi KL):=fsc
abbrev LX:Stmt:=top 96
abbrev Mm:List Str:=["book",q17]
theorem HW:Zl ["book",q17,"box","k"] Mm (Zi LX):=fsc
abbrev J4:Stmt:=top 97
abbrev PH:List Str:=["book",q16,"rows","grid","fine",q17]
theorem Ru:Zl ["book",q16,"rows","grid","fine",q17,"began","box","fate"] PH (Zi J4):=fsc
abbrev Jk:Stmt:=top 98
abbrev PQ:List Str:=[q16,"rows","box","grid","fine","looks"]
theorem O2:Zl [q16,"rows","box","grid","fine","looks","book","time",q17] PQ (Zi Jk):=fsc
abbrev Tg:Stmt:=top 120
abbrev MW:List Str:=[SQ,q22,q18,q36]
theorem Ub:Zl [SQ,q22,q18,q36,q20,"_law_cuts","_law_entry",W5,"_law_one",Ux] MW (Zi Tg):=fsc
abbrev Ho:Stmt:=top 22
abbrev Om:List Str:=["span","a","grid"]
theorem zb5:Zl ["span","a","grid"] Om (Zi Ho):=fsc
abbrev OO:Stmt:=top 99
abbrev Mn:List Str:=["box",Wo,"grid"]
theorem zgv:Zl ["box",Wo,"grid"] Mn (Zi OO):=fsc
abbrev LK:Stmt:=top 15
abbrev NA:List Str:=["one",YJ]
theorem NB:Zl ["one",YJ,"rest"] NA (Zi LK):=fsc
abbrev KD:Stmt:=top 14
abbrev PB:List Str:=["value"]
theorem zdJ:Zl ["value"] PB (Zi KD):=fsc
abbrev LN:Stmt:=top 17
abbrev OB:List Str:=["top",Xe]
theorem GF:Zl ["top",Xe,"divisor"] OB (Zi LN):=fsc
abbrev HK:Stmt:=top 100
abbrev NI:List Str:=["book",Wo,"grid"]
theorem S8:Zl ["book",Wo,"grid",q17,"fate","is_above"] NI (Zi HK):=fsc
abbrev HF:Stmt:=top 117
abbrev Mw:List Str:=[q22,q18,Qt]
theorem U0:Zl [q22,q18,Qt,q20,WO,"_law_span","_law_parts",UY,Ux] Mw (Zi HF):=fsc
abbrev J7:Stmt:=top 116
abbrev N0:List Str:=[q36]
theorem AN:Zl [q36] N0 (Zi J7):=fsc
abbrev Kr:Stmt:=top 103
abbrev My:List Str:=[W5]
theorem zdg:Zl [W5] My (Zi Kr):=fsc
abbrev J5:Stmt:=top 119
abbrev Pt:List Str:=[SQ,q20,q18]
theorem Tw:Zl [SQ,q20,q18,Up,"_law_fate",XQ] Pt (Zi J5):=fsc
abbrev Mo:Stmt:=top 118
abbrev P7:List Str:=[q22,q20,q18]
theorem zfi:Zl [q22,q20,q18] P7 (Zi Mo):=fsc
abbrev Ip:Stmt:=top 121
abbrev Mb:List Str:=[q20,q22,q18,q36]
theorem Rc:Zl [q20,q22,q18,q36,WO,UY,Ux,W5] Mb (Zi Ip):=fsc
abbrev Vs:Stmt:=top 122
abbrev Hm:List Str:=[q66]
theorem Xd:Zl [q66,SR,q18,q22,q46,"_law_rows_here","_law_fine","_law_looks",SQ,"_law_kept","_law_points",WO,q20,Up] Hm (Zi Vs):=fsc
theorem kfo {K:Fg}{f c:Addr}{m:Value}{n q:Str}{st:Stmt}(l:K.lookup f=some (fo n q st m c)):W.keepIn K (.ref f)=true:=by
 unfold W.keepIn;simp only[l]
theorem ifo {K:Fg}{f c:Addr}{m:Value}{n q:Str}{st:Stmt}(l:K.lookup f=some (fo n q st m c)):W.isFn K (.ref f)=true:=by
 unfold W.isFn W.typeIn;simp only[l];rfl
theorem lnc {n:Nat}{P:List Value->Prop}(h:∀a (us:List Value),us.length=n->P (a::us))(us:List Value)(e:us.length=n+1):P us:=by
 cases us with
 | nil=>cases e
 | cons a r=>exact h a r (Nat.succ.inj e)
theorem ln0 {P:List Value->Prop}(h:P []):∀us:List Value,us.length=0->P us:=λus e=>List.eq_nil_of_length_eq_zero e ▸ h
theorem ln1 {P:List Value->Prop}(h:∀a,P [a]):∀us:List Value,us.length=1->P us:=lnc λa=>ln0 (h a)
theorem ln2 {P:List Value->Prop}(h:∀a b,P [a,b]):∀us:List Value,us.length=2->P us:=lnc λa=>ln1 (h a)
theorem ln3 {P:List Value->Prop}(h:∀a b c,P [a,b,c]):∀us:List Value,us.length=3->P us:=lnc λa=>ln2 (h a)
theorem ln4 {P:List Value->Prop}(h:∀a b c d,P [a,b,c,d]):∀us:List Value,us.length=4->P us:=lnc λa=>ln3 (h a)
theorem ln5 {P:List Value->Prop}(h:∀a b c d e,P [a,b,c,d,e]):∀us:List Value,us.length=5->P us:=lnc λa=>ln4 (h a)
theorem ln6 {P:List Value->Prop}(h:∀a b c d e f,P [a,b,c,d,e,f]):∀us:List Value,us.length=6->P us:=lnc λa=>ln5 (h a)
abbrev Bn (n q:Str)(st:Stmt)(ps:List Str):Prop:=∀(kV doc pm:Value)(an:Option Addr)(cdv ct:Value)(us:List Value),us.length=ps.length->bindArgs (W.fnOf n q (Vm st) (Xb st) (Zi st) .none kV doc pm an cdv ct) ⟨us,[]⟩=pure (ps.zip us)
abbrev clA (K:Fg)(n:Str)(C:Addr):Prop:=W.nsIn K mainGlobals n=some (some (.ref C))/\W.plainGet K C Str.empty=true/\W.hasDictIn K C=true/\W.plainOver K C=true/\W.findIn K (.ref C) "__setattr__"=some (some (.builtin "object.__setattr__"))/\W.makesIn K C=true/\W.keepIn K (.ref C)=true
theorem clC {K:Fg}{C:Addr}{p:Prop}(h:W.plainGet K C Str.empty=true/\W.hasDictIn K C=true/\W.plainOver K C=true/\W.findIn K (.ref C) "__setattr__"=some (some (.builtin "object.__setattr__"))/\p):Cls K C:=⟨h.1,h.2.1,h.2.2.1,h.2.2.2.1⟩
abbrev fnA (K:Fg)(n:Str)(st:Stmt)(f:Addr)(m:Value)(c:Addr):Prop:=W.nsIn K mainGlobals n=some (some (.ref f))/\K.lookup f=some (fo n n st m c)/\W.codeIn K (.ref c) n=true
abbrev mdA (K:Fg)(C:Addr)(n q:Str)(st:Stmt)(f:Addr)(m:Value)(c:Addr):Prop:=W.findIn K (.ref C) n=some (some (.ref f))/\K.lookup f=some (fo n q st m c)/\W.codeIn K (.ref c) q=true
def dfo {K:Fg}{mg:Str->Option Value}{h:Heap}(X:K.In h)(G:h.Ns mainGlobals mg){n:Str}{st:Stmt}{f c:Addr}{m:Value}{ps:List Str}(a:fnA K n st f m c)(b:Bn n n st ps:=by first|exact λ_ _ _ _ _ _=>ln2 λ_ _=>rfl|exact λ_ _ _ _ _ _=>ln3 λ_ _ _=>rfl|exact λ_ _ _ _ _ _=>ln1 λ_=>rfl|exact λ_ _ _ _ _ _=>ln4 λ_ _ _ _=>rfl|exact λ_ _ _ _ _ _=>ln5 λ_ _ _ _ _=>rfl|exact λ_ _ _ _ _ _=>ln6 λ_ _ _ _ _ _=>rfl|exact λ_ _ _ _ _ _=>ln0 rfl):Df K mg n st ps:=⟨_,_,Mu (st:=st) a.2.1 a.2.2 (kfo a.2.1),W.mg_of X G a.1,(Mu (st:=st) a.2.1 a.2.2 (kfo a.2.1)).binds b⟩
def dmo {K:Fg}{C:Addr}{n q:Str}{st:Stmt}{f c:Addr}{m:Value}{ps:List Str}(a:mdA K C n q st f m c)(b:Bn n q st ps:=by first|exact λ_ _ _ _ _ _=>ln2 λ_ _=>rfl|exact λ_ _ _ _ _ _=>ln3 λ_ _ _=>rfl|exact λ_ _ _ _ _ _=>ln1 λ_=>rfl|exact λ_ _ _ _ _ _=>ln4 λ_ _ _ _=>rfl|exact λ_ _ _ _ _ _=>ln5 λ_ _ _ _ _=>rfl|exact λ_ _ _ _ _ _=>ln6 λ_ _ _ _ _ _=>rfl|exact λ_ _ _ _ _ _=>ln0 rfl):Dm K C n q st ps:=⟨_,_,Mu (st:=st) a.2.1 a.2.2 (kfo a.2.1),⟨a.1,ifo a.2.1,kfo a.2.1⟩,(Mu (st:=st) a.2.1 a.2.2 (kfo a.2.1)).binds b⟩
theorem Kw (P:Params):(kq P).lookup (nat_lit 841)=none:=by kernel_rfl
theorem in_kq {w:World}{h:Heap}(Y:(W.kHook kp ks VV).says w h):(kq w.params).In h:=λa o e=>(show (kp w.params).In h from Y) a o (by
 show List.lookup a ((nat_lit 841,_)::kq w.params)=some o;rw[zW];cases q:a==nat_lit 841 with
 | false=>exact e
 | true=>
  rw[show a=nat_lit 841 by simpa using q,Kw] at e;cases e)
theorem zbW {w:World}{h:Heap}(Y:(W.kHook kp ks VV).says w h):h.get? (nat_lit 841)=some { cls:=.none,data:=.fields #[] }:=(show (kp w.params).In h from Y) _ _ (by
 show List.lookup _ ((nat_lit 841,_)::kq w.params)=_;rw[zW];rfl)
theorem cd_eq (P:Params):(kq P).lookup (nat_lit 843)=some (co "to_look_at" "Book.to_look_at" 1345 1346 1347 1349 449 1 840 841 .none .none 842 1348):=by kernel_rfl
theorem Ea (P:Params)(h:Heap)(X:(kq P).In h):W.CodeHd h (nat_lit 843) (nat_lit 841):=⟨_,_,_,_,_,_,_,_,_,X _ _ (cd_eq P),rfl,rfl,rfl,rfl,rfl,rfl,rfl,rfl,⋯⟩
theorem ZN {C:Addr}{f:Str}{to:TDE}{dl:Ev}{S S1:Sto}{Q:DK}{n:Nat}{fs:List (Str×D)}{v:D}(hto:∀K:DK,K (.ref n) S1->to dl S K)(h:S1[n]?=some (.ins C fs))(hf:fs.lookup f=some v)(hq:Q v S1):Ms C f to dl S Q:=by
 unfold Ms;refine hto _ ?_;simp only[WL,h,if_pos,hf];exact hq
theorem Vx {C:Addr}{f:Str}{to te:TDE}{dl:Ev}{S S1 S2:Sto}{E:XY}{n:Nat}{fs:List (Str×D)}{v:D}(hte:∀K:DK,K v S1->te dl S K)(hto:∀K:DK,K (.ref n) S2->to dl S1 K)(h:S2[n]?=some (.ins C fs))(hl:fs.length<1000)(hq:E.nx dl (S2.set n (.ins C (Sv f v fs)))):Nt C f to te E dl S:=by
 unfold Nt;refine hte _ (hto _ ?_);simp only[WL,h,if_pos];exact⟨hl,hq⟩
theorem Xr {C:Addr}{m:Str}{ex:Ev->Addr->Sto->Prop}{sd:Sd}{to:TDE}{t:TDA}{dl:Ev}{S S1:Sto}{Q:DK}{n:Nat}{fs:List (Str×D)}(hto:∀K:DK,K (.ref n) S1->to dl S K)(h:S1[n]?=some (.ins C fs))(hf:fs.lookup m=none)(hq:t dl S1 λds S2=>sd (.ref n::ds) S2 Q (ex dl)):SY C m ex sd to t dl S Q:=by
 unfold SY;refine hto _ ?_;simp only[WL,h,if_pos];exact⟨hf,hq⟩
theorem V5 {to ti te:TDE}{dl:Ev}{S:Sto}{E:XY}{n j:Nat}{k:Int}{xs:List D}{v:D}(hte:∀K:DK,K v S->te dl S K)(hto:∀K:DK,K (.ref n) S->to dl S K)(hti:∀K:DK,K (.int k) S->ti dl S K)(h:S[n]?=some (.lst xs))(hj:ixN xs.length k=some j)(hq:E.nx dl (S.set n (.lst (xs.set j v)))):OS to ti te E dl S:=by
 unfold OS;refine hte _ (hto _ (hti _ ?_));simp only[h,hj];exact hq
theorem Xn (h:S[n]?=some (.lst xs))(hq:Q (.int (xs.length:Nat)) S):irr TQ [.ref n] S Q:=by
 rw[Ug];unfold TQ;simp only[ZM h rfl];exact hq
theorem Z4 {S:Sto}{n a:Nat}{o u:Ob}(h:S[n]?=some o)(hn:a≠n):(S.set a u)[n]?=some o:=by rw[zT hn];exact h
theorem Yd {S:Sto}{n:Nat}{o u:Ob}(h:S[n]?=some o):(S.set n u)[n]?=some u:=by
 have hk:=(zA.mp h).1;simp[hk]
theorem Zt {S:Sto}{n:Nat}{o:Ob}{T:Sto}(h:S[n]?=some o):(S++T)[n]?=some o:=by
 have hk:=(zA.mp h).1;rw[zJ hk];exact h
theorem Vb (T R:Sto)(u:Ob):(T++u::R)[T.length]?=some u:=by simp
theorem VG (T R:Sto)(u v:Ob):(T++u::R).set T.length v=T++v::R:=by simp
theorem ZV {S:Sto}{n:Nat}{o:Ob}(h:S[n]?=some o):n<S.length:=(zA.mp h).1
theorem Ve {i n:Nat}{tb:TDS}{E:XY}{dl:Ev}{S:Sto}{o:Ob}(W:Nat->Ev->Sto->Prop)(h0:W 0 dl S)(hk:∀k dl' S',W k dl' S'->S'[n]?=some o)
  (ht:∀(k:Nat)(x:D)(dl':Ev)(S':Sto)(nx ct:Ev->Sto->Prop),(Zm o)[k]?=some x->W k dl' S'->(∀dl2 S2,W (k+1) dl2 S2->nx dl2 S2)->tb { nx:=nx,rt:=E.rt,bk:=E.nx,ct:=ct } (dl'.set i (some x)) S')(he:∀dl' S',W (Zm o).length dl' S'->E.nx dl' S')(hL:Y8 o=some o:=by rfl):
  (lAt S n).isSome=true/\∃W:Nat->Nat->Ev->Sto->Prop,(∃m,W 0 m dl S)/\∀k m dl S,W k m dl S->match lAt S n with
  | some o=>match (Zm o)[k]? with
   | some x=>tb { nx:=λdl' S'=>∃m',m'<m/\W (k+1) m' dl' S',rt:=E.rt,bk:=E.nx,ct:=λdl' S'=>∃m',m'<m/\W (k+1) m' dl' S' } (dl.set i (some x)) S
   | none=>E.nx dl S
  | none=>False:=by
 refine⟨by rw[ZM (hk _ _ _ h0) hL];rfl,λk m dl' S'=>m+k=(Zm o).length/\W k dl' S',⟨(Zm o).length,(),h0⟩,?_⟩;rintro k m dl' S' ⟨hm,w⟩;rw[ZM (hk _ _ _ w) hL];show (match (Zm o)[k]? with
   | some x=>tb { nx:=λdl' S''=>∃m',m'<m/\(m'+(k+1)=(Zm o).length/\W (k+1) dl' S''),rt:=E.rt,bk:=E.nx,ct:=λdl' S''=>∃m',m'<m/\(m'+(k+1)=(Zm o).length/\W (k+1) dl' S'') } (dl'.set i (some x)) S'
   | none=>E.nx dl' S')
 split
 .rename_i x hx;have hk:k<(Zm o).length:=(zA.mp hx).1;exact ht k x dl' S' _ _ hx w λdl2 S2 w2=>⟨m-1,(),(),w2⟩
 .rename_i hx;have hk:k=(Zm o).length:=by
   have:=yP.mp hx;lia
  exact he dl' S' (hk ▸ w)
inductive Nd where
 | number (t b:Int)|unknown (k:Int)|plus (i j:Int)|minus (i j:Int)|times (i j:Int)|power (i n:Int)
def Nd.d:Nd->D
 | .number t b=>.tup [.str "number",.int t,.int b]
 | .unknown k=>.tup [.str "unknown",.int k]
 | .plus i j=>.tup [.str "plus",.int i,.int j]
 | .minus i j=>.tup [.str "minus",.int i,.int j]
 | .times i j=>.tup [.str "times",.int i,.int j]
 | .power i n=>.tup [.str "power",.int i,.int n]
def Nd.ob (cN cU cP cM cT cW:Addr):Nd->Ob
 | .number t b=>.ins cN [("top",.int t),("bottom",.int b)]
 | .unknown k=>.ins cU [("place",.int k)]
 | .plus i j=>.ins cP [("one",.int i),("other",.int j)]
 | .minus i j=>.ins cM [("one",.int i),("other",.int j)]
 | .times i j=>.ins cT [("one",.int i),("other",.int j)]
 | .power i n=>.ins cW [("one",.int i),("many",.int n)]
def inR (m i:Int):Prop:=0<=i/\i<m
def Nd.ok (m q:Int):Nd->Prop
 | .number t b=>(1<=b/\b<=10^9)/\Int.gcd t b=1/\t.natAbs<=10^9
 | .unknown k=>inR q k
 | .plus i j=>inR m i/\inR m j
 | .minus i j=>inR m i/\inR m j
 | .times i j=>inR m i/\inR m j
 | .power i n=>inR m i/\2<=n/\n<=6
def frD (p:Int×Int):D:=.tup [.int p.1,.int p.2]
abbrev gt (vs:LI)(i:Int):Int×Int:=vs.getD i.toNat (0,1)
theorem OH (h:inR vs.length i):gt vs i∈vs:=by
 obtain⟨h0,h1⟩:=h;have hk:i.toNat<vs.length:=by lia
 have e:gt vs i=vs[i.toNat]:=by simp[gt,hk]
 rw[e];exact yW hk
theorem ZT (h:inR vs.length i):atI (vs.map frD) i=some (frD (gt vs i)):=by
 obtain⟨h0,h1⟩:=h;have hk:i.toNat<vs.length:=by lia
 have z:=Z6 (xs:=vs.map frD) (j:=i.toNat) (v:=frD (gt vs i)) (by rw[zF,zD hk];simp[gt,hk]);rw[show ((i.toNat:Nat):Int)=i by lia] at z;exact z
theorem D9 {α:Type}{xs:List D}{lo hi:Option Int}:(Yb xs lo hi).length<=xs.length:=by
 unfold L3.Yb;rw[zM,wJ];lia
structure SO (a b c d mn mx:Int):Prop where
 lo:mn=a*c\/mn=a*d\/mn=b*c\/mn=b*d
 l1:mn<=a*c
 l2:mn<=a*d
 l3:mn<=b*c
 l4:mn<=b*d
 hi:mx=a*c\/mx=a*d\/mx=b*c\/mx=b*d
 h1:a*c<=mx
 h2:a*d<=mx
 h3:b*c<=mx
 h4:b*d<=mx
theorem SO.of {a b c d mn mx:Int}(m1:mn∈[a*c,a*d,b*c,b*d])(m2:∀y∈[a*c,a*d,b*c,b*d],mn<=y)(x1:mx∈[a*c,a*d,b*c,b*d])(x2:∀y∈[a*c,a*d,b*c,b*d],y<=mx):SO a b c d mn mx:=by
 simp only[zS,xG,or_false] at m1 x1;exact⟨m1,m2 _ (by simp),m2 _ (by simp),m2 _ (by simp),m2 _ (by simp),x1,x2 _ (by simp),x2 _ (by simp),x2 _ (by simp),x2 _ (by simp)⟩
structure VP (a b:Int)(n:Nat)(m M:Int):Prop where
 lo:m=a^n\/m=b^n\/(a<0/\0<b/\m=0)
 l1:m<=a^n
 l2:m<=b^n
 l3:a<0->0<b->m<=0
 hi:M=a^n\/M=b^n
 h1:a^n<=M
 h2:b^n<=M
theorem zpow (h:1<=n):(0:Int)^n=0:=by
 cases n with
 | zero=>lia
 | succ k=>rw[xH,Int.mul_zero]
theorem VP.of {a b g mn mx:Int}{n:Nat}(hg:1<=g){l:List Int}(hl:l=[a^n*g,b^n*g]/\¬ (a<0/\0<b)\/l=[a^n*g,b^n*g,0^n*g]/\a<0/\0<b)(hn:1<=n)(m1:mn∈l)(m2:∀y∈l,mn<=y)(x1:mx∈l)(x2:∀y∈l,y<=mx):
  ∃m M,VP a b n m M/\mn=m*g/\mx=M*g:=by
 have can:∀ {x y:Int},x*g<=y*g->x<=y:=λ{x y} h=>xI h (by omega)
 rcases hl with ⟨rfl,hz⟩|⟨rfl,hz1,hz2⟩
 .simp only[zS,xG,or_false] at m1 x1;have a1:=m2 (a^n*g) (by simp)
  have a2:=m2 (b^n*g) (by simp)
  have b1:=x2 (a^n*g) (by simp)
  have b2:=x2 (b^n*g) (by simp);obtain⟨m,hm,em⟩:∃m,(m=a^n\/m=b^n)/\mn=m*g:=by
   rcases m1 with e|e
   .exact⟨_,.inl rfl,e⟩
   .exact⟨_,.inr rfl,e⟩
  obtain⟨M,hM,eM⟩:∃m,(m=a^n\/m=b^n)/\mx=m*g:=by
   rcases x1 with e|e
   .exact⟨_,.inl rfl,e⟩
   .exact⟨_,.inr rfl,e⟩
  subst em eM;exact⟨m,M,⟨hm.elim .inl λe=>.inr (.inl e),can a1,can a2,λc1 c2=>absurd ⟨c1,c2⟩ hz,hM,can b1,can b2⟩,rfl,rfl⟩
 .rw[zpow hn,vJ] at m1 m2 x1 x2;simp only[zS,xG,or_false] at m1 x1;have a1:=m2 (a^n*g) (by simp)
  have a2:=m2 (b^n*g) (by simp)
  have a3:=m2 0 (by simp)
  have b1:=x2 (a^n*g) (by simp)
  have b2:=x2 (b^n*g) (by simp)
  have b3:=x2 0 (by simp);obtain⟨m,hm,em⟩:∃m,(m=a^n\/m=b^n\/m=0)/\mn=m*g:=by
   rcases m1 with e|e|e
   .exact⟨_,.inl rfl,e⟩
   .exact⟨_,.inr (.inl rfl),e⟩
   .exact⟨0,.inr (.inr rfl),by rw[e,vJ]⟩
  have bp:(0:Int)<=b^n:=Int.pow_nonneg (by omega)
  have bg:=xS bp (show 0<=g by omega);obtain⟨M,hM,eM⟩:∃m,(m=a^n\/m=b^n)/\mx=m*g:=by
   rcases x1 with e|e|e
   .exact⟨_,.inl rfl,e⟩
   .exact⟨_,.inr rfl,e⟩
   .exact⟨_,.inr rfl,by omega⟩
  subst em eM;refine⟨m,M,⟨?_,can a1,can a2,λ_ _=>can (by rw[vJ];exact a3),hM,can b1,can b2⟩,rfl,rfl⟩;rcases hm with e|e|e
  .exact .inl e
  .exact .inr (.inl e)
  .exact .inr (.inr ⟨hz1,hz2,e⟩)
theorem SE {m g:Int}{n:Nat}(hg:1<=g)(hn:1<=n):m*g/g^n=m/g^(n-1):=by
 obtain⟨k,rfl⟩:∃k,n=k+1:=⟨n-1,()⟩;rw[xH,Nat.add_sub_cancel,Int.mul_ediv_mul_of_pos_left _ _ ()]
def mn4 (a b c d:Int):Int:=min (min (a*c) (a*d)) (min (b*c) (b*d))
def mx4 (a b c d:Int):Int:=max (max (a*c) (a*d)) (max (b*c) (b*d))
theorem SO.eq {a b c d mn mx:Int}(h:SO a b c d mn mx):mn=mn4 a b c d/\mx=mx4 a b c d:=by
 obtain⟨h0,h1,h2,h3,h4,h5,h6,h7,h8,h9⟩:=h;unfold mn4 mx4;omega
def Y9 (a b:Int)(n:Nat):Int:=if n%2=0/\a<=0/\0<=b then 0 else min (a^n) (b^n)
def WI (a b:Int)(n:Nat):Int:=max (a^n) (b^n)
theorem N4 {n:Nat}(h:n%2=0)(x:Int):0<=x^n:=by
 obtain⟨k,rfl⟩:∃k,n=k+k:=⟨n/2,()⟩;rw[Int.pow_add];by_cases c:0<=x^k
 .exact xS c c
 .have:=xS (show 0<=-(x^k) by lia) (show 0<=-(x^k) by lia);rw[Int.neg_mul_neg] at this;exact this
theorem zii {n:Nat}(h:n%2=1){x:Int}(hx:x<0):x^n<0:=by
 obtain⟨k,rfl⟩:∃k,n=k+1:=⟨n-1,()⟩;have z:=N4 (n:=k) () x
 have nz:∀k:Nat,x^k≠0:=λk=>by
  induction k with
  | zero=>rw[vK];decide
  | succ k ih=>rw[xH];exact Int.mul_ne_zero ih ()
 have nz:=nz k
 have:=wQ (show 0<x^k by lia) (show 0 < -x by lia);rw[Int.mul_neg] at this;rw[xH];lia
theorem VP.eq {a b m M:Int}{n:Nat}(h:VP a b n m M)(hn:1<=n):m=Y9 a b n/\M=WI a b n:=by
 obtain⟨h0,h1,h2,h3,h4,h5,h6⟩:=h;refine⟨?_,by unfold WI;lia⟩;unfold Y9;split
 .rename_i c;obtain⟨c1,c2,c3⟩:=c;have e1:=N4 c1 a
  have e2:=N4 c1 b;by_cases z:a<0/\0<b
  .have:=h3 z.1 z.2;lia
  .have z':a=0\/b=0:=by lia
   rcases z' with rfl|rfl
   .rw[zpow hn] at h1;lia
   .rw[zpow hn] at h2;lia
 .rename_i c;have hz:a<0->0<b->m≠0:=λa1 b1 e=>by
   by_cases p:n%2=0
   .exact c ⟨p,(),()⟩
   .have:=zii (n:=n) () a1;lia
  lia
def Nd.fw (vs bs:LI)(g:Int):Nd->Int×Int
 | .number t b=>(t*g/b,-(-(t*g)/b))
 | .unknown k=>gt bs k
 | .plus i j=>((gt vs i).1+(gt vs j).1,(gt vs i).2+(gt vs j).2)
 | .minus i j=>((gt vs i).1-(gt vs j).2,(gt vs i).2-(gt vs j).1)
 | .times i j=>(mn4 (gt vs i).1 (gt vs i).2 (gt vs j).1 (gt vs j).2/g,-(-mx4 (gt vs i).1 (gt vs i).2 (gt vs j).1 (gt vs j).2/g))
 | .power i n=>(Y9 (gt vs i).1 (gt vs i).2 n.toNat/g^(n.toNat-1),-(-WI (gt vs i).1 (gt vs i).2 n.toNat/g^(n.toNat-1)))
def Spn (B:Nat)(vs:LI):Prop:=∀p∈vs,p.1<=p.2/\Sz B p.1/\Sz B p.2
theorem Spn.at {B:Nat}{vs:LI}(h:Spn B vs){i:Int}(hi:inR vs.length i):(gt vs i).1<=(gt vs i).2/\Sz B (gt vs i).1/\Sz B (gt vs i).2:=h _ (OH hi)
theorem Spn.mono {B C:Nat}{vs:LI}(h:Spn B vs)(hc:B<=C):Spn C vs:=λp hp=>⟨(h p hp).1,(h p hp).2.1.mono hc,(h p hp).2.2.mono hc⟩
theorem SH (hg:1<=g)(h:m<=M):m/g<=-(-M/g):=by
 have h1:=uH m (show g≠0 by lia)
 have h2:=uH (-M) (show g≠0 by lia)
 have:m/g*g<=-(-M/g)*g:=by rw[yY];lia
 exact xI this ()
theorem Hz (a b:Int)(n:Nat):Y9 a b n<=WI a b n:=by
 unfold Y9 WI;split
 .rename_i c;have:=N4 c.1 a;lia
 .lia
theorem Dy (a b c d:Int):mn4 a b c d<=mx4 a b c d:=by unfold mn4 mx4;lia
theorem Nd.fw_le (h1:Spn B vs)(h2:Spn B bs)(hg:1<=g):∀v:Nd,v.ok vs.length bs.length->(v.fw vs bs g).1<=(v.fw vs bs g).2
 | .number t b,ok=>SH ok.1.1 (zV _)
 | .unknown k,ok=>(h2.at ok).1
 | .plus i j,ok=>by
  have a:=(h1.at ok.1).1
  have b:=(h1.at ok.2).1
  show (gt vs i).1+(gt vs j).1<=(gt vs i).2+(gt vs j).2;lia
 | .minus i j,ok=>by
  have a:=(h1.at ok.1).1
  have b:=(h1.at ok.2).1
  show (gt vs i).1-(gt vs j).2<=(gt vs i).2-(gt vs j).1;lia
 | .times i j,ok=>SH hg (Dy _ _ _ _)
 | .power i n,ok=>SH (yI ()) (Hz _ _ _)
def UB (p q:Int×Int):Option (Int×Int):=if (if q.2<p.2 then q.2 else p.2)<(if q.1 > p.1 then q.1 else p.1) then none else some (if q.1 > p.1 then q.1 else p.1,if q.2<p.2 then q.2 else p.2)
theorem Ae {p q r:Int×Int}(h:UB p q=some r):r.1<=r.2:=by
 have go:∀lo hi:Int,(if hi<lo then none else some (lo,hi))=some r->r.1<=r.2:=λlo hi e=>by
  split at e
  .cases e
  .rename_i c;cases e;exact Int.not_lt.mp c
 exact go _ _ h
def ptD (q:Int×(Int×Int)):D:=.tup [.int q.1,.tup [.int q.2.1,.int q.2.2]]
theorem Yi {a b:TDS}{E:XY}{dl:Ev}{S:Sto}(W:Ev->Sto->Prop)(ha:∀nx:Ev->Sto->Prop,(∀dl' S',W dl' S'->nx dl' S')->a { nx:=nx,rt:=E.rt,bk:=E.bk,ct:=E.ct } dl S)(hb:∀dl' S',W dl' S'->b E dl' S'):Wt a b E dl S:=ha _ hb
theorem Kh {a b c:TDS}{E:XY}{dl:Ev}{S:Sto}(W:Ev->Sto->Prop)(ha:∀nx:Ev->Sto->Prop,(∀dl' S',W dl' S'->nx dl' S')->Wt a b { nx:=nx,rt:=E.rt,bk:=E.bk,ct:=E.ct } dl S)(hb:∀dl' S',W dl' S'->c E dl' S'):Wt a (Wt b c) E dl S:=ha _ hb
theorem Us (h:Sz n m)(hg:1<=g):Sz n (-(-m/g)):=(h.neg.div hg).neg
theorem Vj (ha:Sz n a)(hb:Sz n b):Sz n (min a b):=by unfold Sz at *;lia
theorem WT (ha:Sz n a)(hb:Sz n b):Sz n (max a b):=by unfold Sz at *;lia
theorem RY (vs:LI)(k:Nat)(p:Int×Int):(vs.map frD).set k (frD p)=(vs.set k p).map frD:=(vL).symm
theorem TV {n:Nat}{i:Int}(h:inR n i):ixN n i=some i.toNat:=by
 obtain⟨h0,h1⟩:=h;unfold ixN;split<;>first|lia|rfl|(split<;>first|lia|rfl)
def Nd.wt (ws:List Nat):Nd->Nat
 | .number _ _=>1
 | .unknown _=>1
 | .plus i j=>ws.getD i.toNat 0+ws.getD j.toNat 0
 | .minus i j=>ws.getD i.toNat 0+ws.getD j.toNat 0
 | .times i j=>ws.getD i.toNat 0+ws.getD j.toNat 0
 | .power i n=>n.toNat*ws.getD i.toNat 0
structure ZK (q:Int)(ns:List Nd)(ws:List Nat):Prop where
 len:ws.length=ns.length
 ok:∀(k:Nat)(v:Nd),ns[k]?=some v->v.ok k q/\ws.getD k 0=v.wt ws/\1<=v.wt ws/\v.wt ws<=16
theorem ZK.w1 {q:Int}{ns:List Nd}{ws:List Nat}(h:ZK q ns ws){i:Int}(hi:inR ns.length i):1<=ws.getD i.toNat 0/\ws.getD i.toNat 0<=16:=by
 obtain⟨h0,h1⟩:=hi;have hk:i.toNat<ns.length:=();obtain⟨_,e,a,b⟩:=h.ok i.toNat _ (zD hk);lia
theorem ZK.w2 {q:Int}{ns:List Nd}{ws:List Nat}(h:ZK q ns ws):∀v:Nd,v.ok ns.length q->1<=v.wt ws/\v.wt ws<=96
 | .number _ _,_=>⟨zC 1,show 1<=96 by decide⟩
 | .unknown _,_=>⟨zC 1,show 1<=96 by decide⟩
 | .plus i j,ok=>by have a:=h.w1 ok.1;have b:=h.w1 ok.2;simp only[Nd.wt];lia
 | .minus i j,ok=>by have a:=h.w1 ok.1;have b:=h.w1 ok.2;simp only[Nd.wt];lia
 | .times i j,ok=>by have a:=h.w1 ok.1;have b:=h.w1 ok.2;simp only[Nd.wt];lia
 | .power i n,ok=>by
  have a:=h.w1 ok.1
  have n2:=ok.2.1
  have n6:=ok.2.2
  have m1:=xW (show 1<=n.toNat by lia) a.1
  have m2:=xW (show n.toNat<=6 by lia) a.2;simp only[Nd.wt];lia
theorem DO (h:k<ws.length):(ws++[w]).getD k 0=ws.getD k 0:=by
 rw[zZ,zZ,zJ h]
theorem CV (hk:k<=ws.length):∀v:Nd,v.ok k q->v.wt (ws++[w])=v.wt ws:=by
 have e:∀i:Int,inR k i->(ws++[w]).getD i.toNat 0=ws.getD i.toNat 0:=λi hi=>DO (by have a:=hi.1;have b:=hi.2;lia)
 intro v ok;cases v with
 | number _ _=>rfl
 | unknown _=>rfl
 | plus i j=>show _+_=_+_;rw[e i ok.1,e j ok.2]
 | minus i j=>show _+_=_+_;rw[e i ok.1,e j ok.2]
 | times i j=>show _+_=_+_;rw[e i ok.1,e j ok.2]
 | power i n=>show _*_=_*_;rw[e i ok.1]
theorem ZK.snoc {q:Int}{ns:List Nd}{ws:List Nat}(h:ZK q ns ws){v:Nd}(ok:v.ok ns.length q)(h16:v.wt ws<=16):ZK q (ns++[v]) (ws++[v.wt ws]):=by
 refine⟨by simp[h.len],λk u hu=>?_⟩;by_cases hk:k<ns.length
 .rw[zJ hk] at hu;obtain⟨a,b,c,d⟩:=h.ok k u hu;have e:=CV (w:=v.wt ws) (q:=q) (k:=k) (by rw[h.len];lia) u a;rw[e,DO (by rw[h.len];exact hk)];exact⟨a,b,c,d⟩
 .have hl:=(zA.mp hu).1;simp only[zQ,zU,yZ] at hl;have ek:k=ns.length:=by lia
  subst ek;simp at hu;subst hu;have e:=CV (w:=v.wt ws) (q:=q) (k:=ns.length) (by rw[h.len];lia) v ok;rw[e];refine⟨ok,?_,(h.w2 v ok).1,h16⟩;rw[<- h.len];simp
theorem ZK.take {q:Int}{ns:List Nd}{ws:List Nat}(h:ZK q ns ws)(n:Nat):ZK q (ns.take n) (ws.take n):=by
 have e:∀k:Nat,k<n->(ws.take n).getD k 0=ws.getD k 0:=λk hk=>by
  rw[zZ,zZ,wH hk]
 refine⟨by simp[h.len],λk u hu=>?_⟩;have hl:=(zA.mp hu).1;rw[zM] at hl;have hk:k<n:=by lia
 rw[wH hk] at hu;obtain⟨a,b,c,d⟩:=h.ok k u hu;have e2:u.wt (ws.take n)=u.wt ws:=by
  have f:∀i:Int,inR k i->(ws.take n).getD i.toNat 0=ws.getD i.toNat 0:=λi hi=>e _ (by have:=hi.1;have:=hi.2;lia)
  cases u with
  | number _ _=>rfl
  | unknown _=>rfl
  | plus i j=>show _+_=_+_;rw[f i a.1,f j a.2]
  | minus i j=>show _+_=_+_;rw[f i a.1,f j a.2]
  | times i j=>show _+_=_+_;rw[f i a.1,f j a.2]
  | power i m=>show _*_=_*_;rw[f i a.1]
 rw[e2,e k hk];exact⟨a,b,c,d⟩
def ZA (bs:LI)(g:Int)(ns:List Nd):LI:=ns.foldl (λacc v=>acc++[v.fw acc bs g]) []
theorem PR (bs:LI)(g:Int)(ns:List Nd)(v:Nd):ZA bs g (ns++[v])=ZA bs g ns++[v.fw (ZA bs g ns) bs g]:=by
 unfold ZA;rw[xX];rfl
theorem Xg {α:Type}{xs:List α}{k:Nat}{x:α}(h:xs[k]?=some x):xs.take (k+1)=xs.take k++[x]:=by rw[xV,h];rfl
theorem Xi (bs:LI)(g:Int)(ns:List Nd):(ZA bs g ns).length=ns.length:=by
 have z:∀k,k<=ns.length->(ZA bs g (ns.take k)).length=k:=λk=>by
  induction k with
  | zero=>intro _;rfl
  | succ k ih=>
   intro hk;rw[Xg (zD (show k<ns.length by lia)),PR];simp[ih ()]
 have:=z ns.length (zC _)
 rwa [yJ] at this
theorem zf3 (bs:LI)(g:Int)(ns:List Nd)(k:Nat):k<=ns.length->(ZA bs g ns).take k=ZA bs g (ns.take k):=by
 have z:∀m,k<=m->m<=ns.length->(ZA bs g (ns.take m)).take k=ZA bs g (ns.take k):=λm=>by
  induction m with
  | zero=>
   intro h1 _;have:k=0:=by lia
   subst this;rfl
  | succ m ih=>
   intro h1 h2;by_cases e:k=m+1
   .subst e;rw[yQ (by rw[Xi,zM];lia)]
   .rw[Xg (zD (show m<ns.length by lia)),PR,vM (by rw[Xi,zM];lia)];exact ih () ()
 intro hk;have:=z ns.length hk (zC _)
 rwa [yJ] at this
def SzW (ws:List Nat)(vs:LI):Prop:=∀(k:Nat)(p:Int×Int),vs[k]?=some p->p.1<=p.2/\Sz (60*ws.getD k 0-1) p.1/\Sz (60*ws.getD k 0-1) p.2
theorem SzW.at {ws:List Nat}{vs:LI}(h:SzW ws vs){i:Int}(hi:inR vs.length i):(gt vs i).1<=(gt vs i).2/\Sz (60*ws.getD i.toNat 0-1) (gt vs i).1/\Sz (60*ws.getD i.toNat 0-1) (gt vs i).2:=by
 obtain⟨h0,h1⟩:=hi;have hk:i.toNat<vs.length:=by lia
 have e:gt vs i=vs[i.toNat]:=by simp[gt,hk]
 rw[e];exact h _ _ (zD hk)
theorem fw_w (hs:SzW ws vs)(hb:Spn 51 bs)(hg:1<=g/\g<=1000000)(hw:∀i:Int,inR vs.length i->1<=ws.getD i.toNat 0):∀v:Nd,v.ok vs.length bs.length->Sz (60*v.wt ws-1) (v.fw vs bs g).1/\Sz (60*v.wt ws-1) (v.fw vs bs g).2
 | .number t b,ok=>by
  have z:Sz 52 (t*g):=(Sz.of (n:=31) (10^9) ok.2.2).mul (Sz.of (n:=21) (10^6) (show g.natAbs<=_ by lia));exact⟨(z.div ok.1.1).mono (show 52<=60*1-1 by decide),(Us z ok.1.1).mono (show 52<=60*1-1 by decide)⟩
 | .unknown k,ok=>⟨(hb.at ok).2.1.mono (show 51<=60*1-1 by decide),(hb.at ok).2.2.mono (show 51<=60*1-1 by decide)⟩
 | .plus i j,ok=>by
  have a:=hs.at ok.1
  have b:=hs.at ok.2
  have p:=hw i ok.1
  have q:=hw j ok.2;exact⟨(a.2.1.add b.2.1).mono (by simp only[Nd.wt];lia),(a.2.2.add b.2.2).mono (by simp only[Nd.wt];lia)⟩
 | .minus i j,ok=>by
  have a:=hs.at ok.1
  have b:=hs.at ok.2
  have p:=hw i ok.1
  have q:=hw j ok.2;exact⟨(a.2.1.sub b.2.2).mono (by simp only[Nd.wt];lia),(a.2.2.sub b.2.1).mono (by simp only[Nd.wt];lia)⟩
 | .times i j,ok=>by
  have a:=hs.at ok.1
  have b:=hs.at ok.2
  have p:=hw i ok.1
  have q:=hw j ok.2
  have le:∀ {x y:Int},Sz (60*ws.getD i.toNat 0-1) x->Sz (60*ws.getD j.toNat 0-1) y->Sz (60*Nd.wt ws (.times i j)-1) (x*y):=λh1 h2=>(h1.mul h2).mono (by simp only[Nd.wt];lia)
  have l:=Vj (Vj (le a.2.1 b.2.1) (le a.2.1 b.2.2)) (Vj (le a.2.2 b.2.1) (le a.2.2 b.2.2))
  have u:=WT (WT (le a.2.1 b.2.1) (le a.2.1 b.2.2)) (WT (le a.2.2 b.2.1) (le a.2.2 b.2.2));exact⟨l.div hg.1,Us u hg.1⟩
 | .power i n,ok=>by
  have a:=hs.at ok.1
  have p:=hw i ok.1
  have n2:=ok.2.1
  have gp:(1:Int)<=g^(n.toNat-1):=yI ()
  have hn:(60*ws.getD i.toNat 0-1)*n.toNat+1<=60*Nd.wt ws (.power i n)-1:=by
   simp only[Nd.wt];rw[vN,Nat.one_mul];have e:60*ws.getD i.toNat 0*n.toNat=60*(n.toNat*ws.getD i.toNat 0):=by rw[vO,wK (ws.getD i.toNat 0)]
   have m1:=xW (zC n.toNat) p;lia
  have p1:Sz (60*Nd.wt ws (.power i n)-1) ((gt vs i).1^n.toNat):=(a.2.1.pow _).mono hn
  have p2:Sz (60*Nd.wt ws (.power i n)-1) ((gt vs i).2^n.toNat):=(a.2.2.pow _).mono hn
  have l:Sz (60*Nd.wt ws (.power i n)-1) (Y9 (gt vs i).1 (gt vs i).2 n.toNat):=by
   unfold Y9;split
   .exact(Sz.of (n:=1) 0 ⋯).mono (by have:=xW (show 1<=n.toNat by lia) p;simp only[Nd.wt];lia)
   .exact Vj p1 p2
  exact⟨l.div gp,Us (WT p1 p2) gp⟩
theorem Spn.of_w {ws:List Nat}{vs:LI}(h:SzW ws vs)(hw:∀k:Nat,k<vs.length->ws.getD k 0<=16):Spn 1000 vs:=λp hp=>by
 obtain⟨k,hk,e⟩:=yO.mp hp;obtain⟨a,b,c⟩:=h k p (by rw[zD hk,e]);have:=hw k hk;exact⟨a,b.mono (),c.mono ()⟩
theorem CB {q:Int}{ns:List Nd}{ws:List Nat}{bs:LI}{g:Int}(h:ZK q ns ws)(hq:q=bs.length)(hb:Spn 51 bs)(hg:1<=g/\g<=1000000):∀k,k<=ns.length->SzW ws (ZA bs g (ns.take k)):=λk=>by
 induction k with
 | zero=>intro _ i p hp;simp[ZA] at hp
 | succ k ih=>
  intro hk;have hv:=zD (show k<ns.length by lia)
  have s:=ih ()
  have ln:(ZA bs g (ns.take k)).length=k:=by rw[Xi,zM];lia
  obtain⟨ok,e,_,_⟩:=h.ok k _ hv;rw[Xg hv,PR];have okv:(ns[k]).ok (ZA bs g (ns.take k)).length bs.length:=by rw[ln,<- hq];exact ok
  have w1:∀i:Int,inR (ZA bs g (ns.take k)).length i->1<=ws.getD i.toNat 0:=λi hi=>(h.w1 (i:=i) (by rw[ln] at hi;exact⟨hi.1,by have:=hi.2;lia⟩)).1
  have z:=fw_w s hb hg w1 ns[k] okv
  have l:((ns[k]).fw (ZA bs g (ns.take k)) bs g).1<=((ns[k]).fw (ZA bs g (ns.take k)) bs g).2:=by
   refine Nd.fw_le (B:=6000) ?_ (hb.mono ⋯) hg.1 _ okv;intro p hp;obtain⟨i,hi,ei⟩:=yO.mp hp;obtain⟨a,b,c⟩:=s i p (by rw[zD hi,ei]);have:=(h.w1 (i:=i) ⟨(),by rw[ln] at hi;lia⟩).2;rw[zL] at this;exact⟨a,b.mono (),c.mono ()⟩
  intro i p hp;by_cases hi:i<k
  .rw[zJ (by rw[ln];exact hi)] at hp;exact s i p hp
  .have hl:=(zA.mp hp).1;simp only[zQ,zU,yZ,ln] at hl;have ei:i=k:=by lia
   subst ei;rw[yC (by rw[ln];exact zC _),ln,xY] at hp;simp at hp;subst hp;rw[e];exact⟨l,z⟩
theorem KZ {q:Int}{ns:List Nd}{ws:List Nat}{bs:LI}{g:Int}(h:ZK q ns ws)(hq:q=bs.length)(hb:Spn 51 bs)(hg:1<=g/\g<=1000000)(k:Nat)(hk:k<=ns.length):Spn 1000 (ZA bs g (ns.take k)):=
 Spn.of_w (CB h hq hb hg k hk) λi hi=>by
  rw[Xi,zM] at hi;have:=(h.w1 (i:=i) ⟨(),()⟩).2
  rwa [zL] at this
theorem YN (h:Pre S T)(hn:S.length<=n):Pre S (T.set n o):=λk u e=>by
 have hk:=(zA.mp e).1;rw[zT ()];exact h k u e
theorem Xq (h:Pre S T)(U:Sto):Pre S (T++U):=λk u e=>Zt (h k u e)
theorem zfR {to te:TDE}{dl:Ev}{S S1 S2:Sto}{Q:DK}{n:Nat}{xs:List D}{y:D}(hto:∀K:DK,K (.ref n) S1->to dl S K)(h:S1[n]?=some (.lst xs))(hte:∀K:DK,K y S2->te dl S1 K)(h2:S2[n]?=some (.lst xs))(hl:xs.length<1000)(hq:Q .non (S2.set n (.lst (xs++[y])))):W4 to te dl S Q:=by
 unfold W4;refine hto _ ?_;simp only[h];refine hte _ ?_;simp only[h2,if_pos hl];exact hq
theorem Iy (u v:Nd):∃b,eqN 1 u.d v.d=some b:=by cases u<;>cases v<;>exact⟨_,rfl⟩
theorem zfu (u:Nd):eqN 1 u.d u.d=some true:=by cases u<;>simp[Nd.d,eqN,L3.eqT,eqL,eqF]
theorem MP (v:Nd):∀ns:List Nd,∃b,Xf (eqN 1) (ns.map Nd.d) v.d=some b
 | []=>⟨false,rfl⟩
 | u::us=>by
  obtain⟨b,e⟩:=Iy u v;obtain⟨c,e2⟩:=MP v us;refine⟨b||c,?_⟩;show (match eqN 1 u.d v.d,Xf (eqN 1) (us.map Nd.d) v.d with|some b,some c=>some (b||c)|_,_=>none)=_;rw[e,e2]
theorem zey {v:Nd}{ns:List Nd}{n:Nat}{S:Sto}{Q:DK}(h:S[n]?=some (.lst (ns.map Nd.d)))(hq:∀b:Bool,Q (.bl b) S):Y7 (wIn 1 true) v.d (.ref n) S Q:=by
 obtain⟨b,e⟩:=MP v ns;rw[Wx];unfold wIn;simp only[ZM h rfl,Zm,e];exact hq _
def wtD (w:Nat):D:=.int (w:Int)
theorem V9 {ws:List Nat}{i:Int}(h:inR ws.length i):atI (ws.map wtD) i=some (.int ((ws.getD i.toNat 0:Nat):Int)):=by
 obtain⟨h0,h1⟩:=h;have hk:i.toNat<ws.length:=by lia
 have z:=Z6 (xs:=ws.map wtD) (j:=i.toNat) (v:=wtD (ws.getD i.toNat 0)) (by rw[zF,zD hk];simp[hk]);rw[show ((i.toNat:Nat):Int)=i by lia] at z;exact z
theorem zdx (q:Nat):ZK q ((List.range q).map λ(k:Nat)=>Nd.unknown (k:Int)) ((List.range q).map λ_=>1):=by
 refine⟨by simp,λk v hv=>?_⟩;have hl:=(zA.mp hv).1;simp only[zB,List.length_range] at hl;rw[zF,wR hl] at hv;cases hv;refine⟨⟨(),()⟩,?_,zC _,show 1<=16 by decide⟩;simp[Nd.wt,hl]
theorem zaB {u v:Nd}(h:eqN 1 u.d v.d=some true):u=v:=by
 cases u<;>cases v<;>simp[Nd.d,eqN,L3.eqT,eqL,eqF] at h
 all_goals first|(obtain⟨rfl,rfl⟩:=h;rfl)|(subst h;rfl)|exact absurd h.1 ⋯
theorem Lx (v:Nd):∀ns:List Nd,∃o:Option Nat,XB (eqN 1) (ns.map Nd.d) v.d=some o/\Xf (eqN 1) (ns.map Nd.d) v.d=some o.isSome/\∀j,o=some j->ns[j]?=some v
 | []=>⟨none,rfl,rfl,λj h=>by cases h⟩
 | u::us=>by
  obtain⟨b,e⟩:=Iy u v;obtain⟨o,h1,h2,h3⟩:=Lx v us;have f1:XB (eqN 1) ((u::us).map Nd.d) v.d=(match eqN 1 u.d v.d,XB (eqN 1) (us.map Nd.d) v.d with|some true,some _=>some (some 0)|some false,some o=>some (o.map (·+1))|_,_=>none):=rfl
  have f2:Xf (eqN 1) ((u::us).map Nd.d) v.d=(match eqN 1 u.d v.d,Xf (eqN 1) (us.map Nd.d) v.d with|some b,some c=>some (b||c)|_,_=>none):=rfl;rw[f1,f2,e,h1,h2];cases b with
  | true=>exact⟨some 0,rfl,rfl,λj hj=>by
    cases hj;rw[zaB e];rfl⟩
  | false=>exact⟨o.map (·+1),rfl,by cases o<;>rfl,λj hj=>by
    cases o with
    | none=>cases hj
    | some i=>
     cases hj;exact h3 i rfl⟩
theorem CK {v:Nd}{ns:List Nd}{n j:Nat}{to:TDE}{t:TDA}{dl:Ev}{S:Sto}{Q:DK}(hto:∀K:DK,K (.ref n) S->to dl S K)(ht:∀K:List D->Sto->Prop,K [v.d] S->t dl S K)(h:S[n]?=some (.lst (ns.map Nd.d)))(e:XB (eqN 1) (ns.map Nd.d) v.d=some (some j))(hq:Q (.int (j:Int)) S):U2 1 to t dl S Q:=by
 unfold U2;refine hto _ ⟨by rw[ZM h rfl];rfl,ht _ ?_⟩;unfold Rw;simp only[ZM h rfl,Zm,e];exact hq
theorem TL {caps:List Nat}{ta:TDA}{te:TDE}{dl:Ev}{S S1:Sto}{Q:DK}{n n':Nat}{xs ys:List D}(g:D->D->D)(hta:∀K:List D->Sto->Prop,K [.ref n,.ref n'] S1->ta dl S K)(h1:S1[n]?=some (.lst xs))(h2:S1[n']?=some (.lst ys))(hl:xs.length<=1000)
  (ht:∀(k:Nat)(x y:D),xs[k]?=some x->ys[k]?=some y->∀(S2:Sto)(K:DK),Pre S1 S2->K (g x y) S2->te (some x::some y::Z8 caps dl) S2 K)(hq:Q (.ref S1.length) (S1++[.lst (List.zipWith g xs ys)])):Tb caps ta te dl S Q:=by
 unfold Tb;refine hta _ ⟨⟨by rw[ZM h1 rfl];rfl,by rw[ZM h2 rfl];rfl⟩,λk m S2=>S2=S1++[.lst (List.zipWith g (xs.take k) (ys.take k))]/\m+k=min xs.length ys.length,⟨min xs.length ys.length,by simp,()⟩,?_⟩;rintro k m S2 ⟨rfl,hm⟩;rw[ZM (Vl h1) rfl,ZM (Vl h2) rfl];dsimp only[Zm];split
 .rename_i x y hx hy;have hk:k<xs.length:=(zA.mp hx).1
  have hk':k<ys.length:=(zA.mp hy).1;unfold E5;refine ht k x y hx hy _ _ Pre.refl.push ?_;rw[Zq];refine⟨by simp;lia,m-1,(),?_,()⟩;have e:xs.take (k+1)=xs.take k++[x]:=by rw[xV,hx];rfl
  have e':ys.take (k+1)=ys.take k++[y]:=by rw[xV,hy];rfl
  rw[e,e',List.zipWith_append (by rw[zM,zM];lia),VF];rfl
 .rename_i no;have hk:min xs.length ys.length<=k:=by
   by_cases l:k<min xs.length ys.length
   .exact absurd (zD (l:=ys) (i:=k) ()) (no _ _ (zD (l:=xs) (i:=k) ()))
   .lia
  refine⟨(),?_⟩;have e:List.zipWith g (xs.take k) (ys.take k)=List.zipWith g xs ys:=by
   rw[<- uI,yQ (by rw[wU];exact hk)]
  rw[e];exact hq
theorem zav (h:k<=m):∀ {v:Nd},v.ok k q->v.ok m q:=λ{v} ok=>by
 have z:∀i:Int,inR k i->inR m i:=λi hi=>⟨hi.1,by have:=hi.2;lia⟩
 cases v with
 | number _ _=>exact ok
 | unknown _=>exact ok
 | plus i j=>exact⟨z _ ok.1,z _ ok.2⟩
 | minus i j=>exact⟨z _ ok.1,z _ ok.2⟩
 | times i j=>exact⟨z _ ok.1,z _ ok.2⟩
 | power i n=>exact⟨z _ ok.1,ok.2⟩
theorem zjg {vs:LI}{k:Nat}{i:Int}(h:inR k i):gt (vs.take k) i=gt vs i:=by
 have:=h.1
 have:=h.2;unfold gt;rw[zZ,zZ,wH ()]
theorem BV {vs us:LI}{k:Nat}{i:Int}(h:inR k i)(hk:k<=vs.length):gt (vs++us) i=gt vs i:=by
 have:=h.1
 have:=h.2;unfold gt;rw[zZ,zZ,zJ ()]
theorem gt_at {vs:LI}{k:Nat}{p:Int×Int}(h:vs[k]?=some p):gt vs (k:Int)=p:=by
 unfold gt;rw[zZ,zL,h];rfl
theorem Sz.pow' (h:Sz n i)(hk:1<=k):Sz (n*k) (i^k):=by
 unfold Sz at *
 rw[vG,Nat.pow_mul];exact Nat.pow_lt_pow_left h ()
theorem SzW.spn (h:SzW ws vs)(hw:∀k:Nat,k<vs.length->ws.getD k 0<=16):Spn 1000 vs:=Spn.of_w h hw
theorem zde {vs:LI}{p:Int×Int}{k:Nat}(h:vs.length=k):gt (vs++[p]) (k:Int)=p:=by
 subst h;simp[gt]
def Pz (B:Nat)(vs:LI):Prop:=∀p∈vs,1<=p.2/\Sz B p.1/\Sz B p.2
theorem Pz.at {B:Nat}{vs:LI}(h:Pz B vs){i:Int}(hi:inR vs.length i):1<=(gt vs i).2/\Sz B (gt vs i).1/\Sz B (gt vs i).2:=h _ (OH hi)
def Nd.due (vs ps:LI):Nd->Int×Int
 | .number t b=>(t,b)
 | .unknown k=>gt ps k
 | .plus i j=>((gt vs i).1*(gt vs j).2+(gt vs j).1*(gt vs i).2,(gt vs i).2*(gt vs j).2)
 | .minus i j=>((gt vs i).1*(gt vs j).2-(gt vs j).1*(gt vs i).2,(gt vs i).2*(gt vs j).2)
 | .times i j=>((gt vs i).1*(gt vs j).1,(gt vs i).2*(gt vs j).2)
 | .power i n=>((gt vs i).1^n.toNat,(gt vs i).2^n.toNat)
def PzW (ws:List Nat)(vs:LI):Prop:=∀(k:Nat)(p:Int×Int),vs[k]?=some p->1<=p.2/\Sz (112*ws.getD k 0-2) p.1/\Sz (112*ws.getD k 0-2) p.2
theorem PzW.at {ws:List Nat}{vs:LI}(h:PzW ws vs){i:Int}(hi:inR vs.length i):1<=(gt vs i).2/\Sz (112*ws.getD i.toNat 0-2) (gt vs i).1/\Sz (112*ws.getD i.toNat 0-2) (gt vs i).2:=by
 obtain⟨h0,h1⟩:=hi;have hk:i.toNat<vs.length:=by lia
 have e:gt vs i=vs[i.toNat]:=by simp[gt,hk]
 rw[e];exact h _ _ (zD hk)
theorem due_w (hs:PzW ws vs)(hp:Pz 110 ps)(hw:∀i:Int,inR vs.length i->1<=ws.getD i.toNat 0):∀v:Nd,v.ok vs.length ps.length->1<=(v.due vs ps).2/\Sz (112*v.wt ws-2) (v.due vs ps).1/\Sz (112*v.wt ws-2) (v.due vs ps).2
 | .number t b,ok=>⟨ok.1.1,(Sz.of (n:=31) (10^9) ok.2.2).mono (show 31<=112*1-2 by decide),(Sz.of (n:=31) (10^9) (by have:=ok.1;show b.natAbs<=_;lia)).mono (show 31<=112*1-2 by decide)⟩
 | .unknown k,ok=>⟨(hp.at ok).1,(hp.at ok).2.1.mono (show 110<=112*1-2 by decide),(hp.at ok).2.2.mono (show 110<=112*1-2 by decide)⟩
 | .plus i j,ok=>by
  have a:=hs.at ok.1
  have b:=hs.at ok.2
  have p:=hw i ok.1
  have q:=hw j ok.2;exact⟨wQ (show 0<_ by lia) (show 0<_ by lia),((a.2.1.mul b.2.2).add (b.2.1.mul a.2.2)).mono (by simp only[Nd.wt];lia),(a.2.2.mul b.2.2).mono (by simp only[Nd.wt];lia)⟩
 | .minus i j,ok=>by
  have a:=hs.at ok.1
  have b:=hs.at ok.2
  have p:=hw i ok.1
  have q:=hw j ok.2;exact⟨wQ (show 0<_ by lia) (show 0<_ by lia),((a.2.1.mul b.2.2).sub (b.2.1.mul a.2.2)).mono (by simp only[Nd.wt];lia),(a.2.2.mul b.2.2).mono (by simp only[Nd.wt];lia)⟩
 | .times i j,ok=>by
  have a:=hs.at ok.1
  have b:=hs.at ok.2
  have p:=hw i ok.1
  have q:=hw j ok.2;exact⟨wQ (show 0<_ by lia) (show 0<_ by lia),(a.2.1.mul b.2.1).mono (by simp only[Nd.wt];lia),(a.2.2.mul b.2.2).mono (by simp only[Nd.wt];lia)⟩
 | .power i n,ok=>by
  have a:=hs.at ok.1
  have p:=hw i ok.1
  have n2:=ok.2.1
  have hn:(112*ws.getD i.toNat 0-2)*n.toNat+1<=112*Nd.wt ws (.power i n)-2:=by
   simp only[Nd.wt];rw[vN];have e:112*ws.getD i.toNat 0*n.toNat=112*(n.toNat*ws.getD i.toNat 0):=by rw[vO,wK (ws.getD i.toNat 0)]
   have m1:=xW (zC n.toNat) p;lia
  exact⟨yI (show 0<_ by lia),(a.2.1.pow _).mono hn,(a.2.2.pow _).mono hn⟩
def ZG (ps:LI)(ns:List Nd):LI:=ns.foldl (λacc v=>acc++[v.due acc ps]) []
theorem Q5 (ps:LI)(ns:List Nd)(v:Nd):ZG ps (ns++[v])=ZG ps ns++[v.due (ZG ps ns) ps]:=by
 unfold ZG;rw[xX];rfl
theorem Qm (ps:LI)(ns:List Nd):(ZG ps ns).length=ns.length:=by
 have z:∀k,k<=ns.length->(ZG ps (ns.take k)).length=k:=λk=>by
  induction k with
  | zero=>intro _;rfl
  | succ k ih=>
   intro hk;rw[Xg (zD (show k<ns.length by lia)),Q5];simp[ih ()]
 have y:=z ns.length (zC _)
 rwa [yJ] at y
theorem zjj (h:PzW ws vs)(lk:vs.length=k)(hp:1<=p.2/\Sz (112*ws.getD k 0-2) p.1/\Sz (112*ws.getD k 0-2) p.2):PzW ws (vs++[p]):=λi q hq=>by
 by_cases hi:i<k
 .rw[zJ ()] at hq;exact h i q hq
 .have hl:=(zA.mp hq).1;simp only[zQ,zU,yZ,lk] at hl;have ei:i=k:=by lia
  subst ei;rw[yC (),lk,xY] at hq;simp at hq;subst hq;exact hp
theorem zaU {q:Int}{ns:List Nd}{ws:List Nat}(h:ZK q ns ws){k:Nat}{vs:LI}(hk:k<=ns.length)(lv:vs.length=k):∀i:Int,inR vs.length i->1<=ws.getD i.toNat 0:=λi hi=>(h.w1 (i:=i) ⟨hi.1,by have:=hi.2;lia⟩).1
theorem F0 {q:Int}{ns:List Nd}{ws:List Nat}{ps:LI}(h:ZK q ns ws)(hq:q=ps.length)(hp:Pz 110 ps):∀k,k<=ns.length->PzW ws (ZG ps (ns.take k)):=by
 intro k
 induction k with
 | zero=>intro _ i p hp;simp[ZG] at hp
 | succ k ih=>
  intro hk;have hv:=zD (show k<ns.length by lia)
  have s:=ih ()
  have ln:(ZG ps (ns.take k)).length=k:=by rw[Qm,zM];lia
  obtain⟨ok,e,_,_⟩:=h.ok k _ hv;rw[Xg hv,Q5];refine zjj s ln ?_;rw[e];exact due_w s hp (zaU h () ln) _ (by rw[ln,<- hq];exact ok)
theorem Pz.of_w {ws:List Nat}{vs:LI}(h:PzW ws vs)(hw:∀k:Nat,k<vs.length->ws.getD k 0<=16):Pz 1800 vs:=λp hp=>by
 obtain⟨k,hk,e⟩:=yO.mp hp;obtain⟨a,b,c⟩:=h k p (by rw[zD hk,e]);have:=hw k hk;exact⟨a,b.mono (),c.mono ()⟩
theorem zfS {v:Nd}{ns:List Nd}{n:Nat}{S:Sto}{Q:DK}{o:Option Nat}(h:S[n]?=some (.lst (ns.map Nd.d)))(e:Xf (eqN 1) (ns.map Nd.d) v.d=some o.isSome)(hq:Q (.bl (!o.isSome)) S):Y7 (wIn 1 true) v.d (.ref n) S Q:=by
 rw[Wx];unfold wIn;simp only[ZM h rfl,Zm,e];exact hq
theorem any_some:∀ {ns:List Nd} {k:Nat},ns[k]?=some v->Xf (eqN 1) (ns.map Nd.d) v.d≠some (none:Option Nat).isSome
 | [],k,h=>by simp at h
 | u::us,0,h=>by
  have e:u=v:=by simpa using h
  subst e;show (match eqN 1 u.d u.d,Xf (eqN 1) (us.map Nd.d) u.d with|some b,some c=>some (b||c)|_,_=>none)≠_;obtain⟨c,hc⟩:=MP u us;rw[zfu,hc];simp
 | u::us,k+1,h=>by
  have ih:=any_some (ns:=us) (k:=k) (by simpa using h)
  show (match eqN 1 u.d v.d,Xf (eqN 1) (us.map Nd.d) v.d with|some b,some c=>some (b||c)|_,_=>none)≠_;obtain⟨b,hb⟩:=Iy u v;obtain⟨c,hc⟩:=MP v us;rw[hc] at ih;rw[hb,hc];cases c
  .exact absurd rfl ih
  .simp
theorem FP {vs us ps:LI}{k:Nat}{q:Int}(h:∀i:Int,inR k i->gt vs i=gt us i):∀v:Nd,v.ok k q->v.due vs ps=v.due us ps
 | .number _ _,_=>rfl
 | .unknown _,_=>rfl
 | .plus i j,ok=>by simp only[Nd.due,h i ok.1,h j ok.2]
 | .minus i j,ok=>by simp only[Nd.due,h i ok.1,h j ok.2]
 | .times i j,ok=>by simp only[Nd.due,h i ok.1,h j ok.2]
 | .power i n,ok=>by simp only[Nd.due,h i ok.1]
theorem FQ (P:LI)(ns:List Nd):∀ms:List Nd,∃r,ZG P (ns++ms)=ZG P ns++r
 | []=>⟨[],by rw[xD,xD]⟩
 | v::ms=>by
  obtain⟨r,e⟩:=FQ P (ns++[v]) ms;rw[yV] at e;refine⟨v.due (ZG P ns) P::r,?_⟩;rw[show ns++v::ms=ns++([v]++ms) from rfl,e,Q5,yV];rfl
theorem IP {P:LI}{ns ms:List Nd}{i:Int}(h:inR ns.length i):gt (ZG P (ns++ms)) i=gt (ZG P ns) i:=by
 obtain⟨r,e⟩:=FQ P ns ms;rw[e];exact BV (k:=ns.length) h (by rw[Qm];exact zC _)
theorem zbm {P:LI}{ns:List Nd}{ws:List Nat}{q:Int}{j:Nat}{v:Nd}(net:ZK q ns ws)(h:ns[j]?=some v):gt (ZG P ns) (j:Int)=v.due (ZG P ns) P:=by
 have hj:=(zA.mp h).1
 have e:ns=ns.take (j+1)++ns.drop (j+1):=(wX _ _).symm
 have e2:ns=ns.take j++ns.drop j:=(wX _ _).symm
 have l:(ns.take (j+1)).length=j+1:=by rw[zM];lia
 have lj:(ns.take j).length=j:=by rw[zM];lia
 have g1:gt (ZG P ns) (j:Int)=gt (ZG P (ns.take (j+1))) (j:Int):=by
  have z:=IP (P:=P) (ns:=ns.take (j+1)) (ms:=ns.drop (j+1)) (i:=(j:Int)) ⟨(),by rw[l];lia⟩;rw[<- e] at z;exact z
 rw[g1,Xg h,Q5,zde (by rw[Qm,lj])];refine FP (k:=j) (q:=q) (λi hi=>?_) v (net.ok j v h).1;have z:=IP (P:=P) (ns:=ns.take j) (ms:=ns.drop j) (i:=i) (by rw[lj];exact hi);rw[<- e2] at z;exact z.symm
theorem zdV {ws us:List Nat}{i:Nat}(h:i<ws.length):(ws++us).getD i 0=ws.getD i 0:=by rw[zZ,zZ,zJ h]
structure Gr (q a c:Nat)(S:Sto)(ns:List Nd)(ws:List Nat)(T:Sto)(ns':List Nd)(ws':List Nat):Prop where
 net:ZK q ns' ws'
 pn:∃ms,ns'=ns++ms/\ms.length<=c
 pw:∃us,ws'=ws++us
 nd:T[a]?=some (.lst (ns'.map Nd.d))
 len:S.length<=T.length
 kp:∀(x:Nat)(o:Ob),x≠a->S[x]?=some o->T[x]?=some o
theorem Gr.refl {q a:Nat}{S:Sto}{ns:List Nd}{ws:List Nat}(net:ZK q ns ws)(h:S[a]?=some (.lst (ns.map Nd.d))):Gr q a 0 S ns ws S ns ws:=⟨net,⟨[],by simp,by simp⟩,⟨[],by simp⟩,h,zC _,λ_ _ _ e=>e⟩
theorem Gr.trans {q a c d:Nat}{S T U:Sto}{ns ns' ns2:List Nd}{ws ws' ws2:List Nat}(h:Gr q a c S ns ws T ns' ws')(k:Gr q a d T ns' ws' U ns2 ws2):Gr q a (c+d) S ns ws U ns2 ws2:=by
 obtain⟨n1,⟨ms,rfl,l1⟩,⟨us,rfl⟩,a1,e1,k1⟩:=h;obtain⟨n2,⟨ms2,rfl,l2⟩,⟨us2,rfl⟩,a2,e2,k2⟩:=k;exact⟨n2,⟨ms++ms2,by rw[yV],by rw[zQ];lia⟩,⟨us++us2,by rw[yV]⟩,a2,(),λx o hx e=>k2 x o hx (k1 x o hx e)⟩
theorem Gr.mono {q a c d:Nat}{S T:Sto}{ns ns':List Nd}{ws ws':List Nat}(h:Gr q a c S ns ws T ns' ws')(l:c<=d):Gr q a d S ns ws T ns' ws':=by
 obtain⟨n1,⟨ms,e,l1⟩,u,a1,e1,k1⟩:=h;exact⟨n1,⟨ms,e,()⟩,u,a1,e1,k1⟩
theorem Gr.ln {q a c:Nat}{S T:Sto}{ns ns':List Nd}{ws ws':List Nat}(h:Gr q a c S ns ws T ns' ws'):ns.length<=ns'.length/\ns'.length<=ns.length+c:=by
 obtain⟨n1,⟨ms,rfl,l1⟩,_⟩:=h;rw[zQ];lia
theorem Gr.wt {q a c:Nat}{S T:Sto}{ns ns':List Nd}{ws ws':List Nat}(h:Gr q a c S ns ws T ns' ws')(net:ZK q ns ws){i:Nat}(hi:i<ns.length):ws'.getD i 0=ws.getD i 0:=by
 obtain⟨us,rfl⟩:=h.pw;exact zdV (by rw[net.len];exact hi)
theorem Gr.due {q a c:Nat}{S T:Sto}{ns ns':List Nd}{ws ws':List Nat}(h:Gr q a c S ns ws T ns' ws')(P:LI){i:Nat}(hi:i<ns.length):gt (ZG P ns') (i:Int)=gt (ZG P ns) (i:Int):=by
 obtain⟨ms,rfl,_⟩:=h.pn;exact IP ⟨(),()⟩
theorem Gr.put {q a c n:Nat}{S T:Sto}{ns ns':List Nd}{ws ws':List Nat}{o:Ob}(h:Gr q a c S ns ws T ns' ws')(ha:n≠a)(hn:S.length<=n):Gr q a c S ns ws (T.set n o) ns' ws':=by
 obtain⟨n1,pn,pw,a1,e1,k1⟩:=h;refine⟨n1,pn,pw,Z4 a1 ha,by rw[yD];exact e1,λx u hx e=>Z4 (k1 x u hx e) ?_⟩;have:=ZV e;lia
theorem Gr.push {q a:Nat}{S:Sto}{ns:List Nd}{ws:List Nat}(net:ZK q ns ws)(h:S[a]?=some (.lst (ns.map Nd.d)))(U:Sto):Gr q a 0 S ns ws (S++U) ns ws:=⟨net,⟨[],by simp,by simp⟩,⟨[],by simp⟩,Zt h,by simp,λ_ _ _ e=>Zt e⟩
structure Zr (P:LI)(ns:List Nd)(ws:List Nat)(w i:Nat):Prop where
 lt:i<ns.length
 wt:ws.getD i 0<=w
 due:(gt (ZG P ns) (i:Int)).1=0
theorem zd8 {q a c:Nat}{S T:Sto}{ns ns':List Nd}{ws ws':List Nat}(h:Gr q a c S ns ws T ns' ws')(net:ZK q ns ws){v:Nd}(ok:v.ok ns.length q):v.wt ws'=v.wt ws:=by
 have z:∀i:Int,inR (ns.length:Nat) i->ws'.getD i.toNat 0=ws.getD i.toNat 0:=λi hi=>by
  have h0:=hi.1
  have h1:=hi.2;exact h.wt net ()
 cases v with
 | number _ _=>rfl
 | unknown _=>rfl
 | plus i j=>show ws'.getD i.toNat 0+ws'.getD j.toNat 0=ws.getD i.toNat 0+ws.getD j.toNat 0;rw[z i ok.1,z j ok.2]
 | minus i j=>show ws'.getD i.toNat 0+ws'.getD j.toNat 0=ws.getD i.toNat 0+ws.getD j.toNat 0;rw[z i ok.1,z j ok.2]
 | times i j=>show ws'.getD i.toNat 0+ws'.getD j.toNat 0=ws.getD i.toNat 0+ws.getD j.toNat 0;rw[z i ok.1,z j ok.2]
 | power i n=>show n.toNat*ws'.getD i.toNat 0=n.toNat*ws.getD i.toNat 0;rw[z i ok.1]
theorem Aa {q a c j:Nat}{S T:Sto}{ns ns':List Nd}{ws ws':List Nat}(h:Gr q a c S ns ws T ns' ws'){v:Nd}(ok:v.ok ns.length q)(hj:ns'[j]?=some v)(P:LI):gt (ZG P ns') (j:Int)=v.due (ZG P ns) P:=by
 rw[zbm (P:=P) h.net hj];refine FP (k:=ns.length) (q:=q) (λi hi=>?_) v ok;have h0:=hi.1
 have h1:=hi.2
 have z:=h.due P (i:=i.toNat) ();rw[show ((i.toNat:Nat):Int)=i by lia] at z;exact z
structure Tight (x0 x1:Int)(V Sp:Int->Int->Prop)(L U:Int):Prop where
 all:∀p q,0<q->x0*q<=p->p<=x1*q->V p q->L*q<=p/\p<=U*q
 lo:∃p q,Sp p q/\0<q/\x0*q<=p/\p<=x1*q/\V p q/\p<(L+1)*q
 hi:∃p q,Sp p q/\0<q/\x0*q<=p/\p<=x1*q/\V p q/\(U-1)*q<p
theorem dl (m:Int){g:Int}(hg:0<g):m/g*g<=m/\m<(m/g+1)*g:=by
 have h1:=vF m g
 have h2:=wM m (show g≠0 by lia)
 have h3:=vD m hg
 have e:(m/g+1)*g=g*(m/g)+g:=by grind
 have e2:m/g*g=g*(m/g):=yX _ _;lia
theorem can {a b c:Int}(h:a*c<=b*c)(hc:0<c):a<=b:=xI h hc
structure Low (x0 x1 lo hi lb hb L:Int):Prop where
 all:∀p q,0<q->x0*q<=p->lo*q<=p*lb->L*q<=p
 ex:∃p q,(p=x0/\q=1\/p=lo/\q=lb)/\0<q/\x0*q<=p/\p<=x1*q/\(lo*q<=p*lb/\p*hb<=hi*q)/\p<(L+1)*q
structure Side (lo hi x0 x1 c d:Int):Prop where
 hz:lo<=hi
 hx:x0<=x1
 h0:0<=c
 hcd:c<=d
 hd:0<d
section
variable {lo hi x0 x1 c d:Int}
end
abbrev mx0 (a:Int):Int:=if 0 > a then 0 else a
section
variable {lo hi x0 x1 y0 y1 L U L' U' l u:Int}
variable (hz:lo<=hi)(hy:y0<=y1)(nb:¬ ((y0<=0/\0<=y1)/\lo<=0/\0<=hi))
include hz hy nb
end
theorem if2 {a b:Prop} [Decidable a] [Decidable b] {A B:Prop}(h1:a->b->A)(h2:¬ (a/\b)->B):if (decide a&&decide b)=true then A else B:=by
 by_cases z:a/\b
 .rw[decide_eq_true z.1,decide_eq_true z.2];exact YO (h1 z.1 z.2)
 .have e:(decide a&&decide b)=false:=by
   simp only[Bool.and_eq_false_iff,decide_eq_false_iff_not];by_cases y:a
   .exact .inr λy2=>z ⟨y,y2⟩
   .exact .inl y
  rw[e];exact YF (h2 z)
theorem and2 {a b:Prop} [Decidable a] [Decidable b] {Q:DK}{S:Sto}(h:Q (.bl (decide a&&decide b)) S):if decide a=true then Q (.bl (decide b)) S else Q (.bl false) S:=
 ifD (λe=>by rw[decide_eq_true e,xZ] at h;exact h) (λe=>by rw[decide_eq_false e,xB] at h;exact h)
theorem Cn (a:Int):0<=mx0 a:=by unfold mx0;split<;>lia
theorem DR (h:Sz 1400 a):Sz 1400 (mx0 a):=by
 unfold mx0;split
 .exact Sz.of 0 ⋯
 .exact h
theorem cut {a b c t2:TDS}{E:XY}{dl:Ev}{S:Sto}{α:Type}(G:α->Ev)(P:α->Prop)(h:(∀a,P a->t2 E (G a) S)->Wt a (Wt b (Wt c t2)) E dl S)(main:∀a,P a->t2 E (G a) S):Wt a (Wt b (Wt c t2)) E dl S:=h main
def Mt (n:Nat)(lo hi l h:Int):Prop:=((n%2=0/\l<0/\0<h)/\0<=hi\/¬ (n%2=0/\l<0/\0<h)/\(l^n<=hi\/h^n<=hi))/\(lo<=l^n\/lo<=h^n)
structure Rts (n:Nat)(lo hi al bl ah bh:Int):Prop where
 hz:lo<=hi
 hn:1<=n
 nn:n%2=0->0<=al/\0<=ah
 up:∀t:Int,n%2=1\/0<=t->(t^n<=hi↔t<=ah)
 dn:∀t:Int,n%2=1\/0<=t->(lo<=t^n↔bl<=t)
 el:bl=al/\(bl^n=lo\/bl=0/\n%2=0)\/bl=al+1/\bl^n≠lo
 eh:bh=ah/\ah^n=hi\/bh=ah+1/\ah^n≠hi
section
variable {n:Nat}{lo hi al bl ah bh:Int}
structure Least (n:Nat)(lo hi x0 x1 m:Int):Prop where
 a:x0<=m
 b:m<=x1
 c:Mt n lo hi x0 m
 d:∀k,x0<=k->k<m->¬ Mt n lo hi x0 k
def Il (n:Nat)(lo hi x0 x1 v:Int):Prop:=∃m,Least n lo hi x0 x1 m/\(m=x0/\v=x0\/m≠x0/\(((m-1)^n<lo/\m^n=lo\/(m-1)^n > hi/\m^n=hi)/\v=m\/¬ ((m-1)^n<lo/\m^n=lo\/(m-1)^n > hi/\m^n=hi)/\v=m-1))
end
structure Vv (n:Nat)(lo hi x0 x1 L U:Int):Prop where
 m:Mt n lo hi x0 x1
 low:∀v,Il n lo hi x0 x1 v->v=L
 he:n%2=0->∀v,Il n lo hi (-x1) (-x0) v->v=-U
 ho:n%2=1->∀v,Il n (-hi) (-lo) (-x1) (-x0) v->v=-U
 lu:L<=U
 has:∀t,x0<=t->t<=x1->lo<=t^n->t^n<=hi->L<=t/\t<=U
section
variable {n:Nat}{lo hi al bl ah bh x0 x1:Int}
end
theorem Sz.mid {n:Nat}{a b x:Int}(ha:Sz n a)(hb:Sz n b)(h1:a<=x)(h2:x<=b):Sz n x:=by
 unfold Sz at *
 generalize 2^n=B at *
 lia
theorem zf0 (hn:2<=n)(s:Sz 1300 N):Sz 652 (1*2^((Builtin.Int.intBits N:Int)/n+1).toNat):=by
 have b:=s.bits;rw[vP];unfold Sz;rw[vG];have e:(2:Int).natAbs=2:=rfl;rw[e];refine Nat.pow_lt_pow_right ⋯ ?_;have d:(Builtin.Int.intBits N:Int)/n<=650:=by
  have h1:(Builtin.Int.intBits N:Int)/n<=(Builtin.Int.intBits N:Int)/2:=by
   refine(Int.le_ediv_iff_mul_le ()).mpr ?_;have d1:=vF (Builtin.Int.intBits N:Int) n
   have d2:=wM (Builtin.Int.intBits N:Int) (show n≠0 by lia)
   have d3:=vQ (show (0:Int)<=(Builtin.Int.intBits N:Int) by lia) (show 0<=n by lia)
   have d4:=yR hn d3
   have d5:(Builtin.Int.intBits N:Int)/n*2=2*((Builtin.Int.intBits N:Int)/n):=yX _ _;lia
  lia
 lia
theorem HP {caps:List Nat}{tl te:TDE}{dl:Ev}{S S1:Sto}{Q:DK}{n:Nat}{o:Ob}(W:Nat->List D->Sto->Prop)(htl:∀K:DK,K (.ref n) S1->tl dl S K)(h1:S1[n]?=some o)(hw:∀k ys S2,W k ys S2->S2[n]?=some o/\S2[S1.length]?=some (.lst ys)/\ys.length=k)(hl:(Zm o).length<=1000)(h0:W 0 [] (S1++[.lst []]))
  (ht:∀(k:Nat)(x:D)(ys:List D)(S2:Sto)(K:DK),(Zm o)[k]?=some x->W k ys S2->(∀y S3,S3[S1.length]?=some (.lst ys)->W (k+1) (ys++[y]) (S3.set S1.length (.lst (ys++[y])))->K y S3)->te (some x::Z8 caps dl) S2 K)
  (hq:∀ys S2,W (Zm o).length ys S2->Q (.ref S1.length) S2)(hL:Y8 o=some o:=by rfl):XG caps tl YH te dl S Q:=by
 unfold XG;refine htl _ ⟨by rw[ZM h1 hL];rfl,λk m S2=>(∃ys,W k ys S2)/\m+k=(Zm o).length,⟨(Zm o).length,⟨_,h0⟩,()⟩,?_⟩;rintro k m S2 ⟨⟨ys,w⟩,hm⟩;obtain⟨w1,w2,w3⟩:=hw _ _ _ w;rw[ZM w1 hL];dsimp only;split
 .rename_i x hx;have hk:k<(Zm o).length:=(zA.mp hx).1;unfold WS YH;simp only[if_true];refine ht k x ys S2 _ hx w λy S3 e3 w4=>?_
  rw[e3];exact⟨(),m-1,(),⟨_,w4⟩,()⟩
 .rename_i hx;have hk:k=(Zm o).length:=by
   have:=yP.mp hx;lia
  exact hq ys S2 (hk ▸ w)
theorem DW {caps:List Nat}{ta:TDA}{te:TDE}{dl:Ev}{S S1:Sto}{Q:DK}{j:Int}(W:Nat->List D->Sto->Prop)(hta:∀K:List D->Sto->Prop,K [.int j] S1->ta dl S K)(hj:0<=j/\j<=1000)(hw:∀k ys S2,W k ys S2->S2[S1.length]?=some (.lst ys)/\ys.length=k)(h0:W 0 [] (S1++[.lst []]))
  (ht:∀(k:Nat)(ys:List D)(S2:Sto)(K:DK),k<j.toNat->W k ys S2->(∀y S3,S3[S1.length]?=some (.lst ys)->W (k+1) (ys++[y]) (S3.set S1.length (.lst (ys++[y])))->K y S3)->te (some (.int (k:Int))::Z8 caps dl) S2 K)
  (hq:∀ys S2,W j.toNat ys S2->Q (.ref S1.length) S2):W8 caps ta YH te dl S Q:=by
 unfold W8;refine hta _ ⟨⟨(),()⟩,λk S2=>k<=j.toNat/\∃ys,W k ys S2,⟨zN _,_,h0⟩,?_⟩;rintro k S2 ⟨hk,ys,w⟩;obtain⟨w2,w3⟩:=hw _ _ _ w;split
 .rename_i c;unfold WS YH;simp only[if_true];refine ht k ys S2 _ c w λy S3 e3 w4=>?_
  rw[e3];exact⟨(),(),_,w4⟩
 .rename_i c;have hk:k=j.toNat:=by lia
  exact hq ys S2 (hk ▸ w)
theorem F8 {S T:Sto}{n:Nat}{o:Ob}(h:Pre S T)(hn:S.length<=n):Pre S (T.set n o):=λk u e=>by
 have l:=(zA.mp e).1;rw[zT ()];exact h k u e
theorem Dz {vs:List Nd}{k:Nat}{v:Nd}(h:vs[k]?=some v):atI (vs.map Nd.d) (k:Int)=some v.d:=Z6 (by rw[zF,h];rfl)
theorem Rg {is:List Nat}{ta:TDA}{tb:TDS}{E:XY}{dl:Ev}{S S1:Sto}{n:Nat}{xs:List D}(W:Nat->Ev->Sto->Prop)(hta:∀K:List D->Sto->Prop,K [.ref n] S1->ta dl S K)(hk:∀k dl' S',W k dl' S'->S'[n]?=some (.lst xs))(h0:W 0 dl S1)
  (hb:∀(k:Nat)(x:D)(dl':Ev)(S':Sto)(nx ct:Ev->Sto->Prop),xs[k]?=some x->W k dl' S'->(∀dl2 S2,W (k+1) dl2 S2->nx dl2 S2)->tb { nx:=nx,rt:=E.rt,bk:=E.nx,ct:=ct } (UR is [.int (k:Int),x] dl') S')(he:∀dl' S',W xs.length dl' S'->E.nx dl' S'):NY is ta tb E dl S:=by
 unfold NY;refine hta _ ⟨by rw[ZM (hk _ _ _ h0) rfl];rfl,λk m dl' S'=>W k dl' S'/\k+m=xs.length,⟨xs.length,h0,()⟩,?_⟩;rintro k m dl' S' ⟨w,hm⟩;rw[ZM (hk _ _ _ w) rfl];dsimp only[Zm];split
 .rename_i x e1;have l1:=(zA.mp e1).1;exact hb k x dl' S' _ _ e1 w (λdl2 S2 w2=>⟨m-1,(),w2,()⟩)
 .rename_i e1;have l1:=yP.mp e1
  have ek:k=xs.length:=by lia
  exact⟨ek,he _ _ (ek ▸ w)⟩
theorem QN (h0:0<=n)(h1:n<=xs.length):Yb xs none (some n)=xs.take n.toNat:=by
 unfold L3.Yb;have e:HT.sIx xs.length xs.length (some n)=n.toNat:=by
  have z:=HT.sIx_nat xs.length xs.length n.toNat;rw[wA h0] at z;rw[z];lia
 rw[e,HT.sIx_none,List.drop_zero,Nat.sub_zero]
def Sub (x:Int×Int)(o:Option (Int×Int)):Prop:=∀p,o=some p->p.1<=p.2/\x.1<=p.1/\p.2<=x.2
theorem BP:Sub p (UB p q):=λr e=>by
 refine⟨Ae e,?_⟩;unfold UB at e;have go:∀lo hi:Int,p.1<=lo->hi<=p.2->(if hi<lo then none else some (lo,hi))=some r->p.1<=r.1/\r.2<=p.2:=λlo hi a b e=>by
  split at e
  .cases e
  .cases e;exact⟨a,b⟩
 refine go _ _ ?_ ?_ e
 .split<;>lia
 .split<;>lia
theorem Spn.set2 (h:Spn B vs)(hu:u.1<=u.2/\Sz B u.1/\Sz B u.2):Spn B (vs.set k u):=λp hp=>by
 rcases wV hp with e|e
 .exact h p e
 .subst e;exact hu
def rwW (zero:Bool)(w:Str):Prop:=zero=true/\w="zero"\/zero=false/\w="least"
theorem Gr.pre {q a:Nat}{S T:Sto}{ns:List Nd}{ws:List Nat}(net:ZK q ns ws)(h:S[a]?=some (.lst (ns.map Nd.d)))(pr:Pre S T)(hl:S.length<=T.length):Gr q a 0 S ns ws T ns ws:=⟨net,⟨[],by simp,by simp⟩,⟨[],by simp⟩,pr _ _ h,hl,λx o _ e=>pr x o e⟩
def FdAt (o:Option LI)(L:Nat)(S:Sto)(fd:D):Prop:=(fd=.non/\o=none)\/∃(r:LI)(mf:Nat),fd=.ref mf/\o=some r/\S[mf]?=some (.lst (r.map frD))/\L<=mf
theorem YI (h:Pre S T):S.length<=T.length:=by
 by_cases c:S.length<=T.length
 .exact c
 .have e:=h T.length _ (zD ())
  have:=(zA.mp e).1;lia
structure Ct where
 k:Nat
 p:Int
 s:Bool
def Ct.d (c:Ct):D:=.tup [.int (c.k:Int),.int c.p,.int (if c.s then 1 else 0)]
def brS (zero:Bool)(s:Int×Int):Bool:=if zero then decide (0<s.1)||decide (s.2<0) else decide (s.2<0)
def ibS (ns:List Nd)(zero:Bool)(k:Nat)(bs:LI)(g:Int):Bool:=brS zero (gt (ZA bs g (ns.take (k+1))) (k:Int))
def Ct.off (c:Ct)(s:Int×Int):Int×Int:=if c.s then (c.p,s.2) else (s.1,c.p)
def Ct.back (c:Ct)(s:Int×Int):Int×Int:=if c.s then (s.1,c.p) else (c.p,s.2)
def isS (ns:List Nd)(zero:Bool)(k:Nat)(g:Int)(bs:LI)(c:Ct):Bool:=(decide ((gt bs (c.k:Int)).1<c.p)&&decide (c.p<(gt bs (c.k:Int)).2))&&ibS ns zero k (bs.set c.k (c.off (gt bs (c.k:Int)))) g
def ctP (bs:LI)(c:Ct):LI:=bs.set c.k (c.back (gt bs (c.k:Int)))
def MD (ns:List Nd)(zero:Bool)(k:Nat)(g:Int)(a:List Ct×LI)(c:Ct):List Ct×LI:=if isS ns zero k g a.2 c then (a.1++[c],ctP a.2 c) else a
def ctA (bs:LI)(cs:List Ct):LI:=cs.foldl ctP bs
theorem Ee (bs:LI)(cs:List Ct)(c:Ct):ctA bs (cs++[c])=ctP (ctA bs cs) c:=by
 unfold ctA;rw[xX];rfl
def Ct.ix (c:Ct):Nat:=2*c.k+(if c.s then 1 else 0)
structure RR (ns:List Nd)(zero:Bool)(k:Nat)(g:Int)(bs:LI)(n:Nat)(q:List Ct×LI):Prop where
 left:q.2=ctA bs q.1
 len:q.2.length=bs.length
 spn:Spn 51 q.2
 is:∀(i:Nat)(c:Ct),q.1[i]?=some c->isS ns zero k g (ctA bs (q.1.take i)) c=true/\c.k<bs.length
 lt:∀c∈q.1,c.ix<n
 ord:∀(i j:Nat)(c d:Ct),i<j->q.1[i]?=some c->q.1[j]?=some d->c.ix<d.ix
 few:q.1.length<=n
theorem D4 {ns:List Nd}{zero:Bool}{k:Nat}{g:Int}{bs:LI}{c:Ct}(h:isS ns zero k g bs c=true):(gt bs (c.k:Int)).1<c.p/\c.p<(gt bs (c.k:Int)).2:=by
 unfold isS at h;simp only[xT,decide_eq_true_eq] at h;exact h.1
theorem EL {c:Ct}{s:Int×Int}(h1:s.1<c.p)(h2:c.p<s.2)(z1:Sz 51 s.1)(z2:Sz 51 s.2):((c.back s).1<=(c.back s).2/\Sz 51 (c.back s).1/\Sz 51 (c.back s).2)/\(c.off s).1<=(c.off s).2/\Sz 51 (c.off s).1/\Sz 51 (c.off s).2:=by
 have zp:Sz 51 c.p:=Sz.mid z1 z2 () ();unfold Ct.back Ct.off;cases c.s with
 | true=>exact⟨⟨by show s.1<=c.p;lia,z1,zp⟩,by show c.p<=s.2;lia,zp,z2⟩
 | false=>exact⟨⟨by show c.p<=s.2;lia,zp,z2⟩,by show s.1<=c.p;lia,z1,zp⟩
theorem RR.step {ns:List Nd}{zero:Bool}{k n:Nat}{g:Int}{bs:LI}{q:List Ct×LI}(h:RR ns zero k g bs n q){c:Ct}(hc:c.k<bs.length)(hn:c.ix=n):RR ns zero k g bs (n+1) (MD ns zero k g q c):=by
 unfold MD;split
 .rename_i e;have ik:inR ((q.2.length:Nat):Int) (c.k:Int):=⟨(),by have:=h.len;lia⟩
  have a:=h.spn.at ik
  have b:=D4 e;refine⟨by rw[Ee,<- h.left],by show (q.2.set _ _).length=_;rw[yD];exact h.len,h.spn.set2 (EL b.1 b.2 a.2.1 a.2.2).1,λi d hd=>?_,λd hd=>?_,λi j x y hij hx hy=>?_,by show (q.1++[c]).length<=_;rw[zQ];have:=h.few;simp;lia⟩
  .show isS ns zero k g (ctA bs ((q.1++[c]).take i)) d=true/\_;by_cases hi:i<q.1.length
   .have hd2:(q.1++[c])[i]?=some d:=hd;rw[zJ hi] at hd2;rw[vM ()];exact h.is i d hd2
   .have hd2:(q.1++[c])[i]?=some d:=hd
    have hl:=(zA.mp hd2).1;simp only[zQ,zU,yZ] at hl;have ei:i=q.1.length:=by lia
    subst ei;simp at hd2;subst hd2;rw[vM (zC _),yJ,<- h.left];exact⟨e,hc⟩
  .have hd2:d∈q.1++[c]:=hd;rcases zX.mp hd2 with z|z
   .have:=h.lt d z;lia
   .cases zO.mp z;lia
  .have hx2:(q.1++[c])[i]?=some x:=hx
   have hy2:(q.1++[c])[j]?=some y:=hy
   have hl:=(zA.mp hy2).1;simp only[zQ,zU,yZ] at hl;rw[zJ ()] at hx2;by_cases hj:j<q.1.length
   .rw[zJ hj] at hy2;exact h.ord i j x y hij hx2 hy2
   .have ej:j=q.1.length:=by lia
    subst ej;simp at hy2;subst hy2;have:=h.lt x (zE hx2);lia
 .exact⟨h.left,h.len,h.spn,h.is,λd hd=>by have:=h.lt d hd;lia,h.ord,by have:=h.few;lia⟩
theorem zco (bs:LI):∀cs:List Ct,(ctA bs cs).length=bs.length:=λcs=>by
 unfold ctA
 induction cs generalizing bs with
 | nil=>rfl
 | cons c cs ih=>
  show (cs.foldl ctP (ctP bs c)).length=_;rw[ih];exact yD ..
theorem zhF {α:Type}{bs:LI}{k:Nat}{p:Int×Int}(h:k<bs.length):Yb (bs.map frD) none (some (k:Int))++[frD p]++Yb (bs.map frD) (some ((k:Int)+1)) none=(bs.set k p).map frD:=by
 rw[QN () (by rw[zB];lia),zL];have e:Yb (bs.map frD) (some ((k:Int)+1)) none=(bs.map frD).drop (k+1):=by
  unfold L3.Yb;have z:=HT.sIx_nat (bs.map frD).length 0 (k+1);rw[show (((k+1:Nat):Int))=(k:Int)+1 by lia] at z;rw[z,HT.sIx_none,yQ (by rw[wJ];lia),uJ (by rw[zB];lia)]
 rw[e,List.set_eq_take_append_cons_drop,if_pos h,yA,yH,xJ,List.map_drop,yV];rfl
theorem Bx {to te:TDE}{dl:Ev}{S:Sto}{Q:DK}{n:Nat}{xs:List D}(hto:∀K:DK,K (.ref n) S->to dl S K)(h:S[n]?=some (.lst xs))(hte:∀K:DK,(∀(y:D)(S2:Sto),S2[n]?=some (.lst xs)->Q .non (S2.set n (.lst (xs++[y])))->K y S2)->te dl S K)(hl:xs.length<1000):W4 to te dl S Q:=by
 unfold W4;refine hto _ ?_;simp only[h];refine hte _ λy S2 h2 q=>?_
 simp only[h2,if_pos hl];exact q
def Yt (S:Sto)(lo:Nat)(ds:List D)(R:List LI):Prop:=ds.length=R.length/\∀(k:Nat)(d:D)(r:LI),ds[k]?=some d->R[k]?=some r->∃a,d=.ref a/\lo<=a/\S[a]?=some (.lst (r.map frD))
theorem Yt.nil {S:Sto}{lo:Nat}:Yt S lo [] []:=⟨rfl,λk d r h=>by simp at h⟩
theorem Yt.pre {S T:Sto}{lo:Nat}{ds:List D}{R:List LI}(h:Yt S lo ds R)(p:Pre S T):Yt T lo ds R:=⟨h.1,λk d r hd hr=>by
 obtain⟨a,e,l,s⟩:=h.2 k d r hd hr;exact⟨a,e,l,p _ _ s⟩⟩
theorem Yt.low {S:Sto}{lo lo':Nat}{ds:List D}{R:List LI}(h:Yt S lo ds R)(l:lo'<=lo):Yt S lo' ds R:=⟨h.1,λk d r hd hr=>by
 obtain⟨a,e,l,s⟩:=h.2 k d r hd hr;exact⟨a,e,(),s⟩⟩
theorem Yt.keep {S T:Sto}{lo:Nat}{ds:List D}{R:List LI}(h:Yt S lo ds R)(p:∀(x:Nat)(o:Ob),lo<=x->S[x]?=some o->T[x]?=some o):Yt T lo ds R:=⟨h.1,λk d r hd hr=>by
 obtain⟨a,e,l,s⟩:=h.2 k d r hd hr;exact⟨a,e,l,p _ _ l s⟩⟩
theorem Yt.at {S:Sto}{lo:Nat}{ds:List D}{R:List LI}(h:Yt S lo ds R){i:Int}(hi:inR R.length i):∃a,atI ds i=some (.ref a)/\lo<=a/\S[a]?=some (.lst ((R.getD i.toNat []).map frD)):=by
 obtain⟨h0,h1⟩:=hi;have hk:i.toNat<R.length:=by lia
 have hk':i.toNat<ds.length:=by rw[h.1];exact hk
 obtain⟨a,e,l,s⟩:=h.2 i.toNat _ _ (zD hk') (zD hk);refine⟨a,?_,l,?_⟩
 .have z:=Z6 (xs:=ds) (j:=i.toNat) (v:=.ref a) (by rw[zD hk',e]);rw[show ((i.toNat:Nat):Int)=i by lia] at z;exact z
 .rw[s];simp[hk]
theorem Yt.snoc {S:Sto}{lo:Nat}{ds:List D}{R:List LI}{a:Nat}{r:LI}(h:Yt S lo ds R)(hl:lo<=a)(hs:S[a]?=some (.lst (r.map frD))):Yt S lo (ds++[.ref a]) (R++[r]):=⟨by rw[zQ,zQ,h.1];rfl,λk d r' hd hr=>by
 by_cases hk:k<ds.length
 .rw[zJ hk] at hd;rw[zJ (by rw[<- h.1];exact hk)] at hr;exact h.2 k d r' hd hr
 .have l:=(zA.mp hd).1;simp only[zQ,zU,yZ] at l;have ek:k=ds.length:=by lia
  subst ek;rw[yC (zC _),xY] at hd;rw[h.1,yC (zC _),xY] at hr;cases hd;cases hr;exact⟨a,rfl,hl,hs⟩⟩
abbrev gs (sl:List LI)(i:Int)(l:Nat):Int×Int:=(sl.getD i.toNat []).getD l (0,0)
def Yj (p q:Int×Int)(g:Int):Int×Int:=(mn4 p.1 p.2 q.1 q.2/g,-(-mx4 p.1 p.2 q.1 q.2/g))
def Y6 (p:Int×Int)(n g:Int):Int×Int:=(Y9 p.1 p.2 (n-1).toNat/g^((n-1).toNat-1)*n,-(-WI p.1 p.2 (n-1).toNat/g^((n-1).toNat-1))*n)
def Nd.sl (vs:LI)(sl:List LI)(g:Int)(l:Nat):Nd->Int×Int
 | .number _ _=>(0,0)
 | .unknown k=>if (l:Int)=k then (g,g) else (0,0)
 | .plus i j=>((gs sl i l).1+(gs sl j l).1,(gs sl i l).2+(gs sl j l).2)
 | .minus i j=>((gs sl i l).1-(gs sl j l).2,(gs sl i l).2-(gs sl j l).1)
 | .times i j=>((Yj (gt vs i) (gs sl j l) g).1+(Yj (gt vs j) (gs sl i l) g).1,(Yj (gt vs i) (gs sl j l) g).2+(Yj (gt vs j) (gs sl i l) g).2)
 | .power i n=>Yj (Y6 (gt vs i) n g) (gs sl i l) g
def Xa (vs:LI)(sl:List LI)(g:Int)(q:Nat)(v:Nd):LI:=(List.range q).map λl=>v.sl vs sl g l
theorem zdw {vs:LI}{sl:List LI}{g:Int}{q:Nat}{v:Nd}:(Xa vs sl g q v).length=q:=by simp[Xa]
theorem zjc (f:Int×Int->α)(r:LI)(h:r.length=q):r.map f=(List.range q).map λl=>f (r.getD l (0,0)):=by
 subst h;refine vR λk=>?_
 by_cases hk:k<r.length
 .rw[zF,zF,wR hk,zD hk];simp[hk]
 .rw[xK (by simpa using hk),xK (by simpa using hk)]
theorem ziM (f:Int×Int->Int×Int->α)(r s:LI)(h:r.length=q)(h':s.length=q):List.zipWith f r s=(List.range q).map λl=>f (r.getD l (0,0)) (s.getD l (0,0)):=by
 subst h;refine vR λk=>?_
 by_cases hk:k<r.length
 .rw[uK,zF,wR hk,zD hk,zD (show k<s.length by lia)];simp[hk,show k<s.length by lia]
 .rw[xK (by rw[wU];lia),xK (by simpa using hk)]
theorem zb4 (x:D)(q:Nat):(List.replicate q [x]).flatten=(List.range q).map λ_=>x:=by
 refine vR λk=>?_
 have l:(List.replicate q [x]).flatten=List.replicate q x:=by
  induction q with
  | zero=>rfl
  | succ q ih=>rw[yU,xF,ih];rfl
 rw[l];by_cases hk:k<q
 .rw[zF,wR hk,wG,if_pos hk];rfl
 .rw[xK (by simpa using hk),xK (by simpa using hk)]
theorem Hb (p q:Int×Int)(hg:1<=g):(Yj p q g).1<=(Yj p q g).2:=SH hg (Dy _ _ _ _)
theorem Am (p:Int×Int)(hn:0<=n)(hg:1<=g):(Y6 p n g).1<=(Y6 p n g).2:=yR (SH (yI ()) (Hz _ _ _)) hn
def Yg (vs:LI)(g:Int)(q:Nat)(ns:List Nd):List LI:=ns.foldl (λacc v=>acc++[Xa vs acc g q v]) []
theorem HH (vs:LI)(g:Int)(q:Nat)(ns:List Nd)(v:Nd):Yg vs g q (ns++[v])=Yg vs g q ns++[Xa vs (Yg vs g q ns) g q v]:=by
 unfold Yg;rw[xX];rfl
theorem Mj (vs:LI)(g:Int)(q:Nat)(ns:List Nd):(Yg vs g q ns).length=ns.length:=by
 have z:∀k,k<=ns.length->(Yg vs g q (ns.take k)).length=k:=λk=>by
  induction k with
  | zero=>intro _;rfl
  | succ k ih=>
   intro hk;rw[Xg (zD (show k<ns.length by lia)),HH];simp[ih ()]
 have:=z ns.length (zC _)
 rwa [yJ] at this
def SlW (q:Nat)(ws:List Nat)(sl:List LI):Prop:=∀(k:Nat)(r:LI),sl[k]?=some r->r.length=q/\∀p∈r,p.1<=p.2/\Sz (64*ws.getD k 0-1) p.1/\Sz (64*ws.getD k 0-1) p.2
theorem SlW.at {q:Nat}{ws:List Nat}{sl:List LI}(h:SlW q ws sl){i:Int}(hi:inR sl.length i):(sl.getD i.toNat []).length=q/\∀l,l<q->(gs sl i l).1<=(gs sl i l).2/\Sz (64*ws.getD i.toNat 0-1) (gs sl i l).1/\Sz (64*ws.getD i.toNat 0-1) (gs sl i l).2:=by
 obtain⟨h0,h1⟩:=hi;have hk:i.toNat<sl.length:=by lia
 obtain⟨a,b⟩:=h i.toNat _ (zD hk);have e:sl.getD i.toNat []=sl[i.toNat]:=by simp[hk]
 refine⟨by rw[e];exact a,λl hl=>?_⟩;have e2:gs sl i l=sl[i.toNat][l]'(by rw[a];exact hl):=by
  unfold gs;rw[e];simp[show l<sl[i.toNat].length by rw[a];exact hl]
 rw[e2];exact b _ (yW _)
theorem SlW.snoc {q:Nat}{ws:List Nat}{sl:List LI}{r:LI}(h:SlW q ws sl)(hr:r.length=q)(hp:∀p∈r,p.1<=p.2/\Sz (64*ws.getD sl.length 0-1) p.1/\Sz (64*ws.getD sl.length 0-1) p.2):SlW q ws (sl++[r]):=λk u hu=>by
 by_cases hk:k<sl.length
 .rw[zJ hk] at hu;exact h k u hu
 .have l:=(zA.mp hu).1;simp only[zQ,zU,yZ] at l;have ek:k=sl.length:=by lia
  subst ek;rw[yC (zC _),xY] at hu;cases hu;exact⟨hr,hp⟩
theorem Lh (hg:1<=g)(h1:Sz m p.1)(h2:Sz m p.2)(h3:Sz n q.1)(h4:Sz n q.2):Sz (m+n) (Yj p q g).1/\Sz (m+n) (Yj p q g).2:=
 ⟨(Vj (Vj (h1.mul h3) (h1.mul h4)) (Vj (h2.mul h3) (h2.mul h4))).div hg,Us (WT (WT (h1.mul h3) (h1.mul h4)) (WT (h2.mul h3) (h2.mul h4))) hg⟩
theorem zdf:∀n:Nat,2<=n->n<=6->n<=2^(n-1):=λn h1 h2=>by
 have:n=2\/n=3\/n=4\/n=5\/n=6:=by lia
 rcases this with rfl|rfl|rfl|rfl|rfl<;>decide
theorem Nf (h:Sz m x)(hn:n.natAbs<=2^e)(hp:1<=n.natAbs):Sz (m+e) (x*n):=by
 unfold Sz at *
 rw[wL,vC];exact Nat.mul_lt_mul_of_lt_of_le h hn (yF ⋯)
theorem zby (hg:1<=g)(n2:2<=n)(n6:n<=6)(h1:Sz m p.1)(h2:Sz m p.2):Sz (m*(n.toNat-1)+(n.toNat-1)) (Y6 p n g).1/\Sz (m*(n.toNat-1)+(n.toNat-1)) (Y6 p n g).2:=by
 have en:(n-1).toNat=n.toNat-1:=by lia
 have gp:(1:Int)<=g^((n-1).toNat-1):=yI ()
 have p1:Sz (m*(n.toNat-1)) (p.1^(n-1).toNat):=by rw[en];exact Sz.pow' h1 ()
 have p2:Sz (m*(n.toNat-1)) (p.2^(n-1).toNat):=by rw[en];exact Sz.pow' h2 ()
 have lo:Sz (m*(n.toNat-1)) (Y9 p.1 p.2 (n-1).toNat):=by
  unfold Y9;split
  .show (0:Int).natAbs<_;exact yF ⋯
  .exact Vj p1 p2
 have nb:n.natAbs<=2^(n.toNat-1):=by
  have:=zdf n.toNat () ();lia
 exact⟨Nf (lo.div gp) nb (),Nf (Us (WT p1 p2) gp) nb ()⟩
theorem sl_ok {q:Nat}{ws:List Nat}{vs:LI}{sl:List LI}{g:Int}(hs:SzW ws vs)(hl:SlW q ws sl)(hg:1<=g/\g<=1000000)(hv:sl.length<=vs.length)(hw:∀i:Int,inR vs.length i->1<=ws.getD i.toNat 0){l:Nat}(hq:l<q):∀v:Nd,v.ok sl.length q->1<=v.wt ws->(v.sl vs sl g l).1<=(v.sl vs sl g l).2/\Sz (64*v.wt ws-2) (v.sl vs sl g l).1/\Sz (64*v.wt ws-2) (v.sl vs sl g l).2
 | .number t b,ok,h1=>⟨zV _,by show Sz _ 0;exact yF ⋯,by show Sz _ 0;exact yF ⋯⟩
 | .unknown k,ok,h1=>by
  have sg:Sz (64*Nd.wt ws (.unknown k)-2) g:=(Sz.of (n:=21) (10^6) (show g.natAbs<=_ by lia)).mono (by show 21<=64*1-2;decide)
  show (if (l:Int)=k then (g,g) else (0,0)).1<=(if (l:Int)=k then (g,g) else (0,0)).2/\Sz _ (if (l:Int)=k then (g,g) else (0,0)).1/\Sz _ (if (l:Int)=k then (g,g) else (0,0)).2;split
  .exact⟨zV _,sg,sg⟩
  .exact⟨zV _,yF ⋯,yF ⋯⟩
 | .plus i j,ok,h1=>by
  have a:=(hl.at ok.1).2 l hq
  have b:=(hl.at ok.2).2 l hq
  have p:=hw i ⟨ok.1.1,by have:=ok.1.2;lia⟩
  have q:=hw j ⟨ok.2.1,by have:=ok.2.2;lia⟩;refine⟨?_,(a.2.1.add b.2.1).mono (by simp only[Nd.wt];lia),(a.2.2.add b.2.2).mono (by simp only[Nd.wt];lia)⟩;show (gs sl i l).1+(gs sl j l).1<=(gs sl i l).2+(gs sl j l).2;lia
 | .minus i j,ok,h1=>by
  have a:=(hl.at ok.1).2 l hq
  have b:=(hl.at ok.2).2 l hq
  have p:=hw i ⟨ok.1.1,by have:=ok.1.2;lia⟩
  have q:=hw j ⟨ok.2.1,by have:=ok.2.2;lia⟩;refine⟨?_,(a.2.1.sub b.2.2).mono (by simp only[Nd.wt];lia),(a.2.2.sub b.2.1).mono (by simp only[Nd.wt];lia)⟩;show (gs sl i l).1-(gs sl j l).2<=(gs sl i l).2-(gs sl j l).1;lia
 | .times i j,ok,h1=>by
  have oi:inR vs.length i:=⟨ok.1.1,by have:=ok.1.2;lia⟩
  have oj:inR vs.length j:=⟨ok.2.1,by have:=ok.2.2;lia⟩
  have a:=(hl.at ok.1).2 l hq
  have b:=(hl.at ok.2).2 l hq
  have c:=hs.at oi
  have d:=hs.at oj
  have p:=hw i oi
  have q:=hw j oj
  have z1:=Lh hg.1 c.2.1 c.2.2 b.2.1 b.2.2
  have z2:=Lh hg.1 d.2.1 d.2.2 a.2.1 a.2.2;refine⟨?_,(z1.1.add z2.1).mono (by simp only[Nd.wt];lia),(z1.2.add z2.2).mono (by simp only[Nd.wt];lia)⟩;have m1:=Hb (gt vs i) (gs sl j l) hg.1
  have m2:=Hb (gt vs j) (gs sl i l) hg.1
  show (Yj (gt vs i) (gs sl j l) g).1+(Yj (gt vs j) (gs sl i l) g).1<=(Yj (gt vs i) (gs sl j l) g).2+(Yj (gt vs j) (gs sl i l) g).2;lia
 | .power i n,ok,h1=>by
  have oi:inR vs.length i:=⟨ok.1.1,by have:=ok.1.2;lia⟩
  have a:=(hl.at ok.1).2 l hq
  have c:=hs.at oi
  have p:=hw i oi
  have n2:=ok.2.1
  have f:=zby hg.1 ok.2.1 ok.2.2 c.2.1 c.2.2
  have z:=Lh hg.1 f.1 f.2 a.2.1 a.2.2
  have hn:(60*ws.getD i.toNat 0-1)*(n.toNat-1)+(n.toNat-1)+(64*ws.getD i.toNat 0-1)<=64*Nd.wt ws (.power i n)-2:=by
   simp only[Nd.wt];generalize ws.getD i.toNat 0=w at p;obtain⟨k,hk⟩:∃k,n.toNat=k+2:=⟨n.toNat-2,()⟩;rw[hk,show k+2-1=k+1 by lia,vN,Nat.one_mul];have e1:60*w*(k+1)=60*(k*w)+60*w:=by rw[Nat.mul_add,Nat.mul_one,vO,wK w k]
   have e2:(k+2)*w=k*w+2*w:=Nat.add_mul ..
   have e3:k+1<=60*w*(k+1):=Nat.le_mul_of_pos_left _ ();rw[e2];lia
  exact⟨Hb _ _ hg.1,z.1.mono hn,z.2.mono hn⟩
theorem Dw {q:Nat}{ns:List Nd}{ws:List Nat}{vs:LI}{g:Int}(h:ZK q ns ws)(hs:SzW ws vs)(hv:vs.length=ns.length)(hg:1<=g/\g<=1000000):∀k,k<=ns.length->SlW q ws (Yg vs g q (ns.take k)):=λk=>by
 induction k with
 | zero=>intro _ i p hp;simp[Yg] at hp
 | succ k ih=>
  intro hk;have hv':=zD (show k<ns.length by lia)
  have s:=ih ()
  have ln:(Yg vs g q (ns.take k)).length=k:=by rw[Mj,zM];lia
  obtain⟨ok,e,p1,_⟩:=h.ok k _ hv';rw[Xg hv',HH];refine s.snoc zdw λp hp=>?_
  obtain⟨l,hl,rfl⟩:=zP.mp hp;have z:=sl_ok hs s hg () (λi hi=>(h.w1 (by rw[<- hv];exact hi)).1) (wB.mp hl) ns[k] (by rw[ln];exact ok) p1;rw[ln,e];exact⟨z.1,z.2.1.mono (),z.2.2.mono ()⟩
theorem Cy {q:Int}{ns:List Nd}{ws:List Nat}{bs:LI}{g:Int}(h:ZK q ns ws)(hq:q=bs.length)(hb:Spn 51 bs)(hg:1<=g/\g<=1000000):SzW ws (ZA bs g ns):=by
 have z:=CB h hq hb hg ns.length (zC _)
 rwa [yJ] at z
theorem SlW.spn (h:SlW q ws sl)(hw:∀k:Nat,k<sl.length->ws.getD k 0<=16):∀i:Int,inR sl.length i->(sl.getD i.toNat []).length=q/\∀l,l<q->(gs sl i l).1<=(gs sl i l).2/\Sz 1100 (gs sl i l).1/\Sz 1100 (gs sl i l).2:=λi hi=>by
 obtain⟨a,b⟩:=h.at hi;refine⟨a,λl hl=>?_⟩;obtain⟨c,d,e⟩:=b l hl;have:=hw i.toNat (by have:=hi.1;have:=hi.2;lia);exact⟨c,d.mono (),e.mono ()⟩
def mid (p:Int×Int):Int:=(p.1+p.2)/2
def X0 (p:Int×Int):Int×Int:=(mid p,mid p)
def addS (p q:Int×Int):Int×Int:=(p.1+q.1,p.2+q.2)
def K5 (p q:Int×Int):Int×Int:=(p.1-q.2,p.2-q.1)
def X5 (g:Int)(us vs:LI):Int×Int:=(List.zip us vs).foldl (λt z=>addS t (Yj z.1 z.2 g)) (0,0)
def rwD (r:Bool×Nat):D:=.tup [.str (if r.1 then "zero" else "least"),.int (r.2:Int)]
def eqs (rows:List (Bool×Nat)):List Nat:=rows.filterMap λr=>if r.1 then some r.2 else none
theorem Gp {caps:List Nat}{tl te:TDE}{tc:TDT}{dl:Ev}{S S1:Sto}{Q:DK}{n:Nat}{o:Ob}(f:D->Option D)(htl:∀K:DK,K (.ref n) S1->tl dl S K)(h1:S1[n]?=some o)(hl:(Zm o).length<=1000)
  (hc:∀x∈Zm o,∀(S2:Sto)(K:Bool->Sto->Prop),Pre S1 S2->K (f x).isSome S2->tc (some x::Z8 caps dl) S2 K)(ht:∀x∈Zm o,∀y,f x=some y->∀(S2:Sto)(K:DK),Pre S1 S2->K y S2->te (some x::Z8 caps dl) S2 K)(hq:Q (.ref S1.length) (S1++[.lst ((Zm o).filterMap f)]))(hL:Y8 o=some o:=by rfl):XG caps tl tc te dl S Q:=by
 unfold XG;refine htl _ ⟨by rw[ZM h1 hL];rfl,λk m S2=>S2=S1++[.lst (((Zm o).take k).filterMap f)]/\m+k=(Zm o).length,⟨(Zm o).length,by simp,()⟩,?_⟩;rintro k m S2 ⟨rfl,hm⟩;rw[ZM (Vl h1) hL];dsimp only;split
 .rename_i x hx;have hk:k<(Zm o).length:=(zA.mp hx).1
  have e:(Zm o).take (k+1)=(Zm o).take k++[x]:=by rw[xV,hx];rfl
  unfold WS;refine hc x (zE hx) _ _ Pre.refl.push ?_;cases ef:f x with
  | none=>
   refine YF ?_;refine⟨m-1,(),?_,()⟩;rw[e,uL];simp[ef]
  | some y=>
   refine YO ?_;refine ht x (zE hx) y ef _ _ Pre.refl.push ?_;rw[Zq];have ll:=List.length_filterMap_le f ((Zm o).take k);refine⟨by rw[zM] at ll;lia,m-1,(),?_,()⟩;rw[e,uL,VF];simp[ef]
 .rename_i hx;have hk:(Zm o).length<=k:=yP.mp hx;rw[yQ hk];exact hq
theorem Ci (g:Int)(us vs:LI)(k:Nat){u v:Int×Int}(hu:us[k]?=some u)(hv:vs[k]?=some v):X5 g (us.take (k+1)) (vs.take (k+1))=addS (X5 g (us.take k) (vs.take k)) (Yj u v g):=by
 unfold X5;have l1:=(zA.mp hu).1
 have l2:=(zA.mp hv).1;rw[Xg hu,Xg hv,List.zip_append (by rw[zM,zM];lia),xX];rfl
theorem Cw (g:Int)(us vs:LI):X5 g (us.take (min us.length vs.length)) (vs.take (min us.length vs.length))=X5 g us vs:=by
 unfold X5;congr 1;show List.zipWith Prod.mk _ _=List.zipWith Prod.mk _ _;rw[<- uI,yQ (by rw[wU];exact zC _)]
def Bd (B:Nat)(vs:LI):Prop:=∀p∈vs,Sz B p.1/\Sz B p.2
theorem CZ (hg:1<=g)(h1:Bd A us)(h2:Bd B vs):∀k:Nat,k<=us.length->k<=vs.length->Sz (A+B+k+1) (X5 g (us.take k) (vs.take k)).1/\Sz (A+B+k+1) (X5 g (us.take k) (vs.take k)).2
 | 0,_,_=>⟨yF ⋯,yF ⋯⟩
 | k+1,l1,l2=>by
  have hu:=zD (show k<us.length by lia)
  have hv:=zD (show k<vs.length by lia);rw[Ci g us vs k hu hv];have ih:=CZ hg h1 h2 k () ()
  have a:=h1 _ (zE hu)
  have b:=h2 _ (zE hv)
  have m:=Lh hg a.1 a.2 b.1 b.2;exact⟨(ih.1.add m.1).mono (),(ih.2.add m.2).mono ()⟩
theorem zjF (hg:1<=g)(h1:Bd A us)(h2:Bd B vs)(l:us.length<=60):Sz (A+B+61) (X5 g us vs).1/\Sz (A+B+61) (X5 g us vs).2:=by
 rw[<- Cw];have z:=CZ hg h1 h2 (min us.length vs.length) () ();exact⟨z.1.mono (),z.2.mono ()⟩
theorem zc3 {is:List Nat}{ta:TDA}{tb:TDS}{E:XY}{dl:Ev}{S:Sto}{n n':Nat}{xs ys:List D}(W:Nat->Ev->Prop)(hta:∀K:List D->Sto->Prop,K [.ref n,.ref n'] S->ta dl S K)(h1:S[n]?=some (.lst xs))(h2:S[n']?=some (.lst ys))(h0:W 0 dl)
  (hb:∀(k:Nat)(x y:D)(dl':Ev)(nx ct:Ev->Sto->Prop),xs[k]?=some x->ys[k]?=some y->W k dl'->(∀dl2,W (k+1) dl2->nx dl2 S)->tb { nx:=nx,rt:=E.rt,bk:=E.nx,ct:=ct } (UR is [x,y] dl') S)(he:∀dl',W (min xs.length ys.length) dl'->E.nx dl' S):Pm is ta tb E dl S:=by
 unfold Pm;refine hta _ ⟨⟨by rw[ZM h1 rfl];rfl,by rw[ZM h2 rfl];rfl⟩,λk m dl' S'=>S'=S/\W k dl'/\k+m=min xs.length ys.length,⟨min xs.length ys.length,rfl,h0,by simp⟩,?_⟩;rintro k m dl' S' ⟨rfl,w,hk⟩;simp only[ZM h1 rfl,ZM h2 rfl,Zm];split
 .rename_i x y e1 e2;have l1:=(zA.mp e1).1
  have l2:=(zA.mp e2).1;exact hb k x y dl' _ _ e1 e2 w (λdl2 w2=>⟨m-1,(),rfl,w2,()⟩)
 .rename_i no;have ek:k=min xs.length ys.length:=by
   by_cases l:k<min xs.length ys.length
   .exact absurd (zD (l:=ys) (i:=k) ()) (no _ _ (zD (l:=xs) (i:=k) ()))
   .lia
  exact⟨ek,he _ (ek ▸ w)⟩
theorem Bf {B:Nat}{p:Int×Int}(h1:Sz B p.1)(h2:Sz B p.2):Sz (B+1) (mid p):=(h1.add h2).div ⋯ |>.mono ()
theorem zjA (hp:Sz B p.1/\Sz B p.2)(hq:Sz C q.1/\Sz C q.2):Sz (max B C+1) (K5 p q).1/\Sz (max B C+1) (K5 p q).2:=⟨hp.1.sub hq.2,hp.2.sub hq.1⟩
theorem zg4 {p:Int×Int}(h:p.1<=p.2):p.1<=mid p/\mid p<=p.2:=by unfold mid;lia
theorem Gm {B:Nat}{bs:LI}(h:Spn B bs):Spn B (bs.map X0):=λp hp=>by
 obtain⟨x,hx,rfl⟩:=zP.mp hp;obtain⟨a,b,c⟩:=h x hx;have z:=zg4 a
 have s:Sz B (mid x):=by
  unfold Sz at *
  lia
 exact⟨zV _,s,s⟩
def hs:Nat->Int->Int->Int
 | 0,_,_=>0
 | k+1,x,y=>x*hs k x y+y^k
def In (p:Int×Int)(x:Rat):Prop:=(p.1:Rat)<=x/\x<=(p.2:Rat)
theorem zi6 {ns:List Nd}{ws:List Nat}{bs:LI}{g:Int}{is:List Nat}(net:ZK bs.length ns ws)(sb:Spn 51 bs)(hg:1<=g/\g<=1000000)(hi:∀i∈is,i<ns.length):∀r∈(is.map λ(i:Nat)=>(Yg (ZA bs g ns) g bs.length ns).getD i []),r.length=bs.length/\Bd 1023 r:=λr hr=>by
 have szw:=Cy net rfl sb hg
 have slw:SlW bs.length ws (Yg (ZA bs g ns) g bs.length ns):=by
  have z:=Dw net szw (Xi _ _ _) hg ns.length (zC _)
  rwa [yJ] at z
 obtain⟨i,him,rfl⟩:=zP.mp hr;have hin:=hi i him
 have hl:i<(Yg (ZA bs g ns) g bs.length ns).length:=by rw[Mj];exact hin
 have e:(Yg (ZA bs g ns) g bs.length ns).getD i []=(Yg (ZA bs g ns) g bs.length ns)[i]:=by simp[hl]
 obtain⟨z1,z2⟩:=slw i _ (zD hl);rw[e];have w:=(net.w1 (i:=(i:Int)) ⟨(),()⟩).2;rw[zL] at w;exact⟨z1,λp hp=>⟨(z2 p hp).2.1.mono (),(z2 p hp).2.2.mono ()⟩⟩
def sgn (i:Int)(k:Nat):Int:=if k%2=1 then -i else i
inductive Rows (S:Sto)(b:Nat):List D->List (List Int)->Prop
 | nil:Rows S b [] []
 | cons {a:Nat} {r:List Int} {ds:List D} {M:List (List Int)}:b<=a->S[a]?=some (.lst (r.map D.int))->Rows S b ds M->Rows S b (.ref a::ds) (r::M)
theorem EF {B:Nat}:∀ {l:List Int},(∀x∈l,x.natAbs<=B)->l.sum.natAbs<=l.length*B
 | [],_=>by simp
 | x::l,h=>by
  have h1:=h x (by simp)
  have h2:=EF (l:=l) λy hy=>h y (by simp[hy])
  rw[List.sum_cons,zU,Nat.succ_mul];lia
theorem zg5 {k:Nat}{l:List Int}(h:∀x∈l,Sz k x)(hl:l.length<=4):Sz (k+2) l.sum:=by
 have hp:0<2^k:=Nat.two_pow_pos k
 have h1:=EF (B:=2^k-1) (l:=l) λx hx=>by have:=h x hx;unfold Sz at this;lia
 have h2:l.length*(2^k-1)<=4*(2^k-1):=Nat.mul_le_mul_right _ hl;unfold Sz;rw[wL];lia
theorem zje {k n:Nat}{i:Int}(h:Sz k i):Sz k (sgn i n):=by
 unfold sgn;split
 .exact h.neg
 .exact h
theorem IK (h:S[n]?=some o)(hb:YX (Zm o)=some ns)(hq:Q (.int ns.sum) S):irr Py [.ref n] S Q:=by
 rw[Ug];unfold Py;simp only[ZM h (CQ hb),hb];exact hq
theorem Ph (l:List Int):YX (l.map D.int)=some l:=by
 induction l with
 | nil=>rfl
 | cons x l ih=>simp only[yH,YX,ih,xU]
inductive Ords (S:Sto)(b:Nat):List D->List (List Int×Int)->Prop
 | nil:Ords S b [] []
 | cons {a:Nat} {o:List Int×Int} {ds:List D} {os:List (List Int×Int)}:b<=a->S[a]?=some (.lst (o.1.map D.int))->Ords S b ds os->Ords S b (.tup [.ref a,.int o.2]::ds) (o::os)
theorem Ez (h:k<n):ixN n (k:Int)=some k:=by
 unfold ixN;rw[if_pos (),if_pos ()];rfl
def Fit (n:Nat)(o:List Int×Int):Prop:=o.1.length=n/\(∀x∈o.1,0<=x/\x<n)/\(o.2=1\/o.2=-1)
instance (n:Nat) (o:List Int×Int):Decidable (Fit n o):=by unfold Fit;infer_instance
theorem Di {xs:List D}{i:Nat}:Yb xs none (some (i:Int))=xs.take i:=by
 unfold L3.Yb;rw[HT.sIx_none,HT.sIx_nat,List.drop_zero,Nat.sub_zero];rw[List.take_eq_take_iff];lia
theorem DI {xs:List D}{i:Nat}:Yb xs (some (i:Int)) none=xs.drop i:=by
 unfold L3.Yb;rw[HT.sIx_none,HT.sIx_nat];rcases Nat.le_total i xs.length with h|h
 .rw[uJ h];exact yQ (by rw[wJ];exact zC _)
 .rw[Nat.min_eq_right h,uM (zC _),uM h];simp
theorem zgG {m a:Nat}{S:Sto}{ds:List D}{K:List D->Sto->Prop}(hm:S[m]?=some (.lst ds))(hd:ds[0]?=some (.ref a))(hK:K [.ref a] S):wIx (.ref m) (.int 0) S (λx S1=>K [x] S1):=by
 have z:=Zz (n:=m) (S:=S) (o:=.lst ds) (i:=0) (d:=.ref a) (Q:=λx S1=>K [x] S1) hm (Z6 (j:=0) hd) hK;rw[Wx] at z;exact z
theorem zck (h:i∈eqs rows):(true,i)∈rows:=by
 obtain⟨⟨b,n⟩,hr,e⟩:=wC.mp h;cases b
 .cases e
 .cases e;exact hr
theorem J0 (vs:LI):∀rows:List (Bool×Nat),YV (((rows.map rwD)).filterMap (λd=>match d with|.tup [.str w,.int at']=>if w="least" then some (.bl (decide (0<=(gt vs at').1))) else none|_=>none))=some (rows.filterMap λr=>if r.1 then none else some (decide (0<=(gt vs (r.2:Int)).1)))
 | []=>rfl
 | (false,n)::rs=>by
  show (YV ((rs.map rwD).filterMap _)).map _=_;rw[J0 vs rs];rfl
 | (true,n)::rs=>J0 vs rs
def CO (p q:Int×Int):Bool:=decide (q.1<p.1)&&decide (p.2<q.2)
theorem Ao (us vs:LI):YV (List.zipWith (λx y=>match x,y with|.tup [.int a,.int b],.tup [.int c,.int d]=>.bl (decide (c<a)&&decide (b<d))|_,_=>.non) (us.map frD) (vs.map frD))=some (List.zipWith CO us vs):=by
 induction us generalizing vs with
 | nil=>rfl
 | cons u us ih=>
  cases vs with
  | nil=>rfl
  | cons v vs=>
   show (YV (List.zipWith _ (us.map frD) (vs.map frD))).map _=_;rw[ih];rfl
theorem zcO (t w:Int)(hw:w≠0):(t.fdiv w).natAbs<=t.natAbs+1:=by
 rcases Int.lt_or_lt_of_ne hw with h|h
 .have e:t.fdiv w=(-t).fdiv (-w):=by rw[Int.neg_fdiv_neg]
  rw[e,vA _ ()];have:=uN (-t) (-w);lia
 .rw[vA _ ()];have:=uN t w;lia
theorem C3 {caps:List Nat}{ta:TDA}{tc:TDT}{te:TDE}{dl:Ev}{S S1:Sto}{Q:DK}{n:Nat}{xs:List D}(W:Nat->List D->Sto->Prop)(b:Nat->D->Bool)(hta:∀K:List D->Sto->Prop,K [.ref n] S1->ta dl S K)(h1:S1[n]?=some (.lst xs))(hw:∀k ys S2,W k ys S2->S2[n]?=some (.lst xs)/\S2[S1.length]?=some (.lst ys)/\ys.length<=k)(hl:xs.length<=900)(h0:W 0 [] (S1++[.lst []]))
  (hc:∀(k:Nat)(x:D)(ys:List D)(S2:Sto)(K:Bool->Sto->Prop),xs[k]?=some x->W k ys S2->K (b k x) S2->tc (some (.int (k:Int))::some x::Z8 caps dl) S2 K)
  (hno:∀(k:Nat)(x:D)(ys:List D)(S2:Sto),xs[k]?=some x->b k x=false->W k ys S2->W (k+1) ys S2)
  (ht:∀(k:Nat)(x:D)(ys:List D)(S2:Sto)(K:DK),xs[k]?=some x->b k x=true->W k ys S2->(∀y S3,S3[S1.length]?=some (.lst ys)->W (k+1) (ys++[y]) (S3.set S1.length (.lst (ys++[y])))->K y S3)->te (some (.int (k:Int))::some x::Z8 caps dl) S2 K)
  (hq:∀ys S2,W xs.length ys S2->Q (.ref S1.length) S2):US caps ta tc te dl S Q:=by
 unfold US;refine hta _ ⟨by rw[ZM h1 rfl];rfl,λk m S2=>(∃ys,W k ys S2)/\m+k=xs.length,⟨xs.length,⟨_,h0⟩,()⟩,?_⟩;rintro k m S2 ⟨⟨ys,w⟩,hm⟩;obtain⟨w1,w2,w3⟩:=hw _ _ _ w;rw[ZM w1 rfl];dsimp only[Zm];split
 .rename_i x hx;have hk:k<xs.length:=(zA.mp hx).1;unfold Et;refine hc k x ys S2 _ hx w ?_;cases e:b k x with
  | false=>
   rw[if_neg (zI)];exact⟨m-1,(),⟨_,hno k x ys S2 hx e w⟩,()⟩
  | true=>
   rw[if_pos rfl];refine ht k x ys S2 _ hx e w λy S3 e3 w4=>?_
   rw[e3];exact⟨(),m-1,(),⟨_,w4⟩,()⟩
 .rename_i hx;have hk:k=xs.length:=by
   have:=yP.mp hx;lia
  exact⟨hk,hq ys S2 (hk ▸ w)⟩
theorem RQ {xs:List D}{k:Nat}{d:D}{S:Sto}{Q:DK}(h:xs[k]?=some d)(hq:Q d S):Y7 wIx (.tup xs) (.int (k:Int)) S Q:=by
 rw[Wx];show (match atI xs (k:Int) with|some d=>Q d S|none=>False);rw[Z6 h];exact hq
inductive Ft where
 | wait|small|one
 | cut (k:Nat) (p:Int) (a b:Nat)
 | out (r:Nat) (vs:LI)
 | full (vs:LI)
def VM (a b:Nat)(S:Sto)(m:Nat)(vs:LI):Prop:=m≠a/\m≠b/\S[m]?=some (.lst (vs.map frD))
def V4 (a b:Nat)(S:Sto)(d:D):Ft->Prop
 | .wait=>d=.non
 | .small=>d=.tup [.str "small"]
 | .one=>∃d1 d2 d3 d4 d5:Nat,d=.tup [.str "one",.ref d1,.ref d2,.ref d3,.ref d4,.ref d5]
 | .cut k p x y=>d=.tup [.str "cut",.int k,.int p,.int x,.int y]
 | .out r vs=>∃m,d=.tup [.str "out",.int r,.ref m]/\VM a b S m vs
 | .full vs=>∃m,d=.tup [.str "full",.ref m]/\VM a b S m vs
def Cg (a b:Nat)(S T:Sto):Prop:=S.length<=T.length/\∀(x:Nat)(o:Ob),x≠a->x≠b->S[x]?=some o->T[x]?=some o
theorem Cg.refl:Cg a b S S:=⟨zC _,λ_ _ _ _ e=>e⟩
theorem Cg.trans {a b:Nat}{S T U:Sto}(h:Cg a b S T)(k:Cg a b T U):Cg a b S U:=⟨yE h.1 k.1,λx o na nb e=>k.2 x o na nb (h.2 x o na nb e)⟩
theorem Cg.pre {a b:Nat}{S T:Sto}(h:Pre S T):Cg a b S T:=⟨YI h,λx o _ _ e=>h x o e⟩
theorem Cg.seta (u:Ob):Cg a b S (S.set a u):=⟨by rw[yD];exact zC _,λx o na _ e=>Z4 e (Ne.symm na)⟩
theorem Cg.setb (u:Ob):Cg a b S (S.set b u):=⟨by rw[yD];exact zC _,λx o _ nb e=>Z4 e (Ne.symm nb)⟩
theorem VM.cg (h:VM a b S m vs)(c:Cg a b S T):VM a b T m vs:=⟨h.1,h.2.1,c.2 _ _ h.1 h.2.1 h.2.2⟩
theorem V4.cg (h:V4 a b S d f)(c:Cg a b S T):V4 a b T d f:=by
 cases f with
 | out r vs=>obtain⟨m,e,o⟩:=h;exact⟨m,e,o.cg c⟩
 | full vs=>obtain⟨m,e,o⟩:=h;exact⟨m,e,o.cg c⟩
 | wait=>exact h
 | small=>exact h
 | one=>exact h
 | cut k p x y=>exact h
structure Bk (C:Addr)(S:Sto)(n a b:Nat)(es:List LI)(fs:List Ft):Prop where
 ins:S[n]?=some (.ins C [("boxes",.ref a),("fates",.ref b)])
 bx:∃bs:List D,S[a]?=some (.lst bs)/\bs.length=es.length/\∀(i:Nat)(e:LI),es[i]?=some e->∃m,bs[i]?=some (.ref m)/\VM a b S m e
 ft:∃ds:List D,S[b]?=some (.lst ds)/\ds.length=fs.length/\∀(i:Nat)(f:Ft),fs[i]?=some f->∃d,ds[i]?=some d/\V4 a b S d f
 ne:a≠b
 len:es.length=fs.length
theorem Bk.na (h:Bk C S n a b es fs):n≠a/\n≠b:=by
 obtain⟨bs,h1,_⟩:=h.bx;obtain⟨ds,h2,_⟩:=h.ft;refine⟨λe=>?_,λe=>?_⟩
 .have:=h.ins;rw[e,h1] at this;cases this
 .have:=h.ins;rw[e,h2] at this;cases this
theorem Bk.pre {C:Addr}{S T:Sto}{n a b:Nat}{es:List LI}{fs:List Ft}(h:Bk C S n a b es fs)(p:Pre S T):Bk C T n a b es fs:=by
 obtain⟨bs,h1,h2,h3⟩:=h.bx;obtain⟨ds,k1,k2,k3⟩:=h.ft;refine⟨p _ _ h.ins,⟨bs,p _ _ h1,h2,λi e he=>?_⟩,⟨ds,p _ _ k1,k2,λi f hf=>?_⟩,h.ne,h.len⟩
 .obtain⟨m,e1,e2⟩:=h3 i e he;exact⟨m,e1,e2.cg (.pre p)⟩
 .obtain⟨d,e1,e2⟩:=k3 i f hf;exact⟨d,e1,e2.cg (.pre p)⟩
theorem Ry (h:(xs++[x])[i]?=some y):xs[i]?=some y\/(i=xs.length/\y=x):=by
 by_cases c:i<xs.length
 .rw[zJ c] at h;exact .inl h
 .have l:=(zA.mp h).1;rw[zQ] at l;have e:i=xs.length:=by simp at l;lia
  subst e;simp at h;exact .inr ⟨rfl,h.symm⟩
theorem Bk.put {C:Addr}{S:Sto}{n a b m:Nat}{es:List LI}{fs:List Ft}{e:LI}{bs ds:List D}(h:Bk C S n a b es fs)(o:VM a b S m e)(h1:S[a]?=some (.lst bs))(k1:S[b]?=some (.lst ds)):
  Bk C ((S.set a (.lst (bs++[.ref m]))).set b (.lst (ds++[.non]))) n a b (es++[e]) (fs++[.wait])/\Cg a b S ((S.set a (.lst (bs++[.ref m]))).set b (.lst (ds++[.non]))):=by
 have cg:Cg a b S ((S.set a (.lst (bs++[.ref m]))).set b (.lst (ds++[.non]))):=(Cg.seta _).trans (Cg.setb _);obtain⟨bs',h1',h2,h3⟩:=h.bx;rw[h1] at h1';cases h1'
 obtain⟨ds',k1',k2,k3⟩:=h.ft;rw[k1] at k1';cases k1'
 refine⟨⟨cg.2 _ _ h.na.1 h.na.2 h.ins,⟨_,Z4 (Yd h1) (Ne.symm h.ne),by simp[h2],λi x hx=>?_⟩,⟨_,Yd (Z4 k1 h.ne),by simp[k2],λi f hf=>?_⟩,h.ne,by simp[h.len]⟩,cg⟩
 .rcases Ry hx with z|⟨rfl,rfl⟩
  .obtain⟨q,q1,q2⟩:=h3 i x z;exact⟨q,by rw[zJ (zA.mp q1).1];exact q1,q2.cg cg⟩
  .exact⟨m,by rw[<- h2];simp,o.cg cg⟩
 .rcases Ry hf with z|⟨rfl,rfl⟩
  .obtain⟨q,q1,q2⟩:=k3 i f z;exact⟨q,by rw[zJ (zA.mp q1).1];exact q1,q2.cg cg⟩
  .exact⟨.non,by rw[<- k2];simp,rfl⟩
theorem Bk.fate (h:Bk C S n a b es fs)(o:V4 a b S d f)(k1:S[b]?=some (.lst ds)):
  Bk C (S.set b (.lst (ds.set i d))) n a b es (fs.set i f)/\Cg a b S (S.set b (.lst (ds.set i d))):=by
 have cg:Cg a b S (S.set b (.lst (ds.set i d))):=Cg.setb _;obtain⟨bs,h1,h2,h3⟩:=h.bx;obtain⟨ds',k1',k2,k3⟩:=h.ft;rw[k1] at k1';cases k1'
 refine⟨⟨cg.2 _ _ h.na.1 h.na.2 h.ins,⟨bs,Z4 h1 (Ne.symm h.ne),h2,λj x hx=>?_⟩,⟨_,Yd k1,by simp[k2],λj x hx=>?_⟩,h.ne,by simp[h.len]⟩,cg⟩
 .obtain⟨q,q1,q2⟩:=h3 j x hx;exact⟨q,q1,q2.cg cg⟩
 .by_cases c:i=j
  .subst c;have l:i<fs.length:=by
    have:=(zA.mp hx).1
    rwa [yD] at this
   rw[yB l] at hx;cases hx;exact⟨d,by rw[yB ()],o.cg cg⟩
  .rw[zT c] at hx;obtain⟨q,q1,q2⟩:=k3 j x hx;exact⟨q,by rw[zT c];exact q1,q2.cg cg⟩
theorem Bk.box {C:Addr}{S:Sto}{n a b i:Nat}{es:List LI}{fs:List Ft}{e:LI}(h:Bk C S n a b es fs)(he:es[i]?=some e):∃(bs:List D)(m:Nat),S[a]?=some (.lst bs)/\bs[i]?=some (.ref m)/\VM a b S m e:=by
 obtain⟨bs,h1,h2,h3⟩:=h.bx;obtain⟨m,q1,q2⟩:=h3 i e he;exact⟨bs,m,h1,q1,q2⟩
def wd (p:Int×Int):Int:=p.2-p.1
def Wst (bs:LI)(m:Int):Prop:=(∀p∈bs,wd p<=m)/\(bs=[]/\m=0\/∃p∈bs,m=wd p)
def suB (zero:Bool)(s:Int×Int):Bool:=if zero then decide (s.1=0)&&decide (s.2=0) else decide (0<=s.1)
def suS (ns:List Nd)(rows:List (Bool×Nat))(e:LI)(g:Int):Bool:=rows.all λr=>suB r.1 (gt (ZA e g ns) (r.2:Int))
def FOk (g fine:Int)(ns:List Nd)(rows:List (Bool×Nat))(e:LI):Ft->Prop
 | .out r vs=>∃row,rows[r]?=some row/\vs=ZA e g (ns.take (row.2+1))/\ibS ns row.1 row.2 e g=true
 | .full vs=>vs=ZA e g ns/\(∀row∈rows,ibS ns row.1 row.2 e g=false)/\suS ns rows e g=true
 | .one=>True
 | .small=>(∀p∈e,wd p<=fine)/\(∀row∈rows,ibS ns row.1 row.2 e g=false)/\suS ns rows e g=false
 | _=>False
inductive Bks (g fine:Int)(ns:List Nd)(rows:List (Bool×Nat))(b0:LI):List LI->List Ft->Prop
 | new:Bks g fine ns rows b0 [b0] [.wait]
 | cut {es:List LI} {fs:List Ft} {i k:Nat} {e:LI} {s:Int×Int} {p:Int}:Bks g fine ns rows b0 es fs->fs[i]?=some .wait->es[i]?=some e->e[k]?=some s->s.1<p->p<s.2->
   Bks g fine ns rows b0 (es++[e.set k (s.1,p)]++[e.set k (p,s.2)]) ((fs++[Ft.wait]++[Ft.wait]).set i (.cut k p es.length (es.length+1)))
 | put {es:List LI} {fs:List Ft} {i:Nat} {e:LI} {f:Ft}:Bks g fine ns rows b0 es fs->fs[i]?=some .wait->es[i]?=some e->FOk g fine ns rows e f->Bks g fine ns rows b0 es (fs.set i f)
theorem D7 (h:Spn n e)(hp:p.1<=p.2/\Sz n p.1/\Sz n p.2):Spn n (e.set k p):=λq hq=>by
 rcases wV hq with z|rfl
 .exact h q z
 .exact hp
theorem Bks.ok (sb:Spn 51 b0)(h:Bks g fine ns rows b0 es fs):es.length=fs.length/\∀e∈es,e.length=b0.length/\Spn 51 e:=by
 induction h with
 | new=>exact⟨rfl,λe he=>by cases zO.mp he;exact⟨rfl,sb⟩⟩
 | @cut es fs i k e s p _ hw he hs h1 h2 ih=>
  obtain⟨l,a⟩:=ih;obtain⟨le,se⟩:=a e (zE he);have ss:=se s (zE hs)
  have zp:Sz 51 p:=Sz.mid ss.2.1 ss.2.2 () ();refine⟨by simp[l],λx hx=>?_⟩;rcases zX.mp hx with hx|hx
  .rcases zX.mp hx with hx|hx
   .exact a x hx
   .cases zO.mp hx;exact⟨by rw[yD];exact le,D7 se ⟨by show s.1<=p;lia,ss.2.1,zp⟩⟩
  .cases zO.mp hx;exact⟨by rw[yD];exact le,D7 se ⟨by show p<=s.2;lia,zp,ss.2.2⟩⟩
 | put _ _ _ _ ih=>exact⟨by rw[yD];exact ih.1,ih.2⟩
theorem Bks.shave {g fine:Int}{ns:List Nd}{rows:List (Bool×Nat)}{b0 e:LI}{es:List LI}{fs:List Ft}{j r:Nat}{row:Bool×Nat}{c:Ct}(h:Bks g fine ns rows b0 es fs)(l:es.length=fs.length)(hw:fs[j]?=some .wait)(he:es[j]?=some e)(hk:c.k<e.length)(hs:isS ns row.1 row.2 g e c=true)(hr:rows[r]?=some row):
  e[c.k]?=some (gt e (c.k:Int))/\
  (es++[e.set c.k ((gt e (c.k:Int)).1,c.p)]++[e.set c.k (c.p,(gt e (c.k:Int)).2)])[es.length+(if c.s then 1 else 0)]?=some (e.set c.k (c.off (gt e (c.k:Int))))/\
  ((fs++[Ft.wait]++[Ft.wait]).set j (.cut c.k c.p es.length (es.length+1)))[es.length+(if c.s then 1 else 0)]?=some .wait/\
  Bks g fine ns rows b0 (es++[e.set c.k ((gt e (c.k:Int)).1,c.p)]++[e.set c.k (c.p,(gt e (c.k:Int)).2)]) (((fs++[Ft.wait]++[Ft.wait]).set j (.cut c.k c.p es.length (es.length+1))).set (es.length+(if c.s then 1 else 0)) (.out r (ZA (e.set c.k (c.off (gt e (c.k:Int)))) g (ns.take (row.2+1)))))/\
  (es++[e.set c.k ((gt e (c.k:Int)).1,c.p)]++[e.set c.k (c.p,(gt e (c.k:Int)).2)])[es.length+(if c.s then 0 else 1)]?=some (ctP e c)/\
  (((fs++[Ft.wait]++[Ft.wait]).set j (.cut c.k c.p es.length (es.length+1))).set (es.length+(if c.s then 1 else 0)) (.out r (ZA (e.set c.k (c.off (gt e (c.k:Int)))) g (ns.take (row.2+1)))))[es.length+(if c.s then 0 else 1)]?=some .wait:=by
 have hek:e[c.k]?=some (gt e (c.k:Int)):=by
  have z:=zD hk;rw[z,gt_at z]
 obtain⟨h1,h2⟩:=D4 hs;have B:=h.cut hw he hek h1 h2
 have ib:ibS ns row.1 row.2 (e.set c.k (c.off (gt e (c.k:Int)))) g=true:=by
  unfold isS at hs;rw[xT] at hs;exact hs.2
 have lj:=(zA.mp hw).1;obtain⟨ck,cp,cs⟩:=c;cases cs with
 | true=>
  have e1:(es++[e.set ck ((gt e (ck:Int)).1,cp)]++[e.set ck (cp,(gt e (ck:Int)).2)])[es.length+1]?=some (e.set ck (cp,(gt e (ck:Int)).2)):=by simp
  have e2:(es++[e.set ck ((gt e (ck:Int)).1,cp)]++[e.set ck (cp,(gt e (ck:Int)).2)])[es.length]?=some (e.set ck ((gt e (ck:Int)).1,cp)):=by simp
  have f1:((fs++[Ft.wait]++[Ft.wait]).set j (.cut ck cp es.length (es.length+1)))[es.length+1]?=some .wait:=by
   rw[zT (),l];simp
  have f2:((fs++[Ft.wait]++[Ft.wait]).set j (.cut ck cp es.length (es.length+1)))[es.length]?=some .wait:=by
   rw[zT (),l];simp
  refine⟨hek,e1,f1,B.put f1 e1 ⟨row,hr,rfl,ib⟩,e2,?_⟩;rw[if_pos rfl,if_pos rfl,zT ()];exact f2
 | false=>
  have e1:(es++[e.set ck ((gt e (ck:Int)).1,cp)]++[e.set ck (cp,(gt e (ck:Int)).2)])[es.length+1]?=some (e.set ck (cp,(gt e (ck:Int)).2)):=by simp
  have e2:(es++[e.set ck ((gt e (ck:Int)).1,cp)]++[e.set ck (cp,(gt e (ck:Int)).2)])[es.length]?=some (e.set ck ((gt e (ck:Int)).1,cp)):=by simp
  have f1:((fs++[Ft.wait]++[Ft.wait]).set j (.cut ck cp es.length (es.length+1)))[es.length+1]?=some .wait:=by
   rw[zT (),l];simp
  have f2:((fs++[Ft.wait]++[Ft.wait]).set j (.cut ck cp es.length (es.length+1)))[es.length]?=some .wait:=by
   rw[zT (),l];simp
  refine⟨hek,e2,f2,B.put f2 e2 ⟨row,hr,rfl,ib⟩,e1,?_⟩;rw[if_neg zI,if_neg zI,zT ()];exact f1
structure Sr (S:Sto)(nd rw:Nat)(g:Int)(ns:List Nd)(ws:List Nat)(rows:List (Bool×Nat))(u:Nat):Prop where
 nd:S[nd]?=some (.lst (ns.map Nd.d))
 rw:S[rw]?=some (.lst (rows.map rwD))
 net:ZK u ns ws
 hg:1<=g/\g<=1000000
 l70:ns.length<=70
 rl:rows.length<=4
 ri:∀r∈rows,r.2<ns.length
 u1:1<=u/\u<=4
theorem Sr.pre {S T:Sto}{nd rw u:Nat}{g:Int}{ns:List Nd}{ws:List Nat}{rows:List (Bool×Nat)}(h:Sr S nd rw g ns ws rows u)(p:Pre S T):Sr T nd rw g ns ws rows u:=⟨p _ _ h.nd,p _ _ h.rw,h.net,h.hg,h.l70,h.rl,h.ri,h.u1⟩
def Apt (nd rw a b:Nat):Prop:=(nd≠a/\nd≠b)/\rw≠a/\rw≠b
theorem Sr.cg {S T:Sto}{nd rw u a b:Nat}{g:Int}{ns:List Nd}{ws:List Nat}{rows:List (Bool×Nat)}(h:Sr S nd rw g ns ws rows u)(p:Apt nd rw a b)(c:Cg a b S T):Sr T nd rw g ns ws rows u:=⟨c.2 _ _ p.1.1 p.1.2 h.nd,c.2 _ _ p.2.1 p.2.2 h.rw,h.net,h.hg,h.l70,h.rl,h.ri,h.u1⟩
theorem rww (b:Bool):rwW b (if b then "zero" else "least"):=by
 cases b
 .exact .inr ⟨rfl,rfl⟩
 .exact .inl ⟨rfl,rfl⟩
theorem zdi {bs:LI}{cs:List Ct}{i:Nat}{c:Ct}(h:cs[i]?=some c):ctA bs (cs.take (i+1))=ctP (ctA bs (cs.take i)) c:=by
 rw[Xg h,Ee]
def Shd (es:List LI)(j:Nat)(es':List LI)(j':Nat):Prop:=es.length<=es'.length/\(es'.length=es.length->es'=es/\j'=j)
def FoAt (S:Sto)(d:D):Ft->Prop
 | .wait=>d=.tup [.str "waits"]
 | f=>∃a b,V4 a b S d f
def En (T:Sto)(ds:List D)(es:List LI)(fs:List Ft):Prop:=ds.length=es.length/\es.length=fs.length/\∀(i:Nat)(e:LI)(f:Ft),es[i]?=some e->fs[i]?=some f->∃(m:Nat)(d:D),ds[i]?=some (.tup [.ref m,d])/\T[m]?=some (.lst (e.map frD))/\FoAt T d f
def waD:D->D
 | .non=>.tup [.str "waits"]
 | d=>d
def C8 (x y:D):D:=.tup [x,waD y]
theorem Bk.told (h:Bk C S n a b es fs)(h1:S[a]?=some (.lst bs))(k1:S[b]?=some (.lst ds))(U:Sto):En (S++U) (List.zipWith C8 bs ds) es fs:=by
 obtain⟨bs',h1',h2,h3⟩:=h.bx;rw[h1] at h1';cases h1'
 obtain⟨ds',k1',k2,k3⟩:=h.ft;rw[k1] at k1';cases k1'
 have ll:=h.len;refine⟨by rw[wU];lia,h.len,λi e f he hf=>?_⟩;obtain⟨m,m1,m2⟩:=h3 i e he;obtain⟨d,d1,d2⟩:=k3 i f hf;refine⟨m,waD d,by rw[uK,m1,d1];rfl,Zt m2.2.2,?_⟩;have d3:=d2.cg (T:=S++U) (.pre λx o e=>Zt e);cases f with
 | wait=>cases d2;rfl
 | small=>cases d2;exact⟨a,b,d3⟩
 | one=>obtain⟨_,_,_,_,_,rfl⟩:=d2;exact⟨a,b,d3⟩
 | cut _ _ _ _=>cases d2;exact⟨a,b,d3⟩
 | out _ _=>obtain⟨_,rfl,_⟩:=d2;exact⟨a,b,d3⟩
 | full _=>obtain⟨_,rfl,_⟩:=d2;exact⟨a,b,d3⟩
theorem D8 (k:Nat)(v:Int):∀zs:List Int,∃o,XB (eqN k) (zs.map D.int) (.int v)=some o
 | []=>⟨none,rfl⟩
 | z::zs=>by
  obtain⟨o,ho⟩:=D8 k v zs;have e:eqN k (.int z) (.int v)=some (decide (z=v)):=by cases k<;>rfl
  rw[yH];unfold XB;rw[e,ho];cases decide (z=v)
  .exact⟨_,rfl⟩
  .exact⟨_,rfl⟩
theorem Dv {k:Nat}{v:Int}:∀ {zs:List Int},v∈zs->∃j,XB (eqN k) (zs.map D.int) (.int v)=some (some j)/\zs[j]?=some v
 | z::zs,h=>by
  obtain⟨o,ho⟩:=D8 k v zs;have e:eqN k (.int z) (.int v)=some (decide (z=v)):=by cases k<;>rfl
  rw[yH];unfold XB;rw[e];by_cases c:z=v
  .subst c;rw[decide_eq_true rfl,ho];exact⟨0,rfl,rfl⟩
  .have hm:v∈zs:=by
    rcases zS.mp h with q|q
    .exact absurd q.symm c
    .exact q
   obtain⟨j,h1,h2⟩:=Dv (k:=k) hm;rw[decide_eq_false c,h1];exact⟨j+1,rfl,h2⟩
theorem zgZ {k:Nat}{to:TDE}{t:TDA}{dl:Ev}{S S1:Sto}{Q:DK}{n:Nat}{zs:List Int}(R:Int->Sto->Prop)(hto:∀K:DK,K (.ref n) S1->to dl S K)(ht:∀K:List D->Sto->Prop,(∀v S2,R v S2->K [.int v] S2)->t dl S1 K)(h1:S1[n]?=some (.lst (zs.map D.int)))(hR:∀v S2,R v S2->S2[n]?=some (.lst (zs.map D.int))/\v∈zs)(hq:∀v S2 (j:Nat),R v S2->zs[j]?=some v->Q (.int (j:Int)) S2):U2 k to t dl S Q:=by
 unfold U2;refine hto _ ⟨by rw[ZM h1 rfl];rfl,ht _ λv S2 r=>?_⟩;obtain⟨h2,hv⟩:=hR v S2 r;unfold Rw;dsimp only;rw[ZM h2 rfl];dsimp only[Zm];obtain⟨j,e1,e2⟩:=Dv (k:=k) hv;rw[e1];exact hq v S2 j r e2
theorem zem {e:LI}{g:Int}{ns:List Nd}{k:Nat}(hk:k<ns.length):gt (ZA e g (ns.take (k+1))) (k:Int)=gt (ZA e g ns) (k:Int):=by
 rw[<- zf3 e g ns (k+1) (),zjg ⟨(),()⟩]
theorem DM (ns:List Nd)(e:LI)(g:Int):∀rows:List (Bool×Nat),YV ((rows.map rwD).map (λd=>match d with|.tup [.str w,.int at']=>.bl (suB (decide (w="zero")) (gt (ZA e g ns) at'))|_=>.non))=some (rows.map λr=>suB r.1 (gt (ZA e g ns) (r.2:Int)))
 | []=>rfl
 | (b,n)::rs=>by
  show (YV ((rs.map rwD).map _)).map _=_;rw[DM ns e g rs];cases b<;>rfl
theorem zap (ns:List Nd)(e:LI)(g:Int):∀rows:List (Bool×Nat),((rows.map λr=>suB r.1 (gt (ZA e g ns) (r.2:Int))).all id)=suS ns rows e g:=λrows=>by
 unfold suS;rw[List.all_map];rfl
def VJ (bs:LI):Int:=(bs.map wd).sum
theorem MB:∀ {bs:LI},Spn 51 bs->0<=VJ bs/\VJ bs<=bs.length*2^52/\∀p∈bs,wd p<=VJ bs
 | [],_=>⟨zV 0,⋯,λp hp=>(nomatch hp)⟩
 | p::bs,h=>by
  obtain⟨h1,h2,h3⟩:=MB (bs:=bs) λq hq=>h q (yG _ hq)
  obtain⟨a,b,c⟩:=h p (yS ..);have e:VJ (p::bs)=wd p+VJ bs:=rfl;unfold Sz at b c;have w0:0<=wd p:=by unfold wd;lia
  have w1:wd p<=2^52:=by unfold wd;lia
  rw[e];refine⟨(),by rw[zU];lia,λq hq=>?_⟩;rcases zS.mp hq with rfl|z
  .lia
  .have:=h3 q z;lia
theorem zhG {tl td:TDE}{dl:Ev}{S S1 S2:Sto}{Q:DK}{n:Nat}{zs:List Int}{e:D}(htl:∀K:DK,K (.ref n) S1->tl dl S K)(htd:∀K:DK,K e S2->td dl S1 K)(h:S2[n]?=some (.lst (zs.map D.int)))(h0:zs=[]->Q e S2)(hq:∀m,m∈zs->(∀y∈zs,y<=m)->Q (.int m) S2):NR tl td dl S Q:=by
 unfold NR;refine htl _ (htd _ ?_);unfold Te;dsimp only;rw[ZM h rfl];exact⟨zs,Ph zs,h0,hq⟩
theorem zh2 {caps:List Nat}{P:Addr}{lp:Pos}{q:Str}{tl te:TDE}{dl:Ev}{S S1:Sto}{Q:DK}{n t:Nat}{xs:List D}(htl:∀K:DK,K (.ref n) S1->tl dl S K)(ht:S1[t]?=some (.cod P lp q))(h:S1[n]?=some (.lst xs))(h0:xs=[]->Q .non S1)
  (hk:∀(v:D)(S2:Sto)(K:DK),v∈xs->Pre S1 S2->(∀(k:Int)(S3:Sto),Pre S2 S3->K (.int k) S3)->te (some v::Z8 caps dl) S2 K)(hq:∀(v:D)(S2:Sto),v∈xs->Pre S1 S2->Q v S2):M7 caps P lp q tl te dl S Q:=by
 unfold M7;refine htl _ ?_;unfold Qs;refine⟨⟨t,ht⟩,?_⟩;rw[ZM h rfl];dsimp only[Zm];exact⟨h0,λi v S2 hv p=>hk v S2 _ (zE hv) p λk S3 p3=>⟨⟨k,rfl⟩,λx o e=>p3 _ _ (p _ _ e)⟩,λi v S2 hv p=>hq v S2 (zE hv) p⟩
theorem VY {xs:List D}{i:Int}(k:Nat){d:D}{S:Sto}{Q:DK}(hi:i=(k:Int))(h:xs[k]?=some d)(hq:Q d S):Y7 wIx (.tup xs) (.int i) S Q:=by
 subst hi;exact RQ h hq
theorem Jq (h:S[n]?=some (.frz xs))(hq:Q (.int (xs.length:Nat)) S):irr TQ [.ref n] S Q:=by
 rw[Ug];unfold TQ;simp only[ZM h rfl];exact hq
theorem zdG {ns:List Int}{k:Int}(h0:0<=k)(h1:k<(ns.length:Int)):atI (ns.map D.int) k=some (.int (ns.getD k.toNat 0)):=by
 have hk:k.toNat<ns.length:=by lia
 have z:=Z6 (xs:=ns.map D.int) (j:=k.toNat) (v:=.int (ns.getD k.toNat 0)) (by simp[hk]);rw[show ((k.toNat:Nat):Int)=k by lia] at z;exact z
theorem DY (t:Int):Int.gcd t 1=1:=by simp
theorem zbJ (b k:Int):Int.gcd (b*k+1) b=1:=by
 have h:=vE (a:=b*k+1) (b:=b)
 have h2:=xP (a:=b*k+1) (b:=b)
 have h3:((Int.gcd (b*k+1) b:Nat):Int) ∣ 1:=by
  have z:=Int.dvd_sub h (Int.dvd_trans h2 (Int.dvd_mul_right b k))
  rwa [show b*k+1-b*k=1 by lia] at z
 have:=Int.eq_one_of_dvd_one () h3;lia
theorem zhh (net:ZK q ns ws)(hv:ns[k]?=some v):v.ok (ws.take k).length q/\v.wt (ws.take k)=ws.getD k 0/\(∀i:Int,inR (ws.take k).length i->(ws.take k).getD i.toNat 0<=16):=by
 obtain⟨ok,e,_,_⟩:=net.ok k v hv;have lk:=(zA.mp hv).1
 have ln:(ws.take k).length=k:=by rw[zM,net.len];lia
 have g:∀i:Int,inR (k:Nat) i->(ws.take k).getD i.toNat 0=ws.getD i.toNat 0:=λi hi=>by
  have h0:=hi.1
  have h1:=hi.2;rw[zZ,zZ,uF,if_pos ()]
 rw[ln];refine⟨ok,?_,λi hi=>?_⟩
 .rw[e];cases v with
  | number t b=>rfl
  | unknown j=>rfl
  | plus i j=>simp only[Nd.wt];rw[g i ok.1,g j ok.2]
  | minus i j=>simp only[Nd.wt];rw[g i ok.1,g j ok.2]
  | times i j=>simp only[Nd.wt];rw[g i ok.1,g j ok.2]
  | power i n=>simp only[Nd.wt];rw[g i ok.1]
 .rw[g i hi];exact(net.w1 ⟨hi.1,by have:=hi.2;lia⟩).2
theorem zgK {to te:TDE}{dl:Ev}{S S1:Sto}{Q:DK}{n:Nat}{xs:List D}(R:D->Sto->Prop)(hto:∀K:DK,K (.ref n) S1->to dl S K)(h:S1[n]?=some (.lst xs))(hte:∀K:DK,(∀y T,R y T->K y T)->te dl S1 K)(h2:∀y T,R y T->T[n]?=some (.lst xs))(hl:xs.length<1000)(hq:∀y T,R y T->Q .non (T.set n (.lst (xs++[y])))):W4 to te dl S Q:=by
 unfold W4;refine hto _ ?_;simp only[h];refine hte _ λy T r=>?_
 simp only[h2 y T r,if_pos hl];exact hq y T r
section
variable {X:Cx}{Z:Zx}{pos:Pos}
def Alk (S:Sto):Nat->D->D->Prop
 | 0,d,e=>eqF d e=some true
 | n+1,d,e=>(∃a,d=.ref a/\e=.ref a)\/Alk S n d e\/(∃xs ys,d=.tup xs/\e=.tup ys/\xs.length=ys.length/\∀(k:Nat)(x y:D),xs[k]?=some x->ys[k]?=some y->Alk S n x y)\/
  ∃a b xs ys,d=.ref a/\e=.ref b/\S[a]?=some (.lst xs)/\S[b]?=some (.lst ys)/\xs.length=ys.length/\∀(k:Nat)(x y:D),xs[k]?=some x->ys[k]?=some y->Alk S n x y
theorem D6 (n:Nat):(List.range n).all (λ_=>true)=true:=by simp
theorem Bo {n:Nat}{A:Around}{pins:LA}{σ:L3.St}{H:Hp}{s:Shared}{r:List Addr}{S:Sto}(I:Inv X pins σ H s)(aZ:Rel X.K Z r S H){a b:Nat}{xs ys:List D}{p p':Addr}(hp:r[a]?=some p)(hp':r[b]?=some p')(s1:S[a]?=some (.lst xs))(s2:S[b]?=some (.lst ys))(l:xs.length=ys.length)(hu:A.units<cLine)
  (f:∀ {d e:D} {v1 v2:V} {u1 u2:Value},Alk S n d e->Rp r H d v1->Rp r H e v2->Zv v1 u1->Zv v2 u2->SeqAt.EqAt A.in1 s u1 u2 true)(al:∀(k:Nat)(x y:D),xs[k]?=some x->ys[k]?=some y->Alk S n x y):SeqAt.RcAt A s (.ref p) (.ref p') true:=by
 obtain⟨z,hz,ob⟩:=aZ.at s1;rw[hp] at hz;cases hz
 obtain⟨z,hz,ob'⟩:=aZ.at s2;rw[hp'] at hz;cases hz
 obtain⟨vs,sq,pr⟩:=ob.list rfl;obtain⟨ws,sq',pr'⟩:=ob'.list rfl;obtain⟨is,ri,pl,_⟩:=I.list sq;obtain⟨js,rj,pl',_⟩:=I.list sq';have g1:=Ba (P:=λS=>Alk S n) (S:=S) f pr pr' ri rj al
 have hs:is.toArray.size=js.toArray.size:=by
  have a1:=ri.length
  have a2:=rj.length
  have a3:=pr.1
  have a4:=pr'.1;simp only[zH];show is.length=js.length
  have a3:xs.length=vs.length:=a3
  have a4:ys.length=ws.length:=a4;lia
 have q:=SeqAt.RcAt.lists (A:=A) (e:=λ_=>true) pl.isList pl'.isList hs hu g1;rw[D6] at q;exact q
theorem Og:∀(n:Nat) {A:Around} {pins:LA} {σ:L3.St} {H:Hp} {s:Shared} {r:List Addr} {S:Sto} {d e:D} {v1 v2:V} {u1 u2:Value},Inv X pins σ H s->Rel X.K Z r S H->Alk S n d e->Rp r H d v1->Rp r H e v2->Zv v1 u1->Zv v2 u2->A.units+n<cLine->SeqAt.EqAt A s u1 u2 true
 | 0,A,pins,σ,H,s,r,S,d,e,v1,v2,u1,u2,I,aZ,h,pd,pe,ru1,ru2,hu=>OA 0 X pins σ H s r A d e v1 v2 u1 u2 true I hu pd pe ru1 ru2 h
 | n+1,A,pins,σ,H,s,r,S,d,e,v1,v2,u1,u2,I,aZ,h,pd,pe,ru1,ru2,hu=>by
  rcases h with ⟨a,rfl,rfl⟩|h|⟨xs,ys,rfl,rfl,l,al⟩|⟨a,b,xs,ys,rfl,rfl,s1,s2,l,al⟩
  .cases pd with
   | @ref _ p hp=>
    cases pe with
    | @ref _ p' hp'=>
     rw[hp] at hp';cases hp';cases ru1;cases ru2;exact SeqAt.EqAt.same _
  .exact Og n I aZ h pd pe ru1 ru2 ()
  .cases pd with
   | @tup _ vs a h1 l1 f1=>
    cases pe with
    | @tup _ ws b h2 l2 f2=>
     cases ru1;cases ru2;by_cases hne:a=b
     .subst hne;exact SeqAt.EqAt.same _
     .obtain⟨is,ri,pl,_⟩:=I.tuple (SqT.of h1);obtain⟨js,rj,pl',_⟩:=I.tuple (SqT.of h2);have g1:=Ba (P:=λS=>Alk S n) (S:=S) (A:=A.in1) (λh p q r1 r2=>Og n I aZ h p q r1 r2 (by show A.units+1+n<_;lia)) ⟨l1,f1⟩ ⟨l2,f2⟩ ri rj al
      have q:=SeqAt.RcAt.tuples (A:=A) (e:=λ_=>true) pl pl' () g1
      have hs:(is.toArray.size==js.toArray.size)=true:=by
       have a1:=ri.length
       have a2:=rj.length;simp only[zH,beq_iff_eq];show is.length=js.length;lia
      rw[D6,hs] at q;exact SeqAt.EqAt.of_refs hne q
  .cases pd with
   | @ref _ p hp=>
    cases pe with
    | @ref _ p' hp'=>
     cases ru1;cases ru2;by_cases hne:p=p'
     .subst hne;exact SeqAt.EqAt.same _
     .exact SeqAt.EqAt.of_refs hne (Bo I aZ hp hp' s1 s2 l () (λh p q r1 r2=>Og n I aZ h p q r1 r2 (by show A.units+1+n<_;lia)) al)
def wEqK:W2:=λx y S Q=>match x,y with
 | .ref a,.ref b=>(∃xs ys,S[a]?=some (.lst xs)/\S[b]?=some (.lst ys)/\xs.length=ys.length/\∀(k:Nat)(x y:D),xs[k]?=some x->ys[k]?=some y->Alk S 5 x y)/\Q (.bl true) S
 | _,_=>False
theorem zc9 {j:Nat}(hr:ZH j X.A):OpR X (compareOp .Eq) (upO X.K Z wEqK):=by
 have hu:=hr.un;intro pins s σ H x y v u Qv I rx ry h;obtain⟨r,S,dx,dy,Q,aZ,px,py,q,ret⟩:=h;cases px with
 | @ref n a hn=>
  cases py with
  | @ref m a' hm=>
   cases rx;cases ry;obtain⟨⟨xs,ys,s1,s2,l,al⟩,q⟩:=(show (∃xs ys,_)/\_ from q);exact Bo I aZ hn hm s1 s2 l () (λh p q r1 r2=>Og 5 I aZ h p q r1 r2 (by show X.A.units+1+5<_;lia)) al X.prog X.w X.xe _ ⟨.bl true,H,I,rfl,ret _ _ _ _ _ Ext.refl aZ (.bl true) q⟩
  | _=>exact(show False from q).elim
 | _=>exact(show False from q).elim
end
theorem alk0 (h:eqF d e=some true):∀n,Alk S n d e
 | 0=>h
 | n+1=>.inr (.inl (alk0 h n))
theorem zdn (h:∀x∈xs,eqF x x=some true):Alk S (n+1) (.tup xs) (.tup xs):=.inr (.inr (.inl ⟨xs,xs,rfl,rfl,rfl,λk x y hx hy=>by
 rw[hx] at hy;cases hy;exact alk0 (h x (zE hx)) n⟩))
theorem zeK (i:Int):eqF (.int i) (.int i)=some true:=by simp[eqF]
theorem zd0 (p:Int×Int):Alk S (n+1) (frD p) (frD p):=zdn λx hx=>by
 simp only[zS,xG,or_false] at hx;rcases hx with rfl|rfl<;>exact zeK _
theorem zhm {S:Sto}{n a b:Nat}{α:Type}{f:α->D}{xs:List α}(hf:∀x,Alk S n (f x) (f x))(h1:S[a]?=some (.lst (xs.map f)))(h2:S[b]?=some (.lst (xs.map f))):Alk S (n+1) (.ref a) (.ref b):=.inr (.inr (.inr ⟨a,b,_,_,rfl,rfl,h1,h2,rfl,λk x y hx hy=>by
 rw[hx] at hy;cases hy;rw[zF] at hx;obtain⟨z,_,rfl⟩:=zG.mp hx;exact hf z⟩))
section
variable {X:Cx}{Z:Zx}{pos:Pos}
def Kz (t:TDE):TDT:=λdl S Q=>t dl S λd S'=>match d with
 | .ref n=>match lAt S' n with
  | some o=>Q (!(Zm o).isEmpty) S'
  | none=>False
 | _=>False
theorem B7 {e:Expr}{t:TDE}(h:PD X Z e t)(he:∀aO,isTrue e X.env aO=(do let v <- aO;standAt e.pos;holding [v] (truthy v)):=by intro _;rfl):PDT X Z e (Kz t):=
 R8 (zel h he) λσ H Qb ⟨r,dl,S,Q,rs,aZ,h,ret⟩=>⟨r,dl,S,_,rs,aZ,h,λv H' r' d S' e rel' p q=>by
  cases p with
  | ref hn=>
   dsimp only at q;split at q
   .rename_i o eo;obtain⟨eo,eL⟩:=Y1 eo;obtain⟨z,hz,ob⟩:=rel'.at eo;rw[hn] at hz;cases hz
    obtain⟨xs,sq,pr⟩:=ob.list eL;refine⟨!xs.isEmpty,.inl ⟨xs,sq,rfl⟩,?_⟩;have ex:xs.isEmpty=(Zm o).isEmpty:=by
     have l:=pr.1;cases xs<;>cases h2:Zm o<;>rw[h2] at l<;>simp at l<;>rfl
    rw[ex];exact ret _ _ _ _ e rel' q
   .exact q.elim
  | _=>exact(show False from q).elim⟩
end
theorem zbe {caps:List Nat}{ta:TDA}{te:TDE}{dl:Ev}{S S1:Sto}{Q:DK}{lo hi:Int}(P:Int->Prop)(hta:∀K:List D->Sto->Prop,K [.int lo,.int hi] S1->ta dl S K)(hb:(0<=lo/\lo<=1000)/\0<=hi/\hi<=1000)
  (ht:∀(k:Int)(S2:Sto)(K:DK),lo<=k->k<hi->Pre S1 S2->(∀c,P c->K (.int c) S2)->te (some (.int k)::Z8 caps dl) S2 K)(hq:∀cs:List Int,cs.length=(hi-lo).toNat->(∀c∈cs,P c)->Q (.ref S1.length) (S1++[.lst (cs.map D.int)])):Ri caps ta YH te dl S Q:=by
 unfold Ri;refine hta _ ⟨⟨(),(),(),()⟩,λk S2=>k<=(hi-lo).toNat/\∃cs:List Int,cs.length=k/\(∀c∈cs,P c)/\S2=S1++[.lst (cs.map D.int)],⟨zN _,[],rfl,λc hc=>(nomatch hc),rfl⟩,?_⟩;rintro k S2 ⟨hk,cs,lc,pc,rfl⟩;split
 .rename_i c;unfold WS YH;simp only[if_true];refine ht _ _ _ () () Pre.refl.push λv hv=>?_
  rw[Zq];dsimp only;refine⟨by rw[zB];lia,(),cs++[v],by simp[lc],λx hx=>?_,by rw[VF,yA];rfl⟩;rcases zX.mp hx with z|z
  .exact pc x z
  .cases zO.mp z;exact hv
 .rename_i c;exact hq cs () pc
theorem Sz.btw (h1:Sz B a)(h2:Sz B b)(h:(a<=p\/b<=p)/\(p<=a\/p<=b)):Sz B p:=by
 unfold Sz at *
 generalize 2^B=n at *
 lia
def Le (x:Int×Int)(a b:Int):Prop:=∀B,Sz B x.1->Sz B x.2->Sz B a/\Sz B b
theorem CP (h:0<b):t/b<=-(-t/b):=can (Int.le_trans (J6 t h).1 (zcS t h).1) h
theorem Le.hull (h:Le x a b)(k:Le x c d):Le x (if c<a then c else a) (if d > b then d else b):=λB z1 z2=>by
 obtain⟨p,q⟩:=h B z1 z2;obtain⟨r,s⟩:=k B z1 z2;exact⟨by split<;>assumption,by split<;>assumption⟩
theorem QL {p q r:Int×Int}(e:UB p q=some r):Le p r.1 r.2:=λB z1 z2=>by
 obtain⟨a,b,c⟩:=BP r e;exact⟨Sz.btw z1 z2 (),Sz.btw z1 z2 ()⟩
theorem zaP {n x N:Int}(hn:2<=n)(hx:0<x)(hN:0<N):0<((n-1)*x+N/x^(n-1).toNat)/n:=by
 have k:n<=(n-1)*x+N/x^(n-1).toNat:=by
  by_cases c:x=1
  .subst c;rw[Int.one_pow,Int.ediv_one,xN];lia
  .have a:=wN (show 2<=x by lia) (show 0<=n-1 by lia)
   have b:0<=N/x^(n-1).toNat:=vQ () (xR (yI hx));lia
 have:=Int.le_ediv_of_mul_le (show 0<n by lia) (show 1*n<=_ by rw[vP];exact k);lia
theorem Bd.at (h:Bd B vs)(hi:inR vs.length i):Sz B (gt vs i).1/\Sz B (gt vs i).2:=h _ (OH hi)
theorem Bd.put {B:Nat}{vs:LI}(h:Bd B vs){k:Nat}{u:Int×Int}(hu:Sz B u.1/\Sz B u.2):Bd B (vs.set k u):=λp hp=>by
 rcases wV hp with e|e
 .exact h p e
 .subst e;exact hu
def Ptw (m:Int)(l:List (Int×(Int×Int))):Prop:=l.length<=2/\∀p∈l,inR m p.1/\Sz 1000 p.2.1/\Sz 1000 p.2.2
theorem zd2 (hi:inR m i)(hj:inR m j)(h1:Sz 1000 a/\Sz 1000 b)(h2:Sz 1000 c/\Sz 1000 d):Ptw m [(i,a,b),(j,c,d)]:=⟨by simp,λp hp=>by
 simp only[zS,xG,or_false] at hp;rcases hp with rfl|rfl
 .exact⟨hi,h1⟩
 .exact⟨hj,h2⟩⟩
def ShOk (ns:List Nd)(zero:Bool)(k:Nat)(e:LI)(g:Int)(cs:List Ct)(o:Option LI):Prop:=(o=none->ibS ns zero k e g=true)/\cs.length<=2*e.length/\∀(i:Nat)(c:Ct),cs[i]?=some c->isS ns zero k g (ctA e (cs.take i)) c=true/\c.k<e.length
theorem FI (h:o=none->ibS ns zero k e g=true):ShOk ns zero k e g [] o:=⟨h,zN _,λi c hc=>by simp at hc⟩
theorem ixT2 {L U i v:Int}{S:Sto}{Q:DK}(h:i=0/\v=L\/i=1/\v=U)(hq:Q (.int v) S):Y7 wIx (.tup [.int L,.int U]) (.int i) S Q:=by
 rcases h with ⟨rfl,rfl⟩|⟨rfl,rfl⟩
 .exact RQ (k:=0) rfl hq
 .exact RQ (k:=1) rfl hq
theorem all_map {α:Type}{c:α->D}{P:α->Prop}:∀ {xs:List D},(∀d∈xs,∃x,d=c x/\P x)->∃r:List α,xs=r.map c/\∀x∈r,P x
 | [],_=>⟨[],rfl,λ_ h=>nomatch h⟩
 | d::xs,h=>by
  obtain⟨x,rfl,px⟩:=h d (by simp);obtain⟨r,rfl,pr⟩:=all_map (xs:=xs) λe he=>h e (by simp[he])
  exact⟨x::r,rfl,λy hy=>(zS.mp hy).elim (λz=>z ▸ px) (pr y)⟩
theorem Bd.up (h:Bd A vs)(l:A<=B):Bd B vs:=λp hp=>⟨(h p hp).1.mono l,(h p hp).2.mono l⟩
def RI (B q:Nat)(xs:List D):Prop:=∃r:List Int,xs=r.map D.int/\r.length=q/\∀x∈r,Sz B x
def RF (B q:Nat)(xs:List D):Prop:=∃r:LI,xs=r.map frD/\r.length=q/\Bd B r
def Mr (R:List D->Prop)(lo:Nat)(S:Sto)(ds:List D):Prop:=∀d∈ds,∃(a:Nat)(xs:List D),d=.ref a/\lo<=a/\S[a]?=some (.lst xs)/\R xs
theorem Mr.pre {R:List D->Prop}{lo:Nat}{S T:Sto}{ds:List D}(h:Mr R lo S ds)(p:Pre S T):Mr R lo T ds:=λd hd=>by
 obtain⟨a,xs,e,l,s,r⟩:=h d hd;exact⟨a,xs,e,l,p _ _ s,r⟩
theorem Mr.low {R:List D->Prop}{lo:Nat}{S:Sto}{ds:List D}(h:Mr R lo S ds):Mr R 0 S ds:=λd hd=>by
 obtain⟨a,xs,e,l,s,r⟩:=h d hd;exact⟨a,xs,e,zN _,s,r⟩
theorem Mr.put {R:List D->Prop}{L b:Nat}{S:Sto}{ys xs:List D}{o:Ob}(h:Mr R (L+1) S ys)(hb:L<b)(e:S[b]?=some (.lst xs))(r:R xs):Mr R (L+1) (S.set L o) (ys++[.ref b]):=λd hd=>by
 rcases zX.mp hd with z|z
 .obtain⟨a,xs,e,l,s,r⟩:=h d z;exact⟨a,xs,e,l,Z4 s (),r⟩
 .exact⟨b,xs,zO.mp z,hb,Z4 e (),r⟩
theorem F6 {caps:List Nat}{tl te:TDE}{dl:Ev}{S T0:Sto}{Q:DK}{n:Nat}{ds:List D}(R R':List D->Prop)(htl:∀K:DK,K (.ref n) T0->tl dl S K)(hn:T0[n]?=some (.lst ds))(rows:Mr R 0 T0 ds)(hl:ds.length<=1000)
  (ht:∀(a:Nat)(xs:List D)(S2:Sto)(K:DK),R xs->S2[a]?=some (.lst xs)->(∀(S3:Sto)(b:Nat)(ys:List D),Pre S2 S3->S2.length<=b->S3[b]?=some (.lst ys)->R' ys->K (.ref b) S3)->te (some (.ref a)::Z8 caps dl) S2 K)
  (hq:∀(S2:Sto)(ys:List D),Pre T0 S2->S2[T0.length]?=some (.lst ys)->ys.length=ds.length->Mr R' 0 S2 ys->Q (.ref T0.length) S2):XG caps tl YH te dl S Q:=by
 refine HP (S1:=T0) (n:=n) (o:=.lst ds) (λk ys S2=>Pre T0 S2/\S2[T0.length]?=some (.lst ys)/\ys.length=k/\Mr R' (T0.length+1) S2 ys) htl hn (λk ys S2 w=>⟨w.1 _ _ hn,w.2.1,w.2.2.1⟩) hl ⟨Pre.refl.push,Zq _ _,rfl,λ_ h=>nomatch h⟩ (λk x ys S2 K hx w hK=>?_) (λys S2 w=>hq S2 ys w.1 w.2.1 w.2.2.1 w.2.2.2.low);obtain⟨w1,w2,w3,w4⟩:=w;obtain⟨a,xs,rfl,_,ha,r⟩:=rows x (zE hx);refine ht a xs S2 K r (w1 _ _ ha) λS3 b zs p3 hb e3 r3=>?_
 have hlt:=ZV w2;exact hK _ S3 (p3 _ _ w2) ⟨F8 (w1.trans p3) (zC _),Yd (p3 _ _ w2),by simp[w3],(w4.pre p3).put () e3 r3⟩
theorem zhP {caps:List Nat}{ta:TDA}{te:TDE}{dl:Ev}{S T0:Sto}{Q:DK}{j:Nat}(R':List D->Prop)(hta:∀K:List D->Sto->Prop,K [.int (j:Int)] T0->ta dl S K)(hj:j<=1000)
  (ht:∀(k:Nat)(S2:Sto)(K:DK),k<j->Pre T0 S2->(∀(S3:Sto)(b:Nat)(ys:List D),Pre S2 S3->S2.length<=b->S3[b]?=some (.lst ys)->R' ys->K (.ref b) S3)->te (some (.int (k:Int))::Z8 caps dl) S2 K)
  (hq:∀(S2:Sto)(ys:List D),Pre T0 S2->S2[T0.length]?=some (.lst ys)->ys.length=j->Mr R' 0 S2 ys->Q (.ref T0.length) S2):W8 caps ta YH te dl S Q:=by
 refine DW (S1:=T0) (j:=(j:Int)) (λk ys S2=>Pre T0 S2/\S2[T0.length]?=some (.lst ys)/\ys.length=k/\Mr R' (T0.length+1) S2 ys) hta () (λk ys S2 w=>⟨w.2.1,w.2.2.1⟩) ⟨Pre.refl.push,Zq _ _,rfl,λ_ h=>nomatch h⟩ (λk ys S2 K hk w hK=>?_) (λys S2 w=>hq S2 ys w.1 w.2.1 w.2.2.1 w.2.2.2.low);obtain⟨w1,w2,w3,w4⟩:=w;refine ht k S2 K () w1 λS3 b zs p3 hb e3 r3=>?_
 have hlt:=ZV w2;exact hK _ S3 (p3 _ _ w2) ⟨F8 (w1.trans p3) (zC _),Yd (p3 _ _ w2),by simp[w3],(w4.pre p3).put () e3 r3⟩
theorem GW {P:D->Prop}{ys:List D}{d:D}(h:∀y∈ys,P y)(hd:P d):∀y∈ys++[d],P y:=λy hy=>(zX.mp hy).elim (h y) λz=>zO.mp z ▸ hd
theorem Bt {caps:List Nat}{tl te:TDE}{dl:Ev}{S S1:Sto}{Q:DK}{n:Nat}{o:Ob}(P:D->Prop)(htl:∀K:DK,K (.ref n) S1->tl dl S K)(h1:S1[n]?=some o)(hl:(Zm o).length<=1000)
  (ht:∀x∈Zm o,∀(S2:Sto)(K:DK),Pre S1 S2->(∀d,P d->K d S2)->te (some x::Z8 caps dl) S2 K)(hq:∀xs:List D,xs.length=(Zm o).length->(∀d∈xs,P d)->Q (.ref S1.length) (S1++[.lst xs]))(hL:Y8 o=some o:=by rfl):XG caps tl YH te dl S Q:=
 HP (S1:=S1) (n:=n) (o:=o) (λk ys S2=>S2=S1++[.lst ys]/\ys.length=k/\∀d∈ys,P d) htl h1 (λk ys S2 w=>by obtain⟨rfl,w⟩:=w;exact⟨Zt h1,Zq _ _,w.1⟩) hl ⟨rfl,rfl,λ_ h=>nomatch h⟩ (λk x ys S2 K hx w hK=>by
  obtain⟨rfl,w2,w3⟩:=w;exact ht x (zE hx) _ K Pre.refl.push λd hd=>hK d _ (Zq _ _) ⟨VF _ _ _,by simp[w2],GW w3 hd⟩) (λys S2 w=>by obtain⟨rfl,w⟩:=w;exact hq ys w.1 w.2) hL
theorem C5 {caps:List Nat}{ta:TDA}{te:TDE}{dl:Ev}{S S1:Sto}{Q:DK}{j:Nat}(P:D->Prop)(hta:∀K:List D->Sto->Prop,K [.int (j:Int)] S1->ta dl S K)(hj:j<=1000)
  (ht:∀(k:Nat)(S2:Sto)(K:DK),k<j->Pre S1 S2->(∀d,P d->K d S2)->te (some (.int (k:Int))::Z8 caps dl) S2 K)(hq:∀xs:List D,xs.length=j->(∀d∈xs,P d)->Q (.ref S1.length) (S1++[.lst xs])):W8 caps ta YH te dl S Q:=
 DW (S1:=S1) (j:=(j:Int)) (λk ys S2=>S2=S1++[.lst ys]/\ys.length=k/\∀d∈ys,P d) hta () (λk ys S2 w=>by obtain⟨rfl,w⟩:=w;exact⟨Zq _ _,w.1⟩) ⟨rfl,rfl,λ_ h=>nomatch h⟩ (λk ys S2 K hk w hK=>by
  obtain⟨rfl,w2,w3⟩:=w;exact ht k _ K () Pre.refl.push λd hd=>hK d _ (Zq _ _) ⟨VF _ _ _,by simp[w2],GW w3 hd⟩) (λys S2 w=>by obtain⟨rfl,w⟩:=w;exact hq ys w.1 w.2)
theorem Dp {caps:List Nat}{ta:TDA}{te:TDE}{dl:Ev}{S S1:Sto}{Q:DK}{n:Nat}{xs:List D}(P:D->Prop)(hta:∀K:List D->Sto->Prop,K [.ref n] S1->ta dl S K)(h1:S1[n]?=some (.lst xs))(hl:xs.length<=900)
  (ht:∀(k:Nat)(x:D),xs[k]?=some x->∀(S2:Sto)(K:DK),Pre S1 S2->(∀d,P d->K d S2)->te (some (.int (k:Int))::some x::Z8 caps dl) S2 K)(hq:∀ys:List D,ys.length=xs.length->(∀d∈ys,P d)->Q (.ref S1.length) (S1++[.lst ys])):US caps ta YH te dl S Q:=
 C3 (n:=n) (xs:=xs) (S1:=S1) (λk ys S2=>S2=S1++[.lst ys]/\ys.length=k/\∀d∈ys,P d) (λ_ _=>true) hta h1 (λk ys S2 w=>by obtain⟨rfl,w,_⟩:=w;exact⟨Zt h1,Zq _ _,()⟩) hl ⟨rfl,rfl,λ_ h=>nomatch h⟩ (λk x ys S2 K hx w hK=>by exact hK) (λk x ys S2 hx hb=>by cases hb) (λk x ys S2 K hx _ w hK=>by
  obtain⟨rfl,w2,w3⟩:=w;exact ht k x hx _ K Pre.refl.push λd hd=>hK d _ (Zq _ _) ⟨VF _ _ _,by simp[w2],GW w3 hd⟩) (λys S2 w=>by obtain⟨rfl,w⟩:=w;exact hq ys w.1 w.2)
theorem Mr.cut (h:Mr (RI B q) 0 S ds):Mr (RI B q) 0 S (ds.take i++ds.drop (i+1)):=λd hd=>h d ((zX.mp hd).elim uP uQ)
theorem zhV (hj:j<=n)(h:RI B (n+1) xs):RI B n (xs.take j++xs.drop (j+1)):=by
 obtain⟨r,rfl,l,z⟩:=h;exact⟨r.take j++r.drop (j+1),by rw[yA,xJ,List.map_drop],by simp;lia,λx hx=>z x ((zX.mp hx).elim uP uQ)⟩
theorem zh1 (h:Sz (3121+20+20) t)(hw:w≠0):Sz 3200 (t.fdiv w):=by
 have a:=zcO t w hw
 have b:t.natAbs<2^3161:=h
 have c:(2:Nat)^3200=2^3161*2^39:=by rw[<- wL]
 show (t.fdiv w).natAbs<2^3200;rw[c];generalize 2^3161=n at *
 lia
abbrev LP2:=LI
def Qi (e b0:LP2):Prop:=∀(k:Nat)(s:Int×Int),e[k]?=some s->∃s0,b0[k]?=some s0/\s0.1<=s.1/\s.2<=s0.2
theorem Qi.put {e b0:LP2}{k:Nat}{s p:Int×Int}(h:Qi e b0)(hs:e[k]?=some s)(h1:s.1<=p.1)(h2:p.2<=s.2):Qi (e.set k p) b0:=λj x hx=>by
 by_cases c:k=j
 .subst c;rw[yB (zA.mp hs).1] at hx;cases hx;obtain⟨s0,a,b,c⟩:=h k s hs;exact⟨s0,a,(),()⟩
 .rw[zT c] at hx;exact h j x hx
structure Tre (b0:LP2)(es:List LP2)(fs:List Ft):Prop where
 ln:es.length=fs.length
 rt:es[0]?=some b0
 sb:∀e∈es,Qi e b0
 ct:∀(i k:Nat)(p:Int)(a b:Nat),fs[i]?=some (.cut k p a b)->∃e s,es[i]?=some e/\e[k]?=some s/\s.1<p/\p<s.2/\i<a/\i<b/\es[a]?=some (e.set k (s.1,p))/\es[b]?=some (e.set k (p,s.2))
theorem Bks.tre (h:Bks g fine ns rows b0 es fs):Tre b0 es fs:=by
 induction h with
 | new=>exact⟨rfl,rfl,λe he=>by cases zO.mp he;exact λk s hs=>⟨s,hs,zV _,zV _⟩,λi k p a b hf=>by
   match i,hf with
   | 0,hf=>cases hf⟩
 | @cut es fs i k e s p _ hw he hs h1 h2 ih=>
  have li:=(zA.mp hw).1
  have ll:=ih.ln
  have up:∀(j:Nat)(x:LP2),es[j]?=some x->(es++[e.set k (s.1,p)]++[e.set k (p,s.2)])[j]?=some x:=λj x hx=>by
   have:=(zA.mp hx).1;rw[yV,zJ this];exact hx
  have se:=ih.sb e (zE he);refine⟨by simp[ll],up _ _ ih.rt,λx hx=>?_,λj k' p' a b hf=>?_⟩
  .rcases zX.mp hx with hx|hx
   .rcases zX.mp hx with hx|hx
    .exact ih.sb x hx
    .cases zO.mp hx;exact se.put hs (zV _) (xR h2)
   .cases zO.mp hx;exact se.put hs (xR h1) (zV _)
  .by_cases c:i=j
   .subst c;rw[yB (by simp;lia)] at hf;cases hf;exact⟨e,s,up _ _ he,hs,h1,h2,(),(),by simp,by simp⟩
   .rw[zT c] at hf;rcases Ry hf with z|⟨_,z⟩
    .rcases Ry z with z|⟨_,z⟩
     .obtain⟨e',s',q1,q2,q3,q4,q5,q6,q7,q8⟩:=ih.ct j k' p' a b z;exact⟨e',s',up _ _ q1,q2,q3,q4,q5,q6,up _ _ q7,up _ _ q8⟩
     .cases z
    .cases z
 | @put es fs i e f _ hw he ok ih=>
  refine⟨by rw[yD];exact ih.ln,ih.rt,ih.sb,λj k p a b hf=>?_⟩;by_cases c:i=j
  .subst c;rw[yB (zA.mp hw).1] at hf;cases hf;exact ok.elim
  .rw[zT c] at hf;exact ih.ct j k p a b hf
def Inb (e pt:LP2)(g:Int):Prop:=∀(k:Nat)(s a:Int×Int),e[k]?=some s->pt[k]?=some a->s.1*a.2<=a.1*g/\a.1*g<=s.2*a.2
inductive Lf (fs:List Ft)(pt:LP2)(g:Int):Nat->Nat->Prop
 | leaf {i:Nat}:(∀k p a b,fs[i]?≠some (.cut k p a b))->Lf fs pt g i i
 | low {i k a b r:Nat} {p:Int}:fs[i]?=some (.cut k p a b)->(gt pt (k:Int)).1*g<=p*(gt pt (k:Int)).2->Lf fs pt g a r->Lf fs pt g i r
 | high {i k a b r:Nat} {p:Int}:fs[i]?=some (.cut k p a b)->¬ (gt pt (k:Int)).1*g<=p*(gt pt (k:Int)).2->Lf fs pt g b r->Lf fs pt g i r
theorem Lf.det {fs:List Ft}{pt:LP2}{g:Int}{i r r':Nat}(h:Lf fs pt g i r)(h':Lf fs pt g i r'):r=r':=by
 induction h with
 | leaf n=>
  cases h' with
  | leaf _=>rfl
  | low e _ _=>exact absurd e (n _ _ _ _)
  | high e _ _=>exact absurd e (n _ _ _ _)
 | low e c _ ih=>
  cases h' with
  | leaf n=>exact absurd e (n _ _ _ _)
  | low e' c' l=>rw[e] at e';cases e';exact ih l
  | high e' c' l=>rw[e] at e';cases e';exact absurd c c'
 | high e c _ ih=>
  cases h' with
  | leaf n=>exact absurd e (n _ _ _ _)
  | low e' c' l=>rw[e] at e';cases e';exact absurd c' c
  | high e' c' l=>rw[e] at e';cases e';exact ih l
theorem Inb.put {e pt:LP2}{g:Int}{k:Nat}{s p:Int×Int}(h:Inb e pt g)(hs:e[k]?=some s)(hp:∀a,pt[k]?=some a->p.1*a.2<=a.1*g/\a.1*g<=p.2*a.2):Inb (e.set k p) pt g:=λj x a hx ha=>by
 by_cases c:k=j
 .subst c;rw[yB (zA.mp hs).1] at hx;cases hx;exact hp a ha
 .rw[zT c] at hx;exact h j x a hx ha
theorem Na {pt:LP2}{k:Nat}{a:Int×Int}(h:pt[k]?=some a):gt pt (k:Int)=a:=by
 unfold gt;rw[zL,zZ,h];rfl
theorem Lf.inb {b0:LP2}{es:List LP2}{fs:List Ft}{pt:LP2}{g:Int}(T:Tre b0 es fs){i r:Nat}(h:Lf fs pt g i r):∀e,es[i]?=some e->Inb e pt g->∃e',es[r]?=some e'/\Inb e' pt g:=by
 induction h with
 | leaf _=>exact λe he hi=>⟨e,he,hi⟩
 | low e c _ ih=>
  intro e0 he hi;obtain⟨e1,s,q1,q2,q3,q4,q5,q6,q7,q8⟩:=T.ct _ _ _ _ _ e;rw[he] at q1;cases q1
  refine ih _ q7 (hi.put q2 λa ha=>?_);rw[Na ha] at c;exact⟨(hi _ _ _ q2 ha).1,c⟩
 | high e c _ ih=>
  intro e0 he hi;obtain⟨e1,s,q1,q2,q3,q4,q5,q6,q7,q8⟩:=T.ct _ _ _ _ _ e;rw[he] at q1;cases q1
  refine ih _ q8 (hi.put q2 λa ha=>?_);rw[Na ha] at c;exact⟨by dsimp only;lia,(hi _ _ _ q2 ha).2⟩
structure Pk (q:Nat)(pt:LP2):Prop where
 ln:pt.length=q
 ok:∀a∈pt,1<=a.2/\Sz 100 a.1/\Sz 100 a.2
theorem Pk.at {q:Nat}{pt:LP2}(h:Pk q pt){k:Nat}(hk:k<q):∃a,pt[k]?=some a/\1<=a.2/\Sz 100 a.1/\Sz 100 a.2:=by
 have e:=zD (show k<pt.length by rw[h.ln];exact hk);exact⟨_,e,h.ok _ (zE e)⟩
theorem zaz {t b p g x y:Int}(hb:1<=b)(hg:1<=g)(e:t*g=p*b):(t*y<x*b)↔¬ x*g<=p*y:=by
 have e1:(t*y)*g=(p*y)*b:=by rw[xA,e,xA]
 have e2:(x*b)*g=(x*g)*b:=xA ..;constructor
 .intro h c;have h1:(t*y)*g<(x*b)*g:=vS h ()
  have h2:(x*g)*b<=(p*y)*b:=yR c ();lia
 .intro h;refine Int.lt_of_not_ge λc=>h ?_
  have h1:(x*b)*g<=(t*y)*g:=yR c ();rw[e1,e2] at h1;exact xI h1 ()
theorem Bm {lo hi top w sh g:Int}(h1:lo*w<=top)(h2:top<=hi*w)(hg:1<=g)(hs:1<=sh)(d1:top/sh*sh=top)(d2:g*w/sh*sh=g*w):lo*(g*w/sh)<=top/sh*g/\top/sh*g<=hi*(g*w/sh):=by
 generalize top/sh=t at *
 generalize g*w/sh=b at *
 subst d1;have z:∀x:Int,x*b*sh=x*w*g:=λx=>by rw[wW,d2,yX g w,wW]
 constructor
 .refine xI (a:=sh) ?_ ();rw[z lo,xA t g sh];exact yR h1 ()
 .refine xI (a:=sh) ?_ ();rw[z hi,xA t g sh];exact yR h2 ()
theorem Br {x top w sh g:Int}(hg:1<=g)(hs:1<=sh)(d1:top/sh*sh=top)(d2:g*w/sh*sh=g*w):(top<x*w->¬ x*(g*w/sh)<=top/sh*g)/\(x*w<top->¬ top/sh*g<=x*(g*w/sh)):=by
 generalize top/sh=t at *
 generalize g*w/sh=b at *
 subst d1;have z:x*b*sh=x*w*g:=by rw[wW,d2,yX g w,wW]
 constructor
 .intro h c;have a:=yR c (show 0<=sh by lia)
  have b':=vS h (show 0<g by lia);rw[z,xA t g sh] at a;lia
 .intro h c;have a:=yR c (show 0<=sh by lia)
  have b':=vS h (show 0<g by lia);rw[z,xA t g sh] at a;lia
theorem zia (hb:1<=b):1<=((Int.gcd a b:Nat):Int)/\a/(Int.gcd a b:Nat)*(Int.gcd a b:Nat)=a/\b/(Int.gcd a b:Nat)*(Int.gcd a b:Nat)=b/\1<=b/(Int.gcd a b:Nat):=by
 have h0:Int.gcd a b≠0:=λe=>by
  have:=(vZ.mp e).2;lia
 have h2:=xQ (xP (a:=a) (b:=b));refine⟨(),xQ (vE ..),h2,?_⟩;have:¬ b/(Int.gcd a b:Nat)<=0:=λc=>?_
 .lia
 have:b/(Int.gcd a b:Nat)*(Int.gcd a b:Nat)<=0:=Int.mul_nonpos_of_nonpos_of_nonneg c ();lia
structure Bq (S:Sto)(mb:Nat)(ds:List D)(es:List LP2)(fs:List Ft)(b0:LP2)(q:Nat)(g:Int):Prop where
 bk:S[mb]?=some (.lst ds)
 en:En S ds es fs
 tr:Tre b0 es fs
 l9:es.length<=900
 sp:∀e∈es,e.length=q/\Spn 51 e
 q4:1<=q/\q<=4
 hg:1<=g/\g<=1000000
structure Bp (S:Sto)(mb:Nat)(ds:List D)(es:List LP2)(fs:List Ft)(b0:LP2)(q p:Nat)(pt:LP2)(g:Int):Prop extends Bq S mb ds es fs b0 q g where
 pp:S[p]?=some (.lst (pt.map frD))
 pk:Pk q pt
theorem En.pre (h:En S ds es fs)(p:Pre S T):En T ds es fs:=⟨h.1,h.2.1,λi e f he hf=>by
 obtain⟨m,d,h1,h2,h3⟩:=h.2.2 i e f he hf;refine⟨m,d,h1,p _ _ h2,?_⟩;cases f with
 | wait=>exact h3
 | small=>obtain⟨a,b,z⟩:=h3;exact⟨a,b,z⟩
 | one=>obtain⟨a,b,z⟩:=h3;exact⟨a,b,z⟩
 | cut _ _ _ _=>obtain⟨a,b,z⟩:=h3;exact⟨a,b,z⟩
 | out _ _=>obtain⟨a,b,z⟩:=h3;exact⟨a,b,z.cg (.pre p)⟩
 | full _=>obtain⟨a,b,z⟩:=h3;exact⟨a,b,z.cg (.pre p)⟩⟩
theorem Bq.pre (h:Bq S mb ds es fs b0 q g)(x:Pre S T):Bq T mb ds es fs b0 q g:=⟨x _ _ h.bk,h.en.pre x,h.tr,h.l9,h.sp,h.q4,h.hg⟩
def Nc (d:D):Prop:=∃w:Str,w≠"cut"/\(d=.tup [.str w]\/(∃x,d=.tup [.str w,x])\/(∃x y,d=.tup [.str w,x,y])\/∃x y z u v,d=.tup [.str w,x,y,z,u,v])
theorem Bq.at (h:Bq S mb ds es fs b0 q g)(hi:i<es.length):∃(m:Nat)(e:LP2)(d:D),es[i]?=some e/\atI ds (i:Int)=some (.tup [.ref m,d])/\S[m]?=some (.lst (e.map frD))/\((∃(k a b:Nat)(x:Int),fs[i]?=some (.cut k x a b)/\d=.tup [.str "cut",.int k,.int x,.int a,.int b])\/((∀k x a b,fs[i]?≠some (.cut k x a b))/\Nc d)):=by
 have he:=zD hi;obtain⟨f,hf⟩:∃f,fs[i]?=some f:=⟨_,zD (show i<fs.length by have:=h.en.2.1;lia)⟩;obtain⟨m,d,h1,h2,h3⟩:=h.en.2.2 i _ _ he hf;have no:(∀k x a b,f≠.cut k x a b)->∀k x a b,fs[i]?≠some (.cut k x a b):=λz k x a b y=>z k x a b (by rw[hf] at y;exact Option.some.inj y)
 refine⟨m,_,d,he,Z6 h1,h2,?_⟩;cases f with
 | wait=>cases h3;exact .inr ⟨no λ_ _ _ _ z=>(nomatch z),_,⋯,.inl rfl⟩
 | small=>obtain⟨a,b,rfl⟩:=h3;exact .inr ⟨no λ_ _ _ _ z=>(nomatch z),_,⋯,.inl rfl⟩
 | one=>obtain⟨a,b,_,_,_,_,_,rfl⟩:=h3;exact .inr ⟨no λ_ _ _ _ z=>(nomatch z),_,⋯,.inr (.inr (.inr ⟨_,_,_,_,_,rfl⟩))⟩
 | cut k x a b=>obtain⟨_,_,rfl⟩:=h3;exact .inl ⟨k,a,b,x,hf,rfl⟩
 | out _ _=>obtain⟨a,b,_,rfl,_⟩:=h3;exact .inr ⟨no λ_ _ _ _ z=>(nomatch z),_,⋯,.inr (.inr (.inl ⟨_,_,rfl⟩))⟩
 | full _=>obtain⟨a,b,_,rfl,_⟩:=h3;exact .inr ⟨no λ_ _ _ _ z=>(nomatch z),_,⋯,.inr (.inl ⟨_,rfl⟩)⟩
theorem zhU:Inb (s::e) (a::pt) g↔(s.1*a.2<=a.1*g/\a.1*g<=s.2*a.2)/\Inb e pt g:=by
 refine⟨λh=>⟨h 0 s a rfl rfl,λk x y hx hy=>h (k+1) x y hx hy⟩,λh k x y hx hy=>?_⟩;cases k with
 | zero=>cases hx;cases hy;exact h.1
 | succ k=>exact h.2 k x y hx hy
def inB (g:Int)(s a:Int×Int):Bool:=decide (s.1*a.2<=a.1*g)&&decide (a.1*g<=s.2*a.2)
theorem Lo:∀ {e pt:LP2},(List.zipWith (inB g) e pt).all id=true↔Inb e pt g
 | [],_=>⟨λ_ k s a h=>by simp at h,λ_=>by simp⟩
 | _::_,[]=>⟨λ_ k s a _ h=>by simp at h,λ_=>by simp⟩
 | s::e,a::pt=>by
  rw[zhU,List.zipWith_cons_cons,List.all_cons,xT,Lo];unfold inB;simp
def inD (g:Int)(x y:D):D:=match x,y with
 | .tup [.int l,.int u],.tup [.int t,.int b]=>.bl (decide (l*b<=t*g)&&decide (t*g<=u*b))
 | _,_=>.non
theorem Ij (g:Int):∀e pt:LP2,YV (List.zipWith (inD g) (e.map frD) (pt.map frD))=some (List.zipWith (inB g) e pt)
 | [],_=>rfl
 | _::_,[]=>rfl
 | s::e,a::pt=>by
  show (YV (List.zipWith (inD g) (e.map frD) (pt.map frD))).map _=_;rw[Ij g e pt];rfl
theorem zid {lo hi w j:Int}(h:lo<=hi)(j0:0<=j)(jw:j<=w):lo*w<=lo*w+(hi-lo)*j/\lo*w+(hi-lo)*j<=hi*w:=by
 have a:0<=(hi-lo)*j:=xS () j0
 have b:(hi-lo)*j<=(hi-lo)*w:=wN jw ()
 have c:(hi-lo)*w=hi*w-lo*w:=Int.sub_mul ..;lia
theorem Pk.snoc (h:Pk q pt)(ha:1<=a.2/\Sz 100 a.1/\Sz 100 a.2):Pk (q+1) (pt++[a]):=⟨by simp[h.ln],λx hx=>by
 rcases zX.mp hx with z|z
 .exact h.ok x z
 .cases zO.mp z;exact ha⟩
theorem Inb.snoc (h:Inb e pt g)(hs:e[pt.length]?=some s)(ha:s.1*a.2<=a.1*g/\a.1*g<=s.2*a.2):Inb e (pt++[a]) g:=λk x y hx hy=>by
 rcases Ry hy with z|⟨rfl,rfl⟩
 .exact h k x y hx z
 .rw[hs] at hx;cases hx;exact ha
theorem Inb.nil:Inb e [] g:=λk x y _ hy=>by simp at hy
theorem Pk.nil:Pk 0 []:=⟨rfl,λa ha=>(nomatch ha)⟩
abbrev gdI (a b:Int):Int:=((Int.gcd a b:Nat):Int)
theorem JC {g w top:Int}(hg:1<=g/\g<=1000000)(hw:1<=w/\w<=9)(zt:Sz 61 top):(1<=gdI top (g*w)/\Sz 25 (gdI top (g*w)))/\top/gdI top (g*w)*gdI top (g*w)=top/\g*w/gdI top (g*w)*gdI top (g*w)=g*w/\1<=g*w/gdI top (g*w)/\Sz 100 (top/gdI top (g*w))/\Sz 100 (g*w/gdI top (g*w)):=by
 have gw:1<=g*w/\g*w<=9000000:=by
  have a:1*1<=g*w:=Int.mul_le_mul hg.1 hw.1 () ()
  have b:g*w<=1000000*9:=Int.mul_le_mul hg.2 hw.2 () ();lia
 obtain⟨d1,d2,d3,d4⟩:=zia (a:=top) (b:=g*w) gw.1;have le:((Int.gcd top (g*w):Nat):Int)<=g*w:=by
  have:=Int.le_of_dvd () (xP (a:=top) (b:=g*w));exact this
 have zg:Sz 25 (g*w):=Sz.of 9000000 ();refine⟨⟨d1,Sz.of 9000000 ()⟩,d2,d3,d4,(zt.div d1).mono ⋯,(zg.div d1).mono ⋯⟩
theorem Pk.put (h:Pk q pt)(ha:1<=a.2/\Sz 100 a.1/\Sz 100 a.2):Pk q (pt.set k a):=⟨by simp[h.ln],λx hx=>by
 rcases wV hx with z|rfl
 .exact h.ok x z
 .exact ha⟩
theorem zfU {e pt:LP2}{g:Int}{k:Nat}{s a:Int×Int}(hs:e[k]?=some s)(hk:k<pt.length)(h:¬ (s.1*a.2<=a.1*g/\a.1*g<=s.2*a.2)):¬ Inb e (pt.set k a) g:=λz=>h (z k s a hs (yB hk))
theorem zbc {n:Nat}{S:Sto}{t:TDE}{dl:Ev}{Q:Bool->Sto->Prop}{xs:List D}(ht:∀K:DK,K (.ref n) S->t dl S K)(h:S[n]?=some (.lst xs))(hq:Q (!xs.isEmpty) S):Kz t dl S Q:=by
 unfold Kz;refine ht _ ?_;dsimp only;rw[ZM h rfl];exact hq
def Zin (b0:LP2)(zs:List Int):Prop:=∀(k:Nat)(s:Int×Int)(z:Int),b0[k]?=some s->zs[k]?=some z->s.1<=z/\z<=s.2
def z1D (z:Int):D:=.tup [.int z,.int 1]
def cuD:D->Option D
 | .tup [.ref m,.tup (.str w::xs)]=>if w="cut" then some (.tup [.ref m,.tup (.str w::xs)]) else none
 | _=>none
theorem cu_is (B:Bq S mb ds es fs b0 q g)(hx:x∈ds.filterMap cuD):∃(i m k a b:Nat)(p:Int)(e:LP2),es[i]?=some e/\x=.tup [.ref m,.tup [.str "cut",.int k,.int p,.int a,.int b]]/\S[m]?=some (.lst (e.map frD))/\fs[i]?=some (.cut k p a b):=by
 obtain⟨y,hy,e⟩:=wC.mp hx;obtain⟨i,hi⟩:=xM.mp hy;have li:=(zA.mp hi).1
 have ln:=B.en.1;obtain⟨m,e0,d,he,hd,hm,hc⟩:=B.at (show i<es.length by lia);rw[Z6 (j:=i) hi] at hd;cases hd;rcases hc with ⟨k,a,b,p,hf,rfl⟩|⟨_,w,hw,rfl|⟨_,rfl⟩|⟨_,_,rfl⟩|⟨_,_,_,_,_,rfl⟩⟩
 .unfold cuD at e;dsimp only at e;rw[if_pos rfl] at e;cases e;exact⟨i,m,k,a,b,p,e0,he,rfl,hm,hf⟩
 all_goals
  unfold cuD at e;dsimp only at e;rw[if_neg hw] at e;cases e
theorem Zin.box (h:Qi e b0)(se:Spn 51 e)(c:Int×Int->Int)(hc:∀s,c s=s.1\/c s=s.2):Zin b0 (e.map c):=λk s z hs hz=>by
 rw[zF] at hz;obtain⟨s',hs',rfl⟩:=zG.mp hz;obtain⟨s0,h0,h1,h2⟩:=h k s' hs';rw[hs] at h0;cases h0;have:=(se s' (zE hs')).1;rcases hc s' with e|e<;>lia
theorem Zin.put (h:Zin b0 zs)(hk:k<zs.length)(hp:∀s,b0[k]?=some s->s.1<=p/\p<=s.2):Zin b0 (zs.set k p):=λj s z hs hz=>by
 by_cases c:k=j
 .subst c;rw[yB hk] at hz;cases hz;exact hp s hs
 .rw[zT c] at hz;exact h j s z hs hz
def Kp (S:Sto)(ds:List D)(T:Sto)(ys:List D):Prop:=ys.length=ds.length/\∀(i m:Nat)(d:D)(xs:List D),ds[i]?=some (.tup [.ref m,d])->S[m]?=some (.lst xs)->∃m',ys[i]?=some (.tup [.ref m',d])/\T[m']?=some (.lst xs)
theorem Kp.pre (h:Kp S ds T ys)(p:Pre T T'):Kp S ds T' ys:=⟨h.1,λi m d xs h1 h2=>by
 obtain⟨m',a,b⟩:=h.2 i m d xs h1 h2;exact⟨m',a,p _ _ b⟩⟩
theorem Du {caps:List Nat}{tl te:TDE}{dl:Ev}{S:Sto}{Q:DK}{n:Nat}{ds:List D}(htl:∀K:DK,K (.ref n) S->tl dl S K)(h1:S[n]?=some (.lst ds))(l9:ds.length<=900)(hd:∀x∈ds,∃m d xs,x=.tup [.ref m,d]/\S[m]?=some (.lst xs))
  (ht:∀(m:Nat)(d:D)(xs:List D)(S2:Sto)(K:DK),S2[m]?=some (.lst xs)->K (.tup [.ref S2.length,d]) (S2++[.lst xs])->te (some (.tup [.ref m,d])::Z8 caps dl) S2 K)(hq:∀(T:Sto)(ys:List D),Pre S T->T[S.length]?=some (.lst ys)->Kp S ds T ys->Q (.ref S.length) T):XG caps tl YH te dl S Q:=by
 refine HP (n:=n) (S1:=S) (o:=.lst ds) (λk ys S2=>Pre S S2/\S2[S.length]?=some (.lst ys)/\ys.length=k/\∀(i m:Nat)(d:D)(xs:List D),i<k->ds[i]?=some (.tup [.ref m,d])->S[m]?=some (.lst xs)->∃m',S.length<m'/\ys[i]?=some (.tup [.ref m',d])/\S2[m']?=some (.lst xs)) htl h1 (λk ys S2 w=>⟨w.1 _ _ h1,w.2.1,w.2.2.1⟩) (by show ds.length<=1000;lia) ⟨Pre.refl.push,Zq _ _,rfl,λi m d xs z=>absurd z ()⟩ (λk x ys S2 K hx w hK=>?_) (λys S2 w=>?_)
 .have hx':ds[k]?=some x:=hx;obtain⟨pr,hy,ly,hold⟩:=w;obtain⟨m,d,xs,rfl,hm⟩:=hd x (zE hx');have l0:S.length<S2.length:=ZV hy;refine ht m d xs S2 K (pr _ _ hm) (hK _ _ (Zt hy) ⟨YN (Xq pr _) (zC _),Yd (Zt hy),by simp[ly],λi m' d' xs' hi h1 h2=>?_⟩);by_cases c:i=k
  .subst c;rw[hx'] at h1;cases h1;rw[hm] at h2;cases h2;exact⟨S2.length,l0,by rw[<- ly];simp,Z4 (Zq _ _) ()⟩
  .obtain⟨m2,a,b,e⟩:=hold i m' d' xs' () h1 h2;exact⟨m2,a,by rw[zJ ()];exact b,Z4 (Zt e) ()⟩
 .obtain⟨pr,hy,ly,hold⟩:=w;have ly':ys.length=ds.length:=ly;refine hq S2 ys pr hy ⟨ly',λi m d xs h1 h2=>?_⟩;obtain⟨m',_,b,e⟩:=hold i m d xs (zA.mp h1).1 h1 h2;exact⟨m',b,e⟩
def Ow (x:D):Prop:=eqF x x=some true\/∃a,x=.ref a
theorem U1:∀x∈([]:List D),Ow x:=λ_ h=>(nomatch h)
theorem YU {a:D}{l:List D}(h:Ow a)(t:∀x∈l,Ow x):∀x∈a::l,Ow x:=λx hx=>by
 rcases zS.mp hx with rfl|z
 .exact h
 .exact t x z
theorem Q9 (i:Int):Ow (.int i):=.inl (by simp[eqF])
theorem zeZ (a:Nat):Ow (.ref a):=.inr ⟨a,rfl⟩
theorem Tu (h:∀x∈xs,Ow x):Alk S (n+2) (.tup xs) (.tup xs):=.inr (.inr (.inl ⟨xs,xs,rfl,rfl,rfl,λk x y hx hy=>by
 rw[hx] at hy;cases hy;rcases h x (zE hx) with z|⟨a,rfl⟩
 .exact alk0 z _
 .exact .inl ⟨a,rfl,rfl⟩⟩))
theorem zbM (h:FoAt S d f):Alk T (n+2) d d:=by
 have r:=zeZ;cases f with
 | wait=>cases h;exact Tu (YU (.inl rfl) U1)
 | small=>obtain⟨_,_,rfl⟩:=h;exact Tu (YU (.inl rfl) U1)
 | one=>obtain⟨_,_,_,_,_,_,_,rfl⟩:=h;exact Tu (YU (.inl rfl) (YU (r _) (YU (r _) (YU (r _) (YU (r _) (YU (r _) U1))))))
 | cut _ _ _ _=>obtain⟨_,_,rfl⟩:=h;exact Tu (YU (.inl rfl) (YU (Q9 _) (YU (Q9 _) (YU (Q9 _) (YU (Q9 _) U1)))))
 | out _ _=>obtain⟨_,_,_,rfl,_⟩:=h;exact Tu (YU (.inl rfl) (YU (Q9 _) (YU (r _) U1)))
 | full _=>obtain⟨_,_,_,rfl,_⟩:=h;exact Tu (YU (.inl rfl) (YU (r _) U1))
theorem zb6 (en:En S ds es fs)(h1:Kp S ds T ys)(h2:Kp S ds T zs):ys.length=zs.length/\∀(k:Nat)(x y:D),ys[k]?=some x->zs[k]?=some y->Alk T 5 x y:=by
 refine⟨h1.1.trans h2.1.symm,λk x y hx hy=>?_⟩;have lk:=(zA.mp hx).1
 have l1:=h1.1
 have l2:=en.1
 have l3:=en.2.1;obtain⟨m,d,q1,q2,q3⟩:=en.2.2 k _ _ (zD (show k<es.length by lia)) (zD (show k<fs.length by lia));obtain⟨m1,a1,b1⟩:=h1.2 k m d _ q1 q2;obtain⟨m2,a2,b2⟩:=h2.2 k m d _ q1 q2;rw[hx] at a1;rw[hy] at a2;cases a1;cases a2;refine .inr (.inr (.inl ⟨_,_,rfl,rfl,rfl,λj x y hx hy=>?_⟩))
 match j,hx,hy with
 | 0,hx,hy=>cases hx;cases hy;exact zhm (λp=>zd0 p) b1 b2
 | 1,hx,hy=>cases hx;cases hy;exact zbM q3
def Ptz (q:Nat)(bs:LP2)(g:Int)(S:Sto)(mp:Nat)(ps:List D):Prop:=∀d∈ps,∃(m:Nat)(pt:LP2),d=.ref m/\m≠mp/\S[m]?=some (.lst (pt.map frD))/\Pk q pt/\Inb bs pt g
abbrev dL (q:Nat)(g:Int)(xs:List (Option D)):List (Option D):=some (.ref 0)::some (.int (q:Int))::some (.int g)::some (.ref 2)::xs
abbrev dM (q:Nat)(g:Int)(m mr:Nat)(f k:Int)(xs:List (Option D)):List (Option D):=dL q g (some (.ref m)::some (.ref mr)::some (.int f)::some (.int k)::xs)
structure E3 (K:Fg)(mg:Str->Option Value) where
 C:Addr
 m:mg "Book"=some (.ref C)
 cl:Cls K C
 n_fates:Yq K C "fates"
 n_boxes:Yq K C "boxes"
 makes:W.makesIn K C=true
 kp:W.keepIn K (.ref C)=true
structure Dl (K:Fg)(mg:Str->Option Value) where
 C:Addr
 m:mg "Number"=some (.ref C)
 cl:Cls K C
 n_bottom:Yq K C "bottom"
 n_top:Yq K C "top"
 makes:W.makesIn K C=true
 kp:W.keepIn K (.ref C)=true
structure CF (K:Fg)(mg:Str->Option Value) where
 C:Addr
 m:mg "Unknown"=some (.ref C)
 cl:Cls K C
 n_place:Yq K C "place"
 makes:W.makesIn K C=true
 kp:W.keepIn K (.ref C)=true
structure FE (K:Fg)(mg:Str->Option Value) where
 C:Addr
 m:mg "Plus"=some (.ref C)
 cl:Cls K C
 n_other:Yq K C "other"
 n_one:Yq K C "one"
 makes:W.makesIn K C=true
 kp:W.keepIn K (.ref C)=true
structure EN (K:Fg)(mg:Str->Option Value) where
 C:Addr
 m:mg "Minus"=some (.ref C)
 cl:Cls K C
 n_other:Yq K C "other"
 n_one:Yq K C "one"
 makes:W.makesIn K C=true
 kp:W.keepIn K (.ref C)=true
structure DV (K:Fg)(mg:Str->Option Value) where
 C:Addr
 m:mg "Times"=some (.ref C)
 cl:Cls K C
 n_other:Yq K C "other"
 n_one:Yq K C "one"
 makes:W.makesIn K C=true
 kp:W.keepIn K (.ref C)=true
structure BE (K:Fg)(mg:Str->Option Value) where
 C:Addr
 m:mg "Power"=some (.ref C)
 cl:Cls K C
 n_many:Yq K C "many"
 n_one:Yq K C "one"
 makes:W.makesIn K C=true
 kp:W.keepIn K (.ref C)=true
class Ev5 where
 P:Program
 w:World
 K:Fg
 mg:Str->Option Value
 base:Heap
 c0:E3 K mg
 c1:Dl K mg
 c2:CF K mg
 c3:FE K mg
 c4:EN K mg
 c5:DV K mg
 c6:BE K mg
 y0:mg "abs"=none
 y1:mg "all"=none
 y2:mg "bool"=none
 y3:mg "enumerate"=none
 y4:mg "int"=none
 y5:mg "isinstance"=none
 y6:mg "len"=none
 y7:mg "list"=none
 y8:mg "max"=none
 y9:mg "min"=none
 y10:mg "range"=none
 y11:mg "sum"=none
 y12:mg "zip"=none
abbrev Zn [e:Ev5]:=e.c0
abbrev ZU [e:Ev5]:=e.c1
abbrev ZY [e:Ev5]:=e.c2
abbrev Z2 [e:Ev5]:=e.c3
abbrev ZZ [e:Ev5]:=e.c4
abbrev Z1 [e:Ev5]:=e.c5
abbrev ZJ [e:Ev5]:=e.c6
theorem Vh [e:Ev5]:type_of% e.y0:=e.y0
theorem VL [e:Ev5]:type_of% e.y1:=e.y1
theorem TZ [e:Ev5]:type_of% e.y2:=e.y2
theorem XF [e:Ev5]:type_of% e.y3:=e.y3
theorem Tf [e:Ev5]:type_of% e.y4:=e.y4
theorem VR [e:Ev5]:type_of% e.y5:=e.y5
theorem Yv [e:Ev5]:type_of% e.y6:=e.y6
theorem Xp [e:Ev5]:type_of% e.y7:=e.y7
theorem Y3 [e:Ev5]:type_of% e.y8:=e.y8
theorem Xv [e:Ev5]:type_of% e.y9:=e.y9
theorem YQ [e:Ev5]:type_of% e.y10:=e.y10
theorem V1 [e:Ev5]:type_of% e.y11:=e.y11
theorem Wn [e:Ev5]:type_of% e.y12:=e.y12
abbrev Nd.oz [Ev5] (v:Nd):Ob:=v.ob ZU.C ZY.C Z2.C ZZ.C Z1.C ZJ.C
structure Pr [e:Ev5] (C:Addr)(c:Int->Int->Nd):Prop where
 cl:Cls e.K C
 o:Yq e.K C "one"
 t:Yq e.K C "other"
 b:∀i j,(c i j).oz=.ins C [("one",.int i),("other",.int j)]
 k:∀m q i j,(c i j).ok m q=(inR m i/\inR m j)
theorem Kn [Ev5]:Pr Z2.C .plus:=⟨Z2.cl,Z2.n_one,Z2.n_other,λ_ _=>rfl,λ_ _ _ _=>rfl⟩
theorem Gw [Ev5]:Pr ZZ.C .minus:=⟨ZZ.cl,ZZ.n_one,ZZ.n_other,λ_ _=>rfl,λ_ _ _ _=>rfl⟩
theorem Jg [Ev5]:Pr Z1.C .times:=⟨Z1.cl,Z1.n_one,Z1.n_other,λ_ _=>rfl,λ_ _ _ _=>rfl⟩
def aN (p:Prop):List D->Prop
 | []=>p
 | _=>False
theorem aN_e {p:Prop}:∀ {ds:List D},aN p ds->ds=[]/\p
 | [],h=>⟨rfl,h⟩
 | _::_,h=>h.elim
theorem nN {p:Prop}{ds:List D}(h:aN p ds):ds.length=0:=by rw[(aN_e h).1];rfl
def aR (f:Nat->List D->Prop):List D->Prop
 | .ref a::r=>f a r
 | _=>False
theorem aR_e {f:Nat->List D->Prop}{ds:List D}(h:aR f ds):∃a r,ds=.ref a::r/\f a r:=by
 match ds,h with
 | .ref a::r,h=>exact⟨a,r,rfl,h⟩
theorem nR {f:Nat->List D->Prop}{n:Nat}(k:∀a {r:List D},f a r->r.length=n){ds:List D}(h:aR f ds):ds.length=n+1:=by
 obtain⟨a,r,rfl,h⟩:=aR_e h;rw[zU,k a h]
def aI (f:Int->List D->Prop):List D->Prop
 | .int a::r=>f a r
 | _=>False
theorem aI_e {f:Int->List D->Prop}{ds:List D}(h:aI f ds):∃a r,ds=.int a::r/\f a r:=by
 match ds,h with
 | .int a::r,h=>exact⟨a,r,rfl,h⟩
theorem nI {f:Int->List D->Prop}{n:Nat}(k:∀a {r:List D},f a r->r.length=n){ds:List D}(h:aI f ds):ds.length=n+1:=by
 obtain⟨a,r,rfl,h⟩:=aI_e h;rw[zU,k a h]
def aS (f:Str->List D->Prop):List D->Prop
 | .str a::r=>f a r
 | _=>False
theorem aS_e {f:Str->List D->Prop}{ds:List D}(h:aS f ds):∃a r,ds=.str a::r/\f a r:=by
 match ds,h with
 | .str a::r,h=>exact⟨a,r,rfl,h⟩
theorem nS {f:Str->List D->Prop}{n:Nat}(k:∀a {r:List D},f a r->r.length=n){ds:List D}(h:aS f ds):ds.length=n+1:=by
 obtain⟨a,r,rfl,h⟩:=aS_e h;rw[zU,k a h]
def aP (f:Int->Int->List D->Prop):List D->Prop
 | .tup [.int a,.int b]::r=>f a b r
 | _=>False
theorem aP_e {f:Int->Int->List D->Prop}{ds:List D}(h:aP f ds):∃a b r,ds=.tup [.int a,.int b]::r/\f a b r:=by
 match ds,h with
 | .tup [.int a,.int b]::r,h=>exact⟨a,b,r,rfl,h⟩
theorem nP {f:Int->Int->List D->Prop}{n:Nat}(k:∀a b {r:List D},f a b r->r.length=n){ds:List D}(h:aP f ds):ds.length=n+1:=by
 obtain⟨a,b,r,rfl,h⟩:=aP_e h;rw[zU,k a b h]
def aT (f:Str->Int->List D->Prop):List D->Prop
 | .tup [.str a,.int b]::r=>f a b r
 | _=>False
theorem aT_e {f:Str->Int->List D->Prop}{ds:List D}(h:aT f ds):∃a b r,ds=.tup [.str a,.int b]::r/\f a b r:=by
 match ds,h with
 | .tup [.str a,.int b]::r,h=>exact⟨a,b,r,rfl,h⟩
theorem nT {f:Str->Int->List D->Prop}{n:Nat}(k:∀a b {r:List D},f a b r->r.length=n){ds:List D}(h:aT f ds):ds.length=n+1:=by
 obtain⟨a,b,r,rfl,h⟩:=aT_e h;rw[zU,k a b h]
def aD (f:D->List D->Prop):List D->Prop
 | a::r=>f a r
 | []=>False
theorem aD_e {f:D->List D->Prop}:∀ {ds:List D},aD f ds->∃a r,ds=a::r/\f a r
 | a::r,h=>⟨a,r,rfl,h⟩
 | [],h=>h.elim
theorem nD {f:D->List D->Prop}{n:Nat}(k:∀a {r:List D},f a r->r.length=n){ds:List D}(h:aD f ds):ds.length=n+1:=by
 obtain⟨a,r,rfl,h⟩:=aD_e h;rw[zU,k a h]
theorem eR {f:Nat->Prop}{ds:List D}(h:(aR λa0=>aN (f a0)) ds):∃a0,ds=[.ref a0]/\f a0:=by
 obtain⟨a0,_,e0,h⟩:=aR_e h;obtain⟨e,h⟩:=aN_e h;exact⟨a0,by rw[e0,e],h⟩
abbrev Gg (g:Int):Prop:=1<=g/\g<=1000000
theorem rmn {j k:Nat}{A:Around}(r:ZH k A)(h:j<=k:=by decide):ZH j A:=r.mono h
theorem piv {X:Cx}{Z:Zx}(i:Nat){x:Str}{n:Int}{j p q p2}(h:PD X Z (.Name x p) (Xh i):=by exact dv _)(hs:SM (.Constant (.int n) j q):=by exact λ_ _=>rfl):PD X Z (.Subscript (.Name x p) (.Constant (.int n) j q) p2) (dOp wIx (Xh i) (dC (.int n))):=Y2 h Zd hs
theorem pt0 {Y:List (Str×Addr)->Addr->Shared->Hp->List Addr->LA->Cx}(a b c d e f):W0 (Y a b c d e f) [] YH:=BX
abbrev sR (n:Nat):Option D:=some (.ref n)
abbrev sI (n:Int):Option D:=some (.int n)
abbrev La (S:Sto)(n:Nat)(xs:List D):Prop:=S[n]?=some (.lst xs)
abbrev mSx (f:Sto->DK->(Addr->Sto->Prop)->List D->Prop):Sd:=λds S Q ex=>f S Q ex ds
def Ej:Sd:=mSx λS Q ex=>aI λc=>aN (0<=c/\∀g:Int,1<=g->g<=1000000->Q (.int g) S)
def P6:Sd:=mSx λS Q ex=>aR λn=>aI λk=>aN (∃ns:List Int,S[n]?=some (.frz (ns.map D.int))/\(0<=k/\k<=1000)/\∀c:Int,(0<=c/\c<2147483629)->Q (.int c) S)
def DP:Sd:=mSx λS Q ex=>aR λn=>aI λu=>aN (∃(ns:List Int)(q:Nat),S[n]?=some (.frz (ns.map D.int))/\u=(q:Int)/\(1<=q/\q<=4)/\∀bs:LI,bs.length=q->Spn 51 bs->Q (.ref S.length) (S++[.lst (bs.map frD)]))
def DD:Sd:=mSx λS Q ex=>aI λc=>aI λm=>aN ((0<=c/\c<2147483629/\1<=m/\m<=60)/\∀v:Nd,(∀q:Int,v.ok m q)->Q v.d S)
def Lp:Sd:=mSx λS Q ex=>aD λd=>aR λn=>aN (∃(v:Nd)(ws:List Nat)(q:Int),d=v.d/\S[n]?=some (Ob.lst (ws.map wtD))/\v.ok ws.length q/\(∀i:Int,inR ws.length i->ws.getD i.toNat 0<=16)/\Q (.int (v.wt ws:Nat)) S)
def Ey:Sd:=mSx λS Q ex=>aR λc=>aI λq=>aN (∃(cs:List D)(qn:Nat),La S c cs/\(∀x∈cs,∃i:Int,x=.int i/\0<=i/\i<2147483629)/\q=qn/\(1<=qn/\qn<=4)/\cs.length<=20/\∀(ns:List Nd)(ws:List Nat)(T:Sto)(m:Nat),ZK qn ns ws->1<=ns.length->ns.length<=24->Pre S T->S.length<=m->La T m (ns.map Nd.d)->Q (.ref m) T)
def Rf:Sd:=mSx λS Q ex=>aI λa=>aI λb=>aN (Q (.int ((Int.gcd a b:Nat):Int)) S)
def Eh:Sd:=mSx λS Q ex=>aI λx=>aI λn=>aN ((0<=n/\n<=6/\Sz 2000 x)/\Q (.int (x^n.toNat)) S)
def EJ:Sd:=mSx λS Q ex=>aR λa=>aR λb=>aN (∃(ns:List Nd)(ws:List Nat)(ps:LI),La S a (ns.map Nd.d)/\La S b (ps.map frD)/\ZK ps.length ns ws/\Pz 110 ps/\ns.length<=70/\∀(T:Sto)(m:Nat),Pre S T->S.length<=m->La T m ((ZG ps ns).map frD)->Q (.ref m) T)
def EU:Sd:=mSx λS Q ex=>aR λa=>aD λd=>aN (∃(q:Nat)(v:Nd)(ns:List Nd)(ws:List Nat),d=v.d/\La S a (ns.map Nd.d)/\ns.length<900/\ZK q ns ws/\v.ok ns.length q/\v.wt ws<=16/\∀(T:Sto)(j:Nat)(ns':List Nd)(ws':List Nat),Gr q a 1 S ns ws T ns' ws'->j<ns'.length->ns'[j]?=some v->ws'.getD j 0=v.wt ws->(∀P,gt (ZG P ns') (j:Int)=v.due (ZG P ns) P)->Q (.int (j:Int)) T)
def FC:Sd:=mSx λS Q ex=>aR λa=>aN (∃(ns:List Nd)(ws:List Nat)(q:Int),La S a (ns.map Nd.d)/\ZK q ns ws/\ns.length<=70/\∀T:Sto,Pre S T->La T S.length (ws.map wtD)->Q (.ref S.length) T)
def BH:Sd:=mSx λS Q ex=>aR λa=>aR λb=>aI λg=>aI λc=>aI λpl=>aN (∃(q:Nat)(ns:List Nd)(ws:List Nat)(bs:LI),La S a (ns.map Nd.d)/\La S b (bs.map frD)/\ZK q ns ws/\bs.length=q/\q<=4/\Spn 51 bs/\(Gg g)/\0<=c/\0<=pl/\(1<=ns.length/\ns.length<=60)/\∀(T:Sto)(ns':List Nd)(ws':List Nat)(r:Bool×Nat),Gr q a 2 S ns ws T ns' ws'->r.2<ns'.length->Q (rwD r) T)
def ER:Sd:=mSx λS Q ex=>aR λn=>aR λa=>aR λb=>aI λg=>aN (∃(q:Nat)(xs:List Int)(ns:List Nd)(ws:List Nat)(bs:LI),S[n]?=some (.frz (xs.map D.int))/\La S a (ns.map Nd.d)/\La S b (bs.map frD)/\a≠b/\ZK q ns ws/\bs.length=q/\q<=4/\Spn 51 bs/\(Gg g)/\(1<=ns.length/\ns.length<=50)/\∀(T:Sto)(m:Nat)(ns':List Nd)(ws':List Nat)(rows:List (Bool×Nat)),Gr q a 6 S ns ws T ns' ws'->rows.length<=3->(∀r∈rows,r.2<ns'.length)->S.length<=m->La T m (rows.map rwD)->Q (.ref m) T)
def FK [Ev5]:Sd:=mSx λS Q ex=>aR λn=>aR λx=>aN (∃(T:Sto)(b0:LI),S=T++[.ins Zn.C []]/\n=T.length/\La T x (b0.map frD)/\∀(U:Sto)(a b:Nat),T.length<a->T.length<b->Pre T U->Bk Zn.C U n a b [b0] [.wait]->Q .non U)
def Bb [Ev5]:Sd:=mSx λS Q ex=>aR λn=>aN (∃(a b:Nat)(es:List LI)(fs:List Ft),Bk Zn.C S n a b es fs/\es.length<=900/\∀(T:Sto)(ds:List D),Pre S T->La T S.length ds->En T ds es fs->Q (.ref S.length) T)
def Cp:Sd:=mSx λS Q ex=>aP λa b=>aN (Q (.int (b-a)) S)
def NL:Sd:=mSx λS Q ex=>aR λn=>aN (∃bs:LI,La S n (bs.map frD)/\bs.length<=900/\Q (.ref S.length) (S++[.lst ((bs.map wd).map D.int)]))
def Ot:Sd:=mSx λS Q ex=>aR λn=>aN (∃bs:LI,La S n (bs.map frD)/\bs.length<=900/\∀(m:Int)(T:Sto),Pre S T->Wst bs m->Q (.int m) T)
def Js [Ev5]:Sd:=mSx λS Q ex=>aR λn=>aN (∃(a b t:Nat)(es:List LI)(fs:List Ft),Bk Zn.C S n a b es fs/\S[t]?=some (.cod LT LP LQ)/\es.length<=900/\(∀e∈es,e.length<=900)/\((∀f∈fs,f≠.wait)->∀T:Sto,Pre S T->Q .non T)/\∀(i:Nat)(T:Sto),fs[i]?=some .wait->Pre S T->Q (.int (i:Int)) T)
def Hh:Sd:=mSx λS Q ex=>aS λw=>aP λa b=>aN ((w="zero"/\Q (.bl (decide (0<a)||decide (b<0))) S)\/(w="least"/\Q (.bl (decide (b<0))) S))
def IB:Sd:=mSx λS Q ex=>aP λa b=>aP λc d=>aN ((IntMulOk a d/\IntMulOk c b)/\Q (.bl (decide (a*d<c*b))) S)
def R9:Sd:=mSx λS Q ex=>aI λt=>aI λb=>aN (CFd 0 b/\Q (.int (-(-t/b))) S)
def D5:Sd:=mSx λS Q ex=>aP λa b=>aP λc d=>aI λg=>aN (((IntMulOk c b/\IntMulOk a d)/\¬ c*b<a*d/\IntMulOk a g/\IntMulOk c g/\CFd 0 b/\CFd 0 d)/\Q (.tup [.int (a*g/b),.int (-(-(c*g)/d))]) S)
abbrev Sj [Ev5] (S:Sto)(Q:DK)(n:Nat)(w:Nat)(p:Nat)(g:Int)(v:Nd):Prop:=∃(vs bs:LI),S[n]?=some (Nd.oz v)/\La S w (vs.map frD)/\La S p (bs.map frD)/\Nd.ok vs.length bs.length v/\Spn 1400 vs/\(Gg g)/\Q (frD (Nd.fw vs bs g v)) S
def G3 [Ev5]:Sd:=mSx λS Q ex=>aR λn=>aR λw=>aR λp=>aI λg=>aN (∃(x y:Int),Sj S Q n w p g (Nd.number x y))
def HB [Ev5]:Sd:=mSx λS Q ex=>aR λn=>aR λw=>aR λp=>aI λg=>aN (∃(k:Int),Sj S Q n w p g (Nd.unknown k))
def Ui:Sd:=mSx λS Q ex=>aP λa b=>aP λc d=>aN (Q (.tup [.int (a+c),.int (b+d)]) S)
def KA [Ev5]:Sd:=mSx λS Q ex=>aR λn=>aR λw=>aR λp=>aI λg=>aN (∃(i j:Int),Sj S Q n w p g (Nd.plus i j))
def V0:Sd:=mSx λS Q ex=>aP λa b=>aP λc d=>aN (Q (.tup [.int (a-d),.int (b-c)]) S)
def Hl [Ev5]:Sd:=mSx λS Q ex=>aR λn=>aR λw=>aR λp=>aI λg=>aN (∃(i j:Int),Sj S Q n w p g (Nd.minus i j))
def Q4:Sd:=mSx λS Q ex=>aP λa b=>aP λc d=>aI λg=>aN (((IntMulOk a c/\IntMulOk a d/\IntMulOk b c/\IntMulOk b d)/\CFd 0 g)/\∀mn mx:Int,SO a b c d mn mx->Q (.tup [.int (mn/g),.int (-(-mx/g))]) S)
def HX [Ev5]:Sd:=mSx λS Q ex=>aR λn=>aR λw=>aR λp=>aI λg=>aN (∃(i j:Int),Sj S Q n w p g (Nd.times i j))
def Tn:Sd:=mSx λS Q ex=>aI λx=>aI λn=>aN ((0<=n/\n<=6/\Sz 2000 x)/\Q (.int (x^n.toNat)) S)
def Gq:Sd:=mSx λS Q ex=>aP λa b=>aI λn=>aI λg=>aN ((1<=n/\n<=6/\Sz 1400 a/\Sz 1400 b/\1<=g/\Sz 1400 g)/\∀m M:Int,VP a b n.toNat m M->Q (.tup [.int (m/g^(n.toNat-1)),.int (-(-M/g^(n.toNat-1)))]) S)
def Ji [Ev5]:Sd:=mSx λS Q ex=>aR λn=>aR λw=>aR λp=>aI λg=>aN (∃(i m:Int),Sj S Q n w p g (Nd.power i m))
def Sw (C:Addr)(a b:Str):Sd:=mSx λS Q ex=>aR λn=>aD λx=>aD λy=>aN (∃T:Sto,S=T++[.ins C []]/\n=T.length/\Q .non (T++[.ins C [(a,x),(b,y)]]))
abbrev Cf [Ev5]:=Sw ZJ.C "one" "many"
abbrev EE [Ev5]:=Sw ZU.C "top" "bottom"
def Bj [Ev5]:Sd:=mSx λS Q ex=>aR λn=>aD λx=>aN (∃T:Sto,S=T++[.ins ZY.C []]/\n=T.length/\Q .non (T++[.ins ZY.C [("place",x)]]))
abbrev zb9 [Ev5]:=Sw Z2.C "one" "other"
abbrev zfF [Ev5]:=Sw ZZ.C "one" "other"
abbrev A0 [Ev5]:=Sw Z1.C "one" "other"
def Pd [Ev5]:Sd:=mSx λS Q ex=>aD λd=>aN (∃v:Nd,d=v.d/\Q (.ref S.length) (S++[v.oz]))
def VC:Sd:=mSx λS Q ex=>aR λa=>aR λb=>aI λg=>aN (∃(ns:List Nd)(ws:List Nat)(bs:LI),La S a (ns.map Nd.d)/\La S b (bs.map frD)/\ZK bs.length ns ws/\Spn 51 bs/\(Gg g)/\ns.length<=70/\∀(T:Sto)(m:Nat),Pre S T->S.length<=m->La T m ((ZA bs g ns).map frD)->Q (.ref m) T)
def Lr:Sd:=mSx λS Q ex=>aR λa=>aT λw k=>aR λb=>aI λg=>aN (∃(ns:List Nd)(ws:List Nat)(bs:LI)(zero:Bool),La S a (ns.map Nd.d)/\La S b (bs.map frD)/\rwW zero w/\inR ns.length k/\ZK bs.length ns ws/\Spn 51 bs/\(Gg g)/\ns.length<=70/\∀T:Sto,Pre S T->Q (.bl (ibS ns zero k.toNat bs g)) T)
def T7:Sd:=mSx λS Q ex=>aP λa b=>aP λc d=>aN ((UB (a,b) (c,d)=none->Q .non S)/\∀p,UB (a,b) (c,d)=some p->Q (frD p) S)
def EC:Sd:=mSx λS Q ex=>aS λw=>aP λa b=>aN (∃zero:Bool,rwW zero w/\(Q .non S/\∀c d:Int,Le (a,b) c d->Q (.tup [.int c,.int d]) S))
abbrev Ni [Ev5] (S:Sto)(Q:DK)(n:Nat)(w:Nat)(z0 z1:Int)(g:Int)(v:Nd):Prop:=∃(vs:LI)(q:Int),S[n]?=some (Nd.oz v)/\La S w (vs.map frD)/\Nd.ok vs.length q v/\(Bd 1000 vs/\(Sz 1000 z0/\Sz 1000 z1)/\(Gg g))/\Q .non S/\∀l,Ptw vs.length l->Q (.ref S.length) (S++[.lst (l.map ptD)])
def Lw [Ev5]:Sd:=mSx λS Q ex=>aR λn=>aR λw=>aP λz0 z1=>aI λg=>aN (∃(x y:Int),Ni S Q n w z0 z1 g (Nd.number x y))
def Jo [Ev5]:Sd:=mSx λS Q ex=>aR λn=>aR λw=>aP λz0 z1=>aI λg=>aN (∃(k:Int),Ni S Q n w z0 z1 g (Nd.unknown k))
def NX:Sd:=mSx λS Q ex=>aR λx_0=>aP λz0 z1=>aP λx0 x1=>aP λy0 y1=>aI λg=>aN ((Sz 1100 z0/\Sz 1100 z1/\Sz 1100 y0/\Sz 1100 y1/\Sz 30 g)/\(Q .non S/\∀a b:Int,Le (x0,x1) a b->Q (.tup [.int a,.int b]) S))
def Ng:Sd:=mSx λS Q ex=>aR λx_0=>aP λz0 z1=>aP λx0 x1=>aP λy0 y1=>aI λg=>aN ((Sz 1100 z0/\Sz 1100 z1/\Sz 1100 x0/\Sz 1100 x1/\Sz 30 g)/\(Q .non S/\∀a b:Int,Le (y0,y1) a b->Q (.tup [.int a,.int b]) S))
def NW [Ev5] (c:Int->Int->Nd):Sd:=mSx λS Q ex=>aR λn=>aR λw=>aP λz0 z1=>aI λg=>aN (∃(i j:Int),Ni S Q n w z0 z1 g (c i j))
abbrev D2 [Ev5]:=NW .plus
abbrev zag:=NX
abbrev zfw:=Ng
abbrev CG [Ev5]:=NW .minus
def EA:Sd:=mSx λS Q ex=>aP λa b=>aN (Q (.bl (decide (a<=0)&&decide (0<=b))) S)
def GS:Sd:=mSx λS Q ex=>aP λx0 x1=>aP λl0 l1=>aP λh0 h1=>aN ((l0<=l1/\h0<=h1)/\(Q .non S/\∀a b:Int,Le (x0,x1) a b->Q (.tup [.int a,.int b]) S))
def CN:Sd:=mSx λS Q ex=>aI λt=>aI λb=>aN (CFd 0 b/\Q (.tup [.int (t/b),.int (-(-t/b))]) S)
def Ed:Sd:=mSx λS Q ex=>aP λlo hi=>aP λx0 x1=>aP λc d=>aN ((0<=c/\0<d/\Sz 1400 c/\Sz 1400 d)/\(Q .non S/\∀a b:Int,Le (x0,x1) a b->Q (.tup [.int a,.int b]) S))
def CM:Sd:=mSx λS Q ex=>aP λa b=>aP λc d=>aN (Q (.tup [.int (if c<a then c else a),.int (if d > b then d else b)]) S)
def Sf:Sd:=λds S Q ex=>match ds with
 | [.non,y]=>Q y S
 | [.tup [.int a,.int b],.non]=>Q (.tup [.int a,.int b]) S
 | [.tup [.int a,.int b],.tup [.int c,.int d]]=>Q (.tup [.int (if c<a then c else a),.int (if d > b then d else b)]) S
 | _=>False
theorem zeL:Ln (Sf) 2:=λds S Q ex h=>by unfold Sf at h;split at h<;>first|rfl|exact h.elim
def R5:Sd:=mSx λS Q ex=>aP λa b=>aN (Q (.tup [.int (-b),.int (-a)]) S)
def Gz:Sd:=mSx λS Q ex=>aP λz0 z1=>aP λx0 x1=>aP λy0 y1=>aI λg=>aN ((Sz 1100 z0/\Sz 1100 z1/\Sz 1100 y0/\Sz 1100 y1/\Sz 30 g)/\(Q .non S/\∀a b:Int,Le (x0,x1) a b->Q (.tup [.int a,.int b]) S))
abbrev zad:=NX
abbrev ziL:=Ng
abbrev E2 [Ev5]:=NW .times
def Cs:Sd:=mSx λS Q ex=>aI λg=>aI λN=>aI λn=>aN ((2<=n/\n<=6/\0<g/\Sz 800 g)/\Q (.int (((n-1)*g+N/g^(n-1).toNat)/n)) S)
def JM:Sd:=mSx λS Q ex=>aI λN=>aI λn=>aN ((2<=n/\n<=6/\0<=N/\Sz 1300 N)/\∀r:Int,0<=r->Sz 800 r->Q (.int r) S)
def Q8:Sd:=λds S Q ex=>match ds with
 | [.int N,.int n]=>(2<=n/\n<=6/\0<=N/\Sz 1300 N)/\∀a b:Int,a<=b->Q (.tup [.int a,.int b]) S
 | _=>False
theorem za9:Ln (Q8) 2:=λds S Q ex h=>by unfold Q8 at h;split at h<;>first|rfl|exact h.elim
def Rl:Sd:=λds S Q ex=>match ds with
 | [.int N,.int n]=>(2<=n/\n<=6/\Sz 1300 N)/\∀a b:Int,a<=b->Q (.tup [.int a,.int b]) S
 | _=>False
theorem BQ:Ln (Rl) 2:=λds S Q ex h=>by unfold Rl at h;split at h<;>first|rfl|exact h.elim
def Dc:Sd:=mSx λS Q ex=>aP λz0 z1=>aP λx0 x1=>aI λn=>aI λg=>aN ((2<=n/\n<=6/\Sz 30 g/\Sz 1100 z0/\Sz 1100 z1)/\(Q .non S/\∀a b:Int,Le (x0,x1) a b->Q (.tup [.int a,.int b]) S))
def Ig [Ev5]:Sd:=mSx λS Q ex=>aR λn=>aR λw=>aP λz0 z1=>aI λg=>aN (∃(i m:Int),Ni S Q n w z0 z1 g (Nd.power i m))
def D3:Sd:=mSx λS Q ex=>aR λa=>aT λw k=>aR λb=>aI λg=>aN (∃(ns:List Nd)(ws:List Nat)(bs:LI)(zero:Bool),La S a (ns.map Nd.d)/\La S b (bs.map frD)/\rwW zero w/\inR ns.length k/\ZK bs.length ns ws/\Spn 51 bs/\(Gg g)/\ns.length<=70/\(∀T:Sto,Pre S T->Q .non T)/\∀(us:LI)(T:Sto)(m:Nat),us.length=k.toNat+1->Pre S T->S.length<=m->La T m (us.map frD)->Q (.ref m) T)
def FO:Sd:=mSx λS Q ex=>aR λa=>aT λw k=>aR λb=>aI λg=>aN (∃(ns:List Nd)(ws:List Nat)(bs:LI)(zero:Bool),La S a (ns.map Nd.d)/\La S b (bs.map frD)/\rwW zero w/\inR ns.length k/\ZK bs.length ns ws/\Spn 51 bs/\(Gg g)/\ns.length<=70/\(∀T:Sto,Pre S T->Q .non T)/\∀(us:LI)(T:Sto)(m:Nat),us.length=bs.length->Pre S T->S.length<=m->La T m (us.map frD)->Q (.ref m) T)
def Gj:Sd:=mSx λS Q ex=>aR λb=>aI λk=>aD λd=>aN (∃(bs:LI)(p:Int×Int),La S b (bs.map frD)/\inR bs.length k/\bs.length<=4/\d=frD p/\∀(T:Sto)(m:Nat),Pre S T->S.length<=m->La T m ((bs.set k.toNat p).map frD)->Q (.ref m) T)
def DJ:Sd:=mSx λS Q ex=>aP λa b=>aD λd=>aN (∃c:Ct,d=c.d/\Q (frD (c.off (a,b))) S)
def DA:Sd:=mSx λS Q ex=>aR λa=>aT λw k=>aR λb=>aI λg=>aD λd=>aN (∃(ns:List Nd)(ws:List Nat)(bs:LI)(zero:Bool)(c:Ct),La S a (ns.map Nd.d)/\La S b (bs.map frD)/\rwW zero w/\inR ns.length k/\ZK bs.length ns ws/\Spn 51 bs/\(Gg g)/\ns.length<=70/\d=c.d/\c.k<bs.length/\bs.length<=4/\∀T:Sto,Pre S T->Q (.bl (isS ns zero k.toNat g bs c)) T)
def Cj:Sd:=mSx λS Q ex=>aP λa b=>aD λd=>aN (∃c:Ct,d=c.d/\Q (frD (c.back (a,b))) S)
def Ce:Sd:=mSx λS Q ex=>aR λa=>aT λw k=>aR λb=>aI λg=>aN (∃(ns:List Nd)(ws:List Nat)(bs:LI)(zero:Bool),La S a (ns.map Nd.d)/\La S b (bs.map frD)/\rwW zero w/\inR ns.length k/\ZK bs.length ns ws/\Spn 51 bs/\(Gg g)/\ns.length<=70/\bs.length<=4/\∀(T:Sto)(mc:Nat)(fd:D)(cs:List Ct)(o:Option LI),ShOk ns zero k.toNat bs g cs o->Pre S T->S.length<=mc->La T mc (cs.map Ct.d)->FdAt o S.length T fd->Q (.tup [.ref mc,fd]) T)
def Px [Ev5]:Sd:=mSx λS Q ex=>aR λn=>aI λi=>aD λd=>aN (∃(a b j:Nat)(es:List LI)(fs:List Ft)(f:Ft),Bk Zn.C S n a b es fs/\i=(j:Int)/\j<fs.length/\V4 a b S d f/\∀T:Sto,Bk Zn.C T n a b es (fs.set j f)->Cg a b S T->Q .non T)
def FJ [Ev5]:Sd:=mSx λS Q ex=>aR λn=>aR λm=>aN (∃(a b:Nat)(es:List LI)(fs:List Ft)(e:LI),Bk Zn.C S n a b es fs/\VM a b S m e/\es.length<990/\∀T:Sto,Bk Zn.C T n a b (es++[e]) (fs++[.wait])->Cg a b S T->Q (.int (es.length:Int)) T)
def LF [Ev5]:Sd:=mSx λS Q ex=>aR λn=>aI λi=>aI λkk=>aI λp=>aN (∃(a b j k:Nat)(es:List LI)(fs:List Ft)(e:LI)(s:Int×Int),Bk Zn.C S n a b es fs/\i=(j:Int)/\kk=(k:Int)/\es[j]?=some e/\e[k]?=some s/\e.length<=4/\es.length<980/\∀T:Sto,Bk Zn.C T n a b (es++[e.set k (s.1,p)]++[e.set k (p,s.2)]) ((fs++[Ft.wait]++[Ft.wait]).set j (.cut k p es.length (es.length+1)))->Cg a b S T->Q (.tup [.int (es.length:Int),.int ((es.length:Int)+1)]) T)
def Jn:Sd:=mSx λS Q ex=>aR λnd=>aR λrw=>aI λr=>aR λbx=>aI λg=>aN (∃(k u:Nat)(ns:List Nd)(ws:List Nat)(rows:List (Bool×Nat))(e:LI)(row:Bool×Nat),Sr S nd rw g ns ws rows u/\La S bx (e.map frD)/\e.length=u/\Spn 51 e/\r=(k:Int)/\rows[k]?=some row/\∀(T:Sto)(m:Nat),Pre S T->S.length<=m->La T m ((ZA e g (ns.take (row.2+1))).map frD)->Q (.tup [.str "out",.int r,.ref m]) T)
def CI [Ev5]:Sd:=mSx λS Q ex=>aR λn=>aR λnd=>aR λrw=>aI λg=>aI λi=>aN (∃(a b j u:Nat)(ns:List Nd)(ws:List Nat)(rows:List (Bool×Nat))(b0 e:LI)(es:List LI)(fs:List Ft)(fine:Int),Bk Zn.C S n a b es fs/\Sr S nd rw g ns ws rows u/\Apt nd rw a b/\Bks g fine ns rows b0 es fs/\Spn 51 b0/\b0.length=u/\i=(j:Int)/\fs[j]?=some .wait/\es[j]?=some e/\es.length<=900/\∀(T:Sto)(es':List LI)(fs':List Ft)(j':Nat),Bk Zn.C T n a b es' fs'->Bks g fine ns rows b0 es' fs'->Cg a b S T->es'.length<=es.length+64->Shd es j es' j'->j'<es'.length->Q (.int (j':Int)) T)
def JX:Sd:=mSx λS Q ex=>aS λw=>aP λa b=>aN ((w="zero"/\Q (.bl (decide (a=0)&&decide (b=0))) S)\/(w="least"/\Q (.bl (decide (0<=a))) S))
def BG:Sd:=mSx λS Q ex=>aR λnd=>aR λrw=>aR λbx=>aI λg=>aR λsp=>aN (∃(u:Nat)(ns:List Nd)(ws:List Nat)(rows:List (Bool×Nat))(e:LI),Sr S nd rw g ns ws rows u/\La S bx (e.map frD)/\e.length=u/\Spn 51 e/\La S sp ((ZA e g ns).map frD)/\(∀(T:Sto)(k m:Nat)(row:Bool×Nat),Pre S T->S.length<=m->rows[k]?=some row->ibS ns row.1 row.2 e g=true->La T m ((ZA e g (ns.take (row.2+1))).map frD)->Q (.tup [.str "out",.int (k:Int),.ref m]) T)/\((∀row∈rows,ibS ns row.1 row.2 e g=false)->suS ns rows e g=true->∀T:Sto,Pre S T->Q (.tup [.str "full",.ref sp]) T)/\((∀row∈rows,ibS ns row.1 row.2 e g=false)->suS ns rows e g=false->∀T:Sto,Pre S T->Q .non T))
def C2:Sd:=mSx λS Q ex=>aR λr=>aN (∃rows:List (Bool×Nat),La S r (rows.map rwD)/\rows.length<=900/\Q (.ref S.length) (S++[.lst ((eqs rows).map wtD)]))
def LV:Sd:=mSx λS Q ex=>aR λe=>aR λp=>aN (∃(xs:List D)(is:List Nat),La S e xs/\La S p (is.map wtD)/\is.length<=900/\(∀i∈is,i<xs.length)/\Q (.ref S.length) (S++[.lst (is.map λi=>xs.getD i .non)]))
abbrev Nq [Ev5] (S:Sto)(Q:DK)(n:Nat)(w:Nat)(s:Nat)(qi:Int)(g:Int)(v:Nd):Prop:=∃(q:Nat)(vs:LI)(sl:List LI)(ds:List D),S[n]?=some (Nd.oz v)/\La S w (vs.map frD)/\La S s ds/\Yt S 0 ds sl/\(∀i:Int,inR sl.length i->(sl.getD i.toNat []).length=q/\∀l,l<q->(gs sl i l).1<=(gs sl i l).2/\Sz 1100 (gs sl i l).1/\Sz 1100 (gs sl i l).2)/\(qi=(q:Nat)/\q<=900)/\Nd.ok sl.length q v/\sl.length<=vs.length/\Spn 1000 vs/\(Gg g)/\∀(T:Sto)(mm:Nat),Pre S T->S.length<=mm->La T mm ((Xa vs sl g q v).map frD)->Q (.ref mm) T
def Kg [Ev5]:Sd:=mSx λS Q ex=>aR λn=>aR λw=>aR λs=>aI λqi=>aI λg=>aN (∃(x y:Int),Nq S Q n w s qi g (Nd.number x y))
def Ht [Ev5]:Sd:=mSx λS Q ex=>aR λn=>aR λw=>aR λs=>aI λqi=>aI λg=>aN (∃(k:Int),Nq S Q n w s qi g (Nd.unknown k))
def zfD [Ev5]:Sd:=mSx λS Q ex=>aR λx_0=>aD λx_1=>aD λx_2=>aP λa b=>aP λc d=>aI λx_7=>aN (Q (.tup [.int (a+c),.int (b+d)]) S)
def PL [Ev5] (c:Int->Int->Nd):Sd:=mSx λS Q ex=>aR λn=>aR λw=>aR λs=>aI λqi=>aI λg=>aN (∃(i j:Int),Nq S Q n w s qi g (c i j))
abbrev DB [Ev5]:=PL .plus
def zgt [Ev5]:Sd:=mSx λS Q ex=>aR λx_0=>aD λx_1=>aD λx_2=>aP λa b=>aP λc d=>aI λx_7=>aN (Q (.tup [.int (a-d),.int (b-c)]) S)
abbrev Eo [Ev5]:=PL .minus
def zgf [Ev5]:Sd:=mSx λS Q ex=>aR λx_0=>aP λx1 x2=>aP λy1 y2=>aP λa b=>aP λc d=>aI λg=>aN ((Sz 1400 x1/\Sz 1400 x2/\Sz 1400 y1/\Sz 1400 y2/\Sz 1400 a/\Sz 1400 b/\Sz 1400 c/\Sz 1400 d/\1<=g/\g<=1000000)/\Q (.tup [.int ((Yj (x1,x2) (c,d) g).1+(Yj (y1,y2) (a,b) g).1),.int ((Yj (x1,x2) (c,d) g).2+(Yj (y1,y2) (a,b) g).2)]) S)
abbrev FZ [Ev5]:=PL .times
def Dk:Sd:=mSx λS Q ex=>aP λa b=>aI λm=>aN ((IntMulOk a m/\IntMulOk b m)/\Q (.tup [.int (if b*m<a*m then b*m else a*m),.int (if b*m > a*m then b*m else a*m)]) S)
def Ih [Ev5]:Sd:=mSx λS Q ex=>aR λn=>aR λw=>aR λs=>aI λqi=>aI λg=>aN (∃(i m:Int),Nq S Q n w s qi g (Nd.power i m))
def HD:Sd:=mSx λS Q ex=>aR λa=>aR λb=>aI λg=>aN (∃(ns:List Nd)(ws:List Nat)(bs:LI),La S a (ns.map Nd.d)/\La S b (bs.map frD)/\ZK bs.length ns ws/\Spn 51 bs/\bs.length<=900/\(Gg g)/\ns.length<=70/\∀(T:Sto)(m:Nat)(ds:List D),Pre S T->S.length<=m->La T m ds->Yt T (m+1) ds (Yg (ZA bs g ns) g bs.length ns)->Q (.ref m) T)
def Cu:Sd:=mSx λS Q ex=>aR λa=>aR λp=>aR λb=>aI λg=>aN (∃(ns:List Nd)(ws:List Nat)(bs:LI)(is:List Nat),La S a (ns.map Nd.d)/\La S b (bs.map frD)/\ZK bs.length ns ws/\Spn 51 bs/\(Gg g)/\ns.length<=70/\bs.length<=900/\La S p (is.map wtD)/\is.length<=900/\(∀i∈is,i<ns.length)/\∀(T:Sto)(m:Nat)(ds:List D),Pre S T->La T m ds->ds.length=is.length->Mr (RF 1023 bs.length) 0 T ds->Q (.ref m) T)
def BB:Sd:=mSx λS Q ex=>aI λi=>aI λk=>aN (∃n:Nat,k=n/\Q (.int (sgn i n)) S)
def E4:Sd:=mSx λS Q ex=>aR λm=>aI λr=>aI λc=>aN (∃(ds:List D)(i j n:Nat),r=i/\c=j/\La S m ds/\ds.length=n+1/\Mr (RI 1024 (n+1)) 0 S ds/\n<=3/\i<=n/\j<=n/\∀(T:Sto)(k:Nat)(es:List D),Pre S T->La T k es->es.length=n->Mr (RI 1024 n) 0 T es->Q (.ref k) T)
def Nu (k:Nat):Sd:=mSx λS Q ex=>aR λm=>aN (∃(ds:List D)(n:Nat),n<=k/\La S m ds/\ds.length=n/\Mr (RI 1024 (n)) 0 S ds/\∀x:Int,Sz (1040*n+1) x->Q (.int x) S)
def M0 (k:Nat):Sd:=mSx λS Q ex=>aR λm=>aI λr=>aI λc=>aN (∃(ds:List D)(i j n:Nat),n<=k/\r=i/\c=j/\i<=n/\j<=n/\La S m ds/\ds.length=n+1/\Mr (RI 1024 (n+1)) 0 S ds/\∀x:Int,Sz (1040*n+1) x->Q (.int x) S)
abbrev zbr:=Nu 0
abbrev zbw:=M0 3
abbrev zaJ:=Nu 4
def EY:Sd:=mSx λS Q ex=>aR λm=>aI λw=>aI λr=>aI λc=>aI λg=>aN (∃(ds:List D)(i j n:Nat),n<=3/\r=i/\c=j/\i<=n/\j<=n/\La S m ds/\ds.length=n+1/\Mr (RI 1024 (n+1)) 0 S ds/\(w≠0/\Sz 4200 w)/\(Gg g)/\∀x:Int,Sz 3200 x->Q (.int x) S)
def DN:Sd:=mSx λS Q ex=>aR λm=>aI λw=>aI λr=>aI λg=>aN (∃(ds:List D)(i n:Nat),n<=3/\r=i/\i<=n/\La S m ds/\ds.length=n+1/\Mr (RI 1024 (n+1)) 0 S ds/\(w≠0/\Sz 4200 w)/\(Gg g)/\∀xs:List D,RI 3200 (n+1) xs->Q (.ref S.length) (S++[.lst xs]))
def FF:Sd:=mSx λS Q ex=>aR λm=>aI λg=>aN (∃(ds:List D)(n:Nat),(1<=n/\n<=4)/\La S m ds/\ds.length=n/\Mr (RI 1024 (n)) 0 S ds/\(Gg g)/\Q .non S/\∀(T:Sto)(k:Nat)(es:List D),Pre S T->La T k es->es.length=n->Mr (RI 3200 n) 0 T es->Q (.ref k) T)
def GL:Sd:=mSx λS Q ex=>aP λa b=>aN (Q (.int ((a+b)/2)) S)
def L0:Sd:=mSx λS Q ex=>aR λs=>aN (∃vs:LI,La S s (vs.map frD)/\vs.length<=900/\Q (.ref S.length) (S++[.lst (vs.map λp=>.int (mid p))]))
def Oa:Sd:=mSx λS Q ex=>aR λb=>aN (∃vs:LI,La S b (vs.map frD)/\vs.length<=900/\∀(T:Sto)(m:Nat),Pre S T->S.length<=m->La T m ((vs.map X0).map frD)->Q (.ref m) T)
def Kj:Sd:=mSx λS Q ex=>aR λa=>aR λb=>aI λg=>aN (∃(us vs:LI),La S a (us.map frD)/\La S b (vs.map frD)/\us.length<=60/\Bd 20000 us/\Bd 20000 vs/\(Gg g)/\Q (frD (X5 g us vs)) S)
def EG:Sd:=mSx λS Q ex=>aI λk=>aI λc=>aR λt=>aR λs=>aI λg=>aN (∃(q cn:Nat)(ts:LI)(ds:List D),c=(cn:Nat)/\La S t (ts.map frD)/\La S s ds/\Mr (RF 1023 q) 0 S ds/\cn<q/\ts.length<=60/\ds.length<=60/\Bd 3200 ts/\(Gg g)/\∀a b:Int,Sz 20000 a->Sz 20000 b->Q (.tup [.int a,.int b]) S)
def CS:Sd:=mSx λS Q ex=>aI λki=>aR λb=>aI λg=>aR λe=>aR λt=>aR λs=>aN (∃(k:Nat)(box aA:LI)(es:List Int)(ds:List D),ki=(k:Nat)/\k<box.length/\La S e (es.map D.int)/\es.length<=4/\(∀x∈es,Sz 3200 x)/\La S b (box.map frD)/\La S t (aA.map frD)/\La S s ds/\Mr (RF 1023 box.length) 0 S ds/\(1<=box.length/\box.length<=4)/\ds.length<=4/\Bd 60 box/\Bd 2000 aA/\(Gg g)/\∀a b:Int,Q (.tup [.int a,.int b]) S)
def DT:Sd:=mSx λS Q ex=>aR λb=>aI λg=>aR λu=>aR λt=>aR λs=>aN (∃(box aA:LI)(ms ds:List D),La S u ms/\ms.length=box.length/\Mr (RI 3200 box.length) 0 S ms/\La S b (box.map frD)/\La S t (aA.map frD)/\La S s ds/\Mr (RF 1023 box.length) 0 S ds/\(1<=box.length/\box.length<=4)/\ds.length<=4/\Bd 60 box/\Bd 2000 aA/\(Gg g)/\∀vs:LI,vs.length<=4->Q (.ref S.length) (S++[.lst (vs.map frD)]))
def CL:Sd:=mSx λS Q ex=>aR λa=>aR λp=>aR λb=>aI λg=>aN (∃(ns:List Nd)(ws:List Nat)(bs:LI)(is:List Nat),La S a (ns.map Nd.d)/\La S b (bs.map frD)/\ZK bs.length ns ws/\Spn 51 bs/\(Gg g)/\ns.length<=70/\bs.length<=900/\La S p (is.map wtD)/\is.length<=900/\(∀i∈is,i<ns.length)/\∀(T:Sto)(m:Nat)(vs:LI),Pre S T->S.length<=m->La T m (vs.map frD)->Bd 2000 vs->Q (.ref m) T)
def Cq:Sd:=mSx λS Q ex=>aP λa b=>aP λc d=>aN (Q (.bl (decide (c<a)&&decide (b<d))) S)
def Em:Sd:=mSx λS Q ex=>aR λm=>aR λn=>aN (∃us vs:LI,La S m (us.map frD)/\La S n (vs.map frD)/\us.length<=1000/\∀b:Bool,Q (.bl b) S)
def Bs:Sd:=mSx λS Q ex=>aR λr=>aR λs=>aN (∃(rows:List (Bool×Nat))(vs:LI),La S r (rows.map rwD)/\La S s (vs.map frD)/\rows.length<=900/\(∀r∈rows,r.2<vs.length)/\∀b:Bool,Q (.bl b) S)
def Ef:Sd:=mSx λS Q ex=>aR λa=>aR λr=>aR λb=>aI λg=>aN (∃(ns:List Nd)(ws:List Nat)(bs:LI)(rows:List (Bool×Nat)),La S a (ns.map Nd.d)/\La S b (bs.map frD)/\ZK bs.length ns ws/\Spn 51 bs/\(Gg g)/\ns.length<=70/\bs.length<=900/\La S r (rows.map rwD)/\rows.length<=900/\(∀r∈rows,r.2<ns.length)/\(1<=bs.length/\bs.length<=4)/\(∀T:Sto,Pre S T->Q .non T)/\∀(T:Sto)(d e:Nat),Pre S T->Q (.tup [.ref d,.ref e]) T)
def Ep:Sd:=mSx λS Q ex=>aR λnd=>aR λrw=>aR λbx=>aI λg=>aR λsp=>aN (∃(u:Nat)(ns:List Nd)(ws:List Nat)(rows:List (Bool×Nat))(e:LI),Sr S nd rw g ns ws rows u/\La S bx (e.map frD)/\e.length=u/\Spn 51 e/\(∀T:Sto,Pre S T->Q .non T)/\(∀(T:Sto)(d1 d2 d3 d4 d5:Nat),Pre S T->Q (.tup [.str "one",.ref d1,.ref d2,.ref d3,.ref d4,.ref d5]) T))
def EK:Sd:=mSx λS Q ex=>aR λnd=>aR λrw=>aR λbx=>aI λg=>aI λfine=>aN (∃(u:Nat)(ns:List Nd)(ws:List Nat)(rows:List (Bool×Nat))(e:LI),Sr S nd rw g ns ws rows u/\La S bx (e.map frD)/\e.length=u/\Spn 51 e/\(∀(T:Sto)(f:Ft)(d:D),Pre S T->FOk g fine ns rows e f->(∀a b:Nat,a<S.length->b<S.length->V4 a b T d f)->Q d T)/\∀T:Sto,Pre S T->(∃p∈e,fine<wd p)->Q .non T)
def F4:Sd:=mSx λS Q ex=>aR λx=>aR λy=>aN (∃bs cs:LI,La S x (bs.map frD)/\La S y (cs.map frD)/\Spn 51 bs/\Spn 51 cs/\bs.length<=4/\cs.length<=4/\∀T:Sto,Pre S T->Q (.bl (decide (4*VJ bs<=3*VJ cs))) T)
def F1 [Ev5]:Sd:=mSx λS Q ex=>aR λn=>aI λi=>aN (∃(a b j:Nat)(es:List LI)(fs:List Ft)(e:LI),Bk Zn.C S n a b es fs/\i=(j:Int)/\es[j]?=some e/\e.length<=4/\e≠[]/\es.length<980/\∀(T:Sto)(k:Nat)(s:Int×Int),e[k]?=some s->Wst e (wd s)->Bk Zn.C T n a b (es++[e.set k (s.1,(s.1+s.2)/2)]++[e.set k ((s.1+s.2)/2,s.2)]) ((fs++[Ft.wait]++[Ft.wait]).set j (.cut k ((s.1+s.2)/2) es.length (es.length+1)))->Cg a b S T->Q .non T)
def FH [Ev5]:Sd:=mSx λS Q ex=>aR λn=>aR λnd=>aR λrw=>aI λg=>aI λfine=>aI λi=>aN (∃(a b j u:Nat)(ns:List Nd)(ws:List Nat)(rows:List (Bool×Nat))(b0 e:LI)(es:List LI)(fs:List Ft),Bk Zn.C S n a b es fs/\Sr S nd rw g ns ws rows u/\Apt nd rw a b/\Bks g fine ns rows b0 es fs/\Spn 51 b0/\b0.length=u/\i=(j:Int)/\fs[j]?=some .wait/\es[j]?=some e/\1<=fine/\es.length<=800/\∀(T:Sto)(es':List LI)(fs':List Ft),Bk Zn.C T n a b es' fs'->Bks g fine ns rows b0 es' fs'->Cg a b S T->es'.length<=es.length+66->(es.length<es'.length\/es'.length=es.length/\fs'[j]?≠some .wait)->Q .non T)
def Bg:Sd:=mSx λS Q ex=>aR λnd=>aR λrw=>aR λbx=>aI λg=>aI λfine=>aI λlooks=>aN (∃(u t:Nat)(ns:List Nd)(ws:List Nat)(rows:List (Bool×Nat))(b0:LI),Sr S nd rw g ns ws rows u/\La S bx (b0.map frD)/\b0.length=u/\Spn 51 b0/\1<=fine/\(0<=looks/\looks<=8)/\S[t]?=some (.cod LT LP LQ)/\∀(T:Sto)(m:Nat)(ds:List D)(es:List LI)(fs:List Ft),Pre S T->S.length<=m->La T m ds->En T ds es fs->Bks g fine ns rows b0 es fs->es.length<=900->(looks=0->es=[b0]/\fs=[.wait])->(0<looks->es.length=1->fs[0]?≠some .wait)->Q (.ref m) T)
def FN:Sd:=mSx λS Q ex=>aR λmb=>aR λb=>aI λg=>aI λc=>aN (∃(ds:List D)(es:List LP2)(fs:List Ft)(b0:LP2)(q:Nat),Bq S mb ds es fs b0 q g/\La S b (b0.map frD)/\(0<=c/\c<=1000000)/\∀(T:Sto)(m:Nat)(pt:LP2),Pre S T->S.length<=m->La T m (pt.map frD)->Pk q pt->Inb b0 pt g->Q (.ref m) T)
def Ek:Sd:=mSx λS Q ex=>aP λl u=>aP λt b=>aI λg=>aN ((IntMulOk l b/\IntMulOk t g/\IntMulOk u b)/\Q (.bl (decide (l*b<=t*g)&&decide (t*g<=u*b))) S)
def Ca:Sd:=mSx λS Q ex=>aR λb=>aR λp=>aI λg=>aN (∃(e pt:LP2)(q:Nat),La S b (e.map frD)/\La S p (pt.map frD)/\e.length=q/\q<=4/\Spn 51 e/\Pk q pt/\(Gg g)/\∀B:Bool,(B=true↔Inb e pt g)->Q (.bl B) S)
def Dx:Sd:=mSx λS Q ex=>aI λa=>aI λb=>aN ((0<=a/\0<=b)/\Q (.int ((Int.gcd a b:Nat):Int)) S)
def ET:Sd:=mSx λS Q ex=>aI λx_0=>aN (Q (.bl true) S)
def Cz:Sd:=mSx λS Q ex=>aI λT=>aI λB=>aN ((B≠0/\Sz 4000 B)/\∀t b:Int,1<=b->t*B=T*b->Int.gcd t b=1->t.natAbs<=T.natAbs->b.natAbs<=B.natAbs->Q (.tup [.int t,.int b]) S)
def CJ:Sd:=mSx λS Q ex=>aR λmb=>aR λp=>aI λg=>aN (∃(ds:List D)(es:List LP2)(fs:List Ft)(b0:LP2)(q:Nat)(pt:LP2),Bp S mb ds es fs b0 q p pt g/\(Inb b0 pt g->∀r:Nat,r<es.length->Lf fs pt g 0 r->Q (.int (r:Int)) S)/\(¬ Inb b0 pt g->Q .non S))
def CY:Sd:=mSx λS Q ex=>aR λb=>aI λg=>aR λc=>aN (∃(q:Nat)(bs:LP2)(xs:List Int),La S b (bs.map frD)/\La S c (xs.map D.int)/\bs.length=q/\q<=4/\Spn 51 bs/\xs.length=4/\(Gg g)/\∀(T:Sto)(m:Nat)(pt:LP2),Pre S T->S.length<=m->La T m (pt.map frD)->Pk q pt->Inb bs pt g->Q (.ref m) T)
def ES:Sd:=mSx λS Q ex=>aI λc=>aN (∀xs:List Int,xs.length=4->Q (.ref S.length) (S++[.lst (xs.map D.int)]))
def EI:Sd:=mSx λS Q ex=>aI λx_0=>aN (Q (.bl true) S)
def DZ:Sd:=mSx λS Q ex=>aR λmb=>aR λp=>aI λg=>aN (∃(ds:List D)(es:List LP2)(fs:List Ft)(b0:LP2)(q:Nat)(pt:LP2),Bp S mb ds es fs b0 q p pt g/\∀r:Nat,r<es.length->Lf fs pt g 0 r->Q (.int (r:Int)) S)
def BI:Sd:=mSx λS Q ex=>aR λb=>aR λp=>aI λg=>aN (∃(e pt:LP2)(q:Nat),La S b (e.map frD)/\La S p (pt.map frD)/\e.length=q/\q<=4/\Spn 51 e/\Pk q pt/\(Gg g)/\∀B:Bool,(B=true↔Inb e pt g)->Q (.bl B) S)
def Dn:Sd:=mSx λS Q ex=>aR λp=>aR λb=>aI λg=>aI λc=>aN (∃(q:Nat)(pt bs:LP2),La S p (pt.map frD)/\La S b (bs.map frD)/\bs.length=q/\(1<=q/\q<=4)/\Spn 51 bs/\Pk q pt/\(Gg g)/\∀(T:Sto)(m:Nat)(pt':LP2),Pre S T->S.length<=m->La T m (pt'.map frD)->Pk q pt'->¬ Inb bs pt' g->Q (.ref m) T)
abbrev Imp (p G:List D->Prop):Prop:=∀ds,p ds->G ds
theorem kN {p:Prop}{G:List D->Prop}(k:p->G []):Imp (aN p) G:=λds h=>by
 obtain⟨rfl,h⟩:=aN_e h;exact k h
theorem kR {f:Nat->List D->Prop}{G:List D->Prop}(k:∀a,Imp (f a) λr=>G (.ref a::r)):Imp (aR f) G:=λds h=>by
 obtain⟨a,r,rfl,h⟩:=aR_e h;exact k a r h
theorem kI {f:Int->List D->Prop}{G:List D->Prop}(k:∀a,Imp (f a) λr=>G (.int a::r)):Imp (aI f) G:=λds h=>by
 obtain⟨a,r,rfl,h⟩:=aI_e h;exact k a r h
theorem kS {f:Str->List D->Prop}{G:List D->Prop}(k:∀a,Imp (f a) λr=>G (.str a::r)):Imp (aS f) G:=λds h=>by
 obtain⟨a,r,rfl,h⟩:=aS_e h;exact k a r h
theorem kP {f:Int->Int->List D->Prop}{G:List D->Prop}(k:∀a b,Imp (f a b) λr=>G (.tup [.int a,.int b]::r)):Imp (aP f) G:=λds h=>by
 obtain⟨a,b,r,rfl,h⟩:=aP_e h;exact k a b r h
theorem kT {f:Str->Int->List D->Prop}{G:List D->Prop}(k:∀a b,Imp (f a b) λr=>G (.tup [.str a,.int b]::r)):Imp (aT f) G:=λds h=>by
 obtain⟨a,b,r,rfl,h⟩:=aT_e h;exact k a b r h
theorem kD {f:D->List D->Prop}{G:List D->Prop}(k:∀a,Imp (f a) λr=>G (a::r)):Imp (aD f) G:=λds h=>by
 obtain⟨a,r,rfl,h⟩:=aD_e h;exact k a r h
section
variable {P:Program}{w:World}{K:Fg}{mg:Str->Option Value}{base:Heap}{k:Nat}{C:Addr}{x qual:Str}{st:Stmt}{ps N:List Str}{sd:Sd}{t:TDS}
theorem zbt (hp:∀S Q ex,Imp (λds=>sd ds S Q ex) λds=>t { nx:=λ_ S'=>Gc S Q .non S',rt:=Gc S Q } (Ws N ds) S):∀ds S Q ex,gcS sd ds S Q ex->t { nx:=λ_ S'=>Q .non S',rt:=Q } (Ws N ds) S:=λds S Q ex h=>by
 obtain⟨Q0,ex0,rfl,rfl,h⟩:=h;exact hp S Q0 ex0 ds h
def mkF (d:Df K mg x st ps)(Sc:Zl N ps (Zi st))(ht:∀ {cdv:Value} {A:Around} {outer:List Env} {s:Shared} {H:Hp} {E:XK},ZH k (A.deeper (envOfC x (Zi st) s.heap.objs.size d.f cdv))->YE (Wq (CXE P w) P w K mg base N x (Zi st) d.f cdv A outer s H E).nox Z0 (Xb st) t)(hp:∀S Q ex,Imp (λds=>sd ds S Q ex) λds=>t { nx:=λ_ S'=>Q .non S',rt:=Q } (Ws N ds) S)(len:Ln sd ps.length:=by exact λ_ _ _ _=>by repeat (first|exact nN|refine nR λ_=>?_|refine nI λ_=>?_|refine nP λ_ _=>?_|refine nT λ_ _=>?_|refine nD λ_=>?_|refine nS λ_=>?_)):Fk P w K mg base (k+1) x ps sd:=d.mk' (VW d.F Sc len λ_ _ _ _ _ _ _ hr=>⟨t,ht hr,λds S Q ex=>hp S Q ex ds⟩)
def mkG (d:Df K mg x st ps)(Sc:Zl N ps (Zi st))(ht:∀ {cdv:Value} {A:Around} {outer:List Env} {s:Shared} {H:Hp} {E:XK},ZH k (A.deeper (envOfC x (Zi st) s.heap.objs.size d.f cdv))->YE (Wq (CXE P w) P w K mg base N x (Zi st) d.f cdv A outer s H E).nox Z0 (Xb st) t)(hp:∀S Q ex,Imp (λds=>sd ds S Q ex) λds=>t { nx:=λ_ S'=>Gc S Q .non S',rt:=Gc S Q } (Ws N ds) S)(len:Ln sd ps.length:=by exact λ_ _ _ _=>by repeat (first|exact nN|refine nR λ_=>?_|refine nI λ_=>?_|refine nP λ_ _=>?_|refine nT λ_ _=>?_|refine nD λ_=>?_|refine nS λ_=>?_)):Fk P w K mg base (k+1) x ps sd:=d.mk' (fn_gc (VW d.F Sc (zed len) λ_ _ _ _ _ _ _ hr=>⟨t,ht hr,zbt hp⟩))
def mkM (d:Dm K C x qual st ps)(Sc:Zl N ps (Zi st))(ht:∀ {cdv:Value} {A:Around} {outer:List Env} {s:Shared} {H:Hp} {E:XK},ZH k (A.deeper (envOfC qual (Zi st) s.heap.objs.size d.f cdv))->YE (Wq (CXE P w) P w K mg base N qual (Zi st) d.f cdv A outer s H E).nox Z0 (Xb st) t)(hp:∀S Q ex,Imp (λds=>sd ds S Q ex) λds=>t { nx:=λ_ S'=>Q .non S',rt:=Q } (Ws N ds) S)(len:Ln sd ps.length:=by exact λ_ _ _ _=>by repeat (first|exact nN|refine nR λ_=>?_|refine nI λ_=>?_|refine nP λ_ _=>?_|refine nT λ_ _=>?_|refine nD λ_=>?_|refine nS λ_=>?_)):Fm P w K mg base (k+1) C x ps sd:=d.mk' (VW d.F Sc len λ_ _ _ _ _ _ _ hr=>⟨t,ht hr,λds S Q ex=>hp S Q ex ds⟩)
end
section
variable {X:Cx}{Z:Zx}
theorem pdv (i:Nat){x:Str}{pos:Pos}{es:List Expr}{t:TDA}(hr:PDA X Z es t)(h:PD X Z (.Name x pos) (Xh i):=by exact dv _)(hs:starEach (.Name x pos::es) X.env=(false,eval (.Name x pos) X.env)::starEach es X.env:=by rfl):PDA X Z (.Name x pos::es) (QM (Xh i) t):=Za h hr hs
theorem pv (i:Nat){x:Str}{pos:Pos}(h:PD X Z (.Name x pos) (Xh i):=by exact dv _)(hs:starEach [.Name x pos] X.env=[(false,eval (.Name x pos) X.env)]:=by rfl):PDA X Z [.Name x pos] (QM (Xh i) Rt):=Za h Zg hs
end
abbrev Fkz [e:Ev5] (k:Nat)(x:Str)(ps:List Str)(sd:Sd):=Fk e.P e.w e.K e.mg e.base k x ps sd
abbrev Fmz [e:Ev5] (k:Nat)(C:Addr)(x:Str)(ps:List Str)(sd:Sd):=Fm e.P e.w e.K e.mg e.base k C x ps sd
abbrev Dfz [e:Ev5] (x:Str)(st:Stmt)(ps:List Str):=Df e.K e.mg x st ps
abbrev Dmz [e:Ev5] (C:Addr)(x q:Str)(st:Stmt)(ps:List Str):=Dm e.K C x q st ps
section
variable [e:Ev5]
noncomputable def zfZ  (zab:Dfz q88 JN Nz):Fkz 1 q88 Nz Ej:=
 mkF zab zcv (λhr=>(Zb (Zy (Zs (ZI hr) (Zf Z9 (dv 0) Zd) Zd (Zp _)) (Ze (Zj (Zf ZX Zd (Zf Z9 (Zf Yl (dv 0) Zd) Zd)))) ZE) (Ze (Zj (Zf ZX Zd (Zf Z9 (Zf Yl (dv 0) Zd) Zd)))))) λS Q ex=>by
  refine kI λc=>kN ?_
  rintro⟨c0,h⟩;refine ifD (λe=>?_) (λe=>?_)
  .refine h _ ?_ ?_<;>lia
  .refine h _ ?_ ?_<;>lia
noncomputable def ze9  (zae:Dfz q41 K7 Tt):Fkz 1 q41 Tt P6:=
 mkF zae Kt (λhr=>(Zb (Zk (i:=2) Kt.nd Zd) (Zb (Zy (Zs YS (dv 1) (ZL (ZQ YZ) rfl Yv Boot.«len» (pv 0)) (Zp _)) (Ze (Zk (i:=2) Kt.nd (Zf YW (ZD (dv 0) (dv 1)) (Zf UJ Zd Zd)))) ZE) (Ze (Zj (Zf YW (Zf ZF (Zf YW (Zf ZX (Zf ZF (dv 2) Zd) (Zf ZF Zd (dv 1))) Zd) Zd) Zd)))))) λS Q ex=>by
  refine kR λn=>kI λk=>kN ?_
  rintro⟨ns,hn,⟨k0,k1⟩,h⟩;have aY:∀x:Int,(0<=x/\x<10^18)->IntMulOk x 48271/\IntMulOk 16807 k/\(0:Int)<2147483647/\IntMulOk ((x*48271+16807*k)%2147483647) 69621/\(0:Int)<2147483629/\Q (.int ((x*48271+16807*k)%2147483647*69621%2147483629)) S:=λx hx=>by
   have z1:Sz 80 x:=Sz.of (10^20) ()
   have z2:Sz 80 k:=Sz.of (10^20) ()
   have r:=YK (a:=x*48271+16807*k) (b:=2147483647) ⋯;refine⟨ZC z1 (Sz.of (n:=80) (10^20) ⋯),ZC (Sz.of (n:=80) (10^20) ⋯) z2,⋯,ZC (Sz.of (n:=80) (10^20) ()) (Sz.of (n:=80) (10^20) ⋯),⋯,h _ ?_⟩;exact YK ⋯
  refine Jq hn ?_;rw[zB];refine ifD (λc=>?_) (λc=>?_)
  .refine Zz (o:=.frz (ns.map D.int)) hn (zdG k0 c) ?_;have r:=YK (a:=ns.getD k.toNat 0) (b:=10^Int.toNat 18) ⋯;exact⟨show (0:Int)<10^Int.toNat 18 by decide,aY _ r⟩
  .exact aY 0 ⋯
noncomputable def zbg  (AM:Dfz XX JQ NZ)(Yu:Fkz 1 q41 Tt P6):Fkz 2 XX NZ DP:=
 mkF AM WQ (λhr=>(Zb (Zk (i:=2) WQ.nd (Yo Zg)) (Zb (RT (i:=3) PassesOwn.never rfl WQ.nd rfl (Or.inl rfl) rfl YQ (pv 1) (Zb (Zk (i:=4) WQ.nd (Zh Yu hr (pdv 0 (Za (ZD (Zu (Za Zd (Za Zd (Za Zd (Za Zd Zg))))) (dv 3)) Zg)))) (Zb (Zk (i:=5) WQ.nd (Zh Yu hr (pdv 0 (Za (ZD (Zu (Za Zd (Za Zd (Za Zd (Za Zd Zg))))) (dv 3)) Zg)))) (Zb (Zy (Zs (ZI hr) (Zf Z9 (dv 4) Zd) Zd (Zp _)) (Ze (Zk (i:=4) WQ.nd (Zf Yp (Zf YW (Zf ZF (Zf Yl (dv 4) Zd) Zd) (Zf ZF Zd (Zf UJ Zd Zd))) (Zf UJ Zd Zd)))) (Ze (Zk (i:=4) WQ.nd (Zf Yp (Zf Z9 (Zf Yl (dv 4) Zd) Zd) Zd)))) (Zb (Zy (PDW.pt (Rx (Zs WB (dv 3) Zd (Zp _)) (Qx (Zs (ZI hr) (Zf Z9 (dv 5) Zd) Zd (Zp _))))) (Ze (Zk (i:=5) WQ.nd (Zf Yp (Y2 (ZD (dv 2) Zd) Zd) (Y2 (ZD (dv 2) Zd) Zd)))) (Ze (Zy (Zs (ZI hr) (Zf Z9 (dv 5) Zd) Zd (Zp _)) (Ze (Zk (i:=5) WQ.nd (Zf YW (Zf ZF (Zf Yl (dv 5) Zd) Zd) (Zf UJ Zd Zd)))) (Ze (Zk (i:=5) WQ.nd (Zf Z9 (Zf Yl (dv 5) Zd) Zd)))))) (Ze (Z7 (Ys (dv 2) (Zu (pdv 4 (Za (Zf ZX (dv 4) (dv 5)) Zg))))))))))) (Ze (Zj (dv 2)))))) λS Q ex=>by
  refine kR λn=>kI λu=>kN ?_
  rintro⟨ns,q,hn,rfl,hq,h⟩;have lt:=ZV hn;refine⟨⟨(),()⟩,λk dl' S'=>k<=q/\∃bs:LI,bs.length=k/\(∀p∈bs,(-10^14<=p.1/\p.1<=10^14)/\0<=p.2-p.1/\p.2-p.1<10^14)/\S'=S++[.lst (bs.map frD)]/\∃u3 u4 u5:Option D,dl'=[sR n,sI (q:Int),sR S.length,u3,u4,u5],⟨zN _,[],rfl,λp hp=>(nomatch hp),rfl,_,_,_,rfl⟩,?_⟩;rintro k dl' S' ⟨hk,bs,lb,ob,rfl,u3,u4,u5,rfl⟩;split
  .rename_i c;have ck:k<q:=by rw[zL] at c;exact c
   have k4:k=0\/k=1\/k=2\/k=3:=by lia
   have hn':(S++[Ob.lst (bs.map frD)])[n]?=some (.frz (ns.map D.int)):=Zt hn;obtain⟨v1,e1,b1⟩:∃v:Int,([.int 5,.int 7,.int 44,.int 46]:List D)[k]?=some (.int v)/\0<=v/\v<=1000:=by
    rcases k4 with rfl|rfl|rfl|rfl
    .exact⟨5,rfl,⋯⟩
    .exact⟨7,rfl,⋯⟩
    .exact⟨44,rfl,⋯⟩
    .exact⟨46,rfl,⋯⟩
   obtain⟨v2,e2,b2⟩:∃v:Int,([.int 6,.int 8,.int 45,.int 47]:List D)[k]?=some (.int v)/\0<=v/\v<=1000:=by
    rcases k4 with rfl|rfl|rfl|rfl
    .exact⟨6,rfl,⋯⟩
    .exact⟨8,rfl,⋯⟩
    .exact⟨45,rfl,⋯⟩
    .exact⟨47,rfl,⋯⟩
   refine RQ e1 ?_;refine⟨ns,hn',b1,λlo hlo=>?_⟩;refine RQ e2 ?_;refine⟨ns,hn',b2,λwi hwi=>?_⟩;dsimp only;refine Yi (λdl2 S2=>S2=S++[.lst (bs.map frD)]/\∃lo:Int,(-10^14<=lo/\lo<=10^14)/\dl2=[sR n,sI (q:Int),sR S.length,sI (k:Int),sI lo,sI wi]) (λnx hx=>?_) ?_
   .skip
    refine ifD (λ_=>?_) (λ_=>?_)
    .have zl:Sz 80 (lo/9):=Sz.of (10^20) ()
     have r:=YK (a:=lo/9*900001) (b:=2*10^Int.toNat 14) ⋯;refine⟨ZC zl (Sz.of (n:=80) (10^20) ⋯),ZC (m:=80) (n:=80) (Sz.of (10^20) ⋯) (Sz.of (10^20) ⋯),show (0:Int)<2*10^Int.toNat 14 by decide,?_⟩;have t14:(10:Int)^Int.toNat 14=10^14:=rfl;exact hx _ _ ⟨rfl,_,⟨(),()⟩,rfl⟩
    .exact hx _ _ ⟨rfl,_,⟨(),()⟩,rfl⟩
   rintro dl2 S2 ⟨rfl,low,hlow,rfl⟩;refine Yi (λdl2 S2=>S2=S++[.lst (bs.map frD)]/\∃wi:Int,(0<=wi/\wi<10^14)/\dl2=[sR n,sI (q:Int),sR S.length,sI (k:Int),sI low,sI wi]) (λnx hx=>?_) ?_
   .refine ifD (λc1=>?_) (λc1=>?_)
    .refine ifD (λc2=>?_) (λc2=>?_)
     .have h0:0<bs.length:=by lia
      have i0:inR ((bs.length:Nat):Int) (0:Int):=⟨(),()⟩
      have q0:=ob _ (OH (vs:=bs) (i:=(0:Int)) i0);refine Zz (o:=.lst (bs.map frD)) (Zq _ _) (ZT i0) ?_;refine Zz (o:=.lst (bs.map frD)) (Zq _ _) (ZT i0) ?_;exact hx _ _ ⟨rfl,_,q0.2,rfl⟩
     .skip
      refine ifD (λ_=>?_) (λ_=>?_)
      .have zl:Sz 80 (wi/9):=Sz.of (10^20) ()
       have r:=YK (a:=wi/9*300007) (b:=10^Int.toNat 14) ⋯;refine⟨ZC zl (Sz.of (n:=80) (10^20) ⋯),show (0:Int)<10^Int.toNat 14 by decide,?_⟩;exact hx _ _ ⟨rfl,_,r,rfl⟩
      .exact hx _ _ ⟨rfl,_,⟨(),()⟩,rfl⟩
    .skip
     refine ifD (λ_=>?_) (λ_=>?_)
     .have zl:Sz 80 (wi/9):=Sz.of (10^20) ()
      have r:=YK (a:=wi/9*300007) (b:=10^Int.toNat 14) ⋯;refine⟨ZC zl (Sz.of (n:=80) (10^20) ⋯),show (0:Int)<10^Int.toNat 14 by decide,?_⟩;exact hx _ _ ⟨rfl,_,r,rfl⟩
     .exact hx _ _ ⟨rfl,_,⟨(),()⟩,rfl⟩
   rintro dl2 S2 ⟨rfl,wid,hwid,rfl⟩;refine YC (n:=S.length) (S1:=S++[.lst (bs.map frD)]) (xs:=bs.map frD) (y:=frD (low,low+wid)) kId (Zq _ _) kId (by rw[zB];lia) ?_;refine⟨(),bs++[(low,low+wid)],by simp[lb],λp hp=>?_,by rw[VF,yA];rfl,_,_,_,rfl⟩;rcases zX.mp hp with z|z
   .exact ob p z
   .cases zO.mp z;exact⟨hlow,by show 0<=low+wid-low;lia,by show low+wid-low<_;lia⟩
  .rename_i c;have ek:k=q:=by rw[zL] at c;lia
   subst ek;refine h bs lb λp hp=>?_
   obtain⟨⟨p1,p2⟩,p3,p4⟩:=ob p hp;unfold Sz;exact⟨(),(),()⟩
noncomputable def zcz  (zas:Dfz q86 LL Nj):Fkz 1 q86 Nj DD:=
 mkF zas Rk (λhr=>(Zb (Zk (i:=2) Rk.nd (Zf Z9 (dv 0) Zd)) (Zb (Zk (i:=3) Rk.nd (Zf Yl (dv 0) Zd)) (Zb (Zy (PDW.pt (Rx (Zs (ZI hr) (dv 2) Zd (Zp _)) (Qx (Zs (ZI hr) (Zf Z9 (dv 3) Zd) Zd (Zp _))))) (Ze (Zj (Zu (Za ZP (Za (Zf Yp (Zf YW (Zf Yl (dv 3) Zd) Zd) Zd) (Za Zd Zg)))))) ZE) (Zb (Zy (Zs (ZI hr) (dv 2) Zd (Zp _)) (Ze (Zj (Zu (Za ZP (Za (Zf Yp (Zf Z9 (Zf Yl (dv 3) Zd) Zd) Zd) (Za Zd Zg)))))) ZE) (Zb (Zy (Zs (ZI hr) (dv 2) Zd (Zp _)) (Zb (Zk (i:=4) Rk.nd (Zf ZX Zd (Zf Z9 (dv 3) Zd))) (Ze (Zj (Zu (Za ZP (Za (Zf ZX (Zf ZF (dv 4) (Zf Yp (Zf Z9 (Zf Yl (dv 3) Zd) Zd) Zd)) Zd) (pv 4))))))) ZE) (Zb (Zy (Zs (ZI hr) (dv 2) Zd (Zp _)) (Ze (Zj (Zu (Za ZP (Za (Zf YW (dv 3) (dv 1)) (Za (Zf ZX Zd (Zf Z9 (Zf YB (dv 3) (dv 1)) Zd)) Zg)))))) ZE) (Zb (Zk (i:=5) Rk.nd (ZD (Zu (Za ZP (Za ZP (Za ZP (Za ZP Zg))))) (Zf Yp (dv 2) Zd))) (Ze (Zj (Zu (pdv 5 (Za (Zf YW (dv 3) (dv 1)) (Za (Zf YW (Zf YB (dv 3) (dv 1)) (dv 1)) Zg)))))))))))))) λS Q ex=>by
  refine kI λc=>kI λm=>kN ?_
  rintro⟨⟨c0,c1,m1,m60⟩,h⟩;have zm:Sz 100 m:=Sz.of (10^20) ()
  have r1:=YK (a:=c/7) (b:=m) ()
  have r2:=YK (a:=c/7/m) (b:=m) ()
  have two:∀w:Str,w="plus"\/w="minus"\/w="times"->Q (.tup [.str w,.int (c/7%m),.int (c/7/m%m)]) S:=λw hw=>by
   rcases hw with rfl|rfl|rfl
   .exact h (.plus _ _) λq=>⟨r1,r2⟩
   .exact h (.minus _ _) λq=>⟨r1,r2⟩
   .exact h (.times _ _) λq=>⟨r1,r2⟩
  have num:∀t b:Int,1<=b->b<=10^9->Int.gcd t b=1->t.natAbs<=10^9->Q (.tup [.str "number",.int t,.int b]) S:=λt b a1 a2 a3 a4=>h (.number t b) λq=>⟨⟨a1,a2⟩,a3,a4⟩
  refine ifD (λe0=>?_) (λe0=>?_)
  .refine ifD (λe1=>?_) (λe1=>?_)
   .have r:=YK (a:=c/7/5) (b:=1999999999) ⋯;exact⟨show (0:Int)<1999999999 by decide,num (c/7/5%1999999999-999999999) 1 ⋯ ⋯ (DY _) ()⟩
   .refine ifD (λ_=>?_) (λz=>absurd e0 z);exact num (c/7/5%41-20) 1 ⋯ ⋯ (DY _) ()
  .refine ifD (λz=>absurd z e0) (λ_=>?_);refine ifD (λe1=>?_) (λe1=>?_)
   .have a1:0<=c/7%8/\c/7%8<8:=⟨(),()⟩
    have a2:0<=c/7/8%25/\c/7/8%25<25:=⟨(),()⟩
    have z1:Sz 10 (2+c/7%8):=Sz.of 1000 ()
    have z2:Sz 10 (c/7/8%25-12):=Sz.of 1000 ();refine⟨ZC z1 z2,num _ _ () () (zbJ _ _) ?_⟩;have z3:=z1.mul z2;unfold Sz at z3;lia
   .refine ifD (λe2=>?_) (λe2=>?_)
    .exact⟨(),zm.fd (),h (.power (c/7%m) (2+c/7/m%3)) λq=>⟨r1,(),()⟩⟩
    .have e3:c%7=3\/c%7=4\/c%7=5\/c%7=6:=by lia
     rcases e3 with e|e|e|e
     .exact VY 0 () rfl ⟨(),zm.fd (),(),two _ (.inl rfl)⟩
     .exact VY 1 () rfl ⟨(),zm.fd (),(),two _ (.inr (.inl rfl))⟩
     .exact VY 2 () rfl ⟨(),zm.fd (),(),two _ (.inr (.inr rfl))⟩
     .exact VY 3 () rfl ⟨(),zm.fd (),(),two _ (.inr (.inr rfl))⟩
noncomputable def zgw  (zjC:Dfz q53 IZ Qa):Fkz 1 q53 Qa Lp:=
 mkF zjC zfo (λhr=>(Zb (Zy (PDW.pt (WR (Zs (ZI hr) (piv 0) ZP (Zp _)) (SS (Zs (ZI hr) (piv 0) ZP (Zp _))))) (Ze (Zj Zd)) ZE) (Zb (Zy (Zs (ZI hr) (piv 0) ZP (Zp _)) (Ze (Zj (Zf ZF (ZD (dv 1) (piv 0)) (piv 0)))) ZE) (Ze (Zj (Zf ZX (ZD (dv 1) (piv 0)) (ZD (dv 1) (piv 0)))))))) λS Q ex=>by
  refine kD λd=>kR λr=>kN ?_
  rintro⟨v,ws,q,rfl,hl,ok,sm,h⟩;cases v with
  | number t b=>exact h
  | unknown k=>exact h
  | power i n=>
   obtain⟨hi,n2,n6⟩:=ok;have b:=sm i hi;refine Zz (o:=.lst (ws.map wtD)) hl (V9 hi) ?_;refine⟨ZC (m:=400) (n:=400) (Sz.of (10^20) ()) (Sz.of (10^20) ()),?_⟩;have e:((ws.getD i.toNat 0:Nat):Int)*n=((Nd.wt ws (.power i n):Nat):Int):=by
    simp only[Nd.wt];rw[Int.natCast_mul];rw[wA (),yX]
   show Q (.int (((ws.getD i.toNat 0:Nat):Int)*n)) S;rw[e];exact h
  | plus i j=>
   refine Zz (o:=.lst (ws.map wtD)) hl (V9 ok.1) ?_;exact Zz (o:=.lst (ws.map wtD)) hl (V9 ok.2) h
  | minus i j=>
   refine Zz (o:=.lst (ws.map wtD)) hl (V9 ok.1) ?_;exact Zz (o:=.lst (ws.map wtD)) hl (V9 ok.2) h
  | times i j=>
   refine Zz (o:=.lst (ws.map wtD)) hl (V9 ok.1) ?_;exact Zz (o:=.lst (ws.map wtD)) hl (V9 ok.2) h
noncomputable def zgz  (zaq:Dfz q99 QH Oq)(Sh:Fkz 1 q53 Qa Lp)(Kl:Fkz 1 q86 Nj DD):Fkz 2 q99 Oq Ey:=
 mkF zaq Sg (λhr=>(Zb (GR (x:="_law_k") (N:=[]) (caps:=[]) (ar:=Zi QH) rfl rfl csc rfl ⋯ (i:=2) Sg.nd rfl rfl rfl YQ (pv 1) pt0 (λ_ _ _ _ _ _=>(Zu (Za ZP (pv 0))))) (Zb (GR (x:="_law_k") (N:=[]) (caps:=[]) (ar:=Zi QH) rfl rfl csc rfl ⋯ (i:=3) Sg.nd rfl rfl rfl YQ (pv 1) pt0 (λ_ _ _ _ _ _=>Zd)) (Zb (W9 (i:=4) PassesOwn.never rfl Sg.nd rfl (Or.inl rfl) (dv 0) (Zb (Zk (i:=5) Sg.nd (Zh Kl hr (pdv 4 (Za (ZL (ZQ YZ) rfl Yv Boot.«len» (pv 2)) Zg)))) (Zb (Zk (i:=6) Sg.nd (Zh Sh hr (pdv 5 (pv 3)))) (Ze (Zy (PDW.pt (Rx (Zs Wy (dv 6) Zd (Zp _)) (Qx (Zs (Fy hr) (dv 5) (dv 2) rfl)))) (Zb (Z7 (Ys (dv 2) (dv 5))) (Ze (Z7 (Ys (dv 3) (dv 6))))) ZE))))) (Ze (Zj (dv 2))))))) λS Q ex=>by
  refine kR λc=>kI λq=>kN ?_
  rintro⟨cs,qn,hc,hint,rfl,hq,lc,h⟩;refine Kc (j:=(qn:Nat)) (S1:=S) (λk=>.tup [.str "unknown",.int (k:Int)]) kId ⟨(),()⟩ (λk hk S2 K pr hK=>by exact hK) ?_;have e:((List.range ((qn:Nat):Int).toNat).map λ(k:Nat)=>D.tup [.str "unknown",.int (k:Int)])=((List.range qn).map λ(k:Nat)=>Nd.unknown (k:Int)).map Nd.d:=by
   rw[zY,zL];rfl
  rw[e];refine Kc (j:=(qn:Nat)) (S1:=S++[.lst (((List.range qn).map λ(k:Nat)=>Nd.unknown (k:Int)).map Nd.d)]) (λk=>.int 1) kId ⟨(),()⟩ (λk hk S2 K pr hK=>by exact hK) ?_;have e2:((List.range ((qn:Nat):Int).toNat).map λ(k:Nat)=>D.int 1)=((List.range qn).map λ_=>(1:Nat)).map wtD:=by
   rw[zY,zL];rfl
  rw[e2];have l1:(S++[Ob.lst (((List.range qn).map λ(k:Nat)=>Nd.unknown (k:Int)).map Nd.d)]).length=S.length+1:=by simp
  refine Ve (n:=c) (o:=.lst cs) (λk dl' S'=>k<=cs.length/\∃(ns:List Nd)(ws:List Nat),ZK qn ns ws/\1<=ns.length/\ns.length<=4+k/\Pre S S'/\La S' S.length (ns.map Nd.d)/\S'[S.length+1]?=some (.lst (ws.map wtD))/\∃u4 u5 u6:Option D,dl'=[sR c,sI (qn:Nat),sR S.length,sR (S.length+1),u4,u5,u6]) ⟨zN _,_,_,zdx qn,by simp;lia,by simp;lia,Pre.refl.push.push,Zt (Zq _ _),by rw[<- l1];exact Zq _ _,_,_,_,by rw[<- l1];rfl⟩ (λk dl' S' z=>?_) ?_ ?_
  .obtain⟨_,_,_,_,_,_,p,_⟩:=z;exact p _ _ hc
  .rintro k x dl' S' nx ct ex' ⟨hk,ns,ws,net,n1,n4,pr',hS',hW',u4,u5,u6,rfl⟩ hn;have hk':=(zA.mp ex').1
   have hk'':k<cs.length:=hk';obtain⟨i,rfl,i0,i1⟩:=hint _ (zE ex');refine Xn hS' ?_;rw[zB];refine⟨⟨i0,i1,(),()⟩,λv ok=>?_⟩;have okw:v.ok ws.length (qn:Nat):=by rw[net.len];exact ok _
   refine⟨v,ws,_,rfl,hW',okw,λi hi=>(net.w1 (by rw[<- net.len];exact hi)).2,?_⟩;have on:=hn _ _ ⟨(),ns,ws,net,n1,(),pr',hS',hW',sI i,some v.d,sI (v.wt ws:Nat),rfl⟩;refine ifD (λe1=>?_) (λe1=>on);refine zey hS' λb=>?_
   cases b with
   | false=>exact on
   | true=>
    refine YC (n:=S.length) (S1:=S') (xs:=ns.map Nd.d) (y:=v.d) kId hS' kId (by rw[zB];lia) ?_;have nmm:S.length≠S.length+1:=by lia
    refine YC (n:=S.length+1) (S1:=S'.set S.length (.lst (ns.map Nd.d++[v.d]))) (xs:=ws.map wtD) (y:=wtD (v.wt ws)) kId (Z4 hW' nmm) kId (by rw[zB,net.len];lia) ?_;refine hn _ _ ⟨(),ns++[v],ws++[v.wt ws],net.snoc (ok _) (),by simp,by simp;lia,YN (YN pr' (zC _)) (),?_,?_,_,_,_,rfl⟩
    .rw[yA];exact Z4 (Yd hS') (Ne.symm nmm)
    .rw[yA];exact Yd (Z4 hW' nmm)
  .rintro dl' S' ⟨hk,ns,ws,net,n1,n4,pr',hS',hW',u4,u5,u6,rfl⟩;exact h ns ws _ _ net n1 () pr' (zC _) hS'
noncomputable def zcE  (zeT:Dfz q31 K9 Uu):Fkz 1 q31 Uu Rf:=
 mkF zeT TB (λhr=>(Zb (Zk (i:=0) TB.nd (ZL Rv rfl Vh Boot.«abs» (pv 0))) (Zb (Zk (i:=1) TB.nd (ZL Rv rfl Vh Boot.«abs» (pv 1))) (Zb (Qk PassesOwn.never (Zs WB (dv 1) Zd (Zp _)) (Zb (Zk (i:=2) TB.nd (Zf YW (dv 0) (dv 1))) (Zb (Zk (i:=0) TB.nd (dv 1)) (Ze (Zk (i:=1) TB.nd (dv 2)))))) (Ze (Zj (dv 0))))))) λS Q ex=>by
  refine kI λa=>kI λb=>kN λh=>?_
  refine⟨λm dl' S'=>S'=S/\∃(x y:Int)(o:Option D),dl'=[sI x,sI y,o]/\0<=x/\0<=y/\Int.gcd x y=Int.gcd a b/\m=y.toNat,⟨(Yx b).toNat,rfl,Yx a,Yx b,none,rfl,Nr a,Nr b,Fs a b,rfl⟩,?_⟩;rintro m dl' S' ⟨rfl,x,y,o,rfl,hx,hy,hg,rfl⟩;refine ifD (λc=>?_) (λc=>?_)
  .exact⟨c,⟨(x%y).toNat,by have:=YK (a:=x) c;lia,rfl,y,x%y,_,rfl,hy,(YK (a:=x) c).1,(DG x y).trans hg,rfl⟩⟩
  .have hy0:y=0:=by lia
   subst hy0;have e:((Int.gcd a b:Nat):Int)=x:=by rw[<- hg,uR];lia
   rw[e] at h;exact h
noncomputable def zig  (zfm:Dfz q75 Fq MU):Fkz 1 q75 MU Eh:=
 mkF zfm Po (λhr=>(Zb (Zk (i:=2) Po.nd Zd) (Zb (RT (i:=3) PassesOwn.never rfl Po.nd rfl (Or.inl rfl) rfl YQ (pv 1) (Ze (Zk (i:=2) Po.nd (Zf ZF (dv 2) (dv 0))))) (Ze (Zj (dv 2)))))) λS Q ex=>by
  refine kI λx=>kI λn=>kN ?_
  rintro⟨⟨h0,h6,sx⟩,h⟩;refine⟨⟨(),()⟩,λk dl' S'=>S'=S/\k<=n.toNat/\∃(z:Int)(o:Option D),z=x^k/\dl'=[sI x,sI n,sI z,o],⟨rfl,zN _,1,none,(vK x).symm,rfl⟩,?_⟩;rintro k dl' S' ⟨rfl,hk,z,o,rfl,rfl⟩;refine OL (λc=>?_) (λc=>?_)
  .exact⟨ZC (m:=12001) (n:=2000) ((sx.pow k).mono ()) sx,rfl,(),_,_,(xH x k).symm,rfl⟩
  .have e:k=n.toNat:=by lia
   subst e;exact h
noncomputable def zbO  (zfH:Dfz q62 Hq Oz)(MV:Fkz 1 q75 MU Eh):Fkz 2 q62 Oz EJ:=
 mkF zfH Ts (λhr=>(Zb (Zk (i:=2) Ts.nd (Yo Zg)) (Zb (W9 (i:=3) PassesOwn.never rfl Ts.nd rfl (Or.inl rfl) (dv 0) (Ze (Zy (Zs (ZI hr) (piv 3) ZP (Zp _)) (Ze (Z7 (Ys (dv 2) (Zu (Za (piv 3) (Za (piv 3) Zg)))))) (Ze (Zy (Zs (ZI hr) (piv 3) ZP (Zp _)) (Ze (Z7 (Ys (dv 2) (ZD (dv 1) (piv 3))))) (Ze (Zy (Zs (ZI hr) (piv 3) ZP (Zp _)) (Zb (Zk (i:=4) Ts.nd (ZD (dv 2) (piv 3))) (Ze (Z7 (Ys (dv 2) (Zu (Za (Zh MV hr (Za (piv 4) (Za (piv 3) Zg))) (Za (Zh MV hr (Za (piv 4) (Za (piv 3) Zg))) Zg))))))) (Zb (Zk (i:=4) Ts.nd (ZD (dv 2) (piv 3))) (Zb (Zk (i:=5) Ts.nd (ZD (dv 2) (piv 3))) (Ze (Zy (Zs (ZI hr) (piv 3) ZP (Zp _)) (Ze (Z7 (Ys (dv 2) (Zu (Za (Zf ZF (piv 4) (piv 5)) (Za (Zf ZF (piv 4) (piv 5)) Zg)))))) (Ze (Zy (Zs (ZI hr) (piv 3) ZP (Zp _)) (Ze (Z7 (Ys (dv 2) (Zu (Za (Zf ZX (Zf ZF (piv 4) (piv 5)) (Zf ZF (piv 5) (piv 4))) (Za (Zf ZF (piv 4) (piv 5)) Zg)))))) (Ze (Z7 (Ys (dv 2) (Zu (Za (Zf Yp (Zf ZF (piv 4) (piv 5)) (Zf ZF (piv 5) (piv 4))) (Za (Zf ZF (piv 4) (piv 5)) Zg))))))))))))))))))) (Ze (Zj (dv 2)))))) λS Q ex=>by
  refine kR λa=>kR λb=>kN ?_
  rintro⟨ns,ws,ps,ha,hb,net,zp,hl,h⟩;refine Ve (n:=a) (o:=.lst (ns.map Nd.d)) (λk dl' S'=>k<=ns.length/\Pre S S'/\La S' S.length ((ZG ps (ns.take k)).map frD)/\∃u3 u4 u5:Option D,dl'=[sR a,sR b,sR S.length,u3,u4,u5]) ⟨zN _,Pre.refl.push,Zq _ _,_,_,_,rfl⟩ (λk dl' S' z=>z.2.1 _ _ ha) ?_ ?_
  .rintro k x dl' S' nx ct ex' ⟨hk,pr,hf,u3,u4,u5,rfl⟩ hn;have ex2:(ns.map Nd.d)[k]?=some x:=ex';rw[zF] at ex2;obtain⟨v,hv,rfl⟩:=zG.mp ex2;have hk':=(zA.mp hv).1
   have ln:(ZG ps (ns.take k)).length=k:=by rw[Qm,zM];lia
   have okv:v.ok (ZG ps (ns.take k)).length ps.length:=by rw[ln];exact(net.ok k v hv).1
   have pz:Pz 1800 (ZG ps (ns.take k)):=Pz.of_w (F0 net rfl zp k ()) λj hj=>(net.w1 (i:=j) ⟨(),()⟩).2
   have aY:∀u3 u4 u5:Option D,nx [sR a,sR b,sR S.length,u3,u4,u5] (S'.set S.length (.lst ((ZG ps (ns.take k)).map frD++[frD (v.due (ZG ps (ns.take k)) ps)]))):=λu3 u4 u5=>by
    refine hn _ _ ⟨(),YN pr (zC _),?_,_,_,_,rfl⟩;rw[Xg hv,Q5,yA];exact Yd hf
   cases v with
   | number t d=>
    refine YC (n:=S.length) (S1:=S') (xs:=(ZG ps (ns.take k)).map frD) (y:=frD (t,d)) kId hf kId (by rw[zB,ln];lia) ?_;exact aY _ _ _
   | unknown j=>
    refine YC (n:=S.length) (S1:=S') (xs:=(ZG ps (ns.take k)).map frD) (y:=frD (gt ps j)) kId hf (λK hK=>Zz (o:=.lst (ps.map frD)) (pr _ _ hb) (ZT okv) hK) (by rw[zB,ln];lia) ?_;exact aY _ _ _
   | power i n=>
    obtain⟨ii,n2,n6⟩:=okv;have bi:=pz.at ii;refine Zz (o:=.lst ((ZG ps (ns.take k)).map frD)) hf (ZT ii) ?_;refine YC (n:=S.length) (S1:=S') (xs:=(ZG ps (ns.take k)).map frD) (y:=frD (Nd.due (ZG ps (ns.take k)) ps (.power i n))) kId hf (λK hK=>by exact⟨⟨(),n6,bi.2.1.mono ⋯⟩,⟨(),n6,bi.2.2.mono ⋯⟩,hK⟩) (by rw[zB,ln];lia) ?_;exact aY _ _ _
   | times i j=>
    have ii:=okv.1
    have jj:=okv.2
    have bi:=pz.at ii
    have bj:=pz.at jj;refine Zz (o:=.lst ((ZG ps (ns.take k)).map frD)) hf (ZT ii) ?_;refine Zz (o:=.lst ((ZG ps (ns.take k)).map frD)) hf (ZT jj) ?_;refine YC (n:=S.length) (S1:=S') (xs:=(ZG ps (ns.take k)).map frD) (y:=frD (Nd.due (ZG ps (ns.take k)) ps (.times i j))) kId hf (λK hK=>by exact⟨ZC bi.2.1 bj.2.1,ZC bi.2.2 bj.2.2,hK⟩) (by rw[zB,ln];lia) ?_;exact aY _ _ _
   | plus i j=>
    have ii:=okv.1
    have jj:=okv.2
    have bi:=pz.at ii
    have bj:=pz.at jj;refine Zz (o:=.lst ((ZG ps (ns.take k)).map frD)) hf (ZT ii) ?_;refine Zz (o:=.lst ((ZG ps (ns.take k)).map frD)) hf (ZT jj) ?_;refine YC (n:=S.length) (S1:=S') (xs:=(ZG ps (ns.take k)).map frD) (y:=frD (Nd.due (ZG ps (ns.take k)) ps (.plus i j))) kId hf (λK hK=>by exact⟨ZC bi.2.1 bj.2.2,ZC bj.2.1 bi.2.2,ZC bi.2.2 bj.2.2,hK⟩) (by rw[zB,ln];lia) ?_;exact aY _ _ _
   | minus i j=>
    have ii:=okv.1
    have jj:=okv.2
    have bi:=pz.at ii
    have bj:=pz.at jj;refine Zz (o:=.lst ((ZG ps (ns.take k)).map frD)) hf (ZT ii) ?_;refine Zz (o:=.lst ((ZG ps (ns.take k)).map frD)) hf (ZT jj) ?_;refine YC (n:=S.length) (S1:=S') (xs:=(ZG ps (ns.take k)).map frD) (y:=frD (Nd.due (ZG ps (ns.take k)) ps (.minus i j))) kId hf (λK hK=>by exact⟨ZC bi.2.1 bj.2.2,ZC bj.2.1 bi.2.2,ZC bi.2.2 bj.2.2,hK⟩) (by rw[zB,ln];lia) ?_;exact aY _ _ _
  .rintro dl' S' ⟨hk,pr,hf,u3,u4,u5,rfl⟩;have e:ns.take (Zm (.lst (ns.map Nd.d))).length=ns:=by
    show ns.take (ns.map Nd.d).length=ns;rw[zB,yJ]
   rw[e] at hf;exact h _ _ pr (zC _) hf
noncomputable def zfN  (zd7:Dfz Wc IF O0):Fkz 1 Wc O0 EU:=
 mkF zd7 zbI (λhr=>(Zb (Zy (Zs (Fy hr) (dv 1) (dv 0) rfl) (Ze (Z7 (Ys (dv 0) (dv 1)))) ZE) (Ze (Zj (Ex (k:=1) hr ⋯ (dv 0) (pv 1)))))) λS Q ex=>by
  refine kR λa=>kD λd=>kN ?_
  rintro⟨q,v,ns,ws,rfl,ha,l9,net,ok,h16,h⟩;have aY:∀(T:Sto)(j:Nat)(ns':List Nd)(ws':List Nat),Gr q a 1 S ns ws T ns' ws'->ns'[j]?=some v->Q (.int (j:Int)) T:=λT j ns' ws' gr hj=>by
   refine h T j ns' ws' gr (zA.mp hj).1 hj ?_ (Aa gr ok hj);rw[(gr.net.ok j v hj).2.1];exact zd8 gr net ok
  obtain⟨o,e1,e2,e3⟩:=Lx v ns;refine zfS (o:=o) ha e2 ?_;cases o with
  | some j=>
   refine YF ?_;refine CK (n:=a) (v:=v) (ns:=ns) kId kId ha e1 ?_;exact aY S j ns ws ((Gr.refl net ha).mono ⋯) (e3 j rfl)
  | none=>
   refine YO ?_;refine YC (n:=a) (S1:=S) (xs:=ns.map Nd.d) (y:=v.d) kId ha kId (by rw[zB];lia) ?_;have hm:(S.set a (.lst (ns.map Nd.d++[v.d])))[a]?=some (.lst ((ns++[v]).map Nd.d)):=by
    rw[yA];exact Yd ha
   obtain⟨o2,f1,f2,f3⟩:=Lx v (ns++[v]);cases o2 with
   | none=>
    obtain⟨k,hk⟩:∃k,(ns++[v])[k]?=some v:=⟨ns.length,by simp⟩;exact absurd f2 (any_some hk)
   | some j=>
    refine CK (n:=a) (v:=v) (ns:=ns++[v]) kId kId hm f1 ?_;exact aY _ j (ns++[v]) (ws++[v.wt ws]) ⟨net.snoc ok h16,⟨[v],rfl,by simp⟩,⟨_,rfl⟩,hm,by simp,λx o hx e=>Z4 e (Ne.symm hx)⟩ (f3 j rfl)
noncomputable def BL  (zds:Dfz q76 LZ N6)(Sh:Fkz 1 q53 Qa Lp):Fkz 2 q76 N6 FC:=
 mkF zds GH (λhr=>(Zb (Zk (i:=1) GH.nd (Yo Zg)) (Zb (W9 (i:=2) PassesOwn.never rfl GH.nd rfl (Or.inl rfl) (dv 0) (Ze (Z7 (Ys (dv 1) (Zh Sh hr (pdv 2 (pv 1))))))) (Ze (Zj (dv 1)))))) λS Q ex=>by
  refine kR λa=>kN ?_
  rintro⟨ns,ws,q,ha,net,l70,h⟩;refine Ve (n:=a) (o:=.lst (ns.map Nd.d)) (λk dl' S'=>k<=ns.length/\Pre S S'/\La S' S.length ((ws.take k).map wtD)/\∃u:Option D,dl'=[sR a,sR S.length,u]) ⟨zN _,Pre.refl.push,Zq _ _,_,rfl⟩ (λk dl' S' z=>z.2.1 _ _ ha) ?_ ?_
  .rintro k x dl' S' nx ct ex' ⟨hk,pr,hf,u,rfl⟩ hn;have ex2:(ns.map Nd.d)[k]?=some x:=ex';rw[zF] at ex2;obtain⟨v,hv,rfl⟩:=zG.mp ex2;have hk':=(zA.mp hv).1;obtain⟨okv,ew,sm⟩:=zhh net hv;have ln:(ws.take k).length=k:=by rw[zM,net.len];lia
   refine YC (n:=S.length) (S1:=S') (xs:=(ws.take k).map wtD) (y:=wtD (ws.getD k 0)) kId hf (λK hK=>?_) (by rw[zB,ln];lia) ?_
   .refine⟨v,ws.take k,q,rfl,hf,okv,sm,?_⟩;rw[ew];exact hK
   .refine hn _ _ ⟨(),YN pr (zC _),?_,_,rfl⟩;have ek:ws[k]?=some (ws.getD k 0):=by
     rw[zZ,zD (by rw[net.len];lia)];rfl
    rw[Xg ek,yA];exact Yd hf
  .rintro dl' S' ⟨hk,pr,hf,u,rfl⟩;have e:ws.take (Zm (.lst (ns.map Nd.d))).length=ws:=by
    show ws.take (ns.map Nd.d).length=ws;rw[zB,<- net.len,yJ]
   rw[e] at hf;exact h _ pr hf
noncomputable def Aq  (zgh:Dfz X2 LO MQ)(Ol:Fkz 1 Wc O0 EU)(Fo:Fkz 2 q76 N6 FC)(Wh:Fkz 1 q31 Uu Rf)(LC:Fkz 2 q62 Oz EJ):Fkz 3 X2 MQ BH:=
 mkF zgh WU (λhr=>(Zb (Zk (i:=5) WU.nd (Zf Yp (Zf Yp (ZL (ZQ YZ) rfl Yv Boot.«len» (pv 0)) Zd) (Zf YW (Zf Yl (dv 3) Zd) (ZL (Vu rfl) rfl Xv Boot.«min» (Za (ZL (ZQ YZ) rfl Yv Boot.«len» (pv 0)) (Za Zd Zg)))))) (Zb (Zk (i:=6) WU.nd (ZD (Zu (Za ZP (Za ZP (Za ZP Zg)))) (Zf Z9 (dv 3) Zd))) (Zb (Zk (i:=7) WU.nd (Yo Zg)) (Zb (W9 (i:=8) PassesOwn.never rfl WU.nd rfl (Or.inl rfl) (dv 1) (Zb (Z7 (Ys (dv 7) (Zu (Za (Zf ZX (piv 8) (Zf Yl (Zf ZF (Zf Yp (piv 8) (piv 8)) (Zf Z9 (dv 4) Zd)) Zd)) (pv 2))))) (Ze (Zk (i:=4) WU.nd (Zf Yl (dv 4) Zd))))) (Zb (Zk (i:=9) WU.nd (ZD (Zh LC hr (Za (WG (dv 0) WY (WV (Zf ZX (dv 5) Zd))) (pv 7))) (dv 5))) (Zb (Zk (i:=10) WU.nd (Zh Wh hr (Za (piv 9) (Za (piv 9) Zg)))) (Zb (Zk (i:=11) WU.nd (Zf YB (piv 9) (dv 10))) (Zb (Zk (i:=12) WU.nd (Zf YB (piv 9) (dv 10))) (Zb (Zy (PDW.pt (WR (Zs (ZI hr) (Zf Z9 (Zf Yl (dv 3) Zd) Zd) Zd (Zp _)) (WR (Zs Ly (ZL Rv rfl Vh Boot.«abs» (pv 11)) (Zf UJ Zd Zd) (Zp _)) (WR (Zs Ly (dv 12) (Zf UJ Zd Zd) (Zp _)) (SS (Zs WB (ZD (Zh Fo hr (pv 0)) (dv 5)) Zd (Zp _))))))) (Ze (Zj (Zu (pdv 6 (pv 5))))) ZE) (Ze (Zj (Zu (pdv 6 (Za (Zh Ol hr (pdv 0 (Za (Zu (Za ZP (pdv 5 (Za (Zh Ol hr (pdv 0 (Za (Zu (Za ZP (pdv 11 (pv 12)))) Zg))) Zg)))) Zg))) Zg))))))))))))))) λS Q ex=>by
  refine kR λa=>kR λb=>kI λg=>kI λc=>kI λpl=>kN ?_
  rintro⟨q,ns,ws,bs,ha,hb,net,lb,q4,sb,hg,c0,p0,l60,h⟩;have lt:=ZV ha
  have lt2:=ZV hb;obtain⟨zr,wz,ez⟩:∃(zero:Bool)(k:Nat),c%3=(k:Int)/\([.str "zero",.str "zero",.str "least"]:List D)[k]?=some (.str (if zero then "zero" else "least")):=by
   have:c%3=0\/c%3=1\/c%3=2:=by lia
   rcases this with e|e|e
   .exact⟨true,0,e,rfl⟩
   .exact⟨true,1,e,rfl⟩
   .exact⟨false,2,e,rfl⟩
  refine Yi (λdl2 S2=>S=S2/\∃k:Nat,k<ns.length/\dl2=[sR a,sR b,sI g,sI c,sI pl,sI (k:Int),none,none,none,none,none,none,none]) (λnx hx=>?_) ?_
  .refine Xn ha ?_;refine Xn ha ?_;rw[zB];have em:0<(if (4:Int)<(ns.length:Int) then 4 else (ns.length:Int))/\(if (4:Int)<(ns.length:Int) then 4 else (ns.length:Int))<=ns.length:=by split<;>lia
   have rm:=YK (a:=c/3) em.1;refine⟨em.1,hx _ _ ⟨rfl,((ns.length:Int)-1-c/3%(if (4:Int)<(ns.length:Int) then 4 else (ns.length:Int))).toNat,(),?_⟩⟩;rw[wA ()];rfl
  rintro dl2 S2 ⟨rfl,at',lat,rfl⟩;refine Yi (λdl2 S2=>S=S2/\dl2=[sR a,sR b,sI g,sI c,sI pl,sI (at':Int),some (.str (if zr then "zero" else "least")),none,none,none,none,none,none]) (λnx hx=>?_) ?_
  .exact VY wz ez.1 ez.2 (hx _ _ ⟨rfl,rfl⟩)
  rintro dl2 S2 ⟨rfl,rfl⟩;refine Kh (λdl2 S2=>∃ps:LI,ps.length=bs.length/\Pz 110 ps/\S2=S++[.lst (ps.map frD)]/\∃x4 x8:Option D,dl2=[sR a,sR b,sI g,sI c,x4,sI (at':Int),some (.str (if zr then "zero" else "least")),sR S.length,x8,none,none,none,none]) (λnx hx=>?_) ?_
  .refine Ve (n:=b) (o:=.lst (bs.map frD)) (λi dl' S'=>i<=bs.length/\∃(ps:LI)(pl:Int),ps.length=i/\Pz 110 ps/\0<=pl/\S'=S++[.lst (ps.map frD)]/\∃x8:Option D,dl'=[sR a,sR b,sI g,sI c,sI pl,sI (at':Int),some (.str (if zr then "zero" else "least")),sR S.length,x8,none,none,none,none]) ⟨zN _,[],pl,rfl,λp hp=>(nomatch hp),p0,rfl,_,rfl⟩ (λi dl' S' z=>?_) ?_ ?_
   .obtain⟨_,_,_,_,_,_,rfl,_⟩:=z;exact Zt hb
   .rintro i x dl' S' nx2 ct hx2 ⟨hi,ps,pl,lp,zp,pl0,rfl,x8,rfl⟩ hn;have hx3:(bs.map frD)[i]?=some x:=hx2;rw[zF] at hx3;obtain⟨s,hs,rfl⟩:=zG.mp hx3;have li:=(zA.mp hs).1;obtain⟨s1,s2,s3⟩:=sb s (zE hs);have z1:Sz 53 (s.2-s.1):=by unfold Sz at *;lia
    have z2:Sz 5 (pl%9):=Sz.of 16 ()
    have z3:=(z1.mul z2).div (j:=8) ⋯;refine YC (n:=S.length) (S1:=S++[.lst (ps.map frD)]) (xs:=ps.map frD) (y:=frD (s.1+(s.2-s.1)*(pl%9)/8,g)) kId (Zq _ _) (λK hK=>⟨ZC z1 z2,hK⟩) (by rw[zB];lia) ?_;refine hn _ _ ⟨(),ps++[(s.1+(s.2-s.1)*(pl%9)/8,g)],pl/9,by simp[lp],λp hp=>?_,(),by rw[VF,yA];rfl,_,rfl⟩;rcases zX.mp hp with z|z
    .exact zp p z
    .cases zO.mp z;unfold Sz at *
     refine⟨hg.1,?_,?_⟩
     .show (s.1+(s.2-s.1)*(pl%9)/8).natAbs<_;lia
     .show g.natAbs<_;lia
   .rintro dl' S' ⟨hi,ps,pl,lp,zp,pl0,rfl,x8,rfl⟩;refine hx _ _ ⟨ps,?_,zp,rfl,_,_,rfl⟩;rw[lp];exact zB ..
  rintro dl2 S2 ⟨ps,lp,zp,rfl,x4,x8,rfl⟩;have at7:=Zq S (.lst (ps.map frD));refine WA (n:=a) (o:=.lst (ns.map Nd.d)) (lo:=none) (hi:=some ((at':Int)+1)) (S3:=S++[.lst (ps.map frD)]) kId kId kId (Zt ha) ?_;have ec:Yb (ns.map Nd.d) none (some ((at':Int)+1))=(ns.take (at'+1)).map Nd.d:=by
   rw[QN () (by rw[zB];lia),xJ];rfl
  rw[show Zm (Ob.lst (ns.map Nd.d))=ns.map Nd.d from rfl,ec];have netP:ZK ((ps.length:Nat):Int) ns ws:=by rw[lp,lb];exact net
  refine⟨ns.take (at'+1),ws.take (at'+1),ps,Zq _ _,Zt at7,netP.take _,zp,by rw[zM];lia,λT m pr lm hf=>?_⟩;have prS:Pre S T:=λn o e=>pr n o (Zt (Zt e))
  have l1:(ZG ps (ns.take (at'+1))).length=at'+1:=by rw[Qm,zM];lia
  have ik:inR (((ZG ps (ns.take (at'+1))).length:Nat):Int) (at':Int):=⟨(),()⟩
  have pz:Pz 1800 (ZG ps (ns.take (at'+1))):=Pz.of_w (F0 netP rfl zp (at'+1) ()) λj hj=>(net.w1 (i:=j) ⟨(),()⟩).2
  obtain⟨d1,d2,d3⟩:=pz.at ik;refine Zz (o:=.lst ((ZG ps (ns.take (at'+1))).map frD)) hf (ZT ik) ?_;generalize gt (ZG ps (ns.take (at'+1))) (at':Int)=d at d1 d2 d3;have gp:0<Int.gcd d.1 d.2:=Int.gcd_pos_of_ne_zero_right _ ()
  have g1:((Int.gcd d.1 d.2:Nat):Int) ∣ d.2:=xP ..
  have gl:((Int.gcd d.1 d.2:Nat):Int)<=d.2:=Int.le_of_dvd () g1
  have zg:Sz 1800 ((Int.gcd d.1 d.2:Nat):Int):=by unfold Sz at *;lia
  have cop:=uB gp
  have bp:1<=d.2/((Int.gcd d.1 d.2:Nat):Int):=by
   have:=xQ g1;by_cases z:1<=d.2/((Int.gcd d.1 d.2:Nat):Int)
   .exact z
   .have w:=yR (show d.2/((Int.gcd d.1 d.2:Nat):Int)<=0 by lia) (show (0:Int)<=((Int.gcd d.1 d.2:Nat):Int) by lia);lia
  refine⟨zg.fd (),zg.fd (),?_⟩;generalize ((Int.gcd d.1 d.2:Nat):Int)=s at cop bp;have t9:(10:Int)^Int.toNat 9=10^9:=rfl
  have ret:∀T:Sto,Pre S T->Q (rwD (zr,at')) T:=λT p=>h T ns ws (zr,at') ((Gr.pre net ha p (YI p)).mono ()) lat
  refine ifD (λ_=>ret T prS) (λ_=>?_);refine ifD (λ_=>ret T prS) (λc2=>?_);refine ifD (λ_=>ret T prS) (λc3=>?_);refine⟨ns,ws,q,prS _ _ ha,net,(),λT2 p2 h2=>?_⟩;have P2:Pre S T2:=λn o e=>p2 n o (prS _ _ e)
  refine Zz (o:=.lst (ws.map wtD)) h2 (V9 (i:=(at':Int)) ⟨(),by rw[net.len];lia⟩) ?_;refine ifD (λ_=>ret T2 P2) (λc4=>?_);rw[zL] at c4;have a2:(d.1/s).natAbs<=10^9:=by
   unfold Yx at c2;split at c2<;>lia
  have g0:=Gr.pre net ha P2 (YI P2);refine⟨q,.number (d.1/s) (d.2/s),ns,ws,rfl,g0.nd,(),net,⟨⟨bp,()⟩,cop,a2⟩,show 1<=16 by decide,λT3 j ns3 ws3 gr3 lj hj wj dj=>?_⟩;have ln3:=gr3.ln
  have w1:=gr3.wt net lat
  have wj1:ws3.getD j 0=1:=wj;refine⟨q,.minus at' j,ns3,ws3,rfl,gr3.nd,(),gr3.net,⟨⟨(),()⟩,(),()⟩,?_,λT4 j4 ns4 ws4 gr4 lj4 _ _ _=>?_⟩
  .simp only[Nd.wt,zL];lia
  .exact h T4 ns4 ws4 (zr,j4) (((g0.trans gr3).trans gr4).mono ()) lj4
noncomputable def zjk  (zdh:Dfz q87 KP OM)(HQ:Fkz 3 X2 MQ BH)(Yu:Fkz 1 q41 Tt P6):Fkz 4 q87 OM ER:=
 mkF zdh UT (λhr=>(Zb (Zk (i:=4) UT.nd (Yo Zg)) (Zb (Zk (i:=5) UT.nd (Zf Z9 (Zh Yu hr (pdv 0 (Za Zd Zg))) Zd)) (Zb (Zy (Zs WB (dv 5) Zd (Zp _)) (Ze (Zk (i:=5) UT.nd (Zf ZX Zd (Zf Z9 (dv 5) Zd)))) ZE) (Zb (RT (i:=6) PassesOwn.never rfl UT.nd rfl (Or.inl rfl) rfl YQ (pv 5) (Zb (Zk (i:=7) UT.nd (Zf Yl (Zh Yu hr (pdv 0 (Za Zd Zg))) Zd)) (Zb (Zy (Zs (ZI hr) (Zf Z9 (Zf Yl (Zh Yu hr (pdv 0 (Za Zd Zg))) Zd) Zd) Zd (Zp _)) (Ze (Zk (i:=7) UT.nd (Zf Yl (Zh Yu hr (pdv 0 (Za (Zf ZX Zd (dv 6)) Zg))) Zd))) ZE) (Ze (Z7 (Ys (dv 4) (Zh HQ hr (pdv 1 (pdv 2 (pdv 3 (Za (Zh Yu hr (pdv 0 (Za (Zf ZX Zd (dv 6)) Zg))) (pv 7)))))))))))) (Ze (Zj (dv 4)))))))) λS Q ex=>by
  refine kR λn=>kR λa=>kR λb=>kI λg=>kN ?_
  rintro⟨q,xs,ns,ws,bs,hn,ha,hb,nab,net,lb,q4,sb,hg,l50,h⟩;have lt:=ZV ha
  have na:n≠a:=λe=>by rw[e,ha] at hn;cases hn
  have g0:=Gr.push net ha [.lst []]
  have at0:=Zq S (.lst []);refine Kh (λdl2 S2=>S2=S++[.lst []]/\∃k:Int,(0<=k/\k<8)/\dl2=[sR n,sR a,sR b,sI g,sR S.length,sI k,none,none]) (λnx hx=>?_) ?_
  .refine⟨xs,Zt hn,⟨⋯,⋯⟩,λc hc=>?_⟩;exact hx _ _ ⟨rfl,_,⟨(),()⟩,rfl⟩
  rintro dl2 S2 ⟨rfl,k0,hk0,rfl⟩;refine Yi (λdl2 S2=>S2=S++[.lst []]/\∃k:Nat,k<=3/\dl2=[sR n,sR a,sR b,sI g,sR S.length,sI (k:Int),none,none]) (λnx hx=>?_) ?_
  .refine ifD (λc=>?_) (λc=>?_)
   .refine hx _ _ ⟨rfl,(1+k0%3).toNat,(),?_⟩;rw[wA ()];rfl
   .refine hx _ _ ⟨rfl,k0.toNat,(),?_⟩;rw[wA ()]
  rintro dl2 S2 ⟨rfl,many,hm,rfl⟩;refine⟨⟨(),()⟩,λk dl' S'=>k<=many/\∃(ns':List Nd)(ws':List Nat)(rows:List (Bool×Nat)),Gr q a (2*k) S ns ws S' ns' ws'/\rows.length=k/\(∀r∈rows,r.2<ns'.length)/\La S' S.length (rows.map rwD)/\∃u6 u7:Option D,dl'=[sR n,sR a,sR b,sI g,sR S.length,sI (many:Int),u6,u7],⟨zN _,ns,ws,[],g0,rfl,λr hr=>(nomatch hr),at0,_,_,rfl⟩,?_⟩;rintro k dl' S' ⟨hk,ns',ws',rows,gr,lr,ri,hr,u6,u7,rfl⟩;have gl:=gr.ln;split
  .rename_i c;have ck:k<many:=by rw[zL] at c;exact c
   have hn':=gr.kp _ _ na hn
   have hb':=gr.kp _ _ (Ne.symm nab) hb;refine Yi (λdl2 S2=>S'=S2/\∃p:Int,0<=p/\dl2=[sR n,sR a,sR b,sI g,sR S.length,sI (many:Int),sI (k:Int),sI p]) (λnx hx=>?_) ?_
   .refine⟨xs,hn',⟨⋯,⋯⟩,λc1 hc1=>?_⟩;exact hx _ _ ⟨rfl,c1/97,(),rfl⟩
   rintro dl2 S2 ⟨rfl,pp,pp0,rfl⟩;refine Yi (λdl2 S2=>S'=S2/\∃p:Int,0<=p/\dl2=[sR n,sR a,sR b,sI g,sR S.length,sI (many:Int),sI (k:Int),sI p]) (λnx hx=>?_) ?_
   .refine⟨xs,hn',⟨⋯,⋯⟩,λc2 hc2=>?_⟩;refine ifD (λ_=>?_) (λ_=>?_)
    .refine⟨xs,hn',⟨(),()⟩,λc3 hc3=>?_⟩;exact hx _ _ ⟨rfl,c3/97,(),rfl⟩
    .exact hx _ _ ⟨rfl,pp,pp0,rfl⟩
   rintro dl2 S2 ⟨rfl,p,p0,rfl⟩;refine zgK (n:=S.length) (S1:=S') (xs:=rows.map rwD) (λy T=>∃(ns2:List Nd)(ws2:List Nat)(r:Bool×Nat),y=rwD r/\Gr q a 2 S' ns' ws' T ns2 ws2/\r.2<ns2.length) kId hr (λK hK=>?_) (λy T z=>?_) (by rw[zB];lia) λy T z=>?_
   .refine⟨xs,hn',⟨(),()⟩,λc4 hc4=>?_⟩;exact⟨q,ns',ws',bs,gr.nd,hb',gr.net,lb,q4,sb,hg,hc4.1,p0,⟨(),()⟩,λT ns2 ws2 r g2 lr2=>hK _ _ ⟨ns2,ws2,r,rfl,g2,lr2⟩⟩
   .obtain⟨ns2,ws2,r,rfl,g2,lr2⟩:=z;exact g2.kp _ _ () hr
   .obtain⟨ns2,ws2,r,rfl,g2,lr2⟩:=z;have gl2:=g2.ln;refine⟨(),ns2,ws2,rows++[r],((gr.trans g2).put (n:=S.length) () (zC _)).mono (),by simp[lr],λx hx=>?_,?_,_,_,rfl⟩
    .rcases zX.mp hx with z|z
     .have:=ri x z;lia
     .cases zO.mp z;exact lr2
    .rw[yA];exact Yd (g2.kp _ _ () hr)
  .rename_i c;have ek:k=many:=by rw[zL] at c;lia
   exact h S' S.length ns' ws' rows (gr.mono ()) () ri (zC _) hr
noncomputable def zis  (zjz:Dmz Zn.C q5 QE Fe ME):Fmz 1 Zn.C q5 ME FK:=
 mkM zjz ziK (λhr=>(Zb (VD Zn.cl Zn.n_boxes (dv 0) (Yo (Za (W3 (ZQ Vf) rfl Xp Boot.«list» (pv 1)) Zg))) (Ze (VD Zn.cl Zn.n_fates (dv 0) (Yo (Za ZR Zg)))))) λS Q ex=>by
  refine kR λn=>kR λx=>kN ?_
  rintro⟨T,b0,rfl,rfl,hx,h⟩;refine Vx (v:=.ref (T.length+2)) (S1:=T++[Ob.ins Zn.C [],.lst (b0.map frD),.lst [.ref (T.length+1)]]) (S2:=T++[Ob.ins Zn.C [],.lst (b0.map frD),.lst [.ref (T.length+1)]]) (n:=T.length) (fs:=[]) (λK hK=>?_) kId (Vb ..) (by simp) ?_
  .refine WH (ZM (Zt hx) rfl) ?_;show (if ([D.ref (T++[Ob.ins Zn.C []]).length]:List D).length<=1000 then K (.ref (T++[Ob.ins Zn.C []]++[Ob.lst (b0.map frD)]).length) (T++[Ob.ins Zn.C []]++[Ob.lst (b0.map frD)]++[.lst [D.ref (T++[Ob.ins Zn.C []]).length]]) else False);rw[if_pos (by simp)];simpa using hK
  rw[VG];refine Vx (v:=.ref (T.length+3)) (S1:=T++[Ob.ins Zn.C [("boxes",.ref (T.length+2))],.lst (b0.map frD),.lst [.ref (T.length+1)],.lst [.non]]) (S2:=T++[Ob.ins Zn.C [("boxes",.ref (T.length+2))],.lst (b0.map frD),.lst [.ref (T.length+1)],.lst [.non]]) (n:=T.length) (fs:=[("boxes",.ref (T.length+2))]) (λK hK=>?_) kId (Vb ..) (by simp) ?_
  .show (if ([D.non]:List D).length<=1000 then K (.ref (T++[Ob.ins Zn.C [("boxes",.ref (T.length+2))],.lst (b0.map frD),.lst [.ref (T.length+1)]]).length) (T++[Ob.ins Zn.C [("boxes",.ref (T.length+2))],.lst (b0.map frD),.lst [.ref (T.length+1)]]++[.lst [.non]]) else False);rw[if_pos ⋯];simpa using hK
  rw[VG];refine h _ (T.length+2) (T.length+3) () () (λi o e=>Zt e) ⟨Vb ..,⟨[.ref (T.length+1)],by simp,rfl,λi e he=>?_⟩,⟨[.non],by simp,rfl,λi f hf=>?_⟩,(),rfl⟩
  .match i,he with
   | 0,he=>cases he;exact⟨T.length+1,rfl,(),(),by simp⟩
  .match i,hf with
   | 0,hf=>cases hf;exact⟨.non,rfl,rfl⟩
noncomputable def zfE  (zhK:Dmz Zn.C Wg QA Mh NS):Fmz 1 Zn.C Wg NS Bb:=
 mkM zhK zca (λhr=>(Ze (Zj (Qj (x1:="box") (x2:="fate") (N:=[]) (caps:=[]) (ar:=Zi Mh) rfl rfl WK rfl rfl rfl ⋯ rfl Wn Boot.«zip» (Za (ZO Zn.cl Zn.n_boxes (dv 0)) (Za (ZO Zn.cl Zn.n_fates (dv 0)) Zg)) (λ_ _ _ _ _ _=>(Zu (pdv 0 (Za (X6 (Zs YY (dv 1) ZR (Zp _)) (Zu (Za ZP Zg)) (dv 1)) Zg)))))))) λS Q ex=>by
  refine kR λn=>kN ?_
  rintro⟨a,b,es,fs,B,l9,h⟩;obtain⟨bs,h1,h2,_⟩:=B.bx;obtain⟨ds,k1,k2,k3⟩:=B.ft;refine TL (n:=a) (n':=b) (S1:=S) (xs:=bs) (ys:=ds) C8 (λK hK=>?_) h1 k1 () (λk x y hx hy S2 K pr hK=>?_) ?_
  .exact ZN (n:=n) kId B.ins rfl (ZN (n:=n) kId B.ins rfl hK)
  .cases y<;>exact hK
  .exact h _ _ Pre.refl.push (Zq _ _) (B.told h1 k1 _)
noncomputable def ziO  (zbY:Dfz Xu Fp N7):Fkz 1 Xu N7 Cp:=
 mkF zbY zaR (λhr=>(Ze (Zj (Zf Yp (piv 0) (piv 0))))) λS Q ex=>by
  refine kP λ_ _=>kN λh=>?_
  exact h
noncomputable def zbn  (zbB:Dfz Xm NJ TU)(Gy:Fkz 1 Xu N7 Cp):Fkz 2 Xm TU NL:=
 mkF zbB zah (λhr=>(Ze (Zj (X1 (x:="span") (N:=[]) (caps:=[]) (ar:=Zi NJ) rfl rfl csc rfl ⋯ (dv 0) pt0 (λ_ _ _ _ _ _=>(Zh Gy hr (pv 0))))))) λS Q ex=>by
  refine kR λs=>kN ?_
  rintro⟨vs,hs,l9,h⟩;refine Wm (n:=s) (S1:=S) (o:=.lst (vs.map frD)) (λd=>match d with|.tup [.int a,.int b]=>.int (b-a)|_=>.non) kId hs (by show (vs.map frD).length<=1000;rw[zB];lia) (λx hx S2 K pr hK=>?_) ?_
  .have hx':x∈vs.map frD:=hx;obtain⟨p,_,rfl⟩:=zP.mp hx';exact hK
  .have e2:(Zm (.lst (vs.map frD))).map (λd=>match d with|.tup [.int a,.int b]=>.int (b-a)|_=>.non)=(vs.map wd).map D.int:=by
    show (vs.map frD).map _=_;rw[zY,zY];rfl
   rw[e2];exact h
noncomputable def Ay  (zhN:Dfz Xo LS SG)(WN:Fkz 2 Xm TU NL):Fkz 3 Xo SG Ot:=
 mkF zhN zhc (λhr=>(Ze (Zj (zgo rfl rfl Y3 Boot.«max» (Zh WN hr (pv 0)) Zd)))) λS Q ex=>by
  refine kR λn=>kN ?_
  rintro⟨bs,hb,l9,h⟩;refine zhG (n:=S.length) (S1:=S++[.lst ((bs.map wd).map D.int)]) (S2:=S++[.lst ((bs.map wd).map D.int)]) (zs:=bs.map wd) (e:=.int 0) (λK hK=>⟨bs,hb,l9,hK⟩) kId (Zq _ _) (λe=>?_) λm hm hx=>?_
  .exact h 0 _ Pre.refl.push ⟨λp hp=>(by rw[uS.mp e] at hp;exact(nomatch hp)),.inl ⟨uS.mp e,rfl⟩⟩
  .obtain⟨p,hp,rfl⟩:=zP.mp hm;exact h _ _ Pre.refl.push ⟨λq hq=>hx _ (zP.mpr ⟨q,hq,rfl⟩),.inr ⟨p,hp,rfl⟩⟩
noncomputable def zib (U4:Dmz Zn.C q93 TK SK QF)(LM_Book_to_look_at:Lm e.K e.mg e.base U4.fd LT)(Vi:Fkz 3 Xo SG Ot):Fmz 6 Zn.C q93 QF Js:=
 U4.mk' (ze7 (k:=5) U4.F Dq (λ_ _ _ _=>nR λ_=>nN:Ln Js 1) LM_Book_to_look_at.code λA outer s H E hr=>⟨_,(Zb (zfj (x1:="number") (x2:="fate") (N:=[]) (caps:=[]) (ar:=Zi SK) rfl rfl WK rfl rfl rfl ⋯ (i:=1) Dq.nd rfl rfl rfl XF Boot.«enumerate» (Za (ZO Zn.cl Zn.n_fates (dv 0)) Zg) (λ_ _ _ _ _ _=>Nw (Zs YY (dv 1) ZR (Zp _))) (λ_ _ _ _ _ _=>(dv 0))) (Ze (Zj (BO (x:="number") (N:=["self"]) (caps:=[0]) (ar:=Zi SK) (P:=LT) (q:=LQ) rfl rfl lsc rfl rfl Y3 Boot.«max» (zfK (j:=0) hr) rfl LM_Book_to_look_at.hd LM_Book_to_look_at.bm LM_Book_to_look_at.kn rfl (dv 1) (λ_ _ _ L _ _=>have hr:=zgl (j:=3) hr (N3 _ _ L _ _ _);(Zh Vi hr (Za (ZD (ZO Zn.cl Zn.n_boxes (dv 1)) (dv 0)) Zg))))))),λds S Q ex h=>by
  replace h:=eR h;obtain⟨n,rfl,h⟩:=h;obtain⟨a,b,t,es,fs,B,ht,l9,le,h0,hi⟩:=h;obtain⟨ds,k1,k2,k3⟩:=B.ft;have lf:=B.len
  have tb:t≠b:=λe=>by rw[e,k1] at ht;cases ht
  refine C3 (n:=b) (S1:=S) (xs:=ds) (λk ys S2=>S2=S++[.lst ys]/\ys.length<=k/\(∀y∈ys,∃i:Nat,fs[i]?=some .wait/\y=.int (i:Int))/\(ys=[]->∀i:Nat,i<k->fs[i]?≠some .wait)) (λk x=>match x with|.non=>true|_=>false) (λK hK=>by exact ZN (n:=n) kId B.ins rfl hK) k1 (λk ys S2 w=>by obtain⟨rfl,w2,_⟩:=w;exact⟨Zt k1,Zq _ _,w2⟩) () ⟨rfl,zC _,λy hy=>(nomatch hy),λ_ i hi=>absurd hi ()⟩ ?_ ?_ ?_ ?_
  .intro k x ys S2 K hx w hK;obtain⟨f,hf⟩:∃f,fs[k]?=some f:=⟨_,zD (show k<fs.length by have:=(zA.mp hx).1;lia)⟩;obtain⟨d,hd,o⟩:=k3 k f hf;rw[hx] at hd;cases hd;cases f with
   | wait=>cases o;exact hK
   | small=>cases o;exact hK
   | one=>obtain⟨_,_,_,_,_,rfl⟩:=o;exact hK
   | cut _ _ _ _=>cases o;exact hK
   | out _ _=>obtain⟨_,rfl,_⟩:=o;exact hK
   | full _=>obtain⟨_,rfl,_⟩:=o;exact hK
  .rintro k x ys S2 hx hb ⟨rfl,w2,w3,w4⟩;refine⟨rfl,(),w3,λe i hi=>?_⟩;by_cases c:i=k
   .subst c;intro z;obtain⟨d,hd,o⟩:=k3 i _ z;rw[hx] at hd;cases hd;cases o;cases hb
   .exact w4 e i ()
  .rintro k x ys S2 K hx hb ⟨rfl,w2,w3,w4⟩ hK;obtain⟨f,hf⟩:∃f,fs[k]?=some f:=⟨_,zD (show k<fs.length by have:=(zA.mp hx).1;lia)⟩;have ew:f=.wait:=by
    obtain⟨d,hd,o⟩:=k3 k f hf;rw[hx] at hd;cases hd;cases f with
    | wait=>rfl
    | small=>cases o;cases hb
    | one=>obtain⟨_,_,_,_,_,rfl⟩:=o;cases hb
    | cut _ _ _ _=>cases o;cases hb
    | out _ _=>obtain⟨_,rfl,_⟩:=o;cases hb
    | full _=>obtain⟨_,rfl,_⟩:=o;cases hb
   subst ew;refine hK _ _ (Zq _ _) ⟨by rw[VF],by simp;lia,λy hy=>?_,λe=>absurd e (by simp)⟩;rcases zX.mp hy with z|z
   .exact w3 y z
   .cases zO.mp z;exact⟨k,hf,rfl⟩
  .rintro ys S2 ⟨rfl,w2,w3,w4⟩;refine zh2 (n:=S.length) (t:=t) (S1:=S++[.lst ys]) (xs:=ys) kId (Zt ht) (Zq _ _) (λe=>?_) (λv S3 K hv p hK=>?_) λv S3 hv p=>?_
   .refine h0 (λf hf z=>?_) _ Pre.refl.push;obtain⟨i,hi'⟩:=xM.mp hf;subst z;exact w4 e i (by rw[k2];exact(zA.mp hi').1) hi'
   .obtain⟨i,hf,rfl⟩:=w3 v hv;have li:=(zA.mp hf).1
    have B3:=(B.pre (T:=S++[.lst ys]) Pre.refl.push).pre p
    have he:=zD (show i<es.length by lia);obtain⟨bs,m,h1,h2,o⟩:=B3.box he;refine ZN (n:=n) kId B3.ins rfl ?_;refine Zz (o:=.lst bs) h1 (Z6 (j:=i) h2) ?_;exact⟨_,o.2.2,le _ (yW ..),λm T p2 _=>hK _ _ p2⟩
   .obtain⟨i,hf,rfl⟩:=w3 v hv;exact hi i _ hf λx o e=>p _ _ (Zt e)⟩)
noncomputable def zfB  (ziZ:Dfz "bars" Kv Rq):Fkz 1 "bars" Rq Hh:=
 mkF ziZ zga (λhr=>(Zb (Zy (Zs (ZI hr) (dv 0) ZP (Zp _)) (Ze (Zj (pd_or (Xz WB (piv 1) Zd (Zp _)) (Ti (Xz YS (piv 1) Zd (Zp _)))))) ZE) (Ze (Zj (Xz YS (piv 1) Zd (Zp _)))))) λS Q ex=>by
  refine kS λ_=>kP λ_ _=>kN λh=>?_
  rcases h with ⟨rfl,h⟩|⟨rfl,h⟩
  .refine ifD (λc=>?_) (λc=>?_)
   .rw[decide_eq_true c,Bool.true_or] at h;exact h
   .rw[decide_eq_false c,Bool.false_or] at h;exact h
  .exact h
noncomputable def zdb  (zac:Dfz "less" Fn RW):Fkz 1 "less" RW IB:=
 mkF zac zeU (λhr=>(Ze (Zj (Xz YS (Zf ZF (piv 0) (piv 1)) (Zf ZF (piv 1) (piv 0)) (Zp _))))) λS Q ex=>by
  refine kP λ_ _=>kP λ_ _=>kN ?_
  rintro⟨⟨h1,h2⟩,h⟩;exact⟨h1,h2,h⟩
noncomputable def zak  (B6:Dfz q45 J9 Uj):Fkz 1 q45 Uj R9:=
 mkF B6 zg0 (λhr=>(Ze (Zj (Wf Wb (Zf YB (Wf Wb (dv 0)) (dv 1)))))) λS Q ex=>by
  refine kI λ_=>kI λ_=>kN λh=>?_
  exact h
noncomputable def zdz  (zbA:Dfz XH Ju OV)(X9:Fkz 1 q45 Uj R9)(TY:Fkz 1 "less" RW IB):Fkz 2 XH OV D5:=
 mkF zbA zh3 (λhr=>(Zb (Zy (Y4 (Zh TY hr (pdv 1 (pv 0)))) (Ze Es) ZE) (Ze (Zj (Zu (Za (Zf YB (Zf ZF (piv 0) (dv 2)) (piv 0)) (Za (Zh X9 hr (Za (Zf ZF (piv 1) (dv 2)) (Za (piv 1) Zg))) Zg))))))) λS Q ex=>by
  refine kP λ_ _=>kP λ_ _=>kI λ_=>kN ?_
  rintro⟨⟨⟨m1,m2⟩,nl,m3,m4,f1,f2⟩,h⟩;refine⟨⟨m1,m2⟩,ifF (decide_eq_false nl) ?_⟩;exact⟨m3,f1,m4,f2,h⟩
noncomputable def zhd  (zaL:Dmz ZU.C q7 RJ Ik Oi)(JK:Fkz 2 XH OV D5):Fmz 3 ZU.C q7 Oi G3:=
 mkM zaL Fx (λhr=>(Zb (Zk (i:=4) Fx.nd (Zu (Za (ZO ZU.cl ZU.n_top (dv 0)) (Za (ZO ZU.cl ZU.n_bottom (dv 0)) Zg)))) (Ze (Zj (Zh JK hr (pdv 4 (pdv 4 (pv 3)))))))) λS Q ex=>by
  refine kR λn=>kR λw=>kR λp=>kI λg=>kN ?_
  rintro⟨x,y,vs,bs,hn,hw,hp,ok,s1,hg,h⟩;have sg:Sz 21 g:=Sz.of 1000000 ()
  have sx:Sz 31 x:=Sz.of (10^9) ok.2.2
  have sy:Sz 31 y:=Sz.of (10^9) (by have:=ok.1;lia);refine ZN (n:=n) kId hn rfl ?_;refine ZN (n:=n) kId hn rfl ?_;exact⟨⟨⟨ZC sx sy,ZC sx sy⟩,(),ZC sx sg,ZC sx sg,sy.fd (by have:=ok.1;lia),sy.fd (by have:=ok.1;lia)⟩,h⟩
noncomputable def A9  (zcT:Dmz ZY.C q7 QX G0 Lj):Fmz 1 ZY.C q7 Lj HB:=
 mkM zcT zdU (λhr=>(Ze (Zj (ZD (dv 2) (ZO ZY.cl ZY.n_place (dv 0)))))) λS Q ex=>by
  refine kR λn=>kR λw=>kR λp=>kI λg=>kN ?_
  rintro⟨k,vs,bs,hn,hw,hp,ok,s1,hg,h⟩;refine ZN (n:=n) kId hn rfl ?_;exact Zz (o:=.lst (bs.map frD)) hp (ZT ok) h
noncomputable def zfd  (B9:Dfz q43 KI VB):Fkz 1 q43 VB Ui:=
 mkF B9 Al (λhr=>(Ze (Zj (Zu (Za (Zf ZX (piv 0) (piv 1)) (Za (Zf ZX (piv 0) (piv 1)) Zg)))))) λS Q ex=>by
  refine kP λ_ _=>kP λ_ _=>kN λh=>?_
  exact h
noncomputable def AO  (zc4:Dmz Z2.C q7 RV Hy NO)(YM:Fkz 1 q43 VB Ui):Fmz 2 Z2.C q7 NO KA:=
 mkM zc4 zec (λhr=>(Ze (Zj (Zh YM hr (Za (ZD (dv 1) (ZO Z2.cl Z2.n_one (dv 0))) (Za (ZD (dv 1) (ZO Z2.cl Z2.n_other (dv 0))) Zg)))))) λS Q ex=>by
  refine kR λn=>kR λw=>kR λp=>kI λg=>kN ?_
  rintro⟨i,j,vs,bs,hn,hw,hp,ok,s1,hg,h⟩;refine ZN (n:=n) kId hn rfl ?_;refine Zz (o:=.lst (vs.map frD)) hw (ZT ok.1) ?_;refine ZN (n:=n) kId hn rfl ?_;refine Zz (o:=.lst (vs.map frD)) hw (ZT ok.2) ?_;exact h
noncomputable def zdF  (zfk:Dfz q27 Km Vc):Fkz 1 q27 Vc V0:=
 mkF zfk zaX (λhr=>(Ze (Zj (Zu (Za (Zf Yp (piv 0) (piv 1)) (Za (Zf Yp (piv 0) (piv 1)) Zg)))))) λS Q ex=>by
  refine kP λ_ _=>kP λ_ _=>kN λh=>?_
  exact h
noncomputable def zhO  (zgM:Dmz ZZ.C q7 Qn LG PY)(Yr:Fkz 1 q27 Vc V0):Fmz 2 ZZ.C q7 PY Hl:=
 mkM zgM zcw (λhr=>(Ze (Zj (Zh Yr hr (Za (ZD (dv 1) (ZO ZZ.cl ZZ.n_one (dv 0))) (Za (ZD (dv 1) (ZO ZZ.cl ZZ.n_other (dv 0))) Zg)))))) λS Q ex=>by
  refine kR λn=>kR λw=>kR λp=>kI λg=>kN ?_
  rintro⟨i,j,vs,bs,hn,hw,hp,ok,s1,hg,h⟩;refine ZN (n:=n) kId hn rfl ?_;refine Zz (o:=.lst (vs.map frD)) hw (ZT ok.1) ?_;refine ZN (n:=n) kId hn rfl ?_;refine Zz (o:=.lst (vs.map frD)) hw (ZT ok.2) ?_;exact h
noncomputable def zd6  (zep:Dfz q49 JE Um)(X9:Fkz 1 q45 Uj R9):Fkz 2 q49 Um Q4:=
 mkG zep C7 (λhr=>(Zb (Zk (i:=3) C7.nd (Yo (Za (Zf ZF (piv 0) (piv 1)) (Za (Zf ZF (piv 0) (piv 1)) (Za (Zf ZF (piv 0) (piv 1)) (Za (Zf ZF (piv 0) (piv 1)) Zg)))))) (Ze (Zj (Zu (Za (Zf YB (ZL (ZQ (Vu rfl)) rfl Xv Boot.«min» (pv 3)) (dv 2)) (Za (Zh X9 hr (Za (ZL (ZQ (WW rfl)) rfl Y3 Boot.«max» (pv 3)) (pv 2))) Zg))))))) λS Q0 ex0=>by
  refine kP λa b=>kP λc d=>kI λg=>kN ?_
  rintro⟨⟨⟨m1,m2,m3,m4⟩,hg⟩,h⟩;refine⟨m1,m2,m3,m4,?_⟩;apply VQ
  .exact Zq _ _
  .rfl
  .simp
  intro mn n1 n2;refine⟨hg,?_⟩;apply VQ
  .exact Zq _ _
  .rfl
  .simp
  intro mx x1 x2;refine⟨hg,?_⟩;exact⟨Pre.refl.push,Sn,h mn mx (SO.of n1 n2 x1 x2)⟩
noncomputable def zar  (zdB:Dmz Z1.C q7 Qy Jw PZ)(XC:Fkz 2 q49 Um Q4):Fmz 3 Z1.C q7 PZ HX:=
 mkM zdB zfh (λhr=>(Ze (Zj (Zh XC hr (Za (ZD (dv 1) (ZO Z1.cl Z1.n_one (dv 0))) (Za (ZD (dv 1) (ZO Z1.cl Z1.n_other (dv 0))) (pv 3))))))) λS Q ex=>by
  refine kR λn=>kR λw=>kR λp=>kI λg=>kN ?_
  rintro⟨i,j,vs,bs,hn,hw,hp,ok,s1,hg,h⟩;refine ZN (n:=n) kId hn rfl ?_;refine Zz (o:=.lst (vs.map frD)) hw (ZT ok.1) ?_;refine ZN (n:=n) kId hn rfl ?_;refine Zz (o:=.lst (vs.map frD)) hw (ZT ok.2) ?_;have a:=s1.at ok.1
  have b:=s1.at ok.2
  have sg:Sz 21 g:=Sz.of 1000000 ();refine⟨⟨⟨ZC a.2.1 b.2.1,ZC a.2.1 b.2.2,ZC a.2.2 b.2.1,ZC a.2.2 b.2.2⟩,sg.fd ()⟩,λmn mx hc=>?_⟩;obtain⟨rfl,rfl⟩:=hc.eq;exact h
noncomputable def AE  (A6:Dfz q82 KQ Ud):Fkz 1 q82 Ud Tn:=
 mkF A6 NN (λhr=>(Zb (Zk (i:=2) NN.nd Zd) (Zb (RT (i:=3) PassesOwn.never rfl NN.nd rfl (Or.inl rfl) rfl YQ (pv 1) (Ze (Zk (i:=2) NN.nd (Zf ZF (dv 2) (dv 0))))) (Ze (Zj (dv 2)))))) λS Q ex=>by
  refine kI λx=>kI λn=>kN ?_
  rintro⟨⟨h0,h6,sx⟩,h⟩;refine⟨⟨(),()⟩,λk dl' S'=>S'=S/\k<=n.toNat/\∃(z:Int)(o:Option D),z=x^k/\dl'=[sI x,sI n,sI z,o],⟨rfl,zN _,1,none,(vK x).symm,rfl⟩,?_⟩;rintro k dl' S' ⟨rfl,hk,z,o,rfl,rfl⟩;refine OL (λc=>?_) (λc=>?_)
  .exact⟨ZC (m:=12001) (n:=2000) ((sx.pow k).mono ()) sx,rfl,(),_,_,(xH x k).symm,rfl⟩
  .have e:k=n.toNat:=by lia
   subst e;exact h
noncomputable def AD  (zfc:Dfz q55 NK Qu)(X9:Fkz 1 q45 Uj R9)(Y5:Fkz 1 q82 Ud Tn):Fkz 2 q55 Qu Gq:=
 mkG zfc OI (λhr=>(Zb (Zk (i:=3) OI.nd (Yo (Za (piv 0) (Za (piv 0) Zg)))) (Zb (Zy (Bi YS YS (piv 0) Zd (piv 0)) (Ze (Z7 (Ys (dv 3) Zd))) ZE) (Zb (SD (x:="place") (N:=["grid","many"]) (caps:=[2,1]) (ar:=Zi NK) rfl rfl csc rfl ⋯ (i:=4) OI.nd rfl rfl (dv 3) pt0 (λ_ _ _ _ _ _=>(Zf ZF (Zh Y5 hr (pdv 0 (pv 2))) (dv 1)))) (Zb (Zk (i:=5) OI.nd (Zh Y5 hr (pdv 2 (pv 1)))) (Ze (Zj (Zu (Za (Zf YB (ZL (ZQ (Vu rfl)) rfl Xv Boot.«min» (pv 4)) (dv 5)) (Za (Zh X9 hr (Za (ZL (ZQ (WW rfl)) rfl Y3 Boot.«max» (pv 4)) (pv 5))) Zg)))))))))) λS Q0 ex0=>by
  refine kP λa b=>kI λn=>kI λg=>kN ?_
  rintro⟨⟨n2,n6,za,zb,hg,zg⟩,h⟩;refine ifD (λc1=>?_) (λc1=>?_)
  .refine ifD (λc2=>?_) (λc2=>?_)
   .refine YC (n:=S.length) (λK hK=>hK) (Zq _ _) (λK hK=>hK) (by simp) ?_;refine Wm (n:=S.length) (o:=.lst [.int a,.int b,.int 0]) (λd=>match d with|.int v=>.int (v^n.toNat*g)|_=>.non) (λK hK=>hK) (by simp) (by simp[Zm]) (λx hx S2 K _ hK=>?_) ?_
    .have hx':x=.int a\/x=.int b\/x=.int 0:=by simpa [Zm] using hx
     rcases hx' with rfl|rfl|rfl
     all_goals exact⟨⟨(),n6,by first|exact za.mono ⋯|exact zb.mono ⋯|exact Sz.of (n:=2000) 0 ⋯⟩,ZC (m:=12001) (n:=1400) (((Sz.mono (n:=2000) (by first|exact za|exact zb|exact Sz.of (n:=1400) 0 ⋯) ⋯).pow _).mono ()) zg,hK⟩
    refine⟨⟨(),n6,zg.mono ⋯⟩,?_⟩;have gp:(0:Int)<g^n.toNat:=yI ()
    have zgp:Sz 8401 (g^n.toNat):=(zg.pow _).mono ();apply VQ
    .exact Zq _ _
    .rfl
    .simp
    intro mn q1 q2;refine⟨zgp.fd gp,?_⟩;apply VQ
    .exact Zq _ _
    .rfl
    .simp
    intro mx x1 x2;refine⟨zgp.fd gp,?_⟩;obtain⟨m,M,hP,rfl,rfl⟩:=VP.of (n:=n.toNat) hg (.inr ⟨rfl,c1,c2⟩) () q1 q2 x1 x2;have r:=h m M hP;rw[<- SE hg (),<- SE hg (),yY] at r;exact⟨(λi o e=>Vl (by rw[vH _ _ (zC _),zJ (zA.mp e).1];exact e)),Sn,r⟩
   .skip
    refine Wm (n:=S.length) (o:=.lst [.int a,.int b]) (λd=>match d with|.int v=>.int (v^n.toNat*g)|_=>.non) (λK hK=>hK) (Zq _ _) (by simp[Zm]) (λx hx S2 K _ hK=>?_) ?_
    .have hx':x=.int a\/x=.int b:=by simpa [Zm] using hx
     rcases hx' with rfl|rfl
     all_goals exact⟨⟨(),n6,by first|exact za.mono ⋯|exact zb.mono ⋯|exact Sz.of (n:=2000) 0 ⋯⟩,ZC (m:=12001) (n:=1400) (((Sz.mono (n:=2000) (by first|exact za|exact zb|exact Sz.of (n:=1400) 0 ⋯) ⋯).pow _).mono ()) zg,hK⟩
    refine⟨⟨(),n6,zg.mono ⋯⟩,?_⟩;have gp:(0:Int)<g^n.toNat:=yI ()
    have zgp:Sz 8401 (g^n.toNat):=(zg.pow _).mono ();apply VQ
    .exact Zq _ _
    .rfl
    .simp
    intro mn q1 q2;refine⟨zgp.fd gp,?_⟩;apply VQ
    .exact Zq _ _
    .rfl
    .simp
    intro mx x1 x2;refine⟨zgp.fd gp,?_⟩;obtain⟨m,M,hP,rfl,rfl⟩:=VP.of (n:=n.toNat) hg (.inl ⟨rfl,λc=>c2 c.2⟩) () q1 q2 x1 x2;have r:=h m M hP;rw[<- SE hg (),<- SE hg (),yY] at r;exact⟨Pre.refl.push.push,Sn,r⟩
  .skip
   refine Wm (n:=S.length) (o:=.lst [.int a,.int b]) (λd=>match d with|.int v=>.int (v^n.toNat*g)|_=>.non) (λK hK=>hK) (Zq _ _) (by simp[Zm]) (λx hx S2 K _ hK=>?_) ?_
   .have hx':x=.int a\/x=.int b:=by simpa [Zm] using hx
    rcases hx' with rfl|rfl
    all_goals exact⟨⟨(),n6,by first|exact za.mono ⋯|exact zb.mono ⋯|exact Sz.of (n:=2000) 0 ⋯⟩,ZC (m:=12001) (n:=1400) (((Sz.mono (n:=2000) (by first|exact za|exact zb|exact Sz.of (n:=1400) 0 ⋯) ⋯).pow _).mono ()) zg,hK⟩
   refine⟨⟨(),n6,zg.mono ⋯⟩,?_⟩;have gp:(0:Int)<g^n.toNat:=yI ()
   have zgp:Sz 8401 (g^n.toNat):=(zg.pow _).mono ();apply VQ
   .exact Zq _ _
   .rfl
   .simp
   intro mn q1 q2;refine⟨zgp.fd gp,?_⟩;apply VQ
   .exact Zq _ _
   .rfl
   .simp
   intro mx x1 x2;refine⟨zgp.fd gp,?_⟩;obtain⟨m,M,hP,rfl,rfl⟩:=VP.of (n:=n.toNat) hg (.inl ⟨rfl,λc=>c1 c.1⟩) () q1 q2 x1 x2;have r:=h m M hP;rw[<- SE hg (),<- SE hg (),yY] at r;exact⟨Pre.refl.push.push,Sn,r⟩
noncomputable def zjq  (zf2:Dmz ZJ.C q7 R0 Kf Mc)(Ra:Fkz 2 q55 Qu Gq):Fmz 3 ZJ.C q7 Mc Ji:=
 mkM zf2 zjv (λhr=>(Ze (Zj (Zh Ra hr (Za (ZD (dv 1) (ZO ZJ.cl ZJ.n_one (dv 0))) (Za (ZO ZJ.cl ZJ.n_many (dv 0)) (pv 3))))))) λS Q ex=>by
  refine kR λn=>kR λw=>kR λp=>kI λg=>kN ?_
  rintro⟨i,m,vs,bs,hn,hw,hp,ok,s1,hg,h⟩;refine ZN (n:=n) kId hn rfl ?_;refine Zz (o:=.lst (vs.map frD)) hw (ZT ok.1) ?_;refine ZN (n:=n) kId hn rfl ?_;have a:=s1.at ok.1
  have sg:Sz 21 g:=Sz.of 1000000 ();refine⟨⟨by have:=ok.2.1;lia,ok.2.2,a.2.1,a.2.2,hg.1,sg.mono ⋯⟩,λm' M' hP=>?_⟩;obtain⟨rfl,rfl⟩:=hP.eq (by have:=ok.2.1;lia);exact h
noncomputable def zi0  (zct:Dmz ZJ.C q5 Qg HA OP):Fmz 1 ZJ.C q5 OP Cf:=
 mkM zct zhH (λhr=>(Zb (VD ZJ.cl ZJ.n_one (dv 0) (dv 1)) (Ze (VD ZJ.cl ZJ.n_many (dv 0) (dv 2))))) λS Q ex=>by
  refine kR λn=>kD λx=>kD λy=>kN ?_
  rintro⟨T,rfl,rfl,h⟩;refine Vx (v:=x) (S1:=T++[Ob.ins ZJ.C []]) (S2:=T++[Ob.ins ZJ.C []]) (n:=T.length) (fs:=[]) kId kId (Vb ..) (by simp) ?_;rw[VG];refine Vx (v:=y) (S1:=T++[Ob.ins ZJ.C [("one",x)]]) (S2:=T++[Ob.ins ZJ.C [("one",x)]]) (n:=T.length) (fs:=[("one",x)]) kId kId (Vb ..) (by simp) ?_;rw[VG];exact h
noncomputable def Af  (zbL:Dmz ZU.C q5 R6 Lv Ox):Fmz 1 ZU.C q5 Ox EE:=
 mkM zbL zcK (λhr=>(Zb (VD ZU.cl ZU.n_top (dv 0) (dv 1)) (Ze (VD ZU.cl ZU.n_bottom (dv 0) (dv 2))))) λS Q ex=>by
  refine kR λn=>kD λx=>kD λy=>kN ?_
  rintro⟨T,rfl,rfl,h⟩;refine Vx (v:=x) (S1:=T++[Ob.ins ZU.C []]) (S2:=T++[Ob.ins ZU.C []]) (n:=T.length) (fs:=[]) kId kId (Vb ..) (by simp) ?_;rw[VG];refine Vx (v:=y) (S1:=T++[Ob.ins ZU.C [("top",x)]]) (S2:=T++[Ob.ins ZU.C [("top",x)]]) (n:=T.length) (fs:=[("top",x)]) kId kId (Vb ..) (by simp) ?_;rw[VG];exact h
noncomputable def zcC  (zge:Dmz ZY.C q5 Qe Ii OQ):Fmz 1 ZY.C q5 OQ Bj:=
 mkM zge zfp (λhr=>(Ze (VD ZY.cl ZY.n_place (dv 0) (dv 1)))) λS Q ex=>by
  refine kR λn=>kD λx=>kN ?_
  rintro⟨T,rfl,rfl,h⟩;refine Vx (v:=x) (S1:=T++[Ob.ins ZY.C []]) (S2:=T++[Ob.ins ZY.C []]) (n:=T.length) (fs:=[]) kId kId (Vb ..) (by simp) ?_;rw[VG];exact h
def K0 {C:Addr}{c:Int->Int->Nd}(p:Pr C c)(d:Dmz C q5 q81 Fb MN):Fmz 1 C q5 MN (Sw C "one" YJ):=
 mkM d zcn (λhr=>(Zb (VD p.cl p.o (dv 0) (dv 1)) (Ze (VD p.cl p.t (dv 0) (dv 2))))) λS Q ex=>by
  refine kR λn=>kD λx=>kD λy=>kN ?_
  rintro⟨T,rfl,rfl,h⟩;refine Vx (v:=x) (S1:=T++[Ob.ins C []]) (S2:=T++[Ob.ins C []]) (n:=T.length) (fs:=[]) kId kId (Vb ..) (by simp) ?_;rw[VG];refine Vx (v:=y) (S1:=T++[Ob.ins C [("one",x)]]) (S2:=T++[Ob.ins C [("one",x)]]) (n:=T.length) (fs:=[("one",x)]) kId kId (Vb ..) (by simp) ?_;rw[VG];exact h
noncomputable def zfz  (zeo:Dfz q92 Jt TF)(U8:Fmz 1 ZJ.C q5 OP Cf)(Se:Fmz 1 Z1.C q5 zgV A0)(SJ:Fmz 1 ZZ.C q5 zdt zfF)(SW:Fmz 1 Z2.C q5 MN zb9)(TH:Fmz 1 ZY.C q5 OQ Bj)(T6:Fmz 1 ZU.C q5 Ox EE):Fkz 3 q92 TF Pd:=
 mkF zeo zhS (λhr=>(Zb (Zy (Zs (ZI hr) (piv 0) ZP (Zp _)) (Ze (Zj (UC ⟨ZU.makes,T6.m.at_,T6.m.fn,ZU.kp⟩ T6.ok (rmn hr) rfl ZU.m T6.b Ul (Za (piv 0) (Za (piv 0) Zg))))) ZE) (Zb (Zy (Zs (ZI hr) (piv 0) ZP (Zp _)) (Ze (Zj (UC ⟨ZY.makes,TH.m.at_,TH.m.fn,ZY.kp⟩ TH.ok (rmn hr) rfl ZY.m TH.b Ul (Za (piv 0) Zg)))) ZE) (Zb (Zy (Zs (ZI hr) (piv 0) ZP (Zp _)) (Ze (Zj (UC ⟨Z2.makes,SW.m.at_,SW.m.fn,Z2.kp⟩ SW.ok (rmn hr) rfl Z2.m SW.b Ul (Za (piv 0) (Za (piv 0) Zg))))) ZE) (Zb (Zy (Zs (ZI hr) (piv 0) ZP (Zp _)) (Ze (Zj (UC ⟨ZZ.makes,SJ.m.at_,SJ.m.fn,ZZ.kp⟩ SJ.ok (rmn hr) rfl ZZ.m SJ.b Ul (Za (piv 0) (Za (piv 0) Zg))))) ZE) (Zb (Zy (Zs (ZI hr) (piv 0) ZP (Zp _)) (Ze (Zj (UC ⟨Z1.makes,Se.m.at_,Se.m.fn,Z1.kp⟩ Se.ok (rmn hr) rfl Z1.m Se.b Ul (Za (piv 0) (Za (piv 0) Zg))))) ZE) (Ze (Zj (UC ⟨ZJ.makes,U8.m.at_,U8.m.fn,ZJ.kp⟩ U8.ok (rmn hr) rfl ZJ.m U8.b Ul (Za (piv 0) (Za (piv 0) Zg))))))))))) λS Q ex=>by
  refine kD λ_=>kN ?_
  rintro⟨v,rfl,h⟩;cases v<;>exact⟨S,rfl,rfl,rfl,h⟩
noncomputable def AZ  (zc1:Dfz q44 Hk Ww)(Kb:Fmz 3 ZJ.C q7 Mc Ji)(IL:Fmz 3 Z1.C q7 PZ HX)(Iu:Fmz 2 ZZ.C q7 PY Hl)(L1:Fmz 2 Z2.C q7 NO KA)(Fh:Fmz 1 ZY.C q7 Lj HB)(KU:Fmz 3 ZU.C q7 Oi G3)(Vt:Fkz 3 q92 TF Pd):Fkz 4 q44 Ww VC:=
 mkF zc1 GY (λhr=>(Zb (Zk (i:=3) GY.nd (Yo Zg)) (Zb (W9 (i:=4) PassesOwn.never rfl GY.nd rfl (Or.inl rfl) (dv 0) (Ze (Z7 (Ys (dv 3) (KJ (Zh Vt hr (pv 4)) (YL ZU.cl KU (rmn hr) (YL ZY.cl Fh (rmn hr) (YL Z2.cl L1 (rmn hr) (YL ZZ.cl Iu (rmn hr) (YL Z1.cl IL (rmn hr) (YL ZJ.cl Kb (rmn hr) Ia)))))) YD (pdv 3 (pdv 1 (pv 2)))))))) (Ze (Zj (dv 3)))))) λS Q ex=>by
  refine kR λa=>kR λb=>kI λg=>kN ?_
  rintro⟨ns,ws,bs,ha,hb,net,sb,hg,hl,h⟩;have disp:∀v:Nd,∃C fs sd,v.oz=.ins C fs/\(C,sd)∈[(ZU.C,G3),(ZY.C,HB),(Z2.C,KA),(ZZ.C,Hl),(Z1.C,HX),(ZJ.C,Ji)]/\fs.lookup ("forth":Str)=none/\∀(n w p:Nat)(g:Int)(S:Sto)(Q:DK)(ex:Addr->Sto->Prop)(vs bs:LI),S[n]?=some (v.oz)->La S w (vs.map frD)->La S p (bs.map frD)->v.ok vs.length bs.length->Spn 1400 vs->(Gg g)->Q (frD (v.fw vs bs g)) S->sd [.ref n,.ref w,.ref p,.int g] S Q ex:=by
   intro v;cases v with
   | number x y=>exact⟨_,_,_,rfl,(.head _),rfl,λn w p g S Q ex vs bs a1 a2 a3 a4 a5 a6 q=>⟨x,y,vs,bs,a1,a2,a3,a4,a5,a6,q⟩⟩
   | unknown k=>exact⟨_,_,_,rfl,(.tail _ (.head _)),rfl,λn w p g S Q ex vs bs a1 a2 a3 a4 a5 a6 q=>⟨k,vs,bs,a1,a2,a3,a4,a5,a6,q⟩⟩
   | plus i j=>exact⟨_,_,_,rfl,(.tail _ (.tail _ (.head _))),rfl,λn w p g S Q ex vs bs a1 a2 a3 a4 a5 a6 q=>⟨i,j,vs,bs,a1,a2,a3,a4,a5,a6,q⟩⟩
   | minus i j=>exact⟨_,_,_,rfl,(.tail _ (.tail _ (.tail _ (.head _)))),rfl,λn w p g S Q ex vs bs a1 a2 a3 a4 a5 a6 q=>⟨i,j,vs,bs,a1,a2,a3,a4,a5,a6,q⟩⟩
   | times i j=>exact⟨_,_,_,rfl,(.tail _ (.tail _ (.tail _ (.tail _ (.head _))))),rfl,λn w p g S Q ex vs bs a1 a2 a3 a4 a5 a6 q=>⟨i,j,vs,bs,a1,a2,a3,a4,a5,a6,q⟩⟩
   | power i m=>exact⟨_,_,_,rfl,(.tail _ (.tail _ (.tail _ (.tail _ (.tail _ (.head _)))))),rfl,λn w p g S Q ex vs bs a1 a2 a3 a4 a5 a6 q=>⟨i,m,vs,bs,a1,a2,a3,a4,a5,a6,q⟩⟩
  have la:=ZV ha
  have lb:=ZV hb;refine Ve (n:=a) (o:=.lst (ns.map Nd.d)) (λk dl' S'=>k<=ns.length/\Pre S S'/\La S' S.length ((ZA bs g (ns.take k)).map frD)/\∃u:Option D,dl'=[sR a,sR b,sI g,sR S.length,u]) ⟨zN _,Pre.refl.push,Zq _ _,_,rfl⟩ (λk dl' S' w=>w.2.1 _ _ ha) ?_ ?_
  .rintro k x dl' S' nx ct ex' ⟨hk,pr,hf,u,rfl⟩ hn;have ex2:(ns.map Nd.d)[k]?=some x:=ex';rw[zF] at ex2;obtain⟨v,hv,rfl⟩:=zG.mp ex2;have hk':=(zA.mp hv).1
   have ln:(ZA bs g (ns.take k)).length=k:=by rw[Xi,zM];lia
   have okv:v.ok (ZA bs g (ns.take k)).length bs.length:=by rw[ln];exact(net.ok k v hv).1
   obtain⟨C,fs,sd,eo,hm,hf2,go⟩:=disp v;have N1:=Zq S' (v.oz);refine zfR (n:=S.length) (S1:=S') (S2:=S'++[v.oz]) (xs:=(ZA bs g (ns.take k)).map frD) (y:=frD (v.fw (ZA bs g (ns.take k)) bs g)) kId hf (λK hK=>?_) (Zt hf) (by rw[zB,ln];lia) ?_
   .refine Fj (n:=S'.length) (C:=C) (sd:=sd) (fs:=fs) (S1:=S'++[v.oz]) (λK hK=>⟨v,rfl,by exact hK⟩) (by rw[<- eo];exact N1) hm hf2 ?_;exact go _ _ _ _ _ _ _ (ZA bs g (ns.take k)) bs N1 (Zt hf) (Zt (pr _ _ hb)) okv ((KZ net rfl sb hg k hk).mono ⋯) hg hK
   .refine hn _ _ ⟨(),YN (Xq pr _) (zC _),?_,_,rfl⟩;rw[Xg hv,PR,yA];exact Yd (Zt hf)
  .rintro dl' S' ⟨hk,pr,hf,u,rfl⟩;refine h _ _ pr (zC _) ?_;have e:ns.take (Zm (.lst (ns.map Nd.d))).length=ns:=by
    show ns.take (ns.map Nd.d).length=ns;rw[zB,yJ]
   rw[e] at hf;exact hf
noncomputable def zha  (zg1:Dfz q80 JR QU)(Rb:Fkz 1 "bars" Rq Hh)(Yn:Fkz 4 q44 Ww VC):Fkz 5 q80 QU Lr:=
 mkF zg1 E9 (λhr=>(Zb (Zk (i:=4) E9.nd (piv 1)) (Ze (Zj (Zh Rb hr (Za (piv 1) (Za (ZD (Zh Yn hr (Za (WG (dv 0) WY (WV (Zf ZX (dv 4) Zd))) (pdv 2 (pv 3)))) (dv 4)) Zg))))))) λS Q ex=>by
  refine kR λa=>kT λw k=>kR λb=>kI λg=>kN ?_
  rintro⟨ns,ws,bs,zero,ha,hb,hw,⟨k0,k1⟩,net,sb,hg,hl,h⟩;obtain⟨kn,rfl⟩:∃kn:Nat,k=(kn:Int):=⟨k.toNat,()⟩;rw[zL] at h;refine WA (n:=a) (o:=.lst (ns.map Nd.d)) (lo:=none) (hi:=some ((kn:Int)+1)) (S3:=S) kId kId kId ha ?_;have ec:Yb (ns.map Nd.d) none (some ((kn:Int)+1))=(ns.take (kn+1)).map Nd.d:=by
   rw[QN () (by rw[zB];lia),xJ];rfl
  rw[show Zm (Ob.lst (ns.map Nd.d))=ns.map Nd.d from rfl,ec];refine⟨ns.take (kn+1),ws.take (kn+1),bs,Zq _ _,Zt hb,net.take _,sb,hg,by rw[zM];lia,λT m pr lm hf=>?_⟩;have prS:Pre S T:=λn o e=>pr n o (Zt e)
  have l1:(ZA bs g (ns.take (kn+1))).length=kn+1:=by rw[Xi,zM];lia
  have ik:inR (((ZA bs g (ns.take (kn+1))).length:Nat):Int) (kn:Int):=⟨(),()⟩;refine Zz (o:=.lst ((ZA bs g (ns.take (kn+1))).map frD)) hf (ZT ik) ?_;rcases hw with ⟨rfl,rfl⟩|⟨rfl,rfl⟩
  .exact .inl ⟨rfl,h T prS⟩
  .exact .inr ⟨rfl,h T prS⟩
noncomputable def zju  (zhI:Dfz q83 HJ VS):Fkz 1 q83 VS T7:=
 mkF zhI JD (λhr=>(Zb (Zk (i:=2) JD.nd (ZL (WW rfl) rfl Y3 Boot.«max» (Za (piv 0) (Za (piv 1) Zg)))) (Zb (Zk (i:=3) JD.nd (ZL (Vu rfl) rfl Xv Boot.«min» (Za (piv 0) (Za (piv 1) Zg)))) (Zb (Zy (Zs WB (dv 2) (dv 3) (Zp _)) (Ze (Zj ZR)) ZE) (Ze (Zj (Zu (pdv 2 (pv 3))))))))) λS Q ex=>by
  refine kP λa b=>kP λc d=>kN ?_
  rintro⟨h1,h2⟩;unfold UB at h1 h2;refine ifD (λe=>?_) (λe=>?_)
  .exact h1 (if_pos e)
  .exact h2 _ (if_neg e)
noncomputable def zfv  (zdm:Dfz q95 GO Me)(Y0:Fkz 1 q83 VS T7):Fkz 2 q95 Me EC:=
 mkF zdm zcf (λhr=>(Zb (Zy (Zs (ZI hr) (dv 0) ZP (Zp _)) (Ze (Zj (Zh Y0 hr (pdv 1 (Za (Zu (Za Zd (Za Zd Zg))) Zg))))) ZE) (Ze (Zj (Zh Y0 hr (pdv 1 (Za (Zu (Za Zd (Za (ZL (WW rfl) rfl Y3 Boot.«max» (Za (piv 1) (Za Zd Zg))) Zg))) Zg))))))) λS Q ex=>by
  refine kS λw=>kP λa b=>kN ?_
  rintro⟨zero,hw,h1,h2⟩;rcases hw with ⟨rfl,rfl⟩|⟨rfl,rfl⟩
  all_goals exact⟨λ_=>h1,λp e=>h2 p.1 p.2 (QL e)⟩
noncomputable def zbT  (zhR:Dmz ZU.C "back" Qo Hg N9):Fmz 1 ZU.C "back" N9 Lw:=
 mkM zhR zeH (λhr=>(Ze (Zj (Yo Zg)))) λS Q ex=>by
  refine kR λn=>kR λw=>kP λz0 z1=>kI λg=>kN ?_
  rintro⟨x,y,vs,q,hn,hw,ok,⟨hs,⟨sz0,sz1⟩,hg⟩,h1,h2⟩;exact h2 [] ⟨by simp,λp hp=>nomatch hp⟩
noncomputable def ziF  (zf6:Dmz ZY.C "back" Qz LH Pb):Fmz 1 ZY.C "back" Pb Jo:=
 mkM zf6 zaC (λhr=>(Ze (Zj (Yo Zg)))) λS Q ex=>by
  refine kR λn=>kR λw=>kP λz0 z1=>kI λg=>kN ?_
  rintro⟨k,vs,q,hn,hw,ok,⟨hs,⟨sz0,sz1⟩,hg⟩,h1,h2⟩;exact h2 [] ⟨by simp,λp hp=>nomatch hp⟩
noncomputable def zfb  (zfa:Dmz Z2.C q14 RN Jf Pw)(Y0:Fkz 1 q83 VS T7)(Yr:Fkz 1 q27 Vc V0):Fmz 2 Z2.C q14 Pw NX:=
 mkM zfa zb3 (λhr=>(Ze (Zj (Zh Y0 hr (pdv 2 (Za (Zh Yr hr (pdv 1 (pv 3))) Zg)))))) λS Q ex=>by
  refine kR λ_=>kP λ_ _=>kP λ_ _=>kP λ_ _=>kI λ_=>kN λh=>?_
  exact⟨λ_=>h.2.1,λp e=>h.2.2 p.1 p.2 (QL e)⟩
noncomputable def zhZ  (zbK:Dmz Z2.C q12 RS IY O3)(Y0:Fkz 1 q83 VS T7)(Yr:Fkz 1 q27 Vc V0):Fmz 2 Z2.C q12 O3 Ng:=
 mkM zbK zcH (λhr=>(Ze (Zj (Zh Y0 hr (pdv 3 (Za (Zh Yr hr (pdv 1 (pv 2))) Zg)))))) λS Q ex=>by
  refine kR λ_=>kP λ_ _=>kP λ_ _=>kP λ_ _=>kI λ_=>kN λh=>?_
  exact⟨λ_=>h.2.1,λp e=>h.2.2 p.1 p.2 (QL e)⟩
def IQ {C:Addr}{c:Int->Int->Nd}{k:Nat}(p:Pr C c)(d:Dmz C "back" Ue Kk Oo)(G_2:Fmz k C q12 O3 Ng)(G_1:Fmz k C q14 Pw NX):Fmz (k+1) C "back" Oo (NW c):=
 mkM d O5 (λhr=>(Zb (Zk (i:=4) O5.nd (Wj (C:=C) (dv 0) p.cl G_1.m G_1.ok (hr.mono (zC _)) G_1.b YD (pdv 2 (Za (ZD (dv 1) (ZO p.cl p.o (dv 0))) (Za (ZD (dv 1) (ZO p.cl p.t (dv 0))) (pv 3)))))) (Zb (Zy (Zs YY (dv 4) ZR (Zp _)) (Ze (Zj ZR)) ZE) (Zb (Zk (i:=5) O5.nd (X6 (Zs (ZI hr) (ZO p.cl p.o (dv 0)) (ZO p.cl p.t (dv 0)) (Zp _)) (dv 4) (ZD (dv 1) (ZO p.cl p.t (dv 0))))) (Zb (Zk (i:=5) O5.nd (Wj (C:=C) (dv 0) p.cl G_2.m G_2.ok (hr.mono (zC _)) G_2.b YD (pdv 2 (pdv 4 (pdv 5 (pv 3)))))) (Zb (Zy (Zs YY (dv 5) ZR (Zp _)) (Ze (Zj ZR)) ZE) (Ze (Zj (Yo (Za (Zu (Za (ZO p.cl p.o (dv 0)) (pv 4))) (Za (Zu (Za (ZO p.cl p.t (dv 0)) (pv 5))) Zg))))))))))) λS Q ex=>by
  refine kR λn=>kR λw=>kP λz0 z1=>kI λg=>kN ?_
  rintro⟨i,j,vs,q,hn,hw,ok,⟨hs,⟨sz0,sz1⟩,hg⟩,h1,h2⟩;rw[p.b] at hn;rw[p.k] at ok;have a:=hs.at ok.1
  have b:=hs.at ok.2
  have up:∀ {x:Int},Sz 1000 x->Sz 1100 x:=λz=>z.mono ⋯
  refine Xr (n:=n) (fs:=[("one",.int i),("other",.int j)]) kId hn rfl ?_;refine ZN (n:=n) kId hn rfl ?_;refine Zz (o:=.lst (vs.map frD)) hw (ZT ok.1) ?_;refine ZN (n:=n) kId hn rfl ?_;refine Zz (o:=.lst (vs.map frD)) hw (ZT ok.2) ?_;refine⟨⟨up sz0,up sz1,up b.1,up b.2,Sz.of 1000000 ()⟩,h1,λx x' l=>?_⟩;have z:=l _ a.1 a.2;refine ZN (n:=n) kId hn rfl ?_;refine ZN (n:=n) kId hn rfl ?_;refine ifD (λc=>?_) (λc=>?_)
  all_goals try refine ZN (n:=n) kId hn rfl ?_
  all_goals try refine Zz (o:=.lst (vs.map frD)) hw (ZT ok.2) ?_
  all_goals
   refine Xr (n:=n) (fs:=[("one",.int i),("other",.int j)]) kId hn rfl ?_;refine⟨⟨up sz0,up sz1,up z.1,up z.2,Sz.of 1000000 ()⟩,h1,λr r' k=>?_⟩;refine ZN (n:=n) kId hn rfl ?_;refine ZN (n:=n) kId hn rfl ?_;exact h2 [(i,x,x'),(j,r,r')] (zd2 ok.1 ok.2 z (k _ (by first|exact z.1|exact b.1) (by first|exact z.2|exact b.2)))
noncomputable def ziU  (zc6:Dmz ZZ.C q14 QO Hj Lq)(Y0:Fkz 1 q83 VS T7)(YM:Fkz 1 q43 VB Ui):Fmz 2 ZZ.C q14 Lq zag:=
 mkM zc6 zee (λhr=>(Ze (Zj (Zh Y0 hr (pdv 2 (Za (Zh YM hr (pdv 1 (pv 3))) Zg)))))) λS Q ex=>by
  refine kR λ_=>kP λ_ _=>kP λ_ _=>kP λ_ _=>kI λ_=>kN λh=>?_
  exact⟨λ_=>h.2.1,λp e=>h.2.2 p.1 p.2 (QL e)⟩
noncomputable def zdT  (zaI:Dmz ZZ.C q12 Rh HC Ge)(Y0:Fkz 1 q83 VS T7)(Yr:Fkz 1 q27 Vc V0):Fmz 2 ZZ.C q12 Ge zfw:=
 mkM zaI zfq (λhr=>(Ze (Zj (Zh Y0 hr (pdv 3 (Za (Zh Yr hr (pdv 2 (pv 1))) Zg)))))) λS Q ex=>by
  refine kR λ_=>kP λ_ _=>kP λ_ _=>kP λ_ _=>kI λ_=>kN λh=>?_
  exact⟨λ_=>h.2.1,λp e=>h.2.2 p.1 p.2 (QL e)⟩
noncomputable def zh6  (zcq:Dfz q47 JP O6):Fkz 1 q47 O6 EA:=
 mkF zcq zaj (λhr=>(Ze (Zj (FD Wy Wy (piv 0) Zd (piv 0))))) λS Q ex=>by
  refine kP λ_ _=>kN λh=>?_
  exact and2 h
noncomputable def zaK  (zeh:Dfz q40 IW Qf):Fkz 1 q40 Qf GS:=
 mkF zeh zjw (λhr=>(Zb (Zy (PDW.pt (WR (Zs WB (piv 1) (piv 0) (Zp _)) (SS (Zs YS (piv 2) (piv 0) (Zp _))))) (Ze (Zj ZR)) ZE) (Ze (Zj (Zu (Za (ZL (WW rfl) rfl Y3 Boot.«max» (Za (piv 1) (Za (piv 0) Zg))) (Za (ZL (Vu rfl) rfl Xv Boot.«min» (Za (piv 2) (Za (piv 0) Zg))) Zg))))))) λS Q ex=>by
  refine kP λx0 x1=>kP λl0 l1=>kP λk0 k1=>kN ?_
  rintro⟨⟨a1,a2⟩,h1,h2⟩;refine ifD (λc=>h1) (λc1=>ifD (λc=>h1) (λc2=>?_));exact h2 (if x0 > l0 then x0 else l0) (if x1<k1 then x1 else k1) λB z0 z1=>⟨Sz.btw z0 z1 (by dsimp only;split<;>lia),Sz.btw z0 z1 (by dsimp only;split<;>lia)⟩
noncomputable def AA  (Ap:Dfz q91 KY OU)(X9:Fkz 1 q45 Uj R9):Fkz 2 q91 OU CN:=
 mkF Ap ze8 (λhr=>(Ze (Zj (Zu (Za (Zf YB (dv 0) (dv 1)) (Za (Zh X9 hr (pdv 0 (pv 1))) Zg)))))) λS Q ex=>by
  refine kI λ_=>kI λ_=>kN ?_
  rintro⟨hb,h⟩;exact⟨hb,hb,h⟩
noncomputable def Aw  (ziQ:Dfz q48 Jv Oe)(V2:Fkz 1 q40 Qf GS)(MA:Fkz 2 q91 OU CN):Fkz 3 q48 Oe Ed:=
 mkF ziQ QY (λhr=>(Zb (Zk (i:=3) QY.nd (X6 (Zs WB (piv 0) Zd (Zp _)) (piv 2) (piv 2))) (Zb (Zk (i:=4) QY.nd (X6 (Zs YS (piv 0) Zd (Zp _)) (piv 2) (piv 2))) (Zb (Zk (i:=5) QY.nd (X6 (Zs (ZI hr) (dv 3) Zd (Zp _)) (Zu (Za (piv 1) (Za (piv 1) Zg))) (Zh MA hr (Za (piv 0) (pv 3))))) (Zb (Zk (i:=6) QY.nd (X6 (Zs (ZI hr) (dv 4) Zd (Zp _)) (Zu (Za (piv 1) (Za (piv 1) Zg))) (Zh MA hr (Za (piv 0) (pv 4))))) (Ze (Zj (Zh V2 hr (pdv 1 (pdv 5 (pv 6))))))))))) λS Q ex=>by
  refine kP λlo hi=>kP λx0 x1=>kP λc d=>kN ?_
  rintro⟨⟨h0,hd,zc,zd⟩,h⟩;refine ifD (λe1=>?_) (λe1=>?_)
  all_goals refine ifD (λe2=>?_) (λe2=>?_)
  all_goals refine ifD (λe3=>?_) (λe3=>?_)
  all_goals try refine⟨⟨(),by first|exact zd.log ()|exact zc.log ()⟩,?_⟩
  all_goals refine ifD (λe4=>?_) (λe4=>?_)
  all_goals try refine⟨⟨(),by first|exact zd.log ()|exact zc.log ()⟩,?_⟩
  all_goals exact⟨⟨by first|exact zV _|exact CP (),by first|exact zV _|exact CP ()⟩,h⟩
noncomputable def zfn  (za3:Dfz "hull" L6 OX):Fkz 1 "hull" OX CM:=
 mkF za3 zbj (λhr=>(Ze (Zj (Zu (Za (ZL (Vu rfl) rfl Xv Boot.«min» (Za (piv 0) (Za (piv 1) Zg))) (Za (ZL (WW rfl) rfl Y3 Boot.«max» (Za (piv 0) (Za (piv 1) Zg))) Zg)))))) λS Q ex=>by
  refine kP λ_ _=>kP λ_ _=>kN λh=>?_
  exact h
noncomputable def ze2  (EZ:Dfz Xl Ic RK)(Iv:Fkz 1 "hull" OX CM):Fkz 2 Xl RK Sf:=
 EZ.mk' (VW (k:=1) EZ.F zcF (zeL) λ_ _ _ _ _ _ _ hr=>⟨_,(Zb (Zy (Zs YY (dv 0) ZR (Zp _)) (Ze (Zj (dv 1))) ZE) (Zb (Zy (Zs YY (dv 1) ZR (Zp _)) (Ze (Zj (dv 0))) ZE) (Ze (Zj (Zh Iv hr (pdv 0 (pv 1))))))),λds S Q ex h=>by
  unfold Sf at h;split at h
  .exact h
  .exact h
  .exact h
  .exact h.elim⟩)
noncomputable def zdA  (zbz:Dfz q59 JU UP):Fkz 1 q59 UP R5:=
 mkF zbz zf9 (λhr=>(Ze (Zj (Zu (Za (Wf Wb (piv 0)) (Za (Wf Wb (piv 0)) Zg)))))) λS Q ex=>by
  refine kP λ_ _=>kN λh=>?_
  exact h
noncomputable def zgL  (zcM:Dfz q56 LD Ro)(Tr:Fkz 2 Xl RK Sf)(NG:Fkz 3 q48 Oe Ed)(Xw:Fkz 1 q59 UP R5)(Lc:Fkz 1 q47 O6 EA):Fkz 4 q56 Ro Gz:=
 mkF zcM T9 (λhr=>(Zb (Zy (PDW.pt (Rx (Y4 (Zh Lc hr (pv 2))) (Qx (Y4 (Zh Lc hr (pv 0)))))) (Ze (Zj (dv 1))) ZE) (Zb (Zk (i:=4) T9.nd (Zu (Za (Zf ZF (piv 0) (dv 3)) (Za (Zf ZF (piv 0) (dv 3)) Zg)))) (Zb (Zk (i:=5) T9.nd ZR) (Zb (Zy (Zs WB (piv 2) Zd (Zp _)) (Ze (Zk (i:=5) T9.nd (Zh NG hr (pdv 4 (pdv 1 (Za (Zu (Za (ZL (WW rfl) rfl Y3 Boot.«max» (Za (piv 2) (Za Zd Zg))) (Za (piv 2) Zg))) Zg)))))) ZE) (Zb (Zy (Zs YS (piv 2) Zd (Zp _)) (Zb (Zk (i:=6) T9.nd (Zh NG hr (Za (Zh Xw hr (pv 4)) (pdv 1 (Za (Zu (Za (ZL (WW rfl) rfl Y3 Boot.«max» (Za (Wf Wb (piv 2)) (Za Zd Zg))) (Za (Wf Wb (piv 2)) Zg))) Zg))))) (Ze (Zk (i:=5) T9.nd (Zh Tr hr (pdv 5 (pv 6)))))) ZE) (Ze (Zj (dv 5))))))))) λS Q ex=>by
  refine kP λz0 z1=>kP λx0 x1=>kP λy0 y1=>kI λg=>kN ?_
  rintro⟨⟨sz0,sz1,sy0,sy1,sg⟩,hn,ht⟩;refine if2 (λa1 a2=>if2 (λb1 b2=>ht x0 x1 λB z z'=>⟨z,z'⟩) (λn=>?_)) (λn=>?_)
  all_goals refine⟨ZC sz0 sg,ZC sz1 sg,?_⟩
  all_goals refine ifD (λc1=>?_) (λc1=>?_)
  all_goals try refine⟨⟨Cn _,c1,DR (sy0.mono ⋯),sy1.mono ⋯⟩,?_,λa b l=>?_⟩
  all_goals refine ifD (λc2=>?_) (λc2=>?_)
  all_goals try refine⟨⟨Cn _,(),DR (sy1.neg.mono ⋯),sy0.neg.mono ⋯⟩,?_,λa' b' l'=>?_⟩
  all_goals first|exact hn|exact ht _ _ l'|exact ht _ _ l|exact ht (if a'<a then a' else a) (if b' > b then b' else b) (l.hull l')
noncomputable def zbQ  (zcx:Dmz Z1.C q14 Qw IV Ks)(TM:Fkz 4 q56 Ro Gz):Fmz 5 Z1.C q14 Ks zad:=
 mkM zcx zft (λhr=>(Ze (Zj (Zh TM hr (pdv 1 (pdv 2 (pdv 3 (pv 4)))))))) λS Q ex=>by
  refine kR λ_=>kP λ_ _=>kP λ_ _=>kP λ_ _=>kI λ_=>kN λh=>?_
  exact h
noncomputable def ziA  (zd3:Dmz Z1.C q12 Rn GP Hd)(TM:Fkz 4 q56 Ro Gz):Fmz 5 Z1.C q12 Hd ziL:=
 mkM zd3 zb2 (λhr=>(Ze (Zj (Zh TM hr (pdv 1 (pdv 3 (pdv 2 (pv 4)))))))) λS Q ex=>by
  refine kR λ_=>kP λ_ _=>kP λ_ _=>kP λ_ _=>kI λ_=>kN λh=>?_
  exact h
noncomputable def B8  (zdQ:Dfz q68 LM NV)(Y5:Fkz 1 q82 Ud Tn):Fkz 2 q68 NV Cs:=
 mkF zdQ ze6 (λhr=>(Ze (Zj (Zf YB (Zf ZX (Zf ZF (Zf Yp (dv 2) Zd) (dv 0)) (Zf YB (dv 1) (Zh Y5 hr (pdv 0 (Za (Zf Yp (dv 2) Zd) Zg))))) (dv 2))))) λS Q ex=>by
  refine kI λg=>kI λN=>kI λn=>kN ?_
  rintro⟨⟨n2,n6,hg,sg⟩,h⟩;have zn:Sz 800 (n-1):=Sz.of 6 ()
  have gp:(0:Int)<g^(n-1).toNat:=yI hg;exact⟨ZC zn sg,⟨(),(),sg.mono ⋯⟩,((sg.pow (n-1).toNat).mono (show _<=4001 by lia)).fd gp,(Sz.of (n:=800) 6 ():Sz 800 n).fd (),h⟩
noncomputable def zeu  (BY:Dfz q57 Gx RA)(N8:Fkz 2 q68 NV Cs):Fkz 3 q57 RA JM:=
 mkF BY QK (λhr=>(Zb (Zy (Zs (ZI hr) (dv 0) Zd (Zp _)) (Ze (Zj Zd)) ZE) (Zb (Zk (i:=2) QK.nd (Zf zhx Zd (Zf ZX (Zf YB (zd1 (dv 0)) (dv 1)) Zd))) (Zb (Zk (i:=3) QK.nd (Zh N8 hr (pdv 2 (pdv 0 (pv 1))))) (Zb (Qk PassesOwn.never (Zs YS (dv 3) (dv 2) (Zp _)) (Zb (Zk (i:=2) QK.nd (dv 3)) (Ze (Zk (i:=3) QK.nd (Zh N8 hr (pdv 2 (pdv 0 (pv 1)))))))) (Ze (Zj (dv 2)))))))) λS Q ex=>by
  refine kI λN=>kI λn=>kN ?_
  rintro⟨⟨n2,n6,h0,sN⟩,h⟩;refine ifD (λc=>?_) (λc=>?_)
  .exact h 0 () (Sz.of 0 ⋯)
  .refine⟨(Sz.of (n:=800) 6 ():Sz 800 n).fd (),?_⟩;have d3:=vQ (show (0:Int)<=(Builtin.Int.intBits N:Int) by lia) (show 0<=n by lia)
   have d4:(Builtin.Int.intBits N:Int)/n<=(Builtin.Int.intBits N:Int):=Int.ediv_le_self _ ()
   have d5:=sN.bits;refine⟨⟨(),(),⋯⟩,?_⟩;have s0:=(zf0 n2 sN).mono (show 652<=800 by decide)
   have g0:(0:Int)<1*2^((Builtin.Int.intBits N:Int)/n+1).toNat:=by rw[vP];exact yI ⋯
   refine⟨⟨n2,n6,g0,s0⟩,?_⟩;refine⟨λm dl' S'=>S'=S/\∃x:Int,dl'=[sI N,sI n,sI x,sI (((n-1)*x+N/x^(n-1).toNat)/n)]/\0<x/\Sz 800 x/\m=x.toNat,⟨_,rfl,_,rfl,g0,s0,rfl⟩,?_⟩;rintro m dl' S' ⟨rfl,x,rfl,x0,sx,rfl⟩;have ge:=zaP (N:=N) n2 x0 ();refine ifD (λc=>?_) (λc=>?_)
   .have s1:Sz 800 (((n-1)*x+N/x^(n-1).toNat)/n):=Sz.mid (a:=0) (Sz.of 0 ⋯) sx () ();exact⟨⟨n2,n6,ge,s1⟩,_,(),rfl,_,rfl,ge,s1,rfl⟩
   .exact h x () sx
noncomputable def Az (Vq:Dfz "root" Q3 Vk)(Y5:Fkz 1 q82 Ud Tn)(Sl:Fkz 3 q57 RA JM)(Xw:Fkz 1 q59 UP R5)(GI:Fkz 0 "root" Vk GU):Fkz 4 "root" Vk Q8:=
 Vq.mk' (VW (k:=3) Vq.F ND za9 λ_ _ _ _ _ _ _ hr=>⟨_,(Zb (Zy (Zs YS (dv 0) Zd (Zp _)) (Ze (Zj (Zh Xw hr (Za (G4 GI (rmn hr) YD rfl (Za (Wf Wb (dv 0)) (pv 1))) Zg)))) ZE) (Zb (Zk (i:=2) ND.nd (Zh Sl hr (pdv 0 (pv 1)))) (Zb (Zy (Zs (ZI hr) (Zh Y5 hr (pdv 2 (pv 1))) (dv 0) (Zp _)) (Ze (Zj (Zu (pdv 2 (pv 2))))) ZE) (Ze (Zj (Zu (pdv 2 (Za (Zf ZX (dv 2) Zd) Zg)))))))),λds S Q ex h=>by
  unfold Q8 at h;split at h
  .rename_i N n;obtain⟨⟨n2,n6,h0,sN⟩,h⟩:=h;exact ifD (λc=>absurd c ()) (λc=>⟨⟨n2,n6,(),sN⟩,λr r0 sr=>⟨⟨(),n6,sr.mono ⋯⟩,ifD (λ_=>h r r (zV _)) (λ_=>h r (r+1) ())⟩⟩)
  .exact h.elim⟩)
noncomputable def zgI (Vq:Dfz "root" Q3 Vk)(Y5:Fkz 1 q82 Ud Tn)(Sl:Fkz 3 q57 RA JM)(Xw:Fkz 1 q59 UP R5)(GI:Fkz 4 "root" Vk Q8):Fkz 5 "root" Vk Rl:=
 Vq.mk' (VW (k:=4) Vq.F ND BQ λ_ _ _ _ _ _ _ hr=>⟨_,(Zb (Zy (Zs YS (dv 0) Zd (Zp _)) (Ze (Zj (Zh Xw hr (Za (G4 GI (rmn hr) YD rfl (Za (Wf Wb (dv 0)) (pv 1))) Zg)))) ZE) (Zb (Zk (i:=2) ND.nd (Zh Sl hr (pdv 0 (pv 1)))) (Zb (Zy (Zs (ZI hr) (Zh Y5 hr (pdv 2 (pv 1))) (dv 0) (Zp _)) (Ze (Zj (Zu (pdv 2 (pv 2))))) ZE) (Ze (Zj (Zu (pdv 2 (Za (Zf ZX (dv 2) Zd) Zg)))))))),λds S Q ex h=>by
  unfold Rl at h;split at h
  .rename_i N n;obtain⟨⟨n2,n6,sN⟩,h⟩:=h;exact ifD (λc=>⟨⟨n2,n6,(),sN.neg⟩,λa b l=>h (-b) (-a) ()⟩) (λc=>⟨⟨n2,n6,(),sN⟩,λr r0 sr=>⟨⟨(),n6,sr.mono ⋯⟩,ifD (λ_=>h r r (zV _)) (λ_=>h r (r+1) ())⟩⟩)
  .exact h.elim⟩)
noncomputable def zaH  (zai:Dfz q72 KH PJ)(Tr:Fkz 2 Xl RK Sf)(V2:Fkz 1 q40 Qf GS)(Xw:Fkz 1 q59 UP R5)(Tz:Fkz 5 "root" Vk Rl)(Y5:Fkz 1 q82 Ud Tn):Fkz 6 q72 PJ Dc:=
 mkF zai RD (λhr=>(Zb (Zk (i:=4) RD.nd (Zh Y5 hr (pdv 3 (Za (Zf Yp (dv 2) Zd) Zg)))) (Zb (Zk (i:=5) RD.nd (Zu (Za (Zf ZF (piv 0) (dv 4)) (Za (Zf ZF (piv 0) (dv 4)) Zg)))) (Zb (Zy (Zs (ZI hr) (Zf Z9 (dv 2) Zd) Zd (Zp _)) (Ze (Zj (Zh V2 hr (pdv 1 (Za (Zh Tz hr (Za (piv 5) (pv 2))) (Za (Zh Tz hr (Za (piv 5) (pv 2))) Zg)))))) ZE) (Zb (Zy (Zs YS (piv 5) Zd (Zp _)) (Ze (Zj ZR)) ZE) (Zb (Zk (i:=6) RD.nd (Zh Tz hr (Za (ZL (WW rfl) rfl Y3 Boot.«max» (Za (piv 5) (Za Zd Zg))) (pv 2)))) (Zb (Zk (i:=7) RD.nd (Zh Tz hr (Za (piv 5) (pv 2)))) (Ze (Zj (Zh Tr hr (Za (Zh V2 hr (pdv 1 (pdv 6 (pv 7)))) (Za (Zh V2 hr (pdv 1 (Za (Zh Xw hr (pv 7)) (Za (Zh Xw hr (pv 6)) Zg)))) Zg)))))))))))) λS Q ex=>by
  refine kP λz0 z1=>kP λx0 x1=>kI λn=>kI λg=>kN ?_
  rintro⟨⟨n2,n6,sg,sz0,sz1⟩,hn,ht⟩;refine⟨⟨(),(),sg.mono ⋯⟩,?_⟩;have sgp:Sz 181 (g^(n-1).toNat):=(sg.pow _).mono ();refine⟨ZC sz0 sgp,ZC sz1 sgp,?_⟩;have slo:Sz 1300 (z0*g^(n-1).toNat):=(sz0.mul sgp).mono ⋯
  have shi:Sz 1300 (z1*g^(n-1).toNat):=(sz1.mul sgp).mono ⋯;generalize g^(n-1).toNat=G at *
  refine ifD (λe=>?_) (λe=>?_)
  .exact⟨⟨n2,n6,slo⟩,λa b l=>⟨⟨n2,n6,shi⟩,λc d k=>⟨⟨l,k⟩,hn,ht⟩⟩⟩
  .refine ifD (λe2=>hn) (λe2=>?_);refine⟨⟨n2,n6,(by show Sz 1300 (mx0 (z0*G));unfold mx0;split;exact Sz.of 0 ⋯ (yF ⋯);exact slo)⟩,λa b l=>⟨⟨n2,n6,shi⟩,λc d k=>?_⟩⟩;refine⟨⟨l,k⟩,⟨⟨(),()⟩,hn,λp q r=>ht p q r⟩,λp q r=>⟨⟨(),()⟩,ht p q r,λp' q' r'=>?_⟩⟩;exact ht (if p'<p then p' else p) (if q' > q then q' else q) (r.hull r')
noncomputable def Ab  (zfM:Dmz ZJ.C "back" RZ Je ON)(K6:Fkz 6 q72 PJ Dc):Fmz 7 ZJ.C "back" ON Ig:=
 mkM zfM CW (λhr=>(Zb (Zk (i:=4) CW.nd (Zh K6 hr (pdv 2 (Za (ZD (dv 1) (ZO ZJ.cl ZJ.n_one (dv 0))) (Za (ZO ZJ.cl ZJ.n_many (dv 0)) (pv 3)))))) (Zb (Zy (Zs YY (dv 4) ZR (Zp _)) (Ze (Zj ZR)) ZE) (Ze (Zj (Yo (Za (Zu (Za (ZO ZJ.cl ZJ.n_one (dv 0)) (pv 4))) Zg))))))) λS Q ex=>by
  refine kR λn=>kR λw=>kP λz0 z1=>kI λg=>kN ?_
  rintro⟨i,m,vs,q,hn,hw,ok,⟨hs,⟨sz0,sz1⟩,hg⟩,h1,h2⟩;refine ZN (n:=n) kId hn rfl ?_;refine Zz (o:=.lst (vs.map frD)) hw (ZT ok.1) ?_;refine ZN (n:=n) kId hn rfl ?_;have a:=hs.at ok.1;refine⟨⟨ok.2.1,ok.2.2,Sz.of 1000000 (),sz0.mono ⋯,sz1.mono ⋯⟩,h1,λp p' l=>?_⟩;refine ZN (n:=n) kId hn rfl ?_;exact h2 [(i,p,p')] ⟨by simp,λr hr=>by cases zO.mp hr;exact⟨ok.1,l _ a.1 a.2⟩⟩
noncomputable def zhp  (zdp:Dfz q73 Gn MZ)(J3:Fmz 7 ZJ.C "back" ON Ig)(Jl:Fmz 6 Z1.C "back" zbE E2)(IT:Fmz 3 ZZ.C "back" zcN CG)(Jr:Fmz 3 Z2.C "back" Oo D2)(Gs:Fmz 1 ZY.C "back" Pb Jo)(Ga:Fmz 1 ZU.C "back" N9 Lw)(Vt:Fkz 3 q92 TF Pd)(Jc:Fkz 2 q95 Me EC)(Yn:Fkz 4 q44 Ww VC):Fkz 8 q73 MZ D3:=
 mkF zdp Uh (λhr=>(Zb (Zk (i:=4) Uh.nd (piv 1)) (Zb (Zk (i:=5) Uh.nd (Zh Yn hr (Za (WG (dv 0) WY (WV (Zf ZX (dv 4) Zd))) (pdv 2 (pv 3))))) (Zb (Zk (i:=6) Uh.nd (Zh Jc hr (Za (piv 1) (Za (ZD (dv 5) (dv 4)) Zg)))) (Zb (Zy (Zs YY (dv 6) ZR (Zp _)) (Ze (Zj ZR)) ZE) (Zb (UW (dv 5) (dv 4) (dv 6)) (Zb (zgR (i:=7) PassesOwn.never rfl Uh.nd rfl (Or.inl rfl) rfl YQ (pdv 4 (Za (Wf Wb Zd) (Za (Wf Wb Zd) Zg))) (Zb (Zk (i:=8) Uh.nd (KJ (Zh Vt hr (Za (ZD (dv 0) (dv 7)) Zg)) (YL ZU.cl Ga (rmn hr) (YL ZY.cl Gs (rmn hr) (YL Z2.cl Jr (rmn hr) (YL ZZ.cl IT (rmn hr) (YL Z1.cl Jl (rmn hr) (YL ZJ.cl J3 (rmn hr) Ia)))))) YD (pdv 5 (Za (ZD (dv 5) (dv 7)) (pv 3))))) (Zb (Zy (Zs YY (dv 8) ZR (Zp _)) (Ze (Zj ZR)) ZE) (Ze (W9 (i:=9) PassesOwn.never rfl Uh.nd rfl (Or.inl rfl) (dv 8) (Ze (UW (dv 5) (piv 9) (piv 9)))))))) (Ze (Zj (dv 5)))))))))) λS Q ex=>by
  refine kR λa=>kT λw k=>kR λb=>kI λg=>kN ?_
  rintro⟨ns,ws,bs,zero,ha,hb,hw,⟨k0,k1⟩,net,sb,hg,hl,h1,h2⟩;have disp:∀v:Nd,∃C fs sd,v.oz=.ins C fs/\(C,sd)∈[(ZU.C,Lw),(ZY.C,Jo),(Z2.C,D2),(ZZ.C,CG),(Z1.C,E2),(ZJ.C,Ig)]/\fs.lookup ("back":Str)=none/\∀(n w:Nat)(z:Int×Int)(g q:Int)(S:Sto)(Q:DK)(ex:Addr->Sto->Prop)(vs:LI),S[n]?=some (v.oz)->La S w (vs.map frD)->v.ok vs.length q->(Bd 1000 vs/\(Sz 1000 z.1/\Sz 1000 z.2)/\(Gg g))->Q .non S->(∀l,Ptw vs.length l->Q (.ref S.length) (S++[.lst (l.map ptD)]))->sd [.ref n,.ref w,frD z,.int g] S Q ex:=by
   intro v;cases v with
   | number x y=>exact⟨_,_,_,rfl,(.head _),rfl,λn w z g q S Q ex vs a1 a2 a3 a4 q1 q2=>⟨x,y,vs,q,a1,a2,a3,a4,q1,q2⟩⟩
   | unknown k=>exact⟨_,_,_,rfl,(.tail _ (.head _)),rfl,λn w z g q S Q ex vs a1 a2 a3 a4 q1 q2=>⟨k,vs,q,a1,a2,a3,a4,q1,q2⟩⟩
   | plus i j=>exact⟨_,_,_,rfl,(.tail _ (.tail _ (.head _))),rfl,λn w z g q S Q ex vs a1 a2 a3 a4 q1 q2=>⟨i,j,vs,q,a1,a2,a3,a4,q1,q2⟩⟩
   | minus i j=>exact⟨_,_,_,rfl,(.tail _ (.tail _ (.tail _ (.head _)))),rfl,λn w z g q S Q ex vs a1 a2 a3 a4 q1 q2=>⟨i,j,vs,q,a1,a2,a3,a4,q1,q2⟩⟩
   | times i j=>exact⟨_,_,_,rfl,(.tail _ (.tail _ (.tail _ (.tail _ (.head _))))),rfl,λn w z g q S Q ex vs a1 a2 a3 a4 q1 q2=>⟨i,j,vs,q,a1,a2,a3,a4,q1,q2⟩⟩
   | power i m=>exact⟨_,_,_,rfl,(.tail _ (.tail _ (.tail _ (.tail _ (.tail _ (.head _)))))),rfl,λn w z g q S Q ex vs a1 a2 a3 a4 q1 q2=>⟨i,m,vs,q,a1,a2,a3,a4,q1,q2⟩⟩
  obtain⟨kn,rfl⟩:∃kn:Nat,k=(kn:Int):=⟨k.toNat,()⟩;rw[zL] at h2;have hk:kn<ns.length:=by lia
  refine WA (n:=a) (o:=.lst (ns.map Nd.d)) (lo:=none) (hi:=some ((kn:Int)+1)) (S3:=S) kId kId kId ha ?_;have ec:Yb (ns.map Nd.d) none (some ((kn:Int)+1))=(ns.take (kn+1)).map Nd.d:=by
   rw[QN () (by rw[zB];lia),xJ];rfl
  rw[show Zm (Ob.lst (ns.map Nd.d))=ns.map Nd.d from rfl,ec];refine⟨ns.take (kn+1),ws.take (kn+1),bs,Zq _ _,Zt hb,net.take _,sb,hg,by rw[zM];lia,λT m pr lm hf=>?_⟩;have prS:Pre S T:=λn o e=>pr n o (Zt e)
  have lm':S.length<=m:=by
   have z:(S++[Ob.lst ((ns.take (kn+1)).map Nd.d)]).length<=m:=lm;rw[zQ] at z;lia
  have s1:Bd 1000 (ZA bs g (ns.take (kn+1))):=λp hp=>(KZ net rfl sb hg (kn+1) () p hp).2
  have l1:(ZA bs g (ns.take (kn+1))).length=kn+1:=by rw[Xi,zM];lia
  generalize ZA bs g (ns.take (kn+1))=fs at hf s1 l1;have ik:inR ((fs.length:Nat):Int) (kn:Int):=⟨(),()⟩
  have a1:=s1.at ik;refine Zz (o:=.lst (fs.map frD)) hf (ZT ik) ?_;refine⟨zero,hw,h1 T prS,λp p' le=>?_⟩;refine V5 (n:=m) (k:=(kn:Int)) (j:=kn) (xs:=fs.map frD) (v:=frD (p,p')) kId kId kId hf (by rw[zB,TV ik];rfl) ?_;rw[RY];refine⟨rfl,⟨(),(),(),()⟩,λt dl' S'=>t<=kn+1/\Pre S S'/\∃us:LI,La S' m (us.map frD)/\us.length=kn+1/\Bd 1000 us/\∃u7 u8 u9:Option D,dl'=[sR a,some (.tup [.str w,.int (kn:Int)]),sR b,sI g,sI (kn:Int),sR m,some (frD (p,p')),u7,u8,u9],⟨(),YN prS lm',_,Yd hf,by rw[yD];exact l1,s1.put (le _ a1.1 a1.2),_,_,_,rfl⟩,?_⟩;rintro t dl' S' ⟨ht,prt,us,hu,lu,su,u7,u8,u9,rfl⟩;refine OL (λtc=>?_) (λtc=>?_)
  .have tc':t<kn+1:=by
    have z:t<((kn:Int) - -1).toNat:=tc;lia
   obtain⟨j,ej⟩:∃j:Nat,kn=j+t:=⟨kn-t,()⟩;have en:(kn:Int)-(t:Int)=(j:Int):=by lia
   have hv:ns[j]?=some ns[j]:=zD ();generalize ns[j]=v at hv;have ok:v.ok us.length bs.length:=zav () (net.ok j v hv).1
   have ij:inR ((us.length:Nat):Int) (j:Int):=⟨(),()⟩;obtain⟨C,gs,sd,eo,hm,hf2,go⟩:=disp v;have N1:=Zq S' (v.oz);rw[en];refine Fj (n:=S'.length) (C:=C) (sd:=sd) (fs:=gs) (S1:=S'++[v.oz]) (λK hK=>?_) (by rw[<- eo];exact N1) hm hf2 ?_
   .refine Zz (o:=.lst (ns.map Nd.d)) (prt _ _ ha) (Dz hv) ?_;exact⟨v,rfl,by exact hK⟩
   refine Zz (o:=.lst (us.map frD)) (Zt hu) (ZT ij) ?_;refine go _ _ (gt us (j:Int)) _ bs.length _ _ _ us N1 (Zt hu) ok ⟨su,su.at ij,hg⟩ (h1 _ (Xq prt _)) (λl P=>?_);have lS:m<S'.length:=ZV hu;refine Ve (n:=(S'++[v.oz]).length) (o:=.lst (l.map ptD)) (λi dl2 S2=>Pre S S2/\S2[(S'++[v.oz]).length]?=some (.lst (l.map ptD))/\∃(vs:LI)(u9:Option D),La S2 m (vs.map frD)/\vs.length=kn+1/\Bd 1000 vs/\dl2=[sR a,some (.tup [.str w,.int (kn:Int)]),sR b,sI g,sI (kn:Int),sR m,some (frD (p,p')),sI (j:Int),some (.ref (S'++[v.oz]).length),u9]) ⟨Xq (Xq prt _) _,Zq _ _,us,_,Zt (Zt hu),lu,su,rfl⟩ (λi dl2 S2 z=>z.2.1) ?_ ?_
   .rintro i x dl2 S2 nx ct ex' ⟨pr2,hl2,vs,u9,hu2,lv,sv,rfl⟩ hn;have ex2:(l.map ptD)[i]?=some x:=ex';rw[zF] at ex2;obtain⟨p,hp,rfl⟩:=zG.mp ex2;obtain⟨q1,q2⟩:=P.2 p (zE hp);refine V5 (n:=m) (k:=p.1) (j:=p.1.toNat) (xs:=vs.map frD) (v:=frD p.2) kId kId kId hu2 (by rw[zB,lv,<- lu];exact TV q1) ?_;rw[RY];refine hn _ _ ⟨YN pr2 lm',Z4 hl2 (by rw[zQ];lia),_,_,Yd hu2,by rw[yD];exact lv,sv.put q2,rfl⟩
   .rintro dl2 S2 ⟨pr2,hl2,vs,u9,hu2,lv,sv,rfl⟩;exact⟨(),pr2,vs,hu2,lv,sv,_,_,_,rfl⟩
  .exact h2 us S' m lu prt lm' hu
noncomputable def zax  (zjd:Dfz q96 HE MO)(GD:Fkz 8 q73 MZ D3):Fkz 9 q96 MO FO:=
 mkF zjd QG (λhr=>(Zb (Zk (i:=4) QG.nd (Zh GD hr (pdv 0 (pdv 1 (pdv 2 (pv 3)))))) (Zb (Zy (Zs YY (dv 4) ZR (Zp _)) (Ze (Zj ZR)) ZE) (Zb (Zk (i:=5) QG.nd (W3 (ZQ Vf) rfl Xp Boot.«list» (pv 2))) (Zb (QR (is:=[6,7]) PassesOwn.never rfl QG.nd (Nms.cons (i:=6) rfl (Or.inl rfl) (by first|exact .inl rfl|exact .inr rfl) (Nms.cons (i:=7) rfl (Or.inl rfl) (by first|exact .inl rfl|exact .inr rfl) Nms.nil)) rfl rfl XF Boot.«enumerate» (pv 4) (Zb (Zk (i:=8) QG.nd (ZD (dv 0) (dv 6))) (Ze (Zy (Zs (ZI hr) (piv 8) ZP (Zp _)) (Ze (UW (dv 5) (piv 8) (dv 7))) ZE)))) (Ze (Zj (dv 5)))))))) λS Q ex=>by
  refine kR λa=>kT λw k=>kR λb=>kI λg=>kN ?_
  rintro⟨ns,ws,bs,zero,ha,hb,hw,⟨k0,k1⟩,net,sb,hg,hl,h1,h2⟩;refine⟨ns,ws,bs,zero,ha,hb,hw,⟨k0,k1⟩,net,sb,hg,hl,h1,λus T m lu pr lm hu=>?_⟩;have lS:m<T.length:=ZV hu;refine WH (ZM (pr _ _ hb) rfl) ?_;refine Rg (n:=m) (xs:=us.map frD) (S1:=T++[.lst (bs.map frD)]) (λi dl' S'=>Pre S S'/\La S' m (us.map frD)/\∃(vs:LI)(u6 u7 u8:Option D),La S' T.length (vs.map frD)/\vs.length=bs.length/\dl'=[sR a,some (.tup [.str w,.int k]),sR b,sI g,sR m,sR T.length,u6,u7,u8]) kId (λi dl' S' z=>z.2.1) ⟨Xq pr _,Zt hu,bs,_,_,_,Zq _ _,rfl,rfl⟩ ?_ ?_
  .rintro i x dl' S' nx ct ex' ⟨pr',hu',vs,u6,u7,u8,hl',lv,rfl⟩ hn;rw[zF] at ex';obtain⟨p,hp,rfl⟩:=zG.mp ex';have hi':=(zA.mp hp).1
   have hv:ns[i]?=some ns[i]:=zD ();generalize ns[i]=v at hv;have okv:=(net.ok i v hv).1;refine Zz (o:=.lst (ns.map Nd.d)) (pr' _ _ ha) (Dz hv) ?_;have no:=hn _ _ ⟨pr',hu',vs,sI (i:Int),some (frD p),some v.d,hl',lv,rfl⟩;cases v with
   | unknown u=>
    have oku:inR ((vs.length:Nat):Int) u:=by rw[lv];exact okv
    refine V5 (n:=T.length) (k:=u) (j:=u.toNat) (xs:=vs.map frD) (v:=frD p) kId kId kId hl' (by rw[zB];exact TV oku) ?_;rw[RY];exact hn _ _ ⟨YN pr' (YI pr),Z4 hu' (),_,_,_,_,Yd hl',by rw[yD];exact lv,rfl⟩
   | number _ _=>exact no
   | plus _ _=>exact no
   | minus _ _=>exact no
   | times _ _=>exact no
   | power _ _=>exact no
  .rintro dl' S' ⟨pr',hu',vs,u6,u7,u8,hl',lv,rfl⟩;exact h2 vs S' T.length lv pr' (YI pr) hl'
noncomputable def ziP  (zgQ:Dfz q79 IH Rj):Fkz 1 q79 Rj Gj:=
 mkF zgQ Ad (λhr=>(Ze (Zj (Zf M8 (Zf M8 (WG (dv 0) WY (WV (dv 1))) (Yo (pv 2))) (WG (dv 0) (WV (Zf ZX (dv 1) Zd)) WY))))) λS Q ex=>by
  refine kR λb=>kI λk=>kD λd=>kN ?_
  rintro⟨bs,p,hb,⟨k0,k1⟩,l4,rfl,h⟩;obtain⟨kn,rfl⟩:∃kn:Nat,k=(kn:Int):=⟨k.toNat,()⟩;rw[zL] at h;have c1:=D9 (α:=Nat) (xs:=bs.map frD) (lo:=none) (hi:=some (kn:Int))
  have c2:=D9 (α:=Nat) (xs:=bs.map frD) (lo:=some ((kn:Int)+1)) (hi:=none);rw[zB] at c1 c2;refine WA (n:=b) (o:=.lst (bs.map frD)) (lo:=none) (hi:=some (kn:Int)) (S3:=S) kId kId kId hb ?_;rw[show Zm (Ob.lst (bs.map frD))=bs.map frD from rfl];refine Pf (n:=S.length) (m:=(S++[Ob.lst (Yb (bs.map frD) none (some (kn:Int)))]).length) (xs:=Yb (bs.map frD) none (some (kn:Int))) (ys:=[frD p]) (Zt (Zq _ _)) (Zq _ _) (by show (Yb (bs.map frD) none (some (kn:Int))).length+1<=1000;lia) ?_;refine WA (n:=b) (o:=.lst (bs.map frD)) (lo:=some ((kn:Int)+1)) (hi:=none) (S3:=S++[Ob.lst (Yb (bs.map frD) none (some (kn:Int)))]++[Ob.lst [frD p]]++[Ob.lst (Yb (bs.map frD) none (some (kn:Int))++[frD p])]) kId kId kId (Zt (Zt (Zt hb))) ?_;rw[show Zm (Ob.lst (bs.map frD))=bs.map frD from rfl];refine Pf (xs:=Yb (bs.map frD) none (some (kn:Int))++[frD p]) (ys:=Yb (bs.map frD) (some ((kn:Int)+1)) none) (Zt (Zq _ _)) (Zq _ _) (by rw[zQ];show (Yb (bs.map frD) none (some (kn:Int))).length+1+_<=1000;lia) ?_;rw[zhF (α:=Nat) ()];refine h _ _ ?_ ?_ (Zq _ _)
  .exact λn o e=>Zt (Zt (Zt (Zt (Zt e))))
  .simp only[zQ];lia
noncomputable def A7  (zdK:Dfz XT Jd Nn):Fkz 1 XT Nn DJ:=
 mkF zdK za8 (λhr=>(Ze (Zj (X6 (Zs (ZI hr) (piv 1) Zd (Zp _)) (Zu (Za (piv 0) (Za (piv 1) Zg))) (Zu (Za (piv 1) (Za (piv 0) Zg))))))) λS Q ex=>by
  refine kP λa b=>kD λd=>kN ?_
  rintro⟨⟨k,p,s⟩,rfl,h⟩;cases s<;>exact h
noncomputable def zbH  (A3:Dfz q98 Hs Mi)(Su:Fkz 5 q80 QU Lr)(UD:Fkz 1 q79 Rj Gj)(Lz:Fkz 1 XT Nn DJ):Fkz 6 q98 Mi DA:=
 mkF A3 IX (λhr=>(Zb (Zk (i:=5) IX.nd (piv 4)) (Zb (Zk (i:=6) IX.nd (ZD (dv 2) (dv 5))) (Zb (Zy (Vz (Bi YS YS (piv 6) (piv 4) (piv 6))) (Ze (Zj GQ)) ZE) (Ze (Zj (Zh Su hr (pdv 0 (pdv 1 (Za (Zh UD hr (pdv 2 (pdv 5 (Za (Zh Lz hr (pdv 6 (pv 4))) Zg)))) (pv 3))))))))))) λS Q ex=>by
  refine kR λa=>kT λw k=>kR λb=>kI λg=>kD λd=>kN ?_
  rintro⟨ns,ws,bs,zero,c,ha,hb,hw,hk,net,sb,hg,hl,rfl,hc,l4,h⟩;have ik:inR ((bs.length:Nat):Int) (c.k:Int):=⟨(),()⟩
  have sz:=sb.at ik;refine Zz (o:=.lst (bs.map frD)) hb (ZT ik) ?_;have no:¬ ((gt bs (c.k:Int)).1<c.p/\c.p<(gt bs (c.k:Int)).2)->Q (.bl false) S:=λn=>by
   have z:=h S Pre.refl
   have e:isS ns zero k.toNat g bs c=false:=by
    unfold isS;rw[show (decide ((gt bs (c.k:Int)).1<c.p)&&decide (c.p<(gt bs (c.k:Int)).2))=false by
     rw[<- Bool.not_eq_true,xT,decide_eq_true_eq,decide_eq_true_eq];exact n]
    rfl
   rw[e] at z;exact z
  refine ifD (λc1=>?_) (λc1=>no λz=>c1 z.1);refine ifN (λc2=>no λz=>c2 z.2) (λc2=>?_);have q:=EL (c:=c) c1 c2 sz.2.1 sz.2.2;refine⟨c,rfl,?_⟩;refine⟨bs,c.off (gt bs (c.k:Int)),hb,ik,l4,rfl,λT m pr lm hT=>?_⟩;rw[zL] at hT;have ln:(bs.set c.k (c.off (gt bs (c.k:Int)))).length=bs.length:=yD ..;refine⟨ns,ws,_,zero,pr _ _ ha,hT,hw,hk,by rw[ln];exact net,sb.set2 q.2,hg,hl,λT2 pr2=>?_⟩;have z:=h T2 (pr.trans pr2)
  have e:isS ns zero k.toNat g bs c=ibS ns zero k.toNat (bs.set c.k (c.off (gt bs (c.k:Int)))) g:=by
   unfold isS;rw[decide_eq_true c1,decide_eq_true c2];rfl
  rw[e] at z;exact z
noncomputable def zaa  (zfV:Dfz q97 L7 O9):Fkz 1 q97 O9 Cj:=
 mkF zfV ziB (λhr=>(Ze (Zj (X6 (Zs (ZI hr) (piv 1) Zd (Zp _)) (Zu (Za (piv 1) (Za (piv 0) Zg))) (Zu (Za (piv 0) (Za (piv 1) Zg))))))) λS Q ex=>by
  refine kP λa b=>kD λd=>kN ?_
  rintro⟨⟨k,p,s⟩,rfl,h⟩;cases s<;>exact h
noncomputable def AU  (zbF:Dfz XO KR NT)(IU:Fkz 6 q98 Mi DA)(HN:Fkz 1 q97 O9 Cj)(KO:Fkz 9 q96 MO FO)(Su:Fkz 5 q80 QU Lr):Fkz 10 XO NT Ce:=
 mkF zbF SX (λhr=>(Zb (Zy (Y4 (Zh Su hr (pdv 0 (pdv 1 (pdv 2 (pv 3)))))) (Ze (Zj (Zu (Za (Yo Zg) (Za ZR Zg))))) ZE) (Zb (Zk (i:=4) SX.nd (W3 (ZQ Vf) rfl Xp Boot.«list» (pv 2))) (Zb (Zk (i:=5) SX.nd (Zh KO hr (pdv 0 (pdv 1 (pdv 2 (pv 3)))))) (Zb (Zy (Zs YY (dv 5) ZR (Zp _)) (Ze (Zj (Zu (Za (Yo Zg) (pv 4))))) ZE) (Zb (Zk (i:=6) SX.nd (Yo Zg)) (Zb (QR (is:=[7,8]) PassesOwn.never rfl SX.nd (Nms.cons (i:=7) rfl (Or.inl rfl) (by first|exact .inl rfl|exact .inr rfl) (Nms.cons (i:=8) rfl (Or.inl rfl) (by first|exact .inl rfl|exact .inr rfl) Nms.nil)) rfl rfl XF Boot.«enumerate» (pv 5) (Ze (zaQ (i:=9) PassesOwn.never rfl SX.nd rfl (Or.inl rfl) (Zu (Za (Zu (pdv 7 (Za (Zf Yp (piv 8) Zd) (Za Zd Zg)))) (Za (Zu (pdv 7 (Za (Zf ZX (piv 8) Zd) (Za Zd Zg)))) Zg))) (Ze (Zy (Y4 (Zh IU hr (pdv 0 (pdv 1 (pdv 4 (pdv 3 (pv 9))))))) (Zb (Z7 (Ys (dv 6) (dv 9))) (Ze (UW (dv 4) (dv 7) (Zh HN hr (Za (ZD (dv 4) (dv 7)) (pv 9)))))) ZE))))) (Ze (Zj (Zu (pdv 6 (pv 4)))))))))))) λS Q ex=>by
  refine kR λa=>kT λw k=>kR λb=>kI λg=>kN ?_
  rintro⟨ns,ws,bs,zero,ha,hb,hw,hk,net,sb,hg,hl,l4,h⟩;obtain⟨kn,rfl⟩:∃kn:Nat,k=(kn:Int):=⟨k.toNat,by have:=hk.1;lia⟩;rw[zL] at h;refine⟨ns,ws,bs,zero,ha,hb,hw,hk,net,sb,hg,hl,λT pr=>?_⟩;rw[zL];have lST:=YI pr;cases hi:ibS ns zero kn bs g with
  | true=>exact h _ T.length .non [] none (FI λ_=>hi) (Xq pr _) lST (Zq _ _) (.inl ⟨rfl,rfl⟩)
  | false=>
   refine WH (ZM (pr _ _ hb) rfl) ?_;refine⟨ns,ws,bs,zero,Zt (pr _ _ ha),Zt (pr _ _ hb),hw,hk,net,sb,hg,hl,λT2 pr2=>?_,λr T2 m2 lr pr2 lm2 hr2=>?_⟩
   all_goals
    have hml:T2[T.length]?=some (.lst (bs.map frD)):=pr2 _ _ (Zq _ _)
    have lT2:=ZV hml
    have prS2:Pre S T2:=λn o e=>pr2 _ _ (Zt (pr _ _ e))
   .exact h _ T2.length (.ref T.length) [] (some bs) (FI λz=>nomatch z) (Xq prS2 _) () (Zq _ _) (.inr ⟨bs,T.length,rfl,rfl,Zt hml,lST⟩)
   .rw[zQ] at lm2;have lm2':T.length<m2:=lm2
    have l22:m2<T2.length:=ZV hr2;refine Rg (n:=m2) (xs:=r.map frD) (S1:=T2++[.lst []]) (λi dl' S'=>i<=r.length/\Pre S S'/\La S' m2 (r.map frD)/\∃q:List Ct×LI,RR ns zero kn g bs (2*i) q/\La S' T2.length (q.1.map Ct.d)/\La S' T.length (q.2.map frD)/\∃u7 u8 u9:Option D,dl'=[sR a,some (.tup [.str w,.int (kn:Int)]),sR b,sI g,sR T.length,sR m2,sR T2.length,u7,u8,u9]) kId (λi dl' S' z=>z.2.2.1) ⟨zN _,Xq prS2 _,Zt hr2,([],bs),⟨rfl,rfl,sb,λi c hc=>by simp at hc,λc hc=>(by simp at hc),λi j c d _ hc=>by simp at hc,zC _⟩,Zq _ _,Zt hml,_,_,_,rfl⟩ ?_ ?_
    .rintro i x dl' S' nx ct ex' ⟨hi',pr',hu',q,C,hc',hl',u7,u8,u9,rfl⟩ hn;rw[zF] at ex';obtain⟨p,hp,rfl⟩:=zG.mp ex';have hii:=(zA.mp hp).1;refine⟨λj dl2 S2=>j<=2/\Pre S S2/\La S2 m2 (r.map frD)/\∃q:List Ct×LI,RR ns zero kn g bs (2*i+j) q/\La S2 T2.length (q.1.map Ct.d)/\La S2 T.length (q.2.map frD)/\∃u9:Option D,dl2=[sR a,some (.tup [.str w,.int (kn:Int)]),sR b,sI g,sR T.length,sR m2,sR T2.length,sI (i:Int),some (frD p),u9],⟨⋯,pr',hu',q,C,hc',hl',_,rfl⟩,?_⟩;rintro j dl2 S2 ⟨hj,pr4,hu4,q,C,hc4,hl4,u9,rfl⟩;rcases j with _|_|j
     .skip
      refine⟨ns,ws,q.2,zero,(⟨i,p.1-1,false⟩:Ct),pr4 _ _ ha,hl4,hw,hk,by rw[C.len];exact net,C.spn,hg,hl,rfl,by rw[C.len];show i<_;lia,by rw[C.len];exact l4,λT5 pr5=>?_⟩;rw[zL];have iI:inR ((q.2.length:Nat):Int) (i:Int):=⟨(),by rw[C.len];lia⟩
      have pr6:Pre S T5:=λn o e=>pr5 _ _ (pr4 _ _ e)
      have C1:=C.step (c:=(⟨i,p.1-1,false⟩:Ct)) (by show i<_;lia) (by show 2*i+0=_;lia);unfold MD at C1;cases hs:isS ns zero kn g q.2 (⟨i,p.1-1,false⟩:Ct) with
      | false=>
       rw[hs,if_neg zI] at C1;exact⟨(),pr6,pr5 _ _ hu4,q,C1,pr5 _ _ hc4,pr5 _ _ hl4,_,rfl⟩
      | true=>
       rw[hs,if_pos rfl] at C1;refine YC (n:=T2.length) (S1:=T5) (xs:=q.1.map Ct.d) (y:=Ct.d (⟨i,p.1-1,false⟩:Ct)) kId (pr5 _ _ hc4) kId (by rw[zB];have:=C.few;lia) ?_;have z4:=Z4 (u:=.lst (q.1.map Ct.d++[Ct.d (⟨i,p.1-1,false⟩:Ct)])) (pr5 _ _ hl4) (show T2.length≠T.length by lia);refine V5 (n:=T.length) (k:=(i:Int)) (j:=i) (xs:=q.2.map frD) (v:=frD (Ct.back (⟨i,p.1-1,false⟩:Ct) (gt q.2 (i:Int)))) (λK hK=>Zz (o:=.lst (q.2.map frD)) z4 (ZT iI) ⟨(⟨i,p.1-1,false⟩:Ct),rfl,hK⟩) kId kId z4 (by rw[zB,TV iI];rfl) ?_;rw[RY];exact⟨(),YN (YN pr6 ()) (),Z4 (Z4 (pr5 _ _ hu4) ()) (),_,C1,by rw[yA];exact Z4 (Yd (pr5 _ _ hc4)) (),Yd z4,_,rfl⟩
     .skip
      refine⟨ns,ws,q.2,zero,(⟨i,p.2+1,true⟩:Ct),pr4 _ _ ha,hl4,hw,hk,by rw[C.len];exact net,C.spn,hg,hl,rfl,by rw[C.len];show i<_;lia,by rw[C.len];exact l4,λT5 pr5=>?_⟩;rw[zL];have iI:inR ((q.2.length:Nat):Int) (i:Int):=⟨(),by rw[C.len];lia⟩
      have pr6:Pre S T5:=λn o e=>pr5 _ _ (pr4 _ _ e)
      have C1:=C.step (c:=(⟨i,p.2+1,true⟩:Ct)) (by show i<_;lia) (by show 2*i+1=_;lia);unfold MD at C1;cases hs:isS ns zero kn g q.2 (⟨i,p.2+1,true⟩:Ct) with
      | false=>
       rw[hs,if_neg zI] at C1;exact⟨(),pr6,pr5 _ _ hu4,q,C1,pr5 _ _ hc4,pr5 _ _ hl4,_,rfl⟩
      | true=>
       rw[hs,if_pos rfl] at C1;refine YC (n:=T2.length) (S1:=T5) (xs:=q.1.map Ct.d) (y:=Ct.d (⟨i,p.2+1,true⟩:Ct)) kId (pr5 _ _ hc4) kId (by rw[zB];have:=C.few;lia) ?_;have z4:=Z4 (u:=.lst (q.1.map Ct.d++[Ct.d (⟨i,p.2+1,true⟩:Ct)])) (pr5 _ _ hl4) (show T2.length≠T.length by lia);refine V5 (n:=T.length) (k:=(i:Int)) (j:=i) (xs:=q.2.map frD) (v:=frD (Ct.back (⟨i,p.2+1,true⟩:Ct) (gt q.2 (i:Int)))) (λK hK=>Zz (o:=.lst (q.2.map frD)) z4 (ZT iI) ⟨(⟨i,p.2+1,true⟩:Ct),rfl,hK⟩) kId kId z4 (by rw[zB,TV iI];rfl) ?_;rw[RY];exact⟨(),YN (YN pr6 ()) (),Z4 (Z4 (pr5 _ _ hu4) ()) (),_,C1,by rw[yA];exact Z4 (Yd (pr5 _ _ hc4)) (),Yd z4,_,rfl⟩
     .have ej:j=0:=by lia
      subst ej;exact hn _ _ ⟨(),pr4,hu4,q,by rw[show 2*(i+1)=2*i+2 by lia];exact C,hc4,hl4,_,_,_,rfl⟩
    .rintro dl' S' ⟨hi',pr',hu',q,C,hc',hl',u7,u8,u9,rfl⟩;rw[zB] at C;exact h S' T2.length (.ref T.length) q.1 (some q.2) ⟨λz=>(nomatch z),by rw[<- lr];exact C.few,C.is⟩ pr' () hc' (.inr ⟨_,T.length,rfl,rfl,hl',()⟩)
noncomputable def zhg  (zgb:Dmz Zn.C XU QV G6 S6):Fmz 1 Zn.C XU S6 Px:=
 mkM zgb zbi (λhr=>(Ze (UW (ZO Zn.cl Zn.n_fates (dv 0)) (dv 1) (dv 2)))) λS Q ex=>by
  refine kR λn=>kI λi=>kD λd=>kN ?_
  rintro⟨a,b,j,es,fs,f,B,rfl,lj,o,h⟩;obtain⟨ds,k1,k2,_⟩:=B.ft;obtain⟨B2,cg⟩:=B.fate (i:=j) o k1;refine V5 (n:=b) (k:=(j:Int)) (j:=j) (xs:=ds) (v:=d) kId (λK hK=>by exact ZN (n:=n) kId B.ins rfl hK) kId k1 (TV (i:=(j:Int)) ⟨(),()⟩) ?_;exact h _ B2 cg
noncomputable def AR  (zc7:Dmz Zn.C WJ R7 HV MH):Fmz 1 Zn.C WJ MH FJ:=
 mkM zc7 zg2 (λhr=>(Zb (Z7 (Ys (ZO Zn.cl Zn.n_boxes (dv 0)) (dv 1))) (Zb (Z7 (Ys (ZO Zn.cl Zn.n_fates (dv 0)) ZR)) (Ze (Zj (Zf Yp (ZL (ZQ YZ) rfl Yv Boot.«len» (Za (ZO Zn.cl Zn.n_boxes (dv 0)) Zg)) Zd)))))) λS Q ex=>by
  refine kR λn=>kR λm=>kN ?_
  rintro⟨a,b,es,fs,e,B,o,l9,h⟩;obtain⟨bs,h1,h2,_⟩:=B.bx;obtain⟨ds,k1,k2,_⟩:=B.ft;have ll:=B.len;obtain⟨B2,cg⟩:=B.put o h1 k1;refine YC (n:=a) (S1:=S) (xs:=bs) (y:=.ref m) (λK hK=>by exact ZN (n:=n) kId B.ins rfl hK) h1 kId () ?_;have n1:=Z4 (u:=.lst (bs++[.ref m])) B.ins (Ne.symm B.na.1)
  have w1:=Z4 (u:=.lst (bs++[.ref m])) k1 B.ne;refine YC (n:=b) (S1:=S.set a (.lst (bs++[.ref m]))) (xs:=ds) (y:=.non) (λK hK=>by exact ZN (n:=n) kId n1 rfl hK) w1 kId () ?_;refine ZN (n:=n) kId B2.ins rfl ?_;refine Xn (Z4 (Yd h1) (Ne.symm B.ne)) ?_;have e1:(((bs++[D.ref m]).length:Nat):Int)-1=(es.length:Int):=by rw[zQ,h2];show ((es.length+1:Nat):Int)-1=_;lia
  have z:=h _ B2 cg;rw[<- e1] at z;exact z
noncomputable def zew  (ziI:Dmz Zn.C "part" QS KG QZ)(YR:Fmz 1 Zn.C XU S6 Px)(Uc:Fmz 1 Zn.C WJ MH FJ)(UD:Fkz 1 q79 Rj Gj):Fmz 2 Zn.C "part" QZ LF:=
 mkM ziI Rm (λhr=>(Zb (Zk (i:=4) Rm.nd (ZD (ZO Zn.cl Zn.n_boxes (dv 0)) (dv 1))) (Zb (Zk (i:=5) Rm.nd (ZD (dv 4) (dv 2))) (Zb (Zk (i:=6) Rm.nd (Wj (C:=Zn.C) (dv 0) Zn.cl Uc.m Uc.ok (rmn hr) Uc.b YD (Za (Zh UD hr (pdv 4 (pdv 2 (Za (Zu (Za (piv 5) (pv 3))) Zg)))) Zg))) (Zb (Zk (i:=7) Rm.nd (Wj (C:=Zn.C) (dv 0) Zn.cl Uc.m Uc.ok (rmn hr) Uc.b YD (Za (Zh UD hr (pdv 4 (pdv 2 (Za (Zu (pdv 3 (Za (piv 5) Zg))) Zg)))) Zg))) (Zb (Z7 (Wj (C:=Zn.C) (dv 0) Zn.cl YR.m YR.ok (rmn hr) YR.b YD (pdv 1 (Za (Zu (Za ZP (pdv 2 (pdv 3 (pdv 6 (pv 7)))))) Zg)))) (Ze (Zj (Zu (pdv 6 (pv 7))))))))))) λS Q ex=>by
  refine kR λn=>kI λi=>kI λkk=>kI λp=>kN ?_
  rintro⟨a,b,j,k,es,fs,e,s,B,rfl,rfl,he,hs,l4,l9,h⟩;obtain⟨bs,m,h1,h2,o⟩:=B.box he;have lj:=(zA.mp he).1
  have lk:=(zA.mp hs).1
  have lf:=B.len;refine ZN (n:=n) kId B.ins rfl ?_;refine Zz (o:=.lst bs) h1 (Z6 (j:=j) h2) ?_;have es':atI (e.map frD) (k:Int)=some (frD s):=Z6 (j:=k) (by rw[zF,hs];rfl);refine Zz (o:=.lst (e.map frD)) o.2.2 es' ?_;refine Xr (n:=n) kId B.ins rfl ?_;refine⟨e,(s.1,p),o.2.2,⟨(),()⟩,l4,rfl,λT1 m1 p1 l1 h1'=>?_⟩;rw[zL] at h1';have na:a<S.length:=ZV h1;obtain⟨ds,k1,_⟩:=B.ft;have nb:b<S.length:=ZV k1;refine⟨a,b,es,fs,_,B.pre p1,⟨(),(),h1'⟩,(),λT2 B2 cg2=>?_⟩;refine Xr (n:=n) kId B2.ins rfl ?_;have o2:=(o.cg (.pre p1)).cg cg2;refine⟨e,(p,s.2),o2.2.2,⟨(),()⟩,l4,rfl,λT3 m3 p3 l3 h3'=>?_⟩;rw[zL] at h3';have:=YI p1
  have:=cg2.1;refine⟨a,b,_,_,_,B2.pre p3,⟨(),(),h3'⟩,by rw[zQ];show es.length+1<990;lia,λT4 B4 cg4=>?_⟩;have e5:(((es++[e.set k (s.1,p)]).length:Nat):Int)=(es.length:Int)+1:=by rw[zQ];show ((es.length+1:Nat):Int)=_;lia
  rw[e5];refine Xr (n:=n) kId B4.ins rfl ?_;refine⟨a,b,j,_,_,.cut k p es.length (es.length+1),B4,rfl,by simp;lia,rfl,λT5 B5 cg5=>?_⟩;exact h T5 B5 ((((Cg.pre p1).trans cg2).trans (.pre p3)).trans (cg4.trans cg5))
noncomputable def zaM  (BK:Dfz XD LJ RP)(Yn:Fkz 4 q44 Ww VC):Fkz 5 XD RP Jn:=
 mkF BK Bv (λhr=>(Zb (Zk (i:=5) Bv.nd (Y2 (ZD (dv 1) (dv 2)) Zd)) (Ze (Zj (Zu (Za ZP (pdv 2 (Za (Zh Yn hr (Za (WG (dv 0) WY (WV (Zf ZX (dv 5) Zd))) (pdv 3 (pv 4)))) Zg)))))))) λS Q ex=>by
  refine kR λnd=>kR λrw=>kI λr=>kR λbx=>kI λg=>kN ?_
  rintro⟨k,u,ns,ws,rows,e,row,R,hb,lu,se,rfl,hr,h⟩;have hi:row.2<ns.length:=R.ri row (zE hr);refine Zz (o:=.lst (rows.map rwD)) R.rw (Z6 (j:=k) (v:=rwD row) (by show (rows.map rwD)[k]?=_;rw[zF,hr];rfl)) ?_;refine WA (n:=nd) (o:=.lst (ns.map Nd.d)) (lo:=none) (hi:=some ((row.2:Int)+1)) (S3:=S) kId kId kId R.nd ?_;have ec:Yb (ns.map Nd.d) none (some ((row.2:Int)+1))=(ns.take (row.2+1)).map Nd.d:=by
   rw[QN () (by rw[zB];lia),xJ];rfl
  rw[show Zm (Ob.lst (ns.map Nd.d))=ns.map Nd.d from rfl,ec];refine⟨ns.take (row.2+1),ws.take (row.2+1),e,Zq _ _,Zt hb,by rw[lu];exact R.net.take _,se,R.hg,by rw[zM];have:=R.l70;lia,λT m pr lm hf=>?_⟩;exact h T m (λx o z=>pr _ _ (Zt z)) (by rw[zQ] at lm;lia) hf
noncomputable def zeE  (zbq:Dfz X7 Ir Pp)(YR:Fmz 1 Zn.C XU S6 Px)(UM:Fkz 5 XD RP Jn)(WZ:Fmz 2 Zn.C "part" QZ LF)(JJ:Fkz 10 XO NT Ce):Fkz 11 X7 Pp CI:=
 mkF zbq Ur (λhr=>(Zb (QR (is:=[5,6]) PassesOwn.never rfl Ur.nd (Nms.cons (i:=5) rfl (Or.inl rfl) (by first|exact .inl rfl|exact .inr rfl) (Nms.cons (i:=6) rfl (Or.inl rfl) (by first|exact .inl rfl|exact .inr rfl) Nms.nil)) rfl rfl XF Boot.«enumerate» (pv 2) (Zb (Zk (i:=7) Ur.nd (Zh JJ hr (pdv 1 (pdv 6 (Za (ZD (ZO Zn.cl Zn.n_boxes (dv 0)) (dv 4)) (pv 3)))))) (Zb (Zy (Zs YY (piv 7) ZR (Zp _)) (Zb (Z7 (Wj (C:=Zn.C) (dv 0) Zn.cl YR.m YR.ok (rmn hr) YR.b YD (pdv 4 (Za (Zh UM hr (pdv 1 (pdv 2 (pdv 5 (Za (ZD (ZO Zn.cl Zn.n_boxes (dv 0)) (dv 4)) (pv 3)))))) Zg)))) (Ze (Zj (dv 4)))) ZE) (Ze (W9 (i:=8) PassesOwn.never rfl Ur.nd rfl (Or.inl rfl) (piv 7) (Zb (Zk (i:=9) Ur.nd (Wj (C:=Zn.C) (dv 0) Zn.cl WZ.m WZ.ok (rmn hr) WZ.b YD (pdv 4 (Za (piv 8) (Za (piv 8) Zg))))) (Zb (Zk (i:=10) Ur.nd (ZD (dv 9) (piv 8))) (Zb (Z7 (Wj (C:=Zn.C) (dv 0) Zn.cl YR.m YR.ok (rmn hr) YR.b YD (pdv 10 (Za (Zh UM hr (pdv 1 (pdv 2 (pdv 5 (Za (ZD (ZO Zn.cl Zn.n_boxes (dv 0)) (dv 10)) (pv 3)))))) Zg)))) (Ze (Zk (i:=4) Ur.nd (ZD (dv 9) (Zf Yp Zd (piv 8))))))))))))) (Ze (Zj (dv 4))))) λS Q ex=>by
  refine kR λn=>kR λnd=>kR λrw=>kI λg=>kI λi=>kN ?_
  rintro⟨a,b,j,u,ns,ws,rows,b0,e,es,fs,fine,B,R,A,K,sb,lb,rfl,hw,he,l9,h⟩;have r4:=R.rl
  have u4:=R.u1;refine Rg (n:=rw) (xs:=rows.map rwD) (S1:=S) (λk dl' S'=>k<=rows.length/\∃(es':List LI)(fs':List Ft)(j':Nat)(e':LI),Bk Zn.C S' n a b es' fs'/\Bks g fine ns rows b0 es' fs'/\Cg a b S S'/\es'.length<=es.length+16*k/\Shd es j es' j'/\fs'[j']?=some .wait/\es'[j']?=some e'/\∃x5 x6 x7 x8 x9 x10:Option D,dl'=[sR n,sR nd,sR rw,sI g,sI (j':Int),x5,x6,x7,x8,x9,x10]) kId (λk dl' S' z=>?_) ?_ ?_ ?_
  .obtain⟨_,es',fs',j',e',B',K',cg,_⟩:=z;exact(R.cg A cg).rw
  .exact⟨zN _,es,fs,j,e,B,K,.refl,(),⟨zC _,λ_=>⟨rfl,rfl⟩⟩,hw,he,_,_,_,_,_,_,rfl⟩
  .rintro k x dl' S' nx ct hx ⟨hk,es',fs',j',e',B',K',cg,l',sh,hw',he',x5,x6,x7,x8,x9,x10,rfl⟩ hn;rw[zF] at hx;obtain⟨row,hr,rfl⟩:=zG.mp hx;have hk':=(zA.mp hr).1
   have R':=R.cg A cg
   have hi:row.2<ns.length:=R.ri row (zE hr);obtain⟨ll',oks⟩:=K'.ok sb;obtain⟨le',se'⟩:=oks e' (zE he');have net':ZK ((e'.length:Nat):Int) ns ws:=by rw[le',lb];exact R.net
   obtain⟨bs,m,h1,h2,o⟩:=B'.box he';have lj':=(zA.mp he').1
   have la:a<S'.length:=ZV h1
   have lb':b<S'.length:=by
    obtain⟨_,z,_⟩:=B'.ft;exact ZV z
   refine ZN (n:=n) kId B'.ins rfl ?_;refine Zz (o:=.lst bs) h1 (Z6 (j:=j') h2) ?_;refine⟨ns,ws,e',row.1,R'.nd,o.2.2,rww row.1,⟨(),()⟩,net',se',R.hg,R.l70,(),λT mc fd cs o' sok p1 lmc hmc hfd=>?_⟩;rw[zL] at sok;obtain⟨i1,i2,i3⟩:=sok;have B1:=B'.pre p1
   have R1:=R'.pre p1
   have o1:=o.cg (.pre p1)
   have h11:=p1 _ _ h1;rcases hfd with ⟨rfl,hN⟩|⟨left,mf,rfl,hS,hmf,lmf⟩
   .refine Xr (n:=n) kId B1.ins rfl ?_;refine ZN (n:=n) kId B1.ins rfl ?_;refine Zz (o:=.lst bs) h11 (Z6 (j:=j') h2) ?_;refine⟨k,u,ns,ws,rows,e',row,R1,o1.2.2,(),se',rfl,hr,λT2 m2 p2 l2 h2'=>?_⟩;have:=YI p1;refine⟨a,b,j',es',fs',.out k (ZA e' g (ns.take (row.2+1))),B1.pre p2,rfl,(),⟨m2,rfl,(),(),h2'⟩,λT3 B3 cg3=>?_⟩;exact h T3 es' _ j' B3 (K'.put hw' he' ⟨row,hr,rfl,i1 hN⟩) (cg.trans ((Cg.pre p1).trans ((Cg.pre p2).trans cg3))) () sh lj'
   .refine Ve (n:=mc) (o:=.lst (cs.map Ct.d)) (λq dl2 S2=>∃(es2:List LI)(fs2:List Ft)(j2:Nat),Bk Zn.C S2 n a b es2 fs2/\Bks g fine ns rows b0 es2 fs2/\Cg a b T S2/\es2.length=es'.length+2*q/\(q=0->es2=es'/\j2=j')/\fs2[j2]?=some .wait/\es2[j2]?=some (ctA e' (cs.take q))/\q<=cs.length/\∃x8 x9 x10:Option D,dl2=[sR n,sR nd,sR rw,sI g,sI (j2:Int),sI (k:Int),some (rwD row),some (.tup [.ref mc,.ref mf]),x8,x9,x10]) ?_ (λq dl2 S2 z=>?_) ?_ ?_
    .exact⟨es',fs',j',B1,K',.refl,(),λ_=>⟨rfl,rfl⟩,hw',he',zN _,_,_,_,rfl⟩
    .obtain⟨es2,fs2,j2,_,_,cg2,_⟩:=z;exact cg2.2 _ _ () () hmc
    .rintro q x dl2 S2 nx2 ct2 hx2 ⟨es2,fs2,j2,B2,K2,cg2,l2,s2,hw2,he2,q2,x8,x9,x10,rfl⟩ hn2;have hx3:(cs.map Ct.d)[q]?=some x:=hx2;rw[zF] at hx3;obtain⟨c,hc,hcx⟩:=zG.mp hx3;obtain⟨s',hs',hx4⟩:∃s':Int,(c.s=true/\s'=1\/c.s=false/\s'=0)/\x=.tup [.int (c.k:Int),.int c.p,.int s']:=⟨if c.s then 1 else 0,by cases c.s<;>simp,hcx.symm⟩;subst hx4;have lq:=(zA.mp hc).1;obtain⟨isc,lc⟩:=i3 q c hc;have lA:=zco e' (cs.take q)
     have oks2:=(K2.ok sb).1;obtain⟨y1,y2,y3,y4,y5,y6⟩:=K2.shave oks2 hw2 he2 (by rw[lA];exact lc) isc hr;refine Xr (n:=n) kId B2.ins rfl ?_;refine⟨a,b,j2,c.k,es2,fs2,_,_,B2,rfl,rfl,he2,y1,by rw[lA];lia,(),λT3 B3 cg3=>?_⟩;have R3:=R1.cg A (cg2.trans cg3);generalize hth:es2.length+(if c.s then 1 else 0)=th at y2 y3 y4 y5 y6;generalize hnj:es2.length+(if c.s then 0 else 1)=nj at y5 y6;have et:(s'=0/\(th:Int)=es2.length\/s'=1/\(th:Int)=(es2.length:Int)+1)/\(1-s'=0/\(nj:Int)=es2.length\/1-s'=1/\(nj:Int)=(es2.length:Int)+1):=by
      rcases hs' with ⟨ec,rfl⟩|⟨ec,rfl⟩<;>simp only[ec,if_true,vI,if_false] at hth hnj<;>lia
     refine ixT2 et.1 ?_;obtain⟨l3,oks3⟩:=y4.ok sb;obtain⟨bs3,m3,h13,h23,o3⟩:=B3.box y2;obtain⟨lt3,st3⟩:=oks3 _ (zE y2);have lth:=(zA.mp y3).1
     have la3:a<T3.length:=ZV h13
     have lb3:b<T3.length:=by
      obtain⟨_,z,_⟩:=B3.ft;exact ZV z
     refine Xr (n:=n) kId B3.ins rfl ?_;refine ZN (n:=n) kId B3.ins rfl ?_;refine Zz (o:=.lst bs3) h13 (Z6 (j:=th) h23) ?_;refine⟨k,u,ns,ws,rows,_,row,R3,o3.2.2,(),st3,rfl,hr,λT4 m4 p4 l4 h4=>?_⟩;have:=YI p4;refine⟨a,b,th,_,_,.out k (ZA _ g (ns.take (row.2+1))),B3.pre p4,rfl,lth,⟨m4,rfl,(),(),h4⟩,λT5 B5 cg5=>?_⟩;refine ixT2 et.2 ?_;refine hn2 _ _ ⟨_,_,nj,B5,y4,cg2.trans (cg3.trans ((Cg.pre p4).trans cg5)),by simp;lia,λz=>absurd z (),y6,?_,(),_,_,_,rfl⟩;rw[zdi hc];exact y5
    .rintro dl2 S2 ⟨es2,fs2,j2,B2,K2,cg2,l2,s2,hw2,he2,q2,x8,x9,x10,rfl⟩;refine hn _ _ ⟨(),es2,fs2,j2,_,B2,K2,cg.trans ((Cg.pre p1).trans cg2),?_,?_,hw2,he2,_,_,_,_,_,_,rfl⟩
     .rw[show (Zm (.lst (cs.map Ct.d))).length=cs.length from zB ..] at l2;lia
     .refine⟨by have:=sh.1;lia,λz=>?_⟩;have q0:(Zm (.lst (cs.map Ct.d))).length=0:=by have:=sh.1;lia
      obtain⟨rfl,rfl⟩:=s2 q0;exact sh.2 z
  .rintro dl' S' ⟨hk,es',fs',j',e',B',K',cg,l',sh,hw',he',x5,x6,x7,x8,x9,x10,rfl⟩;rw[zB] at l';exact h S' es' fs' j' B' K' cg () sh (zA.mp he').1
noncomputable def zgH  (zf5:Dfz "sure" JA QT):Fkz 1 "sure" QT JX:=
 mkF zf5 zgB (λhr=>(Zb (Zy (Zs (ZI hr) (dv 0) ZP (Zp _)) (Ze (Zj (Qq (Xz (ZI hr) (piv 1) Zd (Zp _)) (Ti (Xz (ZI hr) (piv 1) Zd (Zp _)))))) ZE) (Ze (Zj (Xz Ly (piv 1) Zd (Zp _)))))) λS Q ex=>by
  refine kS λ_=>kP λ_ _=>kN λh=>?_
  rcases h with ⟨rfl,h⟩|⟨rfl,h⟩
  .refine ifD (λc=>?_) (λc=>?_)
   .rw[decide_eq_true c,xZ] at h;exact h
   .rw[decide_eq_false c,xB] at h;exact h
  .exact h
noncomputable def zgU  (zaV:Dfz q51 Pu OZ)(Tp:Fkz 1 "sure" QT JX)(Rb:Fkz 1 "bars" Rq Hh)(UM:Fkz 5 XD RP Jn):Fkz 6 q51 OZ BG:=
 mkF zaV Eb (λhr=>(Zb (QR (is:=[5,6]) PassesOwn.never rfl Eb.nd (Nms.cons (i:=5) rfl (Or.inl rfl) (by first|exact .inl rfl|exact .inr rfl) (Nms.cons (i:=6) rfl (Or.inl rfl) (by first|exact .inl rfl|exact .inr rfl) Nms.nil)) rfl rfl XF Boot.«enumerate» (pv 1) (Ze (Zy (Y4 (Zh Rb hr (Za (piv 6) (Za (ZD (dv 4) (piv 6)) Zg)))) (Ze (Zj (Zh UM hr (pdv 0 (pdv 1 (pdv 5 (pdv 2 (pv 3)))))))) ZE))) (Zb (Zy (Y4 (ZL (ZQ (Qc rfl)) rfl VL Boot.«all» (Za (X1 (x:="row") (N:=["spans"]) (caps:=[4]) (ar:=Zi Pu) rfl rfl csc rfl ⋯ (dv 1) pt0 (λ_ _ _ _ _ _=>(Zh Tp hr (Za (piv 0) (Za (ZD (dv 1) (piv 0)) Zg))))) Zg))) (Ze (Zj (Zu (Za ZP (pv 4))))) ZE) (Ze (Zj ZR))))) λS Q ex=>by
  refine kR λnd=>kR λrw=>kR λbx=>kI λg=>kR λsp=>kN ?_
  rintro⟨u,ns,ws,rows,e,R,hb,lu,se,hs,ho,hf,hn⟩;have r4:=R.rl;refine Rg (n:=rw) (xs:=rows.map rwD) (S1:=S) (λk dl' S'=>S=S'/\k<=rows.length/\(∀(i:Nat)(row:Bool×Nat),i<k->rows[i]?=some row->ibS ns row.1 row.2 e g=false)/\∃x5 x6:Option D,dl'=[sR nd,sR rw,sR bx,sI g,sR sp,x5,x6]) kId (λk dl' S' z=>z.1 ▸ R.rw) ⟨rfl,zN _,λi row hi=>absurd hi (),_,_,rfl⟩ ?_ ?_
  .rintro k x dl' S' nx ct hx ⟨rfl,hk,hno,x5,x6,rfl⟩ hn2;rw[zF] at hx;obtain⟨row,hr,rfl⟩:=zG.mp hx;have hi:row.2<ns.length:=R.ri row (zE hr)
   have lk:=(zA.mp hr).1;refine Zz (o:=.lst ((ZA e g ns).map frD)) hs (ZT (vs:=ZA e g ns) (i:=(row.2:Int)) ⟨(),by rw[Xi];lia⟩) ?_;have eb:ibS ns row.1 row.2 e g=brS row.1 (gt (ZA e g ns) (row.2:Int)):=by unfold ibS;rw[zem hi]
   have key:∀b:Bool,ibS ns row.1 row.2 e g=b->if b=true then (∃(k' u:Nat)(ns:List Nd)(ws:List Nat)(rows:List (Bool×Nat))(e:LI)(row:Bool×Nat),Sr S nd rw g ns ws rows u/\La S bx (e.map frD)/\e.length=u/\Spn 51 e/\(k:Int)=(k':Int)/\rows[k']?=some row/\∀(T:Sto)(m:Nat),Pre S T->S.length<=m->La T m ((ZA e g (ns.take (row.2+1))).map frD)->Q (.tup [.str "out",.int (k:Int),.ref m]) T) else nx [sR nd,sR rw,sR bx,sI g,sR sp,sI (k:Int),some (rwD row)] S:=λb hb'=>by
    cases b with
    | true=>
     rw[if_pos rfl];exact⟨k,u,ns,ws,rows,e,row,R,hb,lu,se,rfl,hr,λT m p l hm=>ho T k m row p l hr hb' hm⟩
    | false=>
     rw[if_neg zI];refine hn2 _ _ ⟨rfl,(),λi row' hi' hr'=>?_,_,_,rfl⟩;by_cases c:i=k
     .subst c;rw[hr] at hr';cases hr';exact hb'
     .exact hno i row' () hr'
   rcases row with ⟨_|_,rn⟩
   .exact .inr ⟨rfl,key _ eb⟩
   .exact .inl ⟨rfl,key _ eb⟩
  .rintro dl' S' ⟨rfl,hk,hno,x5,x6,rfl⟩;rw[zB] at hno;have nb:∀row∈rows,ibS ns row.1 row.2 e g=false:=λrow hr=>by
    obtain⟨i,hi⟩:=xM.mp hr;exact hno i row (zA.mp hi).1 hi
   refine Wm (n:=rw) (S1:=S) (o:=.lst (rows.map rwD)) (λd=>match d with|.tup [.str w,.int at']=>.bl (suB (decide (w="zero")) (gt (ZA e g ns) at'))|_=>.non) kId R.rw (by show (rows.map rwD).length<=1000;rw[zB];lia) (λx hx S2 K pr hK=>?_) ?_
   .have hx':x∈rows.map rwD:=hx;obtain⟨⟨b,n⟩,hm,rfl⟩:=zP.mp hx';refine Zz (o:=.lst ((ZA e g ns).map frD)) (pr _ _ hs) (ZT (vs:=ZA e g ns) (i:=(n:Int)) ⟨(),by rw[Xi];have:=R.ri _ hm;dsimp only at this;lia⟩) ?_;cases b
    .exact .inr ⟨rfl,hK⟩
    .exact .inl ⟨rfl,hK⟩
   .refine Qd (n:=S.length) (o:=.lst _) (Zq _ _) (DM ns e g rows) ?_;rw[zap];cases es:suS ns rows e g with
    | true=>exact YO (hf nb es _ Pre.refl.push)
    | false=>exact YF (hn nb es _ Pre.refl.push)
noncomputable def zh5  (zgc:Dfz q34 M6 MJ):Fkz 1 q34 MJ C2:=
 mkF zgc zhe (λhr=>(Ze (Zj (X1 (x:="row") (N:=[]) (caps:=[]) (ar:=Zi M6) rfl rfl csc rfl ⋯ (dv 0) (λ_ _ _ _ _ _=>Nw (Zs (ZI hr) (piv 0) ZP (Zp _))) (λ_ _ _ _ _ _=>(piv 0)))))) λS Q ex=>by
  refine kR λr=>kN ?_
  rintro⟨rows,hr,l9,h⟩;refine Gp (n:=r) (S1:=S) (o:=.lst (rows.map rwD)) (λd=>match d with|.tup [.str w,.int at']=>if w="zero" then some (.int at') else none|_=>none) kId hr (by show (rows.map rwD).length<=1000;rw[zB];lia) (λx hx S2 K pr hK=>?_) (λx hx y hy S2 K pr hK=>?_) ?_
  .have hx':x∈rows.map rwD:=hx;obtain⟨⟨b,n⟩,_,rfl⟩:=zP.mp hx';cases b
   .exact hK
   .exact hK
  .have hx':x∈rows.map rwD:=hx;obtain⟨⟨b,n⟩,_,rfl⟩:=zP.mp hx';cases b
   .exact absurd hy (by
     simp[rwD];intro z;exact absurd z ⋯)
   .cases hy;exact hK
  .have e:(Zm (.lst (rows.map rwD))).filterMap (λd=>match d with|.tup [.str w,.int at']=>if w="zero" then some (.int at') else none|_=>none)=(eqs rows).map wtD:=by
    show (rows.map rwD).filterMap _=_;unfold eqs;rw[List.filterMap_map,List.map_filterMap];congr 1;funext ⟨b,n⟩;cases b<;>rfl
   rw[e];exact h
noncomputable def zhQ  (zc5:Dfz XA MY Qp):Fkz 1 XA Qp LV:=
 mkF zc5 zaS (λhr=>(Ze (Zj (X1 (x:="place") (N:=["each"]) (caps:=[0]) (ar:=Zi MY) rfl rfl csc rfl ⋯ (dv 1) pt0 (λ_ _ _ _ _ _=>(ZD (dv 1) (dv 0))))))) λS Q ex=>by
  refine kR λe=>kR λp=>kN ?_
  rintro⟨xs,is,he,hp,l9,hi,h⟩;refine Wm (n:=p) (S1:=S) (o:=.lst (is.map wtD)) (λd=>match d with|.int i=>xs.getD i.toNat .non|_=>.non) kId hp (by show (is.map wtD).length<=1000;rw[zB];lia) (λx hx S2 K pr hK=>?_) ?_
  .have hx':x∈is.map wtD:=hx;obtain⟨i,him,rfl⟩:=zP.mp hx';have hl:=hi i him;refine Zz (o:=.lst xs) (pr _ _ he) (Z6 (j:=i) (v:=xs.getD i .non) (by show xs[i]?=_;rw[zD hl];simp[hl])) ?_;exact hK
  .have e2:(Zm (.lst (is.map wtD))).map (λd=>match d with|.int i=>xs.getD i.toNat .non|_=>.non)=is.map λi=>xs.getD i .non:=by
    show (is.map wtD).map _=_;rw[zY];rfl
   rw[e2];exact h
noncomputable def zeW  (zeC:Dmz ZU.C q15 QP Ib Lg):Fmz 1 ZU.C q15 Lg Kg:=
 mkM zeC BU (λhr=>(Ze (Zj (Zf zch (Yo (Za (Zu (Za Zd (Za Zd Zg))) Zg)) (dv 3))))) λS Q ex=>by
  refine kR λn=>kR λw=>kR λs=>kI λqi=>kI λg=>kN ?_
  rintro⟨x,y,q,vs,sl,ds,hn,hw,hs,rows,sz,⟨rfl,hq⟩,ok,lv,s1,hg,h⟩;have sg:Sz 21 g:=Sz.of 1000000 ()
  have aY:∀ys:List D,ys=(Xa vs sl g q (Nd.number x y)).map frD->Q (.ref (S++[Ob.lst [frD (0,0)]]).length) ((S++[.lst [frD (0,0)]])++[.lst ys]):=λys e=>by
   subst e;exact h _ _ Pre.refl.push.push (by simp) (Zq _ _)
  refine zhv (n:=S.length) (k:=((q:Nat):Int)) (xs:=[frD (0,0)]) (Zq _ _) ⟨(),()⟩ (by simp;lia) ?_;refine aY _ ?_;rw[zL,zb4];unfold Xa;rw[zY];rfl
noncomputable def zbp  (zdI:Dmz ZY.C q15 Rz Nl OJ):Fmz 1 ZY.C q15 OJ Ht:=
 mkM zdI zhy (λhr=>(Ze (Zj (J8 (x:="k") (N:=["grid","self"]) (caps:=[4,0]) (ar:=Zi Nl) rfl rfl csc rfl ⋯ rfl YQ (pv 3) pt0 (λ_ _ _ _ _ _=>(X6 (Zs (ZI hr) (dv 0) (ZO ZY.cl ZY.n_place (dv 2)) (Zp _)) (Zu (pdv 1 (pv 1))) (Zu (Za Zd (Za Zd Zg))))))))) λS Q ex=>by
  refine kR λn=>kR λw=>kR λs=>kI λqi=>kI λg=>kN ?_
  rintro⟨k,q,vs,sl,ds,hn,hw,hs,rows,sz,⟨rfl,hq⟩,ok,lv,s1,hg,h⟩;have sg:Sz 21 g:=Sz.of 1000000 ()
  have aY:∀ys:List D,ys=(Xa vs sl g q (Nd.unknown k)).map frD->Q (.ref S.length) (S++[.lst ys]):=λys e=>by
   subst e;exact h _ _ Pre.refl.push (by simp) (Zq _ _)
  refine Kc (j:=((q:Nat):Int)) (S1:=S) (λl=>frD (if (l:Int)=k then (g,g) else (0,0))) kId ⟨(),()⟩ (λl hl S2 K pr hK=>?_) ?_
  .refine ZN (n:=n) kId (pr _ _ hn) rfl ?_;refine ifD (λe=>?_) (λe=>?_)
   .rw[if_pos e] at hK;exact hK
   .rw[if_neg e] at hK;exact hK
  .refine aY _ ?_;rw[zL];unfold Xa;rw[zY];rfl
noncomputable def zbu  (zbS:Dmz Z2.C q6 RL Jb Lb)(YM:Fkz 1 q43 VB Ui):Fmz 2 Z2.C q6 Lb zfD:=
 mkM zbS zaF (λhr=>(Ze (Zj (Zh YM hr (pdv 3 (pv 4)))))) λS Q ex=>by
  refine kR λ_=>kD λ_=>kD λ_=>kP λ_ _=>kP λ_ _=>kI λ_=>kN λh=>?_
  exact h
def L9 {C:Addr}{c:Int->Int->Nd}{k:Nat}{sd:Sd}(f:Int×Int->Int×Int->Int×Int->Int×Int->Int->Int×Int)(p:Pr C c)(hl:∀vs sl g l i j,(c i j).sl vs sl g l=f (gt vs i) (gt vs j) (gs sl i l) (gs sl j l) g)(hs:∀(n:Nat)(x y p r:Int×Int)(g:Int)(S:Sto)(Q:DK) ex,(Sz 1400 x.1/\Sz 1400 x.2/\Sz 1400 y.1/\Sz 1400 y.2/\Sz 1400 p.1/\Sz 1400 p.2/\Sz 1400 r.1/\Sz 1400 r.2/\1<=g/\g<=1000000)->Q (frD (f x y p r g)) S->sd [.ref n,frD x,frD y,frD p,frD r,.int g] S Q ex)(d:Dmz C q15 Uo PM Pc)(G_1:Fmz k C q6 Lb sd):Fmz (k+1) C q15 Pc (PL c):=
 mkM d GC (λhr=>(Zb (U5 (i:=5) GC.nd rfl (Or.inr rfl) (ZD (dv 1) (ZO p.cl p.o (dv 0)))) (Zb (U5 (i:=6) GC.nd rfl (Or.inr rfl) (ZD (dv 1) (ZO p.cl p.t (dv 0)))) (Ze (Zj (Qj (x1:="a") (x2:="b") (N:=["x","y","grid","self"]) (caps:=[5,6,4,0]) (ar:=Zi PM) rfl rfl WK rfl rfl rfl ⋯ rfl Wn Boot.«zip» (Za (ZD (dv 2) (ZO p.cl p.o (dv 0))) (Za (ZD (dv 2) (ZO p.cl p.t (dv 0))) Zg)) (λ_ _ _ _ _ _=>(Wj (C:=C) (dv 5) p.cl G_1.m G_1.ok (hr.mono (zC _)) G_1.b YD (pdv 2 (pdv 3 (pdv 0 (pdv 1 (pv 4))))))))))))) λS Q ex=>by
  refine kR λn=>kR λw=>kR λs=>kI λqi=>kI λg=>kN ?_
  rintro⟨i,j,q,vs,sl,ds,hn,hw,h0,rows,sz,⟨rfl,hq⟩,ok,lv,s1,hg,h⟩;rw[p.b] at hn;rw[p.k] at ok;have aY:∀ys:List D,ys=(Xa vs sl g q (c i j)).map frD->Q (.ref S.length) (S++[.lst ys]):=λys e=>by
   subst e;exact h _ _ Pre.refl.push (by simp) (Zq _ _)
  refine ZN (n:=n) kId hn rfl ?_;refine Zz (o:=.lst (vs.map frD)) hw (ZT (i:=i) ⟨ok.1.1,by have:=ok.1.2;lia⟩) ?_;refine ZN (n:=n) kId hn rfl ?_;refine Zz (o:=.lst (vs.map frD)) hw (ZT (i:=j) ⟨ok.2.1,by have:=ok.2.2;lia⟩) ?_;obtain⟨a1,ea,_,ha⟩:=rows.at ok.1;obtain⟨a2,eb,_,hb⟩:=rows.at ok.2;obtain⟨la,za⟩:=sz i ok.1;obtain⟨lb,zb⟩:=sz j ok.2;have ci:=s1.at (i:=i) ⟨ok.1.1,by have:=ok.1.2;lia⟩
  have cj:=s1.at (i:=j) ⟨ok.2.1,by have:=ok.2.2;lia⟩;refine TL (n:=a1) (n':=a2) (S1:=S) (xs:=(sl.getD i.toNat []).map frD) (ys:=(sl.getD j.toNat []).map frD) (λx y=>match x,y with|.tup [.int a,.int b],.tup [.int c,.int d]=>frD (f (gt vs i) (gt vs j) (a,b) (c,d) g)|_,_=>.non) (λK hK=>by
   refine ZN (n:=n) kId hn rfl ?_;refine Zz (o:=.lst ds) h0 ea ?_;refine ZN (n:=n) kId hn rfl ?_;exact Zz (o:=.lst ds) h0 eb hK) ha hb (by rw[zB,la];lia) (λk x y hx hy S2 K pr hK=>?_) ?_
  .rw[zF] at hx hy;obtain⟨p2,hp,rfl⟩:=zG.mp hx;obtain⟨r,hr,rfl⟩:=zG.mp hy;have kq:k<q:=by
    have:=(zA.mp hp).1;lia
   have e1:gs sl i k=p2:=by
    unfold gs;rw[zZ,hp];rfl
   have e2:gs sl j k=r:=by
    unfold gs;rw[zZ,hr];rfl
   have z1:=za k kq
   have z2:=zb k kq;rw[e1] at z1;rw[e2] at z2;refine Xr (n:=n) (fs:=[("one",.int i),("other",.int j)]) kId (pr _ _ hn) rfl ?_;exact hs _ _ _ _ _ _ _ _ _ ⟨ci.2.1.mono ⋯,ci.2.2.mono ⋯,cj.2.1.mono ⋯,cj.2.2.mono ⋯,z1.2.1.mono ⋯,z1.2.2.mono ⋯,z2.2.1.mono ⋯,z2.2.2.mono ⋯,hg.1,hg.2⟩ hK
  .refine aY _ ?_;rw[uT];unfold Xa;rw[zY];rw[ziM _ _ _ la lb];exact vU λl _=>(congrArg frD (hl ..)).symm
noncomputable def zf1  (zcb:Dmz ZZ.C q6 Rr LU Fl)(Yr:Fkz 1 q27 Vc V0):Fmz 2 ZZ.C q6 Fl zgt:=
 mkM zcb zgq (λhr=>(Ze (Zj (Zh Yr hr (pdv 3 (pv 4)))))) λS Q ex=>by
  refine kR λ_=>kD λ_=>kD λ_=>kP λ_ _=>kP λ_ _=>kI λ_=>kN λh=>?_
  exact h
noncomputable def zgA  (zeB:Dmz Z1.C q6 RH Ku II)(YM:Fkz 1 q43 VB Ui)(XC:Fkz 2 q49 Um Q4):Fmz 3 Z1.C q6 II zgf:=
 mkM zeB zei (λhr=>(Ze (Zj (Zh YM hr (Za (Zh XC hr (pdv 1 (pdv 4 (pv 5)))) (Za (Zh XC hr (pdv 2 (pdv 3 (pv 5)))) Zg)))))) λS Q ex=>by
  refine kR λ_=>kP λx1 x2=>kP λy1 y2=>kP λa b=>kP λc d=>kI λg=>kN ?_
  rintro⟨⟨h1,h2,h3,h4,h5,h6,h7,h8,g1,g2⟩,h⟩;have sg:Sz 21 g:=Sz.of 1000000 ();refine⟨⟨⟨ZC h1 h7,ZC h1 h8,ZC h2 h7,ZC h2 h8⟩,sg.fd ()⟩,λmn mx hc=>?_⟩;obtain⟨rfl,rfl⟩:=hc.eq;refine⟨⟨⟨ZC h3 h5,ZC h3 h6,ZC h4 h5,ZC h4 h6⟩,sg.fd ()⟩,λmn mx hc=>?_⟩;obtain⟨rfl,rfl⟩:=hc.eq;exact h
noncomputable def BN  (zeN:Dfz q67 L8 PF):Fkz 1 q67 PF Dk:=
 mkF zeN zhM (λhr=>(Ze (Zj (Zu (Za (ZL (Vu rfl) rfl Xv Boot.«min» (Za (Zf ZF (piv 0) (dv 1)) (Za (Zf ZF (piv 0) (dv 1)) Zg))) (Za (ZL (WW rfl) rfl Y3 Boot.«max» (Za (Zf ZF (piv 0) (dv 1)) (Za (Zf ZF (piv 0) (dv 1)) Zg))) Zg)))))) λS Q ex=>by
  refine kP λ_ _=>kI λ_=>kN ?_
  rintro⟨⟨h1,h2⟩,h⟩;exact⟨h1,h2,h1,h2,h⟩
noncomputable def zes  (zi7:Dmz ZJ.C q15 QQ Nm Nb)(XC:Fkz 2 q49 Um Q4)(JT:Fkz 1 q67 PF Dk)(Ra:Fkz 2 q55 Qu Gq):Fmz 3 ZJ.C q15 Nb Ih:=
 mkM zi7 G8 (λhr=>(Zb (Zk (i:=5) G8.nd (Zh Ra hr (Za (ZD (dv 1) (ZO ZJ.cl ZJ.n_one (dv 0))) (Za (Zf Yp (ZO ZJ.cl ZJ.n_many (dv 0)) Zd) (pv 4))))) (Zb (U5 (i:=6) G8.nd rfl (Or.inr rfl) (Zh JT hr (pdv 5 (Za (ZO ZJ.cl ZJ.n_many (dv 0)) Zg)))) (Ze (Zj (X1 (x:="a") (N:=["steep","grid"]) (caps:=[6,4]) (ar:=Zi Nm) rfl rfl csc rfl ⋯ (ZD (dv 2) (ZO ZJ.cl ZJ.n_one (dv 0))) pt0 (λ_ _ _ _ _ _=>(Zh XC hr (pdv 1 (pdv 0 (pv 2))))))))))) λS Q ex=>by
  refine kR λn=>kR λw=>kR λs=>kI λqi=>kI λg=>kN ?_
  rintro⟨i,m,q,vs,sl,ds,hn,hw,hs,rows,sz,⟨rfl,hq⟩,ok,lv,s1,hg,h⟩;have sg:Sz 21 g:=Sz.of 1000000 ()
  have aY:∀ys:List D,ys=(Xa vs sl g q (Nd.power i m)).map frD->Q (.ref S.length) (S++[.lst ys]):=λys e=>by
   subst e;exact h _ _ Pre.refl.push (by simp) (Zq _ _)
  obtain⟨a1,ea,_,ha⟩:=rows.at ok.1;obtain⟨la,za⟩:=sz i ok.1;have ci:=s1.at (i:=i) ⟨ok.1.1,by have:=ok.1.2;lia⟩;obtain⟨ok1,m2,m6⟩:=ok;refine ZN (n:=n) kId hn rfl ?_;refine Zz (o:=.lst (vs.map frD)) hw (ZT (i:=i) ⟨ok1.1,by have:=ok1.2;lia⟩) ?_;refine ZN (n:=n) kId hn rfl ?_;refine⟨⟨(),(),ci.2.1.mono ⋯,ci.2.2.mono ⋯,hg.1,sg.mono ⋯⟩,λm' M' hP=>?_⟩;obtain⟨rfl,rfl⟩:=hP.eq ();have gp:(1:Int)<=g^((m-1).toNat-1):=yI ()
  have lo:=SH gp (Hz (gt vs i).1 (gt vs i).2 (m-1).toNat)
  have fl:=Am (gt vs i) (n:=m) () hg.1
  have p1:Sz 6000 ((gt vs i).1^(m-1).toNat):=(ci.2.1.pow _).mono ()
  have p2:Sz 6000 ((gt vs i).2^(m-1).toNat):=(ci.2.2.pow _).mono ()
  have pl:Sz 6000 (Y9 (gt vs i).1 (gt vs i).2 (m-1).toNat):=by
   unfold Y9;split
   .exact yF ⋯
   .exact Vj p1 p2
  have sm:Sz 10 m:=Sz.of 6 ();refine ZN (n:=n) kId hn rfl ?_;refine⟨⟨ZC (pl.div gp) sm,ZC (Us (WT p1 p2) gp) sm⟩,?_⟩;have e1:(if -(-WI (gt vs i).1 (gt vs i).2 (m-1).toNat/g^((m-1).toNat-1))*m<Y9 (gt vs i).1 (gt vs i).2 (m-1).toNat/g^((m-1).toNat-1)*m then -(-WI (gt vs i).1 (gt vs i).2 (m-1).toNat/g^((m-1).toNat-1))*m else Y9 (gt vs i).1 (gt vs i).2 (m-1).toNat/g^((m-1).toNat-1)*m)=(Y6 (gt vs i) m g).1:=by
   rw[if_neg (by have z:(Y6 (gt vs i) m g).1<=(Y6 (gt vs i) m g).2:=fl;exact Int.not_lt.mpr z)];rfl
  have e2:(if -(-WI (gt vs i).1 (gt vs i).2 (m-1).toNat/g^((m-1).toNat-1))*m > Y9 (gt vs i).1 (gt vs i).2 (m-1).toNat/g^((m-1).toNat-1)*m then -(-WI (gt vs i).1 (gt vs i).2 (m-1).toNat/g^((m-1).toNat-1))*m else Y9 (gt vs i).1 (gt vs i).2 (m-1).toNat/g^((m-1).toNat-1)*m)=(Y6 (gt vs i) m g).2:=by
   split
   .rfl
   .rename_i c;have z:¬ (Y6 (gt vs i) m g).1<(Y6 (gt vs i) m g).2:=c
    have z2:(Y6 (gt vs i) m g).1=(Y6 (gt vs i) m g).2:=by lia
    exact z2
  rw[e1,e2];have f1:Sz 6010 (Y6 (gt vs i) m g).1:=Nf (e:=10) (pl.div gp) () ()
  have f2:Sz 6010 (Y6 (gt vs i) m g).2:=Nf (e:=10) (Us (WT p1 p2) gp) () ();generalize hfc:Y6 (gt vs i) m g=fc at f1 f2;refine Wm (n:=a1) (S1:=S) (o:=.lst ((sl.getD i.toNat []).map frD)) (λx=>match x with|.tup [.int a,.int b]=>frD (Yj fc (a,b) g)|_=>.non) (λK hK=>by
   refine ZN (n:=n) kId hn rfl ?_;exact Zz (o:=.lst ds) hs ea hK) ha (by show ((sl.getD i.toNat []).map frD).length<=1000;rw[zB,la];lia) (λx hx S2 K pr hK=>?_) ?_
  .have hx':x∈(sl.getD i.toNat []).map frD:=hx;obtain⟨p,hp,rfl⟩:=zP.mp hx';obtain⟨k,hk,ek⟩:=yO.mp hp;have z1:=za k ()
   have e1:gs sl i k=p:=by
    unfold gs;rw[zZ,zD hk,ek];rfl
   rw[e1] at z1;refine⟨⟨⟨ZC f1 z1.2.1,ZC f1 z1.2.2,ZC f2 z1.2.1,ZC f2 z1.2.2⟩,sg.fd ()⟩,λmn mx hc=>?_⟩;obtain⟨rfl,rfl⟩:=hc.eq;exact hK
  .refine aY _ ?_;show ((sl.getD i.toNat []).map frD).map _=_;rw[zY,zjc _ _ la];unfold Xa;rw[zY];subst hfc;rfl
noncomputable def zbU  (zbf:Dfz XJ G2 RG)(Hr:Fmz 3 ZJ.C q15 Nb Ih)(Jz:Fmz 4 Z1.C q15 zgi FZ)(Jj:Fmz 3 ZZ.C q15 zbN Eo)(L4:Fmz 3 Z2.C q15 Pc DB)(Hv:Fmz 1 ZY.C q15 OJ Ht)(IG:Fmz 1 ZU.C q15 Lg Kg)(Vt:Fkz 3 q92 TF Pd)(Yn:Fkz 4 q44 Ww VC):Fkz 5 XJ RG HD:=
 mkF zbf Ou (λhr=>(Zb (Zk (i:=3) Ou.nd (Zh Yn hr (pdv 0 (pdv 1 (pv 2))))) (Zb (Zk (i:=4) Ou.nd (Yo Zg)) (Zb (W9 (i:=5) PassesOwn.never rfl Ou.nd rfl (Or.inl rfl) (dv 0) (Ze (Z7 (Ys (dv 4) (KJ (Zh Vt hr (pv 5)) (YL ZU.cl IG (rmn hr) (YL ZY.cl Hv (rmn hr) (YL Z2.cl L4 (rmn hr) (YL ZZ.cl Jj (rmn hr) (YL Z1.cl Jz (rmn hr) (YL ZJ.cl Hr (rmn hr) Ia)))))) YD (pdv 3 (pdv 4 (Za (ZL (ZQ YZ) rfl Yv Boot.«len» (pv 1)) (pv 2))))))))) (Ze (Zj (dv 4))))))) λS Q ex=>by
  refine kR λa=>kR λb=>kI λg=>kN ?_
  rintro⟨ns,ws,bs,ha,hb,net,sb,hq9,hg,hl,h⟩;have disp:∀v:Nd,∃C fs sd,v.oz=.ins C fs/\(C,sd)∈[(ZU.C,Kg),(ZY.C,Ht),(Z2.C,DB),(ZZ.C,Eo),(Z1.C,FZ),(ZJ.C,Ih)]/\fs.lookup ("slope":Str)=none/\∀(n w s:Nat)(q:Nat)(g:Int)(S:Sto)(Q:DK)(ex:Addr->Sto->Prop)(vs:LI)(sl:List LI)(ds:List D),S[n]?=some (v.oz)->La S w (vs.map frD)->La S s ds->Yt S 0 ds sl->(∀i:Int,inR sl.length i->(sl.getD i.toNat []).length=q/\∀l,l<q->(gs sl i l).1<=(gs sl i l).2/\Sz 1100 (gs sl i l).1/\Sz 1100 (gs sl i l).2)->q<=900->v.ok sl.length q->sl.length<=vs.length->Spn 1000 vs->(Gg g)->(∀(T:Sto)(m:Nat),Pre S T->S.length<=m->La T m ((Xa vs sl g q v).map frD)->Q (.ref m) T)->sd [.ref n,.ref w,.ref s,.int (q:Nat),.int g] S Q ex:=by
   intro v;cases v with
   | number x y=>exact⟨_,_,_,rfl,(.head _),rfl,λn w s q g S Q ex vs sl ds a1 a2 a3 a4 a5 a6 a7 a8 a9 b1 b2=>⟨x,y,q,vs,sl,ds,a1,a2,a3,a4,a5,⟨rfl,a6⟩,a7,a8,a9,b1,b2⟩⟩
   | unknown k=>exact⟨_,_,_,rfl,(.tail _ (.head _)),rfl,λn w s q g S Q ex vs sl ds a1 a2 a3 a4 a5 a6 a7 a8 a9 b1 b2=>⟨k,q,vs,sl,ds,a1,a2,a3,a4,a5,⟨rfl,a6⟩,a7,a8,a9,b1,b2⟩⟩
   | plus i j=>exact⟨_,_,_,rfl,(.tail _ (.tail _ (.head _))),rfl,λn w s q g S Q ex vs sl ds a1 a2 a3 a4 a5 a6 a7 a8 a9 b1 b2=>⟨i,j,q,vs,sl,ds,a1,a2,a3,a4,a5,⟨rfl,a6⟩,a7,a8,a9,b1,b2⟩⟩
   | minus i j=>exact⟨_,_,_,rfl,(.tail _ (.tail _ (.tail _ (.head _)))),rfl,λn w s q g S Q ex vs sl ds a1 a2 a3 a4 a5 a6 a7 a8 a9 b1 b2=>⟨i,j,q,vs,sl,ds,a1,a2,a3,a4,a5,⟨rfl,a6⟩,a7,a8,a9,b1,b2⟩⟩
   | times i j=>exact⟨_,_,_,rfl,(.tail _ (.tail _ (.tail _ (.tail _ (.head _))))),rfl,λn w s q g S Q ex vs sl ds a1 a2 a3 a4 a5 a6 a7 a8 a9 b1 b2=>⟨i,j,q,vs,sl,ds,a1,a2,a3,a4,a5,⟨rfl,a6⟩,a7,a8,a9,b1,b2⟩⟩
   | power i m=>exact⟨_,_,_,rfl,(.tail _ (.tail _ (.tail _ (.tail _ (.tail _ (.head _)))))),rfl,λn w s q g S Q ex vs sl ds a1 a2 a3 a4 a5 a6 a7 a8 a9 b1 b2=>⟨i,m,q,vs,sl,ds,a1,a2,a3,a4,a5,⟨rfl,a6⟩,a7,a8,a9,b1,b2⟩⟩
  refine⟨ns,ws,bs,ha,hb,net,sb,hg,hl,λT1 w pr1 lw hw=>?_⟩;have szw:=Cy net rfl sb hg
  have lf:(ZA bs g ns).length=ns.length:=Xi _ _ _
  have spn:Spn 1000 (ZA bs g ns):=szw.spn λk hk=>by
   have z:=(net.w1 (i:=(k:Int)) ⟨(),()⟩).2
   rwa [zL] at z
  refine Ve (n:=a) (o:=.lst (ns.map Nd.d)) (λk dl' S'=>k<=ns.length/\Pre T1 S'/\(∃ds:List D,La S' T1.length ds/\Yt S' (T1.length+1) ds (Yg (ZA bs g ns) g bs.length (ns.take k)))/\∃u:Option D,dl'=[sR a,sR b,sI g,sR w,sR T1.length,u]) ⟨zN _,Pre.refl.push,⟨[],Zq _ _,Yt.nil⟩,_,rfl⟩ (λk dl' S' z=>z.2.1 _ _ (pr1 _ _ ha)) ?_ ?_
  .rintro k x dl' S' nx ct ex' ⟨hk,pr,⟨ds,hf,rows⟩,u,rfl⟩ hn;have ex2:(ns.map Nd.d)[k]?=some x:=ex';rw[zF] at ex2;obtain⟨v,hv,rfl⟩:=zG.mp ex2;have hk':=(zA.mp hv).1
   have ln:(Yg (ZA bs g ns) g bs.length (ns.take k)).length=k:=by rw[Mj,zM];lia
   have okv:v.ok (Yg (ZA bs g ns) g bs.length (ns.take k)).length bs.length:=by rw[ln];exact(net.ok k v hv).1
   have slw:=Dw net szw lf hg k hk
   have ss:=slw.spn λi hi=>by
    have z:=(net.w1 (i:=(i:Int)) ⟨(),()⟩).2
    rwa [zL] at z
   obtain⟨C,fs,sd,eo,hm,hf2,go⟩:=disp v;have N1:=Zq S' (v.oz)
   have ld:ds.length=k:=by rw[rows.1,ln]
   have lt:=ZV hf;refine Bx (n:=T1.length) (xs:=ds) kId hf (λK hK=>?_) ();refine Fj (n:=S'.length) (C:=C) (sd:=sd) (fs:=fs) (S1:=S'++[v.oz]) (λK hK=>⟨v,rfl,by exact hK⟩) (by rw[<- eo];exact N1) hm hf2 ?_;refine Xn (Zt (pr _ _ (pr1 _ _ hb))) ?_;rw[zB];refine go _ _ _ bs.length _ _ _ _ (ZA bs g ns) (Yg (ZA bs g ns) g bs.length (ns.take k)) ds N1 (Zt (pr _ _ hw)) (Zt hf) ((rows.low (zN _)).pre (Xq Pre.refl _)) ss hq9 okv () spn hg λT m prT lm hT=>?_
   have hf3:=prT _ _ (Zt hf);refine hK _ _ hf3 ?_;have lS:(S'++[v.oz]).length=S'.length+1:=by simp
   have rows3:Yt T (T1.length+1) ds (Yg (ZA bs g ns) g bs.length (ns.take k)):=rows.pre λi o e=>prT _ _ (Zt e)
   refine hn _ _ ⟨(),YN (pr.trans λi o e=>prT _ _ (Zt e)) (zC _),⟨ds++[.ref m],Yd hf3,?_⟩,_,rfl⟩;rw[Xg hv,HH];have r4:=rows3.snoc (a:=m) (r:=Xa (ZA bs g ns) (Yg (ZA bs g ns) g bs.length (ns.take k)) g bs.length v) () hT;exact r4.keep λx o hx e=>Z4 e ()
  .rintro dl' S' ⟨hk,pr,⟨ds,hf,rows⟩,u,rfl⟩;have e:ns.take (Zm (.lst (ns.map Nd.d))).length=ns:=by
    show ns.take (ns.map Nd.d).length=ns;rw[zB,yJ]
   rw[e] at rows;refine h _ _ ds (pr1.trans pr) ?_ hf rows;exact YI pr1
noncomputable def AK  (zb8:Dfz q85 HU O7)(SV:Fkz 1 XA Qp LV)(TX:Fkz 5 XJ RG HD):Fkz 6 q85 O7 Cu:=
 mkF zb8 zat (λhr=>(Ze (Zj (Zh SV hr (Za (Zh TX hr (pdv 0 (pdv 2 (pv 3)))) (pv 1)))))) λS Q ex=>by
  refine kR λa=>kR λp=>kR λb=>kI λg=>kN ?_
  rintro⟨ns,ws,bs,is,ha,hb,net,sb,hg,l7,b9,hp,i9,hi,h⟩;refine⟨ns,ws,bs,ha,hb,net,sb,b9,hg,l7,λT m ds pr lm hm rows=>?_⟩;have ls:=Mj (ZA bs g ns) g bs.length ns
  have ld:ds.length=ns.length:=by rw[rows.1,ls]
  refine⟨ds,is,hm,pr _ _ hp,i9,λi him=>by rw[ld];exact hi i him,?_⟩;refine h _ _ (is.map λi=>ds.getD i .non) (λx o z=>Zt (pr _ _ z)) (Zq _ _) (zB ..) λd hd=>?_
  obtain⟨i,him,rfl⟩:=zP.mp hd;have hin:=hi i him
  have h1:ds[i]?=some (ds.getD i .non):=by rw[zD (show i<ds.length by lia)];simp[show i<ds.length by lia]
  have h2:(Yg (ZA bs g ns) g bs.length ns)[i]?=some ((Yg (ZA bs g ns) g bs.length ns).getD i []):=by rw[zD (show i<(Yg (ZA bs g ns) g bs.length ns).length by lia)];simp[show i<(Yg (ZA bs g ns) g bs.length ns).length by lia]
  obtain⟨q,eq,_,sq⟩:=rows.2 i _ _ h1 h2;exact⟨q,_,eq,zN _,Zt sq,_,rfl,zi6 net sb hg hi _ (zP.mpr ⟨i,him,rfl⟩)⟩
noncomputable def zgd  (ziC:Dfz Xy Iz Nh):Fkz 1 Xy Nh BB:=
 mkF ziC zfT (λhr=>(Ze (Zj (X6 (Zs (ZI hr) (Zf Z9 (dv 1) Zd) Zd (Zp _)) (Wf Wb (dv 0)) (dv 0))))) λS Q ex=>by
  refine kI λi=>kI λk=>kN ?_
  rintro⟨n,rfl,h⟩;refine ifD (λe=>?_) (λe=>?_)
  .have z:sgn i n=-i:=by unfold sgn;rw[if_pos ()]
   rw[z] at h;exact h
  .have z:sgn i n=i:=by unfold sgn;rw[if_neg ()]
   rw[z] at h;exact h
noncomputable def ziG  (zen:Dfz XI Li Pe):Fkz 1 XI Pe E4:=
 mkF zen EB (λhr=>(Zb (Zk (i:=3) EB.nd (Zf M8 (WG (dv 0) WY (WV (dv 1))) (WG (dv 0) (WV (Zf ZX (dv 1) Zd)) WY))) (Ze (Zj (X1 (x:="entries") (N:=["column"]) (caps:=[2]) (ar:=Zi Li) rfl rfl csc rfl ⋯ (dv 3) pt0 (λ_ _ _ _ _ _=>(Zf M8 (WG (dv 0) WY (WV (dv 1))) (WG (dv 0) (WV (Zf ZX (dv 1) Zd)) WY)))))))) λS Q ex=>by
  refine kR λm=>kI λr=>kI λc=>kN ?_
  rintro⟨ds,i,j,n,rfl,rfl,hm,lm,rows,hn,hi,hj,h⟩;refine WA (n:=m) (o:=.lst ds) (lo:=none) (hi:=some (i:Int)) kId kId kId hm ?_;refine WA (n:=m) (o:=.lst ds) (lo:=some ((i+1:Nat):Int)) (hi:=none) kId kId kId (Vl hm) ?_;dsimp only[Zm];rw[Di,DI];refine Pf (xs:=ds.take i) (ys:=ds.drop (i+1)) (Vl (Zq _ _)) (Zq _ _) (by simp;lia) ?_;have p0:Pre S (S++[.lst (ds.take i)]++[.lst (ds.drop (i+1))]++[.lst (ds.take i++ds.drop (i+1))]):=Pre.refl.push.push.push;refine F6 (n:=(S++[Ob.lst (ds.take i)]++[Ob.lst (ds.drop (i+1))]).length) (RI 1024 (n+1)) (RI 1024 n) kId (Zq _ _) (rows.cut.pre p0) (by simp;lia) (λa xs S2 K hx ha hK=>?_) (λS2 ys p2 e2 l2 r2=>?_)
  .have lr:xs.length<=n+1:=by obtain⟨r,rfl,l,_⟩:=hx;simp[l]
   show dOp (Y7 Qh) (U6 (Xh 0) K4 (JB (Xh 1))) (U6 (Xh 0) (JB (dOp wAdd (Xh 1) (dC (D.int 1)))) K4) [sR a,sI (j:Int)] S2 K;simp only[dOp];refine WA (n:=a) (o:=.lst xs) (lo:=none) (hi:=some (j:Int)) kId kId kId ha ?_;refine WA (n:=a) (o:=.lst xs) (lo:=some ((j+1:Nat):Int)) (hi:=none) kId kId kId (Vl ha) ?_;dsimp only[Zm];rw[Di,DI];refine Pf (xs:=xs.take j) (ys:=xs.drop (j+1)) (Vl (Zq _ _)) (Zq _ _) (by simp;lia) ?_;exact hK _ _ _ Pre.refl.push.push.push (by simp) (Zq _ _) (zhV hj hx)
  .exact h S2 _ ys (p0.trans p2) e2 (by rw[l2];simp;lia) r2
noncomputable def zfX (Vp:Dfz q33 UH VU)(VX:Fkz 0 q71 UX GU):Fkz 1 q33 VU zbr:=
 mkG Vp DQ (λhr=>(Zb (Zy (Zs (ZI hr) (ZL (ZQ YZ) rfl Yv Boot.«len» (pv 0)) Zd (Zp _)) (Ze (Zj Zd)) ZE) (Ze (Zj (ZL (ZQ (Ma rfl)) rfl V1 Boot.«sum» (Za (Ie (x1:="column") (x2:="entry") (N:=["matrix"]) (caps:=[0]) (ar:=Zi UH) rfl rfl WK rfl rfl rfl ⋯ rfl XF Boot.«enumerate» (Za (piv 0) Zg) pt0 (λ_ _ _ _ _ _=>(Zf ZF (dv 1) (Zh VX hr (pdv 2 (Za Zd (pv 0))))))) Zg)))))) λS Q ex=>by
  refine kR λm=>kN ?_
  rintro⟨ds,n,hn,hm,lm,rows,h⟩;refine Xn hm ?_;refine ifD (λe=>⟨Pre.refl,.int _,h 1 (uU ())⟩) (λe=>?_);exact absurd (show ((ds.length:Nat):Int)=0 by lia) e
def MC (k:Nat)(hk:k<=3)(Uz:Dfz q71 Ov UX)(Th:Fkz 1 Xy Nh BB)(RB:Fkz (2*k+1) q33 VU (Nu k))(Td:Fkz 1 XI Pe E4):Fkz (2*k+1+1) q71 UX (M0 k):=
 mkG Uz ze0 (λhr=>(Ze (Zj (Zh Th hr (Za (Zh RB hr (Za (Zh Td hr (pdv 0 (pdv 1 (pv 2))) ()) Zg) (zC _)) (Za (Zf ZX (dv 1) (dv 2)) Zg)) ())))) λS Q ex=>by
  refine kR λm=>kI λr=>kI λc=>kN ?_
  rintro⟨ds,i,j,n,hn,rfl,rfl,hi,hj,hm,lm,rows,h⟩;refine⟨ds,i,j,n,rfl,rfl,hm,lm,rows,(),hi,hj,λT k es pt e1 e2 e3=>?_⟩;exact⟨es,n,hn,e1,e2,e3,λx hx=>⟨i+j,(),pt,.int _,h _ (zje hx)⟩⟩
def NP (j:Nat)(hj:j<=3)(Vp:Dfz q33 UH VU)(VX:Fkz (2*j+1+1) q71 UX (M0 j)):Fkz (2*(j+1)+1) q33 VU (Nu (j+1)):=
 mkG Vp DQ (λhr=>(Zb (Zy (Zs (ZI hr) (ZL (ZQ YZ) rfl Yv Boot.«len» (pv 0)) Zd (Zp _)) (Ze (Zj Zd)) ZE) (Ze (Zj (ZL (ZQ (Ma rfl)) rfl V1 Boot.«sum» (Za (Ie (x1:="column") (x2:="entry") (N:=["matrix"]) (caps:=[0]) (ar:=Zi UH) rfl rfl WK rfl rfl rfl ⋯ rfl XF Boot.«enumerate» (Za (piv 0) Zg) pt0 (λ_ _ _ _ _ _=>(Zf ZF (dv 1) (Zh VX hr (pdv 2 (Za Zd (pv 0))) (zC _))))) Zg)))))) λS Q ex=>by
  refine kR λm=>kN ?_
  rintro⟨ds,n,hn,hm,lm,rows,h⟩;refine Xn hm ?_;refine ifD (λe=>⟨Pre.refl,.int _,h 1 (uU ())⟩) (λe=>?_);obtain⟨n,rfl⟩:∃k,n=k+1:=⟨n-1,()⟩;obtain⟨a,xs,hd,_,ha,r,rfl,lr,zr⟩:=rows _ (yW (show 0<ds.length by lia));have hd0:ds[0]?=some (.ref a):=by rw[<- hd];exact zD ()
  refine Dp (n:=a) (xs:=r.map D.int) (S1:=S) (λd=>∃x,d=.int x/\Sz (1040*n+1031) x) (λK hK=>?_) ha (by simp;lia) (λk x hx S2 K p2 hK=>?_) λys ly hy=>?_
  .show dOp wIx (Xh 0) (dC (D.int 0)) [sR m] S λx S1=>K [x] S1
   exact zgG hm hd0 hK
  .rw[zF] at hx;obtain⟨y,hy,rfl⟩:=zG.mp hx;have hk:=(zA.mp hy).1
   have sy:=zr y (zE hy)
   show M0 j [.ref m,.int 0,.int (k:Int)] S2 (λz S3=>wMul (.int y) z S3 K) (λ_ _=>False);exact⟨ds,0,k,n,(),rfl,rfl,zN _,(),p2 _ _ hm,lm,rows.pre p2,λz sz=>⟨ZC sy (sz.mono (show _<=6000 by lia)),hK _ ⟨_,rfl,(sy.mul sz).mono ()⟩⟩⟩
  .obtain⟨zs,rfl,bz⟩:=all_map hy;rw[zB,zB] at ly;refine IK (Zq _ _) (Ph zs) ⟨Pre.refl.push,.int _,h _ ((zg5 bz ()).mono ())⟩
noncomputable def zdo  (AH:Dfz q39 Jh OC)(VX:Fkz 8 q71 UX zbw):Fkz 9 q39 OC EY:=
 mkF AH zfL (λhr=>(Ze (Zj (Zf JH (Zf ZF (Zf ZF (Zh VX hr (pdv 0 (pdv 3 (pv 2)))) (dv 4)) (dv 4)) (dv 1))))) λS Q ex=>by
  refine kR λm=>kI λw=>kI λr=>kI λc=>kI λg=>kN ?_
  rintro⟨ds,i,j,n,hn,rfl,rfl,hi,hj,hm,lm,rows,hw,hg,h⟩;refine⟨ds,j,i,n,hn,rfl,rfl,hj,hi,hm,lm,rows,λx hx=>?_⟩;have e2:Sz 3121 x:=hx.mono ()
  have eg:Sz 20 g:=Sz.of 1000000 ();refine⟨ZC e2 eg,ZC (e2.mul eg) eg,⟨hw.1,hw.2.log hw.1⟩,h _ ?_⟩;exact zh1 ((e2.mul eg).mul eg) hw.1
noncomputable def ziz  (zir:Dfz q50 M9 Mx)(Im:Fkz 9 q39 OC EY):Fkz 10 q50 Mx DN:=
 mkF zir zdR (λhr=>(Ze (Zj (J8 (x:="column") (N:=["matrix","whole","row","grid"]) (caps:=[0,1,2,3]) (ar:=Zi M9) rfl rfl csc rfl ⋯ rfl YQ (Za (ZL (ZQ YZ) rfl Yv Boot.«len» (pv 0)) Zg) pt0 (λ_ _ _ _ _ _=>(Zh Im hr (pdv 1 (pdv 2 (pdv 3 (pdv 0 (pv 4))))))))))) λS Q ex=>by
  refine kR λm=>kI λw=>kI λr=>kI λg=>kN ?_
  rintro⟨ds,i,n,hn,rfl,hi,hm,lm,rows,hw,hg,h⟩;refine C5 (j:=n+1) (S1:=S) (λd=>∃x,d=.int x/\Sz 3200 x) (λK hK=>?_) () (λk S2 K hk p2 hK=>?_) λxs lx hx=>?_
  .refine Xn hm ?_;rw[lm];exact hK
  .exact⟨ds,i,k,n,hn,rfl,rfl,hi,(),p2 _ _ hm,lm,rows.pre p2,hw,hg,λx hx=>hK _ ⟨x,rfl,hx⟩⟩
  .obtain⟨r,rfl,zr⟩:=all_map hx;exact h _ ⟨r,rfl,by rw[<- lx,zB],zr⟩
noncomputable def Ah  (AV:Dfz Xx NM N5)(Ja:Fkz 10 q50 Mx DN)(RB:Fkz 9 q33 VU zaJ):Fkz 11 Xx N5 FF:=
 mkF AV EW (λhr=>(Zb (U5 (i:=2) EW.nd rfl (Or.inr rfl) (Zh RB hr (pv 0))) (Zb (Zy (Zs (ZI hr) (dv 2) Zd (Zp _)) (Ze (Zj ZR)) ZE) (Ze (Zj (J8 (x:="row") (N:=["matrix","whole","grid"]) (caps:=[0,2,1]) (ar:=Zi NM) rfl rfl csc rfl ⋯ rfl YQ (Za (ZL (ZQ YZ) rfl Yv Boot.«len» (pv 0)) Zg) pt0 (λ_ _ _ _ _ _=>(Zh Ja hr (pdv 1 (pdv 2 (pdv 0 (pv 3)))))))))))) λS Q ex=>by
  refine kR λm=>kI λg=>kN ?_
  rintro⟨ds,n,⟨n1,n4⟩,hm,lm,rows,hg,h0,h1⟩;obtain⟨n,rfl⟩:∃k,n=k+1:=⟨n-1,()⟩;refine⟨ds,n+1,(),hm,lm,rows,λx hx=>?_⟩;refine ifD (c:=x=0) (λc=>h0) (λc=>?_);refine zhP (j:=n+1) (T0:=S) (RI 3200 (n+1)) (λK hK=>?_) () (λk S2 K hk p2 hK=>?_) (λS2 ys p2 e2 l2 r2=>h1 S2 _ ys p2 e2 l2 r2)
  .refine Xn hm ?_;rw[lm];exact hK
  .exact⟨ds,k,n,(),rfl,(),p2 _ _ hm,lm,rows.pre p2,⟨c,hx.mono ()⟩,hg,λxs hx=>hK _ _ _ Pre.refl.push (zC _) (Zq _ _) hx⟩
noncomputable def zbV  (zd9:Dfz Xs JI RE):Fkz 1 Xs RE GL:=
 mkF zd9 zfl (λhr=>(Ze (Zj (Zf Yl (Zf ZX (piv 0) (piv 0)) Zd)))) λS Q ex=>by
  refine kP λ_ _=>kN λh=>?_
  exact h
noncomputable def zjx  (zic:Dfz XN OG QJ)(Tc:Fkz 1 Xs RE GL):Fkz 2 XN QJ L0:=
 mkF zic zeM (λhr=>(Ze (Zj (X1 (x:="span") (N:=[]) (caps:=[]) (ar:=Zi OG) rfl rfl csc rfl ⋯ (dv 0) pt0 (λ_ _ _ _ _ _=>(Zh Tc hr (pv 0))))))) λS Q ex=>by
  refine kR λs=>kN ?_
  rintro⟨vs,hs,l9,h⟩;refine Wm (n:=s) (S1:=S) (o:=.lst (vs.map frD)) (λd=>match d with|.tup [.int a,.int b]=>.int ((a+b)/2)|_=>.non) kId hs (by show (vs.map frD).length<=1000;rw[zB];lia) (λx hx S2 K pr hK=>?_) ?_
  .have hx':x∈vs.map frD:=hx;obtain⟨p,_,rfl⟩:=zP.mp hx';exact hK
  .have e2:(Zm (.lst (vs.map frD))).map (λd=>match d with|.tup [.int a,.int b]=>.int ((a+b)/2)|_=>.non)=vs.map λp=>D.int (mid p):=by
    show (vs.map frD).map _=_;rw[zY];rfl
   rw[e2];exact h
noncomputable def ziV  (zaE:Dfz q28 Mf TR)(Ss:Fkz 2 XN QJ L0):Fkz 3 q28 TR Oa:=
 mkF zaE zhA (λhr=>(Ze (Zj (X1 (x:="place") (N:=[]) (caps:=[]) (ar:=Zi Mf) rfl rfl csc rfl ⋯ (Zh Ss hr (pv 0)) pt0 (λ_ _ _ _ _ _=>(Zu (pdv 0 (pv 0)))))))) λS Q ex=>by
  refine kR λb=>kN ?_
  rintro⟨vs,hb,l9,h⟩;refine Wm (n:=S.length) (S1:=S++[.lst (vs.map λp=>.int (mid p))]) (o:=.lst (vs.map λp=>.int (mid p))) (λd=>.tup [d,d]) (λK hK=>⟨vs,hb,l9,hK⟩) (Zq _ _) (by show (vs.map _).length<=1000;rw[zB];lia) (λx hx S2 K pr hK=>by exact hK) ?_;refine h _ _ Pre.refl.push.push (by simp) ?_;have e:(Zm (.lst (vs.map λp=>D.int (mid p)))).map (λd=>D.tup [d,d])=(vs.map X0).map frD:=by
   show (vs.map λp=>D.int (mid p)).map _=_;rw[zY];rw[zY];rfl
  rw[e];exact Zq _ _
noncomputable def zgj  (zcp:Dfz q29 Gf Ql)(YM:Fkz 1 q43 VB Ui)(XC:Fkz 2 q49 Um Q4):Fkz 3 q29 Ql Kj:=
 mkF zcp Od (λhr=>(Zb (Zk (i:=3) Od.nd (Zu (Za Zd (Za Zd Zg)))) (Zb (zg6 (is:=[4,5]) PassesOwn.never rfl Od.nd (Nms.cons (i:=4) rfl (Or.inl rfl) (by first|exact .inl rfl|exact .inr rfl) (Nms.cons (i:=5) rfl (Or.inl rfl) (by first|exact .inl rfl|exact .inr rfl) Nms.nil)) rfl rfl Wn Boot.«zip» (pdv 0 (pv 1)) (Ze (Zk (i:=3) Od.nd (Zh YM hr (pdv 3 (Za (Zh XC hr (pdv 4 (pdv 5 (pv 2)))) Zg)))))) (Ze (Zj (dv 3)))))) λS Q ex=>by
  refine kR λa=>kR λb=>kI λg=>kN ?_
  rintro⟨us,vs,ha,hb,l6,z1,z2,hg,h⟩;have sg:Sz 21 g:=Sz.of 1000000 ();refine zc3 (n:=a) (n':=b) (xs:=us.map frD) (ys:=vs.map frD) (S:=S) (λk dl'=>∃u1 u2:Option D,dl'=[sR a,sR b,sI g,some (frD (X5 g (us.take k) (vs.take k))),u1,u2]) kId ha hb ⟨_,_,rfl⟩ ?_ ?_
  .rintro k x y dl' nx ct hx hy ⟨u1,u2,rfl⟩ hn;rw[zF] at hx hy;obtain⟨p,hp,rfl⟩:=zG.mp hx;obtain⟨r,hr,rfl⟩:=zG.mp hy;have zp:=z1 _ (zE hp)
   have zr:=z2 _ (zE hr);refine⟨⟨⟨ZC zp.1 zr.1,ZC zp.1 zr.2,ZC zp.2 zr.1,ZC zp.2 zr.2⟩,sg.fd ()⟩,λmn mx hc=>?_⟩;obtain⟨rfl,rfl⟩:=hc.eq;refine hn _ ⟨some (frD p),some (frD r),?_⟩;rw[Ci g us vs k hp hr];rfl
  .rintro dl' ⟨u1,u2,rfl⟩;rw[zB,zB,Cw];exact h
noncomputable def A8  (zgD:Dfz XZ MI NQ)(Yr:Fkz 1 q27 Vc V0)(Uy:Fkz 3 q29 Ql Kj):Fkz 4 XZ NQ EG:=
 mkG zgD JS (λhr=>(Zb (Zk (i:=5) JS.nd (X6 (Zs (ZI hr) (dv 0) (dv 1) (Zp _)) (Zu (pdv 4 (pv 4))) (Zu (Za Zd (Za Zd Zg))))) (Zb (SD (x:="slant") (N:=["column"]) (caps:=[1]) (ar:=Zi MI) rfl rfl csc rfl ⋯ (i:=6) JS.nd rfl rfl (dv 3) pt0 (λ_ _ _ _ _ _=>(ZD (dv 0) (dv 1)))) (Ze (Zj (Zh Yr hr (pdv 5 (Za (Zh Uy hr (pdv 2 (pdv 6 (pv 4)))) Zg)))))))) λS Q0 ex0=>by
  refine kI λk=>kI λc=>kR λt=>kR λs=>kI λg=>kN ?_
  rintro⟨q,cn,ts,ds,rfl,ht,hs,rows,hc,l6,r6,z1,hg,h⟩;have sg:Sz 21 g:=Sz.of 1000000 ()
  have s0:Sz 21 0:=yF ⋯;refine ifD (λe=>?_) (λe=>?_)
  all_goals
   refine Bt (n:=s) (S1:=S) (o:=.lst ds) (λd=>∃p,d=frD p/\Sz 1023 p.1/\Sz 1023 p.2) kId hs (by show ds.length<=1000;lia) (λx hx S2 K pr hK=>?_) (λxs lx hx=>?_)
   .obtain⟨a,_,rfl,_,ha,r,rfl,lr,br⟩:=rows x hx;have ic:inR ((r.length:Nat):Int) (cn:Int):=⟨(),()⟩;exact Zz (o:=.lst _) (pr _ _ ha) (ZT ic) (hK _ ⟨_,rfl,br.at ic⟩)
   .obtain⟨vs,rfl,bv⟩:=all_map hx;have z:=zjF hg.1 z1 bv l6;refine⟨ts,vs,Zt ht,Zq _ _,l6,z1.up ⋯,Bd.up bv ⋯,hg,?_⟩;exact⟨Pre.refl.push,Sn,h _ _ ((Sz.sub (by first|exact sg|exact s0) z.2).mono ⋯) ((Sz.sub (by first|exact sg|exact s0) z.1).mono ⋯)⟩
noncomputable def zcg  (ziY:Dfz X3 Sk Md)(YM:Fkz 1 q43 VB Ui)(Uy:Fkz 3 q29 Ql Kj)(Yr:Fkz 1 q27 Vc V0)(JL:Fkz 4 XZ NQ EG)(Vr:Fkz 3 q28 TR Oa):Fkz 5 X3 Md CS:=
 mkG ziY U7 (λhr=>(Zb (U5 (i:=6) U7.nd rfl (Or.inr rfl) (X1 (x:="entry") (N:=[]) (caps:=[]) (ar:=Zi Sk) rfl rfl csc rfl ⋯ (dv 3) pt0 (λ_ _ _ _ _ _=>(Zu (pdv 0 (pv 0)))))) (Zb (Zk (i:=7) U7.nd (Zh Vr hr (pv 1))) (Zb (Zk (i:=8) U7.nd (Zh Yr hr (Za (ZD (dv 7) (dv 0)) (Za (Zh Uy hr (pdv 6 (pdv 4 (pv 2)))) Zg)))) (Zb (GR (x:="column") (N:=["k","turns","slants","grid"]) (caps:=[0,6,5,2]) (ar:=Zi Sk) rfl rfl csc rfl ⋯ (i:=9) U7.nd rfl rfl rfl YQ (Za (ZL (ZQ YZ) rfl Yv Boot.«len» (pv 1)) Zg) pt0 (λ_ _ _ _ _ _=>(Zh JL hr (pdv 1 (pdv 0 (pdv 2 (pdv 3 (pv 4)))))))) (Zb (ziS (x1:="span") (x2:="centre") (N:=[]) (caps:=[]) (ar:=Zi Sk) rfl rfl WK rfl rfl rfl ⋯ (i:=10) U7.nd rfl rfl rfl Wn Boot.«zip» (pdv 1 (pv 7)) (λ_ _ _ _ _ _=>(Zh Yr hr (pdv 0 (pv 1))))) (Ze (Zj (Zh YM hr (pdv 8 (Za (Zh Uy hr (pdv 9 (pdv 10 (pv 2)))) Zg))))))))))) λS Q0 ex0=>by
  refine kI λki=>kR λb=>kI λg=>kR λe=>kR λt=>kR λs=>kN ?_
  rintro⟨k,box,aA,es,ds,rfl,hk,he,e4,ze,hb,ht,hs,rows,bl,r4,zb,zt,hg,h⟩;refine Bt (n:=e) (S1:=S) (o:=.lst (es.map D.int)) (λd=>∃p,d=frD p/\Sz 3200 p.1/\Sz 3200 p.2) kId he (by show (es.map D.int).length<=1000;rw[zB];lia) (λx hx S2 K pr hK=>?_) (λxs lx hx=>?_)
  .obtain⟨i,hi,rfl⟩:=zP.mp (show x∈es.map D.int from hx);exact hK _ ⟨(i,i),rfl,ze i hi,ze i hi⟩
  obtain⟨ts,rfl,bt⟩:=all_map hx;have lt:(ts.map frD).length=(es.map D.int).length:=lx;rw[zB,zB] at lt;refine⟨box,Zt hb,(),λT m pr lm hm=>?_⟩;have P0:Pre S T:=λx o z=>pr _ _ (Zt z)
  have hT:=pr _ _ (Zq S (.lst (ts.map frD)));refine Zz (o:=.lst ((box.map X0).map frD)) hm (ZT (i:=(k:Int)) ⟨(),by rw[zB];lia⟩) ?_;refine⟨ts,aA,hT,P0 _ _ ht,(),Bd.up bt ⋯,zt.up ⋯,hg,?_⟩;refine C5 (j:=box.length) (S1:=T) (λd=>∃p,d=frD p/\Sz 20000 p.1/\Sz 20000 p.2) (λK hK=>by
   refine Xn (P0 _ _ hb) ?_;rw[zB];exact hK) () (λc S2 K hc p2 hK=>?_) (λls ll hl=>?_)
  .exact⟨box.length,c,ts,ds,rfl,p2 _ _ hT,p2 _ _ (P0 _ _ hs),(rows.pre P0).pre p2,hc,(),(),bt,hg,λa b ha hb=>hK _ ⟨(a,b),rfl,ha,hb⟩⟩
  obtain⟨lv,rfl,bv⟩:=all_map hl;rw[zB] at ll;refine TL (n:=b) (n':=m) (S1:=T++[.lst (lv.map frD)]) (xs:=box.map frD) (ys:=(box.map X0).map frD) (λx y=>match x,y with|.tup [.int a,.int b],.tup [.int c,.int d]=>.tup [.int (a-d),.int (b-c)]|_,_=>.non) kId (Zt (P0 _ _ hb)) (Zt hm) (by rw[zB];lia) (λj x y hx hy S2 K p2 hK=>?_) ?_
  .rw[zF] at hx hy;obtain⟨p,hp,rfl⟩:=zG.mp hx;obtain⟨r,hr,rfl⟩:=zG.mp hy;exact hK
  have eW:List.zipWith (λx y=>match x,y with|.tup [.int a,.int b],.tup [.int c,.int d]=>.tup [.int (a-d),.int (b-c)]|_,_=>.non) (box.map frD) ((box.map X0).map frD)=(box.map λp=>K5 p (X0 p)).map frD:=by
   rw[zY,uT,zY,List.zipWith_self];rfl
  rw[eW];refine⟨lv,_,Zt (Zq _ _),Zq _ _,(),bv,λp hp=>?_,hg,λx o z=>Zt (Zt (P0 _ _ z)),Sn,h _ _⟩;obtain⟨x,hx,rfl⟩:=zP.mp hp;have z:=zb x hx
  have zmid:=Bf z.1 z.2;exact(zjA (B:=60) (C:=61) z ⟨zmid,zmid⟩).imp (λz=>z.mono ⋯) (λz=>z.mono ⋯)
noncomputable def AG  (zdS:Dfz XR MR NC)(Fd:Fkz 5 X3 Md CS):Fkz 6 XR NC DT:=
 mkF zdS zbG (λhr=>(Ze (Zj (Ie (x1:="k") (x2:="entries") (N:=["box","grid","thin","slants"]) (caps:=[0,1,3,4]) (ar:=Zi MR) rfl rfl WK rfl rfl rfl ⋯ rfl XF Boot.«enumerate» (pv 2) pt0 (λ_ _ _ _ _ _=>(Zh Fd hr (pdv 0 (pdv 2 (pdv 3 (pdv 1 (pdv 4 (pv 5)))))))))))) λS Q ex=>by
  refine kR λb=>kI λg=>kR λu=>kR λt=>kR λs=>kN ?_
  rintro⟨box,aA,ms,ds,hu,lm,mi,hb,ht,hs,rows,bl,r4,zb,zt,hg,h⟩;refine Dp (n:=u) (S1:=S) (xs:=ms) (λd=>∃p,d=frD p/\True) kId hu () (λk x hx S2 K pr hK=>?_) λys ly hy=>?_
  .have hk:=(zA.mp hx).1;obtain⟨a,_,rfl,_,ha,r,rfl,lr,zr⟩:=mi x (zE hx);exact⟨k,box,aA,r,ds,rfl,(),pr _ _ ha,(),zr,pr _ _ hb,pr _ _ ht,pr _ _ hs,rows.pre pr,bl,r4,zb,zt,hg,λa b=>hK _ ⟨(a,b),rfl,trivial⟩⟩
  .obtain⟨vs,rfl,_⟩:=all_map hy;exact h vs (by rw[zB] at ly;lia)
noncomputable def zgu  (ziv:Dfz q60 Gd O4)(SV:Fkz 1 XA Qp LV)(Yn:Fkz 4 q44 Ww VC)(Vr:Fkz 3 q28 TR Oa):Fkz 5 q60 O4 CL:=
 mkF ziv zeV (λhr=>(Ze (Zj (Zh SV hr (Za (Zh Yn hr (pdv 0 (Za (Zh Vr hr (pv 2)) (pv 3)))) (pv 1)))))) λS Q ex=>by
  refine kR λa=>kR λp=>kR λb=>kI λg=>kN ?_
  rintro⟨ns,ws,bs,is,ha,hb,net,sb,hg,l7,b9,hp,i9,hi,h⟩;refine⟨bs,hb,b9,λT m pr lm hm=>?_⟩;refine⟨ns,ws,bs.map X0,pr _ _ ha,hm,by rw[zB];exact net,Gm sb,hg,l7,λT1 m1 pr1 lm1 h1=>?_⟩;refine⟨_,is,h1,pr1 _ _ (pr _ _ hp),i9,λi him=>by rw[zB,Xi];exact hi i him,?_⟩;have s1:Spn 1000 (ZA (bs.map X0) g (ns.take ns.length)):=KZ (by rw[zB];exact net) rfl (Gm sb) hg ns.length (zC _);rw[yJ] at s1;obtain⟨vs,ev,bv⟩:=all_map (c:=frD) (P:=λp=>Sz 2000 p.1/\Sz 2000 p.2) (xs:=is.map λi=>((ZA (bs.map X0) g ns).map frD).getD i .non) λd hd=>by
   obtain⟨i,him,rfl⟩:=zP.mp hd;have hl:i<(ZA (bs.map X0) g ns).length:=by rw[Xi];exact hi i him
   have z:=s1 _ (yW hl);exact⟨_,by simp[hl],z.2.1.mono ⋯,z.2.2.mono ⋯⟩
  rw[ev];refine h _ _ vs (λx o z=>Zt (pr1 _ _ (pr _ _ z))) ?_ (Zq _ _) bv;have:=YI pr
  have:=YI pr1;lia
noncomputable def zhj  (zeO:Dfz "deep" IS OF):Fkz 1 "deep" OF Cq:=
 mkF zeO zcW (λhr=>(Ze (Zj (Qq (Xz YS (piv 1) (piv 0) (Zp _)) (Ti (Xz YS (piv 0) (piv 1) (Zp _))))))) λS Q ex=>by
  refine kP λ_ _=>kP λ_ _=>kN λh=>?_
  refine ifD (λe=>?_) (λe=>?_)
  .rw[decide_eq_true e,xZ] at h;exact h
  .rw[decide_eq_false e,xB] at h;exact h
noncomputable def zgN  (Ai:Dfz q94 Mv OK)(LB:Fkz 1 "deep" OF Cq):Fkz 2 q94 OK Em:=
 mkG Ai zhY (λhr=>(Ze (Zj (ZL (ZQ (Qc rfl)) rfl VL Boot.«all» (Za (Qj (x1:="new") (x2:="old") (N:=[]) (caps:=[]) (ar:=Zi Mv) rfl rfl WK rfl rfl rfl ⋯ rfl Wn Boot.«zip» (pdv 0 (pv 1)) (λ_ _ _ _ _ _=>(Zh LB hr (pdv 0 (pv 1))))) Zg))))) λS Q0 ex0=>by
  refine kR λm=>kR λn=>kN ?_
  rintro⟨us,vs,h1,h2,hl,h⟩;refine TL (n:=m) (n':=n) (S1:=S) (xs:=us.map frD) (ys:=vs.map frD) (λx y=>match x,y with|.tup [.int a,.int b],.tup [.int c,.int d]=>.bl (decide (c<a)&&decide (b<d))|_,_=>.non) kId h1 h2 (by rw[zB];exact hl) (λk x y hx hy S2 K pr hK=>?_) ?_
  .obtain⟨p,_,rfl⟩:=zP.mp (zE hx);obtain⟨q,_,rfl⟩:=zP.mp (zE hy);exact hK
  .refine Qd (n:=S.length) (o:=.lst _) (bs:=List.zipWith CO us vs) (Zq _ _) (Ao us vs) ?_;exact⟨Pre.refl.push,.bl _,h _⟩
noncomputable def zer  (AX:Dfz q35 MM Oc)(Tp:Fkz 1 "sure" QT JX):Fkz 2 q35 Oc Bs:=
 mkG AX zbZ (λhr=>(Ze (Zj (ZL (ZQ (Qc rfl)) rfl VL Boot.«all» (Za (X1 (x:="row") (N:=["spans"]) (caps:=[1]) (ar:=Zi MM) rfl rfl csc rfl ⋯ (dv 0) (λ_ _ _ _ _ _=>Nw (Zs (ZI hr) (piv 0) ZP (Zp _))) (λ_ _ _ _ _ _=>(Zh Tp hr (Za (piv 0) (Za (ZD (dv 1) (piv 0)) Zg))))) Zg))))) λS Q0 ex0=>by
  refine kR λr=>kR λs=>kN ?_
  rintro⟨rows,vs,hr,hs,l9,hi,h⟩;refine Gp (n:=r) (S1:=S) (o:=.lst (rows.map rwD)) (λd=>match d with|.tup [.str w,.int at']=>if w="least" then some (.bl (decide (0<=(gt vs at').1))) else none|_=>none) kId hr (by show (rows.map rwD).length<=1000;rw[zB];lia) (λx hx S2 K pr hK=>?_) (λx hx y hy S2 K pr hK=>?_) ?_
  .have hx':x∈rows.map rwD:=hx;obtain⟨⟨b,n⟩,_,rfl⟩:=zP.mp hx';cases b
   .exact hK
   .exact hK
  .have hx':x∈rows.map rwD:=hx;obtain⟨⟨b,n⟩,hm,rfl⟩:=zP.mp hx';cases b
   .cases hy;refine Zz (o:=.lst (vs.map frD)) (pr _ _ hs) (ZT (vs:=vs) (i:=(n:Int)) ⟨(),by have:=hi _ hm;dsimp only at this;lia⟩) ?_;exact .inr ⟨rfl,hK⟩
   .exact absurd hy (by
     simp[rwD];intro z;exact absurd z ⋯)
  .refine Qd (n:=S.length) (o:=.lst _) (Zq _ _) (J0 vs rows) ?_;exact⟨Pre.refl.push,.bl _,h _⟩
noncomputable def zjm  (zi2:Dfz X8 Nk MX)(JV:Fkz 2 q94 OK Em)(JW:Fkz 6 XR NC DT)(Fc:Fkz 5 q60 O4 CL)(J2:Fkz 11 Xx N5 FF)(Ss:Fkz 2 XN QJ L0)(Jp:Fkz 6 q85 O7 Cu)(Ff:Fkz 2 q35 Oc Bs)(Yn:Fkz 4 q44 Ww VC)(G7:Fkz 1 q34 MJ C2):Fkz 12 X8 MX Ef:=
 mkF zi2 Q1 (λhr=>(Zb (Zk (i:=4) Q1.nd (Zh G7 hr (pv 1))) (Zb (Zy (PDW.pt (WR (Zs (Kd hr) (ZL (ZQ YZ) rfl Yv Boot.«len» (pv 4)) (ZL (ZQ YZ) rfl Yv Boot.«len» (pv 2)) (Zp _)) (SS (Vz (Y4 (Zh Ff hr (pdv 1 (Za (Zh Yn hr (pdv 0 (pdv 2 (pv 3)))) Zg)))))))) (Ze (Zj ZR)) ZE) (Zb (Zk (i:=5) Q1.nd (Zh Jp hr (pdv 0 (pdv 4 (pdv 2 (pv 3)))))) (Zb (Zk (i:=6) Q1.nd (Zh J2 hr (Za (X1 (x:="slant") (N:=[]) (caps:=[]) (ar:=Zi Nk) rfl rfl csc rfl ⋯ (dv 5) pt0 (λ_ _ _ _ _ _=>(Zh Ss hr (pv 0)))) (pv 3)))) (Zb (Zy (Zs YY (dv 6) ZR (Zp _)) (Ze (Zj ZR)) ZE) (Zb (Zk (i:=7) Q1.nd (Zh JW hr (pdv 2 (pdv 3 (pdv 6 (Za (Zh Fc hr (pdv 0 (pdv 4 (pdv 2 (pv 3))))) (pv 5))))))) (Zb (Zy (Vz (Y4 (Zh JV hr (pdv 7 (pv 2))))) (Ze (Zj ZR)) ZE) (Ze (Zj (Zu (pdv 6 (pv 7))))))))))))) λS Q ex=>by
  refine kR λa=>kR λr=>kR λb=>kI λg=>kN ?_
  rintro⟨ns,ws,bs,rows,ha,hb,net,sb,hg,l7,b9,hr,r9,hi,bl,hN,hY⟩;have hi':∀i∈eqs rows,i<ns.length:=λi him=>hi _ (zck him)
  refine⟨rows,hr,r9,?_⟩;have P0:Pre S (S++[Ob.lst ((eqs rows).map wtD)]):=Pre.refl.push
  have hp:=Zq S (.lst ((eqs rows).map wtD));refine Xn hp ?_;refine Xn (P0 _ _ hb) ?_;rw[zB,zB];refine ifN (λc=>YO (hN _ P0)) (λc=>?_);have lq:(eqs rows).length=bs.length:=by lia
  refine⟨ns,ws,bs,P0 _ _ ha,P0 _ _ hb,net,sb,hg,l7,λT1 m1 p1 lm1 h1=>?_⟩;have P1:Pre S T1:=λx o z=>p1 _ _ (P0 _ _ z)
  refine⟨rows,ZA bs g ns,P1 _ _ hr,h1,r9,λr hr=>by rw[Xi];exact hi r hr,λb=>?_⟩;cases b
  .exact YO (hN _ P1)
  refine YF ?_;refine⟨ns,ws,bs,eqs rows,P1 _ _ ha,P1 _ _ hb,net,sb,hg,l7,b9,p1 _ _ hp,(),hi',λT2 m2 ds p2 h2 ld rowsT=>?_⟩;have P2:Pre S T2:=λx o z=>p2 _ _ (P1 _ _ z)
  have hp2:=p2 _ _ (p1 _ _ hp);refine F6 (n:=m2) (T0:=T2) (RF 1023 bs.length) (RI 1024 bs.length) kId h2 rowsT () (λa xs S2 K hx ha hK=>?_) (λS2 ys y1 y2 y3 y4=>?_)
  .obtain⟨r,rfl,lr,br⟩:=hx;refine⟨r,ha,(),hK _ _ _ Pre.refl.push (zC _) (Zq _ _) ⟨r.map mid,by rw[zY];rfl,by rw[zB];exact lr,λx hx=>?_⟩⟩;obtain⟨p,hp,rfl⟩:=zP.mp hx;exact Bf (br p hp).1 (br p hp).2
  have P3:Pre S S2:=λx o z=>y1 _ _ (P2 _ _ z)
  refine⟨ys,bs.length,bl,y2,(),y4,hg,hN _ P3,λT4 k4 es p4 e4 l4 r4=>?_⟩;have P4:Pre S T4:=λx o z=>p4 _ _ (P3 _ _ z)
  refine⟨ns,ws,bs,eqs rows,P4 _ _ ha,P4 _ _ hb,net,sb,hg,l7,b9,p4 _ _ (y1 _ _ hp2),(),hi',λT5 m5 vs p5 lm5 h5 bv=>?_⟩;have P5:Pre S T5:=λx o z=>p5 _ _ (P4 _ _ z)
  refine⟨bs,vs,es,ds,p5 _ _ e4,l4,r4.pre p5,P5 _ _ hb,h5,p5 _ _ (p4 _ _ (y1 _ _ h2)),((rowsT.pre y1).pre p4).pre p5,bl,(),λp hp=>⟨(sb p hp).2.1.mono ⋯,(sb p hp).2.2.mono ⋯⟩,bv,hg,λus lu=>?_⟩;refine⟨us,bs,Zq _ _,Zt (P5 _ _ hb),(),λb=>?_⟩;cases b
  .exact YO (hN _ (Xq P5 _))
  .exact YF (hY _ _ _ (Xq P5 _))
noncomputable def zb7  (zdq:Dfz q61 Gv M5)(TX:Fkz 5 XJ RG HD)(Yn:Fkz 4 q44 Ww VC)(Vr:Fkz 3 q28 TR Oa)(Jy:Fkz 12 X8 MX Ef):Fkz 13 q61 M5 Ep:=
 mkF zdq GB (λhr=>(Zb (Zk (i:=5) GB.nd (Zh Jy hr (pdv 0 (pdv 1 (pdv 2 (pv 3)))))) (Zb (Zy (Zs YY (dv 5) ZR (Zp _)) (Ze (Zj ZR)) ZE) (Zb (Zk (i:=6) GB.nd (Zh Yn hr (pdv 0 (Za (Zh Vr hr (pv 2)) (pv 3))))) (Ze (Zj (Zu (Za ZP (Za (piv 5) (Za (piv 5) (pdv 4 (pdv 6 (Za (Zh TX hr (pdv 0 (pdv 2 (pv 3)))) Zg))))))))))))) λS Q ex=>by
  refine kR λnd=>kR λrw=>kR λbx=>kI λg=>kR λsp=>kN ?_
  rintro⟨u,ns,ws,rows,e,R,hb,lu,se,hn,hy⟩;have net':ZK ((e.length:Nat):Int) ns ws:=by rw[lu];exact R.net
  have u4:=R.u1
  have r4:=R.rl;refine⟨ns,ws,e,rows,R.nd,hb,net',se,R.hg,R.l70,(),R.rw,(),R.ri,(),hn,λT _ _ p=>?_⟩
  .refine⟨e,p _ _ hb,(),λT2 m2 p2 l2 h2'=>?_⟩;have P2:Pre S T2:=λx o z=>p2 _ _ (p _ _ z)
   refine⟨ns,ws,e.map X0,P2 _ _ R.nd,h2',by rw[zB];exact net',Gm se,R.hg,R.l70,λT3 m3 p3 l3 h3'=>?_⟩;have P3:Pre S T3:=λx o z=>p3 _ _ (P2 _ _ z)
   refine⟨ns,ws,e,P3 _ _ R.nd,P3 _ _ hb,net',se,(),R.hg,R.l70,λT4 m4 ds p4 l4 h4' _=>?_⟩;exact hy _ _ _ _ _ _ λx o z=>p4 _ _ (P3 _ _ z)
noncomputable def AL  (zhz:Dfz X4 KS OW)(Vi:Fkz 3 Xo SG Ot)(Gk:Fkz 13 q61 M5 Ep)(Jx:Fkz 6 q51 OZ BG)(Yn:Fkz 4 q44 Ww VC):Fkz 14 X4 OW EK:=
 mkF zhz Pl (λhr=>(Zb (Zk (i:=5) Pl.nd (Zh Yn hr (pdv 0 (pdv 2 (pv 3))))) (Zb (Zk (i:=6) Pl.nd (Zh Jx hr (pdv 0 (pdv 1 (pdv 2 (pdv 3 (pv 5))))))) (Zb (Zy (Zs YY (dv 6) ZR (Zp _)) (Ze (Zk (i:=6) Pl.nd (Zh Gk hr (pdv 0 (pdv 1 (pdv 2 (pdv 3 (pv 5)))))))) ZE) (Zb (Zy (PDW.pt (Rx (Zs YY (dv 6) ZR (Zp _)) (Qx (Zs Wy (Zh Vi hr (pv 2)) (dv 4) (Zp _))))) (Ze (Zj (Zu (Za ZP Zg)))) ZE) (Ze (Zj (dv 6)))))))) λS Q ex=>by
  refine kR λnd=>kR λrw=>kR λbx=>kI λg=>kI λfine=>kN ?_
  rintro⟨u,ns,ws,rows,e,R,hb,lu,se,hf,hn⟩;have net':ZK ((e.length:Nat):Int) ns ws:=by rw[lu];exact R.net
  have u4:=R.u1;refine⟨ns,ws,e,R.nd,hb,net',se,R.hg,R.l70,λT m p l hm=>?_⟩;have R1:=R.pre p;refine⟨u,ns,ws,rows,e,R1,p _ _ hb,lu,se,hm,λT2 k m2 row p2 l2 hr ib h2=>?_,λnb su T2 p2=>?_,λnb su T2 p2=>?_⟩
  .have:=YI p;exact hf T2 (.out k _) _ (λx o z=>p2 _ _ (p _ _ z)) ⟨row,hr,rfl,ib⟩ λa b ha hb'=>⟨m2,rfl,(),(),h2⟩
  .exact hf T2 (.full _) _ (λx o z=>p2 _ _ (p _ _ z)) ⟨rfl,nb,su⟩ λa b ha hb'=>⟨m,rfl,(),(),p2 _ _ hm⟩
  .have P2:Pre S T2:=λx o z=>p2 _ _ (p _ _ z)
   refine⟨u,ns,ws,rows,e,R.pre P2,P2 _ _ hb,lu,se,λT3 p3=>?_,λT3 d1 d2 d3 d4 d5 p3=>?_⟩
   .have P3:Pre S T3:=λx o z=>p3 _ _ (P2 _ _ z)
    refine⟨e,P3 _ _ hb,(),λw T4 p4 hw=>?_⟩;have P4:Pre S T4:=λx o z=>p4 _ _ (P3 _ _ z)
    refine ifD (λc=>?_) (λc=>?_)
    .exact hf T4 .small _ P4 ⟨λq hq=>Int.le_trans (hw.1 q hq) c,nb,su⟩ λ_ _ _ _=>rfl
    .rcases hw.2 with ⟨z,_⟩|⟨q,hq,z⟩
     .rw[z] at lu;exact absurd lu (by show ¬ (0=u);lia)
     .exact hn T4 P4 ⟨q,hq,()⟩
   .exact hf T3 .one _ (λx o z=>p3 _ _ (P2 _ _ z)) trivial λ_ _ _ _=>⟨_,_,_,_,_,rfl⟩
noncomputable def zg8  (zeQ:Dfz q52 KL NF)(WN:Fkz 2 Xm TU NL):Fkz 3 q52 NF F4:=
 mkF zeQ As (λhr=>(Ze (Zj (Xz Wy (Zf ZF Zd (ZL (ZQ (Ma rfl)) rfl V1 Boot.«sum» (Za (Zh WN hr (pv 0)) Zg))) (Zf ZF Zd (ZL (ZQ (Ma rfl)) rfl V1 Boot.«sum» (Za (Zh WN hr (pv 1)) Zg))) (Zp _))))) λS Q ex=>by
  refine kR λx=>kR λy=>kN ?_
  rintro⟨bs,cs,h1,h2,s1,s2,l1,l2,h⟩;obtain⟨a1,a2,_⟩:=MB s1;obtain⟨b1,b2,_⟩:=MB s2;have z4:Sz 60 (4:Int):=Sz.of (10^3) ()
  have z3:Sz 60 (3:Int):=Sz.of (10^3) ()
  have z1:Sz 60 (VJ bs):=by unfold Sz;lia
  have z2:Sz 60 (VJ cs):=by unfold Sz;lia
  refine⟨bs,h1,(),?_⟩;refine IK (n:=S.length) (Zq _ _) (Ph (bs.map wd)) ?_;refine⟨ZC z4 z1,?_⟩;refine⟨cs,Zt h2,(),?_⟩;refine IK (Zq _ _) (Ph (cs.map wd)) ?_;refine⟨ZC z3 z2,?_⟩;exact h _ λi o z=>Zt (Zt z)
noncomputable def zbX  (zeP:Dfz q25 LX Mm)(WZ:Fmz 2 Zn.C "part" QZ LF)(Tc:Fkz 1 Xs RE GL)(WN:Fkz 2 Xm TU NL)(Vi:Fkz 3 Xo SG Ot):Fkz 4 q25 Mm F1:=
 mkF zeP HW (λhr=>(Zb (Zk (i:=2) HW.nd (ZD (ZO Zn.cl Zn.n_boxes (dv 0)) (dv 1))) (Zb (Zk (i:=3) HW.nd (Ex (k:=1) hr ⋯ (Zh WN hr (pv 2)) (Za (Zh Vi hr (pv 2)) Zg))) (Ze (Z7 (Wj (C:=Zn.C) (dv 0) Zn.cl WZ.m WZ.ok (rmn hr) WZ.b YD (pdv 1 (pdv 3 (Za (Zh Tc hr (Za (ZD (dv 2) (dv 3)) Zg)) Zg))))))))) λS Q ex=>by
  refine kR λn=>kI λi=>kN ?_
  rintro⟨a,b,j,es,fs,e,B,rfl,he,l4,ne,l9,h⟩;obtain⟨bs,m,h1,h2,o⟩:=B.box he;refine ZN (n:=n) kId B.ins rfl ?_;refine Zz (o:=.lst bs) h1 (Z6 (j:=j) h2) ?_;refine zgZ (n:=S.length) (S1:=S++[.lst ((e.map wd).map D.int)]) (zs:=e.map wd) (λv S2=>Pre S S2/\La S2 S.length ((e.map wd).map D.int)/\Wst e v) (λK hK=>⟨e,o.2.2,(),hK⟩) (λK hK=>⟨e,Zt o.2.2,(),λw T p hw=>hK _ _ ⟨λx o z=>p _ _ (Zt z),p _ _ (Zq _ _),hw⟩⟩) (Zq _ _) (λv S2 r=>⟨r.2.1,?_⟩) λv S2 k r hk=>?_
  .rcases r.2.2.2 with ⟨z,_⟩|⟨p,hp,rfl⟩
   .exact absurd z ne
   .exact zP.mpr ⟨p,hp,rfl⟩
  obtain⟨p,_,hw⟩:=r;rw[zF] at hk;obtain⟨s,hs,rfl⟩:=zG.mp hk;have lk:=(zA.mp hs).1
  have B2:=B.pre p
  have hs2:atI (e.map frD) (k:Int)=some (frD s):=Z6 (j:=k) (by rw[zF,hs];rfl);refine Xr (n:=n) kId B2.ins rfl ?_;refine Zz (o:=.lst (e.map frD)) (p _ _ o.2.2) hs2 ?_;exact⟨a,b,j,k,es,fs,e,s,B2,rfl,rfl,he,hs,l4,l9,λT B3 cg=>h T k s hs hw B3 ((Cg.pre p).trans cg)⟩
noncomputable def zix  (zh7:Dfz "look" J4 PH)(YR:Fmz 1 Zn.C XU S6 Px)(JY:Fkz 3 q52 NF F4)(Lu:Fkz 4 q25 Mm F1)(GZ:Fkz 14 X4 OW EK)(LY:Fkz 11 X7 Pp CI):Fkz 15 "look" PH FH:=
 mkF zh7 Ru (λhr=>(Zb (Zk (i:=6) Ru.nd (ZD (ZO Zn.cl Zn.n_boxes (dv 0)) (dv 5))) (Zb (Zk (i:=5) Ru.nd (Zh LY hr (pdv 0 (pdv 1 (pdv 2 (pdv 3 (pv 5))))))) (Zb (Zy (Zs GK (ZD (ZO Zn.cl Zn.n_fates (dv 0)) (dv 5)) ZR (Zp _)) (Ze zfx) ZE) (Zb (Zk (i:=7) Ru.nd (ZD (ZO Zn.cl Zn.n_boxes (dv 0)) (dv 5))) (Zb (Zk (i:=8) Ru.nd (Zh GZ hr (pdv 1 (pdv 2 (pdv 7 (pdv 3 (pv 4))))))) (Ze (Zy (Zs GK (dv 8) ZR (Zp _)) (Ze (Z7 (Wj (C:=Zn.C) (dv 0) Zn.cl YR.m YR.ok (rmn hr) YR.b YD (pdv 5 (pv 8))))) (Ze (Zy (Vz (Y4 (Zh JY hr (pdv 7 (pv 6))))) (Ze (Z7 (Zh Lu hr (pdv 0 (pv 5))))) ZE)))))))))) λS Q ex=>by
  refine kR λn=>kR λnd=>kR λrw=>kI λg=>kI λfine=>kI λi=>kN ?_
  rintro⟨a,b,j,u,ns,ws,rows,b0,e,es,fs,B,R,A,K,sb,lb,rfl,hw,he,f1,l9,h⟩;have u4:=R.u1;obtain⟨bs,m,h1,h2,o⟩:=B.box he;refine ZN (n:=n) kId B.ins rfl ?_;refine Zz (o:=.lst bs) h1 (Z6 (j:=j) h2) ?_;refine⟨a,b,j,u,ns,ws,rows,b0,e,es,fs,fine,B,R,A,K,sb,lb,rfl,hw,he,(),λT es' fs' j' B' K' cg l' sh lj=>?_⟩;obtain⟨ll,oks⟩:=K.ok sb;obtain⟨ll',oks'⟩:=K'.ok sb;obtain⟨le,se⟩:=oks e (zE he);have he':=zD lj;generalize es'[j']=e' at he';obtain⟨le',se'⟩:=oks' e' (zE he');have hf':=zD (show j'<fs'.length by lia);generalize fs'[j']=f' at hf';obtain⟨ds,k1,k2,k3⟩:=B'.ft;obtain⟨d,d1,d2⟩:=k3 j' f' hf';refine ZN (n:=n) kId B'.ins rfl ?_;refine Zz (o:=.lst ds) k1 (Z6 (j:=j') d1) ?_;have done:f'≠.wait->Q .non T:=λnw=>by
   refine h T es' fs' B' K' cg () ?_;by_cases c:es'.length=es.length
   .obtain⟨_,rfl⟩:=sh.2 c;exact .inr ⟨c,λz=>nw (by rw[hf'] at z;exact Option.some.inj z)⟩
   .exact .inl (by have:=sh.1;lia)
  have R':=R.cg A cg
  have la:a<T.length:=by
   obtain⟨_,z,_⟩:=B'.bx;exact ZV z
  have lb':b<T.length:=ZV k1;cases f' with
  | wait=>
   cases d2;obtain⟨bs',m',h1',h2',o'⟩:=B'.box he';refine ZN (n:=n) kId B'.ins rfl ?_;refine Zz (o:=.lst bs') h1' (Z6 (j:=j') h2') ?_;refine⟨u,ns,ws,rows,e',R',o'.2.2,(),se',λT2 f d p2 fok fat=>?_,λT2 p2 big=>?_⟩
   .have B2:=B'.pre p2
    have fa:=fat a b la lb'
    have fw:f≠.wait:=λz=>by subst z;exact fok.elim
    obtain⟨xs,rfl⟩:∃xs,d=.tup xs:=by
     cases f with
     | wait=>exact fok.elim
     | cut _ _ _ _=>exact fok.elim
     | small=>exact⟨_,fa⟩
     | one=>obtain⟨_,_,_,_,_,z⟩:=fa;exact⟨_,z⟩
     | out _ _=>obtain⟨_,z,_⟩:=fa;exact⟨_,z⟩
     | full _=>obtain⟨_,z,_⟩:=fa;exact⟨_,z⟩
    refine Xr (n:=n) kId B2.ins rfl ?_;refine⟨a,b,j',es',fs',f,B2,rfl,(),fa,λT3 B3 cg3=>h T3 es' _ B3 (K'.put hf' he' fok) (cg.trans ((Cg.pre p2).trans cg3)) () ?_⟩;by_cases c:es'.length=es.length
    .obtain⟨_,rfl⟩:=sh.2 c;refine .inr ⟨c,λz=>?_⟩;rw[yB ()] at z;exact fw (Option.some.inj z)
    .exact .inl (by have:=sh.1;lia)
   .have B2:=B'.pre p2;obtain⟨p,hp,wp⟩:=big;refine⟨e',e,p2 _ _ o'.2.2,p2 _ _ (o.cg cg).2.2,se',se,(),(),λT3 p3=>?_⟩;have B3:=B2.pre p3;refine ifN (λc=>?_) (λc=>?_)
    .refine⟨a,b,j',es',fs',e',B3,rfl,he',(),λz=>?_,(),λT4 k s hs ws' B4 cg4=>?_⟩
     .rw[z] at hp;cases hp
     .have w1:=ws'.1 p hp;unfold wd at w1 wp;refine h T4 _ _ B4 (K'.cut hf' he' hs () ()) (cg.trans ((Cg.pre p2).trans ((Cg.pre p3).trans cg4))) (by simp;lia) (.inl (by have:=sh.1;simp;lia))
    .refine h T3 es' fs' B3 K' (cg.trans ((Cg.pre p2).trans (.pre p3))) () (.inl ?_);have s1:=sh.1;by_cases z:es'.length=es.length
     .obtain⟨rfl,rfl⟩:=sh.2 z;rw[he] at he';cases he';have:=(MB se).2.2 p hp;lia
     .lia
  | small=>cases d2;exact done (by intro z;cases z)
  | one=>obtain⟨_,_,_,_,_,rfl⟩:=d2;exact done (by intro z;cases z)
  | cut _ _ _ _=>cases d2;exact done (by intro z;cases z)
  | out _ _=>obtain⟨_,rfl,_⟩:=d2;exact done (by intro z;cases z)
  | full _=>obtain⟨_,rfl,_⟩:=d2;exact done (by intro z;cases z)
noncomputable def zjr  (zcY:Dfz XS Jk PQ)(RC:Fmz 1 Zn.C Wg NS Bb)(HI:Fkz 15 "look" PH FH)(QI:Fmz 6 Zn.C q93 QF Js)(Sm:Fmz 1 Zn.C q5 ME FK):Fkz 16 XS PQ Bg:=
 mkF zcY O2 (λhr=>(Zb (Zk (i:=6) O2.nd (UC ⟨Zn.makes,Sm.m.at_,Sm.m.fn,Zn.kp⟩ Sm.ok (rmn hr) rfl Zn.m Sm.b Ul (pv 2))) (Zb (RT (i:=7) PassesOwn.never rfl O2.nd rfl (Or.inl rfl) rfl YQ (pv 5) (Zb (Zk (i:=8) O2.nd (Cr (C:=Zn.C) (dv 6) Zn.cl QI.m QI.ok (rmn hr) QI.b YD)) (Zb (Zy (Zs YY (dv 8) ZR (Zp _)) (Ze zce) ZE) (Ze (Z7 (Zh HI hr (pdv 6 (pdv 0 (pdv 1 (pdv 3 (pdv 4 (pv 8)))))))))))) (Ze (Zj (Cr (C:=Zn.C) (dv 6) Zn.cl RC.m RC.ok (rmn hr) RC.b YD)))))) λS Q ex=>by
  refine kR λnd=>kR λrw=>kR λbx=>kI λg=>kI λfine=>kI λlooks=>kN ?_
  rintro⟨u,t,ns,ws,rows,b0,R,hb,lu,sb,f1,⟨k0,k8⟩,ht,h⟩;have u4:=R.u1;refine⟨S,b0,rfl,rfl,hb,λU a b la lb pU B0=>⟨rfl,?_⟩⟩;have A:Apt nd rw a b:=⟨⟨by have:=ZV R.nd;lia,by have:=ZV R.nd;lia⟩,by have:=ZV R.rw;lia,by have:=ZV R.rw;lia⟩
  have RU:=R.pre pU
  have tt:=ZV ht
  have lU:S.length<U.length:=ZV B0.ins
  have back:∀ {S' T:Sto},Cg a b U S'->Pre S' T->Pre S T:=λ{S' T} cg p x o z=>p _ _ (cg.2 _ _ (by have:=ZV z;lia) (by have:=ZV z;lia) (pU _ _ z))
  refine⟨⟨(),()⟩,λk dl' S'=>(k:Int)<=looks/\∃(es:List LI)(fs:List Ft),Bk Zn.C S' S.length a b es fs/\Bks g fine ns rows b0 es fs/\Cg a b U S'/\es.length<=1+66*k/\(k=0->es=[b0]/\fs=[.wait])/\(0<k->es.length=1->fs[0]?≠some .wait)/\∃x7 x8:Option D,dl'=[sR nd,sR rw,sR bx,sI g,sI fine,sI looks,sR S.length,x7,x8],⟨(),[b0],[.wait],B0,.new,.refl,by simp,λ_=>⟨rfl,rfl⟩,λz=>absurd z (),_,_,rfl⟩,?_⟩;rintro k dl' S' ⟨hk,es,fs,B,K,cg,l9,c0,c1,x7,x8,rfl⟩;split
  .rename_i c;refine Xr (n:=S.length) kId B.ins rfl ?_;refine⟨a,b,t,es,fs,B,cg.2 _ _ () () (pU _ _ ht),(),λe he=>by rw[((K.ok sb).2 e he).1];lia,λnw T p=>?_,λi T hw p=>?_⟩
   .refine Xr (n:=S.length) kId (B.pre p).ins rfl ?_;refine⟨a,b,es,fs,B.pre p,(),λT2 ds p2 h2 en=>h T2 T.length ds es fs (back (cg.trans (.pre p)) p2) ?_ h2 en K () (λz=>absurd z ()) λ_ e1 z=>nw _ (zE z) rfl⟩;have:=YI p
    have:=cg.1;lia
   .have ll:=(K.ok sb).1
    have li:=(zA.mp hw).1
    have he:=zD (show i<es.length by lia);refine⟨a,b,i,u,ns,ws,rows,b0,_,es,fs,B.pre p,(RU.cg A cg).pre p,A,K,sb,lu,rfl,hw,he,f1,(),λT2 es' fs' B2 K2 cg2 l2 c2=>?_⟩;refine⟨(),es',fs',B2,K2,cg.trans ((Cg.pre p).trans cg2),(),λz=>absurd z (),λ_ e1=>?_,_,_,rfl⟩;rcases c2 with c2|⟨c2,c3⟩
    .lia
    .rw[show i=0 by lia] at c3;exact c3
  .rename_i c;refine Xr (n:=S.length) kId B.ins rfl ?_;refine⟨a,b,es,fs,B,(),λT2 ds p2 h2 en=>h T2 S'.length ds es fs (back cg p2) (by have:=cg.1;lia) h2 en K () (λz=>c0 ()) λz=>c1 ()⟩
noncomputable def zcG  (Au:Dfz q65 Tg MW)(Wh:Fkz 1 q31 Uu Rf):Fkz 2 q65 MW FN:=
 mkF Au Ub (λhr=>(Zb (SD (x:="_law_span") (N:=[]) (caps:=[]) (ar:=Zi Tg) rfl rfl csc rfl ⋯ (i:=4) Ub.nd rfl rfl (dv 1) pt0 (λ_ _ _ _ _ _=>(Zu (Za (piv 0) (Za Zd Zg))))) (Zb (SD (x:="_law_entry") (N:=[]) (caps:=[]) (ar:=Zi Tg) rfl rfl csc rfl ⋯ (i:=5) Ub.nd rfl rfl (dv 0) (λ_ _ _ _ _ _=>Nw (Zs (ZI hr) (Y2 (piv 0) Zd) ZP (Zp _))) (λ_ _ _ _ _ _=>(dv 0))) (Zb (Zy (B7 (dv 5)) (Zb (Zk (i:=6) Ub.nd (ZD (dv 5) (Zf YW (dv 3) (ZL (ZQ YZ) rfl Yv Boot.«len» (pv 5))))) (Zb (SD (x:="_law_span") (N:=["_law_cell"]) (caps:=[3]) (ar:=Zi Tg) rfl rfl csc rfl ⋯ (i:=4) Ub.nd rfl rfl (piv 6) pt0 (λ_ _ _ _ _ _=>(Zu (Za (ZD (dv 0) (Zf Z9 (Zf Yl (dv 1) Zd) Zd)) (Za Zd Zg))))) (Ze (UW (dv 4) (Y2 (piv 6) Zd) (Zu (Za (Y2 (piv 6) Zd) (Za Zd Zg))))))) ZE) (Zb (Zk (i:=7) Ub.nd (Yo Zg)) (Zb (W9 (i:=8) PassesOwn.never rfl Ub.nd rfl (Or.inl rfl) (dv 4) (Zb (Zk (i:=9) Ub.nd (Zh Wh hr (Za (piv 8) (pv 2)))) (Ze (Z7 (Ys (dv 7) (Zu (Za (Zf YB (piv 8) (dv 9)) (Za (Zf YB (dv 2) (dv 9)) Zg)))))))) (Ze (Zj (dv 7))))))))) λS Q ex=>by
  refine kR λmb=>kR λb=>kI λg=>kI λc=>kN ?_
  rintro⟨ds,es,fs,b0,q,B,hb,hc,h⟩;have hg:=B.hg
  have q4':=B.q4
  have sg:Sz 21 g:=Sz.of 1000000 ()
  have ln:=B.en.1
  have l9:=B.l9;obtain⟨lb,sb⟩:=B.sp b0 (zE B.tr.rt);refine Yi (λdl' S'=>Pre S S'/\∃(n:Nat)(zs:List Int),La S' n (zs.map z1D)/\zs.length=q/\Zin b0 zs/\dl'=[sR mb,sR b,sI g,sI c,sR n,none,none,none,none,none]) (λnx hx=>?_) ?_
  .refine Wm (n:=b) (S1:=S) (o:=.lst (b0.map frD)) (λd=>match d with|.tup [.int a,.int _]=>.tup [.int a,.int 1]|_=>.non) kId hb (by show (b0.map frD).length<=1000;rw[zB];lia) (λx hx S2 K pr hK=>?_) ?_
   .obtain⟨p,_,rfl⟩:=zP.mp (show x∈b0.map frD from hx);exact hK
   .refine hx _ _ ⟨Pre.refl.push,S.length,b0.map (·.1),?_,by rw[zB];exact lb,Zin.box (λk s hs=>⟨s,hs,zV _,zV _⟩) sb _ λ_=>.inl rfl,rfl⟩;refine(Zq _ _).trans ?_;show some (Ob.lst ((b0.map frD).map _))=_;rw[zY,zY];rfl
  rintro dl' S1 ⟨p1,n,zs,hn,lz,zin,rfl⟩;have B1:=B.pre p1;refine Yi (λdl' S'=>Pre S1 S'/\∃nc:Nat,La S' nc (ds.filterMap cuD)/\dl'=[sR mb,sR b,sI g,sI c,sR n,sR nc,none,none,none,none]) (λnx hx=>?_) ?_
  .refine Gp (n:=mb) (S1:=S1) (o:=.lst ds) cuD kId B1.bk (by show ds.length<=1000;lia) (λx hx S2 K pr hK=>?_) (λx hx y hy S2 K pr hK=>?_) ?_
   .obtain⟨i,hi⟩:=xM.mp (show x∈ds from hx);have li:=(zA.mp hi).1;obtain⟨m,e0,d,he,hd,hm,hc⟩:=B1.at (show i<es.length by lia);rw[Z6 (j:=i) hi] at hd;cases hd;have e1:∀(w:Str)(xs:List D),(cuD (.tup [.ref m,.tup (.str w::xs)])).isSome=decide (w="cut"):=λw xs=>by
     unfold cuD;dsimp only;by_cases c:w="cut"
     .rw[if_pos c,decide_eq_true c];rfl
     .rw[if_neg c,decide_eq_false c];rfl
    rcases hc with ⟨k,a,b,p,hf,rfl⟩|⟨_,w,hw,rfl|⟨_,rfl⟩|⟨_,_,rfl⟩|⟨_,_,_,_,_,rfl⟩⟩
    all_goals
     rw[e1] at hK;exact hK
   .have ey:y=x:=by
     unfold cuD at hy;split at hy
     .split at hy
      .exact(Option.some.inj hy).symm
      .cases hy
     .cases hy
    subst ey;exact hK
   .exact hx _ _ ⟨Pre.refl.push,S1.length,Zq _ _,rfl⟩
  rintro dl' S2 ⟨p2,nc,hcu,rfl⟩;have P2:=p1.trans p2
  have B2:=B.pre P2;refine Yi (λdl' S'=>Pre S S'/\∃(n:Nat)(zs:List Int)(u:Option D),La S' n (zs.map z1D)/\zs.length=q/\Zin b0 zs/\dl'=[sR mb,sR b,sI g,sI c,sR n,sR nc,u,none,none,none]) (λnx hx=>?_) ?_
  .refine zbc (n:=nc) kId hcu ?_;cases ec:ds.filterMap cuD with
   | nil=>exact YF (hx _ _ ⟨P2,n,zs,_,p2 _ _ hn,lz,zin,rfl⟩)
   | cons y ys=>
    refine YO ?_;refine Xn hcu ?_;have lc:0<(ds.filterMap cuD).length:=by rw[ec];simp
    have kr:=YK (a:=c) (b:=(((ds.filterMap cuD).length:Nat):Int)) ();obtain⟨j,ej⟩:∃j:Nat,c%(((ds.filterMap cuD).length:Nat):Int)=(j:Int):=⟨(c%(((ds.filterMap cuD).length:Nat):Int)).toNat,()⟩;have hj:=zD (show j<(ds.filterMap cuD).length by lia);obtain⟨i,m,k,a,b',p,e,he,ex,hm,hf⟩:=cu_is B2 (zE hj);rw[ex] at hj;refine⟨(),?_⟩;refine Zz (o:=.lst (ds.filterMap cuD)) hcu (by rw[ej];exact Z6 (j:=j) hj) ?_;obtain⟨e',s,q1,q2,q3,q4,_⟩:=B2.tr.ct _ _ _ _ _ hf;rw[he] at q1;cases q1
    obtain⟨le,se⟩:=B2.sp e (zE he);have sub:=B2.tr.sb e (zE he)
    have lk:=(zA.mp q2).1
    have c2:c/7%2=0\/c/7%2=1:=by lia
    refine Wm (n:=m) (S1:=S2) (o:=.lst (e.map frD)) (λd=>match d with|.tup [.int x,.int y]=>.tup [.int (if c/7%2=0 then x else y),.int 1]|_=>.non) kId hm (by show (e.map frD).length<=1000;rw[zB];lia) (λx hx S2 K pr hK=>?_) ?_
    .obtain⟨s,_,rfl⟩:=zP.mp (show x∈e.map frD from hx);rcases c2 with z|z
     .refine VY 0 z rfl ?_;have hK:K (.tup [.int (if c/7%2=0 then s.1 else s.2),.int 1]) S2:=hK;rw[if_pos z] at hK;exact hK
     .refine VY 1 z rfl ?_;have hK:K (.tup [.int (if c/7%2=0 then s.1 else s.2),.int 1]) S2:=hK;rw[if_neg ()] at hK;exact hK
    have el:(Zm (.lst (e.map frD))).map (λd=>match d with|.tup [.int x,.int y]=>.tup [.int (if c/7%2=0 then x else y),.int 1]|_=>.non)=(e.map λs=>if c/7%2=0 then s.1 else s.2).map z1D:=by
     show (e.map frD).map _=_;rw[zY,zY];rfl
    rw[el];refine V5 (n:=S2.length) (j:=k) (k:=(k:Int)) (xs:=(e.map λs=>if c/7%2=0 then s.1 else s.2).map z1D) (v:=z1D p) kId kId kId (Zq _ _) (Ez (by rw[zB,zB];exact lk)) ?_;refine hx _ _ ⟨YN (Xq P2 _) (YI P2),S2.length,(e.map λs=>if c/7%2=0 then s.1 else s.2).set k p,_,?_,by simp[le],(Zin.box sub se _ λs=>by by_cases z:c/7%2=0<;>simp[z]).put (by simp[lk]) λs0 h0=>?_,rfl⟩
    .rw[vL];exact Yd (Zq _ _)
    .obtain⟨s1,a1,a2,a3⟩:=sub k s q2;rw[h0] at a1;cases a1;lia
  rintro dl' S3 ⟨p3,n,zs,u,hn,lz,zin,rfl⟩;have zs51:∀z∈zs,Sz 61 z:=λz hz=>by
   obtain⟨k,hk⟩:=xM.mp hz;have lk:=(zA.mp hk).1
   have h0:=zD (show k<b0.length by lia)
   have s0:=sb _ (zE h0);obtain⟨a1,a2⟩:=zin k _ z h0 hk;exact(Sz.mid s0.2.1 s0.2.2 a1 a2).mono ⋯
  refine Ve (n:=n) (o:=.lst (zs.map z1D)) (λk dl' S'=>Pre S3 S'/\∃(pt:LP2)(u8 u9:Option D),La S' S3.length (pt.map frD)/\Pk k pt/\Inb b0 pt g/\dl'=[sR mb,sR b,sI g,sI c,sR n,sR nc,u,sR S3.length,u8,u9]) ⟨Pre.refl.push,[],none,none,Zq _ _,.nil,.nil,rfl⟩ (λk dl' S' z=>z.1 _ _ hn) ?_ ?_
  .rintro k x dl' S' nx ct hx ⟨pr,pt,u8,u9,hf,pk,ib,rfl⟩ hn';have hx':(zs.map z1D)[k]?=some x:=hx;rw[zF] at hx';obtain⟨z,hz,rfl⟩:=zG.mp hx';have lk:=(zA.mp hz).1
   have h0:=zD (show k<b0.length by lia);obtain⟨a1,a2⟩:=zin k _ z h0 hz;have L:=JC hg (w:=1) ⋯ (zs51 z (zE hz));simp only[xN] at L;obtain⟨⟨d1,zd⟩,d2,d3,d4,d5,d6⟩:=L;have I:=Bm (lo:=b0[k].1) (hi:=b0[k].2) (top:=z) (w:=1) (g:=g) () () hg.1 d1 d2 (by rw[xN];exact d3);rw[xN] at I;refine YC (n:=S3.length) (S1:=S') (xs:=pt.map frD) (y:=frD (_,_)) kId hf (λK hK=>⟨zd.fd (),zd.fd (),hK⟩) (by rw[zB,pk.ln];lia) ?_;refine hn' _ _ ⟨YN pr (zC _),pt++[(_,_)],_,_,?_,pk.snoc ⟨d4,d5,d6⟩,ib.snoc (by rw[pk.ln];exact h0) I,rfl⟩;rw[yA];exact Yd hf
  .rintro dl' S' ⟨pr,pt,u8,u9,hf,pk,ib,rfl⟩;have pk':Pk zs.length pt:=by
    have z:Pk (zs.map z1D).length pt:=pk
    rwa [zB] at z
   exact h _ _ pt (p3.trans pr) (by have:=YI p3;lia) hf (lz ▸ pk') ib
noncomputable def zfs  (zaT:Dfz XE Ho Om):Fkz 1 XE Om Ek:=
 mkF zaT zb5 (λhr=>(Ze (Zj (FD Wy Wy (Zf ZF (piv 0) (piv 1)) (Zf ZF (piv 1) (dv 2)) (Zf ZF (piv 0) (piv 1)))))) λS Q ex=>by
  refine kP λ_ _=>kP λ_ _=>kI λ_=>kN ?_
  rintro⟨⟨m1,m2,m3⟩,h⟩;refine⟨m1,m2,ifD (λe=>?_) (λe=>?_)⟩
  .rw[decide_eq_true e,xZ] at h;exact⟨m3,h⟩
  .rw[decide_eq_false e,xB] at h;exact h
noncomputable def zgr  (ziR:Dfz We OO Mn)(JG:Fkz 1 XE Om Ek):Fkz 2 We Mn Ca:=
 mkG ziR zgv (λhr=>(Ze (Zj (ZL (ZQ (Qc rfl)) rfl VL Boot.«all» (Za (Qj (x1:="span") (x2:="number") (N:=["grid"]) (caps:=[2]) (ar:=Zi OO) rfl rfl WK rfl rfl rfl ⋯ rfl Wn Boot.«zip» (pdv 0 (pv 1)) (λ_ _ _ _ _ _=>(Zh JG hr (pdv 0 (pdv 1 (pv 2)))))) Zg))))) λS Q0 ex0=>by
  refine kR λb=>kR λp=>kI λg=>kN ?_
  rintro⟨e,pt,q,hb,hp,le,q4,se,pk,hg,h⟩;have sg:Sz 21 g:=Sz.of 1000000 ();refine TL (n:=b) (n':=p) (S1:=S) (xs:=e.map frD) (ys:=pt.map frD) (inD g) kId hb hp (by rw[zB];lia) (λk x y hx hy S2 K pr hK=>?_) ?_
  .rw[zF] at hx hy;obtain⟨s,hs,rfl⟩:=zG.mp hx;obtain⟨a,ha,rfl⟩:=zG.mp hy;have z1:=se s (zE hs)
   have z2:=pk.ok a (zE ha)
   have m1:IntMulOk s.1 a.2:=ZC z1.2.1 z2.2.2
   have m2:IntMulOk a.1 g:=ZC z2.2.1 sg
   have m3:IntMulOk s.2 a.2:=ZC z1.2.2 z2.2.2;exact⟨⟨m1,m2,m3⟩,hK⟩
  .refine Qd (n:=S.length) (o:=.lst _) (Zq _ _) (Ij g e pt) ?_;exact⟨Pre.refl.push,.bl _,h _ Lo⟩
noncomputable def zcs  (ze5:Dfz q24 LK NA):Fkz 1 q24 NA Dx:=
 mkF ze5 NB (λhr=>(Zb (Qk PassesOwn.never (Zs (Kd hr) (dv 1) Zd (Zp _)) (Zb (Zk (i:=2) NB.nd (Zf YW (dv 0) (dv 1))) (Zb (Zk (i:=0) NB.nd (dv 1)) (Ze (Zk (i:=1) NB.nd (dv 2)))))) (Ze (Zj (dv 0))))) λS Q ex=>by
  refine kI λa=>kI λb=>kN ?_
  rintro⟨⟨ha,hb⟩,h⟩;refine⟨λm dl' S'=>S'=S/\∃(x y:Int)(o:Option D),dl'=[sI x,sI y,o]/\0<=x/\0<=y/\Int.gcd x y=Int.gcd a b/\m=y.toNat,⟨b.toNat,rfl,a,b,none,rfl,ha,hb,rfl,rfl⟩,?_⟩;rintro m dl' S' ⟨rfl,x,y,o,rfl,hx,hy,hg,rfl⟩;refine ifN (λc=>?_) (λc=>?_)
  .have c':0<y:=by lia
   exact⟨c',⟨(x%y).toNat,by have:=YK (a:=x) c';lia,rfl,y,x%y,_,rfl,hy,(YK (a:=x) c').1,(DG x y).trans hg,rfl⟩⟩
  .subst c;have e:((Int.gcd a b:Nat):Int)=x:=by rw[<- hg,uR];lia
   rw[e] at h;exact h
noncomputable def zeF  (zd4:Dfz q89 KD PB)(UZ:Kit e.K "bool")(Sx:Kit e.K "int"):Fkz 1 q89 PB ET:=
 mkF zd4 zdJ (λhr=>(Ze (Zj (Qq (Oh Sx rfl VR rfl Tf Boot.«int» (dv 0)) (Ti (DH (Oh UZ rfl VR rfl TZ Boot.«bool» (dv 0)))))))) λS Q ex=>by
  refine kI λ_=>kN λh=>?_
  exact h
noncomputable def zcy  (zao:Dfz q90 LN OB)(Ls:Fkz 1 q24 NA Dx)(MG:Fkz 1 q89 PB ET):Fkz 2 q90 OB Cz:=
 mkF zao GF (λhr=>(Zb (Zy (PDW.pt (WR (Vz (Y4 (Zh MG hr (pv 0)))) (WR (Vz (Y4 (Zh MG hr (pv 1)))) (SS (Zs (ZI hr) (dv 1) Zd (Zp _)))))) (Ze Es) ZE) (Zb (Zk (i:=2) GF.nd (Zh Ls hr (Za (ZL Rv rfl Vh Boot.«abs» (pv 0)) (Za (ZL Rv rfl Vh Boot.«abs» (pv 1)) Zg)))) (Zb (Zy (Zs YS (dv 1) Zd (Zp _)) (Ze (Zk (i:=2) GF.nd (Wf Wb (dv 2)))) ZE) (Ze (Zj (Zu (Za (Zf JH (dv 0) (dv 2)) (Za (Zf JH (dv 1) (dv 2)) Zg))))))))) λS Q ex=>by
  refine kI λT=>kI λB=>kN ?_
  rintro⟨⟨hB,sB⟩,h⟩;have e:((Int.gcd (Yx T) (Yx B):Nat):Int)=((Int.gcd T B:Nat):Int):=by rw[Fs]
  have sg:Sz 4000 ((Int.gcd T B:Nat):Int):=by
   have gle:Int.gcd T B<=B.natAbs:=Nat.le_of_dvd () (Int.gcd_dvd_natAbs_right T B);unfold Sz at sB ⊢;lia
  refine ifD (λc=>absurd c hB) (λc=>?_);refine⟨⟨Nr T,Nr B⟩,?_⟩;refine ifD (λc2=>?_) (λc2=>?_)
  .have f:=Ew (T:=T) (B:=B) (d:=-((Int.gcd (Yx T) (Yx B):Nat):Int)) hB (by rw[if_pos c2,e]);obtain⟨f1,f2,f3,f4,f5,f6⟩:=f;have s2:Sz 4000 (-((Int.gcd (Yx T) (Yx B):Nat):Int)):=by rw[e];exact sg.neg
   exact⟨⟨f1,s2.log f1⟩,⟨f1,s2.log f1⟩,h _ _ f4 f6 f5 (Pn f1 f2) (Pn f1 f3)⟩
  .have f:=Ew (T:=T) (B:=B) (d:=((Int.gcd (Yx T) (Yx B):Nat):Int)) hB (by rw[if_neg c2,e]);obtain⟨f1,f2,f3,f4,f5,f6⟩:=f;have s2:Sz 4000 ((Int.gcd (Yx T) (Yx B):Nat):Int):=by rw[e];exact sg
   exact⟨⟨f1,s2.log f1⟩,⟨f1,s2.log f1⟩,h _ _ f4 f6 f5 (Pn f1 f2) (Pn f1 f3)⟩
noncomputable def zdM  (zfJ:Dfz Wa HK NI)(TY:Fkz 1 "less" RW IB)(HL:Fkz 2 q90 OB Cz)(KC:Fkz 2 We Mn Ca):Fkz 3 Wa NI CJ:=
 mkG zfJ S8 (λhr=>(Zb (Zy (Vz (Y4 (Zh KC hr (Za (Y2 (ZD (dv 0) Zd) Zd) (pdv 1 (pv 2)))))) (Ze (Zj ZR)) ZE) (Zb (Zk (i:=3) S8.nd Zd) (Zb (Zk (i:=4) S8.nd (Y2 (ZD (dv 0) Zd) Zd)) (Zb (Qk PassesOwn.never (Zs (ZI hr) (piv 4) ZP (Zp _)) (Zb (Zk (i:=5) S8.nd (Zh TY hr (Za (Zh HL hr (Za (piv 4) (pv 2))) (Za (ZD (dv 1) (piv 4)) Zg)))) (Zb (Zk (i:=3) S8.nd (X6 (Y4 (dv 5)) (piv 4) (piv 4))) (Ze (Zk (i:=4) S8.nd (Y2 (ZD (dv 0) (dv 3)) Zd)))))) (Ze (Zj (dv 3)))))))) λS Q0 ex0=>by
  refine kR λmb=>kR λp=>kI λg=>kN ?_
  rintro⟨ds,es,fs,b0,q,pt,B,h,hN⟩;have e0:0<es.length:=(zA.mp B.tr.rt).1
  have sg:Sz 21 g:=Sz.of 1000000 (by have:=B.hg;lia)
  have hg:=B.hg
  have q4':=B.q4;obtain⟨mm,e,d,he,hd,hm,hc⟩:=B.at e0;have h0:=B.tr.rt;rw[he] at h0;cases h0
  obtain⟨ee,se⟩:=B.sp _ (zE he);refine Zz (o:=.lst ds) B.bk hd ?_;refine⟨_,pt,q,hm,B.pp,ee,B.q4.2,se,B.pk,hg,λbb hB=>?_⟩;cases bb with
  | false=>exact⟨Pre.refl,.non,hN λz=>zI (hB.mpr z)⟩
  | true=>
   have h:=h (hB.mp rfl);refine Zz (o:=.lst ds) B.bk hd ?_;refine⟨λm dl' S'=>S'=S/\∃(i:Nat)(mm:Nat)(d:D)(u:Option D),dl'=[sR mb,sR p,sI g,sI (i:Int),some d,u]/\i<es.length/\atI ds (i:Int)=some (.tup [.ref mm,d])/\m=es.length-i/\∀r,Lf fs pt g i r->Lf fs pt g 0 r,⟨es.length,rfl,0,mm,d,none,rfl,e0,hd,rfl,λr z=>z⟩,?_⟩;clear hd hc hm;rintro m dl' S' ⟨rfl,i,mm,d,u,rfl,hi,hd,rfl,hl⟩;obtain⟨mm',e,d',he,hd',hm,hc⟩:=B.at hi;rw[hd] at hd';cases hd';rcases hc with ⟨k,a,b,x,hf,rfl⟩|⟨nf,w,hw,sh⟩
   .obtain⟨e',s,q1,q2,q3,q4,q5,q6,q7,q8⟩:=B.tr.ct _ _ _ _ _ hf;rw[he] at q1;cases q1
    obtain⟨ee,se⟩:=B.sp e (zE he);have lk:=(zA.mp q2).1;obtain⟨y,hy,y1,y2,y3⟩:=B.pk.at (k:=k) ();have ss:=se s (zE q2)
    have zx:Sz 51 x:=Sz.mid ss.2.1 ss.2.2 () ();refine⟨⟨(),sg.mono ⋯⟩,λt bb b1 et _ zt zb=>?_⟩;have zt':Sz 51 t:=by unfold Sz at *;lia
    have zb':Sz 21 bb:=by unfold Sz at *;lia
    refine Zz (o:=.lst (pt.map frD)) B.pp (Z6 (j:=k) (v:=frD y) (by show (pt.map frD)[k]?=_;rw[zF,hy];rfl)) ?_;refine⟨⟨ZC zt' y3,ZC y2 zb'⟩,?_⟩;have gy:=Na hy
    have li:=zaz (x:=y.1) (y:=y.2) b1 hg.1 et;refine ifD (λc2=>?_) (λc2=>?_)
    .have lb:=(zA.mp q8).1;obtain⟨m2,_,d2,_,hd2,_,_⟩:=B.at lb;refine Zz (o:=.lst ds) B.bk hd2 ?_;exact⟨es.length-b,(),rfl,b,m2,d2,_,rfl,lb,hd2,rfl,λr z=>hl r (.high hf (by rw[gy];exact li.mp c2) z)⟩
    .have la:=(zA.mp q7).1;obtain⟨m2,_,d2,_,hd2,_,_⟩:=B.at la;refine Zz (o:=.lst ds) B.bk hd2 ?_;exact⟨es.length-a,(),rfl,a,m2,d2,_,rfl,la,hd2,rfl,λr z=>hl r (.low hf (by rw[gy];exact Classical.not_not.mp λz=>c2 (li.mpr z)) z)⟩
   .rcases sh with rfl|⟨_,rfl⟩|⟨_,_,rfl⟩|⟨_,_,_,_,_,rfl⟩
    all_goals exact ifD (λc=>absurd c hw) (λ_=>⟨Pre.refl,.int _,h i hi (hl i (.leaf nf))⟩)
noncomputable def zan  (zcI:Dfz q78 HF Mw)(Wh:Fkz 1 q31 Uu Rf):Fkz 2 q78 Mw CY:=
 mkF zcI U0 (λhr=>(Zb (Zk (i:=3) U0.nd (Yo Zg)) (Zb (QR (is:=[4,5]) PassesOwn.never rfl U0.nd (Nms.cons (i:=4) rfl (Or.inl rfl) (by first|exact .inl rfl|exact .inr rfl) (Nms.cons (i:=5) rfl (Or.inl rfl) (by first|exact .inl rfl|exact .inr rfl) Nms.nil)) rfl rfl XF Boot.«enumerate» (pv 0) (Zb (Zk (i:=6) U0.nd (Zf ZX Zd (Zf Z9 (ZD (dv 2) (dv 4)) Zd))) (Zb (Zk (i:=7) U0.nd (Zf ZX (Zf ZF (piv 5) (dv 6)) (Zf ZF (Zf Yp (piv 5) (piv 5)) (Zf YW (Zf Yl (ZD (dv 2) (dv 4)) Zd) (Zf ZX (dv 6) Zd))))) (Zb (Zk (i:=8) U0.nd (Zh Wh hr (pdv 7 (Za (Zf ZF (dv 1) (dv 6)) Zg)))) (Ze (Z7 (Ys (dv 3) (Zu (Za (Zf YB (dv 7) (dv 8)) (Za (Zf YB (Zf ZF (dv 1) (dv 6)) (dv 8)) Zg)))))))))) (Ze (Zj (dv 3)))))) λS Q ex=>by
  refine kR λb=>kI λg=>kR λc=>kN ?_
  rintro⟨q,bs,xs,hb,hc,lb,q4,sb,lx,hg,h⟩;have sg:Sz 21 g:=Sz.of 1000000 ()
  have P0:Pre S (S++[Ob.lst []]):=Pre.refl.push;refine Rg (n:=b) (S1:=S++[Ob.lst []]) (xs:=bs.map frD) (λk dl' S'=>Pre S S'/\∃(pt:LP2)(u4 u5 u6 u7 u8:Option D),La S' S.length (pt.map frD)/\Pk k pt/\Inb bs pt g/\dl'=[sR b,sI g,sR c,sR S.length,u4,u5,u6,u7,u8]) kId (λk dl' S' z=>z.1 _ _ hb) ⟨P0,[],none,none,none,none,none,Zq _ _,.nil,.nil,rfl⟩ ?_ ?_
  .rintro k x dl' S' nx ct hx ⟨pr,pt,u4,u5,u6,u7,u8,hf,pk,ib,rfl⟩ hn;rw[zF] at hx;obtain⟨s,hs,rfl⟩:=zG.mp hx;have hk:=(zA.mp hs).1
   have ss:=sb s (zE hs)
   have hc':=pr _ _ hc
   have hx:xs[k]?=some xs[k]:=zD ();generalize xs[k]=v at hx;have ex:atI (xs.map D.int) (k:Int)=some (.int v):=Z6 (j:=k) (by rw[zF,hx];rfl);refine Zz (o:=.lst (xs.map D.int)) hc' ex ?_;have r9:0<=v%9/\v%9<9:=⟨(),()⟩;refine⟨ZC ss.2.1 (Sz.of (n:=21) 1000000 ()),?_⟩;refine Zz (o:=.lst (xs.map D.int)) hc' ex ?_;have jr:=YK (a:=v/9) (b:=1+v%9+1) ();refine⟨show (0:Int)<1+v%9+1 by lia,ZC (ss.2.2.sub ss.2.1) (Sz.of (n:=21) 1000000 ()),?_⟩;refine⟨ZC sg (Sz.of (n:=21) 1000000 ()),?_⟩;obtain⟨t1,t2⟩:=zid (w:=1+v%9) ss.1 jr.1 ();have z9:Sz 10 (1+v%9):=Sz.of 1000 ()
   have zt:Sz 61 (s.1*(1+v%9)+(s.2-s.1)*(v/9%(1+v%9+1))):=Sz.mid (ss.2.1.mul z9) (ss.2.2.mul z9) t1 t2;obtain⟨⟨d1,zd⟩,d2,d3,d4,d5,d6⟩:=JC hg (w:=1+v%9) () zt;refine YC (n:=S.length) (S1:=S') (xs:=pt.map frD) (y:=frD (_,_)) kId hf (λK hK=>⟨zd.fd (),ZC sg z9,zd.fd (),hK⟩) (by rw[zB,pk.ln];lia) ?_;refine hn _ _ ⟨YN pr (zC _),pt++[(_,_)],_,_,_,_,_,?_,pk.snoc ⟨d4,d5,d6⟩,ib.snoc (by rw[pk.ln];exact hs) (Bm t1 t2 hg.1 d1 d2 d3),rfl⟩;rw[yA];exact Yd hf
  .rintro dl' S' ⟨pr,pt,u4,u5,u6,u7,u8,hf,pk,ib,rfl⟩;rw[zB] at pk;exact h _ _ pt pr (zC _) hf (lb ▸ pk) ib
noncomputable def zda  (zfO:Dfz q77 J7 N0):Fkz 1 q77 N0 ES:=
 mkF zfO AN (λhr=>(Ze (Zj (Yo (pdv 0 (Za (Zf Yl (dv 0) Zd) (Za (Zf Yl (dv 0) Zd) (Za (Zf Yl (dv 0) Zd) Zg)))))))) λS Q ex=>by
  refine kI λc=>kN λh=>?_
  exact h [c,c/97,c/523,c/9409] rfl
noncomputable def ziN  (zc8:Dfz q74 Kr My)(UZ:Kit e.K "bool")(Sx:Kit e.K "int"):Fkz 1 q74 My EI:=
 mkF zc8 zdg (λhr=>(Ze (Zj (Qq (Oh Sx rfl VR rfl Tf Boot.«int» (dv 0)) (Ti (DH (Oh UZ rfl VR rfl TZ Boot.«bool» (dv 0)))))))) λS Q ex=>by
  refine kI λ_=>kN λh=>?_
  exact h
noncomputable def zgJ  (AF:Dfz q64 J5 Pt):Fkz 1 q64 Pt DZ:=
 mkF AF Tw (λhr=>(Zb (Zk (i:=3) Tw.nd Zd) (Zb (Qk PassesOwn.never (Zs (ZI hr) (Y2 (Y2 (ZD (dv 0) (dv 3)) Zd) Zd) ZP (Zp _)) (Zb (Zk (i:=4) Tw.nd (Y2 (ZD (dv 0) (dv 3)) Zd)) (Zb (Zk (i:=5) Tw.nd (ZD (dv 1) (piv 4))) (Ze (Zy (Zs Wy (Zf ZF (piv 5) (dv 2)) (Zf ZF (piv 4) (piv 5)) (Zp _)) (Ze (Zk (i:=3) Tw.nd (piv 4))) (Ze (Zk (i:=3) Tw.nd (piv 4)))))))) (Ze (Zj (dv 3)))))) λS Q ex=>by
  refine kR λmb=>kR λp=>kI λg=>kN ?_
  rintro⟨ds,es,fs,b0,q,pt,B,h⟩;have e0:0<es.length:=(zA.mp B.tr.rt).1
  have sg:Sz 21 g:=Sz.of 1000000 (by have:=B.hg;lia)
  have q4':=B.q4;refine⟨λm dl' S'=>S'=S/\∃(i:Nat)(u v:Option D),dl'=[sR mb,sR p,sI g,sI (i:Int),u,v]/\i<es.length/\m=es.length-i/\∀r,Lf fs pt g i r->Lf fs pt g 0 r,⟨es.length,rfl,0,none,none,rfl,e0,rfl,λr z=>z⟩,?_⟩;rintro m dl' S' ⟨rfl,i,u,v,rfl,hi,rfl,hl⟩;obtain⟨mm,e,d,he,hd,hm,⟨k,a,b,x,hf,rfl⟩|⟨nf,w,hw,sh⟩⟩:=B.at hi
  .refine Zz (o:=.lst ds) B.bk hd ?_;obtain⟨e',s,q1,q2,q3,q4,q5,q6,q7,q8⟩:=B.tr.ct _ _ _ _ _ hf;rw[he] at q1;cases q1
   obtain⟨ee,se⟩:=B.sp e (zE he);have lk:=(zA.mp q2).1;obtain⟨y,hy,y1,y2,y3⟩:=B.pk.at (k:=k) ();have ss:=se s (zE q2)
   have zx:Sz 51 x:=Sz.mid ss.2.1 ss.2.2 () ();refine Zz (o:=.lst ds) B.bk hd ?_;refine Zz (o:=.lst (pt.map frD)) B.pp (Z6 (j:=k) (v:=frD y) (by show (pt.map frD)[k]?=_;rw[zF,hy];rfl)) ?_;refine⟨ZC y2 sg,ZC zx y3,?_⟩;have gy:=Na hy;refine ifD (λc2=>?_) (λc2=>?_)
   .have la:=(zA.mp q7).1;exact⟨es.length-a,(),rfl,a,_,_,rfl,la,rfl,λr z=>hl r (.low hf (by rw[gy];exact c2) z)⟩
   .have lb:=(zA.mp q8).1;exact⟨es.length-b,(),rfl,b,_,_,rfl,lb,rfl,λr z=>hl r (.high hf (by rw[gy];exact c2) z)⟩
  .rcases sh with rfl|⟨_,rfl⟩|⟨_,_,rfl⟩|⟨_,_,_,_,_,rfl⟩
   all_goals
    refine Zz (o:=.lst ds) B.bk hd ?_;exact ifD (λc=>absurd c hw) (λ_=>h i hi (hl i (.leaf nf)))
noncomputable def zff  (zeq:Dfz q63 Mo P7):Fkz 1 q63 P7 BI:=
 mkG zeq zfi (λhr=>(Ze (Zj (ZL (ZQ (Qc rfl)) rfl VL Boot.«all» (Za (Qj (x1:="_law_span") (x2:="_law_a") (N:=["_law_grid_here"]) (caps:=[2]) (ar:=Zi Mo) rfl rfl WK rfl rfl rfl ⋯ rfl Wn Boot.«zip» (pdv 0 (pv 1)) (λ_ _ _ _ _ _=>(Qq (Xz Wy (Zf ZF (piv 0) (piv 1)) (Zf ZF (piv 1) (dv 2)) (Zp _)) (Ti (Xz Wy (Zf ZF (piv 1) (dv 2)) (Zf ZF (piv 0) (piv 1)) (Zp _)))))) Zg))))) λS Q0 ex0=>by
  refine kR λb=>kR λp=>kI λg=>kN ?_
  rintro⟨e,pt,q,hb,hp,le,q4,se,pk,hg,h⟩;have sg:Sz 21 g:=Sz.of 1000000 ();refine TL (n:=b) (n':=p) (S1:=S) (xs:=e.map frD) (ys:=pt.map frD) (inD g) kId hb hp (by rw[zB];lia) (λk x y hx hy S2 K pr hK=>?_) ?_
  .rw[zF] at hx hy;obtain⟨s,hs,rfl⟩:=zG.mp hx;obtain⟨a,ha,rfl⟩:=zG.mp hy;have z1:=se s (zE hs)
   have z2:=pk.ok a (zE ha)
   have m1:IntMulOk s.1 a.2:=ZC z1.2.1 z2.2.2
   have m2:IntMulOk a.1 g:=ZC z2.2.1 sg
   have m3:IntMulOk s.2 a.2:=ZC z1.2.2 z2.2.2;refine⟨m1,m2,ifD (λc=>⟨m2,m3,?_⟩) (λc=>?_)⟩
   .have z:inD g (frD s) (frD a)=.bl (decide (a.1*g<=s.2*a.2)):=by
     show D.bl (decide (s.1*a.2<=a.1*g)&&_)=_;rw[decide_eq_true c,xZ]
    rw[z] at hK;exact hK
   .have z:inD g (frD s) (frD a)=.bl false:=by
     show D.bl (decide (s.1*a.2<=a.1*g)&&_)=_;rw[decide_eq_false c,xB]
    rw[z] at hK;exact hK
  .refine Qd (n:=S.length) (o:=.lst _) (Zq _ _) (Ij g e pt) ?_;exact⟨Pre.refl.push,.bl _,h _ Lo⟩
noncomputable def A4  (zi3:Dfz q54 Ip Mb)(Wh:Fkz 1 q31 Uu Rf):Fkz 2 q54 Mb Dn:=
 mkF zi3 Rc (λhr=>(Zb (Zk (i:=4) Rc.nd (Zf YW (dv 3) (ZL (ZQ YZ) rfl Yv Boot.«len» (pv 1)))) (Zb (Zk (i:=5) Rc.nd (Zf Yp (Zf ZF (Y2 (ZD (dv 1) (dv 4)) Zd) Zd) Zd)) (Zb (Zy (Zs (ZI hr) (Zf Z9 (Zf Yl (dv 3) Zd) Zd) Zd (Zp _)) (Ze (Zk (i:=5) Rc.nd (Zf ZX (Zf ZF (Y2 (ZD (dv 1) (dv 4)) Zd) Zd) Zd))) ZE) (Zb (Zk (i:=6) Rc.nd (Zh Wh hr (pdv 5 (Za (Zf ZF (dv 2) Zd) Zg)))) (Zb (Zk (i:=7) Rc.nd (W3 (ZQ Vf) rfl Xp Boot.«list» (pv 0))) (Zb (UW (dv 7) (dv 4) (Zu (Za (Zf YB (dv 5) (dv 6)) (Za (Zf YB (Zf ZF (dv 2) Zd) (dv 6)) Zg)))) (Ze (Zj (dv 7)))))))))) λS Q ex=>by
  refine kR λp=>kR λb=>kI λg=>kI λc=>kN ?_
  rintro⟨q,pt,bs,hp,hb,lb,q4,sb,pk,hg,h⟩;have sg:Sz 21 g:=Sz.of 1000000 ()
  have lp:=pk.ln;refine Yi (λdl' S'=>S=S'/\∃k:Nat,k<bs.length/\dl'=[sR p,sR b,sI g,sI c,sI (k:Int),none,none,none]) (λnx hx=>?_) ?_
  .refine Xn hb ?_;rw[zB];have kr:=YK (a:=c) (b:=((bs.length:Nat):Int)) ();obtain⟨k,ek⟩:∃k:Nat,c%((bs.length:Nat):Int)=(k:Int):=⟨(c%((bs.length:Nat):Int)).toNat,()⟩;exact⟨(),hx _ _ ⟨rfl,k,(),by rw[<- ek];rfl⟩⟩
  rintro dl' S' ⟨rfl,k,kr,rfl⟩;have hs:bs[k]?=some bs[k]:=zD ();generalize bs[k]=s at hs;have ss:=sb s (zE hs)
  have es:atI (bs.map frD) (k:Int)=some (frD s):=Z6 (j:=k) (by rw[zF,hs];rfl)
  have z3:Sz 10 (3:Int):=Sz.of 1000 ⋯
  have big:∀x d:Int,Sz 51 x->d.natAbs<=1->Sz 61 (x*3+d):=λx d h1 h2=>by unfold Sz at *;lia
  refine Kh (λdl' S'=>S=S'/\∃top:Int,Sz 61 top/\(top<s.1*3\/s.2*3<top)/\dl'=[sR p,sR b,sI g,sI c,sI (k:Int),sI top,none,none]) (λnx hx=>?_) ?_
  .refine Zz (o:=.lst (bs.map frD)) hb es ?_;refine⟨ZC ss.2.1 z3,?_⟩;refine ifD (λ_=>?_) (λ_=>?_)
   .refine Zz (o:=.lst (bs.map frD)) hb es ?_;exact⟨ZC ss.2.2 z3,hx _ _ ⟨rfl,s.2*3+1,big _ 1 ss.2.2 ⋯,.inr (),rfl⟩⟩
   .exact hx _ _ ⟨rfl,s.1*3-1,big _ (-1) ss.2.1 ⋯,.inl (),rfl⟩
  rintro dl' S' ⟨rfl,top,zt,ht,rfl⟩;obtain⟨⟨d1,zd⟩,d2,d3,d4,d5,d6⟩:=JC hg (w:=3) ⋯ zt;refine⟨ZC sg z3,?_⟩;refine WH (ZM hp rfl) ?_;refine V5 (n:=S.length) (j:=k) (k:=(k:Int)) (xs:=pt.map frD) (v:=frD (_,_)) (λK hK=>⟨zd.fd (),ZC sg z3,zd.fd (),hK⟩) kId kId (Zq _ _) (Ez (by rw[zB];lia)) ?_;have lo:=Br (x:=s.1) hg.1 d1 d2 d3
  have hi:=Br (x:=s.2) hg.1 d1 d2 d3;refine h _ _ (pt.set k (_,_)) (YN Pre.refl.push (zC _)) (zC _) ?_ (pk.put ⟨d4,d5,d6⟩) (zfU hs () λz=>?_)
  .rw[vL];exact Yd (Zq _ _)
  .rcases ht with c|c
   .exact lo.1 c z.1
   .exact hi.2 c z.2
noncomputable def zcB  (FX:Dfz "law" Vs Hm)(OT:Fkz 3 Wa NI CJ)(ID:Fkz 2 q54 Mb Dn)(Yu:Fkz 1 q41 Tt P6)(J1:Fkz 1 q63 P7 BI)(Gu:Fkz 1 q64 Pt DZ)(L5:Fkz 1 q74 My EI)(GN:Fkz 2 q78 Mw CY)(HM:Fkz 1 q77 N0 ES)(GX:Fkz 2 q65 MW FN)(Gh:Fkz 16 XS PQ Bg)(GA:Fkz 4 q87 OM ER)(IE:Fkz 2 q99 Oq Ey)(Iq:Fkz 2 XX NZ DP)(HR:Fkz 1 q88 Nz Ej):Fkz 17 "law" Hm (Q7 LT LP LQ):=
 FX.mk' (VW (k:=16) FX.F Xd zgy λ_ _ _ _ _ _ _ hr=>⟨_,(Zb (Zk (i:=1) Xd.nd (ZD (Zu (Za Zd (Za Zd (Za Zd (Za Zd (Za Zd (Za Zd Zg))))))) (Zf Z9 (Zh Yu hr (pdv 0 (Za Zd Zg))) Zd))) (Zb (Zk (i:=2) Xd.nd (Zh HR hr (Za (Zh Yu hr (pdv 0 (Za Zd Zg))) Zg))) (Zb (Zk (i:=3) Xd.nd (Zh Iq hr (pdv 0 (pv 1)))) (Zb (Zk (i:=4) Xd.nd (Zh IE hr (Za (zdj (x:="_law_k") (N:=["_law_script"]) (caps:=[0]) (ar:=Zi Vs) rfl rfl csc rfl ⋯ rfl YQ (Za Zd (Za (ZL (Vu rfl) rfl Xv Boot.«min» (Za (ZL (ZQ YZ) rfl Yv Boot.«len» (pv 0)) (Za Zd Zg))) Zg)) pt0 (λ_ _ _ _ _ _=>(Zh Yu hr (pdv 1 (pv 0))))) (pv 1)))) (Zb (Zk (i:=5) Xd.nd (Zh GA hr (pdv 0 (pdv 4 (pdv 3 (pv 2)))))) (Zb (Zk (i:=6) Xd.nd (Zf ZX Zd (Zf Z9 (Zh Yu hr (pdv 0 (Za Zd Zg))) Zd))) (Zb (Zk (i:=7) Xd.nd (Zf Z9 (Zh Yu hr (pdv 0 (Za Zd Zg))) Zd)) (Zb (Zy (Zs WB (dv 1) Zd (Zp _)) (Ze (Zk (i:=7) Xd.nd (Zf Z9 (dv 7) Zd))) ZE) (Zb (Zk (i:=8) Xd.nd (Zh Gh hr (Za (W3 (ZQ Vf) rfl Xp Boot.«list» (pv 4)) (Za (W3 (ZQ Vf) rfl Xp Boot.«list» (pv 5)) (Za (W3 (ZQ Vf) rfl Xp Boot.«list» (pv 3)) (pdv 2 (pdv 6 (pv 7)))))))) (Zb (SD (x:="_law_entry") (N:=[]) (caps:=[]) (ar:=Zi Vs) rfl rfl csc rfl ⋯ (i:=9) Xd.nd rfl rfl (dv 8) pt0 (λ_ _ _ _ _ _=>(Zu (Za (W3 (ZQ Vf) rfl Xp Boot.«list» (Za (piv 0) Zg)) (Za (piv 0) Zg))))) (Zb (Zk (i:=10) Xd.nd (Yo (Za (Zh GX hr (pdv 8 (pdv 3 (pdv 2 (Za (Zf YW (Zh Yu hr (pdv 0 (Za Zd Zg))) (Zf UJ Zd Zd)) Zg))))) Zg))) (Zb (zhr (i:=11) PassesOwn.never rfl Xd.nd rfl (Or.inl rfl) rfl YQ (Za Zd (Za (ZL (Vu rfl) rfl Xv Boot.«min» (Za (ZL (ZQ YZ) rfl Yv Boot.«len» (pv 0)) (Za Zd Zg))) Zg)) (Ze (Z7 (Ys (dv 10) (Zh GN hr (pdv 3 (pdv 2 (Za (Zh HM hr (Za (Zh Yu hr (pdv 0 (pv 11))) Zg)) Zg)))))))) (Zb (W9 (i:=12) PassesOwn.never rfl Xd.nd rfl (Or.inl rfl) (dv 10) (Zb (Zk (i:=13) Xd.nd (Zh OT hr (pdv 8 (Za (W3 (ZQ Vf) rfl Xp Boot.«list» (pv 12)) (pv 2))))) (Zb (Zy (PDW.pt (WR (Vz (Y4 (Zh L5 hr (pv 13)))) (WR (Zs (Kd hr) (dv 13) (Zh Gu hr (pdv 8 (pdv 12 (pv 2)))) (Zp _)) (SS (Vz (Y4 (Zh J1 hr (Za (Y2 (ZD (dv 8) (dv 13)) Zd) (pdv 12 (pv 2)))))))))) (Ze (Zj GQ)) ZE) (Ze (Zy (Zs GK (Zh OT hr (pdv 8 (Za (Zh ID hr (pdv 12 (pdv 3 (pdv 2 (Za (Zh Yu hr (pdv 0 (Za Zd Zg))) Zg))))) (pv 2)))) ZR (Zp _)) (Ze (Zj GQ)) ZE))))) (Ze (Zj (Xz (zc9 hr) (X1 (x:="_law_entry") (N:=[]) (caps:=[]) (ar:=Zi Vs) rfl rfl csc rfl ⋯ (dv 8) pt0 (λ_ _ _ _ _ _=>(Zu (Za (W3 (ZQ Vf) rfl Xp Boot.«list» (Za (piv 0) Zg)) (Za (piv 0) Zg))))) (dv 9) (Zp _))))))))))))))))),λds S Q ex h=>by
  obtain⟨ns,rfl,rfl,hl,h⟩:=h;refine Yi (λdl S=>S=[.frz (ns.map D.int),.cod LT LP LQ]/\∃q:Nat,(1<=q/\q<=4)/\dl=[sR 0,sI (q:Int),none,none,none,none,none,none,none,none,none,none,none,none]) (λnx hx=>?_) ?_
  .refine⟨ns,rfl,⟨⋯,⋯⟩,λc hc=>?_⟩;obtain⟨q,k,hq,ek,eq⟩:∃q k:Nat,(1<=q/\q<=4)/\c%6=(k:Int)/\([.int 1,.int 2,.int 1,.int 2,.int 3,.int 4]:List D)[k]?=some (.int (q:Int)):=by
    have:c%6=0\/c%6=1\/c%6=2\/c%6=3\/c%6=4\/c%6=5:=by lia
    rcases this with e|e|e|e|e|e
    .exact⟨1,0,⋯,e,rfl⟩
    .exact⟨2,1,⋯,e,rfl⟩
    .exact⟨1,2,⋯,e,rfl⟩
    .exact⟨2,3,⋯,e,rfl⟩
    .exact⟨3,4,⋯,e,rfl⟩
    .exact⟨4,5,⋯,e,rfl⟩
   exact VY k ek eq (hx _ _ ⟨rfl,q,hq,rfl⟩)
  rintro dl S ⟨rfl,q,hq,rfl⟩;refine Yi (λdl S=>S=[.frz (ns.map D.int),.cod LT LP LQ]/\∃g:Int,(Gg g)/\dl=[sR 0,sI (q:Int),sI g,none,none,none,none,none,none,none,none,none,none,none]) (λnx hx=>?_) ?_
  .refine⟨ns,rfl,⟨⋯,⋯⟩,λc hc=>?_⟩;exact⟨hc.1,λg g1 g2=>hx _ _ ⟨rfl,g,⟨g1,g2⟩,rfl⟩⟩
  rintro dl S ⟨rfl,g,hg,rfl⟩;refine Yi (λdl S=>∃bs:LI,bs.length=q/\Spn 51 bs/\S=[.frz (ns.map D.int),.cod LT LP LQ]++[.lst (bs.map frD)]/\dl=dL q g [none,none,none,none,none,none,none,none,none,none]) (λnx hx=>?_) ?_
  .exact⟨ns,q,rfl,rfl,hq,λbs lb sb=>hx _ _ ⟨bs,lb,sb,rfl,rfl⟩⟩
  rintro dl S ⟨bs,lb,sb,rfl,rfl⟩;refine Yi (λdl S=>∃(vs:List Nd)(ws:List Nat)(m:Nat),ZK q vs ws/\(1<=vs.length/\vs.length<=24)/\(S[0]?=some (.frz (ns.map D.int))/\S[1]?=some (.cod LT LP LQ)/\La S 2 (bs.map frD)/\bs.length=q/\Spn 51 bs)/\3<=m/\La S m (vs.map Nd.d)/\dl=dL q g [sR m,none,none,none,none,none,none,none,none,none]) (λnx hx=>?_) ?_
  .have lm:0<=(if (18:Int)<(ns.length:Int) then 18 else (ns.length:Int))/\(if (18:Int)<(ns.length:Int) then 18 else (ns.length:Int))<=18:=by split<;>lia
   refine zbe (S1:=[.frz (ns.map D.int),.cod LT LP LQ]++[.lst (bs.map frD)]) (lo:=12) (hi:=if (18:Int)<(ns.length:Int) then 18 else (ns.length:Int)) (λc=>0<=c/\c<2147483629) (λK hK=>?_) ⟨⋯,lm.1,()⟩ (λk S2' K k0 k1 pr hK=>?_) λcs lc pc=>?_
   .refine Jq (xs:=ns.map D.int) rfl ?_;rw[zB];exact hK
   .exact⟨ns,pr 0 _ rfl,⟨(),()⟩,λc hc=>hK c hc⟩
   .refine⟨cs.map D.int,q,Zq _ _,λx hx=>?_,rfl,hq,by rw[zB];lia,λvs ws T m net n1 n2 pr lm' hT=>?_⟩
    .obtain⟨c,hc,rfl⟩:=zP.mp hx;exact⟨c,rfl,pc c hc⟩
    .have l3:4<=m:=lm';exact hx _ _ ⟨vs,ws,m,net,⟨n1,n2⟩,⟨pr 0 _ rfl,pr 1 _ rfl,pr 2 _ rfl,lb,sb⟩,(),hT,rfl⟩
  rintro dl S ⟨vs,ws,m,net,hn,⟨h0,h1,h2,_,_⟩,m3,hm,rfl⟩;refine Yi (λdl S=>∃(vs:List Nd)(ws:List Nat)(rows:List (Bool×Nat))(mr:Nat),ZK q vs ws/\(1<=vs.length/\vs.length<=30)/\(S[0]?=some (.frz (ns.map D.int))/\S[1]?=some (.cod LT LP LQ)/\La S 2 (bs.map frD)/\bs.length=q/\Spn 51 bs)/\La S m (vs.map Nd.d)/\La S mr (rows.map rwD)/\rows.length<=3/\(∀r∈rows,r.2<vs.length)/\dl=dL q g [sR m,sR mr,none,none,none,none,none,none,none,none]) (λnx hx=>?_) ?_
  .refine⟨q,ns,vs,ws,bs,h0,hm,h2,(),net,lb,(),sb,hg,⟨(),()⟩,λT mr ns' ws' rows gr rl ri lr hr=>?_⟩;have gl:=gr.ln;exact hx _ _ ⟨ns',ws',rows,mr,gr.net,⟨(),()⟩,⟨gr.kp _ _ () h0,gr.kp _ _ () h1,gr.kp _ _ () h2,lb,sb⟩,gr.nd,hr,rl,ri,rfl⟩
  clear hm h0 h1 h2 hn net;rintro dl S ⟨vs,ws,rows,mr,net,hn,⟨h0,h1,h2,_,_⟩,hm,hr,rl,ri,rfl⟩;refine Yi (λdl S'=>S=S'/\∃f:Int,1<=f/\dl=dL q g [sR m,sR mr,sI f,none,none,none,none,none,none,none]) (λnx hx=>?_) ?_
  .exact⟨ns,h0,⟨⋯,⋯⟩,λc hc=>hx _ _ ⟨rfl,1+c%60,(),rfl⟩⟩
  rintro dl S' ⟨rfl,fine,f1,rfl⟩;refine Yi (λdl S'=>S=S'/\∃k:Int,(0<=k/\k<=8)/\dl=dM q g m mr fine k [none,none,none,none,none,none]) (λnx hx=>?_) ?_
  .exact⟨ns,h0,⟨⋯,⋯⟩,λc hc=>hx _ _ ⟨rfl,c%9,(),rfl⟩⟩
  rintro dl S' ⟨rfl,k,hk,rfl⟩;refine Yi (λdl S'=>S=S'/\∃k:Int,(0<=k/\k<=8)/\dl=dM q g m mr fine k [none,none,none,none,none,none]) (λnx hx=>?_) ?_
  .refine ifD (λ_=>?_) (λ_=>?_)
   .exact hx _ _ ⟨rfl,k%5,(),rfl⟩
   .exact hx _ _ ⟨rfl,k,hk,rfl⟩
  clear hk k;rintro dl S' ⟨rfl,k,hk,rfl⟩;refine Yi (λdl S'=>Pre S S'/\∃(mb:Nat)(ds:List D)(es:List LP2)(fs:List Ft),Bq S' mb ds es fs bs q g/\dl=dM q g m mr fine k [sR mb,none,none,none,none,none]) (λnx hx=>?_) ?_
  .refine WH (ZM hm rfl) ?_;refine WH (ZM (Zt hr) rfl) ?_;refine WH (ZM (Zt (Zt h2)) rfl) ?_;refine⟨q,1,vs,ws,rows,bs,⟨Zt (Zt (Zq _ _)),Zt (Zq _ _),net,hg,(),(),ri,hq⟩,Zq _ _,lb,sb,f1,hk,Zt (Zt (Zt h1)),λT mb ds es fs p lm hT en K l9 c0 c1=>?_⟩;exact hx _ _ ⟨λx o z=>p _ _ (Zt (Zt (Zt z))),mb,ds,es,fs,⟨hT,en,K.tre,l9,λe he=>by obtain⟨a,b⟩:=(K.ok sb).2 e he;exact⟨(),b⟩,hq,hg⟩,rfl⟩
  rintro dl T ⟨P,mb,ds,es,fs,B,rfl⟩;have ln:=B.en.1
  have l9:=B.l9
  have two:∀x∈ds,∃m d xs,x=D.tup [.ref m,d]/\T[m]?=some (.lst xs):=λx hx=>by
   obtain⟨i,hi⟩:=xM.mp hx;have li:=(zA.mp hi).1;obtain⟨m,e,d,_,hd,hm,_⟩:=B.at (show i<es.length by lia);rw[Z6 (j:=i) hi] at hd;cases hd;exact⟨m,d,_,rfl,hm⟩
  refine Yi (λdl S'=>Pre T S'/\∃(mk:Nat)(ys:List D),La S' mk ys/\Kp T ds S' ys/\dl=dM q g m mr fine k [sR mb,sR mk,none,none,none,none]) (λnx hx=>?_) ?_
  .refine Du (n:=mb) kId B.bk () two (λm d xs S2 K hm hK=>?_) λU ys pu hu kp=>hx _ _ ⟨pu,_,ys,hu,kp,rfl⟩
   exact WH (ZM hm rfl) hK
  rintro dl U ⟨pU,mk,ys,hy,ky,rfl⟩;have P1:=P.trans pU
  have B1:=B.pre pU;refine Yi (λdl S'=>Pre U S'/\∃(mp:Nat)(ps:List D),La S' mp ps/\ps.length<=1/\Ptz q bs g S' mp ps/\U.length<=mp/\dl=dM q g m mr fine k [sR mb,sR mk,sR mp,none,none,none]) (λnx hx=>?_) ?_
  .refine⟨ns,P1 _ _ h0,⟨⋯,⋯⟩,λc hc=>?_⟩;have cr:=YK (a:=c) (b:=10^Int.toNat 6) ⋯
   have e6:(10:Int)^Int.toNat 6=1000000:=rfl;refine⟨show (0:Int)<10^Int.toNat 6 by decide,ds,es,fs,bs,q,B1,P1 _ _ h2,⟨cr.1,by rw[e6] at cr ⊢;lia⟩,λV m pt pv lm hm pk ib=>?_⟩;refine hx _ _ ⟨Xq pv _,V.length,[.ref m],Zq _ _,zC _,λd hd=>?_,YI pv,rfl⟩;cases zO.mp hd;exact⟨m,pt,rfl,zK (ZV hm),Zt hm,pk,ib⟩
  rintro dl V ⟨pV,mp,ps,hp,lp,pz,lu,rfl⟩;refine Yi (λdl S'=>∃(ps:List D)(u:Option D),(∀x o,x≠mp->V[x]?=some o->S'[x]?=some o)/\La S' mp ps/\ps.length<=7/\Ptz q bs g S' mp ps/\dl=dM q g m mr fine k [sR mb,sR mk,sR mp,u,none,none]) (λnx hx=>?_) ?_
  .have lm:0<=(if (24:Int)<(ns.length:Int) then 24 else (ns.length:Int))/\(if (24:Int)<(ns.length:Int) then 24 else (ns.length:Int))<=24:=by split<;>lia
   refine Jq (xs:=ns.map D.int) (pV _ _ (P1 _ _ h0)) ?_;rw[zB];refine⟨⟨(),(),(),()⟩,λj dl S'=>j<=6/\∃(ps:List D)(u:Option D),(∀x o,x≠mp->V[x]?=some o->S'[x]?=some o)/\La S' mp ps/\ps.length<=1+j/\Ptz q bs g S' mp ps/\dl=dM q g m mr fine k [sR mb,sR mk,sR mp,u,none,none],⟨(),ps,none,λ_ _ _ z=>z,hp,lp,pz,rfl⟩,?_⟩;rintro j dl S' ⟨k6,ps,u,kp,hp,lp,pz,rfl⟩;refine OL (λkc=>?_) (λ_=>hx _ _ ⟨ps,u,kp,hp,(),pz,rfl⟩);have k5:j<6:=by
    have z:j<((if (24:Int)<(ns.length:Int) then 24 else (ns.length:Int))-18).toNat:=kc;lia
   have at':∀x o,x<U.length->U[x]?=some o->S'[x]?=some o:=λx o l z=>kp x o () (pV _ _ z)
   have l2:2<S.length:=ZV h2
   have lS:=YI P1;refine Bx (n:=mp) (xs:=ps) kId hp (λK hK=>?_) ();refine⟨ns,at' _ _ () (P1 _ _ h0),⟨(),()⟩,λc hc=>?_⟩;intro xs lx;refine⟨q,bs,xs,Zt (at' _ _ () (P1 _ _ h2)),Zq _ _,lb,(),sb,lx,hg,λS2 m pt p2' lm hm pk ib=>?_⟩;have p2:Pre S' S2:=λx o z=>p2' _ _ (Zt z)
   have lm':S'.length<=m:=by simp at lm;lia
   have lmp:mp<S'.length:=ZV hp;refine hK _ _ (p2 _ _ hp) ⟨(),ps++[.ref m],_,λx o nx z=>Z4 (p2 _ _ (kp x o nx z)) (Ne.symm nx),Yd (p2 _ _ hp),by simp;lia,λd hd=>?_,rfl⟩;rcases zX.mp hd with z|z
   .obtain⟨m',pt',rfl,a1,a2,a3,a4⟩:=pz d z;exact⟨m',pt',rfl,a1,Z4 (p2 _ _ a2) (Ne.symm a1),a3,a4⟩
   .cases zO.mp z;exact⟨m,pt,rfl,(),Z4 hm (),pk,ib⟩
  rintro dl X ⟨ps',u,kX,hp',lp',pz',rfl⟩;have PX:Pre U X:=λx o z=>kX x o (by have:=ZV z;lia) (pV _ _ z)
  clear hp pz lp;refine Yi (λdl S'=>Pre X S'/\∃(u v w:Option D),dl=dM q g m mr fine k [sR mb,sR mk,sR mp,u,v,w]) (λnx hx=>?_) ?_
  .refine Ve (n:=mp) (o:=.lst ps') (λi dl S'=>Pre X S'/\∃(u v w:Option D),dl=dM q g m mr fine k [sR mb,sR mk,sR mp,u,v,w]) ⟨Pre.refl,_,_,_,rfl⟩ (λi dl S' z=>z.1 _ _ hp') ?_ (λdl S' z=>hx _ _ z);rintro i x dl S' nx2 ct hx' ⟨pr,u,v,w,rfl⟩ hn;obtain⟨m,pt,rfl,_,hm,pk,ib⟩:=pz' x (zE (show ps'[i]?=some x from hx'));have PS:Pre U S':=PX.trans pr
   have PT:Pre T S':=pU.trans PS
   have BS:=B.pre PT
   have e0:0<es.length:=(zA.mp B.tr.rt).1
   have hm':=pr _ _ hm;refine WH (ZM hm' rfl) ?_;refine⟨ds,es,fs,bs,q,pt,⟨BS.pre Pre.refl.push,Zq _ _,pk⟩,λ_ r hr lf=>?_,λz=>absurd ib z⟩;have PA:Pre S' (S'++[Ob.lst (pt.map frD)]):=Pre.refl.push
   have B4:=BS.pre PA;obtain⟨mr',e,d,he,hd,hme,_⟩:=B4.at hr;obtain⟨le,se⟩:=B4.sp e (zE he);obtain⟨e',he',ib'⟩:=lf.inb B4.tr bs B4.tr.rt ib;rw[he] at he';cases he';refine⟨ds,es,fs,bs,q,pt,⟨B4,PA _ _ hm',pk⟩,λr' _ lf'=>?_⟩;have er:=lf.det lf';subst er;refine ifN (λc=>absurd rfl c) (λ_=>?_);refine Zz (o:=.lst ds) B4.bk hd ?_;refine⟨e,pt,q,hme,PA _ _ hm',le,hq.2,se,pk,hg,λbb hb=>?_⟩;have hb':bb=true:=hb.mpr ib';subst hb';refine YF ?_;refine⟨ns,PA _ _ (PS _ _ (P1 _ _ h0)),⟨⋯,⋯⟩,λc hc=>?_⟩;refine⟨q,pt,bs,PA _ _ hm',PA _ _ (PS _ _ (P1 _ _ h2)),lb,hq,sb,pk,hg,λS5 m5 pt5 p5 l5 hm5 pk5 nib=>?_⟩;refine⟨ds,es,fs,bs,q,pt5,⟨B4.pre p5,hm5,pk5⟩,λz=>absurd z nib,λ_=>?_⟩;exact hn _ _ ⟨pr.trans (PA.trans p5),_,_,_,rfl⟩
  rintro dl Y ⟨pY,u1,v1,w1,rfl⟩;have PT:Pre T Y:=pU.trans (PX.trans pY);refine Du (n:=mb) kId (PT _ _ B.bk) () (λx hx=>?_) (λm d xs S2 K hm hK=>?_) λZ zs pz hz kz=>?_
  .obtain⟨m,d,xs,e,hm⟩:=two x hx;exact⟨m,d,xs,e,PT _ _ hm⟩
  .exact WH (ZM hm rfl) hK
  .have K1:Kp Y ds Z ys:=⟨ky.1,λi m d xs a b=>?_⟩
   .obtain⟨al,ak⟩:=zb6 (B.en.pre PT) kz K1;exact⟨⟨zs,ys,hz,pz _ _ ((PX.trans pY) _ _ hy),al,ak⟩,h _⟩
   .obtain⟨m0,d0,xs0,e0,hm0⟩:=two _ (zE a);cases e0;have z:=PT _ _ hm0;rw[b] at z;cases z;obtain⟨m',a1,b1⟩:=ky.2 i m d xs a hm0;exact⟨m',a1,pz _ _ ((PX.trans pY) _ _ b1)⟩⟩)
end
theorem Aj {l:W.OpenLaw}{w:World}{K:Fg}{h:Heap}{mg:Str->Option Value}{fa:Addr}(X:K.In h)(G:h.Ns mainGlobals mg)(hfa:mg "law"=some (.ref fa))
  (Mz:clA K "Book" Vy)
  (ziD:W.findIn K (.ref Vy) "fates"=some none)
  (zi8:W.findIn K (.ref Vy) "boxes"=some none)
  (O8:clA K V6 UI)
  (zhT:W.findIn K (.ref UI) Xe=some none)
  (ziu:W.findIn K (.ref UI) "top"=some none)
  (Mg:clA K V3 Tv)
  (zhq:W.findIn K (.ref Tv) Wv=some none)
  (NH:clA K "Plus" Va)
  (zeA:W.findIn K (.ref Va) YJ=some none)
  (ziX:W.findIn K (.ref Va) "one"=some none)
  (PN:clA K "Minus" W6)
  (zfY:W.findIn K (.ref W6) YJ=some none)
  (ziw:W.findIn K (.ref W6) "one"=some none)
  (OE:clA K "Times" WX)
  (Ax:W.findIn K (.ref WX) YJ=some none)
  (zef:W.findIn K (.ref WX) "one"=some none)
  (OR:clA K "Power" Uw)
  (zjB:W.findIn K (.ref Uw) "many"=some none)
  (za2:W.findIn K (.ref Uw) "one"=some none)
  (a0:fnA K q88 JN f0 m0 h0)
  (a1:fnA K q41 K7 f1 m1 h1)
  (a2:fnA K XX JQ f2 m2 h2)
  (a3:fnA K q86 LL f3 m3 h3)
  (a4:fnA K q53 IZ f4 m4 h4)
  (a5:fnA K q99 QH f5 m5 h5)
  (a6:fnA K q31 K9 f6 m6 h6)
  (a7:fnA K q75 Fq f7 m7 h7)
  (a8:fnA K q62 Hq f8 m8 h8)
  (a9:fnA K Wc IF f9 m9 h9)
  (a10:fnA K q76 LZ f10 m10 h10)
  (a11:fnA K X2 LO f11 m11 h11)
  (a12:fnA K q87 KP f12 m12 h12)
  (a13:mdA K Vy q5 QE Fe f13 m13 h13)
  (a14:mdA K Vy Wg QA Mh f14 m14 h14)
  (a15:fnA K Xu Fp f15 m15 h15)
  (a16:fnA K Xm NJ f16 m16 h16)
  (a17:fnA K Xo LS f17 m17 h17)
  (a18:mdA K Vy q93 TK SK f18 m18 h18)
  (a19:fnA K "bars" Kv f19 m19 h19)
  (a20:fnA K "less" Fn f20 m20 h20)
  (a21:fnA K q45 J9 f21 m21 h21)
  (a22:fnA K XH Ju f22 m22 h22)
  (a23:mdA K UI q7 RJ Ik f23 m23 h23)
  (a24:mdA K Tv q7 QX G0 f24 m24 h24)
  (a25:fnA K q43 KI f25 m25 h25)
  (a26:mdA K Va q7 RV Hy f26 m26 h26)
  (a27:fnA K q27 Km f27 m27 h27)
  (a28:mdA K W6 q7 Qn LG f28 m28 h28)
  (a29:fnA K q49 JE f29 m29 h29)
  (a30:mdA K WX q7 Qy Jw f30 m30 h30)
  (a31:fnA K q82 KQ f31 m31 h31)
  (a32:fnA K q55 NK f32 m32 h32)
  (a33:mdA K Uw q7 R0 Kf f33 m33 h33)
  (a34:mdA K Uw q5 Qg HA f34 m34 h34)
  (a35:mdA K UI q5 R6 Lv f35 m35 h35)
  (a36:mdA K Tv q5 Qe Ii f36 m36 h36)
  (a37:mdA K Va q5 q81 Fb f37 m37 h37)
  (a38:mdA K W6 q5 q81 zil f38 m38 h38)
  (a39:mdA K WX q5 q81 zji f39 m39 h39)
  (a40:fnA K q92 Jt f40 m40 h40)
  (a41:fnA K q44 Hk f41 m41 h41)
  (a42:fnA K q80 JR f42 m42 h42)
  (a43:fnA K q83 HJ f43 m43 h43)
  (a44:fnA K q95 GO f44 m44 h44)
  (a45:mdA K UI "back" Qo Hg f45 m45 h45)
  (a46:mdA K Tv "back" Qz LH f46 m46 h46)
  (a47:mdA K Va q14 RN Jf f47 m47 h47)
  (a48:mdA K Va q12 RS IY f48 m48 h48)
  (a49:mdA K Va "back" Ue Kk f49 m49 h49)
  (a50:mdA K W6 q14 QO Hj f50 m50 h50)
  (a51:mdA K W6 q12 Rh HC f51 m51 h51)
  (a52:mdA K W6 "back" Ue zhi f52 m52 h52)
  (a53:fnA K q47 JP f53 m53 h53)
  (a54:fnA K q40 IW f54 m54 h54)
  (a55:fnA K q91 KY f55 m55 h55)
  (a56:fnA K q48 Jv f56 m56 h56)
  (a57:fnA K "hull" L6 f57 m57 h57)
  (a58:fnA K Xl Ic f58 m58 h58)
  (a59:fnA K q59 JU f59 m59 h59)
  (a60:fnA K q56 LD f60 m60 h60)
  (a61:mdA K WX q14 Qw IV f61 m61 h61)
  (a62:mdA K WX q12 Rn GP f62 m62 h62)
  (a63:mdA K WX "back" Ue zex f63 m63 h63)
  (a64:fnA K q68 LM f64 m64 h64)
  (a65:fnA K q57 Gx f65 m65 h65)
  (a66:fnA K "root" Q3 f66 m66 h66)
  (a67:fnA K q72 KH f67 m67 h67)
  (a68:mdA K Uw "back" RZ Je f68 m68 h68)
  (a69:fnA K q73 Gn f69 m69 h69)
  (a70:fnA K q96 HE f70 m70 h70)
  (a71:fnA K q79 IH f71 m71 h71)
  (a72:fnA K XT Jd f72 m72 h72)
  (a73:fnA K q98 Hs f73 m73 h73)
  (a74:fnA K q97 L7 f74 m74 h74)
  (a75:fnA K XO KR f75 m75 h75)
  (a76:mdA K Vy XU QV G6 f76 m76 h76)
  (a77:mdA K Vy WJ R7 HV f77 m77 h77)
  (a78:mdA K Vy "part" QS KG f78 m78 h78)
  (a79:fnA K XD LJ f79 m79 h79)
  (a80:fnA K X7 Ir f80 m80 h80)
  (a81:fnA K "sure" JA f81 m81 h81)
  (a82:fnA K q51 Pu f82 m82 h82)
  (a83:fnA K q34 M6 f83 m83 h83)
  (a84:fnA K XA MY f84 m84 h84)
  (a85:mdA K UI q15 QP Ib f85 m85 h85)
  (a86:mdA K Tv q15 Rz Nl f86 m86 h86)
  (a87:mdA K Va q6 RL Jb f87 m87 h87)
  (a88:mdA K Va q15 Uo PM f88 m88 h88)
  (a89:mdA K W6 q6 Rr LU f89 m89 h89)
  (a90:mdA K W6 q15 Uo zam f90 m90 h90)
  (a91:mdA K WX q6 RH Ku f91 m91 h91)
  (a92:mdA K WX q15 Uo zjy f92 m92 h92)
  (a93:fnA K q67 L8 f93 m93 h93)
  (a94:mdA K Uw q15 QQ Nm f94 m94 h94)
  (a95:fnA K XJ G2 f95 m95 h95)
  (a96:fnA K q85 HU f96 m96 h96)
  (a97:fnA K Xy Iz f97 m97 h97)
  (a98:fnA K XI Li f98 m98 h98)
  (a99:fnA K q71 Ov f99 m99 h99)
  (a100:fnA K q33 UH f100 m100 h100)
  (a101:fnA K q39 Jh f101 m101 h101)
  (a102:fnA K q50 M9 f102 m102 h102)
  (a103:fnA K Xx NM f103 m103 h103)
  (a104:fnA K Xs JI f104 m104 h104)
  (a105:fnA K XN OG f105 m105 h105)
  (a106:fnA K q28 Mf f106 m106 h106)
  (a107:fnA K q29 Gf f107 m107 h107)
  (a108:fnA K XZ MI f108 m108 h108)
  (a109:fnA K X3 Sk f109 m109 h109)
  (a110:fnA K XR MR f110 m110 h110)
  (a111:fnA K q60 Gd f111 m111 h111)
  (a112:fnA K "deep" IS f112 m112 h112)
  (a113:fnA K q94 Mv f113 m113 h113)
  (a114:fnA K q35 MM f114 m114 h114)
  (a115:fnA K X8 Nk f115 m115 h115)
  (a116:fnA K q61 Gv f116 m116 h116)
  (a117:fnA K X4 KS f117 m117 h117)
  (a118:fnA K q52 KL f118 m118 h118)
  (a119:fnA K q25 LX f119 m119 h119)
  (a120:fnA K "look" J4 f120 m120 h120)
  (a121:fnA K XS Jk f121 m121 h121)
  (a122:fnA K q65 Tg f122 m122 h122)
  (a123:fnA K XE Ho f123 m123 h123)
  (a124:fnA K We OO f124 m124 h124)
  (a125:fnA K q24 LK f125 m125 h125)
  (a126:fnA K q89 KD f126 m126 h126)
  (a127:fnA K q90 LN f127 m127 h127)
  (a128:fnA K Wa HK f128 m128 h128)
  (a129:fnA K q78 HF f129 m129 h129)
  (a130:fnA K q77 J7 f130 m130 h130)
  (a131:fnA K q74 Kr f131 m131 h131)
  (a132:fnA K q64 J5 f132 m132 h132)
  (a133:fnA K q63 Mo f133 m133 h133)
  (a134:fnA K q54 Ip f134 m134 h134)
  (a135:fnA K "law" Vs f135 m135 h135)
  (Yv:W.nsIn K mainGlobals "len"=some none)
  (YQ:W.nsIn K mainGlobals "range"=some none)
  (Vh:W.nsIn K mainGlobals "abs"=some none)
  (Xv:W.nsIn K mainGlobals "min"=some none)
  (Xp:W.nsIn K mainGlobals "list"=some none)
  (Wn:W.nsIn K mainGlobals "zip"=some none)
  (Y3:W.nsIn K mainGlobals "max"=some none)
  (XF:W.nsIn K mainGlobals "enumerate"=some none)
  (VL:W.nsIn K mainGlobals "all"=some none)
  (V1:W.nsIn K mainGlobals "sum"=some none)
  (VR:W.nsIn K mainGlobals "isinstance"=some none)
  (TZ:W.nsIn K mainGlobals "bool"=some none)
  (Tf:W.nsIn K mainGlobals "int"=some none)
  (UZ:Kit K "bool")
  (Sx:Kit K "int")
  (lmc:∀base:Heap,K.In base->W.CodeHd base h18 LT)(lmk:K.lookup LT=none)
  :∃fd:FuncData,(∀(s:Shared)(v:Value),BindsTo s fd ⟨[v],[]⟩ [(q66,v)])/\∀base:Heap,K.In base->base.Ns mainGlobals mg->BM mg base->Ye l.prog w K mg base (CXE l.prog w) 17 fa fd [q66] (upF K (Q7 LT LP LQ)):=by
 have e:=hfa.symm.trans (W.mg_of X G a135.1);cases e
 let Zn:E3 K mg:=⟨Vy,W.mg_of X G Mz.1,clC Mz.2,ziD,zi8,Mz.2.2.2.2.2.1,Mz.2.2.2.2.2.2⟩
 let ZU:Dl K mg:=⟨UI,W.mg_of X G O8.1,clC O8.2,zhT,ziu,O8.2.2.2.2.2.1,O8.2.2.2.2.2.2⟩
 let ZY:CF K mg:=⟨Tv,W.mg_of X G Mg.1,clC Mg.2,zhq,Mg.2.2.2.2.2.1,Mg.2.2.2.2.2.2⟩
 let Z2:FE K mg:=⟨Va,W.mg_of X G NH.1,clC NH.2,zeA,ziX,NH.2.2.2.2.2.1,NH.2.2.2.2.2.2⟩
 let ZZ:EN K mg:=⟨W6,W.mg_of X G PN.1,clC PN.2,zfY,ziw,PN.2.2.2.2.2.1,PN.2.2.2.2.2.2⟩
 let Z1:DV K mg:=⟨WX,W.mg_of X G OE.1,clC OE.2,Ax,zef,OE.2.2.2.2.2.1,OE.2.2.2.2.2.2⟩
 let ZJ:BE K mg:=⟨Uw,W.mg_of X G OR.1,clC OR.2,zjB,za2,OR.2.2.2.2.2.1,OR.2.2.2.2.2.2⟩
 let U4:Dm K Zn.C q93 TK SK QF:=dmo a18
 let Vq:Df K mg "root" Q3 Vk:=dfo X G a66
 let Uz:Df K mg q71 Ov UX:=dfo X G a99
 let Vp:Df K mg q33 UH VU:=dfo X G a100
 have Yv:=W.mg_none_of X G Yv
 have YQ:=W.mg_none_of X G YQ
 have Vh:=W.mg_none_of X G Vh
 have Xv:=W.mg_none_of X G Xv
 have Xp:=W.mg_none_of X G Xp
 have Wn:=W.mg_none_of X G Wn
 have Y3:=W.mg_none_of X G Y3
 have XF:=W.mg_none_of X G XF
 have VL:=W.mg_none_of X G VL
 have V1:=W.mg_none_of X G V1
 have VR:=W.mg_none_of X G VR
 have TZ:=W.mg_none_of X G TZ
 have Tf:=W.mg_none_of X G Tf;refine⟨W.fnOf "law" "law" (Vm Vs) (Xb Vs) (Zi Vs) .none .none .none m135 none (.ref h135) .none,λs v=>.of_eq rfl,λbase kin _ hbm=>?_⟩;have LM_Book_to_look_at:Lm K mg base U4.fd LT:=⟨h18,rfl,lmc base kin,hbm,λo e=>by rw[lmk] at e;cases e⟩
 letI e:Ev5:=⟨l.prog,w,K,mg,base,Zn,ZU,ZY,Z2,ZZ,Z1,ZJ,Vh,VL,TZ,XF,Tf,VR,Yv,Xp,Y3,Xv,YQ,V1,Wn⟩
 let HR:=zfZ (dfo X G a0)
 let Yu:=ze9 (dfo X G a1)
 let Iq:=zbg (dfo X G a2) Yu
 let Kl:=zcz (dfo X G a3)
 let Sh:=zgw (dfo X G a4)
 let IE:=zgz (dfo X G a5) Sh Kl
 let Wh:=zcE (dfo X G a6)
 let MV:=zig (dfo X G a7)
 let LC:=zbO (dfo X G a8) MV
 let Ol:=zfN (dfo X G a9)
 let Fo:=BL (dfo X G a10) Sh
 let HQ:=Aq (dfo X G a11) Ol Fo Wh LC
 let GA:=zjk (dfo X G a12) HQ Yu
 let Sm:=zis (dmo a13)
 let RC:=zfE (dmo a14)
 let Gy:=ziO (dfo X G a15)
 let WN:=zbn (dfo X G a16) Gy
 let Vi:=Ay (dfo X G a17) WN
 let QI:=zib U4 LM_Book_to_look_at Vi
 let Rb:=zfB (dfo X G a19)
 let TY:=zdb (dfo X G a20)
 let X9:=zak (dfo X G a21)
 let JK:=zdz (dfo X G a22) X9 TY
 let KU:=zhd (dmo a23) JK
 let Fh:=A9 (dmo a24)
 let YM:=zfd (dfo X G a25)
 let L1:=AO (dmo a26) YM
 let Yr:=zdF (dfo X G a27)
 let Iu:=zhO (dmo a28) Yr
 let XC:=zd6 (dfo X G a29) X9
 let IL:=zar (dmo a30) XC
 let Y5:=AE (dfo X G a31)
 let Ra:=AD (dfo X G a32) X9 Y5
 let Kb:=zjq (dmo a33) Ra
 let U8:=zi0 (dmo a34)
 let T6:=Af (dmo a35)
 let TH:=zcC (dmo a36)
 let SW:=K0 Kn (dmo a37)
 let SJ:=K0 Gw (dmo a38)
 let Se:=K0 Jg (dmo a39)
 let Vt:=zfz (dfo X G a40) U8 Se SJ SW TH T6
 let Yn:=AZ (dfo X G a41) Kb IL Iu L1 Fh KU Vt
 let Su:=zha (dfo X G a42) Rb Yn
 let Y0:=zju (dfo X G a43)
 let Jc:=zfv (dfo X G a44) Y0
 let Ga:=zbT (dmo a45)
 let Gs:=ziF (dmo a46)
 let zi1:=zfb (dmo a47) Y0 Yr
 let zhE:=zhZ (dmo a48) Y0 Yr
 let Jr:=IQ Kn (dmo a49) zhE zi1
 let zbv:=ziU (dmo a50) Y0 YM
 let A5:=zdT (dmo a51) Y0 Yr
 let IT:=IQ Gw (dmo a52) A5 zbv
 let Lc:=zh6 (dfo X G a53)
 let V2:=zaK (dfo X G a54)
 let MA:=AA (dfo X G a55) X9
 let NG:=Aw (dfo X G a56) V2 MA
 let Iv:=zfn (dfo X G a57)
 let Tr:=ze2 (dfo X G a58) Iv
 let Xw:=zdA (dfo X G a59)
 let TM:=zgL (dfo X G a60) Tr NG Xw Lc
 let zdy:=zbQ (dmo a61) TM
 let AB:=ziA (dmo a62) TM
 let Jl:=IQ Jg (dmo a63) AB zdy
 let N8:=B8 (dfo X G a64) Y5
 let Sl:=zeu (dfo X G a65) N8
 let N_root:=Df.never (P:=l.prog) (w:=w) (base:=base) 0 Vq
 let ze3:=Az Vq Y5 Sl Xw N_root
 let Tz:=zgI Vq Y5 Sl Xw ze3
 let K6:=zaH (dfo X G a67) Tr V2 Xw Tz Y5
 let J3:=Ab (dmo a68) K6
 let GD:=zhp (dfo X G a69) J3 Jl IT Jr Gs Ga Vt Jc Yn
 let KO:=zax (dfo X G a70) GD
 let UD:=ziP (dfo X G a71)
 let Lz:=A7 (dfo X G a72)
 let IU:=zbH (dfo X G a73) Su UD Lz
 let HN:=zaa (dfo X G a74)
 let JJ:=AU (dfo X G a75) IU HN KO Su
 let YR:=zhg (dmo a76)
 let Uc:=AR (dmo a77)
 let WZ:=zew (dmo a78) YR Uc UD
 let UM:=zaM (dfo X G a79) Yn
 let LY:=zeE (dfo X G a80) YR UM WZ JJ
 let Tp:=zgH (dfo X G a81)
 let Jx:=zgU (dfo X G a82) Tp Rb UM
 let G7:=zh5 (dfo X G a83)
 let SV:=zhQ (dfo X G a84)
 let IG:=zeW (dmo a85)
 let Hv:=zbp (dmo a86)
 let zcV:=zbu (dmo a87) YM
 let L4:=L9 (λ_ _ p r _=>(p.1+r.1,p.2+r.2)) Kn (λ_ _ _ _ _ _=>rfl) (λ_ _ _ _ _ _ _ _ _ z h=>h) (dmo a88) zcV
 let zgT:=zf1 (dmo a89) Yr
 let Jj:=L9 (λ_ _ p r _=>(p.1-r.2,p.2-r.1)) Gw (λ_ _ _ _ _ _=>rfl) (λ_ _ _ _ _ _ _ _ _ z h=>h) (dmo a90) zgT
 let zaG:=zgA (dmo a91) YM XC
 let Jz:=L9 (λx y p r g=>((Yj x r g).1+(Yj y p g).1,(Yj x r g).2+(Yj y p g).2)) Jg (λ_ _ _ _ _ _=>rfl) (λ_ _ _ _ _ _ _ _ _ z h=>⟨z,h⟩) (dmo a92) zaG
 let JT:=BN (dfo X G a93)
 let Hr:=zes (dmo a94) XC JT Ra
 let TX:=zbU (dfo X G a95) Hr Jz Jj L4 Hv IG Vt Yn
 let Jp:=AK (dfo X G a96) SV TX
 let Th:=zgd (dfo X G a97)
 let Td:=ziG (dfo X G a98)
 let zcJ:=zfX Vp (Df.never (P:=l.prog) (w:=w) (base:=base) 0 Uz)
 let zjh:=MC 0 ⋯ Uz Th zcJ Td
 let zcQ:=NP 0 ⋯ Vp zjh
 let zgS:=MC 1 ⋯ Uz Th zcQ Td
 let zbD:=NP 1 ⋯ Vp zgS
 let zeI:=MC 2 ⋯ Uz Th zbD Td
 let zjs:=NP 2 ⋯ Vp zeI
 let VX:=MC 3 ⋯ Uz Th zjs Td
 let RB:=NP 3 ⋯ Vp VX
 let Im:=zdo (dfo X G a101) VX
 let Ja:=ziz (dfo X G a102) Im
 let J2:=Ah (dfo X G a103) Ja RB
 let Tc:=zbV (dfo X G a104)
 let Ss:=zjx (dfo X G a105) Tc
 let Vr:=ziV (dfo X G a106) Ss
 let Uy:=zgj (dfo X G a107) YM XC
 let JL:=A8 (dfo X G a108) Yr Uy
 let Fd:=zcg (dfo X G a109) YM Uy Yr JL Vr
 let JW:=AG (dfo X G a110) Fd
 let Fc:=zgu (dfo X G a111) SV Yn Vr
 let LB:=zhj (dfo X G a112)
 let JV:=zgN (dfo X G a113) LB
 let Ff:=zer (dfo X G a114) Tp
 let Jy:=zjm (dfo X G a115) JV JW Fc J2 Ss Jp Ff Yn G7
 let Gk:=zb7 (dfo X G a116) TX Yn Vr Jy
 let GZ:=AL (dfo X G a117) Vi Gk Jx Yn
 let JY:=zg8 (dfo X G a118) WN
 let Lu:=zbX (dfo X G a119) WZ Tc WN Vi
 let HI:=zix (dfo X G a120) YR JY Lu GZ LY
 let Gh:=zjr (dfo X G a121) RC HI QI Sm
 let GX:=zcG (dfo X G a122) Wh
 let JG:=zfs (dfo X G a123)
 let KC:=zgr (dfo X G a124) JG
 let Ls:=zcs (dfo X G a125)
 let MG:=zeF (dfo X G a126) UZ Sx
 let HL:=zcy (dfo X G a127) Ls MG
 let OT:=zdM (dfo X G a128) TY HL KC
 let GN:=zan (dfo X G a129) Wh
 let HM:=zda (dfo X G a130)
 let L5:=ziN (dfo X G a131) UZ Sx
 let Gu:=zgJ (dfo X G a132)
 let J1:=zff (dfo X G a133)
 let ID:=A4 (dfo X G a134) Wh
 let G_law:=zcB (dfo X G a135) OT ID Yu J1 Gu L5 GN HM GX Gh GA IE Iq HR
 exact G_law.ok
end Mine
open PySem PySem.W PyProof.Rows
set_option maxRecDepth 100003 in
set_option maxHeartbeats 0 in
theorem PySem.Challenge.cw_boxnarrow_k53_leaf_of_points_holds : PySem.Challenge.rw_boxnarrow_k53_leaf_of_points.Holds := by
 w_on;refine PySem.W.holds_law Mine.ws_eq λsaid=>?_
 refine PySem.W.holds_open (q:=Mine.vw) (loose:=[]) (Xt:=Mine.xt) (XP:=XL Mine.vw []) (Yf:=Hook.obs (kHook Mine.kp Mine.ks Mine.VV)) (Ya:=Hook.val (kHook Mine.kp Mine.ks Mine.VV))
  (YP:=Hook.says (kHook Mine.kp Mine.ks Mine.VV)) (N:=7128) Mine.left (Hook.of (kHook Mine.kp Mine.ks Mine.VV)) (Hook.keeps (kHook Mine.kp Mine.ks Mine.VV)) (λs e=>xl_of s (uV.mp e).1) XL.keeps
  (by rfl) (by rfl) (by rfl) (λs e=>recFacts_of (uV.mp e).2) (by rfl) (by first|assumption|decide +kernel)
  (by decide +kernel) ⟨rfl,rfl,rfl,rfl,rfl,by decide +kernel⟩ ?hw ?hc
 (case hw=>w_witness2)
 refine L3.zez (l:=PySem.Challenge.rw_boxnarrow_k53_leaf_of_points) (x:="_law_script") (K:=Mine.kq) (P:=Mine.LT) (c:=nat_lit 843) (ps:=#[]) (lp:=Mine.LP) (lq:=Mine.LQ) 17 rfl rfl ⟨rfl,⋯,⋯⟩ (λw h Y=>⟨Mine.in_kq Y,Mine.zbW Y⟩) Mine.Ea Mine.Kw trivial rfl ?F
 case F=>
  k_fill
  intro w mg fa h KX G hmg;apply Mine.Aj KX G hmg (lmc:=Mine.Ea _) (lmk:=Mine.Kw _)
  all_goals (try delta Mine.clA)
  all_goals (try refine⟨?_,?_,?_,?_,?_,?_,?_⟩)
  all_goals (try delta Mine.fnA Mine.mdA)
  all_goals (try refine⟨?_,?_,?_⟩)
  all_goals first|k_is|exact L3.zcL _ _ (by simp)
