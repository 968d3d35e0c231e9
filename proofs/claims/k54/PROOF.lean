import PyProof.Rows.All
import Wide.All
import OpenK.AllK
import Wide.FinOn
import Lean
import PyProof.EqAt
import PyProof.EqKinds
import PyProof.TupleCall
import KE.KLam
import KE.KMinKey
import PySem.Challenge.RW_boxnarrow_k54_whole_every_point
local macro_rules|`(#[$x,*])=>`(⟨$x,*⟩)
def zA:=@Nat.le_refl
def zB:=@List.length_map
def zC:=@List.getElem?_eq_some_iff
def zD:=@List.getElem?_eq_getElem
def zE:=@List.mem_of_getElem?
def zF:=@List.getElem?_map
def zG:=@List.length_take
def zH:=@Option.map_eq_some_iff
def zI:=@List.size_toArray
def zJ:=@List.getElem?_append_left
def zK:=@Int.toNat_natCast
def zL:=@Nat.zero_le
def zN:=@Nat.ne_of_lt
def zO:=@List.mem_singleton
def zP:=@List.mem_map
def zQ:=@Int.mul_le_mul_of_nonneg_right
def zR:=@Bool.false_ne_true
def zS:=@Int.le_refl
def zT:=@List.mem_cons
def zU:=@Int.le_trans
def zV:=@Nat.lt_of_lt_of_le
def zW:=@List.getD_eq_getElem?_getD
def zX:=@List.mem_append
def zY:=@List.getElem?_set_ne
def zZ:=@List.map_append
def yA:=@List.map_map
def yB:=@List.length_append
def yC:=@List.lookup_cons
def yD:=@Int.pow_succ
def yE:=@List.length_cons
def yF:=@Int.mul_nonneg
def yG:=@Int.pow_pos
def yH:=@List.take_length
def yI:=@List.take_of_length_le
def yJ:=@Nat.le_trans
def yK:=@List.getElem?_set_self
def yL:=@List.map_cons
def yM:=@List.length_set
def yN:=@Int.le_of_mul_le_mul_right
def yO:=@List.getElem?_append_right
def yP:=@Nat.pow_pos
def yQ:=@List.getElem?_eq_none
def yR:=@Nat.le_of_lt
def yS:=@List.mem_cons_of_mem
def yT:=@Int.mul_comm
def yU:=@Int.pow_nonneg
def yV:=@Int.mul_pow
def yW:=@Nat.lt_irrefl
def yX:=@Option.isSome_iff_exists
def yY:=@List.getElem_mem
def yZ:=@List.mem_iff_getElem
def xA:=@List.mem_append_right
def xB:=@List.append_assoc
def xD:=@List.getElem?_eq_none_iff
def xE:=@Int.le_of_lt
def xG:=@List.mem_cons_self
def xH:=@Int.mul_one
def xI:=@List.find?_cons
def xJ:=@Nat.ne_of_gt
def xK:=@Bool.eq_iff_iff
def xN:=@List.append_nil
def xO:=@Int.neg_mul
def xP:=@Int.pow_zero
def xQ:=@Int.mul_le_mul
def xR:=@Int.min_le_left
def xS:=@Int.le_max_left
def xT:=@Nat.sub_self
def xU:=@Int.toNat_of_nonneg
def xV:=@List.ext_getElem?
def xW:=@List.nodup_cons
def xX:=@Int.gcd_dvd_right
def xY:=@Int.mul_pos
def xZ:=@List.getElem?_range
def wA:=@List.map_take
def wB:=@Int.mul_assoc
def wC:=@Int.mul_right_comm
def wD:=@List.mem_range
def wF:=@Nat.le_succ
def wG:=@List.getElem?_replicate
def wH:=@List.length_drop
def wJ:=@List.any_cons
def wK:=@Int.fdiv_eq_ediv_of_nonneg
def wL:=@Int.mul_le_mul_of_nonneg_left
def wM:=@List.all_eq_true
def wN:=@List.take_succ
def wO:=@Int.zero_mul
def wQ:=@Int.min_le_right
def wR:=@Int.le_max_right
def wU:=@Nat.mul_le_mul
def wV:=@List.foldl_append
def wW:=@Int.le_total
def wX:=@List.getElem?_zipWith
def wY:=@List.mem_iff_getElem?
def wZ:=@List.map_congr_left
def vA:=@List.take_append_drop
def vB:=@Bool.false_and
def vC:=@List.mem_filterMap
def vD:=@Nat.lt_succ_self
def vE:=@List.of_mem_zip
def vF:=@List.getElem?_take_of_lt
def vG:=@List.replicate_succ
def vH:=@Int.ediv_mul_cancel
def vI:=@Option.map_some
def vJ:=@List.set_append_right
def vK:=@Nat.le_add_right
def vL:=@Int.le_min
def vM:=@Int.max_le
def vN:=@List.take_append_of_le_length
def vO:=@List.length_zipWith
def vP:=@Int.ediv_nonneg
def vQ:=@List.length_range
def vR:=@List.filterMap_cons
def vS:=@List.flatten_cons
def vT:=@Nat.lt_of_le_of_lt
def vU:=@List.all_map
def vV:=@Nat.le_succ_of_le
def vW:=@Nat.log2_lt
def vX:=@Nat.pow_add
def vY:=@Int.natAbs_mul
def vZ:=@Int.emod_nonneg
def uA:=@Int.emod_lt_of_pos
def uB:=@Int.gcd_dvd_left
def uC:=@Int.emod_add_mul_ediv
def uD:=@Int.natAbs_pow
def uE:=@Bool.false_eq_true
def uF:=@Int.le_antisymm
def uG:=@Nat.sub_mul
def uH:=@Bool.true_and
def uI:=@Int.one_mul
def uJ:=@List.drop_zero
def uK:=@List.mem_or_eq_of_mem_set
def uL:=@Nat.min_eq_left
def uM:=@Int.mul_neg_one
def uN:=@Int.le_of_dvd
def uP:=@List.getElem?_mapIdx
def uQ:=@Option.bind_eq_some_iff
def uR:=@List.mem_filter
def uS:=@List.mem_append_left
def uT:=@List.length_replicate
def uU:=@Option.getD_none
def uV:=@List.length_nil
def uW:=@List.length_pos_iff
def uX:=@Int.gcd_eq_zero_iff
def uY:=@Int.fdiv_eq_ediv_of_dvd
def uZ:=@List.forIn_cons
def tD:=@List.getElem?_cons_succ
def tE:=@List.getElem?_take
def tF:=@List.sublist_cons_self
def tG:=@List.length_eq_zero_iff
def tH:=@Int.neg_mul_neg
def tI:=@Nat.add_sub_cancel
def tJ:=@Int.ediv_mul_le
def tK:=@List.take_zipWith
def tL:=@List.filterMap_append
def tM:=@List.drop_of_length_le
def tN:=@Int.natAbs_ediv_le_natAbs
def tO:=@Bool.and_eq_true
def tP:=@List.filterMap_map
def tQ:=@List.mem_of_mem_take
def tS:=@List.mem_of_mem_drop
def tT:=@List.length_mapIdx
def tU:=@Int.eq_ofNat_of_zero_le
def tV:=@List.map_eq_nil_iff
def tW:=@List.zipWith_map
def tX:=@Nat.one_lt_two_pow
def tY:=@Bool.eq_false_iff
def tZ:=@Bool.and_eq_true_iff
set_option Elab.async false
set_option linter.all false
local macro_rules|`(())=>`(by lia)
local macro_rules|`(⋯)=>`(by decide)
set_option maxRecDepth 100000
set_option genSizeOf false
set_option bootstrap.genMatcherCode false
set_option compiler.extract_closed false
set_option genInjectivity false
set_option maxHeartbeats 40000000
abbrev LI:=List (Int×Int)
abbrev LA:=List (PySem.Addr×PySem.Obj)
abbrev QW:=PySem.Challenge.pw_boxnarrow_k54_whole_every_point
abbrev Fg:=PySem.W.Frag
namespace L2
open PySem PySem.Spec PyProof.Rows
def Xa (s:Stmt)(j:Nat):Stmt:=match s with
 | .ClassDef _ _ _ body _ _ _ _ _ _ _=>body.getD j (.Pass #[0,0,0,0])
 | _=>.Pass #[0,0,0,0]
def W5 (s:Stmt):Arguments:=match s with
 | .FunctionDef _ a _ _ _ _ _ _ _ _=>a
 | _=>{ posonlyargs:=[],args:=[],vararg:=none,kwonlyargs:=[],kw_defaults:=[],kwarg:=none,defaults:=[] }
def YV (s:Stmt):List Stmt:=match s with
 | .FunctionDef _ _ b _ _ _ _ _ _ _=>b
 | _=>[]
def ZA (s:Stmt):Scope:=match s with
 | .FunctionDef _ _ _ _ _ _ sc _ _ _=>sc
 | _=>{ kind:=.function,names:=[],isGenerator:=false,isCoroutine:=false }
end L2
namespace L3
open PySem PySem.W PyProof.Rows PySem.Calls
theorem Qo {α β γ δ:Type}{f:α->Option β}{A:β->γ}{B:β->δ}{a:γ}{b:δ}(h1:(λx=>(f x).map A)=λ_=>some a)(h2:(λx=>(f x).map B)=λ_=>some b):(λx=>(f x).map λs=>(A s,B s))=λ_=>some (a,b):=by
 funext x;have e1:=congrFun h1 x
 have e2:=congrFun h2 x;cases h:f x with
 | none=>rw[h] at e1;cases e1
 | some s=>
  rw[h] at e1 e2;exact congrArg some (Prod.ext (Option.some.inj e1) (Option.some.inj e2))
theorem R7 {α β:Type}{f:α->Option β}{A B:β->Bool}(h1:(λx=>(f x).map A)=λ_=>some true)(h2:(λx=>(f x).map B)=λ_=>some true):(λx=>(f x).map λs=>A s&&B s)=λ_=>some true:=by
 funext x;have e1:=congrFun h1 x
 have e2:=congrFun h2 x;cases h:f x with
 | none=>rw[h] at e1;cases e1
 | some s=>
  rw[h] at e1 e2;have a:A s=true:=Option.some.inj e1
  have b:B s=true:=Option.some.inj e2
  show some (A s&&B s)=some true;rw[a,b];rfl
def goT (tb:String->Option Builtin)(p:Program)(w:World)(n₀:Nat)(ann:Option Value):Nat->SharedT->Thread->Option SharedT
 | 0,_,_=>none
 | k+1,s,t=>bif through t then some s else bif stepOk n₀ ann t then (stepT (denote tb) p w s t).bind (λr=>goT tb p w n₀ ann k r.1 r.2) else none
theorem M6:∀ {n:Nat} {s s':SharedT} {t:Thread},goT tb p w n₀ ann n s t=some s'->topRun tb p w n₀ ann n s.abs t=some s'.abs
 | 0,_,_,_,q=>nomatch q
 | n+1,s,s',t,q=>by
  unfold goT at q;unfold topRun;cases c1:through t
  .rw[c1] at q;cases c2:stepOk n₀ ann t
   .rw[c2] at q;exact nomatch q
   .rw[c2] at q;obtain⟨⟨s2,t2⟩,c3,q⟩:=uQ.mp q;rw[stepT_spec c3];exact M6 q
  .rw[c1] at q;cases q;rfl
def Pj (os:Array Obj):Nat->Nat->Nat->BT
 | 0,_,_=>.nil
 | f+1,a,b=>match os[b]? with
  | some o=>.node o (Pj os f (2*a) (a+b)) (Pj os f (2*a) (2*a+b))
  | none=>.nil
noncomputable def bootT (P:Params):BT:=Pj (boot_heap P).objs 6 1 0
noncomputable abbrev Uy (w:World)(os:OsState):SharedT:=#[bootT w.params,11,(boot_heap w.params).life,Array.mk [],boot_drawn,boot_toks,os]
def T9 (s:SharedT)(a:Addr):Option Obj:=if a<s.n then (match s.tree.get a with|some o=>alive o|none=>s.abs.heap.get? a) else none
theorem Kh (s:SharedT)(a:Addr):s.abs.heap.get? a=T9 s a:=by
 unfold T9;split
 .rename_i h;cases e:s.tree.get a with
  | none=>rfl
  | some o=>exact abs_get h e
 .rename_i h;exact abs_get_none h
theorem BB (l:List Addr)(s:SharedT):l.map s.abs.heap.get?=l.map (T9 s):=wZ λa _=>Kh s a
noncomputable abbrev seenT (p q:Program)(aJ:List Str)(Xt:Shared->Bool){α:Type}(YT:SharedT->α)(g0:Bool)(w:World)(s:SharedT):=
 ((staticsOk (importedModules p.main.body) (boot_heap w.params) s.abs.heap&&namesBound p s.abs.heap&&gensDone s.abs&&laidKept (boot_heap w.params) s.abs.heap),openSeen q aJ (importedModules p.main.body) Xt g0 s.abs,YT s)
noncomputable abbrev Qa (p:Program)(w:World)(s:SharedT):Bool:=staticsOk (importedModules p.main.body) (boot_heap w.params) s.abs.heap&&namesBound p s.abs.heap&&gensDone s.abs&&laidKept (boot_heap w.params) s.abs.heap
def goK (tb:String->Option Builtin)(p:Program)(w:World)(n₀:Nat)(ann:Option Value):Nat->SharedT->Thread->Option (SharedT×Thread)
 | 0,s,t=>some (s,t)
 | k+1,s,t=>bif through t then none else bif stepOk n₀ ann t then (stepT (denote tb) p w s t).bind (λr=>goK tb p w n₀ ann k r.1 r.2) else none
theorem LF:∀ {n:Nat} {s s':SharedT} {t t':Thread},goK tb p w n₀ ann n s t=some (s',t')->topGo tb p w n₀ ann n s.abs t=some (s'.abs,t')
 | 0,_,_,_,_,q=>by cases q;rfl
 | n+1,s,s',t,t',q=>by
  unfold goK at q;unfold topGo;cases c1:through t
  .rw[c1] at q;cases c2:stepOk n₀ ann t
   .rw[c2] at q;exact nomatch q
   .rw[c2] at q;obtain⟨⟨s2,t2⟩,c3,q⟩:=uQ.mp q;rw[stepT_spec c3];exact LF q
  .rw[c1] at q;exact nomatch q
theorem GC {p:Program}{w:World}{os:OsState}{ann:Option Value}{env:Env}{c:Code}{posa posb q:Pos}{n0 nb N2 N:Nat}{Sa Sb s':SharedT}(hc:c=Code.body (behindTheImports p) env)
  (pre:goK treeTable p w 11 ann n0 (Uy w os) (topStub p)=some (Sa,#[denote treeTable c,c,posa,[topFrame q]]))
  (block:segRunT treeTable p w 11 ann 1 nb Sa (blockOf (behindTheImports p) env c posa [topFrame q])=some (.next,Sb,c,posb))
  (e:n0+(nb+N2)=N)(r:topRun treeTable p w 11 ann N2 Sb.abs (restOf (behindTheImports p) env c posb [topFrame q])=some s'.abs):topRun treeTable p w 11 ann N (Uy w os).abs (topStub p)=some s'.abs:=by
 subst e hc;exact go_top (LF pre) (piece_block (segRun_of block) r)
theorem O0 {p:Program}{w:World}{ann:Option Value}{env:Env}{c:Code}{pos1 aM q:Pos}{l:List Stmt}{n1 N2 m:Nat}{S1 S2 s':SharedT}
  (p1:segRunT treeTable p w 11 ann 1 n1 S1 (piecesOf (l.take m) env c pos1 [topFrame q])=some (.next,S2,c,aM))
  (r:topRun treeTable p w 11 ann N2 S2.abs (restOf (l.drop m) env c aM [topFrame q])=some s'.abs):topRun treeTable p w 11 ann (n1+N2) S1.abs (restOf l env c pos1 [topFrame q])=some s'.abs:=by
 have z:=piece_app (segRun_of p1) r;rw[vA] at z;exact z
theorem JV {p q:Program}{aJ:List Str}{Xt:Shared->Bool}{α:Type}{Yf:Shared->α}{YT:SharedT->α}{Ya:World->α}{N:Nat}{g0:Bool}{ann:Option Value}{go:World->OsState->Option SharedT}(hY:∀s:SharedT,Yf s.abs=YT s)(e:opening p=plainProg p.main.scope.names)(hN:Nat.ble 600 N=true)(f:∀s,fenceModules? p s=some s)
  (size:∀w:World,((boot_heap w.params).isNs mainGlobals&&(Array.mk []:Array GenState).size==0,(boot_heap w.params).objs.size,(boot_heap w.params).nsMap mainGlobals "__annotations__")=(true,11,ann))
  (hgo:∀w os s',go w os=some s'->topRun treeTable p w 11 ann N (Uy w os).abs (topStub p)=some s'.abs)
  (run:∀w:World,(λos=>(go w os).map λs=>seenT p q aJ Xt YT g0 w s)=λ_=>some (true,openGood q aJ,Ya w)):LeftO p q aJ Xt Yf Ya N g0:=λw=>by
 obtain⟨⟨h,gs,d,k,os⟩,e1,e'⟩:=zH.mp (boot_open e hN f w);obtain⟨rfl,rfl,rfl,rfl⟩:h=boot_heap w.params/\gs=Array.mk []/\d=boot_drawn/\k=boot_toks:=by simpa using e'
 obtain⟨y1,y2,y3⟩:_/\_/\_:=by simpa only [Prod.mk.injEq] using size w
 obtain⟨s',r1,r2⟩:=zH.mp (congrFun (run w) os);obtain⟨l1,l2,l3⟩:_/\_/\_:=by simpa only [Prod.mk.injEq] using r2
 have r:topRun treeTable p w 11 ann N #[boot_heap w.params,Array.mk [],boot_drawn,boot_toks,os] (topStub p)=some s'.abs:=hgo w os s' r1
 have t:topFrom treeTable p w N #[boot_heap w.params,Array.mk [],boot_drawn,boot_toks,os]=some s'.abs:=by
  unfold topFrom;dsimp only;rw[y1,y2,y3,r];show (match staticsOk (importedModules p.main.body) (boot_heap w.params) s'.abs.heap&&namesBound p s'.abs.heap&&gensDone s'.abs&&laidKept (boot_heap w.params) s'.abs.heap with|true=>_|false=>_)=_;rw[l1]
 unfold openEnds;rw[e1];show Option.map _ (topFrom treeTable p w N _)=_;rw[t];exact congrArg some (Prod.ext l2 ((hY s').trans l3))
theorem Ki {p q:Program}{aJ:List Str}{Xt:Shared->Bool}{α:Type}{Yf:Shared->α}{YT:SharedT->α}{Ya:World->α}{N:Nat}{g0:Bool}{ann:Option Value}{go:World->OsState->Option SharedT}(hY:∀s:SharedT,Yf s.abs=YT s)(e:opening p=plainProg p.main.scope.names)(hN:Nat.ble 600 N=true)(f:∀s,fenceModules? p s=some s)
  (size:∀w:World,((boot_heap w.params).isNs mainGlobals&&(Array.mk []:Array GenState).size==0,(boot_heap w.params).objs.size,(boot_heap w.params).nsMap mainGlobals "__annotations__")=(true,11,ann))
  (hgo:∀w os s',go w os=some s'->topRun treeTable p w 11 ann N (Uy w os).abs (topStub p)=some s'.abs)
  (ra:∀w:World,(λos=>(go w os).map λs=>(Qa p w s,(openSeen q aJ (importedModules p.main.body) Xt g0 s.abs).1))=λ_=>some (true,(openGood q aJ).1))
  (rb:∀w:World,(λos=>(go w os).map λs=>((openSeen q aJ (importedModules p.main.body) Xt g0 s.abs).2.1,(openSeen q aJ (importedModules p.main.body) Xt g0 s.abs).2.2.1))=λ_=>some ((openGood q aJ).2.1,(openGood q aJ).2.2.1))
  (rc:∀w:World,(λos=>(go w os).map λs=>(openSeen q aJ (importedModules p.main.body) Xt g0 s.abs).2.2.2)=λ_=>some (openGood q aJ).2.2.2)
  (objs:∀w:World,(λos=>(go w os).map YT)=λ_=>some (Ya w)):LeftO p q aJ Xt Yf Ya N g0:=by
 refine JV hY e hN f size hgo λw=>funext λos=>?_
 obtain⟨s1,a1,b1⟩:=zH.mp (congrFun (ra w) os);obtain⟨s2,a2,b2⟩:=zH.mp (congrFun (rb w) os);obtain⟨s3,a3,b3⟩:=zH.mp (congrFun (rc w) os);obtain⟨s4,a4,b4⟩:=zH.mp (congrFun (objs w) os);rw[a1] at a2 a3 a4;cases a2;cases a3;cases a4;obtain⟨l1,l2⟩:=Prod.mk.inj b1;obtain⟨l3,l4⟩:=Prod.mk.inj b2;have l5:openSeen q aJ (importedModules p.main.body) Xt g0 s1.abs=openGood q aJ:=Prod.ext l2 (Prod.ext l3 (Prod.ext l4 b3));rw[a1];show some (Qa p w s1,openSeen q aJ (importedModules p.main.body) Xt g0 s1.abs,YT s1)=some (true,openGood q aJ,Ya w);rw[l1,l5,b4]
def frc {α:Type}:BT->(BT->α)->α
 | .nil,k=>k .nil
 | .node o l r,k=>frc l λl'=>frc r λr'=>k (.node o l' r')
theorem Qt:∀(t:BT)(k:BT->α),frc t k=k t
 | .nil,_=>rfl
 | .node o l r,k=>by
  show frc l (λl'=>frc r λr'=>k (.node o l' r'))=_;rw[Qt l,Qt r]
def odB:List Obj->List Obj
 | x::_::r=>x::odB r
 | l=>l
def evB:List Obj->List Obj
 | _::y::r=>y::evB r
 | _=>[]
def mkB:Nat->List Obj->BT
 | d+1,o::l=>.node o (mkB d (odB l)) (mkB d (evB l))
 | _,_=>.nil
abbrev tpO (l:List Value):Obj:=#[.type "tuple",none,.seq #[l] 0,(List.toArray [])]
abbrev fdO (l:List Value):Obj:=#[.none,none,.fields #[l],(List.toArray [])]
def nmO:Nat->List Str->List Value
 | _,[]=>[]
 | t,x::r=>.str x t::nmO (t+1) r
abbrev coO (n q:Str)(t j:Nat)(i k:Int)(a s:Nat)(y z:Value)(f:Nat):Obj:=#[.type "code",none,.fields (List.toArray [.str n t,.str q (t+1),.str "/claim/cut.py" (t+2),.int i 0,.int k 0,.int 0 0,.int 0 0,.int 3 0,.ref a,.bool Bool.true,.int 181 0,.ref s,.none,y,z,.ref f,.int j 0,.int i 0,.str "/claim/cut.py" (j+1)]),(List.toArray [])]
abbrev fuO (n q:Str)(st:Stmt)(m d:Value):Obj:=#[.type "function",none,.func (W.fnOf n q (L2.W5 st) (L2.YV st) (L2.ZA st) .none .none .none m none d .none),(List.toArray [])]
abbrev fnO (n q:Str)(st:Stmt):Obj:=#[.none,none,.func { W.fnOf n q (L2.W5 st) (L2.YV st) (L2.ZA st) .none .none .none .none none .none .none with globals:=0 },(List.toArray [])]
def df (n q:Str)(st:Stmt)(m:Value)(i k:Int)(a t:Nat)(vs:List Str):List Obj:=[tpO [],fdO [],tpO (nmO (t+3) vs),tpO [],fnO n q st,coO n q t (t+3+vs.length) i k a (a+1) (.ref (a+2)) (.ref (a+3)) (a+4),fuO n q st m (.ref (a+5))]
def dg (n q:Str)(st:Stmt)(m:Value)(i k:Int)(a t:Nat):List Obj:=[tpO [],fdO [],fnO n q st,coO n q t (t+3) i k a (a+1) .none .none (a+2),fuO n q st m (.ref (a+3))]
end L3
namespace Mine
open PySem PySem.Spec PyProof.Rows L2 L3
theorem kId {α:Type}{p:α->Prop}(K:α)(h:p K):p K:=h
def top (i:Nat):Stmt:=QW.main.body.getD i (.Pass #[0,0,0,0])
theorem ws_eq:W.OpenLaw.wellSaid PySem.Challenge.rw_boxnarrow_k54_whole_every_point=true:=by
 unfold W.OpenLaw.wellSaid
 repeat' (with_reducible refine W.look_both ?_ ?_)
 all_goals decide +kernel
def vw:Program:={ QW with main:={ QW.main with body:=[top 0,top 2,top 3,top 4,top 5,top 6,top 7,top 8,top 10,top 11,top 13,top 14,top 16,top 17,top 18,top 19,top 20,top 21,top 22,top 23,top 24,top 25,top 26,top 27,top 29,top 30,top 31,top 32,top 33,top 34,top 35,top 36,top 37,top 38,top 39,top 41,top 42,top 43,top 44,top 45,top 46,top 47,top 48,top 49,top 51,top 52,top 53,top 55,top 57,top 58,top 59,top 60,top 61,top 62,top 63,top 64,top 65,top 66,top 67,top 68,top 69,top 71,top 72,top 73,top 75,top 76,top 77,top 78,top 79,top 80,top 82,top 83,top 84,top 85,top 86,top 87,top 88,top 89,top 90,top 91,top 92,top 93,top 95,top 96,top 97,top 98,top 99,top 100,top 101,top 102,top 103,top 104,top 105,top 106,top 107,top 108,top 109,top 110,top 111,top 112,top 113,top 114,top 115,top 116,top 117,top 118,top 119,top 120,top 121,top 122,top 123] } }
noncomputable abbrev de (P:Params)(s:Str)(t:Tok)(v:Value):DictEntry:=#[PySem.PyData.keyHash P s,.str s t,v]
abbrev co (n q:Str)(a b c d:Tok)(i k:Int)(r s:Addr)(y z:Value)(t:Addr)(j:Int):Obj:=#[.type "code",none,.fields (List.toArray [.str n a,.str q b,.str "/claim/cut.py" c,.int i 0,.int k 0,.int 0 0,.int 0 0,.int 3 0,.ref r,.bool Bool.true,.int 181 0,.ref s,.none,y,z,.ref t,.int j 0,.int i 0,.str "/claim/cut.py" d]),(List.toArray [])]
abbrev fo (n q:Str)(st:Stmt)(m:Value)(c:Addr):Obj:=#[.type "function",none,.func (W.fnOf n q (W5 st) (YV st) (ZA st) .none .none .none m none (.ref c) .none),(List.toArray [])]
abbrev xt (s:Shared):Bool:=W.xlAt vw [] s&&W.recOk (W.RowW.records (W.OpenRow.toRowW (W.OpenLaw.row PySem.Challenge.rw_boxnarrow_k54_whole_every_point))) s
theorem QR:W.opening QW=W.plainProg QW.main.scope.names:=by kernel_rfl
theorem fe_eq (s:Shared):PySem.fenceModules? QW s=some s:=by kernel_rfl
theorem si_eq (w:World):((W.boot_heap w.params).isNs mainGlobals&&(Array.mk []:Array GenState).size==0,(W.boot_heap w.params).objs.size,(W.boot_heap w.params).nsMap mainGlobals "__annotations__")=(true,11,some (.ref 6)):=by kernel_rfl
open PySem.W PySem.Calls
def ev:Env:={ scope:=QW.main.scope,locals:=mainNs,globals:=mainNs,cells:=[],code:=.ref 13,frame:=some 14 }
abbrev bI:List Stmt:=behindTheImports QW
abbrev cE:Code:=Code.body bI ev
abbrev fT:List Frame:=[topFrame #[0,0,0,0]]
noncomputable abbrev mS (k:Nat)(l:Params->List Obj)(n t:Nat)(w:World)(os:OsState):SharedT:=#[L3.mkB k (l w.params),n,(boot_heap w.params).life,Array.mk [],boot_drawn,t,os]
abbrev q0:Str:="boxnarrow.kinds"
abbrev q1:Str:="__static_attributes__"
abbrev q2:Str:="__firstlineno__"
abbrev q3:String:="object.__init_subclass__"
abbrev q4:Str:="__module__"
abbrev q5:String:="type.__prepare__"
abbrev q6:Str:="law_boxnarrow_k54_whole_every_point"
abbrev q7:String:="object.__new__"
abbrev q8:Str:="__qualname__"
abbrev q9:String:="object"
abbrev q10:Str:="__doc__"
abbrev q11:Str:="boxnarrow.errors"
abbrev q12:Str:="boxnarrow.search"
abbrev q13:Str:="__init__"
abbrev q14:String:="getset_descriptor"
abbrev q15:Str:="slope_of_both"
abbrev q16:String:="ExceptionGroup.__weakref__"
abbrev q17:Str:="exact"
abbrev q18:Str:="forth"
abbrev q19:Str:="__weakref__"
abbrev q20:Str:="second_left"
abbrev q21:Str:="first_left"
abbrev q22:Str:="_law_script"
abbrev q23:Str:="_law_grid_here"
abbrev r (n:Addr):Value:=.ref n
abbrev sr (n:Addr):Option Value:=some (.ref n)
noncomputable abbrev dr (P:Params)(s:Str)(t:Tok)(n:Addr):DictEntry:=de P s t (.ref n)
noncomputable abbrev dn (P:Params)(s:Str)(t:Tok):DictEntry:=de P s t .none
abbrev dO (l:Array DictEntry)(n:Nat):Obj:=.mk (.type "dict") none (.dict l n) (List.toArray [])
abbrev bO (s:String)(v:Value):Obj:=.mk (.type "builtin_function_or_method") none (.fields (List.toArray [.builtin s,v])) (List.toArray [])
abbrev cO (a:Str)(t1:Tok)(b:Str)(t2 t3:Tok)(l:Int)(x:Addr)(m:Int)(y:Addr)(k l2:Int)(t4:Tok):Obj:=.mk (.type "code") none (.fields (List.toArray [.str a t1,.str b t2,.str "/claim/cut.py" t3,.int l 0,.int 0 0,.int 0 0,.int 0 0,.int 0 0,.ref x,.bool Bool.false,.int m 0,.ref y,.none,.none,.none,.none,.int k 0,.int l2 0,.str "/claim/cut.py" t4])) (List.toArray [])
abbrev gO (a b c:Addr)(s:Value)(d:Addr):Obj:=.mk (.type "frame") none .plain (List.toArray [some (.ref a),some (.ref b),some (.ref c),none,some s,none,some (.ref d)])
abbrev cp (n q:Str)(t:Tok)(i k:Int)(a:Addr)(j:Tok):Obj:=co n q t (t+1) (t+2) (j+1) i k a (a+1) (.ref (a+2)) (.ref (a+3)) (a+4) j
abbrev fp (n q:Str)(k:Nat)(m:Str)(t:Tok)(c:Addr):Obj:=fo n q (top k) (.str m t) c
abbrev fq (l:List (Int×Addr))(c:Int):Obj:=fdO (l.flatMap λx=>[.int x.1 0,.int c 0,.ref x.2])
abbrev tyO (nw:String)(n:Str)(bs ms:List Value)(d:Addr)(ss:List Value)(b:Addr)(t1 t2:Tok):Obj:=.mk (.type "type") none (.cls (PySem.ClassData.mk n bs ms d n Bool.true [] ss Bool.false none Bool.false)) (List.toArray [some (.ref b),none,some (.str n t1),some (.str n t2),some (.builtin nw),some (.bool Bool.true)])
abbrev uO (a:Addr):Obj:=.mk (.type "super") none (.fields (List.toArray [.ref a,.ref a,.ref a])) (List.toArray [])
noncomputable def mO0 (P:Params):List Obj:=[boot_o_0 P,boot_o_1 P,boot_o_2 P,boot_o_3 P,boot_o_4 P,boot_o_5 P,boot_o_6 P,boot_o_7 P,boot_o_8 P,boot_o_9 P,boot_o_10 P]++[tpO [],fdO [],(cO "<module>" 182 "<module>" 183 184 1 11 181 12 185 1 186),(gO 13 3 3 (.str "__main__" 164) 0)]
noncomputable def S0:=mS 5 mO0 15 187
theorem D4 (w:World):(λos=>L3.goK treeTable QW w 11 (some (.ref 6)) 12 (L3.Uy w os) (topStub QW))=λos=>some (S0 w os,#[denote treeTable cE,cE,#[0,0,0,0],fT]):=by kernel_rfl
theorem DO (w:World):(λos=>segRunT treeTable QW w 11 (some (.ref 6)) 1 1 (S0 w os) (blockOf bI ev cE #[0,0,0,0] fT))=λos=>some (.next,S0 w os,cE,#[0,0,0,0]):=by kernel_rfl
def nmS:Stmt->Str
 | .FunctionDef n ..|.ClassDef n ..=>n
 | _=>Str.empty
def lnS:Stmt->Int×Int
 | .FunctionDef _ a _ _ _ _ _ _ _ p=>(p.line,a.args.length)
 | _=>(0,0)
def qlS (i j:Nat):Str:=#[(nmS (top i)).cps++(List.toArray [46])++(nmS (Xa (top i) j)).cps]
def tR (i n:Nat):List (Str×Stmt):=(List.range' i n).map λi=>(nmS (top i),top i)
def cR (i n:Nat):List (Str×Stmt):=(List.range n).map λj=>(qlS i j,Xa (top i) j)
def dfs:List (Str×Stmt)->Value->Nat->Nat->List Obj
 | [],_,_,_=>[]
 | (q,st)::l,m,a,t=>if !(ZA st).more.isEmpty then dg (nmS st) q st m (lnS st).1 (lnS st).2 a t++dfs l m (a+5) (t+6) else
  let vs:=((ZA st).names.filter (·.2==.local)).map (·.1)
  df (nmS st) q st m (lnS st).1 (lnS st).2 a t vs++dfs l m (a+7) (t+6+vs.length)
abbrev dX (e:DictEntry)(l:List DictEntry)(n:Nat):Obj:=.mk (.type "dict") none (.dict (e::l).toArray n) (List.toArray [])
noncomputable abbrev dE0 (P:Params):List DictEntry:=[(dn P q10 166),(dn P "__package__" 167),(de P "__loader__" 168 (.builtin "__main__.__loader__#opaque")),(dn P "__spec__" 169),(dr P "__annotations__" 170 6),(dr P "__builtins__" 171 4),(de P "__file__" 173 (.str "/claim/cut.py" 172)),(dn P "__cached__" 174),(dr P "_wall" 193 21),(dr P "signed" 203 28),(dr P "without" 209 33),(dr P "cofactor" 218 40),(dr P "determinant" 224 45),(dr P "inverse_entry" 235 52),(dr P "inverse_row" 241 57),(dr P "inverse" 247 62),(dr P "BoxError" 267 72),(dr P "NoSpan" 283 85),(dr P "raised" 295 94),(dr P "less" 303 101),(dr P "rounded_up" 313 108),(dr P "span_of" 322 115),(dr P "add_spans" 330 122),(dr P "take_spans" 338 129),(dr P "mul_spans" 348 136),(dr P "raise_span" 354 141),(dr P "scale_span" 362 148),(dr P "common" 372 155),(dr P "hull" 380 162),(dr P "deep" 388 169),(dr P "width" 395 176),(dr P "middle" 402 183),(dr P "holds_nought" 411 190),(dr P "opposite" 418 197),(dr P "joined" 426 204),(dr P "part_between" 435 211),(dr P "quotient" 443 218),(dr P "back_by_side" 456 225),(dr P "back_times" 469 232),(dr P "root_below" 479 239),(dr P "next_guess" 488 246),(dr P "root" 497 253),(dr P "back_power" 511 260),(dr P "Node" 533 270),(dr P "Number" 601 319),(dr P "Unknown" 661 364)]
abbrev fE0:List (Int×Addr):=[(1,20),(5,27),(7,32),(10,39),(12,44),(16,51),(18,56),(20,61),(26,68),(28,81),(31,93),(36,100),(39,107),(41,114),(45,121),(47,128),(49,135),(52,140),(59,147),(61,154),(67,161),(69,168),(71,175),(73,182),(76,189),(78,196),(80,203),(86,210),(90,217),(92,224),(98,231),(109,238),(118,245),(120,252),(127,259),(138,266),(140,280),(158,327)]
noncomputable def mO1 (P:Params):List Obj:=[boot_o_0 P,boot_o_1 P,boot_o_2 P,(dX (de P "__name__" 165 (.str q0 512)) (dE0 P) 47),boot_o_4 P,boot_o_5 P,boot_o_6 P,boot_o_7 P,boot_o_8 P,boot_o_9 P,boot_o_10 P]++[tpO [],fq fE0 0,(cO "<module>" 182 "<module>" 183 184 1 11 181 12 185 1 186),(gO 13 3 3 (.str "__main__" 164) 0)]++
 dfs (tR 0 1) (.str "__main__" 164) 15 187++
 dfs (tR 2 7) (.str "boxnarrow.matrices" 194) 22 196++
 [tpO [(.type "ValueError")],(bO q5 (.type "type")),(dO (List.toArray [(de P q4 257 (.str q11 248)),(de P q8 259 (.str "BoxError" 258)),(de P q2 261 (.int 26 260)),(dr P q1 262 70)]) 4),tpO [],fdO [],(cO "BoxError" 252 "BoxError" 253 254 26 66 181 67 255 26 256),(gO 68 3 65 (.str q11 248) 0),tpO [],(dO (List.toArray [(de P q4 257 (.str q11 248)),(de P q2 261 (.int 26 260)),(dr P q1 262 70),(dr P q19 264 73),(dn P q10 265)]) 3),(tyO "ValueError.__new__" "BoxError" [(.type "ValueError")] [(r 72),(.type "ValueError"),(.type "Exception"),(.type "BaseException"),(.type q9)] 71 [(r 85)] 63 250 258),(.mk (.type q14) none (.fields (List.toArray [(.str q19 263),(r 72),(.builtin q16),.none])) (List.toArray [])),(uO 72),(bO q3 (r 72)),tpO [(r 72)],(bO q5 (.type "type")),(dO (List.toArray [(de P q4 275 (.str q11 248)),(de P q8 277 (.str "NoSpan" 276)),(de P q2 279 (.int 28 278)),(dr P q1 280 83)]) 4),tpO [],fdO [],(cO "NoSpan" 270 "NoSpan" 271 272 28 79 181 80 273 28 274),(gO 81 3 78 (.str q11 248) 0),tpO [],(dO (List.toArray [(de P q4 275 (.str q11 248)),(de P q2 279 (.int 28 278)),(dr P q1 280 83),(dn P q10 281)]) 2),(tyO "ValueError.__new__" "NoSpan" [(r 72)] [(r 85),(r 72),(.type "ValueError"),(.type "Exception"),(.type "BaseException"),(.type q9)] 84 [] 76 268 276),(uO 85),(bO q3 (r 85))]++
 dfs (tR 13 2) (.str "boxnarrow.fractions" 284) 88 286++
 dfs (tR 16 12) (.str "boxnarrow.spans" 304) 102 306++
 dfs (tR 29 11) (.str "boxnarrow.backs" 403) 184 405++
 [tpO [],(bO q5 (.type "type")),(dO (List.toArray [(de P q4 521 (.str q0 512)),(de P q8 523 (.str "Node" 522)),(de P q2 525 (.int 138 524)),(dr P q1 526 268)]) 4),tpO [],fdO [],(cO "Node" 516 "Node" 517 518 138 264 181 265 519 138 520),(gO 266 3 263 (.str q0 512) 0),tpO [],(dO (List.toArray [(de P q4 521 (.str q0 512)),(de P q2 525 (.int 138 524)),(dr P q1 526 268),(dr P "__dict__" 528 271),(dr P q19 530 272),(dn P q10 531)]) 4),(.mk (.type "type") none (.cls (PySem.ClassData.mk "Node" [(.type q9)] [(r 270),(.type q9)] 269 "Node" Bool.true [] [(r 319),(r 364)] Bool.false none Bool.false)) (List.toArray [none,none,(some (.str "Node" 514)),(some (.str "Node" 522)),(some (.builtin q7)),(some (.bool Bool.true))])),(.mk (.type q14) none (.fields (List.toArray [(.str "__dict__" 527),(r 270),(.builtin "function.__dict__"),(.builtin "function.__dict__#set")])) (List.toArray [])),(.mk (.type q14) none (.fields (List.toArray [(.str q19 529),(r 270),(.builtin q16),.none])) (List.toArray [])),(uO 270),(bO q3 (r 270)),tpO [(r 270)],(bO q5 (.type "type")),(dO (List.toArray [(de P q4 541 (.str q0 512)),(de P q8 543 (.str "Number" 542)),(de P q2 545 (.int 140 544)),(dr P q13 554 288),(dr P q17 563 295),(dr P q18 574 302),(dr P "back" 584 309),(dr P "slope" 595 316),(dr P q1 598 317)]) 9),tpO [],fq [(142,287),(146,294),(149,301),(153,308),(156,315)] 4,(cO "Number" 536 "Number" 537 538 140 278 181 279 539 140 540),(gO 280 3 277 (.str q0 512) 0)]++
 dfs (cR 42 5) (.str q0 512) 282 546++
 [tpO [(.str "bottom" 596),(.str "top" 597)],(dO (List.toArray [(de P q4 541 (.str q0 512)),(de P q2 545 (.int 140 544)),(dr P q13 554 288),(dr P q17 563 295),(dr P q18 574 302),(dr P "back" 584 309),(dr P "slope" 595 316),(dr P q1 598 317),(dn P q10 599)]) 2),(tyO q7 "Number" [(r 270)] [(r 319),(r 270),(.type q9)] 318 [] 275 534 542),(uO 319),(bO q3 (r 319)),tpO [(r 270)],(bO q5 (.type "type")),(dO (List.toArray [(de P q4 609 (.str q0 512)),(de P q8 611 (.str "Unknown" 610)),(de P q2 613 (.int 158 612)),(dr P q13 621 335),(dr P q17 630 342),(dr P q18 640 349),(dr P "back" 650 356),(dr P "slope" 656 361),(dr P q1 658 362)]) 9),tpO [],fq [(160,334),(163,341),(166,348),(169,355),(172,360)] 4,(cO "Unknown" 604 "Unknown" 605 606 158 325 181 326 607 158 608),(gO 327 3 324 (.str q0 512) 0)]++
 dfs (cR 43 5) (.str q0 512) 329 614++
 [tpO [(.str "place" 657)],(dO (List.toArray [(de P q4 609 (.str q0 512)),(de P q2 613 (.int 158 612)),(dr P q13 621 335),(dr P q17 630 342),(dr P q18 640 349),(dr P "back" 650 356),(dr P "slope" 656 361),(dr P q1 658 362),(dn P q10 659)]) 2),(tyO q7 "Unknown" [(r 270)] [(r 364),(r 270),(.type q9)] 363 [] 322 602 610),(uO 364),(bO q3 (r 364))]
noncomputable def S1:=mS 12 mO1 367 662
theorem p1_eq (w:World):(λos=>segRunT treeTable QW w 11 (some (.ref 6)) 1 2399 (S0 w os) (piecesOf (bI.take 44) ev cE #[0,0,0,0] fT))=λos=>some (.next,S1 w os,cE,#[158,0,173,85]):=by kernel_rfl
noncomputable abbrev dE1 (P:Params):List DictEntry:=dE0 P++[(dr P "Pair" 706 395),(dr P "Plus" 775 442),(dr P "Minus" 844 489),(dr P "Times" 913 536),(dr P "Power" 976 581),(dr P "kind_of" 983 590),(dr P "worths" 996 597),(dr P "bars" 1004 604),(dr P "sure" 1012 611),(dr P "slopes" 1026 618),(dr P "equation_places" 1034 623),(dr P "picked" 1040 628),(dr P "middles" 1046 633),(dr P "box_of_middles" 1052 638),(dr P "sum_of_products" 1064 645),(dr P "lacking" 1070 650),(dr P "span_by" 1076 655),(dr P "step_by" 1082 660),(dr P "thin_worths" 1092 667),(dr P "slopes_at" 1102 674),(dr P "leasts_are_sure" 1108 679),(dr P "all_deep" 1114 684),(dr P "alone" 1120 689),(dr P "asked_of" 1130 696),(dr P "spans_back" 1146 703),(dr P "narrowed" 1161 710),(dr P "with_span" 1172 717),(dr P "is_barred" 1183 724),(dr P "cut_off" 1191 731),(dr P "cut_back" 1199 738),(dr P "is_shave" 1212 745),(dr P "shaves" 1228 752),(dr P "widths" 1236 757),(dr P "widest" 1243 764),(dr P "Book" 1316 812),(dr P "out_by" 1328 823),(dr P "shave" 1345 830),(dr P "fate_by_rows" 1351 835),(dr P "fate_of_one" 1364 842),(dr P "fate_of" 1377 849),(dr P "is_much_less" 1385 856),(dr P "cut_in_the_middle" 1395 863),(dr P "look" 1410 870),(dr P "search" 1425 877),(dr P "_law_cell_at" 1436 884),(dr P "_law_node" 1448 891),(dr P "_law_weight" 1456 898),(dr P "_law_net" 1462 903),(dr P "_law_divisor" 1471 910),(dr P "_law_power" 1481 917),(dr P "_law_exacts" 1493 924),(dr P "_law_heavy" 1502 931),(dr P "_law_put" 1510 938),(dr P "_law_row" 1529 945),(dr P "_law_rows" 1543 952),(dr P "_law_box" 1555 959),(dr P "_law_met" 1563 966),(dr P "_law_grid" 1570 973),(dr P "_law_cells" 1577 980),(dr P "_law_point" 1592 987),(dr P "_law_leaf" 1605 994),(dr P "_law_at_cut" 1611 999),(dr P "_law_same" 1617 1004),(dr P "_law_right" 1623 1009),(dr P "_law_raw" 1631 1016),(dr P "_law_any_node" 1644 1023),(dr P "_law_any_net" 1659 1030),(dr P "_law_any_box" 1673 1037),(dr P "_law_any_rows" 1686 1044),(dr P "_law_any_system" 1699 1051),(dr P "_law_drawn_system" 1705 1056),(dr P "_law_points" 1722 1063)]
abbrev fE1:List (Int×Addr):=fE0++[(174,372),(194,403),(210,450),(226,497),(242,544),(264,589),(277,596),(282,603),(286,610),(291,617),(298,622),(300,627),(302,632),(304,637),(306,644),(311,649),(315,654),(322,659),(324,666),(326,673),(328,678),(330,683),(332,688),(345,695),(349,702),(363,709),(374,716),(376,723),(379,730),(381,737),(383,744),(389,751),(404,756),(406,763),(408,770),(436,822),(439,829),(451,834),(458,841),(464,848),(472,855),(474,862),(478,869),(489,876),(498,883),(503,890),(517,897),(523,902),(533,909),(541,916),(546,923),(566,930),(571,937),(575,944),(589,951),(600,958),(617,965),(621,972),(625,979),(627,986),(635,993),(645,998),(658,1003),(660,1008),(673,1015),(677,1022),(690,1029),(700,1036),(708,1043),(715,1050),(725,1055),(735,1062)]
noncomputable def mO2 (P:Params):List Obj:=((((mO1 P).set 3 (dX (de P "__name__" 165 (.str q6 1426)) (dE1 P) 119)).set 12 (fq fE1 0)).set 270 (.mk (.type "type") none (.cls (PySem.ClassData.mk "Node" [(.type q9)] [(r 270),(.type q9)] 269 "Node" Bool.true [] [(r 319),(r 364),(r 395),(r 581)] Bool.false none Bool.false)) (List.toArray [none,none,(some (.str "Node" 514)),(some (.str "Node" 522)),(some (.builtin q7)),(some (.bool Bool.true))])))++
 [tpO [(r 270)],(bO q5 (.type "type")),(dO (List.toArray [(de P q4 669 (.str q0 512)),(de P q8 671 (.str "Pair" 670)),(de P q2 673 (.int 174 672)),(dr P q13 682 380),(dr P "back" 694 387),(dr P "slope" 700 392),(dr P q1 703 393)]) 7),tpO [],fq [(176,379),(180,386),(190,391)] 4,(cO "Pair" 664 "Pair" 665 666 174 370 181 371 667 174 668),(gO 372 3 369 (.str q0 512) 0)]++
 dfs (cR 44 3) (.str q0 512) 374 674++
 [tpO [(.str "one" 701),(.str "other" 702)],(dO (List.toArray [(de P q4 669 (.str q0 512)),(de P q2 673 (.int 174 672)),(dr P q13 682 380),(dr P "back" 694 387),(dr P "slope" 700 392),(dr P q1 703 393),(dn P q10 704)]) 2),(tyO q7 "Pair" [(r 270)] [(r 395),(r 270),(.type q9)] 394 [(r 442),(r 489),(r 536)] 367 662 670),(uO 395),(bO q3 (r 395)),tpO [(r 395)],(bO q5 (.type "type")),(dO (List.toArray [(de P q4 714 (.str q0 512)),(de P q8 716 (.str "Plus" 715)),(de P q2 718 (.int 194 717)),(dr P q17 727 411),(dr P q18 737 418),(dr P q21 748 425),(dr P q20 759 432),(dr P q15 771 439),(dr P q1 772 440)]) 9),tpO [],fq [(196,410),(199,417),(202,424),(205,431),(208,438)] 4,(cO "Plus" 709 "Plus" 710 711 194 401 181 402 712 194 713),(gO 403 3 400 (.str q0 512) 0)]++
 dfs (cR 45 5) (.str q0 512) 405 719++
 [tpO [],(dO (List.toArray [(de P q4 714 (.str q0 512)),(de P q2 718 (.int 194 717)),(dr P q17 727 411),(dr P q18 737 418),(dr P q21 748 425),(dr P q20 759 432),(dr P q15 771 439),(dr P q1 772 440),(dn P q10 773)]) 2),(tyO q7 "Plus" [(r 395)] [(r 442),(r 395),(r 270),(.type q9)] 441 [] 398 707 715),(uO 442),(bO q3 (r 442)),tpO [(r 395)],(bO q5 (.type "type")),(dO (List.toArray [(de P q4 783 (.str q0 512)),(de P q8 785 (.str "Minus" 784)),(de P q2 787 (.int 210 786)),(dr P q17 796 458),(dr P q18 806 465),(dr P q21 817 472),(dr P q20 828 479),(dr P q15 840 486),(dr P q1 841 487)]) 9),tpO [],fq [(212,457),(215,464),(218,471),(221,478),(224,485)] 4,(cO "Minus" 778 "Minus" 779 780 210 448 181 449 781 210 782),(gO 450 3 447 (.str q0 512) 0)]++
 dfs (cR 46 5) (.str q0 512) 452 788++
 [tpO [],(dO (List.toArray [(de P q4 783 (.str q0 512)),(de P q2 787 (.int 210 786)),(dr P q17 796 458),(dr P q18 806 465),(dr P q21 817 472),(dr P q20 828 479),(dr P q15 840 486),(dr P q1 841 487),(dn P q10 842)]) 2),(tyO q7 "Minus" [(r 395)] [(r 489),(r 395),(r 270),(.type q9)] 488 [] 445 776 784),(uO 489),(bO q3 (r 489)),tpO [(r 395)],(bO q5 (.type "type")),(dO (List.toArray [(de P q4 852 (.str q0 512)),(de P q8 854 (.str "Times" 853)),(de P q2 856 (.int 226 855)),(dr P q17 865 505),(dr P q18 875 512),(dr P q21 886 519),(dr P q20 897 526),(dr P q15 909 533),(dr P q1 910 534)]) 9),tpO [],fq [(228,504),(231,511),(234,518),(237,525),(240,532)] 4,(cO "Times" 847 "Times" 848 849 226 495 181 496 850 226 851),(gO 497 3 494 (.str q0 512) 0)]++
 dfs (cR 47 5) (.str q0 512) 499 857++
 [tpO [],(dO (List.toArray [(de P q4 852 (.str q0 512)),(de P q2 856 (.int 226 855)),(dr P q17 865 505),(dr P q18 875 512),(dr P q21 886 519),(dr P q20 897 526),(dr P q15 909 533),(dr P q1 910 534),(dn P q10 911)]) 2),(tyO q7 "Times" [(r 395)] [(r 536),(r 395),(r 270),(.type q9)] 535 [] 492 845 853),(uO 536),(bO q3 (r 536)),tpO [(r 270)],(bO q5 (.type "type")),(dO (List.toArray [(de P q4 921 (.str q0 512)),(de P q8 923 (.str "Power" 922)),(de P q2 925 (.int 242 924)),(dr P q13 934 552),(dr P q17 943 559),(dr P q18 953 566),(dr P "back" 964 573),(dr P "slope" 970 578),(dr P q1 973 579)]) 9),tpO [],fq [(244,551),(248,558),(251,565),(254,572),(260,577)] 4,(cO "Power" 916 "Power" 917 918 242 542 181 543 919 242 920),(gO 544 3 541 (.str q0 512) 0)]++
 dfs (cR 48 5) (.str q0 512) 546 926++
 [tpO [(.str "many" 971),(.str "one" 972)],(dO (List.toArray [(de P q4 921 (.str q0 512)),(de P q2 925 (.int 242 924)),(dr P q13 934 552),(dr P q17 943 559),(dr P q18 953 566),(dr P "back" 964 573),(dr P "slope" 970 578),(dr P q1 973 579),(dn P q10 974)]) 2),(tyO q7 "Power" [(r 270)] [(r 581),(r 270),(.type q9)] 580 [] 539 914 922),(uO 581),(bO q3 (r 581))]++
 dfs (tR 49 1) (.str q0 512) 584 977++
 dfs (tR 51 3) (.str "boxnarrow.worths" 984) 591 986++
 dfs (tR 55 1) (.str "boxnarrow.sloping" 1013) 612 1015++
 dfs (tR 57 13) (.str "boxnarrow.alone" 1027) 619 1029++
 dfs (tR 71 3) (.str "boxnarrow.narrow" 1121) 690 1123++
 dfs (tR 75 6) (.str "boxnarrow.shaving" 1162) 711 1164++
 dfs (tR 82 2) (.str q12 1229) 753 1231++
 [tpO [],(bO q5 (.type "type")),(dO (List.toArray [(de P q4 1251 (.str q12 1229)),(de P q8 1253 (.str "Book" 1252)),(de P q2 1255 (.int 408 1254)),(dr P q13 1263 778),(dr P "put_entry" 1271 785),(dr P "settle" 1280 792),(dr P "part" 1294 799),(dr P "to_look_at" 1300 804),(dr P "entries" 1306 809),(dr P q1 1309 810)]) 10),tpO [],fq [(410,777),(414,784),(419,791),(422,798),(430,803),(434,808)] 4,(cO "Book" 1246 "Book" 1247 1248 408 768 181 769 1249 408 1250),(gO 770 3 767 (.str q12 1229) 0)]++
 dfs (cR 84 6) (.str q12 1229) 772 1256++
 [tpO [(.str "boxes" 1307),(.str "fates" 1308)],(dO (List.toArray [(de P q4 1251 (.str q12 1229)),(de P q2 1255 (.int 408 1254)),(dr P q13 1263 778),(dr P "put_entry" 1271 785),(dr P "settle" 1280 792),(dr P "part" 1294 799),(dr P "to_look_at" 1300 804),(dr P "entries" 1306 809),(dr P q1 1309 810),(dr P "__dict__" 1311 813),(dr P q19 1313 814),(dn P q10 1314)]) 4),(.mk (.type "type") none (.cls (PySem.ClassData.mk "Book" [(.type q9)] [(r 812),(.type q9)] 811 "Book" Bool.true [] [] Bool.false none Bool.false)) (List.toArray [none,none,(some (.str "Book" 1244)),(some (.str "Book" 1252)),(some (.builtin q7)),(some (.bool Bool.true))])),(.mk (.type q14) none (.fields (List.toArray [(.str "__dict__" 1310),(r 812),(.builtin "function.__dict__"),(.builtin "function.__dict__#set")])) (List.toArray [])),(.mk (.type q14) none (.fields (List.toArray [(.str q19 1312),(r 812),(.builtin q16),.none])) (List.toArray [])),(uO 812),(bO q3 (r 812))]++
 dfs (tR 85 9) (.str q12 1229) 817 1317++
 dfs (tR 95 27) (.str q6 1426) 878 1428++
 df "_law_points" "_law_points" (top 122) (.str q6 1426) 735 3 1057 1706 [q22,"_law_box_here",q23,"_law_points_here","_law_k","_law_cell","_law_point_here","_law_span","_law_parts","_law_top","_law_shared"]
noncomputable def S2:=mS 12 mO2 1064 1723
theorem p2_eq (w:World):(λos=>segRunT treeTable QW w 11 (some (.ref 6)) 1 4408 (S1 w os) (piecesOf ((bI.drop 44).take 79) ev cE #[158,0,173,85] fT))=λos=>some (.next,S2 w os,cE,#[735,0,750,27]):=by kernel_rfl
def kA:List Addr:=(27::32::39::44::51::56::61::71::84::93::100::107::114::121::128::135::140::147::154::161::168::175::182::189::196::203::210::217::224::231::238::245::252::259::269::287::301::308::315::318::334::348::355::360::363::379::386::391::394::417::424::431::438::441::464::471::478::485::488::511::518::525::532::535::551::565::572::577::580::589::596::603::610::617::622::627::632::637::644::649::654::659::666::673::678::683::688::695::702::709::716::723::730::737::744::751::756::763::777::784::791::798::803::808::811::822::829::834::841::848::855::862::869::876::883::890::897::902::909::916::923::930::937::944::951::958::965::972::979::986::993::998::1003::1008::1015::1022::1029::1036::1043::1050::1055::1062::[]).flatMap λa=>[a,a+1]
noncomputable abbrev dE2 (P:Params):List DictEntry:=dE1 P++[(dr P "law" 1742 1070)]
noncomputable def kq:Params->PySem.W.Frag:=λP=>
 (3,(dX (de P "__name__" 165 (.str q6 1426)) (dE2 P) 120))::
 (1069,cp "law" "law" 1723 751 1 1064 1740)::
 (1070,fp "law" "law" 123 q6 1426 1069)::
 kA.map λa=>(a,(mO2 P).getD a (boot_o_0 P))
noncomputable def kp:Params->PySem.W.Frag:=λP=>(nat_lit 801,#[.none,none,.fields (List.toArray []),(List.toArray [])])::kq P
def ks:List Addr:=801::3::1069::1070::kA
theorem WG (P:Params):ks=(kp P).map (·.1):=by kernel_rfl
noncomputable abbrev hk:W.Hook:=W.kHook kp ks WG
noncomputable abbrev gT {α:Type}(w:World)(f:SharedT->α):=λos=>(L3.frc (L3.mkB 12 (mO2 w.params)) λT=>L3.goT treeTable QW w 11 (some (.ref 6)) 210 #[T,1064,(boot_heap w.params).life,Array.mk [],boot_drawn,1723,os] (restOf ((bI.drop 44).drop 79) ev cE #[735,0,750,27] fT)).map f
theorem Bz (w:World):gT w (λs=>(L3.Qa QW w s))=λ_=>some (true):=by kernel_rfl
theorem G9 (w:World):gT w (λs=>(seen ((recsOf vw).map (·.name)) (ownsOf vw) [] { s.abs with gens:=(List.toArray []) }))=λ_=>some (expectedOf vw):=by kernel_rfl
theorem KR (w:World):gT w (λs=>(s.abs.heap.bltView))=λ_=>some (bltViewBooted):=by kernel_rfl
theorem Jt (w:World):gT w (λs=>(s.abs.heap.keysOk (looseW vw []) ((recsOf vw).map (·.name)) ((litsOf vw).map (·.1)) ((clssOf vw (looseW vw [])).map (·.name))&&s.abs.heap.accountedOkI (importedModules QW.main.body)&&s.abs.heap.isNs mainGlobals&&s.abs.heap.isNs builtinsNs&&tablesOk vw s.abs.heap&&xt s.abs&&(if true then s.abs.gens.size==0 else !leftWithCleanup s.abs.gens)))=λ_=>some (true):=by kernel_rfl
theorem Gs (w:World):gT w (λs=>((recsOf vw).all λd=>s.abs.heap.tab0Ok d.name))=λ_=>some (true):=by kernel_rfl
theorem Ay (w:World):gT w (λs=>(s.abs.heap.bmainOk))=λ_=>some (true):=by kernel_rfl
theorem Hj (w:World):gT w (λs=>(valsOk vw s.abs.heap))=λ_=>some (true):=by kernel_rfl
theorem EF (w:World):gT w (λs=>(!importsNone vw||s.abs.heap.noSeerOk))=λ_=>some (true):=by kernel_rfl
theorem AE (w:World):(λos=>(L3.frc (L3.mkB 12 (mO2 w.params)) λT=>L3.goT treeTable QW w 11 (some (.ref 6)) 210 #[T,1064,(boot_heap w.params).life,Array.mk [],boot_drawn,1723,os] (restOf ((bI.drop 44).drop 79) ev cE #[735,0,750,27] fT)).map λs=>(tabsOk vw s.abs))=λ_=>some (true):=L3.R7 (L3.R7 (L3.R7 (Gs w) (Ay w)) (Hj w)) (EF w)
theorem Hx (w:World):gT w (λs=>(pinSeenD vw (drecsOf vw) s.abs,plainSeenE vw (looseW vw []) s.abs,plainSeenD vw [] s.abs,wideSeen vw s.abs,clsSeenW vw [] s.abs))=λ_=>some (pinGoodD (drecsOf vw),plainGoodE vw (looseW vw []),plainGoodD vw [],wideGood vw,clsGoodW vw []):=by kernel_rfl
theorem ob_eq (w:World):gT w (λs=>ks.map (L3.T9 s))=λ_=>some (hk.val w):=by kernel_rfl
theorem left:LeftO QW vw [] xt hk.obs hk.val 7030:=L3.Ki (L3.BB ks) QR ⋯ fe_eq si_eq (λw os _ r=>L3.GC rfl (congrFun (D4 w) os) (congrFun (DO w) os) ⋯ (L3.O0 (congrFun (p1_eq w) os) (L3.O0 (congrFun (p2_eq w) os) (L3.M6 ((L3.Qt _ _).symm.trans r))))) (λw=>L3.Qo (Bz w) (G9 w)) (λw=>L3.Qo (KR w) (Jt w)) (λw=>L3.Qo (AE w) (Hx w)) ob_eq
end Mine
namespace L2
open PySem PySem.Spec PyProof.Rows
abbrev Key:=Sum Int Str
def Vv:Key->Value->Bool
 | .inl k,v=>Value.isInt k v
 | .inr x,v=>Value.isStrOf x v
def keyH (w:World):Key->Int
 | .inl k=>hashInt k
 | .inr x=>hashStr w x
theorem Wt:∀ {k:Key} {v:Value},Vv k v=true->(∃i t,k=Sum.inl i/\v=Value.int i t)\/(∃x t,k=Sum.inr x/\v=Value.str x t)
 | .inl i,v,h=>by
  obtain⟨t,e⟩:=Value.isInt_shape h;exact .inl #[i,t,rfl,e]
 | .inr x,v,h=>by
  obtain⟨t,e⟩:=Value.isStrOf_shape h;exact .inr #[x,t,rfl,e]
theorem Ax (i:Int)(t:Tok):Vv (.inl i) (.int i t)=true:=by simp[Vv,Value.isInt]
theorem De (x:Str)(t:Tok):Vv (.inr x) (.str x t)=true:=by simp[Vv,Value.isStrOf]
theorem HE (a b:Int):decide ((Sum.inl a:Key)=Sum.inl b)=(a==b):=by
 by_cases e:a=b
 .subst e;simp
 .have h:¬ (Sum.inl a:Key)=Sum.inl b:=λq=>e (Sum.inl.inj q)
  rw[decide_eq_false h];exact(beq_eq_false_iff_ne.mpr e).symm
theorem DE (a b:Str):decide ((Sum.inr a:Key)=Sum.inr b)=decide (a=b):=by
 by_cases e:a=b
 .subst e;simp
 .have h:¬ (Sum.inr a:Key)=Sum.inr b:=λq=>e (Sum.inr.inj q)
  rw[decide_eq_false h,decide_eq_false e]
theorem Fc (a:Int)(b:Str):decide ((Sum.inl a:Key)=Sum.inr b)=false:=decide_eq_false (λq=>nomatch q)
theorem Jo (a:Str)(b:Int):decide ((Sum.inr a:Key)=Sum.inl b)=false:=decide_eq_false (λq=>nomatch q)
def Xb (prog:Program)(w:World):PySem.KeyKind prog w Key where
 is:=Vv
 hash:=keyH w
 inj:=λv a b ha hb=>by
  rcases Wt ha with ⟨i,t,rfl,rfl⟩|⟨x,t,rfl,rfl⟩
  .rcases Wt hb with ⟨j,u,rfl,e⟩|⟨y,u,rfl,e⟩
   .injection e with e1 _;rw[e1]
   .exact nomatch e
  .rcases Wt hb with ⟨j,u,rfl,e⟩|⟨y,u,rfl,e⟩
   .exact nomatch e
   .injection e with e1 _;rw[e1]
 byValue:=λk v h=>by
  rcases Wt h with ⟨i,t,rfl,rfl⟩|⟨x,t,rfl,rfl⟩<;>rfl
 pyHash:=λhv h=>by
  rcases Wt hv with ⟨i,t,rfl,rfl⟩|⟨x,t,rfl,rfl⟩
  .exact wpAny_pyHash_int h
  .exact wpAny_pyHash_str h
 eqBool:=λhu hv h=>by
  rcases Wt hu with ⟨i,t,rfl,rfl⟩|⟨x,t,rfl,rfl⟩
  .rcases Wt hv with ⟨j,u,rfl,rfl⟩|⟨y,u,rfl,rfl⟩
   .rw[HE] at h;exact wpAny_eqBool_int h
   .rw[Fc] at h;exact SeqAt.EqAt.int_str i t y u _ _ _ _ h
  .rcases Wt hv with ⟨j,u,rfl,rfl⟩|⟨y,u,rfl,rfl⟩
   .rw[Jo] at h;exact SeqAt.EqAt.str_int x t j u _ _ _ _ h
   .rw[DE] at h;exact wpAny_eqBool_str h
 «strs»:=λk x t v h=>by
  rcases Wt h with ⟨i,u,rfl,e⟩|⟨y,u,rfl,e⟩
  .exact nomatch e
  .injection e with e1 _
   subst e1;cases v<;>rfl
theorem BJ (prog:Program)(w:World)(i:Int)(t:Tok):(Xb prog w).is (.inl i) (.int i t)=true:=Ax i t
theorem J4 (prog:Program)(w:World)(x:Str)(t:Tok):(Xb prog w).is (.inr x) (.str x t)=true:=De x t
set_option genInjectivity true in
inductive V where
 | non|bl (b:Bool)|int (i:Int)|str (x:Str)|byt (b:Array UInt8)|flt (b:UInt64)|ref (a:Addr)|ty (n:String)
 deriving DecidableEq
def Zw:V->Value->Prop
 | .non,u=>u=Value.none
 | .bl b,u=>u=Value.bool b
 | .int i,u=>∃t,u=Value.int i t
 | .str x,u=>∃t,u=Value.str x t
 | .byt b,u=>∃t,u=Value.bytes b t
 | .flt b,u=>∃t,u=Value.float b t
 | .ref a,u=>u=Value.ref a
 | .ty n,u=>u=Value.type n
abbrev Zz:List V->List Value->Prop:=Paired Zw
theorem Zz.length {xs:List V}{us:List Value}(r:Zz xs us):xs.length=us.length:=Paired.length r
theorem Zz.get:∀ {xs:List V} {us:List Value} {i:Nat} {x:V},Zz xs us->xs[i]?=some x->∃u,us[i]?=some u/\Zw x u
 | _,_,_,_,.nil,e=>by simp at e
 | _,_,0,_,.cons r _,e=>by simp at e;subst e;exact#[_,rfl,r]
 | _,_,i+1,x,.cons _ t,e=>by
  obtain⟨u,h1,h2⟩:=Zz.get t (by simpa using e);exact#[u,by simpa using h1,h2]
theorem Zz.set {x:V}{u:Value}(r:Zw x u):∀ {xs:List V} {us:List Value} (i:Nat),Zz xs us->Zz (xs.set i x) (us.set i u)
 | _,_,_,.nil=>.nil
 | _,_,0,.cons _ t=>.cons r t
 | _,_,i+1,.cons q t=>.cons q (Zz.set r i t)
theorem Zz.append:∀ {xs ys:List V} {us ws:List Value},Zz xs us->Zz ys ws->Zz (xs++ys) (us++ws)
 | _,_,_,_,.nil,s=>s
 | _,_,_,_,.cons r t,s=>.cons r (Zz.append t s)
theorem Zz.take:∀ {xs:List V} {us:List Value} (n:Nat),Zz xs us->Zz (xs.take n) (us.take n)
 | _,_,0,_=>.nil
 | _,_,_+1,.nil=>.nil
 | _,_,n+1,.cons r t=>.cons r (Zz.take n t)
theorem Zz.drop:∀ {xs:List V} {us:List Value} (n:Nat),Zz xs us->Zz (xs.drop n) (us.drop n)
 | _,_,0,r=>r
 | _,_,_+1,.nil=>.nil
 | _,_,n+1,.cons _ t=>Zz.drop n t
def Y8:Option V->Option Value->Prop
 | some v,some u=>Zw v u
 | none,none=>True
 | _,_=>False
def KV {κ:Type}:List (κ×V)->List (κ×Value)->Prop:=Paired λ(p:κ×V)(q:κ×Value)=>p.1=q.1/\Zw p.2 q.2
def kV:Key->V
 | .inl i=>.int i
 | .inr x=>.str x
inductive HO where
  | lst (xs:List V)
  | tup (xs:List V)
  | dK (kvs:List (Key×V))|dT (kvs:List (List Key×V))
  | set (S:Int->Bool) (n:Nat)
  | ins (C dx:Addr) (fs:List (Str×V))
  | own (x:Addr)
  | xd (fs:List (Str×V))
  | met (f x:Addr)
  | rng (lo hi:Int)
  | frz (o:Obj) (u:HO)
  | tbl (ps:Array Value)
  | ext (φ:Heap->Prop)
abbrev Hp:=Addr->Option HO
def upd (H:Hp)(a:Addr)(o:HO):Hp:=λb=>if b=a then some o else H b
theorem Yz {H:Hp}{a:Addr}{o:HO}:upd H a o a=some o:=by unfold upd;rw[if_pos rfl]
theorem ZV {H:Hp}{a b:Addr}{o:HO}(h:b≠a):upd H a o b=H b:=by unfold upd;rw[if_neg h]
theorem Tj {H:Hp}{a b:Addr}{o u:HO}(h:H a=some o)(h':H b=some u)(d:o≠u):a≠b:=by
 intro e;subst e;rw[h] at h';exact d (Option.some.inj h')
theorem WO {H:Hp}{a b:Addr}{o:HO}(h:H a=some o)(h':H b=none):a≠b:=by
 intro e;subst e;rw[h] at h';cases h'
section
variable (P:Program)(w:World)
def YF (H:Hp)(h:Heap)(a:Addr):HO->Prop
 | .lst xs=>xs.length<=sizeLine/\∃(aY:List Value)(n:Nat),Zz xs aY/\h.get? a=some { cls:=.type "list",data:=.seq aY.toArray n }
 | .tup xs=>xs.length<=sizeLine/\∃aY:List Value,Zz xs aY/\IsTup h a aY.toArray
 | .dK kvs=>kvs.length<=sizeLine/\(a==sysModules)=false/\∃vs,KV kvs vs/\h.DictOf (Xb P w) a vs
 | .dT kvs=>kvs.length<=sizeLine/\(a==sysModules)=false/\∃xs:List (List Key×Addr×Value),
   Paired (λ(p:List Key×V)(q:List Key×Addr×Value)=>p.1=q.1/\H q.2.1=some (.tup (p.1.map kV))/\Zw p.2 q.2.2) kvs xs/\
   ∃o es ep,h.get? a=some o/\o.ExactDict/\o.data=.dict es ep/\es.toList=xs.map (entryOfKey (tupleKind (Xb P w)))/\(xs.map (·.1)).Nodup
 | .set S n=>h.SetOf (intKind P w) a S n
 | .ins C dx fs=>H dx=some (.own a)/\fs.length<=1000/\dx≠a/\h.get? a=some (W.instObj C dx)/\
   ∃mA,h.Ns1 dx mA/\(∀f,Y8 (fs.lookup f) (mA f))/\PySem.Within mA (fs.map (·.1))
 | .own _=>∃o,h.get? a=some o
 | .xd fs=>∃mA,h.Ns1 a mA/\∀f,Y8 (fs.lookup f) (mA f)
 | .rng lo hi=>∃t u v,h.get? a=some { cls:=.type "range",data:=.fields (List.toArray [.int lo t,.int hi u,.int 1 v]) }
 | .frz o u=>h.get? a=some o/\YF H h a u
 | .tbl ps=>h.get? a=some { cls:=.none,data:=.fields ps }
 | .met f x=>h.get? a=some (W.methodObj (.ref f) (.ref x))
 | .ext φ=>φ h/\(∃o,h.get? a=some o)/\∀h1 h2:Heap,φ h1->(∀o,h1.get? a=some o->h2.get? a=some o)->φ h2
def HOk (H:Hp)(h:Heap):Prop:=∀a o,H a=some o->YF P w H h a o
end
section
variable {P:Program}{w:World}{H H':Hp}{h h':Heap}{a:Addr}{o:HO}
theorem YF.lt (x:YF P w H h a o):a<h.objs.size:=by
 cases o with
 | lst xs=>obtain⟨_,_,_,_,e⟩:=x;exact Heap.lt_size e
 | tup xs=>obtain⟨_,_,_,p⟩:=x;exact p.lt
 | dK kvs=>obtain⟨_,_,_,_,o,_,_,e,_⟩:=x;exact Heap.lt_size e
 | dT kvs=>obtain⟨_,_,_,_,o,_,_,e,_⟩:=x;exact Heap.lt_size e
 | set S n=>obtain⟨o,_,_,_,e,_⟩:=x;exact Heap.lt_size e
 | ins C dx fs=>obtain⟨_,_,_,e,_⟩:=x;exact Heap.lt_size e
 | own y=>obtain⟨_,e⟩:=x;exact Heap.lt_size e
 | xd fs=>obtain⟨_,⟨_,_,_,e,_⟩,_⟩:=x;exact Heap.lt_size e
 | rng lo hi=>obtain⟨_,_,_,e⟩:=x;exact Heap.lt_size e
 | frz ob u=>obtain⟨e,_⟩:=x;exact Heap.lt_size e
 | tbl ps=>exact Heap.lt_size (show h.get? a=some _ from x)
 | met f y=>exact Heap.lt_size (show h.get? a=some _ from x)
 | ext φ=>obtain⟨_,⟨_,e⟩,_⟩:=x;exact Heap.lt_size e
theorem Paired.mapP:∀ {l₁:List α} {l₂:List β},Paired F l₁ l₂->(∀a b,F a b->G a b)->Paired G l₁ l₂
 | _,_,.nil,_=>.nil
 | _,_,.cons r t,f=>.cons (f _ _ r) (Paired.mapP t f)
theorem YF.stay (x:YF P w H h a o)(k:∀b u,(b=a\/H b=some (.own a))->h.get? b=some u->h'.get? b=some u)
  (ho:∀b,H b=some (.own a)->H' b=some (.own a))(ht:∀b xs,H b=some (.tup xs)->H' b=some (.tup xs)):YF P w H' h' a o:=by
 induction o with
 | lst xs=>obtain⟨z,aY,n,r,e⟩:=x;exact#[z,aY,n,r,k _ _ (.inl rfl) e]
 | tup xs=>obtain⟨z,aY,r,ob,e,c⟩:=x;exact#[z,aY,r,ob,k _ _ (.inl rfl) e,c]
 | dK kvs=>obtain⟨z,y,vs,r,ob,es,ep,e,c⟩:=x;exact#[z,y,vs,r,ob,es,ep,k _ _ (.inl rfl) e,c]
 | dT kvs=>
  obtain⟨z,y,xs,r,ob,es,ep,e,c⟩:=x;exact#[z,y,xs,Paired.mapP r λp q z=>#[z.1,ht _ _ z.2.1,z.2.2],ob,es,ep,k _ _ (.inl rfl) e,c]
 | set S n=>obtain⟨ob,es,ep,t,e,c⟩:=x;exact#[ob,es,ep,t,k _ _ (.inl rfl) e,c]
 | ins C dx fs=>
  obtain⟨d,z,ne,e,mA,⟨od,es,ep,e2,c⟩,r⟩:=x;exact#[ho _ d,z,ne,k _ _ (.inl rfl) e,mA,#[od,es,ep,k _ _ (.inr d) e2,c],r]
 | own y=>obtain⟨ob,e⟩:=x;exact#[ob,k _ _ (.inl rfl) e]
 | xd fs=>obtain⟨mA,⟨od,es,ep,e,c⟩,r⟩:=x;exact#[mA,#[od,es,ep,k _ _ (.inl rfl) e,c],r]
 | rng lo hi=>obtain⟨t,u,v,e⟩:=x;exact#[t,u,v,k _ _ (.inl rfl) e]
 | frz ob u ih=>obtain⟨e,q⟩:=x;exact#[k _ _ (.inl rfl) e,ih q]
 | tbl ps=>
  have e:h.get? a=some { cls:=.none,data:=.fields ps }:=x;exact k a _ (.inl rfl) e
 | met f y=>
  have e:h.get? a=some (W.methodObj (.ref f) (.ref y)):=x;exact k a _ (.inl rfl) e
 | ext φ=>obtain⟨p,⟨o,e⟩,st⟩:=x;exact#[st _ _ p λo q=>k _ _ (.inl rfl) q,#[o,k _ _ (.inl rfl) e],st]
theorem HOk.lt (x:HOk P w H h)(e:H a=some o):a<h.objs.size:=(x a o e).lt
theorem HOk.fresh (x:HOk P w H h)(e:h.objs.size<=a):H a=none:=by
 cases q:H a with
 | none=>rfl
 | some u=>exact absurd (zV (x.lt q) e) (yW _)
theorem HOk.kept (x:HOk P w H h)(k:∀b u,h.get? b=some u->h'.get? b=some u):HOk P w H h':=λa o e=>
 (x a o e).stay (λb u _ q=>k b u q) (λ_ q=>q) λ_ _ q=>q
theorem HOk.laid (x:HOk P w H h)(k:∀b u,h.get? b=some u->h'.get? b=some u)(hp:h.objs.size<=a)(new:YF P w (upd H a o) h' a o):HOk P w (upd H a o) h':=λb u e=>by
 have hn:=x.fresh hp;by_cases hb:b=a
 .subst hb;rw[Yz] at e;cases e;exact new
 .rw[ZV hb] at e;exact(x b u e).stay (λc v _ q=>k c v q) (λc q=>by rw[ZV (WO q hn)];exact q) λc xs q=>by rw[ZV (WO q hn)];exact q
end
def Rd (H:Hp)(a:Addr)(u:HO):Prop:=H a=some u\/∃o,H a=some (.frz o u)
theorem Rd.ok {P:Program}{w:World}{H:Hp}{h:Heap}{a:Addr}{u:HO}(r:Rd H a u)(x:HOk P w H h):YF P w H h a u:=by
 rcases r with r|⟨o,r⟩
 .exact x a u r
 .obtain⟨_,q⟩:=x a _ r;exact q
def Mut:Option HO->Prop
 | some (.lst _)=>True
 | some (.dK _)=>True
 | some (.dT _)=>True
 | some (.set _ _)=>True
 | some (.ins _ _ _)=>True
 | some (.ext _)=>True
 | _=>False
section
variable {P:Program}{w:World}{H:Hp}{h h':Heap}{x e:Addr}{o':HO}
theorem HOk.write (ok:HOk P w H h)(mu:Mut (H x))(he:e=x\/H e=some (.own x))(k:∀b u,b≠e->h.get? b=some u->h'.get? b=some u)(heo:∃u,h'.get? e=some u)
  (new:YF P w (upd H x o') h' x o'):HOk P w (upd H x o') h':=λb u q=>by
 have nown:∀c y,H c=some (.own y)->c≠x:=λc y r z=>by subst z;rw[r] at mu;exact mu
 have ntup:∀c xs,H c=some (.tup xs)->c≠x:=λc xs r z=>by subst z;rw[r] at mu;exact mu
 by_cases hb:b=x
 .subst hb;rw[Yz] at q;cases q;exact new
 .rw[ZV hb] at q;by_cases hbe:b=e
  .have q':H b=some (.own x):=by
    rcases he with z|z
    .exact absurd (hbe.trans z) hb
    .rw[hbe];exact z
   rw[q] at q';cases q'
   obtain⟨v,hv⟩:=heo;exact#[v,by rw[hbe];exact hv]
  .refine(ok b u q).stay (λc v hc r=>k c v ?_ r) (λc r=>by rw[ZV (nown c b r)];exact r) λc xs r=>by rw[ZV (ntup c xs r)];exact r
   rcases hc with rfl|hc
   .exact hbe
   .rintro rfl;rcases he with z|z
    .exact nown c b hc z
    .rw[hc] at z;cases z;exact hb rfl
end
structure Un (fs ex:List Addr)(H H':Hp)(h h':Heap):Prop where
 keep:∀b o,h.get? b=some o->H b=none->b ∉ fs->b ∉ ex->h'.get? b=some o
 slot:∀b o,h.get? b=some o->H b=none->b∈fs->b ∉ ex->∃sl,h'.get? b=some { o with slots:=sl }
 free:∀b o,h.get? b=some o->H b=none->b ∉ ex->H' b=none
 there:∀b o,h.get? b=some o->b ∉ ex->∃o',h'.get? b=some o'
 tups:∀b xs,H b=some (.tup xs)->H' b=some (.tup xs)
 frzs:∀b o u,H b=some (.frz o u)->H' b=some (.frz o u)
 tbls:∀b ps,H b=some (.tbl ps)->∃more,H' b=some (.tbl (ps++more))
theorem Un.any (u:Un fs ex H H1 h h1){b:Addr}{ob:Obj}(q:h.get? b=some ob)(n:H b=none)(hx:b ∉ ex):∃sl,h1.get? b=some { ob with slots:=sl }:=by
 by_cases hb:b∈fs
 .exact u.slot b ob q n hb hx
 .exact#[ob.slots,u.keep b ob q n hb hx]
theorem Un.trans (a:Un fs ex H H1 h h1)(b:Un fs ex H1 H2 h1 h2):Un fs ex H H2 h h2 where
 keep:=λc ob q n hc hx=>b.keep c ob (a.keep c ob q n hc hx) (a.free c ob q n hx) hc hx
 slot:=λc ob q n hc hx=>by
  obtain⟨sl,e1⟩:=a.slot c ob q n hc hx;obtain⟨sl',e2⟩:=b.slot c _ e1 (a.free c ob q n hx) hc hx;exact#[sl',e2]
 free:=λc ob q n hx=>by
  obtain⟨o',e1⟩:=a.there c ob q hx;exact b.free c o' e1 (a.free c ob q n hx) hx
 there:=λc ob q hx=>by
  obtain⟨o',e1⟩:=a.there c ob q hx;exact b.there c o' e1 hx
 tups:=λc xs q=>b.tups c xs (a.tups c xs q)
 frzs:=λc ob xs q=>b.frzs c ob xs (a.frzs c ob xs q)
 tbls:=λc ps q=>by
  obtain⟨m1,e1⟩:=a.tbls c ps q;obtain⟨m2,e2⟩:=b.tbls c _ e1;exact#[m1++m2,by rw[e2,Array.append_assoc]]
theorem Un.kept (k:∀b u,h.get? b=some u->h'.get? b=some u):Un fs ex H H h h':=
 #[λb ob q _ _ _=>k b ob q,λb ob q _ _ _=>#[ob.slots,k b ob q],λ_ _ _ n _=>n,λb ob q _=>#[ob,k b ob q],λ_ _ q=>q,λ_ _ _ q=>q,λ_ ps q=>#[(List.toArray []),by rw[q];simp]]
theorem Un.refl:Un fs ex H H h h:=Un.kept λ_ _ q=>q
theorem Un.laid (k:∀b u,h.get? b=some u->h'.get? b=some u)(hp:h.objs.size<=a)(hn:H a=none):Un fs ex H (upd H a o) h h' where
 keep:=λb u q _ _ _=>k b u q
 slot:=λb u q _ _ _=>#[u.slots,k b u q]
 free:=λb u q n _=>by rw[ZV (zN (zV (Heap.lt_size q) hp))];exact n
 there:=λb u q _=>#[u,k b u q]
 tups:=λb xs q=>by rw[ZV (WO q hn)];exact q
 frzs:=λb u xs q=>by rw[ZV (WO q hn)];exact q
 tbls:=λb ps q=>#[(List.toArray []),by rw[ZV (WO q hn),q];simp]
theorem Un.write (mu:Mut (H x))(he:e=x\/H e=some (.own x))(k:∀b u,b≠e->h.get? b=some u->h'.get? b=some u)(heo:∃u,h'.get? e=some u):Un fs ex H (upd H x o) h h':=by
 have hx:∀b,H b=none->b≠x:=λb n z=>by subst z;rw[n] at mu;exact mu
 have hb:∀b,H b=none->b≠e:=λb n z=>by
  subst z;rcases he with r|r
  .exact hx b n r
  .rw[n] at r;cases r
 have hm:∀b u,H b=some u->¬ Mut (some u)->b≠x:=λb u q nm z=>by subst z;rw[q] at mu;exact nm mu
 refine#[λb u q n _ _=>k b u (hb b n) q,λb u q n _ _=>#[u.slots,k b u (hb b n) q],λb u q n _=>by rw[ZV (hx b n)];exact n,λb u q _=>?_,
  λb xs q=>by rw[ZV (hm b _ q λz=>z)];exact q,λb u xs q=>by rw[ZV (hm b _ q λz=>z)];exact q,λb ps q=>#[(List.toArray []),by rw[ZV (hm b _ q λz=>z),q];simp]]
 by_cases hbe:b=e
 .subst hbe;exact heo
 .exact#[u,k b u hbe q]
theorem Un.mono (u:Un fs ex H H1 h h1)(hs:∀b∈fs,b∈fs')(hx:∀b∈ex,b∈ex'):Un fs' ex' H H1 h h1:=
 #[λb ob q n hb he=>u.keep b ob q n (λz=>hb (hs b z)) λz=>he (hx b z),λ_ _ q n _ he=>u.any q n λz=>he (hx _ z),λb ob q n he=>u.free b ob q n λz=>he (hx b z),λb ob q he=>u.there b ob q λz=>he (hx b z),u.tups,u.frzs,u.tbls]
def trk (h:Heap)(H:Hp):List Addr:=(List.range h.objs.size).filter λa=>(H a).isSome
def X9 (h:Heap)(H:Hp):Heap:=W.hideAll h (trk h H)
theorem DV (h:Heap)(H:Hp):(X9 h H).objs.size=h.objs.size:=W.hideAll_size _ _
theorem EI {h:Heap}{H:Hp}{b:Addr}{o:Obj}(e:h.get? b=some o)(n:H b=none):(X9 h H).get? b=some o:=
 W.hideAll_get _ e λhm=>by
  have q:(H b).isSome=true:=(uR.mp hm).2;rw[n] at q;simp at q
theorem G3 {h:Heap}{H:Hp}{b:Addr}{o:Obj}(e:(X9 h H).get? b=some o):h.get? b=some o/\H b=none:=by
 have e':h.get? b=some o:=W.of_hideAll (trk h H) e;refine#[e',?_];cases q:H b with
 | none=>rfl
 | some x=>
  have hm:b∈trk h H:=uR.mpr #[wD.mpr (Heap.lt_size e'),by simp[q]]
  have z:(X9 h H).get? b=none:=W.hideAll_none (trk h H) hm;rw[z] at e;cases e
def Dv (g h:Heap)(L:Addr):LA:=(List.range h.objs.size).filterMap λa=>if a=L\/(g.get? a).isSome=true then none else (h.get? a).map λo=>(a,o)
def Yj (g h:Heap)(L d:Addr):LA:=(Dv g h L).filter λp=>decide (p.1≠d)
structure Mod (K:Fg)(mg:Str->Option Value)(base:Heap):Prop where
 kin:K.In base
 glob:base.Ns mainGlobals mg
 blt:∃mb,base.Ns builtinsNs mb/\∀x:Str,x≠"__name__"->mb x=bootBuiltins x
 nolimit:base.NoLimit
structure Cx where
 prog:Program
 w:World
 K:Fg
 mg:Str->Option Value
 base:Heap
 A:Around
 N:List Str
 s₀:Shared
 H₀:Hp
 env:Env
 outer:List Env
 stack:List Env
 ex:List Addr
 fn:Str->Bool
 calm:Bool
 pn:LA
 xe:Value->Shared->Prop
abbrev mX (X:Cx):=model X.prog X.w
abbrev Hf (X:Cx)(x:Str):Prop:=X.fn x=true\/X.env.scope.names.lookup x=some .local
abbrev He (X:Cx)(e:Expr)(es:List Expr):Prop:=starEach (e::es) X.env=(false,eval e X.env)::starEach es X.env
abbrev Hn (X:Cx)(caps:List Nat)(N:List Str):Prop:=caps.map (λi=>X.N[i]?)=N.map some
abbrev Hp1 (X:Cx)(pos:Pos)(es:List Expr):Prop:=(backTo pos (starEach es X.env)).any (·.1)=false
def frs (l:List Env):List Addr:=l.filterMap (·.frame)
abbrev Cx.fs (X:Cx):List Addr:=frs X.outer
def Vis (sc:Scope)(x:Str):Prop:=sc.names.lookup x=some .local\/sc.names.lookup x=some .cell\/sc.names.lookup x=some .free
def Loc (sc:Scope)(x:Str):Prop:=sc.names.lookup x=some .local\/sc.names.lookup x=some .cell
def Look (env:Env)(h:Heap)(m:Str->Option Value)(x:Str)(u:Value):Prop:=
 (env.kindOf x=some .local/\m x=some u)\/((env.kindOf x=some .cell\/env.kindOf x=some .free)/\∃c,env.cells.lookup x=some c/\h.IsCell c (some u))
structure Cx.Ok (X:Cx):Prop where
 mod:Mod X.K X.mg X.base
 kind:X.env.scope.kind=.function
 glob:X.env.globals=mainGlobals
 blt:X.env.builtins=builtinsNs
 above:X.s₀.heap.objs.size<=X.env.locals
 inj:∀x y c,X.env.cells.lookup x=some c->X.env.cells.lookup y=some c->x=y
 has:∀x,(X.env.kindOf x=some .cell\/X.env.kindOf x=some .free)->∃c,X.env.cells.lookup x=some c
 cab:∀x c,X.fn x=true->X.env.cells.lookup x=some c->X.s₀.heap.objs.size<=c
 hd:X.calm=true->X.A.handled=none
 frames:X.A.frames=some X.stack
 stk:X.stack=X.outer\/(X.stack=X.env::X.outer/\X.env.frame=some X.env.locals)
 exf:∀b∈X.ex,b≠X.env.locals/\∀x c,X.env.cells.lookup x=some c->c≠b
 bs:∀b o,X.base.get? b=some o->X.s₀.heap.get? b=some o/\X.H₀ b=none
 bsz:X.base.objs.size<=X.s₀.heap.objs.size
 noex:∀b o,X.base.get? b=some o->b ∉ X.ex
 exfs:∀b∈X.ex,b ∉ X.fs
 funs:X.s₀.heap.FunFrames X.base X.outer
 frf:∀b∈X.fs,X.H₀ b=none
structure Inv (X:Cx)(aA:LA)(σ:List (Option V))(H:Hp)(s:Shared):Prop where
 ok:X.Ok
 os:s.os=X.s₀.os
 bare:AllBare s.gens
 base:Un X.fs X.ex X.H₀ H X.s₀.heap s.heap
 loc:∃m,s.heap.Ns X.env.locals m/\∀(i:Nat)(x:Str)(v:V),X.N[i]?=some x->σ[i]?=some (some v)->Vis X.env.scope x->∃u,Zw v u/\Look X.env s.heap m x u
 cell:∀x c,X.env.cells.lookup x=some c->∃v,s.heap.IsCell c v
 free:H X.env.locals=none
 freeC:∀x c,X.env.cells.lookup x=some c->H c=none
 pin:∀p∈X.pn++aA,s.heap.get? p.1=some p.2/\H p.1=none/\p.1≠X.env.locals/\p.1 ∉ X.fs/\∀v,p.2.data≠.cell v
 hok:HOk X.prog X.w H s.heap
 len:σ.length=X.N.length
section
variable {X:Cx}{aA:LA}{σ:List (Option V)}{H H':Hp}{s:Shared}{h':Heap}
theorem Cx.Ok.nofr (ok:X.Ok)(e:X.base.get? b=some o):b ∉ X.fs:=λhb=>by
 have:=(ok.funs.mem hb).1;rw[e] at this;cases this
theorem Inv.bs (I:Inv X aA σ H s):∀b o,X.base.get? b=some o->s.heap.get? b=some o/\H b=none:=λb o e=>
 #[I.base.keep b o (I.ok.bs b o e).1 (I.ok.bs b o e).2 (I.ok.nofr e) (I.ok.noex b o e),I.base.free b o (I.ok.bs b o e).1 (I.ok.bs b o e).2 (I.ok.noex b o e)]
theorem Inv.bk (I:Inv X aA σ H s):∀b o,X.base.get? b=some o->s.heap.get? b=some o:=λb o e=>(I.bs b o e).1
theorem Inv.mod (I:Inv X aA σ H s):Mod X.K X.mg X.base:=I.ok.mod
theorem Inv.kIn (I:Inv X aA σ H s):X.K.In s.heap:=I.ok.mod.kin.keeps I.bk
theorem Inv.nolimit (I:Inv X aA σ H s):s.heap.NoLimit:=I.ok.mod.nolimit.keeps I.bk
theorem Inv.lt (I:Inv X aA σ H s):X.env.locals<s.heap.objs.size:=let #[_,hn,_]:=I.loc;hn.lt
theorem Inv.sz (I:Inv X aA σ H s):X.s₀.heap.objs.size<=s.heap.objs.size:=yJ I.ok.above (yR I.lt)
theorem Inv.nofs (I:Inv X aA σ H s)(h:s.heap.objs.size<=a):a ∉ X.fs:=λhb=>by
 obtain⟨_,o,ho,_⟩:=I.ok.funs.mem hb;exact absurd (zV (Heap.lt_size ho) (yJ I.sz h)) (yW _)
theorem Inv.cne (I:Inv X aA σ H s):∀x c,X.env.cells.lookup x=some c->c≠X.env.locals:=λx c e z=>by
 obtain⟨v,o,ho,hd⟩:=I.cell x c e;obtain⟨m,⟨o',es,ep,ho',hd',_⟩,_⟩:=I.loc;rw[z,ho'] at ho;cases ho;rw[hd'] at hd;cases hd
theorem Inv.funs (I:Inv X aA σ H s):s.heap.FunFrames X.base X.outer:=by
 have all:∀(l:List Env),(∀b∈frs l,b∈X.fs)->X.s₀.heap.FunFrames X.base l->s.heap.FunFrames X.base l:=by
  intro l
  induction l with
  | nil=>intro _ _;trivial
  | cons env r ih=>
   intro hs hl;obtain⟨hk,⟨L,o,hf,hn,ho,hd⟩,hr⟩:=hl;have hL:L∈X.fs:=hs L (by unfold frs;rw[vR,hf];exact xG);obtain⟨sl,e⟩:=I.base.slot L o ho (I.ok.frf L hL) hL λz=>I.ok.exfs L z hL
   exact#[hk,#[L,_,hf,hn,e,hd],ih (λb hb=>hs b (by unfold frs;rw[vR,hf];exact yS _ hb)) hr]
 exact all X.outer (λ_ hb=>hb) I.ok.funs
theorem Inv.stack (I:Inv X aA σ H s):s.heap.FunFrames X.base X.stack:=by
 rcases I.ok.stk with e|⟨e,hf⟩
 .rw[e];exact I.funs
 .rw[e];obtain⟨m,hn,_⟩:=I.loc;refine .cons (by rw[I.ok.kind];decide) hf hn ?_ I.funs;exact Heap.get?_none_of_le (yJ I.ok.bsz I.ok.above)
theorem Inv.stkSub (I:Inv X aA σ H s):∀b∈frs X.stack,b∈X.env.locals::X.fs:=λb hb=>by
 rcases I.ok.stk with e|⟨e,hf⟩
 .rw[e] at hb;exact yS _ hb
 .rw[e] at hb;unfold frs at hb;rw[vR,hf] at hb;exact hb
theorem Inv.stkFree (I:Inv X aA σ H s):∀b∈frs X.stack,H b=none:=λb hb=>by
 rcases zT.mp (I.stkSub b hb) with e|hb
 .rw[e];exact I.free
 .obtain⟨_,o,ho,_⟩:=I.ok.funs.mem hb;exact I.base.free b o ho (I.ok.frf b hb) λz=>I.ok.exfs b z hb
theorem Inv.step {g':Array GenState}{t':Nat}{d':Drawn}{ch:List Addr}(I:Inv X aA σ H s)
  (hch:∀b∈ch,(b∈X.ex\/X.s₀.heap.objs.size<=b)/\b≠X.env.locals/\(∀x c,X.env.cells.lookup x=some c->c≠b)/\∀p∈X.pn++aA,p.1≠b)
  (keep:∀b o,b≠X.env.locals->b ∉ X.fs->b ∉ ch->s.heap.get? b=some o->H b=none->h'.get? b=some o)
  (slot:∀b o,b≠X.env.locals->b∈X.fs->b ∉ ch->s.heap.get? b=some o->H b=none->∃sl,h'.get? b=some { o with slots:=sl })(free:∀b o,b ∉ ch->s.heap.get? b=some o->H b=none->H' b=none)
  (there:∀b o,b ∉ ch->s.heap.get? b=some o->∃o',h'.get? b=some o')
  (tups:∀b xs,H b=some (.tup xs)->H' b=some (.tup xs))(frzs:∀b o u,H b=some (.frz o u)->H' b=some (.frz o u))(tbls:∀b ps,H b=some (.tbl ps)->∃more,H' b=some (.tbl (ps++more)))
  (ns:∀m,s.heap.Ns X.env.locals m->h'.Ns X.env.locals m)(hok:HOk X.prog X.w H' h')(hg:AllBare g'):
  Inv X aA σ H' { s with heap:=h',gens:=g',drawn:=d',toks:=t' }:=by
 have neL:∀b o,X.s₀.heap.get? b=some o->b≠X.env.locals:=λb o e=>zN (zV (Heap.lt_size e) I.ok.above)
 have neC:∀b o,X.s₀.heap.get? b=some o->b ∉ X.ex->b ∉ ch:=λb o e hx hb=>by
  rcases (hch b hb).1 with z|z
  .exact hx z
  .exact absurd (zV (Heap.lt_size e) z) (yW _)
 have cellK:∀x c,X.env.cells.lookup x=some c->∀v,s.heap.IsCell c v->h'.IsCell c v:=λx c e v #[o,ho,hd]=>by
  have nch:c ∉ ch:=λz=>(hch c z).2.2.1 x c e rfl
  by_cases hc:c∈X.fs
  .obtain⟨sl,q⟩:=slot c o (I.cne x c e) hc nch ho (I.freeC x c e);exact#[_,q,hd]
  .exact#[o,keep c o (I.cne x c e) hc nch ho (I.freeC x c e),hd]
 refine#[I.ok,I.os,hg,#[λb o e n hb hx=>?_,λb o e n hb hx=>?_,λb o e n hx=>?_,λb o e hx=>?_,λb xs e=>tups b xs (I.base.tups b xs e),λb o xs e=>frzs b o xs (I.base.frzs b o xs e),λb ps e=>?_],?_,λx c e=>?_,?_,λx c e=>?_,λp hp=>?_,hok,I.len]
 .exact keep b o (neL b o e) hb (neC b o e hx) (I.base.keep b o e n hb hx) (I.base.free b o e n hx)
 .obtain⟨sl,e1⟩:=I.base.slot b o e n hb hx;obtain⟨sl',e2⟩:=slot b _ (neL b o e) hb (neC b o e hx) e1 (I.base.free b o e n hx);exact#[sl',e2]
 .obtain⟨o',e1⟩:=I.base.there b o e hx;exact free b o' (neC b o e hx) e1 (I.base.free b o e n hx)
 .obtain⟨o',e1⟩:=I.base.there b o e hx;exact there b o' (neC b o e hx) e1
 .obtain⟨m1,e1⟩:=I.base.tbls b ps e;obtain⟨m2,e2⟩:=tbls b _ e1;exact#[m1++m2,by rw[e2,Array.append_assoc]]
 .obtain⟨m,hn,hl⟩:=I.loc;refine#[m,ns m hn,λi x v e1 e2 e3=>?_];obtain⟨u,r,l⟩:=hl i x v e1 e2 e3;refine#[u,r,?_];rcases l with l|⟨k,c,e,z⟩
  .exact .inl l
  .exact .inr #[k,c,e,cellK x c e _ z]
 .obtain⟨v,z⟩:=I.cell x c e;exact#[v,cellK x c e v z]
 .obtain⟨m,⟨o,_,_,ho,_⟩,_⟩:=I.loc;exact free _ o (λz=>(hch _ z).2.1 rfl) ho I.free
 .obtain⟨v,o,ho,hd⟩:=I.cell x c e;exact free c o (λz=>(hch c z).2.2.1 x c e rfl) ho (I.freeC x c e)
 .obtain⟨e,n,ne,nf,d⟩:=I.pin p hp;have nch:p.1 ∉ ch:=λz=>(hch p.1 z).2.2.2 p hp rfl
  exact#[keep p.1 p.2 ne nf nch e n,free p.1 p.2 nch e n,ne,nf,d]
theorem Inv.un {t':Nat}(I:Inv X aA σ H s)(u:Un X.fs [] H H' s.heap h')(hok:HOk X.prog X.w H' h'):Inv X aA σ H' { s with heap:=h',toks:=t' }:=by
 obtain⟨m,⟨o,es,ep,ho,r⟩,_⟩:=id I.loc;obtain⟨sl,hL⟩:=u.any ho I.free (by simp);exact I.step (ch:=[]) (λ_ z=>nomatch z) (λb o _ hb _ e n=>u.keep b o e n hb (by simp)) (λb o _ hb _ e n=>u.slot b o e n hb (by simp)) (λb o _ e n=>u.free b o e n (by simp)) (λb o _ e=>u.there b o e (by simp)) u.tups u.frzs u.tbls (λm' hm=>by
  obtain⟨o',es',ep',ho',r'⟩:=hm;rw[ho] at ho';cases ho'
  exact#[_,es',ep',hL,r']) hok I.bare
theorem Inv.call {g':Array GenState}{t':Nat}{d':Drawn}{ch:List Addr}(I:Inv X aA σ H s)(u:Un (frs X.stack) ch H H' s.heap h')(hok:HOk X.prog X.w H' h')(hg:AllBare g')
  (hch:∀b∈ch,(b∈X.ex\/X.s₀.heap.objs.size<=b)/\b≠X.env.locals/\(∀x c,X.env.cells.lookup x=some c->c≠b)/\∀p∈X.pn++aA,p.1≠b):
  Inv X aA σ H' { s with heap:=h',gens:=g',drawn:=d',toks:=t' }:=by
 obtain⟨m,⟨o,es,ep,ho,r⟩,_⟩:=id I.loc;obtain⟨sl,hL⟩:=u.any ho I.free λz=>(hch _ z).2.1 rfl
 exact I.step hch (λb o hL hb hc e n=>u.keep b o e n (λz=>(zT.mp (I.stkSub b z)).elim hL hb) hc) (λb o _ _ hc e n=>u.any e n hc) (λb o hc e n=>u.free b o e n hc) (λb o hc e=>u.there b o e hc) u.tups u.frzs u.tbls (λm' hm=>by
  obtain⟨o',es',ep',ho',r'⟩:=hm;rw[ho] at ho';cases ho'
  exact#[_,es',ep',hL,r']) hok hg
theorem Inv.turned {t':Nat}{it:Addr}(I:Inv X aA σ H s)(k:∀b o,b≠it->s.heap.get? b=some o->h'.get? b=some o)(hn:H it=none)(hL:it≠X.env.locals)
  (h1:it∈X.ex\/X.s₀.heap.objs.size<=it)(h2:∀x c,X.env.cells.lookup x=some c->c≠it)(h3:∀p∈X.pn++aA,p.1≠it):Inv X aA σ H { s with heap:=h',toks:=t' }:=by
 have nit:∀b u,H b=some u->b≠it:=λb u e z=>by rw[z,hn] at e;cases e
 refine I.step (ch:=[it]) (λb hb=>?_) (λb o _ _ hc e _=>k b o (λz=>hc (by simp[z])) e) (λb o _ _ hc e _=>#[o.slots,k b o (λz=>hc (by simp[z])) e]) (λ_ _ _ _ n=>n)
  (λb o hc e=>#[o,k b o (λz=>hc (by simp[z])) e]) (λ_ _ e=>e) (λ_ _ _ e=>e) (λb ps e=>#[(List.toArray []),by rw[e];simp]) (λm hm=>?_) (λb u e=>?_) I.bare
 .have e:b=it:=by simpa using hb
  subst e;exact#[h1,hL,h2,h3]
 .obtain⟨o,es,ep,ho,r⟩:=hm;exact#[o,es,ep,k _ o (Ne.symm hL) ho,r]
 .refine(I.hok b u e).stay (λc v hc q=>k c v ?_ q) (λ_ q=>q) λ_ _ q=>q
  rcases hc with z|z
  .rw[z];exact nit b u e
  .exact nit c _ z
theorem Inv.tok (I:Inv X aA σ H s)(t:Nat):Inv X aA σ H { s with toks:=t }:=I.un Un.refl I.hok
theorem Inv.kept {t':Nat}(I:Inv X aA σ H s)(k:∀b u,s.heap.get? b=some u->h'.get? b=some u):Inv X aA σ H { s with heap:=h',toks:=t' }:=I.un (Un.kept k) (I.hok.kept k)
theorem Inv.laid (I:Inv X aA σ H s)(k:∀b u,s.heap.get? b=some u->h'.get? b=some u)(hp:s.heap.objs.size<=a)(new:YF X.prog X.w (upd H a o) h' a o):
  Inv X aA σ (upd H a o) { s with heap:=h',toks:=t' }:=I.un (Un.laid k hp (I.hok.fresh hp)) (I.hok.laid k hp new)
theorem Inv.write (I:Inv X aA σ H s)(mu:Mut (H x))(he:e=x\/H e=some (.own x))(k:∀b u,b≠e->s.heap.get? b=some u->h'.get? b=some u)(heo:∃u,h'.get? e=some u)(new:YF X.prog X.w (upd H x o) h' x o):Inv X aA σ (upd H x o) { s with heap:=h',toks:=t' }:=I.un (Un.write mu he k heo) (I.hok.write mu he k heo new)
theorem Inv.pins_of (I:Inv X aA σ H s)(h:∀p∈pins',s.heap.get? p.1=some p.2/\H p.1=none/\p.1≠X.env.locals/\p.1 ∉ X.fs/\∀v,p.2.data≠.cell v):Inv X pins' σ H s:=
 #[I.ok,I.os,I.bare,I.base,I.loc,I.cell,I.free,I.freeC,λp hp=>(zX.mp hp).elim (λz=>I.pin p (uS _ z)) (h p),I.hok,I.len]
theorem OU {N:List Str}(hN:N.Nodup){i j:Nat}{x:Str}(a:N[i]?=some x)(b:N[j]?=some x):i=j:=by
 obtain⟨h1,e1⟩:=zC.mp a;obtain⟨h2,e2⟩:=zC.mp b;exact(List.getElem_inj hN).mp (e1.trans e2.symm)
theorem MD {M:Model}{A:Around}{E:Value->Shared->Prop}{i:Nat}{x:Str}{v:V}{u:Value}{Q:Unit->Shared->Prop}(I:Inv X aA σ H s)(hN:X.N.Nodup)(hi:X.N[i]?=some x)(hx:Loc X.env.scope x)(r:Zw v u)
  (h:∀s',Inv X aA (σ.set i (some v)) H s'->(∃a,Heap.SameBut a s.heap s'.heap/\(a=X.env.locals\/X.env.cells.lookup x=some a))->Q Unit.unit s')(hf:Hf X x:=by first|exact .inl rfl|exact .inr rfl|assumption):wpAny M A (storeName X.env x u) Q E s:=by
 obtain⟨m,hn,hl⟩:=id I.loc;have hcls:(X.env.scope.kind==.class||(X.env.scope.kind==.module&&X.env.locals != X.env.globals))=false:=by rw[I.ok.kind];rfl
 have hiσ:i<σ.length:=by rw[I.len];exact(zC.mp hi).1
 have cne:=I.cne
 have tracked:∀ {a:Addr} {h':Heap},(∃o,s.heap.get? a=some o/\H a=none)->Heap.SameBut a s.heap h'->HOk X.prog X.w H h':=λ{a h'} ha hs b ob e=>by
  obtain⟨_,_,hfree⟩:=ha;refine(I.hok b ob e).stay (λc w' hc q=>(hs.2 c ?_).trans q) (λ_ q=>q) λ_ _ q=>q
  rintro rfl;rcases hc with rfl|hc
  .rw[hfree] at e;cases e
  .rw[hfree] at hc;cases hc
 rcases hx with hk|hk
 .refine wpAny_storeName_local hk hn (λh' hn' hs=>?_) hcls;obtain⟨oL,_,_,hoL,_⟩:=id hn;refine h _ #[I.ok,I.os,I.bare,#[λb o e n hb hx=>?_,λb o e n hb hx=>?_,I.base.free,λb o e hx=>?_,I.base.tups,I.base.frzs,I.base.tbls],#[_,hn',λj y v' e1 e2 e3=>?_],λy c e=>?_,I.free,I.freeC,λp hp=>?_,tracked #[oL,hoL,I.free] hs,by simpa using I.len] #[_,hs,.inl rfl]
  .exact(hs.2 b (zN (zV (Heap.lt_size e) I.ok.above))).trans (I.base.keep b o e n hb hx)
  .obtain⟨sl,e1⟩:=I.base.slot b o e n hb hx;exact#[sl,(hs.2 b (zN (zV (Heap.lt_size e) I.ok.above))).trans e1]
  .obtain⟨o',e1⟩:=I.base.there b o e hx;exact#[o',(hs.2 b (zN (zV (Heap.lt_size e) I.ok.above))).trans e1]
  .by_cases hj:j=i
   .subst hj;rw[hi] at e1;cases e1
    rw[yK hiσ] at e2;cases e2;exact#[u,r,.inl #[hk,by simp]]
   .rw[zY (Ne.symm hj)] at e2;obtain⟨u',r',q⟩:=hl j y v' e1 e2 e3;refine#[u',r',?_];rcases q with ⟨k,e⟩|⟨k,c,e,z⟩
    .refine .inl #[k,?_];have:y≠x:=λe=>hj (OU hN e1 (e ▸ hi))
     simp[this,e]
    .exact .inr #[k,c,e,z.sameBut hs (cne y c e)]
  .obtain⟨w',z⟩:=I.cell y c e;exact#[w',z.sameBut hs (cne y c e)]
  .obtain⟨e,n,ne,nf,d⟩:=I.pin p hp;exact#[(hs.2 p.1 ne).trans e,n,ne,nf,d]
 .have hfn:X.fn x=true:=by
   rcases hf with z|z
   .exact z
   .rw[z] at hk;cases hk
  obtain⟨c,hc⟩:=I.ok.has x (.inl hk);obtain⟨w',z⟩:=I.cell x c hc;refine wpAny_storeName_cell I.ok.kind hk hc z (λh' hc' hs=>?_);obtain⟨oc,hoc,hocd⟩:=id z;refine h { s with heap:=h' } #[I.ok,I.os,I.bare,#[λb o e n hb hx=>?_,λb o e n hb hx=>?_,I.base.free,λb o e hx=>?_,I.base.tups,I.base.frzs,I.base.tbls],#[m,hn.sameBut hs (Ne.symm (cne x c hc)),λj y v' e1 e2 e3=>?_],λy c' e=>?_,I.free,I.freeC,λp hp=>?_,tracked #[oc,hoc,I.freeC x c hc] hs,by simpa using I.len] #[c,hs,.inr hc]
  .exact(hs.2 b (zN (zV (Heap.lt_size e) (I.ok.cab x c hfn hc)))).trans (I.base.keep b o e n hb hx)
  .obtain⟨sl,e1⟩:=I.base.slot b o e n hb hx;exact#[sl,(hs.2 b (zN (zV (Heap.lt_size e) (I.ok.cab x c hfn hc)))).trans e1]
  .obtain⟨o',e1⟩:=I.base.there b o e hx;exact#[o',(hs.2 b (zN (zV (Heap.lt_size e) (I.ok.cab x c hfn hc)))).trans e1]
  .by_cases hj:j=i
   .subst hj;rw[hi] at e1;cases e1
    rw[yK hiσ] at e2;cases e2;exact#[u,r,.inr #[.inl hk,c,hc,hc']]
   .rw[zY (Ne.symm hj)] at e2;obtain⟨u',r',q⟩:=hl j y v' e1 e2 e3;refine#[u',r',?_];rcases q with q|⟨k,c',e,z'⟩
    .exact .inl q
    .refine .inr #[k,c',e,z'.sameBut hs ?_];rintro rfl;exact hj (OU hN e1 (I.ok.inj _ _ _ e hc ▸ hi))
  .by_cases hcc:c'=c
   .subst hcc;exact#[_,hc']
   .obtain⟨w2,z2⟩:=I.cell y c' e;exact#[w2,z2.sameBut hs hcc]
  .obtain⟨e,n,ne,nf,d⟩:=I.pin p hp;refine#[(hs.2 p.1 ?_).trans e,n,ne,nf,d];intro q;rw[q,hoc] at e;have q':oc=p.2:=Option.some.inj e;exact d w' (by rw[<- q'];exact hocd)
theorem ML (I:Inv X aA σ H s)(hN:X.N.Nodup)(hi:X.N[i]?=some x)(hx:Loc X.env.scope x)(r:Zw v u)(h:∀s',Inv X aA (σ.set i (some v)) H s'->Q Unit.unit s')(hf:Hf X x:=by first|exact .inl rfl|exact .inr rfl|assumption):wpAny M A (storeName X.env x u) Q E s:=
 MD I hN hi hx r (λs' I' _=>h s' I') hf
theorem Inv.call' (I:Inv X aA σ H s)(ho:s'.os=s.os)(u:Un (frs X.stack) ch H H' s.heap s'.heap)(hok:HOk X.prog X.w H' s'.heap)(hg:AllBare s'.gens)(hch:∀b∈ch,(b∈X.ex\/X.s₀.heap.objs.size<=b)/\b≠X.env.locals/\(∀x c,X.env.cells.lookup x=some c->c≠b)/\∀p∈X.pn++aA,p.1≠b):Inv X aA σ H' s':=by
 obtain⟨h',g',d',t',o'⟩:=s';have e:o'=s.os:=ho;subst e;exact I.call u hok hg hch
end
abbrev XK:=Value->Option Addr->Hp->Prop
abbrev St:=List (Option V)
abbrev VK:=V->Hp->Prop
abbrev TE:=St->Hp->VK->Prop
abbrev TT:=St->Hp->(Bool->Hp->Prop)->Prop
abbrev TA:=St->Hp->(List V->Hp->Prop)->Prop
structure Wc where
 nx:St->Hp->Prop
 rt:VK
 bk:St->Hp->Prop:=λ_ _=>False
 ct:St->Hp->Prop:=λ_ _=>False
abbrev TS:=Wc->St->Hp->Prop
inductive EP (X:Cx)(aA:LA)(σ:St)(Q:VK)(u:Value)(s':Shared):Prop
 | mk (v:V) (H1:Hp) (a:Inv X aA σ H1 s') (b:Zw v u) (c:Q v H1):EP X aA σ Q u s'
def TP (X:Cx)(aA:LA)(σ:St)(Q:Bool->Hp->Prop)(b:Bool)(s':Shared):Prop:=∃H',Inv X aA σ H' s'/\Q b H'
inductive AP (X:Cx)(aA:LA)(σ:St)(Q:List V->Hp->Prop)(us:List Value)(s':Shared):Prop
 | mk (vs:List V) (H1:Hp) (a:Inv X aA σ H1 s') (b:Zz vs us) (c:Q vs H1):AP X aA σ Q us s'
def SP (X:Cx)(aA:LA)(D:Wc)(f:Flow)(s':Shared):Prop:=
 match f with
 | .next=>∃σ' H',Inv X aA σ' H' s'/\D.nx σ' H'
 | .brk=>∃σ' H',Inv X aA σ' H' s'/\D.bk σ' H'
 | .cont=>∃σ' H',Inv X aA σ' H' s'/\D.ct σ' H'
 | .ret u=>∃v σ' H',Inv X aA σ' H' s'/\Zw v u/\D.rt v H'
def PE (X:Cx)(e:Expr)(t:TE):Prop:=
 ∀(aA:LA)(s:Shared)(σ:St)(H:Hp)(Q:VK),Inv X aA σ H s->t σ H Q->wpAny (mX X) X.A (eval e X.env) (EP X aA σ Q) X.xe s
def PT (X:Cx)(e:Expr)(t:TT):Prop:=
 ∀(aA:LA)(s:Shared)(σ:St)(H:Hp)(Q:Bool->Hp->Prop),Inv X aA σ H s->t σ H Q->wpAny (mX X) X.A (isTrue e X.env (eval e X.env)) (TP X aA σ Q) X.xe s
def PW (X:Cx)(e:Expr)(t:TT):Prop:=
 ∀(aU:Sem Value)(aA:LA)(s:Shared)(σ:St)(H:Hp)(Q:Bool->Hp->Prop),Inv X aA σ H s->t σ H Q->wpAny (mX X) X.A (isTrue e X.env aU) (TP X aA σ Q) X.xe s
theorem PW.pt (h:PW X e t):PT X e t:=h _
def PA (X:Cx)(es:List Expr)(t:TA):Prop:=
 ∀(pos:Pos)(aA:LA)(s:Shared)(σ:St)(H:Hp)(Q:List V->Hp->Prop),Inv X aA σ H s->t σ H Q->wpAny (mX X) X.A (spliced (backTo pos (starEach es X.env))) (AP X aA σ Q) X.xe s
def PS (X:Cx)(st:Stmt)(t:TS):Prop:=
 ∀(aA:LA)(s:Shared)(σ:St)(H:Hp)(D:Wc),Inv X aA σ H s->t D σ H->wpAny (mX X) X.A (exec st X.env) (SP X aA D) X.xe s
def PSs (X:Cx)(st:List Stmt)(t:TS):Prop:=
 ∀(aA:LA)(s:Shared)(σ:St)(H:Hp)(D:Wc),Inv X aA σ H s->t D σ H->wpAny (mX X) X.A (execs st X.env) (SP X aA D) X.xe s
theorem thn {α:Type}{t:Sem α}{Q Q':α->Shared->Prop}{M:Model}{A:Around}{E:Value->Shared->Prop}{s:Shared}(h:wpAny M A t Q E s)(hQ:∀a s,Q a s->Q' a s):wpAny M A t Q' E s:=wpAny_mono h hQ λ_ _ x=>x
section
variable {X:Cx}
def tVar (i:Nat):TE:=λσ H Q=>∃v,σ[i]?=some (some v)/\Q v H
def tC (v:V):TE:=λ_ H Q=>Q v H
theorem LB (hN:X.N[i]?=some x)(hv:Vis X.env.scope x)(hd:(x==("__debug__":Str))=false:=by decide)(hcd:(x==("__classdict__":Str))=false:=by decide):PE X (.Name x pos) (tVar i):=by
 intro aA s σ H Q I h;obtain⟨v,e,h⟩:=h;obtain⟨m,hn,hl⟩:=I.loc;obtain⟨u,r,l⟩:=hl i x v hN e hv;have aZ:EP X aA σ Q u s:=#[v,H,I,r,h];rcases l with ⟨hk,hm⟩|⟨hk,c,hc,hcell⟩
 .exact wpAny_Name (wpAny_loadName_local I.ok.kind hk hn hm aZ) hd
 .rcases hk with hk|hk
  .exact wpAny_Name (wpAny_loadName_cell I.ok.kind hk hc hcell aZ) hd
  .exact wpAny_Name (wpAny_loadName_free I.ok.kind hk hc hcell aZ hcd) hd
theorem HD {i j pos}:PE X (.Constant (.int i) j pos) (tC (.int i)):=λ_ _ _ H _ I h=>wpAny_Constant_int #[.int i,H,I.tok _,#[_,rfl],h]
theorem pe_bl {b j pos}:PE X (.Constant (.bool b) j pos) (tC (.bl b)):=λ_ _ _ H _ I h=>Constant_bool #[.bl b,H,I,rfl,h]
theorem ER {j pos}:PE X (.Constant .none j pos) (tC .non):=λ_ _ _ H _ I h=>Constant_none #[.non,H,I,rfl,h]
theorem Cz {x j pos}:PE X (.Constant (.str x) j pos) (tC (.str x)):=λ_ _ _ H _ I h=>Calls.Constant_str #[.str x,H,I.tok _,#[_,rfl],h]
def Gl (X:Cx)(x:Str):Prop:=X.env.kindOf x=some .globalImplicit
theorem NT (I:Inv X aA σ H s)(hg:Gl X x)(hm:X.mg x=some u)(h:Q u s)(hd:(x==("__debug__":Str))=false:=by decide):wpAny (mX X) X.A (eval (.Name x pos) X.env) Q E s:=
 Calls.Name_function_global I.ok.kind hg (Calls.loadGlobal_global (by rw[I.ok.glob];exact I.mod.glob.keeps I.bk) hm h) hd
theorem Wx (I:Inv X aA σ H s)(hg:Gl X x)(hm:X.mg x=none)(hv:bootBuiltins x=some u)(h:Q u s)(hn:x≠"__name__":=by decide)(hd:(x==("__debug__":Str))=false:=by decide):wpAny (mX X) X.A (eval (.Name x pos) X.env) Q E s:=by
 obtain⟨mb,h1,h2⟩:=I.mod.blt;exact Calls.Name_function_global I.ok.kind hg (Calls.loadGlobal_builtin (by rw[I.ok.glob];exact I.mod.glob.keeps I.bk) hm (by rw[I.ok.blt];exact h1.keeps I.bk) ((h2 x hn).trans hv) h) hd
variable {a b:Expr}{ta tb:TE}{pos:Pos}
def tB (t:TE):TT:=λσ H Q=>t σ H λx H1=>∃c,x=.bl c/\Q c H1
theorem FN (h:PE X e t)(he:∀aU,isTrue e X.env aU=(do let v <- aU;standAt e.pos;holding [v] (truthy v)):=by intro _;rfl):PT X e (tB t):=by
 intro aA s σ H Q I hw;refine isTrue_plain (thn (h aA s σ H _ I hw) λv s1 #[x,H1,I1,r1,q1]=>?_) (he _);obtain⟨d,rfl,q⟩:=q1;cases r1;exact wpAny_truthy_bool #[H1,I1,q]
variable {tA tB':TT}{Yj:List Expr}
def tAnd (t u:TT):TT:=λσ H Q=>t σ H λc H1=>if c=true then u σ H1 Q else Q false H1
def tOr (t u:TT):TT:=λσ H Q=>t σ H λc H1=>if c=true then Q true H1 else u σ H1 Q
def tNot (t:TT):TT:=λσ H Q=>t σ H λc H1=>Q (!c) H1
theorem KG (ha:PT X a tA):PW X (.BoolOp .And [a] pos) tA:=by
 intro wh aA s σ H Q I h;refine isTrue_and (thn (ha aA s σ H Q I h) λc s1 e=>?_);cases c with
 | true=>exact isTrue_and_nil e
 | false=>exact e
theorem Gy (ha:PT X a tA):PW X (.BoolOp .Or [a] pos) tA:=by
 intro wh aA s σ H Q I h;refine isTrue_or (thn (ha aA s σ H Q I h) λc s1 e=>?_);cases c with
 | false=>exact isTrue_or_nil e
 | true=>exact e
theorem Ek (ha:PT X a tA)(hb:PW X (.BoolOp .And (b::Yj) pos) tB'):PW X (.BoolOp .And (a::b::Yj) pos) (tAnd tA tB'):=by
 intro wh aA s σ H Q I h;refine isTrue_and (thn (ha aA s σ H _ I h) λc s1 #[H1,I1,q1]=>?_);cases c with
 | true=>exact hb wh aA s1 σ H1 Q I1 q1
 | false=>exact#[H1,I1,q1]
theorem pw_or (ha:PT X a tA)(hb:PW X (.BoolOp .Or (b::Yj) pos) tB'):PW X (.BoolOp .Or (a::b::Yj) pos) (tOr tA tB'):=by
 intro wh aA s σ H Q I h;refine isTrue_or (thn (ha aA s σ H _ I h) λc s1 #[H1,I1,q1]=>?_);cases c with
 | true=>exact#[H1,I1,q1]
 | false=>exact hb wh aA s1 σ H1 Q I1 q1
theorem DL (ha:PT X a tA):PT X (.UnaryOp .Not a pos) (tNot tA):=by
 intro aA s σ H Q I h;exact isTrue_not (ha aA s σ H (λc H1=>Q (!c) H1) I h)
def tAndV (ta tb:TE):TE:=λσ H Q=>ta σ H λx H1=>∃c,x=.bl c/\if c=true then tb σ H1 Q else Q (.bl false) H1
def tOrV (ta tb:TE):TE:=λσ H Q=>ta σ H λx H1=>∃c,x=.bl c/\if c=true then Q (.bl true) H1 else tb σ H1 Q
def tNotV (ta:TE):TE:=λσ H Q=>ta σ H λx H1=>∃c,x=.bl c/\Q (.bl (!c)) H1
theorem HW {op}(h:PE X a t):PE X (.BoolOp op [a] pos) t:=λaA s σ H Q I hw=>BoolOp_one (h aA s σ H Q I hw)
theorem KI (ha:PE X a ta)(hb:PE X (.BoolOp .And (b::Yj) pos) tb):PE X (.BoolOp .And (a::b::Yj) pos) (tAndV ta tb):=by
 intro aA s σ H Q I h;refine BoolOp_and (thn (ha aA s σ H _ I h) λv s1 #[x,H1,I1,r1,q1]=>?_);obtain⟨c,rfl,q1⟩:=q1;cases r1;refine wpAny_truthy_bool ?_;cases c with
 | true=>exact hb aA s1 σ H1 Q I1 q1
 | false=>exact#[.bl false,H1,I1,rfl,q1]
theorem pe_or (ha:PE X a ta)(hb:PE X (.BoolOp .Or (b::Yj) pos) tb):PE X (.BoolOp .Or (a::b::Yj) pos) (tOrV ta tb):=by
 intro aA s σ H Q I h;refine BoolOp_or (thn (ha aA s σ H _ I h) λv s1 #[x,H1,I1,r1,q1]=>?_);obtain⟨c,rfl,q1⟩:=q1;cases r1;refine wpAny_truthy_bool ?_;cases c with
 | false=>exact hb aA s1 σ H1 Q I1 q1
 | true=>exact#[.bl true,H1,I1,rfl,q1]
theorem C7 (ha:PE X a ta):PE X (.UnaryOp .Not a pos) (tNotV ta):=by
 intro aA s σ H Q I h;refine UnaryOp_ (thn (ha aA s σ H _ I h) λv s1 #[x,H1,I1,r1,q1]=>?_);obtain⟨c,rfl,q1⟩:=q1;cases r1;exact not_of (wpAny_truthy_bool #[.bl (!c),H1,I1,rfl,q1])
def tIf (t:TT)(ta tb:TE):TE:=λσ H Q=>t σ H λc H1=>if c=true then ta σ H1 Q else tb σ H1 Q
theorem Jv (hc:PT X c tA)(ha:PE X a ta)(hb:PE X b tb):PE X (.IfExp c a b pos) (tIf tA ta tb):=by
 intro aA s σ H Q I h;refine wpAny_IfExp (thn (hc aA s σ H _ I h) λd s1 #[H1,I1,q1]=>?_);cases d with
 | true=>exact ha aA s1 σ H1 Q I1 q1
 | false=>exact hb aA s1 σ H1 Q I1 q1
end
def SqL (K:Fg)(H:Hp)(a:Addr)(xs:List V):Prop:=
 Rd H a (.lst xs)\/
  ∃(o:Obj)(aY:Array Value)(n:Nat),K.lookup a=some o/\o.cls=.type "list"/\o.dict=none/\o.data=.seq aY n/\aY.size<=sizeLine/\Zz xs aY.toList
def SqT (K:Fg)(H:Hp)(a:Addr)(xs:List V):Prop:=
 Rd H a (.tup xs)\/
  ∃(o:Obj)(aY:Array Value)(n:Nat),K.lookup a=some o/\o.cls=.type "tuple"/\o.data=.seq aY n/\aY.size<=sizeLine/\Zz xs aY.toList
def absV:Value->Option V
 | .none=>some .non
 | .bool b=>some (.bl b)
 | .int i _=>some (.int i)
 | .str x _=>some (.str x)
 | .bytes b _=>some (.byt b)
 | .float b _=>some (.flt b)
 | .ref a=>some (.ref a)
 | .type n=>some (.ty n)
 | _=>none
theorem Zw.abs (r:Zw x u):absV u=some x:=by
 cases x with
 | non=>cases r;rfl
 | bl _=>cases r;rfl
 | int _=>obtain⟨t,rfl⟩:=r;rfl
 | str _=>obtain⟨t,rfl⟩:=r;rfl
 | byt _=>obtain⟨t,rfl⟩:=r;rfl
 | flt _=>obtain⟨t,rfl⟩:=r;rfl
 | ref _=>cases r;rfl
 | ty _=>cases r;rfl
theorem Zw.inj (r:Zw x u)(q:Zw y u):x=y:=Option.some.inj (r.abs.symm.trans q.abs)
theorem Zz.inj:∀ {xs ys:List V} {us:List Value},Zz xs us->Zz ys us->xs=ys
 | _,_,_,.nil,.nil=>rfl
 | _,_,_,.cons r t,.cons r' t'=>by rw[r.inj r',Zz.inj t t']
theorem SqL.of {K:Fg}(h:H a=some (.lst xs)):SqL K H a xs:=.inl (.inl h)
theorem SqT.of {K:Fg}(h:H a=some (.tup xs)):SqT K H a xs:=.inl (.inl h)
theorem Inv.list (I:Inv X aA σ H s)(h:SqL X.K H a xs):∃aY:List Value,Zz xs aY/\PlainL s.heap a aY.toArray/\xs.length<=sizeLine:=by
 rcases h with h|⟨o,aY,n,hk,hc,hd,hs,hz,r⟩
 .obtain⟨z,aY,n,r,e⟩:=h.ok I.hok;exact#[aY,r,#[_,n,e,rfl,rfl,rfl],z]
 .refine#[aY.toList,r,#[o,n,I.kIn a o hk,hc,hd,by simpa using hs],?_];have e:=r.length;simp at e;omega
theorem Inv.tuple (I:Inv X aA σ H s)(h:SqT X.K H a xs):∃aY:List Value,Zz xs aY/\IsTup s.heap a aY.toArray/\xs.length<=sizeLine:=by
 rcases h with h|⟨o,aY,n,hk,hc,hs,hz,r⟩
 .obtain⟨z,aY,r,p⟩:=h.ok I.hok;exact#[aY,r,p,z]
 .refine#[aY.toList,r,#[o,I.kIn a o hk,hc,n,by simpa using hs],?_];have e:=r.length;simp at e;omega
theorem Inv.list_inj (I:Inv X aA σ H s)(h:SqL X.K H a xs)(h':SqL X.K H a ys):xs=ys:=by
 obtain⟨aY,r,⟨o,n,e,_,_,d⟩,_⟩:=I.list h;obtain⟨its',r',⟨o',n',e',_,_,d'⟩,_⟩:=I.list h';rw[e] at e';cases e'
 rw[d] at d';injection d' with d1 _
 have:aY=its':=by simpa using congrArg Array.toList d1
 subst this;exact r.inj r'
theorem Inv.tuple_inj (I:Inv X aA σ H s)(h:SqT X.K H a xs)(h':SqT X.K H a ys):xs=ys:=by
 obtain⟨aY,r,⟨o,e,_,n,d⟩,_⟩:=I.tuple h;obtain⟨its',r',⟨o',e',_,n',d'⟩,_⟩:=I.tuple h';rw[e] at e';cases e'
 rw[d] at d';injection d' with d1 _
 have:aY=its':=by simpa using congrArg Array.toList d1
 subst this;exact r.inj r'
abbrev Cx.wish (X:Cx)(E:Value->Shared->Prop):Cx:={ X with xe:=E }
abbrev Cx.nox (X:Cx):Cx:=X.wish λ_ _=>False
theorem Cx.Ok.wish {X:Cx}(ok:X.Ok)(E:Value->Shared->Prop):(X.wish E).Ok:=
 #[ok.mod,ok.kind,ok.glob,ok.blt,ok.above,ok.inj,ok.has,ok.cab,ok.hd,ok.frames,ok.stk,ok.exf,ok.bs,ok.bsz,ok.noex,ok.exfs,ok.funs,ok.frf]
theorem Cx.Ok.unwish {X:Cx}{E:Value->Shared->Prop}(ok:(X.wish E).Ok):X.Ok:=
 #[ok.mod,ok.kind,ok.glob,ok.blt,ok.above,ok.inj,ok.has,ok.cab,ok.hd,ok.frames,ok.stk,ok.exf,ok.bs,ok.bsz,ok.noex,ok.exfs,ok.funs,ok.frf]
theorem Inv.wish (I:Inv X aA σ H s)(E:Value->Shared->Prop):Inv (X.wish E) aA σ H s:=#[I.ok.wish E,I.os,I.bare,I.base,I.loc,I.cell,I.free,I.freeC,I.pin,I.hok,I.len]
theorem Inv.unwish (I:Inv (X.wish E) aA σ H s):Inv X aA σ H s:=#[I.ok.unwish,I.os,I.bare,I.base,I.loc,I.cell,I.free,I.freeC,I.pin,I.hok,I.len]
theorem SP.unwish (h:SP (X.wish E) aA D f s'):SP X aA D f s':=by
 cases f with
 | next=>obtain⟨σ',H',I,q⟩:=h;exact#[σ',H',I.unwish,q]
 | brk=>obtain⟨σ',H',I,q⟩:=h;exact#[σ',H',I.unwish,q]
 | cont=>obtain⟨σ',H',I,q⟩:=h;exact#[σ',H',I.unwish,q]
 | ret u=>obtain⟨v,σ',H',I,r,q⟩:=h;exact#[v,σ',H',I.unwish,r,q]
theorem PE.nox {e:Expr}{t:TE}(h:PE X.nox e t):PE X e t:=λaA s σ H Q I hw=>
 wpAny_mono (h aA s σ H Q (I.wish _) hw) (λ_ _ #[v,H',I',r,q]=>#[v,H',I'.unwish,r,q]) λ_ _ z=>False.elim z
theorem PSs.nox {st:List Stmt}{t:TS}(h:PSs X.nox st t):PSs X st t:=λaA s σ H D I hw=>
 wpAny_mono (h aA s σ H D (I.wish _) hw) (λ_ _ q=>q.unwish) λ_ _ z=>False.elim z
section
variable {X:Cx}{st:Stmt}{Yj:List Stmt}{t u:TS}{e:Expr}{te:TE}{pos:Pos}
def tNext:TS:=λD σ H=>D.nx σ H
def tSeq (t u:TS):TS:=λD σ H=>t { D with nx:=u D } σ H
theorem AJ:PSs X [] tNext:=λ_ _ σ H _ I h=>wpAny_execs_nil #[σ,H,I,h]
theorem Fo (h1:PS X st t)(h2:PSs X Yj u):PSs X (st::Yj) (tSeq t u):=by
 intro aA s σ H D I h;refine wpAny_execs_cons (thn (h1 aA s σ H { D with nx:=u D } I h) λf s1 q=>?_);cases f with
 | next=>
  obtain⟨σ',H',I',q⟩:=q;exact h2 aA s1 σ' H' D I' q
 | ret v=>exact q
 | brk=>exact q
 | cont=>exact q
theorem KN (h1:PS X st t):PSs X [st] t:=by
 intro aA s σ H D I h;refine wpAny_execs_cons (thn (h1 aA s σ H D I h) λf s1 q=>?_);cases f with
 | next=>exact wpAny_execs_nil q
 | ret v=>exact q
 | brk=>exact q
 | cont=>exact q
def KH:TS:=λD σ H=>D.bk σ H
theorem Dy:PS X (.Break pos) KH:=λ_ _ σ H _ I h=>wpAny_Break #[σ,H,I,h]
theorem Inv.quiet (I:Inv X aA σ H s):interactive X.env=false:=by simp[interactive,I.ok.kind]
def tDrop (te:TE):TS:=λD σ H=>te σ H λ_ H1=>D.nx σ H1
theorem Ke (he:PE X e te)(hs:swapsWith e none pos.line X.env=pure false:=by rfl):PS X (.Expr e pos) (tDrop te):=by
 intro aA s σ H D I h;exact wpAny_Expr_any (thn (he aA s σ H _ I h) λv s1 #[x,H1,I1,r1,q1]=>#[σ,H1,I1,q1]) I.quiet hs
def tRet (te:TE):TS:=λD σ H=>te σ H D.rt
theorem JO (he:PE X e te):PS X (.Return (some e) pos) (tRet te):=by
 intro aA s σ H D I h;exact wpAny_Return_some (thn (he aA s σ H _ I h) λv s1 #[x,H1,I1,r1,q1]=>#[x,σ,H1,I1,r1,q1])
def tRetN:TS:=λD _ H=>D.rt .non H
theorem EC:PS X (.Return none pos) tRetN:=λ_ _ σ H _ I h=>wpAny_Return_none #[.non,σ,H,I,rfl,h]
def tIfS (c:TT)(t u:TS):TS:=λD σ H=>c σ H λb H1=>if b=true then t D σ H1 else u D σ H1
theorem ps_if (hc:PT X c tc)(ha:PSs X a t)(hb:PSs X b u):PS X (.If c a b pos) (tIfS tc t u):=by
 intro aA s σ H D I h;refine wpAny_If (thn (hc aA s σ H _ I h) λd s1 #[H1,I1,q1]=>?_);cases d with
 | true=>exact ha aA s1 σ H1 D I1 q1
 | false=>exact hb aA s1 σ H1 D I1 q1
def Gk:TS:=λ_ _ _=>False
theorem Aq:PS X st Gk:=λ_ _ _ _ _ _ h=>h.elim
end
abbrev TG:=V->St->Hp->(St->Hp->Prop)->Prop
abbrev TGs:=List V->St->Hp->(St->Hp->Prop)->Prop
def PG (X:Cx)(target:Expr)(t:TG):Prop:=
 ∀(aA:LA)(s:Shared)(σ:St)(H:Hp)(v:V)(u:Value)(Q:St->Hp->Prop),Inv X aA σ H s->Zw v u->t v σ H Q->
  wpAny (mX X) X.A (assign target X.env u) (λ_ s'=>∃σ' H',Inv X aA σ' H' s'/\Q σ' H') X.xe s
def PGs (X:Cx)(ts:List Expr)(t:TGs):Prop:=
 ∀(aA:LA)(s:Shared)(σ:St)(H:Hp)(vs:List V)(us:List Value)(Q:St->Hp->Prop),Inv X aA σ H s->Zz vs us->t vs σ H Q->
  wpAny (mX X) X.A (assignInOrder ((assignEach ts X.env).map (·.2)) us) (λ_ s'=>∃σ' H',Inv X aA σ' H' s'/\Q σ' H') X.xe s
abbrev TSet:=V->V->V->Hp->(Hp->Prop)->Prop
def PSet (X:Cx)(t:TSet):Prop:=
 ∀(aA:LA)(s:Shared)(σ:St)(H:Hp)(o i v:V)(ov iv u:Value)(Q:Hp->Prop),Inv X aA σ H s->Zw o ov->Zw i iv->Zw v u->t o i v H Q->
  wpAny (mX X) X.A (setItem ov iv u) (λ_ s'=>∃H',Inv X aA σ H' s'/\Q H') X.xe s
def Qw (i:Nat):TG:=λv σ H Q=>Q (σ.set i (some v)) H
theorem Vn (hN:X.N.Nodup)(hi:X.N[i]?=some x)(hx:Loc X.env.scope x)(hf:Hf X x:=by first|exact .inl rfl|exact .inr rfl|assumption):PG X (.Name x pos) (Qw i):=by
 intro aA s σ H v u Q I r h;exact wpAny_assign_Name (ML I hN hi hx r (λs' I'=>#[_,H,I',h]) hf)
def gNil:TGs:=λvs σ H Q=>vs=[]/\Q σ H
def gCons (t:TG)(u:TGs):TGs:=λvs σ H Q=>∃v r,vs=v::r/\t v σ H λσ' H'=>u r σ' H' Q
theorem IP:PGs X [] gNil:=by
 intro aA s σ H vs us Q I r h;obtain⟨e,h⟩:=h;subst e;cases r;exact assignInOrder_nil #[σ,H,I,h]
theorem Ba (h1:PG X e t)(h2:PGs X es u)(hs:(assignEach (e::es) X.env).map (·.2)=assign e X.env::(assignEach es X.env).map (·.2):=by rfl):PGs X (e::es) (gCons t u):=by
 intro aA s σ H vs us Q I r h;obtain⟨v,vr,e1,h⟩:=h;subst e1;cases r with
 | cons r rr=>
  rw[hs];refine assignInOrder_cons (thn (h1 aA s σ H _ _ _ I r h) λ_ s1 #[σ1,H1,I1,q1]=>?_);exact h2 aA s1 σ1 H1 _ _ Q I1 rr q1
def gTup (K:Fg)(n:Nat)(t:TGs):TG:=λv σ H Q=>∃a xs,v=.ref a/\SqT K H a xs/\xs.length=n/\t xs σ H Q
theorem Vd (hc:X.calm=true)(h:PGs X es t)(hn:(assignEach es X.env).length=n:=by rfl)(hst:(assignEach es X.env).findIdx? (·.1)=none:=by rfl):PG X (.Tuple es k pos) (gTup X.K n t):=by
 intro aA s σ H v u Q I r hw;obtain⟨a,xs,e1,hq,hl,hw⟩:=hw;subst e1;cases r;obtain⟨aY,rv,ht,hz⟩:=I.tuple hq;refine assign_Tuple_tuple (I.ok.hd hc) ht (by simp[hn,<- hl,rv.length]) hst λh' hx=>?_
 have I1:Inv X aA σ H { s with heap:=h' }:=I.kept λb o e=>hx b o (zN (Heap.lt_size e)) e
 exact h aA _ σ H xs _ Q I1 (by simpa using rv) hw
def gSub (to ti:TE)(t:TSet):TG:=λv σ H Q=>to σ H λo H1=>ti σ H1 λi H2=>t o i v H2 λH3=>Q σ H3
theorem Iu (ho:PE X o to)(hi:PE X i ti)(hs:PSet X t)(ha:∀v,assign (.Subscript o i pos) X.env v=(do
   let ov <- holding [v] (eval o X.env)
   let iv <- holding [v,ov] (eval i X.env)
   standAt pos
   holding [v,ov,iv] (setItem ov iv v)
   release [v,ov,iv] []):=by intro _;rfl):PG X (.Subscript o i pos) (gSub to ti t):=by
 intro aA s σ H v u Q I r h;refine wpAny_bind (wpAny_holding (thn (ho aA s σ H _ I h) λov s1 #[x,H1,I1,r1,q1]=>?_));refine wpAny_bind (wpAny_holding (thn (hi aA s1 σ H1 _ I1 q1) λiv s2 #[y,H2,I2,r2,q2]=>?_));refine wpAny_bind (wpAny_standAt (wpAny_bind (wpAny_holding (thn (hs aA s2 σ H2 x y v ov iv u _ I2 r1 r2 r q2) λ_ s3 #[H3,I3,q3]=>?_))));exact wpAny_release #[σ,H3,I3,q3]
def tAsg (te:TE)(g:TG):TS:=λD σ H=>te σ H λx H1=>g x σ H1 D.nx
theorem LR (he:PE X e te)(hg:PG X tg g)(hs:swapsWithSole [tg] e pos.line X.env=pure false:=by rfl)(hw:swappedStores [tg] e X.env=pure none:=by rfl)(h1:(assignEach [tg] X.env).map (·.2)=[assign tg X.env]:=by rfl):PS X (.Assign [tg] e pos) (tAsg te g):=by
 intro aA s σ H D I h;refine wpAny_Assign_stores (thn (he aA s σ H _ I h) λv s1 #[x,H1,I1,r1,q1]=>?_) hs hw;rw[h1];exact thn (hg aA s1 σ H1 x v _ I1 r1 q1) λ_ s2 q=>q
theorem K3 (hN:X.N.Nodup)(hi:X.N[i]?=some x)(hx:Loc X.env.scope x)(he:PE X e te)(hs:swapsWith e (some (.Name x pos')) pos.line X.env=pure false:=by rfl)(hf:Hf X x:=by first|exact .inl rfl|exact .inr rfl|assumption):
  PS X (.Assign [.Name x pos'] e pos) (tAsg te (Qw i)):=by
 intro aA s σ H D I h;refine wpAny_Assign_Name (thn (he aA s σ H _ I h) λv s1 #[y,H1,I1,r1,q1]=>?_) hs;exact ML I1 hN hi hx r1 (λs2 I2=>#[_,H1,I2,q1]) hf
def BO (c:TT)(tb:TS):TS:=λD σ H=>∃W:Nat->St->Hp->Prop,(∃m,W m σ H)/\∀m σ H,W m σ H->
 c σ H λb H1=>if b=true then ∃N:St->Hp->Prop,(∀σ' H',N σ' H'->∃m',m'<m/\W m' σ' H')/\tb { D with nx:=N,ct:=N,bk:=D.nx } σ H1 else D.nx σ H1
theorem Kb (hp:PassesOwn (mX X) X.A X.env X.xe)(hc:PT X c tc)(hb:PSs X body tb):PS X (.While c body [] pos) (BO tc tb):=by
 intro aA s σ H D I h;obtain⟨W,⟨m0,w0⟩,turn⟩:=h;refine wpAny_While (codeAny_whileLoop (λn s'=>∃σ' H',Inv X aA σ' H' s'/\W n σ' H') ?_ m0 #[σ,H,I,w0]);rintro n s1 ⟨σ1,H1,I1,w1⟩;refine wpAny_passesOwn hp (thn (hc aA s1 σ1 H1 _ I1 (turn n σ1 H1 w1)) λb s2 #[H2,I2,q2]=>?_);cases b with
 | true=>
  obtain⟨N,hN,q2⟩:=q2;refine wpAny_passesOwn hp (thn (hb aA s2 σ1 H2 _ I2 q2) λf s3 q3=>?_);cases f with
  | next=>
   obtain⟨σ3,H3,I3,n3⟩:=q3;obtain⟨m',hm,w3⟩:=hN σ3 H3 n3;exact#[m',hm,σ3,H3,I3,w3]
  | cont=>
   obtain⟨σ3,H3,I3,n3⟩:=q3;obtain⟨m',hm,w3⟩:=hN σ3 H3 n3;exact#[m',hm,σ3,H3,I3,w3]
  | brk=>exact q3
  | ret v=>exact q3
 | false=>
  exact wpAny_execs_nil #[σ1,H2,I2,q2]
structure It where
 go:Nat->Hp->Prop
 yld:Nat->Hp->V->Hp->Prop
 stop:Nat->Hp->Prop
def Yu (X:Cx)(aA:LA)(H:Hp)(b:Addr):Prop:=
 H b=none/\b≠X.env.locals/\b ∉ X.fs/\(b∈X.ex\/X.s₀.heap.objs.size<=b)/\(∀x c,X.env.cells.lookup x=some c->c≠b)/\∀p∈X.pn++aA,p.1≠b
theorem Inv.fpOk {X:Cx}{aA:LA}{σ:St}{H H':Hp}{s:Shared}{b:Addr}(I:Inv X aA σ H s)(hb:s.heap.objs.size<=b)(hn:H' b=none):Yu X aA H' b:=by
 refine#[hn,xJ (zV I.lt hb),I.nofs hb,.inr (yJ I.sz hb),λx c e z=>?_,λp hp z=>?_]
 .obtain⟨v,q⟩:=I.cell x c e;exact absurd (zV q.lt (by rw[z];exact hb)) (yW _)
 .exact absurd (zV (Heap.lt_size (I.pin p hp).1) (by rw[z];exact hb)) (yW _)
structure W9 (P:Program)(w:World)(K:Fg)(tg:Expr)(J:It)(fp:List Addr)(it:Addr)(tn:Nat->Heap->Prop):Prop where
 mem:it∈fp
 obj:∀i h,tn i h->∀b∈fp,∃o,h.get? b=some o/\∀v,o.data≠.cell v
 keep:∀i h h',tn i h->(∀b∈fp,∀o,h.get? b=some o->h'.get? b=some o)->tn i h'
 item:∀(X:Cx),X.prog=P->X.w=w->X.K=K->X.calm=true->∀(i:Nat)(aA:LA)(s:Shared)(σ:St)(H:Hp)(E:Value->Shared->Prop),Inv X aA σ H s->(∀b∈fp,Yu X aA H b)->tn i s.heap->J.go i H->
  wpAny (model P w) X.A (pyNext (.ref it)) (λr s1=>∃u,r=some u/\
   wpAny (model P w) X.A (letOwnedTupleGo tg (.ref it) u) (λ_ s2=>∃x H',Inv X aA σ H' s2/\Zw x u/\J.yld i H x H'/\tn (i+1) s2.heap/\∀b∈fp,H' b=none) E s1) E s
 done:∀(X:Cx),X.prog=P->X.w=w->X.K=K->X.calm=true->∀(i:Nat)(aA:LA)(s:Shared)(σ:St)(H:Hp)(E:Value->Shared->Prop),Inv X aA σ H s->(∀b∈fp,Yu X aA H b)->tn i s.heap->J.stop i H->
  wpAny (model P w) X.A (pyNext (.ref it)) (λr s1=>r=none/\Inv X aA σ H s1) E s
 self:∀(A:Around)(i:Nat)(s:Shared)(Q:Value->Shared->Prop)(E:Value->Shared->Prop),tn i s.heap->Q (.ref it) s->wpAny (model P w) A (pyIter (.ref it)) Q E s
abbrev TI:=St->Hp->(It->Hp->Prop)->Prop
inductive PIE (X:Cx)(aA:LA)(σ:St)(tg:Expr)(R:It->Hp->Prop)(itv:Value)(s2:Shared):Prop
 | mk (it:Addr) (fp:List Addr) (tn:Nat->Heap->Prop) (J:It) (H1:Hp) (a:itv=.ref it) (b:Inv X aA σ H1 s2) (c:W9 X.prog X.w X.K tg J fp it tn) (d:tn 0 s2.heap) (e:∀b∈fp,Yu X aA H1 b) (f:R J H1):PIE X aA σ tg R itv s2
def PI (X:Cx)(tg aW:Expr)(wi:TI):Prop:=
 ∀(aA:LA)(s:Shared)(σ:St)(H:Hp)(R:It->Hp->Prop),Inv X aA σ H s->wi σ H R->
  wpAny (mX X) X.A (eval aW X.env) (λv s1=>wpAny (mX X) X.A (pyIter v) (PIE X aA σ tg R) X.xe s1) X.xe s
theorem SV (ho:s.heap.get? it=some o)(hc:o.cls=.type n)(hd:o.data=.fields vs)(hn:["enumerate","zip","dict_itemiterator","dict_reverseitemiterator","odict_iterator","itertools.zip_longest","itertools.pairwise"].contains n=false)(hQ:Q Unit.unit s):wpAny M A (letOwnedTupleGo tg (.ref it) u) Q E s:=by
  cases tg<;>first
    | exact wpAny_pure hQ
    | (cases u<;>first
        | exact wpAny_pure hQ
        | (refine wpAny_bind (wpAny_load ho ?_)
           rw[hc,hd];show wpAny M A (if (["enumerate","zip","dict_itemiterator","dict_reverseitemiterator","odict_iterator","itertools.zip_longest","itertools.pairwise"].contains n&&vs[0]?==some (rawInt _))=true then _ else _) Q E s;rw[if_neg (by intro h;rw[hn,vB] at h;cases h)];exact wpAny_pure hQ))
def Itl (K:Fg)(a:Addr):It:=
 #[λi H=>∃xs x,SqL K H a xs/\xs[i]?=some x,λi H x H'=>H'=H/\∀xs,SqL K H a xs->xs[i]?=some x,λi H=>∃xs,SqL K H a xs/\xs.length<=i]
def Itt (K:Fg)(a:Addr):It:=
 #[λi H=>∃xs x,SqT K H a xs/\xs[i]?=some x,λi H x H'=>H'=H/\∀xs,SqT K H a xs->xs[i]?=some x,λi H=>∃xs,SqT K H a xs/\xs.length<=i]
def Itr (lo:Int)(n:Nat):It:=#[λi _=>i<n,λi H x H'=>H'=H/\x=.int (lo+i),λi _=>n<=i]
theorem Ih {P:Program}{w:World}{K:Fg}{tg:Expr}(a it:Addr):W9 P w K tg (Itl K a) [it] it (λi h=>h.IsListIter it a i) where
 mem:=by simp
 obj:=λi h st b hb=>by
  have e:b=it:=by simpa using hb
  subst e;obtain⟨o,e,c,d⟩:=st;exact#[o,e,λv z=>by rw[d] at z;cases z]
 keep:=λi h h' st k=>st.at λo e=>k it (by simp) o e
 item:=by
  intro X hP hw hK hc i aA s σ H E I hf st hg;subst hP hw hK;obtain⟨xs,x,hq,hx⟩:=hg;obtain⟨aY,rv,p,hz⟩:=I.list hq;obtain⟨u,hu,ru⟩:=rv.get hx;obtain⟨f0,f1,f2,f3,f4,f5⟩:=hf it (by simp);refine wpAny_pyNext_list_item st p.isList (by simpa using hu) λh' st' sb=>?_
  have I1:Inv X aA σ H { s with heap:=h' }:=I.turned (λb o hb e=>(sb.2 b hb).trans e) f0 f1 f3 f4 f5;obtain⟨o,e,c,d⟩:=id st';exact#[u,rfl,SV e c d ⋯ #[x,H,I1,ru,#[rfl,λys hy=>by rw[I.list_inj hy hq];exact hx],st',λb hb=>(hf b hb).1]]
 done:=by
  intro X hP hw hK hc i aA s σ H E I hf st hg;subst hP hw hK;obtain⟨xs,hq,hx⟩:=hg;obtain⟨aY,rv,p,hz⟩:=I.list hq;obtain⟨f0,f1,f2,f3,f4,f5⟩:=hf it (by simp);have hl:=rv.length;exact wpAny_pyNext_list_end (I.ok.hd hc) st p.isList (by simp;omega) λh' eb=>#[rfl,I.turned (λb o hb e=>eb b o hb e) f0 f1 f3 f4 f5]
 self:=λ_ _ _ _ _ st h=>wpAny_pyIter_listiter st h
theorem Kg {P:Program}{w:World}{K:Fg}{tg:Expr}(a it:Addr):W9 P w K tg (Itt K a) [it] it (λi h=>h.IsTupleIter it a i) where
 mem:=by simp
 obj:=λi h st b hb=>by
  have e:b=it:=by simpa using hb
  subst e;obtain⟨o,e,c,d⟩:=st;exact#[o,e,λv z=>by rw[d] at z;cases z]
 keep:=λi h h' st k=>st.at λo e=>k it (by simp) o e
 item:=by
  intro X hP hw hK hc i aA s σ H E I hf st hg;subst hP hw hK;obtain⟨xs,x,hq,hx⟩:=hg;obtain⟨aY,rv,p,hz⟩:=I.tuple hq;obtain⟨u,hu,ru⟩:=rv.get hx;obtain⟨f0,f1,f2,f3,f4,f5⟩:=hf it (by simp);refine wpAny_pyNext_tuple_item st (show s.heap.IsTuple a aY.toArray from p) (by simpa using hu) λh' st' sb=>?_
  have I1:Inv X aA σ H { s with heap:=h' }:=I.turned (λb o hb e=>(sb.2 b hb).trans e) f0 f1 f3 f4 f5;obtain⟨o,e,c,d⟩:=id st';exact#[u,rfl,SV e c d ⋯ #[x,H,I1,ru,#[rfl,λys hy=>by rw[I.tuple_inj hy hq];exact hx],st',λb hb=>(hf b hb).1]]
 done:=by
  intro X hP hw hK hc i aA s σ H E I hf st hg;subst hP hw hK;obtain⟨xs,hq,hx⟩:=hg;obtain⟨aY,rv,p,hz⟩:=I.tuple hq;obtain⟨f0,f1,f2,f3,f4,f5⟩:=hf it (by simp);have hl:=rv.length;exact wpAny_pyNext_tuple_end (I.ok.hd hc) st (show s.heap.IsTuple a aY.toArray from p) (by simp;omega) λh' eb=>#[rfl,I.turned (λb o hb e=>eb b o hb e) f0 f1 f3 f4 f5]
 self:=λ_ _ _ _ _ st h=>wpAny_pyIter_tupleiter st h
theorem Bf {P:Program}{w:World}{K:Fg}{tg:Expr}(it:Addr)(lo:Int)(n:Nat):W9 P w K tg (Itr lo n) [it] it (λi h=>IsRangeIter h it (lo+(i:Nat)*1) ((n:Int)-(i:Nat)) 1) where
 mem:=by simp
 obj:=λi h st b hb=>by
  have e:b=it:=by simpa using hb
  subst e;exact#[_,st,λv z=>by
   have z':Data.fields _=Data.cell v:=z;cases z']
 keep:=λi h h' st k=>k it (by simp) _ st
 item:=by
  intro X hP hw hK hc i aA s σ H E I hf st hg;subst hP hw hK;obtain⟨f0,f1,f2,f3,f4,f5⟩:=hf it (by simp);have W:=Walks.range (prog:=X.prog) (w:=X.w) (I.ok.hd hc) it lo 1 n;refine W.item i s _ _ hg st λv h' tk hv st' kk=>?_
  obtain⟨t,rfl⟩:=hv;have I1:Inv X aA σ H { s with heap:=h',toks:=tk }:=I.turned (λb o hb e=>kk b o (by simpa using hb) e) f0 f1 f3 f4 f5;refine#[_,rfl,SV st' rfl rfl ⋯ #[.int (lo+i),H,I1,#[t,?_],#[rfl,rfl],st',λb hb=>(hf b hb).1]];rw[xH]
 done:=by
  intro X hP hw hK hc i aA s σ H E I hf st hg;obtain⟨f0,f1,f2,f3,f4,f5⟩:=hf it (by simp);exact wpAny_pyNext_range_end (I.ok.hd hc) st (by have:n<=i:=hg;omega) λh' eb=>#[rfl,I.turned (λb o hb e=>eb b o hb e) f0 f1 f3 f4 f5]
 self:=λ_ _ _ _ _ st h=>wpAny_pyIter_rangeiter st h
def Nm (K:Fg)(tl:TE):TI:=λσ H R=>tl σ H λx H1=>∃a,x=.ref a/\(∃xs,SqL K H1 a xs)/\R (Itl K a) H1
def iTup (K:Fg)(tl:TE):TI:=λσ H R=>tl σ H λx H1=>∃a,x=.ref a/\(∃xs,SqT K H1 a xs)/\R (Itt K a) H1
theorem QL {l:Expr}{tl:TE}(hl:PE X l tl):PI X tg l (Nm X.K tl):=by
 intro aA s σ H R I h;refine thn (hl aA s σ H _ I h) λv s1 #[x,H1,I1,r1,q1]=>?_
 obtain⟨a,e,⟨xs,hq⟩,q⟩:=q1;subst e;cases r1;obtain⟨aY,rv,p,hz⟩:=I1.list hq;refine wpAny_pyIter_list p.isList ?_;refine#[s1.heap.objs.size,[s1.heap.objs.size],_,_,H1,rfl,I1.kept λb o e=>Heap.get?_push_of_some _ e,Ih a _,#[_,Heap.get?_push_size _ rfl,rfl,rfl],λb hb=>?_,q];have e:b=s1.heap.objs.size:=by simpa using hb
 subst e;exact I1.fpOk (zA _) (I1.hok.fresh (zA _))
theorem zaa {l:Expr}{tl:TE}(hl:PE X l tl):PI X tg l (iTup X.K tl):=by
 intro aA s σ H R I h;refine thn (hl aA s σ H _ I h) λv s1 #[x,H1,I1,r1,q1]=>?_
 obtain⟨a,e,⟨xs,hq⟩,q⟩:=q1;subst e;cases r1;obtain⟨aY,rv,p,hz⟩:=I1.tuple hq;refine wpAny_pyIter_tuple (show s1.heap.IsTuple a aY.toArray from p) ?_;refine#[s1.heap.objs.size,[s1.heap.objs.size],_,_,H1,rfl,I1.kept λb o e=>Heap.get?_push_of_some _ e,Kg a _,#[_,Heap.get?_push_size _ rfl,rfl,rfl],λb hb=>?_,q];have e:b=s1.heap.objs.size:=by simpa using hb
 subst e;exact I1.fpOk (zA _) (I1.hok.fresh (zA _))
theorem Mq {aA:LA}{σ:St}{H:Hp}{s:Shared}{R:It->Hp->Prop}{E:Value->Shared->Prop}{lo hi:Int}{t u v:Tok}{tk:Nat}(I:Inv X aA σ H s)(h1:-(2^62)<=lo)(h2:lo<2^62)(h3:-(2^62)<=hi)(h4:hi<2^62)
  (q:R (Itr lo (hi-lo).toNat) H):wpAny (mX X) X.A (pyIter (.ref s.heap.objs.size)) (PIE X aA σ tg R) E { s with heap:=s.heap.push { cls:=.type "range",data:=.fields (List.toArray [.int lo t,.int hi u,.int 1 v]) },toks:=tk }:=by
 refine wpAny_pyIter_range (IsRange.new ..) (small_one h1 h2 h3 h4) ?_;have I1:Inv X aA σ H { s with heap:=s.heap.push { cls:=.type "range",data:=.fields (List.toArray [.int lo t,.int hi u,.int 1 v]) },toks:=tk }:=I.kept λb o e=>Heap.get?_push_of_some _ e
 refine#[(s.heap.push { cls:=.type "range",data:=.fields (List.toArray [.int lo t,.int hi u,.int 1 v]) }).objs.size,[(s.heap.push { cls:=.type "range",data:=.fields (List.toArray [.int lo t,.int hi u,.int 1 v]) }).objs.size],_,_,H,rfl,
  I1.kept λb o e=>Heap.get?_push_of_some _ e,Bf _ lo (hi-lo).toNat,?_,λb hb=>?_,q]
 .have e1:lo+((0:Nat):Int)*1=lo:=by simp
  have e2:(((hi-lo).toNat:Nat):Int)-((0:Nat):Int)=Builtin.Range.rangeSize lo hi 1:=by rw[rangeSize_one];split<;>omega
  rw[e1,e2];exact Heap.get?_push_size _ rfl
 .have e:b=(s.heap.push { cls:=.type "range",data:=.fields (List.toArray [.int lo t,.int hi u,.int 1 v]) }).objs.size:=by simpa using hb
  subst e;exact I1.fpOk (zA _) (I1.hok.fresh (zA _))
def Nw (ta:TA):TI:=λσ H R=>ta σ H λvs H1=>∃j:Int,vs=[.int j]/\-(2^62)<=j/\j<2^62/\R (Itr 0 j.toNat) H1
def NH (ta:TA):TI:=λσ H R=>ta σ H λvs H1=>∃i j:Int,vs=[.int i,.int j]/\(-(2^62)<=i/\i<2^62/\-(2^62)<=j/\j<2^62)/\R (Itr i (j-i).toNat) H1
theorem Qy {a:Expr}{ta:TA}{p pos:Pos}(hg:Gl X "range")(hm:X.mg "range"=none)(ha:PA X [a] ta)(hs:starEach [a] X.env=[(false,eval a X.env)]:=by rfl):PI X tg (.Call (.Name "range" p) [a] [] pos) (Nw ta):=by
 intro aA s σ H R I h;refine Call_ (Wx I hg hm boot_range (PyProof.Rows.callWith_type1 (thn (ha pos aA s σ H _ I h) λus s1 #[vs,H1,I1,r1,q1]=>?_) hs rfl));obtain⟨j,e,q1,q2,q⟩:=q1;subst e;cases r1 with
 | cons r rr=>
  cases rr;obtain⟨t,rfl⟩:=r;exact call_range_1 (Mq I1 (by omega) (by omega) q1 q2 (by simpa using q))
theorem NO (hg:Gl X "range")(hm:X.mg "range"=none)(ha:PA X [a,b] ta)(hs:starEach [a,b] X.env=[(false,eval a X.env),(false,eval b X.env)]:=by rfl)(hs2:starEach [b] X.env=[(false,eval b X.env)]:=by rfl):
  PI X tg (.Call (.Name "range" p) [a,b] [] pos) (NH ta):=by
 intro aA s σ H R I h;refine Call_ (Wx I hg hm boot_range (PyProof.Rows.callWith_type1 (thn (ha pos aA s σ H _ I h) λus s1 #[vs,H1,I1,r1,q1]=>?_) (by rw[hs,hs2]) (by rw[hs2];rfl)));obtain⟨i,j,e,⟨q1,q2,q3,q4⟩,q⟩:=q1;subst e;cases r1 with
 | cons r rr=>
  cases rr with
  | cons r' rr=>
   cases rr;obtain⟨t,rfl⟩:=r;obtain⟨t',rfl⟩:=r';exact call_range_2 (Mq I1 q1 q2 q3 q4 q)
def tFor (wi:TI)(g:TG)(tb:TS):TS:=λD σ H=>wi σ H λJ H1=>∃W:Nat->Nat->St->Hp->Prop,(∃m,W 0 m σ H1)/\∀i m σ H,W i m σ H->
 (J.stop i H/\D.nx σ H)\/(J.go i H/\∃N:St->Hp->Prop,(∀σ' H',N σ' H'->∃m',m'<m/\W (i+1) m' σ' H')/\∀x H',J.yld i H x H'->g x σ H' λσ2 H2=>tb { D with nx:=N,ct:=N,bk:=D.nx } σ2 H2)
def U1 (fp:List Addr)(h:Heap):LA:=fp.filterMap λb=>(h.get? b).map λo=>(b,o)
theorem TH {fp:List Addr}{h:Heap}{b:Addr}{o:Obj}(hb:b∈fp)(e:h.get? b=some o):(b,o)∈U1 fp h:=vC.mpr #[b,hb,by rw[e];rfl]
theorem J9 {fp:List Addr}{h:Heap}{p:Addr×Obj}(hp:p∈U1 fp h):p.1∈fp/\h.get? p.1=some p.2:=by
 obtain⟨b,hb,e⟩:=vC.mp hp;cases q:h.get? b with
 | none=>rw[q] at e;cases e
 | some o=>
  rw[q] at e;have e':(b,o)=p:=Option.some.inj e;subst e';exact#[hb,q]
theorem Inv.pinned {aA:LA}{σ:St}{H:Hp}{s:Shared}{fp:List Addr}(I:Inv X aA σ H s)(hf:∀b∈fp,Yu X aA H b)(ho:∀b∈fp,∃o,s.heap.get? b=some o/\∀v,o.data≠.cell v):Inv X (aA++U1 fp s.heap) σ H s:=
 I.pins_of λp hp=>(zX.mp hp).elim (λz=>I.pin p (xA _ z)) λz=>by
  obtain⟨hb,e⟩:=J9 z;obtain⟨f0,f1,f2,_⟩:=hf p.1 hb;obtain⟨o,e',d⟩:=ho p.1 hb;rw[e] at e';cases e'
  exact#[e,f0,f1,f2,d]
theorem Inv.unpinned (I:Inv X (aA++pl) σ H s):Inv X aA σ H s:=I.pins_of λp hp=>I.pin p (xA _ (uS _ hp))
theorem Vb (hp:PassesOwn (mX X) X.A X.env X.xe)(hc:X.calm=true)(hi:PI X tg aW wi)(hg:PG X tg g)(hb:PSs X body tb)(hs:∀x,foldedSetIterable aW X.env x=pure x:=by intro _;rfl):PS X (.For tg aW body [] pos) (tFor wi g tb):=by
 intro aA s σ H D I h;refine wpAny_For (thn (hi aA s σ H _ I h) λv s1 h1=>thn h1 λitv s2 h2=>?_) hs;obtain⟨it,fp,tn,J,H2,e,I2,T,st2,f2,W,⟨m0,w0⟩,turn⟩:=h2;subst e;have stat:∀ {H':Hp},(∀b∈fp,H' b=none)->∀b∈fp,Yu X aA H' b:=λhn b hb=>#[hn b hb,(f2 b hb).2]
 refine codeAny_forLoop_any (λn s'=>∃i σ' H',Inv X aA σ' H' s'/\tn i s'.heap/\(∀b∈fp,H' b=none)/\W i n σ' H') ?_ m0 #[0,σ,H2,I2,st2,λb hb=>(f2 b hb).1,w0];rintro n s3 ⟨i,σ3,H3,I3,st3,fr3,w3⟩;rcases turn i n σ3 H3 w3 with ⟨stop,qn⟩|⟨go,N,hN,step⟩
 .refine wpAny_passesOwn hp (thn (T.done X rfl rfl rfl hc i aA s3 σ3 H3 X.xe I3 (stat fr3) st3 stop) λr s4 #[hr,I4]=>?_);subst hr;exact wpAny_execs_nil #[σ3,H3,I4,qn]
 .refine wpAny_passesOwn hp (thn (T.item X rfl rfl rfl hc i aA s3 σ3 H3 X.xe I3 (stat fr3) st3 go) λr s4 #[u,hr,h4]=>?_);subst hr;refine wpAny_passesOwn hp (thn h4 λ_ s5 #[x,H5,I5,r5,y5,st5,fr5]=>?_);have I5':=I5.pinned (stat fr5) (T.obj _ _ st5);refine wpAny_passesOwn hp (thn (hg _ s5 σ3 H5 x u _ I5' r5 (step x H5 y5)) λ_ s6 #[σ6,H6,I6,q6]=>?_);refine wpAny_passesOwn hp (thn (hb _ s6 σ6 H6 _ I6 q6) λf s7 q7=>?_);have again:∀ {σ7:St} {H7:Hp},Inv X (aA++U1 fp s5.heap) σ7 H7 s7->N σ7 H7->∃m,m<n/\∃i σ' H',Inv X aA σ' H' s7/\tn i s7.heap/\(∀b∈fp,H' b=none)/\W i m σ' H':=λ{σ7 H7} I7 n7=>by
   obtain⟨m',hm,w7⟩:=hN σ7 H7 n7;refine#[m',hm,i+1,σ7,H7,I7.unpinned,T.keep _ _ _ st5 λb hb o e=>(I7.pin (b,o) (xA _ (xA _ (TH hb e)))).1,λb hb=>?_,w7];obtain⟨o,e,d⟩:=T.obj _ _ st5 b hb;exact(I7.pin (b,o) (xA _ (xA _ (TH hb e)))).2.1
  cases f with
  | next=>obtain⟨σ7,H7,I7,n7⟩:=q7;exact again I7 n7
  | cont=>obtain⟨σ7,H7,I7,n7⟩:=q7;exact again I7 n7
  | brk=>obtain⟨σ7,H7,I7,q7⟩:=q7;exact#[σ7,H7,I7.unpinned,q7]
  | ret v=>obtain⟨x7,σ7,H7,I7,r7,q7⟩:=q7;exact#[x7,σ7,H7,I7.unpinned,r7,q7]
abbrev R2:=V->V->Hp->VK->Prop
def OpR (X:Cx)(f:Value->Value->Sem Value)(r:R2):Prop:=
 ∀(aA:LA)(s:Shared)(σ:St)(H:Hp)(x y:V)(v u:Value)(Q:VK),Inv X aA σ H s->Zw x v->Zw y u->r x y H Q->
  wpAny (mX X) X.A (f v u) (EP X aA σ Q) X.xe s
def UnR (X:Cx)(f:Value->Sem Value)(r:V->Hp->VK->Prop):Prop:=
 ∀(aA:LA)(s:Shared)(σ:St)(H:Hp)(x:V)(v:Value)(Q:VK),Inv X aA σ H s->Zw x v->r x H Q->
  wpAny (mX X) X.A (f v) (EP X aA σ Q) X.xe s
def Yx (X:Cx)(f:Value)(r:List V->Hp->VK->Prop):Prop:=
 ∀(aA:LA)(s:Shared)(σ:St)(H:Hp)(xs:List V)(us:List Value)(Q:VK),Inv X aA σ H s->Zz xs us->r xs H Q->
  wpAny (mX X) X.A (call f us) (EP X aA σ Q) X.xe s
def TruR (X:Cx)(r:V->Hp->(Bool->Hp->Prop)->Prop):Prop:=
 ∀(aA:LA)(s:Shared)(σ:St)(H:Hp)(x:V)(v:Value)(Q:Bool->Hp->Prop),Inv X aA σ H s->Zw x v->r x H Q->
  wpAny (mX X) X.A (truthy v) (TP X aA σ Q) X.xe s
def tOp (r:R2)(ta tb:TE):TE:=λσ H Q=>ta σ H λx H1=>tb σ H1 λy H2=>r x y H2 Q
def tUn (r:V->Hp->VK->Prop)(ta:TE):TE:=λσ H Q=>ta σ H λx H1=>r x H1 Q
def rI (C:Int->Int->Prop)(g:Int->Int->V):R2:=λx y H Q=>∃i j,x=.int i/\y=.int j/\C i j/\Q (g i j) H
def rI0 (g:Int->Int->V):R2:=λx y H Q=>∃i j,x=.int i/\y=.int j/\Q (g i j) H
def rU (g:Int->V):V->Hp->VK->Prop:=λx H Q=>∃i,x=.int i/\Q (g i) H
theorem binT (ha:PE X a ta)(hb:PE X b tb){aA:LA}{s:Shared}{σ:St}{H:Hp}{R:V->V->Hp->Prop}(I:Inv X aA σ H s)
  (h:ta σ H λx H1=>tb σ H1 λy H2=>R x y H2){Q:Value->Shared->Prop}{f:Value->Value->Sem Value}
  (hf:∀v u s2 x y H2,Inv X aA σ H2 s2->Zw x v->Zw y u->R x y H2->wpAny (mX X) X.A (f v u) Q X.xe s2):
  wpAny (mX X) X.A (eval a X.env) (λv s₁=>wpAny (mX X) X.A (eval b X.env) (λu s₂=>wpAny (mX X) X.A (f v u) Q X.xe s₂) X.xe s₁) X.xe s:=by
 refine thn (ha aA s σ H _ I h) λv s1 #[x,H1,I1,r1,q1]=>?_
 refine thn (hb aA s1 σ H1 _ I1 q1) λu s2 #[y,H2,I2,r2,q2]=>?_
 exact hf v u s2 x y H2 I2 r1 r2 q2
theorem pe_op {op:Operator}{r:R2}(ho:OpR X (binaryOp op) r)(ha:PE X a ta)(hb:PE X b tb):PE X (.BinOp a op b pos) (tOp r ta tb):=by
 intro aA s σ H Q I h;exact wpAny_BinOp (binT ha hb I h λv u s2 x y H2 I2 rx ry q=>ho aA s2 σ H2 x y v u Q I2 rx ry q)
theorem pe_un {op:UnaryOp}{r:V->Hp->VK->Prop}(ho:UnR X (unaryOp op) r)(ha:PE X a ta):PE X (.UnaryOp op a pos) (tUn r ta):=by
 intro aA s σ H Q I h;exact UnaryOp_ (thn (ha aA s σ H _ I h) λv s1 #[x,H1,I1,r1,q1]=>ho aA s1 σ H1 x v Q I1 r1 q1)
theorem opI {f:Value->Value->Sem Value}{C:Int->Int->Prop}{g:Int->Int->Int}
  (rule:∀(i j:Int)(t u:Tok)(s:Shared)(Q:Value->Shared->Prop)(E:Value->Shared->Prop),C i j->Q (.int (g i j) s.toks) { s with toks:=s.toks+1 }->wpAny (mX X) X.A (f (.int i t) (.int j u)) Q E s):
  OpR X f (rI C λi j=>.int (g i j)):=by
 intro aA s σ H x y v u Q I rx ry h;obtain⟨i,j,rfl,rfl,hc,q⟩:=h;obtain⟨t,rfl⟩:=rx;obtain⟨t',rfl⟩:=ry;exact rule i j t t' s _ _ hc #[.int (g i j),H,I.tok _,#[_,rfl],q]
theorem opI0 {f:Value->Value->Sem Value}{g:Int->Int->Int}
  (rule:∀(i j:Int)(t u:Tok)(s:Shared)(Q:Value->Shared->Prop)(E:Value->Shared->Prop),Q (.int (g i j) s.toks) { s with toks:=s.toks+1 }->wpAny (mX X) X.A (f (.int i t) (.int j u)) Q E s):
  OpR X f (rI0 λi j=>.int (g i j)):=by
 intro aA s σ H x y v u Q I rx ry h;obtain⟨i,j,rfl,rfl,q⟩:=h;obtain⟨t,rfl⟩:=rx;obtain⟨t',rfl⟩:=ry;exact rule i j t t' s _ _ #[.int (g i j),H,I.tok _,#[_,rfl],q]
theorem TQ {f:Value->Value->Sem Value}{g:Int->Int->Bool}
  (rule:∀(i j:Int)(t u:Tok)(s:Shared)(Q:Value->Shared->Prop)(E:Value->Shared->Prop),Q (.bool (g i j)) s->wpAny (mX X) X.A (f (.int i t) (.int j u)) Q E s):
  OpR X f (rI0 λi j=>.bl (g i j)):=by
 intro aA s σ H x y v u Q I rx ry h;obtain⟨i,j,rfl,rfl,q⟩:=h;obtain⟨t,rfl⟩:=rx;obtain⟨t',rfl⟩:=ry;exact rule i j t t' s _ _ #[.bl (g i j),H,I,rfl,q]
def SW (i j:Int):Prop:=0<=j/\j<=1000000/\i.natAbs<2^64
theorem Cv:OpR X (binaryOp .Add) (rI0 λi j=>.int (i+j)):=opI0 λ_ _ _ _ _ _ _ q=>add_int q
theorem Jp:OpR X (binaryOp .Sub) (rI0 λi j=>.int (i-j)):=opI0 λ_ _ _ _ _ _ _ q=>sub_int q
theorem Fp:OpR X (binaryOp .Mod) (rI (λ_ j=>0<j) λi j=>.int (i%j)):=opI λi j _ _ _ _ _ hc q=>by
 exact mod_int' (by omega) (by rw[Int.fmod_eq_emod_of_nonneg i (by omega)];exact q)
theorem GG:OpR X (binaryOp .Pow) (rI SW λi j=>.int (i^j.toNat)):=opI λ_ _ _ _ _ _ _ hc q=>pow_int_small hc.1 hc.2.1 hc.2.2 q
theorem FK:OpR X (binaryOp .LShift) (rI SW λi j=>.int (i*2^j.toNat)):=opI λ_ _ _ _ _ _ _ hc q=>lshift_int_small hc.1 hc.2.1 hc.2.2 q
theorem unI {f:Value->Sem Value}{g:Int->Int}
  (rule:∀(i:Int)(t:Tok)(s:Shared)(Q:Value->Shared->Prop)(E:Value->Shared->Prop),Q (.int (g i) s.toks) { s with toks:=s.toks+1 }->wpAny (mX X) X.A (f (.int i t)) Q E s):
  UnR X f (rU λi=>.int (g i)):=by
 intro aA s σ H x v Q I rx h;obtain⟨i,rfl,q⟩:=h;obtain⟨t,rfl⟩:=rx;exact rule i t s _ _ #[.int (g i),H,I.tok _,#[_,rfl],q]
theorem zap:UnR X (unaryOp .USub) (rU λi=>.int (-i)):=unI λ_ _ _ _ _ q=>neg_int q
def Sy:V->V->Bool
 | .non,.non=>true|.non,.int _=>true|.int _,.non=>true|.non,.bl _=>true|.bl _,.non=>true|.non,.str _=>true|.str _,.non=>true
 | .int _,.int _=>true|.bl _,.bl _=>true|.str _,.str _=>true|.byt _,.byt _=>true
 | .int _,.str _=>true|.str _,.int _=>true|.bl _,.str _=>true|.str _,.bl _=>true
 | _,_=>false
def rEq:R2:=λx y H Q=>Sy x y=true/\Q (.bl (decide (x=y))) H
def rNe:R2:=λx y H Q=>Sy x y=true/\Q (.bl (!decide (x=y))) H
theorem O4:decide (V.int i=V.int j)=(i==j):=by
 rw[xK];simp
theorem OB:decide (V.bl i=V.bl j)=(i==j):=by
 rw[xK];simp
theorem Nj:decide (V.str i=V.str j)=(i==j):=by
 rw[xK];simp
theorem LU:decide (V.byt i=V.byt j)=(i.toList==j.toList):=by
 rw[xK];cases i;cases j;simp
theorem Z5 (I:Inv X aA σ H s)(q:Q (.bl k) H)(e:k=k'):EP X aA σ Q (.bool k') s:=by
 subst e;exact#[.bl k,H,I,rfl,q]
theorem QR:OpR X (compareOp .Eq) rEq:=by
 intro aA s σ H x y v u Q I rx ry h;obtain⟨hs,q⟩:=h;cases x with
 | non=>
  cases rx;cases y with
  | non=>cases ry;exact PySem.EqNone.eq_none_none (Z5 I q (by simp))
  | bl j=>cases ry;exact PySem.EqNone.eq_none_bool (Z5 I q (by simp))
  | int j=>obtain⟨t',rfl⟩:=ry;exact PySem.EqNone.eq_none_int (Z5 I q (by simp))
  | str j=>obtain⟨t',rfl⟩:=ry;exact PySem.EqNone.eq_none_str (Z5 I q (by simp))
  | _=>exact absurd (show false=true from hs) zR
 | bl i=>
  cases rx;cases y with
  | non=>cases ry;exact PySem.EqNone.eq_bool_none (Z5 I q (by simp))
  | bl j=>cases ry;exact eq_bool (Z5 I q OB)
  | str j=>obtain⟨t',rfl⟩:=ry;exact PySem.EqMixed.eq_bool_str (Z5 I q (by simp))
  | _=>exact absurd (show false=true from hs) zR
 | int i=>
  obtain⟨t,rfl⟩:=rx;cases y with
  | non=>cases ry;exact PySem.EqNone.eq_int_none (Z5 I q (by simp))
  | int j=>obtain⟨t',rfl⟩:=ry;exact eq_int (Z5 I q O4)
  | str j=>obtain⟨t',rfl⟩:=ry;exact PySem.EqMixed.eq_int_str (Z5 I q (by simp))
  | _=>exact absurd (show false=true from hs) zR
 | str i=>
  obtain⟨t,rfl⟩:=rx;cases y with
  | non=>cases ry;exact PySem.EqNone.eq_str_none (Z5 I q (by simp))
  | bl j=>cases ry;exact PySem.EqMixed.eq_str_bool (Z5 I q (by simp))
  | int j=>obtain⟨t',rfl⟩:=ry;exact PySem.EqMixed.eq_str_int (Z5 I q (by simp))
  | str j=>obtain⟨t',rfl⟩:=ry;exact eq_str (Z5 I q Nj)
  | _=>exact absurd (show false=true from hs) zR
 | byt i=>
  obtain⟨t,rfl⟩:=rx;cases y with
  | byt j=>obtain⟨t',rfl⟩:=ry;exact W.eq_bytes (Z5 I q LU)
  | _=>exact absurd (show false=true from hs) zR
 | _=>cases y<;>exact absurd (show false=true from hs) zR
theorem op_ne:OpR X (compareOp .NotEq) rNe:=by
 intro aA s σ H x y v u Q I rx ry h;obtain⟨hs,q⟩:=h;cases x with
 | non=>
  cases rx;cases y with
  | non=>cases ry;exact PySem.EqNone.ne_none_none (Z5 I q (by simp))
  | bl j=>cases ry;exact PySem.EqNone.ne_none_bool (Z5 I q (by simp))
  | int j=>obtain⟨t',rfl⟩:=ry;exact PySem.EqNone.ne_none_int (Z5 I q (by simp))
  | str j=>obtain⟨t',rfl⟩:=ry;exact PySem.EqNone.ne_none_str (Z5 I q (by simp))
  | _=>exact absurd (show false=true from hs) zR
 | bl i=>
  cases rx;cases y with
  | non=>cases ry;exact PySem.EqNone.ne_bool_none (Z5 I q (by simp))
  | bl j=>cases ry;exact ne_bool (Z5 I q (congrArg not OB))
  | str j=>obtain⟨t',rfl⟩:=ry;exact PySem.EqMixed.ne_bool_str (Z5 I q (by simp))
  | _=>exact absurd (show false=true from hs) zR
 | int i=>
  obtain⟨t,rfl⟩:=rx;cases y with
  | non=>cases ry;exact PySem.EqNone.ne_int_none (Z5 I q (by simp))
  | int j=>obtain⟨t',rfl⟩:=ry;exact ne_int (Z5 I q (congrArg not O4))
  | str j=>obtain⟨t',rfl⟩:=ry;exact PySem.EqMixed.ne_int_str (Z5 I q (by simp))
  | _=>exact absurd (show false=true from hs) zR
 | str i=>
  obtain⟨t,rfl⟩:=rx;cases y with
  | non=>cases ry;exact PySem.EqNone.ne_str_none (Z5 I q (by simp))
  | bl j=>cases ry;exact PySem.EqMixed.ne_str_bool (Z5 I q (by simp))
  | int j=>obtain⟨t',rfl⟩:=ry;exact PySem.EqMixed.ne_str_int (Z5 I q (by simp))
  | str j=>obtain⟨t',rfl⟩:=ry;exact ne_str (Z5 I q (congrArg not Nj))
  | _=>exact absurd (show false=true from hs) zR
 | byt i=>
  obtain⟨t,rfl⟩:=rx;cases y with
  | byt j=>obtain⟨t',rfl⟩:=ry;exact W.ne_bytes (Z5 I q (congrArg not LU))
  | _=>exact absurd (show false=true from hs) zR
 | _=>cases y<;>exact absurd (show false=true from hs) zR
theorem op_lt:OpR X (compareOp .Lt) (rI0 λi j=>.bl (decide (i<j))):=TQ λ_ _ _ _ _ _ _ q=>lt_int q
theorem op_le:OpR X (compareOp .LtE) (rI0 λi j=>.bl (decide (i<=j))):=TQ λ_ _ _ _ _ _ _ q=>le_int q
theorem op_gt:OpR X (compareOp .Gt) (rI0 λi j=>.bl (decide (j<i))):=TQ λ_ _ _ _ _ _ _ q=>gt_int q
theorem op_ge:OpR X (compareOp .GtE) (rI0 λi j=>.bl (decide (j<=i))):=TQ λ_ _ _ _ _ _ _ q=>ge_int q
theorem EZ:OpR X (compareOp .Is) (λx y H Q=>y=.non/\Q (.bl (decide (x=.non))) H):=by
 intro aA s σ H x y v u Q I rx ry h;obtain⟨rfl,q⟩:=h;cases ry;refine is_none_gen (Z5 I q ?_);cases x<;>first
  | (cases rx;rfl)
  | (obtain⟨t,rfl⟩:=rx;rfl)
theorem BG:OpR X (compareOp .IsNot) (λx y H Q=>y=.non/\Q (.bl (!decide (x=.non))) H):=by
 intro aA s σ H x y v u Q I rx ry h;obtain⟨rfl,q⟩:=h;cases ry;refine isnot_none_gen (Z5 I q ?_);cases x<;>first
  | (cases rx;rfl)
  | (obtain⟨t,rfl⟩:=rx;rfl)
theorem Zl (b:Expr)(h:op≠.In:=by decide)(h2:op≠.NotIn:=by decide):behindInMarks op b=false:=by
 have e1:(op==CmpOp.In)=false:=by cases op<;>first|rfl|exact absurd rfl h
 have e2:(op==CmpOp.NotIn)=false:=by cases op<;>first|rfl|exact absurd rfl h2
 cases b<;>simp[behindInMarks,e1,e2]
theorem IY {op:CmpOp}{r:R2}(ho:OpR X (compareOp op) r)(ha:PE X a ta)(hb:PE X b tb)(hm:behindInMarks op b=false):PE X (.Compare a [op] [b] pos) (tOp r ta tb):=by
 intro aA s σ H Q I h;exact wpAny_Compare1 (binT ha hb I h λv u s2 x y H2 I2 rx ry q=>ho aA s2 σ H2 x y v u Q I2 rx ry q) hm
def Lb (t:TE):TT:=λσ H Q=>t σ H λx H'=>∃k,x=.bl k/\Q k H'
theorem DG {op:CmpOp}{r:R2}(ho:OpR X (compareOp op) r)(ha:PE X a ta)(hb:PE X b tb)(hm:behindInMarks op b=false):PT X (.Compare a [op] [b] pos) (Lb (tOp r ta tb)):=by
 intro aA s σ H Q I h;refine wpAny_isTrue_Compare1 (thn (ha aA s σ H _ I h) λv s1 #[x,H1,I1,r1,q1]=>thn (hb aA s1 σ H1 _ I1 q1) λu s2 #[y,H2,I2,r2,q2]=>
  thn (ho aA s2 σ H2 x y v u _ I2 r1 r2 q2) λc s3 #[z,H3,I3,r3,k,e,q3]=>?_) hm
 subst e;cases r3;exact wpAny_truthy_bool #[H3,I3,q3]
def PH (r r':R2)(ta tb tc:TE):TE:=λσ H Q=>ta σ H λx H1=>tb σ H1 λy H2=>r x y H2 λz H3=>∃k,z=.bl k/\
 (if k=true then tc σ H3 λw' H4=>r' y w' H4 Q else Q (.bl false) H3)
theorem zak {op op':CmpOp}{r r':R2}(ho:OpR X (compareOp op) r)(ho':OpR X (compareOp op') r')(ha:PE X a ta)(hb:PE X b tb)(hc:PE X c tc)
  (hm:lastMarks [op,op'] [b,c]=false:=by with_unfolding_all rfl):PE X (.Compare a [op,op'] [b,c] pos) (PH r r' ta tb tc):=by
 intro aA s σ H Q I h;refine Compare_chain (thn (ha aA s σ H _ I h) λv s1 #[x,H1,I1,r1,q1]=>chain_link (thn (hb aA s1 σ H1 _ I1 q1) λu s2 #[y,H2,I2,r2,q2]=>
  thn (ho aA s2 σ H2 x y v u _ I2 r1 r2 q2) λd s3 #[z,H3,I3,r3,k,e,q3]=>?_)) hm
 subst e;cases r3;refine wpAny_truthy_bool ?_;cases k with
 | false=>exact ite_ff #[.bl false,H3,I3,rfl,q3]
 | true=>exact ite_tt (chain_last (thn (hc aA s3 σ H3 _ I3 q3) λw' s4 #[z',H4,I4,r4,q4]=>ho' aA s4 σ H4 y z' u w' Q I4 r2 r4 q4))
theorem Ie {op op':CmpOp}{r r':R2}(ho:OpR X (compareOp op) r)(ho':OpR X (compareOp op') r')(ha:PE X a ta)(hb:PE X b tb)(hc:PE X c tc)
  (hm:lastMarks [op,op'] [b,c]=false:=by with_unfolding_all rfl):PT X (.Compare a [op,op'] [b,c] pos) (Lb (PH r r' ta tb tc)):=by
 intro aA s σ H Q I h;refine isTrue_chain (thn (ha aA s σ H _ I h) λv s1 #[x,H1,I1,r1,q1]=>test_link (thn (hb aA s1 σ H1 _ I1 q1) λu s2 #[y,H2,I2,r2,q2]=>
  thn (ho aA s2 σ H2 x y v u _ I2 r1 r2 q2) λd s3 #[z,H3,I3,r3,k,e,q3]=>?_)) hm
 subst e;cases r3;refine wpAny_truthy_bool ?_;cases k with
 | false=>
  obtain⟨k',e',q'⟩:=q3;cases e';exact ite_ff #[H3,I3,q']
 | true=>
  refine ite_tt (test_last (thn (hc aA s3 σ H3 _ I3 q3) λw' s4 #[z',H4,I4,r4,q4]=>thn (ho' aA s4 σ H4 y z' u w' _ I4 r2 r4 q4) λd' s5 #[z2,H5,I5,r5,k2,e2,q5]=>?_));subst e2;cases r5;exact wpAny_truthy_bool #[H5,I5,q5]
def TruV (K:Fg)(x:V)(H:Hp)(k:Bool):Prop:=
 match x with
 | .non=>k=false
 | .bl b=>k=b
 | .int i=>k=(i != 0)
 | .str y=>y.length<=sizeLine/\k=((y.length:Int) != 0)
 | .byt y=>y.size<=sizeLine/\k=((y.size:Int) != 0)
 | .ref p=>(∃xs,SqL K H p xs/\k=!xs.isEmpty)\/(∃xs,SqT K H p xs/\k=!xs.isEmpty)\/∃kvs,H p=some (.dK kvs)/\k=!kvs.isEmpty
 | _=>False
theorem CH (r:KV kvs vs):(!vs.isEmpty)=!kvs.isEmpty:=by
 cases r<;>rfl
theorem OK (r:Zz xs aY):(!aY.toArray.isEmpty)=!xs.isEmpty:=by
 cases r<;>simp
theorem VR:(sizeLine:Nat)<2^63:=by rw[sizeLine_eq];decide
theorem F0:TruR X (λx H Q=>∃k,TruV X.K x H k/\Q k H):=by
 intro aA s σ H x v Q I rx h;obtain⟨k,e,q⟩:=h;have hl:=VR
 have hs:sizeLine=16777216:=sizeLine_eq;cases x with
 | non=>
  cases rx;have e':k=false:=e;subst e';exact truthy_none #[H,I,q]
 | bl b=>
  cases rx;have e':k=b:=e;subst e';exact wpAny_truthy_bool #[H,I,q]
 | int i=>
  obtain⟨t,rfl⟩:=rx;have e':k=(i != 0):=e;subst e';exact PySem.P.truthy_int #[H,I,q]
 | str y=>
  obtain⟨t,rfl⟩:=rx;obtain⟨hy,e'⟩:y.length<=sizeLine/\k=((y.length:Int) != 0):=e;subst e';exact PySem.P.truthy_str (by omega) #[H,I.tok _,q]
 | byt y=>
  obtain⟨t,rfl⟩:=rx;obtain⟨hy,e'⟩:y.size<=sizeLine/\k=((y.size:Int) != 0):=e;subst e';exact W.truthy_bytes (by omega) #[H,I.tok _,q]
 | ref p=>
  cases rx;have e':(∃xs,SqL X.K H p xs/\k=!xs.isEmpty)\/(∃xs,SqT X.K H p xs/\k=!xs.isEmpty)\/∃kvs,H p=some (.dK kvs)/\k=!kvs.isEmpty:=e;rcases e' with ⟨xs,hx,e'⟩|⟨xs,hx,e'⟩|⟨kvs,hx,e'⟩
  .subst e';obtain⟨aY,r,pl,hz⟩:=I.list hx;have aQ:=r.length;exact wpAny_truthy_list pl.isList (by simp only[zI];omega) #[H,I.tok _,by rw[OK r];exact q]
  .subst e';obtain⟨aY,r,pl,hz⟩:=I.tuple hx;have aQ:=r.length;exact truthy_tuple pl (by simp only[zI];omega) #[H,I.tok _,by rw[OK r];exact q]
  .subst e';obtain⟨hz,hS,vs,r,m⟩:kvs.length<=sizeLine/\(p==sysModules)=false/\∃vs,KV kvs vs/\s.heap.DictOf (Xb X.prog X.w) p vs:=I.hok p _ hx;have aQ:kvs.length=vs.length:=Paired.length r;exact wpAny_truthy_dict hS m (by omega) #[H,I.tok _,by rw[CH r];exact q]
 | _=>exact(show False from e).elim
theorem Es (ha:PE X a ta)(he:∀aU,isTrue a X.env aU=(do let v <- aU;standAt a.pos;holding [v] (truthy v))):
  PT X a (λσ H Q=>ta σ H λx H'=>∃k,TruV X.K x H' k/\Q k H'):=by
 intro aA s σ H Q I h;exact isTrue_plain (thn (ha aA s σ H _ I h) λv s1 #[x,H1,I1,r1,q1]=>F0 aA s1 σ H1 x v Q I1 r1 q1) (he _)
theorem Wq (r:Zz [x] us):∃u,us=[u]/\Zw x u:=by
 cases r with
 | cons r1 r2=>cases r2;exact#[_,rfl,r1]
theorem OZ (r:Zz [x,y] us):∃u w',us=[u,w']/\Zw x u/\Zw y w':=by
 cases r with
 | cons r1 r2=>
  cases r2 with
  | cons r3 r4=>cases r4;exact#[_,_,rfl,r1,r3]
theorem CI:Yx X (.builtin "abs") (λxs H Q=>∃i,xs=[.int i]/\Q (.int (if i<0 then -i else i)) H):=by
 intro aA s σ H xs us Q I r h;obtain⟨i,rfl,q⟩:=h;obtain⟨u,rfl,t,rfl⟩:=Wq r;exact call_abs_int λu tk=>#[.int (if i<0 then -i else i),H,I.tok _,#[_,rfl],q]
theorem GW (hc:X.calm=true):Yx X (.builtin "max") (λxs H Q=>∃i j,xs=[.int i,.int j]/\Q (.int (if j > i then j else i)) H):=by
 intro aA s σ H xs us Q I r h;obtain⟨i,j,rfl,q⟩:=h;obtain⟨u,w',rfl,⟨t,rfl⟩,⟨t',rfl⟩⟩:=OZ r;refine max_two_ints (I.ok.hd hc) λh' tk k=>#[_,H,I.kept k,?_,q]
 by_cases hj:j > i
 .rw[if_pos hj,if_pos hj];exact#[_,rfl]
 .rw[if_neg hj,if_neg hj];exact#[_,rfl]
theorem F5 (hc:X.calm=true):Yx X (.builtin "min") (λxs H Q=>∃i j,xs=[.int i,.int j]/\Q (.int (if j<i then j else i)) H):=by
 intro aA s σ H xs us Q I r h;obtain⟨i,j,rfl,q⟩:=h;obtain⟨u,w',rfl,⟨t,rfl⟩,⟨t',rfl⟩⟩:=OZ r;refine min_two_ints (I.ok.hd hc) λh' tk k=>#[_,H,I.kept k,?_,q]
 by_cases hj:j<i
 .rw[if_pos hj,if_pos hj];exact#[_,rfl]
 .rw[if_neg hj,if_neg hj];exact#[_,rfl]
structure Vg (h:Heap)(x dx C:Addr)(mA:Str->Option Value):Prop where
 obj:h.get? x=some (W.instObj C dx)
 ns:h.Ns1 dx mA
 ne:dx≠x
theorem DS {h:Heap}{dx:Addr}{mA:Str->Option Value}(n:h.Ns1 dx mA):∃od,h.get? dx=some od/\∀name,W.lookIn name od=some (mA name):=by
 obtain⟨o,es,ep,ho,hd,hk,_,hm⟩:=n;refine#[o,ho,λname=>?_];have e:=hm name;unfold nsFind findBy at e;rw[<- Array.find?_toList] at e;unfold W.lookIn;rw[hd];dsimp only;split
 .rename_i y q;rw[q] at e;exact congrArg some e
 .rename_i q;rw[q] at e;have a:es.toList.any (·.refKey)=false:=by
   rw[List.any_eq_false];intro y hy;obtain⟨z,t,hkey⟩:=hk y (Array.mem_toList_iff.mp hy);simp[DictEntry.refKey,hkey]
  have a':¬ es.toList.any (·.refKey)=true:=by rw[a];exact zR
  rw[if_neg a'];exact congrArg some e
theorem Vg.look (I:Vg h x dx C mA):∃od,W.InstAt h x (W.instObj C dx) C (some od)/\∀name,W.lookIn name od=some (mA name):=
 let #[od,ho,hl]:=DS I.ns
 #[od,#[I.obj,rfl,rfl,ho],hl]
section
variable {prog:Program}{w:World}{A:Around}{E:Value->Shared->Prop}{s:Shared}{K:Fg}{x dx C f:Addr}{mA:Str->Option Value}{name:Str}{v:Value}
theorem Fv (X:K.In s.heap)(I:Vg s.heap x dx C mA)(hg:W.plainGet K C name=true)(hh:W.hasDictIn K C=true)(ha:W.findIn K (.ref C) name=some none)(hv:mA name=some v)(hv':W.handedIn v=true)(h:Q v { s with toks:=s.toks+1 }):
  wpAny (model prog w) A (getAttr (.ref x) name expr) Q E s:=by
 obtain⟨od,J,hl⟩:=I.look;exact W.get_value X J (W.plainGet_of hg).1 (W.findObj_own hh ha rfl (by rw[hl,hv])) hv' h
theorem GI (X:K.In s.heap)(I:Vg s.heap x dx C mA)(hg:W.plainGet K C name=true)(hf:W.findIn K (.ref C) name=some (some (.ref f)))(ht:W.isFn K (.ref f)=true)(hv:mA name=none)(h:Q (.ref f,[.ref x]) s):
  wpAny (model prog w) A (getMethod (.ref x) name pl) Q E s:=by
 obtain⟨od,J,hl⟩:=I.look;exact W.method_fn X J (W.plainGet_of hg).1 (W.plainGet_of hg).2 hf (beq_iff_eq.mp ht) (by show (W.lookIn name od).map (·.isSome)=some false;rw[hl,hv];rfl) h
theorem KL (X:K.In s.heap)(I:Vg s.heap x dx C mA)(hs:W.findIn K (.ref C) "__setattr__"=some (some (.builtin "object.__setattr__")))(hp:W.plainOver K C=true)(ht:W.takerIn K C name=some none)(hh:W.hasDictIn K C=true)(hw:PySem.Within mA ns)(hsz:ns.length<=sizeLine)(h:∀h',Vg h' x dx C (λy=>if y=name then some v else mA y)->Heap.SameBut dx s.heap h'->Q Unit.unit { s with heap:=h',toks:=s.toks+2 }):
  wpAny (model prog w) A (setAttr (.ref x) name v) Q E s:=by
 obtain⟨od,J,hl⟩:=I.look;refine W.set_plain X J hs (W.osa_open X J hp ht λb=>?_);obtain⟨cd,hc,hd'⟩:=W.any_some hh;have hx:s.heap.get? x=some #[.ref C,some dx,.plain,(List.toArray [])]:=I.obj;refine wpAny_bind (wpAny_pure (wpAny_bind (wpAny_bind (wpAny_loadPart hx (wpAny_bind (W.Looks.here (W.looks_clsIn X hc) ?_))))));rw[hd'];refine wpAny_pure (wpAny_bind (wpAny_pure (wpAny_bind ?_)));refine wpAny_nsSet1 I.ns λh' hn2 hs2=>?_
 obtain⟨oD,esD,epD,hoD,hdD,hcD⟩:=hn2.count (PySem.Within.cons name v hw);refine wpAny_bind (wpAny_lookBehind hoD (by rw[hdD];exact pastItsLine_dict (yJ hcD (by rw[yE];omega))) ?_);exact wpAny_pure (h _ #[(hs2.2 _ (Ne.symm I.ne)).trans I.obj,hn2,I.ne] hs2)
theorem L6 (X:K.In s.heap)(hm:W.makesIn K C=true)(hi:W.findIn K (.ref C) "__init__"=some (some (.ref f)))(hf:W.typeIn K (.ref f)=some (.type "function"))(h:codeAny (model prog w) (A.under (.builtin "type.__call__" #[.ref C::vs,kw])) (.call (.ref f) #[.ref (s.heap.objs.size+1)::vs,kw]) (W.InitBack (s.heap.objs.size+1) R)
   { s with heap:=(s.heap.push W.emptyDict).push (W.instObj C s.heap.objs.size) }):
  codeAny (model prog w) A (.call (.ref C) #[vs,kw]) R s:=by
 obtain⟨hh,g,d,t,os⟩:=s;exact W.make_core (W.makes_of X hm) (W.looks_findIn X hi) (λself=>W.bind_fn X self hf) (.inl rfl) h
end
def YO (f:Str)(v:V):List (Str×V)->List (Str×V)
 | []=>[(f,v)]
 | (g,x)::r=>if g=f then (g,v)::r else (g,x)::YO f v r
theorem Ol (f g:Str)(v:V):∀fs:List (Str×V),(YO f v fs).lookup g=if g=f then some v else fs.lookup g
 | []=>by
  show List.lookup g [(f,v)]=_;by_cases h:g=f
  .have hb:(g==f)=true:=beq_iff_eq.mpr h;simp only[List.lookup,hb,if_pos h]
  .have hb:(g==f)=false:=beq_eq_false_iff_ne.mpr h;simp only[List.lookup,hb,if_neg h]
 | (k,x)::r=>by
  have ih:=Ol f g v r;rw[show YO f v ((k,x)::r)=(if k=f then (k,v)::r else (k,x)::YO f v r) from rfl];by_cases hk:k=f
  .rw[if_pos hk];by_cases h:g=k
   .have hb:(g==k)=true:=beq_iff_eq.mpr h;simp only[List.lookup,hb,if_pos (h.trans hk)]
   .have hb:(g==k)=false:=beq_eq_false_iff_ne.mpr h;simp only[List.lookup,hb,if_neg (λe:g=f=>h (e.trans hk.symm))]
  .rw[if_neg hk];by_cases h:g=k
   .have hb:(g==k)=true:=beq_iff_eq.mpr h;simp only[List.lookup,hb,if_neg (λe:g=f=>hk (h.symm.trans e))]
   .have hb:(g==k)=false:=beq_eq_false_iff_ne.mpr h;simp only[List.lookup,hb];exact ih
theorem RX (f:Str)(v:V):∀fs:List (Str×V),f∈(YO f v fs).map (·.1)/\∀g,g∈fs.map (·.1)->g∈(YO f v fs).map (·.1)
 | []=>#[by simp[YO],λg h=>by simp at h]
 | (k,x)::r=>by
  obtain⟨i1,i2⟩:=RX f v r;rw[show YO f v ((k,x)::r)=(if k=f then (k,v)::r else (k,x)::YO f v r) from rfl];by_cases hk:k=f
  .rw[if_pos hk];subst hk;exact#[by simp,λg h=>by simpa using h]
  .rw[if_neg hk];refine#[?_,λg h=>?_]
   .rw[yL];exact yS _ i1
   .rw[yL] at h ⊢;rcases zT.mp h with e|e
    .exact zT.mpr (.inl e)
    .exact yS _ (i2 g e)
theorem Nh (f:Str)(v:V):∀fs:List (Str×V),(YO f v fs).length<=fs.length+1
 | []=>by simp[YO]
 | (k,x)::r=>by
  have ih:=Nh f v r;rw[show YO f v ((k,x)::r)=(if k=f then (k,v)::r else (k,x)::YO f v r) from rfl];by_cases hk:k=f
  .rw[if_pos hk,yE,yE];omega
  .rw[if_neg hk,yE,yE];omega
theorem Y8.some_of (r:Y8 (some v) o):∃u,o=some u/\Zw v u:=by
 cases o with
 | none=>exact(show False from r).elim
 | some u=>exact#[u,rfl,r]
theorem Y8.none_of (r:Y8 none o):o=none:=by
 cases o with
 | none=>rfl
 | some u=>exact(show False from r).elim
theorem EH (r:Zw v u):W.handedIn u=true:=by
 cases v with
 | non=>cases (show u=Value.none from r);rfl
 | bl b=>cases (show u=Value.bool b from r);rfl
 | int i=>obtain⟨t,e⟩:=(show ∃t,u=Value.int i t from r);cases e;rfl
 | str x=>obtain⟨t,e⟩:=(show ∃t,u=Value.str x t from r);cases e;rfl
 | byt b=>obtain⟨t,e⟩:=(show ∃t,u=Value.bytes b t from r);cases e;rfl
 | flt b=>obtain⟨t,e⟩:=(show ∃t,u=Value.float b t from r);cases e;rfl
 | ref a=>cases (show u=Value.ref a from r);rfl
 | ty n=>cases (show u=Value.type n from r);rfl
theorem Oa (hok:HOk P w H h)(e:H a=some (.ins C dx fs)):∃mA,Vg h a dx C mA/\(∀f,Y8 (fs.lookup f) (mA f))/\PySem.Within mA (fs.map (·.1))/\fs.length<=1000/\H dx=some (.own a):=by
 obtain⟨d,z,ne,ob,mA,n,r,q⟩:=(show YF P w H h a (.ins C dx fs) from hok a _ e);exact#[mA,#[ob,n,ne],r,q,z,d]
structure Cls (K:Fg)(C:Addr):Prop where
 pg:W.plainGet K C Str.empty=true
 hd:W.hasDictIn K C=true
 po:W.plainOver K C=true
 sa:W.findIn K (.ref C) "__setattr__"=some (some (.builtin "object.__setattr__"))
theorem Cls.get {K:Fg}{C:Addr}(c:Cls K C)(f:Str):W.plainGet K C f=true:=c.pg
def Yv (K:Fg)(C:Addr)(f:Str):Prop:=W.findIn K (.ref C) f=some none
theorem Yv.taker {K:Fg}{C:Addr}{f:Str}(n:Yv K C f):W.takerIn K C f=some none:=by
 unfold W.takerIn;rw[show W.findIn K (.ref C) f=some none from n];rfl
structure Con (K:Fg)(C:Addr)(f:Str)(v:V)(u:Value):Prop where
 at_:W.findIn K (.ref C) f=some (some u)
 bA:Zw v u
 get:W.specialIn K u "__get__"=some none
 cp:W.copiedNames.contains f=false
structure W0 (K:Fg)(C:Addr)(m:Str)(f:Addr):Prop where
 at_:W.findIn K (.ref C) m=some (some (.ref f))
 fn:W.isFn K (.ref f)=true
 kp:W.keepIn K (.ref f)=true
theorem CK (I:Inv X aA σ H s)(e:H a=some (.ins C dx fs))(c:Cls X.K C)(n:Yv X.K C f)(l:fs.lookup f=some v)(h:∀u s',Inv X aA σ H s'->Zw v u->Q u s'):wpAny (mX X) A (getAttr (.ref a) f b) Q E s:=by
 obtain⟨mA,O,r,_,_,_⟩:=Oa I.hok e;obtain⟨u,hu,ru⟩:=Y8.some_of (by rw[<- l];exact r f);exact Fv I.kIn O (c.get f) c.hd n hu (EH ru) (h u _ (I.tok _) ru)
theorem PM (I:Inv X aA σ H s)(e:H a=some (.ins C dx fs))(c:Cls X.K C)(k:W0 X.K C m g)(l:fs.lookup m=none)(h:Q (.ref g,[.ref a]) s):wpAny (mX X) A (getMethod (.ref a) m pl) Q E s:=by
 obtain⟨mA,O,r,_,_,_⟩:=Oa I.hok e;have hn:mA m=none:=Y8.none_of (by rw[<- l];exact r m);exact GI I.kIn O (c.get m) k.at_ k.fn hn h
theorem Au (I:Inv X aA σ H s)(e:H a=some (.ins C dx fs))(c:Cls X.K C)(n:Yv X.K C f)(hl:fs.length<1000)(ry:Zw y u)(h:∀s',Inv X aA σ (upd H a (.ins C dx (YO f y fs))) s'->Q Unit.unit s'):wpAny (mX X) A (setAttr (.ref a) f u) Q E s:=by
 obtain⟨mA,O,r,wi,_,ho⟩:=Oa I.hok e;have hz:(fs.map (·.1)).length<=sizeLine:=by rw[zB,sizeLine_eq];omega
 refine KL I.kIn O c.sa c.po n.taker c.hd wi hz λh' O' sb=>h _ ?_
 have hd:∃o,h'.get? dx=some o:=let #[o,_,_,e',_]:=O'.ns;#[o,e']
 refine I.write (by rw[e];exact True.intro) (.inr ho) (λb q hb z=>(sb.2 b hb).trans z) hd ?_;refine#[by rw[ZV O.ne];exact ho,?_,O.ne,O'.obj,_,O'.ns,λg=>?_,λg hg=>?_]
 .have:=Nh f y fs;omega
 .show Y8 ((YO f y fs).lookup g) (if g=f then some u else mA g);rw[Ol];by_cases q:g=f
  .rw[if_pos q,if_pos q];exact ry
  .rw[if_neg q,if_neg q];exact r g
 .by_cases q:g=f
  .rw[q];exact(RX f y fs).1
  .refine(RX f y fs).2 g (wi g λz=>hg ?_);show (if g=f then some u else mA g)=none;rw[if_neg q];exact z
theorem Inv.made (I:Inv X aA σ H s):Inv X aA σ (upd (upd H s.heap.objs.size (.own (s.heap.objs.size+1))) (s.heap.objs.size+1) (.ins C s.heap.objs.size []))
  { s with heap:=(s.heap.push W.emptyDict).push (W.instObj C s.heap.objs.size) }:=by
 have e1:(s.heap.push W.emptyDict).get? s.heap.objs.size=some W.emptyDict:=Heap.get?_push_size s.heap rfl
 have e2:((s.heap.push W.emptyDict).push (W.instObj C s.heap.objs.size)).get? (s.heap.objs.size+1)=some (W.instObj C s.heap.objs.size):=by
  have:=Heap.get?_push_size (s.heap.push W.emptyDict) (o:=W.instObj C s.heap.objs.size) rfl
  rwa [Heap.size_push] at this
 have e3:(s.heap.push W.emptyDict).Ns s.heap.objs.size (λ_=>none):=#[W.emptyDict,(List.toArray []),_,e1,rfl,(λe he=>absurd he (by simp)),λ_=>rfl]
 have I1:=I.laid (o:=.own (s.heap.objs.size+1)) (t':=s.toks) (λb u q=>Heap.get?_push_of_some _ q) (zA _) #[_,e1];refine I1.laid (λb u q=>Heap.get?_push_of_some _ q) (Nat.le_of_eq (Heap.size_push _ _)) ?_;have ne:s.heap.objs.size≠s.heap.objs.size+1:=zN (vD _);refine#[by rw[ZV ne,Yz],zL _,ne,e2,λ_=>none,(Heap.Ns1.of_empty e3).at λo q=>Heap.get?_push_of_some _ q,λ_=>True.intro,λy hy=>absurd rfl hy]
theorem G6 (hb:attributeBase e f env (eval e env)=eval e env)(h:wpAny (model prog w) A (eval e env) (λo s₁=>wpAny (model prog w) A (getAttr o f true) Q E s₁) E s):wpAny (model prog w) A (eval (.Attribute e f pos) env) Q E s:=
 Attribute_any_ h (by rw[arm_eval_Attribute,hb])
def tFld (K:Fg)(ta:TE)(f:Str):TE:=λσ H Q=>ta σ H λx H1=>∃a C dx fs v,x=.ref a/\H1 a=some (.ins C dx fs)/\Cls K C/\Yv K C f/\fs.lookup f=some v/\Q v H1
def sFld (K:Fg)(ta tv:TE)(f:Str):TS:=λD σ H=>tv σ H λy H1=>ta σ H1 λx H2=>∃a C dx fs,x=.ref a/\H2 a=some (.ins C dx fs)/\Cls K C/\Yv K C f/\fs.length<1000/\
 D.nx σ (upd H2 a (.ins C dx (YO f y fs)))
theorem F3 (he:PE X e ta)(hb:attributeBase e f X.env (eval e X.env)=eval e X.env):PE X (.Attribute e f pos) (tFld X.K ta f):=by
 intro aA s σ H Q I h;refine G6 hb (thn (he aA s σ H _ I h) λu s1 #[x,H1,I1,rx,a,C,dx,fs,v,ex,ea,c,n,l,q]=>?_);subst ex;obtain rfl:u=Value.ref a:=rx;exact CK I1 ea c n l λu' s2 I2 ru=>#[v,H1,I2,ru,q]
theorem CW (ha:PE X o ta)(hv:PE X value tv)(hs:swapsWith value (some (.Attribute o f pos')) pos.line X.env=pure false):PS X (.Assign [.Attribute o f pos'] value pos) (sFld X.K ta tv f):=by
 intro aA s σ H D I h;refine plainObj_wpAny_Assign_Attribute (thn (hv aA s σ H _ I h) λu s1 #[y,H1,I1,ry,q]=>thn (ha aA s1 σ H1 _ I1 q) λov s2 #[x,H2,I2,rx,a,C,dx,fs,ex,ea,c,n,l,q2]=>?_) hs;subst ex;obtain rfl:ov=Value.ref a:=rx;exact Au I2 ea c n l ry λs3 I3=>#[σ,_,I3,q2]
inductive XW (K:Fg)(H:Hp):V->Value->Prop where
 | non:XW K H .non (.type "NoneType")
 | bl (x:Bool):XW K H (.bl x) (.type "bool")
 | int (i:Int):XW K H (.int i) (.type "int")
 | str (x:Str):XW K H (.str x) (.type "str")
 | flt (x:UInt64):XW K H (.flt x) (.type "float")
 | lst {a:Addr} {xs:List V} (e:H a=some (.lst xs)):XW K H (.ref a) (.type "list")
 | frz {a:Addr} {o:Obj} {xs:List V} (e:H a=some (.frz o (.lst xs))):XW K H (.ref a) (.type "list")
 | tup {a:Addr} {xs:List V} (e:H a=some (.tup xs)):XW K H (.ref a) (.type "tuple")
 | dK {a:Addr} {kvs:List (Key×V)} (e:H a=some (.dK kvs)):XW K H (.ref a) (.type "dict")
 | dT {a:Addr} {kvs:List (List Key×V)} (e:H a=some (.dT kvs)):XW K H (.ref a) (.type "dict")
 | ins {a C dx:Addr} {fs:List (Str×V)} (e:H a=some (.ins C dx fs)) (cl:Cls K C) (ha:W.findIn K (.ref C) "__class__"=some (some (.builtin "object.__class__")))
   (hn:W.specialIn K (.builtin "object.__class__") "__get__"=some (some (.builtin "getset_descriptor.__get__"))) (htk:W.takesIn K (.builtin "object.__class__")=some true)
   (hm:W.mroIn K C (.type "object")=some true):XW K H (.ref a) (.ref C)
structure ZI (k:Nat)(A:Around):Prop where
 hd:A.handled=none
 dp:A.depth+3*k+5<recursionLimit
 un:A.units+16*k+200<cLine
theorem ZI.mono {j k:Nat}{A:Around}(r:ZI k A)(h:j<=k):ZI j A:=#[r.hd,by have:=r.dp;omega,by have:=r.un;omega]
theorem ZI.deeper {k:Nat}{A:Around}(r:ZI (k+1) A)(env:Env):ZI k (A.deeper env):=
 #[r.hd,by have:=r.dp;show A.depth+1+3*k+5<_;omega,by have:=r.un;show A.units+3+16*k+200<_;omega]
theorem ZI.in1 {k:Nat}{A:Around}(r:ZI (k+1) A):ZI k A.in1:=
 #[r.hd,by have:=r.dp;show A.depth+3*k+5<_;omega,by have:=r.un;show A.units+1+16*k+200<_;omega]
theorem Im {A:Around}{C:Addr}{us:List Value}{kw:List (Str×Value)}:(A.under (.builtin "type.__call__" #[.ref C::us,kw])).depth=A.depth+1:=by
 first|rfl|simp[Around.under,Code.weight,Code.isCreation,Code.isGuard,Code.isCaller,Code.frames,Code.isFrame,guardIds]
theorem EW {A:Around}{C:Addr}{us:List Value}{kw:List (Str×Value)}:(A.under (.builtin "type.__call__" #[.ref C::us,kw])).units=A.units+1:=by
 first|rfl|simp[Around.under,Code.cUnits,Code.frames,Code.isFrame]
theorem ZI.make {k:Nat}{A:Around}(r:ZI (k+1) A)(C:Addr)(us:List Value)(kw:List (Str×Value)):ZI k (A.under (.builtin "type.__call__" #[.ref C::us,kw])):=
 #[r.hd,by have:=r.dp;rw[Im];omega,by have:=r.un;rw[EW];omega]
theorem ZI.depth {k:Nat}{A:Around}(r:ZI k A):A.depth<recursionLimit:=by have:=r.dp;omega
theorem ZI.units (r:ZI k A):A.units+64<cLine:=by have:=r.un;omega
def tNil:TA:=λ_ H Q=>Q [] H
def tCons (ta:TE)(tr:TA):TA:=λσ H Q=>ta σ H λx H1=>tr σ H1 λxs H2=>Q (x::xs) H2
theorem OA:PA X [] tNil:=λ_ _ _ _ H Q I h=>Calls.spliced_nil #[[],H,I,.nil,h]
theorem Mp (ha:PE X e te)(hr:PA X es t)(hs:starEach (e::es) X.env=(false,eval e X.env)::starEach es X.env:=by rfl):PA X (e::es) (tCons te t):=by
 intro pos aA s σ H Q I h;rw[hs];refine Calls.spliced_cons (thn (ha aA s σ H _ I h) λu s1 #[x,H1,I1,r1,q1]=>?_);exact thn (hr pos aA s1 σ H1 _ I1 q1) λus s2 #[xs,H2,I2,r2,q2]=>#[x::xs,H2,I2,.cons r1 r2,q2]
def tTup (t:TA):TE:=λσ H Q=>t σ H λxs H1=>xs.length<=sizeLine/\∀p,H1 p=none->Q (.ref p) (upd H1 p (.tup xs))
def tLst (t:TA):TE:=λσ H Q=>t σ H λxs H1=>xs.length<=sizeLine/\∀p,H1 p=none->Q (.ref p) (upd H1 p (.lst xs))
theorem BH {x1}(h:PA X es t):PE X (.Tuple es x1 pos) (tTup t):=by
 intro aA s σ H Q I hq;refine wpAny_Tuple_spliced (thn (h pos aA s σ H _ I hq) λus s1 #[xs,H1,I1,r,z,q]=>#[by rw[<- r.length];exact z,?_]);have hf:H1 s1.heap.objs.size=none:=I1.hok.fresh (zA _);refine#[.ref s1.heap.objs.size,upd H1 s1.heap.objs.size (.tup xs),I1.laid (λb u e=>Heap.get?_push_of_some _ e) (zA _) ?_,rfl,q _ hf];exact#[z,us,r,#[_,Heap.get?_push_size _ rfl,rfl,_,rfl]]
theorem G5 (h:PA X es t):PE X (.List es pos) (tLst t):=by
 intro aA s σ H Q I hq;refine wpAny_List_spliced (thn (h pos aA s σ H _ I hq) λus s1 #[xs,H1,I1,r,z,q]=>#[by rw[<- r.length];exact z,?_]);have hf:H1 s1.heap.objs.size=none:=I1.hok.fresh (zA _);refine#[.ref s1.heap.objs.size,upd H1 s1.heap.objs.size (.lst xs),I1.laid (λb u e=>Heap.get?_push_of_some _ e) (zA _) ?_,rfl,q _ hf];exact#[z,us,0,r,Heap.get?_push_size _ rfl]
abbrev Sp:=List V->Hp->VK->XK->Prop
abbrev CXT:=List Env->Hp->Shared->XK->Value->Shared->Prop
structure W4 (P:Program)(w:World)(K:Fg)(mg:Str->Option Value)(base:Heap)(A:Around)(outer:List Env)(s:Shared)(H:Hp):Prop where
 frames:A.frames=some outer
 mod:Mod K mg base
 bs:∀b o,base.get? b=some o->s.heap.get? b=some o/\H b=none
 bsz:base.objs.size<=s.heap.objs.size
 funs:s.heap.FunFrames base outer
 frf:∀b∈frs outer,H b=none
 hok:HOk P w H s.heap
 bare:AllBare s.gens
inductive CE (outer:List Env)(P:Program)(w:World)(H:Hp)(s:Shared)(Q:VK)(u:Value)(s':Shared):Prop
 | mk (v:V) (H1:Hp) (a:s'.os=s.os) (b:AllBare s'.gens) (c:Un (frs outer) [] H H1 s.heap s'.heap) (d:HOk P w H1 s'.heap) (e:Zw v u) (f:Q v H1):CE outer P w H s Q u s'
def CR (CX:CXT)(outer:List Env)(P:Program)(w:World)(H:Hp)(s:Shared)(Q:VK)(E:XK)(r:Result)(s':Shared):Prop:=
 match r with
 | .ok (.ret u)=>CE outer P w H s Q u s'
 | .ok _=>False
 | .error e=>CX outer H s E e s'
structure Yk (P:Program)(w:World)(K:Fg)(mg:Str->Option Value)(base:Heap)(CX:CXT)(k:Nat)(f:Addr)(fd:FuncData)(ps:List Str)(sp:Sp):Prop where
 len:∀vs H Q E,sp vs H Q E->vs.length=ps.length
 run:∀(A:Around)(outer:List Env)(s:Shared)(H:Hp)(args:Args)(us:List Value)(vs:List V)(Q:VK)(E:XK),ZI k A->W4 P w K mg base A outer s H->BindsTo s fd args (ps.zip us)->Zz vs us->sp vs H Q E->
  codeAny (model P w) A (.call (.ref f) args) (CR CX outer P w H s Q E) s
theorem Yk.mono {P:Program}{w:World}{K:Fg}{mg:Str->Option Value}{base:Heap}{CX:CXT}{j k:Nat}{f:Addr}{fd:FuncData}{ps:List Str}{sp:Sp}(F:Yk P w K mg base CX j f fd ps sp)(h:j<=k):
  Yk P w K mg base CX k f fd ps sp:=#[F.len,λA outer s H args us vs Q E hr=>F.run A outer s H args us vs Q E (hr.mono h)]
theorem W4.make {P:Program}{w:World}{K:Fg}{mg:Str->Option Value}{base:Heap}{A:Around}{outer:List Env}{s:Shared}{H:Hp}(e:W4 P w K mg base A outer s H)(C:Addr)(us:List Value)(kw:List (Str×Value)):
  W4 P w K mg base (A.under (.builtin "type.__call__" #[.ref C::us,kw])) outer s H:=#[by first|exact e.frames|(simpa [Around.under,Code.envs,Code.isFrame,pushEnvs] using e.frames),e.mod,e.bs,e.bsz,e.funs,e.frf,e.hok,e.bare]
theorem Inv.env0 (I:Inv X aA σ H s):W4 X.prog X.w X.K X.mg X.base X.A X.stack s H:=
 #[I.ok.frames,I.ok.mod,I.bs,yJ I.ok.bsz I.sz,I.stack,I.stkFree,I.hok,I.bare]
theorem Inv.after (I:Inv X aA σ H s)(h:CE X.stack X.prog X.w H s Q u s'):EP X aA σ Q u s':=by
 obtain⟨v,H',os,bare,un,hok,r,q⟩:=h;obtain⟨hh,g,d,t,os'⟩:=s';obtain rfl:os'=s.os:=os;exact#[v,H',I.call un hok bare (λb z=>absurd z (by simp)),r,q]
def tMake (C:Addr)(sp:Sp)(dvs:List V)(E:XK)(t:TA):TE:=λσ H Q=>t σ H λvs H1=>∀x dx,H1 x=none->H1 dx=none->dx≠x->
 sp (.ref x::(vs++dvs)) (upd (upd H1 dx (.own x)) x (.ins C dx [])) (λv H2=>v=.non/\Q (.ref x) H2) E
def YK (K:Fg)(fd:FuncData)(ps:List Str)(ds:List Value):Prop:=
 ∀(s:Shared)(us:List Value),K.In s.heap->(us++ds).length=ps.length->BindsTo s fd #[us,[]] (ps.zip (us++ds))
theorem YK.all {K:Fg}{fd:FuncData}{ps:List Str}(h:∀us:List Value,us.length=ps.length->bindArgs fd #[us,[]]=pure (ps.zip us)):YK K fd ps []:=λs us _ hl=>by
 rw[xN] at hl ⊢;exact .of_eq (h us hl)
def TX (CX:CXT)(X:Cx)(E:XK):Prop:=∀(aA:LA)(σ:St)(H:Hp)(s:Shared)(e:Value)(s':Shared),Inv X aA σ H s->CX X.stack H s E e s'->X.xe e s'
structure Mk (K:Fg)(C f:Addr):Prop where
 makes:W.makesIn K C=true
 init:W.findIn K (.ref C) "__init__"=some (some (.ref f))
 fn:W.isFn K (.ref f)=true
 kp:W.keepIn K (.ref C)=true
theorem HG (M:Mk X.K C f)(F:Yk X.prog X.w X.K X.mg X.base CX k f fd ps sp)(hr:ZI (k+1) X.A)(hb:YK X.K fd ps ds)(hd:Zz dvs ds)(hx:TX CX X E)(I:Inv X aA σ H s)(r:Zz vs us)(h:∀x dx,H x=none->H dx=none->dx≠x->sp (.ref x::(vs++dvs)) (upd (upd H dx (.own x)) x (.ins C dx [])) (λv H2=>v=.non/\Q (.ref x) H2) E):
  wpAny (mX X) X.A (call (.ref C) us) (EP X aA σ Q) X.xe s:=by
 have hq:=h (s.heap.objs.size+1) s.heap.objs.size (I.hok.fresh (wF _)) (I.hok.fresh (zA _)) (zN (vD _))
 have I2:=Inv.made (C:=C) I
 have r2:Zz (V.ref (s.heap.objs.size+1)::(vs++dvs)) (Value.ref (s.heap.objs.size+1)::(us++ds)):=.cons rfl (r.append hd)
 have hl:(Value.ref (s.heap.objs.size+1)::us++ds).length=ps.length:=by
  have e:=r2.length;rw[F.len _ _ _ _ hq] at e;exact e.symm
 refine wpAny_call (L6 I.kIn M.makes M.init (beq_iff_eq.mp M.fn) (codeAny_mono (F.run _ X.stack _ _ #[Value.ref (s.heap.objs.size+1)::us,[]] (Value.ref (s.heap.objs.size+1)::(us++ds)) _ _ E (hr.make C us [])
  (I2.env0.make C us []) (hb _ (Value.ref (s.heap.objs.size+1)::us) I2.kIn hl) r2 hq) λr s' hq'=>?_))
 cases r with
 | error e=>exact hx aA σ _ _ e s' I2 hq'
 | ok fl=>
  cases fl with
  | ret u=>
   obtain⟨v,H',I3,rv,ev,q3⟩:=I2.after hq';subst ev;exact#[rv,#[V.ref (s.heap.objs.size+1),H',I3,rfl,q3]]
  | next=>exact False.elim hq'
  | brk=>exact False.elim hq'
  | cont=>exact False.elim hq'
theorem C9 (M:Mk X.K C f)(F:Yk X.prog X.w X.K X.mg X.base CX k f fd ps sp)(hr:ZI (k+1) X.A)(hg:Gl X x)(hm:X.mg x=some (.ref C))(hb:YK X.K fd ps ds)(hd:Zz dvs ds)(hx:TX CX X E)
  (ha:PA X (e::es) t)(hdb:(x==("__debug__":Str))=false:=by decide)(he:He X e es:=by rfl)(hpl:Hp1 X pos es:=by rfl):
  PE X (.Call (.Name x p) (e::es) [] pos) (tMake C sp dvs E t):=by
 intro aA s σ H Q I h;refine wpAny_Call_Name_kw (NT I hg hm ?_ hdb);refine W.callWith_K I.ok.mod.kin M.kp (thn (ha pos aA s σ H _ I h) λus s1 #[vs,H1,I1,r,q]=>#[I1.kIn,?_]) he hpl;exact HG M F hr hb hd hx I1 r q
section
structure KBinds (K:Fg)(fd:FuncData)(ps ks:List Str)(g:List Value->List Value->List Value)(gV:List V->List V->List V):Prop where
 to:∀(s:Shared)(us ws:List Value),K.In s.heap->(g us ws).length=ps.length->BindsTo s fd #[us,ks.zip ws] (ps.zip (g us ws))
 bA:∀ {vs:List V} {us:List Value} {zs:List V} {ws:List Value},Zz vs us->Zz zs ws->Zz (gV vs zs) (g us ws)
variable {g:List Value->List Value->List Value}{gV:List V->List V->List V}
end
structure YC (N P:List Str)(sc:Scope):Prop where
 kind:sc.kind=.function
 co:sc.isCoroutine=false
 gen:sc.isGenerator=false
 nd:N.Nodup
 pre:N.take P.length=P
 par:∀x∈P,sc.names.lookup x=some .local\/sc.names.lookup x=some .cell
 nofree:∀y∈sc.names,y.2≠.free
theorem M9 {kindOf:Str->Option NameKind}{x:Str}:∀ {binds:List (Str×Value)} {m:Str->Option Value},(∀v,(x,v) ∉ binds)->bindL kindOf binds m x=m x
 | [],_,_=>rfl
 | (n,v)::r,m,h=>by
  unfold bindL;rw[M9 λw hw=>h w (yS _ hw)];split
  .have:x≠n:=by rintro rfl;exact h v xG
   simp[this]
  .rfl
theorem LJ {kindOf:Str->Option NameKind}{x:Str}:∀ {binds:List (Str×Value)} {m:Str->Option Value},(∀v,(x,v) ∉ binds)->bindC kindOf binds m x=m x
 | [],_,_=>rfl
 | (n,v)::r,m,h=>by
  unfold bindC;rw[LJ λw hw=>h w (yS _ hw)];split
  .rfl
  .have:x≠n:=by rintro rfl;exact h v xG
   simp[this]
theorem Ow {kindOf:Str->Option NameKind}{x:Str}{v:Value}:∀ {P:List Str} {vs:List Value} {i:Nat} {m:Str->Option Value},P.Nodup->P[i]?=some x->vs[i]?=some v->kindOf x=some .local->
  bindL kindOf (P.zip vs) m x=some v
 | [],_,_,_,_,h,_,_=>by simp at h
 | _::_,[],_,_,_,_,h,_=>by simp at h
 | p::P,w::vs,0,m,nd,h1,h2,hk=>by
  simp at h1 h2;subst h1;subst h2
  show bindL kindOf ((p,w)::P.zip vs) m p=_;unfold bindL;rw[M9 λv hv=>(xW.mp nd).1 (vE hv).1,if_pos hk];simp
 | p::P,w::vs,i+1,m,nd,h1,h2,hk=>by
  unfold bindL;exact Ow (xW.mp nd).2 (by simpa using h1) (by simpa using h2) hk
theorem L1 {kindOf:Str->Option NameKind}{x:Str}{v:Value}:∀ {P:List Str} {vs:List Value} {i:Nat} {m:Str->Option Value},P.Nodup->P[i]?=some x->vs[i]?=some v->kindOf x≠some .local->
  bindC kindOf (P.zip vs) m x=some v
 | [],_,_,_,_,h,_,_=>by simp at h
 | _::_,[],_,_,_,_,h,_=>by simp at h
 | p::P,w::vs,0,m,nd,h1,h2,hk=>by
  simp at h1 h2;subst h1;subst h2
  show bindC kindOf ((p,w)::P.zip vs) m p=_;unfold bindC;rw[LJ λv hv=>(xW.mp nd).1 (vE hv).1,if_neg hk];simp
 | p::P,w::vs,i+1,m,nd,h1,h2,hk=>by
  unfold bindC;exact L1 (xW.mp nd).2 (by simpa using h1) (by simpa using h2) hk
def XQ (N:List Str)(vs:List V):St:=vs.map some++List.replicate (N.length-vs.length) none
def Xl (CX:CXT)(P:Program)(w:World)(K:Fg)(mg:Str->Option Value)(base:Heap)(N:List Str)(qual:Str)(scope:Scope)(f:Addr)(cd:Value)(A:Around)(outer:List Env)(s:Shared)(H:Hp)(E:XK):Cx where
 prog:=P
 w:=w
 K:=K
 mg:=mg
 base:=base
 A:=A.deeper (envOfC qual scope s.heap.objs.size f cd)
 N:=N
 s₀:=s
 H₀:=H
 env:=envOfC qual scope s.heap.objs.size f cd
 outer:=outer
 stack:=envOfC qual scope s.heap.objs.size f cd::outer
 ex:=[]
 calm:=true
 fn:=λ_=>true
 pn:=[]
 xe:=λe s'=>wpAny (model P w) (A.deeper (envOfC qual scope s.heap.objs.size f cd)) (leaving (envOfC qual scope s.heap.objs.size f cd) e) (λ_ s''=>CX outer H s E e s'') (λe' s''=>CX outer H s E e' s'') s'
theorem M8 {sc:Scope}{n:Nat}{x:Str}(h:sc.names.lookup x=some .cell):∃c,(cellsFrom n sc.names []).lookup x=some c:=by
 have q:=W.cellsFrom_some sc.names n [] (.inl h);exact yX.mp q
theorem L9 {CX:CXT}{P:Program}{w:World}{K:Fg}{mg:Str->Option Value}{base:Heap}{N ps:List Str}{qual:Str}{scope:Scope}{f:Addr}{cd:Value}{A:Around}{outer:List Env}{s s1:Shared}{H:Hp}{E:XK}{us:List Value}{vs:List V}
  (S:YC N ps scope)(hd:A.handled=none)(e0:W4 P w K mg base A outer s H)(hl:vs.length=ps.length)(r:Zz vs us)
  (x:InCallC s s.heap.objs.size (bindL (envOfC qual scope s.heap.objs.size f cd).kindOf (ps.zip us) λ_=>none) (cellsFrom (s.heap.objs.size+1) scope.names []) (bindC (envOfC qual scope s.heap.objs.size f cd).kindOf (ps.zip us) λ_=>none) s1):
  Inv (Xl CX P w K mg base N qual scope f cd A outer s H E) [] (XQ N vs) H s1:=by
 have hpl:ps.length<=N.length:=by have:=congrArg List.length S.pre;rw[zG] at this;omega
 obtain⟨h1,tk,rfl,hk⟩:=x.done;have noA:∀b:Addr,b ∉ (Xl CX P w K mg base N qual scope f cd A outer s H E).ex:=λb z=>absurd (show b∈([]:List Addr) from z) (by simp)
 refine#[#[e0.mod,S.kind,rfl,rfl,zA _,λy z c h1 h2=>?_,λy hy=>?_,λy c _ h=>?_,λ_=>hd,Around.frames_deeper e0.frames,.inr #[rfl,rfl],λb z=>absurd z (noA b),e0.bs,e0.bsz,λb _ _=>noA b,λb z=>absurd z (noA b),e0.funs,e0.frf],
  rfl,e0.bare,Un.kept hk,#[_,x.toInCall.ns,λi y v h1 h2 h3=>?_],λy c h=>#[_,x.cell y c h],e0.hok.fresh (zA _),λy c h=>?_,λp hp=>absurd (show p∈([]:LA) from hp) (by simp),e0.hok.kept hk,?_]
 .exact name_of_addr x.apart (PySem.mem_of_lookup h1) (PySem.mem_of_lookup h2)
 .have hy:scope.names.lookup y=some .cell\/scope.names.lookup y=some .free:=hy;rcases hy with hy|hy
  .exact M8 hy
  .exact absurd rfl (S.nofree _ (PySem.mem_of_lookup hy))
 .exact yR (x.above y c (PySem.mem_of_lookup h))
 .have hi:i<vs.length:=by
   unfold XQ at h2;by_cases hi:i<vs.length
   .exact hi
   .rw[yO (by simpa using hi)] at h2;rw[wG] at h2;split at h2<;>cases h2
  have ha:vs[i]?=some v:=by
   unfold XQ at h2;rw[zJ (by simpa using hi),zF] at h2;cases e:vs[i]? with
   | none=>rw[e] at h2;cases h2
   | some a=>rw[e] at h2;cases h2;rfl
  obtain⟨u,hu,rv⟩:=r.get ha;have hp:ps[i]?=some y:=by
   rw[<- S.pre,vF (by omega)];exact h1
  have ndP:ps.Nodup:=by rw[<- S.pre];exact S.nd.sublist (List.take_sublist _ _)
  refine#[u,rv,?_];rcases S.par y (zE hp) with k|k
  .exact .inl #[k,Ow ndP hp hu k]
  .obtain⟨c,e⟩:=M8 k;refine .inr #[.inl k,c,e,?_];have q:=x.cell y c e;rw[L1 ndP hp hu (by show scope.names.lookup y≠_;rw[k];decide)] at q;exact q
 .exact e0.hok.fresh (yR (x.above y c (PySem.mem_of_lookup h)))
 .unfold XQ;show _=N.length;rw[yB,zB,uT];omega
theorem MN {CX:CXT}{P:Program}{w:World}{K:Fg}{mg:Str->Option Value}{base:Heap}{k:Nat}{f:Addr}{name qual:Str}{params:Arguments}{body:List Stmt}{scope:Scope}{dV kV doc pm cdv ct oc:Value}{an od:Option Addr}
  {osl:Array (Option Value)}{N ps:List Str}{sp:Sp}(lk:K.lookup f=some #[oc,od,.func (W.fnOf name qual params body scope dV kV doc pm an cdv ct),osl])(hcd:W.codeIn K cdv qual=true)(S:YC N ps scope)
  (len:∀vs H Q E,sp vs H Q E->vs.length=ps.length)
  (hbody:∀(A:Around)(outer:List Env)(s:Shared)(H:Hp)(vs:List V)(Q:VK)(E:XK),ZI k (A.deeper (envOfC qual scope s.heap.objs.size f cdv))->sp vs H Q E->
   ∃t,PSs (Xl CX P w K mg base N qual scope f cdv A outer s H E) body t/\t { nx:=λ_ H'=>Q .non H',rt:=Q } (XQ N vs) H):
  Yk P w K mg base CX (k+1) f (W.fnOf name qual params body scope dV kV doc pm an cdv ct) ps sp:=by
 refine#[len,λA outer s H args us vs Q E hr e0 hb r hsp=>?_];have hl:=len _ _ _ _ hsp
 have KX:K.In s.heap:=e0.mod.kin.keeps λb o e=>(e0.bs b o e).1
 have lim:s.heap.NoLimit:=e0.mod.nolimit.keeps λb o e=>(e0.bs b o e).1
 have hkind:∀y∈ps.zip us,scope.names.lookup y.1=some .local\/(scope.names.lookup y.1=some .cell/\((cellsFrom (s.heap.objs.size+1) scope.names []).lookup y.1).isSome=true):=λ#[n,v] hy=>by
  rcases S.par n (vE hy).1 with q|q
  .exact .inl q
  .exact .inr #[q,W.cellsFrom_some _ _ _ (.inl q)]
 refine codeAny_call_function hr.depth (KX _ _ lk) rfl S.co S.gen rfl (W.codeRec_of KX hcd) (hb _ _ _ _ ?_);refine wpAny_newFunctionEnv_cells S.kind hkind λenv he s1 x=>?_
 subst he;refine#[lim.keeps x.toInCall.keep,codeAny_func ?_];obtain⟨t,ht,hq⟩:=hbody A outer s H vs Q E (hr.deeper _) hsp;have I:Inv (Xl CX P w K mg base N qual scope f cdv A outer s H E) [] (XQ N vs) H s1:=L9 S hr.hd e0 hl r x;refine wpAny_mono (ht [] s1 (XQ N vs) H _ I hq) (λfl s' hs=>?_) λe s' hs=>hs
 have aZ:∀ {σ':St} {H':Hp} {v:V} {u:Value},Inv (Xl CX P w K mg base N qual scope f cdv A outer s H E) [] σ' H' s'->Zw v u->Q v H'->CE outer P w H s Q u s':=
  λ{σ' H' v u} J rv q=>#[v,H',J.os,J.bare,J.base,J.hok,rv,q]
 cases fl with
 | ret u=>
  obtain⟨v,σ',H',J,rv,q⟩:=hs;exact aZ J rv q
 | next=>
  obtain⟨σ',H',J,q⟩:=hs;exact aZ (v:=V.non) J rfl q
 | brk=>
  obtain⟨_,_,_,q⟩:=hs;exact False.elim q
 | cont=>
  obtain⟨_,_,_,q⟩:=hs;exact False.elim q
section
variable {X:Cx}{x:Str}{p pos:Pos}{e:Expr}{es:List Expr}{t:TA}{id T:String}{r:List V->Hp->VK->Prop}
def tCB (r:List V->Hp->VK->Prop)(t:TA):TE:=λσ H Q=>t σ H λvs H1=>r vs H1 Q
theorem Iw (hc:Yx X (.builtin id) r)(hg:Gl X x)(hm:X.mg x=none)(hv:bootBuiltins x=some (.builtin id))(ha:PA X (e::es) t)(hn:x≠"__name__":=by decide)(hdb:(x==("__debug__":Str))=false:=by decide)
  (he:He X e es:=by rfl)(hpl:Hp1 X pos es:=by rfl):PE X (.Call (.Name x p) (e::es) [] pos) (tCB r t):=by
 intro aA s σ H Q I h;refine wpAny_Call_Name_kw (Wx I hg hm hv ?_ hn hdb);exact PyProof.Rows.callWith_builtin1 (thn (ha pos aA s σ H _ I h) λus s1 #[vs,H1,I1,r1,q1]=>hc aA s1 σ H1 vs us Q I1 r1 q1) he hpl
theorem Gp (hc:Yx X (.type T) r)(hg:Gl X x)(hm:X.mg x=none)(hv:bootBuiltins x=some (.type T))(ha:PA X (e::es) t)(hn:x≠"__name__":=by decide)(hdb:(x==("__debug__":Str))=false:=by decide)
  (he:He X e es:=by rfl)(hpl:Hp1 X pos es:=by rfl):PE X (.Call (.Name x p) (e::es) [] pos) (tCB r t):=by
 intro aA s σ H Q I h;refine wpAny_Call_Name_kw (Wx I hg hm hv ?_ hn hdb);exact PyProof.Rows.callWith_type1 (thn (ha pos aA s σ H _ I h) λus s1 #[vs,H1,I1,r1,q1]=>hc aA s1 σ H1 vs us Q I1 r1 q1) he hpl
end
end L2
namespace HT
open PySem PyProof.Rows
section
open PySem.SeqAt
open PySem.AutoSeq1 (wpAny_loadPart')
open PySem.MeetsSeq PySem.MeetsSeq2 PySem.MeetsSeq3
end
def sIx (n d:Nat):Option Int->Nat
 | none=>d
 | some v=>if v<0 then (v+(n:Int)).toNat else min v.toNat n
theorem sIx_none (n d:Nat):sIx n d none=d:=rfl
theorem sIx_nat (n d k:Nat):sIx n d (some (k:Int))=min k n:=by
 show (if (k:Int)<0 then ((k:Int)+(n:Int)).toNat else min (k:Int).toNat n)=min k n;rw[if_neg (by omega),zK]
end HT
namespace L2
open PySem PySem.Spec PyProof.Rows
abbrev TO:=St->Hp->(Option Int->Hp->Prop)->Prop
def PO (X:Cx)(e:Option Expr)(t:TO):Prop:=
 ∀(aA:LA)(s:Shared)(σ:St)(H:Hp)(Q:Option Int->Hp->Prop),Inv X aA σ H s->t σ H Q->
  wpAny (mX X) X.A (evalPart e X.env) (λu s'=>∃o H',Inv X aA σ H' s'/\IsPart u o/\Q o H') X.xe s
def Dp:TO:=λ_ H Q=>Q none H
def tPart (t:TE):TO:=λσ H Q=>t σ H λx H1=>∃i,x=.int i/\Q (some i) H1
theorem AQ:∀ {us:List Value},Zz (ns.map V.int) us->IntsAre us ns:=by
 induction ns with
 | nil=>intro us r;rw[List.map_nil] at r;cases r;exact .nil
 | cons n ns ih=>
  intro us r;cases r with
  | cons r1 r2=>
   obtain⟨t,e⟩:=r1;subst e;exact .cons n t (ih r2)
section
variable {X:Cx}{e:Expr}{te:TE}{lo hi:Option Expr}{tl th:TO}{pos p2:Pos}
theorem Gj:PO X none Dp:=by
 intro aA s σ H Q I h;exact wpAny_pure #[none,H,I,.none,h]
theorem IZ (h:PE X e te):PO X (some e) (tPart te):=by
 intro aA s σ H Q I hw;refine thn (h aA s σ H _ I hw) λu s1 #[x,H1,I1,r1,q1]=>?_
 obtain⟨i,rfl,q⟩:=q1;obtain⟨t,rfl⟩:=r1;exact#[some i,H1,I1,.int i t,q]
def SlR (X:Cx)(r:V->Option Int->Option Int->Hp->VK->Prop):Prop:=
 ∀(aA:LA)(s:Shared)(σ:St)(H:Hp)(x:V)(v vl vu:Value)(lo hi:Option Int)(sl:Addr)(Q:VK),Inv X aA σ H s->Zw x v->s.heap.IsSliceOf sl vl vu .none->IsPart vl lo->IsPart vu hi->r x lo hi H Q->
  ∃T id,typeLookup (.type T) "__getitem__"=pure (some (.builtin id))/\s.TypeIs v T/\wpAny (mX X) X.A (getItem v (.ref sl)) (EP X aA σ Q) X.xe s
def tSl (r:V->Option Int->Option Int->Hp->VK->Prop)(te:TE)(tl th:TO):TE:=λσ H Q=>te σ H λx H1=>tl σ H1 λl H2=>th σ H2 λu H3=>r x l u H3 Q
theorem Md {r:V->Option Int->Option Int->Hp->VK->Prop}(hr:SlR X r)(he:PE X e te)(hl:PO X lo tl)(hu:PO X hi th):PE X (.Subscript e (.Slice lo hi none p2) pos) (tSl r te tl th):=by
 intro aA s σ H Q I h;refine Subscript_ (thn (he aA s σ H _ I h) λv s1 #[x,H1,I1,r1,q1]=>?_);refine wpAny_Slice (thn (hl aA s1 σ H1 _ I1 q1) λvl s2 #[l,H2,I2,pl,q2]=>thn (hu aA s2 σ H2 _ I2 q2) λvu s3 #[u,H3,I3,pu,q3]=>?_);refine wpAny_pure ?_;have I4:Inv X aA σ H3 { s3 with heap:=s3.heap.push { cls:=.type "slice",data:=.fields (List.toArray [vl,vu,.none]) } }:=I3.kept λb ob q=>Heap.get?_push_of_some _ q
 obtain⟨T,id,hT,ht,hg⟩:=hr aA { s3 with heap:=s3.heap.push { cls:=.type "slice",data:=.fields (List.toArray [vl,vu,.none]) } } σ H3 x v vl vu l u s3.heap.objs.size Q I4 r1 (Heap.IsSliceOf.new ..) pl pu q3;exact tail_any ht hT hg (by with_unfolding_all rfl)
def UJ (xs:List V)(lo hi:Option Int):List V:=(xs.drop (HT.sIx xs.length 0 lo)).take (HT.sIx xs.length xs.length hi-HT.sIx xs.length 0 lo)
theorem FT (xs:List V)(lo hi:Option Int):(UJ xs lo hi).length<=xs.length:=by
 unfold UJ;rw[zG,wH];omega
end
def ixN (n:Nat)(i:Int):Option Nat:=if 0<=i then (if i<n then some i.toNat else none) else if -(n:Int)<=i then some (i+n).toNat else none
def atI {α:Type}(xs:List α)(i:Int):Option α:=(ixN xs.length i).bind λj=>xs[j]?
theorem Nb (h:ixN n i=some j):seqIndex? i n=some j/\j<n/\-(n:Int)<=i/\i<n:=by
 unfold ixN at h;by_cases h0:0<=i
 .rw[if_pos h0] at h;by_cases h1:i<n
  .rw[if_pos h1] at h;have e:i.toNat=j:=Option.some.inj h;exact#[by rw[seqIndex_of h0 h1,e],by omega,by omega,h1]
  .rw[if_neg h1] at h;cases h
 .rw[if_neg h0] at h;by_cases h1:-(n:Int)<=i
  .rw[if_pos h1] at h;have e:(i+n).toNat=j:=Option.some.inj h;exact#[by rw[seqIndex_neg (by omega) h1,e],by omega,h1,by omega]
  .rw[if_neg h1] at h;cases h
theorem NZ (h:atI xs i=some v):∃j,seqIndex? i xs.length=some j/\xs[j]?=some v/\j<xs.length/\-(xs.length:Int)<=i/\i<xs.length:=by
 unfold atI at h;cases e:ixN xs.length i with
 | none=>rw[e] at h;cases h
 | some j=>
  rw[e] at h;obtain⟨h1,h2,h3,h4⟩:=Nb e;exact#[j,h1,h,h2,h3,h4]
theorem Ye {α:Type}{xs:List α}{j:Nat}{v:α}(h:xs[j]?=some v):atI xs (j:Int)=some v:=by
 have hj:j<xs.length:=(zC.mp h).1
 have e:ixN xs.length (j:Int)=some j:=by
  unfold ixN;rw[if_pos (by omega),if_pos (by omega)];simp
 unfold atI;rw[e];exact h
def Ui (b:Expr):Prop:=∀o i,subscripted b false o i=operate [o,i] (getItem o i)
def IxR (X:Cx)(r:R2):Prop:=
 ∀(value slice:Expr)(aA:LA)(s:Shared)(σ:St)(H:Hp)(x y:V)(v u:Value)(Q:VK),Inv X aA σ H s->Zw x v->Zw y u->r x y H Q->
  subscripted slice false v u=operate [v,u] (getItem v u)->wpAny (mX X) X.A (subscriptTail value slice v u) (EP X aA σ Q) X.xe s
def MtR (X:Cx)(id:String)(r:V->List V->Hp->VK->Prop):Prop:=
 ∀(aA:LA)(s:Shared)(σ:St)(H:Hp)(x:V)(xs:List V)(v:Value)(us:List Value)(Q:VK),Inv X aA σ H s->Zw x v->Zz xs us->r x xs H Q->
  wpAny (mX X) X.A (call (.builtin id) (v::us)) (EP X aA σ Q) X.xe s
section
variable {X:Cx}{a b:Expr}{ta tb:TE}{pos:Pos}
theorem pe_ix {r:R2}(hr:IxR X r)(ha:PE X a ta)(hb:PE X b tb)(hs:Ui b):PE X (.Subscript a b pos) (tOp r ta tb):=by
 intro aA s σ H Q I h;exact Subscript_ (binT ha hb I h λv u s2 x y H2 I2 rx ry q=>hr a b aA s2 σ H2 x y v u Q I2 rx ry q (hs _ _))
def rIxL (K:Fg):R2:=λx y H Q=>∃p xs i v,x=.ref p/\y=.int i/\SqL K H p xs/\atI xs i=some v/\Q v H
def rIxT (K:Fg):R2:=λx y H Q=>∃p xs i v,x=.ref p/\y=.int i/\SqT K H p xs/\atI xs i=some v/\Q v H
theorem JI:IxR X (rIxL X.K):=by
 intro value slice aA s σ H x y v u Q I rx ry h hs;obtain⟨p,xs,i,z,rfl,rfl,hq,he,q⟩:=h;cases rx;obtain⟨t,rfl⟩:=ry;obtain⟨aY,r,pl,hz⟩:=I.list hq;obtain⟨j,h1,h2,h3,h4,h5⟩:=NZ he;obtain⟨w,ew,rw'⟩:=r.get h2;have hl:=r.length
 have hn:=VR
 have aZ:EP X aA σ Q w s:=#[z,H,I,rw',q];by_cases h0:0<=i
 .have hj:i.toNat=j:=by
   rw[seqIndex_of h0 h5] at h1;exact Option.some.inj h1
  exact item_listR pl.isList h0 (by omega) (by rw[hj];simpa using ew) aZ hs
 .have hj:(i+(aY.toArray.size:Int)).toNat=j:=by
   rw[seqIndex_neg (by omega) h4] at h1;rw[zI,<- hl];exact Option.some.inj h1
  exact subscriptTail_builtinR pl.isList.typeIs slot_list_getitem.lookup
   (wpAny_getItem_list_neg pl.isList (by omega) (by rw[zI]<;>omega) (by omega) (by rw[hj];simpa using ew) #[rfl,aZ]) hs
theorem HQ:IxR X (rIxT X.K):=by
 intro value slice aA s σ H x y v u Q I rx ry h hs;obtain⟨p,xs,i,z,rfl,rfl,hq,he,q⟩:=h;cases rx;obtain⟨t,rfl⟩:=ry;obtain⟨aY,r,pl,hz⟩:=I.tuple hq;obtain⟨j,h1,h2,h3,h4,h5⟩:=NZ he;obtain⟨w,ew,rw'⟩:=r.get h2;have hl:=r.length
 have hn:=VR
 have aZ:EP X aA σ Q w s:=#[z,H,I,rw',q];exact subscriptTail_builtinR pl.typeIs slot_tuple_getitem.lookup
  (getItem_tuple pl (by omega) (by omega) (by rw[zI,<- hl];exact h1) (by simpa using ew) #[rfl,aZ]) hs
theorem Ik (aY:List Value)(n j:Nat)(u:Value):Obj.mapSeq (·.setIfInBounds j u) { cls:=.type "list",data:=.seq aY.toArray n }={ cls:=.type "list",data:=.seq (aY.set j u).toArray n }:=by
 simp[Obj.mapSeq]
theorem Inv.lst {aA:LA}{σ:St}{H:Hp}{s:Shared}{p:Addr}{xs:List V}(I:Inv X aA σ H s)(h:H p=some (.lst xs)):
  ∃(aY:List Value)(n:Nat),Zz xs aY/\s.heap.get? p=some { cls:=.type "list",data:=.seq aY.toArray n }/\xs.length<=sizeLine:=by
 obtain⟨z,aY,n,r,e⟩:=I.hok p _ h;exact#[aY,n,r,e,z]
theorem Inv.lstUpd {aA:LA}{σ:St}{H:Hp}{s:Shared}{p:Addr}{xs ys:List V}{aY its':List Value}{n n':Nat}{f:Obj->Obj}(I:Inv X aA σ H s)(h:H p=some (.lst xs))
  (ho:s.heap.get? p=some { cls:=.type "list",data:=.seq aY.toArray n })(hf:f { cls:=.type "list",data:=.seq aY.toArray n }={ cls:=.type "list",data:=.seq its'.toArray n' })(r:Zz ys its')(hz:ys.length<=sizeLine)(t:Nat):
  Inv X aA σ (upd H p (.lst ys)) { s with heap:=s.heap.update p f,toks:=t }:=by
 have e:(s.heap.update p f).get? p=some { cls:=.type "list",data:=.seq its'.toArray n' }:=by
  rw[Heap.get?_update_self f ho (by rw[hf]<;>rfl),hf]
 refine I.write (by rw[h];trivial) (.inl rfl) (λb u hb q=>(Heap.get?_update_other _ _ (Ne.symm hb)).trans q) #[_,e] ?_;exact#[hz,its',n',r,e]
def rSetL:V->V->V->Hp->(Hp->Prop)->Prop:=λo i v H Q=>∃p xs k j,o=.ref p/\i=.int k/\H p=some (.lst xs)/\ixN xs.length k=some j/\Q (upd H p (.lst (xs.set j v)))
theorem Kp:PSet X rSetL:=by
 intro aA s σ H o i v ov iv u Q I ro ri rv h;obtain⟨p,xs,k,j,rfl,rfl,hp,hj,q⟩:=h;cases ro;obtain⟨t,rfl⟩:=ri;obtain⟨aY,n,r,ho,hz⟩:=I.lst hp;obtain⟨h1,h2,h3,h4⟩:=Nb hj;have hl:=r.length
 have hn:=VR
 have I':Inv X aA σ (upd H p (.lst (xs.set j v))) { s with heap:=s.heap.update p (Obj.mapSeq (·.setIfInBounds j u)) }:=
  I.lstUpd hp ho (Ik aY n j u) (r.set rv j) (by rw[yM];exact hz) s.toks
 by_cases h0:0<=k
 .have hk:k.toNat=j:=by
   rw[seqIndex_of h0 h4] at h1;exact Option.some.inj h1
  exact W.ki_setAt ho h0 (by omega) (by rw[zI,<- hl];exact h4) (by rw[hk];exact#[_,I',q])
 .have hk:(k+(aY.toArray.size:Int)).toNat=j:=by
   rw[seqIndex_neg (by omega) h3] at h1;rw[zI,<- hl];exact Option.some.inj h1
  exact W.ki_setBack ho (by omega) (by rw[zI,<- hl];exact h3) (by omega) (by rw[hk];exact#[_,I',q])
theorem Ja (lo hi:Option Int)(n:Nat):(sliceBounds lo hi none n).1=((HT.sIx n 0 lo:Nat):Int)/\(sliceBounds lo hi none n).2.1=((HT.sIx n n hi:Nat):Int)/\(sliceBounds lo hi none n).2.2=1:=by
 refine#[?_,?_,rfl]
 .cases lo with
  | none=>simp[sliceBounds,HT.sIx]
  | some i=>
   simp only[sliceBounds,HT.sIx,uU,show (1:Int) > 0 by decide,if_true];by_cases h:i<0
   .simp only[h,if_true]<;>omega
   .simp only[h,if_false]<;>omega
 .cases hi with
  | none=>simp[sliceBounds,HT.sIx]
  | some i=>
   simp only[sliceBounds,HT.sIx,uU,show (1:Int) > 0 by decide,if_true];by_cases h:i<0
   .simp only[h,if_true]<;>omega
   .simp only[h,if_false]<;>omega
theorem Er (aY:List Value)(lo hi:Option Int):slicePick aY.toArray lo hi none=((aY.drop (HT.sIx aY.length 0 lo)).take (HT.sIx aY.length aY.length hi-HT.sIx aY.length 0 lo)).toArray:=by
 obtain⟨h1,h2,h3⟩:=Ja lo hi aY.toArray.size;unfold slicePick;rw[h1,h2,h3];simp only[sliceRange_one,pick_run,zI]<;>rfl
def rSlL (K:Fg):V->Option Int->Option Int->Hp->VK->Prop:=λx lo hi H Q=>∃a xs,x=.ref a/\SqL K H a xs/\∀p,H p=none->Q (.ref p) (upd H p (.lst (UJ xs lo hi)))
theorem Bu:SlR X (rSlL X.K):=by
 intro aA s σ H x v vl vu lo hi sl Q I rx hs pl pu h;obtain⟨a,xs,rfl,hx,q⟩:=h;cases rx;obtain⟨aY,r,ht,hz⟩:=I.list hx;have aQ:=r.length;refine#["list",_,slot_list_getitem.lookup,ht.isList.typeIs,?_];refine wpAny_getItem_list_slice ht.isList hs pl pu .none (by simp) ?_ (by rw[zI]<;>omega);rw[Er,<- aQ];refine#[.ref s.heap.objs.size,_,I.laid (λb ob q=>Heap.get?_push_of_some _ q) (zA _) ?_,rfl,q _ (I.hok.fresh (zA _))];exact#[yJ (FT xs lo hi) hz,_,0,(r.drop (HT.sIx xs.length 0 lo)).take (HT.sIx xs.length xs.length hi-HT.sIx xs.length 0 lo),Heap.get?_push_size _ rfl]
def Tq:V->Bool
 | .non=>true
 | .bl _=>true
 | .int _=>true
 | .str _=>true
 | _=>false
def eqV:V->V->Bool
 | .non,.non=>true
 | .bl a,.bl b=>a==b
 | .bl a,.int b=>(if a then 1 else 0)==b
 | .int a,.bl b=>a==(if b then 1 else 0)
 | .int a,.int b=>a==b
 | .str a,.str b=>a==b
 | _,_=>false
theorem JP (ry:Zw y u)(rx:Zw x v)(fy:Tq y=true)(fx:Tq x=true):SeqAt.EqAt A s u v (eqV y x):=by
 cases y with
 | non=>
  cases ry;cases x with
  | non=>cases rx;exact SeqAt.EqAt.same _
  | bl b=>cases rx;exact SeqAt.EqAt.none_bool b
  | int b=>obtain⟨t,rfl⟩:=rx;exact SeqAt.EqAt.none_int b t
  | str b=>obtain⟨t,rfl⟩:=rx;exact SeqAt.EqAt.none_str b t
  | _=>exact absurd (show false=true from fx) zR
 | bl a=>
  cases ry;cases x with
  | non=>cases rx;exact SeqAt.EqAt.bool_none a
  | bl b=>cases rx;exact SeqAt.EqAt.bool_bool a b
  | int b=>obtain⟨t,rfl⟩:=rx;exact SeqAt.EqAt.bool_int a b t
  | str b=>obtain⟨t,rfl⟩:=rx;exact SeqAt.EqAt.bool_str a b t
  | _=>exact absurd (show false=true from fx) zR
 | int a=>
  obtain⟨t',rfl⟩:=ry;cases x with
  | non=>cases rx;exact SeqAt.EqAt.int_none a t'
  | bl b=>cases rx;exact SeqAt.EqAt.int_bool a t' b
  | int b=>obtain⟨t,rfl⟩:=rx;exact SeqAt.EqAt.int_int a t' b t
  | str b=>obtain⟨t,rfl⟩:=rx;exact SeqAt.EqAt.int_str a t' b t
  | _=>exact absurd (show false=true from fx) zR
 | str a=>
  obtain⟨t',rfl⟩:=ry;cases x with
  | non=>cases rx;exact SeqAt.EqAt.str_none a t'
  | bl b=>cases rx;exact SeqAt.EqAt.str_bool a t' b
  | int b=>obtain⟨t,rfl⟩:=rx;exact SeqAt.EqAt.str_int a t' b t
  | str b=>obtain⟨t,rfl⟩:=rx;exact SeqAt.EqAt.str_str a t' b t
  | _=>exact absurd (show false=true from fx) zR
 | _=>exact absurd (show false=true from fy) zR
theorem JC:Yx X (.builtin "len") (λxs H Q=>∃p ys,xs=[.ref p]/\(SqL X.K H p ys\/SqT X.K H p ys)/\Q (.int ys.length) H):=by
 intro aA s σ H xs us Q I r h;obtain⟨p,ys,rfl,hq,q⟩:=h;obtain⟨u,rfl,rx⟩:=Wq r;cases rx;have hn:=VR;rcases hq with hq|hq
 .obtain⟨aY,r',pl,hz⟩:=I.list hq;have aQ:=r'.length;exact Calls.call_len_list pl.isList (by simp only[zI]<;>omega) #[.int ys.length,H,I.tok _,#[s.toks+1,by rw[zI,aQ]],q]
 .obtain⟨aY,r',pl,hz⟩:=I.tuple hq;have aQ:=r'.length;exact len_tuple pl (by simp only[zI]<;>omega) #[.int ys.length,H,I.tok _,#[s.toks+1,by rw[zI,aQ]],q]
theorem FL:Yx X (.type "list") (λxs H Q=>∃p ys,xs=[.ref p]/\(SqL X.K H p ys\/SqT X.K H p ys)/\∀l,H l=none->Q (.ref l) (upd H l (.lst ys))):=by
 intro aA s σ H xs us Q I r h;obtain⟨p,ys,rfl,hq,q⟩:=h;obtain⟨u,rfl,rx⟩:=Wq r;cases rx;have aZ:∀(aY:List Value),Zz ys aY->ys.length<=sizeLine->∀(h':Heap)(c':Nat),(∀b o',s.heap.get? b=some o'->h'.get? b=some o')->
   h'.get? s.heap.objs.size=some { cls:=.type "list",dict:=none,data:=.seq aY.toArray c',slots:=(List.toArray []) }->EP X aA σ Q (.ref s.heap.objs.size) { s with heap:=h' }:=λaY r' hz h' c' kp e=>
  #[.ref s.heap.objs.size,_,I.laid kp (zA _) (show YF X.prog X.w _ h' _ (.lst ys) from #[hz,aY,c',r',e]),rfl,q _ (I.hok.fresh (zA _))]
 rcases hq with hq|hq
 .obtain⟨aY,r',pl,hz⟩:=I.list hq;have aQ:=r'.length;obtain⟨o,ho,hc,n,hd⟩:=pl.isList;exact call_list_seq p (.inl rfl) ho hc hd (λh' c' kp e=>aZ aY r' hz h' c' kp e) (by simp only[zI]<;>omega)
 .obtain⟨aY,r',pl,hz⟩:=I.tuple hq;have aQ:=r'.length;obtain⟨o,ho,hc,n,hd⟩:=pl;exact call_list_seq p (.inr rfl) ho hc hd (λh' c' kp e=>aZ aY r' hz h' c' kp e) (by simp only[zI]<;>omega)
def tyV (K:Fg)(T:String)(x:V)(H:Hp):Prop:=match x with
 | .str _=>T="str"
 | .int _=>T="int"
 | .ref p=>(T="list"/\∃xs,SqL K H p xs)\/(T="tuple"/\∃o,K.lookup p=some o/\o.cls=.type "tuple"/\o.dict=none)\/
   (T="dict"/\((∃kvs,H p=some (.dK kvs))\/∃kvs,H p=some (.dT kvs)))\/(T="set"/\∃S n,H p=some (.set S n))
 | _=>False
theorem Nz (I:Inv X aA σ H s)(r:Zw x v)(ty:tyV X.K T x H):
  s.TypeIs v T/\∀a,v=.ref a->∃ob,s.heap.get? a=some ob/\ob.dict=none:=by
 cases x with
 | str z=>
  obtain⟨t,rfl⟩:=r;cases (show T="str" from ty);exact#[typeIs_str s z t,λ_ e=>nomatch e]
 | int i=>
  obtain⟨t,rfl⟩:=r;cases (show T="int" from ty);exact#[typeIs_int s i t,λ_ e=>nomatch e]
 | ref p=>
  cases r;rcases ty with ⟨rfl,xs,hq⟩|⟨rfl,o,hk,hc,hd⟩|⟨rfl,hk⟩|⟨rfl,S,n,hk⟩
  .obtain⟨aY,_,pl,_⟩:=I.list hq;refine#[pl.isList.typeIs,λa e=>?_];cases e;obtain⟨o,n,e,c,hd,_⟩:=pl;exact#[o,e,hd]
  .refine#[#[o,I.kIn p o hk,hc],λa e=>?_];cases e;exact#[o,I.kIn _ o hk,hd]
  .have z:∃o,s.heap.get? p=some o/\o.ExactDict:=by
    rcases hk with ⟨kvs,hk⟩|⟨kvs,hk⟩
    .obtain⟨_,_,_,_,o,_,_,e,ex,_⟩:=I.hok p _ hk;exact#[o,e,ex]
    .obtain⟨_,_,_,_,o,_,_,e,ex,_⟩:=I.hok p _ hk;exact#[o,e,ex]
   obtain⟨o,e,ex⟩:=z;refine#[#[o,e,ex.1],λa e2=>?_];cases e2;exact#[o,e,ex.2.1]
  .obtain⟨o,_,_,_,e,ex,_⟩:=I.hok p _ hk;refine#[#[o,e,ex.1],λa e2=>?_];cases e2;exact#[o,e,ex.2.1]
 | _=>exact False.elim ty
def tBM0 (K:Fg)(T:String)(r:V->List V->Hp->VK->Prop)(to:TE):TE:=λσ H Q=>to σ H λx H1=>tyV K T x H1/\r x [] H1 Q
def tBM (K:Fg)(T:String)(r:V->List V->Hp->VK->Prop)(to:TE)(t:TA):TE:=λσ H Q=>to σ H λx H1=>tyV K T x H1/\t σ H1 λxs H2=>r x xs H2 Q
variable {o e:Expr}{es:List Expr}{to:TE}{t:TA}{name:Str}{aL aK:Pos}{T id:String}{r:V->List V->Hp->VK->Prop}
theorem Hq (pa:PlainAttrs T)(slot:Slot T name id)(hty:typeOf (.builtin id)=pure (.type "method_descriptor"))(hm:MtR X id r)(ho:PE X o to)
  (hbase:attributeBase o name X.env (eval o X.env)=eval o X.env:=by rfl)(hline:(aL.endLine==aK.line)=true:=by rfl):PE X (.Call (.Attribute o name aL) [] [] aK) (tBM0 X.K T r to):=by
 intro aA s σ H Q I h;refine wpAny_Call_method0_late hbase hline (thn (ho aA s σ H _ I h) λv s1 #[x,H1,I1,r1,ty,q1]=>?_);obtain⟨h1,h2⟩:=Nz I1 r1 ty;exact#[T,id,pa,slot,hty,h1,h2,Calls.callWith_builtin rfl (PySem.evalArgs_none (hm aA s1 σ H1 x [] v [] Q I1 r1 .nil q1))]
theorem LM (pa:PlainAttrs T)(slot:Slot T name id)(hty:typeOf (.builtin id)=pure (.type "method_descriptor"))(hm:MtR X id r)(ho:PE X o to)(ha:PA X (e::es) t)
  (hbase:attributeBase o name X.env (eval o X.env)=eval o X.env:=by rfl)
  (hfew:((backTo aK (starEach (e::es) X.env)).all (λx=>!x.1)&&(backToKw aK (keywordEach [] X.env)).all (λx=>x.1.isSome)
  &&decide ((e::es).length+([]:List Keyword).length+(if ([]:List Keyword).isEmpty then 0 else 1)<30))=true:=by rfl)
  (hline:(aL.endLine==aK.line)=true:=by rfl)(hs:starEach (e::es) X.env=(false,eval e X.env)::starEach es X.env:=by rfl)(hplain:(backTo aK (starEach es X.env)).any (·.1)=false:=by rfl):
  PE X (.Call (.Attribute o name aL) (e::es) [] aK) (tBM X.K T r to t):=by
 intro aA s σ H Q I h;refine wpAny_Call_method_late hbase hfew hline rfl (thn (ho aA s σ H _ I h) λv s1 #[x,H1,I1,r1,ty,q1]=>?_);obtain⟨h1,h2⟩:=Nz I1 r1 ty;refine#[T,id,pa,slot,hty,h1,h2,?_];have hA:=ha aK aA s1 σ H1 _ I1 q1;rw[hs] at hA ⊢;refine Calls.callWith_builtin (by show (false||(backTo aK (starEach es X.env)).any (·.1))=false;rw[hplain]<;>rfl) (Calls.evalArgs_plain ?_);exact thn hA λus s2 #[vs,H2,I2,r2,q2]=>hm aA s2 σ H2 x vs v us Q I2 r1 r2 q2
end
def MtM (X:Cx)(id:String)(r:V->List V->Hp->VK->Prop):Prop:=
 ∀(aA:LA)(s:Shared)(σ:St)(H:Hp)(x:V)(xs:List V)(v:Value)(us:List Value)(Q:VK),Inv X aA σ H s->Zw x v->Zz xs us->r x xs H Q->
  wpAny (mX X) X.A (call (.builtin id) (v::us)) (EP X aA σ Q) X.xe s
theorem Zz.one:∀ {x:V} {us:List Value},Zz [x] us->∃u,us=[u]/\Zw x u
 | _,_,.cons r .nil=>#[_,rfl,r]
theorem Zz.rep (h:Zz xs us):∀k:Nat,Zz (List.replicate k xs).flatten (List.replicate k us).flatten
 | 0=>.nil
 | k+1=>by
  exact Zz.append h (Zz.rep h k)
theorem OP (aY:List Value):∀(k:Nat)(acc:List Value),
  List.foldl (λx1 x2=>x1++x2) acc.toArray (List.replicate k aY.toArray)=(acc++(List.replicate k aY).flatten).toArray
 | 0,acc=>by simp
 | k+1,acc=>by
  have e:acc.toArray++aY.toArray=(acc++aY).toArray:=by simp
  have e2:(acc++aY)++(List.replicate k aY).flatten=acc++(List.replicate (k+1) aY).flatten:=by
   rw[vG,vS,xB]
  rw[<- e2,<- OP aY k (acc++aY),<- e,vG,List.foldl_cons]
theorem Inv.lset {aY its':List Value}{n:Nat}{f:Array Value->Array Value}{t':Nat}(I:Inv X aA σ H s)(hH:H l=some (.lst xs))
  (e:s.heap.get? l=some { cls:=.type "list",data:=.seq aY.toArray n })(hf:f aY.toArray=its'.toArray)(hv:Zz ys its')(hz:ys.length<=sizeLine):
  Inv X aA σ (upd H l (.lst ys)) { s with heap:=s.heap.update l (Obj.mapSeq f),toks:=t' }:=by
 have q:=PySem.IsL.update e f;rw[hf] at q;refine I.write (by rw[hH];exact trivial) (.inl rfl) (λb' u hb hu=>(Heap.get?_update_other s.heap (Obj.mapSeq f) (Ne.symm hb)).trans hu) #[_,q] ?_;exact#[hz,its',_,hv,q]
theorem Inv.lnew (I:Inv X aA σ H s)(hv:Zz ys aY)(hz:ys.length<=sizeLine):
  Inv X aA σ (upd H s.heap.objs.size (.lst ys)) { s with heap:=s.heap.push { cls:=.type "list",data:=.seq aY.toArray },toks:=t' }:=
 I.laid (λ_ _ q=>Heap.get?_push_of_some _ q) (zA _) #[hz,aY,0,hv,Heap.get?_push_size _ rfl]
theorem Inv.fresh (I:Inv X aA σ H s):H s.heap.objs.size=none:=I.hok.fresh (zA _)
theorem Inv.lstM (I:Inv X aA σ H s)(hH:H l=some (.lst xs)):xs.length<=sizeLine/\∃(aY:List Value)(n:Nat),Zz xs aY/\xs.length=aY.length/\s.heap.get? l=some { cls:=.type "list",data:=.seq aY.toArray n }:=by
 obtain⟨z,aY,n,r,e⟩:=I.hok l _ hH;exact#[z,aY,n,r,r.length,e]
theorem Bo {n:Nat}(h:n<=sizeLine):Builtin.List.listTooLong n=false:=by
 exact decide_eq_false (by omega)
def Kq:V->List V->Hp->VK->Prop:=λx vs H Q=>∃l xs y,x=.ref l/\vs=[y]/\H l=some (.lst xs)/\xs.length<sizeLine/\Q .non (upd H l (.lst (xs++[y])))
theorem NF:MtM X "list.append" Kq:=by
 intro aA s σ H x vs v us Q I rx rv h;obtain⟨l,xs,y,rfl,rfl,hH,hz,q⟩:=h;cases rx;obtain⟨u,rfl,ru⟩:=rv.one;obtain⟨z,aY,n,r,hl,e⟩:=I.lstM hH;refine call_meets F.slot_list_append #[_,e,rfl] F.entry_list_append (F.args_list_append_2 _ _) (PySem.list_append l aY.toArray n u (by rw[zI];omega)) #[e,?_];refine#[.non,_,I.lset hH e (by simp) (r.append (.cons ru .nil)) ?_,rfl,q];rw[yB,List.length_singleton];omega
def rCat:R2:=λx y H Q=>∃l b xs zs,x=.ref l/\y=.ref b/\H l=some (.lst xs)/\H b=some (.lst zs)/\xs.length+zs.length<=sizeLine/\∀p,H p=none->Q (.ref p) (upd H p (.lst (xs++zs)))
theorem E1:OpR X (binaryOp .Add) rCat:=by
 intro aA s σ H x y v u Q I rx ry h;obtain⟨l,b,xs,zs,rfl,rfl,hH,hB,hz,q⟩:=h;cases rx;cases ry;obtain⟨z,aY,n,r,hl,e⟩:=I.lstM hH;obtain⟨z2,its2,n2,r2,hl2,e2⟩:=I.lstM hB;refine PySem.P.add_list e e2 ?_ (by rw[zI,zI];omega);have ea:aY.toArray++its2.toArray=(aY++its2).toArray:=by simp
 rw[ea];exact#[.ref _,_,I.lnew (r.append r2) (by rw[yB];omega),rfl,q _ I.fresh]
def rRep:R2:=λx y H Q=>∃l k xs,x=.ref l/\y=.int k/\H l=some (.lst xs)/\-(2^63)<=k/\k<2^63/\xs.length*k.toNat<=sizeLine/\
 ∀p,H p=none->Q (.ref p) (upd H p (.lst (List.replicate k.toNat xs).flatten))
theorem GL (xs:List α)(k:Nat):(List.replicate k xs).flatten.length=k*xs.length:=by
 induction k with
 | zero=>simp
 | succ k ih=>rw[vG,vS,yB,ih,Nat.succ_mul,Nat.add_comm]
theorem Hi:OpR X (binaryOp .Mult) rRep:=by
 intro aA s σ H x y v u Q I rx ry h;obtain⟨l,k,xs,rfl,rfl,hH,h1,h2,hz,q⟩:=h;cases rx;obtain⟨t,rfl⟩:=ry;obtain⟨z,aY,n,r,hl,e⟩:=I.lstM hH;have aQ:aY.toArray.size*k.toNat<=sizeLine:=by rw[zI,<- hl];exact hz
 have hcap:¬ aY.toArray.size*k.toNat > (2^63-1)/8:=by
  have:(sizeLine:Nat)<=(2^63-1)/8:=by decide
  omega
 have hfit:¬ (!Builtin.List.listFitsIndex k)=true:=by
  rw[fitsIndex_both h1 h2];exact zR
 have hlong:¬ Builtin.List.listTooLong (aY.toArray.size*k.toNat)=true:=by
  rw[Bo aQ];exact zR
 have hnew:List.foldl (λx1 x2=>x1++x2) (List.toArray []) (List.replicate (if aY.toArray.isEmpty=true then 0 else k.toNat) aY.toArray)=(List.replicate k.toNat aY).flatten.toArray:=by
  have f0:∀m:Nat,List.foldl (λx1 x2=>x1++x2) (List.toArray []) (List.replicate m aY.toArray)=(List.replicate m aY).flatten.toArray:=λm=>by
   have:=OP aY m [];exact this
  rw[f0];cases aY with
  | nil=>simp
  | cons a r'=>rw[if_neg (by simp)]
 refine wpAny_binaryOp_repeat_ref ⋯ #[_,e,rfl] (λs'=>typeIs_int s' k t) noFill_list_mul F.fills_int_mul F.slot_int_rmul repeat_list F.slot_int_index.lookup
  (call_meets F.slot_int_rmul (typeIs_int s k t) F.entry_int_rmul (F.args_int_rmul_2 _ _) (int___rmul___int_list k t l aY.toArray n)
   #[e,rfl,#[_,e,rfl],call_meets F.slot_list_mul #[_,e,rfl] F.entry_list_mul (F.args_list_mul_2 _ _) (AutoListH.list___mul___list_int_3 l aY.toArray n k t hfit hcap hlong) #[e,?_]])
 rw[hnew];exact#[.ref _,_,I.lnew (r.rep k.toNat) (by rw[GL,Nat.mul_comm];exact hz),rfl,q _ I.fresh]
section
variable {prog:Program}{w:World}{A:Around}{E:Value->Shared->Prop}{s:Shared}
set_option maxRecDepth 100000 in
end
section
variable {X:Cx}
end
end L2
namespace Att
open PySem PySem.W PySem.Calls PyProof.Rows
theorem Cw {P:Params}{h:Heap}:∀(ns:List Int)(vs:List Value),WellAll P h vs (ns.map WData.int)->IntsAre vs ns:=by
 intro ns
 induction ns with
 | nil=>
  intro vs w;cases w;exact .nil
 | cons n ns ih=>
  intro vs w;cases w with
  | cons a b=>
   cases a;exact .cons _ _ (ih _ b)
theorem Dw {l:OpenLaw}{n:Nat}(hn:l.most=some n){P:Params}{h:Heap}{args:List WData}{vals:List Value}
  (hpre:l.row.toRowW.claim.pre args=true)(hwl:WellAll P h vals args):
  ∃a vs ns,vals=[Value.ref a]/\args=[WData.list (ns.map WData.int)]/\h.get? a=some { cls:=.type "list",data:=.seq vs.toArray }/\IntsAre vs ns/\ns.length<=n:=by
 have hsh:WShape.hasAll [] args [.list .int]=true:=(pre_splitW hpre).1
 have hc:l.pre.holds [] { args:=args }=true:=(pre_splitW hpre).2;obtain⟨d,r,rfl,h1,h2⟩:=hasAllW_cons hsh;obtain rfl:=hasAllW_nil h2;obtain⟨xs,rfl,h3⟩:=hasW_list h1;obtain⟨ns,rfl⟩:=items_int h3;have aQ:ns.length<=n:=by
  have h4:(WTm.not (.lt (.lit (.int (n:Int))) (.len (.arg 0)))).holds [] { args:=[.list (ns.map .int)] }=true:=by
   have h4:=(holds_andW hc).1;rw[hn] at h4;exact h4
  have h5:=condW_of h4 (w_not (w_lt w_lit (w_len_list (w_arg rfl))));refine Nat.le_of_not_lt λq=>?_
  first
   | (rw[decide_eq_true q'] at h5;exact absurd h5 ⋯)
   | (simp at h5;omega)
 cases hwl with
 | cons w1 w2=>
  cases w2;cases w1 with
  | list ho hall=>exact#[_,_,ns,rfl,rfl,ho,Cw ns _ hall,aQ]
theorem K9 (l:OpenLaw)(args:List WData):l.row.toRowW.claim.post args (.bool true) args=true:=
 postW_of
  (show WShape.has [] (.bool true) .bool=true by first|rfl|decide|simp[WShape.has,WShape.arms,WShape.armsAll])
  (show (WTm.eq .res (.lit (.bool true))).value [] { args:=args,res:=some (.bool true),after:=args }=some (.bool (true==true)) from w_eq_bool (w_res rfl) w_lit) rfl
theorem attach_call {l:OpenLaw}{n:Nat}{q:Program}{aJ:List Str}{XP:(Str->Option Value)->Heap->Prop}{YP:World->Heap->Prop}{d:DefRec}
  (hn:l.most=some n)(hdf:d.params.defaults=[])
  (call:∀(w:World)(s₀ s₁:Shared)(mg mb:Str->Option Value)(fa:Addr)(o:Obj)(pm cd doc:Value)(a:Addr)(vs:List Value)(ns:List Int),
   Ground q aJ [] XP w s₀ mg mb s₁.heap->YP w s₁.heap->
   s₁.heap.get? fa=some o->o.data=.func (docDef d.name d.params d.body d.scope pm cd doc)->s₁.heap.CodeRec cd d.name->mg d.name=some (.ref fa)->
   s₁.heap.get? a=some { cls:=.type "list",data:=.seq vs.toArray }->IntsAre vs ns->ns.length<=n->s₁.gens=(List.toArray [])->
   codeAny (model l.prog w) callerA (.call (.ref fa) #[[.ref a],[]]) (λr s'=>r=.ok (.ret (.bool true))/\OldK s₁.heap s'.heap/\s'.os=s₁.os/\AllBare s'.gens) s₁):
  WalkO q aJ XP YP l.row.toRowW d [] (λf vs=>PySem.call f vs):=by
 intro w s₀ s₁ mg mb G Y fa o pm cd doc dV kV ho hd hcd hD hmg hg args vals as hpre hlay hrd hwl hlo;obtain rfl:dV=.none:=Dflts.none hD hdf;obtain rfl:kV=.none:=Dflts.noKw hD;obtain⟨a,vs,ns,rfl,rfl,hobj,hints,aQ⟩:=Dw hn hpre hwl;refine enter_call (codeAny_mono (call w s₀ s₁ mg mb fa o pm cd doc a vs ns G Y ho (fd_plain hd) hcd hmg hobj hints aQ hg) λr s' hq=>?_);obtain⟨rfl,h2,h3,h4⟩:=hq;exact#[.inl #[.bool true,.bool true,[],rfl,λ_=>rfl,.bool true,K9 l _,λ_=>#[List.Pairwise.nil,λ_ hm=>(nomatch hm)]],h2,h3,h4]
section
variable {prog:Program}{w:World}{A:Around}{E:Value->Shared->Prop}{s:Shared}{K:Frag}
end
end Att
namespace L2
open PySem PySem.Spec PyProof.Rows
theorem RR:∀ {vs:List Value} {ns:List Int},IntsAre vs ns->Zz (ns.map V.int) vs
 | _,_,.nil=>.nil
 | _,_,.cons n t h=>.cons #[t,rfl] (RR h)
end L2
namespace L2
open PySem PySem.Spec PyProof.Rows
abbrev CX0:CXT:=λ_ _ _ _ _ _=>False
structure Fun (K:Fg)(x qual:Str)(st:Stmt)(f:Addr)(fd:FuncData):Prop where
 ex:∃(oc:Value)(od:Option Addr)(kV doc pm:Value)(an:Option Addr)(cdv ct:Value)(osl:Array (Option Value)),
  fd=W.fnOf x qual (W5 st) (YV st) (ZA st) .none kV doc pm an cdv ct/\K.lookup f=some #[oc,od,.func fd,osl]/\W.codeIn K cdv qual=true
 kp:W.keepIn K (.ref f)=true
section
variable {P:Program}{w:World}{K:Fg}{mg:Str->Option Value}{base:Heap}
theorem Fun.ok {x qual:Str}{st:Stmt}{f:Addr}{fd:FuncData}{N ps:List Str}{k:Nat}{sp:Sp}(F:Fun K x qual st f fd)(S:YC N ps (ZA st))(len:∀vs H Q E,sp vs H Q E->vs.length=ps.length)
  (hbody:∀(cdv:Value)(A:Around)(outer:List Env)(s:Shared)(H:Hp)(vs:List V)(Q:VK)(E:XK),ZI k (A.deeper (envOfC qual (ZA st) s.heap.objs.size f cdv))->sp vs H Q E->
   ∃t,PSs (Xl CX0 P w K mg base N qual (ZA st) f cdv A outer s H E).nox (YV st) t/\t { nx:=λ_ H'=>Q .non H',rt:=Q } (XQ N vs) H):Yk P w K mg base CX0 (k+1) f fd ps sp:=by
 obtain⟨oc,od,kV,doc,pm,an,cdv,ct,osl,rfl,lk,hcd⟩:=F.ex;refine MN lk hcd S len λA outer s H vs Q E hr hsp=>?_
 obtain⟨t,h,q⟩:=hbody cdv A outer s H vs Q E hr hsp;exact#[t,h.nox,q]
theorem Fun.binds {x qual:Str}{st:Stmt}{f:Addr}{fd:FuncData}{ps:List Str}(F:Fun K x qual st f fd)
  (h:∀(kV doc pm:Value)(an:Option Addr)(cdv ct:Value)(us:List Value),us.length=ps.length->bindArgs (W.fnOf x qual (W5 st) (YV st) (ZA st) .none kV doc pm an cdv ct) #[us,[]]=pure (ps.zip us)):YK K fd ps []:=by
 obtain⟨oc,od,kV,doc,pm,an,cdv,ct,osl,rfl,lk,hcd⟩:=F.ex;exact .all (h kV doc pm an cdv ct)
theorem Tf {x qual:Str}{st:Stmt}{f:Addr}{oc:Value}{od an:Option Addr}{osl:Array (Option Value)}{kV doc pm cdv ct:Value}(l:K.lookup f=some #[oc,od,.func (W.fnOf x qual (W5 st) (YV st) (ZA st) .none kV doc pm an cdv ct),osl])
  (c:W.codeIn K cdv qual=true)(k:W.keepIn K (.ref f)=true):Fun K x qual st f (W.fnOf x qual (W5 st) (YV st) (ZA st) .none kV doc pm an cdv ct):=#[#[oc,od,kV,doc,pm,an,cdv,ct,osl,rfl,l,c],k]
end
theorem VO (h:n<=1000):n<sizeLine:=vT h ⋯
section
variable {X:Cx}
theorem pv (i:Nat)(hN:X.N[i]?=some x:=by rfl)(hv:Vis X.env.scope x:=by first|exact Or.inl rfl|exact Or.inr (Or.inl rfl)|exact Or.inr (Or.inr rfl))(hd:(x==("__debug__":Str))=false:=by decide)(hcd:(x==("__classdict__":Str))=false:=by decide):PE X (.Name x pos) (tVar i):=LB hN hv hd hcd
end
theorem Y5 {A B:Prop}(h:B):if false=true then A else B:=by
 exact h
theorem Y0 {A B:Prop}(h:A):if true=true then A else B:=by
 exact h
theorem Vj {c A B:Prop} [Decidable c] (h1:c->A)(h2:¬ c->B):if c then A else B:=by
 by_cases h:c
 .rw[if_pos h];exact h1 h
 .rw[if_neg h];exact h2 h
section
variable {κ:Type} [DecidableEq κ]
def Xr (kvs:List (κ×V))(k:κ):Option V:=(kvs.find? λkv=>decide (kv.1=k)).map (·.2)
def putK (kvs:List (κ×V))(k:κ)(v:V):List (κ×V):=
 if (kvs.any λkv=>decide (kv.1=k))=true then kvs.map (λkv=>if kv.1=k then (kv.1,v) else kv) else kvs++[(k,v)]
theorem Sm {p:κ×V}{r:List (κ×V)}{k:κ}(e:p.1=k):Xr (p::r) k=some p.2:=by simp[Xr,xI,e]
theorem Rv {p:κ×V}{r:List (κ×V)}{k:κ}(e:¬ p.1=k):Xr (p::r) k=Xr r k:=by simp[Xr,xI,e]
theorem Nt (k:κ):∀kvs:List (κ×V),(kvs.any λkv=>decide (kv.1=k))=(Xr kvs k).isSome
 | []=>rfl
 | p::r=>by
  rw[wJ];by_cases e:p.1=k
  .simp only[Sm e,decide_eq_true e,Bool.true_or,Option.isSome_some]
  .rw[Rv e,decide_eq_false e,Bool.false_or];exact Nt k r
theorem NK (kvs:List (κ×V))(k:κ)(v:V):(putK kvs k v).length<=kvs.length+1:=by
 unfold putK;split
 .rw[zB];omega
 .rw[yB,yE,uV];omega
theorem Y8.isSome_eq (r:Y8 o u):o.isSome=u.isSome:=by
 cases o with
 | none=>cases u with
  | none=>rfl
  | some _=>exact(show False from r).elim
 | some _=>cases u with
  | none=>exact(show False from r).elim
  | some _=>rfl
theorem Y8.getD (r:Y8 o u)(rd:Zw d d'):Zw (o.getD d) (u.getD d'):=by
 cases o with
 | none=>cases u with
  | none=>exact rd
  | some _=>exact(show False from r).elim
 | some _=>cases u with
  | none=>exact(show False from r).elim
  | some _=>exact r
theorem KV.val {kvs:List (κ×V)}{vs:List (κ×Value)}(r:KV kvs vs)(k:κ):Y8 (Xr kvs k) (valueAt vs k):=by
 unfold KV at r
 induction r with
 | nil=>exact True.intro
 | @cons p q ps qs h t ih=>
  obtain⟨h1,h2⟩:=h;by_cases e:p.1=k
  .have e':q.1=k:=h1.symm.trans e
   have b:valueAt (q::qs) k=some q.2:=by simp[valueAt,xI,e']
   rw[Sm e,b];exact h2
  .have e':¬ q.1=k:=λz=>e (h1.trans z)
   have b:valueAt (q::qs) k=valueAt qs k:=by simp[valueAt,xI,e']
   rw[Rv e,b];exact ih
theorem KV.any (r:KV kvs vs)(k:κ):(kvs.any λkv=>decide (kv.1=k))=vs.any λkv=>decide (kv.1=k):=by
 unfold KV at r
 induction r with
 | nil=>rfl
 | cons h t ih=>rw[wJ,wJ,ih,h.1]
theorem KV.repl (r:KV kvs vs)(k:κ)(ry:Zw y u):
  KV (kvs.map λkv=>if kv.1=k then (kv.1,y) else kv) (vs.map λkv=>if kv.1=k then (kv.1,u) else kv):=by
 unfold KV at r ⊢
 induction r with
 | nil=>exact .nil
 | @cons p q ps qs h t ih=>
  rw[yL,yL];refine .cons ?_ ih;obtain⟨h1,h2⟩:=h;by_cases e:p.1=k
  .rw[if_pos e,if_pos (h1.symm.trans e)];exact#[h1,ry]
  .rw[if_neg e,if_neg (λz=>e (h1.trans z))];exact#[h1,h2]
theorem KV.put (r:KV kvs vs)(k:κ)(ry:Zw y u):KV (putK kvs k y) (stored vs k u):=by
 unfold putK stored;rw[r.any k];by_cases e:(vs.any λkv=>decide (kv.1=k))=true
 .rw[if_pos e,if_pos e];exact r.repl k ry
 .rw[if_neg e,if_neg e];exact Paired.snoc r #[rfl,ry]
theorem KV.length (r:KV kvs vs):kvs.length=vs.length:=Paired.length r
end
theorem QP (r:Zw (kV k) u):(Xb P w).is k u=true:=by
 cases k with
 | inl i=>obtain⟨t,e⟩:=(show ∃t,u=Value.int i t from r);subst e;exact BJ P w i t
 | inr x=>obtain⟨t,e⟩:=(show ∃t,u=Value.str x t from r);subst e;exact J4 P w x t
theorem N0:∀ {ks:List Key} {us:List Value},Zz (ks.map kV) us->ItemsAre (Xb P w) ks us
 | [],_,r=>by rw[List.map_nil] at r;cases r;exact .nil
 | k::ks,_,r=>by
  rw[yL] at r;cases r with
  | cons h t=>exact .cons (QP h) (N0 t)
abbrev KT (H:Hp):List (List Key×V)->List (List Key×Addr×Value)->Prop:=Paired λp q=>p.1=q.1/\H q.2.1=some (.tup (p.1.map kV))/\Zw p.2 q.2.2
theorem KT.val {H:Hp}{kvs:List (List Key×V)}{xs:List (List Key×Addr×Value)}(r:KT H kvs xs)(k:List Key):Y8 (Xr kvs k) ((atKey xs k).map (·.2)):=by
 induction r with
 | nil=>exact True.intro
 | @cons p q ps qs h t ih=>
  obtain⟨h1,_,h2⟩:=h;by_cases e:p.1=k
  .have e':q.1=k:=h1.symm.trans e
   have b:atKey (q::qs) k=some q.2:=by simp[atKey,xI,e']
   rw[Sm e,b];exact h2
  .have e':¬ q.1=k:=λz=>e (h1.trans z)
   have b:atKey (q::qs) k=atKey qs k:=by simp[atKey,xI,e']
   rw[Rv e,b];exact ih
theorem KT.repl (r:KT H kvs xs)(k:List Key)(ry:Zw y u):
  KT H (kvs.map λkv=>if kv.1=k then (kv.1,y) else kv) (xs.map (putAt k u)):=by
 induction r with
 | nil=>exact .nil
 | @cons p q ps qs h t ih=>
  rw[yL,yL];refine .cons ?_ ih;obtain⟨h1,h2,h3⟩:=h;unfold putAt;by_cases e:p.1=k
  .rw[if_pos e,if_pos (h1.symm.trans e)];exact#[h1,h2,ry]
  .rw[if_neg e,if_neg (λz=>e (h1.trans z))];exact#[h1,h2,h3]
theorem KT.put (r:KT H kvs xs)(k:List Key)(hb:H b=some (.tup (k.map kV)))(ry:Zw y u):
  KT H (putK kvs k y) (storedH xs k b u):=by
 have e:(kvs.any λkv=>decide (kv.1=k))=(atKey xs k).isSome:=by
  rw[Nt,(r.val k).isSome_eq,Option.isSome_map]
 unfold putK storedH;rw[e];by_cases q:(atKey xs k).isSome=true
 .rw[if_pos q,if_pos q];exact r.repl k ry
 .rw[if_neg q,if_neg q];exact Paired.snoc r #[rfl,hb,ry]
theorem KT.keeps (r:KT H kvs xs)(ht:∀b ys,H b=some (.tup ys)->H' b=some (.tup ys)):KT H' kvs xs:=
 Paired.mapP r λ_ _ z=>#[z.1,ht _ _ z.2.1,z.2.2]
section
variable {P:Program}{w:World}{H:Hp}{h:Heap}{a:Addr}
theorem Lz (ok:HOk P w H h)(e:Rd H a u):YF P w H h a u:=e.ok ok
theorem Pm (ok:HOk P w H h)(e:Rd H a (.dK kvs)):kvs.length<=sizeLine/\(a==sysModules)=false/\∃vs,KV kvs vs/\h.DictOf (Xb P w) a vs:=
 show YF P w H h a (.dK kvs) from Lz ok e
theorem dk_of (ok:HOk P w H h)(e:H a=some (.dK kvs)):kvs.length<=sizeLine/\(a==sysModules)=false/\∃vs,KV kvs vs/\h.DictOf (Xb P w) a vs:=Pm ok (.inl e)
theorem Q4 {ks:List Key}(ok:HOk P w H h)(e:H a=some (.tup (ks.map kV))):(tupleKind (Xb P w)).is h ks a:=by
 obtain⟨_,aY,r,o,h1,h2,n,h3⟩:=(show YF P w H h a (.tup (ks.map kV)) from ok a _ e);exact#[o,aY.toArray,n,h1,h2,h3,by simpa using N0 r]
theorem Pa (ok:HOk P w H h)(e:Rd H a (.dT kvs)):kvs.length<=sizeLine/\(a==sysModules)=false/\
  ∃xs,KT H kvs xs/\h.DictOfH (tupleKind (Xb P w)) a xs:=by
 obtain⟨z,y,xs,r,o,es,ep,h1,h2,h3,h4,h5⟩:=(show YF P w H h a (.dT kvs) from Lz ok e);refine#[z,y,xs,r,o,es,ep,h1,h2,h3,h4,λx hx=>?_,h5];have all:∀ {l:List (List Key×V)} {m:List (List Key×Addr×Value)},KT H l m->∀x∈m,(tupleKind (Xb P w)).is h x.1 x.2.1:=by
  intro l m q
  induction q with
  | nil=>intro x hx;exact nomatch hx
  | @cons p q ps qs hq t ih=>
   intro x hx;rcases zT.mp hx with e|hx
   .subst e;exact Q4 ok (by rw[<- hq.1];exact hq.2.1)
   .exact ih x hx
 exact all r x hx
theorem dt_of (ok:HOk P w H h)(e:H a=some (.dT kvs)):kvs.length<=sizeLine/\(a==sysModules)=false/\
  ∃xs,KT H kvs xs/\h.DictOfH (tupleKind (Xb P w)) a xs:=Pa ok (.inl e)
end
def Uj (H:Hp)(a:Addr)(y:V)(r:Option V):Prop:=
 (∃kvs k,Rd H a (.dK kvs)/\y=kV k/\r=Xr kvs k)\/∃kvs k b,Rd H a (.dT kvs)/\y=.ref b/\H b=some (.tup (k.map kV))/\r=Xr kvs k
def UT (H:Hp)(a:Addr)(y v:V)(H':Hp):Prop:=
 (∃kvs k,H a=some (.dK kvs)/\y=kV k/\kvs.length<sizeLine/\H'=upd H a (.dK (putK kvs k v)))\/
 ∃kvs k b,H a=some (.dT kvs)/\y=.ref b/\H b=some (.tup (k.map kV))/\kvs.length<sizeLine/\H'=upd H a (.dT (putK kvs k v))
theorem Uj.k {H:Hp}{a:Addr}{kvs:List (Key×V)}{k:Key}(e:H a=some (.dK kvs)):Uj H a (kV k) (Xr kvs k):=.inl #[kvs,k,.inl e,rfl,rfl]
theorem UT.k {H:Hp}{a:Addr}{kvs:List (Key×V)}{k:Key}{v:V}(e:H a=some (.dK kvs))(hl:kvs.length<sizeLine):UT H a (kV k) v (upd H a (.dK (putK kvs k v))):=.inl #[kvs,k,e,rfl,hl,rfl]
section
variable {X:Cx}{aA:LA}{σ:St}{H:Hp}{s:Shared}{a:Addr}{y v:V}{u r:Value}{o:Option V}{A:Around}{E:Value->Shared->Prop}
theorem Inv.big (I:Inv X aA σ H s):sysModules<s.heap.objs.size:=by
 have h:mainGlobals<s.heap.objs.size:=(I.mod.glob.keeps I.bk).lt;exact Nat.lt_trans ⋯ h
theorem OG (I:Inv X aA σ H s)(mu:Mut (H a))(hs:Heap.SameBut a s.heap h')(he:∃q,h'.get? a=some q)(new:YF X.prog X.w (upd H a ob) h' a ob):
  Inv X aA σ (upd H a ob) { s with heap:=h',toks:=t' }:=
 I.write (x:=a) (e:=a) mu (.inl rfl) (λb q hb z=>(hs.2 b hb).trans z) he new
theorem J3 (z:kvs.length<=sizeLine)(hd:(a==sysModules)=false)(bA:KV kvs vs)(dd:h'.DictOf (Xb P w) a vs):
  YF P w H' h' a (.dK kvs):=#[z,hd,vs,bA,dd]
theorem Gb (hu:A.units+1<cLine)(I:Inv X aA σ H s)(g:UT H a y v H')(ry:Zw y u)(rv:Zw v r)(h:∀s',Inv X aA σ H' s'->Q Unit.unit s'):
  wpAny (mX X) A (setItem (.ref a) u r) Q E s:=by
 rcases g with ⟨kvs,k,e,ey,l,eH⟩|⟨kvs,k,b,e,ey,eb,l,eH⟩
 .subst ey eH;obtain⟨z,hd,vs,bA,dd⟩:=dk_of I.hok e;have hz:vs.length<=sizeLine:=by rw[<- bA.length];exact z
  have hl:(putK kvs k v).length<=sizeLine:=by have:=NK kvs k v;omega
  refine wpAny_setItem_pairs (hsz:=hz) (QP ry) dd λh' dd' hs=>h _ ?_
  have he:∃q,h'.get? a=some q:=let #[q,_,_,hq,_]:=dd';#[q,hq]
  exact OG I (by rw[e];exact True.intro) hs he (J3 hl hd (bA.put k rv) dd')
 .subst ey eH;cases (show u=Value.ref b from ry);obtain⟨z,hd,xs,bA,dd⟩:=dt_of I.hok e;have hz:xs.length<=sizeLine:=by rw[<- Paired.length bA];exact z
  have hl:(putK kvs k v).length<=sizeLine:=by have:=NK kvs k v;omega
  refine wpAny_setItem_heap (hsz:=hz) (tupleKind_room_in1 hu) (Q4 I.hok eb) dd λh' dd' hs=>h _ ?_
  obtain⟨q,es,ep,hq,h2,h3,h4,_,h5⟩:=dd';refine OG I (by rw[e];exact True.intro) hs #[q,hq] #[hl,hd,_,(bA.put k eb rv).keeps λc ys ec=>?_,q,es,ep,hq,h2,h3,h4,h5];rw[ZV (Tj ec e (λz=>nomatch z))];exact ec
end
section
variable {X:Cx}{aA:LA}{σ:St}{H:Hp}{s:Shared}{a:Addr}{kvs:List (Key×V)}{k:Key}{u:Value}{A:Around}{E:Value->Shared->Prop}
end
def sDPut (td ty tv:TE):TS:=λD σ H=>tv σ H λv H1=>td σ H1 λx H2=>ty σ H2 λy H3=>∃a H4,x=.ref a/\UT H3 a y v H4/\D.nx σ H4
section
variable {X:Cx}{o i e value:Expr}{pos pos' tpos:Pos}{td ty tv:TE}
theorem AW (hu:X.A.units+1<cLine)(ho:PE X o td)(hi:PE X i ty)(hv:PE X value tv)(hs:swapsWith value (some (.Subscript o i pos')) pos.line X.env=pure false):
  PS X (.Assign [.Subscript o i pos'] value pos) (sDPut td ty tv):=by
 intro aA s σ H D I h;refine wpAny_Assign_Subscript (thn (hv aA s σ H _ I h) λr s1 #[v,H1,I1,rv,q1]=>thn (ho aA s1 σ H1 _ I1 q1) λu s2 #[x,H2,I2,rx,q2]=>thn (hi aA s2 σ H2 _ I2 q2) λiv s3 #[y,H3,I3,ry,a,H4,ex,g,q3]=>?_) hs;subst ex;obtain rfl:u=Value.ref a:=rx;exact Gb hu I3 g ry rv λs4 I4=>#[σ,H4,I4,q3]
end
theorem Cd (h:Heap)(hb:sysModules<h.objs.size):YF P w H (h.push { cls:=.type "dict",data:=.dict (List.toArray []) }) h.objs.size (.dK []):=
 #[zL _,beq_eq_false_iff_ne.mpr (Ne.symm (zN hb)),[],.nil,Heap.DictOf.new h]
def GU:TE:=λ_ H Q=>∀p,H p=none->Q (.ref p) (upd H p (.dK []))
section
variable {X:Cx}{pos:Pos}
theorem IU:PE X (.Dict [] [] pos) GU:=λaA s σ H Q I h=>
 wpAny_Dict_empty #[.ref s.heap.objs.size,_,I.laid (a:=s.heap.objs.size) (o:=.dK []) (t':=s.toks) (λ_ _ q=>Heap.get?_push_of_some _ q) (zA _) (Cd s.heap I.big),rfl,h _ (I.hok.fresh (zA _))]
end
structure M1 (X:Cx)(o:Expr)(m:Str)(aL:Pos)(e:Expr)(aK:Pos):Prop where
 base:attributeBase o m X.env (eval o X.env)=eval o X.env
 few:((backTo aK (starEach [e] X.env)).all (λx=>!x.1)&&(backToKw aK (keywordEach [] X.env)).all (λx=>x.1.isSome)
 &&decide (([e]:List Expr).length+([]:List Keyword).length+(if ([]:List Keyword).isEmpty then 0 else 1)<30))=true
 line:(aL.endLine==aK.line)=true
 trees:backTo aK (starEach [e] X.env)=[(false,eval e X.env)]
structure M2 (X:Cx)(o:Expr)(m:Str)(aL:Pos)(e f:Expr)(aK:Pos):Prop where
 base:attributeBase o m X.env (eval o X.env)=eval o X.env
 few:((backTo aK (starEach [e,f] X.env)).all (λx=>!x.1)&&(backToKw aK (keywordEach [] X.env)).all (λx=>x.1.isSome)
 &&decide (([e,f]:List Expr).length+([]:List Keyword).length+(if ([]:List Keyword).isEmpty then 0 else 1)<30))=true
 line:(aL.endLine==aK.line)=true
 trees:backTo aK (starEach [e,f] X.env)=[(false,eval e X.env),(false,eval f X.env)]
def IsD (H:Hp)(a:Addr):Prop:=(∃kvs,Rd H a (.dK kvs))\/∃kvs,Rd H a (.dT kvs)
theorem FH (I:Inv X aA σ H s)(d:IsD H a):
  s.TypeIs (.ref a) "dict"/\(∀b,Value.ref a=.ref b->∃ob,s.heap.get? b=some ob/\ob.dict=none)/\(a==sysModules)=false:=by
 rcases d with ⟨kvs,e⟩|⟨kvs,e⟩
 .obtain⟨_,hd,vs,_,dd⟩:=Pm I.hok e;refine#[dd.typeIs,λb q=>?_,hd];cases q;obtain⟨ob,_,_,h1,h2,_⟩:=dd;exact#[ob,h1,h2.2.1]
 .obtain⟨_,hd,xs,_,dd⟩:=Pa I.hok e;refine#[dd.typeIs,λb q=>?_,hd];cases q;obtain⟨ob,_,_,h1,h2,_⟩:=dd;exact#[ob,h1,h2.2.1]
section
variable {X:Cx}{aA:LA}{σ:St}{H:Hp}{s:Shared}{a:Addr}{y d:V}{u r:Value}{o:Option V}{A:Around}{E:Value->Shared->Prop}
theorem EM (hu:A.units+1<cLine)(I:Inv X aA σ H s)(g:Uj H a y o)(ry:Zw y u)(rd:Zw d r)(h:∀w' s',Inv X aA σ H s'->Zw (o.getD d) w'->Q w' s'):
  wpAny (mX X) A (call (.builtin "dict.get") [.ref a,u,r]) Q E s:=by
 rcases g with ⟨kvs,k,e,ey,l⟩|⟨kvs,k,b,e,ey,eb,l⟩
 .subst ey;obtain⟨z,hd,vs,bA,dd⟩:=Pm I.hok e;refine call_meetsIn PySem.F.slot_dict_get dd.typeIs PySem.F.entry_dict_get (PySem.F.args_dict_get_3 _ _ _) (meets_dict_get_default (Xb X.prog X.w) a (QP ry) hd r) #[_,dd.mapOf,h _ _ (I.tok _) ?_];rw[l];exact(bA.val k).getD rd
 .subst ey;cases (show u=Value.ref b from ry);obtain⟨z,hd,xs,bA,dd⟩:=Pa I.hok e;refine call_meetsIn PySem.F.slot_dict_get dd.typeIs PySem.F.entry_dict_get (PySem.F.args_dict_get_3 _ _ _) (meetsH_dict_get_default (tupleKind (Xb X.prog X.w)) a b hd r) #[tupleKind_room_in1 hu,k,xs,Q4 I.hok eb,dd,h _ _ (I.tok _) ?_];rw[l];exact(bA.val k).getD rd
end
def Eb (td ty tx:TE):TE:=λσ H Q=>td σ H λx H1=>∃a,x=.ref a/\IsD H1 a/\ty σ H1 λy H2=>tx σ H2 λz H3=>∃o,Uj H3 a y o/\Q (o.getD z) H3
section
variable {X:Cx}{o e f:Expr}{aL aK:Pos}{td ty tx:TE}
theorem FY (hu:X.A.units+1<cLine)(ho:PE X o td)(he:PE X e ty)(hf:PE X f tx)(m:M2 X o "get" aL e f aK):PE X (.Call (.Attribute o "get" aL) [e,f] [] aK) (Eb td ty tx):=by
 intro aA s σ H Q I h;refine wpAny_Call_method m.base m.few m.line PySem.F.plainAttrs_dict PySem.F.slot_dict_get PySem.F.type_dict_get (thn (ho aA s σ H _ I h) λu s1 #[x,H1,I1,rx,a,ex,d,q1]=>?_);subst ex;obtain rfl:u=Value.ref a:=rx;obtain⟨t1,t2,_⟩:=FH I1 d;refine#[t1,t2,?_];rw[m.trees];refine Calls.callWith_builtin rfl (Calls.evalArgs_plain (Calls.spliced_cons (thn (he aA s1 σ H1 _ I1 q1) λiv s2 #[y,H2,I2,ry,q2]=>
  Calls.spliced_cons (thn (hf aA s2 σ H2 _ I2 q2) λfv s3 #[z,H3,I3,rz,ov,g,q3]=>Calls.spliced_nil ?_))))
 exact EM hu I3 g ry rz λw' s4 I4 rw'=>#[_,H3,I4,rw',q3]
end
section
variable {X:Cx}{aA:LA}{σ:St}{H:Hp}{s:Shared}{a:Addr}{kvs:List (Key×V)}{A:Around}{E:Value->Shared->Prop}
end
section
variable {X:Cx}{aA:LA}{σ:St}{H:Hp}{s:Shared}{a:Addr}{y:V}{u:Value}{A:Around}{E:Value->Shared->Prop}
end
end L2
namespace L3
open PySem PySem.Spec PyProof.Rows L2
abbrev St:=L2.St
inductive D where
 | non|bl (b:Bool)|int (i:Int)|str (x:Str)|tup (xs:List D)|ref (n:Nat)|exc (c:Addr)
inductive Ob where
 | lst (xs:List D)|frz (xs:List D)
  | ins (C:Addr) (fs:List (Str×D))
  | dct (kvs:List (List Key×D))
  | tpl (ws:List Str)
  | dck (kvs:List (Key×D))
  | cod (P:Addr) (pos:Pos) (q:Str)
abbrev Sto:=List Ob
abbrev Ev:=List (Option D)
abbrev DK:=D->Sto->Prop
abbrev TDE:=Ev->Sto->DK->Prop
abbrev TDT:=Ev->Sto->(Bool->Sto->Prop)->Prop
abbrev TDA:=Ev->Sto->(List D->Sto->Prop)->Prop
structure Xn where
 nx:Ev->Sto->Prop
 rt:DK
 bk:Ev->Sto->Prop:=λ_ _=>False
 ct:Ev->Sto->Prop:=λ_ _=>False
abbrev TDS:=Xn->Ev->Sto->Prop
def isX (a c:Addr):HO:=.ext λh=>∃o,h.get? a=some o/\o.cls=.ref c
inductive Rp (r:List Addr)(H:Hp):D->V->Prop
 | non:Rp r H .non .non
 | bl (b:Bool):Rp r H (.bl b) (.bl b)
 | int (i:Int):Rp r H (.int i) (.int i)
 | str (x:Str):Rp r H (.str x) (.str x)
 | tup {ds:List D} {xs:List V} {a:Addr}:H a=some (.tup xs)->ds.length=xs.length->(∀(i:Nat)(d:D)(v:V),ds[i]?=some d->xs[i]?=some v->Rp r H d v)->Rp r H (.tup ds) (.ref a)
 | ref {n:Nat} {a:Addr}:r[n]?=some a->Rp r H (.ref n) (.ref a)
 | exc {c a:Addr}:H a=some (isX a c)->Rp r H (.exc c) (.ref a)
def Rps (r:List Addr)(H:Hp)(ds:List D)(vs:List V):Prop:=ds.length=vs.length/\∀(i:Nat)(d:D)(v:V),ds[i]?=some d->vs[i]?=some v->Rp r H d v
structure Ext (r r':List Addr)(H H':Hp):Prop where
 adr:∀(n:Nat)(a:Addr),r[n]?=some a->r'[n]?=some a
 tup:∀a xs,H a=some (.tup xs)->H' a=some (.tup xs)
 xc:∀a φ,H a=some (.ext φ)->H' a=some (.ext φ)
theorem Ext.refl:Ext r r H H:=#[λ_ _ h=>h,λ_ _ h=>h,λ_ _ h=>h]
theorem Ext.trans (a:Ext r r' H H')(b:Ext r' r2 H' H2):Ext r r2 H H2:=#[λn x h=>b.adr n x (a.adr n x h),λx y h=>b.tup x y (a.tup x y h),λx y h=>b.xc x y (a.xc x y h)]
theorem Rp.ext (h:Rp r H d v)(e:Ext r r' H H'):Rp r' H' d v:=by
 induction h with
 | non=>exact .non
 | bl b=>exact .bl b
 | int i=>exact .int i
 | str x=>exact .str x
 | tup h l _ ih=>exact .tup (e.tup _ _ h) l ih
 | ref h=>exact .ref (e.adr _ _ h)
 | exc h=>exact .exc (e.xc _ _ h)
theorem Rps.ext (h:Rps r H ds vs)(e:Ext r r' H H'):Rps r' H' ds vs:=#[h.1,λi d v h1 h2=>(h.2 i d v h1 h2).ext e]
theorem Rps.nil:Rps r H [] []:=#[rfl,λi d v h=>by simp at h]
theorem Rps.cons (h:Rp r H d v)(t:Rps r H ds vs):Rps r H (d::ds) (v::vs):=by
 refine#[by simp[t.1],λi x y h1 h2=>?_];cases i with
 | zero=>
  simp at h1 h2;subst h1;subst h2
  exact h
 | succ i=>exact t.2 i x y (by simpa using h1) (by simpa using h2)
theorem Rps.tail (h:Rps r H (d::ds) (y::vs)):Rp r H d y/\Rps r H ds vs:=
 #[h.2 0 d y rfl rfl,by simpa using h.1,λi a b h1 h2=>h.2 (i+1) a b (by simpa using h1) (by simpa using h2)]
theorem Rps.uncons (h:Rps r H (d::ds) vs):∃v vs',vs=v::vs'/\Rp r H d v/\Rps r H ds vs':=by
 cases vs with
 | nil=>exact absurd h.1 (by simp)
 | cons v vs'=>exact#[v,vs',rfl,h.tail]
theorem Rps.unnil (h:Rps r H [] vs):vs=[]:=by
 cases vs with
 | nil=>rfl
 | cons v vs'=>exact absurd h.1 (by simp)
theorem Rps.get {i:Nat}(h:Rps r H ds vs)(e:ds[i]?=some d):∃v,vs[i]?=some v/\Rp r H d v:=by
 have hi:i<ds.length:=(zC.mp e).1
 have hv:i<vs.length:=by rw[<- h.1];exact hi
 exact#[vs[i],by simp[hv],h.2 i d vs[i] e (by simp[hv])]
theorem Rps.get' {i:Nat}(h:Rps r H ds vs)(e:vs[i]?=some v):∃d,ds[i]?=some d/\Rp r H d v:=by
 have hv:i<vs.length:=(zC.mp e).1
 have hi:i<ds.length:=by rw[h.1];exact hv
 exact#[ds[i],by simp[hi],h.2 i ds[i] v (by simp[hi]) e]
theorem Rps.snoc (h:Rps r H ds vs)(t:Rp r H d v):Rps r H (ds++[d]) (vs++[v]):=by
 refine#[by simp[h.1],λi x y h1 h2=>?_];by_cases hi:i<ds.length
 .rw[zJ hi] at h1;rw[zJ (by rw[<- h.1];exact hi)] at h2;exact h.2 i x y h1 h2
 .have hl:i<(ds++[d]).length:=(zC.mp h1).1
  have e:i=ds.length:=by simp at hl;omega
  subst e;rw[h.1,yO (zA _)] at h2;simp at h1 h2;subst h1;subst h2
  exact t
theorem Rps.tupR (h:Rps r H ds vs)(e:H a=some (.tup vs)):Rp r H (.tup ds) (.ref a):=.tup e h.1 h.2
theorem Rp.untup {vs:V}(h:Rp r H (.tup ds) vs):∃a xs,vs=.ref a/\H a=some (.tup xs)/\Rps r H ds xs:=by
 cases h with
 | tup e l f=>exact#[_,_,rfl,e,l,f]
def SqF (K:Fg)(H:Hp)(a:Addr)(xs:List V):Prop:=
 (∃o,H a=some (.frz o (.lst xs)))\/
  ∃(o:Obj)(aY:Array Value)(n:Nat),K.lookup a=some o/\o.cls=.type "list"/\o.dict=none/\o.data=.seq aY n/\aY.size<=sizeLine/\Zz xs aY.toList
theorem SqF.sql {K:Fg}{H:Hp}{a:Addr}{xs:List V}(h:SqF K H a xs):SqL K H a xs:=by
 rcases h with ⟨o,h⟩|h
 .exact .inl (.inr #[o,h])
 .exact .inr h
def FR {α:Type}(r:List Addr)(H:Hp)(fs:List (α×D))(fs':List (α×V)):Prop:=fs.map (·.1)=fs'.map (·.1)/\Rps r H (fs.map (·.2)) (fs'.map (·.2))
theorem FR.ext {α:Type}{r r':List Addr}{H H':Hp}{fs:List (α×D)}{fs':List (α×V)}(h:FR r H fs fs')(e:Ext r r' H H'):FR r' H' fs fs':=#[h.1,h.2.ext e]
theorem FR.nil {α:Type}{r:List Addr}{H:Hp}:FR (α:=α) r H [] []:=#[rfl,Rps.nil]
def Tab (pos:Pos)(q:Str)(H:Hp)(ps:Array Value):Prop:=TriplesOk ps.toList/\(codeAmong pos ps.toList=none\/∃c,codeAmong pos ps.toList=some (.ref c)/\H c=some (.ext λh=>h.CodeRec (.ref c) q))
theorem Tab.same {pos:Pos}{q:Str}{H H':Hp}{ps:Array Value}(h:Tab pos q H ps)(e:∀b φ,H b=some (.ext φ)->H' b=some (.ext φ)):Tab pos q H' ps:=#[h.1,h.2.imp id λ#[c,a,b]=>#[c,a,e _ _ b]]
def ObR (K:Fg)(r:List Addr)(H:Hp)(a:Addr):Ob->Prop
 | .lst ds=>∃xs,H a=some (.lst xs)/\Rps r H ds xs
 | .frz ds=>∃xs,SqF K H a xs/\Rps r H ds xs
 | .ins C fs=>∃dx fs',H a=some (.ins C dx fs')/\FR r H fs fs'
 | .dct kvs=>∃kvs',H a=some (.dT kvs')/\FR r H kvs kvs'
 | .dck kvs=>∃kvs',H a=some (.dK kvs')/\FR r H kvs kvs'
 | .tpl ws=>∃(o:Obj)(aY:Array Value)(n:Nat),K.lookup a=some o/\o.cls=.type "tuple"/\o.data=.seq aY n/\aY.size<=sizeLine/\Zz (ws.map V.str) aY.toList
 | .cod P pos q=>a=P/\∃ps,H a=some (.tbl ps)/\Tab pos q H ps
def WB:Ob->Bool
 | .frz _=>false
 | .tpl _=>false
 | _=>true
structure Z2 (K:Fg)(r:List Addr)(S:Sto)(H:Hp):Prop where
 len:r.length=S.length
 ob:∀(n:Nat)(a:Addr)(o:Ob),r[n]?=some a->S[n]?=some o->ObR K r H a o
 nd:∀(n m:Nat)(a:Addr)(o u:Ob),r[n]?=some a->r[m]?=some a->S[n]?=some o->S[m]?=some u->WB o=true->WB u=true->n=m
def Zk:Ob->List D
 | .lst ds=>ds
 | .frz ds=>ds
 | _=>[.exc 0]
def Y9:Ob->Option Ob
 | .lst ds=>some (.lst ds)
 | .frz ds=>some (.frz ds)
 | _=>none
def lAt (S:Sto)(n:Nat):Option Ob:=(S[n]?).bind Y9
theorem GY (h:Y9 o=some u):u=o:=by
 cases o<;>simp[Y9] at h<;>exact h.symm
theorem Y3 {S:Sto}{n:Nat}{o:Ob}(h:lAt S n=some o):S[n]?=some o/\Y9 o=some o:=by
  unfold lAt at h;cases q:S[n]? with
  | none=>
   rw[q] at h;cases h
  | some u=>
    rw[q] at h;have h':Y9 u=some o:=h
    have e:=GY h';subst e;exact#[rfl,h']
theorem ZO {S:Sto}{n:Nat}{o:Ob}(h:S[n]?=some o)(hL:Y9 o=some o):lAt S n=some o:=by
 unfold lAt;rw[h];exact hL
section
variable {K:Fg}{r r':List Addr}{S:Sto}{H H':Hp}{n:Nat}{a p:Addr}
theorem Z2.at {o:Ob}(h:Z2 K r S H)(e:S[n]?=some o):∃a,r[n]?=some a/\ObR K r H a o:=by
 have hn:n<S.length:=(zC.mp e).1
 have hr:n<r.length:=by rw[h.len];exact hn
 exact#[r[n],by simp[hr],h.ob n r[n] o (by simp[hr]) e]
theorem ObR.list {o:Ob}(h:ObR K r H a o)(hL:Y9 o=some o):∃xs,SqL K H a xs/\Rps r H (Zk o) xs:=by
 cases o with
 | lst ds=>obtain⟨xs,e,q⟩:=h;exact#[xs,SqL.of e,q]
 | frz ds=>obtain⟨xs,e,q⟩:=h;exact#[xs,e.sql,q]
 | ins C fs=>cases hL
 | dct kvs=>cases hL
 | dck kvs=>cases hL
 | tpl ws=>cases hL
 | cod P pos q=>cases hL
theorem ObR.keep {o:Ob}(q:ObR K r H a o)(x:Ext r r' H H')(ha:∀u,H a=some u->H' a=some u):ObR K r' H' a o:=by
 cases o with
 | lst ds=>obtain⟨xs,h3,h4⟩:=q;exact#[xs,ha _ h3,h4.ext x]
 | frz ds=>
  obtain⟨xs,h3,h4⟩:=q;refine#[xs,?_,h4.ext x];rcases h3 with ⟨o,h3⟩|h3
  .exact .inl #[o,ha _ h3]
  .exact .inr h3
 | ins C fs=>obtain⟨dx,fs',h3,h4⟩:=q;exact#[dx,fs',ha _ h3,h4.ext x]
 | dct kvs=>obtain⟨ks,h3,h4⟩:=q;exact#[ks,ha _ h3,h4.ext x]
 | dck kvs=>obtain⟨ks,h3,h4⟩:=q;exact#[ks,ha _ h3,h4.ext x]
 | tpl ws=>exact q
 | cod P pos q'=>obtain⟨e,ps,h3,h4⟩:=q;exact#[e,ps,ha _ h3,h4.same x.xc]
theorem ObR.own {o:Ob}(q:ObR K r H a o)(h:WB o=true):∃u,H a=some u/\(∀xs,u≠HO.tup xs)/\(∀φ,u≠HO.ext φ)/\∀z y,u≠HO.frz z y:=by
 cases o with
 | lst ds=>obtain⟨xs,h3,h4⟩:=q;exact#[_,h3,(λ_ z=>by cases z),(λ_ z=>by cases z),(λ_ _ z=>by cases z)]
 | frz ds=>cases h
 | tpl ws=>cases h
 | ins C fs=>obtain⟨dx,fs',h3,h4⟩:=q;exact#[_,h3,(λ_ z=>by cases z),(λ_ z=>by cases z),(λ_ _ z=>by cases z)]
 | dct kvs=>obtain⟨ks,h3,h4⟩:=q;exact#[_,h3,(λ_ z=>by cases z),(λ_ z=>by cases z),(λ_ _ z=>by cases z)]
 | dck kvs=>obtain⟨ks,h3,h4⟩:=q;exact#[_,h3,(λ_ z=>by cases z),(λ_ z=>by cases z),(λ_ _ z=>by cases z)]
 | cod P pos q'=>obtain⟨_,ps,h3,_⟩:=q;exact#[_,h3,(λ_ z=>by cases z),(λ_ z=>by cases z),(λ_ _ z=>by cases z)]
theorem Z2.same (h:Z2 K r S H)(e:∀b o,H b=some o->H' b=some o):Z2 K r S H':=
 #[h.len,λn a o h1 h2=>(h.ob n a o h1 h2).keep #[λ_ _ q=>q,λa xs q=>e _ _ q,λa c q=>e _ _ q] (e a),h.nd]
theorem Xk {o:HO}(h:H p=none):∀b u,H b=some u->(upd H p o) b=some u:=λb u q=>by rw[ZV (WO q h)];exact q
theorem Tw (e:(r++[p])[n]?=some b):(n<r.length/\r[n]?=some b)\/(n=r.length/\b=p):=by
 by_cases hn:n<r.length
 .rw[zJ hn] at e;exact .inl #[hn,e]
 .have hl:n<(r++[p]).length:=(zC.mp e).1
  have en:n=r.length:=by simp at hl;omega
  subst en;simp at e;exact .inr #[rfl,e.symm]
theorem Z2.pushO (h:Z2 K r S H)(hp:H p=none)(keep:∀b u,H b=some u->H' b=some u)(q:Ext r (r++[p]) H H'->ObR K (r++[p]) H' p o):Z2 K (r++[p]) (S++[o]) H'/\Ext r (r++[p]) H H':=by
 have x:Ext r (r++[p]) H H':=#[λn a e=>by
  have hn:n<r.length:=(zC.mp e).1;rw[zJ hn];exact e,λa ys e=>keep _ _ e,λa c e=>keep _ _ e]
 have sS:∀ {n:Nat} {u:Ob},n<r.length->(S++[o])[n]?=some u->S[n]?=some u:=λ{n u} hn e=>by
  rw[zJ (by rw[<- h.len];exact hn)] at e;exact e
 refine#[#[by simp[h.len],λn a u h1 h2=>?_,λn m a u w h1 h2 h3 h4 o1 o2=>?_],x]
 .rcases Tw h1 with ⟨hn,e⟩|⟨rfl,rfl⟩
  .exact(h.ob n a u e (sS hn h2)).keep x (keep a)
  .rw[h.len,yO (zA _)] at h2;simp at h2;subst h2;exact q x
 .rcases Tw h1 with ⟨hn,e⟩|⟨rfl,rfl⟩
  .rcases Tw h2 with ⟨hm,e'⟩|⟨rfl,rfl⟩
   .exact h.nd n m a u w e e' (sS hn h3) (sS hm h4) o1 o2
   .obtain⟨zs,h5,_⟩:=(h.ob n _ _ e (sS hn h3)).own o1;rw[hp] at h5;cases h5
  .rcases Tw h2 with ⟨hm,e'⟩|⟨rfl,_⟩
   .obtain⟨zs,h5,_⟩:=(h.ob m _ _ e' (sS hm h4)).own o2;rw[hp] at h5;cases h5
   .rfl
theorem Z2.push {ds:List D}{xs:List V}(h:Z2 K r S H)(hp:H p=none)(q:Rps r H ds xs):Z2 K (r++[p]) (S++[.lst ds]) (upd H p (.lst xs))/\Ext r (r++[p]) H (upd H p (.lst xs)):=
 h.pushO hp (Xk hp) λx=>#[xs,Yz,q.ext x]
theorem Z2.setO (h:Z2 K r S H)(hn:r[n]?=some a)(hS:S[n]?=some o)(ho:WB o=true)(ho':WB o'=true)(q:Ext r r H (upd H a u)->ObR K r (upd H a u) a o'):Z2 K r (S.set n o') (upd H a u)/\Ext r r H (upd H a u):=by
 obtain⟨u0,h0,t1,t2,t3⟩:=(h.ob n a _ hn hS).own ho;have x:Ext r r H (upd H a u):=#[λ_ _ e=>e,λb zs e=>by
  rw[ZV (Tj e h0 (λz=>t1 zs z.symm))];exact e,λb c e=>by
  rw[ZV (Tj e h0 (λz=>t2 c z.symm))];exact e]
 have hlt:n<S.length:=(zC.mp hS).1
 have off:∀ {m:Nat} {w:Ob},m≠n->(S.set n o')[m]?=some w->S[m]?=some w:=λ{m w} hm e=>by
  rw[zY (Ne.symm hm)] at e;exact e
 refine#[#[by simp[h.len],λm b w h1 h2=>?_,λm k b w y h1 h2 h3 h4 o1 o2=>?_],x]
 .by_cases hm:m=n
  .subst hm;rw[hn] at h1;cases h1
   rw[yK hlt] at h2;cases h2;exact q x
  .have h2':=off hm h2
   have q':=h.ob m b w h1 h2';by_cases hw:WB w=true
   .have hb:b≠a:=λz=>hm (by subst z;exact h.nd m n b w o h1 hn h2' hS hw ho)
    exact q'.keep x λz e=>by rw[ZV hb];exact e
   .cases w with
    | frz es=>
     obtain⟨zs,h3,h4⟩:=q';refine#[zs,?_,h4.ext x];rcases h3 with ⟨z,h3⟩|h3
     .exact .inl #[z,by rw[ZV (Tj h3 h0 (λy=>t3 _ _ y.symm))];exact h3]
     .exact .inr h3
    | tpl ws=>exact q'
    | _=>exact absurd rfl hw
 .have back:∀ {j:Nat} {w:Ob},(S.set n o')[j]?=some w->WB w=true->∃y,S[j]?=some y/\WB y=true:=λ{j w} e ow=>by
   by_cases hj:j=n
   .subst hj;exact#[o,hS,ho]
   .exact#[w,off hj e,ow]
  obtain⟨us',h3',q3⟩:=back h3 o1;obtain⟨ws',h4',q4⟩:=back h4 o2;exact h.nd m k b us' ws' h1 h2 h3' h4' q3 q4
theorem Z2.set {ds ds':List D}{xs:List V}(h:Z2 K r S H)(hn:r[n]?=some a)(hS:S[n]?=some (.lst ds))(q:Rps r H ds' xs):Z2 K r (S.set n (.lst ds')) (upd H a (.lst xs))/\Ext r r H (upd H a (.lst xs)):=
 h.setO hn hS rfl rfl λx=>#[xs,Yz,q.ext x]
end
def Rs (r:List Addr)(H:Hp)(dl:Ev)(σ:St):Prop:=dl.length=σ.length/\∀(i:Nat)(d:D),dl[i]?=some (some d)->∃v,σ[i]?=some (some v)/\Rp r H d v
theorem Rs.ext {r r':List Addr}{H H':Hp}{dl:Ev}{σ:St}(h:Rs r H dl σ)(e:Ext r r' H H'):Rs r' H' dl σ:=#[h.1,λi d q=>by
 obtain⟨v,h1,h2⟩:=h.2 i d q;exact#[v,h1,h2.ext e]]
theorem Rs.set {r:List Addr}{H:Hp}{dl:Ev}{σ:St}{d:D}{v:V}(i:Nat)(h:Rs r H dl σ)(q:Rp r H d v):Rs r H (dl.set i (some d)) (σ.set i (some v)):=by
 refine#[by simp[h.1],λj e hj=>?_];by_cases hij:i=j
 .subst hij;have hl:i<dl.length:=by
   have:=(zC.mp hj).1;simpa using this
  rw[yK hl] at hj;cases hj;exact#[v,by rw[yK (by rw[<- h.1];exact hl)],q]
 .rw[zY hij] at hj;obtain⟨v',h1,h2⟩:=h.2 j e hj;exact#[v',by rw[zY hij];exact h1,h2]
structure Zx where
 ex:Ev->Addr->Sto->Prop
 w:St->XK
abbrev Zc (ex:Addr->Sto->Prop)(E:XK):Zx:=#[λ_=>ex,λ_=>E]
def Ve (K:Fg)(Z:Zx)(r:List Addr)(H:Hp):Prop:=∀(dl:Ev)(σ:St)(c:Addr)(H':Hp)(r':List Addr)(S':Sto),Ext r r' H H'->Rs r' H' dl σ->Z2 K r' S' H'->Z.ex dl c S'->Z.w σ (.ref c) none H'
theorem Ve.ext {K:Fg}{Z:Zx}{r r':List Addr}{H H':Hp}(h:Ve K Z r H)(e:Ext r r' H H'):Ve K Z r' H':=λdl σ c H2 r2 S2 x=>h dl σ c H2 r2 S2 (e.trans x)
structure Rel (K:Fg)(Z:Zx)(r:List Addr)(S:Sto)(H:Hp):Prop where
 b:Z2 K r S H
 xw:Ve K Z r H
section
variable {K:Fg}{Z:Zx}{r r':List Addr}{S:Sto}{H H':Hp}{n:Nat}{a p:Addr}
theorem Rel.len (h:Rel K Z r S H):r.length=S.length:=h.b.len
theorem Rel.at {o:Ob}(h:Rel K Z r S H)(e:S[n]?=some o):∃a,r[n]?=some a/\ObR K r H a o:=h.b.at e
theorem Rel.same (h:Rel K Z r S H)(e:∀b o,H b=some o->H' b=some o):Rel K Z r S H':=#[h.b.same e,h.xw.ext #[λ_ _ q=>q,λa xs q=>e _ _ q,λa c q=>e _ _ q]]
theorem Rel.push {ds:List D}{xs:List V}(h:Rel K Z r S H)(hp:H p=none)(q:Rps r H ds xs):Rel K Z (r++[p]) (S++[.lst ds]) (upd H p (.lst xs))/\Ext r (r++[p]) H (upd H p (.lst xs)):=by
 obtain⟨h1,h2⟩:=h.b.push hp q;exact#[#[h1,h.xw.ext h2],h2]
theorem Rel.set {ds ds':List D}{xs:List V}(h:Rel K Z r S H)(hn:r[n]?=some a)(hS:S[n]?=some (.lst ds))(q:Rps r H ds' xs):Rel K Z r (S.set n (.lst ds')) (upd H a (.lst xs))/\Ext r r H (upd H a (.lst xs)):=by
 obtain⟨h1,h2⟩:=h.b.set hn hS q;exact#[#[h1,h.xw.ext h2],h2]
end
def Ret (K:Fg)(Z:Zx)(r:List Addr)(H:Hp)(Q:DK)(Qv:VK):Prop:=∀v H' r' d S',Ext r r' H H'->Rel K Z r' S' H'->Rp r' H' d v->Q d S'->Qv v H'
theorem Ret.ext {K:Fg}{Z:Zx}{r r':List Addr}{H H':Hp}{Q:DK}{Qv:VK}(h:Ret K Z r H Q Qv)(e:Ext r r' H H'):Ret K Z r' H' Q Qv:=λv H2 r2 d S2 x=>h v H2 r2 d S2 (e.trans x)
inductive up (K:Fg)(Z:Zx)(t:TDE)(σ:St)(H:Hp)(Qv:VK):Prop
 | mk (r:List Addr) (dl:Ev) (S:Sto) (Q:DK) (rs:Rs r H dl σ) (bA:Rel K Z r S H) (h:t dl S Q) (ret:Ret K Z r H Q Qv):up K Z t σ H Qv
inductive upT (K:Fg)(Z:Zx)(t:TDT)(σ:St)(H:Hp)(Qb:Bool->Hp->Prop):Prop
 | mk (r:List Addr) (dl:Ev) (S:Sto) (Q:Bool->Sto->Prop) (rs:Rs r H dl σ) (bA:Rel K Z r S H) (h:t dl S Q) (ret:∀b H' r' S',Ext r r' H H'->Rel K Z r' S' H'->Q b S'->Qb b H'):upT K Z t σ H Qb
inductive upA (K:Fg)(Z:Zx)(t:TDA)(σ:St)(H:Hp)(Qv:List V->Hp->Prop):Prop
 | mk (r:List Addr) (dl:Ev) (S:Sto) (Q:List D->Sto->Prop) (rs:Rs r H dl σ) (bA:Rel K Z r S H) (h:t dl S Q) (ret:∀vs H' r' ds S',Ext r r' H H'->Rel K Z r' S' H'->Rps r' H' ds vs->Q ds S'->Qv vs H'):upA K Z t σ H Qv
structure Uv (K:Fg)(Z:Zx)(r:List Addr)(H:Hp)(E:Xn)(F:Wc):Prop where
 nx:∀σ' H' r' dl' S',Ext r r' H H'->Rs r' H' dl' σ'->Rel K Z r' S' H'->E.nx dl' S'->F.nx σ' H'
 bk:∀σ' H' r' dl' S',Ext r r' H H'->Rs r' H' dl' σ'->Rel K Z r' S' H'->E.bk dl' S'->F.bk σ' H'
 ct:∀σ' H' r' dl' S',Ext r r' H H'->Rs r' H' dl' σ'->Rel K Z r' S' H'->E.ct dl' S'->F.ct σ' H'
 rt:Ret K Z r H E.rt F.rt
theorem Uv.ext {K:Fg}{Z:Zx}{r r':List Addr}{H H':Hp}{E:Xn}{F:Wc}(h:Uv K Z r H E F)(e:Ext r r' H H'):Uv K Z r' H' E F:=
 #[λa b c d f x=>h.nx a b c d f (e.trans x),λa b c d f x=>h.bk a b c d f (e.trans x),λa b c d f x=>h.ct a b c d f (e.trans x),h.rt.ext e]
inductive upS (K:Fg)(Z:Zx)(t:TDS)(F:Wc)(σ:St)(H:Hp):Prop
 | mk (r:List Addr) (dl:Ev) (S:Sto) (E:Xn) (rs:Rs r H dl σ) (bA:Rel K Z r S H) (h:t E dl S) (ret:Uv K Z r H E F):upS K Z t F σ H
def PD (X:Cx)(Z:Zx)(e:Expr)(t:TDE):Prop:=PE X e (up X.K Z t)
def PDT (X:Cx)(Z:Zx)(e:Expr)(t:TDT):Prop:=PT X e (upT X.K Z t)
def PDW (X:Cx)(Z:Zx)(e:Expr)(t:TDT):Prop:=PW X e (upT X.K Z t)
def PDA (X:Cx)(Z:Zx)(es:List Expr)(t:TDA):Prop:=PA X es (upA X.K Z t)
def PDS (X:Cx)(Z:Zx)(st:Stmt)(t:TDS):Prop:=PS X st (upS X.K Z t)
def YB (X:Cx)(Z:Zx)(st:List Stmt)(t:TDS):Prop:=PSs X st (upS X.K Z t)
section
variable {X:Cx}{Z:Zx}
theorem Z6 (h:PE X e t)(f:∀σ H Q,t' σ H Q->t σ H Q):PE X e t':=λaA s σ H Q I q=>h aA s σ H Q I (f σ H Q q)
theorem UB (h:PT X e t)(f:∀σ H Q,t' σ H Q->t σ H Q):PT X e t':=λaA s σ H Q I q=>h aA s σ H Q I (f σ H Q q)
theorem MG (h:PW X e t)(f:∀σ H Q,t' σ H Q->t σ H Q):PW X e t':=λwh aA s σ H Q I q=>h wh aA s σ H Q I (f σ H Q q)
theorem L4 (h:PA X e t)(f:∀σ H Q,t' σ H Q->t σ H Q):PA X e t':=λpos aA s σ H Q I q=>h pos aA s σ H Q I (f σ H Q q)
theorem Yy {e:Stmt}{t t':TS}(h:PS X e t)(f:∀F σ H,t' F σ H->t F σ H):PS X e t':=λaA s σ H F I q=>h aA s σ H F I (f F σ H q)
theorem N7 (h:PSs X e t)(f:∀F σ H,t' F σ H->t F σ H):PSs X e t':=λaA s σ H F I q=>h aA s σ H F I (f F σ H q)
theorem PDW.pt (h:PDW X Z e t):PDT X Z e t:=PW.pt h
def Xj (i:Nat):TDE:=λdl S Q=>match dl[i]? with
 | some (some d)=>Q d S
 | _=>False
def dC (d:D):TDE:=λ_ S Q=>Q d S
theorem AZ (h:PE X e (tVar i)):PD X Z e (Xj i):=Z6 h λσ H Qv #[r,dl,S,Q,rs,bA,q,ret]=>by
 unfold Xj at q;split at q
 .rename_i d e;obtain⟨v,h1,h2⟩:=rs.2 i d e;exact#[v,h1,ret v H r d S Ext.refl bA h2 q]
 .exact q.elim
theorem dv (i:Nat)(hN:X.N[i]?=some x:=by rfl)(hv:Vis X.env.scope x:=by first|exact Or.inl rfl|exact Or.inr (Or.inl rfl)|exact Or.inr (Or.inr rfl))(hd:(x==("__debug__":Str))=false:=by decide)(hcd:(x==("__classdict__":Str))=false:=by decide):PD X Z (.Name x pos) (Xj i):=AZ (LB hN hv hd hcd)
theorem Ru (h:PE X e (tC v))(q:∀r H,Rp r H d v):PD X Z e (dC d):=Z6 h λσ H Qv #[r,dl,S,Q,rs,bA,h,ret]=>ret v H r d S Ext.refl bA (q r H) h
theorem Zb {i j pos}:PD X Z (.Constant (.int i) j pos) (dC (.int i)):=Ru HD λ_ _=>.int i
theorem VJ {b j pos}:PD X Z (.Constant (.bool b) j pos) (dC (.bl b)):=Ru pe_bl λ_ _=>.bl b
theorem ZR {j pos}:PD X Z (.Constant .none j pos) (dC .non):=Ru ER λ_ _=>.non
theorem ZJ {x j pos}:PD X Z (.Constant (.str x) j pos) (dC (.str x)):=Ru Cz λ_ _=>.str x
abbrev W2:=D->D->Sto->DK->Prop
abbrev W1:=D->Sto->DK->Prop
inductive upO (K:Fg)(Z:Zx)(w:W2)(x y:V)(H:Hp)(Qv:VK):Prop
 | mk (r:List Addr) (S:Sto) (dx dy:D) (Q:DK) (bA:Rel K Z r S H) (px:Rp r H dx x) (py:Rp r H dy y) (q:w dx dy S Q) (ret:Ret K Z r H Q Qv):upO K Z w x y H Qv
inductive upU (K:Fg)(Z:Zx)(w:W1)(x:V)(H:Hp)(Qv:VK):Prop
 | mk (r:List Addr) (S:Sto) (dx:D) (Q:DK) (bA:Rel K Z r S H) (px:Rp r H dx x) (q:w dx S Q) (ret:Ret K Z r H Q Qv):upU K Z w x H Qv
def dOp (w:W2)(ta tb:TDE):TDE:=λdl S Q=>ta dl S λx S1=>tb dl S1 λy S2=>w x y S2 Q
def dUn (w:W1)(ta:TDE):TDE:=λdl S Q=>ta dl S λx S1=>w x S1 Q
variable {a b c:Expr}{ta tb tc:TDE}{pos:Pos}
theorem Rr (h:up X.K Z (dOp w ta tb) σ H Qv):tOp (upO X.K Z w) (up X.K Z ta) (up X.K Z tb) σ H Qv:=by
 obtain⟨r,dl,S,Q,rs,bA,h,ret⟩:=h;exact#[r,dl,S,_,rs,bA,h,λv H1 r1 dx S1 e1 aE p1 h1=>#[r1,dl,S1,_,rs.ext e1,aE,h1,λv2 H2 r2 dy S2 e2 aF p2 h2=>#[r2,S2,dx,dy,Q,aF,p1.ext e2,p2,h2,ret.ext (e1.trans e2)]]]
theorem Ze (ho:OpR X (binaryOp op) (upO X.K Z w))(ha:PD X Z a ta)(hb:PD X Z b tb):PD X Z (.BinOp a op b pos) (dOp w ta tb):=Z6 (pe_op ho ha hb) λ_ _ _ h=>Rr h
theorem XO (ho:UnR X (unaryOp op) (upU X.K Z w))(ha:PD X Z a ta):PD X Z (.UnaryOp op a pos) (dUn w ta):=Z6 (pe_un ho ha) λσ H Qv #[r,dl,S,Q,rs,bA,h,ret]=>
 #[r,dl,S,_,rs,bA,h,λv H1 r1 dx S1 e1 aE p1 h1=>#[r1,S1,dx,Q,aE,p1,h1,ret.ext e1]]
theorem Xm (ho:OpR X (compareOp op) (upO X.K Z w))(ha:PD X Z a ta)(hb:PD X Z b tb)(hm:behindInMarks op b=false):PD X Z (.Compare a [op] [b] pos) (dOp w ta tb):=Z6 (IY ho ha hb hm) λ_ _ _ h=>Rr h
theorem Vh {f:Value->Value->Sem Value}{r r':R2}(h:OpR X f r)(g:∀x y H Q,r' x y H Q->r x y H Q):OpR X f r':=λaA s σ H x y v u Q I rx ry q=>h aA s σ H x y v u Q I rx ry (g x y H Q q)
theorem Dh {f:Value->Sem Value}{r r':V->Hp->VK->Prop}(h:UnR X f r)(g:∀x H Q,r' x H Q->r x H Q):UnR X f r':=λaA s σ H x v Q I rx q=>h aA s σ H x v Q I rx (g x H Q q)
theorem Pu {f:Value}{r r':List V->Hp->VK->Prop}(h:Yx X f r)(g:∀x H Q,r' x H Q->r x H Q):Yx X f r':=λaA s σ H xs us Q I rx q=>h aA s σ H xs us Q I rx (g xs H Q q)
def wI (C:Int->Int->Prop)(g:Int->Int->D):W2:=λx y S Q=>match x,y with
 | .int i,.int j=>C i j/\Q (g i j) S
 | _,_=>False
def wI0 (g:Int->Int->D):W2:=λx y S Q=>match x,y with
 | .int i,.int j=>Q (g i j) S
 | _,_=>False
theorem opD (h:OpR X f (rI C g))(hg:∀r H i j,Rp r H (g' i j) (g i j)):OpR X f (upO X.K Z (wI C g')):=
 Vh h λx y H Qv #[r,S,dx,dy,Q,bA,px,py,q,ret]=>by
  cases px<;>cases py<;>first
   | exact#[_,_,rfl,rfl,q.1,ret _ _ _ _ _ Ext.refl bA (hg _ _ _ _) q.2]
   | exact(show False from q).elim
theorem Ud (h:OpR X f (rI0 g))(hg:∀r H i j,Rp r H (g' i j) (g i j)):OpR X f (upO X.K Z (wI0 g')):=
 Vh h λx y H Qv #[r,S,dx,dy,Q,bA,px,py,q,ret]=>by
  cases px<;>cases py<;>first
   | exact#[_,_,rfl,rfl,ret _ _ _ _ _ Ext.refl bA (hg _ _ _ _) q]
   | exact(show False from q).elim
abbrev wAdd:W2:=wI0 λi j=>.int (i+j)
abbrev wSub:W2:=wI0 λi j=>.int (i-j)
abbrev wMul:W2:=wI IntMulOk λi j=>.int (i*j)
def CFd (_ j:Int):Prop:=0<j/\j.natAbs.log2<9000
abbrev wFdiv:W2:=wI CFd λi j=>.int (i/j)
def CFn (_ j:Int):Prop:=j≠0/\j.natAbs.log2<9000
abbrev Ak:W2:=wI CFn λi j=>.int (i.fdiv j)
abbrev wMod:W2:=wI (λ_ j=>0<j) λi j=>.int (i%j)
abbrev wPow:W2:=wI SW λi j=>.int (i^j.toNat)
theorem ZL:OpR X (binaryOp .Add) (upO X.K Z wAdd):=Ud Cv λ_ _ _ _=>.int _
theorem Z4:OpR X (binaryOp .Sub) (upO X.K Z wSub):=Ud Jp λ_ _ _ _=>.int _
theorem ZH:OpR X (binaryOp .Mult) (upO X.K Z wMul):=opD (opI λ_ _ _ _ _ _ _ hc q=>mul_int q hc) λ_ _ _ _=>.int _
theorem Yp:OpR X (binaryOp .FloorDiv) (upO X.K Z wFdiv):=opD (opI λi j _ _ _ _ _ hc q=>floordiv_int (by have h:0<j:=hc.1;omega) (by have h:0<j:=hc.1;rw[wK i (by omega)];exact q) (.inl (PyProof.noPylong_of_log2 hc.2))) λ_ _ _ _=>.int _
theorem Ff:OpR X (binaryOp .FloorDiv) (upO X.K Z Ak):=opD (opI λ_ _ _ _ _ _ _ hc q=>floordiv_int hc.1 q (.inl (PyProof.noPylong_of_log2 hc.2))) λ_ _ _ _=>.int _
theorem Yc:OpR X (binaryOp .Mod) (upO X.K Z wMod):=opD Fp λ_ _ _ _=>.int _
theorem Je:OpR X (binaryOp .Pow) (upO X.K Z wPow):=opD GG λ_ _ _ _=>.int _
abbrev wLt:W2:=wI0 λi j=>.bl (decide (i<j))
abbrev wLe:W2:=wI0 λi j=>.bl (decide (i<=j))
abbrev wGt:W2:=wI0 λi j=>.bl (decide (j<i))
abbrev wGe:W2:=wI0 λi j=>.bl (decide (j<=i))
theorem YJ:OpR X (compareOp .Lt) (upO X.K Z wLt):=Ud op_lt λ_ _ _ _=>.bl _
theorem V0:OpR X (compareOp .LtE) (upO X.K Z wLe):=Ud op_le λ_ _ _ _=>.bl _
theorem Xy:OpR X (compareOp .Gt) (upO X.K Z wGt):=Ud op_gt λ_ _ _ _=>.bl _
theorem Ry:OpR X (compareOp .GtE) (upO X.K Z wGe):=Ud op_ge λ_ _ _ _=>.bl _
def wNeg:W1:=λx S Q=>match x with
 | .int i=>Q (.int (-i)) S
 | _=>False
theorem XT:UnR X (unaryOp .USub) (upU X.K Z wNeg):=Dh zap λx H Qv #[r,S,dx,Q,bA,px,q,ret]=>by
 cases px<;>first
  | exact#[_,rfl,ret _ _ _ _ _ Ext.refl bA (.int _) q]
  | exact(show False from q).elim
end
def eqF:D->D->Option Bool
 | .non,.non=>some true
 | .bl i,.bl j=>some (i==j)
 | .int i,.int j=>some (decide (i=j))
 | .str i,.str j=>some (decide (i=j))
 | .non,.int _=>some false|.int _,.non=>some false|.non,.bl _=>some false|.bl _,.non=>some false|.non,.str _=>some false|.str _,.non=>some false
 | .int _,.str _=>some false|.str _,.int _=>some false|.bl _,.str _=>some false|.str _,.bl _=>some false
 | _,_=>none
def eqL (f:D->D->Option Bool):List D->List D->Option Bool
 | [],[]=>some true
 | x::xs,y::ys=>match f x y,eqL f xs ys with
  | some b,some c=>some (b&&c)
  | _,_=>none
 | _,_=>some false
def eqT (f:D->D->Option Bool):D->D->Option Bool
 | .tup xs,.tup ys=>eqL f xs ys
 | x,y=>eqF x y
abbrev eq1:D->D->Option Bool:=eqT eqF
abbrev eq2:D->D->Option Bool:=eqT eq1
def WS (n:Nat)(f:D->D->Option Bool):Prop:=∀(X:Cx)(aA:LA)(σ:St)(H:Hp)(s:Shared)(r:List Addr)(A:Around)(dx dy:D)(x y:V)(u v:Value)(b:Bool),
 Inv X aA σ H s->A.units+n<cLine->Rp r H dx x->Rp r H dy y->Zw x u->Zw y v->f dx dy=some b->SeqAt.EqAt A s u v b
def Uh (f:D->D->Option Bool):Prop:=∀(r:List Addr)(H:Hp)(dx dy:D)(x:V)(b:Bool),Rp r H dx x->Rp r H dy x->f dx dy=some b->b=true
theorem Vx:Uh eqF:=by
 intro r H dx dy x b px py e;cases px<;>cases py<;>simp[eqF] at e<;>first|exact e.symm|exact e
theorem L5 {f:D->D->Option Bool}(hf:Uh f){r:List Addr}{H:Hp}:∀ {xs ys:List D} {vs:List V} {b:Bool},Rps r H xs vs->Rps r H ys vs->eqL f xs ys=some b->b=true
 | [],[],_,b,_,_,e=>by simp[eqL] at e;exact e
 | [],y::ys,vs,b,p,q,e=>by
  have h1:=p.unnil;subst h1;exact absurd q.1 (by simp)
 | x::xs,[],vs,b,p,q,e=>by
  have h1:=q.unnil;subst h1;exact absurd p.1 (by simp)
 | x::xs,y::ys,vs,b,p,q,e=>by
  obtain⟨v,vs',rfl,p1,p2⟩:=p.uncons;obtain⟨q1,q2⟩:=q.tail;unfold eqL at e;split at e
  .rename_i b1 c1 e1 e2;have h1:=hf r H x y v b1 p1 q1 e1
   have h2:=L5 hf p2 q2 e2;subst h1;subst h2
   simp at e;exact e
  .cases e
theorem Lx (hf:Uh f):Uh (eqT f):=by
 intro r H dx dy x b px py e;cases px with
 | tup e1 l1 f1=>
  cases py with
  | tup e2 l2 f2=>
   rw[e1] at e2;cases e2
   exact L5 hf #[l1,f1] #[l2,f2] e
  | ref h=>simp[eqT,eqF] at e
  | exc h=>simp[eqT,eqF] at e
 | non=>exact Vx r H _ _ _ b .non py (by cases py<;>exact e)
 | bl i=>exact Vx r H _ _ _ b (.bl i) py (by cases py<;>exact e)
 | int i=>exact Vx r H _ _ _ b (.int i) py (by cases py<;>exact e)
 | str i=>exact Vx r H _ _ _ b (.str i) py (by cases py<;>exact e)
 | ref h=>cases py<;>simp[eqT,eqF] at e
 | exc h=>cases py<;>simp[eqT,eqF] at e
theorem Qe (n:Nat):WS n eqF:=by
 intro X aA σ H s r A dx dy x y u v b I hu px py rx ry e;have aZ:∀ {x y:V},Zw x u->Zw y v->Tq x=true->Tq y=true->eqV x y=b->SeqAt.EqAt A s u v b:=λrx ry fx fy e'=>by
  subst e';exact JP rx ry fx fy
 cases px<;>cases py<;>simp[eqF] at e<;>refine aZ rx ry rfl rfl ?_<;>simp[eqV,e]<;>first|exact e|(subst e;simp)|skip
theorem VP (I:Inv X aA σ H s)(h:H a=some (.tup xs)):∃aY:List Value,Zz xs aY/\IsTup s.heap a aY.toArray/\xs.length<=sizeLine:=I.tuple (SqT.of h)
def Wg (f:D->D->Option Bool)(xs ys:List D)(j:Nat):Bool:=match xs[j]?,ys[j]? with
 | some x,some y=>(f x y).getD false
 | _,_=>false
theorem MO:∀ {xs ys:List D} {b:Bool},eqL f xs ys=some b->(∀(j:Nat)(x y:D),xs[j]?=some x->ys[j]?=some y->∃c,f x y=some c)/\((List.range (min xs.length ys.length)).all (Wg f xs ys)&&xs.length==ys.length)=b
 | [],[],b,e=>by simp[eqL] at e;subst e;simp
 | [],y::ys,b,e=>by simp[eqL] at e;subst e;simp
 | x::xs,[],b,e=>by simp[eqL] at e;subst e;simp
 | x::xs,y::ys,b,e=>by
  unfold eqL at e;split at e
  .rename_i b1 c1 e1 e2;obtain⟨h1,h2⟩:=MO e2;refine#[λj p q hp hq=>?_,?_]
   .cases j with
    | zero=>simp at hp hq;subst hp;subst hq;exact#[b1,e1]
    | succ j=>exact h1 j p q (by simpa using hp) (by simpa using hq)
   .have z:min (x::xs).length (y::ys).length=min xs.length ys.length+1:=by simp[Nat.succ_min_succ]
    rw[z,List.range_succ_eq_map,List.all_cons,vU];have e0:Wg f (x::xs) (y::ys) 0=b1:=by simp[Wg,e1]
    have es:(Wg f (x::xs) (y::ys) ∘ Nat.succ)=Wg f xs ys:=by funext j;simp[Wg]
    rw[e0,es];have e3:((x::xs).length==(y::ys).length)=(xs.length==ys.length):=by simp
    rw[e3,Bool.and_assoc,h2];simp at e;exact e
  .cases e
theorem Qn {n:Nat}{f:D->D->Option Bool}(hf:WS n f){X:Cx}{aA:LA}{σ:St}{H:Hp}{s:Shared}{r:List Addr}{A:Around}{xs ys:List D}{us vs:List V}{is js:List Value}{b:Bool}
  (I:Inv X aA σ H s)(hu:A.units+n<cLine)(p:Rps r H xs us)(q:Rps r H ys vs)(ri:Zz us is)(rj:Zz vs js)(e:eqL f xs ys=some b):
  (∀j (h1:j<is.toArray.size) (h2:j<js.toArray.size),SeqAt.EqAt A s is.toArray[j] js.toArray[j] (Wg f xs ys j))/\((List.range (min is.toArray.size js.toArray.size)).all (Wg f xs ys)&&is.toArray.size==js.toArray.size)=b:=by
 obtain⟨h1,h2⟩:=MO e;have l1:is.toArray.size=xs.length:=by rw[zI,<- ri.length,p.1]
 have l2:js.toArray.size=ys.length:=by rw[zI,<- rj.length,q.1]
 refine#[λj hj1 hj2=>?_,by rw[l1,l2];exact h2];have k1:j<xs.length:=by omega
 have k2:j<ys.length:=by omega
 have g1:xs[j]?=some xs[j]:=by simp[k1]
 have g2:ys[j]?=some ys[j]:=by simp[k2]
 obtain⟨x,gx,px⟩:=p.get g1;obtain⟨y,gy,py⟩:=q.get g2;obtain⟨u,gu,ru⟩:=ri.get gx;obtain⟨v,gv,rv⟩:=rj.get gy;obtain⟨c,hc⟩:=h1 j _ _ g1 g2;have eu:is.toArray[j]=u:=by
  have z:=zC.mp gu;simpa using z.2
 have ev:js.toArray[j]=v:=by
  have z:=zC.mp gv;simpa using z.2
 have ec:Wg f xs ys j=c:=by simp[Wg,g1,g2,hc]
 rw[eu,ev,ec];exact hf X aA σ H s r A _ _ x y u v c I hu px py ru rv hc
theorem OO (hf:WS n f)(hs:Uh f):WS (n+1) (eqT f):=by
 intro X aA σ H s r A dx dy x y u v b I hu px py rx ry e;have flat:∀ {dx dy:D} {x y:V},Rp r H dx x->Rp r H dy y->Zw x u->Zw y v->eqF dx dy=some b->SeqAt.EqAt A s u v b:=λpx py rx ry e=>Qe (n+1) X aA σ H s r A _ _ _ _ u v b I hu px py rx ry e
 cases px with
 | @tup ds xs a e1 l1 f1=>
  cases py with
  | @tup es ys a' e2 l2 f2=>
   cases rx;cases ry;by_cases z:a=a'
   .subst z;have hb:=Lx hs r H _ _ _ b (.tup e1 l1 f1) (.tup e2 l2 f2) e;subst hb;exact SeqAt.EqAt.same _
   .obtain⟨is,ri,ti,_⟩:=VP I e1;obtain⟨js,rj,tj,_⟩:=VP I e2;obtain⟨g1,g2⟩:=Qn (A:=A.in1) hf I (by show A.units+1+n<_;omega) #[l1,f1] #[l2,f2] ri rj e;have q:=SeqAt.RcAt.tuples ti tj (by omega) g1;rw[g2] at q;exact SeqAt.EqAt.of_refs z q
  | ref h=>simp[eqT,eqF] at e
  | _=>simp[eqT,eqF] at e
 | non=>exact flat .non py rx ry (by cases py<;>exact e)
 | bl i=>exact flat (.bl i) py rx ry (by cases py<;>exact e)
 | int i=>exact flat (.int i) py rx ry (by cases py<;>exact e)
 | str i=>exact flat (.str i) py rx ry (by cases py<;>exact e)
 | ref h=>cases py<;>simp[eqT,eqF] at e
 | exc h=>cases py<;>simp[eqT,eqF] at e
theorem Mj (n:Nat):WS (n+1) eq1:=OO (Qe n) Vx
def wEq (f:D->D->Option Bool):W2:=λx y S Q=>match f x y with
 | some b=>Q (.bl b) S
 | none=>False
def wNe (f:D->D->Option Bool):W2:=λx y S Q=>match f x y with
 | some b=>Q (.bl (!b)) S
 | none=>False
theorem Lq {r:List Addr}{H:Hp}{dx dy:D}{x y:V}{b:Bool}(px:Rp r H dx x)(py:Rp r H dy y)(e:eqF dx dy=some b):Sy x y=true/\decide (x=y)=b:=by
 cases px<;>cases py<;>simp[eqF] at e<;>simp[Sy]<;>first|exact e|(subst e;simp)|skip
theorem GZ (hf:WS n f)(hu:X.A.units+1+n<cLine):OpR X (compareOp .Eq) (upO X.K Z (wEq (eqT f))):=by
 intro aA s σ H x y v u Qv I rx ry h;obtain⟨r,S,dx,dy,Q,bA,px,py,q,ret⟩:=h;unfold wEq at q;split at q
 .rename_i b e;have flat:∀ {dx dy:D} {x y:V},Rp r H dx x->Rp r H dy y->Zw x v->Zw y u->eqF dx dy=some b->wpAny (mX X) X.A (compareOp .Eq v u) (EP X aA σ Qv) X.xe s:=λpx py rx ry e=>by
   obtain⟨h1,h2⟩:=Lq px py e;refine QR aA s σ H _ _ v u Qv I rx ry #[h1,?_];rw[h2];exact ret _ _ _ _ _ Ext.refl bA (.bl b) q
  cases px with
  | @tup ds xs a e1 l1 f1=>
   cases py with
   | @tup es ys a' e2 l2 f2=>
    cases rx;cases ry;obtain⟨is,ri,ti,_⟩:=VP I e1;obtain⟨js,rj,tj,_⟩:=VP I e2;obtain⟨g1,g2⟩:=Qn (A:=X.A.in1) hf I (by show X.A.units+1+n<_;omega) #[l1,f1] #[l2,f2] ri rj e;refine SeqAt.eq_tupleAt ti tj (by omega) g1 ?_;rw[g2];exact#[.bl b,H,I,rfl,ret _ _ _ _ _ Ext.refl bA (.bl b) q]
   | _=>simp[eqT,eqF] at e
  | non=>exact flat .non py rx ry (by cases py<;>exact e)
  | bl i=>exact flat (.bl i) py rx ry (by cases py<;>exact e)
  | int i=>exact flat (.int i) py rx ry (by cases py<;>exact e)
  | str i=>exact flat (.str i) py rx ry (by cases py<;>exact e)
  | ref h=>cases py<;>simp[eqT,eqF] at e
  | exc h=>cases py<;>simp[eqT,eqF] at e
 .exact q.elim
theorem GO (hf:WS n f)(hu:X.A.units+1+n<cLine):OpR X (compareOp .NotEq) (upO X.K Z (wNe (eqT f))):=by
 intro aA s σ H x y v u Qv I rx ry h;obtain⟨r,S,dx,dy,Q,bA,px,py,q,ret⟩:=h;unfold wNe at q;split at q
 .rename_i b e;have flat:∀ {dx dy:D} {x y:V},Rp r H dx x->Rp r H dy y->Zw x v->Zw y u->eqF dx dy=some b->wpAny (mX X) X.A (compareOp .NotEq v u) (EP X aA σ Qv) X.xe s:=λpx py rx ry e=>by
   obtain⟨h1,h2⟩:=Lq px py e;refine op_ne aA s σ H _ _ v u Qv I rx ry #[h1,?_];rw[h2];exact ret _ _ _ _ _ Ext.refl bA (.bl (!b)) q
  cases px with
  | @tup ds xs a e1 l1 f1=>
   cases py with
   | @tup es ys a' e2 l2 f2=>
    cases rx;cases ry;obtain⟨is,ri,ti,_⟩:=VP I e1;obtain⟨js,rj,tj,_⟩:=VP I e2;obtain⟨g1,g2⟩:=Qn (A:=X.A.in1) hf I (by show X.A.units+1+n<_;omega) #[l1,f1] #[l2,f2] ri rj e;refine SeqAt.RcNeAt.tuples ti tj (by omega) g1 X.prog X.w _ _ ?_;rw[g2];exact#[.bl (!b),H,I,rfl,ret _ _ _ _ _ Ext.refl bA (.bl (!b)) q]
   | _=>simp[eqT,eqF] at e
  | non=>exact flat .non py rx ry (by cases py<;>exact e)
  | bl i=>exact flat (.bl i) py rx ry (by cases py<;>exact e)
  | int i=>exact flat (.int i) py rx ry (by cases py<;>exact e)
  | str i=>exact flat (.str i) py rx ry (by cases py<;>exact e)
  | ref h=>cases py<;>simp[eqT,eqF] at e
  | exc h=>cases py<;>simp[eqT,eqF] at e
 .exact q.elim
theorem ZG (hr:ZI k X.A):OpR X (compareOp .Eq) (upO X.K Z (wEq eq2)):=GZ (Mj 0) (by have:=hr.un;omega)
theorem do_ne (hr:ZI k X.A):OpR X (compareOp .NotEq) (upO X.K Z (wNe eq2)):=GO (Mj 0) (by have:=hr.un;omega)
section
variable {X:Cx}{Z:Zx}{a b c:Expr}{ta tb tc:TDE}{pos:Pos}{Yj:List Expr}
def QY (t:TDE):TDT:=λdl S Q=>t dl S λd S'=>match d with
 | .bl k=>Q k S'
 | _=>False
theorem QK {K:Fg}{Z:Zx}{r:List Addr}{H:Hp}{Q:Bool->Sto->Prop}{Qb:Bool->Hp->Prop}(h:∀b H' r' S',Ext r r' H H'->Rel K Z r' S' H'->Q b S'->Qb b H'):
  Ret K Z r H (λd S'=>match d with|.bl k=>Q k S'|_=>False) (λx H'=>∃k,x=.bl k/\Qb k H'):=λv H' r' d S' e bA p q=>by
 cases p with
 | bl k=>exact#[k,rfl,h k H' r' S' e bA q]
 | _=>exact(show False from q).elim
theorem Zn {op:CmpOp}{w:W2}(ho:OpR X (compareOp op) (upO X.K Z w))(ha:PD X Z a ta)(hb:PD X Z b tb)(hm:behindInMarks op b=false):PDT X Z (.Compare a [op] [b] pos) (QY (dOp w ta tb)):=
 UB (DG ho ha hb hm) λσ H Qb #[r,dl,S,Q,rs,bA,h,ret]=>Rr #[r,dl,S,_,rs,bA,h,QK ret]
theorem Xo {e:Expr}{t:TDE}(h:PD X Z e t)(he:∀aU,isTrue e X.env aU=(do let v <- aU;standAt e.pos;holding [v] (truthy v)):=by intro _;rfl):PDT X Z e (QY t):=
 UB (FN h he) λσ H Qb #[r,dl,S,Q,rs,bA,h,ret]=>#[r,dl,S,_,rs,bA,h,QK ret]
def dNot (t:TDT):TDT:=λdl S Q=>t dl S λk S'=>Q (!k) S'
theorem WV (ha:PDT X Z a t):PDT X Z (.UnaryOp .Not a pos) (dNot t):=
 UB (DL ha) λσ H Qb #[r,dl,S,Q,rs,bA,h,ret]=>#[r,dl,S,_,rs,bA,h,λk H' r' S' e rel' q=>ret (!k) H' r' S' e rel' q]
def dAnd (t u:TDT):TDT:=λdl S Q=>t dl S λk S1=>if k=true then u dl S1 Q else Q false S1
def dOr (t u:TDT):TDT:=λdl S Q=>t dl S λk S1=>if k=true then Q true S1 else u dl S1 Q
theorem WY (ha:PDT X Z a t):PDW X Z (.BoolOp .And [a] pos) t:=KG ha
theorem V6 (ha:PDT X Z a t):PDW X Z (.BoolOp .Or [a] pos) t:=Gy ha
theorem WK (ha:PDT X Z a t)(hb:PDW X Z (.BoolOp .And (b::Yj) pos) u):PDW X Z (.BoolOp .And (a::b::Yj) pos) (dAnd t u):=
 MG (Ek ha hb) λσ H Qb #[r,dl,S,Q,rs,bA,h,ret]=>#[r,dl,S,_,rs,bA,h,λk H1 r1 S1 e1 aE q1=>by
  cases k with
  | true=>exact Y0 #[r1,dl,S1,Q,rs.ext e1,aE,(by simpa using q1),λk' H2 r2 S2 e2=>ret k' H2 r2 S2 (e1.trans e2)]
  | false=>exact Y5 (ret false H1 r1 S1 e1 aE (by simpa using q1))]
theorem W8 (ha:PDT X Z a t)(hb:PDW X Z (.BoolOp .Or (b::Yj) pos) u):PDW X Z (.BoolOp .Or (a::b::Yj) pos) (dOr t u):=
 MG (pw_or ha hb) λσ H Qb #[r,dl,S,Q,rs,bA,h,ret]=>#[r,dl,S,_,rs,bA,h,λk H1 r1 S1 e1 aE q1=>by
  cases k with
  | true=>exact Y0 (ret true H1 r1 S1 e1 aE (by simpa using q1))
  | false=>exact Y5 #[r1,dl,S1,Q,rs.ext e1,aE,(by simpa using q1),λk' H2 r2 S2 e2=>ret k' H2 r2 S2 (e1.trans e2)]]
def dAndV (ta tb:TDE):TDE:=λdl S Q=>ta dl S λx S1=>match x with
 | .bl k=>if k=true then tb dl S1 Q else Q (.bl false) S1
 | _=>False
def dOrV (ta tb:TDE):TDE:=λdl S Q=>ta dl S λx S1=>match x with
 | .bl k=>if k=true then Q (.bl true) S1 else tb dl S1 Q
 | _=>False
def dNotV (ta:TDE):TDE:=λdl S Q=>ta dl S λx S1=>match x with
 | .bl k=>Q (.bl (!k)) S1
 | _=>False
theorem R8 {op}(h:PD X Z a t):PD X Z (.BoolOp op [a] pos) t:=HW h
theorem O3 (ha:PD X Z a ta)(hb:PD X Z (.BoolOp .And (b::Yj) pos) tb):PD X Z (.BoolOp .And (a::b::Yj) pos) (dAndV ta tb):=
 Z6 (KI ha hb) λσ H Qv #[r,dl,S,Q,rs,bA,h,ret]=>#[r,dl,S,_,rs,bA,h,λv H1 r1 d S1 e1 aE p q1=>by
  cases p with
  | bl k=>
   refine#[k,rfl,?_];cases k with
   | true=>exact Y0 #[r1,dl,S1,Q,rs.ext e1,aE,(by simpa using q1),ret.ext e1]
   | false=>exact Y5 (ret _ H1 r1 (.bl false) S1 e1 aE (.bl false) (by simpa using q1))
  | _=>exact(show False from q1).elim]
theorem pd_or (ha:PD X Z a ta)(hb:PD X Z (.BoolOp .Or (b::Yj) pos) tb):PD X Z (.BoolOp .Or (a::b::Yj) pos) (dOrV ta tb):=
 Z6 (pe_or ha hb) λσ H Qv #[r,dl,S,Q,rs,bA,h,ret]=>#[r,dl,S,_,rs,bA,h,λv H1 r1 d S1 e1 aE p q1=>by
  cases p with
  | bl k=>
   refine#[k,rfl,?_];cases k with
   | true=>exact Y0 (ret _ H1 r1 (.bl true) S1 e1 aE (.bl true) (by simpa using q1))
   | false=>exact Y5 #[r1,dl,S1,Q,rs.ext e1,aE,(by simpa using q1),ret.ext e1]
  | _=>exact(show False from q1).elim]
theorem DQ (ha:PD X Z a ta):PD X Z (.UnaryOp .Not a pos) (dNotV ta):=
 Z6 (C7 ha) λσ H Qv #[r,dl,S,Q,rs,bA,h,ret]=>#[r,dl,S,_,rs,bA,h,λv H1 r1 d S1 e1 aE p q1=>by
  cases p with
  | bl k=>exact#[k,rfl,ret _ H1 r1 (.bl (!k)) S1 e1 aE (.bl (!k)) q1]
  | _=>exact(show False from q1).elim]
def dIfE (t:TDT)(ta tb:TDE):TDE:=λdl S Q=>t dl S λk S1=>if k=true then ta dl S1 Q else tb dl S1 Q
theorem XS (hc:PDT X Z c t)(ha:PD X Z a ta)(hb:PD X Z b tb):PD X Z (.IfExp c a b pos) (dIfE t ta tb):=
 Z6 (Jv hc ha hb) λσ H Qv #[r,dl,S,Q,rs,bA,h,ret]=>#[r,dl,S,_,rs,bA,h,λk H1 r1 S1 e1 aE q1=>by
  cases k with
  | true=>exact Y0 #[r1,dl,S1,Q,rs.ext e1,aE,(by simpa using q1),ret.ext e1]
  | false=>exact Y5 #[r1,dl,S1,Q,rs.ext e1,aE,(by simpa using q1),ret.ext e1]]
def P8 (w w':W2)(ta tb tc:TDE):TDE:=λdl S Q=>ta dl S λx S1=>tb dl S1 λy S2=>w x y S2 λz S3=>match z with
 | .bl k=>if k=true then tc dl S3 λu S4=>w' y u S4 Q else Q (.bl false) S3
 | _=>False
theorem OC (h:up X.K Z (P8 w w' ta tb tc) σ H Qv):PH (upO X.K Z w) (upO X.K Z w') (up X.K Z ta) (up X.K Z tb) (up X.K Z tc) σ H Qv:=by
 obtain⟨r,dl,S,Q,rs,bA,h,ret⟩:=h;refine#[r,dl,S,_,rs,bA,h,λv H1 r1 dx S1 e1 aE p1 h1=>#[r1,dl,S1,_,rs.ext e1,aE,h1,λv2 H2 r2 dy S2 e2 aF p2 h2=>#[r2,S2,dx,dy,_,aF,p1.ext e2,p2,h2,λv3 H3 r3 dz S3 e3 aG p3 h3=>?_]]];cases p3 with
 | bl k=>
  refine#[k,rfl,?_];cases k with
  | true=>exact Y0 #[r3,dl,S3,_,rs.ext (e1.trans (e2.trans e3)),aG,(by simpa using h3),λv4 H4 r4 du S4 e4 aH p4 h4=>#[r4,S4,dy,du,Q,aH,(p2.ext e3).ext e4,p4,h4,ret.ext (e1.trans (e2.trans (e3.trans e4)))]]
  | false=>exact Y5 (ret _ H3 r3 (.bl false) S3 (e1.trans (e2.trans e3)) aG (.bl false) (by simpa using h3))
 | _=>exact(show False from h3).elim
theorem GS (ho:OpR X (compareOp op) (upO X.K Z w))(ho':OpR X (compareOp op') (upO X.K Z w'))(ha:PD X Z a ta)(hb:PD X Z b tb)(hc:PD X Z c tc)(hm:lastMarks [op,op'] [b,c]=false:=by with_unfolding_all rfl):PD X Z (.Compare a [op,op'] [b,c] pos) (P8 w w' ta tb tc):=Z6 (zak ho ho' ha hb hc hm) λ_ _ _ h=>OC h
theorem Mv {op op':CmpOp}{w w':W2}(ho:OpR X (compareOp op) (upO X.K Z w))(ho':OpR X (compareOp op') (upO X.K Z w'))(ha:PD X Z a ta)(hb:PD X Z b tb)(hc:PD X Z c tc)
  (hm:lastMarks [op,op'] [b,c]=false:=by with_unfolding_all rfl):PDT X Z (.Compare a [op,op'] [b,c] pos) (QY (P8 w w' ta tb tc)):=
 UB (Ie ho ho' ha hb hc hm) λσ H Qb #[r,dl,S,Q,rs,bA,h,ret]=>OC #[r,dl,S,_,rs,bA,h,QK ret]
def Tb:D->Bool
 | .non=>true
 | _=>false
def wIsN:W2:=λx y S Q=>match y with
 | .non=>Q (.bl (Tb x)) S
 | _=>False
def wNotN:W2:=λx y S Q=>match y with
 | .non=>Q (.bl (!Tb x)) S
 | _=>False
theorem LK {r:List Addr}{H:Hp}{d:D}{x:V}(p:Rp r H d x):decide (x=.non)=Tb d:=by
 cases p<;>simp[Tb]
theorem Y4:OpR X (compareOp .Is) (upO X.K Z wIsN):=Vh EZ λx y H Qv #[r,S,dx,dy,Q,bA,px,py,q,ret]=>by
 cases py with
 | non=>exact#[rfl,by rw[LK px];exact ret _ _ _ _ _ Ext.refl bA (.bl _) q]
 | _=>exact(show False from q).elim
theorem PJ:OpR X (compareOp .IsNot) (upO X.K Z wNotN):=Vh BG λx y H Qv #[r,S,dx,dy,Q,bA,px,py,q,ret]=>by
 cases py with
 | non=>exact#[rfl,by rw[LK px];exact ret _ _ _ _ _ Ext.refl bA (.bl _) q]
 | _=>exact(show False from q).elim
variable {e:Expr}{es:List Expr}
def U9:TDA:=λ_ S Q=>Q [] S
def Ux (ta:TDE)(tr:TDA):TDA:=λdl S Q=>ta dl S λx S1=>tr dl S1 λxs S2=>Q (x::xs) S2
theorem Zg:PDA X Z [] U9:=L4 OA λσ H Qv #[r,dl,S,Q,rs,bA,h,ret]=>ret [] H r [] S Ext.refl bA Rps.nil h
theorem Za (ha:PD X Z e te)(hr:PDA X Z es t)(hs:starEach (e::es) X.env=(false,eval e X.env)::starEach es X.env:=by rfl):PDA X Z (e::es) (Ux te t):=
 L4 (Mp ha hr hs) λσ H Qv #[r,dl,S,Q,rs,bA,h,ret]=>#[r,dl,S,_,rs,bA,h,λv H1 r1 d S1 e1 aE p1 h1=>#[r1,dl,S1,_,rs.ext e1,aE,h1,λvs H2 r2 ds S2 e2 aF p2 h2=>
  ret (v::vs) H2 r2 (d::ds) S2 (e1.trans e2) aF (Rps.cons (p1.ext e2) p2) h2]]
def dTup (t:TDA):TDE:=λdl S Q=>t dl S λds S1=>if ds.length<=1000 then Q (.tup ds) S1 else False
def dLst (t:TDA):TDE:=λdl S Q=>t dl S λds S1=>if ds.length<=1000 then Q (.ref S1.length) (S1++[.lst ds]) else False
theorem SF [Decidable p] (h:if p then A else False):p/\A:=by
 split at h
 .exact#[by assumption,h]
 .exact h.elim
theorem VH (h:n<=1000):n<=sizeLine:=yR (VO h)
theorem Zv {x1}(h:PDA X Z es t):PD X Z (.Tuple es x1 pos) (dTup t):=
 Z6 (BH h) λσ H Qv #[r,dl,S,Q,rs,bA,h,ret]=>#[r,dl,S,_,rs,bA,h,λvs H1 r1 ds S1 e1 aE p1 h1=>by
  obtain⟨hl,h1⟩:=SF h1;refine#[by rw[<- p1.1];exact VH hl,λp hp=>?_];have x:Ext r1 r1 H1 (upd H1 p (.tup vs)):=#[λ_ _ q=>q,λa xs q=>Xk hp _ _ q,λa c q=>Xk hp _ _ q];exact ret _ _ r1 (.tup ds) S1 (e1.trans x) (aE.same (Xk hp)) ((p1.ext x).tupR Yz) h1]
theorem W3 {r:List Addr}{p:Addr}{H:Hp}{n:Nat}(h:r.length=n):Rp (r++[p]) H (.ref n) (.ref p):=.ref (by subst h;simp)
theorem Z7 (h:PDA X Z es t):PD X Z (.List es pos) (dLst t):=
 Z6 (G5 h) λσ H Qv #[r,dl,S,Q,rs,bA,h,ret]=>#[r,dl,S,_,rs,bA,h,λvs H1 r1 ds S1 e1 aE p1 h1=>by
  obtain⟨hl,h1⟩:=SF h1;refine#[by rw[<- p1.1];exact VH hl,λp hp=>?_];obtain⟨aF,x⟩:=aE.push hp p1;exact ret _ _ _ (.ref S1.length) _ (e1.trans x) aF (W3 aE.len) h1]
def wIx:W2:=λx y S Q=>match x,y with
 | .tup xs,.int i=>match atI xs i with
  | some d=>Q d S
  | none=>False
 | .ref n,.int i=>match lAt S n with
  | some o=>match atI (Zk o) i with
   | some d=>Q d S
   | none=>False
  | none=>False
 | _,_=>False
theorem Lc {r:List Addr}{H:Hp}{ds:List D}{vs:List V}{i:Int}{d:D}(h:Rps r H ds vs)(e:atI ds i=some d):∃v,atI vs i=some v/\Rp r H d v:=by
  unfold atI at e ⊢;rw[<- h.1];cases q:ixN ds.length i with
  | none=>
   rw[q] at e;cases e
  | some j=>
    rw[q] at e;exact h.get e
theorem do_ix:IxR X (upO X.K Z wIx):=by
 intro value slice aA s σ H x y v u Qv I rx ry h hs;obtain⟨r,S,dx,dy,Q,bA,px,py,q,ret⟩:=h;cases px with
 | @tup ds xs a e1 l1 f1=>
  cases py with
  | int i=>
   have q':(match atI ds i with|some d=>Q d S|none=>False):=q;split at q'
   .rename_i d e;obtain⟨w,hw,pw⟩:=Lc #[l1,f1] e;exact HQ value slice aA s σ H _ _ v u Qv I rx ry #[a,xs,i,w,rfl,rfl,SqT.of e1,hw,ret w H r d S Ext.refl bA pw q'] hs
   .exact q'.elim
  | _=>exact(show False from q).elim
 | @ref n a e1=>
  cases py with
  | int i=>
   have q':(match lAt S n with|some o=>(match atI (Zk o) i with|some d=>Q d S|none=>False)|none=>False):=q;split at q'
   .rename_i o eo;obtain⟨eo,eL⟩:=Y3 eo;obtain⟨a',ha,ob⟩:=bA.at eo;rw[e1] at ha;cases ha
    obtain⟨xs,sq,pr⟩:=ob.list eL;split at q'
    .rename_i d e;obtain⟨w,hw,pw⟩:=Lc pr e;exact JI value slice aA s σ H _ _ v u Qv I rx ry #[a,xs,i,w,rfl,rfl,sq,hw,ret w H r d S Ext.refl bA pw q'] hs
    .exact q'.elim
   .exact q'.elim
  | _=>exact(show False from q).elim
 | _=>exact(show False from q).elim
theorem Od (ha:PD X Z a ta)(hb:PD X Z b tb)(hs:Ui b):PD X Z (.Subscript a b pos) (dOp wIx ta tb):=Z6 (pe_ix do_ix ha hb hs) λ_ _ _ h=>Rr h
theorem Xd (ha:PD X Z a ta)(hb:PD X Z b tb)(hs:Ui b:=by exact λ_ _=>rfl):PD X Z (.Subscript a b pos) (dOp wIx ta tb):=Od ha hb hs
end
structure Bk (fs:List Addr)(H H':Hp)(B h:Heap)(ea:Addr):Prop where
 trk:∀b u,H' b=some u->∃o,B.get? b=some o
 old:∀b o,h.get? b=some o->H b=none->b ∉ fs->B.get? b=some o
 all:∀b o,h.get? b=some o->b ∉ fs->∃o',B.get? b=some o'
 new:H' ea=none
def CXE (P:Program)(w:World):CXT:=λouter H s E e s'=>∃(ea c:Addr)(a0:Value)(B:Heap)(H':Hp),e=.ref ea/\s'.os=s.os/\AllBare s'.gens/\Un (frs outer) [] H H' s.heap s'.heap/\HOk P w H' s'.heap/\
 Heap.FlyingW B outer ea (.ref c) a0 s'.heap/\Bk (frs outer) H H' B s.heap ea/\E (.ref c) none H'
section
variable {X:Cx}{aA:LA}{σ:St}{H:Hp}{s:Shared}
end
section
variable {P:Program}{w:World}{K:Fg}{mg:Str->Option Value}{base:Heap}{N:List Str}{qual:Str}{scope:Scope}{f:Addr}{cdv:Value}{A:Around}{outer:List Env}{s0:Shared}{H0:Hp}{E:XK}
end
structure Xc (K:Fg)(mg:Str->Option Value)(x:Str)(C:Addr)(bm:List Value)(nid:String):Prop where
 bound:mg x=some (.ref C)
 ex:W.excIn K C bm nid=true
abbrev WC:=List D->Sto->DK->Prop
abbrev Sd:=List D->Sto->DK->(Addr->Sto->Prop)->Prop
inductive upC (K:Fg)(Z:Zx)(w:WC)(xs:List V)(H:Hp)(Qv:VK):Prop
 | mk (r:List Addr) (S:Sto) (ds:List D) (Q:DK) (bA:Rel K Z r S H) (ps:Rps r H ds xs) (q:w ds S Q) (ret:Ret K Z r H Q Qv):upC K Z w xs H Qv
def upF (K:Fg)(sd:Sd):Sp:=λvs H Qv E=>∃ex:Addr->Sto->Prop,upC K (Zc ex E) (λds S Q=>sd ds S Q ex) vs H Qv
def Qi (w:WC)(t:TDA):TDE:=λdl S Q=>t dl S λds S1=>w ds S1 Q
def Qk (ex:Ev->Addr->Sto->Prop)(sd:Sd)(t:TDA):TDE:=λdl S Q=>t dl S λds S1=>sd ds S1 Q (ex dl)
def XG (X:Cx)(W:St->XK):Prop:=∀(aA:LA)(σ:St)(H:Hp)(s:Shared)(e:Value)(s':Shared),Inv X aA σ H s->CXE X.prog X.w X.stack H s (W σ) e s'->X.xe e s'
theorem To (F:Yk X.prog X.w X.K X.mg X.base (CXE X.prog X.w) k f fd ps sp)(hr:ZI k X.A)(hb:YK X.K fd ps [])(hx:XG X W)(I:Inv X aA σ H s)(r:Zz vs us)(h:sp vs H Q (W σ)):wpAny (mX X) X.A (call (.ref f) us) (EP X aA σ Q) X.xe s:=by
 have hl:us.length=ps.length:=by rw[<- r.length];exact F.len _ _ _ _ h
 have hb':=hb s us I.kIn (by rw[xN];exact hl);rw[xN] at hb';refine wpAny_call (codeAny_mono (F.run X.A X.stack s H #[us,[]] us vs Q (W σ) hr I.env0 hb' r h) λz s' hq=>?_);cases z with
 | error ev=>exact hx aA σ H s ev s' I hq
 | ok fl=>
  cases fl with
  | ret u=>exact I.after hq
  | _=>exact False.elim hq
theorem Fh (F:Yk X.prog X.w X.K X.mg X.base (CXE X.prog X.w) k f fd ps sp)(hr:ZI k X.A)(hg:Gl X x)(hm:X.mg x=some (.ref f))(hk:PySem.W.keepIn X.K (.ref f)=true)(hb:YK X.K fd ps [])(hx:XG X W)
  (ha:PA X (e::es) t)(hdb:(x==("__debug__":Str))=false)(he:He X e es)(hpl:Hp1 X pos es):
  PE X (.Call (.Name x p) (e::es) [] pos) (λσ H Q=>t σ H λvs H1=>sp vs H1 Q (W σ)):=by
 intro aA s σ H Q I h;refine wpAny_Call_Name_kw (NT I hg hm ?_ hdb);exact PySem.W.callWith_K I.ok.mod.kin hk (thn (ha pos aA s σ H _ I h) λus s1 #[vs,H1,I1,r,q]=>#[I1.kIn,To F hr hb hx I1 r q]) he hpl
section
variable {X:Cx}{Z:Zx}{x:Str}{p pos:Pos}{e:Expr}{es:List Expr}{t:TDA}{id T:String}{w:WC}
theorem OY (h:up X.K Z (Qi w t) σ H Qv):upA X.K Z t σ H λvs H1=>upC X.K Z w vs H1 Qv:=by
 obtain⟨r,dl,S,Q,rs,bA,h,ret⟩:=h;exact#[r,dl,S,_,rs,bA,h,λvs H1 r1 ds S1 e1 aE p1 h1=>#[r1,S1,ds,Q,aE,p1,h1,ret.ext e1]]
theorem ZK (hc:Yx X (.builtin id) (upC X.K Z w))(hg:Gl X x)(hm:X.mg x=none)(hv:bootBuiltins x=some (.builtin id))(ha:PDA X Z (e::es) t)(hn:x≠"__name__":=by decide)(hdb:(x==("__debug__":Str))=false:=by decide)
  (he:He X e es:=by rfl)(hpl:Hp1 X pos es:=by rfl):PD X Z (.Call (.Name x p) (e::es) [] pos) (Qi w t):=
 Z6 (Iw hc hg hm hv ha hn hdb he hpl) λ_ _ _ h=>OY h
theorem VI (hc:Yx X (.type T) (upC X.K Z w))(hg:Gl X x)(hm:X.mg x=none)(hv:bootBuiltins x=some (.type T))(ha:PDA X Z (e::es) t)(hn:x≠"__name__":=by decide)(hdb:(x==("__debug__":Str))=false:=by decide)
  (he:He X e es:=by rfl)(hpl:Hp1 X pos es:=by rfl):PD X Z (.Call (.Name x p) (e::es) [] pos) (Qi w t):=
 Z6 (Gp hc hg hm hv ha hn hdb he hpl) λ_ _ _ h=>OY h
theorem RC {sd:Sd}{r:List Addr}{S:Sto}{H:Hp}{dl:Ev}{σ:St}{ds:List D}{vs:List V}{Q:DK}{Qv:VK}(rs:Rs r H dl σ)(bA:Rel X.K Z r S H)(p:Rps r H ds vs)(h:sd ds S Q (Z.ex dl))(ret:Ret X.K Z r H Q Qv):upF X.K sd vs H Qv (Z.w σ):=
 #[Z.ex dl,r,S,ds,Q,#[bA.b,λ_ _ c H' r' S' x _ rb q=>bA.xw dl σ c H' r' S' x (rs.ext x) rb q],p,h,λv H' r' d S' x rel' pv q=>ret v H' r' d S' x #[rel'.b,bA.xw.ext x] pv q]
theorem IK (F:Yk X.prog X.w X.K X.mg X.base (CXE X.prog X.w) k f fd ps (upF X.K sd))(hr:ZI k X.A)(hg:Gl X x)(hm:X.mg x=some (.ref f))(hk:PySem.W.keepIn X.K (.ref f)=true)(hb:YK X.K fd ps [])(hx:XG X W)(ha:PDA X #[ex,W] (e::es) t)(hdb:(x==("__debug__":Str))=false:=by decide)(he:He X e es:=by rfl)(hpl:Hp1 X pos es:=by rfl):PD X #[ex,W] (.Call (.Name x p) (e::es) [] pos) (Qk ex sd t):=
 Z6 (Fh F hr hg hm hk hb hx ha hdb he hpl) λσ H Qv #[r,dl,S,Q,rs,bA,h,ret]=>#[r,dl,S,_,rs,bA,h,λvs H1 r1 ds S1 e1 aE p1 h1=>RC (rs.ext e1) aE p1 h1 (ret.ext e1)]
def wAbs:WC:=λds S Q=>match ds with
 | [.int i]=>Q (.int (if i<0 then -i else i)) S
 | _=>False
theorem Q5:Yx X (.builtin "abs") (upC X.K Z wAbs):=Pu CI λxs H Qv #[r,S,ds,Q,bA,ps,q,ret]=>by
 unfold wAbs at q;split at q
 .rename_i i;obtain⟨v,vs,rfl,p1,p2⟩:=ps.uncons;have z:=p2.unnil;subst z;cases p1;exact#[i,rfl,ret _ _ _ _ _ Ext.refl bA (.int _) q]
 .exact q.elim
def Y7:List D->Option (List Int)
 | []=>some []
 | .int i::r=>(Y7 r).map (i::·)
 | _::_=>none
def V1 (le:Int->Int->Prop)(two:Int->Int->Int):WC:=λds S Q=>match ds with
 | [.int i,.int j]=>Q (.int (two i j)) S
 | [.ref n]=>match lAt S n with
  | some o=>match Y7 (Zk o) with
   | some xs=>xs≠[]/\∀m,m∈xs->(∀y∈xs,le y m)->Q (.int m) S
   | none=>False
  | none=>False
 | _=>False
abbrev wMax:WC:=V1 (λy m=>y<=m) λi j=>if j > i then j else i
abbrev wMin:WC:=V1 (λy m=>m<=y) λi j=>if j<i then j else i
theorem PN {r:List Addr}{H:Hp}:∀ {ds:List D} {ns:List Int} {vs:List V} {us:List Value},Y7 ds=some ns->Rps r H ds vs->Zz vs us->∃xs:List (Int×Tok),us.toArray=intItems xs.toArray/\xs.map (·.1)=ns
 | [],ns,vs,us,e,p,q=>by
  have z:=p.unnil;subst z;cases q;simp[Y7] at e;subst e;exact#[[],by simp[intItems],rfl]
 | d::ds,ns,vs,us,e,p,q=>by
  obtain⟨v,vs',rfl,p1,p2⟩:=p.uncons;cases d with
  | int i=>
   cases p1;cases q with
   | cons q1 q2=>
    obtain⟨t,rfl⟩:=q1;simp only[Y7,zH] at e;obtain⟨ms,e1,rfl⟩:=e;obtain⟨xs,h1,h2⟩:=PN e1 p2 q2;refine#[(i,t)::xs,?_,by simp[h2]];simp[intItems] at h1 ⊢;exact h1
  | _=>simp[Y7] at e
theorem LG (f:Nat->Int):∀k j,j<=k->f j<=f (argBest (λi j=>decide (f i > f j)) k)
 | 0,j,h=>by
  have z:j=0:=by omega
  subst z;exact zS _
 | k+1,j,h=>by
  have ih:=LG f k;unfold argBest;split
  .rename_i hb;have hb':f (k+1) > f (argBest (λi j=>decide (f i > f j)) k):=of_decide_eq_true hb;by_cases z:j=k+1
   .subst z;exact zS _
   .have:=ih j (by omega);omega
  .rename_i hb;have hb':¬ f (k+1) > f (argBest (λi j=>decide (f i > f j)) k):=λq=>hb (decide_eq_true q)
   by_cases z:j=k+1
   .subst z;omega
   .exact ih j (by omega)
theorem OQ (f:Nat->Int):∀k j,j<=k->f (argBest (λi j=>decide (f i<f j)) k)<=f j
 | 0,j,h=>by
  have z:j=0:=by omega
  subst z;exact zS _
 | k+1,j,h=>by
  have ih:=OQ f k;unfold argBest;split
  .rename_i hb;have hb':f (k+1)<f (argBest (λi j=>decide (f i<f j)) k):=of_decide_eq_true hb;by_cases z:j=k+1
   .subst z;exact zS _
   .have:=ih j (by omega);omega
  .rename_i hb;have hb':¬ f (k+1)<f (argBest (λi j=>decide (f i<f j)) k):=λq=>hb (decide_eq_true q)
   by_cases z:j=k+1
   .subst z;omega
   .exact ih j (by omega)
theorem MX (bt:Nat->Nat->Bool):∀k,argBest bt k<=k
 | 0=>zA _
 | k+1=>by
  unfold argBest;split
  .exact zA _
  .exact vV (MX bt k)
theorem Oj {xs:List (Int×Tok)}{ns:List Int}(h:xs.map (·.1)=ns){j:Nat}{y:Int}(e:ns[j]?=some y):numAt xs.toArray j=y:=by
  subst h;unfold numAt;rw[zF] at e;simp;cases q:xs[j]? with
  | none=>
   rw[q] at e;cases e
  | some z=>rw[q] at e;simpa using e
theorem CV {xs:List (Int×Tok)}{ns:List Int}(h:xs.map (·.1)=ns){j:Nat}(hj:j<ns.length):numAt xs.toArray j∈ns:=by
 have e:ns[j]?=some ns[j]:=by simp[hj]
 rw[Oj h e];exact yY hj
theorem OH {nm:String}{le:Int->Int->Prop}{two:Int->Int->Int}(cm:Int->Int->Bool)(hc:X.calm=true)(c2:Yx X (.builtin nm) (λxs H Q=>∃i j,xs=[.int i,.int j]/\Q (.int (two i j)) H))(c1:∀ {s:Shared} {l:Addr} {xs:Array (Int×Tok)} {Q:Value->Shared->Prop} {E:Value->Shared->Prop},X.A.handled=none->s.heap.IsList l (intItems xs)->0<xs.size->(∀v h' tk,(intItems xs)[argBest (λi j=>cm (numAt xs i) (numAt xs j)) (xs.size-1)]?=some v->(∀b o,s.heap.get? b=some o->h'.get? b=some o)->Q v { s with heap:=h',toks:=tk })->wpAny (mX X) X.A (call (.builtin nm) [.ref l]) Q E s)(bg:∀(f:Nat->Int)(k j:Nat),j<=k->le (f j) (f (argBest (λi j=>cm (f i) (f j)) k))):Yx X (.builtin nm) (upC X.K Z (V1 le two)):=by
 intro aA s σ H xs us Qv I rv h;obtain⟨r,S,ds,Q,bA,ps,q,ret⟩:=h;unfold V1 at q;split at q
 .rename_i i j;obtain⟨v,vs,rfl,p1,p2⟩:=ps.uncons;obtain⟨v2,vs2,rfl,p3,p4⟩:=p2.uncons;have z:=p4.unnil;subst z;cases p1;cases p3;exact c2 aA s σ H _ us Qv I rv #[i,j,rfl,ret _ _ _ _ _ Ext.refl bA (.int _) q]
 .rename_i n;obtain⟨v,vs,rfl,p1,p2⟩:=ps.uncons;have z:=p2.unnil;subst z;split at q
  .rename_i o eo;split at q
   .rename_i ns en;obtain⟨hne,q⟩:=q;obtain⟨eo,eL⟩:=Y3 eo;obtain⟨a,ha,ob⟩:=bA.at eo;cases p1 with
    | ref h1=>
     rw[h1] at ha;cases ha
     obtain⟨ys,sq,pr⟩:=ob.list eL;obtain⟨u,rfl,ru⟩:=Wq rv;cases ru;obtain⟨aY,ri,pl,hz⟩:=I.list sq;obtain⟨zs,hz1,hz2⟩:=PN en pr ri;have hl:zs.length=ns.length:=by rw[<- hz2,zB]
     have hpos:0<ns.length:=uW.mpr hne
     have isl:=pl.isList;rw[hz1] at isl;refine c1 (I.ok.hd hc) isl (by simp;omega) λv h' tk hv hk=>?_
     have hvi:=intItems_at hv;obtain⟨t,rfl⟩:=hvi;have hb:=MX (λi j=>cm (numAt zs.toArray i) (numAt zs.toArray j)) (zs.toArray.size-1)
     have hsz:zs.toArray.size=ns.length:=by simp[hl]
     refine#[.int _,H,I.kept hk,#[_,rfl],ret _ _ _ _ _ Ext.refl bA (.int _) (q _ (CV hz2 (by omega)) λy hy=>?_)];obtain⟨j,hj,ej⟩:=yZ.mp hy;have e1:=Oj hz2 (show ns[j]?=some y by simp[hj,ej]);rw[<- e1];exact bg _ _ j (by omega)
   .exact q.elim
  .exact q.elim
 .exact q.elim
theorem XJ (hc:X.calm=true):Yx X (.builtin "max") (upC X.K Z wMax):=OH (λx y=>decide (x > y)) hc (GW hc) max_intList LG
theorem XH (hc:X.calm=true):Yx X (.builtin "min") (upC X.K Z wMin):=OH (λx y=>decide (x<y)) hc (F5 hc) min_intList OQ
def Uk:WC:=λds S Q=>match ds with
 | [.tup xs]=>Q (.int xs.length) S
 | [.ref n]=>match lAt S n with
  | some o=>Q (.int (Zk o).length) S
  | none=>False
 | _=>False
theorem YG:Yx X (.builtin "len") (upC X.K Z Uk):=Pu JC λxs H Qv #[r,S,ds,Q,bA,ps,q,ret]=>by
 unfold Uk at q;split at q
 .rename_i ys;obtain⟨v,vs,rfl,p1,p2⟩:=ps.uncons;have z:=p2.unnil;subst z;obtain⟨a,zs,rfl,h1,h2⟩:=p1.untup;exact#[a,zs,rfl,.inr (SqT.of h1),by rw[<- h2.1];exact ret _ _ _ _ _ Ext.refl bA (.int _) q]
 .rename_i n;obtain⟨v,vs,rfl,p1,p2⟩:=ps.uncons;have z:=p2.unnil;subst z;split at q
  .rename_i o eo;obtain⟨eo,eL⟩:=Y3 eo;obtain⟨a,ha,ob⟩:=bA.at eo;cases p1 with
   | ref h1=>
    rw[h1] at ha;cases ha
    obtain⟨ys,sq,pr⟩:=ob.list eL;exact#[_,ys,rfl,.inl sq,by rw[<- pr.1];exact ret _ _ _ _ _ Ext.refl bA (.int _) q]
  .exact q.elim
 .exact q.elim
end
section
variable {X:Cx}{Z:Zx}{st:Stmt}{Yj:List Stmt}{t u:TDS}{e:Expr}{te:TDE}{pos:Pos}
def dNext:TDS:=λE dl S=>E.nx dl S
def XI (t u:TDS):TDS:=λE dl S=>t { nx:=λdl' S'=>u E dl' S',rt:=E.rt,bk:=E.bk,ct:=E.ct } dl S
theorem Zy:YB X Z [] dNext:=N7 AJ λF σ H #[r,dl,S,E,rs,bA,h,ret]=>ret.nx σ H r dl S Ext.refl rs bA h
theorem Zd (h1:PDS X Z st t)(h2:YB X Z Yj u):YB X Z (st::Yj) (XI t u):=
 N7 (Fo h1 h2) λF σ H #[r,dl,S,E,rs,bA,h,ret]=>#[r,dl,S,_,rs,bA,h,λσ' H' r' dl' S' x rs' rel' q=>#[r',dl',S',E,rs',rel',q,ret.ext x],ret.bk,ret.ct,ret.rt]
theorem Zf (h1:PDS X Z st t):YB X Z [st] t:=KN h1
def Ha:TDS:=λE dl S=>E.bk dl S
theorem C5:PDS X Z (.Break pos) Ha:=Yy Dy λF σ H #[r,dl,S,E,rs,bA,h,ret]=>ret.bk σ H r dl S Ext.refl rs bA h
def dDrop (te:TDE):TDS:=λE dl S=>te dl S λ_ S1=>E.nx dl S1
theorem Z1 (he:PD X Z e te)(hs:swapsWith e none pos.line X.env=pure false:=by rfl):PDS X Z (.Expr e pos) (dDrop te):=
 Yy (Ke he hs) λF σ H #[r,dl,S,E,rs,bA,h,ret]=>#[r,dl,S,_,rs,bA,h,λv H1 r1 d S1 x aE p q=>ret.nx σ H1 r1 dl S1 x (rs.ext x) aE q]
def dRet (te:TDE):TDS:=λE dl S=>te dl S E.rt
theorem Zi (he:PD X Z e te):PDS X Z (.Return (some e) pos) (dRet te):=
 Yy (JO he) λF σ H #[r,dl,S,E,rs,bA,h,ret]=>#[r,dl,S,_,rs,bA,h,ret.rt]
def dRetN:TDS:=λE _ S=>E.rt .non S
theorem Ky:PDS X Z (.Return none pos) dRetN:=Yy EC λF σ H #[r,dl,S,E,rs,bA,h,ret]=>ret.rt _ _ _ _ _ Ext.refl bA .non h
def dIf (c:TDT)(t u:TDS):TDS:=λE dl S=>c dl S λk S1=>if k=true then t E dl S1 else u E dl S1
theorem Zu (hc:PDT X Z c tc)(ha:YB X Z a t)(hb:YB X Z b u):PDS X Z (.If c a b pos) (dIf tc t u):=
 Yy (ps_if hc ha hb) λF σ H #[r,dl,S,E,rs,bA,h,ret]=>#[r,dl,S,_,rs,bA,h,λk H1 r1 S1 x aE q=>by
  cases k with
  | true=>exact Y0 #[r1,dl,S1,E,rs.ext x,aE,(by simpa using q),ret.ext x]
  | false=>exact Y5 #[r1,dl,S1,E,rs.ext x,aE,(by simpa using q),ret.ext x]]
def Uq (i:Nat)(te:TDE):TDS:=λE dl S=>te dl S λd S1=>E.nx (dl.set i (some d)) S1
theorem Vo (hN:X.N.Nodup)(hi:X.N[i]?=some x)(hx:Loc X.env.scope x)(he:PD X Z e te)(hs:swapsWith e (some (.Name x pos')) pos.line X.env=pure false:=by rfl)(hf:Hf X x:=by first|exact .inl rfl|exact .inr rfl|assumption):PDS X Z (.Assign [.Name x pos'] e pos) (Uq i te):=
 Yy (K3 hN hi hx he hs hf) λF σ H #[r,dl,S,E,rs,bA,h,ret]=>#[r,dl,S,_,rs,bA,h,λv H1 r1 d S1 x aE p q=>ret.nx _ H1 r1 _ S1 x ((rs.ext x).set i p) aE q]
theorem Zj {i:Nat}{x:Str}{pos':Pos}(hN:X.N.Nodup)(he:PD X Z e te)(hi:X.N[i]?=some x:=by rfl)(hx:Loc X.env.scope x:=by exact Or.inl rfl)(hs:swapsWith e (some (.Name x pos')) pos.line X.env=pure false:=by rfl)
  (hf:Hf X x:=by first|exact .inl rfl|exact .inr rfl|assumption):PDS X Z (.Assign [.Name x pos'] e pos) (Uq i te):=Vo hN hi hx he hs hf
def Kt (c:TDT)(tb:TDS):TDS:=λE dl S=>∃W:Nat->Ev->Sto->Prop,(∃m,W m dl S)/\∀m dl S,W m dl S->
 c dl S λk S1=>if k=true then tb { nx:=λdl' S'=>∃m',m'<m/\W m' dl' S',rt:=E.rt,bk:=E.nx,ct:=λdl' S'=>∃m',m'<m/\W m' dl' S' } dl S1 else E.nx dl S1
theorem Oc (hp:PassesOwn (mX X) X.A X.env X.xe)(hc:PDT X Z c tc)(hb:YB X Z body tb):PDS X Z (.While c body [] pos) (Kt tc tb):=
 Yy (Kb hp hc hb) λF σ H #[r,dl,S,E,rs,bA,#[W,#[m0,w0],turn],ret]=>by
  refine#[λm σ' H'=>∃r' dl' S',Ext r r' H H'/\Rs r' H' dl' σ'/\Rel X.K Z r' S' H'/\W m dl' S',#[m0,r,dl,S,Ext.refl,rs,bA,w0],?_];rintro m σ1 H1 ⟨r1,dl1,S1,x1,rs1,aE,w1⟩;refine#[r1,dl1,S1,_,rs1,aE,turn m dl1 S1 w1,λk H2 r2 S2 x2 aF q2=>?_];cases k with
  | true=>
   refine Y0 #[λσ' H'=>∃m',m'<m/\∃r' dl' S',Ext r r' H H'/\Rs r' H' dl' σ'/\Rel X.K Z r' S' H'/\W m' dl' S',λ_ _ z=>z,r2,dl1,S2,_,rs1.ext x2,aF,(by simpa using q2),?_];have go:∀σ' H' r' dl' S',Ext r2 r' H2 H'->Rs r' H' dl' σ'->Rel X.K Z r' S' H'->(∃m',m'<m/\W m' dl' S')->∃m',m'<m/\∃r' dl' S',Ext r r' H H'/\Rs r' H' dl' σ'/\Rel X.K Z r' S' H'/\W m' dl' S':=
    λσ' H' r' dl' S' x rs' rel' #[m',hm,w']=>#[m',hm,r',dl',S',x1.trans (x2.trans x),rs',rel',w']
   exact#[go,λσ' H' r' dl' S' x rs' rel' q=>ret.nx σ' H' r' dl' S' (x1.trans (x2.trans x)) rs' rel' q,go,ret.rt.ext (x1.trans x2)]
  | false=>exact Y5 (ret.nx σ1 H2 r2 dl1 S2 (x1.trans x2) (rs1.ext x2) aF (by simpa using q2))
theorem Va {X:Cx}{Z:Zx}{J:It}{F:Wc}{E:Xn}{tb:TDS}{g:TG}{r r1:List Addr}{H H1:Hp}{dl:Ev}{S1:Sto}{σ:St}(x1:Ext r r1 H H1)(rs:Rs r H dl σ)(aE:Rel X.K Z r1 S1 H1)(ret:Uv X.K Z r H E F)(W:Nat->Nat->Ev->Sto->Prop){m0:Nat}(w0:W 0 m0 dl S1)
  (step:∀k m r2 dl2 S2 σ2 H2,Ext r1 r2 H1 H2->Rs r2 H2 dl2 σ2->Rel X.K Z r2 S2 H2->W k m dl2 S2->J.stop k H2/\E.nx dl2 S2\/J.go k H2/\∃N:Ev->Sto->Prop,(∀d s,N d s->∃m',m'<m/\W (k+1) m' d s)/\∀x H',J.yld k H2 x H'->∀K:St->Hp->Prop,(∀σ3 H3 dl3,Ext r2 r2 H2 H3->Rs r2 H3 dl3 σ3->Rel X.K Z r2 S2 H3->tb { nx:=N,rt:=E.rt,bk:=E.nx,ct:=N } dl3 S2->K σ3 H3)->g x σ2 H' K):
  ∃W:Nat->Nat->St->Hp->Prop,(∃m,W 0 m σ H1)/\∀i m σ H,W i m σ H->J.stop i H/\F.nx σ H\/J.go i H/\∃N:St->Hp->Prop,(∀σ' H',N σ' H'->∃m',m'<m/\W (i+1) m' σ' H')/\∀x H',J.yld i H x H'->g x σ H' λσ2 H2=>upS X.K Z tb { F with nx:=N,ct:=N,bk:=F.nx } σ2 H2:=by
 refine#[λk m σ' H'=>∃r' dl' S',Ext r1 r' H1 H'/\Rs r' H' dl' σ'/\Rel X.K Z r' S' H'/\W k m dl' S',#[m0,r1,dl,S1,Ext.refl,rs.ext x1,aE,w0],?_];rintro k m σ2 H2 ⟨r2,dl2,S2,x2,rs2,aF,w2⟩;rcases step k m r2 dl2 S2 σ2 H2 x2 rs2 aF w2 with ⟨a,q⟩|⟨a,N,hN,st⟩
 .exact .inl #[a,ret.nx σ2 H2 r2 dl2 S2 (x1.trans x2) rs2 aF q]
 .refine .inr #[a,λσ' H'=>∃r' dl' S',Ext r1 r' H1 H'/\Rs r' H' dl' σ'/\Rel X.K Z r' S' H'/\N dl' S',λσ' H' z=>?_,λx H' y=>st x H' y _ λσ3 H3 dl3 x3 rs3 aG q=>?_]
  .obtain⟨r',dl',S',e1,e2,e3,e4⟩:=z;obtain⟨m',hm,w'⟩:=hN _ _ e4;exact#[m',hm,r',dl',S',e1,e2,e3,w']
  .have go:∀σ' H' r' dl' S',Ext r2 r' H3 H'->Rs r' H' dl' σ'->Rel X.K Z r' S' H'->N dl' S'->∃r' dl' S',Ext r1 r' H1 H'/\Rs r' H' dl' σ'/\Rel X.K Z r' S' H'/\N dl' S':=λσ' H' r' dl' S' x a b c=>#[r',dl',S',x2.trans (x3.trans x),a,b,c]
   exact#[r2,dl3,S2,_,rs3,aG,q,go,λσ' H' r' dl' S' x a b c=>ret.nx σ' H' r' dl' S' (x1.trans (x2.trans (x3.trans x))) a b c,go,ret.rt.ext (x1.trans (x2.trans x3))]
def dFor (i:Nat)(tl:TDE)(tb:TDS):TDS:=λE dl S=>tl dl S λd S1=>match d with
 | .ref n=>(lAt S1 n).isSome=true/\∃W:Nat->Nat->Ev->Sto->Prop,(∃m,W 0 m dl S1)/\∀k m dl S,W k m dl S->match lAt S n with
  | some o=>match (Zk o)[k]? with
   | some x=>tb { nx:=λdl' S'=>∃m',m'<m/\W (k+1) m' dl' S',rt:=E.rt,bk:=E.nx,ct:=λdl' S'=>∃m',m'<m/\W (k+1) m' dl' S' } (dl.set i (some x)) S
   | none=>E.nx dl S
  | none=>False
 | _=>False
theorem XX (hp:PassesOwn (mX X) X.A X.env X.xe)(hc:X.calm=true)(hN:X.N.Nodup)(hi:X.N[i]?=some x)(hx:Loc X.env.scope x)(hl:PD X Z aW tl)(hb:YB X Z body tb)(hf:Hf X x:=by first|exact .inl rfl|exact .inr rfl|assumption)(hs:∀y,foldedSetIterable aW X.env y=pure y:=by intro _;rfl):PDS X Z (.For (.Name x pos') aW body [] pos) (dFor i tl tb):=
 Yy (Vb hp hc (QL hl) (Vn hN hi hx hf) hb hs) λF σ H #[r,dl,S,E,rs,bA,h,ret]=>by
  refine#[r,dl,S,_,rs,bA,h,λv H1 r1 d S1 x1 aE p1 q1=>?_];cases p1 with
  | @ref n a hn=>
   obtain⟨aV,W,⟨m0,w0⟩,turn⟩:=q1;have sql:∀ {r':List Addr} {S':Sto} {H':Hp} {o:Ob},Ext r1 r' H1 H'->Rel X.K Z r' S' H'->lAt S' n=some o->∃xs,SqL X.K H' a xs/\Rps r' H' (Zk o) xs:=λ{r' S' H' o} x' rel' eo=>by
    obtain⟨eo,eL⟩:=Y3 eo;obtain⟨a',ha,ob⟩:=rel'.at eo;rw[x'.adr n a hn] at ha;cases ha
    exact ob.list eL
   obtain⟨o1,eo1⟩:=yX.mp aV;obtain⟨xs1,sq1,_⟩:=sql Ext.refl aE eo1;refine#[a,rfl,#[xs1,sq1],Va x1 rs aE ret W w0 λk m r2 dl2 S2 σ2 H2 x2 rs2 aF w2=>?_];have q:=turn k m dl2 S2 w2;split at q
   .rename_i o eo;obtain⟨xs,sq,pr⟩:=sql x2 aF eo;split at q
    .rename_i y ey;obtain⟨v,hv,pv⟩:=pr.get ey;refine .inr #[#[xs,v,sq,hv],_,λ_ _ z=>z,λv' H' y' K hK=>?_];obtain⟨rfl,y'⟩:=y';cases (y' xs sq).symm.trans hv;exact hK _ _ _ Ext.refl (rs2.set i pv) aF q
    .rename_i ey;exact .inl #[#[xs,sq,by rw[<- pr.1];exact xD.mp ey],q]
   .exact q.elim
  | _=>exact(show False from q1).elim
def dForR (i:Nat)(ta:TDA)(tb:TDS):TDS:=λE dl S=>ta dl S λds S1=>match ds with
 | [.int j]=>(-(2^62)<=j/\j<2^62)/\∃W:Nat->Ev->Sto->Prop,W 0 dl S1/\∀k dl S,W k dl S->
   if k<j.toNat then tb { nx:=λdl' S'=>W (k+1) dl' S',rt:=E.rt,bk:=E.nx,ct:=λdl' S'=>W (k+1) dl' S' } (dl.set i (some (.int k))) S else E.nx dl S
 | _=>False
theorem U8 (hp:PassesOwn (mX X) X.A X.env X.xe)(hc:X.calm=true)(hN:X.N.Nodup)(hi:X.N[i]?=some x)(hx:Loc X.env.scope x)(hg:Gl X "range")(hm:X.mg "range"=none)(ha:PDA X Z [a] ta)(hb:YB X Z body tb)(hf:Hf X x:=by first|exact .inl rfl|exact .inr rfl|assumption)(hs:∀y,foldedSetIterable (.Call (.Name "range" p) [a] [] pos) X.env y=pure y:=by intro _;rfl)(hst:starEach [a] X.env=[(false,eval a X.env)]:=by rfl):
  PDS X Z (.For (.Name x pos') (.Call (.Name "range" p) [a] [] pos) body [] aM) (dForR i ta tb):=
 Yy (Vb hp hc (Qy hg hm ha hst) (Vn hN hi hx hf) hb hs) λF σ H #[r,dl,S,E,rs,bA,h,ret]=>by
  refine#[r,dl,S,_,rs,bA,h,λvs H1 r1 ds S1 x1 aE p1 q1=>?_];split at q1
  .rename_i j;obtain⟨v,vs',rfl,p2,p3⟩:=p1.uncons;have z:=p3.unnil;subst z;cases p2;obtain⟨⟨b1,b2⟩,W,w0,turn⟩:=q1;refine#[j,rfl,b1,b2,Va x1 rs aE ret (λk m d s=>m=j.toNat-k/\W k d s) #[rfl,w0] λk m r2 dl2 S2 σ2 H2 x2 rs2 aF w=>?_];have q:=turn k dl2 S2 w.2;split at q
   .rename_i hk;refine .inr #[hk,_,λd s z=>#[j.toNat-(k+1),by omega,rfl,z],λv' H' y K hK=>?_];obtain⟨rfl,rfl⟩:=y;exact hK _ _ _ Ext.refl (rs2.set i (by rw[Int.zero_add];exact .int _)) aF q
   .rename_i hk;exact .inl #[by show j.toNat<=k;omega,q]
  .exact q1.elim
end
def Y2 (N:List Str)(ds:List D):Ev:=ds.map some++List.replicate (N.length-ds.length) none
theorem IC {r:List Addr}{H:Hp}{N:List Str}{ds:List D}{vs:List V}(h:Rps r H ds vs):Rs r H (Y2 N ds) (L2.XQ N vs):=by
  refine#[by simp[Y2,L2.XQ,h.1],λi d e=>?_];unfold Y2 at e;by_cases hi:i<ds.length
  · rw[zJ (by simpa using hi),zF] at e
    cases q:ds[i]? with
    | none=>
   rw[q] at e;cases e
    | some z=>
      rw[q] at e;cases e;obtain⟨v,hv,pv⟩:=h.get q;refine#[v,?_,pv];unfold L2.XQ;rw[zJ (by simpa [h.1] using hi),zF,hv];rfl
  · rw[yO (by simpa using hi),wG] at e
    split at e<;>cases e
section
variable {P:Program}{w:World}{K:Fg}{mg:Str->Option Value}{base:Heap}
abbrev Z0:Zx:=Zc (λ_ _=>False) (λ_ _ _=>False)
theorem YL:XG X Z0.w:=λ_ _ _ _ _ _ _ h=>by
 obtain⟨_,_,_,_,_,_,_,_,_,_,_,_,q⟩:=h;exact q.elim
theorem Vl {x qual:Str}{st:Stmt}{f:Addr}{fd:FuncData}{N ps:List Str}{k:Nat}{sd:Sd}(F:Fun K x qual st f fd)(Sc:YC N ps (ZA st))(len:∀ds S Q ex,sd ds S Q ex->ds.length=ps.length)
  (hbody:∀(cdv:Value)(A:Around)(outer:List Env)(s:Shared)(H:Hp)(E:XK),fd.code=cdv->ZI k (A.deeper (envOfC qual (ZA st) s.heap.objs.size f cdv))->
   ∃t,YB (Xl (CXE P w) P w K mg base N qual (ZA st) f cdv A outer s H E).nox Z0 (YV st) t/\∀ds S Q ex,sd ds S Q ex->t { nx:=λ_ S'=>Q .non S',rt:=Q } (Y2 N ds) S):Yk P w K mg base (CXE P w) (k+1) f fd ps (upF K sd):=by
 obtain⟨oc,od,kV,doc,pm,an,cdv,ct,osl,rfl,lk,hcd⟩:=F.ex;refine MN lk hcd Sc (λvs H Q E h=>?_) λA outer s H vs Q E hr h=>?_
 .obtain⟨ex,r,S,ds,Q',bA,p,q,ret⟩:=h;rw[<- p.1];exact len ds S Q' ex q
 .obtain⟨ex,r,S,ds,Q',bA,p,q,ret⟩:=h;obtain⟨t,ht,hq⟩:=hbody cdv A outer s H E rfl hr;have back:∀ {H':Hp} {r':List Addr} {S':Sto},Ext r r' H H'->Rel K Z0 r' S' H'->Rel K (Zc ex E) r' S' H':=λx rel'=>#[rel'.b,bA.xw.ext x]
  refine#[upS K Z0 t,ht.nox,r,Y2 N ds,S,_,IC p,#[bA.b,λ_ _ _ _ _ _ _ _ _ z=>z.elim],hq ds S Q' ex q,?_,?_,?_,?_]
  .intro σ' H' r' dl' S' x _ rel' z;exact ret .non H' r' .non S' x (back x rel') .non z
  .intro σ' H' r' dl' S' x _ rel' z;exact z
  .intro σ' H' r' dl' S' x _ rel' z;exact z
  .intro v H' r' d S' x rel' p' z;exact ret v H' r' d S' x (back x rel') p' z
end
open PySem
def Sz (n:Nat)(i:Int):Prop:=i.natAbs<2^n
theorem Sz.mono (h:Sz m i)(hn:m<=n):Sz n i:=zV h (Nat.pow_le_pow_right ⋯ hn)
theorem Sz.bits (h:Sz n i):Builtin.Int.intBits i<=n:=by
 unfold Builtin.Int.intBits;split
 .exact zL _
 .rename_i hz;have hp:i.natAbs≠0:=by
   intro z;have z2:i=0:=by omega
   simp[z2] at hz
  have:=(vW hp).mpr h;omega
theorem ZE (hi:Sz m i)(hj:Sz n j)(hm:m<=1048576:=by decide)(hn:n<=1048576:=by decide):IntMulOk i j:=by
 exact IntMulOk.of_bits (yJ hi.bits (by omega)) (yJ hj.bits (by omega))
theorem Sz.of {n:Nat}{i:Int}(m:Nat)(h:i.natAbs<=m)(hm:m<2^n:=by decide):Sz n i:=vT h hm
theorem Sz.mul (hi:Sz m i)(hj:Sz n j):Sz (m+n) (i*j):=by
 unfold Sz at *
 rw[vX,vY];exact Nat.mul_lt_mul'' hi hj
theorem Sz.add (hi:Sz m i)(hj:Sz n j):Sz (max m n+1) (i+j):=by
 have h1:Sz (max m n) i:=hi.mono (Nat.le_max_left _ _)
 have h2:Sz (max m n) j:=hj.mono (Nat.le_max_right _ _);unfold Sz at *
 have e:(2:Nat)^(max m n+1)=2^max m n+2^max m n:=by rw[Nat.pow_succ];omega
 omega
theorem Sz.neg (hi:Sz m i):Sz m (-i):=by
 unfold Sz at *
 rw[Int.natAbs_neg];exact hi
theorem Sz.sub (hi:Sz m i)(hj:Sz n j):Sz (max m n+1) (i-j):=by
 rw[Int.sub_eq_add_neg];exact hi.add hj.neg
theorem Sz.log (h:Sz n i)(hi:i≠0)(hn:n<=9000:=by decide):i.natAbs.log2<9000:=by
 have:=(vW (by omega:i.natAbs≠0)).mpr h;omega
theorem Sz.fd {n:Nat}{i:Int}(h:Sz n i)(hi:0<i)(hn:n<=9000:=by decide):0<i/\i.natAbs.log2<9000:=#[hi,h.log (by omega) hn]
theorem Yn {a b:Int}(hb:0<b):0<=a%b/\a%b<b:=#[vZ _ (by omega),uA _ hb]
example (x:Int):-(10^40)<=x%(2*10^40+1)-10^40:=by omega
example (x:Int):x%(2*10^40+1)-10^40<=10^40:=by omega
example (x:Int) (h:-(10^40)<=x) (h2:x<=2*10^41):Sz 140 x:=Sz.of (2*10^41) (by omega)
theorem Em (a b:Int):Int.gcd b (a%b)=Int.gcd a b:=by
 rw[Int.emod_def,show a-b*(a/b)=a-(a/b)*b by rw[yT],Int.gcd_sub_mul_right_right,Int.gcd_comm]
def X3 (i:Int):Int:=if i<0 then -i else i
theorem OL (i:Int):0<=X3 i:=by unfold X3;split<;>omega
theorem Dk (a b:Int):Int.gcd (X3 a) (X3 b)=Int.gcd a b:=by
 have h:∀i:Int,(X3 i).natAbs=i.natAbs:=λi=>by unfold X3;split<;>omega
 unfold Int.gcd;rw[h,h]
theorem Ig (hB:B≠0)(hd:d=(if B<0 then -((Int.gcd T B:Nat):Int) else ((Int.gcd T B:Nat):Int))):
  d≠0/\T.fdiv d*d=T/\B.fdiv d*d=B/\1<=B.fdiv d/\Int.gcd (T.fdiv d) (B.fdiv d)=1/\T.fdiv d*B=T*B.fdiv d:=by
 have g0:0<Int.gcd T B:=Nat.pos_of_ne_zero λz=>hB (uX.mp z).2
 have dT:((Int.gcd T B:Nat):Int) ∣ T:=uB T B
 have dB:((Int.gcd T B:Nat):Int) ∣ B:=xX T B
 have hne:d≠0:=by
  rw[hd];split<;>omega
 have eT:d ∣ T:=by rw[hd];split<;>first|exact Int.neg_dvd.mpr dT|exact dT
 have eB:d ∣ B:=by rw[hd];split<;>first|exact Int.neg_dvd.mpr dB|exact dB
 have fT:T.fdiv d=T/d:=uY eT
 have fB:B.fdiv d=B/d:=uY eB
 have mT:T.fdiv d*d=T:=by rw[fT];exact vH eT
 have mB:B.fdiv d*d=B:=by rw[fB];exact vH eB
 have gg:Int.gcd (T.fdiv d) (B.fdiv d)=1:=by
  have z:=Int.gcd_ediv_gcd_ediv_gcd g0;rw[fT,fB,hd];split
  .rw[Int.ediv_neg,Int.ediv_neg,Int.neg_gcd,Int.gcd_neg];exact z
  .exact z
 have pos:1<=B.fdiv d:=by
  by_cases hb:B<0
  .have dn:d<0:=by rw[hd,if_pos hb];omega
   by_cases q:B.fdiv d<=0
   .have:=Int.mul_nonneg_of_nonpos_of_nonpos q (xE dn);omega
   .omega
  .have dp:0<d:=by rw[hd,if_neg hb];omega
   by_cases q:B.fdiv d<=0
   .have:=yF (show 0<=-(B.fdiv d) by omega) (xE dp);rw[xO] at this;omega
   .omega
 refine#[hne,mT,mB,pos,gg,?_]
 calc T.fdiv d*B=T.fdiv d*(B.fdiv d*d):=by rw[mB]
  _=T.fdiv d*d*B.fdiv d:=by grind
  _=T*B.fdiv d:=by rw[mT]
theorem Lh {T d:Int}(hne:d≠0)(mT:T.fdiv d*d=T):(T.fdiv d).natAbs<=T.natAbs:=by
 have h:(T.fdiv d).natAbs*d.natAbs=T.natAbs:=by rw[<- vY,mT]
 have hd:1<=d.natAbs:=by omega
 calc (T.fdiv d).natAbs=(T.fdiv d).natAbs*1:=by omega
  _<=(T.fdiv d).natAbs*d.natAbs:=Nat.mul_le_mul_left _ hd
  _=T.natAbs:=h
theorem Vf (m:Int)(hg:0<g):m/g*g<=m/\m<(m/g+1)*g:=by
 have h1:=uC m g
 have h2:=vZ m (show g≠0 by omega)
 have h3:=uA m hg
 have e:(m/g+1)*g=g*(m/g)+g:=by grind
 have e2:m/g*g=g*(m/g):=yT _ _;omega
theorem UX (m:Int)(hg:0<g):m<=-(-m/g)*g/\(-(-m/g)-1)*g<m:=by
 obtain⟨h1,h2⟩:=Vf (-m) hg;have e1:-(-m/g)*g=-(-m/g*g):=by rw[xO]
 have e2:(-(-m/g)-1)*g=-((-m/g+1)*g):=by grind
 omega
def wIf (C:Int->Int->Bool)(g:Int->Int->D):W2:=λx y S Q=>match x,y with
 | .int i,.int j=>if C i j=true then Q (g i j) S else False
 | _,_=>False
theorem opIf (h:OpR X f (upO X.K Z (wI C g)))(hc:∀i j,C' i j=true->C i j):OpR X f (upO X.K Z (wIf C' g)):=
 Vh h λx y H Qv #[r,S,dx,dy,Q,bA,px,py,q,ret]=>#[r,S,dx,dy,Q,bA,px,py,by
  unfold wIf at q;split at q
  .obtain⟨h1,h2⟩:=SF q;exact#[hc _ _ h1,h2]
  .exact q.elim,ret]
def Ri (_ j:Int):Bool:=decide (0<j)&&decide (j<1073741824)
abbrev Jf:W2:=wIf Ri λi j=>.int (i/j)
abbrev wModL:W2:=wIf Ri λi j=>.int (i%j)
def powB (i j:Int):Bool:=decide (0<=j)&&decide (j<=1000)&&decide (-1000<i)&&decide (i<1000)
abbrev wPowL:W2:=wIf powB λi j=>.int (i^j.toNat)
theorem LH (h:Ri i j=true):0<j/\j<1073741824:=by
 unfold Ri at h;simpa using h
theorem Ym:OpR X (binaryOp .FloorDiv) (upO X.K Z Jf):=opIf Yp λi j h=>by
 obtain⟨h1,h2⟩:=LH h;refine#[h1,?_];have:j.natAbs.log2<30:=(vW (by omega)).mpr (by omega);omega
theorem ZZ:OpR X (binaryOp .Mod) (upO X.K Z wModL):=opIf Yc λi j h=>(LH h).1
theorem YS:OpR X (binaryOp .Pow) (upO X.K Z wPowL):=opIf Je λi j h=>by
 unfold powB at h;simp at h;refine#[h.1.1.1,by have:=h.1.1.2;omega,?_];omega
structure Df (K:Fg)(mg:Str->Option Value)(x:Str)(st:Stmt)(ps:List Str) where
 f:Addr
 fd:FuncData
 F:Fun K x x st f fd
 m:mg x=some (.ref f)
 b:YK K fd ps []
structure Fk (P:Program)(w:World)(K:Fg)(mg:Str->Option Value)(base:Heap)(k:Nat)(x:Str)(ps:List Str)(sd:Sd) where
 f:Addr
 fd:FuncData
 ok:Yk P w K mg base (CXE P w) k f fd ps (upF K sd)
 m:mg x=some (.ref f)
 kp:W.keepIn K (.ref f)=true
 b:YK K fd ps []
def Df.mk' {P:Program}{w:World}{K:Fg}{mg:Str->Option Value}{base:Heap}{k:Nat}{x:Str}{st:Stmt}{ps:List Str}{sd:Sd}(d:Df K mg x st ps)(h:Yk P w K mg base (CXE P w) k d.f d.fd ps (upF K sd)):Fk P w K mg base k x ps sd:=
 #[d.f,d.fd,h,d.m,d.F.kp,d.b]
theorem PF (G:Fk X.prog X.w X.K X.mg X.base k x ps sd)(hr:ZI k X.A)(hx:XG X W)(hg:Gl X x)(ha:PDA X #[ex,W] (e::es) t)(hdb:(x==("__debug__":Str))=false:=by decide)(he:He X e es:=by rfl)(hpl:Hp1 X pos es:=by rfl):
  PD X #[ex,W] (.Call (.Name x p) (e::es) [] pos) (Qk ex sd t):=IK G.ok hr hg G.m G.kp G.b hx ha hdb he hpl
theorem Ho {st:Stmt}:PDS X Z st (λ_ _ _=>False):=Yy Aq λF σ H #[_,_,_,_,_,_,h,_]=>h
theorem Cr {r:List Addr}{H:Hp}(ns:List Int):Rps r H (ns.map D.int) (ns.map V.int):=by
 refine#[by simp,λi d v h1 h2=>?_];rw[zF] at h1 h2;cases q:ns[i]? with
 | none=>rw[q] at h1;cases h1
 | some z=>
  rw[q] at h1 h2;cases h1;cases h2;exact .int z
theorem ifF {c:Bool}{A B:Prop}(h:c=false)(b:B):if c=true then A else B:=by rw[h];exact Y5 b
theorem ifP {c A B:Prop} [Decidable c] (h:c)(a:A):if c then A else B:=by rw[if_pos h];exact a
theorem ifD {c:Prop} [Decidable c] {A B:Prop}(h1:c->A)(h2:¬ c->B):if decide c=true then A else B:=by
 by_cases h:c
 .rw[decide_eq_true h];exact Y0 (h1 h)
 .rw[decide_eq_false h];exact Y5 (h2 h)
open PySem L2
open PySem L2
theorem Sz.pow (h:Sz n i)(k:Nat):Sz (n*k+1) (i^k):=by
 unfold Sz at *
 rw[uD,Nat.pow_succ,Nat.pow_mul];have h1:i.natAbs^k<=(2^n)^k:=Nat.pow_le_pow_left (yR h) k
 have h2:0<(2^n)^k:=yP (yP ⋯);omega
theorem ifN {c:Prop} [Decidable c] {A B:Prop}(h1:¬ c->A)(h2:c->B):if (!decide c)=true then A else B:=by
 by_cases h:c
 .rw[decide_eq_true h];exact L2.Y5 (h2 h)
 .rw[decide_eq_false h];exact L2.Y0 (h1 h)
section
variable {X:Cx}{Z:Zx}
end
structure Vc (k:Nat)(A:Around):Prop where
 dp:A.depth+3*k+5<recursionLimit
 un:A.units+16*k+200<cLine
theorem Vc.mono (r:Vc k A)(h:j<=k):Vc j A:=#[by have:=r.dp;omega,by have:=r.un;omega]
theorem Vc.deeper {k:Nat}{A:Around}(r:Vc (k+1) A)(env:Env):Vc k (A.deeper env):=
 #[by have:=r.dp;show A.depth+1+3*k+5<_;omega,by have:=r.un;show A.units+3+16*k+200<_;omega]
structure FnOkN (P:Program)(w:World)(K:Fg)(mg:Str->Option Value)(base:Heap)(k:Nat)(f:Addr)(fd:FuncData)(ps:List Str)(sp:Sp):Prop where
 len:∀vs H Q E,sp vs H Q E->vs.length=ps.length
 run:∀(A:Around)(outer:List Env)(s:Shared)(H:Hp)(args:Args)(us:List Value)(vs:List V)(Q:VK)(E:XK),Vc k A->W4 P w K mg base A outer s H->BindsTo s fd args (ps.zip us)->Zz vs us->sp vs H Q E->
  codeAny (model P w) A (.call (.ref f) args) (CR (CXE P w) outer P w H s Q E) s
section
variable {X:Cx}{k:Nat}{f:Addr}{fd:FuncData}{ps:List Str}{sp:Sp}{W:St->XK}{x:Str}{p pos:Pos}{e:Expr}{es:List Expr}{t:TA}
end
section
variable {X:Cx}{Z:Zx}{x:Str}{p pos:Pos}{e:Expr}{es:List Expr}{t:TDA}
end
section
variable {P:Program}{w:World}{K:Fg}{mg:Str->Option Value}{base:Heap}
end
structure FkN (P:Program)(w:World)(K:Fg)(mg:Str->Option Value)(base:Heap)(k:Nat)(x:Str)(ps:List Str)(sd:Sd) where
 f:Addr
 fd:FuncData
 ok:FnOkN P w K mg base k f fd ps (upF K sd)
 m:mg x=some (.ref f)
 kp:W.keepIn K (.ref f)=true
 b:YK K fd ps []
theorem V9 {r:List Addr}{H:Hp}{a:Addr}{o:HO}(h:H a=none):Ext r r H (upd H a o):=#[λ_ _ q=>q,λ_ _ q=>Xk h _ _ q,λ_ _ q=>Xk h _ _ q]
abbrev VE:List Value:=[.type "ValueError",.type "Exception",.type "BaseException",.type "object"]
structure Ec (K:Fg)(mg:Str->Option Value)(x:Str) where
 c:Addr
 xc:Xc K mg x c VE "ValueError.__new__"
theorem Sz.div (h:Sz n i)(hj:1<=j):Sz n (i/j):=by
 refine vT ?_ h;obtain⟨h1,h2⟩:=Vf i (show 0<j by omega);by_cases q:0<=i/j
 .have:=wL hj q;omega
 .have:=wL hj (show 0<=-(i/j+1) by omega)
  have e:-(i/j+1)*j=-((i/j+1)*j):=xO _ _;omega
inductive Sco (n:Nat):D->Prop
 | non:Sco n .non
 | bl (b:Bool):Sco n (.bl b)
 | int (i:Int):Sco n (.int i)
 | str (x:Str):Sco n (.str x)
 | tup {ds:List D}:(∀d∈ds,Sco n d)->Sco n (.tup ds)
 | ref {m:Nat}:m<n->Sco n (.ref m)
 | exc (c:Addr):Sco n (.exc c)
theorem Rp.sco {r:List Addr}{H:Hp}{d:D}{v:V}(h:Rp r H d v):Sco r.length d:=by
 induction h with
 | non=>exact .non
 | bl b=>exact .bl b
 | int i=>exact .int i
 | str x=>exact .str x
 | @tup ds xs a _ l _ ih=>
  refine .tup λd hd=>?_
  obtain⟨i,hi,e⟩:=yZ.mp hd;exact ih i d xs[i] (by simp[hi,e]) (by simp[l ▸ hi])
 | ref h=>exact .ref (zC.mp h).1
 | exc _=>exact .exc _
theorem Rp.low {r r':List Addr}{H:Hp}{d:D}{v:V}(h:Rp r' H d v)(low:∀m a,m<r.length->r'[m]?=some a->r[m]?=some a)(s:Sco r.length d):Rp r H d v:=by
 induction h with
 | non=>exact .non
 | bl b=>exact .bl b
 | int i=>exact .int i
 | str x=>exact .str x
 | tup e l f ih=>
  cases s with
  | tup s=>exact .tup e l λi d v h1 h2=>ih i d v h1 h2 (s d (zE h1))
 | ref h=>
  cases s with
  | ref s=>exact .ref (low _ _ s h)
 | exc h=>exact .exc h
def Pre (S S':Sto):Prop:=∀(n:Nat)(o:Ob),S[n]?=some o->S'[n]?=some o
theorem Pre.refl {S:Sto}:Pre S S:=λ_ _ h=>h
theorem Pre.push {S S':Sto}{o:Ob}(h:Pre S S'):Pre S (S'++[o]):=λn u e=>by
 have z:=h n u e;rw[zJ (zC.mp z).1];exact z
theorem Pre.trans {S S' S2:Sto}(h:Pre S S')(k:Pre S' S2):Pre S S2:=λn o e=>k n o (h n o e)
theorem QI {r r':List Addr}{H H':Hp}(e:Ext r r' H H'):∀m a,m<r.length->r'[m]?=some a->r[m]?=some a:=λm a hm h=>by
 have z:r[m]?=some r[m]:=by simp[hm]
 rw[e.adr _ _ z] at h;rw[z];exact h
theorem Z2.low {K:Fg}{r r':List Addr}{S S':Sto}{H H':Hp}(h:Z2 K r S H)(e:Ext r r' H H')(h':Z2 K r' S' H')(p:Pre S S'):Z2 K r S H':=by
 have rl:∀ {ds:List D} {xs ys:List V},Rps r H ds xs->Rps r' H' ds ys->Rps r H' ds ys:=λ{ds xs ys} a b=>#[b.1,λi d v h1 h2=>by
  obtain⟨v0,_,q⟩:=a.get h1;exact(b.2 i d v h1 h2).low (QI e) q.sco]
 refine#[h.len,λn a o h1 h2=>?_,λn m a xs ys h1 h2 h3 h4 o1 o2=>h'.nd n m a xs ys (e.adr _ _ h1) (e.adr _ _ h2) (p _ _ h3) (p _ _ h4) o1 o2];have q:=h.ob n a o h1 h2
 have q':=h'.ob n a o (e.adr _ _ h1) (p _ _ h2);cases o with
 | lst ds=>
  obtain⟨xs,_,a1⟩:=q;obtain⟨ys,b0,b1⟩:=q';exact#[ys,b0,rl a1 b1]
 | frz ds=>
  obtain⟨xs,_,a1⟩:=q;obtain⟨ys,b0,b1⟩:=q';exact#[ys,b0,rl a1 b1]
 | ins C fs=>
  obtain⟨_,_,_,a1⟩:=q;obtain⟨dx,fs',b0,b1⟩:=q';exact#[dx,fs',b0,b1.1,rl a1.2 b1.2]
 | dct kvs=>
  obtain⟨_,_,a1⟩:=q;obtain⟨ks,b0,b1⟩:=q';exact#[ks,b0,b1.1,rl a1.2 b1.2]
 | dck kvs=>
  obtain⟨_,_,a1⟩:=q;obtain⟨ks,b0,b1⟩:=q';exact#[ks,b0,b1.1,rl a1.2 b1.2]
 | tpl ws=>exact q'
 | cod P pos q0=>exact q'
def Gc (S:Sto)(Q:DK):DK:=λd S'=>Pre S S'/\Sco S.length d/\Q d S
def GcX (S:Sto)(ex:Addr->Sto->Prop):Addr->Sto->Prop:=λc S'=>Pre S S'/\ex c S
theorem Ret.gc {K:Fg}{Z Z':Zx}{r:List Addr}{S:Sto}{H:Hp}{Q:DK}{Qv:VK}(h:Ret K Z r H Q Qv)(bA:Rel K Z r S H):Ret K Z' r H (Gc S Q) Qv:=λv H' r' d S' e rel' p q=>by
 obtain⟨pre,sc,q⟩:=q;have e':Ext r r H H':=#[λ_ _ z=>z,e.tup,e.xc];rw[<- bA.len] at sc;exact h v H' r d S e' #[bA.b.low e rel'.b pre,bA.xw.ext e'] (p.low (QI e) sc) q
theorem Ve.gc {K:Fg}{ex:Addr->Sto->Prop}{E:XK}{r:List Addr}{S:Sto}{H:Hp}(bA:Rel K (Zc ex E) r S H):Ve K (Zc (GcX S ex) E) r H:=λdl σ c H' r' S' e _ rb q=>by
 obtain⟨pre,q⟩:=q;have e':Ext r r H H':=#[λ_ _ z=>z,e.tup,e.xc];exact bA.xw [] [] c H' r S e' #[rfl,λi d z=>by simp at z] (bA.b.low e rb pre) q
section
variable {P:Program}{w:World}{K:Fg}{mg:Str->Option Value}{base:Heap}
def gcS (sd:Sd):Sd:=λds S Q ex=>∃Q0 ex0,Q=Gc S Q0/\ex=GcX S ex0/\sd ds S Q0 ex0
theorem fn_gc (h:Yk P w K mg base CX k f fd ps (upF K (gcS sd))):Yk P w K mg base CX k f fd ps (upF K sd):=by
 have imp:∀vs H Q E,upF K sd vs H Q E->upF K (gcS sd) vs H Q E:=λvs H Qv E #[ex,r,S,ds,Q,bA,p,q,ret]=>
  #[GcX S ex,r,S,ds,Gc S Q,#[bA.b,Ve.gc bA],p,#[Q,ex,rfl,rfl,q],ret.gc bA]
 obtain⟨h1,h2⟩:=h;exact#[λvs H Q E q=>h1 vs H Q E (imp vs H Q E q),λA outer s H args us vs Q E hr e0 hb rv q=>h2 A outer s H args us vs Q E hr e0 hb rv (imp vs H Q E q)]
end
theorem Ap (len:∀ds S Q ex,sd ds S Q ex->ds.length=n):∀ds S Q ex,gcS sd ds S Q ex->ds.length=n:=λds S Q ex h=>by
 obtain⟨Q0,ex0,_,_,h⟩:=h;exact len _ _ _ _ h
structure Ws (sc around:Scope)(x:Str)(caps:List Str):Prop where
 kind:sc.kind=.function
 nocell:∀y∈sc.names,y.2≠.cell
 own:∀y∈sc.names,y.2=.local->sc.names.lookup y.1=some .local
 loc:sc.names.lookup x=some .local
 cap:∀y∈caps,sc.names.lookup y=some .free
 out:∀y∈sc.names,y.2=.free->around.names.lookup y.1=some .cell
theorem Ub {α:Type}{y:Str}{v:α}:∀ {l:List (Str×α)},l.lookup y=some v->(y,v)∈l
 | [],h=>by simp at h
 | (n,k)::r,h=>by
  cases e:y==n with
  | true=>
   rw[yC,e] at h;have z:k=v:=Option.some.inj h
   have z2:y=n:=by simpa using e
   rw[z,z2];exact xG
  | false=>
   rw[yC,e] at h;exact yS _ (Ub h)
theorem R5:∀(l:List (Str×NameKind))(acc:List (Str×Addr)),(∀y∈l,y.2=.free->∃c,env.cells.lookup y.1=some c)->(∀x c,acc.lookup x=some c->env.cells.lookup x=some c)->
  ∃cl,(forIn l acc λx r=>(if (x.2==NameKind.free)=true then do let a <- cellOf env x.1;pure (ForInStep.yield ((x.1,a)::r)) else pure (ForInStep.yield r):Sem (ForInStep (List (Str×Addr)))))=pure cl/\
   (∀x c,cl.lookup x=some c->env.cells.lookup x=some c)/\(∀y∈l,y.2=.free->cl.lookup y.1=env.cells.lookup y.1)/\∀x c,acc.lookup x=some c->∃c',cl.lookup x=some c'
 | [],acc,_,ha=>#[acc,by simp,ha,λy hy=>(by cases hy),λx c e=>#[c,e]]
 | (n,k)::r,acc,h,ha=>by
  cases hk:(k==NameKind.free) with
  | false=>
   obtain⟨cl,h1,h2,h3,h4⟩:=R5 r acc (λy hy=>h y (yS _ hy)) ha;refine#[cl,?_,h2,λy hy hf=>?_,h4]
   .rw[uZ];simp[hk];simpa using h1
   .have hy':=zT.mp hy;rcases hy' with rfl|hy
    .rw[show k=NameKind.free from hf] at hk;exact absurd hk ⋯
    .exact h3 y hy hf
  | true=>
   have hf:k=NameKind.free:=by simpa using hk
   obtain⟨c,hc⟩:=h (n,k) xG hf;obtain⟨cl,h1,h2,h3,h4⟩:=R5 r ((n,c)::acc) (λy hy=>h y (yS _ hy)) (λx c' e=>by
    cases q:x==n with
    | true=>
     rw[yC,q] at e;have z:x=n:=by simpa using q
     rw[z,hc];exact e
    | false=>
     rw[yC,q] at e;exact ha x c' e)
   refine#[cl,?_,h2,λy hy hf=>?_,λx c' e=>?_]
   .have ec:cellOf env n=pure c:=by unfold cellOf;rw[hc]
    rw[uZ];simp[hk,ec];simpa using h1
   .have hy':=zT.mp hy;rcases hy' with rfl|hy
    .obtain⟨c',e⟩:=h4 n c (by simp);rw[e];exact(h2 _ _ e).symm
    .exact h3 y hy hf
   .refine h4 x (if x==n then c else c') ?_;cases q:x==n with
    | true=>simp[yC,q]
    | false=>simp[yC,q,e]
theorem MI (h:∀y∈sc.names,y.2=.free->∃c,env.cells.lookup y.1=some c):
  ∃cl,closureFor sc env=pure cl/\(∀x c,cl.lookup x=some c->env.cells.lookup x=some c)/\∀y∈sc.names,y.2=.free->cl.lookup y.1=env.cells.lookup y.1:=by
 obtain⟨cl,h1,h2,h3,_⟩:=R5 sc.names [] h (λx c e=>by simp at e);refine#[cl,?_,h2,h3];unfold closureFor;simp only[bind_pure];exact h1
theorem OR {env:Env}:∀ {names:List (Str×NameKind)} {x:Str},names.lookup x=some .free->
  (names.map λ(n,k)=>if (k==NameKind.free&&env.scope.kind==.function&&env.kindOf n==some .cell) then (n,NameKind.cell) else (n,k)).lookup x=some .cell\/
  (names.map λ(n,k)=>if (k==NameKind.free&&env.scope.kind==.function&&env.kindOf n==some .cell) then (n,NameKind.cell) else (n,k)).lookup x=some .free
 | [],_,h=>by simp at h
 | (n,k)::r,x,h=>by
  have ih:=@OR env r x;rw[yL];cases hx:x==n with
  | true=>
   rw[yC,hx] at h;have hk:k=.free:=Option.some.inj h;subst hk;dsimp only;split
   .left;simp[yC,hx]
   .right;simp[yC,hx]
  | false=>
   rw[yC,hx] at h;dsimp only;split
   .simp only[yC,hx];exact ih h
   .simp only[yC,hx];exact ih h
theorem Mz {env:Env}:∀ {names:List (Str×NameKind)} {x:Str},(∀y∈names,y.2≠.cell)->
  ((names.map λ(n,k)=>if (k==NameKind.free&&env.scope.kind==.function&&env.kindOf n==some .cell) then (n,NameKind.cell) else (n,k)).lookup x=some .cell\/
  (names.map λ(n,k)=>if (k==NameKind.free&&env.scope.kind==.function&&env.kindOf n==some .cell) then (n,NameKind.cell) else (n,k)).lookup x=some .free)->names.lookup x=some .free
 | [],_,_,h=>by simp at h
 | (n,k)::r,x,hc,h=>by
  have ih:=@Mz env r x λy hy=>hc y (yS _ hy)
  rw[yL] at h;cases hx:x==n with
  | true=>
   rw[yC,hx];dsimp only at h;split at h
   .rename_i q;simp at q;have hk:k=.free:=by simpa using q.1.1
    rw[hk]
   .simp only[yC,hx] at h;rcases h with h|h
    .exact absurd (Option.some.inj h) (hc (n,k) xG)
    .exact h
  | false=>
   rw[yC,hx];dsimp only at h;split at h
   .simp only[yC,hx] at h;exact ih h
   .simp only[yC,hx] at h;exact ih h
abbrev Cx.comp (X:Cx)(sc:Scope)(N:List Str)(cl:List (Str×Addr))(C:Addr)(s0:Shared)(H0:Hp)(fp:List Addr)(pn:LA):Cx:=
 { X with N:=N,env:=compEnvC sc cl C X.env,s₀:=s0,H₀:=H0,outer:=X.stack,stack:=X.stack,ex:=fp,fn:=λ_=>false,pn:=pn,xe:=λ_ _=>False }
def Yl (caps:List Nat)(σ:St):St:=caps.map λj=>(σ[j]?).join
def Yd (caps:List Nat)(dl:Ev):Ev:=caps.map λj=>(dl[j]?).join
def Uc (caps:List Nat)(wi:TI)(tc:TT)(te:TE):TE:=λσ H Q=>wi σ H λJ H1=>∀D,H1 D=none->∃W:Nat->Nat->Hp->Prop,(∃m,W 0 m (upd H1 D (.lst [])))/\∀i m H,W i m H->
 (J.stop i H/\Q (.ref D) H)\/(J.go i H/\∀x H',J.yld i H x H'->tc (some x::Yl caps σ) H' λb H2=>if b=true then te (some x::Yl caps σ) H2 λy H3=>∃ys,H3 D=some (.lst ys)/\ys.length<sizeLine/\∃m',m'<m/\W (i+1) m' (upd H3 D (.lst (ys++[y])))
  else ∃m',m'<m/\W (i+1) m' H2)
def PTs (Y:Cx)(ifs:List Expr)(tc:TT):Prop:=∀(aA:LA)(s:Shared)(σ:St)(H:Hp)(Q:Bool->Hp->Prop),Inv Y aA σ H s->tc σ H Q->
 wpAny (model Y.prog Y.w) Y.A (forIn ifs true λc r=>if r=true then do let ok <- isTrue c Y.env (eval c Y.env);pure (ForInStep.yield ok) else pure (ForInStep.yield r)) (TP Y aA σ Q) Y.xe s
theorem MQ:PTs Y [] (λ_ H Q=>Q true H):=λ_ _ _ H _ I h=>wpAny_tests_nil #[H,I,h]
theorem CG (h:PT Y c tc):PTs Y [c] tc:=λaA s σ H Q I q=>wpAny_tests_one (h aA s σ H Q I q)
section
variable {X:Cx}{aA:LA}{σ:St}{H:Hp}{s:Shared}
end
structure UW (X:Cx)(aA:LA)(σ:St)(C:Addr)(Q:VK)(D:Addr)(s':Shared):Prop where
 q:∃H',Inv X aA σ H' s'/\Q (.ref D) H'/\H' C=none
 ns:∃m,s'.heap.Ns C m
 loc:C≠X.env.locals
 old:X.s₀.heap.objs.size<=C
 cell:∀x c,X.env.cells.lookup x=some c->c≠C
 pin:∀p∈X.pn++aA,p.1≠C
theorem JN {aX aW:Expr}{tg:Expr}{ifs:List Expr}{scope:Scope}{pos:Pos}{it acc:Value}{env:Env}{R:Result->Shared->Prop}(I:Nat->Shared->Prop)
  (turn:∀n s,I n s->wpAny (model prog w) A (pyNext it) (λr s1=>match r with
   | none=>R (.ok .next) s1
   | some v=>wpAny (model prog w) A (letOwnedTupleGo tg it v) (λ_ s2=>wpAny (model prog w) A (assign tg env v) (λ_ s3=>
     wpAny (model prog w) A (forIn ifs true λc r=>if r=true then do let ok <- isTrue c env (eval c env);pure (ForInStep.yield ok) else pure (ForInStep.yield r)) (λok s4=>
      if ok=true then wpAny (model prog w) A (eval aX env) (λx s5=>
       wpAny (model prog w) A (call (.builtin "list.append") [acc,x]) (λ_ s6=>∃m,m<n/\I m s6) (notedBy (model prog w) A env λe s'=>R (.error e) s') s5) (notedBy (model prog w) A env λe s'=>R (.error e) s') s4
      else ∃m,m<n/\I m s4) (notedBy (model prog w) A env λe s'=>R (.error e) s') s3)
     (notedBy (model prog w) A env λe s'=>R (.error e) s') s2) (notedBy (model prog w) A env λe s'=>R (.error e) s') s1) (notedBy (model prog w) A env λe s'=>R (.error e) s') s)
  (n:Nat)(h:I n s):codeAny (model prog w) A (.compLoop (.ListComp aX [#[tg,aW,ifs,0]] scope pos) 0 it acc env) R s:=by
 refine codeAny_loop rfl I (λj t hI=>?_) n h;refine wpAny_noted ?_;refine wpAny_bind (wpAny_standAt (wpAny_bind (wpAny_mono (turn j t hI) (λr s1 h1=>?_) λ_ _ z=>z)));cases r with
 | none=>exact wpAny_pure h1
 | some v=>
  refine wpAny_bind (wpAny_mono h1 (λ_ s2 h2=>?_) λ_ _ z=>z);refine wpAny_bind (wpAny_mono h2 (λ_ s3 h3=>wpAny_bind (wpAny_mono h3 (λok s4 h4=>?_) λ_ _ z=>z)) λ_ _ z=>z);cases ok with
  | false=>exact wpAny_pure #[rfl,h4]
  | true=>exact wpAny_bind (wpAny_bind (wpAny_mono h4 (λx s5 h5=>wpAny_bind (wpAny_mono h5 (λ_ s6 h6=>wpAny_pure (wpAny_pure #[rfl,h6])) λ_ _ z=>z)) λ_ _ z=>z))
structure XF (sc around:Scope)(own caps:List Str):Prop where
 kind:sc.kind=.function
 nocell:∀y∈sc.names,y.2≠.cell
 own:∀y∈sc.names,y.2=.local->sc.names.lookup y.1=some .local
 cap:∀y∈caps,sc.names.lookup y=some .free
 out:∀y∈sc.names,y.2=.free->around.names.lookup y.1=some .cell
theorem D7 {sc:Scope}{own N:List Str}{caps:List Nat}{cl:List (Str×Addr)}{fp:List Addr}{h1:Heap}{m:Str->Option Value}{tk:Nat}(I:Inv X aA σ H s)(cs:XF sc X.env.scope own N)
  (hN:∀(j:Nat)(y:Str),N[j]?=some y->∃i,caps[j]?=some i/\X.N[i]?=some y)(aQ:caps.length=N.length)
  (c1:∀x c,cl.lookup x=some c->X.env.cells.lookup x=some c)(c2:∀y∈sc.names,y.2=.free->cl.lookup y.1=X.env.cells.lookup y.1)
  (hf:∀b∈fp,Yu X aA H b)(hfo:∀b∈fp,b<s.heap.objs.size)(hns:h1.Ns s.heap.objs.size m)(hk:∀b o,s.heap.get? b=some o->h1.get? b=some o):
  Inv (Cx.comp X sc (own++N) cl s.heap.objs.size s H fp (X.pn++aA)) [] (List.replicate own.length none++Yl caps σ) H { s with heap:=h1,toks:=tk }:=by
 have stk:∀b∈frs X.stack,b=X.env.locals\/b∈X.fs:=λb hb=>zT.mp (I.stkSub b hb)
 refine#[#[I.ok.mod,cs.kind,I.ok.glob,I.ok.blt,zA _,λa b c h1 h2=>I.ok.inj a b c (c1 _ _ h1) (c1 _ _ h2),λy hy=>?_,λ_ _ z=>Bool.noConfusion z,I.ok.hd,I.ok.frames,.inl rfl,λb hb=>#[zN (hfo b hb),λy c e=>(hf b hb).2.2.2.2.1 y c (c1 _ _ e)],
  I.bs,yJ I.ok.bsz I.sz,λb o e hb=>?_,λb hb z=>?_,I.stack,I.stkFree],rfl,I.bare,Un.kept hk,#[m,hns,λi y v e1 e2 e3=>?_],λy c e=>?_,I.hok.fresh (zA _),λy c e=>I.freeC y c (c1 _ _ e),λp hp=>?_,I.hok.kept hk,?_]
 .have hfr:sc.names.lookup y=some .free:=Mz cs.nocell hy
  have hm:=Ub hfr;obtain⟨c,e⟩:=I.ok.has y (.inl (cs.out _ hm rfl));exact#[c,(c2 _ hm rfl).trans e]
 .rcases (hf b hb).2.2.2.1 with z|z
  .exact I.ok.noex b o e z
  .exact absurd (zV (Heap.lt_size (I.ok.bs b o e).1) z) (yW _)
 .rcases stk b z with z|z
  .exact(hf b hb).2.1 z
  .exact(hf b hb).2.2.1 z
 .rcases Nat.lt_or_ge i own.length with hi|hi
  .rw[zJ (by simpa using hi),wG] at e2;simp[hi] at e2
  .obtain⟨i,rfl⟩:∃k,i=own.length+k:=#[i-own.length,by omega];have e1':N[i]?=some y:=by
    rw[yO hi] at e1;simpa using e1
   have e2:(Yl caps σ)[i]?=some (some v):=by
    rw[yO (by simp)] at e2;simpa using e2
   obtain⟨j,hj,hy⟩:=hN i y e1';have e2':σ[j]?=some (some v):=by
    simp only[Yl,zF,hj,vI,Option.some.injEq] at e2;cases q:σ[j]? with
    | none=>rw[q] at e2;cases e2
    | some o=>rw[q] at e2;simp at e2;rw[e2]
   have hfr:sc.names.lookup y=some .free:=cs.cap y (zE e1')
   have hm:=Ub hfr
   have hce:X.env.scope.names.lookup y=some .cell:=cs.out _ hm rfl;obtain⟨m0,_,hl⟩:=I.loc;obtain⟨u,r,l⟩:=hl j y v hy e2' (.inr (.inl hce));refine#[u,r,.inr #[OR hfr,?_]];rcases l with ⟨k,_⟩|⟨_,c,ec,hcell⟩
   .rw[show X.env.kindOf y=some .cell from hce] at k;cases k
   .exact#[c,(c2 _ hm rfl).trans ec,hcell.keeps hk]
 .obtain⟨v,z⟩:=I.cell y c (c1 _ _ e);exact#[v,z.keeps hk]
 .have hp':p∈X.pn++aA:=by simpa using hp
  obtain⟨p1,p2,p3,p4,p5⟩:=I.pin p hp';refine#[hk _ _ p1,p2,zN (Heap.lt_size p1),λz=>?_,p5];rcases stk _ z with z|z
  .exact p3 z
  .exact p4 z
 .simp[Yl,aQ]
theorem Ph {tg:Expr}{K:It->Hp->Prop}{ifs:List Expr}{tc:TT}{use:Option (Value->Sem Unit)}{Qr:Value->Shared->Prop}(hc:X.calm=true)(cs:XF sc X.env.scope own N)(hN:∀(j:Nat)(y:Str),N[j]?=some y->∃i,caps[j]?=some i/\X.N[i]?=some y)(aQ:caps.length=N.length)
  (hi:PI X tg aW wi)(hg:∀cl C s0 H0 fp pn,PG (Cx.comp X sc (own++N) cl C s0 H0 fp pn) tg gt)(he:∀cl C s0 H0 fp pn,PE (Cx.comp X sc (own++N) cl C s0 H0 fp pn) aX te)
  (ht:∀cl C s0 H0 fp pn,PTs (Cx.comp X sc (own++N) cl C s0 H0 fp pn) ifs tc)(hs:∀y,foldedSetIterable aW X.env y=pure y)
  {aA:LA}{s:Shared}{σ:L2.St}{H:Hp}{Q:VK}{p2:Pos}(I:Inv X aA σ H s)(h:wi σ H K)(hK:∀J H1,K J H1->∀D,H1 D=none->∃W:Nat->Nat->Hp->Prop,(∃m,W 0 m (upd H1 D (.lst [])))/\∀i m H,W i m H->(J.stop i H/\Q (.ref D) H)\/(J.go i H/\∀x H',J.yld i H x H'->∀o:L2.St,o.length=own.length->gt x (o++Yl caps σ) H' λσ8 H8=>(∃o8:L2.St,o8.length=own.length/\σ8=o8++Yl caps σ)/\tc σ8 H8 λb H9=>if b=true then te σ8 H9 λy H3=>∃ys,H3 D=some (.lst ys)/\ys.length<sizeLine/\∃m',m'<m/\W (i+1) m' (upd H3 D (.lst (ys++[y]))) else ∃m',m'<m/\W (i+1) m' H9))
  (aZ:∀D C s',UW X aA σ C Q D s'->compPost (mX X) X.A X.xe use Qr (.ref D) C (.ok .next) s'):
  wpAny (mX X) X.A (comprehension (.ListComp aX [#[tg,aW,ifs,0]] sc pos) sc X.env p2 (newList []) false (eval aW X.env) use) Qr X.xe s:=by
 obtain⟨cl,k1,k2,k3⟩:=MI λy hy hf=>I.ok.has y.1 (.inl (cs.out y hy hf))
 refine wpAny_comprehension_free rfl hs k1 cs.kind cs.own (thn (hi aA s σ H _ I h) λv s1 h1=>thn h1 λitv s2 h2=>?_);obtain⟨it,fp,tn,J,H2,e,I2,T,st2,f2,body⟩:=h2;subst e;have hfo:∀b∈fp,b<s2.heap.objs.size:=λb hb=>by
  obtain⟨o,e,_⟩:=T.obj _ _ st2 b hb;exact Heap.lt_size e
 have hD:H2 s2.heap.objs.size=none:=I2.hok.fresh (zA _);obtain⟨W,⟨m0,w0⟩,turn⟩:=hK _ _ body _ hD;refine wpAny_newObj_type ?_;have I3:Inv X aA σ (upd H2 s2.heap.objs.size (.lst [])) { s2 with heap:=s2.heap.push { cls:=.type "list",dict:=none,data:=.seq ([]:List Value).toArray },toks:=s2.toks }:=
  I2.laid (λb u e=>Heap.get?_push_of_some _ e) (zA _) #[zL _,[],0,.nil,Heap.get?_push_size _ rfl]
 generalize hs3:({ s2 with heap:=s2.heap.push { cls:=.type "list",dict:=none,data:=.seq ([]:List Value).toArray },toks:=s2.toks }:Shared)=s3 at I3;have f3:∀b∈fp,Yu X aA (upd H2 s2.heap.objs.size (.lst [])) b:=λb hb=>#[by rw[ZV (zN (hfo b hb))];exact(f2 b hb).1,(f2 b hb).2]
 have up3:∀b o,s2.heap.get? b=some o->s3.heap.get? b=some o:=λb o e=>by rw[<- hs3];exact Heap.get?_push_of_some _ e
 have st3:tn 0 s3.heap:=T.keep _ _ _ st2 λb _ o e=>up3 b o e
 have hfo3:∀b∈fp,b<s3.heap.objs.size:=λb hb=>by
  obtain⟨o,e,_⟩:=T.obj _ _ st3 b hb;exact Heap.lt_size e
 refine wpAny_newFunctionEnv cs.nocell (λy hy=>by simp at hy) (λh4 ns4 sb4=>?_) cs.kind;have hk4:∀b o,s3.heap.get? b=some o->h4.get? b=some o:=λb o e=>(sb4.2 b (zN (Heap.lt_size e))).trans (Heap.get?_push_of_some _ e)
 have I4:=D7 (tk:=s3.toks+([]:List (Str×Value)).length) I3 cs hN aQ k2 k3 f3 hfo3 ns4 hk4;generalize hs4:({ s3 with heap:=h4,toks:=s3.toks+([]:List (Str×Value)).length }:Shared)=s4 at I4 ⊢;have eh4:s4.heap=h4:=by rw[<- hs4]
 have st4:tn 0 s4.heap:=by rw[eh4];exact T.keep _ _ _ st3 λb _ o e=>hk4 b o e
 have fY:∀ {H':Hp},(∀b∈fp,H' b=none)->∀b∈fp,Yu (Cx.comp X sc (own++N) cl s3.heap.objs.size s3 (upd H2 s2.heap.objs.size (.lst [])) fp (X.pn++aA)) [] H' b:=λhn b hb=>by
  obtain⟨_,z2,z3,z4,z5,z6⟩:=f3 b hb;refine#[hn b hb,zN (hfo3 b hb),λz=>?_,.inl hb,λy c e=>z5 y c (k2 _ _ e),λp hp=>z6 p (by simpa using hp)];rcases zT.mp (I3.stkSub b z) with z|z
  .exact z2 z
  .exact z3 z
 have loop:codeAny (mX X) X.A (.compLoop (.ListComp aX [#[tg,aW,ifs,0]] sc pos) 0 (.ref it) (.ref s2.heap.objs.size) (compEnvC sc cl s3.heap.objs.size X.env))
   (compPost (mX X) X.A X.xe use Qr (.ref s2.heap.objs.size) s3.heap.objs.size) s4:=by
  refine JN (λn s'=>∃i o H',o.length=own.length/\Inv (Cx.comp X sc (own++N) cl s3.heap.objs.size s3 (upd H2 s2.heap.objs.size (.lst [])) fp (X.pn++aA)) [] (o++Yl caps σ) H' s'/\tn i s'.heap/\(∀b∈fp,H' b=none)/\W i n H') ?_ m0
   #[0,_,_,uT,I4,st4,λb hb=>(f3 b hb).1,w0]
  rintro n s5 ⟨i,o,H5,ho,I5,st5,fr5,w5⟩;rcases turn i n H5 w5 with ⟨stop,q⟩|⟨go,step⟩
  .refine thn (T.done (Cx.comp X sc (own++N) cl s3.heap.objs.size s3 (upd H2 s2.heap.objs.size (.lst [])) fp (X.pn++aA)) rfl rfl rfl hc i [] s5 _ H5 _ I5 (fY fr5) st5 stop) λr s6 #[hr,I6]=>?_
   subst hr;refine aZ _ _ _ #[#[H5,I3.call' I6.os I6.base I6.hok I6.bare (λb hb=>?_),q,I6.free],?_,xJ I3.lt,I3.sz,λy c e z=>?_,λp hp z=>?_]
   .obtain⟨_,z2,z3,z4,z5,z6⟩:=f3 b hb;exact#[z4,z2,z5,z6]
   .obtain⟨m,hm,_⟩:=I6.loc;exact#[m,hm]
   .obtain⟨v,hv⟩:=I3.cell y c e;exact absurd (z ▸ hv.lt) (yW _)
   .exact absurd (z ▸ Heap.lt_size (I3.pin p hp).1) (yW _)
  .refine thn (T.item (Cx.comp X sc (own++N) cl s3.heap.objs.size s3 (upd H2 s2.heap.objs.size (.lst [])) fp (X.pn++aA)) rfl rfl rfl hc i [] s5 _ H5 _ I5 (fY fr5) st5 go) λr s6 #[u,hr,h6]=>?_
   subst hr;refine wpAny_mono h6 (λ_ s7 #[y,H7,I7,r7,y7,st7,fr7]=>?_) λ_ _ z=>z
   have I7':=I7.pinned (fY fr7) (T.obj _ _ st7);refine wpAny_mono (hg _ _ _ _ _ _ _ s7 _ H7 y u _ I7' r7 (step y H7 y7 o ho)) (λ_ s8 #[σ8,H8,I8,#[o8,ho8,e8],q8]=>?_) λ_ _ z=>z.elim
   subst e8;have stay:∀ {H':Hp} {s':Shared},Inv (Cx.comp X sc (own++N) cl s3.heap.objs.size s3 (upd H2 s2.heap.objs.size (.lst [])) fp (X.pn++aA)) ([]++U1 fp s7.heap) (o8++Yl caps σ) H' s'->∀m',m'<n->W (i+1) m' H'->
     ∃m,m<n/\∃i o H',o.length=own.length/\Inv (Cx.comp X sc (own++N) cl s3.heap.objs.size s3 (upd H2 s2.heap.objs.size (.lst [])) fp (X.pn++aA)) [] (o++Yl caps σ) H' s'/\tn i s'.heap/\(∀b∈fp,H' b=none)/\W i m H':=λ{H' s'} J m' hm w'=>by
    refine#[m',hm,i+1,o8,H',ho8,J.unpinned,T.keep _ _ _ st7 λb hb o e=>(J.pin (b,o) (xA _ (xA _ (TH hb e)))).1,λb hb=>?_,w'];obtain⟨o,e,d⟩:=T.obj _ _ st7 b hb;exact(J.pin (b,o) (xA _ (xA _ (TH hb e)))).2.1
   refine wpAny_mono (ht _ _ _ _ _ _ _ s8 _ H8 _ I8 q8) (λb s9 #[H9,I9,q9]=>?_) λ_ _ z=>z.elim
   cases b with
   | false=>
    obtain⟨m',hm,w9⟩:=q9;exact stay I9 m' hm w9
   | true=>
    refine wpAny_mono (he _ _ _ _ _ _ _ s9 _ H9 _ I9 q9) (λu2 s10 #[z,H10,I10,r10,q10]=>?_) λ_ _ z=>z.elim
    obtain⟨ys,hD10,hlt,m',hm,w10⟩:=q10;refine wpAny_mono (NF (X:=(Cx.comp X sc (own++N) cl s3.heap.objs.size s3 (upd H2 s2.heap.objs.size (.lst [])) fp (X.pn++aA))) _ s10 _ H10 (.ref s2.heap.objs.size) [z] (.ref s2.heap.objs.size) [u2] (λ_ H'=>H'=upd H10 s2.heap.objs.size (.lst (ys++[z]))) I10 rfl (.cons r10 .nil) #[_,ys,z,rfl,rfl,hD10,hlt,rfl]) (λ_ s11 #[_,H11,I11,_,e11]=>?_) λ_ _ z=>z.elim
    subst e11;exact stay I11 m' hm w10
 exact codeAny_compStart_list loop (T.self _ 0 s4 _ _ st4 loop)
section
variable {X:Cx}{aX aW:Expr}{x:Str}{px pos:Pos}{ifs:List Expr}{sc:Scope}{N:List Str}{caps:List Nat}{wi:TI}{tc:TT}{te:TE}
theorem M4 (hc:X.calm=true)(cs:Ws sc X.env.scope x N)(hN:∀(j:Nat)(y:Str),N[j]?=some y->∃i,caps[j]?=some i/\X.N[i]?=some y)(aQ:caps.length=N.length)(hnd:(x::N).Nodup)(hi:PI X (.Name x px) aW wi)(ht:∀cl C s0 H0 fp pn,PTs (Cx.comp X sc (x::N) cl C s0 H0 fp pn) ifs tc)(he:∀cl C s0 H0 fp pn,PE (Cx.comp X sc (x::N) cl C s0 H0 fp pn) aX te)(hs:∀y,foldedSetIterable aW X.env y=pure y)(I:Inv X aA σ H s)(h:Uc caps wi tc te σ H Q)(aZ:∀D C s',UW X aA σ C Q D s'->compPost (mX X) X.A X.xe use Qr (.ref D) C (.ok .next) s'):
  wpAny (mX X) X.A (comprehension (.ListComp aX [#[.Name x px,aW,ifs,0]] sc pos) sc X.env p2 (newList []) false (eval aW X.env) use) Qr X.xe s:=by
 refine Ph (own:=[x]) (gt:=Qw 0) hc #[cs.kind,cs.nocell,cs.own,cs.cap,cs.out] hN aQ hi (λcl C s0 H0 fp pn=>Vn hnd rfl (.inl (lookup_relabel_local cs.loc)) (.inr (lookup_relabel_local cs.loc))) he ht hs I h (λJ H1 b D hD=>?_) aZ;obtain⟨W,w0,turn⟩:=b D hD;refine#[W,w0,λi m H w=>(turn i m H w).imp id λ#[go,st]=>#[go,λv H' y o ho=>?_]]
 match o,ho with
 | [_],_=>exact#[#[[some v],rfl,rfl],st v H' y]
theorem Xi (h:caps.map (λi=>X.N[i]?)=N.map some):(∀(j:Nat)(y:Str),N[j]?=some y->∃i,caps[j]?=some i/\X.N[i]?=some y)/\caps.length=N.length:=by
 refine#[λj y e=>?_,by simpa using congrArg List.length h];have z:(caps.map (λi=>X.N[i]?))[j]?=some (some y):=by rw[h,zF,e];rfl
 rw[zF] at z;cases q:caps[j]? with
 | none=>rw[q] at z;cases z
 | some i=>rw[q] at z;exact#[i,rfl,by simpa using z]
theorem Q3 (hc:X.calm=true)(cs:Ws sc X.env.scope x N)(hN:Hn X caps N)(hnd:(x::N).Nodup)
  (hi:PI X (.Name x px) aW wi)(ht:∀cl C s0 H0 fp pn,PTs (Cx.comp X sc (x::N) cl C s0 H0 fp pn) ifs tc)(he:∀cl C s0 H0 fp pn,PE (Cx.comp X sc (x::N) cl C s0 H0 fp pn) aX te)
  (hs:∀y,foldedSetIterable aW X.env y=pure y:=by intro _;rfl):PE X (.ListComp aX [#[.Name x px,aW,ifs,0]] sc pos) (Uc caps wi tc te):=by
 intro aA s σ H Q I h;refine M4 hc cs (Xi hN).1 (Xi hN).2 hnd hi ht he hs I h λD C s' f=>?_
 obtain⟨⟨H',I',q,hC⟩,⟨m,ns⟩,l,o,c,p⟩:=f;exact#[m,ns,λh' sb=>#[.ref D,H',I'.turned (λb ob hb e=>(sb.2 b hb).trans e) hC l (.inr o) c p,rfl,q]]
theorem Qc {tg:Expr}{ifs:List Expr}{T:TE}{i:Nat}{y:Str}{py spos:Pos}
  (core:∀ {use:Option (Value->Sem Unit)} {Qr:Value->Shared->Prop} {aA:LA} {s:Shared} {σ:St} {H:Hp} {Q:VK} {p2:Pos},Inv X aA σ H s->T σ H Q->(∀D C s',UW X aA σ C Q D s'->compPost (mX X) X.A X.xe use Qr (.ref D) C (.ok .next) s')->
   wpAny (mX X) X.A (comprehension (.ListComp aX [#[tg,aW,ifs,0]] sc pos) sc X.env p2 (newList []) false (eval aW X.env) use) Qr X.xe s)
  (hNd:X.N.Nodup)(hy:X.N[i]?=some y)(hl:X.env.scope.names.lookup y=some .local)(hsw:swapsWith (.ListComp aX [#[tg,aW,ifs,0]] sc pos) (some (.Name y py)) spos.line X.env=pure true):
  PS X (.Assign [.Name y py] (.ListComp aX [#[tg,aW,ifs,0]] sc pos) spos) (λE σ H=>T σ H λv H1=>E.nx (σ.set i (some v)) H1):=by
 intro aA s σ H E I h;rw[exec_Assign_Name_used (hs:=hsw)];refine wpAny_bind (wpAny_standAt ?_);refine wpAny_bind ?_;show wpAny _ _ (comprehension _ sc X.env _ (newList []) false (eval aW X.env) (some (assign (.Name y py) X.env)) >>= λ_=>pure Unit.unit) _ _ s
 refine wpAny_bind (thn (core I h λD C s' f=>?_) λ_ s' hq=>wpAny_pure (wpAny_pure hq));obtain⟨⟨H',I',q,hC⟩,⟨m,ns⟩,l,o,c,p⟩:=f;refine wpAny_assign_Name (MD (v:=.ref D) I' hNd hy (.inl hl) rfl (λs'' I'' #[a,sb,ha]=>#[m,ns.sameBut sb ?_,λh' sb'=>#[_,H',I''.turned (λb ob hb e=>(sb'.2 b hb).trans e) hC l (.inr o) c p,q]]) (.inr hl));rcases ha with rfl|ha
 .exact l
 .exact Ne.symm (c _ _ ha)
theorem MK (hc:X.calm=true)(cs:Ws sc X.env.scope x N)(hN:Hn X caps N)(hnd:(x::N).Nodup)(hi:PI X (.Name x px) aW wi)(ht:∀cl C s0 H0 fp pn,PTs (Cx.comp X sc (x::N) cl C s0 H0 fp pn) ifs tc)(he:∀cl C s0 H0 fp pn,PE (Cx.comp X sc (x::N) cl C s0 H0 fp pn) aX te)(hNd:X.N.Nodup)(hy:X.N[i]?=some y)(hl:X.env.scope.names.lookup y=some .local)(hsw:swapsWith (.ListComp aX [#[.Name x px,aW,ifs,0]] sc pos) (some (.Name y py)) spos.line X.env=pure true)(hs:∀y,foldedSetIterable aW X.env y=pure y:=by intro _;rfl):PS X (.Assign [.Name y py] (.ListComp aX [#[.Name x px,aW,ifs,0]] sc pos) spos) (λE σ H=>Uc caps wi tc te σ H λv H1=>E.nx (σ.set i (some v)) H1):=
 Qc (λI h aZ=>M4 hc cs (Xi hN).1 (Xi hN).2 hnd hi ht he hs I h aZ) hNd hy hl hsw
end
section
variable {X:Cx}{Z:Zx}{aX aW:Expr}{x:Str}{px pos:Pos}{ifs:List Expr}{sc ar:Scope}{N:List Str}{caps:List Nat}
theorem QA {r:List Addr}{H:Hp}{dl:Ev}{σ:St}{d:D}{v:V}(h:Rs r H dl σ)(p:Rp r H d v):Rs r H (some d::Yd caps dl) (some v::Yl caps σ):=by
 refine#[by simp[Yd,Yl],λi e hi=>?_];cases i with
 | zero=>simp at hi;subst hi;exact#[v,rfl,p]
 | succ i=>
  simp only[tD,Yd,zF] at hi;cases q:caps[i]? with
  | none=>rw[q] at hi;cases hi
  | some j=>
   rw[q] at hi;simp at hi;have hj:dl[j]?=some (some e):=by
    cases q2:dl[j]? with
    | none=>rw[q2] at hi;cases hi
    | some o=>rw[q2] at hi;simp at hi;rw[hi]
   obtain⟨w,h1,h2⟩:=h.2 j e hj;refine#[w,?_,h2];simp only[tD,Yl,zF,q,vI,h1,Option.join_some]
def Wi (Y:Cx)(ifs:List Expr)(t:TDT):Prop:=PTs Y ifs (upT Y.K Z0 t)
def YX:TDT:=λ_ S Q=>Q true S
theorem Eg:Wi Y [] YX:=λaA s σ H Qb I #[r,dl,S,Q,rs,bA,q,ret]=>MQ aA s σ H Qb I (ret true H r S Ext.refl bA q)
theorem TF (h:PDT Y Z0 c t):Wi Y [c] t:=CG h
def WL (caps:List Nat)(tc:TDT)(te:TDE)(k:Nat)(dl:Ev)(d:D)(S:Sto)(nx:Sto->Prop):Prop:=
 tc (some d::Yd caps dl) S λb S1=>if b=true then te (some d::Yd caps dl) S1 λy S2=>match S2[k]? with
  | some (.lst ys)=>ys.length<1000/\nx (S2.set k (.lst (ys++[y])))
  | _=>False
 else nx S1
@[irreducible] def Xs (caps:List Nat)(tl:TDE)(tc:TDT)(te:TDE):TDE:=λdl S Q=>tl dl S λd S1=>match d with
 | .ref n=>(lAt S1 n).isSome=true/\∃W:Nat->Nat->Sto->Prop,(∃m,W 0 m (S1++[.lst []]))/\∀k m S2,W k m S2->match lAt S2 n with
  | some o=>match (Zk o)[k]? with
   | some y=>WL caps tc te S1.length dl y S2 λS3=>∃m',m'<m/\W (k+1) m' S3
   | none=>Q (.ref S1.length) S2
  | none=>False
 | _=>False
@[irreducible] def Wd (caps:List Nat)(ta:TDA)(tc:TDT)(te:TDE):TDE:=λdl S Q=>ta dl S λds S1=>match ds with
 | [.int j]=>(-(2^62)<=j/\j<2^62)/\∃W:Nat->Sto->Prop,W 0 (S1++[.lst []])/\∀k S2,W k S2->
   if k<j.toNat then WL caps tc te S1.length dl (.int k) S2 λS3=>W (k+1) S3 else Q (.ref S1.length) S2
 | _=>False
theorem Pt {tc:TDT}{te:TDE}{r2:List Addr}{H2:Hp}{S1 S2:Sto}{dl:Ev}{σ:St}{D0:Addr}{d:D}{v:V}{nx:Sto->Prop}{Nx:Hp->Prop}(rs:Rs r2 H2 dl σ)(ha:r2[S1.length]?=some D0)(rb:Z2 X.K r2 S2 H2)(p:Rp r2 H2 d v)
  (h:WL caps tc te S1.length dl d S2 nx)(hn:∀r' S' H',Ext r2 r' H2 H'->Z2 X.K r' S' H'->nx S'->Nx H'):
  upT X.K Z0 tc (some v::Yl caps σ) H2 λb H3=>if b=true then up X.K Z0 te (some v::Yl caps σ) H3 λy H4=>∃ys,H4 D0=some (.lst ys)/\ys.length<sizeLine/\Nx (upd H4 D0 (.lst (ys++[y]))) else Nx H3:=by
 have rsY:Rs r2 H2 (some d::Yd caps dl) (some v::Yl caps σ):=QA rs p;refine#[r2,_,S2,_,rsY,#[rb,λ_ _ _ _ _ _ _ _ _ z=>z.elim],h,λb H3 r3 S3 x3 aG q3=>?_];cases b with
 | false=>rw[if_neg zR] at q3 ⊢;exact hn r3 S3 H3 x3 aG.b q3
 | true=>
  refine#[r3,_,S3,_,rsY.ext x3,aG,q3,λz H4 r4 dz S4 x4 aH p4 q4=>?_];split at q4
  .rename_i ys eys;obtain⟨hl,q4⟩:=q4;have ha4:r4[S1.length]?=some D0:=x4.adr _ _ (x3.adr _ _ ha);obtain⟨zs,hD4,pz⟩:=aH.b.ob _ _ _ ha4 eys;obtain⟨rel5,x5⟩:=aH.b.set ha4 eys (pz.snoc p4);exact#[zs,hD4,by rw[<- pz.1];exact VO (yR hl),hn r4 _ _ (x3.trans (x4.trans x5)) rel5 q4]
  .exact q4.elim
theorem Ur {r:List Addr}{D0:Addr}{n:Nat}(h:r.length=n):(r++[D0])[n]?=some D0:=by subst h;simp
theorem Oq {tl:TDE}{tc:TDT}{te:TDE}{σ:St}{H:Hp}{Qv:VK}(h:up X.K Z (Xs caps tl tc te) σ H Qv):Uc caps (Nm X.K (up X.K Z tl)) (upT X.K Z0 tc) (up X.K Z0 te) σ H Qv:=by
 obtain⟨r,dl,S,Q,rs,bA,h,ret⟩:=h;unfold Xs at h;refine#[r,dl,S,_,rs,bA,h,λv H1 r1 d S1 x1 aE p1 q1=>?_];cases p1 with
 | @ref n a hn=>
  obtain⟨aV,W,⟨m0,w0⟩,turn⟩:=q1;have sql:∀ {r':List Addr} {S':Sto} {H':Hp} {o:Ob},Ext r1 r' H1 H'->Z2 X.K r' S' H'->lAt S' n=some o->∃xs,SqL X.K H' a xs/\Rps r' H' (Zk o) xs:=λ{r' S' H' o} x' rel' eo=>by
   obtain⟨eo,eL⟩:=Y3 eo;obtain⟨a',ha,ob⟩:=rel'.at eo;rw[x'.adr n a hn] at ha;cases ha
   exact ob.list eL
  obtain⟨o1,eo1⟩:=yX.mp aV;obtain⟨xs1,sq1,_⟩:=sql Ext.refl aE.b eo1;refine#[a,rfl,#[xs1,sq1],λD0 hD=>?_];obtain⟨aF,x2⟩:=aE.b.push hD Rps.nil;refine#[λk m H'=>∃r' S',Ext (r1++[D0]) r' (upd H1 D0 (.lst [])) H'/\Z2 X.K r' S' H'/\W k m S',#[m0,_,_,Ext.refl,aF,w0],?_];rintro k m H2 ⟨r2,S2,x3,rb2,w2⟩;have ha2:r2[S1.length]?=some D0:=x3.adr _ _ (Ur aE.len)
  have q:=turn k m S2 w2;split at q
  .rename_i o eo;obtain⟨xs,sq,pr⟩:=sql (x2.trans x3) rb2 eo;split at q
   .rename_i y ey;obtain⟨v,hv,pv⟩:=pr.get ey;refine .inr #[#[xs,v,sq,hv],λv' H' y'=>?_];obtain⟨eH,y'⟩:=y';subst eH;have ev:v'=v:=by
     have z:=y' xs sq;rw[hv] at z;exact(Option.some.inj z).symm
    subst ev;exact Pt (rs.ext (x1.trans (x2.trans x3))) ha2 rb2 pv q λr' S' H' x' rb' #[m',hm,w']=>#[m',hm,r',S',x3.trans x',rb',w']
   .rename_i ey;have aQ:(Zk o).length<=k:=xD.mp ey;exact .inl #[#[xs,sq,by rw[<- pr.1];exact aQ],ret _ H2 r2 _ S2 (x1.trans (x2.trans x3)) #[rb2,bA.xw.ext (x1.trans (x2.trans x3))] (.ref ha2) q]
  .exact q.elim
 | _=>exact(show False from q1).elim
theorem LN {ta:TDA}{tc:TDT}{te:TDE}{σ:St}{H:Hp}{Qv:VK}(h:up X.K Z (Wd caps ta tc te) σ H Qv):Uc caps (Nw (upA X.K Z ta)) (upT X.K Z0 tc) (up X.K Z0 te) σ H Qv:=by
 obtain⟨r,dl,S,Q,rs,bA,h,ret⟩:=h;unfold Wd at h;refine#[r,dl,S,_,rs,bA,h,λvs H1 r1 ds S1 x1 aE p1 q1=>?_];split at q1
 .rename_i j;obtain⟨v,vs',rfl,p2,p3⟩:=p1.uncons;have z:=p3.unnil;subst z;cases p2;obtain⟨⟨b1,b2⟩,W,w0,turn⟩:=q1;refine#[j,rfl,b1,b2,λD0 hD=>?_];obtain⟨aF,x2⟩:=aE.b.push hD Rps.nil;refine#[λk m H'=>m=j.toNat-k/\∃r' S',Ext (r1++[D0]) r' (upd H1 D0 (.lst [])) H'/\Z2 X.K r' S' H'/\W k S',#[j.toNat,by simp,_,_,Ext.refl,aF,w0],?_];rintro k m H2 ⟨em,r2,S2,x3,rb2,w2⟩;have ha2:r2[S1.length]?=some D0:=x3.adr _ _ (Ur aE.len)
  have q:=turn k S2 w2;split at q
  .rename_i hk;refine .inr #[hk,λv' H' y'=>?_];obtain⟨eH,y'⟩:=y';subst eH;subst y';have pk:Rp r2 H' (.int (k:Int)) (.int (0+(k:Int))):=by rw[Int.zero_add];exact .int _
   exact Pt (rs.ext (x1.trans (x2.trans x3))) ha2 rb2 pk q
    λr' S' H' x' rb' w'=>#[j.toNat-(k+1),by omega,rfl,r',S',x3.trans x',rb',w']
  .rename_i hk;exact .inl #[by show j.toNat<=k;omega,ret _ H2 r2 _ S2 (x1.trans (x2.trans x3)) #[rb2,bA.xw.ext (x1.trans (x2.trans x3))] (.ref ha2) q]
 .exact q1.elim
theorem Xz (har:X.env.scope=ar)(hc:X.calm=true)(cs:Ws sc ar x N)(hN:Hn X caps N)(hnd:(x::N).Nodup)(hl:PD X Z aW tl)(ht:∀cl C s0 H0 fp pn,Wi (Cx.comp X sc (x::N) cl C s0 H0 fp pn) ifs tc)(he:∀cl C s0 H0 fp pn,PD (Cx.comp X sc (x::N) cl C s0 H0 fp pn) Z0 aX te)(hs:∀y,foldedSetIterable aW X.env y=pure y:=by intro _;rfl):PD X Z (.ListComp aX [#[.Name x px,aW,ifs,0]] sc pos) (Xs caps tl tc te):=by
 subst har;exact Z6 (Q3 hc cs hN hnd (tc:=upT X.K Z0 tc) (te:=up X.K Z0 te) (QL hl) ht he hs) λ_ _ _ h=>Oq h
theorem Qg (har:X.env.scope=ar)(hc:X.calm=true)(cs:Ws sc ar x N)(hN:Hn X caps N)(hnd:(x::N).Nodup)(hg:Gl X "range")(hm:X.mg "range"=none)(ha:PDA X Z [a] ta)(ht:∀cl C s0 H0 fp pn,Wi (Cx.comp X sc (x::N) cl C s0 H0 fp pn) ifs tc)(he:∀cl C s0 H0 fp pn,PD (Cx.comp X sc (x::N) cl C s0 H0 fp pn) Z0 aX te)(hs:∀y,foldedSetIterable (.Call (.Name "range" p) [a] [] aM) X.env y=pure y:=by intro _;rfl)(hst:starEach [a] X.env=[(false,eval a X.env)]:=by rfl):
  PD X Z (.ListComp aX [#[.Name x px,.Call (.Name "range" p) [a] [] aM,ifs,0]] sc pos) (Wd caps ta tc te):=by
 subst har;exact Z6 (Q3 hc cs hN hnd (tc:=upT X.K Z0 tc) (te:=up X.K Z0 te) (Qy hg hm ha hst) ht he hs) λ_ _ _ h=>LN h
theorem TJ {t:TE}{td:TDE}{i:Nat}{F:Wc}{σ:St}{H:Hp}(imp:∀Qv,up X.K Z td σ H Qv->t σ H Qv)(h:upS X.K Z (λE dl S=>td dl S λd S1=>E.nx (dl.set i (some d)) S1) F σ H):t σ H λv H1=>F.nx (σ.set i (some v)) H1:=by
 obtain⟨r,dl,S,E,rs,bA,h,ret⟩:=h;exact imp _ #[r,dl,S,_,rs,bA,h,λv H1 r1 d S1 x aE p q=>ret.nx _ H1 r1 _ S1 x ((rs.ext x).set i p) aE q]
theorem Pn {tl:TDE}{tc:TDT}{te:TDE}{i:Nat}{y:Str}{py spos:Pos}(har:X.env.scope=ar)(hc:X.calm=true)(cs:Ws sc ar x N)(hN:Hn X caps N)(hnd:(x::N).Nodup)(hNd:X.N.Nodup)(hy:X.N[i]?=some y)(hlo:ar.names.lookup y=some .local)
  (hl:PD X Z aW tl)(ht:∀cl C s0 H0 fp pn,Wi (Cx.comp X sc (x::N) cl C s0 H0 fp pn) ifs tc)(he:∀cl C s0 H0 fp pn,PD (Cx.comp X sc (x::N) cl C s0 H0 fp pn) Z0 aX te)
  (hsw:swapsWith (.ListComp aX [#[.Name x px,aW,ifs,0]] sc pos) (some (.Name y py)) spos.line X.env=pure true:=by rfl)
  (hs:∀y,foldedSetIterable aW X.env y=pure y:=by intro _;rfl):PDS X Z (.Assign [.Name y py] (.ListComp aX [#[.Name x px,aW,ifs,0]] sc pos) spos) (Uq i (Xs caps tl tc te)):=by
 subst har;exact Yy (MK hc cs hN hnd (tc:=upT X.K Z0 tc) (te:=up X.K Z0 te) (QL hl) ht he hNd hy hlo hsw hs) λF σ H h=>TJ (λ_ h=>Oq h) h
theorem Qs {ta:TDA}{tc:TDT}{te:TDE}{a:Expr}{p aM:Pos}{i:Nat}{y:Str}{py spos:Pos}(har:X.env.scope=ar)(hc:X.calm=true)(cs:Ws sc ar x N)(hN:Hn X caps N)(hnd:(x::N).Nodup)(hNd:X.N.Nodup)(hy:X.N[i]?=some y)
  (hlo:ar.names.lookup y=some .local)(hg:Gl X "range")(hm:X.mg "range"=none)(ha:PDA X Z [a] ta)
  (ht:∀cl C s0 H0 fp pn,Wi (Cx.comp X sc (x::N) cl C s0 H0 fp pn) ifs tc)(he:∀cl C s0 H0 fp pn,PD (Cx.comp X sc (x::N) cl C s0 H0 fp pn) Z0 aX te)
  (hsw:swapsWith (.ListComp aX [#[.Name x px,.Call (.Name "range" p) [a] [] aM,ifs,0]] sc pos) (some (.Name y py)) spos.line X.env=pure true:=by rfl)
  (hs:∀y,foldedSetIterable (.Call (.Name "range" p) [a] [] aM) X.env y=pure y:=by intro _;rfl)(hst:starEach [a] X.env=[(false,eval a X.env)]:=by rfl):
  PDS X Z (.Assign [.Name y py] (.ListComp aX [#[.Name x px,.Call (.Name "range" p) [a] [] aM,ifs,0]] sc pos) spos) (Uq i (Wd caps ta tc te)):=by
 subst har;exact Yy (MK hc cs hN hnd (tc:=upT X.K Z0 tc) (te:=up X.K Z0 te) (Qy hg hm ha hst) ht he hNd hy hlo hsw hs) λF σ H h=>TJ (λ_ h=>LN h) h
@[irreducible] def Wh (to te:TDE):TDE:=λdl S Q=>to dl S λx S1=>match x with
 | .ref n=>match S1[n]? with
  | some (.lst _)=>te dl S1 λy S2=>match S2[n]? with
   | some (.lst xs)=>if xs.length<1000 then Q .non (S2.set n (.lst (xs++[y]))) else False
   | _=>False
  | _=>False
 | _=>False
theorem Yg (ho:PD X Z o to)(he:PD X Z e te)(hbase:attributeBase o "append" X.env (eval o X.env)=eval o X.env:=by rfl)(hfew:((backTo aK (starEach [e] X.env)).all (λx=>!x.1)&&(backToKw aK (keywordEach [] X.env)).all (λx=>x.1.isSome)
  &&decide (([e]:List Expr).length+([]:List Keyword).length+(if ([]:List Keyword).isEmpty then 0 else 1)<30))=true:=by rfl)(hline:(aL.endLine==aK.line)=true:=by rfl)(hst:starEach [e] X.env=[(false,eval e X.env)]:=by rfl):
  PD X Z (.Call (.Attribute o "append" aL) [e] [] aK) (Wh to te):=
 Z6 (LM PySem.F.plainAttrs_list PySem.F.slot_list_append PySem.F.type_list_append NF ho (Mp he OA hst) hbase hfew hline hst rfl) λσ H Qv h=>by
  obtain⟨r,dl,S,Q,rs,bA,h,ret⟩:=h;unfold Wh at h;refine#[r,dl,S,_,rs,bA,h,λv H1 r1 d S1 x1 aE p1 h1=>?_];cases p1 with
  | @ref n a hn=>
   dsimp only at h1;split at h1
   .rename_i xs0 e0;obtain⟨a',ha,ob⟩:=aE.at e0;rw[hn] at ha;cases ha
    obtain⟨ys,hH,_⟩:=ob;refine#[.inl #[rfl,ys,SqL.of hH],r1,dl,S1,_,rs.ext x1,aE,h1,λv2 H2 r2 d2 S2 x2 aF p2 h2=>?_];split at h2
    .rename_i xs1 e1;obtain⟨hlt,h2⟩:=SF h2;have ha2:=x2.adr n a hn;obtain⟨zs,hH2,pz⟩:=aF.b.ob n a _ ha2 e1;obtain⟨aG,x3⟩:=aF.set ha2 e1 (pz.snoc p2);exact#[a,zs,v2,rfl,rfl,hH2,by rw[<- pz.1];exact VO (yR hlt),ret .non _ r2 .non _ (x1.trans (x2.trans x3)) aG .non h2]
    .exact h2.elim
   .exact h1.elim
  | _=>exact(show False from h1).elim
def SK:WC:=λds S Q=>match ds with
 | [.tup xs]=>Q (.ref S.length) (S++[.lst xs])
 | [.ref n]=>match lAt S n with
  | some o=>Q (.ref S.length) (S++[.lst (Zk o)])
  | none=>False
 | _=>False
theorem VQ:Yx X (.type "list") (upC X.K Z SK):=Pu FL λxs H Qv #[r,S,ds,Q,bA,ps,q,ret]=>by
 unfold SK at q;split at q
 .rename_i ys;obtain⟨v,vs,rfl,p1,p2⟩:=ps.uncons;have z:=p2.unnil;subst z;obtain⟨a,zs,rfl,h1,h2⟩:=p1.untup;refine#[a,zs,rfl,.inr (SqT.of h1),λl hl=>?_];obtain⟨aF,x⟩:=bA.push hl h2;exact ret _ _ _ (.ref S.length) _ x aF (W3 bA.len) q
 .rename_i n;obtain⟨v,vs,rfl,p1,p2⟩:=ps.uncons;have z:=p2.unnil;subst z;split at q
  .rename_i o eo;obtain⟨eo,eL⟩:=Y3 eo;obtain⟨a,ha,ob⟩:=bA.at eo;cases p1 with
   | ref h1=>
    rw[h1] at ha;cases ha
    obtain⟨ys,sq,pr⟩:=ob.list eL;refine#[_,ys,rfl,.inl sq,λl hl=>?_];obtain⟨aF,x⟩:=bA.push hl pr;exact ret _ _ _ (.ref S.length) _ x aF (W3 bA.len) q
  .exact q.elim
 .exact q.elim
def YA:List D->Option (List Bool)
 | []=>some []
 | .bl b::r=>(YA r).map (b::·)
 | _::_=>none
def Uz (g:List Bool->Bool):WC:=λds S Q=>match ds with
 | [.ref n]=>match lAt S n with
  | some o=>match YA (Zk o) with
   | some bs=>Q (.bl (g bs)) S
   | none=>False
  | none=>False
 | _=>False
theorem Mg {r:List Addr}{H:Hp}:∀ {ds:List D} {bs:List Bool} {vs:List V} {us:List Value},YA ds=some bs->Rps r H ds vs->Zz vs us->us=bs.map Value.bool
 | [],bs,vs,us,e,p,q=>by
  have z:=p.unnil;subst z;cases q;simp[YA] at e;subst e;rfl
 | d::ds,bs,vs,us,e,p,q=>by
  obtain⟨v,vs',rfl,p1,p2⟩:=p.uncons;cases d with
  | bl b=>
   cases p1;cases q with
   | cons q1 q2=>
    have q1':_=Value.bool b:=q1;subst q1';simp only[YA,zH] at e;obtain⟨ms,e1,rfl⟩:=e;rw[Mg e1 p2 q2];rfl
  | _=>simp[YA] at e
theorem BP {bs:List Bool}:(List.range bs.length).all (λi=>bs.getD i false)=bs.all id:=by
 rw[xK];rw[wM,wM];refine#[λh b hb=>?_,λh i hi=>?_]
 .obtain⟨i,hi,e⟩:=yZ.mp hb;have hb':=h i (wD.mpr hi);simpa [hi,e] using hb'
 .have hi':i<bs.length:=wD.mp hi
  have:=h bs[i] (yY hi');simpa [hi'] using this
theorem zaf {prog:Program}{w:World}{A:Around}{bs:List Bool}:TruthOf prog w A (λi v=>(bs.map Value.bool).toArray[i]?=some v) λi=>bs.getD i false:=λi v s Q E hP hQ=>by
  have e:(bs.map Value.bool)[i]?=some v:=by simpa using hP
  rw[zF] at e;cases q:bs[i]? with
  | none=>
   rw[q] at e;cases e
  | some b=>
    rw[q] at e;have z:Value.bool b=v:=by simpa using e
    subst z;have z2:bs.getD i false=b:=by simp[zW,q]
    have hQ':Q (bs.getD i false) s:=hQ;rw[z2] at hQ';exact wpAny_truthy_bool hQ'
theorem BU {n:Nat}{a:Addr}{o:Ob}{bs:List Bool}{aA:LA}{σ:St}{H:Hp}{s:Shared}{r:List Addr}{S:Sto}{Q:DK}{Qv:VK}{E:Value->Shared->Prop}{g:List Bool->Bool}(G:List Nat->(Nat->Bool)->Bool)
  (hG:G (List.range bs.length) (λi=>bs.getD i false)=g bs)(hc:X.calm=true)(I:Inv X aA σ H s)(bA:Rel X.K Z r S H)(hn:r[n]?=some a)(eo:lAt S n=some o)(eb:YA (Zk o)=some bs)(q:Q (.bl (g bs)) S)(ret:Ret X.K Z r H Q Qv):
  wpAny (mX X) X.A.in1 (pyIter (.ref a)) (λit s₂=>∃I fp wr n P' St tr,it=.ref I/\Walks X.prog X.w X.A.in1 I fp wr n P' St/\St 0 s₂.heap/\TruthOf X.prog X.w X.A.in1 P' tr/\
   ∀h' tk,(∀b o,b ∉ wr->s₂.heap.get? b=some o->h'.get? b=some o)->EP X aA σ Qv (.bool (G (List.range n) tr)) { s₂ with heap:=h',toks:=tk }) E s:=by
 obtain⟨eo,eL⟩:=Y3 eo;obtain⟨a',ha,ob⟩:=bA.at eo;rw[hn] at ha;cases ha
 obtain⟨ys,sq,pr⟩:=ob.list eL;obtain⟨aY,ri,pl,hz⟩:=I.list sq;have eits:=Mg eb pr ri;subst eits;refine wpAny_pyIter_list pl.isList ?_;have hne:a≠s.heap.objs.size:=zN (by
  obtain⟨ob,e,_⟩:=pl.isList;exact Heap.lt_size e)
 refine#[s.heap.objs.size,_,_,_,_,_,λi=>bs.getD i false,rfl,Walks.list (show X.A.in1.handled=none from I.ok.hd hc) _ a hne (bs.map Value.bool).toArray,#[#[_,Heap.get?_push_size _ rfl,rfl,rfl],pl.isList.at λo e=>Heap.get?_push_of_some _ e],zaf,λh' tk hk=>?_];have ez:(bs.map Value.bool).toArray.size=bs.length:=by simp
 rw[ez,hG];refine#[.bl (g bs),H,I.kept λb o e=>hk b o (λz=>?_) (Heap.get?_push_of_some _ e),rfl,ret _ _ _ _ _ Ext.refl bA (.bl _) q];have z':b=s.heap.objs.size:=by simpa using z
 exact absurd (z' ▸ Heap.lt_size e) (yW _)
theorem KJ {id:String}{g:List Bool->Bool}(rule:∀(aA:LA)(σ:St)(H:Hp)(s:Shared)(r:List Addr)(S:Sto)(Q:DK)(Qv:VK)(n:Nat)(a:Addr)(o:Ob)(bs:List Bool),Inv X aA σ H s->Rel X.K Z r S H->r[n]?=some a->lAt S n=some o->YA (Zk o)=some bs->
   Q (.bl (g bs)) S->Ret X.K Z r H Q Qv->wpAny (mX X) X.A (call (.builtin id) [.ref a]) (EP X aA σ Qv) X.xe s):Yx X (.builtin id) (upC X.K Z (Uz g)):=by
 intro aA s σ H xs us Qv I rv h;obtain⟨r,S,ds,Q,bA,ps,q,ret⟩:=h;unfold Uz at q;split at q
 .rename_i n;obtain⟨v,vs,rfl,p1,p2⟩:=ps.uncons;have z:=p2.unnil;subst z;split at q
  .rename_i o eo;split at q
   .rename_i bs eb;cases p1 with
    | ref h1=>
     obtain⟨u,rfl,ru⟩:=Wq rv;cases ru;exact rule aA σ H s r S Q Qv n _ o bs I bA h1 eo eb q ret
   .exact q.elim
  .exact q.elim
 .exact q.elim
theorem U5 (hc:X.calm=true):Yx X (.builtin "all") (upC X.K Z (Uz λbs=>bs.all id)):=
 KJ λ_ _ _ _ _ _ _ _ _ _ _ _ I bA h1 eo eb q ret=>call_all_walk (BU (g:=λbs=>bs.all id) (λl f=>l.all f) BP hc I bA h1 eo eb q ret)
@[irreducible] def irr (w:WC):WC:=w
@[irreducible] def YM (w:W2):W2:=w
theorem Vt (w:WC):irr w=w:=by unfold irr;rfl
theorem Xq (w:W2):YM w=w:=by unfold YM;rfl
theorem ZS (h:Yx X f (upC X.K Z w)):Yx X f (upC X.K Z (irr w)):=by rw[Vt];exact h
theorem A0 (ha:PD X Z a ta)(hb:PD X Z b tb)(hs:Ui b):PD X Z (.Subscript a b pos) (dOp (YM wIx) ta tb):=by rw[Xq];exact Od ha hb hs
theorem ZD {a b:Expr}{ta tb:TDE}(ha:PD X Z a ta)(hb:PD X Z b tb)(hs:Ui b:=by exact λ_ _=>rfl):PD X Z (.Subscript a b pos) (dOp (YM wIx) ta tb):=A0 ha hb hs
theorem Zm (S:Sto)(o:Ob):(S++[o])[S.length]?=some o:=by simp
theorem Wb {S:Sto}{o u:Ob}{n:Nat}(h:S[n]?=some o):(S++[u])[n]?=some o:=by
 rw[zJ (zC.mp h).1];exact h
theorem XN {tl te:TDE}{dl:Ev}{S S1:Sto}{Q:DK}{n:Nat}{o:Ob}(g:D->D)(htl:∀K:DK,K (.ref n) S1->tl dl S K)(h1:S1[n]?=some o)(hl:(Zk o).length<=1000)
  (ht:∀x∈Zk o,∀(S2:Sto)(K:DK),Pre S1 S2->K (g x) S2->te (some x::Yd caps dl) S2 K)(hq:Q (.ref S1.length) (S1++[.lst ((Zk o).map g)]))(hL:Y9 o=some o:=by rfl):Xs caps tl YX te dl S Q:=by
 unfold Xs;refine htl _ #[by rw[ZO h1 hL];rfl,λk m S2=>S2=S1++[.lst (((Zk o).take k).map g)]/\m+k=(Zk o).length,#[(Zk o).length,by simp,by omega],?_];rintro k m S2 ⟨rfl,hm⟩;rw[ZO (Wb h1) hL];dsimp only;split
 .rename_i x hx;have hk:k<(Zk o).length:=(zC.mp hx).1;unfold WL YX;refine ht x (zE hx) _ _ Pre.refl.push ?_;rw[Zm];refine#[by simp;omega,m-1,by omega,?_,by omega];have e:(Zk o).take (k+1)=(Zk o).take k++[x]:=by rw[wN,hx];rfl
  rw[e,zZ,vJ _ _ (zA _)];simp
 .rename_i hx;have hk:(Zk o).length<=k:=xD.mp hx;rw[yI hk];exact hq
theorem CM (h:YA (Zk o)=some bs):Y9 o=some o:=by
 cases o<;>first|rfl|cases h
theorem Ll (h:Y7 (Zk o)=some xs):Y9 o=some o:=by
 cases o<;>first|rfl|cases h
theorem UO (h:S[n]?=some o)(hb:YA (Zk o)=some bs)(hq:Q (.bl (g bs)) S):irr (Uz g) [.ref n] S Q:=by
 rw[Vt];unfold Uz;simp only[ZO h (CM hb),hb];exact hq
theorem W7 (h:S[n]?=some o)(hb:Y7 (Zk o)=some xs)(hne:xs≠[])(hq:∀m,m∈xs->(∀y∈xs,le y m)->Q (.int m) S):irr (V1 le two) [.ref n] S Q:=by
 rw[Vt];unfold V1;simp only[ZO h (Ll hb),hb];exact#[hne,hq]
theorem VS (h:lAt S n=some o)(hq:Q (.ref S.length) (S++[.lst (Zk o)])):irr SK [.ref n] S Q:=by
 rw[Vt];unfold SK;simp only[h];exact hq
theorem Ys {to te:TDE}{dl:Ev}{S S1:Sto}{Q:DK}{n:Nat}{xs:List D}{y:D}(hto:∀K:DK,K (.ref n) S1->to dl S K)(h:S1[n]?=some (.lst xs))(hte:∀K:DK,K y S1->te dl S1 K)(hl:xs.length<1000)(hq:Q .non (S1.set n (.lst (xs++[y])))):Wh to te dl S Q:=by
 unfold Wh;refine hto _ ?_;simp only[h];refine hte _ ?_;simp only[h];exact ifP hl hq
end
theorem Up:Sco n (.tup [.int x,.int y]):=.tup λd hd=>by
 have z:d=.int x\/d=.int y:=by simpa using hd
 rcases z with rfl|rfl<;>exact .int _
open PySem PySem.Spec PyProof.Rows L2 PySem.W Builtin Builtin.ObjectAttr Builtin.Getset_descriptor
structure Nx (K:Frag)(D:Addr):Prop where
 ga:findIn K (.ref D) "__getattribute__"=some (some (.builtin "BaseException.__getattribute__"))
 hk:findIn K (.ref D) "__getattr__"=some none
 ha:findIn K (.ref D) "__class__"=some (some (.builtin "object.__class__"))
 hn:specialIn K (.builtin "object.__class__") "__get__"=some (some (.builtin "getset_descriptor.__get__"))
 ht:takesIn K (.builtin "object.__class__")=some true
 hm:mroIn K D (.type "object")=some true
 hb:mroIn K D (.type "BaseException")=some true
section
variable {X:Cx}{Z:Zx}
end
def eqN:Nat->D->D->Option Bool
 | 0=>eqF
 | k+1=>eqT (eqN k)
theorem Ox:∀k,Uh (eqN k)
 | 0=>Vx
 | k+1=>Lx (Ox k)
theorem Po:∀k,WS k (eqN k)
 | 0=>Qe 0
 | k+1=>OO (Po k) (Ox k)
def Y6 (f:D->D->Option Bool):List D->D->Option Bool
 | [],_=>some false
 | y::ys,x=>match f y x,Y6 f ys x with
  | some b,some c=>some (b||c)
  | _,_=>none
def wIn (k:Nat)(neg:Bool):W2:=λx y S Q=>match y with
 | .ref n=>match lAt S n with
  | some o=>match Y6 (eqN k) (Zk o) x with
   | some b=>Q (.bl (if neg then !b else b)) S
   | none=>False
  | none=>False
 | _=>False
theorem MU (h:Zw v u)(h':Zw v' u):v=v':=by
 cases v<;>cases v'<;>simp[L2.Zw] at h h'<;>first
  | rfl
  | (subst h;simp at h';subst h';rfl)
  | (obtain⟨t,rfl⟩:=h;simp at h';subst h';rfl)
  | (obtain⟨t,rfl⟩:=h;simp at h')
  | (subst h;simp at h')
  | skip
theorem UI {r:List Addr}{H:Hp}{d d' x:D}{v:V}{b b':Bool}(p:Rp r H d v)(p':Rp r H d' v)(e:eqF d x=some b)(e':eqF d' x=some b'):b=b':=by
 have z:d=d':=by
  cases p<;>cases p'<;>first
   | rfl
   | (cases x<;>simp[eqF] at e)
   | (cases x<;>simp[eqF] at e')
 subst z;rw[e] at e';exact Option.some.inj e'
theorem MY {f:D->D->Option Bool}{r:List Addr}{H:Hp}(hf:∀(d d' x:D)(v:V)(b b':Bool),Rp r H d v->Rp r H d' v->f d x=some b->f d' x=some b'->b=b'):
  ∀ {ds ds' zs:List D} {vs:List V} {b b':Bool},Rps r H ds vs->Rps r H ds' vs->eqL f ds zs=some b->eqL f ds' zs=some b'->b=b'
 | [],ds',zs,vs,b,b',p,p',e,e'=>by
  have z:=p.unnil;subst z;cases ds' with
  | nil=>rw[e] at e';exact Option.some.inj e'
  | cons y ys=>exact absurd p'.1 (by simp)
 | d::ds,ds',zs,vs,b,b',p,p',e,e'=>by
  obtain⟨v,vs',rfl,p1,p2⟩:=p.uncons;cases ds' with
  | nil=>exact absurd p'.1 (by simp)
  | cons d' ds'=>
   obtain⟨q1,q2⟩:=p'.tail;cases zs with
   | nil=>
    simp only[eqL,Option.some.injEq] at e e';exact e.symm.trans e'
   | cons z zs=>
    unfold eqL at e e';split at e
    .rename_i b1 c1 a1 a2;split at e'
     .rename_i b2 c2 a3 a4;have h1:=hf d d' z v b1 b2 p1 q1 a1 a3
      have h2:=MY hf p2 q2 a2 a4;subst h1 h2;simp at e e';exact e.symm.trans e'
     .cases e'
    .cases e
theorem Qd:∀(k:Nat) {r:List Addr} {H:Hp} (d d' x:D) (v:V) (b b':Bool),Rp r H d v->Rp r H d' v->eqN k d x=some b->eqN k d' x=some b'->b=b'
 | 0,r,H,d,d',x,v,b,b',p,p',e,e'=>UI p p' e e'
 | k+1,r,H,d,d',x,v,b,b',p,p',e,e'=>by
  cases p with
  | tup h1 l1 f1=>
   cases p' with
   | tup h2 l2 f2=>
    rw[h1] at h2;cases h2
    cases x with
    | tup zs=>exact MY (λd d' x v b b'=>Qd k d d' x v b b') #[l1,f1] #[l2,f2] e e'
    | _=>simp[eqN,eqT,eqF] at e
   | ref h=>cases x<;>simp[eqN,eqT,eqF] at e'
   | exc h=>cases x<;>simp[eqN,eqT,eqF] at e'
  | non=>exact UI (x:=x) .non p' (by cases x<;>exact e) (by cases p'<;>cases x<;>exact e')
  | bl i=>exact UI (x:=x) (.bl i) p' (by cases x<;>exact e) (by cases p'<;>cases x<;>exact e')
  | int i=>exact UI (x:=x) (.int i) p' (by cases x<;>exact e) (by cases p'<;>cases x<;>exact e')
  | str i=>exact UI (x:=x) (.str i) p' (by cases x<;>exact e) (by cases p'<;>cases x<;>exact e')
  | ref h=>cases x<;>simp[eqN,eqT,eqF] at e
  | exc h=>cases x<;>simp[eqN,eqT,eqF] at e
theorem Nl:∀ {ys:List D} {b:Bool},Y6 f ys x=some b->(∀y∈ys,∃c,f y x=some c)/\(b=true↔∃y∈ys,f y x=some true)
 | [],b,e=>by
  simp only[Y6,Option.some.injEq] at e;subst e;simp
 | y::ys,b,e=>by
  unfold Y6 at e;split at e
  .rename_i b1 c1 e1 e2;obtain⟨h1,h2⟩:=Nl e2;simp at e;subst e;refine#[λz hz=>?_,?_]
   .rcases zT.mp hz with rfl|hz'
    .exact#[b1,e1]
    .exact h1 z hz'
   .rw[Bool.or_eq_true,h2];refine#[λq=>?_,λ#[z,hz,q]=>?_]
    .rcases q with q|⟨z,hz,q⟩
     .exact#[y,xG,by rw[e1,q]]
     .exact#[z,yS _ hz,q]
    .rcases zT.mp hz with rfl|hz'
     .left
      rw[e1] at q;exact Option.some.inj q
     .exact .inr #[z,hz',q]
  .cases e
theorem LL {k:Nat}{aA:LA}{σ:St}{H:Hp}{s:Shared}{r:List Addr}{A:Around}{ds:List D}{vs:List V}{us:List Value}{dx:D}{x:V}{u:Value}{b:Bool}(I:Inv X aA σ H s)(hu:A.units+k<cLine)
  (p:Rps r H ds vs)(rv:Zz vs us)(px:Rp r H dx x)(rx:Zw x u)(e:Y6 (eqN k) ds dx=some b):∃g:Value->Bool,(∀y,y∈us.toArray->SeqAt.EqAt A s y u (g y))/\us.toArray.any g=b:=by
 obtain⟨h1,h2⟩:=Nl e;have at_:∀y∈us,∃d v,d∈ds/\Rp r H d v/\Zw v y:=λy hy=>by
  obtain⟨j,hj,ej⟩:=yZ.mp hy;have hv:j<vs.length:=by rw[rv.length];exact hj
  have gv:vs[j]?=some vs[j]:=by simp[hv]
  obtain⟨w,gw,rw'⟩:=rv.get gv;obtain⟨d,gd,pd⟩:=p.get' gv;have ew:w=y:=by
   rw[zD hj,ej] at gw;exact(Option.some.inj gw).symm
  subst ew;exact#[d,_,zE gd,pd,rw']
 classical
 refine#[λy=>decide (∃d v,d∈ds/\Rp r H d v/\Zw v y/\eqN k d dx=some true),λy hy=>?_,?_]
 .obtain⟨d,v,hd,pd,rd⟩:=at_ y (by simpa using hy);obtain⟨c,hc⟩:=h1 d hd;have same:decide (∃d v,d∈ds/\Rp r H d v/\Zw v y/\eqN k d dx=some true)=c:=by
   cases c with
   | true=>exact decide_eq_true #[d,v,hd,pd,rd,hc]
   | false=>
    refine decide_eq_false λ#[d',v',_,pd',rd',hc']=>?_
    have ev:=MU rd rd';subst ev;exact absurd (Qd k d d' dx v false true pd pd' hc hc') ⋯
  show SeqAt.EqAt A s y u (decide _);rw[same];exact Po k X aA σ H s r A d dx v x y u c I hu pd px rd rx hc
 .rw[xK,h2,List.any_toArray,List.any_eq_true];refine#[λ#[y,hy,q]=>?_,λ#[d,hd,q]=>?_]
  .obtain⟨d,v,hd,_,_,q'⟩:=of_decide_eq_true q;exact#[d,hd,q']
  .obtain⟨j,hj,ej⟩:=yZ.mp hd;have gd:ds[j]?=some d:=by simp[hj,ej]
   obtain⟨v,gv,pv⟩:=p.get gd;obtain⟨w,gw,rw'⟩:=rv.get gv;exact#[w,zE gw,decide_eq_true #[d,v,hd,pv,rw',q]]
theorem do_in (k:Nat)(hu:X.A.units+1+k<cLine):OpR X (compareOp .In) (upO X.K Z (wIn k false)):=by
 intro aA s σ H x y v u Qv I rx ry h;obtain⟨r,S,dx,dy,Q,bA,px,py,q,ret⟩:=h;cases py with
 | @ref n a hn=>
  unfold wIn at q;dsimp only at q;split at q
  .rename_i o eo;split at q
   .rename_i b eb;cases ry;obtain⟨eo,eL⟩:=Y3 eo;obtain⟨a',ha,ob⟩:=bA.at eo;rw[hn] at ha;cases ha
    obtain⟨ys,sq,pr⟩:=ob.list eL;obtain⟨us,ru,pl,_⟩:=I.list sq;obtain⟨g,g1,g2⟩:=LL (A:=X.A.in1) I (by show X.A.units+1+k<_;omega) pr ru px rx eb;refine SeqAt.in_listAt g pl.isList g1 ?_;rw[g2];exact#[.bl b,H,I,rfl,ret _ _ _ _ _ Ext.refl bA (.bl b) q]
   .exact q.elim
  .exact q.elim
 | _=>exact(show False from q).elim
theorem ES (k:Nat)(hu:X.A.units+1+k<cLine):OpR X (compareOp .NotIn) (upO X.K Z (wIn k true)):=by
 intro aA s σ H x y v u Qv I rx ry h;obtain⟨r,S,dx,dy,Q,bA,px,py,q,ret⟩:=h;cases py with
 | @ref n a hn=>
  unfold wIn at q;dsimp only at q;split at q
  .rename_i o eo;split at q
   .rename_i b eb;cases ry;obtain⟨eo,eL⟩:=Y3 eo;obtain⟨a',ha,ob⟩:=bA.at eo;rw[hn] at ha;cases ha
    obtain⟨ys,sq,pr⟩:=ob.list eL;obtain⟨us,ru,pl,_⟩:=I.list sq;obtain⟨g,g1,g2⟩:=LL (A:=X.A.in1) I (by show X.A.units+1+k<_;omega) pr ru px rx eb;refine SeqAt.notIn_listAt g pl.isList g1 ?_;rw[g2];exact#[.bl (!b),H,I,rfl,ret _ _ _ _ _ Ext.refl bA (.bl (!b)) q]
   .exact q.elim
  .exact q.elim
 | _=>exact(show False from q).elim
def dForT (i:Nat)(tl:TDE)(tb:TDS):TDS:=λE dl S=>tl dl S λd S1=>match d with
 | .tup xs=>∃W:Nat->Ev->Sto->Prop,W 0 dl S1/\∀k dl S,W k dl S->match xs[k]? with
  | some x=>tb { nx:=λdl' S'=>W (k+1) dl' S',rt:=E.rt,bk:=E.nx,ct:=λdl' S'=>W (k+1) dl' S' } (dl.set i (some x)) S
  | none=>E.nx dl S
 | _=>False
theorem Ai (hp:PassesOwn (mX X) X.A X.env X.xe)(hc:X.calm=true)(hN:X.N.Nodup)(hi:X.N[i]?=some x)(hx:Loc X.env.scope x)(hl:PD X Z aW tl)(hb:YB X Z body tb)(hf:Hf X x:=by first|exact .inl rfl|exact .inr rfl|assumption)(hs:∀y,foldedSetIterable aW X.env y=pure y:=by intro _;rfl):PDS X Z (.For (.Name x pos') aW body [] pos) (dForT i tl tb):=
 Yy (Vb hp hc (zaa hl) (Vn hN hi hx hf) hb hs) λF σ H #[r,dl,S,E,rs,bA,h,ret]=>by
  refine#[r,dl,S,_,rs,bA,h,λv H1 r1 d S1 x1 aE p1 q1=>?_];cases p1 with
  | @tup ds xs a e1 l1 f1=>
   obtain⟨W,w0,turn⟩:=q1;have sq:∀ {r':List Addr} {H':Hp},Ext r1 r' H1 H'->SqT X.K H' a xs:=λ{r' H'} x'=>SqT.of (x'.tup _ _ e1)
   refine#[a,rfl,#[xs,sq Ext.refl],Va x1 rs aE ret (λk m d s=>m+k=xs.length/\W k d s) #[rfl,w0] λk m r2 dl2 S2 σ2 H2 x2 rs2 aF w=>?_];obtain⟨em,w2⟩:=w;have q:=turn k dl2 S2 w2;split at q
   .rename_i y ey;have hk:k<ds.length:=(zC.mp ey).1
    have hkx:k<xs.length:=by rw[<- l1];exact hk
    have pv:Rp r2 H2 y xs[k]:=(f1 k y xs[k] ey (by simp[hkx])).ext x2;refine .inr #[#[xs,xs[k],sq x2,by simp[hkx]],_,λd s z=>#[m-1,by omega,by omega,z],λv' H' y' K hK=>?_];obtain⟨rfl,y'⟩:=y';cases (y' xs (sq x2)).symm.trans (zD hkx);exact hK _ _ _ Ext.refl (rs2.set i pv) aF q
   .rename_i ey;exact .inl #[#[xs,sq x2,by rw[<- l1];exact xD.mp ey],q]
  | _=>exact(show False from q1).elim
def WN:List Nat->List D->Ev->Ev
 | i::is,d::ds,dl=>WN is ds (dl.set i (some d))
 | _,_,dl=>dl
def RM:List Nat->List V->St->St
 | i::is,v::vs,σ=>RM is vs (σ.set i (some v))
 | _,_,σ=>σ
theorem RN {r:List Addr}{H:Hp}:∀ {is:List Nat} {ds:List D} {vs:List V} {dl:Ev} {σ:St},Rs r H dl σ->Rps r H ds vs->Rs r H (WN is ds dl) (RM is vs σ)
 | [],ds,vs,dl,σ,h,p=>by cases ds<;>cases vs<;>exact h
 | i::is,[],vs,dl,σ,h,p=>by
  have z:=p.unnil;subst z;exact h
 | i::is,d::ds,vs,dl,σ,h,p=>by
  obtain⟨v,vs',rfl,p1,p2⟩:=p.uncons;show Rs r H (WN is ds (dl.set i (some d))) (RM is vs' (σ.set i (some v)));exact RN (Rs.set i h p1) p2
inductive Nms (X:Cx):List Expr->List Nat->Prop
 | nil:Nms X [] []
 | cons {x:Str} {p:Pos} {i:Nat} {es:List Expr} {is:List Nat}:X.N[i]?=some x->Loc X.env.scope x->(X.fn x=true\/X.env.scope.names.lookup x=some .local)->Nms X es is->Nms X (.Name x p::es) (i::is)
def gAll (is:List Nat):TGs:=λvs σ H Q=>vs.length=is.length/\Q (RM is vs σ) H
theorem WU (hN:X.N.Nodup):∀ {es:List Expr} {is:List Nat},Nms X es is->PGs X es (gAll is)
 | _,_,.nil=>λaA s σ H vs us Q I r h=>by
  obtain⟨e,h⟩:=h;have z:vs=[]:=by simpa using e
  subst z;exact IP aA s σ H [] us Q I r #[rfl,h]
 | _,_,.cons h1 h2 h3 t=>λaA s σ H vs us Q I r h=>by
  obtain⟨e,h⟩:=h;cases vs with
  | nil=>simp at e
  | cons v vs=>exact Ba (Vn hN h1 h2 h3) (WU hN t) rfl aA s σ H (v::vs) us Q I r #[v,vs,rfl,by simpa using e,h]
def dSetT (is:List Nat)(te:TDE):TDS:=λE dl S=>te dl S λd S1=>match d with
 | .tup xs=>xs.length=is.length/\E.nx (WN is xs dl) S1
 | _=>False
theorem MW (hc:X.calm=true)(hN:X.N.Nodup)(hn:Nms X es is)(he:PD X Z e te)(aQ:(assignEach es X.env).length=is.length:=by rfl)(hst:(assignEach es X.env).findIdx? (·.1)=none:=by rfl)(hs:swapsWithSole [.Tuple es k p] e pos.line X.env=pure false:=by rfl)(hw:swappedStores [.Tuple es k p] e X.env=pure none:=by rfl)(h1:(assignEach [.Tuple es k p] X.env).map (·.2)=[assign (.Tuple es k p) X.env]:=by rfl):PDS X Z (.Assign [.Tuple es k p] e pos) (dSetT is te):=
 Yy (LR he (Vd hc (WU hN hn) aQ hst) hs hw h1) λF σ H #[r,dl,S,E,rs,bA,h,ret]=>by
  refine#[r,dl,S,_,rs,bA,h,λv H1 r1 d S1 x1 aE p1 q1=>?_];cases p1 with
  | @tup ds xs a e1 l1 f1=>
   obtain⟨hl,q⟩:=q1;exact#[a,xs,rfl,SqT.of e1,by rw[<- l1];exact hl,by rw[<- l1];exact hl,ret.nx _ H1 r1 _ S1 x1 (RN (rs.ext x1) #[l1,f1]) aE q]
  | _=>exact(show False from q1).elim
open PySem L2
theorem We (S:Sto)(o u:Ob):(S++[o]).set S.length u=S++[u]:=by simp
abbrev wShl:W2:=wI SW λi j=>.int (i*2^j.toNat)
theorem C2:OpR X (binaryOp .LShift) (upO X.K Z wShl):=opD FK λ_ _ _ _=>.int _
def dBits (to:TDE):TDE:=λdl S Q=>to dl S λd S1=>match d with
 | .int i=>Q (.int (Builtin.Int.intBits i)) S1
 | _=>False
theorem DX:MtR X "int.bit_length" (λx xs H Q=>∃i,x=.int i/\xs=[]/\Q (.int (Builtin.Int.intBits i)) H):=by
 intro aA s σ H x xs v us Q I rx rv h;obtain⟨i,rfl,rfl,q⟩:=h;obtain⟨t,rfl⟩:=rx;cases rv;exact call_int_bit_length #[.int _,H,I.tok _,#[_,rfl],q]
theorem Hw (ho:PD X Z o to)(hbase:attributeBase o "bit_length" X.env (eval o X.env)=eval o X.env:=by rfl)(hline:(aL.endLine==aK.line)=true:=by rfl):
  PD X Z (.Call (.Attribute o "bit_length" aL) [] [] aK) (dBits to):=
 Z6 (Hq #[#[_,ga_int,canon_ga_int],no_getattr_int] slot_int_bit_length type_int_bit_length DX ho hbase hline) λσ H Qv #[r,dl,S,Q,rs,bA,h,ret]=>#[r,dl,S,_,rs,bA,h,λv H1 r1 d S1 e1 aE p1 q1=>by
  cases p1 with
  | int i=>exact#[rfl,i,rfl,rfl,ret _ H1 r1 (.int _) S1 e1 aE (.int _) q1]
  | _=>exact(show False from q1).elim]
def QQ:Sd:=λ_ _ _ _=>False
def Df.never {P:Program}{w:World}{K:Fg}{mg:Str->Option Value}{base:Heap}{x:Str}{st:Stmt}{ps:List Str}(k:Nat)(d:Df K mg x st ps):Fk P w K mg base k x ps QQ:=
 #[d.f,d.fd,#[λ_ _ _ _ #[_,_,_,_,_,_,_,z,_]=>z.elim,λ_ _ _ _ _ _ _ _ _ _ _ _ _ #[_,_,_,_,_,_,_,z,_]=>z.elim],d.m,d.F.kp,d.b]
section
variable {X:Cx}{Z:Zx}{pos:Pos}
end
theorem Th {ta:TDA}{te:TDE}{dl:Ev}{S S1:Sto}{Q:DK}{j:Int}(g:Nat->D)(hta:∀K:List D->Sto->Prop,K [.int j] S1->ta dl S K)(hj:0<=j/\j<=1000)
  (ht:∀k:Nat,k<j.toNat->∀(S2:Sto)(K:DK),Pre S1 S2->K (g k) S2->te (some (.int k)::Yd caps dl) S2 K)(hq:Q (.ref S1.length) (S1++[.lst ((List.range j.toNat).map g)])):Wd caps ta YX te dl S Q:=by
 unfold Wd;refine hta _ #[#[by omega,by omega],λk S2=>S2=S1++[.lst ((List.range k).map g)]/\k<=j.toNat,#[by simp,by omega],?_];rintro k S2 ⟨rfl,hk⟩;split
 .rename_i hk';refine ht k hk' _ _ Pre.refl.push ?_;rw[Zm];refine#[by simp;omega,?_,by omega];rw[List.range_succ,zZ,vJ _ _ (zA _)];simp
 .have e:k=j.toNat:=by omega
  subst e;exact hq
abbrev TDO:=Ev->Sto->(Option Int->Sto->Prop)->Prop
inductive upP (K:Fg)(Z:Zx)(t:TDO)(σ:St)(H:Hp)(Q:Option Int->Hp->Prop):Prop
 | mk (r:List Addr) (dl:Ev) (S:Sto) (Q':Option Int->Sto->Prop) (rs:Rs r H dl σ) (bA:Rel K Z r S H) (h:t dl S Q') (ret:∀o H' r' S',Ext r r' H H'->Rel K Z r' S' H'->Q' o S'->Q o H'):upP K Z t σ H Q
def PDO (X:Cx)(Z:Zx)(e:Option Expr)(t:TDO):Prop:=PO X e (upP X.K Z t)
def QU:TDO:=λ_ S Q=>Q none S
def RZ (t:TDE):TDO:=λdl S Q=>t dl S λd S1=>match d with
 | .int i=>Q (some i) S1
 | _=>False
theorem NS (h:PO X e t)(g:∀σ H Q,t' σ H Q->t σ H Q):PO X e t':=λaA s σ H Q I q=>h aA s σ H Q I (g σ H Q q)
theorem XC:PDO X Z none QU:=NS Gj λσ H Q #[r,dl,S,Q',rs,bA,h,ret]=>ret none H r S Ext.refl bA h
theorem XA (he:PD X Z e t):PDO X Z (some e) (RZ t):=NS (IZ he) λσ H Q #[r,dl,S,Q',rs,bA,h,ret]=>#[r,dl,S,_,rs,bA,h,λv H1 r1 d S1 e1 aE p1 q1=>by
 cases p1 with
 | int i=>exact#[i,rfl,ret (some i) H1 r1 S1 e1 aE q1]
 | _=>exact(show False from q1).elim]
section
variable {X:Cx}{Z:Zx}
end
section
variable {X:Cx}{Z:Zx}
theorem ID (hr:ZI k X.A):OpR X (compareOp .In) (upO X.K Z (YM (wIn 0 false))):=by rw[Xq];exact do_in 0 (by have:=hr.un;omega)
end
theorem ZC (ho:S[n]?=some o)(hd:atI (Zk o) i=some d)(hq:Q d S)(hL:Y9 o=some o:=by rfl):YM wIx (.ref n) (.int i) S Q:=by
 rw[Xq];unfold wIx;simp only[ZO ho hL,hd];exact hq
def VW (f:Str)(v:D):List (Str×D)->List (Str×D)
 | []=>[(f,v)]
 | p::r=>if p.1=f then (f,v)::r else p::VW f v r
theorem FR.lookup {r:List Addr}{H:Hp}{f:Str}:∀ {fs:List (Str×D)} {fs':List (Str×V)},FR r H fs fs'->(∀d,fs.lookup f=some d->∃v,fs'.lookup f=some v/\Rp r H d v)/\(fs.lookup f=none->fs'.lookup f=none)
 | [],fs',h=>by
  have e:fs'=[]:=by
   have:=h.1;simpa using this.symm
  subst e;exact#[λd z=>by simp at z,λ_=>rfl]
 | p::fs,[],h=>by
  have:=h.1;simp at this
 | p::fs,q::fs',h=>by
  obtain⟨h1,h2⟩:=h;simp at h1;obtain⟨p1,p2⟩:=h2.tail;obtain⟨i1,i2⟩:=FR.lookup #[h1.2,p2];obtain⟨pk,pv⟩:=p;obtain⟨qk,qv⟩:=q;have ek:pk=qk:=h1.1;subst ek;by_cases z:f=pk
  .subst z;simp only[List.lookup_cons_self];exact#[λd hd=>#[qv,rfl,by cases hd;exact p1],λhd=>by cases hd]
  .have zb:(f==pk)=false:=by simpa using z
   simp only[yC,zb];exact#[i1,i2]
theorem FR.put {r:List Addr}{H:Hp}{f:Str}{d:D}{v:V}(q:Rp r H d v):∀ {fs:List (Str×D)} {fs':List (Str×V)},FR r H fs fs'->FR r H (VW f d fs) (YO f v fs')
 | [],fs',h=>by
  have e:fs'=[]:=by
   have:=h.1;simpa using this.symm
  subst e;exact#[rfl,Rps.cons q Rps.nil]
 | p::fs,[],h=>by
  have:=h.1;simp at this
 | p::fs,p'::fs',h=>by
  obtain⟨h1,h2⟩:=h;simp at h1;obtain⟨p1,p2⟩:=h2.tail;have ih:=FR.put (f:=f) q #[h1.2,p2];obtain⟨pk,pv⟩:=p;obtain⟨qk,qv⟩:=p';have ek:pk=qk:=h1.1;subst ek;unfold VW YO;by_cases z:pk=f
  .rw[if_pos z,if_pos z];exact#[by simp[h1.2,z],Rps.cons q p2]
  .rw[if_neg z,if_neg z];exact#[by simp[ih.1],Rps.cons p1 ih.2]
section
variable {X:Cx}{Z:Zx}{pos:Pos}
def X1 (C:Addr)(S:Sto):D->Option (Nat×List (Str×D))
 | .ref n=>match S[n]? with
  | some (.ins C' fs)=>if C'=C then some (n,fs) else none
  | _=>none
 | _=>none
theorem Qh (h:X1 C S d=some (n,fs)):d=.ref n/\S[n]?=some (.ins C fs):=by
 unfold X1 at h;split at h
 .split at h
  .rename_i m _ C' fs' e;split at h
   .rename_i ec;subst ec;obtain⟨rfl,rfl⟩:=h;exact#[rfl,e]
   .cases h
  .cases h
 .cases h
@[irreducible] def Rf (C:Addr)(f:Str)(to:TDE):TDE:=λdl S Q=>to dl S λd S1=>match X1 C S1 d with
 | some (_,fs)=>match fs.lookup f with
  | some v=>Q v S1
  | none=>False
 | none=>False
theorem ZN (c:Cls X.K C)(n:Yv X.K C f)(ho:PD X Z o to)(hb:attributeBase o f X.env (eval o X.env)=eval o X.env:=by rfl):PD X Z (.Attribute o f pos) (Rf C f to):=
 Z6 (F3 ho hb) λσ H Qv #[r,dl,S,Q,rs,bA,h,ret]=>by unfold Rf at h;exact#[r,dl,S,_,rs,bA,h,λv H1 r1 d S1 e1 aE p1 q1=>by
  split at q1
  .rename_i m fs ei;obtain⟨rfl,eS⟩:=Qh ei;split at q1
   .rename_i w ew;obtain⟨a,ha,ob⟩:=aE.at eS;obtain⟨dx,fs',eH,fr⟩:=ob;cases p1 with
    | ref hr=>
     rw[hr] at ha;cases ha
     obtain⟨u,hu,pu⟩:=fr.lookup.1 w ew;exact#[a,C,dx,fs',u,rfl,eH,c,n,hu,ret u H1 r1 w S1 e1 aE pu q1]
   .exact q1.elim
  .exact q1.elim]
@[irreducible] def RO (C:Addr)(f:Str)(to te:TDE):TDS:=λE dl S=>te dl S λv S1=>to dl S1 λd S2=>match X1 C S2 d with
 | some (n,fs)=>fs.length<1000/\E.nx dl (S2.set n (.ins C (VW f v fs)))
 | none=>False
theorem Wy (c:Cls X.K C)(n:Yv X.K C f)(ho:PD X Z o to)(he:PD X Z e te)(hs:swapsWith e (some (.Attribute o f p2)) pos.line X.env=pure false:=by rfl):PDS X Z (.Assign [.Attribute o f p2] e pos) (RO C f to te):=
 Yy (CW ho he hs) λF σ H #[r,dl,S,E,rs,bA,h,ret]=>by unfold RO at h;exact#[r,dl,S,_,rs,bA,h,λv H1 r1 dv S1 e1 aE p1 q1=>#[r1,dl,S1,_,rs.ext e1,aE,q1,λw H2 r2 d S2 e2 aF p2' q2=>by
  split at q2
  .rename_i m fs ei;obtain⟨rfl,eS⟩:=Qh ei;obtain⟨hl,q2⟩:=q2;obtain⟨a,ha,ob⟩:=aF.at eS;obtain⟨dx,fs',eH,fr⟩:=id ob;cases p2' with
   | ref hr=>
    rw[hr] at ha;cases ha
    have aQ:fs'.length=fs.length:=by
     have:=congrArg List.length fr.1;simpa using this.symm
    obtain⟨rb,x⟩:=aF.b.setO (o':=.ins C (VW f dv fs)) hr eS rfl rfl λx=>#[dx,_,Yz,(fr.put (p1.ext e2)).ext x]
    exact#[a,C,dx,fs',rfl,eH,c,n,by omega,ret.nx _ _ r2 _ _ (e1.trans (e2.trans x)) (rs.ext (e1.trans (e2.trans x))) #[rb,aF.xw.ext x] q2]
  .exact q2.elim]]
@[irreducible] def Ug (C:Addr)(m:Str)(ex:Ev->Addr->Sto->Prop)(sd:Sd)(to:TDE)(t:TDA):TDE:=λdl S Q=>to dl S λd S1=>match X1 C S1 d with
 | some (_,fs)=>fs.lookup m=none/\t dl S1 λds S2=>sd (d::ds) S2 Q (ex dl)
 | none=>False
theorem Hb (he:PE X o ta)(c:Cls X.K C)(hm:W0 X.K C m f)(F:Yk X.prog X.w X.K X.mg X.base (CXE X.prog X.w) k f fd ps sp)(hr:ZI k X.A)(hb:YK X.K fd ps [])(hx:XG X W)(ha:PA X (e::es) t)(hst:starEach (e::es) X.env=(false,eval e X.env)::starEach es X.env)(hpl:Hp1 X pos es)(ht:eval (.Call (.Attribute o m aL) (e::es) [] pos) X.env=(do
   let ov <- eval o X.env
   standAt aL.atName
   let (f,first) <- holding [ov] (getMethod ov m pl)
   callWith pos f first (backTo pos (starEach (e::es) X.env)) (backToKw pos (keywordEach [] X.env)))):
  PE X (.Call (.Attribute o m aL) (e::es) [] pos) (λσ H Q=>ta σ H λx H1=>∃a dx fs,x=.ref a/\H1 a=some (.ins C dx fs)/\fs.lookup m=none/\t σ H1 λvs H2=>sp (x::vs) H2 Q (W σ)):=by
 intro aA s σ H Q I h;refine PySem.W.methodCall_KW (thn (he aA s σ H _ I h) λu s1 #[x,H1,I1,rx,a,dx,fs,ex,ea,l,q]=>?_) ht;subst ex;obtain rfl:u=Value.ref a:=rx;refine PM I1 ea c hm l ?_;exact PySem.W.callWith_K I.ok.mod.kin hm.kp (thn (ha pos aA s1 σ H1 _ I1 q) λus s2 #[vs,H2,I2,r,q2]=>#[I2.kIn,To (vs:=.ref a::vs) F hr hb hx I2 (.cons rfl r) q2]) hst hpl
theorem AM (he:PE X o ta)(c:Cls X.K C)(hm:W0 X.K C m f)(F:Yk X.prog X.w X.K X.mg X.base (CXE X.prog X.w) k f fd ps sp)(hr:ZI k X.A)(hb:YK X.K fd ps [])(hx:XG X W)(ht:eval (.Call (.Attribute o m aL) [] [] pos) X.env=(do
   let ov <- eval o X.env
   standAt aL.atName
   let (f,first) <- holding [ov] (getMethod ov m pl)
   callWith pos f first (backTo pos (starEach [] X.env)) (backToKw pos (keywordEach [] X.env)))):
  PE X (.Call (.Attribute o m aL) [] [] pos) (λσ H Q=>ta σ H λx H1=>∃a dx fs,x=.ref a/\H1 a=some (.ins C dx fs)/\fs.lookup m=none/\sp [x] H1 Q (W σ)):=by
 intro aA s σ H Q I h;refine PySem.W.methodCall_KW (thn (he aA s σ H _ I h) λu s1 #[x,H1,I1,rx,a,dx,fs,ex,ea,l,q]=>?_) ht;subst ex;obtain rfl:u=Value.ref a:=rx;refine PM I1 ea c hm l ?_;exact PySem.W.callWith_K0 I1.kIn hm.kp (To (vs:=[.ref a]) F hr hb hx I1 (.cons rfl .nil) q)
theorem PR {C:Addr}{r:List Addr}{S:Sto}{H:Hp}{d:D}{v:V}{n:Nat}{fs:List (Str×D)}(bA:Z2 X.K r S H)(p:Rp r H d v)(h:X1 C S d=some (n,fs)):∃a dx fs',v=.ref a/\r[n]?=some a/\H a=some (.ins C dx fs')/\FR r H fs fs':=by
 obtain⟨rfl,eS⟩:=Qh h;obtain⟨a,ha,dx,fs',eH,fr⟩:=bA.at eS;cases p with
 | ref hr=>
  rw[hr] at ha;cases ha
  exact#[a,dx,fs',rfl,hr,eH,fr]
theorem XZ (ho:PD X #[ex,W] o to)(c:Cls X.K C)(hm:W0 X.K C m f)(F:Yk X.prog X.w X.K X.mg X.base (CXE X.prog X.w) k f fd ps (upF X.K sd))(hr:ZI k X.A)(hb:YK X.K fd ps [])(hx:XG X W)(ha:PDA X #[ex,W] (e::es) t)(hst:starEach (e::es) X.env=(false,eval e X.env)::starEach es X.env:=by rfl)(hpl:Hp1 X pos es:=by rfl)(ht:eval (.Call (.Attribute o m aL) (e::es) [] pos) X.env=(do
   let ov <- eval o X.env
   standAt aL.atName
   let (f,first) <- holding [ov] (getMethod ov m pl)
   callWith pos f first (backTo pos (starEach (e::es) X.env)) (backToKw pos (keywordEach [] X.env))):=by rfl):PD X #[ex,W] (.Call (.Attribute o m aL) (e::es) [] pos) (Ug C m ex sd to t):=
 Z6 (Hb ho c hm F hr hb hx ha hst hpl ht) λσ H Qv #[r,dl,S,Q,rs,bA,h,ret]=>by unfold Ug at h;exact#[r,dl,S,_,rs,bA,h,λv H1 r1 d S1 e1 aE p1 q1=>by
  split at q1
  .rename_i n fs ei;obtain⟨hl,q1⟩:=q1;obtain⟨a,dx,fs',rfl,hr1,eH,fr⟩:=PR aE.b p1 ei;exact#[a,dx,fs',rfl,eH,fr.lookup.2 hl,r1,dl,S1,_,rs.ext e1,aE,q1,λvs H2 r2 ds S2 e2 aF p2 q2=>RC (rs.ext (e1.trans e2)) aF (Rps.cons (p1.ext e2) p2) q2 (ret.ext (e1.trans e2))]
  .exact q1.elim]
theorem O7 (ho:PD X #[ex,W] o to)(c:Cls X.K C)(hm:W0 X.K C m f)(F:Yk X.prog X.w X.K X.mg X.base (CXE X.prog X.w) k f fd ps (upF X.K sd))(hr:ZI k X.A)(hb:YK X.K fd ps [])(hx:XG X W)(ht:eval (.Call (.Attribute o m aL) [] [] pos) X.env=(do
   let ov <- eval o X.env
   standAt aL.atName
   let (f,first) <- holding [ov] (getMethod ov m pl)
   callWith pos f first (backTo pos (starEach [] X.env)) (backToKw pos (keywordEach [] X.env))):=by rfl):PD X #[ex,W] (.Call (.Attribute o m aL) [] [] pos) (Ug C m ex sd to U9):=
 Z6 (AM ho c hm F hr hb hx ht) λσ H Qv #[r,dl,S,Q,rs,bA,h,ret]=>by unfold Ug at h;exact#[r,dl,S,_,rs,bA,h,λv H1 r1 d S1 e1 aE p1 q1=>by
  split at q1
  .rename_i n fs ei;obtain⟨hl,q1⟩:=q1;obtain⟨a,dx,fs',rfl,hr1,eH,fr⟩:=PR aE.b p1 ei;exact#[a,dx,fs',rfl,eH,fr.lookup.2 hl,RC (rs.ext e1) aE (Rps.cons p1 Rps.nil) q1 (ret.ext e1)]
  .exact q1.elim]
def dMake (C:Addr)(ex:Addr->Sto->Prop)(sd:Sd)(t:TDA):TDE:=λdl S Q=>t dl S λds S1=>sd (.ref S1.length::ds) (S1++[.ins C []]) (λd S2=>d=.non/\Q (.ref S1.length) S2) ex
theorem EO {C x dx:Addr}{r:List Addr}{S:Sto}{H:Hp}(bA:Rel X.K Z r S H)(h1:H x=none)(h2:H dx=none)(h3:dx≠x):
  Rel X.K Z (r++[x]) (S++[.ins C []]) (upd (upd H dx (.own x)) x (.ins C dx []))/\Ext r (r++[x]) H (upd (upd H dx (.own x)) x (.ins C dx [])):=by
 obtain⟨rb,e⟩:=bA.b.pushO (o:=.ins C []) (H':=upd (upd H dx (.own x)) x (.ins C dx [])) h1 (λb u q=>by rw[ZV (WO q h1),ZV (WO q h2)];exact q) λ_=>#[dx,[],Yz,FR.nil]
 exact#[#[rb,bA.xw.ext e],e]
theorem Ac {C x:Addr}{r r':List Addr}{n:Nat}{H H':Hp}{Z:Zx}{K:Fg}{Q:DK}{Qv:VK}(ret:Ret K Z r H Q Qv)(e:Ext r r' H H')(hx:r'[n]?=some x):
  Ret K Z r' H' (λd S2=>d=.non/\Q (.ref n) S2) (λv H2=>v=.non/\Qv (.ref x) H2):=λv H2 r2 d S2 e2 aF p2 q2=>by
 obtain⟨rfl,q2⟩:=q2;cases p2;exact#[rfl,ret _ H2 r2 (.ref n) S2 (e.trans e2) aF (.ref (e2.adr _ _ hx)) q2]
theorem Vq {C f:Addr}{fd:FuncData}{k:Nat}{ps:List Str}{sd:Sd}{ex:Addr->Sto->Prop}{W:XK}{x:Str}{p:Pos}{e:Expr}{es:List Expr}{t:TDA}(M:Mk X.K C f)
  (F:Yk X.prog X.w X.K X.mg X.base (CXE X.prog X.w) k f fd ps (upF X.K sd))(hr:ZI (k+1) X.A)(hg:Gl X x)(hm:X.mg x=some (.ref C))(hb:YK X.K fd ps [])(hx:TX (CXE X.prog X.w) X W)(ha:PDA X (Zc ex W) (e::es) t)
  (hdb:(x==("__debug__":Str))=false:=by decide)(he:He X e es:=by rfl)(hpl:Hp1 X pos es:=by rfl):
  PD X (Zc ex W) (.Call (.Name x p) (e::es) [] pos) (dMake C ex sd t):=
 Z6 (C9 M F hr hg hm hb .nil hx ha hdb he hpl) λσ H Qv #[r,dl,S,Q,rs,bA,h,ret]=>#[r,dl,S,_,rs,bA,h,λvs H1 r1 ds S1 e1 aE p1 q1=>λx dx n1 n2 n3=>by
  obtain⟨aF,e2⟩:=EO aE n1 n2 n3;rw[xN];exact#[ex,_,_,.ref S1.length::ds,_,aF,Rps.cons (W3 aE.len) (p1.ext e2),q1,Ac (C:=C) ret (e1.trans e2) (Ur aE.len)]]
end
section
variable {κ:Type} [DecidableEq κ]
def Xw (kvs:List (κ×D))(k:κ):Option D:=(kvs.find? λkv=>decide (kv.1=k)).map (·.2)
def Wv (kvs:List (κ×D))(k:κ)(v:D):List (κ×D):=
 if (kvs.any λkv=>decide (kv.1=k))=true then kvs.map (λkv=>if kv.1=k then (kv.1,v) else kv) else kvs++[(k,v)]
theorem FR.split {r:List Addr}{H:Hp}{p:κ×D}{fs:List (κ×D)}{gs:List (κ×V)}(h:FR r H (p::fs) gs):∃q gs',gs=q::gs'/\p.1=q.1/\Rp r H p.2 q.2/\FR r H fs gs':=by
 cases gs with
 | nil=>
  have:=h.1;simp at this
 | cons q gs'=>
  obtain⟨h1,h2⟩:=h;simp only[yL,List.cons.injEq] at h1;obtain⟨p1,p2⟩:=h2.tail;exact#[q,gs',rfl,h1.1,p1,h1.2,p2]
theorem FR.unnil {r:List Addr}{H:Hp}{gs:List (κ×V)}(h:FR r H ([]:List (κ×D)) gs):gs=[]:=by
 have:=h.1;simpa using this.symm
theorem FR.cons {r:List Addr}{H:Hp}{k:κ}{d:D}{v:V}{fs:List (κ×D)}{gs:List (κ×V)}(p:Rp r H d v)(h:FR r H fs gs):FR r H ((k,d)::fs) ((k,v)::gs):=#[by simp[h.1],Rps.cons p h.2]
theorem FR.val {r:List Addr}{H:Hp}{k:κ}:∀ {fs:List (κ×D)} {gs:List (κ×V)},FR r H fs gs->(∀d,Xw fs k=some d->∃v,Xr gs k=some v/\Rp r H d v)/\(Xw fs k=none->Xr gs k=none)
 | [],gs,h=>by
  have z:=h.unnil;subst z;exact#[(λd e=>by cases e),λ_=>rfl]
 | p::fs,gs,h=>by
  obtain⟨q,gs',rfl,e,pr,t⟩:=h.split;obtain⟨i1,i2⟩:=FR.val (k:=k) t;by_cases z:p.1=k
  .have z':q.1=k:=e.symm.trans z;rw[Sm z'];have zd:Xw (p::fs) k=some p.2:=by simp[Xw,xI,z]
   rw[zd];exact#[λd hd=>#[q.2,rfl,by cases hd;exact pr],λhd=>by cases hd]
  .have z':¬ q.1=k:=λy=>z (e.trans y)
   rw[Rv z'];have zd:Xw (p::fs) k=Xw fs k:=by simp[Xw,xI,z]
   rw[zd];exact#[i1,i2]
theorem FR.putK {r:List Addr}{H:Hp}{k:κ}{d:D}{v:V}{fs:List (κ×D)}{gs:List (κ×V)}(p:Rp r H d v)(h:FR r H fs gs):FR r H (Wv fs k d) (putK gs k v):=by
 have any:∀ {fs:List (κ×D)} {gs:List (κ×V)},FR r H fs gs->(fs.any λkv=>decide (kv.1=k))=(gs.any λkv=>decide (kv.1=k)):=by
  intro fs
  induction fs with
  | nil=>intro gs h;have z:=h.unnil;subst z;rfl
  | cons q fs ih=>
   intro gs h;obtain⟨q',gs',rfl,e,_,t⟩:=h.split;rw[wJ,wJ,ih t,e]
 have mp:∀ {fs:List (κ×D)} {gs:List (κ×V)},FR r H fs gs->FR r H (fs.map λkv=>if kv.1=k then (kv.1,d) else kv) (gs.map λkv=>if kv.1=k then (kv.1,v) else kv):=by
  intro fs
  induction fs with
  | nil=>intro gs h;have z:=h.unnil;subst z;exact FR.nil
  | cons q fs ih=>
   intro gs h;obtain⟨q',gs',rfl,e,pr,t⟩:=h.split;rw[yL,yL];obtain⟨qk,qd⟩:=q;obtain⟨qk',qv⟩:=q';have e':qk=qk':=e;subst e';by_cases z:qk=k
   .rw[if_pos z,if_pos z];exact FR.cons p (ih t)
   .rw[if_neg z,if_neg z];exact FR.cons pr (ih t)
 have ap:∀ {fs:List (κ×D)} {gs:List (κ×V)},FR r H fs gs->FR r H (fs++[(k,d)]) (gs++[(k,v)]):=by
  intro fs
  induction fs with
  | nil=>intro gs h;have z:=h.unnil;subst z;exact FR.cons p FR.nil
  | cons q fs ih=>
   intro gs h;obtain⟨q',gs',rfl,e,pr,t⟩:=h.split;obtain⟨qk,qd⟩:=q;obtain⟨qk',qv⟩:=q';have e':qk=qk':=e;subst e';exact FR.cons pr (ih t)
 unfold Wv L2.putK;rw[any h];split
 .exact mp h
 .exact ap h
end
section
variable {X:Cx}{Z:Zx}{pos:Pos}
end
def Uw:D->Option Key
 | .int i=>some (.inl i)
 | .str x=>some (.inr x)
 | _=>none
theorem OS {r:List Addr}{H:Hp}{d:D}{v:V}{k:Key}(p:Rp r H d v)(e:Uw d=some k):v=kV k:=by
 cases p with
 | int i=>cases e;rfl
 | str x=>cases e;rfl
 | _=>cases e
section
variable {X:Cx}{Z:Zx}{pos:Pos}
def WT (S:Sto):D->Option (Nat×List (Key×D))
 | .ref n=>match S[n]? with
  | some (.dck kvs)=>some (n,kvs)
  | _=>none
 | _=>none
theorem Py (h:WT S d=some (n,kvs)):d=.ref n/\S[n]?=some (.dck kvs):=by
 unfold WT at h;split at h
 .split at h
  .rename_i e;simp only[Option.some.injEq,Prod.mk.injEq] at h;obtain⟨rfl,rfl⟩:=h;exact#[rfl,e]
  .cases h
 .cases h
def atK (S:Sto)(d y:D):Option (Option D):=match WT S d,Uw y with
 | some (_,kvs),some k=>some (Xw kvs k)
 | _,_=>none
theorem JD {r:List Addr}{S:Sto}{H:Hp}{d y:D}{x v:V}{o:Option D}(bA:Z2 X.K r S H)(pd:Rp r H d x)(py:Rp r H y v)(h:atK S d y=some o):
  ∃a o',x=.ref a/\Uj H a v o'/\(∀z,o=some z->∃w,o'=some w/\Rp r H z w)/\(o=none->o'=none):=by
 unfold atK at h;split at h
 .rename_i n kvs k e1 e2;obtain⟨rfl,eS⟩:=Py e1;obtain⟨a,ha,kvs',eH,fr⟩:=bA.at eS;obtain rfl:=OS py e2;cases pd with
  | ref hr=>
   rw[hr] at ha;cases ha
   have hv:=Option.some.inj h;subst hv;exact#[a,_,rfl,Uj.k eH,λz hz=>fr.val.1 z hz,λhz=>fr.val.2 hz]
 .cases h
@[irreducible] def Rx (td ty tv:TDE):TDS:=λE dl S=>tv dl S λv S1=>td dl S1 λd S2=>ty dl S2 λy S3=>match WT S3 d,Uw y with
 | some (n,kvs),some k=>kvs.length<1000/\E.nx dl (S3.set n (.dck (Wv kvs k v)))
 | _,_=>False
theorem Hr {o i e:Expr}{td ty tv:TDE}{k:Nat}{p2:Pos}(hu:ZI k X.A)(ho:PD X Z o td)(hi:PD X Z i ty)(hv:PD X Z e tv)(hs:swapsWith e (some (.Subscript o i p2)) pos.line X.env=pure false:=by rfl):PDS X Z (.Assign [.Subscript o i p2] e pos) (Rx td ty tv):=
 Yy (AW (by have:=hu.un;omega) ho hi hv hs) λF σ H #[r,dl,S,E,rs,bA,h,ret]=>by unfold Rx at h;exact#[r,dl,S,_,rs,bA,h,λv H1 r1 dv S1 e1 aE p1 q1=>#[r1,dl,S1,_,rs.ext e1,aE,q1,λx H2 r2 d S2 e2 aF p2' q2=>
  #[r2,dl,S2,_,rs.ext (e1.trans e2),aF,q2,λy H3 r3 dy S3 e3 aG p3 q3=>by
   split at q3
   .rename_i n kvs k' c1 c2;obtain⟨hl,q3⟩:=q3;obtain⟨rfl,eS⟩:=Py c1;obtain⟨a,ha,kvs',eH,fr⟩:=aG.at eS;obtain rfl:=OS p3 c2;cases p2' with
    | ref hr=>
     have hr3:=e3.adr _ _ hr;rw[hr3] at ha;cases ha
     have aQ:kvs'.length=kvs.length:=by
      have:=congrArg List.length fr.1;simpa using this.symm
     obtain⟨rb,xx⟩:=aG.b.setO (o':=.dck (Wv kvs k' dv)) (u:=.dK (L2.putK kvs' k' v)) hr3 eS rfl rfl λxx=>#[_,Yz,(fr.putK (p1.ext (e2.trans e3))).ext xx]
     exact#[a,_,rfl,UT.k eH (by rw[aQ];exact VO (yR hl)),ret.nx _ _ r3 _ _ (e1.trans (e2.trans (e3.trans xx))) (rs.ext (e1.trans (e2.trans (e3.trans xx)))) #[rb,aG.xw.ext xx] q3]
   .exact q3.elim]]]
def dKNew:TDE:=λ_ S Q=>Q (.ref S.length) (S++[.dck []])
theorem IT:PD X Z (.Dict [] [] pos) dKNew:=Z6 IU λσ H Qv #[r,dl,S,Q,rs,bA,h,ret]=>λp hp=>by
 obtain⟨rb,e⟩:=bA.b.pushO (o:=.dck []) (H':=upd H p (.dK [])) hp (Xk hp) λ_=>#[[],Yz,FR.nil]
 exact ret _ _ _ (.ref S.length) _ e #[rb,bA.xw.ext e] (W3 bA.len) h
theorem zac {ty td tv:TDE}{dl:Ev}{S S1 S3:Sto}{E:Xn}{n:Nat}{kvs:List (Key×D)}{y v:D}{k:Key}(hv:∀K:DK,K v S1->tv dl S K)(hd:∀K:DK,K (.ref n) S3->td dl S1 K)(hy:∀K:DK,K y S3->ty dl S3 K)(h:S3[n]?=some (.dck kvs))(hk:Uw y=some k)(hl:kvs.length<1000)(hq:E.nx dl (S3.set n (.dck (Wv kvs k v)))):Rx td ty tv E dl S:=by
 unfold Rx;refine hv _ (hd _ (hy _ ?_));simp only[WT,h,hk];exact#[hl,hq]
end
def Yi (xs:List D)(lo hi:Option Int):List D:=(xs.drop (HT.sIx xs.length 0 lo)).take (HT.sIx xs.length xs.length hi-HT.sIx xs.length 0 lo)
theorem Rps.drop {r:List Addr}{H:Hp}{ds:List D}{vs:List V}(h:Rps r H ds vs)(k:Nat):Rps r H (ds.drop k) (vs.drop k):=
 #[by simp[h.1],λi d v h1 h2=>h.2 (k+i) d v (by simpa using h1) (by simpa using h2)]
theorem Rps.take {r:List Addr}{H:Hp}{ds:List D}{vs:List V}(h:Rps r H ds vs)(k:Nat):Rps r H (ds.take k) (vs.take k):=by
 refine#[by simp[h.1],λi d v h1 h2=>?_];rw[tE] at h1 h2;split at h1
 .rw[if_pos (by assumption)] at h2;exact h.2 i d v h1 h2
 .cases h1
theorem Rps.cut {r:List Addr}{H:Hp}{ds:List D}{vs:List V}(h:Rps r H ds vs)(lo hi:Option Int):Rps r H (Yi ds lo hi) (UJ vs lo hi):=by
 unfold Yi UJ;rw[h.1];exact(h.drop _).take _
@[irreducible] def V4 (te:TDE)(tl th:TDO):TDE:=λdl S Q=>te dl S λd S1=>tl dl S1 λl S2=>th dl S2 λu S3=>match d with
 | .ref n=>match lAt S3 n with
  | some o=>Q (.ref S3.length) (S3++[.lst (Yi (Zk o) l u)])
  | none=>False
 | _=>False
theorem X6 {e:Expr}{te:TDE}{lo hi:Option Expr}{tl th:TDO}{p2:Pos}(he:PD X Z e te)(hl:PDO X Z lo tl)(hu:PDO X Z hi th):PD X Z (.Subscript e (.Slice lo hi none p2) pos) (V4 te tl th):=
 Z6 (Md Bu he hl hu) λσ H Qv #[r,dl,S,Q,rs,bA,h,ret]=>by
  unfold V4 at h;refine#[r,dl,S,_,rs,bA,h,λv H1 r1 d S1 e1 aE p1 q1=>#[r1,dl,S1,_,rs.ext e1,aE,q1,λl H2 r2 S2 e2 aF q2=>#[r2,dl,S2,_,rs.ext (e1.trans e2),aF,q2,λu H3 r3 S3 e3 aG q3=>?_]]];cases p1 with
  | @ref n a hn=>
   dsimp only at q3;split at q3
   .rename_i o eo;obtain⟨eo,eL⟩:=Y3 eo;obtain⟨a',ha,ob⟩:=aG.at eo;rw[e3.adr _ _ (e2.adr _ _ hn)] at ha;cases ha
    obtain⟨xs,sq,pr⟩:=ob.list eL;refine#[a,xs,rfl,sq,λp hp=>?_];obtain⟨aH,x⟩:=aG.push hp (pr.cut l u);exact ret _ _ _ (.ref S3.length) _ (e1.trans (e2.trans (e3.trans x))) aH (W3 aG.len) q3
   .exact q3.elim
  | _=>exact(show False from q3).elim
theorem X7 {te:TDE}{tl th:TDO}{dl:Ev}{S S3:Sto}{Q:DK}{n:Nat}{o:Ob}{lo hi:Option Int}(h:∀K:DK,K (.ref n) S3->te dl S K)(hl:∀K:Option Int->Sto->Prop,K lo S3->tl dl S3 K)(hh:∀K:Option Int->Sto->Prop,K hi S3->th dl S3 K)(ho:S3[n]?=some o)
  (hq:Q (.ref S3.length) (S3++[.lst (Yi (Zk o) lo hi)]))(hL:Y9 o=some o:=by rfl):V4 te tl th dl S Q:=by
 unfold V4;refine h _ (hl _ (hh _ ?_));simp only[ZO ho hL];exact hq
theorem Rps.put {r:List Addr}{H:Hp}{ds:List D}{vs:List V}{d:D}{v:V}(h:Rps r H ds vs)(p:Rp r H d v)(j:Nat):Rps r H (ds.set j d) (vs.set j v):=by
 refine#[by simp[h.1],λi x y h1 h2=>?_];by_cases z:j=i
 .subst z;have hl:j<ds.length:=by
   have:=(zC.mp h1).1;simpa using this
  rw[yK hl] at h1;rw[yK (by rw[<- h.1];exact hl)] at h2;cases h1;cases h2;exact p
 .rw[zY z] at h1 h2;exact h.2 i x y h1 h2
@[irreducible] def Su (to ti te:TDE):TDS:=λE dl S=>te dl S λv S1=>to dl S1 λd S2=>ti dl S2 λi S3=>match d,i with
 | .ref n,.int k=>match S3[n]? with
  | some (.lst xs)=>match ixN xs.length k with
   | some j=>E.nx dl (S3.set n (.lst (xs.set j v)))
   | none=>False
  | _=>False
 | _,_=>False
theorem US (ho:PD X Z o to)(hi:PD X Z i ti)(he:PD X Z e te)(hs:swapsWithSole [.Subscript o i p2] e pos.line X.env=pure false:=by rfl)(hw:swappedStores [.Subscript o i p2] e X.env=pure none:=by rfl)(h1:(assignEach [.Subscript o i p2] X.env).map (·.2)=[assign (.Subscript o i p2) X.env]:=by rfl)(ha:∀v,assign (.Subscript o i p2) X.env v=(do let ov <- holding [v] (eval o X.env);let iv <- holding [v,ov] (eval i X.env);standAt p2;holding [v,ov,iv] (setItem ov iv v);release [v,ov,iv] []):=by intro _;rfl):PDS X Z (.Assign [.Subscript o i p2] e pos) (Su to ti te):=
 Yy (LR he (Iu ho hi Kp ha) hs hw h1) λF σ H #[r,dl,S,E,rs,bA,h,ret]=>by
  unfold Su at h;refine#[r,dl,S,_,rs,bA,h,λv H1 r1 dv S1 e1 aE p1 q1=>#[r1,dl,S1,_,rs.ext e1,aE,q1,λx H2 r2 d S2 e2 aF pd q2=>#[r2,dl,S2,_,rs.ext (e1.trans e2),aF,q2,λy H3 r3 di S3 e3 aG pi q3=>?_]]];cases pd with
  | @ref n a hn=>
   cases pi with
   | int k=>
    dsimp only at q3;split at q3
    .rename_i xs eS;split at q3
     .rename_i j ej;have hn3:=e3.adr _ _ hn;obtain⟨ys,eH,pr⟩:=aG.b.ob n a _ hn3 eS;obtain⟨aH,x4⟩:=aG.set hn3 eS (pr.put (p1.ext (e2.trans e3)) j);exact#[a,ys,k,j,rfl,rfl,eH,by rw[<- pr.1];exact ej,ret.nx _ _ r3 _ _ (e1.trans (e2.trans (e3.trans x4))) (rs.ext (e1.trans (e2.trans (e3.trans x4)))) aH q3]
     .exact q3.elim
    .exact q3.elim
   | _=>exact(show False from q3).elim
  | _=>exact(show False from q3).elim
def Xu (f:D->D->Option Bool):List D->D->Option (Option Nat)
 | [],_=>some none
 | y::ys,x=>match f y x,Xu f ys x with
  | some true,some _=>some (some 0)
  | some false,some o=>some (o.map (·+1))
  | _,_=>none
theorem Pp:∀ {ys:List D} {o:Option Nat},Xu f ys x=some o->(∀y∈ys,∃c,f y x=some c)/\∀j,o=some j->(∃y,ys[j]?=some y/\f y x=some true)/\∀m y,m<j->ys[m]?=some y->f y x=some false
 | [],o,e=>by
  have h:=Option.some.inj e;subst h;exact#[(λy hy=>by cases hy),λj z=>by cases z]
 | y::ys,o,e=>by
  unfold Xu at e;split at e
  .rename_i o1 e1 e2;have h:=Option.some.inj e;subst h;obtain⟨h1,_⟩:=Pp e2;refine#[λz hz=>?_,λj hj=>?_]
   .rcases zT.mp hz with rfl|hz
    .exact#[true,e1]
    .exact h1 z hz
   .cases hj;exact#[#[y,rfl,e1],λm z hm=>by omega]
  .rename_i o1 e1 e2;have h:=Option.some.inj e;subst h;obtain⟨h1,h2⟩:=Pp e2;refine#[λz hz=>?_,λj hj=>?_]
   .rcases zT.mp hz with rfl|hz
    .exact#[false,e1]
    .exact h1 z hz
   .obtain⟨k,rfl,rfl⟩:=zH.mp hj;obtain⟨⟨z,hz1,hz2⟩,h3⟩:=h2 k rfl;refine#[#[z,by simpa using hz1,hz2],λm w hm hw=>?_];cases m with
    | zero=>
     have:w=y:=by simpa using hw.symm
     rw[this];exact e1
    | succ m=>exact h3 m w (by omega) (by simpa using hw)
  .cases e
theorem J7 {k:Nat}{aA:LA}{σ:St}{H:Hp}{s:Shared}{r:List Addr}{A:Around}{ds:List D}{vs:List V}{us:List Value}{dx:D}{x:V}{u:Value}{j:Nat}(I:Inv X aA σ H s)(hu:A.units+k<cLine)
  (p:Rps r H ds vs)(rv:Zz vs us)(px:Rp r H dx x)(rx:Zw x u)(e:Xu (eqN k) ds dx=some (some j)):
  ∃g:Value->Bool,(∀y,y∈us.toArray->SeqAt.EqAt A s y u (g y))/\∃hj:j<us.toArray.size,g us.toArray[j]=true/\∀m (hm:m<us.toArray.size),m<j->g us.toArray[m]=false:=by
 obtain⟨h1,h2⟩:=Pp e;obtain⟨⟨yj,hyj,htj⟩,hno⟩:=h2 j rfl
 classical
 have at_:∀(m:Nat)(hm:m<us.length),∃d v,ds[m]?=some d/\Rp r H d v/\Zw v us[m]:=λm hm=>by
  have hv:m<vs.length:=by rw[rv.length];exact hm
  have gv:vs[m]?=some vs[m]:=by simp[hv]
  obtain⟨w,gw,rw'⟩:=rv.get gv;obtain⟨d,gd,pd⟩:=p.get' gv;have ew:w=us[m]:=by
   rw[zD hm] at gw;exact(Option.some.inj gw).symm
  subst ew;exact#[d,_,gd,pd,rw']
 have val:∀(m:Nat)(hm:m<us.length)(d:D)(c:Bool),ds[m]?=some d->eqN k d dx=some c->decide (∃d v,d∈ds/\Rp r H d v/\Zw v us[m]/\eqN k d dx=some true)=c:=λm hm d c hd hc=>by
  obtain⟨d',v',gd,pd,rd⟩:=at_ m hm;rw[hd] at gd;cases gd
  cases c with
  | true=>exact decide_eq_true #[d,v',zE hd,pd,rd,hc]
  | false=>
   refine decide_eq_false λ#[d2,v2,_,pd2,rd2,hc2]=>?_
   have ev:=MU rd rd2;subst ev;exact absurd (Qd k d d2 dx v' false true pd pd2 hc hc2) ⋯
 refine#[λy=>decide (∃d v,d∈ds/\Rp r H d v/\Zw v y/\eqN k d dx=some true),λy hy=>?_,?_]
 .have hy':y∈us:=by simpa using hy
  obtain⟨m,hm,rfl⟩:=yZ.mp hy';obtain⟨d,v,gd,pd,rd⟩:=at_ m hm;obtain⟨c,hc⟩:=h1 d (zE gd);show SeqAt.EqAt A s us[m] u (decide _);rw[val m hm d c gd hc];exact Po k X aA σ H s r A d dx v x _ u c I hu pd px rd rx hc
 .have hjl:j<us.length:=by
   have:=(zC.mp hyj).1;rw[p.1,rv.length] at this;exact this
  refine#[by simpa using hjl,?_,λm hm hmj=>?_]
  .have z:=val j hjl yj true hyj htj;simpa using z
  .have hm':m<us.length:=by simpa using hm
   obtain⟨d,v,gd,pd,rd⟩:=at_ m hm';have z:=val m hm' d false gd (hno m d hmj gd);simpa using z
def UH (k:Nat)(d y:D)(S:Sto)(Q:DK):Prop:=match d with
 | .ref n=>match lAt S n with
  | some o=>match Xu (eqN k) (Zk o) y with
   | some (some j)=>Q (.int (j:Int)) S
   | _=>False
  | none=>False
 | _=>False
@[irreducible] def VX (k:Nat)(to:TDE)(t:TDA):TDE:=λdl S Q=>to dl S λd S1=>(match d with
 | .ref n=>(lAt S1 n).isSome=true/\t dl S1 λds S2=>match ds with
  | [y]=>UH k d y S2 Q
  | _=>False
 | _=>False)
theorem HZ (hr:ZI j X.A)(hk:k<=3):MtR X "list.index" (λx xs H Qv=>∃(r:List Addr)(S:Sto)(d y:D)(v:V)(Q:DK),Rel X.K Z r S H/\Rp r H d x/\xs=[v]/\Rp r H y v/\UH k d y S Q/\Ret X.K Z r H Q Qv):=by
 intro aA s σ H x xs v us Qv I rx rv h;obtain⟨r,S,d,y,v1,Q,bA,pd,rfl,py,q,ret⟩:=h;obtain⟨u,rfl,ru⟩:=Wq rv;unfold UH at q;split at q
 .rename_i n;split at q
  .rename_i o eo;obtain⟨eo,eL⟩:=Y3 eo;split at q
   .rename_i i ei;cases pd with
    | @ref n a hn=>
     cases rx;obtain⟨a',ha,ob⟩:=bA.at eo;rw[hn] at ha;cases ha
     obtain⟨ys,sq,pr⟩:=ob.list eL;obtain⟨aY,ri,pl,hz⟩:=I.list sq;have hun:=hr.un;obtain⟨g,g1,hj,g2,g3⟩:=J7 (A:=X.A.in1) I (by show X.A.units+1+k<_;omega) pr ri py ru ei;obtain⟨ob2,m,e,c,hd,hdat⟩:=pl;obtain⟨oc,od,odat,osl⟩:=ob2;have c':oc=.type "list":=c
     have hdat':odat=.seq aY.toArray m:=hdat;subst c' hdat';refine call_meets PySem.F.slot_list_index #[_,e,rfl] PySem.F.entry_list_index (PySem.F.args_list_index_2 _ _) (PySem.SeqAt.list_indexAt a aY.toArray m od osl u g i hj (by
      have:aY.toArray.size<=sizeLine:=by rw[zI,<- ri.length];exact hz
      have h2:=VR;omega) g2 λm hm h2=>g3 m hm h2) #[e,g1,?_]
     exact#[.int (i:Int),H,I.tok _,#[_,rfl],ret _ H r (.int _) S Ext.refl bA (.int _) q]
   .exact q.elim
  .exact q.elim
 .exact q.elim
theorem LX (hr:ZI j X.A)(hk:k<=3)(ho:PD X Z o to)(ha:PDA X Z [e] t)(hbase:attributeBase o "index" X.env (eval o X.env)=eval o X.env:=by rfl)(hfew:((backTo aK (starEach [e] X.env)).all (λx=>!x.1)&&(backToKw aK (keywordEach [] X.env)).all (λx=>x.1.isSome)
  &&decide ([e].length+([]:List Keyword).length+(if ([]:List Keyword).isEmpty then 0 else 1)<30))=true:=by rfl)(hline:(aL.endLine==aK.line)=true:=by rfl)(hs:starEach [e] X.env=(false,eval e X.env)::starEach [] X.env:=by rfl)(hplain:(backTo aK (starEach [] X.env)).any (·.1)=false:=by rfl):
  PD X Z (.Call (.Attribute o "index" aL) [e] [] aK) (VX k to t):=
 Z6 (LM PySem.F.plainAttrs_list PySem.F.slot_list_index PySem.F.type_list_index (HZ hr hk) ho ha hbase hfew hline hs hplain) λσ H Qv #[r,dl,S,Q,rs,bA,h,ret]=>by
  unfold VX at h;refine#[r,dl,S,_,rs,bA,h,λv H1 r1 d S1 e1 aE p1 q1=>?_];cases p1 with
  | @ref n a hn=>
   obtain⟨aV,q1⟩:=q1;obtain⟨o1,eo⟩:=yX.mp aV;obtain⟨eo,eL⟩:=Y3 eo;obtain⟨a',ha',ob⟩:=aE.at eo;rw[hn] at ha';cases ha'
   obtain⟨xs,sq,_⟩:=ob.list eL;refine#[.inl #[rfl,xs,sq],r1,dl,S1,_,rs.ext e1,aE,q1,λvs H2 r2 ds S2 e2 aF p2 q2=>?_];split at q2
   .rename_i y;obtain⟨v2,vs',rfl,p3,p4⟩:=p2.uncons;have z:=p4.unnil;subst z;exact#[r2,S2,.ref n,y,v2,Q,aF,.ref (e2.adr _ _ hn),rfl,p3,q2,ret.ext (e1.trans e2)]
   .exact q2.elim
  | _=>exact(show False from q1).elim
theorem Mo {t':Nat}{ch:List Addr}{T:Addr}{xs:List V}{vals:Array Value}(I:Inv X aA σ H s)(k:∀b o,b ∉ ch->s.heap.get? b=some o->h'.get? b=some o)(hch:∀b∈ch,Yu X aA H b)
  (hT:s.heap.objs.size<=T)(ht:h'.IsTuple T vals)(rv:Zz xs vals.toList)(hl:xs.length<=sizeLine):Inv X aA σ (upd H T (.tup xs)) { s with heap:=h',toks:=t' }:=by
 have hTn:H T=none:=I.hok.fresh hT
 have old:∀ {b:Addr} {o:Obj},s.heap.get? b=some o->b≠T:=λ{b o} e z=>absurd (zV (Heap.lt_size e) hT) (by rw[z];exact yW _)
 have trk:∀b u,H b=some u->b ∉ ch:=λb u e z=>by
  rw[(hch b z).1] at e;cases e
 have up:∀b u,H b=some u->(upd H T (.tup xs)) b=some u:=Xk hTn;refine I.step (λb hb=>?_) (λb o _ _ hc e _=>k b o hc e) (λb o _ _ hc e _=>#[o.slots,k b o hc e]) (λb o _ e n=>by rw[ZV (old e)];exact n)
  (λb o hc e=>#[o,k b o hc e]) (λb ys e=>up _ _ e) (λb o u e=>up _ _ e) (λb ps e=>#[(List.toArray []),by rw[up _ _ e];simp]) (λm hm=>?_) (λb u e=>?_) I.bare
 .obtain⟨_,f1,_,f3,f4,f5⟩:=hch b hb;exact#[f3,f1,f4,f5]
 .obtain⟨o,es,ep,ho,r⟩:=hm;exact#[o,es,ep,k _ o (λz=>(hch _ z).2.1 rfl) ho,r]
 .by_cases hb:b=T
  .subst hb;rw[Yz] at e;cases e;exact#[hl,vals.toList,rv,by rw[Array.toArray_toList];exact ht]
  .rw[ZV hb] at e;refine(I.hok b u e).stay (λc v hc q=>k c v ?_ q) (λd z=>up _ _ z) λd ys z=>up _ _ z
   rcases hc with z|z
   .rw[z];exact trk b u e
   .exact trk c _ z
theorem Ti {t':Nat}{ch:List Addr}(I:Inv X aA σ H s)(k:∀b o,b ∉ ch->s.heap.get? b=some o->h'.get? b=some o)(hch:∀b∈ch,Yu X aA H b):Inv X aA σ H { s with heap:=h',toks:=t' }:=by
 have trk:∀b u,H b=some u->b ∉ ch:=λb u e z=>by
  rw[(hch b z).1] at e;cases e
 refine I.step (λb hb=>?_) (λb o _ _ hc e _=>k b o hc e) (λb o _ _ hc e _=>#[o.slots,k b o hc e]) (λb o _ e n=>n)
  (λb o hc e=>#[o,k b o hc e]) (λb ys e=>e) (λb o u e=>e) (λb ps e=>#[(List.toArray []),by rw[e];simp]) (λm hm=>?_) (λb u e=>?_) I.bare
 .obtain⟨_,f1,_,f3,f4,f5⟩:=hch b hb;exact#[f3,f1,f4,f5]
 .obtain⟨o,es,ep,ho,r⟩:=hm;exact#[o,es,ep,k _ o (λz=>(hch _ z).2.1 rfl) ho,r]
 .refine(I.hok b u e).stay (λc v hc q=>k c v ?_ q) (λd z=>z) λd ys z=>z
  rcases hc with z|z
  .rw[z];exact trk b u e
  .exact trk c _ z
theorem mem2 {c a b:Addr}{P:Addr->Prop}(h:c∈[a,b])(p:P a)(q:P b):P c:=(zT.mp h).elim (λe=>e ▸ p) λh=>zO.mp h ▸ q
theorem mem5 {c a b d e f:Addr}{P:Addr->Prop}(h:c∈[a,b,d,e,f])(p:P a)(q:P b)(r:P d)(s:P e)(t:P f):P c:=(zT.mp h).elim (λe=>e ▸ p) λh=>(zT.mp h).elim (λe=>e ▸ q) λh=>(zT.mp h).elim (λe=>e ▸ r) λh=>mem2 h s t
theorem toA {aY:List Value}{i:Nat}{u y:Value}(hu:aY[i]?=some u)(h:aY.toArray[i]?=some y):y=u:=Option.some.inj ((h.symm.trans List.getElem?_toArray).trans hu)
inductive YldE (K:Fg)(a:Addr)(i:Nat)(H:Hp)(x:V)(H':Hp):Prop
 | mk (T:Addr) (v:V) (b:x=.ref T) (c:H T=none) (d:H'=upd H T (.tup [.int (i:Int),v])) (e:∀xs,SqL K H a xs->xs[i]?=some v):YldE K a i H x H'
def Ite (K:Fg)(a:Addr):It:=
 #[λi H=>∃xs x,SqL K H a xs/\xs[i]?=some x,YldE K a,λi H=>∃xs,SqL K H a xs/\xs.length=i]
theorem GN {P:Program}{w:World}{K:Fg}{aO:List Expr}{kk:Nat}{tp:Pos}(a e it:Addr)(hei:e≠it)(hae:a≠e)(hai:a≠it):
  W9 P w K (.Tuple aO kk tp) (Ite K a) [e,it] e (λi h=>(∃old,IsEnum h e it i old)/\h.IsListIter it a i) where
 mem:=by simp
 obj:=λi h st b hb=>by
  obtain⟨⟨old,he⟩,o,e1,c,d⟩:=st;refine mem2 (P:=λb=>∃o,h.get? b=some o/\∀v,o.data≠.cell v) hb ?_ ?_
  .exact#[_,he,λv z=>by cases z]
  .exact#[o,e1,λv z=>by rw[d] at z;cases z]
 keep:=λi h h' st k=>#[st.1.imp λ_ he=>k e (.head _) _ he,st.2.at λo x=>k it (.tail _ (.head _)) o x]
 item:=by
  intro X hP hw hK hc i aA s σ H E I hf st hg;subst hP hw hK;obtain⟨xs,x,hq,hx⟩:=hg;obtain⟨aY,rv,p,hz⟩:=I.list hq;obtain⟨u,hu,ru⟩:=rv.get hx;have hi:i<aY.toArray.size:=(zC.mp hu).1
  have W:=WalksT.enumerate (prog:=X.prog) (w:=X.w) (A:=X.A) (I.ok.hd hc) e it a hei hae hai aY.toArray;refine W.item i s _ _ hi #[st.1,st.2,p.isList] λT vals h' tk hP hT ht mid k1=>?_
  obtain⟨t,y,hy,rfl⟩:=hP;cases toA hu hy;have hw:∀b∈[e,it],Yu X aA H b:=hf
  have I1:Inv X aA σ (upd H T (.tup [.int (i:Int),x])) { s with heap:=h',toks:=tk }:=Mo I k1 hw hT ht (.cons #[t,rfl] (.cons ru .nil)) (show 2<=sizeLine from VH ⋯)
  have neT:∀b∈[e,it],b≠T:=λb hb z=>W.apart i T h' mid (z ▸ hb)
  have hf1:∀b∈[e,it],Yu X aA (upd H T (.tup [.int (i:Int),x])) b:=λb hb=>#[by rw[ZV (neT b hb)];exact(hf b hb).1,(hf b hb).2]
  refine#[.ref T,rfl,W.go aO kk tp i T _ _ _ mid λh2 st2 k2=>?_];have I2:Inv X aA σ (upd H T (.tup [.int (i:Int),x])) { s with heap:=h2,toks:=tk }:=Ti (s:={ s with heap:=h',toks:=tk }) (t':=tk) I1 k2 hf1;exact#[.ref T,_,I2,rfl,#[T,x,rfl,I.hok.fresh hT,rfl,λys hy=>by rw[I.list_inj hy hq];exact hx],#[st2.1,st2.2.1],λb hb=>(hf1 b hb).1]
 done:=by
  intro X hP hw hK hc i aA s σ H E I hf st hg;subst hP hw hK;obtain⟨xs,hq,hx⟩:=hg;obtain⟨aY,rv,p,hz⟩:=I.list hq;have W:=WalksT.enumerate (prog:=X.prog) (w:=X.w) (A:=X.A) (I.ok.hd hc) e it a hei hae hai aY.toArray
  have hi:i=aY.toArray.size:=by rw[zI,<- rv.length];exact hx.symm
  subst hi;exact W.done s _ _ #[st.1,st.2,p.isList] λh' tk k1=>#[rfl,Ti (t':=tk) I k1 hf]
 self:=λA i s Q E st h=>by
  obtain⟨⟨old,he⟩,_⟩:=st;exact wpAny_pyIter_enum he h
def OI (K:Fg)(ta:TA):TI:=λσ H R=>ta σ H λvs H1=>∃a,vs=[.ref a]/\(∃xs,SqL K H1 a xs)/\R (Ite K a) H1
theorem Qz {a:Expr}{ta:TA}{p pos tp:Pos}{aO:List Expr}{kk:Nat}(hg:Gl X "enumerate")(hm:X.mg "enumerate"=none)(hv:bootBuiltins "enumerate"=some (.type "enumerate"))(ha:PA X [a] ta)(hs:starEach [a] X.env=[(false,eval a X.env)]:=by rfl):
  PI X (.Tuple aO kk tp) (.Call (.Name "enumerate" p) [a] [] pos) (OI X.K ta):=by
 intro aA s σ H R I h;refine Call_ (Wx I hg hm hv (PyProof.Rows.callWith_type1 (thn (ha pos aA s σ H _ I h) λus s1 #[vs,H1,I1,r1,q1]=>?_) hs rfl));obtain⟨l,e,⟨xs,hq⟩,q⟩:=q1;subst e;cases r1 with
 | cons r rr=>
  cases rr;cases r;obtain⟨aY,rv,pl,hz⟩:=I1.list hq;have hll:l<s1.heap.objs.size:=by
   obtain⟨o,e,_⟩:=pl.isList;exact Heap.lt_size e
  refine call_enumerate_list pl.isList λh' he hit hsz hk=>?_
  have I2:Inv X aA σ H1 { s1 with heap:=h' }:=I1.kept (t':=s1.toks) hk;refine wpAny_pyIter_enum he #[s1.heap.objs.size+1,[s1.heap.objs.size+1,s1.heap.objs.size],_,_,H1,rfl,I2,GN l _ _ (Nat.succ_ne_self _) (zN (Nat.lt_succ_of_lt hll)) (zN hll),#[#[_,he],hit],λb hb=>?_,q];exact mem2 hb (I1.fpOk (wF _) (I1.hok.fresh (wF _))) (I1.fpOk (zA _) (I1.hok.fresh (zA _)))
inductive YldZ (K:Fg)(a b:Addr)(i:Nat)(H:Hp)(x:V)(H':Hp):Prop
 | mk (T:Addr) (v u:V) (c:x=.ref T) (d:H T=none) (e:H'=upd H T (.tup [v,u])) (f:∀xs,SqL K H a xs->xs[i]?=some v) (g:∀ys,SqL K H b ys->ys[i]?=some u):YldZ K a b i H x H'
def Itz (K:Fg)(a b:Addr):It:=
  #[λi H=>∃xs ys x y,SqL K H a xs/\SqL K H b ys/\xs[i]?=some x/\ys[i]?=some y,
   YldZ K a b,
   λi H=>∃xs ys,SqL K H a xs/\SqL K H b ys/\min xs.length ys.length=i]
theorem Jw {P:Program}{w:World}{K:Fg}{aO:List Expr}{kk:Nat}{tp:Pos}(a b z TI TO i1 i2:Addr)(D:ZipApart z TI TO i1 i2 a b):
  W9 P w K (.Tuple aO kk tp) (Itz K a b) [z,TI,TO,i1,i2] z (λi h=>IsZip h z TI TO .none/\IsPair h TI (.ref i1) (.ref i2)/\(∃p q,IsPair h TO p q)/\h.IsListIter i1 a i/\h.IsListIter i2 b i) where
 mem:=by simp
 obj:=λi h st c hc=>by
  obtain⟨hz,hTI,⟨p,q,hTO⟩,⟨o1,e1,c1,d1⟩,o2,e2,c2,d2⟩:=st;refine mem5 (P:=λb=>∃o,h.get? b=some o/\∀v,o.data≠.cell v) hc ?_ ?_ ?_ ?_ ?_
  .exact#[_,hz,λv y=>by cases y]
  .exact#[_,hTI,λv y=>by cases y]
  .exact#[_,hTO,λv y=>by cases y]
  .exact#[o1,e1,λv y=>by rw[d1] at y;cases y]
  .exact#[o2,e2,λv y=>by rw[d2] at y;cases y]
 keep:=λi h h' #[hz,hTI,#[p,q,hTO],h1,h2] k=>#[k z (.head _) _ hz,k TI (.tail _ (.head _)) _ hTI,#[p,q,k TO (.tail _ (.tail _ (.head _))) _ hTO],h1.at λo x=>k i1 (.tail _ (.tail _ (.tail _ (.head _)))) o x,h2.at λo x=>k i2 (.tail _ (.tail _ (.tail _ (.tail _ (.head _))))) o x]
 item:=by
  intro X hP hw hK hc i aA s σ H E I hf st hg;subst hP hw hK;obtain⟨xs,ys,x,y,hq,hq2,hx,hy⟩:=hg;obtain⟨aY,rv,p,_⟩:=I.list hq;obtain⟨jts,rv2,p2,_⟩:=I.list hq2;obtain⟨u,hu,ru⟩:=rv.get hx;obtain⟨u2,hu2,ru2⟩:=rv2.get hy;have hi:i<min aY.toArray.size jts.toArray.size:=Nat.lt_min.mpr #[(zC.mp hu).1,(zC.mp hu2).1]
  have W:=WalksT.zip2 (prog:=X.prog) (w:=X.w) (A:=X.A) (I.ok.hd hc) z TI TO i1 i2 a b D aY.toArray jts.toArray;obtain⟨s1,s2,s3,s4,s5⟩:=st;refine W.item i s _ _ hi #[s1,s2,s3,s4,s5,p.isList,p2.isList] λT vals h' tk hP hT ht mid k1=>?_
  obtain⟨v1,v2,hv1,hv2,rfl⟩:=hP;cases toA hu hv1;cases toA hu2 hv2;have sub:∀c∈[z,TO,i1,i2],c∈[z,TI,TO,i1,i2]:=λc hc=>((tF TI _).cons₂ z).subset hc
  have I1:Inv X aA σ (upd H T (.tup [x,y])) { s with heap:=h',toks:=tk }:=Mo I k1 (λc hc=>hf c (sub c hc)) hT ht (.cons ru (.cons ru2 .nil)) (show 2<=sizeLine from VH ⋯)
  have tiT:TI≠T:=λq=>by
   have hl:TI<s.heap.objs.size:=Heap.lt_size s2;rw[q] at hl;exact absurd (zV hl hT) (yW _)
  have neT:∀c∈[z,TI,TO,i1,i2],c≠T:=λc hc q=>((zT.mp hc).elim (λe=>Or.inr (e ▸ .head _)) λh=>(zT.mp h).imp_right (.tail z)).elim (λe=>tiT (e.symm.trans q)) λh=>W.apart i T h' mid (q ▸ h)
  have hf1:∀c∈[z,TI,TO,i1,i2],Yu X aA (upd H T (.tup [x,y])) c:=λc hc=>#[by rw[ZV (neT c hc)];exact(hf c hc).1,(hf c hc).2]
  refine#[.ref T,rfl,W.go aO kk tp i T _ _ _ mid λh2 st2 k2=>?_];have I2:Inv X aA σ (upd H T (.tup [x,y])) { s with heap:=h2,toks:=tk }:=Ti (s:={ s with heap:=h',toks:=tk }) (t':=tk) I1 k2 λc hc=>hf1 c (sub c hc)
  obtain⟨t1,t2,t3,t4,t5,_,_⟩:=st2;exact#[.ref T,_,I2,rfl,#[T,x,y,rfl,I.hok.fresh hT,rfl,λzs hz=>by rw[I.list_inj hz hq];exact hx,λzs hz=>by rw[I.list_inj hz hq2];exact hy],#[t1,t2,t3,t4,t5],λc hc=>(hf1 c hc).1]
 done:=by
  intro X hP hw hK hc i aA s σ H E I hf st hg;subst hP hw hK;obtain⟨xs,ys,hq,hq2,hx⟩:=hg;obtain⟨aY,rv,p,_⟩:=I.list hq;obtain⟨jts,rv2,p2,_⟩:=I.list hq2;have W:=WalksT.zip2 (prog:=X.prog) (w:=X.w) (A:=X.A) (I.ok.hd hc) z TI TO i1 i2 a b D aY.toArray jts.toArray
  have hi:i=min aY.toArray.size jts.toArray.size:=by rw[zI,zI,<- rv.length,<- rv2.length];exact hx.symm
  subst hi;obtain⟨s1,s2,s3,s4,s5⟩:=st;exact W.done s _ _ #[s1,s2,s3,s4,s5,p.isList,p2.isList] λh' tk k1=>#[rfl,Ti (t':=tk) I k1 λc hc=>hf c (((tF TI _).cons₂ z).subset hc)]
 self:=λA i s Q E st h=>wpAny_pyIter_zip st.1 h
theorem BC {n l m:Nat}(h1:l<n)(h2:m<n):ZipApart (n+4) (n+2) (n+3) n (n+1) l m:=by
 have ne:∀ {i j:Nat},i<j\/j<i->i≠j:=λ{i j} h z=>by omega
 exact#[ne (by omega),ne (by omega),ne (by omega),ne (by omega),ne (by omega),ne (by omega),ne (by omega),ne (by omega),ne (by omega),ne (by omega),ne (by omega),ne (by omega),ne (by omega),ne (by omega),ne (by omega),ne (by omega),ne (by omega),ne (by omega)]
def iZip (K:Fg)(ta:TA):TI:=λσ H R=>ta σ H λvs H1=>∃a b,vs=[.ref a,.ref b]/\(∃xs,SqL K H1 a xs)/\(∃ys,SqL K H1 b ys)/\R (Itz K a b) H1
theorem Q6 {a b:Expr}{ta:TA}{p pos tp:Pos}{aO:List Expr}{kk:Nat}(hg:Gl X "zip")(hm:X.mg "zip"=none)(hv:bootBuiltins "zip"=some (.type "zip"))(ha:PA X [a,b] ta)
  (hs:starEach [a,b] X.env=[(false,eval a X.env),(false,eval b X.env)]:=by rfl)(hs2:starEach [b] X.env=[(false,eval b X.env)]:=by rfl):PI X (.Tuple aO kk tp) (.Call (.Name "zip" p) [a,b] [] pos) (iZip X.K ta):=by
 intro aA s σ H R I h;refine Call_ (Wx I hg hm hv (PyProof.Rows.callWith_type1 (thn (ha pos aA s σ H _ I h) λus s1 #[vs,H1,I1,r1,q1]=>?_) (by rw[hs,hs2]) (by rw[hs2];rfl)));obtain⟨l,m,e,⟨xs,hq⟩,⟨ys,hq2⟩,q⟩:=q1;subst e;cases r1 with
 | cons r rr=>
  cases rr with
  | cons r2 rr=>
   cases rr;cases r;cases r2;obtain⟨aY,rv,pl,_⟩:=I1.list hq;obtain⟨jts,rv2,pl2,_⟩:=I1.list hq2;have h1:l<s1.heap.objs.size:=by
    obtain⟨o,e,_⟩:=pl.isList;exact Heap.lt_size e
   have h2:m<s1.heap.objs.size:=by
    obtain⟨o,e,_⟩:=pl2.isList;exact Heap.lt_size e
   refine call_zip_2 pl.isList pl2.isList λh' hz hTI hTO hi1 hi2 hsz hk=>?_
   have I2:Inv X aA σ H1 { s1 with heap:=h' }:=I1.kept (t':=s1.toks) hk
   have D:=BC h1 h2;refine wpAny_pyIter_zip hz #[s1.heap.objs.size+4,[s1.heap.objs.size+4,s1.heap.objs.size+2,s1.heap.objs.size+3,s1.heap.objs.size,s1.heap.objs.size+1],_,_,H1,rfl,I2,Jw l m _ _ _ _ _ D,#[hz,hTI,#[_,_,hTO],hi1,hi2],λc hc=>?_,q];have hge:s1.heap.objs.size<=c:=mem5 hc (vK ..) (vK ..) (vK ..) (zA _) (vK ..);exact I1.fpOk hge (I1.hok.fresh hge)
section
variable {X:Cx}{Z:Zx}{pos:Pos}
@[irreducible] def Tt (is:List Nat)(ta:TDA)(tb:TDS):TDS:=λE dl S=>ta dl S λds S1=>match ds with
 | [.ref n]=>(lAt S1 n).isSome=true/\∃W:Nat->Nat->Ev->Sto->Prop,(∃m,W 0 m dl S1)/\∀k m dl S,W k m dl S->match lAt S n with
  | some o=>match (Zk o)[k]? with
   | some x=>tb { nx:=λdl' S'=>∃m',m'<m/\W (k+1) m' dl' S',rt:=E.rt,bk:=E.nx,ct:=λdl' S'=>∃m',m'<m/\W (k+1) m' dl' S' } (WN is [.int (k:Int),x] dl) S
   | none=>k=(Zk o).length/\E.nx dl S
  | none=>False
 | _=>False
theorem XE {r r':List Addr}{S':Sto}{H':Hp}{n:Nat}{a:Addr}{o:Ob}(hn:r'[n]?=some a)(bA:Z2 X.K r' S' H')(eo:lAt S' n=some o):∃xs,SqL X.K H' a xs/\Rps r' H' (Zk o) xs:=by
 obtain⟨eo,eL⟩:=Y3 eo;obtain⟨a',ha,ob⟩:=bA.at eo;rw[hn] at ha;cases ha
 exact ob.list eL
theorem Ue {aW:Expr}{body:List Stmt}{es:List Expr}{kk:Nat}{tp p aM:Pos}{is:List Nat}{ta:TDA}{tb:TDS}(hp:PassesOwn (mX X) X.A X.env X.xe)(hc:X.calm=true)(hN:X.N.Nodup)(hn:Nms X es is)(h2:is.length=2)
  (hg:Gl X "enumerate")(hm:X.mg "enumerate"=none)(hv:bootBuiltins "enumerate"=some (.type "enumerate"))(ha:PDA X Z [aW] ta)(hb:YB X Z body tb)
  (aQ:(assignEach es X.env).length=is.length:=by rfl)(hst:(assignEach es X.env).findIdx? (·.1)=none:=by rfl)(hse:starEach [aW] X.env=[(false,eval aW X.env)]:=by rfl)
  (hs:∀y,foldedSetIterable (.Call (.Name "enumerate" p) [aW] [] aM) X.env y=pure y:=by intro _;rfl):PDS X Z (.For (.Tuple es kk tp) (.Call (.Name "enumerate" p) [aW] [] aM) body [] pos) (Tt is ta tb):=
 Yy (Vb hp hc (Qz hg hm hv ha hse) (Vd hc (WU hN hn) aQ hst) hb hs) λF σ H #[r,dl,S,E,rs,bA,h,ret]=>by
  unfold Tt at h;refine#[r,dl,S,_,rs,bA,h,λvs H1 r1 ds S1 x1 aE p1 q1=>?_];split at q1
  .rename_i n;obtain⟨v,vs',rfl,p2,p3⟩:=p1.uncons;have z:=p3.unnil;subst z;cases p2 with
   | @ref n a hr=>
    obtain⟨aV,W,⟨m0,w0⟩,turn⟩:=q1;obtain⟨o1,eo1⟩:=yX.mp aV;obtain⟨xs1,sq1,_⟩:=XE (r:=r1) hr aE.b eo1;refine#[a,rfl,#[xs1,sq1],Va x1 rs aE ret W w0 λk m r2 dl2 S2 σ2 H2 x2 rs2 aF w2=>?_];have q:=turn k m dl2 S2 w2;split at q
    .rename_i o eo;obtain⟨xs,sq,pr⟩:=XE (r:=r2) (x2.adr _ _ hr) aF.b eo;split at q
     .rename_i y ey;obtain⟨v,hvv,pv⟩:=pr.get ey;refine .inr #[#[xs,v,sq,hvv],_,λ_ _ z=>z,λv' H' y' K hK=>?_];obtain⟨T,w,rfl,hT,rfl,hw⟩:=y';cases (hw xs sq).symm.trans hvv;have x3:=V9 (r:=r2) (o:=.tup [.int (k:Int),v]) hT;exact#[T,[.int (k:Int),v],rfl,SqT.of Yz,by rw[h2];rfl,by rw[h2];rfl,hK _ _ _ x3 (RN (rs2.ext x3) (Rps.cons (.int _) (Rps.cons (pv.ext x3) Rps.nil))) (aF.same (Xk hT)) q]
     .obtain⟨hk,q⟩:=q;exact .inl #[#[xs,sq,by rw[<- pr.1];exact hk.symm],q]
    .exact q.elim
  .exact q1.elim
@[irreducible] def Tu (is:List Nat)(ta:TDA)(tb:TDS):TDS:=λE dl S=>ta dl S λds S1=>match ds with
 | [.ref n,.ref n']=>((lAt S1 n).isSome=true/\(lAt S1 n').isSome=true)/\∃W:Nat->Nat->Ev->Sto->Prop,(∃m,W 0 m dl S1)/\∀k m dl S,W k m dl S->match lAt S n,lAt S n' with
  | some o,some o'=>match (Zk o)[k]?,(Zk o')[k]? with
   | some x,some y=>tb { nx:=λdl' S'=>∃m',m'<m/\W (k+1) m' dl' S',rt:=E.rt,bk:=E.nx,ct:=λdl' S'=>∃m',m'<m/\W (k+1) m' dl' S' } (WN is [x,y] dl) S
   | _,_=>k=min (Zk o).length (Zk o').length/\E.nx dl S
  | _,_=>False
 | _=>False
theorem Bg {i1 i2:Expr}{body:List Stmt}{es:List Expr}{kk:Nat}{tp p aM:Pos}{is:List Nat}{ta:TDA}{tb:TDS}(hp:PassesOwn (mX X) X.A X.env X.xe)(hc:X.calm=true)(hN:X.N.Nodup)(hn:Nms X es is)(h2:is.length=2)
  (hg:Gl X "zip")(hm:X.mg "zip"=none)(hv:bootBuiltins "zip"=some (.type "zip"))(ha:PDA X Z [i1,i2] ta)(hb:YB X Z body tb)
  (aQ:(assignEach es X.env).length=is.length:=by rfl)(hst:(assignEach es X.env).findIdx? (·.1)=none:=by rfl)(hse:starEach [i1,i2] X.env=[(false,eval i1 X.env),(false,eval i2 X.env)]:=by rfl)(hse2:starEach [i2] X.env=[(false,eval i2 X.env)]:=by rfl)
  (hs:∀y,foldedSetIterable (.Call (.Name "zip" p) [i1,i2] [] aM) X.env y=pure y:=by intro _;rfl):PDS X Z (.For (.Tuple es kk tp) (.Call (.Name "zip" p) [i1,i2] [] aM) body [] pos) (Tu is ta tb):=
 Yy (Vb hp hc (Q6 hg hm hv ha hse hse2) (Vd hc (WU hN hn) aQ hst) hb hs) λF σ H #[r,dl,S,E,rs,bA,h,ret]=>by
  unfold Tu at h;refine#[r,dl,S,_,rs,bA,h,λvs H1 r1 ds S1 x1 aE p1 q1=>?_];split at q1
  .rename_i n n';obtain⟨v,vs',rfl,p2,p3⟩:=p1.uncons;obtain⟨v',vs2,rfl,p4,p5⟩:=p3.uncons;have z:=p5.unnil;subst z;cases p2 with
   | @ref n a hr=>
    cases p4 with
    | @ref n' a' hr'=>
     obtain⟨⟨aV,hsome'⟩,W,⟨m0,w0⟩,turn⟩:=q1;obtain⟨o1,eo1⟩:=yX.mp aV;obtain⟨o2,eo2⟩:=yX.mp hsome';obtain⟨xs1,sq1,_⟩:=XE (r:=r1) hr aE.b eo1;obtain⟨ys1,sq2,_⟩:=XE (r:=r1) hr' aE.b eo2;refine#[a,a',rfl,#[xs1,sq1],#[ys1,sq2],Va x1 rs aE ret W w0 λk m r2 dl2 S2 σ2 H2 x2 rs2 aF w2=>?_];have q:=turn k m dl2 S2 w2;split at q
     .rename_i o o' eo eo';obtain⟨xs,sq,pr⟩:=XE (r:=r2) (x2.adr _ _ hr) aF.b eo;obtain⟨ys,sq',pr'⟩:=XE (r:=r2) (x2.adr _ _ hr') aF.b eo';split at q
      .rename_i y y2 ey ey2;obtain⟨v,hvv,pv⟩:=pr.get ey;obtain⟨u,hvu,pu⟩:=pr'.get ey2;refine .inr #[#[xs,ys,v,u,sq,sq',hvv,hvu],_,λ_ _ z=>z,λv' H' y' K hK=>?_];obtain⟨T,w,w2',rfl,hT,rfl,hw,hw2⟩:=y';cases (hw xs sq).symm.trans hvv;cases (hw2 ys sq').symm.trans hvu;have x3:=V9 (r:=r2) (o:=.tup [v,u]) hT;exact#[T,[v,u],rfl,SqT.of Yz,by rw[h2];rfl,by rw[h2];rfl,hK _ _ _ x3 (RN (rs2.ext x3) (Rps.cons (pv.ext x3) (Rps.cons (pu.ext x3) Rps.nil))) (aF.same (Xk hT)) q]
      .obtain⟨hk,q⟩:=q;exact .inl #[#[xs,ys,sq,sq',by rw[<- pr.1,<- pr'.1];exact hk.symm],q]
     .exact q.elim
  .exact q1.elim
end
section
variable {X:Cx}{Z:Zx}{pos:Pos}
end
structure Dm (K:Fg)(C:Addr)(m qual:Str)(st:Stmt)(ps:List Str) where
 f:Addr
 fd:FuncData
 F:Fun K m qual st f fd
 m:W0 K C m f
 b:YK K fd ps []
structure Fm (P:Program)(w:World)(K:Fg)(mg:Str->Option Value)(base:Heap)(k:Nat)(C:Addr)(x:Str)(ps:List Str)(sd:Sd) where
 f:Addr
 fd:FuncData
 ok:Yk P w K mg base (CXE P w) k f fd ps (upF K sd)
 m:W0 K C x f
 b:YK K fd ps []
def Dm.mk' {P:Program}{w:World}{K:Fg}{mg:Str->Option Value}{base:Heap}{k:Nat}{C:Addr}{x qual:Str}{st:Stmt}{ps:List Str}{sd:Sd}(d:Dm K C x qual st ps)(h:Yk P w K mg base (CXE P w) k d.f d.fd ps (upF K sd)):Fm P w K mg base k C x ps sd:=
 #[d.f,d.fd,h,d.m,d.b]
theorem Vk:TX (CXE P w) X (λ_ _ _=>False):=λ_ _ _ _ _ _ _ h=>by
 obtain⟨_,_,_,_,_,_,_,_,_,_,_,_,q⟩:=h;exact q.elim
theorem Qj (hr:ZI k X.A):OpR X (compareOp .NotIn) (upO X.K Z (YM (wIn 1 true))):=by rw[Xq];exact ES 1 (by have:=hr.un;omega)
def UG:W2:=λx y S Q=>match x,y with
 | .ref n,.ref m=>match S[n]?,S[m]? with
  | some (.lst xs),some (.lst ys)=>xs.length+ys.length<=1000/\Q (.ref S.length) (S++[.lst (xs++ys)])
  | _,_=>False
 | _,_=>False
theorem Rps.app {r:List Addr}{H:Hp}:∀ {ds es:List D} {xs ys:List V},Rps r H ds xs->Rps r H es ys->Rps r H (ds++es) (xs++ys)
 | [],es,xs,ys,p,q=>by
  have z:=p.unnil;subst z;exact q
 | d::ds,es,xs,ys,p,q=>by
  obtain⟨v,vs,rfl,p1,p2⟩:=p.uncons;exact Rps.cons p1 (p2.app q)
theorem Rh:OpR X (binaryOp .Add) (upO X.K Z (YM UG)):=by
 rw[Xq];exact Vh E1 λx y H Qv #[r,S,dx,dy,Q,bA,px,py,q,ret]=>by
  unfold UG at q;split at q
  .rename_i n m;split at q
   .rename_i xs ys e1 e2;obtain⟨hl,q⟩:=q;cases px with
    | @ref _ a hn=>
     cases py with
     | @ref _ a' hm=>
      obtain⟨z,hz,ob⟩:=bA.at e1;rw[hn] at hz;cases hz
      obtain⟨z,hz,ob'⟩:=bA.at e2;rw[hm] at hz;cases hz
      obtain⟨us,h1,p1⟩:=ob;obtain⟨vs,h2,p2⟩:=ob';refine#[a,a',us,vs,rfl,rfl,h1,h2,?_,λp hp=>?_]
      .rw[<- p1.1,<- p2.1];exact VH hl
      .obtain⟨aH,x⟩:=bA.push hp (p1.app p2);exact ret _ _ _ (.ref S.length) _ x aH (W3 bA.len) q
   .exact q.elim
  .exact q.elim
theorem Te (h1:S[n]?=some (.lst xs))(h2:S[m]?=some (.lst ys))(hl:xs.length+ys.length<=1000)(hq:Q (.ref S.length) (S++[.lst (xs++ys)])):YM UG (.ref n) (.ref m) S Q:=by
 rw[Xq];unfold UG;simp only[h1,h2];exact#[hl,hq]
def MT (X:Cx)(m:Str)(tbl:List (Addr×Sd)):Prop:=∀C sd,(C,sd)∈tbl->Cls X.K C/\∃(f:Addr)(fd:FuncData)(k:Nat)(ps:List Str),W0 X.K C m f/\Yk X.prog X.w X.K X.mg X.base (CXE X.prog X.w) k f fd ps (upF X.K sd)/\ZI k X.A/\YK X.K fd ps []
theorem Pq:MT X m []:=λ_ _ h=>by cases h
theorem YR (c:Cls X.K C)(G:Fm X.prog X.w X.K X.mg X.base k C m ps sd)(hr:ZI k X.A)(h:MT X m tbl):MT X m ((C,sd)::tbl):=λC' sd' hm=>by
 rcases zT.mp hm with e|e
 .cases e;exact#[c,G.f,G.fd,k,ps,G.m,G.ok,hr,G.b]
 .exact h C' sd' e
theorem Bl (he:PE X o ta)(M:MT X m tbl)(hx:XG X W)(ha:PA X (e::es) t)(hst:starEach (e::es) X.env=(false,eval e X.env)::starEach es X.env)(hpl:Hp1 X pos es)(ht:eval (.Call (.Attribute o m aL) (e::es) [] pos) X.env=(do
   let ov <- eval o X.env
   standAt aL.atName
   let (f,first) <- holding [ov] (getMethod ov m pl)
   callWith pos f first (backTo pos (starEach (e::es) X.env)) (backToKw pos (keywordEach [] X.env)))):
  PE X (.Call (.Attribute o m aL) (e::es) [] pos) (λσ H Q=>ta σ H λx H1=>∃a C dx fs sd,x=.ref a/\H1 a=some (.ins C dx fs)/\(C,sd)∈tbl/\fs.lookup m=none/\t σ H1 λvs H2=>upF X.K sd (x::vs) H2 Q (W σ)):=by
 intro aA s σ H Q I h;refine PySem.W.methodCall_KW (thn (he aA s σ H _ I h) λu s1 #[x,H1,I1,rx,a,C,dx,fs,sd,ex,ea,hm',l,q]=>?_) ht;subst ex;obtain rfl:u=Value.ref a:=rx;obtain⟨c,f,fd,k,ps,hm,F,hr,hb⟩:=M C sd hm';refine PM I1 ea c hm l ?_;exact PySem.W.callWith_K I.ok.mod.kin hm.kp (thn (ha pos aA s1 σ H1 _ I1 q) λus s2 #[vs,H2,I2,r,q2]=>#[I2.kIn,To (vs:=.ref a::vs) F hr hb hx I2 (.cons rfl r) q2]) hst hpl
@[irreducible] def RD (tbl:List (Addr×Sd))(m:Str)(ex:Ev->Addr->Sto->Prop)(to:TDE)(t:TDA):TDE:=λdl S Q=>to dl S λd S1=>∃n C fs sd,d=.ref n/\S1[n]?=some (.ins C fs)/\(C,sd)∈tbl/\fs.lookup m=none/\t dl S1 λds S2=>sd (d::ds) S2 Q (ex dl)
theorem QJ (ho:PD X #[ex,W] o to)(M:MT X m tbl)(hx:XG X W)(ha:PDA X #[ex,W] (e::es) t)(hst:starEach (e::es) X.env=(false,eval e X.env)::starEach es X.env:=by rfl)(hpl:Hp1 X pos es:=by rfl)(ht:eval (.Call (.Attribute o m aL) (e::es) [] pos) X.env=(do
   let ov <- eval o X.env
   standAt aL.atName
   let (f,first) <- holding [ov] (getMethod ov m pl)
   callWith pos f first (backTo pos (starEach (e::es) X.env)) (backToKw pos (keywordEach [] X.env))):=by rfl):PD X #[ex,W] (.Call (.Attribute o m aL) (e::es) [] pos) (RD tbl m ex to t):=
 Z6 (Bl ho M hx ha hst hpl ht) λσ H Qv #[r,dl,S,Q,rs,bA,h,ret]=>by
  unfold RD at h;refine#[r,dl,S,_,rs,bA,h,λv H1 r1 d S1 e1 aE p1 q1=>?_];obtain⟨n,C,fs,sd,rfl,eS,hm,hl,q1⟩:=q1;obtain⟨a,dx,fs',rfl,hr1,eH,fr⟩:=PR (C:=C) (n:=n) (fs:=fs) aE.b p1 (by simp only[X1,eS,if_pos]);exact#[a,C,dx,fs',sd,rfl,eH,hm,fr.lookup.2 hl,r1,dl,S1,_,rs.ext e1,aE,q1,λvs H2 r2 ds S2 e2 aF p2 q2=>RC (rs.ext (e1.trans e2)) aF (Rps.cons (p1.ext e2) p2) q2 (ret.ext (e1.trans e2))]
theorem Qx {tbl:List (Addr×Sd)}{C:Addr}{m:Str}{ex:Ev->Addr->Sto->Prop}{sd:Sd}{to:TDE}{t:TDA}{dl:Ev}{S S1:Sto}{Q:DK}{n:Nat}{fs:List (Str×D)}(hto:∀K:DK,K (.ref n) S1->to dl S K)(h:S1[n]?=some (.ins C fs))(hm:(C,sd)∈tbl)(hf:fs.lookup m=none)(hq:t dl S1 λds S2=>sd (.ref n::ds) S2 Q (ex dl)):RD tbl m ex to t dl S Q:=by
 unfold RD;exact hto _ #[n,C,fs,sd,rfl,h,hm,hf,hq]
structure Kx (K:Fg)(C:Addr):Prop where
 cl:Cls K C
 ha:W.findIn K (.ref C) "__class__"=some (some (.builtin "object.__class__"))
 hn:W.specialIn K (.builtin "object.__class__") "__get__"=some (some (.builtin "getset_descriptor.__get__"))
 ht:W.takesIn K (.builtin "object.__class__")=some true
 hm:W.mroIn K C (.type "object")=some true
section
variable {X:Cx}{Z:Zx}
end
section
variable {n:Nat}{I:Addr}{fp wr:List Addr}{P:Nat->Value->Prop}{St:Nat->Shared->Prop}{prog:Program}{w:World}{A:Around}{s:Shared}{E:Value->Shared->Prop}{G:Array GenState->Array GenState->Prop}
end
section
variable {X:Cx}{Z:Zx}
end
def Rz (k:Nat)(caps:List Nat)(wi:TI)(gt:TG)(te:TE):TE:=λσ H Q=>wi σ H λJ H1=>∀D,H1 D=none->∃W:Nat->Nat->Hp->Prop,(∃m,W 0 m (upd H1 D (.lst [])))/\∀i m H,W i m H->
 (J.stop i H/\Q (.ref D) H)\/(J.go i H/\∀x H',J.yld i H x H'->∀o:St,o.length=k->gt x (o++Yl caps σ) H' λσ8 H8=>(∃o8:St,o8.length=k/\σ8=o8++Yl caps σ)/\
  te σ8 H8 λy H3=>∃ys,H3 D=some (.lst ys)/\ys.length<sizeLine/\∃m',m'<m/\W (i+1) m' (upd H3 D (.lst (ys++[y]))))
section
variable {X:Cx}{aA:LA}{σ:St}{H:Hp}{s:Shared}
end
theorem Ot (hc:X.calm=true)(cs:XF sc X.env.scope own N)(hN:∀(j:Nat)(y:Str),N[j]?=some y->∃i,caps[j]?=some i/\X.N[i]?=some y)(aQ:caps.length=N.length)(hi:PI X (.Tuple aO kk tp) aW wi)(hg:∀cl C s0 H0 fp pn,PG (Cx.comp X sc (own++N) cl C s0 H0 fp pn) (.Tuple aO kk tp) gt)(he:∀cl C s0 H0 fp pn,PE (Cx.comp X sc (own++N) cl C s0 H0 fp pn) aX te)(hs:∀y,foldedSetIterable aW X.env y=pure y)(I:Inv X aA σ H s)(h:Rz own.length caps wi gt te σ H Q)(aZ:∀D C s',UW X aA σ C Q D s'->compPost (mX X) X.A X.xe use Qr (.ref D) C (.ok .next) s'):
  wpAny (mX X) X.A (comprehension (.ListComp aX [#[.Tuple aO kk tp,aW,[],0]] sc pos) sc X.env p2 (newList []) false (eval aW X.env) use) Qr X.xe s:=
 Ph hc cs hN aQ hi hg he (λ_ _ _ _ _ _=>MQ) hs I h (λ_ _ b=>b) aZ
theorem GA (hc:X.calm=true)(cs:XF sc X.env.scope own N)(hN:Hn X caps N)
  (hi:PI X (.Tuple aO kk tp) aW wi)(hg:∀cl C s0 H0 fp pn,PG (Cx.comp X sc (own++N) cl C s0 H0 fp pn) (.Tuple aO kk tp) gt)(he:∀cl C s0 H0 fp pn,PE (Cx.comp X sc (own++N) cl C s0 H0 fp pn) aX te)
  (hs:∀y,foldedSetIterable aW X.env y=pure y:=by intro _;rfl):PE X (.ListComp aX [#[.Tuple aO kk tp,aW,[],0]] sc pos) (Rz own.length caps wi gt te):=by
 intro aA s σ H Q I h;refine Ot hc cs (Xi hN).1 (Xi hN).2 hi hg he hs I h λD C s' f=>?_
 obtain⟨⟨H',I',q,hC⟩,⟨m,ns⟩,l,o,c,p⟩:=f;exact#[m,ns,λh' sb=>#[.ref D,H',I'.turned (λb ob hb e=>(sb.2 b hb).trans e) hC l (.inr o) c p,rfl,q]]
section
variable {X:Cx}{Z:Zx}{aX:Expr}{pos:Pos}{sc ar:Scope}{N:List Str}{caps:List Nat}
def Ia (caps:List Nat)(te:TDE)(k:Nat)(dl:Ev)(d1 d2:D)(S:Sto)(nx:Sto->Prop):Prop:=
 te (some d1::some d2::Yd caps dl) S λy S2=>match S2[k]? with
  | some (.lst ys)=>ys.length<1000/\nx (S2.set k (.lst (ys++[y])))
  | _=>False
theorem Na {r:List Addr}{H:Hp}{dl:Ev}{σ:St}{d1 d2:D}{v1 v2:V}(h:Rs r H dl σ)(p1:Rp r H d1 v1)(p2:Rp r H d2 v2):Rs r H (some d1::some d2::Yd caps dl) (some v1::some v2::Yl caps σ):=by
 have z:=QA (caps:=caps) h p2;refine#[by have:=z.1;simp only[yE] at this ⊢;omega,λi e hi=>?_];cases i with
 | zero=>simp at hi;subst hi;exact#[v1,rfl,p1]
 | succ i=>exact z.2 i e (by simpa using hi)
end
def Ro:WC:=λds S Q=>match ds with
 | [.ref n]=>match lAt S n with
  | some o=>match Y7 (Zk o) with
   | some ns=>Q (.int ns.sum) S
   | none=>False
  | none=>False
 | _=>False
theorem Ts (hc:X.calm=true):Yx X (.builtin "sum") (upC X.K Z Ro):=by
 intro aA s σ H xs us Qv I rv h;obtain⟨r,S,ds,Q,bA,ps,q,ret⟩:=h;unfold Ro at q;split at q
 .rename_i n;obtain⟨v,vs,rfl,p1,p2⟩:=ps.uncons;have z:=p2.unnil;subst z;split at q
  .rename_i o eo;split at q
   .rename_i ns en;cases p1 with
    | ref h1=>
     obtain⟨eo,eL⟩:=Y3 eo;obtain⟨a,ha,ob⟩:=bA.at eo;rw[h1] at ha;cases ha
     obtain⟨ys,sq,pr⟩:=ob.list eL;obtain⟨u,rfl,ru⟩:=Wq rv;cases ru;obtain⟨aY,ri,pl,hz⟩:=I.list sq;obtain⟨zs,hz1,hz2⟩:=PN en pr ri;have isl:=pl.isList;rw[hz1] at isl;refine sum_intListG (I.ok.hd hc) isl λh' tk t' hk=>?_
     have e:preSum (numAt zs.toArray) zs.toArray.size=ns.sum:=by
      rw[preSum_eq,yI (by simp)];rw[hz2]
     rw[e];exact#[.int _,H,I.kept hk,#[_,rfl],ret _ _ _ _ _ Ext.refl bA (.int _) q]
   .exact q.elim
  .exact q.elim
 .exact q.elim
section
variable {X:Cx}{Z:Zx}
end
theorem RR:∀ {us:List Value} {ms:List Int},IntsAre us ms->Zz (ms.map V.int) us
 | _,_,.nil=>.nil
 | _,_,.cons n t h=>.cons #[t,rfl] (RR h)
def Sh:W2:=λx y S Q=>match x,y with
 | .ref n,.int k=>match S[n]? with
  | some (.lst xs)=>(0<=k/\k<=1000/\xs.length*k.toNat<=1000)/\Q (.ref S.length) (S++[.lst (List.replicate k.toNat xs).flatten])
  | _=>False
 | _,_=>False
theorem Rps.rep {r:List Addr}{H:Hp}{ds:List D}{xs:List V}(h:Rps r H ds xs):∀k:Nat,Rps r H (List.replicate k ds).flatten (List.replicate k xs).flatten
 | 0=>Rps.nil
 | k+1=>by
  exact h.app (Rps.rep h k)
theorem Dg:OpR X (binaryOp .Mult) (upO X.K Z (YM Sh)):=by
 rw[Xq];exact Vh Hi λx y H Qv #[r,S,dx,dy,Q,bA,px,py,q,ret]=>by
  unfold Sh at q;split at q
  .rename_i n k;split at q
   .rename_i xs e1;obtain⟨⟨h0,h1,hl⟩,q⟩:=q;cases py;cases px with
    | @ref _ a hn=>
     obtain⟨z,hz,ob⟩:=bA.at e1;rw[hn] at hz;cases hz
     obtain⟨us,g1,p1⟩:=ob;refine#[a,k,us,rfl,rfl,g1,by omega,by omega,by rw[<- p1.1];exact VH hl,λp hp=>?_];obtain⟨aH,x⟩:=bA.push hp (p1.rep k.toNat);exact ret _ _ _ (.ref S.length) _ x aH (W3 bA.len) q
   .exact q.elim
  .exact q.elim
theorem Jd (h1:S[n]?=some (.lst xs))(hk:0<=k/\k<=1000)(hl:xs.length*k.toNat<=1000)(hq:Q (.ref S.length) (S++[.lst (List.replicate k.toNat xs).flatten])):YM Sh (.ref n) (.int k) S Q:=by
 rw[Xq];unfold Sh;simp only[h1];exact#[#[hk.1,hk.2,hl],hq]
section
variable {X:Cx}{Z:Zx}{aX:Expr}{pos:Pos}{sc ar:Scope}{N:List Str}{caps:List Nat}
@[irreducible] def Ut (caps:List Nat)(ta:TDA)(te:TDE):TDE:=λdl S Q=>ta dl S λds S1=>match ds with
 | [.ref n,.ref n']=>((lAt S1 n).isSome=true/\(lAt S1 n').isSome=true)/\∃W:Nat->Nat->Sto->Prop,(∃m,W 0 m (S1++[.lst []]))/\∀k m S2,W k m S2->match lAt S2 n,lAt S2 n' with
  | some o,some o'=>match (Zk o)[k]?,(Zk o')[k]? with
   | some x,some y=>Ia caps te S1.length dl x y S2 λS3=>∃m',m'<m/\W (k+1) m' S3
   | _,_=>k=min (Zk o).length (Zk o').length/\Q (.ref S1.length) S2
  | _,_=>False
 | _=>False
theorem Ny (h:up X.K Z (Ut caps ta te) σ H Qv):
  Rz 2 caps (iZip X.K (upA X.K Z ta)) (gTup X.K 2 (gAll [0,1])) (up X.K Z0 te) σ H Qv:=by
 obtain⟨r,dl,S,Q,rs,bA,h,ret⟩:=h;unfold Ut at h;refine#[r,dl,S,_,rs,bA,h,λvs H1 r1 ds S1 x1 aE p1 q1=>?_];split at q1
 .rename_i n n';obtain⟨v,vs',rfl,p2,p3⟩:=p1.uncons;obtain⟨v',vs2,rfl,p4,p5⟩:=p3.uncons;have z:=p5.unnil;subst z;cases p2 with
  | @ref n a hr=>
   cases p4 with
   | @ref n' a' hr'=>
    obtain⟨⟨aV,hsome'⟩,W,⟨m0,w0⟩,turn⟩:=q1;obtain⟨o1,eo1⟩:=yX.mp aV;obtain⟨o2,eo2⟩:=yX.mp hsome';obtain⟨xs1,sq1,_⟩:=XE (r:=r1) hr aE.b eo1;obtain⟨ys1,sq2,_⟩:=XE (r:=r1) hr' aE.b eo2;refine#[a,a',rfl,#[xs1,sq1],#[ys1,sq2],λD0 hD=>?_];obtain⟨aF,x2⟩:=aE.b.push hD Rps.nil;refine#[λk m H'=>∃r' S',Ext (r1++[D0]) r' (upd H1 D0 (.lst [])) H'/\Z2 X.K r' S' H'/\W k m S',#[m0,_,_,Ext.refl,aF,w0],?_];rintro k m H2 ⟨r2,S2,x3,rb2,w2⟩;have ha2:r2[S1.length]?=some D0:=x3.adr _ _ (Ur aE.len)
    have hr2:r2[n]?=some a:=(x2.trans x3).adr _ _ hr
    have hr2':r2[n']?=some a':=(x2.trans x3).adr _ _ hr'
    have q:=turn k m S2 w2;split at q
    .rename_i o o' eo eo';obtain⟨xs,sq,pr⟩:=XE (r:=r2) hr2 rb2 eo;obtain⟨ys,sq',pr'⟩:=XE (r:=r2) hr2' rb2 eo';split at q
     .rename_i y y2 ey ey2;obtain⟨v,hv,pv⟩:=pr.get ey;obtain⟨u,hvu,pu⟩:=pr'.get ey2;refine .inr #[#[xs,ys,v,u,sq,sq',hv,hvu],λv' H' y' o8 ho8=>?_];obtain⟨T,w,w2',rfl,hT,rfl,hw,hw2⟩:=y';have ew:w=v:=by
       have z:=hw xs sq;rw[hv] at z;exact(Option.some.inj z).symm
      have ew2:w2'=u:=by
       have z:=hw2 ys sq';rw[hvu] at z;exact(Option.some.inj z).symm
      subst ew ew2;obtain⟨c1,c2,rfl⟩:∃c1 c2,o8=[c1,c2]:=by
       match o8,ho8 with
       | [c1,c2],_=>exact#[c1,c2,rfl]
      have x4:Ext r2 r2 H2 (upd H2 T (.tup [w,w2'])):=V9 hT
      have rb3:=rb2.same (Xk (o:=.tup [w,w2']) hT)
      have rs3:=rs.ext (x1.trans (x2.trans (x3.trans x4)));refine#[T,[w,w2'],rfl,SqT.of Yz,rfl,rfl,#[[some w,some w2'],rfl,rfl],?_];have rsY:=Na (caps:=caps) rs3 (pv.ext x4) (pu.ext x4);refine#[r2,_,S2,_,rsY,#[rb3,λ_ _ _ _ _ _ _ _ _ z=>z.elim],q,λz H4 r4 dz S4 x6 aH p4 q4=>?_];split at q4
      .rename_i ys eys;obtain⟨hl,m',hm,q4⟩:=q4;have ha4:r4[S1.length]?=some D0:=x6.adr _ _ ha2;obtain⟨zs,hD4,pz⟩:=aH.b.ob _ _ _ ha4 eys;obtain⟨rel5,x7⟩:=aH.b.set ha4 eys (pz.snoc p4);exact#[zs,hD4,by rw[<- pz.1];exact VO (yR hl),m',hm,r4,_,x3.trans (x4.trans (x6.trans x7)),rel5,q4]
      .exact q4.elim
     .obtain⟨hk,q⟩:=q;exact .inl #[#[xs,ys,sq,sq',by rw[<- pr.1,<- pr'.1];exact hk.symm],ret _ H2 r2 _ S2 (x1.trans (x2.trans x3)) #[rb2,bA.xw.ext (x1.trans (x2.trans x3))] (.ref ha2) q]
    .exact q.elim
 .exact q1.elim
theorem RQ (har:X.env.scope=ar)(hc:X.calm=true)(cs:XF sc ar [x1,x2] N)(hl1:sc.names.lookup x1=some .local)(hl2:sc.names.lookup x2=some .local)(hN:Hn X caps N)(hnd:([x1,x2]++N).Nodup)(hg:Gl X "zip")(hm:X.mg "zip"=none)(hv:bootBuiltins "zip"=some (.type "zip"))(ha:PDA X Z [a,b] ta)(he:∀cl C s0 H0 fp pn,PD (Cx.comp X sc ([x1,x2]++N) cl C s0 H0 fp pn) Z0 aX te)(hse:starEach [a,b] X.env=[(false,eval a X.env),(false,eval b X.env)]:=by rfl)(hse2:starEach [b] X.env=[(false,eval b X.env)]:=by rfl)(hs:∀y,foldedSetIterable (.Call (.Name "zip" p) [a,b] [] aM) X.env y=pure y:=by intro _;rfl):
  PD X Z (.ListComp aX [#[.Tuple [.Name x1 p1,.Name x2 p2] kk tp,.Call (.Name "zip" p) [a,b] [] aM,[],0]] sc pos) (Ut caps ta te):=by
 subst har;refine Z6 (GA hc cs hN (te:=up X.K Z0 te) (Q6 hg hm hv ha hse hse2) (λcl C s0 H0 fp pn=>?_) he hs) λ_ _ _ h=>Ny h
 have l1:(Cx.comp X sc ([x1,x2]++N) cl C s0 H0 fp pn).env.scope.names.lookup x1=some .local:=lookup_relabel_local hl1
 have l2:(Cx.comp X sc ([x1,x2]++N) cl C s0 H0 fp pn).env.scope.names.lookup x2=some .local:=lookup_relabel_local hl2;exact Vd hc (WU hnd (.cons rfl (.inl l1) (.inr l1) (.cons rfl (.inl l2) (.inr l2) .nil))) rfl rfl
end
section
variable {X:Cx}{Z:Zx}{pos:Pos}
end
section
variable {n:Nat}{I:Addr}{fp wr:List Addr}{P:Nat->Value->Prop}{St:Nat->Shared->Prop}{prog:Program}{w:World}{A:Around}{s:Shared}{E:Value->Shared->Prop}{G:Array GenState->Array GenState->Prop}
end
section
variable {X:Cx}{Z:Zx}{pos:Pos}
end
theorem Rps.ins {r:List Addr}{H:Hp}{y:D}{w:V}(hy:Rp r H y w):∀ {ds:List D} {xs:List V} (k:Nat),Rps r H ds xs->Rps r H (ds.take k++y::ds.drop k) (xs.take k++w::xs.drop k)
 | [],xs,k,h=>by
  have z:=h.unnil;subst z;simpa using Rps.cons hy h
 | d::ds,xs,0,h=>Rps.cons hy h
 | d::ds,xs,k+1,h=>by
  obtain⟨v,vs,rfl,p1,p2⟩:=h.uncons;exact Rps.cons p1 (Rps.ins hy k p2)
theorem C3 (hc:X.calm=true)(cs:XF sc X.env.scope own N)(hN:Hn X caps N)(hi:PI X (.Tuple aO kk tp) aW wi)(hg:∀cl C s0 H0 fp pn,PG (Cx.comp X sc (own++N) cl C s0 H0 fp pn) (.Tuple aO kk tp) gt)(he:∀cl C s0 H0 fp pn,PE (Cx.comp X sc (own++N) cl C s0 H0 fp pn) aX te)(hNd:X.N.Nodup)(hy:X.N[i]?=some y)(hl:X.env.scope.names.lookup y=some .local)(hsw:swapsWith (.ListComp aX [#[.Tuple aO kk tp,aW,[],0]] sc pos) (some (.Name y py)) spos.line X.env=pure true)(hs:∀y,foldedSetIterable aW X.env y=pure y:=by intro _;rfl):PS X (.Assign [.Name y py] (.ListComp aX [#[.Tuple aO kk tp,aW,[],0]] sc pos) spos) (λE σ H=>Rz own.length caps wi gt te σ H λv H1=>E.nx (σ.set i (some v)) H1):=
 Qc (λI h aZ=>Ot hc cs (Xi hN).1 (Xi hN).2 hi hg he hs I h aZ) hNd hy hl hsw
theorem IL (har:X.env.scope=ar)(hc:X.calm=true)(cs:XF sc ar [x1,x2] N)(hl1:sc.names.lookup x1=some .local)(hl2:sc.names.lookup x2=some .local)(hN:Hn X caps N)(hnd:([x1,x2]++N).Nodup)(hNd:X.N.Nodup)(hy:X.N[i]?=some y)(hlo:ar.names.lookup y=some .local)(hg:Gl X "zip")(hm:X.mg "zip"=none)(hv:bootBuiltins "zip"=some (.type "zip"))(ha:PDA X Z [a,b] ta)(he:∀cl C s0 H0 fp pn,PD (Cx.comp X sc ([x1,x2]++N) cl C s0 H0 fp pn) Z0 aX te)(hsw:swapsWith (.ListComp aX [#[.Tuple [.Name x1 p1,.Name x2 p2] kk tp,.Call (.Name "zip" p) [a,b] [] aM,[],0]] sc pos) (some (.Name y py)) spos.line X.env=pure true:=by rfl)(hse:starEach [a,b] X.env=[(false,eval a X.env),(false,eval b X.env)]:=by rfl)(hse2:starEach [b] X.env=[(false,eval b X.env)]:=by rfl)(hs:∀y,foldedSetIterable (.Call (.Name "zip" p) [a,b] [] aM) X.env y=pure y:=by intro _;rfl):
  PDS X Z (.Assign [.Name y py] (.ListComp aX [#[.Tuple [.Name x1 p1,.Name x2 p2] kk tp,.Call (.Name "zip" p) [a,b] [] aM,[],0]] sc pos) spos) (Uq i (Ut caps ta te)):=by
 subst har;refine Yy (C3 hc cs hN (te:=up X.K Z0 te) (Q6 hg hm hv ha hse hse2) (λcl C s0 H0 fp pn=>?_) he hNd hy hlo hsw hs) λF σ H h=>TJ (λ_ h=>Ny h) h
 have l1:(Cx.comp X sc ([x1,x2]++N) cl C s0 H0 fp pn).env.scope.names.lookup x1=some .local:=lookup_relabel_local hl1
 have l2:(Cx.comp X sc ([x1,x2]++N) cl C s0 H0 fp pn).env.scope.names.lookup x2=some .local:=lookup_relabel_local hl2;exact Vd hc (WU hnd (.cons rfl (.inl l1) (.inr l1) (.cons rfl (.inl l2) (.inr l2) .nil))) rfl rfl
section
variable {X:Cx}{Z:Zx}
end
section
variable {X:Cx}{Z:Zx}{pos:Pos}
def CU (i:Nat)(ta:TDA)(tb:TDS):TDS:=λE dl S=>ta dl S λds S1=>match ds with
 | [.int lo,.int hi]=>(-(2^62)<=lo/\lo<2^62/\-(2^62)<=hi/\hi<2^62)/\∃W:Nat->Ev->Sto->Prop,W 0 dl S1/\∀k dl S,W k dl S->
   if k<(hi-lo).toNat then tb { nx:=λdl' S'=>W (k+1) dl' S',rt:=E.rt,bk:=E.nx,ct:=λdl' S'=>W (k+1) dl' S' } (dl.set i (some (.int (lo+k)))) S else E.nx dl S
 | _=>False
theorem Tz (hp:PassesOwn (mX X) X.A X.env X.xe)(hc:X.calm=true)(hN:X.N.Nodup)(hi:X.N[i]?=some x)(hx:Loc X.env.scope x)(hg:Gl X "range")(hm:X.mg "range"=none)(ha:PDA X Z [a,b] ta)(hb:YB X Z body tb)(hf:Hf X x:=by first|exact .inl rfl|exact .inr rfl|assumption)(hs:∀y,foldedSetIterable (.Call (.Name "range" p) [a,b] [] pos) X.env y=pure y:=by intro _;rfl)(hst:starEach [a,b] X.env=[(false,eval a X.env),(false,eval b X.env)]:=by rfl)(hst2:starEach [b] X.env=[(false,eval b X.env)]:=by rfl):
  PDS X Z (.For (.Name x pos') (.Call (.Name "range" p) [a,b] [] pos) body [] aM) (CU i ta tb):=
 Yy (Vb hp hc (NO hg hm ha hst hst2) (Vn hN hi hx hf) hb hs) λF σ H #[r,dl,S,E,rs,bA,h,ret]=>by
  refine#[r,dl,S,_,rs,bA,h,λvs H1 r1 ds S1 x1 aE p1 q1=>?_];split at q1
  .rename_i lo hi;obtain⟨v,vs',rfl,p2,p3⟩:=p1.uncons;obtain⟨v2,vs2,rfl,p4,p5⟩:=p3.uncons;have z:=p5.unnil;subst z;cases p2;cases p4;obtain⟨bds,W,w0,turn⟩:=q1;refine#[lo,hi,rfl,bds,Va x1 rs aE ret (λk m d s=>m=(hi-lo).toNat-k/\W k d s) #[rfl,w0] λk m r2 dl2 S2 σ2 H2 x2 rs2 aF w=>?_];have q:=turn k dl2 S2 w.2;split at q
   .rename_i hk;refine .inr #[hk,_,λd s z=>#[(hi-lo).toNat-(k+1),by omega,rfl,z],λv' H' y K hK=>?_];obtain⟨rfl,rfl⟩:=y;exact hK _ _ _ Ext.refl (rs2.set i (.int _)) aF q
   .rename_i hk;exact .inl #[by show (hi-lo).toNat<=k;omega,q]
  .exact q1.elim
end
end L3
namespace L2
open PySem PySem.Spec PyProof.Rows
def Itd (lo:Int)(n:Nat):It:=#[λi _=>i<n,λi H x H'=>H'=H/\x=.int (lo-i),λi _=>n<=i]
theorem A1 {P:Program}{w:World}{K:Fg}{tg:Expr}(it:Addr)(lo:Int)(n:Nat):W9 P w K tg (Itd lo n) [it] it (λi h=>IsRangeIter h it (lo+(i:Nat)*(-1)) ((n:Int)-(i:Nat)) (-1)) where
 mem:=zO.mpr rfl
 obj:=λi h st b hb=>by
  cases zO.mp hb;refine#[_,st,λv z=>?_];have z':Data.fields _=Data.cell v:=z;cases z'
 keep:=λi h h' st k=>k it (zO.mpr rfl) _ st
 item:=by
  intro X hP hw hK hc i aA s σ H E I hf st hg;subst hP hw hK;obtain⟨f0,f1,f2,f3,f4,f5⟩:=hf it (zO.mpr rfl);have W:=Walks.range (prog:=X.prog) (w:=X.w) (I.ok.hd hc) it lo (-1) n;refine W.item i s _ _ hg st λv h' tk hv st' kk=>?_
  obtain⟨t,rfl⟩:=hv;have I1:Inv X aA σ H { s with heap:=h',toks:=tk }:=I.turned (λb o hb e=>kk b o (λz=>hb (zO.mp z)) e) f0 f1 f3 f4 f5
  have ev:lo+(i:Int)*(-1)=lo-(i:Int):=by omega
  exact#[_,rfl,SV st' rfl rfl ⋯ #[.int (lo-i),H,I1,#[t,by rw[ev]],#[rfl,rfl],st',λb hb=>(hf b hb).1]]
 done:=by
  intro X hP hw hK hc i aA s σ H E I hf st hg;obtain⟨f0,f1,f2,f3,f4,f5⟩:=hf it (zO.mpr rfl);have hg':n<=i:=hg;exact wpAny_pyNext_range_end (I.ok.hd hc) st (by omega) λh' eb=>#[rfl,I.turned (λb o hb e=>eb b o hb e) f0 f1 f3 f4 f5]
 self:=λ_ _ _ _ _ st h=>wpAny_pyIter_rangeiter st h
theorem Ci {aA:LA}{σ:St}{H:Hp}{s:Shared}{R:It->Hp->Prop}{E:Value->Shared->Prop}{lo hi:Int}{t u v:Tok}{tk:Nat}(I:Inv X aA σ H s)(h1:-(2^62)<=lo)(h2:lo<2^62)(h3:-(2^62)<=hi)(h4:hi<2^62)
  (q:R (Itd lo (lo-hi).toNat) H):wpAny (mX X) X.A (pyIter (.ref s.heap.objs.size)) (PIE X aA σ tg R) E { s with heap:=s.heap.push { cls:=.type "range",data:=.fields (List.toArray [.int lo t,.int hi u,.int (-1) v]) },toks:=tk }:=by
 have I1:Inv X aA σ H { s with heap:=s.heap.push { cls:=.type "range",data:=.fields (List.toArray [.int lo t,.int hi u,.int (-1) v]) },toks:=tk }:=I.kept λb o e=>Heap.get?_push_of_some _ e
 refine wpAny_pyIter_range (IsRange.new ..) (W.small_down h1 h2 h3 h4) ?_;refine#[(s.heap.push { cls:=.type "range",data:=.fields (List.toArray [.int lo t,.int hi u,.int (-1) v]) }).objs.size,[(s.heap.push { cls:=.type "range",data:=.fields (List.toArray [.int lo t,.int hi u,.int (-1) v]) }).objs.size],_,_,H,rfl,
  I1.kept λb o e=>Heap.get?_push_of_some _ e,A1 _ lo (lo-hi).toNat,?_,λb hb=>?_,q]
 .show IsRangeIter _ _ (lo+((0:Nat):Int)*(-1)) ((((lo-hi).toNat:Nat):Int)-((0:Nat):Int)) (-1);rw[show lo+((0:Nat):Int)*(-1)=lo by simp,show (((lo-hi).toNat:Nat):Int)-((0:Nat):Int)=Builtin.Range.rangeSize lo hi (-1) by rw[W.rangeSize_downNat];simp];exact(Heap.get?_push_size _ rfl)
 .cases zO.mp hb;exact I1.fpOk (zA _) (I1.hok.fresh (zA _))
def iRngD (ta:TA):TI:=λσ H R=>ta σ H λvs H1=>∃i j:Int,vs=[.int i,.int j,.int (-1)]/\(-(2^62)<=i/\i<2^62/\-(2^62)<=j/\j<2^62)/\R (Itd i (i-j).toNat) H1
theorem JS {a b c:Expr}{ta:TA}{p pos:Pos}(hg:Gl X "range")(hm:X.mg "range"=none)(ha:PA X [a,b,c] ta)(hs:starEach [a,b,c] X.env=[(false,eval a X.env),(false,eval b X.env),(false,eval c X.env)]:=by rfl)(hs2:starEach [b,c] X.env=[(false,eval b X.env),(false,eval c X.env)]:=by rfl):
  PI X tg (.Call (.Name "range" p) [a,b,c] [] pos) (iRngD ta):=by
 intro aA s σ H R I h;refine Call_ (Wx I hg hm boot_range (PyProof.Rows.callWith_type1 (thn (ha pos aA s σ H _ I h) λus s1 #[vs,H1,I1,r1,q1]=>?_) (by rw[hs,hs2]) (by rw[hs2];rfl)));obtain⟨i,j,e,⟨q1,q2,q3,q4⟩,q⟩:=q1;subst e;cases r1 with
 | cons r rr=>
  cases rr with
  | cons r' rr=>
   cases rr with
   | cons r2 rr=>
    cases rr;obtain⟨t,rfl⟩:=r;obtain⟨t',rfl⟩:=r';obtain⟨t2,rfl⟩:=r2;exact call_range_3 ⋯ (Ci I1 q1 q2 q3 q4 q) (.inl (PyProof.noPylong_small (by omega)))
end L2
namespace L3
open PySem PySem.Spec PyProof.Rows L2
def C0 (i:Nat)(ta:TDA)(tb:TDS):TDS:=λE dl S=>ta dl S λds S1=>match ds with
 | [.int lo,.int hi,.int st]=>st=-1/\(-(2^62)<=lo/\lo<2^62/\-(2^62)<=hi/\hi<2^62)/\∃W:Nat->Ev->Sto->Prop,W 0 dl S1/\∀k dl S,W k dl S->
   if k<(lo-hi).toNat then tb { nx:=λdl' S'=>W (k+1) dl' S',rt:=E.rt,bk:=E.nx,ct:=λdl' S'=>W (k+1) dl' S' } (dl.set i (some (.int (lo-k)))) S else E.nx dl S
 | _=>False
theorem Ed (hp:PassesOwn (mX X) X.A X.env X.xe)(hc:X.calm=true)(hN:X.N.Nodup)(hi:X.N[i]?=some x)(hx:Loc X.env.scope x)(hg:Gl X "range")(hm:X.mg "range"=none)(ha:PDA X Z [a,b,c] ta)(hb:YB X Z body tb)(hf:Hf X x:=by first|exact .inl rfl|exact .inr rfl|assumption)(hs:∀y,foldedSetIterable (.Call (.Name "range" p) [a,b,c] [] pos) X.env y=pure y:=by intro _;rfl)(hst:starEach [a,b,c] X.env=[(false,eval a X.env),(false,eval b X.env),(false,eval c X.env)]:=by rfl)(hst2:starEach [b,c] X.env=[(false,eval b X.env),(false,eval c X.env)]:=by rfl):
  PDS X Z (.For (.Name x pos') (.Call (.Name "range" p) [a,b,c] [] pos) body [] aM) (C0 i ta tb):=
 Yy (Vb hp hc (JS hg hm ha hst hst2) (Vn hN hi hx hf) hb hs) λF σ H #[r,dl,S,E,rs,bA,h,ret]=>by
  refine#[r,dl,S,_,rs,bA,h,λvs H1 r1 ds S1 x1 aE p1 q1=>?_];split at q1
  .rename_i lo hi st;obtain⟨v,vs',rfl,p2,p3⟩:=p1.uncons;obtain⟨v2,vs2,rfl,p4,p5⟩:=p3.uncons;obtain⟨v3,vs3,rfl,p6,p7⟩:=p5.uncons;have z:=p7.unnil;subst z;cases p2;cases p4;cases p6;obtain⟨e3,bds,W,w0,turn⟩:=q1;subst e3;refine#[lo,hi,rfl,bds,Va x1 rs aE ret (λk m d s=>m=(lo-hi).toNat-k/\W k d s) #[rfl,w0] λk m r2 dl2 S2 σ2 H2 x2 rs2 aF w=>?_];have q:=turn k dl2 S2 w.2;split at q
   .rename_i hk;refine .inr #[hk,_,λd s z=>#[(lo-hi).toNat-(k+1),by omega,rfl,z],λv' H' y K hK=>?_];obtain⟨rfl,rfl⟩:=y;exact hK _ _ _ Ext.refl (rs2.set i (.int _)) aF q
   .rename_i hk;exact .inl #[by show (lo-hi).toNat<=k;omega,q]
  .exact q1.elim
open PySem PySem.Spec PyProof.Rows L2 PySem.W
structure Tg (sc around:Scope)(own caps:List Str):Prop where
 kind:sc.kind=.function
 co:sc.isCoroutine=false
 gen:sc.isGenerator=false
 nocell:∀y∈sc.names,y.2≠.cell
 loc:∀y∈own,sc.names.lookup y=some .local
 cap:∀y∈caps,sc.names.lookup y=some .free
 out:∀y∈sc.names,y.2=.free->around.names.lookup y.1=some .cell
 nd:own.Nodup
theorem Ld:∀ {l:List (Str×α)},(l.map (·.1)).Nodup->(y,v)∈l->l.lookup y=some v
 | (n,k)::r,nd,h=>by
  rw[yC];rcases zT.mp h with e|e
  .cases e;simp
  .have hn:n ∉ r.map (·.1):=(xW.mp nd).1
   have ne:(y==n)=false:=by
    cases q:y==n with
    | false=>rfl
    | true=>
     have z:y=n:=by simpa using q
     subst z;exact absurd (zP.mpr #[_,e,rfl]) hn
   rw[ne];exact Ld (xW.mp nd).2 e
abbrev SO (qual:Str)(sc:Scope)(L f:Addr)(cd:Value)(cl:List (Str×Addr)):Env:=newEnv sc L mainGlobals cl (qual++".<locals>.") (some f) cd none builtinsNs
abbrev Cx.lam (X:Cx)(A:Around)(sc:Scope)(N:List Str)(qual:Str)(f:Addr)(cd:Value)(cl:List (Str×Addr))(L:Addr)(s0:Shared)(H0:Hp):Cx:=
 { prog:=X.prog,w:=X.w,K:=X.K,mg:=X.mg,base:=X.base,A:=A.deeper (SO qual sc L f cd cl),N:=N,s₀:=s0,H₀:=H0,env:=SO qual sc L f cd cl,outer:=X.stack,stack:=SO qual sc L f cd cl::X.stack,ex:=[],fn:=λ_=>false,calm:=true,pn:=[],xe:=λ_ _=>False }
theorem Kc (I:Inv X aA σ H s)(cs:Tg sc X.env.scope own N)(hN:∀(j:Nat)(y:Str),N[j]?=some y->∃i,caps[j]?=some i/\X.N[i]?=some y)(aQ:caps.length=N.length)(c1:∀x c,cl.lookup x=some c->X.env.cells.lookup x=some c)(c2:∀y∈sc.names,y.2=.free->cl.lookup y.1=X.env.cells.lookup y.1)(hh:A.handled=none)(hfr:A.frames=some X.stack)(hv:Zz vs us)(hlv:vs.length=own.length)(hns:h1.Ns s.heap.objs.size (λx=>(own.zip us).reverse.lookup x))(hk:∀b o,s.heap.get? b=some o->h1.get? b=some o):
  Inv (Cx.lam X A sc (own++N) qual f cd cl s.heap.objs.size s H) [] (vs.map some++Yl caps σ) H { s with heap:=h1,toks:=tk }:=by
 have noA:∀b:Addr,b ∉ (Cx.lam X A sc (own++N) qual f cd cl s.heap.objs.size s H).ex:=λb z=>absurd (show b∈([]:List Addr) from z) (by simp)
 refine#[#[I.ok.mod,cs.kind,rfl,rfl,zA _,λa b c h1 h2=>I.ok.inj a b c (c1 _ _ h1) (c1 _ _ h2),λy hy=>?_,λ_ _ z=>Bool.noConfusion z,λ_=>hh,Around.frames_deeper hfr,.inr #[rfl,rfl],λb z=>absurd z (noA b),
  I.bs,yJ I.ok.bsz I.sz,λb _ _=>noA b,λb z=>absurd z (noA b),I.stack,I.stkFree],rfl,I.bare,Un.kept hk,#[_,hns,λi y v e1 e2 e3=>?_],λy c e=>?_,I.hok.fresh (zA _),λy c e=>I.freeC y c (c1 _ _ e),λp hp=>absurd (show p∈([]:LA) from hp) (by simp),I.hok.kept hk,?_]
 .have hfree:sc.names.lookup y=some .free:=by
   rcases (show sc.names.lookup y=some .cell\/sc.names.lookup y=some .free from hy) with z|z
   .exact absurd rfl (cs.nocell _ (Ub z))
   .exact z
  have hm:=Ub hfree;obtain⟨c,e⟩:=I.ok.has y (.inl (cs.out _ hm rfl));exact#[c,(c2 _ hm rfl).trans e]
 .rcases Nat.lt_or_ge i own.length with hi|hi
  .have e1':own[i]?=some y:=by rw[zJ hi] at e1;exact e1
   have e2':vs[i]?=some v:=by
    rw[zJ (by rw[zB];omega),zF] at e2;cases e:vs[i]? with
    | none=>rw[e] at e2;cases e2
    | some a=>rw[e] at e2;cases e2;rfl
   obtain⟨u,hu,rv⟩:=hv.get e2';refine#[u,rv,.inl #[cs.loc y (zE e1'),?_]];have z:(y,u)∈(own.zip us).reverse:=by
    rw[List.mem_reverse];exact zE (by rw[List.getElem?_zip_eq_some];exact#[e1',hu])
   have nd:((own.zip us).reverse.map (·.1)).Nodup:=by
    rw[List.map_reverse,List.map_fst_zip (by rw[<- hv.length];omega)];exact List.pairwise_reverse.mpr (cs.nd.imp λh=>Ne.symm h)
   exact Ld nd z
  .obtain⟨i,rfl⟩:∃k,i=own.length+k:=#[i-own.length,by omega];have e1':N[i]?=some y:=by
    rw[yO hi] at e1;simpa using e1
   have e2:(Yl caps σ)[i]?=some (some v):=by
    rw[yO (by rw[zB];omega),zB] at e2;simpa [hlv] using e2
   obtain⟨j,hj,hy⟩:=hN i y e1';have e2':σ[j]?=some (some v):=by
    simp only[Yl,zF,hj,vI,Option.some.injEq] at e2;cases q:σ[j]? with
    | none=>rw[q] at e2;cases e2
    | some o=>rw[q] at e2;simp at e2;rw[e2]
   have hfree:sc.names.lookup y=some .free:=cs.cap y (zE e1')
   have hm:=Ub hfree
   have hce:X.env.scope.names.lookup y=some .cell:=cs.out _ hm rfl;obtain⟨m0,_,hl⟩:=I.loc;obtain⟨u,r,l⟩:=hl j y v hy e2' (.inr (.inl hce));refine#[u,r,.inr #[.inr hfree,?_]];rcases l with ⟨k,_⟩|⟨_,c,ec,hcell⟩
   .rw[show X.env.kindOf y=some .cell from hce] at k;cases k
   .exact#[c,(c2 _ hm rfl).trans ec,hcell.keeps hk]
 .obtain⟨v,z⟩:=I.cell y c (c1 _ _ e);exact#[v,z.keeps hk]
 .simp[Yl,aQ,hlv]
abbrev Wo (qual:Str)(params:Arguments)(body:Expr)(sc:Scope)(cl:List (Str×Addr))(pm:Value)(cd:Value)(ctv:Value):Obj:={ cls:=.type "function",data:=.func (kla_fn "<lambda>" qual params body sc cl pm cd ctv) }
theorem Kf (I:Inv X aA σ H s)(cs:Tg sc X.env.scope own N)(hN:∀(j:Nat)(y:Str),N[j]?=some y->∃i,caps[j]?=some i/\X.N[i]?=some y)(aQ:caps.length=N.length)(c1:∀x c,cl.lookup x=some c->X.env.cells.lookup x=some c)(c2:∀y∈sc.names,y.2=.free->cl.lookup y.1=X.env.cells.lookup y.1)(hh:A.handled=none)(hfr:A.frames=some X.stack)(hv:Zz vs us)(hlv:vs.length=own.length)(hroom:A.depth<recursionLimit)(ho:s.heap.get? f=some (Wo qual params body sc cl pm cd ctv))(hcd:s.heap.CodeRec cd qual)(hb:bindArgs (kla_fn "<lambda>" qual params body sc cl pm cd ctv) #[us,[]]=pure (own.zip us))(he:PE (Cx.lam X A sc (own++N) qual f cd cl s.heap.objs.size s H) body te)(h:te (vs.map some++Yl caps σ) H Q):
  codeAny (mX X) A (.call (.ref f) #[us,[]]) (λr s'=>match r with|.ok (.ret u)=>CE X.stack X.prog X.w H s Q u s'|_=>False) s:=by
 refine kla_callFunE hroom ho rfl cs.co cs.gen rfl hcd ?_;rw[hb];have lim:s.heap.NoLimit:=I.ok.mod.nolimit.keeps λb o e=>(I.bs b o e).1
 refine wpAny_pure (wpAny_newFunctionEnv cs.nocell (λy hy=>cs.loc y.1 (vE hy).1) (λh₁ hns hsb=>?_) cs.kind);have hk₁:∀b o,s.heap.get? b=some o->h₁.get? b=some o:=λb o e=>hsb.extBut b o (zN (Heap.lt_size e)) (Heap.get?_push_of_some _ e)
 refine#[lim.keeps hk₁,?_];refine kla_codeExpr ?_;have J:=Kc (qual:=qual) (f:=f) (cd:=cd) (tk:=s.toks+(own.zip us).length) I cs hN aQ c1 c2 hh hfr hv hlv hns hk₁;exact wpAny_mono (he [] _ _ H _ J h) (λu s' #[v,H',J',rv,q]=>#[v,H',J'.os,J'.bare,J'.base,J'.hok,rv,q]) λ_ _ z=>z.elim
theorem Mf {h1 h2:Heap}{c:Addr}{q:Str}(h:h1.CodeRec (.ref c) q)(k:∀o,h1.get? c=some o->h2.get? c=some o):h2.CodeRec (.ref c) q:=by
 obtain⟨c2,o,vs,t,e,h1,h3,h4⟩:=h;cases e;exact#[c,o,vs,t,rfl,k _ h1,h3,h4]
theorem Az {sc:Scope}{cl:List (Str×Addr)}{qual:Str}{params:Arguments}{body:Expr}{c P:Addr}{ps:Array Value}{pos:Pos}{fl:Nat}{Q:Value->Shared->Prop}(I:Inv X aA σ H s)(hcl:closureFor sc X.env=pure cl)
  (hcode:X.env.code=.ref c)(C:CodeHd X.base c P)(hb:∃bm o,X.mg "__builtins__"=some (.ref bm)/\bm≠builtinsNs/\bm≠mainGlobals/\X.base.get? bm=some o/\o.cls=.type "module"/\o.dict=some builtinsNs/\o.data=.plain)
  (hP:H P=some (.tbl ps))(tab:Tab pos qual H ps)
  (h:∀(f:Addr)(cd ctv:Value)(H':Hp)(ps':Array Value)(s':Shared),Inv X aA σ H' s'->H' P=some (.tbl ps')->Tab pos qual H' ps'->(∀b o,H b=some o->b≠P->H' b=some o)->s'.heap.CodeRec cd qual->(∃c',cd=.ref c'/\H' c'=some (.ext λh=>h.CodeRec (.ref c') qual))->
   s'.heap.get? f=some (Wo qual params body sc cl ((X.mg "__name__").getD .none) cd ctv)->Yu X aA H' f->Q (.ref f) s'):
  wpAny (mX X) X.A (makeFunction "<lambda>" qual params (.expr body) sc X.env [] [] [] pos fl) Q X.xe s:=by
 have hg:s.heap.Ns mainGlobals X.mg:=I.ok.mod.glob.keeps I.bk
 have hPs:s.heap.get? P=some (tabObj ps):=I.hok P _ hP
 have nP:∀b,H b=none->b≠P:=λb n e=>by rw[e,hP] at n;cases n
 have gP:mainGlobals≠P:=by
  obtain⟨o,es,ep,e,_⟩:=I.ok.mod.glob;exact nP _ (I.bs _ _ e).2
 obtain⟨bm,ob,b1,b2,b3,b4,b5,b6,b7⟩:=hb;have bP:bm≠P:=nP _ (I.bs _ _ b4).2
 have BA:s.heap.BuiltinsAt X.mg P:=#[bm,ob,b1,b2,b3,bP,(I.bs _ _ b4).1,b5,b6,b7];obtain⟨tr,alt⟩:=tab;rcases alt with hn|⟨c',hf,hc'⟩
 .refine kla_makeFunction hcl I.ok.glob hg hcode (C.keeps I.bk) hPs tr hn gP BA λc' ctv h' tk hx hge hlt hrec htb=>?_
  have lt:∀b o,H b=some o->b<s.heap.objs.size:=λb o e=>I.hok.lt e
  have ltP:=lt P _ hP
  have ncP:c'≠P:=xJ (zV ltP hge)
  have up:∀b o,b≠P->s.heap.get? b=some o->(h'.push (Wo qual params body sc cl ((X.mg "__name__").getD .none) (.ref c') ctv)).get? b=some o:=λb o n e=>Heap.get?_push_of_some _ (hx b o n e)
  have upP:=Heap.get?_push_of_some (Wo qual params body sc cl ((X.mg "__name__").getD .none) (.ref c') ctv) htb
  have rec2:(h'.push (Wo qual params body sc cl ((X.mg "__name__").getD .none) (.ref c') ctv)).CodeRec (.ref c') qual:=Mf hrec λo e=>Heap.get?_push_of_some _ e
  have hH:∀b o,H b=some o->b≠P->upd (upd H c' (.ext λh=>h.CodeRec (.ref c') qual)) P (.tbl (ps++(List.toArray [rawInt pos.line,rawInt pos.col,.ref c']))) b=some o:=λb o e n=>by
   rw[ZV n,ZV (zN (zV (lt b o e) hge))];exact e
  have hc2:upd (upd H c' (.ext λh=>h.CodeRec (.ref c') qual)) P (.tbl (ps++(List.toArray [rawInt pos.line,rawInt pos.col,.ref c']))) c'=some (.ext λh=>h.CodeRec (.ref c') qual):=by
   rw[ZV ncP,Yz]
  have un:Un X.fs [] H (upd (upd H c' (.ext λh=>h.CodeRec (.ref c') qual)) P (.tbl (ps++(List.toArray [rawInt pos.line,rawInt pos.col,.ref c'])))) s.heap (h'.push (Wo qual params body sc cl ((X.mg "__name__").getD .none) (.ref c') ctv)):=
   #[λb o e n _ _=>up b o (nP b n) e,λb o e n _ _=>#[o.slots,up b o (nP b n) e],λb o e n _=>by
    rw[ZV (nP b n),ZV (zN (zV (Heap.lt_size e) hge))];exact n,λb o e _=>by
    by_cases q:b=P
    .rw[q];exact#[_,upP]
    .exact#[_,up b o q e],λb xs e=>hH b _ e (λq=>by rw[q,hP] at e;cases e),λb o u e=>hH b _ e (λq=>by rw[q,hP] at e;cases e),λb qs e=>by
    by_cases q:b=P
    .subst q;rw[hP] at e;cases e;exact#[_,Yz]
    .exact#[(List.toArray []),by rw[hH b _ e q];simp]]
  have hok:HOk X.prog X.w (upd (upd H c' (.ext λh=>h.CodeRec (.ref c') qual)) P (.tbl (ps++(List.toArray [rawInt pos.line,rawInt pos.col,.ref c'])))) (h'.push (Wo qual params body sc cl ((X.mg "__name__").getD .none) (.ref c') ctv)):=λa o e=>by
   by_cases q:a=P
   .subst q;rw[Yz] at e;cases e;exact upP
   .rw[ZV q] at e;by_cases q2:a=c'
    .subst q2;rw[Yz] at e;cases e;obtain⟨_,o2,_,_,e2,e3,_⟩:=id rec2;cases e2;exact#[rec2,#[o2,e3],λh1 h2 p k=>Mf p k]
    .rw[ZV q2] at e;refine(I.hok a o e).stay (λb u hb r=>up b u (λz=>?_) r) (λb r=>hH b _ r λz=>by rw[z,hP] at r;cases r) λb xs r=>hH b _ r λz=>by rw[z,hP] at r;cases r
     rcases hb with hb|hb
     .exact q (hb ▸ z)
     .rw[z,hP] at hb;cases hb
  have I2:Inv X aA σ _ { s with heap:=h'.push (Wo qual params body sc cl ((X.mg "__name__").getD .none) (.ref c') ctv),toks:=tk }:=I.un un hok
  have fresh:s.heap.objs.size<=h'.objs.size:=yJ hge (yR hlt)
  have ff:=I.fpOk (H':=upd (upd H c' (.ext λh=>h.CodeRec (.ref c') qual)) P (.tbl (ps++(List.toArray [rawInt pos.line,rawInt pos.col,.ref c'])))) fresh (by
   rw[ZV (xJ (zV ltP fresh)),ZV (xJ hlt)];exact I.hok.fresh fresh)
  refine h _ (.ref c') ctv _ _ _ I2 Yz #[?_,.inr #[c',?_,hc2]] hH rec2 #[c',rfl,hc2] (Heap.get?_push_size _ rfl) ff
  .rw[Array.toList_append];exact TriplesOk_snoc _ _ _ _ tr
  .rw[Array.toList_append];exact codeAmong_snoc _ tr hn
 .refine kla_makeFunctionHit hcl I.ok.glob hg hcode (C.keeps I.bk) hPs tr hf BA λctv h' tk hk hsz=>?_
  have I2:Inv X aA σ H { s with heap:=h'.push (Wo qual params body sc cl ((X.mg "__name__").getD .none) (.ref c') ctv),toks:=tk }:=I.kept λb u e=>Heap.get?_push_of_some _ (hk b u e)
  exact h _ (.ref c') ctv H ps _ I2 hP #[tr,.inr #[c',hf,hc']] (λb o e _=>e) (I2.hok c' _ hc').1 #[c',rfl,hc'] (Heap.get?_push_size _ rfl) (I.fpOk hsz (I.hok.fresh hsz))
theorem Sn {h':Heap}{t':Nat}{b:Addr}(I:Inv X aA σ H s)(f:Yu X aA H b)(k:∀a o,a≠b->s.heap.get? a=some o->h'.get? a=some o):Inv X aA σ H { s with heap:=h',toks:=t' }:=
 I.turned k f.1 f.2.1 f.2.2.2.1 f.2.2.2.2.1 f.2.2.2.2.2
theorem JY {b:Addr}(I:Inv X aA σ H s)(f:Yu X aA H b):b ∉ frs X.stack:=λz=>by
 rcases zT.mp (I.stkSub b z) with e|e
 .exact f.2.1 e
 .exact f.2.2.1 e
theorem IH (hc:X.calm=true){l it S f:Addr}{of:Obj}{N:Nat}{M:Nat->V->Hp->Prop}{W:Nat->Hp->Prop}{Q:VK}{d:V}{dv:Value}(rd:Zw d dv)(hsq:∀i H',W i H'->∃xs,SqL X.K H' l xs/\xs.length=N/\∀(j:Nat)(v:V),xs[j]?=some v->M j v H')
  (turn:∀(i:Nat)(v:V)(u:Value)(H':Hp)(s':Shared),M i v H'->Zw v u->W i H'->Inv X aA σ H' s'->s'.heap.get? f=some of->codeAny (mX X) X.A.in1 (.call (.ref f) #[[u],[]]) (λr s''=>match r with|.ok (.ret u')=>CE X.stack X.prog X.w H' s' (λy H''=>(∃n:Int,y=.int n)/\W (i+1) H''/\∀(k:Nat)(v:V),M k v H'->M k v H'') u' s''|_=>False) s')
  (hQ:∀H',W N H'->∀(i:Nat)(v:V),M i v H'->Q v H')(hlI:l≠it)(hIS:it≠S)(hIf:it≠f)(hSf:S≠f):
  ∀(n j:Nat)(H:Hp)(s:Shared)(ob:Array Value)(c:Nat),N-j=n->j<=N->Inv X aA σ H s->W j H->Yu X aA H it->Yu X aA H S->Yu X aA H f->s.heap.IsListIter it l j->s.heap.get? S=some (seqObj "list" ob c)->s.heap.get? f=some of->(ob=(List.toArray [])/\(N=j->Q d H)\/∃(vb:Value)(kb:Int)(tb:Tok)(i:Nat)(v:V),ob=(List.toArray [vb,.int kb tb])/\M i v H/\Zw v vb)->
   codeAny (mX X) X.A (.builtin "max.loop" #[[.ref it,.ref f,.ref S],[(Str.ofString "default",dv)]]) (λr s'=>match r with|.ok (.ret u)=>EP X aA σ Q u s'|.ok _=>False|.error e=>X.xe e s') s:=by
 have hname:(toString "max"++toString ".loop":String)="max.loop":=by decide
 intro n
 induction n with
 | zero=>
  intro j H s ob c hn hj I w fI fS ff hit hS hf hvb;obtain⟨xs,hxs,lxs,mxs⟩:=hsq j H w;obtain⟨aY,rv,pl,hz⟩:=I.list hxs;have aQ:=rv.length
  have ej:j=aY.length:=by omega
  have Wk:=Walks.list (prog:=X.prog) (w:=X.w) (A:=X.A.in1) (I.ok.hd hc) it l hlI aY.toArray;refine codeAny_builtin PySem.F.entry_max_loop ?_;refine wpAny_bind (wpAny_seqItems hS rfl ?_);refine wpAny_bind (wpAny_tryCatch (Wk.done _ _ _ #[by rw[zI,<- ej];exact hit,pl.isList] λh' tk' hk'=>?_));have I1:Inv X aA σ H { s with heap:=h',toks:=tk' }:=Sn I fI λa o na e=>hk' a o (by simpa using na) e
  rcases hvb with ⟨rfl,h0⟩|⟨vb,kb,tb,i,v,rfl,hv,r⟩
  .exact wpAny_bind (wpAny_rule (wpAny_pure #[d,H,I1,rd,h0 (by omega)]))
  have hS':=hk' S _ (by simpa using hIS.symm) hS;refine wpAny_bind ?_;refine wpAny_updateSeq hS' rfl (wpAny_bind (wpAny_letGo (wpAny_pure ?_)));have s1:=Heap.SameBut.update h' S (Obj.mapSeq λ_=>((List.toArray []):Array Value));exact#[v,H,Sn I1 fS λa o na e=>(s1.2 a na).trans e,r,hQ H (by rw[show N=j by omega];exact w) i v hv]
 | succ n ih=>
  intro j H s ob c hn hj I w fI fS ff hit hS hf hvb;obtain⟨xs,hxs,lxs,mxs⟩:=hsq j H w;obtain⟨aY,rv,pl,hz⟩:=I.list hxs;have aQ:=rv.length
  have Wk:=Walks.list (prog:=X.prog) (w:=X.w) (A:=X.A.in1) (I.ok.hd hc) it l hlI aY.toArray;refine codeAny_builtin PySem.F.entry_max_loop ?_;refine wpAny_bind (wpAny_seqItems hS rfl ?_);refine wpAny_bind (wpAny_tryCatch (Wk.item j _ _ _ (by rw[zI];omega) #[hit,pl.isList] λu h' tk' hP hst' hk'=>?_));have hu:aY[j]?=some u:=by simpa using hP
  have hk1:∀a o,a≠it->s.heap.get? a=some o->h'.get? a=some o:=λa o na e=>hk' a o (by simpa using na) e
  have I1:Inv X aA σ H { s with heap:=h',toks:=tk' }:=Sn I fI hk1;obtain⟨v,hv⟩:∃v,xs[j]?=some v:=#[_,zD (by omega)];obtain⟨u2,hu2,rvu⟩:=rv.get hv;rw[hu] at hu2;cases hu2;have hS1:=hk1 S _ hIS.symm hS
  have hf1:=hk1 f _ hIf.symm hf;obtain⟨oI,hoI,hoc,hod⟩:=id hst'.1;refine wpAny_bind (wpAny_tryCatch (wpAny_holding (wpAny_call (codeAny_mono (turn j v u H _ (mxs j v hv) rvu w I1 hf1) λr s2 h2=>?_))));cases r with
  | error e=>exact h2.elim
  | ok fl=>
   cases fl with
   | next=>exact h2.elim
   | brk=>exact h2.elim
   | cont=>exact h2.elim
   | ret ku=>
    obtain⟨y,H2,os2,bare2,un2,hok2,ry,⟨k2,rfl⟩,w2,up2⟩:=(show CE X.stack X.prog X.w H _ _ ku s2 from h2);obtain⟨t2,rfl⟩:=ry;have I2:Inv X aA σ H2 s2:=I1.call' os2 un2 hok2 bare2 (λb hb=>by simp at hb)
    have kp:∀b o,Yu X aA H b->h'.get? b=some o->s2.heap.get? b=some o/\Yu X aA H2 b:=λb o fb e=>#[un2.keep b o e fb.1 (JY I1 fb) (by simp),un2.free b o e fb.1 (by simp),fb.2]
    obtain⟨hI2,fI2⟩:=kp it oI fI hoI;obtain⟨hS2,fS2⟩:=kp S _ fS hS1;obtain⟨hf2,ff2⟩:=kp f _ ff hf1;have s1:=Heap.SameBut.update s2.heap S (Obj.mapSeq λ_=>(List.toArray [u,.int k2 t2]));obtain⟨c2,hc2⟩:∃c2,(s2.heap.update S (Obj.mapSeq λ_=>(List.toArray [u,.int k2 t2]))).get? S=some (seqObj "list" (List.toArray [u,.int k2 t2]) c2):=#[_,get?_update_seq hS2 λ_=>(List.toArray [u,.int k2 t2])];have I3:Inv X aA σ H2 { s2 with heap:=s2.heap.update S (Obj.mapSeq λ_=>(List.toArray [u,.int k2 t2])) }:=Sn I2 fS2 λa o na e=>(s1.2 a na).trans e
    have go:=ih (j+1) H2 _ _ c2 (by omega) (by omega) I3 w2 fI2 fS2 ff2 #[oI,(s1.2 it hIS).trans hI2,hoc,hod] hc2 ((s1.2 f hSf.symm).trans hf2) (.inr #[u,k2,t2,j,v,rfl,up2 j v (mxs j v hv),rvu]);rcases hvb with ⟨rfl,_⟩|⟨vb,kb,tb,i,vv,rfl,hvv,r⟩
    .show wpAny _ X.A.in1 (updateSeq S (λ_=>(List.toArray [u,.int k2 t2])) >>= _) _ _ _;refine wpAny_bind (wpAny_updateSeq hS2 rfl ?_);exact wpAny_pure #[plainId_quiet PySem.F.plain_max_loop _,go]
    refine wpAny_bind (wpAny_tryCatch (wpAny_holding (wpAny_bind (CmpOf.ints_gt (λi=>([k2,kb]:List Int).getD i 0) (λi v h=>h) 0 1 _ _ _ _ _ #[t2,rfl] #[tb,rfl] ?_))));refine wpAny_bind (wpAny_holding (wpAny_truthy_bool ?_));refine wpAny_bind (wpAny_letGo (wpAny_pure ?_));by_cases hb':([k2,kb]:List Int).getD 0 0 > ([k2,kb]:List Int).getD 1 0
    .simp only[hb',decide_true,if_true];refine wpAny_bind ?_;refine wpAny_updateSeq hS2 rfl (wpAny_bind (wpAny_letGo ?_));exact wpAny_pure #[plainId_quiet PySem.F.plain_max_loop _,go]
    .simp only[hb',decide_false,uE,if_false];refine wpAny_bind (wpAny_letGo ?_);exact wpAny_pure #[plainId_quiet PySem.F.plain_max_loop _,ih (j+1) H2 _ _ c (by omega) (by omega) I2 w2 fI2 fS2 ff2 #[oI,hI2,hoc,hod] hS2 hf2 (.inr #[vb,kb,tb,i,vv,rfl,up2 i vv hvv,r])]
theorem FZ (a v d:Value):argsOk "max" #[[a],[(Str.ofString "key",v),(Str.ofString "default",d)]]:=by unfold argsOk;kernel_rfl
theorem BK (hc:X.calm=true){l f:Addr}{of:Obj}{N:Nat}{M:Nat->V->Hp->Prop}{W:Nat->Hp->Prop}{Q:VK}{d:V}{dv:Value}(I:Inv X aA σ H s)(w0:W 0 H)(hsq:∀i H',W i H'->∃xs,SqL X.K H' l xs/\xs.length=N/\∀(j:Nat)(v:V),xs[j]?=some v->M j v H')
  (turn:∀(i:Nat)(v:V)(u:Value)(H':Hp)(s':Shared),M i v H'->Zw v u->W i H'->Inv X aA σ H' s'->s'.heap.get? f=some of->codeAny (mX X) X.A.in1 (.call (.ref f) #[[u],[]]) (λr s''=>match r with|.ok (.ret u')=>CE X.stack X.prog X.w H' s' (λy H''=>(∃n:Int,y=.int n)/\W (i+1) H''/\∀(k:Nat)(v:V),M k v H'->M k v H'') u' s''|_=>False) s')
  (hQ:∀H',W N H'->∀(i:Nat)(v:V),M i v H'->Q v H')(ff:Yu X aA H f)(hf:s.heap.get? f=some of)(rd:Zw d dv)(h0:N=0->Q d H):
  wpAny (mX X) X.A (call (.builtin "max") [.ref l] [(Str.ofString "key",.ref f),(Str.ofString "default",dv)]) (EP X aA σ Q) X.xe s:=by
 have hname:(toString "max"++toString ".loop":String)="max.loop":=by decide
 obtain⟨xs,hxs,lxs,mxs⟩:=hsq 0 H w0;obtain⟨aY,rv,pl,hz⟩:=I.list hxs;have hls:=pl.isList;obtain⟨ol,hol,_⟩:=id hls;have hll:l<s.heap.objs.size:=Heap.lt_size hol
 have hlf:f<s.heap.objs.size:=Heap.lt_size hf;refine kmk_tree PySem.F.kind_max PySem.F.plain_max PySem.F.entry_max (FZ _ _ _) ?_;refine wpAny_bind (wpAny_of_eq (show Builtin.Builtins.bindParams "max" ["key","default"] 0 #[[],[(Str.ofString "key",.ref f),(Str.ofString "default",dv)]]=pure [some (.ref f),some dv] from rfl) ?_);refine wpAny_bind (wpAny_pure ?_);refine wpAny_bind (wpAny_pyIter_list hls ?_);refine wpAny_bind (wpAny_newList ?_ (zL _));have hS:(s.heap.push { cls:=.type "list_iterator",data:=.fields (List.toArray [.ref l,.int 0 0]) }).objs.size=s.heap.objs.size+1:=size_push' ..;refine wpAny_pure #[plainId_quiet PySem.F.plain_max_loop _,?_];generalize ePI:s.heap.push { cls:=.type "list_iterator",data:=.fields (List.toArray [.ref l,.int 0 0]) }=hI at hS ⊢;have hk0:∀b o,s.heap.get? b=some o->(hI.push (seqObj "list" (List.toArray []) 0)).get? b=some o:=λb o e=>Heap.get?_push_of_some _ (by rw[<- ePI];exact Heap.get?_push_of_some _ e)
 have gI:(hI.push (seqObj "list" (List.toArray []) 0)).get? s.heap.objs.size=some { cls:=.type "list_iterator",data:=.fields (List.toArray [.ref l,.int 0 0]) }:=Heap.get?_push_of_some _ (by rw[<- ePI];exact Heap.get?_push_size _ rfl)
 have gS:(hI.push (seqObj "list" (List.toArray []) 0)).get? hI.objs.size=some (seqObj "list" (List.toArray []) 0):=Heap.get?_push_size _ rfl
 have I0:Inv X aA σ H { s with heap:=hI.push (seqObj "list" (List.toArray []) 0) }:=I.kept hk0
 have fI:Yu X aA H s.heap.objs.size:=I.fpOk (zA _) (I.hok.fresh (zA _))
 have leS:s.heap.objs.size<=hI.objs.size:=by rw[hS];exact wF _
 have fS:Yu X aA H hI.objs.size:=I.fpOk leS (I.hok.fresh leS)
 have hlI:l≠s.heap.objs.size:=zN hll
 have hIS:s.heap.objs.size≠hI.objs.size:=by rw[hS];exact zN (vD _)
 have hIf:s.heap.objs.size≠f:=xJ hlf
 have hSf:hI.objs.size≠f:=xJ (zV hlf leS)
 have hf0:=hk0 f _ hf;obtain⟨its0,rv0,pl0,_⟩:=I0.list hxs;generalize hI.objs.size=S at gS fS hIS hSf ⊢;generalize s.heap.objs.size=it at gI fI hlI hIS hIf ⊢;exact IH hc rd hsq turn hQ hlI hIS hIf hSf _ 0 H _ _ _ rfl (zL _) I0 w0 fI fS ff #[_,gI,rfl,rfl] gS hf0 (.inl #[rfl,h0])
section
variable {X:Cx}{Z:Zx}{aA:LA}{σ:St}{H H2:Hp}{s:Shared}
theorem Dx {r:List Addr}{S:Sto}{n:Nat}{P:Addr}{lp:Pos}{q:Str}{ps ps':Array Value}(kn:∀o,X.K.lookup P≠some o)(bA:Rel X.K Z r S H)(hS:S[n]?=some (.cod P lp q))(hP:H P=some (.tbl ps))(hP2:H2 P=some (.tbl ps'))(tab:Tab lp q H2 ps')(hH:∀b o,H b=some o->b≠P->H2 b=some o):
  Rel X.K Z r S H2/\Ext r r H H2:=by
 have x:Ext r r H H2:=#[λ_ _ e=>e,λa xs e=>hH a _ e λz=>(by rw[z,hP] at e;cases e),λa φ e=>hH a _ e λz=>(by rw[z,hP] at e;cases e)];obtain⟨a0,ea0,e0,_⟩:=bA.at hS;subst e0;refine#[#[#[bA.b.len,λm a o h1 h2=>?_,bA.b.nd],bA.xw.ext x],x];have q0:=bA.b.ob m a o h1 h2;by_cases z:a=a0
 .subst z;by_cases ho:WB o=true
  .have e:m=n:=bA.b.nd m n a o _ h1 ea0 h2 hS ho rfl;subst e;rw[hS] at h2;cases h2;exact#[rfl,ps',hP2,tab]
  .cases o with
   | frz ds=>
    obtain⟨xs,y,_⟩:=q0;rcases y with ⟨o,y⟩|⟨o,_,_,y,_⟩
    .rw[hP] at y;cases y
    .exact absurd y (kn o)
   | tpl ws=>
    obtain⟨o,_,_,y,_⟩:=q0;exact absurd y (kn o)
   | lst _=>exact absurd rfl ho
   | ins _ _=>exact absurd rfl ho
   | dct _=>exact absurd rfl ho
   | dck _=>exact absurd rfl ho
   | cod _ _ _=>exact absurd rfl ho
 .exact q0.keep x λu e=>hH a u e z
def SE (caps:List Nat)(P:Addr)(lp:Pos)(q:Str)(te:TDE)(dl:Ev)(Q:DK)(d:D)(S1:Sto):Prop:=match d with
 | .ref n=>(∃t:Nat,S1[t]?=some (Ob.cod P lp q))/\match lAt S1 n with
  | some o=>(Zk o=[]->Q .non S1)/\(∀(i:Nat)(v:D)(S2:Sto),(Zk o)[i]?=some v->Pre S1 S2->te (some v::Yd caps dl) S2 λy S3=>(∃k:Int,y=.int k)/\Pre S1 S3)/\∀(i:Nat)(v:D)(S2:Sto),(Zk o)[i]?=some v->Pre S1 S2->Q v S2
  | none=>False
 | _=>False
@[irreducible] def S7 (caps:List Nat)(P:Addr)(lp:Pos)(q:Str)(tl te:TDE):TDE:=λdl S Q=>tl dl S (SE caps P lp q te dl Q)
def BM (mg:Str->Option Value)(base:Heap):Prop:=∃bm o,mg "__builtins__"=some (.ref bm)/\bm≠builtinsNs/\bm≠mainGlobals/\base.get? bm=some o/\o.cls=.type "module"/\o.dict=some builtinsNs/\o.data=.plain
theorem Bc {a body:Expr}{tl te:TDE}{x:Str}{N:List Str}{caps:List Nat}{params:Arguments}{sc ar:Scope}{c P:Addr}{q:Str}{lp p pos kp dp np:Pos}{j:Nat}(har:X.env.scope=ar)(hc:X.calm=true)(cs:Tg sc ar [x] N)(hN:Hn X caps N)
  (hg:Gl X "max")(hm:X.mg "max"=none)(hv:bootBuiltins "max"=some (.builtin "max"))(hr:X.A.in1.depth<recursionLimit)(hcode:X.env.code=.ref c)(C:CodeHd X.base c P)(hb:BM X.mg X.base)(kn:∀o,X.K.lookup P≠some o)(hq:X.env.qual++"<lambda>"=q)
  (ha:PD X Z a tl)(he:∀f cd cl L s0 H0,PD (Cx.lam X X.A.in1 sc ([x]++N) q f cd cl L s0 H0) Z0 body te)
  (hbind:∀cl pm cd ctv u,bindArgs (kla_fn "<lambda>" q params body sc cl pm cd ctv) #[[u],[]]=pure ([x].zip [u]):=by intros;rfl)(hdef:defaultsOf params X.env=([],[]):=by rfl)(hs:starEach [a] X.env=[(false,eval a X.env)]:=by rfl):
  PD X Z (.Call (.Name "max" p) [a] [#[some "key",.Lambda params body sc lp,kp],#[some "default",.Constant .none j np,dp]] pos) (S7 caps P lp q tl te):=by
 subst har;subst hq;intro aA s σ H Qv I h;obtain⟨r,dl,S,Q,rs,bA,h,ret⟩:=h;unfold S7 at h;refine wpAny_Call_Name_kw (Wx I hg hm hv ?_ ⋯ ⋯);have hda:PDA X Z [a] (Ux tl U9):=Za ha Zg hs;refine PyProof.Rows.callWith_kw (thn (hda pos aA s σ H (λvs H1=>∃(r1:List Addr)(S1:Sto)(d:D)(v:V),vs=[v]/\Ext r r1 H H1/\Rel X.K Z r1 S1 H1/\Rp r1 H1 d v/\SE caps P lp (X.env.qual++"<lambda>") te dl Q d S1) I ?_) λus s1 #[vs,H1,I1,rvs,r1,S1,d,v,evs,x1,aE,pd,hk]=>?_) (by show backTo pos (starEach [a] X.env)=_;rw[hs];rfl) (by rw[hs];rfl)
 .refine#[r,dl,S,λds S1=>match ds with|[d]=>SE caps P lp (X.env.qual++"<lambda>") te dl Q d S1|_=>False,rs,bA,h,λvs H1 r1 ds S1 e1 aE p1 q1=>?_];split at q1
  .rename_i d;obtain⟨v,vs',rfl,p2,p3⟩:=p1.uncons;have z:=p3.unnil;subst z;exact#[r1,S1,d,v,rfl,e1,aE,p2,q1]
  .exact q1.elim
 unfold SE at hk;split at hk
 rotate_left
 .exact hk.elim
 rename_i n;cases pd with
 | @ref _ a0 ha0=>
  obtain⟨⟨t,ht⟩,hk⟩:=hk;split at hk
  rotate_left
  .exact hk.elim
  rename_i o ho;obtain⟨q0,q1,q2⟩:=hk;subst evs;obtain⟨u0,rfl,ru0⟩:=Wq rvs;cases ru0;obtain⟨cl,k1,k2,k3⟩:=MI (sc:=sc) (env:=X.env) λy hy hf=>I.ok.has y.1 (.inl (cs.out y hy hf))
  obtain⟨aP,eaP,eP,ps,hP,tab⟩:=aE.at ht;subst eP;refine PyProof.Rows.kws_cons (kla_eval hdef (Az I1 k1 hcode C hb hP tab λf cd ctv H2 ps' s2 I2 hP2 tab2 hH hrec hc' hf ff=>?_));obtain⟨aF,x2⟩:=Dx kn aE ht hP hP2 tab2 hH;refine PyProof.Rows.kws_cons (Constant_none (PyProof.Rows.kws_nil ?_));obtain⟨c',rfl,hc'⟩:=hc';obtain⟨hSn,hkL⟩:=Y3 ho;have hob:=aF.b.ob n a0 o ha0 hSn;obtain⟨xs0,sq0,rp0⟩:=hob.list hkL;have x12:Ext r r1 H H2:=x1.trans x2;refine BK hc (N:=(Zk o).length) (M:=λi v H'=>∃d,(Zk o)[i]?=some d/\Rp r1 H' d v) (W:=λ_ H'=>∃r2 S2,Ext r1 r2 H2 H'/\Z2 X.K r2 S2 H'/\Pre S1 S2) (Q:=Qv) (d:=.non) I2 #[r1,S1,Ext.refl,aF.b,Pre.refl] ?_ ?_ ?_ ff hf rfl ?_
  .rintro i H' ⟨r2,S2,e2,rb,pr⟩;obtain⟨xs,sq,rp⟩:=(rb.ob n a0 o (e2.adr _ _ ha0) (pr _ _ hSn)).list hkL;refine#[xs,sq,rp.1.symm,λj v hv=>?_];have lj:j<(Zk o).length:=by
    have:=(zC.mp hv).1;rw[rp.1];exact this
   have hd:=zD lj;obtain⟨v0,_,p0⟩:=rp0.get hd;exact#[_,hd,(rp.2 j _ v hd hv).low (QI e2) p0.sco]
  .rintro i v u H' s' ⟨d,hd,pv⟩ ru ⟨r2,S2,e2,rb,pr⟩ I' hf';have hcr:s'.heap.CodeRec (.ref c') (X.env.qual++"<lambda>"):=(I'.hok c' _ (e2.xc _ _ hc')).1
   have eL:Ext r1 r2 H' H':=#[e2.adr,λ_ _ z=>z,λ_ _ z=>z];refine Kf (vs:=[v]) (us:=[u]) (te:=up X.K Z0 te) I' cs (Xi hN).1 (Xi hN).2 k2 k3 (I'.ok.hd hc) I'.ok.frames (.cons ru .nil) rfl hr hf' hcr (hbind _ _ _ _ _) (he _ _ _ _ _ _) ?_;refine#[r2,some d::Yd caps dl,S2,_,QA ((rs.ext x12).ext e2) (pv.ext eL),#[rb,λ_ _ _ _ _ _ _ _ _ z=>z.elim],q1 i d S2 hd pr,λy H3 r3 dy S3 x3 aG p3 #[#[k,ek],pr3]=>?_];subst ek;cases p3;refine#[#[k,rfl],#[r3,S3,e2.trans x3,aG.b,pr3],λk v #[d,hd,pv]=>#[d,hd,pv.ext #[λ_ _ z=>z,x3.tup,x3.xc]]]
  .rintro H' ⟨r2,S2,e2,rb,pr⟩ i v ⟨d,hd,pv⟩;have eL:Ext r1 r2 H' H':=#[e2.adr,λ_ _ z=>z,λ_ _ z=>z];exact ret v H' r2 d S2 (x12.trans e2) #[rb,(bA.xw.ext x12).ext e2] (pv.ext eL) (q2 i d S2 hd pr)
  .intro e;exact ret .non H2 r1 .non S1 x12 aF .non (q0 (tG.mp e))
end
def Q1 (P:Addr)(ps:Array Value)(H:Hp):Prop:=H P=some (.tbl ps)/\∀b,b≠P->H b=none\/∃o xs,H b=some (.frz o (.lst xs))
theorem Jy {Pg:Program}{w:World}{K:Fg}{mg mb:Str->Option Value}{CX:CXT}{k:Nat}{fa a P:Addr}{ps:Array Value}{fd:FuncData}{x:Str}{sp:Sp}{s₁:Shared}{vs:List Value}{ns:List Int}
  (KX:K.In s₁.heap)(hns:s₁.heap.Ns mainGlobals mg)(hb:s₁.heap.Ns builtinsNs mb)(hbb:∀x:Str,x≠"__name__"->mb x=bootBuiltins x)(hlim:s₁.heap.NoLimit)(hg:s₁.gens=(List.toArray []))
  (ha:s₁.heap.get? a=some { cls:=.type "list",data:=.seq vs.toArray })(hi:IntsAre vs ns)(hl:ns.length<=sizeLine)(hr:ZI k callerA)(hP:s₁.heap.get? P=some { cls:=.none,data:=.fields ps })(ht:isCodeTable s₁.heap P)(kP:K.lookup P=none)(hbm:BM mg s₁.heap)
  (F:∀base:Heap,K.In base->base.Ns mainGlobals mg->BM mg base->Yk Pg w K mg base CX k fa fd [x] sp)(hbind:∀(s:Shared)(u:Value),BindsTo s fd #[[u],[]] [(x,u)])
  (hsp:∀H:Hp,Q1 P ps H->a≠P->SqL K H a (ns.map V.int)->sp [.ref a] H (λv _=>v=.bl true) λ_ _ _=>False)
  (hCX:∀H e s',CX [] H s₁ (λ_ _ _=>False) e s'->False):
  codeAny (model Pg w) callerA (.call (.ref fa) #[[.ref a],[]]) (λr s'=>r=.ok (.ret (.bool true))/\OldK s₁.heap s'.heap/\s'.os=s₁.os/\AllBare s'.gens) s₁:=by
 have rv:=RR hi
 have lenV:=hi.length
 have aP:a≠P:=λe=>by rw[e,hP] at ha;cases ha
 have core:∀H:Hp,Q1 P ps H->SqL K H a (ns.map V.int)->HOk Pg w H s₁.heap->(∀b,H b≠none->b=a\/b=P)->(H a≠none->K.lookup a=none)->
   codeAny (model Pg w) callerA (.call (.ref fa) #[[.ref a],[]]) (λr s'=>r=.ok (.ret (.bool true))/\OldK s₁.heap s'.heap/\s'.os=s₁.os/\AllBare s'.gens) s₁:=by
  intro H hO hS hok hA hK;have base_of:∀ {b:Addr} {o:Obj},s₁.heap.get? b=some o->H b=none->(X9 s₁.heap H).get? b=some o:=λe n=>EI e n
  have noA:∀ {b:Addr} {o:Obj},s₁.heap.get? b=some o->(∀aY n,o.data≠.seq aY n)->(∀f,o.data≠.fields f)->H b=none:=λ{b o} e d1 d2=>by
   cases q:H b with
   | none=>rfl
   | some u=>
    rcases hA b (by rw[q];simp) with e'|e'
    .subst e';rw[ha] at e;cases e
     exact absurd rfl (d1 _ _)
    .subst e';rw[hP] at e;cases e
     exact absurd rfl (d2 _)
  have nsK:∀ {b:Addr} {m:Str->Option Value},s₁.heap.Ns b m->(X9 s₁.heap H).Ns b m:=λ{b m} #[o,es,ep,e,d,r]=>#[o,es,ep,base_of e (noA e (λ_ _ z=>by rw[d] at z;cases z) (λ_ z=>by rw[d] at z;cases z)),d,r]
  have hKb:K.In (X9 s₁.heap H):=λb o e=>base_of (KX b o e) (by
   cases q:H b with
   | none=>rfl
   | some u=>
    rcases hA b (by rw[q];simp) with e'|e'
    .subst e';rw[hK (by rw[q];simp)] at e;cases e
    .subst e';rw[kP] at e;cases e)
  have hM:Mod K mg (X9 s₁.heap H):=#[hKb,nsK hns,#[mb,nsK hb,hbb],let #[mc,h1,h2]:=hlim;#[mc,nsK h1,h2]]
  have hB:BM mg (X9 s₁.heap H):=by
   obtain⟨bm,o,b1,b2,b3,b4,b5,b6,b7⟩:=hbm;exact#[bm,o,b1,b2,b3,base_of b4 (noA b4 (λ_ _ z=>by rw[b7] at z;cases z) (λ_ z=>by rw[b7] at z;cases z)),b5,b6,b7]
  have e0:W4 Pg w K mg (X9 s₁.heap H) callerA [] s₁ H:=#[rfl,hM,λb o e=>G3 e,Nat.le_of_eq (DV _ _),trivial,λb hb=>absurd (show b∈([]:List Addr) from hb) (by simp),hok,.of_eq hg];refine codeAny_mono ((F _ hKb (nsK hns) hB).run callerA [] s₁ H #[[.ref a],[]] [.ref a] [.ref a] _ _ hr e0 (hbind s₁ (.ref a)) (.cons rfl .nil) (hsp H hO aP hS)) λr s' h=>?_
  cases r with
  | error e=>exact(hCX H e s' h).elim
  | ok fl=>
   cases fl with
   | next=>exact False.elim h
   | brk=>exact False.elim h
   | cont=>exact False.elim h
   | ret u=>
    obtain⟨v,H',os,bare,un,hok',r',q⟩:=h;have q':v=.bl true:=q;subst q';obtain rfl:u=Value.bool true:=r';refine#[rfl,#[λb o e=>?_,λb o e=>un.there b o e (by simp)],os,bare];by_cases z:b=P
    .subst z;obtain⟨more,em⟩:=un.tbls b ps hO.1;have e2:=hok' b _ em;rw[hP] at e;cases e;exact .inr (.inl #[ht,rfl,ps,more,rfl,e2])
    .refine .inl ?_;cases q:H b with
     | none=>exact un.keep b o e q (by intro z;exact absurd (show b∈([]:List Addr) from z) (by simp)) (by simp)
     | some u=>
      rcases hO.2 b z with z|⟨ob,xs,z⟩
      .rw[q] at z;cases z
      .have z2:=un.frzs b ob _ z;obtain⟨e1,_⟩:=hok b _ z;obtain⟨e2,_⟩:=hok' b _ z2;rw[e] at e1;cases e1
       exact e2
 cases hk:K.lookup a with
 | some o=>
  have e:=KX a o hk;rw[ha] at e;cases e;refine core (λb=>if b=P then some (.tbl ps) else none) #[if_pos rfl,λb nb=>.inl (if_neg nb)] (.inr #[_,vs.toArray,_,hk,rfl,rfl,rfl,by rw[zI,lenV];exact hl,by simpa using rv]) (λb u z=>?_) (λb z=>?_) λz=>absurd (if_neg aP) z
  .by_cases hb:b=P
   .have z':=(if_pos hb).symm.trans z;cases z';subst hb;exact hP
   .have z':=(if_neg hb).symm.trans z;cases z'
  .by_cases hb:b=P
   .exact .inr hb
   .exact absurd (if_neg hb) z
 | none=>
  refine core (λb=>if b=P then some (.tbl ps) else if b=a then some (.frz { cls:=.type "list",data:=.seq vs.toArray } (.lst (ns.map V.int))) else none) #[if_pos rfl,λb nb=>?_] (.inl (.inr #[{ cls:=.type "list",data:=.seq vs.toArray },(if_neg aP).trans (if_pos rfl)])) (λb u z=>?_) (λb z=>?_) λ_=>hk
  .by_cases hb:b=a
   .exact .inr #[_,_,(if_neg nb).trans (if_pos hb)]
   .exact .inl ((if_neg nb).trans (if_neg hb))
  .by_cases hp:b=P
   .have z':=(if_pos hp).symm.trans z;cases z';subst hp;exact hP
   .by_cases hb:b=a
    .have z':=((if_neg hp).trans (if_pos hb)).symm.trans z;cases z';subst hb;exact#[ha,by rw[zB];exact hl,vs,_,rv,ha]
    .have z':=((if_neg hp).trans (if_neg hb)).symm.trans z;cases z'
  .by_cases hp:b=P
   .exact .inr hp
   .by_cases hb:b=a
    .exact .inl hb
    .exact absurd ((if_neg hp).trans (if_neg hb)) z
def UD (P:Addr)(lp:Pos)(q:Str):Sd:=λds S Q _=>∃ns:List Int,ds=[.ref 0]/\S=[.frz (ns.map D.int),.cod P lp q]/\ns.length<=63/\∀S',Q (.bl true) S'
theorem JT:∀ds S Q ex,UD P lp q ds S Q ex->ds.length=1:=λds S Q ex h=>by
 obtain⟨ns,rfl,_⟩:=h;rfl
theorem GB {K:Fg}{H:Hp}{a P:Addr}{ps:Array Value}{lp:Pos}{q:Str}{ns:List Int}(hl:ns.length<=63)(hO:Q1 P ps H)(aP:a≠P)(tr:TriplesOk ps.toList)(hn:codeAmong lp ps.toList=none)(hS:SqL K H a (ns.map V.int)):upF K (UD P lp q) [.ref a] H (λv _=>v=.bl true) λ_ _ _=>False:=by
 have sf:SqF K H a (ns.map V.int):=by
  rcases hS with (h|⟨o,h⟩)|h
  .rcases hO.2 a aP with z|⟨o,ys,z⟩
   .rw[h] at z;cases z
   .rw[h] at z;cases z
  .exact .inl #[o,h]
  .exact .inr h
 refine#[λ_ _=>False,[a,P],[.frz (ns.map D.int),.cod P lp q],[.ref 0],λd _=>d=.bl true,#[#[rfl,λn b o h1 h2=>?_,λn m b xs ys h1 h2 h3 h4 o1 o2=>?_],λ_ _ _ _ _ _ _ _ _ z=>z.elim],Rps.cons (.ref rfl) Rps.nil,#[ns,rfl,rfl,hl,λ_=>rfl],λv H' r' d S' e bA p q=>?_]
 .match n,h1,h2 with
  | 0,h1,h2=>
   cases h1;cases h2
   exact#[_,sf,Cr ns]
  | 1,h1,h2=>
   cases h1;cases h2
   exact#[rfl,ps,hO.1,tr,.inl hn]
  | n+2,h1,h2=>cases h1
 .match n,m,h1,h2,h3,h4 with
  | 0,m,h1,h2,h3,h4=>cases h3;cases o1
  | 1,0,h1,h2,h3,h4=>cases h4;cases o2
  | 1,1,h1,h2,h3,h4=>rfl
  | 1,m+2,h1,h2,h3,h4=>cases h2
  | n+2,m,h1,h2,h3,h4=>cases h1
 .subst q;cases p;rfl
theorem Ar {l:W.OpenLaw}{q:Program}{aJ:List Str}{XP:(Str->Option Value)->Heap->Prop}{YP:World->Heap->Prop}{d:DefRec}{K:Params->Fg}{x:Str}{P c:Addr}{ps:Array Value}{lp:Pos}{lq:Str}(k:Nat)(hn:l.most=some 63)(hdf:d.params.defaults=[])(hr:ZI k callerA)
  (hY:∀(w:World)(h:Heap),YP w h->(K w.params).In h/\h.get? P=some { cls:=.none,data:=.fields ps })(hC:∀(p:Params)(h:Heap),(K p).In h->CodeHd h c P)(kP:∀p:Params,(K p).lookup P=none)(tr:TriplesOk ps.toList)(hcn:codeAmong lp ps.toList=none)
  (F:∀(w:World)(mg:Str->Option Value)(fa:Addr)(h:Heap),(K w.params).In h->h.Ns mainGlobals mg->mg d.name=some (.ref fa)->
   ∃fd:FuncData,(∀(s:Shared)(u:Value),BindsTo s fd #[[u],[]] [(x,u)])/\∀base:Heap,(K w.params).In base->base.Ns mainGlobals mg->BM mg base->Yk l.prog w (K w.params) mg base (CXE l.prog w) k fa fd [x] (upF (K w.params) (UD P lp lq))):
  W.WalkO q aJ XP YP l.row.toRowW d [] (λf vs=>PySem.call f vs):=by
 refine Att.attach_call hn hdf λw s₀ s₁ mg mb fa o pm cd doc a vs ns G Y ho hd hcd hmg hobj hints aQ hg=>?_
 obtain⟨KX,hP⟩:=hY w _ Y;obtain⟨fd,hb,hF⟩:=F w mg fa _ KX G.T.g hmg;have hbm:BM mg s₁.heap:=by
  obtain⟨bm,ob,b1,b2,b3,b4,b5,b6⟩:=G.T.bmain;refine#[bm,ob,b1,b2,λe=>?_,b3,b4,b5,b6];obtain⟨o,es,ep,e2,hd,_⟩:=G.T.g;rw[e,e2] at b3;cases b3;rw[hd] at b6;cases b6
 exact Jy KX G.T.g G.T.b G.T.builtins G.T.nolimit hg hobj hints (yJ aQ ⋯) hr hP ((hC _ _ KX).tab hP).isCodeTable (kP _) hbm hF hb (λH hO aP hS=>GB aQ hO aP tr hcn hS) λ_ _ _ #[_,_,_,_,_,_,_,_,_,_,_,_,z]=>z
theorem AO {prog:Program}{w:World}{A:Around}{R:Result->Shared->Prop}(hh:A.handled=none){l it S:Addr}{zs:List Int}{aY:List Value}(hi:IntsAre aY zs)(hlI:l≠it)(hlS:l≠S)(hIS:it≠S){dv:Value}{h₀:Heap}{g:Array GenState}{dr:Drawn}{os:OsState}
  (hR:∀(b:Int)(t:Tok)(h':Heap)(tk':Nat),b∈zs->(∀y∈zs,y<=b)->(∀a o,a≠it->a≠S->h₀.get? a=some o->h'.get? a=some o)->R (.ok (.ret (.int b t))) #[h',g,dr,tk',os])
  (hD:zs=[]->∀(h':Heap)(tk':Nat),(∀a o,a≠it->a≠S->h₀.get? a=some o->h'.get? a=some o)->R (.ok (.ret dv)) #[h',g,dr,tk',os]):
  ∀(n j:Nat)(h:Heap)(tk:Nat)(ob:Array Value)(c:Nat),zs.length-j=n->j<=zs.length->h.IsList l aY.toArray->(∀a o,a≠it->a≠S->h₀.get? a=some o->h.get? a=some o)->h.IsListIter it l j->h.get? S=some (seqObj "list" ob c)->(ob=(List.toArray [])/\j=0\/∃(b:Int)(t:Tok),ob=(List.toArray [.int b t,.int b t])/\b∈zs/\∀y∈zs.take j,y<=b)->
   codeAny (model prog w) A (.builtin "max.loop" #[[.ref it,.none,.ref S],[(Str.ofString "default",dv)]]) R #[h,g,dr,tk,os]:=by
 have hname:(toString "max"++toString ".loop":String)="max.loop":=by decide
 have Wk:=Walks.list (prog:=prog) (w:=w) (A:=A.in1) hh it l hlI aY.toArray
 have aQ:=hi.length;intro n
 induction n with
 | zero=>
  intro j h tk ob c hn hj hl kp hit hS hvb;have ej:j=aY.length:=by omega
  refine codeAny_builtin PySem.F.entry_max_loop ?_;refine wpAny_bind (wpAny_seqItems hS rfl ?_);refine wpAny_bind (wpAny_tryCatch (Wk.done _ _ _ #[by rw[zI,<- ej];exact hit,hl] λh' tk' hk'=>?_));rcases hvb with ⟨rfl,e0⟩|⟨b,t,rfl,hb,hbest⟩
  .exact wpAny_bind (wpAny_rule (wpAny_pure (hD (tG.mp (by omega)) _ _ λa o n1 n2 e=>hk' a o (by simpa using n1) (kp a o n1 n2 e))))
  have hS':=hk' S _ (by simpa using hIS.symm) hS;refine wpAny_bind ?_;refine wpAny_updateSeq hS' rfl (wpAny_bind (wpAny_letGo (wpAny_pure ?_)));have s1:=Heap.SameBut.update h' S (Obj.mapSeq λ_=>((List.toArray []):Array Value));refine hR b t _ _ hb (λy hy=>hbest y (by rw[yI (by omega)];exact hy)) λa o n1 n2 e=>(s1.2 a n2).trans (hk' a o (by simpa using n1) (kp a o n1 n2 e))
 | succ n ih=>
  intro j h tk ob c hn hj hl kp hit hS hvb;refine codeAny_builtin PySem.F.entry_max_loop ?_;refine wpAny_bind (wpAny_seqItems hS rfl ?_);refine wpAny_bind (wpAny_tryCatch (Wk.item j _ _ _ (by rw[zI];omega) #[hit,hl] λu h' tk' hP hst' hk'=>?_));have hu:aY[j]?=some u:=by simpa using hP
  obtain⟨z,hz⟩:∃z,zs[j]?=some z:=#[_,zD (by omega)];obtain⟨t2,ht2⟩:=hi.get j z hz;rw[hu] at ht2;cases ht2;have hk1:∀a o,a≠it->h.get? a=some o->h'.get? a=some o:=λa o na e=>hk' a o (by simpa using na) e
  have hS1:=hk1 S _ hIS.symm hS
  have tk1:zs.take (j+1)=zs.take j++[z]:=by rw[List.take_add_one,hz];rfl
  have s1:=Heap.SameBut.update h' S (Obj.mapSeq λ_=>(List.toArray [.int z t2,.int z t2]));obtain⟨c2,hc2⟩:∃c2,(h'.update S (Obj.mapSeq λ_=>(List.toArray [.int z t2,.int z t2]))).get? S=some (seqObj "list" (List.toArray [.int z t2,.int z t2]) c2):=#[_,get?_update_seq hS1 λ_=>(List.toArray [.int z t2,.int z t2])];have go:=λ(tk0:Nat)(best:∀y∈zs.take j,y<=z)=>ih (j+1) (h'.update S (Obj.mapSeq λ_=>(List.toArray [.int z t2,.int z t2]))) tk0 _ c2 (by omega) (by omega) (by obtain⟨ol,hol,r⟩:=id hst'.2;exact#[ol,(s1.2 l hlS).trans hol,r]) (λa o n1 n2 e=>(s1.2 a n2).trans (hk1 a o n1 (kp a o n1 n2 e))) (by obtain⟨oI,hoI,hoc,hod⟩:=id hst'.1;exact#[oI,(s1.2 it hIS).trans hoI,hoc,hod]) hc2 (.inr #[z,t2,rfl,zE hz,λy hy=>by
   rw[tk1] at hy;rcases zX.1 hy with hy|hy
   .exact best y hy
   .rw[zO.mp hy];exact zS _])
  rcases hvb with ⟨rfl,rfl⟩|⟨b,t,rfl,hb,hbest⟩
  .show wpAny _ A.in1 (updateSeq S (λ_=>(List.toArray [.int z t2,.int z t2])) >>= _) _ _ _;refine wpAny_bind (wpAny_updateSeq hS1 rfl ?_);exact wpAny_pure #[plainId_quiet PySem.F.plain_max_loop _,go _ λy hy=>by simp at hy]
  show wpAny _ A.in1 (tryCatch (holding [.int z t2,.int z t2] (richCompare .Gt (.int z t2) (.int b t) >>= _)) _ >>= _) _ _ _;refine wpAny_bind (wpAny_tryCatch (wpAny_holding (wpAny_bind (CmpOf.ints_gt (λi=>([z,b]:List Int).getD i 0) (λi v h=>h) 0 1 _ _ _ _ _ #[t2,rfl] #[t,rfl] ?_))));refine wpAny_bind (wpAny_holding (wpAny_truthy_bool ?_));refine wpAny_bind (wpAny_letGo (wpAny_pure ?_));by_cases hb':([z,b]:List Int).getD 0 0 > ([z,b]:List Int).getD 1 0
  .simp only[hb',decide_true,if_true];have hb2:z > b:=hb';refine wpAny_bind ?_;refine wpAny_updateSeq hS1 rfl (wpAny_bind (wpAny_letGo ?_));exact wpAny_pure #[plainId_quiet PySem.F.plain_max_loop _,go _ λy hy=>by have:=hbest y hy;omega]
  .simp only[hb',decide_false,uE,if_false];have hb2:¬ z > b:=hb';refine wpAny_bind (wpAny_letGo ?_);refine wpAny_pure #[plainId_quiet PySem.F.plain_max_loop _,ih (j+1) _ _ _ c (by omega) (by omega) hst'.2 (λa o n1 n2 e=>hk1 a o n1 (kp a o n1 n2 e)) hst'.1 hS1 (.inr #[b,t,rfl,hb,λy hy=>?_])];rw[tk1] at hy;rcases zX.1 hy with hy|hy
   .exact hbest y hy
   .rw[zO.mp hy];omega
theorem FW (a d:Value):argsOk "max" #[[a],[(Str.ofString "default",d)]]:=by unfold argsOk;kernel_rfl
theorem HH (hc:X.calm=true){l:Addr}{zs:List Int}{Q:VK}{d:V}{dv:Value}(I:Inv X aA σ H s)(hsq:SqL X.K H l (zs.map V.int))(rd:Zw d dv)(h0:zs=[]->Q d H)(hQ:∀m,m∈zs->(∀y∈zs,y<=m)->Q (.int m) H):
  wpAny (mX X) X.A (call (.builtin "max") [.ref l] [(Str.ofString "default",dv)]) (EP X aA σ Q) X.xe s:=by
 have hname:(toString "max"++toString ".loop":String)="max.loop":=by decide
 obtain⟨aY,rv,pl,hz⟩:=I.list hsq;have hi:=AQ rv
 have hls:=pl.isList;obtain⟨ol,hol,hrl⟩:=id hls;have hll:l<s.heap.objs.size:=Heap.lt_size hol;refine kmk_tree PySem.F.kind_max PySem.F.plain_max PySem.F.entry_max (FW _ _) ?_;refine wpAny_bind (wpAny_of_eq (show Builtin.Builtins.bindParams "max" ["key","default"] 0 #[[],[(Str.ofString "default",dv)]]=pure [none,some dv] from rfl) ?_);refine wpAny_bind (wpAny_pure ?_);refine wpAny_bind (wpAny_pyIter_list hls ?_);refine wpAny_bind (wpAny_newList ?_ (zL _));have hS:(s.heap.push { cls:=.type "list_iterator",data:=.fields (List.toArray [.ref l,.int 0 0]) }).objs.size=s.heap.objs.size+1:=size_push' ..;refine wpAny_pure #[plainId_quiet PySem.F.plain_max_loop _,?_];generalize ePI:s.heap.push { cls:=.type "list_iterator",data:=.fields (List.toArray [.ref l,.int 0 0]) }=hI at hS ⊢;have hk0:∀b o,s.heap.get? b=some o->(hI.push (seqObj "list" (List.toArray []) 0)).get? b=some o:=λb o e=>Heap.get?_push_of_some _ (by rw[<- ePI];exact Heap.get?_push_of_some _ e)
 have gI:(hI.push (seqObj "list" (List.toArray []) 0)).get? s.heap.objs.size=some { cls:=.type "list_iterator",data:=.fields (List.toArray [.ref l,.int 0 0]) }:=Heap.get?_push_of_some _ (by rw[<- ePI];exact Heap.get?_push_size _ rfl)
 have gS:(hI.push (seqObj "list" (List.toArray []) 0)).get? hI.objs.size=some (seqObj "list" (List.toArray []) 0):=Heap.get?_push_size _ rfl
 have leS:s.heap.objs.size<=hI.objs.size:=by rw[hS];exact wF _
 have hlI:l≠s.heap.objs.size:=zN hll
 have hlS:l≠hI.objs.size:=zN (zV hll leS)
 have hIS:s.heap.objs.size≠hI.objs.size:=by rw[hS];exact zN (vD _)
 have old:∀a o,s.heap.get? a=some o->a≠s.heap.objs.size/\a≠hI.objs.size:=λa o e=>#[zN (Heap.lt_size e),zN (zV (Heap.lt_size e) leS)]
 have aZ:∀(h':Heap)(tk':Nat),(∀a o,a≠s.heap.objs.size->a≠hI.objs.size->(hI.push (seqObj "list" (List.toArray []) 0)).get? a=some o->h'.get? a=some o)->Inv X aA σ H { s with heap:=h',toks:=tk' }:=λh' tk' k=>I.kept λb u e=>k b u (old b u e).1 (old b u e).2 (hk0 b u e)
 have ls0:(hI.push (seqObj "list" (List.toArray []) 0)).IsList l aY.toArray:=#[ol,hk0 _ _ hol,hrl];exact AO (I.ok.hd hc) hi hlI hlS hIS (λb t h' tk' hb hbest k=>#[.int b,H,aZ h' tk' k,#[t,rfl],hQ b hb hbest]) (λe h' tk' k=>#[d,H,aZ h' tk' k,rd,h0 e]) _ 0 _ _ _ _ rfl (zL _) ls0 (λa o _ _ e=>e) #[_,gI,rfl,rfl] gS (.inl #[rfl,rfl])
theorem Ep {r:List Addr}:∀ {ds:List D} {zs:List Int} {vs:List V},Y7 ds=some zs->Rps r H ds vs->vs=zs.map V.int:=λ{ds}=>by
 induction ds with
 | nil=>
  intro zs vs h p;have z:=p.unnil;subst z;simp[Y7] at h;subst h;rfl
 | cons d ds ih=>
  intro zs vs h p;obtain⟨v,vs',rfl,p1,p2⟩:=p.uncons;cases d with
  | int i=>
   simp only[Y7,zH] at h;obtain⟨zr,h,rfl⟩:=h;cases p1;rw[ih h p2];rfl
  | _=>simp[Y7] at h
def Ul (Q:DK)(d e:D)(S:Sto):Prop:=match d with
 | .ref n=>match lAt S n with
  | some o=>∃zs,Y7 (Zk o)=some zs/\(zs=[]->Q e S)/\∀m,m∈zs->(∀y∈zs,y<=m)->Q (.int m) S
  | none=>False
 | _=>False
@[irreducible] def Rk (tl td:TDE):TDE:=λdl S Q=>tl dl S λd S1=>td dl S1 λe S2=>Ul Q d e S2
theorem DI (hc:X.calm=true)(hg:Gl X "max")(hm:X.mg "max"=none)(hv:bootBuiltins "max"=some (.builtin "max"))(ha:PD X Z a tl)(hd:PD X Z b td)(hs:starEach [a] X.env=[(false,eval a X.env)]:=by rfl):
  PD X Z (.Call (.Name "max" p) [a] [#[some "default",b,dp]] pos) (Rk tl td):=by
 intro aA s σ H Qv I h;obtain⟨r,dl,S,Q,rs,bA,h,ret⟩:=h;unfold Rk at h;refine wpAny_Call_Name_kw (Wx I hg hm hv ?_ ⋯ ⋯);have hda:PDA X Z [a] (Ux tl U9):=Za ha Zg hs;refine PyProof.Rows.callWith_kw (thn (hda pos aA s σ H (λvs H1=>∃(r1:List Addr)(S1:Sto)(d:D)(v:V),vs=[v]/\Ext r r1 H H1/\Rel X.K Z r1 S1 H1/\Rp r1 H1 d v/\td dl S1 λe S2=>Ul Q d e S2) I ?_) λus s1 #[vs,H1,I1,rvs,r1,S1,d,v,evs,x1,aE,pd,hk]=>?_) (by show backTo pos (starEach [a] X.env)=_;rw[hs];rfl) (by rw[hs];rfl)
 .refine#[r,dl,S,λds S1=>match ds with|[d]=>td dl S1 λe S2=>Ul Q d e S2|_=>False,rs,bA,h,λvs H1 r1 ds S1 e1 aE p1 q1=>?_];split at q1
  .rename_i d;obtain⟨v,vs',rfl,p2,p3⟩:=p1.uncons;have z:=p3.unnil;subst z;exact#[r1,S1,d,v,rfl,e1,aE,p2,q1]
  .exact q1.elim
 subst evs;obtain⟨u0,rfl,ru0⟩:=Wq rvs;refine PyProof.Rows.kws_cons (thn (hd aA s1 σ H1 (λe H2=>∃(r2:List Addr)(S2:Sto)(de:D),Ext r1 r2 H1 H2/\Rel X.K Z r2 S2 H2/\Rp r2 H2 de e/\Ul Q d de S2) I1 #[r1,dl,S1,_,rs.ext x1,aE,hk,λe H2 r2 de S2 x2 aF p2 q2=>#[r2,S2,de,x2,aF,p2,q2]]) λue s2 #[e,H2,I2,re,r2,S2,de,x2,aF,pe,hk]=>PyProof.Rows.kws_nil ?_);unfold Ul at hk;split at hk
 rotate_left
 .exact hk.elim
 rename_i n hk0 ep;cases pd with
 | @ref _ a0 ha0=>
  cases ru0;split at hk
  rotate_left
  .exact hk.elim
  rename_i o ho;obtain⟨zs,hz,q0,q1⟩:=hk;obtain⟨hSn,hkL⟩:=Y3 ho;obtain⟨xs,sq,rp⟩:=(aF.b.ob n a0 o (x2.adr _ _ ha0) hSn).list hkL;rw[Ep hz rp] at sq;exact HH hc I2 sq re (λz=>ret _ H2 r2 de S2 (x1.trans x2) aF pe (q0 z)) λm hm hb=>ret _ H2 r2 (.int m) S2 (x1.trans x2) aF (.int m) (q1 m hm hb)
open PySem PySem.Spec PyProof.Rows L2 PySem.W
section
variable {s:Shared}{A:Around}{w:World}{prog:Program}
end
def Qf (k:Nat)(caps:List Nat)(wi:TI)(gt:TG)(tc:TT)(te:TE):TE:=λσ H Q=>wi σ H λJ H1=>∀D,H1 D=none->∃W:Nat->Nat->Hp->Prop,(∃m,W 0 m (upd H1 D (.lst [])))/\∀i m H,W i m H->
 (J.stop i H/\Q (.ref D) H)\/(J.go i H/\∀x H',J.yld i H x H'->∀o:L2.St,o.length=k->gt x (o++Yl caps σ) H' λσ8 H8=>(∃o8:L2.St,o8.length=k/\σ8=o8++Yl caps σ)/\
  tc σ8 H8 λb H9=>if b=true then te σ8 H9 λy H3=>∃ys,H3 D=some (.lst ys)/\ys.length<sizeLine/\∃m',m'<m/\W (i+1) m' (upd H3 D (.lst (ys++[y]))) else ∃m',m'<m/\W (i+1) m' H9)
theorem LZ (hc:X.calm=true)(cs:XF sc X.env.scope own N)(hN:∀(j:Nat)(y:Str),N[j]?=some y->∃i,caps[j]?=some i/\X.N[i]?=some y)(aQ:caps.length=N.length)(hi:PI X (.Tuple aO kk tp) aW wi)(hg:∀cl C s0 H0 fp pn,PG (Cx.comp X sc (own++N) cl C s0 H0 fp pn) (.Tuple aO kk tp) gt)(he:∀cl C s0 H0 fp pn,PE (Cx.comp X sc (own++N) cl C s0 H0 fp pn) aX te)(ht:∀cl C s0 H0 fp pn,PTs (Cx.comp X sc (own++N) cl C s0 H0 fp pn) ifs tc)(hs:∀y,foldedSetIterable aW X.env y=pure y)(I:Inv X aA σ H s)(h:Qf own.length caps wi gt tc te σ H Q)(aZ:∀D C s',UW X aA σ C Q D s'->compPost (mX X) X.A X.xe use Qr (.ref D) C (.ok .next) s'):
  wpAny (mX X) X.A (comprehension (.ListComp aX [#[.Tuple aO kk tp,aW,ifs,0]] sc pos) sc X.env p2 (newList []) false (eval aW X.env) use) Qr X.xe s:=
 Ph hc cs hN aQ hi hg he ht hs I h (λ_ _ b=>b) aZ
section
variable {X:Cx}{Z:Zx}{aX:Expr}{pos:Pos}{sc ar:Scope}{N:List Str}{caps:List Nat}
def IB (caps:List Nat)(tc:TDT)(te:TDE)(k:Nat)(dl:Ev)(d1 d2:D)(S:Sto)(nx:Sto->Prop):Prop:=
 tc (some d1::some d2::Yd caps dl) S λb S1=>if b=true then te (some d1::some d2::Yd caps dl) S1 λy S2=>match S2[k]? with
  | some (.lst ys)=>ys.length<1000/\nx (S2.set k (.lst (ys++[y])))
  | _=>False
 else nx S1
@[irreducible] def WZ (caps:List Nat)(ta:TDA)(tc:TDT)(te:TDE):TDE:=λdl S Q=>ta dl S λds S1=>match ds with
 | [.ref n]=>(lAt S1 n).isSome=true/\∃W:Nat->Nat->Sto->Prop,(∃m,W 0 m (S1++[.lst []]))/\∀k m S2,W k m S2->match lAt S2 n with
  | some o=>match (Zk o)[k]? with
   | some y=>IB caps tc te S1.length dl (.int (k:Int)) y S2 λS3=>∃m',m'<m/\W (k+1) m' S3
   | none=>k=(Zk o).length/\Q (.ref S1.length) S2
  | none=>False
 | _=>False
theorem NM {ta:TDA}{tc:TDT}{te:TDE}{σ:L2.St}{H:Hp}{Qv:VK}(h:up X.K Z (WZ caps ta tc te) σ H Qv):
  Qf 2 caps (OI X.K (upA X.K Z ta)) (gTup X.K 2 (gAll [0,1])) (upT X.K Z0 tc) (up X.K Z0 te) σ H Qv:=by
 obtain⟨r,dl,S,Q,rs,bA,h,ret⟩:=h;unfold WZ at h;refine#[r,dl,S,_,rs,bA,h,λvs H1 r1 ds S1 x1 aE p1 q1=>?_];split at q1
 .rename_i n;obtain⟨v,vs',rfl,p2,p3⟩:=p1.uncons;have z:=p3.unnil;subst z;cases p2 with
  | @ref n a hr=>
   obtain⟨aV,W,⟨m0,w0⟩,turn⟩:=q1;obtain⟨o1,eo1⟩:=yX.mp aV;obtain⟨xs1,sq1,_⟩:=XE (r:=r1) hr aE.b eo1;refine#[a,rfl,#[xs1,sq1],λD0 hD=>?_];obtain⟨aF,x2⟩:=aE.b.push hD Rps.nil;refine#[λk m H'=>∃r' S',Ext (r1++[D0]) r' (upd H1 D0 (.lst [])) H'/\Z2 X.K r' S' H'/\W k m S',#[m0,_,_,Ext.refl,aF,w0],?_];rintro k m H2 ⟨r2,S2,x3,rb2,w2⟩;have ha2:r2[S1.length]?=some D0:=x3.adr _ _ (Ur aE.len)
   have hr2:r2[n]?=some a:=(x2.trans x3).adr _ _ hr
   have q:=turn k m S2 w2;split at q
   .rename_i o eo;obtain⟨xs,sq,pr⟩:=XE (r:=r2) hr2 rb2 eo;split at q
    .rename_i y ey;obtain⟨v,hv,pv⟩:=pr.get ey;refine .inr #[#[xs,v,sq,hv],λv' H' y' o8 ho8=>?_];obtain⟨T,w,rfl,hT,rfl,hw⟩:=y';have ew:w=v:=by
      have z:=hw xs sq;rw[hv] at z;exact(Option.some.inj z).symm
     subst ew;obtain⟨c1,c2,rfl⟩:∃c1 c2,o8=[c1,c2]:=by
      match o8,ho8 with
      | [c1,c2],_=>exact#[c1,c2,rfl]
     have x4:Ext r2 r2 H2 (upd H2 T (.tup [.int (k:Int),w])):=V9 hT
     have rb3:=rb2.same (Xk (o:=.tup [.int (k:Int),w]) hT)
     have rs3:=rs.ext (x1.trans (x2.trans (x3.trans x4)));refine#[T,[.int (k:Int),w],rfl,SqT.of Yz,rfl,rfl,#[[some (.int (k:Int)),some w],rfl,rfl],?_];have rsY:=Na (caps:=caps) rs3 (.int (k:Int)) (pv.ext x4);refine#[r2,_,S2,_,rsY,#[rb3,λ_ _ _ _ _ _ _ _ _ z=>z.elim],q,λb H9 r9 S9 x9 rel9 q9=>?_];cases b with
     | false=>
      obtain⟨m',hm,q9⟩:=q9;exact#[m',hm,r9,S9,x3.trans (x4.trans x9),rel9.b,q9]
     | true=>
      refine#[r9,_,S9,_,rsY.ext x9,rel9,q9,λz H4 r4 dz S4 x6 aH p4 q4=>?_];split at q4
      .rename_i ys eys;obtain⟨hl,m',hm,q4⟩:=q4;have ha4:r4[S1.length]?=some D0:=x6.adr _ _ (x9.adr _ _ ha2);obtain⟨zs,hD4,pz⟩:=aH.b.ob _ _ _ ha4 eys;obtain⟨rel5,x7⟩:=aH.b.set ha4 eys (pz.snoc p4);exact#[zs,hD4,by rw[<- pz.1];exact VO (yR hl),m',hm,r4,_,x3.trans (x4.trans (x9.trans (x6.trans x7))),rel5,q4]
      .exact q4.elim
    .obtain⟨hk,q⟩:=q;exact .inl #[#[xs,sq,by rw[<- pr.1];exact hk.symm],ret _ H2 r2 _ S2 (x1.trans (x2.trans x3)) #[rb2,bA.xw.ext (x1.trans (x2.trans x3))] (.ref ha2) q]
   .exact q.elim
 .exact q1.elim
theorem PC (har:X.env.scope=ar)(hc:X.calm=true)(cs:XF sc ar [x1,x2] N)(hl1:sc.names.lookup x1=some .local)(hl2:sc.names.lookup x2=some .local)(hN:Hn X caps N)(hnd:([x1,x2]++N).Nodup)(hg:Gl X "enumerate")(hm:X.mg "enumerate"=none)(hv:bootBuiltins "enumerate"=some (.type "enumerate"))(ha:PDA X Z [a] ta)(ht:∀cl C s0 H0 fp pn,Wi (Cx.comp X sc ([x1,x2]++N) cl C s0 H0 fp pn) ifs tc)(he:∀cl C s0 H0 fp pn,PD (Cx.comp X sc ([x1,x2]++N) cl C s0 H0 fp pn) Z0 aX te)(hse:starEach [a] X.env=[(false,eval a X.env)]:=by rfl)(hs:∀y,foldedSetIterable (.Call (.Name "enumerate" p) [a] [] aM) X.env y=pure y:=by intro _;rfl):
  PD X Z (.ListComp aX [#[.Tuple [.Name x1 p1,.Name x2 p2] kk tp,.Call (.Name "enumerate" p) [a] [] aM,ifs,0]] sc pos) (WZ caps ta tc te):=by
 subst har;intro aA s σ H Q I h;have h:=NM h;refine LZ (tc:=upT X.K Z0 tc) (te:=up X.K Z0 te) hc cs (Xi hN).1 (Xi hN).2 (Qz hg hm hv ha hse) (λcl C s0 H0 fp pn=>?_) he ht hs I h λD C s' f=>?_
 .have l1:(Cx.comp X sc ([x1,x2]++N) cl C s0 H0 fp pn).env.scope.names.lookup x1=some .local:=lookup_relabel_local hl1
  have l2:(Cx.comp X sc ([x1,x2]++N) cl C s0 H0 fp pn).env.scope.names.lookup x2=some .local:=lookup_relabel_local hl2;exact Vd hc (WU hnd (.cons rfl (.inl l1) (.inr l1) (.cons rfl (.inl l2) (.inr l2) .nil))) rfl rfl
 .obtain⟨⟨H',I',q,hC⟩,⟨m,ns⟩,l,o,c,p⟩:=f;exact#[m,ns,λh' sb=>#[.ref D,H',I'.turned (λb ob hb e=>(sb.2 b hb).trans e) hC l (.inr o) c p,rfl,q]]
end
section
variable {P:Program}{w:World}{K:Fg}{mg:Str->Option Value}{base:Heap}
structure Lm (K:Fg)(mg:Str->Option Value)(base:Heap)(fd:FuncData)(T:Addr) where
 c:Addr
 code:fd.code=.ref c
 hd:CodeHd base c T
 bm:BM mg base
 kn:∀o,K.lookup T≠some o
theorem Fn {x qual:Str}{st:Stmt}{f c:Addr}{fd:FuncData}{N ps:List Str}{k:Nat}{sd:Sd}(F:Fun K x qual st f fd)(Sc:YC N ps (ZA st))(len:∀ds S Q ex,sd ds S Q ex->ds.length=ps.length)(hcd:fd.code=.ref c)
  (hbody:∀(A:Around)(outer:List Env)(s:Shared)(H:Hp)(E:XK),ZI k (A.deeper (envOfC qual (ZA st) s.heap.objs.size f (.ref c)))->
   ∃t,YB (Xl (CXE P w) P w K mg base N qual (ZA st) f (.ref c) A outer s H E).nox Z0 (YV st) t/\∀ds S Q ex,sd ds S Q ex->t { nx:=λ_ S'=>Q .non S',rt:=Q } (Y2 N ds) S):Yk P w K mg base (CXE P w) (k+1) f fd ps (upF K sd):=Vl F Sc len λcdv A o s H E e hr=>by
 cases hcd.symm.trans e;exact hbody A o s H E hr
theorem FE (hr:ZI k A)(env:Env)(h:j+2<=k:=by decide):ZI j (A.in1.deeper env):=(ZI.in1 (hr.mono h)).deeper env
theorem AV (hr:ZI k A)(h:j+1<=k:=by decide):A.in1.depth<recursionLimit:=(ZI.in1 (hr.mono h)).depth
theorem lsc (a:sc.kind=.function:=by rfl)(b:sc.isCoroutine=false:=by rfl)(c:sc.isGenerator=false:=by rfl)(d:∀y∈sc.names,y.2≠.cell:=by decide +kernel)(e:∀y∈own,sc.names.lookup y=some .local:=by decide +kernel)(f:∀y∈caps,sc.names.lookup y=some .free:=by decide +kernel)(g:∀y∈sc.names,y.2=.free->ar.names.lookup y.1=some .cell:=by decide +kernel)(i:own.Nodup:=by decide +kernel):Tg sc ar own caps:=#[a,b,c,d,e,f,g,i]
end
section
variable {X:Cx}{Z:Zx}{aX aW:Expr}{aO:List Expr}{kk:Nat}{tp pos:Pos}{sc ar:Scope}{own N:List Str}{caps:List Nat}{wi:TI}{gt:TG}{te:TE}
theorem CP {ifs:List Expr}{tc:TT}{i:Nat}{y:Str}{py spos:Pos}(hc:X.calm=true)(cs:XF sc X.env.scope own N)(hN:Hn X caps N)
  (hi:PI X (.Tuple aO kk tp) aW wi)(hg:∀cl C s0 H0 fp pn,PG (Cx.comp X sc (own++N) cl C s0 H0 fp pn) (.Tuple aO kk tp) gt)(he:∀cl C s0 H0 fp pn,PE (Cx.comp X sc (own++N) cl C s0 H0 fp pn) aX te)(ht:∀cl C s0 H0 fp pn,PTs (Cx.comp X sc (own++N) cl C s0 H0 fp pn) ifs tc)
  (hNd:X.N.Nodup)(hy:X.N[i]?=some y)(hl:X.env.scope.names.lookup y=some .local)
  (hsw:swapsWith (.ListComp aX [#[.Tuple aO kk tp,aW,ifs,0]] sc pos) (some (.Name y py)) spos.line X.env=pure true)
  (hs:∀y,foldedSetIterable aW X.env y=pure y:=by intro _;rfl):PS X (.Assign [.Name y py] (.ListComp aX [#[.Tuple aO kk tp,aW,ifs,0]] sc pos) spos) (λE σ H=>Qf own.length caps wi gt tc te σ H λv H1=>E.nx (σ.set i (some v)) H1):=
 Qc (λI h aZ=>LZ hc cs (Xi hN).1 (Xi hN).2 hi hg he ht hs I h aZ) hNd hy hl hsw
theorem EV {ifs:List Expr}{ta:TDA}{tc:TDT}{te:TDE}{x1 x2:Str}{p1 p2 p aM:Pos}{a:Expr}{i:Nat}{y:Str}{py spos:Pos}(har:X.env.scope=ar)(hc:X.calm=true)(cs:XF sc ar [x1,x2] N)(hl1:sc.names.lookup x1=some .local)(hl2:sc.names.lookup x2=some .local)
  (hN:Hn X caps N)(hnd:([x1,x2]++N).Nodup)(hNd:X.N.Nodup)(hy:X.N[i]?=some y)(hlo:ar.names.lookup y=some .local)(hg:Gl X "enumerate")(hm:X.mg "enumerate"=none)(hv:bootBuiltins "enumerate"=some (.type "enumerate"))(ha:PDA X Z [a] ta)
  (ht:∀cl C s0 H0 fp pn,Wi (Cx.comp X sc ([x1,x2]++N) cl C s0 H0 fp pn) ifs tc)
  (he:∀cl C s0 H0 fp pn,PD (Cx.comp X sc ([x1,x2]++N) cl C s0 H0 fp pn) Z0 aX te)
  (hsw:swapsWith (.ListComp aX [#[.Tuple [.Name x1 p1,.Name x2 p2] kk tp,.Call (.Name "enumerate" p) [a] [] aM,ifs,0]] sc pos) (some (.Name y py)) spos.line X.env=pure true:=by rfl)
  (hse:starEach [a] X.env=[(false,eval a X.env)]:=by rfl)(hs:∀y,foldedSetIterable (.Call (.Name "enumerate" p) [a] [] aM) X.env y=pure y:=by intro _;rfl):
  PDS X Z (.Assign [.Name y py] (.ListComp aX [#[.Tuple [.Name x1 p1,.Name x2 p2] kk tp,.Call (.Name "enumerate" p) [a] [] aM,ifs,0]] sc pos) spos) (Uq i (WZ caps ta tc te)):=by
 subst har;refine Yy (CP hc cs hN (tc:=upT X.K Z0 tc) (te:=up X.K Z0 te) (Qz hg hm hv ha hse) (λcl C s0 H0 fp pn=>?_) he ht hNd hy hlo hsw hs) λF σ H h=>TJ (λ_ h=>NM h) h
 have l1:(Cx.comp X sc ([x1,x2]++N) cl C s0 H0 fp pn).env.scope.names.lookup x1=some .local:=lookup_relabel_local hl1
 have l2:(Cx.comp X sc ([x1,x2]++N) cl C s0 H0 fp pn).env.scope.names.lookup x2=some .local:=lookup_relabel_local hl2;exact Vd hc (WU hnd (.cons rfl (.inl l1) (.inr l1) (.cons rfl (.inl l2) (.inr l2) .nil))) rfl rfl
@[irreducible] def UL (caps:List Nat)(ta:TDA)(tc:TDT)(te:TDE):TDE:=λdl S Q=>ta dl S λds S1=>match ds with
 | [.int lo,.int hi]=>(-(2^62)<=lo/\lo<2^62/\-(2^62)<=hi/\hi<2^62)/\∃W:Nat->Sto->Prop,W 0 (S1++[.lst []])/\∀k S2,W k S2->
   if k<(hi-lo).toNat then WL caps tc te S1.length dl (.int (lo+k)) S2 (W (k+1)) else Q (.ref S1.length) S2
 | _=>False
theorem IX {ta:TDA}{tc:TDT}{te:TDE}{σ:L2.St}{H:Hp}{Qv:VK}(h:up X.K Z (UL caps ta tc te) σ H Qv):Uc caps (NH (upA X.K Z ta)) (upT X.K Z0 tc) (up X.K Z0 te) σ H Qv:=by
 obtain⟨r,dl,S,Q,rs,bA,h,ret⟩:=h;unfold UL at h;refine#[r,dl,S,_,rs,bA,h,λvs H1 r1 ds S1 x1 aE p1 q1=>?_];split at q1
 .rename_i lo hi;obtain⟨v,vs',rfl,p2,p3⟩:=p1.uncons;obtain⟨v2,vs2,rfl,p4,p5⟩:=p3.uncons;have z:=p5.unnil;subst z;cases p2;cases p4;obtain⟨⟨b1,b2,b3,b4⟩,W,w0,turn⟩:=q1;refine#[lo,hi,rfl,#[b1,b2,b3,b4],λD0 hD=>?_];obtain⟨aF,x2⟩:=aE.b.push (ds:=[]) (xs:=[]) hD Rps.nil;refine#[λk m H'=>m=(hi-lo).toNat-k/\∃r' S',Ext (r1++[D0]) r' (upd H1 D0 (.lst [])) H'/\Z2 X.K r' S' H'/\W k S',#[(hi-lo).toNat,by simp,_,_,Ext.refl,aF,w0],?_];rintro k m H2 ⟨em,r2,S2,x3,rb2,w2⟩;have ha2:r2[S1.length]?=some D0:=x3.adr _ _ (Ur aE.len)
  have q:=turn k S2 w2;split at q
  .rename_i hk;refine .inr #[hk,λv' H' y'=>?_];obtain⟨eH,y'⟩:=y';subst eH;subst y';have pk:Rp r2 H' (.int (lo+(k:Int))) (.int (lo+(k:Int))):=.int _;exact Pt (rs.ext (x1.trans (x2.trans x3))) ha2 rb2 pk q
    λr' S' H' x' rb' w'=>#[(hi-lo).toNat-(k+1),by omega,rfl,r',S',x3.trans x',rb',w']
  .rename_i hk;exact .inl #[by show (hi-lo).toNat<=k;omega,ret _ H2 r2 _ S2 (x1.trans (x2.trans x3)) #[rb2,bA.xw.ext (x1.trans (x2.trans x3))] (.ref ha2) q]
 .exact q1.elim
theorem AG {x:Str}{px:Pos}{ifs:List Expr}{ta:TDA}{tc:TDT}{te:TDE}{a b:Expr}{p aM:Pos}(har:X.env.scope=ar)(hc:X.calm=true)(cs:Ws sc ar x N)(hN:Hn X caps N)(hnd:(x::N).Nodup)(hg:Gl X "range")(hm:X.mg "range"=none)(ha:PDA X Z [a,b] ta)
  (ht:∀cl C s0 H0 fp pn,Wi (Cx.comp X sc (x::N) cl C s0 H0 fp pn) ifs tc)(he:∀cl C s0 H0 fp pn,PD (Cx.comp X sc (x::N) cl C s0 H0 fp pn) Z0 aX te)
  (hs:∀y,foldedSetIterable (.Call (.Name "range" p) [a,b] [] aM) X.env y=pure y:=by intro _;rfl)(hst:starEach [a,b] X.env=[(false,eval a X.env),(false,eval b X.env)]:=by rfl)(hst2:starEach [b] X.env=[(false,eval b X.env)]:=by rfl):
  PD X Z (.ListComp aX [#[.Name x px,.Call (.Name "range" p) [a,b] [] aM,ifs,0]] sc pos) (UL caps ta tc te):=by
 subst har;exact Z6 (Q3 hc cs hN hnd (tc:=upT X.K Z0 tc) (te:=up X.K Z0 te) (NO hg hm ha hst hst2) ht he hs) λ_ _ _ h=>IX h
end
end L3
namespace Mine
open PySem PySem.Spec PyProof.Rows L2 L3
abbrev LT:Addr:=801
abbrev LP:Pos:=#[432,32,432,73]
abbrev LQ:Str:="Book.to_look_at.<locals>.<lambda>"
theorem fsc {N P:List Str}{sc:Scope}(a:sc.kind=.function:=by rfl)(b:sc.isCoroutine=false:=by rfl)(c:sc.isGenerator=false:=by rfl)(d:N.Nodup:=by decide +kernel)(e:N.take P.length=P:=by rfl)(f:∀x∈P,sc.names.lookup x=some .local\/sc.names.lookup x=some .cell:=by decide +kernel)(g:∀y∈sc.names,y.2≠.free:=by decide +kernel):YC N P sc:=#[a,b,c,d,e,f,g]
theorem csc {sc ar:Scope}{x:Str}{caps:List Str}(a:sc.kind=.function:=by rfl)(b:∀y∈sc.names,y.2≠.cell:=by decide +kernel)(c:∀y∈sc.names,y.2=.local->sc.names.lookup y.1=some .local:=by decide +kernel)(d:sc.names.lookup x=some .local:=by rfl)(e:∀y∈caps,sc.names.lookup y=some .free:=by decide +kernel)(f:∀y∈sc.names,y.2=.free->ar.names.lookup y.1=some .cell:=by decide +kernel):Ws sc ar x caps:=#[a,b,c,d,e,f]
theorem Wl {sc ar:Scope}{own caps:List Str}(a:sc.kind=.function:=by rfl)(b:∀y∈sc.names,y.2≠.cell:=by decide +kernel)(c:∀y∈sc.names,y.2=.local->sc.names.lookup y.1=some .local:=by decide +kernel)(e:∀y∈caps,sc.names.lookup y=some .free:=by decide +kernel)(f:∀y∈sc.names,y.2=.free->ar.names.lookup y.1=some .cell:=by decide +kernel):XF sc ar own caps:=#[a,b,c,e,f]
abbrev Ln (sp:Sd)(n:Nat):Prop:=∀ds S Q ex,sp ds S Q ex->ds.length=n
theorem Zh {X:Cx}{x:Str}{p pos:Pos}{e:Expr}{es:List Expr}{t:TDA}{k j:Nat}{ps:List Str}{sd:Sd}{ex:Ev->Addr->Sto->Prop}(G:Fk X.prog X.w X.K X.mg X.base k x ps sd)(hr:ZI j X.A)(ha:PDA X #[ex,Z0.w] (e::es) t)(hk:k<=j:=by decide)(hg:Gl X x:=by rfl)
  (hdb:(x==("__debug__":Str))=false:=by decide)(he:He X e es:=by rfl)(hpl:Hp1 X pos es:=by rfl):PD X #[ex,Z0.w] (.Call (.Name x p) (e::es) [] pos) (Qk ex sd t):=PF G (hr.mono hk) YL hg ha hdb he hpl
abbrev RE:Stmt:=Xa (top 84) 4
abbrev Pe:List Str:=["self"]
theorem OD:YC ["self","waiting"] Pe (ZA RE):=fsc
abbrev Ng:List Str:=["number","many"]
abbrev Q9:Stmt:=Xa (top 44) 0
abbrev Tn:List Str:=["self","one","other"]
theorem Gh:YC ["self","one","other"] Tn (ZA Q9):=fsc
abbrev zae:Stmt:=Xa (top 44) 0
abbrev BW:List Str:=["self","one","other"]
abbrev DY:Stmt:=Xa (top 44) 0
abbrev AB:List Str:=["self","one","other"]
abbrev G1:List Str:=["self","here","x","y","grid"]
abbrev Jl:List Str:=["self","here","x","y","grid"]
abbrev Pl:Stmt:=Xa (top 44) 1
abbrev TY:List Str:=["self","spans","here","grid"]
theorem TC:YC ["self","spans","here","grid","x","y"] TY (ZA Pl):=fsc
abbrev EK:Stmt:=Xa (top 44) 1
abbrev FP:List Str:=["self","spans","here","grid"]
abbrev MC:List Str:=["pair"]
abbrev Hu:Stmt:=Xa (top 44) 1
abbrev A2:List Str:=["self","spans","here","grid"]
abbrev OE:List Str:=["number","many"]
abbrev RL:Stmt:=top 38
abbrev WE:List Str:=["number","many"]
theorem Sj:YC ["number","many","below"] WE (ZA RL):=fsc
abbrev Fw:List Str:=["self","x","y","a","b","grid"]
abbrev RG:Stmt:=Xa (top 44) 2
abbrev Td:List Str:=["self","spans","slants","unknowns","grid"]
theorem QD:YC ["self","spans","slants","unknowns","grid","x","y"] Td (ZA RG):=fsc
abbrev AF:Stmt:=Xa (top 44) 2
abbrev Du:List Str:=["self","spans","slants","unknowns","grid"]
abbrev Et:Stmt:=Xa (top 44) 2
abbrev FG:List Str:=["self","spans","slants","unknowns","grid"]
abbrev Fb:List Str:=["number","place"]
abbrev IS:List Str:=["matrix","row","column"]
abbrev QN:Stmt:=top 4
abbrev VG:List Str:=["matrix","row","column"]
theorem AU:YC ["matrix","row","column"] VG (ZA QN):=fsc
abbrev V2:Stmt:=top 5
abbrev Vi:List Str:=["matrix"]
theorem M0:YC ["matrix"] Vi (ZA V2):=fsc
abbrev NX:Stmt:=top 112
abbrev N3:List Str:=["_law_book","_law_cell",q23]
theorem WH:YC ["_law_book","_law_cell",q23,"_law_cuts","_law_entry","_law_found","_law_k","_law_span","_law_top","_law_shared"] N3 (ZA NX):=fsc
abbrev RW:Stmt:=top 123
abbrev Sx:List Str:=[q22]
theorem XU:YC [q22,"_law_system","_law_nodes","_law_rows_here","_law_box_here",q23,"_law_fine","_law_looks","_law_book","_law_points_here","_law_spot","_law_single","_law_point_here","_law_above"] Sx (ZA RW):=fsc
theorem kfo {K:Fg}{f c:Addr}{m:Value}{n q:Str}{st:Stmt}(l:K.lookup f=some (fo n q st m c)):W.keepIn K (.ref f)=true:=by
 unfold W.keepIn;simp only[l]
theorem ifo {K:Fg}{f c:Addr}{m:Value}{n q:Str}{st:Stmt}(l:K.lookup f=some (fo n q st m c)):W.isFn K (.ref f)=true:=by
 unfold W.isFn W.typeIn;simp only[l];rfl
theorem lnc {n:Nat}{P:List Value->Prop}(h:∀a (us:List Value),us.length=n->P (a::us))(us:List Value)(e:us.length=n+1):P us:=by
 cases us with
 | nil=>cases e
 | cons a r=>exact h a r (Nat.succ.inj e)
theorem ln0 {P:List Value->Prop}(h:P []):∀us:List Value,us.length=0->P us:=λus e=>List.eq_nil_of_length_eq_zero e ▸ h
theorem ln1 {P:List Value->Prop}(h:∀a,P [a]):∀us:List Value,us.length=1->P us:=lnc λa=>ln0 (h a)
theorem ln2 {P:List Value->Prop}(h:∀a b,P [a,b]):∀us:List Value,us.length=2->P us:=lnc λa=>ln1 (h a)
theorem ln3 {P:List Value->Prop}(h:∀a b c,P [a,b,c]):∀us:List Value,us.length=3->P us:=lnc λa=>ln2 (h a)
theorem ln4 {P:List Value->Prop}(h:∀a b c d,P [a,b,c,d]):∀us:List Value,us.length=4->P us:=lnc λa=>ln3 (h a)
theorem ln5 {P:List Value->Prop}(h:∀a b c d e,P [a,b,c,d,e]):∀us:List Value,us.length=5->P us:=lnc λa=>ln4 (h a)
theorem ln6 {P:List Value->Prop}(h:∀a b c d e f,P [a,b,c,d,e,f]):∀us:List Value,us.length=6->P us:=lnc λa=>ln5 (h a)
abbrev Bn (n q:Str)(st:Stmt)(ps:List Str):Prop:=∀(kV doc pm:Value)(an:Option Addr)(cdv ct:Value)(us:List Value),us.length=ps.length->bindArgs (W.fnOf n q (W5 st) (YV st) (ZA st) .none kV doc pm an cdv ct) #[us,[]]=pure (ps.zip us)
abbrev clA (K:Fg)(n:Str)(C:Addr):Prop:=W.nsIn K mainGlobals n=some (some (.ref C))/\W.plainGet K C Str.empty=true/\W.hasDictIn K C=true/\W.plainOver K C=true/\W.findIn K (.ref C) "__setattr__"=some (some (.builtin "object.__setattr__"))/\W.makesIn K C=true/\W.keepIn K (.ref C)=true
theorem clC {K:Fg}{C:Addr}{p:Prop}(h:W.plainGet K C Str.empty=true/\W.hasDictIn K C=true/\W.plainOver K C=true/\W.findIn K (.ref C) "__setattr__"=some (some (.builtin "object.__setattr__"))/\p):Cls K C:=#[h.1,h.2.1,h.2.2.1,h.2.2.2.1]
abbrev xF (v:Option (Option Value)):Addr:=match v with|some (some (.ref f))=>f|_=>0
abbrev xM (o:Option Obj):Value:=match o with|some #[_,_,.func d,_]=>d.pyModule|_=>.none
abbrev xC (o:Option Obj):Addr:=match o with|some #[_,_,.func d,_]=>xF (some (some d.code))|_=>0
abbrev fnE (K:Fg)(v:Option (Option Value))(n q:Str)(st:Stmt):Prop:=(v,K.lookup (xF v),W.codeIn K (.ref (xC (K.lookup (xF v)))) q)=(some (some (.ref (xF v))),some (fo n q st (xM (K.lookup (xF v))) (xC (K.lookup (xF v)))),true)
theorem fnU {K:Fg}{v:Option (Option Value)}{n q:Str}{st:Stmt}(a:fnE K v n q st):v=some (some (.ref (xF v)))/\K.lookup (xF v)=some (fo n q st (xM (K.lookup (xF v))) (xC (K.lookup (xF v))))/\W.codeIn K (.ref (xC (K.lookup (xF v)))) q=true:=#[congrArg (·.1) a,congrArg (·.2.1) a,congrArg (·.2.2) a]
def dfo {K:Fg}{mg:Str->Option Value}{h:Heap}(X:K.In h)(G:h.Ns mainGlobals mg){n:Str}{st:Stmt}{ps:List Str}(a:fnE K (W.nsIn K mainGlobals n) n n st:=by kernel_rfl)(b:Bn n n st ps:=by first|exact λ_ _ _ _ _ _=>ln2 λ_ _=>rfl|exact λ_ _ _ _ _ _=>ln3 λ_ _ _=>rfl|exact λ_ _ _ _ _ _=>ln1 λ_=>rfl|exact λ_ _ _ _ _ _=>ln4 λ_ _ _ _=>rfl|exact λ_ _ _ _ _ _=>ln5 λ_ _ _ _ _=>rfl|exact λ_ _ _ _ _ _=>ln6 λ_ _ _ _ _ _=>rfl|exact λ_ _ _ _ _ _=>ln0 rfl):Df K mg n st ps:=#[_,_,Tf (st:=st) (fnU a).2.1 (fnU a).2.2 (kfo (fnU a).2.1),W.mg_of X G (fnU a).1,(Tf (st:=st) (fnU a).2.1 (fnU a).2.2 (kfo (fnU a).2.1)).binds b]
def dmo {K:Fg}{C:Addr}{n q:Str}{st:Stmt}{ps:List Str}(a:fnE K (W.findIn K (.ref C) n) n q st:=by kernel_rfl)(b:Bn n q st ps:=by first|exact λ_ _ _ _ _ _=>ln2 λ_ _=>rfl|exact λ_ _ _ _ _ _=>ln3 λ_ _ _=>rfl|exact λ_ _ _ _ _ _=>ln1 λ_=>rfl|exact λ_ _ _ _ _ _=>ln4 λ_ _ _ _=>rfl|exact λ_ _ _ _ _ _=>ln5 λ_ _ _ _ _=>rfl|exact λ_ _ _ _ _ _=>ln6 λ_ _ _ _ _ _=>rfl|exact λ_ _ _ _ _ _=>ln0 rfl):Dm K C n q st ps:=#[_,_,Tf (st:=st) (fnU a).2.1 (fnU a).2.2 (kfo (fnU a).2.1),#[(fnU a).1,ifo (fnU a).2.1,kfo (fnU a).2.1],(Tf (st:=st) (fnU a).2.1 (fnU a).2.2 (kfo (fnU a).2.1)).binds b]
theorem noU {K:Fg}{C:Addr}{f:Str}(h:W.findIn K (.ref C) f=some none:=by kernel_rfl):Yv K C f:=h
theorem clU {K:Fg}{n:Str}{C:Addr}(h:(W.nsIn K mainGlobals n,W.plainGet K C Str.empty,W.hasDictIn K C,W.plainOver K C,W.findIn K (.ref C) "__setattr__",W.makesIn K C,W.keepIn K (.ref C))=(some (some (.ref C)),true,true,true,some (some (.builtin "object.__setattr__")),true,true)):clA K n C:=#[congrArg (·.1) h,congrArg (·.2.1) h,congrArg (·.2.2.1) h,congrArg (·.2.2.2.1) h,congrArg (·.2.2.2.2.1) h,congrArg (·.2.2.2.2.2.1) h,congrArg (·.2.2.2.2.2.2) h]
theorem QF (P:Params):(kq P).lookup (nat_lit 801)=none:=by kernel_rfl
theorem in_kq {w:World}{h:Heap}(Y:(W.kHook kp ks WG).says w h):(kq w.params).In h:=λa o e=>(show (kp w.params).In h from Y) a o (by
 show List.lookup a ((nat_lit 801,_)::kq w.params)=some o;rw[yC];cases q:a==nat_lit 801 with
 | false=>exact e
 | true=>
  rw[show a=nat_lit 801 by simpa using q,QF] at e;cases e)
theorem IJ {w:World}{h:Heap}(Y:(W.kHook kp ks WG).says w h):h.get? (nat_lit 801)=some { cls:=.none,data:=.fields (List.toArray []) }:=(show (kp w.params).In h from Y) _ _ (by
 show List.lookup _ ((nat_lit 801,_)::kq w.params)=_;rw[yC];rfl)
theorem cd_eq (P:Params):(kq P).lookup (nat_lit 803)=some (co "to_look_at" "Book.to_look_at" 1295 1296 1297 1299 430 1 800 801 .none .none 802 1298):=by kernel_rfl
theorem LS (P:Params)(h:Heap)(X:(kq P).In h):W.CodeHd h (nat_lit 803) (nat_lit 801):=#[_,_,_,_,_,_,_,_,_,X _ _ (cd_eq P),rfl,rfl,rfl,rfl,rfl,rfl,rfl,rfl,⋯]
theorem ZM {C:Addr}{f:Str}{to:TDE}{dl:Ev}{S S1:Sto}{Q:DK}{n:Nat}{fs:List (Str×D)}{v:D}(hto:∀K:DK,K (.ref n) S1->to dl S K)(h:S1[n]?=some (.ins C fs))(hf:fs.lookup f=some v)(hq:Q v S1):Rf C f to dl S Q:=by
 unfold Rf;refine hto _ ?_;simp only[X1,h,if_pos,hf];exact hq
theorem WD {C:Addr}{f:Str}{to te:TDE}{dl:Ev}{S S1 S2:Sto}{E:Xn}{n:Nat}{fs:List (Str×D)}{v:D}(hte:∀K:DK,K v S1->te dl S K)(hto:∀K:DK,K (.ref n) S2->to dl S1 K)(h:S2[n]?=some (.ins C fs))(hl:fs.length<1000)(hq:E.nx dl (S2.set n (.ins C (VW f v fs)))):RO C f to te E dl S:=by
 unfold RO;refine hte _ (hto _ ?_);simp only[X1,h,if_pos];exact#[hl,hq]
theorem Xh {C:Addr}{m:Str}{ex:Ev->Addr->Sto->Prop}{sd:Sd}{to:TDE}{t:TDA}{dl:Ev}{S S1:Sto}{Q:DK}{n:Nat}{fs:List (Str×D)}(hto:∀K:DK,K (.ref n) S1->to dl S K)(h:S1[n]?=some (.ins C fs))(hf:fs.lookup m=none)(hq:t dl S1 λds S2=>sd (.ref n::ds) S2 Q (ex dl)):Ug C m ex sd to t dl S Q:=by
 unfold Ug;refine hto _ ?_;simp only[X1,h,if_pos];exact#[hf,hq]
theorem Us {to ti te:TDE}{dl:Ev}{S:Sto}{E:Xn}{n j:Nat}{k:Int}{xs:List D}{v:D}(hte:∀K:DK,K v S->te dl S K)(hto:∀K:DK,K (.ref n) S->to dl S K)(hti:∀K:DK,K (.int k) S->ti dl S K)(h:S[n]?=some (.lst xs))(hj:ixN xs.length k=some j)(hq:E.nx dl (S.set n (.lst (xs.set j v)))):Su to ti te E dl S:=by
 unfold Su;refine hte _ (hto _ (hti _ ?_));simp only[h,hj];exact hq
theorem YW (h:S[n]?=some (.lst xs))(hq:Q (.int (xs.length:Nat)) S):irr Uk [.ref n] S Q:=by
 rw[Vt];unfold Uk;simp only[ZO h rfl];exact hq
theorem ZY {S:Sto}{n a:Nat}{o u:Ob}(h:S[n]?=some o)(hn:a≠n):(S.set a u)[n]?=some o:=by rw[zY hn];exact h
theorem Yb {S:Sto}{n:Nat}{o u:Ob}(h:S[n]?=some o):(S.set n u)[n]?=some u:=by
 have hk:=(zC.mp h).1;simp[hk]
theorem Zo {S:Sto}{n:Nat}{o:Ob}{T:Sto}(h:S[n]?=some o):(S++T)[n]?=some o:=by
 have hk:=(zC.mp h).1;rw[zJ hk];exact h
theorem Wa (T R:Sto)(u:Ob):(T++u::R)[T.length]?=some u:=by simp
theorem WA (T R:Sto)(u v:Ob):(T++u::R).set T.length v=T++v::R:=by simp
theorem ZT {S:Sto}{n:Nat}{o:Ob}(h:S[n]?=some o):n<S.length:=(zC.mp h).1
theorem X0 {i n:Nat}{tb:TDS}{E:Xn}{dl:Ev}{S:Sto}{o:Ob}(W:Nat->Ev->Sto->Prop)(h0:W 0 dl S)(hk:∀k dl' S',W k dl' S'->S'[n]?=some o)
  (ht:∀(k:Nat)(x:D)(dl':Ev)(S':Sto)(nx ct:Ev->Sto->Prop),(Zk o)[k]?=some x->W k dl' S'->(∀dl2 S2,W (k+1) dl2 S2->nx dl2 S2)->tb { nx:=nx,rt:=E.rt,bk:=E.nx,ct:=ct } (dl'.set i (some x)) S')(he:∀dl' S',W (Zk o).length dl' S'->E.nx dl' S')(hL:Y9 o=some o:=by rfl):
  (lAt S n).isSome=true/\∃W:Nat->Nat->Ev->Sto->Prop,(∃m,W 0 m dl S)/\∀k m dl S,W k m dl S->match lAt S n with
  | some o=>match (Zk o)[k]? with
   | some x=>tb { nx:=λdl' S'=>∃m',m'<m/\W (k+1) m' dl' S',rt:=E.rt,bk:=E.nx,ct:=λdl' S'=>∃m',m'<m/\W (k+1) m' dl' S' } (dl.set i (some x)) S
   | none=>E.nx dl S
  | none=>False:=by
 refine#[by rw[ZO (hk _ _ _ h0) hL];rfl,λk m dl' S'=>m+k=(Zk o).length/\W k dl' S',#[(Zk o).length,(),h0],?_];rintro k m dl' S' ⟨hm,w⟩;rw[ZO (hk _ _ _ w) hL];show (match (Zk o)[k]? with
   | some x=>tb { nx:=λdl' S''=>∃m',m'<m/\(m'+(k+1)=(Zk o).length/\W (k+1) dl' S''),rt:=E.rt,bk:=E.nx,ct:=λdl' S''=>∃m',m'<m/\(m'+(k+1)=(Zk o).length/\W (k+1) dl' S'') } (dl'.set i (some x)) S'
   | none=>E.nx dl' S')
 split
 .rename_i x hx;have hk:k<(Zk o).length:=(zC.mp hx).1;exact ht k x dl' S' _ _ hx w λdl2 S2 w2=>#[m-1,(),(),w2]
 .rename_i hx;have hk:k=(Zk o).length:=by
   have:=xD.mp hx;lia
  exact he dl' S' (hk ▸ w)
inductive Nd where
 | number (t b:Int)|unknown (k:Int)|plus (i j:Int)|minus (i j:Int)|times (i j:Int)|power (i n:Int)
def Nd.d:Nd->D
 | .number t b=>.tup [.str "number",.int t,.int b]
 | .unknown k=>.tup [.str "unknown",.int k]
 | .plus i j=>.tup [.str "plus",.int i,.int j]
 | .minus i j=>.tup [.str "minus",.int i,.int j]
 | .times i j=>.tup [.str "times",.int i,.int j]
 | .power i n=>.tup [.str "power",.int i,.int n]
def Nd.ob (cN cU cP cM cT cW:Addr):Nd->Ob
 | .number t b=>.ins cN [("top",.int t),("bottom",.int b)]
 | .unknown k=>.ins cU [("place",.int k)]
 | .plus i j=>.ins cP [("one",.int i),("other",.int j)]
 | .minus i j=>.ins cM [("one",.int i),("other",.int j)]
 | .times i j=>.ins cT [("one",.int i),("other",.int j)]
 | .power i n=>.ins cW [("one",.int i),("many",.int n)]
def inR (m i:Int):Prop:=0<=i/\i<m
def Nd.ok (m q:Int):Nd->Prop
 | .number t b=>(1<=b/\b<=10^9)/\Int.gcd t b=1/\t.natAbs<=10^9
 | .unknown k=>inR q k
 | .plus i j=>inR m i/\inR m j
 | .minus i j=>inR m i/\inR m j
 | .times i j=>inR m i/\inR m j
 | .power i n=>inR m i/\2<=n/\n<=6
def frD (p:Int×Int):D:=.tup [.int p.1,.int p.2]
abbrev gt (vs:LI)(i:Int):Int×Int:=vs.getD i.toNat (0,1)
theorem Si (h:inR vs.length i):gt vs i∈vs:=by
 obtain⟨h0,h1⟩:=h;have hk:i.toNat<vs.length:=by lia
 have e:gt vs i=vs[i.toNat]:=by simp[gt,hk]
 rw[e];exact yY hk
theorem ZU (h:inR vs.length i):atI (vs.map frD) i=some (frD (gt vs i)):=by
 obtain⟨h0,h1⟩:=h;have hk:i.toNat<vs.length:=by lia
 have z:=Ye (xs:=vs.map frD) (v:=frD (gt vs i)) (by rw[zF,zD hk];simp[gt,hk]);rw[show ((i.toNat:Nat):Int)=i by lia] at z;exact z
theorem GR {xs:List D}{d e:D}{i:Nat}{P:Nat->D->Prop}(h:(xs++[d])[i]?=some e)(hp:∀i d,xs[i]?=some d->P i d)(hd:P xs.length d):P i e:=by
 by_cases hi:i<xs.length
 .rw[zJ hi] at h;exact hp i e h
 .have hk:=(zC.mp h).1;simp at hk;have e1:i=xs.length:=by lia
  subst e1;simp at h;subst h;exact hd
theorem Lj {caps:List Nat}{tl te:TDE}{dl:Ev}{S S1:Sto}{Q:DK}{n:Nat}{o:Ob}(P:Nat->D->Prop)(htl:∀K:DK,K (.ref n) S1->tl dl S K)(h1:S1[n]?=some o)(hl:(Zk o).length<=1000)
  (ht:∀(k:Nat)(x:D),(Zk o)[k]?=some x->∀(S2:Sto)(K:DK),Pre S1 S2->(∀d,P k d->K d S2)->te (some x::Yd caps dl) S2 K)(hq:∀xs:List D,xs.length=(Zk o).length->(∀k d,xs[k]?=some d->P k d)->Q (.ref S1.length) (S1++[.lst xs]))(hL:Y9 o=some o:=by rfl):Xs caps tl YX te dl S Q:=by
 unfold Xs;refine htl _ #[by rw[ZO h1 hL];rfl,λk m S2=>(∃xs:List D,S2=S1++[.lst xs]/\xs.length=k/\∀i d,xs[i]?=some d->P i d)/\m+k=(Zk o).length,#[(Zk o).length,#[[],rfl,rfl,λi d h=>by simp at h],()],?_];rintro k m S2 ⟨⟨xs,rfl,hx,hp⟩,hm⟩;rw[ZO (Wb h1) hL];dsimp only;split
 .rename_i x hk;have hk':k<(Zk o).length:=(zC.mp hk).1;unfold WL YX;refine ht k x hk _ _ Pre.refl.push λd hd=>?_
  rw[Zm];refine#[(),m-1,(),#[xs++[d],We _ _ _,by simp[hx],λi e he=>GR he hp (hx ▸ hd)],()]
 .rename_i hk;have hk':=xD.mp hk;exact hq xs () hp
theorem Mm {α:Type}{xs:List D}{lo hi:Option Int}:(Yi xs lo hi).length<=xs.length:=by
 unfold L3.Yi;rw[zG,wH];lia
structure VY (a b c d mn mx:Int):Prop where
 lo:mn=a*c\/mn=a*d\/mn=b*c\/mn=b*d
 l1:mn<=a*c
 l2:mn<=a*d
 l3:mn<=b*c
 l4:mn<=b*d
 hi:mx=a*c\/mx=a*d\/mx=b*c\/mx=b*d
 h1:a*c<=mx
 h2:a*d<=mx
 h3:b*c<=mx
 h4:b*d<=mx
theorem VY.of {a b c d mn mx:Int}(m1:mn∈[a*c,a*d,b*c,b*d])(m2:∀y∈[a*c,a*d,b*c,b*d],mn<=y)(x1:mx∈[a*c,a*d,b*c,b*d])(x2:∀y∈[a*c,a*d,b*c,b*d],y<=mx):VY a b c d mn mx:=by
 simp at m1 x1;exact#[m1,m2 _ (by simp),m2 _ (by simp),m2 _ (by simp),m2 _ (by simp),x1,x2 _ (by simp),x2 _ (by simp),x2 _ (by simp),x2 _ (by simp)]
structure WX (a b:Int)(n:Nat)(m M:Int):Prop where
 lo:m=a^n\/m=b^n\/(a<0/\0<b/\m=0)
 l1:m<=a^n
 l2:m<=b^n
 l3:a<0->0<b->m<=0
 hi:M=a^n\/M=b^n
 h1:a^n<=M
 h2:b^n<=M
theorem Ra (h:1<=n):(0:Int)^n=0:=by
 cases n with
 | zero=>lia
 | succ k=>rw[yD,Int.mul_zero]
theorem Mb (n:Nat):(∀x:Int,(-x)^n=x^n)\/(∀x:Int,(-x)^n=-(x^n)):=by
 induction n with
 | zero=>left;intro x;rw[xP,xP]
 | succ k ih=>
  rcases ih with e|e
  .right;intro x;rw[yD,yD,e,Int.mul_neg]
  .left;intro x;rw[yD,yD,e,tH]
theorem Uu {x y:Int}(h0:0<=x)(h:x<=y)(n:Nat):x^n<=y^n:=by
 induction n with
 | zero=>rw[xP,xP];exact zS _
 | succ k ih=>
  rw[yD,yD];exact xQ ih h h0 (yU ())
theorem HI {y z x m M:Int}{n:Nat}(hn:1<=n)(h1:y<=x)(h2:x<=z)(m1:m<=y^n)(m2:m<=z^n)(m3:y<0->0<z->m<=0)(M1:y^n<=M)(M2:z^n<=M):m<=x^n/\x^n<=M:=by
 by_cases hy:0<=y
 .have e1:=Uu hy h1 n
  have e2:=Uu (show 0<=x by lia) h2 n;lia
 .by_cases hz:z<=0
  .have e1:=Uu (show 0<=-z by lia) (show -z<=-x by lia) n
   have e2:=Uu (show 0<=-x by lia) (show -x<=-y by lia) n;rcases Mb n with p|p<;>rw[p,p] at e1 e2<;>lia
  .have m3':=m3 () ()
   have z0:(0:Int)<=z^n:=yU ();by_cases hx:0<=x
   .have e1:(0:Int)<=x^n:=yU hx
    have e2:=Uu hx h2 n;lia
   .have e1:(0:Int)<=(-x)^n:=yU ()
    have e2:=Uu (show 0<=-x by lia) (show -x<=-y by lia) n;rcases Mb n with p|p
    .rw[p] at e1;rw[p,p] at e2;lia
    .rw[p] at e1;rw[p,p] at e2;lia
theorem WX.of {a b g mn mx:Int}{n:Nat}(hg:1<=g){l:List Int}(hl:l=[a^n*g,b^n*g]/\¬ (a<0/\0<b)\/l=[a^n*g,b^n*g,0^n*g]/\a<0/\0<b)(hn:1<=n)(m1:mn∈l)(m2:∀y∈l,mn<=y)(x1:mx∈l)(x2:∀y∈l,y<=mx):
  ∃m M,WX a b n m M/\mn=m*g/\mx=M*g:=by
 have can:∀ {x y:Int},x*g<=y*g->x<=y:=λ{x y} h=>yN h (by omega)
 rcases hl with ⟨rfl,hz⟩|⟨rfl,hz1,hz2⟩
 .simp at m1 x1;have a1:=m2 (a^n*g) (by simp)
  have a2:=m2 (b^n*g) (by simp)
  have b1:=x2 (a^n*g) (by simp)
  have b2:=x2 (b^n*g) (by simp);obtain⟨m,hm,em⟩:∃m,(m=a^n\/m=b^n)/\mn=m*g:=by
   rcases m1 with e|e
   .exact#[_,.inl rfl,e]
   .exact#[_,.inr rfl,e]
  obtain⟨M,hM,eM⟩:∃m,(m=a^n\/m=b^n)/\mx=m*g:=by
   rcases x1 with e|e
   .exact#[_,.inl rfl,e]
   .exact#[_,.inr rfl,e]
  subst em eM;exact#[m,M,#[hm.elim .inl λe=>.inr (.inl e),can a1,can a2,λc1 c2=>absurd #[c1,c2] hz,hM,can b1,can b2],rfl,rfl]
 .rw[Ra hn,wO] at m1 m2 x1 x2;simp at m1 x1;have a1:=m2 (a^n*g) (by simp)
  have a2:=m2 (b^n*g) (by simp)
  have a3:=m2 0 (by simp)
  have b1:=x2 (a^n*g) (by simp)
  have b2:=x2 (b^n*g) (by simp);obtain⟨m,hm,em⟩:∃m,(m=a^n\/m=b^n\/m=0)/\mn=m*g:=by
   rcases m1 with e|e|e
   .exact#[_,.inl rfl,e]
   .exact#[_,.inr (.inl rfl),e]
   .exact#[0,.inr (.inr rfl),by rw[e,wO]]
  have bp:(0:Int)<=b^n:=yU (by omega)
  have bg:=yF bp (show 0<=g by omega);obtain⟨M,hM,eM⟩:∃m,(m=a^n\/m=b^n)/\mx=m*g:=by
   rcases x1 with e|e|e
   .exact#[_,.inl rfl,e]
   .exact#[_,.inr rfl,e]
   .exact#[_,.inr rfl,by omega]
  subst em eM;refine#[m,M,#[?_,can a1,can a2,λ_ _=>can (by rw[wO];exact a3),hM,can b1,can b2],rfl,rfl];rcases hm with e|e|e
  .exact .inl e
  .exact .inr (.inl e)
  .exact .inr (.inr #[hz1,hz2,e])
theorem VD {m g:Int}{n:Nat}(hg:1<=g)(hn:1<=n):m*g/g^n=m/g^(n-1):=by
 obtain⟨k,rfl⟩:∃k,n=k+1:=#[n-1,()];rw[yD,tI,Int.mul_ediv_mul_of_pos_left _ _ ()]
def mn4 (a b c d:Int):Int:=min (min (a*c) (a*d)) (min (b*c) (b*d))
def mx4 (a b c d:Int):Int:=max (max (a*c) (a*d)) (max (b*c) (b*d))
theorem VY.eq {a b c d mn mx:Int}(h:VY a b c d mn mx):mn=mn4 a b c d/\mx=mx4 a b c d:=by
 refine#[uF (vL.mpr #[vL.mpr #[h.l1,h.l2],vL.mpr #[h.l3,h.l4]]) ?_,uF ?_ (vM.mpr #[vM.mpr #[h.h1,h.h2],vM.mpr #[h.h3,h.h4]])]
 .unfold mn4;rcases h.lo with e|e|e|e<;>rw[e]
  .exact zU (xR ..) (xR ..)
  .exact zU (xR ..) (wQ ..)
  .exact zU (wQ ..) (xR ..)
  .exact zU (wQ ..) (wQ ..)
 .unfold mx4;rcases h.hi with e|e|e|e<;>rw[e]
  .exact zU (xS ..) (xS ..)
  .exact zU (wR ..) (xS ..)
  .exact zU (xS ..) (wR ..)
  .exact zU (wR ..) (wR ..)
def ZP (a b:Int)(n:Nat):Int:=if n%2=0/\a<=0/\0<=b then 0 else min (a^n) (b^n)
def Z9 (a b:Int)(n:Nat):Int:=max (a^n) (b^n)
theorem WW {n:Nat}(h:n%2=0)(x:Int):0<=x^n:=by
 obtain⟨k,rfl⟩:∃k,n=k+k:=#[n/2,()];rw[Int.pow_add];by_cases c:0<=x^k
 .exact yF c c
 .have:=yF (show 0<=-(x^k) by lia) (show 0<=-(x^k) by lia);rw[tH] at this;exact this
theorem Sl {n:Nat}(h:n%2=1){x:Int}(hx:x<0):x^n<0:=by
 obtain⟨k,rfl⟩:∃k,n=k+1:=#[n-1,()];have z:=WW (n:=k) () x
 have nz:∀k:Nat,x^k≠0:=λk=>by
  induction k with
  | zero=>rw[xP];decide
  | succ k ih=>rw[yD];exact Int.mul_ne_zero ih ()
 have nz:=nz k
 have:=xY (show 0<x^k by lia) (show 0 < -x by lia);lia
theorem WX.eq {a b m M:Int}{n:Nat}(h:WX a b n m M)(hn:1<=n):m=ZP a b n/\M=Z9 a b n:=by
 obtain⟨h0,h1,h2,h3,h4,h5,h6⟩:=h;refine#[?_,by unfold Z9;lia];unfold ZP;split
 .rename_i c;obtain⟨c1,c2,c3⟩:=c;have e1:=WW c1 a
  have e2:=WW c1 b;by_cases z:a<0/\0<b
  .have:=h3 z.1 z.2;lia
  .have z':a=0\/b=0:=by lia
   rcases z' with rfl|rfl
   .rw[Ra hn] at h1;lia
   .rw[Ra hn] at h2;lia
 .rename_i c;have hz:a<0->0<b->m≠0:=λa1 b1 e=>by
   by_cases p:n%2=0
   .exact c #[p,(),()]
   .have:=Sl (n:=n) () a1;lia
  lia
def Nd.fw (vs bs:LI)(g:Int):Nd->Int×Int
 | .number t b=>(t*g/b,-(-(t*g)/b))
 | .unknown k=>gt bs k
 | .plus i j=>((gt vs i).1+(gt vs j).1,(gt vs i).2+(gt vs j).2)
 | .minus i j=>((gt vs i).1-(gt vs j).2,(gt vs i).2-(gt vs j).1)
 | .times i j=>(mn4 (gt vs i).1 (gt vs i).2 (gt vs j).1 (gt vs j).2/g,-(-mx4 (gt vs i).1 (gt vs i).2 (gt vs j).1 (gt vs j).2/g))
 | .power i n=>(ZP (gt vs i).1 (gt vs i).2 n.toNat/g^(n.toNat-1),-(-Z9 (gt vs i).1 (gt vs i).2 n.toNat/g^(n.toNat-1)))
def Spn (B:Nat)(vs:LI):Prop:=∀p∈vs,p.1<=p.2/\Sz B p.1/\Sz B p.2
theorem Spn.at {B:Nat}{vs:LI}(h:Spn B vs){i:Int}(hi:inR vs.length i):(gt vs i).1<=(gt vs i).2/\Sz B (gt vs i).1/\Sz B (gt vs i).2:=h _ (Si hi)
theorem Spn.mono {B C:Nat}{vs:LI}(h:Spn B vs)(hc:B<=C):Spn C vs:=λp hp=>#[(h p hp).1,(h p hp).2.1.mono hc,(h p hp).2.2.mono hc]
theorem Uo (hg:1<=g)(h:m<=M):m/g<=-(-M/g):=by
 have h1:=tJ m (show g≠0 by lia)
 have h2:=tJ (-M) (show g≠0 by lia)
 have:m/g*g<=-(-M/g)*g:=by rw[xO];lia
 exact yN this ()
theorem P6 (a b:Int)(n:Nat):ZP a b n<=Z9 a b n:=by
 unfold ZP Z9;split
 .rename_i c;have:=WW c.1 a;lia
 .lia
theorem L0 (a b c d:Int):mn4 a b c d<=mx4 a b c d:=zU (zU (xR ..) (xR ..)) (zU (xS ..) (xS ..))
theorem Nd.fw_le (h1:Spn B vs)(h2:Spn B bs)(hg:1<=g):∀v:Nd,v.ok vs.length bs.length->(v.fw vs bs g).1<=(v.fw vs bs g).2
 | .number t b,ok=>Uo ok.1.1 (zS _)
 | .unknown k,ok=>(h2.at ok).1
 | .plus i j,ok=>by
  have a:=(h1.at ok.1).1
  have b:=(h1.at ok.2).1
  show (gt vs i).1+(gt vs j).1<=(gt vs i).2+(gt vs j).2;lia
 | .minus i j,ok=>by
  have a:=(h1.at ok.1).1
  have b:=(h1.at ok.2).1
  show (gt vs i).1-(gt vs j).2<=(gt vs i).2-(gt vs j).1;lia
 | .times i j,ok=>Uo hg (L0 _ _ _ _)
 | .power i n,ok=>Uo (yG ()) (P6 _ _ _)
def VV (p q:Int×Int):Option (Int×Int):=if (if q.2<p.2 then q.2 else p.2)<(if q.1 > p.1 then q.1 else p.1) then none else some (if q.1 > p.1 then q.1 else p.1,if q.2<p.2 then q.2 else p.2)
theorem Ga {p q r:Int×Int}(h:VV p q=some r):r.1<=r.2:=by
 have go:∀lo hi:Int,(if hi<lo then none else some (lo,hi))=some r->r.1<=r.2:=λlo hi e=>by
  split at e
  .cases e
  .rename_i c;cases e;exact Int.not_lt.mp c
 exact go _ _ h
def ptD (q:Int×(Int×Int)):D:=.tup [.int q.1,.tup [.int q.2.1,.int q.2.2]]
theorem ZW {a b:TDS}{E:Xn}{dl:Ev}{S:Sto}(W:Ev->Sto->Prop)(ha:∀nx:Ev->Sto->Prop,(∀dl' S',W dl' S'->nx dl' S')->a { nx:=nx,rt:=E.rt,bk:=E.bk,ct:=E.ct } dl S)(hb:∀dl' S',W dl' S'->b E dl' S'):XI a b E dl S:=ha _ hb
theorem MV {a b c:TDS}{E:Xn}{dl:Ev}{S:Sto}(W:Ev->Sto->Prop)(ha:∀nx:Ev->Sto->Prop,(∀dl' S',W dl' S'->nx dl' S')->XI a b { nx:=nx,rt:=E.rt,bk:=E.bk,ct:=E.ct } dl S)(hb:∀dl' S',W dl' S'->c E dl' S'):XI a (XI b c) E dl S:=ha _ hb
theorem Vs (h:Sz n m)(hg:1<=g):Sz n (-(-m/g)):=(h.neg.div hg).neg
theorem Wj (ha:Sz n a)(hb:Sz n b):Sz n (min a b):=by rw[Int.min_def];split<;>assumption
theorem X8 (ha:Sz n a)(hb:Sz n b):Sz n (max a b):=by rw[Int.max_def];split<;>assumption
theorem UA (vs:LI)(k:Nat)(p:Int×Int):(vs.map frD).set k (frD p)=(vs.set k p).map frD:=(List.map_set).symm
theorem VF {n:Nat}{i:Int}(h:inR n i):ixN n i=some i.toNat:=by
 obtain⟨h0,h1⟩:=h;unfold ixN;split<;>first|lia|rfl|(split<;>first|lia|rfl)
def Nd.wt (ws:List Nat):Nd->Nat
 | .number _ _=>1
 | .unknown _=>1
 | .plus i j=>ws.getD i.toNat 0+ws.getD j.toNat 0
 | .minus i j=>ws.getD i.toNat 0+ws.getD j.toNat 0
 | .times i j=>ws.getD i.toNat 0+ws.getD j.toNat 0
 | .power i n=>n.toNat*ws.getD i.toNat 0
structure ZF (q:Int)(ns:List Nd)(ws:List Nat):Prop where
 len:ws.length=ns.length
 ok:∀(k:Nat)(v:Nd),ns[k]?=some v->v.ok k q/\ws.getD k 0=v.wt ws/\1<=v.wt ws/\v.wt ws<=16
theorem ZF.nil (q:Int):ZF q [] []:=#[rfl,λk v h=>by simp at h]
theorem ZF.w1 {q:Int}{ns:List Nd}{ws:List Nat}(h:ZF q ns ws){i:Int}(hi:inR ns.length i):1<=ws.getD i.toNat 0/\ws.getD i.toNat 0<=16:=by
 obtain⟨h0,h1⟩:=hi;have hk:i.toNat<ns.length:=();obtain⟨_,e,a,b⟩:=h.ok i.toNat _ (zD hk);lia
theorem ZF.w2 {q:Int}{ns:List Nd}{ws:List Nat}(h:ZF q ns ws):∀v:Nd,v.ok ns.length q->1<=v.wt ws/\v.wt ws<=96
 | .number _ _,_=>#[zA 1,show 1<=96 by decide]
 | .unknown _,_=>#[zA 1,show 1<=96 by decide]
 | .plus i j,ok=>by have a:=h.w1 ok.1;have b:=h.w1 ok.2;simp only[Nd.wt];lia
 | .minus i j,ok=>by have a:=h.w1 ok.1;have b:=h.w1 ok.2;simp only[Nd.wt];lia
 | .times i j,ok=>by have a:=h.w1 ok.1;have b:=h.w1 ok.2;simp only[Nd.wt];lia
 | .power i n,ok=>by
  have a:=h.w1 ok.1
  have n2:=ok.2.1
  have n6:=ok.2.2
  have m1:=wU (show 1<=n.toNat by lia) a.1
  have m2:=wU (show n.toNat<=6 by lia) a.2;simp only[Nd.wt];lia
theorem MS (h:k<ws.length):(ws++[w]).getD k 0=ws.getD k 0:=by
 rw[zW,zW,zJ h]
theorem Lp (hk:k<=ws.length):∀v:Nd,v.ok k q->v.wt (ws++[w])=v.wt ws:=by
 have e:∀i:Int,inR k i->(ws++[w]).getD i.toNat 0=ws.getD i.toNat 0:=λi hi=>MS (by have a:=hi.1;have b:=hi.2;lia)
 intro v ok;cases v with
 | number _ _=>rfl
 | unknown _=>rfl
 | plus i j=>show _+_=_+_;rw[e i ok.1,e j ok.2]
 | minus i j=>show _+_=_+_;rw[e i ok.1,e j ok.2]
 | times i j=>show _+_=_+_;rw[e i ok.1,e j ok.2]
 | power i n=>show _*_=_*_;rw[e i ok.1]
theorem ZF.snoc {q:Int}{ns:List Nd}{ws:List Nat}(h:ZF q ns ws){v:Nd}(ok:v.ok ns.length q)(h16:v.wt ws<=16):ZF q (ns++[v]) (ws++[v.wt ws]):=by
 refine#[by simp[h.len],λk u hu=>?_];by_cases hk:k<ns.length
 .rw[zJ hk] at hu;obtain⟨a,b,c,d⟩:=h.ok k u hu;have e:=Lp (w:=v.wt ws) (by rw[h.len];lia) u a;rw[e,MS (by rw[h.len];exact hk)];exact#[a,b,c,d]
 .have hl:=(zC.mp hu).1;simp at hl;have ek:k=ns.length:=by lia
  subst ek;simp at hu;subst hu;have e:=Lp (w:=v.wt ws) (by rw[h.len];lia) v ok;rw[e];refine#[ok,?_,(h.w2 v ok).1,h16];rw[<- h.len];simp
theorem ZF.take {q:Int}{ns:List Nd}{ws:List Nat}(h:ZF q ns ws)(n:Nat):ZF q (ns.take n) (ws.take n):=by
 have e:∀k:Nat,k<n->(ws.take n).getD k 0=ws.getD k 0:=λk hk=>by
  rw[zW,zW,vF hk]
 refine#[by simp[h.len],λk u hu=>?_];have hl:=(zC.mp hu).1;rw[zG] at hl;have hk:k<n:=by lia
 rw[vF hk] at hu;obtain⟨a,b,c,d⟩:=h.ok k u hu;have e2:u.wt (ws.take n)=u.wt ws:=by
  have f:∀i:Int,inR k i->(ws.take n).getD i.toNat 0=ws.getD i.toNat 0:=λi hi=>e _ (by have:=hi.1;have:=hi.2;lia)
  cases u with
  | number _ _=>rfl
  | unknown _=>rfl
  | plus i j=>show _+_=_+_;rw[f i a.1,f j a.2]
  | minus i j=>show _+_=_+_;rw[f i a.1,f j a.2]
  | times i j=>show _+_=_+_;rw[f i a.1,f j a.2]
  | power i m=>show _*_=_*_;rw[f i a.1]
 rw[e2,e k hk];exact#[a,b,c,d]
def Zp (bs:LI)(g:Int)(ns:List Nd):LI:=ns.foldl (λacc v=>acc++[v.fw acc bs g]) []
theorem UR (bs:LI)(g:Int)(ns:List Nd)(v:Nd):Zp bs g (ns++[v])=Zp bs g ns++[v.fw (Zp bs g ns) bs g]:=by
 unfold Zp;rw[wV];rfl
theorem YI {α:Type}{xs:List α}{k:Nat}{x:α}(h:xs[k]?=some x):xs.take (k+1)=xs.take k++[x]:=by rw[wN,h];rfl
theorem YZ (bs:LI)(g:Int)(ns:List Nd):(Zp bs g ns).length=ns.length:=by
 have z:∀k,k<=ns.length->(Zp bs g (ns.take k)).length=k:=λk=>by
  induction k with
  | zero=>intro _;rfl
  | succ k ih=>
   intro hk;rw[YI (zD (show k<ns.length by lia)),UR];simp[ih ()]
 have:=z ns.length (zA _)
 rwa [yH] at this
theorem Ni (bs:LI)(g:Int)(ns:List Nd)(k:Nat):k<=ns.length->(Zp bs g ns).take k=Zp bs g (ns.take k):=by
 have z:∀m,k<=m->m<=ns.length->(Zp bs g (ns.take m)).take k=Zp bs g (ns.take k):=λm=>by
  induction m with
  | zero=>
   intro h1 _;have:k=0:=by lia
   subst this;rfl
  | succ m ih=>
   intro h1 h2;by_cases e:k=m+1
   .subst e;rw[yI (by rw[YZ,zG];lia)]
   .rw[YI (zD (show m<ns.length by lia)),UR,vN (by rw[YZ,zG];lia)];exact ih () ()
 intro hk;have:=z ns.length hk (zA _)
 rwa [yH] at this
def SzW (ws:List Nat)(vs:LI):Prop:=∀(k:Nat)(p:Int×Int),vs[k]?=some p->p.1<=p.2/\Sz (60*ws.getD k 0-1) p.1/\Sz (60*ws.getD k 0-1) p.2
theorem SzW.at {ws:List Nat}{vs:LI}(h:SzW ws vs){i:Int}(hi:inR vs.length i):(gt vs i).1<=(gt vs i).2/\Sz (60*ws.getD i.toNat 0-1) (gt vs i).1/\Sz (60*ws.getD i.toNat 0-1) (gt vs i).2:=by
 obtain⟨h0,h1⟩:=hi;have hk:i.toNat<vs.length:=by lia
 have e:gt vs i=vs[i.toNat]:=by simp[gt,hk]
 rw[e];exact h _ _ (zD hk)
theorem fw_w (hs:SzW ws vs)(hb:Spn 51 bs)(hg:1<=g/\g<=1000000)(hw:∀i:Int,inR vs.length i->1<=ws.getD i.toNat 0):∀v:Nd,v.ok vs.length bs.length->Sz (60*v.wt ws-1) (v.fw vs bs g).1/\Sz (60*v.wt ws-1) (v.fw vs bs g).2
 | .number t b,ok=>by
  have z:Sz 52 (t*g):=(Sz.of (10^9) ok.2.2).mul (Sz.of (n:=21) (10^6) (show g.natAbs<=_ by lia));exact#[(z.div ok.1.1).mono (show 52<=60*1-1 by decide),(Vs z ok.1.1).mono (show 52<=60*1-1 by decide)]
 | .unknown k,ok=>#[(hb.at ok).2.1.mono (show 51<=60*1-1 by decide),(hb.at ok).2.2.mono (show 51<=60*1-1 by decide)]
 | .plus i j,ok=>by
  have a:=hs.at ok.1
  have b:=hs.at ok.2
  have p:=hw i ok.1
  have q:=hw j ok.2;exact#[(a.2.1.add b.2.1).mono (by simp only[Nd.wt];lia),(a.2.2.add b.2.2).mono (by simp only[Nd.wt];lia)]
 | .minus i j,ok=>by
  have a:=hs.at ok.1
  have b:=hs.at ok.2
  have p:=hw i ok.1
  have q:=hw j ok.2;exact#[(a.2.1.sub b.2.2).mono (by simp only[Nd.wt];lia),(a.2.2.sub b.2.1).mono (by simp only[Nd.wt];lia)]
 | .times i j,ok=>by
  have a:=hs.at ok.1
  have b:=hs.at ok.2
  have le:∀ {x y:Int},Sz (60*ws.getD i.toNat 0-1) x->Sz (60*ws.getD j.toNat 0-1) y->Sz (60*Nd.wt ws (.times i j)-1) (x*y):=λh1 h2=>(h1.mul h2).mono (by simp only[Nd.wt];lia)
  have l:=Wj (Wj (le a.2.1 b.2.1) (le a.2.1 b.2.2)) (Wj (le a.2.2 b.2.1) (le a.2.2 b.2.2))
  have u:=X8 (X8 (le a.2.1 b.2.1) (le a.2.1 b.2.2)) (X8 (le a.2.2 b.2.1) (le a.2.2 b.2.2));exact#[l.div hg.1,Vs u hg.1]
 | .power i n,ok=>by
  have a:=hs.at ok.1
  have p:=hw i ok.1
  have n2:=ok.2.1
  have gp:(1:Int)<=g^(n.toNat-1):=yG ()
  have hn:(60*ws.getD i.toNat 0-1)*n.toNat+1<=60*Nd.wt ws (.power i n)-1:=by
   simp only[Nd.wt];rw[uG,Nat.one_mul];have m1:=wU (zA n.toNat) p;lia
  have p1:Sz (60*Nd.wt ws (.power i n)-1) ((gt vs i).1^n.toNat):=(a.2.1.pow _).mono hn
  have p2:Sz (60*Nd.wt ws (.power i n)-1) ((gt vs i).2^n.toNat):=(a.2.2.pow _).mono hn
  have l:Sz (60*Nd.wt ws (.power i n)-1) (ZP (gt vs i).1 (gt vs i).2 n.toNat):=by
   unfold ZP;split
   .exact(Sz.of (n:=1) 0 ⋯).mono (by have:=wU (show 1<=n.toNat by lia) p;simp only[Nd.wt];lia)
   .exact Wj p1 p2
  exact#[l.div gp,Vs (X8 p1 p2) gp]
theorem Spn.of_w {ws:List Nat}{vs:LI}(h:SzW ws vs)(hw:∀k:Nat,k<vs.length->ws.getD k 0<=16):Spn 1000 vs:=λp hp=>by
 obtain⟨k,hk,e⟩:=yZ.mp hp;obtain⟨a,b,c⟩:=h k p (by rw[zD hk,e]);have:=hw k hk;exact#[a,b.mono (),c.mono ()]
theorem Ma {q:Int}{ns:List Nd}{ws:List Nat}{bs:LI}{g:Int}(h:ZF q ns ws)(hq:q=bs.length)(hb:Spn 51 bs)(hg:1<=g/\g<=1000000):∀k,k<=ns.length->SzW ws (Zp bs g (ns.take k)):=λk=>by
 induction k with
 | zero=>intro _ i p hp;simp[Zp] at hp
 | succ k ih=>
  intro hk;have hv:=zD (show k<ns.length by lia)
  have s:=ih ()
  have ln:(Zp bs g (ns.take k)).length=k:=by rw[YZ,zG];lia
  obtain⟨ok,e,_,_⟩:=h.ok k _ hv;rw[YI hv,UR];have okv:(ns[k]).ok (Zp bs g (ns.take k)).length bs.length:=by rw[ln,<- hq];exact ok
  have w1:∀i:Int,inR (Zp bs g (ns.take k)).length i->1<=ws.getD i.toNat 0:=λi hi=>(h.w1 (by rw[ln] at hi;exact#[hi.1,by have:=hi.2;lia])).1
  have z:=fw_w s hb hg w1 ns[k] okv
  have l:((ns[k]).fw (Zp bs g (ns.take k)) bs g).1<=((ns[k]).fw (Zp bs g (ns.take k)) bs g).2:=by
   refine Nd.fw_le (B:=6000) ?_ (hb.mono ⋯) hg.1 _ okv;intro p hp;obtain⟨i,hi,ei⟩:=yZ.mp hp;obtain⟨a,b,c⟩:=s i p (by rw[zD hi,ei]);have:=(h.w1 (i:=i) #[(),by rw[ln] at hi;lia]).2;rw[zK] at this;exact#[a,b.mono (),c.mono ()]
  intro i p hp;by_cases hi:i<k
  .rw[zJ (by rw[ln];exact hi)] at hp;exact s i p hp
  .have hl:=(zC.mp hp).1;simp at hl;have ei:i=k:=by lia
   subst ei;rw[yO (by rw[ln];exact zA _),ln,xT] at hp;simp at hp;subst hp;rw[e];exact#[l,z]
theorem Rb {q:Int}{ns:List Nd}{ws:List Nat}{bs:LI}{g:Int}(h:ZF q ns ws)(hq:q=bs.length)(hb:Spn 51 bs)(hg:1<=g/\g<=1000000)(k:Nat)(hk:k<=ns.length):Spn 1000 (Zp bs g (ns.take k)):=
 Spn.of_w (Ma h hq hb hg k hk) λi hi=>by
  rw[YZ,zG] at hi;have:=(h.w1 (i:=i) #[(),()]).2
  rwa [zK] at this
theorem YH (h:Pre S T)(hn:S.length<=n):Pre S (T.set n o):=λk u e=>by
 have hk:=(zC.mp e).1;rw[zY ()];exact h k u e
theorem XY (h:Pre S T)(U:Sto):Pre S (T++U):=λk u e=>Zo (h k u e)
theorem BQ {to te:TDE}{dl:Ev}{S S1 S2:Sto}{Q:DK}{n:Nat}{xs:List D}{y:D}(hto:∀K:DK,K (.ref n) S1->to dl S K)(h:S1[n]?=some (.lst xs))(hte:∀K:DK,K y S2->te dl S1 K)(h2:S2[n]?=some (.lst xs))(hl:xs.length<1000)(hq:Q .non (S2.set n (.lst (xs++[y])))):Wh to te dl S Q:=by
 unfold Wh;refine hto _ ?_;simp only[h];refine hte _ ?_;simp only[h2,if_pos hl];exact hq
theorem QX (u v:Nd):∃b,eqN 1 u.d v.d=some b:=by cases u<;>cases v<;>exact#[_,rfl]
theorem E9 (u:Nd):eqN 1 u.d u.d=some true:=by cases u<;>simp[Nd.d,eqN,L3.eqT,eqL,eqF]
theorem Sf (v:Nd):∀ns:List Nd,∃b,Y6 (eqN 1) (ns.map Nd.d) v.d=some b
 | []=>#[false,rfl]
 | u::us=>by
  obtain⟨b,e⟩:=QX u v;obtain⟨c,e2⟩:=Sf v us;refine#[b||c,?_];show (match eqN 1 u.d v.d,Y6 (eqN 1) (us.map Nd.d) v.d with|some b,some c=>some (b||c)|_,_=>none)=_;rw[e,e2]
theorem Oh {v:Nd}{ns:List Nd}{n:Nat}{S:Sto}{Q:DK}(h:S[n]?=some (.lst (ns.map Nd.d)))(hq:∀b:Bool,Q (.bl b) S):YM (wIn 1 true) v.d (.ref n) S Q:=by
 obtain⟨b,e⟩:=Sf v ns;rw[Xq];unfold wIn;simp only[ZO h rfl,Zk,e];exact hq _
def wtD (w:Nat):D:=.int (w:Int)
theorem WM {ws:List Nat}{i:Int}(h:inR ws.length i):atI (ws.map wtD) i=some (.int ((ws.getD i.toNat 0:Nat):Int)):=by
 obtain⟨h0,h1⟩:=h;have hk:i.toNat<ws.length:=by lia
 have z:=Ye (xs:=ws.map wtD) (v:=wtD (ws.getD i.toNat 0)) (by rw[zF,zD hk];simp[hk]);rw[show ((i.toNat:Nat):Int)=i by lia] at z;exact z
theorem CY (q:Nat):ZF q ((List.range q).map λ(k:Nat)=>Nd.unknown (k:Int)) ((List.range q).map λ_=>1):=by
 refine#[by simp,λk v hv=>?_];have hl:=(zC.mp hv).1;simp at hl;rw[zF,xZ hl] at hv;cases hv;refine#[#[(),()],?_,zA _,show 1<=16 by decide];simp[Nd.wt,hl]
theorem Hs {u v:Nd}(h:eqN 1 u.d v.d=some true):u=v:=by
 cases u<;>cases v<;>simp[Nd.d,eqN,L3.eqT,eqL,eqF] at h
 all_goals first|(obtain⟨rfl,rfl⟩:=h;rfl)|(subst h;rfl)|exact absurd h.1 ⋯
theorem Qu (v:Nd):∀ns:List Nd,∃o:Option Nat,Xu (eqN 1) (ns.map Nd.d) v.d=some o/\Y6 (eqN 1) (ns.map Nd.d) v.d=some o.isSome/\∀j,o=some j->ns[j]?=some v
 | []=>#[none,rfl,rfl,λj h=>by cases h]
 | u::us=>by
  obtain⟨b,e⟩:=QX u v;obtain⟨o,h1,h2,h3⟩:=Qu v us;have f1:Xu (eqN 1) ((u::us).map Nd.d) v.d=(match eqN 1 u.d v.d,Xu (eqN 1) (us.map Nd.d) v.d with|some true,some _=>some (some 0)|some false,some o=>some (o.map (·+1))|_,_=>none):=rfl
  have f2:Y6 (eqN 1) ((u::us).map Nd.d) v.d=(match eqN 1 u.d v.d,Y6 (eqN 1) (us.map Nd.d) v.d with|some b,some c=>some (b||c)|_,_=>none):=rfl;rw[f1,f2,e,h1,h2];cases b with
  | true=>exact#[some 0,rfl,rfl,λj hj=>by
    cases hj;rw[Hs e];rfl]
  | false=>exact#[o.map (·+1),rfl,by cases o<;>rfl,λj hj=>by
    cases o with
    | none=>cases hj
    | some i=>
     cases hj;exact h3 i rfl]
theorem Ls {v:Nd}{ns:List Nd}{n j:Nat}{to:TDE}{t:TDA}{dl:Ev}{S:Sto}{Q:DK}(hto:∀K:DK,K (.ref n) S->to dl S K)(ht:∀K:List D->Sto->Prop,K [v.d] S->t dl S K)(h:S[n]?=some (.lst (ns.map Nd.d)))(e:Xu (eqN 1) (ns.map Nd.d) v.d=some (some j))(hq:Q (.int (j:Int)) S):VX 1 to t dl S Q:=by
 unfold VX;refine hto _ #[by rw[ZO h rfl];rfl,ht _ ?_];unfold UH;simp only[ZO h rfl,Zk,e];exact hq
theorem U3 {caps:List Nat}{ta:TDA}{te:TDE}{dl:Ev}{S S1:Sto}{Q:DK}{n n':Nat}{xs ys:List D}(g:D->D->D)(hta:∀K:List D->Sto->Prop,K [.ref n,.ref n'] S1->ta dl S K)(h1:S1[n]?=some (.lst xs))(h2:S1[n']?=some (.lst ys))(hl:xs.length<=1000)
  (ht:∀(k:Nat)(x y:D),xs[k]?=some x->ys[k]?=some y->∀(S2:Sto)(K:DK),Pre S1 S2->K (g x y) S2->te (some x::some y::Yd caps dl) S2 K)(hq:Q (.ref S1.length) (S1++[.lst (List.zipWith g xs ys)])):Ut caps ta te dl S Q:=by
 unfold Ut;refine hta _ #[#[by rw[ZO h1 rfl];rfl,by rw[ZO h2 rfl];rfl],λk m S2=>S2=S1++[.lst (List.zipWith g (xs.take k) (ys.take k))]/\m+k=min xs.length ys.length,#[min xs.length ys.length,by simp,()],?_];rintro k m S2 ⟨rfl,hm⟩;rw[ZO (Wb h1) rfl,ZO (Wb h2) rfl];dsimp only[Zk];split
 .rename_i x y hx hy;have hk:k<xs.length:=(zC.mp hx).1
  have hk':k<ys.length:=(zC.mp hy).1;refine ht k x y hx hy _ _ Pre.refl.push ?_;rw[Zm];refine#[by simp;lia,m-1,(),?_,()];have e:xs.take (k+1)=xs.take k++[x]:=by rw[wN,hx];rfl
  have e':ys.take (k+1)=ys.take k++[y]:=by rw[wN,hy];rfl
  rw[e,e',List.zipWith_append (by rw[zG,zG];lia),We];rfl
 .rename_i no;have hk:min xs.length ys.length<=k:=by
   by_cases l:k<min xs.length ys.length
   .exact absurd (zD ()) (no _ _ (zD ()))
   .lia
  refine#[(),?_];have e:List.zipWith g (xs.take k) (ys.take k)=List.zipWith g xs ys:=by
   rw[<- tK,yI (by rw[vO];exact hk)]
  rw[e];exact hq
theorem HL (h:k<=m):∀ {v:Nd},v.ok k q->v.ok m q:=λ{v} ok=>by
 have z:∀i:Int,inR k i->inR m i:=λi hi=>#[hi.1,by have:=hi.2;lia]
 cases v with
 | number _ _=>exact ok
 | unknown _=>exact ok
 | plus i j=>exact#[z _ ok.1,z _ ok.2]
 | minus i j=>exact#[z _ ok.1,z _ ok.2]
 | times i j=>exact#[z _ ok.1,z _ ok.2]
 | power i n=>exact#[z _ ok.1,ok.2]
theorem Pf {vs:LI}{k:Nat}{i:Int}(h:inR k i):gt (vs.take k) i=gt vs i:=by
 have:=h.1
 have:=h.2;unfold gt;rw[zW,zW,vF ()]
theorem Ck {vs us:LI}{k:Nat}{i:Int}(h:inR k i)(hk:k<=vs.length):gt (vs++us) i=gt vs i:=by
 have:=h.1
 have:=h.2;unfold gt;rw[zW,zW,zJ ()]
theorem Xx {vs:LI}{k:Nat}{p:Int×Int}(h:vs[k]?=some p):gt vs (k:Int)=p:=by
 unfold gt;rw[zW,zK,h];rfl
theorem Sz.pow' (h:Sz n i)(hk:1<=k):Sz (n*k) (i^k):=by
 unfold Sz at *
 rw[uD,Nat.pow_mul];exact Nat.pow_lt_pow_left h ()
theorem SzW.spn (h:SzW ws vs)(hw:∀k:Nat,k<vs.length->ws.getD k 0<=16):Spn 1000 vs:=Spn.of_w h hw
theorem QC {A B x:Int}(y:Int)(h1:A<=x)(h2:x<=B):min (A*y) (B*y)<=x*y/\x*y<=max (A*y) (B*y):=by
 rcases wW 0 y with h|h
 .have a:=zQ h1 h
  have b:=zQ h2 h;lia
 .have a:=zQ h1 (show 0<=-y by lia)
  have b:=zQ h2 (show 0<=-y by lia);lia
theorem Ir {A B C D x y:Int}(h1:A<=x)(h2:x<=B)(h3:C<=y)(h4:y<=D):mn4 A B C D<=x*y/\x*y<=mx4 A B C D:=by
 have a:=QC y h1 h2
 have b:=QC A h3 h4
 have c:=QC B h3 h4;rw[yT C A,yT D A,yT y A] at b;rw[yT C B,yT D B,yT y B] at c;exact#[zU (vL.mpr #[zU (xR ..) b.1,zU (wQ ..) c.1]) a.1,zU a.2 (vM.mpr #[zU b.2 (xS ..),zU c.2 (wR ..)])]
theorem SQ {vs:LI}{p:Int×Int}{i:Int}(h:inR vs.length i):gt (vs++[p]) i=gt vs i:=by
 have hk:i.toNat<vs.length:=by
  have:=h.1
  have:=h.2;lia
 simp only[gt,zW,zJ hk]
theorem U2 {vs:LI}{p:Int×Int}{k:Nat}(h:vs.length=k):gt (vs++[p]) (k:Int)=p:=by
 subst h;simp[gt]
def Pz (B:Nat)(vs:LI):Prop:=∀p∈vs,1<=p.2/\Sz B p.1/\Sz B p.2
theorem Pz.at {B:Nat}{vs:LI}(h:Pz B vs){i:Int}(hi:inR vs.length i):1<=(gt vs i).2/\Sz B (gt vs i).1/\Sz B (gt vs i).2:=h _ (Si hi)
def Nd.due (vs ps:LI):Nd->Int×Int
 | .number t b=>(t,b)
 | .unknown k=>gt ps k
 | .plus i j=>((gt vs i).1*(gt vs j).2+(gt vs j).1*(gt vs i).2,(gt vs i).2*(gt vs j).2)
 | .minus i j=>((gt vs i).1*(gt vs j).2-(gt vs j).1*(gt vs i).2,(gt vs i).2*(gt vs j).2)
 | .times i j=>((gt vs i).1*(gt vs j).1,(gt vs i).2*(gt vs j).2)
 | .power i n=>((gt vs i).1^n.toNat,(gt vs i).2^n.toNat)
def PzW (ws:List Nat)(vs:LI):Prop:=∀(k:Nat)(p:Int×Int),vs[k]?=some p->1<=p.2/\Sz (112*ws.getD k 0-2) p.1/\Sz (112*ws.getD k 0-2) p.2
theorem PzW.at {ws:List Nat}{vs:LI}(h:PzW ws vs){i:Int}(hi:inR vs.length i):1<=(gt vs i).2/\Sz (112*ws.getD i.toNat 0-2) (gt vs i).1/\Sz (112*ws.getD i.toNat 0-2) (gt vs i).2:=by
 obtain⟨h0,h1⟩:=hi;have hk:i.toNat<vs.length:=by lia
 have e:gt vs i=vs[i.toNat]:=by simp[gt,hk]
 rw[e];exact h _ _ (zD hk)
theorem due_w (hs:PzW ws vs)(hp:Pz 110 ps)(hw:∀i:Int,inR vs.length i->1<=ws.getD i.toNat 0):∀v:Nd,v.ok vs.length ps.length->1<=(v.due vs ps).2/\Sz (112*v.wt ws-2) (v.due vs ps).1/\Sz (112*v.wt ws-2) (v.due vs ps).2
 | .number t b,ok=>#[ok.1.1,(Sz.of (10^9) ok.2.2).mono (show 31<=112*1-2 by decide),(Sz.of (10^9) (by have:=ok.1;show b.natAbs<=_;lia)).mono (show 31<=112*1-2 by decide)]
 | .unknown k,ok=>#[(hp.at ok).1,(hp.at ok).2.1.mono (show 110<=112*1-2 by decide),(hp.at ok).2.2.mono (show 110<=112*1-2 by decide)]
 | .plus i j,ok=>by
  have a:=hs.at ok.1
  have b:=hs.at ok.2
  have p:=hw i ok.1
  have q:=hw j ok.2;exact#[xY (show 0<_ by lia) (show 0<_ by lia),((a.2.1.mul b.2.2).add (b.2.1.mul a.2.2)).mono (by simp only[Nd.wt];lia),(a.2.2.mul b.2.2).mono (by simp only[Nd.wt];lia)]
 | .minus i j,ok=>by
  have a:=hs.at ok.1
  have b:=hs.at ok.2
  have p:=hw i ok.1
  have q:=hw j ok.2;exact#[xY (show 0<_ by lia) (show 0<_ by lia),((a.2.1.mul b.2.2).sub (b.2.1.mul a.2.2)).mono (by simp only[Nd.wt];lia),(a.2.2.mul b.2.2).mono (by simp only[Nd.wt];lia)]
 | .times i j,ok=>by
  have a:=hs.at ok.1
  have b:=hs.at ok.2;exact#[xY (show 0<_ by lia) (show 0<_ by lia),(a.2.1.mul b.2.1).mono (by simp only[Nd.wt];lia),(a.2.2.mul b.2.2).mono (by simp only[Nd.wt];lia)]
 | .power i n,ok=>by
  have a:=hs.at ok.1
  have p:=hw i ok.1
  have n2:=ok.2.1
  have hn:(112*ws.getD i.toNat 0-2)*n.toNat+1<=112*Nd.wt ws (.power i n)-2:=by
   simp only[Nd.wt];rw[uG];have m1:=wU (zA n.toNat) p;lia
  exact#[yG (show 0<_ by lia),(a.2.1.pow _).mono hn,(a.2.2.pow _).mono hn]
def Zq (ps:LI)(ns:List Nd):LI:=ns.foldl (λacc v=>acc++[v.due acc ps]) []
theorem X5 (ps:LI)(ns:List Nd)(v:Nd):Zq ps (ns++[v])=Zq ps ns++[v.due (Zq ps ns) ps]:=by
 unfold Zq;rw[wV];rfl
theorem Xv (ps:LI)(ns:List Nd):(Zq ps ns).length=ns.length:=by
 have z:∀k,k<=ns.length->(Zq ps (ns.take k)).length=k:=λk=>by
  induction k with
  | zero=>intro _;rfl
  | succ k ih=>
   intro hk;rw[YI (zD (show k<ns.length by lia)),X5];simp[ih ()]
 have y:=z ns.length (zA _)
 rwa [yH] at y
theorem Gq (h:PzW ws vs)(lk:vs.length=k)(hp:1<=p.2/\Sz (112*ws.getD k 0-2) p.1/\Sz (112*ws.getD k 0-2) p.2):PzW ws (vs++[p]):=λi q hq=>by
 by_cases hi:i<k
 .rw[zJ ()] at hq;exact h i q hq
 .have hl:=(zC.mp hq).1;simp at hl;have ei:i=k:=by lia
  subst ei;rw[yO (),lk,xT] at hq;simp at hq;subst hq;exact hp
theorem GK {q:Int}{ns:List Nd}{ws:List Nat}(h:ZF q ns ws){k:Nat}{vs:LI}(hk:k<=ns.length)(lv:vs.length=k):∀i:Int,inR vs.length i->1<=ws.getD i.toNat 0:=λi hi=>(h.w1 #[hi.1,by have:=hi.2;lia]).1
theorem VZ {q:Int}{ns:List Nd}{ws:List Nat}{ps:LI}(h:ZF q ns ws)(hq:q=ps.length)(hp:Pz 110 ps):∀k,k<=ns.length->PzW ws (Zq ps (ns.take k)):=by
 intro k
 induction k with
 | zero=>intro _ i p hp;simp[Zq] at hp
 | succ k ih=>
  intro hk;have hv:=zD (show k<ns.length by lia)
  have s:=ih ()
  have ln:(Zq ps (ns.take k)).length=k:=by rw[Xv,zG];lia
  obtain⟨ok,e,_,_⟩:=h.ok k _ hv;rw[YI hv,X5];refine Gq s ln ?_;rw[e];exact due_w s hp (GK h () ln) _ (by rw[ln,<- hq];exact ok)
theorem Pz.of_w {ws:List Nat}{vs:LI}(h:PzW ws vs)(hw:∀k:Nat,k<vs.length->ws.getD k 0<=16):Pz 1800 vs:=λp hp=>by
 obtain⟨k,hk,e⟩:=yZ.mp hp;obtain⟨a,b,c⟩:=h k p (by rw[zD hk,e]);have:=hw k hk;exact#[a,b.mono (),c.mono ()]
theorem WR {p q k:Int}(h:0<=k):min (p*k) (q*k)=min p q*k/\max (p*k) (q*k)=max p q*k:=by
 rcases wW p q with c|c
 .have:=zQ c h;rw[Int.min_eq_left c,Int.max_eq_right c];omega
 .have:=zQ c h;rw[Int.min_eq_right c,Int.max_eq_left c];omega
theorem Nk {a b c d p q:Int}(h:0<=p*q):mn4 (a*p) (b*p) (c*q) (d*q)=mn4 a b c d*(p*q)/\mx4 (a*p) (b*p) (c*q) (d*q)=mx4 a b c d*(p*q):=by
 have e:∀x y:Int,x*p*(y*q)=x*y*(p*q):=λx y=>by grind
 unfold mn4 mx4;rw[e,e,e,e];refine#[?_,?_]
 .rw[(WR h).1,(WR h).1,(WR h).1]
 .rw[(WR h).2,(WR h).2,(WR h).2]
theorem DD (hn:1<=n)(hp:1<=p)(h1:a*p<=x)(h2:x<=b*p):ZP a b n*p^n<=x^n/\x^n<=Z9 a b n*p^n:=by
 have pp:0<p^n:=yG ()
 have lo1:ZP a b n<=a^n:=by
  unfold ZP;split
  .rename_i c;exact WW c.1 a
  .lia
 have lo2:ZP a b n<=b^n:=by
  unfold ZP;split
  .rename_i c;exact WW c.1 b
  .lia
 refine HI hn h1 h2 ?_ ?_ (λha hb=>?_) ?_ ?_
 .rw[yV];exact zQ lo1 ()
 .rw[yV];exact zQ lo2 ()
 .have a0:a<0:=by
   by_cases c:a<0
   .exact c
   .have:=yF (show 0<=a by lia) (show 0<=p by lia);lia
  have b0:0<b:=by
   by_cases c:0<b
   .exact c
   .have:=yF (show 0<=-b by lia) (show 0<=p by lia);lia
  have z:ZP a b n<=0:=by
   unfold ZP;split
   .exact zS _
   .rename_i c;have:=Sl (n:=n) () a0;lia
  have:=yF (show 0<=-ZP a b n by lia) (show 0<=p^n by lia);lia
 .rw[yV];exact zQ (by unfold Z9;lia) ()
 .rw[yV];exact zQ (by unfold Z9;lia) ()
theorem N4 (hG:1<=G)(hB:0<=B)(h1:m*B<=X*G)(h2:X*G<=M*B):m/G*B<=X/\X<=-(-M/G)*B:=by
 have a:=zQ (Vf m (show 0<G by lia)).1 hB
 have b:=zQ (UX M (show 0<G by lia)).1 hB
 have e1:m/G*G*B=m/G*B*G:=by grind
 have e2:-(-M/G)*G*B=-(-M/G)*B*G:=by grind
 exact#[yN (a:=G) () (),yN (a:=G) () ()]
def InW (g:Int)(vs ds:LI):Prop:=∀i:Int,inR ds.length i->(gt vs i).1*(gt ds i).2<=(gt ds i).1*g/\(gt ds i).1*g<=(gt vs i).2*(gt ds i).2
theorem As (hg:1<=g)(h:InW g vs ds)(hp:InW g bs ps)(pd:Pz B ds)(pp:Pz B ps):∀v:Nd,v.ok ds.length ps.length->(v.fw vs bs g).1*(v.due ds ps).2<=(v.due ds ps).1*g/\(v.due ds ps).1*g<=(v.fw vs bs g).2*(v.due ds ps).2
 | .number t b,ok=>#[(Vf (t*g) (show 0<b by have:=ok.1.1;lia)).1,(UX (t*g) (show 0<b by have:=ok.1.1;lia)).1]
 | .unknown k,ok=>hp k ok
 | .plus i j,ok=>by
  have a:=h i ok.1
  have b:=h j ok.2
  have p1:=(pd.at ok.1).1
  have p2:=(pd.at ok.2).1;simp only[Nd.fw,Nd.due];have a1:=zQ a.1 (show 0<=(gt ds j).2 by lia)
  have a2:=zQ a.2 (show 0<=(gt ds j).2 by lia)
  have b1:=zQ b.1 (show 0<=(gt ds i).2 by lia)
  have b2:=zQ b.2 (show 0<=(gt ds i).2 by lia);grind
 | .minus i j,ok=>by
  have a:=h i ok.1
  have b:=h j ok.2
  have p1:=(pd.at ok.1).1
  have p2:=(pd.at ok.2).1;simp only[Nd.fw,Nd.due];have a1:=zQ a.1 (show 0<=(gt ds j).2 by lia)
  have a2:=zQ a.2 (show 0<=(gt ds j).2 by lia)
  have b1:=zQ b.1 (show 0<=(gt ds i).2 by lia)
  have b2:=zQ b.2 (show 0<=(gt ds i).2 by lia);grind
 | .times i j,ok=>by
  have a:=h i ok.1
  have b:=h j ok.2
  have p1:=(pd.at ok.1).1
  have p2:=(pd.at ok.2).1
  have pq:0<=(gt ds i).2*(gt ds j).2:=yF () ()
  have z:=Ir a.1 a.2 b.1 b.2;rw[(Nk pq).1,(Nk pq).2] at z;have e:(gt ds i).1*g*((gt ds j).1*g)=(gt ds i).1*(gt ds j).1*g*g:=by grind
  rw[e] at z;exact N4 hg pq z.1 z.2
 | .power i n,ok=>by
  have a:=h i ok.1
  have p1:=(pd.at ok.1).1
  have n2:=ok.2.1;obtain⟨k,hk⟩:∃k,n.toNat=k+1:=#[n.toNat-1,()];have z:=DD (n:=n.toNat) () p1 a.1 a.2
  have e:((gt ds i).1*g)^n.toNat=(gt ds i).1^n.toNat*g*g^(n.toNat-1):=by
   rw[yV,hk,tI,yD g k];grind
  rw[e] at z;exact N4 (yG ()) (xE (yG ())) z.1 z.2
theorem Pd {q:Int}{ns:List Nd}{ws:List Nat}{bs ps:LI}{g:Int}(h:ZF q ns ws)(hq:q=bs.length)(hqp:q=ps.length)(hg:1<=g)(hp:InW g bs ps)(pp:Pz 110 ps):∀k,k<=ns.length->InW g (Zp bs g (ns.take k)) (Zq ps (ns.take k)):=by
 intro k
 induction k with
 | zero=>intro _ i hi;exact absurd hi.2 (by have:=hi.1;simp[Zq];lia)
 | succ k ih=>
  intro hk i hi;have hv:ns[k]?=some ns[k]:=zD ();obtain⟨ok,_⟩:=h.ok k _ hv;have ln:(Zp bs g (ns.take k)).length=k:=by rw[YZ,zG];lia
  have lN:(Zq ps (ns.take k)).length=k:=by rw[Xv,zG];lia
  rw[YI hv,X5] at hi;rw[YI hv,UR,X5];have hi2:i<k+1:=by have:=hi.2;simp only[yB,yE,uV,lN] at this;lia
  by_cases c:i<k
  .rw[SQ (by rw[ln];exact#[hi.1,c]),SQ (by rw[lN];exact#[hi.1,c])];exact ih () i (by rw[lN];exact#[hi.1,c])
  .have e:i=k:=by lia
   subst e;rw[U2 ln,U2 lN];have pz:Pz 1800 (Zq ps (ns.take k)):=Pz.of_w (VZ h hqp pp k ()) λj hj=>(h.w1 (i:=j) #[(),()]).2
   refine As hg (ih ()) hp pz (λp hp=>#[(pp p hp).1,(pp p hp).2.1.mono ⋯,(pp p hp).2.2.mono ⋯]) _ ?_;rw[lN,<- hqp];exact ok
theorem G7 {v:Nd}{ns:List Nd}{n:Nat}{S:Sto}{Q:DK}{o:Option Nat}(h:S[n]?=some (.lst (ns.map Nd.d)))(e:Y6 (eqN 1) (ns.map Nd.d) v.d=some o.isSome)(hq:Q (.bl (!o.isSome)) S):YM (wIn 1 true) v.d (.ref n) S Q:=by
 rw[Xq];unfold wIn;simp only[ZO h rfl,Zk,e];exact hq
theorem any_some:∀ {ns:List Nd} {k:Nat},ns[k]?=some v->Y6 (eqN 1) (ns.map Nd.d) v.d≠some (none:Option Nat).isSome
 | [],k,h=>by simp at h
 | u::us,0,h=>by
  have e:u=v:=by simpa using h
  subst e;show (match eqN 1 u.d u.d,Y6 (eqN 1) (us.map Nd.d) u.d with|some b,some c=>some (b||c)|_,_=>none)≠_;obtain⟨c,hc⟩:=Sf u us;rw[E9,hc];simp
 | u::us,k+1,h=>by
  have ih:=any_some (by simpa using h)
  show (match eqN 1 u.d v.d,Y6 (eqN 1) (us.map Nd.d) v.d with|some b,some c=>some (b||c)|_,_=>none)≠_;obtain⟨b,hb⟩:=QX u v;obtain⟨c,hc⟩:=Sf v us;rw[hc] at ih;rw[hb,hc];cases c
  .exact absurd rfl ih
  .simp
theorem Mx {vs us ps:LI}{k:Nat}{q:Int}(h:∀i:Int,inR k i->gt vs i=gt us i):∀v:Nd,v.ok k q->v.due vs ps=v.due us ps
 | .number _ _,_=>rfl
 | .unknown _,_=>rfl
 | .plus i j,ok=>by simp only[Nd.due,h i ok.1,h j ok.2]
 | .minus i j,ok=>by simp only[Nd.due,h i ok.1,h j ok.2]
 | .times i j,ok=>by simp only[Nd.due,h i ok.1,h j ok.2]
 | .power i n,ok=>by simp only[Nd.due,h i ok.1]
theorem NU (P:LI)(ns:List Nd):∀ms:List Nd,∃r,Zq P (ns++ms)=Zq P ns++r
 | []=>#[[],by rw[xN,xN]]
 | v::ms=>by
  obtain⟨r,e⟩:=NU P (ns++[v]) ms;rw[xB] at e;refine#[v.due (Zq P ns) P::r,?_];rw[show ns++v::ms=ns++([v]++ms) from rfl,e,X5,xB];rfl
theorem PQ {P:LI}{ns ms:List Nd}{i:Int}(h:inR ns.length i):gt (Zq P (ns++ms)) i=gt (Zq P ns) i:=by
 obtain⟨r,e⟩:=NU P ns ms;rw[e];exact Ck h (by rw[Xv];exact zA _)
theorem AS {P:LI}{ns:List Nd}{ws:List Nat}{q:Int}{j:Nat}{v:Nd}(net:ZF q ns ws)(h:ns[j]?=some v):gt (Zq P ns) (j:Int)=v.due (Zq P ns) P:=by
 have hj:=(zC.mp h).1
 have e:ns=ns.take (j+1)++ns.drop (j+1):=(vA _ _).symm
 have e2:ns=ns.take j++ns.drop j:=(vA _ _).symm
 have l:(ns.take (j+1)).length=j+1:=by rw[zG];lia
 have lj:(ns.take j).length=j:=by rw[zG];lia
 have g1:gt (Zq P ns) (j:Int)=gt (Zq P (ns.take (j+1))) (j:Int):=by
  have z:=PQ (P:=P) (ms:=ns.drop (j+1)) (i:=(j:Int)) #[(),by rw[l];lia];rw[<- e] at z;exact z
 rw[g1,YI h,X5,U2 (by rw[Xv,lj])];refine Mx (λi hi=>?_) v (net.ok j v h).1;have z:=PQ (P:=P) (ms:=ns.drop j) (by rw[lj];exact hi);rw[<- e2] at z;exact z.symm
theorem AA {ws us:List Nat}{i:Nat}(h:i<ws.length):(ws++us).getD i 0=ws.getD i 0:=by rw[zW,zW,zJ h]
structure Gr (q a c:Nat)(S:Sto)(ns:List Nd)(ws:List Nat)(T:Sto)(ns':List Nd)(ws':List Nat):Prop where
 net:ZF q ns' ws'
 pn:∃ms,ns'=ns++ms/\ms.length<=c
 pw:∃us,ws'=ws++us
 nd:T[a]?=some (.lst (ns'.map Nd.d))
 len:S.length<=T.length
 kp:∀(x:Nat)(o:Ob),x≠a->S[x]?=some o->T[x]?=some o
theorem Gr.refl {q a:Nat}{S:Sto}{ns:List Nd}{ws:List Nat}(net:ZF q ns ws)(h:S[a]?=some (.lst (ns.map Nd.d))):Gr q a 0 S ns ws S ns ws:=#[net,#[[],by simp,by simp],#[[],by simp],h,zA _,λ_ _ _ e=>e]
theorem Gr.trans {q a c d:Nat}{S T U:Sto}{ns ns' ns2:List Nd}{ws ws' ws2:List Nat}(h:Gr q a c S ns ws T ns' ws')(k:Gr q a d T ns' ws' U ns2 ws2):Gr q a (c+d) S ns ws U ns2 ws2:=by
 obtain⟨n1,⟨ms,rfl,l1⟩,⟨us,rfl⟩,a1,e1,k1⟩:=h;obtain⟨n2,⟨ms2,rfl,l2⟩,⟨us2,rfl⟩,a2,e2,k2⟩:=k;exact#[n2,#[ms++ms2,by rw[xB],by rw[yB];lia],#[us++us2,by rw[xB]],a2,(),λx o hx e=>k2 x o hx (k1 x o hx e)]
theorem Gr.mono {q a c d:Nat}{S T:Sto}{ns ns':List Nd}{ws ws':List Nat}(h:Gr q a c S ns ws T ns' ws')(l:c<=d):Gr q a d S ns ws T ns' ws':=by
 obtain⟨n1,⟨ms,e,l1⟩,u,a1,e1,k1⟩:=h;exact#[n1,#[ms,e,()],u,a1,e1,k1]
theorem Gr.ln {q a c:Nat}{S T:Sto}{ns ns':List Nd}{ws ws':List Nat}(h:Gr q a c S ns ws T ns' ws'):ns.length<=ns'.length/\ns'.length<=ns.length+c:=by
 obtain⟨n1,⟨ms,rfl,l1⟩,_⟩:=h;rw[yB];lia
theorem Gr.wt {q a c:Nat}{S T:Sto}{ns ns':List Nd}{ws ws':List Nat}(h:Gr q a c S ns ws T ns' ws')(net:ZF q ns ws){i:Nat}(hi:i<ns.length):ws'.getD i 0=ws.getD i 0:=by
 obtain⟨us,rfl⟩:=h.pw;exact AA (by rw[net.len];exact hi)
theorem Gr.due {q a c:Nat}{S T:Sto}{ns ns':List Nd}{ws ws':List Nat}(h:Gr q a c S ns ws T ns' ws')(P:LI){i:Nat}(hi:i<ns.length):gt (Zq P ns') (i:Int)=gt (Zq P ns) (i:Int):=by
 obtain⟨ms,rfl,_⟩:=h.pn;exact PQ #[(),()]
theorem Gr.put {q a c n:Nat}{S T:Sto}{ns ns':List Nd}{ws ws':List Nat}{o:Ob}(h:Gr q a c S ns ws T ns' ws')(ha:n≠a)(hn:S.length<=n):Gr q a c S ns ws (T.set n o) ns' ws':=by
 obtain⟨n1,pn,pw,a1,e1,k1⟩:=h;refine#[n1,pn,pw,ZY a1 ha,by rw[yM];exact e1,λx u hx e=>ZY (k1 x u hx e) ?_];have:=ZT e;lia
theorem Gr.push {q a:Nat}{S:Sto}{ns:List Nd}{ws:List Nat}(net:ZF q ns ws)(h:S[a]?=some (.lst (ns.map Nd.d)))(U:Sto):Gr q a 0 S ns ws (S++U) ns ws:=#[net,#[[],by simp,by simp],#[[],by simp],Zo h,by simp,λ_ _ _ e=>Zo e]
structure Zr (P:LI)(ns:List Nd)(ws:List Nat)(w i:Nat):Prop where
 lt:i<ns.length
 wt:ws.getD i 0<=w
 due:(gt (Zq P ns) (i:Int)).1=0
theorem CS {q a c:Nat}{S T:Sto}{ns ns':List Nd}{ws ws':List Nat}(h:Gr q a c S ns ws T ns' ws')(net:ZF q ns ws){v:Nd}(ok:v.ok ns.length q):v.wt ws'=v.wt ws:=by
 have z:∀i:Int,inR (ns.length:Nat) i->ws'.getD i.toNat 0=ws.getD i.toNat 0:=λi hi=>by
  have h0:=hi.1
  have h1:=hi.2;exact h.wt net ()
 cases v with
 | number _ _=>rfl
 | unknown _=>rfl
 | plus i j=>show ws'.getD i.toNat 0+ws'.getD j.toNat 0=ws.getD i.toNat 0+ws.getD j.toNat 0;rw[z i ok.1,z j ok.2]
 | minus i j=>show ws'.getD i.toNat 0+ws'.getD j.toNat 0=ws.getD i.toNat 0+ws.getD j.toNat 0;rw[z i ok.1,z j ok.2]
 | times i j=>show ws'.getD i.toNat 0+ws'.getD j.toNat 0=ws.getD i.toNat 0+ws.getD j.toNat 0;rw[z i ok.1,z j ok.2]
 | power i n=>show n.toNat*ws'.getD i.toNat 0=n.toNat*ws.getD i.toNat 0;rw[z i ok.1]
theorem Gv {q a c j:Nat}{S T:Sto}{ns ns':List Nd}{ws ws':List Nat}(h:Gr q a c S ns ws T ns' ws'){v:Nd}(ok:v.ok ns.length q)(hj:ns'[j]?=some v)(P:LI):gt (Zq P ns') (j:Int)=v.due (Zq P ns) P:=by
 rw[AS h.net hj];refine Mx (λi hi=>?_) v ok;have h0:=hi.1
 have h1:=hi.2
 have z:=h.due P (i:=i.toNat) ();exact z
structure Tight (x0 x1:Int)(V Sp:Int->Int->Prop)(L U:Int):Prop where
 all:∀p q,0<q->x0*q<=p->p<=x1*q->V p q->L*q<=p/\p<=U*q
 lo:∃p q,Sp p q/\0<q/\x0*q<=p/\p<=x1*q/\V p q/\p<(L+1)*q
 hi:∃p q,Sp p q/\0<q/\x0*q<=p/\p<=x1*q/\V p q/\(U-1)*q<p
theorem dl (m:Int){g:Int}(hg:0<g):m/g*g<=m/\m<(m/g+1)*g:=by
 have h1:=uC m g
 have h2:=vZ m (show g≠0 by lia)
 have h3:=uA m hg;lia
theorem mlr {a b c:Int}(h:a<=b)(hc:0<=c):a*c<=b*c:=zQ h hc
theorem can {a b c:Int}(h:a*c<=b*c)(hc:0<c):a<=b:=yN h hc
structure Low (x0 x1 lo hi lb hb L:Int):Prop where
 all:∀p q,0<q->x0*q<=p->lo*q<=p*lb->L*q<=p
 ex:∃p q,(p=x0/\q=1\/p=lo/\q=lb)/\0<q/\x0*q<=p/\p<=x1*q/\(lo*q<=p*lb/\p*hb<=hi*q)/\p<(L+1)*q
structure Side (lo hi x0 x1 c d:Int):Prop where
 hz:lo<=hi
 hx:x0<=x1
 h0:0<=c
 hcd:c<=d
 hd:0<d
section
variable {lo hi x0 x1 c d:Int}
end
abbrev mx0 (a:Int):Int:=if 0 > a then 0 else a
section
variable {lo hi x0 x1 y0 y1 L U L' U' l u:Int}
variable (hz:lo<=hi)(hy:y0<=y1)(nb:¬ ((y0<=0/\0<=y1)/\lo<=0/\0<=hi))
include hz hy nb
end
theorem if2 {a b:Prop} [Decidable a] [Decidable b] {A B:Prop}(h1:a->b->A)(h2:¬ (a/\b)->B):if (decide a&&decide b)=true then A else B:=by
 by_cases z:a/\b
 .rw[decide_eq_true z.1,decide_eq_true z.2];exact Y0 (h1 z.1 z.2)
 .have e:(decide a&&decide b)=false:=by
   simp only[Bool.and_eq_false_iff,decide_eq_false_iff_not];by_cases y:a
   .exact .inr λy2=>z #[y,y2]
   .exact .inl y
  rw[e];exact Y5 (h2 z)
theorem and2 {a b:Prop} [Decidable a] [Decidable b] {Q:DK}{S:Sto}(h:Q (.bl (decide a&&decide b)) S):if decide a=true then Q (.bl (decide b)) S else Q (.bl false) S:=
 ifD (λe=>by rw[decide_eq_true e,uH] at h;exact h) (λe=>by rw[decide_eq_false e,vB] at h;exact h)
theorem O5 (a:Int):0<=mx0 a:=by unfold mx0;split<;>lia
theorem LO (h:Sz 1400 a):Sz 1400 (mx0 a):=by
 unfold mx0;split
 .exact Sz.of 0 ⋯
 .exact h
theorem cut {a b c t2:TDS}{E:Xn}{dl:Ev}{S:Sto}{α:Type}(G:α->Ev)(P:α->Prop)(h:(∀a,P a->t2 E (G a) S)->XI a (XI b (XI c t2)) E dl S)(main:∀a,P a->t2 E (G a) S):XI a (XI b (XI c t2)) E dl S:=h main
def Mt (n:Nat)(lo hi l h:Int):Prop:=((n%2=0/\l<0/\0<h)/\0<=hi\/¬ (n%2=0/\l<0/\0<h)/\(l^n<=hi\/h^n<=hi))/\(lo<=l^n\/lo<=h^n)
structure Rts (n:Nat)(lo hi al bl ah bh:Int):Prop where
 hz:lo<=hi
 hn:1<=n
 nn:n%2=0->0<=al/\0<=ah
 up:∀t:Int,n%2=1\/0<=t->(t^n<=hi↔t<=ah)
 dn:∀t:Int,n%2=1\/0<=t->(lo<=t^n↔bl<=t)
 el:bl=al/\(bl^n=lo\/bl=0/\n%2=0)\/bl=al+1/\bl^n≠lo
 eh:bh=ah/\ah^n=hi\/bh=ah+1/\ah^n≠hi
section
variable {n:Nat}{lo hi al bl ah bh:Int}
structure Least (n:Nat)(lo hi x0 x1 m:Int):Prop where
 a:x0<=m
 b:m<=x1
 c:Mt n lo hi x0 m
 d:∀k,x0<=k->k<m->¬ Mt n lo hi x0 k
def PZ (n:Nat)(lo hi x0 x1 v:Int):Prop:=∃m,Least n lo hi x0 x1 m/\(m=x0/\v=x0\/m≠x0/\(((m-1)^n<lo/\m^n=lo\/(m-1)^n > hi/\m^n=hi)/\v=m\/¬ ((m-1)^n<lo/\m^n=lo\/(m-1)^n > hi/\m^n=hi)/\v=m-1))
end
structure Wc (n:Nat)(lo hi x0 x1 L U:Int):Prop where
 m:Mt n lo hi x0 x1
 low:∀v,PZ n lo hi x0 x1 v->v=L
 he:n%2=0->∀v,PZ n lo hi (-x1) (-x0) v->v=-U
 ho:n%2=1->∀v,PZ n (-hi) (-lo) (-x1) (-x0) v->v=-U
 lu:L<=U
 has:∀t,x0<=t->t<=x1->lo<=t^n->t^n<=hi->L<=t/\t<=U
section
variable {n:Nat}{lo hi al bl ah bh x0 x1:Int}
end
theorem Sz.mid {n:Nat}{a b x:Int}(ha:Sz n a)(hb:Sz n b)(h1:a<=x)(h2:x<=b):Sz n x:=by
 unfold Sz at *
 generalize 2^n=B at *
 lia
theorem AN (hn:2<=n)(s:Sz 1300 N):Sz 652 (1*2^((Builtin.Int.intBits N:Int)/n+1).toNat):=by
 have b:=s.bits;rw[uI];unfold Sz;rw[uD];have e:(2:Int).natAbs=2:=rfl;refine Nat.pow_lt_pow_right ⋯ ?_;have d:(Builtin.Int.intBits N:Int)/n<=650:=by
  have h1:(Builtin.Int.intBits N:Int)/n<=(Builtin.Int.intBits N:Int)/2:=by
   refine(Int.le_ediv_iff_mul_le ()).mpr ?_;have d1:=uC (Builtin.Int.intBits N:Int) n
   have d3:=vP (show (0:Int)<=(Builtin.Int.intBits N:Int) by lia) (show 0<=n by lia)
   have d4:=zQ hn d3;lia
  lia
 lia
theorem J2 {caps:List Nat}{tl te:TDE}{dl:Ev}{S S1:Sto}{Q:DK}{n:Nat}{o:Ob}(W:Nat->List D->Sto->Prop)(htl:∀K:DK,K (.ref n) S1->tl dl S K)(h1:S1[n]?=some o)(hw:∀k ys S2,W k ys S2->S2[n]?=some o/\S2[S1.length]?=some (.lst ys)/\ys.length=k)(hl:(Zk o).length<=1000)(h0:W 0 [] (S1++[.lst []]))
  (ht:∀(k:Nat)(x:D)(ys:List D)(S2:Sto)(K:DK),(Zk o)[k]?=some x->W k ys S2->(∀y S3,S3[S1.length]?=some (.lst ys)->W (k+1) (ys++[y]) (S3.set S1.length (.lst (ys++[y])))->K y S3)->te (some x::Yd caps dl) S2 K)
  (hq:∀ys S2,W (Zk o).length ys S2->Q (.ref S1.length) S2)(hL:Y9 o=some o:=by rfl):Xs caps tl YX te dl S Q:=by
 unfold Xs;refine htl _ #[by rw[ZO h1 hL];rfl,λk m S2=>(∃ys,W k ys S2)/\m+k=(Zk o).length,#[(Zk o).length,#[_,h0],()],?_];rintro k m S2 ⟨⟨ys,w⟩,hm⟩;obtain⟨w1,w2,w3⟩:=hw _ _ _ w;rw[ZO w1 hL];dsimp only;split
 .rename_i x hx;have hk:k<(Zk o).length:=(zC.mp hx).1;unfold WL YX;refine ht k x ys S2 _ hx w λy S3 e3 w4=>?_
  rw[e3];exact#[(),m-1,(),#[_,w4],()]
 .rename_i hx;have hk:k=(Zk o).length:=by
   have:=xD.mp hx;lia
  exact hq ys S2 (hk ▸ w)
theorem NI {caps:List Nat}{ta:TDA}{te:TDE}{dl:Ev}{S S1:Sto}{Q:DK}{j:Int}(W:Nat->List D->Sto->Prop)(hta:∀K:List D->Sto->Prop,K [.int j] S1->ta dl S K)(hj:0<=j/\j<=1000)(hw:∀k ys S2,W k ys S2->S2[S1.length]?=some (.lst ys)/\ys.length=k)(h0:W 0 [] (S1++[.lst []]))
  (ht:∀(k:Nat)(ys:List D)(S2:Sto)(K:DK),k<j.toNat->W k ys S2->(∀y S3,S3[S1.length]?=some (.lst ys)->W (k+1) (ys++[y]) (S3.set S1.length (.lst (ys++[y])))->K y S3)->te (some (.int (k:Int))::Yd caps dl) S2 K)
  (hq:∀ys S2,W j.toNat ys S2->Q (.ref S1.length) S2):Wd caps ta YX te dl S Q:=by
 unfold Wd;refine hta _ #[#[(),()],λk S2=>k<=j.toNat/\∃ys,W k ys S2,#[zL _,_,h0],?_];rintro k S2 ⟨hk,ys,w⟩;obtain⟨w2,w3⟩:=hw _ _ _ w;split
 .rename_i c;refine ht k ys S2 _ c w λy S3 e3 w4=>?_
  rw[e3];exact#[(),(),_,w4]
 .rename_i c;have hk:k=j.toNat:=by lia
  exact hq ys S2 (hk ▸ w)
theorem O8 {S T:Sto}{n:Nat}{o:Ob}(h:Pre S T)(hn:S.length<=n):Pre S (T.set n o):=λk u e=>by
 have l:=(zC.mp e).1;rw[zY ()];exact h k u e
theorem OW {vs:List Nd}{k:Nat}{v:Nd}(h:vs[k]?=some v):atI (vs.map Nd.d) (k:Int)=some v.d:=Ye (by rw[zF,h];rfl)
theorem VL {is:List Nat}{ta:TDA}{tb:TDS}{E:Xn}{dl:Ev}{S S1:Sto}{n:Nat}{xs:List D}(W:Nat->Ev->Sto->Prop)(hta:∀K:List D->Sto->Prop,K [.ref n] S1->ta dl S K)(hk:∀k dl' S',W k dl' S'->S'[n]?=some (.lst xs))(h0:W 0 dl S1)
  (hb:∀(k:Nat)(x:D)(dl':Ev)(S':Sto)(nx ct:Ev->Sto->Prop),xs[k]?=some x->W k dl' S'->(∀dl2 S2,W (k+1) dl2 S2->nx dl2 S2)->tb { nx:=nx,rt:=E.rt,bk:=E.nx,ct:=ct } (WN is [.int (k:Int),x] dl') S')(he:∀dl' S',W xs.length dl' S'->E.nx dl' S'):Tt is ta tb E dl S:=by
 unfold Tt;refine hta _ #[by rw[ZO (hk _ _ _ h0) rfl];rfl,λk m dl' S'=>W k dl' S'/\k+m=xs.length,#[xs.length,h0,()],?_];rintro k m dl' S' ⟨w,hm⟩;rw[ZO (hk _ _ _ w) rfl];dsimp only[Zk];split
 .rename_i x e1;have l1:=(zC.mp e1).1;exact hb k x dl' S' _ _ e1 w (λdl2 S2 w2=>#[m-1,(),w2,()])
 .rename_i e1;have l1:=xD.mp e1
  have ek:k=xs.length:=by lia
  exact#[ek,he _ _ (ek ▸ w)]
theorem U4 (h0:0<=n)(h1:n<=xs.length):Yi xs none (some n)=xs.take n.toNat:=by
 unfold L3.Yi;have e:HT.sIx xs.length xs.length (some n)=n.toNat:=by
  have z:=HT.sIx_nat xs.length xs.length n.toNat;rw[xU h0] at z;lia
 rw[e,HT.sIx_none,uJ,Nat.sub_zero]
def Sub (x:Int×Int)(o:Option (Int×Int)):Prop:=∀p,o=some p->p.1<=p.2/\x.1<=p.1/\p.2<=x.2
theorem Jh:Sub p (VV p q):=λr e=>by
 refine#[Ga e,?_];have go:∀lo hi:Int,p.1<=lo->hi<=p.2->(if hi<lo then none else some (lo,hi))=some r->p.1<=r.1/\r.2<=p.2:=λlo hi a b e=>by
  split at e
  .cases e
  .cases e;exact#[a,b]
 refine go _ _ ?_ ?_ e
 .split<;>lia
 .split<;>lia
theorem Spn.set2 (h:Spn B vs)(hu:u.1<=u.2/\Sz B u.1/\Sz B u.2):Spn B (vs.set k u):=λp hp=>by
 rcases uK hp with e|e
 .exact h p e
 .subst e;exact hu
def rwW (zero:Bool)(w:Str):Prop:=zero=true/\w="zero"\/zero=false/\w="least"
theorem Gr.pre {q a:Nat}{S T:Sto}{ns:List Nd}{ws:List Nat}(net:ZF q ns ws)(h:S[a]?=some (.lst (ns.map Nd.d)))(pr:Pre S T)(hl:S.length<=T.length):Gr q a 0 S ns ws T ns ws:=#[net,#[[],by simp,by simp],#[[],by simp],pr _ _ h,hl,λx o _ e=>pr x o e]
def FdAt (o:Option LI)(L:Nat)(S:Sto)(fd:D):Prop:=(fd=.non/\o=none)\/∃(r:LI)(mf:Nat),fd=.ref mf/\o=some r/\S[mf]?=some (.lst (r.map frD))/\L<=mf
theorem Y1 (h:Pre S T):S.length<=T.length:=by
 by_cases c:S.length<=T.length
 .exact c
 .have e:=h T.length _ (zD ())
  have:=(zC.mp e).1;lia
structure Ct where
 k:Nat
 p:Int
 s:Bool
def Ct.d (c:Ct):D:=.tup [.int (c.k:Int),.int c.p,.int (if c.s then 1 else 0)]
def brS (zero:Bool)(s:Int×Int):Bool:=if zero then decide (0<s.1)||decide (s.2<0) else decide (s.2<0)
def ibS (ns:List Nd)(zero:Bool)(k:Nat)(bs:LI)(g:Int):Bool:=brS zero (gt (Zp bs g (ns.take (k+1))) (k:Int))
def Ct.off (c:Ct)(s:Int×Int):Int×Int:=if c.s then (c.p,s.2) else (s.1,c.p)
def Ct.back (c:Ct)(s:Int×Int):Int×Int:=if c.s then (s.1,c.p) else (c.p,s.2)
def isS (ns:List Nd)(zero:Bool)(k:Nat)(g:Int)(bs:LI)(c:Ct):Bool:=(decide ((gt bs (c.k:Int)).1<c.p)&&decide (c.p<(gt bs (c.k:Int)).2))&&ibS ns zero k (bs.set c.k (c.off (gt bs (c.k:Int)))) g
def ctP (bs:LI)(c:Ct):LI:=bs.set c.k (c.back (gt bs (c.k:Int)))
def Tc (ns:List Nd)(zero:Bool)(k:Nat)(g:Int)(a:List Ct×LI)(c:Ct):List Ct×LI:=if isS ns zero k g a.2 c then (a.1++[c],ctP a.2 c) else a
def ctA (bs:LI)(cs:List Ct):LI:=cs.foldl ctP bs
theorem NC (bs:LI)(cs:List Ct)(c:Ct):ctA bs (cs++[c])=ctP (ctA bs cs) c:=by
 unfold ctA;rw[wV];rfl
def Ct.ix (c:Ct):Nat:=2*c.k+(if c.s then 1 else 0)
structure UE (ns:List Nd)(zero:Bool)(k:Nat)(g:Int)(bs:LI)(n:Nat)(q:List Ct×LI):Prop where
 left:q.2=ctA bs q.1
 len:q.2.length=bs.length
 spn:Spn 51 q.2
 is:∀(i:Nat)(c:Ct),q.1[i]?=some c->isS ns zero k g (ctA bs (q.1.take i)) c=true/\c.k<bs.length
 lt:∀c∈q.1,c.ix<n
 ord:∀(i j:Nat)(c d:Ct),i<j->q.1[i]?=some c->q.1[j]?=some d->c.ix<d.ix
 few:q.1.length<=n
theorem Om {ns:List Nd}{zero:Bool}{k:Nat}{g:Int}{bs:LI}{c:Ct}(h:isS ns zero k g bs c=true):(gt bs (c.k:Int)).1<c.p/\c.p<(gt bs (c.k:Int)).2:=by
 unfold isS at h;simp at h;exact h.1
theorem MZ {c:Ct}{s:Int×Int}(h1:s.1<c.p)(h2:c.p<s.2)(z1:Sz 51 s.1)(z2:Sz 51 s.2):((c.back s).1<=(c.back s).2/\Sz 51 (c.back s).1/\Sz 51 (c.back s).2)/\(c.off s).1<=(c.off s).2/\Sz 51 (c.off s).1/\Sz 51 (c.off s).2:=by
 have zp:Sz 51 c.p:=Sz.mid z1 z2 () ();unfold Ct.back Ct.off;cases c.s with
 | true=>exact#[#[by show s.1<=c.p;lia,z1,zp],by show c.p<=s.2;lia,zp,z2]
 | false=>exact#[#[by show c.p<=s.2;lia,zp,z2],by show s.1<=c.p;lia,z1,zp]
theorem UE.step {ns:List Nd}{zero:Bool}{k n:Nat}{g:Int}{bs:LI}{q:List Ct×LI}(h:UE ns zero k g bs n q){c:Ct}(hc:c.k<bs.length)(hn:c.ix=n):UE ns zero k g bs (n+1) (Tc ns zero k g q c):=by
 unfold Tc;split
 .rename_i e;have ik:inR ((q.2.length:Nat):Int) (c.k:Int):=#[(),by have:=h.len;lia]
  have a:=h.spn.at ik
  have b:=Om e;refine#[by rw[NC,<- h.left],by show (q.2.set _ _).length=_;rw[yM];exact h.len,h.spn.set2 (MZ b.1 b.2 a.2.1 a.2.2).1,λi d hd=>?_,λd hd=>?_,λi j x y hij hx hy=>?_,by show (q.1++[c]).length<=_;rw[yB];have:=h.few;simp;lia]
  .show isS ns zero k g (ctA bs ((q.1++[c]).take i)) d=true/\_;by_cases hi:i<q.1.length
   .have hd2:(q.1++[c])[i]?=some d:=hd;rw[zJ hi] at hd2;rw[vN ()];exact h.is i d hd2
   .have hd2:(q.1++[c])[i]?=some d:=hd
    have hl:=(zC.mp hd2).1;simp at hl;have ei:i=q.1.length:=by lia
    subst ei;simp at hd2;subst hd2;rw[vN (zA _),yH,<- h.left];exact#[e,hc]
  .have hd2:d∈q.1++[c]:=hd;rcases zX.mp hd2 with z|z
   .have:=h.lt d z;lia
   .cases zO.mp z;lia
  .have hx2:(q.1++[c])[i]?=some x:=hx
   have hy2:(q.1++[c])[j]?=some y:=hy
   have hl:=(zC.mp hy2).1;simp at hl;rw[zJ ()] at hx2;by_cases hj:j<q.1.length
   .rw[zJ hj] at hy2;exact h.ord i j x y hij hx2 hy2
   .have ej:j=q.1.length:=by lia
    subst ej;simp at hy2;have:=h.lt x (zE hx2);lia
 .exact#[h.left,h.len,h.spn,h.is,λd hd=>by have:=h.lt d hd;lia,h.ord,by have:=h.few;lia]
theorem HA (net:ZF bs.length ns ws)(hg:1<=g)(hk:k<ns.length)(lp:ps.length=bs.length)(pp:Pz 110 ps)(ip:InW g bs ps)(row:if zero then (gt (Zq ps (ns.take (k+1))) (k:Int)).1=0 else 0<=(gt (Zq ps (ns.take (k+1))) (k:Int)).1):ibS ns zero k bs g=false:=by
 have ld:(Zq ps (ns.take (k+1))).length=k+1:=by rw[Xv,zG];lia
 have inw:=Pd net rfl (by rw[lp]) hg ip pp (k+1) ()
 have pz:Pz 1800 (Zq ps (ns.take (k+1))):=Pz.of_w (VZ net (by rw[lp]) pp (k+1) ()) λj hj=>(net.w1 (i:=j) #[(),()]).2
 have ik:inR (((Zq ps (ns.take (k+1))).length:Nat):Int) (k:Int):=#[(),()]
 have u:=(pz.at ik).1
 have z:=inw k ik;unfold ibS brS;generalize gt (Zp bs g (ns.take (k+1))) (k:Int)=s at z;generalize gt (Zq ps (ns.take (k+1))) (k:Int)=d at z u row;have c2:0<=d.1->¬ s.2<0:=λh c=>by
  have a:=mlr (c:=d.2) (show s.2<=-1 by lia) ()
  have b:=yF h (show 0<=g by lia);lia
 cases zero with
 | true=>
  have e:d.1=0:=row
  have c1:¬ 0<s.1:=λc=>by
   have a:=xY c (show 0<d.2 by lia);lia
  simp[c1,c2 ()]
 | false=>
  have e:0<=d.1:=row;simp[c2 e]
theorem Dd (bs:LI):∀cs:List Ct,(ctA bs cs).length=bs.length:=λcs=>by
 unfold ctA
 induction cs generalizing bs with
 | nil=>rfl
 | cons c cs ih=>
  show (cs.foldl ctP (ctP bs c)).length=_;rw[ih];exact yM ..
theorem Dj {α:Type}{bs:LI}{k:Nat}{p:Int×Int}(h:k<bs.length):Yi (bs.map frD) none (some (k:Int))++[frD p]++Yi (bs.map frD) (some ((k:Int)+1)) none=(bs.set k p).map frD:=by
 rw[U4 () (by rw[zB];lia),zK];have e:Yi (bs.map frD) (some ((k:Int)+1)) none=(bs.map frD).drop (k+1):=by
  unfold L3.Yi;have z:=HT.sIx_nat (bs.map frD).length 0 (k+1);rw[show (((k+1:Nat):Int))=(k:Int)+1 by lia] at z;rw[z,HT.sIx_none,yI (by rw[wH];lia),uL (by rw[zB];lia)]
 rw[e,List.set_eq_take_append_cons_drop,if_pos h,zZ,yL,wA,List.map_drop,xB];rfl
theorem O6 {to te:TDE}{dl:Ev}{S:Sto}{Q:DK}{n:Nat}{xs:List D}(hto:∀K:DK,K (.ref n) S->to dl S K)(h:S[n]?=some (.lst xs))(hte:∀K:DK,(∀(y:D)(S2:Sto),S2[n]?=some (.lst xs)->Q .non (S2.set n (.lst (xs++[y])))->K y S2)->te dl S K)(hl:xs.length<1000):Wh to te dl S Q:=by
 unfold Wh;refine hto _ ?_;simp only[h];refine hte _ λy S2 h2 q=>?_
 simp only[h2,if_pos hl];exact q
def Yh (S:Sto)(lo:Nat)(ds:List D)(R:List LI):Prop:=ds.length=R.length/\∀(k:Nat)(d:D)(r:LI),ds[k]?=some d->R[k]?=some r->∃a,d=.ref a/\lo<=a/\S[a]?=some (.lst (r.map frD))
theorem Yh.nil {S:Sto}{lo:Nat}:Yh S lo [] []:=#[rfl,λk d r h=>by simp at h]
theorem Yh.pre {S T:Sto}{lo:Nat}{ds:List D}{R:List LI}(h:Yh S lo ds R)(p:Pre S T):Yh T lo ds R:=#[h.1,λk d r hd hr=>by
 obtain⟨a,e,l,s⟩:=h.2 k d r hd hr;exact#[a,e,l,p _ _ s]]
theorem Yh.low {S:Sto}{lo lo':Nat}{ds:List D}{R:List LI}(h:Yh S lo ds R)(l:lo'<=lo):Yh S lo' ds R:=#[h.1,λk d r hd hr=>by
 obtain⟨a,e,l,s⟩:=h.2 k d r hd hr;exact#[a,e,(),s]]
theorem Yh.keep {S T:Sto}{lo:Nat}{ds:List D}{R:List LI}(h:Yh S lo ds R)(p:∀(x:Nat)(o:Ob),lo<=x->S[x]?=some o->T[x]?=some o):Yh T lo ds R:=#[h.1,λk d r hd hr=>by
 obtain⟨a,e,l,s⟩:=h.2 k d r hd hr;exact#[a,e,l,p _ _ l s]]
theorem Yh.at {S:Sto}{lo:Nat}{ds:List D}{R:List LI}(h:Yh S lo ds R){i:Int}(hi:inR R.length i):∃a,atI ds i=some (.ref a)/\lo<=a/\S[a]?=some (.lst ((R.getD i.toNat []).map frD)):=by
 obtain⟨h0,h1⟩:=hi;have hk:i.toNat<R.length:=by lia
 have hk':i.toNat<ds.length:=by rw[h.1];exact hk
 obtain⟨a,e,l,s⟩:=h.2 i.toNat _ _ (zD hk') (zD hk);refine#[a,?_,l,?_]
 .have z:=Ye (xs:=ds) (by rw[zD hk',e]);rw[show ((i.toNat:Nat):Int)=i by lia] at z;exact z
 .rw[s];simp[hk]
theorem Yh.snoc {S:Sto}{lo:Nat}{ds:List D}{R:List LI}{a:Nat}{r:LI}(h:Yh S lo ds R)(hl:lo<=a)(hs:S[a]?=some (.lst (r.map frD))):Yh S lo (ds++[.ref a]) (R++[r]):=#[by rw[yB,yB,h.1];rfl,λk d r' hd hr=>by
 by_cases hk:k<ds.length
 .rw[zJ hk] at hd;rw[zJ (by rw[<- h.1];exact hk)] at hr;exact h.2 k d r' hd hr
 .have l:=(zC.mp hd).1;simp at l;have ek:k=ds.length:=by lia
  subst ek;rw[yO (zA _),xT] at hd;rw[h.1,yO (zA _),xT] at hr;cases hd;cases hr;exact#[a,rfl,hl,hs]]
abbrev gs (sl:List LI)(i:Int)(l:Nat):Int×Int:=(sl.getD i.toNat []).getD l (0,0)
def Z8 (p q:Int×Int)(g:Int):Int×Int:=(mn4 p.1 p.2 q.1 q.2/g,-(-mx4 p.1 p.2 q.1 q.2/g))
def YD (p:Int×Int)(n g:Int):Int×Int:=(ZP p.1 p.2 (n-1).toNat/g^((n-1).toNat-1)*n,-(-Z9 p.1 p.2 (n-1).toNat/g^((n-1).toNat-1))*n)
def Nd.sl (vs:LI)(sl:List LI)(g:Int)(l:Nat):Nd->Int×Int
 | .number _ _=>(0,0)
 | .unknown k=>if (l:Int)=k then (g,g) else (0,0)
 | .plus i j=>((gs sl i l).1+(gs sl j l).1,(gs sl i l).2+(gs sl j l).2)
 | .minus i j=>((gs sl i l).1-(gs sl j l).2,(gs sl i l).2-(gs sl j l).1)
 | .times i j=>((Z8 (gt vs i) (gs sl j l) g).1+(Z8 (gt vs j) (gs sl i l) g).1,(Z8 (gt vs i) (gs sl j l) g).2+(Z8 (gt vs j) (gs sl i l) g).2)
 | .power i n=>Z8 (YD (gt vs i) n g) (gs sl i l) g
def YU (vs:LI)(sl:List LI)(g:Int)(q:Nat)(v:Nd):LI:=(List.range q).map λl=>v.sl vs sl g l
theorem DP {vs:LI}{sl:List LI}{g:Int}{q:Nat}{v:Nd}:(YU vs sl g q v).length=q:=by simp[YU]
theorem EG (f:Int×Int->α)(r:LI)(h:r.length=q):r.map f=(List.range q).map λl=>f (r.getD l (0,0)):=by
 subst h;refine xV λk=>?_
 by_cases hk:k<r.length
 .rw[zF,zF,xZ hk,zD hk];simp[hk]
 .rw[yQ (by simpa using hk),yQ (by simpa using hk)]
theorem CO (f:Int×Int->Int×Int->α)(r s:LI)(h:r.length=q)(h':s.length=q):List.zipWith f r s=(List.range q).map λl=>f (r.getD l (0,0)) (s.getD l (0,0)):=by
 subst h;refine xV λk=>?_
 by_cases hk:k<r.length
 .rw[wX,zF,xZ hk,zD hk,zD (show k<s.length by lia)];simp[hk,show k<s.length by lia]
 .rw[yQ (by rw[vO];lia),yQ (by simpa using hk)]
theorem Aj (x:D)(q:Nat):(List.replicate q [x]).flatten=(List.range q).map λ_=>x:=by
 refine xV λk=>?_
 have l:(List.replicate q [x]).flatten=List.replicate q x:=by
  induction q with
  | zero=>rfl
  | succ q ih=>rw[vG,vS,ih];rfl
 rw[l];by_cases hk:k<q
 .rw[zF,xZ hk,wG,if_pos hk];rfl
 .rw[yQ (by simpa using hk),yQ (by simpa using hk)]
theorem R9 (p q:Int×Int)(hg:1<=g):(Z8 p q g).1<=(Z8 p q g).2:=Uo hg (L0 _ _ _ _)
theorem JQ (p:Int×Int)(hn:0<=n)(hg:1<=g):(YD p n g).1<=(YD p n g).2:=zQ (Uo (yG ()) (P6 _ _ _)) hn
def Z3 (vs:LI)(g:Int)(q:Nat)(ns:List Nd):List LI:=ns.foldl (λacc v=>acc++[YU vs acc g q v]) []
theorem RA (vs:LI)(g:Int)(q:Nat)(ns:List Nd)(v:Nd):Z3 vs g q (ns++[v])=Z3 vs g q ns++[YU vs (Z3 vs g q ns) g q v]:=by
 unfold Z3;rw[wV];rfl
theorem Vu (vs:LI)(g:Int)(q:Nat)(ns:List Nd):(Z3 vs g q ns).length=ns.length:=by
 have z:∀k,k<=ns.length->(Z3 vs g q (ns.take k)).length=k:=λk=>by
  induction k with
  | zero=>intro _;rfl
  | succ k ih=>
   intro hk;rw[YI (zD (show k<ns.length by lia)),RA];simp[ih ()]
 have:=z ns.length (zA _)
 rwa [yH] at this
def SlW (q:Nat)(ws:List Nat)(sl:List LI):Prop:=∀(k:Nat)(r:LI),sl[k]?=some r->r.length=q/\∀p∈r,p.1<=p.2/\Sz (64*ws.getD k 0-1) p.1/\Sz (64*ws.getD k 0-1) p.2
theorem SlW.at {q:Nat}{ws:List Nat}{sl:List LI}(h:SlW q ws sl){i:Int}(hi:inR sl.length i):(sl.getD i.toNat []).length=q/\∀l,l<q->(gs sl i l).1<=(gs sl i l).2/\Sz (64*ws.getD i.toNat 0-1) (gs sl i l).1/\Sz (64*ws.getD i.toNat 0-1) (gs sl i l).2:=by
 obtain⟨h0,h1⟩:=hi;have hk:i.toNat<sl.length:=by lia
 obtain⟨a,b⟩:=h i.toNat _ (zD hk);have e:sl.getD i.toNat []=sl[i.toNat]:=by simp[hk]
 refine#[by rw[e];exact a,λl hl=>?_];have e2:gs sl i l=sl[i.toNat][l]'(by rw[a];exact hl):=by
  unfold gs;rw[e];simp[show l<sl[i.toNat].length by rw[a];exact hl]
 rw[e2];exact b _ (yY _)
theorem SlW.snoc {q:Nat}{ws:List Nat}{sl:List LI}{r:LI}(h:SlW q ws sl)(hr:r.length=q)(hp:∀p∈r,p.1<=p.2/\Sz (64*ws.getD sl.length 0-1) p.1/\Sz (64*ws.getD sl.length 0-1) p.2):SlW q ws (sl++[r]):=λk u hu=>by
 by_cases hk:k<sl.length
 .rw[zJ hk] at hu;exact h k u hu
 .have l:=(zC.mp hu).1;simp at l;have ek:k=sl.length:=by lia
  subst ek;rw[yO (zA _),xT] at hu;cases hu;exact#[hr,hp]
theorem TL (hg:1<=g)(h1:Sz m p.1)(h2:Sz m p.2)(h3:Sz n q.1)(h4:Sz n q.2):Sz (m+n) (Z8 p q g).1/\Sz (m+n) (Z8 p q g).2:=
 #[(Wj (Wj (h1.mul h3) (h1.mul h4)) (Wj (h2.mul h3) (h2.mul h4))).div hg,Vs (X8 (X8 (h1.mul h3) (h1.mul h4)) (X8 (h2.mul h3) (h2.mul h4))) hg]
theorem C8:∀n:Nat,2<=n->n<=6->n<=2^(n-1):=λn h1 h2=>by
 have:n=2\/n=3\/n=4\/n=5\/n=6:=by lia
 rcases this with rfl|rfl|rfl|rfl|rfl<;>decide
theorem SU (h:Sz m x)(hn:n.natAbs<=2^e)(hp:1<=n.natAbs):Sz (m+e) (x*n):=by
 unfold Sz at *
 rw[vX,vY];exact Nat.mul_lt_mul_of_lt_of_le h hn (yP ⋯)
theorem Kz (hg:1<=g)(n2:2<=n)(n6:n<=6)(h1:Sz m p.1)(h2:Sz m p.2):Sz (m*(n.toNat-1)+(n.toNat-1)) (YD p n g).1/\Sz (m*(n.toNat-1)+(n.toNat-1)) (YD p n g).2:=by
 have en:(n-1).toNat=n.toNat-1:=by lia
 have gp:(1:Int)<=g^((n-1).toNat-1):=yG ()
 have p1:Sz (m*(n.toNat-1)) (p.1^(n-1).toNat):=by rw[en];exact Sz.pow' h1 ()
 have p2:Sz (m*(n.toNat-1)) (p.2^(n-1).toNat):=by rw[en];exact Sz.pow' h2 ()
 have lo:Sz (m*(n.toNat-1)) (ZP p.1 p.2 (n-1).toNat):=by
  unfold ZP;split
  .show (0:Int).natAbs<_;exact yP ⋯
  .exact Wj p1 p2
 have nb:n.natAbs<=2^(n.toNat-1):=by
  have:=C8 n.toNat () ();lia
 exact#[SU (lo.div gp) nb (),SU (Vs (X8 p1 p2) gp) nb ()]
theorem sl_ok {q:Nat}{ws:List Nat}{vs:LI}{sl:List LI}{g:Int}(hs:SzW ws vs)(hl:SlW q ws sl)(hg:1<=g/\g<=1000000)(hv:sl.length<=vs.length)(hw:∀i:Int,inR vs.length i->1<=ws.getD i.toNat 0){l:Nat}(hq:l<q):∀v:Nd,v.ok sl.length q->1<=v.wt ws->(v.sl vs sl g l).1<=(v.sl vs sl g l).2/\Sz (64*v.wt ws-2) (v.sl vs sl g l).1/\Sz (64*v.wt ws-2) (v.sl vs sl g l).2
 | .number t b,ok,h1=>#[zS _,by show Sz _ 0;exact yP ⋯,by show Sz _ 0;exact yP ⋯]
 | .unknown k,ok,h1=>by
  have sg:Sz (64*Nd.wt ws (.unknown k)-2) g:=(Sz.of (n:=21) (10^6) (show g.natAbs<=_ by lia)).mono (by show 21<=64*1-2;decide)
  show (if (l:Int)=k then (g,g) else (0,0)).1<=(if (l:Int)=k then (g,g) else (0,0)).2/\Sz _ (if (l:Int)=k then (g,g) else (0,0)).1/\Sz _ (if (l:Int)=k then (g,g) else (0,0)).2;split
  .exact#[zS _,sg,sg]
  .exact#[zS _,yP ⋯,yP ⋯]
 | .plus i j,ok,h1=>by
  have a:=(hl.at ok.1).2 l hq
  have b:=(hl.at ok.2).2 l hq
  have p:=hw i #[ok.1.1,by have:=ok.1.2;lia]
  have q:=hw j #[ok.2.1,by have:=ok.2.2;lia];refine#[?_,(a.2.1.add b.2.1).mono (by simp only[Nd.wt];lia),(a.2.2.add b.2.2).mono (by simp only[Nd.wt];lia)];show (gs sl i l).1+(gs sl j l).1<=(gs sl i l).2+(gs sl j l).2;lia
 | .minus i j,ok,h1=>by
  have a:=(hl.at ok.1).2 l hq
  have b:=(hl.at ok.2).2 l hq
  have p:=hw i #[ok.1.1,by have:=ok.1.2;lia]
  have q:=hw j #[ok.2.1,by have:=ok.2.2;lia];refine#[?_,(a.2.1.sub b.2.2).mono (by simp only[Nd.wt];lia),(a.2.2.sub b.2.1).mono (by simp only[Nd.wt];lia)];show (gs sl i l).1-(gs sl j l).2<=(gs sl i l).2-(gs sl j l).1;lia
 | .times i j,ok,h1=>by
  have oi:inR vs.length i:=#[ok.1.1,by have:=ok.1.2;lia]
  have oj:inR vs.length j:=#[ok.2.1,by have:=ok.2.2;lia]
  have a:=(hl.at ok.1).2 l hq
  have b:=(hl.at ok.2).2 l hq
  have c:=hs.at oi
  have d:=hs.at oj
  have p:=hw i oi
  have q:=hw j oj
  have z1:=TL hg.1 c.2.1 c.2.2 b.2.1 b.2.2
  have z2:=TL hg.1 d.2.1 d.2.2 a.2.1 a.2.2;refine#[?_,(z1.1.add z2.1).mono (by simp only[Nd.wt];lia),(z1.2.add z2.2).mono (by simp only[Nd.wt];lia)];have m1:=R9 (gt vs i) (gs sl j l) hg.1
  have m2:=R9 (gt vs j) (gs sl i l) hg.1
  show (Z8 (gt vs i) (gs sl j l) g).1+(Z8 (gt vs j) (gs sl i l) g).1<=(Z8 (gt vs i) (gs sl j l) g).2+(Z8 (gt vs j) (gs sl i l) g).2;lia
 | .power i n,ok,h1=>by
  have oi:inR vs.length i:=#[ok.1.1,by have:=ok.1.2;lia]
  have a:=(hl.at ok.1).2 l hq
  have c:=hs.at oi
  have p:=hw i oi
  have n2:=ok.2.1
  have f:=Kz hg.1 ok.2.1 ok.2.2 c.2.1 c.2.2
  have z:=TL hg.1 f.1 f.2 a.2.1 a.2.2
  have hn:(60*ws.getD i.toNat 0-1)*(n.toNat-1)+(n.toNat-1)+(64*ws.getD i.toNat 0-1)<=64*Nd.wt ws (.power i n)-2:=by
   simp only[Nd.wt];generalize ws.getD i.toNat 0=w at p;obtain⟨k,hk⟩:∃k,n.toNat=k+2:=#[n.toNat-2,()];rw[hk,show k+2-1=k+1 by lia,uG,Nat.one_mul];have e2:(k+2)*w=k*w+2*w:=Nat.add_mul ..
   have e3:k+1<=60*w*(k+1):=Nat.le_mul_of_pos_left _ ();lia
  exact#[R9 _ _ hg.1,z.1.mono hn,z.2.mono hn]
theorem Ly {q:Nat}{ns:List Nd}{ws:List Nat}{vs:LI}{g:Int}(h:ZF q ns ws)(hs:SzW ws vs)(hv:vs.length=ns.length)(hg:1<=g/\g<=1000000):∀k,k<=ns.length->SlW q ws (Z3 vs g q (ns.take k)):=λk=>by
 induction k with
 | zero=>intro _ i p hp;simp[Z3] at hp
 | succ k ih=>
  intro hk;have hv':=zD (show k<ns.length by lia)
  have s:=ih ()
  have ln:(Z3 vs g q (ns.take k)).length=k:=by rw[Vu,zG];lia
  obtain⟨ok,e,p1,_⟩:=h.ok k _ hv';rw[YI hv',RA];refine s.snoc DP λp hp=>?_
  obtain⟨l,hl,rfl⟩:=zP.mp hp;have z:=sl_ok hs s hg () (λi hi=>(h.w1 (by rw[<- hv];exact hi)).1) (wD.mp hl) ns[k] (by rw[ln];exact ok) p1;exact#[z.1,z.2.1.mono (),z.2.2.mono ()]
theorem Ml {q:Int}{ns:List Nd}{ws:List Nat}{bs:LI}{g:Int}(h:ZF q ns ws)(hq:q=bs.length)(hb:Spn 51 bs)(hg:1<=g/\g<=1000000):SzW ws (Zp bs g ns):=by
 have z:=Ma h hq hb hg ns.length (zA _)
 rwa [yH] at z
theorem SlW.spn (h:SlW q ws sl)(hw:∀k:Nat,k<sl.length->ws.getD k 0<=16):∀i:Int,inR sl.length i->(sl.getD i.toNat []).length=q/\∀l,l<q->(gs sl i l).1<=(gs sl i l).2/\Sz 1100 (gs sl i l).1/\Sz 1100 (gs sl i l).2:=λi hi=>by
 obtain⟨a,b⟩:=h.at hi;refine#[a,λl hl=>?_];obtain⟨c,d,e⟩:=b l hl;have:=hw i.toNat (by have:=hi.1;have:=hi.2;lia);exact#[c,d.mono (),e.mono ()]
def mid (p:Int×Int):Int:=(p.1+p.2)/2
def ZX (p:Int×Int):Int×Int:=(mid p,mid p)
def WQ (p q:Int×Int):Int×Int:=(p.1+q.1,p.2+q.2)
def YQ (p q:Int×Int):Int×Int:=(p.1-q.2,p.2-q.1)
def sumP (g:Int)(us vs:LI):Int×Int:=(List.zip us vs).foldl (λt z=>WQ t (Z8 z.1 z.2 g)) (0,0)
def rwD (r:Bool×Nat):D:=.tup [.str (if r.1 then "zero" else "least"),.int (r.2:Int)]
def eqs (rows:List (Bool×Nat)):List Nat:=rows.filterMap λr=>if r.1 then some r.2 else none
theorem QE {caps:List Nat}{tl te:TDE}{tc:TDT}{dl:Ev}{S S1:Sto}{Q:DK}{n:Nat}{o:Ob}(f:D->Option D)(htl:∀K:DK,K (.ref n) S1->tl dl S K)(h1:S1[n]?=some o)(hl:(Zk o).length<=1000)
  (hc:∀x∈Zk o,∀(S2:Sto)(K:Bool->Sto->Prop),Pre S1 S2->K (f x).isSome S2->tc (some x::Yd caps dl) S2 K)(ht:∀x∈Zk o,∀y,f x=some y->∀(S2:Sto)(K:DK),Pre S1 S2->K y S2->te (some x::Yd caps dl) S2 K)(hq:Q (.ref S1.length) (S1++[.lst ((Zk o).filterMap f)]))(hL:Y9 o=some o:=by rfl):Xs caps tl tc te dl S Q:=by
 unfold Xs;refine htl _ #[by rw[ZO h1 hL];rfl,λk m S2=>S2=S1++[.lst (((Zk o).take k).filterMap f)]/\m+k=(Zk o).length,#[(Zk o).length,by simp,()],?_];rintro k m S2 ⟨rfl,hm⟩;rw[ZO (Wb h1) hL];dsimp only;split
 .rename_i x hx;have hk:k<(Zk o).length:=(zC.mp hx).1
  have e:(Zk o).take (k+1)=(Zk o).take k++[x]:=by rw[wN,hx];rfl
  refine hc x (zE hx) _ _ Pre.refl.push ?_;cases ef:f x with
  | none=>
   refine Y5 ?_;refine#[m-1,(),?_,()];rw[e,tL];simp[ef]
  | some y=>
   refine Y0 ?_;refine ht x (zE hx) y ef _ _ Pre.refl.push ?_;rw[Zm];have ll:=List.length_filterMap_le f ((Zk o).take k);refine#[by rw[zG] at ll;lia,m-1,(),?_,()];rw[e,tL,We];simp[ef]
 .rename_i hx;have hk:(Zk o).length<=k:=xD.mp hx;rw[yI hk];exact hq
def Xf (g:Int)(k c:Nat)(ts:LI)(R:List LI):Int×Int:=YQ (if k=c then (g,g) else (0,0)) (sumP g ts (R.map λr=>r.getD c (0,0)))
def YN (g:Int)(box:LI)(aC:LI)(R:List LI)(k:Nat)(es:List Int):Int×Int:=
 WQ (YQ (ZX (gt box k)) (sumP g (es.map λe=>(e,e)) aC)) (sumP g ((List.range box.length).map λc=>Xf g k c (es.map λe=>(e,e)) R) (box.map λp=>YQ p (ZX p)))
theorem SY (g:Int)(us vs:LI)(k:Nat){u v:Int×Int}(hu:us[k]?=some u)(hv:vs[k]?=some v):sumP g (us.take (k+1)) (vs.take (k+1))=WQ (sumP g (us.take k) (vs.take k)) (Z8 u v g):=by
 unfold sumP;have l1:=(zC.mp hu).1
 have l2:=(zC.mp hv).1;rw[YI hu,YI hv,List.zip_append (by rw[zG,zG];lia),wV];rfl
theorem MR (g:Int)(us vs:LI):sumP g (us.take (min us.length vs.length)) (vs.take (min us.length vs.length))=sumP g us vs:=by
 unfold sumP;congr 1;show List.zipWith Prod.mk _ _=List.zipWith Prod.mk _ _;rw[<- tK,yI (by rw[vO];exact zA _)]
def Bd (B:Nat)(vs:LI):Prop:=∀p∈vs,Sz B p.1/\Sz B p.2
theorem NR (hg:1<=g)(h1:Bd A us)(h2:Bd B vs):∀k:Nat,k<=us.length->k<=vs.length->Sz (A+B+k+1) (sumP g (us.take k) (vs.take k)).1/\Sz (A+B+k+1) (sumP g (us.take k) (vs.take k)).2
 | 0,_,_=>#[yP ⋯,yP ⋯]
 | k+1,l1,l2=>by
  have hu:=zD (show k<us.length by lia)
  have hv:=zD (show k<vs.length by lia);rw[SY g us vs k hu hv];have ih:=NR hg h1 h2 k () ()
  have a:=h1 _ (zE hu)
  have b:=h2 _ (zE hv)
  have m:=TL hg a.1 a.2 b.1 b.2;exact#[(ih.1.add m.1).mono (),(ih.2.add m.2).mono ()]
theorem KO (hg:1<=g)(h1:Bd A us)(h2:Bd B vs)(l:us.length<=60):Sz (A+B+61) (sumP g us vs).1/\Sz (A+B+61) (sumP g us vs).2:=by
 rw[<- MR];have z:=NR hg h1 h2 (min us.length vs.length) () ();exact#[z.1.mono (),z.2.mono ()]
theorem Ea {is:List Nat}{ta:TDA}{tb:TDS}{E:Xn}{dl:Ev}{S:Sto}{n n':Nat}{xs ys:List D}(W:Nat->Ev->Prop)(hta:∀K:List D->Sto->Prop,K [.ref n,.ref n'] S->ta dl S K)(h1:S[n]?=some (.lst xs))(h2:S[n']?=some (.lst ys))(h0:W 0 dl)
  (hb:∀(k:Nat)(x y:D)(dl':Ev)(nx ct:Ev->Sto->Prop),xs[k]?=some x->ys[k]?=some y->W k dl'->(∀dl2,W (k+1) dl2->nx dl2 S)->tb { nx:=nx,rt:=E.rt,bk:=E.nx,ct:=ct } (WN is [x,y] dl') S)(he:∀dl',W (min xs.length ys.length) dl'->E.nx dl' S):Tu is ta tb E dl S:=by
 unfold Tu;refine hta _ #[#[by rw[ZO h1 rfl];rfl,by rw[ZO h2 rfl];rfl],λk m dl' S'=>S'=S/\W k dl'/\k+m=min xs.length ys.length,#[min xs.length ys.length,rfl,h0,by simp],?_];rintro k m dl' S' ⟨rfl,w,hk⟩;simp only[ZO h1 rfl,ZO h2 rfl,Zk];split
 .rename_i x y e1 e2;have l1:=(zC.mp e1).1
  have l2:=(zC.mp e2).1;exact hb k x y dl' _ _ e1 e2 w (λdl2 w2=>#[m-1,(),rfl,w2,()])
 .rename_i no;have ek:k=min xs.length ys.length:=by
   by_cases l:k<min xs.length ys.length
   .exact absurd (zD ()) (no _ _ (zD ()))
   .lia
  exact#[ek,he _ (ek ▸ w)]
theorem M5 {B:Nat}{p:Int×Int}(h1:Sz B p.1)(h2:Sz B p.2):Sz (B+1) (mid p):=(h1.add h2).div ⋯ |>.mono ()
theorem Nq (hp:Sz B p.1/\Sz B p.2)(hq:Sz C q.1/\Sz C q.2):Sz (max B C+1) (YQ p q).1/\Sz (max B C+1) (YQ p q).2:=#[hp.1.sub hq.2,hp.2.sub hq.1]
def O2 (S:Sto)(ds:List D)(M:List (List Int)):Prop:=ds.length=M.length/\∀(k:Nat)(d:D)(r:List Int),ds[k]?=some d->M[k]?=some r->∃a,d=.ref a/\S[a]?=some (.lst (r.map D.int))
theorem AK {p:Int×Int}(h:p.1<=p.2):p.1<=mid p/\mid p<=p.2:=by unfold mid;lia
theorem SI {B:Nat}{bs:LI}(h:Spn B bs):Spn B (bs.map ZX):=λp hp=>by
 obtain⟨x,hx,rfl⟩:=zP.mp hp;obtain⟨a,b,c⟩:=h x hx;have z:=AK a
 have s:Sz B (mid x):=by
  unfold Sz at *
  lia
 exact#[zS _,s,s]
def hs:Nat->Int->Int->Int
 | 0,_,_=>0
 | k+1,x,y=>x*hs k x y+y^k
theorem UZ (x y:Int):∀n:Nat,(x-y)*hs n x y=x^n-y^n
 | 0=>by simp[hs]
 | k+1=>by
  have z:=UZ x y k
  have e:(x-y)*hs (k+1) x y=x*((x-y)*hs k x y)+(x-y)*y^k:=by
   show (x-y)*(x*hs k x y+y^k)=_;grind
  grind
theorem Rc (x:Int):∀n:Nat,hs (n+1) x x=((n+1:Nat):Int)*x^n
 | 0=>by simp[hs]
 | k+1=>by
  show x*hs (k+1) x x+x^(k+1)=_;rw[Rc x k,yD];have e:((k+1+1:Nat):Int)=((k+1:Nat):Int)+1:=by lia
  grind
theorem Px (x y g:Int):∀n:Nat,hs (n+1) (x*g) (y*g)=hs (n+1) x y*g^n
 | 0=>by simp[hs]
 | k+1=>by
  show x*g*hs (k+1) (x*g) (y*g)+(y*g)^(k+1)=(x*hs (k+1) x y+y^(k+1))*g^(k+1);rw[Px x y g k,yV,yD g];grind
theorem Kw (x y:Int)(n:Nat):hs n x y=hs n y x:=by
 by_cases e:x=y
 .rw[e]
 .have a:=UZ x y n
  have b:=UZ y x n
  have c:(x-y)*hs n x y=(x-y)*hs n y x:=by grind
  exact Int.eq_of_mul_eq_mul_left () c
theorem NY (x y:Int)(n:Nat):hs (n+1) (-x) (-y)=hs (n+1) x y*(-1)^n:=by
 have z:=Px x y (-1) n;rw[uM,uM] at z;exact z
theorem SJ {a b:Int}(h0:0<=a)(h:a<=b):∀n:Nat,a^n<=b^n
 | 0=>by simp
 | k+1=>by
  rw[yD,yD];exact xQ (SJ h0 h k) h h0 (yU ())
theorem TK (hx:0<=x)(hy:0<=y):∀n:Nat,0<=hs n x y
 | 0=>zS _
 | k+1=>Int.add_nonneg (yF hx (TK hx hy k)) (yU hy)
theorem Pb {x y u v:Int}(hx:0<=x)(hy:0<=y)(h1:x<=u)(h2:y<=v):∀n:Nat,hs n x y<=hs n u v
 | 0=>zS _
 | k+1=>Int.add_le_add (xQ h1 (Pb hx hy h1 h2 k) (TK hx hy k) ()) (SJ hy h2 k)
theorem VA (x:Int):(-x)^n=x^n*(-1)^n:=by
 rw[<- yV,uM]
theorem Vm (h:n%2=0):(-1:Int)^n=1:=by
 obtain⟨k,rfl⟩:∃k,n=2*k:=#[n/2,()];rw[Int.pow_mul];exact Int.one_pow
theorem Qp (h:n%2=1):(-1:Int)^n=-1:=by
 obtain⟨k,rfl⟩:∃k,n=2*k+1:=#[n/2,()];rw[yD,Vm ()];rfl
theorem KY (ha:0<=a)(hb:0<=b)(m:Nat):(m%2=0->0<=hs (m+1) (-a) b/\hs (m+1) (-a) b<=max (a^m) (b^m))/\(m%2=1->-(a^m)<=hs (m+1) (-a) b/\hs (m+1) (-a) b<=b^m):=by
 have pa:0<=a^m:=yU ha
 have pb:0<=b^m:=yU hb;by_cases z:a+b=0
 .have a0:a=0:=by lia
  have b0:b=0:=by lia
  subst a0 b0;have e:hs (m+1) (-0) 0=((m+1:Nat):Int)*0^m:=Rc 0 m;rw[e];cases m with
  | zero=>simp
  | succ m=>simp[yD]
 have pos:0<a+b:=by lia
 have k:=UZ (-a) b (m+1)
 have e1:(-a)^(m+1)=a^(m+1)*(-1)^(m+1):=VA a
 have pab:=yF pa hb
 have pba:=yF pb ha
 have paa:=yF pa ha
 have pbb:=yF pb hb;refine#[λev=>?_,λod=>?_]
 .rw[e1,Qp (show (m+1)%2=1 by lia)] at k;refine#[?_,?_]
  .have q:0*(a+b)<=hs (m+1) (-a) b*(a+b):=by grind
   exact yN q pos
  .have m1:=zQ (show a^m<=max (a^m) (b^m) by lia) ha
   have m2:=zQ (show b^m<=max (a^m) (b^m) by lia) hb;generalize max (a^m) (b^m)=M at m1 m2;have q:hs (m+1) (-a) b*(a+b)<=M*(a+b):=by grind
   exact yN q pos
 .rw[e1,Vm (show (m+1)%2=0 by lia)] at k;refine#[?_,?_]
  .have q:-(a^m)*(a+b)<=hs (m+1) (-a) b*(a+b):=by grind
   exact yN q pos
  .have q:hs (m+1) (-a) b*(a+b)<=b^m*(a+b):=by grind
   exact yN q pos
theorem TV (h0:0<=L)(x1:L<=x)(x2:x<=H)(y1:L<=y)(y2:y<=H)(m:Nat):((m+1:Nat):Int)*L^m<=hs (m+1) x y/\hs (m+1) x y<=((m+1:Nat):Int)*H^m:=by
 rw[<- Rc,<- Rc];exact#[Pb h0 h0 x1 y1 _,Pb () () x2 y2 _]
theorem Fd {L H x y:Int}(x1:L<=x)(x2:x<=H)(y1:L<=y)(y2:y<=H){m:Nat}(hm:1<=m):((m+1:Nat):Int)*ZP L H m<=hs (m+1) x y/\hs (m+1) x y<=((m+1:Nat):Int)*Z9 L H m:=by
 have n0:(0:Int)<=((m+1:Nat):Int):=by lia
 have up:∀ {u v:Int},u<=v->((m+1:Nat):Int)*u<=((m+1:Nat):Int)*v:=λh=>wL h n0
 have lo1:ZP L H m<=L^m:=by
  unfold ZP;split
  .rename_i c;exact WW c.1 L
  .lia
 have lo2:ZP L H m<=H^m:=by
  unfold ZP;split
  .rename_i c;exact WW c.1 H
  .lia
 have hi1:L^m<=Z9 L H m:=by unfold Z9;lia
 have hi2:H^m<=Z9 L H m:=by unfold Z9;lia
 have big:∀ {u:Int},0<=u->u<=((m+1:Nat):Int)*u:=λ{u} h=>by
  have:=yF (show (0:Int)<=(m:Int) by lia) h
  have e:((m+1:Nat):Int)*u=(m:Int)*u+u:=by
   have:((m+1:Nat):Int)=(m:Int)+1:=by lia
   rw[this];grind
  lia
 have pp:0<=x->0<=y->((m+1:Nat):Int)*ZP L H m<=hs (m+1) x y/\hs (m+1) x y<=((m+1:Nat):Int)*Z9 L H m:=λhx hy=>by
  have hiH:=(TV (zS _) hx x2 hy y2 m).2;refine#[?_,zU hiH (up hi2)];by_cases c:0<=L
  .exact zU (up lo1) (TV c x1 x2 y1 y2 m).1
  .have nn:=TK hx hy (m+1)
   have z:ZP L H m<=0:=by
    by_cases p:m%2=0
    .unfold ZP;rw[if_pos #[p,(),()]];exact zS _
    .have:=Sl (n:=m) () (show L<0 by lia);lia
   have:=up z;lia
 have mm:x<=0->y<=0->((m+1:Nat):Int)*ZP L H m<=hs (m+1) x y/\hs (m+1) x y<=((m+1:Nat):Int)*Z9 L H m:=λhx hy=>by
  have top:=(TV (H:=-L) (x:=-x) (y:=-y) (zS _) () () () () m).2
  have nn:=TK (x:=-x) (y:=-y) () () (m+1);rw[NY] at top nn;rw[VA L] at top;have low:H<=0->((m+1:Nat):Int)*(H^m*(-1)^m)<=hs (m+1) x y*(-1)^m:=λc=>by
   have z:=(TV (L:=-H) (H:=-L) (x:=-x) (y:=-y) () () () () () m).1;rw[NY,VA H] at z;exact z
  by_cases p:m%2=0
  .rw[Vm p,xH,xH] at top;rw[Vm p,xH] at nn;refine#[?_,zU top (up hi1)];by_cases c:H<=0
   .have z:=low c;rw[Vm p,xH,xH] at z;exact zU (up lo2) z
   .have z:ZP L H m=0:=by
     unfold ZP;rw[if_pos #[p,(),()]]
    lia
  .have p':m%2=1:=by lia
   rw[Qp p'] at top nn low;have top':((m+1:Nat):Int)*L^m<=hs (m+1) x y:=by grind
   refine#[zU (up lo1) top',?_];by_cases c:H<=0
   .have z:=low c
    have z':hs (m+1) x y<=((m+1:Nat):Int)*H^m:=by grind
    exact zU z' (up hi2)
   .have:0<=H^m:=yU ()
    have:=up (show (0:Int)<=Z9 L H m by lia);lia
 have mix:∀ {x y:Int},L<=x->y<=H->x<=0->0<=y->((m+1:Nat):Int)*ZP L H m<=hs (m+1) x y/\hs (m+1) x y<=((m+1:Nat):Int)*Z9 L H m:=λ{x y} x1 y2 hx hy=>by
  have z:=KY (a:=-x) () hy m
  have ax:=SJ (show (0:Int)<=-x by lia) (show -x<=-L by lia) m;rw[VA x,VA L] at ax;rw[VA x] at z;have by':=SJ hy y2 m
  have pH:0<=H^m:=yU ();by_cases p:m%2=0
  .obtain⟨z1,z2⟩:=z.1 p;rw[Vm p,xH] at z2;rw[Vm p,xH,xH] at ax;have zl:ZP L H m=0:=by
    unfold ZP;rw[if_pos #[p,(),()]]
   rw[zl];refine#[(),?_];have:=big (u:=Z9 L H m) ();lia
  .have p':m%2=1:=by lia
   obtain⟨z1,z2⟩:=z.2 p';rw[Qp p'] at z1 ax;refine#[?_,?_]
   .have l0:L^m<=0:=by
     rcases Int.lt_or_eq_of_le (show L<=0 by lia) with c|c
     .have:=Sl p' c;lia
     .rw[c,Ra hm];exact zS _
    have b:=big (u:=-(L^m)) ()
    have:=up lo1;lia
   .have:=big (u:=Z9 L H m) ();lia
 rcases wW 0 x with hx|hx
 .rcases wW 0 y with hy|hy
  .exact pp hx hy
  .rw[Kw];exact mix y1 x2 hy hx
 .rcases wW 0 y with hy|hy
  .exact mix x1 y2 hx hy
  .exact mm hx hy
theorem Of (hp:1<=p):ZP (a*p) (b*p) n=ZP a b n*p^n/\Z9 (a*p) (b*p) n=Z9 a b n*p^n:=by
 have pp:0<=p^n:=yU ()
 have sgn:∀x:Int,(x*p<=0↔x<=0)/\(0<=x*p↔0<=x):=λx=>by
  refine#[#[λh=>?_,λh=>?_],#[λh=>?_,λh=>yF h ()]]
  .exact yN (show x*p<=0*p by lia) ()
  .have:=zQ h (show 0<=p by lia);lia
  .exact yN (show 0*p<=x*p by lia) ()
 unfold ZP Z9;rw[yV,yV,(WR pp).1,(WR pp).2];refine#[?_,rfl];by_cases c:n%2=0/\a<=0/\0<=b
 .rw[if_pos c,if_pos #[c.1,(sgn a).1.mpr c.2.1,(sgn b).2.mpr c.2.2],wO]
 .rw[if_neg c,if_neg (λz=>c #[z.1,(sgn a).1.mp z.2.1,(sgn b).2.mp z.2.2])]
theorem Fz (hg:1<=g)(hN:1<=N)(n2:2<=n)(h1:v.1*N<=x*g)(h2:x*g<=v.2*N)(h3:v.1*N<=y*g)(h4:y*g<=v.2*N):(YD v n g).1*N^(n.toNat-1)<=hs n.toNat x y*g/\hs n.toNat x y*g<=(YD v n g).2*N^(n.toNat-1):=by
 obtain⟨m,hm⟩:∃m,n.toNat=m+2:=#[n.toNat-2,()];have en:(n-1).toNat=m+1:=by lia
 have nn:n=((m+1+1:Nat):Int):=by lia
 have z:=Fd h1 h2 h3 h4 (m:=m+1) ();rw[(Of hN).1,(Of hN).2,Px] at z;have gp:(0:Int)<g^m:=yG ()
 have np:(0:Int)<=N^(m+1):=yU ()
 have l:=(Vf (ZP v.1 v.2 (m+1)) gp).1
 have u:=(UX (Z9 v.1 v.2 (m+1)) gp).1;unfold YD;rw[hm,en,show m+2-1=m+1 by lia,show m+1-1=m by lia];have eg:g^(m+1)=g^m*g:=yD g m;rw[eg] at z;rw[<- nn] at z;have f:(0:Int)<=n*N^(m+1):=yF () np
 have l2:=zQ l f
 have u2:=zQ u f;dsimp only;generalize ZP v.1 v.2 (m+1)/g^m=A at l2;generalize -(-Z9 v.1 v.2 (m+1)/g^m)=B at u2;generalize ZP v.1 v.2 (m+1)=C at l2 z;generalize Z9 v.1 v.2 (m+1)=D at u2 z;generalize g^m=G at *
 generalize N^(m+1)=M at *
 have z1:=z.1
 have z2:=z.2
 show _<=hs (m+1+1) x y*g/\hs (m+1+1) x y*g<=_;generalize hs (m+1+1) x y=P at z1 z2;clear z h1 h2 h3 h4 l u eg;refine#[yN ?_ gp,yN ?_ gp]<;>grind
theorem HC {sl:List LI}{r:LI}{i:Int}{l:Nat}(h:inR sl.length i):gs (sl++[r]) i l=gs sl i l:=by
 have:=h.1
 have:=h.2;unfold gs;rw[zW (l:=sl++[r]),zW (l:=sl),zJ ()]
theorem EN {sl:List LI}{r:LI}{k l:Nat}(h:sl.length=k):gs (sl++[r]) (k:Int) l=r.getD l (0,0):=by
 unfold gs;rw[zK,zW (l:=sl++[r]),<- h,yO (zA _),xT];rfl
theorem Kv {vs:LI}{sl:List LI}{g:Int}{q l:Nat}{v:Nd}(h:l<q):(YU vs sl g q v).getD l (0,0)=v.sl vs sl g l:=by
 unfold YU;rw[zW,zF,show (List.range q)[l]?=some l from xZ h];rfl
def In (p:Int×Int)(x:Rat):Prop:=(p.1:Rat)<=x/\x<=(p.2:Rat)
theorem Tx {a b g:Rat}(hg:0<g)(h:g*a<=g*b):a<=b:=by
 by_cases c:a<=b
 .exact c
 .have d:b<a:=Rat.not_le.mp c
  have z:=Rat.mul_pos hg (show 0<a-b by grind);grind
theorem X4 {a b:Int}(h:a<=b):(a:Rat)<=(b:Rat):=Rat.intCast_le_intCast.mpr h
theorem In.add {p q:Int×Int}{x y:Rat}(h1:In p x)(h2:In q y):In (WQ p q) (x+y):=by
 obtain⟨a,b⟩:=h1;obtain⟨c,d⟩:=h2;refine#[?_,?_]
 .show ((p.1+q.1:Int):Rat)<=_;rw[Rat.intCast_add];grind
 .show _<=((p.2+q.2:Int):Rat);rw[Rat.intCast_add];grind
theorem In.take {p q:Int×Int}{x y:Rat}(h1:In p x)(h2:In q y):In (YQ p q) (x-y):=by
 obtain⟨a,b⟩:=h1;obtain⟨c,d⟩:=h2;refine#[?_,?_]
 .show ((p.1-q.2:Int):Rat)<=_;rw[Rat.intCast_sub];grind
 .show _<=((p.2-q.1:Int):Rat);rw[Rat.intCast_sub];grind
theorem Ij {A B C D x y:Rat}(h1:A<=x)(h2:x<=B)(h3:C<=y)(h4:y<=D):(A*C<=x*y\/A*D<=x*y\/B*C<=x*y\/B*D<=x*y)/\(x*y<=A*C\/x*y<=A*D\/x*y<=B*C\/x*y<=B*D):=by
 have m:∀ {u v:Rat},0<=u->0<=v->0<=u*v:=λa b=>Rat.mul_nonneg a b
 rcases Rat.le_total (a:=0) (b:=y) with hy|hy
 .have a1:=m (show 0<=x-A by grind) hy
  have a2:=m (show 0<=B-x by grind) hy;refine#[?_,?_]
  .rcases Rat.le_total (a:=0) (b:=A) with hA|hA
   .have:=m hA (show 0<=y-C by grind);exact .inl (by grind)
   .have:=m (show 0<=-A by grind) (show 0<=D-y by grind);exact .inr (.inl (by grind))
  .rcases Rat.le_total (a:=0) (b:=B) with hB|hB
   .have:=m hB (show 0<=D-y by grind);exact .inr (.inr (.inr (by grind)))
   .have:=m (show 0<=-B by grind) (show 0<=y-C by grind);exact .inr (.inr (.inl (by grind)))
 .have a1:=m (show 0<=x-A by grind) (show 0<=-y by grind)
  have a2:=m (show 0<=B-x by grind) (show 0<=-y by grind);refine#[?_,?_]
  .rcases Rat.le_total (a:=0) (b:=B) with hB|hB
   .have:=m hB (show 0<=y-C by grind);exact .inr (.inr (.inl (by grind)))
   .have:=m (show 0<=-B by grind) (show 0<=D-y by grind);exact .inr (.inr (.inr (by grind)))
  .rcases Rat.le_total (a:=0) (b:=A) with hA|hA
   .have:=m hA (show 0<=D-y by grind);exact .inr (.inl (by grind))
   .have:=m (show 0<=-A by grind) (show 0<=y-C by grind);exact .inl (by grind)
theorem In.mul {p q:Int×Int}{x y:Rat}{g:Int}(hg:1<=g)(h1:In p x)(h2:In q y):In (Z8 p q g) (x*y/(g:Rat)):=by
 have gp:(0:Rat)<(g:Rat):=Rat.intCast_pos.mpr ()
 have ge:(g:Rat)*(x*y/(g:Rat))=x*y:=by grind
 have c:=Ij h1.1 h1.2 h2.1 h2.2
 have lo:((mn4 p.1 p.2 q.1 q.2:Int):Rat)<=x*y:=by
  have t:∀u:Int,mn4 p.1 p.2 q.1 q.2<=u->((mn4 p.1 p.2 q.1 q.2:Int):Rat)<=(u:Rat):=λu h=>X4 h
  have e1:=t (p.1*q.1) (by unfold mn4;lia)
  have e2:=t (p.1*q.2) (by unfold mn4;lia)
  have e3:=t (p.2*q.1) (by unfold mn4;lia)
  have e4:=t (p.2*q.2) (by unfold mn4;lia);rw[Rat.intCast_mul] at e1 e2 e3 e4;rcases c.1 with z|z|z|z<;>grind
 have hi:x*y<=((mx4 p.1 p.2 q.1 q.2:Int):Rat):=by
  have t:∀u:Int,u<=mx4 p.1 p.2 q.1 q.2->(u:Rat)<=((mx4 p.1 p.2 q.1 q.2:Int):Rat):=λu h=>X4 h
  have e1:=t (p.1*q.1) (by unfold mx4;lia)
  have e2:=t (p.1*q.2) (by unfold mx4;lia)
  have e3:=t (p.2*q.1) (by unfold mx4;lia)
  have e4:=t (p.2*q.2) (by unfold mx4;lia);rw[Rat.intCast_mul] at e1 e2 e3 e4;rcases c.2 with z|z|z|z<;>grind
 refine#[Tx gp ?_,Tx gp ?_]
 .have z:=X4 (Vf (mn4 p.1 p.2 q.1 q.2) (show 0<g by lia)).1;rw[Rat.intCast_mul] at z;rw[ge];show (g:Rat)*((mn4 p.1 p.2 q.1 q.2/g:Int):Rat)<=_;grind
 .have z:=X4 (UX (mx4 p.1 p.2 q.1 q.2) (show 0<g by lia)).1;rw[Rat.intCast_mul] at z;rw[ge];show _<=(g:Rat)*((-(-mx4 p.1 p.2 q.1 q.2/g):Int):Rat);grind
def Zs:Nat->(Nat->Rat)->Rat
 | 0,_=>0
 | k+1,f=>Zs k f+f k
theorem In.sum {g:Int}(hg:1<=g){us vs:LI}{a b:Nat->Rat}(h1:∀(j:Nat)(p:Int×Int),us[j]?=some p->In p (a j))(h2:∀(j:Nat)(p:Int×Int),vs[j]?=some p->In p (b j)):∀k:Nat,k<=us.length->k<=vs.length->In (sumP g (us.take k) (vs.take k)) (Zs k λj=>a j*b j/(g:Rat))
 | 0,_,_=>#[Rat.le_refl,Rat.le_refl]
 | k+1,l1,l2=>by
  have hu:=zD (show k<us.length by lia)
  have hv:=zD (show k<vs.length by lia);rw[SY g us vs k hu hv];exact(In.sum hg h1 h2 k () ()).add ((h1 k _ hu).mul hg (h2 k _ hv))
theorem In.sumP {g:Int}(hg:1<=g){us vs:LI}{a b:Nat->Rat}{n:Nat}(l1:us.length=n)(l2:vs.length=n)(h1:∀(j:Nat)(p:Int×Int),us[j]?=some p->In p (a j))(h2:∀(j:Nat)(p:Int×Int),vs[j]?=some p->In p (b j)):In (sumP g us vs) (Zs n λj=>a j*b j/(g:Rat)):=by
 have z:=In.sum hg h1 h2 n () ();rw[yI (),yI ()] at z;exact z
theorem Xg {f h:Nat->Rat}:∀n,(∀k,k<n->f k=h k)->Zs n f=Zs n h
 | 0,_=>rfl
 | n+1,e=>by
  show Zs n f+f n=Zs n h+h n;rw[Xg n λk hk=>e k (),e n ()]
theorem PB (a b:Rat)(f h:Nat->Rat):∀n,Zs n (λk=>a*f k+b*h k)=a*Zs n f+b*Zs n h
 | 0=>by show (0:Rat)=a*0+b*0;grind
 | n+1=>by
  show Zs n _+_=a*(Zs n f+f n)+b*(Zs n h+h n);rw[PB a b f h n];grind
theorem Wr (a:Rat)(f:Nat->Rat):∀n,Zs n (λk=>a*f k)=a*Zs n f
 | 0=>by show (0:Rat)=a*0;grind
 | n+1=>by
  show Zs n _+_=a*(Zs n f+f n);rw[Wr a f n];grind
theorem S6 (f h:Nat->Rat):∀n,Zs n (λk=>f k+h k)=Zs n f+Zs n h
 | 0=>by show (0:Rat)=0+0;grind
 | n+1=>by
  show Zs n _+_=(Zs n f+f n)+(Zs n h+h n);rw[S6 f h n];grind
theorem MF (f:Nat->Nat->Rat)(m:Nat):∀n,Zs n (λk=>Zs m λj=>f k j)=Zs m λj=>Zs n λk=>f k j
 | 0=>by
  show (0:Rat)=Zs m λ_=>0
  have z:∀m,Zs m (λ_=>(0:Rat))=0:=λm=>by
   induction m with
   | zero=>rfl
   | succ m ih=>show Zs m _+0=0;rw[ih];grind
  rw[z]
 | n+1=>by
  show Zs n _+Zs m (λj=>f n j)=Zs m λj=>Zs n (λk=>f k j)+f n j
  rw[MF f m n,<- S6]
theorem RV (k:Nat)(w:Nat->Rat):∀n,Zs n (λl=>(if k=l then 1 else 0)*w l)=if k<n then w k else 0
 | 0=>rfl
 | n+1=>by
  show Zs n _+_=_;rw[RV k w n];by_cases c:k=n
  .subst c;simp;grind
  .by_cases d:k<n
   .rw[if_pos d,if_pos ()];grind
   .rw[if_neg d,if_neg ()];grind
theorem EL {g m:Rat}(hg:g≠0){q e:Nat}{k:Nat}(hk:k<q)(T y w:Nat->Rat)(s:Nat->Nat->Rat)(bA:∀j,j<e->y j*g=-(Zs q λl=>s j l*w l)):
  m-(Zs e λj=>T j*y j/g)+(Zs q λl=>((if k=l then g else 0)-Zs e λj=>T j*s j l/g)*w l/g)=m+w k:=by
 have h1:(Zs e λj=>T j*y j/g)=Zs e λj=>-(Zs q λl=>T j*s j l*w l/(g*g)):=by
  refine Xg e λj hj=>?_
  have r:=bA j hj
  have c:(Zs q λl=>T j*s j l*w l/(g*g))=T j/(g*g)*Zs q λl=>s j l*w l:=by
   rw[<- Wr];exact Xg q λl _=>by grind
  generalize Zs q (λl=>s j l*w l)=A at r;have e1:y j=-A/g:=by grind
  grind
 have h2:(Zs q λl=>((if k=l then g else 0)-Zs e λj=>T j*s j l/g)*w l/g)=w k+Zs q λl=>-(Zs e λj=>T j*s j l*w l/(g*g)):=by
  have d:=RV k w q;rw[if_pos hk] at d;rw[<- d,<- S6];refine Xg q λl _=>?_
  have c:(Zs e λj=>T j*s j l*w l/(g*g))=w l/(g*g)*g*Zs e λj=>T j*s j l/g:=by
   rw[<- Wr];exact Xg e λj _=>by grind
  by_cases x:k=l
  .rw[if_pos x,if_pos x];grind
  .rw[if_neg x,if_neg x];grind
 have n1:∀(n:Nat)(f:Nat->Rat),(Zs n λj=>-(f j))=-(Zs n f):=λn f=>by
  have z:=Wr (-1) f n
  have z2:(Zs n λj=>-(f j))=Zs n λj=>-1*f j:=Xg n λj _=>by grind
  grind
 rw[h1,h2,n1,n1,MF (λj l=>T j*s j l*w l/(g*g)) q e];grind
theorem LD {a b:Int}{x:Int}(hb:1<=b)(h:x*b<=a):(x:Rat)<=(a:Rat)/(b:Rat):=by
 have bp:(0:Rat)<(b:Rat):=Rat.intCast_pos.mpr ();refine Tx bp ?_;have z:=X4 h;rw[Rat.intCast_mul] at z;have e:(b:Rat)*((a:Rat)/(b:Rat))=(a:Rat):=by grind
 rw[e,Rat.mul_comm];exact z
theorem Lw {a b:Int}{x:Int}(hb:1<=b)(h:a<=x*b):(a:Rat)/(b:Rat)<=(x:Rat):=by
 have bp:(0:Rat)<(b:Rat):=Rat.intCast_pos.mpr ();refine Tx bp ?_;have z:=X4 h;rw[Rat.intCast_mul] at z;have e:(b:Rat)*((a:Rat)/(b:Rat))=(a:Rat):=by grind
 rw[e,Rat.mul_comm];exact z
theorem Ey {ns:List Nd}{ws:List Nat}{bs:LI}{g:Int}{is:List Nat}(net:ZF bs.length ns ws)(sb:Spn 51 bs)(hg:1<=g/\g<=1000000)(hi:∀i∈is,i<ns.length):Bd 2000 (is.map λ(i:Nat)=>gt (Zp (bs.map ZX) g ns) i):=λp hp=>by
 obtain⟨i,him,rfl⟩:=zP.mp hp;have net2:ZF ((bs.map ZX).length:Nat) ns ws:=by rw[zB];exact net
 have sp:=Rb net2 rfl (SI sb) hg ns.length (zA _);rw[yH] at sp;have z:=sp.at (i:=(i:Int)) #[(),by rw[YZ];have:=hi i him;lia];exact#[z.2.1.mono ⋯,z.2.2.mono ⋯]
theorem Oz {ns:List Nd}{ws:List Nat}{bs:LI}{g:Int}{is:List Nat}(net:ZF bs.length ns ws)(sb:Spn 51 bs)(hg:1<=g/\g<=1000000)(hi:∀i∈is,i<ns.length):∀r∈(is.map λ(i:Nat)=>(Z3 (Zp bs g ns) g bs.length ns).getD i []),r.length=bs.length/\Bd 1023 r:=λr hr=>by
 have szw:=Ml net rfl sb hg
 have slw:SlW bs.length ws (Z3 (Zp bs g ns) g bs.length ns):=by
  have z:=Ly net szw (YZ _ _ _) hg ns.length (zA _)
  rwa [yH] at z
 obtain⟨i,him,rfl⟩:=zP.mp hr;have hin:=hi i him
 have hl:i<(Z3 (Zp bs g ns) g bs.length ns).length:=by rw[Vu];exact hin
 have e:(Z3 (Zp bs g ns) g bs.length ns).getD i []=(Z3 (Zp bs g ns) g bs.length ns)[i]:=by simp[hl]
 obtain⟨z1,z2⟩:=slw i _ (zD hl);rw[e];have w:=(net.w1 (i:=(i:Int)) #[(),()]).2;rw[zK] at w;exact#[z1,λp hp=>#[(z2 p hp).2.1.mono (),(z2 p hp).2.2.mono ()]]
theorem Gx {ns:List Nd}{ws:List Nat}{bs:LI}{g:Int}{is:List Nat}(net:ZF bs.length ns ws)(sb:Spn 51 bs)(hg:1<=g/\g<=1000000)(hi:∀i∈is,i<ns.length):∀r∈(is.map λ(i:Nat)=>(Z3 (Zp bs g ns) g bs.length ns).getD i []),r.length=bs.length/\Bd 2000 r:=λr hr=>by
 obtain⟨z1,z2⟩:=Oz net sb hg hi r hr;exact#[z1,λp hp=>#[(z2 p hp).1.mono ⋯,(z2 p hp).2.mono ⋯]]
def rab (x:Rat):Rat:=if 0<=x then x else -x
theorem SD (x:Rat):0<=rab x:=by unfold rab;split<;>grind
theorem U7 (x:Rat):x<=rab x/\-x<=rab x:=by unfold rab;split<;>grind
theorem Lu (h1:x<=y)(h2:-x<=y):rab x<=y:=by unfold rab;split<;>grind
theorem JB (x y:Rat):rab (x*y)<=rab x*rab y:=by
 have a:=U7 x
 have b:=U7 y
 have m1:=Rat.mul_nonneg (show 0<=rab x-x by grind) (show 0<=rab y-y by grind)
 have m2:=Rat.mul_nonneg (show 0<=rab x+x by grind) (show 0<=rab y+y by grind)
 have m3:=Rat.mul_nonneg (show 0<=rab x-x by grind) (show 0<=rab y+y by grind)
 have m4:=Rat.mul_nonneg (show 0<=rab x+x by grind) (show 0<=rab y-y by grind);exact Lu (by grind) (by grind)
theorem Tv {f h:Nat->Rat}:∀n,(∀k,k<n->f k<=h k)->Zs n f<=Zs n h
 | 0,_=>Rat.le_refl
 | n+1,e=>by
  show Zs n f+f n<=Zs n h+h n
  have a:=Tv n λk hk=>e k ()
  grind
theorem MB (f:Nat->Rat):∀n,rab (Zs n f)<=Zs n λk=>rab (f k)
 | 0=>by show rab 0<=0;unfold rab;grind
 | n+1=>by
  show rab (Zs n f+f n)<=Zs n (λk=>rab (f k))+rab (f n)
  have a:=MB f n
  have b:=U7 (Zs n f)
  have c:=U7 (f n);exact Lu (by grind) (by grind)
theorem rmax (r w:Nat->Rat):∀q,(∀k,k<q->0<r k)->0<q->∃k,k<q/\∃c,0<=c/\rab (w k)=c*r k/\∀l,l<q->rab (w l)<=c*r l
 | 0,_,h=>by lia
 | q+1,hr,_=>by
  have own:rab (w q)=rab (w q)/r q*r q:=by have:=hr q ();grind
  have nn:0<=rab (w q)/r q:=by
   have:=hr q ()
   have e:rab (w q)/r q=rab (w q)*(r q)⁻¹:=by grind
   exact Rat.mul_nonneg (SD _) (Rat.le_of_lt (Rat.inv_pos.mpr this))
  by_cases c0:q=0
  .subst c0;exact#[0,(),_,nn,own,λl hl=>by
    obtain rfl:l=0:=by lia
    rw[<- own];exact Rat.le_refl]
  .obtain⟨k,hk,c,hc,e,all⟩:=rmax r w q (λk hk=>hr k ()) ();by_cases d:rab (w q)<=c*r q
   .exact#[k,(),c,hc,e,λl hl=>by
     by_cases x:l=q
     .rw[x];exact d
     .exact all l ()]
   .have rq:=hr q ()
    have cl:c<=rab (w q)/r q:=by
     by_cases z:c<=rab (w q)/r q
     .exact z
     .have m:=Rat.mul_nonneg (show 0<=c-rab (w q)/r q by grind) (show 0<=r q by grind);generalize rab (w q)/r q=u at *
      grind
    refine#[q,(),_,nn,own,λl hl=>?_];by_cases x:l=q
    .rw[x,<- own];exact Rat.le_refl
    .have a:=all l ()
     have m:=Rat.mul_nonneg (show 0<=rab (w q)/r q-c by grind) (show 0<=r l by have:=hr l ();grind);generalize rab (w q)/r q=u at *
     grind
theorem Kd {q:Nat}{g:Rat}(hg:0<g)(r w:Nat->Rat)(A:Nat->Nat->Rat)(hr:∀k,k<q->0<r k)(hA:∀k,k<q->Zs q (λl=>rab (A k l)*r l/g)<r k)(hw:∀k,k<q->g*w k=Zs q λl=>A k l*w l):∀k,k<q->w k=0:=by
 intro k0 hk0;obtain⟨k,hk,c,hc,e,all⟩:=rmax r w q hr ();have main:c=0:=by
  by_cases cz:c=0
  .exact cz
  .have cp:0<c:=by grind
   have h1:=hw k hk
   have h2:=MB (λl=>A k l*w l) q;rw[<- h1] at h2;have h3:Zs q (λl=>rab (A k l*w l))<=Zs q λl=>c*g*(rab (A k l)*r l/g):=Tv q λl hl=>by
    have a:=JB (A k l) (w l)
    have b:=Rat.mul_nonneg (SD (A k l)) (show 0<=c*r l-rab (w l) by have:=all l hl;grind)
    have d:c*g*(rab (A k l)*r l/g)=rab (A k l)*(c*r l):=by grind
    rw[d];grind
   rw[Wr] at h3;have h4:=Rat.mul_pos (Rat.mul_pos cp hg) (show 0<r k-Zs q (λl=>rab (A k l)*r l/g) by have:=hA k hk;grind)
   have h5:rab (g*w k)=g*rab (w k):=by
    have:=Rat.mul_nonneg (Rat.le_of_lt hg) (SD (w k));unfold rab at *
    split<;>split<;>grind
   rw[h5,e] at h2;generalize Zs q (λl=>rab (A k l)*r l/g)=u at *
   grind
 have a:=all k0 hk0
 have b:=U7 (w k0);rw[main] at a;grind
theorem radd {a b c d:Rat}(h1:a<=c)(h2:b<=d):a+b<=c+d:=by grind
theorem rlt {a b c:Rat}(h1:a<=b)(h2:b<c):a<c:=by grind
theorem rback {g x:Rat}(hg:0<g):x=g*(x/g):=by grind
theorem HY {p q:Int×Int}{x:Rat}{g:Int}(hg:1<=g)(h1:In p x)(hq:q.1<=q.2):rab x*((q.2:Rat)-(q.1:Rat))/(g:Rat)<=((Z8 p q g).2:Rat)-((Z8 p q g).1:Rat):=by
 have gp:(0:Rat)<(g:Rat):=Rat.intCast_pos.mpr ()
 have a:=In.mul hg h1 (show In q (q.1:Rat) from #[Rat.le_refl,X4 hq])
 have b:=In.mul hg h1 (show In q (q.2:Rat) from #[X4 hq,Rat.le_refl])
 have e:x*(q.2:Rat)/(g:Rat)-x*(q.1:Rat)/(g:Rat)=x*((q.2:Rat)-(q.1:Rat))/(g:Rat):=by grind
 obtain⟨a1,a2⟩:=a;obtain⟨b1,b2⟩:=b;unfold rab;split
 .grind
 .have e2:-x*((q.2:Rat)-(q.1:Rat))/(g:Rat)=-(x*((q.2:Rat)-(q.1:Rat))/(g:Rat)):=by grind
  rw[e2];grind
theorem MP (p q:Int×Int):((WQ p q).2:Rat)-((WQ p q).1:Rat)=((p.2:Rat)-(p.1:Rat))+((q.2:Rat)-(q.1:Rat)):=by
 show ((p.2+q.2:Int):Rat)-((p.1+q.1:Int):Rat)=_;rw[Rat.intCast_add,Rat.intCast_add];grind
theorem ON (p q:Int×Int):((YQ p q).2:Rat)-((YQ p q).1:Rat)=((p.2:Rat)-(p.1:Rat))+((q.2:Rat)-(q.1:Rat)):=by
 show ((p.2-q.1:Int):Rat)-((p.1-q.2:Int):Rat)=_;rw[Rat.intCast_sub,Rat.intCast_sub];grind
theorem Qm {g:Int}(hg:1<=g){us vs:LI}{a:Nat->Rat}(h1:∀(j:Nat)(p:Int×Int),us[j]?=some p->In p (a j))(h2:∀p∈vs,p.1<=p.2):∀k:Nat,k<=us.length->k<=vs.length->Zs k (λj=>rab (a j)*(((gt vs (j:Int)).2:Rat)-((gt vs (j:Int)).1:Rat))/(g:Rat))<=((sumP g (us.take k) (vs.take k)).2:Rat)-((sumP g (us.take k) (vs.take k)).1:Rat)
 | 0,_,_=>by
  show (0:Rat)<=((0:Int):Rat)-((0:Int):Rat);grind
 | k+1,l1,l2=>by
  have hu:=zD (show k<us.length by lia)
  have hv:=zD (show k<vs.length by lia);rw[SY g us vs k hu hv,MP];have ih:=Qm hg h1 h2 k () ()
  have m:=HY hg (h1 k _ hu) (h2 _ (zE hv))
  have e:gt vs (k:Int)=vs[k]:=Xx hv
  show Zs k _+rab (a k)*(((gt vs (k:Int)).2:Rat)-((gt vs (k:Int)).1:Rat))/(g:Rat)<=_;rw[e];exact radd ih m
theorem T7:∀n,Zs n (λ_=>(0:Rat))=0
 | 0=>rfl
 | n+1=>by
  show Zs n _+0=0;rw[T7 n];grind
theorem Af {q e:Nat}{g:Int}(hg:1<=g){bs aC:LI}{R:List LI}{M:List (List Int)}(lb:bs.length=q)(lt:aC.length=e)(lR:R.length=e)(lM:M.length=q)(lE:∀es∈M,es.length=e)(ob:∀p∈bs,p.1<=p.2)(ot:∀p∈aC,p.1<=p.2)
  (dp:∀(k:Nat)(es:List Int),M[k]?=some es->(gt bs (k:Int)).1<(YN g bs aC R k es).1/\(YN g bs aC R k es).2<(gt bs (k:Int)).2)(s:Nat->Nat->Rat)(sIn:∀c:Nat,c<q->∀(j:Nat)(p:Int×Int),(R.map λr=>r.getD c (0,0))[j]?=some p->In p (s j c))(w:Nat->Rat)(zero:∀j,j<e->Zs q (λl=>s j l*w l)=0):∀k,k<q->w k=0:=by
 have gp:(0:Rat)<(g:Rat):=Rat.intCast_pos.mpr ()
 have rn:∀l,l<q->(0:Rat)<=((gt bs (l:Int)).2:Rat)-((gt bs (l:Int)).1:Rat):=λl hl=>by
  have hb:=zD (show l<bs.length by lia)
  have z:=X4 (ob _ (zE hb));grind
 have gi:(0:Rat)<=(g:Rat)⁻¹:=Rat.le_of_lt (Rat.inv_pos.mpr gp)
 have nn:∀ {x y:Rat},0<=y->0<=rab x*y/(g:Rat):=λ{x y} hy=>by
  have z:=Rat.mul_nonneg (Rat.mul_nonneg (SD x) hy) gi
  have e:rab x*y/(g:Rat)=rab x*y*(g:Rat)⁻¹:=by grind
  exact z
 have fact:∀(k:Nat)(es:List Int),M[k]?=some es->Zs q (λl=>rab ((if k=l then (g:Rat) else 0)-Zs e λj=>((es.getD j 0:Int):Rat)*s j l/(g:Rat))*(((gt bs (l:Int)).2:Rat)-((gt bs (l:Int)).1:Rat))/(g:Rat))<=((YN g bs aC R k es).2:Rat)-((YN g bs aC R k es).1:Rat):=λk es hm=>by
  have le:=lE _ (zE hm)
  have tIn:∀(j:Nat)(p:Int×Int),(es.map λe=>(e,e))[j]?=some p->In p ((es.getD j 0:Int):Rat):=λj p hj=>by
   rw[zF] at hj;obtain⟨x,hx,rfl⟩:=zH.mp hj;have e:es.getD j 0=x:=by rw[zW,hx];rfl
   rw[e];exact#[Rat.le_refl,Rat.le_refl]
  have lIn:∀(c:Nat)(p:Int×Int),((List.range bs.length).map λc=>Xf g k c (es.map λe=>(e,e)) R)[c]?=some p->In p ((if k=c then (g:Rat) else 0)-Zs e λj=>((es.getD j 0:Int):Rat)*s j c/(g:Rat)):=λc p hc=>by
   have hl:=(zC.mp hc).1;rw[zB,vQ] at hl;rw[zF,show (List.range bs.length)[c]?=some c from xZ hl] at hc;cases hc;refine In.take ?_ (In.sumP hg (by rw[zB,le]) (by rw[zB,lR]) tIn (sIn c ()));by_cases x:k=c
   .rw[if_pos x,if_pos x];exact#[Rat.le_refl,Rat.le_refl]
   .rw[if_neg x,if_neg x];exact#[Rat.le_refl,Rat.le_refl]
  have ow:∀p∈bs.map (λp=>YQ p (ZX p)),p.1<=p.2:=λp hp=>by
   obtain⟨x,hx,rfl⟩:=zP.mp hp;have z:=ob x hx
   show x.1-mid x<=x.2-mid x;lia
  have w1:=Qm hg tIn ot e (by rw[zB,le];exact zA _) (by rw[lt];exact zA _);rw[yI (by rw[zB,le];exact zA _),yI (by rw[lt];exact zA _)] at w1;have w2:=Qm hg lIn ow q (by rw[zB,vQ,lb];exact zA _) (by rw[zB,lb];exact zA _);rw[yI (by rw[zB,vQ,lb];exact zA _),yI (by rw[zB,lb];exact zA _)] at w2;have n1:(0:Rat)<=Zs e (λj=>rab ((es.getD j 0:Int):Rat)*(((gt aC (j:Int)).2:Rat)-((gt aC (j:Int)).1:Rat))/(g:Rat)):=by
   have z:=Tv (h:=λj=>rab ((es.getD j 0:Int):Rat)*(((gt aC (j:Int)).2:Rat)-((gt aC (j:Int)).1:Rat))/(g:Rat)) e (λj hj=>by
    have hb:=zD (show j<aC.length by lia)
    have z:=X4 (ot _ (zE hb));refine nn ?_;rw[Xx hb];grind)
   rw[T7] at z;exact z
  have ew:Zs q (λl=>rab ((if k=l then (g:Rat) else 0)-Zs e λj=>((es.getD j 0:Int):Rat)*s j l/(g:Rat))*(((gt bs (l:Int)).2:Rat)-((gt bs (l:Int)).1:Rat))/(g:Rat))=Zs q (λl=>rab ((if k=l then (g:Rat) else 0)-Zs e λj=>((es.getD j 0:Int):Rat)*s j l/(g:Rat))*(((gt (bs.map λp=>YQ p (ZX p)) (l:Int)).2:Rat)-((gt (bs.map λp=>YQ p (ZX p)) (l:Int)).1:Rat))/(g:Rat)):=Xg q λl hl=>by
   have hb:=zD (show l<bs.length by lia)
   have e1:gt (bs.map λp=>YQ p (ZX p)) (l:Int)=YQ bs[l] (ZX bs[l]):=Xx (by rw[zF,hb];rfl);rw[e1,ON,Xx hb];have e2:(((ZX bs[l]).2:Int):Rat)-(((ZX bs[l]).1:Int):Rat)=0:=by
    show ((mid bs[l]:Int):Rat)-((mid bs[l]:Int):Rat)=0;grind
   grind
  rw[ew];unfold YN;rw[MP,ON];have e3:(((ZX (gt bs (k:Int))).2:Int):Rat)-(((ZX (gt bs (k:Int))).1:Int):Rat)=0:=by
   show ((mid (gt bs (k:Int)):Int):Rat)-((mid (gt bs (k:Int)):Int):Rat)=0;grind
  have n2:=Rat.le_trans n1 w1;generalize Zs q _=x at w2 ⊢;generalize ((sumP g (es.map λe=>(e,e)) aC).2:Rat)-((sumP g (es.map λe=>(e,e)) aC).1:Rat)=y at n2 ⊢;generalize ((sumP g ((List.range bs.length).map λc=>Xf g k c (es.map λe=>(e,e)) R) (bs.map λp=>YQ p (ZX p))).2:Rat)-((sumP g ((List.range bs.length).map λc=>Xf g k c (es.map λe=>(e,e)) R) (bs.map λp=>YQ p (ZX p))).1:Rat)=z at w2 ⊢;grind
 have less:∀(k:Nat)(es:List Int),M[k]?=some es->((YN g bs aC R k es).2:Rat)-((YN g bs aC R k es).1:Rat)<((gt bs (k:Int)).2:Rat)-((gt bs (k:Int)).1:Rat):=λk es hm=>by
  obtain⟨d1,d2⟩:=dp k es hm;have c1:=Rat.intCast_lt_intCast.mpr d1
  have c2:=Rat.intCast_lt_intCast.mpr d2;grind
 refine Kd gp (λl=>((gt bs (l:Int)).2:Rat)-((gt bs (l:Int)).1:Rat)) w (λk l=>(if k=l then (g:Rat) else 0)-Zs e λj=>(((M.getD k []).getD j 0:Int):Rat)*s j l/(g:Rat)) (λk hk=>?_) (λk hk=>?_) (λk hk=>?_)
 .have hm:=zD (show k<M.length by lia)
  have a:=fact k _ hm
  have b:=less k _ hm
  have n3:=Tv (h:=λl=>rab ((if k=l then (g:Rat) else 0)-Zs e λj=>((M[k].getD j 0:Int):Rat)*s j l/(g:Rat))*(((gt bs (l:Int)).2:Rat)-((gt bs (l:Int)).1:Rat))/(g:Rat)) q (λl hl=>nn (rn l hl));rw[T7] at n3;have c:=Rat.le_trans n3 a;generalize ((YN g bs aC R k M[k]).2:Rat)-((YN g bs aC R k M[k]).1:Rat)=y at b c;generalize ((gt bs (k:Int)).2:Rat)-((gt bs (k:Int)).1:Rat)=x at b ⊢;grind
 .have hm:=zD (show k<M.length by lia)
  have em:M.getD k []=M[k]:=by rw[zW,hm];rfl
  have a:=fact k _ hm
  have b:=less k _ hm;simp only[em];exact rlt a b
 .have z:=EL (g:=(g:Rat)) (m:=0) (by grind) hk (λj=>(((M.getD k []).getD j 0:Int):Rat)) (λ_=>0) w s (λj hj=>by rw[zero j hj];grind)
  have e0:(Zs e λj=>(((M.getD k []).getD j 0:Int):Rat)*0/(g:Rat))=0:=by
   have z2:(Zs e λj=>(((M.getD k []).getD j 0:Int):Rat)*0/(g:Rat))=Zs e λ_=>(0:Rat):=Xg e λj _=>by grind
   rw[z2,T7]
  rw[e0] at z;have e1:(Zs q λl=>((if k=l then (g:Rat) else 0)-Zs e λj=>(((M.getD k []).getD j 0:Int):Rat)*s j l/(g:Rat))*w l)=(g:Rat)*Zs q λl=>((if k=l then (g:Rat) else 0)-Zs e λj=>(((M.getD k []).getD j 0:Int):Rat)*s j l/(g:Rat))*w l/(g:Rat):=by
   rw[<- Wr];exact Xg q λl _=>rback gp
  rw[e1];generalize (Zs q λl=>((if k=l then (g:Rat) else 0)-Zs e λj=>(((M.getD k []).getD j 0:Int):Rat)*s j l/(g:Rat))*w l/(g:Rat))=x at z ⊢;have z2:x=w k:=by
   grind
  rw[z2]
def sgn (i:Int)(k:Nat):Int:=if k%2=1 then -i else i
inductive Rows (S:Sto)(b:Nat):List D->List (List Int)->Prop
 | nil:Rows S b [] []
 | cons {a:Nat} {r:List Int} {ds:List D} {M:List (List Int)}:b<=a->S[a]?=some (.lst (r.map D.int))->Rows S b ds M->Rows S b (.ref a::ds) (r::M)
theorem Nv {B:Nat}:∀ {l:List Int},(∀x∈l,x.natAbs<=B)->l.sum.natAbs<=l.length*B
 | [],_=>by simp
 | x::l,h=>by
  have h1:=h x (by simp)
  have h2:=Nv (l:=l) λy hy=>h y (by simp[hy])
  rw[List.sum_cons,yE,Nat.succ_mul,Nat.add_comm];exact yJ (Int.natAbs_add_le ..) (Nat.add_le_add h1 h2)
theorem K1 {k:Nat}{l:List Int}(h:∀x∈l,Sz k x)(hl:l.length<=4):Sz (k+2) l.sum:=by
 have hp:0<2^k:=Nat.two_pow_pos k
 have h1:=Nv (B:=2^k-1) λx hx=>by have:=h x hx;unfold Sz at this;lia
 have h2:l.length*(2^k-1)<=4*(2^k-1):=Nat.mul_le_mul_right _ hl;unfold Sz;lia
theorem Fl {k n:Nat}{i:Int}(h:Sz k i):Sz k (sgn i n):=by
 unfold sgn;split
 .exact h.neg
 .exact h
theorem Pw (h:S[n]?=some o)(hb:Y7 (Zk o)=some ns)(hq:Q (.int ns.sum) S):irr Ro [.ref n] S Q:=by
 rw[Vt];unfold Ro;simp only[ZO h (Ll hb),hb];exact hq
theorem Sw (l:List Int):Y7 (l.map D.int)=some l:=by
 induction l with
 | nil=>rfl
 | cons x l ih=>simp only[yL,Y7,ih,vI]
inductive Ords (S:Sto)(b:Nat):List D->List (List Int×Int)->Prop
 | nil:Ords S b [] []
 | cons {a:Nat} {o:List Int×Int} {ds:List D} {os:List (List Int×Int)}:b<=a->S[a]?=some (.lst (o.1.map D.int))->Ords S b ds os->Ords S b (.tup [.ref a,.int o.2]::ds) (o::os)
def Fit (n:Nat)(o:List Int×Int):Prop:=o.1.length=n/\(∀x∈o.1,0<=x/\x<n)/\(o.2=1\/o.2=-1)
instance (n:Nat) (o:List Int×Int):Decidable (Fit n o):=by unfold Fit;infer_instance
theorem Mu {xs:List D}{i:Nat}:Yi xs none (some (i:Int))=xs.take i:=by
 unfold L3.Yi;rw[HT.sIx_none,HT.sIx_nat,uJ,Nat.sub_zero];rw[List.take_eq_take_iff];lia
theorem Mc {xs:List D}{i:Nat}:Yi xs (some (i:Int)) none=xs.drop i:=by
 unfold L3.Yi;rw[HT.sIx_none,HT.sIx_nat];rcases Nat.le_total i xs.length with h|h
 .rw[uL h];exact yI (by rw[wH];exact zA _)
 .rw[Nat.min_eq_right h,tM (zA _),tM h];simp
theorem FC {m a:Nat}{S:Sto}{ds:List D}{K:List D->Sto->Prop}(hm:S[m]?=some (.lst ds))(hd:ds[0]?=some (.ref a))(hK:K [.ref a] S):wIx (.ref m) (.int 0) S (λx S1=>K [x] S1):=by
 have z:=ZC (Q:=λx S1=>K [x] S1) hm (Ye hd) hK;rw[Xq] at z;exact z
theorem R0 (h:i∈eqs rows):(true,i)∈rows:=by
 obtain⟨⟨b,n⟩,hr,e⟩:=vC.mp h;cases b
 .cases e
 .cases e;exact hr
theorem RY (vs:LI):∀rows:List (Bool×Nat),YA (((rows.map rwD)).filterMap (λd=>match d with|.tup [.str w,.int at']=>if w="least" then some (.bl (decide (0<=(gt vs at').1))) else none|_=>none))=some (rows.filterMap λr=>if r.1 then none else some (decide (0<=(gt vs (r.2:Int)).1)))
 | []=>rfl
 | (false,n)::rs=>by
  show (YA ((rs.map rwD).filterMap _)).map _=_;rw[RY vs rs];rfl
 | (true,n)::rs=>RY vs rs
def VB (p q:Int×Int):Bool:=decide (q.1<p.1)&&decide (p.2<q.2)
def Rq (us vs:LI):Bool:=(List.zipWith VB us vs).all id
theorem FI:Rq us vs=true↔∀(k:Nat)(p q:Int×Int),us[k]?=some p->vs[k]?=some q->q.1<p.1/\p.2<q.2:=by
 unfold Rq;rw[wM];refine#[λh k p q hp hq=>?_,λh b hb=>?_]
 .have z:=h (VB p q) (zE (by rw[wX,hp,hq]));simpa [VB] using z
 .obtain⟨k,hk⟩:=wY.mp hb;rw[wX] at hk;cases e1:us[k]? with
  | none=>rw[e1] at hk;cases hk
  | some p=>
   cases e2:vs[k]? with
   | none=>rw[e1,e2] at hk;cases hk
   | some q=>
    rw[e1,e2] at hk;obtain⟨a,b⟩:=h k p q e1 e2;have z:=Option.some.inj hk;subst z;simp[VB,a,b]
def dpW:D->D->D
 | .tup [.int a,.int b],.tup [.int c,.int d]=>.bl (decide (c<a)&&decide (b<d))
 | _,_=>.non
theorem K8 (us vs:LI):YA (List.zipWith dpW (us.map frD) (vs.map frD))=some (List.zipWith VB us vs):=by
 induction us generalizing vs with
 | nil=>rfl
 | cons u us ih=>
  cases vs with
  | nil=>rfl
  | cons v vs=>
   show (YA (List.zipWith _ (us.map frD) (vs.map frD))).map _=_;rw[ih];rfl
def UC (g:Int)(bs:LI)(ns:List Nd)(rows:List (Bool×Nat)):LI:=(eqs rows).map λ(i:Nat)=>gt (Zp (bs.map ZX) g ns) i
def U6 (g:Int)(bs:LI)(ns:List Nd)(rows:List (Bool×Nat)):List LI:=(eqs rows).map λ(i:Nat)=>(Z3 (Zp bs g ns) g bs.length ns).getD i []
def Tp (g:Int)(bs:LI)(ns:List Nd)(rows:List (Bool×Nat))(M:List (List Int)):LI:=M.mapIdx λk es=>YN g bs (UC g bs ns rows) (U6 g bs ns rows) k es
theorem G2 (t w:Int)(hw:w≠0):(t.fdiv w).natAbs<=t.natAbs+1:=by
 rcases Int.lt_or_lt_of_ne hw with h|h
 .rw[<- Int.neg_fdiv_neg,wK _ (Int.neg_nonneg_of_nonpos (xE h)),<- Int.natAbs_neg t];exact vV (tN (-t) (-w))
 .rw[wK _ (xE h)];exact vV (tN t w)
theorem Q2 {caps:List Nat}{ta:TDA}{tc:TDT}{te:TDE}{dl:Ev}{S S1:Sto}{Q:DK}{n:Nat}{xs:List D}(W:Nat->List D->Sto->Prop)(b:Nat->D->Bool)(hta:∀K:List D->Sto->Prop,K [.ref n] S1->ta dl S K)(h1:S1[n]?=some (.lst xs))(hw:∀k ys S2,W k ys S2->S2[n]?=some (.lst xs)/\S2[S1.length]?=some (.lst ys)/\ys.length<=k)(hl:xs.length<=900)(h0:W 0 [] (S1++[.lst []]))
  (hc:∀(k:Nat)(x:D)(ys:List D)(S2:Sto)(K:Bool->Sto->Prop),xs[k]?=some x->W k ys S2->K (b k x) S2->tc (some (.int (k:Int))::some x::Yd caps dl) S2 K)
  (hno:∀(k:Nat)(x:D)(ys:List D)(S2:Sto),xs[k]?=some x->b k x=false->W k ys S2->W (k+1) ys S2)
  (ht:∀(k:Nat)(x:D)(ys:List D)(S2:Sto)(K:DK),xs[k]?=some x->b k x=true->W k ys S2->(∀y S3,S3[S1.length]?=some (.lst ys)->W (k+1) (ys++[y]) (S3.set S1.length (.lst (ys++[y])))->K y S3)->te (some (.int (k:Int))::some x::Yd caps dl) S2 K)
  (hq:∀ys S2,W xs.length ys S2->Q (.ref S1.length) S2):WZ caps ta tc te dl S Q:=by
 unfold WZ;refine hta _ #[by rw[ZO h1 rfl];rfl,λk m S2=>(∃ys,W k ys S2)/\m+k=xs.length,#[xs.length,#[_,h0],()],?_];rintro k m S2 ⟨⟨ys,w⟩,hm⟩;obtain⟨w1,w2,w3⟩:=hw _ _ _ w;rw[ZO w1 rfl];dsimp only[Zk];split
 .rename_i x hx;have hk:k<xs.length:=(zC.mp hx).1;refine hc k x ys S2 _ hx w ?_;cases e:b k x with
  | false=>
   exact#[m-1,(),#[_,hno k x ys S2 hx e w],()]
  | true=>
   refine ht k x ys S2 _ hx e w λy S3 e3 w4=>?_
   rw[e3];exact#[(),m-1,(),#[_,w4],()]
 .rename_i hx;have hk:k=xs.length:=by
   have:=xD.mp hx;lia
  exact#[hk,hq ys S2 (hk ▸ w)]
theorem UU {xs:List D}{k:Nat}{d:D}{S:Sto}{Q:DK}(h:xs[k]?=some d)(hq:Q d S):YM wIx (.tup xs) (.int (k:Int)) S Q:=by
 rw[Xq];show (match atI xs (k:Int) with|some d=>Q d S|none=>False);rw[Ye h];exact hq
def Rj (g:Int)(bs:LI)(ns:List Nd)(rows:List (Bool×Nat))(M:List (List Int)):Prop:=
 (eqs rows).length=bs.length/\M.length=bs.length/\(∀es∈M,es.length=bs.length)/\∀(k:Nat)(es:List Int),M[k]?=some es->(gt bs (k:Int)).1<(YN g bs (UC g bs ns rows) (U6 g bs ns rows) k es).1/\(YN g bs (UC g bs ns rows) (U6 g bs ns rows) k es).2<(gt bs (k:Int)).2
inductive Ft where
 | wait|small|one
 | cut (k:Nat) (p:Int) (a b:Nat)
 | out (r:Nat) (vs:LI)
 | full (vs:LI)
def Ww (a b:Nat)(S:Sto)(m:Nat)(vs:LI):Prop:=m≠a/\m≠b/\S[m]?=some (.lst (vs.map frD))
def WJ (a b:Nat)(S:Sto)(d:D):Ft->Prop
 | .wait=>d=.non
 | .small=>d=.tup [.str "small"]
 | .one=>∃d1 d2 d3 d4 d5,d=.tup [.str "one",d1,d2,d3,d4,d5]
 | .cut k p x y=>d=.tup [.str "cut",.int k,.int p,.int x,.int y]
 | .out r vs=>∃m,d=.tup [.str "out",.int r,.ref m]/\Ww a b S m vs
 | .full vs=>∃m,d=.tup [.str "full",.ref m]/\Ww a b S m vs
def Cg (a b:Nat)(S T:Sto):Prop:=S.length<=T.length/\∀(x:Nat)(o:Ob),x≠a->x≠b->S[x]?=some o->T[x]?=some o
theorem Cg.refl:Cg a b S S:=#[zA _,λ_ _ _ _ e=>e]
theorem Cg.trans {a b:Nat}{S T U:Sto}(h:Cg a b S T)(k:Cg a b T U):Cg a b S U:=#[yJ h.1 k.1,λx o na nb e=>k.2 x o na nb (h.2 x o na nb e)]
theorem Cg.pre {a b:Nat}{S T:Sto}(h:Pre S T):Cg a b S T:=#[Y1 h,λx o _ _ e=>h x o e]
theorem Cg.seta (u:Ob):Cg a b S (S.set a u):=#[by rw[yM];exact zA _,λx o na _ e=>ZY e (Ne.symm na)]
theorem Cg.setb (u:Ob):Cg a b S (S.set b u):=#[by rw[yM];exact zA _,λx o _ nb e=>ZY e (Ne.symm nb)]
theorem Ww.cg (h:Ww a b S m vs)(c:Cg a b S T):Ww a b T m vs:=#[h.1,h.2.1,c.2 _ _ h.1 h.2.1 h.2.2]
theorem WJ.cg (h:WJ a b S d f)(c:Cg a b S T):WJ a b T d f:=by
 cases f with
 | out r vs=>obtain⟨m,e,o⟩:=h;exact#[m,e,o.cg c]
 | full vs=>obtain⟨m,e,o⟩:=h;exact#[m,e,o.cg c]
 | wait=>exact h
 | small=>exact h
 | one=>exact h
 | cut k p x y=>exact h
structure Bk (C:Addr)(S:Sto)(n a b:Nat)(es:List LI)(fs:List Ft):Prop where
 ins:S[n]?=some (.ins C [("boxes",.ref a),("fates",.ref b)])
 bx:∃bs:List D,S[a]?=some (.lst bs)/\bs.length=es.length/\∀(i:Nat)(e:LI),es[i]?=some e->∃m,bs[i]?=some (.ref m)/\Ww a b S m e
 ft:∃ds:List D,S[b]?=some (.lst ds)/\ds.length=fs.length/\∀(i:Nat)(f:Ft),fs[i]?=some f->∃d,ds[i]?=some d/\WJ a b S d f
 ne:a≠b
 len:es.length=fs.length
theorem Bk.na (h:Bk C S n a b es fs):n≠a/\n≠b:=by
 obtain⟨bs,h1,_⟩:=h.bx;obtain⟨ds,h2,_⟩:=h.ft;refine#[λe=>?_,λe=>?_]
 .have:=h.ins;rw[e,h1] at this;cases this
 .have:=h.ins;rw[e,h2] at this;cases this
theorem Bk.pre {C:Addr}{S T:Sto}{n a b:Nat}{es:List LI}{fs:List Ft}(h:Bk C S n a b es fs)(p:Pre S T):Bk C T n a b es fs:=by
 obtain⟨bs,h1,h2,h3⟩:=h.bx;obtain⟨ds,k1,k2,k3⟩:=h.ft;refine#[p _ _ h.ins,#[bs,p _ _ h1,h2,λi e he=>?_],#[ds,p _ _ k1,k2,λi f hf=>?_],h.ne,h.len]
 .obtain⟨m,e1,e2⟩:=h3 i e he;exact#[m,e1,e2.cg (.pre p)]
 .obtain⟨d,e1,e2⟩:=k3 i f hf;exact#[d,e1,e2.cg (.pre p)]
theorem Vr (h:(xs++[x])[i]?=some y):xs[i]?=some y\/(i=xs.length/\y=x):=by
 by_cases c:i<xs.length
 .rw[zJ c] at h;exact .inl h
 .have l:=(zC.mp h).1
  have e:i=xs.length:=by simp at l;lia
  subst e;simp at h;exact .inr #[rfl,h.symm]
theorem Bk.put {C:Addr}{S:Sto}{n a b m:Nat}{es:List LI}{fs:List Ft}{e:LI}{bs ds:List D}(h:Bk C S n a b es fs)(o:Ww a b S m e)(h1:S[a]?=some (.lst bs))(k1:S[b]?=some (.lst ds)):
  Bk C ((S.set a (.lst (bs++[.ref m]))).set b (.lst (ds++[.non]))) n a b (es++[e]) (fs++[.wait])/\Cg a b S ((S.set a (.lst (bs++[.ref m]))).set b (.lst (ds++[.non]))):=by
 have cg:Cg a b S ((S.set a (.lst (bs++[.ref m]))).set b (.lst (ds++[.non]))):=(Cg.seta _).trans (Cg.setb _);obtain⟨bs',h1',h2,h3⟩:=h.bx;rw[h1] at h1';cases h1'
 obtain⟨ds',k1',k2,k3⟩:=h.ft;rw[k1] at k1';cases k1'
 refine#[#[cg.2 _ _ h.na.1 h.na.2 h.ins,#[_,ZY (Yb h1) (Ne.symm h.ne),by simp[h2],λi x hx=>?_],#[_,Yb (ZY k1 h.ne),by simp[k2],λi f hf=>?_],h.ne,by simp[h.len]],cg]
 .rcases Vr hx with z|⟨rfl,rfl⟩
  .obtain⟨q,q1,q2⟩:=h3 i x z;exact#[q,by rw[zJ (zC.mp q1).1];exact q1,q2.cg cg]
  .exact#[m,by rw[<- h2];simp,o.cg cg]
 .rcases Vr hf with z|⟨rfl,rfl⟩
  .obtain⟨q,q1,q2⟩:=k3 i f z;exact#[q,by rw[zJ (zC.mp q1).1];exact q1,q2.cg cg]
  .exact#[.non,by rw[<- k2];simp,rfl]
theorem Bk.fate (h:Bk C S n a b es fs)(o:WJ a b S d f)(k1:S[b]?=some (.lst ds)):
  Bk C (S.set b (.lst (ds.set i d))) n a b es (fs.set i f)/\Cg a b S (S.set b (.lst (ds.set i d))):=by
 have cg:Cg a b S (S.set b (.lst (ds.set i d))):=Cg.setb _;obtain⟨bs,h1,h2,h3⟩:=h.bx;obtain⟨ds',k1',k2,k3⟩:=h.ft;rw[k1] at k1';cases k1'
 refine#[#[cg.2 _ _ h.na.1 h.na.2 h.ins,#[bs,ZY h1 (Ne.symm h.ne),h2,λj x hx=>?_],#[_,Yb k1,by simp[k2],λj x hx=>?_],h.ne,by simp[h.len]],cg]
 .obtain⟨q,q1,q2⟩:=h3 j x hx;exact#[q,q1,q2.cg cg]
 .by_cases c:i=j
  .subst c;have l:i<fs.length:=by
    have:=(zC.mp hx).1
    rwa [yM] at this
   rw[yK l] at hx;cases hx;exact#[d,by rw[yK ()],o.cg cg]
  .rw[zY c] at hx;obtain⟨q,q1,q2⟩:=k3 j x hx;exact#[q,by rw[zY c];exact q1,q2.cg cg]
theorem Bk.box {C:Addr}{S:Sto}{n a b i:Nat}{es:List LI}{fs:List Ft}{e:LI}(h:Bk C S n a b es fs)(he:es[i]?=some e):∃(bs:List D)(m:Nat),S[a]?=some (.lst bs)/\bs[i]?=some (.ref m)/\Ww a b S m e:=by
 obtain⟨bs,h1,h2,h3⟩:=h.bx;obtain⟨m,q1,q2⟩:=h3 i e he;exact#[bs,m,h1,q1,q2]
def wd (p:Int×Int):Int:=p.2-p.1
def Wst (bs:LI)(m:Int):Prop:=(∀p∈bs,wd p<=m)/\(bs=[]/\m=0\/∃p∈bs,m=wd p)
def suB (zero:Bool)(s:Int×Int):Bool:=if zero then decide (s.1=0)&&decide (s.2=0) else decide (0<=s.1)
def suS (ns:List Nd)(rows:List (Bool×Nat))(e:LI)(g:Int):Bool:=rows.all λr=>suB r.1 (gt (Zp e g ns) (r.2:Int))
def FOk (g fine:Int)(ns:List Nd)(rows:List (Bool×Nat))(e:LI):Ft->Prop
 | .out r vs=>∃row,rows[r]?=some row/\vs=Zp e g (ns.take (row.2+1))/\ibS ns row.1 row.2 e g=true
 | .full vs=>vs=Zp e g ns/\(∀row∈rows,ibS ns row.1 row.2 e g=false)/\suS ns rows e g=true
 | .one=>∃M,Rj g e ns rows M
 | .small=>(∀p∈e,wd p<=fine)/\(∀row∈rows,ibS ns row.1 row.2 e g=false)/\suS ns rows e g=false
 | _=>False
inductive Bks (g fine:Int)(ns:List Nd)(rows:List (Bool×Nat))(b0:LI):List LI->List Ft->Prop
 | new:Bks g fine ns rows b0 [b0] [.wait]
 | cut {es:List LI} {fs:List Ft} {i k:Nat} {e:LI} {s:Int×Int} {p:Int}:Bks g fine ns rows b0 es fs->fs[i]?=some .wait->es[i]?=some e->e[k]?=some s->s.1<p->p<s.2->
   Bks g fine ns rows b0 (es++[e.set k (s.1,p)]++[e.set k (p,s.2)]) ((fs++[Ft.wait]++[Ft.wait]).set i (.cut k p es.length (es.length+1)))
 | put {es:List LI} {fs:List Ft} {i:Nat} {e:LI} {f:Ft}:Bks g fine ns rows b0 es fs->fs[i]?=some .wait->es[i]?=some e->FOk g fine ns rows e f->Bks g fine ns rows b0 es (fs.set i f)
theorem Oi (h:Spn n e)(hp:p.1<=p.2/\Sz n p.1/\Sz n p.2):Spn n (e.set k p):=λq hq=>by
 rcases uK hq with z|rfl
 .exact h q z
 .exact hp
theorem Bks.ok (sb:Spn 51 b0)(h:Bks g fine ns rows b0 es fs):es.length=fs.length/\∀e∈es,e.length=b0.length/\Spn 51 e:=by
 induction h with
 | new=>exact#[rfl,λe he=>by cases zO.mp he;exact#[rfl,sb]]
 | @cut es fs i k e s p _ hw he hs h1 h2 ih=>
  obtain⟨l,a⟩:=ih;obtain⟨le,se⟩:=a e (zE he);have ss:=se s (zE hs)
  have zp:Sz 51 p:=Sz.mid ss.2.1 ss.2.2 () ();refine#[by simp[l],λx hx=>?_];rcases zX.mp hx with hx|hx
  .rcases zX.mp hx with hx|hx
   .exact a x hx
   .cases zO.mp hx;exact#[by rw[yM];exact le,Oi se #[by show s.1<=p;lia,ss.2.1,zp]]
  .cases zO.mp hx;exact#[by rw[yM];exact le,Oi se #[by show p<=s.2;lia,zp,ss.2.2]]
 | put _ _ _ _ ih=>exact#[by rw[yM];exact ih.1,ih.2]
theorem Bks.shave {g fine:Int}{ns:List Nd}{rows:List (Bool×Nat)}{b0 e:LI}{es:List LI}{fs:List Ft}{j r:Nat}{row:Bool×Nat}{c:Ct}(h:Bks g fine ns rows b0 es fs)(l:es.length=fs.length)(hw:fs[j]?=some .wait)(he:es[j]?=some e)(hk:c.k<e.length)(hs:isS ns row.1 row.2 g e c=true)(hr:rows[r]?=some row):
  e[c.k]?=some (gt e (c.k:Int))/\
  (es++[e.set c.k ((gt e (c.k:Int)).1,c.p)]++[e.set c.k (c.p,(gt e (c.k:Int)).2)])[es.length+(if c.s then 1 else 0)]?=some (e.set c.k (c.off (gt e (c.k:Int))))/\
  ((fs++[Ft.wait]++[Ft.wait]).set j (.cut c.k c.p es.length (es.length+1)))[es.length+(if c.s then 1 else 0)]?=some .wait/\
  Bks g fine ns rows b0 (es++[e.set c.k ((gt e (c.k:Int)).1,c.p)]++[e.set c.k (c.p,(gt e (c.k:Int)).2)]) (((fs++[Ft.wait]++[Ft.wait]).set j (.cut c.k c.p es.length (es.length+1))).set (es.length+(if c.s then 1 else 0)) (.out r (Zp (e.set c.k (c.off (gt e (c.k:Int)))) g (ns.take (row.2+1)))))/\
  (es++[e.set c.k ((gt e (c.k:Int)).1,c.p)]++[e.set c.k (c.p,(gt e (c.k:Int)).2)])[es.length+(if c.s then 0 else 1)]?=some (ctP e c)/\
  (((fs++[Ft.wait]++[Ft.wait]).set j (.cut c.k c.p es.length (es.length+1))).set (es.length+(if c.s then 1 else 0)) (.out r (Zp (e.set c.k (c.off (gt e (c.k:Int)))) g (ns.take (row.2+1)))))[es.length+(if c.s then 0 else 1)]?=some .wait:=by
 have hek:e[c.k]?=some (gt e (c.k:Int)):=by
  have z:=zD hk;rw[z,Xx z]
 obtain⟨h1,h2⟩:=Om hs;have B:=h.cut hw he hek h1 h2
 have ib:ibS ns row.1 row.2 (e.set c.k (c.off (gt e (c.k:Int)))) g=true:=by
  unfold isS at hs;rw[tO] at hs;exact hs.2
 have lj:=(zC.mp hw).1;obtain⟨ck,cp,cs⟩:=c;cases cs with
 | true=>
  have e1:(es++[e.set ck ((gt e (ck:Int)).1,cp)]++[e.set ck (cp,(gt e (ck:Int)).2)])[es.length+1]?=some (e.set ck (cp,(gt e (ck:Int)).2)):=by simp
  have e2:(es++[e.set ck ((gt e (ck:Int)).1,cp)]++[e.set ck (cp,(gt e (ck:Int)).2)])[es.length]?=some (e.set ck ((gt e (ck:Int)).1,cp)):=by simp
  have f1:((fs++[Ft.wait]++[Ft.wait]).set j (.cut ck cp es.length (es.length+1)))[es.length+1]?=some .wait:=by
   rw[zY (),l];simp
  have f2:((fs++[Ft.wait]++[Ft.wait]).set j (.cut ck cp es.length (es.length+1)))[es.length]?=some .wait:=by
   rw[zY (),l];simp
  refine#[hek,e1,f1,B.put f1 e1 #[row,hr,rfl,ib],e2,?_];rw[if_pos rfl,if_pos rfl,zY ()];exact f2
 | false=>
  have e1:(es++[e.set ck ((gt e (ck:Int)).1,cp)]++[e.set ck (cp,(gt e (ck:Int)).2)])[es.length+1]?=some (e.set ck (cp,(gt e (ck:Int)).2)):=by simp
  have e2:(es++[e.set ck ((gt e (ck:Int)).1,cp)]++[e.set ck (cp,(gt e (ck:Int)).2)])[es.length]?=some (e.set ck ((gt e (ck:Int)).1,cp)):=by simp
  have f1:((fs++[Ft.wait]++[Ft.wait]).set j (.cut ck cp es.length (es.length+1)))[es.length+1]?=some .wait:=by
   rw[zY (),l];simp
  have f2:((fs++[Ft.wait]++[Ft.wait]).set j (.cut ck cp es.length (es.length+1)))[es.length]?=some .wait:=by
   rw[zY (),l];simp
  refine#[hek,e2,f2,B.put f2 e2 #[row,hr,rfl,ib],e1,?_];rw[if_neg zR,if_neg zR,zY ()];exact f1
structure Sr (S:Sto)(nd rw:Nat)(g:Int)(ns:List Nd)(ws:List Nat)(rows:List (Bool×Nat))(u:Nat):Prop where
 nd:S[nd]?=some (.lst (ns.map Nd.d))
 rw:S[rw]?=some (.lst (rows.map rwD))
 net:ZF u ns ws
 hg:1<=g/\g<=1000000
 l70:ns.length<=70
 rl:rows.length<=4
 ri:∀r∈rows,r.2<ns.length
 u1:1<=u/\u<=4
theorem Sr.pre {S T:Sto}{nd rw u:Nat}{g:Int}{ns:List Nd}{ws:List Nat}{rows:List (Bool×Nat)}(h:Sr S nd rw g ns ws rows u)(p:Pre S T):Sr T nd rw g ns ws rows u:=#[p _ _ h.nd,p _ _ h.rw,h.net,h.hg,h.l70,h.rl,h.ri,h.u1]
def Apt (nd rw a b:Nat):Prop:=(nd≠a/\nd≠b)/\rw≠a/\rw≠b
theorem Sr.cg {S T:Sto}{nd rw u a b:Nat}{g:Int}{ns:List Nd}{ws:List Nat}{rows:List (Bool×Nat)}(h:Sr S nd rw g ns ws rows u)(p:Apt nd rw a b)(c:Cg a b S T):Sr T nd rw g ns ws rows u:=#[c.2 _ _ p.1.1 p.1.2 h.nd,c.2 _ _ p.2.1 p.2.2 h.rw,h.net,h.hg,h.l70,h.rl,h.ri,h.u1]
theorem rww (b:Bool):rwW b (if b then "zero" else "least"):=by
 cases b
 .exact .inr #[rfl,rfl]
 .exact .inl #[rfl,rfl]
theorem Ic {bs:LI}{cs:List Ct}{i:Nat}{c:Ct}(h:cs[i]?=some c):ctA bs (cs.take (i+1))=ctP (ctA bs (cs.take i)) c:=by
 rw[YI h,NC]
def Shd (es:List LI)(j:Nat)(es':List LI)(j':Nat):Prop:=es.length<=es'.length/\(es'.length=es.length->es'=es/\j'=j)
def FoAt (S:Sto)(d:D):Ft->Prop
 | .wait=>d=.tup [.str "waits"]
 | f=>∃a b,WJ a b S d f
def En (T:Sto)(ds:List D)(es:List LI)(fs:List Ft):Prop:=ds.length=es.length/\es.length=fs.length/\∀(i:Nat)(e:LI)(f:Ft),es[i]?=some e->fs[i]?=some f->∃(m:Nat)(d:D),ds[i]?=some (.tup [.ref m,d])/\T[m]?=some (.lst (e.map frD))/\FoAt T d f
def waD:D->D
 | .non=>.tup [.str "waits"]
 | d=>d
def M3 (x y:D):D:=.tup [x,waD y]
theorem Bk.told (h:Bk C S n a b es fs)(h1:S[a]?=some (.lst bs))(k1:S[b]?=some (.lst ds))(U:Sto):En (S++U) (List.zipWith M3 bs ds) es fs:=by
 obtain⟨bs',h1',h2,h3⟩:=h.bx;rw[h1] at h1';cases h1'
 obtain⟨ds',k1',k2,k3⟩:=h.ft;rw[k1] at k1';cases k1'
 have ll:=h.len;refine#[by rw[vO];lia,h.len,λi e f he hf=>?_];obtain⟨m,m1,m2⟩:=h3 i e he;obtain⟨d,d1,d2⟩:=k3 i f hf;refine#[m,waD d,by rw[wX,m1,d1];rfl,Zo m2.2.2,?_];have d3:=d2.cg (T:=S++U) (.pre λx o e=>Zo e);cases f with
 | wait=>cases d2;rfl
 | small=>cases d2;exact#[a,b,d3]
 | one=>obtain⟨_,_,_,_,_,rfl⟩:=d2;exact#[a,b,d3]
 | cut _ _ _ _=>cases d2;exact#[a,b,d3]
 | out _ _=>obtain⟨_,rfl,_⟩:=d2;exact#[a,b,d3]
 | full _=>obtain⟨_,rfl,_⟩:=d2;exact#[a,b,d3]
theorem NA (k:Nat)(v:Int):∀zs:List Int,∃o,Xu (eqN k) (zs.map D.int) (.int v)=some o
 | []=>#[none,rfl]
 | z::zs=>by
  obtain⟨o,ho⟩:=NA k v zs;have e:eqN k (.int z) (.int v)=some (decide (z=v)):=by cases k<;>rfl
  rw[yL];unfold Xu;rw[e,ho];cases decide (z=v)
  .exact#[_,rfl]
  .exact#[_,rfl]
theorem O1 {k:Nat}{v:Int}:∀ {zs:List Int},v∈zs->∃j,Xu (eqN k) (zs.map D.int) (.int v)=some (some j)/\zs[j]?=some v
 | z::zs,h=>by
  obtain⟨o,ho⟩:=NA k v zs;have e:eqN k (.int z) (.int v)=some (decide (z=v)):=by cases k<;>rfl
  rw[yL];unfold Xu;rw[e];by_cases c:z=v
  .subst c;rw[decide_eq_true rfl,ho];exact#[0,rfl,rfl]
  .have hm:v∈zs:=by
    rcases zT.mp h with q|q
    .exact absurd q.symm c
    .exact q
   obtain⟨j,h1,h2⟩:=O1 hm;rw[decide_eq_false c,h1];exact#[j+1,rfl,h2]
theorem BD {k:Nat}{to:TDE}{t:TDA}{dl:Ev}{S S1:Sto}{Q:DK}{n:Nat}{zs:List Int}(R:Int->Sto->Prop)(hto:∀K:DK,K (.ref n) S1->to dl S K)(ht:∀K:List D->Sto->Prop,(∀v S2,R v S2->K [.int v] S2)->t dl S1 K)(h1:S1[n]?=some (.lst (zs.map D.int)))(hR:∀v S2,R v S2->S2[n]?=some (.lst (zs.map D.int))/\v∈zs)(hq:∀v S2 (j:Nat),R v S2->zs[j]?=some v->Q (.int (j:Int)) S2):VX k to t dl S Q:=by
 unfold VX;refine hto _ #[by rw[ZO h1 rfl];rfl,ht _ λv S2 r=>?_];obtain⟨h2,hv⟩:=hR v S2 r;unfold UH;dsimp only;rw[ZO h2 rfl];dsimp only[Zk];obtain⟨j,e1,e2⟩:=O1 hv;rw[e1];exact hq v S2 j r e2
theorem D8 {e:LI}{g:Int}{ns:List Nd}{k:Nat}(hk:k<ns.length):gt (Zp e g (ns.take (k+1))) (k:Int)=gt (Zp e g ns) (k:Int):=by
 rw[<- Ni e g ns (k+1) (),Pf #[(),()]]
theorem MH (ns:List Nd)(e:LI)(g:Int):∀rows:List (Bool×Nat),YA ((rows.map rwD).map (λd=>match d with|.tup [.str w,.int at']=>.bl (suB (decide (w="zero")) (gt (Zp e g ns) at'))|_=>.non))=some (rows.map λr=>suB r.1 (gt (Zp e g ns) (r.2:Int)))
 | []=>rfl
 | (b,n)::rs=>by
  show (YA ((rs.map rwD).map _)).map _=_;rw[MH ns e g rs];cases b<;>rfl
theorem Jr (ns:List Nd)(e:LI)(g:Int):∀rows:List (Bool×Nat),((rows.map λr=>suB r.1 (gt (Zp e g ns) (r.2:Int))).all id)=suS ns rows e g:=λrows=>by
 rw[vU];rfl
def Wm (bs:LI):Int:=(bs.map wd).sum
theorem SA:∀ {bs:LI},Spn 51 bs->0<=Wm bs/\Wm bs<=bs.length*2^52/\∀p∈bs,wd p<=Wm bs
 | [],_=>#[zS 0,⋯,λp hp=>(nomatch hp)]
 | p::bs,h=>by
  obtain⟨h1,h2,h3⟩:=SA λq hq=>h q (yS _ hq)
  obtain⟨a,b,c⟩:=h p (xG ..);have e:Wm (p::bs)=wd p+Wm bs:=rfl;unfold Sz at b c;have w0:0<=wd p:=by unfold wd;lia
  have w1:wd p<=2^52:=by unfold wd;lia
  refine#[(),by rw[yE];lia,λq hq=>?_];rcases zT.mp hq with rfl|z
  .lia
  .have:=h3 q z;lia
theorem DH {tl td:TDE}{dl:Ev}{S S1 S2:Sto}{Q:DK}{n:Nat}{zs:List Int}{e:D}(htl:∀K:DK,K (.ref n) S1->tl dl S K)(htd:∀K:DK,K e S2->td dl S1 K)(h:S2[n]?=some (.lst (zs.map D.int)))(h0:zs=[]->Q e S2)(hq:∀m,m∈zs->(∀y∈zs,y<=m)->Q (.int m) S2):Rk tl td dl S Q:=by
 unfold Rk;refine htl _ (htd _ ?_);unfold Ul;dsimp only;rw[ZO h rfl];exact#[zs,Sw zs,h0,hq]
theorem FJ {caps:List Nat}{P:Addr}{lp:Pos}{q:Str}{tl te:TDE}{dl:Ev}{S S1:Sto}{Q:DK}{n t:Nat}{xs:List D}(htl:∀K:DK,K (.ref n) S1->tl dl S K)(ht:S1[t]?=some (.cod P lp q))(h:S1[n]?=some (.lst xs))(h0:xs=[]->Q .non S1)
  (hk:∀(v:D)(S2:Sto)(K:DK),v∈xs->Pre S1 S2->(∀(k:Int)(S3:Sto),Pre S2 S3->K (.int k) S3)->te (some v::Yd caps dl) S2 K)(hq:∀(v:D)(S2:Sto),v∈xs->Pre S1 S2->Q v S2):S7 caps P lp q tl te dl S Q:=by
 unfold S7;refine htl _ ?_;refine#[#[t,ht],?_];rw[ZO h rfl];exact#[h0,λi v S2 hv p=>hk v S2 _ (zE hv) p λk S3 p3=>#[#[k,rfl],λx o e=>p3 _ _ (p _ _ e)],λi v S2 hv p=>hq v S2 (zE hv) p]
theorem XM {xs:List D}{i:Int}(k:Nat){d:D}{S:Sto}{Q:DK}(hi:i=(k:Int))(h:xs[k]?=some d)(hq:Q d S):YM wIx (.tup xs) (.int i) S Q:=by
 subst hi;exact UU h hq
theorem U0 (h:S[n]?=some (.frz xs))(hq:Q (.int (xs.length:Nat)) S):irr Uk [.ref n] S Q:=by
 rw[Vt];unfold Uk;simp only[ZO h rfl];exact hq
theorem OX {ns:List Int}{k:Int}(h0:0<=k)(h1:k<(ns.length:Int)):atI (ns.map D.int) k=some (.int (ns.getD k.toNat 0)):=by
 have hk:k.toNat<ns.length:=by lia
 have z:=Ye (xs:=ns.map D.int) (j:=k.toNat) (v:=.int (ns.getD k.toNat 0)) (by simp[hk]);rw[show ((k.toNat:Nat):Int)=k by lia] at z;exact z
theorem Np (t:Int):Int.gcd t 1=1:=by simp
theorem CB (b k:Int):Int.gcd (b*k+1) b=1:=by
 have h:=uB (a:=b*k+1) (b:=b)
 have h2:=xX (a:=b*k+1) (b:=b)
 have h3:((Int.gcd (b*k+1) b:Nat):Int) ∣ 1:=by
  have z:=Int.dvd_sub h (Int.dvd_trans h2 (Int.dvd_mul_right b k))
  rwa [show b*k+1-b*k=1 by lia] at z
 have:=Int.eq_one_of_dvd_one () h3;lia
theorem IF (net:ZF q ns ws)(hv:ns[k]?=some v):v.ok (ws.take k).length q/\v.wt (ws.take k)=ws.getD k 0/\(∀i:Int,inR (ws.take k).length i->(ws.take k).getD i.toNat 0<=16):=by
 obtain⟨ok,e,_,_⟩:=net.ok k v hv;have lk:=(zC.mp hv).1
 have ln:(ws.take k).length=k:=by rw[zG,net.len];lia
 have g:∀i:Int,inR (k:Nat) i->(ws.take k).getD i.toNat 0=ws.getD i.toNat 0:=λi hi=>by
  have h0:=hi.1
  have h1:=hi.2;rw[zW,zW,tE,if_pos ()]
 rw[ln];refine#[ok,?_,λi hi=>?_]
 .rw[e];cases v with
  | number t b=>rfl
  | unknown j=>rfl
  | plus i j=>simp only[Nd.wt];rw[g i ok.1,g j ok.2]
  | minus i j=>simp only[Nd.wt];rw[g i ok.1,g j ok.2]
  | times i j=>simp only[Nd.wt];rw[g i ok.1,g j ok.2]
  | power i n=>simp only[Nd.wt];rw[g i ok.1]
 .rw[g i hi];exact(net.w1 #[hi.1,by have:=hi.2;lia]).2
theorem GJ {to te:TDE}{dl:Ev}{S S1:Sto}{Q:DK}{n:Nat}{xs:List D}(R:D->Sto->Prop)(hto:∀K:DK,K (.ref n) S1->to dl S K)(h:S1[n]?=some (.lst xs))(hte:∀K:DK,(∀y T,R y T->K y T)->te dl S1 K)(h2:∀y T,R y T->T[n]?=some (.lst xs))(hl:xs.length<1000)(hq:∀y T,R y T->Q .non (T.set n (.lst (xs++[y])))):Wh to te dl S Q:=by
 unfold Wh;refine hto _ ?_;simp only[h];refine hte _ λy T r=>?_
 simp only[h2 y T r,if_pos hl];exact hq y T r
section
variable {X:Cx}{Z:Zx}{pos:Pos}
end
section
variable {X:Cx}{Z:Zx}{pos:Pos}
def SR (t:TDE):TDT:=λdl S Q=>t dl S λd S'=>match d with
 | .ref n=>match lAt S' n with
  | some o=>Q (!(Zk o).isEmpty) S'
  | none=>False
 | _=>False
theorem Fj (h:PD X Z e t)(he:∀aU,isTrue e X.env aU=(do let v <- aU;standAt e.pos;holding [v] (truthy v)):=by intro _;rfl):PDT X Z e (SR t):=
 UB (Es h he) λσ H Qb #[r,dl,S,Q,rs,bA,h,ret]=>#[r,dl,S,_,rs,bA,h,λv H' r' d S' e rel' p q=>by
  cases p with
  | ref hn=>
   dsimp only at q;split at q
   .rename_i o eo;obtain⟨eo,eL⟩:=Y3 eo;obtain⟨z,hz,ob⟩:=rel'.at eo;rw[hn] at hz;cases hz
    obtain⟨xs,sq,pr⟩:=ob.list eL;refine#[!xs.isEmpty,.inl #[xs,sq,rfl],?_];have ex:xs.isEmpty=(Zk o).isEmpty:=by
     have l:=pr.1;cases xs<;>cases h2:Zk o<;>rw[h2] at l<;>simp at l<;>rfl
    rw[ex];exact ret _ _ _ _ e rel' q
   .exact q.elim
  | _=>exact(show False from q).elim]
end
theorem Ah {caps:List Nat}{ta:TDA}{te:TDE}{dl:Ev}{S S1:Sto}{Q:DK}{lo hi:Int}(P:Int->Prop)(hta:∀K:List D->Sto->Prop,K [.int lo,.int hi] S1->ta dl S K)(hb:(0<=lo/\lo<=1000)/\0<=hi/\hi<=1000)
  (ht:∀(k:Int)(S2:Sto)(K:DK),lo<=k->k<hi->Pre S1 S2->(∀c,P c->K (.int c) S2)->te (some (.int k)::Yd caps dl) S2 K)(hq:∀cs:List Int,cs.length=(hi-lo).toNat->(∀c∈cs,P c)->Q (.ref S1.length) (S1++[.lst (cs.map D.int)])):UL caps ta YX te dl S Q:=by
 unfold UL;refine hta _ #[#[(),(),(),()],λk S2=>k<=(hi-lo).toNat/\∃cs:List Int,cs.length=k/\(∀c∈cs,P c)/\S2=S1++[.lst (cs.map D.int)],#[zL _,[],rfl,λc hc=>(nomatch hc),rfl],?_];rintro k S2 ⟨hk,cs,lc,pc,rfl⟩;split
 .rename_i c;unfold WL YX;simp only[if_true];refine ht _ _ _ () () Pre.refl.push λv hv=>?_
  rw[Zm];dsimp only;refine#[by rw[zB];lia,(),cs++[v],by simp[lc],λx hx=>?_,by rw[We,zZ];rfl];rcases zX.mp hx with z|z
  .exact pc x z
  .cases zO.mp z;exact hv
 .rename_i c;exact hq cs () pc
theorem Bks.small (h:Bks g fine ns rows b0 es fs):es.length=fs.length/\∀(i:Nat)(e:LI)(f:Ft),es[i]?=some e->fs[i]?=some f->f=.wait\/(∃k p a b,f=.cut k p a b)\/FOk g fine ns rows e f:=by
 induction h with
 | new=>exact#[rfl,λi e f he hf=>by
   match i,hf with
   | 0,hf=>cases hf;exact .inl rfl]
 | @cut es fs i k e s p _ hw he hs h1 h2 ih=>
  obtain⟨l,a⟩:=ih;have li:=(zC.mp hw).1;refine#[by simp[l],λj x f hx hf=>?_];by_cases c:j=i
  .subst c;rw[yK (by simp;lia)] at hf;cases hf;exact .inr (.inl #[_,_,_,_,rfl])
  .rw[zY (Ne.symm c)] at hf;by_cases cj:j<fs.length
   .rw[xB,zJ cj] at hf;rw[xB,zJ ()] at hx;exact a j x f hx hf
   .left
    rcases Vr hf with z|⟨_,z⟩
    .rcases Vr z with z|⟨_,z⟩
     .exact absurd (zC.mp z).1 cj
     .exact z
    .exact z
 | @put es fs i e f _ hw he ok ih=>
  obtain⟨l,a⟩:=ih;have li:=(zC.mp hw).1;refine#[by rw[yM];exact l,λj x f' hx hf=>?_];by_cases c:j=i
  .subst c;rw[yK li] at hf;cases hf;rw[he] at hx;cases hx;exact .inr (.inr ok)
  .rw[zY (Ne.symm c)] at hf;exact a j x f' hx hf
section
variable {prog:Program}{w:World}{A:Around}{E:Value->Shared->Prop}{s:Shared}
theorem FQ (b n:Nat)(hb:b<=n):Builtin.Slice.sliceAdjust none (some (b:Int)) 1 (n:Int)=((0:Int),(b:Int)):=by
 unfold Builtin.Slice.sliceAdjust;have h1:¬ ((1:Int)<0):=by lia
 have h2:¬ ((b:Int)<0):=by lia
 simp only[h1,h2,if_false];congr 1;lia
theorem HS {sl:Addr}{b n:Nat}{u:Tok}{Q:Int×Int×Nat->Shared->Prop}(hs:s.heap.IsSliceOf sl .none (.int b u) .none)(hb:b<=n)(h:Q ((0:Int),1,b) s):
  wpAny (model prog w) A (Builtin.Slice.sliceApplied (.ref sl) (pure (n:Int))) Q E s:=by
 obtain⟨os,hos,hcs,hds⟩:=id hs;unfold Builtin.Slice.sliceApplied Builtin.Slice.sliceFields;refine wpAny_bind (wpAny_bind (wpAny_field hos hds (x:=.none) rfl (wpAny_bind (wpAny_field hos hds (x:=.int b u) rfl (wpAny_bind (wpAny_field hos hds (x:=.none) rfl (wpAny_pure ?_)))))));refine wpAny_bind (slicePart_none ?_);show wpAny _ _ (if ((1:Int)==0)=true then _ else _) _ _ s;rw[if_neg ⋯];refine wpAny_bind (slicePart_none (wpAny_bind (slicePart_int (wpAny_bind (wpAny_pure ?_)))));show wpAny _ _ (match Builtin.Slice.sliceAdjust none (some (b:Int)) 1 (n:Int) with|(lo,hi)=>pure (lo,(1:Int),Builtin.Slice.slicePlaces lo hi 1)) _ _ s;rw[FQ b n hb];show wpAny _ _ (pure ((0:Int),(1:Int),Builtin.Slice.slicePlaces ((0:Nat):Int) (b:Int) 1)) _ _ s;rw[places_from 0 b (zL _)];exact wpAny_pure h
theorem Hm (xs:Array Value)(b:Nat)(_hb:b<=xs.size):((List.range b).filterMap λ(k:Nat)=>xs[((0:Int)+(k:Int)*1).toNat]?).toArray=(xs.toList.take b).toArray:=by
 have e:(λ(k:Nat)=>xs[((0:Int)+(k:Int)*1).toNat]?)=λk=>xs[0+k]?:=by
  funext k;have:((0:Int)+(k:Int)*1).toNat=0+k:=by lia
  rw[this]
 rw[e];have:=pick_run xs 0 b;rw[tP] at this;have e2:((λx=>xs[x]?) ∘ λx=>0+x)=λk=>xs[0+k]?:=rfl
 rw[e2] at this;rw[this,uJ]
theorem D3 {t sl:Addr}{items:Array Value}{b:Nat}{u:Tok}{Q:Value->Shared->Prop}(ht:IsTup s.heap t items)(hs:s.heap.IsSliceOf sl .none (.int b u) .none)(hb:b<items.size)
  (h:Q (.ref s.heap.objs.size) { s with heap:=s.heap.push { cls:=.type "tuple",data:=.seq (items.toList.take b).toArray } })
  (hsz:items.size<=sizeLine):wpAny (model prog w) A (getItem (.ref t) (.ref sl)) Q E s:=by
 have htake:sizeOk (.seq (items.toList.take b).toArray):=by
  show (items.toList.take b).toArray.size<=sizeLine;rw[zI,zG,Array.length_toList];lia
 obtain⟨os,hos,hcs,hds⟩:=id hs;have hTs:s.TypeIs (.ref sl) "slice":=#[os,hos,hcs];unfold getItem
 try with_reducible refine wpAny_holding ?_
 first|refine wpAny_bind (wpAny_pure ?_)|skip
 refine wpAny_bind (wpAny_sequenceKey ht.typeIs ⋯ ?_);refine wpAny_bind (wpAny_callSpecial?_slot (name:=Str.ofString "__getitem__") ht.typeIs F.slot_tuple_getitem (wpAny_call_entry F.slot_tuple_getitem ht.typeIs F.entry_tuple_getitem ?_ (args_tuple_getitem _ _)));show wpAny _ _ (Builtin.Tuple.tupleItemsOf (.ref t) >>= _) _ _ s;refine wpAny_bind (tupleItemsOf_ ht ?_);refine wpAny_bind (wpAny_typeOf hTs ?_);rw[if_pos ⋯];refine wpAny_bind (HS hs (yR hb) ?_);have hno:¬ (((0:Int)==0&&(1:Int)==1&&b==items.size)=true):=by
  have:(b==items.size)=false:=by rw[beq_eq_false_iff_ne];lia
  rw[this];simp
 show wpAny _ _ (if ((0:Int)==0&&(1:Int)==1&&b==items.size)=true then _ else _) _ _ s;rw[if_neg hno,Hm items b (yR hb)]
 first
  | exact wpAny_bind (m:=Builtin.Tuple.tupleExact _) (wpAny_newObj_type (wpAny_pure #[_,rfl,wpAny_pure h]) htake)
  | exact wpAny_bind (m:=Builtin.Tuple.tupleExact _) (wpAny_newObj_type (wpAny_bind (wpAny_pure (wpAny_pure #[_,rfl,wpAny_pure h]))) htake)
  | exact wpAny_bind (wpAny_bind (m:=Builtin.Tuple.tupleExact _) (wpAny_newObj_type (wpAny_pure (wpAny_pure #[_,rfl,wpAny_pure h])) htake))
  | exact wpAny_bind (wpAny_bind (m:=Builtin.Tuple.tupleExact _) (wpAny_newObj_type (wpAny_pure #[_,rfl,wpAny_pure h]) htake))
end
section
variable {X:Cx}{Z:Zx}{pos:Pos}
def rSlT:V->Option Int->Option Int->Hp->VK->Prop:=λx lo hi H Q=>∃a xs,x=.ref a/\H a=some (.tup xs)/\((∃b:Nat,lo=none/\hi=some (b:Int)/\b<xs.length/\∀p,H p=none->Q (.ref p) (upd H p (.tup (xs.take b))))\/∃b:Nat,lo=some (b:Int)/\hi=none/\1<=b/\b<=xs.length/\∀p,H p=none->Q (.ref p) (upd H p (.tup (xs.drop b))))
theorem JR:SlR X rSlT:=by
 intro aA s σ H x v vl vu lo hi sl Q I rx hs pl pu h;obtain⟨a,xs,rfl,hx,h⟩:=h;cases rx;obtain⟨aY,r,ht,hz⟩:=I.tuple (.inl (.inl hx));have aQ:=r.length;refine#["tuple",_,F.slot_tuple_getitem.lookup,ht.typeIs,?_];have aZ:∀(ys:List V)(us:List Value),Zz ys us->ys.length<=xs.length->(∀p,H p=none->Q (.ref p) (upd H p (.tup ys)))->EP X aA σ Q (.ref s.heap.objs.size) { s with heap:=s.heap.push { cls:=.type "tuple",data:=.seq us.toArray } }:=λys us ry hy q=>
  #[.ref s.heap.objs.size,_,I.laid (t':=s.toks) (o:=.tup ys) (λb ob q=>Heap.get?_push_of_some _ q) (zA _) #[yJ hy hz,us,ry,#[_,Heap.get?_push_size _ rfl,rfl,_,rfl]],rfl,q _ (I.hok.fresh (zA _))]
 rcases h with ⟨b,rfl,rfl,hb,q⟩|⟨b,rfl,rfl,h1,hb,q⟩
 .cases pl with
  | none=>
   cases pu with
   | int=>
    refine D3 ht hs (by rw[zI];lia) ?_ (by rw[zI];lia);exact aZ _ _ (r.take b) (by rw[zG];lia) q
 .cases pu with
  | none=>
   cases pl with
   | int=>
    refine getItem_tuple_from ht hs h1 (by rw[zI];lia) ?_ (by rw[zI];lia);exact aZ _ _ (r.drop b) (by rw[wH];lia) q
@[irreducible] def Ua (te:TDE)(tl th:TDO):TDE:=λdl S Q=>te dl S λd S1=>tl dl S1 λl S2=>th dl S2 λu S3=>match d,l,u with
 | .tup xs,none,some b=>(0<=b/\b<xs.length)/\Q (.tup (xs.take b.toNat)) S3
 | .tup xs,some b,none=>(1<=b/\b<=xs.length)/\Q (.tup (xs.drop b.toNat)) S3
 | _,_,_=>False
theorem Mi {e:Expr}{te:TDE}{lo hi:Option Expr}{tl th:TDO}{p2:Pos}(he:PD X Z e te)(hl:PDO X Z lo tl)(hu:PDO X Z hi th):PD X Z (.Subscript e (.Slice lo hi none p2) pos) (Ua te tl th):=
 Z6 (Md JR he hl hu) λσ H Qv #[r,dl,S,Q,rs,bA,h,ret]=>by
  unfold Ua at h;refine#[r,dl,S,_,rs,bA,h,λv H1 r1 d S1 e1 aE p1 q1=>#[r1,dl,S1,_,rs.ext e1,aE,q1,λl H2 r2 S2 e2 aF q2=>#[r2,dl,S2,_,rs.ext (e1.trans e2),aF,q2,λu H3 r3 S3 e3 aG q3=>?_]]];split at q3
  .rename_i xs b;obtain⟨⟨b0,b1⟩,q3⟩:=q3;obtain⟨a,ys,rfl,hy,pr⟩:=(p1.ext (e2.trans e3)).untup;have ln:=pr.1;refine#[a,ys,rfl,hy,.inl #[b.toNat,rfl,by rw[xU b0],(),λp hp=>?_]];have x:Ext r3 r3 H3 (upd H3 p (.tup (ys.take b.toNat))):=V9 hp;exact ret _ _ r3 (.tup (xs.take b.toNat)) S3 (e1.trans (e2.trans (e3.trans x))) (aG.same (Xk hp)) (((pr.take _).ext x).tupR Yz) q3
  .rename_i xs b;obtain⟨⟨b0,b1⟩,q3⟩:=q3;obtain⟨a,ys,rfl,hy,pr⟩:=(p1.ext (e2.trans e3)).untup;have ln:=pr.1;refine#[a,ys,rfl,hy,.inr #[b.toNat,by rw[xU ()],rfl,(),(),λp hp=>?_]];have x:Ext r3 r3 H3 (upd H3 p (.tup (ys.drop b.toNat))):=V9 hp;exact ret _ _ r3 (.tup (xs.drop b.toNat)) S3 (e1.trans (e2.trans (e3.trans x))) (aG.same (Xk hp)) (((pr.drop _).ext x).tupR Yz) q3
  .exact q3.elim
@[irreducible] def Rt (td ty tx:TDE):TDE:=λdl S Q=>td dl S λd S1=>(WT S1 d).isSome=true/\ty dl S1 λy S2=>tx dl S2 λz S3=>match atK S3 d y with
 | some o=>Q (o.getD z) S3
 | none=>False
theorem G8 (hu:ZI k X.A)(ho:PD X Z o td)(he:PD X Z e ty)(hf:PD X Z f tx)(m:M2 X o "get" aL e f aK:=by exact#[rfl,rfl,rfl,rfl]):PD X Z (.Call (.Attribute o "get" aL) [e,f] [] aK) (Rt td ty tx):=
 Z6 (FY (by have:=hu.un;lia) ho he hf m) λσ H Qv #[r,dl,S,Q,rs,bA,h,ret]=>by
  unfold Rt at h;refine#[r,dl,S,_,rs,bA,h,λx H1 r1 d S1 e1 aE p1 #[hi,q1]=>?_];obtain⟨⟨n,kvs⟩,c1⟩:=yX.mp hi;obtain⟨rfl,eS⟩:=Py c1;obtain⟨a,ha,kvs',eH,fr⟩:=aE.at eS;cases p1 with
  | ref hr=>
   rw[hr] at ha;cases ha
   refine#[a,rfl,.inl #[kvs',.inl eH],r1,dl,S1,_,rs.ext e1,aE,q1,λv H2 r2 y S2 e2 aF p2 q2=>#[r2,dl,S2,_,rs.ext (e1.trans e2),aF,q2,λz H3 r3 dz S3 e3 aG p3 q3=>?_]];split at q3
   .rename_i o e;obtain⟨a',o',ea,g,g1,g2⟩:=JD aG.b (.ref ((e2.trans e3).adr _ _ hr)) (p2.ext e3) e;cases ea;refine#[o',g,?_];cases o with
    | none=>
     rw[g2 rfl];exact ret _ H3 r3 dz S3 (e1.trans (e2.trans e3)) aG p3 q3
    | some z'=>
     obtain⟨w,rfl,pw⟩:=g1 z' rfl;exact ret _ H3 r3 z' S3 (e1.trans (e2.trans e3)) aG pw q3
   .exact q3.elim
theorem zam {ty td tx:TDE}{dl:Ev}{S:Sto}{Q:DK}{n:Nat}{kvs:List (Key×D)}{y z:D}{k:Key}(hd:∀K:DK,K (.ref n) S->td dl S K)(hy:∀K:DK,K y S->ty dl S K)(hx:∀K:DK,K z S->tx dl S K)(h:S[n]?=some (.dck kvs))(hk:Uw y=some k)(hq:Q ((Xw kvs k).getD z) S):Rt td ty tx dl S Q:=by
 unfold Rt;refine hd _ #[by simp only[WT,h];rfl,hy _ (hx _ ?_)];simp only[atK,WT,h,hk];exact hq
end
theorem Sz.btw (h1:Sz B a)(h2:Sz B b)(h:(a<=p\/b<=p)/\(p<=a\/p<=b)):Sz B p:=by
 obtain⟨x|x,y|y⟩:=h
 .exact Sz.mid h1 h1 x y
 .exact Sz.mid h1 h2 x y
 .exact Sz.mid h2 h1 x y
 .exact Sz.mid h2 h2 x y
def Le (x:Int×Int)(a b:Int):Prop:=∀B,Sz B x.1->Sz B x.2->Sz B a/\Sz B b
theorem NJ (h:0<b):t/b<=-(-t/b):=can (zU (Vf t h).1 (UX t h).1) h
theorem Le.hull (h:Le x a b)(k:Le x c d):Le x (if c<a then c else a) (if d > b then d else b):=λB z1 z2=>by
 obtain⟨p,q⟩:=h B z1 z2;obtain⟨r,s⟩:=k B z1 z2;exact#[by split<;>assumption,by split<;>assumption]
theorem UQ {p q r:Int×Int}(e:VV p q=some r):Le p r.1 r.2:=λB z1 z2=>by
 obtain⟨a,b,c⟩:=Jh r e;exact#[Sz.btw z1 z2 (),Sz.btw z1 z2 ()]
theorem EE {n x N:Int}(hn:2<=n)(hx:0<x)(hN:0<N):0<((n-1)*x+N/x^(n-1).toNat)/n:=by
 have k:n<=(n-1)*x+N/x^(n-1).toNat:=by
  by_cases c:x=1
  .subst c;lia
  .have a:=wL (show 2<=x by lia) (show 0<=n-1 by lia)
   have b:0<=N/x^(n-1).toNat:=vP () (xE (yG hx));lia
 have:=Int.le_ediv_of_mul_le (show 0<n by lia) (show 1*n<=_ by rw[uI];exact k);lia
theorem Bd.at (h:Bd B vs)(hi:inR vs.length i):Sz B (gt vs i).1/\Sz B (gt vs i).2:=h _ (Si hi)
theorem Bd.put {B:Nat}{vs:LI}(h:Bd B vs){k:Nat}{u:Int×Int}(hu:Sz B u.1/\Sz B u.2):Bd B (vs.set k u):=λp hp=>by
 rcases uK hp with e|e
 .exact h p e
 .subst e;exact hu
def Ptw (m:Int)(l:List (Int×(Int×Int))):Prop:=l.length<=2/\∀p∈l,inR m p.1/\Sz 1000 p.2.1/\Sz 1000 p.2.2
theorem FA (hi:inR m i)(hj:inR m j)(h1:Sz 1000 a/\Sz 1000 b)(h2:Sz 1000 c/\Sz 1000 d):Ptw m [(i,a,b),(j,c,d)]:=#[by simp,λp hp=>by
 simp at hp;rcases hp with rfl|rfl
 .exact#[hi,h1]
 .exact#[hj,h2]]
def ShOk (ns:List Nd)(zero:Bool)(k:Nat)(e:LI)(g:Int)(cs:List Ct)(o:Option LI):Prop:=(o=none->ibS ns zero k e g=true)/\cs.length<=2*e.length/\∀(i:Nat)(c:Ct),cs[i]?=some c->isS ns zero k g (ctA e (cs.take i)) c=true/\c.k<e.length
theorem My (h:o=none->ibS ns zero k e g=true):ShOk ns zero k e g [] o:=#[h,zL _,λi c hc=>by simp at hc]
theorem ixT2 (h:i=0/\v=L\/i=1/\v=U)(hq:Q (.int v) S):YM wIx (.tup [.int L,.int U]) (.int i) S Q:=by
 rcases h with ⟨rfl,rfl⟩|⟨rfl,rfl⟩
 .exact UU rfl hq
 .exact UU rfl hq
theorem all_map {α:Type}{c:α->D}{P:α->Prop}:∀ {xs:List D},(∀d∈xs,∃x,d=c x/\P x)->∃r:List α,xs=r.map c/\∀x∈r,P x
 | [],_=>#[[],rfl,λ_ h=>nomatch h]
 | d::xs,h=>by
  obtain⟨x,rfl,px⟩:=h d (by simp);obtain⟨r,rfl,pr⟩:=all_map (xs:=xs) λe he=>h e (by simp[he])
  exact#[x::r,rfl,λy hy=>(zT.mp hy).elim (λz=>z ▸ px) (pr y)]
def RI (B q:Nat)(xs:List D):Prop:=∃r:List Int,xs=r.map D.int/\r.length=q/\∀x∈r,Sz B x
def RF (B q:Nat)(xs:List D):Prop:=∃r:LI,xs=r.map frD/\r.length=q/\Bd B r
def Mr (R:List D->Prop)(lo:Nat)(S:Sto)(ds:List D):Prop:=∀d∈ds,∃(a:Nat)(xs:List D),d=.ref a/\lo<=a/\S[a]?=some (.lst xs)/\R xs
theorem Mr.pre {R:List D->Prop}{lo:Nat}{S T:Sto}{ds:List D}(h:Mr R lo S ds)(p:Pre S T):Mr R lo T ds:=λd hd=>by
 obtain⟨a,xs,e,l,s,r⟩:=h d hd;exact#[a,xs,e,l,p _ _ s,r]
theorem Mr.low {R:List D->Prop}{lo:Nat}{S:Sto}{ds:List D}(h:Mr R lo S ds):Mr R 0 S ds:=λd hd=>by
 obtain⟨a,xs,e,l,s,r⟩:=h d hd;exact#[a,xs,e,zL _,s,r]
theorem Mr.put {R:List D->Prop}{L b:Nat}{S:Sto}{ys xs:List D}{o:Ob}(h:Mr R (L+1) S ys)(hb:L<b)(e:S[b]?=some (.lst xs))(r:R xs):Mr R (L+1) (S.set L o) (ys++[.ref b]):=λd hd=>by
 rcases zX.mp hd with z|z
 .obtain⟨a,xs,e,l,s,r⟩:=h d z;exact#[a,xs,e,l,ZY s (),r]
 .exact#[b,xs,zO.mp z,hb,ZY e (),r]
theorem Lg {caps:List Nat}{tl te:TDE}{dl:Ev}{S T0:Sto}{Q:DK}{n:Nat}{ds:List D}(R R':List D->Prop)(htl:∀K:DK,K (.ref n) T0->tl dl S K)(hn:T0[n]?=some (.lst ds))(rows:Mr R 0 T0 ds)(hl:ds.length<=1000)
  (ht:∀(a:Nat)(xs:List D)(S2:Sto)(K:DK),R xs->S2[a]?=some (.lst xs)->(∀(S3:Sto)(b:Nat)(ys:List D),Pre S2 S3->S2.length<=b->S3[b]?=some (.lst ys)->R' ys->K (.ref b) S3)->te (some (.ref a)::Yd caps dl) S2 K)
  (hq:∀(S2:Sto)(ys:List D),Pre T0 S2->S2[T0.length]?=some (.lst ys)->ys.length=ds.length->Mr R' 0 S2 ys->Q (.ref T0.length) S2):Xs caps tl YX te dl S Q:=by
 refine J2 (λk ys S2=>Pre T0 S2/\S2[T0.length]?=some (.lst ys)/\ys.length=k/\Mr R' (T0.length+1) S2 ys) htl hn (λk ys S2 w=>#[w.1 _ _ hn,w.2.1,w.2.2.1]) hl #[Pre.refl.push,Zm _ _,rfl,λ_ h=>nomatch h] (λk x ys S2 K hx w hK=>?_) (λys S2 w=>hq S2 ys w.1 w.2.1 w.2.2.1 w.2.2.2.low);obtain⟨w1,w2,w3,w4⟩:=w;obtain⟨a,xs,rfl,_,ha,r⟩:=rows x (zE hx);refine ht a xs S2 K r (w1 _ _ ha) λS3 b zs p3 hb e3 r3=>?_
 have hlt:=ZT w2;exact hK _ S3 (p3 _ _ w2) #[O8 (w1.trans p3) (zA _),Yb (p3 _ _ w2),by simp[w3],(w4.pre p3).put () e3 r3]
theorem Cm {caps:List Nat}{ta:TDA}{te:TDE}{dl:Ev}{S T0:Sto}{Q:DK}{j:Nat}(R':List D->Prop)(hta:∀K:List D->Sto->Prop,K [.int (j:Int)] T0->ta dl S K)(hj:j<=1000)
  (ht:∀(k:Nat)(S2:Sto)(K:DK),k<j->Pre T0 S2->(∀(S3:Sto)(b:Nat)(ys:List D),Pre S2 S3->S2.length<=b->S3[b]?=some (.lst ys)->R' ys->K (.ref b) S3)->te (some (.int (k:Int))::Yd caps dl) S2 K)
  (hq:∀(S2:Sto)(ys:List D),Pre T0 S2->S2[T0.length]?=some (.lst ys)->ys.length=j->Mr R' 0 S2 ys->Q (.ref T0.length) S2):Wd caps ta YX te dl S Q:=by
 refine NI (λk ys S2=>Pre T0 S2/\S2[T0.length]?=some (.lst ys)/\ys.length=k/\Mr R' (T0.length+1) S2 ys) hta () (λk ys S2 w=>#[w.2.1,w.2.2.1]) #[Pre.refl.push,Zm _ _,rfl,λ_ h=>nomatch h] (λk ys S2 K hk w hK=>?_) (λys S2 w=>hq S2 ys w.1 w.2.1 w.2.2.1 w.2.2.2.low);obtain⟨w1,w2,w3,w4⟩:=w;refine ht k S2 K () w1 λS3 b zs p3 hb e3 r3=>?_
 have hlt:=ZT w2;exact hK _ S3 (p3 _ _ w2) #[O8 (w1.trans p3) (zA _),Yb (p3 _ _ w2),by simp[w3],(w4.pre p3).put () e3 r3]
theorem M7 {P:D->Prop}{ys:List D}{d:D}(h:∀y∈ys,P y)(hd:P d):∀y∈ys++[d],P y:=λy hy=>(zX.mp hy).elim (h y) λz=>zO.mp z ▸ hd
theorem JW {caps:List Nat}{ta:TDA}{te:TDE}{dl:Ev}{S S1:Sto}{Q:DK}{j:Nat}(P:D->Prop)(hta:∀K:List D->Sto->Prop,K [.int (j:Int)] S1->ta dl S K)(hj:j<=1000)
  (ht:∀(k:Nat)(S2:Sto)(K:DK),k<j->Pre S1 S2->(∀d,P d->K d S2)->te (some (.int (k:Int))::Yd caps dl) S2 K)(hq:∀xs:List D,xs.length=j->(∀d∈xs,P d)->Q (.ref S1.length) (S1++[.lst xs])):Wd caps ta YX te dl S Q:=
 NI (λk ys S2=>S2=S1++[.lst ys]/\ys.length=k/\∀d∈ys,P d) hta () (λk ys S2 w=>by obtain⟨rfl,w⟩:=w;exact#[Zm _ _,w.1]) #[rfl,rfl,λ_ h=>nomatch h] (λk ys S2 K hk w hK=>by
  obtain⟨rfl,w2,w3⟩:=w;exact ht k _ K () Pre.refl.push λd hd=>hK d _ (Zm _ _) #[We _ _ _,by simp[w2],M7 w3 hd]) (λys S2 w=>by obtain⟨rfl,w⟩:=w;exact hq ys w.1 w.2)
theorem KD {caps:List Nat}{ta:TDA}{te:TDE}{dl:Ev}{S S1:Sto}{Q:DK}{n:Nat}{xs:List D}(P:D->Prop)(hta:∀K:List D->Sto->Prop,K [.ref n] S1->ta dl S K)(h1:S1[n]?=some (.lst xs))(hl:xs.length<=900)
  (ht:∀(k:Nat)(x:D),xs[k]?=some x->∀(S2:Sto)(K:DK),Pre S1 S2->(∀d,P d->K d S2)->te (some (.int (k:Int))::some x::Yd caps dl) S2 K)(hq:∀ys:List D,ys.length=xs.length->(∀d∈ys,P d)->Q (.ref S1.length) (S1++[.lst ys])):WZ caps ta YX te dl S Q:=
 Q2 (λk ys S2=>S2=S1++[.lst ys]/\ys.length=k/\∀d∈ys,P d) (λ_ _=>true) hta h1 (λk ys S2 w=>by obtain⟨rfl,w,_⟩:=w;exact#[Zo h1,Zm _ _,()]) hl #[rfl,rfl,λ_ h=>nomatch h] (λk x ys S2 K hx w hK=>by exact hK) (λk x ys S2 hx hb=>by cases hb) (λk x ys S2 K hx _ w hK=>by
  obtain⟨rfl,w2,w3⟩:=w;exact ht k x hx _ K Pre.refl.push λd hd=>hK d _ (Zm _ _) #[We _ _ _,by simp[w2],M7 w3 hd]) (λys S2 w=>by obtain⟨rfl,w⟩:=w;exact hq ys w.1 w.2)
theorem Mr.cut (h:Mr (RI B q) 0 S ds):Mr (RI B q) 0 S (ds.take i++ds.drop (i+1)):=λd hd=>h d ((zX.mp hd).elim tQ tS)
theorem Bw (hj:j<=n)(h:RI B (n+1) xs):RI B n (xs.take j++xs.drop (j+1)):=by
 obtain⟨r,rfl,l,z⟩:=h;exact#[r.take j++r.drop (j+1),by rw[zZ,wA,List.map_drop],by simp;lia,λx hx=>z x ((zX.mp hx).elim tQ tS)]
theorem Aw (h:Sz (3121+20+20) t)(hw:w≠0):Sz 3200 (t.fdiv w):=by
 have a:=G2 t w hw
 have b:t.natAbs<2^3161:=h
 have c:(2:Nat)^3200=2^3161*2^39:=by rw[<- vX]
 show (t.fdiv w).natAbs<2^3200;generalize 2^3161=n at *
 lia
theorem BE {caps:List Nat}{ta:TDA}{te:TDE}{dl:Ev}{S S1:Sto}{Q:DK}{n:Nat}{xs:List D}(f:Nat->D->D)(hta:∀K:List D->Sto->Prop,K [.ref n] S1->ta dl S K)(h1:S1[n]?=some (.lst xs))(hl:xs.length<=900)
  (ht:∀(k:Nat)(x:D),xs[k]?=some x->∀(S2:Sto)(K:DK),Pre S1 S2->K (f k x) S2->te (some (.int (k:Int))::some x::Yd caps dl) S2 K)(hq:Q (.ref S1.length) (S1++[.lst (xs.mapIdx f)])):WZ caps ta YX te dl S Q:=
 Q2 (λk ys S2=>S2=S1++[.lst ys]/\ys=(xs.take k).mapIdx f) (λ_ _=>true) hta h1 (λk ys S2 w=>by obtain⟨rfl,rfl⟩:=w;exact#[Zo h1,Zm _ _,by rw[tT,zG];lia]) hl #[rfl,rfl] (λk x ys S2 K hx w hK=>by exact hK) (λk x ys S2 hx hb=>by cases hb) (λk x ys S2 K hx _ w hK=>by
  obtain⟨rfl,rfl⟩:=w;have lk:=(zC.mp hx).1;exact ht k x hx _ K Pre.refl.push (hK _ _ (Zm _ _) #[We _ _ _,by rw[YI hx,List.mapIdx_concat,zG,uL ()]])) (λys S2 w=>by
  obtain⟨rfl,rfl⟩:=w;rw[yH];exact hq)
theorem Mh:∀ {ds:List D},Mr (RI B q) 0 S ds->∃M:List (List Int),O2 S ds M/\∀r∈M,r.length=q/\∀x∈r,Sz B x
 | [],_=>#[[],#[rfl,λk d r h=>by simp at h],λr h=>nomatch h]
 | d::ds,h=>by
  obtain⟨M,⟨l,m1⟩,m2⟩:=Mh λx hx=>h x (yS _ hx)
  obtain⟨a,_,rfl,_,ha,r,rfl,lr,zr⟩:=h d (xG ..);refine#[r::M,#[by rw[yE,yE,l],λk d' r' hd hr=>?_],λr' hr=>(zT.mp hr).elim (λe=>e ▸ #[lr,zr]) (m2 r')];cases k with
  | zero=>cases hd;cases hr;exact#[a,rfl,ha]
  | succ k=>exact m1 k d' r' hd hr
theorem Br (h:Yh S 0 ds R)(hr:∀r∈R,r.length=q/\Bd B r):Mr (RF B q) 0 S ds:=λd hd=>by
 obtain⟨k,hk,rfl⟩:=yZ.mp hd;have e:=zD (show k<R.length by rw[<- h.1];exact hk);obtain⟨a,ea,_,sa⟩:=h.2 k _ _ (zD hk) e;exact#[a,_,ea,zL _,sa,_,rfl,hr _ (zE e)]
abbrev LP2:=LI
def Sq (e b0:LP2):Prop:=∀(k:Nat)(s:Int×Int),e[k]?=some s->∃s0,b0[k]?=some s0/\s0.1<=s.1/\s.2<=s0.2
theorem Sq.put {e b0:LP2}{k:Nat}{s p:Int×Int}(h:Sq e b0)(hs:e[k]?=some s)(h1:s.1<=p.1)(h2:p.2<=s.2):Sq (e.set k p) b0:=λj x hx=>by
 by_cases c:k=j
 .subst c;rw[yK (zC.mp hs).1] at hx;cases hx;obtain⟨s0,a,b,c⟩:=h k s hs;exact#[s0,a,(),()]
 .rw[zY c] at hx;exact h j x hx
structure Tre (b0:LP2)(es:List LP2)(fs:List Ft):Prop where
 ln:es.length=fs.length
 rt:es[0]?=some b0
 sb:∀e∈es,Sq e b0
 ct:∀(i k:Nat)(p:Int)(a b:Nat),fs[i]?=some (.cut k p a b)->∃e s,es[i]?=some e/\e[k]?=some s/\s.1<p/\p<s.2/\i<a/\i<b/\es[a]?=some (e.set k (s.1,p))/\es[b]?=some (e.set k (p,s.2))
theorem Bks.tre (h:Bks g fine ns rows b0 es fs):Tre b0 es fs:=by
 induction h with
 | new=>exact#[rfl,rfl,λe he=>by cases zO.mp he;exact λk s hs=>#[s,hs,zS _,zS _],λi k p a b hf=>by
   match i,hf with
   | 0,hf=>cases hf]
 | @cut es fs i k e s p _ hw he hs h1 h2 ih=>
  have li:=(zC.mp hw).1
  have ll:=ih.ln
  have up:∀(j:Nat)(x:LP2),es[j]?=some x->(es++[e.set k (s.1,p)]++[e.set k (p,s.2)])[j]?=some x:=λj x hx=>by
   have:=(zC.mp hx).1;rw[xB,zJ this];exact hx
  have se:=ih.sb e (zE he);refine#[by simp[ll],up _ _ ih.rt,λx hx=>?_,λj k' p' a b hf=>?_]
  .rcases zX.mp hx with hx|hx
   .rcases zX.mp hx with hx|hx
    .exact ih.sb x hx
    .cases zO.mp hx;exact se.put hs (zS _) (xE h2)
   .cases zO.mp hx;exact se.put hs (xE h1) (zS _)
  .by_cases c:i=j
   .subst c;rw[yK (by simp;lia)] at hf;cases hf;exact#[e,s,up _ _ he,hs,h1,h2,(),(),by simp,by simp]
   .rw[zY c] at hf;rcases Vr hf with z|⟨_,z⟩
    .rcases Vr z with z|⟨_,z⟩
     .obtain⟨e',s',q1,q2,q3,q4,q5,q6,q7,q8⟩:=ih.ct j k' p' a b z;exact#[e',s',up _ _ q1,q2,q3,q4,q5,q6,up _ _ q7,up _ _ q8]
     .cases z
    .cases z
 | @put es fs i e f _ hw he ok ih=>
  refine#[by rw[yM];exact ih.ln,ih.rt,ih.sb,λj k p a b hf=>?_];by_cases c:i=j
  .subst c;rw[yK (zC.mp hw).1] at hf;cases hf;exact ok.elim
  .rw[zY c] at hf;exact ih.ct j k p a b hf
def Inb (e pt:LP2)(g:Int):Prop:=∀(k:Nat)(s a:Int×Int),e[k]?=some s->pt[k]?=some a->s.1*a.2<=a.1*g/\a.1*g<=s.2*a.2
inductive Lf (fs:List Ft)(pt:LP2)(g:Int):Nat->Nat->Prop
 | leaf {i:Nat}:(∀k p a b,fs[i]?≠some (.cut k p a b))->Lf fs pt g i i
 | low {i k a b r:Nat} {p:Int}:fs[i]?=some (.cut k p a b)->(gt pt (k:Int)).1*g<=p*(gt pt (k:Int)).2->Lf fs pt g a r->Lf fs pt g i r
 | high {i k a b r:Nat} {p:Int}:fs[i]?=some (.cut k p a b)->¬ (gt pt (k:Int)).1*g<=p*(gt pt (k:Int)).2->Lf fs pt g b r->Lf fs pt g i r
theorem Inb.put {e pt:LP2}{g:Int}{k:Nat}{s p:Int×Int}(h:Inb e pt g)(hs:e[k]?=some s)(hp:∀a,pt[k]?=some a->p.1*a.2<=a.1*g/\a.1*g<=p.2*a.2):Inb (e.set k p) pt g:=λj x a hx ha=>by
 by_cases c:k=j
 .subst c;rw[yK (zC.mp hs).1] at hx;cases hx;exact hp a ha
 .rw[zY c] at hx;exact h j x a hx ha
structure Pk (q:Nat)(pt:LP2):Prop where
 ln:pt.length=q
 ok:∀a∈pt,1<=a.2/\Sz 100 a.1/\Sz 100 a.2
theorem Pk.at {q:Nat}{pt:LP2}(h:Pk q pt){k:Nat}(hk:k<q):∃a,pt[k]?=some a/\1<=a.2/\Sz 100 a.1/\Sz 100 a.2:=by
 have e:=zD (show k<pt.length by rw[h.ln];exact hk);exact#[_,e,h.ok _ (zE e)]
theorem QV {lo hi top w sh g:Int}(h1:lo*w<=top)(h2:top<=hi*w)(hg:1<=g)(hs:1<=sh)(d1:top/sh*sh=top)(d2:g*w/sh*sh=g*w):lo*(g*w/sh)<=top/sh*g/\top/sh*g<=hi*(g*w/sh):=by
 generalize top/sh=t at *
 generalize g*w/sh=b at *
 subst d1;have z:∀x:Int,x*b*sh=x*w*g:=λx=>by rw[wB,d2,yT g w,wB]
 constructor
 .refine yN (a:=sh) ?_ ();rw[z lo,wC t g sh];exact zQ h1 ()
 .refine yN (a:=sh) ?_ ();rw[z hi,wC t g sh];exact zQ h2 ()
theorem LY (hb:1<=b):1<=((Int.gcd a b:Nat):Int)/\a/(Int.gcd a b:Nat)*(Int.gcd a b:Nat)=a/\b/(Int.gcd a b:Nat)*(Int.gcd a b:Nat)=b/\1<=b/(Int.gcd a b:Nat):=by
 have h0:Int.gcd a b≠0:=λe=>by
  have:=(uX.mp e).2;lia
 have h2:=vH (xX (a:=a) (b:=b));refine#[(),vH (uB ..),h2,?_];have:¬ b/(Int.gcd a b:Nat)<=0:=λc=>?_
 .lia
 have:b/(Int.gcd a b:Nat)*(Int.gcd a b:Nat)<=0:=Int.mul_nonpos_of_nonpos_of_nonneg c ();lia
structure Bq (S:Sto)(mb:Nat)(ds:List D)(es:List LP2)(fs:List Ft)(b0:LP2)(q:Nat)(g:Int):Prop where
 bk:S[mb]?=some (.lst ds)
 en:En S ds es fs
 tr:Tre b0 es fs
 l9:es.length<=900
 sp:∀e∈es,e.length=q/\Spn 51 e
 q4:1<=q/\q<=4
 hg:1<=g/\g<=1000000
structure Bp (S:Sto)(mb:Nat)(ds:List D)(es:List LP2)(fs:List Ft)(b0:LP2)(q p:Nat)(pt:LP2)(g:Int):Prop extends Bq S mb ds es fs b0 q g where
 pp:S[p]?=some (.lst (pt.map frD))
 pk:Pk q pt
theorem En.pre (h:En S ds es fs)(p:Pre S T):En T ds es fs:=#[h.1,h.2.1,λi e f he hf=>by
 obtain⟨m,d,h1,h2,h3⟩:=h.2.2 i e f he hf;refine#[m,d,h1,p _ _ h2,?_];cases f with
 | wait=>exact h3
 | small=>obtain⟨a,b,z⟩:=h3;exact#[a,b,z]
 | one=>obtain⟨a,b,z⟩:=h3;exact#[a,b,z]
 | cut _ _ _ _=>obtain⟨a,b,z⟩:=h3;exact#[a,b,z]
 | out _ _=>obtain⟨a,b,z⟩:=h3;exact#[a,b,z.cg (.pre p)]
 | full _=>obtain⟨a,b,z⟩:=h3;exact#[a,b,z.cg (.pre p)]]
theorem Bq.pre (h:Bq S mb ds es fs b0 q g)(x:Pre S T):Bq T mb ds es fs b0 q g:=#[x _ _ h.bk,h.en.pre x,h.tr,h.l9,h.sp,h.q4,h.hg]
def Nc (d:D):Prop:=∃w:Str,w≠"cut"/\(d=.tup [.str w]\/(∃x,d=.tup [.str w,x])\/(∃x y,d=.tup [.str w,x,y])\/∃x y z u v,d=.tup [.str w,x,y,z,u,v])
theorem Bq.at (h:Bq S mb ds es fs b0 q g)(hi:i<es.length):∃(m:Nat)(e:LP2)(d:D),es[i]?=some e/\atI ds (i:Int)=some (.tup [.ref m,d])/\S[m]?=some (.lst (e.map frD))/\((∃(k a b:Nat)(x:Int),fs[i]?=some (.cut k x a b)/\d=.tup [.str "cut",.int k,.int x,.int a,.int b])\/((∀k x a b,fs[i]?≠some (.cut k x a b))/\Nc d)):=by
 have he:=zD hi;obtain⟨f,hf⟩:∃f,fs[i]?=some f:=#[_,zD (show i<fs.length by have:=h.en.2.1;lia)];obtain⟨m,d,h1,h2,h3⟩:=h.en.2.2 i _ _ he hf;have no:(∀k x a b,f≠.cut k x a b)->∀k x a b,fs[i]?≠some (.cut k x a b):=λz k x a b y=>z k x a b (by rw[hf] at y;exact Option.some.inj y)
 refine#[m,_,d,he,Ye h1,h2,?_];cases f with
 | wait=>cases h3;exact .inr #[no λ_ _ _ _ z=>(nomatch z),_,⋯,.inl rfl]
 | small=>obtain⟨a,b,rfl⟩:=h3;exact .inr #[no λ_ _ _ _ z=>(nomatch z),_,⋯,.inl rfl]
 | one=>obtain⟨a,b,_,_,_,_,_,rfl⟩:=h3;exact .inr #[no λ_ _ _ _ z=>(nomatch z),_,⋯,.inr (.inr (.inr #[_,_,_,_,_,rfl]))]
 | cut k x a b=>obtain⟨_,_,rfl⟩:=h3;exact .inl #[k,a,b,x,hf,rfl]
 | out _ _=>obtain⟨a,b,_,rfl,_⟩:=h3;exact .inr #[no λ_ _ _ _ z=>(nomatch z),_,⋯,.inr (.inr (.inl #[_,_,rfl]))]
 | full _=>obtain⟨a,b,_,rfl,_⟩:=h3;exact .inr #[no λ_ _ _ _ z=>(nomatch z),_,⋯,.inr (.inl #[_,rfl])]
theorem LW {lo hi w j:Int}(h:lo<=hi)(j0:0<=j)(jw:j<=w):lo*w<=lo*w+(hi-lo)*j/\lo*w+(hi-lo)*j<=hi*w:=by
 have a:0<=(hi-lo)*j:=yF () j0
 have b:(hi-lo)*j<=(hi-lo)*w:=wL jw ();lia
theorem Pk.snoc (h:Pk q pt)(ha:1<=a.2/\Sz 100 a.1/\Sz 100 a.2):Pk (q+1) (pt++[a]):=#[by simp[h.ln],λx hx=>by
 rcases zX.mp hx with z|z
 .exact h.ok x z
 .cases zO.mp z;exact ha]
theorem Inb.snoc (h:Inb e pt g)(hs:e[pt.length]?=some s)(ha:s.1*a.2<=a.1*g/\a.1*g<=s.2*a.2):Inb e (pt++[a]) g:=λk x y hx hy=>by
 rcases Vr hy with z|⟨rfl,rfl⟩
 .exact h k x y hx z
 .rw[hs] at hx;cases hx;exact ha
theorem Inb.nil:Inb e [] g:=λk x y _ hy=>by simp at hy
theorem Pk.nil:Pk 0 []:=#[rfl,λa ha=>(nomatch ha)]
abbrev gdI (a b:Int):Int:=((Int.gcd a b:Nat):Int)
theorem OT {g w top:Int}(hg:1<=g/\g<=1000000)(hw:1<=w/\w<=9)(zt:Sz 61 top):(1<=gdI top (g*w)/\Sz 25 (gdI top (g*w)))/\top/gdI top (g*w)*gdI top (g*w)=top/\g*w/gdI top (g*w)*gdI top (g*w)=g*w/\1<=g*w/gdI top (g*w)/\Sz 100 (top/gdI top (g*w))/\Sz 100 (g*w/gdI top (g*w)):=by
 have gw:1<=g*w/\g*w<=9000000:=by
  have a:1*1<=g*w:=xQ hg.1 hw.1 () ()
  have b:g*w<=1000000*9:=xQ hg.2 hw.2 () ();lia
 obtain⟨d1,d2,d3,d4⟩:=LY (a:=top) (b:=g*w) gw.1;have le:((Int.gcd top (g*w):Nat):Int)<=g*w:=by
  have:=uN () (xX (a:=top) (b:=g*w));exact this
 have zg:Sz 25 (g*w):=Sz.of 9000000 ();refine#[#[d1,Sz.of 9000000 ()],d2,d3,d4,(zt.div d1).mono ⋯,(zg.div d1).mono ⋯]
def rt (p:Int×Int):Rat:=(p.1:Rat)/(p.2:Rat)
theorem Lk {v p:Int×Int}{g:Int}(hb:1<=p.2)(h:v.1*p.2<=p.1*g/\p.1*g<=v.2*p.2):In v (g*rt p):=by
 have e:(g:Rat)*rt p=((p.1*g:Int):Rat)/(p.2:Rat):=by unfold rt;rw[Rat.intCast_mul];grind
 rw[e];exact#[LD hb h.1,Lw hb h.2]
theorem ra1 {A P B R:Rat}(hP:P≠0)(hR:R≠0):A/P-B/R=(A*R-B*P)/(P*R):=by grind
theorem ra2 {H M a b c d:Rat}(hM:M≠0)(hb:b≠0)(hd:d≠0):H/M*(a/b-c/d)=(a*d-c*b)*H/(M*(b*d)):=by grind
theorem rne {x:Int}(h:1<=x):(x:Rat)≠0:=λe=>by
 have:=Rat.intCast_inj.mp (show (x:Rat)=((0:Int):Rat) from e);lia
def Dr (q:Nat)(D:Nat->Rat)(g:Rat)(u w:Rat)(row:Nat->Int×Int):Prop:=∃S:Nat->Rat,(∀l,l<q->In (row l) (S l))/\g*(u-w)=Zs q λl=>S l*D l
section
variable {q:Nat}{D:Nat->Rat}{g:Int}{a b c e:Rat}{r t:Nat->Int×Int}{v w:Int×Int}
theorem zai (h1:Dr q D g a c r)(h2:Dr q D g b e t):Dr q D g (a+b) (c+e) λl=>WQ (r l) (t l):=by
 obtain⟨S,i,x⟩:=h1;obtain⟨T,j,y⟩:=h2;refine#[λl=>S l+T l,λl hl=>(i l hl).add (j l hl),?_];have z:=S6 (λl=>S l*D l) (λl=>T l*D l) q;rw[<- x,<- y] at z;rw[show (g:Rat)*(a+b-(c+e))=g*(a-c)+g*(b-e) by grind,<- z];exact Xg q λl _=>by grind
theorem CA (h1:Dr q D g a c r)(h2:Dr q D g b e t):Dr q D g (a-b) (c-e) λl=>YQ (r l) (t l):=by
 obtain⟨S,i,x⟩:=h1;obtain⟨T,j,y⟩:=h2;refine#[λl=>S l-T l,λl hl=>(i l hl).take (j l hl),?_];have z:=PB 1 (-1) (λl=>S l*D l) (λl=>T l*D l) q;rw[<- x,<- y] at z;rw[show (g:Rat)*(a-b-(c-e))=1*(g*(a-c)) + -1*(g*(b-e)) by grind,<- z];exact Xg q λl _=>by grind
theorem Gz (hg:1<=g)(va:In v (g*a))(we:In w (g*e))(h1:Dr q D g a c r)(h2:Dr q D g b e t):Dr q D g (a*b) (c*e) λl=>WQ (Z8 v (t l) g) (Z8 w (r l) g):=by
 obtain⟨S,i,x⟩:=h1;obtain⟨T,j,y⟩:=h2;have gp:(0:Rat)<(g:Rat):=Rat.intCast_pos.mpr ();refine#[λl=>g*a*T l/g+g*e*S l/g,λl hl=>(va.mul hg (j l hl)).add (we.mul hg (i l hl)),?_];have z:=PB a e (λl=>T l*D l) (λl=>S l*D l) q;rw[<- x,<- y] at z;rw[show (g:Rat)*(a*b-c*e)=a*(g*(b-e))+e*(g*(a-c)) by grind,<- z];exact Xg q λl _=>by grind
theorem D1 {p r:Int×Int}{n:Int}(hg:1<=g)(n2:2<=n)(hp:1<=p.2)(hr:1<=r.2)(h1:v.1*p.2<=p.1*g/\p.1*g<=v.2*p.2)(h2:v.1*r.2<=r.1*g/\r.1*g<=v.2*r.2):∃s:Rat,In (YD v n g) (g*s)/\rt (p.1^n.toNat,p.2^n.toNat)-rt (r.1^n.toNat,r.2^n.toNat)=s*(rt p-rt r):=by
 obtain⟨m,hm⟩:∃m,n.toNat=m+1:=#[n.toNat-1,()];have hN:1<=p.2*r.2:=xY () ()
 have sc:∀ {x y z:Int},1<=z->x<=y->x*z<=y*z:=λ{x y z} hz h=>zQ h ()
 have f:=Fz (v:=v) hg hN n2 (by rw[<- wB,wC p.1];exact sc hr h1.1) (by rw[<- wB,wC p.1];exact sc hr h1.2) (by rw[yT p.2,<- wB,wC r.1];exact sc hp h2.1) (by rw[yT p.2,<- wB,wC r.1];exact sc hp h2.2)
 have k:=UZ (p.1*r.2) (r.1*p.2) n.toNat
 have hM:1<=(p.2*r.2)^m:=yG ();rw[hm] at f k ⊢;generalize hs (m+1) (p.1*r.2) (r.1*p.2)=H at f k;refine#[(H:Rat)/(((p.2*r.2)^m:Int):Rat),?_,?_]
 .have e:(g:Rat)*((H:Rat)/(((p.2*r.2)^m:Int):Rat))=((H*g:Int):Rat)/(((p.2*r.2)^m:Int):Rat):=by rw[Rat.intCast_mul,Rat.div_def,Rat.div_def,<- Rat.mul_assoc,Rat.mul_comm (g:Rat)]
  rw[e];exact#[LD hM f.1,Lw hM f.2]
 .have eM:(p.2*r.2)^m*(p.2*r.2)=p.2^(m+1)*r.2^(m+1):=by rw[<- yD,yV]
  rw[yV,yV] at k;have b1:1<=p.2^(m+1):=yG ()
  have b2:1<=r.2^(m+1):=yG ();unfold rt;generalize (p.2*r.2)^m=M at *
  generalize p.2^(m+1)=P at *
  generalize r.2^(m+1)=R at *
  generalize p.1^(m+1)=A at *
  generalize r.1^(m+1)=B at *
  have k':=congrArg (λ(z:Int)=>(z:Rat)) k
  have e':=congrArg (λ(z:Int)=>(z:Rat)) eM;simp at k' e';rw[ra1 (rne b1) (rne b2),ra2 (rne hM) (rne hp) (rne hr),k',e']
theorem GV {p r':Int×Int}{n:Int}(hg:1<=g)(n2:2<=n)(hp:1<=p.2)(hr:1<=r'.2)(h1:v.1*p.2<=p.1*g/\p.1*g<=v.2*p.2)(h2:v.1*r'.2<=r'.1*g/\r'.1*g<=v.2*r'.2)(h:Dr q D g (rt p) (rt r') r):Dr q D g (rt (p.1^n.toNat,p.2^n.toNat)) (rt (r'.1^n.toNat,r'.2^n.toNat)) λl=>Z8 (YD v n g) (r l) g:=by
 obtain⟨S,i,x⟩:=h;obtain⟨s,f1,f2⟩:=D1 hg n2 hp hr h1 h2;have gp:(0:Rat)<(g:Rat):=Rat.intCast_pos.mpr ();refine#[λl=>g*s*S l/g,λl hl=>f1.mul hg (i l hl),?_];have z:=Wr s (λl=>S l*D l) q;rw[<- x] at z;rw[f2,show (g:Rat)*(s*(rt p-rt r'))=s*(g*(rt p-rt r')) by grind,<- z];exact Xg q λl _=>by grind
theorem VT {p r:Int×Int}(hp:1<=p.2)(hr:1<=r.2):rt (p.1*r.2+r.1*p.2,p.2*r.2)=rt p+rt r/\rt (p.1*r.2-r.1*p.2,p.2*r.2)=rt p-rt r/\rt (p.1*r.1,p.2*r.2)=rt p*rt r:=by
 have z1:(0:Rat)<(p.2:Rat):=Rat.intCast_pos.mpr ()
 have z2:(0:Rat)<(r.2:Rat):=Rat.intCast_pos.mpr ();unfold rt;refine#[?_,?_,?_]<;>grind
theorem OJ (h:Dr q D g a c r)(k:∀l,l<q->r l=t l):Dr q D g a c t:=by
 obtain⟨S,i,x⟩:=h;exact#[S,λl hl=>k l hl ▸ i l hl,x]
end
theorem C4 {q:Nat}{ns:List Nd}{ws:List Nat}{bs ps rs:LI}{g:Int}(h:ZF q ns ws)(hb:q=bs.length)(hp:q=ps.length)(hr:q=rs.length)(hg:1<=g)(ip:InW g bs ps)(ir:InW g bs rs)(zp:Pz 110 ps)(zr:Pz 110 rs):
  ∀k:Nat,k<=ns.length->∀i:Int,inR k i->Dr q (λl=>rt (gt ps (l:Int))-rt (gt rs (l:Int))) g (rt (gt (Zq ps (ns.take k)) i)) (rt (gt (Zq rs (ns.take k)) i)) λl=>gs (Z3 (Zp bs g ns) g q (ns.take k)) i l:=by
 intro k
 induction k with
 | zero=>intro _ i hi;exact absurd hi.2 (by have:=hi.1;lia)
 | succ k ih=>
  intro hk i hi;have hv:ns[k]?=some ns[k]:=zD ();obtain⟨ok,_⟩:=h.ok k _ hv;have l3:(Z3 (Zp bs g ns) g q (ns.take k)).length=k:=by rw[Vu,zG];lia
  have ln:∀ps,(Zq ps (ns.take k)).length=k:=λps=>by rw[Xv,zG];lia
  rw[YI hv,X5,X5,RA];by_cases c:i<k
  .rw[SQ (by rw[ln];exact#[hi.1,c]),SQ (by rw[ln];exact#[hi.1,c])];exact OJ (ih () i #[hi.1,c]) λl _=>(HC (by rw[l3];exact#[hi.1,c])).symm
  .have e:i=k:=by have:=hi.2;lia
   subst e;rw[U2 (ln _),U2 (ln _)];have pos:∀ {ps},q=ps.length->Pz 110 ps->∀j:Int,inR k j->1<=(gt (Zq ps (ns.take k)) j).2:=λ{ps} hp zp j hj=>(Pz.at (Pz.of_w (VZ h (by rw[hp]) zp k ()) λj hj=>(h.w1 (i:=j) #[(),by rw[ln] at hj;lia]).2) (by rw[ln];exact hj)).1
   have isin:∀ {ps},q=ps.length->Pz 110 ps->InW g bs ps->∀j:Int,inR k j->(gt (Zp bs g ns) j).1*(gt (Zq ps (ns.take k)) j).2<=(gt (Zq ps (ns.take k)) j).1*g/\(gt (Zq ps (ns.take k)) j).1*g<=(gt (Zp bs g ns) j).2*(gt (Zq ps (ns.take k)) j).2:=λ{ps} hp zp ip j hj=>by
    rw[<- Pf hj,Ni bs g ns k ()];exact Pd h (by rw[hb]) (by rw[hp]) hg ip zp k () j (by rw[ln];exact hj)
   have p1:=pos hp zp
   have p2:=pos hr zr
   have i1:=isin hp zp ip
   have i2:=isin hr zr ir
   have ih':=ih ();refine OJ ?_ λl hl=>by rw[EN l3,Kv hl]
   generalize ns[k]=v at ok;cases v with
   | number t b=>exact#[λ_=>0,λ_ _=>#[Rat.le_refl,Rat.le_refl],by
     show (g:Rat)*(rt (t,b)-rt (t,b))=_;rw[Rat.sub_self,Rat.mul_zero];have z:=Wr 0 (λl=>rt (gt ps (l:Int))-rt (gt rs (l:Int))) q;rw[Rat.zero_mul] at z;exact z.symm]
   | unknown j=>
    obtain⟨j0,j1⟩:=ok;obtain⟨j,rfl⟩:=tU j0;refine#[λl=>g*(if j=l then 1 else 0),λl _=>?_,?_]
    .show In (if (l:Int)=(j:Int) then (g,g) else (0,0)) (g*(if j=l then 1 else 0));by_cases x:j=l
     .rw[if_pos (),if_pos x,Rat.mul_one];exact#[Rat.le_refl,Rat.le_refl]
     .rw[if_neg (),if_neg x,Rat.mul_zero];exact#[Rat.le_refl,Rat.le_refl]
    .have d:=RV j (λl=>rt (gt ps (l:Int))-rt (gt rs (l:Int))) q;rw[if_pos ()] at d;show (g:Rat)*(rt (gt ps (j:Int))-rt (gt rs (j:Int)))=_;rw[<- d,<- Wr];exact Xg q λl _=>by grind
   | plus a b=>
    have z:=zai (ih' a ok.1) (ih' b ok.2);rw[<- (VT (p1 a ok.1) (p1 b ok.2)).1,<- (VT (p2 a ok.1) (p2 b ok.2)).1] at z;exact z
   | minus a b=>
    have z:=CA (ih' a ok.1) (ih' b ok.2);rw[<- (VT (p1 a ok.1) (p1 b ok.2)).2.1,<- (VT (p2 a ok.1) (p2 b ok.2)).2.1] at z;exact z
   | times a b=>
    have z:=Gz hg (Lk (p1 a ok.1) (i1 a ok.1)) (Lk (p2 b ok.2) (i2 b ok.2)) (ih' a ok.1) (ih' b ok.2);rw[<- (VT (p1 a ok.1) (p1 b ok.2)).2.2,<- (VT (p2 a ok.1) (p2 b ok.2)).2.2] at z;exact z
   | power a n=>exact GV hg ok.2.1 (p1 a ok.1) (p2 a ok.1) (i1 a ok.1) (i2 a ok.1) (ih' a ok.1)
theorem HB {q:Nat}{ns:List Nd}{ws:List Nat}{bs P C:LI}{g:Int}(net:ZF q ns ws)(hb:q=bs.length)(hp:q=P.length)(hc:q=C.length)(hg:1<=g)(ip:InW g bs P)(ic:InW g bs C)(zp:Pz 110 P)(zc:Pz 110 C){is:List Nat}(his:∀i∈is,i<ns.length)(zero:∀i∈is,(gt (Zq P ns) (i:Int)).1=0):
  ∃s:Nat->Nat->Rat,(∀c:Nat,c<q->∀(j:Nat)(p:Int×Int),((is.map λ(i:Nat)=>(Z3 (Zp bs g ns) g bs.length ns).getD i []).map λr=>r.getD c (0,0))[j]?=some p->In p (s j c))/\∀(j i:Nat),is[j]?=some i->-(g*rt (gt (Zq C ns) (i:Int)))=Zs q λl=>s j l*(rt (gt P (l:Int))-rt (gt C (l:Int))):=by
 have dif:=C4 net hb hp hc hg ip ic zp zc ns.length (zA _);rw[yH] at dif;have ex:∀j:Nat,∃S:Nat->Rat,∀i,is[j]?=some i->(∀l,l<q->In (gs (Z3 (Zp bs g ns) g q ns) (i:Int) l) (S l))/\-(g*rt (gt (Zq C ns) (i:Int)))=Zs q λl=>S l*(rt (gt P (l:Int))-rt (gt C (l:Int))):=λj=>by
  cases e:is[j]? with
  | none=>exact#[λ_=>0,λi h=>by cases h]
  | some i=>
   have him:=zE e;obtain⟨S,h1,h2⟩:=dif (i:Int) #[(),by have:=his i him;lia];refine#[S,λi' h=>by
    cases h;refine#[h1,?_];rw[<- h2];have z:rt (gt (Zq P ns) (i:Int))=0:=by unfold rt;rw[zero i him];exact Rat.zero_mul _
    generalize rt (gt (Zq C ns) (i:Int))=y;grind]
 obtain⟨s,hs⟩:=Classical.skolem.mp ex;refine#[s,λc hc j p hj=>?_,λj i h=>(hs j i h).2];rw[zF,zF] at hj;cases e:is[j]? with
 | none=>rw[e] at hj;cases hj
 | some i=>
  rw[e] at hj;cases hj;have z:=(hs j i e).1 c hc;unfold gs at z;rw[zK,hb] at z;exact z
theorem BF {q:Nat}{ns:List Nd}{ws:List Nat}{bs P P2:LI}{g:Int}(net:ZF q ns ws)(hb:q=bs.length)(hp:q=P.length)(hp2:q=P2.length)(sb:Spn 51 bs)(hg:1<=g/\g<=1000000)(ip:InW g bs P)(ip2:InW g bs P2)(zp:Pz 110 P)(zp2:Pz 110 P2){is:List Nat}(his:∀i∈is,i<ns.length)(zero:∀i∈is,(gt (Zq P ns) (i:Int)).1=0)(zero2:∀i∈is,(gt (Zq P2 ns) (i:Int)).1=0){M:List (List Int)}(lM:M.length=q)(lE:∀es∈M,es.length=is.length)
  (dp:∀(k:Nat)(es:List Int),M[k]?=some es->(gt bs (k:Int)).1<(YN g bs (is.map λ(i:Nat)=>gt (Zp (bs.map ZX) g ns) i) (is.map λ(i:Nat)=>(Z3 (Zp bs g ns) g bs.length ns).getD i []) k es).1/\(YN g bs (is.map λ(i:Nat)=>gt (Zp (bs.map ZX) g ns) i) (is.map λ(i:Nat)=>(Z3 (Zp bs g ns) g bs.length ns).getD i []) k es).2<(gt bs (k:Int)).2):∀k:Nat,k<q->rt (gt P (k:Int))=rt (gt P2 (k:Int)):=by
 obtain⟨s,sIn,bA⟩:=HB net hb hp hp2 hg.1 ip ip2 zp zp2 his zero;have ot:∀p∈(is.map λ(i:Nat)=>gt (Zp (bs.map ZX) g ns) i),p.1<=p.2:=λp hp=>by
  obtain⟨i,him,rfl⟩:=zP.mp hp;have sp:=Rb (show ZF ((bs.map ZX).length:Nat) ns ws by rw[zB,<- hb];exact net) rfl (SI sb) hg ns.length (zA _);rw[yH] at sp;exact(sp.at (i:=(i:Int)) #[(),by rw[YZ];have:=his i him;lia]).1
 intro k hk;have z:=Af (e:=is.length) hg.1 hb.symm (by rw[zB]) (by rw[zB]) lM lE (λp hp=>(sb p hp).1) ot dp s sIn (λl=>rt (gt P (l:Int))-rt (gt P2 (l:Int))) (λj hj=>by
  rw[<- bA j _ (zD hj)];have z:rt (gt (Zq P2 ns) ((is[j]:Nat):Int))=0:=by unfold rt;rw[zero2 _ (yY hj)];exact Rat.zero_mul _
  grind) k hk
 grind
theorem D5 {p r:Int×Int}(p1:1<=p.2)(r1:1<=r.2)(h:rt p=rt r):p.1*r.2=r.1*p.2:=by
 have a:=rne p1
 have b:=rne r1;unfold rt at h;have z:(p.1:Rat)*(r.2:Rat)=(r.1:Rat)*(p.2:Rat):=by grind
 rw[<- Rat.intCast_mul,<- Rat.intCast_mul] at z;exact Rat.intCast_inj.mp z
theorem Hd (P:LP2)(ns:List Nd):∀k,k<=ns.length->(Zq P ns).take k=Zq P (ns.take k):=by
 intro k hk;have main:∀m,(Zq P (ns.take k++(ns.drop k).take m)).take k=Zq P (ns.take k):=λm=>by
  induction m with
  | zero=>rw[List.take_zero,xN];exact yI (by rw[Xv,zG];lia)
  | succ m ih=>
   by_cases c:m<(ns.drop k).length
   .rw[YI (zD c),<- xB,X5,vN (by rw[Xv,yB,zG];lia)];exact ih
   .rw[yI (show (ns.drop k).length<=m+1 by lia)]
    rwa [yI (show (ns.drop k).length<=m by lia)] at ih
 have z:=main (ns.drop k).length
 rwa [yH,vA] at z
section
variable {q:Nat}{ns:List Nd}{ws:List Nat}{rows:List (Bool×Nat)}{e P P2:LP2}{g:Int}{M:List (List Int)}
theorem Og (h:e.length=P.length):Inb e P g↔InW g e P:=
 #[λz i hi=>by
  obtain⟨i,rfl⟩:=tU hi.1;have l:=hi.2
  have a:=zD (show i<e.length by lia)
  have b:=zD (show i<P.length by lia);rw[Xx a,Xx b];exact z i _ _ a b,λz k s a hs ha=>by
  have l:=(zC.mp ha).1
  have y:=z (k:Int) #[(),()]
  rwa [Xx hs,Xx ha] at y]
end
theorem Ou (w:Str):∀ws:List Str,Y6 (eqN 0) (ws.map D.str) (.str w)=some (ws.any (·==w))
 | []=>rfl
 | x::ws=>by
  show (match eqF (.str x) (.str w),Y6 (eqN 0) (ws.map D.str) (.str w) with|some b,some c=>some (b||c)|_,_=>none)=_;rw[Ou w ws];show some (decide (x=w)||ws.any (·==w))=some ((x==w)||ws.any (·==w));by_cases c:x=w
  .rw[decide_eq_true c,beq_iff_eq.mpr c]
  .rw[decide_eq_false c,beq_eq_false_iff_ne.mpr c]
theorem Dn {neg:Bool}{n:Nat}{S:Sto}{Q:DK}{ws:List Str}{w:Str}(ho:S[n]?=some (.lst (ws.map D.str)))(hq:Q (.bl (if neg then !ws.any (·==w) else ws.any (·==w))) S):YM (wIn 0 neg) (.str w) (.ref n) S Q:=by
 rw[Xq];unfold wIn;simp only[ZO ho rfl,Zk,Ou];exact hq
theorem JA {n:Nat}{S:Sto}{t:TDE}{dl:Ev}{Q:Bool->Sto->Prop}{xs:List D}(ht:∀K:DK,K (.ref n) S->t dl S K)(h:S[n]?=some (.lst xs))(hq:Q (!xs.isEmpty) S):SR t dl S Q:=by
 unfold SR;refine ht _ ?_;dsimp only;rw[ZO h rfl];exact hq
def cuD:D->Option D
 | .tup [.ref m,.tup (.str w::xs)]=>if w="cut" then some (.tup [.ref m,.tup (.str w::xs)]) else none
 | _=>none
theorem cu_is (B:Bq S mb ds es fs b0 q g)(hx:x∈ds.filterMap cuD):∃(i m k a b:Nat)(p:Int)(e:LP2),es[i]?=some e/\x=.tup [.ref m,.tup [.str "cut",.int k,.int p,.int a,.int b]]/\S[m]?=some (.lst (e.map frD))/\fs[i]?=some (.cut k p a b):=by
 obtain⟨y,hy,e⟩:=vC.mp hx;obtain⟨i,hi⟩:=wY.mp hy;have li:=(zC.mp hi).1
 have ln:=B.en.1;obtain⟨m,e0,d,he,hd,hm,hc⟩:=B.at (show i<es.length by lia);rw[Ye (j:=i) hi] at hd;cases hd;rcases hc with ⟨k,a,b,p,hf,rfl⟩|⟨_,w,hw,rfl|⟨_,rfl⟩|⟨_,_,rfl⟩|⟨_,_,_,_,_,rfl⟩⟩
 .unfold cuD at e;dsimp only at e;rw[if_pos rfl] at e;cases e;exact#[i,m,k,a,b,p,e0,he,rfl,hm,hf]
 all_goals
  unfold cuD at e;dsimp only at e;rw[if_neg hw] at e;cases e
def Mw (P:LP2)(ns:List Nd)(r:Bool×Nat):Prop:=if r.1=true then (gt (Zq P ns) (r.2:Int)).1=0 else 0<=(gt (Zq P ns) (r.2:Int)).1
theorem Iq {P:LP2}{ns:List Nd}{r:Bool×Nat}(h:r.2<ns.length):Mw P ns r↔if r.1 then (gt (Zq P (ns.take (r.2+1))) (r.2:Int)).1=0 else 0<=(gt (Zq P (ns.take (r.2+1))) (r.2:Int)).1:=by
 unfold Mw;rw[<- Hd P ns (r.2+1) (),Pf #[(),()]]
section
variable {q:Nat}{ns:List Nd}{ws:List Nat}{rows:List (Bool×Nat)}{e P P2:LP2}{g fine:Int}{M:List (List Int)}
theorem zad (net:ZF q ns ws)(le:q=e.length)(lp:q=P.length)(lp2:q=P2.length)(se:Spn 51 e)(hg:1<=g/\g<=1000000)(ri:∀r∈rows,r.2<ns.length)(o:Rj g e ns rows M)(z1:Pz 110 P)(z2:Pz 110 P2)(iw:InW g e P)(iw2:InW g e P2)(met:∀r∈rows,Mw P ns r)(met2:∀r∈rows,Mw P2 ns r):∀(k:Nat)(a b:Int×Int),P[k]?=some a->P2[k]?=some b->a.1*b.2=b.1*a.2:=by
 intro k a b ha hb;obtain⟨o1,o2,o3,o4⟩:=o;have zr:∀ {P:LP2},(∀r∈rows,Mw P ns r)->∀i∈eqs rows,(gt (Zq P ns) (i:Int)).1=0:=λm i hi=>m _ (R0 hi)
 have lk:=(zC.mp ha).1
 have w:=BF net le lp lp2 se hg iw iw2 z1 z2 (λi hi=>ri _ (R0 hi)) (zr met) (zr met2) (M:=M) () (λes he=>by rw[o3 es he,o1]) o4 k ();rw[Xx ha,Xx hb] at w;exact D5 (z1 _ (zE ha)).1 (z2 _ (zE hb)).1 w
theorem D6 {r:Nat}{vs:LP2}(net:ZF q ns ws)(le:q=e.length)(lp:q=P.length)(hg:1<=g)(ri:∀r∈rows,r.2<ns.length)(z1:Pz 110 P)(iw:InW g e P)(h:FOk g fine ns rows e (.out r vs)):∃row,rows[r]?=some row/\¬ Mw P ns row:=by
 obtain⟨row,hr,_,ib⟩:=h;have hm:=zE hr;refine#[row,hr,λm=>?_];rw[HA (ws:=ws) (by rw[<- le];exact net) hg (ri _ hm) () z1 iw ((Iq (ri _ hm)).mp m)] at ib;cases ib
theorem Jx (net:ZF q ns ws)(le:q=e.length)(lp:q=P.length)(hg:1<=g)(ri:∀r∈rows,r.2<ns.length)(z1:Pz 110 P)(iw:InW g e P)(h:FOk g fine ns rows e (.full vs)):∀r∈rows,Mw P ns r:=λr hr=>by
 have z:=wM.mp h.2.2 r hr
 have l:=ri r hr
 have w:=Pd net (by rw[le]) (by rw[lp]) hg iw z1 ns.length (zA _);rw[yH] at w;have ik:inR (((Zq P ns).length:Nat):Int) (r.2:Int):=#[(),by rw[Xv];lia]
 have y:=w (r.2:Int) ik
 have pz:Pz 1800 (Zq P ns):=by
  have t:=Pz.of_w (VZ net (by rw[lp]) z1 ns.length (zA _)) λj hj=>(net.w1 (i:=j) #[(),by rw[yH,Xv] at hj;lia]).2
  rwa [yH] at t
 have u:=(pz.at ik).1;unfold suB at z;unfold Mw;generalize gt (Zp e g ns) (r.2:Int)=s at y z;generalize gt (Zq P ns) (r.2:Int)=d at y u ⊢;clear w ik hr l;obtain⟨zero,k⟩:=r;cases zero with
 | true=>
  have z:s.1=0/\s.2=0:=by simpa using z
  rw[z.1,z.2,wO] at y;rw[if_pos rfl];rcases Int.mul_eq_zero.mp (uF y.2 y.1) with c|c
  .exact c
  .lia
 | false=>
  have z:0<=s.1:=by simpa using z
  rw[if_neg zR];have a:=yF z (show 0<=d.2 by lia);exact Int.nonneg_of_mul_nonneg_left (zU a y.1) ()
end
theorem Pk.pz (h:Pk q pt):Pz 110 pt:=λp hp=>by
 obtain⟨a,b,c⟩:=h.ok p hp;exact#[a,b.mono ⋯,c.mono ⋯]
def mwB (P:LP2)(ns:List Nd)(r:Bool×Nat):Bool:=if r.1=true then decide ((gt (Zq P ns) (r.2:Int)).1=0) else decide (0<=(gt (Zq P ns) (r.2:Int)).1)
theorem TR (P:LP2)(ns:List Nd)(r:Bool×Nat):mwB P ns r=true↔Mw P ns r:=by
 unfold mwB Mw;split<;>simp
def mfD (P:LP2)(ns:List Nd):D->D
 | .tup [.str w,.int k]=>.bl (mwB P ns (w == "zero",k.toNat))
 | _=>.non
theorem O9 (P:LP2)(ns:List Nd)(r:Bool×Nat):mfD P ns (rwD r)=.bl (mwB P ns r):=by
 obtain⟨zero,k⟩:=r;cases zero<;>rfl
theorem DU (P:LP2)(ns:List Nd)(rows:List (Bool×Nat)):(rows.map rwD).map (mfD P ns)=(rows.map (mwB P ns)).map D.bl:=by
 rw[yA,yA];exact wZ λr _=>O9 P ns r
theorem Lv:∀bs:List Bool,YA (bs.map D.bl)=some bs
 | []=>rfl
 | b::bs=>by
  show (YA (bs.map D.bl)).map _=_;rw[Lv bs];rfl
theorem CD {kvs:List (Key×D)}{k:Key}{v:D}(h:Xw kvs k=some v):(k,v)∈kvs:=by
 unfold Xw at h;obtain⟨x,hx,rfl⟩:=zH.mp h;have e:decide (x.1=k)=true:=List.find?_some (p:=λkv:Key×D=>decide (kv.1=k)) hx
 have e:=of_decide_eq_true e;subst e;exact List.mem_of_find?_eq_some hx
theorem Ew {kvs:List (Key×D)}{k:Key}{v:D}{x:Key×D}(h:x∈Wv kvs k v):x=(k,v)\/x∈kvs:=by
 unfold Wv at h;split at h
 .obtain⟨y,hy,rfl⟩:=zP.mp h;split
  .rename_i c;exact .inl (by rw[c])
  .exact .inr hy
 .rcases zX.mp h with h|h
  .exact .inr h
  .exact .inl (zO.mp h)
theorem Cp (kvs:List (Key×D))(k:Key)(v:D):(Wv kvs k v).length<=kvs.length+1:=by
 unfold Wv;split<;>simp
def Sg (S:Sto)(q:Nat)(es:List LP2)(g:Int)(ns:List Nd)(rows:List (Bool×Nat))(kvs:List (Key×D)):Prop:=∀x∈kvs,∃(r m:Nat)(pt e:LP2),x=(.inl (r:Int),.ref m)/\S[m]?=some (.lst (pt.map frD))/\Pk q pt/\es[r]?=some e/\Inb e pt g/\∀row∈rows,Mw pt ns row
theorem Sg.keep {S T:Sto}{q sg:Nat}{es:List LP2}{g:Int}{ns:List Nd}{rows:List (Bool×Nat)}{kvs kv:List (Key×D)}(h:Sg S q es g ns rows kvs)(hs:S[sg]?=some (.dck kv))(p:∀x o,x≠sg->S[x]?=some o->T[x]?=some o):Sg T q es g ns rows kvs:=λx hx=>by
 obtain⟨r,m,pt,e,a,b,c⟩:=h x hx;exact#[r,m,pt,e,a,p _ _ (λz=>by subst z;rw[hs] at b;cases b) b,c]
theorem MJ:∀n:Nat,YA (List.replicate n (D.bl true))=some (List.replicate n true)
 | 0=>rfl
 | n+1=>by
  show (YA (List.replicate n (D.bl true))).map _=_;rw[MJ n];rfl
theorem Dt (xs ys:List D):List.zipWith (λ_ _=>D.bl true) xs ys=List.replicate (min xs.length ys.length) (D.bl true):=by
 refine xV λi=>?_
 rw[wX,wG];by_cases h:i<xs.length
 .by_cases h':i<ys.length
  .rw[zD h,zD h',if_pos ()]
  .rw[yQ (show ys.length<=i by lia),if_neg ()];cases xs[i]?<;>rfl
 .rw[yQ (show xs.length<=i by lia),if_neg ()]
theorem F6 {g w top:Int}(hg:1<=g/\g<=1000000)(hw:1<=w/\w<=10000000)(zt:Sz 80 top):(1<=gdI top (g*w)/\Sz 45 (gdI top (g*w)))/\top/gdI top (g*w)*gdI top (g*w)=top/\g*w/gdI top (g*w)*gdI top (g*w)=g*w/\1<=g*w/gdI top (g*w)/\Sz 100 (top/gdI top (g*w))/\Sz 100 (g*w/gdI top (g*w)):=by
 have gw:1<=g*w/\g*w<=10000000000000:=by
  have a:1*1<=g*w:=xQ hg.1 hw.1 () ()
  have b:g*w<=1000000*10000000:=xQ hg.2 hw.2 () ();lia
 obtain⟨d1,d2,d3,d4⟩:=LY (a:=top) (b:=g*w) gw.1;have le:((Int.gcd top (g*w):Nat):Int)<=g*w:=by
  have:=uN () (xX (a:=top) (b:=g*w));exact this
 have zg:Sz 45 (g*w):=by
  generalize g*w=x at gw;exact Sz.of 10000000000000 ()
 have zd:Sz 45 ((Int.gcd top (g*w):Nat):Int):=by
  generalize ((Int.gcd top (g*w):Nat):Int)=y at d1 le;generalize g*w=x at gw le;exact Sz.of 10000000000000 ()
 refine#[#[d1,zd],d2,d3,d4,(zt.div d1).mono ⋯,(zg.div d1).mono ⋯]
theorem Cf {n:Nat}{S:Sto}{t:TDE}{dl:Ev}{Q:Bool->Sto->Prop}{xs:List D}(ht:∀K:DK,K (.ref n) S->t dl S K)(h:S[n]?=some (.lst xs))(hq:Q (!(!xs.isEmpty)) S):dNot (SR t) dl S Q:=JA (Q:=λk S'=>Q (!k) S') ht h hq
theorem NB (hB:0<B):0<((Int.gcd T B:Nat):Int)/\((Int.gcd T B:Nat):Int)<=B/\1<=B/((Int.gcd T B:Nat):Int)/\Int.gcd (T/((Int.gcd T B:Nat):Int)) (B/((Int.gcd T B:Nat):Int))=1/\(T/((Int.gcd T B:Nat):Int)).natAbs<=T.natAbs/\B/((Int.gcd T B:Nat):Int)<=B:=by
 obtain⟨f1,f2,f3,f4,f5,f6⟩:=Ig (T:=T) (B:=B) (d:=((Int.gcd T B:Nat):Int)) () (by rw[if_neg ()]);have e1:T/((Int.gcd T B:Nat):Int)=T.fdiv ((Int.gcd T B:Nat):Int):=(wK _ ()).symm
 have e2:B/((Int.gcd T B:Nat):Int)=B.fdiv ((Int.gcd T B:Nat):Int):=(wK _ ()).symm
 have s1:=Lh f1 f2
 have s2:=Lh f1 f3;rw[e1,e2];exact#[(),uN hB (xX ..),f4,f5,s1,()]
def Ptz (q:Nat)(bs:LP2)(g:Int)(S:Sto)(mp:Nat)(ps:List D):Prop:=∀d∈ps,∃(m:Nat)(pt:LP2),d=.ref m/\m≠mp/\S[m]?=some (.lst (pt.map frD))/\Pk q pt/\Inb bs pt g
theorem Ji {te:TDE}{tl th:TDO}{dl:Ev}{S:Sto}{Q:DK}{xs:List D}{b:Int}(he:∀K:DK,K (.tup xs) S->te dl S K)(hl:∀K:Option Int->Sto->Prop,K none S->tl dl S K)(hh:∀K:Option Int->Sto->Prop,K (some b) S->th dl S K)(h0:0<=b/\b<xs.length)(hq:Q (.tup (xs.take b.toNat)) S):Ua te tl th dl S Q:=by
 unfold Ua;exact he _ (hl _ (hh _ #[h0,hq]))
theorem F2 {te:TDE}{tl th:TDO}{dl:Ev}{S:Sto}{Q:DK}{xs:List D}{b:Int}(he:∀K:DK,K (.tup xs) S->te dl S K)(hl:∀K:Option Int->Sto->Prop,K (some b) S->tl dl S K)(hh:∀K:Option Int->Sto->Prop,K none S->th dl S K)(h0:1<=b/\b<=xs.length)(hq:Q (.tup (xs.drop b.toNat)) S):Ua te tl th dl S Q:=by
 unfold Ua;exact he _ (hl _ (hh _ #[h0,hq]))
structure Bi (K:Fg)(mg:Str->Option Value) where
 C:Addr
 m:mg "Book"=some (.ref C)
 cl:Cls K C
 n_fates:Yv K C "fates"
 n_boxes:Yv K C "boxes"
 makes:W.makesIn K C=true
 kp:W.keepIn K (.ref C)=true
structure II (K:Fg)(mg:Str->Option Value) where
 C:Addr
 m:mg "Number"=some (.ref C)
 cl:Cls K C
 n_bottom:Yv K C "bottom"
 n_top:Yv K C "top"
 makes:W.makesIn K C=true
 kp:W.keepIn K (.ref C)=true
structure JJ (K:Fg)(mg:Str->Option Value) where
 C:Addr
 m:mg "Unknown"=some (.ref C)
 cl:Cls K C
 n_place:Yv K C "place"
 makes:W.makesIn K C=true
 kp:W.keepIn K (.ref C)=true
structure Js (K:Fg)(mg:Str->Option Value) where
 C:Addr
 m:mg "Plus"=some (.ref C)
 cl:Cls K C
 n_other:Yv K C "other"
 n_one:Yv K C "one"
 makes:W.makesIn K C=true
 kp:W.keepIn K (.ref C)=true
structure Eo (K:Fg)(mg:Str->Option Value) where
 C:Addr
 m:mg "Minus"=some (.ref C)
 cl:Cls K C
 n_other:Yv K C "other"
 n_one:Yv K C "one"
 makes:W.makesIn K C=true
 kp:W.keepIn K (.ref C)=true
structure GF (K:Fg)(mg:Str->Option Value) where
 C:Addr
 m:mg "Times"=some (.ref C)
 cl:Cls K C
 n_other:Yv K C "other"
 n_one:Yv K C "one"
 makes:W.makesIn K C=true
 kp:W.keepIn K (.ref C)=true
structure AY (K:Fg)(mg:Str->Option Value) where
 C:Addr
 m:mg "Power"=some (.ref C)
 cl:Cls K C
 n_many:Yv K C "many"
 n_one:Yv K C "one"
 makes:W.makesIn K C=true
 kp:W.keepIn K (.ref C)=true
theorem Tr (P:Params):clA (kq P) "Book" 812:=clU (by kernel_rfl)
theorem SX (P:Params):clA (kq P) "Number" 319:=clU (by kernel_rfl)
theorem SG (P:Params):clA (kq P) "Unknown" 364:=clU (by kernel_rfl)
theorem TB (P:Params):clA (kq P) "Plus" 442:=clU (by kernel_rfl)
theorem RH (P:Params):clA (kq P) "Minus" 489:=clU (by kernel_rfl)
theorem S5 (P:Params):clA (kq P) "Times" 536:=clU (by kernel_rfl)
theorem SH (P:Params):clA (kq P) "Power" 581:=clU (by kernel_rfl)
class Ev5 where
 P:Program
 w:World
 mg:Str->Option Value
 h:Heap
 X:(kq w.params).In h
 G:h.Ns mainGlobals mg
 base:Heap
 kin:(kq w.params).In base
 bm:BM mg base
noncomputable abbrev Ev5.K (e:Ev5):Fg:=kq e.w.params
abbrev Fkz [e:Ev5] (k:Nat)(x:Str)(ps:List Str)(sd:Sd):=Fk e.P e.w e.K e.mg e.base k x ps sd
abbrev Fmz [e:Ev5] (k:Nat)(C:Addr)(x:Str)(ps:List Str)(sd:Sd):=Fm e.P e.w e.K e.mg e.base k C x ps sd
abbrev Dfz [e:Ev5] (x:Str)(st:Stmt)(ps:List Str):=Df e.K e.mg x st ps
abbrev Dmz [e:Ev5] (C:Addr)(x q:Str)(st:Stmt)(ps:List Str):=Dm e.K C x q st ps
noncomputable def Zt [e:Ev5]:Bi e.K e.mg:=#[812,W.mg_of e.X e.G (Tr e.w.params).1,clC (Tr e.w.params).2,noU,noU,(Tr e.w.params).2.2.2.2.2.1,(Tr e.w.params).2.2.2.2.2.2]
noncomputable def Yo [e:Ev5]:II e.K e.mg:=#[319,W.mg_of e.X e.G (SX e.w.params).1,clC (SX e.w.params).2,noU,noU,(SX e.w.params).2.2.2.2.2.1,(SX e.w.params).2.2.2.2.2.2]
noncomputable def Yw [e:Ev5]:JJ e.K e.mg:=#[364,W.mg_of e.X e.G (SG e.w.params).1,clC (SG e.w.params).2,noU,(SG e.w.params).2.2.2.2.2.1,(SG e.w.params).2.2.2.2.2.2]
noncomputable def Yt [e:Ev5]:Js e.K e.mg:=#[442,W.mg_of e.X e.G (TB e.w.params).1,clC (TB e.w.params).2,noU,noU,(TB e.w.params).2.2.2.2.2.1,(TB e.w.params).2.2.2.2.2.2]
noncomputable def Yq [e:Ev5]:Eo e.K e.mg:=#[489,W.mg_of e.X e.G (RH e.w.params).1,clC (RH e.w.params).2,noU,noU,(RH e.w.params).2.2.2.2.2.1,(RH e.w.params).2.2.2.2.2.2]
noncomputable def Yr [e:Ev5]:GF e.K e.mg:=#[536,W.mg_of e.X e.G (S5 e.w.params).1,clC (S5 e.w.params).2,noU,noU,(S5 e.w.params).2.2.2.2.2.1,(S5 e.w.params).2.2.2.2.2.2]
noncomputable def ZQ [e:Ev5]:AY e.K e.mg:=#[581,W.mg_of e.X e.G (SH e.w.params).1,clC (SH e.w.params).2,noU,noU,(SH e.w.params).2.2.2.2.2.1,(SH e.w.params).2.2.2.2.2.2]
theorem YE [e:Ev5]:e.mg "len"=none:=W.mg_none_of e.X e.G (by kernel_rfl)
theorem YY [e:Ev5]:e.mg "range"=none:=W.mg_none_of e.X e.G (by kernel_rfl)
theorem QM [e:Ev5]:e.mg "abs"=none:=W.mg_none_of e.X e.G (by kernel_rfl)
theorem XR [e:Ev5]:e.mg "min"=none:=W.mg_none_of e.X e.G (by kernel_rfl)
theorem VM [e:Ev5]:e.mg "list"=none:=W.mg_none_of e.X e.G (by kernel_rfl)
theorem V8 [e:Ev5]:e.mg "zip"=none:=W.mg_none_of e.X e.G (by kernel_rfl)
theorem Xp [e:Ev5]:e.mg "max"=none:=W.mg_none_of e.X e.G (by kernel_rfl)
theorem Wf [e:Ev5]:e.mg "enumerate"=none:=W.mg_none_of e.X e.G (by kernel_rfl)
theorem UN [e:Ev5]:e.mg "all"=none:=W.mg_none_of e.X e.G (by kernel_rfl)
theorem RJ [e:Ev5]:e.mg "sum"=none:=W.mg_none_of e.X e.G (by kernel_rfl)
noncomputable def dF [e:Ev5] {n:Str}{st:Stmt}{ps:List Str}(a:fnE e.K (W.nsIn e.K mainGlobals n) n n st:=by kernel_rfl)(b:Bn n n st ps:=by first|exact λ_ _ _ _ _ _=>ln1 λ_=>rfl|exact λ_ _ _ _ _ _=>ln2 λ_ _=>rfl|exact λ_ _ _ _ _ _=>ln3 λ_ _ _=>rfl|exact λ_ _ _ _ _ _=>ln4 λ_ _ _ _=>rfl|exact λ_ _ _ _ _ _=>ln5 λ_ _ _ _ _=>rfl|exact λ_ _ _ _ _ _=>ln6 λ_ _ _ _ _ _=>rfl):Dfz n st ps:=dfo e.X e.G a b
noncomputable def dM [e:Ev5] {C:Addr}{n q:Str}{st:Stmt}{ps:List Str}(a:fnE e.K (W.findIn e.K (.ref C) n) n q st:=by kernel_rfl)(b:Bn n q st ps:=by first|exact λ_ _ _ _ _ _=>ln1 λ_=>rfl|exact λ_ _ _ _ _ _=>ln2 λ_ _=>rfl|exact λ_ _ _ _ _ _=>ln3 λ_ _ _=>rfl|exact λ_ _ _ _ _ _=>ln4 λ_ _ _ _=>rfl|exact λ_ _ _ _ _ _=>ln5 λ_ _ _ _ _=>rfl|exact λ_ _ _ _ _ _=>ln6 λ_ _ _ _ _ _=>rfl):Dmz C n q st ps:=dmo a b
noncomputable abbrev Nd.oz [Ev5] (v:Nd):Ob:=v.ob Yo.C Yw.C Yt.C Yq.C Yr.C ZQ.C
structure Pr [e:Ev5] (C:Addr)(c:Int->Int->Nd):Prop where
 cl:Cls e.K C
 o:Yv e.K C "one"
 t:Yv e.K C "other"
 b:∀i j,(c i j).oz=.ins C [("one",.int i),("other",.int j)]
 k:∀m q i j,(c i j).ok m q=(inR m i/\inR m j)
theorem QS [Ev5]:Pr Yt.C .plus:=#[Yt.cl,Yt.n_one,Yt.n_other,λ_ _=>rfl,λ_ _ _ _=>rfl]
theorem Pc [Ev5]:Pr Yq.C .minus:=#[Yq.cl,Yq.n_one,Yq.n_other,λ_ _=>rfl,λ_ _ _ _=>rfl]
theorem P7 [Ev5]:Pr Yr.C .times:=#[Yr.cl,Yr.n_one,Yr.n_other,λ_ _=>rfl,λ_ _ _ _=>rfl]
structure A3 (a0 a1 a2:Prop):Prop where
 p0:a0
 p1:a1
 p2:a2
structure A4 (a0 a1 a2 a3:Prop):Prop where
 p0:a0
 p1:a1
 p2:a2
 p3:a3
structure A5 (a0 a1 a2 a3 a4:Prop):Prop where
 p0:a0
 p1:a1
 p2:a2
 p3:a3
 p4:a4
structure A6 (a0 a1 a2 a3 a4 a5:Prop):Prop where
 p0:a0
 p1:a1
 p2:a2
 p3:a3
 p4:a4
 p5:a5
structure A7 (a0 a1 a2 a3 a4 a5 a6:Prop):Prop where
 p0:a0
 p1:a1
 p2:a2
 p3:a3
 p4:a4
 p5:a5
 p6:a6
structure A8 (a0 a1 a2 a3 a4 a5 a6 a7:Prop):Prop where
 p0:a0
 p1:a1
 p2:a2
 p3:a3
 p4:a4
 p5:a5
 p6:a6
 p7:a7
structure A9 (a0 a1 a2 a3 a4 a5 a6 a7 a8:Prop):Prop where
 p0:a0
 p1:a1
 p2:a2
 p3:a3
 p4:a4
 p5:a5
 p6:a6
 p7:a7
 p8:a8
structure A10 (a0 a1 a2 a3 a4 a5 a6 a7 a8 a9:Prop):Prop where
 p0:a0
 p1:a1
 p2:a2
 p3:a3
 p4:a4
 p5:a5
 p6:a6
 p7:a7
 p8:a8
 p9:a9
structure A11 (a0 a1 a2 a3 a4 a5 a6 a7 a8 a9 a10:Prop):Prop where
 p0:a0
 p1:a1
 p2:a2
 p3:a3
 p4:a4
 p5:a5
 p6:a6
 p7:a7
 p8:a8
 p9:a9
 p10:a10
structure A12 (a0 a1 a2 a3 a4 a5 a6 a7 a8 a9 a10 a11:Prop):Prop where
 p0:a0
 p1:a1
 p2:a2
 p3:a3
 p4:a4
 p5:a5
 p6:a6
 p7:a7
 p8:a8
 p9:a9
 p10:a10
 p11:a11
structure A13 (a0 a1 a2 a3 a4 a5 a6 a7 a8 a9 a10 a11 a12:Prop):Prop where
 p0:a0
 p1:a1
 p2:a2
 p3:a3
 p4:a4
 p5:a5
 p6:a6
 p7:a7
 p8:a8
 p9:a9
 p10:a10
 p11:a11
 p12:a12
structure A14 (a0 a1 a2 a3 a4 a5 a6 a7 a8 a9 a10 a11 a12 a13:Prop):Prop where
 p0:a0
 p1:a1
 p2:a2
 p3:a3
 p4:a4
 p5:a5
 p6:a6
 p7:a7
 p8:a8
 p9:a9
 p10:a10
 p11:a11
 p12:a12
 p13:a13
structure A16 (a0 a1 a2 a3 a4 a5 a6 a7 a8 a9 a10 a11 a12 a13 a14 a15:Prop):Prop where
 p0:a0
 p1:a1
 p2:a2
 p3:a3
 p4:a4
 p5:a5
 p6:a6
 p7:a7
 p8:a8
 p9:a9
 p10:a10
 p11:a11
 p12:a12
 p13:a13
 p14:a14
 p15:a15
structure A17 (a0 a1 a2 a3 a4 a5 a6 a7 a8 a9 a10 a11 a12 a13 a14 a15 a16:Prop):Prop where
 p0:a0
 p1:a1
 p2:a2
 p3:a3
 p4:a4
 p5:a5
 p6:a6
 p7:a7
 p8:a8
 p9:a9
 p10:a10
 p11:a11
 p12:a12
 p13:a13
 p14:a14
 p15:a15
 p16:a16
inductive E2 {α0 α1:Type}(p:α0->α1->Prop):Prop
 | mk (x0:α0) (x1:α1) (h:p x0 x1)
inductive E3 {α0 α1 α2:Type}(p:α0->α1->α2->Prop):Prop
 | mk (x0:α0) (x1:α1) (x2:α2) (h:p x0 x1 x2)
inductive E4 {α0 α1 α2 α3:Type}(p:α0->α1->α2->α3->Prop):Prop
 | mk (x0:α0) (x1:α1) (x2:α2) (x3:α3) (h:p x0 x1 x2 x3)
inductive E5 {α0 α1 α2 α3 α4:Type}(p:α0->α1->α2->α3->α4->Prop):Prop
 | mk (x0:α0) (x1:α1) (x2:α2) (x3:α3) (x4:α4) (h:p x0 x1 x2 x3 x4)
inductive E6 {α0 α1 α2 α3 α4 α5:Type}(p:α0->α1->α2->α3->α4->α5->Prop):Prop
 | mk (x0:α0) (x1:α1) (x2:α2) (x3:α3) (x4:α4) (x5:α5) (h:p x0 x1 x2 x3 x4 x5)
inductive E7 {α0 α1 α2 α3 α4 α5 α6:Type}(p:α0->α1->α2->α3->α4->α5->α6->Prop):Prop
 | mk (x0:α0) (x1:α1) (x2:α2) (x3:α3) (x4:α4) (x5:α5) (x6:α6) (h:p x0 x1 x2 x3 x4 x5 x6)
inductive E8 {α0 α1 α2 α3 α4 α5 α6 α7:Type}(p:α0->α1->α2->α3->α4->α5->α6->α7->Prop):Prop
 | mk (x0:α0) (x1:α1) (x2:α2) (x3:α3) (x4:α4) (x5:α5) (x6:α6) (x7:α7) (h:p x0 x1 x2 x3 x4 x5 x6 x7)
inductive E11 {α0 α1 α2 α3 α4 α5 α6 α7 α8 α9 α10:Type}(p:α0->α1->α2->α3->α4->α5->α6->α7->α8->α9->α10->Prop):Prop
 | mk (x0:α0) (x1:α1) (x2:α2) (x3:α3) (x4:α4) (x5:α5) (x6:α6) (x7:α7) (x8:α8) (x9:α9) (x10:α10) (h:p x0 x1 x2 x3 x4 x5 x6 x7 x8 x9 x10)
inductive E12 {α0 α1 α2 α3 α4 α5 α6 α7 α8 α9 α10 α11:Type}(p:α0->α1->α2->α3->α4->α5->α6->α7->α8->α9->α10->α11->Prop):Prop
 | mk (x0:α0) (x1:α1) (x2:α2) (x3:α3) (x4:α4) (x5:α5) (x6:α6) (x7:α7) (x8:α8) (x9:α9) (x10:α10) (x11:α11) (h:p x0 x1 x2 x3 x4 x5 x6 x7 x8 x9 x10 x11)
inductive E14 {α0 α1 α2 α3 α4 α5 α6 α7 α8 α9 α10 α11 α12 α13:Type}(p:α0->α1->α2->α3->α4->α5->α6->α7->α8->α9->α10->α11->α12->α13->Prop):Prop
 | mk (x0:α0) (x1:α1) (x2:α2) (x3:α3) (x4:α4) (x5:α5) (x6:α6) (x7:α7) (x8:α8) (x9:α9) (x10:α10) (x11:α11) (x12:α12) (x13:α13) (h:p x0 x1 x2 x3 x4 x5 x6 x7 x8 x9 x10 x11 x12 x13)
def aN (p:Prop):List D->Prop
 | []=>p
 | _=>False
theorem T8 {p:Prop}:∀ {ds:List D},aN p ds->ds=[]/\p
 | [],h=>#[rfl,h]
 | _::_,h=>h.elim
theorem nN {p:Prop}{ds:List D}(h:aN p ds):ds.length=0:=by rw[(T8 h).1];rfl
def aR (f:Nat->List D->Prop):List D->Prop
 | .ref a::r=>f a r
 | _=>False
theorem aR_e {f:Nat->List D->Prop}{ds:List D}(h:aR f ds):∃a r,ds=.ref a::r/\f a r:=by
 match ds,h with
 | .ref a::r,h=>exact#[a,r,rfl,h]
theorem nR {f:Nat->List D->Prop}{n:Nat}(k:∀a {r:List D},f a r->r.length=n){ds:List D}(h:aR f ds):ds.length=n+1:=by
 obtain⟨a,r,rfl,h⟩:=aR_e h;rw[yE,k a h]
def aI (f:Int->List D->Prop):List D->Prop
 | .int a::r=>f a r
 | _=>False
theorem aI_e {f:Int->List D->Prop}{ds:List D}(h:aI f ds):∃a r,ds=.int a::r/\f a r:=by
 match ds,h with
 | .int a::r,h=>exact#[a,r,rfl,h]
theorem nI {f:Int->List D->Prop}{n:Nat}(k:∀a {r:List D},f a r->r.length=n){ds:List D}(h:aI f ds):ds.length=n+1:=by
 obtain⟨a,r,rfl,h⟩:=aI_e h;rw[yE,k a h]
def aS (f:Str->List D->Prop):List D->Prop
 | .str a::r=>f a r
 | _=>False
theorem aS_e {f:Str->List D->Prop}{ds:List D}(h:aS f ds):∃a r,ds=.str a::r/\f a r:=by
 match ds,h with
 | .str a::r,h=>exact#[a,r,rfl,h]
theorem nS {f:Str->List D->Prop}{n:Nat}(k:∀a {r:List D},f a r->r.length=n){ds:List D}(h:aS f ds):ds.length=n+1:=by
 obtain⟨a,r,rfl,h⟩:=aS_e h;rw[yE,k a h]
def aB (f:Bool->List D->Prop):List D->Prop
 | .bl a::r=>f a r
 | _=>False
theorem aB_e {f:Bool->List D->Prop}{ds:List D}(h:aB f ds):∃a r,ds=.bl a::r/\f a r:=by
 match ds,h with
 | .bl a::r,h=>exact#[a,r,rfl,h]
theorem nB {f:Bool->List D->Prop}{n:Nat}(k:∀a {r:List D},f a r->r.length=n){ds:List D}(h:aB f ds):ds.length=n+1:=by
 obtain⟨a,r,rfl,h⟩:=aB_e h;rw[yE,k a h]
def aP (f:Int->Int->List D->Prop):List D->Prop
 | .tup [.int a,.int b]::r=>f a b r
 | _=>False
theorem aP_e {f:Int->Int->List D->Prop}{ds:List D}(h:aP f ds):∃a b r,ds=.tup [.int a,.int b]::r/\f a b r:=by
 match ds,h with
 | .tup [.int a,.int b]::r,h=>exact#[a,b,r,rfl,h]
theorem nP {f:Int->Int->List D->Prop}{n:Nat}(k:∀a b {r:List D},f a b r->r.length=n){ds:List D}(h:aP f ds):ds.length=n+1:=by
 obtain⟨a,b,r,rfl,h⟩:=aP_e h;rw[yE,k a b h]
def aT (f:Str->Int->List D->Prop):List D->Prop
 | .tup [.str a,.int b]::r=>f a b r
 | _=>False
theorem aT_e {f:Str->Int->List D->Prop}{ds:List D}(h:aT f ds):∃a b r,ds=.tup [.str a,.int b]::r/\f a b r:=by
 match ds,h with
 | .tup [.str a,.int b]::r,h=>exact#[a,b,r,rfl,h]
theorem nT {f:Str->Int->List D->Prop}{n:Nat}(k:∀a b {r:List D},f a b r->r.length=n){ds:List D}(h:aT f ds):ds.length=n+1:=by
 obtain⟨a,b,r,rfl,h⟩:=aT_e h;rw[yE,k a b h]
def aD (f:D->List D->Prop):List D->Prop
 | a::r=>f a r
 | []=>False
theorem aD_e {f:D->List D->Prop}:∀ {ds:List D},aD f ds->∃a r,ds=a::r/\f a r
 | a::r,h=>#[a,r,rfl,h]
 | [],h=>h.elim
theorem nD {f:D->List D->Prop}{n:Nat}(k:∀a {r:List D},f a r->r.length=n){ds:List D}(h:aD f ds):ds.length=n+1:=by
 obtain⟨a,r,rfl,h⟩:=aD_e h;rw[yE,k a h]
theorem eD {f:D->Prop}{ds:List D}(h:(aD λa0=>aN (f a0)) ds):∃a0,ds=[a0]/\f a0:=by
 obtain⟨a0,_,e0,h⟩:=aD_e h;obtain⟨e,h⟩:=T8 h;exact#[a0,by rw[e0,e],h]
theorem eR {f:Nat->Prop}{ds:List D}(h:(aR λa0=>aN (f a0)) ds):∃a0,ds=[.ref a0]/\f a0:=by
 obtain⟨a0,_,e0,h⟩:=aR_e h;obtain⟨e,h⟩:=T8 h;exact#[a0,by rw[e0,e],h]
abbrev Gg (g:Int):Prop:=1<=g/\g<=1000000
theorem rmn {j k:Nat}{A:Around}(r:ZI k A)(h:j<=k:=by decide):ZI j A:=r.mono h
theorem piv {X:Cx}{Z:Zx}(i:Nat){x:Str}{n:Int}{j p q p2}(h:PD X Z (.Name x p) (Xj i):=by exact dv _)(hs:Ui (.Constant (.int n) j q):=by exact λ_ _=>rfl):PD X Z (.Subscript (.Name x p) (.Constant (.int n) j q) p2) (dOp wIx (Xj i) (dC (.int n))):=Xd h Zb hs
theorem pt0 {Y:List (Str×Addr)->Addr->Shared->Hp->List Addr->LA->Cx}(a b c d e f):Wi (Y a b c d e f) [] YX:=Eg
abbrev sR (n:Nat):Option D:=some (.ref n)
abbrev sI (n:Int):Option D:=some (.int n)
abbrev La (S:Sto)(n:Nat)(xs:List D):Prop:=S[n]?=some (.lst xs)
abbrev mSx (f:Sto->DK->(Addr->Sto->Prop)->List D->Prop):Sd:=λds S Q ex=>f S Q ex ds
def K7:Sd:=mSx λS Q ex=>aI λc=>aN (0<=c/\∀g:Int,1<=g->g<=1000000->Q (.int g) S)
def FF:Sd:=mSx λS Q ex=>aR λn=>aI λk=>aN (∃ns:List Int,A3 (S[n]?=some (.frz (ns.map D.int))) (0<=k/\k<=1000) (∀c:Int,(0<=c/\c<2147483629)->Q (.int c) S))
def zaj:Sd:=mSx λS Q ex=>aR λn=>aI λu=>aN (E2 λ(ns:List Int)(q:Nat)=>A4 (S[n]?=some (.frz (ns.map D.int))) (u=(q:Int)) (1<=q/\q<=4) (∀bs:LI,bs.length=q->Spn 51 bs->Q (.ref S.length) (S++[.lst (bs.map frD)])))
def DF:Sd:=mSx λS Q ex=>aI λc=>aI λm=>aN ((0<=c/\c<2147483629/\1<=m/\m<=60)/\∀v:Nd,(∀q:Int,v.ok m q)->Q v.d S)
def El:Sd:=mSx λS Q ex=>aD λd=>aR λn=>aN (E3 λ(v:Nd)(ws:List Nat)(q:Int)=>A5 (d=v.d) (S[n]?=some (Ob.lst (ws.map wtD))) (v.ok ws.length q) (∀i:Int,inR ws.length i->ws.getD i.toNat 0<=16) (Q (.int (v.wt ws:Nat)) S))
def K4:Sd:=mSx λS Q ex=>aR λc=>aI λq=>aN (E2 λ(cs:List D)(qn:Nat)=>A6 (La S c cs) (∀x∈cs,∃i:Int,x=.int i/\0<=i/\i<2147483629) (q=qn) (1<=qn/\qn<=4) (cs.length<=20) (∀(ns:List Nd)(ws:List Nat)(T:Sto)(m:Nat),ZF qn ns ws->1<=ns.length->ns.length<=24->Pre S T->S.length<=m->La T m (ns.map Nd.d)->Q (.ref m) T))
def Ad:Sd:=mSx λS Q ex=>aI λa=>aI λb=>aN (Q (.int ((Int.gcd a b:Nat):Int)) S)
def Ju:Sd:=mSx λS Q ex=>aI λx=>aI λn=>aN ((0<=n/\n<=6/\Sz 2000 x)/\Q (.int (x^n.toNat)) S)
def F8:Sd:=mSx λS Q ex=>aR λa=>aR λb=>aN (∃(ns:List Nd)(ws:List Nat)(ps:LI),La S a (ns.map Nd.d)/\La S b (ps.map frD)/\ZF ps.length ns ws/\Pz 110 ps/\ns.length<=70/\∀(T:Sto)(m:Nat),Pre S T->S.length<=m->La T m ((Zq ps ns).map frD)->Q (.ref m) T)
def Ib:Sd:=mSx λS Q ex=>aR λa=>aD λd=>aN (E4 λ(q:Nat)(v:Nd)(ns:List Nd)(ws:List Nat)=>A7 (d=v.d) (La S a (ns.map Nd.d)) (ns.length<900) (ZF q ns ws) (v.ok ns.length q) (v.wt ws<=16) (∀(T:Sto)(j:Nat)(ns':List Nd)(ws':List Nat),Gr q a 1 S ns ws T ns' ws'->j<ns'.length->ns'[j]?=some v->ws'.getD j 0=v.wt ws->(∀P,gt (Zq P ns') (j:Int)=v.due (Zq P ns) P)->Q (.int (j:Int)) T))
def Bb:Sd:=mSx λS Q ex=>aR λa=>aN (∃(ns:List Nd)(ws:List Nat)(q:Int),La S a (ns.map Nd.d)/\ZF q ns ws/\ns.length<=70/\∀T:Sto,Pre S T->La T S.length (ws.map wtD)->Q (.ref S.length) T)
def JL:Sd:=mSx λS Q ex=>aR λa=>aR λb=>aI λg=>aI λc=>aI λpl=>aN (E4 λ(q:Nat)(ns:List Nd)(ws:List Nat)(bs:LI)=>A11 (La S a (ns.map Nd.d)) (La S b (bs.map frD)) (ZF q ns ws) (bs.length=q) (q<=4) (Spn 51 bs) (Gg g) (0<=c) (0<=pl) (1<=ns.length/\ns.length<=60) (∀(T:Sto)(ns':List Nd)(ws':List Nat)(r:Bool×Nat),Gr q a 2 S ns ws T ns' ws'->r.2<ns'.length->Q (rwD r) T))
def zar:Sd:=mSx λS Q ex=>aR λn=>aR λa=>aR λb=>aI λg=>aN (E5 λ(q:Nat)(xs:List Int)(ns:List Nd)(ws:List Nat)(bs:LI)=>A11 (S[n]?=some (.frz (xs.map D.int))) (La S a (ns.map Nd.d)) (La S b (bs.map frD)) (a≠b) (ZF q ns ws) (bs.length=q) (q<=4) (Spn 51 bs) (Gg g) (1<=ns.length/\ns.length<=50) (∀(T:Sto)(m:Nat)(ns':List Nd)(ws':List Nat)(rows:List (Bool×Nat)),Gr q a 6 S ns ws T ns' ws'->rows.length<=3->(∀r∈rows,r.2<ns'.length)->S.length<=m->La T m (rows.map rwD)->Q (.ref m) T))
def Jq:Sd:=mSx λS Q ex=>aR λn=>aN (∃ns:List Int,A3 (S[n]?=some (.frz (ns.map D.int))) (ns.length<=1000) (∀(T:Sto)(q m mr mx:Nat)(g fine looks:Int)(vs:List Nd)(ws:List Nat)(rows:List (Bool×Nat))(bs:LP2),Pre S T->Sr T m mr g vs ws rows q->La T mx (bs.map frD)->bs.length=q->Spn 51 bs->1<=fine->(0<=looks/\looks<=8)->Q (.tup [.ref m,.ref mr,.ref mx,.int g,.int fine,.int looks]) T))
def Jj [Ev5]:Sd:=mSx λS Q ex=>aR λn=>aR λx=>aN (E2 λ(T:Sto)(b0:LI)=>A4 (S=T++[.ins Zt.C []]) (n=T.length) (La T x (b0.map frD)) (∀(U:Sto)(a b:Nat),T.length<a->T.length<b->Pre T U->Bk Zt.C U n a b [b0] [.wait]->Q .non U))
def Dl [Ev5]:Sd:=mSx λS Q ex=>aR λn=>aN (E4 λ(a b:Nat)(es:List LI)(fs:List Ft)=>A3 (Bk Zt.C S n a b es fs) (es.length<=900) (∀(T:Sto)(ds:List D),Pre S T->La T S.length ds->En T ds es fs->Q (.ref S.length) T))
def FX:Sd:=mSx λS Q ex=>aP λa b=>aN (Q (.int (b-a)) S)
def HM:Sd:=mSx λS Q ex=>aR λn=>aN (∃bs:LI,A3 (La S n (bs.map frD)) (bs.length<=900) (Q (.ref S.length) (S++[.lst ((bs.map wd).map D.int)])))
def Kj:Sd:=mSx λS Q ex=>aR λn=>aN (∃bs:LI,A3 (La S n (bs.map frD)) (bs.length<=900) (∀(m:Int)(T:Sto),Pre S T->Wst bs m->Q (.int m) T))
def Lr [Ev5]:Sd:=mSx λS Q ex=>aR λn=>aN (E5 λ(a b t:Nat)(es:List LI)(fs:List Ft)=>A6 (Bk Zt.C S n a b es fs) (S[t]?=some (.cod LT LP LQ)) (es.length<=900) (∀e∈es,e.length<=900) ((∀f∈fs,f≠.wait)->∀T:Sto,Pre S T->Q .non T) (∀(i:Nat)(T:Sto),fs[i]?=some .wait->Pre S T->Q (.int (i:Int)) T))
def JF:Sd:=mSx λS Q ex=>aS λw=>aP λa b=>aN ((w="zero"/\Q (.bl (decide (0<a)||decide (b<0))) S)\/(w="least"/\Q (.bl (decide (b<0))) S))
def Kr:Sd:=mSx λS Q ex=>aP λa b=>aP λc d=>aN ((IntMulOk a d/\IntMulOk c b)/\Q (.bl (decide (a*d<c*b))) S)
def Gf:Sd:=mSx λS Q ex=>aI λt=>aI λb=>aN (CFd 0 b/\Q (.int (-(-t/b))) S)
def Jb:Sd:=mSx λS Q ex=>aP λa b=>aP λc d=>aI λg=>aN (((IntMulOk c b/\IntMulOk a d)/\¬ c*b<a*d/\IntMulOk a g/\IntMulOk c g/\CFd 0 b/\CFd 0 d)/\Q (.tup [.int (a*g/b),.int (-(-(c*g)/d))]) S)
abbrev V5 [Ev5] (S:Sto)(Q:DK)(n:Nat)(w:Nat)(p:Nat)(g:Int)(v:Nd):Prop:=∃(vs bs:LI),S[n]?=some (Nd.oz v)/\La S w (vs.map frD)/\La S p (bs.map frD)/\Nd.ok vs.length bs.length v/\Spn 1400 vs/\(Gg g)/\Q (frD (Nd.fw vs bs g v)) S
def NG [Ev5]:Sd:=mSx λS Q ex=>aR λn=>aR λw=>aR λp=>aI λg=>aN (∃(x y:Int),V5 S Q n w p g (Nd.number x y))
def NN [Ev5]:Sd:=mSx λS Q ex=>aR λn=>aR λw=>aR λp=>aI λg=>aN (∃(k:Int),V5 S Q n w p g (Nd.unknown k))
def JX:Sd:=mSx λS Q ex=>aP λa b=>aP λc d=>aN (Q (.tup [.int (a+c),.int (b+d)]) S)
def MA [Ev5]:Sd:=mSx λS Q ex=>aR λn=>aR λw=>aR λp=>aI λg=>aN (∃(i j:Int),V5 S Q n w p g (Nd.plus i j))
def Jz:Sd:=mSx λS Q ex=>aP λa b=>aP λc d=>aN (Q (.tup [.int (a-d),.int (b-c)]) S)
def Nf [Ev5]:Sd:=mSx λS Q ex=>aR λn=>aR λw=>aR λp=>aI λg=>aN (∃(i j:Int),V5 S Q n w p g (Nd.minus i j))
def Fs:Sd:=mSx λS Q ex=>aP λa b=>aP λc d=>aI λg=>aN (((IntMulOk a c/\IntMulOk a d/\IntMulOk b c/\IntMulOk b d)/\CFd 0 g)/\∀mn mx:Int,VY a b c d mn mx->Q (.tup [.int (mn/g),.int (-(-mx/g))]) S)
def N5 [Ev5]:Sd:=mSx λS Q ex=>aR λn=>aR λw=>aR λp=>aI λg=>aN (∃(i j:Int),V5 S Q n w p g (Nd.times i j))
def Qq:Sd:=mSx λS Q ex=>aI λx=>aI λn=>aN ((0<=n/\n<=6/\Sz 2000 x)/\Q (.int (x^n.toNat)) S)
def DA:Sd:=mSx λS Q ex=>aP λa b=>aI λn=>aI λg=>aN ((1<=n/\n<=6/\Sz 1400 a/\Sz 1400 b/\1<=g/\Sz 1400 g)/\∀m M:Int,WX a b n.toNat m M->Q (.tup [.int (m/g^(n.toNat-1)),.int (-(-M/g^(n.toNat-1)))]) S)
def Nr [Ev5]:Sd:=mSx λS Q ex=>aR λn=>aR λw=>aR λp=>aI λg=>aN (∃(i m:Int),V5 S Q n w p g (Nd.power i m))
def V7 (C:Addr)(a b:Str):Sd:=mSx λS Q ex=>aR λn=>aD λx=>aD λy=>aN (∃T:Sto,S=T++[.ins C []]/\n=T.length/\Q .non (T++[.ins C [(a,x),(b,y)]]))
abbrev Aa [Ev5]:=V7 ZQ.C "one" "many"
abbrev zan [Ev5]:=V7 Yo.C "top" "bottom"
def Cs [Ev5]:Sd:=mSx λS Q ex=>aR λn=>aD λx=>aN (∃T:Sto,S=T++[.ins Yw.C []]/\n=T.length/\Q .non (T++[.ins Yw.C [("place",x)]]))
abbrev zas [Ev5]:=V7 Yt.C "one" "other"
abbrev zaw [Ev5]:=V7 Yq.C "one" "other"
abbrev zat [Ev5]:=V7 Yr.C "one" "other"
def JK [Ev5]:Sd:=mSx λS Q ex=>aD λd=>aN (∃v:Nd,d=v.d/\Q (.ref S.length) (S++[v.oz]))
def F7:Sd:=mSx λS Q ex=>aR λa=>aR λb=>aI λg=>aN (∃(ns:List Nd)(ws:List Nat)(bs:LI),La S a (ns.map Nd.d)/\La S b (bs.map frD)/\ZF bs.length ns ws/\Spn 51 bs/\(Gg g)/\ns.length<=70/\∀(T:Sto)(m:Nat),Pre S T->S.length<=m->La T m ((Zp bs g ns).map frD)->Q (.ref m) T)
def KU:Sd:=mSx λS Q ex=>aR λa=>aT λw k=>aR λb=>aI λg=>aN (E4 λ(ns:List Nd)(ws:List Nat)(bs:LI)(zero:Bool)=>A9 (La S a (ns.map Nd.d)) (La S b (bs.map frD)) (rwW zero w) (inR ns.length k) (ZF bs.length ns ws) (Spn 51 bs) (Gg g) (ns.length<=70) (∀T:Sto,Pre S T->Q (.bl (ibS ns zero k.toNat bs g)) T))
def HX:Sd:=mSx λS Q ex=>aP λa b=>aP λc d=>aN ((VV (a,b) (c,d)=none->Q .non S)/\∀p,VV (a,b) (c,d)=some p->Q (frD p) S)
def CT:Sd:=mSx λS Q ex=>aS λw=>aP λa b=>aN (∃zero:Bool,rwW zero w/\(Q .non S/\∀c d:Int,Le (a,b) c d->Q (.tup [.int c,.int d]) S))
abbrev Sv [Ev5] (S:Sto)(Q:DK)(n:Nat)(w:Nat)(z0 z1:Int)(g:Int)(v:Nd):Prop:=∃(vs:LI)(q:Int),S[n]?=some (Nd.oz v)/\La S w (vs.map frD)/\Nd.ok vs.length q v/\(Bd 1000 vs/\(Sz 1000 z0/\Sz 1000 z1)/\(Gg g))/\Q .non S/\∀l,Ptw vs.length l->Q (.ref S.length) (S++[.lst (l.map ptD)])
def LC [Ev5]:Sd:=mSx λS Q ex=>aR λn=>aR λw=>aP λz0 z1=>aI λg=>aN (∃(x y:Int),Sv S Q n w z0 z1 g (Nd.number x y))
def Ov [Ev5]:Sd:=mSx λS Q ex=>aR λn=>aR λw=>aP λz0 z1=>aI λg=>aN (∃(k:Int),Sv S Q n w z0 z1 g (Nd.unknown k))
def Sk:Sd:=mSx λS Q ex=>aR λx_0=>aP λz0 z1=>aP λx0 x1=>aP λy0 y1=>aI λg=>aN ((Sz 1100 z0/\Sz 1100 z1/\Sz 1100 y0/\Sz 1100 y1/\Sz 30 g)/\(Q .non S/\∀a b:Int,Le (x0,x1) a b->Q (.tup [.int a,.int b]) S))
def TU:Sd:=mSx λS Q ex=>aR λx_0=>aP λz0 z1=>aP λx0 x1=>aP λy0 y1=>aI λg=>aN ((Sz 1100 z0/\Sz 1100 z1/\Sz 1100 x0/\Sz 1100 x1/\Sz 30 g)/\(Q .non S/\∀a b:Int,Le (y0,y1) a b->Q (.tup [.int a,.int b]) S))
def Rw [Ev5] (c:Int->Int->Nd):Sd:=mSx λS Q ex=>aR λn=>aR λw=>aP λz0 z1=>aI λg=>aN (∃(i j:Int),Sv S Q n w z0 z1 g (c i j))
abbrev Ka [Ev5]:=Rw .plus
abbrev Kl:=Sk
abbrev KQ:=TU
abbrev DR [Ev5]:=Rw .minus
def IG:Sd:=mSx λS Q ex=>aP λa b=>aN (Q (.bl (decide (a<=0)&&decide (0<=b))) S)
def HF:Sd:=mSx λS Q ex=>aP λx0 x1=>aP λl0 l1=>aP λh0 h1=>aN ((l0<=l1/\h0<=h1)/\(Q .non S/\∀a b:Int,Le (x0,x1) a b->Q (.tup [.int a,.int b]) S))
def Ii:Sd:=mSx λS Q ex=>aI λt=>aI λb=>aN (CFd 0 b/\Q (.tup [.int (t/b),.int (-(-t/b))]) S)
def HK:Sd:=mSx λS Q ex=>aP λlo hi=>aP λx0 x1=>aP λc d=>aN ((0<=c/\0<d/\Sz 1400 c/\Sz 1400 d)/\(Q .non S/\∀a b:Int,Le (x0,x1) a b->Q (.tup [.int a,.int b]) S))
def AH:Sd:=mSx λS Q ex=>aP λa b=>aP λc d=>aN (Q (.tup [.int (if c<a then c else a),.int (if d > b then d else b)]) S)
def jnP (S:Sto)(Q:DK)(y:D):D->Prop
 | .non=>Q y S
 | .tup [.int a,.int b]=>(match y with
  | .non=>Q (.tup [.int a,.int b]) S
  | .tup [.int c,.int d]=>Q (.tup [.int (if c<a then c else a),.int (if d > b then d else b)]) S
  | _=>False)
 | _=>False
def E0:Sd:=mSx λS Q ex=>aD λx=>aD λy=>aN (jnP S Q y x)
def Q8:Sd:=mSx λS Q ex=>aP λa b=>aN (Q (.tup [.int (-b),.int (-a)]) S)
def IQ:Sd:=mSx λS Q ex=>aP λz0 z1=>aP λx0 x1=>aP λy0 y1=>aI λg=>aN ((Sz 1100 z0/\Sz 1100 z1/\Sz 1100 y0/\Sz 1100 y1/\Sz 30 g)/\(Q .non S/\∀a b:Int,Le (x0,x1) a b->Q (.tup [.int a,.int b]) S))
abbrev ET:=Sk
abbrev Ku:=TU
abbrev F1 [Ev5]:=Rw .times
def JG:Sd:=mSx λS Q ex=>aI λg=>aI λN=>aI λn=>aN ((2<=n/\n<=6/\0<g/\Sz 800 g)/\Q (.int (((n-1)*g+N/g^(n-1).toNat)/n)) S)
def RS:Sd:=mSx λS Q ex=>aI λN=>aI λn=>aN ((2<=n/\n<=6/\0<=N/\Sz 1300 N)/\∀r:Int,0<=r->Sz 800 r->Q (.int r) S)
def UY:Sd:=λds S Q ex=>match ds with
 | [.int N,.int n]=>(2<=n/\n<=6/\0<=N/\Sz 1300 N)/\∀a b:Int,a<=b->Q (.tup [.int a,.int b]) S
 | _=>False
theorem Cq:Ln (UY) 2:=λds S Q ex h=>by unfold UY at h;split at h<;>first|rfl|exact h.elim
def Ta:Sd:=λds S Q ex=>match ds with
 | [.int N,.int n]=>(2<=n/\n<=6/\Sz 1300 N)/\∀a b:Int,a<=b->Q (.tup [.int a,.int b]) S
 | _=>False
theorem HP:Ln (Ta) 2:=λds S Q ex h=>by unfold Ta at h;split at h<;>first|rfl|exact h.elim
def Iz:Sd:=mSx λS Q ex=>aP λz0 z1=>aP λx0 x1=>aI λn=>aI λg=>aN ((2<=n/\n<=6/\Sz 30 g/\Sz 1100 z0/\Sz 1100 z1)/\(Q .non S/\∀a b:Int,Le (x0,x1) a b->Q (.tup [.int a,.int b]) S))
def OF [Ev5]:Sd:=mSx λS Q ex=>aR λn=>aR λw=>aP λz0 z1=>aI λg=>aN (∃(i m:Int),Sv S Q n w z0 z1 g (Nd.power i m))
def Ej:Sd:=mSx λS Q ex=>aR λa=>aT λw k=>aR λb=>aI λg=>aN (E4 λ(ns:List Nd)(ws:List Nat)(bs:LI)(zero:Bool)=>A10 (La S a (ns.map Nd.d)) (La S b (bs.map frD)) (rwW zero w) (inR ns.length k) (ZF bs.length ns ws) (Spn 51 bs) (Gg g) (ns.length<=70) (∀T:Sto,Pre S T->Q .non T) (∀(us:LI)(T:Sto)(m:Nat),us.length=k.toNat+1->Pre S T->S.length<=m->La T m (us.map frD)->Q (.ref m) T))
def Fu:Sd:=mSx λS Q ex=>aR λa=>aT λw k=>aR λb=>aI λg=>aN (E4 λ(ns:List Nd)(ws:List Nat)(bs:LI)(zero:Bool)=>A10 (La S a (ns.map Nd.d)) (La S b (bs.map frD)) (rwW zero w) (inR ns.length k) (ZF bs.length ns ws) (Spn 51 bs) (Gg g) (ns.length<=70) (∀T:Sto,Pre S T->Q .non T) (∀(us:LI)(T:Sto)(m:Nat),us.length=bs.length->Pre S T->S.length<=m->La T m (us.map frD)->Q (.ref m) T))
def DN:Sd:=mSx λS Q ex=>aR λb=>aI λk=>aD λd=>aN (E2 λ(bs:LI)(p:Int×Int)=>A5 (La S b (bs.map frD)) (inR bs.length k) (bs.length<=4) (d=frD p) (∀(T:Sto)(m:Nat),Pre S T->S.length<=m->La T m ((bs.set k.toNat p).map frD)->Q (.ref m) T))
def J5:Sd:=mSx λS Q ex=>aP λa b=>aD λd=>aN (∃c:Ct,d=c.d/\Q (frD (c.off (a,b))) S)
def ED:Sd:=mSx λS Q ex=>aR λa=>aT λw k=>aR λb=>aI λg=>aD λd=>aN (E5 λ(ns:List Nd)(ws:List Nat)(bs:LI)(zero:Bool)(c:Ct)=>A12 (La S a (ns.map Nd.d)) (La S b (bs.map frD)) (rwW zero w) (inR ns.length k) (ZF bs.length ns ws) (Spn 51 bs) (Gg g) (ns.length<=70) (d=c.d) (c.k<bs.length) (bs.length<=4) (∀T:Sto,Pre S T->Q (.bl (isS ns zero k.toNat g bs c)) T))
def Iv:Sd:=mSx λS Q ex=>aP λa b=>aD λd=>aN (∃c:Ct,d=c.d/\Q (frD (c.back (a,b))) S)
def JZ:Sd:=mSx λS Q ex=>aR λa=>aT λw k=>aR λb=>aI λg=>aN (E4 λ(ns:List Nd)(ws:List Nat)(bs:LI)(zero:Bool)=>A10 (La S a (ns.map Nd.d)) (La S b (bs.map frD)) (rwW zero w) (inR ns.length k) (ZF bs.length ns ws) (Spn 51 bs) (Gg g) (ns.length<=70) (bs.length<=4) (∀(T:Sto)(mc:Nat)(fd:D)(cs:List Ct)(o:Option LI),ShOk ns zero k.toNat bs g cs o->Pre S T->S.length<=mc->La T mc (cs.map Ct.d)->FdAt o S.length T fd->Q (.tup [.ref mc,fd]) T))
def Hz [Ev5]:Sd:=mSx λS Q ex=>aR λn=>aI λi=>aD λd=>aN (E6 λ(a b j:Nat)(es:List LI)(fs:List Ft)(f:Ft)=>A5 (Bk Zt.C S n a b es fs) (i=(j:Int)) (j<fs.length) (WJ a b S d f) (∀T:Sto,Bk Zt.C T n a b es (fs.set j f)->Cg a b S T->Q .non T))
def HJ [Ev5]:Sd:=mSx λS Q ex=>aR λn=>aR λm=>aN (E5 λ(a b:Nat)(es:List LI)(fs:List Ft)(e:LI)=>A4 (Bk Zt.C S n a b es fs) (Ww a b S m e) (es.length<990) (∀T:Sto,Bk Zt.C T n a b (es++[e]) (fs++[.wait])->Cg a b S T->Q (.int (es.length:Int)) T))
def EA [Ev5]:Sd:=mSx λS Q ex=>aR λn=>aI λi=>aI λkk=>aI λp=>aN (E8 λ(a b j k:Nat)(es:List LI)(fs:List Ft)(e:LI)(s:Int×Int)=>A8 (Bk Zt.C S n a b es fs) (i=(j:Int)) (kk=(k:Int)) (es[j]?=some e) (e[k]?=some s) (e.length<=4) (es.length<980) (∀T:Sto,Bk Zt.C T n a b (es++[e.set k (s.1,p)]++[e.set k (p,s.2)]) ((fs++[Ft.wait]++[Ft.wait]).set j (.cut k p es.length (es.length+1)))->Cg a b S T->Q (.tup [.int (es.length:Int),.int ((es.length:Int)+1)]) T))
def Co:Sd:=mSx λS Q ex=>aR λnd=>aR λrw=>aI λr=>aR λbx=>aI λg=>aN (∃(k u:Nat)(ns:List Nd)(ws:List Nat)(rows:List (Bool×Nat))(e:LI)(row:Bool×Nat),Sr S nd rw g ns ws rows u/\La S bx (e.map frD)/\e.length=u/\Spn 51 e/\r=(k:Int)/\rows[k]?=some row/\∀(T:Sto)(m:Nat),Pre S T->S.length<=m->La T m ((Zp e g (ns.take (row.2+1))).map frD)->Q (.tup [.str "out",.int r,.ref m]) T)
def BN [Ev5]:Sd:=mSx λS Q ex=>aR λn=>aR λnd=>aR λrw=>aI λg=>aI λi=>aN (E12 λ(a b j u:Nat)(ns:List Nd)(ws:List Nat)(rows:List (Bool×Nat))(b0 e:LI)(es:List LI)(fs:List Ft)(fine:Int)=>A11 (Bk Zt.C S n a b es fs) (Sr S nd rw g ns ws rows u) (Apt nd rw a b) (Bks g fine ns rows b0 es fs) (Spn 51 b0) (b0.length=u) (i=(j:Int)) (fs[j]?=some .wait) (es[j]?=some e) (es.length<=900) (∀(T:Sto)(es':List LI)(fs':List Ft)(j':Nat),Bk Zt.C T n a b es' fs'->Bks g fine ns rows b0 es' fs'->Cg a b S T->es'.length<=es.length+64->Shd es j es' j'->j'<es'.length->Q (.int (j':Int)) T))
def Ip:Sd:=mSx λS Q ex=>aS λw=>aP λa b=>aN ((w="zero"/\Q (.bl (decide (a=0)&&decide (b=0))) S)\/(w="least"/\Q (.bl (decide (0<=a))) S))
def FU:Sd:=mSx λS Q ex=>aR λnd=>aR λrw=>aR λbx=>aI λg=>aR λsp=>aN (∃(u:Nat)(ns:List Nd)(ws:List Nat)(rows:List (Bool×Nat))(e:LI),Sr S nd rw g ns ws rows u/\La S bx (e.map frD)/\e.length=u/\Spn 51 e/\La S sp ((Zp e g ns).map frD)/\(∀(T:Sto)(k m:Nat)(row:Bool×Nat),Pre S T->S.length<=m->rows[k]?=some row->ibS ns row.1 row.2 e g=true->La T m ((Zp e g (ns.take (row.2+1))).map frD)->Q (.tup [.str "out",.int (k:Int),.ref m]) T)/\((∀row∈rows,ibS ns row.1 row.2 e g=false)->suS ns rows e g=true->∀T:Sto,Pre S T->Q (.tup [.str "full",.ref sp]) T)/\((∀row∈rows,ibS ns row.1 row.2 e g=false)->suS ns rows e g=false->∀T:Sto,Pre S T->Q .non T))
def Hg:Sd:=mSx λS Q ex=>aR λr=>aN (∃rows:List (Bool×Nat),A3 (La S r (rows.map rwD)) (rows.length<=900) (Q (.ref S.length) (S++[.lst ((eqs rows).map wtD)])))
def Ee:Sd:=mSx λS Q ex=>aR λe=>aR λp=>aN (E2 λ(xs:List D)(is:List Nat)=>A5 (La S e xs) (La S p (is.map wtD)) (is.length<=900) (∀i∈is,i<xs.length) (Q (.ref S.length) (S++[.lst (is.map λi=>xs.getD i .non)])))
abbrev TZ [Ev5] (S:Sto)(Q:DK)(n:Nat)(w:Nat)(s:Nat)(qi:Int)(g:Int)(v:Nd):Prop:=∃(q:Nat)(vs:LI)(sl:List LI)(ds:List D),S[n]?=some (Nd.oz v)/\La S w (vs.map frD)/\La S s ds/\Yh S 0 ds sl/\(∀i:Int,inR sl.length i->(sl.getD i.toNat []).length=q/\∀l,l<q->(gs sl i l).1<=(gs sl i l).2/\Sz 1100 (gs sl i l).1/\Sz 1100 (gs sl i l).2)/\(qi=(q:Nat)/\q<=900)/\Nd.ok sl.length q v/\sl.length<=vs.length/\Spn 1000 vs/\(Gg g)/\∀(T:Sto)(mm:Nat),Pre S T->S.length<=mm->La T mm ((YU vs sl g q v).map frD)->Q (.ref mm) T
def Oy [Ev5]:Sd:=mSx λS Q ex=>aR λn=>aR λw=>aR λs=>aI λqi=>aI λg=>aN (∃(x y:Int),TZ S Q n w s qi g (Nd.number x y))
def NL [Ev5]:Sd:=mSx λS Q ex=>aR λn=>aR λw=>aR λs=>aI λqi=>aI λg=>aN (∃(k:Int),TZ S Q n w s qi g (Nd.unknown k))
def GD [Ev5]:Sd:=mSx λS Q ex=>aR λx_0=>aD λx_1=>aD λx_2=>aP λa b=>aP λc d=>aI λx_7=>aN (Q (.tup [.int (a+c),.int (b+d)]) S)
def SS [Ev5] (c:Int->Int->Nd):Sd:=mSx λS Q ex=>aR λn=>aR λw=>aR λs=>aI λqi=>aI λg=>aN (∃(i j:Int),TZ S Q n w s qi g (c i j))
abbrev IW [Ev5]:=SS .plus
def Km [Ev5]:Sd:=mSx λS Q ex=>aR λx_0=>aD λx_1=>aD λx_2=>aP λa b=>aP λc d=>aI λx_7=>aN (Q (.tup [.int (a-d),.int (b-c)]) S)
abbrev Bh [Ev5]:=SS .minus
def Gm [Ev5]:Sd:=mSx λS Q ex=>aR λx_0=>aP λx1 x2=>aP λy1 y2=>aP λa b=>aP λc d=>aI λg=>aN ((Sz 1400 x1/\Sz 1400 x2/\Sz 1400 y1/\Sz 1400 y2/\Sz 1400 a/\Sz 1400 b/\Sz 1400 c/\Sz 1400 d/\1<=g/\g<=1000000)/\Q (.tup [.int ((Z8 (x1,x2) (c,d) g).1+(Z8 (y1,y2) (a,b) g).1),.int ((Z8 (x1,x2) (c,d) g).2+(Z8 (y1,y2) (a,b) g).2)]) S)
abbrev AI [Ev5]:=SS .times
def B6:Sd:=mSx λS Q ex=>aP λa b=>aI λm=>aN ((IntMulOk a m/\IntMulOk b m)/\Q (.tup [.int (if b*m<a*m then b*m else a*m),.int (if b*m > a*m then b*m else a*m)]) S)
def NQ [Ev5]:Sd:=mSx λS Q ex=>aR λn=>aR λw=>aR λs=>aI λqi=>aI λg=>aN (∃(i m:Int),TZ S Q n w s qi g (Nd.power i m))
def Hl:Sd:=mSx λS Q ex=>aR λa=>aR λb=>aI λg=>aN (E3 λ(ns:List Nd)(ws:List Nat)(bs:LI)=>A8 (La S a (ns.map Nd.d)) (La S b (bs.map frD)) (ZF bs.length ns ws) (Spn 51 bs) (bs.length<=900) (Gg g) (ns.length<=70) (∀(T:Sto)(m:Nat)(ds:List D),Pre S T->S.length<=m->La T m ds->Yh T (m+1) ds (Z3 (Zp bs g ns) g bs.length ns)->Q (.ref m) T))
def Jm:Sd:=mSx λS Q ex=>aR λa=>aR λp=>aR λb=>aI λg=>aN (E4 λ(ns:List Nd)(ws:List Nat)(bs:LI)(is:List Nat)=>A11 (La S a (ns.map Nd.d)) (La S b (bs.map frD)) (ZF bs.length ns ws) (Spn 51 bs) (Gg g) (ns.length<=70) (bs.length<=900) (La S p (is.map wtD)) (is.length<=900) (∀i∈is,i<ns.length) (∀(T:Sto)(m:Nat)(ds:List D),Pre S T->S.length<=m->La T m ds->Yh T 0 ds (is.map λ(i:Nat)=>(Z3 (Zp bs g ns) g bs.length ns).getD i [])->Q (.ref m) T))
def Li:Sd:=mSx λS Q ex=>aI λi=>aI λk=>aN (∃n:Nat,k=n/\Q (.int (sgn i n)) S)
def N6:Sd:=mSx λS Q ex=>aR λm=>aI λr=>aI λc=>aN (∃(ds:List D)(i j n:Nat),r=i/\c=j/\La S m ds/\ds.length=n+1/\Mr (RI 1024 (n+1)) 0 S ds/\n<=3/\i<=n/\j<=n/\∀(T:Sto)(k:Nat)(es:List D),Pre S T->La T k es->es.length=n->Mr (RI 1024 n) 0 T es->Q (.ref k) T)
def S8 (k:Nat):Sd:=mSx λS Q ex=>aR λm=>aN (∃(ds:List D)(n:Nat),n<=k/\La S m ds/\ds.length=n/\Mr (RI 1024 (n)) 0 S ds/\∀x:Int,Sz (1040*n+1) x->Q (.int x) S)
def So (k:Nat):Sd:=mSx λS Q ex=>aR λm=>aI λr=>aI λc=>aN (∃(ds:List D)(i j n:Nat),n<=k/\r=i/\c=j/\i<=n/\j<=n/\La S m ds/\ds.length=n+1/\Mr (RI 1024 (n+1)) 0 S ds/\∀x:Int,Sz (1040*n+1) x->Q (.int x) S)
abbrev CN:=S8 0
abbrev zav:=So 3
abbrev zau:=S8 4
def Il:Sd:=mSx λS Q ex=>aR λm=>aI λw=>aI λr=>aI λc=>aI λg=>aN (E4 λ(ds:List D)(i j n:Nat)=>A11 (n<=3) (r=i) (c=j) (i<=n) (j<=n) (La S m ds) (ds.length=n+1) (Mr (RI 1024 (n+1)) 0 S ds) (w≠0/\Sz 4200 w) (Gg g) (∀x:Int,Sz 3200 x->Q (.int x) S))
def Dz:Sd:=mSx λS Q ex=>aR λm=>aI λw=>aI λr=>aI λg=>aN (E3 λ(ds:List D)(i n:Nat)=>A9 (n<=3) (r=i) (i<=n) (La S m ds) (ds.length=n+1) (Mr (RI 1024 (n+1)) 0 S ds) (w≠0/\Sz 4200 w) (Gg g) (∀xs:List D,RI 3200 (n+1) xs->Q (.ref S.length) (S++[.lst xs])))
def EB:Sd:=mSx λS Q ex=>aR λm=>aI λg=>aN (E2 λ(ds:List D)(n:Nat)=>A7 (1<=n/\n<=4) (La S m ds) (ds.length=n) (Mr (RI 1024 (n)) 0 S ds) (Gg g) (Q .non S) (∀(T:Sto)(k:Nat)(es:List D),Pre S T->La T k es->es.length=n->Mr (RI 3200 n) 0 T es->Q (.ref k) T))
def HR:Sd:=mSx λS Q ex=>aP λa b=>aN (Q (.int ((a+b)/2)) S)
def Io:Sd:=mSx λS Q ex=>aR λs=>aN (∃vs:LI,A3 (La S s (vs.map frD)) (vs.length<=900) (Q (.ref S.length) (S++[.lst (vs.map λp=>.int (mid p))])))
def FV:Sd:=mSx λS Q ex=>aR λb=>aN (∃vs:LI,A3 (La S b (vs.map frD)) (vs.length<=900) (∀(T:Sto)(m:Nat),Pre S T->S.length<=m->La T m ((vs.map ZX).map frD)->Q (.ref m) T))
def Cu:Sd:=mSx λS Q ex=>aR λa=>aR λb=>aI λg=>aN (E2 λ(us vs:LI)=>A7 (La S a (us.map frD)) (La S b (vs.map frD)) (us.length<=60) (Bd 20000 us) (Bd 20000 vs) (Gg g) (Q (frD (sumP g us vs)) S))
def Ce:Sd:=mSx λS Q ex=>aI λk=>aI λc=>aR λt=>aR λs=>aI λg=>aN (∃(q kn cn:Nat)(ts:LI)(R:List LI)(ds:List D),k=(kn:Nat)/\c=(cn:Nat)/\La S t (ts.map frD)/\La S s ds/\Yh S 0 ds R/\(∀r∈R,r.length=q/\Bd 2000 r)/\cn<q/\ts.length<=60/\R.length<=60/\Bd 20000 ts/\(Gg g)/\Q (frD (Xf g kn cn ts R)) S)
def L7:Sd:=mSx λS Q ex=>aI λki=>aR λb=>aI λg=>aR λe=>aR λt=>aR λs=>aN (∃(k:Nat)(box aC:LI)(es:List Int)(R:List LI)(ds:List D),ki=(k:Nat)/\k<box.length/\La S e (es.map D.int)/\es.length<=4/\(∀x∈es,Sz 4000 x)/\La S b (box.map frD)/\La S t (aC.map frD)/\La S s ds/\Yh S 0 ds R/\(∀r∈R,r.length=box.length/\Bd 2000 r)/\(1<=box.length/\box.length<=4)/\R.length<=4/\aC.length<=4/\Bd 60 box/\Bd 2000 aC/\(Gg g)/\Q (frD (YN g box aC R k es)) S)
def KP:Sd:=mSx λS Q ex=>aR λb=>aI λg=>aR λu=>aR λt=>aR λs=>aN (E6 λ(box aC:LI)(M:List (List Int))(ms:List D)(R:List LI)(ds:List D)=>A16 (La S u ms) (O2 S ms M) (M.length=box.length) (∀r∈M,r.length<=4/\∀x∈r,Sz 4000 x) (La S b (box.map frD)) (La S t (aC.map frD)) (La S s ds) (Yh S 0 ds R) (∀r∈R,r.length=box.length/\Bd 2000 r) (1<=box.length/\box.length<=4) (R.length<=4) (aC.length<=4) (Bd 60 box) (Bd 2000 aC) (Gg g) (Q (.ref S.length) (S++[.lst ((M.mapIdx λk es=>YN g box aC R k es).map frD)])))
def Ao:Sd:=mSx λS Q ex=>aR λa=>aR λp=>aR λb=>aI λg=>aN (E4 λ(ns:List Nd)(ws:List Nat)(bs:LI)(is:List Nat)=>A11 (La S a (ns.map Nd.d)) (La S b (bs.map frD)) (ZF bs.length ns ws) (Spn 51 bs) (Gg g) (ns.length<=70) (bs.length<=900) (La S p (is.map wtD)) (is.length<=900) (∀i∈is,i<ns.length) (∀(T:Sto)(m:Nat),Pre S T->S.length<=m->La T m ((is.map λ(i:Nat)=>gt (Zp (bs.map ZX) g ns) i).map frD)->Q (.ref m) T))
def Cn:Sd:=mSx λS Q ex=>aP λa b=>aP λc d=>aN (Q (.bl (decide (c<a)&&decide (b<d))) S)
def Hk:Sd:=mSx λS Q ex=>aR λm=>aR λn=>aN (E2 λ(us vs:LI)=>A4 (La S m (us.map frD)) (La S n (vs.map frD)) (us.length<=1000) (Q (.bl (Rq us vs)) S))
def Hc:Sd:=mSx λS Q ex=>aR λr=>aR λs=>aN (E2 λ(rows:List (Bool×Nat))(vs:LI)=>A5 (La S r (rows.map rwD)) (La S s (vs.map frD)) (rows.length<=900) (∀r∈rows,r.2<vs.length) (∀b:Bool,Q (.bl b) S))
def IM:Sd:=mSx λS Q ex=>aR λa=>aR λr=>aR λb=>aI λg=>aN (E4 λ(ns:List Nd)(ws:List Nat)(bs:LI)(rows:List (Bool×Nat))=>A13 (La S a (ns.map Nd.d)) (La S b (bs.map frD)) (ZF bs.length ns ws) (Spn 51 bs) (Gg g) (ns.length<=70) (bs.length<=900) (La S r (rows.map rwD)) (rows.length<=900) (∀r∈rows,r.2<ns.length) (1<=bs.length/\bs.length<=4) (∀T:Sto,Pre S T->Q .non T) (∀(T:Sto)(d e:D)(M:List (List Int)),Pre S T->Rj g bs ns rows M->Q (.tup [d,e]) T))
def CQ:Sd:=mSx λS Q ex=>aR λnd=>aR λrw=>aR λbx=>aI λg=>aR λsp=>aN (E5 λ(u:Nat)(ns:List Nd)(ws:List Nat)(rows:List (Bool×Nat))(e:LI)=>A6 (Sr S nd rw g ns ws rows u) (La S bx (e.map frD)) (e.length=u) (Spn 51 e) (∀T:Sto,Pre S T->Q .non T) ((∃M,Rj g e ns rows M)->∀(T:Sto)(d1 d2 d3 d4 d5:D),Pre S T->Q (.tup [.str "one",d1,d2,d3,d4,d5]) T))
def BL:Sd:=mSx λS Q ex=>aR λnd=>aR λrw=>aR λbx=>aI λg=>aI λfine=>aN (E5 λ(u:Nat)(ns:List Nd)(ws:List Nat)(rows:List (Bool×Nat))(e:LI)=>A6 (Sr S nd rw g ns ws rows u) (La S bx (e.map frD)) (e.length=u) (Spn 51 e) (∀(T:Sto)(f:Ft)(d:D),Pre S T->FOk g fine ns rows e f->(∀a b:Nat,a<S.length->b<S.length->WJ a b T d f)->Q d T) (∀T:Sto,Pre S T->(∃p∈e,fine<wd p)->Q .non T))
def B7:Sd:=mSx λS Q ex=>aR λx=>aR λy=>aN (E2 λ(bs cs:LI)=>A7 (La S x (bs.map frD)) (La S y (cs.map frD)) (Spn 51 bs) (Spn 51 cs) (bs.length<=4) (cs.length<=4) (∀T:Sto,Pre S T->Q (.bl (decide (4*Wm bs<=3*Wm cs))) T))
def J8 [Ev5]:Sd:=mSx λS Q ex=>aR λn=>aI λi=>aN (E6 λ(a b j:Nat)(es:List LI)(fs:List Ft)(e:LI)=>A7 (Bk Zt.C S n a b es fs) (i=(j:Int)) (es[j]?=some e) (e.length<=4) (e≠[]) (es.length<980) (∀(T:Sto)(k:Nat)(s:Int×Int),e[k]?=some s->Wst e (wd s)->Bk Zt.C T n a b (es++[e.set k (s.1,(s.1+s.2)/2)]++[e.set k ((s.1+s.2)/2,s.2)]) ((fs++[Ft.wait]++[Ft.wait]).set j (.cut k ((s.1+s.2)/2) es.length (es.length+1)))->Cg a b S T->Q .non T))
def Bs [Ev5]:Sd:=mSx λS Q ex=>aR λn=>aR λnd=>aR λrw=>aI λg=>aI λfine=>aI λi=>aN (E11 λ(a b j u:Nat)(ns:List Nd)(ws:List Nat)(rows:List (Bool×Nat))(b0 e:LI)(es:List LI)(fs:List Ft)=>A12 (Bk Zt.C S n a b es fs) (Sr S nd rw g ns ws rows u) (Apt nd rw a b) (Bks g fine ns rows b0 es fs) (Spn 51 b0) (b0.length=u) (i=(j:Int)) (fs[j]?=some .wait) (es[j]?=some e) (1<=fine) (es.length<=800) (∀(T:Sto)(es':List LI)(fs':List Ft),Bk Zt.C T n a b es' fs'->Bks g fine ns rows b0 es' fs'->Cg a b S T->es'.length<=es.length+66->(es.length<es'.length\/es'.length=es.length/\fs'[j]?≠some .wait)->Q .non T))
def Iy:Sd:=mSx λS Q ex=>aR λnd=>aR λrw=>aR λbx=>aI λg=>aI λfine=>aI λlooks=>aN (E6 λ(u t:Nat)(ns:List Nd)(ws:List Nat)(rows:List (Bool×Nat))(b0:LI)=>A8 (Sr S nd rw g ns ws rows u) (La S bx (b0.map frD)) (b0.length=u) (Spn 51 b0) (1<=fine) (0<=looks/\looks<=8) (S[t]?=some (.cod LT LP LQ)) (∀(T:Sto)(m:Nat)(ds:List D)(es:List LI)(fs:List Ft),Pre S T->S.length<=m->La T m ds->En T ds es fs->Bks g fine ns rows b0 es fs->es.length<=900->(looks=0->es=[b0]/\fs=[.wait])->(0<looks->es.length=1->fs[0]?≠some .wait)->Q (.ref m) T))
def zaq:Sd:=mSx λS Q ex=>aR λn=>aI λk=>aN (∃ns:List Int,A3 (S[n]?=some (.frz (ns.map D.int))) (0<=k) (∀x:Int,(0<=x/\x<10^60)->Q (.int x) S))
def DZ:Sd:=mSx λS Q ex=>aR λb=>aI λg=>aR λc=>aN (E3 λ(q:Nat)(bs:LP2)(xs:List Int)=>A8 (La S b (bs.map frD)) (La S c (xs.map D.int)) (bs.length=q) (q<=4) (Spn 51 bs) (xs.length=4) (Gg g) (∀(T:Sto)(m:Nat)(pt:LP2),Pre S T->S.length<=m->La T m (pt.map frD)->Pk q pt->Inb bs pt g->Q (.ref m) T))
def Di:Sd:=mSx λS Q ex=>aI λc=>aN (∀xs:List Int,xs.length=4->Q (.ref S.length) (S++[.lst (xs.map D.int)]))
def Ex:Sd:=mSx λS Q ex=>aR λn=>aR λb=>aI λg=>aN (∃(ns:List Int)(bs:LP2)(q:Nat),S[n]?=some (.frz (ns.map D.int))/\La S b (bs.map frD)/\bs.length=q/\(1<=q/\q<=4)/\Spn 51 bs/\(Gg g)/\ns.length<=1000/\∀(T:Sto)(m:Nat)(ps:List D),Pre S T->S.length<=m->La T m ps->ps.length<=24->Ptz q bs g T m ps->Q (.ref m) T)
def BY:Sd:=mSx λS Q ex=>aI λc=>aI λm=>aI λu=>aN ((0<=c/\(0<=m/\m<=60)/\1<=u/\u<=4)/\∀v:Nd,v.ok m u->Q v.d S)
def BI:Sd:=mSx λS Q ex=>aR λn=>aI λf=>aI λy=>aI λu=>aN (E2 λ(xs:List Int)(qn:Nat)=>A7 (S[n]?=some (.frz (xs.map D.int))) (f=8) (y=20) (u=(qn:Int)) (1<=qn/\qn<=4) (xs.length<=1000) (∀(ns:List Nd)(ws:List Nat)(T:Sto)(m:Nat),ZF qn ns ws->ns.length<=24->Pre S T->S.length<=m->La T m (ns.map Nd.d)->Q (.ref m) T))
def AL:Sd:=mSx λS Q ex=>aR λn=>aI λf=>aI λy=>aR λa=>aN (E3 λ(xs:List Int)(vs:List Nd)(k:Nat)=>A7 (S[n]?=some (.frz (xs.map D.int))) (La S a (vs.map Nd.d)) (f=20) (y=(k:Int)) (k<=4) (vs.length<=60) (∀(T:Sto)(rows:List (Bool×Nat)),Pre S T->La T S.length (rows.map rwD)->rows.length<=4->(∀r∈rows,r.2<vs.length)->Q (.ref S.length) T))
def Jc:Sd:=mSx λS Q ex=>aR λn=>aI λf=>aI λu=>aN (E2 λ(ns:List Int)(q:Nat)=>A5 (S[n]?=some (.frz (ns.map D.int))) (u=(q:Int)) (1<=q/\q<=4) (f=4) (∀bs:LI,bs.length=q->Spn 51 bs->Q (.ref S.length) (S++[.lst (bs.map frD)])))
def HN:Sd:=mSx λS Q ex=>aR λn=>aN (∃ns:List Int,A3 (S[n]?=some (.frz (ns.map D.int))) (ns.length<=1000) (∀(T:Sto)(q m mr mx:Nat)(g fine looks:Int)(vs:List Nd)(ws:List Nat)(rows:List (Bool×Nat))(bs:LP2),Pre S T->Sr T m mr g vs ws rows q->La T mx (bs.map frD)->bs.length=q->Spn 51 bs->1<=fine->(0<=looks/\looks<=8)->Q (.tup [.ref m,.ref mr,.ref mx,.int g,.int fine,.int looks]) T))
def G4:Sd:=mSx λS Q ex=>aR λmb=>aI λc=>aI λg=>aN (E5 λ(ds:List D)(es:List LP2)(fs:List Ft)(b0:LP2)(q:Nat)=>A3 (Bq S mb ds es fs b0 q g) (∀T:Sto,Pre S T->Q .non T) (∀(T:Sto)(m:Nat)(pt:LP2),Pre S T->S.length<=m->La T m (pt.map frD)->Pk q pt->Inb b0 pt g->Q (.ref m) T))
def NW:Sd:=mSx λS Q ex=>aT λw k=>aR λv=>aN (E2 λ(ds:LP2)(zero:Bool)=>A4 (La S v (ds.map frD)) (rwW zero w) (inR ds.length k) (∀r:Bool,(r=true↔if zero=true then (gt ds k).1=0 else 0<=(gt ds k).1)->Q (.bl r) S))
def F9:Sd:=mSx λS Q ex=>aR λa=>aR λb=>aN (E3 λ(ps qs:LP2)(q:Nat)=>A7 (La S a (ps.map frD)) (La S b (qs.map frD)) (Pk q ps) (Pk q qs) (q<=4) (∀(k:Nat)(x y:Int×Int),ps[k]?=some x->qs[k]?=some y->x.1*y.2=y.1*x.2) (∀T:Sto,Pre S T->Q (.bl true) T))
def zah:Sd:=mSx λS Q ex=>aR λmb=>aI λi=>aR λp=>aR λnd=>aR λrw=>aR λsg=>aN (∃j:Nat,E14 λ(ds:List D)(es:List LP2)(fs:List Ft)(b0:LP2)(q:Nat)(pt:LP2)(g fine:Int)(ns:List Nd)(ws:List Nat)(rows:List (Bool×Nat))(kvs:List (Key×D))(e:LP2)(f:Ft)=>A12 (Bp S mb ds es fs b0 q p pt g) (Sr S nd rw g ns ws rows q) (∀(i:Nat)(e:LP2)(f:Ft),es[i]?=some e->fs[i]?=some f->f=.wait\/(∃k p a b,f=.cut k p a b)\/FOk g fine ns rows e f) (S[sg]?=some (.dck kvs)) (Sg S q es g ns rows kvs) (kvs.length<=900) (i=(j:Int)) (es[j]?=some e) (fs[j]?=some f) (∀k x a b,f≠.cut k x a b) (Inb e pt g) (∀(T:Sto)(kvs':List (Key×D)),(∀x o,x≠sg->S[x]?=some o->T[x]?=some o)->T[sg]?=some (.dck kvs')->Sg T q es g ns rows kvs'->kvs'.length<=kvs.length+1->Q (.bl true) T))
def Bj:Sd:=mSx λS Q ex=>aR λmb=>aR λp=>aI λg=>aB λab=>aN (E6 λ(ds:List D)(es:List LP2)(fs:List Ft)(b0:LP2)(q:Nat)(pt:LP2)=>A3 (Bp S mb ds es fs b0 q p pt g) (Inb b0 pt g) (∀r:Nat,r<es.length->(∀k x a b,fs[r]?≠some (.cut k x a b))->(∀e,es[r]?=some e->Inb e pt g)->Q (.int (r:Int)) S))
abbrev Imp (p G:List D->Prop):Prop:=∀ds,p ds->G ds
theorem kN {p:Prop}{G:List D->Prop}(k:p->G []):Imp (aN p) G:=λds h=>by
 obtain⟨rfl,h⟩:=T8 h;exact k h
theorem kR {f:Nat->List D->Prop}{G:List D->Prop}(k:∀a,Imp (f a) λr=>G (.ref a::r)):Imp (aR f) G:=λds h=>by
 obtain⟨a,r,rfl,h⟩:=aR_e h;exact k a r h
theorem kI {f:Int->List D->Prop}{G:List D->Prop}(k:∀a,Imp (f a) λr=>G (.int a::r)):Imp (aI f) G:=λds h=>by
 obtain⟨a,r,rfl,h⟩:=aI_e h;exact k a r h
theorem kS {f:Str->List D->Prop}{G:List D->Prop}(k:∀a,Imp (f a) λr=>G (.str a::r)):Imp (aS f) G:=λds h=>by
 obtain⟨a,r,rfl,h⟩:=aS_e h;exact k a r h
theorem kB {f:Bool->List D->Prop}{G:List D->Prop}(k:∀a,Imp (f a) λr=>G (.bl a::r)):Imp (aB f) G:=λds h=>by
 obtain⟨a,r,rfl,h⟩:=aB_e h;exact k a r h
theorem kP {f:Int->Int->List D->Prop}{G:List D->Prop}(k:∀a b,Imp (f a b) λr=>G (.tup [.int a,.int b]::r)):Imp (aP f) G:=λds h=>by
 obtain⟨a,b,r,rfl,h⟩:=aP_e h;exact k a b r h
theorem kT {f:Str->Int->List D->Prop}{G:List D->Prop}(k:∀a b,Imp (f a b) λr=>G (.tup [.str a,.int b]::r)):Imp (aT f) G:=λds h=>by
 obtain⟨a,b,r,rfl,h⟩:=aT_e h;exact k a b r h
theorem kD {f:D->List D->Prop}{G:List D->Prop}(k:∀a,Imp (f a) λr=>G (a::r)):Imp (aD f) G:=λds h=>by
 obtain⟨a,r,rfl,h⟩:=aD_e h;exact k a r h
section
variable {P:Program}{w:World}{K:Fg}{mg:Str->Option Value}{base:Heap}{k:Nat}{C:Addr}{x qual:Str}{st:Stmt}{ps N:List Str}{sd:Sd}{t:TDS}
theorem Ko (hp:∀S Q ex,Imp (λds=>sd ds S Q ex) λds=>t { nx:=λ_ S'=>Gc S Q .non S',rt:=Gc S Q } (Y2 N ds) S):∀ds S Q ex,gcS sd ds S Q ex->t { nx:=λ_ S'=>Q .non S',rt:=Q } (Y2 N ds) S:=λds S Q ex h=>by
 obtain⟨Q0,ex0,rfl,rfl,h⟩:=h;exact hp S Q0 ex0 ds h
def mkF (d:Df K mg x st ps)(Sc:YC N ps (ZA st))(ht:∀ {cdv:Value} {A:Around} {outer:List Env} {s:Shared} {H:Hp} {E:XK},ZI k (A.deeper (envOfC x (ZA st) s.heap.objs.size d.f cdv))->YB (Xl (CXE P w) P w K mg base N x (ZA st) d.f cdv A outer s H E).nox Z0 (YV st) t)(hp:∀S Q ex,Imp (λds=>sd ds S Q ex) λds=>t { nx:=λ_ S'=>Q .non S',rt:=Q } (Y2 N ds) S)(len:Ln sd ps.length:=by exact λ_ _ _ _=>by repeat (first|exact nN|refine nR λ_=>?_|refine nI λ_=>?_|refine nP λ_ _=>?_|refine nT λ_ _=>?_|refine nD λ_=>?_|refine nS λ_=>?_|refine nB λ_=>?_)):Fk P w K mg base (k+1) x ps sd:=d.mk' (Vl d.F Sc len λ_ _ _ _ _ _ _ hr=>#[t,ht hr,λds S Q ex=>hp S Q ex ds])
def mkG (d:Df K mg x st ps)(Sc:YC N ps (ZA st))(ht:∀ {cdv:Value} {A:Around} {outer:List Env} {s:Shared} {H:Hp} {E:XK},ZI k (A.deeper (envOfC x (ZA st) s.heap.objs.size d.f cdv))->YB (Xl (CXE P w) P w K mg base N x (ZA st) d.f cdv A outer s H E).nox Z0 (YV st) t)(hp:∀S Q ex,Imp (λds=>sd ds S Q ex) λds=>t { nx:=λ_ S'=>Gc S Q .non S',rt:=Gc S Q } (Y2 N ds) S)(len:Ln sd ps.length:=by exact λ_ _ _ _=>by repeat (first|exact nN|refine nR λ_=>?_|refine nI λ_=>?_|refine nP λ_ _=>?_|refine nT λ_ _=>?_|refine nD λ_=>?_|refine nS λ_=>?_|refine nB λ_=>?_)):Fk P w K mg base (k+1) x ps sd:=d.mk' (fn_gc (Vl d.F Sc (Ap len) λ_ _ _ _ _ _ _ hr=>#[t,ht hr,Ko hp]))
def mkM (d:Dm K C x qual st ps)(Sc:YC N ps (ZA st))(ht:∀ {cdv:Value} {A:Around} {outer:List Env} {s:Shared} {H:Hp} {E:XK},ZI k (A.deeper (envOfC qual (ZA st) s.heap.objs.size d.f cdv))->YB (Xl (CXE P w) P w K mg base N qual (ZA st) d.f cdv A outer s H E).nox Z0 (YV st) t)(hp:∀S Q ex,Imp (λds=>sd ds S Q ex) λds=>t { nx:=λ_ S'=>Q .non S',rt:=Q } (Y2 N ds) S)(len:Ln sd ps.length:=by exact λ_ _ _ _=>by repeat (first|exact nN|refine nR λ_=>?_|refine nI λ_=>?_|refine nP λ_ _=>?_|refine nT λ_ _=>?_|refine nD λ_=>?_|refine nS λ_=>?_|refine nB λ_=>?_)):Fm P w K mg base (k+1) C x ps sd:=d.mk' (Vl d.F Sc len λ_ _ _ _ _ _ _ hr=>#[t,ht hr,λds S Q ex=>hp S Q ex ds])
end
def psS:Stmt->List Str
 | .FunctionDef _ a ..=>a.args.map (·.arg)
 | _=>[]
def nsS (st:Stmt):List Str:=((ZA st).names.filter λy=>y.2==.local||y.2==.cell).map (·.1)
abbrev iC (i j:Nat):Stmt:=Xa (top i) j
abbrev stD (n:Nat)(ds:List D):Ev:=ds.map some++List.replicate n none
abbrev Fx [e:Ev5] (k:Nat)(st:Stmt)(sd:Sd):=Fkz k (nmS st) (psS st) sd
abbrev Fy [e:Ev5] (k:Nat)(C:Addr)(i j:Nat)(sd:Sd):=Fmz k C (nmS (iC i j)) (psS (iC i j)) sd
noncomputable def mF [e:Ev5] {st:Stmt}{t:TDS}{sd:Sd}{k:Nat}(n:Nat)(ht:∀ {cdv:Value} {A:Around} {outer:List Env} {s:Shared} {H:Hp} {E:XK},ZI k (A.deeper (envOfC (nmS st) (ZA st) s.heap.objs.size (xF (W.nsIn e.K mainGlobals (nmS st))) cdv))->(nsS st).Nodup->YB (Xl (CXE e.P e.w) e.P e.w e.K e.mg e.base (nsS st) (nmS st) (ZA st) (xF (W.nsIn e.K mainGlobals (nmS st))) cdv A outer s H E).nox Z0 (YV st) t)(hp:∀S Q ex,Imp (λds=>sd ds S Q ex) λds=>t { nx:=λ_ S'=>Q .non S',rt:=Q } (stD n ds) S)(hn:(nsS st).length-(psS st).length=n:=by decide +kernel)(Sc:YC (nsS st) (psS st) (ZA st):=by exact fsc)(a:fnE e.K (W.nsIn e.K mainGlobals (nmS st)) (nmS st) (nmS st) st:=by kernel_rfl)(b:Bn (nmS st) (nmS st) st (psS st):=by first|exact λ_ _ _ _ _ _=>ln1 λ_=>rfl|exact λ_ _ _ _ _ _=>ln2 λ_ _=>rfl|exact λ_ _ _ _ _ _=>ln3 λ_ _ _=>rfl|exact λ_ _ _ _ _ _=>ln4 λ_ _ _ _=>rfl|exact λ_ _ _ _ _ _=>ln5 λ_ _ _ _ _=>rfl|exact λ_ _ _ _ _ _=>ln6 λ_ _ _ _ _ _=>rfl)(len:Ln sd (psS st).length:=by exact λ_ _ _ _=>by repeat (first|exact nN|refine nR λ_=>?_|refine nI λ_=>?_|refine nP λ_ _=>?_|refine nT λ_ _=>?_|refine nD λ_=>?_|refine nS λ_=>?_|refine nB λ_=>?_)):Fkz (k+1) (nmS st) (psS st) sd:=mkF (dfo e.X e.G a b) Sc (λhr=>ht hr Sc.nd) (λS Q ex ds h=>by have z:=hp S Q ex ds h;subst hn;show t _ (Y2 _ ds) S;unfold Y2;rw[len _ _ _ _ h];exact z) len
noncomputable def mG [e:Ev5] {st:Stmt}{t:TDS}{sd:Sd}{k:Nat}(n:Nat)(ht:∀ {cdv:Value} {A:Around} {outer:List Env} {s:Shared} {H:Hp} {E:XK},ZI k (A.deeper (envOfC (nmS st) (ZA st) s.heap.objs.size (xF (W.nsIn e.K mainGlobals (nmS st))) cdv))->(nsS st).Nodup->YB (Xl (CXE e.P e.w) e.P e.w e.K e.mg e.base (nsS st) (nmS st) (ZA st) (xF (W.nsIn e.K mainGlobals (nmS st))) cdv A outer s H E).nox Z0 (YV st) t)(hp:∀S Q ex,Imp (λds=>sd ds S Q ex) λds=>t { nx:=λ_ S'=>Gc S Q .non S',rt:=Gc S Q } (stD n ds) S)(hn:(nsS st).length-(psS st).length=n:=by decide +kernel)(Sc:YC (nsS st) (psS st) (ZA st):=by exact fsc)(a:fnE e.K (W.nsIn e.K mainGlobals (nmS st)) (nmS st) (nmS st) st:=by kernel_rfl)(b:Bn (nmS st) (nmS st) st (psS st):=by first|exact λ_ _ _ _ _ _=>ln1 λ_=>rfl|exact λ_ _ _ _ _ _=>ln2 λ_ _=>rfl|exact λ_ _ _ _ _ _=>ln3 λ_ _ _=>rfl|exact λ_ _ _ _ _ _=>ln4 λ_ _ _ _=>rfl|exact λ_ _ _ _ _ _=>ln5 λ_ _ _ _ _=>rfl|exact λ_ _ _ _ _ _=>ln6 λ_ _ _ _ _ _=>rfl)(len:Ln sd (psS st).length:=by exact λ_ _ _ _=>by repeat (first|exact nN|refine nR λ_=>?_|refine nI λ_=>?_|refine nP λ_ _=>?_|refine nT λ_ _=>?_|refine nD λ_=>?_|refine nS λ_=>?_|refine nB λ_=>?_)):Fkz (k+1) (nmS st) (psS st) sd:=mkG (dfo e.X e.G a b) Sc (λhr=>ht hr Sc.nd) (λS Q ex ds h=>by have z:=hp S Q ex ds h;subst hn;show t _ (Y2 _ ds) S;unfold Y2;rw[len _ _ _ _ h];exact z) len
noncomputable def mM [e:Ev5] {C:Addr}{i j:Nat}{t:TDS}{sd:Sd}{k:Nat}(n:Nat)(ht:∀ {cdv:Value} {A:Around} {outer:List Env} {s:Shared} {H:Hp} {E:XK},ZI k (A.deeper (envOfC (qlS i j) (ZA (iC i j)) s.heap.objs.size (xF (W.findIn e.K (.ref C) (nmS (iC i j)))) cdv))->(nsS (iC i j)).Nodup->YB (Xl (CXE e.P e.w) e.P e.w e.K e.mg e.base (nsS (iC i j)) (qlS i j) (ZA (iC i j)) (xF (W.findIn e.K (.ref C) (nmS (iC i j)))) cdv A outer s H E).nox Z0 (YV (iC i j)) t)(hp:∀S Q ex,Imp (λds=>sd ds S Q ex) λds=>t { nx:=λ_ S'=>Q .non S',rt:=Q } (stD n ds) S)(hn:(nsS (iC i j)).length-(psS (iC i j)).length=n:=by decide +kernel)(Sc:YC (nsS (iC i j)) (psS (iC i j)) (ZA (iC i j)):=by exact fsc)(a:fnE e.K (W.findIn e.K (.ref C) (nmS (iC i j))) (nmS (iC i j)) (qlS i j) (iC i j):=by kernel_rfl)(b:Bn (nmS (iC i j)) (qlS i j) (iC i j) (psS (iC i j)):=by first|exact λ_ _ _ _ _ _=>ln1 λ_=>rfl|exact λ_ _ _ _ _ _=>ln2 λ_ _=>rfl|exact λ_ _ _ _ _ _=>ln3 λ_ _ _=>rfl|exact λ_ _ _ _ _ _=>ln4 λ_ _ _ _=>rfl|exact λ_ _ _ _ _ _=>ln5 λ_ _ _ _ _=>rfl|exact λ_ _ _ _ _ _=>ln6 λ_ _ _ _ _ _=>rfl)(len:Ln sd (psS (iC i j)).length:=by exact λ_ _ _ _=>by repeat (first|exact nN|refine nR λ_=>?_|refine nI λ_=>?_|refine nP λ_ _=>?_|refine nT λ_ _=>?_|refine nD λ_=>?_|refine nS λ_=>?_|refine nB λ_=>?_)):Fmz (k+1) C (nmS (iC i j)) (psS (iC i j)) sd:=mkM (dmo a b) Sc (λhr=>ht hr Sc.nd) (λS Q ex ds h=>by have z:=hp S Q ex ds h;subst hn;show t _ (Y2 _ ds) S;unfold Y2;rw[len _ _ _ _ h];exact z) len
section
variable {X:Cx}{Z:Zx}
theorem pdv (i:Nat){x:Str}{pos:Pos}{es:List Expr}{t:TDA}(hr:PDA X Z es t)(h:PD X Z (.Name x pos) (Xj i):=by exact dv _)(hs:starEach (.Name x pos::es) X.env=(false,eval (.Name x pos) X.env)::starEach es X.env:=by rfl):PDA X Z (.Name x pos::es) (Ux (Xj i) t):=Za h hr hs
theorem pv (i:Nat){x:Str}{pos:Pos}(h:PD X Z (.Name x pos) (Xj i):=by exact dv _)(hs:starEach [.Name x pos] X.env=[(false,eval (.Name x pos) X.env)]:=by rfl):PDA X Z [.Name x pos] (Ux (Xj i) U9):=Za h Zg hs
end
noncomputable section
variable [e:Ev5]
set_option hygiene false
open Lean in
section
abbrev pqT:=List (Sum Char Term)
def pqR:List (Char×Name×String):=[('D',`Zd,"$$"),('O',`Zf,"$"),('R',`Zi,"$"),('J',`Zu,"$$$"),('E',`Z1,"$"),('N',`Zy,""),('1',`Zb,""),('2',`ZJ,""),('3',`ZR,""),('4',`VJ,""),('5',`XC,""),('6',`XA,"$"),('[',`ZD,"$$"),(']',`Xd,"$$"),('(',`Zv,"@"),(')',`Z7,"@"),('A',`Yg,"$$"),('C',`Zh,"$h@"),('F',`ZN,"$$$"),('P',`PDW.pt,"$"),('K',`WK,"$$"),('Q',`WY,"$"),('X',`W8,"$$"),('Y',`V6,"$"),('T',`Xo,"$"),('M',`WV,"$"),('H',`XS,"$$$"),('Z',`X6,"$$$"),('B',`US,"$$$")]
def pqO:List (Char×Name):=[('*',`ZH),('+',`ZL),('-',`Z4),('/',`Ym),('%',`ZZ),('^',`YS),('|',`Yp),('~',`Yc)]
def pqC:List (Char×Name):=[('<',`YJ),('>',`Xy),('=',`ZG),('L',`V0),('G',`Ry),('V',`Y4),('W',`PJ)]
def pqB (n:Nat)(a:Term):MacroM Term:=match n with|0=>`(ZK (ZS YG) rfl YE Boot.«len» $a)|1=>`(ZK Q5 rfl QM Boot.«abs» $a)|2=>`(ZK (XH rfl) rfl XR Boot.«min» $a)|3=>`(ZK (ZS (XH rfl)) rfl XR Boot.«min» $a)|4=>`(ZK (ZS (XJ rfl)) rfl Xp Boot.«max» $a)|5=>`(ZK (XJ rfl) rfl Xp Boot.«max» $a)|6=>`(ZK (ZS (U5 rfl)) rfl UN Boot.«all» $a)|7=>`(ZK (ZS (Ts rfl)) rfl RJ Boot.«sum» $a)|_=>Macro.throwUnsupported
def pqL (c:Char):Term:=Syntax.mkNumLit (toString (c.toNat-97))
def pqD (c:Char):Term:=let i:=mkIdent ((pqC.lookup c).getD default);if c=='=' then Syntax.mkApp i (List.toArray [mkIdent `hr]) else i
def pq:Nat->Bool->pqT->MacroM (Term×pqT)
 |n+1,_,.inr a::l=>pure (a,l)
 |n+1,true,.inl c::l=>do
  if c=='.' then return (<- `(Zg),l)
  if c==',' then
   let (a,l)<- pq n false l
   let (b,l)<- pq n true l
   return (<- `(Za $a $b),l)
  let (b,l)<- pq n true l
  return (<- `(pdv $(pqL c) $b),l)
 |n+1,false,.inl c::l=>do
  if c.isLower then return (<- `(dv $(pqL c)),l)
  match c,l with
  |'!',.inl d::l=>return (<- `(piv $(pqL d)),l)
  |'S',.inl d::l=>
   let (a,l)<- pq n false l
   return (<- `(Zj (i:=$(pqL d)) hn $a),l)
  |'I',_=>
   let (a,l)<- pq n false l
   let (b,l)<- pq n false l
   return (<- `(Zu $a $b Zy),l)
  |'$',.inl d::l=>
   let (a,l)<- pq n true l
   return (<- pqB (d.toNat-97) a,l)
  |'U',.inl d::l=>
   let (a,l)<- pq n false l
   let (b,l)<- pq n false l
   return (<- `(Xm $(pqD d) $a $b (Zl _)),l)
  |';',.inl d::l=>
   let (a,l)<- pq n false l
   let (b,l)<- pq n false l
   return (<- `(XX (i:=$(pqL d)) PassesOwn.never rfl hn rfl (Or.inl rfl) $a $b),l)
  |':',.inl d::l=>
   let (a,l)<- pq n true l
   let (b,l)<- pq n false l
   return (<- `(U8 (i:=$(pqL d)) PassesOwn.never rfl hn rfl (Or.inl rfl) rfl YY $a $b),l)
  |'?',.inl d::l=>
   let (a,l)<- pq n true l
   let (b,l)<- pq n false l
   return (<- `(Tz (i:=$(pqL d)) PassesOwn.never rfl hn rfl (Or.inl rfl) rfl YY $a $b),l)
  |'&',.inl d::.inl f::l=>
   let (a,l)<- pq n true l
   let (b,l)<- pq n false l
   return (<- `(Ue (is:=[$(pqL d),$(pqL f)]) PassesOwn.never rfl hn (Nms.cons (i:=$(pqL d)) rfl (Or.inl rfl) (by first|exact .inl rfl|exact .inr rfl) (Nms.cons (i:=$(pqL f)) rfl (Or.inl rfl) (by first|exact .inl rfl|exact .inr rfl) Nms.nil)) rfl rfl Wf Boot.«enumerate» $a $b),l)
  |'7',.inr d::.inr f::.inr g::.inr h::l=>
   let (a,l)<- pq n false l
   let (b,l)<- pq n false l
   return (<- `(Xz (x:=$d) (N:=$f) (caps:=$g) (ar:=$h) rfl rfl csc rfl (by decide) $a pt0 (λ_ _ _ _ _ _=>$b)),l)
  |'0',.inr d::.inr f::l=>
   let (a,l)<- pq n false l
   let (b,l)<- pq n true l
   return (<- `(XZ (C:=($d).C) $a ($d).cl ($f).m ($f).ok (rmn hr) ($f).b YL $b),l)
  |_,_=>
  if let some o:=pqO.lookup c then
   let (a,l)<- pq n false l
   let (b,l)<- pq n false l
   return (<- `(Ze $(mkIdent o) $a $b),l)
  if (pqC.lookup c).isSome then
   let (a,l)<- pq n false l
   let (b,l)<- pq n false l
   return (<- `(Zn $(pqD c) $a $b (Zl _)),l)
  let some (f,k):=pqR.lookup c|Macro.throwUnsupported
  let mut l:=l
  let mut s:Array Term:=(List.toArray [])
  for x in k.toList do
   if x=='h' then s:=s.push (mkIdent `hr)
   else
    let (a,m)<- pq n (x=='@') l
    s:=s.push a
    l:=m
  return (Syntax.mkApp (mkIdent f) s,l)
 |_,_,_=>Macro.throwUnsupported
end
local macro_rules
|`(s!$s)=>do return (<- pq 4000 false (s.raw.getArgs.toList.flatMap λa=>match a.isInterpolatedStrLit? with|some x=>x.toList.map .inl|none=>[.inr #[a]])).1
def Be:Fx 1 (top 108) K7:=
 mF 0 (λhr hn=>s!"DI=%a11OR+1%/a11OR+1%/a11") λS Q ex=>by
  refine kI λc=>kN ?_
  rintro⟨c0,h⟩;refine ifD (λe=>?_) (λe=>?_)
  .refine h _ ?_ ?_<;>lia
  .refine h _ ?_ ?_<;>lia
def Xe:Fx 1 (top 95) FF:=
 mF 1 (λhr hn=>s!"DSc1DI<b$aa.OSc~[ab^11OR~*~+*c1*1b111") λS Q ex=>by
  refine kR λn=>kI λk=>kN ?_
  rintro⟨ns,hn,⟨k0,k1⟩,h⟩;have aZ:∀x:Int,(0<=x/\x<10^18)->IntMulOk x 48271/\IntMulOk 16807 k/\(0:Int)<2147483647/\IntMulOk ((x*48271+16807*k)%2147483647) 69621/\(0:Int)<2147483629/\Q (.int ((x*48271+16807*k)%2147483647*69621%2147483629)) S:=λx hx=>by
   have z1:Sz 80 x:=Sz.of (10^20) ()
   have z2:Sz 80 k:=Sz.of (10^20) ()
   have r:=Yn (a:=x*48271+16807*k) (b:=2147483647) ⋯;refine#[ZE z1 (Sz.of (n:=80) (10^20) ⋯),ZE (Sz.of (n:=80) (10^20) ⋯) z2,⋯,ZE (Sz.of (n:=80) (10^20) ()) (Sz.of (n:=80) (10^20) ⋯),⋯,h _ ?_];exact Yn ⋯
  refine U0 hn ?_;rw[zB];refine ifD (λc=>?_) (λc=>?_)
  .refine ZC (o:=.frz (ns.map D.int)) hn (OX k0 c) ?_;have r:=Yn (a:=ns.getD k.toNat 0) (b:=10^Int.toNat 18) ⋯;exact#[show (0:Int)<10^Int.toNat 18 by decide,aZ _ r]
  .exact aZ 0 ⋯
def Ht:Fx 2 (top 106) zaj:=
 mF 4 (λhr hn=>s!"DSc).D:db.DSeC{Xe}a,[(,1,1,1,1.d.DSfC{Xe}a,[(,1,1,1,1.d.DJ=%e11OSe-~*/e11*1^11^11OSe-%/e111DJPK>d1Q=%f11OSf-][c11][c11OJ=%f11OSf~*/f11^11OSf%/f11OEAc(e,+ef.ORc") λS Q ex=>by
  refine kR λn=>kI λu=>kN ?_
  rintro⟨ns,q,hn,rfl,hq,h⟩;have lt:=ZT hn;refine#[#[(),()],λk dl' S'=>k<=q/\∃bs:LI,A4 (bs.length=k) (∀p∈bs,(-10^14<=p.1/\p.1<=10^14)/\0<=p.2-p.1/\p.2-p.1<10^14) (S'=S++[.lst (bs.map frD)]) (E3 λ(u3 u4 u5:Option D)=>dl'=[sR n,sI (q:Int),sR S.length,u3,u4,u5]),#[zL _,[],rfl,λp hp=>(nomatch hp),rfl,_,_,_,rfl],?_];rintro k dl' S' ⟨hk,bs,lb,ob,rfl,u3,u4,u5,rfl⟩;split
  .rename_i c;have ck:k<q:=by rw[zK] at c;exact c
   have k4:k=0\/k=1\/k=2\/k=3:=by lia
   have hn':(S++[Ob.lst (bs.map frD)])[n]?=some (.frz (ns.map D.int)):=Zo hn;obtain⟨v1,e1,b1⟩:∃v:Int,([.int 5,.int 7,.int 44,.int 46]:List D)[k]?=some (.int v)/\0<=v/\v<=1000:=by
    rcases k4 with rfl|rfl|rfl|rfl
    .exact#[5,rfl,⋯]
    .exact#[7,rfl,⋯]
    .exact#[44,rfl,⋯]
    .exact#[46,rfl,⋯]
   obtain⟨v2,e2,b2⟩:∃v:Int,([.int 6,.int 8,.int 45,.int 47]:List D)[k]?=some (.int v)/\0<=v/\v<=1000:=by
    rcases k4 with rfl|rfl|rfl|rfl
    .exact#[6,rfl,⋯]
    .exact#[8,rfl,⋯]
    .exact#[45,rfl,⋯]
    .exact#[47,rfl,⋯]
   refine UU e1 ?_;refine#[ns,hn',b1,λlo hlo=>?_];refine UU e2 ?_;refine#[ns,hn',b2,λwi hwi=>?_];dsimp only;refine ZW (λdl2 S2=>S2=S++[.lst (bs.map frD)]/\∃lo:Int,(-10^14<=lo/\lo<=10^14)/\dl2=[sR n,sI (q:Int),sR S.length,sI (k:Int),sI lo,sI wi]) (λnx hx=>?_) ?_
   .skip
    refine ifD (λ_=>?_) (λ_=>?_)
    .have zl:Sz 80 (lo/9):=Sz.of (10^20) ()
     have r:=Yn (a:=lo/9*900001) (b:=2*10^Int.toNat 14) ⋯;refine#[ZE zl (Sz.of (n:=80) (10^20) ⋯),ZE (m:=80) (n:=80) (Sz.of (10^20) ⋯) (Sz.of (10^20) ⋯),show (0:Int)<2*10^Int.toNat 14 by decide,?_];have t14:(10:Int)^Int.toNat 14=10^14:=rfl;exact hx _ _ #[rfl,_,#[(),()],rfl]
    .exact hx _ _ #[rfl,_,#[(),()],rfl]
   rintro dl2 S2 ⟨rfl,low,hlow,rfl⟩;refine ZW (λdl2 S2=>S2=S++[.lst (bs.map frD)]/\∃wi:Int,(0<=wi/\wi<10^14)/\dl2=[sR n,sI (q:Int),sR S.length,sI (k:Int),sI low,sI wi]) (λnx hx=>?_) ?_
   .refine ifD (λc1=>?_) (λc1=>?_)
    .refine ifD (λc2=>?_) (λc2=>?_)
     .have h0:0<bs.length:=by lia
      have i0:inR ((bs.length:Nat):Int) (0:Int):=#[(),()]
      have q0:=ob _ (Si (vs:=bs) (i:=(0:Int)) i0);refine ZC (o:=.lst (bs.map frD)) (Zm _ _) (ZU i0) ?_;refine ZC (o:=.lst (bs.map frD)) (Zm _ _) (ZU i0) ?_;exact hx _ _ #[rfl,_,q0.2,rfl]
     .skip
      refine ifD (λ_=>?_) (λ_=>?_)
      .have zl:Sz 80 (wi/9):=Sz.of (10^20) ()
       have r:=Yn (a:=wi/9*300007) (b:=10^Int.toNat 14) ⋯;refine#[ZE zl (Sz.of (n:=80) (10^20) ⋯),show (0:Int)<10^Int.toNat 14 by decide,?_];exact hx _ _ #[rfl,_,r,rfl]
      .exact hx _ _ #[rfl,_,#[(),()],rfl]
    .skip
     refine ifD (λ_=>?_) (λ_=>?_)
     .have zl:Sz 80 (wi/9):=Sz.of (10^20) ()
      have r:=Yn (a:=wi/9*300007) (b:=10^Int.toNat 14) ⋯;refine#[ZE zl (Sz.of (n:=80) (10^20) ⋯),show (0:Int)<10^Int.toNat 14 by decide,?_];exact hx _ _ #[rfl,_,r,rfl]
     .exact hx _ _ #[rfl,_,#[(),()],rfl]
   rintro dl2 S2 ⟨rfl,wid,hwid,rfl⟩;refine Ys (n:=S.length) (S1:=S++[.lst (bs.map frD)]) (xs:=bs.map frD) (y:=frD (low,low+wid)) kId (Zm _ _) kId (by rw[zB];lia) ?_;refine#[(),bs++[(low,low+wid)],by simp[lb],λp hp=>?_,by rw[We,zZ];rfl,_,_,_,rfl];rcases zX.mp hp with z|z
   .exact ob p z
   .cases zO.mp z;exact#[hlow,by show 0<=low+wid-low;lia,by show low+wid-low<_;lia]
  .rename_i c;have ek:k=q:=by rw[zK] at c;lia
   subst ek;refine h bs lb λp hp=>?_
   obtain⟨⟨p1,p2⟩,p3,p4⟩:=ob p hp;unfold Sz;exact#[(),(),()]
def D2:Fx 1 (top 96) DF:=
 mF 4 (λhr hn=>s!"DSc%a1DSd/a1DIPK=c1Q=%d11OR(,2,-~/d111,1.DI=c1OR(,2,-%/d111,1.DI=c1DSe+1%d1OR(,2,+*e-%/d1111e.DI=c1OR(,2,~db,+1%|db1.DSf[(,2,2,2,2.-c1OR(f,~db,~|dbb.") λS Q ex=>by
  refine kI λc=>kI λm=>kN ?_
  rintro⟨⟨c0,c1,m1,m60⟩,h⟩;have zm:Sz 100 m:=Sz.of (10^20) ()
  have r1:=Yn (a:=c/7) (b:=m) ()
  have r2:=Yn (a:=c/7/m) (b:=m) ()
  have two:∀w:Str,w="plus"\/w="minus"\/w="times"->Q (.tup [.str w,.int (c/7%m),.int (c/7/m%m)]) S:=λw hw=>by
   rcases hw with rfl|rfl|rfl
   .exact h (.plus _ _) λq=>#[r1,r2]
   .exact h (.minus _ _) λq=>#[r1,r2]
   .exact h (.times _ _) λq=>#[r1,r2]
  have num:∀t b:Int,1<=b->b<=10^9->Int.gcd t b=1->t.natAbs<=10^9->Q (.tup [.str "number",.int t,.int b]) S:=λt b a1 a2 a3 a4=>h (.number t b) λq=>#[#[a1,a2],a3,a4]
  refine ifD (λe0=>?_) (λe0=>?_)
  .refine ifD (λe1=>?_) (λe1=>?_)
   .have r:=Yn (a:=c/7/5) (b:=1999999999) ⋯;exact#[show (0:Int)<1999999999 by decide,num (c/7/5%1999999999-999999999) 1 ⋯ ⋯ (Np _) ()]
   .refine ifD (λ_=>?_) (λz=>absurd e0 z);exact num (c/7/5%41-20) 1 ⋯ ⋯ (Np _) ()
  .refine ifD (λz=>absurd z e0) (λ_=>?_);refine ifD (λe1=>?_) (λe1=>?_)
   .have a1:0<=c/7%8/\c/7%8<8:=#[(),()]
    have a2:0<=c/7/8%25/\c/7/8%25<25:=#[(),()]
    have z1:Sz 10 (2+c/7%8):=Sz.of 1000 ()
    have z2:Sz 10 (c/7/8%25-12):=Sz.of 1000 ();refine#[ZE z1 z2,num _ _ () () (CB _ _) ?_];have z3:=z1.mul z2;unfold Sz at z3;lia
   .refine ifD (λe2=>?_) (λe2=>?_)
    .exact#[(),zm.fd (),h (.power (c/7%m) (2+c/7/m%3)) λq=>#[r1,(),()]]
    .have e3:c%7=3\/c%7=4\/c%7=5\/c%7=6:=by lia
     rcases e3 with e|e|e|e
     .exact XM 0 () rfl #[(),zm.fd (),(),two _ (.inl rfl)]
     .exact XM 1 () rfl #[(),zm.fd (),(),two _ (.inr (.inl rfl))]
     .exact XM 2 () rfl #[(),zm.fd (),(),two _ (.inr (.inr rfl))]
     .exact XM 3 () rfl #[(),zm.fd (),(),two _ (.inr (.inr rfl))]
def R6:Fx 1 (top 97) El:=
 mF 0 (λhr hn=>s!"DIPX=!a2Y=!a2OR1DI=!a2OR*[b!a!aOR+[b!a[b!a") λS Q ex=>by
  refine kD λd=>kR λr=>kN ?_
  rintro⟨v,ws,q,rfl,hl,ok,sm,h⟩;cases v with
  | number t b=>exact h
  | unknown k=>exact h
  | power i n=>
   obtain⟨hi,n2,n6⟩:=ok;have b:=sm i hi;refine ZC (o:=.lst (ws.map wtD)) hl (WM hi) ?_;refine#[ZE (m:=400) (n:=400) (Sz.of (10^20) ()) (Sz.of (10^20) ()),?_];have e:((ws.getD i.toNat 0:Nat):Int)*n=((Nd.wt ws (.power i n):Nat):Int):=by
    simp only[Nd.wt];rw[Int.natCast_mul];rw[xU (),yT]
   show Q (.int (((ws.getD i.toNat 0:Nat):Int)*n)) S;rw[e];exact h
  | plus i j=>
   refine ZC (o:=.lst (ws.map wtD)) hl (WM ok.1) ?_;exact ZC (o:=.lst (ws.map wtD)) hl (WM ok.2) h
  | minus i j=>
   refine ZC (o:=.lst (ws.map wtD)) hl (WM ok.1) ?_;exact ZC (o:=.lst (ws.map wtD)) hl (WM ok.2) h
  | times i j=>
   refine ZC (o:=.lst (ws.map wtD)) hl (WM ok.1) ?_;exact ZC (o:=.lst (ws.map wtD)) hl (WM ok.2) h
def EY:Fx 2 (top 98) K4:=
 mF 5 (λhr hn=>s!"D{Qs (x:="_law_k") (N:=[]) (caps:=[]) (ar:=ZA (top 98)) rfl rfl csc rfl ⋯ (i:=2) hn rfl rfl rfl YY (pv 1) pt0 (λ_ _ _ _ _ _=>(s!"(,2a."))}D{Qs (x:="_law_k") (N:=[]) (caps:=[]) (ar:=ZA (top 98)) rfl rfl csc rfl ⋯ (i:=3) hn rfl rfl rfl YY (pv 1) pt0 (λ_ _ _ _ _ _=>Zb)}D;eaDSfC{D2}e,$ac..DSgC{R6}fd.OIPKLg1Q{Zn (Qj hr) (dv 5) (dv 2) rfl}DEAcfOEAdgORc") λS Q ex=>by
  refine kR λc=>kI λq=>kN ?_
  rintro⟨cs,qn,hc,hint,rfl,hq,lc,h⟩;refine Th (j:=(qn:Nat)) (S1:=S) (λk=>.tup [.str "unknown",.int (k:Int)]) kId #[(),()] (λk hk S2 K pr hK=>by exact hK) ?_;have e:((List.range ((qn:Nat):Int).toNat).map λ(k:Nat)=>D.tup [.str "unknown",.int (k:Int)])=((List.range qn).map λ(k:Nat)=>Nd.unknown (k:Int)).map Nd.d:=by
   rw[yA,zK];rfl
  rw[e];refine Th (j:=(qn:Nat)) (S1:=S++[.lst (((List.range qn).map λ(k:Nat)=>Nd.unknown (k:Int)).map Nd.d)]) (λk=>.int 1) kId #[(),()] (λk hk S2 K pr hK=>by exact hK) ?_;have e2:((List.range ((qn:Nat):Int).toNat).map λ(k:Nat)=>D.int 1)=((List.range qn).map λ_=>(1:Nat)).map wtD:=by
   rw[yA,zK];rfl
  rw[e2];have l1:(S++[Ob.lst (((List.range qn).map λ(k:Nat)=>Nd.unknown (k:Int)).map Nd.d)]).length=S.length+1:=by simp
  refine X0 (n:=c) (o:=.lst cs) (λk dl' S'=>k<=cs.length/\E2 λ(ns:List Nd)(ws:List Nat)=>A7 (ZF qn ns ws) (1<=ns.length) (ns.length<=4+k) (Pre S S') (La S' S.length (ns.map Nd.d)) (S'[S.length+1]?=some (.lst (ws.map wtD))) (E3 λ(u4 u5 u6:Option D)=>dl'=[sR c,sI (qn:Nat),sR S.length,sR (S.length+1),u4,u5,u6])) #[zL _,_,_,CY qn,by simp;lia,by simp;lia,Pre.refl.push.push,Zo (Zm _ _),by rw[<- l1];exact Zm _ _,_,_,_,by rw[<- l1];rfl] (λk dl' S' z=>?_) ?_ ?_
  .obtain⟨_,_,_,_,_,_,p,_⟩:=z;exact p _ _ hc
  .rintro k x dl' S' nx ct ex' ⟨hk,ns,ws,net,n1,n4,pr',hS',hW',u4,u5,u6,rfl⟩ hn;have hk':=(zC.mp ex').1
   have hk'':k<cs.length:=hk';obtain⟨i,rfl,i0,i1⟩:=hint _ (zE ex');refine YW hS' ?_;rw[zB];refine#[#[i0,i1,(),()],λv ok=>?_];have okw:v.ok ws.length (qn:Nat):=by rw[net.len];exact ok _
   refine#[v,ws,_,rfl,hW',okw,λi hi=>(net.w1 (by rw[<- net.len];exact hi)).2,?_];have on:=hn _ _ #[(),ns,ws,net,n1,(),pr',hS',hW',sI i,some v.d,sI (v.wt ws:Nat),rfl];refine ifD (λe1=>?_) (λe1=>on);refine Oh hS' λb=>?_
   cases b with
   | false=>exact on
   | true=>
    refine Ys (n:=S.length) (S1:=S') (xs:=ns.map Nd.d) (y:=v.d) kId hS' kId (by rw[zB];lia) ?_;have nmm:S.length≠S.length+1:=by lia
    refine Ys (n:=S.length+1) (S1:=S'.set S.length (.lst (ns.map Nd.d++[v.d]))) (xs:=ws.map wtD) (y:=wtD (v.wt ws)) kId (ZY hW' nmm) kId (by rw[zB,net.len];lia) ?_;refine hn _ _ #[(),ns++[v],ws++[v.wt ws],net.snoc (ok _) (),by simp,by simp;lia,YH (YH pr' (zA _)) (),?_,?_,_,_,_,rfl]
    .rw[zZ];exact ZY (Yb hS') (Ne.symm nmm)
    .rw[zZ];exact Yb (ZY hW' nmm)
  .rintro dl' S' ⟨hk,ns,ws,net,n1,n4,pr',hS',hW',u4,u5,u6,rfl⟩;exact h ns ws _ _ net n1 () pr' (zA _) hS'
def UM:Fx 1 (top 99) Ad:=
 mF 1 (λhr hn=>s!"DSa$ba.DSb$bb.D{Oc PassesOwn.never (s!">b1") (s!"DSc~abDSabOSbc")}ORa") λS Q ex=>by
  refine kI λa=>kI λb=>kN λh=>?_
  refine#[λm dl' S'=>S'=S/\∃(x y:Int)(o:Option D),dl'=[sI x,sI y,o]/\0<=x/\0<=y/\Int.gcd x y=Int.gcd a b/\m=y.toNat,#[(X3 b).toNat,rfl,X3 a,X3 b,none,rfl,OL a,OL b,Dk a b,rfl],?_];rintro m dl' S' ⟨rfl,x,y,o,rfl,hx,hy,hg,rfl⟩;refine ifD (λc=>?_) (λc=>?_)
  .exact#[c,#[(x%y).toNat,by have:=Yn (a:=x) c;lia,rfl,y,x%y,_,rfl,hy,(Yn (a:=x) c).1,(Em x y).trans hg,rfl]]
  .have hy0:y=0:=by lia
   subst hy0;have e:((Int.gcd a b:Nat):Int)=x:=by rw[<- hg,Int.gcd_zero_right];lia
   rw[e] at h;exact h
def Nu:Fx 1 (top 100) Ju:=
 mF 2 (λhr hn=>s!"DSc1D:db.OSc*caORc") λS Q ex=>by
  refine kI λx=>kI λn=>kN ?_
  rintro⟨⟨h0,h6,sx⟩,h⟩;refine#[#[(),()],λk dl' S'=>A3 (S'=S) (k<=n.toNat) (E2 λ(z:Int)(o:Option D)=>z=x^k/\dl'=[sI x,sI n,sI z,o]),#[rfl,zL _,1,none,(xP x).symm,rfl],?_];rintro k dl' S' ⟨rfl,hk,z,o,rfl,rfl⟩;refine Vj (λc=>?_) (λc=>?_)
  .exact#[ZE (m:=12001) (n:=2000) ((sx.pow k).mono ()) sx,rfl,(),_,_,(yD x k).symm,rfl]
  .have e:k=n.toNat:=by lia
   subst e;exact h
def Nn:Fx 2 (top 101) F8:=
 mF 4 (λhr hn=>s!"DSc).D;daOJ=!d2OEAc(,!d,!d.OJ=!d2OEAc[b!dOJ=!d2DSe[c!dOEAc(,C{Nu},!e,!d.,C{Nu},!e,!d..DSe[c!dDSf[c!dOJ=!d2OEAc(,*!e!f,*!e!f.OJ=!d2OEAc(,+*!e!f*!f!e,*!e!f.OEAc(,-*!e!f*!f!e,*!e!f.ORc") λS Q ex=>by
  refine kR λa=>kR λb=>kN ?_
  rintro⟨ns,ws,ps,ha,hb,net,zp,hl,h⟩;refine X0 (n:=a) (o:=.lst (ns.map Nd.d)) (λk dl' S'=>k<=ns.length/\Pre S S'/\La S' S.length ((Zq ps (ns.take k)).map frD)/\∃u3 u4 u5:Option D,dl'=[sR a,sR b,sR S.length,u3,u4,u5]) #[zL _,Pre.refl.push,Zm _ _,_,_,_,rfl] (λk dl' S' z=>z.2.1 _ _ ha) ?_ ?_
  .rintro k x dl' S' nx ct ex' ⟨hk,pr,hf,u3,u4,u5,rfl⟩ hn;have ex2:(ns.map Nd.d)[k]?=some x:=ex';rw[zF] at ex2;obtain⟨v,hv,rfl⟩:=zH.mp ex2;have hk':=(zC.mp hv).1
   have ln:(Zq ps (ns.take k)).length=k:=by rw[Xv,zG];lia
   have okv:v.ok (Zq ps (ns.take k)).length ps.length:=by rw[ln];exact(net.ok k v hv).1
   have pz:Pz 1800 (Zq ps (ns.take k)):=Pz.of_w (VZ net rfl zp k ()) λj hj=>(net.w1 (i:=j) #[(),()]).2
   have aZ:∀u3 u4 u5:Option D,nx [sR a,sR b,sR S.length,u3,u4,u5] (S'.set S.length (.lst ((Zq ps (ns.take k)).map frD++[frD (v.due (Zq ps (ns.take k)) ps)]))):=λu3 u4 u5=>by
    refine hn _ _ #[(),YH pr (zA _),?_,_,_,_,rfl];rw[YI hv,X5,zZ];exact Yb hf
   cases v with
   | number t d=>
    refine Ys (n:=S.length) (S1:=S') (xs:=(Zq ps (ns.take k)).map frD) (y:=frD (t,d)) kId hf kId (by rw[zB,ln];lia) ?_;exact aZ _ _ _
   | unknown j=>
    refine Ys (n:=S.length) (S1:=S') (xs:=(Zq ps (ns.take k)).map frD) (y:=frD (gt ps j)) kId hf (λK hK=>ZC (o:=.lst (ps.map frD)) (pr _ _ hb) (ZU okv) hK) (by rw[zB,ln];lia) ?_;exact aZ _ _ _
   | power i n=>
    obtain⟨ii,n2,n6⟩:=okv;have bi:=pz.at ii;refine ZC (o:=.lst ((Zq ps (ns.take k)).map frD)) hf (ZU ii) ?_;refine Ys (n:=S.length) (S1:=S') (xs:=(Zq ps (ns.take k)).map frD) (y:=frD (Nd.due (Zq ps (ns.take k)) ps (.power i n))) kId hf (λK hK=>by exact#[#[(),n6,bi.2.1.mono ⋯],#[(),n6,bi.2.2.mono ⋯],hK]) (by rw[zB,ln];lia) ?_;exact aZ _ _ _
   | times i j=>
    have ii:=okv.1
    have jj:=okv.2
    have bi:=pz.at ii
    have bj:=pz.at jj;refine ZC (o:=.lst ((Zq ps (ns.take k)).map frD)) hf (ZU ii) ?_;refine ZC (o:=.lst ((Zq ps (ns.take k)).map frD)) hf (ZU jj) ?_;refine Ys (n:=S.length) (S1:=S') (xs:=(Zq ps (ns.take k)).map frD) (y:=frD (Nd.due (Zq ps (ns.take k)) ps (.times i j))) kId hf (λK hK=>by exact#[ZE bi.2.1 bj.2.1,ZE bi.2.2 bj.2.2,hK]) (by rw[zB,ln];lia) ?_;exact aZ _ _ _
   | plus i j=>
    have ii:=okv.1
    have jj:=okv.2
    have bi:=pz.at ii
    have bj:=pz.at jj;refine ZC (o:=.lst ((Zq ps (ns.take k)).map frD)) hf (ZU ii) ?_;refine ZC (o:=.lst ((Zq ps (ns.take k)).map frD)) hf (ZU jj) ?_;refine Ys (n:=S.length) (S1:=S') (xs:=(Zq ps (ns.take k)).map frD) (y:=frD (Nd.due (Zq ps (ns.take k)) ps (.plus i j))) kId hf (λK hK=>by exact#[ZE bi.2.1 bj.2.2,ZE bj.2.1 bi.2.2,ZE bi.2.2 bj.2.2,hK]) (by rw[zB,ln];lia) ?_;exact aZ _ _ _
   | minus i j=>
    have ii:=okv.1
    have jj:=okv.2
    have bi:=pz.at ii
    have bj:=pz.at jj;refine ZC (o:=.lst ((Zq ps (ns.take k)).map frD)) hf (ZU ii) ?_;refine ZC (o:=.lst ((Zq ps (ns.take k)).map frD)) hf (ZU jj) ?_;refine Ys (n:=S.length) (S1:=S') (xs:=(Zq ps (ns.take k)).map frD) (y:=frD (Nd.due (Zq ps (ns.take k)) ps (.minus i j))) kId hf (λK hK=>by exact#[ZE bi.2.1 bj.2.2,ZE bj.2.1 bi.2.2,ZE bi.2.2 bj.2.2,hK]) (by rw[zB,ln];lia) ?_;exact aZ _ _ _
  .rintro dl' S' ⟨hk,pr,hf,u3,u4,u5,rfl⟩;have e:ns.take (Zk (.lst (ns.map Nd.d))).length=ns:=by
    show ns.take (ns.map Nd.d).length=ns;rw[zB,yH]
   rw[e] at hf;exact h _ _ pr (zA _) hf
def OV:Fx 1 (top 103) Ib:=
 mF 0 (λhr hn=>s!"DI{Zn (Qj hr) (dv 1) (dv 0) rfl}OEAabOR{LX (k:=1) hr ⋯ (dv 0) (pv 1)}") λS Q ex=>by
  refine kR λa=>kD λd=>kN ?_
  rintro⟨q,v,ns,ws,rfl,ha,l9,net,ok,h16,h⟩;have aZ:∀(T:Sto)(j:Nat)(ns':List Nd)(ws':List Nat),Gr q a 1 S ns ws T ns' ws'->ns'[j]?=some v->Q (.int (j:Int)) T:=λT j ns' ws' gr hj=>by
   refine h T j ns' ws' gr (zC.mp hj).1 hj ?_ (Gv gr ok hj);rw[(gr.net.ok j v hj).2.1];exact CS gr net ok
  obtain⟨o,e1,e2,e3⟩:=Qu v ns;refine G7 (o:=o) ha e2 ?_;cases o with
  | some j=>
   refine Y5 ?_;refine Ls (n:=a) (v:=v) (ns:=ns) kId kId ha e1 ?_;exact aZ S j ns ws ((Gr.refl net ha).mono ⋯) (e3 j rfl)
  | none=>
   refine Y0 ?_;refine Ys (n:=a) (S1:=S) (xs:=ns.map Nd.d) (y:=v.d) kId ha kId (by rw[zB];lia) ?_;have hm:(S.set a (.lst (ns.map Nd.d++[v.d])))[a]?=some (.lst ((ns++[v]).map Nd.d)):=by
    rw[zZ];exact Yb ha
   obtain⟨o2,f1,f2,f3⟩:=Qu v (ns++[v]);cases o2 with
   | none=>
    obtain⟨k,hk⟩:∃k,(ns++[v])[k]?=some v:=#[ns.length,by simp];exact absurd f2 (any_some hk)
   | some j=>
    refine Ls (n:=a) (v:=v) (ns:=ns++[v]) kId kId hm f1 ?_;exact aZ _ j (ns++[v]) (ws++[v.wt ws]) #[net.snoc ok h16,#[[v],rfl,by simp],#[_,rfl],hm,by simp,λx o hx e=>ZY e (Ne.symm hx)] (f3 j rfl)
def Cb:Fx 2 (top 102) Bb:=
 mF 2 (λhr hn=>s!"DSb).D;caOEAbC{R6}cb.ORb") λS Q ex=>by
  refine kR λa=>kN ?_
  rintro⟨ns,ws,q,ha,net,l70,h⟩;refine X0 (n:=a) (o:=.lst (ns.map Nd.d)) (λk dl' S'=>k<=ns.length/\Pre S S'/\La S' S.length ((ws.take k).map wtD)/\∃u:Option D,dl'=[sR a,sR S.length,u]) #[zL _,Pre.refl.push,Zm _ _,_,rfl] (λk dl' S' z=>z.2.1 _ _ ha) ?_ ?_
  .rintro k x dl' S' nx ct ex' ⟨hk,pr,hf,u,rfl⟩ hn;have ex2:(ns.map Nd.d)[k]?=some x:=ex';rw[zF] at ex2;obtain⟨v,hv,rfl⟩:=zH.mp ex2;have hk':=(zC.mp hv).1;obtain⟨okv,ew,sm⟩:=IF net hv;have ln:(ws.take k).length=k:=by rw[zG,net.len];lia
   refine Ys (n:=S.length) (S1:=S') (xs:=(ws.take k).map wtD) (y:=wtD (ws.getD k 0)) kId hf (λK hK=>?_) (by rw[zB,ln];lia) ?_
   .refine#[v,ws.take k,q,rfl,hf,okv,sm,?_];rw[ew];exact hK
   .refine hn _ _ #[(),YH pr (zA _),?_,_,rfl];have ek:ws[k]?=some (ws.getD k 0):=by
     rw[zW,zD (by rw[net.len];lia)];rfl
    rw[YI ek,zZ];exact Yb hf
  .rintro dl' S' ⟨hk,pr,hf,u,rfl⟩;have e:ws.take (Zk (.lst (ns.map Nd.d))).length=ws:=by
    show ws.take (ns.map Nd.d).length=ws;rw[zB,<- net.len,yH]
   rw[e] at hf;exact h _ pr hf
def JM:Fx 3 (top 104) JL:=
 mF 8 (λhr hn=>s!"DSf--$aa.1~/d1$c,$aa.,1.DSg[(,2,2,2.%d1DSh).D;ibDEAh(,+!i/*-!i!i%e11c.OSe/e1DSj[C{Nn},Za56+f1h.fDSkC{UM},!j,!j.DSl|!jkDSm|!jkDIPX=%/d111XG$bl.^11XGm^11Y>[C{Cb}a.f1OR(gf.OR(g,C{OV}a,(,2f,C{OV}a,(,2lm.....") λS Q ex=>by
  refine kR λa=>kR λb=>kI λg=>kI λc=>kI λpl=>kN ?_
  rintro⟨q,ns,ws,bs,ha,hb,net,lb,q4,sb,hg,c0,p0,l60,h⟩;have lt:=ZT ha
  have lt2:=ZT hb;obtain⟨zr,wz,ez⟩:∃(zero:Bool)(k:Nat),c%3=(k:Int)/\([.str "zero",.str "zero",.str "least"]:List D)[k]?=some (.str (if zero then "zero" else "least")):=by
   have:c%3=0\/c%3=1\/c%3=2:=by lia
   rcases this with e|e|e
   .exact#[true,0,e,rfl]
   .exact#[true,1,e,rfl]
   .exact#[false,2,e,rfl]
  refine ZW (λdl2 S2=>S=S2/\∃k:Nat,k<ns.length/\dl2=[sR a,sR b,sI g,sI c,sI pl,sI (k:Int),none,none,none,none,none,none,none]) (λnx hx=>?_) ?_
  .refine YW ha ?_;refine YW ha ?_;rw[zB];have em:0<(if (4:Int)<(ns.length:Int) then 4 else (ns.length:Int))/\(if (4:Int)<(ns.length:Int) then 4 else (ns.length:Int))<=ns.length:=by split<;>lia
   have rm:=Yn (a:=c/3) em.1;refine#[em.1,hx _ _ #[rfl,((ns.length:Int)-1-c/3%(if (4:Int)<(ns.length:Int) then 4 else (ns.length:Int))).toNat,(),?_]];rw[xU ()];rfl
  rintro dl2 S2 ⟨rfl,at',lat,rfl⟩;refine ZW (λdl2 S2=>S=S2/\dl2=[sR a,sR b,sI g,sI c,sI pl,sI (at':Int),some (.str (if zr then "zero" else "least")),none,none,none,none,none,none]) (λnx hx=>?_) ?_
  .exact XM wz ez.1 ez.2 (hx _ _ #[rfl,rfl])
  rintro dl2 S2 ⟨rfl,rfl⟩;refine MV (λdl2 S2=>∃ps:LI,A4 (ps.length=bs.length) (Pz 110 ps) (S2=S++[.lst (ps.map frD)]) (E2 λ(x4 x8:Option D)=>dl2=[sR a,sR b,sI g,sI c,x4,sI (at':Int),some (.str (if zr then "zero" else "least")),sR S.length,x8,none,none,none,none])) (λnx hx=>?_) ?_
  .refine X0 (n:=b) (o:=.lst (bs.map frD)) (λi dl' S'=>i<=bs.length/\E2 λ(ps:LI)(pl:Int)=>A5 (ps.length=i) (Pz 110 ps) (0<=pl) (S'=S++[.lst (ps.map frD)]) (∃x8:Option D,dl'=[sR a,sR b,sI g,sI c,sI pl,sI (at':Int),some (.str (if zr then "zero" else "least")),sR S.length,x8,none,none,none,none])) #[zL _,[],pl,rfl,λp hp=>(nomatch hp),p0,rfl,_,rfl] (λi dl' S' z=>?_) ?_ ?_
   .obtain⟨_,_,_,_,_,_,rfl,_⟩:=z;exact Zo hb
   .rintro i x dl' S' nx2 ct hx2 ⟨hi,ps,pl,lp,zp,pl0,rfl,x8,rfl⟩ hn;have hx3:(bs.map frD)[i]?=some x:=hx2;rw[zF] at hx3;obtain⟨s,hs,rfl⟩:=zH.mp hx3;have li:=(zC.mp hs).1;obtain⟨s1,s2,s3⟩:=sb s (zE hs);have z1:Sz 53 (s.2-s.1):=by unfold Sz at *;lia
    have z2:Sz 5 (pl%9):=Sz.of 16 ()
    have z3:=(z1.mul z2).div (j:=8) ⋯;refine Ys (n:=S.length) (S1:=S++[.lst (ps.map frD)]) (xs:=ps.map frD) (y:=frD (s.1+(s.2-s.1)*(pl%9)/8,g)) kId (Zm _ _) (λK hK=>#[ZE z1 z2,hK]) (by rw[zB];lia) ?_;refine hn _ _ #[(),ps++[(s.1+(s.2-s.1)*(pl%9)/8,g)],pl/9,by simp[lp],λp hp=>?_,(),by rw[We,zZ];rfl,_,rfl];rcases zX.mp hp with z|z
    .exact zp p z
    .cases zO.mp z;unfold Sz at *
     refine#[hg.1,?_,?_]
     .show (s.1+(s.2-s.1)*(pl%9)/8).natAbs<_;lia
     .show g.natAbs<_;lia
   .rintro dl' S' ⟨hi,ps,pl,lp,zp,pl0,rfl,x8,rfl⟩;refine hx _ _ #[ps,?_,zp,rfl,_,_,rfl];rw[lp];exact zB ..
  rintro dl2 S2 ⟨ps,lp,zp,rfl,x4,x8,rfl⟩;have at7:=Zm S (.lst (ps.map frD));refine X7 (n:=a) (o:=.lst (ns.map Nd.d)) (lo:=none) (hi:=some ((at':Int)+1)) (S3:=S++[.lst (ps.map frD)]) kId kId kId (Zo ha) ?_;have ec:Yi (ns.map Nd.d) none (some ((at':Int)+1))=(ns.take (at'+1)).map Nd.d:=by
   rw[U4 () (by rw[zB];lia),wA];rfl
  rw[show Zk (Ob.lst (ns.map Nd.d))=ns.map Nd.d from rfl,ec];have netP:ZF ((ps.length:Nat):Int) ns ws:=by rw[lp,lb];exact net
  refine#[ns.take (at'+1),ws.take (at'+1),ps,Zm _ _,Zo at7,netP.take _,zp,by rw[zG];lia,λT m pr lm hf=>?_];have prS:Pre S T:=λn o e=>pr n o (Zo (Zo e))
  have l1:(Zq ps (ns.take (at'+1))).length=at'+1:=by rw[Xv,zG];lia
  have ik:inR (((Zq ps (ns.take (at'+1))).length:Nat):Int) (at':Int):=#[(),()]
  have pz:Pz 1800 (Zq ps (ns.take (at'+1))):=Pz.of_w (VZ netP rfl zp (at'+1) ()) λj hj=>(net.w1 (i:=j) #[(),()]).2
  obtain⟨d1,d2,d3⟩:=pz.at ik;refine ZC (o:=.lst ((Zq ps (ns.take (at'+1))).map frD)) hf (ZU ik) ?_;generalize gt (Zq ps (ns.take (at'+1))) (at':Int)=d at d1 d2 d3;obtain⟨gp,gl,bp,cop,_⟩:=NB (T:=d.1) (B:=d.2) ();have zg:Sz 1800 ((Int.gcd d.1 d.2:Nat):Int):=Sz.mid (a:=0) (Sz.of 1 ⋯) d3 () gl;refine#[zg.fd (),zg.fd (),?_];generalize ((Int.gcd d.1 d.2:Nat):Int)=s at cop bp;have t9:(10:Int)^Int.toNat 9=10^9:=rfl
  have ret:∀T:Sto,Pre S T->Q (rwD (zr,at')) T:=λT p=>h T ns ws (zr,at') ((Gr.pre net ha p (Y1 p)).mono ()) lat
  refine ifD (λ_=>ret T prS) (λ_=>?_);refine ifD (λ_=>ret T prS) (λc2=>?_);refine ifD (λ_=>ret T prS) (λc3=>?_);refine#[ns,ws,q,prS _ _ ha,net,(),λT2 p2 h2=>?_];have P2:Pre S T2:=λn o e=>p2 n o (prS _ _ e)
  refine ZC (o:=.lst (ws.map wtD)) h2 (WM (i:=(at':Int)) #[(),by rw[net.len];lia]) ?_;refine ifD (λ_=>ret T2 P2) (λc4=>?_);rw[zK] at c4;have a2:(d.1/s).natAbs<=10^9:=by
   unfold X3 at c2;split at c2<;>lia
  have g0:=Gr.pre net ha P2 (Y1 P2);refine#[q,.number (d.1/s) (d.2/s),ns,ws,rfl,g0.nd,(),net,#[#[bp,()],cop,a2],show 1<=16 by decide,λT3 j ns3 ws3 gr3 lj hj wj dj=>?_];have ln3:=gr3.ln
  have w1:=gr3.wt net lat
  have wj1:ws3.getD j 0=1:=wj;refine#[q,.minus at' j,ns3,ws3,rfl,gr3.nd,(),gr3.net,#[#[(),()],(),()],?_,λT4 j4 ns4 ws4 gr4 lj4 _ _ _=>?_]
  .simp only[Nd.wt,zK];lia
  .exact h T4 ns4 ws4 (zr,j4) (((g0.trans gr3).trans gr4).mono ()) lj4
def Hh:Fx 4 (top 105) zar:=
 mF 4 (λhr hn=>s!"DSe).DSf%C{Xe}a,1.1DI>f1OSf+1%f1D:gf.DSh/C{Xe}a,1.1DI=%/C{Xe}a,1.111OSh/C{Xe}a,+1g.1OEAeC{JM}bcd,C{Xe}a,+1g.h.ORe") λS Q ex=>by
  refine kR λn=>kR λa=>kR λb=>kI λg=>kN ?_
  rintro⟨q,xs,ns,ws,bs,hn,ha,hb,nab,net,lb,q4,sb,hg,l50,h⟩;have lt:=ZT ha
  have na:n≠a:=λe=>by rw[e,ha] at hn;cases hn
  have g0:=Gr.push net ha [.lst []]
  have at0:=Zm S (.lst []);refine MV (λdl2 S2=>S2=S++[.lst []]/\∃k:Int,(0<=k/\k<8)/\dl2=[sR n,sR a,sR b,sI g,sR S.length,sI k,none,none]) (λnx hx=>?_) ?_
  .refine#[xs,Zo hn,#[⋯,⋯],λc hc=>?_];exact hx _ _ #[rfl,_,#[(),()],rfl]
  rintro dl2 S2 ⟨rfl,k0,hk0,rfl⟩;refine ZW (λdl2 S2=>S2=S++[.lst []]/\∃k:Nat,k<=3/\dl2=[sR n,sR a,sR b,sI g,sR S.length,sI (k:Int),none,none]) (λnx hx=>?_) ?_
  .refine ifD (λc=>?_) (λc=>?_)
   .refine hx _ _ #[rfl,(1+k0%3).toNat,(),?_];rw[xU ()];rfl
   .refine hx _ _ #[rfl,k0.toNat,(),?_];rw[xU ()]
  rintro dl2 S2 ⟨rfl,many,hm,rfl⟩;refine#[#[(),()],λk dl' S'=>k<=many/\E3 λ(ns':List Nd)(ws':List Nat)(rows:List (Bool×Nat))=>A5 (Gr q a (2*k) S ns ws S' ns' ws') (rows.length=k) (∀r∈rows,r.2<ns'.length) (La S' S.length (rows.map rwD)) (E2 λ(u6 u7:Option D)=>dl'=[sR n,sR a,sR b,sI g,sR S.length,sI (many:Int),u6,u7]),#[zL _,ns,ws,[],g0,rfl,λr hr=>(nomatch hr),at0,_,_,rfl],?_];rintro k dl' S' ⟨hk,ns',ws',rows,gr,lr,ri,hr,u6,u7,rfl⟩;have gl:=gr.ln;split
  .rename_i c;have ck:k<many:=by rw[zK] at c;exact c
   have hn':=gr.kp _ _ na hn
   have hb':=gr.kp _ _ (Ne.symm nab) hb;refine ZW (λdl2 S2=>S'=S2/\∃p:Int,0<=p/\dl2=[sR n,sR a,sR b,sI g,sR S.length,sI (many:Int),sI (k:Int),sI p]) (λnx hx=>?_) ?_
   .refine#[xs,hn',#[⋯,⋯],λc1 hc1=>?_];exact hx _ _ #[rfl,c1/97,(),rfl]
   rintro dl2 S2 ⟨rfl,pp,pp0,rfl⟩;refine ZW (λdl2 S2=>S'=S2/\∃p:Int,0<=p/\dl2=[sR n,sR a,sR b,sI g,sR S.length,sI (many:Int),sI (k:Int),sI p]) (λnx hx=>?_) ?_
   .refine#[xs,hn',#[⋯,⋯],λc2 hc2=>?_];refine ifD (λ_=>?_) (λ_=>?_)
    .refine#[xs,hn',#[(),()],λc3 hc3=>?_];exact hx _ _ #[rfl,c3/97,(),rfl]
    .exact hx _ _ #[rfl,pp,pp0,rfl]
   rintro dl2 S2 ⟨rfl,p,p0,rfl⟩;refine GJ (n:=S.length) (S1:=S') (xs:=rows.map rwD) (λy T=>∃(ns2:List Nd)(ws2:List Nat)(r:Bool×Nat),y=rwD r/\Gr q a 2 S' ns' ws' T ns2 ws2/\r.2<ns2.length) kId hr (λK hK=>?_) (λy T z=>?_) (by rw[zB];lia) λy T z=>?_
   .refine#[xs,hn',#[(),()],λc4 hc4=>?_];exact#[q,ns',ws',bs,gr.nd,hb',gr.net,lb,q4,sb,hg,hc4.1,p0,#[(),()],λT ns2 ws2 r g2 lr2=>hK _ _ #[ns2,ws2,r,rfl,g2,lr2]]
   .obtain⟨ns2,ws2,r,rfl,g2,lr2⟩:=z;exact g2.kp _ _ () hr
   .obtain⟨ns2,ws2,r,rfl,g2,lr2⟩:=z;have gl2:=g2.ln;refine#[(),ns2,ws2,rows++[r],((gr.trans g2).put (n:=S.length) () (zA _)).mono (),by simp[lr],λx hx=>?_,?_,_,_,rfl]
    .rcases zX.mp hx with z|z
     .have:=ri x z;lia
     .cases zO.mp z;exact lr2
    .rw[zZ];exact Yb (g2.kp _ _ () hr)
  .rename_i c;have ek:k=many:=by rw[zK] at c;lia
   exact h S' S.length ns' ws' rows (gr.mono ()) () ri (zA _) hr
def Fq:Fx 5 (top 121) Jq:=
 mF 6 (λhr hn=>s!"DSb[(,1,1,1,1,1,1.%C{Xe}a,1.1DScC{Be},C{Xe}a,1..DSdC{Ht}ab.DSeC{EY},{AG (x:="_law_k") (N:=["_law_script"]) (caps:=[0]) (ar:=ZA (top 121)) rfl rfl csc rfl ⋯ rfl YY (Za Zb (Za (s!"$c,$aa.,1.") Zg)) pt0 (λ_ _ _ _ _ _=>(s!"C{Xe}ba."))}b.DSfC{Hh}aedc.DSg%C{Xe}a,1.1DI>b1OSg%g1OR(efdc,+1%C{Xe}a,1.1g.") λS Q ex=>by
  refine kR λn=>kN ?_
  rintro⟨ns,hn,ln,h⟩;have ln0:=ZT hn;refine ZW (λdl S'=>S=S'/\∃q:Nat,(1<=q/\q<=4)/\dl=[sR n,sI (q:Int),none,none,none,none,none]) (λnx hx=>?_) ?_
  .refine#[ns,hn,#[⋯,⋯],λc hc=>?_];obtain⟨q,k,hq,ek,eq⟩:∃q k:Nat,(1<=q/\q<=4)/\c%6=(k:Int)/\([.int 1,.int 2,.int 1,.int 2,.int 3,.int 4]:List D)[k]?=some (.int (q:Int)):=by
    have:c%6=0\/c%6=1\/c%6=2\/c%6=3\/c%6=4\/c%6=5:=by lia
    rcases this with e|e|e|e|e|e
    .exact#[1,0,⋯,e,rfl]
    .exact#[2,1,⋯,e,rfl]
    .exact#[1,2,⋯,e,rfl]
    .exact#[2,3,⋯,e,rfl]
    .exact#[3,4,⋯,e,rfl]
    .exact#[4,5,⋯,e,rfl]
   exact XM k ek eq (hx _ _ #[rfl,q,hq,rfl])
  rintro dl S0 ⟨rfl,q,hq,rfl⟩;refine ZW (λdl S'=>S=S'/\∃g:Int,(Gg g)/\dl=[sR n,sI (q:Int),sI g,none,none,none,none]) (λnx hx=>?_) ?_
  .exact#[ns,hn,#[⋯,⋯],λc hc=>#[hc.1,λg g1 g2=>hx _ _ #[rfl,g,#[g1,g2],rfl]]]
  rintro dl S0 ⟨rfl,g,hg,rfl⟩;refine ZW (λdl S'=>∃bs:LP2,A4 (bs.length=q) (Spn 51 bs) (S'=S++[.lst (bs.map frD)]) (dl=[sR n,sI (q:Int),sI g,sR S.length,none,none,none])) (λnx hx=>?_) ?_
  .exact#[ns,q,hn,rfl,hq,λbs lb sb=>hx _ _ #[bs,lb,sb,rfl,rfl]]
  rintro dl S0 ⟨bs,lb,sb,rfl,rfl⟩;have P1:Pre S (S++[Ob.lst (bs.map frD)]):=Pre.refl.push;refine ZW (λdl S'=>Pre (S++[.lst (bs.map frD)]) S'/\E3 λ(vs:List Nd)(ws:List Nat)(m:Nat)=>A5 (ZF q vs ws) (1<=vs.length/\vs.length<=24) (S.length+1<=m) (La S' m (vs.map Nd.d)) (dl=[sR n,sI (q:Int),sI g,sR S.length,sR m,none,none])) (λnx hx=>?_) ?_
  .have lm:0<=(if (19:Int)<(ns.length:Int) then 19 else (ns.length:Int))/\(if (19:Int)<(ns.length:Int) then 19 else (ns.length:Int))<=19:=by split<;>lia
   refine Ah (S1:=S++[.lst (bs.map frD)]) (lo:=12) (hi:=if (19:Int)<(ns.length:Int) then 19 else (ns.length:Int)) (λc=>0<=c/\c<2147483629) (λK hK=>?_) #[⋯,lm.1,()] (λk S2' K k0 k1 pr hK=>?_) λcs lc pc=>?_
   .refine U0 (xs:=ns.map D.int) (P1 _ _ hn) ?_;rw[zB];exact hK
   .exact#[ns,pr _ _ (P1 _ _ hn),#[(),()],λc hc=>hK c hc]
   .refine#[cs.map D.int,q,Zm _ _,λx hx=>?_,rfl,hq,by rw[zB];lia,λvs ws T m net n1 n2 pr lm' hT=>?_]
    .obtain⟨c,hc,rfl⟩:=zP.mp hx;exact#[c,rfl,pc c hc]
    .exact hx _ _ #[λx o z=>pr _ _ (Zo z),vs,ws,m,net,#[n1,n2],by simp at lm';lia,hT,rfl]
  rintro dl T ⟨PT,vs,ws,m,net,hv,m3,hm,rfl⟩;have hb:T[S.length]?=some (.lst (bs.map frD)):=PT _ _ (Zm _ _);refine ZW (λdl S'=>Pre S S'/\E4 λ(vs:List Nd)(ws:List Nat)(rows:List (Bool×Nat))(mr:Nat)=>A8 (ZF q vs ws) (vs.length<=30) (La S' S.length (bs.map frD)) (La S' m (vs.map Nd.d)) (La S' mr (rows.map rwD)) (rows.length<=3) (∀r∈rows,r.2<vs.length) (dl=[sR n,sI (q:Int),sI g,sR S.length,sR m,sR mr,none])) (λnx hx=>?_) ?_
  .refine#[q,ns,vs,ws,bs,PT _ _ (P1 _ _ hn),hm,hb,(),net,lb,(),sb,hg,#[(),()],λU mr ns' ws' rows gr rl ri lr hr=>?_];have gl:=gr.ln;exact hx _ _ #[λx o z=>gr.kp _ _ (by have:=ZT z;lia) (PT _ _ (P1 _ _ z)),ns',ws',rows,mr,gr.net,(),gr.kp _ _ () hb,gr.nd,hr,rl,ri,rfl]
  clear hm hb net hv;rintro dl U ⟨PU,vs,ws,rows,mr,net,lv,hb,hm,hr,rl,ri,rfl⟩;refine ZW (λdl S'=>U=S'/\∃l:Int,(0<=l/\l<=8)/\dl=[sR n,sI (q:Int),sI g,sR S.length,sR m,sR mr,sI l]) (λnx hx=>?_) ?_
  .exact#[ns,PU _ _ hn,#[⋯,⋯],λc hc=>hx _ _ #[rfl,c%9,(),rfl]]
  rintro dl S0 ⟨rfl,l,hl,rfl⟩;refine ZW (λdl S'=>U=S'/\∃l:Int,(0<=l/\l<=8)/\dl=[sR n,sI (q:Int),sI g,sR S.length,sR m,sR mr,sI l]) (λnx hx=>?_) ?_
  .exact ifD (λ_=>hx _ _ #[rfl,_,#[(),()],rfl]) (λ_=>hx _ _ #[rfl,_,hl,rfl])
  clear hl;rintro dl S0 ⟨rfl,l,hl,rfl⟩;refine#[ns,PU _ _ hn,#[⋯,⋯],λc hc=>?_];exact h _ q m mr S.length g _ l vs ws rows bs PU #[hm,hr,net,hg,(),(),ri,hq] hb lb sb () hl
def SM:Fy 1 Zt.C 84 0 Jj:=
 mM 0 (λhr hn=>s!"D{Wy Zt.cl Zt.n_boxes (dv 0) (s!"),{VI (ZS VQ) rfl VM Boot.«list» (pv 1)}.")}O{Wy Zt.cl Zt.n_fates (dv 0) (s!"),3.")}") λS Q ex=>by
  refine kR λn=>kR λx=>kN ?_
  rintro⟨T,b0,rfl,rfl,hx,h⟩;refine WD (v:=.ref (T.length+2)) (S1:=T++[Ob.ins Zt.C [],.lst (b0.map frD),.lst [.ref (T.length+1)]]) (S2:=T++[Ob.ins Zt.C [],.lst (b0.map frD),.lst [.ref (T.length+1)]]) (n:=T.length) (fs:=[]) (λK hK=>?_) kId (Wa ..) (by simp) ?_
  .refine VS (ZO (Zo hx) rfl) ?_;show (if ([D.ref (T++[Ob.ins Zt.C []]).length]:List D).length<=1000 then K (.ref (T++[Ob.ins Zt.C []]++[Ob.lst (b0.map frD)]).length) (T++[Ob.ins Zt.C []]++[Ob.lst (b0.map frD)]++[.lst [D.ref (T++[Ob.ins Zt.C []]).length]]) else False);rw[if_pos (by simp)];simpa using hK
  rw[WA];refine WD (v:=.ref (T.length+3)) (S1:=T++[Ob.ins Zt.C [("boxes",.ref (T.length+2))],.lst (b0.map frD),.lst [.ref (T.length+1)],.lst [.non]]) (S2:=T++[Ob.ins Zt.C [("boxes",.ref (T.length+2))],.lst (b0.map frD),.lst [.ref (T.length+1)],.lst [.non]]) (n:=T.length) (fs:=[("boxes",.ref (T.length+2))]) (λK hK=>?_) kId (Wa ..) (by simp) ?_
  .show (if ([D.non]:List D).length<=1000 then K (.ref (T++[Ob.ins Zt.C [("boxes",.ref (T.length+2))],.lst (b0.map frD),.lst [.ref (T.length+1)]]).length) (T++[Ob.ins Zt.C [("boxes",.ref (T.length+2))],.lst (b0.map frD),.lst [.ref (T.length+1)]]++[.lst [.non]]) else False);rw[if_pos ⋯];simpa using hK
  rw[WA];refine h _ (T.length+2) (T.length+3) () () (λi o e=>Zo e) #[Wa ..,#[[.ref (T.length+1)],by simp,rfl,λi e he=>?_],#[[.non],by simp,rfl,λi f hf=>?_],(),rfl]
  .match i,he with
   | 0,he=>cases he;exact#[T.length+1,rfl,(),(),by simp]
  .match i,hf with
   | 0,hf=>cases hf;exact#[.non,rfl,rfl]
def Ql:Fy 1 Zt.C 84 5 Dl:=
 mM 0 (λhr hn=>s!"OR{RQ (x1:="box") (x2:="fate") (N:=[]) (caps:=[]) (ar:=ZA (Xa (top 84) 5)) rfl rfl Wl rfl rfl rfl ⋯ rfl V8 Boot.«zip» (Za (s!"F{Zt.cl}{Zt.n_boxes}a") (Za (s!"F{Zt.cl}{Zt.n_fates}a") Zg)) (λ_ _ _ _ _ _=>(s!"(a,HVb3(,2.b."))}") λS Q ex=>by
  refine kR λn=>kN ?_
  rintro⟨a,b,es,fs,B,l9,h⟩;obtain⟨bs,h1,h2,_⟩:=B.bx;obtain⟨ds,k1,k2,k3⟩:=B.ft;refine U3 (n:=a) (n':=b) (S1:=S) (xs:=bs) (ys:=ds) M3 (λK hK=>?_) h1 k1 () (λk x y hx hy S2 K pr hK=>?_) ?_
  .exact ZM (n:=n) kId B.ins rfl (ZM (n:=n) kId B.ins rfl hK)
  .cases y<;>exact hK
  .exact h _ _ Pre.refl.push (Zm _ _) (B.told h1 k1 _)
def AD:Fx 1 (top 26) FX:=
 mF 0 (λhr hn=>s!"OR-!a!a") λS Q ex=>by
  refine kP λ_ _=>kN λh=>?_
  exact h
def RB:Fx 2 (top 82) HM:=
 mF 0 (λhr hn=>s!"OR7{"span"}{[]}{[]}{ZA (top 82)}aC{AD}a.") λS Q ex=>by
  refine kR λs=>kN ?_
  rintro⟨vs,hs,l9,h⟩;refine XN (n:=s) (S1:=S) (o:=.lst (vs.map frD)) (λd=>match d with|.tup [.int a,.int b]=>.int (b-a)|_=>.non) kId hs (by show (vs.map frD).length<=1000;rw[zB];lia) (λx hx S2 K pr hK=>?_) ?_
  .have hx':x∈vs.map frD:=hx;obtain⟨p,_,rfl⟩:=zP.mp hx';exact hK
  .have e2:(Zk (.lst (vs.map frD))).map (λd=>match d with|.tup [.int a,.int b]=>.int (b-a)|_=>.non)=(vs.map wd).map D.int:=by
    show (vs.map frD).map _=_;rw[yA,yA];rfl
   rw[e2];exact h
def PK:Fx 3 (top 83) Kj:=
 mF 0 (λhr hn=>s!"OR{DI rfl rfl Xp Boot.«max» (s!"C{RB}a.") Zb}") λS Q ex=>by
  refine kR λn=>kN ?_
  rintro⟨bs,hb,l9,h⟩;refine DH (n:=S.length) (S1:=S++[.lst ((bs.map wd).map D.int)]) (S2:=S++[.lst ((bs.map wd).map D.int)]) (zs:=bs.map wd) (e:=.int 0) (λK hK=>#[bs,hb,l9,hK]) kId (Zm _ _) (λe=>?_) λm hm hx=>?_
  .exact h 0 _ Pre.refl.push #[λp hp=>(by rw[tV.mp e] at hp;exact(nomatch hp)),.inl #[tV.mp e,rfl]]
  .obtain⟨p,hp,rfl⟩:=zP.mp hm;exact h _ _ Pre.refl.push #[λq hq=>hx _ (zP.mpr #[q,hq,rfl]),.inr #[p,hp,rfl]]
def QB:Dmz Zt.C "to_look_at" "Book.to_look_at" RE Pe:=dM
def TN:Lm e.K e.mg e.base QB.fd LT:=#[803,by kernel_rfl,LS _ e.base e.kin,e.bm,λo z=>by rw[QF] at z;cases z]
def QZ:Fmz 6 Zt.C "to_look_at" Pe Lr:=
 QB.mk' (Fn (k:=5) QB.F OD (λ_ _ _ _=>nR λ_=>nN:Ln Lr 1) TN.code λA outer s H E hr=>#[_,(Zd (EV (x1:="number") (x2:="fate") (N:=[]) (caps:=[]) (ar:=ZA RE) rfl rfl Wl rfl rfl rfl ⋯ (i:=1) OD.nd rfl rfl rfl Wf Boot.«enumerate» (Za (ZN Zt.cl Zt.n_fates (dv 0)) Zg) (λ_ _ _ _ _ _=>TF (Zn Y4 (dv 1) ZR (Zl _))) (λ_ _ _ _ _ _=>(dv 0))) (Zf (Zi (Bc (x:="number") (N:=["self"]) (caps:=[0]) (ar:=ZA RE) (P:=LT) (q:=LQ) rfl rfl lsc rfl rfl Xp Boot.«max» (AV (j:=0) hr) rfl TN.hd TN.bm TN.kn rfl (dv 1) (λ_ _ _ L _ _=>have hr:=FE (j:=3) hr (SO _ _ L _ _ _);(Zh PK hr (Za (ZD (ZN Zt.cl Zt.n_boxes (dv 1)) (dv 0)) Zg))))))),λds S Q ex h=>by
  replace h:=eR h;obtain⟨n,rfl,h⟩:=h;obtain⟨a,b,t,es,fs,B,ht,l9,le,h0,hi⟩:=h;obtain⟨ds,k1,k2,k3⟩:=B.ft;have lf:=B.len
  have tb:t≠b:=λe=>by rw[e,k1] at ht;cases ht
  refine Q2 (n:=b) (S1:=S) (xs:=ds) (λk ys S2=>A4 (S2=S++[.lst ys]) (ys.length<=k) (∀y∈ys,∃i:Nat,fs[i]?=some .wait/\y=.int (i:Int)) (ys=[]->∀i:Nat,i<k->fs[i]?≠some .wait)) (λk x=>match x with|.non=>true|_=>false) (λK hK=>by exact ZM (n:=n) kId B.ins rfl hK) k1 (λk ys S2 w=>by obtain⟨rfl,w2,_⟩:=w;exact#[Zo k1,Zm _ _,w2]) () #[rfl,zA _,λy hy=>(nomatch hy),λ_ i hi=>absurd hi ()] ?_ ?_ ?_ ?_
  .intro k x ys S2 K hx w hK;obtain⟨f,hf⟩:∃f,fs[k]?=some f:=#[_,zD (show k<fs.length by have:=(zC.mp hx).1;lia)];obtain⟨d,hd,o⟩:=k3 k f hf;rw[hx] at hd;cases hd;cases f with
   | wait=>cases o;exact hK
   | small=>cases o;exact hK
   | one=>obtain⟨_,_,_,_,_,rfl⟩:=o;exact hK
   | cut _ _ _ _=>cases o;exact hK
   | out _ _=>obtain⟨_,rfl,_⟩:=o;exact hK
   | full _=>obtain⟨_,rfl,_⟩:=o;exact hK
  .rintro k x ys S2 hx hb ⟨rfl,w2,w3,w4⟩;refine#[rfl,(),w3,λe i hi=>?_];by_cases c:i=k
   .subst c;intro z;obtain⟨d,hd,o⟩:=k3 i _ z;rw[hx] at hd;cases hd;cases o;cases hb
   .exact w4 e i ()
  .rintro k x ys S2 K hx hb ⟨rfl,w2,w3,w4⟩ hK;obtain⟨f,hf⟩:∃f,fs[k]?=some f:=#[_,zD (show k<fs.length by have:=(zC.mp hx).1;lia)];have ew:f=.wait:=by
    obtain⟨d,hd,o⟩:=k3 k f hf;rw[hx] at hd;cases hd;cases f with
    | wait=>rfl
    | small=>cases o;cases hb
    | one=>obtain⟨_,_,_,_,_,rfl⟩:=o;cases hb
    | cut _ _ _ _=>cases o;cases hb
    | out _ _=>obtain⟨_,rfl,_⟩:=o;cases hb
    | full _=>obtain⟨_,rfl,_⟩:=o;cases hb
   subst ew;refine hK _ _ (Zm _ _) #[by rw[We],by simp;lia,λy hy=>?_,λe=>absurd e (by simp)];rcases zX.mp hy with z|z
   .exact w3 y z
   .cases zO.mp z;exact#[k,hf,rfl]
  .rintro ys S2 ⟨rfl,w2,w3,w4⟩;refine FJ (n:=S.length) (t:=t) (S1:=S++[.lst ys]) (xs:=ys) kId (Zo ht) (Zm _ _) (λe=>?_) (λv S3 K hv p hK=>?_) λv S3 hv p=>?_
   .refine h0 (λf hf z=>?_) _ Pre.refl.push;obtain⟨i,hi'⟩:=wY.mp hf;subst z;exact w4 e i (by rw[k2];exact(zC.mp hi').1) hi'
   .obtain⟨i,hf,rfl⟩:=w3 v hv;have li:=(zC.mp hf).1
    have B3:=(B.pre (T:=S++[.lst ys]) Pre.refl.push).pre p
    have he:=zD (show i<es.length by lia);obtain⟨bs,m,h1,h2,o⟩:=B3.box he;refine ZM (n:=n) kId B3.ins rfl ?_;refine ZC (o:=.lst bs) h1 (Ye (j:=i) h2) ?_;exact#[_,o.2.2,le _ (yY ..),λm T p2 _=>hK _ _ p2]
   .obtain⟨i,hf,rfl⟩:=w3 v hv;exact hi i _ hf λx o e=>p _ _ (Zo e)])
def Oo:Fx 1 (top 52) JF:=
 mF 0 (λhr hn=>s!"DI=a2OR{pd_or (s!"U>!b1") (R8 (s!"U<!b1"))}ORU<!b1") λS Q ex=>by
  refine kS λ_=>kP λ_ _=>kN λh=>?_
  rcases h with ⟨rfl,h⟩|⟨rfl,h⟩
  .refine ifD (λc=>?_) (λc=>?_)
   .rw[decide_eq_true c,Bool.true_or] at h;exact h
   .rw[decide_eq_false c,Bool.false_or] at h;exact h
  .exact h
def KC:Fx 1 (top 14) Kr:=
 mF 0 (λhr hn=>s!"ORU<*!a!b*!b!a") λS Q ex=>by
  refine kP λ_ _=>kP λ_ _=>kN ?_
  rintro⟨⟨h1,h2⟩,h⟩;exact#[h1,h2,h]
def Rm:Fx 1 (top 16) Gf:=
 mF 0 (λhr hn=>s!"OR{XO XT (s!"|{XO XT (dv 0)}b")}") λS Q ex=>by
  refine kI λ_=>kI λ_=>kN λh=>?_
  exact h
def FD:Fx 2 (top 17) Jb:=
 mF 0 (λhr hn=>s!"DITC{KC}ba.O{Ho}OR(,|*!ac!a,C{Rm},*!bc,!b..") λS Q ex=>by
  refine kP λ_ _=>kP λ_ _=>kI λ_=>kN ?_
  rintro⟨⟨⟨m1,m2⟩,nl,m3,m4,f1,f2⟩,h⟩;refine#[#[m1,m2],ifF (decide_eq_false nl) ?_];exact#[m3,f1,m4,f2,h]
def CL:Fy 3 Yo.C 42 2 NG:=
 mM 1 (λhr hn=>s!"DSe(,F{Yo.cl}{Yo.n_top}a,F{Yo.cl}{Yo.n_bottom}a.ORC{FD}eed.") λS Q ex=>by
  refine kR λn=>kR λw=>kR λp=>kI λg=>kN ?_
  rintro⟨x,y,vs,bs,hn,hw,hp,ok,s1,hg,h⟩;have sg:Sz 21 g:=Sz.of 1000000 ()
  have sx:Sz 31 x:=Sz.of (10^9) ok.2.2
  have sy:Sz 31 y:=Sz.of (10^9) (by have:=ok.1;lia);refine ZM (n:=n) kId hn rfl ?_;refine ZM (n:=n) kId hn rfl ?_;exact#[#[#[ZE sx sy,ZE sx sy],(),ZE sx sg,ZE sx sg,sy.fd (by have:=ok.1;lia),sy.fd (by have:=ok.1;lia)],h]
def K5:Fy 1 Yw.C 43 2 NN:=
 mM 0 (λhr hn=>s!"OR[cF{Yw.cl}{Yw.n_place}a") λS Q ex=>by
  refine kR λn=>kR λw=>kR λp=>kI λg=>kN ?_
  rintro⟨k,vs,bs,hn,hw,hp,ok,s1,hg,h⟩;refine ZM (n:=n) kId hn rfl ?_;exact ZC (o:=.lst (bs.map frD)) hp (ZU ok) h
def VC:Fx 1 (top 18) JX:=
 mF 0 (λhr hn=>s!"OR(,+!a!b,+!a!b.") λS Q ex=>by
  refine kP λ_ _=>kP λ_ _=>kN λh=>?_
  exact h
def KZ:Fy 2 Yt.C 45 1 MA:=
 mM 0 (λhr hn=>s!"ORC{VC},[bF{Yt.cl}{Yt.n_one}a,[bF{Yt.cl}{Yt.n_other}a.") λS Q ex=>by
  refine kR λn=>kR λw=>kR λp=>kI λg=>kN ?_
  rintro⟨i,j,vs,bs,hn,hw,hp,ok,s1,hg,h⟩;refine ZM (n:=n) kId hn rfl ?_;refine ZC (o:=.lst (vs.map frD)) hw (ZU ok.1) ?_;refine ZM (n:=n) kId hn rfl ?_;refine ZC (o:=.lst (vs.map frD)) hw (ZU ok.2) ?_;exact h
def W6:Fx 1 (top 19) Jz:=
 mF 0 (λhr hn=>s!"OR(,-!a!b,-!a!b.") λS Q ex=>by
  refine kP λ_ _=>kP λ_ _=>kN λh=>?_
  exact h
def Am:Fy 2 Yq.C 46 1 Nf:=
 mM 0 (λhr hn=>s!"ORC{W6},[bF{Yq.cl}{Yq.n_one}a,[bF{Yq.cl}{Yq.n_other}a.") λS Q ex=>by
  refine kR λn=>kR λw=>kR λp=>kI λg=>kN ?_
  rintro⟨i,j,vs,bs,hn,hw,hp,ok,s1,hg,h⟩;refine ZM (n:=n) kId hn rfl ?_;refine ZC (o:=.lst (vs.map frD)) hw (ZU ok.1) ?_;refine ZM (n:=n) kId hn rfl ?_;refine ZC (o:=.lst (vs.map frD)) hw (ZU ok.2) ?_;exact h
def UK:Fx 2 (top 20) Fs:=
 mG 1 (λhr hn=>s!"DSd),*!a!b,*!a!b,*!a!b,*!a!b.OR(,|$dd.c,C{Rm},$ed.c..") λS Q0 ex0=>by
  refine kP λa b=>kP λc d=>kI λg=>kN ?_
  rintro⟨⟨⟨m1,m2,m3,m4⟩,hg⟩,h⟩;refine#[m1,m2,m3,m4,?_];apply W7
  .exact Zm _ _
  .rfl
  .simp
  intro mn n1 n2;refine#[hg,?_];apply W7
  .exact Zm _ _
  .rfl
  .simp
  intro mx x1 x2;refine#[hg,?_];exact#[Pre.refl.push,Up,h mn mx (VY.of n1 n2 x1 x2)]
def Ds:Fy 3 Yr.C 47 1 N5:=
 mM 0 (λhr hn=>s!"ORC{UK},[bF{Yr.cl}{Yr.n_one}a,[bF{Yr.cl}{Yr.n_other}ad.") λS Q ex=>by
  refine kR λn=>kR λw=>kR λp=>kI λg=>kN ?_
  rintro⟨i,j,vs,bs,hn,hw,hp,ok,s1,hg,h⟩;refine ZM (n:=n) kId hn rfl ?_;refine ZC (o:=.lst (vs.map frD)) hw (ZU ok.1) ?_;refine ZM (n:=n) kId hn rfl ?_;refine ZC (o:=.lst (vs.map frD)) hw (ZU ok.2) ?_;have a:=s1.at ok.1
  have b:=s1.at ok.2
  have sg:Sz 21 g:=Sz.of 1000000 ();refine#[#[#[ZE a.2.1 b.2.1,ZE a.2.1 b.2.2,ZE a.2.2 b.2.1,ZE a.2.2 b.2.2],sg.fd ()],λmn mx hc=>?_];obtain⟨rfl,rfl⟩:=hc.eq;exact h
def X2:Fx 1 (top 13) Qq:=
 mF 2 (λhr hn=>s!"DSc1D:db.OSc*caORc") λS Q ex=>by
  refine kI λx=>kI λn=>kN ?_
  rintro⟨⟨h0,h6,sx⟩,h⟩;refine#[#[(),()],λk dl' S'=>A3 (S'=S) (k<=n.toNat) (E2 λ(z:Int)(o:Option D)=>z=x^k/\dl'=[sI x,sI n,sI z,o]),#[rfl,zL _,1,none,(xP x).symm,rfl],?_];rintro k dl' S' ⟨rfl,hk,z,o,rfl,rfl⟩;refine Vj (λc=>?_) (λc=>?_)
  .exact#[ZE (m:=12001) (n:=2000) ((sx.pow k).mono ()) sx,rfl,(),_,_,(yD x k).symm,rfl]
  .have e:k=n.toNat:=by lia
   subst e;exact h
def NV:Fx 2 (top 21) DA:=
 mG 3 (λhr hn=>s!"DSd),!a,!a.DI{Mv YJ YJ (piv 0) Zb (piv 0)}OEAd1D{Pn (x:="place") (N:=["grid","many"]) (caps:=[2,1]) (ar:=ZA (top 21)) rfl rfl csc rfl ⋯ (i:=4) hn rfl rfl (dv 3) pt0 (λ_ _ _ _ _ _=>(s!"*C{X2}ac.b"))}DSfC{X2}cb.OR(,|$de.f,C{Rm},$ee.f..") λS Q0 ex0=>by
  refine kP λa b=>kI λn=>kI λg=>kN ?_
  rintro⟨⟨n2,n6,za,zb,hg,zg⟩,h⟩;refine ifD (λc1=>?_) (λc1=>?_)
  .refine ifD (λc2=>?_) (λc2=>?_)
   .refine Ys (n:=S.length) (λK hK=>hK) (Zm _ _) (λK hK=>hK) (by simp) ?_;refine XN (n:=S.length) (o:=.lst [.int a,.int b,.int 0]) (λd=>match d with|.int v=>.int (v^n.toNat*g)|_=>.non) (λK hK=>hK) (by simp) (by simp[Zk]) (λx hx S2 K _ hK=>?_) ?_
    .have hx':x=.int a\/x=.int b\/x=.int 0:=by simpa [Zk] using hx
     rcases hx' with rfl|rfl|rfl
     all_goals exact#[#[(),n6,by first|exact za.mono ⋯|exact zb.mono ⋯|exact Sz.of (n:=2000) 0 ⋯],ZE (m:=12001) (n:=1400) (((Sz.mono (n:=2000) (by first|exact za|exact zb|exact Sz.of (n:=1400) 0 ⋯) ⋯).pow _).mono ()) zg,hK]
    refine#[#[(),n6,zg.mono ⋯],?_];have gp:(0:Int)<g^n.toNat:=yG ()
    have zgp:Sz 8401 (g^n.toNat):=(zg.pow _).mono ();apply W7
    .exact Zm _ _
    .rfl
    .simp
    intro mn q1 q2;refine#[zgp.fd gp,?_];apply W7
    .exact Zm _ _
    .rfl
    .simp
    intro mx x1 x2;refine#[zgp.fd gp,?_];obtain⟨m,M,hP,rfl,rfl⟩:=WX.of (n:=n.toNat) hg (.inr #[rfl,c1,c2]) () q1 q2 x1 x2;have r:=h m M hP;rw[<- VD hg (),<- VD hg (),xO] at r;exact#[(λi o e=>Wb (by rw[vJ _ _ (zA _),zJ (zC.mp e).1];exact e)),Up,r]
   .skip
    refine XN (n:=S.length) (o:=.lst [.int a,.int b]) (λd=>match d with|.int v=>.int (v^n.toNat*g)|_=>.non) (λK hK=>hK) (Zm _ _) (by simp[Zk]) (λx hx S2 K _ hK=>?_) ?_
    .have hx':x=.int a\/x=.int b:=by simpa [Zk] using hx
     rcases hx' with rfl|rfl
     all_goals exact#[#[(),n6,by first|exact za.mono ⋯|exact zb.mono ⋯|exact Sz.of (n:=2000) 0 ⋯],ZE (m:=12001) (n:=1400) (((Sz.mono (n:=2000) (by first|exact za|exact zb|exact Sz.of (n:=1400) 0 ⋯) ⋯).pow _).mono ()) zg,hK]
    refine#[#[(),n6,zg.mono ⋯],?_];have gp:(0:Int)<g^n.toNat:=yG ()
    have zgp:Sz 8401 (g^n.toNat):=(zg.pow _).mono ();apply W7
    .exact Zm _ _
    .rfl
    .simp
    intro mn q1 q2;refine#[zgp.fd gp,?_];apply W7
    .exact Zm _ _
    .rfl
    .simp
    intro mx x1 x2;refine#[zgp.fd gp,?_];obtain⟨m,M,hP,rfl,rfl⟩:=WX.of (n:=n.toNat) hg (.inl #[rfl,λc=>c2 c.2]) () q1 q2 x1 x2;have r:=h m M hP;rw[<- VD hg (),<- VD hg (),xO] at r;exact#[Pre.refl.push.push,Up,r]
  .skip
   refine XN (n:=S.length) (o:=.lst [.int a,.int b]) (λd=>match d with|.int v=>.int (v^n.toNat*g)|_=>.non) (λK hK=>hK) (Zm _ _) (by simp[Zk]) (λx hx S2 K _ hK=>?_) ?_
   .have hx':x=.int a\/x=.int b:=by simpa [Zk] using hx
    rcases hx' with rfl|rfl
    all_goals exact#[#[(),n6,by first|exact za.mono ⋯|exact zb.mono ⋯|exact Sz.of (n:=2000) 0 ⋯],ZE (m:=12001) (n:=1400) (((Sz.mono (n:=2000) (by first|exact za|exact zb|exact Sz.of (n:=1400) 0 ⋯) ⋯).pow _).mono ()) zg,hK]
   refine#[#[(),n6,zg.mono ⋯],?_];have gp:(0:Int)<g^n.toNat:=yG ()
   have zgp:Sz 8401 (g^n.toNat):=(zg.pow _).mono ();apply W7
   .exact Zm _ _
   .rfl
   .simp
   intro mn q1 q2;refine#[zgp.fd gp,?_];apply W7
   .exact Zm _ _
   .rfl
   .simp
   intro mx x1 x2;refine#[zgp.fd gp,?_];obtain⟨m,M,hP,rfl,rfl⟩:=WX.of (n:=n.toNat) hg (.inl #[rfl,λc=>c1 c.1]) () q1 q2 x1 x2;have r:=h m M hP;rw[<- VD hg (),<- VD hg (),xO] at r;exact#[Pre.refl.push.push,Up,r]
def BV:Fy 3 ZQ.C 48 2 Nr:=
 mM 0 (λhr hn=>s!"ORC{NV},[bF{ZQ.cl}{ZQ.n_one}a,F{ZQ.cl}{ZQ.n_many}ad.") λS Q ex=>by
  refine kR λn=>kR λw=>kR λp=>kI λg=>kN ?_
  rintro⟨i,m,vs,bs,hn,hw,hp,ok,s1,hg,h⟩;refine ZM (n:=n) kId hn rfl ?_;refine ZC (o:=.lst (vs.map frD)) hw (ZU ok.1) ?_;refine ZM (n:=n) kId hn rfl ?_;have a:=s1.at ok.1
  have sg:Sz 21 g:=Sz.of 1000000 ();refine#[#[by have:=ok.2.1;lia,ok.2.2,a.2.1,a.2.2,hg.1,sg.mono ⋯],λm' M' hP=>?_];obtain⟨rfl,rfl⟩:=hP.eq (by have:=ok.2.1;lia);exact h
def Rg:Fy 1 ZQ.C 48 0 Aa:=
 mM 0 (λhr hn=>s!"D{Wy ZQ.cl ZQ.n_one (dv 0) (dv 1)}O{Wy ZQ.cl ZQ.n_many (dv 0) (dv 2)}") λS Q ex=>by
  refine kR λn=>kD λx=>kD λy=>kN ?_
  rintro⟨T,rfl,rfl,h⟩;refine WD (v:=x) (S1:=T++[Ob.ins ZQ.C []]) (S2:=T++[Ob.ins ZQ.C []]) (n:=T.length) (fs:=[]) kId kId (Wa ..) (by simp) ?_;rw[WA];refine WD (v:=y) (S1:=T++[Ob.ins ZQ.C [("one",x)]]) (S2:=T++[Ob.ins ZQ.C [("one",x)]]) (n:=T.length) (fs:=[("one",x)]) kId kId (Wa ..) (by simp) ?_;rw[WA];exact h
def SN:Fy 1 Yo.C 42 0 zan:=
 mM 0 (λhr hn=>s!"D{Wy Yo.cl Yo.n_top (dv 0) (dv 1)}O{Wy Yo.cl Yo.n_bottom (dv 0) (dv 2)}") λS Q ex=>by
  refine kR λn=>kD λx=>kD λy=>kN ?_
  rintro⟨T,rfl,rfl,h⟩;refine WD (v:=x) (S1:=T++[Ob.ins Yo.C []]) (S2:=T++[Ob.ins Yo.C []]) (n:=T.length) (fs:=[]) kId kId (Wa ..) (by simp) ?_;rw[WA];refine WD (v:=y) (S1:=T++[Ob.ins Yo.C [("top",x)]]) (S2:=T++[Ob.ins Yo.C [("top",x)]]) (n:=T.length) (fs:=[("top",x)]) kId kId (Wa ..) (by simp) ?_;rw[WA];exact h
def RP:Fy 1 Yw.C 43 0 Cs:=
 mM 0 (λhr hn=>(Zf (Wy Yw.cl Yw.n_place (dv 0) (dv 1)))) λS Q ex=>by
  refine kR λn=>kD λx=>kN ?_
  rintro⟨T,rfl,rfl,h⟩;refine WD (v:=x) (S1:=T++[Ob.ins Yw.C []]) (S2:=T++[Ob.ins Yw.C []]) (n:=T.length) (fs:=[]) kId kId (Wa ..) (by simp) ?_;rw[WA];exact h
def PX {C:Addr}{c:Int->Int->Nd}(p:Pr C c)(d:Dmz C "__init__" "Pair.__init__" Q9 Tn):Fmz 1 C "__init__" Tn (V7 C "one" "other"):=
 mkM d Gh (λhr=>(Zd (Wy p.cl p.o (dv 0) (dv 1)) (Zf (Wy p.cl p.t (dv 0) (dv 2))))) λS Q ex=>by
  refine kR λn=>kD λx=>kD λy=>kN ?_
  rintro⟨T,rfl,rfl,h⟩;refine WD (v:=x) (S1:=T++[Ob.ins C []]) (S2:=T++[Ob.ins C []]) (n:=T.length) (fs:=[]) kId kId (Wa ..) (by simp) ?_;rw[WA];refine WD (v:=y) (S1:=T++[Ob.ins C [("one",x)]]) (S2:=T++[Ob.ins C [("one",x)]]) (n:=T.length) (fs:=[("one",x)]) kId kId (Wa ..) (by simp) ?_;rw[WA];exact h
def Ae:Dmz Yt.C "__init__" "Pair.__init__" Q9 Tn:=dM
def RK:=PX QS Ae
def Eh:Dmz Yq.C "__init__" "Pair.__init__" zae BW:=dM
def TM:=PX Pc Eh
def Gw:Dmz Yr.C "__init__" "Pair.__init__" DY AB:=dM
def Rl:=PX P7 Gw
def R4:Fx 3 (top 49) JK:=
 mF 0 (λhr hn=>s!"DI=!a2OR{Vq ⟨Yo.makes,SN.m.at_,SN.m.fn,Yo.kp⟩ SN.ok (rmn hr) rfl Yo.m SN.b Vk (Za (piv 0) (Za (piv 0) Zg))}DI=!a2OR{Vq ⟨Yw.makes,RP.m.at_,RP.m.fn,Yw.kp⟩ RP.ok (rmn hr) rfl Yw.m RP.b Vk (Za (piv 0) Zg)}DI=!a2OR{Vq ⟨Yt.makes,RK.m.at_,RK.m.fn,Yt.kp⟩ RK.ok (rmn hr) rfl Yt.m RK.b Vk (Za (piv 0) (Za (piv 0) Zg))}DI=!a2OR{Vq ⟨Yq.makes,TM.m.at_,TM.m.fn,Yq.kp⟩ TM.ok (rmn hr) rfl Yq.m TM.b Vk (Za (piv 0) (Za (piv 0) Zg))}DI=!a2OR{Vq ⟨Yr.makes,Rl.m.at_,Rl.m.fn,Yr.kp⟩ Rl.ok (rmn hr) rfl Yr.m Rl.b Vk (Za (piv 0) (Za (piv 0) Zg))}OR{Vq ⟨ZQ.makes,Rg.m.at_,Rg.m.fn,ZQ.kp⟩ Rg.ok (rmn hr) rfl ZQ.m Rg.b Vk (Za (piv 0) (Za (piv 0) Zg))}") λS Q ex=>by
  refine kD λ_=>kN ?_
  rintro⟨v,rfl,h⟩;cases v<;>exact#[S,rfl,rfl,rfl,h]
def WI:Fx 4 (top 51) F7:=
 mF 2 (λhr hn=>s!"DSd).D;eaOEAd{QJ (s!"C{R4}e.") (YR Yo.cl CL (rmn hr) (YR Yw.cl K5 (rmn hr) (YR Yt.cl KZ (rmn hr) (YR Yq.cl Am (rmn hr) (YR Yr.cl Ds (rmn hr) (YR ZQ.cl BV (rmn hr) Pq)))))) YL (pdv 3 (pdv 1 (pv 2)))}ORd") λS Q ex=>by
  refine kR λa=>kR λb=>kI λg=>kN ?_
  rintro⟨ns,ws,bs,ha,hb,net,sb,hg,hl,h⟩;have disp:∀v:Nd,∃C fs sd,v.oz=.ins C fs/\(C,sd)∈[(Yo.C,NG),(Yw.C,NN),(Yt.C,MA),(Yq.C,Nf),(Yr.C,N5),(ZQ.C,Nr)]/\fs.lookup ("forth":Str)=none/\∀(n w p:Nat)(g:Int)(S:Sto)(Q:DK)(ex:Addr->Sto->Prop)(vs bs:LI),S[n]?=some (v.oz)->La S w (vs.map frD)->La S p (bs.map frD)->v.ok vs.length bs.length->Spn 1400 vs->(Gg g)->Q (frD (v.fw vs bs g)) S->sd [.ref n,.ref w,.ref p,.int g] S Q ex:=by
   intro v;cases v with
   | number x y=>exact#[_,_,_,rfl,(.head _),rfl,λn w p g S Q ex vs bs a1 a2 a3 a4 a5 a6 q=>#[x,y,vs,bs,a1,a2,a3,a4,a5,a6,q]]
   | unknown k=>exact#[_,_,_,rfl,(.tail _ (.head _)),rfl,λn w p g S Q ex vs bs a1 a2 a3 a4 a5 a6 q=>#[k,vs,bs,a1,a2,a3,a4,a5,a6,q]]
   | plus i j=>exact#[_,_,_,rfl,(.tail _ (.tail _ (.head _))),rfl,λn w p g S Q ex vs bs a1 a2 a3 a4 a5 a6 q=>#[i,j,vs,bs,a1,a2,a3,a4,a5,a6,q]]
   | minus i j=>exact#[_,_,_,rfl,(.tail _ (.tail _ (.tail _ (.head _)))),rfl,λn w p g S Q ex vs bs a1 a2 a3 a4 a5 a6 q=>#[i,j,vs,bs,a1,a2,a3,a4,a5,a6,q]]
   | times i j=>exact#[_,_,_,rfl,(.tail _ (.tail _ (.tail _ (.tail _ (.head _))))),rfl,λn w p g S Q ex vs bs a1 a2 a3 a4 a5 a6 q=>#[i,j,vs,bs,a1,a2,a3,a4,a5,a6,q]]
   | power i m=>exact#[_,_,_,rfl,(.tail _ (.tail _ (.tail _ (.tail _ (.tail _ (.head _)))))),rfl,λn w p g S Q ex vs bs a1 a2 a3 a4 a5 a6 q=>#[i,m,vs,bs,a1,a2,a3,a4,a5,a6,q]]
  have la:=ZT ha
  have lb:=ZT hb;refine X0 (n:=a) (o:=.lst (ns.map Nd.d)) (λk dl' S'=>k<=ns.length/\Pre S S'/\La S' S.length ((Zp bs g (ns.take k)).map frD)/\∃u:Option D,dl'=[sR a,sR b,sI g,sR S.length,u]) #[zL _,Pre.refl.push,Zm _ _,_,rfl] (λk dl' S' w=>w.2.1 _ _ ha) ?_ ?_
  .rintro k x dl' S' nx ct ex' ⟨hk,pr,hf,u,rfl⟩ hn;have ex2:(ns.map Nd.d)[k]?=some x:=ex';rw[zF] at ex2;obtain⟨v,hv,rfl⟩:=zH.mp ex2;have hk':=(zC.mp hv).1
   have ln:(Zp bs g (ns.take k)).length=k:=by rw[YZ,zG];lia
   have okv:v.ok (Zp bs g (ns.take k)).length bs.length:=by rw[ln];exact(net.ok k v hv).1
   obtain⟨C,fs,sd,eo,hm,hf2,go⟩:=disp v;have N1:=Zm S' (v.oz);refine BQ (n:=S.length) (S1:=S') (S2:=S'++[v.oz]) (xs:=(Zp bs g (ns.take k)).map frD) (y:=frD (v.fw (Zp bs g (ns.take k)) bs g)) kId hf (λK hK=>?_) (Zo hf) (by rw[zB,ln];lia) ?_
   .refine Qx (n:=S'.length) (C:=C) (sd:=sd) (fs:=fs) (S1:=S'++[v.oz]) (λK hK=>#[v,rfl,by exact hK]) (by rw[<- eo];exact N1) hm hf2 ?_;exact go _ _ _ _ _ _ _ (Zp bs g (ns.take k)) bs N1 (Zo hf) (Zo (pr _ _ hb)) okv ((Rb net rfl sb hg k hk).mono ⋯) hg hK
   .refine hn _ _ #[(),YH (XY pr _) (zA _),?_,_,rfl];rw[YI hv,UR,zZ];exact Yb (Zo hf)
  .rintro dl' S' ⟨hk,pr,hf,u,rfl⟩;refine h _ _ pr (zA _) ?_;have e:ns.take (Zk (.lst (ns.map Nd.d))).length=ns:=by
    show ns.take (ns.map Nd.d).length=ns;rw[zB,yH]
   rw[e] at hf;exact hf
def Ms:Fx 5 (top 76) KU:=
 mF 1 (λhr hn=>s!"DSe!bORC{Oo},!b,[C{WI},Za56+e1cd.e.") λS Q ex=>by
  refine kR λa=>kT λw k=>kR λb=>kI λg=>kN ?_
  rintro⟨ns,ws,bs,zero,ha,hb,hw,⟨k0,k1⟩,net,sb,hg,hl,h⟩;obtain⟨kn,rfl⟩:∃kn:Nat,k=(kn:Int):=#[k.toNat,()];rw[zK] at h;refine X7 (n:=a) (o:=.lst (ns.map Nd.d)) (lo:=none) (hi:=some ((kn:Int)+1)) (S3:=S) kId kId kId ha ?_;have ec:Yi (ns.map Nd.d) none (some ((kn:Int)+1))=(ns.take (kn+1)).map Nd.d:=by
   rw[U4 () (by rw[zB];lia),wA];rfl
  rw[show Zk (Ob.lst (ns.map Nd.d))=ns.map Nd.d from rfl,ec];refine#[ns.take (kn+1),ws.take (kn+1),bs,Zm _ _,Zo hb,net.take _,sb,hg,by rw[zG];lia,λT m pr lm hf=>?_];have prS:Pre S T:=λn o e=>pr n o (Zo e)
  have l1:(Zp bs g (ns.take (kn+1))).length=kn+1:=by rw[YZ,zG];lia
  have ik:inR (((Zp bs g (ns.take (kn+1))).length:Nat):Int) (kn:Int):=#[(),()];refine ZC (o:=.lst ((Zp bs g (ns.take (kn+1))).map frD)) hf (ZU ik) ?_;rcases hw with ⟨rfl,rfl⟩|⟨rfl,rfl⟩
  .exact .inl #[rfl,h T prS]
  .exact .inr #[rfl,h T prS]
def Vy:Fx 1 (top 23) HX:=
 mF 2 (λhr hn=>s!"DSc$f,!a,!b.DSd$c,!a,!b.DI>cdOR3OR(cd.") λS Q ex=>by
  refine kP λa b=>kP λc d=>kN ?_
  rintro⟨h1,h2⟩;unfold VV at h1 h2;refine ifD (λe=>?_) (λe=>?_)
  .exact h1 (if_pos e)
  .exact h2 _ (if_neg e)
def DC:Fx 2 (top 71) CT:=
 mF 0 (λhr hn=>s!"DI=a2ORC{Vy}b,(,1,1..ORC{Vy}b,(,1,$f,!b,1...") λS Q ex=>by
  refine kS λw=>kP λa b=>kN ?_
  rintro⟨zero,hw,h1,h2⟩;rcases hw with ⟨rfl,rfl⟩|⟨rfl,rfl⟩
  all_goals exact#[λ_=>h1,λp e=>h2 p.1 p.2 (UQ e)]
def Ca:Fy 1 Yo.C 42 3 LC:=
 mM 0 (λhr hn=>s!"OR).") λS Q ex=>by
  refine kR λn=>kR λw=>kP λz0 z1=>kI λg=>kN ?_
  rintro⟨x,y,vs,q,hn,hw,ok,⟨hs,⟨sz0,sz1⟩,hg⟩,h1,h2⟩;exact h2 [] #[by simp,λp hp=>nomatch hp]
def HU:Fy 1 Yw.C 43 3 Ov:=
 mM 0 (λhr hn=>s!"OR).") λS Q ex=>by
  refine kR λn=>kR λw=>kP λz0 z1=>kI λg=>kN ?_
  rintro⟨k,vs,q,hn,hw,ok,⟨hs,⟨sz0,sz1⟩,hg⟩,h1,h2⟩;exact h2 [] #[by simp,λp hp=>nomatch hp]
def Ei:Fy 2 Yt.C 45 2 Sk:=
 mM 0 (λhr hn=>s!"ORC{Vy}c,C{W6}bd..") λS Q ex=>by
  refine kR λ_=>kP λ_ _=>kP λ_ _=>kP λ_ _=>kI λ_=>kN λh=>?_
  exact#[λ_=>h.2.1,λp e=>h.2.2 p.1 p.2 (UQ e)]
def IA:Fy 2 Yt.C 45 3 TU:=
 mM 0 (λhr hn=>s!"ORC{Vy}d,C{W6}bc..") λS Q ex=>by
  refine kR λ_=>kP λ_ _=>kP λ_ _=>kP λ_ _=>kI λ_=>kN λh=>?_
  exact#[λ_=>h.2.1,λp e=>h.2.2 p.1 p.2 (UQ e)]
def RT {C:Addr}{c:Int->Int->Nd}{k:Nat}(p:Pr C c)(d:Dmz C "back" "Pair.back" Pl TY)(G_2:Fmz k C "second_left" Jl TU)(G_1:Fmz k C "first_left" G1 Sk):Fmz (k+1) C "back" TY (Rw c):=
 mkM d TC (λhr=>(Zd (Zj (i:=4) TC.nd (XZ (C:=C) (dv 0) p.cl G_1.m G_1.ok (hr.mono (zA _)) G_1.b YL (pdv 2 (Za (ZD (dv 1) (ZN p.cl p.o (dv 0))) (Za (ZD (dv 1) (ZN p.cl p.t (dv 0))) (pv 3)))))) (Zd (Zu (Zn Y4 (dv 4) ZR (Zl _)) (Zf (Zi ZR)) Zy) (Zd (Zj (i:=5) TC.nd (XS (Zn (ZG hr) (ZN p.cl p.o (dv 0)) (ZN p.cl p.t (dv 0)) (Zl _)) (dv 4) (ZD (dv 1) (ZN p.cl p.t (dv 0))))) (Zd (Zj (i:=5) TC.nd (XZ (C:=C) (dv 0) p.cl G_2.m G_2.ok (hr.mono (zA _)) G_2.b YL (pdv 2 (pdv 4 (pdv 5 (pv 3)))))) (Zd (Zu (Zn Y4 (dv 5) ZR (Zl _)) (Zf (Zi ZR)) Zy) (Zf (Zi (Z7 (Za (Zv (Za (ZN p.cl p.o (dv 0)) (pv 4))) (Za (Zv (Za (ZN p.cl p.t (dv 0)) (pv 5))) Zg))))))))))) λS Q ex=>by
  refine kR λn=>kR λw=>kP λz0 z1=>kI λg=>kN ?_
  rintro⟨i,j,vs,q,hn,hw,ok,⟨hs,⟨sz0,sz1⟩,hg⟩,h1,h2⟩;rw[p.b] at hn;rw[p.k] at ok;have a:=hs.at ok.1
  have b:=hs.at ok.2
  have up:∀ {x:Int},Sz 1000 x->Sz 1100 x:=λz=>z.mono ⋯
  refine Xh (n:=n) (fs:=[("one",.int i),("other",.int j)]) kId hn rfl ?_;refine ZM (n:=n) kId hn rfl ?_;refine ZC (o:=.lst (vs.map frD)) hw (ZU ok.1) ?_;refine ZM (n:=n) kId hn rfl ?_;refine ZC (o:=.lst (vs.map frD)) hw (ZU ok.2) ?_;refine#[#[up sz0,up sz1,up b.1,up b.2,Sz.of 1000000 ()],h1,λx x' l=>?_];have z:=l _ a.1 a.2;refine ZM (n:=n) kId hn rfl ?_;refine ZM (n:=n) kId hn rfl ?_;refine ifD (λc=>?_) (λc=>?_)
  all_goals try refine ZM (n:=n) kId hn rfl ?_
  all_goals try refine ZC (o:=.lst (vs.map frD)) hw (ZU ok.2) ?_
  all_goals
   refine Xh (n:=n) (fs:=[("one",.int i),("other",.int j)]) kId hn rfl ?_;refine#[#[up sz0,up sz1,up z.1,up z.2,Sz.of 1000000 ()],h1,λr r' k=>?_];refine ZM (n:=n) kId hn rfl ?_;refine ZM (n:=n) kId hn rfl ?_;exact h2 [(i,x,x'),(j,r,r')] (FA ok.1 ok.2 z (k _ (by first|exact z.1|exact b.1) (by first|exact z.2|exact b.2)))
def Ge:Dmz Yt.C "back" "Pair.back" Pl TY:=dM
def L8:=RT QS Ge IA Ei
def J1:Fy 2 Yq.C 46 2 Kl:=
 mM 0 (λhr hn=>s!"ORC{Vy}c,C{VC}bd..") λS Q ex=>by
  refine kR λ_=>kP λ_ _=>kP λ_ _=>kP λ_ _=>kI λ_=>kN λh=>?_
  exact#[λ_=>h.2.1,λp e=>h.2.2 p.1 p.2 (UQ e)]
def DT:Fy 2 Yq.C 46 3 KQ:=
 mM 0 (λhr hn=>s!"ORC{Vy}d,C{W6}cb..") λS Q ex=>by
  refine kR λ_=>kP λ_ _=>kP λ_ _=>kP λ_ _=>kI λ_=>kN λh=>?_
  exact#[λ_=>h.2.1,λp e=>h.2.2 p.1 p.2 (UQ e)]
def GQ:Dmz Yq.C "back" "Pair.back" EK FP:=dM
def DM:=RT Pc GQ DT J1
def MM:Fx 1 (top 29) IG:=
 mF 0 (λhr hn=>s!"OR{GS V0 V0 (piv 0) Zb (piv 0)}") λS Q ex=>by
  refine kP λ_ _=>kN λh=>?_
  exact and2 h
def T6:Fx 1 (top 32) HF:=
 mF 0 (λhr hn=>s!"DIPX>!b!aY<!c!aOR3OR(,$f,!b,!a.,$c,!c,!a..") λS Q ex=>by
  refine kP λx0 x1=>kP λl0 l1=>kP λk0 k1=>kN ?_
  rintro⟨⟨a1,a2⟩,h1,h2⟩;refine ifD (λc=>h1) (λc1=>ifD (λc=>h1) (λc2=>?_));exact h2 (if x0 > l0 then x0 else l0) (if x1<k1 then x1 else k1) λB z0 z1=>#[Sz.btw z0 z1 (by dsimp only;split<;>lia),Sz.btw z0 z1 (by dsimp only;split<;>lia)]
def Oe:Fx 2 (top 33) Ii:=
 mF 0 (λhr hn=>s!"OR(,|ab,C{Rm}ab..") λS Q ex=>by
  refine kI λ_=>kI λ_=>kN ?_
  rintro⟨hb,h⟩;exact#[hb,hb,h]
def Lo:Fx 3 (top 34) HK:=
 mF 4 (λhr hn=>s!"DSdH>!a1!c!cDSeH<!a1!c!cDSfH=d1(,!b,!b.C{Oe},!ad.DSgH=e1(,!b,!b.C{Oe},!ae.ORC{T6}bfg.") λS Q ex=>by
  refine kP λlo hi=>kP λx0 x1=>kP λc d=>kN ?_
  rintro⟨⟨h0,hd,zc,zd⟩,h⟩;refine ifD (λe1=>?_) (λe1=>?_)
  all_goals refine ifD (λe2=>?_) (λe2=>?_)
  all_goals refine ifD (λe3=>?_) (λe3=>?_)
  all_goals try refine#[#[(),by first|exact zd.log ()|exact zc.log ()],?_]
  all_goals refine ifD (λe4=>?_) (λe4=>?_)
  all_goals try refine#[#[(),by first|exact zd.log ()|exact zc.log ()],?_]
  all_goals exact#[#[by first|exact zS _|exact NJ (),by first|exact zS _|exact NJ ()],h]
def IV:Fx 1 (top 24) AH:=
 mF 0 (λhr hn=>s!"OR(,$c,!a,!b.,$f,!a,!b..") λS Q ex=>by
  refine kP λ_ _=>kP λ_ _=>kN λh=>?_
  exact h
def ND:Fx 2 (top 31) E0:=
 mF 0 (λhr hn=>s!"DIVa3ORbDIVb3ORaORC{IV}ab.") λS Q ex=>by
  refine kD λx=>kD λy=>kN λh=>?_
  match x,h with
  | .non,h=>exact h
  | .tup [.int a,.int b],h=>match y,h with
   | .non,h=>exact h
   | .tup [.int c,.int d],h=>exact h
def Wn:Fx 1 (top 30) Q8:=
 mF 0 (λhr hn=>s!"OR(,{XO XT (piv 0)},{XO XT (piv 0)}.") λS Q ex=>by
  refine kP λ_ _=>kN λh=>?_
  exact h
def N9:Fx 4 (top 35) IQ:=
 mF 3 (λhr hn=>s!"DIPKTC{MM}c.QTC{MM}a.ORbDSe(,*!ad,*!ad.DSf3DI>!c1OSfC{Lo}eb,(,$f,!c,1.,!c..DI<!c1DSgC{Lo},C{Wn}e.b,(,$f,{XO XT (piv 2)},1.,{XO XT (piv 2)}..OSfC{ND}fg.ORf") λS Q ex=>by
  refine kP λz0 z1=>kP λx0 x1=>kP λy0 y1=>kI λg=>kN ?_
  rintro⟨⟨sz0,sz1,sy0,sy1,sg⟩,hn,ht⟩;refine if2 (λa1 a2=>if2 (λb1 b2=>ht x0 x1 λB z z'=>#[z,z']) (λn=>?_)) (λn=>?_)
  all_goals refine#[ZE sz0 sg,ZE sz1 sg,?_]
  all_goals refine ifD (λc1=>?_) (λc1=>?_)
  all_goals try refine#[#[O5 _,c1,LO (sy0.mono ⋯),sy1.mono ⋯],?_,λa b l=>?_]
  all_goals refine ifD (λc2=>?_) (λc2=>?_)
  all_goals try refine#[#[O5 _,(),LO (sy1.neg.mono ⋯),sy0.neg.mono ⋯],?_,λa' b' l'=>?_]
  all_goals first|exact hn|exact ht _ _ l'|exact ht _ _ l|exact ht (if a'<a then a' else a) (if b' > b then b' else b) (l.hull l')
def CJ:Fy 5 Yr.C 47 2 ET:=
 mM 0 (λhr hn=>s!"ORC{N9}bcde.") λS Q ex=>by
  refine kR λ_=>kP λ_ _=>kP λ_ _=>kP λ_ _=>kI λ_=>kN λh=>?_
  exact h
def An:Fy 5 Yr.C 47 3 Ku:=
 mM 0 (λhr hn=>s!"ORC{N9}bdce.") λS Q ex=>by
  refine kR λ_=>kP λ_ _=>kP λ_ _=>kP λ_ _=>kI λ_=>kN λh=>?_
  exact h
def J0:Dmz Yr.C "back" "Pair.back" Hu A2:=dM
def EX:=RT P7 J0 An CJ
def OM:Fx 2 (top 37) JG:=
 mF 0 (λhr hn=>s!"OR|+*-c1a|bC{X2}a,-c1.c") λS Q ex=>by
  refine kI λg=>kI λN=>kI λn=>kN ?_
  rintro⟨⟨n2,n6,hg,sg⟩,h⟩;have zn:Sz 800 (n-1):=Sz.of 6 ()
  have gp:(0:Int)<g^(n-1).toNat:=yG hg;exact#[ZE zn sg,#[(),(),sg.mono ⋯],((sg.pow (n-1).toNat).mono (show _<=4001 by lia)).fd gp,(Sz.of (n:=800) 6 ():Sz 800 n).fd (),h]
def Vw:Fx 3 (top 36) RS:=
 mF 2 (λhr hn=>s!"DI=a1OR1DSc{Ze C2 Zb (s!"+|{Hw (dv 0)}b1")}DSdC{OM}cab.D{Oc PassesOwn.never (s!"<dc") (s!"DScdOSdC{OM}cab.")}ORc") λS Q ex=>by
  refine kI λN=>kI λn=>kN ?_
  rintro⟨⟨n2,n6,h0,sN⟩,h⟩;refine ifD (λc=>?_) (λc=>?_)
  .exact h 0 () (Sz.of 0 ⋯)
  .refine#[(Sz.of (n:=800) 6 ():Sz 800 n).fd (),?_];have d3:=vP (show (0:Int)<=(Builtin.Int.intBits N:Int) by lia) (show 0<=n by lia)
   have d4:(Builtin.Int.intBits N:Int)/n<=(Builtin.Int.intBits N:Int):=Int.ediv_le_self _ ()
   have d5:=sN.bits;refine#[#[(),(),⋯],?_];have s0:=(AN n2 sN).mono (show 652<=800 by decide)
   have g0:(0:Int)<1*2^((Builtin.Int.intBits N:Int)/n+1).toNat:=by rw[uI];exact yG ⋯
   refine#[#[n2,n6,g0,s0],?_];refine#[λm dl' S'=>S'=S/\∃x:Int,dl'=[sI N,sI n,sI x,sI (((n-1)*x+N/x^(n-1).toNat)/n)]/\0<x/\Sz 800 x/\m=x.toNat,#[_,rfl,_,rfl,g0,s0,rfl],?_];rintro m dl' S' ⟨rfl,x,rfl,x0,sx,rfl⟩;have ge:=EE (N:=N) n2 x0 ();refine ifD (λc=>?_) (λc=>?_)
   .have s1:Sz 800 (((n-1)*x+N/x^(n-1).toNat)/n):=Sz.mid (a:=0) (Sz.of 0 ⋯) sx () ();exact#[#[n2,n6,ge,s1],_,(),rfl,_,rfl,ge,s1,rfl]
   .exact h x () sx
def KA (Wz:Dfz "root" RL WE)(X2:Fkz 1 "raised" Ng Qq)(Vw:Fkz 3 "root_below" OE RS)(Wn:Fkz 1 "opposite" MC Q8)(P9:Fkz 0 "root" WE QQ):Fkz 4 "root" WE UY:=
 Wz.mk' (Vl (k:=3) Wz.F Sj Cq λ_ _ _ _ _ _ _ hr=>#[_,(Zd (Zu (Zn YJ (dv 0) Zb (Zl _)) (Zf (Zi (Zh Wn hr (Za (PF P9 (rmn hr) YL rfl (Za (XO XT (dv 0)) (pv 1))) Zg)))) Zy) (Zd (Zj (i:=2) Sj.nd (Zh Vw hr (pdv 0 (pv 1)))) (Zd (Zu (Zn (ZG hr) (Zh X2 hr (pdv 2 (pv 1))) (dv 0) (Zl _)) (Zf (Zi (Zv (pdv 2 (pv 2))))) Zy) (Zf (Zi (Zv (pdv 2 (Za (Ze ZL (dv 2) Zb) Zg)))))))),λds S Q ex h=>by
  unfold UY at h;split at h
  .rename_i N n;obtain⟨⟨n2,n6,h0,sN⟩,h⟩:=h;exact ifD (λc=>absurd c ()) (λc=>#[#[n2,n6,(),sN],λr r0 sr=>#[#[(),n6,sr.mono ⋯],ifD (λ_=>h r r (zS _)) (λ_=>h r (r+1) ())]])
  .exact h.elim])
def Wz:Dfz "root" RL WE:=dF
def Gn:=Df.never (P:=e.P) (w:=e.w) (base:=e.base) 0 Wz
def CC:=KA Wz X2 Vw Wn Gn
def Fe (Wz:Dfz "root" RL WE)(X2:Fkz 1 "raised" Ng Qq)(Vw:Fkz 3 "root_below" OE RS)(Wn:Fkz 1 "opposite" MC Q8)(P9:Fkz 4 "root" WE UY):Fkz 5 "root" WE Ta:=
 Wz.mk' (Vl (k:=4) Wz.F Sj HP λ_ _ _ _ _ _ _ hr=>#[_,(Zd (Zu (Zn YJ (dv 0) Zb (Zl _)) (Zf (Zi (Zh Wn hr (Za (PF P9 (rmn hr) YL rfl (Za (XO XT (dv 0)) (pv 1))) Zg)))) Zy) (Zd (Zj (i:=2) Sj.nd (Zh Vw hr (pdv 0 (pv 1)))) (Zd (Zu (Zn (ZG hr) (Zh X2 hr (pdv 2 (pv 1))) (dv 0) (Zl _)) (Zf (Zi (Zv (pdv 2 (pv 2))))) Zy) (Zf (Zi (Zv (pdv 2 (Za (Ze ZL (dv 2) Zb) Zg)))))))),λds S Q ex h=>by
  unfold Ta at h;split at h
  .rename_i N n;obtain⟨⟨n2,n6,sN⟩,h⟩:=h;exact ifD (λc=>#[#[n2,n6,(),sN.neg],λa b l=>h (-b) (-a) ()]) (λc=>#[#[n2,n6,(),sN],λr r0 sr=>#[#[(),n6,sr.mono ⋯],ifD (λ_=>h r r (zS _)) (λ_=>h r (r+1) ())]])
  .exact h.elim])
def Se:=Fe Wz X2 Vw Wn CC
def BX:Fx 6 (top 39) Iz:=
 mF 4 (λhr hn=>s!"DSeC{X2}d,-c1.DSf(,*!ae,*!ae.DI=%c11ORC{T6}b,C{Se},!fc.,C{Se},!fc..DI<!f1OR3DSgC{Se},$f,!f,1.c.DShC{Se},!fc.ORC{ND},C{T6}bgh.,C{T6}b,C{Wn}h.,C{Wn}g...") λS Q ex=>by
  refine kP λz0 z1=>kP λx0 x1=>kI λn=>kI λg=>kN ?_
  rintro⟨⟨n2,n6,sg,sz0,sz1⟩,hn,ht⟩;refine#[#[(),(),sg.mono ⋯],?_];have sgp:Sz 181 (g^(n-1).toNat):=(sg.pow _).mono ();refine#[ZE sz0 sgp,ZE sz1 sgp,?_];have slo:Sz 1300 (z0*g^(n-1).toNat):=(sz0.mul sgp).mono ⋯
  have shi:Sz 1300 (z1*g^(n-1).toNat):=(sz1.mul sgp).mono ⋯;generalize g^(n-1).toNat=G at *
  refine ifD (λe=>?_) (λe=>?_)
  .exact#[#[n2,n6,slo],λa b l=>#[#[n2,n6,shi],λc d k=>#[#[l,k],hn,ht]]]
  .refine ifD (λe2=>hn) (λe2=>?_);refine#[#[n2,n6,(by show Sz 1300 (mx0 (z0*G));unfold mx0;split;exact Sz.of 0 ⋯ (yP ⋯);exact slo)],λa b l=>#[#[n2,n6,shi],λc d k=>?_]];refine#[#[l,k],#[#[(),()],hn,λp q r=>ht p q r],λp q r=>#[#[(),()],ht p q r,λp' q' r'=>?_]];exact ht (if p'<p then p' else p) (if q' > q then q' else q) (r.hull r')
def Jg:Fy 7 ZQ.C 48 3 OF:=
 mM 1 (λhr hn=>s!"DSeC{BX}c,[bF{ZQ.cl}{ZQ.n_one}a,F{ZQ.cl}{ZQ.n_many}ad.DIVe3OR3OR),(,F{ZQ.cl}{ZQ.n_one}ae..") λS Q ex=>by
  refine kR λn=>kR λw=>kP λz0 z1=>kI λg=>kN ?_
  rintro⟨i,m,vs,q,hn,hw,ok,⟨hs,⟨sz0,sz1⟩,hg⟩,h1,h2⟩;refine ZM (n:=n) kId hn rfl ?_;refine ZC (o:=.lst (vs.map frD)) hw (ZU ok.1) ?_;refine ZM (n:=n) kId hn rfl ?_;have a:=hs.at ok.1;refine#[#[ok.2.1,ok.2.2,Sz.of 1000000 (),sz0.mono ⋯,sz1.mono ⋯],h1,λp p' l=>?_];refine ZM (n:=n) kId hn rfl ?_;exact h2 [(i,p,p')] #[by simp,λr hr=>by cases zO.mp hr;exact#[ok.1,l _ a.1 a.2]]
def Av:Fx 8 (top 72) Ej:=
 mF 6 (λhr hn=>s!"DSe!bDSfC{WI},Za56+e1cd.DSgC{DC},!b,[fe.DIVg3OR3DBfegD{Ed (i:=7) PassesOwn.never rfl hn rfl (Or.inl rfl) rfl YY (pdv 4 (Za (XO XT Zb) (Za (XO XT Zb) Zg))) (s!"DSi{QJ (s!"C{R4},[ah.") (YR Yo.cl Ca (rmn hr) (YR Yw.cl HU (rmn hr) (YR Yt.cl L8 (rmn hr) (YR Yq.cl DM (rmn hr) (YR Yr.cl EX (rmn hr) (YR ZQ.cl Jg (rmn hr) Pq)))))) YL (pdv 5 (Za (s!"[fh") (pv 3)))}DIVi3OR3O;jiOBf!j!j")}ORf") λS Q ex=>by
  refine kR λa=>kT λw k=>kR λb=>kI λg=>kN ?_
  rintro⟨ns,ws,bs,zero,ha,hb,hw,⟨k0,k1⟩,net,sb,hg,hl,h1,h2⟩;have disp:∀v:Nd,∃C fs sd,v.oz=.ins C fs/\(C,sd)∈[(Yo.C,LC),(Yw.C,Ov),(Yt.C,Ka),(Yq.C,DR),(Yr.C,F1),(ZQ.C,OF)]/\fs.lookup ("back":Str)=none/\∀(n w:Nat)(z:Int×Int)(g q:Int)(S:Sto)(Q:DK)(ex:Addr->Sto->Prop)(vs:LI),S[n]?=some (v.oz)->La S w (vs.map frD)->v.ok vs.length q->(Bd 1000 vs/\(Sz 1000 z.1/\Sz 1000 z.2)/\(Gg g))->Q .non S->(∀l,Ptw vs.length l->Q (.ref S.length) (S++[.lst (l.map ptD)]))->sd [.ref n,.ref w,frD z,.int g] S Q ex:=by
   intro v;cases v with
   | number x y=>exact#[_,_,_,rfl,(.head _),rfl,λn w z g q S Q ex vs a1 a2 a3 a4 q1 q2=>#[x,y,vs,q,a1,a2,a3,a4,q1,q2]]
   | unknown k=>exact#[_,_,_,rfl,(.tail _ (.head _)),rfl,λn w z g q S Q ex vs a1 a2 a3 a4 q1 q2=>#[k,vs,q,a1,a2,a3,a4,q1,q2]]
   | plus i j=>exact#[_,_,_,rfl,(.tail _ (.tail _ (.head _))),rfl,λn w z g q S Q ex vs a1 a2 a3 a4 q1 q2=>#[i,j,vs,q,a1,a2,a3,a4,q1,q2]]
   | minus i j=>exact#[_,_,_,rfl,(.tail _ (.tail _ (.tail _ (.head _)))),rfl,λn w z g q S Q ex vs a1 a2 a3 a4 q1 q2=>#[i,j,vs,q,a1,a2,a3,a4,q1,q2]]
   | times i j=>exact#[_,_,_,rfl,(.tail _ (.tail _ (.tail _ (.tail _ (.head _))))),rfl,λn w z g q S Q ex vs a1 a2 a3 a4 q1 q2=>#[i,j,vs,q,a1,a2,a3,a4,q1,q2]]
   | power i m=>exact#[_,_,_,rfl,(.tail _ (.tail _ (.tail _ (.tail _ (.tail _ (.head _)))))),rfl,λn w z g q S Q ex vs a1 a2 a3 a4 q1 q2=>#[i,m,vs,q,a1,a2,a3,a4,q1,q2]]
  obtain⟨kn,rfl⟩:∃kn:Nat,k=(kn:Int):=#[k.toNat,()];rw[zK] at h2;have hk:kn<ns.length:=by lia
  refine X7 (n:=a) (o:=.lst (ns.map Nd.d)) (lo:=none) (hi:=some ((kn:Int)+1)) (S3:=S) kId kId kId ha ?_;have ec:Yi (ns.map Nd.d) none (some ((kn:Int)+1))=(ns.take (kn+1)).map Nd.d:=by
   rw[U4 () (by rw[zB];lia),wA];rfl
  rw[show Zk (Ob.lst (ns.map Nd.d))=ns.map Nd.d from rfl,ec];refine#[ns.take (kn+1),ws.take (kn+1),bs,Zm _ _,Zo hb,net.take _,sb,hg,by rw[zG];lia,λT m pr lm hf=>?_];have prS:Pre S T:=λn o e=>pr n o (Zo e)
  have lm':S.length<=m:=by
   have z:(S++[Ob.lst ((ns.take (kn+1)).map Nd.d)]).length<=m:=lm;rw[yB] at z;lia
  have s1:Bd 1000 (Zp bs g (ns.take (kn+1))):=λp hp=>(Rb net rfl sb hg (kn+1) () p hp).2
  have l1:(Zp bs g (ns.take (kn+1))).length=kn+1:=by rw[YZ,zG];lia
  generalize Zp bs g (ns.take (kn+1))=fs at hf s1 l1;have ik:inR ((fs.length:Nat):Int) (kn:Int):=#[(),()]
  have a1:=s1.at ik;refine ZC (o:=.lst (fs.map frD)) hf (ZU ik) ?_;refine#[zero,hw,h1 T prS,λp p' le=>?_];refine Us (n:=m) (k:=(kn:Int)) (j:=kn) (xs:=fs.map frD) (v:=frD (p,p')) kId kId kId hf (by rw[zB,VF ik];rfl) ?_;rw[UA];refine#[rfl,#[(),(),(),()],λt dl' S'=>t<=kn+1/\Pre S S'/\∃us:LI,La S' m (us.map frD)/\us.length=kn+1/\Bd 1000 us/\∃u7 u8 u9:Option D,dl'=[sR a,some (.tup [.str w,.int (kn:Int)]),sR b,sI g,sI (kn:Int),sR m,some (frD (p,p')),u7,u8,u9],#[(),YH prS lm',_,Yb hf,by rw[yM];exact l1,s1.put (le _ a1.1 a1.2),_,_,_,rfl],?_];rintro t dl' S' ⟨ht,prt,us,hu,lu,su,u7,u8,u9,rfl⟩;refine Vj (λtc=>?_) (λtc=>?_)
  .have tc':t<kn+1:=by
    have z:t<((kn:Int) - -1).toNat:=tc;lia
   obtain⟨j,ej⟩:∃j:Nat,kn=j+t:=#[kn-t,()];have en:(kn:Int)-(t:Int)=(j:Int):=by lia
   have hv:ns[j]?=some ns[j]:=zD ();generalize ns[j]=v at hv;have ok:v.ok us.length bs.length:=HL () (net.ok j v hv).1
   have ij:inR ((us.length:Nat):Int) (j:Int):=#[(),()];obtain⟨C,gs,sd,eo,hm,hf2,go⟩:=disp v;have N1:=Zm S' (v.oz);rw[en];refine Qx (n:=S'.length) (C:=C) (sd:=sd) (fs:=gs) (S1:=S'++[v.oz]) (λK hK=>?_) (by rw[<- eo];exact N1) hm hf2 ?_
   .refine ZC (o:=.lst (ns.map Nd.d)) (prt _ _ ha) (OW hv) ?_;exact#[v,rfl,by exact hK]
   refine ZC (o:=.lst (us.map frD)) (Zo hu) (ZU ij) ?_;refine go _ _ (gt us (j:Int)) _ bs.length _ _ _ us N1 (Zo hu) ok #[su,su.at ij,hg] (h1 _ (XY prt _)) (λl P=>?_);have lS:m<S'.length:=ZT hu;refine X0 (n:=(S'++[v.oz]).length) (o:=.lst (l.map ptD)) (λi dl2 S2=>A3 (Pre S S2) (S2[(S'++[v.oz]).length]?=some (.lst (l.map ptD))) (E2 λ(vs:LI)(u9:Option D)=>A4 (La S2 m (vs.map frD)) (vs.length=kn+1) (Bd 1000 vs) (dl2=[sR a,some (.tup [.str w,.int (kn:Int)]),sR b,sI g,sI (kn:Int),sR m,some (frD (p,p')),sI (j:Int),some (.ref (S'++[v.oz]).length),u9]))) #[XY (XY prt _) _,Zm _ _,us,_,Zo (Zo hu),lu,su,rfl] (λi dl2 S2 z=>by obtain⟨_,h,_⟩:=z;exact h) ?_ ?_
   .rintro i x dl2 S2 nx ct ex' ⟨pr2,hl2,vs,u9,hu2,lv,sv,rfl⟩ hn;have ex2:(l.map ptD)[i]?=some x:=ex';rw[zF] at ex2;obtain⟨p,hp,rfl⟩:=zH.mp ex2;obtain⟨q1,q2⟩:=P.2 p (zE hp);refine Us (n:=m) (k:=p.1) (j:=p.1.toNat) (xs:=vs.map frD) (v:=frD p.2) kId kId kId hu2 (by rw[zB,lv,<- lu];exact VF q1) ?_;rw[UA];refine hn _ _ #[YH pr2 lm',ZY hl2 (by rw[yB];lia),_,_,Yb hu2,by rw[yM];exact lv,sv.put q2,rfl]
   .rintro dl2 S2 ⟨pr2,hl2,vs,u9,hu2,lv,sv,rfl⟩;exact#[(),pr2,vs,hu2,lv,sv,_,_,_,rfl]
  .exact h2 us S' m lu prt lm' hu
def JE:Fx 9 (top 73) Fu:=
 mF 5 (λhr hn=>s!"DSeC{Av}abcd.DIVe3OR3DSf{VI (ZS VQ) rfl VM Boot.«list» (pv 2)}D&ghe.DSi[agOI=!i2OBf!ihORf") λS Q ex=>by
  refine kR λa=>kT λw k=>kR λb=>kI λg=>kN ?_
  rintro⟨ns,ws,bs,zero,ha,hb,hw,⟨k0,k1⟩,net,sb,hg,hl,h1,h2⟩;refine#[ns,ws,bs,zero,ha,hb,hw,#[k0,k1],net,sb,hg,hl,h1,λus T m lu pr lm hu=>?_];have lS:m<T.length:=ZT hu;refine VS (ZO (pr _ _ hb) rfl) ?_;refine VL (n:=m) (xs:=us.map frD) (S1:=T++[.lst (bs.map frD)]) (λi dl' S'=>A3 (Pre S S') (La S' m (us.map frD)) (E4 λ(vs:LI)(u6 u7 u8:Option D)=>A3 (La S' T.length (vs.map frD)) (vs.length=bs.length) (dl'=[sR a,some (.tup [.str w,.int k]),sR b,sI g,sR m,sR T.length,u6,u7,u8]))) kId (λi dl' S' z=>by obtain⟨_,h,_⟩:=z;exact h) #[XY pr _,Zo hu,bs,_,_,_,Zm _ _,rfl,rfl] ?_ ?_
  .rintro i x dl' S' nx ct ex' ⟨pr',hu',vs,u6,u7,u8,hl',lv,rfl⟩ hn;rw[zF] at ex';obtain⟨p,hp,rfl⟩:=zH.mp ex';have hi':=(zC.mp hp).1
   have hv:ns[i]?=some ns[i]:=zD ();generalize ns[i]=v at hv;have okv:=(net.ok i v hv).1;refine ZC (o:=.lst (ns.map Nd.d)) (pr' _ _ ha) (OW hv) ?_;have no:=hn _ _ #[pr',hu',vs,sI (i:Int),some (frD p),some v.d,hl',lv,rfl];cases v with
   | unknown u=>
    have oku:inR ((vs.length:Nat):Int) u:=by rw[lv];exact okv
    refine Us (n:=T.length) (k:=u) (j:=u.toNat) (xs:=vs.map frD) (v:=frD p) kId kId kId hl' (by rw[zB];exact VF oku) ?_;rw[UA];exact hn _ _ #[YH pr' (Y1 pr),ZY hu' (),_,_,_,_,Yb hl',by rw[yM];exact lv,rfl]
   | number _ _=>exact no
   | plus _ _=>exact no
   | minus _ _=>exact no
   | times _ _=>exact no
   | power _ _=>exact no
  .rintro dl' S' ⟨pr',hu',vs,u6,u7,u8,hl',lv,rfl⟩;exact h2 vs S' T.length lv pr' (Y1 pr) hl'
def Q7:Fx 1 (top 75) DN:=
 mF 0 (λhr hn=>s!"OR{Ze Rh (Ze Rh (s!"Za56b") (s!")c.")) (s!"Za6+b15")}") λS Q ex=>by
  refine kR λb=>kI λk=>kD λd=>kN ?_
  rintro⟨bs,p,hb,⟨k0,k1⟩,l4,rfl,h⟩;obtain⟨kn,rfl⟩:∃kn:Nat,k=(kn:Int):=#[k.toNat,()];rw[zK] at h;have c1:=Mm (α:=Nat) (xs:=bs.map frD) (lo:=none) (hi:=some (kn:Int))
  have c2:=Mm (α:=Nat) (xs:=bs.map frD) (lo:=some ((kn:Int)+1)) (hi:=none);rw[zB] at c1 c2;refine X7 (n:=b) (o:=.lst (bs.map frD)) (lo:=none) (hi:=some (kn:Int)) (S3:=S) kId kId kId hb ?_;rw[show Zk (Ob.lst (bs.map frD))=bs.map frD from rfl];refine Te (n:=S.length) (m:=(S++[Ob.lst (Yi (bs.map frD) none (some (kn:Int)))]).length) (xs:=Yi (bs.map frD) none (some (kn:Int))) (ys:=[frD p]) (Zo (Zm _ _)) (Zm _ _) (by show (Yi (bs.map frD) none (some (kn:Int))).length+1<=1000;lia) ?_;refine X7 (n:=b) (o:=.lst (bs.map frD)) (lo:=some ((kn:Int)+1)) (hi:=none) (S3:=S++[Ob.lst (Yi (bs.map frD) none (some (kn:Int)))]++[Ob.lst [frD p]]++[Ob.lst (Yi (bs.map frD) none (some (kn:Int))++[frD p])]) kId kId kId (Zo (Zo (Zo hb))) ?_;rw[show Zk (Ob.lst (bs.map frD))=bs.map frD from rfl];refine Te (xs:=Yi (bs.map frD) none (some (kn:Int))++[frD p]) (ys:=Yi (bs.map frD) (some ((kn:Int)+1)) none) (Zo (Zm _ _)) (Zm _ _) (by rw[yB];show (Yi (bs.map frD) none (some (kn:Int))).length+1+_<=1000;lia) ?_;rw[Dj (α:=Nat) ()];refine h _ _ ?_ ?_ (Zm _ _)
  .exact λn o e=>Zo (Zo (Zo (Zo (Zo e))))
  .simp only[yB];lia
def Gi:Fx 1 (top 77) J5:=
 mF 0 (λhr hn=>s!"ORH=!b1(,!a,!b.(,!b,!a.") λS Q ex=>by
  refine kP λa b=>kD λd=>kN ?_
  rintro⟨⟨k,p,s⟩,rfl,h⟩;cases s<;>exact h
def Kn:Fx 6 (top 79) ED:=
 mF 2 (λhr hn=>s!"DSf!eDSg[cfDIM{Mv YJ YJ (piv 6) (piv 4) (piv 6)}OR4ORC{Ms}ab,C{Q7}cf,C{Gi}ge..d.") λS Q ex=>by
  refine kR λa=>kT λw k=>kR λb=>kI λg=>kD λd=>kN ?_
  rintro⟨ns,ws,bs,zero,c,ha,hb,hw,hk,net,sb,hg,hl,rfl,hc,l4,h⟩;have ik:inR ((bs.length:Nat):Int) (c.k:Int):=#[(),()]
  have sz:=sb.at ik;refine ZC (o:=.lst (bs.map frD)) hb (ZU ik) ?_;have no:¬ ((gt bs (c.k:Int)).1<c.p/\c.p<(gt bs (c.k:Int)).2)->Q (.bl false) S:=λn=>by
   have z:=h S Pre.refl
   have e:isS ns zero k.toNat g bs c=false:=by
    unfold isS;rw[show (decide ((gt bs (c.k:Int)).1<c.p)&&decide (c.p<(gt bs (c.k:Int)).2))=false by
     rw[<- Bool.not_eq_true,tO,decide_eq_true_eq,decide_eq_true_eq];exact n]
    rfl
   rw[e] at z;exact z
  refine ifD (λc1=>?_) (λc1=>no λz=>c1 z.1);refine ifN (λc2=>no λz=>c2 z.2) (λc2=>?_);have q:=MZ (c:=c) c1 c2 sz.2.1 sz.2.2;refine#[c,rfl,?_];refine#[bs,c.off (gt bs (c.k:Int)),hb,ik,l4,rfl,λT m pr lm hT=>?_];rw[zK] at hT;have ln:(bs.set c.k (c.off (gt bs (c.k:Int)))).length=bs.length:=yM ..;refine#[ns,ws,_,zero,pr _ _ ha,hT,hw,hk,by rw[ln];exact net,sb.set2 q.2,hg,hl,λT2 pr2=>?_];have z:=h T2 (pr.trans pr2)
  have e:isS ns zero k.toNat g bs c=ibS ns zero k.toNat (bs.set c.k (c.off (gt bs (c.k:Int)))) g:=by
   unfold isS;rw[decide_eq_true c1,decide_eq_true c2];rfl
  rw[e] at z;exact z
def JH:Fx 1 (top 78) Iv:=
 mF 0 (λhr hn=>s!"ORH=!b1(,!b,!a.(,!a,!b.") λS Q ex=>by
  refine kP λa b=>kD λd=>kN ?_
  rintro⟨⟨k,p,s⟩,rfl,h⟩;cases s<;>exact h
def Ef:Fx 10 (top 80) JZ:=
 mF 6 (λhr hn=>s!"DITC{Ms}abcd.OR(,).,3.DSe{VI (ZS VQ) rfl VM Boot.«list» (pv 2)}DSfC{JE}abcd.DIVf3OR(,).e.DSg).D&hif.O{Ai (i:=9) PassesOwn.never rfl hn rfl (Or.inl rfl) (s!"(,(h,-!i1,1.,(h,+!i1,1..") (s!"OITC{Kn}abedj.DEAgjOBehC{JH},[ehj.")}OR(ge.") λS Q ex=>by
  refine kR λa=>kT λw k=>kR λb=>kI λg=>kN ?_
  rintro⟨ns,ws,bs,zero,ha,hb,hw,hk,net,sb,hg,hl,l4,h⟩;obtain⟨kn,rfl⟩:∃kn:Nat,k=(kn:Int):=#[k.toNat,by have:=hk.1;lia];rw[zK] at h;refine#[ns,ws,bs,zero,ha,hb,hw,hk,net,sb,hg,hl,λT pr=>?_];rw[zK];have lST:=Y1 pr;cases hi:ibS ns zero kn bs g with
  | true=>exact h _ T.length .non [] none (My λ_=>hi) (XY pr _) lST (Zm _ _) (.inl #[rfl,rfl])
  | false=>
   refine VS (ZO (pr _ _ hb) rfl) ?_;refine#[ns,ws,bs,zero,Zo (pr _ _ ha),Zo (pr _ _ hb),hw,hk,net,sb,hg,hl,λT2 pr2=>?_,λr T2 m2 lr pr2 lm2 hr2=>?_]
   all_goals
    have hml:T2[T.length]?=some (.lst (bs.map frD)):=pr2 _ _ (Zm _ _)
    have lT2:=ZT hml
    have prS2:Pre S T2:=λn o e=>pr2 _ _ (Zo (pr _ _ e))
   .exact h _ T2.length (.ref T.length) [] (some bs) (My λz=>nomatch z) (XY prS2 _) () (Zm _ _) (.inr #[bs,T.length,rfl,rfl,Zo hml,lST])
   .rw[yB] at lm2;have lm2':T.length<m2:=lm2
    have l22:m2<T2.length:=ZT hr2;refine VL (n:=m2) (xs:=r.map frD) (S1:=T2++[.lst []]) (λi dl' S'=>A4 (i<=r.length) (Pre S S') (La S' m2 (r.map frD)) (∃q:List Ct×LI,A4 (UE ns zero kn g bs (2*i) q) (La S' T2.length (q.1.map Ct.d)) (La S' T.length (q.2.map frD)) (E3 λ(u7 u8 u9:Option D)=>dl'=[sR a,some (.tup [.str w,.int (kn:Int)]),sR b,sI g,sR T.length,sR m2,sR T2.length,u7,u8,u9]))) kId (λi dl' S' z=>by obtain⟨_,_,h,_⟩:=z;exact h) #[zL _,XY prS2 _,Zo hr2,([],bs),#[rfl,rfl,sb,λi c hc=>by simp at hc,λc hc=>(by simp at hc),λi j c d _ hc=>by simp at hc,zA _],Zm _ _,Zo hml,_,_,_,rfl] ?_ ?_
    .rintro i x dl' S' nx ct ex' ⟨hi',pr',hu',q,C,hc',hl',u7,u8,u9,rfl⟩ hn;rw[zF] at ex';obtain⟨p,hp,rfl⟩:=zH.mp ex';have hii:=(zC.mp hp).1;refine#[λj dl2 S2=>A4 (j<=2) (Pre S S2) (La S2 m2 (r.map frD)) (∃q:List Ct×LI,A4 (UE ns zero kn g bs (2*i+j) q) (La S2 T2.length (q.1.map Ct.d)) (La S2 T.length (q.2.map frD)) (∃u9:Option D,dl2=[sR a,some (.tup [.str w,.int (kn:Int)]),sR b,sI g,sR T.length,sR m2,sR T2.length,sI (i:Int),some (frD p),u9])),#[⋯,pr',hu',q,C,hc',hl',_,rfl],?_];rintro j dl2 S2 ⟨hj,pr4,hu4,q,C,hc4,hl4,u9,rfl⟩;rcases j with _|_|j
     .skip
      refine#[ns,ws,q.2,zero,(#[i,p.1-1,false]:Ct),pr4 _ _ ha,hl4,hw,hk,by rw[C.len];exact net,C.spn,hg,hl,rfl,by rw[C.len];show i<_;lia,by rw[C.len];exact l4,λT5 pr5=>?_];rw[zK];have iI:inR ((q.2.length:Nat):Int) (i:Int):=#[(),by rw[C.len];lia]
      have pr6:Pre S T5:=λn o e=>pr5 _ _ (pr4 _ _ e)
      have C1:=C.step (c:=(#[i,p.1-1,false]:Ct)) (by show i<_;lia) (by show 2*i+0=_;lia);unfold Tc at C1;cases hs:isS ns zero kn g q.2 (#[i,p.1-1,false]:Ct) with
      | false=>
       rw[hs,if_neg zR] at C1;exact#[(),pr6,pr5 _ _ hu4,q,C1,pr5 _ _ hc4,pr5 _ _ hl4,_,rfl]
      | true=>
       rw[hs,if_pos rfl] at C1;refine Ys (n:=T2.length) (S1:=T5) (xs:=q.1.map Ct.d) (y:=Ct.d (#[i,p.1-1,false]:Ct)) kId (pr5 _ _ hc4) kId (by rw[zB];have:=C.few;lia) ?_;have z4:=ZY (u:=.lst (q.1.map Ct.d++[Ct.d (#[i,p.1-1,false]:Ct)])) (pr5 _ _ hl4) (show T2.length≠T.length by lia);refine Us (n:=T.length) (k:=(i:Int)) (j:=i) (xs:=q.2.map frD) (v:=frD (Ct.back (#[i,p.1-1,false]:Ct) (gt q.2 (i:Int)))) (λK hK=>ZC (o:=.lst (q.2.map frD)) z4 (ZU iI) #[(#[i,p.1-1,false]:Ct),rfl,hK]) kId kId z4 (by rw[zB,VF iI];rfl) ?_;rw[UA];exact#[(),YH (YH pr6 ()) (),ZY (ZY (pr5 _ _ hu4) ()) (),_,C1,by rw[zZ];exact ZY (Yb (pr5 _ _ hc4)) (),Yb z4,_,rfl]
     .skip
      refine#[ns,ws,q.2,zero,(#[i,p.2+1,true]:Ct),pr4 _ _ ha,hl4,hw,hk,by rw[C.len];exact net,C.spn,hg,hl,rfl,by rw[C.len];show i<_;lia,by rw[C.len];exact l4,λT5 pr5=>?_];rw[zK];have iI:inR ((q.2.length:Nat):Int) (i:Int):=#[(),by rw[C.len];lia]
      have pr6:Pre S T5:=λn o e=>pr5 _ _ (pr4 _ _ e)
      have C1:=C.step (c:=(#[i,p.2+1,true]:Ct)) (by show i<_;lia) (by show 2*i+1=_;lia);unfold Tc at C1;cases hs:isS ns zero kn g q.2 (#[i,p.2+1,true]:Ct) with
      | false=>
       rw[hs,if_neg zR] at C1;exact#[(),pr6,pr5 _ _ hu4,q,C1,pr5 _ _ hc4,pr5 _ _ hl4,_,rfl]
      | true=>
       rw[hs,if_pos rfl] at C1;refine Ys (n:=T2.length) (S1:=T5) (xs:=q.1.map Ct.d) (y:=Ct.d (#[i,p.2+1,true]:Ct)) kId (pr5 _ _ hc4) kId (by rw[zB];have:=C.few;lia) ?_;have z4:=ZY (u:=.lst (q.1.map Ct.d++[Ct.d (#[i,p.2+1,true]:Ct)])) (pr5 _ _ hl4) (show T2.length≠T.length by lia);refine Us (n:=T.length) (k:=(i:Int)) (j:=i) (xs:=q.2.map frD) (v:=frD (Ct.back (#[i,p.2+1,true]:Ct) (gt q.2 (i:Int)))) (λK hK=>ZC (o:=.lst (q.2.map frD)) z4 (ZU iI) #[(#[i,p.2+1,true]:Ct),rfl,hK]) kId kId z4 (by rw[zB,VF iI];rfl) ?_;rw[UA];exact#[(),YH (YH pr6 ()) (),ZY (ZY (pr5 _ _ hu4) ()) (),_,C1,by rw[zZ];exact ZY (Yb (pr5 _ _ hc4)) (),Yb z4,_,rfl]
     .have ej:j=0:=by lia
      subst ej;exact hn _ _ #[(),pr4,hu4,q,by rw[show 2*(i+1)=2*i+2 by lia];exact C,hc4,hl4,_,_,_,rfl]
    .rintro dl' S' ⟨hi',pr',hu',q,C,hc',hl',u7,u8,u9,rfl⟩;rw[zB] at C;exact h S' T2.length (.ref T.length) q.1 (some q.2) #[λz=>(nomatch z),by rw[<- lr];exact C.few,C.is] pr' () hc' (.inr #[_,T.length,rfl,rfl,hl',()])
def XD:Fy 1 Zt.C 84 2 Hz:=
 mM 0 (λhr hn=>s!"OBF{Zt.cl}{Zt.n_fates}abc") λS Q ex=>by
  refine kR λn=>kI λi=>kD λd=>kN ?_
  rintro⟨a,b,j,es,fs,f,B,rfl,lj,o,h⟩;obtain⟨ds,k1,k2,_⟩:=B.ft;obtain⟨B2,cg⟩:=B.fate (i:=j) o k1;refine Us (n:=b) (k:=(j:Int)) (j:=j) (xs:=ds) (v:=d) kId (λK hK=>by exact ZM (n:=n) kId B.ins rfl hK) kId k1 (VF (i:=(j:Int)) #[(),()]) ?_;exact h _ B2 cg
def VN:Fy 1 Zt.C 84 1 HJ:=
 mM 0 (λhr hn=>s!"DEAF{Zt.cl}{Zt.n_boxes}abDEAF{Zt.cl}{Zt.n_fates}a3OR-$a,F{Zt.cl}{Zt.n_boxes}a.1") λS Q ex=>by
  refine kR λn=>kR λm=>kN ?_
  rintro⟨a,b,es,fs,e,B,o,l9,h⟩;obtain⟨bs,h1,h2,_⟩:=B.bx;obtain⟨ds,k1,k2,_⟩:=B.ft;have ll:=B.len;obtain⟨B2,cg⟩:=B.put o h1 k1;refine Ys (n:=a) (S1:=S) (xs:=bs) (y:=.ref m) (λK hK=>by exact ZM (n:=n) kId B.ins rfl hK) h1 kId () ?_;have n1:=ZY (u:=.lst (bs++[.ref m])) B.ins (Ne.symm B.na.1)
  have w1:=ZY (u:=.lst (bs++[.ref m])) k1 B.ne;refine Ys (n:=b) (S1:=S.set a (.lst (bs++[.ref m]))) (xs:=ds) (y:=.non) (λK hK=>by exact ZM (n:=n) kId n1 rfl hK) w1 kId () ?_;refine ZM (n:=n) kId B2.ins rfl ?_;refine YW (ZY (Yb h1) (Ne.symm B.ne)) ?_;have e1:(((bs++[D.ref m]).length:Nat):Int)-1=(es.length:Int):=by rw[yB,h2];show ((es.length+1:Nat):Int)-1=_;lia
  have z:=h _ B2 cg;rw[<- e1] at z;exact z
def VU:Fy 2 Zt.C 84 3 EA:=
 mM 4 (λhr hn=>s!"DSe[F{Zt.cl}{Zt.n_boxes}abDSf[ecDSg0{Zt}{VN}a,C{Q7}ec,(,!fd...DSh0{Zt}{VN}a,C{Q7}ec,(d,!f...DE0{Zt}{XD}ab,(,2cdgh..OR(gh.") λS Q ex=>by
  refine kR λn=>kI λi=>kI λkk=>kI λp=>kN ?_
  rintro⟨a,b,j,k,es,fs,e,s,B,rfl,rfl,he,hs,l4,l9,h⟩;obtain⟨bs,m,h1,h2,o⟩:=B.box he;have lj:=(zC.mp he).1
  have lk:=(zC.mp hs).1
  have lf:=B.len;refine ZM (n:=n) kId B.ins rfl ?_;refine ZC (o:=.lst bs) h1 (Ye (j:=j) h2) ?_;have es':atI (e.map frD) (k:Int)=some (frD s):=Ye (j:=k) (by rw[zF,hs];rfl);refine ZC (o:=.lst (e.map frD)) o.2.2 es' ?_;refine Xh (n:=n) kId B.ins rfl ?_;refine#[e,(s.1,p),o.2.2,#[(),()],l4,rfl,λT1 m1 p1 l1 h1'=>?_];rw[zK] at h1';have na:a<S.length:=ZT h1;obtain⟨ds,k1,_⟩:=B.ft;have nb:b<S.length:=ZT k1;refine#[a,b,es,fs,_,B.pre p1,#[(),(),h1'],(),λT2 B2 cg2=>?_];refine Xh (n:=n) kId B2.ins rfl ?_;have o2:=(o.cg (.pre p1)).cg cg2;refine#[e,(p,s.2),o2.2.2,#[(),()],l4,rfl,λT3 m3 p3 l3 h3'=>?_];rw[zK] at h3';have:=Y1 p1
  have:=cg2.1;refine#[a,b,_,_,_,B2.pre p3,#[(),(),h3'],by rw[yB];show es.length+1<990;lia,λT4 B4 cg4=>?_];have e5:(((es++[e.set k (s.1,p)]).length:Nat):Int)=(es.length:Int)+1:=by rw[yB];show ((es.length+1:Nat):Int)=_;lia
  rw[e5];refine Xh (n:=n) kId B4.ins rfl ?_;refine#[a,b,j,_,_,.cut k p es.length (es.length+1),B4,rfl,by simp;lia,rfl,λT5 B5 cg5=>?_];exact h T5 B5 ((((Cg.pre p1).trans cg2).trans (.pre p3)).trans (cg4.trans cg5))
def QO:Fx 5 (top 85) Co:=
 mF 1 (λhr hn=>s!"DSf][bc1OR(,2c,C{WI},Za56+f1de..") λS Q ex=>by
  refine kR λnd=>kR λrw=>kI λr=>kR λbx=>kI λg=>kN ?_
  rintro⟨k,u,ns,ws,rows,e,row,R,hb,lu,se,rfl,hr,h⟩;have hi:row.2<ns.length:=R.ri row (zE hr);refine ZC (o:=.lst (rows.map rwD)) R.rw (Ye (j:=k) (v:=rwD row) (by show (rows.map rwD)[k]?=_;rw[zF,hr];rfl)) ?_;refine X7 (n:=nd) (o:=.lst (ns.map Nd.d)) (lo:=none) (hi:=some ((row.2:Int)+1)) (S3:=S) kId kId kId R.nd ?_;have ec:Yi (ns.map Nd.d) none (some ((row.2:Int)+1))=(ns.take (row.2+1)).map Nd.d:=by
   rw[U4 () (by rw[zB];lia),wA];rfl
  rw[show Zk (Ob.lst (ns.map Nd.d))=ns.map Nd.d from rfl,ec];refine#[ns.take (row.2+1),ws.take (row.2+1),e,Zm _ _,Zo hb,by rw[lu];exact R.net.take _,se,R.hg,by rw[zG];have:=R.l70;lia,λT m pr lm hf=>?_];exact h T m (λx o z=>pr _ _ (Zo z)) (by rw[yB] at lm;lia) hf
def EU:Fx 11 (top 86) BN:=
 mF 6 (λhr hn=>s!"D&fgc.DShC{Ef}bg,[F{Zt.cl}{Zt.n_boxes}aed.DIV!h3DE0{Zt}{XD}ae,C{QO}bcf,[F{Zt.cl}{Zt.n_boxes}aed..OReO;i!hDSj0{Zt}{VU}ae,!i,!i.DSk[j!iDE0{Zt}{XD}ak,C{QO}bcf,[F{Zt.cl}{Zt.n_boxes}akd..OSe[j-1!iORe") λS Q ex=>by
  refine kR λn=>kR λnd=>kR λrw=>kI λg=>kI λi=>kN ?_
  rintro⟨a,b,j,u,ns,ws,rows,b0,e,es,fs,fine,B,R,A,K,sb,lb,rfl,hw,he,l9,h⟩;have r4:=R.rl
  have u4:=R.u1;refine VL (n:=rw) (xs:=rows.map rwD) (S1:=S) (λk dl' S'=>k<=rows.length/\E4 λ(es':List LI)(fs':List Ft)(j':Nat)(e':LI)=>A8 (Bk Zt.C S' n a b es' fs') (Bks g fine ns rows b0 es' fs') (Cg a b S S') (es'.length<=es.length+16*k) (Shd es j es' j') (fs'[j']?=some .wait) (es'[j']?=some e') (E6 λ(x5 x6 x7 x8 x9 x10:Option D)=>dl'=[sR n,sR nd,sR rw,sI g,sI (j':Int),x5,x6,x7,x8,x9,x10])) kId (λk dl' S' z=>?_) ?_ ?_ ?_
  .obtain⟨_,es',fs',j',e',B',K',cg,_⟩:=z;exact(R.cg A cg).rw
  .exact#[zL _,es,fs,j,e,B,K,.refl,(),#[zA _,λ_=>#[rfl,rfl]],hw,he,_,_,_,_,_,_,rfl]
  .rintro k x dl' S' nx ct hx ⟨hk,es',fs',j',e',B',K',cg,l',sh,hw',he',x5,x6,x7,x8,x9,x10,rfl⟩ hn;rw[zF] at hx;obtain⟨row,hr,rfl⟩:=zH.mp hx;have hk':=(zC.mp hr).1
   have R':=R.cg A cg
   have hi:row.2<ns.length:=R.ri row (zE hr);obtain⟨ll',oks⟩:=K'.ok sb;obtain⟨le',se'⟩:=oks e' (zE he');have net':ZF ((e'.length:Nat):Int) ns ws:=by rw[le',lb];exact R.net
   obtain⟨bs,m,h1,h2,o⟩:=B'.box he';have lj':=(zC.mp he').1
   have la:a<S'.length:=ZT h1
   have lb':b<S'.length:=by
    obtain⟨_,z,_⟩:=B'.ft;exact ZT z
   refine ZM (n:=n) kId B'.ins rfl ?_;refine ZC (o:=.lst bs) h1 (Ye (j:=j') h2) ?_;refine#[ns,ws,e',row.1,R'.nd,o.2.2,rww row.1,#[(),()],net',se',R.hg,R.l70,(),λT mc fd cs o' sok p1 lmc hmc hfd=>?_];rw[zK] at sok;obtain⟨i1,i2,i3⟩:=sok;have B1:=B'.pre p1
   have R1:=R'.pre p1
   have o1:=o.cg (.pre p1)
   have h11:=p1 _ _ h1;rcases hfd with ⟨rfl,hN⟩|⟨left,mf,rfl,hS,hmf,lmf⟩
   .refine Xh (n:=n) kId B1.ins rfl ?_;refine ZM (n:=n) kId B1.ins rfl ?_;refine ZC (o:=.lst bs) h11 (Ye (j:=j') h2) ?_;refine#[k,u,ns,ws,rows,e',row,R1,o1.2.2,(),se',rfl,hr,λT2 m2 p2 l2 h2'=>?_];have:=Y1 p1;refine#[a,b,j',es',fs',.out k (Zp e' g (ns.take (row.2+1))),B1.pre p2,rfl,(),#[m2,rfl,(),(),h2'],λT3 B3 cg3=>?_];exact h T3 es' _ j' B3 (K'.put hw' he' #[row,hr,rfl,i1 hN]) (cg.trans ((Cg.pre p1).trans ((Cg.pre p2).trans cg3))) () sh lj'
   .refine X0 (n:=mc) (o:=.lst (cs.map Ct.d)) (λq dl2 S2=>∃(es2:List LI)(fs2:List Ft)(j2:Nat),Bk Zt.C S2 n a b es2 fs2/\Bks g fine ns rows b0 es2 fs2/\Cg a b T S2/\es2.length=es'.length+2*q/\(q=0->es2=es'/\j2=j')/\fs2[j2]?=some .wait/\es2[j2]?=some (ctA e' (cs.take q))/\q<=cs.length/\∃x8 x9 x10:Option D,dl2=[sR n,sR nd,sR rw,sI g,sI (j2:Int),sI (k:Int),some (rwD row),some (.tup [.ref mc,.ref mf]),x8,x9,x10]) ?_ (λq dl2 S2 z=>?_) ?_ ?_
    .exact#[es',fs',j',B1,K',.refl,(),λ_=>#[rfl,rfl],hw',he',zL _,_,_,_,rfl]
    .obtain⟨es2,fs2,j2,_,_,cg2,_⟩:=z;exact cg2.2 _ _ () () hmc
    .rintro q x dl2 S2 nx2 ct2 hx2 ⟨es2,fs2,j2,B2,K2,cg2,l2,s2,hw2,he2,q2,x8,x9,x10,rfl⟩ hn2;have hx3:(cs.map Ct.d)[q]?=some x:=hx2;rw[zF] at hx3;obtain⟨c,hc,hcx⟩:=zH.mp hx3;obtain⟨s',hs',hx4⟩:∃s':Int,(c.s=true/\s'=1\/c.s=false/\s'=0)/\x=.tup [.int (c.k:Int),.int c.p,.int s']:=#[if c.s then 1 else 0,by cases c.s<;>simp,hcx.symm];subst hx4;have lq:=(zC.mp hc).1;obtain⟨isc,lc⟩:=i3 q c hc;have lA:=Dd e' (cs.take q)
     have oks2:=(K2.ok sb).1;obtain⟨y1,y2,y3,y4,y5,y6⟩:=K2.shave oks2 hw2 he2 (by rw[lA];exact lc) isc hr;refine Xh (n:=n) kId B2.ins rfl ?_;refine#[a,b,j2,c.k,es2,fs2,_,_,B2,rfl,rfl,he2,y1,by rw[lA];lia,(),λT3 B3 cg3=>?_];have R3:=R1.cg A (cg2.trans cg3);generalize hth:es2.length+(if c.s then 1 else 0)=th at y2 y3 y4 y5 y6;generalize hnj:es2.length+(if c.s then 0 else 1)=nj at y5 y6;have et:(s'=0/\(th:Int)=es2.length\/s'=1/\(th:Int)=(es2.length:Int)+1)/\(1-s'=0/\(nj:Int)=es2.length\/1-s'=1/\(nj:Int)=(es2.length:Int)+1):=by
      rcases hs' with ⟨ec,rfl⟩|⟨ec,rfl⟩<;>simp only[ec,if_true,uE,if_false] at hth hnj<;>lia
     refine ixT2 et.1 ?_;obtain⟨l3,oks3⟩:=y4.ok sb;obtain⟨bs3,m3,h13,h23,o3⟩:=B3.box y2;obtain⟨lt3,st3⟩:=oks3 _ (zE y2);have lth:=(zC.mp y3).1
     have la3:a<T3.length:=ZT h13
     have lb3:b<T3.length:=by
      obtain⟨_,z,_⟩:=B3.ft;exact ZT z
     refine Xh (n:=n) kId B3.ins rfl ?_;refine ZM (n:=n) kId B3.ins rfl ?_;refine ZC (o:=.lst bs3) h13 (Ye (j:=th) h23) ?_;refine#[k,u,ns,ws,rows,_,row,R3,o3.2.2,(),st3,rfl,hr,λT4 m4 p4 l4 h4=>?_];have:=Y1 p4;refine#[a,b,th,_,_,.out k (Zp _ g (ns.take (row.2+1))),B3.pre p4,rfl,lth,#[m4,rfl,(),(),h4],λT5 B5 cg5=>?_];refine ixT2 et.2 ?_;refine hn2 _ _ #[_,_,nj,B5,y4,cg2.trans (cg3.trans ((Cg.pre p4).trans cg5)),by simp;lia,λz=>absurd z (),y6,?_,(),_,_,_,rfl];rw[Ic hc];exact y5
    .rintro dl2 S2 ⟨es2,fs2,j2,B2,K2,cg2,l2,s2,hw2,he2,q2,x8,x9,x10,rfl⟩;refine hn _ _ #[(),es2,fs2,j2,_,B2,K2,cg.trans ((Cg.pre p1).trans cg2),?_,?_,hw2,he2,_,_,_,_,_,_,rfl]
     .rw[show (Zk (.lst (cs.map Ct.d))).length=cs.length from zB ..] at l2;lia
     .refine#[by have:=sh.1;lia,λz=>?_];have q0:(Zk (.lst (cs.map Ct.d))).length=0:=by have:=sh.1;lia
      obtain⟨rfl,rfl⟩:=s2 q0;exact sh.2 z
  .rintro dl' S' ⟨hk,es',fs',j',e',B',K',cg,l',sh,hw',he',x5,x6,x7,x8,x9,x10,rfl⟩;rw[zB] at l';exact h S' es' fs' j' B' K' cg () sh (zC.mp he').1
def N8:Fx 1 (top 53) Ip:=
 mF 0 (λhr hn=>s!"DI=a2OR{O3 (s!"U=!b1") (R8 (s!"U=!b1"))}ORUG!b1") λS Q ex=>by
  refine kS λ_=>kP λ_ _=>kN λh=>?_
  rcases h with ⟨rfl,h⟩|⟨rfl,h⟩
  .refine ifD (λc=>?_) (λc=>?_)
   .rw[decide_eq_true c,uH] at h;exact h
   .rw[decide_eq_false c,vB] at h;exact h
  .exact h
def Hv:Fx 6 (top 87) FU:=
 mF 2 (λhr hn=>s!"D&fgb.OITC{Oo},!g,[e!g.ORC{QO}abfcd.DIT$g,7{"row"}{["spans"]}{[4]}{ZA (top 87)}bC{N8},!a,[b!a..OR(,2e.OR3") λS Q ex=>by
  refine kR λnd=>kR λrw=>kR λbx=>kI λg=>kR λsp=>kN ?_
  rintro⟨u,ns,ws,rows,e,R,hb,lu,se,hs,ho,hf,hn⟩;have r4:=R.rl;refine VL (n:=rw) (xs:=rows.map rwD) (S1:=S) (λk dl' S'=>S=S'/\k<=rows.length/\(∀(i:Nat)(row:Bool×Nat),i<k->rows[i]?=some row->ibS ns row.1 row.2 e g=false)/\∃x5 x6:Option D,dl'=[sR nd,sR rw,sR bx,sI g,sR sp,x5,x6]) kId (λk dl' S' z=>z.1 ▸ R.rw) #[rfl,zL _,λi row hi=>absurd hi (),_,_,rfl] ?_ ?_
  .rintro k x dl' S' nx ct hx ⟨rfl,hk,hno,x5,x6,rfl⟩ hn2;rw[zF] at hx;obtain⟨row,hr,rfl⟩:=zH.mp hx;have hi:row.2<ns.length:=R.ri row (zE hr)
   have lk:=(zC.mp hr).1;refine ZC (o:=.lst ((Zp e g ns).map frD)) hs (ZU (vs:=Zp e g ns) (i:=(row.2:Int)) #[(),by rw[YZ];lia]) ?_;have eb:ibS ns row.1 row.2 e g=brS row.1 (gt (Zp e g ns) (row.2:Int)):=by unfold ibS;rw[D8 hi]
   have key:∀b:Bool,ibS ns row.1 row.2 e g=b->if b=true then (∃(k' u:Nat)(ns:List Nd)(ws:List Nat)(rows:List (Bool×Nat))(e:LI)(row:Bool×Nat),Sr S nd rw g ns ws rows u/\La S bx (e.map frD)/\e.length=u/\Spn 51 e/\(k:Int)=(k':Int)/\rows[k']?=some row/\∀(T:Sto)(m:Nat),Pre S T->S.length<=m->La T m ((Zp e g (ns.take (row.2+1))).map frD)->Q (.tup [.str "out",.int (k:Int),.ref m]) T) else nx [sR nd,sR rw,sR bx,sI g,sR sp,sI (k:Int),some (rwD row)] S:=λb hb'=>by
    cases b with
    | true=>
     rw[if_pos rfl];exact#[k,u,ns,ws,rows,e,row,R,hb,lu,se,rfl,hr,λT m p l hm=>ho T k m row p l hr hb' hm]
    | false=>
     rw[if_neg zR];refine hn2 _ _ #[rfl,(),λi row' hi' hr'=>?_,_,_,rfl];by_cases c:i=k
     .subst c;rw[hr] at hr';cases hr';exact hb'
     .exact hno i row' () hr'
   rcases row with ⟨_|_,rn⟩
   .exact .inr #[rfl,key _ eb]
   .exact .inl #[rfl,key _ eb]
  .rintro dl' S' ⟨rfl,hk,hno,x5,x6,rfl⟩;rw[zB] at hno;have nb:∀row∈rows,ibS ns row.1 row.2 e g=false:=λrow hr=>by
    obtain⟨i,hi⟩:=wY.mp hr;exact hno i row (zC.mp hi).1 hi
   refine XN (n:=rw) (S1:=S) (o:=.lst (rows.map rwD)) (λd=>match d with|.tup [.str w,.int at']=>.bl (suB (decide (w="zero")) (gt (Zp e g ns) at'))|_=>.non) kId R.rw (by show (rows.map rwD).length<=1000;rw[zB];lia) (λx hx S2 K pr hK=>?_) ?_
   .have hx':x∈rows.map rwD:=hx;obtain⟨⟨b,n⟩,hm,rfl⟩:=zP.mp hx';refine ZC (o:=.lst ((Zp e g ns).map frD)) (pr _ _ hs) (ZU (vs:=Zp e g ns) (i:=(n:Int)) #[(),by rw[YZ];have:=R.ri _ hm;dsimp only at this;lia]) ?_;cases b
    .exact .inr #[rfl,hK]
    .exact .inl #[rfl,hK]
   .refine UO (n:=S.length) (o:=.lst _) (Zm _ _) (MH ns e g rows) ?_;rw[Jr];cases es:suS ns rows e g with
    | true=>exact Y0 (hf nb es _ Pre.refl.push)
    | false=>exact Y5 (hn nb es _ Pre.refl.push)
def Dc:Fx 1 (top 57) Hg:=
 mF 0 (λhr hn=>s!"OR{Xz (x:="row") (N:=[]) (caps:=[]) (ar:=ZA (top 57)) rfl rfl csc rfl ⋯ (dv 0) (λ_ _ _ _ _ _=>TF (Zn (ZG hr) (piv 0) ZJ (Zl _))) (λ_ _ _ _ _ _=>(piv 0))}") λS Q ex=>by
  refine kR λr=>kN ?_
  rintro⟨rows,hr,l9,h⟩;refine QE (n:=r) (S1:=S) (o:=.lst (rows.map rwD)) (λd=>match d with|.tup [.str w,.int at']=>if w="zero" then some (.int at') else none|_=>none) kId hr (by show (rows.map rwD).length<=1000;rw[zB];lia) (λx hx S2 K pr hK=>?_) (λx hx y hy S2 K pr hK=>?_) ?_
  .have hx':x∈rows.map rwD:=hx;obtain⟨⟨b,n⟩,_,rfl⟩:=zP.mp hx';cases b
   .exact hK
   .exact hK
  .have hx':x∈rows.map rwD:=hx;obtain⟨⟨b,n⟩,_,rfl⟩:=zP.mp hx';cases b
   .exact absurd hy (by
     simp[rwD];intro z;exact absurd z ⋯)
   .cases hy;exact hK
  .have e:(Zk (.lst (rows.map rwD))).filterMap (λd=>match d with|.tup [.str w,.int at']=>if w="zero" then some (.int at') else none|_=>none)=(eqs rows).map wtD:=by
    show (rows.map rwD).filterMap _=_;unfold eqs;rw[tP,List.map_filterMap];congr 1;funext #[b,n];cases b<;>rfl
   rw[e];exact h
def Mn:Fx 1 (top 58) Ee:=
 mF 0 (λhr hn=>s!"OR7{"place"}{["each"]}{[0]}{ZA (top 58)}b[ba") λS Q ex=>by
  refine kR λe=>kR λp=>kN ?_
  rintro⟨xs,is,he,hp,l9,hi,h⟩;refine XN (n:=p) (S1:=S) (o:=.lst (is.map wtD)) (λd=>match d with|.int i=>xs.getD i.toNat .non|_=>.non) kId hp (by show (is.map wtD).length<=1000;rw[zB];lia) (λx hx S2 K pr hK=>?_) ?_
  .have hx':x∈is.map wtD:=hx;obtain⟨i,him,rfl⟩:=zP.mp hx';have hl:=hi i him;refine ZC (o:=.lst xs) (pr _ _ he) (Ye (j:=i) (v:=xs.getD i .non) (by show xs[i]?=_;rw[zD hl];simp[hl])) ?_;exact hK
  .have e2:(Zk (.lst (is.map wtD))).map (λd=>match d with|.int i=>xs.getD i.toNat .non|_=>.non)=is.map λi=>xs.getD i .non:=by
    show (is.map wtD).map _=_;rw[yA];rfl
   rw[e2];exact h
def J6:Fy 1 Yo.C 42 4 Oy:=
 mM 0 (λhr hn=>s!"OR{Ze Dg (s!"),(,1,1..") (dv 3)}") λS Q ex=>by
  refine kR λn=>kR λw=>kR λs=>kI λqi=>kI λg=>kN ?_
  rintro⟨x,y,q,vs,sl,ds,hn,hw,hs,rows,sz,⟨rfl,hq⟩,ok,lv,s1,hg,h⟩;have sg:Sz 21 g:=Sz.of 1000000 ()
  have aZ:∀ys:List D,ys=(YU vs sl g q (Nd.number x y)).map frD->Q (.ref (S++[Ob.lst [frD (0,0)]]).length) ((S++[.lst [frD (0,0)]])++[.lst ys]):=λys e=>by
   subst e;exact h _ _ Pre.refl.push.push (by simp) (Zm _ _)
  refine Jd (n:=S.length) (k:=((q:Nat):Int)) (xs:=[frD (0,0)]) (Zm _ _) #[(),()] (by simp;lia) ?_;refine aZ _ ?_;rw[zK,Aj];unfold YU;rw[yA];rfl
def B9:Fy 1 Yw.C 43 4 NL:=
 mM 0 (λhr hn=>s!"OR{Qg (x:="k") (N:=["grid","self"]) (caps:=[4,0]) (ar:=ZA (Xa (top 43) 4)) rfl rfl csc rfl ⋯ rfl YY (pv 3) pt0 (λ_ _ _ _ _ _=>(s!"H=aF{Yw.cl}{Yw.n_place}c(bb.(,1,1."))}") λS Q ex=>by
  refine kR λn=>kR λw=>kR λs=>kI λqi=>kI λg=>kN ?_
  rintro⟨k,q,vs,sl,ds,hn,hw,hs,rows,sz,⟨rfl,hq⟩,ok,lv,s1,hg,h⟩;have sg:Sz 21 g:=Sz.of 1000000 ()
  have aZ:∀ys:List D,ys=(YU vs sl g q (Nd.unknown k)).map frD->Q (.ref S.length) (S++[.lst ys]):=λys e=>by
   subst e;exact h _ _ Pre.refl.push (by simp) (Zm _ _)
  refine Th (j:=((q:Nat):Int)) (S1:=S) (λl=>frD (if (l:Int)=k then (g,g) else (0,0))) kId #[(),()] (λl hl S2 K pr hK=>?_) ?_
  .refine ZM (n:=n) kId (pr _ _ hn) rfl ?_;refine ifD (λe=>?_) (λe=>?_)
   .rw[if_pos e] at hK;exact hK
   .rw[if_neg e] at hK;exact hK
  .refine aZ _ ?_;rw[zK];unfold YU;rw[yA];rfl
def AR:Fy 2 Yt.C 45 4 GD:=
 mM 0 (λhr hn=>s!"ORC{VC}de.") λS Q ex=>by
  refine kR λ_=>kD λ_=>kD λ_=>kP λ_ _=>kP λ_ _=>kI λ_=>kN λh=>?_
  exact h
def QH {C:Addr}{c:Int->Int->Nd}{k:Nat}{sd:Sd}(f:Int×Int->Int×Int->Int×Int->Int×Int->Int->Int×Int)(p:Pr C c)(hl:∀vs sl g l i j,(c i j).sl vs sl g l=f (gt vs i) (gt vs j) (gs sl i l) (gs sl j l) g)(hs:∀(n:Nat)(x y p r:Int×Int)(g:Int)(S:Sto)(Q:DK) ex,(Sz 1400 x.1/\Sz 1400 x.2/\Sz 1400 y.1/\Sz 1400 y.2/\Sz 1400 p.1/\Sz 1400 p.2/\Sz 1400 r.1/\Sz 1400 r.2/\1<=g/\g<=1000000)->Q (frD (f x y p r g)) S->sd [.ref n,frD x,frD y,frD p,frD r,.int g] S Q ex)(d:Dmz C "slope" "Pair.slope" RG Td)(G_1:Fmz k C "slope_of_both" Fw sd):Fmz (k+1) C "slope" Td (SS c):=
 mkM d QD (λhr=>(Zd (Vo (i:=5) QD.nd rfl (Or.inr rfl) (ZD (dv 1) (ZN p.cl p.o (dv 0)))) (Zd (Vo (i:=6) QD.nd rfl (Or.inr rfl) (ZD (dv 1) (ZN p.cl p.t (dv 0)))) (Zf (Zi (RQ (x1:="a") (x2:="b") (N:=["x","y","grid","self"]) (caps:=[5,6,4,0]) (ar:=ZA RG) rfl rfl Wl rfl rfl rfl ⋯ rfl V8 Boot.«zip» (Za (ZD (dv 2) (ZN p.cl p.o (dv 0))) (Za (ZD (dv 2) (ZN p.cl p.t (dv 0))) Zg)) (λ_ _ _ _ _ _=>(XZ (C:=C) (dv 5) p.cl G_1.m G_1.ok (hr.mono (zA _)) G_1.b YL (pdv 2 (pdv 3 (pdv 0 (pdv 1 (pv 4))))))))))))) λS Q ex=>by
  refine kR λn=>kR λw=>kR λs=>kI λqi=>kI λg=>kN ?_
  rintro⟨i,j,q,vs,sl,ds,hn,hw,h0,rows,sz,⟨rfl,hq⟩,ok,lv,s1,hg,h⟩;rw[p.b] at hn;rw[p.k] at ok;have aZ:∀ys:List D,ys=(YU vs sl g q (c i j)).map frD->Q (.ref S.length) (S++[.lst ys]):=λys e=>by
   subst e;exact h _ _ Pre.refl.push (by simp) (Zm _ _)
  refine ZM (n:=n) kId hn rfl ?_;refine ZC (o:=.lst (vs.map frD)) hw (ZU (i:=i) #[ok.1.1,by have:=ok.1.2;lia]) ?_;refine ZM (n:=n) kId hn rfl ?_;refine ZC (o:=.lst (vs.map frD)) hw (ZU (i:=j) #[ok.2.1,by have:=ok.2.2;lia]) ?_;obtain⟨a1,ea,_,ha⟩:=rows.at ok.1;obtain⟨a2,eb,_,hb⟩:=rows.at ok.2;obtain⟨la,za⟩:=sz i ok.1;obtain⟨lb,zb⟩:=sz j ok.2;have ci:=s1.at (i:=i) #[ok.1.1,by have:=ok.1.2;lia]
  have cj:=s1.at (i:=j) #[ok.2.1,by have:=ok.2.2;lia];refine U3 (n:=a1) (n':=a2) (S1:=S) (xs:=(sl.getD i.toNat []).map frD) (ys:=(sl.getD j.toNat []).map frD) (λx y=>match x,y with|.tup [.int a,.int b],.tup [.int c,.int d]=>frD (f (gt vs i) (gt vs j) (a,b) (c,d) g)|_,_=>.non) (λK hK=>by
   refine ZM (n:=n) kId hn rfl ?_;refine ZC (o:=.lst ds) h0 ea ?_;refine ZM (n:=n) kId hn rfl ?_;exact ZC (o:=.lst ds) h0 eb hK) ha hb (by rw[zB,la];lia) (λk x y hx hy S2 K pr hK=>?_) ?_
  .rw[zF] at hx hy;obtain⟨p2,hp,rfl⟩:=zH.mp hx;obtain⟨r,hr,rfl⟩:=zH.mp hy;have kq:k<q:=by
    have:=(zC.mp hp).1;lia
   have e1:gs sl i k=p2:=by
    unfold gs;rw[zW,hp];rfl
   have e2:gs sl j k=r:=by
    unfold gs;rw[zW,hr];rfl
   have z1:=za k kq
   have z2:=zb k kq;rw[e1] at z1;rw[e2] at z2;refine Xh (n:=n) (fs:=[("one",.int i),("other",.int j)]) kId (pr _ _ hn) rfl ?_;exact hs _ _ _ _ _ _ _ _ _ #[ci.2.1.mono ⋯,ci.2.2.mono ⋯,cj.2.1.mono ⋯,cj.2.2.mono ⋯,z1.2.1.mono ⋯,z1.2.2.mono ⋯,z2.2.1.mono ⋯,z2.2.2.mono ⋯,hg.1,hg.2] hK
  .refine aZ _ ?_;rw[tW];unfold YU;rw[yA];rw[CO _ _ _ la lb];exact wZ λl _=>(congrArg frD (hl ..)).symm
def Cc:Dmz Yt.C "slope" "Pair.slope" RG Td:=dM
def KW:=QH (λ_ _ p r _=>(p.1+r.1,p.2+r.2)) QS (λ_ _ _ _ _ _=>rfl) (λ_ _ _ _ _ _ _ _ _ z h=>h) Cc AR
def Cy:Fy 2 Yq.C 46 4 Km:=
 mM 0 (λhr hn=>s!"ORC{W6}de.") λS Q ex=>by
  refine kR λ_=>kD λ_=>kD λ_=>kP λ_ _=>kP λ_ _=>kI λ_=>kN λh=>?_
  exact h
def Ag:Dmz Yq.C "slope" "Pair.slope" AF Du:=dM
def Hy:=QH (λ_ _ p r _=>(p.1-r.2,p.2-r.1)) Pc (λ_ _ _ _ _ _=>rfl) (λ_ _ _ _ _ _ _ _ _ z h=>h) Ag Cy
def Jn:Fy 3 Yr.C 47 4 Gm:=
 mM 0 (λhr hn=>s!"ORC{VC},C{UK}bef.,C{UK}cdf..") λS Q ex=>by
  refine kR λ_=>kP λx1 x2=>kP λy1 y2=>kP λa b=>kP λc d=>kI λg=>kN ?_
  rintro⟨⟨h1,h2,h3,h4,h5,h6,h7,h8,g1,g2⟩,h⟩;have sg:Sz 21 g:=Sz.of 1000000 ();refine#[#[#[ZE h1 h7,ZE h1 h8,ZE h2 h7,ZE h2 h8],sg.fd ()],λmn mx hc=>?_];obtain⟨rfl,rfl⟩:=hc.eq;refine#[#[#[ZE h3 h5,ZE h3 h6,ZE h4 h5,ZE h4 h6],sg.fd ()],λmn mx hc=>?_];obtain⟨rfl,rfl⟩:=hc.eq;exact h
def G0:Dmz Yr.C "slope" "Pair.slope" Et FG:=dM
def DJ:=QH (λx y p r g=>((Z8 x r g).1+(Z8 y p g).1,(Z8 x r g).2+(Z8 y p g).2)) P7 (λ_ _ _ _ _ _=>rfl) (λ_ _ _ _ _ _ _ _ _ z h=>#[z,h]) G0 Jn
def By:Fx 1 (top 22) B6:=
 mF 0 (λhr hn=>s!"OR(,$c,*!ab,*!ab.,$f,*!ab,*!ab..") λS Q ex=>by
  refine kP λ_ _=>kI λ_=>kN ?_
  rintro⟨⟨h1,h2⟩,h⟩;exact#[h1,h2,h1,h2,h]
def DW:Fy 3 ZQ.C 48 4 NQ:=
 mM 2 (λhr hn=>s!"DSfC{NV},[bF{ZQ.cl}{ZQ.n_one}a,-F{ZQ.cl}{ZQ.n_many}a1e.D{Vo (i:=6) hn rfl (Or.inr rfl) (s!"C{By}f,F{ZQ.cl}{ZQ.n_many}a.")}OR7{"a"}{["steep","grid"]}{[6,4]}{ZA (Xa (top 48) 4)}[cF{ZQ.cl}{ZQ.n_one}aC{UK}bac.") λS Q ex=>by
  refine kR λn=>kR λw=>kR λs=>kI λqi=>kI λg=>kN ?_
  rintro⟨i,m,q,vs,sl,ds,hn,hw,hs,rows,sz,⟨rfl,hq⟩,ok,lv,s1,hg,h⟩;have sg:Sz 21 g:=Sz.of 1000000 ()
  have aZ:∀ys:List D,ys=(YU vs sl g q (Nd.power i m)).map frD->Q (.ref S.length) (S++[.lst ys]):=λys e=>by
   subst e;exact h _ _ Pre.refl.push (by simp) (Zm _ _)
  obtain⟨a1,ea,_,ha⟩:=rows.at ok.1;obtain⟨la,za⟩:=sz i ok.1;have ci:=s1.at (i:=i) #[ok.1.1,by have:=ok.1.2;lia];obtain⟨ok1,m2,m6⟩:=ok;refine ZM (n:=n) kId hn rfl ?_;refine ZC (o:=.lst (vs.map frD)) hw (ZU (i:=i) #[ok1.1,by have:=ok1.2;lia]) ?_;refine ZM (n:=n) kId hn rfl ?_;refine#[#[(),(),ci.2.1.mono ⋯,ci.2.2.mono ⋯,hg.1,sg.mono ⋯],λm' M' hP=>?_];obtain⟨rfl,rfl⟩:=hP.eq ();have gp:(1:Int)<=g^((m-1).toNat-1):=yG ()
  have lo:=Uo gp (P6 (gt vs i).1 (gt vs i).2 (m-1).toNat)
  have fl:=JQ (gt vs i) (n:=m) () hg.1
  have p1:Sz 6000 ((gt vs i).1^(m-1).toNat):=(ci.2.1.pow _).mono ()
  have p2:Sz 6000 ((gt vs i).2^(m-1).toNat):=(ci.2.2.pow _).mono ()
  have pl:Sz 6000 (ZP (gt vs i).1 (gt vs i).2 (m-1).toNat):=by
   unfold ZP;split
   .exact yP ⋯
   .exact Wj p1 p2
  have sm:Sz 10 m:=Sz.of 6 ();refine ZM (n:=n) kId hn rfl ?_;refine#[#[ZE (pl.div gp) sm,ZE (Vs (X8 p1 p2) gp) sm],?_];have e1:(if -(-Z9 (gt vs i).1 (gt vs i).2 (m-1).toNat/g^((m-1).toNat-1))*m<ZP (gt vs i).1 (gt vs i).2 (m-1).toNat/g^((m-1).toNat-1)*m then -(-Z9 (gt vs i).1 (gt vs i).2 (m-1).toNat/g^((m-1).toNat-1))*m else ZP (gt vs i).1 (gt vs i).2 (m-1).toNat/g^((m-1).toNat-1)*m)=(YD (gt vs i) m g).1:=by
   rw[if_neg (by have z:(YD (gt vs i) m g).1<=(YD (gt vs i) m g).2:=fl;exact Int.not_lt.mpr z)];rfl
  have e2:(if -(-Z9 (gt vs i).1 (gt vs i).2 (m-1).toNat/g^((m-1).toNat-1))*m > ZP (gt vs i).1 (gt vs i).2 (m-1).toNat/g^((m-1).toNat-1)*m then -(-Z9 (gt vs i).1 (gt vs i).2 (m-1).toNat/g^((m-1).toNat-1))*m else ZP (gt vs i).1 (gt vs i).2 (m-1).toNat/g^((m-1).toNat-1)*m)=(YD (gt vs i) m g).2:=by
   split
   .rfl
   .rename_i c;have z:¬ (YD (gt vs i) m g).1<(YD (gt vs i) m g).2:=c
    have z2:(YD (gt vs i) m g).1=(YD (gt vs i) m g).2:=by lia
    exact z2
  rw[e1,e2];have f1:Sz 6010 (YD (gt vs i) m g).1:=SU (e:=10) (pl.div gp) () ()
  have f2:Sz 6010 (YD (gt vs i) m g).2:=SU (e:=10) (Vs (X8 p1 p2) gp) () ();generalize hfc:YD (gt vs i) m g=fc at f1 f2;refine XN (n:=a1) (S1:=S) (o:=.lst ((sl.getD i.toNat []).map frD)) (λx=>match x with|.tup [.int a,.int b]=>frD (Z8 fc (a,b) g)|_=>.non) (λK hK=>by
   refine ZM (n:=n) kId hn rfl ?_;exact ZC (o:=.lst ds) hs ea hK) ha (by show ((sl.getD i.toNat []).map frD).length<=1000;rw[zB,la];lia) (λx hx S2 K pr hK=>?_) ?_
  .have hx':x∈(sl.getD i.toNat []).map frD:=hx;obtain⟨p,hp,rfl⟩:=zP.mp hx';obtain⟨k,hk,ek⟩:=yZ.mp hp;have z1:=za k ()
   have e1:gs sl i k=p:=by
    unfold gs;rw[zW,zD hk,ek];rfl
   rw[e1] at z1;refine#[#[#[ZE f1 z1.2.1,ZE f1 z1.2.2,ZE f2 z1.2.1,ZE f2 z1.2.2],sg.fd ()],λmn mx hc=>?_];obtain⟨rfl,rfl⟩:=hc.eq;exact hK
  .refine aZ _ ?_;show ((sl.getD i.toNat []).map frD).map _=_;rw[yA,EG _ _ la];unfold YU;rw[yA];subst hfc;rfl
def NP:Fx 5 (top 55) Hl:=
 mF 3 (λhr hn=>s!"DSdC{WI}abc.DSe).D;faOEAe{QJ (s!"C{R4}f.") (YR Yo.cl J6 (rmn hr) (YR Yw.cl B9 (rmn hr) (YR Yt.cl KW (rmn hr) (YR Yq.cl Hy (rmn hr) (YR Yr.cl DJ (rmn hr) (YR ZQ.cl DW (rmn hr) Pq)))))) YL (pdv 3 (pdv 4 (Za (s!"$ab.") (pv 2))))}ORe") λS Q ex=>by
  refine kR λa=>kR λb=>kI λg=>kN ?_
  rintro⟨ns,ws,bs,ha,hb,net,sb,hq9,hg,hl,h⟩;have disp:∀v:Nd,∃C fs sd,v.oz=.ins C fs/\(C,sd)∈[(Yo.C,Oy),(Yw.C,NL),(Yt.C,IW),(Yq.C,Bh),(Yr.C,AI),(ZQ.C,NQ)]/\fs.lookup ("slope":Str)=none/\∀(n w s:Nat)(q:Nat)(g:Int)(S:Sto)(Q:DK)(ex:Addr->Sto->Prop)(vs:LI)(sl:List LI)(ds:List D),S[n]?=some (v.oz)->La S w (vs.map frD)->La S s ds->Yh S 0 ds sl->(∀i:Int,inR sl.length i->(sl.getD i.toNat []).length=q/\∀l,l<q->(gs sl i l).1<=(gs sl i l).2/\Sz 1100 (gs sl i l).1/\Sz 1100 (gs sl i l).2)->q<=900->v.ok sl.length q->sl.length<=vs.length->Spn 1000 vs->(Gg g)->(∀(T:Sto)(m:Nat),Pre S T->S.length<=m->La T m ((YU vs sl g q v).map frD)->Q (.ref m) T)->sd [.ref n,.ref w,.ref s,.int (q:Nat),.int g] S Q ex:=by
   intro v;cases v with
   | number x y=>exact#[_,_,_,rfl,(.head _),rfl,λn w s q g S Q ex vs sl ds a1 a2 a3 a4 a5 a6 a7 a8 a9 b1 b2=>#[x,y,q,vs,sl,ds,a1,a2,a3,a4,a5,#[rfl,a6],a7,a8,a9,b1,b2]]
   | unknown k=>exact#[_,_,_,rfl,(.tail _ (.head _)),rfl,λn w s q g S Q ex vs sl ds a1 a2 a3 a4 a5 a6 a7 a8 a9 b1 b2=>#[k,q,vs,sl,ds,a1,a2,a3,a4,a5,#[rfl,a6],a7,a8,a9,b1,b2]]
   | plus i j=>exact#[_,_,_,rfl,(.tail _ (.tail _ (.head _))),rfl,λn w s q g S Q ex vs sl ds a1 a2 a3 a4 a5 a6 a7 a8 a9 b1 b2=>#[i,j,q,vs,sl,ds,a1,a2,a3,a4,a5,#[rfl,a6],a7,a8,a9,b1,b2]]
   | minus i j=>exact#[_,_,_,rfl,(.tail _ (.tail _ (.tail _ (.head _)))),rfl,λn w s q g S Q ex vs sl ds a1 a2 a3 a4 a5 a6 a7 a8 a9 b1 b2=>#[i,j,q,vs,sl,ds,a1,a2,a3,a4,a5,#[rfl,a6],a7,a8,a9,b1,b2]]
   | times i j=>exact#[_,_,_,rfl,(.tail _ (.tail _ (.tail _ (.tail _ (.head _))))),rfl,λn w s q g S Q ex vs sl ds a1 a2 a3 a4 a5 a6 a7 a8 a9 b1 b2=>#[i,j,q,vs,sl,ds,a1,a2,a3,a4,a5,#[rfl,a6],a7,a8,a9,b1,b2]]
   | power i m=>exact#[_,_,_,rfl,(.tail _ (.tail _ (.tail _ (.tail _ (.tail _ (.head _)))))),rfl,λn w s q g S Q ex vs sl ds a1 a2 a3 a4 a5 a6 a7 a8 a9 b1 b2=>#[i,m,q,vs,sl,ds,a1,a2,a3,a4,a5,#[rfl,a6],a7,a8,a9,b1,b2]]
  refine#[ns,ws,bs,ha,hb,net,sb,hg,hl,λT1 w pr1 lw hw=>?_];have szw:=Ml net rfl sb hg
  have lf:(Zp bs g ns).length=ns.length:=YZ _ _ _
  have spn:Spn 1000 (Zp bs g ns):=szw.spn λk hk=>by
   have z:=(net.w1 (i:=(k:Int)) #[(),()]).2
   rwa [zK] at z
  refine X0 (n:=a) (o:=.lst (ns.map Nd.d)) (λk dl' S'=>A4 (k<=ns.length) (Pre T1 S') (∃ds:List D,La S' T1.length ds/\Yh S' (T1.length+1) ds (Z3 (Zp bs g ns) g bs.length (ns.take k))) (∃u:Option D,dl'=[sR a,sR b,sI g,sR w,sR T1.length,u])) #[zL _,Pre.refl.push,#[[],Zm _ _,Yh.nil],_,rfl] (λk dl' S' z=>by obtain⟨_,h,_⟩:=z;exact h _ _ (pr1 _ _ ha)) ?_ ?_
  .rintro k x dl' S' nx ct ex' ⟨hk,pr,⟨ds,hf,rows⟩,u,rfl⟩ hn;have ex2:(ns.map Nd.d)[k]?=some x:=ex';rw[zF] at ex2;obtain⟨v,hv,rfl⟩:=zH.mp ex2;have hk':=(zC.mp hv).1
   have ln:(Z3 (Zp bs g ns) g bs.length (ns.take k)).length=k:=by rw[Vu,zG];lia
   have okv:v.ok (Z3 (Zp bs g ns) g bs.length (ns.take k)).length bs.length:=by rw[ln];exact(net.ok k v hv).1
   have slw:=Ly net szw lf hg k hk
   have ss:=slw.spn λi hi=>by
    have z:=(net.w1 (i:=(i:Int)) #[(),()]).2
    rwa [zK] at z
   obtain⟨C,fs,sd,eo,hm,hf2,go⟩:=disp v;have N1:=Zm S' (v.oz)
   have ld:ds.length=k:=by rw[rows.1,ln]
   have lt:=ZT hf;refine O6 (n:=T1.length) (xs:=ds) kId hf (λK hK=>?_) ();refine Qx (n:=S'.length) (C:=C) (sd:=sd) (fs:=fs) (S1:=S'++[v.oz]) (λK hK=>#[v,rfl,by exact hK]) (by rw[<- eo];exact N1) hm hf2 ?_;refine YW (Zo (pr _ _ (pr1 _ _ hb))) ?_;rw[zB];refine go _ _ _ bs.length _ _ _ _ (Zp bs g ns) (Z3 (Zp bs g ns) g bs.length (ns.take k)) ds N1 (Zo (pr _ _ hw)) (Zo hf) ((rows.low (zL _)).pre (XY Pre.refl _)) ss hq9 okv () spn hg λT m prT lm hT=>?_
   have hf3:=prT _ _ (Zo hf);refine hK _ _ hf3 ?_;have lS:(S'++[v.oz]).length=S'.length+1:=by simp
   have rows3:Yh T (T1.length+1) ds (Z3 (Zp bs g ns) g bs.length (ns.take k)):=rows.pre λi o e=>prT _ _ (Zo e)
   refine hn _ _ #[(),YH (pr.trans λi o e=>prT _ _ (Zo e)) (zA _),#[ds++[.ref m],Yb hf3,?_],_,rfl];rw[YI hv,RA];have r4:=rows3.snoc (a:=m) (r:=YU (Zp bs g ns) (Z3 (Zp bs g ns) g bs.length (ns.take k)) g bs.length v) () hT;exact r4.keep λx o hx e=>ZY e ()
  .rintro dl' S' ⟨hk,pr,⟨ds,hf,rows⟩,u,rfl⟩;have e:ns.take (Zk (.lst (ns.map Nd.d))).length=ns:=by
    show ns.take (ns.map Nd.d).length=ns;rw[zB,yH]
   rw[e] at rows;refine h _ _ ds (pr1.trans pr) ?_ hf rows;exact Y1 pr1
def B8:Fx 6 (top 66) Jm:=
 mF 0 (λhr hn=>s!"ORC{Mn},C{NP}acd.b.") λS Q ex=>by
  refine kR λa=>kR λp=>kR λb=>kI λg=>kN ?_
  rintro⟨ns,ws,bs,is,ha,hb,net,sb,hg,l7,b9,hp,i9,hi,h⟩;refine#[ns,ws,bs,ha,hb,net,sb,b9,hg,l7,λT m ds pr lm hm rows=>?_];have ld:ds.length=ns.length:=by rw[rows.1,Vu]
  refine#[ds,is,hm,pr _ _ hp,i9,λi him=>by rw[ld];exact hi i him,?_];refine h _ _ (is.map λi=>ds.getD i .non) (λx o z=>Zo (pr _ _ z)) (Y1 pr) (Zm _ _) #[by rw[zB,zB],λk d r hd hr=>?_];rw[zF] at hd hr;obtain⟨i,hik,rfl⟩:=zH.mp hd;rw[hik] at hr;cases hr;have him:=hi i (zE hik)
  have h1:ds[i]?=some (ds.getD i .non):=by rw[zD (show i<ds.length by lia)];simp[show i<ds.length by lia]
  have ls:=Vu (Zp bs g ns) g bs.length ns
  have h2:(Z3 (Zp bs g ns) g bs.length ns)[i]?=some ((Z3 (Zp bs g ns) g bs.length ns).getD i []):=by rw[zD (show i<(Z3 (Zp bs g ns) g bs.length ns).length by lia)];simp[show i<(Z3 (Zp bs g ns) g bs.length ns).length by lia]
  obtain⟨q,eq,_,sq⟩:=rows.2 i _ _ h1 h2;exact#[q,eq,zL _,Zo sq]
def V3:Fx 1 (top 2) Li:=
 mF 0 (λhr hn=>s!"ORH=%b11{XO XT (dv 0)}a") λS Q ex=>by
  refine kI λi=>kI λk=>kN ?_
  rintro⟨n,rfl,h⟩;refine ifD (λe=>?_) (λe=>?_)
  .have z:sgn i n=-i:=by unfold sgn;rw[if_pos ()]
   rw[z] at h;exact h
  .have z:sgn i n=i:=by unfold sgn;rw[if_neg ()]
   rw[z] at h;exact h
def Vz:Fx 1 (top 3) N6:=
 mF 1 (λhr hn=>s!"DSd{Ze Rh (s!"Za56b") (s!"Za6+b15")}OR7{"entries"}{["column"]}{[2]}{ZA (top 3)}d{Ze Rh (s!"Za56b") (s!"Za6+b15")}") λS Q ex=>by
  refine kR λm=>kI λr=>kI λc=>kN ?_
  rintro⟨ds,i,j,n,rfl,rfl,hm,lm,rows,hn,hi,hj,h⟩;refine X7 (n:=m) (o:=.lst ds) (lo:=none) (hi:=some (i:Int)) kId kId kId hm ?_;refine X7 (n:=m) (o:=.lst ds) (lo:=some ((i+1:Nat):Int)) (hi:=none) kId kId kId (Wb hm) ?_;dsimp only[Zk];rw[Mu,Mc];refine Te (xs:=ds.take i) (ys:=ds.drop (i+1)) (Wb (Zm _ _)) (Zm _ _) (by simp;lia) ?_;have p0:Pre S (S++[.lst (ds.take i)]++[.lst (ds.drop (i+1))]++[.lst (ds.take i++ds.drop (i+1))]):=Pre.refl.push.push.push;refine Lg (n:=(S++[Ob.lst (ds.take i)]++[Ob.lst (ds.drop (i+1))]).length) (RI 1024 (n+1)) (RI 1024 n) kId (Zm _ _) (rows.cut.pre p0) (by simp;lia) (λa xs S2 K hx ha hK=>?_) (λS2 ys p2 e2 l2 r2=>?_)
  .have lr:xs.length<=n+1:=by obtain⟨r,rfl,l,_⟩:=hx;simp[l]
   show dOp (YM UG) (V4 (Xj 0) QU (RZ (Xj 1))) (V4 (Xj 0) (RZ (dOp wAdd (Xj 1) (dC (D.int 1)))) QU) [sR a,sI (j:Int)] S2 K;simp only[dOp];refine X7 (n:=a) (o:=.lst xs) (lo:=none) (hi:=some (j:Int)) kId kId kId ha ?_;refine X7 (n:=a) (o:=.lst xs) (lo:=some ((j+1:Nat):Int)) (hi:=none) kId kId kId (Wb ha) ?_;dsimp only[Zk];rw[Mu,Mc];refine Te (xs:=xs.take j) (ys:=xs.drop (j+1)) (Wb (Zm _ _)) (Zm _ _) (by simp;lia) ?_;exact hK _ _ _ Pre.refl.push.push.push (by simp) (Zm _ _) (Bw hj hx)
  .exact h S2 _ ys (p0.trans p2) e2 (by rw[l2];simp;lia) r2
def C6 (Wu:Dfz "determinant" V2 Vi)(Um:Fkz 0 "cofactor" VG QQ):Fkz 1 "determinant" Vi CN:=
 mkG Wu M0 (λhr=>(Zd (Zu (Zn (ZG hr) (ZK (ZS YG) rfl YE Boot.«len» (pv 0)) Zb (Zl _)) (Zf (Zi Zb)) Zy) (Zf (Zi (ZK (ZS (Ts rfl)) rfl RJ Boot.«sum» (Za (PC (x1:="column") (x2:="entry") (N:=["matrix"]) (caps:=[0]) (ar:=ZA V2) rfl rfl Wl rfl rfl rfl ⋯ rfl Wf Boot.«enumerate» (Za (piv 0) Zg) pt0 (λ_ _ _ _ _ _=>(Ze ZH (dv 1) (Zh Um hr (pdv 2 (Za Zb (pv 0))))))) Zg)))))) λS Q ex=>by
  refine kR λm=>kN ?_
  rintro⟨ds,n,hn,hm,lm,rows,h⟩;refine YW hm ?_;refine ifD (λe=>#[Pre.refl,.int _,h 1 (tX ())]) (λe=>?_);exact absurd (show ((ds.length:Nat):Int)=0 by lia) e
def Wu:Dfz "determinant" V2 Vi:=dF
def Vp:Dfz "cofactor" QN VG:=dF
def GP:=C6 Wu (Df.never (P:=e.P) (w:=e.w) (base:=e.base) 0 Vp)
def Ss (k:Nat)(hk:k<=3)(Vp:Dfz "cofactor" QN VG)(V3:Fkz 1 "signed" Fb Li)(QT:Fkz (2*k+1) "determinant" Vi (S8 k))(Vz:Fkz 1 "without" IS N6):Fkz (2*k+1+1) "cofactor" VG (So k):=
 mkG Vp AU (λhr=>(Zf (Zi (Zh V3 hr (Za (Zh QT hr (Za (Zh Vz hr (pdv 0 (pdv 1 (pv 2))) ()) Zg) (zA _)) (Za (Ze ZL (dv 1) (dv 2)) Zg)) ())))) λS Q ex=>by
  refine kR λm=>kI λr=>kI λc=>kN ?_
  rintro⟨ds,i,j,n,hn,rfl,rfl,hi,hj,hm,lm,rows,h⟩;refine#[ds,i,j,n,rfl,rfl,hm,lm,rows,(),hi,hj,λT k es pt e1 e2 e3=>?_];exact#[es,n,hn,e1,e2,e3,λx hx=>#[i+j,(),pt,.int _,h _ (Fl hx)]]
def HV:=Ss 0 ⋯ Vp V3 GP Vz
def Rn (j:Nat)(hj:j<=3)(Wu:Dfz "determinant" V2 Vi)(Um:Fkz (2*j+1+1) "cofactor" VG (So j)):Fkz (2*(j+1)+1) "determinant" Vi (S8 (j+1)):=
 mkG Wu M0 (λhr=>(Zd (Zu (Zn (ZG hr) (ZK (ZS YG) rfl YE Boot.«len» (pv 0)) Zb (Zl _)) (Zf (Zi Zb)) Zy) (Zf (Zi (ZK (ZS (Ts rfl)) rfl RJ Boot.«sum» (Za (PC (x1:="column") (x2:="entry") (N:=["matrix"]) (caps:=[0]) (ar:=ZA V2) rfl rfl Wl rfl rfl rfl ⋯ rfl Wf Boot.«enumerate» (Za (piv 0) Zg) pt0 (λ_ _ _ _ _ _=>(Ze ZH (dv 1) (Zh Um hr (pdv 2 (Za Zb (pv 0))) (zA _))))) Zg)))))) λS Q ex=>by
  refine kR λm=>kN ?_
  rintro⟨ds,n,hn,hm,lm,rows,h⟩;refine YW hm ?_;refine ifD (λe=>#[Pre.refl,.int _,h 1 (tX ())]) (λe=>?_);obtain⟨n,rfl⟩:∃k,n=k+1:=#[n-1,()];obtain⟨a,xs,hd,_,ha,r,rfl,lr,zr⟩:=rows _ (yY (show 0<ds.length by lia));have hd0:ds[0]?=some (.ref a):=by rw[<- hd];exact zD ()
  refine KD (n:=a) (xs:=r.map D.int) (S1:=S) (λd=>∃x,d=.int x/\Sz (1040*n+1031) x) (λK hK=>?_) ha (by simp;lia) (λk x hx S2 K p2 hK=>?_) λys ly hy=>?_
  .show dOp wIx (Xj 0) (dC (D.int 0)) [sR m] S λx S1=>K [x] S1
   exact FC hm hd0 hK
  .rw[zF] at hx;obtain⟨y,hy,rfl⟩:=zH.mp hx;have hk:=(zC.mp hy).1
   have sy:=zr y (zE hy)
   show So j [.ref m,.int 0,.int (k:Int)] S2 (λz S3=>wMul (.int y) z S3 K) (λ_ _=>False);exact#[ds,0,k,n,(),rfl,rfl,zL _,(),p2 _ _ hm,lm,rows.pre p2,λz sz=>#[ZE sy (sz.mono (show _<=6000 by lia)),hK _ #[_,rfl,(sy.mul sz).mono ()]]]
  .obtain⟨zs,rfl,bz⟩:=all_map hy;rw[zB,zB] at ly;refine Pw (Zm _ _) (Sw zs) #[Pre.refl.push,.int _,h _ ((K1 bz ()).mono ())]
def AX:=Rn 0 ⋯ Wu HV
def Jk:=Ss 1 ⋯ Vp V3 AX Vz
def Bt:=Rn 1 ⋯ Wu Jk
def Gu:=Ss 2 ⋯ Vp V3 Bt Vz
def CZ:=Rn 2 ⋯ Wu Gu
def Um:=Ss 3 ⋯ Vp V3 CZ Vz
def QT:=Rn 3 ⋯ Wu Um
def KS:Fx 9 (top 6) Il:=
 mF 0 (λhr hn=>s!"OR{Ze Ff (s!"**C{Um}adc.ee") (dv 1)}") λS Q ex=>by
  refine kR λm=>kI λw=>kI λr=>kI λc=>kI λg=>kN ?_
  rintro⟨ds,i,j,n,hn,rfl,rfl,hi,hj,hm,lm,rows,hw,hg,h⟩;refine#[ds,j,i,n,hn,rfl,rfl,hj,hi,hm,lm,rows,λx hx=>?_];have e2:Sz 3121 x:=hx.mono ()
  have eg:Sz 20 g:=Sz.of 1000000 ();refine#[ZE e2 eg,ZE (e2.mul eg) eg,#[hw.1,hw.2.log hw.1],h _ ?_];exact Aw ((e2.mul eg).mul eg) hw.1
def IE:Fx 10 (top 7) Dz:=
 mF 0 (λhr hn=>s!"OR{Qg (x:="column") (N:=["matrix","whole","row","grid"]) (caps:=[0,1,2,3]) (ar:=ZA (top 7)) rfl rfl csc rfl ⋯ rfl YY (Za (s!"$aa.") Zg) pt0 (λ_ _ _ _ _ _=>(s!"C{KS}bcdae."))}") λS Q ex=>by
  refine kR λm=>kI λw=>kI λr=>kI λg=>kN ?_
  rintro⟨ds,i,n,hn,rfl,hi,hm,lm,rows,hw,hg,h⟩;refine JW (j:=n+1) (S1:=S) (λd=>∃x,d=.int x/\Sz 3200 x) (λK hK=>?_) () (λk S2 K hk p2 hK=>?_) λxs lx hx=>?_
  .refine YW hm ?_;rw[lm];exact hK
  .exact#[ds,i,k,n,hn,rfl,rfl,hi,(),p2 _ _ hm,lm,rows.pre p2,hw,hg,λx hx=>hK _ #[x,rfl,hx]]
  .obtain⟨r,rfl,zr⟩:=all_map hx;exact h _ #[r,rfl,by rw[<- lx,zB],zr]
def Cj:Fx 11 (top 8) EB:=
 mF 1 (λhr hn=>s!"D{Vo (i:=2) hn rfl (Or.inr rfl) (s!"C{QT}a.")}DI=c1OR3OR{Qg (x:="row") (N:=["matrix","whole","grid"]) (caps:=[0,2,1]) (ar:=ZA (top 8)) rfl rfl csc rfl ⋯ rfl YY (Za (s!"$aa.") Zg) pt0 (λ_ _ _ _ _ _=>(s!"C{IE}bcad."))}") λS Q ex=>by
  refine kR λm=>kI λg=>kN ?_
  rintro⟨ds,n,⟨n1,n4⟩,hm,lm,rows,hg,h0,h1⟩;obtain⟨n,rfl⟩:∃k,n=k+1:=#[n-1,()];refine#[ds,n+1,(),hm,lm,rows,λx hx=>?_];refine ifD (c:=x=0) (λc=>h0) (λc=>?_);refine Cm (j:=n+1) (T0:=S) (RI 3200 (n+1)) (λK hK=>?_) () (λk S2 K hk p2 hK=>?_) (λS2 ys p2 e2 l2 r2=>h1 S2 _ ys p2 e2 l2 r2)
  .refine YW hm ?_;rw[lm];exact hK
  .exact#[ds,k,n,(),rfl,(),p2 _ _ hm,lm,rows.pre p2,#[c,hx.mono ()],hg,λxs hx=>hK _ _ _ Pre.refl.push (zA _) (Zm _ _) hx]
def LV:Fx 1 (top 27) HR:=
 mF 0 (λhr hn=>s!"OR/+!a!a1") λS Q ex=>by
  refine kP λ_ _=>kN λh=>?_
  exact h
def ME:Fx 2 (top 59) Io:=
 mF 0 (λhr hn=>s!"OR7{"span"}{[]}{[]}{ZA (top 59)}aC{LV}a.") λS Q ex=>by
  refine kR λs=>kN ?_
  rintro⟨vs,hs,l9,h⟩;refine XN (n:=s) (S1:=S) (o:=.lst (vs.map frD)) (λd=>match d with|.tup [.int a,.int b]=>.int ((a+b)/2)|_=>.non) kId hs (by show (vs.map frD).length<=1000;rw[zB];lia) (λx hx S2 K pr hK=>?_) ?_
  .have hx':x∈vs.map frD:=hx;obtain⟨p,_,rfl⟩:=zP.mp hx';exact hK
  .have e2:(Zk (.lst (vs.map frD))).map (λd=>match d with|.tup [.int a,.int b]=>.int ((a+b)/2)|_=>.non)=vs.map λp=>D.int (mid p):=by
    show (vs.map frD).map _=_;rw[yA];rfl
   rw[e2];exact h
def PL:Fx 3 (top 60) FV:=
 mF 0 (λhr hn=>s!"OR7{"place"}{[]}{[]}{ZA (top 60)}C{ME}a.(aa.") λS Q ex=>by
  refine kR λb=>kN ?_
  rintro⟨vs,hb,l9,h⟩;refine XN (n:=S.length) (S1:=S++[.lst (vs.map λp=>.int (mid p))]) (o:=.lst (vs.map λp=>.int (mid p))) (λd=>.tup [d,d]) (λK hK=>#[vs,hb,l9,hK]) (Zm _ _) (by show (vs.map _).length<=1000;rw[zB];lia) (λx hx S2 K pr hK=>by exact hK) ?_;refine h _ _ Pre.refl.push.push (by simp) ?_;have e:(Zk (.lst (vs.map λp=>D.int (mid p)))).map (λd=>D.tup [d,d])=(vs.map ZX).map frD:=by
   show (vs.map λp=>D.int (mid p)).map _=_;rw[yA];rw[yA];rfl
  rw[e];exact Zm _ _
def QG:Fx 3 (top 61) Cu:=
 mF 3 (λhr hn=>s!"DSd(,1,1.D{Bg (is:=[4,5]) PassesOwn.never rfl hn (Nms.cons (i:=4) rfl (Or.inl rfl) (by first|exact .inl rfl|exact .inr rfl) (Nms.cons (i:=5) rfl (Or.inl rfl) (by first|exact .inl rfl|exact .inr rfl) Nms.nil)) rfl rfl V8 Boot.«zip» (pdv 0 (pv 1)) (s!"OSdC{VC}d,C{UK}efc..")}ORd") λS Q ex=>by
  refine kR λa=>kR λb=>kI λg=>kN ?_
  rintro⟨us,vs,ha,hb,l6,z1,z2,hg,h⟩;have sg:Sz 21 g:=Sz.of 1000000 ();refine Ea (n:=a) (n':=b) (xs:=us.map frD) (ys:=vs.map frD) (S:=S) (λk dl'=>∃u1 u2:Option D,dl'=[sR a,sR b,sI g,some (frD (sumP g (us.take k) (vs.take k))),u1,u2]) kId ha hb #[_,_,rfl] ?_ ?_
  .rintro k x y dl' nx ct hx hy ⟨u1,u2,rfl⟩ hn;rw[zF] at hx hy;obtain⟨p,hp,rfl⟩:=zH.mp hx;obtain⟨r,hr,rfl⟩:=zH.mp hy;have zp:=z1 _ (zE hp)
   have zr:=z2 _ (zE hr);refine#[#[#[ZE zp.1 zr.1,ZE zp.1 zr.2,ZE zp.2 zr.1,ZE zp.2 zr.2],sg.fd ()],λmn mx hc=>?_];obtain⟨rfl,rfl⟩:=hc.eq;refine hn _ #[some (frD p),some (frD r),?_];rw[SY g us vs k hp hr];rfl
  .rintro dl' ⟨u1,u2,rfl⟩;rw[zB,zB,MR];exact h
def F4:Fx 4 (top 62) Ce:=
 mG 2 (λhr hn=>s!"DSfH=ab(ee.(,1,1.D{Pn (x:="slant") (N:=["column"]) (caps:=[1]) (ar:=ZA (top 62)) rfl rfl csc rfl ⋯ (i:=6) hn rfl rfl (dv 3) pt0 (λ_ _ _ _ _ _=>(s!"[ab"))}ORC{W6}f,C{QG}cge..") λS Q0 ex0=>by
  refine kI λk=>kI λc=>kR λt=>kR λs=>kI λg=>kN ?_
  rintro⟨q,kn,cn,ts,R,ds,rfl,rfl,ht,hs,rows,zr,hc,l6,r6,z1,hg,h⟩;have tail:∀aU:Int×Int,aU=(if kn=cn then (g,g) else (0,0))->∀K:DK,K (frD (Xf g kn cn ts R)) (S++[.lst ((R.map λr=>r.getD cn (0,0)).map frD)])->True:=λ_ _ _ _=>trivial
  have col:∀(k:Nat)(r:LI),R[k]?=some r->atI (r.map frD) ((cn:Nat):Int)=some (frD (r.getD cn (0,0))):=λk r hr=>by
   have hl:=(zr r (zE hr)).1
   have z:=ZU (vs:=r) (i:=((cn:Nat):Int)) #[(),by rw[hl];lia];rw[z];have e:gt r ((cn:Nat):Int)=r.getD cn (0,0):=by
    have ll:cn<r.length:=by rw[hl];exact hc
    unfold gt;rw[zK];simp[ll]
   rw[e]
  have bd:Bd 20000 (R.map λr=>r.getD cn (0,0)):=λp hp=>by
   obtain⟨r,hr,er⟩:=zP.mp hp;subst er;obtain⟨hl,b⟩:=zr r hr;have ll:cn<r.length:=by rw[hl];exact hc
   have e:r.getD cn (0,0)=r[cn]:=by simp[ll]
   rw[e];exact#[(b _ (yY ll)).1.mono ⋯,(b _ (yY ll)).2.mono ⋯]
  have Yj:∀aU:Int×Int,aU=(if kn=cn then (g,g) else (0,0))->Gc S Q0 (.tup [.int (aU.1-(sumP g ts (R.map λr=>r.getD cn (0,0))).2),.int (aU.2-(sumP g ts (R.map λr=>r.getD cn (0,0))).1)]) (S++[.lst ((R.map λr=>r.getD cn (0,0)).map frD)]):=λaU e=>by
   subst e;exact#[Pre.refl.push,Up,h]
  refine ifD (λe=>?_) (λe=>?_)
  .refine Lj (n:=s) (S1:=S) (o:=.lst ds) (λk d=>∃r,R[k]?=some r/\d=frD (r.getD cn (0,0))) kId hs (by show ds.length<=1000;rw[rows.1];lia) (λk x hx S2 K pr hK=>?_) (λxs lx hx=>?_)
   .have hx':ds[k]?=some x:=hx
    have hk:k<R.length:=by
     have:=(zC.mp hx').1;rw[rows.1] at this;exact this
    obtain⟨a,rfl,_,ha⟩:=rows.2 k x _ hx' (zD hk);refine ZC (o:=.lst _) (pr _ _ ha) (col k _ (zD hk)) ?_;exact hK _ #[_,zD hk,rfl]
   .have e2:xs=(R.map λr=>r.getD cn (0,0)).map frD:=by
     refine xV λk=>?_
     by_cases hk:k<xs.length
     .obtain⟨r,hr,e⟩:=hx k _ (zD hk);rw[zD hk,zF,zF,hr,e];rfl
     .have lx':xs.length=R.length:=by rw[lx];exact rows.1
      rw[yQ (),yQ (by simp;lia)]
    subst e2;refine#[ts,_,Zo ht,Zm _ _,l6,z1,bd,hg,?_];exact Yj (g,g) (by rw[if_pos ()])
  .refine Lj (n:=s) (S1:=S) (o:=.lst ds) (λk d=>∃r,R[k]?=some r/\d=frD (r.getD cn (0,0))) kId hs (by show ds.length<=1000;rw[rows.1];lia) (λk x hx S2 K pr hK=>?_) (λxs lx hx=>?_)
   .have hx':ds[k]?=some x:=hx
    have hk:k<R.length:=by
     have:=(zC.mp hx').1;rw[rows.1] at this;exact this
    obtain⟨a,rfl,_,ha⟩:=rows.2 k x _ hx' (zD hk);refine ZC (o:=.lst _) (pr _ _ ha) (col k _ (zD hk)) ?_;exact hK _ #[_,zD hk,rfl]
   .have e2:xs=(R.map λr=>r.getD cn (0,0)).map frD:=by
     refine xV λk=>?_
     by_cases hk:k<xs.length
     .obtain⟨r,hr,e⟩:=hx k _ (zD hk);rw[zD hk,zF,zF,hr,e];rfl
     .have lx':xs.length=R.length:=by rw[lx];exact rows.1
      rw[yQ (),yQ (by simp;lia)]
    subst e2;refine#[ts,_,Zo ht,Zm _ _,l6,z1,bd,hg,?_];exact Yj (0,0) (by rw[if_neg ()])
def GX:Fx 5 (top 63) L7:=
 mG 5 (λhr hn=>s!"D{Vo (i:=6) hn rfl (Or.inr rfl) (s!"7{"entry"}{[]}{[]}{ZA (top 63)}d(aa.")}DShC{PL}b.DSiC{W6},[ha,C{QG}gec..D{Qs (x:="column") (N:=["k","turns","slants","grid"]) (caps:=[0,6,5,2]) (ar:=ZA (top 63)) rfl rfl csc rfl ⋯ (i:=9) hn rfl rfl rfl YY (Za (s!"$ab.") Zg) pt0 (λ_ _ _ _ _ _=>(s!"C{F4}bacde."))}D{IL (x1:="span") (x2:="centre") (N:=[]) (caps:=[]) (ar:=ZA (top 63)) rfl rfl Wl rfl rfl rfl ⋯ (i:=10) hn rfl rfl rfl V8 Boot.«zip» (pdv 1 (pv 7)) (λ_ _ _ _ _ _=>(s!"C{W6}ab."))}ORC{VC}i,C{QG}jkc..") λS Q0 ex0=>by
  refine kI λki=>kR λb=>kI λg=>kR λe=>kR λt=>kR λs=>kN ?_
  rintro⟨k,box,aC,es,R,ds,rfl,hk,he,e4,ze,hb,ht,hs,rows,zr,bl,r4,t4,zb,zt,hg,h⟩;have bdE:Bd 20000 (es.map λx=>(x,x)):=λp hp=>by
   obtain⟨x,hx,rfl⟩:=zP.mp hp;exact#[(ze x hx).mono ⋯,(ze x hx).mono ⋯]
  have bdT:Bd 20000 aC:=λp hp=>#[(zt p hp).1.mono ⋯,(zt p hp).2.mono ⋯]
  have lE:(es.map λx=>(x,x)).length<=60:=by rw[zB];lia
  refine XN (n:=e) (S1:=S) (o:=.lst (es.map D.int)) (λd=>.tup [d,d]) kId he (by show (es.map D.int).length<=1000;rw[zB];lia) (λx hx S2 K pr hK=>by exact hK) ?_;have eE:(Zk (.lst (es.map D.int))).map (λd=>D.tup [d,d])=(es.map λx=>(x,x)).map frD:=by
   show (es.map D.int).map _=_;rw[yA];rw[yA];rfl
  rw[eE];have T0:=Zm S (.lst ((es.map λx=>(x,x)).map frD));refine#[box,Zo hb,(),λT m pr lm hm=>?_];have P0:Pre S T:=λx o z=>pr _ _ (Zo z)
  have hT:=pr _ _ T0
  have kc:inR (((box.map ZX).length:Nat):Int) (k:Int):=#[(),by rw[zB];lia]
  have ec:gt (box.map ZX) (k:Int)=ZX (gt box k):=by
   unfold gt;rw[zK];simp[hk]
  have ac:=ZU kc;rw[ec] at ac;refine ZC (o:=.lst ((box.map ZX).map frD)) hm ac ?_;refine#[_,aC,hT,P0 _ _ ht,lE,bdE,bdT,hg,?_];have lk:∀c:Nat,c<box.length->∀(S2:Sto)(K:DK),Pre T S2->K (frD (Xf g k c (es.map λx=>(x,x)) R)) S2->∃(q kn cn:Nat)(ts:LI)(R':List LI)(ds':List D),((k:Nat):Int)=(kn:Nat)/\((c:Nat):Int)=(cn:Nat)/\La S2 S.length (ts.map frD)/\La S2 s ds'/\Yh S2 0 ds' R'/\(∀r∈R',r.length=q/\Bd 2000 r)/\cn<q/\ts.length<=60/\R'.length<=60/\Bd 20000 ts/\(Gg g)/\K (frD (Xf g kn cn ts R')) S2:=λc hc S2 K p2 hK=>#[box.length,k,c,_,R,ds,rfl,rfl,p2 _ _ hT,p2 _ _ (P0 _ _ hs),rows.pre λx o z=>p2 _ _ (P0 _ _ z),zr,hc,lE,(),bdE,hg,hK]
  refine Th (j:=((box.length:Nat):Int)) (S1:=T) (λc=>frD (Xf g k c (es.map λx=>(x,x)) R)) (λK hK=>by
   refine YW (P0 _ _ hb) ?_;rw[zB];exact hK) #[(),()] (λc hc S2 K p2 hK=>lk c () S2 K p2 hK) ?_
  rw[zK];have eL:((List.range box.length).map λc=>frD (Xf g k c (es.map λx=>(x,x)) R))=((List.range box.length).map λc=>Xf g k c (es.map λx=>(x,x)) R).map frD:=by
   rw[yA];rfl
  rw[eL];have T1:=Zm T (.lst (((List.range box.length).map λc=>Xf g k c (es.map λx=>(x,x)) R).map frD));refine U3 (n:=b) (n':=m) (S1:=T++[.lst (((List.range box.length).map λc=>Xf g k c (es.map λx=>(x,x)) R).map frD)]) (xs:=box.map frD) (ys:=(box.map ZX).map frD) (λx y=>match x,y with|.tup [.int a,.int b],.tup [.int c,.int d]=>.tup [.int (a-d),.int (b-c)]|_,_=>.non) kId (Zo (P0 _ _ hb)) (Zo hm) (by rw[zB];lia) (λj x y hx hy S2 K p2 hK=>?_) ?_
  .rw[zF] at hx hy;obtain⟨p,hp,rfl⟩:=zH.mp hx;obtain⟨r,hr,rfl⟩:=zH.mp hy;exact hK
  have eW:List.zipWith (λx y=>match x,y with|.tup [.int a,.int b],.tup [.int c,.int d]=>.tup [.int (a-d),.int (b-c)]|_,_=>.non) (box.map frD) ((box.map ZX).map frD)=(box.map λp=>YQ p (ZX p)).map frD:=by
   rw[yA,tW,yA,List.zipWith_self];rfl
  rw[eW];have zm:Bd 62 (box.map λp=>YQ p (ZX p)):=λp hp=>by
   obtain⟨x,hx,rfl⟩:=zP.mp hp;have z:=zb x hx
   have zmid:=M5 z.1 z.2;exact(Nq (B:=60) (C:=61) z #[zmid,zmid]).imp (λz=>z.mono ⋯) (λz=>z.mono ⋯)
  have zl:Bd 20000 ((List.range box.length).map λc=>Xf g k c (es.map λx=>(x,x)) R):=λp hp=>by
   obtain⟨c,hc,rfl⟩:=zP.mp hp;have hc':=wD.mp hc
   have bR:Bd 2000 (R.map λr=>r.getD c (0,0)):=λp hp=>by
    obtain⟨r,hr,er⟩:=zP.mp hp;subst er;obtain⟨hl,b⟩:=zr r hr;have ll:c<r.length:=by rw[hl];exact hc'
    have e:r.getD c (0,0)=r[c]:=by simp[ll]
    rw[e];exact b _ (yY ll)
   have bE:Bd 4000 (es.map λx=>(x,x)):=λp hp=>by
    obtain⟨x,hx,rfl⟩:=zP.mp hp;exact#[ze x hx,ze x hx]
   have z:=KO hg.1 bE bR lE
   have sg:Sz 21 g:=Sz.of 1000000 ();unfold Xf;have w:Sz 21 (if k=c then (g,g) else (0,0)).1/\Sz 21 (if k=c then (g,g) else (0,0)).2:=by
    split
    .exact#[sg,sg]
    .exact#[yP ⋯,yP ⋯]
   exact(Nq w z).imp (λz=>z.mono ⋯) (λz=>z.mono ⋯)
  refine#[_,_,Zo T1,Zm _ _,by rw[zB,vQ];lia,zl,λp hp=>#[(zm p hp).1.mono ⋯,(zm p hp).2.mono ⋯],hg,?_];exact#[λx o z=>Zo (Zo (P0 _ _ z)),Up,h]
def zab:Fx 6 (top 64) KP:=
 mF 0 (λhr hn=>s!"OR{PC (x1:="k") (x2:="entries") (N:=["box","grid","thin","slants"]) (caps:=[0,1,3,4]) (ar:=ZA (top 64)) rfl rfl Wl rfl rfl rfl ⋯ rfl Wf Boot.«enumerate» (pv 2) pt0 (λ_ _ _ _ _ _=>(s!"C{GX}acdbef."))}") λS Q ex=>by
  refine kR λb=>kI λg=>kR λu=>kR λt=>kR λs=>kN ?_
  rintro⟨box,aC,M,ms,R,ds,hu,mi,lM,zM,hb,ht,hs,rows,zr,bl,r4,t4,zb,zt,hg,h⟩;refine BE (n:=u) (S1:=S) (xs:=ms) (λk d=>frD (YN g box aC R k (M.getD k []))) kId hu (by rw[mi.1];lia) (λk x hx S2 K pr hK=>?_) ?_
  .have hk:k<M.length:=by
    have:=(zC.mp hx).1;rw[mi.1] at this;exact this
   obtain⟨a,rfl,ha⟩:=mi.2 k x _ hx (zD hk);have eM:M.getD k []=M[k]:=by simp[hk]
   rw[eM] at hK;have z:=zM _ (yY hk);exact#[k,box,aC,M[k],R,ds,rfl,(),pr _ _ ha,z.1,z.2,pr _ _ hb,pr _ _ ht,pr _ _ hs,rows.pre pr,zr,bl,r4,t4,zb,zt,hg,hK]
  .have e:(ms.mapIdx λk d=>frD (YN g box aC R k (M.getD k [])))=(M.mapIdx λk es=>YN g box aC R k es).map frD:=by
    refine xV λk=>?_
    rw[uP,zF,uP];by_cases hk:k<M.length
    .rw[zD (show k<ms.length by rw[mi.1];exact hk),zD hk];simp[hk]
    .rw[yQ (by rw[mi.1];lia),yQ (show M.length<=k by lia)];rfl
   rw[e];exact h
def Dq:Fx 5 (top 65) Ao:=
 mF 0 (λhr hn=>s!"ORC{Mn},C{WI}a,C{PL}c.d.b.") λS Q ex=>by
  refine kR λa=>kR λp=>kR λb=>kI λg=>kN ?_
  rintro⟨ns,ws,bs,is,ha,hb,net,sb,hg,l7,b9,hp,i9,hi,h⟩;refine#[bs,hb,b9,λT m pr lm hm=>?_];refine#[ns,ws,bs.map ZX,pr _ _ ha,hm,by rw[zB];exact net,SI sb,hg,l7,λT1 m1 pr1 lm1 h1=>?_];refine#[_,is,h1,pr1 _ _ (pr _ _ hp),i9,λi him=>by rw[zB,YZ];exact hi i him,?_];have e:(is.map λi=>((Zp (bs.map ZX) g ns).map frD).getD i .non)=(is.map λ(i:Nat)=>gt (Zp (bs.map ZX) g ns) i).map frD:=by
   rw[yA];refine wZ λi him=>?_
   have hl:i<(Zp (bs.map ZX) g ns).length:=by rw[YZ];exact hi i him
   show _=frD (gt (Zp (bs.map ZX) g ns) (i:Int));unfold gt;rw[zK];simp[hl]
  rw[e];refine h _ _ (λx o z=>Zo (pr1 _ _ (pr _ _ z))) ?_ (Zm _ _);have:=Y1 pr
  have:=Y1 pr1;lia
def Ab:Fx 1 (top 25) Cn:=
 mF 0 (λhr hn=>s!"OR{O3 (s!"U<!b!a") (R8 (s!"U<!a!b"))}") λS Q ex=>by
  refine kP λ_ _=>kP λ_ _=>kN λh=>?_
  refine ifD (λe=>?_) (λe=>?_)
  .rw[decide_eq_true e,uH] at h;exact h
  .rw[decide_eq_false e,vB] at h;exact h
def Al:Fx 2 (top 68) Hk:=
 mG 0 (λhr hn=>s!"OR$g,{RQ (x1:="new") (x2:="old") (N:=[]) (caps:=[]) (ar:=ZA (top 68)) rfl rfl Wl rfl rfl rfl ⋯ rfl V8 Boot.«zip» (pdv 0 (pv 1)) (λ_ _ _ _ _ _=>(s!"C{Ab}ab."))}.") λS Q0 ex0=>by
  refine kR λm=>kR λn=>kN ?_
  rintro⟨us,vs,h1,h2,hl,h⟩;refine U3 (n:=m) (n':=n) (S1:=S) (xs:=us.map frD) (ys:=vs.map frD) dpW kId h1 h2 (by rw[zB];exact hl) (λk x y hx hy S2 K pr hK=>?_) ?_
  .obtain⟨p,_,rfl⟩:=zP.mp (zE hx);obtain⟨q,_,rfl⟩:=zP.mp (zE hy);exact hK
  .refine UO (n:=S.length) (o:=.lst _) (bs:=List.zipWith VB us vs) (Zm _ _) (K8 us vs) ?_;exact#[Pre.refl.push,.bl _,h]
def DB:Fx 2 (top 67) Hc:=
 mG 0 (λhr hn=>s!"OR$g,{Xz (x:="row") (N:=["spans"]) (caps:=[1]) (ar:=ZA (top 67)) rfl rfl csc rfl ⋯ (dv 0) (λ_ _ _ _ _ _=>TF (Zn (ZG hr) (piv 0) ZJ (Zl _))) (λ_ _ _ _ _ _=>(s!"C{N8},!a,[b!a."))}.") λS Q0 ex0=>by
  refine kR λr=>kR λs=>kN ?_
  rintro⟨rows,vs,hr,hs,l9,hi,h⟩;refine QE (n:=r) (S1:=S) (o:=.lst (rows.map rwD)) (λd=>match d with|.tup [.str w,.int at']=>if w="least" then some (.bl (decide (0<=(gt vs at').1))) else none|_=>none) kId hr (by show (rows.map rwD).length<=1000;rw[zB];lia) (λx hx S2 K pr hK=>?_) (λx hx y hy S2 K pr hK=>?_) ?_
  .have hx':x∈rows.map rwD:=hx;obtain⟨⟨b,n⟩,_,rfl⟩:=zP.mp hx';cases b
   .exact hK
   .exact hK
  .have hx':x∈rows.map rwD:=hx;obtain⟨⟨b,n⟩,hm,rfl⟩:=zP.mp hx';cases b
   .cases hy;refine ZC (o:=.lst (vs.map frD)) (pr _ _ hs) (ZU (vs:=vs) (i:=(n:Int)) #[(),by have:=hi _ hm;dsimp only at this;lia]) ?_;exact .inr #[rfl,hK]
   .exact absurd hy (by
     simp[rwD];intro z;exact absurd z ⋯)
  .refine UO (n:=S.length) (o:=.lst _) (Zm _ _) (RY vs rows) ?_;exact#[Pre.refl.push,.bl _,h _]
def zal:Fx 12 (top 69) IM:=
 mF 4 (λhr hn=>s!"DSeC{Dc}b.DIPX{Zn (do_ne hr) (s!"$ae.") (s!"$ac.") (Zl _)}YMTC{DB}b,C{WI}acd..OR3DSfC{B8}aecd.DSgC{Cj},7{"slant"}{[]}{[]}{ZA (top 69)}fC{ME}a.d.DIVg3OR3DShC{zab}cdg,C{Dq}aecd.f.DIMTC{Al}hc.OR3OR(gh.") λS Q ex=>by
  refine kR λa=>kR λr=>kR λb=>kI λg=>kN ?_
  rintro⟨ns,ws,bs,rows,ha,hb,net,sb,hg,l7,b9,hr,r9,hi,bl,hN,hY⟩;have hi':∀i∈eqs rows,i<ns.length:=λi him=>hi _ (R0 him)
  refine#[rows,hr,r9,?_];have P0:Pre S (S++[Ob.lst ((eqs rows).map wtD)]):=Pre.refl.push
  have hp:=Zm S (.lst ((eqs rows).map wtD));refine YW hp ?_;refine YW (P0 _ _ hb) ?_;rw[zB,zB];refine ifN (λc=>Y0 (hN _ P0)) (λc=>?_);have lq:(eqs rows).length=bs.length:=by lia
  refine#[ns,ws,bs,P0 _ _ ha,P0 _ _ hb,net,sb,hg,l7,λT1 m1 p1 lm1 h1=>?_];have P1:Pre S T1:=λx o z=>p1 _ _ (P0 _ _ z)
  refine#[rows,Zp bs g ns,P1 _ _ hr,h1,r9,λr hr=>by rw[YZ];exact hi r hr,λb=>?_];cases b
  .exact Y0 (hN _ P1)
  refine Y5 ?_;refine#[ns,ws,bs,eqs rows,P1 _ _ ha,P1 _ _ hb,net,sb,hg,l7,b9,p1 _ _ hp,(),hi',λT2 m2 ds p2 lm2 h2 rowsP=>?_];have P2:Pre S T2:=λx o z=>p2 _ _ (P1 _ _ z)
  have hp2:=p2 _ _ (p1 _ _ hp)
  have ld:ds.length=(eqs rows).length:=by rw[rowsP.1,zB]
  have rowsT:=Br rowsP (Oz net sb hg hi');refine Lg (n:=m2) (T0:=T2) (RF 1023 bs.length) (RI 1024 bs.length) kId h2 rowsT () (λa xs S2 K hx ha hK=>?_) (λS2 ys y1 y2 y3 y4=>?_)
  .obtain⟨r,rfl,lr,br⟩:=hx;refine#[r,ha,(),hK _ _ _ Pre.refl.push (zA _) (Zm _ _) #[r.map mid,by rw[yA];rfl,by rw[zB];exact lr,λx hx=>?_]];obtain⟨p,hp,rfl⟩:=zP.mp hx;exact M5 (br p hp).1 (br p hp).2
  have P3:Pre S S2:=λx o z=>y1 _ _ (P2 _ _ z)
  refine#[ys,bs.length,bl,y2,(),y4,hg,hN _ P3,λT4 k4 es p4 e4 l4 r4=>?_];have P4:Pre S T4:=λx o z=>p4 _ _ (P3 _ _ z)
  refine#[ns,ws,bs,eqs rows,P4 _ _ ha,P4 _ _ hb,net,sb,hg,l7,b9,p4 _ _ (y1 _ _ hp2),(),hi',λT5 m5 p5 lm5 h5=>?_];have P5:Pre S T5:=λx o z=>p5 _ _ (P4 _ _ z)
  obtain⟨M,rM,zM⟩:=Mh (r4.pre p5);have lM:M.length=bs.length:=by rw[<- rM.1];exact l4
  refine#[bs,UC g bs ns rows,M,es,U6 g bs ns rows,ds,p5 _ _ e4,rM,lM,λr hr=>#[by have:=(zM r hr).1;lia,λx hx=>((zM r hr).2 x hx).mono ⋯],P5 _ _ hb,h5,p5 _ _ (p4 _ _ (y1 _ _ h2)),rowsP.pre λx o z=>p5 _ _ (p4 _ _ (y1 _ _ z)),Gx net sb hg hi',bl,by unfold U6;rw[zB];lia,by unfold UC;rw[zB];lia,λp hp=>#[(sb p hp).2.1.mono ⋯,(sb p hp).2.2.mono ⋯],Ey net sb hg hi',hg,?_];refine#[Tp g bs ns rows M,bs,Zm _ _,Zo (P5 _ _ hb),by unfold Tp;rw[tT];lia,?_];cases eD:Rq (Tp g bs ns rows M) bs
  .exact Y0 (hN _ (XY P5 _))
  .refine Y5 (hY _ _ _ M (XY P5 _) #[lq,lM,λes he=>(zM es he).1,λk es hk=>?_]);have hl:=(zC.mp hk).1
   have eb:=zD (show k<bs.length by lia);rw[Xx eb];exact FI.mp eD k _ _ (by unfold Tp;rw[uP,hk];rfl) eb
def Eu:Fx 13 (top 88) CQ:=
 mF 2 (λhr hn=>s!"DSfC{zal}abcd.DIVf3OR3DSgC{WI}a,C{PL}c.d.OR(,2,!f,!feg,C{NP}acd..") λS Q ex=>by
  refine kR λnd=>kR λrw=>kR λbx=>kI λg=>kR λsp=>kN ?_
  rintro⟨u,ns,ws,rows,e,R,hb,lu,se,hn,hy⟩;have net':ZF ((e.length:Nat):Int) ns ws:=by rw[lu];exact R.net
  have u4:=R.u1
  have r4:=R.rl;refine#[ns,ws,e,rows,R.nd,hb,net',se,R.hg,R.l70,(),R.rw,(),R.ri,(),hn,λT _ _ M p ha=>?_]
  .refine#[e,p _ _ hb,(),λT2 m2 p2 l2 h2'=>?_];have P2:Pre S T2:=λx o z=>p2 _ _ (p _ _ z)
   refine#[ns,ws,e.map ZX,P2 _ _ R.nd,h2',by rw[zB];exact net',SI se,R.hg,R.l70,λT3 m3 p3 l3 h3'=>?_];have P3:Pre S T3:=λx o z=>p3 _ _ (P2 _ _ z)
   refine#[ns,ws,e,P3 _ _ R.nd,P3 _ _ hb,net',se,(),R.hg,R.l70,λT4 m4 ds p4 l4 h4' _=>?_];exact hy #[_,ha] _ _ _ _ _ _ λx o z=>p4 _ _ (P3 _ _ z)
def BR:Fx 14 (top 89) BL:=
 mF 2 (λhr hn=>s!"DSfC{WI}acd.DSgC{Hv}abcdf.DIVg3OSgC{Eu}abcdf.DIPKVg3QLC{PK}c.eOR(,2.ORg") λS Q ex=>by
  refine kR λnd=>kR λrw=>kR λbx=>kI λg=>kI λfine=>kN ?_
  rintro⟨u,ns,ws,rows,e,R,hb,lu,se,hf,hn⟩;have net':ZF ((e.length:Nat):Int) ns ws:=by rw[lu];exact R.net
  have u4:=R.u1;refine#[ns,ws,e,R.nd,hb,net',se,R.hg,R.l70,λT m p l hm=>?_];have R1:=R.pre p;refine#[u,ns,ws,rows,e,R1,p _ _ hb,lu,se,hm,λT2 k m2 row p2 l2 hr ib h2=>?_,λnb su T2 p2=>?_,λnb su T2 p2=>?_]
  .have:=Y1 p;exact hf T2 (.out k _) _ (λx o z=>p2 _ _ (p _ _ z)) #[row,hr,rfl,ib] λa b ha hb'=>#[m2,rfl,(),(),h2]
  .exact hf T2 (.full _) _ (λx o z=>p2 _ _ (p _ _ z)) #[rfl,nb,su] λa b ha hb'=>#[m,rfl,(),(),p2 _ _ hm]
  .have P2:Pre S T2:=λx o z=>p2 _ _ (p _ _ z)
   refine#[u,ns,ws,rows,e,R.pre P2,P2 _ _ hb,lu,se,λT3 p3=>?_,λha T3 d1 d2 d3 d4 d5 p3=>?_]
   .have P3:Pre S T3:=λx o z=>p3 _ _ (P2 _ _ z)
    refine#[e,P3 _ _ hb,(),λw T4 p4 hw=>?_];have P4:Pre S T4:=λx o z=>p4 _ _ (P3 _ _ z)
    refine ifD (λc=>?_) (λc=>?_)
    .exact hf T4 .small _ P4 #[λq hq=>zU (hw.1 q hq) c,nb,su] λ_ _ _ _=>rfl
    .rcases hw.2 with ⟨z,_⟩|⟨q,hq,z⟩
     .rw[z] at lu;exact absurd lu (by show ¬ (0=u);lia)
     .exact hn T4 P4 #[q,hq,()]
   .exact hf T3 .one _ (λx o z=>p3 _ _ (P2 _ _ z)) ha λ_ _ _ _=>#[_,_,_,_,_,rfl]
def JU:Fx 3 (top 90) B7:=
 mF 0 (λhr hn=>s!"ORUL*1$h,C{RB}a..*1$h,C{RB}b..") λS Q ex=>by
  refine kR λx=>kR λy=>kN ?_
  rintro⟨bs,cs,h1,h2,s1,s2,l1,l2,h⟩;obtain⟨a1,a2,_⟩:=SA s1;obtain⟨b1,b2,_⟩:=SA s2;have z4:Sz 60 (4:Int):=Sz.of (10^3) ()
  have z3:Sz 60 (3:Int):=Sz.of (10^3) ()
  have z1:Sz 60 (Wm bs):=by unfold Sz;lia
  have z2:Sz 60 (Wm cs):=by unfold Sz;lia
  refine#[bs,h1,(),?_];refine Pw (n:=S.length) (Zm _ _) (Sw (bs.map wd)) ?_;refine#[ZE z4 z1,?_];refine#[cs,Zo h2,(),?_];refine Pw (Zm _ _) (Sw (cs.map wd)) ?_;refine#[ZE z3 z2,?_];exact h _ λi o z=>Zo (Zo z)
def K0:Fx 4 (top 91) J8:=
 mF 2 (λhr hn=>s!"DSc[F{Zt.cl}{Zt.n_boxes}abDSd{LX (k:=1) hr ⋯ (s!"C{RB}c.") (Za (s!"C{PK}c.") Zg)}OE0{Zt}{VU}abd,C{LV},[cd..") λS Q ex=>by
  refine kR λn=>kI λi=>kN ?_
  rintro⟨a,b,j,es,fs,e,B,rfl,he,l4,ne,l9,h⟩;obtain⟨bs,m,h1,h2,o⟩:=B.box he;refine ZM (n:=n) kId B.ins rfl ?_;refine ZC (o:=.lst bs) h1 (Ye (j:=j) h2) ?_;refine BD (n:=S.length) (S1:=S++[.lst ((e.map wd).map D.int)]) (zs:=e.map wd) (λv S2=>Pre S S2/\La S2 S.length ((e.map wd).map D.int)/\Wst e v) (λK hK=>#[e,o.2.2,(),hK]) (λK hK=>#[e,Zo o.2.2,(),λw T p hw=>hK _ _ #[λx o z=>p _ _ (Zo z),p _ _ (Zm _ _),hw]]) (Zm _ _) (λv S2 r=>#[r.2.1,?_]) λv S2 k r hk=>?_
  .rcases r.2.2.2 with ⟨z,_⟩|⟨p,hp,rfl⟩
   .exact absurd z ne
   .exact zP.mpr #[p,hp,rfl]
  obtain⟨p,_,hw⟩:=r;rw[zF] at hk;obtain⟨s,hs,rfl⟩:=zH.mp hk;have lk:=(zC.mp hs).1
  have B2:=B.pre p
  have hs2:atI (e.map frD) (k:Int)=some (frD s):=Ye (j:=k) (by rw[zF,hs];rfl);refine Xh (n:=n) kId B2.ins rfl ?_;refine ZC (o:=.lst (e.map frD)) (p _ _ o.2.2) hs2 ?_;exact#[a,b,j,k,es,fs,e,s,B2,rfl,rfl,he,hs,l4,l9,λT B3 cg=>h T k s hs hw B3 ((Cg.pre p).trans cg)]
def BZ:Fx 15 (top 92) Bs:=
 mF 3 (λhr hn=>s!"DSg[F{Zt.cl}{Zt.n_boxes}afDSfC{EU}abcdf.DIW[F{Zt.cl}{Zt.n_fates}af3O{Ky}DSh[F{Zt.cl}{Zt.n_boxes}afDSiC{BR}bchde.OJWi3OE0{Zt}{XD}afi.OIMTC{JU}hg.OEC{K0}af.") λS Q ex=>by
  refine kR λn=>kR λnd=>kR λrw=>kI λg=>kI λfine=>kI λi=>kN ?_
  rintro⟨a,b,j,u,ns,ws,rows,b0,e,es,fs,B,R,A,K,sb,lb,rfl,hw,he,f1,l9,h⟩;have u4:=R.u1;obtain⟨bs,m,h1,h2,o⟩:=B.box he;refine ZM (n:=n) kId B.ins rfl ?_;refine ZC (o:=.lst bs) h1 (Ye (j:=j) h2) ?_;refine#[a,b,j,u,ns,ws,rows,b0,e,es,fs,fine,B,R,A,K,sb,lb,rfl,hw,he,(),λT es' fs' j' B' K' cg l' sh lj=>?_];obtain⟨ll,oks⟩:=K.ok sb;obtain⟨ll',oks'⟩:=K'.ok sb;obtain⟨le,se⟩:=oks e (zE he);have he':=zD lj;generalize es'[j']=e' at he';obtain⟨le',se'⟩:=oks' e' (zE he');have hf':=zD (show j'<fs'.length by lia);generalize fs'[j']=f' at hf';obtain⟨ds,k1,k2,k3⟩:=B'.ft;obtain⟨d,d1,d2⟩:=k3 j' f' hf';refine ZM (n:=n) kId B'.ins rfl ?_;refine ZC (o:=.lst ds) k1 (Ye (j:=j') d1) ?_;have done:f'≠.wait->Q .non T:=λnw=>by
   refine h T es' fs' B' K' cg () ?_;by_cases c:es'.length=es.length
   .obtain⟨_,rfl⟩:=sh.2 c;exact .inr #[c,λz=>nw (by rw[hf'] at z;exact Option.some.inj z)]
   .exact .inl (by have:=sh.1;lia)
  have R':=R.cg A cg
  have la:a<T.length:=by
   obtain⟨_,z,_⟩:=B'.bx;exact ZT z
  have lb':b<T.length:=ZT k1;cases f' with
  | wait=>
   cases d2;obtain⟨bs',m',h1',h2',o'⟩:=B'.box he';refine ZM (n:=n) kId B'.ins rfl ?_;refine ZC (o:=.lst bs') h1' (Ye (j:=j') h2') ?_;refine#[u,ns,ws,rows,e',R',o'.2.2,(),se',λT2 f d p2 fok fat=>?_,λT2 p2 big=>?_]
   .have B2:=B'.pre p2
    have fa:=fat a b la lb'
    have fw:f≠.wait:=λz=>by subst z;exact fok.elim
    obtain⟨xs,rfl⟩:∃xs,d=.tup xs:=by
     cases f with
     | wait=>exact fok.elim
     | cut _ _ _ _=>exact fok.elim
     | small=>exact#[_,fa]
     | one=>obtain⟨_,_,_,_,_,z⟩:=fa;exact#[_,z]
     | out _ _=>obtain⟨_,z,_⟩:=fa;exact#[_,z]
     | full _=>obtain⟨_,z,_⟩:=fa;exact#[_,z]
    refine Xh (n:=n) kId B2.ins rfl ?_;refine#[a,b,j',es',fs',f,B2,rfl,(),fa,λT3 B3 cg3=>h T3 es' _ B3 (K'.put hf' he' fok) (cg.trans ((Cg.pre p2).trans cg3)) () ?_];by_cases c:es'.length=es.length
    .obtain⟨_,rfl⟩:=sh.2 c;refine .inr #[c,λz=>?_];rw[yK ()] at z;exact fw (Option.some.inj z)
    .exact .inl (by have:=sh.1;lia)
   .have B2:=B'.pre p2;obtain⟨p,hp,wp⟩:=big;refine#[e',e,p2 _ _ o'.2.2,p2 _ _ (o.cg cg).2.2,se',se,(),(),λT3 p3=>?_];have B3:=B2.pre p3;refine ifN (λc=>?_) (λc=>?_)
    .refine#[a,b,j',es',fs',e',B3,rfl,he',(),λz=>?_,(),λT4 k s hs ws' B4 cg4=>?_]
     .rw[z] at hp;cases hp
     .have w1:=ws'.1 p hp;unfold wd at w1 wp;refine h T4 _ _ B4 (K'.cut hf' he' hs () ()) (cg.trans ((Cg.pre p2).trans ((Cg.pre p3).trans cg4))) (by simp;lia) (.inl (by have:=sh.1;simp;lia))
    .refine h T3 es' fs' B3 K' (cg.trans ((Cg.pre p2).trans (.pre p3))) () (.inl ?_);have s1:=sh.1;by_cases z:es'.length=es.length
     .obtain⟨rfl,rfl⟩:=sh.2 z;rw[he] at he';cases he';have:=(SA se).2.2 p hp;lia
     .lia
  | small=>cases d2;exact done (by intro z;cases z)
  | one=>obtain⟨_,_,_,_,_,rfl⟩:=d2;exact done (by intro z;cases z)
  | cut _ _ _ _=>cases d2;exact done (by intro z;cases z)
  | out _ _=>obtain⟨_,rfl,_⟩:=d2;exact done (by intro z;cases z)
  | full _=>obtain⟨_,rfl,_⟩:=d2;exact done (by intro z;cases z)
def Gd:Fx 16 (top 93) Iy:=
 mF 3 (λhr hn=>s!"DSg{Vq ⟨Zt.makes,SM.m.at_,SM.m.fn,Zt.kp⟩ SM.ok (rmn hr) rfl Zt.m SM.b Vk (pv 2)}D:hf.DSi{O7 (C:=Zt.C) (dv 6) Zt.cl QZ.m QZ.ok (rmn hr) QZ.b YL}DIVi3O{C5}OEC{BZ}gabdei.OR{O7 (C:=Zt.C) (dv 6) Zt.cl Ql.m Ql.ok (rmn hr) Ql.b YL}") λS Q ex=>by
  refine kR λnd=>kR λrw=>kR λbx=>kI λg=>kI λfine=>kI λlooks=>kN ?_
  rintro⟨u,t,ns,ws,rows,b0,R,hb,lu,sb,f1,⟨k0,k8⟩,ht,h⟩;have u4:=R.u1;refine#[S,b0,rfl,rfl,hb,λU a b la lb pU B0=>#[rfl,?_]];have A:Apt nd rw a b:=#[#[by have:=ZT R.nd;lia,by have:=ZT R.nd;lia],by have:=ZT R.rw;lia,by have:=ZT R.rw;lia]
  have RU:=R.pre pU
  have tt:=ZT ht
  have lU:S.length<U.length:=ZT B0.ins
  have back:∀ {S' T:Sto},Cg a b U S'->Pre S' T->Pre S T:=λ{S' T} cg p x o z=>p _ _ (cg.2 _ _ (by have:=ZT z;lia) (by have:=ZT z;lia) (pU _ _ z))
  refine#[#[(),()],λk dl' S'=>(k:Int)<=looks/\E2 λ(es:List LI)(fs:List Ft)=>A7 (Bk Zt.C S' S.length a b es fs) (Bks g fine ns rows b0 es fs) (Cg a b U S') (es.length<=1+66*k) (k=0->es=[b0]/\fs=[.wait]) (0<k->es.length=1->fs[0]?≠some .wait) (E2 λ(x7 x8:Option D)=>dl'=[sR nd,sR rw,sR bx,sI g,sI fine,sI looks,sR S.length,x7,x8]),#[(),[b0],[.wait],B0,.new,.refl,by simp,λ_=>#[rfl,rfl],λz=>absurd z (),_,_,rfl],?_];rintro k dl' S' ⟨hk,es,fs,B,K,cg,l9,c0,c1,x7,x8,rfl⟩;split
  .rename_i c;refine Xh (n:=S.length) kId B.ins rfl ?_;refine#[a,b,t,es,fs,B,cg.2 _ _ () () (pU _ _ ht),(),λe he=>by rw[((K.ok sb).2 e he).1];lia,λnw T p=>?_,λi T hw p=>?_]
   .refine Xh (n:=S.length) kId (B.pre p).ins rfl ?_;refine#[a,b,es,fs,B.pre p,(),λT2 ds p2 h2 en=>h T2 T.length ds es fs (back (cg.trans (.pre p)) p2) ?_ h2 en K () (λz=>absurd z ()) λ_ e1 z=>nw _ (zE z) rfl];have:=Y1 p
    have:=cg.1;lia
   .have ll:=(K.ok sb).1
    have li:=(zC.mp hw).1
    have he:=zD (show i<es.length by lia);refine#[a,b,i,u,ns,ws,rows,b0,_,es,fs,B.pre p,(RU.cg A cg).pre p,A,K,sb,lu,rfl,hw,he,f1,(),λT2 es' fs' B2 K2 cg2 l2 c2=>?_];refine#[(),es',fs',B2,K2,cg.trans ((Cg.pre p).trans cg2),(),λz=>absurd z (),λ_ e1=>?_,_,_,rfl];rcases c2 with c2|⟨c2,c3⟩
    .lia
    .rw[show i=0 by lia] at c3;exact c3
  .rename_i c;refine Xh (n:=S.length) kId B.ins rfl ?_;refine#[a,b,es,fs,B,(),λT2 ds p2 h2 en=>h T2 S'.length ds es fs (back cg p2) (by have:=cg.1;lia) h2 en K () (λz=>c0 ()) λz=>c1 ()]
def XB:Fx 1 (top 115) zaq:=
 mF 0 (λhr hn=>s!"DI<b$aa.OR~[ab^11OR1") λS Q ex=>by
  refine kR λn=>kI λk=>kN ?_
  rintro⟨ns,hn,k0,h⟩;refine U0 hn ?_;rw[zB];refine ifD (λc=>?_) (λc=>?_)
  .refine ZC (o:=.frz (ns.map D.int)) hn (OX k0 c) ?_;exact#[show (0:Int)<10^Int.toNat 60 by decide,h _ (Yn ⋯)]
  .exact h 0 ⋯
def EJ:Fx 2 (top 110) DZ:=
 mF 6 (λhr hn=>s!"DSd).D&efa.DSg+1%[ce1DSh+*!fg*-!f!f~/[ce1+g1DSiC{UM}h,*bg.OEAd(,|hi,|*bgi.ORd") λS Q ex=>by
  refine kR λb=>kI λg=>kR λc=>kN ?_
  rintro⟨q,bs,xs,hb,hc,lb,q4,sb,lx,hg,h⟩;have sg:Sz 21 g:=Sz.of 1000000 ()
  have P0:Pre S (S++[Ob.lst []]):=Pre.refl.push;refine VL (n:=b) (S1:=S++[Ob.lst []]) (xs:=bs.map frD) (λk dl' S'=>Pre S S'/\E6 λ(pt:LP2)(u4 u5 u6 u7 u8:Option D)=>A4 (La S' S.length (pt.map frD)) (Pk k pt) (Inb bs pt g) (dl'=[sR b,sI g,sR c,sR S.length,u4,u5,u6,u7,u8])) kId (λk dl' S' z=>z.1 _ _ hb) #[P0,[],none,none,none,none,none,Zm _ _,.nil,.nil,rfl] ?_ ?_
  .rintro k x dl' S' nx ct hx ⟨pr,pt,u4,u5,u6,u7,u8,hf,pk,ib,rfl⟩ hn;rw[zF] at hx;obtain⟨s,hs,rfl⟩:=zH.mp hx;have hk:=(zC.mp hs).1
   have ss:=sb s (zE hs)
   have hc':=pr _ _ hc
   have hx:xs[k]?=some xs[k]:=zD ();generalize xs[k]=v at hx;have ex:atI (xs.map D.int) (k:Int)=some (.int v):=Ye (j:=k) (by rw[zF,hx];rfl);refine ZC (o:=.lst (xs.map D.int)) hc' ex ?_;have r9:0<=v%9/\v%9<9:=#[(),()];refine#[ZE ss.2.1 (Sz.of (n:=21) 1000000 ()),?_];refine ZC (o:=.lst (xs.map D.int)) hc' ex ?_;have jr:=Yn (a:=v/9) (b:=1+v%9+1) ();refine#[show (0:Int)<1+v%9+1 by lia,ZE (ss.2.2.sub ss.2.1) (Sz.of (n:=21) 1000000 ()),?_];refine#[ZE sg (Sz.of (n:=21) 1000000 ()),?_];obtain⟨t1,t2⟩:=LW (w:=1+v%9) ss.1 jr.1 ();have z9:Sz 10 (1+v%9):=Sz.of 1000 ()
   have zt:Sz 61 (s.1*(1+v%9)+(s.2-s.1)*(v/9%(1+v%9+1))):=Sz.mid (ss.2.1.mul z9) (ss.2.2.mul z9) t1 t2;obtain⟨⟨d1,zd⟩,d2,d3,d4,d5,d6⟩:=OT hg (w:=1+v%9) () zt;refine Ys (n:=S.length) (S1:=S') (xs:=pt.map frD) (y:=frD (_,_)) kId hf (λK hK=>#[zd.fd (),ZE sg z9,zd.fd (),hK]) (by rw[zB,pk.ln];lia) ?_;refine hn _ _ #[YH pr (zA _),pt++[(_,_)],_,_,_,_,_,?_,pk.snoc #[d4,d5,d6],ib.snoc (by rw[pk.ln];exact hs) (QV t1 t2 hg.1 d1 d2 d3),rfl];rw[zZ];exact Yb hf
  .rintro dl' S' ⟨pr,pt,u4,u5,u6,u7,u8,hf,pk,ib,rfl⟩;rw[zB] at pk;exact h _ _ pt pr (zA _) hf (lb ▸ pk) ib
def zag:Fx 1 (top 109) Di:=
 mF 0 (λhr hn=>s!"OR)a,/a1,/a1,/a1.") λS Q ex=>by
  refine kI λc=>kN λh=>?_
  exact h [c,c/97,c/523,c/9409] rfl
def GH:Fx 3 (top 122) Ex:=
 mF 8 (λhr hn=>s!"DSd).D?e,1,$c,$aa.,1..DSfC{XB}ae.OJ=%C{XB}a,1.11DSg).D;hbDSi+1~f^11DSj+*!hi*-!h!h~|f^11+i1DSkC{UM}j,*ci.DEAg(,|jk,|*cik.OSf|f^11OEAdgOEAdC{EJ}bc,C{zag},C{Xe}ae...ORd") λS Q ex=>by
  refine kR λn=>kR λb=>kI λg=>kN ?_
  rintro⟨ns,bs,q,hn,hb,lb,hq,sb,hg,ln,h⟩;have sg:Sz 21 g:=Sz.of 1000000 ()
  have lb0:=ZT hb
  have ln0:=ZT hn
  have lm:0<=(if (44:Int)<(ns.length:Int) then 44 else (ns.length:Int))/\(if (44:Int)<(ns.length:Int) then 44 else (ns.length:Int))<=44:=by split<;>lia
  refine U0 (xs:=ns.map D.int) (Zo hn) ?_;rw[zB];refine#[#[(),(),(),()],λj dl' S'=>j<=24/\∃(ps:List D)(u4 u5 u6 u7 u8 u9 u10:Option D),Pre S S'/\La S' S.length ps/\ps.length<=j/\Ptz q bs g S' S.length ps/\dl'=[sR n,sR b,sI g,sR S.length,u4,u5,u6,u7,u8,u9,u10],#[(),[],none,none,none,none,none,none,none,Pre.refl.push,Zm _ _,zA _,λd hd=>by simp at hd,rfl],?_];rintro j dl' S' ⟨hj,ps,u4,u5,u6,u7,u8,u9,u10,pr,hp,lp,pz,rfl⟩;refine Vj (λkc=>?_) (λkc=>h _ _ ps pr (zA _) hp () pz);have kc':j<((if (44:Int)<(ns.length:Int) then 44 else (ns.length:Int))-20).toNat:=kc
  have lps:=ZT hp
  have key:∀(S2:Sto)(m:Nat)(pt:LP2)(v4 v5 v6 v7 v8 v9 v10:Option D),Pre S' S2->S'.length<=m->La S2 m (pt.map frD)->Pk q pt->Inb bs pt g->j+1<=24/\∃(ps':List D)(u4 u5 u6 u7 u8 u9 u10:Option D),Pre S (S2.set S.length (.lst (ps++[.ref m])))/\(S2.set S.length (.lst (ps++[.ref m])))[S.length]?=some (.lst ps')/\ps'.length<=j+1/\Ptz q bs g (S2.set S.length (.lst (ps++[.ref m]))) S.length ps'/\[sR n,sR b,sI g,sR S.length,v4,v5,v6,v7,v8,v9,v10]=[sR n,sR b,sI g,sR S.length,u4,u5,u6,u7,u8,u9,u10]:=λS2 m pt v4 v5 v6 v7 v8 v9 v10 p2 lm hm pk ib=>
   #[(),ps++[.ref m],_,_,_,_,_,_,_,YH (pr.trans p2) (zA _),Yb (p2 _ _ hp),by simp;lia,λd hd=>by
    rcases zX.mp hd with z|z
    .obtain⟨m',pt',rfl,a1,a2,a3,a4⟩:=pz d z;exact#[m',pt',rfl,a1,ZY (p2 _ _ a2) (Ne.symm a1),a3,a4]
    .cases zO.mp z;exact#[m,pt,rfl,(),ZY hm (),pk,ib],rfl]
  refine#[ns,pr _ _ hn,(),λx hx=>?_];refine#[ns,pr _ _ hn,⋯,λx0 hx0=>?_];refine ifD (λc1=>?_) (λc1=>?_)
  .refine X0 (n:=b) (o:=.lst (bs.map frD)) (λi dl2 S2=>Pre S' S2/\∃(pt:LP2)(c:Int)(v7 v8 v9 v10:Option D),La S2 S'.length (pt.map frD)/\Pk i pt/\Inb bs pt g/\0<=c/\dl2=[sR n,sR b,sI g,sR S.length,sI (20+(j:Int)),sI c,sR S'.length,v7,v8,v9,v10]) #[Pre.refl.push,[],x,_,_,_,_,Zm _ _,.nil,.nil,hx.1,rfl] (λi dl2 S2 z=>z.1 _ _ (pr _ _ hb)) ?_ ?_
   .rintro i y dl2 S2 nx ct hy ⟨p2,pt,c,v7,v8,v9,v10,hf,pk,ib,c0,rfl⟩ hn2;have hy':(bs.map frD)[i]?=some y:=hy;rw[zF] at hy';obtain⟨s,hs,rfl⟩:=zH.mp hy';have hi:=(zC.mp hs).1
    have ss:=sb s (zE hs)
    have e7:(10:Int)^Int.toNat 7=10000000:=rfl
    have r7:=Yn (a:=c) (b:=10^Int.toNat 7) ⋯;refine#[show (0:Int)<10^Int.toNat 7 by decide,?_];have w1:1<=(1+c%10^Int.toNat 7)/\(1+c%10^Int.toNat 7)<=10000000:=#[(),()]
    have zw:Sz 25 (1+c%10^Int.toNat 7):=Sz.of 10000000 ()
    have jr:=Yn (a:=c/10^Int.toNat 7) (b:=(1+c%10^Int.toNat 7)+1) ()
    have m1:IntMulOk s.1 (1+c%10^Int.toNat 7):=ZE ss.2.1 zw
    have f7:CFd c (10^Int.toNat 7):=(Sz.of (n:=25) (i:=10^Int.toNat 7) 10000000 ⋯).fd ⋯
    have m2:IntMulOk (s.2-s.1) (c/10^Int.toNat 7%((1+c%10^Int.toNat 7)+1)):=ZE (ss.2.2.sub ss.2.1) (Sz.of (n:=25) 10000001 ());refine#[m1,f7,show (0:Int)<(1+c%10^Int.toNat 7)+1 by lia,m2,?_];obtain⟨t1,t2⟩:=LW (w:=(1+c%10^Int.toNat 7)) ss.1 jr.1 ();have zt:Sz 80 (s.1*(1+c%10^Int.toNat 7)+(s.2-s.1)*(c/10^Int.toNat 7%((1+c%10^Int.toNat 7)+1))):=(Sz.mid (ss.2.1.mul zw) (ss.2.2.mul zw) t1 t2).mono ⋯;obtain⟨⟨d1,zd⟩,d2,d3,d4,d5,d6⟩:=F6 hg w1 zt;have mg:IntMulOk g (1+c%10^Int.toNat 7):=ZE sg zw
    have lp2:=Y1 p2;refine#[mg,?_];refine Ys (n:=S'.length) (S1:=S2) (xs:=pt.map frD) (y:=frD (_,_)) kId hf (λK hK=>#[zd.fd (),mg,zd.fd (),hK]) (by rw[zB,pk.ln];lia) ?_;have f15:CFd c (10^Int.toNat 15):=(Sz.of (n:=80) (i:=10^Int.toNat 15) (10^20) ⋯).fd ⋯;refine#[f15,?_];refine hn2 _ _ #[YH p2 (zA _),pt++[(_,_)],_,_,_,_,_,?_,pk.snoc #[d4,d5,d6],ib.snoc (by rw[pk.ln];exact hs) (QV t1 t2 hg.1 d1 d2 d3),vP c0 ⋯,rfl];rw[zZ];exact Yb hf
   .rintro dl2 S2 ⟨p2,pt,c,v7,v8,v9,v10,hf,pk,ib,c0,rfl⟩;have pk':Pk q pt:=by
     have z:Pk (bs.map frD).length pt:=pk
     rwa [zB,lb] at z
    refine Ys (n:=S.length) (S1:=S2) (xs:=ps) (y:=.ref S'.length) kId (p2 _ _ hp) kId () ?_;exact key S2 S'.length pt _ _ _ _ _ _ _ p2 (zA _) hf pk' ib
  .refine O6 (n:=S.length) (xs:=ps) kId hp (λK hK=>?_) ();refine#[ns,pr _ _ hn,#[(),()],λc hc=>?_];intro xs lx;refine#[q,bs,xs,Zo (pr _ _ hb),Zm _ _,lb,hq.2,sb,lx,hg,λS2 m pt p2' lm hm pk ib=>?_];have p2:Pre S' S2:=λx o z=>p2' _ _ (Zo z)
   have lm':S'.length<=m:=by simp at lm;lia
   exact hK _ _ (p2 _ _ hp) (key S2 m pt _ _ _ _ _ _ _ p2 lm' hm pk ib)
def Ez:Fx 2 (top 116) BY:=
 mF 4 (λhr hn=>s!"DSd%a1DSa/a1DI=d1DSe-~a-*1^111-^111DSf+1~|a-*1^111-^111DSgC{UM}ef.OR(,2,|eg,|fg.DIPX=d1Y=b1OR(,2,~ac.DI=d1OR(,2,~ab,+1%|ab1.OR(,[(,2,2,2.-d1,~ab,~|abb.") λS Q ex=>by
  refine kI λc=>kI λm=>kI λu=>kN ?_
  rintro⟨⟨c0,⟨m0,m60⟩,u1,u4⟩,h⟩;have zm:Sz 100 m:=Sz.of (10^20) ()
  have ru:=Yn (a:=c/6) (b:=u) ();refine ifD (λe0=>?_) (λe0=>?_)
  .have k9:(10:Int)^Int.toNat 9=1000000000:=rfl
   have r1:=Yn (a:=c/6/(2*10^Int.toNat 9-1)) (b:=10^Int.toNat 9-1) ⋯
   have r2:=Yn (a:=c/6) (b:=2*10^Int.toNat 9-1) ⋯
   have mo:IntMulOk 2 (10^Int.toNat 9):=ZE (m:=80) (n:=80) (Sz.of (10^20) ⋯) (Sz.of (10^20) ⋯);refine#[mo,show (0:Int)<2*10^Int.toNat 9-1 by decide,?_];refine#[mo,(Sz.of (n:=80) (i:=2*10^Int.toNat 9-1) (10^20) ⋯).fd ⋯,show (0:Int)<10^Int.toNat 9-1 by decide,?_];have aZ:∀T B:Int,T.natAbs<=999999999->1<=B->B<=999999999->CFd T ((Int.gcd T B:Nat):Int)/\CFd B ((Int.gcd T B:Nat):Int)/\Q (.tup [.str "number",.int (T/((Int.gcd T B:Nat):Int)),.int (B/((Int.gcd T B:Nat):Int))]) S:=λT B hT h1 hB=>by
    obtain⟨a1,a2,a3,a4,a5,a6⟩:=NB (T:=T) (B:=B) ();have sz:Sz 80 ((Int.gcd T B:Nat):Int):=Sz.of (10^20) ();exact#[sz.fd a1,sz.fd a1,h (.number _ _) #[#[a3,()],a4,()]]
   exact aZ (c/6%(2*10^Int.toNat 9-1)-(10^Int.toNat 9-1)) (1+c/6/(2*10^Int.toNat 9-1)%(10^Int.toNat 9-1)) () () ()
  .have unk:Q (.tup [.str "unknown",.int (c/6%u)]) S:=h (.unknown _) ru;refine ifD (λe1=>#[show (0:Int)<u by lia,unk]) (λe1=>?_);refine ifD (λe2=>#[show (0:Int)<u by lia,unk]) (λe2=>?_);have r1:=Yn (a:=c/6) (b:=m) ()
   have r2:=Yn (a:=c/6/m) (b:=m) ()
   have fm:CFd (c/6) m:=zm.fd ();refine ifD (λe3=>#[(),fm,h (.power (c/6%m) (2+c/6/m%5)) #[r1,(),()]]) (λe3=>?_);have two:∀w:Str,w="plus"\/w="minus"\/w="times"->Q (.tup [.str w,.int (c/6%m),.int (c/6/m%m)]) S:=λw hw=>by
    rcases hw with rfl|rfl|rfl
    .exact h (.plus _ _) #[r1,r2]
    .exact h (.minus _ _) #[r1,r2]
    .exact h (.times _ _) #[r1,r2]
   have e4:c%6=3\/c%6=4\/c%6=5:=by lia
   rcases e4 with e|e|e
   .exact XM 0 () rfl #[(),fm,(),two _ (.inl rfl)]
   .exact XM 1 () rfl #[(),fm,(),two _ (.inr (.inl rfl))]
   .exact XM 2 () rfl #[(),fm,(),two _ (.inr (.inr rfl))]
def Bx:Fx 3 (top 117) BI:=
 mF 5 (λhr hn=>s!"DSe).DSf).D?gb,$c,$aa.c..DShC{Ez},C{XB}ag.,$ae.d.DSiC{R6}hf.OIPKLi1Q{Zn (Qj hr) (dv 7) (dv 4) rfl}DEAehOEAfiORe") λS Q ex=>by
  refine kR λn=>kI λf=>kI λy=>kI λu=>kN ?_
  rintro⟨xs,qn,hn,rfl,rfl,rfl,hq,lx,h⟩;have lm:0<=(if (20:Int)<(xs.length:Int) then 20 else (xs.length:Int))/\(if (20:Int)<(xs.length:Int) then 20 else (xs.length:Int))<=20:=by split<;>lia
  refine U0 (xs:=xs.map D.int) (Zo (Zo hn)) ?_;rw[zB];have l1:(S++[Ob.lst []]).length=S.length+1:=by simp
  refine#[#[(),(),(),()],λk dl' S'=>k<=12/\E2 λ(ns:List Nd)(ws:List Nat)=>A6 (ZF qn ns ws) (ns.length<=k) (Pre S S') (La S' S.length (ns.map Nd.d)) (S'[S.length+1]?=some (.lst (ws.map wtD))) (E3 λ(u6 u7 u8:Option D)=>dl'=[sR n,sI 8,sI 20,sI (qn:Int),sR S.length,sR (S.length+1),u6,u7,u8]),#[(),[],[],ZF.nil _,zA _,Pre.refl.push.push,Zo (Zm _ _),by rw[<- l1];exact Zm _ _,none,none,none,by rw[<- l1];rfl],?_];rintro k dl' S' ⟨hk,ns,ws,net,n4,pr',hS',hW',u6,u7,u8,rfl⟩;refine Vj (λkc=>?_) (λkc=>h ns ws _ _ net () pr' (zA _) hS');have kc':k<((if (20:Int)<(xs.length:Int) then 20 else (xs.length:Int))-8).toNat:=kc;refine#[xs,pr' _ _ hn,(),λx hx=>?_];refine YW hS' ?_;rw[zB];refine#[#[hx.1,#[(),()],(),()],λv ok=>?_];have okw:v.ok ws.length (qn:Nat):=by rw[net.len];exact ok
  refine#[v,ws,_,rfl,hW',okw,λi hi=>(net.w1 (by rw[<- net.len];exact hi)).2,?_];refine ifD (λe1=>?_) (λe1=>#[(),ns,ws,net,(),pr',hS',hW',_,_,_,rfl]);refine Oh hS' λb=>?_
  cases b with
  | false=>exact#[(),ns,ws,net,(),pr',hS',hW',_,_,_,rfl]
  | true=>
   refine Ys (n:=S.length) (S1:=S') (xs:=ns.map Nd.d) (y:=v.d) kId hS' kId (by rw[zB];lia) ?_;have nmm:S.length≠S.length+1:=by lia
   refine Ys (n:=S.length+1) (S1:=S'.set S.length (.lst (ns.map Nd.d++[v.d]))) (xs:=ws.map wtD) (y:=wtD (v.wt ws)) kId (ZY hW' nmm) kId (by rw[zB,net.len];lia) ?_;refine#[(),ns++[v],ws++[v.wt ws],net.snoc ok (),by simp;lia,YH (YH pr' (zA _)) (),?_,?_,_,_,_,rfl]
   .rw[zZ];exact ZY (Yb hS') (Ne.symm nmm)
   .rw[zZ];exact Yb (ZY hW' nmm)
def Bv:Fx 2 (top 119) AL:=
 mF 3 (λhr hn=>s!"DSe).D?fb,+bc.OI>$ad.1DSgC{XB}af.OEAe(,[(,2,2.%g1,~/g1$ad..ORe") λS Q ex=>by
  refine kR λn=>kI λf=>kI λy=>kR λa=>kN ?_
  rintro⟨xs,vs,k,hn,ha,rfl,rfl,k4,l60,h⟩;refine#[#[(),(),(),()],λj dl' S'=>j<=k/\∃rows:List (Bool×Nat),A5 (Pre S S') (La S' S.length (rows.map rwD)) (rows.length<=j) (∀r∈rows,r.2<vs.length) (E2 λ(u5 u6:Option D)=>dl'=[sR n,sI 20,sI (k:Int),sR a,sR S.length,u5,u6]),#[zL _,[],Pre.refl.push,Zm _ _,zA _,λr hr=>by simp at hr,none,none,rfl],?_];rintro j dl' S' ⟨hj,rows,pr,hS',lr,ri,u5,u6,rfl⟩;refine Vj (λkc=>?_) (λkc=>?_)
  .have ck:j<k:=by
    have z:j<((20:Int)+(k:Int)-20).toNat:=kc;lia
   refine YW (pr _ _ ha) ?_;rw[zB];refine ifD (λc1=>?_) (λc1=>#[(),rows,pr,hS',(),ri,_,_,rfl]);refine#[xs,pr _ _ hn,(),λx hx=>?_];have rr:=Yn (a:=x/2) (b:=((vs.length:Nat):Int)) ();obtain⟨i,ei⟩:∃i:Nat,x/2%((vs.length:Nat):Int)=(i:Int):=#[(x/2%((vs.length:Nat):Int)).toNat,()];refine Ys (n:=S.length) (S1:=S') (xs:=rows.map rwD) (y:=rwD (decide (x%2=0),i)) kId hS' (λK hK=>?_) (by rw[zB];lia) ?_
   .have two:x%2=0\/x%2=1:=by lia
    have l0:(0:Int)<((vs.length:Nat):Int):=by lia
    rcases two with e|e
    .refine XM 0 e rfl ?_;refine YW (pr _ _ ha) ?_;rw[zB];refine#[l0,?_];have e':rwD (true,i)=.tup [.str "zero",.int (x/2%((vs.length:Nat):Int))]:=by rw[ei];rfl
     rw[decide_eq_true e,e'] at hK;exact hK
    .refine XM 1 e rfl ?_;refine YW (pr _ _ ha) ?_;rw[zB];refine#[l0,?_];have e':rwD (false,i)=.tup [.str "least",.int (x/2%((vs.length:Nat):Int))]:=by rw[ei];rfl
     rw[decide_eq_false (),e'] at hK;exact hK
   .refine#[(),rows++[(decide (x%2=0),i)],YH pr (zA _),?_,by simp;lia,λr hr=>?_,_,_,rfl]
    .rw[zZ];exact Yb hS'
    .rcases zX.mp hr with hr|hr
     .exact ri r hr
     .cases zO.mp hr;show i<vs.length;lia
  .exact h S' rows pr hS' () ri
def K6:Fx 2 (top 118) Jc:=
 mF 5 (λhr hn=>s!"DSd).D?eb,+bc.DSf-^111DSg-~C{XB}ae.+*1f1fDSh-~|C{XB}ae.+*1f1+*1f1fOEAd(,$cgh.,$fgh..ORd") λS Q ex=>by
  refine kR λn=>kI λf=>kI λu=>kN ?_
  rintro⟨ns,q,hn,rfl,hq,rfl,h⟩;have lt:=ZT hn;refine#[#[(),(),(),()],λk dl' S'=>k<=q/\∃bs:LI,A4 (bs.length=k) (Spn 51 bs) (S'=S++[.lst (bs.map frD)]) (E4 λ(u4 u5 u6 u7:Option D)=>dl'=[sR n,sI 4,sI (q:Int),sR S.length,u4,u5,u6,u7]),#[zL _,[],rfl,λp hp=>by simp at hp,rfl,none,none,none,none,rfl],?_];rintro k dl' S' ⟨hk,bs,lb,sb,rfl,u4,u5,u6,u7,rfl⟩;refine Vj (λkc=>?_) (λkc=>?_)
  .have ck:k<q:=by
    have z:k<((4:Int)+(q:Int)-4).toNat:=kc;lia
   have hn':(S++[Ob.lst (bs.map frD)])[n]?=some (.frz (ns.map D.int)):=Zo hn
   have t15:(10:Int)^Int.toNat 15=10^15:=rfl
   have mo:IntMulOk 2 (10^Int.toNat 15-1):=ZE (m:=80) (n:=80) (Sz.of (10^20) ⋯) (Sz.of (10^20) ⋯)
   have z2:(0:Int)<2*(10^Int.toNat 15-1)+1:=by decide
   have f2:∀x:Int,CFd x (2*(10^Int.toNat 15-1)+1):=λx=>(Sz.of (n:=80) (i:=2*(10^Int.toNat 15-1)+1) (10^20) ⋯).fd ⋯
   refine#[ns,hn',(),λx hx=>#[mo,z2,?_]];refine#[ns,hn',(),λy hy=>#[mo,f2 y,mo,z2,?_]];have r1:=Yn (a:=x) z2
   have r2:=Yn (a:=y/(2*(10^Int.toNat 15-1)+1)) z2
   have aZ:∀a b:Int,a.natAbs<=10^15->b.natAbs<=10^15->(if b<a then b else a)<=(if a<b then b else a)/\Sz 51 (if b<a then b else a)/\Sz 51 (if a<b then b else a):=λa b ha hb=>#[by split<;>split<;>lia,Sz.of (10^15) (by split<;>lia),Sz.of (10^15) (by split<;>lia)]
   have q2:=aZ (x%(2*(10^Int.toNat 15-1)+1)-(10^Int.toNat 15-1)) (y/(2*(10^Int.toNat 15-1)+1)%(2*(10^Int.toNat 15-1)+1)-(10^Int.toNat 15-1)) () ();refine Ys (n:=S.length) (S1:=S++[Ob.lst (bs.map frD)]) (xs:=bs.map frD) (y:=frD (if (y/(2*(10^Int.toNat 15-1)+1)%(2*(10^Int.toNat 15-1)+1)-(10^Int.toNat 15-1))<(x%(2*(10^Int.toNat 15-1)+1)-(10^Int.toNat 15-1)) then (y/(2*(10^Int.toNat 15-1)+1)%(2*(10^Int.toNat 15-1)+1)-(10^Int.toNat 15-1)) else (x%(2*(10^Int.toNat 15-1)+1)-(10^Int.toNat 15-1)),if (x%(2*(10^Int.toNat 15-1)+1)-(10^Int.toNat 15-1))<(y/(2*(10^Int.toNat 15-1)+1)%(2*(10^Int.toNat 15-1)+1)-(10^Int.toNat 15-1)) then (y/(2*(10^Int.toNat 15-1)+1)%(2*(10^Int.toNat 15-1)+1)-(10^Int.toNat 15-1)) else (x%(2*(10^Int.toNat 15-1)+1)-(10^Int.toNat 15-1)))) kId (Zm _ _) (λK hK=>hK) (by rw[zB];lia) ?_;refine#[(),bs++[(if (y/(2*(10^Int.toNat 15-1)+1)%(2*(10^Int.toNat 15-1)+1)-(10^Int.toNat 15-1))<(x%(2*(10^Int.toNat 15-1)+1)-(10^Int.toNat 15-1)) then (y/(2*(10^Int.toNat 15-1)+1)%(2*(10^Int.toNat 15-1)+1)-(10^Int.toNat 15-1)) else (x%(2*(10^Int.toNat 15-1)+1)-(10^Int.toNat 15-1)),if (x%(2*(10^Int.toNat 15-1)+1)-(10^Int.toNat 15-1))<(y/(2*(10^Int.toNat 15-1)+1)%(2*(10^Int.toNat 15-1)+1)-(10^Int.toNat 15-1)) then (y/(2*(10^Int.toNat 15-1)+1)%(2*(10^Int.toNat 15-1)+1)-(10^Int.toNat 15-1)) else (x%(2*(10^Int.toNat 15-1)+1)-(10^Int.toNat 15-1)))],by simp[lb],λp hp=>?_,?_,_,_,_,_,rfl]
   .rcases zX.mp hp with hp|hp
    .exact sb p hp
    .cases zO.mp hp;exact q2
   .rw[zZ];rw[vJ _ _ (zA _),xT];rfl
  .have e:k=q:=by
    have z:¬ k<((4:Int)+(q:Int)-4).toNat:=kc;lia
   exact h bs () sb
def D9:Fx 4 (top 120) HN:=
 mF 6 (λhr hn=>s!"DSb+1%/C{XB}a,1.11DSc%C{XB}a,1.1DI>b1OSc%c1DSdC{Bx}a,1,1b.DSeC{Bv}a,1,%/C{XB}a,1.11d.DSfC{K6}a,1b.DSg+1~C{XB}a,1.^11OR(defg,+1~C{XB}a,1.-^111c.") λS Q ex=>by
  refine kR λn=>kN ?_
  rintro⟨ns,hn,ln,h⟩;refine ZW (λdl S'=>S=S'/\∃q:Nat,(1<=q/\q<=4)/\dl=[sR n,sI (q:Int),none,none,none,none,none]) (λnx hx=>?_) ?_
  .refine#[ns,hn,⋯,λx hx'=>?_];obtain⟨q,eq⟩:∃q:Nat,1+x/2%4=(q:Int):=#[(1+x/2%4).toNat,()];exact hx _ _ #[rfl,q,#[(),()],by rw[<- eq];rfl]
  rintro dl S0 ⟨rfl,q,hq,rfl⟩;refine ZW (λdl S'=>S=S'/\∃l:Int,(0<=l/\l<=8)/\dl=[sR n,sI (q:Int),sI l,none,none,none,none]) (λnx hx=>?_) ?_
  .exact#[ns,hn,⋯,λx hx'=>hx _ _ #[rfl,_,#[(),()],rfl]]
  rintro dl S0 ⟨rfl,l,hl,rfl⟩;refine ZW (λdl S'=>S=S'/\∃l:Int,(0<=l/\l<=8)/\dl=[sR n,sI (q:Int),sI l,none,none,none,none]) (λnx hx=>?_) ?_
  .exact ifD (λ_=>hx _ _ #[rfl,_,#[(),()],rfl]) (λ_=>hx _ _ #[rfl,_,hl,rfl])
  clear hl;rintro dl S0 ⟨rfl,l,hl,rfl⟩;refine ZW (λdl S'=>Pre S S'/\E3 λ(vs:List Nd)(ws:List Nat)(m:Nat)=>A4 (ZF q vs ws) (vs.length<=24) (La S' m (vs.map Nd.d)) (dl=[sR n,sI (q:Int),sI l,sR m,none,none,none])) (λnx hx=>?_) ?_
  .exact#[ns,q,hn,rfl,rfl,rfl,hq,ln,λvs ws T m net lv p lm hm=>hx _ _ #[p,vs,ws,m,net,lv,hm,rfl]]
  rintro dl T ⟨P,vs,ws,m,net,lv,hm,rfl⟩;refine ZW (λdl S'=>Pre T S'/\E2 λ(rows:List (Bool×Nat))(mr:Nat)=>A4 (La S' mr (rows.map rwD)) (rows.length<=4) (∀r∈rows,r.2<vs.length) (dl=[sR n,sI (q:Int),sI l,sR m,sR mr,none,none])) (λnx hx=>?_) ?_
  .refine#[ns,P _ _ hn,⋯,λx hx'=>?_];obtain⟨k,ek⟩:∃k:Nat,x/5%5=(k:Int):=#[(x/5%5).toNat,()];exact#[ns,vs,k,P _ _ hn,hm,rfl,ek,(),(),λU rows p hr l4 ri=>hx _ _ #[p,rows,T.length,hr,l4,ri,rfl]]
  rintro dl U ⟨PU,rows,mr,hr,l4,ri,rfl⟩;have PS:=P.trans PU;refine ZW (λdl S'=>∃bs:LP2,A4 (bs.length=q) (Spn 51 bs) (S'=U++[.lst (bs.map frD)]) (dl=[sR n,sI (q:Int),sI l,sR m,sR mr,sR U.length,none])) (λnx hx=>?_) ?_
  .exact#[ns,q,PS _ _ hn,rfl,hq,rfl,λbs lb sb=>hx _ _ #[bs,lb,sb,rfl,rfl]]
  rintro dl V ⟨bs,lb,sb,rfl,rfl⟩;have PV:Pre S (U++[Ob.lst (bs.map frD)]):=PS.push;refine ZW (λdl S'=>U++[.lst (bs.map frD)]=S'/\∃g:Int,(Gg g)/\dl=[sR n,sI (q:Int),sI l,sR m,sR mr,sR U.length,sI g]) (λnx hx=>?_) ?_
  .have e6:(10:Int)^Int.toNat 6=1000000:=rfl;refine#[ns,PV _ _ hn,⋯,λx hx'=>#[show (0:Int)<10^Int.toNat 6 by decide,?_]];have r:=Yn (a:=x) (b:=10^Int.toNat 6) ⋯;exact hx _ _ #[rfl,_,#[(),()],rfl]
  rintro dl V ⟨rfl,g,hg,rfl⟩;refine#[ns,PV _ _ hn,⋯,λx hx'=>#[show (0:Int)<10^Int.toNat 15-1 by decide,?_]];have r:=Yn (a:=x) (b:=10^Int.toNat 15-1) ⋯;exact h _ q m mr U.length g _ l vs ws rows bs PV #[Zo (PU _ _ hm),Zo hr,net,hg,(),l4,ri,hq] (Zm _ _) lb sb () hl
def Kk:Fkz 2 "_law_at_cut" N3 G4:=
 mkF dF WH (λhr=>(Zd (Pn (x:="_law_entry") (N:=[]) (caps:=[]) (ar:=ZA NX) rfl rfl csc rfl ⋯ (i:=3) WH.nd rfl rfl (dv 0) (λ_ _ _ _ _ _=>TF (Zn (ZG hr) (Xd (piv 0) Zb) ZJ (Zl _))) (λ_ _ _ _ _ _=>(dv 0))) (Zd (Zu (WV (Fj (dv 3))) (Zf (Zi ZR)) Zy) (Zd (Zj (i:=4) WH.nd (ZD (dv 3) (Ze Yc (dv 1) (ZK (ZS YG) rfl YE Boot.«len» (pv 3))))) (Zd (Zj (i:=5) WH.nd (Z7 Zg)) (Zd (Ue (is:=[6,7]) PassesOwn.never rfl WH.nd (Nms.cons (i:=6) rfl (Or.inl rfl) (by first|exact .inl rfl|exact .inr rfl) (Nms.cons (i:=7) rfl (Or.inl rfl) (by first|exact .inl rfl|exact .inr rfl) Nms.nil)) rfl rfl Wf Boot.«enumerate» (Za (piv 4) Zg) (Zd (Zj (i:=8) WH.nd (Ze ZL (piv 7) (piv 7))) (Zd (Zu (Zn (ZG hr) (dv 6) (Xd (piv 4) Zb) (Zl _)) (Zf (Zj (i:=8) WH.nd (Ze ZH Zb (Xd (piv 4) Zb)))) Zy) (Zd (Zj (i:=9) WH.nd (Zh UM hr (pdv 8 (Za (Ze ZH Zb (dv 2)) Zg)))) (Zf (Z1 (Yg (dv 5) (Zv (Za (Ze Yp (dv 8) (dv 9)) (Za (Ze Yp (Ze ZH Zb (dv 2)) (dv 9)) Zg)))))))))) (Zf (Zi (dv 5))))))))) λS Q ex=>by
  refine kR λmb=>kI λc=>kI λg=>kN ?_
  rintro⟨ds,es,fs,b0,q,B,h0,h⟩;have hg:=B.hg
  have q4':=B.q4
  have sg:Sz 21 g:=Sz.of 1000000 ()
  have ln:=B.en.1
  have l9:=B.l9;obtain⟨lb,sb⟩:=B.sp b0 (zE B.tr.rt);refine ZW (λdl' S'=>Pre S S'/\∃nc:Nat,La S' nc (ds.filterMap cuD)/\dl'=[sR mb,sI c,sI g,sR nc,none,none,none,none,none,none]) (λnx hx=>?_) ?_
  .refine QE (n:=mb) (S:=S) (o:=.lst ds) cuD kId B.bk (by show ds.length<=1000;lia) (λx hx S2 K pr hK=>?_) (λx hx y hy S2 K pr hK=>?_) ?_
   .obtain⟨i,hi⟩:=wY.mp (show x∈ds from hx);have li:=(zC.mp hi).1;obtain⟨m,e0,d,he,hd,hm,hc⟩:=B.at (show i<es.length by lia);rw[Ye (j:=i) hi] at hd;cases hd;have e1:∀(w:Str)(xs:List D),(cuD (.tup [.ref m,.tup (.str w::xs)])).isSome=decide (w="cut"):=λw xs=>by
     unfold cuD;dsimp only;by_cases c:w="cut"
     .rw[if_pos c,decide_eq_true c];rfl
     .rw[if_neg c,decide_eq_false c];rfl
    rcases hc with ⟨k,a,b,p,hf,rfl⟩|⟨_,w,hw,rfl|⟨_,rfl⟩|⟨_,_,rfl⟩|⟨_,_,_,_,_,rfl⟩⟩
    all_goals
     rw[e1] at hK;exact hK
   .have ey:y=x:=by
     unfold cuD at hy;split at hy
     .split at hy
      .exact(Option.some.inj hy).symm
      .cases hy
     .cases hy
    subst ey;exact hK
   .exact hx _ _ #[Pre.refl.push,S.length,Zm _ _,rfl]
  rintro dl' S2 ⟨P2,nc,hcu,rfl⟩;have B2:=B.pre P2;refine ZW (λdl' S'=>A3 (S2=S') (ds.filterMap cuD≠[]) (dl'=[sR mb,sI c,sI g,sR nc,none,none,none,none,none,none])) (λnx hx=>?_) ?_
  .refine Cf (n:=nc) kId hcu ?_;cases ec:ds.filterMap cuD with
   | nil=>exact h0 _ P2
   | cons y ys=>exact hx _ _ #[rfl,by rw[ec];simp,rfl]
  rintro dl' S' ⟨rfl,ne,rfl⟩;refine ZW (λdl' S'=>S2=S'/\E7 λ(i m k a b':Nat)(p:Int)(e:LP2)=>A4 (es[i]?=some e) (La S2 m (e.map frD)) (fs[i]?=some (.cut k p a b')) (dl'=[sR mb,sI c,sI g,sR nc,some (.tup [.ref m,.tup [.str "cut",.int (k:Int),.int p,.int (a:Int),.int (b':Int)]]),none,none,none,none,none])) (λnx hx=>?_) ?_
  .refine YW hcu ?_;have lc:0<(ds.filterMap cuD).length:=by
    have:=uW.mpr ne;exact this
   have kr:=Yn (a:=c) (b:=(((ds.filterMap cuD).length:Nat):Int)) ();obtain⟨j,ej⟩:∃j:Nat,c%(((ds.filterMap cuD).length:Nat):Int)=(j:Int):=#[(c%(((ds.filterMap cuD).length:Nat):Int)).toNat,()];have hj:=zD (show j<(ds.filterMap cuD).length by lia);obtain⟨i,m,k,a,b',p,e,he,ex,hm,hf⟩:=cu_is B2 (zE hj);rw[ex] at hj;refine#[(),?_];refine ZC (o:=.lst (ds.filterMap cuD)) hcu (by rw[ej];exact Ye (j:=j) hj) ?_;exact hx _ _ #[rfl,i,m,k,a,b',p,e,he,hm,hf,rfl]
  rintro dl' S' ⟨rfl,i,m,k,a,b',p,e,he,hm,hf,rfl⟩;obtain⟨e',s,q1,q2,q3,q4,_⟩:=B2.tr.ct _ _ _ _ _ hf;rw[he] at q1;cases q1
  obtain⟨le,se⟩:=B2.sp e (zE he);have sub:=B2.tr.sb e (zE he)
  have P3:Pre S2 (S2++[Ob.lst []]):=Pre.refl.push;refine VL (n:=m) (S1:=S2++[Ob.lst []]) (xs:=e.map frD) (λk' dl' S'=>Pre S2 S'/\∃(pt:LP2)(u6 u7 u8 u9:Option D),La S' S2.length (pt.map frD)/\Pk k' pt/\Inb b0 pt g/\dl'=[sR mb,sI c,sI g,sR nc,some (.tup [.ref m,.tup [.str "cut",.int (k:Int),.int p,.int (a:Int),.int (b':Int)]]),sR S2.length,u6,u7,u8,u9]) kId (λk dl' S' z=>z.1 _ _ hm) #[P3,[],none,none,none,none,Zm _ _,.nil,.nil,rfl] ?_ ?_
  .rintro k' x dl' S' nx ct hx ⟨pr,pt,u6,u7,u8,u9,hf',pk,ib,rfl⟩ hn;rw[zF] at hx;obtain⟨s',hs',rfl⟩:=zH.mp hx;have hk':=(zC.mp hs').1
   have ss:=se s' (zE hs');obtain⟨s0,z0,z1,z2⟩:=sub k' s' hs';refine ZW (λdl' T=>S'=T/\dl'=[sR mb,sI c,sI g,sR nc,some (.tup [.ref m,.tup [.str "cut",.int (k:Int),.int p,.int (a:Int),.int (b':Int)]]),sR S2.length,sI (k':Int),some (frD s'),sI (s'.1+s'.2),u9]) (λnx hx=>hx _ _ #[rfl,rfl]) ?_;rintro dl' T ⟨rfl,rfl⟩;refine ZW (λdl' T=>S'=T/\∃top:Int,(s'.1*2<=top/\top<=s'.2*2)/\dl'=[sR mb,sI c,sI g,sR nc,some (.tup [.ref m,.tup [.str "cut",.int (k:Int),.int p,.int (a:Int),.int (b':Int)]]),sR S2.length,sI (k':Int),some (frD s'),sI top,u9]) (λnx hx=>?_) ?_
   .refine ifD (λc1=>?_) (λc1=>hx _ _ #[rfl,_,#[(),()],rfl]);have ek:k'=k:=by lia
    subst ek;rw[hs'] at q2;cases q2
    exact#[ZE (Sz.of (n:=3) 2 ⋯) (Sz.mid ss.2.1 ss.2.2 (xE q3) (xE q4)),hx _ _ #[rfl,_,#[(),()],rfl]]
   rintro dl' T ⟨rfl,top,⟨t1,t2⟩,rfl⟩;have w2:(2:Int)*g=g*2:=yT ..
   have zt:Sz 61 top:=Sz.mid (ss.2.1.mul (Sz.of (n:=3) 2 ⋯)) (ss.2.2.mul (Sz.of (n:=3) 2 ⋯)) t1 t2 |>.mono ⋯
   obtain⟨⟨d1,zd⟩,d2,d3,d4,d5,d6⟩:=OT hg (w:=2) ⋯ zt;have I:=QV (lo:=s0.1) (hi:=s0.2) () () hg.1 d1 d2 d3;rw[<- w2] at d1 zd d2 d3 d4 d5 d6 I;have m2:IntMulOk 2 g:=ZE (Sz.of (n:=3) 2 ⋯) sg;refine#[m2,?_];refine Ys (n:=S2.length) (S1:=S') (xs:=pt.map frD) (y:=frD (_,_)) kId hf' (λK hK=>#[zd.fd (),m2,zd.fd (),hK]) (by rw[zB,pk.ln];lia) ?_;refine hn _ _ #[YH pr (zA _),pt++[(_,_)],_,_,_,_,?_,pk.snoc #[d4,d5,d6],ib.snoc (by rw[pk.ln];exact z0) I,rfl];rw[zZ];exact Yb hf'
  .rintro dl' S' ⟨pr,pt,u6,u7,u8,u9,hf',pk,ib,rfl⟩;rw[zB,le] at pk;exact h _ _ pt (P2.trans pr) (Y1 P2) hf' pk ib
def Me:Fx 1 (top 107) NW:=
 mF 0 (λhr hn=>s!"DI=!a2ORU=][b!a11ORUG][b!a11") λS Q ex=>by
  refine kT λw k=>kR λv=>kN ?_
  rintro⟨ds,zero,hv,hw,hk,h⟩;rcases hw with ⟨rfl,rfl⟩|⟨rfl,rfl⟩
  .refine ZC (o:=.lst (ds.map frD)) hv (ZU hk) ?_;exact h _ (by simp)
  .refine ZC (o:=.lst (ds.map frD)) hv (ZU hk) ?_;exact h _ (by simp)
def CF:Fx 1 (top 113) F9:=
 mF 0 (λhr hn=>s!"OR$g,{RQ (x1:="_law_a") (x2:="_law_b") (N:=[]) (caps:=[]) (ar:=ZA (top 113)) rfl rfl Wl rfl rfl rfl ⋯ rfl V8 Boot.«zip» (pdv 0 (pv 1)) (λ_ _ _ _ _ _=>(s!"U=*!a!b*!b!a"))}.") λS Q ex=>by
  refine kR λa=>kR λb=>kN ?_
  rintro⟨ps,qs,q,ha,hb,pk,pk2,q4,al,h⟩;have lp:=pk.ln;refine U3 (n:=a) (n':=b) (S1:=S) (xs:=ps.map frD) (ys:=qs.map frD) (λ_ _=>.bl true) kId ha hb (by rw[zB];lia) (λk x y hx hy S2 K pr hK=>?_) ?_
  .rw[zF] at hx hy;obtain⟨s,hs,rfl⟩:=zH.mp hx;obtain⟨r,hr,rfl⟩:=zH.mp hy;have z1:=pk.ok s (zE hs)
   have z2:=pk2.ok r (zE hr)
   have e:=al k s r hs hr;refine#[ZE z1.2.1 z2.2.2,ZE z2.2.1 z1.2.2,?_];have w:D.bl (decide (s.1*r.2=r.1*s.2))=.bl true:=by rw[decide_eq_true e]
   rw[<- w] at hK;exact hK
  .refine UO (n:=S.length) (o:=.lst _) (Zm _ _) (by show YA (List.zipWith (λ_ _=>D.bl true) _ _)=_;rw[Dt];exact MJ _) ?_;have w:(List.replicate (min (ps.map frD).length (qs.map frD).length) true).all id=true:=by simp
   show Q (.bl _) _;rw[w];exact h _ Pre.refl.push
def Ks:Fx 3 (top 114) zah:=
 mF 3 (λhr hn=>s!"DSg][ab1D{Vo (i:=7) hn rfl (Or.inr rfl) (s!"C{Nn}dc.")}DSi$g,7{"_law_row_here"}{["_law_values"]}{[7]}{ZA (top 114)}eC{Me}ab..DI=!g2OR{DQ (s!"C{Me},[e!gh.")}DI=!g2ORiDIPK=!g2QTiDIMTC{CF},{G8 hr (dv 5) (dv 1) (dv 2)}c.OR4O{Hr hr (dv 5) (dv 1) (dv 2)}OR{Xm (ID hr) (piv 6) (s!"),2,2,2.") rfl}") λS Q ex=>by
  refine kR λmb=>kI λi=>kR λp=>kR λnd=>kR λrw=>kR λsg=>kN ?_
  rintro⟨j,ds,es,fs,b0,q,pt,g,fine,ns,ws,rows,kvs,e,f,B,R,FO,hsg,sgl,lk,rfl,he,hf,nc,ib,h⟩;obtain⟨m,d,hd,hm,fo⟩:=B.en.2.2 j e f he hf;have hr:=R.rl
  have R:=R;refine ZW (λdl S'=>S=S'/\dl=[sR mb,sI (j:Int),sR p,sR nd,sR rw,sR sg,some d,none,none]) (λnx hx=>?_) ?_
  .refine ZC (o:=.lst ds) B.bk (Ye hd) ?_;exact hx _ _ #[rfl,rfl]
  rintro dl S0 ⟨rfl,rfl⟩;refine ZW (λdl S'=>Pre S S'/\∃mv:Nat,La S' mv ((Zq pt ns).map frD)/\dl=[sR mb,sI (j:Int),sR p,sR nd,sR rw,sR sg,some d,sR mv,none]) (λnx hx=>?_) ?_
  .exact#[ns,ws,pt,R.nd,B.pp,by rw[B.pk.ln];exact R.net,B.pk.pz,R.l70,λT mv P lm hv=>hx _ _ #[P,mv,hv,rfl]]
  rintro dl T ⟨P,mv,hv,rfl⟩;have ld:(Zq pt ns).length=ns.length:=Xv ..
  have row:∀r∈rows,∀(S2:Sto)(K:DK),Pre T S2->K (.bl (mwB pt ns r)) S2->NW [rwD r,.ref mv] S2 K λ_ _=>False:=λr hr S2 K pr hK=>by
   have l:=R.ri r hr;obtain⟨zero,k⟩:=r;exact#[Zq pt ns,zero,pr _ _ hv,by cases zero;exact .inr #[rfl,rfl];exact .inl #[rfl,rfl],#[(),()],λb hb=>by
    have e:b=mwB pt ns (zero,k):=xK.mpr (hb.trans (TR pt ns (zero,k)).symm);rw[e];exact hK]
  refine ZW (λdl S'=>A3 (Pre S S') (La S' mv ((Zq pt ns).map frD)) (dl=[sR mb,sI (j:Int),sR p,sR nd,sR rw,sR sg,some d,sR mv,some (.bl ((rows.map (mwB pt ns)).all id))])) (λnx hx=>?_) ?_
  .refine XN (n:=rw) (S1:=T) (o:=.lst (rows.map rwD)) (mfD pt ns) kId (P _ _ R.rw) (by show (rows.map rwD).length<=1000;rw[zB];lia) (λx hx S2 K pr hK=>?_) ?_
   .obtain⟨r,hr,rfl⟩:=zP.mp (show x∈rows.map rwD from hx);rw[O9] at hK;exact row r hr S2 K pr hK
   .refine UO (n:=T.length) (o:=.lst _) (Zm _ _) (by show YA ((rows.map rwD).map (mfD pt ns))=_;rw[DU];exact Lv _) ?_;exact hx _ _ #[P.push,Zo hv,rfl]
  rintro dl U ⟨PU,hv',rfl⟩;have lp:=B.pk.ln;obtain⟨le,se⟩:=B.sp e (zE he);have iw:=(Og ()).mp ib
  have aZ:∀w:Str,(["one","small","waits"].any (·==w))=true->∀(V:Sto)(kvs':List (Key×D)),(∀x o,x≠sg->S[x]?=some o->V[x]?=some o)->V[sg]?=some (.dck kvs')->Sg V q es g ns rows kvs'->kvs'.length<=kvs.length+1->YM (wIn 0 false) (.str w) (.ref V.length) (V++[.lst ((["one","small","waits"]:List Str).map D.str)]) Q:=λw hw V kvs' p1 p2 p3 p4=>by
   refine Dn (ws:=["one","small","waits"]) (Zm _ _) ?_;have z:=h (V++[.lst ((["one","small","waits"]:List Str).map D.str)]) kvs' (λx o n z=>Zo (p1 x o n z)) (Zo p2) (p3.keep p2 λx o _ z=>Zo z) p4;rw[<- hw] at z;exact z
  have end1:∀(T:Sto),Pre S T->Q (.bl true) T:=λT pT=>h T kvs (λx o _ z=>pT _ _ z) (pT _ _ hsg) (sgl.keep hsg λx o _ z=>pT _ _ z) ()
  generalize hB:(rows.map (mwB pt ns)).all id=Bm;have all:Bm=true↔∀r∈rows,Mw pt ns r:=by
   rw[<- hB,vU,wM];exact#[λz r hr=>(TR pt ns r).mp (z r hr),λz r hr=>(TR pt ns r).mpr (z r hr)]
  have ok:=FO j e f he hf;cases f with
  | cut k x a b=>exact absurd rfl (nc k x a b)
  | wait=>
   obtain rfl:=fo;exact aZ "waits" rfl U kvs (λx o _ z=>PU _ _ z) (PU _ _ hsg) (sgl.keep hsg λx o _ z=>PU _ _ z) ()
  | small=>
   obtain⟨_,_,rfl⟩:=fo;exact aZ "small" rfl U kvs (λx o _ z=>PU _ _ z) (PU _ _ hsg) (sgl.keep hsg λx o _ z=>PU _ _ z) ()
  | full vs=>
   obtain⟨_,_,_,rfl,_⟩:=fo;rcases ok with ok|⟨_,_,_,_,ok⟩|ok
   .cases ok
   .cases ok
   .rw[all.mpr (Jx R.net () () B.hg.1 R.ri B.pk.pz iw ok)];exact end1 U PU
  | out r vs=>
   obtain⟨_,_,_,rfl,_⟩:=fo;rcases ok with ok|⟨_,_,_,_,ok⟩|ok
   .cases ok
   .cases ok
   .obtain⟨rr,hr',nm⟩:=D6 R.net () () B.hg.1 R.ri B.pk.pz iw ok;have fl:mwB pt ns rr=false:=tY.mpr λz=>nm ((TR pt ns rr).mp z)
    refine ZC (o:=.lst (rows.map rwD)) (PU _ _ R.rw) (Ye (j:=r) (v:=rwD rr) (by show (rows.map rwD)[r]?=_;rw[zF,hr'];rfl)) ?_;have l:=R.ri rr (zE hr');obtain⟨zero,k⟩:=rr;refine#[Zq pt ns,zero,hv',by cases zero;exact .inr #[rfl,rfl];exact .inl #[rfl,rfl],#[(),()],λb hb=>?_];have e:b=false:=tY.mpr λz=>nm (hb.mp z)
    subst e;exact end1 U PU
  | one=>
   obtain⟨_,_,_,_,_,_,_,rfl⟩:=fo;rcases ok with ok|⟨_,_,_,_,ok⟩|⟨M,ok⟩
   .cases ok
   .cases ok
   .cases Bm with
    | false=>exact aZ "one" rfl U kvs (λx o _ z=>PU _ _ z) (PU _ _ hsg) (sgl.keep hsg λx o _ z=>PU _ _ z) ()
    | true=>
     have met:=all.mp rfl;refine zam (n:=sg) (kvs:=kvs) (k:=.inl (j:Int)) kId kId kId (PU _ _ hsg) rfl ?_;have pick:∃(m':Nat)(ps:LP2),(Xw kvs (.inl (j:Int))).getD (.ref p)=.ref m'/\La U m' (ps.map frD)/\Pk q ps/\∀(k:Nat)(x y:Int×Int),ps[k]?=some x->pt[k]?=some y->x.1*y.2=y.1*x.2:=by
      cases hval:Xw kvs (.inl (j:Int)) with
      | none=>exact#[p,pt,rfl,PU _ _ B.pp,B.pk,λk x y hx hy=>by rw[hx] at hy;cases hy;rfl]
      | some v=>
       obtain⟨r,m',ps,e',ee,hm',pk',he',ib',met'⟩:=sgl _ (CD hval);have e1:((j:Int):Int)=(r:Int):=by
        have z:=congrArg Prod.fst ee;exact Sum.inl.inj z
       have e2:v=.ref m':=congrArg Prod.snd ee
       have e3:j=r:=by lia
       subst e2 e3;rw[he] at he';cases he';exact#[m',ps,rfl,PU _ _ hm',pk',zad R.net () (by have:=pk'.ln;lia) () se B.hg R.ri ok pk'.pz B.pk.pz ((Og (by have:=pk'.ln;lia)).mp ib') iw met' met]
     obtain⟨m',ps,e1,hm',pk',al⟩:=pick;rw[e1];refine#[ps,pt,q,hm',PU _ _ B.pp,pk',B.pk,B.q4.2,al,λV pV=>?_];have PV:=PU.trans pV;refine zac (n:=sg) (kvs:=kvs) (k:=.inl (j:Int)) (v:=.ref p) (y:=.int (j:Int)) kId kId kId (PV _ _ hsg) rfl () ?_;have nsg:∀ {x:Nat} {xs:List D},La S x xs->x≠sg:=λhx z=>by subst z;cases hsg.symm.trans hx
     refine aZ "one" rfl _ _ (λx o n z=>ZY (PV _ _ z) (Ne.symm n)) (Yb (PV _ _ hsg)) (λx hx=>?_) (Cp _ _ _);rcases Ew hx with rfl|hx
     .exact#[j,p,pt,e,rfl,ZY (PV _ _ B.pp) (Ne.symm (nsg B.pp)),B.pk,he,ib,met]
     .obtain⟨r,m2,ps2,e',a,b,c⟩:=sgl x hx;exact#[r,m2,ps2,e',a,ZY (PV _ _ b) (Ne.symm (nsg b)),c]
def zao:Fx 1 (top 111) Bj:=
 mF 3 (λhr hn=>s!"DSe1D{Oc PassesOwn.never (s!"=]][ae112") (s!"DSf][ae1DSg-*][b!f1c*!f][b!f1OJPX<g1YPK=g1QMTdOSe!fOSe!f")}ORe") λS Q ex=>by
  refine kR λmb=>kR λp=>kI λg=>kB λab=>kN ?_
  rintro⟨ds,es,fs,b0,q,pt,B,ib,h⟩;have e0:0<es.length:=(zC.mp B.tr.rt).1
  have sg:Sz 21 g:=Sz.of 1000000 (by have:=B.hg;lia)
  have q4':=B.q4;refine#[λm dl' S'=>S'=S/\∃(i:Nat)(u v:Option D),dl'=[sR mb,sR p,sI g,some (.bl ab),sI (i:Int),u,v]/\i<es.length/\m=es.length-i/\∀e,es[i]?=some e->Inb e pt g,#[es.length,rfl,0,none,none,rfl,e0,rfl,λe he=>by rw[B.tr.rt] at he;cases he;exact ib],?_];rintro m dl' S' ⟨rfl,i,u,v,rfl,hi,rfl,hl⟩;obtain⟨mm,e,d,he,hd,hm,⟨k,a,b,x,hf,rfl⟩|⟨nf,w,hw,sh⟩⟩:=B.at hi
  .refine ZC (o:=.lst ds) B.bk hd ?_;obtain⟨e',s,q1,q2,q3,q4,q5,q6,q7,q8⟩:=B.tr.ct _ _ _ _ _ hf;rw[he] at q1;cases q1
   obtain⟨ee,se⟩:=B.sp e (zE he);have lk:=(zC.mp q2).1;obtain⟨y,hy,y1,y2,y3⟩:=B.pk.at (k:=k) ();have ss:=se s (zE q2)
   have zx:Sz 51 x:=Sz.mid ss.2.1 ss.2.2 () ()
   have iy:(pt.map frD)[k]?=some (frD y):=by rw[zF,hy];rfl
   refine ZC (o:=.lst ds) B.bk hd ?_;refine ZC (o:=.lst (pt.map frD)) B.pp (Ye (j:=k) (v:=frD y) iy) ?_;refine#[ZE y2 sg,?_];refine ZC (o:=.lst (pt.map frD)) B.pp (Ye (j:=k) (v:=frD y) iy) ?_;refine#[ZE zx y3,?_];have ib':=hl e he
   have la:=(zC.mp q7).1
   have lb:=(zC.mp q8).1
   have low:y.1*g-x*y.2<=0->∀e',es[a]?=some e'->Inb e' pt g:=λc e' h'=>by
    rw[q7] at h';cases h'
    exact ib'.put q2 λa' ha=>by rw[hy] at ha;cases ha;exact#[(ib' k s y q2 hy).1,by show y.1*g<=x*y.2;lia]
   have high:0<=y.1*g-x*y.2->∀e',es[b]?=some e'->Inb e' pt g:=λc e' h'=>by
    rw[q8] at h';cases h'
    exact ib'.put q2 λa' ha=>by rw[hy] at ha;cases ha;exact#[by show x*y.2<=y.1*g;lia,(ib' k s y q2 hy).2]
   refine ifD (λc=>#[es.length-a,(),rfl,a,_,_,rfl,la,rfl,low ()]) (λc=>?_);refine ifD (λc2=>?_) (λc2=>#[es.length-b,(),rfl,b,_,_,rfl,lb,rfl,high ()]);cases ab with
   | true=>exact#[es.length-b,(),rfl,b,_,_,rfl,lb,rfl,high ()]
   | false=>exact#[es.length-a,(),rfl,a,_,_,rfl,la,rfl,low ()]
  .rcases sh with rfl|⟨_,rfl⟩|⟨_,_,rfl⟩|⟨_,_,_,_,_,rfl⟩
   all_goals
    refine ZC (o:=.lst ds) B.bk hd ?_;exact ifD (λc=>absurd c hw) (λ_=>h i hi nf (hl))
def UP:Dfz "law" RW Sx:=dF
def G_law:Fkz 17 "law" Sx (UD LT LP LQ):=
 UP.mk' (Vl (k:=16) UP.F XU JT λ_ _ _ _ _ _ _ hr=>#[_,(Zd (Zj (i:=1) XU.nd (Zh Fq hr (pv 0))) (Zd (Zu (Zn (ZG hr) (Ze ZZ (Zh XB hr (pdv 0 (Za Zb Zg))) Zb) Zb (Zl _)) (Zf (Zj (i:=1) XU.nd (Zh D9 hr (pv 0)))) Zy) (Zd (MW (is:=[2,3,4]) rfl XU.nd (Nms.cons (i:=2) rfl (Or.inl rfl) (by first|exact .inl rfl|exact .inr rfl) (Nms.cons (i:=3) rfl (Or.inl rfl) (by first|exact .inl rfl|exact .inr rfl) (Nms.cons (i:=4) rfl (Or.inl rfl) (by first|exact .inl rfl|exact .inr rfl) Nms.nil))) (Mi (dv 1) XC (XA Zb))) (Zd (MW (is:=[5,6,7]) rfl XU.nd (Nms.cons (i:=5) rfl (Or.inl rfl) (by first|exact .inl rfl|exact .inr rfl) (Nms.cons (i:=6) rfl (Or.inl rfl) (by first|exact .inl rfl|exact .inr rfl) (Nms.cons (i:=7) rfl (Or.inl rfl) (by first|exact .inl rfl|exact .inr rfl) Nms.nil))) (Mi (dv 1) (XA Zb) XC)) (Zd (Zj (i:=8) XU.nd (Zh Gd hr (Za (VI (ZS VQ) rfl VM Boot.«list» (pv 2)) (Za (VI (ZS VQ) rfl VM Boot.«list» (pv 3)) (Za (VI (ZS VQ) rfl VM Boot.«list» (pv 4)) (pdv 5 (pdv 6 (pv 7)))))))) (Zd (Zj (i:=9) XU.nd (Zh GH hr (pdv 0 (pdv 4 (pv 5))))) (Zd (Zu (Zn (ZG hr) (Ze ZZ (Zh Xe hr (pdv 0 (Za Zb Zg))) Zb) Zb (Zl _)) (Zd (Zj (i:=10) XU.nd (Zh Kk hr (pdv 8 (Za (Ze Yc (Ze Ym (Zh Xe hr (pdv 0 (Za Zb Zg))) Zb) (Ze YS Zb Zb)) (pv 5))))) (Zf (Zu (Zn PJ (dv 10) ZR (Zl _)) (Zf (Z1 (Yg (dv 9) (dv 10)))) Zy))) Zy) (Zd (Zj (i:=11) XU.nd IT) (Zd (XX (i:=12) PassesOwn.never rfl XU.nd rfl (Or.inl rfl) (dv 9) (Zf (XX (i:=13) PassesOwn.never rfl XU.nd rfl (Or.inl rfl) (Z7 (Za VJ (Za VJ Zg))) (Zf (Zu (WV (Xo (Zh Ks hr (pdv 8 (Za (Zh zao hr (pdv 8 (pdv 12 (pdv 5 (pv 13))))) (pdv 12 (pdv 2 (pdv 3 (pv 11))))))))) (Zf (Zi VJ)) Zy))))) (Zf (Zi VJ))))))))))),λds S Q ex h=>by
  obtain⟨ns,rfl,rfl,hl,h⟩:=h;refine ZW (λdl S'=>Pre [.frz (ns.map D.int),.cod LT LP LQ] S'/\E11 λ(q m mr mx:Nat)(g fine looks:Int)(vs:List Nd)(ws:List Nat)(rows:List (Bool×Nat))(bs:LP2)=>A7 (Sr S' m mr g vs ws rows q) (La S' mx (bs.map frD)) (bs.length=q) (Spn 51 bs) (1<=fine) (0<=looks/\looks<=8) (dl=[sR 0,some (.tup [.ref m,.ref mr,.ref mx,.int g,.int fine,.int looks]),none,none,none,none,none,none,none,none,none,none,none,none])) (λnx hx=>?_) ?_
  .exact#[ns,rfl,(),λT q m mr mx g fine looks vs ws rows bs p R hb lb sb f1 hk=>hx _ _ #[p,q,m,mr,mx,g,fine,looks,vs,ws,rows,bs,R,hb,lb,sb,f1,hk,rfl]]
  rintro dl S ⟨P,q,m,mr,mx,g,fine,looks,vs,ws,rows,bs,R,hb,lb,sb,f1,hk,rfl⟩;refine ZW (λdl S'=>Pre [.frz (ns.map D.int),.cod LT LP LQ] S'/\E11 λ(q m mr mx:Nat)(g fine looks:Int)(vs:List Nd)(ws:List Nat)(rows:List (Bool×Nat))(bs:LP2)=>A7 (Sr S' m mr g vs ws rows q) (La S' mx (bs.map frD)) (bs.length=q) (Spn 51 bs) (1<=fine) (0<=looks/\looks<=8) (dl=[sR 0,some (.tup [.ref m,.ref mr,.ref mx,.int g,.int fine,.int looks]),none,none,none,none,none,none,none,none,none,none,none,none])) (λnx hx=>?_) ?_
  .refine#[ns,P 0 _ rfl,⋯,λx hx'=>?_];refine ifD (λ_=>?_) (λ_=>hx _ _ #[P,q,m,mr,mx,g,fine,looks,vs,ws,rows,bs,R,hb,lb,sb,f1,hk,rfl]);exact#[ns,P 0 _ rfl,(),λT q m mr mx g fine looks vs ws rows bs p R hb lb sb f1 hk=>hx _ _ #[P.trans p,q,m,mr,mx,g,fine,looks,vs,ws,rows,bs,R,hb,lb,sb,f1,hk,rfl]]
  clear R hb lb sb f1 hk P;rintro dl S ⟨P,q,m,mr,mx,g,fine,looks,vs,ws,rows,bs,R,hb,lb,sb,f1,hk,rfl⟩;refine ZW (λdl S'=>S=S'/\dl=[sR 0,some (.tup [.ref m,.ref mr,.ref mx,.int g,.int fine,.int looks]),sR m,sR mr,sR mx,none,none,none,none,none,none,none,none,none]) (λnx hx=>?_) ?_
  .refine Ji kId kId kId #[⋯,by simp] ?_;exact#[rfl,hx _ _ #[rfl,rfl]]
  rintro dl S' ⟨rfl,rfl⟩;refine ZW (λdl S'=>S=S'/\dl=[sR 0,some (.tup [.ref m,.ref mr,.ref mx,.int g,.int fine,.int looks]),sR m,sR mr,sR mx,sI g,sI fine,sI looks,none,none,none,none,none,none]) (λnx hx=>?_) ?_
  .refine F2 kId kId kId #[⋯,by simp] ?_;exact#[rfl,hx _ _ #[rfl,rfl]]
  rintro dl S' ⟨rfl,rfl⟩;refine ZW (λdl S'=>Pre S S'/\E4 λ(mb:Nat)(ds:List D)(es:List LP2)(fs:List Ft)=>A3 (Bq S' mb ds es fs bs q g) (∀(i:Nat)(e:LP2)(f:Ft),es[i]?=some e->fs[i]?=some f->f=.wait\/(∃k p a b,f=.cut k p a b)\/FOk g fine vs rows e f) (dl=[sR 0,some (.tup [.ref m,.ref mr,.ref mx,.int g,.int fine,.int looks]),sR m,sR mr,sR mx,sI g,sI fine,sI looks,sR mb,none,none,none,none,none])) (λnx hx=>?_) ?_
  .refine VS (ZO R.nd rfl) ?_;refine VS (ZO (Zo R.rw) rfl) ?_;refine VS (ZO (Zo (Zo hb)) rfl) ?_;refine#[q,1,vs,ws,rows,bs,#[Zo (Zo (Zm _ _)),Zo (Zm _ _),R.net,R.hg,R.l70,R.rl,R.ri,R.u1],Zm _ _,lb,sb,f1,hk,Zo (Zo (Zo (P 1 _ rfl))),λT mb ds es fs p lm hT en K l9 c0 c1=>?_];exact hx _ _ #[λx o z=>p _ _ (Zo (Zo (Zo z))),mb,ds,es,fs,#[hT,en,K.tre,l9,λe he=>by obtain⟨a,b⟩:=(K.ok sb).2 e he;exact#[(),b],R.u1,R.hg],K.small.2,rfl]
  rintro dl T ⟨PT,mb,ds,es,fs,B,FO,rfl⟩;have hg:=R.hg;refine ZW (λdl S'=>Pre T S'/\E2 λ(mp:Nat)(ps:List D)=>A5 (La S' mp ps) (ps.length<=24) (Ptz q bs g S' mp ps) (T.length<=mp) (dl=[sR 0,some (.tup [.ref m,.ref mr,.ref mx,.int g,.int fine,.int looks]),sR m,sR mr,sR mx,sI g,sI fine,sI looks,sR mb,sR mp,none,none,none,none])) (λnx hx=>?_) ?_
  .exact#[ns,bs,q,PT _ _ (P 0 _ rfl),PT _ _ hb,lb,R.u1,sb,hg,(),λU mp ps p lm hm l24 pz=>hx _ _ #[p,mp,ps,hm,l24,pz,lm,rfl]]
  rintro dl U ⟨PU,mp,ps,hp,lp,pz,lmp,rfl⟩;have B1:=B.pre PU
  have P0:=(P.trans PT).trans PU;refine ZW (λdl S'=>(∀x o,x≠mp->U[x]?=some o->S'[x]?=some o)/\E2 λ(ps:List D)(u10:Option D)=>A4 (La S' mp ps) (ps.length<=25) (Ptz q bs g S' mp ps) (dl=[sR 0,some (.tup [.ref m,.ref mr,.ref mx,.int g,.int fine,.int looks]),sR m,sR mr,sR mx,sI g,sI fine,sI looks,sR mb,sR mp,u10,none,none,none])) (λnx hx=>?_) ?_
  .refine#[ns,P0 0 _ rfl,#[⋯,⋯],λc hc=>?_];refine ifD (λ_=>?_) (λ_=>hx _ _ #[λ_ _ _ z=>z,ps,_,hp,(),pz,rfl]);refine#[ns,P0 0 _ rfl,#[⋯,⋯],λc' hc'=>?_];refine#[show (0:Int)<10^Int.toNat 6 by decide,ds,es,fs,bs,q,B1,λV pV=>?_,λV m pt pV lm hm pk ib=>?_]
   .exact hx _ _ #[λx o _ z=>pV _ _ z,ps,_,pV _ _ hp,(),λd hd=>by obtain⟨m',pt',a0,a1,a2,a3⟩:=pz d hd;exact#[m',pt',a0,a1,pV _ _ a2,a3],rfl]
   .have lU:=ZT hp;refine Ys (n:=mp) (S1:=V) (xs:=ps) (y:=.ref m) kId (pV _ _ hp) kId () ?_;refine hx _ _ #[λx o n z=>ZY (pV _ _ z) (Ne.symm n),ps++[.ref m],_,Yb (pV _ _ hp),by simp;lia,λd hd=>?_,rfl];rcases zX.mp hd with z|z
    .obtain⟨m',pt',rfl,a1,a2,a3,a4⟩:=pz d z;exact#[m',pt',rfl,a1,ZY (pV _ _ a2) (Ne.symm a1),a3,a4]
    .cases zO.mp z;exact#[m,pt,rfl,(),ZY hm (),pk,ib]
  rintro dl W ⟨kW,ps',u10,hp',lp',pz',rfl⟩;have PW:Pre T W:=λx o z=>kW x o (by have:=ZT z;lia) (PU _ _ z)
  clear hp lp pz;refine ZW (λdl S'=>W++[.dck []]=S'/\dl=[sR 0,some (.tup [.ref m,.ref mr,.ref mx,.int g,.int fine,.int looks]),sR m,sR mr,sR mx,sI g,sI fine,sI looks,sR mb,sR mp,u10,sR W.length,none,none]) (λnx hx=>hx _ _ #[rfl,rfl]) ?_;rintro dl Y ⟨rfl,rfl⟩;have PY:Pre W (W++[Ob.dck []]):=Pre.refl.push
  have nsg:∀ {x:Nat} {o:Ob},W[x]?=some o->x≠W.length:=λz=>zN (ZT z)
  refine ZW (λdl S'=>True) (λnx hx=>?_) (λdl S' _=>h S');refine X0 (n:=mp) (o:=.lst ps') (λi dl S'=>(∀x o,x≠W.length->W[x]?=some o->S'[x]?=some o)/\E3 λ(kvs:List (Key×D))(u12 u13:Option D)=>A4 (S'[W.length]?=some (.dck kvs)) (Sg S' q es g vs rows kvs) (kvs.length<=2*i) (dl=[sR 0,some (.tup [.ref m,.ref mr,.ref mx,.int g,.int fine,.int looks]),sR m,sR mr,sR mx,sI g,sI fine,sI looks,sR mb,sR mp,u10,sR W.length,u12,u13])) #[λx o _ z=>PY _ _ z,[],none,none,Zm _ _,λx hx=>by simp at hx,zA _,rfl] (λi dl S' z=>z.1 _ _ (nsg hp') hp') ?_ (λdl S' _=>hx _ _ trivial);rintro i x dl S' nx2 ct hx' ⟨kS,kvs,u12,u13,hsg,sgl,lk,rfl⟩ hn;have hx2:ps'[i]?=some x:=hx'
  have li:=(zC.mp hx2).1;obtain⟨m',pt,rfl,_,hm',pk,ib⟩:=pz' x (zE hx2);have nsm:∀x o,W[x]?=some o->S'[x]?=some o:=λx o z=>kS x o (nsg z) z
  have lS:=ZT hsg;refine X0 (n:=S'.length) (o:=.lst [.bl false,.bl true]) (λk dl S3=>(∀x o,x≠W.length->(S'++[Ob.lst [.bl false,.bl true]])[x]?=some o->S3[x]?=some o)/\E2 λ(kvs:List (Key×D))(u13:Option D)=>A4 (S3[W.length]?=some (.dck kvs)) (Sg S3 q es g vs rows kvs) (kvs.length<=2*i+k) (dl=[sR 0,some (.tup [.ref m,.ref mr,.ref mx,.int g,.int fine,.int looks]),sR m,sR mr,sR mx,sI g,sI fine,sI looks,sR mb,sR mp,u10,sR W.length,sR m',u13])) #[λ_ _ _ z=>z,kvs,_,Zo hsg,sgl.keep hsg (λx o _ z=>Zo z),(),rfl] (λk dl S3 z=>z.1 _ _ () (Zm _ _)) ?_ ?_
  .rintro k y dl S3 nx3 ct3 hy ⟨k2,kvs2,v13,hsg2,sgl2,lk2,rfl⟩ hn2;have hy':([.bl false,.bl true]:List D)[k]?=some y:=hy
   have lk:=(zC.mp hy').1;obtain⟨ab,rfl⟩:∃ab,y=D.bl ab:=by
    match k,hy' with
    | 0,z=>exact#[false,(Option.some.inj z).symm]
    | 1,z=>exact#[true,(Option.some.inj z).symm]
   have all:∀x o,W[x]?=some o->S3[x]?=some o:=λx o z=>k2 x o (nsg z) (Zo (nsm x o z))
   have P3:Pre T S3:=λx o z=>all _ _ (PW _ _ z)
   have BS:Bp S3 mb ds es fs bs q m' pt g:=#[B.pre P3,all _ _ hm',pk];refine#[ds,es,fs,bs,q,pt,BS,ib,λr hr nc hin=>?_];have he:=zD hr
   have hf:=zD (show r<fs.length by have:=B.en.2.1;lia)
   have l2:k<2:=lk;refine#[r,ds,es,fs,bs,q,pt,g,fine,vs,ws,rows,kvs2,_,_,BS,R.pre (PT.trans P3),FO,hsg2,sgl2,(),rfl,he,hf,λk x a b z=>nc k x a b (by rw[hf,z]),hin _ he,λV kvs3 kV hV sV lV=>?_];exact hn2 _ _ #[λx o n z=>kV _ _ n (k2 x o n z),kvs3,_,hV,sV,(),rfl]
  .rintro dl S3 ⟨k2,kvs2,v13,hsg2,sgl2,lk2,rfl⟩;exact hn _ _ #[λx o n z=>k2 x o n (Zo (kS x o n z)),kvs2,_,_,hsg2,sgl2,by have z:kvs2.length<=2*i+2:=lk2;lia,rfl]])
end
theorem Fi {l:W.OpenLaw}{w:World}{h:Heap}{mg:Str->Option Value}{fa:Addr}(X:(kq w.params).In h)(G:h.Ns mainGlobals mg)(hfa:mg "law"=some (.ref fa))
  :∃fd:FuncData,(∀(s:Shared)(v:Value),BindsTo s fd #[[v],[]] [(q22,v)])/\∀base:Heap,(kq w.params).In base->base.Ns mainGlobals mg->BM mg base->Yk l.prog w (kq w.params) mg base (CXE l.prog w) 17 fa fd [q22] (upF (kq w.params) (UD LT LP LQ)):=by
 let UP:Df (kq w.params) mg "law" RW Sx:=dfo X G
 have e:=hfa.symm.trans UP.m;cases e;refine#[UP.fd,λs v=>.of_eq rfl,λbase kin _ hbm=>?_]
 letI e:Ev5:=#[l.prog,w,mg,h,X,G,base,kin,hbm]
 exact G_law.ok
end Mine
open PySem PySem.W PyProof.Rows
set_option maxRecDepth 100003 in
set_option maxHeartbeats 0 in
theorem PySem.Challenge.cw_boxnarrow_k54_whole_every_point_holds : PySem.Challenge.rw_boxnarrow_k54_whole_every_point.Holds := by
 w_on;refine PySem.W.holds_law Mine.ws_eq λsaid=>?_
 refine PySem.W.holds_open (q:=Mine.vw) (loose:=[]) (Xt:=Mine.xt) (XP:=XL Mine.vw []) (Yf:=Hook.obs (kHook Mine.kp Mine.ks Mine.WG)) (Ya:=Hook.val (kHook Mine.kp Mine.ks Mine.WG))
  (YP:=Hook.says (kHook Mine.kp Mine.ks Mine.WG)) (N:=7030) Mine.left (Hook.of (kHook Mine.kp Mine.ks Mine.WG)) (Hook.keeps (kHook Mine.kp Mine.ks Mine.WG)) (λs e=>xl_of s (tZ.mp e).1) XL.keeps
  (by rfl) (by rfl) (by rfl) (λs e=>recFacts_of (tZ.mp e).2) (by rfl) (by first|assumption|decide +kernel)
  (by decide +kernel) #[rfl,rfl,rfl,rfl,rfl,by decide +kernel] ?hw ?hc
 (case hw=>w_witness2)
 refine L3.Ar (l:=PySem.Challenge.rw_boxnarrow_k54_whole_every_point) (x:="_law_script") (K:=Mine.kq) (P:=Mine.LT) (c:=nat_lit 803) (ps:=(List.toArray [])) (lp:=Mine.LP) (lq:=Mine.LQ) 17 rfl rfl #[rfl,⋯,⋯] (λw h Y=>#[Mine.in_kq Y,Mine.IJ Y]) Mine.LS Mine.QF trivial rfl ?F
 case F=>
  intro w mg fa h KX G hmg;exact Mine.Fi KX G hmg
