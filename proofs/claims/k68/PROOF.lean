import PyProof.Rows.All
import Wide.All
import OpenK.AllK
import Wide.FinOn
import Lean
import PyProof.EqAt
import PyProof.EqKinds
import PyProof.TupleCall
import PySem.Challenge.RW_boxnarrow_k68_whole_ones_by_a_model
theorem zA:type_of% @List.length_map:=@List.length_map
theorem zC:type_of% @List.getElem?_eq_getElem:=@List.getElem?_eq_getElem
theorem zD:type_of% @Nat.le_refl:=@Nat.le_refl
theorem zF:type_of% @List.getElem?_eq_some_iff:=@List.getElem?_eq_some_iff
theorem zG:type_of% @List.getElem?_map:=@List.getElem?_map
theorem zH:type_of% @Int.toNat_natCast:=@Int.toNat_natCast
theorem zI:type_of% @List.length_append:=@List.length_append
theorem zJ:type_of% @List.mem_map:=@List.mem_map
theorem zK:type_of% @List.getD_eq_getElem?_getD:=@List.getD_eq_getElem?_getD
theorem zL:type_of% @List.mem_of_getElem?:=@List.mem_of_getElem?
theorem zN:type_of% @List.size_toArray:=@List.size_toArray
theorem zO:type_of% @Nat.zero_le:=@Nat.zero_le
theorem zP:type_of% @List.getElem?_append_left:=@List.getElem?_append_left
theorem zQ:type_of% @Option.map_eq_some_iff:=@Option.map_eq_some_iff
theorem zS:type_of% @List.mem_cons:=@List.mem_cons
theorem zU:type_of% @List.map_map:=@List.map_map
theorem zV:type_of% @Nat.ne_of_lt:=@Nat.ne_of_lt
theorem zW:type_of% @Bool.false_ne_true:=@Bool.false_ne_true
theorem zX:type_of% @List.length_cons:=@List.length_cons
theorem zY:type_of% @List.take_of_length_le:=@List.take_of_length_le
theorem zZ:type_of% @Nat.lt_of_lt_of_le:=@Nat.lt_of_lt_of_le
theorem yA:type_of% @List.getElem_mem:=@List.getElem_mem
theorem yB:type_of% @List.length_take:=@List.length_take
theorem yC:type_of% @List.map_append:=@List.map_append
theorem yD:type_of% @List.getElem?_append_right:=@List.getElem?_append_right
theorem yE:type_of% @List.lookup_cons:=@List.lookup_cons
theorem yF:type_of% @Nat.pow_pos:=@Nat.pow_pos
theorem yG:type_of% @List.getElem?_eq_none:=@List.getElem?_eq_none
theorem yH:type_of% @Nat.lt_irrefl:=@Nat.lt_irrefl
theorem yI:type_of% @Nat.le_trans:=@Nat.le_trans
theorem yJ:type_of% @List.mem_append:=@List.mem_append
theorem yK:type_of% @List.mem_append_right:=@List.mem_append_right
theorem yL:type_of% @Int.le_refl:=@Int.le_refl
theorem yM:type_of% @Int.le_trans:=@Int.le_trans
theorem yN:type_of% @Int.neg_mul:=@Int.neg_mul
theorem yO:type_of% @List.not_mem_nil:=@List.not_mem_nil
theorem yP:type_of% @Int.pow_pos:=@Int.pow_pos
theorem yQ:type_of% @List.mem_singleton:=@List.mem_singleton
theorem yR:type_of% @List.mem_cons_of_mem:=@List.mem_cons_of_mem
theorem yS:type_of% @Option.isSome_iff_exists:=@Option.isSome_iff_exists
theorem yT:type_of% @List.getElem?_set_self:=@List.getElem?_set_self
theorem yU:type_of% @List.map_cons:=@List.map_cons
theorem yV:type_of% @List.mem_iff_getElem:=@List.mem_iff_getElem
theorem yW:type_of% @Nat.sub_self:=@Nat.sub_self
theorem yX:type_of% @Nat.le_of_lt:=@Nat.le_of_lt
theorem yY:type_of% @List.getElem?_set_ne:=@List.getElem?_set_ne
theorem yZ:type_of% @List.all_eq_true:=@List.all_eq_true
theorem xA:type_of% @List.length_nil:=@List.length_nil
theorem xB:type_of% @Int.pow_succ:=@Int.pow_succ
theorem xC:type_of% @List.mem_cons_self:=@List.mem_cons_self
theorem xD:type_of% @List.append_nil:=@List.append_nil
theorem xE:type_of% @List.getElem?_eq_none_iff:=@List.getElem?_eq_none_iff
theorem xF:type_of% @List.take_succ:=@List.take_succ
theorem xG:type_of% @List.ext_getElem?:=@List.ext_getElem?
theorem xH:type_of% @List.length_drop:=@List.length_drop
theorem xI:type_of% @List.replicate_succ:=@List.replicate_succ
theorem xJ:type_of% @Nat.mul_le_mul:=@Nat.mul_le_mul
theorem xK:type_of% @List.getElem?_zipWith:=@List.getElem?_zipWith
theorem xM:type_of% @Bool.false_and:=@Bool.false_and
theorem xN:type_of% @Bool.eq_iff_iff:=@Bool.eq_iff_iff
theorem xO:type_of% @Nat.le_succ:=@Nat.le_succ
theorem xP:type_of% @List.flatten_cons:=@List.flatten_cons
theorem xQ:type_of% @List.append_assoc:=@List.append_assoc
theorem xR:type_of% @Nat.pow_le_pow_right:=@Nat.pow_le_pow_right
theorem xS:type_of% @List.take_length:=@List.take_length
theorem xT:type_of% @Int.pow_zero:=@Int.pow_zero
theorem xU:type_of% @List.length_range:=@List.length_range
theorem xV:type_of% @List.getElem?_range:=@List.getElem?_range
theorem xW:type_of% @List.mem_iff_getElem?:=@List.mem_iff_getElem?
set_option Elab.async false
set_option linter.all false
set_option maxRecDepth 100000
set_option genSizeOf false
set_option maxHeartbeats 40000000
abbrev LI:=List (Int×Int)
abbrev LA:=List (PySem.Addr×PySem.Obj)
abbrev QW:=PySem.Challenge.pw_boxnarrow_k68_whole_ones_by_a_model
abbrev Fg:=PySem.W.Frag
namespace L2
open PySem PySem.Spec PyProof.Rows
def ZJ (s:Stmt)(j:Nat):Stmt:=match s with
 | .ClassDef _ _ _ body _ _ _ _ _ _ _=>body.getD j (.Pass ⟨0,0,0,0⟩)
 | _=>.Pass ⟨0,0,0,0⟩
def WV (s:Stmt):Arguments:=match s with
 | .FunctionDef _ a _ _ _ _ _ _ _ _=>a
 | _=>{ posonlyargs:=[],args:=[],vararg:=none,kwonlyargs:=[],kw_defaults:=[],kwarg:=none,defaults:=[] }
def WE (s:Stmt):List Stmt:=match s with
 | .FunctionDef _ _ b _ _ _ _ _ _ _=>b
 | _=>[]
def Zo (s:Stmt):Scope:=match s with
 | .FunctionDef _ _ _ _ _ _ sc _ _ _=>sc
 | _=>{ kind:=.function,names:=[],isGenerator:=false,isCoroutine:=false }
end L2
namespace L3
open PySem PySem.W PyProof.Rows PySem.Calls
theorem KA {α β γ δ:Type}{f:α->Option β}{A:β->γ}{B:β->δ}{a:γ}{b:δ}(h1:(λx=>(f x).map A)=λ_=>some a)(h2:(λx=>(f x).map B)=λ_=>some b):(λx=>(f x).map λs=>(A s,B s))=λ_=>some (a,b):=by
 funext x;have e1:=congrFun h1 x
 have e2:=congrFun h2 x;cases h:f x with
 | none=>rw[h] at e1;cases e1
 | some s=>
  rw[h] at e1 e2;exact congrArg some (Prod.ext (Option.some.inj e1) (Option.some.inj e2))
def goT (tb:String->Option Builtin)(p:Program)(w:World)(n₀:Nat)(ann:Option Value):Nat->SharedT->Thread->Option SharedT
 | 0,_,_=>none
 | k+1,s,t=>bif through t then some s else bif stepOk n₀ ann t then (stepT (denote tb) p w s t).bind (λr=>goT tb p w n₀ ann k r.1 r.2) else none
theorem GS:∀ {n:Nat} {s s':SharedT} {t:Thread},goT tb p w n₀ ann n s t=some s'->topRun tb p w n₀ ann n s.abs t=some s'.abs
 | 0,_,_,_,q=>nomatch q
 | n+1,s,s',t,q=>by
  unfold goT at q;unfold topRun;cases c1:through t
  ·rw[c1] at q;cases c2:stepOk n₀ ann t
   ·rw[c2] at q;exact nomatch q
   ·rw[c2] at q;obtain⟨⟨s2,t2⟩,c3,q⟩:=Option.bind_eq_some_iff.mp q;rw[stepT_spec c3];exact GS q
  ·rw[c1] at q;cases q;rfl
def JA (os:Array Obj):Nat->Nat->Nat->BT
 | 0,_,_=>.nil
 | f+1,a,b=>match os[b]? with
  | some o=>.node o (JA os f (2*a) (a+b)) (JA os f (2*a) (2*a+b))
  | none=>.nil
noncomputable def bootT (P:Params):BT:=JA (boot_heap P).objs 6 1 0
noncomputable abbrev RX (w:World)(os:OsState):SharedT:=⟨bootT w.params,11,(boot_heap w.params).life,Array.mk [],boot_drawn,boot_toks,os⟩
def OV (s:SharedT)(a:Addr):Option Obj:=if a<s.n then (match s.tree.get a with|some o=>alive o|none=>s.abs.heap.get? a) else none
theorem D1 (s:SharedT)(a:Addr):s.abs.heap.get? a=OV s a:=by
 unfold OV;split
 ·rename_i h;cases e:s.tree.get a with
  | none=>rfl
  | some o=>exact abs_get h e
 ·rename_i h;exact abs_get_none h
theorem BW (l:List Addr)(s:SharedT):l.map s.abs.heap.get?=l.map (OV s):=List.map_congr_left λa _=>D1 s a
noncomputable abbrev seenT (p q:Program)(aK:List Str)(Xt:Shared->Bool){α:Type}(YT:SharedT->α)(g0:Bool)(w:World)(s:SharedT):=
 ((staticsOk (importedModules p.main.body) (boot_heap w.params) s.abs.heap&&namesBound p s.abs.heap&&gensDone s.abs&&laidKept (boot_heap w.params) s.abs.heap),openSeen q aK (importedModules p.main.body) Xt g0 s.abs,YT s)
noncomputable abbrev IZ (p:Program)(w:World)(s:SharedT):Bool:=staticsOk (importedModules p.main.body) (boot_heap w.params) s.abs.heap&&namesBound p s.abs.heap&&gensDone s.abs&&laidKept (boot_heap w.params) s.abs.heap
def goK (tb:String->Option Builtin)(p:Program)(w:World)(n₀:Nat)(ann:Option Value):Nat->SharedT->Thread->Option (SharedT×Thread)
 | 0,s,t=>some (s,t)
 | k+1,s,t=>bif through t then none else bif stepOk n₀ ann t then (stepT (denote tb) p w s t).bind (λr=>goK tb p w n₀ ann k r.1 r.2) else none
theorem FL:∀ {n:Nat} {s s':SharedT} {t t':Thread},goK tb p w n₀ ann n s t=some (s',t')->topGo tb p w n₀ ann n s.abs t=some (s'.abs,t')
 | 0,_,_,_,_,q=>by cases q;rfl
 | n+1,s,s',t,t',q=>by
  unfold goK at q;unfold topGo;cases c1:through t
  ·rw[c1] at q;cases c2:stepOk n₀ ann t
   ·rw[c2] at q;exact nomatch q
   ·rw[c2] at q;obtain⟨⟨s2,t2⟩,c3,q⟩:=Option.bind_eq_some_iff.mp q;rw[stepT_spec c3];exact FL q
  ·rw[c1] at q;exact nomatch q
theorem BH {p:Program}{w:World}{os:OsState}{ann:Option Value}{env:Env}{c:Code}{posa posb q:Pos}{n0 nb N2 N:Nat}{Sa Sb s':SharedT}(hc:c=Code.body (behindTheImports p) env)
  (pre:goK treeTable p w 11 ann n0 (RX w os) (topStub p)=some (Sa,⟨denote treeTable c,c,posa,[topFrame q]⟩))
  (block:segRunT treeTable p w 11 ann 1 nb Sa (blockOf (behindTheImports p) env c posa [topFrame q])=some (.next,Sb,c,posb))
  (e:n0+(nb+N2)=N)(r:topRun treeTable p w 11 ann N2 Sb.abs (restOf (behindTheImports p) env c posb [topFrame q])=some s'.abs):topRun treeTable p w 11 ann N (RX w os).abs (topStub p)=some s'.abs:=by
 subst e hc;exact go_top (FL pre) (piece_block (segRun_of block) r)
theorem D7 {p:Program}{w:World}{ann:Option Value}{env:Env}{c:Code}{pos1 aT q:Pos}{l:List Stmt}{n1 N2 m:Nat}{S1 S2 s':SharedT}
  (p1:segRunT treeTable p w 11 ann 1 n1 S1 (piecesOf (l.take m) env c pos1 [topFrame q])=some (.next,S2,c,aT))
  (r:topRun treeTable p w 11 ann N2 S2.abs (restOf (l.drop m) env c aT [topFrame q])=some s'.abs):topRun treeTable p w 11 ann (n1+N2) S1.abs (restOf l env c pos1 [topFrame q])=some s'.abs:=by
 have z:=piece_app (segRun_of p1) r;rw[List.take_append_drop] at z;exact z
theorem zaq {p q:Program}{aK:List Str}{Xt:Shared->Bool}{α:Type}{Yf:Shared->α}{YT:SharedT->α}{Ya:World->α}{N:Nat}{g0:Bool}{ann:Option Value}{go:World->OsState->Option SharedT}(hY:∀s:SharedT,Yf s.abs=YT s)(e:opening p=plainProg p.main.scope.names)(hN:Nat.ble 600 N=true)(f:∀s,fenceModules? p s=some s)
  (size:∀w:World,((boot_heap w.params).isNs mainGlobals&&(Array.mk []:Array GenState).size==0,(boot_heap w.params).objs.size,(boot_heap w.params).nsMap mainGlobals "__annotations__")=(true,11,ann))
  (hgo:∀w os s',go w os=some s'->topRun treeTable p w 11 ann N (RX w os).abs (topStub p)=some s'.abs)
  (run:∀w:World,(λos=>(go w os).map λs=>seenT p q aK Xt YT g0 w s)=λ_=>some (true,openGood q aK,Ya w)):LeftO p q aK Xt Yf Ya N g0:=λw=>by
 obtain⟨⟨h,gs,d,k,os⟩,e1,e'⟩:=zQ.mp (boot_open e hN f w);obtain⟨rfl,rfl,rfl,rfl⟩:h=boot_heap w.params/\gs=Array.mk []/\d=boot_drawn/\k=boot_toks:=by simpa using e'
 obtain⟨y1,y2,y3⟩:_/\_/\_:=by simpa only [Prod.mk.injEq] using size w
 obtain⟨s',r1,r2⟩:=zQ.mp (congrFun (run w) os);obtain⟨l1,l2,l3⟩:_/\_/\_:=by simpa only [Prod.mk.injEq] using r2
 have r:topRun treeTable p w 11 ann N ⟨boot_heap w.params,Array.mk [],boot_drawn,boot_toks,os⟩ (topStub p)=some s'.abs:=hgo w os s' r1
 have t:topFrom treeTable p w N ⟨boot_heap w.params,Array.mk [],boot_drawn,boot_toks,os⟩=some s'.abs:=by
  unfold topFrom;dsimp only;rw[y1,y2,y3,r];show (match staticsOk (importedModules p.main.body) (boot_heap w.params) s'.abs.heap&&namesBound p s'.abs.heap&&gensDone s'.abs&&laidKept (boot_heap w.params) s'.abs.heap with|true=>_|false=>_)=_;rw[l1]
 unfold openEnds;rw[e1];show Option.map _ (topFrom treeTable p w N _)=_;rw[t];exact congrArg some (Prod.ext l2 ((hY s').trans l3))
theorem zac {p q:Program}{aK:List Str}{Xt:Shared->Bool}{α:Type}{Yf:Shared->α}{YT:SharedT->α}{Ya:World->α}{N:Nat}{g0:Bool}{ann:Option Value}{go:World->OsState->Option SharedT}(hY:∀s:SharedT,Yf s.abs=YT s)(e:opening p=plainProg p.main.scope.names)(hN:Nat.ble 600 N=true)(f:∀s,fenceModules? p s=some s)
  (size:∀w:World,((boot_heap w.params).isNs mainGlobals&&(Array.mk []:Array GenState).size==0,(boot_heap w.params).objs.size,(boot_heap w.params).nsMap mainGlobals "__annotations__")=(true,11,ann))
  (hgo:∀w os s',go w os=some s'->topRun treeTable p w 11 ann N (RX w os).abs (topStub p)=some s'.abs)
  (ra:∀w:World,(λos=>(go w os).map λs=>(IZ p w s,(openSeen q aK (importedModules p.main.body) Xt g0 s.abs).1))=λ_=>some (true,(openGood q aK).1))
  (rb:∀w:World,(λos=>(go w os).map λs=>((openSeen q aK (importedModules p.main.body) Xt g0 s.abs).2.1,(openSeen q aK (importedModules p.main.body) Xt g0 s.abs).2.2.1))=λ_=>some ((openGood q aK).2.1,(openGood q aK).2.2.1))
  (rc:∀w:World,(λos=>(go w os).map λs=>(openSeen q aK (importedModules p.main.body) Xt g0 s.abs).2.2.2)=λ_=>some (openGood q aK).2.2.2)
  (objs:∀w:World,(λos=>(go w os).map YT)=λ_=>some (Ya w)):LeftO p q aK Xt Yf Ya N g0:=by
 refine zaq hY e hN f size hgo λw=>funext λos=>?_
 obtain⟨s1,a1,b1⟩:=zQ.mp (congrFun (ra w) os);obtain⟨s2,a2,b2⟩:=zQ.mp (congrFun (rb w) os);obtain⟨s3,a3,b3⟩:=zQ.mp (congrFun (rc w) os);obtain⟨s4,a4,b4⟩:=zQ.mp (congrFun (objs w) os);rw[a1] at a2 a3 a4;cases a2;cases a3;cases a4;obtain⟨l1,l2⟩:=Prod.mk.inj b1;obtain⟨l3,l4⟩:=Prod.mk.inj b2;have l5:openSeen q aK (importedModules p.main.body) Xt g0 s1.abs=openGood q aK:=Prod.ext l2 (Prod.ext l3 (Prod.ext l4 b3));rw[a1];show some (IZ p w s1,openSeen q aK (importedModules p.main.body) Xt g0 s1.abs,YT s1)=some (true,openGood q aK,Ya w);rw[l1,l5,b4]
def frc {α:Type}:BT->(BT->α)->α
 | .nil,k=>k .nil
 | .node o l r,k=>frc l λl'=>frc r λr'=>k (.node o l' r')
theorem JG:∀(t:BT)(k:BT->α),frc t k=k t
 | .nil,_=>rfl
 | .node o l r,k=>by
  show frc l (λl'=>frc r λr'=>k (.node o l' r'))=_;rw[JG l,JG r]
def odB:List Obj->List Obj
 | x::_::r=>x::odB r
 | l=>l
def evB:List Obj->List Obj
 | _::y::r=>y::evB r
 | _=>[]
def mkB:Nat->List Obj->BT
 | d+1,o::l=>.node o (mkB d (odB l)) (mkB d (evB l))
 | _,_=>.nil
abbrev tpO (l:List Value):Obj:=⟨.type "tuple",none,.seq ⟨l⟩ 0,#[]⟩
abbrev fdO (l:List Value):Obj:=⟨.none,none,.fields ⟨l⟩,#[]⟩
def nmO:Nat->List Str->List Value
 | _,[]=>[]
 | t,x::r=>.str x t::nmO (t+1) r
abbrev coO (n q:Str)(t j:Nat)(i k:Int)(a s:Nat)(y z:Value)(f:Nat):Obj:=⟨.type "code",none,.fields #[.str n t,.str q (t+1),.str "/claim/cut.py" (t+2),.int i 0,.int k 0,.int 0 0,.int 0 0,.int 3 0,.ref a,.bool Bool.true,.int 181 0,.ref s,.none,y,z,.ref f,.int j 0,.int i 0,.str "/claim/cut.py" (j+1)],#[]⟩
abbrev fuO (n q:Str)(st:Stmt)(m d:Value):Obj:=⟨.type "function",none,.func (PySem.W.fnOf n q (L2.WV st) (L2.WE st) (L2.Zo st) .none .none .none m none d .none),#[]⟩
abbrev fnO (n q:Str)(st:Stmt):Obj:=⟨.none,none,.func { PySem.W.fnOf n q (L2.WV st) (L2.WE st) (L2.Zo st) .none .none .none .none none .none .none with globals:=0 },#[]⟩
def df (n q:Str)(st:Stmt)(m:Value)(i k:Int)(a t:Nat)(vs:List Str):List Obj:=[tpO [],fdO [],tpO (nmO (t+3) vs),tpO [],fnO n q st,coO n q t (t+3+vs.length) i k a (a+1) (.ref (a+2)) (.ref (a+3)) (a+4),fuO n q st m (.ref (a+5))]
def dg (n q:Str)(st:Stmt)(m:Value)(i k:Int)(a t:Nat):List Obj:=[tpO [],fdO [],fnO n q st,coO n q t (t+3) i k a (a+1) .none .none (a+2),fuO n q st m (.ref (a+3))]
end L3
namespace Mine
open PySem PySem.Spec PyProof.Rows L2 L3
def top (i:Nat):Stmt:=QW.main.body.getD i (.Pass ⟨0,0,0,0⟩)
theorem ws_eq:PySem.W.OpenLaw.wellSaid PySem.Challenge.rw_boxnarrow_k68_whole_ones_by_a_model=true:=by
 unfold PySem.W.OpenLaw.wellSaid
 repeat' (with_reducible refine PySem.W.look_both ?_ ?_)
 all_goals decide +kernel
def vw:Program:={ QW with main:={ QW.main with body:=[top 0,top 2,top 3,top 5,top 6,top 8,top 9,top 10,top 11,top 12,top 13,top 14,top 15,top 16,top 17,top 19,top 20,top 21,top 22,top 23,top 24,top 25,top 26,top 27,top 29,top 30,top 32,top 33,top 34,top 35,top 36,top 37,top 38,top 39,top 40,top 41,top 43,top 45,top 46,top 47,top 48,top 49,top 50,top 51,top 52,top 53,top 54,top 55,top 56,top 57,top 58,top 59,top 61,top 62,top 63,top 64,top 65,top 66,top 67,top 68,top 69,top 70,top 71,top 72,top 73,top 74,top 75,top 76,top 77,top 78,top 79,top 80,top 81,top 82,top 83,top 84,top 85,top 86,top 87,top 88,top 89,top 90,top 91,top 92,top 93,top 94,top 95] } }
noncomputable abbrev de (P:Params)(s:Str)(t:Tok)(v:Value):DictEntry:=⟨PySem.PyData.keyHash P s,.str s t,v⟩
abbrev co (n q:Str)(a b c d:Tok)(i k:Int)(r s:Addr)(y z:Value)(t:Addr)(j:Int):Obj:=⟨.type "code",none,.fields #[.str n a,.str q b,.str "/claim/cut.py" c,.int i 0,.int k 0,.int 0 0,.int 0 0,.int 3 0,.ref r,.bool Bool.true,.int 181 0,.ref s,.none,y,z,.ref t,.int j 0,.int i 0,.str "/claim/cut.py" d],#[]⟩
abbrev fo (n q:Str)(st:Stmt)(m:Value)(c:Addr):Obj:=⟨.type "function",none,.func (PySem.W.fnOf n q (WV st) (WE st) (Zo st) .none .none .none m none (.ref c) .none),#[]⟩
abbrev q0:Str:="law_boxnarrow_k68_whole_ones_by_a_model"
abbrev q1:Str:="boxnarrow.kinds"
abbrev q2:Str:="__static_attributes__"
abbrev q3:Str:="__init__"
abbrev q4:Str:="slope_of_both"
abbrev q5:Str:="__firstlineno__"
abbrev q6:Str:="forth"
abbrev q7:Str:="_law_grid_here"
abbrev q8:Str:="slope"
abbrev q9:Str:="__module__"
abbrev q10:Str:="boxnarrow.spans"
abbrev q11:Str:="spans"
abbrev q12:Str:="_law_script"
abbrev q13:Str:="_law_cell_here"
abbrev q14:String:="object.__init_subclass__"
abbrev q15:String:="object.__new__"
abbrev q16:Str:="_law_other_length"
abbrev q17:Str:="sum_of_products"
abbrev q18:Str:="take_spans"
abbrev q19:Str:="Pair.__init__"
abbrev q20:Str:="box_of_middles"
abbrev q21:Str:="equation_places"
abbrev q22:Str:="leasts_are_sure"
abbrev q23:Str:="_law_any_system"
abbrev q24:Str:="add_spans"
abbrev q25:Str:="rounded_up"
abbrev q26:Str:="boxnarrow.looker"
abbrev q27:Str:="_law_product"
abbrev q28:Str:="mul_spans"
abbrev q29:Str:="_law_cell"
abbrev q30:Str:="_law_lowest"
abbrev q31:Str:="raise_span"
abbrev q32:Str:="__doc__"
abbrev q33:Str:="_law_claimed"
abbrev q34:Str:="all_as_long"
abbrev q35:Str:="right_for_all"
abbrev q36:Str:="is_whole_tree"
abbrev q37:Str:="_law_cofactor"
abbrev q38:Str:="scale_span"
abbrev q39:Str:="_law_nodes"
abbrev q40:Str:="_law_free"
abbrev q41:Str:="right_slopes"
abbrev q42:Str:="_law_raised"
abbrev q43:Str:="_law_inverse"
abbrev q44:Str:="_law_changed"
abbrev q45:Str:="all_inside"
abbrev q46:Str:="Pair.slope"
abbrev q47:String:="type.__prepare__"
abbrev q48:String:="object"
abbrev q49:Str:="boxnarrow.alone"
abbrev q50:Str:="right_spans"
abbrev q51:Str:="right_entry"
abbrev q52:Str:="_law_little"
abbrev q53:Str:="_law_factor"
abbrev q54:Str:="_law_system"
abbrev q55:Str:="_law_sloped"
abbrev q56:Str:="exact"
abbrev q57:Str:="_law_plus"
abbrev q58:Str:="_law_less"
abbrev q59:Str:="_law_box"
abbrev q60:Str:="right_near"
abbrev q61:Str:="right_book"
abbrev q62:Str:="_law_often"
abbrev q63:Str:="_law_forth"
abbrev q64:Str:="_law_slope"
abbrev q65:Str:="_law_shift"
abbrev q66:Str:="_law_right"
abbrev q67:Str:="second_left"
abbrev q68:Str:="_law_grow"
abbrev q69:Str:="_law_more"
abbrev q70:Str:="_law_wide"
abbrev q71:Str:="slants"
abbrev q72:Str:="Minus.slope_of_both"
abbrev q73:Str:="Times.slope_of_both"
abbrev q74:Str:="span_of"
abbrev q75:Str:="boxnarrow.errors"
abbrev q76:Str:="first_left"
abbrev q77:Str:="is_square"
abbrev q78:Str:="right_one"
abbrev q79:Str:="_law_grid"
abbrev q80:Str:="_law_room"
abbrev q81:Str:="_law_deep"
abbrev q82:Str:="_law_step"
abbrev q83:Str:="_law_turn"
abbrev q84:Str:="_law_near"
abbrev q85:Str:="Plus.slope_of_both"
abbrev q86:Str:="__qualname__"
abbrev q87:Str:="range"
abbrev q88:Str:="_law_rows"
abbrev q89:Str:="all_deep"
abbrev q90:Str:="parts_of"
abbrev q91:Str:="_law_any"
abbrev q92:Str:="_law_put"
abbrev q93:Str:="unknowns"
abbrev q94:Str:="raised"
abbrev q95:Str:="inside"
abbrev q96:Str:="middle"
abbrev q97:Str:="_law_k"
abbrev q98:Str:="kind_of"
abbrev q99:Str:="_law_at"
abbrev Uj:Str:="Unknown.__init__"
abbrev WT:Str:="_law_at_here"
abbrev Ws:Str:="_law_spans"
abbrev TC:String:="object.__setattr__"
abbrev VF:Str:="Number.__init__"
abbrev XC:Str:="middles"
abbrev XS:Str:="lacking"
abbrev XE:Str:="span_by"
abbrev XI:Str:="step_by"
abbrev V0:Str:="Power.__init__"
abbrev Xv:Str:="_law_a"
abbrev Ug:Str:="_law_near_here"
abbrev WN:Str:="_law_size"
abbrev Wy:Str:="_law_many"
abbrev WB:Str:="_law_made"
abbrev VV:Str:="Unknown.forth"
abbrev V6:Str:="Unknown.slope"
abbrev XG:Str:="picked"
abbrev V8:Str:="Number.forth"
abbrev VW:Str:="Number.slope"
abbrev Tv:Str:="_law_turn_here"
abbrev Ue:Str:="Minus.forth"
abbrev VQ:Str:="Times.forth"
abbrev VY:Str:="Power.forth"
abbrev V1:Str:="Power.slope"
abbrev VD:Str:="_law_node"
abbrev Uk:String:="ValueError"
abbrev MS:Str:="boxnarrow.fractions"
abbrev VS:Str:="Plus.forth"
abbrev XZ:Str:="other"
abbrev V3:Str:="_law_heavy"
abbrev X1:Str:="nodes"
abbrev Nc:String:="ValueError.__new__"
abbrev Te:Str:="__weakref__"
abbrev Tp:Str:="__setattr__"
abbrev Vn:Str:="Unknown"
abbrev W8:Str:="bottom"
abbrev Ud:Str:="BoxError"
abbrev V9:Str:="_law_row"
abbrev VU:Str:="_law_ats"
abbrev Vw:Str:="Number"
abbrev Mx:String:="BaseException"
abbrev q142:String:="getset_descriptor"
abbrev r (n:Addr):Value:=.ref n
abbrev sr (n:Addr):Option Value:=some (.ref n)
noncomputable abbrev dr (P:Params)(s:Str)(t:Tok)(n:Addr):DictEntry:=de P s t (.ref n)
noncomputable abbrev dn (P:Params)(s:Str)(t:Tok):DictEntry:=de P s t .none
abbrev dO (l:Array DictEntry)(n:Nat):Obj:=.mk (.type "dict") none (.dict l n) #[]
abbrev bO (s:String)(v:Value):Obj:=.mk (.type "builtin_function_or_method") none (.fields #[.builtin s,v]) #[]
abbrev cO (a:Str)(t1:Tok)(b:Str)(t2 t3:Tok)(l:Int)(x:Addr)(m:Int)(y:Addr)(k l2:Int)(t4:Tok):Obj:=.mk (.type "code") none (.fields #[.str a t1,.str b t2,.str "/claim/cut.py" t3,.int l 0,.int 0 0,.int 0 0,.int 0 0,.int 0 0,.ref x,.bool Bool.false,.int m 0,.ref y,.none,.none,.none,.none,.int k 0,.int l2 0,.str "/claim/cut.py" t4]) #[]
abbrev gO (a b c:Addr)(s:Value)(d:Addr):Obj:=.mk (.type "frame") none .plain #[some (.ref a),some (.ref b),some (.ref c),none,some s,none,some (.ref d)]
abbrev cp (n q:Str)(t:Tok)(i k:Int)(a:Addr)(j:Tok):Obj:=co n q t (t+1) (t+2) (j+1) i k a (a+1) (.ref (a+2)) (.ref (a+3)) (a+4) j
abbrev fp (n q:Str)(k:Nat)(m:Str)(t:Tok)(c:Addr):Obj:=fo n q (top k) (.str m t) c
abbrev fq (l:List (Int×Addr))(c:Int):Obj:=fdO (l.flatMap λx=>[.int x.1 0,.int c 0,.ref x.2])
abbrev tyO (nw:String)(n:Str)(bs ms:List Value)(d:Addr)(ss:List Value)(b:Addr)(t1 t2:Tok):Obj:=.mk (.type "type") none (.cls (PySem.ClassData.mk n bs ms d n Bool.true [] ss Bool.false none Bool.false)) #[some (.ref b),none,some (.str n t1),some (.str n t2),some (.builtin nw),some (.bool Bool.true)]
abbrev uO (a:Addr):Obj:=.mk (.type "super") none (.fields #[.ref a,.ref a,.ref a]) #[]
noncomputable def kp:Params->PySem.W.Frag:=λP=>
 (nat_lit 3,(dO #[(de P "__name__" 165 (.str q0 1039)),(dn P q32 166),(dn P "__package__" 167),(de P "__loader__" 168 (.builtin "__main__.__loader__#opaque")),(dn P "__spec__" 169),(dr P "__annotations__" 170 6),(dr P "__builtins__" 171 4),(de P "__file__" 173 (.str "/claim/cut.py" 172)),(dn P "__cached__" 174),(dr P "_wall" 193 21),(dr P Ud 213 31),(dr P "NoSpan" 229 44),(dr P q94 241 53),(dr P "less" 249 60),(dr P q25 259 67),(dr P q74 268 74),(dr P q24 276 81),(dr P q18 284 88),(dr P q28 294 95),(dr P q31 300 100),(dr P q38 308 107),(dr P q95 316 114),(dr P "deep" 324 121),(dr P q96 331 128),(dr P "Node" 353 138),(dr P Vw 421 187),(dr P Vn 481 232),(dr P "Pair" 524 263),(dr P "Plus" 593 310),(dr P "Minus" 662 357),(dr P "Times" 731 404),(dr P "Power" 793 449),(dr P q98 800 458),(dr P "bars" 810 465),(dr P "sure" 818 472),(dr P q21 826 477),(dr P XG 832 482),(dr P XC 838 487),(dr P q20 844 492),(dr P q17 856 499),(dr P XS 862 504),(dr P XE 868 509),(dr P XI 874 514),(dr P q22 880 519),(dr P q89 886 524),(dr P "with_span" 897 531),(dr P q45 905 536),(dr P q34 911 541),(dr P q77 919 548),(dr P q50 925 553),(dr P q41 931 558),(dr P q35 941 565),(dr P "right_out" 955 572),(dr P "right_full" 961 577),(dr P q60 975 584),(dr P q78 987 591),(dr P "right_cut" 1003 598),(dr P q90 1013 605),(dr P q36 1019 610),(dr P q51 1032 617),(dr P q61 1038 622),(dr P q40 1047 629),(dr P q29 1058 636),(dr P q91 1065 643),(dr P q30 1075 650),(dr P q52 1082 657),(dr P q92 1092 664),(dr P q68 1109 671),(dr P q79 1116 678),(dr P q62 1126 685),(dr P q57 1134 692),(dr P q58 1142 699),(dr P q27 1152 706),(dr P q42 1163 713),(dr P q63 1176 720),(dr P q53 1185 727),(dr P q64 1199 734),(dr P q99 1207 741),(dr P q65 1213 746),(dr P q23 1219 751),(dr P q54 1225 756),(dr P q80 1239 763),(dr P q81 1248 770),(dr P q69 1258 777),(dr P q70 1266 784),(dr P q33 1279 791),(dr P q55 1294 798),(dr P q37 1306 805),(dr P q43 1312 810),(dr P q82 1318 815),(dr P q83 1335 822),(dr P q44 1345 829),(dr P q84 1358 836),(dr P q16 1368 843),(dr P q66 1382 850),(dr P "law" 1388 855)] 96))::
 (nat_lit 30,(dO #[(de P q9 203 (.str q75 194)),(de P q5 207 (.int 5 206)),(dr P q2 208 29),(dr P Te 210 32),(dn P q32 211)] 3))::
 (nat_lit 31,(tyO Nc Ud [(.type Uk)] [(r 31),(.type Uk),(.type "Exception"),(.type Mx),(.type q48)] 30 [(r 44)] 22 196 204))::
 (nat_lit 43,(dO #[(de P q9 221 (.str q75 194)),(de P q5 225 (.int 7 224)),(dr P q2 226 42),(dn P q32 227)] 2))::
 (nat_lit 44,(tyO Nc "NoSpan" [(r 31)] [(r 44),(r 31),(.type Uk),(.type "Exception"),(.type Mx),(.type q48)] 43 [] 35 214 222))::
 (nat_lit 52,cp q94 q94 232 10 2 47 239)::
 (nat_lit 53,fp q94 q94 5 MS 230 52)::
 (nat_lit 59,cp "less" "less" 242 15 2 54 247)::
 (nat_lit 60,fp "less" "less" 6 MS 230 59)::
 (nat_lit 66,cp q25 q25 252 18 2 61 257)::
 (nat_lit 67,fp q25 q25 8 q10 250 66)::
 (nat_lit 73,cp q74 q74 260 20 3 68 266)::
 (nat_lit 74,fp q74 q74 9 q10 250 73)::
 (nat_lit 80,cp q24 q24 269 24 2 75 274)::
 (nat_lit 81,fp q24 q24 10 q10 250 80)::
 (nat_lit 87,cp q18 q18 277 26 2 82 282)::
 (nat_lit 88,fp q18 q18 11 q10 250 87)::
 (nat_lit 94,cp q28 q28 285 28 3 89 292)::
 (nat_lit 95,fp q28 q28 12 q10 250 94)::
 (nat_lit 99,co q31 q31 295 296 297 299 31 3 96 97 .none .none 98 298)::
 (nat_lit 100,fp q31 q31 13 q10 250 99)::
 (nat_lit 106,cp q38 q38 301 38 2 101 306)::
 (nat_lit 107,fp q38 q38 14 q10 250 106)::
 (nat_lit 113,cp q95 q95 309 40 2 108 314)::
 (nat_lit 114,fp q95 q95 15 q10 250 113)::
 (nat_lit 120,cp "deep" "deep" 317 42 2 115 322)::
 (nat_lit 121,fp "deep" "deep" 16 q10 250 120)::
 (nat_lit 127,cp q96 q96 325 44 1 122 329)::
 (nat_lit 128,fp q96 q96 17 q10 250 127)::
 (nat_lit 137,(dO #[(de P q9 341 (.str q1 332)),(de P q5 345 (.int 47 344)),(dr P q2 346 136),(dr P "__dict__" 348 139),(dr P Te 350 140),(dn P q32 351)] 4))::
 (nat_lit 138,(.mk (.type "type") none (.cls (PySem.ClassData.mk "Node" [(.type q48)] [(r 138),(.type q48)] 137 "Node" Bool.true [] [(r 187),(r 232),(r 263),(r 449)] Bool.false none Bool.false)) #[none,none,(some (.str "Node" 334)),(some (.str "Node" 342)),(some (.builtin q15)),(some (.bool Bool.true))]))::
 (nat_lit 155,cp q3 VF 366 51 3 150 372)::
 (nat_lit 156,fo q3 VF (ZJ (top 20) 0) (.str q1 332) 155)::
 (nat_lit 169,cp q6 V8 384 58 4 164 392)::
 (nat_lit 170,fo q6 V8 (ZJ (top 20) 2) (.str q1 332) 169)::
 (nat_lit 183,cp q8 VW 405 65 5 178 413)::
 (nat_lit 184,fo q8 VW (ZJ (top 20) 4) (.str q1 332) 183)::
 (nat_lit 186,(dO #[(de P q9 361 (.str q1 332)),(de P q5 365 (.int 49 364)),(dr P q3 374 156),(dr P q56 383 163),(dr P q6 394 170),(dr P "back" 404 177),(dr P q8 415 184),(dr P q2 418 185),(dn P q32 419)] 2))::
 (nat_lit 187,(tyO q15 Vw [(r 138)] [(r 187),(r 138),(.type q48)] 186 [] 143 354 362))::
 (nat_lit 202,cp q3 Uj 434 69 2 197 439)::
 (nat_lit 203,fo q3 Uj (ZJ (top 21) 0) (.str q1 332) 202)::
 (nat_lit 216,cp q6 VV 451 75 4 211 458)::
 (nat_lit 217,fo q6 VV (ZJ (top 21) 2) (.str q1 332) 216)::
 (nat_lit 228,co q8 V6 471 472 473 475 81 5 225 226 .none .none 227 474)::
 (nat_lit 229,fo q8 V6 (ZJ (top 21) 4) (.str q1 332) 228)::
 (nat_lit 231,(dO #[(de P q9 429 (.str q1 332)),(de P q5 433 (.int 67 432)),(dr P q3 441 203),(dr P q56 450 210),(dr P q6 460 217),(dr P "back" 470 224),(dr P q8 476 229),(dr P q2 478 230),(dn P q32 479)] 2))::
 (nat_lit 232,(tyO q15 Vn [(r 138)] [(r 232),(r 138),(.type q48)] 231 [] 190 422 430))::
 (nat_lit 247,cp q3 q19 494 85 3 242 500)::
 (nat_lit 248,fo q3 q19 (ZJ (top 22) 0) (.str q1 332) 247)::
 (nat_lit 259,co q8 q46 513 514 515 517 92 5 256 257 .none .none 258 516)::
 (nat_lit 260,fo q8 q46 (ZJ (top 22) 2) (.str q1 332) 259)::
 (nat_lit 262,(dO #[(de P q9 489 (.str q1 332)),(de P q5 493 (.int 83 492)),(dr P q3 502 248),(dr P "back" 512 255),(dr P q8 518 260),(dr P q2 521 261),(dn P q32 522)] 2))::
 (nat_lit 263,(tyO q15 "Pair" [(r 138)] [(r 263),(r 138),(.type q48)] 262 [(r 310),(r 357),(r 404)] 235 482 490))::
 (nat_lit 285,cp q6 VS 546 101 4 280 553)::
 (nat_lit 286,fo q6 VS (ZJ (top 23) 1) (.str q1 332) 285)::
 (nat_lit 306,cp q4 q85 578 110 6 301 587)::
 (nat_lit 307,fo q4 q85 (ZJ (top 23) 4) (.str q1 332) 306)::
 (nat_lit 309,(dO #[(de P q9 532 (.str q1 332)),(de P q5 536 (.int 96 535)),(dr P q56 545 279),(dr P q6 555 286),(dr P q76 566 293),(dr P q67 577 300),(dr P q4 589 307),(dr P q2 590 308),(dn P q32 591)] 2))::
 (nat_lit 310,(tyO q15 "Plus" [(r 263)] [(r 310),(r 263),(r 138),(.type q48)] 309 [] 266 525 533))::
 (nat_lit 332,cp q6 Ue 615 117 4 327 622)::
 (nat_lit 333,fo q6 Ue (ZJ (top 24) 1) (.str q1 332) 332)::
 (nat_lit 353,cp q4 q72 647 126 6 348 656)::
 (nat_lit 354,fo q4 q72 (ZJ (top 24) 4) (.str q1 332) 353)::
 (nat_lit 356,(dO #[(de P q9 601 (.str q1 332)),(de P q5 605 (.int 112 604)),(dr P q56 614 326),(dr P q6 624 333),(dr P q76 635 340),(dr P q67 646 347),(dr P q4 658 354),(dr P q2 659 355),(dn P q32 660)] 2))::
 (nat_lit 357,(tyO q15 "Minus" [(r 263)] [(r 357),(r 263),(r 138),(.type q48)] 356 [] 313 594 602))::
 (nat_lit 379,cp q6 VQ 684 133 4 374 691)::
 (nat_lit 380,fo q6 VQ (ZJ (top 25) 1) (.str q1 332) 379)::
 (nat_lit 400,cp q4 q73 716 142 6 395 725)::
 (nat_lit 401,fo q4 q73 (ZJ (top 25) 4) (.str q1 332) 400)::
 (nat_lit 403,(dO #[(de P q9 670 (.str q1 332)),(de P q5 674 (.int 128 673)),(dr P q56 683 373),(dr P q6 693 380),(dr P q76 704 387),(dr P q67 715 394),(dr P q4 727 401),(dr P q2 728 402),(dn P q32 729)] 2))::
 (nat_lit 404,(tyO q15 "Times" [(r 263)] [(r 404),(r 263),(r 138),(.type q48)] 403 [] 360 663 671))::
 (nat_lit 419,cp q3 V0 744 146 3 414 750)::
 (nat_lit 420,fo q3 V0 (ZJ (top 26) 0) (.str q1 332) 419)::
 (nat_lit 433,cp q6 VY 762 153 4 428 769)::
 (nat_lit 434,fo q6 VY (ZJ (top 26) 2) (.str q1 332) 433)::
 (nat_lit 445,co q8 V1 782 783 784 786 159 5 442 443 .none .none 444 785)::
 (nat_lit 446,fo q8 V1 (ZJ (top 26) 4) (.str q1 332) 445)::
 (nat_lit 448,(dO #[(de P q9 739 (.str q1 332)),(de P q5 743 (.int 144 742)),(dr P q3 752 420),(dr P q56 761 427),(dr P q6 771 434),(dr P "back" 781 441),(dr P q8 787 446),(dr P q2 790 447),(dn P q32 791)] 2))::
 (nat_lit 449,(tyO q15 "Power" [(r 138)] [(r 449),(r 138),(.type q48)] 448 [] 407 732 740))::
 (nat_lit 457,cp q98 q98 794 163 1 452 798)::
 (nat_lit 458,fp q98 q98 27 q1 332 457)::
 (nat_lit 471,cp "sure" "sure" 811 180 2 466 816)::
 (nat_lit 472,fp "sure" "sure" 30 "boxnarrow.worths" 801 471)::
 (nat_lit 476,co q21 q21 821 822 823 825 185 1 473 474 .none .none 475 824)::
 (nat_lit 477,fp q21 q21 32 q49 819 476)::
 (nat_lit 481,co XG XG 827 828 829 831 187 2 478 479 .none .none 480 830)::
 (nat_lit 482,fp XG XG 33 q49 819 481)::
 (nat_lit 486,co XC XC 833 834 835 837 189 1 483 484 .none .none 485 836)::
 (nat_lit 487,fp XC XC 34 q49 819 486)::
 (nat_lit 491,co q20 q20 839 840 841 843 191 1 488 489 .none .none 490 842)::
 (nat_lit 492,fp q20 q20 35 q49 819 491)::
 (nat_lit 498,cp q17 q17 845 193 3 493 854)::
 (nat_lit 499,fp q17 q17 36 q49 819 498)::
 (nat_lit 503,co XS XS 857 858 859 861 198 5 500 501 .none .none 502 860)::
 (nat_lit 504,fp XS XS 37 q49 819 503)::
 (nat_lit 508,co XE XE 863 864 865 867 202 6 505 506 .none .none 507 866)::
 (nat_lit 509,fp XE XE 38 q49 819 508)::
 (nat_lit 513,co XI XI 869 870 871 873 209 5 510 511 .none .none 512 872)::
 (nat_lit 514,fp XI XI 39 q49 819 513)::
 (nat_lit 518,co q22 q22 875 876 877 879 211 2 515 516 .none .none 517 878)::
 (nat_lit 519,fp q22 q22 40 q49 819 518)::
 (nat_lit 523,co q89 q89 881 882 883 885 213 2 520 521 .none .none 522 884)::
 (nat_lit 524,fp q89 q89 41 q49 819 523)::
 (nat_lit 535,co q45 q45 900 901 902 904 219 2 532 533 .none .none 534 903)::
 (nat_lit 536,fp q45 q45 45 q26 898 535)::
 (nat_lit 540,co q34 q34 906 907 908 910 221 2 537 538 .none .none 539 909)::
 (nat_lit 541,fp q34 q34 46 q26 898 540)::
 (nat_lit 547,cp q77 q77 912 223 2 542 917)::
 (nat_lit 548,fp q77 q77 47 q26 898 547)::
 (nat_lit 552,co q50 q50 920 921 922 924 225 4 549 550 .none .none 551 923)::
 (nat_lit 553,fp q50 q50 48 q26 898 552)::
 (nat_lit 557,co q41 q41 926 927 928 930 229 5 554 555 .none .none 556 929)::
 (nat_lit 558,fp q41 q41 49 q26 898 557)::
 (nat_lit 564,cp q35 q35 932 234 4 559 939)::
 (nat_lit 565,fp q35 q35 50 q26 898 564)::
 (nat_lit 583,cp q60 q60 962 246 4 578 973)::
 (nat_lit 584,fp q60 q60 53 q26 898 583)::
 (nat_lit 590,cp q78 q78 976 254 5 585 985)::
 (nat_lit 591,fp q78 q78 54 q26 898 590)::
 (nat_lit 604,cp q90 q90 1004 273 1 599 1011)::
 (nat_lit 605,fp q90 q90 56 q26 898 604)::
 (nat_lit 609,co q36 q36 1014 1015 1016 1018 281 2 606 607 .none .none 608 1017)::
 (nat_lit 610,fp q36 q36 57 q26 898 609)::
 (nat_lit 616,cp q51 q51 1020 285 5 611 1030)::
 (nat_lit 617,fp q51 q51 58 q26 898 616)::
 (nat_lit 621,co q61 q61 1033 1034 1035 1037 297 5 618 619 .none .none 620 1036)::
 (nat_lit 622,fp q61 q61 59 q26 898 621)::
 (nat_lit 628,cp q40 q40 1041 302 1 623 1045)::
 (nat_lit 629,fp q40 q40 61 q0 1039 628)::
 (nat_lit 635,cp q29 q29 1048 304 2 630 1056)::
 (nat_lit 636,fp q29 q29 62 q0 1039 635)::
 (nat_lit 642,cp q91 q91 1059 317 1 637 1063)::
 (nat_lit 643,fp q91 q91 63 q0 1039 642)::
 (nat_lit 649,cp q30 q30 1066 319 2 644 1073)::
 (nat_lit 650,fp q30 q30 64 q0 1039 649)::
 (nat_lit 656,cp q52 q52 1076 325 1 651 1080)::
 (nat_lit 657,fp q52 q52 65 q0 1039 656)::
 (nat_lit 663,cp q92 q92 1083 327 4 658 1090)::
 (nat_lit 664,fp q92 q92 66 q0 1039 663)::
 (nat_lit 670,cp q68 q68 1093 333 5 665 1107)::
 (nat_lit 671,fp q68 q68 67 q0 1039 670)::
 (nat_lit 677,cp q79 q79 1110 349 1 672 1114)::
 (nat_lit 678,fp q79 q79 68 q0 1039 677)::
 (nat_lit 684,cp q62 q62 1117 355 2 679 1124)::
 (nat_lit 685,fp q62 q62 69 q0 1039 684)::
 (nat_lit 691,cp q57 q57 1127 360 2 686 1132)::
 (nat_lit 692,fp q57 q57 70 q0 1039 691)::
 (nat_lit 698,cp q58 q58 1135 362 2 693 1140)::
 (nat_lit 699,fp q58 q58 71 q0 1039 698)::
 (nat_lit 705,cp q27 q27 1143 364 3 700 1150)::
 (nat_lit 706,fp q27 q27 72 q0 1039 705)::
 (nat_lit 712,cp q42 q42 1153 367 3 707 1161)::
 (nat_lit 713,fp q42 q42 73 q0 1039 712)::
 (nat_lit 719,cp q63 q63 1164 373 4 714 1174)::
 (nat_lit 720,fp q63 q63 74 q0 1039 719)::
 (nat_lit 726,cp q53 q53 1177 388 3 721 1183)::
 (nat_lit 727,fp q53 q53 75 q0 1039 726)::
 (nat_lit 733,cp q64 q64 1186 392 5 728 1197)::
 (nat_lit 734,fp q64 q64 76 q0 1039 733)::
 (nat_lit 740,cp q99 q99 1200 407 2 735 1205)::
 (nat_lit 741,fp q99 q99 77 q0 1039 740)::
 (nat_lit 745,co q65 q65 1208 1209 1210 1212 411 5 742 743 .none .none 744 1211)::
 (nat_lit 746,fp q65 q65 78 q0 1039 745)::
 (nat_lit 750,co q23 q23 1214 1215 1216 1218 416 3 747 748 .none .none 749 1217)::
 (nat_lit 751,fp q23 q23 79 q0 1039 750)::
 (nat_lit 755,co q54 q54 1220 1221 1222 1224 422 4 752 753 .none .none 754 1223)::
 (nat_lit 756,fp q54 q54 80 q0 1039 755)::
 (nat_lit 762,cp q80 q80 1226 443 3 757 1237)::
 (nat_lit 763,fp q80 q80 81 q0 1039 762)::
 (nat_lit 769,cp q81 q81 1240 456 2 764 1246)::
 (nat_lit 770,fp q81 q81 82 q0 1039 769)::
 (nat_lit 776,cp q69 q69 1249 461 3 771 1256)::
 (nat_lit 777,fp q69 q69 83 q0 1039 776)::
 (nat_lit 783,cp q70 q70 1259 471 2 778 1264)::
 (nat_lit 784,fp q70 q70 84 q0 1039 783)::
 (nat_lit 790,cp q33 q33 1267 473 5 785 1277)::
 (nat_lit 791,fp q33 q33 85 q0 1039 790)::
 (nat_lit 797,cp q55 q55 1280 478 5 792 1292)::
 (nat_lit 798,fp q55 q55 86 q0 1039 797)::
 (nat_lit 804,cp q37 q37 1295 486 3 799 1304)::
 (nat_lit 805,fp q37 q37 87 q0 1039 804)::
 (nat_lit 809,co q43 q43 1307 1308 1309 1311 491 3 806 807 .none .none 808 1310)::
 (nat_lit 810,fp q43 q43 88 q0 1039 809)::
 (nat_lit 814,co q82 q82 1313 1314 1315 1317 505 6 811 812 .none .none 813 1316)::
 (nat_lit 815,fp q82 q82 89 q0 1039 814)::
 (nat_lit 821,cp q83 q83 1319 519 5 816 1333)::
 (nat_lit 822,fp q83 q83 90 q0 1039 821)::
 (nat_lit 828,cp q44 q44 1336 533 4 823 1343)::
 (nat_lit 829,fp q44 q44 91 q0 1039 828)::
 (nat_lit 835,cp q84 q84 1346 540 2 830 1356)::
 (nat_lit 836,fp q84 q84 92 q0 1039 835)::
 (nat_lit 842,cp q16 q16 1359 555 2 837 1366)::
 (nat_lit 843,fp q16 q16 93 q0 1039 842)::
 (nat_lit 849,cp q66 q66 1369 559 5 844 1380)::
 (nat_lit 850,fp q66 q66 94 q0 1039 849)::
 (nat_lit 854,co "law" "law" 1383 1384 1385 1387 570 1 851 852 .none .none 853 1386)::
 (nat_lit 855,fp "law" "law" 95 q0 1039 854)::[]
def ks:List Addr:=nat_lit 3::nat_lit 30::nat_lit 31::nat_lit 43::nat_lit 44::nat_lit 52::nat_lit 53::nat_lit 59::nat_lit 60::nat_lit 66::nat_lit 67::nat_lit 73::nat_lit 74::nat_lit 80::nat_lit 81::nat_lit 87::nat_lit 88::nat_lit 94::nat_lit 95::nat_lit 99::nat_lit 100::nat_lit 106::nat_lit 107::nat_lit 113::nat_lit 114::nat_lit 120::nat_lit 121::nat_lit 127::nat_lit 128::nat_lit 137::nat_lit 138::nat_lit 155::nat_lit 156::nat_lit 169::nat_lit 170::nat_lit 183::nat_lit 184::nat_lit 186::nat_lit 187::nat_lit 202::nat_lit 203::nat_lit 216::nat_lit 217::nat_lit 228::nat_lit 229::nat_lit 231::nat_lit 232::nat_lit 247::nat_lit 248::nat_lit 259::nat_lit 260::nat_lit 262::nat_lit 263::nat_lit 285::nat_lit 286::nat_lit 306::nat_lit 307::nat_lit 309::nat_lit 310::nat_lit 332::nat_lit 333::nat_lit 353::nat_lit 354::nat_lit 356::nat_lit 357::nat_lit 379::nat_lit 380::nat_lit 400::nat_lit 401::nat_lit 403::nat_lit 404::nat_lit 419::nat_lit 420::nat_lit 433::nat_lit 434::nat_lit 445::nat_lit 446::nat_lit 448::nat_lit 449::nat_lit 457::nat_lit 458::nat_lit 471::nat_lit 472::nat_lit 476::nat_lit 477::nat_lit 481::nat_lit 482::nat_lit 486::nat_lit 487::nat_lit 491::nat_lit 492::nat_lit 498::nat_lit 499::nat_lit 503::nat_lit 504::nat_lit 508::nat_lit 509::nat_lit 513::nat_lit 514::nat_lit 518::nat_lit 519::nat_lit 523::nat_lit 524::nat_lit 535::nat_lit 536::nat_lit 540::nat_lit 541::nat_lit 547::nat_lit 548::nat_lit 552::nat_lit 553::nat_lit 557::nat_lit 558::nat_lit 564::nat_lit 565::nat_lit 583::nat_lit 584::nat_lit 590::nat_lit 591::nat_lit 604::nat_lit 605::nat_lit 609::nat_lit 610::nat_lit 616::nat_lit 617::nat_lit 621::nat_lit 622::nat_lit 628::nat_lit 629::nat_lit 635::nat_lit 636::nat_lit 642::nat_lit 643::nat_lit 649::nat_lit 650::nat_lit 656::nat_lit 657::nat_lit 663::nat_lit 664::nat_lit 670::nat_lit 671::nat_lit 677::nat_lit 678::nat_lit 684::nat_lit 685::nat_lit 691::nat_lit 692::nat_lit 698::nat_lit 699::nat_lit 705::nat_lit 706::nat_lit 712::nat_lit 713::nat_lit 719::nat_lit 720::nat_lit 726::nat_lit 727::nat_lit 733::nat_lit 734::nat_lit 740::nat_lit 741::nat_lit 745::nat_lit 746::nat_lit 750::nat_lit 751::nat_lit 755::nat_lit 756::nat_lit 762::nat_lit 763::nat_lit 769::nat_lit 770::nat_lit 776::nat_lit 777::nat_lit 783::nat_lit 784::nat_lit 790::nat_lit 791::nat_lit 797::nat_lit 798::nat_lit 804::nat_lit 805::nat_lit 809::nat_lit 810::nat_lit 814::nat_lit 815::nat_lit 821::nat_lit 822::nat_lit 828::nat_lit 829::nat_lit 835::nat_lit 836::nat_lit 842::nat_lit 843::nat_lit 849::nat_lit 850::nat_lit 854::nat_lit 855::[]
theorem US (P:Params):ks=(kp P).map (·.1):=by kernel_rfl
noncomputable abbrev hk:PySem.W.Hook:=PySem.W.kHook kp ks US
abbrev xt (s:Shared):Bool:=PySem.W.xlAt vw [] s&&PySem.W.recOk (PySem.W.RowW.records (PySem.W.OpenRow.toRowW (PySem.W.OpenLaw.row PySem.Challenge.rw_boxnarrow_k68_whole_ones_by_a_model))) s
theorem Kr:PySem.W.opening QW=PySem.W.plainProg QW.main.scope.names:=by kernel_rfl
theorem fe_eq (s:Shared):PySem.fenceModules? QW s=some s:=by kernel_rfl
theorem si_eq (w:World):((PySem.W.boot_heap w.params).isNs mainGlobals&&(Array.mk []:Array GenState).size==0,(PySem.W.boot_heap w.params).objs.size,(PySem.W.boot_heap w.params).nsMap mainGlobals "__annotations__")=(true,11,some (.ref 6)):=by kernel_rfl
open PySem.W PySem.Calls
def ev:Env:={ scope:=QW.main.scope,locals:=mainNs,globals:=mainNs,cells:=[],code:=.ref 13,frame:=some 14 }
abbrev bI:List Stmt:=behindTheImports QW
abbrev cE:Code:=Code.body bI ev
abbrev fT:List Frame:=[topFrame ⟨0,0,0,0⟩]
noncomputable abbrev mS (k:Nat)(l:Params->List Obj)(n t:Nat)(w:World)(os:OsState):SharedT:=⟨L3.mkB k (l w.params),n,(boot_heap w.params).life,Array.mk [],boot_drawn,t,os⟩
noncomputable def mO0 (P:Params):List Obj:=[boot_o_0 P,boot_o_1 P,boot_o_2 P,boot_o_3 P,boot_o_4 P,boot_o_5 P,boot_o_6 P,boot_o_7 P,boot_o_8 P,boot_o_9 P,boot_o_10 P]++[tpO [],fdO [],(cO "<module>" 182 "<module>" 183 184 1 11 181 12 185 1 186),(gO 13 3 3 (.str "__main__" 164) 0)]
noncomputable def S0:=mS 5 mO0 15 187
theorem AJ (w:World):(λos=>L3.goK treeTable QW w 11 (some (.ref 6)) 12 (L3.RX w os) (topStub QW))=λos=>some (S0 w os,⟨denote treeTable cE,cE,⟨0,0,0,0⟩,fT⟩):=by kernel_rfl
theorem De (w:World):(λos=>segRunT treeTable QW w 11 (some (.ref 6)) 1 1 (S0 w os) (blockOf bI ev cE ⟨0,0,0,0⟩ fT))=λos=>some (.next,S0 w os,cE,⟨0,0,0,0⟩):=by kernel_rfl
noncomputable def mO1 (P:Params):List Obj:=[boot_o_0 P,boot_o_1 P,boot_o_2 P,(dO #[(de P "__name__" 165 (.str q1 332)),(dn P q32 166),(dn P "__package__" 167),(de P "__loader__" 168 (.builtin "__main__.__loader__#opaque")),(dn P "__spec__" 169),(dr P "__annotations__" 170 6),(dr P "__builtins__" 171 4),(de P "__file__" 173 (.str "/claim/cut.py" 172)),(dn P "__cached__" 174),(dr P "_wall" 193 21),(dr P Ud 213 31),(dr P "NoSpan" 229 44),(dr P q94 241 53),(dr P "less" 249 60),(dr P q25 259 67),(dr P q74 268 74),(dr P q24 276 81),(dr P q18 284 88),(dr P q28 294 95),(dr P q31 300 100),(dr P q38 308 107),(dr P q95 316 114),(dr P "deep" 324 121),(dr P q96 331 128),(dr P "Node" 353 138),(dr P Vw 421 187),(dr P Vn 481 232),(dr P "Pair" 524 263),(dr P "Plus" 593 310),(dr P "Minus" 662 357),(dr P "Times" 731 404),(dr P "Power" 793 449)] 32),boot_o_4 P,boot_o_5 P,boot_o_6 P,boot_o_7 P,boot_o_8 P,boot_o_9 P,boot_o_10 P]++[tpO [],fq [(1,20),(5,27),(7,40),(10,52),(15,59),(18,66),(20,73),(24,80),(26,87),(28,94),(31,99),(38,106),(40,113),(42,120),(44,127),(47,134),(49,148),(67,195),(83,240),(96,271),(112,318),(128,365),(144,412)] 0,(cO "<module>" 182 "<module>" 183 184 1 11 181 12 185 1 186),(gO 13 3 3 (.str "__main__" 164) 0)]++
 df "_wall" "_wall" (top 0) (.str "__main__" 164) 1 1 15 187 ["k"]++
 [tpO [(.type Uk)],(bO q47 (.type "type")),(dO #[(de P q9 203 (.str q75 194)),(de P q86 205 (.str Ud 204)),(de P q5 207 (.int 5 206)),(dr P q2 208 29)] 4),tpO [],fdO [],(cO Ud 198 Ud 199 200 5 25 181 26 201 5 202),(gO 27 3 24 (.str q75 194) 0),tpO [],(dO #[(de P q9 203 (.str q75 194)),(de P q5 207 (.int 5 206)),(dr P q2 208 29),(dr P Te 210 32),(dn P q32 211)] 3),(tyO Nc Ud [(.type Uk)] [(r 31),(.type Uk),(.type "Exception"),(.type Mx),(.type q48)] 30 [(r 44)] 22 196 204),(.mk (.type q142) none (.fields #[(.str Te 209),(r 31),(.builtin "ExceptionGroup.__weakref__"),.none]) #[]),(uO 31),(bO q14 (r 31)),tpO [(r 31)],(bO q47 (.type "type")),(dO #[(de P q9 221 (.str q75 194)),(de P q86 223 (.str "NoSpan" 222)),(de P q5 225 (.int 7 224)),(dr P q2 226 42)] 4),tpO [],fdO [],(cO "NoSpan" 216 "NoSpan" 217 218 7 38 181 39 219 7 220),(gO 40 3 37 (.str q75 194) 0),tpO [],(dO #[(de P q9 221 (.str q75 194)),(de P q5 225 (.int 7 224)),(dr P q2 226 42),(dn P q32 227)] 2),(tyO Nc "NoSpan" [(r 31)] [(r 44),(r 31),(.type Uk),(.type "Exception"),(.type Mx),(.type q48)] 43 [] 35 214 222),(uO 44),(bO q14 (r 44))]++
 df q94 q94 (top 5) (.str MS 230) 10 2 47 232 ["number","many","worth","step"]++
 df "less" "less" (top 6) (.str MS 230) 15 2 54 242 ["a","b"]++
 df q25 q25 (top 8) (.str q10 250) 18 2 61 252 ["top",W8]++
 df q74 q74 (top 9) (.str q10 250) 20 3 68 260 ["low","high","grid"]++
 df q24 q24 (top 10) (.str q10 250) 24 2 75 269 ["a","b"]++
 df q18 q18 (top 11) (.str q10 250) 26 2 82 277 ["a","b"]++
 df q28 q28 (top 12) (.str q10 250) 28 3 89 285 ["a","b","grid","products"]++
 dg q31 q31 (top 13) (.str q10 250) 31 3 96 295++
 df q38 q38 (top 14) (.str q10 250) 38 2 101 301 ["a","many"]++
 df q95 q95 (top 15) (.str q10 250) 40 2 108 309 ["a","b"]++
 df "deep" "deep" (top 16) (.str q10 250) 42 2 115 317 ["a","b"]++
 df q96 q96 (top 17) (.str q10 250) 44 1 122 325 ["a"]++
 [tpO [],(bO q47 (.type "type")),(dO #[(de P q9 341 (.str q1 332)),(de P q86 343 (.str "Node" 342)),(de P q5 345 (.int 47 344)),(dr P q2 346 136)] 4),tpO [],fdO [],(cO "Node" 336 "Node" 337 338 47 132 181 133 339 47 340),(gO 134 3 131 (.str q1 332) 0),tpO [],(dO #[(de P q9 341 (.str q1 332)),(de P q5 345 (.int 47 344)),(dr P q2 346 136),(dr P "__dict__" 348 139),(dr P Te 350 140),(dn P q32 351)] 4),(.mk (.type "type") none (.cls (PySem.ClassData.mk "Node" [(.type q48)] [(r 138),(.type q48)] 137 "Node" Bool.true [] [(r 187),(r 232),(r 263),(r 449)] Bool.false none Bool.false)) #[none,none,(some (.str "Node" 334)),(some (.str "Node" 342)),(some (.builtin q15)),(some (.bool Bool.true))]),(.mk (.type q142) none (.fields #[(.str "__dict__" 347),(r 138),(.builtin "function.__dict__"),(.builtin "function.__dict__#set")]) #[]),(.mk (.type q142) none (.fields #[(.str Te 349),(r 138),(.builtin "ExceptionGroup.__weakref__"),.none]) #[]),(uO 138),(bO q14 (r 138)),tpO [(r 138)],(bO q47 (.type "type")),(dO #[(de P q9 361 (.str q1 332)),(de P q86 363 (.str Vw 362)),(de P q5 365 (.int 49 364)),(dr P q3 374 156),(dr P q56 383 163),(dr P q6 394 170),(dr P "back" 404 177),(dr P q8 415 184),(dr P q2 418 185)] 9),tpO [],fq [(51,155),(55,162),(58,169),(62,176),(65,183)] 4,(cO Vw 356 Vw 357 358 49 146 181 147 359 49 360),(gO 148 3 145 (.str q1 332) 0)]++
 df q3 VF (ZJ (top 20) 0) (.str q1 332) 51 3 150 366 ["self","top",W8]++
 df q56 "Number.exact" (ZJ (top 20) 1) (.str q1 332) 55 3 157 375 ["self","worths","point"]++
 df q6 V8 (ZJ (top 20) 2) (.str q1 332) 58 4 164 384 ["self",q11,"box","grid","number"]++
 df "back" "Number.back" (ZJ (top 20) 3) (.str q1 332) 62 4 171 395 ["self",q11,"here","grid"]++
 df q8 VW (ZJ (top 20) 4) (.str q1 332) 65 5 178 405 ["self",q11,q71,q93,"grid"]++
 [tpO [(.str W8 416),(.str "top" 417)],(dO #[(de P q9 361 (.str q1 332)),(de P q5 365 (.int 49 364)),(dr P q3 374 156),(dr P q56 383 163),(dr P q6 394 170),(dr P "back" 404 177),(dr P q8 415 184),(dr P q2 418 185),(dn P q32 419)] 2),(tyO q15 Vw [(r 138)] [(r 187),(r 138),(.type q48)] 186 [] 143 354 362),(uO 187),(bO q14 (r 187)),tpO [(r 138)],(bO q47 (.type "type")),(dO #[(de P q9 429 (.str q1 332)),(de P q86 431 (.str Vn 430)),(de P q5 433 (.int 67 432)),(dr P q3 441 203),(dr P q56 450 210),(dr P q6 460 217),(dr P "back" 470 224),(dr P q8 476 229),(dr P q2 478 230)] 9),tpO [],fq [(69,202),(72,209),(75,216),(78,223),(81,228)] 4,(cO Vn 424 Vn 425 426 67 193 181 194 427 67 428),(gO 195 3 192 (.str q1 332) 0)]++
 df q3 Uj (ZJ (top 21) 0) (.str q1 332) 69 2 197 434 ["self","place"]++
 df q56 "Unknown.exact" (ZJ (top 21) 1) (.str q1 332) 72 3 204 442 ["self","worths","point"]++
 df q6 VV (ZJ (top 21) 2) (.str q1 332) 75 4 211 451 ["self",q11,"box","grid"]++
 df "back" "Unknown.back" (ZJ (top 21) 3) (.str q1 332) 78 4 218 461 ["self",q11,"here","grid"]++
 dg q8 V6 (ZJ (top 21) 4) (.str q1 332) 81 5 225 471++
 [tpO [(.str "place" 477)],(dO #[(de P q9 429 (.str q1 332)),(de P q5 433 (.int 67 432)),(dr P q3 441 203),(dr P q56 450 210),(dr P q6 460 217),(dr P "back" 470 224),(dr P q8 476 229),(dr P q2 478 230),(dn P q32 479)] 2),(tyO q15 Vn [(r 138)] [(r 232),(r 138),(.type q48)] 231 [] 190 422 430),(uO 232),(bO q14 (r 232)),tpO [(r 138)],(bO q47 (.type "type")),(dO #[(de P q9 489 (.str q1 332)),(de P q86 491 (.str "Pair" 490)),(de P q5 493 (.int 83 492)),(dr P q3 502 248),(dr P "back" 512 255),(dr P q8 518 260),(dr P q2 521 261)] 7),tpO [],fq [(85,247),(89,254),(92,259)] 4,(cO "Pair" 484 "Pair" 485 486 83 238 181 239 487 83 488),(gO 240 3 237 (.str q1 332) 0)]++
 df q3 q19 (ZJ (top 22) 0) (.str q1 332) 85 3 242 494 ["self","one",XZ]++
 df "back" "Pair.back" (ZJ (top 22) 1) (.str q1 332) 89 4 249 503 ["self",q11,"here","grid"]++
 dg q8 q46 (ZJ (top 22) 2) (.str q1 332) 92 5 256 513++
 [tpO [(.str "one" 519),(.str XZ 520)],(dO #[(de P q9 489 (.str q1 332)),(de P q5 493 (.int 83 492)),(dr P q3 502 248),(dr P "back" 512 255),(dr P q8 518 260),(dr P q2 521 261),(dn P q32 522)] 2),(tyO q15 "Pair" [(r 138)] [(r 263),(r 138),(.type q48)] 262 [(r 310),(r 357),(r 404)] 235 482 490),(uO 263),(bO q14 (r 263)),tpO [(r 263)],(bO q47 (.type "type")),(dO #[(de P q9 532 (.str q1 332)),(de P q86 534 (.str "Plus" 533)),(de P q5 536 (.int 96 535)),(dr P q56 545 279),(dr P q6 555 286),(dr P q76 566 293),(dr P q67 577 300),(dr P q4 589 307),(dr P q2 590 308)] 9),tpO [],fq [(98,278),(101,285),(104,292),(107,299),(110,306)] 4,(cO "Plus" 527 "Plus" 528 529 96 269 181 270 530 96 531),(gO 271 3 268 (.str q1 332) 0)]++
 df q56 "Plus.exact" (ZJ (top 23) 0) (.str q1 332) 98 3 273 537 ["self","worths","point"]++
 df q6 VS (ZJ (top 23) 1) (.str q1 332) 101 4 280 546 ["self",q11,"box","grid"]++
 df q76 "Plus.first_left" (ZJ (top 23) 2) (.str q1 332) 104 5 287 556 ["self","here","x","y","grid"]++
 df q67 "Plus.second_left" (ZJ (top 23) 3) (.str q1 332) 107 5 294 567 ["self","here","x","y","grid"]++
 df q4 q85 (ZJ (top 23) 4) (.str q1 332) 110 6 301 578 ["self","x","y","a","b","grid"]++
 [tpO [],(dO #[(de P q9 532 (.str q1 332)),(de P q5 536 (.int 96 535)),(dr P q56 545 279),(dr P q6 555 286),(dr P q76 566 293),(dr P q67 577 300),(dr P q4 589 307),(dr P q2 590 308),(dn P q32 591)] 2),(tyO q15 "Plus" [(r 263)] [(r 310),(r 263),(r 138),(.type q48)] 309 [] 266 525 533),(uO 310),(bO q14 (r 310)),tpO [(r 263)],(bO q47 (.type "type")),(dO #[(de P q9 601 (.str q1 332)),(de P q86 603 (.str "Minus" 602)),(de P q5 605 (.int 112 604)),(dr P q56 614 326),(dr P q6 624 333),(dr P q76 635 340),(dr P q67 646 347),(dr P q4 658 354),(dr P q2 659 355)] 9),tpO [],fq [(114,325),(117,332),(120,339),(123,346),(126,353)] 4,(cO "Minus" 596 "Minus" 597 598 112 316 181 317 599 112 600),(gO 318 3 315 (.str q1 332) 0)]++
 df q56 "Minus.exact" (ZJ (top 24) 0) (.str q1 332) 114 3 320 606 ["self","worths","point"]++
 df q6 Ue (ZJ (top 24) 1) (.str q1 332) 117 4 327 615 ["self",q11,"box","grid"]++
 df q76 "Minus.first_left" (ZJ (top 24) 2) (.str q1 332) 120 5 334 625 ["self","here","x","y","grid"]++
 df q67 "Minus.second_left" (ZJ (top 24) 3) (.str q1 332) 123 5 341 636 ["self","here","x","y","grid"]++
 df q4 q72 (ZJ (top 24) 4) (.str q1 332) 126 6 348 647 ["self","x","y","a","b","grid"]++
 [tpO [],(dO #[(de P q9 601 (.str q1 332)),(de P q5 605 (.int 112 604)),(dr P q56 614 326),(dr P q6 624 333),(dr P q76 635 340),(dr P q67 646 347),(dr P q4 658 354),(dr P q2 659 355),(dn P q32 660)] 2),(tyO q15 "Minus" [(r 263)] [(r 357),(r 263),(r 138),(.type q48)] 356 [] 313 594 602),(uO 357),(bO q14 (r 357)),tpO [(r 263)],(bO q47 (.type "type")),(dO #[(de P q9 670 (.str q1 332)),(de P q86 672 (.str "Times" 671)),(de P q5 674 (.int 128 673)),(dr P q56 683 373),(dr P q6 693 380),(dr P q76 704 387),(dr P q67 715 394),(dr P q4 727 401),(dr P q2 728 402)] 9),tpO [],fq [(130,372),(133,379),(136,386),(139,393),(142,400)] 4,(cO "Times" 665 "Times" 666 667 128 363 181 364 668 128 669),(gO 365 3 362 (.str q1 332) 0)]++
 df q56 "Times.exact" (ZJ (top 25) 0) (.str q1 332) 130 3 367 675 ["self","worths","point"]++
 df q6 VQ (ZJ (top 25) 1) (.str q1 332) 133 4 374 684 ["self",q11,"box","grid"]++
 df q76 "Times.first_left" (ZJ (top 25) 2) (.str q1 332) 136 5 381 694 ["self","here","x","y","grid"]++
 df q67 "Times.second_left" (ZJ (top 25) 3) (.str q1 332) 139 5 388 705 ["self","here","x","y","grid"]++
 df q4 q73 (ZJ (top 25) 4) (.str q1 332) 142 6 395 716 ["self","x","y","a","b","grid"]++
 [tpO [],(dO #[(de P q9 670 (.str q1 332)),(de P q5 674 (.int 128 673)),(dr P q56 683 373),(dr P q6 693 380),(dr P q76 704 387),(dr P q67 715 394),(dr P q4 727 401),(dr P q2 728 402),(dn P q32 729)] 2),(tyO q15 "Times" [(r 263)] [(r 404),(r 263),(r 138),(.type q48)] 403 [] 360 663 671),(uO 404),(bO q14 (r 404)),tpO [(r 138)],(bO q47 (.type "type")),(dO #[(de P q9 739 (.str q1 332)),(de P q86 741 (.str "Power" 740)),(de P q5 743 (.int 144 742)),(dr P q3 752 420),(dr P q56 761 427),(dr P q6 771 434),(dr P "back" 781 441),(dr P q8 787 446),(dr P q2 790 447)] 9),tpO [],fq [(146,419),(150,426),(153,433),(156,440),(159,445)] 4,(cO "Power" 734 "Power" 735 736 144 410 181 411 737 144 738),(gO 412 3 409 (.str q1 332) 0)]++
 df q3 V0 (ZJ (top 26) 0) (.str q1 332) 146 3 414 744 ["self","one","many"]++
 df q56 "Power.exact" (ZJ (top 26) 1) (.str q1 332) 150 3 421 753 ["self","worths","point"]++
 df q6 VY (ZJ (top 26) 2) (.str q1 332) 153 4 428 762 ["self",q11,"box","grid"]++
 df "back" "Power.back" (ZJ (top 26) 3) (.str q1 332) 156 4 435 772 ["self",q11,"here","grid"]++
 dg q8 V1 (ZJ (top 26) 4) (.str q1 332) 159 5 442 782++
 [tpO [(.str "many" 788),(.str "one" 789)],(dO #[(de P q9 739 (.str q1 332)),(de P q5 743 (.int 144 742)),(dr P q3 752 420),(dr P q56 761 427),(dr P q6 771 434),(dr P "back" 781 441),(dr P q8 787 446),(dr P q2 790 447),(dn P q32 791)] 2),(tyO q15 "Power" [(r 138)] [(r 449),(r 138),(.type q48)] 448 [] 407 732 740),(uO 449),(bO q14 (r 449))]
noncomputable def S1:=mS 12 mO1 452 794
theorem p1_eq (w:World):(λos=>segRunT treeTable QW w 11 (some (.ref 6)) 1 3655 (S0 w os) (piecesOf (bI.take 27) ev cE ⟨0,0,0,0⟩ fT))=λos=>some (.next,S1 w os,cE,⟨144,0,162,68⟩):=by kernel_rfl
theorem zcQ (w:World):(λos=>(L3.frc (L3.mkB 12 (mO1 w.params)) λT=>L3.goT treeTable QW w 11 (some (.ref 6)) 4114 ⟨T,452,(boot_heap w.params).life,Array.mk [],boot_drawn,794,os⟩ (restOf (bI.drop 27) ev cE ⟨144,0,162,68⟩ fT)).map λs=>(L3.IZ QW w s))=λ_=>some (true):=by kernel_rfl
theorem zcS (w:World):(λos=>(L3.frc (L3.mkB 12 (mO1 w.params)) λT=>L3.goT treeTable QW w 11 (some (.ref 6)) 4114 ⟨T,452,(boot_heap w.params).life,Array.mk [],boot_drawn,794,os⟩ (restOf (bI.drop 27) ev cE ⟨144,0,162,68⟩ fT)).map λs=>(seen ((recsOf vw).map (·.name)) (ownsOf vw) [] { s.abs with gens:=#[] }))=λ_=>some (expectedOf vw):=by kernel_rfl
theorem zcI (w:World):(λos=>(L3.frc (L3.mkB 12 (mO1 w.params)) λT=>L3.goT treeTable QW w 11 (some (.ref 6)) 4114 ⟨T,452,(boot_heap w.params).life,Array.mk [],boot_drawn,794,os⟩ (restOf (bI.drop 27) ev cE ⟨144,0,162,68⟩ fT)).map λs=>(s.abs.heap.bltView))=λ_=>some (bltViewBooted):=by kernel_rfl
theorem zcj (w:World):(λos=>(L3.frc (L3.mkB 12 (mO1 w.params)) λT=>L3.goT treeTable QW w 11 (some (.ref 6)) 4114 ⟨T,452,(boot_heap w.params).life,Array.mk [],boot_drawn,794,os⟩ (restOf (bI.drop 27) ev cE ⟨144,0,162,68⟩ fT)).map λs=>(s.abs.heap.keysOk (looseW vw []) ((recsOf vw).map (·.name)) ((litsOf vw).map (·.1)) ((clssOf vw (looseW vw [])).map (·.name))&&s.abs.heap.accountedOkI (importedModules QW.main.body)&&s.abs.heap.isNs mainGlobals&&s.abs.heap.isNs builtinsNs&&tablesOk vw s.abs.heap&&xt s.abs&&(if true then s.abs.gens.size==0 else !leftWithCleanup s.abs.gens)))=λ_=>some (true):=by kernel_rfl
theorem zaJ (w:World):(λos=>(L3.frc (L3.mkB 12 (mO1 w.params)) λT=>L3.goT treeTable QW w 11 (some (.ref 6)) 4114 ⟨T,452,(boot_heap w.params).life,Array.mk [],boot_drawn,794,os⟩ (restOf (bI.drop 27) ev cE ⟨144,0,162,68⟩ fT)).map λs=>(tabsOk vw s.abs))=λ_=>some (true):=by kernel_rfl
theorem BG (w:World):(λos=>(L3.frc (L3.mkB 12 (mO1 w.params)) λT=>L3.goT treeTable QW w 11 (some (.ref 6)) 4114 ⟨T,452,(boot_heap w.params).life,Array.mk [],boot_drawn,794,os⟩ (restOf (bI.drop 27) ev cE ⟨144,0,162,68⟩ fT)).map λs=>(pinSeenD vw (drecsOf vw) s.abs,plainSeenE vw (looseW vw []) s.abs,plainSeenD vw [] s.abs,wideSeen vw s.abs,clsSeenW vw [] s.abs))=λ_=>some (pinGoodD (drecsOf vw),plainGoodE vw (looseW vw []),plainGoodD vw [],wideGood vw,clsGoodW vw []):=by kernel_rfl
theorem ob_eq (w:World):(λos=>(L3.frc (L3.mkB 12 (mO1 w.params)) λT=>L3.goT treeTable QW w 11 (some (.ref 6)) 4114 ⟨T,452,(boot_heap w.params).life,Array.mk [],boot_drawn,794,os⟩ (restOf (bI.drop 27) ev cE ⟨144,0,162,68⟩ fT)).map λs=>ks.map (L3.OV s))=λ_=>some (hk.val w):=by kernel_rfl
theorem left:LeftO QW vw [] xt hk.obs hk.val 7782:=L3.zac (L3.BW ks) Kr (by decide) fe_eq si_eq (λw os _ r=>L3.BH rfl (congrFun (AJ w) os) (congrFun (De w) os) (by decide) (L3.D7 (congrFun (p1_eq w) os) (L3.GS ((L3.JG _ _).symm.trans r)))) (λw=>L3.KA (zcQ w) (zcS w)) (λw=>L3.KA (zcI w) (zcj w)) (λw=>L3.KA (zaJ w) (BG w)) ob_eq
end Mine
set_option Elab.async false
set_option linter.all false
set_option maxRecDepth 100000
namespace L2
open PySem PySem.Spec PyProof.Rows
abbrev Key:=Sum Int Str
def Gb:Key->Value->Bool
 | .inl k,v=>Value.isInt k v
 | .inr x,v=>Value.isStrOf x v
def keyH (w:World):Key->Int
 | .inl k=>hashInt k
 | .inr x=>hashStr w x
theorem Va:∀ {k:Key} {v:Value},Gb k v=true->(∃i t,k=Sum.inl i/\v=Value.int i t)\/(∃x t,k=Sum.inr x/\v=Value.str x t)
 | .inl i,v,h=>by
  obtain⟨t,e⟩:=Value.isInt_shape (k:=i) (v:=v) h;exact .inl ⟨i,t,rfl,e⟩
 | .inr x,v,h=>by
  obtain⟨t,e⟩:=Value.isStrOf_shape (x:=x) (v:=v) h;exact .inr ⟨x,t,rfl,e⟩
theorem zaO (a b:Int):decide ((Sum.inl a:Key)=Sum.inl b)=(a==b):=by
 by_cases e:a=b
 ·subst e;simp
 ·have h:¬ (Sum.inl a:Key)=Sum.inl b:=λq=>e (Sum.inl.inj q)
  rw[decide_eq_false h];exact(beq_eq_false_iff_ne.mpr e).symm
theorem zck (a b:Str):decide ((Sum.inr a:Key)=Sum.inr b)=decide (a=b):=by
 by_cases e:a=b
 ·subst e;simp
 ·have h:¬ (Sum.inr a:Key)=Sum.inr b:=λq=>e (Sum.inr.inj q)
  rw[decide_eq_false h,decide_eq_false e]
theorem zcs (a:Int)(b:Str):decide ((Sum.inl a:Key)=Sum.inr b)=false:=decide_eq_false (λq=>nomatch q)
theorem zbM (a:Str)(b:Int):decide ((Sum.inr a:Key)=Sum.inl b)=false:=decide_eq_false (λq=>nomatch q)
def GN (prog:Program)(w:World):PySem.KeyKind prog w Key where
 is:=Gb
 hash:=keyH w
 inj:=λv a b ha hb=>by
  rcases Va ha with ⟨i,t,rfl,rfl⟩|⟨x,t,rfl,rfl⟩
  ·rcases Va hb with ⟨j,u,rfl,e⟩|⟨y,u,rfl,e⟩
   ·injection e with e1 _;rw[e1]
   ·exact nomatch e
  ·rcases Va hb with ⟨j,u,rfl,e⟩|⟨y,u,rfl,e⟩
   ·exact nomatch e
   ·injection e with e1 _;rw[e1]
 byValue:=λk v h=>by
  rcases Va h with ⟨i,t,rfl,rfl⟩|⟨x,t,rfl,rfl⟩<;>rfl
 pyHash:=λhv h=>by
  rcases Va hv with ⟨i,t,rfl,rfl⟩|⟨x,t,rfl,rfl⟩
  ·exact wpAny_pyHash_int h
  ·exact wpAny_pyHash_str h
 eqBool:=λhu hv h=>by
  rcases Va hu with ⟨i,t,rfl,rfl⟩|⟨x,t,rfl,rfl⟩
  ·rcases Va hv with ⟨j,u,rfl,rfl⟩|⟨y,u,rfl,rfl⟩
   ·rw[zaO] at h;exact wpAny_eqBool_int h
   ·rw[zcs] at h;exact SeqAt.EqAt.int_str i t y u _ _ _ _ h
  ·rcases Va hv with ⟨j,u,rfl,rfl⟩|⟨y,u,rfl,rfl⟩
   ·rw[zbM] at h;exact SeqAt.EqAt.str_int x t j u _ _ _ _ h
   ·rw[zck] at h;exact wpAny_eqBool_str h
 «strs»:=λk x t v h=>by
  rcases Va h with ⟨i,u,rfl,e⟩|⟨y,u,rfl,e⟩
  ·exact nomatch e
  ·injection e with e1 _
   subst e1;cases v<;>rfl
end L2
namespace L2
open PySem PySem.Spec PyProof.Rows
inductive V where
 | non|bl (b:Bool)|int (i:Int)|str (x:Str)|byt (b:Array UInt8)|flt (b:UInt64)|ref (a:Addr)|ty (n:String)
 deriving DecidableEq
def ZG:V->Value->Prop
 | .non,u=>u=Value.none
 | .bl b,u=>u=Value.bool b
 | .int i,u=>∃t,u=Value.int i t
 | .str x,u=>∃t,u=Value.str x t
 | .byt b,u=>∃t,u=Value.bytes b t
 | .flt b,u=>∃t,u=Value.float b t
 | .ref a,u=>u=Value.ref a
 | .ty n,u=>u=Value.type n
abbrev ZF:List V->List Value->Prop:=Paired ZG
theorem ZF.length {xs:List V}{us:List Value}(r:ZF xs us):xs.length=us.length:=Paired.length r
theorem ZF.get:∀ {xs:List V} {us:List Value} {i:Nat} {x:V},ZF xs us->xs[i]?=some x->∃u,us[i]?=some u/\ZG x u
 | _,_,_,_,.nil,e=>by simp at e
 | _,_,0,_,.cons r _,e=>by simp at e;subst e;exact⟨_,rfl,r⟩
 | _,_,i+1,x,.cons _ t,e=>by
  obtain⟨u,h1,h2⟩:=ZF.get (i:=i) (x:=x) t (by simpa using e);exact⟨u,by simpa using h1,h2⟩
theorem ZF.set {x:V}{u:Value}(r:ZG x u):∀ {xs:List V} {us:List Value} (i:Nat),ZF xs us->ZF (xs.set i x) (us.set i u)
 | _,_,_,.nil=>.nil
 | _,_,0,.cons _ t=>.cons r t
 | _,_,i+1,.cons q t=>.cons q (ZF.set r i t)
theorem ZF.append:∀ {xs ys:List V} {us ws:List Value},ZF xs us->ZF ys ws->ZF (xs++ys) (us++ws)
 | _,_,_,_,.nil,s=>s
 | _,_,_,_,.cons r t,s=>.cons r (ZF.append t s)
theorem ZF.take:∀ {xs:List V} {us:List Value} (n:Nat),ZF xs us->ZF (xs.take n) (us.take n)
 | _,_,0,_=>.nil
 | _,_,_+1,.nil=>.nil
 | _,_,n+1,.cons r t=>.cons r (ZF.take n t)
theorem ZF.drop:∀ {xs:List V} {us:List Value} (n:Nat),ZF xs us->ZF (xs.drop n) (us.drop n)
 | _,_,0,r=>r
 | _,_,_+1,.nil=>.nil
 | _,_,n+1,.cons _ t=>ZF.drop n t
def WH:Option V->Option Value->Prop
 | some v,some u=>ZG v u
 | none,none=>True
 | _,_=>False
def KV {κ:Type}:List (κ×V)->List (κ×Value)->Prop:=Paired λ(p:κ×V)(q:κ×Value)=>p.1=q.1/\ZG p.2 q.2
def kV:Key->V
 | .inl i=>.int i
 | .inr x=>.str x
inductive HO where
  | lst (xs:List V)
  | tup (xs:List V)
  | dK (aZ:List (Key×V))|dT (aZ:List (List Key×V))
  | set (S:Int->Bool) (n:Nat)
  | ins (C dx:Addr) (fs:List (Str×V))
  | own (x:Addr)
  | xd (fs:List (Str×V))
  | met (f x:Addr)
  | rng (lo hi:Int)
  | frz (o:Obj) (u:HO)
  | tbl (ps:Array Value)
  | ext (φ:Heap->Prop)
abbrev Hp:=Addr->Option HO
def upd (H:Hp)(a:Addr)(o:HO):Hp:=λb=>if b=a then some o else H b
theorem Xs {H:Hp}{a:Addr}{o:HO}:upd H a o a=some o:=by unfold upd;rw[if_pos rfl]
theorem Yi {H:Hp}{a b:Addr}{o:HO}(h:b≠a):upd H a o b=H b:=by unfold upd;rw[if_neg h]
theorem JT {H:Hp}{a b:Addr}{o u:HO}(h:H a=some o)(h':H b=some u)(d:o≠u):a≠b:=by
 intro e;subst e;rw[h] at h';exact d (Option.some.inj h')
theorem Vj {H:Hp}{a b:Addr}{o:HO}(h:H a=some o)(h':H b=none):a≠b:=by
 intro e;subst e;rw[h] at h';cases h'
section
variable (P:Program)(w:World)
def Xg (H:Hp)(h:Heap)(a:Addr):HO->Prop
 | .lst xs=>xs.length<=sizeLine/\∃(bB:List Value)(n:Nat),ZF xs bB/\h.get? a=some { cls:=.type "list",data:=.seq bB.toArray n }
 | .tup xs=>xs.length<=sizeLine/\∃bB:List Value,ZF xs bB/\IsTup h a bB.toArray
 | .dK aZ=>aZ.length<=sizeLine/\(a==sysModules)=false/\∃vs,KV aZ vs/\h.DictOf (GN P w) a vs
 | .dT aZ=>aZ.length<=sizeLine/\(a==sysModules)=false/\∃xs:List (List Key×Addr×Value),
   Paired (λ(p:List Key×V)(q:List Key×Addr×Value)=>p.1=q.1/\H q.2.1=some (.tup (p.1.map kV))/\ZG p.2 q.2.2) aZ xs/\
   ∃o es ep,h.get? a=some o/\o.ExactDict/\o.data=.dict es ep/\es.toList=xs.map (entryOfKey (tupleKind (GN P w)))/\(xs.map (·.1)).Nodup
 | .set S n=>h.SetOf (intKind P w) a S n
 | .ins C dx fs=>H dx=some (.own a)/\fs.length<=1000/\dx≠a/\h.get? a=some (PySem.W.instObj C dx)/\
   ∃mA,h.Ns1 dx mA/\(∀f,WH (fs.lookup f) (mA f))/\PySem.Within mA (fs.map (·.1))
 | .own _=>∃o,h.get? a=some o
 | .xd fs=>∃mA,h.Ns1 a mA/\∀f,WH (fs.lookup f) (mA f)
 | .rng lo hi=>∃t u v,h.get? a=some { cls:=.type "range",data:=.fields #[.int lo t,.int hi u,.int 1 v] }
 | .frz o u=>h.get? a=some o/\Xg H h a u
 | .tbl ps=>h.get? a=some { cls:=.none,data:=.fields ps }
 | .met f x=>h.get? a=some (PySem.W.methodObj (.ref f) (.ref x))
 | .ext φ=>φ h/\(∃o,h.get? a=some o)/\∀h1 h2:Heap,φ h1->(∀o,h1.get? a=some o->h2.get? a=some o)->φ h2
def HOk (H:Hp)(h:Heap):Prop:=∀a o,H a=some o->Xg P w H h a o
end
section
variable {P:Program}{w:World}{H H':Hp}{h h':Heap}{a:Addr}{o:HO}
theorem Xg.lt (x:Xg P w H h a o):a<h.objs.size:=by
 cases o with
 | lst xs=>obtain⟨_,_,_,_,e⟩:=x;exact Heap.lt_size e
 | tup xs=>obtain⟨_,_,_,p⟩:=x;exact p.lt
 | dK aZ=>obtain⟨_,_,_,_,o,_,_,e,_⟩:=x;exact Heap.lt_size e
 | dT aZ=>obtain⟨_,_,_,_,o,_,_,e,_⟩:=x;exact Heap.lt_size e
 | set S n=>obtain⟨o,_,_,_,e,_⟩:=x;exact Heap.lt_size e
 | ins C dx fs=>obtain⟨_,_,_,e,_⟩:=x;exact Heap.lt_size e
 | own y=>obtain⟨_,e⟩:=x;exact Heap.lt_size e
 | xd fs=>obtain⟨_,⟨_,_,_,e,_⟩,_⟩:=x;exact Heap.lt_size e
 | rng lo hi=>obtain⟨_,_,_,e⟩:=x;exact Heap.lt_size e
 | frz ob u=>obtain⟨e,_⟩:=x;exact Heap.lt_size e
 | tbl ps=>exact Heap.lt_size (show h.get? a=some _ from x)
 | met f y=>exact Heap.lt_size (show h.get? a=some _ from x)
 | ext φ=>obtain⟨_,⟨_,e⟩,_⟩:=x;exact Heap.lt_size e
theorem Paired.mapP:∀ {l₁:List α} {l₂:List β},Paired F l₁ l₂->(∀a b,F a b->G a b)->Paired G l₁ l₂
 | _,_,.nil,_=>.nil
 | _,_,.cons r t,f=>.cons (f _ _ r) (Paired.mapP t f)
theorem Xg.stay (x:Xg P w H h a o)(k:∀b u,(b=a\/H b=some (.own a))->h.get? b=some u->h'.get? b=some u)
  (ho:∀b,H b=some (.own a)->H' b=some (.own a))(ht:∀b xs,H b=some (.tup xs)->H' b=some (.tup xs)):Xg P w H' h' a o:=by
 induction o with
 | lst xs=>obtain⟨z,bB,n,r,e⟩:=x;exact⟨z,bB,n,r,k _ _ (.inl rfl) e⟩
 | tup xs=>obtain⟨z,bB,r,ob,e,c⟩:=x;exact⟨z,bB,r,ob,k _ _ (.inl rfl) e,c⟩
 | dK aZ=>obtain⟨z,y,vs,r,ob,es,ep,e,c⟩:=x;exact⟨z,y,vs,r,ob,es,ep,k _ _ (.inl rfl) e,c⟩
 | dT aZ=>
  obtain⟨z,y,xs,r,ob,es,ep,e,c⟩:=x;exact⟨z,y,xs,Paired.mapP r λp q z=>⟨z.1,ht _ _ z.2.1,z.2.2⟩,ob,es,ep,k _ _ (.inl rfl) e,c⟩
 | set S n=>obtain⟨ob,es,ep,t,e,c⟩:=x;exact⟨ob,es,ep,t,k _ _ (.inl rfl) e,c⟩
 | ins C dx fs=>
  obtain⟨d,z,ne,e,mA,⟨od,es,ep,e2,c⟩,r⟩:=x;exact⟨ho _ d,z,ne,k _ _ (.inl rfl) e,mA,⟨od,es,ep,k _ _ (.inr d) e2,c⟩,r⟩
 | own y=>obtain⟨ob,e⟩:=x;exact⟨ob,k _ _ (.inl rfl) e⟩
 | xd fs=>obtain⟨mA,⟨od,es,ep,e,c⟩,r⟩:=x;exact⟨mA,⟨od,es,ep,k _ _ (.inl rfl) e,c⟩,r⟩
 | rng lo hi=>obtain⟨t,u,v,e⟩:=x;exact⟨t,u,v,k _ _ (.inl rfl) e⟩
 | frz ob u ih=>obtain⟨e,q⟩:=x;exact⟨k _ _ (.inl rfl) e,ih q⟩
 | tbl ps=>
  have e:h.get? a=some { cls:=.none,data:=.fields ps }:=x
  show h'.get? a=some { cls:=.none,data:=.fields ps };exact k a _ (.inl rfl) e
 | met f y=>
  have e:h.get? a=some (PySem.W.methodObj (.ref f) (.ref y)):=x
  show h'.get? a=some (PySem.W.methodObj (.ref f) (.ref y));exact k a _ (.inl rfl) e
 | ext φ=>obtain⟨p,⟨o,e⟩,st⟩:=x;exact⟨st _ _ p λo q=>k _ _ (.inl rfl) q,⟨o,k _ _ (.inl rfl) e⟩,st⟩
theorem HOk.lt (x:HOk P w H h)(e:H a=some o):a<h.objs.size:=(x a o e).lt
theorem HOk.fresh (x:HOk P w H h)(e:h.objs.size<=a):H a=none:=by
 cases q:H a with
 | none=>rfl
 | some u=>exact absurd (zZ (x.lt q) e) (yH _)
theorem HOk.kept (x:HOk P w H h)(k:∀b u,h.get? b=some u->h'.get? b=some u):HOk P w H h':=λa o e=>
 (x a o e).stay (λb u _ q=>k b u q) (λ_ q=>q) λ_ _ q=>q
theorem HOk.laid (x:HOk P w H h)(k:∀b u,h.get? b=some u->h'.get? b=some u)(hp:h.objs.size<=a)(new:Xg P w (upd H a o) h' a o):HOk P w (upd H a o) h':=λb u e=>by
 have hn:=x.fresh hp;by_cases hb:b=a
 ·subst hb;rw[Xs] at e;cases e;exact new
 ·rw[Yi hb] at e;exact(x b u e).stay (λc v _ q=>k c v q) (λc q=>by rw[Yi (Vj q hn)];exact q) λc xs q=>by rw[Yi (Vj q hn)];exact q
end
def Rd (H:Hp)(a:Addr)(u:HO):Prop:=H a=some u\/∃o,H a=some (.frz o u)
theorem Rd.ok {P:Program}{w:World}{H:Hp}{h:Heap}{a:Addr}{u:HO}(r:Rd H a u)(x:HOk P w H h):Xg P w H h a u:=by
 rcases r with r|⟨o,r⟩
 ·exact x a u r
 ·obtain⟨_,q⟩:=x a _ r;exact q
def Mut:Option HO->Prop
 | some (.lst _)=>True
 | some (.dK _)=>True
 | some (.dT _)=>True
 | some (.set _ _)=>True
 | some (.ins _ _ _)=>True
 | some (.ext _)=>True
 | _=>False
section
variable {P:Program}{w:World}{H:Hp}{h h':Heap}{x e:Addr}{o':HO}
theorem HOk.write (ok:HOk P w H h)(mu:Mut (H x))(he:e=x\/H e=some (.own x))(k:∀b u,b≠e->h.get? b=some u->h'.get? b=some u)(heo:∃u,h'.get? e=some u)
  (new:Xg P w (upd H x o') h' x o'):HOk P w (upd H x o') h':=λb u q=>by
 have nown:∀c y,H c=some (.own y)->c≠x:=λc y r z=>by subst z;rw[r] at mu;exact mu
 have ntup:∀c xs,H c=some (.tup xs)->c≠x:=λc xs r z=>by subst z;rw[r] at mu;exact mu
 by_cases hb:b=x
 ·subst hb;rw[Xs] at q;cases q;exact new
 ·rw[Yi hb] at q;by_cases hbe:b=e
  ·have q':H b=some (.own x):=by
    rcases he with z|z
    ·exact absurd (hbe.trans z) hb
    ·rw[hbe];exact z
   rw[q] at q';cases q'
   obtain⟨v,hv⟩:=heo;exact⟨v,by rw[hbe];exact hv⟩
  ·refine(ok b u q).stay (λc v hc r=>k c v ?_ r) (λc r=>by rw[Yi (nown c b r)];exact r) λc xs r=>by rw[Yi (ntup c xs r)];exact r
   rcases hc with rfl|hc
   ·exact hbe
   ·rintro rfl;rcases he with z|z
    ·exact nown c b hc z
    ·rw[hc] at z;cases z;exact hb rfl
end
structure Un (fs ex:List Addr)(H H':Hp)(h h':Heap):Prop where
 keep:∀b o,h.get? b=some o->H b=none->b ∉ fs->b ∉ ex->h'.get? b=some o
 slot:∀b o,h.get? b=some o->H b=none->b∈fs->b ∉ ex->∃sl,h'.get? b=some { o with slots:=sl }
 free:∀b o,h.get? b=some o->H b=none->b ∉ ex->H' b=none
 there:∀b o,h.get? b=some o->b ∉ ex->∃o',h'.get? b=some o'
 tups:∀b xs,H b=some (.tup xs)->H' b=some (.tup xs)
 frzs:∀b o u,H b=some (.frz o u)->H' b=some (.frz o u)
 tbls:∀b ps,H b=some (.tbl ps)->∃more,H' b=some (.tbl (ps++more))
section
variable {fs fs' ex ex':List Addr}{H H1 H2:Hp}{h h1 h2 h':Heap}{a x e:Addr}{o:HO}
theorem Un.any (u:Un fs ex H H1 h h1){b:Addr}{ob:Obj}(q:h.get? b=some ob)(n:H b=none)(hx:b ∉ ex):∃sl,h1.get? b=some { ob with slots:=sl }:=by
 by_cases hb:b∈fs
 ·exact u.slot b ob q n hb hx
 ·exact⟨ob.slots,u.keep b ob q n hb hx⟩
theorem Un.kept (k:∀b u,h.get? b=some u->h'.get? b=some u):Un fs ex H H h h':=
 ⟨λb ob q _ _ _=>k b ob q,λb ob q _ _ _=>⟨ob.slots,k b ob q⟩,λ_ _ _ n _=>n,λb ob q _=>⟨ob,k b ob q⟩,λ_ _ q=>q,λ_ _ _ q=>q,λ_ ps q=>⟨#[],by rw[q];simp⟩⟩
theorem Un.refl:Un fs ex H H h h:=Un.kept λ_ _ q=>q
theorem Un.laid (k:∀b u,h.get? b=some u->h'.get? b=some u)(hp:h.objs.size<=a)(hn:H a=none):Un fs ex H (upd H a o) h h' where
 keep:=λb u q _ _ _=>k b u q
 slot:=λb u q _ _ _=>⟨u.slots,k b u q⟩
 free:=λb u q n _=>by rw[Yi (zV (zZ (Heap.lt_size q) hp))];exact n
 there:=λb u q _=>⟨u,k b u q⟩
 tups:=λb xs q=>by rw[Yi (Vj q hn)];exact q
 frzs:=λb u xs q=>by rw[Yi (Vj q hn)];exact q
 tbls:=λb ps q=>⟨#[],by rw[Yi (Vj q hn),q];simp⟩
theorem Un.write (mu:Mut (H x))(he:e=x\/H e=some (.own x))(k:∀b u,b≠e->h.get? b=some u->h'.get? b=some u)(heo:∃u,h'.get? e=some u):Un fs ex H (upd H x o) h h':=by
 have hx:∀b,H b=none->b≠x:=λb n z=>by subst z;rw[n] at mu;exact mu
 have hb:∀b,H b=none->b≠e:=λb n z=>by
  subst z;rcases he with r|r
  ·exact hx b n r
  ·rw[n] at r;cases r
 have hm:∀b u,H b=some u->¬ Mut (some u)->b≠x:=λb u q nm z=>by subst z;rw[q] at mu;exact nm mu
 refine⟨λb u q n _ _=>k b u (hb b n) q,λb u q n _ _=>⟨u.slots,k b u (hb b n) q⟩,λb u q n _=>by rw[Yi (hx b n)];exact n,λb u q _=>?_,
  λb xs q=>by rw[Yi (hm b _ q λz=>z)];exact q,λb u xs q=>by rw[Yi (hm b _ q λz=>z)];exact q,λb ps q=>⟨#[],by rw[Yi (hm b _ q λz=>z),q];simp⟩⟩
 by_cases hbe:b=e
 ·subst hbe;exact heo
 ·exact⟨u,k b u hbe q⟩
end
def trk (h:Heap)(H:Hp):List Addr:=(List.range h.objs.size).filter λa=>(H a).isSome
def Vb (h:Heap)(H:Hp):Heap:=PySem.W.hideAll h (trk h H)
theorem A0 (h:Heap)(H:Hp):(Vb h H).objs.size=h.objs.size:=PySem.W.hideAll_size _ _
theorem ED {h:Heap}{H:Hp}{b:Addr}{o:Obj}(e:h.get? b=some o)(n:H b=none):(Vb h H).get? b=some o:=
 PySem.W.hideAll_get _ e λhm=>by
  have q:(H b).isSome=true:=(List.mem_filter.mp hm).2;rw[n] at q;simp at q
theorem AX {h:Heap}{H:Hp}{b:Addr}{o:Obj}(e:(Vb h H).get? b=some o):h.get? b=some o/\H b=none:=by
 have e':h.get? b=some o:=PySem.W.of_hideAll (trk h H) e;refine⟨e',?_⟩;cases q:H b with
 | none=>rfl
 | some x=>
  have hm:b∈trk h H:=List.mem_filter.mpr ⟨List.mem_range.mpr (Heap.lt_size e'),by simp[q]⟩
  have z:(Vb h H).get? b=none:=PySem.W.hideAll_none (trk h H) hm;rw[z] at e;cases e
def E8 (g h:Heap)(L:Addr):LA:=(List.range h.objs.size).filterMap λa=>if a=L\/(g.get? a).isSome=true then none else (h.get? a).map λo=>(a,o)
def Yy (g h:Heap)(L d:Addr):LA:=(E8 g h L).filter λp=>decide (p.1≠d)
end L2
namespace L2
open PySem PySem.Spec PyProof.Rows
structure Mod (K:Fg)(mg:Str->Option Value)(base:Heap):Prop where
 kin:K.In base
 glob:base.Ns mainGlobals mg
 blt:∃mb,base.Ns builtinsNs mb/\∀x:Str,x≠"__name__"->mb x=bootBuiltins x
 nolimit:base.NoLimit
structure Cx where
 prog:Program
 w:World
 K:Fg
 mg:Str->Option Value
 base:Heap
 A:Around
 N:List Str
 s₀:Shared
 H₀:Hp
 env:Env
 outer:List Env
 stack:List Env
 ex:List Addr
 fn:Str->Bool
 calm:Bool
 pn:LA
 xe:Value->Shared->Prop
def frs (l:List Env):List Addr:=l.filterMap (·.frame)
abbrev Cx.fs (X:Cx):List Addr:=frs X.outer
def Vis (sc:Scope)(x:Str):Prop:=sc.names.lookup x=some .local\/sc.names.lookup x=some .cell\/sc.names.lookup x=some .free
def Loc (sc:Scope)(x:Str):Prop:=sc.names.lookup x=some .local\/sc.names.lookup x=some .cell
def Look (env:Env)(h:Heap)(m:Str->Option Value)(x:Str)(u:Value):Prop:=
 (env.kindOf x=some .local/\m x=some u)\/((env.kindOf x=some .cell\/env.kindOf x=some .free)/\∃c,env.cells.lookup x=some c/\h.IsCell c (some u))
structure Cx.Ok (X:Cx):Prop where
 mod:Mod X.K X.mg X.base
 kind:X.env.scope.kind=.function
 glob:X.env.globals=mainGlobals
 blt:X.env.builtins=builtinsNs
 above:X.s₀.heap.objs.size<=X.env.locals
 inj:∀x y c,X.env.cells.lookup x=some c->X.env.cells.lookup y=some c->x=y
 has:∀x,(X.env.kindOf x=some .cell\/X.env.kindOf x=some .free)->∃c,X.env.cells.lookup x=some c
 cab:∀x c,X.fn x=true->X.env.cells.lookup x=some c->X.s₀.heap.objs.size<=c
 hd:X.calm=true->X.A.handled=none
 frames:X.A.frames=some X.stack
 stk:X.stack=X.outer\/(X.stack=X.env::X.outer/\X.env.frame=some X.env.locals)
 exf:∀b∈X.ex,b≠X.env.locals/\∀x c,X.env.cells.lookup x=some c->c≠b
 bs:∀b o,X.base.get? b=some o->X.s₀.heap.get? b=some o/\X.H₀ b=none
 bsz:X.base.objs.size<=X.s₀.heap.objs.size
 noex:∀b o,X.base.get? b=some o->b ∉ X.ex
 exfs:∀b∈X.ex,b ∉ X.fs
 funs:X.s₀.heap.FunFrames X.base X.outer
 frf:∀b∈X.fs,X.H₀ b=none
structure Inv (X:Cx)(aA:LA)(σ:List (Option V))(H:Hp)(s:Shared):Prop where
 ok:X.Ok
 os:s.os=X.s₀.os
 bare:AllBare s.gens
 base:Un X.fs X.ex X.H₀ H X.s₀.heap s.heap
 loc:∃m,s.heap.Ns X.env.locals m/\∀(i:Nat)(x:Str)(v:V),X.N[i]?=some x->σ[i]?=some (some v)->Vis X.env.scope x->∃u,ZG v u/\Look X.env s.heap m x u
 cell:∀x c,X.env.cells.lookup x=some c->∃v,s.heap.IsCell c v
 free:H X.env.locals=none
 freeC:∀x c,X.env.cells.lookup x=some c->H c=none
 pin:∀p∈X.pn++aA,s.heap.get? p.1=some p.2/\H p.1=none/\p.1≠X.env.locals/\p.1 ∉ X.fs/\∀v,p.2.data≠.cell v
 hok:HOk X.prog X.w H s.heap
 len:σ.length=X.N.length
section
variable {X:Cx}{aA:LA}{σ:List (Option V)}{H H':Hp}{s:Shared}{h':Heap}
theorem Cx.Ok.nofr (ok:X.Ok)(e:X.base.get? b=some o):b ∉ X.fs:=λhb=>by
 have:=(ok.funs.mem hb).1;rw[e] at this;cases this
theorem Inv.bs (I:Inv X aA σ H s):∀b o,X.base.get? b=some o->s.heap.get? b=some o/\H b=none:=λb o e=>
 ⟨I.base.keep b o (I.ok.bs b o e).1 (I.ok.bs b o e).2 (I.ok.nofr e) (I.ok.noex b o e),I.base.free b o (I.ok.bs b o e).1 (I.ok.bs b o e).2 (I.ok.noex b o e)⟩
theorem Inv.bk (I:Inv X aA σ H s):∀b o,X.base.get? b=some o->s.heap.get? b=some o:=λb o e=>(I.bs b o e).1
theorem Inv.mod (I:Inv X aA σ H s):Mod X.K X.mg X.base:=I.ok.mod
theorem Inv.kIn (I:Inv X aA σ H s):X.K.In s.heap:=I.ok.mod.kin.keeps I.bk
theorem Inv.lt (I:Inv X aA σ H s):X.env.locals<s.heap.objs.size:=let ⟨_,hn,_⟩:=I.loc;hn.lt
theorem Inv.sz (I:Inv X aA σ H s):X.s₀.heap.objs.size<=s.heap.objs.size:=yI I.ok.above (yX I.lt)
theorem Inv.nofs (I:Inv X aA σ H s)(h:s.heap.objs.size<=a):a ∉ X.fs:=λhb=>by
 obtain⟨_,o,ho,_⟩:=I.ok.funs.mem hb;exact absurd (zZ (Heap.lt_size ho) (yI I.sz h)) (yH _)
theorem Inv.cne (I:Inv X aA σ H s):∀x c,X.env.cells.lookup x=some c->c≠X.env.locals:=λx c e z=>by
 obtain⟨v,o,ho,hd⟩:=I.cell x c e;obtain⟨m,⟨o',es,ep,ho',hd',_⟩,_⟩:=I.loc;rw[z,ho'] at ho;cases ho;rw[hd'] at hd;cases hd
theorem Inv.funs (I:Inv X aA σ H s):s.heap.FunFrames X.base X.outer:=by
 have all:∀(l:List Env),(∀b∈frs l,b∈X.fs)->X.s₀.heap.FunFrames X.base l->s.heap.FunFrames X.base l:=by
  intro l
  induction l with
  | nil=>intro _ _;trivial
  | cons env r ih=>
   intro hs hl;obtain⟨hk,⟨L,o,hf,hn,ho,hd⟩,hr⟩:=hl;have hL:L∈X.fs:=hs L (by unfold frs;rw[List.filterMap_cons,hf];exact xC);obtain⟨sl,e⟩:=I.base.slot L o ho (I.ok.frf L hL) hL λz=>I.ok.exfs L z hL
   exact⟨hk,⟨L,_,hf,hn,e,hd⟩,ih (λb hb=>hs b (by unfold frs;rw[List.filterMap_cons,hf];exact yR _ hb)) hr⟩
 exact all X.outer (λ_ hb=>hb) I.ok.funs
theorem Inv.stack (I:Inv X aA σ H s):s.heap.FunFrames X.base X.stack:=by
 rcases I.ok.stk with e|⟨e,hf⟩
 ·rw[e];exact I.funs
 ·rw[e];obtain⟨m,hn,_⟩:=I.loc;refine .cons (by rw[I.ok.kind];decide) hf hn ?_ I.funs;exact Heap.get?_none_of_le (yI I.ok.bsz I.ok.above)
theorem Inv.stkSub (I:Inv X aA σ H s):∀b∈frs X.stack,b∈X.env.locals::X.fs:=λb hb=>by
 rcases I.ok.stk with e|⟨e,hf⟩
 ·rw[e] at hb;exact yR _ hb
 ·rw[e] at hb;unfold frs at hb;rw[List.filterMap_cons,hf] at hb;exact hb
theorem Inv.stkFree (I:Inv X aA σ H s):∀b∈frs X.stack,H b=none:=λb hb=>by
 rcases zS.mp (I.stkSub b hb) with e|hb
 ·rw[e];exact I.free
 ·obtain⟨_,o,ho,_⟩:=I.ok.funs.mem hb;exact I.base.free b o ho (I.ok.frf b hb) λz=>I.ok.exfs b z hb
theorem Inv.step {g':Array GenState}{t':Nat}{d':Drawn}{ch:List Addr}(I:Inv X aA σ H s)
  (hch:∀b∈ch,(b∈X.ex\/X.s₀.heap.objs.size<=b)/\b≠X.env.locals/\(∀x c,X.env.cells.lookup x=some c->c≠b)/\∀p∈X.pn++aA,p.1≠b)
  (keep:∀b o,b≠X.env.locals->b ∉ X.fs->b ∉ ch->s.heap.get? b=some o->H b=none->h'.get? b=some o)
  (slot:∀b o,b≠X.env.locals->b∈X.fs->b ∉ ch->s.heap.get? b=some o->H b=none->∃sl,h'.get? b=some { o with slots:=sl })(free:∀b o,b ∉ ch->s.heap.get? b=some o->H b=none->H' b=none)
  (there:∀b o,b ∉ ch->s.heap.get? b=some o->∃o',h'.get? b=some o')
  (tups:∀b xs,H b=some (.tup xs)->H' b=some (.tup xs))(frzs:∀b o u,H b=some (.frz o u)->H' b=some (.frz o u))(tbls:∀b ps,H b=some (.tbl ps)->∃more,H' b=some (.tbl (ps++more)))
  (ns:∀m,s.heap.Ns X.env.locals m->h'.Ns X.env.locals m)(hok:HOk X.prog X.w H' h')(hg:AllBare g'):
  Inv X aA σ H' { s with heap:=h',gens:=g',drawn:=d',toks:=t' }:=by
 have neL:∀b o,X.s₀.heap.get? b=some o->b≠X.env.locals:=λb o e=>zV (zZ (Heap.lt_size e) I.ok.above)
 have neC:∀b o,X.s₀.heap.get? b=some o->b ∉ X.ex->b ∉ ch:=λb o e hx hb=>by
  rcases (hch b hb).1 with z|z
  ·exact hx z
  ·exact absurd (zZ (Heap.lt_size e) z) (yH _)
 have cellK:∀x c,X.env.cells.lookup x=some c->∀v,s.heap.IsCell c v->h'.IsCell c v:=λx c e v ⟨o,ho,hd⟩=>by
  have nch:c ∉ ch:=λz=>(hch c z).2.2.1 x c e rfl
  by_cases hc:c∈X.fs
  ·obtain⟨sl,q⟩:=slot c o (I.cne x c e) hc nch ho (I.freeC x c e);exact⟨_,q,hd⟩
  ·exact⟨o,keep c o (I.cne x c e) hc nch ho (I.freeC x c e),hd⟩
 refine⟨I.ok,I.os,hg,⟨λb o e n hb hx=>?_,λb o e n hb hx=>?_,λb o e n hx=>?_,λb o e hx=>?_,λb xs e=>tups b xs (I.base.tups b xs e),λb o xs e=>frzs b o xs (I.base.frzs b o xs e),λb ps e=>?_⟩,?_,λx c e=>?_,?_,λx c e=>?_,λp hp=>?_,hok,I.len⟩
 ·exact keep b o (neL b o e) hb (neC b o e hx) (I.base.keep b o e n hb hx) (I.base.free b o e n hx)
 ·obtain⟨sl,e1⟩:=I.base.slot b o e n hb hx;obtain⟨sl',e2⟩:=slot b _ (neL b o e) hb (neC b o e hx) e1 (I.base.free b o e n hx);exact⟨sl',e2⟩
 ·obtain⟨o',e1⟩:=I.base.there b o e hx;exact free b o' (neC b o e hx) e1 (I.base.free b o e n hx)
 ·obtain⟨o',e1⟩:=I.base.there b o e hx;exact there b o' (neC b o e hx) e1
 ·obtain⟨m1,e1⟩:=I.base.tbls b ps e;obtain⟨m2,e2⟩:=tbls b _ e1;exact⟨m1++m2,by rw[e2,Array.append_assoc]⟩
 ·obtain⟨m,hn,hl⟩:=I.loc;refine⟨m,ns m hn,λi x v e1 e2 e3=>?_⟩;obtain⟨u,r,l⟩:=hl i x v e1 e2 e3;refine⟨u,r,?_⟩;rcases l with l|⟨k,c,e,z⟩
  ·exact .inl l
  ·exact .inr ⟨k,c,e,cellK x c e _ z⟩
 ·obtain⟨v,z⟩:=I.cell x c e;exact⟨v,cellK x c e v z⟩
 ·obtain⟨m,⟨o,_,_,ho,_⟩,_⟩:=I.loc;exact free _ o (λz=>(hch _ z).2.1 rfl) ho I.free
 ·obtain⟨v,o,ho,hd⟩:=I.cell x c e;exact free c o (λz=>(hch c z).2.2.1 x c e rfl) ho (I.freeC x c e)
 ·obtain⟨e,n,ne,nf,d⟩:=I.pin p hp;have nch:p.1 ∉ ch:=λz=>(hch p.1 z).2.2.2 p hp rfl
  exact⟨keep p.1 p.2 ne nf nch e n,free p.1 p.2 nch e n,ne,nf,d⟩
theorem Inv.un {t':Nat}(I:Inv X aA σ H s)(u:Un X.fs [] H H' s.heap h')(hok:HOk X.prog X.w H' h'):Inv X aA σ H' { s with heap:=h',toks:=t' }:=by
 obtain⟨m,⟨o,es,ep,ho,r⟩,_⟩:=id I.loc;obtain⟨sl,hL⟩:=u.any ho I.free (by simp);exact I.step (g':=s.gens) (d':=s.drawn) (ch:=[]) (λ_ z=>nomatch z) (λb o _ hb _ e n=>u.keep b o e n hb (by simp)) (λb o _ hb _ e n=>u.slot b o e n hb (by simp)) (λb o _ e n=>u.free b o e n (by simp)) (λb o _ e=>u.there b o e (by simp)) u.tups u.frzs u.tbls (λm' hm=>by
  obtain⟨o',es',ep',ho',r'⟩:=hm;rw[ho] at ho';cases ho'
  exact⟨_,es',ep',hL,r'⟩) hok I.bare
theorem Inv.call {g':Array GenState}{t':Nat}{d':Drawn}{ch:List Addr}(I:Inv X aA σ H s)(u:Un (frs X.stack) ch H H' s.heap h')(hok:HOk X.prog X.w H' h')(hg:AllBare g')
  (hch:∀b∈ch,(b∈X.ex\/X.s₀.heap.objs.size<=b)/\b≠X.env.locals/\(∀x c,X.env.cells.lookup x=some c->c≠b)/\∀p∈X.pn++aA,p.1≠b):
  Inv X aA σ H' { s with heap:=h',gens:=g',drawn:=d',toks:=t' }:=by
 obtain⟨m,⟨o,es,ep,ho,r⟩,_⟩:=id I.loc;obtain⟨sl,hL⟩:=u.any ho I.free λz=>(hch _ z).2.1 rfl
 exact I.step (ch:=ch) hch (λb o hL hb hc e n=>u.keep b o e n (λz=>(zS.mp (I.stkSub b z)).elim hL hb) hc) (λb o _ _ hc e n=>u.any e n hc) (λb o hc e n=>u.free b o e n hc) (λb o hc e=>u.there b o e hc) u.tups u.frzs u.tbls (λm' hm=>by
  obtain⟨o',es',ep',ho',r'⟩:=hm;rw[ho] at ho';cases ho'
  exact⟨_,es',ep',hL,r'⟩) hok hg
theorem Inv.turned {t':Nat}{it:Addr}(I:Inv X aA σ H s)(k:∀b o,b≠it->s.heap.get? b=some o->h'.get? b=some o)(hn:H it=none)(hL:it≠X.env.locals)
  (h1:it∈X.ex\/X.s₀.heap.objs.size<=it)(h2:∀x c,X.env.cells.lookup x=some c->c≠it)(h3:∀p∈X.pn++aA,p.1≠it):Inv X aA σ H { s with heap:=h',toks:=t' }:=by
 have nit:∀b u,H b=some u->b≠it:=λb u e z=>by rw[z,hn] at e;cases e
 refine I.step (g':=s.gens) (d':=s.drawn) (ch:=[it]) (λb hb=>?_) (λb o _ _ hc e _=>k b o (λz=>hc (by simp[z])) e) (λb o _ _ hc e _=>⟨o.slots,k b o (λz=>hc (by simp[z])) e⟩) (λ_ _ _ _ n=>n)
  (λb o hc e=>⟨o,k b o (λz=>hc (by simp[z])) e⟩) (λ_ _ e=>e) (λ_ _ _ e=>e) (λb ps e=>⟨#[],by rw[e];simp⟩) (λm hm=>?_) (λb u e=>?_) I.bare
 ·have e:b=it:=by simpa using hb
  subst e;exact⟨h1,hL,h2,h3⟩
 ·obtain⟨o,es,ep,ho,r⟩:=hm;exact⟨o,es,ep,k _ o (Ne.symm hL) ho,r⟩
 ·refine(I.hok b u e).stay (λc v hc q=>k c v ?_ q) (λ_ q=>q) λ_ _ q=>q
  rcases hc with z|z
  ·rw[z];exact nit b u e
  ·exact nit c _ z
theorem Inv.tok (I:Inv X aA σ H s)(t:Nat):Inv X aA σ H { s with toks:=t }:=I.un (h':=s.heap) (t':=t) Un.refl I.hok
theorem Inv.kept {t':Nat}(I:Inv X aA σ H s)(k:∀b u,s.heap.get? b=some u->h'.get? b=some u):Inv X aA σ H { s with heap:=h',toks:=t' }:=I.un (Un.kept k) (I.hok.kept k)
theorem Inv.laid (I:Inv X aA σ H s)(k:∀b u,s.heap.get? b=some u->h'.get? b=some u)(hp:s.heap.objs.size<=a)(new:Xg X.prog X.w (upd H a o) h' a o):
  Inv X aA σ (upd H a o) { s with heap:=h',toks:=t' }:=I.un (Un.laid k hp (I.hok.fresh hp)) (I.hok.laid k hp new)
theorem Inv.write (I:Inv X aA σ H s)(mu:Mut (H x))(he:e=x\/H e=some (.own x))(k:∀b u,b≠e->s.heap.get? b=some u->h'.get? b=some u)(heo:∃u,h'.get? e=some u)(new:Xg X.prog X.w (upd H x o) h' x o):Inv X aA σ (upd H x o) { s with heap:=h',toks:=t' }:=I.un (Un.write mu he k heo) (I.hok.write mu he k heo new)
theorem Inv.pins_of (I:Inv X aA σ H s)(h:∀p∈pins',s.heap.get? p.1=some p.2/\H p.1=none/\p.1≠X.env.locals/\p.1 ∉ X.fs/\∀v,p.2.data≠.cell v):Inv X pins' σ H s:=
 ⟨I.ok,I.os,I.bare,I.base,I.loc,I.cell,I.free,I.freeC,λp hp=>(yJ.mp hp).elim (λz=>I.pin p (List.mem_append_left _ z)) (h p),I.hok,I.len⟩
theorem GP {N:List Str}(hN:N.Nodup){i j:Nat}{x:Str}(a:N[i]?=some x)(b:N[j]?=some x):i=j:=by
 obtain⟨h1,e1⟩:=zF.mp a;obtain⟨h2,e2⟩:=zF.mp b;exact(List.getElem_inj hN).mp (e1.trans e2.symm)
theorem K6 {M:Model}{A:Around}{E:Value->Shared->Prop}{i:Nat}{x:Str}{v:V}{u:Value}{Q:Unit->Shared->Prop}(I:Inv X aA σ H s)(hN:X.N.Nodup)(hi:X.N[i]?=some x)(hx:Loc X.env.scope x)(r:ZG v u)
  (h:∀s',Inv X aA (σ.set i (some v)) H s'->(∃a,Heap.SameBut a s.heap s'.heap/\(a=X.env.locals\/X.env.cells.lookup x=some a))->Q () s')(hf:X.fn x=true\/X.env.scope.names.lookup x=some .local:=by first|exact .inl rfl|exact .inr rfl|assumption):wpAny M A (storeName X.env x u) Q E s:=by
 obtain⟨m,hn,hl⟩:=id I.loc;have hcls:(X.env.scope.kind==.class||(X.env.scope.kind==.module&&X.env.locals != X.env.globals))=false:=by rw[I.ok.kind];rfl
 have hiσ:i<σ.length:=by rw[I.len];exact(zF.mp hi).1
 have cne:=I.cne
 have tracked:∀ {a:Addr} {h':Heap},(∃o,s.heap.get? a=some o/\H a=none)->Heap.SameBut a s.heap h'->HOk X.prog X.w H h':=λ{a h'} ha hs b ob e=>by
  obtain⟨_,_,hfree⟩:=ha;refine(I.hok b ob e).stay (λc w' hc q=>(hs.2 c ?_).trans q) (λ_ q=>q) λ_ _ q=>q
  rintro rfl;rcases hc with rfl|hc
  ·rw[hfree] at e;cases e
  ·rw[hfree] at hc;cases hc
 rcases hx with hk|hk
 ·refine wpAny_storeName_local hk hn (λh' hn' hs=>?_) hcls;obtain⟨oL,_,_,hoL,_⟩:=id hn;refine h _ ⟨I.ok,I.os,I.bare,⟨λb o e n hb hx=>?_,λb o e n hb hx=>?_,I.base.free,λb o e hx=>?_,I.base.tups,I.base.frzs,I.base.tbls⟩,⟨_,hn',λj y v' e1 e2 e3=>?_⟩,λy c e=>?_,I.free,I.freeC,λp hp=>?_,tracked ⟨oL,hoL,I.free⟩ hs,by simpa using I.len⟩ ⟨_,hs,.inl rfl⟩
  ·exact(hs.2 b (zV (zZ (Heap.lt_size e) I.ok.above))).trans (I.base.keep b o e n hb hx)
  ·obtain⟨sl,e1⟩:=I.base.slot b o e n hb hx;exact⟨sl,(hs.2 b (zV (zZ (Heap.lt_size e) I.ok.above))).trans e1⟩
  ·obtain⟨o',e1⟩:=I.base.there b o e hx;exact⟨o',(hs.2 b (zV (zZ (Heap.lt_size e) I.ok.above))).trans e1⟩
  ·by_cases hj:j=i
   ·subst hj;rw[hi] at e1;cases e1
    rw[yT hiσ] at e2;cases e2;exact⟨u,r,.inl ⟨hk,by simp⟩⟩
   ·rw[yY (Ne.symm hj)] at e2;obtain⟨u',r',q⟩:=hl j y v' e1 e2 e3;refine⟨u',r',?_⟩;rcases q with ⟨k,e⟩|⟨k,c,e,z⟩
    ·refine .inl ⟨k,?_⟩;have:y≠x:=λe=>hj (GP hN e1 (e ▸ hi))
     simp[this,e]
    ·exact .inr ⟨k,c,e,z.sameBut hs (cne y c e)⟩
  ·obtain⟨w',z⟩:=I.cell y c e;exact⟨w',z.sameBut hs (cne y c e)⟩
  ·obtain⟨e,n,ne,nf,d⟩:=I.pin p hp;exact⟨(hs.2 p.1 ne).trans e,n,ne,nf,d⟩
 ·have hfn:X.fn x=true:=by
   rcases hf with z|z
   ·exact z
   ·rw[z] at hk;cases hk
  obtain⟨c,hc⟩:=I.ok.has x (.inl hk);obtain⟨w',z⟩:=I.cell x c hc;refine wpAny_storeName_cell I.ok.kind hk hc z (λh' hc' hs=>?_);obtain⟨oc,hoc,hocd⟩:=id z;refine h { s with heap:=h' } ⟨I.ok,I.os,I.bare,⟨λb o e n hb hx=>?_,λb o e n hb hx=>?_,I.base.free,λb o e hx=>?_,I.base.tups,I.base.frzs,I.base.tbls⟩,⟨m,hn.sameBut hs (Ne.symm (cne x c hc)),λj y v' e1 e2 e3=>?_⟩,λy c' e=>?_,I.free,I.freeC,λp hp=>?_,tracked ⟨oc,hoc,I.freeC x c hc⟩ hs,by simpa using I.len⟩ ⟨c,hs,.inr hc⟩
  ·exact(hs.2 b (zV (zZ (Heap.lt_size e) (I.ok.cab x c hfn hc)))).trans (I.base.keep b o e n hb hx)
  ·obtain⟨sl,e1⟩:=I.base.slot b o e n hb hx;exact⟨sl,(hs.2 b (zV (zZ (Heap.lt_size e) (I.ok.cab x c hfn hc)))).trans e1⟩
  ·obtain⟨o',e1⟩:=I.base.there b o e hx;exact⟨o',(hs.2 b (zV (zZ (Heap.lt_size e) (I.ok.cab x c hfn hc)))).trans e1⟩
  ·by_cases hj:j=i
   ·subst hj;rw[hi] at e1;cases e1
    rw[yT hiσ] at e2;cases e2;exact⟨u,r,.inr ⟨.inl hk,c,hc,hc'⟩⟩
   ·rw[yY (Ne.symm hj)] at e2;obtain⟨u',r',q⟩:=hl j y v' e1 e2 e3;refine⟨u',r',?_⟩;rcases q with q|⟨k,c',e,z'⟩
    ·exact .inl q
    ·refine .inr ⟨k,c',e,z'.sameBut hs ?_⟩;rintro rfl;exact hj (GP hN e1 (I.ok.inj _ _ _ e hc ▸ hi))
  ·by_cases hcc:c'=c
   ·subst hcc;exact⟨_,hc'⟩
   ·obtain⟨w2,z2⟩:=I.cell y c' e;exact⟨w2,z2.sameBut hs hcc⟩
  ·obtain⟨e,n,ne,nf,d⟩:=I.pin p hp;refine⟨(hs.2 p.1 ?_).trans e,n,ne,nf,d⟩;intro q;rw[q,hoc] at e;have q':oc=p.2:=Option.some.inj e;exact d w' (by rw[<- q'];exact hocd)
theorem MO (I:Inv X aA σ H s)(hN:X.N.Nodup)(hi:X.N[i]?=some x)(hx:Loc X.env.scope x)(r:ZG v u)(h:∀s',Inv X aA (σ.set i (some v)) H s'->Q () s')(hf:X.fn x=true\/X.env.scope.names.lookup x=some .local:=by first|exact .inl rfl|exact .inr rfl|assumption):wpAny M A (storeName X.env x u) Q E s:=
 K6 I hN hi hx r (λs' I' _=>h s' I') hf
theorem Inv.call' (I:Inv X aA σ H s)(ho:s'.os=s.os)(u:Un (frs X.stack) ch H H' s.heap s'.heap)(hok:HOk X.prog X.w H' s'.heap)(hg:AllBare s'.gens)(hch:∀b∈ch,(b∈X.ex\/X.s₀.heap.objs.size<=b)/\b≠X.env.locals/\(∀x c,X.env.cells.lookup x=some c->c≠b)/\∀p∈X.pn++aA,p.1≠b):Inv X aA σ H' s':=by
 obtain⟨h',g',d',t',o'⟩:=s';have e:o'=s.os:=ho;subst e;exact I.call (g':=g') (t':=t') (d':=d') u hok hg hch
end
abbrev XK:=Value->Option Addr->Hp->Prop
abbrev St:=List (Option V)
abbrev VK:=V->Hp->Prop
abbrev TE:=St->Hp->VK->Prop
abbrev TT:=St->Hp->(Bool->Hp->Prop)->Prop
abbrev TA:=St->Hp->(List V->Hp->Prop)->Prop
structure VR where
 nx:St->Hp->Prop
 rt:VK
 bk:St->Hp->Prop:=λ_ _=>False
 ct:St->Hp->Prop:=λ_ _=>False
abbrev TS:=VR->St->Hp->Prop
def EP (X:Cx)(aA:LA)(σ:St)(Q:VK)(u:Value)(s':Shared):Prop:=∃v H',Inv X aA σ H' s'/\ZG v u/\Q v H'
def TP (X:Cx)(aA:LA)(σ:St)(Q:Bool->Hp->Prop)(b:Bool)(s':Shared):Prop:=∃H',Inv X aA σ H' s'/\Q b H'
def AP (X:Cx)(aA:LA)(σ:St)(Q:List V->Hp->Prop)(us:List Value)(s':Shared):Prop:=∃vs H',Inv X aA σ H' s'/\ZF vs us/\Q vs H'
def SP (X:Cx)(aA:LA)(D:VR)(f:Flow)(s':Shared):Prop:=
 match f with
 | .next=>∃σ' H',Inv X aA σ' H' s'/\D.nx σ' H'
 | .brk=>∃σ' H',Inv X aA σ' H' s'/\D.bk σ' H'
 | .cont=>∃σ' H',Inv X aA σ' H' s'/\D.ct σ' H'
 | .ret u=>∃v σ' H',Inv X aA σ' H' s'/\ZG v u/\D.rt v H'
def PE (X:Cx)(e:Expr)(t:TE):Prop:=
 ∀(aA:LA)(s:Shared)(σ:St)(H:Hp)(Q:VK),Inv X aA σ H s->t σ H Q->wpAny (model X.prog X.w) X.A (eval e X.env) (EP X aA σ Q) X.xe s
def PT (X:Cx)(e:Expr)(t:TT):Prop:=
 ∀(aA:LA)(s:Shared)(σ:St)(H:Hp)(Q:Bool->Hp->Prop),Inv X aA σ H s->t σ H Q->wpAny (model X.prog X.w) X.A (isTrue e X.env (eval e X.env)) (TP X aA σ Q) X.xe s
def PW (X:Cx)(e:Expr)(t:TT):Prop:=
 ∀(aW:Sem Value)(aA:LA)(s:Shared)(σ:St)(H:Hp)(Q:Bool->Hp->Prop),Inv X aA σ H s->t σ H Q->wpAny (model X.prog X.w) X.A (isTrue e X.env aW) (TP X aA σ Q) X.xe s
theorem PW.pt (h:PW X e t):PT X e t:=h _
def PA (X:Cx)(es:List Expr)(t:TA):Prop:=
 ∀(pos:Pos)(aA:LA)(s:Shared)(σ:St)(H:Hp)(Q:List V->Hp->Prop),Inv X aA σ H s->t σ H Q->wpAny (model X.prog X.w) X.A (spliced (backTo pos (starEach es X.env))) (AP X aA σ Q) X.xe s
def PS (X:Cx)(st:Stmt)(t:TS):Prop:=
 ∀(aA:LA)(s:Shared)(σ:St)(H:Hp)(D:VR),Inv X aA σ H s->t D σ H->wpAny (model X.prog X.w) X.A (exec st X.env) (SP X aA D) X.xe s
def PSs (X:Cx)(st:List Stmt)(t:TS):Prop:=
 ∀(aA:LA)(s:Shared)(σ:St)(H:Hp)(D:VR),Inv X aA σ H s->t D σ H->wpAny (model X.prog X.w) X.A (execs st X.env) (SP X aA D) X.xe s
theorem thn {α:Type}{t:Sem α}{Q Q':α->Shared->Prop}{M:Model}{A:Around}{E:Value->Shared->Prop}{s:Shared}(h:wpAny M A t Q E s)(hQ:∀a s,Q a s->Q' a s):wpAny M A t Q' E s:=wpAny_mono h hQ λ_ _ x=>x
end L2
namespace L2
open PySem PySem.Spec PyProof.Rows
section
variable {X:Cx}
def tVar (i:Nat):TE:=λσ H Q=>∃v,σ[i]?=some (some v)/\Q v H
def tC (v:V):TE:=λ_ H Q=>Q v H
theorem FA (hN:X.N[i]?=some x)(hv:Vis X.env.scope x)(hd:(x==("__debug__":Str))=false:=by decide)(hcd:(x==("__classdict__":Str))=false:=by decide):PE X (.Name x pos) (tVar i):=by
 intro aA s σ H Q I h;obtain⟨v,e,h⟩:=h;obtain⟨m,hn,hl⟩:=I.loc;obtain⟨u,r,l⟩:=hl i x v hN e hv;have bC:EP X aA σ Q u s:=⟨v,H,I,r,h⟩;rcases l with ⟨hk,hm⟩|⟨hk,c,hc,hcell⟩
 ·exact wpAny_Name (wpAny_loadName_local I.ok.kind hk hn hm bC) hd
 ·rcases hk with hk|hk
  ·exact wpAny_Name (wpAny_loadName_cell I.ok.kind hk hc hcell bC) hd
  ·exact wpAny_Name (wpAny_loadName_free I.ok.kind hk hc hcell bC hcd) hd
theorem Ck {i j pos}:PE X (.Constant (.int i) j pos) (tC (.int i)):=λ_ _ _ H _ I h=>wpAny_Constant_int ⟨.int i,H,I.tok _,⟨_,rfl⟩,h⟩
theorem pe_bl {b j pos}:PE X (.Constant (.bool b) j pos) (tC (.bl b)):=λ_ _ _ H _ I h=>Constant_bool ⟨.bl b,H,I,rfl,h⟩
theorem Af {x j pos}:PE X (.Constant (.str x) j pos) (tC (.str x)):=λ_ _ _ H _ I h=>Calls.Constant_str ⟨.str x,H,I.tok _,⟨_,rfl⟩,h⟩
def Gl (X:Cx)(x:Str):Prop:=X.env.kindOf x=some .globalImplicit
theorem Gi (I:Inv X aA σ H s)(hg:Gl X x)(hm:X.mg x=some u)(h:Q u s)(hd:(x==("__debug__":Str))=false:=by decide):wpAny (model X.prog X.w) X.A (eval (.Name x pos) X.env) Q E s:=
 Calls.Name_function_global I.ok.kind hg (Calls.loadGlobal_global (by rw[I.ok.glob];exact I.mod.glob.keeps I.bk) hm h) hd
theorem TQ (I:Inv X aA σ H s)(hg:Gl X x)(hm:X.mg x=none)(hv:bootBuiltins x=some u)(h:Q u s)(hn:x≠"__name__":=by decide)(hd:(x==("__debug__":Str))=false:=by decide):wpAny (model X.prog X.w) X.A (eval (.Name x pos) X.env) Q E s:=by
 obtain⟨mb,h1,h2⟩:=I.mod.blt;exact Calls.Name_function_global I.ok.kind hg (Calls.loadGlobal_builtin (by rw[I.ok.glob];exact I.mod.glob.keeps I.bk) hm (by rw[I.ok.blt];exact h1.keeps I.bk) ((h2 x hn).trans hv) h) hd
variable {a b:Expr}{ta tb:TE}{pos:Pos}
def tB (t:TE):TT:=λσ H Q=>t σ H λx H1=>∃c,x=.bl c/\Q c H1
theorem zbG (h:PE X e t)(he:∀aW,isTrue e X.env aW=(do let v <- aW;standAt e.pos;holding [v] (truthy v)):=by intro _;rfl):PT X e (tB t):=by
 intro aA s σ H Q I hw;refine isTrue_plain (thn (h aA s σ H _ I hw) λv s1 ⟨x,H1,I1,r1,q1⟩=>?_) (he _);obtain⟨d,rfl,q⟩:=q1;cases r1;exact wpAny_truthy_bool ⟨H1,I1,q⟩
variable {tA tB':TT}{Yy:List Expr}
def tAnd (t u:TT):TT:=λσ H Q=>t σ H λc H1=>if c=true then u σ H1 Q else Q false H1
def tOr (t u:TT):TT:=λσ H Q=>t σ H λc H1=>if c=true then Q true H1 else u σ H1 Q
def tNot (t:TT):TT:=λσ H Q=>t σ H λc H1=>Q (!c) H1
theorem zaC (ha:PT X a tA):PW X (.BoolOp .And [a] pos) tA:=by
 intro wh aA s σ H Q I h;refine isTrue_and (thn (ha aA s σ H Q I h) λc s1 e=>?_);cases c with
 | true=>exact isTrue_and_nil e
 | false=>exact e
theorem zc8 (ha:PT X a tA):PW X (.BoolOp .Or [a] pos) tA:=by
 intro wh aA s σ H Q I h;refine isTrue_or (thn (ha aA s σ H Q I h) λc s1 e=>?_);cases c with
 | false=>exact isTrue_or_nil e
 | true=>exact e
theorem AS (ha:PT X a tA)(hb:PW X (.BoolOp .And (b::Yy) pos) tB'):PW X (.BoolOp .And (a::b::Yy) pos) (tAnd tA tB'):=by
 intro wh aA s σ H Q I h;refine isTrue_and (thn (ha aA s σ H _ I h) λc s1 ⟨H1,I1,q1⟩=>?_);cases c with
 | true=>exact hb wh aA s1 σ H1 Q I1 q1
 | false=>exact⟨H1,I1,q1⟩
theorem pw_or (ha:PT X a tA)(hb:PW X (.BoolOp .Or (b::Yy) pos) tB'):PW X (.BoolOp .Or (a::b::Yy) pos) (tOr tA tB'):=by
 intro wh aA s σ H Q I h;refine isTrue_or (thn (ha aA s σ H _ I h) λc s1 ⟨H1,I1,q1⟩=>?_);cases c with
 | true=>exact⟨H1,I1,q1⟩
 | false=>exact hb wh aA s1 σ H1 Q I1 q1
theorem Dk (ha:PT X a tA):PT X (.UnaryOp .Not a pos) (tNot tA):=by
 intro aA s σ H Q I h;exact isTrue_not (ha aA s σ H (λc H1=>Q (!c) H1) I h)
def tAndV (ta tb:TE):TE:=λσ H Q=>ta σ H λx H1=>∃c,x=.bl c/\if c=true then tb σ H1 Q else Q (.bl false) H1
theorem DE {op}(h:PE X a t):PE X (.BoolOp op [a] pos) t:=λaA s σ H Q I hw=>BoolOp_one (h aA s σ H Q I hw)
theorem zcZ (ha:PE X a ta)(hb:PE X (.BoolOp .And (b::Yy) pos) tb):PE X (.BoolOp .And (a::b::Yy) pos) (tAndV ta tb):=by
 intro aA s σ H Q I h;refine BoolOp_and (thn (ha aA s σ H _ I h) λv s1 ⟨x,H1,I1,r1,q1⟩=>?_);obtain⟨c,rfl,q1⟩:=q1;cases r1;refine wpAny_truthy_bool ?_;cases c with
 | true=>exact hb aA s1 σ H1 Q I1 q1
 | false=>exact⟨.bl false,H1,I1,rfl,q1⟩
def tIf (t:TT)(ta tb:TE):TE:=λσ H Q=>t σ H λc H1=>if c=true then ta σ H1 Q else tb σ H1 Q
theorem zcg (hc:PT X c tA)(ha:PE X a ta)(hb:PE X b tb):PE X (.IfExp c a b pos) (tIf tA ta tb):=by
 intro aA s σ H Q I h;refine wpAny_IfExp (thn (hc aA s σ H _ I h) λd s1 ⟨H1,I1,q1⟩=>?_);cases d with
 | true=>exact ha aA s1 σ H1 Q I1 q1
 | false=>exact hb aA s1 σ H1 Q I1 q1
end
end L2
namespace L2
open PySem PySem.Spec PyProof.Rows
def SqL (K:Fg)(H:Hp)(a:Addr)(xs:List V):Prop:=
 Rd H a (.lst xs)\/
  ∃(o:Obj)(bB:Array Value)(n:Nat),K.lookup a=some o/\o.cls=.type "list"/\o.dict=none/\o.data=.seq bB n/\bB.size<=sizeLine/\ZF xs bB.toList
def SqT (K:Fg)(H:Hp)(a:Addr)(xs:List V):Prop:=
 Rd H a (.tup xs)\/
  ∃(o:Obj)(bB:Array Value)(n:Nat),K.lookup a=some o/\o.cls=.type "tuple"/\o.data=.seq bB n/\bB.size<=sizeLine/\ZF xs bB.toList
def absV:Value->Option V
 | .none=>some .non
 | .bool b=>some (.bl b)
 | .int i _=>some (.int i)
 | .str x _=>some (.str x)
 | .bytes b _=>some (.byt b)
 | .float b _=>some (.flt b)
 | .ref a=>some (.ref a)
 | .type n=>some (.ty n)
 | _=>none
theorem ZG.abs (r:ZG x u):absV u=some x:=by
 cases x with
 | non=>cases r;rfl
 | bl _=>cases r;rfl
 | int _=>obtain⟨t,rfl⟩:=r;rfl
 | str _=>obtain⟨t,rfl⟩:=r;rfl
 | byt _=>obtain⟨t,rfl⟩:=r;rfl
 | flt _=>obtain⟨t,rfl⟩:=r;rfl
 | ref _=>cases r;rfl
 | ty _=>cases r;rfl
theorem ZG.inj (r:ZG x u)(q:ZG y u):x=y:=Option.some.inj (r.abs.symm.trans q.abs)
theorem ZF.inj:∀ {xs ys:List V} {us:List Value},ZF xs us->ZF ys us->xs=ys
 | _,_,_,.nil,.nil=>rfl
 | _,_,_,.cons r t,.cons r' t'=>by rw[r.inj r',ZF.inj t t']
section
variable {X:Cx}{aA:LA}{σ:St}{H:Hp}{s:Shared}{a:Addr}{xs ys:List V}
theorem SqL.of {K:Fg}(h:H a=some (.lst xs)):SqL K H a xs:=.inl (.inl h)
theorem SqT.of {K:Fg}(h:H a=some (.tup xs)):SqT K H a xs:=.inl (.inl h)
theorem Inv.list (I:Inv X aA σ H s)(h:SqL X.K H a xs):∃bB:List Value,ZF xs bB/\PlainL s.heap a bB.toArray/\xs.length<=sizeLine:=by
 rcases h with h|⟨o,bB,n,hk,hc,hd,hs,hz,r⟩
 ·obtain⟨z,bB,n,r,e⟩:=h.ok I.hok;exact⟨bB,r,⟨_,n,e,rfl,rfl,rfl⟩,z⟩
 ·refine⟨bB.toList,r,⟨o,n,I.kIn a o hk,hc,hd,by simpa using hs⟩,?_⟩;have e:=r.length;simp only[Array.length_toList] at e;omega
theorem Inv.tuple (I:Inv X aA σ H s)(h:SqT X.K H a xs):∃bB:List Value,ZF xs bB/\IsTup s.heap a bB.toArray/\xs.length<=sizeLine:=by
 rcases h with h|⟨o,bB,n,hk,hc,hs,hz,r⟩
 ·obtain⟨z,bB,r,p⟩:=h.ok I.hok;exact⟨bB,r,p,z⟩
 ·refine⟨bB.toList,r,⟨o,I.kIn a o hk,hc,n,by simpa using hs⟩,?_⟩;have e:=r.length;simp only[Array.length_toList] at e;omega
theorem Inv.list_inj (I:Inv X aA σ H s)(h:SqL X.K H a xs)(h':SqL X.K H a ys):xs=ys:=by
 obtain⟨bB,r,⟨o,n,e,_,_,d⟩,_⟩:=I.list h;obtain⟨its',r',⟨o',n',e',_,_,d'⟩,_⟩:=I.list h';rw[e] at e';cases e'
 rw[d] at d';injection d' with d1 _
 have:bB=its':=by simpa using congrArg Array.toList d1
 subst this;exact r.inj r'
end
abbrev Cx.wish (X:Cx)(E:Value->Shared->Prop):Cx:={ X with xe:=E }
abbrev Cx.nox (X:Cx):Cx:=X.wish λ_ _=>False
theorem Cx.Ok.wish {X:Cx}(ok:X.Ok)(E:Value->Shared->Prop):(X.wish E).Ok:=
 ⟨ok.mod,ok.kind,ok.glob,ok.blt,ok.above,ok.inj,ok.has,ok.cab,ok.hd,ok.frames,ok.stk,ok.exf,ok.bs,ok.bsz,ok.noex,ok.exfs,ok.funs,ok.frf⟩
theorem Cx.Ok.unwish {X:Cx}{E:Value->Shared->Prop}(ok:(X.wish E).Ok):X.Ok:=
 ⟨ok.mod,ok.kind,ok.glob,ok.blt,ok.above,ok.inj,ok.has,ok.cab,ok.hd,ok.frames,ok.stk,ok.exf,ok.bs,ok.bsz,ok.noex,ok.exfs,ok.funs,ok.frf⟩
section
variable {X:Cx}{aA:LA}{σ:St}{H:Hp}{s:Shared}{E:Value->Shared->Prop}
theorem Inv.wish (I:Inv X aA σ H s)(E:Value->Shared->Prop):Inv (X.wish E) aA σ H s:=⟨I.ok.wish E,I.os,I.bare,I.base,I.loc,I.cell,I.free,I.freeC,I.pin,I.hok,I.len⟩
theorem Inv.unwish (I:Inv (X.wish E) aA σ H s):Inv X aA σ H s:=⟨I.ok.unwish,I.os,I.bare,I.base,I.loc,I.cell,I.free,I.freeC,I.pin,I.hok,I.len⟩
theorem SP.unwish (h:SP (X.wish E) aA D f s'):SP X aA D f s':=by
 cases f with
 | next=>obtain⟨σ',H',I,q⟩:=h;exact⟨σ',H',I.unwish,q⟩
 | brk=>obtain⟨σ',H',I,q⟩:=h;exact⟨σ',H',I.unwish,q⟩
 | cont=>obtain⟨σ',H',I,q⟩:=h;exact⟨σ',H',I.unwish,q⟩
 | ret u=>obtain⟨v,σ',H',I,r,q⟩:=h;exact⟨v,σ',H',I.unwish,r,q⟩
theorem PSs.nox {st:List Stmt}{t:TS}(h:PSs X.nox st t):PSs X st t:=λaA s σ H D I hw=>
 wpAny_mono (h aA s σ H D (I.wish _) hw) (λ_ _ q=>q.unwish) λ_ _ z=>False.elim z
end
section
variable {X:Cx}{st:Stmt}{Yy:List Stmt}{t u:TS}{e:Expr}{te:TE}{pos:Pos}
def tNext:TS:=λD σ H=>D.nx σ H
def tSeq (t u:TS):TS:=λD σ H=>t { D with nx:=u D } σ H
theorem Bz:PSs X [] tNext:=λ_ _ σ H _ I h=>wpAny_execs_nil ⟨σ,H,I,h⟩
theorem Eu (h1:PS X st t)(h2:PSs X Yy u):PSs X (st::Yy) (tSeq t u):=by
 intro aA s σ H D I h;refine wpAny_execs_cons (thn (h1 aA s σ H { D with nx:=u D } I h) λf s1 q=>?_);cases f with
 | next=>
  obtain⟨σ',H',I',q⟩:=q;exact h2 aA s1 σ' H' D I' q
 | ret v=>exact q
 | brk=>exact q
 | cont=>exact q
theorem zdl (h1:PS X st t):PSs X [st] t:=by
 intro aA s σ H D I h;refine wpAny_execs_cons (thn (h1 aA s σ H D I h) λf s1 q=>?_);cases f with
 | next=>exact wpAny_execs_nil q
 | ret v=>exact q
 | brk=>exact q
 | cont=>exact q
theorem Inv.quiet (I:Inv X aA σ H s):interactive X.env=false:=by simp[interactive,I.ok.kind]
def tDrop (te:TE):TS:=λD σ H=>te σ H λ_ H1=>D.nx σ H1
theorem zcd (he:PE X e te)(hs:swapsWith e none pos.line X.env=pure false:=by rfl):PS X (.Expr e pos) (tDrop te):=by
 intro aA s σ H D I h;exact wpAny_Expr_any (thn (he aA s σ H _ I h) λv s1 ⟨x,H1,I1,r1,q1⟩=>⟨σ,H1,I1,q1⟩) I.quiet hs
def tRet (te:TE):TS:=λD σ H=>te σ H D.rt
theorem zdk (he:PE X e te):PS X (.Return (some e) pos) (tRet te):=by
 intro aA s σ H D I h;exact wpAny_Return_some (thn (he aA s σ H _ I h) λv s1 ⟨x,H1,I1,r1,q1⟩=>⟨x,σ,H1,I1,r1,q1⟩)
def tIfS (c:TT)(t u:TS):TS:=λD σ H=>c σ H λb H1=>if b=true then t D σ H1 else u D σ H1
theorem ps_if (hc:PT X c tc)(ha:PSs X a t)(hb:PSs X b u):PS X (.If c a b pos) (tIfS tc t u):=by
 intro aA s σ H D I h;refine wpAny_If (thn (hc aA s σ H _ I h) λd s1 ⟨H1,I1,q1⟩=>?_);cases d with
 | true=>exact ha aA s1 σ H1 D I1 q1
 | false=>exact hb aA s1 σ H1 D I1 q1
def Cq:TS:=λ_ _ _=>False
theorem DW:PS X st Cq:=λ_ _ _ _ _ _ h=>h.elim
end
abbrev TG:=V->St->Hp->(St->Hp->Prop)->Prop
abbrev TGs:=List V->St->Hp->(St->Hp->Prop)->Prop
def PG (X:Cx)(target:Expr)(t:TG):Prop:=
 ∀(aA:LA)(s:Shared)(σ:St)(H:Hp)(v:V)(u:Value)(Q:St->Hp->Prop),Inv X aA σ H s->ZG v u->t v σ H Q->
  wpAny (model X.prog X.w) X.A (assign target X.env u) (λ_ s'=>∃σ' H',Inv X aA σ' H' s'/\Q σ' H') X.xe s
def PGs (X:Cx)(ts:List Expr)(t:TGs):Prop:=
 ∀(aA:LA)(s:Shared)(σ:St)(H:Hp)(vs:List V)(us:List Value)(Q:St->Hp->Prop),Inv X aA σ H s->ZF vs us->t vs σ H Q->
  wpAny (model X.prog X.w) X.A (assignInOrder ((assignEach ts X.env).map (·.2)) us) (λ_ s'=>∃σ' H',Inv X aA σ' H' s'/\Q σ' H') X.xe s
abbrev TSet:=V->V->V->Hp->(Hp->Prop)->Prop
def PSet (X:Cx)(t:TSet):Prop:=
 ∀(aA:LA)(s:Shared)(σ:St)(H:Hp)(o i v:V)(ov iv u:Value)(Q:Hp->Prop),Inv X aA σ H s->ZG o ov->ZG i iv->ZG v u->t o i v H Q->
  wpAny (model X.prog X.w) X.A (setItem ov iv u) (λ_ s'=>∃H',Inv X aA σ H' s'/\Q H') X.xe s
section
variable {X:Cx}{pos:Pos}
def Gw (i:Nat):TG:=λv σ H Q=>Q (σ.set i (some v)) H
theorem R8 (hN:X.N.Nodup)(hi:X.N[i]?=some x)(hx:Loc X.env.scope x)(hf:X.fn x=true\/X.env.scope.names.lookup x=some .local:=by first|exact .inl rfl|exact .inr rfl|assumption):PG X (.Name x pos) (Gw i):=by
 intro aA s σ H v u Q I r h;exact wpAny_assign_Name (MO I hN hi hx r (λs' I'=>⟨_,H,I',h⟩) hf)
def gNil:TGs:=λvs σ H Q=>vs=[]/\Q σ H
def gCons (t:TG)(u:TGs):TGs:=λvs σ H Q=>∃v r,vs=v::r/\t v σ H λσ' H'=>u r σ' H' Q
theorem Cw:PGs X [] gNil:=by
 intro aA s σ H vs us Q I r h;obtain⟨e,h⟩:=h;subst e;cases r;exact assignInOrder_nil ⟨σ,H,I,h⟩
theorem B9 (h1:PG X e t)(h2:PGs X es u)(hs:(assignEach (e::es) X.env).map (·.2)=assign e X.env::(assignEach es X.env).map (·.2):=by rfl):PGs X (e::es) (gCons t u):=by
 intro aA s σ H vs us Q I r h;obtain⟨v,vr,e1,h⟩:=h;subst e1;cases r with
 | cons r rr=>
  rw[hs];refine assignInOrder_cons (thn (h1 aA s σ H _ _ _ I r h) λ_ s1 ⟨σ1,H1,I1,q1⟩=>?_);exact h2 aA s1 σ1 H1 _ _ Q I1 rr q1
def TJ (K:Fg)(n:Nat)(t:TGs):TG:=λv σ H Q=>∃a xs,v=.ref a/\SqT K H a xs/\xs.length=n/\t xs σ H Q
theorem QL (hc:X.calm=true)(h:PGs X es t)(hn:(assignEach es X.env).length=n:=by rfl)(hst:(assignEach es X.env).findIdx? (·.1)=none:=by rfl):PG X (.Tuple es k pos) (TJ X.K n t):=by
 intro aA s σ H v u Q I r hw;obtain⟨a,xs,e1,hq,hl,hw⟩:=hw;subst e1;cases r;obtain⟨bB,rv,ht,hz⟩:=I.tuple hq;refine assign_Tuple_tuple (I.ok.hd hc) ht (by simp[hn,<- hl,rv.length]) hst λh' hx=>?_
 have I1:Inv X aA σ H { s with heap:=h' }:=I.kept (t':=s.toks) λb o e=>hx b o (zV (Heap.lt_size e)) e
 exact h aA _ σ H xs _ Q I1 (by simpa using rv) hw
def gSub (to ti:TE)(t:TSet):TG:=λv σ H Q=>to σ H λo H1=>ti σ H1 λi H2=>t o i v H2 λH3=>Q σ H3
theorem Cg (ho:PE X o to)(hi:PE X i ti)(hs:PSet X t)(ha:∀v,assign (.Subscript o i pos) X.env v=(do
   let ov <- holding [v] (eval o X.env)
   let iv <- holding [v,ov] (eval i X.env)
   standAt pos
   holding [v,ov,iv] (setItem ov iv v)
   release [v,ov,iv] []):=by intro _;rfl):PG X (.Subscript o i pos) (gSub to ti t):=by
 intro aA s σ H v u Q I r h;rw[ha];refine wpAny_bind (wpAny_holding (thn (ho aA s σ H _ I h) λov s1 ⟨x,H1,I1,r1,q1⟩=>?_));refine wpAny_bind (wpAny_holding (thn (hi aA s1 σ H1 _ I1 q1) λiv s2 ⟨y,H2,I2,r2,q2⟩=>?_));refine wpAny_bind (wpAny_standAt (wpAny_bind (wpAny_holding (thn (hs aA s2 σ H2 x y v ov iv u _ I2 r1 r2 r q2) λ_ s3 ⟨H3,I3,q3⟩=>?_))));exact wpAny_release ⟨σ,H3,I3,q3⟩
def tAsg (te:TE)(g:TG):TS:=λD σ H=>te σ H λx H1=>g x σ H1 D.nx
theorem Hx (he:PE X e te)(hg:PG X tg g)(hs:swapsWithSole [tg] e pos.line X.env=pure false:=by rfl)(hw:swappedStores [tg] e X.env=pure none:=by rfl)(h1:(assignEach [tg] X.env).map (·.2)=[assign tg X.env]:=by rfl):PS X (.Assign [tg] e pos) (tAsg te g):=by
 intro aA s σ H D I h;refine wpAny_Assign_stores (thn (he aA s σ H _ I h) λv s1 ⟨x,H1,I1,r1,q1⟩=>?_) hs hw;rw[h1];exact thn (hg aA s1 σ H1 x v _ I1 r1 q1) λ_ s2 q=>q
theorem zai (hN:X.N.Nodup)(hi:X.N[i]?=some x)(hx:Loc X.env.scope x)(he:PE X e te)(hs:swapsWith e (some (.Name x pos')) pos.line X.env=pure false:=by rfl)(hf:X.fn x=true\/X.env.scope.names.lookup x=some .local:=by first|exact .inl rfl|exact .inr rfl|assumption):
  PS X (.Assign [.Name x pos'] e pos) (tAsg te (Gw i)):=by
 intro aA s σ H D I h;refine wpAny_Assign_Name (thn (he aA s σ H _ I h) λv s1 ⟨y,H1,I1,r1,q1⟩=>?_) hs;exact MO I1 hN hi hx r1 (λs2 I2=>⟨_,H1,I2,q1⟩) hf
def tPar (i j:Nat)(ta:TA):TS:=λD σ H=>ta σ H λvs H1=>∃v w,vs=[v,w]/\D.nx ((σ.set i (some v)).set j (some w)) H1
theorem CH {kt k2 pt2}(hc:X.calm=true)(hN:X.N.Nodup)(hi:X.N[i]?=some x)(hj:X.N[j]?=some y)(hij:i≠j)(hx:X.env.scope.names.lookup x=some .local)(hy:X.env.scope.names.lookup y=some .local)(ha:PA X [a,b] ta)(hw:swappedStores [.Tuple [.Name x px,.Name y py] kt pt] (.Tuple [a,b] k2 pt2) X.env=pure (some [x,y]))(hs:swapsWithSole [.Tuple [.Name x px,.Name y py] kt pt] (.Tuple [a,b] k2 pt2) pos.line X.env=pure false:=by rfl):
  PS X (.Assign [.Tuple [.Name x px,.Name y py] kt pt] (.Tuple [a,b] k2 pt2) pos) (tPar i j ta):=by
 intro aA s σ H D I h;rw[exec_Assign_arm];refine wpAny_bind (wpAny_standAt ?_);rw[hs];refine wpAny_bind (wpAny_pure ?_);rw[if_neg (by decide)];refine wpAny_bind (Tuple_ (thn (ha _ aA s σ H _ I h) λus s1 ⟨vs,H1,I1,r1,q1⟩=>?_));obtain⟨v,w,e1,q1⟩:=q1;subst e1;obtain⟨u1,u2,rfl,rv,rw'⟩:∃u1 u2,us=[u1,u2]/\ZG v u1/\ZG w u2:=by
  cases r1 with
  | cons p q=>
   cases q with
   | cons p' q'=>
    cases q';exact⟨_,_,rfl,p,p'⟩
 refine wpAny_newObj_type ?_ (by show 2<=sizeLine;decide);have I2:Inv X aA σ H1 { s1 with heap:=s1.heap.push { cls:=.type "tuple",data:=.seq [u1,u2].toArray } }:=I1.kept (t':=s1.toks) λb o e=>Heap.get?_push_of_some _ e
 rw[hw];refine wpAny_bind (wpAny_pure ?_);show wpAny (model X.prog X.w) X.A (do rule "assign.swapped-stores";let items <- unpackItems (.ref s1.heap.objs.size) 2 none;assignInOrder [λv=>bindName X.env y v,λv=>bindName X.env x v] items.reverse;pure Flow.next) _ _ _;refine wpAny_bind (wpAny_rule (wpAny_bind (unpackItems_tuple (items:=#[u1,u2]) (I.ok.hd hc) (IsTup.new s1.heap _) λh' hx'=>?_)));have I3:=I2.kept (h':=h') (t':=s1.toks) λb o e=>hx' b o (zV (Heap.lt_size e)) e
 show wpAny _ _ (assignInOrder [λv=>bindName X.env y v,λv=>bindName X.env x v] [u2,u1] >>= λ_=>pure Flow.next) _ _ _;refine wpAny_bind (assignInOrder_cons (wpAny_bindName (MO I3 hN hj (.inl hy) rw' (λs2 I4=>?_) (.inr hy))));refine assignInOrder_cons (wpAny_bindName (MO I4 hN hi (.inl hx) rv (λs3 I5=>assignInOrder_nil (wpAny_pure ?_)) (.inr hx)));rw[List.set_comm _ _ (Ne.symm hij)] at I5;exact⟨_,H1,I5,q1⟩
end
section
variable {X:Cx}{pos:Pos}
def C0 (c:TT)(tb:TS):TS:=λD σ H=>∃W:Nat->St->Hp->Prop,(∃m,W m σ H)/\∀m σ H,W m σ H->
 c σ H λb H1=>if b=true then ∃N:St->Hp->Prop,(∀σ' H',N σ' H'->∃m',m'<m/\W m' σ' H')/\tb { D with nx:=N,ct:=N,bk:=D.nx } σ H1 else D.nx σ H1
theorem Co (hp:PassesOwn (model X.prog X.w) X.A X.env X.xe)(hc:PT X c tc)(hb:PSs X body tb):PS X (.While c body [] pos) (C0 tc tb):=by
 intro aA s σ H D I h;obtain⟨W,⟨m0,w0⟩,turn⟩:=h;refine wpAny_While (codeAny_whileLoop (λn s'=>∃σ' H',Inv X aA σ' H' s'/\W n σ' H') ?_ m0 ⟨σ,H,I,w0⟩);rintro n s1 ⟨σ1,H1,I1,w1⟩;refine wpAny_passesOwn hp (thn (hc aA s1 σ1 H1 _ I1 (turn n σ1 H1 w1)) λb s2 ⟨H2,I2,q2⟩=>?_);cases b with
 | true=>
  obtain⟨N,hN,q2⟩:=q2;rw[if_pos rfl];refine wpAny_passesOwn hp (thn (hb aA s2 σ1 H2 _ I2 q2) λf s3 q3=>?_);cases f with
  | next=>
   obtain⟨σ3,H3,I3,n3⟩:=q3;obtain⟨m',hm,w3⟩:=hN σ3 H3 n3;exact⟨m',hm,σ3,H3,I3,w3⟩
  | cont=>
   obtain⟨σ3,H3,I3,n3⟩:=q3;obtain⟨m',hm,w3⟩:=hN σ3 H3 n3;exact⟨m',hm,σ3,H3,I3,w3⟩
  | brk=>exact q3
  | ret v=>exact q3
 | false=>
  rw[if_neg zW];exact wpAny_execs_nil ⟨σ1,H2,I2,q2⟩
end
structure It where
 go:Nat->Hp->Prop
 yld:Nat->Hp->V->Hp->Prop
 stop:Nat->Hp->Prop
def Xc (X:Cx)(aA:LA)(H:Hp)(b:Addr):Prop:=
 H b=none/\b≠X.env.locals/\b ∉ X.fs/\(b∈X.ex\/X.s₀.heap.objs.size<=b)/\(∀x c,X.env.cells.lookup x=some c->c≠b)/\∀p∈X.pn++aA,p.1≠b
theorem Inv.fpOk {X:Cx}{aA:LA}{σ:St}{H H':Hp}{s:Shared}{b:Addr}(I:Inv X aA σ H s)(hb:s.heap.objs.size<=b)(hn:H' b=none):Xc X aA H' b:=by
 refine⟨hn,Nat.ne_of_gt (zZ I.lt hb),I.nofs hb,.inr (yI I.sz hb),λx c e z=>?_,λp hp z=>?_⟩
 ·obtain⟨v,q⟩:=I.cell x c e;exact absurd (zZ q.lt (by rw[z];exact hb)) (yH _)
 ·exact absurd (zZ (Heap.lt_size (I.pin p hp).1) (by rw[z];exact hb)) (yH _)
structure RU (P:Program)(w:World)(K:Fg)(tg:Expr)(J:It)(fp:List Addr)(it:Addr)(tn:Nat->Heap->Prop):Prop where
 mem:it∈fp
 obj:∀i h,tn i h->∀b∈fp,∃o,h.get? b=some o/\∀v,o.data≠.cell v
 keep:∀i h h',tn i h->(∀b∈fp,∀o,h.get? b=some o->h'.get? b=some o)->tn i h'
 item:∀(X:Cx),X.prog=P->X.w=w->X.K=K->X.calm=true->∀(i:Nat)(aA:LA)(s:Shared)(σ:St)(H:Hp)(E:Value->Shared->Prop),Inv X aA σ H s->(∀b∈fp,Xc X aA H b)->tn i s.heap->J.go i H->
  wpAny (model P w) X.A (pyNext (.ref it)) (λr s1=>∃u,r=some u/\
   wpAny (model P w) X.A (letOwnedTupleGo tg (.ref it) u) (λ_ s2=>∃x H',Inv X aA σ H' s2/\ZG x u/\J.yld i H x H'/\tn (i+1) s2.heap/\∀b∈fp,H' b=none) E s1) E s
 done:∀(X:Cx),X.prog=P->X.w=w->X.K=K->X.calm=true->∀(i:Nat)(aA:LA)(s:Shared)(σ:St)(H:Hp)(E:Value->Shared->Prop),Inv X aA σ H s->(∀b∈fp,Xc X aA H b)->tn i s.heap->J.stop i H->
  wpAny (model P w) X.A (pyNext (.ref it)) (λr s1=>r=none/\Inv X aA σ H s1) E s
 self:∀(A:Around)(i:Nat)(s:Shared)(Q:Value->Shared->Prop)(E:Value->Shared->Prop),tn i s.heap->Q (.ref it) s->wpAny (model P w) A (pyIter (.ref it)) Q E s
abbrev TI:=St->Hp->(It->Hp->Prop)->Prop
def PIE (X:Cx)(aA:LA)(σ:St)(tg:Expr)(R:It->Hp->Prop)(itv:Value)(s2:Shared):Prop:=
 ∃(it:Addr)(fp:List Addr)(tn:Nat->Heap->Prop)(J:It)(H':Hp),itv=.ref it/\Inv X aA σ H' s2/\RU X.prog X.w X.K tg J fp it tn/\tn 0 s2.heap/\(∀b∈fp,Xc X aA H' b)/\R J H'
def PI (X:Cx)(tg aY:Expr)(wi:TI):Prop:=
 ∀(aA:LA)(s:Shared)(σ:St)(H:Hp)(R:It->Hp->Prop),Inv X aA σ H s->wi σ H R->
  wpAny (model X.prog X.w) X.A (eval aY X.env) (λv s1=>wpAny (model X.prog X.w) X.A (pyIter v) (PIE X aA σ tg R) X.xe s1) X.xe s
theorem Gk (ho:s.heap.get? it=some o)(hc:o.cls=.type n)(hd:o.data=.fields vs)(hn:["enumerate","zip","dict_itemiterator","dict_reverseitemiterator","odict_iterator","itertools.zip_longest","itertools.pairwise"].contains n=false)(hQ:Q () s):wpAny M A (letOwnedTupleGo tg (.ref it) u) Q E s:=by
  unfold letOwnedTupleGo;cases tg<;>first
    | exact wpAny_pure hQ
    | (cases u<;>first
        | exact wpAny_pure hQ
        | (refine wpAny_bind (wpAny_load ho ?_)
           rw[hc,hd];show wpAny M A (if (["enumerate","zip","dict_itemiterator","dict_reverseitemiterator","odict_iterator","itertools.zip_longest","itertools.pairwise"].contains n&&vs[0]?==some (rawInt _))=true then _ else _) Q E s;rw[if_neg (by intro h;rw[hn,xM] at h;cases h)];exact wpAny_pure hQ))
def Itl (K:Fg)(a:Addr):It:=
 ⟨λi H=>∃xs x,SqL K H a xs/\xs[i]?=some x,λi H x H'=>H'=H/\∀xs,SqL K H a xs->xs[i]?=some x,λi H=>∃xs,SqL K H a xs/\xs.length<=i⟩
def Itr (lo:Int)(n:Nat):It:=⟨λi _=>i<n,λi H x H'=>H'=H/\x=.int (lo+i),λi _=>n<=i⟩
theorem zbr {P:Program}{w:World}{K:Fg}{tg:Expr}(a it:Addr):RU P w K tg (Itl K a) [it] it (λi h=>h.IsListIter it a i) where
 mem:=by simp
 obj:=λi h st b hb=>by
  have e:b=it:=by simpa using hb
  subst e;obtain⟨o,e,c,d⟩:=st;exact⟨o,e,λv z=>by rw[d] at z;cases z⟩
 keep:=λi h h' st k=>st.at λo e=>k it (by simp) o e
 item:=by
  intro X hP hw hK hc i aA s σ H E I hf st hg;subst hP hw hK;obtain⟨xs,x,hq,hx⟩:=hg;obtain⟨bB,rv,p,hz⟩:=I.list hq;obtain⟨u,hu,ru⟩:=rv.get hx;obtain⟨f0,f1,f2,f3,f4,f5⟩:=hf it (by simp);refine wpAny_pyNext_list_item st p.isList (x:=u) (by simpa using hu) λh' st' sb=>?_
  have I1:Inv X aA σ H { s with heap:=h' }:=I.turned (t':=s.toks) (λb o hb e=>(sb.2 b hb).trans e) f0 f1 f3 f4 f5;obtain⟨o,e,c,d⟩:=id st';exact⟨u,rfl,Gk (s:={ s with heap:=h' }) e c d (by decide) ⟨x,H,I1,ru,⟨rfl,λys hy=>by rw[I.list_inj hy hq];exact hx⟩,st',λb hb=>(hf b hb).1⟩⟩
 done:=by
  intro X hP hw hK hc i aA s σ H E I hf st hg;subst hP hw hK;obtain⟨xs,hq,hx⟩:=hg;obtain⟨bB,rv,p,hz⟩:=I.list hq;obtain⟨f0,f1,f2,f3,f4,f5⟩:=hf it (by simp);have hl:=rv.length;exact wpAny_pyNext_list_end (I.ok.hd hc) st p.isList (by simp;omega) λh' eb=>⟨rfl,I.turned (t':=s.toks) (λb o hb e=>eb b o hb e) f0 f1 f3 f4 f5⟩
 self:=λ_ _ _ _ _ st h=>wpAny_pyIter_listiter st h
theorem E0 {P:Program}{w:World}{K:Fg}{tg:Expr}(it:Addr)(lo:Int)(n:Nat):RU P w K tg (Itr lo n) [it] it (λi h=>IsRangeIter h it (lo+(i:Nat)*1) ((n:Int)-(i:Nat)) 1) where
 mem:=by simp
 obj:=λi h st b hb=>by
  have e:b=it:=by simpa using hb
  subst e;exact⟨_,st,λv z=>by
   have z':Data.fields _=Data.cell v:=z;cases z'⟩
 keep:=λi h h' st k=>k it (by simp) _ st
 item:=by
  intro X hP hw hK hc i aA s σ H E I hf st hg;subst hP hw hK;obtain⟨f0,f1,f2,f3,f4,f5⟩:=hf it (by simp);have W:=Walks.range (prog:=X.prog) (w:=X.w) (I.ok.hd hc) it lo 1 n;refine W.item i s _ _ hg st λv h' tk hv st' kk=>?_
  obtain⟨t,rfl⟩:=hv;have I1:Inv X aA σ H { s with heap:=h',toks:=tk }:=I.turned (λb o hb e=>kk b o (by simpa using hb) e) f0 f1 f3 f4 f5;refine⟨_,rfl,Gk (s:={ s with heap:=h',toks:=tk }) (n:="range_iterator") st' rfl rfl (by decide) ⟨.int (lo+i),H,I1,⟨t,?_⟩,⟨rfl,rfl⟩,st',λb hb=>(hf b hb).1⟩⟩;rw[Int.mul_one]
 done:=by
  intro X hP hw hK hc i aA s σ H E I hf st hg;subst hP hw hK;obtain⟨f0,f1,f2,f3,f4,f5⟩:=hf it (by simp);exact wpAny_pyNext_range_end (I.ok.hd hc) st (by have:n<=i:=hg;omega) λh' eb=>⟨rfl,I.turned (t':=s.toks) (λb o hb e=>eb b o hb e) f0 f1 f3 f4 f5⟩
 self:=λ_ _ _ _ _ st h=>wpAny_pyIter_rangeiter st h
end L2
namespace L2
open PySem PySem.Spec PyProof.Rows
section
variable {X:Cx}{tg:Expr}
def HM (K:Fg)(tl:TE):TI:=λσ H R=>tl σ H λx H1=>∃a,x=.ref a/\(∃xs,SqL K H1 a xs)/\R (Itl K a) H1
theorem Jl {l:Expr}{tl:TE}(hl:PE X l tl):PI X tg l (HM X.K tl):=by
 intro aA s σ H R I h;refine thn (hl aA s σ H _ I h) λv s1 ⟨x,H1,I1,r1,q1⟩=>?_
 obtain⟨a,e,⟨xs,hq⟩,q⟩:=q1;subst e;cases r1;obtain⟨bB,rv,p,hz⟩:=I1.list hq;refine wpAny_pyIter_list p.isList ?_;refine⟨s1.heap.objs.size,[s1.heap.objs.size],_,_,H1,rfl,I1.kept (t':=s1.toks) λb o e=>Heap.get?_push_of_some _ e,zbr a _,⟨_,Heap.get?_push_size _ rfl,rfl,rfl⟩,λb hb=>?_,q⟩;have e:b=s1.heap.objs.size:=by simpa using hb
 subst e;exact I1.fpOk (zD _) (I1.hok.fresh (zD _))
theorem G6 {aA:LA}{σ:St}{H:Hp}{s:Shared}{R:It->Hp->Prop}{E:Value->Shared->Prop}{lo hi:Int}{t u v:Tok}{tk:Nat}(I:Inv X aA σ H s)(h1:-(2^62)<=lo)(h2:lo<2^62)(h3:-(2^62)<=hi)(h4:hi<2^62)
  (q:R (Itr lo (hi-lo).toNat) H):wpAny (model X.prog X.w) X.A (pyIter (.ref s.heap.objs.size)) (PIE X aA σ tg R) E { s with heap:=s.heap.push { cls:=.type "range",data:=.fields #[.int lo t,.int hi u,.int 1 v] },toks:=tk }:=by
 refine wpAny_pyIter_range (IsRange.new ..) (small_one h1 h2 h3 h4) ?_;have I1:Inv X aA σ H { s with heap:=s.heap.push { cls:=.type "range",data:=.fields #[.int lo t,.int hi u,.int 1 v] },toks:=tk }:=I.kept λb o e=>Heap.get?_push_of_some _ e
 refine⟨(s.heap.push { cls:=.type "range",data:=.fields #[.int lo t,.int hi u,.int 1 v] }).objs.size,[(s.heap.push { cls:=.type "range",data:=.fields #[.int lo t,.int hi u,.int 1 v] }).objs.size],_,_,H,rfl,
  I1.kept (t':=tk) λb o e=>Heap.get?_push_of_some _ e,E0 _ lo (hi-lo).toNat,?_,λb hb=>?_,q⟩
 ·have e1:lo+((0:Nat):Int)*1=lo:=by simp
  have e2:(((hi-lo).toNat:Nat):Int)-((0:Nat):Int)=Builtin.Range.rangeSize lo hi 1:=by rw[rangeSize_one];split<;>omega
  show IsRangeIter _ _ (lo+((0:Nat):Int)*1) ((((hi-lo).toNat:Nat):Int)-((0:Nat):Int)) 1;rw[e1,e2];exact Heap.get?_push_size _ rfl
 ·have e:b=(s.heap.push { cls:=.type "range",data:=.fields #[.int lo t,.int hi u,.int 1 v] }).objs.size:=by simpa using hb
  subst e;exact I1.fpOk (zD _) (I1.hok.fresh (zD _))
def FO (ta:TA):TI:=λσ H R=>ta σ H λvs H1=>∃j:Int,vs=[.int j]/\-(2^62)<=j/\j<2^62/\R (Itr 0 j.toNat) H1
def iRng2 (ta:TA):TI:=λσ H R=>ta σ H λvs H1=>∃i j:Int,vs=[.int i,.int j]/\(-(2^62)<=i/\i<2^62/\-(2^62)<=j/\j<2^62)/\R (Itr i (j-i).toNat) H1
theorem IH {a:Expr}{ta:TA}{p pos:Pos}(hg:Gl X "range")(hm:X.mg "range"=none)(ha:PA X [a] ta)(hs:starEach [a] X.env=[(false,eval a X.env)]:=by rfl):PI X tg (.Call (.Name "range" p) [a] [] pos) (FO ta):=by
 intro aA s σ H R I h;refine Call_ (TQ I hg hm boot_range (PyProof.Rows.callWith_type1 (thn (ha pos aA s σ H _ I h) λus s1 ⟨vs,H1,I1,r1,q1⟩=>?_) hs rfl));obtain⟨j,e,q1,q2,q⟩:=q1;subst e;cases r1 with
 | cons r rr=>
  cases rr;obtain⟨t,rfl⟩:=r;exact call_range_1 (G6 I1 (by omega) (by omega) q1 q2 (by simpa using q))
theorem AH (hg:Gl X "range")(hm:X.mg "range"=none)(ha:PA X [a,b] ta)(hs:starEach [a,b] X.env=[(false,eval a X.env),(false,eval b X.env)]:=by rfl)(hs2:starEach [b] X.env=[(false,eval b X.env)]:=by rfl):
  PI X tg (.Call (.Name "range" p) [a,b] [] pos) (iRng2 ta):=by
 intro aA s σ H R I h;refine Call_ (TQ I hg hm boot_range (PyProof.Rows.callWith_type1 (thn (ha pos aA s σ H _ I h) λus s1 ⟨vs,H1,I1,r1,q1⟩=>?_) (by rw[hs,hs2]) (by rw[hs2];rfl)));obtain⟨i,j,e,⟨q1,q2,q3,q4⟩,q⟩:=q1;subst e;cases r1 with
 | cons r rr=>
  cases rr with
  | cons r' rr=>
   cases rr;obtain⟨t,rfl⟩:=r;obtain⟨t',rfl⟩:=r';exact call_range_2 (G6 I1 q1 q2 q3 q4 q)
def tFor (wi:TI)(g:TG)(tb:TS):TS:=λD σ H=>wi σ H λJ H1=>∃W:Nat->Nat->St->Hp->Prop,(∃m,W 0 m σ H1)/\∀i m σ H,W i m σ H->
 (J.stop i H/\D.nx σ H)\/(J.go i H/\∃N:St->Hp->Prop,(∀σ' H',N σ' H'->∃m',m'<m/\W (i+1) m' σ' H')/\∀x H',J.yld i H x H'->g x σ H' λσ2 H2=>tb { D with nx:=N,ct:=N,bk:=D.nx } σ2 H2)
def Tr (fp:List Addr)(h:Heap):LA:=fp.filterMap λb=>(h.get? b).map λo=>(b,o)
theorem UM (hb:b∈fp)(e:h.get? b=some o):(b,o)∈Tr fp h:=List.mem_filterMap.mpr ⟨b,hb,by rw[e];rfl⟩
theorem E7 (hp:p∈Tr fp h):p.1∈fp/\h.get? p.1=some p.2:=by
 obtain⟨b,hb,e⟩:=List.mem_filterMap.mp hp;cases q:h.get? b with
 | none=>rw[q] at e;cases e
 | some o=>
  rw[q] at e;have e':(b,o)=p:=Option.some.inj e;subst e';exact⟨hb,q⟩
theorem Inv.pinned (I:Inv X aA σ H s)(hf:∀b∈fp,Xc X aA H b)(ho:∀b∈fp,∃o,s.heap.get? b=some o/\∀v,o.data≠.cell v):Inv X (aA++Tr fp s.heap) σ H s:=
 I.pins_of λp hp=>(yJ.mp hp).elim (λz=>I.pin p (yK _ z)) λz=>by
  obtain⟨hb,e⟩:=E7 z;obtain⟨f0,f1,f2,_⟩:=hf p.1 hb;obtain⟨o,e',d⟩:=ho p.1 hb;rw[e] at e';cases e'
  exact⟨e,f0,f1,f2,d⟩
theorem Inv.unpinned (I:Inv X (aA++pl) σ H s):Inv X aA σ H s:=I.pins_of λp hp=>I.pin p (yK _ (List.mem_append_left _ hp))
theorem ON (hp:PassesOwn (model X.prog X.w) X.A X.env X.xe)(hc:X.calm=true)(hi:PI X tg aY wi)(hg:PG X tg g)(hb:PSs X body tb)(hs:∀x,foldedSetIterable aY X.env x=pure x:=by intro _;rfl):PS X (.For tg aY body [] pos) (tFor wi g tb):=by
 intro aA s σ H D I h;refine wpAny_For (thn (hi aA s σ H _ I h) λv s1 h1=>thn h1 λitv s2 h2=>?_) hs;obtain⟨it,fp,tn,J,H2,e,I2,T,st2,f2,W,⟨m0,w0⟩,turn⟩:=h2;subst e;have stat:∀ {H':Hp},(∀b∈fp,H' b=none)->∀b∈fp,Xc X aA H' b:=λhn b hb=>⟨hn b hb,(f2 b hb).2⟩
 refine codeAny_forLoop_any (λn s'=>∃i σ' H',Inv X aA σ' H' s'/\tn i s'.heap/\(∀b∈fp,H' b=none)/\W i n σ' H') ?_ m0 ⟨0,σ,H2,I2,st2,λb hb=>(f2 b hb).1,w0⟩;rintro n s3 ⟨i,σ3,H3,I3,st3,fr3,w3⟩;rcases turn i n σ3 H3 w3 with ⟨stop,qn⟩|⟨go,N,hN,step⟩
 ·refine wpAny_passesOwn hp (thn (T.done X rfl rfl rfl hc i aA s3 σ3 H3 X.xe I3 (stat fr3) st3 stop) λr s4 ⟨hr,I4⟩=>?_);subst hr;exact wpAny_execs_nil ⟨σ3,H3,I4,qn⟩
 ·refine wpAny_passesOwn hp (thn (T.item X rfl rfl rfl hc i aA s3 σ3 H3 X.xe I3 (stat fr3) st3 go) λr s4 ⟨u,hr,h4⟩=>?_);subst hr;refine wpAny_passesOwn hp (thn h4 λ_ s5 ⟨x,H5,I5,r5,y5,st5,fr5⟩=>?_);have I5':=I5.pinned (stat fr5) (T.obj _ _ st5);refine wpAny_passesOwn hp (thn (hg _ s5 σ3 H5 x u _ I5' r5 (step x H5 y5)) λ_ s6 ⟨σ6,H6,I6,q6⟩=>?_);refine wpAny_passesOwn hp (thn (hb _ s6 σ6 H6 _ I6 q6) λf s7 q7=>?_);have again:∀ {σ7:St} {H7:Hp},Inv X (aA++Tr fp s5.heap) σ7 H7 s7->N σ7 H7->∃m,m<n/\∃i σ' H',Inv X aA σ' H' s7/\tn i s7.heap/\(∀b∈fp,H' b=none)/\W i m σ' H':=λ{σ7 H7} I7 n7=>by
   obtain⟨m',hm,w7⟩:=hN σ7 H7 n7;refine⟨m',hm,i+1,σ7,H7,I7.unpinned,T.keep _ _ _ st5 λb hb o e=>(I7.pin (b,o) (yK _ (yK _ (UM hb e)))).1,λb hb=>?_,w7⟩;obtain⟨o,e,d⟩:=T.obj _ _ st5 b hb;exact(I7.pin (b,o) (yK _ (yK _ (UM hb e)))).2.1
  cases f with
  | next=>obtain⟨σ7,H7,I7,n7⟩:=q7;exact again I7 n7
  | cont=>obtain⟨σ7,H7,I7,n7⟩:=q7;exact again I7 n7
  | brk=>obtain⟨σ7,H7,I7,q7⟩:=q7;exact⟨σ7,H7,I7.unpinned,q7⟩
  | ret v=>obtain⟨x7,σ7,H7,I7,r7,q7⟩:=q7;exact⟨x7,σ7,H7,I7.unpinned,r7,q7⟩
end
end L2
namespace L2
open PySem PySem.Spec PyProof.Rows
abbrev R2:=V->V->Hp->VK->Prop
def OpR (X:Cx)(f:Value->Value->Sem Value)(r:R2):Prop:=
 ∀(aA:LA)(s:Shared)(σ:St)(H:Hp)(x y:V)(v u:Value)(Q:VK),Inv X aA σ H s->ZG x v->ZG y u->r x y H Q->
  wpAny (model X.prog X.w) X.A (f v u) (EP X aA σ Q) X.xe s
def UnR (X:Cx)(f:Value->Sem Value)(r:V->Hp->VK->Prop):Prop:=
 ∀(aA:LA)(s:Shared)(σ:St)(H:Hp)(x:V)(v:Value)(Q:VK),Inv X aA σ H s->ZG x v->r x H Q->
  wpAny (model X.prog X.w) X.A (f v) (EP X aA σ Q) X.xe s
def Yq (X:Cx)(f:Value)(r:List V->Hp->VK->Prop):Prop:=
 ∀(aA:LA)(s:Shared)(σ:St)(H:Hp)(xs:List V)(us:List Value)(Q:VK),Inv X aA σ H s->ZF xs us->r xs H Q->
  wpAny (model X.prog X.w) X.A (call f us) (EP X aA σ Q) X.xe s
def tOp (r:R2)(ta tb:TE):TE:=λσ H Q=>ta σ H λx H1=>tb σ H1 λy H2=>r x y H2 Q
def tUn (r:V->Hp->VK->Prop)(ta:TE):TE:=λσ H Q=>ta σ H λx H1=>r x H1 Q
def rI (C:Int->Int->Prop)(g:Int->Int->V):R2:=λx y H Q=>∃i j,x=.int i/\y=.int j/\C i j/\Q (g i j) H
def rI0 (g:Int->Int->V):R2:=λx y H Q=>∃i j,x=.int i/\y=.int j/\Q (g i j) H
def rU (g:Int->V):V->Hp->VK->Prop:=λx H Q=>∃i,x=.int i/\Q (g i) H
section
variable {X:Cx}{a b c:Expr}{ta tb tc:TE}{pos:Pos}
theorem binT (ha:PE X a ta)(hb:PE X b tb){aA:LA}{s:Shared}{σ:St}{H:Hp}{R:V->V->Hp->Prop}(I:Inv X aA σ H s)
  (h:ta σ H λx H1=>tb σ H1 λy H2=>R x y H2){Q:Value->Shared->Prop}{f:Value->Value->Sem Value}
  (hf:∀v u s2 x y H2,Inv X aA σ H2 s2->ZG x v->ZG y u->R x y H2->wpAny (model X.prog X.w) X.A (f v u) Q X.xe s2):
  wpAny (model X.prog X.w) X.A (eval a X.env) (λv s₁=>wpAny (model X.prog X.w) X.A (eval b X.env) (λu s₂=>wpAny (model X.prog X.w) X.A (f v u) Q X.xe s₂) X.xe s₁) X.xe s:=by
 refine thn (ha aA s σ H _ I h) λv s1 ⟨x,H1,I1,r1,q1⟩=>?_
 refine thn (hb aA s1 σ H1 _ I1 q1) λu s2 ⟨y,H2,I2,r2,q2⟩=>?_
 exact hf v u s2 x y H2 I2 r1 r2 q2
theorem pe_op {op:Operator}{r:R2}(ho:OpR X (binaryOp op) r)(ha:PE X a ta)(hb:PE X b tb):PE X (.BinOp a op b pos) (tOp r ta tb):=by
 intro aA s σ H Q I h;exact wpAny_BinOp (binT ha hb I h λv u s2 x y H2 I2 rx ry q=>ho aA s2 σ H2 x y v u Q I2 rx ry q)
theorem pe_un (ho:UnR X (unaryOp op) r)(ha:PE X a ta):PE X (.UnaryOp op a pos) (tUn r ta):=by
 intro aA s σ H Q I h;exact UnaryOp_ (thn (ha aA s σ H _ I h) λv s1 ⟨x,H1,I1,r1,q1⟩=>ho aA s1 σ H1 x v Q I1 r1 q1)
theorem opI {f:Value->Value->Sem Value}{C:Int->Int->Prop}{g:Int->Int->Int}
  (rule:∀(i j:Int)(t u:Tok)(s:Shared)(Q:Value->Shared->Prop)(E:Value->Shared->Prop),C i j->Q (.int (g i j) s.toks) { s with toks:=s.toks+1 }->wpAny (model X.prog X.w) X.A (f (.int i t) (.int j u)) Q E s):
  OpR X f (rI C λi j=>.int (g i j)):=by
 intro aA s σ H x y v u Q I rx ry h;obtain⟨i,j,rfl,rfl,hc,q⟩:=h;obtain⟨t,rfl⟩:=rx;obtain⟨t',rfl⟩:=ry;exact rule i j t t' s _ _ hc ⟨.int (g i j),H,I.tok _,⟨_,rfl⟩,q⟩
theorem opI0 {f:Value->Value->Sem Value}{g:Int->Int->Int}
  (rule:∀(i j:Int)(t u:Tok)(s:Shared)(Q:Value->Shared->Prop)(E:Value->Shared->Prop),Q (.int (g i j) s.toks) { s with toks:=s.toks+1 }->wpAny (model X.prog X.w) X.A (f (.int i t) (.int j u)) Q E s):
  OpR X f (rI0 λi j=>.int (g i j)):=by
 intro aA s σ H x y v u Q I rx ry h;obtain⟨i,j,rfl,rfl,q⟩:=h;obtain⟨t,rfl⟩:=rx;obtain⟨t',rfl⟩:=ry;exact rule i j t t' s _ _ ⟨.int (g i j),H,I.tok _,⟨_,rfl⟩,q⟩
theorem LK {f:Value->Value->Sem Value}{g:Int->Int->Bool}
  (rule:∀(i j:Int)(t u:Tok)(s:Shared)(Q:Value->Shared->Prop)(E:Value->Shared->Prop),Q (.bool (g i j)) s->wpAny (model X.prog X.w) X.A (f (.int i t) (.int j u)) Q E s):
  OpR X f (rI0 λi j=>.bl (g i j)):=by
 intro aA s σ H x y v u Q I rx ry h;obtain⟨i,j,rfl,rfl,q⟩:=h;obtain⟨t,rfl⟩:=rx;obtain⟨t',rfl⟩:=ry;exact rule i j t t' s _ _ ⟨.bl (g i j),H,I,rfl,q⟩
def CPow (i j:Int):Prop:=0<=j/\j<=1000000/\i.natAbs<2^64
theorem Ag:OpR X (binaryOp .Add) (rI0 λi j=>.int (i+j)):=opI0 λ_ _ _ _ _ _ _ q=>add_int q
theorem zcL:OpR X (binaryOp .Sub) (rI0 λi j=>.int (i-j)):=opI0 λ_ _ _ _ _ _ _ q=>sub_int q
theorem CB:OpR X (binaryOp .Mod) (rI (λ_ j=>0<j) λi j=>.int (i%j)):=opI λi j _ _ _ _ _ hc q=>by
 have h1:(0:Int)<j:=hc;exact mod_int' (by omega) (by rw[Int.fmod_eq_emod_of_nonneg i (by omega)];exact q)
theorem Cz:OpR X (binaryOp .Pow) (rI CPow λi j=>.int (i^j.toNat)):=opI λ_ _ _ _ _ _ _ hc q=>pow_int_small hc.1 hc.2.1 hc.2.2 q
theorem unI {f:Value->Sem Value}{g:Int->Int}
  (rule:∀(i:Int)(t:Tok)(s:Shared)(Q:Value->Shared->Prop)(E:Value->Shared->Prop),Q (.int (g i) s.toks) { s with toks:=s.toks+1 }->wpAny (model X.prog X.w) X.A (f (.int i t)) Q E s):
  UnR X f (rU λi=>.int (g i)):=by
 intro aA s σ H x v Q I rx h;obtain⟨i,rfl,q⟩:=h;obtain⟨t,rfl⟩:=rx;exact rule i t s _ _ ⟨.int (g i),H,I.tok _,⟨_,rfl⟩,q⟩
theorem zbD:UnR X (unaryOp .USub) (rU λi=>.int (-i)):=unI λ_ _ _ _ _ q=>neg_int q
end
def Ld:V->V->Bool
 | .non,.non=>true|.non,.int _=>true|.int _,.non=>true|.non,.bl _=>true|.bl _,.non=>true|.non,.str _=>true|.str _,.non=>true
 | .int _,.int _=>true|.bl _,.bl _=>true|.str _,.str _=>true|.byt _,.byt _=>true
 | .int _,.str _=>true|.str _,.int _=>true|.bl _,.str _=>true|.str _,.bl _=>true
 | _,_=>false
def rEq:R2:=λx y H Q=>Ld x y=true/\Q (.bl (decide (x=y))) H
def rNe:R2:=λx y H Q=>Ld x y=true/\Q (.bl (!decide (x=y))) H
theorem HQ:decide (V.int i=V.int j)=(i==j):=by
 rw[xN];simp
theorem HJ:decide (V.bl i=V.bl j)=(i==j):=by
 rw[xN];simp
theorem F8:decide (V.str i=V.str j)=(i==j):=by
 rw[xN];simp
theorem FH:decide (V.byt i=V.byt j)=(i.toList==j.toList):=by
 rw[xN];cases i;cases j;simp
section
variable {X:Cx}{a b c:Expr}{ta tb tc:TE}{pos:Pos}
theorem Yh (I:Inv X aA σ H s)(q:Q (.bl k) H)(e:k=k'):EP X aA σ Q (.bool k') s:=by
 subst e;exact⟨.bl k,H,I,rfl,q⟩
theorem Kr:OpR X (compareOp .Eq) rEq:=by
 intro aA s σ H x y v u Q I rx ry h;obtain⟨hs,q⟩:=h;cases x with
 | non=>
  cases rx;cases y with
  | non=>cases ry;exact PySem.EqNone.eq_none_none (Yh I q (by simp))
  | bl j=>cases ry;exact PySem.EqNone.eq_none_bool (Yh I q (by simp))
  | int j=>obtain⟨t',rfl⟩:=ry;exact PySem.EqNone.eq_none_int (Yh I q (by simp))
  | str j=>obtain⟨t',rfl⟩:=ry;exact PySem.EqNone.eq_none_str (Yh I q (by simp))
  | _=>exact absurd (show false=true from hs) zW
 | bl i=>
  cases rx;cases y with
  | non=>cases ry;exact PySem.EqNone.eq_bool_none (Yh I q (by simp))
  | bl j=>cases ry;exact eq_bool (Yh I q HJ)
  | str j=>obtain⟨t',rfl⟩:=ry;exact PySem.EqMixed.eq_bool_str (Yh I q (by simp))
  | _=>exact absurd (show false=true from hs) zW
 | int i=>
  obtain⟨t,rfl⟩:=rx;cases y with
  | non=>cases ry;exact PySem.EqNone.eq_int_none (Yh I q (by simp))
  | int j=>obtain⟨t',rfl⟩:=ry;exact eq_int (Yh I q HQ)
  | str j=>obtain⟨t',rfl⟩:=ry;exact PySem.EqMixed.eq_int_str (Yh I q (by simp))
  | _=>exact absurd (show false=true from hs) zW
 | str i=>
  obtain⟨t,rfl⟩:=rx;cases y with
  | non=>cases ry;exact PySem.EqNone.eq_str_none (Yh I q (by simp))
  | bl j=>cases ry;exact PySem.EqMixed.eq_str_bool (Yh I q (by simp))
  | int j=>obtain⟨t',rfl⟩:=ry;exact PySem.EqMixed.eq_str_int (Yh I q (by simp))
  | str j=>obtain⟨t',rfl⟩:=ry;exact eq_str (Yh I q F8)
  | _=>exact absurd (show false=true from hs) zW
 | byt i=>
  obtain⟨t,rfl⟩:=rx;cases y with
  | byt j=>obtain⟨t',rfl⟩:=ry;exact PySem.W.eq_bytes (Yh I q FH)
  | _=>exact absurd (show false=true from hs) zW
 | _=>cases y<;>exact absurd (show false=true from hs) zW
theorem op_ne:OpR X (compareOp .NotEq) rNe:=by
 intro aA s σ H x y v u Q I rx ry h;obtain⟨hs,q⟩:=h;cases x with
 | non=>
  cases rx;cases y with
  | non=>cases ry;exact PySem.EqNone.ne_none_none (Yh I q (by simp))
  | bl j=>cases ry;exact PySem.EqNone.ne_none_bool (Yh I q (by simp))
  | int j=>obtain⟨t',rfl⟩:=ry;exact PySem.EqNone.ne_none_int (Yh I q (by simp))
  | str j=>obtain⟨t',rfl⟩:=ry;exact PySem.EqNone.ne_none_str (Yh I q (by simp))
  | _=>exact absurd (show false=true from hs) zW
 | bl i=>
  cases rx;cases y with
  | non=>cases ry;exact PySem.EqNone.ne_bool_none (Yh I q (by simp))
  | bl j=>cases ry;exact ne_bool (Yh I q (congrArg not HJ))
  | str j=>obtain⟨t',rfl⟩:=ry;exact PySem.EqMixed.ne_bool_str (Yh I q (by simp))
  | _=>exact absurd (show false=true from hs) zW
 | int i=>
  obtain⟨t,rfl⟩:=rx;cases y with
  | non=>cases ry;exact PySem.EqNone.ne_int_none (Yh I q (by simp))
  | int j=>obtain⟨t',rfl⟩:=ry;exact ne_int (Yh I q (congrArg not HQ))
  | str j=>obtain⟨t',rfl⟩:=ry;exact PySem.EqMixed.ne_int_str (Yh I q (by simp))
  | _=>exact absurd (show false=true from hs) zW
 | str i=>
  obtain⟨t,rfl⟩:=rx;cases y with
  | non=>cases ry;exact PySem.EqNone.ne_str_none (Yh I q (by simp))
  | bl j=>cases ry;exact PySem.EqMixed.ne_str_bool (Yh I q (by simp))
  | int j=>obtain⟨t',rfl⟩:=ry;exact PySem.EqMixed.ne_str_int (Yh I q (by simp))
  | str j=>obtain⟨t',rfl⟩:=ry;exact ne_str (Yh I q (congrArg not F8))
  | _=>exact absurd (show false=true from hs) zW
 | byt i=>
  obtain⟨t,rfl⟩:=rx;cases y with
  | byt j=>obtain⟨t',rfl⟩:=ry;exact PySem.W.ne_bytes (Yh I q (congrArg not FH))
  | _=>exact absurd (show false=true from hs) zW
 | _=>cases y<;>exact absurd (show false=true from hs) zW
theorem op_lt:OpR X (compareOp .Lt) (rI0 λi j=>.bl (decide (i<j))):=LK λ_ _ _ _ _ _ _ q=>lt_int q
theorem op_le:OpR X (compareOp .LtE) (rI0 λi j=>.bl (decide (i<=j))):=LK λ_ _ _ _ _ _ _ q=>le_int q
theorem op_gt:OpR X (compareOp .Gt) (rI0 λi j=>.bl (decide (j<i))):=LK λ_ _ _ _ _ _ _ q=>gt_int q
theorem op_ge:OpR X (compareOp .GtE) (rI0 λi j=>.bl (decide (j<=i))):=LK λ_ _ _ _ _ _ _ q=>ge_int q
theorem ZE (b:Expr)(h:op≠.In:=by decide)(h2:op≠.NotIn:=by decide):behindInMarks op b=false:=by
 have e1:(op==CmpOp.In)=false:=by cases op<;>first|rfl|exact absurd rfl h
 have e2:(op==CmpOp.NotIn)=false:=by cases op<;>first|rfl|exact absurd rfl h2
 cases b<;>simp[behindInMarks,e1,e2]
theorem DI {op:CmpOp}{r:R2}(ho:OpR X (compareOp op) r)(ha:PE X a ta)(hb:PE X b tb)(hm:behindInMarks op b=false):PE X (.Compare a [op] [b] pos) (tOp r ta tb):=by
 intro aA s σ H Q I h;exact wpAny_Compare1 (binT ha hb I h λv u s2 x y H2 I2 rx ry q=>ho aA s2 σ H2 x y v u Q I2 rx ry q) hm
def Fp (t:TE):TT:=λσ H Q=>t σ H λx H'=>∃k,x=.bl k/\Q k H'
theorem DL (ho:OpR X (compareOp op) r)(ha:PE X a ta)(hb:PE X b tb)(hm:behindInMarks op b=false):PT X (.Compare a [op] [b] pos) (Fp (tOp r ta tb)):=by
 intro aA s σ H Q I h;refine wpAny_isTrue_Compare1 (thn (ha aA s σ H _ I h) λv s1 ⟨x,H1,I1,r1,q1⟩=>thn (hb aA s1 σ H1 _ I1 q1) λu s2 ⟨y,H2,I2,r2,q2⟩=>
  thn (ho aA s2 σ H2 x y v u _ I2 r1 r2 q2) λc s3 ⟨z,H3,I3,r3,k,e,q3⟩=>?_) hm
 subst e;cases r3;exact wpAny_truthy_bool ⟨H3,I3,q3⟩
def GZ (r r':R2)(ta tb tc:TE):TE:=λσ H Q=>ta σ H λx H1=>tb σ H1 λy H2=>r x y H2 λz H3=>∃k,z=.bl k/\
 (if k=true then tc σ H3 λw' H4=>r' y w' H4 Q else Q (.bl false) H3)
theorem DH (ho:OpR X (compareOp op) r)(ho':OpR X (compareOp op') r')(ha:PE X a ta)(hb:PE X b tb)(hc:PE X c tc)(hm:lastMarks [op,op'] [b,c]=false:=by with_unfolding_all rfl):PT X (.Compare a [op,op'] [b,c] pos) (Fp (GZ r r' ta tb tc)):=by
 intro aA s σ H Q I h;refine isTrue_chain (thn (ha aA s σ H _ I h) λv s1 ⟨x,H1,I1,r1,q1⟩=>test_link (thn (hb aA s1 σ H1 _ I1 q1) λu s2 ⟨y,H2,I2,r2,q2⟩=>
  thn (ho aA s2 σ H2 x y v u _ I2 r1 r2 q2) λd s3 ⟨z,H3,I3,r3,k,e,q3⟩=>?_)) hm
 subst e;cases r3;refine wpAny_truthy_bool ?_;cases k with
 | false=>
  obtain⟨k',e',q'⟩:=q3;cases e';exact ite_ff ⟨H3,I3,q'⟩
 | true=>
  refine ite_tt (test_last (thn (hc aA s3 σ H3 _ I3 q3) λw' s4 ⟨z',H4,I4,r4,q4⟩=>thn (ho' aA s4 σ H4 y z' u w' _ I4 r2 r4 q4) λd' s5 ⟨z2,H5,I5,r5,k2,e2,q5⟩=>?_));subst e2;cases r5;exact wpAny_truthy_bool ⟨H5,I5,q5⟩
theorem RE:(sizeLine:Nat)<2^63:=by rw[sizeLine_eq];decide
theorem X3 (r:ZF [x] us):∃u,us=[u]/\ZG x u:=by
 cases r with
 | cons r1 r2=>cases r2;exact⟨_,rfl,r1⟩
theorem Iw (r:ZF [x,y] us):∃u w',us=[u,w']/\ZG x u/\ZG y w':=by
 cases r with
 | cons r1 r2=>
  cases r2 with
  | cons r3 r4=>cases r4;exact⟨_,_,rfl,r1,r3⟩
theorem za9:Yq X (.builtin "abs") (λxs H Q=>∃i,xs=[.int i]/\Q (.int (if i<0 then -i else i)) H):=by
 intro aA s σ H xs us Q I r h;obtain⟨i,rfl,q⟩:=h;obtain⟨u,rfl,t,rfl⟩:=X3 r;exact call_abs_int λu tk=>⟨.int (if i<0 then -i else i),H,I.tok _,⟨_,rfl⟩,q⟩
theorem zbx (hc:X.calm=true):Yq X (.builtin "max") (λxs H Q=>∃i j,xs=[.int i,.int j]/\Q (.int (if j > i then j else i)) H):=by
 intro aA s σ H xs us Q I r h;obtain⟨i,j,rfl,q⟩:=h;obtain⟨u,w',rfl,⟨t,rfl⟩,⟨t',rfl⟩⟩:=Iw r;refine max_two_ints (I.ok.hd hc) λh' tk k=>⟨_,H,I.kept k,?_,q⟩
 by_cases hj:j > i
 ·rw[if_pos hj,if_pos hj];exact⟨_,rfl⟩
 ·rw[if_neg hj,if_neg hj];exact⟨_,rfl⟩
theorem Eg (hc:X.calm=true):Yq X (.builtin "min") (λxs H Q=>∃i j,xs=[.int i,.int j]/\Q (.int (if j<i then j else i)) H):=by
 intro aA s σ H xs us Q I r h;obtain⟨i,j,rfl,q⟩:=h;obtain⟨u,w',rfl,⟨t,rfl⟩,⟨t',rfl⟩⟩:=Iw r;refine min_two_ints (I.ok.hd hc) λh' tk k=>⟨_,H,I.kept k,?_,q⟩
 by_cases hj:j<i
 ·rw[if_pos hj,if_pos hj];exact⟨_,rfl⟩
 ·rw[if_neg hj,if_neg hj];exact⟨_,rfl⟩
end
end L2
namespace L2
open PySem PySem.Spec PyProof.Rows
structure Ur (h:Heap)(x dx C:Addr)(mA:Str->Option Value):Prop where
 obj:h.get? x=some (PySem.W.instObj C dx)
 ns:h.Ns1 dx mA
 ne:dx≠x
theorem za5 {h:Heap}{dx:Addr}{mA:Str->Option Value}(n:h.Ns1 dx mA):∃od,h.get? dx=some od/\∀name,PySem.W.lookIn name od=some (mA name):=by
 obtain⟨o,es,ep,ho,hd,hk,_,hm⟩:=n;refine⟨o,ho,λname=>?_⟩;have e:=hm name;unfold nsFind findBy at e;rw[<- Array.find?_toList] at e;unfold PySem.W.lookIn;rw[hd];dsimp only;split
 ·rename_i y q;rw[q] at e;exact congrArg some e
 ·rename_i q;rw[q] at e;have a:es.toList.any (·.refKey)=false:=by
   rw[List.any_eq_false];intro y hy;obtain⟨z,t,hkey⟩:=hk y (Array.mem_toList_iff.mp hy);simp[DictEntry.refKey,hkey]
  have a':¬ es.toList.any (·.refKey)=true:=by rw[a];exact zW
  rw[if_neg a'];exact congrArg some e
theorem Ur.look (I:Ur h x dx C mA):∃od,PySem.W.InstAt h x (PySem.W.instObj C dx) C (some od)/\∀name,PySem.W.lookIn name od=some (mA name):=
 let ⟨od,ho,hl⟩:=za5 I.ns
 ⟨od,⟨I.obj,rfl,rfl,ho⟩,hl⟩
section
variable {prog:Program}{w:World}{A:Around}{E:Value->Shared->Prop}{s:Shared}{K:Fg}{x dx C f:Addr}{mA:Str->Option Value}{name:Str}{v:Value}
theorem zdd (X:K.In s.heap)(I:Ur s.heap x dx C mA)(hg:PySem.W.plainGet K C name=true)(hh:PySem.W.hasDictIn K C=true)(ha:PySem.W.findIn K (.ref C) name=some none)(hv:mA name=some v)(hv':PySem.W.handedIn v=true)(h:Q v { s with toks:=s.toks+1 }):
  wpAny (model prog w) A (getAttr (.ref x) name expr) Q E s:=by
 obtain⟨od,J,hl⟩:=I.look;exact PySem.W.get_value X J (PySem.W.plainGet_of hg).1 (PySem.W.findObj_own hh ha rfl (by rw[hl,hv])) hv' h
theorem zdc (X:K.In s.heap)(I:Ur s.heap x dx C mA)(hg:PySem.W.plainGet K C name=true)(hf:PySem.W.findIn K (.ref C) name=some (some (.ref f)))(ht:PySem.W.isFn K (.ref f)=true)(hv:mA name=none)(h:Q (.ref f,[.ref x]) s):
  wpAny (model prog w) A (getMethod (.ref x) name pl) Q E s:=by
 obtain⟨od,J,hl⟩:=I.look;exact PySem.W.method_fn X J (PySem.W.plainGet_of hg).1 (PySem.W.plainGet_of hg).2 hf (beq_iff_eq.mp ht) (by show (PySem.W.lookIn name od).map (·.isSome)=some false;rw[hl,hv];rfl) h
theorem zbC (X:K.In s.heap)(I:Ur s.heap x dx C mA)(hs:PySem.W.findIn K (.ref C) "__setattr__"=some (some (.builtin "object.__setattr__")))(hp:PySem.W.plainOver K C=true)(ht:PySem.W.takerIn K C name=some none)(hh:PySem.W.hasDictIn K C=true)(hw:PySem.Within mA ns)(hsz:ns.length<=sizeLine)(h:∀h',Ur h' x dx C (λy=>if y=name then some v else mA y)->Heap.SameBut dx s.heap h'->Q () { s with heap:=h',toks:=s.toks+2 }):
  wpAny (model prog w) A (setAttr (.ref x) name v) Q E s:=by
 obtain⟨od,J,hl⟩:=I.look;refine PySem.W.set_plain X J hs (PySem.W.osa_open (s:={ s with toks:=s.toks+1 }) (r:=none) X J hp ht λb=>?_);obtain⟨cd,hc,hd'⟩:=PySem.W.any_some hh;have hx:s.heap.get? x=some ⟨.ref C,some dx,.plain,#[]⟩:=I.obj;refine wpAny_bind (wpAny_pure (wpAny_bind (wpAny_bind (wpAny_loadPart hx (wpAny_bind (PySem.W.Looks.here (s:={ s with toks:=s.toks+1 }) (PySem.W.looks_clsIn X hc) ?_))))));rw[hd'];refine wpAny_pure (a:=some dx) (wpAny_bind (wpAny_pure (wpAny_bind ?_)));refine wpAny_nsSet1 (s:={ s with toks:=s.toks+1 }) I.ns λh' hn2 hs2=>?_
 obtain⟨oD,esD,epD,hoD,hdD,hcD⟩:=hn2.count (PySem.Within.cons name v hw);refine wpAny_bind (wpAny_lookBehind hoD (by rw[hdD];exact pastItsLine_dict (yI hcD (by rw[zX];omega))) ?_);exact wpAny_pure (h _ ⟨(hs2.2 _ (Ne.symm I.ne)).trans I.obj,hn2,I.ne⟩ hs2)
theorem Ab (X:K.In s.heap)(hm:PySem.W.makesIn K C=true)(hi:PySem.W.findIn K (.ref C) "__init__"=some (some (.ref f)))(hf:PySem.W.typeIn K (.ref f)=some (.type "function"))(h:codeAny (model prog w) (A.under (.builtin "type.__call__" ⟨.ref C::vs,kw⟩)) (.call (.ref f) ⟨.ref (s.heap.objs.size+1)::vs,kw⟩) (PySem.W.InitBack (s.heap.objs.size+1) R)
   { s with heap:=(s.heap.push PySem.W.emptyDict).push (PySem.W.instObj C s.heap.objs.size) }):
  codeAny (model prog w) A (.call (.ref C) ⟨vs,kw⟩) R s:=by
 obtain⟨hh,g,d,t,os⟩:=s;exact PySem.W.make_core (PySem.W.makes_of X hm) (PySem.W.looks_findIn X hi) (λself=>PySem.W.bind_fn X self hf) (.inl rfl) h
end
def YQ (f:Str)(v:V):List (Str×V)->List (Str×V)
 | []=>[(f,v)]
 | (g,x)::r=>if g=f then (g,v)::r else (g,x)::YQ f v r
theorem Ga (f g:Str)(v:V):∀fs:List (Str×V),(YQ f v fs).lookup g=if g=f then some v else fs.lookup g
 | []=>by
  show List.lookup g [(f,v)]=_;by_cases h:g=f
  ·have hb:(g==f)=true:=beq_iff_eq.mpr h;simp only[List.lookup,hb,if_pos h]
  ·have hb:(g==f)=false:=beq_eq_false_iff_ne.mpr h;simp only[List.lookup,hb,if_neg h]
 | (k,x)::r=>by
  have ih:=Ga f g v r;rw[show YQ f v ((k,x)::r)=(if k=f then (k,v)::r else (k,x)::YQ f v r) from rfl];by_cases hk:k=f
  ·rw[if_pos hk];by_cases h:g=k
   ·have hb:(g==k)=true:=beq_iff_eq.mpr h;simp only[List.lookup,hb,if_pos (h.trans hk)]
   ·have hb:(g==k)=false:=beq_eq_false_iff_ne.mpr h;simp only[List.lookup,hb,if_neg (λe:g=f=>h (e.trans hk.symm))]
  ·rw[if_neg hk];by_cases h:g=k
   ·have hb:(g==k)=true:=beq_iff_eq.mpr h;simp only[List.lookup,hb,if_neg (λe:g=f=>hk (h.symm.trans e))]
   ·have hb:(g==k)=false:=beq_eq_false_iff_ne.mpr h;simp only[List.lookup,hb];exact ih
theorem JV (f:Str)(v:V):∀fs:List (Str×V),f∈(YQ f v fs).map (·.1)/\∀g,g∈fs.map (·.1)->g∈(YQ f v fs).map (·.1)
 | []=>⟨by simp[YQ],λg h=>by simp at h⟩
 | (k,x)::r=>by
  obtain⟨i1,i2⟩:=JV f v r;rw[show YQ f v ((k,x)::r)=(if k=f then (k,v)::r else (k,x)::YQ f v r) from rfl];by_cases hk:k=f
  ·rw[if_pos hk];subst hk;exact⟨by simp,λg h=>by simpa using h⟩
  ·rw[if_neg hk];refine⟨?_,λg h=>?_⟩
   ·rw[yU];exact yR _ i1
   ·rw[yU] at h ⊢;rcases zS.mp h with e|e
    ·exact zS.mpr (.inl e)
    ·exact yR _ (i2 g e)
theorem Ff (f:Str)(v:V):∀fs:List (Str×V),(YQ f v fs).length<=fs.length+1
 | []=>by simp[YQ]
 | (k,x)::r=>by
  have ih:=Ff f v r;rw[show YQ f v ((k,x)::r)=(if k=f then (k,v)::r else (k,x)::YQ f v r) from rfl];by_cases hk:k=f
  ·rw[if_pos hk,zX,zX];omega
  ·rw[if_neg hk,zX,zX];omega
theorem WH.some_of (r:WH (some v) o):∃u,o=some u/\ZG v u:=by
 cases o with
 | none=>exact(show False from r).elim
 | some u=>exact⟨u,rfl,r⟩
theorem WH.none_of (r:WH none o):o=none:=by
 cases o with
 | none=>rfl
 | some u=>exact(show False from r).elim
theorem DJ (r:ZG v u):PySem.W.handedIn u=true:=by
 cases v with
 | non=>cases (show u=Value.none from r);rfl
 | bl b=>cases (show u=Value.bool b from r);rfl
 | int i=>obtain⟨t,e⟩:=(show ∃t,u=Value.int i t from r);cases e;rfl
 | str x=>obtain⟨t,e⟩:=(show ∃t,u=Value.str x t from r);cases e;rfl
 | byt b=>obtain⟨t,e⟩:=(show ∃t,u=Value.bytes b t from r);cases e;rfl
 | flt b=>obtain⟨t,e⟩:=(show ∃t,u=Value.float b t from r);cases e;rfl
 | ref a=>cases (show u=Value.ref a from r);rfl
 | ty n=>cases (show u=Value.type n from r);rfl
section
variable {P:Program}{w:World}{H H':Hp}{h h':Heap}{a C dx:Addr}{fs fs':List (Str×V)}
theorem Kg (hok:HOk P w H h)(e:H a=some (.ins C dx fs)):∃mA,Ur h a dx C mA/\(∀f,WH (fs.lookup f) (mA f))/\PySem.Within mA (fs.map (·.1))/\fs.length<=1000/\H dx=some (.own a):=by
 obtain⟨d,z,ne,ob,mA,n,r,q⟩:=(show Xg P w H h a (.ins C dx fs) from hok a _ e);exact⟨mA,⟨ob,n,ne⟩,r,q,z,d⟩
end
structure Cls (K:Fg)(C:Addr):Prop where
 pg:PySem.W.plainGet K C Str.empty=true
 hd:PySem.W.hasDictIn K C=true
 po:PySem.W.plainOver K C=true
 sa:PySem.W.findIn K (.ref C) "__setattr__"=some (some (.builtin "object.__setattr__"))
theorem Cls.get {K:Fg}{C:Addr}(c:Cls K C)(f:Str):PySem.W.plainGet K C f=true:=c.pg
def YV (K:Fg)(C:Addr)(f:Str):Prop:=PySem.W.findIn K (.ref C) f=some none
theorem YV.taker {K:Fg}{C:Addr}{f:Str}(n:YV K C f):PySem.W.takerIn K C f=some none:=by
 unfold PySem.W.takerIn;rw[show PySem.W.findIn K (.ref C) f=some none from n];rfl
structure UO (K:Fg)(C:Addr)(m:Str)(f:Addr):Prop where
 at_:PySem.W.findIn K (.ref C) m=some (some (.ref f))
 fn:PySem.W.isFn K (.ref f)=true
 kp:PySem.W.keepIn K (.ref f)=true
section
variable {X:Cx}{aA:LA}{σ:St}{H:Hp}{s:Shared}{a C dx:Addr}{fs:List (Str×V)}{f:Str}{v:V}{A:Around}{E:Value->Shared->Prop}
theorem zbJ (I:Inv X aA σ H s)(e:H a=some (.ins C dx fs))(c:Cls X.K C)(n:YV X.K C f)(l:fs.lookup f=some v)(h:∀u s',Inv X aA σ H s'->ZG v u->Q u s'):wpAny (model X.prog X.w) A (getAttr (.ref a) f b) Q E s:=by
 obtain⟨mA,O,r,_,_,_⟩:=Kg I.hok e;obtain⟨u,hu,ru⟩:=WH.some_of (v:=v) (o:=mA f) (by rw[<- l];exact r f);exact zdd I.kIn O (c.get f) c.hd n hu (DJ ru) (h u _ (I.tok _) ru)
theorem FY (I:Inv X aA σ H s)(e:H a=some (.ins C dx fs))(c:Cls X.K C)(k:UO X.K C m g)(l:fs.lookup m=none)(h:Q (.ref g,[.ref a]) s):wpAny (model X.prog X.w) A (getMethod (.ref a) m pl) Q E s:=by
 obtain⟨mA,O,r,_,_,_⟩:=Kg I.hok e;have hn:mA m=none:=WH.none_of (by rw[<- l];exact r m);exact zdc I.kIn O (c.get m) k.at_ k.fn hn h
theorem zb9 (I:Inv X aA σ H s)(e:H a=some (.ins C dx fs))(c:Cls X.K C)(n:YV X.K C f)(hl:fs.length<1000)(ry:ZG y u)(h:∀s',Inv X aA σ (upd H a (.ins C dx (YQ f y fs))) s'->Q () s'):wpAny (model X.prog X.w) A (setAttr (.ref a) f u) Q E s:=by
 obtain⟨mA,O,r,wi,_,ho⟩:=Kg I.hok e;have hz:(fs.map (·.1)).length<=sizeLine:=by rw[zA,sizeLine_eq];omega
 refine zbC I.kIn O c.sa c.po n.taker c.hd wi hz λh' O' sb=>h _ ?_
 have hd:∃o,h'.get? dx=some o:=let ⟨o,_,_,e',_⟩:=O'.ns;⟨o,e'⟩
 refine I.write (x:=a) (e:=dx) (by rw[e];exact True.intro) (.inr ho) (λb q hb z=>(sb.2 b hb).trans z) hd ?_;refine⟨by rw[Yi O.ne];exact ho,?_,O.ne,O'.obj,_,O'.ns,λg=>?_,λg hg=>?_⟩
 ·have:=Ff f y fs;omega
 ·show WH ((YQ f y fs).lookup g) (if g=f then some u else mA g);rw[Ga];by_cases q:g=f
  ·rw[if_pos q,if_pos q];exact ry
  ·rw[if_neg q,if_neg q];exact r g
 ·by_cases q:g=f
  ·rw[q];exact(JV f y fs).1
  ·refine(JV f y fs).2 g (wi g λz=>hg ?_);show (if g=f then some u else mA g)=none;rw[if_neg q];exact z
theorem Inv.made (I:Inv X aA σ H s):Inv X aA σ (upd (upd H s.heap.objs.size (.own (s.heap.objs.size+1))) (s.heap.objs.size+1) (.ins C s.heap.objs.size []))
  { s with heap:=(s.heap.push PySem.W.emptyDict).push (PySem.W.instObj C s.heap.objs.size) }:=by
 have e1:(s.heap.push PySem.W.emptyDict).get? s.heap.objs.size=some PySem.W.emptyDict:=Heap.get?_push_size s.heap rfl
 have e2:((s.heap.push PySem.W.emptyDict).push (PySem.W.instObj C s.heap.objs.size)).get? (s.heap.objs.size+1)=some (PySem.W.instObj C s.heap.objs.size):=by
  have:=Heap.get?_push_size (s.heap.push PySem.W.emptyDict) (o:=PySem.W.instObj C s.heap.objs.size) rfl
  rwa [Heap.size_push] at this
 have e3:(s.heap.push PySem.W.emptyDict).Ns s.heap.objs.size (λ_=>none):=⟨PySem.W.emptyDict,#[],_,e1,rfl,(λe he=>absurd he (by simp)),λ_=>rfl⟩
 have I1:=I.laid (a:=s.heap.objs.size) (o:=.own (s.heap.objs.size+1)) (h':=s.heap.push PySem.W.emptyDict) (t':=s.toks) (λb u q=>Heap.get?_push_of_some _ q) (zD _) ⟨_,e1⟩;refine I1.laid (a:=s.heap.objs.size+1) (o:=.ins C s.heap.objs.size []) (t':=s.toks) (λb u q=>Heap.get?_push_of_some _ q) (Nat.le_of_eq (Heap.size_push _ _)) ?_;have ne:s.heap.objs.size≠s.heap.objs.size+1:=zV (Nat.lt_succ_self _);refine⟨by rw[Yi ne,Xs],zO _,ne,e2,λ_=>none,(Heap.Ns1.of_empty e3).at λo q=>Heap.get?_push_of_some _ q,λ_=>True.intro,λy hy=>absurd rfl hy⟩
theorem E3 (hb:attributeBase e f env (eval e env)=eval e env)(h:wpAny (model prog w) A (eval e env) (λo s₁=>wpAny (model prog w) A (getAttr o f true) Q E s₁) E s):wpAny (model prog w) A (eval (.Attribute e f pos) env) Q E s:=
 Attribute_any_ h (by rw[arm_eval_Attribute,hb])
end
def tFld (K:Fg)(ta:TE)(f:Str):TE:=λσ H Q=>ta σ H λx H1=>∃a C dx fs v,x=.ref a/\H1 a=some (.ins C dx fs)/\Cls K C/\YV K C f/\fs.lookup f=some v/\Q v H1
def sFld (K:Fg)(ta tv:TE)(f:Str):TS:=λD σ H=>tv σ H λy H1=>ta σ H1 λx H2=>∃a C dx fs,x=.ref a/\H2 a=some (.ins C dx fs)/\Cls K C/\YV K C f/\fs.length<1000/\
 D.nx σ (upd H2 a (.ins C dx (YQ f y fs)))
section
variable {X:Cx}{o e value:Expr}{f:Str}{pos pos' tpos:Pos}{ta tv:TE}
theorem Dj (he:PE X e ta)(hb:attributeBase e f X.env (eval e X.env)=eval e X.env):PE X (.Attribute e f pos) (tFld X.K ta f):=by
 intro aA s σ H Q I h;refine E3 hb (thn (he aA s σ H _ I h) λu s1 ⟨x,H1,I1,rx,a,C,dx,fs,v,ex,ea,c,n,l,q⟩=>?_);subst ex;obtain rfl:u=Value.ref a:=rx;exact zbJ I1 ea c n l λu' s2 I2 ru=>⟨v,H1,I2,ru,q⟩
theorem Cd (ha:PE X o ta)(hv:PE X value tv)(hs:swapsWith value (some (.Attribute o f pos')) pos.line X.env=pure false):PS X (.Assign [.Attribute o f pos'] value pos) (sFld X.K ta tv f):=by
 intro aA s σ H D I h;refine plainObj_wpAny_Assign_Attribute (thn (hv aA s σ H _ I h) λu s1 ⟨y,H1,I1,ry,q⟩=>thn (ha aA s1 σ H1 _ I1 q) λov s2 ⟨x,H2,I2,rx,a,C,dx,fs,ex,ea,c,n,l,q2⟩=>?_) hs;subst ex;obtain rfl:ov=Value.ref a:=rx;exact zb9 I2 ea c n l ry λs3 I3=>⟨σ,_,I3,q2⟩
end
section
variable {X:Cx}{aA:LA}{σ:St}{H:Hp}{s:Shared}{A:Around}{E:Value->Shared->Prop}{Q:Value->Shared->Prop}{c:Value}{b:Bool}
inductive Wf (K:Fg)(H:Hp):V->Value->Prop where
 | non:Wf K H .non (.type "NoneType")
 | bl (x:Bool):Wf K H (.bl x) (.type "bool")
 | int (i:Int):Wf K H (.int i) (.type "int")
 | str (x:Str):Wf K H (.str x) (.type "str")
 | flt (x:UInt64):Wf K H (.flt x) (.type "float")
 | lst {a:Addr} {xs:List V} (e:H a=some (.lst xs)):Wf K H (.ref a) (.type "list")
 | frz {a:Addr} {o:Obj} {xs:List V} (e:H a=some (.frz o (.lst xs))):Wf K H (.ref a) (.type "list")
 | tup {a:Addr} {xs:List V} (e:H a=some (.tup xs)):Wf K H (.ref a) (.type "tuple")
 | dK {a:Addr} {aZ:List (Key×V)} (e:H a=some (.dK aZ)):Wf K H (.ref a) (.type "dict")
 | dT {a:Addr} {aZ:List (List Key×V)} (e:H a=some (.dT aZ)):Wf K H (.ref a) (.type "dict")
 | ins {a C dx:Addr} {fs:List (Str×V)} (e:H a=some (.ins C dx fs)) (cl:Cls K C) (ha:PySem.W.findIn K (.ref C) "__class__"=some (some (.builtin "object.__class__")))
   (hn:PySem.W.specialIn K (.builtin "object.__class__") "__get__"=some (some (.builtin "getset_descriptor.__get__"))) (htk:PySem.W.takesIn K (.builtin "object.__class__")=some true)
   (hm:PySem.W.mroIn K C (.type "object")=some true):Wf K H (.ref a) (.ref C)
end
end L2
namespace L2
open PySem PySem.Spec PyProof.Rows
structure Z5 (k:Nat)(A:Around):Prop where
 hd:A.handled=none
 dp:A.depth+3*k+5<recursionLimit
 un:A.units+16*k+200<cLine
theorem Z5.mono {j k:Nat}{A:Around}(r:Z5 k A)(h:j<=k):Z5 j A:=⟨r.hd,by have:=r.dp;omega,by have:=r.un;omega⟩
theorem Z5.deeper {k:Nat}{A:Around}(r:Z5 (k+1) A)(env:Env):Z5 k (A.deeper env):=
 ⟨r.hd,by have:=r.dp;show A.depth+1+3*k+5<_;omega,by have:=r.un;show A.units+3+16*k+200<_;omega⟩
theorem CI {A:Around}{C:Addr}{us:List Value}{kw:List (Str×Value)}:(A.under (.builtin "type.__call__" ⟨.ref C::us,kw⟩)).depth=A.depth+1:=by
 first|rfl|simp[Around.under,Code.weight,Code.isCreation,Code.isGuard,Code.isCaller,Code.frames,Code.isFrame,guardIds]
theorem zcn {A:Around}{C:Addr}{us:List Value}{kw:List (Str×Value)}:(A.under (.builtin "type.__call__" ⟨.ref C::us,kw⟩)).units=A.units+1:=by
 first|rfl|simp[Around.under,Code.cUnits,Code.frames,Code.isFrame]
theorem Z5.make {k:Nat}{A:Around}(r:Z5 (k+1) A)(C:Addr)(us:List Value)(kw:List (Str×Value)):Z5 k (A.under (.builtin "type.__call__" ⟨.ref C::us,kw⟩)):=
 ⟨r.hd,by have:=r.dp;rw[CI];omega,by have:=r.un;rw[zcn];omega⟩
theorem Z5.depth {k:Nat}{A:Around}(r:Z5 k A):A.depth<recursionLimit:=by have:=r.dp;omega
def tNil:TA:=λ_ H Q=>Q [] H
def tCons (ta:TE)(tr:TA):TA:=λσ H Q=>ta σ H λx H1=>tr σ H1 λxs H2=>Q (x::xs) H2
section
variable {X:Cx}{e:Expr}{es:List Expr}{te:TE}{t:TA}{pos:Pos}
theorem ID:PA X [] tNil:=λ_ _ _ _ H Q I h=>Calls.spliced_nil ⟨[],H,I,.nil,h⟩
theorem Jp (ha:PE X e te)(hr:PA X es t)(hs:starEach (e::es) X.env=(false,eval e X.env)::starEach es X.env:=by rfl):PA X (e::es) (tCons te t):=by
 intro pos aA s σ H Q I h;rw[hs];show wpAny _ _ (spliced ((false,eval e X.env)::backTo pos (starEach es X.env))) _ _ s;refine Calls.spliced_cons (thn (ha aA s σ H _ I h) λu s1 ⟨x,H1,I1,r1,q1⟩=>?_);exact thn (hr pos aA s1 σ H1 _ I1 q1) λus s2 ⟨xs,H2,I2,r2,q2⟩=>⟨x::xs,H2,I2,.cons r1 r2,q2⟩
def tTup (t:TA):TE:=λσ H Q=>t σ H λxs H1=>xs.length<=sizeLine/\∀p,H1 p=none->Q (.ref p) (upd H1 p (.tup xs))
def tLst (t:TA):TE:=λσ H Q=>t σ H λxs H1=>xs.length<=sizeLine/\∀p,H1 p=none->Q (.ref p) (upd H1 p (.lst xs))
theorem Bp {x1}(h:PA X es t):PE X (.Tuple es x1 pos) (tTup t):=by
 intro aA s σ H Q I hq;refine wpAny_Tuple_spliced (thn (h pos aA s σ H _ I hq) λus s1 ⟨xs,H1,I1,r,z,q⟩=>⟨by rw[<- r.length];exact z,?_⟩);have hf:H1 s1.heap.objs.size=none:=I1.hok.fresh (zD _);refine⟨.ref s1.heap.objs.size,upd H1 s1.heap.objs.size (.tup xs),I1.laid (t':=s1.toks) (λb u e=>Heap.get?_push_of_some _ e) (zD _) ?_,rfl,q _ hf⟩;exact⟨z,us,r,⟨_,Heap.get?_push_size _ rfl,rfl,_,rfl⟩⟩
theorem BF (h:PA X es t):PE X (.List es pos) (tLst t):=by
 intro aA s σ H Q I hq;refine wpAny_List_spliced (thn (h pos aA s σ H _ I hq) λus s1 ⟨xs,H1,I1,r,z,q⟩=>⟨by rw[<- r.length];exact z,?_⟩);have hf:H1 s1.heap.objs.size=none:=I1.hok.fresh (zD _);refine⟨.ref s1.heap.objs.size,upd H1 s1.heap.objs.size (.lst xs),I1.laid (t':=s1.toks) (λb u e=>Heap.get?_push_of_some _ e) (zD _) ?_,rfl,q _ hf⟩;exact⟨z,us,0,r,Heap.get?_push_size _ rfl⟩
end
abbrev Sp:=List V->Hp->VK->XK->Prop
abbrev CXT:=List Env->Hp->Shared->XK->Value->Shared->Prop
structure Ui (P:Program)(w:World)(K:Fg)(mg:Str->Option Value)(base:Heap)(A:Around)(outer:List Env)(s:Shared)(H:Hp):Prop where
 frames:A.frames=some outer
 mod:Mod K mg base
 bs:∀b o,base.get? b=some o->s.heap.get? b=some o/\H b=none
 bsz:base.objs.size<=s.heap.objs.size
 funs:s.heap.FunFrames base outer
 frf:∀b∈frs outer,H b=none
 hok:HOk P w H s.heap
 bare:AllBare s.gens
def CE (outer:List Env)(P:Program)(w:World)(H:Hp)(s:Shared)(Q:VK)(u:Value)(s':Shared):Prop:=
 ∃v H',s'.os=s.os/\AllBare s'.gens/\Un (frs outer) [] H H' s.heap s'.heap/\HOk P w H' s'.heap/\ZG v u/\Q v H'
def CR (CX:CXT)(outer:List Env)(P:Program)(w:World)(H:Hp)(s:Shared)(Q:VK)(E:XK)(r:Result)(s':Shared):Prop:=
 match r with
 | .ok (.ret u)=>CE outer P w H s Q u s'
 | .ok _=>False
 | .error e=>CX outer H s E e s'
structure YL (P:Program)(w:World)(K:Fg)(mg:Str->Option Value)(base:Heap)(CX:CXT)(k:Nat)(f:Addr)(fd:FuncData)(ps:List Str)(sp:Sp):Prop where
 len:∀vs H Q E,sp vs H Q E->vs.length=ps.length
 run:∀(A:Around)(outer:List Env)(s:Shared)(H:Hp)(args:Args)(us:List Value)(vs:List V)(Q:VK)(E:XK),Z5 k A->Ui P w K mg base A outer s H->BindsTo s fd args (ps.zip us)->ZF vs us->sp vs H Q E->
  codeAny (model P w) A (.call (.ref f) args) (CR CX outer P w H s Q E) s
theorem Ui.make {P:Program}{w:World}{K:Fg}{mg:Str->Option Value}{base:Heap}{A:Around}{outer:List Env}{s:Shared}{H:Hp}(e:Ui P w K mg base A outer s H)(C:Addr)(us:List Value)(kw:List (Str×Value)):
  Ui P w K mg base (A.under (.builtin "type.__call__" ⟨.ref C::us,kw⟩)) outer s H:=⟨by first|exact e.frames|(simpa [Around.under,Code.envs,Code.isFrame,pushEnvs] using e.frames),e.mod,e.bs,e.bsz,e.funs,e.frf,e.hok,e.bare⟩
section
variable {X:Cx}{aA:LA}{σ:St}{H:Hp}{s s':Shared}
theorem Inv.env0 (I:Inv X aA σ H s):Ui X.prog X.w X.K X.mg X.base X.A X.stack s H:=
 ⟨I.ok.frames,I.ok.mod,I.bs,yI I.ok.bsz I.sz,I.stack,I.stkFree,I.hok,I.bare⟩
theorem Inv.after (I:Inv X aA σ H s)(h:CE X.stack X.prog X.w H s Q u s'):EP X aA σ Q u s':=by
 obtain⟨v,H',os,bare,un,hok,r,q⟩:=h;obtain⟨hh,g,d,t,os'⟩:=s';obtain rfl:os'=s.os:=os;exact⟨v,H',I.call (h':=hh) (g':=g) (d':=d) (t':=t) (ch:=[]) un hok bare (λb z=>absurd z (by simp)),r,q⟩
end
def tMake (C:Addr)(sp:Sp)(dvs:List V)(E:XK)(t:TA):TE:=λσ H Q=>t σ H λvs H1=>∀x dx,H1 x=none->H1 dx=none->dx≠x->
 sp (.ref x::(vs++dvs)) (upd (upd H1 dx (.own x)) x (.ins C dx [])) (λv H2=>v=.non/\Q (.ref x) H2) E
def Xl (K:Fg)(fd:FuncData)(ps:List Str)(ds:List Value):Prop:=
 ∀(s:Shared)(us:List Value),K.In s.heap->(us++ds).length=ps.length->BindsTo s fd ⟨us,[]⟩ (ps.zip (us++ds))
theorem Xl.all {K:Fg}{fd:FuncData}{ps:List Str}(h:∀us:List Value,us.length=ps.length->bindArgs fd ⟨us,[]⟩=pure (ps.zip us)):Xl K fd ps []:=λs us _ hl=>by
 rw[xD] at hl ⊢;exact .of_eq (h us hl)
def Pw (CX:CXT)(X:Cx)(E:XK):Prop:=∀(aA:LA)(σ:St)(H:Hp)(s:Shared)(e:Value)(s':Shared),Inv X aA σ H s->CX X.stack H s E e s'->X.xe e s'
section
variable {X:Cx}{CX:CXT}{k:Nat}{f C:Addr}{fd:FuncData}{ps:List Str}{sp:Sp}{dvs:List V}{ds:List Value}{E:XK}{x m:Str}{p pos aQ:Pos}{e o:Expr}{es:List Expr}{ta:TE}{t:TA}
structure Mk (K:Fg)(C f:Addr):Prop where
 makes:PySem.W.makesIn K C=true
 init:PySem.W.findIn K (.ref C) "__init__"=some (some (.ref f))
 fn:PySem.W.isFn K (.ref f)=true
 kp:PySem.W.keepIn K (.ref C)=true
theorem zcP (M:Mk X.K C f)(F:YL X.prog X.w X.K X.mg X.base CX k f fd ps sp)(hr:Z5 (k+1) X.A)(hb:Xl X.K fd ps ds)(hd:ZF dvs ds)(hx:Pw CX X E)(I:Inv X aA σ H s)(r:ZF vs us)(h:∀x dx,H x=none->H dx=none->dx≠x->sp (.ref x::(vs++dvs)) (upd (upd H dx (.own x)) x (.ins C dx [])) (λv H2=>v=.non/\Q (.ref x) H2) E):
  wpAny (model X.prog X.w) X.A (call (.ref C) us) (EP X aA σ Q) X.xe s:=by
 have hq:=h (s.heap.objs.size+1) s.heap.objs.size (I.hok.fresh (xO _)) (I.hok.fresh (zD _)) (zV (Nat.lt_succ_self _))
 have I2:=Inv.made (C:=C) I
 have r2:ZF (V.ref (s.heap.objs.size+1)::(vs++dvs)) (Value.ref (s.heap.objs.size+1)::(us++ds)):=.cons rfl (r.append hd)
 have hl:(Value.ref (s.heap.objs.size+1)::us++ds).length=ps.length:=by
  have e:=r2.length;rw[F.len _ _ _ _ hq] at e;exact e.symm
 refine wpAny_call (Ab (f:=f) I.kIn M.makes M.init (beq_iff_eq.mp M.fn) (codeAny_mono (F.run _ X.stack _ _ ⟨Value.ref (s.heap.objs.size+1)::us,[]⟩ (Value.ref (s.heap.objs.size+1)::(us++ds)) _ _ E (hr.make C us [])
  (I2.env0.make C us []) (hb _ (Value.ref (s.heap.objs.size+1)::us) I2.kIn hl) r2 hq) λr s' hq'=>?_))
 cases r with
 | error e=>exact hx aA σ _ _ e s' I2 hq'
 | ok fl=>
  cases fl with
  | ret u=>
   obtain⟨v,H',I3,rv,ev,q3⟩:=I2.after hq';subst ev;exact⟨rv,⟨V.ref (s.heap.objs.size+1),H',I3,rfl,q3⟩⟩
  | next=>exact False.elim hq'
  | brk=>exact False.elim hq'
  | cont=>exact False.elim hq'
theorem En (M:Mk X.K C f)(F:YL X.prog X.w X.K X.mg X.base CX k f fd ps sp)(hr:Z5 (k+1) X.A)(hg:Gl X x)(hm:X.mg x=some (.ref C))(hb:Xl X.K fd ps ds)(hd:ZF dvs ds)(hx:Pw CX X E)
  (ha:PA X (e::es) t)(hdb:(x==("__debug__":Str))=false:=by decide)(he:starEach (e::es) X.env=(false,eval e X.env)::starEach es X.env:=by rfl)(hpl:(backTo pos (starEach es X.env)).any (·.1)=false:=by rfl):
  PE X (.Call (.Name x p) (e::es) [] pos) (tMake C sp dvs E t):=by
 intro aA s σ H Q I h;refine wpAny_Call_Name_kw (Gi I hg hm ?_ hdb);refine PySem.W.callWith_K (h₀:=X.base) I.ok.mod.kin M.kp (thn (ha pos aA s σ H _ I h) λus s1 ⟨vs,H1,I1,r,q⟩=>⟨I1.kIn,?_⟩) he hpl;exact zcP M F hr hb hd hx I1 r q
end
section
variable {X:Cx}{CX:CXT}{k:Nat}{f C:Addr}{fd:FuncData}{ps ks:List Str}{sp:Sp}{E:XK}{x m:Str}{p pos aQ kpos:Pos}{e o:Expr}{es:List Expr}{kws:List Keyword}{te ta:TE}{t tk:TA}{nm:Option Str}
variable {g:List Value->List Value->List Value}{gV:List V->List V->List V}
end
structure ZC (N P:List Str)(sc:Scope):Prop where
 kind:sc.kind=.function
 co:sc.isCoroutine=false
 gen:sc.isGenerator=false
 nd:N.Nodup
 pre:N.take P.length=P
 par:∀x∈P,sc.names.lookup x=some .local\/sc.names.lookup x=some .cell
 nofree:∀y∈sc.names,y.2≠.free
theorem HY {kindOf:Str->Option NameKind}{x:Str}:∀ {binds:List (Str×Value)} {m:Str->Option Value},(∀v,(x,v) ∉ binds)->bindL kindOf binds m x=m x
 | [],_,_=>rfl
 | (n,v)::r,m,h=>by
  unfold bindL;rw[HY λw hw=>h w (yR _ hw)];split
  ·have:x≠n:=by rintro rfl;exact h v xC
   simp[this]
  ·rfl
theorem GX {kindOf:Str->Option NameKind}{x:Str}:∀ {binds:List (Str×Value)} {m:Str->Option Value},(∀v,(x,v) ∉ binds)->bindC kindOf binds m x=m x
 | [],_,_=>rfl
 | (n,v)::r,m,h=>by
  unfold bindC;rw[GX λw hw=>h w (yR _ hw)];split
  ·rfl
  ·have:x≠n:=by rintro rfl;exact h v xC
   simp[this]
theorem F4 {kindOf:Str->Option NameKind}{x:Str}{v:Value}:∀ {P:List Str} {vs:List Value} {i:Nat} {m:Str->Option Value},P.Nodup->P[i]?=some x->vs[i]?=some v->kindOf x=some .local->
  bindL kindOf (P.zip vs) m x=some v
 | [],_,_,_,_,h,_,_=>by simp at h
 | _::_,[],_,_,_,_,h,_=>by simp at h
 | p::P,w::vs,0,m,nd,h1,h2,hk=>by
  simp at h1 h2;subst h1;subst h2
  show bindL kindOf ((p,w)::P.zip vs) m p=_;unfold bindL;rw[HY λv hv=>(List.nodup_cons.mp nd).1 (List.of_mem_zip hv).1,if_pos hk];simp
 | p::P,w::vs,i+1,m,nd,h1,h2,hk=>by
  show bindL kindOf ((p,w)::P.zip vs) m x=_;unfold bindL;exact F4 (i:=i) (List.nodup_cons.mp nd).2 (by simpa using h1) (by simpa using h2) hk
theorem HH {kindOf:Str->Option NameKind}{x:Str}{v:Value}:∀ {P:List Str} {vs:List Value} {i:Nat} {m:Str->Option Value},P.Nodup->P[i]?=some x->vs[i]?=some v->kindOf x≠some .local->
  bindC kindOf (P.zip vs) m x=some v
 | [],_,_,_,_,h,_,_=>by simp at h
 | _::_,[],_,_,_,_,h,_=>by simp at h
 | p::P,w::vs,0,m,nd,h1,h2,hk=>by
  simp at h1 h2;subst h1;subst h2
  show bindC kindOf ((p,w)::P.zip vs) m p=_;unfold bindC;rw[GX λv hv=>(List.nodup_cons.mp nd).1 (List.of_mem_zip hv).1,if_neg hk];simp
 | p::P,w::vs,i+1,m,nd,h1,h2,hk=>by
  show bindC kindOf ((p,w)::P.zip vs) m x=_;unfold bindC;exact HH (i:=i) (List.nodup_cons.mp nd).2 (by simpa using h1) (by simpa using h2) hk
def WJ (N:List Str)(vs:List V):St:=vs.map some++List.replicate (N.length-vs.length) none
def TH (CX:CXT)(P:Program)(w:World)(K:Fg)(mg:Str->Option Value)(base:Heap)(N:List Str)(aL:Str)(scope:Scope)(f:Addr)(cd:Value)(A:Around)(outer:List Env)(s:Shared)(H:Hp)(E:XK):Cx where
 prog:=P
 w:=w
 K:=K
 mg:=mg
 base:=base
 A:=A.deeper (envOfC aL scope s.heap.objs.size f cd)
 N:=N
 s₀:=s
 H₀:=H
 env:=envOfC aL scope s.heap.objs.size f cd
 outer:=outer
 stack:=envOfC aL scope s.heap.objs.size f cd::outer
 ex:=[]
 calm:=true
 fn:=λ_=>true
 pn:=[]
 xe:=λe s'=>wpAny (model P w) (A.deeper (envOfC aL scope s.heap.objs.size f cd)) (leaving (envOfC aL scope s.heap.objs.size f cd) e) (λ_ s''=>CX outer H s E e s'') (λe' s''=>CX outer H s E e' s'') s'
theorem Gg {sc:Scope}{n:Nat}{x:Str}(h:sc.names.lookup x=some .cell):∃c,(cellsFrom n sc.names []).lookup x=some c:=by
 have q:=PySem.W.cellsFrom_some sc.names n [] (.inl h);exact yS.mp q
theorem Am {CX:CXT}{P:Program}{w:World}{K:Fg}{mg:Str->Option Value}{base:Heap}{N ps:List Str}{aL:Str}{scope:Scope}{f:Addr}{cd:Value}{A:Around}{outer:List Env}{s s1:Shared}{H:Hp}{E:XK}{us:List Value}{vs:List V}
  (S:ZC N ps scope)(hd:A.handled=none)(e0:Ui P w K mg base A outer s H)(hl:vs.length=ps.length)(r:ZF vs us)
  (x:InCallC s s.heap.objs.size (bindL (envOfC aL scope s.heap.objs.size f cd).kindOf (ps.zip us) λ_=>none) (cellsFrom (s.heap.objs.size+1) scope.names []) (bindC (envOfC aL scope s.heap.objs.size f cd).kindOf (ps.zip us) λ_=>none) s1):
  Inv (TH CX P w K mg base N aL scope f cd A outer s H E) [] (WJ N vs) H s1:=by
 have hpl:ps.length<=N.length:=by have:=congrArg List.length S.pre;rw[yB] at this;omega
 obtain⟨h1,tk,rfl,hk⟩:=x.done;have noA:∀b:Addr,b ∉ (TH CX P w K mg base N aL scope f cd A outer s H E).ex:=λb z=>absurd (show b∈([]:List Addr) from z) (by simp)
 refine⟨⟨e0.mod,S.kind,rfl,rfl,zD _,λy z c h1 h2=>?_,λy hy=>?_,λy c _ h=>?_,λ_=>hd,Around.frames_deeper e0.frames,.inr ⟨rfl,rfl⟩,λb z=>absurd z (noA b),e0.bs,e0.bsz,λb _ _=>noA b,λb z=>absurd z (noA b),e0.funs,e0.frf⟩,
  rfl,e0.bare,Un.kept hk,⟨_,x.toInCall.ns,λi y v h1 h2 h3=>?_⟩,λy c h=>⟨_,x.cell y c h⟩,e0.hok.fresh (zD _),λy c h=>?_,λp hp=>absurd (show p∈([]:LA) from hp) (by simp),e0.hok.kept hk,?_⟩
 ·exact name_of_addr x.apart (PySem.mem_of_lookup h1) (PySem.mem_of_lookup h2)
 ·have hy:scope.names.lookup y=some .cell\/scope.names.lookup y=some .free:=hy;rcases hy with hy|hy
  ·exact Gg hy
  ·exact absurd rfl (S.nofree _ (PySem.mem_of_lookup hy))
 ·exact yX (x.above y c (PySem.mem_of_lookup h))
 ·have hi:i<vs.length:=by
   unfold WJ at h2;by_cases hi:i<vs.length
   ·exact hi
   ·rw[yD (by simpa using hi)] at h2;rw[List.getElem?_replicate] at h2;split at h2<;>cases h2
  have ha:vs[i]?=some v:=by
   unfold WJ at h2;rw[zP (by simpa using hi),zG] at h2;cases e:vs[i]? with
   | none=>rw[e] at h2;cases h2
   | some a=>rw[e] at h2;cases h2;rfl
  obtain⟨u,hu,rv⟩:=r.get ha;have hp:ps[i]?=some y:=by
   rw[<- S.pre,List.getElem?_take_of_lt (by omega)];exact h1
  have ndP:ps.Nodup:=by rw[<- S.pre];exact S.nd.sublist (List.take_sublist _ _)
  refine⟨u,rv,?_⟩;rcases S.par y (zL hp) with k|k
  ·exact .inl ⟨k,F4 ndP hp hu k⟩
  ·obtain⟨c,e⟩:=Gg (n:=s.heap.objs.size+1) k;refine .inr ⟨.inl k,c,e,?_⟩;have q:=x.cell y c e;rw[HH ndP hp hu (by show scope.names.lookup y≠_;rw[k];decide)] at q;exact q
 ·exact e0.hok.fresh (yX (x.above y c (PySem.mem_of_lookup h)))
 ·unfold WJ;show _=N.length;rw[zI,zA,List.length_replicate];omega
theorem fn_of {CX:CXT}{P:Program}{w:World}{K:Fg}{mg:Str->Option Value}{base:Heap}{k:Nat}{f:Addr}{name aL:Str}{params:Arguments}{body:List Stmt}{scope:Scope}{dV kV doc pm cdv ct oc:Value}{an od:Option Addr}
  {osl:Array (Option Value)}{N ps:List Str}{sp:Sp}(lk:K.lookup f=some ⟨oc,od,.func (PySem.W.fnOf name aL params body scope dV kV doc pm an cdv ct),osl⟩)(hcd:PySem.W.codeIn K cdv aL=true)(S:ZC N ps scope)
  (len:∀vs H Q E,sp vs H Q E->vs.length=ps.length)
  (hbody:∀(A:Around)(outer:List Env)(s:Shared)(H:Hp)(vs:List V)(Q:VK)(E:XK),Z5 k (A.deeper (envOfC aL scope s.heap.objs.size f cdv))->sp vs H Q E->
   ∃t,PSs (TH CX P w K mg base N aL scope f cdv A outer s H E) body t/\t { nx:=λ_ H'=>Q .non H',rt:=Q } (WJ N vs) H):
  YL P w K mg base CX (k+1) f (PySem.W.fnOf name aL params body scope dV kV doc pm an cdv ct) ps sp:=by
 refine⟨len,λA outer s H args us vs Q E hr e0 hb r hsp=>?_⟩;have hl:=len _ _ _ _ hsp
 have KX:K.In s.heap:=e0.mod.kin.keeps λb o e=>(e0.bs b o e).1
 have lim:s.heap.NoLimit:=e0.mod.nolimit.keeps λb o e=>(e0.bs b o e).1
 have hkind:∀y∈ps.zip us,scope.names.lookup y.1=some .local\/(scope.names.lookup y.1=some .cell/\((cellsFrom (s.heap.objs.size+1) scope.names []).lookup y.1).isSome=true):=λ⟨n,v⟩ hy=>by
  rcases S.par n (List.of_mem_zip hy).1 with q|q
  ·exact .inl q
  ·exact .inr ⟨q,PySem.W.cellsFrom_some _ _ _ (.inl q)⟩
 refine codeAny_call_function hr.depth (KX _ _ lk) rfl S.co S.gen rfl (PySem.W.codeRec_of KX hcd) (hb _ _ _ _ ?_);refine wpAny_newFunctionEnv_cells S.kind hkind λenv he s1 x=>?_
 subst he;refine⟨lim.keeps x.toInCall.keep,codeAny_func ?_⟩;obtain⟨t,ht,hq⟩:=hbody A outer s H vs Q E (hr.deeper _) hsp;have I:Inv (TH CX P w K mg base N aL scope f cdv A outer s H E) [] (WJ N vs) H s1:=Am S hr.hd e0 hl r x;refine wpAny_mono (ht [] s1 (WJ N vs) H _ I hq) (λfl s' hs=>?_) λe s' hs=>hs
 have bC:∀ {σ':St} {H':Hp} {v:V} {u:Value},Inv (TH CX P w K mg base N aL scope f cdv A outer s H E) [] σ' H' s'->ZG v u->Q v H'->CE outer P w H s Q u s':=
  λ{σ' H' v u} J rv q=>⟨v,H',J.os,J.bare,J.base,J.hok,rv,q⟩
 cases fl with
 | ret u=>
  obtain⟨v,σ',H',J,rv,q⟩:=hs;exact bC J rv q
 | next=>
  obtain⟨σ',H',J,q⟩:=hs;exact bC (v:=V.non) (u:=Value.none) J rfl q
 | brk=>
  obtain⟨_,_,_,q⟩:=hs;exact False.elim q
 | cont=>
  obtain⟨_,_,_,q⟩:=hs;exact False.elim q
end L2
namespace L2
open PySem PySem.Spec PyProof.Rows
section
variable {X:Cx}{x:Str}{p pos:Pos}{e:Expr}{es:List Expr}{t:TA}{id T:String}{r:List V->Hp->VK->Prop}
def tCB (r:List V->Hp->VK->Prop)(t:TA):TE:=λσ H Q=>t σ H λvs H1=>r vs H1 Q
theorem As (hc:Yq X (.builtin id) r)(hg:Gl X x)(hm:X.mg x=none)(hv:bootBuiltins x=some (.builtin id))(ha:PA X (e::es) t)(hn:x≠"__name__":=by decide)(hdb:(x==("__debug__":Str))=false:=by decide)
  (he:starEach (e::es) X.env=(false,eval e X.env)::starEach es X.env:=by rfl)(hpl:(backTo pos (starEach es X.env)).any (·.1)=false:=by rfl):PE X (.Call (.Name x p) (e::es) [] pos) (tCB r t):=by
 intro aA s σ H Q I h;refine wpAny_Call_Name_kw (TQ I hg hm hv ?_ hn hdb);exact PyProof.Rows.callWith_builtin1 (thn (ha pos aA s σ H _ I h) λus s1 ⟨vs,H1,I1,r1,q1⟩=>hc aA s1 σ H1 vs us Q I1 r1 q1) he hpl
theorem Jq (hc:Yq X (.type T) r)(hg:Gl X x)(hm:X.mg x=none)(hv:bootBuiltins x=some (.type T))(ha:PA X (e::es) t)(hn:x≠"__name__":=by decide)(hdb:(x==("__debug__":Str))=false:=by decide)
  (he:starEach (e::es) X.env=(false,eval e X.env)::starEach es X.env:=by rfl)(hpl:(backTo pos (starEach es X.env)).any (·.1)=false:=by rfl):PE X (.Call (.Name x p) (e::es) [] pos) (tCB r t):=by
 intro aA s σ H Q I h;refine wpAny_Call_Name_kw (TQ I hg hm hv ?_ hn hdb);exact PyProof.Rows.callWith_type1 (thn (ha pos aA s σ H _ I h) λus s1 ⟨vs,H1,I1,r1,q1⟩=>hc aA s1 σ H1 vs us Q I1 r1 q1) he hpl
end
end L2
namespace HT
open PySem PyProof.Rows
section
open PySem.SeqAt
open PySem.AutoSeq1 (wpAny_loadPart')
open PySem.MeetsSeq PySem.MeetsSeq2 PySem.MeetsSeq3
end
section
variable {prog:Program}{w:World}{A:Around}{E:Value->Shared->Prop}{s:Shared}
theorem cat_tup {t b:Addr}{vs ws:List Value}{Q:Value->Shared->Prop}(ht:IsTup s.heap t vs.toArray)(hb:IsTup s.heap b ws.toArray)(hv:vs≠[])
  (h1:ws=[]->Q (.ref t) s)(h2:ws≠[]->Q (.ref s.heap.objs.size) { s with heap:=s.heap.push { cls:=.type "tuple",data:=.seq (vs++ws).toArray } })
  (hsz:vs.length+ws.length<=sizeLine):wpAny (model prog w) A (binaryOp .Add (.ref t) (.ref b)) Q E s:=by
 obtain⟨⟨cls,dd,data,sl⟩,ho,hc,n,hd⟩:=id ht;obtain⟨⟨cls2,dd2,data2,sl2⟩,ho2,hc2,n2,hd2⟩:=id hb;simp only at hc hd hc2 hd2;subst hc hd hc2 hd2;have e:vs.toArray++ws.toArray=(vs++ws).toArray:=by simp
 by_cases hw:ws=[]
 ·exact concat_meets ⟨_,ho,rfl⟩ ⟨_,ho2,rfl⟩ noFill_tuple_add seq_tuple_add PySem.F.slot_tuple_add PySem.F.entry_tuple_add (PySem.F.args_tuple_add_2 _ _)
   (tuple_addW1 t b vs.toArray ws.toArray n n2 dd dd2 sl sl2 (by simpa using hv) (by simp[hw])) ⟨ho,ho2,h1 hw⟩
 ·refine concat_meets ⟨_,ho,rfl⟩ ⟨_,ho2,rfl⟩ noFill_tuple_add seq_tuple_add PySem.F.slot_tuple_add PySem.F.entry_tuple_add (PySem.F.args_tuple_add_2 _ _)
   (tuple_addW2 t b vs.toArray ws.toArray n n2 dd dd2 sl sl2 (by simpa using hv) (by simpa using hw) (by rw[zN,zN];exact hsz)) ⟨ho,ho2,?_⟩
  rw[e];exact h2 hw
def sIx (n d:Nat):Option Int->Nat
 | none=>d
 | some v=>if v<0 then (v+(n:Int)).toNat else min v.toNat n
theorem sIx_none (n d:Nat):sIx n d none=d:=rfl
theorem sIx_nat (n d k:Nat):sIx n d (some (k:Int))=min k n:=by
 show (if (k:Int)<0 then ((k:Int)+(n:Int)).toNat else min (k:Int).toNat n)=min k n;rw[if_neg (by omega),zH]
end
end HT
namespace L2
open PySem PySem.Spec PyProof.Rows
abbrev TO:=St->Hp->(Option Int->Hp->Prop)->Prop
def PO (X:Cx)(e:Option Expr)(t:TO):Prop:=
 ∀(aA:LA)(s:Shared)(σ:St)(H:Hp)(Q:Option Int->Hp->Prop),Inv X aA σ H s->t σ H Q->
  wpAny (model X.prog X.w) X.A (evalPart e X.env) (λu s'=>∃o H',Inv X aA σ H' s'/\IsPart u o/\Q o H') X.xe s
def CY:TO:=λ_ H Q=>Q none H
def tPart (t:TE):TO:=λσ H Q=>t σ H λx H1=>∃i,x=.int i/\Q (some i) H1
section
variable {X:Cx}{e:Expr}{te:TE}{lo hi:Option Expr}{tl th:TO}{pos p2:Pos}
theorem Eo:PO X none CY:=by
 intro aA s σ H Q I h;rw[evalPart_none];exact wpAny_pure ⟨none,H,I,.none,h⟩
theorem Ca (h:PE X e te):PO X (some e) (tPart te):=by
 intro aA s σ H Q I hw;rw[evalPart_some];refine thn (h aA s σ H _ I hw) λu s1 ⟨x,H1,I1,r1,q1⟩=>?_
 obtain⟨i,rfl,q⟩:=q1;obtain⟨t,rfl⟩:=r1;exact⟨some i,H1,I1,.int i t,q⟩
def SlR (X:Cx)(r:V->Option Int->Option Int->Hp->VK->Prop):Prop:=
 ∀(aA:LA)(s:Shared)(σ:St)(H:Hp)(x:V)(v vl vu:Value)(lo hi:Option Int)(sl:Addr)(Q:VK),Inv X aA σ H s->ZG x v->s.heap.IsSliceOf sl vl vu .none->IsPart vl lo->IsPart vu hi->r x lo hi H Q->
  ∃T id,typeLookup (.type T) "__getitem__"=pure (some (.builtin id))/\s.TypeIs v T/\wpAny (model X.prog X.w) X.A (getItem v (.ref sl)) (EP X aA σ Q) X.xe s
def tSl (r:V->Option Int->Option Int->Hp->VK->Prop)(te:TE)(tl th:TO):TE:=λσ H Q=>te σ H λx H1=>tl σ H1 λl H2=>th σ H2 λu H3=>r x l u H3 Q
theorem Bl (hr:SlR X r)(he:PE X e te)(hl:PO X lo tl)(hu:PO X hi th):PE X (.Subscript e (.Slice lo hi none p2) pos) (tSl r te tl th):=by
 intro aA s σ H Q I h;refine Subscript_ (thn (he aA s σ H _ I h) λv s1 ⟨x,H1,I1,r1,q1⟩=>?_);refine wpAny_Slice (thn (hl aA s1 σ H1 _ I1 q1) λvl s2 ⟨l,H2,I2,pl,q2⟩=>thn (hu aA s2 σ H2 _ I2 q2) λvu s3 ⟨u,H3,I3,pu,q3⟩=>?_);rw[evalPart_none];refine wpAny_pure ?_;have I4:Inv X aA σ H3 { s3 with heap:=s3.heap.push { cls:=.type "slice",data:=.fields #[vl,vu,.none] } }:=I3.kept (t':=s3.toks) λb ob q=>Heap.get?_push_of_some _ q
 obtain⟨T,id,hT,ht,hg⟩:=hr aA { s3 with heap:=s3.heap.push { cls:=.type "slice",data:=.fields #[vl,vu,.none] } } σ H3 x v vl vu l u s3.heap.objs.size Q I4 r1 (Heap.IsSliceOf.new ..) pl pu q3;show wpAny (model X.prog X.w) X.A (subscriptTail e (.Slice lo hi none p2) v (.ref s3.heap.objs.size)) (EP X aA σ Q) X.xe { s3 with heap:=s3.heap.push { cls:=.type "slice",data:=.fields #[vl,vu,.none] } };exact tail_any (ops:=[.ref s3.heap.objs.size,v]) ht hT hg (by with_unfolding_all rfl)
def U6 (xs:List V)(lo hi:Option Int):List V:=(xs.drop (HT.sIx xs.length 0 lo)).take (HT.sIx xs.length xs.length hi-HT.sIx xs.length 0 lo)
theorem zcr (xs:List V)(lo hi:Option Int):(U6 xs lo hi).length<=xs.length:=by
 unfold U6;rw[yB,xH];omega
def He (K:Fg):R2:=λx y H Q=>∃a b xs ys,x=.ref a/\y=.ref b/\SqT K H a xs/\SqT K H b ys/\xs≠[]/\xs.length+ys.length<=sizeLine/\
 (ys=[]->Q (.ref a) H)/\(ys≠[]->∀p,H p=none->Q (.ref p) (upd H p (.tup (xs++ys))))
theorem ZF.nil_iff (r:ZF xs us):us=[]↔xs=[]:=by
 cases r with
 | nil=>simp
 | cons _ _=>simp
theorem GB:OpR X (binaryOp .Add) (He X.K):=by
 intro aA s σ H x y v u Q I rx ry h;obtain⟨a,b,xs,ys,rfl,rfl,ha,hb,hx,hz,q1,q2⟩:=h;cases rx;cases ry;obtain⟨bB,r1,p1,_⟩:=I.tuple ha;obtain⟨its2,r2,p2,_⟩:=I.tuple hb;refine HT.cat_tup p1 p2 (λz=>hx (r1.nil_iff.mp z)) (λz=>⟨.ref a,H,I,rfl,q1 (r2.nil_iff.mp z)⟩) (λz=>?_) (by rw[<- r1.length,<- r2.length];exact hz);refine⟨.ref s.heap.objs.size,_,I.laid (t':=s.toks) (o:=.tup (xs++ys)) (λb ob q=>Heap.get?_push_of_some _ q) (zD _) ?_,rfl,q2 (λw=>z (r2.nil_iff.mpr w)) _ (I.hok.fresh (zD _))⟩;exact⟨by rw[zI];exact hz,_,r1.append r2,IsTup.new _ _⟩
end
end L2
namespace L2
open PySem PySem.Spec PyProof.Rows
def ixN (n:Nat)(i:Int):Option Nat:=if 0<=i then (if i<n then some i.toNat else none) else if -(n:Int)<=i then some (i+n).toNat else none
def atI {α:Type}(xs:List α)(i:Int):Option α:=(ixN xs.length i).bind λj=>xs[j]?
theorem HP (h:ixN n i=some j):seqIndex? i n=some j/\j<n/\-(n:Int)<=i/\i<n:=by
 unfold ixN at h;by_cases h0:0<=i
 ·rw[if_pos h0] at h;by_cases h1:i<n
  ·rw[if_pos h1] at h;have e:i.toNat=j:=Option.some.inj h;exact⟨by rw[seqIndex_of h0 h1,e],by omega,by omega,h1⟩
  ·rw[if_neg h1] at h;cases h
 ·rw[if_neg h0] at h;by_cases h1:-(n:Int)<=i
  ·rw[if_pos h1] at h;have e:(i+n).toNat=j:=Option.some.inj h;exact⟨by rw[seqIndex_neg (by omega) h1,e],by omega,h1,by omega⟩
  ·rw[if_neg h1] at h;cases h
theorem G8 (h:atI xs i=some v):∃j,seqIndex? i xs.length=some j/\xs[j]?=some v/\j<xs.length/\-(xs.length:Int)<=i/\i<xs.length:=by
 unfold atI at h;cases e:ixN xs.length i with
 | none=>rw[e] at h;cases h
 | some j=>
  rw[e] at h;obtain⟨h1,h2,h3,h4⟩:=HP e;exact⟨j,h1,h,h2,h3,h4⟩
theorem XU {α:Type}{xs:List α}{j:Nat}{v:α}(h:xs[j]?=some v):atI xs (j:Int)=some v:=by
 have hj:j<xs.length:=(zF.mp h).1
 have e:ixN xs.length (j:Int)=some j:=by
  unfold ixN;rw[if_pos (by omega),if_pos (by omega)];simp
 unfold atI;rw[e];exact h
def Qh (b:Expr):Prop:=∀o i,subscripted b false o i=operate [o,i] (getItem o i)
def IxR (X:Cx)(r:R2):Prop:=
 ∀(value slice:Expr)(aA:LA)(s:Shared)(σ:St)(H:Hp)(x y:V)(v u:Value)(Q:VK),Inv X aA σ H s->ZG x v->ZG y u->r x y H Q->
  subscripted slice false v u=operate [v,u] (getItem v u)->wpAny (model X.prog X.w) X.A (subscriptTail value slice v u) (EP X aA σ Q) X.xe s
def MtR (X:Cx)(id:String)(r:V->List V->Hp->VK->Prop):Prop:=
 ∀(aA:LA)(s:Shared)(σ:St)(H:Hp)(x:V)(xs:List V)(v:Value)(us:List Value)(Q:VK),Inv X aA σ H s->ZG x v->ZF xs us->r x xs H Q->
  wpAny (model X.prog X.w) X.A (call (.builtin id) (v::us)) (EP X aA σ Q) X.xe s
section
variable {X:Cx}{a b:Expr}{ta tb:TE}{pos:Pos}
theorem pe_ix (hr:IxR X r)(ha:PE X a ta)(hb:PE X b tb)(hs:Qh b):PE X (.Subscript a b pos) (tOp r ta tb):=by
 intro aA s σ H Q I h;exact Subscript_ (binT ha hb I h λv u s2 x y H2 I2 rx ry q=>hr a b aA s2 σ H2 x y v u Q I2 rx ry q (hs _ _))
def rIxL (K:Fg):R2:=λx y H Q=>∃p xs i v,x=.ref p/\y=.int i/\SqL K H p xs/\atI xs i=some v/\Q v H
def rIxT (K:Fg):R2:=λx y H Q=>∃p xs i v,x=.ref p/\y=.int i/\SqT K H p xs/\atI xs i=some v/\Q v H
theorem AU:IxR X (rIxL X.K):=by
 intro value slice aA s σ H x y v u Q I rx ry h hs;obtain⟨p,xs,i,z,rfl,rfl,hq,he,q⟩:=h;cases rx;obtain⟨t,rfl⟩:=ry;obtain⟨bB,r,pl,hz⟩:=I.list hq;obtain⟨j,h1,h2,h3,h4,h5⟩:=G8 he;obtain⟨w,ew,rw'⟩:=r.get h2;have hl:=r.length
 have hn:=RE
 have bC:EP X aA σ Q w s:=⟨z,H,I,rw',q⟩;by_cases h0:0<=i
 ·have hj:i.toNat=j:=by
   rw[seqIndex_of h0 h5] at h1;exact Option.some.inj h1
  exact item_listR pl.isList h0 (by omega) (by rw[hj];simpa using ew) bC hs
 ·have hj:(i+(bB.toArray.size:Int)).toNat=j:=by
   rw[seqIndex_neg (by omega) h4] at h1;rw[zN,<- hl];exact Option.some.inj h1
  exact subscriptTail_builtinR (x:=w) pl.isList.typeIs slot_list_getitem.lookup
   (wpAny_getItem_list_neg (Q:=λr s'=>r=w/\EP X aA σ Q r s') pl.isList (by omega) (by rw[zN]<;>omega) (by omega) (by rw[hj];simpa using ew) ⟨rfl,bC⟩) hs
theorem DQ:IxR X (rIxT X.K):=by
 intro value slice aA s σ H x y v u Q I rx ry h hs;obtain⟨p,xs,i,z,rfl,rfl,hq,he,q⟩:=h;cases rx;obtain⟨t,rfl⟩:=ry;obtain⟨bB,r,pl,hz⟩:=I.tuple hq;obtain⟨j,h1,h2,h3,h4,h5⟩:=G8 he;obtain⟨w,ew,rw'⟩:=r.get h2;have hl:=r.length
 have hn:=RE
 have bC:EP X aA σ Q w s:=⟨z,H,I,rw',q⟩;exact subscriptTail_builtinR (x:=w) pl.typeIs slot_tuple_getitem.lookup
  (getItem_tuple (j:=j) (Q:=λr s'=>r=w/\EP X aA σ Q r s') pl (by omega) (by omega) (by rw[zN,<- hl];exact h1) (by simpa using ew) ⟨rfl,bC⟩) hs
theorem zcF (bB:List Value)(n j:Nat)(u:Value):Obj.mapSeq (·.setIfInBounds j u) { cls:=.type "list",data:=.seq bB.toArray n }={ cls:=.type "list",data:=.seq (bB.set j u).toArray n }:=by
 simp[Obj.mapSeq]
theorem Inv.lst {aA:LA}{σ:St}{H:Hp}{s:Shared}{p:Addr}{xs:List V}(I:Inv X aA σ H s)(h:H p=some (.lst xs)):
  ∃(bB:List Value)(n:Nat),ZF xs bB/\s.heap.get? p=some { cls:=.type "list",data:=.seq bB.toArray n }/\xs.length<=sizeLine:=by
 obtain⟨z,bB,n,r,e⟩:=I.hok p _ h;exact⟨bB,n,r,e,z⟩
theorem Inv.lstUpd {aA:LA}{σ:St}{H:Hp}{s:Shared}{p:Addr}{xs ys:List V}{bB its':List Value}{n n':Nat}{f:Obj->Obj}(I:Inv X aA σ H s)(h:H p=some (.lst xs))
  (ho:s.heap.get? p=some { cls:=.type "list",data:=.seq bB.toArray n })(hf:f { cls:=.type "list",data:=.seq bB.toArray n }={ cls:=.type "list",data:=.seq its'.toArray n' })(r:ZF ys its')(hz:ys.length<=sizeLine)(t:Nat):
  Inv X aA σ (upd H p (.lst ys)) { s with heap:=s.heap.update p f,toks:=t }:=by
 have e:(s.heap.update p f).get? p=some { cls:=.type "list",data:=.seq its'.toArray n' }:=by
  rw[Heap.get?_update_self f ho (by rw[hf]<;>rfl),hf]
 refine I.write (x:=p) (e:=p) (by rw[h];trivial) (.inl rfl) (λb u hb q=>(Heap.get?_update_other _ _ (Ne.symm hb)).trans q) ⟨_,e⟩ ?_;exact⟨hz,its',n',r,e⟩
def rSetL:V->V->V->Hp->(Hp->Prop)->Prop:=λo i v H Q=>∃p xs k j,o=.ref p/\i=.int k/\H p=some (.lst xs)/\ixN xs.length k=some j/\Q (upd H p (.lst (xs.set j v)))
theorem Ez:PSet X rSetL:=by
 intro aA s σ H o i v ov iv u Q I ro ri rv h;obtain⟨p,xs,k,j,rfl,rfl,hp,hj,q⟩:=h;cases ro;obtain⟨t,rfl⟩:=ri;obtain⟨bB,n,r,ho,hz⟩:=I.lst hp;obtain⟨h1,h2,h3,h4⟩:=HP hj;have hl:=r.length
 have hn:=RE
 have I':Inv X aA σ (upd H p (.lst (xs.set j v))) { s with heap:=s.heap.update p (Obj.mapSeq (·.setIfInBounds j u)) }:=
  I.lstUpd hp ho (zcF bB n j u) (r.set rv j) (by rw[List.length_set];exact hz) s.toks
 by_cases h0:0<=k
 ·have hk:k.toNat=j:=by
   rw[seqIndex_of h0 h4] at h1;exact Option.some.inj h1
  exact PySem.W.ki_setAt ho h0 (by omega) (by rw[zN,<- hl];exact h4) (by rw[hk];exact⟨_,I',q⟩)
 ·have hk:(k+(bB.toArray.size:Int)).toNat=j:=by
   rw[seqIndex_neg (by omega) h3] at h1;rw[zN,<- hl];exact Option.some.inj h1
  exact PySem.W.ki_setBack ho (by omega) (by rw[zN,<- hl];exact h3) (by omega) (by rw[hk];exact⟨_,I',q⟩)
theorem Ap (lo hi:Option Int)(n:Nat):(sliceBounds lo hi none n).1=((HT.sIx n 0 lo:Nat):Int)/\(sliceBounds lo hi none n).2.1=((HT.sIx n n hi:Nat):Int)/\(sliceBounds lo hi none n).2.2=1:=by
 refine⟨?_,?_,rfl⟩
 ·cases lo with
  | none=>simp[sliceBounds,HT.sIx]
  | some i=>
   simp only[sliceBounds,HT.sIx,Option.getD_none,show (1:Int) > 0 by decide,if_true];by_cases h:i<0
   ·simp only[h,if_true]<;>omega
   ·simp only[h,if_false]<;>omega
 ·cases hi with
  | none=>simp[sliceBounds,HT.sIx]
  | some i=>
   simp only[sliceBounds,HT.sIx,Option.getD_none,show (1:Int) > 0 by decide,if_true];by_cases h:i<0
   ·simp only[h,if_true]<;>omega
   ·simp only[h,if_false]<;>omega
theorem C6 (bB:List Value)(lo hi:Option Int):slicePick bB.toArray lo hi none=((bB.drop (HT.sIx bB.length 0 lo)).take (HT.sIx bB.length bB.length hi-HT.sIx bB.length 0 lo)).toArray:=by
 obtain⟨h1,h2,h3⟩:=Ap lo hi bB.toArray.size;unfold slicePick;rw[h1,h2,h3];simp only[sliceRange_one,pick_run,zN]<;>rfl
def rSlL (K:Fg):V->Option Int->Option Int->Hp->VK->Prop:=λx lo hi H Q=>∃a xs,x=.ref a/\SqL K H a xs/\∀p,H p=none->Q (.ref p) (upd H p (.lst (U6 xs lo hi)))
theorem Dt:SlR X (rSlL X.K):=by
 intro aA s σ H x v vl vu lo hi sl Q I rx hs pl pu h;obtain⟨a,xs,rfl,hx,q⟩:=h;cases rx;obtain⟨bB,r,ht,hz⟩:=I.list hx;have aV:=r.length;refine⟨"list",_,slot_list_getitem.lookup,ht.isList.typeIs,?_⟩;refine wpAny_getItem_list_slice ht.isList hs pl pu .none (by simp) ?_ (by rw[zN]<;>omega);rw[C6,<- aV];refine⟨.ref s.heap.objs.size,_,I.laid (t':=s.toks) (o:=.lst (U6 xs lo hi)) (λb ob q=>Heap.get?_push_of_some _ q) (zD _) ?_,rfl,q _ (I.hok.fresh (zD _))⟩;exact⟨yI (zcr xs lo hi) hz,_,0,(r.drop (HT.sIx xs.length 0 lo)).take (HT.sIx xs.length xs.length hi-HT.sIx xs.length 0 lo),Heap.get?_push_size _ rfl⟩
def Lj:V->Bool
 | .non=>true
 | .bl _=>true
 | .int _=>true
 | .str _=>true
 | _=>false
def eqV:V->V->Bool
 | .non,.non=>true
 | .bl a,.bl b=>a==b
 | .bl a,.int b=>(if a then 1 else 0)==b
 | .int a,.bl b=>a==(if b then 1 else 0)
 | .int a,.int b=>a==b
 | .str a,.str b=>a==b
 | _,_=>false
theorem DF (ry:ZG y u)(rx:ZG x v)(fy:Lj y=true)(fx:Lj x=true):SeqAt.EqAt A s u v (eqV y x):=by
 cases y with
 | non=>
  cases ry;cases x with
  | non=>cases rx;exact SeqAt.EqAt.same _
  | bl b=>cases rx;exact SeqAt.EqAt.none_bool b
  | int b=>obtain⟨t,rfl⟩:=rx;exact SeqAt.EqAt.none_int b t
  | str b=>obtain⟨t,rfl⟩:=rx;exact SeqAt.EqAt.none_str b t
  | _=>exact absurd (show false=true from fx) zW
 | bl a=>
  cases ry;cases x with
  | non=>cases rx;exact SeqAt.EqAt.bool_none a
  | bl b=>cases rx;exact SeqAt.EqAt.bool_bool a b
  | int b=>obtain⟨t,rfl⟩:=rx;exact SeqAt.EqAt.bool_int a b t
  | str b=>obtain⟨t,rfl⟩:=rx;exact SeqAt.EqAt.bool_str a b t
  | _=>exact absurd (show false=true from fx) zW
 | int a=>
  obtain⟨t',rfl⟩:=ry;cases x with
  | non=>cases rx;exact SeqAt.EqAt.int_none a t'
  | bl b=>cases rx;exact SeqAt.EqAt.int_bool a t' b
  | int b=>obtain⟨t,rfl⟩:=rx;exact SeqAt.EqAt.int_int a t' b t
  | str b=>obtain⟨t,rfl⟩:=rx;exact SeqAt.EqAt.int_str a t' b t
  | _=>exact absurd (show false=true from fx) zW
 | str a=>
  obtain⟨t',rfl⟩:=ry;cases x with
  | non=>cases rx;exact SeqAt.EqAt.str_none a t'
  | bl b=>cases rx;exact SeqAt.EqAt.str_bool a t' b
  | int b=>obtain⟨t,rfl⟩:=rx;exact SeqAt.EqAt.str_int a t' b t
  | str b=>obtain⟨t,rfl⟩:=rx;exact SeqAt.EqAt.str_str a t' b t
  | _=>exact absurd (show false=true from fx) zW
 | _=>exact absurd (show false=true from fy) zW
theorem zbY:Yq X (.builtin "len") (λxs H Q=>∃p ys,xs=[.ref p]/\(SqL X.K H p ys\/SqT X.K H p ys)/\Q (.int ys.length) H):=by
 intro aA s σ H xs us Q I r h;obtain⟨p,ys,rfl,hq,q⟩:=h;obtain⟨u,rfl,rx⟩:=X3 r;cases rx;have hn:=RE;rcases hq with hq|hq
 ·obtain⟨bB,r',pl,hz⟩:=I.list hq;have aV:=r'.length;exact Calls.call_len_list pl.isList (by simp only[zN]<;>omega) ⟨.int ys.length,H,I.tok _,⟨s.toks+1,by rw[zN,aV]⟩,q⟩
 ·obtain⟨bB,r',pl,hz⟩:=I.tuple hq;have aV:=r'.length;exact len_tuple pl (by simp only[zN]<;>omega) ⟨.int ys.length,H,I.tok _,⟨s.toks+1,by rw[zN,aV]⟩,q⟩
theorem Bv:Yq X (.type "list") (λxs H Q=>∃p ys,xs=[.ref p]/\(SqL X.K H p ys\/SqT X.K H p ys)/\∀l,H l=none->Q (.ref l) (upd H l (.lst ys))):=by
 intro aA s σ H xs us Q I r h;obtain⟨p,ys,rfl,hq,q⟩:=h;obtain⟨u,rfl,rx⟩:=X3 r;cases rx;have bC:∀(bB:List Value),ZF ys bB->ys.length<=sizeLine->∀(h':Heap)(c':Nat),(∀b o',s.heap.get? b=some o'->h'.get? b=some o')->
   h'.get? s.heap.objs.size=some { cls:=.type "list",dict:=none,data:=.seq bB.toArray c',slots:=#[] }->EP X aA σ Q (.ref s.heap.objs.size) { s with heap:=h' }:=λbB r' hz h' c' kp e=>
  ⟨.ref s.heap.objs.size,_,I.laid (t':=s.toks) kp (zD _) (show Xg X.prog X.w _ h' _ (.lst ys) from ⟨hz,bB,c',r',e⟩),rfl,q _ (I.hok.fresh (zD _))⟩
 rcases hq with hq|hq
 ·obtain⟨bB,r',pl,hz⟩:=I.list hq;have aV:=r'.length;obtain⟨o,ho,hc,n,hd⟩:=pl.isList;exact call_list_seq p (.inl rfl) ho hc hd (λh' c' kp e=>bC bB r' hz h' c' kp e) (by simp only[zN]<;>omega)
 ·obtain⟨bB,r',pl,hz⟩:=I.tuple hq;have aV:=r'.length;obtain⟨o,ho,hc,n,hd⟩:=pl;exact call_list_seq p (.inr rfl) ho hc hd (λh' c' kp e=>bC bB r' hz h' c' kp e) (by simp only[zN]<;>omega)
theorem zdg:Yq X (.type "tuple") (λxs H Q=>∃p ys,xs=[.ref p]/\((SqL X.K H p ys/\∀l,H l=none->Q (.ref l) (upd H l (.tup ys)))\/(SqT X.K H p ys/\Q (.ref p) H))):=by
 intro aA s σ H xs us Q I r h;obtain⟨p,ys,rfl,h⟩:=h;obtain⟨u,rfl,rx⟩:=X3 r;cases rx;rcases h with ⟨hq,q⟩|⟨hq,q⟩
 ·obtain⟨bB,r',pl,hz⟩:=I.list hq;have aV:=r'.length;refine call_tuple_list pl.isList (λh' kp=>?_) (by simp only[zN]<;>omega);have I1:Inv X aA σ H { s with heap:=h' }:=I.kept (t':=s.toks) kp
  have I2:Inv X aA σ (upd H h'.objs.size (.tup ys)) { s with heap:=h'.push { cls:=.type "tuple",data:=.seq bB.toArray } }:=
   I1.laid (t':=s.toks) (λb o e=>Heap.get?_push_of_some _ e) (zD _) (show Xg X.prog X.w _ _ _ (.tup ys) from ⟨hz,bB,r',IsTup.new _ _⟩)
  exact⟨.ref h'.objs.size,_,I2,rfl,q _ (I1.hok.fresh (zD _))⟩
 ·obtain⟨bB,r',pl,hz⟩:=I.tuple hq;exact call_tuple_same pl ⟨.ref p,H,I,rfl,q⟩
def tyV (K:Fg)(T:String)(x:V)(H:Hp):Prop:=match x with
 | .str _=>T="str"
 | .int _=>T="int"
 | .ref p=>(T="list"/\∃xs,SqL K H p xs)\/(T="tuple"/\∃o,K.lookup p=some o/\o.cls=.type "tuple"/\o.dict=none)\/
   (T="dict"/\((∃aZ,H p=some (.dK aZ))\/∃aZ,H p=some (.dT aZ)))\/(T="set"/\∃S n,H p=some (.set S n))
 | _=>False
theorem zbK (I:Inv X aA σ H s)(r:ZG x v)(ty:tyV X.K T x H):
  s.TypeIs v T/\∀a,v=.ref a->∃ob,s.heap.get? a=some ob/\ob.dict=none:=by
 cases x with
 | str z=>
  obtain⟨t,rfl⟩:=r;cases (show T="str" from ty);exact⟨typeIs_str s z t,λ_ e=>nomatch e⟩
 | int i=>
  obtain⟨t,rfl⟩:=r;cases (show T="int" from ty);exact⟨typeIs_int s i t,λ_ e=>nomatch e⟩
 | ref p=>
  cases r;rcases ty with ⟨rfl,xs,hq⟩|⟨rfl,o,hk,hc,hd⟩|⟨rfl,hk⟩|⟨rfl,S,n,hk⟩
  ·obtain⟨bB,_,pl,_⟩:=I.list hq;refine⟨pl.isList.typeIs,λa e=>?_⟩;cases e;obtain⟨o,n,e,c,hd,_⟩:=pl;exact⟨o,e,hd⟩
  ·refine⟨⟨o,I.kIn p o hk,hc⟩,λa e=>?_⟩;cases e;exact⟨o,I.kIn _ o hk,hd⟩
  ·have z:∃o,s.heap.get? p=some o/\o.ExactDict:=by
    rcases hk with ⟨aZ,hk⟩|⟨aZ,hk⟩
    ·obtain⟨_,_,_,_,o,_,_,e,ex,_⟩:=I.hok p _ hk;exact⟨o,e,ex⟩
    ·obtain⟨_,_,_,_,o,_,_,e,ex,_⟩:=I.hok p _ hk;exact⟨o,e,ex⟩
   obtain⟨o,e,ex⟩:=z;refine⟨⟨o,e,ex.1⟩,λa e2=>?_⟩;cases e2;exact⟨o,e,ex.2.1⟩
  ·obtain⟨o,_,_,_,e,ex,_⟩:=I.hok p _ hk;refine⟨⟨o,e,ex.1⟩,λa e2=>?_⟩;cases e2;exact⟨o,e,ex.2.1⟩
 | _=>exact False.elim ty
def tBM (K:Fg)(T:String)(r:V->List V->Hp->VK->Prop)(to:TE)(t:TA):TE:=λσ H Q=>to σ H λx H1=>tyV K T x H1/\t σ H1 λxs H2=>r x xs H2 Q
variable {o e:Expr}{es:List Expr}{to:TE}{t:TA}{name:Str}{aQ aO:Pos}{T id:String}{r:V->List V->Hp->VK->Prop}
theorem ND (pa:PlainAttrs T)(slot:Slot T name id)(hty:typeOf (.builtin id)=pure (.type "method_descriptor"))(hm:MtR X id r)(ho:PE X o to)(ha:PA X (e::es) t)
  (hbase:attributeBase o name X.env (eval o X.env)=eval o X.env:=by rfl)
  (hfew:((backTo aO (starEach (e::es) X.env)).all (λx=>!x.1)&&(backToKw aO (keywordEach [] X.env)).all (λx=>x.1.isSome)
  &&decide ((e::es).length+([]:List Keyword).length+(if ([]:List Keyword).isEmpty then 0 else 1)<30))=true:=by rfl)
  (hline:(aQ.endLine==aO.line)=true:=by rfl)(hs:starEach (e::es) X.env=(false,eval e X.env)::starEach es X.env:=by rfl)(hplain:(backTo aO (starEach es X.env)).any (·.1)=false:=by rfl):
  PE X (.Call (.Attribute o name aQ) (e::es) [] aO) (tBM X.K T r to t):=by
 intro aA s σ H Q I h;refine wpAny_Call_method_late hbase hfew hline rfl (thn (ho aA s σ H _ I h) λv s1 ⟨x,H1,I1,r1,ty,q1⟩=>?_);obtain⟨h1,h2⟩:=zbK I1 r1 ty;refine⟨T,id,pa,slot,hty,h1,h2,?_⟩;have hA:=ha aO aA s1 σ H1 _ I1 q1;rw[hs] at hA ⊢;refine Calls.callWith_builtin (by show (false||(backTo aO (starEach es X.env)).any (·.1))=false;rw[hplain]<;>rfl) (Calls.evalArgs_plain ?_);exact thn hA λus s2 ⟨vs,H2,I2,r2,q2⟩=>hm aA s2 σ H2 x vs v us Q I2 r1 r2 q2
end
end L2
namespace L2
open PySem PySem.Spec PyProof.Rows
def MtM (X:Cx)(id:String)(r:V->List V->Hp->VK->Prop):Prop:=
 ∀(aA:LA)(s:Shared)(σ:St)(H:Hp)(x:V)(xs:List V)(v:Value)(us:List Value)(Q:VK),Inv X aA σ H s->ZG x v->ZF xs us->r x xs H Q->
  wpAny (model X.prog X.w) X.A (call (.builtin id) (v::us)) (EP X aA σ Q) X.xe s
theorem ZF.one:∀ {x:V} {us:List Value},ZF [x] us->∃u,us=[u]/\ZG x u
 | _,_,.cons r .nil=>⟨_,rfl,r⟩
theorem ZF.eraseIdx:∀ {xs:List V} {us:List Value} (i:Nat),ZF xs us->ZF (xs.eraseIdx i) (us.eraseIdx i)
 | _,_,_,.nil=>.nil
 | _,_,0,.cons _ t=>t
 | _,_,i+1,.cons r t=>.cons r (ZF.eraseIdx i t)
theorem ZF.rep (h:ZF xs us):∀k:Nat,ZF (List.replicate k xs).flatten (List.replicate k us).flatten
 | 0=>.nil
 | k+1=>by
  rw[xI,xI,xP,xP];exact ZF.append h (ZF.rep h k)
theorem Fo {α:Type}:∀(l:List α)(i:Nat),(l.eraseIdx i).length<=l.length
 | [],_=>zD _
 | _::_,0=>xO _
 | _::r,i+1=>Nat.succ_le_succ (Fo r i)
theorem G1 (bB:List Value):∀(k:Nat)(acc:List Value),
  List.foldl (λx1 x2=>x1++x2) acc.toArray (List.replicate k bB.toArray)=(acc++(List.replicate k bB).flatten).toArray
 | 0,acc=>by simp
 | k+1,acc=>by
  have e:acc.toArray++bB.toArray=(acc++bB).toArray:=by simp
  have e2:(acc++bB)++(List.replicate k bB).flatten=acc++(List.replicate (k+1) bB).flatten:=by
   rw[xI,xP,xQ]
  rw[<- e2,<- G1 bB k (acc++bB),<- e,xI,List.foldl_cons]
section
variable {X:Cx}{aA:LA}{σ:St}{H:Hp}{s:Shared}{l b:Addr}{xs ys zs:List V}
theorem Inv.lset {bB its':List Value}{n:Nat}{f:Array Value->Array Value}{t':Nat}(I:Inv X aA σ H s)(hH:H l=some (.lst xs))
  (e:s.heap.get? l=some { cls:=.type "list",data:=.seq bB.toArray n })(hf:f bB.toArray=its'.toArray)(hv:ZF ys its')(hz:ys.length<=sizeLine):
  Inv X aA σ (upd H l (.lst ys)) { s with heap:=s.heap.update l (Obj.mapSeq f),toks:=t' }:=by
 have q:=PySem.IsL.update e f;rw[hf] at q;refine I.write (x:=l) (e:=l) (by rw[hH];exact trivial) (.inl rfl) (λb' u hb hu=>(Heap.get?_update_other s.heap (Obj.mapSeq f) (Ne.symm hb)).trans hu) ⟨_,q⟩ ?_;exact⟨hz,its',_,hv,q⟩
theorem Inv.lnew (I:Inv X aA σ H s)(hv:ZF ys bB)(hz:ys.length<=sizeLine):
  Inv X aA σ (upd H s.heap.objs.size (.lst ys)) { s with heap:=s.heap.push { cls:=.type "list",data:=.seq bB.toArray },toks:=t' }:=
 I.laid (λ_ _ q=>Heap.get?_push_of_some _ q) (zD _) ⟨hz,bB,0,hv,Heap.get?_push_size _ rfl⟩
theorem Inv.fresh (I:Inv X aA σ H s):H s.heap.objs.size=none:=I.hok.fresh (zD _)
theorem Inv.lstM (I:Inv X aA σ H s)(hH:H l=some (.lst xs)):xs.length<=sizeLine/\∃(bB:List Value)(n:Nat),ZF xs bB/\xs.length=bB.length/\s.heap.get? l=some { cls:=.type "list",data:=.seq bB.toArray n }:=by
 obtain⟨z,bB,n,r,e⟩:=I.hok l _ hH;exact⟨z,bB,n,r,r.length,e⟩
theorem zb0 {n:Nat}(h:n<=sizeLine):Builtin.List.listTooLong n=false:=by
 unfold Builtin.List.listTooLong;exact decide_eq_false (by omega)
end
section
variable {X:Cx}
def EU:V->List V->Hp->VK->Prop:=λx vs H Q=>∃l xs y,x=.ref l/\vs=[y]/\H l=some (.lst xs)/\xs.length<sizeLine/\Q .non (upd H l (.lst (xs++[y])))
theorem KS:MtM X "list.append" EU:=by
 intro aA s σ H x vs v us Q I rx rv h;obtain⟨l,xs,y,rfl,rfl,hH,hz,q⟩:=h;cases rx;obtain⟨u,rfl,ru⟩:=rv.one;obtain⟨z,bB,n,r,hl,e⟩:=I.lstM hH;refine call_meets F.slot_list_append ⟨_,e,rfl⟩ F.entry_list_append (F.args_list_append_2 _ _) (PySem.list_append l bB.toArray n u (by rw[zN];omega)) ⟨e,?_⟩;refine⟨.non,_,I.lset (its':=bB++[u]) hH e (by simp) (r.append (.cons ru .nil)) ?_,rfl,q⟩;rw[zI,List.length_singleton];omega
def za1:V->List V->Hp->VK->Prop:=λx vs H Q=>∃l xs i k y,x=.ref l/\vs=[.int i]/\H l=some (.lst xs)/\-(2^63)<=i/\i<2^63/\seqIndex? i xs.length=some k/\xs[k]?=some y/\Q y (upd H l (.lst (xs.eraseIdx k)))
theorem Du:MtM X "list.pop" za1:=by
 intro aA s σ H x vs v us Q I rx rv h;obtain⟨l,xs,i,k,y,rfl,rfl,hH,h1,h2,hk,hy,q⟩:=h;cases rx;obtain⟨u,rfl,ru⟩:=rv.one;obtain⟨t,rfl⟩:=ru;obtain⟨z,bB,n,r,hl,e⟩:=I.lstM hH;obtain⟨w,hw,rw'⟩:=r.get hy;refine call_meets F.slot_list_pop ⟨_,e,rfl⟩ F.entry_list_pop (F.args_list_pop_2 _ _)
  (MeetsSeq.list_pop_at l bB.toArray n i t k w (fitsIndex_both h1 h2) (by rw[zN,<- hl];exact hk) (by rw[<- Array.getElem?_toList];exact hw) (by rw[zN];omega)) ⟨e,?_⟩
 refine⟨y,_,I.lset (its':=bB.eraseIdx k) hH e ?_ (r.eraseIdx k) ?_,rw',q⟩
 ·show bB.toArray.eraseIdxIfInBounds k=(bB.eraseIdx k).toArray;rw[List.eraseIdxIfInBounds_toArray]
 ·have:=Fo xs k;omega
def rCat:R2:=λx y H Q=>∃l b xs zs,x=.ref l/\y=.ref b/\H l=some (.lst xs)/\H b=some (.lst zs)/\xs.length+zs.length<=sizeLine/\∀p,H p=none->Q (.ref p) (upd H p (.lst (xs++zs)))
theorem Ed:OpR X (binaryOp .Add) rCat:=by
 intro aA s σ H x y v u Q I rx ry h;obtain⟨l,b,xs,zs,rfl,rfl,hH,hB,hz,q⟩:=h;cases rx;cases ry;obtain⟨z,bB,n,r,hl,e⟩:=I.lstM hH;obtain⟨z2,its2,n2,r2,hl2,e2⟩:=I.lstM hB;refine PySem.P.add_list e e2 ?_ (by rw[zN,zN];omega);have ea:bB.toArray++its2.toArray=(bB++its2).toArray:=by simp
 rw[ea];exact⟨.ref _,_,I.lnew (t':=s.toks) (r.append r2) (by rw[zI];omega),rfl,q _ I.fresh⟩
def rRep:R2:=λx y H Q=>∃l k xs,x=.ref l/\y=.int k/\H l=some (.lst xs)/\-(2^63)<=k/\k<2^63/\xs.length*k.toNat<=sizeLine/\
 ∀p,H p=none->Q (.ref p) (upd H p (.lst (List.replicate k.toNat xs).flatten))
theorem Bb (xs:List α)(k:Nat):(List.replicate k xs).flatten.length=k*xs.length:=by
 induction k with
 | zero=>simp
 | succ k ih=>rw[xI,xP,zI,ih,Nat.succ_mul,Nat.add_comm]
theorem Az:OpR X (binaryOp .Mult) rRep:=by
 intro aA s σ H x y v u Q I rx ry h;obtain⟨l,k,xs,rfl,rfl,hH,h1,h2,hz,q⟩:=h;cases rx;obtain⟨t,rfl⟩:=ry;obtain⟨z,bB,n,r,hl,e⟩:=I.lstM hH;have aV:bB.toArray.size*k.toNat<=sizeLine:=by rw[zN,<- hl];exact hz
 have hcap:¬ bB.toArray.size*k.toNat > (2^63-1)/8:=by
  have:(sizeLine:Nat)<=(2^63-1)/8:=by decide
  omega
 have hfit:¬ (!Builtin.List.listFitsIndex k)=true:=by
  rw[fitsIndex_both h1 h2];exact zW
 have hlong:¬ Builtin.List.listTooLong (bB.toArray.size*k.toNat)=true:=by
  rw[zb0 aV];exact zW
 have hnew:List.foldl (λx1 x2=>x1++x2) #[] (List.replicate (if bB.toArray.isEmpty=true then 0 else k.toNat) bB.toArray)=(List.replicate k.toNat bB).flatten.toArray:=by
  have f0:∀m:Nat,List.foldl (λx1 x2=>x1++x2) #[] (List.replicate m bB.toArray)=(List.replicate m bB).flatten.toArray:=λm=>by
   have:=G1 bB m [];rw[List.nil_append] at this;exact this
  rw[f0];cases bB with
  | nil=>simp
  | cons a r'=>rw[if_neg (by simp)]
 refine wpAny_binaryOp_repeat_ref (T:="list") (U:="int") (by decide) ⟨_,e,rfl⟩ (λs'=>typeIs_int s' k t) noFill_list_mul F.fills_int_mul F.slot_int_rmul repeat_list F.slot_int_index.lookup
  (call_meets F.slot_int_rmul (typeIs_int s k t) F.entry_int_rmul (F.args_int_rmul_2 _ _) (int___rmul___int_list k t l bB.toArray n)
   ⟨e,rfl,⟨_,e,rfl⟩,call_meets F.slot_list_mul ⟨_,e,rfl⟩ F.entry_list_mul (F.args_list_mul_2 _ _) (AutoListH.list___mul___list_int_3 l bB.toArray n k t hfit hcap hlong) ⟨e,?_⟩⟩)
 rw[hnew];exact⟨.ref _,_,I.lnew (t':=s.toks) (r.rep k.toNat) (by rw[Bb,Nat.mul_comm];exact hz),rfl,q _ I.fresh⟩
end
section
variable {prog:Program}{w:World}{A:Around}{E:Value->Shared->Prop}{s:Shared}
set_option maxRecDepth 100000 in
end
section
variable {X:Cx}
end
end L2
namespace Att
open PySem PySem.W PySem.Calls PyProof.Rows
theorem CK {P:Params}{h:Heap}:∀(ns:List Int)(vs:List Value),WellAll P h vs (ns.map WData.int)->IntsAre vs ns:=by
 intro ns
 induction ns with
 | nil=>
  intro vs w;rw[List.map_nil] at w;cases w;exact .nil
 | cons n ns ih=>
  intro vs w;rw[yU] at w;cases w with
  | cons a b=>
   cases a;exact .cons _ _ (ih _ b)
theorem zcv {l:OpenLaw}{n:Nat}(hn:l.most=some n){P:Params}{h:Heap}{args:List WData}{vals:List Value}
  (hpre:l.row.toRowW.claim.pre args=true)(hwl:WellAll P h vals args):
  ∃a vs ns,vals=[Value.ref a]/\args=[WData.list (ns.map WData.int)]/\h.get? a=some { cls:=.type "list",data:=.seq vs.toArray }/\IntsAre vs ns/\ns.length<=n:=by
 have hsh:WShape.hasAll [] args [.list .int]=true:=(pre_splitW hpre).1
 have hc:l.pre.holds [] { args:=args }=true:=(pre_splitW hpre).2;obtain⟨d,r,rfl,h1,h2⟩:=hasAllW_cons hsh;obtain rfl:=hasAllW_nil h2;obtain⟨xs,rfl,h3⟩:=hasW_list h1;obtain⟨ns,rfl⟩:=items_int h3;have aV:ns.length<=n:=by
  unfold OpenLaw.pre at hc;have h4:(WTm.not (.lt (.lit (.int (n:Int))) (.len (.arg 0)))).holds [] { args:=[.list (ns.map .int)] }=true:=by
   have h4:=(holds_andW hc).1;rw[hn] at h4;exact h4
  have h5:=condW_of h4 (w_not (w_lt w_lit (w_len_list (w_arg rfl))));rw[zA] at h5;refine Nat.le_of_not_lt λq=>?_
  have q':(n:Int)<((ns.length:Nat):Int):=by omega
  first
   | (rw[decide_eq_true q'] at h5;exact absurd h5 (by decide))
   | (simp at h5;omega)
 cases hwl with
 | cons w1 w2=>
  cases w2;cases w1 with
  | list ho hall=>exact⟨_,_,ns,rfl,rfl,ho,CK ns _ hall,aV⟩
theorem Ep (l:OpenLaw)(args:List WData):l.row.toRowW.claim.post args (.bool true) args=true:=
 postW_of (r:=l.row.toRowW) (X:=(true==true))
  (show WShape.has [] (.bool true) .bool=true by first|rfl|decide|simp[WShape.has,WShape.arms,WShape.armsAll])
  (show (WTm.eq .res (.lit (.bool true))).value [] { args:=args,res:=some (.bool true),after:=args }=some (.bool (true==true)) from w_eq_bool (w_res rfl) w_lit) rfl
theorem attach_call {l:OpenLaw}{n:Nat}{q:Program}{aK:List Str}{XP:(Str->Option Value)->Heap->Prop}{YP:World->Heap->Prop}{d:DefRec}
  (hn:l.most=some n)(hdf:d.params.defaults=[])
  (call:∀(w:World)(s₀ s₁:Shared)(mg mb:Str->Option Value)(fa:Addr)(o:Obj)(pm cd doc:Value)(a:Addr)(vs:List Value)(ns:List Int),
   Ground q aK [] XP w s₀ mg mb s₁.heap->YP w s₁.heap->
   s₁.heap.get? fa=some o->o.data=.func (docDef d.name d.params d.body d.scope pm cd doc)->s₁.heap.CodeRec cd d.name->mg d.name=some (.ref fa)->
   s₁.heap.get? a=some { cls:=.type "list",data:=.seq vs.toArray }->IntsAre vs ns->ns.length<=n->s₁.gens=#[]->
   codeAny (model l.prog w) callerA (.call (.ref fa) ⟨[.ref a],[]⟩) (λr s'=>r=.ok (.ret (.bool true))/\OldK s₁.heap s'.heap/\s'.os=s₁.os/\AllBare s'.gens) s₁):
  WalkO q aK XP YP l.row.toRowW d [] (λf vs=>PySem.call f vs):=by
 intro w s₀ s₁ mg mb G Y fa o pm cd doc dV kV ho hd hcd hD hmg hg args vals as hpre hlay hrd hwl hlo;obtain rfl:dV=.none:=Dflts.none hD hdf;obtain rfl:kV=.none:=Dflts.noKw hD;obtain⟨a,vs,ns,rfl,rfl,hobj,hints,aV⟩:=zcv hn hpre hwl;refine enter_call (codeAny_mono (call w s₀ s₁ mg mb fa o pm cd doc a vs ns G Y ho (fd_plain hd) hcd hmg hobj hints aV hg) λr s' hq=>?_);obtain⟨rfl,h2,h3,h4⟩:=hq;exact⟨.inl ⟨.bool true,.bool true,[],rfl,λ_=>rfl,.bool true,Ep l _,λ_=>⟨List.Pairwise.nil,λ_ hm=>(nomatch hm)⟩⟩,h2,h3,h4⟩
section
variable {prog:Program}{w:World}{A:Around}{E:Value->Shared->Prop}{s:Shared}{K:Frag}
end
end Att
namespace L2
open PySem PySem.Spec PyProof.Rows
theorem RY:∀ {vs:List Value} {ns:List Int},IntsAre vs ns->ZF (ns.map V.int) vs
 | _,_,.nil=>.nil
 | _,_,.cons n t h=>.cons ⟨t,rfl⟩ (RY h)
def Rn (H:Hp):Prop:=∀b,H b=none\/∃o xs,H b=some (.frz o (.lst xs))
theorem zcK {P:Program}{w:World}{K:Fg}{mg mb:Str->Option Value}{CX:CXT}{k:Nat}{fa a:Addr}{fd:FuncData}{x:Str}{sp:Sp}{s₁:Shared}{vs:List Value}{ns:List Int}
  (KX:K.In s₁.heap)(hns:s₁.heap.Ns mainGlobals mg)(hb:s₁.heap.Ns builtinsNs mb)(hbb:∀x:Str,x≠"__name__"->mb x=bootBuiltins x)(hlim:s₁.heap.NoLimit)(hg:s₁.gens=#[])
  (ha:s₁.heap.get? a=some { cls:=.type "list",data:=.seq vs.toArray })(hi:IntsAre vs ns)(hl:ns.length<=sizeLine)(hr:Z5 k callerA)
  (F:∀base:Heap,K.In base->base.Ns mainGlobals mg->YL P w K mg base CX k fa fd [x] sp)(hbind:∀(s:Shared)(u:Value),BindsTo s fd ⟨[u],[]⟩ [(x,u)])
  (hsp:∀H:Hp,Rn H->SqL K H a (ns.map V.int)->sp [.ref a] H (λv _=>v=.bl true) λ_ _ _=>False)
  (hCX:∀H e s',CX [] H s₁ (λ_ _ _=>False) e s'->False):
  codeAny (model P w) callerA (.call (.ref fa) ⟨[.ref a],[]⟩) (λr s'=>r=.ok (.ret (.bool true))/\OldK s₁.heap s'.heap/\s'.os=s₁.os/\AllBare s'.gens) s₁:=by
 have rv:=RY hi
 have lenV:=hi.length
 have core:∀H:Hp,Rn H->SqL K H a (ns.map V.int)->HOk P w H s₁.heap->(∀b,H b≠none->b=a)->(H a≠none->K.lookup a=none)->
   codeAny (model P w) callerA (.call (.ref fa) ⟨[.ref a],[]⟩) (λr s'=>r=.ok (.ret (.bool true))/\OldK s₁.heap s'.heap/\s'.os=s₁.os/\AllBare s'.gens) s₁:=by
  intro H hO hS hok hA hK;have base_of:∀ {b:Addr} {o:Obj},s₁.heap.get? b=some o->H b=none->(Vb s₁.heap H).get? b=some o:=λe n=>ED e n
  have noA:∀ {b:Addr} {o:Obj} {es:Array DictEntry} {ep:Nat},s₁.heap.get? b=some o->o.data=.dict es ep->H b=none:=λ{b o es ep} e d=>by
   cases q:H b with
   | none=>rfl
   | some u=>
    have e':b=a:=hA b (by rw[q];simp);subst e';rw[ha] at e;cases e
    have d':Data.seq vs.toArray _=Data.dict es ep:=d;cases d'
  have nsK:∀ {b:Addr} {m:Str->Option Value},s₁.heap.Ns b m->(Vb s₁.heap H).Ns b m:=λ{b m} ⟨o,es,ep,e,d,r⟩=>⟨o,es,ep,base_of e (noA e d),d,r⟩
  have hKb:K.In (Vb s₁.heap H):=λb o e=>base_of (KX b o e) (by
   cases q:H b with
   | none=>rfl
   | some u=>
    have e':b=a:=hA b (by rw[q];simp);subst e';rw[hK (by rw[q];simp)] at e;cases e)
  have hM:Mod K mg (Vb s₁.heap H):=⟨hKb,nsK hns,⟨mb,nsK hb,hbb⟩,let ⟨mc,h1,h2⟩:=hlim;⟨mc,nsK h1,h2⟩⟩
  have e0:Ui P w K mg (Vb s₁.heap H) callerA [] s₁ H:=⟨rfl,hM,λb o e=>AX e,Nat.le_of_eq (A0 _ _),trivial,λb hb=>absurd (show b∈([]:List Addr) from hb) (by simp),hok,.of_eq hg⟩;refine codeAny_mono ((F _ hKb (nsK hns)).run callerA [] s₁ H ⟨[.ref a],[]⟩ [.ref a] [.ref a] _ _ hr e0 (hbind s₁ (.ref a)) (.cons rfl .nil) (hsp H hO hS)) λr s' h=>?_
  cases r with
  | error e=>exact(hCX H e s' h).elim
  | ok fl=>
   cases fl with
   | next=>exact False.elim h
   | brk=>exact False.elim h
   | cont=>exact False.elim h
   | ret u=>
    obtain⟨v,H',os,bare,un,hok',r',q⟩:=h;have q':v=.bl true:=q;subst q';obtain rfl:u=Value.bool true:=r';refine⟨rfl,OldK.of_keep λb o e=>?_,os,bare⟩;cases q:H b with
    | none=>exact un.keep b o e q (by intro z;exact absurd (show b∈([]:List Addr) from z) (by simp)) (by simp)
    | some u=>
     rcases hO b with z|⟨ob,xs,z⟩
     ·rw[q] at z;cases z
     ·have z2:=un.frzs b ob _ z;obtain⟨e1,_⟩:=hok b _ z;obtain⟨e2,_⟩:=hok' b _ z2;rw[e] at e1;cases e1
      exact e2
 cases hk:K.lookup a with
 | some o=>
  have e:=KX a o hk;rw[ha] at e;cases e;refine core (λ_=>none) (λ_=>.inl rfl) (.inr ⟨_,vs.toArray,_,hk,rfl,rfl,rfl,by rw[zN,lenV];exact hl,by simpa using rv⟩) (λb u z=>by have z':(none:Option HO)=some u:=z;cases z') (λb z=>absurd rfl z) λz=>absurd rfl z
 | none=>
  refine core (λb=>if b=a then some (.frz { cls:=.type "list",data:=.seq vs.toArray } (.lst (ns.map V.int))) else none) (λb=>?_) (.inl (.inr ⟨{ cls:=.type "list",data:=.seq vs.toArray },if_pos rfl⟩)) (λb u z=>?_) (λb z=>?_) λ_=>hk
  ·by_cases hb:b=a
   ·exact .inr ⟨_,_,if_pos hb⟩
   ·exact .inl (if_neg hb)
  ·by_cases hb:b=a
   ·have z':=(if_pos hb).symm.trans z;cases z';subst hb;exact⟨ha,by rw[zA];exact hl,vs,_,rv,ha⟩
   ·have z':=(if_neg hb).symm.trans z;cases z'
  ·by_cases hb:b=a
   ·exact hb
   ·exact absurd (if_neg hb) z
end L2
namespace L2
open PySem PySem.Spec PyProof.Rows
theorem zb7 {l:PySem.W.OpenLaw}{n k:Nat}{q:Program}{aK:List Str}{XP:(Str->Option Value)->Heap->Prop}{YP:World->Heap->Prop}{d:DefRec}{K:Params->Fg}{CX:World->CXT}{sp:World->Sp}{x:Str}
  (hn:l.most=some n)(hn2:n<=sizeLine)(hdf:d.params.defaults=[])(hr:Z5 k callerA)
  (hY:∀(w:World)(h:Heap),YP w h->(K w.params).In h)
  (F:∀(w:World)(mg:Str->Option Value)(fa:Addr)(h:Heap),(K w.params).In h->h.Ns mainGlobals mg->mg d.name=some (.ref fa)->
   ∃fd:FuncData,(∀(s:Shared)(u:Value),BindsTo s fd ⟨[u],[]⟩ [(x,u)])/\
    ∀base:Heap,(K w.params).In base->base.Ns mainGlobals mg->YL l.prog w (K w.params) mg base (CX w) k fa fd [x] (sp w))
  (hsp:∀(w:World)(H:Hp)(a:Addr)(ns:List Int),ns.length<=n->Rn H->SqL (K w.params) H a (ns.map V.int)->sp w [.ref a] H (λv _=>v=.bl true) λ_ _ _=>False)
  (hCX:∀(w:World)(H:Hp)(s:Shared)(e:Value)(s':Shared),CX w [] H s (λ_ _ _=>False) e s'->False):
  PySem.W.WalkO q aK XP YP l.row.toRowW d [] (λf vs=>PySem.call f vs):=by
 refine Att.attach_call hn hdf λw s₀ s₁ mg mb fa o pm cd doc a vs ns G Y ho hd hcd hmg hobj hints aV hg=>?_
 have KX:=hY w _ Y;obtain⟨fd,hb,hF⟩:=F w mg fa _ KX G.T.g hmg;exact zcK KX G.T.g G.T.b G.T.builtins G.T.nolimit hg hobj hints (yI aV hn2) hr hF hb (λH hO hS=>hsp w H a ns aV hO hS) λH e s'=>hCX w H s₁ e s'
end L2
namespace L2
open PySem PySem.Spec PyProof.Rows
structure Fun (K:Fg)(x aL:Str)(st:Stmt)(f:Addr)(fd:FuncData):Prop where
 ex:∃(oc:Value)(od:Option Addr)(kV doc pm:Value)(an:Option Addr)(cdv ct:Value)(osl:Array (Option Value)),
  fd=PySem.W.fnOf x aL (WV st) (WE st) (Zo st) .none kV doc pm an cdv ct/\K.lookup f=some ⟨oc,od,.func fd,osl⟩/\PySem.W.codeIn K cdv aL=true
 kp:PySem.W.keepIn K (.ref f)=true
section
variable {P:Program}{w:World}{K:Fg}{mg:Str->Option Value}{base:Heap}
theorem Fun.binds {x aL:Str}{st:Stmt}{f:Addr}{fd:FuncData}{ps:List Str}(F:Fun K x aL st f fd)
  (h:∀(kV doc pm:Value)(an:Option Addr)(cdv ct:Value)(us:List Value),us.length=ps.length->bindArgs (PySem.W.fnOf x aL (WV st) (WE st) (Zo st) .none kV doc pm an cdv ct) ⟨us,[]⟩=pure (ps.zip us)):Xl K fd ps []:=by
 obtain⟨oc,od,kV,doc,pm,an,cdv,ct,osl,rfl,lk,hcd⟩:=F.ex;exact .all (h kV doc pm an cdv ct)
theorem O5 {x aL:Str}{st:Stmt}{f:Addr}{oc:Value}{od an:Option Addr}{osl:Array (Option Value)}{kV doc pm cdv ct:Value}(l:K.lookup f=some ⟨oc,od,.func (PySem.W.fnOf x aL (WV st) (WE st) (Zo st) .none kV doc pm an cdv ct),osl⟩)
  (c:PySem.W.codeIn K cdv aL=true)(k:PySem.W.keepIn K (.ref f)=true):Fun K x aL st f (PySem.W.fnOf x aL (WV st) (WE st) (Zo st) .none kV doc pm an cdv ct):=⟨⟨oc,od,kV,doc,pm,an,cdv,ct,osl,rfl,l,c⟩,k⟩
end
theorem Qy (h:n<=1000):n<sizeLine:=Nat.lt_of_le_of_lt h (by decide)
section
variable {X:Cx}
theorem pv (i:Nat)(hN:X.N[i]?=some x:=by rfl)(hv:Vis X.env.scope x:=by first|exact Or.inl rfl|exact Or.inr (Or.inl rfl)|exact Or.inr (Or.inr rfl))(hd:(x==("__debug__":Str))=false:=by decide)(hcd:(x==("__classdict__":Str))=false:=by decide):PE X (.Name x pos) (tVar i):=FA hN hv hd hcd
end
theorem YR {A B:Prop}(h:B):if false=true then A else B:=by
 rw[if_neg zW];exact h
theorem Xm {A B:Prop}(h:A):if true=true then A else B:=by
 rw[if_pos rfl];exact h
theorem YD {c A B:Prop} [Decidable c] (h1:c->A)(h2:¬ c->B):if c then A else B:=by
 by_cases h:c
 ·rw[if_pos h];exact h1 h
 ·rw[if_neg h];exact h2 h
end L2
namespace L2
open PySem PySem.Spec PyProof.Rows
section
variable {κ:Type} [DecidableEq κ]
end
abbrev KT (H:Hp):List (List Key×V)->List (List Key×Addr×Value)->Prop:=Paired λp q=>p.1=q.1/\H q.2.1=some (.tup (p.1.map kV))/\ZG p.2 q.2.2
section
variable {P:Program}{w:World}{H:Hp}{h:Heap}{a:Addr}
end
section
variable {X:Cx}{aA:LA}{σ:St}{H:Hp}{s:Shared}{a:Addr}{y v:V}{u r:Value}{o:Option V}{A:Around}{E:Value->Shared->Prop}
end
section
variable {X:Cx}{aA:LA}{σ:St}{H:Hp}{s:Shared}{a:Addr}{aZ:List (Key×V)}{k:Key}{u:Value}{A:Around}{E:Value->Shared->Prop}
end
section
variable {X:Cx}{o i e value:Expr}{pos pos' tpos:Pos}{td ty tv:TE}
end
section
variable {X:Cx}{pos:Pos}
end
structure M1 (X:Cx)(o:Expr)(m:Str)(aQ:Pos)(e:Expr)(aO:Pos):Prop where
 base:attributeBase o m X.env (eval o X.env)=eval o X.env
 few:((backTo aO (starEach [e] X.env)).all (λx=>!x.1)&&(backToKw aO (keywordEach [] X.env)).all (λx=>x.1.isSome)
 &&decide (([e]:List Expr).length+([]:List Keyword).length+(if ([]:List Keyword).isEmpty then 0 else 1)<30))=true
 line:(aQ.endLine==aO.line)=true
 trees:backTo aO (starEach [e] X.env)=[(false,eval e X.env)]
structure M2 (X:Cx)(o:Expr)(m:Str)(aQ:Pos)(e f:Expr)(aO:Pos):Prop where
 base:attributeBase o m X.env (eval o X.env)=eval o X.env
 few:((backTo aO (starEach [e,f] X.env)).all (λx=>!x.1)&&(backToKw aO (keywordEach [] X.env)).all (λx=>x.1.isSome)
 &&decide (([e,f]:List Expr).length+([]:List Keyword).length+(if ([]:List Keyword).isEmpty then 0 else 1)<30))=true
 line:(aQ.endLine==aO.line)=true
 trees:backTo aO (starEach [e,f] X.env)=[(false,eval e X.env),(false,eval f X.env)]
section
variable {X:Cx}{aA:LA}{σ:St}{H:Hp}{s:Shared}{a:Addr}{y d:V}{u r:Value}{o:Option V}{A:Around}{E:Value->Shared->Prop}
end
section
variable {X:Cx}{o e f:Expr}{aQ aO:Pos}{td ty tx:TE}
end
section
variable {X:Cx}{aA:LA}{σ:St}{H:Hp}{s:Shared}{a:Addr}{aZ:List (Key×V)}{A:Around}{E:Value->Shared->Prop}
end
section
variable {X:Cx}{aA:LA}{σ:St}{H:Hp}{s:Shared}{a:Addr}{y:V}{u:Value}{A:Around}{E:Value->Shared->Prop}
end
end L2
namespace L3
open PySem PySem.Spec PyProof.Rows L2
abbrev St:=L2.St
inductive D where
 | non|bl (b:Bool)|int (i:Int)|str (x:Str)|tup (xs:List D)|ref (n:Nat)|exc (c:Addr)
inductive Ob where
 | lst (xs:List D)|frz (xs:List D)
  | ins (C:Addr) (fs:List (Str×D))
  | dct (aZ:List (List Key×D))
  | tpl (ws:List Str)
  | dck (aZ:List (Key×D))
abbrev Sto:=List Ob
abbrev Ev:=List (Option D)
abbrev DK:=D->Sto->Prop
abbrev TDE:=Ev->Sto->DK->Prop
abbrev TDT:=Ev->Sto->(Bool->Sto->Prop)->Prop
abbrev TDA:=Ev->Sto->(List D->Sto->Prop)->Prop
structure Xx where
 nx:Ev->Sto->Prop
 rt:DK
 bk:Ev->Sto->Prop:=λ_ _=>False
 ct:Ev->Sto->Prop:=λ_ _=>False
abbrev TDS:=Xx->Ev->Sto->Prop
def isX (a c:Addr):HO:=.ext λh=>∃o,h.get? a=some o/\o.cls=.ref c
inductive Rp (r:List Addr)(H:Hp):D->V->Prop
 | non:Rp r H .non .non
 | bl (b:Bool):Rp r H (.bl b) (.bl b)
 | int (i:Int):Rp r H (.int i) (.int i)
 | str (x:Str):Rp r H (.str x) (.str x)
 | tup {ds:List D} {xs:List V} {a:Addr}:H a=some (.tup xs)->ds.length=xs.length->(∀(i:Nat)(d:D)(v:V),ds[i]?=some d->xs[i]?=some v->Rp r H d v)->Rp r H (.tup ds) (.ref a)
 | ref {n:Nat} {a:Addr}:r[n]?=some a->Rp r H (.ref n) (.ref a)
 | exc {c a:Addr}:H a=some (isX a c)->Rp r H (.exc c) (.ref a)
def Rps (r:List Addr)(H:Hp)(ds:List D)(vs:List V):Prop:=ds.length=vs.length/\∀(i:Nat)(d:D)(v:V),ds[i]?=some d->vs[i]?=some v->Rp r H d v
structure Ext (r r':List Addr)(H H':Hp):Prop where
 adr:∀(n:Nat)(a:Addr),r[n]?=some a->r'[n]?=some a
 tup:∀a xs,H a=some (.tup xs)->H' a=some (.tup xs)
 xc:∀a c,H a=some (isX a c)->H' a=some (isX a c)
section
variable {r r' r2:List Addr}{H H' H2:Hp}{d:D}{v:V}{ds:List D}{vs:List V}
theorem Ext.refl:Ext r r H H:=⟨λ_ _ h=>h,λ_ _ h=>h,λ_ _ h=>h⟩
theorem Ext.trans (a:Ext r r' H H')(b:Ext r' r2 H' H2):Ext r r2 H H2:=⟨λn x h=>b.adr n x (a.adr n x h),λx y h=>b.tup x y (a.tup x y h),λx y h=>b.xc x y (a.xc x y h)⟩
theorem Rp.ext (h:Rp r H d v)(e:Ext r r' H H'):Rp r' H' d v:=by
 induction h with
 | non=>exact .non
 | bl b=>exact .bl b
 | int i=>exact .int i
 | str x=>exact .str x
 | tup h l _ ih=>exact .tup (e.tup _ _ h) l ih
 | ref h=>exact .ref (e.adr _ _ h)
 | exc h=>exact .exc (e.xc _ _ h)
theorem Rps.ext (h:Rps r H ds vs)(e:Ext r r' H H'):Rps r' H' ds vs:=⟨h.1,λi d v h1 h2=>(h.2 i d v h1 h2).ext e⟩
theorem Rps.nil:Rps r H [] []:=⟨rfl,λi d v h=>by simp at h⟩
theorem Rps.cons (h:Rp r H d v)(t:Rps r H ds vs):Rps r H (d::ds) (v::vs):=by
 refine⟨by simp[t.1],λi x y h1 h2=>?_⟩;cases i with
 | zero=>
  simp at h1 h2;subst h1;subst h2
  exact h
 | succ i=>exact t.2 i x y (by simpa using h1) (by simpa using h2)
theorem Rps.tail (h:Rps r H (d::ds) (y::vs)):Rp r H d y/\Rps r H ds vs:=
 ⟨h.2 0 d y rfl rfl,by simpa using h.1,λi a b h1 h2=>h.2 (i+1) a b (by simpa using h1) (by simpa using h2)⟩
theorem Rps.uncons (h:Rps r H (d::ds) vs):∃v vs',vs=v::vs'/\Rp r H d v/\Rps r H ds vs':=by
 cases vs with
 | nil=>exact absurd h.1 (by simp)
 | cons v vs'=>exact⟨v,vs',rfl,h.tail⟩
theorem Rps.unnil (h:Rps r H [] vs):vs=[]:=by
 cases vs with
 | nil=>rfl
 | cons v vs'=>exact absurd h.1 (by simp)
theorem Rps.get {i:Nat}(h:Rps r H ds vs)(e:ds[i]?=some d):∃v,vs[i]?=some v/\Rp r H d v:=by
 have hi:i<ds.length:=(zF.mp e).1
 have hv:i<vs.length:=by rw[<- h.1];exact hi
 exact⟨vs[i],by simp[hv],h.2 i d vs[i] e (by simp[hv])⟩
theorem Rps.get' {i:Nat}(h:Rps r H ds vs)(e:vs[i]?=some v):∃d,ds[i]?=some d/\Rp r H d v:=by
 have hv:i<vs.length:=(zF.mp e).1
 have hi:i<ds.length:=by rw[h.1];exact hv
 exact⟨ds[i],by simp[hi],h.2 i ds[i] v (by simp[hi]) e⟩
theorem Rps.snoc (h:Rps r H ds vs)(t:Rp r H d v):Rps r H (ds++[d]) (vs++[v]):=by
 refine⟨by simp[h.1],λi x y h1 h2=>?_⟩;by_cases hi:i<ds.length
 ·rw[zP hi] at h1;rw[zP (by rw[<- h.1];exact hi)] at h2;exact h.2 i x y h1 h2
 ·have hl:i<(ds++[d]).length:=(zF.mp h1).1
  have e:i=ds.length:=by simp at hl;omega
  subst e;rw[yD (zD _)] at h1;rw[h.1,yD (zD _)] at h2;simp at h1 h2;subst h1;subst h2
  exact t
theorem Rps.tupR (h:Rps r H ds vs)(e:H a=some (.tup vs)):Rp r H (.tup ds) (.ref a):=.tup e h.1 h.2
theorem Rp.untup {vs:V}(h:Rp r H (.tup ds) vs):∃a xs,vs=.ref a/\H a=some (.tup xs)/\Rps r H ds xs:=by
 cases h with
 | tup e l f=>exact⟨_,_,rfl,e,l,f⟩
end
def SqF (K:Fg)(H:Hp)(a:Addr)(xs:List V):Prop:=
 (∃o,H a=some (.frz o (.lst xs)))\/
  ∃(o:Obj)(bB:Array Value)(n:Nat),K.lookup a=some o/\o.cls=.type "list"/\o.dict=none/\o.data=.seq bB n/\bB.size<=sizeLine/\ZF xs bB.toList
theorem SqF.sql {K:Fg}{H:Hp}{a:Addr}{xs:List V}(h:SqF K H a xs):SqL K H a xs:=by
 rcases h with ⟨o,h⟩|h
 ·exact .inl (.inr ⟨o,h⟩)
 ·exact .inr h
def FR {α:Type}(r:List Addr)(H:Hp)(fs:List (α×D))(fs':List (α×V)):Prop:=fs.map (·.1)=fs'.map (·.1)/\Rps r H (fs.map (·.2)) (fs'.map (·.2))
theorem FR.ext {α:Type}{r r':List Addr}{H H':Hp}{fs:List (α×D)}{fs':List (α×V)}(h:FR r H fs fs')(e:Ext r r' H H'):FR r' H' fs fs':=⟨h.1,h.2.ext e⟩
theorem FR.nil {α:Type}{r:List Addr}{H:Hp}:FR (α:=α) r H [] []:=⟨rfl,Rps.nil⟩
def ObR (K:Fg)(r:List Addr)(H:Hp)(a:Addr):Ob->Prop
 | .lst ds=>∃xs,H a=some (.lst xs)/\Rps r H ds xs
 | .frz ds=>∃xs,SqF K H a xs/\Rps r H ds xs
 | .ins C fs=>∃dx fs',H a=some (.ins C dx fs')/\FR r H fs fs'
 | .dct aZ=>∃kvs',H a=some (.dT kvs')/\FR r H aZ kvs'
 | .dck aZ=>∃kvs',H a=some (.dK kvs')/\FR r H aZ kvs'
 | .tpl ws=>∃(o:Obj)(bB:Array Value)(n:Nat),K.lookup a=some o/\o.cls=.type "tuple"/\o.data=.seq bB n/\bB.size<=sizeLine/\ZF (ws.map V.str) bB.toList
def Vr:Ob->Bool
 | .frz _=>false
 | .tpl _=>false
 | _=>true
structure Yc (K:Fg)(r:List Addr)(S:Sto)(H:Hp):Prop where
 len:r.length=S.length
 ob:∀(n:Nat)(a:Addr)(o:Ob),r[n]?=some a->S[n]?=some o->ObR K r H a o
 nd:∀(n m:Nat)(a:Addr)(o u:Ob),r[n]?=some a->r[m]?=some a->S[n]?=some o->S[m]?=some u->Vr o=true->Vr u=true->n=m
def Zq:Ob->List D
 | .lst ds=>ds
 | .frz ds=>ds
 | _=>[.exc 0]
def Y9:Ob->Option Ob
 | .lst ds=>some (.lst ds)
 | .frz ds=>some (.frz ds)
 | _=>none
def lAt (S:Sto)(n:Nat):Option Ob:=(S[n]?).bind Y9
theorem zay (h:Y9 o=some u):u=o:=by
 cases o<;>simp[Y9] at h<;>exact h.symm
theorem YF {S:Sto}{n:Nat}{o:Ob}(h:lAt S n=some o):S[n]?=some o/\Y9 o=some o:=by
  unfold lAt at h;cases q:S[n]? with
  | none=>
   rw[q] at h;cases h
  | some u=>
    rw[q] at h;have h':Y9 u=some o:=h
    have e:=zay h';subst e;exact⟨rfl,h'⟩
theorem ZS {S:Sto}{n:Nat}{o:Ob}(h:S[n]?=some o)(hL:Y9 o=some o):lAt S n=some o:=by
 unfold lAt;rw[h];exact hL
section
variable {K:Fg}{r r':List Addr}{S:Sto}{H H':Hp}{n:Nat}{a p:Addr}
theorem Yc.at {o:Ob}(h:Yc K r S H)(e:S[n]?=some o):∃a,r[n]?=some a/\ObR K r H a o:=by
 have hn:n<S.length:=(zF.mp e).1
 have hr:n<r.length:=by rw[h.len];exact hn
 exact⟨r[n],by simp[hr],h.ob n r[n] o (by simp[hr]) e⟩
theorem ObR.list {o:Ob}(h:ObR K r H a o)(hL:Y9 o=some o):∃xs,SqL K H a xs/\Rps r H (Zq o) xs:=by
 cases o with
 | lst ds=>obtain⟨xs,e,q⟩:=h;exact⟨xs,SqL.of e,q⟩
 | frz ds=>obtain⟨xs,e,q⟩:=h;exact⟨xs,e.sql,q⟩
 | ins C fs=>cases hL
 | dct aZ=>cases hL
 | dck aZ=>cases hL
 | tpl ws=>cases hL
theorem ObR.keep {o:Ob}(q:ObR K r H a o)(x:Ext r r' H H')(ha:∀u,H a=some u->H' a=some u):ObR K r' H' a o:=by
 cases o with
 | lst ds=>obtain⟨xs,h3,h4⟩:=q;exact⟨xs,ha _ h3,h4.ext x⟩
 | frz ds=>
  obtain⟨xs,h3,h4⟩:=q;refine⟨xs,?_,h4.ext x⟩;rcases h3 with ⟨o,h3⟩|h3
  ·exact .inl ⟨o,ha _ h3⟩
  ·exact .inr h3
 | ins C fs=>obtain⟨dx,fs',h3,h4⟩:=q;exact⟨dx,fs',ha _ h3,h4.ext x⟩
 | dct aZ=>obtain⟨ks,h3,h4⟩:=q;exact⟨ks,ha _ h3,h4.ext x⟩
 | dck aZ=>obtain⟨ks,h3,h4⟩:=q;exact⟨ks,ha _ h3,h4.ext x⟩
 | tpl ws=>exact q
theorem ObR.own {o:Ob}(q:ObR K r H a o)(h:Vr o=true):∃u,H a=some u/\(∀xs,u≠HO.tup xs)/\(∀b c,u≠isX b c)/\∀z y,u≠HO.frz z y:=by
 cases o with
 | lst ds=>obtain⟨xs,h3,h4⟩:=q;exact⟨_,h3,(λ_ z=>by cases z),(λ_ _ z=>by cases z),(λ_ _ z=>by cases z)⟩
 | frz ds=>cases h
 | tpl ws=>cases h
 | ins C fs=>obtain⟨dx,fs',h3,h4⟩:=q;exact⟨_,h3,(λ_ z=>by cases z),(λ_ _ z=>by cases z),(λ_ _ z=>by cases z)⟩
 | dct aZ=>obtain⟨ks,h3,h4⟩:=q;exact⟨_,h3,(λ_ z=>by cases z),(λ_ _ z=>by cases z),(λ_ _ z=>by cases z)⟩
 | dck aZ=>obtain⟨ks,h3,h4⟩:=q;exact⟨_,h3,(λ_ z=>by cases z),(λ_ _ z=>by cases z),(λ_ _ z=>by cases z)⟩
theorem Yc.same (h:Yc K r S H)(e:∀b o,H b=some o->H' b=some o):Yc K r S H':=
 ⟨h.len,λn a o h1 h2=>(h.ob n a o h1 h2).keep ⟨λ_ _ q=>q,λa xs q=>e _ _ q,λa c q=>e _ _ q⟩ (e a),h.nd⟩
theorem Xd {o:HO}(h:H p=none):∀b u,H b=some u->(upd H p o) b=some u:=λb u q=>by rw[Yi (Vj q h)];exact q
theorem MR (e:(r++[p])[n]?=some b):(n<r.length/\r[n]?=some b)\/(n=r.length/\b=p):=by
 by_cases hn:n<r.length
 ·rw[zP hn] at e;exact .inl ⟨hn,e⟩
 ·have hl:n<(r++[p]).length:=(zF.mp e).1
  have en:n=r.length:=by simp at hl;omega
  subst en;rw[yD (zD _)] at e;simp at e;exact .inr ⟨rfl,e.symm⟩
theorem Yc.pushO (h:Yc K r S H)(hp:H p=none)(keep:∀b u,H b=some u->H' b=some u)(q:Ext r (r++[p]) H H'->ObR K (r++[p]) H' p o):Yc K (r++[p]) (S++[o]) H'/\Ext r (r++[p]) H H':=by
 have x:Ext r (r++[p]) H H':=⟨λn a e=>by
  have hn:n<r.length:=(zF.mp e).1;rw[zP hn];exact e,λa ys e=>keep _ _ e,λa c e=>keep _ _ e⟩
 have sS:∀ {n:Nat} {u:Ob},n<r.length->(S++[o])[n]?=some u->S[n]?=some u:=λ{n u} hn e=>by
  rw[zP (by rw[<- h.len];exact hn)] at e;exact e
 refine⟨⟨by simp[h.len],λn a u h1 h2=>?_,λn m a u w h1 h2 h3 h4 o1 o2=>?_⟩,x⟩
 ·rcases MR h1 with ⟨hn,e⟩|⟨rfl,rfl⟩
  ·exact(h.ob n a u e (sS hn h2)).keep x (keep a)
  ·rw[h.len,yD (zD _)] at h2;simp at h2;subst h2;exact q x
 ·rcases MR h1 with ⟨hn,e⟩|⟨rfl,rfl⟩
  ·rcases MR h2 with ⟨hm,e'⟩|⟨rfl,rfl⟩
   ·exact h.nd n m a u w e e' (sS hn h3) (sS hm h4) o1 o2
   ·obtain⟨zs,h5,_⟩:=(h.ob n _ _ e (sS hn h3)).own o1;rw[hp] at h5;cases h5
  ·rcases MR h2 with ⟨hm,e'⟩|⟨rfl,_⟩
   ·obtain⟨zs,h5,_⟩:=(h.ob m _ _ e' (sS hm h4)).own o2;rw[hp] at h5;cases h5
   ·rfl
theorem Yc.push {ds:List D}{xs:List V}(h:Yc K r S H)(hp:H p=none)(q:Rps r H ds xs):Yc K (r++[p]) (S++[.lst ds]) (upd H p (.lst xs))/\Ext r (r++[p]) H (upd H p (.lst xs)):=
 h.pushO hp (Xd hp) λx=>⟨xs,Xs,q.ext x⟩
theorem Yc.setO (h:Yc K r S H)(hn:r[n]?=some a)(hS:S[n]?=some o)(ho:Vr o=true)(ho':Vr o'=true)(q:Ext r r H (upd H a u)->ObR K r (upd H a u) a o'):Yc K r (S.set n o') (upd H a u)/\Ext r r H (upd H a u):=by
 obtain⟨u0,h0,t1,t2,t3⟩:=(h.ob n a _ hn hS).own ho;have x:Ext r r H (upd H a u):=⟨λ_ _ e=>e,λb zs e=>by
  rw[Yi (JT e h0 (λz=>t1 zs z.symm))];exact e,λb c e=>by
  rw[Yi (JT e h0 (λz=>t2 b c z.symm))];exact e⟩
 have hlt:n<S.length:=(zF.mp hS).1
 have off:∀ {m:Nat} {w:Ob},m≠n->(S.set n o')[m]?=some w->S[m]?=some w:=λ{m w} hm e=>by
  rw[yY (Ne.symm hm)] at e;exact e
 refine⟨⟨by simp[h.len],λm b w h1 h2=>?_,λm k b w y h1 h2 h3 h4 o1 o2=>?_⟩,x⟩
 ·by_cases hm:m=n
  ·subst hm;rw[hn] at h1;cases h1
   rw[yT hlt] at h2;cases h2;exact q x
  ·have h2':=off hm h2
   have q':=h.ob m b w h1 h2';by_cases hw:Vr w=true
   ·have hb:b≠a:=λz=>hm (by subst z;exact h.nd m n b w o h1 hn h2' hS hw ho)
    exact q'.keep x λz e=>by rw[Yi hb];exact e
   ·cases w with
    | frz es=>
     obtain⟨zs,h3,h4⟩:=q';refine⟨zs,?_,h4.ext x⟩;rcases h3 with ⟨z,h3⟩|h3
     ·exact .inl ⟨z,by rw[Yi (JT h3 h0 (λy=>t3 _ _ y.symm))];exact h3⟩
     ·exact .inr h3
    | tpl ws=>exact q'
    | _=>exact absurd rfl hw
 ·have back:∀ {j:Nat} {w:Ob},(S.set n o')[j]?=some w->Vr w=true->∃y,S[j]?=some y/\Vr y=true:=λ{j w} e ow=>by
   by_cases hj:j=n
   ·subst hj;exact⟨o,hS,ho⟩
   ·exact⟨w,off hj e,ow⟩
  obtain⟨us',h3',q3⟩:=back h3 o1;obtain⟨ws',h4',q4⟩:=back h4 o2;exact h.nd m k b us' ws' h1 h2 h3' h4' q3 q4
theorem Yc.set {ds ds':List D}{xs:List V}(h:Yc K r S H)(hn:r[n]?=some a)(hS:S[n]?=some (.lst ds))(q:Rps r H ds' xs):Yc K r (S.set n (.lst ds')) (upd H a (.lst xs))/\Ext r r H (upd H a (.lst xs)):=
 h.setO hn hS rfl rfl λx=>⟨xs,Xs,q.ext x⟩
end
def Rs (r:List Addr)(H:Hp)(dl:Ev)(σ:St):Prop:=dl.length=σ.length/\∀(i:Nat)(d:D),dl[i]?=some (some d)->∃v,σ[i]?=some (some v)/\Rp r H d v
theorem Rs.ext {r r':List Addr}{H H':Hp}{dl:Ev}{σ:St}(h:Rs r H dl σ)(e:Ext r r' H H'):Rs r' H' dl σ:=⟨h.1,λi d q=>by
 obtain⟨v,h1,h2⟩:=h.2 i d q;exact⟨v,h1,h2.ext e⟩⟩
theorem Rs.set {r:List Addr}{H:Hp}{dl:Ev}{σ:St}{d:D}{v:V}(i:Nat)(h:Rs r H dl σ)(q:Rp r H d v):Rs r H (dl.set i (some d)) (σ.set i (some v)):=by
 refine⟨by simp[h.1],λj e hj=>?_⟩;by_cases hij:i=j
 ·subst hij;have hl:i<dl.length:=by
   have:=(zF.mp hj).1;simpa using this
  rw[yT hl] at hj;cases hj;exact⟨v,by rw[yT (by rw[<- h.1];exact hl)],q⟩
 ·rw[yY hij] at hj;obtain⟨v',h1,h2⟩:=h.2 j e hj;exact⟨v',by rw[yY hij];exact h1,h2⟩
structure Zx where
 ex:Ev->Addr->Sto->Prop
 w:St->XK
abbrev Zc (ex:Addr->Sto->Prop)(E:XK):Zx:=⟨λ_=>ex,λ_=>E⟩
def Ul (K:Fg)(Z:Zx)(r:List Addr)(H:Hp):Prop:=∀(dl:Ev)(σ:St)(c:Addr)(H':Hp)(r':List Addr)(S':Sto),Ext r r' H H'->Rs r' H' dl σ->Yc K r' S' H'->Z.ex dl c S'->Z.w σ (.ref c) none H'
theorem Ul.ext {K:Fg}{Z:Zx}{r r':List Addr}{H H':Hp}(h:Ul K Z r H)(e:Ext r r' H H'):Ul K Z r' H':=λdl σ c H2 r2 S2 x=>h dl σ c H2 r2 S2 (e.trans x)
structure Rel (K:Fg)(Z:Zx)(r:List Addr)(S:Sto)(H:Hp):Prop where
 b:Yc K r S H
 xw:Ul K Z r H
section
variable {K:Fg}{Z:Zx}{r r':List Addr}{S:Sto}{H H':Hp}{n:Nat}{a p:Addr}
theorem Rel.len (h:Rel K Z r S H):r.length=S.length:=h.b.len
theorem Rel.at {o:Ob}(h:Rel K Z r S H)(e:S[n]?=some o):∃a,r[n]?=some a/\ObR K r H a o:=h.b.at e
theorem Rel.same (h:Rel K Z r S H)(e:∀b o,H b=some o->H' b=some o):Rel K Z r S H':=⟨h.b.same e,h.xw.ext ⟨λ_ _ q=>q,λa xs q=>e _ _ q,λa c q=>e _ _ q⟩⟩
theorem Rel.push {ds:List D}{xs:List V}(h:Rel K Z r S H)(hp:H p=none)(q:Rps r H ds xs):Rel K Z (r++[p]) (S++[.lst ds]) (upd H p (.lst xs))/\Ext r (r++[p]) H (upd H p (.lst xs)):=by
 obtain⟨h1,h2⟩:=h.b.push hp q;exact⟨⟨h1,h.xw.ext h2⟩,h2⟩
theorem Rel.set {ds ds':List D}{xs:List V}(h:Rel K Z r S H)(hn:r[n]?=some a)(hS:S[n]?=some (.lst ds))(q:Rps r H ds' xs):Rel K Z r (S.set n (.lst ds')) (upd H a (.lst xs))/\Ext r r H (upd H a (.lst xs)):=by
 obtain⟨h1,h2⟩:=h.b.set hn hS q;exact⟨⟨h1,h.xw.ext h2⟩,h2⟩
end
def Ret (K:Fg)(Z:Zx)(r:List Addr)(H:Hp)(Q:DK)(Qv:VK):Prop:=∀v H' r' d S',Ext r r' H H'->Rel K Z r' S' H'->Rp r' H' d v->Q d S'->Qv v H'
theorem Ret.ext {K:Fg}{Z:Zx}{r r':List Addr}{H H':Hp}{Q:DK}{Qv:VK}(h:Ret K Z r H Q Qv)(e:Ext r r' H H'):Ret K Z r' H' Q Qv:=λv H2 r2 d S2 x=>h v H2 r2 d S2 (e.trans x)
def up (K:Fg)(Z:Zx)(t:TDE):TE:=λσ H Qv=>∃r dl S Q,Rs r H dl σ/\Rel K Z r S H/\t dl S Q/\Ret K Z r H Q Qv
def upT (K:Fg)(Z:Zx)(t:TDT):TT:=λσ H Qb=>∃r dl S Q,Rs r H dl σ/\Rel K Z r S H/\t dl S Q/\∀b H' r' S',Ext r r' H H'->Rel K Z r' S' H'->Q b S'->Qb b H'
def upA (K:Fg)(Z:Zx)(t:TDA):TA:=λσ H Qv=>∃r dl S Q,Rs r H dl σ/\Rel K Z r S H/\t dl S Q/\∀vs H' r' ds S',Ext r r' H H'->Rel K Z r' S' H'->Rps r' H' ds vs->Q ds S'->Qv vs H'
structure LB (K:Fg)(Z:Zx)(r:List Addr)(H:Hp)(E:Xx)(F:VR):Prop where
 nx:∀σ' H' r' dl' S',Ext r r' H H'->Rs r' H' dl' σ'->Rel K Z r' S' H'->E.nx dl' S'->F.nx σ' H'
 bk:∀σ' H' r' dl' S',Ext r r' H H'->Rs r' H' dl' σ'->Rel K Z r' S' H'->E.bk dl' S'->F.bk σ' H'
 ct:∀σ' H' r' dl' S',Ext r r' H H'->Rs r' H' dl' σ'->Rel K Z r' S' H'->E.ct dl' S'->F.ct σ' H'
 rt:Ret K Z r H E.rt F.rt
theorem LB.ext {K:Fg}{Z:Zx}{r r':List Addr}{H H':Hp}{E:Xx}{F:VR}(h:LB K Z r H E F)(e:Ext r r' H H'):LB K Z r' H' E F:=
 ⟨λa b c d f x=>h.nx a b c d f (e.trans x),λa b c d f x=>h.bk a b c d f (e.trans x),λa b c d f x=>h.ct a b c d f (e.trans x),h.rt.ext e⟩
def upS (K:Fg)(Z:Zx)(t:TDS):TS:=λF σ H=>∃r dl S E,Rs r H dl σ/\Rel K Z r S H/\t E dl S/\LB K Z r H E F
def PD (X:Cx)(Z:Zx)(e:Expr)(t:TDE):Prop:=PE X e (up X.K Z t)
def PDT (X:Cx)(Z:Zx)(e:Expr)(t:TDT):Prop:=PT X e (upT X.K Z t)
def PDW (X:Cx)(Z:Zx)(e:Expr)(t:TDT):Prop:=PW X e (upT X.K Z t)
def PDA (X:Cx)(Z:Zx)(es:List Expr)(t:TDA):Prop:=PA X es (upA X.K Z t)
def PDS (X:Cx)(Z:Zx)(st:Stmt)(t:TDS):Prop:=PS X st (upS X.K Z t)
def X4 (X:Cx)(Z:Zx)(st:List Stmt)(t:TDS):Prop:=PSs X st (upS X.K Z t)
section
variable {X:Cx}{Z:Zx}
theorem Yp (h:PE X e t)(f:∀σ H Q,t' σ H Q->t σ H Q):PE X e t':=λaA s σ H Q I q=>h aA s σ H Q I (f σ H Q q)
theorem Mr (h:PT X e t)(f:∀σ H Q,t' σ H Q->t σ H Q):PT X e t':=λaA s σ H Q I q=>h aA s σ H Q I (f σ H Q q)
theorem HU (h:PW X e t)(f:∀σ H Q,t' σ H Q->t σ H Q):PW X e t':=λwh aA s σ H Q I q=>h wh aA s σ H Q I (f σ H Q q)
theorem HK (h:PA X e t)(f:∀σ H Q,t' σ H Q->t σ H Q):PA X e t':=λpos aA s σ H Q I q=>h pos aA s σ H Q I (f σ H Q q)
theorem YY {e:Stmt}{t t':TS}(h:PS X e t)(f:∀F σ H,t' F σ H->t F σ H):PS X e t':=λaA s σ H F I q=>h aA s σ H F I (f F σ H q)
theorem G3 (h:PSs X e t)(f:∀F σ H,t' F σ H->t F σ H):PSs X e t':=λaA s σ H F I q=>h aA s σ H F I (f F σ H q)
theorem PDW.pt (h:PDW X Z e t):PDT X Z e t:=PW.pt h
def Rt (i:Nat):TDE:=λdl S Q=>match dl[i]? with
 | some (some d)=>Q d S
 | _=>False
def dC (d:D):TDE:=λ_ S Q=>Q d S
theorem zco (h:PE X e (tVar i)):PD X Z e (Rt i):=Yp h λσ H Qv ⟨r,dl,S,Q,rs,bD,q,ret⟩=>by
 unfold Rt at q;split at q
 ·rename_i d e;obtain⟨v,h1,h2⟩:=rs.2 i d e;exact⟨v,h1,ret v H r d S Ext.refl bD h2 q⟩
 ·exact q.elim
theorem dv (i:Nat)(hN:X.N[i]?=some x:=by rfl)(hv:Vis X.env.scope x:=by first|exact Or.inl rfl|exact Or.inr (Or.inl rfl)|exact Or.inr (Or.inr rfl))(hd:(x==("__debug__":Str))=false:=by decide)(hcd:(x==("__classdict__":Str))=false:=by decide):PD X Z (.Name x pos) (Rt i):=zco (FA hN hv hd hcd)
theorem Il (h:PE X e (tC v))(q:∀r H,Rp r H d v):PD X Z e (dC d):=Yp h λσ H Qv ⟨r,dl,S,Q,rs,bD,h,ret⟩=>ret v H r d S Ext.refl bD (q r H) h
theorem Zd {i j pos}:PD X Z (.Constant (.int i) j pos) (dC (.int i)):=Il Ck λ_ _=>.int i
theorem Y8 {b j pos}:PD X Z (.Constant (.bool b) j pos) (dC (.bl b)):=Il pe_bl λ_ _=>.bl b
theorem Z3 {x j pos}:PD X Z (.Constant (.str x) j pos) (dC (.str x)):=Il Af λ_ _=>.str x
abbrev W2:=D->D->Sto->DK->Prop
abbrev W1:=D->Sto->DK->Prop
def upO (K:Fg)(Z:Zx)(w:W2):R2:=λx y H Qv=>∃r S dx dy Q,Rel K Z r S H/\Rp r H dx x/\Rp r H dy y/\w dx dy S Q/\Ret K Z r H Q Qv
def upU (K:Fg)(Z:Zx)(w:W1):V->Hp->VK->Prop:=λx H Qv=>∃r S dx Q,Rel K Z r S H/\Rp r H dx x/\w dx S Q/\Ret K Z r H Q Qv
def dOp (w:W2)(ta tb:TDE):TDE:=λdl S Q=>ta dl S λx S1=>tb dl S1 λy S2=>w x y S2 Q
def dUn (w:W1)(ta:TDE):TDE:=λdl S Q=>ta dl S λx S1=>w x S1 Q
variable {a b c:Expr}{ta tb tc:TDE}{pos:Pos}
theorem Ot (h:up X.K Z (dOp w ta tb) σ H Qv):tOp (upO X.K Z w) (up X.K Z ta) (up X.K Z tb) σ H Qv:=by
 obtain⟨r,dl,S,Q,rs,bD,h,ret⟩:=h;exact⟨r,dl,S,_,rs,bD,h,λv H1 r1 dx S1 e1 aF p1 h1=>⟨r1,dl,S1,_,rs.ext e1,aF,h1,λv2 H2 r2 dy S2 e2 aG p2 h2=>⟨r2,S2,dx,dy,Q,aG,p1.ext e2,p2,h2,ret.ext (e1.trans e2)⟩⟩⟩
theorem Zf (ho:OpR X (binaryOp op) (upO X.K Z w))(ha:PD X Z a ta)(hb:PD X Z b tb):PD X Z (.BinOp a op b pos) (dOp w ta tb):=Yp (pe_op ho ha hb) λ_ _ _ h=>Ot h
theorem WK (ho:UnR X (unaryOp op) (upU X.K Z w))(ha:PD X Z a ta):PD X Z (.UnaryOp op a pos) (dUn w ta):=Yp (pe_un ho ha) λσ H Qv ⟨r,dl,S,Q,rs,bD,h,ret⟩=>
 ⟨r,dl,S,_,rs,bD,h,λv H1 r1 dx S1 e1 aF p1 h1=>⟨r1,S1,dx,Q,aF,p1,h1,ret.ext e1⟩⟩
theorem YK (ho:OpR X (compareOp op) (upO X.K Z w))(ha:PD X Z a ta)(hb:PD X Z b tb)(hm:behindInMarks op b=false):PD X Z (.Compare a [op] [b] pos) (dOp w ta tb):=Yp (DI ho ha hb hm) λ_ _ _ h=>Ot h
theorem Uz (h:OpR X f r)(g:∀x y H Q,r' x y H Q->r x y H Q):OpR X f r':=λaA s σ H x y v u Q I rx ry q=>h aA s σ H x y v u Q I rx ry (g x y H Q q)
theorem An (h:UnR X f r)(g:∀x H Q,r' x H Q->r x H Q):UnR X f r':=λaA s σ H x v Q I rx q=>h aA s σ H x v Q I rx (g x H Q q)
theorem PN (h:Yq X f r)(g:∀x H Q,r' x H Q->r x H Q):Yq X f r':=λaA s σ H xs us Q I rx q=>h aA s σ H xs us Q I rx (g xs H Q q)
def wI (C:Int->Int->Prop)(g:Int->Int->D):W2:=λx y S Q=>match x,y with
 | .int i,.int j=>C i j/\Q (g i j) S
 | _,_=>False
def wI0 (g:Int->Int->D):W2:=λx y S Q=>match x,y with
 | .int i,.int j=>Q (g i j) S
 | _,_=>False
theorem opD (h:OpR X f (rI C g))(hg:∀r H i j,Rp r H (g' i j) (g i j)):OpR X f (upO X.K Z (wI C g')):=
 Uz h λx y H Qv ⟨r,S,dx,dy,Q,bD,px,py,q,ret⟩=>by
  cases px<;>cases py<;>first
   | exact⟨_,_,rfl,rfl,q.1,ret _ _ _ _ _ Ext.refl bD (hg _ _ _ _) q.2⟩
   | exact(show False from q).elim
theorem Tn (h:OpR X f (rI0 g))(hg:∀r H i j,Rp r H (g' i j) (g i j)):OpR X f (upO X.K Z (wI0 g')):=
 Uz h λx y H Qv ⟨r,S,dx,dy,Q,bD,px,py,q,ret⟩=>by
  cases px<;>cases py<;>first
   | exact⟨_,_,rfl,rfl,ret _ _ _ _ _ Ext.refl bD (hg _ _ _ _) q⟩
   | exact(show False from q).elim
abbrev wAdd:W2:=wI0 λi j=>.int (i+j)
abbrev wSub:W2:=wI0 λi j=>.int (i-j)
abbrev wMul:W2:=wI IntMulOk λi j=>.int (i*j)
def CFd (_ j:Int):Prop:=0<j/\j.natAbs.log2<9000
abbrev wFdiv:W2:=wI CFd λi j=>.int (i/j)
def CFn (_ j:Int):Prop:=j≠0/\j.natAbs.log2<9000
abbrev za7:W2:=wI CFn λi j=>.int (i.fdiv j)
abbrev wMod:W2:=wI (λ_ j=>0<j) λi j=>.int (i%j)
abbrev wPow:W2:=wI CPow λi j=>.int (i^j.toNat)
theorem ZQ:OpR X (binaryOp .Add) (upO X.K Z wAdd):=Tn Ag λ_ _ _ _=>.int _
theorem Yr:OpR X (binaryOp .Sub) (upO X.K Z wSub):=Tn zcL λ_ _ _ _=>.int _
theorem ZV:OpR X (binaryOp .Mult) (upO X.K Z wMul):=opD (opI λ_ _ _ _ _ _ _ hc q=>mul_int q hc) λ_ _ _ _=>.int _
theorem Y2:OpR X (binaryOp .FloorDiv) (upO X.K Z wFdiv):=opD (opI λi j _ _ _ _ _ hc q=>floordiv_int (by have h:0<j:=hc.1;omega) (by have h:0<j:=hc.1;rw[Int.fdiv_eq_ediv_of_nonneg i (by omega)];exact q) (.inl (PyProof.noPylong_of_log2 hc.2))) λ_ _ _ _=>.int _
theorem DV:OpR X (binaryOp .FloorDiv) (upO X.K Z za7):=opD (opI λ_ _ _ _ _ _ _ hc q=>floordiv_int hc.1 q (.inl (PyProof.noPylong_of_log2 hc.2))) λ_ _ _ _=>.int _
theorem Yz:OpR X (binaryOp .Mod) (upO X.K Z wMod):=opD CB λ_ _ _ _=>.int _
theorem Aa:OpR X (binaryOp .Pow) (upO X.K Z wPow):=opD Cz λ_ _ _ _=>.int _
abbrev wLt:W2:=wI0 λi j=>.bl (decide (i<j))
abbrev wLe:W2:=wI0 λi j=>.bl (decide (i<=j))
abbrev wGt:W2:=wI0 λi j=>.bl (decide (j<i))
abbrev wGe:W2:=wI0 λi j=>.bl (decide (j<=i))
theorem X8:OpR X (compareOp .Lt) (upO X.K Z wLt):=Tn op_lt λ_ _ _ _=>.bl _
theorem TL:OpR X (compareOp .LtE) (upO X.K Z wLe):=Tn op_le λ_ _ _ _=>.bl _
theorem Qa:OpR X (compareOp .Gt) (upO X.K Z wGt):=Tn op_gt λ_ _ _ _=>.bl _
theorem do_ge:OpR X (compareOp .GtE) (upO X.K Z wGe):=Tn op_ge λ_ _ _ _=>.bl _
def wNeg:W1:=λx S Q=>match x with
 | .int i=>Q (.int (-i)) S
 | _=>False
theorem WA:UnR X (unaryOp .USub) (upU X.K Z wNeg):=An zbD λx H Qv ⟨r,S,dx,Q,bD,px,q,ret⟩=>by
 cases px<;>first
  | exact⟨_,rfl,ret _ _ _ _ _ Ext.refl bD (.int _) q⟩
  | exact(show False from q).elim
end
def eqF:D->D->Option Bool
 | .non,.non=>some true
 | .bl i,.bl j=>some (i==j)
 | .int i,.int j=>some (decide (i=j))
 | .str i,.str j=>some (decide (i=j))
 | .non,.int _=>some false|.int _,.non=>some false|.non,.bl _=>some false|.bl _,.non=>some false|.non,.str _=>some false|.str _,.non=>some false
 | .int _,.str _=>some false|.str _,.int _=>some false|.bl _,.str _=>some false|.str _,.bl _=>some false
 | _,_=>none
def eqL (f:D->D->Option Bool):List D->List D->Option Bool
 | [],[]=>some true
 | x::xs,y::ys=>match f x y,eqL f xs ys with
  | some b,some c=>some (b&&c)
  | _,_=>none
 | _,_=>some false
def eqT (f:D->D->Option Bool):D->D->Option Bool
 | .tup xs,.tup ys=>eqL f xs ys
 | x,y=>eqF x y
abbrev eq1:D->D->Option Bool:=eqT eqF
abbrev eq2:D->D->Option Bool:=eqT eq1
def Vk (n:Nat)(f:D->D->Option Bool):Prop:=∀(X:Cx)(aA:LA)(σ:St)(H:Hp)(s:Shared)(r:List Addr)(A:Around)(dx dy:D)(x y:V)(u v:Value)(b:Bool),
 Inv X aA σ H s->A.units+n<cLine->Rp r H dx x->Rp r H dy y->ZG x u->ZG y v->f dx dy=some b->SeqAt.EqAt A s u v b
def UE (f:D->D->Option Bool):Prop:=∀(r:List Addr)(H:Hp)(dx dy:D)(x:V)(b:Bool),Rp r H dx x->Rp r H dy x->f dx dy=some b->b=true
theorem U4:UE eqF:=by
 intro r H dx dy x b px py e;cases px<;>cases py<;>simp[eqF] at e<;>first|exact e.symm|exact e
theorem Fb (hf:UE f):∀ {xs ys:List D} {vs:List V} {b:Bool},Rps r H xs vs->Rps r H ys vs->eqL f xs ys=some b->b=true
 | [],[],_,b,_,_,e=>by simp[eqL] at e;exact e
 | [],y::ys,vs,b,p,q,e=>by
  have h1:=p.unnil;subst h1;exact absurd q.1 (by simp)
 | x::xs,[],vs,b,p,q,e=>by
  have h1:=q.unnil;subst h1;exact absurd p.1 (by simp)
 | x::xs,y::ys,vs,b,p,q,e=>by
  obtain⟨v,vs',rfl,p1,p2⟩:=p.uncons;obtain⟨q1,q2⟩:=q.tail;unfold eqL at e;split at e
  ·rename_i b1 c1 e1 e2;have h1:=hf r H x y v b1 p1 q1 e1
   have h2:=Fb hf p2 q2 e2;subst h1;subst h2
   simp at e;exact e
  ·cases e
theorem GC (hf:UE f):UE (eqT f):=by
 intro r H dx dy x b px py e;cases px with
 | tup e1 l1 f1=>
  cases py with
  | tup e2 l2 f2=>
   rw[e1] at e2;cases e2
   exact Fb hf ⟨l1,f1⟩ ⟨l2,f2⟩ e
  | ref h=>simp[eqT,eqF] at e
  | exc h=>simp[eqT,eqF] at e
 | non=>exact U4 r H _ _ _ b .non py (by cases py<;>exact e)
 | bl i=>exact U4 r H _ _ _ b (.bl i) py (by cases py<;>exact e)
 | int i=>exact U4 r H _ _ _ b (.int i) py (by cases py<;>exact e)
 | str i=>exact U4 r H _ _ _ b (.str i) py (by cases py<;>exact e)
 | ref h=>cases py<;>simp[eqT,eqF] at e
 | exc h=>cases py<;>simp[eqT,eqF] at e
theorem Oj (n:Nat):Vk n eqF:=by
 intro X aA σ H s r A dx dy x y u v b I hu px py rx ry e;have bC:∀ {x y:V},ZG x u->ZG y v->Lj x=true->Lj y=true->eqV x y=b->SeqAt.EqAt A s u v b:=λrx ry fx fy e'=>by
  subst e';exact DF rx ry fx fy
 cases px<;>cases py<;>simp[eqF] at e<;>refine bC rx ry rfl rfl ?_<;>simp[eqV,e]<;>first|exact e|(subst e;simp)|skip
theorem VC (I:Inv X aA σ H s)(h:H a=some (.tup xs)):∃bB:List Value,ZF xs bB/\IsTup s.heap a bB.toArray/\xs.length<=sizeLine:=I.tuple (SqT.of h)
def X7 (f:D->D->Option Bool)(xs ys:List D)(j:Nat):Bool:=match xs[j]?,ys[j]? with
 | some x,some y=>(f x y).getD false
 | _,_=>false
theorem GU:∀ {xs ys:List D} {b:Bool},eqL f xs ys=some b->(∀(j:Nat)(x y:D),xs[j]?=some x->ys[j]?=some y->∃c,f x y=some c)/\((List.range (min xs.length ys.length)).all (X7 f xs ys)&&xs.length==ys.length)=b
 | [],[],b,e=>by simp[eqL] at e;subst e;simp
 | [],y::ys,b,e=>by simp[eqL] at e;subst e;simp
 | x::xs,[],b,e=>by simp[eqL] at e;subst e;simp
 | x::xs,y::ys,b,e=>by
  unfold eqL at e;split at e
  ·rename_i b1 c1 e1 e2;obtain⟨h1,h2⟩:=GU e2;refine⟨λj p q hp hq=>?_,?_⟩
   ·cases j with
    | zero=>simp at hp hq;subst hp;subst hq;exact⟨b1,e1⟩
    | succ j=>exact h1 j p q (by simpa using hp) (by simpa using hq)
   ·have z:min (x::xs).length (y::ys).length=min xs.length ys.length+1:=by simp[Nat.succ_min_succ]
    rw[z,List.range_succ_eq_map,List.all_cons,List.all_map];have e0:X7 f (x::xs) (y::ys) 0=b1:=by simp[X7,e1]
    have es:(X7 f (x::xs) (y::ys) ∘ Nat.succ)=X7 f xs ys:=by funext j;simp[X7]
    rw[e0,es];have e3:((x::xs).length==(y::ys).length)=(xs.length==ys.length):=by simp
    rw[e3,Bool.and_assoc,h2];simp at e;exact e
  ·cases e
theorem RT {n:Nat}{f:D->D->Option Bool}(hf:Vk n f){X:Cx}{aA:LA}{σ:St}{H:Hp}{s:Shared}{r:List Addr}{A:Around}{xs ys:List D}{us vs:List V}{is js:List Value}{b:Bool}
  (I:Inv X aA σ H s)(hu:A.units+n<cLine)(p:Rps r H xs us)(q:Rps r H ys vs)(ri:ZF us is)(rj:ZF vs js)(e:eqL f xs ys=some b):
  (∀j (h1:j<is.toArray.size) (h2:j<js.toArray.size),SeqAt.EqAt A s is.toArray[j] js.toArray[j] (X7 f xs ys j))/\((List.range (min is.toArray.size js.toArray.size)).all (X7 f xs ys)&&is.toArray.size==js.toArray.size)=b:=by
 obtain⟨h1,h2⟩:=GU e;have l1:is.toArray.size=xs.length:=by rw[zN,<- ri.length,p.1]
 have l2:js.toArray.size=ys.length:=by rw[zN,<- rj.length,q.1]
 refine⟨λj hj1 hj2=>?_,by rw[l1,l2];exact h2⟩;have k1:j<xs.length:=by omega
 have k2:j<ys.length:=by omega
 have g1:xs[j]?=some xs[j]:=by simp[k1]
 have g2:ys[j]?=some ys[j]:=by simp[k2]
 obtain⟨x,gx,px⟩:=p.get g1;obtain⟨y,gy,py⟩:=q.get g2;obtain⟨u,gu,ru⟩:=ri.get gx;obtain⟨v,gv,rv⟩:=rj.get gy;obtain⟨c,hc⟩:=h1 j _ _ g1 g2;have eu:is.toArray[j]=u:=by
  have z:=zF.mp gu;simpa using z.2
 have ev:js.toArray[j]=v:=by
  have z:=zF.mp gv;simpa using z.2
 have ec:X7 f xs ys j=c:=by simp[X7,g1,g2,hc]
 rw[eu,ev,ec];exact hf X aA σ H s r A _ _ x y u v c I hu px py ru rv hc
theorem GO (hf:Vk n f)(hs:UE f):Vk (n+1) (eqT f):=by
 intro X aA σ H s r A dx dy x y u v b I hu px py rx ry e;have flat:∀ {dx dy:D} {x y:V},Rp r H dx x->Rp r H dy y->ZG x u->ZG y v->eqF dx dy=some b->SeqAt.EqAt A s u v b:=λpx py rx ry e=>Oj (n+1) X aA σ H s r A _ _ _ _ u v b I hu px py rx ry e
 cases px with
 | @tup ds xs a e1 l1 f1=>
  cases py with
  | @tup es ys a' e2 l2 f2=>
   cases rx;cases ry;by_cases z:a=a'
   ·subst z;have hb:=GC hs r H _ _ _ b (.tup e1 l1 f1) (.tup e2 l2 f2) e;subst hb;exact SeqAt.EqAt.same _
   ·obtain⟨is,ri,ti,_⟩:=VC I e1;obtain⟨js,rj,tj,_⟩:=VC I e2;obtain⟨g1,g2⟩:=RT (A:=A.in1) hf I (by show A.units+1+n<_;omega) ⟨l1,f1⟩ ⟨l2,f2⟩ ri rj e;have q:=SeqAt.RcAt.tuples (A:=A) ti tj (by omega) g1;rw[g2] at q;exact SeqAt.EqAt.of_refs z q
  | ref h=>simp[eqT,eqF] at e
  | _=>simp[eqT,eqF] at e
 | non=>exact flat .non py rx ry (by cases py<;>exact e)
 | bl i=>exact flat (.bl i) py rx ry (by cases py<;>exact e)
 | int i=>exact flat (.int i) py rx ry (by cases py<;>exact e)
 | str i=>exact flat (.str i) py rx ry (by cases py<;>exact e)
 | ref h=>cases py<;>simp[eqT,eqF] at e
 | exc h=>cases py<;>simp[eqT,eqF] at e
theorem Ft (n:Nat):Vk (n+1) eq1:=GO (Oj n) U4
def wEq (f:D->D->Option Bool):W2:=λx y S Q=>match f x y with
 | some b=>Q (.bl b) S
 | none=>False
def wNe (f:D->D->Option Bool):W2:=λx y S Q=>match f x y with
 | some b=>Q (.bl (!b)) S
 | none=>False
section
variable {X:Cx}{Z:Zx}
theorem Fx (px:Rp r H dx x)(py:Rp r H dy y)(e:eqF dx dy=some b):Ld x y=true/\decide (x=y)=b:=by
 cases px<;>cases py<;>simp[eqF] at e<;>simp[Ld]<;>first|exact e|(subst e;simp)|skip
theorem HC (hf:Vk n f)(hu:X.A.units+1+n<cLine):OpR X (compareOp .Eq) (upO X.K Z (wEq (eqT f))):=by
 intro aA s σ H x y v u Qv I rx ry h;obtain⟨r,S,dx,dy,Q,bD,px,py,q,ret⟩:=h;unfold wEq at q;split at q
 ·rename_i b e;have flat:∀ {dx dy:D} {x y:V},Rp r H dx x->Rp r H dy y->ZG x v->ZG y u->eqF dx dy=some b->wpAny (model X.prog X.w) X.A (compareOp .Eq v u) (EP X aA σ Qv) X.xe s:=λpx py rx ry e=>by
   obtain⟨h1,h2⟩:=Fx px py e;refine Kr aA s σ H _ _ v u Qv I rx ry ⟨h1,?_⟩;rw[h2];exact ret _ _ _ _ _ Ext.refl bD (.bl b) q
  cases px with
  | @tup ds xs a e1 l1 f1=>
   cases py with
   | @tup es ys a' e2 l2 f2=>
    cases rx;cases ry;obtain⟨is,ri,ti,_⟩:=VC I e1;obtain⟨js,rj,tj,_⟩:=VC I e2;obtain⟨g1,g2⟩:=RT (A:=X.A.in1) hf I (by show X.A.units+1+n<_;omega) ⟨l1,f1⟩ ⟨l2,f2⟩ ri rj e;refine SeqAt.eq_tupleAt (A:=X.A) ti tj (by omega) g1 ?_;rw[g2];exact⟨.bl b,H,I,rfl,ret _ _ _ _ _ Ext.refl bD (.bl b) q⟩
   | _=>simp[eqT,eqF] at e
  | non=>exact flat .non py rx ry (by cases py<;>exact e)
  | bl i=>exact flat (.bl i) py rx ry (by cases py<;>exact e)
  | int i=>exact flat (.int i) py rx ry (by cases py<;>exact e)
  | str i=>exact flat (.str i) py rx ry (by cases py<;>exact e)
  | ref h=>cases py<;>simp[eqT,eqF] at e
  | exc h=>cases py<;>simp[eqT,eqF] at e
 ·exact q.elim
theorem GJ (hf:Vk n f)(hu:X.A.units+1+n<cLine):OpR X (compareOp .NotEq) (upO X.K Z (wNe (eqT f))):=by
 intro aA s σ H x y v u Qv I rx ry h;obtain⟨r,S,dx,dy,Q,bD,px,py,q,ret⟩:=h;unfold wNe at q;split at q
 ·rename_i b e;have flat:∀ {dx dy:D} {x y:V},Rp r H dx x->Rp r H dy y->ZG x v->ZG y u->eqF dx dy=some b->wpAny (model X.prog X.w) X.A (compareOp .NotEq v u) (EP X aA σ Qv) X.xe s:=λpx py rx ry e=>by
   obtain⟨h1,h2⟩:=Fx px py e;refine op_ne aA s σ H _ _ v u Qv I rx ry ⟨h1,?_⟩;rw[h2];exact ret _ _ _ _ _ Ext.refl bD (.bl (!b)) q
  cases px with
  | @tup ds xs a e1 l1 f1=>
   cases py with
   | @tup es ys a' e2 l2 f2=>
    cases rx;cases ry;obtain⟨is,ri,ti,_⟩:=VC I e1;obtain⟨js,rj,tj,_⟩:=VC I e2;obtain⟨g1,g2⟩:=RT (A:=X.A.in1) hf I (by show X.A.units+1+n<_;omega) ⟨l1,f1⟩ ⟨l2,f2⟩ ri rj e;refine SeqAt.RcNeAt.tuples (A:=X.A) ti tj (by omega) g1 X.prog X.w _ _ ?_;rw[g2];exact⟨.bl (!b),H,I,rfl,ret _ _ _ _ _ Ext.refl bD (.bl (!b)) q⟩
   | _=>simp[eqT,eqF] at e
  | non=>exact flat .non py rx ry (by cases py<;>exact e)
  | bl i=>exact flat (.bl i) py rx ry (by cases py<;>exact e)
  | int i=>exact flat (.int i) py rx ry (by cases py<;>exact e)
  | str i=>exact flat (.str i) py rx ry (by cases py<;>exact e)
  | ref h=>cases py<;>simp[eqT,eqF] at e
  | exc h=>cases py<;>simp[eqT,eqF] at e
 ·exact q.elim
theorem ZT (hr:Z5 k X.A):OpR X (compareOp .Eq) (upO X.K Z (wEq eq2)):=HC (Ft 0) (by have:=hr.un;omega)
theorem UB (hr:Z5 k X.A):OpR X (compareOp .NotEq) (upO X.K Z (wNe eq2)):=GJ (Ft 0) (by have:=hr.un;omega)
end
section
variable {X:Cx}{Z:Zx}{a b c:Expr}{ta tb tc:TDE}{pos:Pos}{Yy:List Expr}
def VL (t:TDE):TDT:=λdl S Q=>t dl S λd S'=>match d with
 | .bl k=>Q k S'
 | _=>False
theorem Hq {K:Fg}{Z:Zx}{r:List Addr}{H:Hp}{Q:Bool->Sto->Prop}{Qb:Bool->Hp->Prop}(h:∀b H' r' S',Ext r r' H H'->Rel K Z r' S' H'->Q b S'->Qb b H'):
  Ret K Z r H (λd S'=>match d with|.bl k=>Q k S'|_=>False) (λx H'=>∃k,x=.bl k/\Qb k H'):=λv H' r' d S' e bD p q=>by
 cases p with
 | bl k=>exact⟨k,rfl,h k H' r' S' e bD q⟩
 | _=>exact(show False from q).elim
theorem ZL {op:CmpOp}{w:W2}(ho:OpR X (compareOp op) (upO X.K Z w))(ha:PD X Z a ta)(hb:PD X Z b tb)(hm:behindInMarks op b=false):PDT X Z (.Compare a [op] [b] pos) (VL (dOp w ta tb)):=
 Mr (DL ho ha hb hm) λσ H Qb ⟨r,dl,S,Q,rs,bD,h,ret⟩=>Ot ⟨r,dl,S,_,rs,bD,h,Hq ret⟩
theorem Xq {e:Expr}{t:TDE}(h:PD X Z e t)(he:∀aW,isTrue e X.env aW=(do let v <- aW;standAt e.pos;holding [v] (truthy v)):=by intro _;rfl):PDT X Z e (VL t):=
 Mr (zbG h he) λσ H Qb ⟨r,dl,S,Q,rs,bD,h,ret⟩=>⟨r,dl,S,_,rs,bD,h,Hq ret⟩
def dNot (t:TDT):TDT:=λdl S Q=>t dl S λk S'=>Q (!k) S'
theorem Wl (ha:PDT X Z a t):PDT X Z (.UnaryOp .Not a pos) (dNot t):=
 Mr (Dk ha) λσ H Qb ⟨r,dl,S,Q,rs,bD,h,ret⟩=>⟨r,dl,S,_,rs,bD,h,λk H' r' S' e rel' q=>ret (!k) H' r' S' e rel' q⟩
def dAnd (t u:TDT):TDT:=λdl S Q=>t dl S λk S1=>if k=true then u dl S1 Q else Q false S1
def dOr (t u:TDT):TDT:=λdl S Q=>t dl S λk S1=>if k=true then Q true S1 else u dl S1 Q
theorem NI (ha:PDT X Z a t):PDW X Z (.BoolOp .And [a] pos) t:=zaC ha
theorem VO (ha:PDT X Z a t):PDW X Z (.BoolOp .Or [a] pos) t:=zc8 ha
theorem LU (ha:PDT X Z a t)(hb:PDW X Z (.BoolOp .And (b::Yy) pos) u):PDW X Z (.BoolOp .And (a::b::Yy) pos) (dAnd t u):=
 HU (AS ha hb) λσ H Qb ⟨r,dl,S,Q,rs,bD,h,ret⟩=>⟨r,dl,S,_,rs,bD,h,λk H1 r1 S1 e1 aF q1=>by
  cases k with
  | true=>exact Xm ⟨r1,dl,S1,Q,rs.ext e1,aF,(by simpa using q1),λk' H2 r2 S2 e2=>ret k' H2 r2 S2 (e1.trans e2)⟩
  | false=>exact YR (ret false H1 r1 S1 e1 aF (by simpa using q1))⟩
theorem Vc (ha:PDT X Z a t)(hb:PDW X Z (.BoolOp .Or (b::Yy) pos) u):PDW X Z (.BoolOp .Or (a::b::Yy) pos) (dOr t u):=
 HU (pw_or ha hb) λσ H Qb ⟨r,dl,S,Q,rs,bD,h,ret⟩=>⟨r,dl,S,_,rs,bD,h,λk H1 r1 S1 e1 aF q1=>by
  cases k with
  | true=>exact Xm (ret true H1 r1 S1 e1 aF (by simpa using q1))
  | false=>exact YR ⟨r1,dl,S1,Q,rs.ext e1,aF,(by simpa using q1),λk' H2 r2 S2 e2=>ret k' H2 r2 S2 (e1.trans e2)⟩⟩
def dAndV (ta tb:TDE):TDE:=λdl S Q=>ta dl S λx S1=>match x with
 | .bl k=>if k=true then tb dl S1 Q else Q (.bl false) S1
 | _=>False
theorem WX {op}(h:PD X Z a t):PD X Z (.BoolOp op [a] pos) t:=DE h
theorem W3 (ha:PD X Z a ta)(hb:PD X Z (.BoolOp .And (b::Yy) pos) tb):PD X Z (.BoolOp .And (a::b::Yy) pos) (dAndV ta tb):=
 Yp (zcZ ha hb) λσ H Qv ⟨r,dl,S,Q,rs,bD,h,ret⟩=>⟨r,dl,S,_,rs,bD,h,λv H1 r1 d S1 e1 aF p q1=>by
  cases p with
  | bl k=>
   refine⟨k,rfl,?_⟩;cases k with
   | true=>exact Xm ⟨r1,dl,S1,Q,rs.ext e1,aF,(by simpa using q1),ret.ext e1⟩
   | false=>exact YR (ret _ H1 r1 (.bl false) S1 e1 aF (.bl false) (by simpa using q1))
  | _=>exact(show False from q1).elim⟩
def dIfE (t:TDT)(ta tb:TDE):TDE:=λdl S Q=>t dl S λk S1=>if k=true then ta dl S1 Q else tb dl S1 Q
theorem Hv (hc:PDT X Z c t)(ha:PD X Z a ta)(hb:PD X Z b tb):PD X Z (.IfExp c a b pos) (dIfE t ta tb):=
 Yp (zcg hc ha hb) λσ H Qv ⟨r,dl,S,Q,rs,bD,h,ret⟩=>⟨r,dl,S,_,rs,bD,h,λk H1 r1 S1 e1 aF q1=>by
  cases k with
  | true=>exact Xm ⟨r1,dl,S1,Q,rs.ext e1,aF,(by simpa using q1),ret.ext e1⟩
  | false=>exact YR ⟨r1,dl,S1,Q,rs.ext e1,aF,(by simpa using q1),ret.ext e1⟩⟩
def Fs (w w':W2)(ta tb tc:TDE):TDE:=λdl S Q=>ta dl S λx S1=>tb dl S1 λy S2=>w x y S2 λz S3=>match z with
 | .bl k=>if k=true then tc dl S3 λu S4=>w' y u S4 Q else Q (.bl false) S3
 | _=>False
theorem BZ (h:up X.K Z (Fs w w' ta tb tc) σ H Qv):GZ (upO X.K Z w) (upO X.K Z w') (up X.K Z ta) (up X.K Z tb) (up X.K Z tc) σ H Qv:=by
 obtain⟨r,dl,S,Q,rs,bD,h,ret⟩:=h;refine⟨r,dl,S,_,rs,bD,h,λv H1 r1 dx S1 e1 aF p1 h1=>⟨r1,dl,S1,_,rs.ext e1,aF,h1,λv2 H2 r2 dy S2 e2 aG p2 h2=>⟨r2,S2,dx,dy,_,aG,p1.ext e2,p2,h2,λv3 H3 r3 dz S3 e3 aH p3 h3=>?_⟩⟩⟩;cases p3 with
 | bl k=>
  refine⟨k,rfl,?_⟩;cases k with
  | true=>exact Xm ⟨r3,dl,S3,_,rs.ext (e1.trans (e2.trans e3)),aH,(by simpa using h3),λv4 H4 r4 du S4 e4 aJ p4 h4=>⟨r4,S4,dy,du,Q,aJ,(p2.ext e3).ext e4,p4,h4,ret.ext (e1.trans (e2.trans (e3.trans e4)))⟩⟩
  | false=>exact YR (ret _ H3 r3 (.bl false) S3 (e1.trans (e2.trans e3)) aH (.bl false) (by simpa using h3))
 | _=>exact(show False from h3).elim
theorem F1 {op op':CmpOp}{w w':W2}(ho:OpR X (compareOp op) (upO X.K Z w))(ho':OpR X (compareOp op') (upO X.K Z w'))(ha:PD X Z a ta)(hb:PD X Z b tb)(hc:PD X Z c tc)
  (hm:lastMarks [op,op'] [b,c]=false:=by with_unfolding_all rfl):PDT X Z (.Compare a [op,op'] [b,c] pos) (VL (Fs w w' ta tb tc)):=
 Mr (DH ho ho' ha hb hc hm) λσ H Qb ⟨r,dl,S,Q,rs,bD,h,ret⟩=>BZ ⟨r,dl,S,_,rs,bD,h,Hq ret⟩
variable {e:Expr}{es:List Expr}
def U1:TDA:=λ_ S Q=>Q [] S
def Vl (ta:TDE)(tr:TDA):TDA:=λdl S Q=>ta dl S λx S1=>tr dl S1 λxs S2=>Q (x::xs) S2
theorem Ze:PDA X Z [] U1:=HK ID λσ H Qv ⟨r,dl,S,Q,rs,bD,h,ret⟩=>ret [] H r [] S Ext.refl bD Rps.nil h
theorem Za (ha:PD X Z e te)(hr:PDA X Z es t)(hs:starEach (e::es) X.env=(false,eval e X.env)::starEach es X.env:=by rfl):PDA X Z (e::es) (Vl te t):=
 HK (Jp ha hr hs) λσ H Qv ⟨r,dl,S,Q,rs,bD,h,ret⟩=>⟨r,dl,S,_,rs,bD,h,λv H1 r1 d S1 e1 aF p1 h1=>⟨r1,dl,S1,_,rs.ext e1,aF,h1,λvs H2 r2 ds S2 e2 aG p2 h2=>
  ret (v::vs) H2 r2 (d::ds) S2 (e1.trans e2) aG (Rps.cons (p1.ext e2) p2) h2⟩⟩
def Sx (t:TDA):TDE:=λdl S Q=>t dl S λds S1=>if ds.length<=1000 then Q (.tup ds) S1 else False
def dLst (t:TDA):TDE:=λdl S Q=>t dl S λds S1=>if ds.length<=1000 then Q (.ref S1.length) (S1++[.lst ds]) else False
theorem PM [Decidable p] (h:if p then A else False):p/\A:=by
 split at h
 ·exact⟨by assumption,h⟩
 ·exact h.elim
theorem Wv (h:n<=1000):n<=sizeLine:=yX (Qy h)
theorem ZR {x1}(h:PDA X Z es t):PD X Z (.Tuple es x1 pos) (Sx t):=
 Yp (Bp h) λσ H Qv ⟨r,dl,S,Q,rs,bD,h,ret⟩=>⟨r,dl,S,_,rs,bD,h,λvs H1 r1 ds S1 e1 aF p1 h1=>by
  obtain⟨hl,h1⟩:=PM h1;refine⟨by rw[<- p1.1];exact Wv hl,λp hp=>?_⟩;have x:Ext r1 r1 H1 (upd H1 p (.tup vs)):=⟨λ_ _ q=>q,λa xs q=>Xd hp _ _ q,λa c q=>Xd hp _ _ q⟩;exact ret _ _ r1 (.tup ds) S1 (e1.trans x) (aF.same (Xd hp)) ((p1.ext x).tupR Xs) h1⟩
theorem W7 (h:r.length=n):Rp (r++[p]) H (.ref n) (.ref p):=.ref (by subst h;simp)
theorem Yo (h:PDA X Z es t):PD X Z (.List es pos) (dLst t):=
 Yp (BF h) λσ H Qv ⟨r,dl,S,Q,rs,bD,h,ret⟩=>⟨r,dl,S,_,rs,bD,h,λvs H1 r1 ds S1 e1 aF p1 h1=>by
  obtain⟨hl,h1⟩:=PM h1;refine⟨by rw[<- p1.1];exact Wv hl,λp hp=>?_⟩;obtain⟨aG,x⟩:=aF.push hp p1;exact ret _ _ _ (.ref S1.length) _ (e1.trans x) aG (W7 aF.len) h1⟩
def wIx:W2:=λx y S Q=>match x,y with
 | .tup xs,.int i=>match atI xs i with
  | some d=>Q d S
  | none=>False
 | .ref n,.int i=>match lAt S n with
  | some o=>match atI (Zq o) i with
   | some d=>Q d S
   | none=>False
  | none=>False
 | _,_=>False
theorem G0 {r:List Addr}{H:Hp}{ds:List D}{vs:List V}{i:Int}{d:D}(h:Rps r H ds vs)(e:atI ds i=some d):∃v,atI vs i=some v/\Rp r H d v:=by
  unfold atI at e ⊢;rw[<- h.1];cases q:ixN ds.length i with
  | none=>
   rw[q] at e;cases e
  | some j=>
    rw[q] at e;exact h.get e
theorem do_ix:IxR X (upO X.K Z wIx):=by
 intro value slice aA s σ H x y v u Qv I rx ry h hs;obtain⟨r,S,dx,dy,Q,bD,px,py,q,ret⟩:=h;cases px with
 | @tup ds xs a e1 l1 f1=>
  cases py with
  | int i=>
   have q':(match atI ds i with|some d=>Q d S|none=>False):=q;split at q'
   ·rename_i d e;obtain⟨w,hw,pw⟩:=G0 ⟨l1,f1⟩ e;exact DQ value slice aA s σ H _ _ v u Qv I rx ry ⟨a,xs,i,w,rfl,rfl,SqT.of e1,hw,ret w H r d S Ext.refl bD pw q'⟩ hs
   ·exact q'.elim
  | _=>exact(show False from q).elim
 | @ref n a e1=>
  cases py with
  | int i=>
   have q':(match lAt S n with|some o=>(match atI (Zq o) i with|some d=>Q d S|none=>False)|none=>False):=q;split at q'
   ·rename_i o eo;obtain⟨eo,eL⟩:=YF eo;obtain⟨a',ha,ob⟩:=bD.at eo;rw[e1] at ha;cases ha
    obtain⟨xs,sq,pr⟩:=ob.list eL;split at q'
    ·rename_i d e;obtain⟨w,hw,pw⟩:=G0 pr e;exact AU value slice aA s σ H _ _ v u Qv I rx ry ⟨a,xs,i,w,rfl,rfl,sq,hw,ret w H r d S Ext.refl bD pw q'⟩ hs
    ·exact q'.elim
   ·exact q'.elim
  | _=>exact(show False from q).elim
 | _=>exact(show False from q).elim
theorem Fv (ha:PD X Z a ta)(hb:PD X Z b tb)(hs:Qh b):PD X Z (.Subscript a b pos) (dOp wIx ta tb):=Yp (pe_ix do_ix ha hb hs) λ_ _ _ h=>Ot h
theorem Zi (ha:PD X Z a ta)(hb:PD X Z b tb)(hs:Qh b:=by exact λ_ _=>rfl):PD X Z (.Subscript a b pos) (dOp wIx ta tb):=Fv ha hb hs
end
structure Bk (fs:List Addr)(H H':Hp)(B h:Heap)(ea:Addr):Prop where
 trk:∀b u,H' b=some u->∃o,B.get? b=some o
 old:∀b o,h.get? b=some o->H b=none->b ∉ fs->B.get? b=some o
 all:∀b o,h.get? b=some o->b ∉ fs->∃o',B.get? b=some o'
 new:H' ea=none
def CXE (P:Program)(w:World):CXT:=λouter H s E e s'=>∃(ea c:Addr)(a0:Value)(B:Heap)(H':Hp),e=.ref ea/\s'.os=s.os/\AllBare s'.gens/\Un (frs outer) [] H H' s.heap s'.heap/\HOk P w H' s'.heap/\
 Heap.FlyingW B outer ea (.ref c) a0 s'.heap/\Bk (frs outer) H H' B s.heap ea/\E (.ref c) none H'
section
variable {X:Cx}{aA:LA}{σ:St}{H:Hp}{s:Shared}
end
section
variable {P:Program}{w:World}{K:Fg}{mg:Str->Option Value}{base:Heap}{N:List Str}{aL:Str}{scope:Scope}{f:Addr}{cdv:Value}{A:Around}{outer:List Env}{s0:Shared}{H0:Hp}{E:XK}
end
abbrev WC:=List D->Sto->DK->Prop
abbrev Sd:=List D->Sto->DK->(Addr->Sto->Prop)->Prop
def upC (K:Fg)(Z:Zx)(w:WC):List V->Hp->VK->Prop:=λxs H Qv=>∃r S ds Q,Rel K Z r S H/\Rps r H ds xs/\w ds S Q/\Ret K Z r H Q Qv
def upF (K:Fg)(sd:Sd):Sp:=λvs H Qv E=>∃ex:Addr->Sto->Prop,upC K (Zc ex E) (λds S Q=>sd ds S Q ex) vs H Qv
def MI (w:WC)(t:TDA):TDE:=λdl S Q=>t dl S λds S1=>w ds S1 Q
def Kn (ex:Ev->Addr->Sto->Prop)(sd:Sd)(t:TDA):TDE:=λdl S Q=>t dl S λds S1=>sd ds S1 Q (ex dl)
def W4 (X:Cx)(W:St->XK):Prop:=∀(aA:LA)(σ:St)(H:Hp)(s:Shared)(e:Value)(s':Shared),Inv X aA σ H s->CXE X.prog X.w X.stack H s (W σ) e s'->X.xe e s'
section
variable {X:Cx}{k:Nat}{f:Addr}{fd:FuncData}{ps:List Str}{sp:Sp}{W:St->XK}{x:Str}{p pos:Pos}{e:Expr}{es:List Expr}{t:TA}
theorem Ht (F:YL X.prog X.w X.K X.mg X.base (CXE X.prog X.w) k f fd ps sp)(hr:Z5 k X.A)(hb:Xl X.K fd ps [])(hx:W4 X W)(I:Inv X aA σ H s)(r:ZF vs us)(h:sp vs H Q (W σ)):wpAny (model X.prog X.w) X.A (call (.ref f) us) (EP X aA σ Q) X.xe s:=by
 have hl:us.length=ps.length:=by rw[<- r.length];exact F.len _ _ _ _ h
 have hb':=hb s us I.kIn (by rw[xD];exact hl);rw[xD] at hb';refine wpAny_call (codeAny_mono (F.run X.A X.stack s H ⟨us,[]⟩ us vs Q (W σ) hr I.env0 hb' r h) λz s' hq=>?_);cases z with
 | error ev=>exact hx aA σ H s ev s' I hq
 | ok fl=>
  cases fl with
  | ret u=>exact I.after hq
  | _=>exact False.elim hq
theorem zbt (F:YL X.prog X.w X.K X.mg X.base (CXE X.prog X.w) k f fd ps sp)(hr:Z5 k X.A)(hg:Gl X x)(hm:X.mg x=some (.ref f))(hk:PySem.W.keepIn X.K (.ref f)=true)(hb:Xl X.K fd ps [])(hx:W4 X W)
  (ha:PA X (e::es) t)(hdb:(x==("__debug__":Str))=false)(he:starEach (e::es) X.env=(false,eval e X.env)::starEach es X.env)(hpl:(backTo pos (starEach es X.env)).any (·.1)=false):
  PE X (.Call (.Name x p) (e::es) [] pos) (λσ H Q=>t σ H λvs H1=>sp vs H1 Q (W σ)):=by
 intro aA s σ H Q I h;refine wpAny_Call_Name_kw (Gi I hg hm ?_ hdb);exact PySem.W.callWith_K (h₀:=X.base) I.ok.mod.kin hk (thn (ha pos aA s σ H _ I h) λus s1 ⟨vs,H1,I1,r,q⟩=>⟨I1.kIn,Ht F hr hb hx I1 r q⟩) he hpl
end
section
variable {X:Cx}{Z:Zx}{x:Str}{p pos:Pos}{e:Expr}{es:List Expr}{t:TDA}{id T:String}{w:WC}
theorem Gx (h:up X.K Z (MI w t) σ H Qv):upA X.K Z t σ H λvs H1=>upC X.K Z w vs H1 Qv:=by
 obtain⟨r,dl,S,Q,rs,bD,h,ret⟩:=h;exact⟨r,dl,S,_,rs,bD,h,λvs H1 r1 ds S1 e1 aF p1 h1=>⟨r1,S1,ds,Q,aF,p1,h1,ret.ext e1⟩⟩
theorem ZM (hc:Yq X (.builtin id) (upC X.K Z w))(hg:Gl X x)(hm:X.mg x=none)(hv:bootBuiltins x=some (.builtin id))(ha:PDA X Z (e::es) t)(hn:x≠"__name__":=by decide)(hdb:(x==("__debug__":Str))=false:=by decide)
  (he:starEach (e::es) X.env=(false,eval e X.env)::starEach es X.env:=by rfl)(hpl:(backTo pos (starEach es X.env)).any (·.1)=false:=by rfl):PD X Z (.Call (.Name x p) (e::es) [] pos) (MI w t):=
 Yp (As hc hg hm hv ha hn hdb he hpl) λ_ _ _ h=>Gx h
theorem Xo (hc:Yq X (.type T) (upC X.K Z w))(hg:Gl X x)(hm:X.mg x=none)(hv:bootBuiltins x=some (.type T))(ha:PDA X Z (e::es) t)(hn:x≠"__name__":=by decide)(hdb:(x==("__debug__":Str))=false:=by decide)
  (he:starEach (e::es) X.env=(false,eval e X.env)::starEach es X.env:=by rfl)(hpl:(backTo pos (starEach es X.env)).any (·.1)=false:=by rfl):PD X Z (.Call (.Name x p) (e::es) [] pos) (MI w t):=
 Yp (Jq hc hg hm hv ha hn hdb he hpl) λ_ _ _ h=>Gx h
theorem Kc {sd:Sd}{r:List Addr}{S:Sto}{H:Hp}{dl:Ev}{σ:St}{ds:List D}{vs:List V}{Q:DK}{Qv:VK}(rs:Rs r H dl σ)(bD:Rel X.K Z r S H)(p:Rps r H ds vs)(h:sd ds S Q (Z.ex dl))(ret:Ret X.K Z r H Q Qv):upF X.K sd vs H Qv (Z.w σ):=
 ⟨Z.ex dl,r,S,ds,Q,⟨bD.b,λ_ _ c H' r' S' x _ rb q=>bD.xw dl σ c H' r' S' x (rs.ext x) rb q⟩,p,h,λv H' r' d S' x rel' pv q=>ret v H' r' d S' x ⟨rel'.b,bD.xw.ext x⟩ pv q⟩
theorem DT (F:YL X.prog X.w X.K X.mg X.base (CXE X.prog X.w) k f fd ps (upF X.K sd))(hr:Z5 k X.A)(hg:Gl X x)(hm:X.mg x=some (.ref f))(hk:PySem.W.keepIn X.K (.ref f)=true)(hb:Xl X.K fd ps [])(hx:W4 X W)(ha:PDA X ⟨ex,W⟩ (e::es) t)(hdb:(x==("__debug__":Str))=false:=by decide)(he:starEach (e::es) X.env=(false,eval e X.env)::starEach es X.env:=by rfl)(hpl:(backTo pos (starEach es X.env)).any (·.1)=false:=by rfl):PD X ⟨ex,W⟩ (.Call (.Name x p) (e::es) [] pos) (Kn ex sd t):=
 Yp (zbt F hr hg hm hk hb hx ha hdb he hpl) λσ H Qv ⟨r,dl,S,Q,rs,bD,h,ret⟩=>⟨r,dl,S,_,rs,bD,h,λvs H1 r1 ds S1 e1 aF p1 h1=>Kc (Z:=⟨ex,W⟩) (rs.ext e1) aF p1 h1 (ret.ext e1)⟩
def wAbs:WC:=λds S Q=>match ds with
 | [.int i]=>Q (.int (if i<0 then -i else i)) S
 | _=>False
theorem zaB:Yq X (.builtin "abs") (upC X.K Z wAbs):=PN za9 λxs H Qv ⟨r,S,ds,Q,bD,ps,q,ret⟩=>by
 unfold wAbs at q;split at q
 ·rename_i i;obtain⟨v,vs,rfl,p1,p2⟩:=ps.uncons;have z:=p2.unnil;subst z;cases p1;exact⟨i,rfl,ret _ _ _ _ _ Ext.refl bD (.int _) q⟩
 ·exact q.elim
def Xz:List D->Option (List Int)
 | []=>some []
 | .int i::r=>(Xz r).map (i::·)
 | _::_=>none
def Tg (le:Int->Int->Prop)(two:Int->Int->Int):WC:=λds S Q=>match ds with
 | [.int i,.int j]=>Q (.int (two i j)) S
 | [.ref n]=>match lAt S n with
  | some o=>match Xz (Zq o) with
   | some xs=>xs≠[]/\∀m,m∈xs->(∀y∈xs,le y m)->Q (.int m) S
   | none=>False
  | none=>False
 | _=>False
abbrev wMax:WC:=Tg (λy m=>y<=m) λi j=>if j > i then j else i
abbrev wMin:WC:=Tg (λy m=>m<=y) λi j=>if j<i then j else i
theorem Ro {r:List Addr}{H:Hp}:∀ {ds:List D} {ns:List Int} {vs:List V} {us:List Value},Xz ds=some ns->Rps r H ds vs->ZF vs us->∃xs:List (Int×Tok),us.toArray=intItems xs.toArray/\xs.map (·.1)=ns
 | [],ns,vs,us,e,p,q=>by
  have z:=p.unnil;subst z;cases q;simp[Xz] at e;subst e;exact⟨[],by simp[intItems],rfl⟩
 | d::ds,ns,vs,us,e,p,q=>by
  obtain⟨v,vs',rfl,p1,p2⟩:=p.uncons;cases d with
  | int i=>
   cases p1;cases q with
   | cons q1 q2=>
    obtain⟨t,rfl⟩:=q1;simp only[Xz,zQ] at e;obtain⟨ms,e1,rfl⟩:=e;obtain⟨xs,h1,h2⟩:=Ro e1 p2 q2;refine⟨(i,t)::xs,?_,by simp[h2]⟩;simp[intItems] at h1 ⊢;exact h1
  | _=>simp[Xz] at e
theorem FP (f:Nat->Int):∀k j,j<=k->f j<=f (argBest (λi j=>decide (f i > f j)) k)
 | 0,j,h=>by
  have z:j=0:=by omega
  subst z;exact yL _
 | k+1,j,h=>by
  have ih:=FP f k;unfold argBest;split
  ·rename_i hb;have hb':f (k+1) > f (argBest (λi j=>decide (f i > f j)) k):=of_decide_eq_true hb;by_cases z:j=k+1
   ·subst z;exact yL _
   ·have:=ih j (by omega);omega
  ·rename_i hb;have hb':¬ f (k+1) > f (argBest (λi j=>decide (f i > f j)) k):=λq=>hb (decide_eq_true q)
   by_cases z:j=k+1
   ·subst z;omega
   ·exact ih j (by omega)
theorem Hy (f:Nat->Int):∀k j,j<=k->f (argBest (λi j=>decide (f i<f j)) k)<=f j
 | 0,j,h=>by
  have z:j=0:=by omega
  subst z;exact yL _
 | k+1,j,h=>by
  have ih:=Hy f k;unfold argBest;split
  ·rename_i hb;have hb':f (k+1)<f (argBest (λi j=>decide (f i<f j)) k):=of_decide_eq_true hb;by_cases z:j=k+1
   ·subst z;exact yL _
   ·have:=ih j (by omega);omega
  ·rename_i hb;have hb':¬ f (k+1)<f (argBest (λi j=>decide (f i<f j)) k):=λq=>hb (decide_eq_true q)
   by_cases z:j=k+1
   ·subst z;omega
   ·exact ih j (by omega)
theorem Ke (bt:Nat->Nat->Bool):∀k,argBest bt k<=k
 | 0=>zD _
 | k+1=>by
  unfold argBest;split
  ·exact zD _
  ·exact Nat.le_succ_of_le (Ke bt k)
theorem IB {xs:List (Int×Tok)}{ns:List Int}(h:xs.map (·.1)=ns){j:Nat}{y:Int}(e:ns[j]?=some y):numAt xs.toArray j=y:=by
  subst h;unfold numAt;rw[zG] at e;simp only[List.getElem?_toArray];cases q:xs[j]? with
  | none=>
   rw[q] at e;cases e
  | some z=>rw[q] at e;simpa using e
theorem FG {xs:List (Int×Tok)}{ns:List Int}(h:xs.map (·.1)=ns){j:Nat}(hj:j<ns.length):numAt xs.toArray j∈ns:=by
 have e:ns[j]?=some ns[j]:=by simp[hj]
 rw[IB h e];exact yA hj
theorem La (hc:X.calm=true):Yq X (.builtin "max") (upC X.K Z wMax):=by
 intro aA s σ H xs us Qv I rv h;obtain⟨r,S,ds,Q,bD,ps,q,ret⟩:=h;unfold wMax Tg at q;split at q
 ·rename_i i j;obtain⟨v,vs,rfl,p1,p2⟩:=ps.uncons;obtain⟨v2,vs2,rfl,p3,p4⟩:=p2.uncons;have z:=p4.unnil;subst z;cases p1;cases p3;exact zbx hc aA s σ H _ us Qv I rv ⟨i,j,rfl,ret _ _ _ _ _ Ext.refl bD (.int _) q⟩
 ·rename_i n;obtain⟨v,vs,rfl,p1,p2⟩:=ps.uncons;have z:=p2.unnil;subst z;split at q
  ·rename_i o eo;split at q
   ·rename_i ns en;obtain⟨hne,q⟩:=q;obtain⟨eo,eL⟩:=YF eo;obtain⟨a,ha,ob⟩:=bD.at eo;cases p1 with
    | ref h1=>
     rw[h1] at ha;cases ha
     obtain⟨ys,sq,pr⟩:=ob.list eL;obtain⟨u,rfl,ru⟩:=X3 rv;cases ru;obtain⟨bB,ri,pl,hz⟩:=I.list sq;obtain⟨zs,hz1,hz2⟩:=Ro en pr ri;have hl:zs.length=ns.length:=by rw[<- hz2,zA]
     have hpos:0<ns.length:=List.length_pos_iff.mpr hne
     have isl:=pl.isList;rw[hz1] at isl;refine max_intList (I.ok.hd hc) isl (by simp;omega) λv h' tk hv hk=>?_
     have hvi:=intItems_at hv;obtain⟨t,rfl⟩:=hvi;have hb:=Ke (λi j=>decide (numAt zs.toArray i > numAt zs.toArray j)) (zs.toArray.size-1)
     have hsz:zs.toArray.size=ns.length:=by simp[hl]
     refine⟨.int _,H,I.kept hk,⟨_,rfl⟩,ret _ _ _ _ _ Ext.refl bD (.int _) (q _ (FG hz2 (by omega)) λy hy=>?_)⟩;obtain⟨j,hj,ej⟩:=yV.mp hy;have e1:=IB hz2 (show ns[j]?=some y by simp[hj,ej]);rw[<- e1];exact FP _ _ j (by omega)
   ·exact q.elim
  ·exact q.elim
 ·exact q.elim
theorem QK (hc:X.calm=true):Yq X (.builtin "min") (upC X.K Z wMin):=by
 intro aA s σ H xs us Qv I rv h;obtain⟨r,S,ds,Q,bD,ps,q,ret⟩:=h;unfold wMin Tg at q;split at q
 ·rename_i i j;obtain⟨v,vs,rfl,p1,p2⟩:=ps.uncons;obtain⟨v2,vs2,rfl,p3,p4⟩:=p2.uncons;have z:=p4.unnil;subst z;cases p1;cases p3;exact Eg hc aA s σ H _ us Qv I rv ⟨i,j,rfl,ret _ _ _ _ _ Ext.refl bD (.int _) q⟩
 ·rename_i n;obtain⟨v,vs,rfl,p1,p2⟩:=ps.uncons;have z:=p2.unnil;subst z;split at q
  ·rename_i o eo;split at q
   ·rename_i ns en;obtain⟨hne,q⟩:=q;obtain⟨eo,eL⟩:=YF eo;obtain⟨a,ha,ob⟩:=bD.at eo;cases p1 with
    | ref h1=>
     rw[h1] at ha;cases ha
     obtain⟨ys,sq,pr⟩:=ob.list eL;obtain⟨u,rfl,ru⟩:=X3 rv;cases ru;obtain⟨bB,ri,pl,hz⟩:=I.list sq;obtain⟨zs,hz1,hz2⟩:=Ro en pr ri;have hl:zs.length=ns.length:=by rw[<- hz2,zA]
     have hpos:0<ns.length:=List.length_pos_iff.mpr hne
     have isl:=pl.isList;rw[hz1] at isl;refine min_intList (I.ok.hd hc) isl (by simp;omega) λv h' tk hv hk=>?_
     have hvi:=intItems_at hv;obtain⟨t,rfl⟩:=hvi;have hb:=Ke (λi j=>decide (numAt zs.toArray i<numAt zs.toArray j)) (zs.toArray.size-1)
     have hsz:zs.toArray.size=ns.length:=by simp[hl]
     refine⟨.int _,H,I.kept hk,⟨_,rfl⟩,ret _ _ _ _ _ Ext.refl bD (.int _) (q _ (FG hz2 (by omega)) λy hy=>?_)⟩;obtain⟨j,hj,ej⟩:=yV.mp hy;have e1:=IB hz2 (show ns[j]?=some y by simp[hj,ej]);rw[<- e1];exact Hy _ _ j (by omega)
   ·exact q.elim
  ·exact q.elim
 ·exact q.elim
def U2:WC:=λds S Q=>match ds with
 | [.tup xs]=>Q (.int xs.length) S
 | [.ref n]=>match lAt S n with
  | some o=>Q (.int (Zq o).length) S
  | none=>False
 | _=>False
theorem ZW:Yq X (.builtin "len") (upC X.K Z U2):=PN zbY λxs H Qv ⟨r,S,ds,Q,bD,ps,q,ret⟩=>by
 unfold U2 at q;split at q
 ·rename_i ys;obtain⟨v,vs,rfl,p1,p2⟩:=ps.uncons;have z:=p2.unnil;subst z;obtain⟨a,zs,rfl,h1,h2⟩:=p1.untup;exact⟨a,zs,rfl,.inr (SqT.of h1),by rw[<- h2.1];exact ret _ _ _ _ _ Ext.refl bD (.int _) q⟩
 ·rename_i n;obtain⟨v,vs,rfl,p1,p2⟩:=ps.uncons;have z:=p2.unnil;subst z;split at q
  ·rename_i o eo;obtain⟨eo,eL⟩:=YF eo;obtain⟨a,ha,ob⟩:=bD.at eo;cases p1 with
   | ref h1=>
    rw[h1] at ha;cases ha
    obtain⟨ys,sq,pr⟩:=ob.list eL;exact⟨_,ys,rfl,.inl sq,by rw[<- pr.1];exact ret _ _ _ _ _ Ext.refl bD (.int _) q⟩
  ·exact q.elim
 ·exact q.elim
end
section
variable {X:Cx}{Z:Zx}{st:Stmt}{Yy:List Stmt}{t u:TDS}{e:Expr}{te:TDE}{pos:Pos}
def JX:TDS:=λE dl S=>E.nx dl S
def YN (t u:TDS):TDS:=λE dl S=>t { nx:=λdl' S'=>u E dl' S',rt:=E.rt,bk:=E.bk,ct:=E.ct } dl S
theorem ZO:X4 X Z [] JX:=G3 Bz λF σ H ⟨r,dl,S,E,rs,bD,h,ret⟩=>ret.nx σ H r dl S Ext.refl rs bD h
theorem Zg (h1:PDS X Z st t)(h2:X4 X Z Yy u):X4 X Z (st::Yy) (YN t u):=
 G3 (Eu h1 h2) λF σ H ⟨r,dl,S,E,rs,bD,h,ret⟩=>⟨r,dl,S,_,rs,bD,h,λσ' H' r' dl' S' x rs' rel' q=>⟨r',dl',S',E,rs',rel',q,ret.ext x⟩,ret.bk,ret.ct,ret.rt⟩
theorem Zh (h1:PDS X Z st t):X4 X Z [st] t:=zdl h1
def dDrop (te:TDE):TDS:=λE dl S=>te dl S λ_ S1=>E.nx dl S1
theorem Yj (he:PD X Z e te)(hs:swapsWith e none pos.line X.env=pure false:=by rfl):PDS X Z (.Expr e pos) (dDrop te):=
 YY (zcd he hs) λF σ H ⟨r,dl,S,E,rs,bD,h,ret⟩=>⟨r,dl,S,_,rs,bD,h,λv H1 r1 d S1 x aF p q=>ret.nx σ H1 r1 dl S1 x (rs.ext x) aF q⟩
def dRet (te:TDE):TDS:=λE dl S=>te dl S E.rt
theorem Zt (he:PD X Z e te):PDS X Z (.Return (some e) pos) (dRet te):=
 YY (zdk he) λF σ H ⟨r,dl,S,E,rs,bD,h,ret⟩=>⟨r,dl,S,_,rs,bD,h,ret.rt⟩
def dIf (c:TDT)(t u:TDS):TDS:=λE dl S=>c dl S λk S1=>if k=true then t E dl S1 else u E dl S1
theorem ZN (hc:PDT X Z c tc)(ha:X4 X Z a t)(hb:X4 X Z b u):PDS X Z (.If c a b pos) (dIf tc t u):=
 YY (ps_if hc ha hb) λF σ H ⟨r,dl,S,E,rs,bD,h,ret⟩=>⟨r,dl,S,_,rs,bD,h,λk H1 r1 S1 x aF q=>by
  cases k with
  | true=>exact Xm ⟨r1,dl,S1,E,rs.ext x,aF,(by simpa using q),ret.ext x⟩
  | false=>exact YR ⟨r1,dl,S1,E,rs.ext x,aF,(by simpa using q),ret.ext x⟩⟩
def SR (i:Nat)(te:TDE):TDS:=λE dl S=>te dl S λd S1=>E.nx (dl.set i (some d)) S1
theorem XO (hN:X.N.Nodup)(hi:X.N[i]?=some x)(hx:Loc X.env.scope x)(he:PD X Z e te)(hs:swapsWith e (some (.Name x pos')) pos.line X.env=pure false:=by rfl)(hf:X.fn x=true\/X.env.scope.names.lookup x=some .local:=by first|exact .inl rfl|exact .inr rfl|assumption):PDS X Z (.Assign [.Name x pos'] e pos) (SR i te):=
 YY (zai hN hi hx he hs hf) λF σ H ⟨r,dl,S,E,rs,bD,h,ret⟩=>⟨r,dl,S,_,rs,bD,h,λv H1 r1 d S1 x aF p q=>ret.nx _ H1 r1 _ S1 x ((rs.ext x).set i p) aF q⟩
theorem Zw {i:Nat}{x:Str}{pos':Pos}(hN:X.N.Nodup)(he:PD X Z e te)(hi:X.N[i]?=some x:=by rfl)(hx:Loc X.env.scope x:=by exact Or.inl rfl)(hs:swapsWith e (some (.Name x pos')) pos.line X.env=pure false:=by rfl)
  (hf:X.fn x=true\/X.env.scope.names.lookup x=some .local:=by first|exact .inl rfl|exact .inr rfl|assumption):PDS X Z (.Assign [.Name x pos'] e pos) (SR i te):=XO hN hi hx he hs hf
def Bw (c:TDT)(tb:TDS):TDS:=λE dl S=>∃W:Nat->Ev->Sto->Prop,(∃m,W m dl S)/\∀m dl S,W m dl S->
 c dl S λk S1=>if k=true then tb { nx:=λdl' S'=>∃m',m'<m/\W m' dl' S',rt:=E.rt,bk:=E.nx,ct:=λdl' S'=>∃m',m'<m/\W m' dl' S' } dl S1 else E.nx dl S1
theorem Cn (hp:PassesOwn (model X.prog X.w) X.A X.env X.xe)(hc:PDT X Z c tc)(hb:X4 X Z body tb):PDS X Z (.While c body [] pos) (Bw tc tb):=
 YY (Co hp hc hb) λF σ H ⟨r,dl,S,E,rs,bD,⟨W,⟨m0,w0⟩,turn⟩,ret⟩=>by
  refine⟨λm σ' H'=>∃r' dl' S',Ext r r' H H'/\Rs r' H' dl' σ'/\Rel X.K Z r' S' H'/\W m dl' S',⟨m0,r,dl,S,Ext.refl,rs,bD,w0⟩,?_⟩;rintro m σ1 H1 ⟨r1,dl1,S1,x1,rs1,aF,w1⟩;refine⟨r1,dl1,S1,_,rs1,aF,turn m dl1 S1 w1,λk H2 r2 S2 x2 aG q2=>?_⟩;cases k with
  | true=>
   refine Xm ⟨λσ' H'=>∃m',m'<m/\∃r' dl' S',Ext r r' H H'/\Rs r' H' dl' σ'/\Rel X.K Z r' S' H'/\W m' dl' S',λ_ _ z=>z,r2,dl1,S2,_,rs1.ext x2,aG,(by simpa using q2),?_⟩;have go:∀σ' H' r' dl' S',Ext r2 r' H2 H'->Rs r' H' dl' σ'->Rel X.K Z r' S' H'->(∃m',m'<m/\W m' dl' S')->∃m',m'<m/\∃r' dl' S',Ext r r' H H'/\Rs r' H' dl' σ'/\Rel X.K Z r' S' H'/\W m' dl' S':=
    λσ' H' r' dl' S' x rs' rel' ⟨m',hm,w'⟩=>⟨m',hm,r',dl',S',x1.trans (x2.trans x),rs',rel',w'⟩
   exact⟨go,λσ' H' r' dl' S' x rs' rel' q=>ret.nx σ' H' r' dl' S' (x1.trans (x2.trans x)) rs' rel' q,go,ret.rt.ext (x1.trans x2)⟩
  | false=>exact YR (ret.nx σ1 H2 r2 dl1 S2 (x1.trans x2) (rs1.ext x2) aG (by simpa using q2))
def dFor (i:Nat)(tl:TDE)(tb:TDS):TDS:=λE dl S=>tl dl S λd S1=>match d with
 | .ref n=>(lAt S1 n).isSome=true/\∃W:Nat->Nat->Ev->Sto->Prop,(∃m,W 0 m dl S1)/\∀k m dl S,W k m dl S->match lAt S n with
  | some o=>match (Zq o)[k]? with
   | some x=>tb { nx:=λdl' S'=>∃m',m'<m/\W (k+1) m' dl' S',rt:=E.rt,bk:=E.nx,ct:=λdl' S'=>∃m',m'<m/\W (k+1) m' dl' S' } (dl.set i (some x)) S
   | none=>E.nx dl S
  | none=>False
 | _=>False
theorem K5 (hp:PassesOwn (model X.prog X.w) X.A X.env X.xe)(hc:X.calm=true)(hN:X.N.Nodup)(hi:X.N[i]?=some x)(hx:Loc X.env.scope x)(hl:PD X Z aY tl)(hb:X4 X Z body tb)(hf:X.fn x=true\/X.env.scope.names.lookup x=some .local:=by first|exact .inl rfl|exact .inr rfl|assumption)(hs:∀y,foldedSetIterable aY X.env y=pure y:=by intro _;rfl):PDS X Z (.For (.Name x pos') aY body [] pos) (dFor i tl tb):=
 YY (ON hp hc (Jl hl) (R8 hN hi hx hf) hb hs) λF σ H ⟨r,dl,S,E,rs,bD,h,ret⟩=>by
  refine⟨r,dl,S,_,rs,bD,h,λv H1 r1 d S1 x1 aF p1 q1=>?_⟩;cases p1 with
  | @ref n a hn=>
   obtain⟨aX,W,⟨m0,w0⟩,turn⟩:=q1;have sql:∀ {r':List Addr} {S':Sto} {H':Hp} {o:Ob},Ext r1 r' H1 H'->Rel X.K Z r' S' H'->lAt S' n=some o->∃xs,SqL X.K H' a xs/\Rps r' H' (Zq o) xs:=λ{r' S' H' o} x' rel' eo=>by
    obtain⟨eo,eL⟩:=YF eo;obtain⟨a',ha,ob⟩:=rel'.at eo;rw[x'.adr n a hn] at ha;cases ha
    exact ob.list eL
   obtain⟨o1,eo1⟩:=yS.mp aX;obtain⟨xs1,sq1,_⟩:=sql Ext.refl aF eo1;refine⟨a,rfl,⟨xs1,sq1⟩,λk m σ' H'=>∃r' dl' S',Ext r1 r' H1 H'/\Rs r' H' dl' σ'/\Rel X.K Z r' S' H'/\W k m dl' S',⟨m0,r1,dl,S1,Ext.refl,rs.ext x1,aF,w0⟩,?_⟩;rintro k m σ2 H2 ⟨r2,dl2,S2,x2,rs2,aG,w2⟩;have q:=turn k m dl2 S2 w2;split at q
   ·rename_i o eo;obtain⟨xs,sq,pr⟩:=sql x2 aG eo;split at q
    ·rename_i y ey;obtain⟨v,hv,pv⟩:=pr.get ey;have go:∀ {r3:List Addr} {H3:Hp},Ext r2 r3 H2 H3->∀σ' H' r' dl' S',Ext r3 r' H3 H'->Rs r' H' dl' σ'->Rel X.K Z r' S' H'->(∃m',m'<m/\W (k+1) m' dl' S')->∃m',m'<m/\∃r' dl' S',Ext r1 r' H1 H'/\Rs r' H' dl' σ'/\Rel X.K Z r' S' H'/\W (k+1) m' dl' S':=
      λ{r3 H3} x3 σ' H' r' dl' S' x rs' rel' ⟨m',hm,w'⟩=>⟨m',hm,r',dl',S',x2.trans (x3.trans x),rs',rel',w'⟩
     refine .inr ⟨⟨xs,v,sq,hv⟩,λσ' H'=>∃m',m'<m/\∃r' dl' S',Ext r1 r' H1 H'/\Rs r' H' dl' σ'/\Rel X.K Z r' S' H'/\W (k+1) m' dl' S',λ_ _ z=>z,λv' H' y'=>?_⟩;obtain⟨eH,y'⟩:=y';subst eH;have ev:v'=v:=by
      have z:=y' xs sq;rw[hv] at z;exact(Option.some.inj z).symm
     subst ev;exact⟨r2,_,S2,_,rs2.set i pv,aG,q,go Ext.refl,λσ' H' r' dl' S' x rs' rel' z=>ret.nx σ' H' r' dl' S' (x1.trans (x2.trans x)) rs' rel' z,go Ext.refl,ret.rt.ext (x1.trans x2)⟩
    ·rename_i ey;have aV:(Zq o).length<=k:=xE.mp ey;exact .inl ⟨⟨xs,sq,by rw[<- pr.1];exact aV⟩,ret.nx σ2 H2 r2 dl2 S2 (x1.trans x2) rs2 aG q⟩
   ·exact q.elim
  | _=>exact(show False from q1).elim
def dForR (i:Nat)(ta:TDA)(tb:TDS):TDS:=λE dl S=>ta dl S λds S1=>match ds with
 | [.int j]=>(-(2^62)<=j/\j<2^62)/\∃W:Nat->Ev->Sto->Prop,W 0 dl S1/\∀k dl S,W k dl S->
   if k<j.toNat then tb { nx:=λdl' S'=>W (k+1) dl' S',rt:=E.rt,bk:=E.nx,ct:=λdl' S'=>W (k+1) dl' S' } (dl.set i (some (.int k))) S else E.nx dl S
 | _=>False
theorem Y3 (hp:PassesOwn (model X.prog X.w) X.A X.env X.xe)(hc:X.calm=true)(hN:X.N.Nodup)(hi:X.N[i]?=some x)(hx:Loc X.env.scope x)(hg:Gl X "range")(hm:X.mg "range"=none)(ha:PDA X Z [a] ta)(hb:X4 X Z body tb)(hf:X.fn x=true\/X.env.scope.names.lookup x=some .local:=by first|exact .inl rfl|exact .inr rfl|assumption)(hs:∀y,foldedSetIterable (.Call (.Name "range" p) [a] [] pos) X.env y=pure y:=by intro _;rfl)(hst:starEach [a] X.env=[(false,eval a X.env)]:=by rfl):
  PDS X Z (.For (.Name x pos') (.Call (.Name "range" p) [a] [] pos) body [] aT) (dForR i ta tb):=
 YY (ON hp hc (IH hg hm ha hst) (R8 hN hi hx hf) hb hs) λF σ H ⟨r,dl,S,E,rs,bD,h,ret⟩=>by
  refine⟨r,dl,S,_,rs,bD,h,λvs H1 r1 ds S1 x1 aF p1 q1=>?_⟩;split at q1
  ·rename_i j;obtain⟨v,vs',rfl,p2,p3⟩:=p1.uncons;have z:=p3.unnil;subst z;cases p2;obtain⟨⟨b1,b2⟩,W,w0,turn⟩:=q1;refine⟨j,rfl,b1,b2,λk m σ' H'=>m=j.toNat-k/\∃r' dl' S',Ext r1 r' H1 H'/\Rs r' H' dl' σ'/\Rel X.K Z r' S' H'/\W k dl' S',⟨j.toNat,by simp,r1,dl,S1,Ext.refl,rs.ext x1,aF,w0⟩,?_⟩;rintro k m σ2 H2 ⟨em,r2,dl2,S2,x2,rs2,aG,w2⟩;have q:=turn k dl2 S2 w2;split at q
   ·rename_i hk;have go:∀σ' H' r' dl' S',Ext r2 r' H2 H'->Rs r' H' dl' σ'->Rel X.K Z r' S' H'->W (k+1) dl' S'->∃r' dl' S',Ext r1 r' H1 H'/\Rs r' H' dl' σ'/\Rel X.K Z r' S' H'/\W (k+1) dl' S':=
     λσ' H' r' dl' S' x rs' rel' w'=>⟨r',dl',S',x2.trans x,rs',rel',w'⟩
    have pk:Rp r2 H2 (.int (k:Int)) (.int (0+(k:Int))):=by rw[Int.zero_add];exact .int _
    refine .inr ⟨hk,λσ' H'=>∃r' dl' S',Ext r1 r' H1 H'/\Rs r' H' dl' σ'/\Rel X.K Z r' S' H'/\W (k+1) dl' S',λσ' H' z=>⟨j.toNat-(k+1),by omega,rfl,z⟩,λv' H' y'=>?_⟩;obtain⟨eH,y'⟩:=y';subst eH;subst y';exact⟨r2,_,S2,_,rs2.set i pk,aG,q,go,λσ' H' r' dl' S' x rs' rel' z=>ret.nx σ' H' r' dl' S' (x1.trans (x2.trans x)) rs' rel' z,go,ret.rt.ext (x1.trans x2)⟩
   ·rename_i hk;exact .inl ⟨by show j.toNat<=k;omega,ret.nx σ2 H2 r2 dl2 S2 (x1.trans x2) rs2 aG q⟩
  ·exact q1.elim
end
def Rl (N:List Str)(ds:List D):Ev:=ds.map some++List.replicate (N.length-ds.length) none
theorem zb4 {r:List Addr}{H:Hp}{N:List Str}{ds:List D}{vs:List V}(h:Rps r H ds vs):Rs r H (Rl N ds) (L2.WJ N vs):=by
  refine⟨by simp[Rl,L2.WJ,h.1],λi d e=>?_⟩;unfold Rl at e;by_cases hi:i<ds.length
  · rw[zP (by simpa using hi),zG] at e
    cases q:ds[i]? with
    | none=>
   rw[q] at e;cases e
    | some z=>
      rw[q] at e;cases e;obtain⟨v,hv,pv⟩:=h.get q;refine⟨v,?_,pv⟩;unfold L2.WJ;rw[zP (by simpa [h.1] using hi),zG,hv];rfl
  · rw[yD (by simpa using hi),List.getElem?_replicate] at e
    split at e<;>cases e
section
variable {P:Program}{w:World}{K:Fg}{mg:Str->Option Value}{base:Heap}
abbrev Z0:Zx:=Zc (λ_ _=>False) (λ_ _ _=>False)
theorem Tw:W4 X Z0.w:=λ_ _ _ _ _ _ _ h=>by
 obtain⟨_,_,_,_,_,_,_,_,_,_,_,_,q⟩:=h;exact q.elim
theorem ZD {x aL:Str}{st:Stmt}{f:Addr}{fd:FuncData}{N ps:List Str}{k:Nat}{sd:Sd}(F:Fun K x aL st f fd)(Sc:ZC N ps (Zo st))(len:∀ds S Q ex,sd ds S Q ex->ds.length=ps.length)
  (hbody:∀(cdv:Value)(A:Around)(outer:List Env)(s:Shared)(H:Hp)(E:XK),Z5 k (A.deeper (envOfC aL (Zo st) s.heap.objs.size f cdv))->
   ∃t,X4 (TH (CXE P w) P w K mg base N aL (Zo st) f cdv A outer s H E).nox Z0 (WE st) t/\∀ds S Q ex,sd ds S Q ex->t { nx:=λ_ S'=>Q .non S',rt:=Q } (Rl N ds) S):YL P w K mg base (CXE P w) (k+1) f fd ps (upF K sd):=by
 obtain⟨oc,od,kV,doc,pm,an,cdv,ct,osl,rfl,lk,hcd⟩:=F.ex;refine fn_of lk hcd Sc (λvs H Q E h=>?_) λA outer s H vs Q E hr h=>?_
 ·obtain⟨ex,r,S,ds,Q',bD,p,q,ret⟩:=h;rw[<- p.1];exact len ds S Q' ex q
 ·obtain⟨ex,r,S,ds,Q',bD,p,q,ret⟩:=h;obtain⟨t,ht,hq⟩:=hbody cdv A outer s H E hr;have back:∀ {H':Hp} {r':List Addr} {S':Sto},Ext r r' H H'->Rel K Z0 r' S' H'->Rel K (Zc ex E) r' S' H':=λx rel'=>⟨rel'.b,bD.xw.ext x⟩
  refine⟨upS K Z0 t,ht.nox,r,Rl N ds,S,_,zb4 p,⟨bD.b,λ_ _ _ _ _ _ _ _ _ z=>z.elim⟩,hq ds S Q' ex q,?_,?_,?_,?_⟩
  ·intro σ' H' r' dl' S' x _ rel' z;exact ret .non H' r' .non S' x (back x rel') .non z
  ·intro σ' H' r' dl' S' x _ rel' z;exact z
  ·intro σ' H' r' dl' S' x _ rel' z;exact z
  ·intro v H' r' d S' x rel' p' z;exact ret v H' r' d S' x (back x rel') p' z
end
open PySem
def Sz (n:Nat)(i:Int):Prop:=i.natAbs<2^n
theorem Sz.mono (h:Sz m i)(hn:m<=n):Sz n i:=zZ h (xR (by decide) hn)
theorem Sz.bits (h:Sz n i):Builtin.Int.intBits i<=n:=by
 unfold Builtin.Int.intBits;split
 ·exact zO _
 ·rename_i hz;have hp:i.natAbs≠0:=by
   intro z;have z2:i=0:=by omega
   simp[z2] at hz
  have:=(Nat.log2_lt hp).mpr h;omega
theorem ZU (hi:Sz m i)(hj:Sz n j)(hm:m<=1048576:=by decide)(hn:n<=1048576:=by decide):IntMulOk i j:=by
 have e20:(2:Nat)^20=1048576:=by decide
 exact IntMulOk.of_bits (yI hi.bits (by omega)) (yI hj.bits (by omega))
theorem Sz.of {n:Nat}{i:Int}(m:Nat)(h:i.natAbs<=m)(hm:m<2^n:=by decide):Sz n i:=Nat.lt_of_le_of_lt h hm
theorem Sz.mul (hi:Sz m i)(hj:Sz n j):Sz (m+n) (i*j):=by
 unfold Sz at *
 rw[Nat.pow_add,Int.natAbs_mul];exact Nat.mul_lt_mul'' hi hj
theorem Sz.add (hi:Sz m i)(hj:Sz n j):Sz (max m n+1) (i+j):=by
 have h1:Sz (max m n) i:=hi.mono (Nat.le_max_left _ _)
 have h2:Sz (max m n) j:=hj.mono (Nat.le_max_right _ _);unfold Sz at *
 have e:(2:Nat)^(max m n+1)=2^max m n+2^max m n:=by rw[Nat.pow_succ];omega
 rw[e];have:=Int.natAbs_add_le i j;omega
theorem Sz.neg (hi:Sz m i):Sz m (-i):=by
 unfold Sz at *
 rw[Int.natAbs_neg];exact hi
theorem Sz.sub (hi:Sz m i)(hj:Sz n j):Sz (max m n+1) (i-j):=by
 rw[Int.sub_eq_add_neg];exact hi.add hj.neg
theorem Sz.log (h:Sz n i)(hi:i≠0)(hn:n<=9000:=by decide):i.natAbs.log2<9000:=by
 have:=(Nat.log2_lt (by omega:i.natAbs≠0)).mpr h;omega
theorem Sz.fd {n:Nat}{i:Int}(h:Sz n i)(hi:0<i)(hn:n<=9000:=by decide):0<i/\i.natAbs.log2<9000:=⟨hi,h.log (by omega) hn⟩
theorem Yl {a b:Int}(hb:0<b):0<=a%b/\a%b<b:=⟨Int.emod_nonneg _ (by omega),Int.emod_lt_of_pos _ hb⟩
example (x:Int):-(10^40)<=x%(2*10^40+1)-10^40:=by omega
example (x:Int):x%(2*10^40+1)-10^40<=10^40:=by omega
example (x:Int) (h:-(10^40)<=x) (h2:x<=2*10^41):Sz 140 x:=Sz.of (2*10^41) (by omega)
theorem BX (a b:Int):Int.gcd b (a%b)=Int.gcd a b:=by
 rw[Int.emod_def,show a-b*(a/b)=a-(a/b)*b by rw[Int.mul_comm],Int.gcd_sub_mul_right_right,Int.gcd_comm]
def Wt (i:Int):Int:=if i<0 then -i else i
theorem D6 (i:Int):0<=Wt i:=by unfold Wt;split<;>omega
theorem zaH (a b:Int):Int.gcd (Wt a) (Wt b)=Int.gcd a b:=by
 have h:∀i:Int,(Wt i).natAbs=i.natAbs:=λi=>by unfold Wt;split<;>omega
 unfold Int.gcd;rw[h,h]
theorem zag (hB:B≠0)(hd:d=(if B<0 then -((Int.gcd T B:Nat):Int) else ((Int.gcd T B:Nat):Int))):
  d≠0/\T.fdiv d*d=T/\B.fdiv d*d=B/\1<=B.fdiv d/\Int.gcd (T.fdiv d) (B.fdiv d)=1/\T.fdiv d*B=T*B.fdiv d:=by
 have g0:0<Int.gcd T B:=Nat.pos_of_ne_zero λz=>hB (Int.gcd_eq_zero_iff.mp z).2
 have dT:((Int.gcd T B:Nat):Int) ∣ T:=Int.gcd_dvd_left T B
 have dB:((Int.gcd T B:Nat):Int) ∣ B:=Int.gcd_dvd_right T B
 have hne:d≠0:=by
  rw[hd];split<;>omega
 have eT:d ∣ T:=by rw[hd];split<;>first|exact Int.neg_dvd.mpr dT|exact dT
 have eB:d ∣ B:=by rw[hd];split<;>first|exact Int.neg_dvd.mpr dB|exact dB
 have fT:T.fdiv d=T/d:=Int.fdiv_eq_ediv_of_dvd eT
 have fB:B.fdiv d=B/d:=Int.fdiv_eq_ediv_of_dvd eB
 have mT:T.fdiv d*d=T:=by rw[fT];exact Int.ediv_mul_cancel eT
 have mB:B.fdiv d*d=B:=by rw[fB];exact Int.ediv_mul_cancel eB
 have gg:Int.gcd (T.fdiv d) (B.fdiv d)=1:=by
  have z:=Int.gcd_ediv_gcd_ediv_gcd g0;rw[fT,fB,hd];split
  ·rw[Int.ediv_neg,Int.ediv_neg,Int.neg_gcd,Int.gcd_neg];exact z
  ·exact z
 have pos:1<=B.fdiv d:=by
  by_cases hb:B<0
  ·have dn:d<0:=by rw[hd,if_pos hb];omega
   by_cases q:B.fdiv d<=0
   ·have:=Int.mul_nonneg_of_nonpos_of_nonpos q (Int.le_of_lt dn);omega
   ·omega
  ·have dp:0<d:=by rw[hd,if_neg hb];omega
   by_cases q:B.fdiv d<=0
   ·have:=Int.mul_nonneg (show 0<=-(B.fdiv d) by omega) (Int.le_of_lt dp);rw[yN] at this;omega
   ·omega
 refine⟨hne,mT,mB,pos,gg,?_⟩
 calc T.fdiv d*B=T.fdiv d*(B.fdiv d*d):=by rw[mB]
  _=T.fdiv d*d*B.fdiv d:=by grind
  _=T*B.fdiv d:=by rw[mT]
theorem HF {T d:Int}(hne:d≠0)(mT:T.fdiv d*d=T):(T.fdiv d).natAbs<=T.natAbs:=by
 have h:(T.fdiv d).natAbs*d.natAbs=T.natAbs:=by rw[<- Int.natAbs_mul,mT]
 have hd:1<=d.natAbs:=by omega
 calc (T.fdiv d).natAbs=(T.fdiv d).natAbs*1:=by omega
  _<=(T.fdiv d).natAbs*d.natAbs:=Nat.mul_le_mul_left _ hd
  _=T.natAbs:=h
theorem Qk (m:Int)(hg:0<g):m/g*g<=m/\m<(m/g+1)*g:=by
 have h1:=Int.emod_add_mul_ediv m g
 have h2:=Int.emod_nonneg m (show g≠0 by omega)
 have h3:=Int.emod_lt_of_pos m hg
 have e:(m/g+1)*g=g*(m/g)+g:=by grind
 have e2:m/g*g=g*(m/g):=Int.mul_comm _ _;omega
theorem HW (m:Int)(hg:0<g):m<=-(-m/g)*g/\(-(-m/g)-1)*g<m:=by
 obtain⟨h1,h2⟩:=Qk (-m) hg;have e1:-(-m/g)*g=-(-m/g*g):=by rw[yN]
 have e2:(-(-m/g)-1)*g=-((-m/g+1)*g):=by grind
 omega
section
variable {X:Cx}{Z:Zx}
def wIf (C:Int->Int->Bool)(g:Int->Int->D):W2:=λx y S Q=>match x,y with
 | .int i,.int j=>if C i j=true then Q (g i j) S else False
 | _,_=>False
theorem opIf (h:OpR X f (upO X.K Z (wI C g)))(hc:∀i j,C' i j=true->C i j):OpR X f (upO X.K Z (wIf C' g)):=
 Uz h λx y H Qv ⟨r,S,dx,dy,Q,bD,px,py,q,ret⟩=>⟨r,S,dx,dy,Q,bD,px,py,by
  unfold wIf at q;split at q
  ·obtain⟨h1,h2⟩:=PM q;exact⟨hc _ _ h1,h2⟩
  ·exact q.elim,ret⟩
def OF (_ j:Int):Bool:=decide (0<j)&&decide (j<1073741824)
abbrev zcU:W2:=wIf OF λi j=>.int (i/j)
abbrev wModL:W2:=wIf OF λi j=>.int (i%j)
def powB (i j:Int):Bool:=decide (0<=j)&&decide (j<=1000)&&decide (-1000<i)&&decide (i<1000)
abbrev wPowL:W2:=wIf powB λi j=>.int (i^j.toNat)
theorem Fj (h:OF i j=true):0<j/\j<1073741824:=by
 unfold OF at h;simpa using h
theorem Z9:OpR X (binaryOp .FloorDiv) (upO X.K Z zcU):=opIf Y2 λi j h=>by
 obtain⟨h1,h2⟩:=Fj h;refine⟨h1,?_⟩;have:j.natAbs.log2<30:=(Nat.log2_lt (by omega)).mpr (by omega);omega
theorem ZY:OpR X (binaryOp .Mod) (upO X.K Z wModL):=opIf Yz λi j h=>(Fj h).1
theorem Xh:OpR X (binaryOp .Pow) (upO X.K Z wPowL):=opIf Aa λi j h=>by
 unfold powB at h;simp at h;refine⟨h.1.1.1,by have:=h.1.1.2;omega,?_⟩;have h3:=h.1.2
 have h4:=h.2
 have big:(18446744073709551616:Nat)=2^64:=by decide
 omega
structure Df (K:Fg)(mg:Str->Option Value)(x:Str)(st:Stmt)(ps:List Str) where
 f:Addr
 fd:FuncData
 F:Fun K x x st f fd
 m:mg x=some (.ref f)
 b:Xl K fd ps []
structure Fk (P:Program)(w:World)(K:Fg)(mg:Str->Option Value)(base:Heap)(k:Nat)(x:Str)(ps:List Str)(sd:Sd) where
 f:Addr
 fd:FuncData
 ok:YL P w K mg base (CXE P w) k f fd ps (upF K sd)
 m:mg x=some (.ref f)
 kp:PySem.W.keepIn K (.ref f)=true
 b:Xl K fd ps []
def Df.mk' {P:Program}{w:World}{K:Fg}{mg:Str->Option Value}{base:Heap}{k:Nat}{x:Str}{st:Stmt}{ps:List Str}{sd:Sd}(d:Df K mg x st ps)(h:YL P w K mg base (CXE P w) k d.f d.fd ps (upF K sd)):Fk P w K mg base k x ps sd:=
 ⟨d.f,d.fd,h,d.m,d.F.kp,d.b⟩
theorem zcp (G:Fk X.prog X.w X.K X.mg X.base k x ps sd)(hr:Z5 k X.A)(hx:W4 X W)(hg:Gl X x)(ha:PDA X ⟨ex,W⟩ (e::es) t)(hdb:(x==("__debug__":Str))=false:=by decide)(he:starEach (e::es) X.env=(false,eval e X.env)::starEach es X.env:=by rfl)(hpl:(backTo pos (starEach es X.env)).any (·.1)=false:=by rfl):
  PD X ⟨ex,W⟩ (.Call (.Name x p) (e::es) [] pos) (Kn ex sd t):=DT G.ok hr hg G.m G.kp G.b hx ha hdb he hpl
theorem BD {st:Stmt}:PDS X Z st (λ_ _ _=>False):=YY DW λF σ H ⟨_,_,_,_,_,_,h,_⟩=>h
end
def UY:Sd:=λds S Q _=>∃ns:List Int,ds=[.ref 0]/\S=[.frz (ns.map D.int)]/\ns.length<=63/\∀S',Q (.bl true) S'
theorem D4:∀ds S Q ex,UY ds S Q ex->ds.length=1:=λds S Q ex h=>by
 obtain⟨ns,rfl,_⟩:=h;rfl
theorem zaM {K:Fg}{H:Hp}{a:Addr}{xs:List V}(hO:Rn H)(h:SqL K H a xs):SqF K H a xs:=by
 rcases h with (h|⟨o,h⟩)|h
 ·rcases hO a with z|⟨o,ys,z⟩
  ·rw[h] at z;cases z
  ·rw[h] at z;cases z
 ·exact .inl ⟨o,h⟩
 ·exact .inr h
theorem Gu {r:List Addr}{H:Hp}(ns:List Int):Rps r H (ns.map D.int) (ns.map V.int):=by
 refine⟨by simp,λi d v h1 h2=>?_⟩;rw[zG] at h1 h2;cases q:ns[i]? with
 | none=>rw[q] at h1;cases h1
 | some z=>
  rw[q] at h1 h2;cases h1;cases h2;exact .int z
theorem Aw {K:Fg}{H:Hp}{a:Addr}{ns:List Int}(hl:ns.length<=63)(hO:Rn H)(hS:SqL K H a (ns.map V.int)):upF K UY [.ref a] H (λv _=>v=.bl true) λ_ _ _=>False:=by
 refine⟨λ_ _=>False,[a],[.frz (ns.map D.int)],[.ref 0],λd _=>d=.bl true,⟨⟨rfl,λn b o h1 h2=>?_,λn m b xs ys h1 h2 h3 h4 o1 o2=>?_⟩,λ_ _ _ _ _ _ _ _ _ z=>z.elim⟩,Rps.cons (.ref rfl) Rps.nil,⟨ns,rfl,rfl,hl,λ_=>rfl⟩,λv H' r' d S' e bD p q=>?_⟩
 ·cases n with
  | zero=>
   simp at h1 h2;subst h1;subst h2
   exact⟨_,zaM hO hS,Gu ns⟩
  | succ n=>simp at h1
 ·cases n with
  | zero=>
   simp at h3;subst h3;cases o1
  | succ n=>simp at h1
 ·subst q;cases p;rfl
theorem za6 {l:PySem.W.OpenLaw}{q:Program}{aK:List Str}{XP:(Str->Option Value)->Heap->Prop}{YP:World->Heap->Prop}{d:DefRec}{K:Params->Fg}{x:Str}(k:Nat)(hn:l.most=some 63)(hdf:d.params.defaults=[])(hr:Z5 k callerA)
  (hY:∀(w:World)(h:Heap),YP w h->(K w.params).In h)
  (F:∀(w:World)(mg:Str->Option Value)(fa:Addr)(h:Heap),(K w.params).In h->h.Ns mainGlobals mg->mg d.name=some (.ref fa)->
   ∃fd:FuncData,(∀(s:Shared)(u:Value),BindsTo s fd ⟨[u],[]⟩ [(x,u)])/\∀base:Heap,(K w.params).In base->base.Ns mainGlobals mg->YL l.prog w (K w.params) mg base (CXE l.prog w) k fa fd [x] (upF (K w.params) UY)):
  PySem.W.WalkO q aK XP YP l.row.toRowW d [] (λf vs=>PySem.call f vs):=
 L2.zb7 (n:=63) (k:=k) (x:=x) (CX:=λw=>CXE l.prog w) (sp:=λw=>upF (K w.params) UY) hn (by decide) hdf hr hY F (λ_ _ a ns hl hO hS=>Aw hl hO hS) λ_ _ _ _ _ ⟨_,_,_,_,_,_,_,_,_,_,_,_,z⟩=>z
end L3
namespace L3
open PySem PySem.Spec PyProof.Rows L2
theorem ifF {c:Bool}{A B:Prop}(h:c=false)(b:B):if c=true then A else B:=by rw[h];exact YR b
theorem ifP {c A B:Prop} [Decidable c] (h:c)(a:A):if c then A else B:=by rw[if_pos h];exact a
theorem ifD {c:Prop} [Decidable c] {A B:Prop}(h1:c->A)(h2:¬ c->B):if decide c=true then A else B:=by
 by_cases h:c
 ·rw[decide_eq_true h];exact Xm (h1 h)
 ·rw[decide_eq_false h];exact YR (h2 h)
open PySem L2
open PySem L2
theorem Sz.pow (h:Sz n i)(k:Nat):Sz (n*k+1) (i^k):=by
 unfold Sz at *
 rw[Int.natAbs_pow,Nat.pow_succ,Nat.pow_mul];have h1:i.natAbs^k<=(2^n)^k:=Nat.pow_le_pow_left (yX h) k
 have h2:0<(2^n)^k:=yF (yF (by decide));omega
theorem ifN {c:Prop} [Decidable c] {A B:Prop}(h1:¬ c->A)(h2:c->B):if (!decide c)=true then A else B:=by
 by_cases h:c
 ·rw[decide_eq_true h];exact L2.YR (h2 h)
 ·rw[decide_eq_false h];exact L2.Xm (h1 h)
section
variable {X:Cx}{Z:Zx}
end
section
variable {X:Cx}{k:Nat}{f:Addr}{fd:FuncData}{ps:List Str}{sp:Sp}{W:St->XK}{x:Str}{p pos:Pos}{e:Expr}{es:List Expr}{t:TA}
end
section
variable {X:Cx}{Z:Zx}{x:Str}{p pos:Pos}{e:Expr}{es:List Expr}{t:TDA}
end
section
variable {P:Program}{w:World}{K:Fg}{mg:Str->Option Value}{base:Heap}
end
section
variable {X:Cx}{Z:Zx}
theorem Py {r:List Addr}{H:Hp}{a:Addr}{o:HO}(h:H a=none):Ext r r H (upd H a o):=⟨λ_ _ q=>q,λ_ _ q=>Xd h _ _ q,λ_ _ q=>Xd h _ _ q⟩
open PySem.W in
end
end L3
namespace L3
open PySem PySem.Spec PyProof.Rows L2
theorem Sz.div (h:Sz n i)(hj:1<=j):Sz n (i/j):=by
 refine Nat.lt_of_le_of_lt ?_ h;obtain⟨h1,h2⟩:=Qk i (show 0<j by omega);by_cases q:0<=i/j
 ·have:=Int.mul_le_mul_of_nonneg_left hj q;omega
 ·have:=Int.mul_le_mul_of_nonneg_left hj (show 0<=-(i/j+1) by omega)
  have e:-(i/j+1)*j=-((i/j+1)*j):=yN _ _;omega
inductive Sco (n:Nat):D->Prop
 | non:Sco n .non
 | bl (b:Bool):Sco n (.bl b)
 | int (i:Int):Sco n (.int i)
 | str (x:Str):Sco n (.str x)
 | tup {ds:List D}:(∀d∈ds,Sco n d)->Sco n (.tup ds)
 | ref {m:Nat}:m<n->Sco n (.ref m)
 | exc (c:Addr):Sco n (.exc c)
theorem Rp.sco (h:Rp r H d v):Sco r.length d:=by
 induction h with
 | non=>exact .non
 | bl b=>exact .bl b
 | int i=>exact .int i
 | str x=>exact .str x
 | @tup ds xs a _ l _ ih=>
  refine .tup λd hd=>?_
  obtain⟨i,hi,e⟩:=yV.mp hd;exact ih i d xs[i] (by simp[hi,e]) (by simp[l ▸ hi])
 | ref h=>exact .ref (zF.mp h).1
 | exc _=>exact .exc _
theorem Rp.low (h:Rp r' H d v)(low:∀m a,m<r.length->r'[m]?=some a->r[m]?=some a)(s:Sco r.length d):Rp r H d v:=by
 induction h with
 | non=>exact .non
 | bl b=>exact .bl b
 | int i=>exact .int i
 | str x=>exact .str x
 | tup e l f ih=>
  cases s with
  | tup s=>exact .tup e l λi d v h1 h2=>ih i d v h1 h2 (s d (zL h1))
 | ref h=>
  cases s with
  | ref s=>exact .ref (low _ _ s h)
 | exc h=>exact .exc h
def Pre (S S':Sto):Prop:=∀(n:Nat)(o:Ob),S[n]?=some o->S'[n]?=some o
theorem Pre.refl {S:Sto}:Pre S S:=λ_ _ h=>h
theorem Pre.push {S S':Sto}{o:Ob}(h:Pre S S'):Pre S (S'++[o]):=λn u e=>by
 have z:=h n u e;rw[zP (zF.mp z).1];exact z
theorem Pre.trans {S S' S2:Sto}(h:Pre S S')(k:Pre S' S2):Pre S S2:=λn o e=>k n o (h n o e)
theorem FQ (e:Ext r r' H H'):∀m a,m<r.length->r'[m]?=some a->r[m]?=some a:=λm a hm h=>by
 have z:r[m]?=some r[m]:=by simp[hm]
 rw[e.adr _ _ z] at h;rw[z];exact h
theorem Yc.low {K:Fg}{r r':List Addr}{S S':Sto}{H H':Hp}(h:Yc K r S H)(e:Ext r r' H H')(h':Yc K r' S' H')(p:Pre S S'):Yc K r S H':=by
 have rl:∀ {ds:List D} {xs ys:List V},Rps r H ds xs->Rps r' H' ds ys->Rps r H' ds ys:=λ{ds xs ys} a b=>⟨b.1,λi d v h1 h2=>by
  obtain⟨v0,_,q⟩:=a.get h1;exact(b.2 i d v h1 h2).low (FQ e) q.sco⟩
 refine⟨h.len,λn a o h1 h2=>?_,λn m a xs ys h1 h2 h3 h4 o1 o2=>h'.nd n m a xs ys (e.adr _ _ h1) (e.adr _ _ h2) (p _ _ h3) (p _ _ h4) o1 o2⟩;have q:=h.ob n a o h1 h2
 have q':=h'.ob n a o (e.adr _ _ h1) (p _ _ h2);cases o with
 | lst ds=>
  obtain⟨xs,_,a1⟩:=q;obtain⟨ys,b0,b1⟩:=q';exact⟨ys,b0,rl a1 b1⟩
 | frz ds=>
  obtain⟨xs,_,a1⟩:=q;obtain⟨ys,b0,b1⟩:=q';exact⟨ys,b0,rl a1 b1⟩
 | ins C fs=>
  obtain⟨_,_,_,a1⟩:=q;obtain⟨dx,fs',b0,b1⟩:=q';exact⟨dx,fs',b0,b1.1,rl a1.2 b1.2⟩
 | dct aZ=>
  obtain⟨_,_,a1⟩:=q;obtain⟨ks,b0,b1⟩:=q';exact⟨ks,b0,b1.1,rl a1.2 b1.2⟩
 | dck aZ=>
  obtain⟨_,_,a1⟩:=q;obtain⟨ks,b0,b1⟩:=q';exact⟨ks,b0,b1.1,rl a1.2 b1.2⟩
 | tpl ws=>exact q'
def Gc (S:Sto)(Q:DK):DK:=λd S'=>Pre S S'/\Sco S.length d/\Q d S
def GcX (S:Sto)(ex:Addr->Sto->Prop):Addr->Sto->Prop:=λc S'=>Pre S S'/\ex c S
theorem Ret.gc {K:Fg}{Z Z':Zx}{r:List Addr}{S:Sto}{H:Hp}{Q:DK}{Qv:VK}(h:Ret K Z r H Q Qv)(bD:Rel K Z r S H):Ret K Z' r H (Gc S Q) Qv:=λv H' r' d S' e rel' p q=>by
 obtain⟨pre,sc,q⟩:=q;have e':Ext r r H H':=⟨λ_ _ z=>z,e.tup,e.xc⟩;rw[<- bD.len] at sc;exact h v H' r d S e' ⟨bD.b.low e rel'.b pre,bD.xw.ext e'⟩ (p.low (FQ e) sc) q
theorem Ul.gc {K:Fg}{ex:Addr->Sto->Prop}{E:XK}{r:List Addr}{S:Sto}{H:Hp}(bD:Rel K (Zc ex E) r S H):Ul K (Zc (GcX S ex) E) r H:=λdl σ c H' r' S' e _ rb q=>by
 obtain⟨pre,q⟩:=q;have e':Ext r r H H':=⟨λ_ _ z=>z,e.tup,e.xc⟩;exact bD.xw [] [] c H' r S e' ⟨rfl,λi d z=>by simp at z⟩ (bD.b.low e rb pre) q
section
variable {P:Program}{w:World}{K:Fg}{mg:Str->Option Value}{base:Heap}
def gcS (sd:Sd):Sd:=λds S Q ex=>∃Q0 ex0,Q=Gc S Q0/\ex=GcX S ex0/\sd ds S Q0 ex0
theorem Wa (h:YL P w K mg base CX k f fd ps (upF K (gcS sd))):YL P w K mg base CX k f fd ps (upF K sd):=by
 have imp:∀vs H Q E,upF K sd vs H Q E->upF K (gcS sd) vs H Q E:=λvs H Qv E ⟨ex,r,S,ds,Q,bD,p,q,ret⟩=>
  ⟨GcX S ex,r,S,ds,Gc S Q,⟨bD.b,Ul.gc bD⟩,p,⟨Q,ex,rfl,rfl,q⟩,ret.gc bD⟩
 obtain⟨h1,h2⟩:=h;exact⟨λvs H Q E q=>h1 vs H Q E (imp vs H Q E q),λA outer s H args us vs Q E hr e0 hb rv q=>h2 A outer s H args us vs Q E hr e0 hb rv (imp vs H Q E q)⟩
end
theorem X0 (len:∀ds S Q ex,sd ds S Q ex->ds.length=n):∀ds S Q ex,gcS sd ds S Q ex->ds.length=n:=λds S Q ex h=>by
 obtain⟨Q0,ex0,_,_,h⟩:=h;exact len _ _ _ _ h
structure WQ (sc around:Scope)(x:Str)(caps:List Str):Prop where
 kind:sc.kind=.function
 nocell:∀y∈sc.names,y.2≠.cell
 own:∀y∈sc.names,y.2=.local->sc.names.lookup y.1=some .local
 loc:sc.names.lookup x=some .local
 cap:∀y∈caps,sc.names.lookup y=some .free
 out:∀y∈sc.names,y.2=.free->around.names.lookup y.1=some .cell
theorem R0 {α:Type}{y:Str}{v:α}:∀ {l:List (Str×α)},l.lookup y=some v->(y,v)∈l
 | [],h=>by simp at h
 | (n,k)::r,h=>by
  cases e:y==n with
  | true=>
   rw[yE,e] at h;have z:k=v:=Option.some.inj h
   have z2:y=n:=by simpa using e
   rw[z,z2];exact xC
  | false=>
   rw[yE,e] at h;exact yR _ (R0 h)
theorem IQ:∀(l:List (Str×NameKind))(acc:List (Str×Addr)),(∀y∈l,y.2=.free->∃c,env.cells.lookup y.1=some c)->(∀x c,acc.lookup x=some c->env.cells.lookup x=some c)->
  ∃cl,(forIn l acc λx r=>(if (x.2==NameKind.free)=true then do let a <- cellOf env x.1;pure (ForInStep.yield ((x.1,a)::r)) else pure (ForInStep.yield r):Sem (ForInStep (List (Str×Addr)))))=pure cl/\
   (∀x c,cl.lookup x=some c->env.cells.lookup x=some c)/\(∀y∈l,y.2=.free->cl.lookup y.1=env.cells.lookup y.1)/\∀x c,acc.lookup x=some c->∃c',cl.lookup x=some c'
 | [],acc,_,ha=>⟨acc,by simp,ha,λy hy=>(by cases hy),λx c e=>⟨c,e⟩⟩
 | (n,k)::r,acc,h,ha=>by
  cases hk:(k==NameKind.free) with
  | false=>
   obtain⟨cl,h1,h2,h3,h4⟩:=IQ r acc (λy hy=>h y (yR _ hy)) ha;refine⟨cl,?_,h2,λy hy hf=>?_,h4⟩
   ·rw[List.forIn_cons];simp[hk];simpa using h1
   ·have hy':=zS.mp hy;rcases hy' with rfl|hy
    ·rw[show k=NameKind.free from hf] at hk;exact absurd hk (by decide)
    ·exact h3 y hy hf
  | true=>
   have hf:k=NameKind.free:=by simpa using hk
   obtain⟨c,hc⟩:=h (n,k) xC hf;obtain⟨cl,h1,h2,h3,h4⟩:=IQ r ((n,c)::acc) (λy hy=>h y (yR _ hy)) (λx c' e=>by
    cases q:x==n with
    | true=>
     rw[yE,q] at e;have z:x=n:=by simpa using q
     rw[z,hc];exact e
    | false=>
     rw[yE,q] at e;exact ha x c' e)
   refine⟨cl,?_,h2,λy hy hf=>?_,λx c' e=>?_⟩
   ·have ec:cellOf env n=pure c:=by unfold cellOf;rw[hc]
    rw[List.forIn_cons];simp[hk,ec];simpa using h1
   ·have hy':=zS.mp hy;rcases hy' with rfl|hy
    ·obtain⟨c',e⟩:=h4 n c (by simp);rw[e];exact(h2 _ _ e).symm
    ·exact h3 y hy hf
   ·refine h4 x (if x==n then c else c') ?_;cases q:x==n with
    | true=>simp[yE,q]
    | false=>simp[yE,q,e]
theorem FT (h:∀y∈sc.names,y.2=.free->∃c,env.cells.lookup y.1=some c):
  ∃cl,closureFor sc env=pure cl/\(∀x c,cl.lookup x=some c->env.cells.lookup x=some c)/\∀y∈sc.names,y.2=.free->cl.lookup y.1=env.cells.lookup y.1:=by
 obtain⟨cl,h1,h2,h3,_⟩:=IQ sc.names [] h (λx c e=>by simp at e);refine⟨cl,?_,h2,h3⟩;unfold closureFor;simp only[bind_pure];exact h1
theorem Ih {env:Env}:∀ {names:List (Str×NameKind)} {x:Str},names.lookup x=some .free->
  (names.map λ(n,k)=>if (k==NameKind.free&&env.scope.kind==.function&&env.kindOf n==some .cell) then (n,NameKind.cell) else (n,k)).lookup x=some .cell\/
  (names.map λ(n,k)=>if (k==NameKind.free&&env.scope.kind==.function&&env.kindOf n==some .cell) then (n,NameKind.cell) else (n,k)).lookup x=some .free
 | [],_,h=>by simp at h
 | (n,k)::r,x,h=>by
  have ih:=@Ih env r x;rw[yU];cases hx:x==n with
  | true=>
   rw[yE,hx] at h;have hk:k=.free:=Option.some.inj h;subst hk;dsimp only;split
   ·left;simp[yE,hx]
   ·right;simp[yE,hx]
  | false=>
   rw[yE,hx] at h;dsimp only;split
   ·simp only[yE,hx];exact ih h
   ·simp only[yE,hx];exact ih h
theorem JR {env:Env}:∀ {names:List (Str×NameKind)} {x:Str},(∀y∈names,y.2≠.cell)->
  ((names.map λ(n,k)=>if (k==NameKind.free&&env.scope.kind==.function&&env.kindOf n==some .cell) then (n,NameKind.cell) else (n,k)).lookup x=some .cell\/
  (names.map λ(n,k)=>if (k==NameKind.free&&env.scope.kind==.function&&env.kindOf n==some .cell) then (n,NameKind.cell) else (n,k)).lookup x=some .free)->names.lookup x=some .free
 | [],_,_,h=>by simp at h
 | (n,k)::r,x,hc,h=>by
  have ih:=@JR env r x λy hy=>hc y (yR _ hy)
  rw[yU] at h;cases hx:x==n with
  | true=>
   rw[yE,hx];dsimp only at h;split at h
   ·rename_i q;simp only[Bool.and_eq_true] at q;have hk:k=.free:=by simpa using q.1.1
    rw[hk]
   ·simp only[yE,hx] at h;rcases h with h|h
    ·exact absurd (Option.some.inj h) (hc (n,k) xC)
    ·exact h
  | false=>
   rw[yE,hx];dsimp only at h;split at h
   ·simp only[yE,hx] at h;exact ih h
   ·simp only[yE,hx] at h;exact ih h
abbrev Cx.comp (X:Cx)(sc:Scope)(N:List Str)(cl:List (Str×Addr))(C:Addr)(s0:Shared)(H0:Hp)(fp:List Addr)(pn:LA):Cx:=
 { X with N:=N,env:=compEnvC sc cl C X.env,s₀:=s0,H₀:=H0,outer:=X.stack,stack:=X.stack,ex:=fp,fn:=λ_=>false,pn:=pn,xe:=λ_ _=>False }
def Yx (caps:List Nat)(σ:St):St:=caps.map λj=>(σ[j]?).join
def YS (caps:List Nat)(dl:Ev):Ev:=caps.map λj=>(dl[j]?).join
def RI (caps:List Nat)(wi:TI)(tc:TT)(te:TE):TE:=λσ H Q=>wi σ H λJ H1=>∀D,H1 D=none->∃W:Nat->Nat->Hp->Prop,(∃m,W 0 m (upd H1 D (.lst [])))/\∀i m H,W i m H->
 (J.stop i H/\Q (.ref D) H)\/(J.go i H/\∀x H',J.yld i H x H'->tc (some x::Yx caps σ) H' λb H2=>if b=true then te (some x::Yx caps σ) H2 λy H3=>∃ys,H3 D=some (.lst ys)/\ys.length<sizeLine/\∃m',m'<m/\W (i+1) m' (upd H3 D (.lst (ys++[y])))
  else ∃m',m'<m/\W (i+1) m' H2)
def PTs (Y:Cx)(ifs:List Expr)(tc:TT):Prop:=∀(aA:LA)(s:Shared)(σ:St)(H:Hp)(Q:Bool->Hp->Prop),Inv Y aA σ H s->tc σ H Q->
 wpAny (model Y.prog Y.w) Y.A (forIn ifs true λc r=>if r=true then do let ok <- isTrue c Y.env (eval c Y.env);pure (ForInStep.yield ok) else pure (ForInStep.yield r)) (TP Y aA σ Q) Y.xe s
theorem Di:PTs Y [] (λ_ H Q=>Q true H):=λ_ _ _ H _ I h=>wpAny_tests_nil ⟨H,I,h⟩
theorem zaf (h:PT Y c tc):PTs Y [c] tc:=λaA s σ H Q I q=>wpAny_tests_one (h aA s σ H Q I q)
section
variable {X:Cx}{aA:LA}{σ:St}{H:Hp}{s:Shared}
theorem zbz {sc:Scope}{x:Str}{N:List Str}{caps:List Nat}{cl:List (Str×Addr)}{fp:List Addr}{h1:Heap}{m:Str->Option Value}{tk:Nat}(I:Inv X aA σ H s)(cs:WQ sc X.env.scope x N)
  (hN:∀(j:Nat)(y:Str),N[j]?=some y->∃i,caps[j]?=some i/\X.N[i]?=some y)(aV:caps.length=N.length)
  (c1:∀x c,cl.lookup x=some c->X.env.cells.lookup x=some c)(c2:∀y∈sc.names,y.2=.free->cl.lookup y.1=X.env.cells.lookup y.1)
  (hf:∀b∈fp,Xc X aA H b)(hfo:∀b∈fp,b<s.heap.objs.size)(hns:h1.Ns s.heap.objs.size m)(hk:∀b o,s.heap.get? b=some o->h1.get? b=some o):
  Inv (Cx.comp X sc (x::N) cl s.heap.objs.size s H fp (X.pn++aA)) [] (none::Yx caps σ) H { s with heap:=h1,toks:=tk }:=by
 have stk:∀b∈frs X.stack,b=X.env.locals\/b∈X.fs:=λb hb=>zS.mp (I.stkSub b hb)
 refine⟨⟨I.ok.mod,cs.kind,I.ok.glob,I.ok.blt,zD _,λa b c h1 h2=>I.ok.inj a b c (c1 _ _ h1) (c1 _ _ h2),λy hy=>?_,λ_ _ z=>Bool.noConfusion z,I.ok.hd,I.ok.frames,.inl rfl,λb hb=>⟨zV (hfo b hb),λy c e=>(hf b hb).2.2.2.2.1 y c (c1 _ _ e)⟩,
  I.bs,yI I.ok.bsz I.sz,λb o e hb=>?_,λb hb z=>?_,I.stack,I.stkFree⟩,rfl,I.bare,Un.kept hk,⟨m,hns,λi y v e1 e2 e3=>?_⟩,λy c e=>?_,I.hok.fresh (zD _),λy c e=>I.freeC y c (c1 _ _ e),λp hp=>?_,I.hok.kept hk,?_⟩
 ·have hfr:sc.names.lookup y=some .free:=JR cs.nocell hy
  have hm:=R0 hfr;obtain⟨c,e⟩:=I.ok.has y (.inl (cs.out _ hm rfl));exact⟨c,(c2 _ hm rfl).trans e⟩
 ·rcases (hf b hb).2.2.2.1 with z|z
  ·exact I.ok.noex b o e z
  ·exact absurd (zZ (Heap.lt_size (I.ok.bs b o e).1) z) (yH _)
 ·rcases stk b z with z|z
  ·exact(hf b hb).2.1 z
  ·exact(hf b hb).2.2.1 z
 ·cases i with
  | zero=>simp at e2
  | succ i=>
   have e1':N[i]?=some y:=by simpa using e1
   obtain⟨j,hj,hy⟩:=hN i y e1';have e2':σ[j]?=some (some v):=by
    simp only[List.getElem?_cons_succ,Yx,zG,hj,Option.map_some,Option.some.injEq] at e2;cases q:σ[j]? with
    | none=>rw[q] at e2;cases e2
    | some o=>rw[q] at e2;simp at e2;rw[e2]
   have hfr:sc.names.lookup y=some .free:=cs.cap y (zL e1')
   have hm:=R0 hfr
   have hce:X.env.scope.names.lookup y=some .cell:=cs.out _ hm rfl;obtain⟨m0,_,hl⟩:=I.loc;obtain⟨u,r,l⟩:=hl j y v hy e2' (.inr (.inl hce));refine⟨u,r,.inr ⟨Ih hfr,?_⟩⟩;rcases l with ⟨k,_⟩|⟨_,c,ec,hcell⟩
   ·rw[show X.env.kindOf y=some .cell from hce] at k;cases k
   ·exact⟨c,(c2 _ hm rfl).trans ec,hcell.keeps hk⟩
 ·obtain⟨v,z⟩:=I.cell y c (c1 _ _ e);exact⟨v,z.keeps hk⟩
 ·have hp':p∈X.pn++aA:=by simpa using hp
  obtain⟨p1,p2,p3,p4,p5⟩:=I.pin p hp';refine⟨hk _ _ p1,p2,zV (Heap.lt_size p1),λz=>?_,p5⟩;rcases stk _ z with z|z
  ·exact p3 z
  ·exact p4 z
 ·simp[Yx,aV]
end
section
variable {X:Cx}{bA aY:Expr}{x:Str}{px pos:Pos}{ifs:List Expr}{sc:Scope}{N:List Str}{caps:List Nat}{wi:TI}{tc:TT}{te:TE}
structure Hz (X:Cx)(aA:LA)(σ:St)(C:Addr)(Q:VK)(D:Addr)(s':Shared):Prop where
 q:∃H',Inv X aA σ H' s'/\Q (.ref D) H'/\H' C=none
 ns:∃m,s'.heap.Ns C m
 loc:C≠X.env.locals
 old:X.s₀.heap.objs.size<=C
 cell:∀x c,X.env.cells.lookup x=some c->c≠C
 pin:∀p∈X.pn++aA,p.1≠C
theorem HA (hc:X.calm=true)(cs:WQ sc X.env.scope x N)(hN:∀(j:Nat)(y:Str),N[j]?=some y->∃i,caps[j]?=some i/\X.N[i]?=some y)(aV:caps.length=N.length)(hnd:(x::N).Nodup)(hi:PI X (.Name x px) aY wi)(ht:∀cl C s0 H0 fp pn,PTs (Cx.comp X sc (x::N) cl C s0 H0 fp pn) ifs tc)(he:∀cl C s0 H0 fp pn,PE (Cx.comp X sc (x::N) cl C s0 H0 fp pn) bA te)(hs:∀y,foldedSetIterable aY X.env y=pure y)(I:Inv X aA σ H s)(h:RI caps wi tc te σ H Q)(bC:∀D C s',Hz X aA σ C Q D s'->compPost (model X.prog X.w) X.A X.xe use Qr (.ref D) C (.ok .next) s'):
  wpAny (model X.prog X.w) X.A (comprehension (.ListComp bA [⟨.Name x px,aY,ifs,0⟩] sc pos) sc X.env p2 (newList []) false (eval aY X.env) use) Qr X.xe s:=by
 obtain⟨cl,k1,k2,k3⟩:=FT (sc:=sc) (env:=X.env) λy hy hf=>I.ok.has y.1 (.inl (cs.out y hy hf))
 refine wpAny_comprehension_free rfl hs k1 cs.kind cs.own (thn (hi aA s σ H _ I h) λv s1 h1=>thn h1 λitv s2 h2=>?_);obtain⟨it,fp,tn,J,H2,e,I2,T,st2,f2,body⟩:=h2;subst e;have hfo:∀b∈fp,b<s2.heap.objs.size:=λb hb=>by
  obtain⟨o,e,_⟩:=T.obj _ _ st2 b hb;exact Heap.lt_size e
 have hD:H2 s2.heap.objs.size=none:=I2.hok.fresh (zD _);obtain⟨W,⟨m0,w0⟩,turn⟩:=body _ hD;refine wpAny_newObj_type ?_;have I3:Inv X aA σ (upd H2 s2.heap.objs.size (.lst [])) { s2 with heap:=s2.heap.push { cls:=.type "list",dict:=none,data:=.seq ([]:List Value).toArray },toks:=s2.toks }:=
  I2.laid (t':=s2.toks) (λb u e=>Heap.get?_push_of_some _ e) (zD _) ⟨zO _,[],0,.nil,Heap.get?_push_size _ rfl⟩
 generalize hs3:({ s2 with heap:=s2.heap.push { cls:=.type "list",dict:=none,data:=.seq ([]:List Value).toArray },toks:=s2.toks }:Shared)=s3 at I3;have es3:({ s2 with heap:=s2.heap.push { cls:=.type "list",dict:=none,data:=.seq ([]:List Value).toArray } }:Shared)=s3:=hs3
 try rw[es3]
 have f3:∀b∈fp,Xc X aA (upd H2 s2.heap.objs.size (.lst [])) b:=λb hb=>⟨by rw[Yi (zV (hfo b hb))];exact(f2 b hb).1,(f2 b hb).2⟩
 have up3:∀b o,s2.heap.get? b=some o->s3.heap.get? b=some o:=λb o e=>by rw[<- hs3];exact Heap.get?_push_of_some _ e
 have st3:tn 0 s3.heap:=T.keep _ _ _ st2 λb _ o e=>up3 b o e
 have hfo3:∀b∈fp,b<s3.heap.objs.size:=λb hb=>by
  obtain⟨o,e,_⟩:=T.obj _ _ st3 b hb;exact Heap.lt_size e
 refine wpAny_newFunctionEnv cs.nocell (λy hy=>by simp at hy) (λh4 ns4 sb4=>?_) cs.kind;have hk4:∀b o,s3.heap.get? b=some o->h4.get? b=some o:=λb o e=>(sb4.2 b (zV (Heap.lt_size e))).trans (Heap.get?_push_of_some _ e)
 have I4:=zbz (tk:=s3.toks+([]:List (Str×Value)).length) I3 cs hN aV k2 k3 f3 hfo3 ns4 hk4;generalize hs4:({ s3 with heap:=h4,toks:=s3.toks+([]:List (Str×Value)).length }:Shared)=s4 at I4 ⊢;have eh4:s4.heap=h4:=by rw[<- hs4]
 have st4:tn 0 s4.heap:=by rw[eh4];exact T.keep _ _ _ st3 λb _ o e=>hk4 b o e
 have fY:∀ {H':Hp},(∀b∈fp,H' b=none)->∀b∈fp,Xc (Cx.comp X sc (x::N) cl s3.heap.objs.size s3 (upd H2 s2.heap.objs.size (.lst [])) fp (X.pn++aA)) [] H' b:=λhn b hb=>by
  obtain⟨_,z2,z3,z4,z5,z6⟩:=f3 b hb;refine⟨hn b hb,zV (hfo3 b hb),λz=>?_,.inl hb,λy c e=>z5 y c (k2 _ _ e),λp hp=>z6 p (by simpa using hp)⟩;rcases zS.mp (I3.stkSub b z) with z|z
  ·exact z2 z
  ·exact z3 z
 have locY:(Cx.comp X sc (x::N) cl s3.heap.objs.size s3 (upd H2 s2.heap.objs.size (.lst [])) fp (X.pn++aA)).env.scope.names.lookup x=some .local:=lookup_relabel_local cs.loc
 have loop:codeAny (model X.prog X.w) X.A (.compLoop (.ListComp bA [⟨.Name x px,aY,ifs,0⟩] sc pos) 0 (.ref it) (.ref s2.heap.objs.size) (compEnvC sc cl s3.heap.objs.size X.env))
   (compPost (model X.prog X.w) X.A X.xe use Qr (.ref s2.heap.objs.size) s3.heap.objs.size) s4:=by
  refine codeAny_compLoop_tests (λn s'=>∃i o H',Inv (Cx.comp X sc (x::N) cl s3.heap.objs.size s3 (upd H2 s2.heap.objs.size (.lst [])) fp (X.pn++aA)) [] (o::Yx caps σ) H' s'/\tn i s'.heap/\(∀b∈fp,H' b=none)/\W i n H') ?_ m0
   ⟨0,none,_,I4,st4,λb hb=>(f3 b hb).1,w0⟩
  rintro n s5 ⟨i,o,H5,I5,st5,fr5,w5⟩;rcases turn i n H5 w5 with ⟨stop,q⟩|⟨go,step⟩
  ·refine thn (T.done (Cx.comp X sc (x::N) cl s3.heap.objs.size s3 (upd H2 s2.heap.objs.size (.lst [])) fp (X.pn++aA)) rfl rfl rfl hc i [] s5 _ H5 _ I5 (fY fr5) st5 stop) λr s6 ⟨hr,I6⟩=>?_
   subst hr;refine bC _ _ _ ⟨⟨H5,I3.call' I6.os I6.base I6.hok I6.bare (λb hb=>?_),q,I6.free⟩,?_,Nat.ne_of_gt I3.lt,I3.sz,λy c e z=>?_,λp hp z=>?_⟩
   ·obtain⟨_,z2,z3,z4,z5,z6⟩:=f3 b hb;exact⟨z4,z2,z5,z6⟩
   ·obtain⟨m,hm,_⟩:=I6.loc;exact⟨m,hm⟩
   ·obtain⟨v,hv⟩:=I3.cell y c e;exact absurd (z ▸ hv.lt) (yH _)
   ·exact absurd (z ▸ Heap.lt_size (I3.pin p hp).1) (yH _)
  ·refine thn (T.item (Cx.comp X sc (x::N) cl s3.heap.objs.size s3 (upd H2 s2.heap.objs.size (.lst [])) fp (X.pn++aA)) rfl rfl rfl hc i [] s5 _ H5 _ I5 (fY fr5) st5 go) λr s6 ⟨u,hr,h6⟩=>?_
   subst hr;show wpAny _ _ (letOwnedTupleGo (.Name x px) (.ref it) u >>= λ_=>assign (.Name x px) (compEnvC sc cl s3.heap.objs.size X.env) u) _ _ s6;refine wpAny_bind (thn h6 λ_ s7 ⟨y,H7,I7,r7,y7,st7,fr7⟩=>?_);have I7':=I7.pinned (fY fr7) (T.obj _ _ st7);refine wpAny_mono (R8 (X:=Cx.comp X sc (x::N) cl s3.heap.objs.size s3 (upd H2 s2.heap.objs.size (.lst [])) fp (X.pn++aA)) (pos:=px) hnd (i:=0) rfl (.inl locY) (.inr locY) _ s7 _ H7 y u (λσ8 H8=>σ8=some y::Yx caps σ/\H8=H7) I7' r7 ⟨rfl,rfl⟩) (λ_ s8 ⟨σ8,H8,I8,e8,e8'⟩=>?_) λ_ _ z=>z.elim
   subst e8;subst e8';have stay:∀ {H':Hp} {s':Shared},Inv (Cx.comp X sc (x::N) cl s3.heap.objs.size s3 (upd H2 s2.heap.objs.size (.lst [])) fp (X.pn++aA)) ([]++Tr fp s7.heap) (some y::Yx caps σ) H' s'->∀m',m'<n->W (i+1) m' H'->
     ∃m,m<n/\∃i o H',Inv (Cx.comp X sc (x::N) cl s3.heap.objs.size s3 (upd H2 s2.heap.objs.size (.lst [])) fp (X.pn++aA)) [] (o::Yx caps σ) H' s'/\tn i s'.heap/\(∀b∈fp,H' b=none)/\W i m H':=λ{H' s'} J m' hm w'=>by
    refine⟨m',hm,i+1,some y,H',J.unpinned,T.keep _ _ _ st7 λb hb o e=>(J.pin (b,o) (yK _ (yK _ (UM hb e)))).1,λb hb=>?_,w'⟩;obtain⟨o,e,d⟩:=T.obj _ _ st7 b hb;exact(J.pin (b,o) (yK _ (yK _ (UM hb e)))).2.1
   refine wpAny_mono (ht _ _ _ _ _ _ _ s8 _ H8 _ I8 (step y H8 y7)) (λb s9 ⟨H9,I9,q9⟩=>?_) λ_ _ z=>z.elim
   cases b with
   | false=>
    rw[if_neg zW] at q9 ⊢;obtain⟨m',hm,w9⟩:=q9;exact stay I9 m' hm w9
   | true=>
    rw[if_pos rfl] at q9 ⊢;refine wpAny_mono (he _ _ _ _ _ _ _ s9 _ H9 _ I9 q9) (λu2 s10 ⟨z,H10,I10,r10,q10⟩=>?_) λ_ _ z=>z.elim
    obtain⟨ys,hD10,hlt,m',hm,w10⟩:=q10;refine wpAny_mono (KS (X:=(Cx.comp X sc (x::N) cl s3.heap.objs.size s3 (upd H2 s2.heap.objs.size (.lst [])) fp (X.pn++aA))) _ s10 _ H10 (.ref s2.heap.objs.size) [z] (.ref s2.heap.objs.size) [u2] (λ_ H'=>H'=upd H10 s2.heap.objs.size (.lst (ys++[z]))) I10 rfl (.cons r10 .nil) ⟨_,ys,z,rfl,rfl,hD10,hlt,rfl⟩) (λ_ s11 ⟨_,H11,I11,_,e11⟩=>?_) λ_ _ z=>z.elim
    subst e11;exact stay I11 m' hm w10
 exact codeAny_compStart_list loop (T.self _ 0 s4 _ _ st4 loop)
theorem Vq (h:caps.map (λi=>X.N[i]?)=N.map some):(∀(j:Nat)(y:Str),N[j]?=some y->∃i,caps[j]?=some i/\X.N[i]?=some y)/\caps.length=N.length:=by
 refine⟨λj y e=>?_,by simpa using congrArg List.length h⟩;have z:(caps.map (λi=>X.N[i]?))[j]?=some (some y):=by rw[h,zG,e];rfl
 rw[zG] at z;cases q:caps[j]? with
 | none=>rw[q] at z;cases z
 | some i=>rw[q] at z;exact⟨i,rfl,by simpa using z⟩
theorem GR (hc:X.calm=true)(cs:WQ sc X.env.scope x N)(hN:caps.map (λi=>X.N[i]?)=N.map some)(hnd:(x::N).Nodup)
  (hi:PI X (.Name x px) aY wi)(ht:∀cl C s0 H0 fp pn,PTs (Cx.comp X sc (x::N) cl C s0 H0 fp pn) ifs tc)(he:∀cl C s0 H0 fp pn,PE (Cx.comp X sc (x::N) cl C s0 H0 fp pn) bA te)
  (hs:∀y,foldedSetIterable aY X.env y=pure y:=by intro _;rfl):PE X (.ListComp bA [⟨.Name x px,aY,ifs,0⟩] sc pos) (RI caps wi tc te):=by
 intro aA s σ H Q I h;rw[eval_ListComp];refine HA (use:=none) hc cs (Vq hN).1 (Vq hN).2 hnd hi ht he hs I h λD C s' f=>?_
 obtain⟨⟨H',I',q,hC⟩,⟨m,ns⟩,l,o,c,p⟩:=f;exact⟨m,ns,λh' sb=>⟨.ref D,H',I'.turned (t':=s'.toks) (λb ob hb e=>(sb.2 b hb).trans e) hC l (.inr o) c p,rfl,q⟩⟩
theorem GH (hc:X.calm=true)(cs:WQ sc X.env.scope x N)(hN:caps.map (λi=>X.N[i]?)=N.map some)(hnd:(x::N).Nodup)(hi:PI X (.Name x px) aY wi)(ht:∀cl C s0 H0 fp pn,PTs (Cx.comp X sc (x::N) cl C s0 H0 fp pn) ifs tc)(he:∀cl C s0 H0 fp pn,PE (Cx.comp X sc (x::N) cl C s0 H0 fp pn) bA te)(hNd:X.N.Nodup)(hy:X.N[i]?=some y)(hl:X.env.scope.names.lookup y=some .local)(hsw:swapsWith (.ListComp bA [⟨.Name x px,aY,ifs,0⟩] sc pos) (some (.Name y py)) spos.line X.env=pure true)(hs:∀y,foldedSetIterable aY X.env y=pure y:=by intro _;rfl):PS X (.Assign [.Name y py] (.ListComp bA [⟨.Name x px,aY,ifs,0⟩] sc pos) spos) (λE σ H=>RI caps wi tc te σ H λv H1=>E.nx (σ.set i (some v)) H1):=by
 intro aA s σ H E I h;rw[exec_Assign_Name_used (hs:=hsw)];refine wpAny_bind (wpAny_standAt ?_);refine wpAny_bind ?_;show wpAny _ _ (comprehension _ sc X.env _ (newList []) false (eval aY X.env) (some (assign (.Name y py) X.env)) >>= λ_=>pure ()) _ _ s
 refine wpAny_bind (thn (HA (use:=some (assign (.Name y py) X.env)) (Qr:=λ_ s'=>SP X aA E .next s') hc cs (Vq hN).1 (Vq hN).2 hnd hi ht he hs I h λD C s' f=>?_) λ_ s' hq=>wpAny_pure (wpAny_pure hq));obtain⟨⟨H',I',q,hC⟩,⟨m,ns⟩,l,o,c,p⟩:=f;refine wpAny_assign_Name (K6 (v:=.ref D) I' hNd hy (.inl hl) rfl (λs'' I'' ⟨a,sb,ha⟩=>⟨m,ns.sameBut sb ?_,λh' sb'=>⟨_,H',I''.turned (t':=s''.toks) (λb ob hb e=>(sb'.2 b hb).trans e) hC l (.inr o) c p,q⟩⟩) (.inr hl));rcases ha with rfl|ha
 ·exact l
 ·exact Ne.symm (c _ _ ha)
end
section
variable {X:Cx}{Z:Zx}{bA aY:Expr}{x:Str}{px pos:Pos}{ifs:List Expr}{sc ar:Scope}{N:List Str}{caps:List Nat}
theorem Gm {r:List Addr}{H:Hp}{dl:Ev}{σ:St}{d:D}{v:V}(h:Rs r H dl σ)(p:Rp r H d v):Rs r H (some d::YS caps dl) (some v::Yx caps σ):=by
 refine⟨by simp[YS,Yx],λi e hi=>?_⟩;cases i with
 | zero=>simp at hi;subst hi;exact⟨v,rfl,p⟩
 | succ i=>
  simp only[List.getElem?_cons_succ,YS,zG] at hi;cases q:caps[i]? with
  | none=>rw[q] at hi;cases hi
  | some j=>
   rw[q] at hi;simp only[Option.map_some,Option.some.injEq] at hi;have hj:dl[j]?=some (some e):=by
    cases q2:dl[j]? with
    | none=>rw[q2] at hi;cases hi
    | some o=>rw[q2] at hi;simp at hi;rw[hi]
   obtain⟨w,h1,h2⟩:=h.2 j e hj;refine⟨w,?_,h2⟩;simp only[List.getElem?_cons_succ,Yx,zG,q,Option.map_some,h1,Option.join_some]
def Tx (Y:Cx)(ifs:List Expr)(t:TDT):Prop:=PTs Y ifs (upT Y.K Z0 t)
def Xu:TDT:=λ_ S Q=>Q true S
theorem Yt:Tx Y [] Xu:=λaA s σ H Qb I ⟨r,dl,S,Q,rs,bD,q,ret⟩=>Di aA s σ H Qb I (ret true H r S Ext.refl bD q)
theorem Hs (h:PDT Y Z0 c t):Tx Y [c] t:=zaf h
def WO (caps:List Nat)(tc:TDT)(te:TDE)(k:Nat)(dl:Ev)(d:D)(S:Sto)(nx:Sto->Prop):Prop:=
 tc (some d::YS caps dl) S λb S1=>if b=true then te (some d::YS caps dl) S1 λy S2=>match S2[k]? with
  | some (.lst ys)=>ys.length<1000/\nx (S2.set k (.lst (ys++[y])))
  | _=>False
 else nx S1
@[irreducible] def XB (caps:List Nat)(tl:TDE)(tc:TDT)(te:TDE):TDE:=λdl S Q=>tl dl S λd S1=>match d with
 | .ref n=>(lAt S1 n).isSome=true/\∃W:Nat->Nat->Sto->Prop,(∃m,W 0 m (S1++[.lst []]))/\∀k m S2,W k m S2->match lAt S2 n with
  | some o=>match (Zq o)[k]? with
   | some y=>WO caps tc te S1.length dl y S2 λS3=>∃m',m'<m/\W (k+1) m' S3
   | none=>Q (.ref S1.length) S2
  | none=>False
 | _=>False
@[irreducible] def WI (caps:List Nat)(ta:TDA)(tc:TDT)(te:TDE):TDE:=λdl S Q=>ta dl S λds S1=>match ds with
 | [.int j]=>(-(2^62)<=j/\j<2^62)/\∃W:Nat->Sto->Prop,W 0 (S1++[.lst []])/\∀k S2,W k S2->
   if k<j.toNat then WO caps tc te S1.length dl (.int k) S2 λS3=>W (k+1) S3 else Q (.ref S1.length) S2
 | _=>False
theorem Fw {tc:TDT}{te:TDE}{r2:List Addr}{H2:Hp}{S1 S2:Sto}{dl:Ev}{σ:St}{D0:Addr}{d:D}{v:V}{nx:Sto->Prop}{Nx:Hp->Prop}(rs:Rs r2 H2 dl σ)(ha:r2[S1.length]?=some D0)(rb:Yc X.K r2 S2 H2)(p:Rp r2 H2 d v)
  (h:WO caps tc te S1.length dl d S2 nx)(hn:∀r' S' H',Ext r2 r' H2 H'->Yc X.K r' S' H'->nx S'->Nx H'):
  upT X.K Z0 tc (some v::Yx caps σ) H2 λb H3=>if b=true then up X.K Z0 te (some v::Yx caps σ) H3 λy H4=>∃ys,H4 D0=some (.lst ys)/\ys.length<sizeLine/\Nx (upd H4 D0 (.lst (ys++[y]))) else Nx H3:=by
 have rsY:Rs r2 H2 (some d::YS caps dl) (some v::Yx caps σ):=Gm rs p;refine⟨r2,_,S2,_,rsY,⟨rb,λ_ _ _ _ _ _ _ _ _ z=>z.elim⟩,h,λb H3 r3 S3 x3 aH q3=>?_⟩;cases b with
 | false=>rw[if_neg zW] at q3 ⊢;exact hn r3 S3 H3 x3 aH.b q3
 | true=>
  rw[if_pos rfl] at q3 ⊢;refine⟨r3,_,S3,_,rsY.ext x3,aH,q3,λz H4 r4 dz S4 x4 aJ p4 q4=>?_⟩;split at q4
  ·rename_i ys eys;obtain⟨hl,q4⟩:=q4;have ha4:r4[S1.length]?=some D0:=x4.adr _ _ (x3.adr _ _ ha);obtain⟨zs,hD4,pz⟩:=aJ.b.ob _ _ _ ha4 eys;obtain⟨rel5,x5⟩:=aJ.b.set ha4 eys (pz.snoc p4);exact⟨zs,hD4,by rw[<- pz.1];exact Qy (yX hl),hn r4 _ _ (x3.trans (x4.trans x5)) rel5 q4⟩
  ·exact q4.elim
theorem RQ (h:r.length=n):(r++[D0])[n]?=some D0:=by subst h;simp
theorem GY {tl:TDE}{tc:TDT}{te:TDE}{σ:St}{H:Hp}{Qv:VK}(h:up X.K Z (XB caps tl tc te) σ H Qv):RI caps (HM X.K (up X.K Z tl)) (upT X.K Z0 tc) (up X.K Z0 te) σ H Qv:=by
 obtain⟨r,dl,S,Q,rs,bD,h,ret⟩:=h;unfold XB at h;refine⟨r,dl,S,_,rs,bD,h,λv H1 r1 d S1 x1 aF p1 q1=>?_⟩;cases p1 with
 | @ref n a hn=>
  obtain⟨aX,W,⟨m0,w0⟩,turn⟩:=q1;have sql:∀ {r':List Addr} {S':Sto} {H':Hp} {o:Ob},Ext r1 r' H1 H'->Yc X.K r' S' H'->lAt S' n=some o->∃xs,SqL X.K H' a xs/\Rps r' H' (Zq o) xs:=λ{r' S' H' o} x' rel' eo=>by
   obtain⟨eo,eL⟩:=YF eo;obtain⟨a',ha,ob⟩:=rel'.at eo;rw[x'.adr n a hn] at ha;cases ha
   exact ob.list eL
  obtain⟨o1,eo1⟩:=yS.mp aX;obtain⟨xs1,sq1,_⟩:=sql Ext.refl aF.b eo1;refine⟨a,rfl,⟨xs1,sq1⟩,λD0 hD=>?_⟩;obtain⟨aG,x2⟩:=aF.b.push (ds:=[]) (xs:=[]) hD Rps.nil;refine⟨λk m H'=>∃r' S',Ext (r1++[D0]) r' (upd H1 D0 (.lst [])) H'/\Yc X.K r' S' H'/\W k m S',⟨m0,_,_,Ext.refl,aG,w0⟩,?_⟩;rintro k m H2 ⟨r2,S2,x3,rb2,w2⟩;have ha2:r2[S1.length]?=some D0:=x3.adr _ _ (RQ aF.len)
  have q:=turn k m S2 w2;split at q
  ·rename_i o eo;obtain⟨xs,sq,pr⟩:=sql (x2.trans x3) rb2 eo;split at q
   ·rename_i y ey;obtain⟨v,hv,pv⟩:=pr.get ey;refine .inr ⟨⟨xs,v,sq,hv⟩,λv' H' y'=>?_⟩;obtain⟨eH,y'⟩:=y';subst eH;have ev:v'=v:=by
     have z:=y' xs sq;rw[hv] at z;exact(Option.some.inj z).symm
    subst ev;have z:=Fw (Nx:=λH'=>∃m',m'<m/\∃r' S',Ext (r1++[D0]) r' (upd H1 D0 (.lst [])) H'/\Yc X.K r' S' H'/\W (k+1) m' S') (rs.ext (x1.trans (x2.trans x3))) ha2 rb2 pv q λr' S' H' x' rb' ⟨m',hm,w'⟩=>⟨m',hm,r',S',x3.trans x',rb',w'⟩
    exact z
   ·rename_i ey;have aV:(Zq o).length<=k:=xE.mp ey;exact .inl ⟨⟨xs,sq,by rw[<- pr.1];exact aV⟩,ret _ H2 r2 _ S2 (x1.trans (x2.trans x3)) ⟨rb2,bD.xw.ext (x1.trans (x2.trans x3))⟩ (.ref ha2) q⟩
  ·exact q.elim
 | _=>exact(show False from q1).elim
theorem GI {ta:TDA}{tc:TDT}{te:TDE}{σ:St}{H:Hp}{Qv:VK}(h:up X.K Z (WI caps ta tc te) σ H Qv):RI caps (FO (upA X.K Z ta)) (upT X.K Z0 tc) (up X.K Z0 te) σ H Qv:=by
 obtain⟨r,dl,S,Q,rs,bD,h,ret⟩:=h;unfold WI at h;refine⟨r,dl,S,_,rs,bD,h,λvs H1 r1 ds S1 x1 aF p1 q1=>?_⟩;split at q1
 ·rename_i j;obtain⟨v,vs',rfl,p2,p3⟩:=p1.uncons;have z:=p3.unnil;subst z;cases p2;obtain⟨⟨b1,b2⟩,W,w0,turn⟩:=q1;refine⟨j,rfl,b1,b2,λD0 hD=>?_⟩;obtain⟨aG,x2⟩:=aF.b.push (ds:=[]) (xs:=[]) hD Rps.nil;refine⟨λk m H'=>m=j.toNat-k/\∃r' S',Ext (r1++[D0]) r' (upd H1 D0 (.lst [])) H'/\Yc X.K r' S' H'/\W k S',⟨j.toNat,by simp,_,_,Ext.refl,aG,w0⟩,?_⟩;rintro k m H2 ⟨em,r2,S2,x3,rb2,w2⟩;have ha2:r2[S1.length]?=some D0:=x3.adr _ _ (RQ aF.len)
  have q:=turn k S2 w2;split at q
  ·rename_i hk;refine .inr ⟨hk,λv' H' y'=>?_⟩;obtain⟨eH,y'⟩:=y';subst eH;subst y';have pk:Rp r2 H' (.int (k:Int)) (.int (0+(k:Int))):=by rw[Int.zero_add];exact .int _
   have z:=Fw (Nx:=λH'=>∃m',m'<m/\m'=j.toNat-(k+1)/\∃r' S',Ext (r1++[D0]) r' (upd H1 D0 (.lst [])) H'/\Yc X.K r' S' H'/\W (k+1) S') (rs.ext (x1.trans (x2.trans x3))) ha2 rb2 pk q
    λr' S' H' x' rb' w'=>⟨j.toNat-(k+1),by omega,rfl,r',S',x3.trans x',rb',w'⟩
   exact z
  ·rename_i hk;exact .inl ⟨by show j.toNat<=k;omega,ret _ H2 r2 _ S2 (x1.trans (x2.trans x3)) ⟨rb2,bD.xw.ext (x1.trans (x2.trans x3))⟩ (.ref ha2) q⟩
 ·exact q1.elim
theorem Wh (har:X.env.scope=ar)(hc:X.calm=true)(cs:WQ sc ar x N)(hN:caps.map (λi=>X.N[i]?)=N.map some)(hnd:(x::N).Nodup)(hl:PD X Z aY tl)(ht:∀cl C s0 H0 fp pn,Tx (Cx.comp X sc (x::N) cl C s0 H0 fp pn) ifs tc)(he:∀cl C s0 H0 fp pn,PD (Cx.comp X sc (x::N) cl C s0 H0 fp pn) Z0 bA te)(hs:∀y,foldedSetIterable aY X.env y=pure y:=by intro _;rfl):PD X Z (.ListComp bA [⟨.Name x px,aY,ifs,0⟩] sc pos) (XB caps tl tc te):=by
 subst har;exact Yp (GR hc cs hN hnd (tc:=upT X.K Z0 tc) (te:=up X.K Z0 te) (Jl hl) ht he hs) λ_ _ _ h=>GY h
theorem VZ (har:X.env.scope=ar)(hc:X.calm=true)(cs:WQ sc ar x N)(hN:caps.map (λi=>X.N[i]?)=N.map some)(hnd:(x::N).Nodup)(hg:Gl X "range")(hm:X.mg "range"=none)(ha:PDA X Z [a] ta)(ht:∀cl C s0 H0 fp pn,Tx (Cx.comp X sc (x::N) cl C s0 H0 fp pn) ifs tc)(he:∀cl C s0 H0 fp pn,PD (Cx.comp X sc (x::N) cl C s0 H0 fp pn) Z0 bA te)(hs:∀y,foldedSetIterable (.Call (.Name "range" p) [a] [] aT) X.env y=pure y:=by intro _;rfl)(hst:starEach [a] X.env=[(false,eval a X.env)]:=by rfl):
  PD X Z (.ListComp bA [⟨.Name x px,.Call (.Name "range" p) [a] [] aT,ifs,0⟩] sc pos) (WI caps ta tc te):=by
 subst har;exact Yp (GR hc cs hN hnd (tc:=upT X.K Z0 tc) (te:=up X.K Z0 te) (IH hg hm ha hst) ht he hs) λ_ _ _ h=>GI h
theorem Ig {t:TE}{td:TDE}{i:Nat}{F:VR}{σ:St}{H:Hp}(imp:∀Qv,up X.K Z td σ H Qv->t σ H Qv)(h:upS X.K Z (λE dl S=>td dl S λd S1=>E.nx (dl.set i (some d)) S1) F σ H):t σ H λv H1=>F.nx (σ.set i (some v)) H1:=by
 obtain⟨r,dl,S,E,rs,bD,h,ret⟩:=h;exact imp _ ⟨r,dl,S,_,rs,bD,h,λv H1 r1 d S1 x aF p q=>ret.nx _ H1 r1 _ S1 x ((rs.ext x).set i p) aF q⟩
theorem VM {tl:TDE}{tc:TDT}{te:TDE}{i:Nat}{y:Str}{py spos:Pos}(har:X.env.scope=ar)(hc:X.calm=true)(cs:WQ sc ar x N)(hN:caps.map (λi=>X.N[i]?)=N.map some)(hnd:(x::N).Nodup)(hNd:X.N.Nodup)(hy:X.N[i]?=some y)(hlo:ar.names.lookup y=some .local)
  (hl:PD X Z aY tl)(ht:∀cl C s0 H0 fp pn,Tx (Cx.comp X sc (x::N) cl C s0 H0 fp pn) ifs tc)(he:∀cl C s0 H0 fp pn,PD (Cx.comp X sc (x::N) cl C s0 H0 fp pn) Z0 bA te)
  (hsw:swapsWith (.ListComp bA [⟨.Name x px,aY,ifs,0⟩] sc pos) (some (.Name y py)) spos.line X.env=pure true:=by rfl)
  (hs:∀y,foldedSetIterable aY X.env y=pure y:=by intro _;rfl):PDS X Z (.Assign [.Name y py] (.ListComp bA [⟨.Name x px,aY,ifs,0⟩] sc pos) spos) (SR i (XB caps tl tc te)):=by
 subst har;exact YY (GH hc cs hN hnd (tc:=upT X.K Z0 tc) (te:=up X.K Z0 te) (Jl hl) ht he hNd hy hlo hsw hs) λF σ H h=>Ig (λ_ h=>GY h) h
theorem Ng {ta:TDA}{tc:TDT}{te:TDE}{a:Expr}{p aT:Pos}{i:Nat}{y:Str}{py spos:Pos}(har:X.env.scope=ar)(hc:X.calm=true)(cs:WQ sc ar x N)(hN:caps.map (λi=>X.N[i]?)=N.map some)(hnd:(x::N).Nodup)(hNd:X.N.Nodup)(hy:X.N[i]?=some y)
  (hlo:ar.names.lookup y=some .local)(hg:Gl X "range")(hm:X.mg "range"=none)(ha:PDA X Z [a] ta)
  (ht:∀cl C s0 H0 fp pn,Tx (Cx.comp X sc (x::N) cl C s0 H0 fp pn) ifs tc)(he:∀cl C s0 H0 fp pn,PD (Cx.comp X sc (x::N) cl C s0 H0 fp pn) Z0 bA te)
  (hsw:swapsWith (.ListComp bA [⟨.Name x px,.Call (.Name "range" p) [a] [] aT,ifs,0⟩] sc pos) (some (.Name y py)) spos.line X.env=pure true:=by rfl)
  (hs:∀y,foldedSetIterable (.Call (.Name "range" p) [a] [] aT) X.env y=pure y:=by intro _;rfl)(hst:starEach [a] X.env=[(false,eval a X.env)]:=by rfl):
  PDS X Z (.Assign [.Name y py] (.ListComp bA [⟨.Name x px,.Call (.Name "range" p) [a] [] aT,ifs,0⟩] sc pos) spos) (SR i (WI caps ta tc te)):=by
 subst har;exact YY (GH hc cs hN hnd (tc:=upT X.K Z0 tc) (te:=up X.K Z0 te) (IH hg hm ha hst) ht he hNd hy hlo hsw hs) λF σ H h=>Ig (λ_ h=>GI h) h
@[irreducible] def UD (to te:TDE):TDE:=λdl S Q=>to dl S λx S1=>match x with
 | .ref n=>match S1[n]? with
  | some (.lst _)=>te dl S1 λy S2=>match S2[n]? with
   | some (.lst xs)=>if xs.length<1000 then Q .non (S2.set n (.lst (xs++[y]))) else False
   | _=>False
  | _=>False
 | _=>False
theorem YX (ho:PD X Z o to)(he:PD X Z e te)(hbase:attributeBase o "append" X.env (eval o X.env)=eval o X.env:=by rfl)(hfew:((backTo aO (starEach [e] X.env)).all (λx=>!x.1)&&(backToKw aO (keywordEach [] X.env)).all (λx=>x.1.isSome)
  &&decide (([e]:List Expr).length+([]:List Keyword).length+(if ([]:List Keyword).isEmpty then 0 else 1)<30))=true:=by rfl)(hline:(aQ.endLine==aO.line)=true:=by rfl)(hst:starEach [e] X.env=[(false,eval e X.env)]:=by rfl):
  PD X Z (.Call (.Attribute o "append" aQ) [e] [] aO) (UD to te):=
 Yp (ND PySem.F.plainAttrs_list PySem.F.slot_list_append PySem.F.type_list_append KS ho (Jp he ID hst) hbase hfew hline hst rfl) λσ H Qv h=>by
  obtain⟨r,dl,S,Q,rs,bD,h,ret⟩:=h;unfold UD at h;refine⟨r,dl,S,_,rs,bD,h,λv H1 r1 d S1 x1 aF p1 h1=>?_⟩;cases p1 with
  | @ref n a hn=>
   dsimp only at h1;split at h1
   ·rename_i xs0 e0;obtain⟨a',ha,ob⟩:=aF.at e0;rw[hn] at ha;cases ha
    obtain⟨ys,hH,_⟩:=ob;refine⟨.inl ⟨rfl,ys,SqL.of hH⟩,r1,dl,S1,_,rs.ext x1,aF,h1,λv2 H2 r2 d2 S2 x2 aG p2 h2=>?_⟩;split at h2
    ·rename_i xs1 e1;obtain⟨hlt,h2⟩:=PM h2;have ha2:=x2.adr n a hn;obtain⟨zs,hH2,pz⟩:=aG.b.ob n a _ ha2 e1;obtain⟨aH,x3⟩:=aG.set ha2 e1 (pz.snoc p2);exact⟨a,zs,v2,rfl,rfl,hH2,by rw[<- pz.1];exact Qy (yX hlt),ret .non _ r2 .non _ (x1.trans (x2.trans x3)) aH .non h2⟩
    ·exact h2.elim
   ·exact h1.elim
  | _=>exact(show False from h1).elim
def Rh:WC:=λds S Q=>match ds with
 | [.tup xs]=>Q (.ref S.length) (S++[.lst xs])
 | [.ref n]=>match lAt S n with
  | some o=>Q (.ref S.length) (S++[.lst (Zq o)])
  | none=>False
 | _=>False
theorem Wx:Yq X (.type "list") (upC X.K Z Rh):=PN Bv λxs H Qv ⟨r,S,ds,Q,bD,ps,q,ret⟩=>by
 unfold Rh at q;split at q
 ·rename_i ys;obtain⟨v,vs,rfl,p1,p2⟩:=ps.uncons;have z:=p2.unnil;subst z;obtain⟨a,zs,rfl,h1,h2⟩:=p1.untup;refine⟨a,zs,rfl,.inr (SqT.of h1),λl hl=>?_⟩;obtain⟨aG,x⟩:=bD.push hl h2;exact ret _ _ _ (.ref S.length) _ x aG (W7 bD.len) q
 ·rename_i n;obtain⟨v,vs,rfl,p1,p2⟩:=ps.uncons;have z:=p2.unnil;subst z;split at q
  ·rename_i o eo;obtain⟨eo,eL⟩:=YF eo;obtain⟨a,ha,ob⟩:=bD.at eo;cases p1 with
   | ref h1=>
    rw[h1] at ha;cases ha
    obtain⟨ys,sq,pr⟩:=ob.list eL;refine⟨_,ys,rfl,.inl sq,λl hl=>?_⟩;obtain⟨aG,x⟩:=bD.push hl pr;exact ret _ _ _ (.ref S.length) _ x aG (W7 bD.len) q
  ·exact q.elim
 ·exact q.elim
def Y1:List D->Option (List Bool)
 | []=>some []
 | .bl b::r=>(Y1 r).map (b::·)
 | _::_=>none
def Sf (g:List Bool->Bool):WC:=λds S Q=>match ds with
 | [.ref n]=>match lAt S n with
  | some o=>match Y1 (Zq o) with
   | some bs=>Q (.bl (g bs)) S
   | none=>False
  | none=>False
 | _=>False
theorem Fl {r:List Addr}{H:Hp}:∀ {ds:List D} {bs:List Bool} {vs:List V} {us:List Value},Y1 ds=some bs->Rps r H ds vs->ZF vs us->us=bs.map Value.bool
 | [],bs,vs,us,e,p,q=>by
  have z:=p.unnil;subst z;cases q;simp[Y1] at e;subst e;rfl
 | d::ds,bs,vs,us,e,p,q=>by
  obtain⟨v,vs',rfl,p1,p2⟩:=p.uncons;cases d with
  | bl b=>
   cases p1;cases q with
   | cons q1 q2=>
    have q1':_=Value.bool b:=q1;subst q1';simp only[Y1,zQ] at e;obtain⟨ms,e1,rfl⟩:=e;rw[Fl e1 p2 q2];rfl
  | _=>simp[Y1] at e
theorem ET {bs:List Bool}:(List.range bs.length).all (λi=>bs.getD i false)=bs.all id:=by
 rw[xN];rw[yZ,yZ];refine⟨λh b hb=>?_,λh i hi=>?_⟩
 ·obtain⟨i,hi,e⟩:=yV.mp hb;have hb':=h i (List.mem_range.mpr hi);simpa [hi,e] using hb'
 ·have hi':i<bs.length:=List.mem_range.mp hi
  have:=h bs[i] (yA hi');simpa [hi'] using this
theorem Be {prog:Program}{w:World}{A:Around}{bs:List Bool}:TruthOf prog w A (λi v=>(bs.map Value.bool).toArray[i]?=some v) λi=>bs.getD i false:=λi v s Q E hP hQ=>by
  have e:(bs.map Value.bool)[i]?=some v:=by simpa using hP
  rw[zG] at e;cases q:bs[i]? with
  | none=>
   rw[q] at e;cases e
  | some b=>
    rw[q] at e;have z:Value.bool b=v:=by simpa using e
    subst z;have z2:bs.getD i false=b:=by simp[zK,q]
    have hQ':Q (bs.getD i false) s:=hQ;rw[z2] at hQ';exact wpAny_truthy_bool hQ'
theorem zaG {n:Nat}{a:Addr}{o:Ob}{bs:List Bool}{aA:LA}{σ:St}{H:Hp}{s:Shared}{r:List Addr}{S:Sto}{Q:DK}{Qv:VK}{E:Value->Shared->Prop}{g:List Bool->Bool}(G:List Nat->(Nat->Bool)->Bool)
  (hG:G (List.range bs.length) (λi=>bs.getD i false)=g bs)(hc:X.calm=true)(I:Inv X aA σ H s)(bD:Rel X.K Z r S H)(hn:r[n]?=some a)(eo:lAt S n=some o)(eb:Y1 (Zq o)=some bs)(q:Q (.bl (g bs)) S)(ret:Ret X.K Z r H Q Qv):
  wpAny (model X.prog X.w) X.A.in1 (pyIter (.ref a)) (λit s₂=>∃I fp wr n P' St tr,it=.ref I/\Walks X.prog X.w X.A.in1 I fp wr n P' St/\St 0 s₂.heap/\TruthOf X.prog X.w X.A.in1 P' tr/\
   ∀h' tk,(∀b o,b ∉ wr->s₂.heap.get? b=some o->h'.get? b=some o)->EP X aA σ Qv (.bool (G (List.range n) tr)) { s₂ with heap:=h',toks:=tk }) E s:=by
 obtain⟨eo,eL⟩:=YF eo;obtain⟨a',ha,ob⟩:=bD.at eo;rw[hn] at ha;cases ha
 obtain⟨ys,sq,pr⟩:=ob.list eL;obtain⟨bB,ri,pl,hz⟩:=I.list sq;have eits:=Fl eb pr ri;subst eits;refine wpAny_pyIter_list pl.isList ?_;have hne:a≠s.heap.objs.size:=zV (by
  obtain⟨ob,e,_⟩:=pl.isList;exact Heap.lt_size e)
 refine⟨s.heap.objs.size,_,_,_,_,_,λi=>bs.getD i false,rfl,Walks.list (show X.A.in1.handled=none from I.ok.hd hc) _ a hne (bs.map Value.bool).toArray,⟨⟨_,Heap.get?_push_size _ rfl,rfl,rfl⟩,pl.isList.at λo e=>Heap.get?_push_of_some _ e⟩,Be,λh' tk hk=>?_⟩;have ez:(bs.map Value.bool).toArray.size=bs.length:=by simp
 rw[ez,hG];refine⟨.bl (g bs),H,I.kept λb o e=>hk b o (λz=>?_) (Heap.get?_push_of_some _ e),rfl,ret _ _ _ _ _ Ext.refl bD (.bl _) q⟩;have z':b=s.heap.objs.size:=by simpa using z
 exact absurd (z' ▸ Heap.lt_size e) (yH _)
theorem AW {id:String}{g:List Bool->Bool}(rule:∀(aA:LA)(σ:St)(H:Hp)(s:Shared)(r:List Addr)(S:Sto)(Q:DK)(Qv:VK)(n:Nat)(a:Addr)(o:Ob)(bs:List Bool),Inv X aA σ H s->Rel X.K Z r S H->r[n]?=some a->lAt S n=some o->Y1 (Zq o)=some bs->
   Q (.bl (g bs)) S->Ret X.K Z r H Q Qv->wpAny (model X.prog X.w) X.A (call (.builtin id) [.ref a]) (EP X aA σ Qv) X.xe s):Yq X (.builtin id) (upC X.K Z (Sf g)):=by
 intro aA s σ H xs us Qv I rv h;obtain⟨r,S,ds,Q,bD,ps,q,ret⟩:=h;unfold Sf at q;split at q
 ·rename_i n;obtain⟨v,vs,rfl,p1,p2⟩:=ps.uncons;have z:=p2.unnil;subst z;split at q
  ·rename_i o eo;split at q
   ·rename_i bs eb;cases p1 with
    | ref h1=>
     obtain⟨u,rfl,ru⟩:=X3 rv;cases ru;exact rule aA σ H s r S Q Qv n _ o bs I bD h1 eo eb q ret
   ·exact q.elim
  ·exact q.elim
 ·exact q.elim
theorem UX (hc:X.calm=true):Yq X (.builtin "all") (upC X.K Z (Sf λbs=>bs.all id)):=
 AW λ_ _ _ _ _ _ _ _ _ _ _ _ I bD h1 eo eb q ret=>call_all_walk (zaG (g:=λbs=>bs.all id) (λl f=>l.all f) ET hc I bD h1 eo eb q ret)
@[irreducible] def irr (w:WC):WC:=w
@[irreducible] def YH (w:W2):W2:=w
theorem WU (w:WC):irr w=w:=by unfold irr;rfl
theorem XA (w:W2):YH w=w:=by unfold YH;rfl
theorem ZI (h:Yq X f (upC X.K Z w)):Yq X f (upC X.K Z (irr w)):=by rw[WU];exact h
theorem zaa (ha:PD X Z a ta)(hb:PD X Z b tb)(hs:Qh b):PD X Z (.Subscript a b pos) (dOp (YH wIx) ta tb):=by rw[XA];exact Fv ha hb hs
theorem Zz {a b:Expr}{ta tb:TDE}(ha:PD X Z a ta)(hb:PD X Z b tb)(hs:Qh b:=by exact λ_ _=>rfl):PD X Z (.Subscript a b pos) (dOp (YH wIx) ta tb):=zaa ha hb hs
theorem Zy (S:Sto)(o:Ob):(S++[o])[S.length]?=some o:=by simp
theorem Ua {S:Sto}{o u:Ob}{n:Nat}(h:S[n]?=some o):(S++[u])[n]?=some o:=by
 rw[zP (zF.mp h).1];exact h
theorem XN {tl te:TDE}{dl:Ev}{S S1:Sto}{Q:DK}{n:Nat}{o:Ob}(g:D->D)(htl:∀K:DK,K (.ref n) S1->tl dl S K)(h1:S1[n]?=some o)(hl:(Zq o).length<=1000)
  (ht:∀x∈Zq o,∀(S2:Sto)(K:DK),Pre S1 S2->K (g x) S2->te (some x::YS caps dl) S2 K)(hq:Q (.ref S1.length) (S1++[.lst ((Zq o).map g)]))(hL:Y9 o=some o:=by rfl):XB caps tl Xu te dl S Q:=by
 unfold XB;refine htl _ ⟨by rw[ZS h1 hL];rfl,λk m S2=>S2=S1++[.lst (((Zq o).take k).map g)]/\m+k=(Zq o).length,⟨(Zq o).length,by simp,by omega⟩,?_⟩;rintro k m S2 ⟨rfl,hm⟩;rw[ZS (Ua h1) hL];dsimp only;split
 ·rename_i x hx;have hk:k<(Zq o).length:=(zF.mp hx).1;unfold WO Xu;simp only[if_true];refine ht x (zL hx) _ _ Pre.refl.push ?_;rw[Zy];refine⟨by simp;omega,m-1,by omega,?_,by omega⟩;have e:(Zq o).take (k+1)=(Zq o).take k++[x]:=by rw[xF,hx];rfl
  rw[e,yC,List.set_append_right _ _ (zD _)];simp
 ·rename_i hx;have hk:(Zq o).length<=k:=xE.mp hx;rw[zY hk];exact hq
theorem zaV (h:Y1 (Zq o)=some bs):Y9 o=some o:=by
 cases o<;>first|rfl|cases h
theorem Gn (h:Xz (Zq o)=some xs):Y9 o=some o:=by
 cases o<;>first|rfl|cases h
theorem V4 (h:S[n]?=some o)(hb:Y1 (Zq o)=some bs)(hq:Q (.bl (g bs)) S):irr (Sf g) [.ref n] S Q:=by
 rw[WU];unfold Sf;simp only[ZS h (zaV hb),hb];exact hq
theorem Vp (h:S[n]?=some o)(hb:Xz (Zq o)=some xs)(hne:xs≠[])(hq:∀m,m∈xs->(∀y∈xs,le y m)->Q (.int m) S):irr (Tg le two) [.ref n] S Q:=by
 rw[WU];unfold Tg;simp only[ZS h (Gn hb),hb];exact⟨hne,hq⟩
theorem Vf (h:lAt S n=some o)(hq:Q (.ref S.length) (S++[.lst (Zq o)])):irr Rh [.ref n] S Q:=by
 rw[WU];unfold Rh;simp only[h];exact hq
theorem X9 {to te:TDE}{dl:Ev}{S S1:Sto}{Q:DK}{n:Nat}{xs:List D}{y:D}(hto:∀K:DK,K (.ref n) S1->to dl S K)(h:S1[n]?=some (.lst xs))(hte:∀K:DK,K y S1->te dl S1 K)(hl:xs.length<1000)(hq:Q .non (S1.set n (.lst (xs++[y])))):UD to te dl S Q:=by
 unfold UD;refine hto _ ?_;simp only[h];refine hte _ ?_;simp only[h];exact ifP hl hq
end
theorem Vm:Sco n (.tup [.int x,.int y]):=.tup λd hd=>by
 have z:d=.int x\/d=.int y:=by simpa using hd
 rcases z with rfl|rfl<;>exact .int _
open PySem PySem.Spec PyProof.Rows L2 PySem.W Builtin Builtin.ObjectAttr Builtin.Getset_descriptor
structure Nx (K:Frag)(D:Addr):Prop where
 ga:findIn K (.ref D) "__getattribute__"=some (some (.builtin "BaseException.__getattribute__"))
 hk:findIn K (.ref D) "__getattr__"=some none
 ha:findIn K (.ref D) "__class__"=some (some (.builtin "object.__class__"))
 hn:specialIn K (.builtin "object.__class__") "__get__"=some (some (.builtin "getset_descriptor.__get__"))
 ht:takesIn K (.builtin "object.__class__")=some true
 hm:mroIn K D (.type "object")=some true
 hb:mroIn K D (.type "BaseException")=some true
section
variable {X:Cx}{Z:Zx}
end
def eqN:Nat->D->D->Option Bool
 | 0=>eqF
 | k+1=>eqT (eqN k)
theorem F5:∀k,UE (eqN k)
 | 0=>U4
 | k+1=>GC (F5 k)
theorem V5:∀k,Vk k (eqN k)
 | 0=>Oj 0
 | k+1=>GO (V5 k) (F5 k)
def Vt (k:Nat)(S:Sto):D->D->Option Bool
 | .ref n,.ref m=>match lAt S n,lAt S m with
  | some o,some o'=>eqL (eqN k) (Zq o) (Zq o')
  | _,_=>none
 | x,y=>eqN (k+1) x y
def V7 (k:Nat):W2:=λx y S Q=>match Vt k S x y with
 | some b=>Q (.bl b) S
 | none=>False
def VX (k:Nat):W2:=λx y S Q=>match Vt k S x y with
 | some b=>Q (.bl (!b)) S
 | none=>False
section
variable {X:Cx}{Z:Zx}
theorem Cr (I:Inv X aA σ H s)(bD:Rel X.K Z r S H)(hn:r[n]?=some a)(hm:r[m]?=some a')(eo:lAt S n=some o)(eo':lAt S m=some o')(e:eqL (eqN k) (Zq o) (Zq o')=some b)(hu:X.A.units+1+k<cLine):SeqAt.RcAt X.A s (.ref a) (.ref a') b:=by
 obtain⟨eo,eL⟩:=YF eo;obtain⟨eo',eL'⟩:=YF eo';obtain⟨z,hz,ob⟩:=bD.at eo;rw[hn] at hz;cases hz
 obtain⟨z,hz,ob'⟩:=bD.at eo';rw[hm] at hz;cases hz
 obtain⟨xs,sq,pr⟩:=ob.list eL;obtain⟨ys,sq',pr'⟩:=ob'.list eL';obtain⟨is,ri,pl,_⟩:=I.list sq;obtain⟨js,rj,pl',_⟩:=I.list sq';obtain⟨g1,g2⟩:=RT (A:=X.A.in1) (V5 k) I (by show X.A.units+1+k<_;omega) pr pr' ri rj e;by_cases hs:is.toArray.size=js.toArray.size
 ·have q:=SeqAt.RcAt.lists (A:=X.A) pl.isList pl'.isList hs (by omega) g1
  have e2:(List.range is.toArray.size).all (X7 (eqN k) (Zq o) (Zq o'))=b:=by
   rw[<- g2,<- hs,Nat.min_self];simp
  rw[e2] at q;exact q
 ·have q:=SeqAt.RcAt.lists_lengths (A:=X.A) pl.isList pl'.isList (by simpa using hs) (by omega)
  have e2:b=false:=by
   rw[<- g2,show (is.toArray.size==js.toArray.size)=false by simpa using hs,Bool.and_false]
  rw[e2];exact q
theorem Dx (k:Nat)(hr:Z5 j X.A)(hu:X.A.units+1+k<cLine):OpR X (compareOp .Eq) (upO X.K Z (V7 k)):=by
 intro aA s σ H x y v u Qv I rx ry h;obtain⟨r,S,dx,dy,Q,bD,px,py,q,ret⟩:=h;have flat:∀ {dx dy:D} {x y:V},Rp r H dx x->Rp r H dy y->ZG x v->ZG y u->Vt k S dx dy=eqN (k+1) dx dy->V7 k dx dy S Q->wpAny (model X.prog X.w) X.A (compareOp .Eq v u) (EP X aA σ Qv) X.xe s:=λpx py rx ry e q=>by
  refine HC (Z:=Z) (V5 k) hu aA s σ H _ _ v u Qv I rx ry ⟨r,S,_,_,Q,bD,px,py,?_,ret⟩;unfold V7 at q;rw[e] at q;exact q
 cases px with
 | @ref n a hn=>
  cases py with
  | @ref m a' hm=>
   cases rx;cases ry;unfold V7 Vt at q;dsimp only at q;split at q
   ·rename_i b e;split at e
    ·rename_i o o' eo eo';exact Cr I bD hn hm eo eo' e hu X.prog X.w X.xe _ ⟨.bl b,H,I,rfl,ret _ _ _ _ _ Ext.refl bD (.bl b) q⟩
    ·cases e
   ·exact q.elim
  | non=>exact flat (.ref hn) .non rx ry rfl q
  | bl i=>exact flat (.ref hn) (.bl i) rx ry rfl q
  | int i=>exact flat (.ref hn) (.int i) rx ry rfl q
  | str i=>exact flat (.ref hn) (.str i) rx ry rfl q
  | tup a b c=>exact flat (.ref hn) (.tup a b c) rx ry rfl q
  | exc a=>exact flat (.ref hn) (.exc a) rx ry rfl q
 | non=>exact flat .non py rx ry rfl q
 | bl i=>exact flat (.bl i) py rx ry rfl q
 | int i=>exact flat (.int i) py rx ry rfl q
 | str i=>exact flat (.str i) py rx ry rfl q
 | tup a b c=>exact flat (.tup a b c) py rx ry rfl q
 | exc a=>exact flat (.exc a) py rx ry rfl q
def YI (f:D->D->Option Bool):List D->D->Option Bool
 | [],_=>some false
 | y::ys,x=>match f y x,YI f ys x with
  | some b,some c=>some (b||c)
  | _,_=>none
def wIn (k:Nat)(neg:Bool):W2:=λx y S Q=>match y with
 | .ref n=>match lAt S n with
  | some o=>match YI (eqN k) (Zq o) x with
   | some b=>Q (.bl (if neg then !b else b)) S
   | none=>False
  | none=>False
 | _=>False
theorem GQ (h:ZG v u)(h':ZG v' u):v=v':=by
 cases v<;>cases v'<;>simp[L2.ZG] at h h'<;>first
  | rfl
  | (subst h;simp at h';subst h';rfl)
  | (obtain⟨t,rfl⟩:=h;simp at h';subst h';rfl)
  | (obtain⟨t,rfl⟩:=h;simp at h')
  | (subst h;simp at h')
  | skip
theorem QT (p:Rp r H d v)(p':Rp r H d' v)(e:eqF d x=some b)(e':eqF d' x=some b'):b=b':=by
 have z:d=d':=by
  cases p<;>cases p'<;>first
   | rfl
   | (cases x<;>simp[eqF] at e)
   | (cases x<;>simp[eqF] at e')
 subst z;rw[e] at e';exact Option.some.inj e'
theorem HE (hf:∀(d d' x:D)(v:V)(b b':Bool),Rp r H d v->Rp r H d' v->f d x=some b->f d' x=some b'->b=b'):
  ∀ {ds ds' zs:List D} {vs:List V} {b b':Bool},Rps r H ds vs->Rps r H ds' vs->eqL f ds zs=some b->eqL f ds' zs=some b'->b=b'
 | [],ds',zs,vs,b,b',p,p',e,e'=>by
  have z:=p.unnil;subst z;cases ds' with
  | nil=>rw[e] at e';exact Option.some.inj e'
  | cons y ys=>exact absurd p'.1 (by simp)
 | d::ds,ds',zs,vs,b,b',p,p',e,e'=>by
  obtain⟨v,vs',rfl,p1,p2⟩:=p.uncons;cases ds' with
  | nil=>exact absurd p'.1 (by simp)
  | cons d' ds'=>
   obtain⟨q1,q2⟩:=p'.tail;cases zs with
   | nil=>
    simp only[eqL,Option.some.injEq] at e e';exact e.symm.trans e'
   | cons z zs=>
    unfold eqL at e e';split at e
    ·rename_i b1 c1 a1 a2;split at e'
     ·rename_i b2 c2 a3 a4;have h1:=hf d d' z v b1 b2 p1 q1 a1 a3
      have h2:=HE hf p2 q2 a2 a4;subst h1 h2;simp only[Option.some.injEq] at e e';exact e.symm.trans e'
     ·cases e'
    ·cases e
theorem Jy:∀(k:Nat) {r:List Addr} {H:Hp} (d d' x:D) (v:V) (b b':Bool),Rp r H d v->Rp r H d' v->eqN k d x=some b->eqN k d' x=some b'->b=b'
 | 0,r,H,d,d',x,v,b,b',p,p',e,e'=>QT p p' e e'
 | k+1,r,H,d,d',x,v,b,b',p,p',e,e'=>by
  cases p with
  | tup h1 l1 f1=>
   cases p' with
   | tup h2 l2 f2=>
    rw[h1] at h2;cases h2
    cases x with
    | tup zs=>exact HE (λd d' x v b b'=>Jy k d d' x v b b') ⟨l1,f1⟩ ⟨l2,f2⟩ e e'
    | _=>simp[eqN,eqT,eqF] at e
   | ref h=>cases x<;>simp[eqN,eqT,eqF] at e'
   | exc h=>cases x<;>simp[eqN,eqT,eqF] at e'
  | non=>exact QT (x:=x) .non p' (by cases x<;>exact e) (by cases p'<;>cases x<;>exact e')
  | bl i=>exact QT (x:=x) (.bl i) p' (by cases x<;>exact e) (by cases p'<;>cases x<;>exact e')
  | int i=>exact QT (x:=x) (.int i) p' (by cases x<;>exact e) (by cases p'<;>cases x<;>exact e')
  | str i=>exact QT (x:=x) (.str i) p' (by cases x<;>exact e) (by cases p'<;>cases x<;>exact e')
  | ref h=>cases x<;>simp[eqN,eqT,eqF] at e
  | exc h=>cases x<;>simp[eqN,eqT,eqF] at e
theorem Gz:∀ {ys:List D} {b:Bool},YI f ys x=some b->(∀y∈ys,∃c,f y x=some c)/\(b=true↔∃y∈ys,f y x=some true)
 | [],b,e=>by
  simp only[YI,Option.some.injEq] at e;subst e;simp
 | y::ys,b,e=>by
  unfold YI at e;split at e
  ·rename_i b1 c1 e1 e2;obtain⟨h1,h2⟩:=Gz e2;simp only[Option.some.injEq] at e;subst e;refine⟨λz hz=>?_,?_⟩
   ·rcases zS.mp hz with rfl|hz'
    ·exact⟨b1,e1⟩
    ·exact h1 z hz'
   ·rw[Bool.or_eq_true,h2];refine⟨λq=>?_,λ⟨z,hz,q⟩=>?_⟩
    ·rcases q with q|⟨z,hz,q⟩
     ·exact⟨y,xC,by rw[e1,q]⟩
     ·exact⟨z,yR _ hz,q⟩
    ·rcases zS.mp hz with rfl|hz'
     ·left
      rw[e1] at q;exact Option.some.inj q
     ·exact .inr ⟨z,hz',q⟩
  ·cases e
theorem Q6 (I:Inv X aA σ H s)(hu:A.units+k<cLine)(p:Rps r H ds vs)(rv:ZF vs us)(px:Rp r H dx x)(rx:ZG x u)(e:YI (eqN k) ds dx=some b):∃g:Value->Bool,(∀y,y∈us.toArray->SeqAt.EqAt A s y u (g y))/\us.toArray.any g=b:=by
 obtain⟨h1,h2⟩:=Gz e;have at_:∀y∈us,∃d v,d∈ds/\Rp r H d v/\ZG v y:=λy hy=>by
  obtain⟨j,hj,ej⟩:=yV.mp hy;have hv:j<vs.length:=by rw[rv.length];exact hj
  have gv:vs[j]?=some vs[j]:=by simp[hv]
  obtain⟨w,gw,rw'⟩:=rv.get gv;obtain⟨d,gd,pd⟩:=p.get' gv;have ew:w=y:=by
   rw[zC hj,ej] at gw;exact(Option.some.inj gw).symm
  subst ew;exact⟨d,_,zL gd,pd,rw'⟩
 classical
 refine⟨λy=>decide (∃d v,d∈ds/\Rp r H d v/\ZG v y/\eqN k d dx=some true),λy hy=>?_,?_⟩
 ·obtain⟨d,v,hd,pd,rd⟩:=at_ y (by simpa using hy);obtain⟨c,hc⟩:=h1 d hd;have same:decide (∃d v,d∈ds/\Rp r H d v/\ZG v y/\eqN k d dx=some true)=c:=by
   cases c with
   | true=>exact decide_eq_true ⟨d,v,hd,pd,rd,hc⟩
   | false=>
    refine decide_eq_false λ⟨d',v',_,pd',rd',hc'⟩=>?_
    have ev:=GQ rd rd';subst ev;exact absurd (Jy k d d' dx v false true pd pd' hc hc') (by decide)
  show SeqAt.EqAt A s y u (decide _);rw[same];exact V5 k X aA σ H s r A d dx v x y u c I hu pd px rd rx hc
 ·rw[xN,h2,List.any_toArray,List.any_eq_true];refine⟨λ⟨y,hy,q⟩=>?_,λ⟨d,hd,q⟩=>?_⟩
  ·obtain⟨d,v,hd,_,_,q'⟩:=of_decide_eq_true q;exact⟨d,hd,q'⟩
  ·obtain⟨j,hj,ej⟩:=yV.mp hd;have gd:ds[j]?=some d:=by simp[hj,ej]
   obtain⟨v,gv,pv⟩:=p.get gd;obtain⟨w,gw,rw'⟩:=rv.get gv;exact⟨w,zL gw,decide_eq_true ⟨d,v,hd,pv,rw',q⟩⟩
theorem do_in (k:Nat)(hu:X.A.units+1+k<cLine):OpR X (compareOp .In) (upO X.K Z (wIn k false)):=by
 intro aA s σ H x y v u Qv I rx ry h;obtain⟨r,S,dx,dy,Q,bD,px,py,q,ret⟩:=h;cases py with
 | @ref n a hn=>
  unfold wIn at q;dsimp only at q;split at q
  ·rename_i o eo;split at q
   ·rename_i b eb;cases ry;obtain⟨eo,eL⟩:=YF eo;obtain⟨a',ha,ob⟩:=bD.at eo;rw[hn] at ha;cases ha
    obtain⟨ys,sq,pr⟩:=ob.list eL;obtain⟨us,ru,pl,_⟩:=I.list sq;obtain⟨g,g1,g2⟩:=Q6 (A:=X.A.in1) I (by show X.A.units+1+k<_;omega) pr ru px rx eb;refine SeqAt.in_listAt g pl.isList g1 ?_;rw[g2];exact⟨.bl b,H,I,rfl,ret _ _ _ _ _ Ext.refl bD (.bl b) q⟩
   ·exact q.elim
  ·exact q.elim
 | _=>exact(show False from q).elim
theorem Cu (k:Nat)(hu:X.A.units+1+k<cLine):OpR X (compareOp .NotIn) (upO X.K Z (wIn k true)):=by
 intro aA s σ H x y v u Qv I rx ry h;obtain⟨r,S,dx,dy,Q,bD,px,py,q,ret⟩:=h;cases py with
 | @ref n a hn=>
  unfold wIn at q;dsimp only at q;split at q
  ·rename_i o eo;split at q
   ·rename_i b eb;cases ry;obtain⟨eo,eL⟩:=YF eo;obtain⟨a',ha,ob⟩:=bD.at eo;rw[hn] at ha;cases ha
    obtain⟨ys,sq,pr⟩:=ob.list eL;obtain⟨us,ru,pl,_⟩:=I.list sq;obtain⟨g,g1,g2⟩:=Q6 (A:=X.A.in1) I (by show X.A.units+1+k<_;omega) pr ru px rx eb;refine SeqAt.notIn_listAt g pl.isList g1 ?_;rw[g2];exact⟨.bl (!b),H,I,rfl,ret _ _ _ _ _ Ext.refl bD (.bl (!b)) q⟩
   ·exact q.elim
  ·exact q.elim
 | _=>exact(show False from q).elim
end
section
variable {X:Cx}{Z:Zx}{pos:Pos}
def Uu:List Nat->List D->Ev->Ev
 | i::is,d::ds,dl=>Uu is ds (dl.set i (some d))
 | _,_,dl=>dl
def Po:List Nat->List V->St->St
 | i::is,v::vs,σ=>Po is vs (σ.set i (some v))
 | _,_,σ=>σ
theorem JM {r:List Addr}{H:Hp}:∀ {is:List Nat} {ds:List D} {vs:List V} {dl:Ev} {σ:St},Rs r H dl σ->Rps r H ds vs->Rs r H (Uu is ds dl) (Po is vs σ)
 | [],ds,vs,dl,σ,h,p=>by cases ds<;>cases vs<;>exact h
 | i::is,[],vs,dl,σ,h,p=>by
  have z:=p.unnil;subst z;exact h
 | i::is,d::ds,vs,dl,σ,h,p=>by
  obtain⟨v,vs',rfl,p1,p2⟩:=p.uncons;show Rs r H (Uu is ds (dl.set i (some d))) (Po is vs' (σ.set i (some v)));exact JM (Rs.set i h p1) p2
inductive Nms (X:Cx):List Expr->List Nat->Prop
 | nil:Nms X [] []
 | cons {x:Str} {p:Pos} {i:Nat} {es:List Expr} {is:List Nat}:X.N[i]?=some x->Loc X.env.scope x->(X.fn x=true\/X.env.scope.names.lookup x=some .local)->Nms X es is->Nms X (.Name x p::es) (i::is)
def Tq (is:List Nat):TGs:=λvs σ H Q=>vs.length=is.length/\Q (Po is vs σ) H
theorem TU (hN:X.N.Nodup):∀ {es:List Expr} {is:List Nat},Nms X es is->PGs X es (Tq is)
 | _,_,.nil=>λaA s σ H vs us Q I r h=>by
  obtain⟨e,h⟩:=h;have z:vs=[]:=by simpa using e
  subst z;exact Cw aA s σ H [] us Q I r ⟨rfl,h⟩
 | _,_,.cons (x:=x) (p:=p) (es:=es) (is:=is) h1 h2 h3 t=>λaA s σ H vs us Q I r h=>by
  obtain⟨e,h⟩:=h;cases vs with
  | nil=>simp at e
  | cons v vs=>exact B9 (R8 hN h1 h2 h3) (TU hN t) rfl aA s σ H (v::vs) us Q I r ⟨v,vs,rfl,by simpa using e,h⟩
def dSetT (is:List Nat)(te:TDE):TDS:=λE dl S=>te dl S λd S1=>match d with
 | .tup xs=>xs.length=is.length/\E.nx (Uu is xs dl) S1
 | _=>False
theorem zcw (hc:X.calm=true)(hN:X.N.Nodup)(hn:Nms X es is)(he:PD X Z e te)(aV:(assignEach es X.env).length=is.length:=by rfl)(hst:(assignEach es X.env).findIdx? (·.1)=none:=by rfl)(hs:swapsWithSole [.Tuple es k p] e pos.line X.env=pure false:=by rfl)(hw:swappedStores [.Tuple es k p] e X.env=pure none:=by rfl)(h1:(assignEach [.Tuple es k p] X.env).map (·.2)=[assign (.Tuple es k p) X.env]:=by rfl):PDS X Z (.Assign [.Tuple es k p] e pos) (dSetT is te):=
 YY (Hx he (QL hc (TU hN hn) aV hst) hs hw h1) λF σ H ⟨r,dl,S,E,rs,bD,h,ret⟩=>by
  refine⟨r,dl,S,_,rs,bD,h,λv H1 r1 d S1 x1 aF p1 q1=>?_⟩;cases p1 with
  | @tup ds xs a e1 l1 f1=>
   obtain⟨hl,q⟩:=q1;exact⟨a,xs,rfl,SqT.of e1,by rw[<- l1];exact hl,by rw[<- l1];exact hl,ret.nx _ H1 r1 _ S1 x1 (JM (rs.ext x1) ⟨l1,f1⟩) aF q⟩
  | _=>exact(show False from q1).elim
end
open PySem L2
theorem QP (S:Sto)(o u:Ob):(S++[o]).set S.length u=S++[u]:=by simp
section
variable {X:Cx}{Z:Zx}
end
section
variable {X:Cx}{Z:Zx}{pos:Pos}
end
section
variable {X:Cx}{Z:Zx}{bA aY:Expr}{x:Str}{px pos:Pos}{ifs:List Expr}{sc ar:Scope}{N:List Str}{caps:List Nat}
theorem Sk {ta:TDA}{te:TDE}{dl:Ev}{S S1:Sto}{Q:DK}{j:Int}(g:Nat->D)(hta:∀K:List D->Sto->Prop,K [.int j] S1->ta dl S K)(hj:0<=j/\j<=1000)
  (ht:∀k:Nat,k<j.toNat->∀(S2:Sto)(K:DK),Pre S1 S2->K (g k) S2->te (some (.int k)::YS caps dl) S2 K)(hq:Q (.ref S1.length) (S1++[.lst ((List.range j.toNat).map g)])):WI caps ta Xu te dl S Q:=by
 unfold WI;refine hta _ ⟨⟨by omega,by omega⟩,λk S2=>S2=S1++[.lst ((List.range k).map g)]/\k<=j.toNat,⟨by simp,by omega⟩,?_⟩;rintro k S2 ⟨rfl,hk⟩;split
 ·rename_i hk';unfold WO Xu;simp only[if_true];refine ht k hk' _ _ Pre.refl.push ?_;rw[Zy];refine⟨by simp;omega,?_,by omega⟩;rw[List.range_succ,yC,List.set_append_right _ _ (zD _)];simp
 ·have e:k=j.toNat:=by omega
  subst e;exact hq
end
section
variable {X:Cx}{Z:Zx}{pos:Pos}
def flat (zs:List Str):Str:=⟨(zs.flatMap λz=>z.cps.toList).toArray⟩
abbrev TDO:=Ev->Sto->(Option Int->Sto->Prop)->Prop
def upP (K:Fg)(Z:Zx)(t:TDO):TO:=λσ H Q=>∃(r:List Addr)(dl:Ev)(S:Sto)(Q':Option Int->Sto->Prop),Rs r H dl σ/\Rel K Z r S H/\t dl S Q'/\∀o H' r' S',Ext r r' H H'->Rel K Z r' S' H'->Q' o S'->Q o H'
def PDO (X:Cx)(Z:Zx)(e:Option Expr)(t:TDO):Prop:=PO X e (upP X.K Z t)
def zc0:TDO:=λ_ S Q=>Q none S
def dPart (t:TDE):TDO:=λdl S Q=>t dl S λd S1=>match d with
 | .int i=>Q (some i) S1
 | _=>False
theorem GD (h:PO X e t)(g:∀σ H Q,t' σ H Q->t σ H Q):PO X e t':=λaA s σ H Q I q=>h aA s σ H Q I (g σ H Q q)
theorem Gv:PDO X Z none zc0:=GD Eo λσ H Q ⟨r,dl,S,Q',rs,bD,h,ret⟩=>ret none H r S Ext.refl bD h
theorem FV (he:PD X Z e t):PDO X Z (some e) (dPart t):=GD (Ca he) λσ H Q ⟨r,dl,S,Q',rs,bD,h,ret⟩=>⟨r,dl,S,_,rs,bD,h,λv H1 r1 d S1 e1 aF p1 q1=>by
 cases p1 with
 | int i=>exact⟨i,rfl,ret (some i) H1 r1 S1 e1 aF q1⟩
 | _=>exact(show False from q1).elim⟩
end
section
variable {X:Cx}{Z:Zx}
end
section
variable {X:Cx}{Z:Zx}
end
theorem Zu (ho:S[n]?=some o)(hd:atI (Zq o) i=some d)(hq:Q d S)(hL:Y9 o=some o:=by rfl):YH wIx (.ref n) (.int i) S Q:=by
 rw[XA];unfold wIx;simp only[ZS ho hL,hd];exact hq
def UC (f:Str)(v:D):List (Str×D)->List (Str×D)
 | []=>[(f,v)]
 | p::r=>if p.1=f then (f,v)::r else p::UC f v r
theorem FR.lookup:∀ {fs:List (Str×D)} {fs':List (Str×V)},FR r H fs fs'->(∀d,fs.lookup f=some d->∃v,fs'.lookup f=some v/\Rp r H d v)/\(fs.lookup f=none->fs'.lookup f=none)
 | [],fs',h=>by
  have e:fs'=[]:=by
   have:=h.1;simpa using this.symm
  subst e;exact⟨λd z=>by simp at z,λ_=>rfl⟩
 | p::fs,[],h=>by
  have:=h.1;simp at this
 | p::fs,q::fs',h=>by
  obtain⟨h1,h2⟩:=h;simp only[yU,List.cons.injEq] at h1;obtain⟨p1,p2⟩:=h2.tail;obtain⟨i1,i2⟩:=FR.lookup (f:=f) (fs:=fs) (fs':=fs') ⟨h1.2,p2⟩;obtain⟨pk,pv⟩:=p;obtain⟨qk,qv⟩:=q;have ek:pk=qk:=h1.1;subst ek;by_cases z:f=pk
  ·subst z;simp only[List.lookup_cons_self];exact⟨λd hd=>⟨qv,rfl,by cases hd;exact p1⟩,λhd=>by cases hd⟩
  ·have zb:(f==pk)=false:=by simpa using z
   simp only[yE,zb];exact⟨i1,i2⟩
theorem FR.put (q:Rp r H d v):∀ {fs:List (Str×D)} {fs':List (Str×V)},FR r H fs fs'->FR r H (UC f d fs) (YQ f v fs')
 | [],fs',h=>by
  have e:fs'=[]:=by
   have:=h.1;simpa using this.symm
  subst e;exact⟨rfl,Rps.cons q Rps.nil⟩
 | p::fs,[],h=>by
  have:=h.1;simp at this
 | p::fs,p'::fs',h=>by
  obtain⟨h1,h2⟩:=h;simp only[yU,List.cons.injEq] at h1;obtain⟨p1,p2⟩:=h2.tail;have ih:=FR.put (f:=f) q (fs:=fs) (fs':=fs') ⟨h1.2,p2⟩;obtain⟨pk,pv⟩:=p;obtain⟨qk,qv⟩:=p';have ek:pk=qk:=h1.1;subst ek;unfold UC YQ;by_cases z:pk=f
  ·rw[if_pos z,if_pos z];exact⟨by simp[h1.2,z],Rps.cons q p2⟩
  ·rw[if_neg z,if_neg z];exact⟨by simp[ih.1],Rps.cons p1 ih.2⟩
section
variable {X:Cx}{Z:Zx}{pos:Pos}
def WL (C:Addr)(S:Sto):D->Option (Nat×List (Str×D))
 | .ref n=>match S[n]? with
  | some (.ins C' fs)=>if C'=C then some (n,fs) else none
  | _=>none
 | _=>none
theorem J8 (h:WL C S d=some (n,fs)):d=.ref n/\S[n]?=some (.ins C fs):=by
 unfold WL at h;split at h
 ·split at h
  ·rename_i m _ C' fs' e;split at h
   ·rename_i ec;subst ec;simp only[Option.some.injEq,Prod.mk.injEq] at h;obtain⟨rfl,rfl⟩:=h;exact⟨rfl,e⟩
   ·cases h
  ·cases h
 ·cases h
@[irreducible] def Nj (C:Addr)(f:Str)(to:TDE):TDE:=λdl S Q=>to dl S λd S1=>match WL C S1 d with
 | some (_,fs)=>match fs.lookup f with
  | some v=>Q v S1
  | none=>False
 | none=>False
theorem Yk (c:Cls X.K C)(n:YV X.K C f)(ho:PD X Z o to)(hb:attributeBase o f X.env (eval o X.env)=eval o X.env:=by rfl):PD X Z (.Attribute o f pos) (Nj C f to):=
 Yp (Dj ho hb) λσ H Qv ⟨r,dl,S,Q,rs,bD,h,ret⟩=>by unfold Nj at h;exact⟨r,dl,S,_,rs,bD,h,λv H1 r1 d S1 e1 aF p1 q1=>by
  split at q1
  ·rename_i m fs ei;obtain⟨rfl,eS⟩:=J8 ei;split at q1
   ·rename_i w ew;obtain⟨a,ha,ob⟩:=aF.at eS;obtain⟨dx,fs',eH,fr⟩:=ob;cases p1 with
    | ref hr=>
     rw[hr] at ha;cases ha
     obtain⟨u,hu,pu⟩:=fr.lookup.1 w ew;exact⟨a,C,dx,fs',u,rfl,eH,c,n,hu,ret u H1 r1 w S1 e1 aF pu q1⟩
   ·exact q1.elim
  ·exact q1.elim⟩
@[irreducible] def Pa (C:Addr)(f:Str)(to te:TDE):TDS:=λE dl S=>te dl S λv S1=>to dl S1 λd S2=>match WL C S2 d with
 | some (n,fs)=>fs.length<1000/\E.nx dl (S2.set n (.ins C (UC f v fs)))
 | none=>False
theorem Wn (c:Cls X.K C)(n:YV X.K C f)(ho:PD X Z o to)(he:PD X Z e te)(hs:swapsWith e (some (.Attribute o f p2)) pos.line X.env=pure false:=by rfl):PDS X Z (.Assign [.Attribute o f p2] e pos) (Pa C f to te):=
 YY (Cd ho he hs) λF σ H ⟨r,dl,S,E,rs,bD,h,ret⟩=>by unfold Pa at h;exact⟨r,dl,S,_,rs,bD,h,λv H1 r1 dv S1 e1 aF p1 q1=>⟨r1,dl,S1,_,rs.ext e1,aF,q1,λw H2 r2 d S2 e2 aG p2' q2=>by
  split at q2
  ·rename_i m fs ei;obtain⟨rfl,eS⟩:=J8 ei;obtain⟨hl,q2⟩:=q2;obtain⟨a,ha,ob⟩:=aG.at eS;obtain⟨dx,fs',eH,fr⟩:=id ob;cases p2' with
   | ref hr=>
    rw[hr] at ha;cases ha
    have aV:fs'.length=fs.length:=by
     have:=congrArg List.length fr.1;simpa using this.symm
    obtain⟨rb,x⟩:=aG.b.setO (o':=.ins C (UC f dv fs)) (u:=.ins C dx (YQ f v fs')) hr eS rfl rfl λx=>⟨dx,_,Xs,(fr.put (p1.ext e2)).ext x⟩
    exact⟨a,C,dx,fs',rfl,eH,c,n,by omega,ret.nx _ _ r2 _ _ (e1.trans (e2.trans x)) (rs.ext (e1.trans (e2.trans x))) ⟨rb,aG.xw.ext x⟩ q2⟩
  ·exact q2.elim⟩⟩
@[irreducible] def NC (C:Addr)(m:Str)(ex:Ev->Addr->Sto->Prop)(sd:Sd)(to:TDE)(t:TDA):TDE:=λdl S Q=>to dl S λd S1=>match WL C S1 d with
 | some (_,fs)=>fs.lookup m=none/\t dl S1 λds S2=>sd (d::ds) S2 Q (ex dl)
 | none=>False
theorem DB (he:PE X o ta)(c:Cls X.K C)(hm:UO X.K C m f)(F:YL X.prog X.w X.K X.mg X.base (CXE X.prog X.w) k f fd ps sp)(hr:Z5 k X.A)(hb:Xl X.K fd ps [])(hx:W4 X W)(ha:PA X (e::es) t)(hst:starEach (e::es) X.env=(false,eval e X.env)::starEach es X.env)(hpl:(backTo pos (starEach es X.env)).any (·.1)=false)(ht:eval (.Call (.Attribute o m aQ) (e::es) [] pos) X.env=(do
   let ov <- eval o X.env
   standAt aQ.atName
   let (f,first) <- holding [ov] (getMethod ov m pl)
   callWith pos f first (backTo pos (starEach (e::es) X.env)) (backToKw pos (keywordEach [] X.env)))):
  PE X (.Call (.Attribute o m aQ) (e::es) [] pos) (λσ H Q=>ta σ H λx H1=>∃a dx fs,x=.ref a/\H1 a=some (.ins C dx fs)/\fs.lookup m=none/\t σ H1 λvs H2=>sp (x::vs) H2 Q (W σ)):=by
 intro aA s σ H Q I h;refine PySem.W.methodCall_KW (pl:=pl) (thn (he aA s σ H _ I h) λu s1 ⟨x,H1,I1,rx,a,dx,fs,ex,ea,l,q⟩=>?_) ht;subst ex;obtain rfl:u=Value.ref a:=rx;refine FY I1 ea c hm l ?_;exact PySem.W.callWith_K (first:=[.ref a]) (h₀:=X.base) I.ok.mod.kin hm.kp (thn (ha pos aA s1 σ H1 _ I1 q) λus s2 ⟨vs,H2,I2,r,q2⟩=>⟨I2.kIn,Ht (us:=.ref a::us) (vs:=.ref a::vs) F hr hb hx I2 (.cons rfl r) q2⟩) hst hpl
theorem F6 (bD:Yc X.K r S H)(p:Rp r H d v)(h:WL C S d=some (n,fs)):∃a dx fs',v=.ref a/\r[n]?=some a/\H a=some (.ins C dx fs')/\FR r H fs fs':=by
 obtain⟨rfl,eS⟩:=J8 h;obtain⟨a,ha,dx,fs',eH,fr⟩:=bD.at eS;cases p with
 | ref hr=>
  rw[hr] at ha;cases ha
  exact⟨a,dx,fs',rfl,hr,eH,fr⟩
theorem Hn (ho:PD X ⟨ex,W⟩ o to)(c:Cls X.K C)(hm:UO X.K C m f)(F:YL X.prog X.w X.K X.mg X.base (CXE X.prog X.w) k f fd ps (upF X.K sd))(hr:Z5 k X.A)(hb:Xl X.K fd ps [])(hx:W4 X W)(ha:PDA X ⟨ex,W⟩ (e::es) t)(hst:starEach (e::es) X.env=(false,eval e X.env)::starEach es X.env:=by rfl)(hpl:(backTo pos (starEach es X.env)).any (·.1)=false:=by rfl)(ht:eval (.Call (.Attribute o m aQ) (e::es) [] pos) X.env=(do
   let ov <- eval o X.env
   standAt aQ.atName
   let (f,first) <- holding [ov] (getMethod ov m pl)
   callWith pos f first (backTo pos (starEach (e::es) X.env)) (backToKw pos (keywordEach [] X.env))):=by rfl):PD X ⟨ex,W⟩ (.Call (.Attribute o m aQ) (e::es) [] pos) (NC C m ex sd to t):=
 Yp (DB ho c hm F hr hb hx ha hst hpl ht) λσ H Qv ⟨r,dl,S,Q,rs,bD,h,ret⟩=>by unfold NC at h;exact⟨r,dl,S,_,rs,bD,h,λv H1 r1 d S1 e1 aF p1 q1=>by
  split at q1
  ·rename_i n fs ei;obtain⟨hl,q1⟩:=q1;obtain⟨a,dx,fs',rfl,hr1,eH,fr⟩:=F6 aF.b p1 ei;exact⟨a,dx,fs',rfl,eH,fr.lookup.2 hl,r1,dl,S1,_,rs.ext e1,aF,q1,λvs H2 r2 ds S2 e2 aG p2 q2=>Kc (Z:=⟨ex,W⟩) (rs.ext (e1.trans e2)) aG (Rps.cons (p1.ext e2) p2) q2 (ret.ext (e1.trans e2))⟩
  ·exact q1.elim⟩
def dMake (C:Addr)(ex:Addr->Sto->Prop)(sd:Sd)(t:TDA):TDE:=λdl S Q=>t dl S λds S1=>sd (.ref S1.length::ds) (S1++[.ins C []]) (λd S2=>d=.non/\Q (.ref S1.length) S2) ex
theorem E4 (bD:Rel X.K Z r S H)(h1:H x=none)(h2:H dx=none)(h3:dx≠x):
  Rel X.K Z (r++[x]) (S++[.ins C []]) (upd (upd H dx (.own x)) x (.ins C dx []))/\Ext r (r++[x]) H (upd (upd H dx (.own x)) x (.ins C dx [])):=by
 obtain⟨rb,e⟩:=bD.b.pushO (o:=.ins C []) (H':=upd (upd H dx (.own x)) x (.ins C dx [])) h1 (λb u q=>by rw[Yi (Vj q h1),Yi (Vj q h2)];exact q) λ_=>⟨dx,[],Xs,FR.nil⟩
 exact⟨⟨rb,bD.xw.ext e⟩,e⟩
theorem BI {C x:Addr}{r r':List Addr}{n:Nat}{H H':Hp}{Z:Zx}{K:Fg}{Q:DK}{Qv:VK}(ret:Ret K Z r H Q Qv)(e:Ext r r' H H')(hx:r'[n]?=some x):
  Ret K Z r' H' (λd S2=>d=.non/\Q (.ref n) S2) (λv H2=>v=.non/\Qv (.ref x) H2):=λv H2 r2 d S2 e2 aG p2 q2=>by
 obtain⟨rfl,q2⟩:=q2;cases p2;exact⟨rfl,ret _ H2 r2 (.ref n) S2 (e.trans e2) aG (.ref (e2.adr _ _ hx)) q2⟩
theorem Tz {C f:Addr}{fd:FuncData}{k:Nat}{ps:List Str}{sd:Sd}{ex:Addr->Sto->Prop}{W:XK}{x:Str}{p:Pos}{e:Expr}{es:List Expr}{t:TDA}(M:Mk X.K C f)
  (F:YL X.prog X.w X.K X.mg X.base (CXE X.prog X.w) k f fd ps (upF X.K sd))(hr:Z5 (k+1) X.A)(hg:Gl X x)(hm:X.mg x=some (.ref C))(hb:Xl X.K fd ps [])(hx:Pw (CXE X.prog X.w) X W)(ha:PDA X (Zc ex W) (e::es) t)
  (hdb:(x==("__debug__":Str))=false:=by decide)(he:starEach (e::es) X.env=(false,eval e X.env)::starEach es X.env:=by rfl)(hpl:(backTo pos (starEach es X.env)).any (·.1)=false:=by rfl):
  PD X (Zc ex W) (.Call (.Name x p) (e::es) [] pos) (dMake C ex sd t):=
 Yp (En M F hr hg hm hb .nil hx ha hdb he hpl) λσ H Qv ⟨r,dl,S,Q,rs,bD,h,ret⟩=>⟨r,dl,S,_,rs,bD,h,λvs H1 r1 ds S1 e1 aF p1 q1=>λx dx n1 n2 n3=>by
  obtain⟨aG,e2⟩:=E4 (C:=C) aF n1 n2 n3;show upF X.K sd (.ref x::(vs++[])) _ _ W;rw[xD];exact⟨ex,_,_,.ref S1.length::ds,_,aG,Rps.cons (W7 aF.len) (p1.ext e2),q1,BI (C:=C) ret (e1.trans e2) (RQ aF.len)⟩⟩
end
section
variable {κ:Type} [DecidableEq κ]
end
section
variable {X:Cx}{Z:Zx}{pos:Pos}
end
section
variable {X:Cx}{Z:Zx}{pos:Pos}
theorem II {st:Stmt}:PDS X Z st (λ_ _ _=>False):=YY (t:=λ_ _ _=>False) (λ_ _ _ _ _ _ h=>h.elim) λF σ H ⟨r,dl,S,E,rs,bD,h,ret⟩=>h.elim
end
section
variable {X:Cx}{Z:Zx}{pos:Pos}
def WM (xs:List D)(lo hi:Option Int):List D:=(xs.drop (HT.sIx xs.length 0 lo)).take (HT.sIx xs.length xs.length hi-HT.sIx xs.length 0 lo)
theorem Rps.drop (h:Rps r H ds vs)(k:Nat):Rps r H (ds.drop k) (vs.drop k):=
 ⟨by simp[h.1],λi d v h1 h2=>h.2 (k+i) d v (by simpa using h1) (by simpa using h2)⟩
theorem Rps.take (h:Rps r H ds vs)(k:Nat):Rps r H (ds.take k) (vs.take k):=by
 refine⟨by simp[h.1],λi d v h1 h2=>?_⟩;rw[List.getElem?_take] at h1 h2;split at h1
 ·rw[if_pos (by assumption)] at h2;exact h.2 i d v h1 h2
 ·cases h1
theorem Rps.cut (h:Rps r H ds vs)(lo hi:Option Int):Rps r H (WM ds lo hi) (U6 vs lo hi):=by
 unfold WM U6;rw[h.1];exact(h.drop _).take _
@[irreducible] def OO (te:TDE)(tl th:TDO):TDE:=λdl S Q=>te dl S λd S1=>tl dl S1 λl S2=>th dl S2 λu S3=>match d with
 | .ref n=>match lAt S3 n with
  | some o=>Q (.ref S3.length) (S3++[.lst (WM (Zq o) l u)])
  | none=>False
 | _=>False
theorem Hu {e:Expr}{te:TDE}{lo hi:Option Expr}{tl th:TDO}{p2:Pos}(he:PD X Z e te)(hl:PDO X Z lo tl)(hu:PDO X Z hi th):PD X Z (.Subscript e (.Slice lo hi none p2) pos) (OO te tl th):=
 Yp (Bl Dt he hl hu) λσ H Qv ⟨r,dl,S,Q,rs,bD,h,ret⟩=>by
  unfold OO at h;refine⟨r,dl,S,_,rs,bD,h,λv H1 r1 d S1 e1 aF p1 q1=>⟨r1,dl,S1,_,rs.ext e1,aF,q1,λl H2 r2 S2 e2 aG q2=>⟨r2,dl,S2,_,rs.ext (e1.trans e2),aG,q2,λu H3 r3 S3 e3 aH q3=>?_⟩⟩⟩;cases p1 with
  | @ref n a hn=>
   dsimp only at q3;split at q3
   ·rename_i o eo;obtain⟨eo,eL⟩:=YF eo;obtain⟨a',ha,ob⟩:=aH.at eo;rw[e3.adr _ _ (e2.adr _ _ hn)] at ha;cases ha
    obtain⟨xs,sq,pr⟩:=ob.list eL;refine⟨a,xs,rfl,sq,λp hp=>?_⟩;obtain⟨aJ,x⟩:=aH.push hp (pr.cut l u);exact ret _ _ _ (.ref S3.length) _ (e1.trans (e2.trans (e3.trans x))) aJ (W7 aH.len) q3
   ·exact q3.elim
  | _=>exact(show False from q3).elim
theorem Fe {te:TDE}{tl th:TDO}{dl:Ev}{S S3:Sto}{Q:DK}{n:Nat}{o:Ob}{lo hi:Option Int}(h:∀K:DK,K (.ref n) S3->te dl S K)(hl:∀K:Option Int->Sto->Prop,K lo S3->tl dl S3 K)(hh:∀K:Option Int->Sto->Prop,K hi S3->th dl S3 K)(ho:S3[n]?=some o)
  (hq:Q (.ref S3.length) (S3++[.lst (WM (Zq o) lo hi)]))(hL:Y9 o=some o:=by rfl):OO te tl th dl S Q:=by
 unfold OO;refine h _ (hl _ (hh _ ?_));simp only[ZS ho hL];exact hq
end
section
variable {X:Cx}{Z:Zx}{pos:Pos}
theorem Rps.put (h:Rps r H ds vs)(p:Rp r H d v)(j:Nat):Rps r H (ds.set j d) (vs.set j v):=by
 refine⟨by simp[h.1],λi x y h1 h2=>?_⟩;by_cases z:j=i
 ·subst z;have hl:j<ds.length:=by
   have:=(zF.mp h1).1;simpa using this
  rw[yT hl] at h1;rw[yT (by rw[<- h.1];exact hl)] at h2;cases h1;cases h2;exact p
 ·rw[yY z] at h1 h2;exact h.2 i x y h1 h2
@[irreducible] def UL (to ti te:TDE):TDS:=λE dl S=>te dl S λv S1=>to dl S1 λd S2=>ti dl S2 λi S3=>match d,i with
 | .ref n,.int k=>match S3[n]? with
  | some (.lst xs)=>match ixN xs.length k with
   | some j=>E.nx dl (S3.set n (.lst (xs.set j v)))
   | none=>False
  | _=>False
 | _,_=>False
theorem Fh (ho:PD X Z o to)(hi:PD X Z i ti)(he:PD X Z e te)(hs:swapsWithSole [.Subscript o i p2] e pos.line X.env=pure false:=by rfl)(hw:swappedStores [.Subscript o i p2] e X.env=pure none:=by rfl)(h1:(assignEach [.Subscript o i p2] X.env).map (·.2)=[assign (.Subscript o i p2) X.env]:=by rfl)(ha:∀v,assign (.Subscript o i p2) X.env v=(do let ov <- holding [v] (eval o X.env);let iv <- holding [v,ov] (eval i X.env);standAt p2;holding [v,ov,iv] (setItem ov iv v);release [v,ov,iv] []):=by intro _;rfl):PDS X Z (.Assign [.Subscript o i p2] e pos) (UL to ti te):=
 YY (Hx he (Cg ho hi Ez ha) hs hw h1) λF σ H ⟨r,dl,S,E,rs,bD,h,ret⟩=>by
  unfold UL at h;refine⟨r,dl,S,_,rs,bD,h,λv H1 r1 dv S1 e1 aF p1 q1=>⟨r1,dl,S1,_,rs.ext e1,aF,q1,λx H2 r2 d S2 e2 aG pd q2=>⟨r2,dl,S2,_,rs.ext (e1.trans e2),aG,q2,λy H3 r3 di S3 e3 aH pi q3=>?_⟩⟩⟩;cases pd with
  | @ref n a hn=>
   cases pi with
   | int k=>
    dsimp only at q3;split at q3
    ·rename_i xs eS;split at q3
     ·rename_i j ej;have hn3:=e3.adr _ _ hn;obtain⟨ys,eH,pr⟩:=aH.b.ob n a _ hn3 eS;obtain⟨aJ,x4⟩:=aH.set hn3 eS (pr.put (p1.ext (e2.trans e3)) j);exact⟨a,ys,k,j,rfl,rfl,eH,by rw[<- pr.1];exact ej,ret.nx _ _ r3 _ _ (e1.trans (e2.trans (e3.trans x4))) (rs.ext (e1.trans (e2.trans (e3.trans x4)))) aJ q3⟩
     ·exact q3.elim
    ·exact q3.elim
   | _=>exact(show False from q3).elim
  | _=>exact(show False from q3).elim
def WS (f:D->D->Option Bool):List D->D->Option (Option Nat)
 | [],_=>some none
 | y::ys,x=>match f y x,WS f ys x with
  | some true,some _=>some (some 0)
  | some false,some o=>some (o.map (·+1))
  | _,_=>none
theorem Iv:∀ {ys:List D} {o:Option Nat},WS f ys x=some o->(∀y∈ys,∃c,f y x=some c)/\∀j,o=some j->(∃y,ys[j]?=some y/\f y x=some true)/\∀m y,m<j->ys[m]?=some y->f y x=some false
 | [],o,e=>by
  have h:=Option.some.inj e;subst h;exact⟨(λy hy=>by cases hy),λj z=>by cases z⟩
 | y::ys,o,e=>by
  unfold WS at e;split at e
  ·rename_i o1 e1 e2;have h:=Option.some.inj e;subst h;obtain⟨h1,_⟩:=Iv e2;refine⟨λz hz=>?_,λj hj=>?_⟩
   ·rcases zS.mp hz with rfl|hz
    ·exact⟨true,e1⟩
    ·exact h1 z hz
   ·cases hj;exact⟨⟨y,rfl,e1⟩,λm z hm=>by omega⟩
  ·rename_i o1 e1 e2;have h:=Option.some.inj e;subst h;obtain⟨h1,h2⟩:=Iv e2;refine⟨λz hz=>?_,λj hj=>?_⟩
   ·rcases zS.mp hz with rfl|hz
    ·exact⟨false,e1⟩
    ·exact h1 z hz
   ·obtain⟨k,rfl,rfl⟩:=zQ.mp hj;obtain⟨⟨z,hz1,hz2⟩,h3⟩:=h2 k rfl;refine⟨⟨z,by simpa using hz1,hz2⟩,λm w hm hw=>?_⟩;cases m with
    | zero=>
     have:w=y:=by simpa using hw.symm
     rw[this];exact e1
    | succ m=>exact h3 m w (by omega) (by simpa using hw)
  ·cases e
theorem Ec (I:Inv X aA σ H s)(hu:A.units+k<cLine)(p:Rps r H ds vs)(rv:ZF vs us)(px:Rp r H dx x)(rx:ZG x u)(e:WS (eqN k) ds dx=some (some j)):
  ∃g:Value->Bool,(∀y,y∈us.toArray->SeqAt.EqAt A s y u (g y))/\∃hj:j<us.toArray.size,g us.toArray[j]=true/\∀m (hm:m<us.toArray.size),m<j->g us.toArray[m]=false:=by
 obtain⟨h1,h2⟩:=Iv e;obtain⟨⟨yj,hyj,htj⟩,hno⟩:=h2 j rfl
 classical
 have at_:∀(m:Nat)(hm:m<us.length),∃d v,ds[m]?=some d/\Rp r H d v/\ZG v us[m]:=λm hm=>by
  have hv:m<vs.length:=by rw[rv.length];exact hm
  have gv:vs[m]?=some vs[m]:=by simp[hv]
  obtain⟨w,gw,rw'⟩:=rv.get gv;obtain⟨d,gd,pd⟩:=p.get' gv;have ew:w=us[m]:=by
   rw[zC hm] at gw;exact(Option.some.inj gw).symm
  subst ew;exact⟨d,_,gd,pd,rw'⟩
 have val:∀(m:Nat)(hm:m<us.length)(d:D)(c:Bool),ds[m]?=some d->eqN k d dx=some c->decide (∃d v,d∈ds/\Rp r H d v/\ZG v us[m]/\eqN k d dx=some true)=c:=λm hm d c hd hc=>by
  obtain⟨d',v',gd,pd,rd⟩:=at_ m hm;rw[hd] at gd;cases gd
  cases c with
  | true=>exact decide_eq_true ⟨d,v',zL hd,pd,rd,hc⟩
  | false=>
   refine decide_eq_false λ⟨d2,v2,_,pd2,rd2,hc2⟩=>?_
   have ev:=GQ rd rd2;subst ev;exact absurd (Jy k d d2 dx v' false true pd pd2 hc hc2) (by decide)
 refine⟨λy=>decide (∃d v,d∈ds/\Rp r H d v/\ZG v y/\eqN k d dx=some true),λy hy=>?_,?_⟩
 ·have hy':y∈us:=by simpa using hy
  obtain⟨m,hm,rfl⟩:=yV.mp hy';obtain⟨d,v,gd,pd,rd⟩:=at_ m hm;obtain⟨c,hc⟩:=h1 d (zL gd);show SeqAt.EqAt A s us[m] u (decide _);rw[val m hm d c gd hc];exact V5 k X aA σ H s r A d dx v x _ u c I hu pd px rd rx hc
 ·have hjl:j<us.length:=by
   have:=(zF.mp hyj).1;rw[p.1,rv.length] at this;exact this
  refine⟨by simpa using hjl,?_,λm hm hmj=>?_⟩
  ·have z:=val j hjl yj true hyj htj;simpa using z
  ·have hm':m<us.length:=by simpa using hm
   obtain⟨d,v,gd,pd,rd⟩:=at_ m hm';have z:=val m hm' d false gd (hno m d hmj gd);simpa using z
def LL (k:Nat)(d y:D)(S:Sto)(Q:DK):Prop:=match d with
 | .ref n=>match lAt S n with
  | some o=>match WS (eqN k) (Zq o) y with
   | some (some j)=>Q (.int (j:Int)) S
   | _=>False
  | none=>False
 | _=>False
@[irreducible] def Lk (k:Nat)(to:TDE)(t:TDA):TDE:=λdl S Q=>to dl S λd S1=>(match d with
 | .ref n=>(lAt S1 n).isSome=true/\t dl S1 λds S2=>match ds with
  | [y]=>LL k d y S2 Q
  | _=>False
 | _=>False)
theorem Ah (hr:Z5 j X.A)(hk:k<=3):MtR X "list.index" (λx xs H Qv=>∃(r:List Addr)(S:Sto)(d y:D)(v:V)(Q:DK),Rel X.K Z r S H/\Rp r H d x/\xs=[v]/\Rp r H y v/\LL k d y S Q/\Ret X.K Z r H Q Qv):=by
 intro aA s σ H x xs v us Qv I rx rv h;obtain⟨r,S,d,y,v1,Q,bD,pd,rfl,py,q,ret⟩:=h;obtain⟨u,rfl,ru⟩:=X3 rv;unfold LL at q;split at q
 ·rename_i n;split at q
  ·rename_i o eo;obtain⟨eo,eL⟩:=YF eo;split at q
   ·rename_i i ei;cases pd with
    | @ref n a hn=>
     cases rx;obtain⟨a',ha,ob⟩:=bD.at eo;rw[hn] at ha;cases ha
     obtain⟨ys,sq,pr⟩:=ob.list eL;obtain⟨bB,ri,pl,hz⟩:=I.list sq;have hun:=hr.un;obtain⟨g,g1,hj,g2,g3⟩:=Ec (A:=X.A.in1) I (by show X.A.units+1+k<_;omega) pr ri py ru ei;obtain⟨ob2,m,e,c,hd,hdat⟩:=pl;obtain⟨oc,od,odat,osl⟩:=ob2;have c':oc=.type "list":=c
     have hdat':odat=.seq bB.toArray m:=hdat;subst c' hdat';refine call_meets PySem.F.slot_list_index ⟨_,e,rfl⟩ PySem.F.entry_list_index (PySem.F.args_list_index_2 _ _) (PySem.SeqAt.list_indexAt a bB.toArray m od osl u g i hj (by
      have:bB.toArray.size<=sizeLine:=by rw[zN,<- ri.length];exact hz
      have h2:=RE;omega) g2 λm hm h2=>g3 m hm h2) ⟨e,g1,?_⟩
     exact⟨.int (i:Int),H,I.tok _,⟨_,rfl⟩,ret _ H r (.int _) S Ext.refl bD (.int _) q⟩
   ·exact q.elim
  ·exact q.elim
 ·exact q.elim
theorem HX (hr:Z5 j X.A)(hk:k<=3)(ho:PD X Z o to)(ha:PDA X Z [e] t)(hbase:attributeBase o "index" X.env (eval o X.env)=eval o X.env:=by rfl)(hfew:((backTo aO (starEach [e] X.env)).all (λx=>!x.1)&&(backToKw aO (keywordEach [] X.env)).all (λx=>x.1.isSome)
  &&decide ([e].length+([]:List Keyword).length+(if ([]:List Keyword).isEmpty then 0 else 1)<30))=true:=by rfl)(hline:(aQ.endLine==aO.line)=true:=by rfl)(hs:starEach [e] X.env=(false,eval e X.env)::starEach [] X.env:=by rfl)(hplain:(backTo aO (starEach [] X.env)).any (·.1)=false:=by rfl):
  PD X Z (.Call (.Attribute o "index" aQ) [e] [] aO) (Lk k to t):=
 Yp (ND (T:="list") PySem.F.plainAttrs_list PySem.F.slot_list_index PySem.F.type_list_index (Ah (Z:=Z) hr hk) ho ha hbase hfew hline hs hplain) λσ H Qv ⟨r,dl,S,Q,rs,bD,h,ret⟩=>by
  unfold Lk at h;refine⟨r,dl,S,_,rs,bD,h,λv H1 r1 d S1 e1 aF p1 q1=>?_⟩;cases p1 with
  | @ref n a hn=>
   obtain⟨aX,q1⟩:=q1;obtain⟨o1,eo⟩:=yS.mp aX;obtain⟨eo,eL⟩:=YF eo;obtain⟨a',ha',ob⟩:=aF.at eo;rw[hn] at ha';cases ha'
   obtain⟨xs,sq,_⟩:=ob.list eL;refine⟨.inl ⟨rfl,xs,sq⟩,r1,dl,S1,_,rs.ext e1,aF,q1,λvs H2 r2 ds S2 e2 aG p2 q2=>?_⟩;split at q2
   ·rename_i y;obtain⟨v2,vs',rfl,p3,p4⟩:=p2.uncons;have z:=p4.unnil;subst z;exact⟨r2,S2,.ref n,y,v2,Q,aG,.ref (e2.adr _ _ hn),rfl,p3,q2,ret.ext (e1.trans e2)⟩
   ·exact q2.elim
  | _=>exact(show False from q1).elim
end
section
variable {X:Cx}{aA:LA}{σ:St}{H:Hp}{s:Shared}{h':Heap}
theorem FU {t':Nat}{ch:List Addr}{T:Addr}{xs:List V}{vals:Array Value}(I:Inv X aA σ H s)(k:∀b o,b ∉ ch->s.heap.get? b=some o->h'.get? b=some o)(hch:∀b∈ch,Xc X aA H b)
  (hT:s.heap.objs.size<=T)(ht:h'.IsTuple T vals)(rv:ZF xs vals.toList)(hl:xs.length<=sizeLine):Inv X aA σ (upd H T (.tup xs)) { s with heap:=h',toks:=t' }:=by
 have hTn:H T=none:=I.hok.fresh hT
 have old:∀ {b:Addr} {o:Obj},s.heap.get? b=some o->b≠T:=λ{b o} e z=>absurd (zZ (Heap.lt_size e) hT) (by rw[z];exact yH _)
 have trk:∀b u,H b=some u->b ∉ ch:=λb u e z=>by
  rw[(hch b z).1] at e;cases e
 have up:∀b u,H b=some u->(upd H T (.tup xs)) b=some u:=Xd hTn;refine I.step (g':=s.gens) (d':=s.drawn) (ch:=ch) (λb hb=>?_) (λb o _ _ hc e _=>k b o hc e) (λb o _ _ hc e _=>⟨o.slots,k b o hc e⟩) (λb o _ e n=>by rw[Yi (old e)];exact n)
  (λb o hc e=>⟨o,k b o hc e⟩) (λb ys e=>up _ _ e) (λb o u e=>up _ _ e) (λb ps e=>⟨#[],by rw[up _ _ e];simp⟩) (λm hm=>?_) (λb u e=>?_) I.bare
 ·obtain⟨_,f1,_,f3,f4,f5⟩:=hch b hb;exact⟨f3,f1,f4,f5⟩
 ·obtain⟨o,es,ep,ho,r⟩:=hm;exact⟨o,es,ep,k _ o (λz=>(hch _ z).2.1 rfl) ho,r⟩
 ·by_cases hb:b=T
  ·subst hb;rw[Xs] at e;cases e;exact⟨hl,vals.toList,rv,by rw[Array.toArray_toList];exact ht⟩
  ·rw[Yi hb] at e;refine(I.hok b u e).stay (λc v hc q=>k c v ?_ q) (λd z=>up _ _ z) λd ys z=>up _ _ z
   rcases hc with z|z
   ·rw[z];exact trk b u e
   ·exact trk c _ z
theorem PR {t':Nat}{ch:List Addr}(I:Inv X aA σ H s)(k:∀b o,b ∉ ch->s.heap.get? b=some o->h'.get? b=some o)(hch:∀b∈ch,Xc X aA H b):Inv X aA σ H { s with heap:=h',toks:=t' }:=by
 have trk:∀b u,H b=some u->b ∉ ch:=λb u e z=>by
  rw[(hch b z).1] at e;cases e
 refine I.step (g':=s.gens) (d':=s.drawn) (ch:=ch) (λb hb=>?_) (λb o _ _ hc e _=>k b o hc e) (λb o _ _ hc e _=>⟨o.slots,k b o hc e⟩) (λb o _ e n=>n)
  (λb o hc e=>⟨o,k b o hc e⟩) (λb ys e=>e) (λb o u e=>e) (λb ps e=>⟨#[],by rw[e];simp⟩) (λm hm=>?_) (λb u e=>?_) I.bare
 ·obtain⟨_,f1,_,f3,f4,f5⟩:=hch b hb;exact⟨f3,f1,f4,f5⟩
 ·obtain⟨o,es,ep,ho,r⟩:=hm;exact⟨o,es,ep,k _ o (λz=>(hch _ z).2.1 rfl) ho,r⟩
 ·refine(I.hok b u e).stay (λc v hc q=>k c v ?_ q) (λd z=>z) λd ys z=>z
  rcases hc with z|z
  ·rw[z];exact trk b u e
  ·exact trk c _ z
end
def Ite (K:Fg)(a:Addr):It:=
 ⟨λi H=>∃xs x,SqL K H a xs/\xs[i]?=some x,λi H x H'=>∃T v,x=.ref T/\H T=none/\H'=upd H T (.tup [.int (i:Int),v])/\∀xs,SqL K H a xs->xs[i]?=some v,λi H=>∃xs,SqL K H a xs/\xs.length=i⟩
theorem zbI {P:Program}{w:World}{K:Fg}{aU:List Expr}{kk:Nat}{tp:Pos}(a e it:Addr)(hei:e≠it)(hae:a≠e)(hai:a≠it):
  RU P w K (.Tuple aU kk tp) (Ite K a) [e,it] e (λi h=>(∃old,IsEnum h e it i old)/\h.IsListIter it a i) where
 mem:=by simp
 obj:=λi h st b hb=>by
  obtain⟨⟨old,he⟩,o,e1,c,d⟩:=st;have hb':b=e\/b=it:=by simpa using hb
  rcases hb' with rfl|rfl
  ·exact⟨_,he,λv z=>by cases z⟩
  ·exact⟨o,e1,λv z=>by rw[d] at z;cases z⟩
 keep:=λi h h' st k=>by
  obtain⟨⟨old,he⟩,hit⟩:=st;exact⟨⟨old,k e (by simp) _ he⟩,hit.at λo x=>k it (by simp) o x⟩
 item:=by
  intro X hP hw hK hc i aA s σ H E I hf st hg;subst hP hw hK;obtain⟨xs,x,hq,hx⟩:=hg;obtain⟨bB,rv,p,hz⟩:=I.list hq;obtain⟨u,hu,ru⟩:=rv.get hx;have hi:i<bB.toArray.size:=by
   have:=(zF.mp hu).1;simpa using this
  have W:=WalksT.enumerate (prog:=X.prog) (w:=X.w) (A:=X.A) (I.ok.hd hc) e it a hei hae hai bB.toArray;refine W.item i s _ _ hi ⟨st.1,st.2,p.isList⟩ λT vals h' tk hP hT ht mid k1=>?_
  obtain⟨t,y,hy,rfl⟩:=hP;have ey:y=u:=by
   have z:bB[i]?=some y:=by simpa using hy
   rw[hu] at z;exact(Option.some.inj z).symm
  subst ey;have hw:∀b∈[e,it],Xc X aA H b:=hf
  have I1:Inv X aA σ (upd H T (.tup [.int (i:Int),x])) { s with heap:=h',toks:=tk }:=FU I k1 hw hT ht (.cons ⟨t,rfl⟩ (.cons ru .nil)) (show 2<=sizeLine from Wv (by decide))
  have neT:∀b∈[e,it],b≠T:=λb hb z=>W.apart i T h' mid (z ▸ hb)
  have hf1:∀b∈[e,it],Xc X aA (upd H T (.tup [.int (i:Int),x])) b:=λb hb=>⟨by rw[Yi (neT b hb)];exact(hf b hb).1,(hf b hb).2⟩
  refine⟨.ref T,rfl,W.go aU kk tp i T _ _ _ mid λh2 st2 k2=>?_⟩;have I2:Inv X aA σ (upd H T (.tup [.int (i:Int),x])) { s with heap:=h2,toks:=tk }:=PR (s:={ s with heap:=h',toks:=tk }) (t':=tk) I1 k2 hf1;exact⟨.ref T,_,I2,rfl,⟨T,x,rfl,I.hok.fresh hT,rfl,λys hy=>by rw[I.list_inj hy hq];exact hx⟩,⟨st2.1,st2.2.1⟩,λb hb=>(hf1 b hb).1⟩
 done:=by
  intro X hP hw hK hc i aA s σ H E I hf st hg;subst hP hw hK;obtain⟨xs,hq,hx⟩:=hg;obtain⟨bB,rv,p,hz⟩:=I.list hq;have W:=WalksT.enumerate (prog:=X.prog) (w:=X.w) (A:=X.A) (I.ok.hd hc) e it a hei hae hai bB.toArray
  have hi:i=bB.toArray.size:=by rw[zN,<- rv.length];exact hx.symm
  subst hi;exact W.done s _ _ ⟨st.1,st.2,p.isList⟩ λh' tk k1=>⟨rfl,PR (t':=tk) I k1 hf⟩
 self:=λA i s Q E st h=>by
  obtain⟨⟨old,he⟩,_⟩:=st;exact wpAny_pyIter_enum he h
section
variable {X:Cx}
def G9 (K:Fg)(ta:TA):TI:=λσ H R=>ta σ H λvs H1=>∃a,vs=[.ref a]/\(∃xs,SqL K H1 a xs)/\R (Ite K a) H1
theorem zbd {a:Expr}{ta:TA}{p pos tp:Pos}{aU:List Expr}{kk:Nat}(hg:Gl X "enumerate")(hm:X.mg "enumerate"=none)(hv:bootBuiltins "enumerate"=some (.type "enumerate"))(ha:PA X [a] ta)(hs:starEach [a] X.env=[(false,eval a X.env)]:=by rfl):
  PI X (.Tuple aU kk tp) (.Call (.Name "enumerate" p) [a] [] pos) (G9 X.K ta):=by
 intro aA s σ H R I h;refine Call_ (TQ I hg hm hv (PyProof.Rows.callWith_type1 (thn (ha pos aA s σ H _ I h) λus s1 ⟨vs,H1,I1,r1,q1⟩=>?_) hs rfl));obtain⟨l,e,⟨xs,hq⟩,q⟩:=q1;subst e;cases r1 with
 | cons r rr=>
  cases rr;cases r;obtain⟨bB,rv,pl,hz⟩:=I1.list hq;have hll:l<s1.heap.objs.size:=by
   obtain⟨o,e,_⟩:=pl.isList;exact Heap.lt_size e
  refine call_enumerate_list pl.isList λh' he hit hsz hk=>?_
  have I2:Inv X aA σ H1 { s1 with heap:=h' }:=I1.kept (t':=s1.toks) hk;refine wpAny_pyIter_enum he ⟨s1.heap.objs.size+1,[s1.heap.objs.size+1,s1.heap.objs.size],_,_,H1,rfl,I2,zbI l _ _ (Nat.succ_ne_self _) (zV (Nat.lt_succ_of_lt hll)) (zV hll),⟨⟨_,he⟩,hit⟩,λb hb=>?_,q⟩;have hb':b=s1.heap.objs.size+1\/b=s1.heap.objs.size:=by simpa using hb
  rcases hb' with rfl|rfl
  ·exact I1.fpOk (xO _) (I1.hok.fresh (xO _))
  ·exact I1.fpOk (zD _) (I1.hok.fresh (zD _))
end
def Itz (K:Fg)(a b:Addr):It:=
  ⟨λi H=>∃xs ys x y,SqL K H a xs/\SqL K H b ys/\xs[i]?=some x/\ys[i]?=some y,
   λi H x H'=>∃T v u,x=.ref T/\H T=none/\H'=upd H T (.tup [v,u])/\(∀xs,SqL K H a xs->xs[i]?=some v)/\∀ys,SqL K H b ys->ys[i]?=some u,
   λi H=>∃xs ys,SqL K H a xs/\SqL K H b ys/\min xs.length ys.length=i⟩
theorem DY {P:Program}{w:World}{K:Fg}{aU:List Expr}{kk:Nat}{tp:Pos}(a b z TI TO i1 i2:Addr)(D:ZipApart z TI TO i1 i2 a b):
  RU P w K (.Tuple aU kk tp) (Itz K a b) [z,TI,TO,i1,i2] z (λi h=>IsZip h z TI TO .none/\IsPair h TI (.ref i1) (.ref i2)/\(∃p q,IsPair h TO p q)/\h.IsListIter i1 a i/\h.IsListIter i2 b i) where
 mem:=by simp
 obj:=λi h st c hc=>by
  obtain⟨hz,hTI,⟨p,q,hTO⟩,⟨o1,e1,c1,d1⟩,o2,e2,c2,d2⟩:=st;have hc':c=z\/c=TI\/c=TO\/c=i1\/c=i2:=by simpa using hc
  rcases hc' with rfl|rfl|rfl|rfl|rfl
  ·exact⟨_,hz,λv y=>by cases y⟩
  ·exact⟨_,hTI,λv y=>by cases y⟩
  ·exact⟨_,hTO,λv y=>by cases y⟩
  ·exact⟨o1,e1,λv y=>by rw[d1] at y;cases y⟩
  ·exact⟨o2,e2,λv y=>by rw[d2] at y;cases y⟩
 keep:=λi h h' st k=>by
  obtain⟨hz,hTI,⟨p,q,hTO⟩,h1,h2⟩:=st;exact⟨k z (by simp) _ hz,k TI (by simp) _ hTI,⟨p,q,k TO (by simp) _ hTO⟩,h1.at λo x=>k i1 (by simp) o x,h2.at λo x=>k i2 (by simp) o x⟩
 item:=by
  intro X hP hw hK hc i aA s σ H E I hf st hg;subst hP hw hK;obtain⟨xs,ys,x,y,hq,hq2,hx,hy⟩:=hg;obtain⟨bB,rv,p,_⟩:=I.list hq;obtain⟨jts,rv2,p2,_⟩:=I.list hq2;obtain⟨u,hu,ru⟩:=rv.get hx;obtain⟨u2,hu2,ru2⟩:=rv2.get hy;have hi:i<min bB.toArray.size jts.toArray.size:=by
   have z1:=(zF.mp hu).1
   have z2:=(zF.mp hu2).1
   have sizes:bB.toArray.size=bB.length/\jts.toArray.size=jts.length:=⟨by simp,by simp⟩;omega
  have W:=WalksT.zip2 (prog:=X.prog) (w:=X.w) (A:=X.A) (I.ok.hd hc) z TI TO i1 i2 a b D bB.toArray jts.toArray;obtain⟨s1,s2,s3,s4,s5⟩:=st;refine W.item i s _ _ hi ⟨s1,s2,s3,s4,s5,p.isList,p2.isList⟩ λT vals h' tk hP hT ht mid k1=>?_
  obtain⟨v1,v2,hv1,hv2,rfl⟩:=hP;have e1:v1=u:=by
   have z:bB[i]?=some v1:=by simpa using hv1
   rw[hu] at z;exact(Option.some.inj z).symm
  have e2:v2=u2:=by
   have z:jts[i]?=some v2:=by simpa using hv2
   rw[hu2] at z;exact(Option.some.inj z).symm
  subst e1 e2;have sub:∀c∈[z,TO,i1,i2],c∈[z,TI,TO,i1,i2]:=λc hc=>by
   have hc':c=z\/c=TO\/c=i1\/c=i2:=by simpa using hc
   rcases hc' with rfl|rfl|rfl|rfl<;>simp
  have I1:Inv X aA σ (upd H T (.tup [x,y])) { s with heap:=h',toks:=tk }:=FU I k1 (λc hc=>hf c (sub c hc)) hT ht (.cons ru (.cons ru2 .nil)) (show 2<=sizeLine from Wv (by decide))
  have tiT:TI≠T:=λq=>by
   have hl:TI<s.heap.objs.size:=Heap.lt_size s2;rw[q] at hl;exact absurd (zZ hl hT) (yH _)
  have neT:∀c∈[z,TI,TO,i1,i2],c≠T:=λc hc q=>by
   have hc':c=TI\/c∈[z,TO,i1,i2]:=by
    have hc2:c=z\/c=TI\/c=TO\/c=i1\/c=i2:=by simpa using hc
    rcases hc2 with rfl|rfl|rfl|rfl|rfl<;>simp
   rcases hc' with rfl|hc'
   ·exact tiT q
   ·exact W.apart i T h' mid (q ▸ hc')
  have hf1:∀c∈[z,TI,TO,i1,i2],Xc X aA (upd H T (.tup [x,y])) c:=λc hc=>⟨by rw[Yi (neT c hc)];exact(hf c hc).1,(hf c hc).2⟩
  refine⟨.ref T,rfl,W.go aU kk tp i T _ _ _ mid λh2 st2 k2=>?_⟩;have I2:Inv X aA σ (upd H T (.tup [x,y])) { s with heap:=h2,toks:=tk }:=PR (s:={ s with heap:=h',toks:=tk }) (t':=tk) I1 k2 λc hc=>hf1 c (sub c hc)
  obtain⟨t1,t2,t3,t4,t5,_,_⟩:=st2;exact⟨.ref T,_,I2,rfl,⟨T,x,y,rfl,I.hok.fresh hT,rfl,λzs hz=>by rw[I.list_inj hz hq];exact hx,λzs hz=>by rw[I.list_inj hz hq2];exact hy⟩,⟨t1,t2,t3,t4,t5⟩,λc hc=>(hf1 c hc).1⟩
 done:=by
  intro X hP hw hK hc i aA s σ H E I hf st hg;subst hP hw hK;obtain⟨xs,ys,hq,hq2,hx⟩:=hg;obtain⟨bB,rv,p,_⟩:=I.list hq;obtain⟨jts,rv2,p2,_⟩:=I.list hq2;have W:=WalksT.zip2 (prog:=X.prog) (w:=X.w) (A:=X.A) (I.ok.hd hc) z TI TO i1 i2 a b D bB.toArray jts.toArray
  have hi:i=min bB.toArray.size jts.toArray.size:=by rw[zN,zN,<- rv.length,<- rv2.length];exact hx.symm
  subst hi;have sub:∀c∈[z,TO,i1,i2],c∈[z,TI,TO,i1,i2]:=λc hc=>by
   have hc':c=z\/c=TO\/c=i1\/c=i2:=by simpa using hc
   rcases hc' with rfl|rfl|rfl|rfl<;>simp
  obtain⟨s1,s2,s3,s4,s5⟩:=st;exact W.done s _ _ ⟨s1,s2,s3,s4,s5,p.isList,p2.isList⟩ λh' tk k1=>⟨rfl,PR (t':=tk) I k1 λc hc=>hf c (sub c hc)⟩
 self:=λA i s Q E st h=>wpAny_pyIter_zip st.1 h
section
variable {X:Cx}
theorem D8 {n l m:Nat}(h1:l<n)(h2:m<n):ZipApart (n+4) (n+2) (n+3) n (n+1) l m:=by
 have ne:∀ {i j:Nat},i<j\/j<i->i≠j:=λ{i j} h z=>by omega
 exact⟨ne (by omega),ne (by omega),ne (by omega),ne (by omega),ne (by omega),ne (by omega),ne (by omega),ne (by omega),ne (by omega),ne (by omega),ne (by omega),ne (by omega),ne (by omega),ne (by omega),ne (by omega),ne (by omega),ne (by omega),ne (by omega)⟩
def iZip (K:Fg)(ta:TA):TI:=λσ H R=>ta σ H λvs H1=>∃a b,vs=[.ref a,.ref b]/\(∃xs,SqL K H1 a xs)/\(∃ys,SqL K H1 b ys)/\R (Itz K a b) H1
theorem Hi {a b:Expr}{ta:TA}{p pos tp:Pos}{aU:List Expr}{kk:Nat}(hg:Gl X "zip")(hm:X.mg "zip"=none)(hv:bootBuiltins "zip"=some (.type "zip"))(ha:PA X [a,b] ta)
  (hs:starEach [a,b] X.env=[(false,eval a X.env),(false,eval b X.env)]:=by rfl)(hs2:starEach [b] X.env=[(false,eval b X.env)]:=by rfl):PI X (.Tuple aU kk tp) (.Call (.Name "zip" p) [a,b] [] pos) (iZip X.K ta):=by
 intro aA s σ H R I h;refine Call_ (TQ I hg hm hv (PyProof.Rows.callWith_type1 (thn (ha pos aA s σ H _ I h) λus s1 ⟨vs,H1,I1,r1,q1⟩=>?_) (by rw[hs,hs2]) (by rw[hs2];rfl)));obtain⟨l,m,e,⟨xs,hq⟩,⟨ys,hq2⟩,q⟩:=q1;subst e;cases r1 with
 | cons r rr=>
  cases rr with
  | cons r2 rr=>
   cases rr;cases r;cases r2;obtain⟨bB,rv,pl,_⟩:=I1.list hq;obtain⟨jts,rv2,pl2,_⟩:=I1.list hq2;have h1:l<s1.heap.objs.size:=by
    obtain⟨o,e,_⟩:=pl.isList;exact Heap.lt_size e
   have h2:m<s1.heap.objs.size:=by
    obtain⟨o,e,_⟩:=pl2.isList;exact Heap.lt_size e
   refine call_zip_2 pl.isList pl2.isList λh' hz hTI hTO hi1 hi2 hsz hk=>?_
   have I2:Inv X aA σ H1 { s1 with heap:=h' }:=I1.kept (t':=s1.toks) hk
   have D:=D8 h1 h2;refine wpAny_pyIter_zip hz ⟨s1.heap.objs.size+4,[s1.heap.objs.size+4,s1.heap.objs.size+2,s1.heap.objs.size+3,s1.heap.objs.size,s1.heap.objs.size+1],_,_,H1,rfl,I2,DY l m _ _ _ _ _ D,⟨hz,hTI,⟨_,_,hTO⟩,hi1,hi2⟩,λc hc=>?_,q⟩;have hge:s1.heap.objs.size<=c:=by
    have hc':c=s1.heap.objs.size+4\/c=s1.heap.objs.size+2\/c=s1.heap.objs.size+3\/c=s1.heap.objs.size\/c=s1.heap.objs.size+1:=by simpa using hc
    rcases hc' with rfl|rfl|rfl|rfl|rfl
    ·exact Nat.le_add_right _ _
    ·exact Nat.le_add_right _ _
    ·exact Nat.le_add_right _ _
    ·exact zD _
    ·exact Nat.le_add_right _ _
   exact I1.fpOk hge (I1.hok.fresh hge)
end
section
variable {X:Cx}{Z:Zx}{pos:Pos}
theorem WD {r r':List Addr}{S':Sto}{H':Hp}{n:Nat}{a:Addr}{o:Ob}(hn:r'[n]?=some a)(bD:Yc X.K r' S' H')(eo:lAt S' n=some o):∃xs,SqL X.K H' a xs/\Rps r' H' (Zq o) xs:=by
 obtain⟨eo,eL⟩:=YF eo;obtain⟨a',ha,ob⟩:=bD.at eo;rw[hn] at ha;cases ha
 exact ob.list eL
@[irreducible] def NS (is:List Nat)(ta:TDA)(tb:TDS):TDS:=λE dl S=>ta dl S λds S1=>match ds with
 | [.ref n,.ref n']=>((lAt S1 n).isSome=true/\(lAt S1 n').isSome=true)/\∃W:Nat->Nat->Ev->Sto->Prop,(∃m,W 0 m dl S1)/\∀k m dl S,W k m dl S->match lAt S n,lAt S n' with
  | some o,some o'=>match (Zq o)[k]?,(Zq o')[k]? with
   | some x,some y=>tb { nx:=λdl' S'=>∃m',m'<m/\W (k+1) m' dl' S',rt:=E.rt,bk:=E.nx,ct:=λdl' S'=>∃m',m'<m/\W (k+1) m' dl' S' } (Uu is [x,y] dl) S
   | _,_=>k=min (Zq o).length (Zq o').length/\E.nx dl S
  | _,_=>False
 | _=>False
theorem zbm {i1 i2:Expr}{body:List Stmt}{es:List Expr}{kk:Nat}{tp p aT:Pos}{is:List Nat}{ta:TDA}{tb:TDS}(hp:PassesOwn (model X.prog X.w) X.A X.env X.xe)(hc:X.calm=true)(hN:X.N.Nodup)(hn:Nms X es is)(h2:is.length=2)
  (hg:Gl X "zip")(hm:X.mg "zip"=none)(hv:bootBuiltins "zip"=some (.type "zip"))(ha:PDA X Z [i1,i2] ta)(hb:X4 X Z body tb)
  (aV:(assignEach es X.env).length=is.length:=by rfl)(hst:(assignEach es X.env).findIdx? (·.1)=none:=by rfl)(hse:starEach [i1,i2] X.env=[(false,eval i1 X.env),(false,eval i2 X.env)]:=by rfl)(hse2:starEach [i2] X.env=[(false,eval i2 X.env)]:=by rfl)
  (hs:∀y,foldedSetIterable (.Call (.Name "zip" p) [i1,i2] [] aT) X.env y=pure y:=by intro _;rfl):PDS X Z (.For (.Tuple es kk tp) (.Call (.Name "zip" p) [i1,i2] [] aT) body [] pos) (NS is ta tb):=
 YY (ON hp hc (Hi hg hm hv ha hse hse2) (QL hc (TU hN hn) aV hst) hb hs) λF σ H ⟨r,dl,S,E,rs,bD,h,ret⟩=>by
  unfold NS at h;refine⟨r,dl,S,_,rs,bD,h,λvs H1 r1 ds S1 x1 aF p1 q1=>?_⟩;split at q1
  ·rename_i n n';obtain⟨v,vs',rfl,p2,p3⟩:=p1.uncons;obtain⟨v',vs2,rfl,p4,p5⟩:=p3.uncons;have z:=p5.unnil;subst z;cases p2 with
   | @ref n a hr=>
    cases p4 with
    | @ref n' a' hr'=>
     obtain⟨⟨aX,hsome'⟩,W,⟨m0,w0⟩,turn⟩:=q1;obtain⟨o1,eo1⟩:=yS.mp aX;obtain⟨o2,eo2⟩:=yS.mp hsome';obtain⟨xs1,sq1,_⟩:=WD (r:=r1) hr aF.b eo1;obtain⟨ys1,sq2,_⟩:=WD (r:=r1) hr' aF.b eo2;refine⟨a,a',rfl,⟨xs1,sq1⟩,⟨ys1,sq2⟩,λk m σ' H'=>∃r' dl' S',Ext r1 r' H1 H'/\Rs r' H' dl' σ'/\Rel X.K Z r' S' H'/\W k m dl' S',⟨m0,r1,dl,S1,Ext.refl,rs.ext x1,aF,w0⟩,?_⟩;rintro k m σ2 H2 ⟨r2,dl2,S2,x2,rs2,aG,w2⟩;have q:=turn k m dl2 S2 w2;split at q
     ·rename_i o o' eo eo';obtain⟨xs,sq,pr⟩:=WD (r:=r2) (x2.adr _ _ hr) aG.b eo;obtain⟨ys,sq',pr'⟩:=WD (r:=r2) (x2.adr _ _ hr') aG.b eo';split at q
      ·rename_i y y2 ey ey2;obtain⟨v,hvv,pv⟩:=pr.get ey;obtain⟨u,hvu,pu⟩:=pr'.get ey2;refine .inr ⟨⟨xs,ys,v,u,sq,sq',hvv,hvu⟩,λσ' H'=>∃m',m'<m/\∃r' dl' S',Ext r1 r' H1 H'/\Rs r' H' dl' σ'/\Rel X.K Z r' S' H'/\W (k+1) m' dl' S',λ_ _ z=>z,λv' H' y'=>?_⟩;obtain⟨T,w,w2',rfl,hT,rfl,hw,hw2⟩:=y';have ew:w=v:=by
        have z:=hw xs sq;rw[hvv] at z;exact(Option.some.inj z).symm
       have ew2:w2'=u:=by
        have z:=hw2 ys sq';rw[hvu] at z;exact(Option.some.inj z).symm
       subst ew ew2;have x3:Ext r2 r2 H2 (upd H2 T (.tup [w,w2'])):=Py hT
       have pp:Rps r2 (upd H2 T (.tup [w,w2'])) [y,y2] [w,w2']:=Rps.cons (pv.ext x3) (Rps.cons (pu.ext x3) Rps.nil)
       have aH:=aG.same (Xd (o:=.tup [w,w2']) hT)
       have go:∀σ' H' r' dl' S',Ext r2 r' (upd H2 T (.tup [w,w2'])) H'->Rs r' H' dl' σ'->Rel X.K Z r' S' H'->(∃m',m'<m/\W (k+1) m' dl' S')->∃m',m'<m/\∃r' dl' S',Ext r1 r' H1 H'/\Rs r' H' dl' σ'/\Rel X.K Z r' S' H'/\W (k+1) m' dl' S':=
        λσ' H' r' dl' S' x rs' rel' ⟨m',hm,w'⟩=>⟨m',hm,r',dl',S',x2.trans (x3.trans x),rs',rel',w'⟩
       exact⟨T,[w,w2'],rfl,SqT.of Xs,by rw[h2];rfl,by rw[h2];rfl,r2,_,S2,_,JM (rs2.ext x3) pp,aH,q,⟨go,λσ' H' r' dl' S' x rs' rel' z=>ret.nx σ' H' r' dl' S' (x1.trans (x2.trans (x3.trans x))) rs' rel' z,go,ret.rt.ext (x1.trans (x2.trans x3))⟩⟩
      ·obtain⟨hk,q⟩:=q;exact .inl ⟨⟨xs,ys,sq,sq',by rw[<- pr.1,<- pr'.1];exact hk.symm⟩,ret.nx σ2 H2 r2 dl2 S2 (x1.trans x2) rs2 aG q⟩
     ·exact q.elim
  ·exact q1.elim
end
section
variable {X:Cx}{Z:Zx}{pos:Pos}
def Vv (k:Nat)(neg:Bool):W2:=λx y S Q=>match y with
 | .tup ys=>match YI (eqN k) ys x with
  | some b=>Q (.bl (if neg then !b else b)) S
  | none=>False
 | _=>False
theorem Ce (hr:Z5 j X.A)(hk:k<=3):OpR X (compareOp .In) (upO X.K Z (Vv k false)):=by
 intro aA s σ H x y v u Qv I rx ry h;obtain⟨r,S,dx,dy,Q,bD,px,py,q,ret⟩:=h;have hun:=hr.un;cases py with
 | @tup ds xs a e1 l1 f1=>
  have q':(match YI (eqN k) ds dx with|some b=>Q (.bl b) S|none=>False):=q;split at q'
  ·rename_i b eb;cases ry;obtain⟨is,ri,ti,_⟩:=VC I e1;obtain⟨g,g1,g2⟩:=Q6 (A:=X.A.in1) I (by show X.A.units+1+k<_;omega) ⟨l1,f1⟩ ri px rx eb;refine SeqAt.in_tupleAt g ti g1 ?_;rw[g2];exact⟨.bl b,H,I,rfl,ret _ _ _ _ _ Ext.refl bD (.bl b) q'⟩
  ·exact q'.elim
 | _=>exact(show False from q).elim
theorem za3 (hr:Z5 j X.A)(hk:k<=3):OpR X (compareOp .NotIn) (upO X.K Z (Vv k true)):=by
 intro aA s σ H x y v u Qv I rx ry h;obtain⟨r,S,dx,dy,Q,bD,px,py,q,ret⟩:=h;have hun:=hr.un;cases py with
 | @tup ds xs a e1 l1 f1=>
  have q':(match YI (eqN k) ds dx with|some b=>Q (.bl (!b)) S|none=>False):=q;split at q'
  ·rename_i b eb;cases ry;obtain⟨is,ri,ti,_⟩:=VC I e1;obtain⟨g,g1,g2⟩:=Q6 (A:=X.A.in1) I (by show X.A.units+1+k<_;omega) ⟨l1,f1⟩ ri px rx eb;refine SeqAt.notIn_tupleAt g ti g1 ?_;rw[g2];exact⟨.bl (!b),H,I,rfl,ret _ _ _ _ _ Ext.refl bD (.bl (!b)) q'⟩
  ·exact q'.elim
 | _=>exact(show False from q).elim
end
structure Dm (K:Fg)(C:Addr)(m aL:Str)(st:Stmt)(ps:List Str) where
 f:Addr
 fd:FuncData
 F:Fun K m aL st f fd
 m:UO K C m f
 b:Xl K fd ps []
structure Fm (P:Program)(w:World)(K:Fg)(mg:Str->Option Value)(base:Heap)(k:Nat)(C:Addr)(x:Str)(ps:List Str)(sd:Sd) where
 f:Addr
 fd:FuncData
 ok:YL P w K mg base (CXE P w) k f fd ps (upF K sd)
 m:UO K C x f
 b:Xl K fd ps []
def Dm.mk' {P:Program}{w:World}{K:Fg}{mg:Str->Option Value}{base:Heap}{k:Nat}{C:Addr}{x aL:Str}{st:Stmt}{ps:List Str}{sd:Sd}(d:Dm K C x aL st ps)(h:YL P w K mg base (CXE P w) k d.f d.fd ps (upF K sd)):Fm P w K mg base k C x ps sd:=
 ⟨d.f,d.fd,h,d.m,d.b⟩
theorem U9:Pw (CXE P w) X (λ_ _ _=>False):=λ_ _ _ _ _ _ _ h=>by
 obtain⟨_,_,_,_,_,_,_,_,_,_,_,_,q⟩:=h;exact q.elim
section
variable {X:Cx}{Z:Zx}
theorem zcB (hr:Z5 k X.A):OpR X (compareOp .In) (upO X.K Z (YH (wIn 1 false))):=by rw[XA];exact do_in 1 (by have:=hr.un;omega)
theorem C7 (hr:Z5 k X.A):OpR X (compareOp .NotIn) (upO X.K Z (YH (wIn 1 true))):=by rw[XA];exact Cu 1 (by have:=hr.un;omega)
theorem Av (hr:Z5 k X.A):OpR X (compareOp .Eq) (upO X.K Z (YH (V7 1))):=by rw[XA];exact Dx 1 hr (by have:=hr.un;omega)
end
section
variable {X:Cx}{Z:Zx}{pos:Pos}
theorem zbL (I:Inv X aA σ H s)(bD:Rel X.K Z r S H)(hn:r[n]?=some a)(hm:r[m]?=some a')(eo:lAt S n=some o)(eo':lAt S m=some o')(e:eqL (eqN k) (Zq o) (Zq o')=some b)(hu:X.A.units+1+k<cLine):SeqAt.RcNeAt X.A s (.ref a) (.ref a') (!b):=by
 obtain⟨eo,eL⟩:=YF eo;obtain⟨eo',eL'⟩:=YF eo';obtain⟨z,hz,ob⟩:=bD.at eo;rw[hn] at hz;cases hz
 obtain⟨z,hz,ob'⟩:=bD.at eo';rw[hm] at hz;cases hz
 obtain⟨xs,sq,pr⟩:=ob.list eL;obtain⟨ys,sq',pr'⟩:=ob'.list eL';obtain⟨is,ri,pl,_⟩:=I.list sq;obtain⟨js,rj,pl',_⟩:=I.list sq';obtain⟨g1,g2⟩:=RT (A:=X.A.in1) (V5 k) I (by show X.A.units+1+k<_;omega) pr pr' ri rj e;by_cases hs:is.toArray.size=js.toArray.size
 ·have q:=SeqAt.RcNeAt.lists (A:=X.A) pl.isList pl'.isList hs (by omega) g1
  have e2:(List.range is.toArray.size).all (X7 (eqN k) (Zq o) (Zq o'))=b:=by
   rw[<- g2,<- hs,Nat.min_self];simp
  rw[e2] at q;exact q
 ·have q:=SeqAt.RcNeAt.lists_lengths (A:=X.A) pl.isList pl'.isList (by simpa using hs) (by omega)
  have e2:b=false:=by
   rw[<- g2,show (is.toArray.size==js.toArray.size)=false by simpa using hs,Bool.and_false]
  rw[e2];exact q
theorem zab (k:Nat)(hr:Z5 j X.A)(hu:X.A.units+1+k<cLine):OpR X (compareOp .NotEq) (upO X.K Z (VX k)):=by
 intro aA s σ H x y v u Qv I rx ry h;obtain⟨r,S,dx,dy,Q,bD,px,py,q,ret⟩:=h;have flat:∀ {dx dy:D} {x y:V},Rp r H dx x->Rp r H dy y->ZG x v->ZG y u->Vt k S dx dy=eqN (k+1) dx dy->VX k dx dy S Q->wpAny (model X.prog X.w) X.A (compareOp .NotEq v u) (EP X aA σ Qv) X.xe s:=λpx py rx ry e q=>by
  refine GJ (Z:=Z) (V5 k) hu aA s σ H _ _ v u Qv I rx ry ⟨r,S,_,_,Q,bD,px,py,?_,ret⟩;unfold VX at q;rw[e] at q;exact q
 cases px with
 | @ref n a hn=>
  cases py with
  | @ref m a' hm=>
   cases rx;cases ry;unfold VX Vt at q;dsimp only at q;split at q
   ·rename_i b e;split at e
    ·rename_i o o' eo eo';exact zbL I bD hn hm eo eo' e hu X.prog X.w X.xe _ ⟨.bl (!b),H,I,rfl,ret _ _ _ _ _ Ext.refl bD (.bl (!b)) q⟩
    ·cases e
   ·exact q.elim
  | non=>exact flat (.ref hn) .non rx ry rfl q
  | bl i=>exact flat (.ref hn) (.bl i) rx ry rfl q
  | int i=>exact flat (.ref hn) (.int i) rx ry rfl q
  | str i=>exact flat (.ref hn) (.str i) rx ry rfl q
  | tup a b c=>exact flat (.ref hn) (.tup a b c) rx ry rfl q
  | exc a=>exact flat (.ref hn) (.exc a) rx ry rfl q
 | non=>exact flat .non py rx ry rfl q
 | bl i=>exact flat (.bl i) py rx ry rfl q
 | int i=>exact flat (.int i) py rx ry rfl q
 | str i=>exact flat (.str i) py rx ry rfl q
 | tup a b c=>exact flat (.tup a b c) py rx ry rfl q
 | exc a=>exact flat (.exc a) py rx ry rfl q
theorem zbn (hr:Z5 k X.A):OpR X (compareOp .NotEq) (upO X.K Z (YH (VX 1))):=by rw[XA];exact zab 1 hr (by have:=hr.un;omega)
def NP:W2:=λx y S Q=>match x,y with
 | .ref n,.ref m=>match S[n]?,S[m]? with
  | some (.lst xs),some (.lst ys)=>xs.length+ys.length<=1000/\Q (.ref S.length) (S++[.lst (xs++ys)])
  | _,_=>False
 | _,_=>False
theorem Rps.app:∀ {ds es:List D} {xs ys:List V},Rps r H ds xs->Rps r H es ys->Rps r H (ds++es) (xs++ys)
 | [],es,xs,ys,p,q=>by
  have z:=p.unnil;subst z;exact q
 | d::ds,es,xs,ys,p,q=>by
  obtain⟨v,vs,rfl,p1,p2⟩:=p.uncons;exact Rps.cons p1 (p2.app q)
theorem HS:OpR X (binaryOp .Add) (upO X.K Z (YH NP)):=by
 rw[XA];exact Uz Ed λx y H Qv ⟨r,S,dx,dy,Q,bD,px,py,q,ret⟩=>by
  unfold NP at q;split at q
  ·rename_i n m;split at q
   ·rename_i xs ys e1 e2;obtain⟨hl,q⟩:=q;cases px with
    | @ref _ a hn=>
     cases py with
     | @ref _ a' hm=>
      obtain⟨z,hz,ob⟩:=bD.at e1;rw[hn] at hz;cases hz
      obtain⟨z,hz,ob'⟩:=bD.at e2;rw[hm] at hz;cases hz
      obtain⟨us,h1,p1⟩:=ob;obtain⟨vs,h2,p2⟩:=ob';refine⟨a,a',us,vs,rfl,rfl,h1,h2,?_,λp hp=>?_⟩
      ·rw[<- p1.1,<- p2.1];exact Wv hl
      ·obtain⟨aJ,x⟩:=bD.push hp (p1.app p2);exact ret _ _ _ (.ref S.length) _ x aJ (W7 bD.len) q
   ·exact q.elim
  ·exact q.elim
theorem F2 (h1:S[n]?=some (.lst xs))(h2:S[m]?=some (.lst ys))(hl:xs.length+ys.length<=1000)(hq:Q (.ref S.length) (S++[.lst (xs++ys)])):YH NP (.ref n) (.ref m) S Q:=by
 rw[XA];unfold NP;simp only[h1,h2];exact⟨hl,hq⟩
def MT (X:Cx)(m:Str)(tbl:List (Addr×Sd)):Prop:=∀C sd,(C,sd)∈tbl->Cls X.K C/\∃(f:Addr)(fd:FuncData)(k:Nat)(ps:List Str),UO X.K C m f/\YL X.prog X.w X.K X.mg X.base (CXE X.prog X.w) k f fd ps (upF X.K sd)/\Z5 k X.A/\Xl X.K fd ps []
theorem Gj:MT X m []:=λ_ _ h=>by cases h
theorem XY (c:Cls X.K C)(G:Fm X.prog X.w X.K X.mg X.base k C m ps sd)(hr:Z5 k X.A)(h:MT X m tbl):MT X m ((C,sd)::tbl):=λC' sd' hm=>by
 rcases zS.mp hm with e|e
 ·cases e;exact⟨c,G.f,G.fd,k,ps,G.m,G.ok,hr,G.b⟩
 ·exact h C' sd' e
theorem B8 (he:PE X o ta)(M:MT X m tbl)(hx:W4 X W)(ha:PA X (e::es) t)(hst:starEach (e::es) X.env=(false,eval e X.env)::starEach es X.env)(hpl:(backTo pos (starEach es X.env)).any (·.1)=false)(ht:eval (.Call (.Attribute o m aQ) (e::es) [] pos) X.env=(do
   let ov <- eval o X.env
   standAt aQ.atName
   let (f,first) <- holding [ov] (getMethod ov m pl)
   callWith pos f first (backTo pos (starEach (e::es) X.env)) (backToKw pos (keywordEach [] X.env)))):
  PE X (.Call (.Attribute o m aQ) (e::es) [] pos) (λσ H Q=>ta σ H λx H1=>∃a C dx fs sd,x=.ref a/\H1 a=some (.ins C dx fs)/\(C,sd)∈tbl/\fs.lookup m=none/\t σ H1 λvs H2=>upF X.K sd (x::vs) H2 Q (W σ)):=by
 intro aA s σ H Q I h;refine PySem.W.methodCall_KW (pl:=pl) (thn (he aA s σ H _ I h) λu s1 ⟨x,H1,I1,rx,a,C,dx,fs,sd,ex,ea,hm',l,q⟩=>?_) ht;subst ex;obtain rfl:u=Value.ref a:=rx;obtain⟨c,f,fd,k,ps,hm,F,hr,hb⟩:=M C sd hm';refine FY I1 ea c hm l ?_;exact PySem.W.callWith_K (first:=[.ref a]) (h₀:=X.base) I.ok.mod.kin hm.kp (thn (ha pos aA s1 σ H1 _ I1 q) λus s2 ⟨vs,H2,I2,r,q2⟩=>⟨I2.kIn,Ht (us:=.ref a::us) (vs:=.ref a::vs) F hr hb hx I2 (.cons rfl r) q2⟩) hst hpl
@[irreducible] def Pq (tbl:List (Addr×Sd))(m:Str)(ex:Ev->Addr->Sto->Prop)(to:TDE)(t:TDA):TDE:=λdl S Q=>to dl S λd S1=>∃n C fs sd,d=.ref n/\S1[n]?=some (.ins C fs)/\(C,sd)∈tbl/\fs.lookup m=none/\t dl S1 λds S2=>sd (d::ds) S2 Q (ex dl)
theorem HR (ho:PD X ⟨ex,W⟩ o to)(M:MT X m tbl)(hx:W4 X W)(ha:PDA X ⟨ex,W⟩ (e::es) t)(hst:starEach (e::es) X.env=(false,eval e X.env)::starEach es X.env:=by rfl)(hpl:(backTo pos (starEach es X.env)).any (·.1)=false:=by rfl)(ht:eval (.Call (.Attribute o m aQ) (e::es) [] pos) X.env=(do
   let ov <- eval o X.env
   standAt aQ.atName
   let (f,first) <- holding [ov] (getMethod ov m pl)
   callWith pos f first (backTo pos (starEach (e::es) X.env)) (backToKw pos (keywordEach [] X.env))):=by rfl):PD X ⟨ex,W⟩ (.Call (.Attribute o m aQ) (e::es) [] pos) (Pq tbl m ex to t):=
 Yp (B8 ho M hx ha hst hpl ht) λσ H Qv ⟨r,dl,S,Q,rs,bD,h,ret⟩=>by
  unfold Pq at h;refine⟨r,dl,S,_,rs,bD,h,λv H1 r1 d S1 e1 aF p1 q1=>?_⟩;obtain⟨n,C,fs,sd,rfl,eS,hm,hl,q1⟩:=q1;obtain⟨a,dx,fs',rfl,hr1,eH,fr⟩:=F6 (C:=C) (n:=n) (fs:=fs) aF.b p1 (by simp only[WL,eS,if_pos]);exact⟨a,C,dx,fs',sd,rfl,eH,hm,fr.lookup.2 hl,r1,dl,S1,_,rs.ext e1,aF,q1,λvs H2 r2 ds S2 e2 aG p2 q2=>Kc (Z:=⟨ex,W⟩) (rs.ext (e1.trans e2)) aG (Rps.cons (p1.ext e2) p2) q2 (ret.ext (e1.trans e2))⟩
theorem FN {tbl:List (Addr×Sd)}{C:Addr}{m:Str}{ex:Ev->Addr->Sto->Prop}{sd:Sd}{to:TDE}{t:TDA}{dl:Ev}{S S1:Sto}{Q:DK}{n:Nat}{fs:List (Str×D)}(hto:∀K:DK,K (.ref n) S1->to dl S K)(h:S1[n]?=some (.ins C fs))(hm:(C,sd)∈tbl)(hf:fs.lookup m=none)(hq:t dl S1 λds S2=>sd (.ref n::ds) S2 Q (ex dl)):Pq tbl m ex to t dl S Q:=by
 unfold Pq;exact hto _ ⟨n,C,fs,sd,rfl,h,hm,hf,hq⟩
structure Kx (K:Fg)(C:Addr):Prop where
 cl:Cls K C
 ha:PySem.W.findIn K (.ref C) "__class__"=some (some (.builtin "object.__class__"))
 hn:PySem.W.specialIn K (.builtin "object.__class__") "__get__"=some (some (.builtin "getset_descriptor.__get__"))
 ht:PySem.W.takesIn K (.builtin "object.__class__")=some true
 hm:PySem.W.mroIn K C (.type "object")=some true
def KT (K:Fg)(cv:Value)(ans:List (Addr×Bool)):Prop:=∀C b,(C,b)∈ans->PySem.W.kitOne K (.ref C) cv=some b/\Kx K C
end
section
variable {X:Cx}{Z:Zx}
end
section
variable {n:Nat}{I:Addr}{fp wr:List Addr}{P:Nat->Value->Prop}{St:Nat->Shared->Prop}{prog:Program}{w:World}{A:Around}{s:Shared}{E:Value->Shared->Prop}{G:Array GenState->Array GenState->Prop}
end
section
variable {X:Cx}{Z:Zx}
end
structure Vh (sc around:Scope)(own caps:List Str):Prop where
 kind:sc.kind=.function
 nocell:∀y∈sc.names,y.2≠.cell
 own:∀y∈sc.names,y.2=.local->sc.names.lookup y.1=some .local
 cap:∀y∈caps,sc.names.lookup y=some .free
 out:∀y∈sc.names,y.2=.free->around.names.lookup y.1=some .cell
def SX (k:Nat)(caps:List Nat)(wi:TI)(gt:TG)(te:TE):TE:=λσ H Q=>wi σ H λJ H1=>∀D,H1 D=none->∃W:Nat->Nat->Hp->Prop,(∃m,W 0 m (upd H1 D (.lst [])))/\∀i m H,W i m H->
 (J.stop i H/\Q (.ref D) H)\/(J.go i H/\∀x H',J.yld i H x H'->∀o:St,o.length=k->gt x (o++Yx caps σ) H' λσ8 H8=>(∃o8:St,o8.length=k/\σ8=o8++Yx caps σ)/\
  te σ8 H8 λy H3=>∃ys,H3 D=some (.lst ys)/\ys.length<sizeLine/\∃m',m'<m/\W (i+1) m' (upd H3 D (.lst (ys++[y]))))
section
variable {X:Cx}{aA:LA}{σ:St}{H:Hp}{s:Shared}
theorem CG (I:Inv X aA σ H s)(cs:Vh sc X.env.scope own N)(hN:∀(j:Nat)(y:Str),N[j]?=some y->∃i,caps[j]?=some i/\X.N[i]?=some y)(aV:caps.length=N.length)(c1:∀x c,cl.lookup x=some c->X.env.cells.lookup x=some c)(c2:∀y∈sc.names,y.2=.free->cl.lookup y.1=X.env.cells.lookup y.1)(hf:∀b∈fp,Xc X aA H b)(hfo:∀b∈fp,b<s.heap.objs.size)(hns:h1.Ns s.heap.objs.size m)(hk:∀b o,s.heap.get? b=some o->h1.get? b=some o):
  Inv (Cx.comp X sc (own++N) cl s.heap.objs.size s H fp (X.pn++aA)) [] (List.replicate own.length none++Yx caps σ) H { s with heap:=h1,toks:=tk }:=by
 have stk:∀b∈frs X.stack,b=X.env.locals\/b∈X.fs:=λb hb=>zS.mp (I.stkSub b hb)
 refine⟨⟨I.ok.mod,cs.kind,I.ok.glob,I.ok.blt,zD _,λa b c h1 h2=>I.ok.inj a b c (c1 _ _ h1) (c1 _ _ h2),λy hy=>?_,λ_ _ z=>Bool.noConfusion z,I.ok.hd,I.ok.frames,.inl rfl,λb hb=>⟨zV (hfo b hb),λy c e=>(hf b hb).2.2.2.2.1 y c (c1 _ _ e)⟩,
  I.bs,yI I.ok.bsz I.sz,λb o e hb=>?_,λb hb z=>?_,I.stack,I.stkFree⟩,rfl,I.bare,Un.kept hk,⟨m,hns,λi y v e1 e2 e3=>?_⟩,λy c e=>?_,I.hok.fresh (zD _),λy c e=>I.freeC y c (c1 _ _ e),λp hp=>?_,I.hok.kept hk,?_⟩
 ·have hfr:sc.names.lookup y=some .free:=JR cs.nocell hy
  have hm:=R0 hfr;obtain⟨c,e⟩:=I.ok.has y (.inl (cs.out _ hm rfl));exact⟨c,(c2 _ hm rfl).trans e⟩
 ·rcases (hf b hb).2.2.2.1 with z|z
  ·exact I.ok.noex b o e z
  ·exact absurd (zZ (Heap.lt_size (I.ok.bs b o e).1) z) (yH _)
 ·rcases stk b z with z|z
  ·exact(hf b hb).2.1 z
  ·exact(hf b hb).2.2.1 z
 ·rcases Nat.lt_or_ge i own.length with hi|hi
  ·rw[zP (by simpa using hi),List.getElem?_replicate] at e2;simp[hi] at e2
  ·obtain⟨i,rfl⟩:∃k,i=own.length+k:=⟨i-own.length,by omega⟩;have e1':N[i]?=some y:=by
    rw[yD hi] at e1;simpa using e1
   have e2:(Yx caps σ)[i]?=some (some v):=by
    rw[yD (by simp)] at e2;simpa using e2
   obtain⟨j,hj,hy⟩:=hN i y e1';have e2':σ[j]?=some (some v):=by
    simp only[Yx,zG,hj,Option.map_some,Option.some.injEq] at e2;cases q:σ[j]? with
    | none=>rw[q] at e2;cases e2
    | some o=>rw[q] at e2;simp at e2;rw[e2]
   have hfr:sc.names.lookup y=some .free:=cs.cap y (zL e1')
   have hm:=R0 hfr
   have hce:X.env.scope.names.lookup y=some .cell:=cs.out _ hm rfl;obtain⟨m0,_,hl⟩:=I.loc;obtain⟨u,r,l⟩:=hl j y v hy e2' (.inr (.inl hce));refine⟨u,r,.inr ⟨Ih hfr,?_⟩⟩;rcases l with ⟨k,_⟩|⟨_,c,ec,hcell⟩
   ·rw[show X.env.kindOf y=some .cell from hce] at k;cases k
   ·exact⟨c,(c2 _ hm rfl).trans ec,hcell.keeps hk⟩
 ·obtain⟨v,z⟩:=I.cell y c (c1 _ _ e);exact⟨v,z.keeps hk⟩
 ·have hp':p∈X.pn++aA:=by simpa using hp
  obtain⟨p1,p2,p3,p4,p5⟩:=I.pin p hp';refine⟨hk _ _ p1,p2,zV (Heap.lt_size p1),λz=>?_,p5⟩;rcases stk _ z with z|z
  ·exact p3 z
  ·exact p4 z
 ·simp[Yx,aV]
end
section
variable {X:Cx}{bA aY:Expr}{aU:List Expr}{kk:Nat}{tp:Pos}{pos:Pos}{sc:Scope}{own N:List Str}{caps:List Nat}{wi:TI}{gt:TG}{te:TE}
theorem GW (hc:X.calm=true)(cs:Vh sc X.env.scope own N)(hN:∀(j:Nat)(y:Str),N[j]?=some y->∃i,caps[j]?=some i/\X.N[i]?=some y)(aV:caps.length=N.length)(hi:PI X (.Tuple aU kk tp) aY wi)(hg:∀cl C s0 H0 fp pn,PG (Cx.comp X sc (own++N) cl C s0 H0 fp pn) (.Tuple aU kk tp) gt)(he:∀cl C s0 H0 fp pn,PE (Cx.comp X sc (own++N) cl C s0 H0 fp pn) bA te)(hs:∀y,foldedSetIterable aY X.env y=pure y)(I:Inv X aA σ H s)(h:SX own.length caps wi gt te σ H Q)(bC:∀D C s',Hz X aA σ C Q D s'->compPost (model X.prog X.w) X.A X.xe use Qr (.ref D) C (.ok .next) s'):
  wpAny (model X.prog X.w) X.A (comprehension (.ListComp bA [⟨.Tuple aU kk tp,aY,[],0⟩] sc pos) sc X.env p2 (newList []) false (eval aY X.env) use) Qr X.xe s:=by
 obtain⟨cl,k1,k2,k3⟩:=FT (sc:=sc) (env:=X.env) λy hy hf=>I.ok.has y.1 (.inl (cs.out y hy hf))
 refine wpAny_comprehension_free rfl hs k1 cs.kind cs.own (thn (hi aA s σ H _ I h) λv s1 h1=>thn h1 λitv s2 h2=>?_);obtain⟨it,fp,tn,J,H2,e,I2,T,st2,f2,body⟩:=h2;subst e;have hfo:∀b∈fp,b<s2.heap.objs.size:=λb hb=>by
  obtain⟨o,e,_⟩:=T.obj _ _ st2 b hb;exact Heap.lt_size e
 have hD:H2 s2.heap.objs.size=none:=I2.hok.fresh (zD _);obtain⟨W,⟨m0,w0⟩,turn⟩:=body _ hD;refine wpAny_newObj_type ?_;have I3:Inv X aA σ (upd H2 s2.heap.objs.size (.lst [])) { s2 with heap:=s2.heap.push { cls:=.type "list",dict:=none,data:=.seq ([]:List Value).toArray },toks:=s2.toks }:=
  I2.laid (t':=s2.toks) (λb u e=>Heap.get?_push_of_some _ e) (zD _) ⟨zO _,[],0,.nil,Heap.get?_push_size _ rfl⟩
 generalize hs3:({ s2 with heap:=s2.heap.push { cls:=.type "list",dict:=none,data:=.seq ([]:List Value).toArray },toks:=s2.toks }:Shared)=s3 at I3;have es3:({ s2 with heap:=s2.heap.push { cls:=.type "list",dict:=none,data:=.seq ([]:List Value).toArray } }:Shared)=s3:=hs3
 try rw[es3]
 have f3:∀b∈fp,Xc X aA (upd H2 s2.heap.objs.size (.lst [])) b:=λb hb=>⟨by rw[Yi (zV (hfo b hb))];exact(f2 b hb).1,(f2 b hb).2⟩
 have up3:∀b o,s2.heap.get? b=some o->s3.heap.get? b=some o:=λb o e=>by rw[<- hs3];exact Heap.get?_push_of_some _ e
 have st3:tn 0 s3.heap:=T.keep _ _ _ st2 λb _ o e=>up3 b o e
 have hfo3:∀b∈fp,b<s3.heap.objs.size:=λb hb=>by
  obtain⟨o,e,_⟩:=T.obj _ _ st3 b hb;exact Heap.lt_size e
 refine wpAny_newFunctionEnv cs.nocell (λy hy=>by simp at hy) (λh4 ns4 sb4=>?_) cs.kind;have hk4:∀b o,s3.heap.get? b=some o->h4.get? b=some o:=λb o e=>(sb4.2 b (zV (Heap.lt_size e))).trans (Heap.get?_push_of_some _ e)
 have I4:=CG (tk:=s3.toks+([]:List (Str×Value)).length) I3 cs hN aV k2 k3 f3 hfo3 ns4 hk4;generalize hs4:({ s3 with heap:=h4,toks:=s3.toks+([]:List (Str×Value)).length }:Shared)=s4 at I4 ⊢;have eh4:s4.heap=h4:=by rw[<- hs4]
 have st4:tn 0 s4.heap:=by rw[eh4];exact T.keep _ _ _ st3 λb _ o e=>hk4 b o e
 have fY:∀ {H':Hp},(∀b∈fp,H' b=none)->∀b∈fp,Xc (Cx.comp X sc (own++N) cl s3.heap.objs.size s3 (upd H2 s2.heap.objs.size (.lst [])) fp (X.pn++aA)) [] H' b:=λhn b hb=>by
  obtain⟨_,z2,z3,z4,z5,z6⟩:=f3 b hb;refine⟨hn b hb,zV (hfo3 b hb),λz=>?_,.inl hb,λy c e=>z5 y c (k2 _ _ e),λp hp=>z6 p (by simpa using hp)⟩;rcases zS.mp (I3.stkSub b z) with z|z
  ·exact z2 z
  ·exact z3 z
 have loop:codeAny (model X.prog X.w) X.A (.compLoop (.ListComp bA [⟨.Tuple aU kk tp,aY,[],0⟩] sc pos) 0 (.ref it) (.ref s2.heap.objs.size) (compEnvC sc cl s3.heap.objs.size X.env))
   (compPost (model X.prog X.w) X.A X.xe use Qr (.ref s2.heap.objs.size) s3.heap.objs.size) s4:=by
  refine LCp.codeAny_compLoop_pair (λn s'=>∃i o H',o.length=own.length/\Inv (Cx.comp X sc (own++N) cl s3.heap.objs.size s3 (upd H2 s2.heap.objs.size (.lst [])) fp (X.pn++aA)) [] (o++Yx caps σ) H' s'/\tn i s'.heap/\(∀b∈fp,H' b=none)/\W i n H') ?_ m0
   ⟨0,_,_,List.length_replicate,I4,st4,λb hb=>(f3 b hb).1,w0⟩
  rintro n s5 ⟨i,o,H5,ho,I5,st5,fr5,w5⟩;rcases turn i n H5 w5 with ⟨stop,q⟩|⟨go,step⟩
  ·refine thn (T.done (Cx.comp X sc (own++N) cl s3.heap.objs.size s3 (upd H2 s2.heap.objs.size (.lst [])) fp (X.pn++aA)) rfl rfl rfl hc i [] s5 _ H5 _ I5 (fY fr5) st5 stop) λr s6 ⟨hr,I6⟩=>?_
   subst hr;refine bC _ _ _ ⟨⟨H5,I3.call' I6.os I6.base I6.hok I6.bare (λb hb=>?_),q,I6.free⟩,?_,Nat.ne_of_gt I3.lt,I3.sz,λy c e z=>?_,λp hp z=>?_⟩
   ·obtain⟨_,z2,z3,z4,z5,z6⟩:=f3 b hb;exact⟨z4,z2,z5,z6⟩
   ·obtain⟨m,hm,_⟩:=I6.loc;exact⟨m,hm⟩
   ·obtain⟨v,hv⟩:=I3.cell y c e;exact absurd (z ▸ hv.lt) (yH _)
   ·exact absurd (z ▸ Heap.lt_size (I3.pin p hp).1) (yH _)
  ·refine thn (T.item (Cx.comp X sc (own++N) cl s3.heap.objs.size s3 (upd H2 s2.heap.objs.size (.lst [])) fp (X.pn++aA)) rfl rfl rfl hc i [] s5 _ H5 _ I5 (fY fr5) st5 go) λr s6 ⟨u,hr,h6⟩=>?_
   subst hr;refine wpAny_mono h6 (λ_ s7 ⟨y,H7,I7,r7,y7,st7,fr7⟩=>?_) λ_ _ z=>z
   have I7':=I7.pinned (fY fr7) (T.obj _ _ st7);refine wpAny_mono (hg _ _ _ _ _ _ _ s7 _ H7 y u _ I7' r7 (step y H7 y7 o ho)) (λ_ s8 ⟨σ8,H8,I8,⟨o8,ho8,e8⟩,q8⟩=>?_) λ_ _ z=>z.elim
   subst e8;have stay:∀ {H':Hp} {s':Shared},Inv (Cx.comp X sc (own++N) cl s3.heap.objs.size s3 (upd H2 s2.heap.objs.size (.lst [])) fp (X.pn++aA)) ([]++Tr fp s7.heap) (o8++Yx caps σ) H' s'->∀m',m'<n->W (i+1) m' H'->
     ∃m,m<n/\∃i o H',o.length=own.length/\Inv (Cx.comp X sc (own++N) cl s3.heap.objs.size s3 (upd H2 s2.heap.objs.size (.lst [])) fp (X.pn++aA)) [] (o++Yx caps σ) H' s'/\tn i s'.heap/\(∀b∈fp,H' b=none)/\W i m H':=λ{H' s'} J m' hm w'=>by
    refine⟨m',hm,i+1,o8,H',ho8,J.unpinned,T.keep _ _ _ st7 λb hb o e=>(J.pin (b,o) (yK _ (yK _ (UM hb e)))).1,λb hb=>?_,w'⟩;obtain⟨o,e,d⟩:=T.obj _ _ st7 b hb;exact(J.pin (b,o) (yK _ (yK _ (UM hb e)))).2.1
   refine wpAny_mono (he _ _ _ _ _ _ _ s8 _ H8 _ I8 q8) (λu2 s10 ⟨z,H10,I10,r10,q10⟩=>?_) λ_ _ z=>z.elim
   obtain⟨ys,hD10,hlt,m',hm,w10⟩:=q10;refine wpAny_mono (KS (X:=(Cx.comp X sc (own++N) cl s3.heap.objs.size s3 (upd H2 s2.heap.objs.size (.lst [])) fp (X.pn++aA))) _ s10 _ H10 (.ref s2.heap.objs.size) [z] (.ref s2.heap.objs.size) [u2] (λ_ H'=>H'=upd H10 s2.heap.objs.size (.lst (ys++[z]))) I10 rfl (.cons r10 .nil) ⟨_,ys,z,rfl,rfl,hD10,hlt,rfl⟩) (λ_ s11 ⟨_,H11,I11,_,e11⟩=>?_) λ_ _ z=>z.elim
   subst e11;exact stay I11 m' hm w10
 exact codeAny_compStart_list loop (T.self _ 0 s4 _ _ st4 loop)
theorem GA (hc:X.calm=true)(cs:Vh sc X.env.scope own N)(hN:caps.map (λi=>X.N[i]?)=N.map some)
  (hi:PI X (.Tuple aU kk tp) aY wi)(hg:∀cl C s0 H0 fp pn,PG (Cx.comp X sc (own++N) cl C s0 H0 fp pn) (.Tuple aU kk tp) gt)(he:∀cl C s0 H0 fp pn,PE (Cx.comp X sc (own++N) cl C s0 H0 fp pn) bA te)
  (hs:∀y,foldedSetIterable aY X.env y=pure y:=by intro _;rfl):PE X (.ListComp bA [⟨.Tuple aU kk tp,aY,[],0⟩] sc pos) (SX own.length caps wi gt te):=by
 intro aA s σ H Q I h;rw[eval_ListComp];refine GW (use:=none) hc cs (Vq hN).1 (Vq hN).2 hi hg he hs I h λD C s' f=>?_
 obtain⟨⟨H',I',q,hC⟩,⟨m,ns⟩,l,o,c,p⟩:=f;exact⟨m,ns,λh' sb=>⟨.ref D,H',I'.turned (t':=s'.toks) (λb ob hb e=>(sb.2 b hb).trans e) hC l (.inr o) c p,rfl,q⟩⟩
end
section
variable {X:Cx}{Z:Zx}{bA:Expr}{pos:Pos}{sc ar:Scope}{N:List Str}{caps:List Nat}
def Qj (caps:List Nat)(te:TDE)(k:Nat)(dl:Ev)(d1 d2:D)(S:Sto)(nx:Sto->Prop):Prop:=
 te (some d1::some d2::YS caps dl) S λy S2=>match S2[k]? with
  | some (.lst ys)=>ys.length<1000/\nx (S2.set k (.lst (ys++[y])))
  | _=>False
@[irreducible] def Se (caps:List Nat)(ta:TDA)(te:TDE):TDE:=λdl S Q=>ta dl S λds S1=>match ds with
 | [.ref n]=>(lAt S1 n).isSome=true/\∃W:Nat->Nat->Sto->Prop,(∃m,W 0 m (S1++[.lst []]))/\∀k m S2,W k m S2->match lAt S2 n with
  | some o=>match (Zq o)[k]? with
   | some y=>Qj caps te S1.length dl (.int (k:Int)) y S2 λS3=>∃m',m'<m/\W (k+1) m' S3
   | none=>k=(Zq o).length/\Q (.ref S1.length) S2
  | none=>False
 | _=>False
theorem FE {r:List Addr}{H:Hp}{dl:Ev}{σ:St}{d1 d2:D}{v1 v2:V}(h:Rs r H dl σ)(p1:Rp r H d1 v1)(p2:Rp r H d2 v2):Rs r H (some d1::some d2::YS caps dl) (some v1::some v2::Yx caps σ):=by
 have z:=Gm (caps:=caps) h p2;refine⟨by have:=z.1;simp only[zX] at this ⊢;omega,λi e hi=>?_⟩;cases i with
 | zero=>simp at hi;subst hi;exact⟨v1,rfl,p1⟩
 | succ i=>exact z.2 i e (by simpa using hi)
theorem Cj {ta:TDA}{te:TDE}{σ:St}{H:Hp}{Qv:VK}(h:up X.K Z (Se caps ta te) σ H Qv):
  SX 2 caps (G9 X.K (upA X.K Z ta)) (TJ X.K 2 (Tq [0,1])) (up X.K Z0 te) σ H Qv:=by
 obtain⟨r,dl,S,Q,rs,bD,h,ret⟩:=h;unfold Se at h;refine⟨r,dl,S,_,rs,bD,h,λvs H1 r1 ds S1 x1 aF p1 q1=>?_⟩;split at q1
 ·rename_i n;obtain⟨v,vs',rfl,p2,p3⟩:=p1.uncons;have z:=p3.unnil;subst z;cases p2 with
  | @ref n a hr=>
   obtain⟨aX,W,⟨m0,w0⟩,turn⟩:=q1;obtain⟨o1,eo1⟩:=yS.mp aX;obtain⟨xs1,sq1,_⟩:=WD (r:=r1) hr aF.b eo1;refine⟨a,rfl,⟨xs1,sq1⟩,λD0 hD=>?_⟩;obtain⟨aG,x2⟩:=aF.b.push (ds:=[]) (xs:=[]) hD Rps.nil;refine⟨λk m H'=>∃r' S',Ext (r1++[D0]) r' (upd H1 D0 (.lst [])) H'/\Yc X.K r' S' H'/\W k m S',⟨m0,_,_,Ext.refl,aG,w0⟩,?_⟩;rintro k m H2 ⟨r2,S2,x3,rb2,w2⟩;have ha2:r2[S1.length]?=some D0:=x3.adr _ _ (RQ aF.len)
   have hr2:r2[n]?=some a:=(x2.trans x3).adr _ _ hr
   have q:=turn k m S2 w2;split at q
   ·rename_i o eo;obtain⟨xs,sq,pr⟩:=WD (r:=r2) hr2 rb2 eo;split at q
    ·rename_i y ey;obtain⟨v,hv,pv⟩:=pr.get ey;refine .inr ⟨⟨xs,v,sq,hv⟩,λv' H' y' o8 ho8=>?_⟩;obtain⟨T,w,rfl,hT,rfl,hw⟩:=y';have ew:w=v:=by
      have z:=hw xs sq;rw[hv] at z;exact(Option.some.inj z).symm
     subst ew;obtain⟨c1,c2,rfl⟩:∃c1 c2,o8=[c1,c2]:=by
      match o8,ho8 with
      | [c1,c2],_=>exact⟨c1,c2,rfl⟩
     have x4:Ext r2 r2 H2 (upd H2 T (.tup [.int (k:Int),w])):=Py hT
     have rb3:=rb2.same (Xd (o:=.tup [.int (k:Int),w]) hT)
     have rs3:=rs.ext (x1.trans (x2.trans (x3.trans x4)));refine⟨T,[.int (k:Int),w],rfl,SqT.of Xs,rfl,rfl,⟨[some (.int (k:Int)),some w],rfl,rfl⟩,?_⟩;have rsY:=FE (caps:=caps) rs3 (.int (k:Int)) (pv.ext x4);refine⟨r2,_,S2,_,rsY,⟨rb3,λ_ _ _ _ _ _ _ _ _ z=>z.elim⟩,q,λz H4 r4 dz S4 x6 aJ p4 q4=>?_⟩;split at q4
     ·rename_i ys eys;obtain⟨hl,m',hm,q4⟩:=q4;have ha4:r4[S1.length]?=some D0:=x6.adr _ _ ha2;obtain⟨zs,hD4,pz⟩:=aJ.b.ob _ _ _ ha4 eys;obtain⟨rel5,x7⟩:=aJ.b.set ha4 eys (pz.snoc p4);exact⟨zs,hD4,by rw[<- pz.1];exact Qy (yX hl),m',hm,r4,_,x3.trans (x4.trans (x6.trans x7)),rel5,q4⟩
     ·exact q4.elim
    ·obtain⟨hk,q⟩:=q;exact .inl ⟨⟨xs,sq,by rw[<- pr.1];exact hk.symm⟩,ret _ H2 r2 _ S2 (x1.trans (x2.trans x3)) ⟨rb2,bD.xw.ext (x1.trans (x2.trans x3))⟩ (.ref ha2) q⟩
   ·exact q.elim
 ·exact q1.elim
theorem zc9 (har:X.env.scope=ar)(hc:X.calm=true)(cs:Vh sc ar [x1,x2] N)(hl1:sc.names.lookup x1=some .local)(hl2:sc.names.lookup x2=some .local)(hN:caps.map (λi=>X.N[i]?)=N.map some)(hnd:([x1,x2]++N).Nodup)(hg:Gl X "enumerate")(hm:X.mg "enumerate"=none)(hv:bootBuiltins "enumerate"=some (.type "enumerate"))(ha:PDA X Z [a] ta)(he:∀cl C s0 H0 fp pn,PD (Cx.comp X sc ([x1,x2]++N) cl C s0 H0 fp pn) Z0 bA te)(hse:starEach [a] X.env=[(false,eval a X.env)]:=by rfl)(hs:∀y,foldedSetIterable (.Call (.Name "enumerate" p) [a] [] aT) X.env y=pure y:=by intro _;rfl):
  PD X Z (.ListComp bA [⟨.Tuple [.Name x1 p1,.Name x2 p2] kk tp,.Call (.Name "enumerate" p) [a] [] aT,[],0⟩] sc pos) (Se caps ta te):=by
 subst har;refine Yp (GA hc cs hN (gt:=TJ X.K 2 (Tq [0,1])) (te:=up X.K Z0 te) (zbd hg hm hv ha hse) (λcl C s0 H0 fp pn=>?_) he hs) λ_ _ _ h=>Cj h
 have l1:(Cx.comp X sc ([x1,x2]++N) cl C s0 H0 fp pn).env.scope.names.lookup x1=some .local:=lookup_relabel_local hl1
 have l2:(Cx.comp X sc ([x1,x2]++N) cl C s0 H0 fp pn).env.scope.names.lookup x2=some .local:=lookup_relabel_local hl2;exact QL hc (TU hnd (.cons rfl (.inl l1) (.inr l1) (.cons rfl (.inl l2) (.inr l2) .nil))) rfl rfl
end
section
variable {X:Cx}{Z:Zx}{pos:Pos}
def PL:WC:=λds S Q=>match ds with
 | [.ref n]=>match lAt S n with
  | some o=>match Xz (Zq o) with
   | some ns=>Q (.int ns.sum) S
   | none=>False
  | none=>False
 | _=>False
theorem zcV (hc:X.calm=true):Yq X (.builtin "sum") (upC X.K Z PL):=by
 intro aA s σ H xs us Qv I rv h;obtain⟨r,S,ds,Q,bD,ps,q,ret⟩:=h;unfold PL at q;split at q
 ·rename_i n;obtain⟨v,vs,rfl,p1,p2⟩:=ps.uncons;have z:=p2.unnil;subst z;split at q
  ·rename_i o eo;split at q
   ·rename_i ns en;cases p1 with
    | ref h1=>
     obtain⟨eo,eL⟩:=YF eo;obtain⟨a,ha,ob⟩:=bD.at eo;rw[h1] at ha;cases ha
     obtain⟨ys,sq,pr⟩:=ob.list eL;obtain⟨u,rfl,ru⟩:=X3 rv;cases ru;obtain⟨bB,ri,pl,hz⟩:=I.list sq;obtain⟨zs,hz1,hz2⟩:=Ro en pr ri;have isl:=pl.isList;rw[hz1] at isl;refine sum_intListG (I.ok.hd hc) isl λh' tk t' hk=>?_
     have e:preSum (numAt zs.toArray) zs.toArray.size=ns.sum:=by
      rw[preSum_eq,zY (by simp)];show (zs.map (·.1)).sum=ns.sum;rw[hz2]
     rw[e];exact⟨.int _,H,I.kept hk,⟨_,rfl⟩,ret _ _ _ _ _ Ext.refl bD (.int _) q⟩
   ·exact q.elim
  ·exact q.elim
 ·exact q.elim
end
section
variable {X:Cx}{Z:Zx}
end
section
variable {X:Cx}{Z:Zx}{pos:Pos}
def Nw:WC:=λds S Q=>match ds with
 | [.ref n]=>match lAt S n with
  | some o=>match Xz (Zq o) with
   | some ns=>ns.length<64/\∀ms:List Int,ms.Perm ns->ms.Pairwise (·<=·)->Q (.ref S.length) (S++[.lst (ms.map D.int)])
   | none=>False
  | none=>False
 | _=>False
theorem RY:∀ {us:List Value} {ms:List Int},IntsAre us ms->ZF (ms.map V.int) us
 | _,_,.nil=>.nil
 | _,_,.cons n t h=>.cons ⟨t,rfl⟩ (RY h)
theorem zbS:∀ {zs:List (Int×Tok)},us=zs.map (λp=>Value.int p.1 p.2)->IntsAre us (zs.map (·.1)):=by
 intro zs e;subst e
 induction zs with
 | nil=>exact .nil
 | cons z zs ih=>exact .cons z.1 z.2 ih
theorem IK:Yq X (.builtin "sorted") (upC X.K Z Nw):=by
 intro aA s σ H xs us Qv I rv h;obtain⟨r,S,ds,Q,bD,ps,q,ret⟩:=h;unfold Nw at q;split at q
 ·rename_i n;obtain⟨v,vs,rfl,p1,p2⟩:=ps.uncons;have z:=p2.unnil;subst z;split at q
  ·rename_i o eo;split at q
   ·rename_i ns en;obtain⟨hl,q⟩:=q;cases p1 with
    | ref h1=>
     obtain⟨eo,eL⟩:=YF eo;obtain⟨a,ha,ob⟩:=bD.at eo;rw[h1] at ha;cases ha
     obtain⟨ys,sq,pr⟩:=ob.list eL;obtain⟨u,rfl,ru⟩:=X3 rv;cases ru;obtain⟨bB,ri,pl,hz⟩:=I.list sq;obtain⟨zs,hz1,hz2⟩:=Ro en pr ri;have ei:bB=zs.map (λp=>Value.int p.1 p.2):=by
      have z:=congrArg Array.toList hz1;simpa [intItems] using z
     have ia:IntsAre bB ns:=by
      have z:=zbS ei
      rwa [hz2] at z
     have ll:bB.length=ns.length:=by rw[ei,zA,<- hz2,zA]
     refine sorted_ints pl.isList ia (by omega) λout ms a1 a2 a3=>?_
     obtain⟨e,he⟩:=sortedAll_at s.heap bB out;have hf:H (s.heap.objs.size+1)=none:=I.hok.fresh (xO _);obtain⟨aG,x⟩:=bD.push (ds:=ms.map D.int) (xs:=ms.map V.int) hf (Gu ms);refine⟨.ref (s.heap.objs.size+1),_,I.laid (t':=s.toks) (λb o e=>sortedAll_old e) (xO _) (show Xg X.prog X.w _ _ _ (.lst (ms.map V.int)) from ⟨?_,out.toList,e,RY a1,by rw[Array.toArray_toList];exact he⟩),rfl,ret _ _ _ (.ref S.length) _ x aG (W7 bD.len) (q ms a2 a3)⟩;rw[zA,a2.length_eq];exact Wv (by omega)
   ·exact q.elim
  ·exact q.elim
 ·exact q.elim
theorem Ju (h:lAt S n=some o)(e:Xz (Zq o)=some ns)(hl:ns.length<64)(hq:∀ms:List Int,ms.Perm ns->ms.Pairwise (·<=·)->Q (.ref S.length) (S++[.lst (ms.map D.int)])):irr Nw [.ref n] S Q:=by
 rw[WU];unfold Nw;simp only[h,e];exact⟨hl,hq⟩
def wIsB:W2:=λx y S Q=>match x,y with
 | .bl a,.bl b=>Q (.bl (a==b)) S
 | _,_=>False
theorem HN:OpR X (compareOp .Is) (upO X.K Z wIsB):=by
 intro aA s σ H x y v u Qv I rx ry h;obtain⟨r,S,dx,dy,Q,bD,px,py,q,ret⟩:=h;unfold wIsB at q;split at q
 ·rename_i a b;cases px;cases py;cases rx;cases ry;exact is_bool ⟨.bl _,H,I,rfl,ret _ _ _ _ _ Ext.refl bD (.bl _) q⟩
 ·exact q.elim
def MU:W2:=λx y S Q=>match x,y with
 | .ref n,.int k=>match S[n]? with
  | some (.lst xs)=>(0<=k/\k<=1000/\xs.length*k.toNat<=1000)/\Q (.ref S.length) (S++[.lst (List.replicate k.toNat xs).flatten])
  | _=>False
 | _,_=>False
theorem Rps.rep (h:Rps r H ds xs):∀k:Nat,Rps r H (List.replicate k ds).flatten (List.replicate k xs).flatten
 | 0=>Rps.nil
 | k+1=>by
  simp only[xI,xP];exact h.app (Rps.rep h k)
theorem zcC:OpR X (binaryOp .Mult) (upO X.K Z (YH MU)):=by
 rw[XA];exact Uz Az λx y H Qv ⟨r,S,dx,dy,Q,bD,px,py,q,ret⟩=>by
  unfold MU at q;split at q
  ·rename_i n k;split at q
   ·rename_i xs e1;obtain⟨⟨h0,h1,hl⟩,q⟩:=q;cases py;cases px with
    | @ref _ a hn=>
     obtain⟨z,hz,ob⟩:=bD.at e1;rw[hn] at hz;cases hz
     obtain⟨us,g1,p1⟩:=ob;refine⟨a,k,us,rfl,rfl,g1,by omega,by omega,by rw[<- p1.1];exact Wv hl,λp hp=>?_⟩;obtain⟨aJ,x⟩:=bD.push hp (p1.rep k.toNat);exact ret _ _ _ (.ref S.length) _ x aJ (W7 bD.len) q
   ·exact q.elim
  ·exact q.elim
theorem Dv (h1:S[n]?=some (.lst xs))(hk:0<=k/\k<=1000)(hl:xs.length*k.toNat<=1000)(hq:Q (.ref S.length) (S++[.lst (List.replicate k.toNat xs).flatten])):YH MU (.ref n) (.int k) S Q:=by
 rw[XA];unfold MU;simp only[h1];exact⟨⟨hk.1,hk.2,hl⟩,hq⟩
end
section
variable {X:Cx}{Z:Zx}{bA:Expr}{pos:Pos}{sc ar:Scope}{N:List Str}{caps:List Nat}
@[irreducible] def Vy (caps:List Nat)(ta:TDA)(te:TDE):TDE:=λdl S Q=>ta dl S λds S1=>match ds with
 | [.ref n,.ref n']=>((lAt S1 n).isSome=true/\(lAt S1 n').isSome=true)/\∃W:Nat->Nat->Sto->Prop,(∃m,W 0 m (S1++[.lst []]))/\∀k m S2,W k m S2->match lAt S2 n,lAt S2 n' with
  | some o,some o'=>match (Zq o)[k]?,(Zq o')[k]? with
   | some x,some y=>Qj caps te S1.length dl x y S2 λS3=>∃m',m'<m/\W (k+1) m' S3
   | _,_=>k=min (Zq o).length (Zq o').length/\Q (.ref S1.length) S2
  | _,_=>False
 | _=>False
theorem HB (h:up X.K Z (Vy caps ta te) σ H Qv):
  SX 2 caps (iZip X.K (upA X.K Z ta)) (TJ X.K 2 (Tq [0,1])) (up X.K Z0 te) σ H Qv:=by
 obtain⟨r,dl,S,Q,rs,bD,h,ret⟩:=h;unfold Vy at h;refine⟨r,dl,S,_,rs,bD,h,λvs H1 r1 ds S1 x1 aF p1 q1=>?_⟩;split at q1
 ·rename_i n n';obtain⟨v,vs',rfl,p2,p3⟩:=p1.uncons;obtain⟨v',vs2,rfl,p4,p5⟩:=p3.uncons;have z:=p5.unnil;subst z;cases p2 with
  | @ref n a hr=>
   cases p4 with
   | @ref n' a' hr'=>
    obtain⟨⟨aX,hsome'⟩,W,⟨m0,w0⟩,turn⟩:=q1;obtain⟨o1,eo1⟩:=yS.mp aX;obtain⟨o2,eo2⟩:=yS.mp hsome';obtain⟨xs1,sq1,_⟩:=WD (r:=r1) hr aF.b eo1;obtain⟨ys1,sq2,_⟩:=WD (r:=r1) hr' aF.b eo2;refine⟨a,a',rfl,⟨xs1,sq1⟩,⟨ys1,sq2⟩,λD0 hD=>?_⟩;obtain⟨aG,x2⟩:=aF.b.push (ds:=[]) (xs:=[]) hD Rps.nil;refine⟨λk m H'=>∃r' S',Ext (r1++[D0]) r' (upd H1 D0 (.lst [])) H'/\Yc X.K r' S' H'/\W k m S',⟨m0,_,_,Ext.refl,aG,w0⟩,?_⟩;rintro k m H2 ⟨r2,S2,x3,rb2,w2⟩;have ha2:r2[S1.length]?=some D0:=x3.adr _ _ (RQ aF.len)
    have hr2:r2[n]?=some a:=(x2.trans x3).adr _ _ hr
    have hr2':r2[n']?=some a':=(x2.trans x3).adr _ _ hr'
    have q:=turn k m S2 w2;split at q
    ·rename_i o o' eo eo';obtain⟨xs,sq,pr⟩:=WD (r:=r2) hr2 rb2 eo;obtain⟨ys,sq',pr'⟩:=WD (r:=r2) hr2' rb2 eo';split at q
     ·rename_i y y2 ey ey2;obtain⟨v,hv,pv⟩:=pr.get ey;obtain⟨u,hvu,pu⟩:=pr'.get ey2;refine .inr ⟨⟨xs,ys,v,u,sq,sq',hv,hvu⟩,λv' H' y' o8 ho8=>?_⟩;obtain⟨T,w,w2',rfl,hT,rfl,hw,hw2⟩:=y';have ew:w=v:=by
       have z:=hw xs sq;rw[hv] at z;exact(Option.some.inj z).symm
      have ew2:w2'=u:=by
       have z:=hw2 ys sq';rw[hvu] at z;exact(Option.some.inj z).symm
      subst ew ew2;obtain⟨c1,c2,rfl⟩:∃c1 c2,o8=[c1,c2]:=by
       match o8,ho8 with
       | [c1,c2],_=>exact⟨c1,c2,rfl⟩
      have x4:Ext r2 r2 H2 (upd H2 T (.tup [w,w2'])):=Py hT
      have rb3:=rb2.same (Xd (o:=.tup [w,w2']) hT)
      have rs3:=rs.ext (x1.trans (x2.trans (x3.trans x4)));refine⟨T,[w,w2'],rfl,SqT.of Xs,rfl,rfl,⟨[some w,some w2'],rfl,rfl⟩,?_⟩;have rsY:=FE (caps:=caps) rs3 (pv.ext x4) (pu.ext x4);refine⟨r2,_,S2,_,rsY,⟨rb3,λ_ _ _ _ _ _ _ _ _ z=>z.elim⟩,q,λz H4 r4 dz S4 x6 aJ p4 q4=>?_⟩;split at q4
      ·rename_i ys eys;obtain⟨hl,m',hm,q4⟩:=q4;have ha4:r4[S1.length]?=some D0:=x6.adr _ _ ha2;obtain⟨zs,hD4,pz⟩:=aJ.b.ob _ _ _ ha4 eys;obtain⟨rel5,x7⟩:=aJ.b.set ha4 eys (pz.snoc p4);exact⟨zs,hD4,by rw[<- pz.1];exact Qy (yX hl),m',hm,r4,_,x3.trans (x4.trans (x6.trans x7)),rel5,q4⟩
      ·exact q4.elim
     ·obtain⟨hk,q⟩:=q;exact .inl ⟨⟨xs,ys,sq,sq',by rw[<- pr.1,<- pr'.1];exact hk.symm⟩,ret _ H2 r2 _ S2 (x1.trans (x2.trans x3)) ⟨rb2,bD.xw.ext (x1.trans (x2.trans x3))⟩ (.ref ha2) q⟩
    ·exact q.elim
 ·exact q1.elim
theorem TK (har:X.env.scope=ar)(hc:X.calm=true)(cs:Vh sc ar [x1,x2] N)(hl1:sc.names.lookup x1=some .local)(hl2:sc.names.lookup x2=some .local)(hN:caps.map (λi=>X.N[i]?)=N.map some)(hnd:([x1,x2]++N).Nodup)(hg:Gl X "zip")(hm:X.mg "zip"=none)(hv:bootBuiltins "zip"=some (.type "zip"))(ha:PDA X Z [a,b] ta)(he:∀cl C s0 H0 fp pn,PD (Cx.comp X sc ([x1,x2]++N) cl C s0 H0 fp pn) Z0 bA te)(hse:starEach [a,b] X.env=[(false,eval a X.env),(false,eval b X.env)]:=by rfl)(hse2:starEach [b] X.env=[(false,eval b X.env)]:=by rfl)(hs:∀y,foldedSetIterable (.Call (.Name "zip" p) [a,b] [] aT) X.env y=pure y:=by intro _;rfl):
  PD X Z (.ListComp bA [⟨.Tuple [.Name x1 p1,.Name x2 p2] kk tp,.Call (.Name "zip" p) [a,b] [] aT,[],0⟩] sc pos) (Vy caps ta te):=by
 subst har;refine Yp (GA hc cs hN (gt:=TJ X.K 2 (Tq [0,1])) (te:=up X.K Z0 te) (Hi hg hm hv ha hse hse2) (λcl C s0 H0 fp pn=>?_) he hs) λ_ _ _ h=>HB h
 have l1:(Cx.comp X sc ([x1,x2]++N) cl C s0 H0 fp pn).env.scope.names.lookup x1=some .local:=lookup_relabel_local hl1
 have l2:(Cx.comp X sc ([x1,x2]++N) cl C s0 H0 fp pn).env.scope.names.lookup x2=some .local:=lookup_relabel_local hl2;exact QL hc (TU hnd (.cons rfl (.inl l1) (.inr l1) (.cons rfl (.inl l2) (.inr l2) .nil))) rfl rfl
end
section
variable {X:Cx}{Z:Zx}{pos:Pos}
def dPar (i j:Nat)(ta:TDA):TDS:=λE dl S=>ta dl S λds S1=>match ds with
 | [v,w]=>E.nx ((dl.set i (some v)).set j (some w)) S1
 | _=>False
theorem DU {kt k2 pt2}(hc:X.calm=true)(hN:X.N.Nodup)(hi:X.N[i]?=some x)(hj:X.N[j]?=some y)(hij:i≠j)(hx:X.env.scope.names.lookup x=some .local)(hy:X.env.scope.names.lookup y=some .local)(ha:PDA X Z [a,b] ta)(hw:swappedStores [.Tuple [.Name x px,.Name y py] kt pt] (.Tuple [a,b] k2 pt2) X.env=pure (some [x,y]):=by rfl)(hs:swapsWithSole [.Tuple [.Name x px,.Name y py] kt pt] (.Tuple [a,b] k2 pt2) pos.line X.env=pure false:=by rfl):
  PDS X Z (.Assign [.Tuple [.Name x px,.Name y py] kt pt] (.Tuple [a,b] k2 pt2) pos) (dPar i j ta):=
 YY (CH hc hN hi hj hij hx hy ha hw hs) λF σ H ⟨r,dl,S,E,rs,bD,h,ret⟩=>by
  refine⟨r,dl,S,_,rs,bD,h,λvs H1 r1 ds S1 x1 aF p1 q1=>?_⟩;split at q1
  ·rename_i v w;obtain⟨v1,vs1,rfl,p2,p3⟩:=p1.uncons;obtain⟨v2,vs2,rfl,p4,p5⟩:=p3.uncons;have z:=p5.unnil;subst z;exact⟨v1,v2,rfl,ret.nx _ H1 r1 _ S1 x1 (((rs.ext x1).set i p2).set j p4) aF q1⟩
  ·exact q1.elim
end
section
variable {n:Nat}{I:Addr}{fp wr:List Addr}{P:Nat->Value->Prop}{St:Nat->Shared->Prop}{prog:Program}{w:World}{A:Around}{s:Shared}{E:Value->Shared->Prop}{G:Array GenState->Array GenState->Prop}
end
section
variable {X:Cx}{Z:Zx}{pos:Pos}
end
section
variable {X:Cx}{Z:Zx}{pos:Pos}
theorem Rps.erase:∀ {ds:List D} {xs:List V} (k:Nat),Rps r H ds xs->Rps r H (ds.eraseIdx k) (xs.eraseIdx k)
 | [],xs,k,h=>by
  have z:=h.unnil;subst z;exact h
 | d::ds,xs,0,h=>by
  obtain⟨v,vs,rfl,p1,p2⟩:=h.uncons;exact p2
 | d::ds,xs,k+1,h=>by
  obtain⟨v,vs,rfl,p1,p2⟩:=h.uncons;exact Rps.cons p1 (p2.erase k)
theorem Rps.ins (hy:Rp r H y w):∀ {ds:List D} {xs:List V} (k:Nat),Rps r H ds xs->Rps r H (ds.take k++y::ds.drop k) (xs.take k++w::xs.drop k)
 | [],xs,k,h=>by
  have z:=h.unnil;subst z;simpa using Rps.cons hy h
 | d::ds,xs,0,h=>Rps.cons hy h
 | d::ds,xs,k+1,h=>by
  obtain⟨v,vs,rfl,p1,p2⟩:=h.uncons;exact Rps.cons p1 (Rps.ins hy k p2)
@[irreducible] def LR (to:TDE)(t:TDA):TDE:=λdl S Q=>to dl S λd S1=>match d with
 | .ref n=>(lAt S1 n).isSome=true/\t dl S1 λds S2=>match ds with
  | [.int i]=>match S2[n]? with
   | some (.lst xs)=>(0<=i/\i<xs.length/\xs.length<=1000)/\∀y,xs[i.toNat]?=some y->Q y (S2.set n (.lst (xs.eraseIdx i.toNat)))
   | _=>False
  | _=>False
 | _=>False
theorem zdh {to:TDE}{t:TDA}{dl:Ev}{S S1:Sto}{Q:DK}{n:Nat}{i:Int}{xs:List D}(hto:∀K:DK,K (.ref n) S1->to dl S K)(h:S1[n]?=some (.lst xs))(ht:∀K:List D->Sto->Prop,K [.int i] S1->t dl S1 K)(hi:0<=i/\i<xs.length/\xs.length<=1000)(hq:∀y,Q y (S1.set n (.lst (xs.eraseIdx i.toNat)))):LR to t dl S Q:=by
 unfold LR;refine hto _ ⟨by rw[ZS h rfl];rfl,ht _ ?_⟩;simp only[h];exact⟨hi,λy _=>hq y⟩
theorem zby {i:Int}{n:Nat}(h0:0<=i)(h1:i<n):seqIndex? i n=some i.toNat:=by
 unfold seqIndex?;simp;omega
theorem za8 (ho:PD X Z o to)(ha:PDA X Z [e] t)(hbase:attributeBase o "pop" X.env (eval o X.env)=eval o X.env:=by rfl)(hfew:((backTo aO (starEach [e] X.env)).all (λx=>!x.1)&&(backToKw aO (keywordEach [] X.env)).all (λx=>x.1.isSome)
  &&decide ([e].length+([]:List Keyword).length+(if ([]:List Keyword).isEmpty then 0 else 1)<30))=true:=by rfl)(hline:(aQ.endLine==aO.line)=true:=by rfl)(hs:starEach [e] X.env=(false,eval e X.env)::starEach [] X.env:=by rfl)(hplain:(backTo aO (starEach [] X.env)).any (·.1)=false:=by rfl):
  PD X Z (.Call (.Attribute o "pop" aQ) [e] [] aO) (LR to t):=
 Yp (ND (T:="list") PySem.F.plainAttrs_list PySem.F.slot_list_pop PySem.F.type_list_pop Du ho ha hbase hfew hline hs hplain) λσ H Qv ⟨r,dl,S,Q,rs,bD,h,ret⟩=>by
  unfold LR at h;refine⟨r,dl,S,_,rs,bD,h,λv H1 r1 d S1 e1 aF p1 q1=>?_⟩;cases p1 with
  | @ref n a hn=>
   obtain⟨aX,q1⟩:=q1;obtain⟨o1,eo⟩:=yS.mp aX;obtain⟨eo,eL⟩:=YF eo;obtain⟨a',ha',ob⟩:=aF.at eo;rw[hn] at ha';cases ha'
   obtain⟨xs,sq,_⟩:=ob.list eL;refine⟨.inl ⟨rfl,xs,sq⟩,r1,dl,S1,_,rs.ext e1,aF,q1,λvs H2 r2 ds S2 e2 aG p2 q2=>?_⟩;split at q2
   ·rename_i i;obtain⟨v2,vs',rfl,p3,p4⟩:=p2.uncons;have z:=p4.unnil;subst z;cases p3;split at q2
    ·rename_i zs ez;obtain⟨⟨h0,h1,h2⟩,q⟩:=q2;have hn2:=e2.adr _ _ hn;obtain⟨ys,hH,pr⟩:=aG.b.ob n a _ hn2 ez;have hk:i.toNat<zs.length:=by omega
     obtain⟨y,hy,py⟩:=pr.get (zC hk);obtain⟨aH,x3⟩:=aG.set hn2 ez (pr.erase i.toNat);exact⟨a,ys,i,i.toNat,y,rfl,rfl,hH,by omega,by omega,by rw[<- pr.1];exact zby h0 h1,hy,ret _ _ r2 _ _ (e1.trans (e2.trans x3)) aH (py.ext x3) (q _ (zC hk))⟩
    ·exact q2.elim
   ·exact q2.elim
  | _=>exact(show False from q1).elim
theorem Ao:MtM X "list.insert" (λx vs H Q=>∃l xs i y,x=.ref l/\vs=[.int i,y]/\H l=some (.lst xs)/\0<=i/\i<=1000/\xs.length<1000/\Q .non (upd H l (.lst (xs.take i.toNat++y::xs.drop i.toNat)))):=by
 intro aA s σ H x vs v us Q I rx rv h;obtain⟨l,xs,i,y,rfl,rfl,hH,h0,h1,h2,q⟩:=h;cases rx;obtain⟨t,u,rfl,ru⟩:∃t u,us=[Value.int i t,u]/\ZG y u:=by
  cases rv with
  | cons p q=>
   obtain⟨t,rfl⟩:=p;cases q with
   | cons p' q'=>
    cases q';exact⟨t,_,rfl,p'⟩
 obtain⟨z,bB,n,r,hl,e⟩:=I.lstM hH;have fit:Builtin.List.listFitsIndex i=true:=fitsIndex_both (by omega) (by omega);refine call_meets PySem.F.slot_list_insert ⟨_,e,rfl⟩ PySem.F.entry_list_insert (PySem.F.args_list_insert_3 _ _ _) (PySem.AutoSeq1.list_insert_list_int_val_1 l bB.toArray n i t u (by simp[fit]) (by rw[zN];omega)) ⟨e,?_⟩;refine⟨.non,_,I.lset (t':=s.toks) (ys:=xs.take i.toNat++y::xs.drop i.toNat) (its':=bB.take i.toNat++u::bB.drop i.toNat) hH e ?_ ((r.take _).append (.cons ru (r.drop _))) ?_,rfl,q⟩
 ·have k1:(if i<0 then (i+(bB.toArray.size:Int)).toNat else min i.toNat bB.toArray.size)=min i.toNat bB.length:=by
   rw[if_neg (by omega),zN]
  show (bB.toArray.extract 0 (if i<0 then (i+(bB.toArray.size:Int)).toNat else min i.toNat bB.toArray.size)).push u++bB.toArray.extract (if i<0 then (i+(bB.toArray.size:Int)).toNat else min i.toNat bB.toArray.size)=_;rw[k1];have t1:bB.take (min i.toNat bB.length)=bB.take i.toNat:=by
   rcases Nat.le_total i.toNat bB.length with c|c
   ·rw[Nat.min_eq_left c]
   ·rw[Nat.min_eq_right c,xS,zY c]
  have t2:bB.drop (min i.toNat bB.length)=bB.drop i.toNat:=by
   rcases Nat.le_total i.toNat bB.length with c|c
   ·rw[Nat.min_eq_left c]
   ·rw[Nat.min_eq_right c,List.drop_length,List.drop_of_length_le c]
  rw[<- t1,<- t2];generalize min i.toNat bB.length=j;apply Array.toList_inj.mp;simp;refine zY (?_:_<=_);simp
 ·rw[zI,zX,yB,xH];exact Wv (by omega)
@[irreducible] def Pn (to:TDE)(t:TDA):TDE:=λdl S Q=>to dl S λd S1=>match d with
 | .ref n=>(lAt S1 n).isSome=true/\t dl S1 λds S2=>match ds with
  | [.int i,y]=>match S2[n]? with
   | some (.lst xs)=>(0<=i/\i<=1000/\xs.length<1000)/\Q .non (S2.set n (.lst (xs.take i.toNat++y::xs.drop i.toNat)))
   | _=>False
  | _=>False
 | _=>False
theorem zbQ {to:TDE}{t:TDA}{dl:Ev}{S S1 S2:Sto}{Q:DK}{n:Nat}{i:Int}{y:D}{xs ys:List D}(hto:∀K:DK,K (.ref n) S1->to dl S K)(h:S1[n]?=some (.lst ys))(ht:∀K:List D->Sto->Prop,K [.int i,y] S2->t dl S1 K)(h2:S2[n]?=some (.lst xs))(hi:0<=i/\i<=1000/\xs.length<1000)(hq:Q .non (S2.set n (.lst (xs.take i.toNat++y::xs.drop i.toNat)))):Pn to t dl S Q:=by
 unfold Pn;refine hto _ ⟨by rw[ZS h rfl];rfl,ht _ ?_⟩;simp only[h2];exact⟨hi,hq⟩
theorem Es (ho:PD X Z o to)(ha:PDA X Z [e,e2] t)(hbase:attributeBase o "insert" X.env (eval o X.env)=eval o X.env:=by rfl)(hfew:((backTo aO (starEach [e,e2] X.env)).all (λx=>!x.1)&&(backToKw aO (keywordEach [] X.env)).all (λx=>x.1.isSome)
  &&decide ([e,e2].length+([]:List Keyword).length+(if ([]:List Keyword).isEmpty then 0 else 1)<30))=true:=by rfl)(hline:(aQ.endLine==aO.line)=true:=by rfl)(hs:starEach [e,e2] X.env=(false,eval e X.env)::starEach [e2] X.env:=by rfl)(hplain:(backTo aO (starEach [e2] X.env)).any (·.1)=false:=by rfl):
  PD X Z (.Call (.Attribute o "insert" aQ) [e,e2] [] aO) (Pn to t):=
 Yp (ND (T:="list") PySem.F.plainAttrs_list PySem.F.slot_list_insert PySem.F.type_list_insert Ao ho ha hbase hfew hline hs hplain) λσ H Qv ⟨r,dl,S,Q,rs,bD,h,ret⟩=>by
  unfold Pn at h;refine⟨r,dl,S,_,rs,bD,h,λv H1 r1 d S1 e1 aF p1 q1=>?_⟩;cases p1 with
  | @ref n a hn=>
   obtain⟨aX,q1⟩:=q1;obtain⟨o1,eo⟩:=yS.mp aX;obtain⟨eo,eL⟩:=YF eo;obtain⟨a',ha',ob⟩:=aF.at eo;rw[hn] at ha';cases ha'
   obtain⟨xs,sq,_⟩:=ob.list eL;refine⟨.inl ⟨rfl,xs,sq⟩,r1,dl,S1,_,rs.ext e1,aF,q1,λvs H2 r2 ds S2 e2 aG p2 q2=>?_⟩;split at q2
   ·rename_i i y;obtain⟨v2,vs',rfl,p3,p4⟩:=p2.uncons;obtain⟨v3,vs3,rfl,p5,p6⟩:=p4.uncons;have z:=p6.unnil;subst z;cases p3;split at q2
    ·rename_i zs ez;obtain⟨⟨h0,h1,h2⟩,q⟩:=q2;have hn2:=e2.adr _ _ hn;obtain⟨ys,hH,pr⟩:=aG.b.ob n a _ hn2 ez;obtain⟨aH,x3⟩:=aG.set hn2 ez (Rps.ins p5 i.toNat pr);exact⟨a,ys,i,v3,rfl,rfl,hH,h0,h1,by rw[<- pr.1];exact h2,ret .non _ r2 .non _ (e1.trans (e2.trans x3)) aH .non q⟩
    ·exact q2.elim
   ·exact q2.elim
  | _=>exact(show False from q1).elim
theorem JF {P:Sto->D->D->Prop}{A:Around}{H:Hp}{s:Shared}{r:List Addr}{S:Sto}{ds es:List D}{xs ys:List V}{is js:List Value}(f:∀ {d e:D} {v1 v2:V} {u1 u2:Value},P S d e->Rp r H d v1->Rp r H e v2->ZG v1 u1->ZG v2 u2->SeqAt.EqAt A s u1 u2 true)(pr:Rps r H ds xs)(pr':Rps r H es ys)(ri:ZF xs is)(rj:ZF ys js)(hall:∀(k:Nat)(d e:D),ds[k]?=some d->es[k]?=some e->P S d e):
  ∀(k:Nat)(h1:k<is.toArray.size)(h2:k<js.toArray.size),SeqAt.EqAt A s is.toArray[k] js.toArray[k] true:=λk h1 h2=>by
 have l3:=ri.length
 have l4:=rj.length
 have k1:k<is.length:=by simpa using h1
 have k2:k<js.length:=by simpa using h2
 obtain⟨d,hd,pd⟩:=pr.get' (zC (l:=xs) (i:=k) (by omega));obtain⟨e,he,pe⟩:=pr'.get' (zC (l:=ys) (i:=k) (by omega));obtain⟨u1,hu1,ru1⟩:=ri.get (zC (l:=xs) (i:=k) (by omega));obtain⟨u2,hu2,ru2⟩:=rj.get (zC (l:=ys) (i:=k) (by omega));have z1:is.toArray[k]=u1:=by
  rw[zC k1] at hu1;simpa using Option.some.inj hu1
 have z2:js.toArray[k]=u2:=by
  rw[zC k2] at hu2;simpa using Option.some.inj hu2
 rw[z1,z2];exact f (hall k d e hd he) pd pe ru1 ru2
end
section
variable {X:Cx}{Z:Zx}{bA aY:Expr}{aU:List Expr}{kk:Nat}{tp pos:Pos}{sc ar:Scope}{own N:List Str}{caps:List Nat}{wi:TI}{gt:TG}
theorem B0 (hc:X.calm=true)(cs:Vh sc X.env.scope own N)(hN:caps.map (λi=>X.N[i]?)=N.map some)(hi:PI X (.Tuple aU kk tp) aY wi)(hg:∀cl C s0 H0 fp pn,PG (Cx.comp X sc (own++N) cl C s0 H0 fp pn) (.Tuple aU kk tp) gt)(he:∀cl C s0 H0 fp pn,PE (Cx.comp X sc (own++N) cl C s0 H0 fp pn) bA te)(hNd:X.N.Nodup)(hy:X.N[i]?=some y)(hl:X.env.scope.names.lookup y=some .local)(hsw:swapsWith (.ListComp bA [⟨.Tuple aU kk tp,aY,[],0⟩] sc pos) (some (.Name y py)) spos.line X.env=pure true)(hs:∀y,foldedSetIterable aY X.env y=pure y:=by intro _;rfl):PS X (.Assign [.Name y py] (.ListComp bA [⟨.Tuple aU kk tp,aY,[],0⟩] sc pos) spos) (λE σ H=>SX own.length caps wi gt te σ H λv H1=>E.nx (σ.set i (some v)) H1):=by
 intro aA s σ H E I h;rw[exec_Assign_Name_used (hs:=hsw)];refine wpAny_bind (wpAny_standAt ?_);refine wpAny_bind ?_;show wpAny _ _ (comprehension _ sc X.env _ (newList []) false (eval aY X.env) (some (assign (.Name y py) X.env)) >>= λ_=>pure ()) _ _ s
 refine wpAny_bind (thn (GW (use:=some (assign (.Name y py) X.env)) (Qr:=λ_ s'=>SP X aA E .next s') hc cs (Vq hN).1 (Vq hN).2 hi hg he hs I h λD C s' f=>?_) λ_ s' hq=>wpAny_pure (wpAny_pure hq));obtain⟨⟨H',I',q,hC⟩,⟨m,ns⟩,l,o,c,p⟩:=f;refine wpAny_assign_Name (K6 (v:=.ref D) I' hNd hy (.inl hl) rfl (λs'' I'' ⟨a,sb,ha⟩=>⟨m,ns.sameBut sb ?_,λh' sb'=>⟨_,H',I''.turned (t':=s''.toks) (λb ob hb e=>(sb'.2 b hb).trans e) hC l (.inr o) c p,q⟩⟩) (.inr hl));rcases ha with rfl|ha
 ·exact l
 ·exact Ne.symm (c _ _ ha)
theorem DD (har:X.env.scope=ar)(hc:X.calm=true)(cs:Vh sc ar [x1,x2] N)(hl1:sc.names.lookup x1=some .local)(hl2:sc.names.lookup x2=some .local)(hN:caps.map (λi=>X.N[i]?)=N.map some)(hnd:([x1,x2]++N).Nodup)(hNd:X.N.Nodup)(hy:X.N[i]?=some y)(hlo:ar.names.lookup y=some .local)(hg:Gl X "zip")(hm:X.mg "zip"=none)(hv:bootBuiltins "zip"=some (.type "zip"))(ha:PDA X Z [a,b] ta)(he:∀cl C s0 H0 fp pn,PD (Cx.comp X sc ([x1,x2]++N) cl C s0 H0 fp pn) Z0 bA te)(hsw:swapsWith (.ListComp bA [⟨.Tuple [.Name x1 p1,.Name x2 p2] kk tp,.Call (.Name "zip" p) [a,b] [] aT,[],0⟩] sc pos) (some (.Name y py)) spos.line X.env=pure true:=by rfl)(hse:starEach [a,b] X.env=[(false,eval a X.env),(false,eval b X.env)]:=by rfl)(hse2:starEach [b] X.env=[(false,eval b X.env)]:=by rfl)(hs:∀y,foldedSetIterable (.Call (.Name "zip" p) [a,b] [] aT) X.env y=pure y:=by intro _;rfl):
  PDS X Z (.Assign [.Name y py] (.ListComp bA [⟨.Tuple [.Name x1 p1,.Name x2 p2] kk tp,.Call (.Name "zip" p) [a,b] [] aT,[],0⟩] sc pos) spos) (SR i (Vy caps ta te)):=by
 subst har;refine YY (B0 hc cs hN (gt:=TJ X.K 2 (Tq [0,1])) (te:=up X.K Z0 te) (Hi hg hm hv ha hse hse2) (λcl C s0 H0 fp pn=>?_) he hNd hy hlo hsw hs) λF σ H h=>Ig (λ_ h=>HB h) h
 have l1:(Cx.comp X sc ([x1,x2]++N) cl C s0 H0 fp pn).env.scope.names.lookup x1=some .local:=lookup_relabel_local hl1
 have l2:(Cx.comp X sc ([x1,x2]++N) cl C s0 H0 fp pn).env.scope.names.lookup x2=some .local:=lookup_relabel_local hl2;exact QL hc (TU hnd (.cons rfl (.inl l1) (.inr l1) (.cons rfl (.inl l2) (.inr l2) .nil))) rfl rfl
end
section
variable {X:Cx}{Z:Zx}
def FX:WC:=λds S Q=>match ds with
 | [.bl b]=>Q (.int (if b then 1 else 0)) S
 | _=>False
theorem OL:Yq X (.type "int") (upC X.K Z FX):=by
 intro aA s σ H xs us Qv I rv h;obtain⟨r,S,ds,Q,bD,ps,q,ret⟩:=h;unfold FX at q;split at q
 ·rename_i b;obtain⟨v,vs,rfl,p1,p2⟩:=ps.uncons;have z:=p2.unnil;subst z;cases p1;obtain⟨u,rfl,ru⟩:=X3 rv;cases ru;exact call_int_bool ⟨.int _,H,I.tok _,⟨_,rfl⟩,ret _ _ _ _ _ Ext.refl bD (.int _) q⟩
 ·exact q.elim
end
section
variable {X:Cx}{Z:Zx}{pos:Pos}
def Dr (i:Nat)(ta:TDA)(tb:TDS):TDS:=λE dl S=>ta dl S λds S1=>match ds with
 | [.int lo,.int hi]=>(-(2^62)<=lo/\lo<2^62/\-(2^62)<=hi/\hi<2^62)/\∃W:Nat->Ev->Sto->Prop,W 0 dl S1/\∀k dl S,W k dl S->
   if k<(hi-lo).toNat then tb { nx:=λdl' S'=>W (k+1) dl' S',rt:=E.rt,bk:=E.nx,ct:=λdl' S'=>W (k+1) dl' S' } (dl.set i (some (.int (lo+k)))) S else E.nx dl S
 | _=>False
theorem JP (hp:PassesOwn (model X.prog X.w) X.A X.env X.xe)(hc:X.calm=true)(hN:X.N.Nodup)(hi:X.N[i]?=some x)(hx:Loc X.env.scope x)(hg:Gl X "range")(hm:X.mg "range"=none)(ha:PDA X Z [a,b] ta)(hb:X4 X Z body tb)(hf:X.fn x=true\/X.env.scope.names.lookup x=some .local:=by first|exact .inl rfl|exact .inr rfl|assumption)(hs:∀y,foldedSetIterable (.Call (.Name "range" p) [a,b] [] pos) X.env y=pure y:=by intro _;rfl)(hst:starEach [a,b] X.env=[(false,eval a X.env),(false,eval b X.env)]:=by rfl)(hst2:starEach [b] X.env=[(false,eval b X.env)]:=by rfl):
  PDS X Z (.For (.Name x pos') (.Call (.Name "range" p) [a,b] [] pos) body [] aT) (Dr i ta tb):=
 YY (ON hp hc (AH hg hm ha hst hst2) (R8 hN hi hx hf) hb hs) λF σ H ⟨r,dl,S,E,rs,bD,h,ret⟩=>by
  refine⟨r,dl,S,_,rs,bD,h,λvs H1 r1 ds S1 x1 aF p1 q1=>?_⟩;split at q1
  ·rename_i lo hi;obtain⟨v,vs',rfl,p2,p3⟩:=p1.uncons;obtain⟨v2,vs2,rfl,p4,p5⟩:=p3.uncons;have z:=p5.unnil;subst z;cases p2;cases p4;obtain⟨bds,W,w0,turn⟩:=q1;refine⟨lo,hi,rfl,bds,λk m σ' H'=>m=(hi-lo).toNat-k/\∃r' dl' S',Ext r1 r' H1 H'/\Rs r' H' dl' σ'/\Rel X.K Z r' S' H'/\W k dl' S',⟨(hi-lo).toNat,by simp,r1,dl,S1,Ext.refl,rs.ext x1,aF,w0⟩,?_⟩;rintro k m σ2 H2 ⟨em,r2,dl2,S2,x2,rs2,aG,w2⟩;have q:=turn k dl2 S2 w2;split at q
   ·rename_i hk;have go:∀σ' H' r' dl' S',Ext r2 r' H2 H'->Rs r' H' dl' σ'->Rel X.K Z r' S' H'->W (k+1) dl' S'->∃r' dl' S',Ext r1 r' H1 H'/\Rs r' H' dl' σ'/\Rel X.K Z r' S' H'/\W (k+1) dl' S':=
     λσ' H' r' dl' S' x rs' rel' w'=>⟨r',dl',S',x2.trans x,rs',rel',w'⟩
    have pk:Rp r2 H2 (.int (lo+(k:Int))) (.int (lo+(k:Int))):=.int _;refine .inr ⟨hk,λσ' H'=>∃r' dl' S',Ext r1 r' H1 H'/\Rs r' H' dl' σ'/\Rel X.K Z r' S' H'/\W (k+1) dl' S',λσ' H' z=>⟨(hi-lo).toNat-(k+1),by omega,rfl,z⟩,λv' H' y'=>?_⟩;obtain⟨eH,y'⟩:=y';subst eH;subst y';exact⟨r2,_,S2,_,rs2.set i pk,aG,q,go,λσ' H' r' dl' S' x rs' rel' z=>ret.nx σ' H' r' dl' S' (x1.trans (x2.trans x)) rs' rel' z,go,ret.rt.ext (x1.trans x2)⟩
   ·rename_i hk;exact .inl ⟨by show (hi-lo).toNat<=k;omega,ret.nx σ2 H2 r2 dl2 S2 (x1.trans x2) rs2 aG q⟩
  ·exact q1.elim
end
end L3
namespace L2
open PySem PySem.Spec PyProof.Rows
section
variable {X:Cx}{tg:Expr}
end
end L2
namespace L3
open PySem PySem.Spec PyProof.Rows L2
section
variable {X:Cx}{Z:Zx}{pos:Pos}
end
end L3
set_option Elab.async false
set_option linter.all false
set_option maxRecDepth 100000
set_option maxHeartbeats 40000000
namespace Mine
open PySem PySem.Spec PyProof.Rows L2 L3
theorem fsc {N P:List Str}{sc:Scope}(a:sc.kind=.function:=by rfl)(b:sc.isCoroutine=false:=by rfl)(c:sc.isGenerator=false:=by rfl)(d:N.Nodup:=by decide +kernel)(e:N.take P.length=P:=by rfl)(f:∀x∈P,sc.names.lookup x=some .local\/sc.names.lookup x=some .cell:=by decide +kernel)(g:∀y∈sc.names,y.2≠.free:=by decide +kernel):ZC N P sc:=⟨a,b,c,d,e,f,g⟩
theorem csc {sc ar:Scope}{x:Str}{caps:List Str}(a:sc.kind=.function:=by rfl)(b:∀y∈sc.names,y.2≠.cell:=by decide +kernel)(c:∀y∈sc.names,y.2=.local->sc.names.lookup y.1=some .local:=by decide +kernel)(d:sc.names.lookup x=some .local:=by rfl)(e:∀y∈caps,sc.names.lookup y=some .free:=by decide +kernel)(f:∀y∈sc.names,y.2=.free->ar.names.lookup y.1=some .cell:=by decide +kernel):WQ sc ar x caps:=⟨a,b,c,d,e,f⟩
theorem Vi {sc ar:Scope}{own caps:List Str}(a:sc.kind=.function:=by rfl)(b:∀y∈sc.names,y.2≠.cell:=by decide +kernel)(c:∀y∈sc.names,y.2=.local->sc.names.lookup y.1=some .local:=by decide +kernel)(e:∀y∈caps,sc.names.lookup y=some .free:=by decide +kernel)(f:∀y∈sc.names,y.2=.free->ar.names.lookup y.1=some .cell:=by decide +kernel):Vh sc ar own caps:=⟨a,b,c,e,f⟩
abbrev Ln (sp:Sd)(n:Nat):Prop:=∀ds S Q ex,sp ds S Q ex->ds.length=n
theorem Zk {X:Cx}{x:Str}{p pos:Pos}{e:Expr}{es:List Expr}{t:TDA}{k j:Nat}{ps:List Str}{sd:Sd}{ex:Ev->Addr->Sto->Prop}(G:Fk X.prog X.w X.K X.mg X.base k x ps sd)(hr:Z5 j X.A)(ha:PDA X ⟨ex,Z0.w⟩ (e::es) t)(hk:k<=j:=by decide)(hg:Gl X x:=by rfl)
  (hdb:(x==("__debug__":Str))=false:=by decide)(he:starEach (e::es) X.env=(false,eval e X.env)::starEach es X.env:=by rfl)(hpl:(backTo pos (starEach es X.env)).any (·.1)=false:=by rfl):PD X ⟨ex,Z0.w⟩ (.Call (.Name x p) (e::es) [] pos) (Kn ex sd t):=zcp G (hr.mono hk) Tw hg ha hdb he hpl
abbrev O3:Stmt:=top 61
abbrev WZ:List Str:=[q12]
theorem Aq:ZC [q12] WZ (Zo O3):=fsc
abbrev LC:Stmt:=top 62
abbrev Wc:List Str:=[q12,q97]
theorem Sl:ZC [q12,q97,q13,"_law_first","_law_second"] Wc (Zo LC):=fsc
abbrev QV:Stmt:=top 68
abbrev Sg:List Str:=[q13]
theorem BL:ZC [q13] Sg (Zo QV):=fsc
abbrev Lg:Stmt:=top 81
abbrev SS:List Str:=[q12,WN,q7]
theorem Vg:ZC [q12,WN,q7,q59,q97,q13,"_law_wide_here","_law_low"] SS (Zo Lg):=fsc
abbrev OG:Stmt:=top 64
abbrev VE:List Str:=["_law_top","_law_bottom"]
theorem PZ:ZC ["_law_top","_law_bottom",Xv,"_law_b"] VE (Zo OG):=fsc
abbrev Nr:Stmt:=top 65
abbrev SD:List Str:=[q13]
theorem AV:ZC [q13] SD (Zo Nr):=fsc
abbrev Mf:Stmt:=top 63
abbrev Qu:List Str:=[q13]
theorem D5:ZC [q13] Qu (Zo Mf):=fsc
abbrev Ma:Stmt:=top 66
abbrev Sj:List Str:=[q39,V3,VD,"_law_weight"]
theorem AM:ZC [q39,V3,VD,"_law_weight"] Sj (Zo Ma):=fsc
abbrev Pd:Stmt:=top 67
abbrev Ux:List Str:=[q39,V3,q13,"_law_most","_law_free_here"]
theorem Vu:ZC [q39,V3,q13,"_law_most","_law_free_here","_law_one","_law_other","_law_weight",Xv,Wy,"_law_word"] Ux (Zo Pd):=fsc
abbrev Sy:Stmt:=top 79
abbrev SU:List Str:=[q12,q39,V3]
theorem Oh:ZC [q12,q39,V3,WN,q97,q88] SU (Zo Sy):=fsc
abbrev OI:Stmt:=top 77
abbrev UT:List Str:=[q39,VD]
theorem AY:ZC [q39,VD] UT (Zo OI):=fsc
abbrev Ol:Stmt:=top 84
abbrev UQ:List Str:=["_law_span","_law_more_here"]
theorem ES:ZC ["_law_span","_law_more_here"] UQ (Zo Ol):=fsc
abbrev Pg:Stmt:=top 69
abbrev RD:List Str:=[Xv,Wy]
theorem Lz:ZC [Xv,Wy,"_law_found",Tv] RD (Zo Pg):=fsc
abbrev Pc:Stmt:=top 73
abbrev Th:List Str:=[Xv,Wy,q7]
theorem JJ:ZC [Xv,Wy,q7,"_law_ends","_law_share"] Th (Zo Pc):=fsc
abbrev Pj:Stmt:=top 70
abbrev VJ:List Str:=[Xv,"_law_b"]
theorem DP:ZC [Xv,"_law_b"] VJ (Zo Pj):=fsc
abbrev O7:Stmt:=top 71
abbrev V2:List Str:=[Xv,"_law_b"]
theorem zaZ:ZC [Xv,"_law_b"] V2 (Zo O7):=fsc
abbrev Om:Stmt:=top 72
abbrev Uq:List Str:=[Xv,"_law_b",q7]
theorem Fz:ZC [Xv,"_law_b",q7,"_law_four"] Uq (Zo Om):=fsc
abbrev PC:Stmt:=top 74
abbrev Sw:List Str:=[VD,Ws,q59,q7]
theorem Nv:ZC [VD,Ws,q59,q7,"_law_word","_law_one","_law_other"] Sw (Zo PC):=fsc
abbrev Lh:Stmt:=top 83
abbrev UW:List Str:=[q12,WT,"_law_which"]
theorem JK:ZC [q12,WT,"_law_which",q13] UW (Zo Lh):=fsc
abbrev P7:Stmt:=top 85
abbrev UJ:List Str:=[q39,q59,q7,q12,"_law_which"]
theorem KY:ZC [q39,q59,q7,q12,"_law_which",Ws,WT] UJ (Zo P7):=fsc
abbrev R6:Stmt:=top 78
abbrev Rc:List Str:=[q39,WT,q59,q7,"_law_parts"]
theorem OB:ZC [q39,WT,q59,q7,"_law_parts","_law_centre","_law_low","_law_number"] Rc (Zo R6):=fsc
abbrev Tj:Stmt:=top 80
abbrev SF:List Str:=[q12,WN,q7,q59]
theorem Xk:ZC [q12,WN,q7,q59,q39,V3,q97,Wy,q88,"_law_j",q13,"_law_share","_law_number",WT,"_law_entry","_law_part"] SF (Zo Tj):=fsc
abbrev Oi:Stmt:=top 91
abbrev Rw:List Str:=[q88,q13,Wy,WN]
theorem AK:ZC [q88,q13,Wy,WN] Rw (Zo Oi):=fsc
abbrev Pu:Stmt:=top 75
abbrev RJ:List Str:=[Xv,Wy,q7]
theorem HZ:ZC [Xv,Wy,q7] RJ (Zo Pu):=fsc
abbrev PF:Stmt:=top 76
abbrev TZ:List Str:=[VD,Ws,WB,q97,q7]
theorem Nh:ZC [VD,Ws,WB,q97,q7,"_law_word","_law_one","_law_other"] TZ (Zo PF):=fsc
abbrev Nb:Stmt:=top 86
abbrev QQ:List Str:=[q39,Ws,WN,q7,q12]
theorem RK:ZC [q39,Ws,WN,q7,q12,WB,WT,V9,q97] QQ (Zo Nb):=fsc
abbrev OA:Stmt:=top 87
abbrev QF:List Str:=[q88,V9,q97]
theorem MM:ZC [q88,V9,q97,"_law_one","_law_other","_law_first"] QF (Zo OA):=fsc
abbrev W9:Stmt:=top 88
abbrev RO:List Str:=[WB,VU,q7]
theorem W6:ZC [WB,VU,q7,q88,WT,V9,"_law_whole",Tv] RO (Zo W9):=fsc
abbrev PY:Stmt:=top 90
abbrev RG:List Str:=[q12,"_law_first",WB,VU,q7]
theorem Vs:ZC [q12,"_law_first",WB,VU,q7,Tv,V9,"_law_entries",q97,q13,"_law_entry"] RG (Zo PY):=fsc
abbrev RW:Stmt:=top 89
abbrev Sr:List Str:=["_law_thin",WB,VU,q59,q7,Tv]
theorem X6:ZC ["_law_thin",WB,VU,q59,q7,Tv,"_law_centre","_law_found",q97,Ug,"_law_j",WT,"_law_part"] Sr (Zo RW):=fsc
abbrev Oc:Stmt:=top 92
abbrev Rq:List Str:=["_law_due",q12]
theorem WG:ZC ["_law_due",q12,Ug,q97,q13,"_law_low","_law_high"] Rq (Zo Oc):=fsc
abbrev Px:Stmt:=top 93
abbrev QC:List Str:=[q88,q13]
theorem Jf:ZC [q88,q13,q97,V9] QC (Zo Px):=fsc
abbrev Qo:Stmt:=top 46
abbrev Up:List Str:=["lists","many"]
theorem zbb:ZC ["lists","many"] Up (Zo Qo):=fsc
abbrev OU:Stmt:=top 56
abbrev Qc:List Str:=["book"]
theorem Ou:ZC ["book","found","entry","fate"] Qc (Zo OU):=fsc
abbrev SG:Stmt:=top 57
abbrev QJ:List Str:=["box","book"]
theorem zaX:ZC ["box","book"] QJ (Zo SG):=fsc
abbrev Q3:Stmt:=top 15
abbrev R4:List Str:=["a","b"]
theorem AI:ZC ["a","b"] R4 (Zo Q3):=fsc
abbrev RC:Stmt:=top 45
abbrev Ub:List Str:=["ones","others"]
theorem zcD:ZC ["ones","others"] Ub (Zo RC):=fsc
abbrev Mt:Stmt:=top 6
abbrev Rz:List Str:=["a","b"]
theorem Dz:ZC ["a","b"] Rz (Zo Mt):=fsc
abbrev MY:Stmt:=top 8
abbrev Uc:List Str:=["top",W8]
theorem DA:ZC ["top",W8] Uc (Zo MY):=fsc
abbrev Of:Stmt:=top 9
abbrev Rj:List Str:=["low","high","grid"]
theorem Bo:ZC ["low","high","grid"] Rj (Zo Of):=fsc
abbrev NR:Stmt:=ZJ (top 20) 2
abbrev RN:List Str:=["self",q11,"box","grid"]
theorem HV:ZC ["self",q11,"box","grid","number"] RN (Zo NR):=fsc
abbrev Mi:Stmt:=ZJ (top 21) 2
abbrev RL:List Str:=["self",q11,"box","grid"]
theorem CW:ZC ["self",q11,"box","grid"] RL (Zo Mi):=fsc
abbrev Lb:Stmt:=top 10
abbrev WR:List Str:=["a","b"]
theorem CC:ZC ["a","b"] WR (Zo Lb):=fsc
abbrev Md:Stmt:=ZJ (top 23) 1
abbrev Sq:List Str:=["self",q11,"box","grid"]
theorem zc7:ZC ["self",q11,"box","grid"] Sq (Zo Md):=fsc
abbrev NA:Stmt:=top 11
abbrev Vo:List Str:=["a","b"]
theorem Bu:ZC ["a","b"] Vo (Zo NA):=fsc
abbrev NX:Stmt:=ZJ (top 24) 1
abbrev SA:List Str:=["self",q11,"box","grid"]
theorem Bc:ZC ["self",q11,"box","grid"] SA (Zo NX):=fsc
abbrev NK:Stmt:=top 12
abbrev Vx:List Str:=["a","b","grid"]
theorem Gs:ZC ["a","b","grid","products"] Vx (Zo NK):=fsc
abbrev M9:Stmt:=ZJ (top 25) 1
abbrev QD:List Str:=["self",q11,"box","grid"]
theorem CQ:ZC ["self",q11,"box","grid"] QD (Zo M9):=fsc
abbrev Q4:Stmt:=top 5
abbrev SY:List Str:=["number","many"]
theorem Lu:ZC ["number","many","worth","step"] SY (Zo Q4):=fsc
abbrev So:Stmt:=top 13
abbrev TB:List Str:=["a","many","grid"]
theorem Nt:ZC ["a","many","grid","places","powers",W8] TB (Zo So):=fsc
abbrev Pe:Stmt:=ZJ (top 26) 2
abbrev Qe:List Str:=["self",q11,"box","grid"]
theorem zce:ZC ["self",q11,"box","grid"] Qe (Zo Pe):=fsc
abbrev Q5:Stmt:=ZJ (top 20) 0
abbrev Si:List Str:=["self","top",W8]
theorem BJ:ZC ["self","top",W8] Si (Zo Q5):=fsc
abbrev Mo:Stmt:=ZJ (top 21) 0
abbrev SE:List Str:=["self","place"]
theorem zcb:ZC ["self","place"] SE (Zo Mo):=fsc
abbrev LM:Stmt:=ZJ (top 22) 0
abbrev SH:List Str:=["self","one",XZ]
theorem EV:ZC ["self","one",XZ] SH (Zo LM):=fsc
abbrev OW:Stmt:=ZJ (top 22) 0
abbrev R1:List Str:=["self","one",XZ]
theorem Ef:ZC ["self","one",XZ] R1 (Zo OW):=fsc
abbrev MB:Stmt:=ZJ (top 22) 0
abbrev RF:List Str:=["self","one",XZ]
theorem zbc:ZC ["self","one",XZ] RF (Zo MB):=fsc
abbrev NT:Stmt:=ZJ (top 26) 0
abbrev Ry:List Str:=["self","one","many"]
theorem zbO:ZC ["self","one","many"] Ry (Zo NT):=fsc
abbrev OD:Stmt:=top 27
abbrev TM:List Str:=["node"]
theorem zaL:ZC ["node"] TM (Zo OD):=fsc
abbrev SN:Stmt:=top 48
abbrev SV:List Str:=[X1,"box","grid",q11]
theorem BC:ZC [X1,"box","grid",q11] SV (Zo SN):=fsc
abbrev LG:Stmt:=top 50
abbrev T7:List Str:=[X1,"box","grid",q11]
theorem zbR:ZC [X1,"box","grid",q11] T7 (Zo LG):=fsc
abbrev MN:Stmt:=top 30
abbrev Qf:List Str:=["word","span"]
theorem BE:ZC ["word","span"] Qf (Zo MN):=fsc
abbrev RM:Stmt:=top 40
abbrev Ss:List Str:=["rows",q11]
theorem zaE:ZC ["rows",q11] Ss (Zo RM):=fsc
abbrev LD:Stmt:=top 17
abbrev Rr:List Str:=["a"]
theorem zc2:ZC ["a"] Rr (Zo LD):=fsc
abbrev RR:Stmt:=top 34
abbrev SM:List Str:=[q11]
theorem zbh:ZC [q11] SM (Zo RR):=fsc
abbrev RS:Stmt:=top 35
abbrev UG:List Str:=["box"]
theorem za2:ZC ["box"] UG (Zo RS):=fsc
abbrev NL:Stmt:=ZJ (top 20) 4
abbrev RA:List Str:=["self",q11,q71,q93,"grid"]
theorem Cy:ZC ["self",q11,q71,q93,"grid"] RA (Zo NL):=fsc
abbrev QG:Stmt:=ZJ (top 21) 4
abbrev QE:List Str:=["self",q11,q71,q93,"grid"]
theorem zdi:ZC ["self",q11,q71,q93,"grid"] QE (Zo QG):=fsc
abbrev Np:Stmt:=ZJ (top 23) 4
abbrev Qx:List Str:=["self","x","y","a","b","grid"]
theorem EM:ZC ["self","x","y","a","b","grid"] Qx (Zo Np):=fsc
abbrev Qi:Stmt:=ZJ (top 22) 2
abbrev Ri:List Str:=["self",q11,q71,q93,"grid"]
theorem Iu:ZC ["self",q11,q71,q93,"grid","x","y"] Ri (Zo Qi):=fsc
abbrev M8:Stmt:=ZJ (top 24) 4
abbrev Qz:List Str:=["self","x","y","a","b","grid"]
theorem Ee:ZC ["self","x","y","a","b","grid"] Qz (Zo M8):=fsc
abbrev QO:Stmt:=ZJ (top 22) 2
abbrev Ql:List Str:=["self",q11,q71,q93,"grid"]
theorem IC:ZC ["self",q11,q71,q93,"grid","x","y"] Ql (Zo QO):=fsc
abbrev Pp:Stmt:=ZJ (top 25) 4
abbrev Ra:List Str:=["self","x","y","a","b","grid"]
theorem Er:ZC ["self","x","y","a","b","grid"] Ra (Zo Pp):=fsc
abbrev Qn:Stmt:=ZJ (top 22) 2
abbrev QM:List Str:=["self",q11,q71,q93,"grid"]
theorem Kp:ZC ["self",q11,q71,q93,"grid","x","y"] QM (Zo Qn):=fsc
abbrev QX:Stmt:=top 14
abbrev S6:List Str:=["a","many"]
theorem BY:ZC ["a","many"] S6 (Zo QX):=fsc
abbrev Sm:Stmt:=ZJ (top 26) 4
abbrev Qg:List Str:=["self",q11,q71,q93,"grid"]
theorem Hd:ZC ["self",q11,q71,q93,"grid","lower","steep"] Qg (Zo Sm):=fsc
abbrev SO:Stmt:=top 49
abbrev Sv:List Str:=[X1,"box","grid",q11,"slopes"]
theorem Gd:ZC [X1,"box","grid",q11,"slopes","many"] Sv (Zo SO):=fsc
abbrev TY:Stmt:=top 32
abbrev QR:List Str:=["rows"]
theorem zde:ZC ["rows"] QR (Zo TY):=fsc
abbrev O0:Stmt:=top 47
abbrev R5:List Str:=["matrix","many"]
theorem BS:ZC ["matrix","many"] R5 (Zo O0):=fsc
abbrev Mu:Stmt:=top 36
abbrev U3:List Str:=["ones","others","grid"]
theorem Ll:ZC ["ones","others","grid","total","one",XZ] U3 (Zo Mu):=fsc
abbrev QH:Stmt:=top 37
abbrev SI:List Str:=["k","column","turns",q71,"grid"]
theorem Jv:ZC ["k","column","turns",q71,"grid","whole","column_slants"] SI (Zo QH):=fsc
abbrev VG:Stmt:=top 38
abbrev RH:List Str:=["k","box","grid","entries","thin",q71]
theorem To:ZC ["k","box","grid","entries","thin",q71,"turns","centres","moved","lacks","ways"] RH (Zo VG):=fsc
abbrev Su:Stmt:=top 39
abbrev Sn:List Str:=["box","grid","turn","thin",q71]
theorem EW:ZC ["box","grid","turn","thin",q71] Sn (Zo Su):=fsc
abbrev Qp:Stmt:=top 33
abbrev TV:List Str:=["each","places"]
theorem AG:ZC ["each","places"] TV (Zo Qp):=fsc
abbrev LQ:Stmt:=top 16
abbrev T8:List Str:=["a","b"]
theorem zap:ZC ["a","b"] T8 (Zo LQ):=fsc
abbrev RZ:Stmt:=top 41
abbrev Qw:List Str:=["near","box"]
theorem BK:ZC ["near","box"] Qw (Zo RZ):=fsc
abbrev QY:Stmt:=top 53
abbrev Ru:List Str:=["rows","box","grid","fate"]
theorem Rg:ZC ["rows","box","grid","fate","turn","near","places","due"] Ru (Zo QY):=fsc
abbrev O6:Stmt:=top 54
abbrev SK:List Str:=[X1,"rows","box","grid","fate"]
theorem G2:ZC [X1,"rows","box","grid","fate",q11] SK (Zo O6):=fsc
abbrev MX:Stmt:=top 58
abbrev QU:List Str:=[X1,"rows","grid","book","number"]
theorem Hh:ZC [X1,"rows","grid","book","number","box","fate"] QU (Zo MX):=fsc
abbrev QS:Stmt:=top 59
abbrev Qd:List Str:=[X1,"rows","box","grid","book"]
theorem zda:ZC [X1,"rows","box","grid","book"] Qd (Zo QS):=fsc
abbrev Lq:Stmt:=top 82
abbrev T9:List Str:=[Ug,q59]
theorem F7:ZC [Ug,q59,q97] T9 (Zo Lq):=fsc
abbrev Q2:Stmt:=top 94
abbrev Rb:List Str:=[q88,Ws,"_law_due",Ug,q59]
theorem QB:ZC [q88,Ws,"_law_due",Ug,q59,"_law_equations_there",V9,q97] Rb (Zo Q2):=fsc
abbrev Wq:Stmt:=top 95
abbrev Mw:List Str:=[q12]
theorem Y5:ZC [q12,WN,q7,q59,q39,q88,VU,Ws,"_law_centre","_law_thin",WB,Tv,"_law_due",Ug,q13,"_law_book","_law_lists","_law_handed","_law_found"] Mw (Zo Wq):=fsc
theorem kfo {K:Fg}{f c:Addr}{m:Value}{n q:Str}{st:Stmt}(l:K.lookup f=some (fo n q st m c)):PySem.W.keepIn K (.ref f)=true:=by
 unfold PySem.W.keepIn;simp only[l]
theorem ifo {K:Fg}{f c:Addr}{m:Value}{n q:Str}{st:Stmt}(l:K.lookup f=some (fo n q st m c)):PySem.W.isFn K (.ref f)=true:=by
 unfold PySem.W.isFn PySem.W.typeIn;simp only[l];rfl
theorem ln1 {P:List Value->Prop}(h:∀a,P [a]):∀us:List Value,us.length=1->P us
 | [a],_=>h a
theorem ln2 {P:List Value->Prop}(h:∀a b,P [a,b]):∀us:List Value,us.length=2->P us
 | [a,b],_=>h a b
theorem ln3 {P:List Value->Prop}(h:∀a b c,P [a,b,c]):∀us:List Value,us.length=3->P us
 | [a,b,c],_=>h a b c
theorem ln4 {P:List Value->Prop}(h:∀a b c d,P [a,b,c,d]):∀us:List Value,us.length=4->P us
 | [a,b,c,d],_=>h a b c d
theorem ln5 {P:List Value->Prop}(h:∀a b c d e,P [a,b,c,d,e]):∀us:List Value,us.length=5->P us
 | [a,b,c,d,e],_=>h a b c d e
theorem ln6 {P:List Value->Prop}(h:∀a b c d e f,P [a,b,c,d,e,f]):∀us:List Value,us.length=6->P us
 | [a,b,c,d,e,f],_=>h a b c d e f
abbrev Bn (n q:Str)(st:Stmt)(ps:List Str):Prop:=∀(kV doc pm:Value)(an:Option Addr)(cdv ct:Value)(us:List Value),us.length=ps.length->bindArgs (PySem.W.fnOf n q (WV st) (WE st) (Zo st) .none kV doc pm an cdv ct) ⟨us,[]⟩=pure (ps.zip us)
def dfo {K:Fg}{mg:Str->Option Value}{h:Heap}(X:K.In h)(G:h.Ns mainGlobals mg){n:Str}{st:Stmt}{f c:Addr}{m:Value}{ps:List Str}(a:PySem.W.nsIn K mainGlobals n=some (some (.ref f)))(l:K.lookup f=some (fo n n st m c))(e:PySem.W.codeIn K (.ref c) n=true)(b:Bn n n st ps:=by first|exact λ_ _ _ _ _ _=>ln2 λ_ _=>rfl|exact λ_ _ _ _ _ _=>ln3 λ_ _ _=>rfl|exact λ_ _ _ _ _ _=>ln1 λ_=>rfl|exact λ_ _ _ _ _ _=>ln4 λ_ _ _ _=>rfl|exact λ_ _ _ _ _ _=>ln5 λ_ _ _ _ _=>rfl|exact λ_ _ _ _ _ _=>ln6 λ_ _ _ _ _ _=>rfl):Df K mg n st ps:=⟨_,_,O5 (st:=st) l e (kfo l),PySem.W.mg_of X G a,(O5 (st:=st) l e (kfo l)).binds b⟩
def dmo {K:Fg}{C:Addr}{n q:Str}{st:Stmt}{f c:Addr}{m:Value}{ps:List Str}(a:PySem.W.findIn K (.ref C) n=some (some (.ref f)))(l:K.lookup f=some (fo n q st m c))(e:PySem.W.codeIn K (.ref c) q=true)(b:Bn n q st ps:=by first|exact λ_ _ _ _ _ _=>ln2 λ_ _=>rfl|exact λ_ _ _ _ _ _=>ln3 λ_ _ _=>rfl|exact λ_ _ _ _ _ _=>ln1 λ_=>rfl|exact λ_ _ _ _ _ _=>ln4 λ_ _ _ _=>rfl|exact λ_ _ _ _ _ _=>ln5 λ_ _ _ _ _=>rfl|exact λ_ _ _ _ _ _=>ln6 λ_ _ _ _ _ _=>rfl):Dm K C n q st ps:=⟨_,_,O5 (st:=st) l e (kfo l),⟨a,ifo l,kfo l⟩,(O5 (st:=st) l e (kfo l)).binds b⟩
abbrev nsA (K:Fg)(n:Str)(f:Addr):Prop:=PySem.W.nsIn K mainGlobals n=some (some (.ref f))
abbrev fdA (K:Fg)(C:Addr)(n:Str)(f:Addr):Prop:=PySem.W.findIn K (.ref C) n=some (some (.ref f))
abbrev lkA (K:Fg)(f:Addr)(n q:Str)(st:Stmt)(m:Value)(c:Addr):Prop:=K.lookup f=some (fo n q st m c)
abbrev cdA (K:Fg)(c:Addr)(q:Str):Prop:=PySem.W.codeIn K (.ref c) q=true
theorem Yn {C:Addr}{f:Str}{to:TDE}{dl:Ev}{S S1:Sto}{Q:DK}{n:Nat}{fs:List (Str×D)}{v:D}(hto:∀K:DK,K (.ref n) S1->to dl S K)(h:S1[n]?=some (.ins C fs))(hf:fs.lookup f=some v)(hq:Q v S1):Nj C f to dl S Q:=by
 unfold Nj;refine hto _ ?_;simp only[WL,h,if_pos,hf];exact hq
theorem Wj {C:Addr}{f:Str}{to te:TDE}{dl:Ev}{S S1 S2:Sto}{E:Xx}{n:Nat}{fs:List (Str×D)}{v:D}(hte:∀K:DK,K v S1->te dl S K)(hto:∀K:DK,K (.ref n) S2->to dl S1 K)(h:S2[n]?=some (.ins C fs))(hl:fs.length<1000)(hq:E.nx dl (S2.set n (.ins C (UC f v fs)))):Pa C f to te E dl S:=by
 unfold Pa;refine hte _ (hto _ ?_);simp only[WL,h,if_pos];exact⟨hl,hq⟩
theorem L8 {C:Addr}{m:Str}{ex:Ev->Addr->Sto->Prop}{sd:Sd}{to:TDE}{t:TDA}{dl:Ev}{S S1:Sto}{Q:DK}{n:Nat}{fs:List (Str×D)}(hto:∀K:DK,K (.ref n) S1->to dl S K)(h:S1[n]?=some (.ins C fs))(hf:fs.lookup m=none)(hq:t dl S1 λds S2=>sd (.ref n::ds) S2 Q (ex dl)):NC C m ex sd to t dl S Q:=by
 unfold NC;refine hto _ ?_;simp only[WL,h,if_pos];exact⟨hf,hq⟩
theorem zdj {to ti te:TDE}{dl:Ev}{S:Sto}{E:Xx}{n j:Nat}{k:Int}{xs:List D}{v:D}(hte:∀K:DK,K v S->te dl S K)(hto:∀K:DK,K (.ref n) S->to dl S K)(hti:∀K:DK,K (.int k) S->ti dl S K)(h:S[n]?=some (.lst xs))(hj:ixN xs.length k=some j)(hq:E.nx dl (S.set n (.lst (xs.set j v)))):UL to ti te E dl S:=by
 unfold UL;refine hte _ (hto _ (hti _ ?_));simp only[h,hj];exact hq
theorem ZZ (h:S[n]?=some (.lst xs))(hq:Q (.int (xs.length:Nat)) S):irr U2 [.ref n] S Q:=by
 rw[WU];unfold U2;simp only[ZS h rfl];exact hq
theorem Yb {S:Sto}{n a:Nat}{o u:Ob}(h:S[n]?=some o)(hn:a≠n):(S.set a u)[n]?=some o:=by rw[yY hn];exact h
theorem Yu {S:Sto}{n:Nat}{o u:Ob}(h:S[n]?=some o):(S.set n u)[n]?=some u:=by
 have hk:=(zF.mp h).1;simp[hk]
theorem Zj {S:Sto}{n:Nat}{o:Ob}{T:Sto}(h:S[n]?=some o):(S++T)[n]?=some o:=by
 have hk:=(zF.mp h).1;rw[zP hk];exact h
theorem Wd (T R:Sto)(u:Ob):(T++u::R)[T.length]?=some u:=by simp
theorem We (T R:Sto)(u v:Ob):(T++u::R).set T.length v=T++v::R:=by simp
theorem Z4 {S:Sto}{n:Nat}{o:Ob}(h:S[n]?=some o):n<S.length:=(zF.mp h).1
theorem zaS (h1:S[n]?=some (.lst xs))(h2:S[m]?=some (.lst ys))(e:eqL (eqN 1) xs ys=some b)(hq:Q (.bl b) S):YH (V7 1) (.ref n) (.ref m) S Q:=by
 rw[XA];unfold V7;simp only[Vt,ZS h1 rfl,ZS h2 rfl,Zq,e];exact hq
theorem IT {i n:Nat}{tb:TDS}{E:Xx}{dl:Ev}{S:Sto}{o:Ob}(W:Nat->Ev->Sto->Prop)(h0:W 0 dl S)(hk:∀k dl' S',W k dl' S'->S'[n]?=some o)
  (ht:∀(k:Nat)(x:D)(dl':Ev)(S':Sto)(nx ct:Ev->Sto->Prop),(Zq o)[k]?=some x->W k dl' S'->(∀dl2 S2,W (k+1) dl2 S2->nx dl2 S2)->tb { nx:=nx,rt:=E.rt,bk:=E.nx,ct:=ct } (dl'.set i (some x)) S')(he:∀dl' S',W (Zq o).length dl' S'->E.nx dl' S')(hL:Y9 o=some o:=by rfl):
  (lAt S n).isSome=true/\∃W:Nat->Nat->Ev->Sto->Prop,(∃m,W 0 m dl S)/\∀k m dl S,W k m dl S->match lAt S n with
  | some o=>match (Zq o)[k]? with
   | some x=>tb { nx:=λdl' S'=>∃m',m'<m/\W (k+1) m' dl' S',rt:=E.rt,bk:=E.nx,ct:=λdl' S'=>∃m',m'<m/\W (k+1) m' dl' S' } (dl.set i (some x)) S
   | none=>E.nx dl S
  | none=>False:=by
 refine⟨by rw[ZS (hk _ _ _ h0) hL];rfl,λk m dl' S'=>m+k=(Zq o).length/\W k dl' S',⟨(Zq o).length,by lia,h0⟩,?_⟩;rintro k m dl' S' ⟨hm,w⟩;rw[ZS (hk _ _ _ w) hL];show (match (Zq o)[k]? with
   | some x=>tb { nx:=λdl' S''=>∃m',m'<m/\(m'+(k+1)=(Zq o).length/\W (k+1) dl' S''),rt:=E.rt,bk:=E.nx,ct:=λdl' S''=>∃m',m'<m/\(m'+(k+1)=(Zq o).length/\W (k+1) dl' S'') } (dl'.set i (some x)) S'
   | none=>E.nx dl' S')
 split
 ·rename_i x hx;have hk:k<(Zq o).length:=(zF.mp hx).1;exact ht k x dl' S' _ _ hx w λdl2 S2 w2=>⟨m-1,by lia,by lia,w2⟩
 ·rename_i hx;have hk:k=(Zq o).length:=by
   have:=xE.mp hx;lia
  exact he dl' S' (hk ▸ w)
inductive Nd where
 | number (t b:Int)|unknown (k:Int)|plus (i j:Int)|minus (i j:Int)|times (i j:Int)|power (i n:Int)
def Nd.d:Nd->D
 | .number t b=>.tup [.str "number",.int t,.int b]
 | .unknown k=>.tup [.str "unknown",.int k]
 | .plus i j=>.tup [.str "plus",.int i,.int j]
 | .minus i j=>.tup [.str "minus",.int i,.int j]
 | .times i j=>.tup [.str "times",.int i,.int j]
 | .power i n=>.tup [.str "power",.int i,.int n]
def Nd.ob (cN cU cP cM cT cW:Addr):Nd->Ob
 | .number t b=>.ins cN [("top",.int t),("bottom",.int b)]
 | .unknown k=>.ins cU [("place",.int k)]
 | .plus i j=>.ins cP [("one",.int i),("other",.int j)]
 | .minus i j=>.ins cM [("one",.int i),("other",.int j)]
 | .times i j=>.ins cT [("one",.int i),("other",.int j)]
 | .power i n=>.ins cW [("one",.int i),("many",.int n)]
def inR (m i:Int):Prop:=0<=i/\i<m
def Nd.ok (m q:Int):Nd->Prop
 | .number t b=>(1<=b/\b<=10^9)/\Int.gcd t b=1/\t.natAbs<=10^9
 | .unknown k=>inR q k
 | .plus i j=>inR m i/\inR m j
 | .minus i j=>inR m i/\inR m j
 | .times i j=>inR m i/\inR m j
 | .power i n=>inR m i/\2<=n/\n<=6
def frD (p:Int×Int):D:=.tup [.int p.1,.int p.2]
abbrev gt (vs:LI)(i:Int):Int×Int:=vs.getD i.toNat (0,1)
theorem Qs (h:inR vs.length i):gt vs i∈vs:=by
 obtain⟨h0,h1⟩:=h;have hk:i.toNat<vs.length:=by lia
 have e:gt vs i=vs[i.toNat]:=by simp[gt,hk]
 rw[e];exact yA hk
theorem Z1 (h:inR vs.length i):atI (vs.map frD) i=some (frD (gt vs i)):=by
 obtain⟨h0,h1⟩:=h;have hk:i.toNat<vs.length:=by lia
 have z:=XU (xs:=vs.map frD) (j:=i.toNat) (v:=frD (gt vs i)) (by rw[zG,zC hk];simp[gt,hk]);rw[show ((i.toNat:Nat):Int)=i by lia] at z;exact z
theorem GK {xs:List D}{d e:D}{i:Nat}{P:Nat->D->Prop}(h:(xs++[d])[i]?=some e)(hp:∀i d,xs[i]?=some d->P i d)(hd:P xs.length d):P i e:=by
 by_cases hi:i<xs.length
 ·rw[zP hi] at h;exact hp i e h
 ·have hk:=(zF.mp h).1;simp only[zI,zX,xA] at hk;have e1:i=xs.length:=by lia
  subst e1;simp at h;subst h;exact hd
theorem MP {caps:List Nat}{ta:TDA}{te:TDE}{dl:Ev}{S S1:Sto}{Q:DK}{j:Int}(P:Nat->D->Prop)(hta:∀K:List D->Sto->Prop,K [.int j] S1->ta dl S K)(hj:0<=j/\j<=1000)
  (ht:∀k:Nat,k<j.toNat->∀(S2:Sto)(K:DK),Pre S1 S2->(∀d,P k d->K d S2)->te (some (.int k)::YS caps dl) S2 K)(hq:∀xs:List D,xs.length=j.toNat->(∀k d,xs[k]?=some d->P k d)->Q (.ref S1.length) (S1++[.lst xs])):WI caps ta Xu te dl S Q:=by
 unfold WI;refine hta _ ⟨⟨by lia,by lia⟩,λk S2=>(∃xs:List D,S2=S1++[.lst xs]/\xs.length=k/\∀i d,xs[i]?=some d->P i d)/\k<=j.toNat,⟨⟨[],rfl,rfl,λi d h=>by simp at h⟩,by lia⟩,?_⟩;rintro k S2 ⟨⟨xs,rfl,hx,hp⟩,hk⟩;split
 ·rename_i hk';unfold WO Xu;simp only[if_true];refine ht k hk' _ _ Pre.refl.push λd hd=>?_
  rw[Zy];refine⟨by lia,⟨xs++[d],QP _ _ _,by simp[hx],λi e he=>GK he hp (hx ▸ hd)⟩,by lia⟩
 ·have e:k=j.toNat:=by lia
  subst e;exact hq xs hx hp
theorem Nf {caps:List Nat}{tl te:TDE}{dl:Ev}{S S1:Sto}{Q:DK}{n:Nat}{o:Ob}(P:Nat->D->Prop)(htl:∀K:DK,K (.ref n) S1->tl dl S K)(h1:S1[n]?=some o)(hl:(Zq o).length<=1000)
  (ht:∀(k:Nat)(x:D),(Zq o)[k]?=some x->∀(S2:Sto)(K:DK),Pre S1 S2->(∀d,P k d->K d S2)->te (some x::YS caps dl) S2 K)(hq:∀xs:List D,xs.length=(Zq o).length->(∀k d,xs[k]?=some d->P k d)->Q (.ref S1.length) (S1++[.lst xs]))(hL:Y9 o=some o:=by rfl):XB caps tl Xu te dl S Q:=by
 unfold XB;refine htl _ ⟨by rw[ZS h1 hL];rfl,λk m S2=>(∃xs:List D,S2=S1++[.lst xs]/\xs.length=k/\∀i d,xs[i]?=some d->P i d)/\m+k=(Zq o).length,⟨(Zq o).length,⟨[],rfl,rfl,λi d h=>by simp at h⟩,by lia⟩,?_⟩;rintro k m S2 ⟨⟨xs,rfl,hx,hp⟩,hm⟩;rw[ZS (Ua h1) hL];dsimp only;split
 ·rename_i x hk;have hk':k<(Zq o).length:=(zF.mp hk).1;unfold WO Xu;simp only[if_true];refine ht k x hk _ _ Pre.refl.push λd hd=>?_
  rw[Zy];refine⟨by lia,m-1,by lia,⟨xs++[d],QP _ _ _,by simp[hx],λi e he=>GK he hp (hx ▸ hd)⟩,by lia⟩
 ·rename_i hk;have hk':=xE.mp hk;exact hq xs (by lia) hp
structure TF (a b c d mn mx:Int):Prop where
 lo:mn=a*c\/mn=a*d\/mn=b*c\/mn=b*d
 l1:mn<=a*c
 l2:mn<=a*d
 l3:mn<=b*c
 l4:mn<=b*d
 hi:mx=a*c\/mx=a*d\/mx=b*c\/mx=b*d
 h1:a*c<=mx
 h2:a*d<=mx
 h3:b*c<=mx
 h4:b*d<=mx
theorem TF.of {a b c d mn mx:Int}(m1:mn∈[a*c,a*d,b*c,b*d])(m2:∀y∈[a*c,a*d,b*c,b*d],mn<=y)(x1:mx∈[a*c,a*d,b*c,b*d])(x2:∀y∈[a*c,a*d,b*c,b*d],y<=mx):TF a b c d mn mx:=by
 simp only[zS,yO,or_false] at m1 x1;exact⟨m1,m2 _ (by simp),m2 _ (by simp),m2 _ (by simp),m2 _ (by simp),x1,x2 _ (by simp),x2 _ (by simp),x2 _ (by simp),x2 _ (by simp)⟩
structure VB (a b:Int)(n:Nat)(m M:Int):Prop where
 lo:m=a^n\/m=b^n\/(a<0/\0<b/\m=0)
 l1:m<=a^n
 l2:m<=b^n
 l3:a<0->0<b->m<=0
 hi:M=a^n\/M=b^n
 h1:a^n<=M
 h2:b^n<=M
theorem QA (h:1<=n):(0:Int)^n=0:=by
 cases n with
 | zero=>lia
 | succ k=>rw[xB,Int.mul_zero]
theorem VB.of {a b g mn mx:Int}{n:Nat}(hg:1<=g){l:List Int}(hl:l=[a^n*g,b^n*g]/\¬ (a<0/\0<b)\/l=[a^n*g,b^n*g,0^n*g]/\a<0/\0<b)(hn:1<=n)(m1:mn∈l)(m2:∀y∈l,mn<=y)(x1:mx∈l)(x2:∀y∈l,y<=mx):
  ∃m M,VB a b n m M/\mn=m*g/\mx=M*g:=by
 have can:∀ {x y:Int},x*g<=y*g->x<=y:=λ{x y} h=>Int.le_of_mul_le_mul_right h (by omega)
 rcases hl with ⟨rfl,hz⟩|⟨rfl,hz1,hz2⟩
 ·simp only[zS,yO,or_false] at m1 x1;have a1:=m2 (a^n*g) (by simp)
  have a2:=m2 (b^n*g) (by simp)
  have b1:=x2 (a^n*g) (by simp)
  have b2:=x2 (b^n*g) (by simp);obtain⟨m,hm,em⟩:∃m,(m=a^n\/m=b^n)/\mn=m*g:=by
   rcases m1 with e|e
   ·exact⟨_,.inl rfl,e⟩
   ·exact⟨_,.inr rfl,e⟩
  obtain⟨M,hM,eM⟩:∃m,(m=a^n\/m=b^n)/\mx=m*g:=by
   rcases x1 with e|e
   ·exact⟨_,.inl rfl,e⟩
   ·exact⟨_,.inr rfl,e⟩
  subst em eM;exact⟨m,M,⟨hm.elim .inl λe=>.inr (.inl e),can a1,can a2,λc1 c2=>absurd ⟨c1,c2⟩ hz,hM,can b1,can b2⟩,rfl,rfl⟩
 ·rw[QA hn,Int.zero_mul] at m1 m2 x1 x2;simp only[zS,yO,or_false] at m1 x1;have a1:=m2 (a^n*g) (by simp)
  have a2:=m2 (b^n*g) (by simp)
  have a3:=m2 0 (by simp)
  have b1:=x2 (a^n*g) (by simp)
  have b2:=x2 (b^n*g) (by simp)
  have b3:=x2 0 (by simp);obtain⟨m,hm,em⟩:∃m,(m=a^n\/m=b^n\/m=0)/\mn=m*g:=by
   rcases m1 with e|e|e
   ·exact⟨_,.inl rfl,e⟩
   ·exact⟨_,.inr (.inl rfl),e⟩
   ·exact⟨0,.inr (.inr rfl),by rw[e,Int.zero_mul]⟩
  have bp:(0:Int)<=b^n:=Int.pow_nonneg (by omega)
  have bg:=Int.mul_nonneg bp (show 0<=g by omega);obtain⟨M,hM,eM⟩:∃m,(m=a^n\/m=b^n)/\mx=m*g:=by
   rcases x1 with e|e|e
   ·exact⟨_,.inl rfl,e⟩
   ·exact⟨_,.inr rfl,e⟩
   ·exact⟨_,.inr rfl,by omega⟩
  subst em eM;refine⟨m,M,⟨?_,can a1,can a2,λ_ _=>can (by rw[Int.zero_mul];exact a3),hM,can b1,can b2⟩,rfl,rfl⟩;rcases hm with e|e|e
  ·exact .inl e
  ·exact .inr (.inl e)
  ·exact .inr (.inr ⟨hz1,hz2,e⟩)
theorem TR {m g:Int}{n:Nat}(hg:1<=g)(hn:1<=n):m*g/g^n=m/g^(n-1):=by
 obtain⟨k,rfl⟩:∃k,n=k+1:=⟨n-1,by lia⟩;rw[xB,Nat.add_sub_cancel,Int.mul_ediv_mul_of_pos_left _ _ (by lia)]
def mn4 (a b c d:Int):Int:=min (min (a*c) (a*d)) (min (b*c) (b*d))
def mx4 (a b c d:Int):Int:=max (max (a*c) (a*d)) (max (b*c) (b*d))
theorem TF.eq {a b c d mn mx:Int}(h:TF a b c d mn mx):mn=mn4 a b c d/\mx=mx4 a b c d:=by
 obtain⟨h0,h1,h2,h3,h4,h5,h6,h7,h8,h9⟩:=h;unfold mn4 mx4;omega
def Yg (a b:Int)(n:Nat):Int:=if n%2=0/\a<=0/\0<=b then 0 else min (a^n) (b^n)
def Y6 (a b:Int)(n:Nat):Int:=max (a^n) (b^n)
theorem UN {n:Nat}(h:n%2=0)(x:Int):0<=x^n:=by
 obtain⟨k,rfl⟩:∃k,n=k+k:=⟨n/2,by lia⟩;rw[Int.pow_add];by_cases c:0<=x^k
 ·exact Int.mul_nonneg c c
 ·have:=Int.mul_nonneg (show 0<=-(x^k) by lia) (show 0<=-(x^k) by lia);rw[Int.neg_mul_neg] at this;exact this
theorem zbV {n:Nat}(h:n%2=1){x:Int}(hx:x<0):x^n<0:=by
 obtain⟨k,rfl⟩:∃k,n=k+1:=⟨n-1,by lia⟩;have z:=UN (n:=k) (by lia) x
 have nz:∀k:Nat,x^k≠0:=λk=>by
  induction k with
  | zero=>rw[xT];decide
  | succ k ih=>rw[xB];exact Int.mul_ne_zero ih (by lia)
 have nz:=nz k
 have:=Int.mul_pos (show 0<x^k by lia) (show 0 < -x by lia);rw[Int.mul_neg] at this;rw[xB];lia
theorem VB.eq {a b m M:Int}{n:Nat}(h:VB a b n m M)(hn:1<=n):m=Yg a b n/\M=Y6 a b n:=by
 obtain⟨h0,h1,h2,h3,h4,h5,h6⟩:=h;refine⟨?_,by unfold Y6;lia⟩;unfold Yg;split
 ·rename_i c;obtain⟨c1,c2,c3⟩:=c;have e1:=UN c1 a
  have e2:=UN c1 b;by_cases z:a<0/\0<b
  ·have:=h3 z.1 z.2;lia
  ·have z':a=0\/b=0:=by lia
   rcases z' with rfl|rfl
   ·rw[QA hn] at h1;lia
   ·rw[QA hn] at h2;lia
 ·rename_i c;have hz:a<0->0<b->m≠0:=λa1 b1 e=>by
   by_cases p:n%2=0
   ·exact c ⟨p,by lia,by lia⟩
   ·have:=zbV (n:=n) (by lia) a1;lia
  lia
def Nd.fw (vs bs:LI)(g:Int):Nd->Int×Int
 | .number t b=>(t*g/b,-(-(t*g)/b))
 | .unknown k=>gt bs k
 | .plus i j=>((gt vs i).1+(gt vs j).1,(gt vs i).2+(gt vs j).2)
 | .minus i j=>((gt vs i).1-(gt vs j).2,(gt vs i).2-(gt vs j).1)
 | .times i j=>(mn4 (gt vs i).1 (gt vs i).2 (gt vs j).1 (gt vs j).2/g,-(-mx4 (gt vs i).1 (gt vs i).2 (gt vs j).1 (gt vs j).2/g))
 | .power i n=>(Yg (gt vs i).1 (gt vs i).2 n.toNat/g^(n.toNat-1),-(-Y6 (gt vs i).1 (gt vs i).2 n.toNat/g^(n.toNat-1)))
def Spn (B:Nat)(vs:LI):Prop:=∀p∈vs,p.1<=p.2/\Sz B p.1/\Sz B p.2
theorem Spn.at {B:Nat}{vs:LI}(h:Spn B vs){i:Int}(hi:inR vs.length i):(gt vs i).1<=(gt vs i).2/\Sz B (gt vs i).1/\Sz B (gt vs i).2:=h _ (Qs hi)
theorem Spn.mono {B C:Nat}{vs:LI}(h:Spn B vs)(hc:B<=C):Spn C vs:=λp hp=>⟨(h p hp).1,(h p hp).2.1.mono hc,(h p hp).2.2.mono hc⟩
theorem Tu (hg:1<=g)(h:m<=M):m/g<=-(-M/g):=by
 have h1:=Int.ediv_mul_le m (show g≠0 by lia)
 have h2:=Int.ediv_mul_le (-M) (show g≠0 by lia)
 have:m/g*g<=-(-M/g)*g:=by rw[yN];lia
 exact Int.le_of_mul_le_mul_right this (by lia)
theorem Pl (a b:Int)(n:Nat):Yg a b n<=Y6 a b n:=by
 unfold Yg Y6;split
 ·rename_i c;have:=UN c.1 a;lia
 ·lia
theorem Hm (a b c d:Int):mn4 a b c d<=mx4 a b c d:=by unfold mn4 mx4;lia
theorem Nd.fw_le (h1:Spn B vs)(h2:Spn B bs)(hg:1<=g):∀v:Nd,v.ok vs.length bs.length->(v.fw vs bs g).1<=(v.fw vs bs g).2
 | .number t b,ok=>Tu ok.1.1 (yL _)
 | .unknown k,ok=>(h2.at ok).1
 | .plus i j,ok=>by
  have a:=(h1.at ok.1).1
  have b:=(h1.at ok.2).1
  show (gt vs i).1+(gt vs j).1<=(gt vs i).2+(gt vs j).2;lia
 | .minus i j,ok=>by
  have a:=(h1.at ok.1).1
  have b:=(h1.at ok.2).1
  show (gt vs i).1-(gt vs j).2<=(gt vs i).2-(gt vs j).1;lia
 | .times i j,ok=>Tu hg (Hm _ _ _ _)
 | .power i n,ok=>Tu (yP (by lia)) (Pl _ _ _)
theorem EA {a b:TDS}{E:Xx}{dl:Ev}{S:Sto}(W:Ev->Sto->Prop)(ha:∀nx:Ev->Sto->Prop,(∀dl' S',W dl' S'->nx dl' S')->a { nx:=nx,rt:=E.rt,bk:=E.bk,ct:=E.ct } dl S)(hb:∀dl' S',W dl' S'->b E dl' S'):YN a b E dl S:=ha _ hb
theorem VI {a b c:TDS}{E:Xx}{dl:Ev}{S:Sto}(W:Ev->Sto->Prop)(ha:∀nx:Ev->Sto->Prop,(∀dl' S',W dl' S'->nx dl' S')->YN a b { nx:=nx,rt:=E.rt,bk:=E.bk,ct:=E.ct } dl S)(hb:∀dl' S',W dl' S'->c E dl' S'):YN a (YN b c) E dl S:=ha _ hb
theorem VA (h:Sz n m)(hg:1<=g):Sz n (-(-m/g)):=(h.neg.div hg).neg
theorem Wz (ha:Sz n a)(hb:Sz n b):Sz n (min a b):=by unfold Sz at *;lia
theorem Wo (ha:Sz n a)(hb:Sz n b):Sz n (max a b):=by unfold Sz at *;lia
def Nd.wt (ws:List Nat):Nd->Nat
 | .number _ _=>1
 | .unknown _=>1
 | .plus i j=>ws.getD i.toNat 0+ws.getD j.toNat 0
 | .minus i j=>ws.getD i.toNat 0+ws.getD j.toNat 0
 | .times i j=>ws.getD i.toNat 0+ws.getD j.toNat 0
 | .power i n=>n.toNat*ws.getD i.toNat 0
structure Z7 (q:Int)(ns:List Nd)(ws:List Nat):Prop where
 len:ws.length=ns.length
 ok:∀(k:Nat)(v:Nd),ns[k]?=some v->v.ok k q/\ws.getD k 0=v.wt ws/\1<=v.wt ws/\v.wt ws<=16
theorem Z7.w1 {q:Int}{ns:List Nd}{ws:List Nat}(h:Z7 q ns ws){i:Int}(hi:inR ns.length i):1<=ws.getD i.toNat 0/\ws.getD i.toNat 0<=16:=by
 obtain⟨h0,h1⟩:=hi;have hk:i.toNat<ns.length:=(by lia);obtain⟨_,e,a,b⟩:=h.ok i.toNat _ (zC hk);lia
theorem Z7.w2 {q:Int}{ns:List Nd}{ws:List Nat}(h:Z7 q ns ws):∀v:Nd,v.ok ns.length q->1<=v.wt ws/\v.wt ws<=96
 | .number _ _,_=>⟨zD 1,show 1<=96 by decide⟩
 | .unknown _,_=>⟨zD 1,show 1<=96 by decide⟩
 | .plus i j,ok=>by have a:=h.w1 ok.1;have b:=h.w1 ok.2;simp only[Nd.wt];lia
 | .minus i j,ok=>by have a:=h.w1 ok.1;have b:=h.w1 ok.2;simp only[Nd.wt];lia
 | .times i j,ok=>by have a:=h.w1 ok.1;have b:=h.w1 ok.2;simp only[Nd.wt];lia
 | .power i n,ok=>by
  have a:=h.w1 ok.1
  have n2:=ok.2.1
  have n6:=ok.2.2
  have m1:=xJ (show 1<=n.toNat by lia) a.1
  have m2:=xJ (show n.toNat<=6 by lia) a.2;simp only[Nd.wt];lia
theorem Hw (h:k<ws.length):(ws++[w]).getD k 0=ws.getD k 0:=by
 rw[zK,zK,zP h]
theorem HL (hk:k<=ws.length):∀v:Nd,v.ok k q->v.wt (ws++[w])=v.wt ws:=by
 have e:∀i:Int,inR k i->(ws++[w]).getD i.toNat 0=ws.getD i.toNat 0:=λi hi=>Hw (by have a:=hi.1;have b:=hi.2;lia)
 intro v ok;cases v with
 | number _ _=>rfl
 | unknown _=>rfl
 | plus i j=>show _+_=_+_;rw[e i ok.1,e j ok.2]
 | minus i j=>show _+_=_+_;rw[e i ok.1,e j ok.2]
 | times i j=>show _+_=_+_;rw[e i ok.1,e j ok.2]
 | power i n=>show _*_=_*_;rw[e i ok.1]
theorem Z7.snoc {q:Int}{ns:List Nd}{ws:List Nat}(h:Z7 q ns ws){v:Nd}(ok:v.ok ns.length q)(h16:v.wt ws<=16):Z7 q (ns++[v]) (ws++[v.wt ws]):=by
 refine⟨by simp[h.len],λk u hu=>?_⟩;by_cases hk:k<ns.length
 ·rw[zP hk] at hu;obtain⟨a,b,c,d⟩:=h.ok k u hu;have e:=HL (w:=v.wt ws) (q:=q) (k:=k) (by rw[h.len];lia) u a;rw[e,Hw (by rw[h.len];exact hk)];exact⟨a,b,c,d⟩
 ·have hl:=(zF.mp hu).1;simp only[zI,zX,xA] at hl;have ek:k=ns.length:=by lia
  subst ek;simp at hu;subst hu;have e:=HL (w:=v.wt ws) (q:=q) (k:=ns.length) (by rw[h.len];lia) v ok;rw[e];refine⟨ok,?_,(h.w2 v ok).1,h16⟩;rw[<- h.len];simp
def Z8 (bs:LI)(g:Int)(ns:List Nd):LI:=ns.foldl (λacc v=>acc++[v.fw acc bs g]) []
theorem NG (bs:LI)(g:Int)(ns:List Nd)(v:Nd):Z8 bs g (ns++[v])=Z8 bs g ns++[v.fw (Z8 bs g ns) bs g]:=by
 unfold Z8;rw[List.foldl_append];rfl
theorem W0 {α:Type}{xs:List α}{k:Nat}{x:α}(h:xs[k]?=some x):xs.take (k+1)=xs.take k++[x]:=by rw[xF,h];rfl
theorem MF (bs:LI)(g:Int)(ns:List Nd):(Z8 bs g ns).length=ns.length:=by
 have z:∀k,k<=ns.length->(Z8 bs g (ns.take k)).length=k:=λk=>by
  induction k with
  | zero=>intro _;rfl
  | succ k ih=>
   intro hk;rw[W0 (zC (show k<ns.length by lia)),NG];simp[ih (by lia)]
 have:=z ns.length (zD _)
 rwa [xS] at this
theorem Ar (bs:LI)(g:Int)(ns:List Nd)(k:Nat):k<=ns.length->(Z8 bs g ns).take k=Z8 bs g (ns.take k):=by
 have z:∀m,k<=m->m<=ns.length->(Z8 bs g (ns.take m)).take k=Z8 bs g (ns.take k):=λm=>by
  induction m with
  | zero=>
   intro h1 _;have:k=0:=by lia
   subst this;rfl
  | succ m ih=>
   intro h1 h2;by_cases e:k=m+1
   ·subst e;rw[zY (by rw[MF,yB];lia)]
   ·rw[W0 (zC (show m<ns.length by lia)),NG,List.take_append_of_le_length (by rw[MF,yB];lia)];exact ih (by lia) (by lia)
 intro hk;have:=z ns.length hk (zD _)
 rwa [xS] at this
def SzW (ws:List Nat)(vs:LI):Prop:=∀(k:Nat)(p:Int×Int),vs[k]?=some p->p.1<=p.2/\Sz (60*ws.getD k 0-1) p.1/\Sz (60*ws.getD k 0-1) p.2
theorem SzW.at {ws:List Nat}{vs:LI}(h:SzW ws vs){i:Int}(hi:inR vs.length i):(gt vs i).1<=(gt vs i).2/\Sz (60*ws.getD i.toNat 0-1) (gt vs i).1/\Sz (60*ws.getD i.toNat 0-1) (gt vs i).2:=by
 obtain⟨h0,h1⟩:=hi;have hk:i.toNat<vs.length:=by lia
 have e:gt vs i=vs[i.toNat]:=by simp[gt,hk]
 rw[e];exact h _ _ (zC hk)
theorem Spn.of_w {ws:List Nat}{vs:LI}(h:SzW ws vs)(hw:∀k:Nat,k<vs.length->ws.getD k 0<=16):Spn 1000 vs:=λp hp=>by
 obtain⟨k,hk,e⟩:=yV.mp hp;obtain⟨a,b,c⟩:=h k p (by rw[zC hk,e]);have:=hw k hk;exact⟨a,b.mono (by lia),c.mono (by lia)⟩
theorem Rm (h:Pre S T)(hn:S.length<=n):Pre S (T.set n o):=λk u e=>by
 have hk:=(zF.mp e).1;rw[yY (by lia)];exact h k u e
theorem LS (h:Pre S T)(U:Sto):Pre S (T++U):=λk u e=>Zj (h k u e)
theorem Ij (u v:Nd):∃b,eqN 1 u.d v.d=some b:=by cases u<;>cases v<;>exact⟨_,rfl⟩
theorem zcW (u:Nd):eqN 1 u.d u.d=some true:=by cases u<;>simp[Nd.d,eqN,L3.eqT,eqL,eqF]
theorem Hb (v:Nd):∀ns:List Nd,∃b,YI (eqN 1) (ns.map Nd.d) v.d=some b
 | []=>⟨false,rfl⟩
 | u::us=>by
  obtain⟨b,e⟩:=Ij u v;obtain⟨c,e2⟩:=Hb v us;refine⟨b||c,?_⟩;show (match eqN 1 u.d v.d,YI (eqN 1) (us.map Nd.d) v.d with|some b,some c=>some (b||c)|_,_=>none)=_;rw[e,e2]
def wtD (w:Nat):D:=.int (w:Int)
theorem Pk {ws:List Nat}{i:Int}(h:inR ws.length i):atI (ws.map wtD) i=some (.int ((ws.getD i.toNat 0:Nat):Int)):=by
 obtain⟨h0,h1⟩:=h;have hk:i.toNat<ws.length:=by lia
 have z:=XU (xs:=ws.map wtD) (j:=i.toNat) (v:=wtD (ws.getD i.toNat 0)) (by rw[zG,zC hk];simp[hk]);rw[show ((i.toNat:Nat):Int)=i by lia] at z;exact z
theorem Et (q:Nat):Z7 q ((List.range q).map λ(k:Nat)=>Nd.unknown (k:Int)) ((List.range q).map λ_=>1):=by
 refine⟨by simp,λk v hv=>?_⟩;have hl:=(zF.mp hv).1;simp only[zA,xU] at hl;rw[zG,xV hl] at hv;cases hv;refine⟨⟨by lia,by lia⟩,?_,zD _,show 1<=16 by decide⟩;simp[Nd.wt,hl]
theorem zcE {u v:Nd}(h:eqN 1 u.d v.d=some true):u=v:=by
 cases u<;>cases v<;>simp[Nd.d,eqN,L3.eqT,eqL,eqF] at h
 all_goals first|(obtain⟨rfl,rfl⟩:=h;rfl)|(subst h;rfl)|exact absurd h.1 (by decide)
theorem Mq (v:Nd):∀ns:List Nd,∃o:Option Nat,WS (eqN 1) (ns.map Nd.d) v.d=some o/\YI (eqN 1) (ns.map Nd.d) v.d=some o.isSome/\∀j,o=some j->ns[j]?=some v
 | []=>⟨none,rfl,rfl,λj h=>by cases h⟩
 | u::us=>by
  obtain⟨b,e⟩:=Ij u v;obtain⟨o,h1,h2,h3⟩:=Mq v us;have f1:WS (eqN 1) ((u::us).map Nd.d) v.d=(match eqN 1 u.d v.d,WS (eqN 1) (us.map Nd.d) v.d with|some true,some _=>some (some 0)|some false,some o=>some (o.map (·+1))|_,_=>none):=rfl
  have f2:YI (eqN 1) ((u::us).map Nd.d) v.d=(match eqN 1 u.d v.d,YI (eqN 1) (us.map Nd.d) v.d with|some b,some c=>some (b||c)|_,_=>none):=rfl;rw[f1,f2,e,h1,h2];cases b with
  | true=>exact⟨some 0,rfl,rfl,λj hj=>by
    cases hj;rw[zcE e];rfl⟩
  | false=>exact⟨o.map (·+1),rfl,by cases o<;>rfl,λj hj=>by
    cases o with
    | none=>cases hj
    | some i=>
     cases hj;exact h3 i rfl⟩
theorem Ax {v:Nd}{ns:List Nd}{n:Nat}{S:Sto}{Q:DK}{o:Option Nat}(h:S[n]?=some (.lst (ns.map Nd.d)))(e:YI (eqN 1) (ns.map Nd.d) v.d=some o.isSome)(hq:Q (.bl o.isSome) S):YH (wIn 1 false) v.d (.ref n) S Q:=by
 rw[XA];unfold wIn;simp only[ZS h rfl,Zq,e];exact hq
theorem L0 {v:Nd}{ns:List Nd}{n j:Nat}{to:TDE}{t:TDA}{dl:Ev}{S:Sto}{Q:DK}(hto:∀K:DK,K (.ref n) S->to dl S K)(ht:∀K:List D->Sto->Prop,K [v.d] S->t dl S K)(h:S[n]?=some (.lst (ns.map Nd.d)))(e:WS (eqN 1) (ns.map Nd.d) v.d=some (some j))(hq:Q (.int (j:Int)) S):Lk 1 to t dl S Q:=by
 unfold Lk;refine hto _ ⟨by rw[ZS h rfl];rfl,ht _ ?_⟩;unfold LL;simp only[ZS h rfl,Zq,e];exact hq
theorem sort2 {ms:List Int}{x y:Int}(p:ms.Perm [x,y])(o:ms.Pairwise (·<=·)):ms=[min x y,max x y]:=by
 have hl:=p.length_eq
 match ms,hl,p,o with
 | [a,b],_,p,o=>
  have h1:=p.mem_iff (a:=a)
  have h2:=p.mem_iff (a:=b)
  have h3:=p.mem_iff (a:=x)
  have h4:=p.mem_iff (a:=y);simp only[zS,yO,or_false,true_or,or_true,true_iff,iff_true] at h1 h2 h3 h4;have ab:a<=b:=by simpa using o
  have e1:a=min x y:=by lia
  have e2:b=max x y:=by lia
  rw[e1,e2]
theorem U8 (x y:Int):(min x y=x\/min x y=y)/\min x y<=x/\min x y<=y:=⟨by rw[Int.min_def];split<;>simp,Int.min_le_left ..,Int.min_le_right ..⟩
theorem U0 (x y:Int):(max x y=x\/max x y=y)/\x<=max x y/\y<=max x y:=⟨by rw[Int.max_def];split<;>simp,Int.le_max_left ..,Int.le_max_right ..⟩
theorem sort4 (p:ms.Perm [a*c,a*d,b*c,b*d])(o:ms.Pairwise (·<=·)):∃x y,ms=[mn4 a b c d,x,y,mx4 a b c d]:=by
 have hl:=p.length_eq
 match ms,hl,p,o with
 | [s,t,u,v],_,p,o=>
  simp only[List.pairwise_cons,zS,yO,or_false,forall_eq_or_imp,forall_eq,false_implies,implies_true,and_true,List.Pairwise.nil] at o;obtain⟨⟨o1,o2,o3⟩,⟨o4,o5⟩,o6⟩:=o;have hs:∀x∈[s,t,u,v],s<=x/\x<=v:=λx hx=>by
   simp only[zS,yO,or_false] at hx;rcases hx with rfl|rfl|rfl|rfl
   ·exact⟨yL _,o3⟩
   ·exact⟨o1,o5⟩
   ·exact⟨o2,o6⟩
   ·exact⟨o3,yL _⟩
  have hb:∀x,x∈[a*c,a*d,b*c,b*d]->mn4 a b c d<=x/\x<=mx4 a b c d:=λx hx=>by
   simp only[zS,yO,or_false] at hx;have n1:=U8 (a*c) (a*d)
   have n2:=U8 (b*c) (b*d)
   have n3:=U8 (min (a*c) (a*d)) (min (b*c) (b*d))
   have x1:=U0 (a*c) (a*d)
   have x2:=U0 (b*c) (b*d)
   have x3:=U0 (max (a*c) (a*d)) (max (b*c) (b*d));rcases hx with rfl|rfl|rfl|rfl
   ·exact⟨yM n3.2.1 n1.2.1,yM x1.2.1 x3.2.1⟩
   ·exact⟨yM n3.2.1 n1.2.2,yM x1.2.2 x3.2.1⟩
   ·exact⟨yM n3.2.2 n2.2.1,yM x2.2.1 x3.2.2⟩
   ·exact⟨yM n3.2.2 n2.2.2,yM x2.2.2 x3.2.2⟩
  have mm:mn4 a b c d∈[a*c,a*d,b*c,b*d]:=by
   simp only[zS,yO,or_false];rcases (U8 (min (a*c) (a*d)) (min (b*c) (b*d))).1 with e|e
   ·rcases (U8 (a*c) (a*d)).1 with f|f
    ·exact .inl (e.trans f)
    ·exact .inr (.inl (e.trans f))
   ·rcases (U8 (b*c) (b*d)).1 with f|f
    ·exact .inr (.inr (.inl (e.trans f)))
    ·exact .inr (.inr (.inr (e.trans f)))
  have mx:mx4 a b c d∈[a*c,a*d,b*c,b*d]:=by
   simp only[zS,yO,or_false];rcases (U0 (max (a*c) (a*d)) (max (b*c) (b*d))).1 with e|e
   ·rcases (U0 (a*c) (a*d)).1 with f|f
    ·exact .inl (e.trans f)
    ·exact .inr (.inl (e.trans f))
   ·rcases (U0 (b*c) (b*d)).1 with f|f
    ·exact .inr (.inr (.inl (e.trans f)))
    ·exact .inr (.inr (.inr (e.trans f)))
  have e1:s=mn4 a b c d:=Int.le_antisymm (hs _ (p.mem_iff.mpr mm)).1 (hb s (p.mem_iff.mp (xC ..))).1
  have e2:v=mx4 a b c d:=Int.le_antisymm (hb v (p.mem_iff.mp (by simp))).2 (hs _ (p.mem_iff.mpr mx)).2;exact⟨t,u,by rw[e1,e2]⟩
theorem UR {caps:List Nat}{ta:TDA}{te:TDE}{dl:Ev}{S S1:Sto}{Q:DK}{n n':Nat}{xs ys:List D}(g:D->D->D)(hta:∀K:List D->Sto->Prop,K [.ref n,.ref n'] S1->ta dl S K)(h1:S1[n]?=some (.lst xs))(h2:S1[n']?=some (.lst ys))(hl:xs.length<=1000)
  (ht:∀(k:Nat)(x y:D),xs[k]?=some x->ys[k]?=some y->∀(S2:Sto)(K:DK),Pre S1 S2->K (g x y) S2->te (some x::some y::YS caps dl) S2 K)(hq:Q (.ref S1.length) (S1++[.lst (List.zipWith g xs ys)])):Vy caps ta te dl S Q:=by
 unfold Vy;refine hta _ ⟨⟨by rw[ZS h1 rfl];rfl,by rw[ZS h2 rfl];rfl⟩,λk m S2=>S2=S1++[.lst (List.zipWith g (xs.take k) (ys.take k))]/\m+k=min xs.length ys.length,⟨min xs.length ys.length,by simp,by lia⟩,?_⟩;rintro k m S2 ⟨rfl,hm⟩;rw[ZS (Ua h1) rfl,ZS (Ua h2) rfl];dsimp only[Zq];split
 ·rename_i x y hx hy;have hk:k<xs.length:=(zF.mp hx).1
  have hk':k<ys.length:=(zF.mp hy).1;unfold Qj;refine ht k x y hx hy _ _ Pre.refl.push ?_;rw[Zy];refine⟨by simp;lia,m-1,by lia,?_,by lia⟩;have e:xs.take (k+1)=xs.take k++[x]:=by rw[xF,hx];rfl
  have e':ys.take (k+1)=ys.take k++[y]:=by rw[xF,hy];rfl
  rw[e,e',List.zipWith_append (by rw[yB,yB];lia),QP];rfl
 ·rename_i no;have hk:min xs.length ys.length<=k:=by
   by_cases l:k<min xs.length ys.length
   ·exact absurd (zC (l:=ys) (i:=k) (by lia)) (no _ _ (zC (l:=xs) (i:=k) (by lia)))
   ·lia
  refine⟨by lia,?_⟩;have e:List.zipWith g (xs.take k) (ys.take k)=List.zipWith g xs ys:=by
   rw[<- List.take_zipWith,zY (by rw[List.length_zipWith];exact hk)]
  rw[e];exact hq
def Tt (p q:Int×Int):Bool:=decide (q.1<=p.1)&&decide (p.2<=q.2)
def YE (us vs:LI):Bool:=(List.zipWith Tt us vs).all id
theorem NF {us vs:LI}:YE us vs=true↔∀(k:Nat)(p q:Int×Int),us[k]?=some p->vs[k]?=some q->q.1<=p.1/\p.2<=q.2:=by
 unfold YE;rw[yZ];refine⟨λh k p q hp hq=>?_,λh b hb=>?_⟩
 ·have z:=h (Tt p q) (zL (i:=k) (by rw[xK,hp,hq]));simpa [Tt] using z
 ·obtain⟨k,hk⟩:=xW.mp hb;rw[xK] at hk;cases e1:us[k]? with
  | none=>rw[e1] at hk;cases hk
  | some p=>
   cases e2:vs[k]? with
   | none=>rw[e1,e2] at hk;cases hk
   | some q=>
    rw[e1,e2] at hk;obtain⟨a,b⟩:=h k p q e1 e2;have z:=Option.some.inj hk;subst z;simp[Tt,a,b]
theorem El (us vs:LI):Y1 (List.zipWith (λx y=>match x,y with|.tup [.int a,.int b],.tup [.int c,.int d]=>.bl (decide (c<=a)&&decide (b<=d))|_,_=>.non) (us.map frD) (vs.map frD))=some (List.zipWith Tt us vs):=by
 induction us generalizing vs with
 | nil=>rfl
 | cons u us ih=>
  cases vs with
  | nil=>rfl
  | cons v vs=>
   show (Y1 (List.zipWith _ (us.map frD) (vs.map frD))).map _=_;rw[ih];rfl
theorem Io (h:∀i:Int,inR k i->gt vs i=gt us i):∀v:Nd,v.ok k q->v.fw vs bs g=v.fw us bs g
 | .number _ _,_=>rfl
 | .unknown _,_=>rfl
 | .plus i j,ok=>by simp only[Nd.fw,h i ok.1,h j ok.2]
 | .minus i j,ok=>by simp only[Nd.fw,h i ok.1,h j ok.2]
 | .times i j,ok=>by simp only[Nd.fw,h i ok.1,h j ok.2]
 | .power i n,ok=>by simp only[Nd.fw,h i ok.1]
theorem FK (h:k<=m):∀ {v:Nd},v.ok k q->v.ok m q:=λ{v} ok=>by
 have z:∀i:Int,inR k i->inR m i:=λi hi=>⟨hi.1,by have:=hi.2;lia⟩
 cases v with
 | number _ _=>exact ok
 | unknown _=>exact ok
 | plus i j=>exact⟨z _ ok.1,z _ ok.2⟩
 | minus i j=>exact⟨z _ ok.1,z _ ok.2⟩
 | times i j=>exact⟨z _ ok.1,z _ ok.2⟩
 | power i n=>exact⟨z _ ok.1,ok.2⟩
theorem zcG {vs us:LI}{k:Nat}{i:Int}(h:inR k i)(hk:k<=vs.length):gt (vs++us) i=gt vs i:=by
 have:=h.1
 have:=h.2;unfold gt;rw[zK,zK,zP (by lia)]
theorem Y0 {vs:LI}{k:Nat}{p:Int×Int}(h:vs[k]?=some p):gt vs (k:Int)=p:=by
 unfold gt;rw[zK,zH,h];rfl
theorem Sz.pow' (h:Sz n i)(hk:1<=k):Sz (n*k) (i^k):=by
 unfold Sz at *
 rw[Int.natAbs_pow,Nat.pow_mul];exact Nat.pow_lt_pow_left h (by lia)
theorem fw_w2 (hs:SzW ws vs)(hb:Spn 51 bs)(hg:1<=g/\g<=1000000)(hw:∀i:Int,inR vs.length i->1<=ws.getD i.toNat 0):∀v:Nd,v.ok vs.length bs.length->Sz (60*v.wt ws-2) (v.fw vs bs g).1/\Sz (60*v.wt ws-2) (v.fw vs bs g).2
 | .number t b,ok=>by
  have z:Sz 52 (t*g):=(Sz.of (n:=31) (10^9) ok.2.2).mul (Sz.of (n:=21) (10^6) (show g.natAbs<=_ by lia));exact⟨(z.div ok.1.1).mono (show 52<=60*1-2 by decide),(VA z ok.1.1).mono (show 52<=60*1-2 by decide)⟩
 | .unknown k,ok=>⟨(hb.at ok).2.1.mono (show 51<=60*1-2 by decide),(hb.at ok).2.2.mono (show 51<=60*1-2 by decide)⟩
 | .plus i j,ok=>by
  have a:=hs.at ok.1
  have b:=hs.at ok.2
  have p:=hw i ok.1
  have q:=hw j ok.2;exact⟨(a.2.1.add b.2.1).mono (by simp only[Nd.wt];lia),(a.2.2.add b.2.2).mono (by simp only[Nd.wt];lia)⟩
 | .minus i j,ok=>by
  have a:=hs.at ok.1
  have b:=hs.at ok.2
  have p:=hw i ok.1
  have q:=hw j ok.2;exact⟨(a.2.1.sub b.2.2).mono (by simp only[Nd.wt];lia),(a.2.2.sub b.2.1).mono (by simp only[Nd.wt];lia)⟩
 | .times i j,ok=>by
  have a:=hs.at ok.1
  have b:=hs.at ok.2
  have p:=hw i ok.1
  have q:=hw j ok.2
  have le:∀ {x y:Int},Sz (60*ws.getD i.toNat 0-1) x->Sz (60*ws.getD j.toNat 0-1) y->Sz (60*Nd.wt ws (.times i j)-2) (x*y):=λh1 h2=>(h1.mul h2).mono (by simp only[Nd.wt];lia)
  have l:=Wz (Wz (le a.2.1 b.2.1) (le a.2.1 b.2.2)) (Wz (le a.2.2 b.2.1) (le a.2.2 b.2.2))
  have u:=Wo (Wo (le a.2.1 b.2.1) (le a.2.1 b.2.2)) (Wo (le a.2.2 b.2.1) (le a.2.2 b.2.2));exact⟨l.div hg.1,VA u hg.1⟩
 | .power i n,ok=>by
  have a:=hs.at ok.1
  have p:=hw i ok.1
  have n2:=ok.2.1
  have gp:(1:Int)<=g^(n.toNat-1):=yP (by lia)
  have hn:(60*ws.getD i.toNat 0-1)*n.toNat<=60*Nd.wt ws (.power i n)-2:=by
   simp only[Nd.wt];rw[Nat.sub_mul,Nat.one_mul];have e:60*ws.getD i.toNat 0*n.toNat=60*(n.toNat*ws.getD i.toNat 0):=by rw[Nat.mul_assoc,Nat.mul_comm (ws.getD i.toNat 0)]
   have m1:=xJ (zD n.toNat) p;lia
  have p1:Sz (60*Nd.wt ws (.power i n)-2) ((gt vs i).1^n.toNat):=(Sz.pow' a.2.1 (by lia)).mono hn
  have p2:Sz (60*Nd.wt ws (.power i n)-2) ((gt vs i).2^n.toNat):=(Sz.pow' a.2.2 (by lia)).mono hn
  have l:Sz (60*Nd.wt ws (.power i n)-2) (Yg (gt vs i).1 (gt vs i).2 n.toNat):=by
   unfold Yg;split
   ·exact(Sz.of (n:=1) 0 (by decide)).mono (by have:=xJ (show 1<=n.toNat by lia) p;simp only[Nd.wt];lia)
   ·exact Wz p1 p2
  exact⟨l.div gp,VA (Wo p1 p2) gp⟩
theorem SzW.spn (h:SzW ws vs)(hw:∀k:Nat,k<vs.length->ws.getD k 0<=16):Spn 1000 vs:=Spn.of_w h hw
theorem SzW.snoc {ws:List Nat}{vs:LI}{p:Int×Int}(h:SzW ws vs)(h1:p.1<=p.2)(h2:Sz (60*ws.getD vs.length 0-1) p.1)(h3:Sz (60*ws.getD vs.length 0-1) p.2):SzW ws (vs++[p]):=λk q hq=>by
 by_cases hk:k<vs.length
 ·rw[zP hk] at hq;exact h k q hq
 ·have hl:=(zF.mp hq).1;simp only[zI,zX,xA] at hl;have ek:k=vs.length:=by lia
  subst ek;simp at hq;subst hq;exact⟨h1,h2,h3⟩
theorem E2 {caps:List Nat}{tl te:TDE}{dl:Ev}{S S1:Sto}{Q:DK}{n:Nat}{o:Ob}(W:Nat->List D->Sto->Prop)(htl:∀K:DK,K (.ref n) S1->tl dl S K)(h1:S1[n]?=some o)(hw:∀k ys S2,W k ys S2->S2[n]?=some o/\S2[S1.length]?=some (.lst ys)/\ys.length=k)(hl:(Zq o).length<=1000)(h0:W 0 [] (S1++[.lst []]))
  (ht:∀(k:Nat)(x:D)(ys:List D)(S2:Sto)(K:DK),(Zq o)[k]?=some x->W k ys S2->(∀y S3,S3[S1.length]?=some (.lst ys)->W (k+1) (ys++[y]) (S3.set S1.length (.lst (ys++[y])))->K y S3)->te (some x::YS caps dl) S2 K)
  (hq:∀ys S2,W (Zq o).length ys S2->Q (.ref S1.length) S2)(hL:Y9 o=some o:=by rfl):XB caps tl Xu te dl S Q:=by
 unfold XB;refine htl _ ⟨by rw[ZS h1 hL];rfl,λk m S2=>(∃ys,W k ys S2)/\m+k=(Zq o).length,⟨(Zq o).length,⟨_,h0⟩,by lia⟩,?_⟩;rintro k m S2 ⟨⟨ys,w⟩,hm⟩;obtain⟨w1,w2,w3⟩:=hw _ _ _ w;rw[ZS w1 hL];dsimp only;split
 ·rename_i x hx;have hk:k<(Zq o).length:=(zF.mp hx).1;unfold WO Xu;simp only[if_true];refine ht k x ys S2 _ hx w λy S3 e3 w4=>?_
  rw[e3];exact⟨by lia,m-1,by lia,⟨_,w4⟩,by lia⟩
 ·rename_i hx;have hk:k=(Zq o).length:=by
   have:=xE.mp hx;lia
  exact hq ys S2 (hk ▸ w)
theorem Gy {caps:List Nat}{ta:TDA}{te:TDE}{dl:Ev}{S S1:Sto}{Q:DK}{j:Int}(W:Nat->List D->Sto->Prop)(hta:∀K:List D->Sto->Prop,K [.int j] S1->ta dl S K)(hj:0<=j/\j<=1000)(hw:∀k ys S2,W k ys S2->S2[S1.length]?=some (.lst ys)/\ys.length=k)(h0:W 0 [] (S1++[.lst []]))
  (ht:∀(k:Nat)(ys:List D)(S2:Sto)(K:DK),k<j.toNat->W k ys S2->(∀y S3,S3[S1.length]?=some (.lst ys)->W (k+1) (ys++[y]) (S3.set S1.length (.lst (ys++[y])))->K y S3)->te (some (.int (k:Int))::YS caps dl) S2 K)
  (hq:∀ys S2,W j.toNat ys S2->Q (.ref S1.length) S2):WI caps ta Xu te dl S Q:=by
 unfold WI;refine hta _ ⟨⟨by lia,by lia⟩,λk S2=>k<=j.toNat/\∃ys,W k ys S2,⟨zO _,_,h0⟩,?_⟩;rintro k S2 ⟨hk,ys,w⟩;obtain⟨w2,w3⟩:=hw _ _ _ w;split
 ·rename_i c;unfold WO Xu;simp only[if_true];refine ht k ys S2 _ c w λy S3 e3 w4=>?_
  rw[e3];exact⟨by lia,by lia,_,w4⟩
 ·rename_i c;have hk:k=j.toNat:=by lia
  exact hq ys S2 (hk ▸ w)
theorem JL {vs:List Nd}{k:Nat}{v:Nd}(h:vs[k]?=some v):atI (vs.map Nd.d) (k:Int)=some v.d:=XU (by rw[zG,h];rfl)
theorem FF (h:Pre S T):S.length<=T.length:=by
 rcases Nat.eq_zero_or_pos S.length with e|e
 ·lia
 ·have z:=h (S.length-1) _ (zC (show S.length-1<S.length by lia))
  have:=(zF.mp z).1;lia
theorem VN {to te:TDE}{dl:Ev}{S:Sto}{Q:DK}{n:Nat}{xs:List D}(hto:∀K:DK,K (.ref n) S->to dl S K)(h:S[n]?=some (.lst xs))(hte:∀K:DK,(∀(y:D)(S2:Sto),S2[n]?=some (.lst xs)->Q .non (S2.set n (.lst (xs++[y])))->K y S2)->te dl S K)(hl:xs.length<1000):UD to te dl S Q:=by
 unfold UD;refine hto _ ?_;simp only[h];refine hte _ λy S2 h2 q=>?_
 simp only[h2,if_pos hl];exact q
def Z2 (S:Sto)(lo:Nat)(ds:List D)(R:List LI):Prop:=ds.length=R.length/\∀(k:Nat)(d:D)(r:LI),ds[k]?=some d->R[k]?=some r->∃a,d=.ref a/\lo<=a/\S[a]?=some (.lst (r.map frD))
theorem Z2.nil {S:Sto}{lo:Nat}:Z2 S lo [] []:=⟨rfl,λk d r h=>by simp at h⟩
theorem Z2.pre {S T:Sto}{lo:Nat}{ds:List D}{R:List LI}(h:Z2 S lo ds R)(p:Pre S T):Z2 T lo ds R:=⟨h.1,λk d r hd hr=>by
 obtain⟨a,e,l,s⟩:=h.2 k d r hd hr;exact⟨a,e,l,p _ _ s⟩⟩
theorem Z2.low {S:Sto}{lo lo':Nat}{ds:List D}{R:List LI}(h:Z2 S lo ds R)(l:lo'<=lo):Z2 S lo' ds R:=⟨h.1,λk d r hd hr=>by
 obtain⟨a,e,l,s⟩:=h.2 k d r hd hr;exact⟨a,e,by lia,s⟩⟩
theorem Z2.keep {S T:Sto}{lo:Nat}{ds:List D}{R:List LI}(h:Z2 S lo ds R)(p:∀(x:Nat)(o:Ob),lo<=x->S[x]?=some o->T[x]?=some o):Z2 T lo ds R:=⟨h.1,λk d r hd hr=>by
 obtain⟨a,e,l,s⟩:=h.2 k d r hd hr;exact⟨a,e,l,p _ _ l s⟩⟩
theorem Z2.at {S:Sto}{lo:Nat}{ds:List D}{R:List LI}(h:Z2 S lo ds R){i:Int}(hi:inR R.length i):∃a,atI ds i=some (.ref a)/\lo<=a/\S[a]?=some (.lst ((R.getD i.toNat []).map frD)):=by
 obtain⟨h0,h1⟩:=hi;have hk:i.toNat<R.length:=by lia
 have hk':i.toNat<ds.length:=by rw[h.1];exact hk
 obtain⟨a,e,l,s⟩:=h.2 i.toNat _ _ (zC hk') (zC hk);refine⟨a,?_,l,?_⟩
 ·have z:=XU (xs:=ds) (j:=i.toNat) (v:=.ref a) (by rw[zC hk',e]);rw[show ((i.toNat:Nat):Int)=i by lia] at z;exact z
 ·rw[s];simp[hk]
theorem Z2.snoc {S:Sto}{lo:Nat}{ds:List D}{R:List LI}{a:Nat}{r:LI}(h:Z2 S lo ds R)(hl:lo<=a)(hs:S[a]?=some (.lst (r.map frD))):Z2 S lo (ds++[.ref a]) (R++[r]):=⟨by rw[zI,zI,h.1];rfl,λk d r' hd hr=>by
 by_cases hk:k<ds.length
 ·rw[zP hk] at hd;rw[zP (by rw[<- h.1];exact hk)] at hr;exact h.2 k d r' hd hr
 ·have l:=(zF.mp hd).1;simp only[zI,zX,xA] at l;have ek:k=ds.length:=by lia
  subst ek;rw[yD (zD _),yW] at hd;rw[h.1,yD (zD _),yW] at hr;cases hd;cases hr;exact⟨a,rfl,hl,hs⟩⟩
abbrev gs (sl:List LI)(i:Int)(l:Nat):Int×Int:=(sl.getD i.toNat []).getD l (0,0)
def Yw (p q:Int×Int)(g:Int):Int×Int:=(mn4 p.1 p.2 q.1 q.2/g,-(-mx4 p.1 p.2 q.1 q.2/g))
def YW (p:Int×Int)(n g:Int):Int×Int:=(Yg p.1 p.2 (n-1).toNat/g^((n-1).toNat-1)*n,-(-Y6 p.1 p.2 (n-1).toNat/g^((n-1).toNat-1))*n)
def Nd.sl (vs:LI)(sl:List LI)(g:Int)(l:Nat):Nd->Int×Int
 | .number _ _=>(0,0)
 | .unknown k=>if (l:Int)=k then (g,g) else (0,0)
 | .plus i j=>((gs sl i l).1+(gs sl j l).1,(gs sl i l).2+(gs sl j l).2)
 | .minus i j=>((gs sl i l).1-(gs sl j l).2,(gs sl i l).2-(gs sl j l).1)
 | .times i j=>((Yw (gt vs i) (gs sl j l) g).1+(Yw (gt vs j) (gs sl i l) g).1,(Yw (gt vs i) (gs sl j l) g).2+(Yw (gt vs j) (gs sl i l) g).2)
 | .power i n=>Yw (YW (gt vs i) n g) (gs sl i l) g
def Yv (vs:LI)(sl:List LI)(g:Int)(q:Nat)(v:Nd):LI:=(List.range q).map λl=>v.sl vs sl g l
theorem C2 {vs:LI}{sl:List LI}{g:Int}{q:Nat}{v:Nd}:(Yv vs sl g q v).length=q:=by simp[Yv]
theorem Ay (f:Int×Int->α)(r:LI)(h:r.length=q):r.map f=(List.range q).map λl=>f (r.getD l (0,0)):=by
 subst h;refine xG λk=>?_
 by_cases hk:k<r.length
 ·rw[zG,zG,xV hk,zC hk];simp[hk]
 ·rw[yG (by simpa using hk),yG (by simpa using hk)]
theorem JI (f:Int×Int->Int×Int->α)(r s:LI)(h:r.length=q)(h':s.length=q):List.zipWith f r s=(List.range q).map λl=>f (r.getD l (0,0)) (s.getD l (0,0)):=by
 subst h;refine xG λk=>?_
 by_cases hk:k<r.length
 ·rw[xK,zG,xV hk,zC hk,zC (show k<s.length by lia)];simp[hk,show k<s.length by lia]
 ·rw[yG (by rw[List.length_zipWith];lia),yG (by simpa using hk)]
theorem zb8 (x:D)(q:Nat):(List.replicate q [x]).flatten=(List.range q).map λ_=>x:=by
 refine xG λk=>?_
 have l:(List.replicate q [x]).flatten=List.replicate q x:=by
  induction q with
  | zero=>rfl
  | succ q ih=>rw[xI,xP,ih];rfl
 rw[l];by_cases hk:k<q
 ·rw[zG,xV hk,List.getElem?_replicate,if_pos hk];rfl
 ·rw[yG (by simpa using hk),yG (by simpa using hk)]
theorem Ci (h:p.1<=p.2)(g:Int):YW p 2 g=(p.1*2,p.2*2):=by
 have e1:Yg p.1 p.2 (2-1:Int).toNat=p.1:=by
  unfold Yg;rw[if_neg (by intro z;exact absurd z.1 (by decide))];show min (p.1^1) (p.2^1)=p.1;rw[Int.pow_one,Int.pow_one];lia
 have e2:Y6 p.1 p.2 (2-1:Int).toNat=p.2:=by
  unfold Y6;show max (p.1^1) (p.2^1)=p.2;rw[Int.pow_one,Int.pow_one];lia
 unfold YW;rw[e1,e2];show (p.1/g^0*2,-(-p.2/g^0)*2)=_;rw[xT,Int.ediv_one,Int.ediv_one,Int.neg_neg]
theorem IS (p q:Int×Int)(hg:1<=g):(Yw p q g).1<=(Yw p q g).2:=Tu hg (Hm _ _ _ _)
theorem zaz (p:Int×Int)(hn:0<=n)(hg:1<=g):(YW p n g).1<=(YW p n g).2:=Int.mul_le_mul_of_nonneg_right (Tu (yP (by lia)) (Pl _ _ _)) hn
def SlW (q:Nat)(ws:List Nat)(sl:List LI):Prop:=∀(k:Nat)(r:LI),sl[k]?=some r->r.length=q/\∀p∈r,p.1<=p.2/\Sz (64*ws.getD k 0-1) p.1/\Sz (64*ws.getD k 0-1) p.2
theorem SlW.at {q:Nat}{ws:List Nat}{sl:List LI}(h:SlW q ws sl){i:Int}(hi:inR sl.length i):(sl.getD i.toNat []).length=q/\∀l,l<q->(gs sl i l).1<=(gs sl i l).2/\Sz (64*ws.getD i.toNat 0-1) (gs sl i l).1/\Sz (64*ws.getD i.toNat 0-1) (gs sl i l).2:=by
 obtain⟨h0,h1⟩:=hi;have hk:i.toNat<sl.length:=by lia
 obtain⟨a,b⟩:=h i.toNat _ (zC hk);have e:sl.getD i.toNat []=sl[i.toNat]:=by simp[hk]
 refine⟨by rw[e];exact a,λl hl=>?_⟩;have e2:gs sl i l=sl[i.toNat][l]'(by rw[a];exact hl):=by
  unfold gs;rw[e];simp[show l<sl[i.toNat].length by rw[a];exact hl]
 rw[e2];exact b _ (yA _)
theorem SlW.snoc {q:Nat}{ws:List Nat}{sl:List LI}{r:LI}(h:SlW q ws sl)(hr:r.length=q)(hp:∀p∈r,p.1<=p.2/\Sz (64*ws.getD sl.length 0-1) p.1/\Sz (64*ws.getD sl.length 0-1) p.2):SlW q ws (sl++[r]):=λk u hu=>by
 by_cases hk:k<sl.length
 ·rw[zP hk] at hu;exact h k u hu
 ·have l:=(zF.mp hu).1;simp only[zI,zX,xA] at l;have ek:k=sl.length:=by lia
  subst ek;rw[yD (zD _),yW] at hu;cases hu;exact⟨hr,hp⟩
theorem M3 (hg:1<=g)(h1:Sz m p.1)(h2:Sz m p.2)(h3:Sz n q.1)(h4:Sz n q.2):Sz (m+n) (Yw p q g).1/\Sz (m+n) (Yw p q g).2:=
 ⟨(Wz (Wz (h1.mul h3) (h1.mul h4)) (Wz (h2.mul h3) (h2.mul h4))).div hg,VA (Wo (Wo (h1.mul h3) (h1.mul h4)) (Wo (h2.mul h3) (h2.mul h4))) hg⟩
theorem Bs:∀n:Nat,2<=n->n<=6->n<=2^(n-1):=λn h1 h2=>by
 have:n=2\/n=3\/n=4\/n=5\/n=6:=by lia
 rcases this with rfl|rfl|rfl|rfl|rfl<;>decide
theorem Lf (h:Sz m x)(hn:n.natAbs<=2^e)(hp:1<=n.natAbs):Sz (m+e) (x*n):=by
 unfold Sz at *
 rw[Nat.pow_add,Int.natAbs_mul];exact Nat.mul_lt_mul_of_lt_of_le h hn (yF (by decide))
theorem GV (hg:1<=g)(n2:2<=n)(n6:n<=6)(h1:Sz m p.1)(h2:Sz m p.2):Sz (m*(n.toNat-1)+(n.toNat-1)) (YW p n g).1/\Sz (m*(n.toNat-1)+(n.toNat-1)) (YW p n g).2:=by
 have en:(n-1).toNat=n.toNat-1:=by lia
 have gp:(1:Int)<=g^((n-1).toNat-1):=yP (by lia)
 have p1:Sz (m*(n.toNat-1)) (p.1^(n-1).toNat):=by rw[en];exact Sz.pow' h1 (by lia)
 have p2:Sz (m*(n.toNat-1)) (p.2^(n-1).toNat):=by rw[en];exact Sz.pow' h2 (by lia)
 have lo:Sz (m*(n.toNat-1)) (Yg p.1 p.2 (n-1).toNat):=by
  unfold Yg;split
  ·show (0:Int).natAbs<_;exact yF (by decide)
  ·exact Wz p1 p2
 have nb:n.natAbs<=2^(n.toNat-1):=by
  have:=Bs n.toNat (by lia) (by lia);lia
 exact⟨Lf (lo.div gp) nb (by lia),Lf (VA (Wo p1 p2) gp) nb (by lia)⟩
theorem sl_ok {q:Nat}{ws:List Nat}{vs:LI}{sl:List LI}{g:Int}(hs:SzW ws vs)(hl:SlW q ws sl)(hg:1<=g/\g<=1000000)(hv:sl.length<=vs.length)(hw:∀i:Int,inR vs.length i->1<=ws.getD i.toNat 0){l:Nat}(hq:l<q):∀v:Nd,v.ok sl.length q->1<=v.wt ws->(v.sl vs sl g l).1<=(v.sl vs sl g l).2/\Sz (64*v.wt ws-2) (v.sl vs sl g l).1/\Sz (64*v.wt ws-2) (v.sl vs sl g l).2
 | .number t b,ok,h1=>⟨yL _,by show Sz _ 0;exact yF (by decide),by show Sz _ 0;exact yF (by decide)⟩
 | .unknown k,ok,h1=>by
  have sg:Sz (64*Nd.wt ws (.unknown k)-2) g:=(Sz.of (n:=21) (10^6) (show g.natAbs<=_ by lia)).mono (by show 21<=64*1-2;decide)
  show (if (l:Int)=k then (g,g) else (0,0)).1<=(if (l:Int)=k then (g,g) else (0,0)).2/\Sz _ (if (l:Int)=k then (g,g) else (0,0)).1/\Sz _ (if (l:Int)=k then (g,g) else (0,0)).2;split
  ·exact⟨yL _,sg,sg⟩
  ·exact⟨yL _,yF (by decide),yF (by decide)⟩
 | .plus i j,ok,h1=>by
  have a:=(hl.at ok.1).2 l hq
  have b:=(hl.at ok.2).2 l hq
  have p:=hw i ⟨ok.1.1,by have:=ok.1.2;lia⟩
  have q:=hw j ⟨ok.2.1,by have:=ok.2.2;lia⟩;refine⟨?_,(a.2.1.add b.2.1).mono (by simp only[Nd.wt];lia),(a.2.2.add b.2.2).mono (by simp only[Nd.wt];lia)⟩;show (gs sl i l).1+(gs sl j l).1<=(gs sl i l).2+(gs sl j l).2;lia
 | .minus i j,ok,h1=>by
  have a:=(hl.at ok.1).2 l hq
  have b:=(hl.at ok.2).2 l hq
  have p:=hw i ⟨ok.1.1,by have:=ok.1.2;lia⟩
  have q:=hw j ⟨ok.2.1,by have:=ok.2.2;lia⟩;refine⟨?_,(a.2.1.sub b.2.2).mono (by simp only[Nd.wt];lia),(a.2.2.sub b.2.1).mono (by simp only[Nd.wt];lia)⟩;show (gs sl i l).1-(gs sl j l).2<=(gs sl i l).2-(gs sl j l).1;lia
 | .times i j,ok,h1=>by
  have oi:inR vs.length i:=⟨ok.1.1,by have:=ok.1.2;lia⟩
  have oj:inR vs.length j:=⟨ok.2.1,by have:=ok.2.2;lia⟩
  have a:=(hl.at ok.1).2 l hq
  have b:=(hl.at ok.2).2 l hq
  have c:=hs.at oi
  have d:=hs.at oj
  have p:=hw i oi
  have q:=hw j oj
  have z1:=M3 hg.1 c.2.1 c.2.2 b.2.1 b.2.2
  have z2:=M3 hg.1 d.2.1 d.2.2 a.2.1 a.2.2;refine⟨?_,(z1.1.add z2.1).mono (by simp only[Nd.wt];lia),(z1.2.add z2.2).mono (by simp only[Nd.wt];lia)⟩;have m1:=IS (gt vs i) (gs sl j l) hg.1
  have m2:=IS (gt vs j) (gs sl i l) hg.1
  show (Yw (gt vs i) (gs sl j l) g).1+(Yw (gt vs j) (gs sl i l) g).1<=(Yw (gt vs i) (gs sl j l) g).2+(Yw (gt vs j) (gs sl i l) g).2;lia
 | .power i n,ok,h1=>by
  have oi:inR vs.length i:=⟨ok.1.1,by have:=ok.1.2;lia⟩
  have a:=(hl.at ok.1).2 l hq
  have c:=hs.at oi
  have p:=hw i oi
  have n2:=ok.2.1
  have f:=GV hg.1 ok.2.1 ok.2.2 c.2.1 c.2.2
  have z:=M3 hg.1 f.1 f.2 a.2.1 a.2.2
  have hn:(60*ws.getD i.toNat 0-1)*(n.toNat-1)+(n.toNat-1)+(64*ws.getD i.toNat 0-1)<=64*Nd.wt ws (.power i n)-2:=by
   simp only[Nd.wt];generalize ws.getD i.toNat 0=w at p;obtain⟨k,hk⟩:∃k,n.toNat=k+2:=⟨n.toNat-2,by lia⟩;rw[hk,show k+2-1=k+1 by lia,Nat.sub_mul,Nat.one_mul];have e1:60*w*(k+1)=60*(k*w)+60*w:=by rw[Nat.mul_add,Nat.mul_one,Nat.mul_assoc,Nat.mul_comm w k]
   have e2:(k+2)*w=k*w+2*w:=Nat.add_mul ..
   have e3:k+1<=60*w*(k+1):=Nat.le_mul_of_pos_left _ (by lia);rw[e2];lia
  exact⟨IS _ _ hg.1,z.1.mono hn,z.2.mono hn⟩
theorem SlW.spn (h:SlW q ws sl)(hw:∀k:Nat,k<sl.length->ws.getD k 0<=16):∀i:Int,inR sl.length i->(sl.getD i.toNat []).length=q/\∀l,l<q->(gs sl i l).1<=(gs sl i l).2/\Sz 1100 (gs sl i l).1/\Sz 1100 (gs sl i l).2:=λi hi=>by
 obtain⟨a,b⟩:=h.at hi;refine⟨a,λl hl=>?_⟩;obtain⟨c,d,e⟩:=b l hl;have:=hw i.toNat (by have:=hi.1;have:=hi.2;lia);exact⟨c,d.mono (by lia),e.mono (by lia)⟩
theorem zcf {caps:List Nat}{ta:TDA}{te:TDE}{dl:Ev}{S S1:Sto}{Q:DK}{n:Nat}{xs:List D}(g:Nat->D->D)(hta:∀K:List D->Sto->Prop,K [.ref n] S1->ta dl S K)(h1:S1[n]?=some (.lst xs))(hl:xs.length<=1000)
  (ht:∀(k:Nat)(x:D),xs[k]?=some x->∀(S2:Sto)(K:DK),Pre S1 S2->K (g k x) S2->te (some (.int (k:Int))::some x::YS caps dl) S2 K)(hq:Q (.ref S1.length) (S1++[.lst (xs.mapIdx g)])):Se caps ta te dl S Q:=by
 unfold Se;refine hta _ ⟨by rw[ZS h1 rfl];rfl,λk m S2=>S2=S1++[.lst ((xs.take k).mapIdx g)]/\m+k=xs.length,⟨xs.length,by simp,by lia⟩,?_⟩;rintro k m S2 ⟨rfl,hm⟩;rw[ZS (Ua h1) rfl];dsimp only[Zq];split
 ·rename_i x hx;have hk:k<xs.length:=(zF.mp hx).1;unfold Qj;refine ht k x hx _ _ Pre.refl.push ?_;rw[Zy];refine⟨by simp;lia,m-1,by lia,?_,by lia⟩;have e:xs.take (k+1)=xs.take k++[x]:=by rw[xF,hx];rfl
  rw[e,List.mapIdx_append,List.set_append_right _ _ (zD _)];have l:(xs.take k).length=k:=by rw[yB];lia
  simp[l]
 ·rename_i hx;have hk:xs.length<=k:=xE.mp hx;refine⟨by lia,?_⟩;rw[zY hk];exact hq
def mid (p:Int×Int):Int:=(p.1+p.2)/2
def ZP (p:Int×Int):Int×Int:=(mid p,mid p)
def Xa (p q:Int×Int):Int×Int:=(p.1+q.1,p.2+q.2)
def YA (p q:Int×Int):Int×Int:=(p.1-q.2,p.2-q.1)
def sumP (g:Int)(us vs:LI):Int×Int:=(List.zip us vs).foldl (λt z=>Xa t (Yw z.1 z.2 g)) (0,0)
def rwD (r:Bool×Nat):D:=.tup [.str (if r.1 then "zero" else "least"),.int (r.2:Int)]
def eqs (rows:List (Bool×Nat)):List Nat:=rows.filterMap λr=>if r.1 then some r.2 else none
theorem Ks {caps:List Nat}{tl te:TDE}{tc:TDT}{dl:Ev}{S S1:Sto}{Q:DK}{n:Nat}{o:Ob}(f:D->Option D)(htl:∀K:DK,K (.ref n) S1->tl dl S K)(h1:S1[n]?=some o)(hl:(Zq o).length<=1000)
  (hc:∀x∈Zq o,∀(S2:Sto)(K:Bool->Sto->Prop),Pre S1 S2->K (f x).isSome S2->tc (some x::YS caps dl) S2 K)(ht:∀x∈Zq o,∀y,f x=some y->∀(S2:Sto)(K:DK),Pre S1 S2->K y S2->te (some x::YS caps dl) S2 K)(hq:Q (.ref S1.length) (S1++[.lst ((Zq o).filterMap f)]))(hL:Y9 o=some o:=by rfl):XB caps tl tc te dl S Q:=by
 unfold XB;refine htl _ ⟨by rw[ZS h1 hL];rfl,λk m S2=>S2=S1++[.lst (((Zq o).take k).filterMap f)]/\m+k=(Zq o).length,⟨(Zq o).length,by simp,by lia⟩,?_⟩;rintro k m S2 ⟨rfl,hm⟩;rw[ZS (Ua h1) hL];dsimp only;split
 ·rename_i x hx;have hk:k<(Zq o).length:=(zF.mp hx).1
  have e:(Zq o).take (k+1)=(Zq o).take k++[x]:=by rw[xF,hx];rfl
  unfold WO;refine hc x (zL hx) _ _ Pre.refl.push ?_;cases ef:f x with
  | none=>
   refine YR ?_;refine⟨m-1,by lia,?_,by lia⟩;rw[e,List.filterMap_append];simp[ef]
  | some y=>
   refine Xm ?_;refine ht x (zL hx) y ef _ _ Pre.refl.push ?_;rw[Zy];have ll:=List.length_filterMap_le f ((Zq o).take k);refine⟨by rw[yB] at ll;lia,m-1,by lia,?_,by lia⟩;rw[e,List.filterMap_append,QP];simp[ef]
 ·rename_i hx;have hk:(Zq o).length<=k:=xE.mp hx;rw[zY hk];exact hq
def YJ (g:Int)(k c:Nat)(ts:LI)(R:List LI):Int×Int:=YA (if k=c then (g,g) else (0,0)) (sumP g ts (R.map λr=>r.getD c (0,0)))
def Wu (g:Int)(box:LI)(aC:LI)(R:List LI)(k:Nat)(es:List Int):Int×Int:=
 Xa (YA (ZP (gt box k)) (sumP g (es.map λe=>(e,e)) aC)) (sumP g ((List.range box.length).map λc=>YJ g k c (es.map λe=>(e,e)) R) (box.map λp=>YA p (ZP p)))
theorem Ti (g:Int)(us vs:LI)(k:Nat){u v:Int×Int}(hu:us[k]?=some u)(hv:vs[k]?=some v):sumP g (us.take (k+1)) (vs.take (k+1))=Xa (sumP g (us.take k) (vs.take k)) (Yw u v g):=by
 unfold sumP;have l1:=(zF.mp hu).1
 have l2:=(zF.mp hv).1;rw[W0 hu,W0 hv,List.zip_append (by rw[yB,yB];lia),List.foldl_append];rfl
theorem Fu (g:Int)(us vs:LI):sumP g (us.take (min us.length vs.length)) (vs.take (min us.length vs.length))=sumP g us vs:=by
 unfold sumP;congr 1;show List.zipWith Prod.mk _ _=List.zipWith Prod.mk _ _;rw[<- List.take_zipWith,zY (by rw[List.length_zipWith];exact zD _)]
def Bd (B:Nat)(vs:LI):Prop:=∀p∈vs,Sz B p.1/\Sz B p.2
theorem Kh (hg:1<=g)(h1:Bd A us)(h2:Bd B vs):∀k:Nat,k<=us.length->k<=vs.length->Sz (A+B+k+1) (sumP g (us.take k) (vs.take k)).1/\Sz (A+B+k+1) (sumP g (us.take k) (vs.take k)).2
 | 0,_,_=>⟨yF (by decide),yF (by decide)⟩
 | k+1,l1,l2=>by
  have hu:=zC (show k<us.length by lia)
  have hv:=zC (show k<vs.length by lia);rw[Ti g us vs k hu hv];have ih:=Kh hg h1 h2 k (by lia) (by lia)
  have a:=h1 _ (zL hu)
  have b:=h2 _ (zL hv)
  have m:=M3 hg a.1 a.2 b.1 b.2;exact⟨(ih.1.add m.1).mono (by lia),(ih.2.add m.2).mono (by lia)⟩
theorem Em (hg:1<=g)(h1:Bd A us)(h2:Bd B vs)(l:us.length<=60):Sz (A+B+61) (sumP g us vs).1/\Sz (A+B+61) (sumP g us vs).2:=by
 rw[<- Fu];have z:=Kh hg h1 h2 (min us.length vs.length) (by lia) (by lia);exact⟨z.1.mono (by lia),z.2.mono (by lia)⟩
theorem AA {is:List Nat}{ta:TDA}{tb:TDS}{E:Xx}{dl:Ev}{S:Sto}{n n':Nat}{xs ys:List D}(W:Nat->Ev->Prop)(hta:∀K:List D->Sto->Prop,K [.ref n,.ref n'] S->ta dl S K)(h1:S[n]?=some (.lst xs))(h2:S[n']?=some (.lst ys))(h0:W 0 dl)
  (hb:∀(k:Nat)(x y:D)(dl':Ev)(nx ct:Ev->Sto->Prop),xs[k]?=some x->ys[k]?=some y->W k dl'->(∀dl2,W (k+1) dl2->nx dl2 S)->tb { nx:=nx,rt:=E.rt,bk:=E.nx,ct:=ct } (Uu is [x,y] dl') S)(he:∀dl',W (min xs.length ys.length) dl'->E.nx dl' S):NS is ta tb E dl S:=by
 unfold NS;refine hta _ ⟨⟨by rw[ZS h1 rfl];rfl,by rw[ZS h2 rfl];rfl⟩,λk m dl' S'=>S'=S/\W k dl'/\k+m=min xs.length ys.length,⟨min xs.length ys.length,rfl,h0,by simp⟩,?_⟩;rintro k m dl' S' ⟨rfl,w,hk⟩;simp only[ZS h1 rfl,ZS h2 rfl,Zq];split
 ·rename_i x y e1 e2;have l1:=(zF.mp e1).1
  have l2:=(zF.mp e2).1;exact hb k x y dl' _ _ e1 e2 w (λdl2 w2=>⟨m-1,by lia,rfl,w2,by lia⟩)
 ·rename_i no;have ek:k=min xs.length ys.length:=by
   by_cases l:k<min xs.length ys.length
   ·exact absurd (zC (l:=ys) (i:=k) (by lia)) (no _ _ (zC (l:=xs) (i:=k) (by lia)))
   ·lia
  exact⟨ek,he _ (ek ▸ w)⟩
theorem D2 {B:Nat}{p:Int×Int}(h1:Sz B p.1)(h2:Sz B p.2):Sz (B+1) (mid p):=(h1.add h2).div (by decide) |>.mono (by lia)
theorem FI (hp:Sz B p.1/\Sz B p.2)(hq:Sz C q.1/\Sz C q.2):Sz (max B C+1) (YA p q).1/\Sz (max B C+1) (YA p q).2:=⟨hp.1.sub hq.2,hp.2.sub hq.1⟩
def YO (S:Sto)(ds:List D)(M:List (List Int)):Prop:=ds.length=M.length/\∀(k:Nat)(d:D)(r:List Int),ds[k]?=some d->M[k]?=some r->∃a,d=.ref a/\S[a]?=some (.lst (r.map D.int))
theorem YO.pre (h:YO S ds M)(p:Pre S T):YO T ds M:=⟨h.1,λk d r hd hr=>by
 obtain⟨a,e,s⟩:=h.2 k d r hd hr;exact⟨a,e,p _ _ s⟩⟩
theorem zbN {vs:LI}{p:Int×Int}{i:Int}(h:inR vs.length i):gt (vs++[p]) i=gt vs i:=by
 have hk:i.toNat<vs.length:=by
  have:=h.1
  have:=h.2;lia
 simp only[gt,zK,zP hk]
theorem Gh {vs:LI}{p:Int×Int}{k:Nat}(h:vs.length=k):gt (vs++[p]) (k:Int)=p:=by
 subst h;simp[gt]
def Pz (B:Nat)(vs:LI):Prop:=∀p∈vs,1<=p.2/\Sz B p.1/\Sz B p.2
theorem Pz.at {B:Nat}{vs:LI}(h:Pz B vs){i:Int}(hi:inR vs.length i):1<=(gt vs i).2/\Sz B (gt vs i).1/\Sz B (gt vs i).2:=h _ (Qs hi)
def Nd.due (vs ps:LI):Nd->Int×Int
 | .number t b=>(t,b)
 | .unknown k=>gt ps k
 | .plus i j=>((gt vs i).1*(gt vs j).2+(gt vs j).1*(gt vs i).2,(gt vs i).2*(gt vs j).2)
 | .minus i j=>((gt vs i).1*(gt vs j).2-(gt vs j).1*(gt vs i).2,(gt vs i).2*(gt vs j).2)
 | .times i j=>((gt vs i).1*(gt vs j).1,(gt vs i).2*(gt vs j).2)
 | .power i n=>((gt vs i).1^n.toNat,(gt vs i).2^n.toNat)
def PzW (ws:List Nat)(vs:LI):Prop:=∀(k:Nat)(p:Int×Int),vs[k]?=some p->1<=p.2/\Sz (112*ws.getD k 0-2) p.1/\Sz (112*ws.getD k 0-2) p.2
theorem PzW.at {ws:List Nat}{vs:LI}(h:PzW ws vs){i:Int}(hi:inR vs.length i):1<=(gt vs i).2/\Sz (112*ws.getD i.toNat 0-2) (gt vs i).1/\Sz (112*ws.getD i.toNat 0-2) (gt vs i).2:=by
 obtain⟨h0,h1⟩:=hi;have hk:i.toNat<vs.length:=by lia
 have e:gt vs i=vs[i.toNat]:=by simp[gt,hk]
 rw[e];exact h _ _ (zC hk)
def YG (ps:LI)(ns:List Nd):LI:=ns.foldl (λacc v=>acc++[v.due acc ps]) []
theorem K4 (ps:LI)(ns:List Nd)(v:Nd):YG ps (ns++[v])=YG ps ns++[v.due (YG ps ns) ps]:=by
 unfold YG;rw[List.foldl_append];rfl
theorem G7 (ps:LI)(ns:List Nd):(YG ps ns).length=ns.length:=by
 have z:∀k,k<=ns.length->(YG ps (ns.take k)).length=k:=λk=>by
  induction k with
  | zero=>intro _;rfl
  | succ k ih=>
   intro hk;rw[W0 (zC (show k<ns.length by lia)),K4];simp[ih (by lia)]
 have y:=z ns.length (zD _)
 rwa [xS] at y
theorem Pz.of_w {ws:List Nat}{vs:LI}(h:PzW ws vs)(hw:∀k:Nat,k<vs.length->ws.getD k 0<=16):Pz 1800 vs:=λp hp=>by
 obtain⟨k,hk,e⟩:=yV.mp hp;obtain⟨a,b,c⟩:=h k p (by rw[zC hk,e]);have:=hw k hk;exact⟨a,b.mono (by lia),c.mono (by lia)⟩
def InW (g:Int)(vs ds:LI):Prop:=∀i:Int,inR ds.length i->(gt vs i).1*(gt ds i).2<=(gt ds i).1*g/\(gt ds i).1*g<=(gt vs i).2*(gt ds i).2
def hs:Nat->Int->Int->Int
 | 0,_,_=>0
 | k+1,x,y=>x*hs k x y+y^k
def In (p:Int×Int)(x:Rat):Prop:=(p.1:Rat)<=x/\x<=(p.2:Rat)
theorem FC {a b g:Rat}(hg:0<g)(h:g*a<=g*b):a<=b:=by
 by_cases c:a<=b
 ·exact c
 ·have d:b<a:=Rat.not_le.mp c
  have z:=Rat.mul_pos hg (show 0<a-b by grind);grind
theorem Mh {a b:Int}(h:a<=b):(a:Rat)<=(b:Rat):=Rat.intCast_le_intCast.mpr h
theorem In.add {p q:Int×Int}{x y:Rat}(h1:In p x)(h2:In q y):In (Xa p q) (x+y):=by
 obtain⟨a,b⟩:=h1;obtain⟨c,d⟩:=h2;refine⟨?_,?_⟩
 ·show ((p.1+q.1:Int):Rat)<=_;rw[Rat.intCast_add];grind
 ·show _<=((p.2+q.2:Int):Rat);rw[Rat.intCast_add];grind
theorem In.take {p q:Int×Int}{x y:Rat}(h1:In p x)(h2:In q y):In (YA p q) (x-y):=by
 obtain⟨a,b⟩:=h1;obtain⟨c,d⟩:=h2;refine⟨?_,?_⟩
 ·show ((p.1-q.2:Int):Rat)<=_;rw[Rat.intCast_sub];grind
 ·show _<=((p.2-q.1:Int):Rat);rw[Rat.intCast_sub];grind
theorem E9 {A B C D x y:Rat}(h1:A<=x)(h2:x<=B)(h3:C<=y)(h4:y<=D):(A*C<=x*y\/A*D<=x*y\/B*C<=x*y\/B*D<=x*y)/\(x*y<=A*C\/x*y<=A*D\/x*y<=B*C\/x*y<=B*D):=by
 have m:∀ {u v:Rat},0<=u->0<=v->0<=u*v:=λa b=>Rat.mul_nonneg a b
 rcases Rat.le_total (a:=0) (b:=y) with hy|hy
 ·have a1:=m (show 0<=x-A by grind) hy
  have a2:=m (show 0<=B-x by grind) hy;refine⟨?_,?_⟩
  ·rcases Rat.le_total (a:=0) (b:=A) with hA|hA
   ·have:=m hA (show 0<=y-C by grind);exact .inl (by grind)
   ·have:=m (show 0<=-A by grind) (show 0<=D-y by grind);exact .inr (.inl (by grind))
  ·rcases Rat.le_total (a:=0) (b:=B) with hB|hB
   ·have:=m hB (show 0<=D-y by grind);exact .inr (.inr (.inr (by grind)))
   ·have:=m (show 0<=-B by grind) (show 0<=y-C by grind);exact .inr (.inr (.inl (by grind)))
 ·have a1:=m (show 0<=x-A by grind) (show 0<=-y by grind)
  have a2:=m (show 0<=B-x by grind) (show 0<=-y by grind);refine⟨?_,?_⟩
  ·rcases Rat.le_total (a:=0) (b:=B) with hB|hB
   ·have:=m hB (show 0<=y-C by grind);exact .inr (.inr (.inl (by grind)))
   ·have:=m (show 0<=-B by grind) (show 0<=D-y by grind);exact .inr (.inr (.inr (by grind)))
  ·rcases Rat.le_total (a:=0) (b:=A) with hA|hA
   ·have:=m hA (show 0<=D-y by grind);exact .inr (.inl (by grind))
   ·have:=m (show 0<=-A by grind) (show 0<=y-C by grind);exact .inl (by grind)
theorem In.mul {p q:Int×Int}{x y:Rat}{g:Int}(hg:1<=g)(h1:In p x)(h2:In q y):In (Yw p q g) (x*y/(g:Rat)):=by
 have gp:(0:Rat)<(g:Rat):=Rat.intCast_pos.mpr (by lia)
 have ge:(g:Rat)*(x*y/(g:Rat))=x*y:=by grind
 have c:=E9 h1.1 h1.2 h2.1 h2.2
 have lo:((mn4 p.1 p.2 q.1 q.2:Int):Rat)<=x*y:=by
  have t:∀u:Int,mn4 p.1 p.2 q.1 q.2<=u->((mn4 p.1 p.2 q.1 q.2:Int):Rat)<=(u:Rat):=λu h=>Mh h
  have e1:=t (p.1*q.1) (by unfold mn4;lia)
  have e2:=t (p.1*q.2) (by unfold mn4;lia)
  have e3:=t (p.2*q.1) (by unfold mn4;lia)
  have e4:=t (p.2*q.2) (by unfold mn4;lia);rw[Rat.intCast_mul] at e1 e2 e3 e4;rcases c.1 with z|z|z|z<;>grind
 have hi:x*y<=((mx4 p.1 p.2 q.1 q.2:Int):Rat):=by
  have t:∀u:Int,u<=mx4 p.1 p.2 q.1 q.2->(u:Rat)<=((mx4 p.1 p.2 q.1 q.2:Int):Rat):=λu h=>Mh h
  have e1:=t (p.1*q.1) (by unfold mx4;lia)
  have e2:=t (p.1*q.2) (by unfold mx4;lia)
  have e3:=t (p.2*q.1) (by unfold mx4;lia)
  have e4:=t (p.2*q.2) (by unfold mx4;lia);rw[Rat.intCast_mul] at e1 e2 e3 e4;rcases c.2 with z|z|z|z<;>grind
 refine⟨FC gp ?_,FC gp ?_⟩
 ·have z:=Mh (Qk (mn4 p.1 p.2 q.1 q.2) (show 0<g by lia)).1;rw[Rat.intCast_mul] at z;rw[ge];show (g:Rat)*((mn4 p.1 p.2 q.1 q.2/g:Int):Rat)<=_;grind
 ·have z:=Mh (HW (mx4 p.1 p.2 q.1 q.2) (show 0<g by lia)).1;rw[Rat.intCast_mul] at z;rw[ge];show _<=(g:Rat)*((-(-mx4 p.1 p.2 q.1 q.2/g):Int):Rat);grind
def rsum:Nat->(Nat->Rat)->Rat
 | 0,_=>0
 | k+1,f=>rsum k f+f k
theorem In.sum {g:Int}(hg:1<=g){us vs:LI}{a b:Nat->Rat}(h1:∀(j:Nat)(p:Int×Int),us[j]?=some p->In p (a j))(h2:∀(j:Nat)(p:Int×Int),vs[j]?=some p->In p (b j)):∀k:Nat,k<=us.length->k<=vs.length->In (sumP g (us.take k) (vs.take k)) (rsum k λj=>a j*b j/(g:Rat))
 | 0,_,_=>⟨Rat.le_refl,Rat.le_refl⟩
 | k+1,l1,l2=>by
  have hu:=zC (show k<us.length by lia)
  have hv:=zC (show k<vs.length by lia);rw[Ti g us vs k hu hv];exact(In.sum hg h1 h2 k (by lia) (by lia)).add ((h1 k _ hu).mul hg (h2 k _ hv))
theorem In.sumP {g:Int}(hg:1<=g){us vs:LI}{a b:Nat->Rat}{n:Nat}(l1:us.length=n)(l2:vs.length=n)(h1:∀(j:Nat)(p:Int×Int),us[j]?=some p->In p (a j))(h2:∀(j:Nat)(p:Int×Int),vs[j]?=some p->In p (b j)):In (sumP g us vs) (rsum n λj=>a j*b j/(g:Rat)):=by
 have z:=In.sum hg h1 h2 n (by lia) (by lia);rw[zY (by lia),zY (by lia)] at z;exact z
theorem zcX {bs:LI}(f:Int×Int->Int×Int){i:Int}(h:inR bs.length i):gt (bs.map f) i=f (gt bs i):=by
 have h0:=h.1
 have h1:=h.2
 have hk:i.toNat<bs.length:=by lia
 unfold gt;simp[hk]
theorem OS {G:Int->Prop}:∀xs:List D,(∀(k:Nat)(d:D),xs[k]?=some d->∃t,d=.int t/\G t)->∃ts:List Int,xs=ts.map D.int/\∀t∈ts,G t
 | [],_=>⟨[],rfl,λp h=>by cases h⟩
 | x::xs,h=>by
  obtain⟨p,rfl,hp⟩:=h 0 x rfl;obtain⟨vs,rfl,hv⟩:=OS xs λk d hd=>h (k+1) d hd
  exact⟨p::vs,rfl,λq hq=>by
   rcases zS.mp hq with e|e
   ·subst e;exact hp
   ·exact hv q e⟩
theorem zbA {ts:List Int}{k:Nat}(h:k<ts.length):atI (ts.map D.int) (k:Int)=some (.int (ts.getD k 0)):=XU (by rw[zG,zC h];simp[h])
theorem EY {v:Nd}{ns:List Nd}{n:Nat}{S:Sto}{Q:DK}{o:Option Nat}(h:S[n]?=some (.lst (ns.map Nd.d)))(e:YI (eqN 1) (ns.map Nd.d) v.d=some o.isSome)(hq:Q (.bl (!o.isSome)) S):YH (wIn 1 true) v.d (.ref n) S Q:=by
 rw[XA];unfold wIn;simp only[ZS h rfl,Zq,e];exact hq
theorem any_some:∀ {ns:List Nd} {k:Nat},ns[k]?=some v->YI (eqN 1) (ns.map Nd.d) v.d≠some (none:Option Nat).isSome
 | [],k,h=>by simp at h
 | u::us,0,h=>by
  have e:u=v:=by simpa using h
  subst e;show (match eqN 1 u.d u.d,YI (eqN 1) (us.map Nd.d) u.d with|some b,some c=>some (b||c)|_,_=>none)≠_;obtain⟨c,hc⟩:=Hb u us;rw[zcW,hc];simp
 | u::us,k+1,h=>by
  have ih:=any_some (ns:=us) (k:=k) (by simpa using h)
  show (match eqN 1 u.d v.d,YI (eqN 1) (us.map Nd.d) v.d with|some b,some c=>some (b||c)|_,_=>none)≠_;obtain⟨b,hb⟩:=Ij u v;obtain⟨c,hc⟩:=Hb v us;rw[hc] at ih;rw[hb,hc];cases c
  ·exact absurd rfl ih
  ·simp
theorem Ge {vs us ps:LI}{k:Nat}{q:Int}(h:∀i:Int,inR k i->gt vs i=gt us i):∀v:Nd,v.ok k q->v.due vs ps=v.due us ps
 | .number _ _,_=>rfl
 | .unknown _,_=>rfl
 | .plus i j,ok=>by simp only[Nd.due,h i ok.1,h j ok.2]
 | .minus i j,ok=>by simp only[Nd.due,h i ok.1,h j ok.2]
 | .times i j,ok=>by simp only[Nd.due,h i ok.1,h j ok.2]
 | .power i n,ok=>by simp only[Nd.due,h i ok.1]
theorem Gq (P:LI)(ns:List Nd):∀ms:List Nd,∃r,YG P (ns++ms)=YG P ns++r
 | []=>⟨[],by rw[xD,xD]⟩
 | v::ms=>by
  obtain⟨r,e⟩:=Gq P (ns++[v]) ms;rw[xQ] at e;refine⟨v.due (YG P ns) P::r,?_⟩;rw[show ns++v::ms=ns++([v]++ms) from rfl,e,K4,xQ];rfl
theorem MQ {P:LI}{ns ms:List Nd}{i:Int}(h:inR ns.length i):gt (YG P (ns++ms)) i=gt (YG P ns) i:=by
 obtain⟨r,e⟩:=Gq P ns ms;rw[e];exact zcG (k:=ns.length) h (by rw[G7];exact zD _)
theorem Bj {P:LI}{ns:List Nd}{ws:List Nat}{q:Int}{j:Nat}{v:Nd}(net:Z7 q ns ws)(h:ns[j]?=some v):gt (YG P ns) (j:Int)=v.due (YG P ns) P:=by
 have hj:=(zF.mp h).1
 have e:ns=ns.take (j+1)++ns.drop (j+1):=(List.take_append_drop _ _).symm
 have e2:ns=ns.take j++ns.drop j:=(List.take_append_drop _ _).symm
 have l:(ns.take (j+1)).length=j+1:=by rw[yB];lia
 have lj:(ns.take j).length=j:=by rw[yB];lia
 have g1:gt (YG P ns) (j:Int)=gt (YG P (ns.take (j+1))) (j:Int):=by
  have z:=MQ (P:=P) (ns:=ns.take (j+1)) (ms:=ns.drop (j+1)) (i:=(j:Int)) ⟨by lia,by rw[l];lia⟩;rw[<- e] at z;exact z
 rw[g1,W0 h,K4,Gh (by rw[G7,lj])];refine Ge (k:=j) (q:=q) (λi hi=>?_) v (net.ok j v h).1;have z:=MQ (P:=P) (ns:=ns.take j) (ms:=ns.drop j) (i:=i) (by rw[lj];exact hi);rw[<- e2] at z;exact z.symm
theorem Ic {ws us:List Nat}{i:Nat}(h:i<ws.length):(ws++us).getD i 0=ws.getD i 0:=by rw[zK,zK,zP h]
def Nd.hv:Nd->Nat
 | .minus _ _=>2
 | _=>1
theorem KO:∀rs:List Nat,eqs (rs.map λi=>((true,i):Bool×Nat))=rs
 | []=>rfl
 | r::rs=>(congrArg (r::·) (KO rs):r::eqs (rs.map λi=>((true,i):Bool×Nat))=r::rs)
theorem EC (rs:List Nat)(i w:Nat):eqs ((rs.map λi=>((true,i):Bool×Nat)).take i++(false,w)::(rs.map λi=>((true,i):Bool×Nat)).drop i)=rs:=by
 have e:∀a b:List (Bool×Nat),eqs (a++(false,w)::b)=eqs (a++b):=λa b=>by
  unfold eqs;rw[List.filterMap_append,List.filterMap_append];rfl
 rw[e,List.take_append_drop,KO]
theorem zbi (xs:List D):WM xs (some 1) none=xs.drop 1:=by
 unfold L3.WM;have e:HT.sIx xs.length 0 (some 1)=min 1 xs.length:=by
  have z:=HT.sIx_nat xs.length 0 1;exact z
 rw[HT.sIx_none];rw[e];by_cases c:1<=xs.length
 ·rw[Nat.min_eq_left c];exact zY (by rw[xH];exact zD _)
 ·have z:xs=[]:=List.eq_nil_of_length_eq_zero (by lia);subst z;rfl
inductive Rows (S:Sto)(b:Nat):List D->List (List Int)->Prop
 | nil:Rows S b [] []
 | cons {a:Nat} {r:List Int} {ds:List D} {M:List (List Int)}:b<=a->S[a]?=some (.lst (r.map D.int))->Rows S b ds M->Rows S b (.ref a::ds) (r::M)
theorem zaY (h:S[n]?=some o)(hb:Xz (Zq o)=some ns)(hq:Q (.int ns.sum) S):irr PL [.ref n] S Q:=by
 rw[WU];unfold PL;simp only[ZS h (Gn hb),hb];exact hq
theorem CV (l:List Int):Xz (l.map D.int)=some l:=by
 induction l with
 | nil=>rfl
 | cons x l ih=>simp only[yU,Xz,ih,Option.map_some]
theorem C3 {t b:Int}(hb:0<b):t.fdiv b*b<=t/\t<(t.fdiv b+1)*b:=by
 rw[Int.fdiv_eq_ediv_of_nonneg _ (by lia)];exact Qk t hb
inductive Ords (S:Sto)(b:Nat):List D->List (List Int×Int)->Prop
 | nil:Ords S b [] []
 | cons {a:Nat} {o:List Int×Int} {ds:List D} {os:List (List Int×Int)}:b<=a->S[a]?=some (.lst (o.1.map D.int))->Ords S b ds os->Ords S b (.tup [.ref a,.int o.2]::ds) (o::os)
theorem zc4 (h:k<n):ixN n (k:Int)=some k:=by
 unfold ixN;rw[if_pos (by lia),if_pos (by lia)];rfl
theorem FW {t b:Int}(hb:0<b):(t.fdiv b).natAbs<=t.natAbs+1:=by
 obtain⟨h1,h2⟩:=C3 (t:=t) hb;generalize t.fdiv b=f at *
 by_cases c:0<=f
 ·have z:=Int.mul_le_mul_of_nonneg_left (show 1<=b by lia) c;lia
 ·have z:=Int.mul_le_mul_of_nonneg_left (show 1<=b by lia) (show 0<=-(f+1) by lia);rw[yN,yN] at z;lia
def Fit (n:Nat)(o:List Int×Int):Prop:=o.1.length=n/\(∀x∈o.1,0<=x/\x<n)/\(o.2=1\/o.2=-1)
instance (n:Nat) (o:List Int×Int):Decidable (Fit n o):=by unfold Fit;infer_instance
def Xw (rows:List (Bool×Nat))(vs:LI):Bool:=rows.all λr=>r.1||decide (0<=(gt vs (r.2:Int)).1)
theorem JD (vs:LI):∀rows:List (Bool×Nat),Y1 (((rows.map rwD)).filterMap (λd=>match d with|.tup [.str w,.int at']=>if w="least" then some (.bl (decide (0<=(gt vs at').1))) else none|_=>none))=some (rows.filterMap λr=>if r.1 then none else some (decide (0<=(gt vs (r.2:Int)).1)))
 | []=>rfl
 | (false,n)::rs=>by
  show (Y1 ((rs.map rwD).filterMap _)).map _=_;rw[JD vs rs];rfl
 | (true,n)::rs=>JD vs rs
theorem IV (vs:LI):∀rows:List (Bool×Nat),((rows.filterMap λr=>if r.1 then none else some (decide (0<=(gt vs (r.2:Int)).1))).all id)=Xw rows vs
 | []=>rfl
 | (false,n)::rs=>by
  show (decide _&&(rs.filterMap _).all id)=_;rw[IV vs rs];rfl
 | (true,n)::rs=>IV vs rs
def UK (p q:Int×Int):Bool:=decide (q.1<p.1)&&decide (p.2<q.2)
def XR (us vs:LI):Bool:=(List.zipWith UK us vs).all id
theorem G4 {us vs:LI}:XR us vs=true↔∀(k:Nat)(p q:Int×Int),us[k]?=some p->vs[k]?=some q->q.1<p.1/\p.2<q.2:=by
 unfold XR;rw[yZ];refine⟨λh k p q hp hq=>?_,λh b hb=>?_⟩
 ·have z:=h (UK p q) (zL (i:=k) (by rw[xK,hp,hq]));simpa [UK] using z
 ·obtain⟨k,hk⟩:=xW.mp hb;rw[xK] at hk;cases e1:us[k]? with
  | none=>rw[e1] at hk;cases hk
  | some p=>
   cases e2:vs[k]? with
   | none=>rw[e1,e2] at hk;cases hk
   | some q=>
    rw[e1,e2] at hk;obtain⟨a,b⟩:=h k p q e1 e2;have z:=Option.some.inj hk;subst z;simp[UK,a,b]
theorem zch (us vs:LI):Y1 (List.zipWith (λx y=>match x,y with|.tup [.int a,.int b],.tup [.int c,.int d]=>.bl (decide (c<a)&&decide (b<d))|_,_=>.non) (us.map frD) (vs.map frD))=some (List.zipWith UK us vs):=by
 induction us generalizing vs with
 | nil=>rfl
 | cons u us ih=>
  cases vs with
  | nil=>rfl
  | cons v vs=>
   show (Y1 (List.zipWith _ (us.map frD) (vs.map frD))).map _=_;rw[ih];rfl
structure Gr (q a c:Nat)(S:Sto)(ns:List Nd)(ws:List Nat)(T:Sto)(ns':List Nd)(ws':List Nat):Prop where
 net:Z7 q ns' ws'
 pn:∃ms,ns'=ns++ms/\ms.length<=c
 pw:∃us,ws'=ws++us
 nd:T[a]?=some (.lst (ns'.map Nd.d))
 len:S.length<=T.length
 kp:∀(x:Nat)(o:Ob),x≠a->S[x]?=some o->T[x]?=some o
theorem Gr.refl {q a:Nat}{S:Sto}{ns:List Nd}{ws:List Nat}(net:Z7 q ns ws)(h:S[a]?=some (.lst (ns.map Nd.d))):Gr q a 0 S ns ws S ns ws:=⟨net,⟨[],by simp,by simp⟩,⟨[],by simp⟩,h,zD _,λ_ _ _ e=>e⟩
theorem Gr.trans (h:Gr q a c S ns ws T ns' ws')(k:Gr q a d T ns' ws' U ns2 ws2):Gr q a (c+d) S ns ws U ns2 ws2:=by
 obtain⟨n1,⟨ms,rfl,l1⟩,⟨us,rfl⟩,a1,e1,k1⟩:=h;obtain⟨n2,⟨ms2,rfl,l2⟩,⟨us2,rfl⟩,a2,e2,k2⟩:=k;exact⟨n2,⟨ms++ms2,by rw[xQ],by rw[zI];lia⟩,⟨us++us2,by rw[xQ]⟩,a2,by lia,λx o hx e=>k2 x o hx (k1 x o hx e)⟩
theorem Gr.mono (h:Gr q a c S ns ws T ns' ws')(l:c<=d):Gr q a d S ns ws T ns' ws':=by
 obtain⟨n1,⟨ms,e,l1⟩,u,a1,e1,k1⟩:=h;exact⟨n1,⟨ms,e,by lia⟩,u,a1,e1,k1⟩
theorem Gr.ln {q a c:Nat}{S T:Sto}{ns ns':List Nd}{ws ws':List Nat}(h:Gr q a c S ns ws T ns' ws'):ns.length<=ns'.length/\ns'.length<=ns.length+c:=by
 obtain⟨n1,⟨ms,rfl,l1⟩,_⟩:=h;rw[zI];lia
theorem Gr.wt {q a c:Nat}{S T:Sto}{ns ns':List Nd}{ws ws':List Nat}(h:Gr q a c S ns ws T ns' ws')(net:Z7 q ns ws){i:Nat}(hi:i<ns.length):ws'.getD i 0=ws.getD i 0:=by
 obtain⟨us,rfl⟩:=h.pw;exact Ic (by rw[net.len];exact hi)
theorem Gr.due {q a c:Nat}{S T:Sto}{ns ns':List Nd}{ws ws':List Nat}(h:Gr q a c S ns ws T ns' ws')(P:LI){i:Nat}(hi:i<ns.length):gt (YG P ns') (i:Int)=gt (YG P ns) (i:Int):=by
 obtain⟨ms,rfl,_⟩:=h.pn;exact MQ ⟨by lia,by lia⟩
theorem Gr.get {q a c:Nat}{S T:Sto}{ns ns':List Nd}{ws ws':List Nat}(h:Gr q a c S ns ws T ns' ws'){i:Nat}{v:Nd}(hi:ns[i]?=some v):ns'[i]?=some v:=by
 obtain⟨ms,rfl,_⟩:=h.pn;rw[zP (zF.mp hi).1];exact hi
theorem Gr.put (h:Gr q a c S ns ws T ns' ws')(ha:n≠a)(hn:S.length<=n):Gr q a c S ns ws (T.set n o) ns' ws':=by
 obtain⟨n1,pn,pw,a1,e1,k1⟩:=h;refine⟨n1,pn,pw,Yb a1 ha,by rw[List.length_set];exact e1,λx u hx e=>Yb (k1 x u hx e) ?_⟩;have:=Z4 e;lia
theorem Gr.push {q a:Nat}{S:Sto}{ns:List Nd}{ws:List Nat}(net:Z7 q ns ws)(h:S[a]?=some (.lst (ns.map Nd.d)))(U:Sto):Gr q a 0 S ns ws (S++U) ns ws:=⟨net,⟨[],by simp,by simp⟩,⟨[],by simp⟩,Zj h,by simp,λ_ _ _ e=>Zj e⟩
structure Zr (P:LI)(ns:List Nd)(ws:List Nat)(w i:Nat):Prop where
 lt:i<ns.length
 wt:ws.getD i 0<=w
 due:(gt (YG P ns) (i:Int)).1=0
theorem Zr.up (z:Zr P ns ws w i)(h:Gr q a c S ns ws T ns' ws')(net:Z7 q ns ws):Zr P ns' ws' w i:=⟨by have:=h.ln;have:=z.lt;lia,by rw[h.wt net z.lt];exact z.wt,by rw[h.due P z.lt];exact z.due⟩
theorem GL {q a c:Nat}{S T:Sto}{ns ns':List Nd}{ws ws':List Nat}(h:Gr q a c S ns ws T ns' ws')(net:Z7 q ns ws){v:Nd}(ok:v.ok ns.length q):v.wt ws'=v.wt ws:=by
 have z:∀i:Int,inR (ns.length:Nat) i->ws'.getD i.toNat 0=ws.getD i.toNat 0:=λi hi=>by
  have h0:=hi.1
  have h1:=hi.2;exact h.wt net (by lia)
 cases v with
 | number _ _=>rfl
 | unknown _=>rfl
 | plus i j=>show ws'.getD i.toNat 0+ws'.getD j.toNat 0=ws.getD i.toNat 0+ws.getD j.toNat 0;rw[z i ok.1,z j ok.2]
 | minus i j=>show ws'.getD i.toNat 0+ws'.getD j.toNat 0=ws.getD i.toNat 0+ws.getD j.toNat 0;rw[z i ok.1,z j ok.2]
 | times i j=>show ws'.getD i.toNat 0+ws'.getD j.toNat 0=ws.getD i.toNat 0+ws.getD j.toNat 0;rw[z i ok.1,z j ok.2]
 | power i n=>show n.toNat*ws'.getD i.toNat 0=n.toNat*ws.getD i.toNat 0;rw[z i ok.1]
theorem Ak {q a c j:Nat}{S T:Sto}{ns ns':List Nd}{ws ws':List Nat}(h:Gr q a c S ns ws T ns' ws'){v:Nd}(ok:v.ok ns.length q)(hj:ns'[j]?=some v)(P:LI):gt (YG P ns') (j:Int)=v.due (YG P ns) P:=by
 rw[Bj (P:=P) h.net hj];refine Ge (k:=ns.length) (q:=q) (λi hi=>?_) v ok;have h0:=hi.1
 have h1:=hi.2
 have z:=h.due P (i:=i.toNat) (by lia);rw[show ((i.toNat:Nat):Int)=i by lia] at z;exact z
def Nd.lit:Nd->Prop
 | .number t _=>t.natAbs<=4
 | _=>True
theorem HI (ha:1<=a)(hb:1<=b):4^a+4^b<=4^(a+b):=by
 have p:∀k:Nat,1<=k->4<=4^k:=λk hk=>xR (show 0<4 by decide) hk
 have x:=p a ha
 have y:=p b hb;rw[Nat.pow_add];have z:=xJ (zD (4^a)) y
 have w:=xJ x (zD (4^b));lia
theorem Rf (h:S[n]?=some (.frz xs))(hq:Q (.int (xs.length:Nat)) S):irr U2 [.ref n] S Q:=by
 rw[WU];unfold U2;simp only[ZS h rfl];exact hq
def frS (cs:List Int):Bool:=decide (0<cs.length)&&decide (cs.getD 0 0%2=1)
theorem R3 {cs:List Int}{k:Int}(h0:0<=k)(h1:k<cs.length):atI (cs.map D.int) k=some (.int (cs.getD k.toNat 0)):=by
 have z:=zbA (ts:=cs) (k:=k.toNat) (by lia);rw[show ((k.toNat:Nat):Int)=k by lia] at z;exact z
theorem EO {a b c d e:TDS}{E:Xx}{dl:Ev}{S:Sto}(W:Ev->Sto->Prop)(ha:∀nx:Ev->Sto->Prop,(∀dl' S',W dl' S'->nx dl' S')->YN a (YN b (YN c d)) { nx:=nx,rt:=E.rt,bk:=E.bk,ct:=E.ct } dl S)(hb:∀dl' S',W dl' S'->e E dl' S'):YN a (YN b (YN c (YN d e))) E dl S:=ha _ hb
theorem Jh (l:List Bool):Y1 (l.map D.bl)=some l:=by
 induction l with
 | nil=>rfl
 | cons b l ih=>
  show (Y1 (l.map D.bl)).map _=_;rw[ih];rfl
theorem Cf {caps:List Nat}{ta:TDA}{te:TDE}{dl:Ev}{S S1:Sto}{Q:DK}{n n':Nat}{xs ys:List D}(W:Nat->List D->Sto->Prop)(hta:∀K:List D->Sto->Prop,K [.ref n,.ref n'] S1->ta dl S K)(h1:S1[n]?=some (.lst xs))(h2:S1[n']?=some (.lst ys))(hl:xs.length<=1000)
  (hw:∀k zs S2,W k zs S2->S2[n]?=some (.lst xs)/\S2[n']?=some (.lst ys)/\S2[S1.length]?=some (.lst zs)/\zs.length=k)(h0:W 0 [] (S1++[.lst []]))
  (ht:∀(k:Nat)(x y:D)(zs:List D)(S2:Sto)(K:DK),xs[k]?=some x->ys[k]?=some y->W k zs S2->(∀z S3,S3[S1.length]?=some (.lst zs)->W (k+1) (zs++[z]) (S3.set S1.length (.lst (zs++[z])))->K z S3)->te (some x::some y::YS caps dl) S2 K)
  (hq:∀zs S2,W (min xs.length ys.length) zs S2->Q (.ref S1.length) S2):Vy caps ta te dl S Q:=by
 unfold Vy;refine hta _ ⟨⟨by rw[ZS h1 rfl];rfl,by rw[ZS h2 rfl];rfl⟩,λk m S2=>(∃zs,W k zs S2)/\m+k=min xs.length ys.length,⟨min xs.length ys.length,⟨_,h0⟩,by lia⟩,?_⟩;rintro k m S2 ⟨⟨zs,w⟩,hm⟩;obtain⟨w1,w2,w3,w4⟩:=hw _ _ _ w;rw[ZS w1 rfl,ZS w2 rfl];dsimp only[Zq];split
 ·rename_i x y hx hy;have hk:k<xs.length:=(zF.mp hx).1
  have hk':k<ys.length:=(zF.mp hy).1;unfold Qj;refine ht k x y zs S2 _ hx hy w λz S3 e3 w5=>?_
  rw[e3];exact⟨by lia,m-1,by lia,⟨_,w5⟩,by lia⟩
 ·rename_i no;have hk:min xs.length ys.length<=k:=by
   by_cases l:k<min xs.length ys.length
   ·exact absurd (zC (l:=ys) (i:=k) (by lia)) (no _ _ (zC (l:=xs) (i:=k) (by lia)))
   ·lia
  refine⟨by lia,?_⟩;have e:k=min xs.length ys.length:=by lia
  exact hq zs S2 (e ▸ w)
def slB (vs:LI)(R:List LI)(g:Int)(q:Nat)(ns:List Nd):List Bool:=List.zipWith (λv r=>YE (Yv vs R g q v) r) ns R
theorem CP (h:∀i:Int,inR k i->gs R i l=gs T i l):∀v:Nd,v.ok k q->v.sl vs R g l=v.sl vs T g l
 | .number _ _,_=>rfl
 | .unknown _,_=>rfl
 | .plus i j,ok=>by simp only[Nd.sl,h i ok.1,h j ok.2]
 | .minus i j,ok=>by simp only[Nd.sl,h i ok.1,h j ok.2]
 | .times i j,ok=>by simp only[Nd.sl,h i ok.1,h j ok.2]
 | .power i n,ok=>by simp only[Nd.sl,h i ok.1]
theorem zaK (h:inR k i)(hk:k<=R.length):gs (R++T) i l=gs R i l:=by
 have:=h.1
 have:=h.2;unfold gs;rw[zK (l:=R++T),zK (l:=R),zP (by lia)]
def Ins (p q:Int×Int):Prop:=p.1<=q.1/\q.2<=p.2
section
variable {s:Shared}{A:Around}{w:World}{prog:Program}
end
section
variable {X:Cx}{bA aY:Expr}{aU:List Expr}{kk:Nat}{tp:Pos}{pos:Pos}{sc:Scope}{own N:List Str}{caps:List Nat}{wi:TI}{gt:TG}{te:TE}
end
section
variable {X:Cx}{Z:Zx}{bA:Expr}{pos:Pos}{sc ar:Scope}{N:List Str}{caps:List Nat}
end
section
variable {X:Cx}{Z:Zx}{pos:Pos}
def MD:WC:=λds S Q=>match ds with
 | [.ref n]=>match lAt S n with
  | some o=>Q (.tup (Zq o)) S
  | none=>False
 | _=>False
theorem zdb:Yq X (.type "tuple") (upC X.K Z MD):=PN zdg λxs H Qv ⟨r,S,ds,Q,bD,ps,q,ret⟩=>by
 unfold MD at q;split at q
 ·rename_i n;obtain⟨v,vs,rfl,p1,p2⟩:=ps.uncons;have z:=p2.unnil;subst z;split at q
  ·rename_i o eo;obtain⟨eo,eL⟩:=YF eo;obtain⟨a,ha,ob⟩:=bD.at eo;cases p1 with
   | ref h1=>
    rw[h1] at ha;cases ha
    obtain⟨ys,sq,pr⟩:=ob.list eL;refine⟨_,ys,rfl,.inl ⟨sq,λl hl=>?_⟩⟩;have x:Ext r r H (upd H l (.tup ys)):=⟨λ_ _ q=>q,λa xs q=>Xd hl _ _ q,λa c q=>Xd hl _ _ q⟩;exact ret _ _ r (.tup (Zq o)) S x (bD.same (Xd hl)) ((pr.ext x).tupR Xs) q
  ·exact q.elim
 ·exact q.elim
def Alk (S:Sto):Nat->D->D->Prop
 | 0,d,e=>eqF d e=some true
 | n+1,d,e=>Alk S n d e\/(∃xs ys,d=.tup xs/\e=.tup ys/\xs.length=ys.length/\∀(k:Nat)(x y:D),xs[k]?=some x->ys[k]?=some y->Alk S n x y)\/
  ∃a b xs ys,d=.ref a/\e=.ref b/\S[a]?=some (.lst xs)/\S[b]?=some (.lst ys)/\xs.length=ys.length/\∀(k:Nat)(x y:D),xs[k]?=some x->ys[k]?=some y->Alk S n x y
theorem HD (n:Nat):(List.range n).all (λ_=>true)=true:=by simp
theorem Ea {n:Nat}{A:Around}{aA:LA}{σ:L3.St}{H:Hp}{s:Shared}{r:List Addr}{S:Sto}(I:Inv X aA σ H s)(bD:Rel X.K Z r S H){a b:Nat}{xs ys:List D}{p p':Addr}(hp:r[a]?=some p)(hp':r[b]?=some p')(s1:S[a]?=some (.lst xs))(s2:S[b]?=some (.lst ys))(l:xs.length=ys.length)(hu:A.units<cLine)
  (f:∀ {d e:D} {v1 v2:V} {u1 u2:Value},Alk S n d e->Rp r H d v1->Rp r H e v2->ZG v1 u1->ZG v2 u2->SeqAt.EqAt A.in1 s u1 u2 true)(al:∀(k:Nat)(x y:D),xs[k]?=some x->ys[k]?=some y->Alk S n x y):SeqAt.RcAt A s (.ref p) (.ref p') true:=by
 obtain⟨z,hz,ob⟩:=bD.at s1;rw[hp] at hz;cases hz
 obtain⟨z,hz,ob'⟩:=bD.at s2;rw[hp'] at hz;cases hz
 obtain⟨vs,sq,pr⟩:=ob.list rfl;obtain⟨ws,sq',pr'⟩:=ob'.list rfl;obtain⟨is,ri,pl,_⟩:=I.list sq;obtain⟨js,rj,pl',_⟩:=I.list sq';have g1:=JF (P:=λS=>Alk S n) (S:=S) f pr pr' ri rj al
 have hs:is.toArray.size=js.toArray.size:=by
  have a1:=ri.length
  have a2:=rj.length
  have a3:=pr.1
  have a4:=pr'.1;simp only[zN];show is.length=js.length
  have a3:xs.length=vs.length:=a3
  have a4:ys.length=ws.length:=a4;lia
 have q:=SeqAt.RcAt.lists (A:=A) (e:=λ_=>true) pl.isList pl'.isList hs hu g1;rw[HD] at q;exact q
theorem O8:∀(n:Nat) {A:Around} {aA:LA} {σ:L3.St} {H:Hp} {s:Shared} {r:List Addr} {S:Sto} {d e:D} {v1 v2:V} {u1 u2:Value},Inv X aA σ H s->Rel X.K Z r S H->Alk S n d e->Rp r H d v1->Rp r H e v2->ZG v1 u1->ZG v2 u2->A.units+n<cLine->SeqAt.EqAt A s u1 u2 true
 | 0,A,aA,σ,H,s,r,S,d,e,v1,v2,u1,u2,I,bD,h,pd,pe,ru1,ru2,hu=>Oj 0 X aA σ H s r A d e v1 v2 u1 u2 true I hu pd pe ru1 ru2 h
 | n+1,A,aA,σ,H,s,r,S,d,e,v1,v2,u1,u2,I,bD,h,pd,pe,ru1,ru2,hu=>by
  rcases h with h|⟨xs,ys,rfl,rfl,l,al⟩|⟨a,b,xs,ys,rfl,rfl,s1,s2,l,al⟩
  ·exact O8 n I bD h pd pe ru1 ru2 (by lia)
  ·cases pd with
   | @tup _ vs a h1 l1 f1=>
    cases pe with
    | @tup _ ws b h2 l2 f2=>
     cases ru1;cases ru2;by_cases hne:a=b
     ·subst hne;exact SeqAt.EqAt.same _
     ·obtain⟨is,ri,pl,_⟩:=I.tuple (SqT.of h1);obtain⟨js,rj,pl',_⟩:=I.tuple (SqT.of h2);have g1:=JF (P:=λS=>Alk S n) (S:=S) (A:=A.in1) (λh p q r1 r2=>O8 n I bD h p q r1 r2 (by show A.units+1+n<_;lia)) ⟨l1,f1⟩ ⟨l2,f2⟩ ri rj al
      have q:=SeqAt.RcAt.tuples (A:=A) (e:=λ_=>true) pl pl' (by lia) g1
      have hs:(is.toArray.size==js.toArray.size)=true:=by
       have a1:=ri.length
       have a2:=rj.length;simp only[zN,beq_iff_eq];show is.length=js.length;lia
      rw[HD,hs] at q;exact SeqAt.EqAt.of_refs hne q
  ·cases pd with
   | @ref _ p hp=>
    cases pe with
    | @ref _ p' hp'=>
     cases ru1;cases ru2;by_cases hne:p=p'
     ·subst hne;exact SeqAt.EqAt.same _
     ·exact SeqAt.EqAt.of_refs hne (Ea I bD hp hp' s1 s2 l (by lia) (λh p q r1 r2=>O8 n I bD h p q r1 r2 (by show A.units+1+n<_;lia)) al)
end
section
variable {X:Cx}{Z:Zx}{pos:Pos}
end
section
variable {X:Cx}{Z:Zx}{pos:Pos}
theorem EK:Yq X (.type "range") (λxs H Q=>∃i j:Int,xs=[.int i,.int j]/\∀p,H p=none->Q (.ref p) (upd H p (.rng i j))):=by
 intro aA s σ H xs us Q I rv h;obtain⟨i,j,rfl,q⟩:=h;obtain⟨u,u2,rfl,ru,ru2⟩:=Iw rv;obtain⟨t,rfl⟩:=ru;obtain⟨t2,rfl⟩:=ru2;refine call_range_2 ?_;exact⟨.ref s.heap.objs.size,_,I.laid (o:=.rng i j) (λb o e=>Heap.get?_push_of_some _ e) (zD _) ⟨_,_,_,Heap.get?_push_size _ rfl⟩,rfl,q _ (I.hok.fresh (zD _))⟩
theorem ER {acc:Array Value}{n:Nat}{lo:Int}(h:ItemsOf (λi v=>∃t,v=Value.int (lo+(i:Int)*1) t) acc n):ZF ((List.range n).map λ(k:Nat)=>V.int (lo+(k:Int))) acc.toList:=by
 have main:∀(us:List Value)(a:Nat),(∀(j:Nat)(v:Value),us[j]?=some v->∃t,v=Value.int (lo+((a+j:Nat):Int)) t)->ZF ((List.range' a us.length).map λ(k:Nat)=>V.int (lo+(k:Int))) us:=λus=>by
  induction us with
  | nil=>exact λ_ _=>.nil
  | cons u us ih=>
   intro a hu;rw[zX,List.range'_succ,yU];refine .cons ?_ (ih (a+1) λj v hv=>?_)
   ·obtain⟨t,e⟩:=hu 0 u rfl;exact⟨t,by rw[e];rfl⟩
   ·obtain⟨t,e⟩:=hu (j+1) v hv;exact⟨t,by rw[e];congr 2;lia⟩
 have z:=main acc.toList 0 λj v hv=>by
  obtain⟨t,e⟩:=h.2 j v (by simpa using hv);exact⟨t,by rw[e,show ((0+j:Nat):Int)=(j:Int)*1 by lia]⟩
 rw[Array.length_toList,h.1,<- List.range_eq_range'] at z;exact z
theorem zae (hc:X.calm=true):Yq X (.type "list") (λxs H Q=>∃p i j,xs=[.ref p]/\H p=some (.rng i j)/\(0<=i/\i<=j/\j<=1000)/\∀a,H a=none->Q (.ref a) (upd H a (.lst ((List.range (j-i).toNat).map λ(k:Nat)=>V.int (i+(k:Int)))))):=by
 intro aA s σ H xs us Q I rv h;obtain⟨p,i,j,rfl,hp,hj,q⟩:=h;obtain⟨u,rfl,ru⟩:=X3 rv;cases ru;obtain⟨t,u,v,hr⟩:=(I.hok p _ hp:∃t u v,s.heap.get? p=some { cls:=.type "range",data:=.fields #[.int i t,.int j u,.int 1 v] });refine call_list_range (n:=(j-i).toNat) (I.ok.hd hc) hr (small_one (by lia) (by lia) (by lia) (by lia)) (by rw[rangeSize_one];split<;>lia) (by lia) λh' tk acc c keep new items=>?_
 refine⟨.ref s.heap.objs.size,_,I.laid (t':=tk) (o:=.lst ((List.range (j-i).toNat).map λ(k:Nat)=>V.int (i+(k:Int)))) keep (zD _) ⟨?_,acc.toList,c,ER items,by rw[Array.toArray_toList];exact new⟩,rfl,q _ (I.hok.fresh (zD _))⟩;rw[zA,xU];exact Wv (by lia)
@[irreducible] def O1 (ta:TDA):TDE:=λdl S Q=>ta dl S λds S1=>match ds with
 | [.int i,.int j]=>(0<=i/\i<=j/\j<=1000)/\Q (.ref S1.length) (S1++[.lst ((List.range (j-i).toNat).map λ(k:Nat)=>D.int (i+(k:Int)))])
 | _=>False
theorem zcq {ta:TDA}{dl:Ev}{S S1:Sto}{Q:DK}{i j:Int}(hta:∀K:List D->Sto->Prop,K [.int i,.int j] S1->ta dl S K)(hj:0<=i/\i<=j/\j<=1000)(hq:Q (.ref S1.length) (S1++[.lst ((List.range (j-i).toNat).map λ(k:Nat)=>D.int (i+(k:Int)))])):O1 ta dl S Q:=by
 unfold O1;exact hta _ ⟨hj,hq⟩
theorem Dc (hc:X.calm=true)(hgl:Gl X "list")(hml:X.mg "list"=none)(hvl:bootBuiltins "list"=some (.type "list"))(hg:Gl X "range")(hm:X.mg "range"=none)(he:PDA X Z [e,f] ta)(hs:starEach [.Call (.Name "range" p) [e,f] [] aT] X.env=(false,eval (.Call (.Name "range" p) [e,f] [] aT) X.env)::starEach [] X.env:=by rfl)(hpl:(backTo pos (starEach [] X.env)).any (·.1)=false:=by rfl)(hs2:starEach [e,f] X.env=(false,eval e X.env)::starEach [f] X.env:=by rfl)(hpl2:(backTo aT (starEach [f] X.env)).any (·.1)=false:=by rfl):
  PD X Z (.Call (.Name "list" p2) [.Call (.Name "range" p) [e,f] [] aT] [] pos) (O1 ta):=
 Yp (Jq (zae hc) hgl hml hvl (Jp (Jq EK hg hm boot_range he (by decide) (by decide) hs2 hpl2) ID hs) (by decide) (by decide) hs hpl) λσ H Qv ⟨r,dl,S,Q,rs,bD,h,ret⟩=>by
  unfold O1 at h;refine⟨r,dl,S,_,rs,bD,h,λvs H1 r1 ds S1 e1 aF p1 q1=>?_⟩;split at q1
  ·rename_i i j;obtain⟨v,vs',rfl,p2,p3⟩:=p1.uncons;obtain⟨v2,vs2,rfl,p4,p5⟩:=p3.uncons;have z:=p5.unnil;subst z;cases p2;cases p4;obtain⟨hj,q1⟩:=q1;refine⟨i,j,rfl,λb hb=>?_⟩;refine⟨b,i,j,rfl,Xs,hj,λc hc'=>?_⟩;have x1:Ext r1 r1 H1 (upd H1 b (.rng i j)):=Py hb
   have aG:=aF.same (Xd (o:=.rng i j) hb);obtain⟨aH,x⟩:=aG.push (ds:=(List.range (j-i).toNat).map λ(k:Nat)=>D.int (i+(k:Int))) (xs:=(List.range (j-i).toNat).map λ(k:Nat)=>V.int (i+(k:Int))) hc' ⟨by simp,λi' d v hd hv=>by
    rw[zG] at hd hv;obtain⟨k,hk,rfl⟩:=zQ.mp hd;rw[hk] at hv;cases hv;exact .int _⟩
   exact ret _ _ _ (.ref S1.length) _ (e1.trans (x1.trans x)) aH (W7 aF.len) q1
  ·exact q1.elim
end
inductive Fa where
 | cut (k p:Int) (a b:Nat)
 | out (r:Int) (vs:LI)
 | full (vs:LI)
 | waits
theorem Gf:∀ps:LI,eqL (eqN 1) (ps.map frD) (ps.map frD)=some true
 | []=>rfl
 | p::ps=>by
  have i:=Gf ps
  show (match eqN 1 (frD p) (frD p),eqL (eqN 1) (ps.map frD) (ps.map frD) with|some a,some b=>some (a&&b)|_,_=>none)=_;rw[i,show eqN 1 (frD p) (frD p)=some true by simp[eqN,frD,eqL,eqF,L3.eqT]];rfl
theorem BB (h1:S[n]?=some (.lst xs))(h2:S[m]?=some (.lst ys))(e:eqL (eqN 1) xs ys=some b)(hq:Q (.bl (!b)) S):YH (VX 1) (.ref n) (.ref m) S Q:=by
 rw[XA];unfold VX;simp only[Vt,ZS h1 rfl,ZS h2 rfl,Zq,e];exact hq
def fstD:D->D
 | .tup (x::_)=>x
 | _=>.non
theorem Ye {a b:TDS}{E:Xx}{dl:Ev}{S:Sto}(W:Ev->Sto->Prop)(ha:∀nx:Ev->Sto->Prop,(∀dl' S',W dl' S'->nx dl' S')->a { nx:=nx,rt:=E.rt,bk:=E.bk,ct:=E.ct } dl S)(hb:∀dl' S',W dl' S'->b E dl' S'):YN a b E dl S:=ha _ hb
theorem Ym (o:Ob):Pre S (S++[o]):=λ_ _ e=>Zj e
theorem YU (h:Pre S T):Pre S (T++[o]):=λk u e=>Zj (h k u e)
theorem QP:(S++[o]).set S.length p=S++[p]:=by
 rw[List.set_append_right _ _ (zD _),yW];rfl
theorem GF (hq:Q (.bl true) S):wEq eq2 (.int i) (.int i) S Q:=by
 unfold wEq;have ee:eq2 (.int i) (.int i)=some true:=by simp[eq2,eqF,L3.eqT]
 rw[ee];exact hq
theorem AZ (h:S[n]?=some (.lst xs))(hq:Q (.tup xs) S):irr MD [.ref n] S Q:=by
 rw[WU];unfold MD;simp only[ZS h rfl,Zq];exact hq
section
variable {X:Cx}{Z:Zx}
end
theorem K0 {S:Sto}{n:Nat}{xs:List D}(h:∀x∈xs,eqF x x=some true):Alk S (n+1) (.tup xs) (.tup xs):=.inr (.inl ⟨xs,xs,rfl,rfl,rfl,λk x y hx hy=>by
 rw[hx] at hy;cases hy;have e:=h x (zL hx)
 have z:∀n:Nat,Alk S n x x:=λn=>by
  induction n with
  | zero=>exact e
  | succ n ih=>exact .inl ih
 exact z n⟩)
theorem alk0 {S:Sto}{x:D}(e:eqF x x=some true):∀n:Nat,Alk S n x x
 | 0=>e
 | n+1=>.inl (alk0 e n)
theorem UZ {S:Sto}{n:Nat}(p:Int×Int):Alk S (n+1) (frD p) (frD p):=K0 λx hx=>by
 simp only[zS,yO,or_false] at hx;rcases hx with rfl|rfl<;>simp[eqF]
theorem zbF (v:Nd):Alk S (n+1) v.d v.d:=by
 cases v<;>exact K0 λx hx=>by
  simp only[zS,yO,or_false] at hx
  first
   | (rcases hx with rfl|rfl|rfl<;>simp[eqF])
   | (rcases hx with rfl|rfl<;>simp[eqF])
theorem zcu (p:Bool×Nat):Alk S (n+1) (rwD p) (rwD p):=K0 λx hx=>by
 simp only[zS,yO,or_false] at hx;rcases hx with rfl|rfl<;>simp[eqF]
theorem Vd {S:Sto}{n a b:Nat}{α:Type}{f:α->D}{xs:List α}(hf:∀x,Alk S n (f x) (f x))(h1:S[a]?=some (.lst (xs.map f)))(h2:S[b]?=some (.lst (xs.map f))):Alk S (n+1) (.ref a) (.ref b):=.inr (.inr ⟨a,b,_,_,rfl,rfl,h1,h2,rfl,λk x y hx hy=>by
 rw[hx] at hy;cases hy;obtain⟨q,_,rfl⟩:=zJ.mp (zL hx);exact hf q⟩)
theorem BR {S:Sto}{lo:Nat}{ds:List D}{R:List LI}(h:Z2 S lo ds R){is:List Nat}(hi:∀i∈is,i<R.length):Z2 S lo (is.map λi=>ds.getD i .non) (is.map λi=>R.getD i []):=⟨by rw[zA,zA],λk d r hd hr=>by
 rw[zG] at hd hr;cases e:is[k]? with
 | none=>rw[e] at hd;cases hd
 | some i=>
  rw[e] at hd hr;cases hd;cases hr;have l:=hi i (zL e)
  have l2:i<ds.length:=by rw[h.1];exact l
  refine h.2 i _ _ ?_ ?_
  ·show ds[i]?=some (ds.getD i .non);rw[zK,zC l2];rfl
  ·show R[i]?=some (R.getD i []);rw[zK,zC l];rfl⟩
theorem zcT {vs:LI}{is:List Nat}(hi:∀i∈is,i<vs.length):(is.map λi=>(vs.map frD).getD i .non)=(is.map λ(i:Nat)=>gt vs (i:Int)).map frD:=by
 rw[zU];refine List.map_congr_left λi h=>?_
 have l:=hi i h
 show (vs.map frD).getD i .non=frD (gt vs (i:Int));rw[Y0 (zC l),zK,zG,zC l];rfl
def YC (g:Int)(bs aC:LI)(R:List LI)(is:List Nat)(M:List (List Int)):LI:=M.mapIdx λk es=>Wu g bs (is.map λ(i:Nat)=>gt aC (i:Int)) (is.map λi=>R.getD i []) k es
structure Wi (S:Sto)(d:D)(M:List (List Int))(aE vs aC:LI)(R:List LI):Prop where
 ex:∃(a b c e f:Nat)(ms ds:List D),d=.tup [.str "one",.ref a,.ref b,.ref c,.ref e,.ref f]/\S[a]?=some (.lst ms)/\YO S ms M/\S[b]?=some (.lst (aE.map frD))/\S[c]?=some (.lst (vs.map frD))/\S[e]?=some (.lst (aC.map frD))/\S[f]?=some (.lst ds)/\Z2 S 0 ds R
theorem Wi.pre (h:Wi S d M aE vs aC R)(p:Pre S T):Wi T d M aE vs aC R:=by
 obtain⟨a,b,c,e,f,ms,ds,h0,h1,h2,h3,h4,h5,h6,h7⟩:=h.ex;exact⟨a,b,c,e,f,ms,ds,h0,p _ _ h1,h2.pre p,p _ _ h3,p _ _ h4,p _ _ h5,p _ _ h6,h7.pre p⟩
def Jz (S:Sto)(nd rw bx:Nat)(g:Int)(d:D)(ans:Bool):Prop:=∃(ns:List Nd)(ws:List Nat)(rows:List (Bool×Nat))(bs aE vs aC:LI)(M:List (List Int))(R:List LI),S[nd]?=some (.lst (ns.map Nd.d))/\S[rw]?=some (.lst (rows.map rwD))/\S[bx]?=some (.lst (bs.map frD))/\Wi S d M aE vs aC R/\Z7 bs.length ns ws/\ns.length<=900/\rows.length<=900/\(vs.length=ns.length/\aC.length=ns.length/\R.length=ns.length)/\Spn 1000 vs/\Spn 1000 aC/\YE ((ns.take vs.length).map λv=>v.fw vs bs g) vs=true/\YE ((ns.take aC.length).map λv=>v.fw aC (bs.map ZP) g) aC=true/\(∀r∈rows,r.2<ns.length)/\SlW bs.length ws R/\(slB vs R g bs.length ns).all id=true/\(eqs rows).length=bs.length/\M.length=bs.length/\(∀r∈M,r.length=bs.length/\∀x∈r,Sz 4000 x)/\aE.length=bs.length/\(1<=bs.length/\bs.length<=4)/\Bd 60 bs/\(1<=g/\g<=1000000)/\ans=(Xw rows vs&&(YE (YC g bs aC R (eqs rows) M) aE&&XR aE bs))
theorem Jz.pre (h:Jz S nd rw bx g d ans)(p:Pre S T):Jz T nd rw bx g d ans:=by
 obtain⟨ns,ws,rows,bs,aE,vs,aC,M,R,h1,h2,h3,h4,h5⟩:=h;exact⟨ns,ws,rows,bs,aE,vs,aC,M,R,p _ _ h1,p _ _ h2,p _ _ h3,h4.pre p,h5⟩
def VT (ns:List Nd)(bs:LI)(g:Int)(us:LI):Prop:=∀(k:Nat)(v:Nd)(p:Int×Int),ns[k]?=some v->us[k]?=some p->p.1<=(v.fw us bs g).1/\(v.fw us bs g).2<=p.2
theorem AL (net:Z7 q ns ws)(h:VT ns bs g us)(hv:ns[us.length]?=some v)(hp:p.1<=(v.fw us bs g).1/\(v.fw us bs g).2<=p.2):VT ns bs g (us++[p]):=λk w r hw hr=>by
 have co:∀(j:Nat)(u:Nd),j<=us.length->ns[j]?=some u->u.fw (us++[p]) bs g=u.fw us bs g:=λj u hj hu=>Io (k:=j) (q:=(q:Int)) (λi hi=>zbN ⟨hi.1,by have:=hi.2;lia⟩) u (net.ok j u hu).1
 have l:=(zF.mp hr).1;rw[zI,List.length_singleton] at l;rw[co k w (by lia) hw];by_cases c:k<us.length
 ·rw[zP c] at hr;exact h k w r hw hr
 ·have e:k=us.length:=by lia
  subst e;rw[yD (zD _),yW] at hr;cases hr;rw[hv] at hw;cases hw;exact hp
theorem F0 {ns:List Nd}{bs us:LI}{g:Int}(h:VT ns bs g us):YE ((ns.take us.length).map λv=>v.fw us bs g) us=true:=by
 rw[NF];intro k p r hp hr;rw[zG] at hp;obtain⟨v,hv,rfl⟩:=zQ.mp hp;have l:=(zF.mp hr).1;rw[List.getElem?_take_of_lt l] at hv;exact h k v r hv hr
theorem Q9 (ha:Sz n a)(hn:21<=n)(h:x.natAbs<=10^6):Sz (n+1) (a-x)/\Sz (n+1) (a+x):=by
 unfold Sz at *
 have p:(2:Nat)^21<=2^n:=xR (by decide) hn
 have e:(2:Nat)^(n+1)=2*2^n:=by rw[Nat.pow_succ,Nat.mul_comm]
 lia
def mxI (a b:Int):Int:=if a<b then b else a
def mnI (a b:Int):Int:=if b<a then b else a
theorem zci {to ti te:TDE}{dl:Ev}{S:Sto}{E:Xx}{n:Nat}{k:Int}(W:D->Sto->Prop)(hte:∀K:DK,(∀v S1,W v S1->K v S1)->te dl S K)(hto:∀(S1:Sto)(K:DK),K (.ref n) S1->to dl S1 K)(hti:∀(S1:Sto)(K:DK),K (.int k) S1->ti dl S1 K)(h:∀v S1,W v S1->∃(xs:List D)(j:Nat),S1[n]?=some (.lst xs)/\ixN xs.length k=some j/\E.nx dl (S1.set n (.lst (xs.set j v)))):UL to ti te E dl S:=by
 unfold UL;refine hte _ λv S1 hw=>hto _ _ (hti _ _ ?_)
 obtain⟨xs,j,h1,h2,h3⟩:=h v S1 hw;simp only[h1,h2];exact h3
def Zb (P P2:LI)(ns:List Nd)(ws:List Nat)(w i:Nat):Prop:=Zr P ns ws w i/\Zr P2 ns ws w i
theorem Zb.up (z:Zb P P2 ns ws w i)(h:Gr q a c S ns ws T ns' ws')(net:Z7 q ns ws):Zb P P2 ns' ws' w i:=⟨z.1.up h net,z.2.up h net⟩
theorem zaT (ho:S[n]?=some o)(hd:atI (Zq o) i=some d)(hq:Q d S)(hL:Y9 o=some o:=by rfl):wIx (.ref n) (.int i) S Q:=by
 unfold wIx;simp only[ZS ho hL,hd];exact hq
def YB (S:Sto)(lo:Nat)(ds:List D)(M:List (List Int)):Prop:=ds.length=M.length/\∀(k:Nat)(d:D)(r:List Int),ds[k]?=some d->M[k]?=some r->∃a,d=.ref a/\lo<=a/\S[a]?=some (.lst (r.map D.int))
theorem YB.nil {S:Sto}{lo:Nat}:YB S lo [] []:=⟨rfl,λk d r h=>by simp at h⟩
theorem YB.keep {S T:Sto}{lo:Nat}{ds:List D}{R:List (List Int)}(h:YB S lo ds R)(p:∀(x:Nat)(o:Ob),lo<=x->S[x]?=some o->T[x]?=some o):YB T lo ds R:=⟨h.1,λk d r hd hr=>by
 obtain⟨a,e,l,s⟩:=h.2 k d r hd hr;exact⟨a,e,l,p _ _ l s⟩⟩
theorem YB.toI {S:Sto}{lo:Nat}{ds:List D}{R:List (List Int)}(h:YB S lo ds R):YO S ds R:=⟨h.1,λk d r hd hr=>by
 obtain⟨a,e,l,s⟩:=h.2 k d r hd hr;exact⟨a,e,s⟩⟩
theorem YB.snoc {S:Sto}{lo:Nat}{ds:List D}{R:List (List Int)}{a:Nat}{r:List Int}(h:YB S lo ds R)(hl:lo<=a)(hs:S[a]?=some (.lst (r.map D.int))):YB S lo (ds++[.ref a]) (R++[r]):=⟨by rw[zI,zI,h.1];rfl,λk d r' hd hr=>by
 by_cases hk:k<ds.length
 ·rw[zP hk] at hd;rw[zP (by rw[<- h.1];exact hk)] at hr;exact h.2 k d r' hd hr
 ·have l:=(zF.mp hd).1;simp only[zI,zX,xA] at l;have ek:k=ds.length:=by lia
  subst ek;rw[yD (zD _),yW] at hd;rw[h.1,yD (zD _),yW] at hr;cases hd;cases hr;exact⟨a,rfl,hl,hs⟩⟩
theorem YO.at {S:Sto}{ds:List D}{M:List (List Int)}(h:YO S ds M){k:Nat}(hk:k<M.length):∃a,atI ds (k:Int)=some (.ref a)/\S[a]?=some (.lst ((M.getD k []).map D.int)):=by
 have hk':k<ds.length:=by rw[h.1];exact hk
 obtain⟨a,e,s⟩:=h.2 k _ _ (zC hk') (zC hk);refine⟨a,XU (by rw[zC hk',e]),?_⟩;rw[s,zK,zC hk];rfl
def midD:D->D
 | .tup [.int a,.int b]=>.int ((a+b)/2)
 | d=>d
theorem Bh (r:LI):(r.map frD).map midD=(r.map λp=>(p.1+p.2)/2).map D.int:=by
 rw[zU,zU];rfl
def VH:D->D
 | .tup [.int a,.int b]=>.tup [.int ((a+b)/2),.int ((a+b)/2)]
 | d=>d
theorem L7 (r:LI):(r.map frD).map VH=(r.map ZP).map frD:=by
 rw[zU,zU];rfl
theorem DS (hb:b≠0)(h:Sz n t):Sz (n+1) (t.fdiv b):=by
 have z:(t.fdiv b).natAbs<=t.natAbs+1:=by
  rcases Int.lt_or_gt_of_ne hb with c|c
  ·have y:=FW (t:=-t) (b:=-b) (by lia);rw[Int.neg_fdiv_neg] at y;lia
  ·exact FW c
 unfold Sz at *
 have e:(2:Nat)^(n+1)=2^n+2^n:=by rw[Nat.pow_succ];lia
 have p:0<(2:Nat)^n:=yF (by decide);lia
theorem F9 (ha:Sz n a)(hb:Sz n b):Sz (n+1) ((a+b)/2):=by
 have z:=(ha.add hb).div (show (1:Int)<=2 by decide);rw[Nat.max_self] at z;exact z
theorem Fc (m a b:Int×Int):YA (YA m a) b=YA m (Xa a b):=by
 unfold YA Xa;ext<;>dsimp only<;>lia
theorem zaw (m a b:Int×Int):Xa (Xa m a) b=Xa m (Xa a b):=by
 unfold Xa;ext<;>dsimp only<;>lia
theorem J6 (g:Int)(us vs:LI):sumP g (us.take 0) (vs.take 0)=(0,0):=rfl
theorem GG (m:Int×Int):YA m (0,0)=m:=by
 unfold YA;ext<;>dsimp only<;>lia
theorem CO (m:Int×Int):Xa m (0,0)=m:=by
 unfold Xa;ext<;>dsimp only<;>lia
theorem Fq (h:1<=n:=by decide):1<2^n:=zZ (show 1<2^1 by decide) (xR (by decide) h)
inductive Pt
 | word (w:Str)
 | flat (vs:LI)
 | deep (L:List (List D))
def PtAt (S:Sto)(lo:Nat)(d:D):Pt->Prop
 | .word w=>d=.str w
 | .flat vs=>∃m,d=.ref m/\lo<=m/\S[m]?=some (.lst (vs.map frD))
 | .deep L=>∃(m:Nat)(ds:List D),d=.ref m/\lo<=m/\S[m]?=some (.lst ds)/\ds.length=L.length/\∀(k:Nat)(d:D)(xs:List D),ds[k]?=some d->L[k]?=some xs->∃a,d=.ref a/\lo<=a/\S[a]?=some (.lst xs)
theorem PtAt.keep {S T:Sto}{lo:Nat}{d:D}:∀ {p:Pt},PtAt S lo d p->(∀(x:Nat)(o:Ob),lo<=x->S[x]?=some o->T[x]?=some o)->PtAt T lo d p
 | .word _,h,_=>h
 | .flat _,⟨m,a,b,c⟩,k=>⟨m,a,b,k _ _ b c⟩
 | .deep _,⟨m,ds,a,b,c,l,f⟩,k=>⟨m,ds,a,b,k _ _ b c,l,λi d xs hd hx=>by
  obtain⟨x,e,g,s⟩:=f i d xs hd hx;exact⟨x,e,g,k _ _ g s⟩⟩
theorem zcx (h1:Wi S d M aE vs aC R)(h2:Wi S e M aE vs aC R):Alk S 4 d e:=by
 obtain⟨a,b,c,i,f,ms,ds,rfl,A1,A2,A3,A4,A5,A6,A7⟩:=h1.ex;obtain⟨a',b',c',i',f',ms',ds',rfl,B1,B2,B3,B4,B5,B6,B7⟩:=h2.ex;refine .inr (.inl ⟨_,_,rfl,rfl,rfl,λk x y hx hy=>?_⟩)
 match k,hx,hy with
 | 0,hx,hy=>cases hx;cases hy;exact alk0 (by simp[eqF]) _
 | 1,hx,hy=>
  cases hx;cases hy
  refine .inr (.inr ⟨_,_,_,_,rfl,rfl,A1,B1,by rw[A2.1,B2.1],λk x y hx hy=>?_⟩);have hk:=(zF.mp hx).1;rw[A2.1] at hk;obtain⟨p,rfl,s⟩:=A2.2 k x _ hx (zC hk);obtain⟨p',rfl,s'⟩:=B2.2 k y _ hy (zC hk);exact Vd (λz=>alk0 (by simp[eqF]) _) s s'
 | 2,hx,hy=>cases hx;cases hy;exact .inl (Vd (λp=>UZ p) A3 B3)
 | 3,hx,hy=>cases hx;cases hy;exact .inl (Vd (λp=>UZ p) A4 B4)
 | 4,hx,hy=>cases hx;cases hy;exact .inl (Vd (λp=>UZ p) A5 B5)
 | 5,hx,hy=>
  cases hx;cases hy
  refine .inr (.inr ⟨_,_,_,_,rfl,rfl,A6,B6,by rw[A7.1,B7.1],λk x y hx hy=>?_⟩);have hk:=(zF.mp hx).1;rw[A7.1] at hk;obtain⟨p,rfl,_,s⟩:=A7.2 k x _ hx (zC hk);obtain⟨p',rfl,_,s'⟩:=B7.2 k y _ hy (zC hk);exact Vd (λp=>UZ p) s s'
 | k+6,hx,hy=>cases hx
def HvOk (ns:List Nd)(ws:List Nat):Prop:=∀(i:Nat)(v:Nd),ns[i]?=some v->ws.getD i 0=v.hv
theorem HvOk.gr (h:HvOk ns ws)(g:Gr q a c S ns ws T ns' ws')(net:Z7 q ns ws)(ok:v.ok ns.length q)(nw:∀(i:Nat)(u:Nd),ns.length<=i->ns'[i]?=some u->u=v)(w:v.wt ws=v.hv):HvOk ns' ws':=λi u hu=>by
 by_cases c:i<ns.length
 ·have e:=zC c
  have e2:=g.get e;rw[hu] at e2;cases e2;rw[g.wt net c];exact h i _ e
 ·have e:=nw i u (by lia) hu;subst e;rw[(g.net.ok i u hu).2.1,GL g net ok];exact w
theorem Zr.app (z:Zr P ns ws w i)(net:Z7 q ns ws):Zr P (ns++ms) (ws++us) w i:=⟨by rw[zI];have:=z.lt;lia,by rw[Ic (by rw[net.len];exact z.lt)];exact z.wt,by rw[MQ ⟨by lia,by have:=z.lt;lia⟩];exact z.due⟩
theorem Jj (ins:∀(i:Nat)(v:Nd)(r:LI)(l:Nat)(p:Int×Int),ns[i]?=some v->R[i]?=some r->r[l]?=some p->Ins p (v.sl vs R g l)):(slB vs R g q ns).all id=true:=by
 rw[yZ];intro b hb;obtain⟨k,hk⟩:=xW.mp hb;unfold slB at hk;rw[xK] at hk;cases ev:ns[k]? with
 | none=>rw[ev] at hk;cases hk
 | some v=>
  cases er:R[k]? with
  | none=>rw[ev,er] at hk;cases hk
  | some r=>
   rw[ev,er] at hk;cases hk;show YE (Yv vs R g q v) r=true;rw[NF];intro l p p' hp hp';unfold Yv at hp;rw[zG] at hp;obtain⟨j,hj,rfl⟩:=zQ.mp hp;obtain⟨hj1,hj2⟩:=zF.mp hj;rw[List.getElem_range] at hj2;subst hj2;exact ins k v r l p' ev er hp'
theorem HG (is:List Nat):(is.map λi=>rwD (true,i))=(is.map λi=>((true,i):Bool×Nat)).map rwD:=by rw[zU];rfl
def vI (B:Nat)(g:Int)(p:Int×Int):Prop:=p.1<=p.2/\-((B:Int)*g)<=p.1/\p.2<=(B:Int)*g
theorem vI.mono {B C:Nat}{g:Int}{p:Int×Int}(h:vI B g p)(hg:1<=g)(l:B<=C):vI C g p:=by
 have z:=Int.mul_le_mul_of_nonneg_right (show (B:Int)<=C by lia) (show 0<=g by lia);exact⟨h.1,by have:=h.2.1;lia,by have:=h.2.2;lia⟩
theorem vI.plus {B C:Nat}{g:Int}{p r:Int×Int}(h:vI B g p)(k:vI C g r):vI (B+C) g (p.1+r.1,p.2+r.2):=by
 obtain⟨a,b,c⟩:=h;obtain⟨d,e,f⟩:=k;have z:((B+C:Nat):Int)*g=(B:Int)*g+(C:Int)*g:=by rw[Int.natCast_add,Int.add_mul]
 unfold vI;rw[z];dsimp only;lia
theorem vI.minus {B C:Nat}{g:Int}{p r:Int×Int}(h:vI B g p)(k:vI C g r):vI (B+C) g (p.1-r.2,p.2-r.1):=by
 obtain⟨a,b,c⟩:=h;obtain⟨d,e,f⟩:=k;have z:((B+C:Nat):Int)*g=(B:Int)*g+(C:Int)*g:=by rw[Int.natCast_add,Int.add_mul]
 unfold vI;rw[z];dsimp only;lia
theorem SW {x A d:Int}(hd:1<=d)(h1:-(A*d)<=x)(h2:x<=A*d):-A<=x/d/\-(-x/d)<=A:=by
 constructor
 ·exact Int.le_ediv_of_mul_le (by lia) (by rw[yN];exact h1)
 ·have z:-A<=-x/d:=Int.le_ediv_of_mul_le (by lia) (by rw[yN];lia);lia
theorem UA {x y A B:Int}(hx:-A<=x/\x<=A)(hy:-B<=y/\y<=B):-(A*B)<=x*y/\x*y<=A*B:=by
 have e:(x*y).natAbs<=A.natAbs*B.natAbs:=by rw[Int.natAbs_mul];exact xJ (by lia) (by lia)
 have f:((A.natAbs*B.natAbs:Nat):Int)=A*B:=by
  rw[Int.natCast_mul,Int.natAbs_of_nonneg (show 0<=A by lia),Int.natAbs_of_nonneg (show 0<=B by lia)]
 lia
theorem zcy {a b c d A B:Int}(ha:-A<=a/\a<=A)(hb:-A<=b/\b<=A)(hc:-B<=c/\c<=B)(hd:-B<=d/\d<=B):-(A*B)<=mn4 a b c d/\mx4 a b c d<=A*B/\mn4 a b c d<=A*B/\-(A*B)<=mx4 a b c d:=by
 have h1:=UA ha hc
 have h2:=UA ha hd
 have h3:=UA hb hc
 have h4:=UA hb hd;unfold mn4 mx4;refine⟨?_,?_,?_,?_⟩
 ·exact Int.le_min.mpr ⟨Int.le_min.mpr ⟨h1.1,h2.1⟩,Int.le_min.mpr ⟨h3.1,h4.1⟩⟩
 ·exact Int.max_le.mpr ⟨Int.max_le.mpr ⟨h1.2,h2.2⟩,Int.max_le.mpr ⟨h3.2,h4.2⟩⟩
 ·exact yM (Int.min_le_left ..) (yM (Int.min_le_left ..) h1.2)
 ·exact yM h1.1 (yM (Int.le_max_left ..) (Int.le_max_left ..))
theorem KU {x y d:Int}(hd:1<=d)(h:x<=y):x/d<=-(-y/d):=by
 have a:=(Qk x (show 0<d by lia)).1
 have b:=(HW y (show 0<d by lia)).1;exact Int.le_of_mul_le_mul_right (show x/d*d<=-(-y/d)*d by lia) (by lia)
theorem vI.times {B C:Nat}{g:Int}{p r:Int×Int}(hg:1<=g)(h:vI B g p)(k:vI C g r):vI (B*C) g (mn4 p.1 p.2 r.1 r.2/g,-(-mx4 p.1 p.2 r.1 r.2/g)):=by
 obtain⟨a,b,c⟩:=h;obtain⟨d,e,f⟩:=k;have z:=zcy (A:=(B:Int)*g) (B:=(C:Int)*g) (a:=p.1) (b:=p.2) (c:=r.1) (d:=r.2) ⟨b,by lia⟩ ⟨by lia,c⟩ ⟨e,by lia⟩ ⟨by lia,f⟩
 have y:(B:Int)*g*((C:Int)*g)=((B*C:Nat):Int)*g*g:=by rw[Int.natCast_mul];grind
 rw[y] at z;have lo:=SW hg z.1 z.2.2.1
 have hi:=SW hg z.2.2.2 z.2.1;exact⟨KU hg (Hm ..),lo.1,hi.2⟩
theorem JO {x A:Int}(h:-A<=x/\x<=A):∀n:Nat,-(A^n)<=x^n/\x^n<=A^n
 | 0=>by rw[xT,xT];lia
 | n+1=>by
  rw[xB,xB];exact UA (JO h n) h
theorem vI.power {B n:Nat}{g:Int}{p:Int×Int}(hg:1<=g)(h:vI B g p)(hn:1<=n):vI (B^n) g (Yg p.1 p.2 n/g^(n-1),-(-Y6 p.1 p.2 n/g^(n-1))):=by
 obtain⟨a,b,c⟩:=h;have z1:=JO (A:=(B:Int)*g) (x:=p.1) ⟨b,by lia⟩ n
 have z2:=JO (A:=(B:Int)*g) (x:=p.2) ⟨by lia,c⟩ n
 have pg:1<=g^(n-1):=yP (by lia)
 have y:((B:Int)*g)^n=((B^n:Nat):Int)*g*g^(n-1):=by
  obtain⟨m,rfl⟩:∃m,n=m+1:=⟨n-1,by lia⟩;rw[Int.mul_pow,Int.natCast_pow,Nat.add_sub_cancel,xB g m];grind
 rw[y] at z1 z2;have lo:-(((B^n:Nat):Int)*g*g^(n-1))<=Yg p.1 p.2 n/\Yg p.1 p.2 n<=((B^n:Nat):Int)*g*g^(n-1):=by
  unfold Yg;have nn:0<=((B^n:Nat):Int)*g*g^(n-1):=by lia
  split
  ·lia
  ·exact⟨Int.le_min.mpr ⟨z1.1,z2.1⟩,yM (Int.min_le_left ..) z1.2⟩
 have hi:-(((B^n:Nat):Int)*g*g^(n-1))<=Y6 p.1 p.2 n/\Y6 p.1 p.2 n<=((B^n:Nat):Int)*g*g^(n-1):=by
  unfold Y6;exact⟨yM z1.1 (Int.le_max_left ..),Int.max_le.mpr ⟨z1.2,z2.2⟩⟩
 exact⟨KU pg (Pl ..),(SW pg lo.1 lo.2).1,(SW pg hi.1 hi.2).2⟩
theorem vI.number {B:Nat}{g t b:Int}(hg:1<=g)(hb:1<=b)(ht:t.natAbs<=B*b.natAbs):vI B g (t*g/b,-(-(t*g)/b)):=by
 have m:((B*b.natAbs:Nat):Int)=(B:Int)*b:=by rw[Int.natCast_mul,Int.natAbs_of_nonneg (show 0<=b by lia)]
 have h1:=Int.mul_le_mul_of_nonneg_right (show t<=(B:Int)*b by lia) (show 0<=g by lia)
 have h2:=Int.mul_le_mul_of_nonneg_right (show -((B:Int)*b)<=t by lia) (show 0<=g by lia)
 have e:(B:Int)*b*g=(B:Int)*g*b:=by grind
 rw[e] at h1;rw[yN,e] at h2;have z:=SW hb h2 h1;exact⟨KU hb (yL _),z.1,z.2⟩
theorem Nk {bs:LI}{g:Int}{ns ms:List Nd}{i:Int}(hi:inR ns.length i):gt (Z8 bs g (ns++ms)) i=gt (Z8 bs g ns) i:=by
 have z:=Ar bs g (ns++ms) ns.length (by rw[zI];lia);rw[List.take_left'  rfl] at z;have h0:=hi.1
 have h1:=hi.2
 have k:i.toNat<ns.length:=by lia
 have e1:(Z8 bs g ns)[i.toNat]?=(Z8 bs g (ns++ms))[i.toNat]?:=by rw[<- z,List.getElem?_take_of_lt k]
 have l1:i.toNat<(Z8 bs g ns).length:=by rw[MF];exact k
 have a:=Y0 (zC l1)
 have b:=Y0 (vs:=Z8 bs g (ns++ms)) (k:=i.toNat) (e1.symm.trans (zC l1));rw[show ((i.toNat:Nat):Int)=i by lia] at a b;rw[a,b]
theorem J3 {q:Nat}{ns:List Nd}{ws:List Nat}{bs:LI}{g:Int}{j:Nat}{v:Nd}(net:Z7 q ns ws)(hv:ns[j]?=some v):gt (Z8 bs g ns) (j:Int)=v.fw (Z8 bs g ns) bs g:=by
 have lj:=(zF.mp hv).1
 have e:ns=ns.take j++v::ns.drop (j+1):=by
  have z:=List.getElem_cons_drop (h:=lj);rw[(zF.mp hv).2] at z;rw[z,List.take_append_drop]
 have ok:=(net.ok j v hv).1
 have lt:(ns.take j).length=j:=by rw[yB];lia
 have c:v.fw (Z8 bs g ns) bs g=v.fw (Z8 bs g (ns.take j)) bs g:=Io (k:=j) (q:=(q:Int)) (λi hi=>by
  have z:=Nk (bs:=bs) (g:=g) (ns:=ns.take j) (ms:=v::ns.drop (j+1)) (i:=i) (by rw[lt];exact hi);rw[<- e] at z;exact z) v ok
 rw[c];have s:=NG bs g (ns.take j) v
 have p:=Nk (bs:=bs) (g:=g) (ns:=ns.take j++[v]) (ms:=ns.drop (j+1)) (i:=(j:Int)) ⟨by lia,by rw[zI,lt];exact Int.lt_succ _⟩;rw[xQ,List.singleton_append,<- e,s] at p;rw[p];exact Gh (by rw[MF,lt])
theorem RB {q a c j:Nat}{S T:Sto}{ns ns':List Nd}{ws ws':List Nat}(h:Gr q a c S ns ws T ns' ws'){v:Nd}(ok:v.ok ns.length q)(hj:ns'[j]?=some v)(bs:LI)(g:Int):gt (Z8 bs g ns') (j:Int)=v.fw (Z8 bs g ns) bs g:=by
 rw[J3 h.net hj];obtain⟨ms,rfl,_⟩:=h.pn;exact Io (k:=ns.length) (q:=(q:Int)) (λi hi=>Nk hi) v ok
theorem Gr.fw {q a c:Nat}{S T:Sto}{ns ns':List Nd}{ws ws':List Nat}(h:Gr q a c S ns ws T ns' ws')(bs:LI)(g:Int){i:Nat}(hi:i<ns.length):gt (Z8 bs g ns') (i:Int)=gt (Z8 bs g ns) (i:Int):=by
 obtain⟨ms,rfl,_⟩:=h.pn;exact Nk ⟨by lia,by lia⟩
theorem Ae {q:Nat}{ns:List Nd}{ws:List Nat}{bs:LI}{g:Int}(hg:1<=g)(net:Z7 q ns ws)(lit:∀v∈ns,v.lit)(hP:∀k:Int,inR q k->vI 4 g (gt bs k)):∀j:Nat,j<ns.length->vI (4^ws.getD j 0) g (gt (Z8 bs g ns) (j:Int)):=by
 intro j
 induction j using Nat.strongRecOn with
 | ind j ih=>
  intro hj;have hv:=zC hj
  have hl:=lit _ (yA hj);generalize ns[j]=v at hv hl;obtain⟨ok,ew,w1,w16⟩:=net.ok j v hv;rw[J3 net hv,ew];have at':∀i:Int,inR (j:Nat) i->vI (4^ws.getD i.toNat 0) g (gt (Z8 bs g ns) i)/\1<=ws.getD i.toNat 0:=λi hi=>by
   have h0:=hi.1
   have h1:=hi.2
   have z:=ih i.toNat (by lia) (by lia);rw[show ((i.toNat:Nat):Int)=i by lia] at z;exact⟨z,(net.w1 (i:=i) ⟨h0,by lia⟩).1⟩
  cases v with
  | number t b=>
   have h4:t.natAbs<=4:=hl
   have hb:=ok.1.1;exact vI.number hg hb (show t.natAbs<=4^1*b.natAbs by lia)
  | unknown k=>exact hP k ok
  | plus i k=>
   have a:=at' i ok.1
   have b:=at' k ok.2;exact(a.1.plus b.1).mono hg (HI a.2 b.2)
  | minus i k=>
   have a:=at' i ok.1
   have b:=at' k ok.2;exact(a.1.minus b.1).mono hg (HI a.2 b.2)
  | times i k=>
   have a:=at' i ok.1
   have b:=at' k ok.2;exact(vI.times hg a.1 b.1).mono hg (by rw[<- Nat.pow_add];exact zD _)
  | power i m=>
   have a:=at' i ok.1
   have hm:=ok.2.1;refine(vI.power (n:=m.toNat) hg a.1 (by lia)).mono hg ?_;rw[<- Nat.pow_mul];show 4^(ws.getD i.toNat 0*m.toNat)<=4^(m.toNat*ws.getD i.toNat 0);rw[Nat.mul_comm];exact zD _
theorem Spn.mids {bs:LI}(sb:Spn 51 bs):Spn 51 (bs.map ZP):=λp hp=>by
 obtain⟨r,hr,rfl⟩:=zJ.mp hp;have z:=sb r hr
 have e:Sz 51 (mid r):=by
  have a:=z.2.1
  have b:=z.2.2
  have o:=z.1;unfold Sz at *
  unfold mid;lia
 exact⟨yL _,e,e⟩
theorem FJ {n:Nat}:∀xs:List D,(∀(k:Nat)(d:D),xs[k]?=some d->∃i:Nat,d=rwD (true,i)/\i<n)->∃rs:List Nat,xs=(rs.map λi=>rwD (true,i))/\∀i∈rs,i<n
 | [],_=>⟨[],rfl,λi hi=>by cases hi⟩
 | x::xs,h=>by
  obtain⟨i,rfl,hi⟩:=h 0 x rfl;obtain⟨rs,e,hr⟩:=FJ xs λk d hd=>h (k+1) d hd
  exact⟨i::rs,by rw[e];rfl,λj hj=>by
   rcases zS.mp hj with rfl|hj
   ·exact hi
   ·exact hr j hj⟩
theorem seqW4 {a b c d e:TDS}{E:Xx}{dl:Ev}{S:Sto}(W:Ev->Sto->Prop)(ha:∀nx:Ev->Sto->Prop,(∀dl' S',W dl' S'->nx dl' S')->YN a (YN b (YN c d)) { nx:=nx,rt:=E.rt,bk:=E.bk,ct:=E.ct } dl S)(hb:∀dl' S',W dl' S'->e E dl' S'):YN a (YN b (YN c (YN d e))) E dl S:=ha _ hb
theorem th_lt:1000<2^4000:=zZ (show 1000<2^10 by decide) (xR (by decide) (by decide))
def cofS (M:List (List Int))(i k:Nat):Int:=(M.getD ((i+1)%3) []).getD ((k+1)%3) 0*(M.getD ((i+2)%3) []).getD ((k+2)%3) 0-(M.getD ((i+1)%3) []).getD ((k+2)%3) 0*(M.getD ((i+2)%3) []).getD ((k+1)%3) 0
theorem F3 {M:List (List Int)}(lM:M.length=3)(zM:∀r∈M,r.length=3/\∀x∈r,Sz 1101 x)(i k:Nat):Sz 2203 (cofS M i k):=by
 have get:∀x y:Nat,x<3->y<3->Sz 1101 ((M.getD x []).getD y 0):=λx y hx hy=>by
  obtain⟨l3,z⟩:=zM (M.getD x []) (by rw[zK,zC (show x<M.length by lia)];exact yA ..);generalize M.getD x []=w at l3 z;refine z _ ?_;rw[zK,zC (show y<w.length by lia)];exact yA ..
 have h:∀n:Nat,n%3<3:=λn=>Nat.mod_lt _ (by decide)
 exact(((get _ _ (h _) (h _)).mul (get _ _ (h _) (h _))).sub ((get _ _ (h _) (h _)).mul (get _ _ (h _) (h _)))).mono (by decide)
theorem sum3 {zs:List Int}(l:zs.length=3)(h:∀z∈zs,Sz 3304 z):Sz 3400 zs.sum:=by
 match zs,l,h with
 | [a,b,c],_,h=>
  have x:=((h a (by simp)).add ((h b (by simp)).add (h c (by simp)))).mono (show _<=3400 by decide)
  have e:[a,b,c].sum=a+(b+c):=by simp
  rw[e];exact x
def Vz (S:Sto)(nd rw bx:Nat)(g:Int)(d:D)(ans:Bool):Prop:=∃(ns:List Nd)(ws:List Nat)(rows:List (Bool×Nat))(bs aE vs aC:LI)(M:List (List Int))(R:List LI),S[nd]?=some (.lst (ns.map Nd.d))/\S[rw]?=some (.lst (rows.map rwD))/\S[bx]?=some (.lst (bs.map frD))/\Wi S d M aE vs aC R/\Z7 bs.length ns ws/\ns.length<=900/\rows.length<=900/\(vs.length=ns.length/\aC.length=ns.length/\R.length=ns.length)/\Spn 1000 vs/\Spn 1000 aC/\YE ((ns.take vs.length).map λv=>v.fw vs bs g) vs=true/\YE ((ns.take aC.length).map λv=>v.fw aC (bs.map ZP) g) aC=true/\(∀r∈rows,r.2<ns.length)/\M.length=bs.length/\aE.length=bs.length/\(1<=bs.length/\bs.length<=4)/\Bd 60 bs/\(1<=g/\g<=1000000)/\
 (((∃r∈R,r.length≠bs.length)/\ans=false)\/(SlW bs.length ws R/\(slB vs R g bs.length ns).all id=true/\((((eqs rows).length≠bs.length\/∃r∈M,r.length≠bs.length)/\ans=false)\/((eqs rows).length=bs.length/\(∀r∈M,r.length=bs.length/\∀x∈r,Sz 4000 x)/\ans=(Xw rows vs&&(YE (YC g bs aC R (eqs rows) M) aE&&XR aE bs))))))
theorem Vz.pre {S T:Sto}{nd rw bx:Nat}{g:Int}{d:D}{ans:Bool}(h:Vz S nd rw bx g d ans)(p:Pre S T):Vz T nd rw bx g d ans:=by
 obtain⟨ns,ws,rows,bs,aE,vs,aC,M,R,h1,h2,h3,h4,h5⟩:=h;exact⟨ns,ws,rows,bs,aE,vs,aC,M,R,p _ _ h1,p _ _ h2,p _ _ h3,h4.pre p,h5⟩
theorem FD {M:List (List Int)}{n:Nat}:((M.map λr=>decide (((r.length:Nat):Int)=((n:Nat):Int))).all id=true)↔∀r∈M,r.length=n:=by
 rw[yZ];constructor
 ·intro h r hr;have z:decide (((r.length:Nat):Int)=((n:Nat):Int))=true:=h _ (zJ.mpr ⟨r,hr,rfl⟩)
  have y:=of_decide_eq_true z;lia
 ·intro h x hx;obtain⟨r,hr,rfl⟩:=zJ.mp hx;exact decide_eq_true (by rw[h r hr])
theorem zcM {M:List (List Int)}{n:Nat}(h:∃r∈M,r.length≠n):(M.map λr=>decide (((r.length:Nat):Int)=((n:Nat):Int))).all id=false:=by
 cases e:(M.map λr=>decide (((r.length:Nat):Int)=((n:Nat):Int))).all id with
 | false=>rfl
 | true=>
  obtain⟨r,hr,z⟩:=h;exact absurd (FD.mp e r hr) z
theorem Fy (a b:List (Bool×Nat)):eqs (a++b)=eqs a++eqs b:=by
 unfold eqs;rw[List.filterMap_append]
theorem Dn {S:Sto}{n:Nat}{o:Ob}(h:S[n]?=some o):S.set n o=S:=by
 obtain⟨l,e⟩:=zF.mp h;rw[<- e];exact List.set_getElem_self l
def XJ (S:Sto)(ds:List D)(L:List (List D)):Prop:=ds.length=L.length/\∀(k:Nat)(d:D)(xs:List D),ds[k]?=some d->L[k]?=some xs->∃a,d=.ref a/\S[a]?=some (.lst xs)
theorem BN (xs:List D):WM xs none (some 1)=xs.take 1:=by
 unfold L3.WM;have e:HT.sIx xs.length xs.length (some 1)=min 1 xs.length:=HT.sIx_nat xs.length xs.length 1;rw[HT.sIx_none,e];cases xs with
 | nil=>rfl
 | cons x r=>simp
def wNeK:W2:=λx y S Q=>match x,y with
 | .ref a,.ref b=>(∃xs ys,S[a]?=some (.lst xs)/\S[b]?=some (.lst ys)/\xs.length=ys.length/\∀(k:Nat)(x y:D),xs[k]?=some x->ys[k]?=some y->Alk S 6 x y)/\Q (.bl false) S
 | _,_=>False
theorem Bf {X:Cx}{Z:Zx}{j:Nat}(hr:Z5 j X.A):OpR X (compareOp .NotEq) (upO X.K Z wNeK):=by
 have hu:=hr.un;intro aA s σ H x y v u Qv I rx ry h;obtain⟨r,S,dx,dy,Q,bD,px,py,q,ret⟩:=h;cases px with
 | @ref n a hn=>
  cases py with
  | @ref m a' hm=>
   cases rx;cases ry;obtain⟨⟨ds,es,e1,e2,hl,hall⟩,q⟩:=(show (∃xs ys,_)/\_ from q);obtain⟨z,hz,ob⟩:=bD.at e1;rw[hn] at hz;cases hz
   obtain⟨z,hz,ob'⟩:=bD.at e2;rw[hm] at hz;cases hz
   obtain⟨xs,sq,pr⟩:=ob.list rfl;obtain⟨ys,sq',pr'⟩:=ob'.list rfl;obtain⟨is,ri,pl,_⟩:=I.list sq;obtain⟨js,rj,pl',_⟩:=I.list sq';have l1:ds.length=xs.length:=pr.1
   have l2:es.length=ys.length:=pr'.1
   have l3:=ri.length
   have l4:=rj.length
   have main:=JF (P:=λS=>Alk S 6) (S:=S) (A:=X.A.in1) (λh p1 p2 q1 q2=>O8 6 I bD h p1 p2 q1 q2 (by show X.A.units+1+6<_;lia)) pr pr' ri rj hall
   have q2:=SeqAt.RcNeAt.lists (A:=X.A) (e:=λ_=>true) pl.isList pl'.isList (by simp;lia) (by lia) main
   have e3:(!(List.range is.toArray.size).all λ_=>true)=false:=by simp
   rw[e3] at q2;exact q2 X.prog X.w X.xe _ ⟨.bl false,H,I,rfl,ret _ _ _ _ _ Ext.refl bD (.bl false) q⟩
  | _=>exact(show False from q).elim
 | _=>exact(show False from q).elim
theorem Fd {caps:List Nat}{tl:TDE}{dl:Ev}{S S1:Sto}{Q:DK}{n:Nat}{ds:List D}{L:List (List D)}(htl:∀K:DK,K (.ref n) S1->tl dl S K)(h1:S1[n]?=some (.lst ds))(rd:XJ S1 ds L)(l9:L.length<=1000)
  (hq:∀(T:Sto)(es:List D),Pre S1 T->T[S1.length]?=some (.lst es)->XJ T es L->Q (.ref S1.length) T):XB caps tl Xu (MI (irr Rh) (Vl (Rt 0) U1)) dl S Q:=by
 have ld:=rd.1;refine E2 (n:=n) (S1:=S1) (o:=.lst ds) (λk ys S3=>S3[S1.length]?=some (.lst ys)/\ys.length=k/\Pre S1 S3/\∀(j:Nat)(y:D)(zs:List D),ys[j]?=some y->L[j]?=some zs->∃a,y=.ref a/\S1.length<a/\S3[a]?=some (.lst zs)) htl h1 (λk ys S3 ⟨a,b,c,_⟩=>⟨c _ _ h1,a,b⟩) (by show ds.length<=1000;lia) ⟨Zy _ _,rfl,Ym _,λj y zs hy=>by cases hy⟩ ?_ ?_
 ·rintro k x ys S3 K3 hx ⟨g1,g2,g3,g4⟩ hK3;have hx':ds[k]?=some x:=hx
  have lk:=(zF.mp hx').1
  have hL:=zC (show k<L.length by lia);generalize L[k]=zs at hL;obtain⟨a,rfl,ha⟩:=rd.2 k x zs hx' hL;have ha3:=g3 _ _ ha;refine Vf (o:=.lst zs) (ZS ha3 rfl) ?_;refine hK3 (.ref S3.length) (S3++[.lst zs]) (Zj g1) ?_;have l3:=Z4 g1;refine⟨Yu (Zj g1),by rw[zI,g2];rfl,λx o e=>Yb (Zj (g3 x o e)) (by have:=Z4 e;lia),λj y zs' hy hz=>?_⟩;by_cases cj:j<ys.length
  ·rw[zP cj] at hy;obtain⟨a',e',l',s'⟩:=g4 j y zs' hy hz;exact⟨a',e',l',Yb (Zj s') (by lia)⟩
  ·have l1:=(zF.mp hy).1;simp only[zI,zX,xA] at l1;have ee:j=ys.length:=by lia
   subst ee;rw[yD (zD _),yW] at hy;cases hy;rw[g2,hL] at hz;cases hz;exact⟨_,rfl,by lia,Yb (Zy _ _) (by lia)⟩
 ·rintro ys S2 ⟨g1,g2,g3,g4⟩;have g2':ys.length=ds.length:=g2;exact hq S2 ys g3 g1 ⟨by lia,λk d xs hd hx=>by
   obtain⟨a,e,_,s⟩:=g4 k d xs hd hx;exact⟨a,e,s⟩⟩
theorem YO.toD {S:Sto}{ds:List D}{M:List (List Int)}(h:YO S ds M):XJ S ds (M.map (·.map D.int)):=⟨by rw[zA];exact h.1,λk d xs hd hx=>by
 rw[zG] at hx;obtain⟨r,hr,rfl⟩:=zQ.mp hx;exact h.2 k d r hd hr⟩
theorem XJ.toI {S:Sto}{ds:List D}{M:List (List Int)}(h:XJ S ds (M.map (·.map D.int))):YO S ds M:=⟨by rw[h.1,zA],λk d r hd hr=>h.2 k d _ hd (by rw[zG,hr];rfl)⟩
theorem Z2.toD {S:Sto}{lo:Nat}{ds:List D}{R:List LI}(h:Z2 S lo ds R):XJ S ds (R.map (·.map frD)):=⟨by rw[zA];exact h.1,λk d xs hd hx=>by
 rw[zG] at hx;obtain⟨r,hr,rfl⟩:=zQ.mp hx;obtain⟨a,e,_,s⟩:=h.2 k d r hd hr;exact⟨a,e,s⟩⟩
theorem XJ.toP {S:Sto}{ds:List D}{R:List LI}(h:XJ S ds (R.map (·.map frD))):Z2 S 0 ds R:=⟨by rw[h.1,zA],λk d r hd hr=>by
 obtain⟨a,e,s⟩:=h.2 k d _ hd (by rw[zG,hr];rfl);exact⟨a,e,zO _,s⟩⟩
theorem XJ.pre {S T:Sto}{ds:List D}{L:List (List D)}(h:XJ S ds L)(p:Pre S T):XJ T ds L:=⟨h.1,λk d r hd hr=>by
 obtain⟨a,e,s⟩:=h.2 k d r hd hr;exact⟨a,e,p _ _ s⟩⟩
theorem Fi {α:Type}(f:α->D){L:List (List α)}{k q:Nat}{xs ys:List D}(hL:(L.map (·.map f))[k]?=some xs)(hq:∀r∈L,r.length=q)(q1:1<=q)(hy:ys=xs.drop 1\/ys=xs++xs.take 1):∃L':List (List α),(L.map (·.map f)).set k ys=L'.map (·.map f)/\L'.length=L.length/\∃r∈L',r.length≠q:=by
 rw[zG] at hL;obtain⟨r,hr,rfl⟩:=zQ.mp hL;have lk:=(zF.mp hr).1
 have lr:=hq r (zL hr);obtain⟨z,rfl,nz⟩:∃z:List α,ys=z.map f/\z.length≠q:=by
  rcases hy with rfl|rfl
  ·exact⟨r.drop 1,by rw[List.map_drop],by rw[xH];lia⟩
  ·exact⟨r++r.take 1,by rw[yC,List.map_take],by rw[zI,yB];lia⟩
 exact⟨L.set k z,by rw[List.map_set],by rw[List.length_set],z,zL (i:=k) (by rw[yT lk]),nz⟩
theorem in12 (v:Int):YI (eqN 0) [.int 1,.int 2] (.int v)=some (decide (v=1\/v=2)):=by
 have e:∀a b:Int,eqN 0 (.int a) (.int b)=some (decide (a=b)):=λa b=>rfl
 show (match eqN 0 (.int 1) (.int v),(match eqN 0 (.int 2) (.int v),some false with|some b,some c=>some (b||c)|_,_=>none) with|some b,some c=>some (b||c)|_,_=>none)=_;rw[e,e];show some (decide (1=v)||(decide (2=v)||false))=_;congr 1;by_cases a:v=1
 ·subst a;rfl
 ·by_cases b:v=2
  ·subst b;rfl
  ·rw[decide_eq_false (show ¬ 1=v by lia),decide_eq_false (show ¬ 2=v by lia),decide_eq_false (show ¬ (v=1\/v=2) by lia)];rfl
theorem zbP {S:Sto}{ds:List D}{M:List (List Int)}{n:Nat}(h:S[n]?=some (.lst ds))(ri:YO S ds M)(k:Nat):ds[k]?≠some (.ref n):=λe=>by
 have lk:=(zF.mp e).1
 have l:=ri.1;obtain⟨a,ea,ha⟩:=ri.2 k _ _ e (zC (show k<M.length by lia));cases ea;rw[h] at ha;injection ha with ha
 injection ha with ha
 rw[ha,zG] at e;obtain⟨x,_,ex⟩:=zQ.mp e;cases ex
theorem Al {S:Sto}{lo n a:Nat}{ds:List D}{R:List LI}{r:List Int}(h:S[n]?=some (.lst ds))(rp:Z2 S lo ds R)(l:1<=R.length)(ha:S[a]?=some (.lst (r.map D.int))):a≠n:=λe=>by
 subst e;rw[h] at ha;injection ha with ha
 injection ha with ha
 have l1:=rp.1;obtain⟨b,eb,_⟩:=rp.2 0 _ _ (zC (show 0<ds.length by lia)) (zC (show 0<R.length by lia));have z:ds[0]?=some (.ref b):=by rw[zC (show 0<ds.length by lia),eb]
 rw[ha,zG] at z;obtain⟨x,_,ex⟩:=zQ.mp z;cases ex
theorem inT12 (v:Int){S:Sto}{K:DK}(hK:K (.bl (decide (v=1\/v=2))) S):Vv 0 false (.int v) (.tup [.int 1,.int 2]) S K:=by
 unfold Vv;show (match YI (eqN 0) [.int 1,.int 2] (.int v) with|some b=>K (.bl (if false then !b else b)) S|none=>False);rw[in12];exact hK
theorem zaW (v:Int){S:Sto}{K:DK}(hK:K (.bl (!decide (v=1\/v=2))) S):Vv 0 true (.int v) (.tup [.int 1,.int 2]) S K:=by
 unfold Vv;show (match YI (eqN 0) [.int 1,.int 2] (.int v) with|some b=>K (.bl (if true then !b else b)) S|none=>False);rw[in12];exact hK
theorem AR {tl:TDE}{A B:TDS}{E:Xx}{dl:Ev}{S:Sto}{v:Int}(htl:∀K:DK,K (.int v) S->tl dl S K)(h1:(v=1\/v=2)->A E dl S)(h2:¬ (v=1\/v=2)->B E dl S):dIf (VL (dOp (Vv 0 false) tl (Sx (Vl (dC (.int 1)) (Vl (dC (.int 2)) U1))))) A B E dl S:=by
 unfold dIf VL dOp;refine htl _ ?_;simp only[Sx,Vl,dC,U1];rw[if_pos (by decide)];refine inT12 v ?_;exact ifD h1 h2
theorem zcR {tl:TDE}{dl:Ev}{S:Sto}{v:Int}{Q:Bool->Sto->Prop}(htl:∀K:DK,K (.int v) S->tl dl S K)(h:Q (!decide (v=1\/v=2)) S):VL (dOp (Vv 0 true) tl (Sx (Vl (dC (.int 1)) (Vl (dC (.int 2)) U1)))) dl S Q:=by
 unfold VL dOp;refine htl _ ?_;simp only[Sx,Vl,dC,U1];rw[if_pos (by decide)];refine zaW v ?_;exact h
section
variable {X:Cx}{Z:Zx}
def He:R2:=λx y H Q=>∃l b xs zs,x=.ref l/\y=.ref b/\H l=some (.tup xs)/\H b=some (.tup zs)/\xs≠[]/\zs≠[]/\xs.length+zs.length<=sizeLine/\∀p,H p=none->Q (.ref p) (upd H p (.tup (xs++zs)))
theorem GB:OpR X (binaryOp .Add) He:=by
 intro aA s σ H x y v u Q I rx ry h;obtain⟨l,b,xs,zs,rfl,rfl,hH,hB,n1,n2,hz,q⟩:=h;cases rx;cases ry;obtain⟨z1,bB,r,⟨⟨c1,d1,a1,s1⟩,e1,t1,k1,f1⟩⟩:=I.hok l _ hH;obtain⟨z2,its2,r2,⟨⟨c2,d2,a2,s2⟩,e2,t2,k2,f2⟩⟩:=I.hok b _ hB;cases t1;cases f1;cases t2;cases f2;have l1:=r.length
 have l2:=r2.length
 have m1:¬ bB.toArray.isEmpty=true:=by
  cases bB with
  | nil=>exact absurd (List.length_eq_zero_iff.mp l1) n1
  | cons=>simp
 have m2:¬ its2.toArray.isEmpty=true:=by
  cases its2 with
  | nil=>exact absurd (List.length_eq_zero_iff.mp l2) n2
  | cons=>simp
 refine concat_meets (T:="tuple") ⟨_,e1,rfl⟩ ⟨_,e2,rfl⟩ noFill_tuple_add seq_tuple_add F.slot_tuple_add F.entry_tuple_add (F.args_tuple_add_2 _ _) (tuple_addW2 l b bB.toArray its2.toArray k1 k2 d1 d2 s1 s2 m1 m2 (by rw[zN,zN];lia)) ⟨e1,e2,?_⟩;have ea:bB.toArray++its2.toArray=(bB++its2).toArray:=by simp
 rw[ea];exact⟨.ref _,_,I.laid (t':=s.toks) (λb o e=>Heap.get?_push_of_some _ e) (zD _) (show Xg X.prog X.w _ _ _ (.tup (xs++zs)) from ⟨by rw[zI];exact hz,_,r.append r2,IsTup.new _ _⟩),rfl,q _ I.fresh⟩
def FZ:W2:=λx y S Q=>match x,y with
 | .tup xs,.tup ys=>xs≠[]/\ys≠[]/\xs.length+ys.length<=1000/\Q (.tup (xs++ys)) S
 | _,_=>False
theorem zah:OpR X (binaryOp .Add) (upO X.K Z FZ):=Uz GB λx y H Qv ⟨r,S,dx,dy,Q,bD,px,py,q,ret⟩=>by
 unfold FZ at q;split at q
 ·rename_i xs ys;obtain⟨n1,n2,hl,q⟩:=q;cases px with
  | @tup _ us a h1 p1 p2=>
   cases py with
   | @tup _ vs a' h2 q1 q2=>
    refine⟨a,a',us,vs,rfl,rfl,h1,h2,λe=>?_,λe=>?_,by rw[<- p1,<- q1];exact Wv hl,λl hl=>?_⟩
    ·rw[e] at p1;exact n1 (List.length_eq_zero_iff.mp p1)
    ·rw[e] at q1;exact n2 (List.length_eq_zero_iff.mp q1)
    have x:Ext r r H (upd H l (.tup (us++vs))):=⟨λ_ _ q=>q,λa xs q=>Xd hl _ _ q,λa c q=>Xd hl _ _ q⟩
    have pr:Rps r H (xs++ys) (us++vs):=Rps.app ⟨p1,p2⟩ ⟨q1,q2⟩;exact ret _ _ r (.tup (xs++ys)) S x (bD.same (Xd hl)) ((pr.ext x).tupR Xs) q
 ·exact q.elim
end
abbrev N3:Ev:=[none,none,none]
abbrev N4:Ev:=[none,none,none,none]
abbrev N5:Ev:=[none,none,none,none,none]
abbrev N6:Ev:=[none,none,none,none,none,none]
abbrev N7:Ev:=[none,none,none,none,none,none,none]
abbrev N8:Ev:=[none,none,none,none,none,none,none,none]
abbrev N9:Ev:=[none,none,none,none,none,none,none,none,none]
abbrev N10:Ev:=[none,none,none,none,none,none,none,none,none,none]
abbrev N11:Ev:=[none,none,none,none,none,none,none,none,none,none,none]
abbrev N12:Ev:=[none,none,none,none,none,none,none,none,none,none,none,none]
abbrev N13:Ev:=[none,none,none,none,none,none,none,none,none,none,none,none,none]
abbrev N15:Ev:=[none,none,none,none,none,none,none,none,none,none,none,none,none,none,none]
abbrev N16:Ev:=[none,none,none,none,none,none,none,none,none,none,none,none,none,none,none,none]
abbrev N17:Ev:=[none,none,none,none,none,none,none,none,none,none,none,none,none,none,none,none,none]
structure Xj (K:Fg)(mg:Str->Option Value) where
 C:Addr
 m:mg "Number"=some (.ref C)
 cl:Cls K C
 n_bottom:YV K C "bottom"
 n_top:YV K C "top"
 makes:PySem.W.makesIn K C=true
 kp:PySem.W.keepIn K (.ref C)=true
structure Xb (K:Fg)(mg:Str->Option Value) where
 C:Addr
 m:mg "Unknown"=some (.ref C)
 cl:Cls K C
 n_place:YV K C "place"
 makes:PySem.W.makesIn K C=true
 kp:PySem.W.keepIn K (.ref C)=true
structure Y7 (K:Fg)(mg:Str->Option Value) where
 C:Addr
 m:mg "Plus"=some (.ref C)
 cl:Cls K C
 n_other:YV K C "other"
 n_one:YV K C "one"
 makes:PySem.W.makesIn K C=true
 kp:PySem.W.keepIn K (.ref C)=true
structure Y4 (K:Fg)(mg:Str->Option Value) where
 C:Addr
 m:mg "Minus"=some (.ref C)
 cl:Cls K C
 n_other:YV K C "other"
 n_one:YV K C "one"
 makes:PySem.W.makesIn K C=true
 kp:PySem.W.keepIn K (.ref C)=true
structure YZ (K:Fg)(mg:Str->Option Value) where
 C:Addr
 m:mg "Times"=some (.ref C)
 cl:Cls K C
 n_other:YV K C "other"
 n_one:YV K C "one"
 makes:PySem.W.makesIn K C=true
 kp:PySem.W.keepIn K (.ref C)=true
structure Xi (K:Fg)(mg:Str->Option Value) where
 C:Addr
 m:mg "Power"=some (.ref C)
 cl:Cls K C
 n_many:YV K C "many"
 n_one:YV K C "one"
 makes:PySem.W.makesIn K C=true
 kp:PySem.W.keepIn K (.ref C)=true
def aN (p:Prop):List D->Prop
 | []=>p
 | _=>False
theorem Z6 {p:Prop}:∀ {ds:List D},aN p ds->ds=[]/\p
 | [],h=>⟨rfl,h⟩
 | _::_,h=>h.elim
theorem nN {p:Prop}{ds:List D}(h:aN p ds):ds.length=0:=by rw[(Z6 h).1];rfl
def aR (f:Nat->List D->Prop):List D->Prop
 | .ref a::r=>f a r
 | _=>False
theorem ZH {f:Nat->List D->Prop}{ds:List D}(h:aR f ds):∃a r,ds=.ref a::r/\f a r:=by
 match ds,h with
 | .ref a::r,h=>exact⟨a,r,rfl,h⟩
theorem nR {f:Nat->List D->Prop}{n:Nat}(k:∀a {r:List D},f a r->r.length=n){ds:List D}(h:aR f ds):ds.length=n+1:=by
 obtain⟨a,r,rfl,h⟩:=ZH h;rw[zX,k a h]
def aI (f:Int->List D->Prop):List D->Prop
 | .int a::r=>f a r
 | _=>False
theorem ZX {f:Int->List D->Prop}{ds:List D}(h:aI f ds):∃a r,ds=.int a::r/\f a r:=by
 match ds,h with
 | .int a::r,h=>exact⟨a,r,rfl,h⟩
theorem nI {f:Int->List D->Prop}{n:Nat}(k:∀a {r:List D},f a r->r.length=n){ds:List D}(h:aI f ds):ds.length=n+1:=by
 obtain⟨a,r,rfl,h⟩:=ZX h;rw[zX,k a h]
def aS (f:Str->List D->Prop):List D->Prop
 | .str a::r=>f a r
 | _=>False
theorem aS_e {f:Str->List D->Prop}{ds:List D}(h:aS f ds):∃a r,ds=.str a::r/\f a r:=by
 match ds,h with
 | .str a::r,h=>exact⟨a,r,rfl,h⟩
theorem nS {f:Str->List D->Prop}{n:Nat}(k:∀a {r:List D},f a r->r.length=n){ds:List D}(h:aS f ds):ds.length=n+1:=by
 obtain⟨a,r,rfl,h⟩:=aS_e h;rw[zX,k a h]
def aB (f:Bool->List D->Prop):List D->Prop
 | .bl a::r=>f a r
 | _=>False
theorem aB_e {f:Bool->List D->Prop}{ds:List D}(h:aB f ds):∃a r,ds=.bl a::r/\f a r:=by
 match ds,h with
 | .bl a::r,h=>exact⟨a,r,rfl,h⟩
theorem nB {f:Bool->List D->Prop}{n:Nat}(k:∀a {r:List D},f a r->r.length=n){ds:List D}(h:aB f ds):ds.length=n+1:=by
 obtain⟨a,r,rfl,h⟩:=aB_e h;rw[zX,k a h]
def aP (f:Int->Int->List D->Prop):List D->Prop
 | .tup [.int a,.int b]::r=>f a b r
 | _=>False
theorem Xr {f:Int->Int->List D->Prop}{ds:List D}(h:aP f ds):∃a b r,ds=.tup [.int a,.int b]::r/\f a b r:=by
 match ds,h with
 | .tup [.int a,.int b]::r,h=>exact⟨a,b,r,rfl,h⟩
theorem nP {f:Int->Int->List D->Prop}{n:Nat}(k:∀a b {r:List D},f a b r->r.length=n){ds:List D}(h:aP f ds):ds.length=n+1:=by
 obtain⟨a,b,r,rfl,h⟩:=Xr h;rw[zX,k a b h]
def aD (f:D->List D->Prop):List D->Prop
 | a::r=>f a r
 | []=>False
theorem Wb {f:D->List D->Prop}:∀ {ds:List D},aD f ds->∃a r,ds=a::r/\f a r
 | a::r,h=>⟨a,r,rfl,h⟩
 | [],h=>h.elim
theorem nD {f:D->List D->Prop}{n:Nat}(k:∀a {r:List D},f a r->r.length=n){ds:List D}(h:aD f ds):ds.length=n+1:=by
 obtain⟨a,r,rfl,h⟩:=Wb h;rw[zX,k a h]
theorem eD {f:D->Prop}{ds:List D}(h:(aD λa0=>aN (f a0)) ds):∃a0,ds=[a0]/\f a0:=by
 obtain⟨a0,_,e0,h⟩:=Wb h;obtain⟨e,h⟩:=Z6 h;exact⟨a0,by rw[e0,e],h⟩
theorem eDRRI {f:D->Nat->Nat->Int->Prop}{ds:List D}(h:(aD λa0=>aR λa1=>aR λa2=>aI λa3=>aN (f a0 a1 a2 a3)) ds):∃a0 a1 a2 a3,ds=[a0,.ref a1,.ref a2,.int a3]/\f a0 a1 a2 a3:=by
 obtain⟨a0,_,e0,h⟩:=Wb h;obtain⟨a1,_,e1,h⟩:=ZH h;obtain⟨a2,_,e2,h⟩:=ZH h;obtain⟨a3,_,e3,h⟩:=ZX h;obtain⟨e,h⟩:=Z6 h;exact⟨a0,a1,a2,a3,by rw[e0,e1,e2,e3,e],h⟩
theorem BM {f:D->Nat->Nat->Int->Int->Prop}{ds:List D}(h:(aD λa0=>aR λa1=>aR λa2=>aI λa3=>aI λa4=>aN (f a0 a1 a2 a3 a4)) ds):∃a0 a1 a2 a3 a4,ds=[a0,.ref a1,.ref a2,.int a3,.int a4]/\f a0 a1 a2 a3 a4:=by
 obtain⟨a0,_,e0,h⟩:=Wb h;obtain⟨a1,_,e1,h⟩:=ZH h;obtain⟨a2,_,e2,h⟩:=ZH h;obtain⟨a3,_,e3,h⟩:=ZX h;obtain⟨a4,_,e4,h⟩:=ZX h;obtain⟨e,h⟩:=Z6 h;exact⟨a0,a1,a2,a3,a4,by rw[e0,e1,e2,e3,e4,e],h⟩
theorem eI {f:Int->Prop}{ds:List D}(h:(aI λa0=>aN (f a0)) ds):∃a0,ds=[.int a0]/\f a0:=by
 obtain⟨a0,_,e0,h⟩:=ZX h;obtain⟨e,h⟩:=Z6 h;exact⟨a0,by rw[e0,e],h⟩
theorem eII {f:Int->Int->Prop}{ds:List D}(h:(aI λa0=>aI λa1=>aN (f a0 a1)) ds):∃a0 a1,ds=[.int a0,.int a1]/\f a0 a1:=by
 obtain⟨a0,_,e0,h⟩:=ZX h;obtain⟨a1,_,e1,h⟩:=ZX h;obtain⟨e,h⟩:=Z6 h;exact⟨a0,a1,by rw[e0,e1,e],h⟩
theorem zaI {f:Int->Int->Nat->Nat->Int->Prop}{ds:List D}(h:(aI λa0=>aI λa1=>aR λa2=>aR λa3=>aI λa4=>aN (f a0 a1 a2 a3 a4)) ds):∃a0 a1 a2 a3 a4,ds=[.int a0,.int a1,.ref a2,.ref a3,.int a4]/\f a0 a1 a2 a3 a4:=by
 obtain⟨a0,_,e0,h⟩:=ZX h;obtain⟨a1,_,e1,h⟩:=ZX h;obtain⟨a2,_,e2,h⟩:=ZH h;obtain⟨a3,_,e3,h⟩:=ZH h;obtain⟨a4,_,e4,h⟩:=ZX h;obtain⟨e,h⟩:=Z6 h;exact⟨a0,a1,a2,a3,a4,by rw[e0,e1,e2,e3,e4,e],h⟩
theorem EG {f:Int->Nat->Int->Nat->Nat->Nat->Prop}{ds:List D}(h:(aI λa0=>aR λa1=>aI λa2=>aR λa3=>aR λa4=>aR λa5=>aN (f a0 a1 a2 a3 a4 a5)) ds):∃a0 a1 a2 a3 a4 a5,ds=[.int a0,.ref a1,.int a2,.ref a3,.ref a4,.ref a5]/\f a0 a1 a2 a3 a4 a5:=by
 obtain⟨a0,_,e0,h⟩:=ZX h;obtain⟨a1,_,e1,h⟩:=ZH h;obtain⟨a2,_,e2,h⟩:=ZX h;obtain⟨a3,_,e3,h⟩:=ZH h;obtain⟨a4,_,e4,h⟩:=ZH h;obtain⟨a5,_,e5,h⟩:=ZH h;obtain⟨e,h⟩:=Z6 h;exact⟨a0,a1,a2,a3,a4,a5,by rw[e0,e1,e2,e3,e4,e5,e],h⟩
theorem eP {f:Int->Int->Prop}{ds:List D}(h:(aP λa0 a1=>aN (f a0 a1)) ds):∃a0 a1,ds=[.tup [.int a0,.int a1]]/\f a0 a1:=by
 obtain⟨a0,a1,_,e0,h⟩:=Xr h;obtain⟨e,h⟩:=Z6 h;exact⟨a0,a1,by rw[e0,e],h⟩
theorem ePI {f:Int->Int->Int->Prop}{ds:List D}(h:(aP λa0 a1=>aI λa2=>aN (f a0 a1 a2)) ds):∃a0 a1 a2,ds=[.tup [.int a0,.int a1],.int a2]/\f a0 a1 a2:=by
 obtain⟨a0,a1,_,e0,h⟩:=Xr h;obtain⟨a2,_,e2,h⟩:=ZX h;obtain⟨e,h⟩:=Z6 h;exact⟨a0,a1,a2,by rw[e0,e2,e],h⟩
theorem ePII {f:Int->Int->Int->Int->Prop}{ds:List D}(h:(aP λa0 a1=>aI λa2=>aI λa3=>aN (f a0 a1 a2 a3)) ds):∃a0 a1 a2 a3,ds=[.tup [.int a0,.int a1],.int a2,.int a3]/\f a0 a1 a2 a3:=by
 obtain⟨a0,a1,_,e0,h⟩:=Xr h;obtain⟨a2,_,e2,h⟩:=ZX h;obtain⟨a3,_,e3,h⟩:=ZX h;obtain⟨e,h⟩:=Z6 h;exact⟨a0,a1,a2,a3,by rw[e0,e2,e3,e],h⟩
theorem ePP {f:Int->Int->Int->Int->Prop}{ds:List D}(h:(aP λa0 a1=>aP λa2 a3=>aN (f a0 a1 a2 a3)) ds):∃a0 a1 a2 a3,ds=[.tup [.int a0,.int a1],.tup [.int a2,.int a3]]/\f a0 a1 a2 a3:=by
 obtain⟨a0,a1,_,e0,h⟩:=Xr h;obtain⟨a2,a3,_,e2,h⟩:=Xr h;obtain⟨e,h⟩:=Z6 h;exact⟨a0,a1,a2,a3,by rw[e0,e2,e],h⟩
theorem ePPI {f:Int->Int->Int->Int->Int->Prop}{ds:List D}(h:(aP λa0 a1=>aP λa2 a3=>aI λa4=>aN (f a0 a1 a2 a3 a4)) ds):∃a0 a1 a2 a3 a4,ds=[.tup [.int a0,.int a1],.tup [.int a2,.int a3],.int a4]/\f a0 a1 a2 a3 a4:=by
 obtain⟨a0,a1,_,e0,h⟩:=Xr h;obtain⟨a2,a3,_,e2,h⟩:=Xr h;obtain⟨a4,_,e4,h⟩:=ZX h;obtain⟨e,h⟩:=Z6 h;exact⟨a0,a1,a2,a3,a4,by rw[e0,e2,e4,e],h⟩
theorem eR {f:Nat->Prop}{ds:List D}(h:(aR λa0=>aN (f a0)) ds):∃a0,ds=[.ref a0]/\f a0:=by
 obtain⟨a0,_,e0,h⟩:=ZH h;obtain⟨e,h⟩:=Z6 h;exact⟨a0,by rw[e0,e],h⟩
theorem eRD {f:Nat->D->Prop}{ds:List D}(h:(aR λa0=>aD λa1=>aN (f a0 a1)) ds):∃a0 a1,ds=[.ref a0,a1]/\f a0 a1:=by
 obtain⟨a0,_,e0,h⟩:=ZH h;obtain⟨a1,_,e1,h⟩:=Wb h;obtain⟨e,h⟩:=Z6 h;exact⟨a0,a1,by rw[e0,e1,e],h⟩
theorem TX {f:Nat->D->D->Prop}{ds:List D}(h:(aR λa0=>aD λa1=>aD λa2=>aN (f a0 a1 a2)) ds):∃a0 a1 a2,ds=[.ref a0,a1,a2]/\f a0 a1 a2:=by
 obtain⟨a0,_,e0,h⟩:=ZH h;obtain⟨a1,_,e1,h⟩:=Wb h;obtain⟨a2,_,e2,h⟩:=Wb h;obtain⟨e,h⟩:=Z6 h;exact⟨a0,a1,a2,by rw[e0,e1,e2,e],h⟩
theorem G5 {f:Nat->D->D->Int->Int->Int->Int->Int->Prop}{ds:List D}(h:(aR λa0=>aD λa1=>aD λa2=>aP λa3 a4=>aP λa5 a6=>aI λa7=>aN (f a0 a1 a2 a3 a4 a5 a6 a7)) ds):∃a0 a1 a2 a3 a4 a5 a6 a7,ds=[.ref a0,a1,a2,.tup [.int a3,.int a4],.tup [.int a5,.int a6],.int a7]/\f a0 a1 a2 a3 a4 a5 a6 a7:=by
 obtain⟨a0,_,e0,h⟩:=ZH h;obtain⟨a1,_,e1,h⟩:=Wb h;obtain⟨a2,_,e2,h⟩:=Wb h;obtain⟨a3,a4,_,e3,h⟩:=Xr h;obtain⟨a5,a6,_,e5,h⟩:=Xr h;obtain⟨a7,_,e7,h⟩:=ZX h;obtain⟨e,h⟩:=Z6 h;exact⟨a0,a1,a2,a3,a4,a5,a6,a7,by rw[e0,e1,e2,e3,e5,e7,e],h⟩
theorem eRI {f:Nat->Int->Prop}{ds:List D}(h:(aR λa0=>aI λa1=>aN (f a0 a1)) ds):∃a0 a1,ds=[.ref a0,.int a1]/\f a0 a1:=by
 obtain⟨a0,_,e0,h⟩:=ZH h;obtain⟨a1,_,e1,h⟩:=ZX h;obtain⟨e,h⟩:=Z6 h;exact⟨a0,a1,by rw[e0,e1,e],h⟩
theorem eRII {f:Nat->Int->Int->Prop}{ds:List D}(h:(aR λa0=>aI λa1=>aI λa2=>aN (f a0 a1 a2)) ds):∃a0 a1 a2,ds=[.ref a0,.int a1,.int a2]/\f a0 a1 a2:=by
 obtain⟨a0,_,e0,h⟩:=ZH h;obtain⟨a1,_,e1,h⟩:=ZX h;obtain⟨a2,_,e2,h⟩:=ZX h;obtain⟨e,h⟩:=Z6 h;exact⟨a0,a1,a2,by rw[e0,e1,e2,e],h⟩
theorem eRIII {f:Nat->Int->Int->Int->Prop}{ds:List D}(h:(aR λa0=>aI λa1=>aI λa2=>aI λa3=>aN (f a0 a1 a2 a3)) ds):∃a0 a1 a2 a3,ds=[.ref a0,.int a1,.int a2,.int a3]/\f a0 a1 a2 a3:=by
 obtain⟨a0,_,e0,h⟩:=ZH h;obtain⟨a1,_,e1,h⟩:=ZX h;obtain⟨a2,_,e2,h⟩:=ZX h;obtain⟨a3,_,e3,h⟩:=ZX h;obtain⟨e,h⟩:=Z6 h;exact⟨a0,a1,a2,a3,by rw[e0,e1,e2,e3,e],h⟩
theorem eRIIR {f:Nat->Int->Int->Nat->Prop}{ds:List D}(h:(aR λa0=>aI λa1=>aI λa2=>aR λa3=>aN (f a0 a1 a2 a3)) ds):∃a0 a1 a2 a3,ds=[.ref a0,.int a1,.int a2,.ref a3]/\f a0 a1 a2 a3:=by
 obtain⟨a0,_,e0,h⟩:=ZH h;obtain⟨a1,_,e1,h⟩:=ZX h;obtain⟨a2,_,e2,h⟩:=ZX h;obtain⟨a3,_,e3,h⟩:=ZH h;obtain⟨e,h⟩:=Z6 h;exact⟨a0,a1,a2,a3,by rw[e0,e1,e2,e3,e],h⟩
theorem zaN {f:Nat->Int->Nat->Int->Int->Prop}{ds:List D}(h:(aR λa0=>aI λa1=>aR λa2=>aI λa3=>aI λa4=>aN (f a0 a1 a2 a3 a4)) ds):∃a0 a1 a2 a3 a4,ds=[.ref a0,.int a1,.ref a2,.int a3,.int a4]/\f a0 a1 a2 a3 a4:=by
 obtain⟨a0,_,e0,h⟩:=ZH h;obtain⟨a1,_,e1,h⟩:=ZX h;obtain⟨a2,_,e2,h⟩:=ZH h;obtain⟨a3,_,e3,h⟩:=ZX h;obtain⟨a4,_,e4,h⟩:=ZX h;obtain⟨e,h⟩:=Z6 h;exact⟨a0,a1,a2,a3,a4,by rw[e0,e1,e2,e3,e4,e],h⟩
theorem EL {f:Nat->Int->Nat->Nat->Int->Prop}{ds:List D}(h:(aR λa0=>aI λa1=>aR λa2=>aR λa3=>aI λa4=>aN (f a0 a1 a2 a3 a4)) ds):∃a0 a1 a2 a3 a4,ds=[.ref a0,.int a1,.ref a2,.ref a3,.int a4]/\f a0 a1 a2 a3 a4:=by
 obtain⟨a0,_,e0,h⟩:=ZH h;obtain⟨a1,_,e1,h⟩:=ZX h;obtain⟨a2,_,e2,h⟩:=ZH h;obtain⟨a3,_,e3,h⟩:=ZH h;obtain⟨a4,_,e4,h⟩:=ZX h;obtain⟨e,h⟩:=Z6 h;exact⟨a0,a1,a2,a3,a4,by rw[e0,e1,e2,e3,e4,e],h⟩
theorem zb6 {f:Nat->Int->Nat->Nat->Nat->Prop}{ds:List D}(h:(aR λa0=>aI λa1=>aR λa2=>aR λa3=>aR λa4=>aN (f a0 a1 a2 a3 a4)) ds):∃a0 a1 a2 a3 a4,ds=[.ref a0,.int a1,.ref a2,.ref a3,.ref a4]/\f a0 a1 a2 a3 a4:=by
 obtain⟨a0,_,e0,h⟩:=ZH h;obtain⟨a1,_,e1,h⟩:=ZX h;obtain⟨a2,_,e2,h⟩:=ZH h;obtain⟨a3,_,e3,h⟩:=ZH h;obtain⟨a4,_,e4,h⟩:=ZH h;obtain⟨e,h⟩:=Z6 h;exact⟨a0,a1,a2,a3,a4,by rw[e0,e1,e2,e3,e4,e],h⟩
theorem DX {f:Nat->Int->Int->Int->Int->Int->Int->Int->Int->Int->Prop}{ds:List D}(h:(aR λa0=>aP λa1 a2=>aP λa3 a4=>aP λa5 a6=>aP λa7 a8=>aI λa9=>aN (f a0 a1 a2 a3 a4 a5 a6 a7 a8 a9)) ds):∃a0 a1 a2 a3 a4 a5 a6 a7 a8 a9,ds=[.ref a0,.tup [.int a1,.int a2],.tup [.int a3,.int a4],.tup [.int a5,.int a6],.tup [.int a7,.int a8],.int a9]/\f a0 a1 a2 a3 a4 a5 a6 a7 a8 a9:=by
 obtain⟨a0,_,e0,h⟩:=ZH h;obtain⟨a1,a2,_,e1,h⟩:=Xr h;obtain⟨a3,a4,_,e3,h⟩:=Xr h;obtain⟨a5,a6,_,e5,h⟩:=Xr h;obtain⟨a7,a8,_,e7,h⟩:=Xr h;obtain⟨a9,_,e9,h⟩:=ZX h;obtain⟨e,h⟩:=Z6 h;exact⟨a0,a1,a2,a3,a4,a5,a6,a7,a8,a9,by rw[e0,e1,e3,e5,e7,e9,e],h⟩
theorem eRR {f:Nat->Nat->Prop}{ds:List D}(h:(aR λa0=>aR λa1=>aN (f a0 a1)) ds):∃a0 a1,ds=[.ref a0,.ref a1]/\f a0 a1:=by
 obtain⟨a0,_,e0,h⟩:=ZH h;obtain⟨a1,_,e1,h⟩:=ZH h;obtain⟨e,h⟩:=Z6 h;exact⟨a0,a1,by rw[e0,e1,e],h⟩
theorem eRRDI {f:Nat->Nat->D->Int->Prop}{ds:List D}(h:(aR λa0=>aR λa1=>aD λa2=>aI λa3=>aN (f a0 a1 a2 a3)) ds):∃a0 a1 a2 a3,ds=[.ref a0,.ref a1,a2,.int a3]/\f a0 a1 a2 a3:=by
 obtain⟨a0,_,e0,h⟩:=ZH h;obtain⟨a1,_,e1,h⟩:=ZH h;obtain⟨a2,_,e2,h⟩:=Wb h;obtain⟨a3,_,e3,h⟩:=ZX h;obtain⟨e,h⟩:=Z6 h;exact⟨a0,a1,a2,a3,by rw[e0,e1,e2,e3,e],h⟩
theorem eRRI {f:Nat->Nat->Int->Prop}{ds:List D}(h:(aR λa0=>aR λa1=>aI λa2=>aN (f a0 a1 a2)) ds):∃a0 a1 a2,ds=[.ref a0,.ref a1,.int a2]/\f a0 a1 a2:=by
 obtain⟨a0,_,e0,h⟩:=ZH h;obtain⟨a1,_,e1,h⟩:=ZH h;obtain⟨a2,_,e2,h⟩:=ZX h;obtain⟨e,h⟩:=Z6 h;exact⟨a0,a1,a2,by rw[e0,e1,e2,e],h⟩
theorem eRRID {f:Nat->Nat->Int->D->Prop}{ds:List D}(h:(aR λa0=>aR λa1=>aI λa2=>aD λa3=>aN (f a0 a1 a2 a3)) ds):∃a0 a1 a2 a3,ds=[.ref a0,.ref a1,.int a2,a3]/\f a0 a1 a2 a3:=by
 obtain⟨a0,_,e0,h⟩:=ZH h;obtain⟨a1,_,e1,h⟩:=ZH h;obtain⟨a2,_,e2,h⟩:=ZX h;obtain⟨a3,_,e3,h⟩:=Wb h;obtain⟨e,h⟩:=Z6 h;exact⟨a0,a1,a2,a3,by rw[e0,e1,e2,e3,e],h⟩
theorem Cs {f:Nat->Nat->Int->Int->Bool->Prop}{ds:List D}(h:(aR λa0=>aR λa1=>aI λa2=>aI λa3=>aB λa4=>aN (f a0 a1 a2 a3 a4)) ds):∃a0 a1 a2 a3 a4,ds=[.ref a0,.ref a1,.int a2,.int a3,.bl a4]/\f a0 a1 a2 a3 a4:=by
 obtain⟨a0,_,e0,h⟩:=ZH h;obtain⟨a1,_,e1,h⟩:=ZH h;obtain⟨a2,_,e2,h⟩:=ZX h;obtain⟨a3,_,e3,h⟩:=ZX h;obtain⟨a4,_,e4,h⟩:=aB_e h;obtain⟨e,h⟩:=Z6 h;exact⟨a0,a1,a2,a3,a4,by rw[e0,e1,e2,e3,e4,e],h⟩
theorem EB {f:Nat->Nat->Int->Int->Nat->Prop}{ds:List D}(h:(aR λa0=>aR λa1=>aI λa2=>aI λa3=>aR λa4=>aN (f a0 a1 a2 a3 a4)) ds):∃a0 a1 a2 a3 a4,ds=[.ref a0,.ref a1,.int a2,.int a3,.ref a4]/\f a0 a1 a2 a3 a4:=by
 obtain⟨a0,_,e0,h⟩:=ZH h;obtain⟨a1,_,e1,h⟩:=ZH h;obtain⟨a2,_,e2,h⟩:=ZX h;obtain⟨a3,_,e3,h⟩:=ZX h;obtain⟨a4,_,e4,h⟩:=ZH h;obtain⟨e,h⟩:=Z6 h;exact⟨a0,a1,a2,a3,a4,by rw[e0,e1,e2,e3,e4,e],h⟩
theorem Fn {f:Nat->Nat->Int->Nat->Prop}{ds:List D}(h:(aR λa0=>aR λa1=>aI λa2=>aR λa3=>aN (f a0 a1 a2 a3)) ds):∃a0 a1 a2 a3,ds=[.ref a0,.ref a1,.int a2,.ref a3]/\f a0 a1 a2 a3:=by
 obtain⟨a0,_,e0,h⟩:=ZH h;obtain⟨a1,_,e1,h⟩:=ZH h;obtain⟨a2,_,e2,h⟩:=ZX h;obtain⟨a3,_,e3,h⟩:=ZH h;obtain⟨e,h⟩:=Z6 h;exact⟨a0,a1,a2,a3,by rw[e0,e1,e2,e3,e],h⟩
theorem Gp {f:Nat->Nat->Int->Nat->Int->Prop}{ds:List D}(h:(aR λa0=>aR λa1=>aI λa2=>aR λa3=>aI λa4=>aN (f a0 a1 a2 a3 a4)) ds):∃a0 a1 a2 a3 a4,ds=[.ref a0,.ref a1,.int a2,.ref a3,.int a4]/\f a0 a1 a2 a3 a4:=by
 obtain⟨a0,_,e0,h⟩:=ZH h;obtain⟨a1,_,e1,h⟩:=ZH h;obtain⟨a2,_,e2,h⟩:=ZX h;obtain⟨a3,_,e3,h⟩:=ZH h;obtain⟨a4,_,e4,h⟩:=ZX h;obtain⟨e,h⟩:=Z6 h;exact⟨a0,a1,a2,a3,a4,by rw[e0,e1,e2,e3,e4,e],h⟩
theorem Dg {f:Nat->Nat->Int->Nat->Nat->Prop}{ds:List D}(h:(aR λa0=>aR λa1=>aI λa2=>aR λa3=>aR λa4=>aN (f a0 a1 a2 a3 a4)) ds):∃a0 a1 a2 a3 a4,ds=[.ref a0,.ref a1,.int a2,.ref a3,.ref a4]/\f a0 a1 a2 a3 a4:=by
 obtain⟨a0,_,e0,h⟩:=ZH h;obtain⟨a1,_,e1,h⟩:=ZH h;obtain⟨a2,_,e2,h⟩:=ZX h;obtain⟨a3,_,e3,h⟩:=ZH h;obtain⟨a4,_,e4,h⟩:=ZH h;obtain⟨e,h⟩:=Z6 h;exact⟨a0,a1,a2,a3,a4,by rw[e0,e1,e2,e3,e4,e],h⟩
theorem eRRR {f:Nat->Nat->Nat->Prop}{ds:List D}(h:(aR λa0=>aR λa1=>aR λa2=>aN (f a0 a1 a2)) ds):∃a0 a1 a2,ds=[.ref a0,.ref a1,.ref a2]/\f a0 a1 a2:=by
 obtain⟨a0,_,e0,h⟩:=ZH h;obtain⟨a1,_,e1,h⟩:=ZH h;obtain⟨a2,_,e2,h⟩:=ZH h;obtain⟨e,h⟩:=Z6 h;exact⟨a0,a1,a2,by rw[e0,e1,e2,e],h⟩
theorem Uw {f:Nat->Nat->Nat->Int->Prop}{ds:List D}(h:(aR λa0=>aR λa1=>aR λa2=>aI λa3=>aN (f a0 a1 a2 a3)) ds):∃a0 a1 a2 a3,ds=[.ref a0,.ref a1,.ref a2,.int a3]/\f a0 a1 a2 a3:=by
 obtain⟨a0,_,e0,h⟩:=ZH h;obtain⟨a1,_,e1,h⟩:=ZH h;obtain⟨a2,_,e2,h⟩:=ZH h;obtain⟨a3,_,e3,h⟩:=ZX h;obtain⟨e,h⟩:=Z6 h;exact⟨a0,a1,a2,a3,by rw[e0,e1,e2,e3,e],h⟩
theorem zb1 {f:Nat->Nat->Nat->Int->D->Prop}{ds:List D}(h:(aR λa0=>aR λa1=>aR λa2=>aI λa3=>aD λa4=>aN (f a0 a1 a2 a3 a4)) ds):∃a0 a1 a2 a3 a4,ds=[.ref a0,.ref a1,.ref a2,.int a3,a4]/\f a0 a1 a2 a3 a4:=by
 obtain⟨a0,_,e0,h⟩:=ZH h;obtain⟨a1,_,e1,h⟩:=ZH h;obtain⟨a2,_,e2,h⟩:=ZH h;obtain⟨a3,_,e3,h⟩:=ZX h;obtain⟨a4,_,e4,h⟩:=Wb h;obtain⟨e,h⟩:=Z6 h;exact⟨a0,a1,a2,a3,a4,by rw[e0,e1,e2,e3,e4,e],h⟩
theorem UU {f:Nat->Nat->Nat->Int->Int->Prop}{ds:List D}(h:(aR λa0=>aR λa1=>aR λa2=>aI λa3=>aI λa4=>aN (f a0 a1 a2 a3 a4)) ds):∃a0 a1 a2 a3 a4,ds=[.ref a0,.ref a1,.ref a2,.int a3,.int a4]/\f a0 a1 a2 a3 a4:=by
 obtain⟨a0,_,e0,h⟩:=ZH h;obtain⟨a1,_,e1,h⟩:=ZH h;obtain⟨a2,_,e2,h⟩:=ZH h;obtain⟨a3,_,e3,h⟩:=ZX h;obtain⟨a4,_,e4,h⟩:=ZX h;obtain⟨e,h⟩:=Z6 h;exact⟨a0,a1,a2,a3,a4,by rw[e0,e1,e2,e3,e4,e],h⟩
theorem zax {f:Nat->Nat->Nat->Int->Nat->Prop}{ds:List D}(h:(aR λa0=>aR λa1=>aR λa2=>aI λa3=>aR λa4=>aN (f a0 a1 a2 a3 a4)) ds):∃a0 a1 a2 a3 a4,ds=[.ref a0,.ref a1,.ref a2,.int a3,.ref a4]/\f a0 a1 a2 a3 a4:=by
 obtain⟨a0,_,e0,h⟩:=ZH h;obtain⟨a1,_,e1,h⟩:=ZH h;obtain⟨a2,_,e2,h⟩:=ZH h;obtain⟨a3,_,e3,h⟩:=ZX h;obtain⟨a4,_,e4,h⟩:=ZH h;obtain⟨e,h⟩:=Z6 h;exact⟨a0,a1,a2,a3,a4,by rw[e0,e1,e2,e3,e4,e],h⟩
theorem A9 {f:Nat->Nat->Nat->Nat->Int->Nat->Prop}{ds:List D}(h:(aR λa0=>aR λa1=>aR λa2=>aR λa3=>aI λa4=>aR λa5=>aN (f a0 a1 a2 a3 a4 a5)) ds):∃a0 a1 a2 a3 a4 a5,ds=[.ref a0,.ref a1,.ref a2,.ref a3,.int a4,.ref a5]/\f a0 a1 a2 a3 a4 a5:=by
 obtain⟨a0,_,e0,h⟩:=ZH h;obtain⟨a1,_,e1,h⟩:=ZH h;obtain⟨a2,_,e2,h⟩:=ZH h;obtain⟨a3,_,e3,h⟩:=ZH h;obtain⟨a4,_,e4,h⟩:=ZX h;obtain⟨a5,_,e5,h⟩:=ZH h;obtain⟨e,h⟩:=Z6 h;exact⟨a0,a1,a2,a3,a4,a5,by rw[e0,e1,e2,e3,e4,e5,e],h⟩
theorem D3 {f:Nat->Nat->Nat->Nat->Nat->Prop}{ds:List D}(h:(aR λa0=>aR λa1=>aR λa2=>aR λa3=>aR λa4=>aN (f a0 a1 a2 a3 a4)) ds):∃a0 a1 a2 a3 a4,ds=[.ref a0,.ref a1,.ref a2,.ref a3,.ref a4]/\f a0 a1 a2 a3 a4:=by
 obtain⟨a0,_,e0,h⟩:=ZH h;obtain⟨a1,_,e1,h⟩:=ZH h;obtain⟨a2,_,e2,h⟩:=ZH h;obtain⟨a3,_,e3,h⟩:=ZH h;obtain⟨a4,_,e4,h⟩:=ZH h;obtain⟨e,h⟩:=Z6 h;exact⟨a0,a1,a2,a3,a4,by rw[e0,e1,e2,e3,e4,e],h⟩
theorem eSP {f:Str->Int->Int->Prop}{ds:List D}(h:(aS λa0=>aP λa1 a2=>aN (f a0 a1 a2)) ds):∃a0 a1 a2,ds=[.str a0,.tup [.int a1,.int a2]]/\f a0 a1 a2:=by
 obtain⟨a0,_,e0,h⟩:=aS_e h;obtain⟨a1,a2,_,e1,h⟩:=Xr h;obtain⟨e,h⟩:=Z6 h;exact⟨a0,a1,a2,by rw[e0,e1,e],h⟩
def VP:Sd:=λds S Q ex=>(aR λsc=>aN (∃cs:List Int,S[sc]?=some (.frz (cs.map D.int))/\Q (.bl (frS cs)) S)) ds
def W5:Sd:=λds S Q ex=>(aR λsc=>aI λk=>aN (∃cs:List Int,S[sc]?=some (.frz (cs.map D.int))/\(0<=k/\k<=1000)/\∀v:Int,Q (.int v) S)) ds
def Iz:Sd:=λds S Q ex=>(aI λx_0=>aN (∀g:Int,1<=g->g<=1000000->Q (.int g) S)) ds
def Jo:Sd:=λds S Q ex=>(aR λsc=>aI λqi=>aI λg=>aN (∃(cs:List Int)(q:Nat),S[sc]?=some (.frz (cs.map D.int))/\(qi=(q:Nat)/\q<=3)/\(1<=g/\g<=1000000)/\∀(T:Sto)(m:Nat)(B:LI),Pre S T->S.length<=m->T[m]?=some (.lst (B.map frD))->B.length=q->Spn 51 B->(frS cs=false->∀p∈B,p.1.natAbs<=4*g.natAbs/\p.2.natAbs<=4*g.natAbs)->Q (.ref m) T)) ds
def UI:Sd:=λds S Q ex=>(aI λT=>aI λB=>aN ((0<B/\Sz 4000 B)/\∀t b:Int,1<=b->Int.gcd t b=1->t*B=T*b->t.natAbs<=T.natAbs->b<=B->Q (.tup [.int t,.int b]) S)) ds
def L4:Sd:=λds S Q ex=>(aI λx_0=>aN (∀t b:Int,(1<=b/\b<=4)->Int.gcd t b=1->t.natAbs<=4->Q (.tup [.int t,.int b]) S)) ds
def K1:Sd:=λds S Q ex=>(aI λx_0=>aN (∀t b:Int,(1<=b/\b<=10^9)->Int.gcd t b=1->t.natAbs<=10^9->Q (.tup [.int t,.int b]) S)) ds
def Ii:Sd:=λds S Q ex=>(aR λa=>aR λb=>aD λd=>aI λw=>aN (∃(v:Nd)(ns:List Nd)(ws:List Nat),d=v.d/\S[a]?=some (.lst (ns.map Nd.d))/\S[b]?=some (.lst (ws.map wtD))/\a≠b/\w=(v.wt ws:Nat)/\ns.length<900/\ws.length<900/\(∀j:Nat,ns[j]?=some v->Q (.int (j:Int)) S)/\∀i:Int,i=(ns.length:Nat)->Q (.int i) ((S.set a (.lst ((ns++[v]).map Nd.d))).set b (.lst ((ws++[v.wt ws]).map wtD))))) ds
def MV:Sd:=λds S Q ex=>(aR λa=>aR λb=>aI λc=>aI λmost=>aB λfr=>aN (∃(qn:Nat)(ns:List Nd)(ws:List Nat),S[a]?=some (.lst (ns.map Nd.d))/\S[b]?=some (.lst (ws.map wtD))/\a≠b/\Z7 qn ns ws/\1<=ns.length/\ns.length<900/\most<=16/\∀(T:Sto)(ms:List Nd)(us:List Nat),Z7 qn (ns++ms) us->(∃u2:List Nat,us=ws++u2/\∀w∈u2,w=1\/((w:Nat):Int)<=most)->(fr=false->∀v∈ms,v.lit)->ms.length<=1->T[a]?=some (.lst ((ns++ms).map Nd.d))->T[b]?=some (.lst (us.map wtD))->S.length<=T.length->(∀(x:Nat)(o:Ob),x≠a->x≠b->S[x]?=some o->T[x]?=some o)->Q .non T)) ds
def Km:Sd:=λds S Q ex=>(aR λsc=>aR λa=>aR λb=>aN (∃(cs:List Int)(q:Nat)(ns:List Nd)(ws:List Nat),S[sc]?=some (.frz (cs.map D.int))/\S[a]?=some (.lst (ns.map Nd.d))/\S[b]?=some (.lst (ws.map wtD))/\a≠b/\Z7 q ns ws/\(1<=ns.length/\ns.length<=3)/\ns.length=q/\cs.length<=63/\∀(T:Sto)(m:Nat)(ns':List Nd)(ws' rs:List Nat),Z7 q ns' ws'->1<=ns'.length->ns'.length<=60->T[a]?=some (.lst (ns'.map Nd.d))->T[m]?=some (.lst (rs.map λi=>rwD (true,i)))->rs.length=q->(∀i∈rs,i<ns'.length)->S.length<=m->(∀(x:Nat)(o:Ob),x≠a->x≠b->S[x]?=some o->T[x]?=some o)->Q (.tup [.ref a,.ref m]) T)) ds
def ME:Sd:=λds S Q ex=>(aR λa=>aD λd=>aN (∃(q:Nat)(v:Nd)(ns:List Nd)(ws:List Nat),d=v.d/\S[a]?=some (.lst (ns.map Nd.d))/\ns.length<900/\Z7 q ns ws/\v.ok ns.length q/\v.wt ws<=16/\∀(T:Sto)(j:Nat)(ns':List Nd)(ws':List Nat),Gr q a 1 S ns ws T ns' ws'->j<ns'.length->ns'[j]?=some v->ws'.getD j 0=v.wt ws->(∀P,gt (YG P ns') (j:Int)=v.due (YG P ns) P)->Q (.int (j:Int)) T)) ds
def NW:Sd:=λds S Q ex=>(aP λa b=>aP λx y=>aN (Q (.tup [.int (a-x),.int (b+y)]) S)) ds
def JC:Sd:=λds S Q ex=>(aI λx=>aI λn=>aN ((0<=n/\n<=6/\Sz 2000 x)/\Q (.int (x^n.toNat)) S)) ds
def P8:Sd:=λds S Q ex=>(aP λa b=>aI λn=>aI λg=>aN ((1<=n/\n<=6/\Sz 1400 a/\Sz 1400 b/\1<=g/\g<=1000000)/\Q (.tup [.int (Yg a b n.toNat/g^(n.toNat-1)),.int (-(-Y6 a b n.toNat/g^(n.toNat-1)))]) S)) ds
def Rk:Sd:=λds S Q ex=>(aP λa b=>aP λc d=>aN (Q (.tup [.int (a+c),.int (b+d)]) S)) ds
def R7:Sd:=λds S Q ex=>(aP λa b=>aP λc d=>aN (Q (.tup [.int (a-d),.int (b-c)]) S)) ds
def Qm:Sd:=λds S Q ex=>(aP λa b=>aP λc d=>aI λg=>aN ((Sz 6010 a/\Sz 6010 b/\Sz 6010 c/\Sz 6010 d/\1<=g/\g<=1000000)/\Q (.tup [.int (mn4 a b c d/g),.int (-(-mx4 a b c d/g))]) S)) ds
def Iq:Sd:=λds S Q ex=>(aD λd=>aR λw=>aR λp=>aI λg=>aN (∃(v:Nd)(vs bs:LI),d=v.d/\S[w]?=some (.lst (vs.map frD))/\S[p]?=some (.lst (bs.map frD))/\v.ok vs.length bs.length/\Spn 1400 vs/\(1<=g/\g<=1000000)/\Q (frD (v.fw vs bs g)) S)) ds
def P6:Sd:=λds S Q ex=>(aR λsc=>aI λat_=>aI λw=>aN ((w<0/\Q (.tup [.int 0,.int 0]) S)\/(0<=w/\∃cs:List Int,S[sc]?=some (.frz (cs.map D.int))/\(0<=at_/\at_<=100)/\(0<=w/\w<=4)/\∀(T:Sto)(x y:Int),Pre S T->0<=x->0<=y->x<=10^6->y<=10^6->Q (.tup [.int x,.int y]) T))) ds
def Na:Sd:=λds S Q ex=>(aR λnd=>aR λbx=>aI λg=>aR λsc=>aI λw=>aN (∃(ns:List Nd)(ws:List Nat)(bs:LI),S[nd]?=some (.lst (ns.map Nd.d))/\S[bx]?=some (.lst (bs.map frD))/\Z7 bs.length ns ws/\ns.length<=90/\Spn 51 bs/\(1<=g/\g<=1000000)/\(w=-1\/((0<=w/\w<=1)/\∃cs:List Int,S[sc]?=some (.frz (cs.map D.int))))/\∀(T:Sto)(m:Nat)(vs:LI),Pre S T->S.length<=m->T[m]?=some (.lst (vs.map frD))->vs.length=ns.length->SzW ws vs->VT ns bs g vs->(w=-1->vs=Z8 bs g ns)->Q (.ref m) T)) ds
def KD:Sd:=λds S Q ex=>(aR λa=>aI λat'=>aR λb=>aI λg=>aI λparts=>aN (∃(q:Nat)(ns:List Nd)(ws:List Nat)(bs:LI)(j:Nat),S[a]?=some (.lst (ns.map Nd.d))/\S[b]?=some (.lst (bs.map frD))/\a≠b/\Z7 q ns ws/\q=bs.length/\q<=4/\at'=(j:Nat)/\j<ns.length/\ns.length<=70/\(1<=g/\g<=1000000)/\(1<=parts/\parts<=1000)/\Spn 51 bs/\vI 100000 g (gt (Z8 (bs.map ZP) g ns) (j:Int))/\∀(T:Sto)(i:Nat)(ns':List Nd)(ws':List Nat),Gr q a 1 S ns ws T ns' ws'->i<ns'.length->ws'.getD i 0=1->Q (.int (i:Int)) T)) ds
def IP:Sd:=λds S Q ex=>(aR λsc=>aI λqi=>aI λg=>aR λb=>aN (∃(cs:List Int)(q:Nat)(bs:LI),S[sc]?=some (.frz (cs.map D.int))/\(qi=(q:Nat)/\1<=q/\q<=3)/\S[b]?=some (.lst (bs.map frD))/\bs.length=q/\cs.length<=63/\(1<=g/\g<=1000000)/\Spn 51 bs/\(frS cs=false->∀p∈bs,p.1.natAbs<=4*g.natAbs/\p.2.natAbs<=4*g.natAbs)/\∀(T:Sto)(a m:Nat)(ns':List Nd)(ws' rs:List Nat),Z7 q ns' ws'->1<=ns'.length->ns'.length<=60->T[a]?=some (.lst (ns'.map Nd.d))->T[m]?=some (.lst (rs.map λi=>rwD (true,i)))->rs.length=q->(∀i∈rs,i<ns'.length)->S.length<=a->S.length<=m->a≠m->Pre S T->Q (.tup [.ref a,.ref m]) T)) ds
def Ku:Sd:=λds S Q ex=>(aR λr=>aI λc=>aI λmn=>aI λqi=>aN (∃(q n:Nat)(is:List Nat),(qi=(q:Int)/\1<=q/\q<=3)/\(mn=(n:Int)/\1<=n/\n<=900)/\is.length=q/\(∀i∈is,i<n)/\S[r]?=some (.lst (is.map λi=>rwD (true,i)))/\∀rows:List (Bool×Nat),(∀x∈rows,x.2<n)->rows.length<=6->(eqs rows=is\/(eqs rows).length≠q)->Q .non (S.set r (.lst (rows.map rwD))))) ds
def IL:Sd:=λds S Q ex=>(aP λa b=>aI λn=>aI λg=>aN ((2<=n/\n<=6/\a<=b/\Sz 1000 a/\Sz 1000 b/\1<=g/\g<=1000000)/\Q (frD (YW (a,b) n g)) S)) ds
def Jg:Sd:=λds S Q ex=>(aD λd=>aR λw=>aR λs=>aI λli=>aI λg=>aN (∃(v:Nd)(q l:Nat)(vs:LI)(sl:List LI)(ds:List D),d=v.d/\S[w]?=some (.lst (vs.map frD))/\S[s]?=some (.lst ds)/\Z2 S 0 ds sl/\(∀i:Int,inR sl.length i->(sl.getD i.toNat []).length=q/\∀l,l<q->(gs sl i l).1<=(gs sl i l).2/\Sz 1100 (gs sl i l).1/\Sz 1100 (gs sl i l).2)/\(li=(l:Nat)/\l<q)/\v.ok sl.length q/\sl.length<=vs.length/\Spn 1000 vs/\(1<=g/\g<=1000000)/\Q (frD (v.sl vs sl g l)) S)) ds
def J0:Sd:=λds S Q ex=>(aR λa=>aR λw=>aI λqi=>aI λg=>aR λsc=>aN (∃(cs:List Int)(q:Nat)(ns:List Nd)(ws:List Nat)(vs:LI),S[sc]?=some (.frz (cs.map D.int))/\S[a]?=some (.lst (ns.map Nd.d))/\S[w]?=some (.lst (vs.map frD))/\Z7 q ns ws/\SzW ws vs/\vs.length=ns.length/\(qi=(q:Nat)/\1<=q/\q<=3)/\(1<=g/\g<=1000000)/\ns.length<=70/\∀(T:Sto)(m:Nat)(ds:List D)(R:List LI),Pre S T->S.length<=m->T[m]?=some (.lst ds)->Z2 T (m+1) ds R->R.length=ns.length->SlW q ws R->(∀(i:Nat)(v:Nd)(r:LI)(l:Nat)(p:Int×Int),ns[i]?=some v->R[i]?=some r->r[l]?=some p->Ins p (v.sl vs R g l))->Q (.ref m) T)) ds
def Ko:Sd:=λds S Q ex=>(aR λr=>aI λa=>aI λb=>aN (∃(ms:List D)(M:List (List Int)),S[r]?=some (.lst ms)/\YO S ms M/\M.length=3/\(∀r∈M,r.length=3/\∀x∈r,Sz 1101 x)/\(0<=a/\a<=2)/\(0<=b/\b<=2)/\Q (.int (cofS M a.toNat b.toNat)) S)) ds
def IU:Sd:=λds S Q ex=>(aR λmd=>aR λat_=>aI λg=>aN (∃(q:Nat)(R:List LI)(ds:List D)(is:List Nat),S[md]?=some (.lst ds)/\Z2 S 0 ds R/\S[at_]?=some (.lst (is.map wtD))/\is.length=q/\(1<=q/\q<=3)/\(∀i∈is,i<R.length)/\(∀r∈R,r.length=q/\Bd 1100 r)/\(1<=g/\g<=1000000)/\∀(T:Sto)(m:Nat)(ms:List D)(M:List (List Int)),Pre S T->S.length<=m->T[m]?=some (.lst ms)->YO T ms M->M.length=q->(∀r∈M,r.length=q/\∀x∈r,Sz 4000 x)->Q (.ref m) T)) ds
def Kz:Sd:=λds S Q ex=>(aR λsc=>aI λfi=>aR λmd=>aR λat_=>aI λg=>aN (∃(cs:List Int)(q:Nat)(R:List LI)(ds:List D)(is:List Nat),S[sc]?=some (.frz (cs.map D.int))/\(0<=fi/\fi<=100)/\S[md]?=some (.lst ds)/\Z2 S 0 ds R/\S[at_]?=some (.lst (is.map wtD))/\is.length=q/\(1<=q/\q<=3)/\(∀i∈is,i<R.length)/\(∀r∈R,r.length=q/\Bd 1100 r)/\(1<=g/\g<=1000000)/\∀(T:Sto)(m:Nat)(ms:List D)(M:List (List Int)),Pre S T->S.length<=m->T[m]?=some (.lst ms)->YO T ms M->M.length=q->(∀r∈M,r.length=q/\∀x∈r,Sz 4000 x)->Q (.ref m) T)) ds
def Hr:Sd:=λds S Q ex=>(aR λth=>aR λmd=>aR λat_=>aR λbx=>aI λg=>aR λtu=>aN (∃(R:List LI)(ds ms:List D)(is:List Nat)(bs aC:LI)(M:List (List Int)),S[th]?=some (.lst (aC.map frD))/\S[md]?=some (.lst ds)/\Z2 S 0 ds R/\S[at_]?=some (.lst (is.map wtD))/\S[bx]?=some (.lst (bs.map frD))/\S[tu]?=some (.lst ms)/\YO S ms M/\is.length=bs.length/\M.length=bs.length/\(1<=bs.length/\bs.length<=3)/\(∀i∈is,i<R.length/\i<aC.length)/\(∀r∈R,r.length=bs.length/\Bd 2000 r)/\(∀r∈M,r.length=bs.length/\∀x∈r,Sz 4000 x)/\Bd 60 bs/\Bd 2000 aC/\(1<=g/\g<=1000000)/\∀(T:Sto)(m:Nat),Pre S T->S.length<=m->T[m]?=some (.lst ((YC g bs aC R is M).map frD))->Q (.ref m) T)) ds
def JE:Sd:=λds S Q ex=>(aR λdu=>aR λsc=>aN (∃(cs:List Int)(us:LI),S[sc]?=some (.frz (cs.map D.int))/\S[du]?=some (.lst (us.map frD))/\us.length<=4/\∀(T:Sto)(m:Nat)(aE:LI),Pre S T->S.length<=m->T[m]?=some (.lst (aE.map frD))->aE.length=us.length->Q (.ref m) T)) ds
def Im:Sd:=λds S Q ex=>(aR λr=>aI λc=>aN (∃(ds:List D)(L:List (List D)),S[r]?=some (.lst ds)/\XJ S ds L/\(∀k:Nat,ds[k]?≠some (.ref r))/\(1<=L.length/\L.length<=900)/\(∀xs∈L,xs.length<=900)/\∀(T:Sto)(k:Nat)(xs ys:List D)(ds':List D),(∀(x:Nat)(o:Ob),x≠r->S[x]?=some o->T[x]?=some o)->T[r]?=some (.lst ds')->L[k]?=some xs->(ys=xs.drop 1\/ys=xs++xs.take 1)->XJ T ds' (L.set k ys)->Q .non T)) ds
def Rv:Sd:=λds S Q ex=>(aR λl=>aI λm=>aN ((∃(R:List LI)(ds:List D),S[l]?=some (.lst ds)/\Z2 S 0 ds R/\R.length<=900/\Q (.bl ((R.map λr=>decide (((r.length:Nat):Int)=m)).all id)) S)\/∃(R:List (List Int))(ds:List D),S[l]?=some (.lst ds)/\YO S ds R/\R.length<=900/\Q (.bl ((R.map λr=>decide (((r.length:Nat):Int)=m)).all id)) S)) ds
def KR:Sd:=λds S Q ex=>(aR λb=>aN (∃m a1 a2 a3 a4 a5:Nat,S[b]?=some (.lst [.tup [.ref m,.tup [.str "one",.ref a1,.ref a2,.ref a3,.ref a4,.ref a5]]])/\Q (.ref S.length) (S++[.lst []]))) ds
def L1:Sd:=λds S Q ex=>(aR λbx=>aR λb=>aN (∃(bs:LI)(m a1 a2 a3 a4 a5:Nat),S[bx]?=some (.lst (bs.map frD))/\S[b]?=some (.lst [.tup [.ref m,.tup [.str "one",.ref a1,.ref a2,.ref a3,.ref a4,.ref a5]]])/\S[m]?=some (.lst (bs.map frD))/\∀T,Pre S T->Q (.bl true) T)) ds
def J4:Sd:=λds S Q ex=>(aP λa b=>aP λc d=>aN (Q (.bl (decide (c<=a)&&decide (b<=d))) S)) ds
def SJ:Sd:=λds S Q ex=>(aR λm=>aR λn=>aN (∃us vs:LI,S[m]?=some (.lst (us.map frD))/\S[n]?=some (.lst (vs.map frD))/\us.length<=1000/\Q (.bl (YE us vs)) S)) ds
def Ie:Sd:=λds S Q ex=>(aP λa b=>aP λc d=>aN ((IntMulOk a d/\IntMulOk c b)/\Q (.bl (decide (a*d<c*b))) S)) ds
def Qq:Sd:=λds S Q ex=>(aI λt=>aI λb=>aN (CFd 0 b/\Q (.int (-(-t/b))) S)) ds
def Je:Sd:=λds S Q ex=>(aP λa b=>aP λc d=>aI λg=>aN (((IntMulOk c b/\IntMulOk a d)/\¬ c*b<a*d/\IntMulOk a g/\IntMulOk c g/\CFd 0 b/\CFd 0 d)/\Q (.tup [.int (a*g/b),.int (-(-(c*g)/d))]) S)) ds
def Pr (cNumber:Addr)(cUnknown:Addr)(cPlus:Addr)(cMinus:Addr)(cTimes:Addr)(cPower:Addr):Sd:=λds S Q ex=>(aR λn=>aR λw=>aR λp=>aI λg=>aN (∃(x y:Int)(vs bs:LI),S[n]?=some (Nd.ob cNumber cUnknown cPlus cMinus cTimes cPower (Nd.number x y))/\S[w]?=some (.lst (vs.map frD))/\S[p]?=some (.lst (bs.map frD))/\Nd.ok vs.length bs.length (Nd.number x y)/\Spn 1400 vs/\(1<=g/\g<=1000000)/\Q (frD (Nd.fw vs bs g (Nd.number x y))) S)) ds
def Mv (cNumber:Addr)(cUnknown:Addr)(cPlus:Addr)(cMinus:Addr)(cTimes:Addr)(cPower:Addr):Sd:=λds S Q ex=>(aR λn=>aR λw=>aR λp=>aI λg=>aN (∃(k:Int)(vs bs:LI),S[n]?=some (Nd.ob cNumber cUnknown cPlus cMinus cTimes cPower (Nd.unknown k))/\S[w]?=some (.lst (vs.map frD))/\S[p]?=some (.lst (bs.map frD))/\Nd.ok vs.length bs.length (Nd.unknown k)/\Spn 1400 vs/\(1<=g/\g<=1000000)/\Q (frD (Nd.fw vs bs g (Nd.unknown k))) S)) ds
def Um:Sd:=λds S Q ex=>(aP λa b=>aP λc d=>aN (Q (.tup [.int (a+c),.int (b+d)]) S)) ds
def Oe (cNumber:Addr)(cUnknown:Addr)(cPlus:Addr)(cMinus:Addr)(cTimes:Addr)(cPower:Addr):Sd:=λds S Q ex=>(aR λn=>aR λw=>aR λp=>aI λg=>aN (∃(i j:Int)(vs bs:LI),S[n]?=some (Nd.ob cNumber cUnknown cPlus cMinus cTimes cPower (Nd.plus i j))/\S[w]?=some (.lst (vs.map frD))/\S[p]?=some (.lst (bs.map frD))/\Nd.ok vs.length bs.length (Nd.plus i j)/\Spn 1400 vs/\(1<=g/\g<=1000000)/\Q (frD (Nd.fw vs bs g (Nd.plus i j))) S)) ds
def TN:Sd:=λds S Q ex=>(aP λa b=>aP λc d=>aN (Q (.tup [.int (a-d),.int (b-c)]) S)) ds
def Nl (cNumber:Addr)(cUnknown:Addr)(cPlus:Addr)(cMinus:Addr)(cTimes:Addr)(cPower:Addr):Sd:=λds S Q ex=>(aR λn=>aR λw=>aR λp=>aI λg=>aN (∃(i j:Int)(vs bs:LI),S[n]?=some (Nd.ob cNumber cUnknown cPlus cMinus cTimes cPower (Nd.minus i j))/\S[w]?=some (.lst (vs.map frD))/\S[p]?=some (.lst (bs.map frD))/\Nd.ok vs.length bs.length (Nd.minus i j)/\Spn 1400 vs/\(1<=g/\g<=1000000)/\Q (frD (Nd.fw vs bs g (Nd.minus i j))) S)) ds
def Us:Sd:=λds S Q ex=>(aP λa b=>aP λc d=>aI λg=>aN (((IntMulOk a c/\IntMulOk a d/\IntMulOk b c/\IntMulOk b d)/\CFd 0 g)/\∀mn mx:Int,TF a b c d mn mx->Q (.tup [.int (mn/g),.int (-(-mx/g))]) S)) ds
def Mg (cNumber:Addr)(cUnknown:Addr)(cPlus:Addr)(cMinus:Addr)(cTimes:Addr)(cPower:Addr):Sd:=λds S Q ex=>(aR λn=>aR λw=>aR λp=>aI λg=>aN (∃(i j:Int)(vs bs:LI),S[n]?=some (Nd.ob cNumber cUnknown cPlus cMinus cTimes cPower (Nd.times i j))/\S[w]?=some (.lst (vs.map frD))/\S[p]?=some (.lst (bs.map frD))/\Nd.ok vs.length bs.length (Nd.times i j)/\Spn 1400 vs/\(1<=g/\g<=1000000)/\Q (frD (Nd.fw vs bs g (Nd.times i j))) S)) ds
def K9:Sd:=λds S Q ex=>(aI λx=>aI λn=>aN ((0<=n/\n<=6/\Sz 2000 x)/\Q (.int (x^n.toNat)) S)) ds
def MK:Sd:=λds S Q ex=>(aP λa b=>aI λn=>aI λg=>aN ((1<=n/\n<=6/\Sz 1400 a/\Sz 1400 b/\1<=g/\Sz 1400 g)/\∀m M:Int,VB a b n.toNat m M->Q (.tup [.int (m/g^(n.toNat-1)),.int (-(-M/g^(n.toNat-1)))]) S)) ds
def Mn (cNumber:Addr)(cUnknown:Addr)(cPlus:Addr)(cMinus:Addr)(cTimes:Addr)(cPower:Addr):Sd:=λds S Q ex=>(aR λn=>aR λw=>aR λp=>aI λg=>aN (∃(i m:Int)(vs bs:LI),S[n]?=some (Nd.ob cNumber cUnknown cPlus cMinus cTimes cPower (Nd.power i m))/\S[w]?=some (.lst (vs.map frD))/\S[p]?=some (.lst (bs.map frD))/\Nd.ok vs.length bs.length (Nd.power i m)/\Spn 1400 vs/\(1<=g/\g<=1000000)/\Q (frD (Nd.fw vs bs g (Nd.power i m))) S)) ds
def JQ (cNumber:Addr):Sd:=λds S Q ex=>(aR λn=>aD λx=>aD λy=>aN (∃T:Sto,S=T++[.ins cNumber []]/\n=T.length/\Q .non (T++[.ins cNumber [("top",x),("bottom",y)]]))) ds
def I0 (cUnknown:Addr):Sd:=λds S Q ex=>(aR λn=>aD λx=>aN (∃T:Sto,S=T++[.ins cUnknown []]/\n=T.length/\Q .non (T++[.ins cUnknown [("place",x)]]))) ds
def Kj (cPlus:Addr):Sd:=λds S Q ex=>(aR λn=>aD λx=>aD λy=>aN (∃T:Sto,S=T++[.ins cPlus []]/\n=T.length/\Q .non (T++[.ins cPlus [("one",x),("other",y)]]))) ds
def IM (cMinus:Addr):Sd:=λds S Q ex=>(aR λn=>aD λx=>aD λy=>aN (∃T:Sto,S=T++[.ins cMinus []]/\n=T.length/\Q .non (T++[.ins cMinus [("one",x),("other",y)]]))) ds
def Iy (cTimes:Addr):Sd:=λds S Q ex=>(aR λn=>aD λx=>aD λy=>aN (∃T:Sto,S=T++[.ins cTimes []]/\n=T.length/\Q .non (T++[.ins cTimes [("one",x),("other",y)]]))) ds
def KQ (cPower:Addr):Sd:=λds S Q ex=>(aR λn=>aD λx=>aD λy=>aN (∃T:Sto,S=T++[.ins cPower []]/\n=T.length/\Q .non (T++[.ins cPower [("one",x),("many",y)]]))) ds
def MJ (cNumber:Addr)(cUnknown:Addr)(cPlus:Addr)(cMinus:Addr)(cTimes:Addr)(cPower:Addr):Sd:=λds S Q ex=>(aD λd=>aN (∃v:Nd,d=v.d/\Q (.ref S.length) (S++[v.ob cNumber cUnknown cPlus cMinus cTimes cPower]))) ds
def Jd:Sd:=λds S Q ex=>(aR λa=>aR λb=>aI λg=>aR λc=>aN (∃(ns:List Nd)(ws:List Nat)(bs vs:LI),S[a]?=some (.lst (ns.map Nd.d))/\S[b]?=some (.lst (bs.map frD))/\S[c]?=some (.lst (vs.map frD))/\Z7 bs.length ns ws/\vs.length<=ns.length/\ns.length<=900/\Spn 1400 vs/\(1<=g/\g<=1000000)/\Q (.bl (YE ((ns.take vs.length).map λv=>v.fw vs bs g) vs)) S)) ds
def Jm:Sd:=λds S Q ex=>(aR λnd=>aR λbx=>aI λg=>aR λm=>aN (∃(ns:List Nd)(ws:List Nat)(bs vs:LI),S[nd]?=some (.lst (ns.map Nd.d))/\S[bx]?=some (.lst (bs.map frD))/\S[m]?=some (.lst (vs.map frD))/\Z7 bs.length ns ws/\ns.length<=900/\Spn 1400 vs/\(1<=g/\g<=1000000)/\vs.length=ns.length/\Q (.bl (YE ((ns.take vs.length).map λv=>v.fw vs bs g) vs)) S)) ds
def LZ:Sd:=λds S Q ex=>(aS λw=>aP λa b=>aN ((w="zero"/\Q (.bl (decide (a=0)&&decide (b=0))) S)\/(w="least"/\Q (.bl (decide (0<=a))) S))) ds
def KH:Sd:=λds S Q ex=>(aR λr=>aR λs=>aN (∃(rows:List (Bool×Nat))(vs:LI),S[r]?=some (.lst (rows.map rwD))/\S[s]?=some (.lst (vs.map frD))/\rows.length<=900/\(∀r∈rows,r.2<vs.length)/\Q (.bl (Xw rows vs)) S)) ds
def JB:Sd:=λds S Q ex=>(aP λa b=>aN (Q (.int ((a+b)/2)) S)) ds
def JN:Sd:=λds S Q ex=>(aR λs=>aN (∃vs:LI,S[s]?=some (.lst (vs.map frD))/\vs.length<=900/\Q (.ref S.length) (S++[.lst (vs.map λp=>.int (mid p))]))) ds
def LF:Sd:=λds S Q ex=>(aR λb=>aN (∃vs:LI,S[b]?=some (.lst (vs.map frD))/\vs.length<=900/\∀(T:Sto)(m:Nat),Pre S T->S.length<=m->T[m]?=some (.lst ((vs.map ZP).map frD))->Q (.ref m) T)) ds
def MA (cNumber:Addr)(cUnknown:Addr)(cPlus:Addr)(cMinus:Addr)(cTimes:Addr)(cPower:Addr):Sd:=λds S Q ex=>(aR λn=>aR λw=>aR λs=>aI λqi=>aI λg=>aN (∃(x y:Int)(q:Nat)(vs:LI)(sl:List LI)(ds:List D),S[n]?=some (Nd.ob cNumber cUnknown cPlus cMinus cTimes cPower (Nd.number x y))/\S[w]?=some (.lst (vs.map frD))/\S[s]?=some (.lst ds)/\Z2 S 0 ds sl/\(∀i:Int,inR sl.length i->(sl.getD i.toNat []).length=q/\∀l,l<q->(gs sl i l).1<=(gs sl i l).2/\Sz 1100 (gs sl i l).1/\Sz 1100 (gs sl i l).2)/\(qi=(q:Nat)/\q<=900)/\Nd.ok sl.length q (Nd.number x y)/\sl.length<=vs.length/\Spn 1000 vs/\(1<=g/\g<=1000000)/\∀(T:Sto)(mm:Nat),Pre S T->S.length<=mm->T[mm]?=some (.lst ((Yv vs sl g q (Nd.number x y)).map frD))->Q (.ref mm) T)) ds
def M5 (cNumber:Addr)(cUnknown:Addr)(cPlus:Addr)(cMinus:Addr)(cTimes:Addr)(cPower:Addr):Sd:=λds S Q ex=>(aR λn=>aR λw=>aR λs=>aI λqi=>aI λg=>aN (∃(k:Int)(q:Nat)(vs:LI)(sl:List LI)(ds:List D),S[n]?=some (Nd.ob cNumber cUnknown cPlus cMinus cTimes cPower (Nd.unknown k))/\S[w]?=some (.lst (vs.map frD))/\S[s]?=some (.lst ds)/\Z2 S 0 ds sl/\(∀i:Int,inR sl.length i->(sl.getD i.toNat []).length=q/\∀l,l<q->(gs sl i l).1<=(gs sl i l).2/\Sz 1100 (gs sl i l).1/\Sz 1100 (gs sl i l).2)/\(qi=(q:Nat)/\q<=900)/\Nd.ok sl.length q (Nd.unknown k)/\sl.length<=vs.length/\Spn 1000 vs/\(1<=g/\g<=1000000)/\∀(T:Sto)(mm:Nat),Pre S T->S.length<=mm->T[mm]?=some (.lst ((Yv vs sl g q (Nd.unknown k)).map frD))->Q (.ref mm) T)) ds
def LX (cPlus:Addr):Sd:=λds S Q ex=>(aR λx_0=>aD λx_1=>aD λx_2=>aP λa b=>aP λc d=>aI λx_7=>aN (Q (.tup [.int (a+c),.int (b+d)]) S)) ds
def OY (cNumber:Addr)(cUnknown:Addr)(cPlus:Addr)(cMinus:Addr)(cTimes:Addr)(cPower:Addr):Sd:=λds S Q ex=>(aR λn=>aR λw=>aR λs=>aI λqi=>aI λg=>aN (∃(i j:Int)(q:Nat)(vs:LI)(sl:List LI)(ds:List D),S[n]?=some (Nd.ob cNumber cUnknown cPlus cMinus cTimes cPower (Nd.plus i j))/\S[w]?=some (.lst (vs.map frD))/\S[s]?=some (.lst ds)/\Z2 S 0 ds sl/\(∀i:Int,inR sl.length i->(sl.getD i.toNat []).length=q/\∀l,l<q->(gs sl i l).1<=(gs sl i l).2/\Sz 1100 (gs sl i l).1/\Sz 1100 (gs sl i l).2)/\(qi=(q:Nat)/\q<=900)/\Nd.ok sl.length q (Nd.plus i j)/\sl.length<=vs.length/\Spn 1000 vs/\(1<=g/\g<=1000000)/\∀(T:Sto)(mm:Nat),Pre S T->S.length<=mm->T[mm]?=some (.lst ((Yv vs sl g q (Nd.plus i j)).map frD))->Q (.ref mm) T)) ds
def Jk (cMinus:Addr):Sd:=λds S Q ex=>(aR λx_0=>aD λx_1=>aD λx_2=>aP λa b=>aP λc d=>aI λx_7=>aN (Q (.tup [.int (a-d),.int (b-c)]) S)) ds
def Oa (cNumber:Addr)(cUnknown:Addr)(cPlus:Addr)(cMinus:Addr)(cTimes:Addr)(cPower:Addr):Sd:=λds S Q ex=>(aR λn=>aR λw=>aR λs=>aI λqi=>aI λg=>aN (∃(i j:Int)(q:Nat)(vs:LI)(sl:List LI)(ds:List D),S[n]?=some (Nd.ob cNumber cUnknown cPlus cMinus cTimes cPower (Nd.minus i j))/\S[w]?=some (.lst (vs.map frD))/\S[s]?=some (.lst ds)/\Z2 S 0 ds sl/\(∀i:Int,inR sl.length i->(sl.getD i.toNat []).length=q/\∀l,l<q->(gs sl i l).1<=(gs sl i l).2/\Sz 1100 (gs sl i l).1/\Sz 1100 (gs sl i l).2)/\(qi=(q:Nat)/\q<=900)/\Nd.ok sl.length q (Nd.minus i j)/\sl.length<=vs.length/\Spn 1000 vs/\(1<=g/\g<=1000000)/\∀(T:Sto)(mm:Nat),Pre S T->S.length<=mm->T[mm]?=some (.lst ((Yv vs sl g q (Nd.minus i j)).map frD))->Q (.ref mm) T)) ds
def Kf (cTimes:Addr):Sd:=λds S Q ex=>(aR λx_0=>aP λx1 x2=>aP λy1 y2=>aP λa b=>aP λc d=>aI λg=>aN ((Sz 1400 x1/\Sz 1400 x2/\Sz 1400 y1/\Sz 1400 y2/\Sz 1400 a/\Sz 1400 b/\Sz 1400 c/\Sz 1400 d/\1<=g/\g<=1000000)/\Q (.tup [.int ((Yw (x1,x2) (c,d) g).1+(Yw (y1,y2) (a,b) g).1),.int ((Yw (x1,x2) (c,d) g).2+(Yw (y1,y2) (a,b) g).2)]) S)) ds
def NZ (cNumber:Addr)(cUnknown:Addr)(cPlus:Addr)(cMinus:Addr)(cTimes:Addr)(cPower:Addr):Sd:=λds S Q ex=>(aR λn=>aR λw=>aR λs=>aI λqi=>aI λg=>aN (∃(i j:Int)(q:Nat)(vs:LI)(sl:List LI)(ds:List D),S[n]?=some (Nd.ob cNumber cUnknown cPlus cMinus cTimes cPower (Nd.times i j))/\S[w]?=some (.lst (vs.map frD))/\S[s]?=some (.lst ds)/\Z2 S 0 ds sl/\(∀i:Int,inR sl.length i->(sl.getD i.toNat []).length=q/\∀l,l<q->(gs sl i l).1<=(gs sl i l).2/\Sz 1100 (gs sl i l).1/\Sz 1100 (gs sl i l).2)/\(qi=(q:Nat)/\q<=900)/\Nd.ok sl.length q (Nd.times i j)/\sl.length<=vs.length/\Spn 1000 vs/\(1<=g/\g<=1000000)/\∀(T:Sto)(mm:Nat),Pre S T->S.length<=mm->T[mm]?=some (.lst ((Yv vs sl g q (Nd.times i j)).map frD))->Q (.ref mm) T)) ds
def Ib:Sd:=λds S Q ex=>(aP λa b=>aI λm=>aN ((IntMulOk a m/\IntMulOk b m)/\Q (.tup [.int (if b*m<a*m then b*m else a*m),.int (if b*m > a*m then b*m else a*m)]) S)) ds
def MH (cNumber:Addr)(cUnknown:Addr)(cPlus:Addr)(cMinus:Addr)(cTimes:Addr)(cPower:Addr):Sd:=λds S Q ex=>(aR λn=>aR λw=>aR λs=>aI λqi=>aI λg=>aN (∃(i m:Int)(q:Nat)(vs:LI)(sl:List LI)(ds:List D),S[n]?=some (Nd.ob cNumber cUnknown cPlus cMinus cTimes cPower (Nd.power i m))/\S[w]?=some (.lst (vs.map frD))/\S[s]?=some (.lst ds)/\Z2 S 0 ds sl/\(∀i:Int,inR sl.length i->(sl.getD i.toNat []).length=q/\∀l,l<q->(gs sl i l).1<=(gs sl i l).2/\Sz 1100 (gs sl i l).1/\Sz 1100 (gs sl i l).2)/\(qi=(q:Nat)/\q<=900)/\Nd.ok sl.length q (Nd.power i m)/\sl.length<=vs.length/\Spn 1000 vs/\(1<=g/\g<=1000000)/\∀(T:Sto)(mm:Nat),Pre S T->S.length<=mm->T[mm]?=some (.lst ((Yv vs sl g q (Nd.power i m)).map frD))->Q (.ref mm) T)) ds
def Ky:Sd:=λds S Q ex=>(aR λa=>aR λb=>aI λg=>aR λc=>aR λd=>aN (∃(ns:List Nd)(ws:List Nat)(bs vs:LI)(R:List LI)(ds:List D),S[a]?=some (.lst (ns.map Nd.d))/\S[b]?=some (.lst (bs.map frD))/\S[c]?=some (.lst (vs.map frD))/\S[d]?=some (.lst ds)/\Z2 S 0 ds R/\Z7 bs.length ns ws/\vs.length=ns.length/\bs.length<=900/\ns.length<=900/\R.length<=900/\Spn 1000 vs/\(1<=g/\g<=1000000)/\(((R.length≠ns.length\/∃r∈R,r.length≠bs.length)/\Q (.bl false) S)\/(R.length=ns.length/\SlW bs.length ws R/\Q (.bl ((slB vs R g bs.length ns).all id)) S)))) ds
def Ik:Sd:=λds S Q ex=>(aR λr=>aN (∃rows:List (Bool×Nat),S[r]?=some (.lst (rows.map rwD))/\rows.length<=900/\Q (.ref S.length) (S++[.lst ((eqs rows).map wtD)]))) ds
def Jb:Sd:=λds S Q ex=>(aR λl=>aI λm=>aN (∃(M:List (List Int))(ds:List D)(n:Nat),S[l]?=some (.lst ds)/\YO S ds M/\m=(n:Int)/\M.length=n/\n<=900/\Q (.bl ((M.map λr=>decide (((r.length:Nat):Int)=((n:Nat):Int))).all id)) S)) ds
def Q1:Sd:=λds S Q ex=>(aR λa=>aR λb=>aI λg=>aN (∃(us vs:LI),S[a]?=some (.lst (us.map frD))/\S[b]?=some (.lst (vs.map frD))/\us.length<=60/\Bd 20000 us/\Bd 20000 vs/\(1<=g/\g<=1000000)/\Q (frD (sumP g us vs)) S)) ds
def Kv:Sd:=λds S Q ex=>(aI λk=>aI λc=>aR λt=>aR λs=>aI λg=>aN (∃(q kn cn:Nat)(ts:LI)(R:List LI)(ds:List D),k=(kn:Nat)/\c=(cn:Nat)/\S[t]?=some (.lst (ts.map frD))/\S[s]?=some (.lst ds)/\Z2 S 0 ds R/\(∀r∈R,r.length=q/\Bd 2000 r)/\cn<q/\ts.length<=60/\R.length<=60/\Bd 20000 ts/\(1<=g/\g<=1000000)/\Q (frD (YJ g kn cn ts R)) S)) ds
def LY:Sd:=λds S Q ex=>(aI λki=>aR λb=>aI λg=>aR λe=>aR λt=>aR λs=>aN (∃(k:Nat)(box aC:LI)(es:List Int)(R:List LI)(ds:List D),ki=(k:Nat)/\k<box.length/\S[e]?=some (.lst (es.map D.int))/\es.length<=4/\(∀x∈es,Sz 4000 x)/\S[b]?=some (.lst (box.map frD))/\S[t]?=some (.lst (aC.map frD))/\S[s]?=some (.lst ds)/\Z2 S 0 ds R/\(∀r∈R,r.length=box.length/\Bd 2000 r)/\(1<=box.length/\box.length<=4)/\R.length<=4/\aC.length<=4/\Bd 60 box/\Bd 2000 aC/\(1<=g/\g<=1000000)/\Q (frD (Wu g box aC R k es)) S)) ds
def LV:Sd:=λds S Q ex=>(aR λb=>aI λg=>aR λu=>aR λt=>aR λs=>aN (∃(box aC:LI)(M:List (List Int))(ms:List D)(R:List LI)(ds:List D),S[u]?=some (.lst ms)/\YO S ms M/\M.length=box.length/\(∀r∈M,r.length<=4/\∀x∈r,Sz 4000 x)/\S[b]?=some (.lst (box.map frD))/\S[t]?=some (.lst (aC.map frD))/\S[s]?=some (.lst ds)/\Z2 S 0 ds R/\(∀r∈R,r.length=box.length/\Bd 2000 r)/\(1<=box.length/\box.length<=4)/\R.length<=4/\aC.length<=4/\Bd 60 box/\Bd 2000 aC/\(1<=g/\g<=1000000)/\Q (.ref S.length) (S++[.lst ((M.mapIdx λk es=>Wu g box aC R k es).map frD)]))) ds
def JS:Sd:=λds S Q ex=>(aR λe=>aR λp=>aN (∃(xs:List D)(is:List Nat),S[e]?=some (.lst xs)/\S[p]?=some (.lst (is.map wtD))/\is.length<=900/\(∀i∈is,i<xs.length)/\Q (.ref S.length) (S++[.lst (is.map λi=>xs.getD i .non)]))) ds
def JH:Sd:=λds S Q ex=>(aP λa b=>aP λc d=>aN (Q (.bl (decide (c<a)&&decide (b<d))) S)) ds
def KP:Sd:=λds S Q ex=>(aR λm=>aR λn=>aN (∃us vs:LI,S[m]?=some (.lst (us.map frD))/\S[n]?=some (.lst (vs.map frD))/\us.length<=1000/\Q (.bl (XR us vs)) S)) ds
def Ip:Sd:=λds S Q ex=>(aR λrw=>aR λbx=>aI λg=>aD λd=>aN ((∃(rows:List (Bool×Nat))(bs aE vs aC:LI)(M:List (List Int))(R:List LI),S[rw]?=some (.lst (rows.map rwD))/\rows.length<=900/\S[bx]?=some (.lst (bs.map frD))/\Wi S d M aE vs aC R/\M.length=bs.length/\bs.length<=4/\((eqs rows).length≠bs.length\/∃r∈M,r.length≠bs.length)/\∀T,Pre S T->Q (.bl false) T)\/(∃(rows:List (Bool×Nat))(bs aE vs aC:LI)(M:List (List Int))(R:List LI),S[rw]?=some (.lst (rows.map rwD))/\rows.length<=900/\S[bx]?=some (.lst (bs.map frD))/\Wi S d M aE vs aC R/\(∀r∈rows,r.2<R.length/\r.2<aC.length)/\(eqs rows).length=bs.length/\M.length=bs.length/\(∀r∈M,r.length=bs.length/\∀x∈r,Sz 4000 x)/\aE.length=bs.length/\(∀r∈R,r.length=bs.length/\Bd 2000 r)/\(1<=bs.length/\bs.length<=4)/\Bd 60 bs/\Bd 2000 aC/\(1<=g/\g<=1000000)/\∀T,Pre S T->Q (.bl (YE (YC g bs aC R (eqs rows) M) aE&&XR aE bs)) T))) ds
def KC:Sd:=λds S Q ex=>(aR λnd=>aR λrw=>aR λbx=>aI λg=>aD λd=>aN (∃ans:Bool,Vz S nd rw bx g d ans/\∀T,Pre S T->Q (.bl ans) T)) ds
def L9:Sd:=λds S Q ex=>(aR λnd=>aR λrw=>aI λg=>aR λb=>aI λn=>aN (∃(m:Nat)(d:D)(ans:Bool),n=0/\S[b]?=some (.lst [.tup [.ref m,d]])/\Vz S nd rw m g d ans/\∀T,Pre S T->Q (.bl ans) T)) ds
def J9:Sd:=λds S Q ex=>(aR λnd=>aR λrw=>aR λbx=>aI λg=>aR λb=>aN (∃(bs:LI)(m:Nat)(d:D)(ans:Bool),S[bx]?=some (.lst (bs.map frD))/\S[m]?=some (.lst (bs.map frD))/\S[b]?=some (.lst [.tup [.ref m,d]])/\Vz S nd rw m g d ans/\∀T,Pre S T->Q (.bl ans) T)) ds
def JZ:Sd:=λds S Q ex=>(aR λf=>aR λb=>aN (∃us vs:LI,S[f]?=some (.lst (us.map frD))/\S[b]?=some (.lst (vs.map frD))/\us.length=vs.length/\vs.length<=900/\Q (.bl (XR us vs)) S)) ds
def Js:Sd:=λds S Q ex=>(aR λrw=>aR λv=>aR λdu=>aR λne=>aR λbx=>aN (∃(rows:List (Bool×Nat))(vs us aE bs:LI),S[rw]?=some (.lst (rows.map rwD))/\S[v]?=some (.lst (vs.map frD))/\S[du]?=some (.lst (us.map frD))/\S[ne]?=some (.lst (aE.map frD))/\S[bx]?=some (.lst (bs.map frD))/\rows.length<=900/\(∀r∈rows,r.2<vs.length)/\us.length=bs.length/\aE.length=bs.length/\bs.length<=900/\Q (.bl (Xw rows vs&&(YE us aE&&(decide ((eqs rows).length=bs.length)&&XR aE bs)))) S)) ds
section
variable {P:Program}{w:World}{K:Fg}{mg:Str->Option Value}{base:Heap}
def zaP  (O4:Df K mg q40 O3 WZ)(ZA:mg "len"=none):Fk P w K mg base 1 q40 WZ VP:=
 O4.mk' (ZD (k:=0) O4.F Aq (λ_ _ _ _=>nR λ_=>nN:Ln (VP) 1) λ_ _ _ _ _ _ hr=>⟨_,(Zh (Zt (W3 (YK Qa (ZM (ZI ZW) rfl ZA Boot.«len» (Za (dv 0) Ze)) Zd (ZE _)) (WX (YK (ZT hr) (Zf ZY (Zz (dv 0) Zd) Zd) Zd (ZE _)))))),λds S Q ex h=>by
  replace h:=eR h;obtain⟨sc,rfl,h⟩:=h;obtain⟨cs,hs,h⟩:=h;refine Rf hs ?_;rw[zA];unfold frS at h;refine ifD (λc=>?_) (λc=>?_)
  ·have c':0<cs.length:=by lia
   refine Zu (o:=.frz (cs.map D.int)) hs (R3 (by decide) (by lia)) ?_;rw[decide_eq_true c',Bool.true_and] at h;exact h
  ·rw[decide_eq_false (show ¬ 0<cs.length by lia),xM] at h;exact h⟩)
def Au  (PK:Df K mg q29 LC Wc)(Xp:Fk P w K mg base 1 q40 WZ VP)(ZA:mg "len"=none):Fk P w K mg base 2 q29 Wc W5:=
 PK.mk' (ZD (k:=1) PK.F Sl (λ_ _ _ _=>nR λ_=>nI λ_=>nN:Ln (W5) 2) λ_ _ _ _ _ _ hr=>⟨_,(Zg (ZN (Xq (Zk Xp hr (Za (dv 0) Ze))) (Zg (ZN (ZL (ZT hr) (dv 1) Zd (ZE _)) (Zh (Zt (Zf Z9 (Zz (dv 0) Zd) Zd))) ZO) (Zg (ZN (ZL X8 (dv 1) (ZM (ZI ZW) rfl ZA Boot.«len» (Za (dv 0) Ze)) (ZE _)) (Zh (Zt (Zz (dv 0) (dv 1)))) ZO) (Zh (Zt Zd)))) ZO) (Zg (Zw (i:=2) Sl.nd Zd) (Zg (ZN (ZL Qa (ZM (ZI ZW) rfl ZA Boot.«len» (Za (dv 0) Ze)) Zd (ZE _)) (Zh (Zw (i:=2) Sl.nd (Zf Yz (Zz (dv 0) (Zf Yz (dv 1) (ZM (ZI ZW) rfl ZA Boot.«len» (Za (dv 0) Ze)))) (Zf Xh Zd Zd)))) ZO) (Zg (Zw (i:=3) Sl.nd (Zf Yz (Zf ZV (Zf ZQ (Zf ZQ (Zf ZQ (dv 2) (Zf ZV (Zf ZV Zd (dv 1)) (dv 1))) (Zf ZV Zd (dv 1))) Zd) Zd) Zd)) (Zg (Zw (i:=4) Sl.nd (Zf Yz (Zf ZQ (Zf ZV (dv 3) (dv 3)) (dv 1)) Zd)) (Zh (Zt (Zf Yz (Zf ZQ (Zf ZV (dv 4) Zd) (dv 3)) Zd)))))))),λds S Q ex h=>by
  replace h:=eRI h;obtain⟨sc,k,rfl,h⟩:=h;obtain⟨cs,hs,⟨k0,k1⟩,h⟩:=h;refine⟨cs,hs,?_⟩;cases ef:frS cs
  ·refine YR ?_
   try dsimp only[JX]
   refine VI (λdl2 S2=>S=S2/\∃c:Int,dl2=[some (.ref sc),some (.int k),some (.int c),none,none]) (λnx hn=>?_) ?_
   ·refine Rf hs ?_;rw[zA];refine ifD (λc=>?_) (λc=>?_)
    ·refine Rf hs ?_;rw[zA];have r:=Yl (a:=k) c;refine⟨c,?_⟩;refine Zu (o:=.frz (cs.map D.int)) hs (R3 r.1 r.2) ?_;exact⟨show (0:Int)<10^Int.toNat 18 by decide,hn _ _ ⟨rfl,_,rfl⟩⟩
    ·exact hn _ _ ⟨rfl,_,rfl⟩
   ·rintro dl2 S2 ⟨rfl,c,rfl⟩;have sk:Sz 10 k:=Sz.of 1000 (by lia)
    have s7:Sz 14 (7*k):=Sz.of 10000 (by lia)
    have r1:=Yl (a:=(c+7*k*k+13*k+5)*48271) (b:=2147483647) (by decide)
    have sf:Sz 32 ((c+7*k*k+13*k+5)*48271%2147483647):=Sz.of 2147483647 (by lia);refine⟨IntMulOk.of_left (by decide),ZU s7 sk,IntMulOk.of_left (by decide),IntMulOk.of_right (by decide),show (0:Int)<2147483647 by decide,?_⟩;refine⟨ZU sf sf,show (0:Int)<1000000007 by decide,?_⟩;refine⟨IntMulOk.of_right (by decide),show (0:Int)<2147483629 by decide,?_⟩;exact h _
  ·refine Xm ?_;have hc:0<cs.length:=by
    unfold frS at ef;simp only[Bool.and_eq_true,decide_eq_true_eq] at ef;exact ef.1
   refine ifD (λc=>?_) (λc=>?_)
   ·refine Zu (o:=.frz (cs.map D.int)) hs (R3 (by decide) (by lia)) ?_;exact h _
   ·refine Rf hs ?_;rw[zA];refine ifD (λc2=>?_) (λc2=>?_)
    ·refine Zu (o:=.frz (cs.map D.int)) hs (R3 k0 c2) ?_;exact h _
    ·exact h _⟩)
def C1  (Mz:Df K mg q79 QV Sg):Fk P w K mg base 1 q79 Sg Iz:=
 Mz.mk' (ZD (k:=0) Mz.F BL (λ_ _ _ _=>nI λ_=>nN:Ln (Iz) 1) λ_ _ _ _ _ _ hr=>⟨_,(Zg (ZN (ZL (ZT hr) (Zf ZY (dv 0) Zd) Zd (ZE _)) (Zh (Zt (Zf ZQ Zd (Zf ZY (Zf Z9 (dv 0) Zd) Zd)))) ZO) (Zg (ZN (ZL (ZT hr) (Zf ZY (dv 0) Zd) Zd (ZE _)) (Zh (Zt (Zf ZQ Zd (Zf ZY (Zf Z9 (dv 0) Zd) Zd)))) ZO) (Zh (Zt Zd)))),λds S Q ex h=>by
  replace h:=eI h;obtain⟨c,rfl,h⟩:=h;refine ifD (λe=>?_) (λe=>?_)
  ·exact h _ (by lia) (by lia)
  ·refine ifD (λe=>?_) (λe=>?_)
   ·exact h _ (by lia) (by lia)
   ·exact h _ (by decide) (by decide)⟩)
def za0  (Pf:Df K mg q80 Lg SS)(Xp:Fk P w K mg base 1 q40 WZ VP)(Yd:Fk P w K mg base 2 q29 Wc W5)(ZK:mg q87=none):Fk P w K mg base 3 q80 SS Jo:=
 Pf.mk' (ZD (k:=2) Pf.F Vg (λ_ _ _ _=>nR λ_=>nI λ_=>nI λ_=>nN:Ln (Jo) 3) λ_ _ _ _ _ _ hr=>⟨_,(Zg (Zw (i:=3) Vg.nd (Yo Ze)) (Zg (Y3 (i:=4) PassesOwn.never rfl Vg.nd rfl (Or.inl rfl) rfl ZK (Za (dv 1) Ze) (Zg (Zw (i:=5) Vg.nd (Zk Yd hr (Za (dv 0) (Za (Zf ZQ Zd (dv 4)) Ze)))) (Zg (Zw (i:=6) Vg.nd (Zf ZQ Zd (Zf Yz (Zk Yd hr (Za (dv 0) (Za (Zf ZQ Zd (dv 4)) Ze))) (Zf ZV Zd (dv 2))))) (Zg (Zw (i:=7) Vg.nd (Zf Yr (Zf Yz (Zf Z9 (dv 5) Zd) (Zf ZV Zd (dv 2))) (Zf ZV Zd (dv 2)))) (Zg (ZN (ZL (ZT hr) (Zf ZY (dv 5) Zd) Zd (ZE _)) (Zh (Zw (i:=7) Vg.nd (WK WA (Zf Z9 (dv 6) Zd)))) ZO) (Zg (ZN (Xq (Zk Xp hr (Za (dv 0) Ze))) (Zg (Zw (i:=7) Vg.nd (Zf ZQ (Zf Yr (Zf Yz (dv 5) (Zf Yr (Zf ZV Zd (Zf Xh Zd Zd)) Zd)) (Zf Xh Zd Zd)) Zd)) (Zh (Zw (i:=6) Vg.nd (Zf Yz (Zk Yd hr (Za (dv 0) (Za (Zf ZQ Zd (dv 4)) Ze))) (Zf Yr (Zf Xh Zd Zd) (dv 7)))))) ZO) (Zh (Yj (YX (dv 3) (ZR (Za (dv 7) (Za (Zf ZQ (dv 7) (dv 6)) Ze)))))))))))) (Zh (Zt (dv 3))))),λds S Q ex h=>by
  replace h:=eRII h;obtain⟨sc,qi,g,rfl,h⟩:=h;obtain⟨cs,q,hsc,⟨rfl,q3⟩,hg,h⟩:=h;refine⟨⟨by lia,by lia⟩,λk dl' S'=>k<=q/\Pre S S'/\(∃B:LI,S'[S.length]?=some (.lst (B.map frD))/\B.length=k/\Spn 51 B/\(frS cs=false->∀p∈B,p.1.natAbs<=4*g.natAbs/\p.2.natAbs<=4*g.natAbs))/\∃u1 u2 u3 u4:Option D,dl'=[some (.ref sc),some (.int (q:Nat)),some (.int g),some (.ref S.length),u1,u2,u3,u4],⟨zO _,Pre.refl.push,⟨[],Zy _ _,rfl,λp hp=>by simp at hp,λ_ p hp=>by simp at hp⟩,_,_,_,_,rfl⟩,?_⟩;rintro k dl' S' ⟨hk,pr,⟨B,hB,lB,sB,zB⟩,u1,u2,u3,u4,rfl⟩;rw[zH];refine YD (λc=>?_) (λc=>?_)
  ·have hs:=pr _ _ hsc
   have m2:∀z:Int,IntMulOk 2 z:=λz=>IntMulOk.of_left (by decide)
   have m4:∀z:Int,IntMulOk 4 z:=λz=>IntMulOk.of_left (by decide)
   have e15:(10:Int)^Int.toNat 15=1000000000000000:=rfl
   try dsimp only
   refine EO (λdl2 S2=>S'=S2/\∃x lo wi:Int,(0<=wi/\wi<=2*g/\-(2*g)<=lo/\lo<=2*g)/\dl2=[some (.ref sc),some (.int (q:Nat)),some (.int g),some (.ref S.length),some (.int (k:Nat)),some (.int x),some (.int wi),some (.int lo)]) (λnx hn=>?_) ?_
   ·refine⟨cs,hs,⟨show (0:Int)<=3+(k:Int) by lia,show 3+(k:Int)<=1000 by lia⟩,λx=>?_⟩;refine⟨cs,hs,⟨show (0:Int)<=6+(k:Int) by lia,show 6+(k:Int)<=1000 by lia⟩,λy=>?_⟩;have g2:(0:Int)<2*g:=by lia
    have g4:(0:Int)<4*g:=by lia
    have ry:=Yl (a:=y) g2
    have rx:=Yl (a:=x/3) g4;refine⟨m2 _,g2,m4 _,g4,m2 _,?_⟩;refine ifD (λe=>?_) (λe=>?_)
    ·exact hn _ _ ⟨rfl,_,_,_,⟨by lia,by lia,by lia,by lia⟩,rfl⟩
    ·exact hn _ _ ⟨rfl,_,_,_,⟨by lia,by lia,by lia,by lia⟩,rfl⟩
   rintro dl2 S2 ⟨rfl,x,lo,wi,⟨w0,w1,o0,o1⟩,rfl⟩;have bC:∀lo hi:Int,lo<=hi->lo.natAbs<=10^15->hi.natAbs<=10^15->(frS cs=false->lo.natAbs<=4*g.natAbs/\hi.natAbs<=4*g.natAbs)->k+1<=q/\Pre S (S'.set S.length (.lst (B.map frD++[frD (lo,hi)])))/\∃B2:LI,(S'.set S.length (.lst (B.map frD++[frD (lo,hi)])))[S.length]?=some (.lst (B2.map frD))/\B2.length=k+1/\Spn 51 B2/\(frS cs=false->∀p∈B2,p.1.natAbs<=4*g.natAbs/\p.2.natAbs<=4*g.natAbs):=λlo hi h1 h2 h3 h4=>
    ⟨by lia,Rm pr (zD _),B++[(lo,hi)],by rw[yC];exact Yu hB,by rw[zI,lB];rfl,λp hp=>by
     rcases yJ.mp hp with w|w
     ·exact sB p w
     ·rw[yQ.mp w];exact⟨h1,Sz.of (n:=51) (10^15) h2,Sz.of (n:=51) (10^15) h3⟩,λe p hp=>by
     rcases yJ.mp hp with w|w
     ·exact zB e p w
     ·rw[yQ.mp w];exact h4 e⟩
   refine⟨cs,hs,?_⟩;refine YD (λef=>?_) (λef=>?_)
   ·refine⟨m2 _,show (0:Int)<2*10^Int.toNat 15-1 by decide,?_⟩;have rl:=Yl (a:=x) (b:=2*10^Int.toNat 15-1) (by decide);refine⟨cs,hs,⟨show (0:Int)<=6+(k:Int) by lia,show 6+(k:Int)<=1000 by lia⟩,λz=>?_⟩;have wp:(0:Int)<10^Int.toNat 15-(x%(2*10^Int.toNat 15-1)-10^Int.toNat 15+1):=by lia
    have rw':=Yl (a:=z) wp;refine⟨wp,?_⟩;refine X9 (n:=S.length) (S1:=S') (xs:=B.map frD) (y:=frD (_,_)) (λK hK=>by exact hK) hB (λK hK=>by exact hK) (by rw[zA];lia) ?_;obtain⟨f1,f2,f3⟩:=bC (x%(2*10^Int.toNat 15-1)-10^Int.toNat 15+1) (x%(2*10^Int.toNat 15-1)-10^Int.toNat 15+1+z%(10^Int.toNat 15-(x%(2*10^Int.toNat 15-1)-10^Int.toNat 15+1))) (by lia) (by lia) (by lia) (λe=>by rw[ef] at e;cases e);exact⟨f1,f2,f3,_,_,_,_,rfl⟩
   ·refine X9 (n:=S.length) (S1:=S') (xs:=B.map frD) (y:=frD (lo,lo+wi)) (λK hK=>by exact hK) hB (λK hK=>by exact hK) (by rw[zA];lia) ?_;obtain⟨f1,f2,f3⟩:=bC lo (lo+wi) (by lia) (by lia) (by lia) (λ_=>by lia);exact⟨f1,f2,f3,_,_,_,_,rfl⟩
  ·have e:k=q:=by lia
   subst e;exact h _ _ B pr (zD _) hB lB sB zB⟩)
def C9  (M6:Df K mg q30 OG VE)(Rx:mg "abs"=none):Fk P w K mg base 1 q30 VE UI:=
 M6.mk' (ZD (k:=0) M6.F PZ (λ_ _ _ _=>nI λ_=>nI λ_=>nN:Ln (UI) 2) λ_ _ _ _ _ _ hr=>⟨_,(Zg (Zw (i:=2) PZ.nd (ZM zaB rfl Rx Boot.«abs» (Za (dv 0) Ze))) (Zg (Zw (i:=3) PZ.nd (dv 1)) (Zg (Cn PassesOwn.never (ZL (UB hr) (dv 3) Zd (ZE _)) (Zh (DU (i:=2) (j:=3) rfl PZ.nd rfl rfl (by decide) rfl rfl (Za (dv 3) (Za (Zf Yz (dv 2) (dv 3)) Ze))))) (Zh (Zt (ZR (Za (Zf Y2 (dv 0) (dv 2)) (Za (Zf Y2 (dv 1) (dv 2)) Ze)))))))),λds S Q ex h=>by
  replace h:=eII h;obtain⟨T,B,rfl,h⟩:=h;obtain⟨⟨hB,sB⟩,h⟩:=h;have f:=zag (T:=T) (B:=B) (d:=((Int.gcd T B:Nat):Int)) (by lia) (by rw[if_neg (by lia)]);obtain⟨f1,f2,f3,f4,f5,f6⟩:=f;have gp:(0:Int)<((Int.gcd T B:Nat):Int):=by lia
  have gle:((Int.gcd T B:Nat):Int)<=B:=Int.le_of_dvd hB (Int.gcd_dvd_right T B)
  have sg:Sz 4000 ((Int.gcd T B:Nat):Int):=by
   unfold Sz at sB ⊢;lia
  have eg:Int.gcd (Wt T) B=Int.gcd T B:=by
   have z:=zaH T B;rw[show Wt B=B by unfold Wt;split<;>lia] at z;exact z
  refine⟨λm dl' S'=>S'=S/\∃(x y:Int),dl'=[some (.int T),some (.int B),some (.int x),some (.int y)]/\0<=x/\0<=y/\Int.gcd x y=Int.gcd T B/\m=y.toNat,⟨B.toNat,rfl,Wt T,B,rfl,D6 T,by lia,eg,rfl⟩,?_⟩;rintro m dl' S' ⟨rfl,x,y,rfl,hx,hy,hg,rfl⟩;refine ifN (λc=>?_) (λc=>?_)
  ·have c':0<y:=by lia
   exact⟨c',⟨(x%y).toNat,by have:=Yl (a:=x) c';lia,rfl,y,x%y,rfl,hy,(Yl (a:=x) c').1,(BX x y).trans hg,rfl⟩⟩
  ·subst c;have e:((Int.gcd T B:Nat):Int)=x:=by rw[<- hg,Int.gcd_zero_right];lia
   have e1:T/((Int.gcd T B:Nat):Int)=T.fdiv ((Int.gcd T B:Nat):Int):=(Int.fdiv_eq_ediv_of_nonneg _ (by lia)).symm
   have e2:B/((Int.gcd T B:Nat):Int)=B.fdiv ((Int.gcd T B:Nat):Int):=(Int.fdiv_eq_ediv_of_nonneg _ (by lia)).symm
   have q:=h _ _ f4 f5 f6 (HF f1 f2) (by have:=HF f1 f3;lia);rw[<- e1,<- e2] at q;rw[e] at q sg gp;exact⟨sg.fd gp,sg.fd gp,q⟩⟩)
def BQ  (Me:Df K mg q52 Nr SD)(X2:Fk P w K mg base 1 q30 VE UI):Fk P w K mg base 2 q52 SD L4:=
 Me.mk' (ZD (k:=1) Me.F AV (λ_ _ _ _=>nI λ_=>nN:Ln (L4) 1) λ_ _ _ _ _ _ hr=>⟨_,(Zh (Zt (Zk X2 hr (Za (Zf Yr (Zf ZY (dv 0) Zd) Zd) (Za (Zf ZQ Zd (Zf ZY (Zf Z9 (dv 0) Zd) Zd)) Ze))))),λds S Q ex h=>by
  replace h:=eI h;obtain⟨c,rfl,h⟩:=h;refine⟨⟨show 0<1+c/9%4 by lia,Sz.of (n:=4000) 10 (by show (1+c/9%4).natAbs<=_;lia)⟩,λt b h1 h2 _ h4 h5=>?_⟩;exact h t b ⟨h1,by lia⟩ h2 (by lia)⟩)
def zb5  (O2:Df K mg q91 Mf Qu)(X2:Fk P w K mg base 1 q30 VE UI):Fk P w K mg base 2 q91 Qu K1:=
 O2.mk' (ZD (k:=1) O2.F D5 (λ_ _ _ _=>nI λ_=>nN:Ln (K1) 1) λ_ _ _ _ _ _ hr=>⟨_,(Zh (Zt (Zk X2 hr (Za (Zf Yr (Zf Yz (dv 0) Zd) Zd) (Za (Zf ZQ Zd (Zf ZY (Zf Y2 (dv 0) Zd) Zd)) Ze))))),λds S Q ex h=>by
  replace h:=eI h;obtain⟨c,rfl,h⟩:=h;have r1:=Yl (a:=c) (b:=1999999999) (by decide)
  have r2:=Yl (a:=c/1999999999) (b:=999999999) (by decide);refine⟨show (0:Int)<1999999999 by decide,?_⟩;refine⟨⟨by decide,by decide⟩,?_⟩;refine⟨⟨show 0<1+c/1999999999%999999999 by lia,Sz.of (10^10) (by show (1+c/1999999999%999999999).natAbs<=_;lia)⟩,λt b h1 h2 _ h4 h5=>?_⟩;exact h t b ⟨h1,by lia⟩ h2 (by lia)⟩)
def Dl  (Nn:Df K mg q92 Ma Sj)(ZA:mg "len"=none):Fk P w K mg base 1 q92 Sj Ii:=
 Nn.mk' (ZD (k:=0) Nn.F AM (λ_ _ _ _=>nR λ_=>nR λ_=>nD λ_=>nI λ_=>nN:Ln (Ii) 4) λ_ _ _ _ _ _ hr=>⟨_,(Zg (ZN (ZL (zcB hr) (dv 2) (dv 0) rfl) (Zh (Zt (HX (k:=1) hr (by decide) (dv 0) (Za (dv 2) Ze)))) ZO) (Zg (Yj (YX (dv 0) (dv 2))) (Zg (Yj (YX (dv 1) (dv 3))) (Zh (Zt (Zf Yr (ZM (ZI ZW) rfl ZA Boot.«len» (Za (dv 0) Ze)) Zd)))))),λds S Q ex h=>by
  replace h:=eRRDI h;obtain⟨a,b,d,w,rfl,h⟩:=h;obtain⟨v,ns,ws,rfl,ha,hb,ne,rfl,l1,l2,h1,h2⟩:=h;obtain⟨o,e1,e2,e3⟩:=Mq v ns;refine Ax (o:=o) ha e2 ?_;cases o with
  | some j=>
   refine Xm ?_;exact L0 (n:=a) (v:=v) (ns:=ns) (λK hK=>by exact hK) (λK hK=>by exact hK) ha e1 (h1 j (e3 j rfl))
  | none=>
   refine YR ?_;refine X9 (n:=a) (S1:=S) (xs:=ns.map Nd.d) (y:=v.d) (λK hK=>by exact hK) ha (λK hK=>by exact hK) (by rw[zA];lia) ?_;refine X9 (n:=b) (S1:=S.set a (.lst (ns.map Nd.d++[v.d]))) (xs:=ws.map wtD) (y:=wtD (v.wt ws)) (λK hK=>by exact hK) (Yb hb ne) (λK hK=>by exact hK) (by rw[zA];lia) ?_;refine ZZ (xs:=ns.map Nd.d++[v.d]) (Yb (Yu ha) (Ne.symm ne)) ?_;have q:=h2 (((ns.map Nd.d++[v.d]).length:Nat)-1) (by simp);rw[yC,yC] at q;exact q⟩)
def CT  (PH:Df K mg q68 Pd Ux)(R9:Fk P w K mg base 1 q92 Sj Ii)(Jw:Fk P w K mg base 2 q91 Qu K1)(Hk:Fk P w K mg base 2 q52 SD L4)(ZA:mg "len"=none):Fk P w K mg base 3 q68 Ux MV:=
 PH.mk' (ZD (k:=2) PH.F Vu (λ_ _ _ _=>nR λ_=>nR λ_=>nI λ_=>nI λ_=>nB λ_=>nN:Ln (MV) 5) λ_ _ _ _ _ _ hr=>⟨_,(Zg (Zw (i:=5) Vu.nd (Zf Yz (Zf ZY (Zf Z9 (dv 2) Zd) Zd) (ZM (ZI ZW) rfl ZA Boot.«len» (Za (dv 0) Ze)))) (Zg (Zw (i:=6) Vu.nd (Zf Yz (Zf ZY (Zf Z9 (dv 2) Zd) Zd) (ZM (ZI ZW) rfl ZA Boot.«len» (Za (dv 0) Ze)))) (Zg (Zw (i:=7) Vu.nd (Zf ZQ (Zz (dv 1) (dv 5)) (Zz (dv 1) (dv 6)))) (Zh (ZN (ZL (ZT hr) (Zf ZY (dv 2) Zd) Zd (ZE _)) (Zg (Zw (i:=8) Vu.nd (Zk Hk hr (Za (Zf Z9 (dv 2) Zd) Ze))) (Zg (ZN (Xq (dv 4)) (Zh (Zw (i:=8) Vu.nd (Zk Jw hr (Za (Zf Z9 (dv 2) Zd) Ze)))) ZO) (Zh (Yj (Zk R9 hr (Za (dv 0) (Za (dv 1) (Za (ZR (Za Z3 (Za (Zi (dv 8) Zd) (Za (Zi (dv 8) Zd) Ze)))) (Za Zd Ze))))))))) (Zh (ZN (ZL (ZT hr) (Zf ZY (dv 2) Zd) Zd (ZE _)) (Zg (Zw (i:=9) Vu.nd (Zf ZQ Zd (Zf ZY (Zf Z9 (dv 2) Zd) Zd))) (Zh (ZN (ZL TL (Zf ZV (dv 9) (Zz (dv 1) (dv 5))) (dv 3) (ZE _)) (Zh (Yj (Zk R9 hr (Za (dv 0) (Za (dv 1) (Za (ZR (Za Z3 (Za (dv 5) (Za (dv 9) Ze)))) (Za (Zf ZV (dv 9) (Zz (dv 1) (dv 5))) Ze))))))) ZO))) (Zh (ZN (ZL TL (dv 7) (dv 3) (ZE _)) (Zg (Zw (i:=10) Vu.nd (Zz (Yo (Za Z3 (Za Z3 (Za Z3 Ze)))) (Zf ZY (Zf ZY (dv 2) Zd) Zd))) (Zh (Yj (Zk R9 hr (Za (dv 0) (Za (dv 1) (Za (ZR (Za (dv 10) (Za (dv 5) (Za (dv 6) Ze)))) (Za (dv 7) Ze)))))))) ZO))))))))),λds S Q ex h=>by
  replace h:=Cs h;obtain⟨a,b,c,most,fr,rfl,h⟩:=h;obtain⟨qn,ns,ws,ha,hb,ne,net,l1,l9,hm,h⟩:=h;have lw:=net.len
  have pos:(0:Int)<((ns.length:Nat):Int):=by lia
  have ro:=Yl (a:=c/6%64) pos
  have rj:=Yl (a:=c/384%64) pos
  have ho:inR ((ns.length:Nat):Int) (c/6%64%((ns.length:Nat):Int)):=ro
  have hj:inR ((ns.length:Nat):Int) (c/384%64%((ns.length:Nat):Int)):=rj
  have ho':inR ((ws.length:Nat):Int) (c/6%64%((ns.length:Nat):Int)):=by rw[lw];exact ho
  have hj':inR ((ws.length:Nat):Int) (c/384%64%((ns.length:Nat):Int)):=by rw[lw];exact hj
  have wo:=net.w1 ho
  have wj:=net.w1 hj
  have on:∀(T:Sto),(∀(x:Nat)(o:Ob),S[x]?=some o->T[x]?=some o)->S.length<=T.length->Q .non T:=λT k l=>h T [] ws (by rw[xD];exact net) ⟨[],by simp,λw hw=>by simp at hw⟩ (λ_ v hv=>by simp at hv) (by simp) (by rw[xD];exact k _ _ ha) (k _ _ hb) l λx o _ _ e=>k x o e
  have put:∀(v:Nd)(T:Sto),(∀(x:Nat)(o:Ob),S[x]?=some o->T[x]?=some o)->S.length<=T.length->v.ok ((ns.length:Nat):Int) ((qn:Nat):Int)->v.wt ws<=16->(v.wt ws=1\/((v.wt ws:Nat):Int)<=most)->(fr=false->v.lit)->Q .non ((T.set a (.lst ((ns++[v]).map Nd.d))).set b (.lst ((ws++[v.wt ws]).map wtD))):=λv T k l ok h16 hmo hli=>
   h _ [v] _ (net.snoc ok h16) ⟨[v.wt ws],rfl,λw hw=>by rw[yQ.mp hw];exact hmo⟩ (λe u hu=>by rw[yQ.mp hu];exact hli e) (by simp) (Yb (Yu (k _ _ ha)) (Ne.symm ne)) (Yu (Yb (k _ _ hb) ne)) (by simpa using l) λx o h1 h2 e=>Yb (Yb (k x o e) (Ne.symm h1)) (Ne.symm h2)
  refine ZZ ha ?_;rw[zA];refine⟨pos,?_⟩;refine ZZ ha ?_;rw[zA];refine⟨pos,?_⟩;refine Zu (o:=.lst (ws.map wtD)) hb (Pk ho') ?_;refine Zu (o:=.lst (ws.map wtD)) hb (Pk hj') ?_;refine ifD (λe4=>?_) (λe4=>?_)
  ·refine λt d h1 h2 h3=>?_
   cases fr
   ·refine⟨.number t d,ns,ws,rfl,ha,hb,ne,rfl,by lia,by lia,λj _=>on S (λ_ _ e=>e) (zD _),λi _=>?_⟩;exact put (.number t d) S (λ_ _ e=>e) (zD _) ⟨⟨h1.1,by lia⟩,h2,by lia⟩ (show 1<=16 by decide) (Or.inl rfl) (λ_=>h3)
   ·refine λt d h1 h2 h3=>⟨.number t d,ns,ws,rfl,ha,hb,ne,rfl,by lia,by lia,λj _=>on S (λ_ _ e=>e) (zD _),λi _=>?_⟩
    exact put (.number t d) S (λ_ _ e=>e) (zD _) ⟨h1,h2,h3⟩ (show 1<=16 by decide) (Or.inl rfl) (λe=>nomatch e)
  ·refine ifD (λe3=>?_) (λe3=>?_)
   ·have r5:=Yl (a:=c/24576) (b:=5) (by decide);refine Zu (o:=.lst (ws.map wtD)) hb (Pk ho') ?_;have mo:IntMulOk (2+c/24576%5) ((ws.getD (c/6%64%((ns.length:Nat):Int)).toNat 0:Nat):Int):=ZU (m:=400) (n:=400) (Sz.of (10^20) (by lia)) (Sz.of (10^20) (by lia))
    have ew:(2+c/24576%5)*((ws.getD (c/6%64%((ns.length:Nat):Int)).toNat 0:Nat):Int)=((Nd.wt ws (.power (c/6%64%((ns.length:Nat):Int)) (2+c/24576%5)):Nat):Int):=by
     simp only[Nd.wt];rw[Int.natCast_mul];rw[Int.toNat_of_nonneg (by lia)]
    refine⟨mo,?_⟩;refine ifD (λe5=>?_) (λe5=>on S (λ_ _ e=>e) (zD _));refine Zu (o:=.lst (ws.map wtD)) hb (Pk ho') ?_;refine⟨mo,?_⟩;refine⟨.power (c/6%64%((ns.length:Nat):Int)) (2+c/24576%5),ns,ws,rfl,ha,hb,ne,ew,by lia,by lia,λj _=>on S (λ_ _ e=>e) (zD _),λi _=>?_⟩;exact put (.power (c/6%64%((ns.length:Nat):Int)) (2+c/24576%5)) S (λ_ _ e=>e) (zD _) ⟨ho,by lia,by lia⟩ (by rw[ew] at e5;lia) (Or.inr (by rw[ew] at e5;exact e5)) (λ_=>trivial)
   ·refine ifD (λe5=>?_) (λe5=>on S (λ_ _ e=>e) (zD _));have go:∀(v:Nd)(T:Sto),T=S++[.lst [.str "plus",.str "minus",.str "times"]]->v.ok ((ns.length:Nat):Int) ((qn:Nat):Int)->v.wt ws=ws.getD (c/6%64%((ns.length:Nat):Int)).toNat 0+ws.getD (c/384%64%((ns.length:Nat):Int)).toNat 0->(fr=false->v.lit)->∃(v':Nd)(ns':List Nd)(ws':List Nat),v.d=v'.d/\T[a]?=some (.lst (ns'.map Nd.d))/\T[b]?=some (.lst (ws'.map wtD))/\a≠b/\((ws.getD (c/6%64%((ns.length:Nat):Int)).toNat 0:Nat):Int)+((ws.getD (c/384%64%((ns.length:Nat):Int)).toNat 0:Nat):Int)=(v'.wt ws':Nat)/\ns'.length<900/\ws'.length<900/\(∀j:Nat,ns'[j]?=some v'->Q .non T)/\∀i:Int,i=(ns'.length:Nat)->Q .non ((T.set a (.lst ((ns'++[v']).map Nd.d))).set b (.lst ((ws'++[v'.wt ws']).map wtD))):=λv T e ok ew hli=>by
     subst e;refine⟨v,ns,ws,rfl,Zj ha,Zj hb,ne,by rw[ew];lia,by lia,by lia,λj _=>on _ (λ_ _ e=>Zj e) (by simp),λi _=>?_⟩;exact put v _ (λ_ _ e=>Zj e) (by simp) ok (by rw[ew];lia) (Or.inr (by rw[ew];lia)) hli
    have three:∀i:Int,inR 3 i->i=0\/i=1\/i=2:=λi hi=>by have:=hi.1;have:=hi.2;lia
    rcases three (c%6%3) (Yl (by decide)) with e6|e6|e6
    ·refine Zu (o:=.lst [.str "plus",.str "minus",.str "times"]) (Zy _ _) (d:=.str "plus") (by rw[e6];rfl) ?_;exact go (.plus _ _) _ rfl ⟨ho,hj⟩ rfl (λ_=>trivial)
    ·refine Zu (o:=.lst [.str "plus",.str "minus",.str "times"]) (Zy _ _) (d:=.str "minus") (by rw[e6];rfl) ?_;exact go (.minus _ _) _ rfl ⟨ho,hj⟩ rfl (λ_=>trivial)
    ·refine Zu (o:=.lst [.str "plus",.str "minus",.str "times"]) (Zy _ _) (d:=.str "times") (by rw[e6];rfl) ?_;exact go (.times _ _) _ rfl ⟨ho,hj⟩ rfl (λ_=>trivial)⟩)
def Dw  (PB:Df K mg q23 Sy SU)(Yd:Fk P w K mg base 2 q29 Wc W5)(U5:Fk P w K mg base 3 q68 Ux MV)(ZK:mg q87=none)(ZA:mg "len"=none)(Xf:mg "min"=none):Fk P w K mg base 4 q23 SU Km:=
 PB.mk' (ZD (k:=3) PB.F Oh (λ_ _ _ _=>nR λ_=>nR λ_=>nR λ_=>nN:Ln (Km) 3) λ_ _ _ _ _ _ hr=>⟨_,(Zg (Zw (i:=3) Oh.nd (ZM (ZI ZW) rfl ZA Boot.«len» (Za (dv 1) Ze))) (Zg (JP (i:=4) PassesOwn.never rfl Oh.nd rfl (Or.inl rfl) rfl ZK (Za Zd (Za (ZM (QK rfl) rfl Xf Boot.«min» (Za (ZM (ZI ZW) rfl ZA Boot.«len» (Za (dv 0) Ze)) (Za Zd Ze))) Ze)) (Zh (Yj (Zk U5 hr (Za (dv 1) (Za (dv 2) (Za (Zz (dv 0) (dv 4)) (Za Zd (Za Y8 Ze))))))))) (Zg (Ng (x:="_law_j") (N:=["_law_script","_law_nodes"]) (caps:=[0,1]) (ar:=Zo Sy) rfl rfl csc rfl (by decide) (i:=5) Oh.nd rfl rfl rfl ZK (Za (dv 3) Ze) (λ_ _ _ _ _ _=>Yt) (λ_ _ _ _ _ _=>(ZR (Za Z3 (Za (Zf Yz (Zk Yd hr (Za (dv 1) (Za (Zf ZQ Zd (dv 0)) Ze))) (ZM (ZI ZW) rfl ZA Boot.«len» (Za (dv 2) Ze))) Ze))))) (Zh (Zt (ZR (Za (dv 1) (Za (dv 5) Ze)))))))),λds S Q ex h=>by
  replace h:=eRRR h;obtain⟨sc,a,b,rfl,h⟩:=h;obtain⟨cs,q,ns,ws,hsc,ha,hb,ab,net,⟨n1,n3⟩,nq,c63,h⟩:=h;have asc:sc≠a:=λe=>by rw[e,ha] at hsc;cases hsc
  have bsc:sc≠b:=λe=>by rw[e,hb] at hsc;cases hsc
  refine ZZ ha ?_;rw[zA];refine Rf hsc ?_;rw[zA];obtain⟨hi,ehi,h32,aV⟩:∃hi:Int,(if (20:Int)<((cs.length:Nat):Int) then (20:Int) else ((cs.length:Nat):Int))=hi/\(0<=hi/\hi<=20)/\hi<=((cs.length:Nat):Int):=by
   split
   ·exact⟨_,rfl,by lia,by lia⟩
   ·exact⟨_,rfl,by lia,by lia⟩
  have la:=Z4 ha;refine⟨⟨by decide,by decide,?_,?_⟩,λk dl' S'=>k<=(hi-14).toNat/\(∃(ns':List Nd)(ws':List Nat),Z7 q ns' ws'/\1<=ns'.length/\ns'.length<=3+k/\S'[a]?=some (.lst (ns'.map Nd.d))/\S'[b]?=some (.lst (ws'.map wtD))/\S.length<=S'.length/\∀(x:Nat)(o:Ob),x≠a->x≠b->S[x]?=some o->S'[x]?=some o)/\∃u:Option D,dl'=[some (.ref sc),some (.ref a),some (.ref b),some (.int ((ns.length:Nat):Int)),u,none],⟨zO _,⟨ns,ws,net,n1,by lia,ha,hb,zD _,λ_ _ _ _ e=>e⟩,_,rfl⟩,?_⟩
  ·show -(2^62)<=(if (20:Int)<((cs.length:Nat):Int) then (20:Int) else ((cs.length:Nat):Int));rw[ehi];lia
  ·show (if (20:Int)<((cs.length:Nat):Int) then (20:Int) else ((cs.length:Nat):Int))<2^62;rw[ehi];lia
  rintro k dl' S' ⟨hk,⟨ns',ws',net',l1,l3,e1,e2,lS,kp⟩,u,rfl⟩;show if k<((if (20:Int)<((cs.length:Nat):Int) then (20:Int) else ((cs.length:Nat):Int))-14).toNat then _ else _
  rw[ehi];refine YD (λc=>?_) (λc=>?_)
  ·refine Zu (o:=.frz (cs.map D.int)) (kp _ _ asc bsc hsc) (R3 (k:=14+(k:Int)) (by lia) (by lia)) ?_;refine⟨q,ns',ws',e1,e2,ab,net',l1,by lia,by decide,λT ms us n2 hu li lm t1 t2 lT kT=>?_⟩;exact⟨by lia,⟨ns'++ms,us,n2,by rw[zI];lia,by rw[zI];lia,t1,t2,by lia,λx o hx hy e=>kT x o hx hy (kp x o hx hy e)⟩,_,rfl⟩
  ·clear c;have hs:=kp _ _ asc bsc hsc;refine MP (j:=((ns.length:Nat):Int)) (S1:=S') (λ_ d=>∃i:Nat,d=rwD (true,i)/\i<ns'.length) (λK hK=>by exact hK) ⟨by lia,by lia⟩ (λk hk S2 K pr hK=>?_) (λxs lx hx=>?_)
   ·refine⟨cs,pr _ _ hs,⟨show (0:Int)<=41+(k:Int) by lia,show 41+(k:Int)<=1000 by lia⟩,λv=>?_⟩;refine ZZ (pr _ _ e1) ?_;rw[zA];have np:(0:Int)<((ns'.length:Nat):Int):=by lia
    have r:=Yl (a:=v) np;refine⟨np,hK _ ⟨(v%((ns'.length:Nat):Int)).toNat,?_,by lia⟩⟩;have e:(((v%((ns'.length:Nat):Int)).toNat:Nat):Int)=v%((ns'.length:Nat):Int):=by lia
    show _=D.tup [.str "zero",.int (((v%((ns'.length:Nat):Int)).toNat:Nat):Int)];rw[e]
   obtain⟨rs,rfl,zr⟩:=FJ xs hx;rw[zA] at lx;exact h _ _ ns' ws' rs net' l1 (by lia) (Zj e1) (Zy _ _) (by lia) zr lS λx o hx hy e=>Zj (kp x o hx hy e)⟩)
def CD  (OJ:Df K mg q99 OI UT):Fk P w K mg base 1 q99 UT ME:=
 OJ.mk' (ZD (k:=0) OJ.F AY (λ_ _ _ _=>nR λ_=>nD λ_=>nN:Ln (ME) 2) λ_ _ _ _ _ _ hr=>⟨_,(Zg (ZN (ZL (C7 hr) (dv 1) (dv 0) rfl) (Zh (Yj (YX (dv 0) (dv 1)))) ZO) (Zh (Zt (HX (k:=1) hr (by decide) (dv 0) (Za (dv 1) Ze))))),λds S Q ex h=>by
  replace h:=eRD h;obtain⟨a,d,rfl,h⟩:=h;obtain⟨q,v,ns,ws,rfl,ha,l9,net,ok,h16,h⟩:=h;have bC:∀(T:Sto)(j:Nat)(ns':List Nd)(ws':List Nat),Gr q a 1 S ns ws T ns' ws'->ns'[j]?=some v->Q (.int (j:Int)) T:=λT j ns' ws' gr hj=>by
   refine h T j ns' ws' gr (zF.mp hj).1 hj ?_ (Ak gr ok hj);rw[(gr.net.ok j v hj).2.1];exact GL gr net ok
  obtain⟨o,e1,e2,e3⟩:=Mq v ns;refine EY (o:=o) ha e2 ?_;cases o with
  | some j=>
   refine YR ?_;refine L0 (n:=a) (v:=v) (ns:=ns) (λK hK=>by exact hK) (λK hK=>by exact hK) ha e1 ?_;exact bC S j ns ws ((Gr.refl net ha).mono (by decide)) (e3 j rfl)
  | none=>
   refine Xm ?_;refine X9 (n:=a) (S1:=S) (xs:=ns.map Nd.d) (y:=v.d) (λK hK=>by exact hK) ha (λK hK=>by exact hK) (by rw[zA];lia) ?_;have hm:(S.set a (.lst (ns.map Nd.d++[v.d])))[a]?=some (.lst ((ns++[v]).map Nd.d)):=by
    rw[yC];exact Yu ha
   obtain⟨o2,f1,f2,f3⟩:=Mq v (ns++[v]);cases o2 with
   | none=>
    obtain⟨k,hk⟩:∃k,(ns++[v])[k]?=some v:=⟨ns.length,by simp⟩;exact absurd f2 (any_some hk)
   | some j=>
    refine L0 (n:=a) (v:=v) (ns:=ns++[v]) (λK hK=>by exact hK) (λK hK=>by exact hK) hm f1 ?_;exact bC _ j (ns++[v]) (ws++[v.wt ws]) ⟨net.snoc ok h16,⟨[v],rfl,by simp⟩,⟨_,rfl⟩,hm,by simp,λx o hx e=>Yb e (Ne.symm hx)⟩ (f3 j rfl)⟩)
def CA  (P9:Df K mg q70 Ol UQ):Fk P w K mg base 1 q70 UQ NW:=
 P9.mk' (ZD (k:=0) P9.F ES (λ_ _ _ _=>nP λ_ _=>nP λ_ _=>nN:Ln (NW) 2) λ_ _ _ _ _ _ hr=>⟨_,(Zh (Zt (ZR (Za (Zf Yr (Zi (dv 0) Zd) (Zi (dv 1) Zd)) (Za (Zf ZQ (Zi (dv 0) Zd) (Zi (dv 1) Zd)) Ze))))),λds S Q ex h=>by
  replace h:=ePP h;obtain⟨_,_,_,_,rfl,h⟩:=h;exact h⟩)
def zbe  (OH:Df K mg q62 Pg RD)(ZK:mg q87=none):Fk P w K mg base 1 q62 RD JC:=
 OH.mk' (ZD (k:=0) OH.F Lz (λ_ _ _ _=>nI λ_=>nI λ_=>nN:Ln (JC) 2) λ_ _ _ _ _ _ hr=>⟨_,(Zg (Zw (i:=2) Lz.nd Zd) (Zg (Y3 (i:=3) PassesOwn.never rfl Lz.nd rfl (Or.inl rfl) rfl ZK (Za (dv 1) Ze) (Zh (Zw (i:=2) Lz.nd (Zf ZV (dv 2) (dv 0))))) (Zh (Zt (dv 2))))),λds S Q ex h=>by
  replace h:=eII h;obtain⟨x,n,rfl,h⟩:=h;obtain⟨⟨h0,h6,sx⟩,h⟩:=h;refine⟨⟨by lia,by lia⟩,λk dl' S'=>S'=S/\k<=n.toNat/\∃(z:Int)(o:Option D),z=x^k/\dl'=[some (.int x),some (.int n),some (.int z),o],⟨rfl,zO _,1,none,(xT x).symm,rfl⟩,?_⟩;rintro k dl' S' ⟨rfl,hk,z,o,rfl,rfl⟩;refine YD (λc=>?_) (λc=>?_)
  ·exact⟨ZU (m:=12001) (n:=2000) ((sx.pow k).mono (by lia)) sx,rfl,by lia,_,_,(xB x k).symm,rfl⟩
  ·have e:k=n.toNat:=by lia
   subst e;exact h⟩)
def zaU  (Lc:Df K mg q42 Pc Th)(RP:Fk P w K mg base 1 q62 RD JC)(Wm:mg "sorted"=none):Fk P w K mg base 2 q42 Th P8:=
 Lc.mk' (Wa (ZD (k:=1) Lc.F JJ (X0 (λ_ _ _ _=>nP λ_ _=>nI λ_=>nI λ_=>nN:Ln (P8) 3)) λ_ _ _ _ _ _ hr=>⟨_,(Zg (Zw (i:=3) JJ.nd (ZM (ZI IK) rfl Wm Boot.«sorted» (Za (Yo (Za (Zk RP hr (Za (Zi (dv 0) Zd) (Za (dv 1) Ze))) (Za (Zk RP hr (Za (Zi (dv 0) Zd) (Za (dv 1) Ze))) Ze))) Ze))) (Zg (ZN (PDW.pt (LU (ZL (ZT hr) (Zf ZY (dv 1) Zd) Zd (ZE _)) (NI (F1 X8 X8 (Zi (dv 0) Zd) Zd (Zi (dv 0) Zd))))) (Zh (Fh (dv 3) Zd Zd)) ZO) (Zg (Zw (i:=4) JJ.nd (Zk RP hr (Za (dv 2) (Za (Zf Yr (dv 1) Zd) Ze)))) (Zh (Zt (ZR (Za (Zf Y2 (Zz (dv 3) Zd) (dv 4)) (Za (WK WA (Zf Y2 (WK WA (Zz (dv 3) Zd)) (dv 4))) Ze)))))))),λds S Q ex h=>by
  obtain⟨Q0,ex0,rfl,rfl,h⟩:=h;replace h:=ePII h;obtain⟨a,b,n,g,rfl,h⟩:=h;obtain⟨⟨n1,n6,sa,sb,g1,g2⟩,h⟩:=h;have sg:Sz 21 g:=Sz.of 1000000 (by lia)
  have gp:(0:Int)<g^(n.toNat-1):=yP (by lia)
  have egs:(n-1).toNat=n.toNat-1:=by lia
  have zs:Sz 200 (g^(n.toNat-1)):=(sg.pow _).mono (by lia)
  have zf:CFd 0 (g^(n-1).toNat):=by rw[egs];exact zs.fd gp
  refine⟨⟨by lia,n6,sa.mono (by decide)⟩,⟨by lia,n6,sb.mono (by decide)⟩,?_⟩;refine Ju (n:=S.length) (o:=.lst [.int (a^n.toNat),.int (b^n.toNat)]) (ns:=[a^n.toNat,b^n.toNat]) (ZS (Zy _ _) rfl) rfl (by simp) λms p o=>?_
  have em:=sort2 p o;subst em;have bC:∀(lo hi:Int)(T:Sto),Pre S T->lo=Yg a b n.toNat->hi=Y6 a b n.toNat->Gc S Q0 (.tup [.int (lo/g^(n-1).toNat),.int (-(-hi/g^(n-1).toNat))]) T:=λlo hi T pr e1 e2=>by
   subst e1 e2;rw[egs];exact⟨pr,Vm,h⟩
  have low:¬ (n%2=0/\a<0/\0<b)->min (a^n.toNat) (b^n.toNat)=Yg a b n.toNat:=λno=>by
   unfold Yg;split
   ·rename_i c;obtain⟨c1,c2,c3⟩:=c;have z1:=UN c1 a
    have z2:=UN c1 b
    have z0:a=0\/b=0:=by lia
    rcases z0 with rfl|rfl
    ·rw[QA (show 1<=n.toNat by lia)] at z1 ⊢;lia
    ·rw[QA (show 1<=n.toNat by lia)] at z2 ⊢;lia
   ·rfl
  have Yy:∀lo:Int,lo=Yg a b n.toNat->∀T:Sto,Pre S T->T[S.length+1]?=some (.lst [.int lo,.int (max (a^n.toNat) (b^n.toNat))])->True:=λ_ _ _ _ _=>trivial
  have tail:∀(lo:Int)(T:Sto),lo=Yg a b n.toNat->Pre S T->T[(S++[Ob.lst [.int (a^n.toNat),.int (b^n.toNat)]]).length]?=some (.lst [.int lo,.int (max (a^n.toNat) (b^n.toNat))])->((0<=n-1/\n-1<=6/\Sz 2000 g)/\YH wIx (.ref (S++[Ob.lst [.int (a^n.toNat),.int (b^n.toNat)]]).length) (.int 0) T λx T1=>wI CFd (λi j=>.int (i/j)) x (.int (g^(n-1).toNat)) T1 λy T2=>YH wIx (.ref (S++[Ob.lst [.int (a^n.toNat),.int (b^n.toNat)]]).length) (.int 1) T2 λu T3=>wNeg u T3 λu' T4=>wI CFd (λi j=>.int (i/j)) u' (.int (g^(n-1).toNat)) T4 λz T5=>wNeg z T5 λz' T6=>Gc S Q0 (.tup [y,z']) T6):=λlo T e1 pr hT=>by
   refine⟨⟨by lia,by lia,sg.mono (by decide)⟩,?_⟩;refine Zu (o:=.lst [.int lo,.int (max (a^n.toNat) (b^n.toNat))]) hT (d:=.int lo) rfl ?_;refine⟨zf,?_⟩;refine Zu (o:=.lst [.int lo,.int (max (a^n.toNat) (b^n.toNat))]) hT (d:=.int (max (a^n.toNat) (b^n.toNat))) rfl ?_;exact⟨zf,bC _ _ _ pr e1 rfl⟩
  have T0:Pre S ((S++[Ob.lst [.int (a^n.toNat),.int (b^n.toNat)]])++[Ob.lst ([min (a^n.toNat) (b^n.toNat),max (a^n.toNat) (b^n.toNat)].map D.int)]):=Pre.refl.push.push;refine ifD (λe=>?_) (λe=>?_)
  ·refine ifD (λc1=>?_) (λc1=>?_)
   ·refine ifD (λc2=>?_) (λc2=>?_)
    ·refine zdj (n:=(S++[Ob.lst [.int (a^n.toNat),.int (b^n.toNat)]]).length) (k:=0) (j:=0) (v:=.int 0) (λK hK=>by exact hK) (λK hK=>by exact hK) (λK hK=>by exact hK) (Zy _ _) rfl ?_;refine tail 0 _ ?_ (Rm T0 (by simp)) (Yu (Zy _ _));unfold Yg;rw[if_pos ⟨by lia,by lia,by lia⟩]
    ·exact tail _ _ (low λz=>c2 z.2.2) T0 (Zy _ _)
   ·exact tail _ _ (low λz=>c1 z.2.1) T0 (Zy _ _)
  ·exact tail _ _ (low λz=>e z.1) T0 (Zy _ _)⟩))
def EH  (PU:Df K mg q57 Pj VJ):Fk P w K mg base 1 q57 VJ Rk:=
 PU.mk' (ZD (k:=0) PU.F DP (λ_ _ _ _=>nP λ_ _=>nP λ_ _=>nN:Ln (Rk) 2) λ_ _ _ _ _ _ hr=>⟨_,(Zh (Zt (ZR (Za (Zf ZQ (Zi (dv 0) Zd) (Zi (dv 1) Zd)) (Za (Zf ZQ (Zi (dv 0) Zd) (Zi (dv 1) Zd)) Ze))))),λds S Q ex h=>by
  replace h:=ePP h;obtain⟨_,_,_,_,rfl,h⟩:=h;exact h⟩)
def Bq  (NY:Df K mg q58 O7 V2):Fk P w K mg base 1 q58 V2 R7:=
 NY.mk' (ZD (k:=0) NY.F zaZ (λ_ _ _ _=>nP λ_ _=>nP λ_ _=>nN:Ln (R7) 2) λ_ _ _ _ _ _ hr=>⟨_,(Zh (Zt (ZR (Za (Zf Yr (Zi (dv 0) Zd) (Zi (dv 1) Zd)) (Za (Zf Yr (Zi (dv 0) Zd) (Zi (dv 1) Zd)) Ze))))),λds S Q ex h=>by
  replace h:=ePP h;obtain⟨_,_,_,_,rfl,h⟩:=h;exact h⟩)
def zct  (PV:Df K mg q27 Om Uq)(Wm:mg "sorted"=none):Fk P w K mg base 1 q27 Uq Qm:=
 PV.mk' (Wa (ZD (k:=0) PV.F Fz (X0 (λ_ _ _ _=>nP λ_ _=>nP λ_ _=>nI λ_=>nN:Ln (Qm) 3)) λ_ _ _ _ _ _ hr=>⟨_,(Zg (Zw (i:=3) Fz.nd (ZM (ZI IK) rfl Wm Boot.«sorted» (Za (Yo (Za (Zf ZV (Zi (dv 0) Zd) (Zi (dv 1) Zd)) (Za (Zf ZV (Zi (dv 0) Zd) (Zi (dv 1) Zd)) (Za (Zf ZV (Zi (dv 0) Zd) (Zi (dv 1) Zd)) (Za (Zf ZV (Zi (dv 0) Zd) (Zi (dv 1) Zd)) Ze))))) Ze))) (Zh (Zt (ZR (Za (Zf Y2 (Zz (dv 3) Zd) (dv 2)) (Za (WK WA (Zf Y2 (WK WA (Zz (dv 3) Zd)) (dv 2))) Ze)))))),λds S Q ex h=>by
  obtain⟨Q0,ex0,rfl,rfl,h⟩:=h;replace h:=ePPI h;obtain⟨a,b,c,d,g,rfl,h⟩:=h;obtain⟨⟨sa,sb,sc,sd,g1,g2⟩,h⟩:=h;have sg:Sz 21 g:=Sz.of 1000000 (by lia);refine⟨ZU sa sc,ZU sa sd,ZU sb sc,ZU sb sd,?_⟩;refine Ju (n:=S.length) (o:=.lst [.int (a*c),.int (a*d),.int (b*c),.int (b*d)]) (ns:=[a*c,a*d,b*c,b*d]) (ZS (Zy _ _) rfl) rfl (by simp) λms p o=>?_
  obtain⟨x,y,rfl⟩:=sort4 p o;refine Zu (o:=.lst ([mn4 a b c d,x,y,mx4 a b c d].map D.int)) (Zy _ _) (d:=.int (mn4 a b c d)) rfl ?_;refine⟨sg.fd (by lia),?_⟩;refine Zu (o:=.lst ([mn4 a b c d,x,y,mx4 a b c d].map D.int)) (Zy _ _) (d:=.int (mx4 a b c d)) rfl ?_;exact⟨sg.fd (by lia),Pre.refl.push.push,Vm,h⟩⟩))
def zcz  (OC:Df K mg q63 PC Sw)(XT:Fk P w K mg base 1 q27 Uq Qm)(Wr:Fk P w K mg base 1 q58 V2 R7)(Ww:Fk P w K mg base 1 q57 VJ Rk)(Td:Fk P w K mg base 2 q42 Th P8):Fk P w K mg base 3 q63 Sw Iq:=
 OC.mk' (ZD (k:=2) OC.F Nv (λ_ _ _ _=>nD λ_=>nR λ_=>nR λ_=>nI λ_=>nN:Ln (Iq) 4) λ_ _ _ _ _ _ hr=>⟨_,(Zg (Zw (i:=4) Nv.nd (Zi (dv 0) Zd)) (Zg (ZN (ZL (ZT hr) (dv 4) Z3 (ZE _)) (Zh (Zt (ZR (Za (Zf Y2 (Zf ZV (Zi (dv 0) Zd) (dv 3)) (Zi (dv 0) Zd)) (Za (WK WA (Zf Y2 (Zf ZV (WK WA (Zi (dv 0) Zd)) (dv 3)) (Zi (dv 0) Zd))) Ze))))) ZO) (Zg (ZN (ZL (ZT hr) (dv 4) Z3 (ZE _)) (Zh (Zt (Zz (dv 2) (Zi (dv 0) Zd)))) ZO) (Zg (Zw (i:=5) Nv.nd (Zz (dv 1) (Zi (dv 0) Zd))) (Zg (ZN (ZL (ZT hr) (dv 4) Z3 (ZE _)) (Zh (Zt (Zk Td hr (Za (dv 5) (Za (Zi (dv 0) Zd) (Za (dv 3) Ze)))))) ZO) (Zg (Zw (i:=6) Nv.nd (Zz (dv 1) (Zi (dv 0) Zd))) (Zg (ZN (ZL (ZT hr) (dv 4) Z3 (ZE _)) (Zh (Zt (Zk Ww hr (Za (dv 5) (Za (dv 6) Ze))))) ZO) (Zg (ZN (ZL (ZT hr) (dv 4) Z3 (ZE _)) (Zh (Zt (Zk Wr hr (Za (dv 5) (Za (dv 6) Ze))))) ZO) (Zh (Zt (Zk XT hr (Za (dv 5) (Za (dv 6) (Za (dv 3) Ze)))))))))))))),λds S Q ex h=>by
  replace h:=eDRRI h;obtain⟨d,w,p,g,rfl,h⟩:=h;obtain⟨v,vs,bs,rfl,hw,hp,ok,s1,hg,h⟩:=h;have sg:Sz 21 g:=Sz.of 1000000 (by lia);cases v with
  | number x y=>
   have sx:Sz 31 x:=Sz.of (10^9) ok.2.2
   have sy:Sz 31 y:=Sz.of (10^9) (by have:=ok.1;lia);refine⟨ZU sx sg,sy.fd (by have:=ok.1;lia),ZU sx.neg sg,sy.fd (by have:=ok.1;lia),?_⟩;have e:-x*g=-(x*g):=yN _ _
   show Q (.tup [.int (x*g/y),.int (-(-x*g/y))]) S;rw[e];exact h
  | unknown k=>exact Zu (o:=.lst (bs.map frD)) hp (Z1 ok) h
  | power i m=>
   have a:=s1.at ok.1;obtain⟨ok1,m2,m6⟩:=ok;refine Zu (o:=.lst (vs.map frD)) hw (Z1 ok1) ?_;exact⟨⟨by lia,m6,a.2.1,a.2.2,hg.1,hg.2⟩,h⟩
  | times i j=>
   have a:=s1.at ok.1
   have b:=s1.at ok.2;refine Zu (o:=.lst (vs.map frD)) hw (Z1 ok.1) ?_;refine Zu (o:=.lst (vs.map frD)) hw (Z1 ok.2) ?_;exact⟨⟨a.2.1.mono (by decide),a.2.2.mono (by decide),b.2.1.mono (by decide),b.2.2.mono (by decide),hg.1,hg.2⟩,h⟩
  | plus i j=>
   refine Zu (o:=.lst (vs.map frD)) hw (Z1 ok.1) ?_;exact Zu (o:=.lst (vs.map frD)) hw (Z1 ok.2) h
  | minus i j=>
   refine Zu (o:=.lst (vs.map frD)) hw (Z1 ok.1) ?_;exact Zu (o:=.lst (vs.map frD)) hw (Z1 ok.2) h⟩)
def zar  (Ms:Df K mg q69 Lh UW)(Yd:Fk P w K mg base 2 q29 Wc W5)(Xp:Fk P w K mg base 1 q40 WZ VP):Fk P w K mg base 3 q69 UW P6:=
 Ms.mk' (ZD (k:=2) Ms.F JK (λ_ _ _ _=>nR λ_=>nI λ_=>nI λ_=>nN:Ln (P6) 3) λ_ _ _ _ _ _ hr=>⟨_,(Zg (ZN (ZL X8 (dv 2) Zd (ZE _)) (Zh (Zt (ZR (Za Zd (Za Zd Ze))))) ZO) (Zg (ZN (Xq (Zk Xp hr (Za (dv 0) Ze))) (Zg (Zw (i:=3) JK.nd (Zf Y2 (Zk Yd hr (Za (dv 0) (Za (Zf ZQ Zd (dv 1)) Ze))) (Zz (Yo (Za Zd (Za (Zf Xh Zd Zd) (Za (Zf Xh Zd Zd) (Za (Zf Xh Zd Zd) (Za (Zf Xh Zd Zd) Ze)))))) (dv 2)))) (Zh (Zt (ZR (Za (Zf Yz (dv 3) (Zf Xh Zd Zd)) (Za (Zf Yz (Zf Y2 (dv 3) (Zf Xh Zd Zd)) (Zf Xh Zd Zd)) Ze)))))) ZO) (Zg (Zw (i:=3) JK.nd (Zk Yd hr (Za (dv 0) (Za (Zf ZQ (Zf ZQ Zd (Zf ZV Zd (dv 1))) (dv 2)) Ze)))) (Zg (ZN (ZL (UB hr) (Zf ZY (dv 3) Zd) Zd (ZE _)) (Zh (Zt (ZR (Za Zd (Za Zd Ze))))) ZO) (Zh (Zt (ZR (Za (Zf ZY (Zf Z9 (dv 3) Zd) Zd) (Za (Zf ZY (Zf Z9 (dv 3) Zd) Zd) Ze))))))))),λds S Q ex h=>by
  replace h:=eRII h;obtain⟨sc,at_,w,rfl,h⟩:=h;rcases h with ⟨hw,h⟩|⟨w0,h⟩
  ·refine ifD (λ_=>h) (λe=>absurd hw e)
  refine ifD (λe=>absurd e (by lia)) (λ_=>?_);obtain⟨cs,hs,ha,hw,h⟩:=h;refine⟨cs,hs,?_⟩;cases frS cs
  ·refine⟨IntMulOk.of_left (by decide),cs,hs,⟨by lia,by lia⟩,λv=>?_⟩;refine ifN (λe=>h _ 0 0 (λ_ _ e=>e) (by decide) (by decide) (by decide) (by decide)) (λe=>?_);exact h _ (v/3%5) (v/15%5) (λ_ _ e=>e) (by lia) (by lia) (by lia) (by lia)
  ·refine⟨cs,hs,⟨by lia,by lia⟩,λv=>?_⟩;obtain⟨p,ep,p1,p2⟩:∃p:Int,atI [D.int 1,.int (10^12),.int (10^24),.int (10^36),.int (10^48)] w=some (.int p)/\1<=p/\p<=10^48:=by
    have e:w=0\/w=1\/w=2\/w=3\/w=4:=by lia
    rcases e with rfl|rfl|rfl|rfl|rfl
    ·exact⟨_,rfl,by decide,by decide⟩
    ·exact⟨_,rfl,by decide,by decide⟩
    ·exact⟨_,rfl,by decide,by decide⟩
    ·exact⟨_,rfl,by decide,by decide⟩
    ·exact⟨_,rfl,by decide,by decide⟩
   refine Zu (i:=w) (o:=.lst [D.int 1,.int (10^12),.int (10^24),.int (10^36),.int (10^48)]) (Zy _ _) ep ?_;refine⟨(Sz.of (n:=200) (i:=p) (10^48) (by lia)).fd (by lia),?_⟩;have r1:=Yl (a:=v/p) (b:=10^6) (by decide)
   have r2:=Yl (a:=v/p/10^6) (b:=10^6) (by decide);exact⟨show (0:Int)<10^6 by decide,⟨show (0:Int)<10^6 by decide,by decide⟩,show (0:Int)<10^6 by decide,h _ (v/p%10^6) (v/p/10^6%10^6) (Ym _) r1.1 r2.1 (Int.le_of_lt r1.2) (Int.le_of_lt r2.2)⟩⟩)
def zcA  (Lo:Df K mg q33 P7 UJ)(Uy:Fk P w K mg base 1 q70 UQ NW)(Ta:Fk P w K mg base 3 q69 UW P6)(Hc:Fk P w K mg base 3 q63 Sw Iq)(ZK:mg q87=none)(ZA:mg "len"=none):Fk P w K mg base 4 q33 UJ Na:=
 Lo.mk' (ZD (k:=3) Lo.F KY (λ_ _ _ _=>nR λ_=>nR λ_=>nI λ_=>nR λ_=>nI λ_=>nN:Ln (Na) 5) λ_ _ _ _ _ _ hr=>⟨_,(Zg (Zw (i:=5) KY.nd (Yo Ze)) (Zg (Y3 (i:=6) PassesOwn.never rfl KY.nd rfl (Or.inl rfl) rfl ZK (Za (ZM (ZI ZW) rfl ZA Boot.«len» (Za (dv 0) Ze)) Ze) (Zh (Yj (YX (dv 5) (Zk Uy hr (Za (Zk Hc hr (Za (Zz (dv 0) (dv 6)) (Za (dv 5) (Za (dv 1) (Za (dv 2) Ze))))) (Za (Zk Ta hr (Za (dv 3) (Za (dv 6) (Za (dv 4) Ze)))) Ze))))))) (Zh (Zt (dv 5))))),λds S Q ex h=>by
  replace h:=Gp h;obtain⟨nd,bx,g,sc,w,rfl,h⟩:=h;obtain⟨ns,ws,bs,hnd,hbx,net,l9,sb,hg,hw,h⟩:=h;have w1:∀us:LI,us.length<=ns.length->∀i:Int,inR us.length i->1<=ws.getD i.toNat 0:=λus hu i hi=>(net.w1 (i:=i) ⟨hi.1,by have:=hi.2;lia⟩).1
  have w16:∀us:LI,us.length<=ns.length->∀k:Nat,k<us.length->ws.getD k 0<=16:=λus hu k hk=>by
   have z:=(net.w1 (i:=(k:Int)) ⟨by lia,by lia⟩).2
   rwa [zH] at z
  refine ZZ (Zj hnd) ?_;rw[zA];refine⟨⟨by lia,by lia⟩,λk dl' T=>k<=ns.length/\∃us:LI,Pre S T/\T[S.length]?=some (.lst (us.map frD))/\us.length=k/\SzW ws us/\VT ns bs g us/\(w=-1->us=Z8 bs g (ns.take k))/\∃o6:Option D,dl'=[some (.ref nd),some (.ref bx),some (.int g),some (.ref sc),some (.int w),some (.ref S.length),o6],⟨zO _,[],Ym _,Zy _ _,rfl,λk p hp=>by simp at hp,λk v p _ hp=>by simp at hp,λ_=>rfl,_,rfl⟩,?_⟩;rintro k dl' T ⟨hk,us,pr,hu,lu,sw,cl,ef,o6,rfl⟩;rw[zH];refine YD (λc=>?_) (λc=>?_)
  ·have hkv:k<ns.length:=by lia
   have hv:=zC hkv;generalize ns[k]=v at hv;have okv:v.ok us.length bs.length:=by rw[lu];exact(net.ok k v hv).1
   have sp:=sw.spn (w16 us (by lia))
   have zz:=fw_w2 sw sb hg (w1 us (by lia)) v okv
   have le:=Nd.fw_le (sp.mono (by decide:1000<=6000)) (sb.mono (by decide)) hg.1 v okv
   have ew:ws.getD us.length 0=v.wt ws:=by rw[lu];exact(net.ok k v hv).2.1
   have wp:=(net.ok k v hv).2.2.1;refine VN (n:=S.length) (xs:=us.map frD) (λK hK=>by exact hK) hu (λK hK=>?_) (by rw[zA];lia);refine Zu (o:=.lst (ns.map Nd.d)) (pr _ _ hnd) (JL hv) ?_;refine⟨v,us,bs,rfl,hu,pr _ _ hbx,okv,sp.mono (by decide),hg,?_⟩;have mk:∀(U:Sto)(x y:Int),Pre T U->0<=x->0<=y->x<=10^6->y<=10^6->(w=-1->x=0/\y=0)->K (frD ((v.fw us bs g).1-x,(v.fw us bs g).2+y)) U:=λU x y pU x0 y0 x1 y1 exy=>by
    have s1:=(Q9 zz.1 (by lia) (show x.natAbs<=10^6 by lia)).1
    have s2:=(Q9 zz.2 (by lia) (show y.natAbs<=10^6 by lia)).2;rw[show 60*v.wt ws-2+1=60*v.wt ws-1 by lia] at s1 s2;refine hK (frD ((v.fw us bs g).1-x,(v.fw us bs g).2+y)) U (pU _ _ hu) ?_;refine⟨by lia,us++[((v.fw us bs g).1-x,(v.fw us bs g).2+y)],λx o e=>Yb (pU _ _ (pr x o e)) (by have:=Z4 e;lia),by rw[yC];exact Yu (pU _ _ hu),by rw[zI,lu];rfl,sw.snoc (by show (v.fw us bs g).1-x<=(v.fw us bs g).2+y;lia) (by rw[ew];exact s1) (by rw[ew];exact s2),AL net cl (by rw[lu];exact hv) ⟨by show (v.fw us bs g).1-x<=_;lia,by show _<=(v.fw us bs g).2+y;lia⟩,λhw1=>?_,_,rfl⟩;rw[W0 hv,NG,<- ef hw1,(exy hw1).1,(exy hw1).2,Int.sub_zero,Int.add_zero]
   rcases hw with hw|⟨hw,cs,hs⟩
   ·exact .inl ⟨by lia,mk T 0 0 (λ_ _ e=>e) (by decide) (by decide) (by decide) (by decide) (λ_=>⟨rfl,rfl⟩)⟩
   ·exact .inr ⟨hw.1,cs,pr _ _ hs,⟨by lia,by lia⟩,⟨by lia,by lia⟩,λU x y pU x0 y0 x1 y1=>mk U x y pU x0 y0 x1 y1 (λe=>by lia)⟩
  ·have e:k=ns.length:=by lia
   subst e;exact h _ _ us pr (zD _) hu lu sw cl (λe=>by rw[ef e,xS])⟩)
def zcH  (Lv:Df K mg q65 R6 Rc)(Wk:Fk P w K mg base 1 q99 UT ME)(X2:Fk P w K mg base 1 q30 VE UI)(Uo:Fk P w K mg base 4 q33 UJ Na):Fk P w K mg base 5 q65 Rc KD:=
 Lv.mk' (ZD (k:=4) Lv.F OB (λ_ _ _ _=>nR λ_=>nI λ_=>nR λ_=>nI λ_=>nI λ_=>nN:Ln (KD) 5) λ_ _ _ _ _ _ hr=>⟨_,(Zg (VM (x:="_law_span") (N:=[]) (caps:=[]) (ar:=Zo R6) rfl rfl csc rfl (by decide) (i:=5) OB.nd rfl rfl (dv 2) (λ_ _ _ _ _ _=>Yt) (λ_ _ _ _ _ _=>(ZR (Za (Zf Z9 (Zf ZQ (Zi (dv 0) Zd) (Zi (dv 0) Zd)) Zd) (Za (Zf Z9 (Zf ZQ (Zi (dv 0) Zd) (Zi (dv 0) Zd)) Zd) Ze))))) (Zg (Zw (i:=6) OB.nd (Zi (Zz (Zk Uo hr (Za (dv 0) (Za (dv 5) (Za (dv 3) (Za (Yo Ze) (Za (WK WA Zd) Ze)))))) (dv 1)) Zd)) (Zg (Zw (i:=7) OB.nd (Zk X2 hr (Za (Zf Y2 (Zf ZV (dv 6) (dv 4)) (dv 3)) (Za (dv 4) Ze)))) (Zh (Zt (Zk Wk hr (Za (dv 0) (Za (ZR (Za Z3 (Za (Zi (dv 7) Zd) (Za (Zi (dv 7) Zd) Ze)))) Ze)))))))),λds S Q ex h=>by
  replace h:=zaN h;obtain⟨a,at',b,g,parts,rfl,h⟩:=h;obtain⟨q,ns,ws,bs,j,ha,hb,ab,net,hq,q4,rfl,hj,l7,hg,hp,sb,vj,h⟩:=h;have la:=Z4 ha;refine XN (n:=b) (S1:=S) (o:=.lst (bs.map frD)) VH (λK hK=>by exact hK) hb (by show (bs.map frD).length<=1000;rw[zA];lia) (λx hx S3 K3 p3 hK3=>?_) ?_
  ·obtain⟨v,_,rfl⟩:=zJ.mp (show x∈bs.map frD from hx);exact hK3
  have ei:(Zq (Ob.lst (bs.map frD))).map VH=(bs.map ZP).map frD:=L7 bs;rw[ei];have netC:Z7 (bs.map ZP).length ns ws:=by rw[zA,<- hq];exact net
  have pS:Pre S (S++[Ob.lst ((bs.map ZP).map frD)]++[Ob.lst []]):=YU (Ym _);refine⟨ns,ws,bs.map ZP,Zj (Zj ha),Zj (Zy _ _),netC,by lia,sb.mids,hg,.inl rfl,λT m vs pr lm hV lv szw cl ef=>?_⟩;have pT:Pre S T:=λx o e=>pr _ _ (pS _ _ e)
  have w16:∀k:Nat,k<ns.length->ws.getD k 0<=16:=λk hk=>(net.w1 (i:=k) ⟨by lia,by lia⟩).2
  have spV:=szw.spn (λk hk=>w16 k (by lia))
  have zj:=spV.at (i:=(j:Int)) ⟨by lia,by lia⟩;refine Zu (o:=.lst (vs.map frD)) (i:=(j:Int)) hV (Z1 ⟨by lia,by lia⟩) ?_;rw[<- ef rfl] at vj;obtain⟨v1,v2,v3⟩:=vj;have sp:Sz 12 parts:=Sz.of 1000 (by lia)
  have sg:Sz 21 g:=Sz.of (10^6) (by lia);generalize gt vs (j:Int)=w at zj v1 v2 v3 ⊢;refine⟨ZU zj.2.1 sp,sg.fd (by lia),?_⟩;have tb:(w.1*parts/g).natAbs<=100000000:=by
   have a1:=UA (x:=w.1) (y:=parts) (A:=(100000:Int)*g) (B:=1000) ⟨v2,by lia⟩ ⟨by lia,by lia⟩
   have e:(100000:Int)*g*1000=100000000*g:=by lia
   rw[e] at a1;have u1:w.1*parts/g<=100000000:=Int.ediv_le_of_le_mul (by lia) (by lia)
   have u2:-100000000<=w.1*parts/g:=Int.le_ediv_of_mul_le (by lia) (by lia);lia
  refine⟨⟨show 0<parts by lia,Sz.of (n:=4000) 1000 (by lia)⟩,λt d h1 h2 _ h4 h5=>?_⟩;refine⟨q,.number t d,ns,ws,rfl,pT _ _ ha,by lia,net,⟨⟨h1,by lia⟩,h2,by lia⟩,show 1<=16 by decide,λT2 i ns' ws' gr li hi wi _=>?_⟩;refine h T2 i ns' ws' ⟨gr.net,gr.pn,gr.pw,gr.nd,by have:=gr.len;have:=FF pT;lia,λx o hx e=>gr.kp x o hx (pT _ _ e)⟩ li wi⟩)
def Eb  (NV:Df K mg q54 Tj SF)(Wk:Fk P w K mg base 1 q99 UT ME)(Ki:Fk P w K mg base 5 q65 Rc KD)(Yd:Fk P w K mg base 2 q29 Wc W5)(X2:Fk P w K mg base 1 q30 VE UI)(U5:Fk P w K mg base 3 q68 Ux MV)(Xp:Fk P w K mg base 1 q40 WZ VP)(Ho:Fk P w K mg base 4 q23 SU Km)(ZK:mg q87=none)(XW:mg "int"=none)(ZA:mg "len"=none):Fk P w K mg base 6 q54 SF IP:=
 NV.mk' (ZD (k:=5) NV.F Xk (λ_ _ _ _=>nR λ_=>nI λ_=>nI λ_=>nR λ_=>nN:Ln (IP) 4) λ_ _ _ _ _ _ hr=>⟨_,(Zg (Ng (x:="_law_k") (N:=[]) (caps:=[]) (ar:=Zo Tj) rfl rfl csc rfl (by decide) (i:=4) Xk.nd rfl rfl rfl ZK (Za (dv 1) Ze) (λ_ _ _ _ _ _=>Yt) (λ_ _ _ _ _ _=>(ZR (Za Z3 (Za (dv 0) Ze))))) (Zg (Ng (x:="_law_k") (N:=[]) (caps:=[]) (ar:=Zo Tj) rfl rfl csc rfl (by decide) (i:=5) Xk.nd rfl rfl rfl ZK (Za (dv 1) Ze) (λ_ _ _ _ _ _=>Yt) (λ_ _ _ _ _ _=>Zd)) (Zg (ZN (Xq (Zk Xp hr (Za (dv 0) Ze))) (Zh (Zt (Zk Ho hr (Za (dv 0) (Za (dv 4) (Za (dv 5) Ze)))))) ZO) (Zg (JP (i:=6) PassesOwn.never rfl Xk.nd rfl (Or.inl rfl) rfl ZK (Za Zd (Za Zd Ze)) (Zh (Yj (Zk U5 hr (Za (dv 4) (Za (dv 5) (Za (Zk Yd hr (Za (dv 0) (Za (dv 6) Ze))) (Za Zd (Za Y8 Ze))))))))) (Zg (Zw (i:=7) Xk.nd (ZM (ZI ZW) rfl ZA Boot.«len» (Za (dv 4) Ze))) (Zg (Zw (i:=8) Xk.nd (Yo Ze)) (Zg (Y3 (i:=9) PassesOwn.never rfl Xk.nd rfl (Or.inl rfl) rfl ZK (Za (dv 1) Ze) (Zg (Zw (i:=10) Xk.nd (Zk Yd hr (Za (dv 0) (Za (Zf ZQ Zd (dv 9)) Ze)))) (Zg (Zw (i:=11) Xk.nd (Zk X2 hr (Za (Zf Yr (Zf ZY (dv 10) Zd) Zd) (Za (Zf ZQ Zd (Zf ZY (Zf Z9 (dv 10) Zd) Zd)) Ze)))) (Zg (Zw (i:=12) Xk.nd (Zk Wk hr (Za (dv 4) (Za (ZR (Za Z3 (Za (Zi (dv 11) Zd) (Za (Zi (dv 11) Zd) Ze)))) Ze)))) (Zg (Zw (i:=13) Xk.nd (Zk Wk hr (Za (dv 4) (Za (ZR (Za Z3 (Za (dv 12) (Za (Zf Yz (Zf Z9 (dv 10) Zd) (dv 7)) Ze)))) Ze)))) (Zg (Y3 (i:=6) PassesOwn.never rfl Xk.nd rfl (Or.inl rfl) rfl ZK (Za (dv 1) Ze) (Zg (Zw (i:=14) Xk.nd (Zf ZQ (Zf Yr (Zf ZY (Zk Yd hr (Za (dv 0) (Za (Zf ZQ (Zf ZQ Zd (Zf ZV Zd (dv 9))) (dv 6)) Ze))) Zd) Zd) (Zf ZV Zd (Xo OL rfl XW Boot.«int» (Za (YK (ZT hr) (dv 9) (dv 6) (ZE _)) Ze))))) (Zg (Zw (i:=15) Xk.nd (Zk Wk hr (Za (dv 4) (Za (ZR (Za Z3 (Za (Zk Wk hr (Za (dv 4) (Za (ZR (Za Z3 (Za (dv 14) (Za Zd Ze)))) Ze))) (Za (dv 6) Ze)))) Ze)))) (Zh (Zw (i:=13) Xk.nd (Zk Wk hr (Za (dv 4) (Za (ZR (Za Z3 (Za (dv 15) (Za (dv 13) Ze)))) Ze)))))))) (Zg (Zw (i:=12) Xk.nd (Zk Ki hr (Za (dv 4) (Za (dv 13) (Za (dv 3) (Za (dv 2) (Za (Zf ZQ Zd (Zf ZY (Zk Yd hr (Za (dv 0) (Za (Zf ZQ Zd (dv 9)) Ze))) Zd)) Ze))))))) (Zh (Yj (YX (dv 8) (ZR (Za Z3 (Za (Zk Wk hr (Za (dv 4) (Za (ZR (Za Z3 (Za (dv 13) (Za (dv 12) Ze)))) Ze))) Ze))))))))))))) (Zh (Zt (ZR (Za (dv 4) (Za (dv 8) Ze)))))))))))),λds S Q ex h=>by
  replace h:=eRIIR h;obtain⟨sc,qi,g,b,rfl,h⟩:=h;obtain⟨cs,q,bs,hsc,⟨rfl,q1,q3⟩,hb,lb,c63,hg,sb,zb,h⟩:=h;have net0:=Et q;refine Sk (j:=((q:Nat):Int)) (S1:=S) (λk=>.tup [.str "unknown",.int (k:Int)]) (λK hK=>by exact hK) ⟨by lia,by lia⟩ (λk hk S2 K pr hK=>by exact hK) ?_;have eN:((List.range ((q:Nat):Int).toNat).map λ(k:Nat)=>D.tup [.str "unknown",.int (k:Int)])=((List.range q).map λ(k:Nat)=>Nd.unknown (k:Int)).map Nd.d:=by
   rw[zU,zH];rfl
  rw[eN];refine Sk (j:=((q:Nat):Int)) (S1:=S++[.lst (((List.range q).map λ(k:Nat)=>Nd.unknown (k:Int)).map Nd.d)]) (λ_=>.int 1) (λK hK=>by exact hK) ⟨by lia,by lia⟩ (λk hk S2 K pr hK=>by exact hK) ?_;have eW:((List.range ((q:Nat):Int).toNat).map λ(_:Nat)=>D.int 1)=((List.range q).map λ_=>(1:Nat)).map wtD:=by
   rw[zU,zH];rfl
  rw[eW];have lns:((List.range q).map λ(k:Nat)=>Nd.unknown (k:Int)).length=q:=by rw[zA,xU]
  have unk:∀k:Nat,k<q->((List.range q).map λ(k:Nat)=>Nd.unknown (k:Int))[k]?=some (.unknown (k:Int)):=λk hk=>by rw[zG,xV hk];rfl
  have ha:(S++[.lst (((List.range q).map λ(k:Nat)=>Nd.unknown (k:Int)).map Nd.d)]++[.lst (((List.range q).map λ_=>(1:Nat)).map wtD)])[S.length]?=some (.lst (((List.range q).map λ(k:Nat)=>Nd.unknown (k:Int)).map Nd.d)):=Zj (Zy _ _)
  have hw:(S++[.lst (((List.range q).map λ(k:Nat)=>Nd.unknown (k:Int)).map Nd.d)]++[.lst (((List.range q).map λ_=>(1:Nat)).map wtD)])[(S++[Ob.lst (((List.range q).map λ(k:Nat)=>Nd.unknown (k:Int)).map Nd.d)]).length]?=some (.lst (((List.range q).map λ_=>(1:Nat)).map wtD)):=Zy _ _
  have eL:(S++[Ob.lst (((List.range q).map λ(k:Nat)=>Nd.unknown (k:Int)).map Nd.d)]).length=S.length+1:=by simp
  rw[eL] at hw ⊢;have pS:Pre S (S++[.lst (((List.range q).map λ(k:Nat)=>Nd.unknown (k:Int)).map Nd.d)]++[.lst (((List.range q).map λ_=>(1:Nat)).map wtD)]):=LS (LS Pre.refl _) _
  have lS:(S++[Ob.lst (((List.range q).map λ(k:Nat)=>Nd.unknown (k:Int)).map Nd.d)]++[Ob.lst (((List.range q).map λ_=>(1:Nat)).map wtD)]).length=S.length+2:=by simp
  have lit0:∀v∈((List.range q).map λ(k:Nat)=>Nd.unknown (k:Int)),v.lit:=λv hv=>by
   obtain⟨k,_,er⟩:=zJ.mp hv;subst er;trivial
  have w80:∀i:Nat,((List.range q).map λ_=>(1:Nat)).getD i 0<=8:=λi=>by
   rw[zK,zG];cases (List.range q)[i]? with
   | none=>exact zO _
   | some _=>show 1<=8;decide
  generalize S++[.lst (((List.range q).map λ(k:Nat)=>Nd.unknown (k:Int)).map Nd.d)]++[.lst (((List.range q).map λ_=>(1:Nat)).map wtD)]=S0 at ha hw pS lS ⊢;generalize ((List.range q).map λ(k:Nat)=>Nd.unknown (k:Int))=ns at ha net0 lns unk lit0;generalize ((List.range q).map λ_=>(1:Nat))=ws at hw net0 w80;clear eN eW eL;have hs0:=pS _ _ hsc;refine⟨cs,hs0,?_⟩;refine YD (λef=>?_) (λef=>?_)
  ·refine⟨cs,q,ns,ws,hs0,ha,hw,by lia,net0,⟨by lia,by lia⟩,lns,c63,λT m ns' ws' rs n' l1 l60 hT hR r10 zr lm kp=>?_⟩;exact h T _ m ns' ws' rs n' l1 l60 hT hR r10 zr (zD _) (by lia) (by lia) λx o e=>kp x o (by have:=Z4 e;lia) (by have:=Z4 e;lia) (pS _ _ e)
  ·rw[Bool.not_eq_true] at ef;have zb:=zb ef;dsimp only[JX];refine EA (λdl2 S2=>(∃(ns':List Nd)(ws':List Nat),Z7 q ns' ws'/\(∀v∈ns',v.lit)/\(∀k:Nat,k<q->ns'[k]?=some (.unknown (k:Int)))/\(∀i:Nat,ws'.getD i 0<=8)/\ns'.length<=9/\S2[S.length]?=some (.lst (ns'.map Nd.d))/\Pre S S2/\S.length+2<=S2.length)/\∃u:Option D,dl2=[some (.ref sc),some (.int ((q:Nat):Int)),some (.int g),some (.ref b),some (.ref S.length),some (.ref (S.length+1)),u,none,none,none,none,none,none,none,none,none]) (λnx hn=>?_) ?_
   ·refine⟨⟨by decide,by decide,by decide,by decide⟩,λk dl' S'=>k<=6/\(∃(ns':List Nd)(ws':List Nat),Z7 q ns' ws'/\(∀v∈ns',v.lit)/\(∀k:Nat,k<q->ns'[k]?=some (.unknown (k:Int)))/\(∀i:Nat,ws'.getD i 0<=8)/\ns'.length<=3+k/\S'[S.length]?=some (.lst (ns'.map Nd.d))/\S'[S.length+1]?=some (.lst (ws'.map wtD))/\Pre S S'/\S.length+2<=S'.length)/\∃u:Option D,dl'=[some (.ref sc),some (.int ((q:Nat):Int)),some (.int g),some (.ref b),some (.ref S.length),some (.ref (S.length+1)),u,none,none,none,none,none,none,none,none,none],⟨zO _,⟨ns,ws,net0,lit0,unk,w80,by lia,ha,hw,pS,by lia⟩,_,rfl⟩,?_⟩;rintro k dl' S' ⟨hk,⟨ns',ws',net',li,un,w8,l3,e1,e2,pr,lS'⟩,u,rfl⟩;show if k<((20:Int)-14).toNat then _ else _
    have lq:q<=ns'.length:=by
     have:=(zF.mp (un (q-1) (by lia))).1;lia
    refine YD (λc=>?_) (λc=>?_)
    ·have c6:k<6:=c;refine⟨cs,pr _ _ hsc,⟨show (0:Int)<=14+(k:Int) by lia,show 14+(k:Int)<=1000 by lia⟩,λv=>?_⟩;refine⟨q,ns',ws',e1,e2,by lia,net',by lia,by lia,by decide,λT ms us n2 hu lt lm t1 t2 lT kT=>?_⟩;obtain⟨u2,rfl,hu⟩:=hu;refine⟨by lia,⟨ns'++ms,ws'++u2,n2,λv hv=>?_,λk hk=>?_,λi=>?_,by rw[zI];lia,t1,t2,λx o e=>?_,by lia⟩,_,rfl⟩
     ·rcases yJ.mp hv with z|z
      ·exact li v z
      ·exact lt rfl v z
     ·rw[zP (by lia)];exact un k hk
     ·by_cases ci:i<ws'.length
      ·rw[Ic ci];exact w8 i
      ·rw[zK,yD (by lia)];cases ew:u2[i-ws'.length]? with
       | none=>exact zO _
       | some w=>
        have z:=hu w (zL ew)
        show w<=8;lia
     ·have:=Z4 e;exact kT x o (by lia) (by lia) (pr _ _ e)
    ·exact hn _ _ ⟨⟨ns',ws',net',li,un,w8,by lia,e1,pr,lS'⟩,_,rfl⟩
   rintro dl2 S2 ⟨⟨ns',ws',net',li,un,w8,l9,e1,pr,lS2⟩,u,rfl⟩;have lq:q<=ns'.length:=by
    have:=(zF.mp (un (q-1) (by lia))).1;lia
   have hP:∀k:Int,inR q k->vI 4 g (gt (bs.map ZP) k):=λk hk=>by
    have h0:=hk.1
    have h1:=hk.2
    have e:=zcX (bs:=bs) ZP (i:=k) ⟨h0,by lia⟩;rw[e];have z:=zb _ (Qs (vs:=bs) (i:=k) ⟨h0,by lia⟩);refine⟨yL _,?_,?_⟩
    ·show -(((4:Nat):Int)*g)<=mid (gt bs k);unfold mid;lia
    ·show mid (gt bs k)<=((4:Nat):Int)*g;unfold mid;lia
   have vb:=Ae (bs:=bs.map ZP) hg.1 net' li hP
   have vb8:∀j:Nat,j<ns'.length->vI 65536 g (gt (Z8 (bs.map ZP) g ns') (j:Int)):=λj hj=>(vb j hj).mono hg.1 (yI (xR (by decide) (w8 j)) (by decide))
   refine ZZ e1 ?_;rw[zA];refine⟨⟨by lia,by lia⟩,λk dl' S'=>k<=q/\(∃(rs:List Nat)(ns2:List Nd)(ws2:List Nat),Gr q S.length (16*k) S2 ns' ws' S' ns2 ws2/\S'[S2.length]?=some (.lst (rs.map λi=>rwD (true,i)))/\rs.length=k/\∀i∈rs,i<ns2.length)/\∃u6 u9 u10 u11 u12 u13 u14 u15:Option D,dl'=[some (.ref sc),some (.int ((q:Nat):Int)),some (.int g),some (.ref b),some (.ref S.length),some (.ref (S.length+1)),u6,some (.int ((ns'.length:Nat):Int)),some (.ref S2.length),u9,u10,u11,u12,u13,u14,u15],⟨zO _,⟨[],ns',ws',Gr.push net' e1 _,Zy _ _,rfl,λi hi=>by simp at hi⟩,_,_,_,_,_,_,_,_,rfl⟩,?_⟩;rintro k dl' S' ⟨hk,⟨rs,ns2,ws2,gr,hR,lr,zr⟩,u6,u9,u10,u11,u12,u13,u14,u15,rfl⟩;rw[zH];have lsc:=Z4 hsc
   have lbb:=Z4 hb;refine YD (λc=>?_) (λc=>?_)
   ·have lt:=Z4 hR
    have ln:=gr.ln
    have nsc:sc≠S.length:=by lia
    have hsS:=gr.kp _ _ nsc (pr _ _ hsc)
    try dsimp only
    refine seqW4 (λdl2 S3=>∃(j:Nat)(ns3:List Nd)(ws3:List Nat),Gr q S.length 2 S' ns2 ws2 S3 ns3 ws3/\j<ns3.length/\ws3.getD j 0<=9/\vI 65536 g (gt (Z8 (bs.map ZP) g ns3) (j:Int))/\∃u6 u10 u11 u12 u14 u15:Option D,dl2=[some (.ref sc),some (.int ((q:Nat):Int)),some (.int g),some (.ref b),some (.ref S.length),some (.ref (S.length+1)),u6,some (.int ((ns'.length:Nat):Int)),some (.ref S2.length),some (.int (k:Int)),u10,u11,u12,some (.int (j:Int)),u14,u15]) (λnx hn=>?_) ?_
    ·refine⟨cs,hsS,⟨by lia,by lia⟩,λv=>?_⟩;have r3:=Yl (a:=v) (b:=3) (by decide)
     have r2:=Yl (a:=v/3) (b:=200) (by decide);refine⟨⟨show 0<1+v/3%200 by lia,Sz.of (n:=4000) 1000 (by lia) th_lt⟩,λt d h1 h2 _ h4 h5=>?_⟩;have t1:t.natAbs<=1:=by lia
     refine⟨q,.number t d,ns2,ws2,rfl,gr.nd,by lia,gr.net,⟨⟨h1,by lia⟩,h2,by lia⟩,show 1<=16 by decide,λT i ns3 ws3 g3 l3 hi3 wi3 _=>?_⟩;have np:(0:Int)<((ns'.length:Nat):Int):=by lia
     have ry:=Yl (a:=v/600) np;obtain⟨y,ey,ly⟩:∃y:Nat,v/600%((ns'.length:Nat):Int)=(y:Int)/\y<ns'.length:=⟨(v/600%((ns'.length:Nat):Int)).toNat,by lia,by lia⟩;have ln3:=g3.ln
     have ga:=gr.trans g3
     have wy:ws3.getD y 0<=8:=by rw[ga.wt net' ly];exact w8 y
     have wi:ws3.getD i 0=1:=wi3;refine⟨np,?_⟩;refine⟨q,.times i y,ns3,ws3,by rw[<- ey];rfl,g3.nd,by lia,g3.net,⟨⟨by lia,by lia⟩,⟨by lia,by lia⟩⟩,?_,λT2 j ns4 ws4 g4 l4 hj4 wj4 _=>?_⟩
     ·show ws3.getD ((i:Nat):Int).toNat 0+ws3.getD ((y:Nat):Int).toNat 0<=16;rw[zH,zH];lia
     ·refine hn _ _ ⟨j,ns4,ws4,g3.trans g4,l4,?_,?_,_,_,_,_,_,_,rfl⟩
      ·rw[wj4];show ws3.getD ((i:Nat):Int).toNat 0+ws3.getD ((y:Nat):Int).toNat 0<=9;rw[zH,zH];lia
      ·rw[RB g4 (v:=.times (i:Int) (y:Int)) ⟨⟨by lia,by lia⟩,⟨by lia,by lia⟩⟩ hj4];have a1:vI 1 g (gt (Z8 (bs.map ZP) g ns3) (i:Int)):=by
        rw[RB g3 (v:=.number t d) ⟨⟨h1,by lia⟩,h2,by lia⟩ hi3];exact vI.number hg.1 h1 (by lia)
       have a2:vI 65536 g (gt (Z8 (bs.map ZP) g ns3) (y:Int)):=by
        rw[ga.fw _ _ ly];exact vb8 y ly
       exact vI.times hg.1 a1 a2
    rintro dl2 S3 ⟨j,ns3,ws3,g3,lj3,wj3,vj3,u6,u10,u11,u12,u14,u15,rfl⟩;have unS:∀l:Nat,l<q->ns3[l]?=some (.unknown (l:Int)):=λl hl=>(gr.trans g3).get (un l hl)
    refine Ye (λdl2 S4=>∃(j:Nat)(ns4:List Nd)(ws4:List Nat),Gr q S.length 11 S' ns2 ws2 S4 ns4 ws4/\j<ns4.length/\ws4.getD j 0<=15/\vI 100000 g (gt (Z8 (bs.map ZP) g ns4) (j:Int))/\∃u6 u10 u11 u12 u14 u15:Option D,dl2=[some (.ref sc),some (.int ((q:Nat):Int)),some (.int g),some (.ref b),some (.ref S.length),some (.ref (S.length+1)),u6,some (.int ((ns'.length:Nat):Int)),some (.ref S2.length),some (.int (k:Int)),u10,u11,u12,some (.int (j:Int)),u14,u15]) (λnx hn=>?_) ?_
    ·refine⟨⟨by lia,by lia⟩,λl dl2 S4=>l<=q/\(∃(j:Nat)(ns4:List Nd)(ws4:List Nat),Gr q S.length (3*l) S3 ns3 ws3 S4 ns4 ws4/\j<ns4.length/\ws4.getD j 0<=9+2*l/\vI (65536+32*l) g (gt (Z8 (bs.map ZP) g ns4) (j:Int))/\∃u6 u10 u11 u12 u14 u15:Option D,dl2=[some (.ref sc),some (.int ((q:Nat):Int)),some (.int g),some (.ref b),some (.ref S.length),some (.ref (S.length+1)),u6,some (.int ((ns'.length:Nat):Int)),some (.ref S2.length),some (.int (k:Int)),u10,u11,u12,some (.int (j:Int)),u14,u15]),⟨zO _,j,ns3,ws3,Gr.refl g3.net g3.nd,lj3,wj3,vj3,_,_,_,_,_,_,rfl⟩,?_⟩;rintro l dl2 S4 ⟨hl,j4,ns4,ws4,g4,lj4,wj4,vj4,v6,v10,v11,v12,v14,v15,rfl⟩;rw[zH];refine YD (λc2=>?_) (λc2=>?_)
     ·have hs4:=g4.kp _ _ nsc (g3.kp _ _ nsc hsS)
      have ln3:=g3.ln
      have ln4:=g4.ln;refine⟨IntMulOk.of_left (by decide),cs,hs4,⟨by lia,by lia⟩,λv=>?_⟩;refine⟨IntMulOk.of_left (by decide),?_⟩;obtain⟨e,he⟩:∃e:Int,(if decide ((k:Int)=(l:Int))=true then (1:Int) else 0)=e:=⟨_,rfl⟩;have e01:0<=e/\e<=1:=by rw[<- he];split<;>lia
      have rv:=Yl (a:=v) (b:=7) (by decide)
      have b8:(v%7-3+5*e).natAbs<=8:=by lia
      have okn:Nd.ok ns4.length q (.number (v%7-3+5*e) 1):=⟨⟨by decide,by decide⟩,by simp,by lia⟩;refine⟨q,.number (v%7-3+5*e) 1,ns4,ws4,by rw[<- he];rfl,g4.nd,by lia,g4.net,okn,show 1<=16 by decide,λT i ns5 ws5 g5 l5 hi5 wi5 _=>?_⟩;have ln5:=g5.ln
      have unl:ns5[l]?=some (.unknown (l:Int)):=g5.get (g4.get (unS l c2))
      have ll:=(zF.mp unl).1
      have wl:ws5.getD l 0=1:=(g5.net.ok l _ unl).2.1
      have wi:ws5.getD i 0=1:=wi5;refine⟨q,.times i l,ns5,ws5,rfl,g5.nd,by lia,g5.net,⟨⟨by lia,by lia⟩,⟨by lia,by lia⟩⟩,?_,λT2 i2 ns6 ws6 g6 l6 hi6 wi6 _=>?_⟩
      ·show ws5.getD ((i:Nat):Int).toNat 0+ws5.getD ((l:Nat):Int).toNat 0<=16;rw[zH,zH];lia
      have ln6:=g6.ln
      have w6:ws6.getD i2 0=2:=by
       rw[wi6];show ws5.getD ((i:Nat):Int).toNat 0+ws5.getD ((l:Nat):Int).toNat 0=2;rw[zH,zH,wl,wi]
      have g56:=g5.trans g6
      have wj6:ws6.getD j4 0<=9+2*l:=by rw[g56.wt g4.net lj4];exact wj4
      refine⟨q,.plus i2 j4,ns6,ws6,rfl,g6.nd,by lia,g6.net,⟨⟨by lia,by lia⟩,⟨by lia,by lia⟩⟩,?_,λT3 j7 ns7 ws7 g7 l7 hj7 wj7 _=>?_⟩
      ·show ws6.getD ((i2:Nat):Int).toNat 0+ws6.getD ((j4:Nat):Int).toNat 0<=16;rw[zH,zH];lia
      refine⟨by lia,j7,ns7,ws7,(g4.trans (g56.trans g7)).mono (by lia),l7,?_,?_,_,_,_,_,_,_,rfl⟩
      ·rw[wj7];show ws6.getD ((i2:Nat):Int).toNat 0+ws6.getD ((j4:Nat):Int).toNat 0<=_;rw[zH,zH];lia
      ·rw[RB g7 (v:=.plus (i2:Int) (j4:Int)) ⟨⟨by lia,by lia⟩,⟨by lia,by lia⟩⟩ hj7];have a1:vI 8 g (gt (Z8 (bs.map ZP) g ns5) (i:Int)):=by
        rw[RB g5 okn hi5];exact vI.number hg.1 (by decide) (by lia)
       have a2:vI 4 g (gt (Z8 (bs.map ZP) g ns5) (l:Int)):=by
        rw[J3 g5.net unl];exact hP (l:Int) ⟨by lia,by lia⟩
       have a3:vI 32 g (gt (Z8 (bs.map ZP) g ns6) (i2:Int)):=by
        rw[RB g6 (v:=.times (i:Int) (l:Int)) ⟨⟨by lia,by lia⟩,⟨by lia,by lia⟩⟩ hi6];exact vI.times hg.1 a1 a2
       have a4:vI (65536+32*l) g (gt (Z8 (bs.map ZP) g ns6) (j4:Int)):=by
        rw[g56.fw _ _ lj4];exact vj4
       exact(a3.plus a4).mono hg.1 (by lia)
     ·refine hn _ _ ⟨j4,ns4,ws4,(g3.trans g4).mono (by lia),lj4,by lia,vj4.mono hg.1 (by lia),_,_,_,_,_,_,rfl⟩
    rintro dl2 S4 ⟨j4,ns4,ws4,g4,lj4,wj4,vj4,u6,u10,u11,u12,u14,u15,rfl⟩;have ln4:=g4.ln;refine⟨cs,g4.kp _ _ nsc hsS,⟨by lia,by lia⟩,λv=>?_⟩;have rv:=Yl (a:=v) (b:=1000) (by decide)
    have gA:=gr.trans g4;refine⟨q,ns4,ws4,bs,j4,g4.nd,gA.kp _ _ (show b≠S.length by lia) (pr _ _ hb),by lia,g4.net,lb.symm,by lia,rfl,lj4,by lia,hg,⟨by lia,by lia⟩,sb,vj4,λT i ns5 ws5 g5 l5 wi5=>?_⟩;have ln5:=g5.ln
    have gB:=g4.trans g5;refine VN (n:=S2.length) (xs:=rs.map λi=>rwD (true,i)) (λK hK=>by exact hK) (gB.kp _ _ (by lia) hR) (λK hK=>?_) (by rw[zA];lia);have wj5:ws5.getD j4 0<=15:=by rw[g5.wt g4.net lj4];exact wj4
    refine⟨q,.minus j4 i,ns5,ws5,rfl,g5.nd,by lia,g5.net,⟨⟨by lia,by lia⟩,⟨by lia,by lia⟩⟩,?_,λT2 j6 ns6 ws6 g6 l6 hj6 wj6 _=>?_⟩
    ·show ws5.getD ((j4:Nat):Int).toNat 0+ws5.getD ((i:Nat):Int).toNat 0<=16;rw[zH,zH];lia
    have gC:=gB.trans g6
    have hR6:=gC.kp _ _ (show S2.length≠S.length by lia) hR;refine hK (rwD (true,j6)) T2 hR6 ?_;refine⟨by lia,⟨rs++[j6],ns6,ws6,((gr.trans gC).mono (by lia)).put (by lia) (zD _),by rw[yC];exact Yu hR6,by rw[zI,lr];rfl,λx hx=>?_⟩,_,_,_,_,_,_,_,_,rfl⟩;rcases yJ.mp hx with hx|hx
    ·have:=zr x hx
     have:=gC.ln;lia
    ·rw[yQ.mp hx];exact l6
   ·have e:k=q:=by lia
    have ln:=gr.ln;refine h _ _ _ ns2 ws2 rs gr.net (by lia) (by lia) gr.nd hR (by lia) zr (zD _) (by lia) (by lia) λx o e=>?_
    exact gr.kp x o (by have:=Z4 e;lia) (pr _ _ e)⟩)
def Br  (M0:Df K mg q44 Oi Rw):Fk P w K mg base 1 q44 Rw Ku:=
 M0.mk' (ZD (k:=0) M0.F AK (λ_ _ _ _=>nR λ_=>nI λ_=>nI λ_=>nI λ_=>nN:Ln (Ku) 4) λ_ _ _ _ _ _ hr=>⟨_,(Zg (ZN (ZL (ZT hr) (Zf ZY (Zf Z9 (dv 1) Zd) Zd) Zd (ZE _)) (Zh (Yj (YX (dv 0) (Zi (dv 0) Zd)))) ZO) (Zg (ZN (ZL (ZT hr) (Zf ZY (Zf Z9 (dv 1) Zd) Zd) Zd (ZE _)) (Zh (Yj (za8 (dv 0) (Za Zd Ze)))) ZO) (Zh (ZN (ZL (ZT hr) (Zf ZY (dv 1) Zd) Zd (ZE _)) (Zh (Yj (Es (dv 0) (Za (Zf Yz (Zf Z9 (dv 1) Zd) (Zf ZQ (dv 3) Zd)) (Za (ZR (Za Z3 (Za (Zf Yz (Zf Z9 (dv 1) Zd) (dv 2)) Ze))) Ze))))) ZO)))),λds S Q ex h=>by
  replace h:=eRIII h;obtain⟨r,c,mn,qi,rfl,h⟩:=h;obtain⟨q,n,is,⟨rfl,q1,q3⟩,⟨rfl,n1,n9⟩,li,hi,hr,h⟩:=h;refine Ye (λdl2 S2=>∃rs:List Nat,S2=S.set r (.lst (rs.map λi=>rwD (true,i)))/\(rs=is\/(c/4%16=5/\rs.length=q+1))/\(∀i∈rs,i<n)/\dl2=[some (.ref r),some (.int c),some (.int (n:Int)),some (.int (q:Int))]) (λnx hx=>?_) ?_
  ·refine ifD (λe=>?_) (λe=>?_)
   ·have h0:is[0]?=some is[0]:=zC (by lia);generalize is[0]=i0 at h0;refine X9 (n:=r) (S1:=S) (xs:=is.map λi=>rwD (true,i)) (y:=rwD (true,i0)) (λK hK=>by exact hK) hr (λK hK=>by exact zaT (o:=.lst (is.map λi=>rwD (true,i))) (i:=0) hr (XU (j:=0) (by show (is.map λi=>rwD (true,i))[0]?=_;rw[zG,h0];rfl)) hK) (by rw[zA];lia) ?_;refine hx _ _ ⟨is++[i0],by rw[yC];rfl,.inr ⟨e,by rw[zI,li];rfl⟩,λi hj=>?_,rfl⟩;rcases yJ.1 hj with hj|hj
    ·exact hi i hj
    ·rw[yQ.mp hj];exact hi i0 (zL h0)
   ·exact hx _ _ ⟨is,(Dn hr).symm,.inl rfl,hi,rfl⟩
  rintro dl2 S2 ⟨rs,rfl,alt,hrs,rfl⟩;have h1:(S.set r (.lst (rs.map λi=>rwD (true,i))))[r]?=some (.lst (rs.map λi=>rwD (true,i))):=Yu hr;refine Ye (λdl2 S2=>∃rs:List Nat,S2=S.set r (.lst (rs.map λi=>rwD (true,i)))/\(rs=is\/rs.length≠q)/\rs.length<=4/\(∀i∈rs,i<n)/\dl2=[some (.ref r),some (.int c),some (.int (n:Int)),some (.int (q:Int))]) (λnx hx=>?_) ?_
  ·refine ifD (λe=>?_) (λe=>?_)
   ·have ers:rs=is:=by
     rcases alt with z|z
     ·exact z
     ·have z1:=z.1
      have e':c/4%16=9:=e;lia
    subst ers;refine zdh (n:=r) (i:=0) (xs:=rs.map λi=>rwD (true,i)) (λK hK=>by exact hK) h1 (λK hK=>by exact hK) ⟨by decide,by rw[zA];lia,by rw[zA];lia⟩ λy=>?_
    refine hx _ _ ⟨rs.drop 1,?_,.inr (by rw[xH];lia),by rw[xH];lia,λi hj=>hrs i (List.mem_of_mem_drop hj),rfl⟩;rw[List.set_set,List.map_drop];congr 2
    match rs with
    | []=>rfl
    | _::_=>rfl
   ·refine hx _ _ ⟨rs,rfl,?_,?_,hrs,rfl⟩
    ·rcases alt with z|z
     ·exact .inl z
     ·exact .inr (by have:=z.2;lia)
    ·rcases alt with z|z
     ·rw[z];lia
     ·have:=z.2;lia
  clear alt hrs h1;clear rs;rintro dl2 S2 ⟨rs,rfl,alt,l4,hrs,rfl⟩;have h1:(S.set r (.lst (rs.map λi=>rwD (true,i))))[r]?=some (.lst (rs.map λi=>rwD (true,i))):=Yu hr;refine ifD (λe=>?_) (λe=>?_)
  ·have np:(0:Int)<(q:Int)+1:=by lia
   have nn:(0:Int)<(n:Int):=by lia
   have xr:=Yl (a:=c/64) np
   have yr:=Yl (a:=c/192) nn;obtain⟨k,hk⟩:∃k:Nat,c/192%(n:Int)=(k:Int):=⟨(c/192%(n:Int)).toNat,by lia⟩;refine zbQ (n:=r) (i:=c/64%((q:Int)+1)) (y:=rwD (false,k)) (xs:=rs.map λi=>rwD (true,i)) (λK hK=>by exact hK) h1 (λK hK=>⟨np,nn,?_⟩) h1 ⟨xr.1,by lia,by rw[zA];lia⟩ ?_
   ·have e9:rwD (false,k)=.tup [.str "least",.int (c/192%(n:Int))]:=by rw[hk];rfl
    rw[e9] at hK;exact hK
   ·generalize (c/64%((q:Int)+1)).toNat=j;have z:=h ((rs.map λi=>((true,i):Bool×Nat)).take j++(false,k)::(rs.map λi=>((true,i):Bool×Nat)).drop j) (λx hx=>?_) (by rw[zI,zX,yB,xH,zA];lia) (by rw[EC];exact alt)
    ·rw[List.set_set];rw[yC,yU,List.map_take,List.map_drop,zU] at z;exact z
    ·rcases yJ.1 hx with hx|hx
     ·obtain⟨i,hi2,rfl⟩:=zJ.mp (List.mem_of_mem_take hx);exact hrs i hi2
     ·rcases zS.mp hx with rfl|hx
      ·show k<n;lia
      ·obtain⟨i,hi2,rfl⟩:=zJ.mp (List.mem_of_mem_drop hx);exact hrs i hi2
  ·have z:=h (rs.map λi=>(true,i)) (λx hx=>by obtain⟨i,hi2,rfl⟩:=zJ.mp hx;exact hrs i hi2) (by rw[zA];lia) (by rw[KO];exact alt);rw[<- HG] at z;exact z⟩)
def Cc  (O9:Df K mg q53 Pu RJ)(Td:Fk P w K mg base 2 q42 Th P8):Fk P w K mg base 3 q53 RJ IL:=
 O9.mk' (ZD (k:=2) O9.F HZ (λ_ _ _ _=>nP λ_ _=>nI λ_=>nI λ_=>nN:Ln (IL) 3) λ_ _ _ _ _ _ hr=>⟨_,(Zg (ZN (ZL Qa (dv 1) Zd (ZE _)) (Zh (Zw (i:=0) HZ.nd (Zk Td hr (Za (dv 0) (Za (Zf Yr (dv 1) Zd) (Za (dv 2) Ze)))))) ZO) (Zh (Zt (ZR (Za (Zf ZV (Zi (dv 0) Zd) (dv 1)) (Za (Zf ZV (Zi (dv 0) Zd) (dv 1)) Ze)))))),λds S Q ex h=>by
  replace h:=ePII h;obtain⟨a,b,n,g,rfl,h⟩:=h;obtain⟨⟨n2,n6,ab,sa,sb,g1,g2⟩,h⟩:=h;have gp:(1:Int)<=g^((n-1).toNat-1):=yP (by lia)
  have p1:Sz 6000 (a^(n-1).toNat):=(sa.pow _).mono (by lia)
  have p2:Sz 6000 (b^(n-1).toNat):=(sb.pow _).mono (by lia)
  have pl:Sz 6000 (Yg a b (n-1).toNat):=by
   unfold Yg;split
   ·exact yF (by decide)
   ·exact Wz p1 p2
  have sm:Sz 10 n:=Sz.of 6 (by lia);refine ifD (λe=>?_) (λe=>?_)
  ·refine⟨⟨by lia,by lia,sa.mono (by decide),sb.mono (by decide),g1,g2⟩,?_⟩;exact⟨ZU (pl.div gp) sm,ZU (VA (Wo p1 p2) gp) sm,h⟩
  ·have e2:n=2:=by lia
   subst e2;rw[Ci (p:=(a,b)) ab] at h;exact⟨ZU sa sm,ZU sb sm,h⟩⟩)
def zcO  (Ov:Df K mg q64 PF TZ)(Ww:Fk P w K mg base 1 q57 VJ Rk)(XT:Fk P w K mg base 1 q27 Uq Qm)(Wr:Fk P w K mg base 1 q58 V2 R7)(Jr:Fk P w K mg base 3 q53 RJ IL):Fk P w K mg base 4 q64 TZ Jg:=
 Ov.mk' (ZD (k:=3) Ov.F Nh (λ_ _ _ _=>nD λ_=>nR λ_=>nR λ_=>nI λ_=>nI λ_=>nN:Ln (Jg) 5) λ_ _ _ _ _ _ hr=>⟨_,(Zg (Zw (i:=5) Nh.nd (Zi (dv 0) Zd)) (Zg (ZN (PDW.pt (Vc (ZL (ZT hr) (dv 5) Z3 (ZE _)) (VO (PDW.pt (LU (ZL (ZT hr) (dv 5) Z3 (ZE _)) (NI (ZL (UB hr) (Zi (dv 0) Zd) (dv 3) (ZE _)))))))) (Zh (Zt (ZR (Za Zd (Za Zd Ze))))) ZO) (Zg (ZN (ZL (ZT hr) (dv 5) Z3 (ZE _)) (Zh (Zt (ZR (Za (dv 4) (Za (dv 4) Ze))))) ZO) (Zg (Zw (i:=6) Nh.nd (Zz (Zz (dv 2) (Zi (dv 0) Zd)) (dv 3))) (Zg (ZN (ZL (ZT hr) (dv 5) Z3 (ZE _)) (Zh (Zt (Zk XT hr (Za (Zk Jr hr (Za (Zz (dv 1) (Zi (dv 0) Zd)) (Za (Zi (dv 0) Zd) (Za (dv 4) Ze)))) (Za (dv 6) (Za (dv 4) Ze)))))) ZO) (Zg (Zw (i:=7) Nh.nd (Zz (Zz (dv 2) (Zi (dv 0) Zd)) (dv 3))) (Zg (ZN (ZL (ZT hr) (dv 5) Z3 (ZE _)) (Zh (Zt (Zk Ww hr (Za (dv 6) (Za (dv 7) Ze))))) ZO) (Zg (ZN (ZL (ZT hr) (dv 5) Z3 (ZE _)) (Zh (Zt (Zk Wr hr (Za (dv 6) (Za (dv 7) Ze))))) ZO) (Zh (Zt (Zk Ww hr (Za (Zk XT hr (Za (Zz (dv 1) (Zi (dv 0) Zd)) (Za (dv 7) (Za (dv 4) Ze)))) (Za (Zk XT hr (Za (Zz (dv 1) (Zi (dv 0) Zd)) (Za (dv 6) (Za (dv 4) Ze)))) Ze))))))))))))),λds S Q ex h=>by
  replace h:=BM h;obtain⟨d,w,s,li,g,rfl,h⟩:=h;obtain⟨v,q,l,vs,sl,ds,rfl,hw,hs,rows,sz,⟨rfl,lq⟩,ok,lv,s1,hg,h⟩:=h;have row:∀i:Int,inR sl.length i->∃a,atI ds i=some (.ref a)/\S[a]?=some (.lst ((sl.getD i.toNat []).map frD))/\atI ((sl.getD i.toNat []).map frD) ((l:Nat):Int)=some (frD (gs sl i l)):=λi hi=>by
   obtain⟨a,ea,_,ha⟩:=rows.at hi;refine⟨a,ea,ha,?_⟩;have z:=Z1 (vs:=sl.getD i.toNat []) (i:=((l:Nat):Int)) ⟨by lia,by rw[(sz i hi).1];lia⟩;rw[z];have e:gt (sl.getD i.toNat []) ((l:Nat):Int)=gs sl i l:=by
    have ll:l<(sl.getD i.toNat []).length:=by rw[(sz i hi).1];exact lq
    show (sl.getD i.toNat []).getD ((l:Nat):Int).toNat (0,1)=(sl.getD i.toNat []).getD l (0,0);rw[zH];generalize sl.getD i.toNat []=r at ll;simp[ll]
   rw[e]
  cases v with
  | number x y=>exact h
  | unknown k=>
   have e:Nd.sl vs sl g l (.unknown k)=if (l:Int)=k then (g,g) else (0,0):=rfl
   rw[e] at h;refine ifN (λc=>?_) (λc=>?_)
   ·rw[if_neg (λz=>c z.symm)] at h;exact h
   ·rw[if_pos c.symm] at h;exact h
  | power i m=>
   obtain⟨a,ea,ha,el⟩:=row i ok.1;have ci:=s1.at (i:=i) ⟨ok.1.1,by have:=ok.1.2;lia⟩
   have z1:=(sz i ok.1).2 l lq;obtain⟨ok1,m2,m6⟩:=ok;refine Zu (o:=.lst ds) hs ea ?_;refine Zu (o:=.lst ((sl.getD i.toNat []).map frD)) ha el ?_;refine Zu (o:=.lst (vs.map frD)) hw (Z1 (i:=i) ⟨ok1.1,by have:=ok1.2;lia⟩) ?_;refine⟨⟨m2,m6,ci.1,ci.2.1,ci.2.2,hg.1,hg.2⟩,?_⟩;have gp:(1:Int)<=g^((m-1).toNat-1):=yP (by lia)
   have f:=GV hg.1 m2 m6 ci.2.1 ci.2.2
   have hm:1000*(m.toNat-1)+(m.toNat-1)<=6010:=by
    have:m.toNat<=6:=by lia
    have:=Nat.mul_le_mul_left 1000 (show m.toNat-1<=5 by lia);lia
   exact⟨⟨f.1.mono hm,f.2.mono hm,z1.2.1.mono (by decide),z1.2.2.mono (by decide),hg.1,hg.2⟩,h⟩
  | times i j=>
   obtain⟨a,ea,ha,el⟩:=row i ok.1;obtain⟨b,eb,hb,em⟩:=row j ok.2;have ci:=s1.at (i:=i) ⟨ok.1.1,by have:=ok.1.2;lia⟩
   have cj:=s1.at (i:=j) ⟨ok.2.1,by have:=ok.2.2;lia⟩
   have z1:=(sz i ok.1).2 l lq
   have z2:=(sz j ok.2).2 l lq;refine Zu (o:=.lst ds) hs ea ?_;refine Zu (o:=.lst ((sl.getD i.toNat []).map frD)) ha el ?_;refine Zu (o:=.lst ds) hs eb ?_;refine Zu (o:=.lst ((sl.getD j.toNat []).map frD)) hb em ?_;refine Zu (o:=.lst (vs.map frD)) hw (Z1 (i:=i) ⟨ok.1.1,by have:=ok.1.2;lia⟩) ?_;refine⟨⟨ci.2.1.mono (by decide),ci.2.2.mono (by decide),z2.2.1.mono (by decide),z2.2.2.mono (by decide),hg.1,hg.2⟩,?_⟩;refine Zu (o:=.lst (vs.map frD)) hw (Z1 (i:=j) ⟨ok.2.1,by have:=ok.2.2;lia⟩) ?_;exact⟨⟨cj.2.1.mono (by decide),cj.2.2.mono (by decide),z1.2.1.mono (by decide),z1.2.2.mono (by decide),hg.1,hg.2⟩,h⟩
  | plus i j=>
   obtain⟨a,ea,ha,el⟩:=row i ok.1;obtain⟨b,eb,hb,em⟩:=row j ok.2;refine Zu (o:=.lst ds) hs ea ?_;refine Zu (o:=.lst ((sl.getD i.toNat []).map frD)) ha el ?_;refine Zu (o:=.lst ds) hs eb ?_;exact Zu (o:=.lst ((sl.getD j.toNat []).map frD)) hb em h
  | minus i j=>
   obtain⟨a,ea,ha,el⟩:=row i ok.1;obtain⟨b,eb,hb,em⟩:=row j ok.2;refine Zu (o:=.lst ds) hs ea ?_;refine Zu (o:=.lst ((sl.getD i.toNat []).map frD)) ha el ?_;refine Zu (o:=.lst ds) hs eb ?_;exact Zu (o:=.lst ((sl.getD j.toNat []).map frD)) hb em h⟩)
def D9  (Nq:Df K mg q55 Nb QQ)(Uy:Fk P w K mg base 1 q70 UQ NW)(Ta:Fk P w K mg base 3 q69 UW P6)(JW:Fk P w K mg base 4 q64 TZ Jg)(ZK:mg q87=none)(ZA:mg "len"=none):Fk P w K mg base 5 q55 QQ J0:=
 Nq.mk' (ZD (k:=4) Nq.F RK (λ_ _ _ _=>nR λ_=>nR λ_=>nI λ_=>nI λ_=>nR λ_=>nN:Ln (J0) 5) λ_ _ _ _ _ _ hr=>⟨_,(Zg (Zw (i:=5) RK.nd (Yo Ze)) (Zg (Y3 (i:=6) PassesOwn.never rfl RK.nd rfl (Or.inl rfl) rfl ZK (Za (ZM (ZI ZW) rfl ZA Boot.«len» (Za (dv 0) Ze)) Ze) (Zg (Zw (i:=7) RK.nd (Yo Ze)) (Zg (Y3 (i:=8) PassesOwn.never rfl RK.nd rfl (Or.inl rfl) rfl ZK (Za (dv 2) Ze) (Zh (Yj (YX (dv 7) (Zk Uy hr (Za (Zk JW hr (Za (Zz (dv 0) (dv 6)) (Za (dv 1) (Za (dv 5) (Za (dv 8) (Za (dv 3) Ze)))))) (Za (Zk Ta hr (Za (dv 4) (Za (dv 6) (Za (Zf ZQ Zd (dv 8)) Ze)))) Ze))))))) (Zh (Yj (YX (dv 5) (dv 7))))))) (Zh (Zt (dv 5))))),λds S Q ex h=>by
  replace h:=EB h;obtain⟨a,w,qi,g,sc,rfl,h⟩:=h;obtain⟨cs,q,ns,ws,vs,hsc,ha,hw,net,szw,lf,⟨rfl,q1,q4⟩,hg,hl,h⟩:=h;have spn:Spn 1000 vs:=szw.spn λk hk=>by
   have z:=(net.w1 (i:=(k:Int)) ⟨by lia,by lia⟩).2
   rwa [zH] at z
  refine ZZ (Zj ha) ?_;rw[zA];refine⟨⟨by lia,by lia⟩,λk dl' S'=>k<=ns.length/\Pre S S'/\(∃(ds:List D)(R:List LI),S'[S.length]?=some (.lst ds)/\Z2 S' (S.length+1) ds R/\R.length=k/\SlW q ws R/\∀(i:Nat)(v:Nd)(r:LI)(l:Nat)(p:Int×Int),ns[i]?=some v->R[i]?=some r->r[l]?=some p->Ins p (v.sl vs R g l))/\∃u6 u7 u8:Option D,dl'=[some (.ref a),some (.ref w),some (.int (q:Nat)),some (.int g),some (.ref sc),some (.ref S.length),u6,u7,u8],⟨zO _,Pre.refl.push,⟨[],[],Zy _ _,Z2.nil,rfl,λk r hr=>by simp at hr,λi v r l p _ hr=>by simp at hr⟩,_,_,_,rfl⟩,?_⟩;rintro k dl' S' ⟨hk,pr,⟨ds,R,hf,rows,lR,slw,ins⟩,u6,u7,u8,rfl⟩;rw[zH];refine YD (λc=>?_) (λc=>?_)
  ·have hv:=zC c;generalize ns[k]=v at hv;have okv:v.ok R.length q:=by rw[lR];exact(net.ok k v hv).1
   have wv:=(net.ok k v hv).2
   have ss:=slw.spn λi hi=>by
    have z:=(net.w1 (i:=(i:Int)) ⟨by lia,by lia⟩).2
    rwa [zH] at z
   have ld:ds.length=k:=by rw[rows.1,lR]
   have lt:=Z4 hf
   have w1:∀i:Int,inR vs.length i->1<=ws.getD i.toNat 0:=λi hi=>(net.w1 (i:=i) ⟨hi.1,by have:=hi.2;lia⟩).1
   dsimp only;refine VI (λdl2 S2=>Pre S' S2/\∃(row:LI),row.length=q/\S2[S'.length]?=some (.lst (row.map frD))/\(∀p∈row,p.1<=p.2/\Sz (64*v.wt ws-1) p.1/\Sz (64*v.wt ws-1) p.2)/\(∀(l:Nat)(p:Int×Int),row[l]?=some p->Ins p (v.sl vs R g l))/\∃u8:Option D,dl2=[some (.ref a),some (.ref w),some (.int (q:Nat)),some (.int g),some (.ref sc),some (.ref S.length),some (.int (k:Nat)),some (.ref S'.length),u8]) (λnx hn=>?_) ?_
   ·refine⟨⟨by lia,by lia⟩,λl dl2 S2=>l<=q/\Pre S' S2/\(∃(row:LI),row.length=l/\S2[S'.length]?=some (.lst (row.map frD))/\(∀p∈row,p.1<=p.2/\Sz (64*v.wt ws-1) p.1/\Sz (64*v.wt ws-1) p.2)/\(∀(l:Nat)(p:Int×Int),row[l]?=some p->Ins p (v.sl vs R g l)))/\∃u8:Option D,dl2=[some (.ref a),some (.ref w),some (.int (q:Nat)),some (.int g),some (.ref sc),some (.ref S.length),some (.int (k:Nat)),some (.ref S'.length),u8],⟨zO _,Pre.refl.push,⟨[],rfl,Zy _ _,λp hp=>by simp at hp,λl p hp=>by simp at hp⟩,_,rfl⟩,?_⟩;rintro l dl2 S2 ⟨hlq,pr2,⟨row,lrow,hrow,zrow,irow⟩,v8,rfl⟩;rw[zH];refine YD (λc2=>?_) (λc2=>?_)
    ·refine VN (n:=S'.length) (xs:=row.map frD) (λK hK=>by exact hK) hrow (λK hK=>?_) (by rw[zA];lia);refine Zu (o:=.lst (ns.map Nd.d)) (pr2 _ _ (pr _ _ ha)) (JL hv) ?_;refine⟨v,q,l,vs,R,ds,rfl,pr2 _ _ (pr _ _ hw),pr2 _ _ hf,(rows.low (zO _)).pre pr2,ss,⟨rfl,c2⟩,okv,by lia,spn,hg,?_⟩;have z:=sl_ok szw slw hg (by lia) w1 c2 v okv wv.2.1;generalize hqd:v.sl vs R g l=qd at z;refine .inr ⟨by lia,cs,pr2 _ _ (pr _ _ hsc),⟨by lia,by lia⟩,⟨by lia,by lia⟩,λU x y pU x0 y0 x1 y1=>?_⟩;have wp:=wv.2.1
     have s1:=(Q9 z.2.1 (by lia) (show x.natAbs<=10^6 by lia)).1
     have s2:=(Q9 z.2.2 (by lia) (show y.natAbs<=10^6 by lia)).2;rw[show 64*v.wt ws-2+1=64*v.wt ws-1 by lia] at s1 s2;refine hK (frD (qd.1-x,qd.2+y)) U (pU _ _ hrow) ?_;refine⟨by lia,λx o e=>Yb (pU _ _ (pr2 x o e)) (by have:=Z4 e;lia),⟨row++[(qd.1-x,qd.2+y)],by rw[zI,lrow];rfl,by rw[yC];exact Yu (pU _ _ hrow),λp' hp'=>?_,λl' p' hp'=>?_⟩,_,rfl⟩
     ·rcases yJ.mp hp' with zz|zz
      ·exact zrow p' zz
      ·have e:=yQ.mp zz;subst e;exact⟨by show qd.1-x<=qd.2+y;have:=z.1;lia,s1,s2⟩
     ·by_cases hi:l'<l
      ·rw[zP (by lia)] at hp';exact irow l' p' hp'
      ·have hl2:=(zF.mp hp').1;simp only[zI,zX,xA,lrow] at hl2;have ei:l'=l:=by lia
       subst ei;rw[yD (by lia),lrow,yW] at hp';cases hp';rw[hqd];exact⟨by dsimp only;lia,by dsimp only;lia⟩
    ·have e:l=q:=by lia
     subst e;exact hn _ _ ⟨pr2,row,lrow,hrow,zrow,irow,_,rfl⟩
   ·rintro dl2 S2 ⟨pr2,row,lrow,hrow,zrow,irow,v8,rfl⟩;refine X9 (n:=S.length) (S1:=S2) (xs:=ds) (y:=.ref S'.length) (λK hK=>by exact hK) (pr2 _ _ hf) (λK hK=>by exact hK) (by lia) ?_;refine⟨by lia,Rm (pr.trans pr2) (zD _),⟨ds++[.ref S'.length],R++[row],Yu (pr2 _ _ hf),?_,by rw[zI,lR];rfl,?_,λi v' r l p hv' hr hp=>?_⟩,_,_,_,rfl⟩
    ·have r4:=(rows.pre pr2).snoc (a:=S'.length) (r:=row) (by lia) hrow;exact r4.keep λx o hx e=>Yb e (by lia)
    ·refine slw.snoc lrow λp hp=>?_
     rw[lR,wv.1];exact zrow p hp
    ·have congr:∀(i:Nat)(v':Nd),ns[i]?=some v'->i<=k->v'.sl vs (R++[row]) g l=v'.sl vs R g l:=λi v' hv' hik=>CP (k:=i) (q:=q) (λj hj=>zaK hj (by lia)) v' (net.ok i v' hv').1
     by_cases hi:i<k
     ·rw[zP (by lia)] at hr;rw[congr i v' hv' (by lia)];exact ins i v' r l p hv' hr hp
     ·have hl2:=(zF.mp hr).1;simp only[zI,zX,xA,lR] at hl2;have ei:i=k:=by lia
      subst ei;rw[yD (by lia),lR,yW] at hr;cases hr;rw[hv] at hv';cases hv';rw[congr i v hv (zD _)];exact irow l p hp
  ·have e:k=ns.length:=by lia
   exact h _ _ ds R pr (zD _) hf rows (by rw[lR,e]) slw ins⟩)
def C4  (ML:Df K mg q37 OA QF):Fk P w K mg base 1 q37 QF Ko:=
 ML.mk' (ZD (k:=0) ML.F MM (λ_ _ _ _=>nR λ_=>nI λ_=>nI λ_=>nN:Ln (Ko) 3) λ_ _ _ _ _ _ hr=>⟨_,(Zg (Zw (i:=3) MM.nd (Zz (dv 0) (Zf ZY (Zf ZQ (dv 1) Zd) Zd))) (Zg (Zw (i:=4) MM.nd (Zz (dv 0) (Zf ZY (Zf ZQ (dv 1) Zd) Zd))) (Zg (Zw (i:=5) MM.nd (Zf ZV (Zz (dv 3) (Zf ZY (Zf ZQ (dv 2) Zd) Zd)) (Zz (dv 4) (Zf ZY (Zf ZQ (dv 2) Zd) Zd)))) (Zh (Zt (Zf Yr (dv 5) (Zf ZV (Zz (dv 3) (Zf ZY (Zf ZQ (dv 2) Zd) Zd)) (Zz (dv 4) (Zf ZY (Zf ZQ (dv 2) Zd) Zd))))))))),λds S Q ex h=>by
  replace h:=eRII h;obtain⟨r,a,b,rfl,h⟩:=h;obtain⟨ms,M,hr,ri,lM,zM,ha,hb,h⟩:=h;obtain⟨i,rfl⟩:∃i:Nat,a=(i:Int):=⟨a.toNat,by lia⟩;obtain⟨j,rfl⟩:∃j:Nat,b=(j:Int):=⟨b.toNat,by lia⟩;rw[zH,zH] at h;have get:∀x y:Nat,x<3->y<3->∃p,atI ms (x:Int)=some (.ref p)/\S[p]?=some (.lst ((M.getD x []).map D.int))/\atI ((M.getD x []).map D.int) (y:Int)=some (.int ((M.getD x []).getD y 0))/\Sz 1101 ((M.getD x []).getD y 0):=λx y hx hy=>by
   obtain⟨p,e,s⟩:=ri.at (k:=x) (by lia);obtain⟨l3,z⟩:=zM (M.getD x []) (by rw[zK,zC (show x<M.length by lia)];exact yA ..);generalize M.getD x []=w at s l3 z;have e2:w[y]?=some (w.getD y 0):=by rw[zK,zC (show y<w.length by lia)];rfl
   exact⟨p,e,s,XU (by rw[zG,e2];rfl),z _ (zL e2)⟩
  have m1:∀n c:Nat,((n:Int)+(c:Int))%3=(((n+c)%3:Nat):Int):=λn c=>by lia
  have k1:=Nat.mod_lt (i+1) (show 0<3 by decide)
  have k2:=Nat.mod_lt (i+2) (show 0<3 by decide)
  have k3:=Nat.mod_lt (j+1) (show 0<3 by decide)
  have k4:=Nat.mod_lt (j+2) (show 0<3 by decide);obtain⟨p,p1,p2,p3,p4⟩:=get _ _ k1 k3;obtain⟨_,_,_,p5,p6⟩:=get _ _ k1 k4;obtain⟨t,t1,t2,t3,t4⟩:=get _ _ k2 k4;obtain⟨_,_,_,t5,t6⟩:=get _ _ k2 k3;refine Zu (o:=.lst ms) (i:=(((i+1)%3:Nat):Int)) (d:=.ref p) hr p1 ?_;refine Zu (o:=.lst ms) (i:=(((i+2)%3:Nat):Int)) (d:=.ref t) hr t1 ?_;refine Zu (o:=.lst ((M.getD ((i+1)%3) []).map D.int)) (i:=(((j+1)%3:Nat):Int)) p2 p3 ?_;refine Zu (o:=.lst ((M.getD ((i+2)%3) []).map D.int)) (i:=(((j+2)%3:Nat):Int)) t2 t3 ?_;refine⟨ZU p4 t4,?_⟩;refine Zu (o:=.lst ((M.getD ((i+1)%3) []).map D.int)) (i:=(((j+2)%3:Nat):Int)) p2 p5 ?_;refine Zu (o:=.lst ((M.getD ((i+2)%3) []).map D.int)) (i:=(((j+1)%3:Nat):Int)) t2 t5 ?_;exact⟨ZU p6 t6,h⟩⟩)
def zal  (NQ:Df K mg q43 W9 RO)(Mm:Fk P w K mg base 1 q37 QF Ko)(ZK:mg q87=none)(ZA:mg "len"=none)(QN:mg "sum"=none)(XW:mg "int"=none):Fk P w K mg base 2 q43 RO IU:=
 NQ.mk' (ZD (k:=1) NQ.F W6 (λ_ _ _ _=>nR λ_=>nR λ_=>nI λ_=>nN:Ln (IU) 3) λ_ _ _ _ _ _ hr=>⟨_,(Zg (XO (i:=3) W6.nd rfl (Or.inr rfl) (Yo Ze)) (Zg (K5 (i:=4) PassesOwn.never rfl W6.nd rfl (Or.inr rfl) (dv 1) (Zg (VM (x:="_law_span") (N:=[]) (caps:=[]) (ar:=Zo W9) rfl rfl csc rfl (by decide) (i:=5) W6.nd rfl rfl (Zz (dv 0) (dv 4)) (λ_ _ _ _ _ _=>Yt) (λ_ _ _ _ _ _=>(Zf Z9 (Zf ZQ (Zi (dv 0) Zd) (Zi (dv 0) Zd)) Zd))) (Zh (Yj (YX (dv 3) (Zf HS (dv 5) (VZ (x:="_law_k") (N:=[]) (caps:=[]) (ar:=Zo W9) rfl rfl csc rfl (by decide) rfl ZK (Za (Zf Yr Zd (ZM (ZI ZW) rfl ZA Boot.«len» (Za (dv 1) Ze))) Ze) (λ_ _ _ _ _ _=>Yt) (λ_ _ _ _ _ _=>Zd)))))))) (Zg (JP (i:=4) PassesOwn.never rfl W6.nd rfl (Or.inr rfl) rfl ZK (Za (ZM (ZI ZW) rfl ZA Boot.«len» (Za (dv 1) Ze)) (Za Zd Ze)) (Zh (Yj (YX (dv 3) (VZ (x:="_law_k") (N:=["_law_at_here"]) (caps:=[4]) (ar:=Zo W9) rfl rfl csc rfl (by decide) rfl ZK (Za Zd Ze) (λ_ _ _ _ _ _=>Yt) (λ_ _ _ _ _ _=>(Xo OL rfl XW Boot.«int» (Za (YK (ZT hr) (dv 0) (dv 1) (ZE _)) Ze)))))))) (Zg (XO (i:=6) W6.nd rfl (Or.inr rfl) (ZM (ZI (zcV rfl)) rfl QN Boot.«sum» (Za (VZ (x:="_law_k") (N:=["_law_rows"]) (caps:=[3]) (ar:=Zo W9) rfl rfl csc rfl (by decide) rfl ZK (Za Zd Ze) (λ_ _ _ _ _ _=>Yt) (λ_ _ _ _ _ _=>(Zf ZV (Zz (Zz (dv 1) Zd) (dv 0)) (Zk Mm hr (Za (dv 1) (Za Zd (Za (dv 0) Ze))))))) Ze))) (Zg (ZN (ZL (ZT hr) (dv 6) Zd (ZE _)) (Zh (XO (i:=6) W6.nd rfl (Or.inr rfl) Zd)) ZO) (Zg (Zw (i:=7) W6.nd (Yo Ze)) (Zg (Y3 (i:=4) PassesOwn.never rfl W6.nd rfl (Or.inr rfl) rfl ZK (Za (ZM (ZI ZW) rfl ZA Boot.«len» (Za (dv 1) Ze)) Ze) (Zh (Yj (YX (dv 7) (VZ (x:="_law_k") (N:=["_law_whole","_law_grid_here","_law_rows","_law_at_here"]) (caps:=[6,2,3,4]) (ar:=Zo W9) rfl rfl csc rfl (by decide) rfl ZK (Za (ZM (ZI ZW) rfl ZA Boot.«len» (Za (dv 1) Ze)) Ze) (λ_ _ _ _ _ _=>Yt) (λ_ _ _ _ _ _=>(Zf DV (Zf ZV (Zf ZV (dv 2) (dv 2)) (Zk Mm hr (Za (dv 3) (Za (dv 0) (Za (dv 4) Ze))))) (dv 1)))))))) (Zh (Zt (dv 7)))))))))),λds S Q ex h=>by
  replace h:=eRRI h;obtain⟨md,at_,g,rfl,h⟩:=h;obtain⟨q,R,ds,is,hd,rp,hi,li,hq,lR,zR,hg,h⟩:=h;have snz:∀(es:List D)(M:List (List Int))(r:List Int)(S2 S3:Sto)(a:Nat),S2[S.length]?=some (.lst es)->YB S2 (S.length+1) es M->(∀r∈M,r.length=3/\∀x∈r,Sz 1101 x)->(r.length=3/\∀x∈r,Sz 1101 x)->(∀(x:Nat)(o:Ob),S2[x]?=some o->S3[x]?=some o)->S.length+1<=a->S3[a]?=some (.lst (r.map D.int))->YB (S3.set S.length (.lst (es++[.ref a]))) (S.length+1) (es++[.ref a]) (M++[r])/\∀r'∈M++[r],r'.length=3/\∀x∈r',Sz 1101 x:=λes M r S2 S3 a he rl zM zr up la ha=>by
   refine⟨YB.snoc (rl.keep λx o lx e=>Yb (up _ _ e) (by lia)) la (Yb ha (by lia)),λr' hr'=>?_⟩;rcases yJ.1 hr' with hr'|hr'
   ·exact zM r' hr'
   ·rw[yQ.mp hr'];exact zr
  refine VI (λdl2 S2=>∃(es:List D)(M:List (List Int)),Pre S S2/\S2[S.length]?=some (.lst es)/\YB S2 (S.length+1) es M/\M.length=q/\(∀r∈M,r.length=3/\∀x∈r,Sz 1101 x)/\∃u4 u5 u6 u7:Option D,dl2=[some (.ref md),some (.ref at_),some (.int g),some (.ref S.length),u4,u5,u6,u7]) (λnx hx=>?_) ?_
  ·refine IT (i:=4) (n:=at_) (o:=.lst (is.map wtD)) (S:=S++[.lst []]) (λk dl' S'=>Pre S S'/\(∃(es:List D)(M:List (List Int)),S'[S.length]?=some (.lst es)/\YB S' (S.length+1) es M/\M.length=k/\(∀r∈M,r.length=3/\∀x∈r,Sz 1101 x))/\∃u4 u5 u6 u7:Option D,dl'=[some (.ref md),some (.ref at_),some (.int g),some (.ref S.length),u4,u5,u6,u7]) ⟨Ym _,⟨[],[],Zy _ _,YB.nil,rfl,λr hr=>by simp at hr⟩,_,_,_,_,rfl⟩ (λk dl' S' ⟨pr,_⟩=>pr _ _ hi) ?_ ?_
   ·rintro k x dl' S' nx2 ct2 ex' ⟨pr,⟨es,M,he,rl,lM,zM⟩,u4,u5,u6,u7,rfl⟩ hn;have hx':(is.map wtD)[k]?=some x:=ex';rw[zG] at hx';obtain⟨i,hik,rfl⟩:=zQ.mp hx';have li':=lR i (zL hik)
    have lk:=(zF.mp hik).1;obtain⟨a,ea,_,ha⟩:=(rp.pre pr).at (i:=(i:Int)) ⟨by lia,by lia⟩;rw[zH] at ha;have er:R.getD i []∈R:=by rw[zK,zC li'];exact yA ..
    obtain⟨lr,br⟩:=zR _ er;generalize R.getD i []=r at ha lr br;have lt:=Z4 he;refine XN (n:=a) (S1:=S') (o:=.lst (r.map frD)) midD (λK hK=>by exact Zu (o:=.lst ds) (i:=(i:Int)) (pr _ _ hd) ea hK) ha (by show (r.map frD).length<=1000;rw[zA];lia) (λx hx S3 K3 p3 hK3=>?_) ?_
    ·obtain⟨v,_,rfl⟩:=zJ.mp (show x∈r.map frD from hx);exact hK3
    have ei:(Zq (Ob.lst (r.map frD))).map midD=(r.map λp=>(p.1+p.2)/2).map D.int:=Bh r;rw[ei];have zm:∀x∈r.map (λp=>(p.1+p.2)/2),Sz 1101 x:=λx hx=>by
     obtain⟨p,hp,rfl⟩:=zJ.mp hx;exact F9 (br p hp).1 (br p hp).2
    have lm:(r.map λp=>(p.1+p.2)/2).length=q:=by rw[zA];exact lr
    generalize (r.map λp=>(p.1+p.2)/2)=w at zm lm ⊢;refine VN (n:=S.length) (xs:=es) (λK hK=>by exact hK) (Zj he) (λK hK=>?_) (by rw[rl.1];lia);refine Sk (j:=3-(q:Int)) (S1:=S'++[.lst (w.map D.int)]) (λ_=>.int 0) (λK hK=>?_) ⟨by lia,by lia⟩ (λk hk S2 K pr hK=>by exact hK) ?_
    ·refine ZZ (Zj (pr _ _ hi)) ?_;rw[zA,li];exact hK
    have ez:((List.range (3-(q:Int)).toNat).map λ(_:Nat)=>D.int 0)=(List.replicate (3-q) (0:Int)).map D.int:=by
     rw[List.map_const',List.map_replicate,xU];congr 1;lia
    rw[ez];refine F2 (xs:=w.map D.int) (ys:=(List.replicate (3-q) (0:Int)).map D.int) (Zj (Zy _ _)) (Zy _ _) (by rw[zA,zA,List.length_replicate];lia) ?_;rw[<- yC];have zz:(w++List.replicate (3-q) (0:Int)).length=3/\∀x∈w++List.replicate (3-q) (0:Int),Sz 1101 x:=by
     refine⟨by rw[zI,List.length_replicate];lia,λx hx=>?_⟩;rcases yJ.1 hx with hx|hx
     ·exact zm x hx
     ·rw[(List.mem_replicate.mp hx).2];exact Sz.of 0 (by decide) (yF (by decide))
    generalize w++List.replicate (3-q) (0:Int)=y at zz ⊢;refine hK _ _ (Zj (Zj (Zj he))) ?_;obtain⟨s1,s2⟩:=snz es M y S' _ _ he rl zM zz (λx o e=>Zj (Zj (Zj e))) (by simp;lia) (Zy _ _);exact hn _ _ ⟨λx o e=>Yb (Zj (Zj (Zj (pr x o e)))) (by have:=Z4 e;lia),⟨_,_,Yu (Zj (Zj (Zj he))),s1,by rw[zI,lM];rfl,s2⟩,_,_,_,_,rfl⟩
   ·rintro dl' S' ⟨pr,⟨es,M,he,rl,lM,zM⟩,u4,u5,u6,u7,rfl⟩;have lM':M.length=q:=by
     have z:(Zq (Ob.lst (is.map wtD))).length=is.length:=by show (is.map wtD).length=_;rw[zA]
     rw[z] at lM;lia
    exact hx _ _ ⟨es,M,pr,he,rl,lM',zM,_,_,_,_,rfl⟩
  rintro dl2 S2 ⟨es,M,pr,he,rl,lM,zM,u4,u5,u6,u7,rfl⟩;refine Ye (λdl3 S3=>∃(es:List D)(M:List (List Int)),Pre S S3/\S3[S.length]?=some (.lst es)/\YB S3 (S.length+1) es M/\M.length=3/\(∀r∈M,r.length=3/\∀x∈r,Sz 1101 x)/\∃u4:Option D,dl3=[some (.ref md),some (.ref at_),some (.int g),some (.ref S.length),u4,u5,u6,u7]) (λnx hx=>?_) ?_
  ·refine ZZ (pr _ _ hi) ?_;rw[zA,li];refine⟨⟨by lia,by lia,by decide,by decide⟩,λk dl' S'=>k<=3-q/\Pre S S'/\(∃(es:List D)(M:List (List Int)),S'[S.length]?=some (.lst es)/\YB S' (S.length+1) es M/\M.length=q+k/\(∀r∈M,r.length=3/\∀x∈r,Sz 1101 x))/\∃u4:Option D,dl'=[some (.ref md),some (.ref at_),some (.int g),some (.ref S.length),u4,u5,u6,u7],⟨zO _,pr,⟨es,M,he,rl,lM,zM⟩,_,rfl⟩,?_⟩;rintro k dl' S' ⟨hk,pr,⟨es,M,he,rl,lM,zM⟩,u4,rfl⟩;have lt:=Z4 he;refine YD (λc=>?_) (λc=>?_)
   ·have c':k<3-q:=by
     have z:k<((3:Int)-(q:Int)).toNat:=c;lia
    refine VN (n:=S.length) (xs:=es) (λK hK=>by exact hK) he (λK hK=>?_) (by rw[rl.1];lia);refine MP (j:=3) (S1:=S') (λ_ d=>∃x:Int,d=.int x/\(0<=x/\x<=1)) (λK hK=>by exact hK) ⟨by decide,by decide⟩ (λk hk S2 K pr hK=>hK _ ⟨_,rfl,by split<;>lia⟩) (λxs lx hx'=>?_);obtain⟨y,rfl,gy⟩:=OS xs hx';rw[zA] at lx;refine hK _ _ (Zj he) ?_;obtain⟨s1,s2⟩:=snz es M y S' _ _ he rl zM ⟨lx,λx hx=>Sz.of 1 (by have:=gy x hx;lia) Fq⟩ (λx o e=>Zj e) (by lia) (Zy _ _);exact⟨by lia,λx o e=>Yb (Zj (pr x o e)) (by have:=Z4 e;lia),⟨_,_,Yu (Zj he),s1,by rw[zI,lM];rfl,s2⟩,_,rfl⟩
   ·have c':¬ k<3-q:=by
     have z:¬ k<((3:Int)-(q:Int)).toNat:=c;lia
    exact hx _ _ ⟨es,M,pr,he,rl,by lia,zM,_,rfl⟩
  clear pr he rl lM zM;clear es M;rintro dl3 S3 ⟨es,M,pr,he,rl,lM,zM,u4,rfl⟩;refine VI (λdl4 S4=>∃v:Int,Pre S3 S4/\v≠0/\Sz 3400 v/\dl4=[some (.ref md),some (.ref at_),some (.int g),some (.ref S.length),u4,u5,some (.int v),u7]) (λnx hx=>?_) ?_
  ·refine MP (j:=3) (S1:=S3) (λ_ d=>∃x:Int,d=.int x/\Sz 3304 x) (λK hK=>by exact hK) ⟨by decide,by decide⟩ (λk hk S4 K p4 hK=>?_) (λxs lx hx'=>?_)
   ·have hk':k<3:=hk
    have ri:=rl.toI;obtain⟨p,e,s⟩:=ri.at (k:=0) (by lia);obtain⟨l3,z⟩:=zM (M.getD 0 []) (by rw[zK,zC (show 0<M.length by lia)];exact yA ..);refine Zu (o:=.lst es) (i:=0) (p4 _ _ he) e ?_;have e2:(M.getD 0 [])[k]?=some ((M.getD 0 []).getD k 0):=by
     rw[zK (l:=M.getD 0 []),zC (show k<(M.getD 0 []).length by lia)];rfl
    refine Zu (o:=.lst ((M.getD 0 []).map D.int)) (i:=(k:Int)) (p4 _ _ s) (d:=.int ((M.getD 0 []).getD k 0)) (XU (by show ((M.getD 0 []).map D.int)[k]?=_;rw[zG,e2];rfl)) ?_;refine⟨es,M,p4 _ _ he,ri.pre p4,lM,zM,⟨by decide,by decide⟩,⟨by lia,by lia⟩,?_⟩;have z1:=z _ (zL e2)
    have z2:=F3 lM zM (0:Int).toNat (k:Int).toNat;exact⟨ZU z1 z2,hK _ ⟨_,rfl,z1.mul z2⟩⟩
   obtain⟨zs,rfl,gz⟩:=OS xs hx';rw[zA] at lx;refine zaY (ns:=zs) (Zy _ _) (CV zs) ?_;refine ifD (λe=>?_) (λe=>?_)
   ·exact hx _ _ ⟨1,Ym _,by decide,Sz.of 1 (by decide) Fq,rfl⟩
   ·exact hx _ _ ⟨zs.sum,Ym _,e,sum3 lx gz,rfl⟩
  rintro dl4 S4 ⟨v,p4,v0,sv,rfl⟩;replace he:=p4 _ _ he;have ri:=rl.toI.pre p4
  have pr4:Pre S S4:=λx o e=>p4 _ _ (pr _ _ e)
  have lS:=FF pr4
  have lE:=Z4 he;clear p4 pr rl;have sg:Sz 21 g:=Sz.of (10^6) (by lia)
  have gg:Sz 42 (g*g):=sg.mul sg
  have fd:v≠0/\v.natAbs.log2<9000:=⟨v0,sv.log (by lia) (by decide)⟩;refine ZZ (Zj (pr4 _ _ hi)) ?_;rw[zA,li];refine⟨⟨by lia,by lia⟩,λk dl' S'=>k<=q/\Pre S4 S'/\(∃(ts:List D)(T:List (List Int)),S'[S4.length]?=some (.lst ts)/\YB S' (S4.length+1) ts T/\T.length=k/\∀r∈T,r.length=q/\∀x∈r,Sz 4000 x)/\∃u4:Option D,dl'=[some (.ref md),some (.ref at_),some (.int g),some (.ref S.length),u4,u5,some (.int v),some (.ref S4.length)],⟨zO _,Ym _,⟨[],[],Zy _ _,YB.nil,rfl,λr hr=>by simp at hr⟩,_,rfl⟩,?_⟩;rintro k dl' S' ⟨hk,p5,⟨ts,T,ht,tl,lT,zT⟩,u4,rfl⟩;rw[zH];have lt:=Z4 ht;refine YD (λc=>?_) (λc=>?_)
  ·refine VN (n:=S4.length) (xs:=ts) (λK hK=>by exact hK) ht (λK hK=>?_) (by rw[tl.1];lia);refine MP (j:=(q:Int)) (S1:=S') (λ_ d=>∃x:Int,d=.int x/\Sz 4000 x) (λK hK=>?_) ⟨by lia,by lia⟩ (λl hl S5 K p6 hK=>?_) (λxs lx hx'=>?_)
   ·refine ZZ (p5 _ _ (pr4 _ _ hi)) ?_;rw[zA,li];exact hK
   ·have hl':l<q:=by lia
    refine⟨ZU sg sg,?_⟩;refine⟨es,M,p6 _ _ (p5 _ _ he),(ri.pre p5).pre p6,lM,zM,⟨by lia,by lia⟩,⟨by lia,by lia⟩,?_⟩;have z2:=F3 lM zM (l:Int).toNat (k:Int).toNat;exact⟨ZU gg z2,fd,hK _ ⟨_,rfl,(DS v0 (gg.mul z2)).mono (by decide)⟩⟩
   obtain⟨y,rfl,gy⟩:=OS xs hx';rw[zA,zH] at lx;refine hK _ _ (Zj ht) ?_;refine⟨by lia,λx o e=>Yb (Zj (p5 x o e)) (by have:=Z4 e;lia),⟨ts++[.ref S'.length],T++[y],Yu (Zj ht),?_,by rw[zI,lT];rfl,λr' hr'=>?_⟩,_,rfl⟩
   ·exact YB.snoc (tl.keep λx o lx e=>Yb (Zj e) (by lia)) (by lia) (Yb (Zy _ _) (by lia))
   ·rcases yJ.1 hr' with hr'|hr'
    ·exact zT r' hr'
    ·rw[yQ.mp hr'];exact⟨lx,gy⟩
  ·exact h _ _ ts T (λx o e=>p5 _ _ (pr4 _ _ e)) lS ht tl.toI (by lia) zT⟩)
def EN  (Nz:Df K mg q83 PY RG)(Yd:Fk P w K mg base 2 q29 Wc W5)(Hg:Fk P w K mg base 2 q43 RO IU)(ZK:mg q87=none)(ZA:mg "len"=none):Fk P w K mg base 3 q83 RG Kz:=
 Nz.mk' (ZD (k:=2) Nz.F Vs (λ_ _ _ _=>nR λ_=>nI λ_=>nR λ_=>nR λ_=>nI λ_=>nN:Ln (Kz) 5) λ_ _ _ _ _ _ hr=>⟨_,(Zg (ZN (ZL (ZT hr) (Zf ZY (Zf Z9 (Zk Yd hr (Za (dv 0) (Za Zd Ze))) Zd) Zd) Zd (ZE _)) (Zh (Zt (Zk Hg hr (Za (dv 2) (Za (dv 3) (Za (dv 4) Ze)))))) ZO) (Zg (Zw (i:=5) Vs.nd (Yo Ze)) (Zg (Y3 (i:=6) PassesOwn.never rfl Vs.nd rfl (Or.inl rfl) rfl ZK (Za (ZM (ZI ZW) rfl ZA Boot.«len» (Za (dv 3) Ze)) Ze) (Zg (Zw (i:=7) Vs.nd (Yo Ze)) (Zg (Y3 (i:=8) PassesOwn.never rfl Vs.nd rfl (Or.inl rfl) rfl ZK (Za (ZM (ZI ZW) rfl ZA Boot.«len» (Za (dv 3) Ze)) Ze) (Zg (Zw (i:=9) Vs.nd (Zk Yd hr (Za (dv 0) (Za (Zf ZQ (Zf ZQ (dv 1) (Zf ZV Zd (dv 6))) (dv 8)) Ze)))) (Zg (Zw (i:=10) Vs.nd (Zf Yr (Zf ZY (Zf Z9 (dv 9) Zd) Zd) Zd)) (Zg (ZN (ZL (ZT hr) (Zf ZY (dv 9) Zd) Zd (ZE _)) (Zh (Zw (i:=10) Vs.nd (Zf Yr (Zf Yz (Zf Z9 (dv 9) Zd) (Zf ZV Zd (Zf Xh Zd Zd))) (Zf Xh Zd Zd)))) ZO) (Zh (Yj (YX (dv 7) (dv 10)))))))) (Zh (Yj (YX (dv 5) (dv 7))))))) (Zh (Zt (dv 5)))))),λds S Q ex h=>by
  replace h:=EL h;obtain⟨sc,fi,md,at_,g,rfl,h⟩:=h;obtain⟨cs,q,R,ds,is,hs,hfi,hd,rp,hi,li,hq,lR,zR,hg,h⟩:=h;refine⟨cs,hs,⟨by decide,by decide⟩,λv=>?_⟩;refine ifD (λ_=>?_) (λ_=>?_)
  ·exact⟨q,R,ds,is,hd,rp,hi,li,hq,lR,zR,hg,h⟩
  refine ZZ (Zj hi) ?_;rw[zA,li];refine⟨⟨by lia,by lia⟩,λk dl' S'=>k<=q/\Pre S S'/\(∃(es:List D)(M:List (List Int)),S'[S.length]?=some (.lst es)/\YB S' (S.length+1) es M/\M.length=k/\∀r∈M,r.length=q/\∀x∈r,Sz 4000 x)/\∃u6 u7 u8 u9 ua:Option D,dl'=[some (.ref sc),some (.int fi),some (.ref md),some (.ref at_),some (.int g),some (.ref S.length),u6,u7,u8,u9,ua],⟨zO _,Ym _,⟨[],[],Zy _ _,YB.nil,rfl,λr hr=>by simp at hr⟩,_,_,_,_,_,rfl⟩,?_⟩;rintro k dl' S' ⟨hk,pr,⟨es,M,he,rl,lM,zM⟩,u6,u7,u8,u9,ua,rfl⟩;rw[zH];have lt:=Z4 he;refine YD (λc=>?_) (λc=>?_)
  ·refine VI (λdl2 S2=>Pre S' S2/\(∃r:List Int,S2[S'.length]?=some (.lst (r.map D.int))/\r.length=q/\∀x∈r,Sz 4000 x)/\∃u8 u9 ua:Option D,dl2=[some (.ref sc),some (.int fi),some (.ref md),some (.ref at_),some (.int g),some (.ref S.length),some (.int (k:Int)),some (.ref S'.length),u8,u9,ua]) (λnx hx=>?_) ?_
   ·refine ZZ (Zj (pr _ _ hi)) ?_;rw[zA,li];refine⟨⟨by lia,by lia⟩,λl dl2 S2=>l<=q/\Pre S' S2/\(∃r:List Int,S2[S'.length]?=some (.lst (r.map D.int))/\r.length=l/\∀x∈r,Sz 4000 x)/\∃u8 u9 ua:Option D,dl2=[some (.ref sc),some (.int fi),some (.ref md),some (.ref at_),some (.int g),some (.ref S.length),some (.int (k:Int)),some (.ref S'.length),u8,u9,ua],⟨zO _,Ym _,⟨[],Zy _ _,rfl,λx hx=>by simp at hx⟩,_,_,_,rfl⟩,?_⟩;rintro l dl2 S2 ⟨hl,p2,⟨r,hr,lr,zr⟩,u8,u9,ua,rfl⟩;rw[zH];refine YD (λc2=>?_) (λc2=>?_)
    ·refine⟨IntMulOk.of_left (by decide),cs,p2 _ _ (pr _ _ hs),⟨by lia,by lia⟩,λx=>?_⟩;have bC:∀y:Int,Sz 4000 y->∀dx:Ev,(∃u8 u9 ua:Option D,dx=[some (.ref sc),some (.int fi),some (.ref md),some (.ref at_),some (.int g),some (.ref S.length),some (.int (k:Int)),some (.ref S'.length),u8,u9,ua])->l+1<=q/\Pre S' (S2.set S'.length (.lst (r.map D.int++[.int y])))/\(∃r':List Int,(S2.set S'.length (.lst (r.map D.int++[.int y])))[S'.length]?=some (.lst (r'.map D.int))/\r'.length=l+1/\∀x∈r',Sz 4000 x)/\∃u8 u9 ua:Option D,dx=[some (.ref sc),some (.int fi),some (.ref md),some (.ref at_),some (.int g),some (.ref S.length),some (.int (k:Int)),some (.ref S'.length),u8,u9,ua]:=λy zy dx hd=>by
      refine⟨by lia,λx o e=>Yb (p2 x o e) (by have:=Z4 e;lia),⟨r++[y],by rw[yC];exact Yu hr,by rw[zI,lr];rfl,λx hx=>?_⟩,hd⟩;rcases yJ.1 hx with hx|hx
      ·exact zr x hx
      ·rw[yQ.mp hx];exact zy
     refine ifD (λ_=>?_) (λ_=>?_)
     ·have r1:=Yl (a:=x/2) (b:=2*10^60) (by decide);refine⟨ZU (m:=10) (n:=300) (Sz.of 2 (by decide)) (Sz.of (10^60) (by decide)),by show (0:Int)<2*10^60;decide,?_⟩;refine X9 (n:=S'.length) (xs:=r.map D.int) (y:=.int (x/2%(2*10^60)-10^60)) (λK hK=>by exact hK) hr (λK hK=>by exact hK) (by rw[zA];lia) ?_;exact bC _ ((Sz.of (n:=300) (10^61) (by lia)).mono (by decide)) _ ⟨_,_,_,rfl⟩
     ·refine X9 (n:=S'.length) (xs:=r.map D.int) (y:=.int (x/2%201-100)) (λK hK=>by exact hK) hr (λK hK=>by exact hK) (by rw[zA];lia) ?_;exact bC _ ((Sz.of (n:=20) 1000 (by lia)).mono (by decide)) _ ⟨_,_,_,rfl⟩
    ·have e:l=q:=by lia
     exact hx _ _ ⟨p2,⟨r,hr,by lia,zr⟩,_,_,_,rfl⟩
   rintro dl2 S2 ⟨p2,⟨r,hr,lr,zr⟩,u8,u9,ua,rfl⟩;refine X9 (n:=S.length) (S1:=S2) (xs:=es) (y:=.ref S'.length) (λK hK=>by exact hK) (p2 _ _ he) (λK hK=>by exact hK) (by rw[rl.1];lia) ?_;refine⟨by lia,λx o e=>Yb (p2 _ _ (pr x o e)) (by have:=Z4 e;lia),⟨es++[.ref S'.length],M++[r],Yu (p2 _ _ he),?_,by rw[zI,lM];rfl,λr' hr'=>?_⟩,_,_,_,_,_,rfl⟩
   ·exact YB.snoc (rl.keep λx o lx e=>Yb (p2 x o e) (by lia)) (by lia) (Yb hr (by lia))
   ·rcases yJ.1 hr' with hr'|hr'
    ·exact zM r' hr'
    ·rw[yQ.mp hr'];exact⟨lr,zr⟩
  ·have e:k=q:=by lia
   exact h _ _ es M pr (zD _) he rl.toI (by lia) zM⟩)
def zbT  (Ny:Df K mg q82 RW Sr)(Ww:Fk P w K mg base 1 q57 VJ Rk)(XT:Fk P w K mg base 1 q27 Uq Qm)(Wr:Fk P w K mg base 1 q58 V2 R7)(ZK:mg q87=none)(ZA:mg "len"=none)(XW:mg "int"=none):Fk P w K mg base 2 q82 Sr Hr:=
 Ny.mk' (ZD (k:=1) Ny.F X6 (λ_ _ _ _=>nR λ_=>nR λ_=>nR λ_=>nR λ_=>nI λ_=>nR λ_=>nN:Ln (Hr) 6) λ_ _ _ _ _ _ hr=>⟨_,(Zg (VM (x:="_law_span") (N:=[]) (caps:=[]) (ar:=Zo RW) rfl rfl csc rfl (by decide) (i:=6) X6.nd rfl rfl (dv 3) (λ_ _ _ _ _ _=>Yt) (λ_ _ _ _ _ _=>(ZR (Za (Zf Z9 (Zf ZQ (Zi (dv 0) Zd) (Zi (dv 0) Zd)) Zd) (Za (Zf Z9 (Zf ZQ (Zi (dv 0) Zd) (Zi (dv 0) Zd)) Zd) Ze))))) (Zg (Zw (i:=7) X6.nd (Yo Ze)) (Zg (Y3 (i:=8) PassesOwn.never rfl X6.nd rfl (Or.inl rfl) rfl ZK (Za (ZM (ZI ZW) rfl ZA Boot.«len» (Za (dv 3) Ze)) Ze) (Zg (Zw (i:=9) X6.nd (Zz (dv 6) (dv 8))) (Zg (Y3 (i:=10) PassesOwn.never rfl X6.nd rfl (Or.inl rfl) rfl ZK (Za (ZM (ZI ZW) rfl ZA Boot.«len» (Za (dv 2) Ze)) Ze) (Zh (Zw (i:=9) X6.nd (Zk Wr hr (Za (dv 9) (Za (Zk XT hr (Za (ZR (Za (Zz (Zz (dv 5) (dv 8)) (dv 10)) (Za (Zz (Zz (dv 5) (dv 8)) (dv 10)) Ze))) (Za (Zz (dv 0) (Zz (dv 2) (dv 10))) (Za (dv 4) Ze)))) Ze)))))) (Zg (Y3 (i:=11) PassesOwn.never rfl X6.nd rfl (Or.inl rfl) rfl ZK (Za (ZM (ZI ZW) rfl ZA Boot.«len» (Za (dv 3) Ze)) Ze) (Zg (Zw (i:=12) X6.nd (ZR (Za (Zf ZV (dv 4) (Xo OL rfl XW Boot.«int» (Za (YK (ZT hr) (dv 8) (dv 11) (ZE _)) Ze))) (Za (Zf ZV (dv 4) (Xo OL rfl XW Boot.«int» (Za (YK (ZT hr) (dv 8) (dv 11) (ZE _)) Ze))) Ze)))) (Zg (Y3 (i:=10) PassesOwn.never rfl X6.nd rfl (Or.inl rfl) rfl ZK (Za (ZM (ZI ZW) rfl ZA Boot.«len» (Za (dv 2) Ze)) Ze) (Zh (Zw (i:=12) X6.nd (Zk Wr hr (Za (dv 12) (Za (Zk XT hr (Za (ZR (Za (Zz (Zz (dv 5) (dv 8)) (dv 10)) (Za (Zz (Zz (dv 5) (dv 8)) (dv 10)) Ze))) (Za (Zz (Zz (dv 1) (Zz (dv 2) (dv 10))) (dv 11)) (Za (dv 4) Ze)))) Ze)))))) (Zh (Zw (i:=9) X6.nd (Zk Ww hr (Za (dv 9) (Za (Zk XT hr (Za (dv 12) (Za (Zk Wr hr (Za (Zz (dv 3) (dv 11)) (Za (Zz (dv 6) (dv 11)) Ze))) (Za (dv 4) Ze)))) Ze)))))))) (Zh (Yj (YX (dv 7) (dv 9)))))))) (Zh (Zt (dv 7)))))),λds S Q ex h=>by
  replace h:=A9 h;obtain⟨th,md,at_,bx,g,tu,rfl,h⟩:=h;obtain⟨R,ds,ms,is,bs,aC,M,hth,hmd,rp,hat,hbx,htu,ri,li,lM,hq,hi,zR,zM,zb,zt,hg,h⟩:=h;refine XN (n:=bx) (S1:=S) (o:=.lst (bs.map frD)) VH (λK hK=>by exact hK) hbx (by show (bs.map frD).length<=1000;rw[zA];lia) (λx hx S3 K3 p3 hK3=>?_) ?_
  ·obtain⟨v,_,rfl⟩:=zJ.mp (show x∈bs.map frD from hx);exact hK3
  have ei:(Zq (Ob.lst (bs.map frD))).map VH=(bs.map ZP).map frD:=L7 bs;rw[ei];refine ZZ (Zj (Zj hbx)) ?_;rw[zA];have lD:(YC g bs aC R is M).length=bs.length:=by unfold YC;rw[List.length_mapIdx];exact lM
  refine⟨⟨by lia,by lia⟩,λk dl' S'=>k<=bs.length/\Pre S S'/\S'[S.length]?=some (.lst ((bs.map ZP).map frD))/\S'[S.length+1]?=some (.lst (((YC g bs aC R is M).take k).map frD))/\∃u8 u9 ua ub uc:Option D,dl'=[some (.ref th),some (.ref md),some (.ref at_),some (.ref bx),some (.int g),some (.ref tu),some (.ref S.length),some (.ref (S.length+1)),u8,u9,ua,ub,uc],⟨zO _,YU (Ym _),Zj (Zy _ _),by have z:=Zy (S++[Ob.lst ((bs.map ZP).map frD)]) (Ob.lst []);rw[zI] at z;exact z,_,_,_,_,_,by rw[zI];rfl⟩,?_⟩;rintro k dl' S' ⟨hk,pr,hC,hF,u8,u9,ua,ub,uc,rfl⟩;rw[zH];refine YD (λc=>?_) (λc=>?_)
  ·have hth':=pr _ _ hth
   have hat':=pr _ _ hat
   have hbx':=pr _ _ hbx;obtain⟨ar,ear,har⟩:=(ri.pre pr).at (k:=k) (by lia);obtain⟨lE,zE⟩:=zM (M.getD k []) (by rw[zK,zC (show k<M.length by lia)];exact yA ..);have eD:(YC g bs aC R is M)[k]?=some (Wu g bs (is.map λ(i:Nat)=>gt aC (i:Int)) (is.map λi=>R.getD i []) k (M.getD k [])):=by
    unfold YC;rw[List.getElem?_mapIdx,zK,zC (show k<M.length by lia)];rfl
   have htu':=pr _ _ htu;generalize hes:M.getD k []=es at har lE zE eD;have hmd':=pr _ _ hmd
   have rp':=rp.pre pr
   have c1:atI ((bs.map ZP).map frD) (k:Int)=some (frD (ZP (gt bs (k:Int)))):=by
    have z:=Z1 (vs:=bs.map ZP) (i:=(k:Int)) ⟨by lia,by rw[zA];lia⟩;rw[z,Y0 (p:=ZP (gt bs (k:Int))) (by rw[zG,Y0 (zC c),zC c];rfl)]
   have eE:∀j:Nat,j<es.length->atI (es.map D.int) (j:Int)=some (.int (es.getD j 0))/\(es.map λe=>(e,e))[j]?=some (es.getD j 0,es.getD j 0)/\Sz 4000 (es.getD j 0):=λj hj=>by
    have e:es[j]?=some (es.getD j 0):=by rw[zK,zC hj];rfl
    exact⟨XU (by rw[zG,e];rfl),by rw[zG,e];rfl,zE _ (zL e)⟩
   have eI:∀j:Nat,j<is.length->is[j]?=some (is.getD j 0)/\atI (is.map wtD) (j:Int)=some (.int ((is.getD j 0:Nat):Int)):=λj hj=>by
    have e:is[j]?=some (is.getD j 0):=by rw[zK,zC hj];rfl
    exact⟨e,XU (by rw[zG,e];rfl)⟩
   refine VI (λdl2 S2=>S'=S2/\∃ua ub uc:Option D,dl2=[some (.ref th),some (.ref md),some (.ref at_),some (.ref bx),some (.int g),some (.ref tu),some (.ref S.length),some (.ref (S.length+1)),some (.int (k:Int)),some (frD (YA (ZP (gt bs (k:Int))) (sumP g (es.map λe=>(e,e)) (is.map λ(i:Nat)=>gt aC (i:Int))))),ua,ub,uc]) (λnx hx=>?_) ?_
   ·refine Zu (o:=.lst ((bs.map ZP).map frD)) (i:=(k:Int)) hC c1 ?_;refine ZZ hat' ?_;rw[zA];refine⟨⟨by lia,by lia⟩,λj dl2 S2=>j<=is.length/\S'=S2/\∃ua ub uc:Option D,dl2=[some (.ref th),some (.ref md),some (.ref at_),some (.ref bx),some (.int g),some (.ref tu),some (.ref S.length),some (.ref (S.length+1)),some (.int (k:Int)),some (frD (YA (ZP (gt bs (k:Int))) (sumP g ((es.map λe=>(e,e)).take j) ((is.map λ(i:Nat)=>gt aC (i:Int)).take j)))),ua,ub,uc],⟨zO _,rfl,_,_,_,by rw[J6,GG];rfl⟩,?_⟩;rintro j dl2 S2 ⟨hj,rfl,ua,ub,uc,rfl⟩;rw[zH];refine YD (λc2=>?_) (λc2=>?_)
    ·obtain⟨e1,e2,e3⟩:=eE j (by lia);obtain⟨i1,i2⟩:=eI j c2;have hij:=hi _ (zL i1)
     have t1:(is.map λ(i:Nat)=>gt aC (i:Int))[j]?=some (gt aC ((is.getD j 0:Nat):Int)):=by rw[zG,i1];rfl
     have zti:=zt _ (Qs (vs:=aC) (i:=((is.getD j 0:Nat):Int)) ⟨by lia,by lia⟩);refine Zu (o:=.lst ms) (i:=(k:Int)) htu' ear ?_;refine Zu (o:=.lst (es.map D.int)) (i:=(j:Int)) har e1 ?_;refine Zu (o:=.lst ms) (i:=(k:Int)) htu' ear ?_;refine Zu (o:=.lst (es.map D.int)) (i:=(j:Int)) har e1 ?_;refine Zu (o:=.lst (is.map wtD)) (i:=(j:Int)) hat' i2 ?_;refine Zu (o:=.lst (aC.map frD)) (i:=((is.getD j 0:Nat):Int)) hth' (Z1 ⟨by lia,by lia⟩) ?_;refine⟨⟨e3.mono (by decide),e3.mono (by decide),zti.1.mono (by decide),zti.2.mono (by decide),hg⟩,?_⟩;refine⟨by lia,rfl,some (.int (j:Int)),ub,uc,?_⟩;rw[Ti g _ _ j e2 t1,<- Fc];rfl
    ·have e:j=is.length:=by lia
     refine hx _ _ ⟨rfl,ua,ub,uc,?_⟩;rw[e,zY (by rw[zA];lia),zY (by rw[zA];lia)]
   rintro dl2 S2 ⟨rfl,ua,ub,uc,rfl⟩;generalize hn0:YA (ZP (gt bs (k:Int))) (sumP g (es.map λe=>(e,e)) (is.map λ(i:Nat)=>gt aC (i:Int)))=near0;have eS:Wu g bs (is.map λ(i:Nat)=>gt aC (i:Int)) (is.map λi=>R.getD i []) k es=Xa near0 (sumP g ((List.range bs.length).map λc=>YJ g k c (es.map λe=>(e,e)) (is.map λi=>R.getD i [])) (bs.map λp=>YA p (ZP p))):=by rw[<- hn0];rfl
   refine Ye (λdl2 S2=>S'=S2/\∃ua ub uc:Option D,dl2=[some (.ref th),some (.ref md),some (.ref at_),some (.ref bx),some (.int g),some (.ref tu),some (.ref S.length),some (.ref (S.length+1)),some (.int (k:Int)),some (frD (Wu g bs (is.map λ(i:Nat)=>gt aC (i:Int)) (is.map λi=>R.getD i []) k es)),ua,ub,uc]) (λnx hx=>?_) ?_
   ·refine ZZ hbx' ?_;rw[zA];refine⟨⟨by lia,by lia⟩,λl dl2 S2=>l<=bs.length/\S'=S2/\∃ua ub uc:Option D,dl2=[some (.ref th),some (.ref md),some (.ref at_),some (.ref bx),some (.int g),some (.ref tu),some (.ref S.length),some (.ref (S.length+1)),some (.int (k:Int)),some (frD (Xa near0 (sumP g (((List.range bs.length).map λc=>YJ g k c (es.map λe=>(e,e)) (is.map λi=>R.getD i [])).take l) ((bs.map λp=>YA p (ZP p)).take l)))),ua,ub,uc],⟨zO _,rfl,ua,ub,uc,by rw[J6,CO]⟩,?_⟩;rintro l dl2 S2 ⟨hl,rfl,ua,ub,uc,rfl⟩;rw[zH];refine YD (λc2=>?_) (λc2=>?_)
    ·refine Ye (λdl2 S2=>S'=S2/\dl2=[some (.ref th),some (.ref md),some (.ref at_),some (.ref bx),some (.int g),some (.ref tu),some (.ref S.length),some (.ref (S.length+1)),some (.int (k:Int)),some (frD (Xa near0 (sumP g (((List.range bs.length).map λc=>YJ g k c (es.map λe=>(e,e)) (is.map λi=>R.getD i [])).take l) ((bs.map λp=>YA p (ZP p)).take l)))),ua,some (.int (l:Int)),some (frD (if k=l then (g,g) else (0,0)))]) (λnx2 hx2=>?_) ?_
     ·have sg:Sz 21 g:=Sz.of (10^6) (by lia)
      have mo:∀b:Bool,IntMulOk g (if b then 1 else 0):=λb=>ZU sg (n:=21) (Sz.of 1 (by cases b<;>decide))
      refine⟨mo _,mo _,hx2 _ _ ⟨rfl,?_⟩⟩;by_cases e:k=l
      ·subst e;simp;rfl
      ·have e':¬ ((k:Int)=(l:Int)):=by lia
       rw[if_neg e];simp[e'];rfl
     rintro dl2 S2 ⟨rfl,rfl⟩;generalize hn1:Xa near0 (sumP g (((List.range bs.length).map λc=>YJ g k c (es.map λe=>(e,e)) (is.map λi=>R.getD i [])).take l) ((bs.map λp=>YA p (ZP p)).take l))=near1;have zcol:Bd 2000 ((is.map λi=>R.getD i []).map λr=>r.getD l (0,0)):=λp hp=>by
      obtain⟨r,hr,rfl⟩:=zJ.mp hp;obtain⟨i,him,rfl⟩:=zJ.mp hr;have lr:=(hi i him).1;obtain⟨z1,z2⟩:=zR (R.getD i []) (by rw[zK,zC lr];exact yA ..);refine z2 _ ?_;show (R.getD i []).getD l (0,0)∈R.getD i [];generalize R.getD i []=r at z1;rw[zK,zC (show l<r.length by lia)];exact yA ..
     refine Ye (λdl2 S2=>S'=S2/\∃ua:Option D,dl2=[some (.ref th),some (.ref md),some (.ref at_),some (.ref bx),some (.int g),some (.ref tu),some (.ref S.length),some (.ref (S.length+1)),some (.int (k:Int)),some (frD near1),ua,some (.int (l:Int)),some (frD (YJ g k l (es.map λe=>(e,e)) (is.map λi=>R.getD i [])))]) (λnx2 hx2=>?_) ?_
     ·refine ZZ hat' ?_;rw[zA];refine⟨⟨by lia,by lia⟩,λj dl2 S2=>j<=is.length/\S'=S2/\∃ua:Option D,dl2=[some (.ref th),some (.ref md),some (.ref at_),some (.ref bx),some (.int g),some (.ref tu),some (.ref S.length),some (.ref (S.length+1)),some (.int (k:Int)),some (frD near1),ua,some (.int (l:Int)),some (frD (YA (if k=l then (g,g) else (0,0)) (sumP g ((es.map λe=>(e,e)).take j) (((is.map λi=>R.getD i []).map λr=>r.getD l (0,0)).take j))))],⟨zO _,rfl,ua,by rw[J6,GG]⟩,?_⟩;rintro j dl2 S2 ⟨hj,rfl,ua,rfl⟩;rw[zH];refine YD (λc3=>?_) (λc3=>?_)
      ·obtain⟨e1,e2,e3⟩:=eE j (by lia);obtain⟨i1,i2⟩:=eI j c3;have hij:=hi _ (zL i1)
       have t1:((is.map λi=>R.getD i []).map λr=>r.getD l (0,0))[j]?=some ((R.getD (is.getD j 0) []).getD l (0,0)):=by rw[zG,zG,i1];rfl
       have zti:=zcol _ (zL t1);obtain⟨ab,eab,_,hab⟩:=rp'.at (i:=((is.getD j 0:Nat):Int)) ⟨by lia,by lia⟩;rw[zH] at hab;obtain⟨z1,_⟩:=zR (R.getD (is.getD j 0) []) (by rw[zK,zC hij.1];exact yA ..);have eg:gt (R.getD (is.getD j 0) []) (l:Int)=(R.getD (is.getD j 0) []).getD l (0,0):=by
        rw[Y0 (zC (show l<(R.getD (is.getD j 0) []).length by lia)),zK (l:=R.getD (is.getD j 0) []),zC (show l<(R.getD (is.getD j 0) []).length by lia)];rfl
       have afr:=Z1 (vs:=R.getD (is.getD j 0) []) (i:=(l:Int)) ⟨by lia,by lia⟩;rw[eg] at afr;refine Zu (o:=.lst ms) (i:=(k:Int)) htu' ear ?_;refine Zu (o:=.lst (es.map D.int)) (i:=(j:Int)) har e1 ?_;refine Zu (o:=.lst ms) (i:=(k:Int)) htu' ear ?_;refine Zu (o:=.lst (es.map D.int)) (i:=(j:Int)) har e1 ?_;refine Zu (o:=.lst (is.map wtD)) (i:=(j:Int)) hat' i2 ?_;refine Zu (o:=.lst ds) (i:=((is.getD j 0:Nat):Int)) hmd' eab ?_;refine Zu (o:=.lst ((R.getD (is.getD j 0) []).map frD)) (i:=(l:Int)) hab afr ?_;refine⟨⟨e3.mono (by decide),e3.mono (by decide),zti.1.mono (by decide),zti.2.mono (by decide),hg⟩,?_⟩;refine⟨by lia,rfl,some (.int (j:Int)),?_⟩;rw[Ti g _ _ j e2 t1,<- Fc];rfl
      ·have e:j=is.length:=by lia
       refine hx2 _ _ ⟨rfl,ua,?_⟩;rw[e,zY (by rw[zA];lia),zY (by rw[zA,zA];lia)];rfl
     rintro dl2 S2 ⟨rfl,ua,rfl⟩;have zl:Sz 6010 (YJ g k l (es.map λe=>(e,e)) (is.map λi=>R.getD i [])).1/\Sz 6010 (YJ g k l (es.map λe=>(e,e)) (is.map λi=>R.getD i [])).2:=by
      have s4:Bd 4000 (es.map λe=>(e,e)):=λp hp=>by
       obtain⟨e,he,rfl⟩:=zJ.mp hp;exact⟨zE e he,zE e he⟩
      have z:=Kh hg.1 s4 zcol is.length (by rw[zA];lia) (by rw[zA,zA];lia);rw[zY (by rw[zA];lia),zY (by rw[zA,zA];lia)] at z;have z1:=z.1.mono (show _<=6005 by lia)
      have z2:=z.2.mono (show _<=6005 by lia)
      have sg:Sz 21 g:=Sz.of (10^6) (by lia)
      have s0:Sz 21 0:=Sz.of 0 (by decide)
      have sw:Sz 21 (if k=l then (g,g) else ((0:Int),(0:Int))).1/\Sz 21 (if k=l then (g,g) else ((0:Int),(0:Int))).2:=by
       by_cases e:k=l
       ·rw[if_pos e];exact⟨sg,sg⟩
       ·rw[if_neg e];exact⟨s0,s0⟩
      unfold YJ YA;exact⟨(sw.1.sub z2).mono (by lia),(sw.2.sub z1).mono (by lia)⟩
     have c3:atI ((bs.map ZP).map frD) (l:Int)=some (frD (ZP (gt bs (l:Int)))):=by
      have z:=Z1 (vs:=bs.map ZP) (i:=(l:Int)) ⟨by lia,by rw[zA];lia⟩;rw[z,Y0 (p:=ZP (gt bs (l:Int))) (by rw[zG,Y0 (zC c2),zC c2];rfl)]
     have zbl:=zb _ (Qs (vs:=bs) (i:=(l:Int)) ⟨by lia,by lia⟩)
     have zm:Sz 61 (mid (gt bs (l:Int))):=F9 zbl.1 zbl.2;refine Zu (o:=.lst (bs.map frD)) (i:=(l:Int)) hbx' (Z1 ⟨by lia,by lia⟩) ?_;refine Zu (o:=.lst ((bs.map ZP).map frD)) (i:=(l:Int)) hC c3 ?_;refine⟨⟨zl.1,zl.2,(zbl.1.sub zm).mono (by lia),(zbl.2.sub zm).mono (by lia),hg⟩,?_⟩;refine⟨by lia,rfl,ua,some (.int (l:Int)),some (frD (YJ g k l (es.map λe=>(e,e)) (is.map λi=>R.getD i []))),?_⟩;rw[Ti g _ _ l (u:=YJ g k l (es.map λe=>(e,e)) (is.map λi=>R.getD i [])) (v:=YA (gt bs (l:Int)) (ZP (gt bs (l:Int)))) (by rw[zG,xV c2];rfl) (by rw[zG,Y0 (zC c2),zC c2];rfl),<- zaw,hn1];rfl
    ·have e:l=bs.length:=by lia
     refine hx _ _ ⟨rfl,ua,ub,uc,?_⟩;rw[e,zY (by rw[zA,xU];lia),zY (by rw[zA];lia),eS]
   rintro dl2 S2 ⟨rfl,ua,ub,uc,rfl⟩;refine X9 (n:=S.length+1) (S1:=S') (xs:=((YC g bs aC R is M).take k).map frD) (y:=frD (Wu g bs (is.map λ(i:Nat)=>gt aC (i:Int)) (is.map λi=>R.getD i []) k es)) (λK hK=>by exact hK) hF (λK hK=>by exact hK) (by rw[zA,yB];lia) ?_;have lC:=Z4 hC;refine⟨by lia,λx o e=>Yb (pr x o e) (by have:=Z4 e;lia),Yb hC (by lia),?_,_,_,_,_,_,rfl⟩;rw[xF,eD,yC];exact Yu hF
  ·have e:k=bs.length:=by lia
   rw[e,zY (by lia)] at hF;exact h _ _ pr (by lia) hF⟩)
def CU  (P5:Df K mg q84 Oc Rq)(Xp:Fk P w K mg base 1 q40 WZ VP)(Yd:Fk P w K mg base 2 q29 Wc W5)(ZK:mg q87=none)(ZA:mg "len"=none)(Xy:mg "max"=none)(Xf:mg "min"=none):Fk P w K mg base 3 q84 Rq JE:=
 P5.mk' (ZD (k:=2) P5.F WG (λ_ _ _ _=>nR λ_=>nR λ_=>nN:Ln (JE) 2) λ_ _ _ _ _ _ hr=>⟨_,(Zg (Zw (i:=2) WG.nd (Yo Ze)) (Zg (Y3 (i:=3) PassesOwn.never rfl WG.nd rfl (Or.inl rfl) rfl ZK (Za (ZM (ZI ZW) rfl ZA Boot.«len» (Za (dv 0) Ze)) Ze) (Zg (Zw (i:=4) WG.nd (Zk Yd hr (Za (dv 1) (Za (Zf ZQ Zd (dv 3)) Ze)))) (Zg (Zw (i:=5) WG.nd (Zf Yr (Zi (Zz (dv 0) (dv 3)) Zd) (Zf ZY (Zf Z9 (dv 4) Zd) Zd))) (Zg (Zw (i:=6) WG.nd (Zf ZQ (Zi (Zz (dv 0) (dv 3)) Zd) (Zf ZY (Zf Z9 (dv 4) Zd) Zd))) (Zg (ZN (ZL (ZT hr) (Zf ZY (dv 4) Zd) Zd (ZE _)) (Zh (Zw (i:=5) WG.nd (Zf ZQ (Zf ZQ (Zi (Zz (dv 0) (dv 3)) Zd) Zd) (Zf ZY (Zf Z9 (dv 4) Zd) Zd)))) ZO) (Zg (ZN (ZL (ZT hr) (Zf ZY (dv 4) Zd) Zd (ZE _)) (Zh (Zw (i:=6) WG.nd (Zf Yr (Zf Yr (Zi (Zz (dv 0) (dv 3)) Zd) Zd) (Zf ZY (Zf Z9 (dv 4) Zd) Zd)))) ZO) (Zg (ZN (PDW.pt (LU (Xq (Zk Xp hr (Za (dv 1) Ze))) (NI (ZL Qa (Zf ZY (dv 4) Zd) Zd (ZE _))))) (Zg (Zw (i:=5) WG.nd (Zf Yr (Zf Yz (Zf Z9 (dv 4) Zd) (Zf ZQ (Zf ZV Zd (Zf Xh Zd Zd)) Zd)) (Zf Xh Zd Zd))) (Zh (Zw (i:=6) WG.nd (Zf ZQ (dv 5) (Zf Yz (Zf Y2 (Zf Z9 (dv 4) Zd) (Zf ZQ (Zf ZV Zd (Zf Xh Zd Zd)) Zd)) (Zf Xh Zd Zd)))))) ZO) (Zh (Yj (YX (dv 2) (ZR (Za (ZM (QK rfl) rfl Xf Boot.«min» (Za (dv 5) (Za (dv 6) Ze))) (Za (ZM (La rfl) rfl Xy Boot.«max» (Za (dv 5) (Za (dv 6) Ze))) Ze))))))))))))) (Zh (Zt (dv 2))))),λds S Q ex h=>by
  replace h:=eRR h;obtain⟨du,sc,rfl,h⟩:=h;obtain⟨cs,us,hs,hu,l4,h⟩:=h;refine ZZ (Zj hu) ?_;rw[zA];refine⟨⟨by lia,by lia⟩,λk dl' T=>k<=us.length/\∃aE:LI,Pre S T/\T[S.length]?=some (.lst (aE.map frD))/\aE.length=k/\∃o3 o4 o5 o6:Option D,dl'=[some (.ref du),some (.ref sc),some (.ref S.length),o3,o4,o5,o6],⟨zO _,[],Ym _,Zy _ _,rfl,_,_,_,_,rfl⟩,?_⟩;rintro k dl' S' ⟨hk,aE,pr,hn,ln,o3,o4,o5,o6,rfl⟩;rw[zH];refine YD (λc=>?_) (λc=>h _ _ aE pr (zD _) hn (by lia));have b2:=Z1 (vs:=us) (i:=(k:Int)) ⟨by lia,by lia⟩
  have hu':=pr _ _ hu
  have hs':=pr _ _ hs;refine Ye (λdl2 S2=>S'=S2/\∃v:Int,dl2=[some (.ref du),some (.ref sc),some (.ref S.length),some (.int (k:Int)),some (.int v),o5,o6]) (λnx hx=>?_) ?_
  ·exact⟨cs,hs',⟨by lia,by lia⟩,λv=>hx _ _ ⟨rfl,v,rfl⟩⟩
  rintro dl2 S2 ⟨rfl,v,rfl⟩;refine VI (λdl2 S2=>S'=S2/\∃x y:Int,dl2=[some (.ref du),some (.ref sc),some (.ref S.length),some (.int (k:Int)),some (.int v),some (.int x),some (.int y)]) (λnx hx=>?_) ?_
  ·refine Zu (o:=.lst (us.map frD)) hu' b2 ?_;refine Zu (o:=.lst (us.map frD)) hu' b2 ?_;exact hx _ _ ⟨rfl,_,_,rfl⟩
  rintro dl2 S2 ⟨rfl,x,y,rfl⟩;refine Ye (λdl2 S2=>S'=S2/\∃x y:Int,dl2=[some (.ref du),some (.ref sc),some (.ref S.length),some (.int (k:Int)),some (.int v),some (.int x),some (.int y)]) (λnx hx=>?_) ?_
  ·refine ifD (λ_=>?_) (λ_=>hx _ _ ⟨rfl,_,_,rfl⟩);refine Zu (o:=.lst (us.map frD)) hu' b2 ?_;exact hx _ _ ⟨rfl,_,_,rfl⟩
  rintro dl2 S2 ⟨rfl,x,y,rfl⟩;refine Ye (λdl2 S2=>S'=S2/\∃x y:Int,dl2=[some (.ref du),some (.ref sc),some (.ref S.length),some (.int (k:Int)),some (.int v),some (.int x),some (.int y)]) (λnx hx=>?_) ?_
  ·refine ifD (λ_=>?_) (λ_=>hx _ _ ⟨rfl,_,_,rfl⟩);refine Zu (o:=.lst (us.map frD)) hu' b2 ?_;exact hx _ _ ⟨rfl,_,_,rfl⟩
  rintro dl2 S2 ⟨rfl,x,y,rfl⟩;refine Ye (λdl2 S2=>S'=S2/\∃x y:Int,dl2=[some (.ref du),some (.ref sc),some (.ref S.length),some (.int (k:Int)),some (.int v),some (.int x),some (.int y)]) (λnx hx=>?_) ?_
  ·refine⟨cs,hs',?_⟩;have m2:IntMulOk 2 (10^Int.toNat 20):=ZU (m:=10) (n:=100) (Sz.of 2 (by decide)) (Sz.of (10^20) (by decide))
   have p1:(0:Int)<2*10^20+1:=by decide
   have p2:(0:Int)<10^20:=by decide
   have fd:=(Sz.of (n:=200) (i:=2*10^20+1) (3*10^20) (by decide)).fd p1;cases frS cs
   ·exact hx _ _ ⟨rfl,_,_,rfl⟩
   ·refine ifD (λ_=>?_) (λ_=>hx _ _ ⟨rfl,_,_,rfl⟩);refine⟨m2,p1,?_⟩;refine⟨m2,fd,p2,?_⟩;exact hx _ _ ⟨rfl,_,_,rfl⟩
  rintro dl2 S2 ⟨rfl,x,y,rfl⟩;refine VN (n:=S.length) (xs:=aE.map frD) (λK hK=>by exact hK) hn (λK hK=>?_) (by rw[zA];lia);refine hK (frD (mnI x y,mxI x y)) S' hn ?_;exact⟨by lia,aE++[(mnI x y,mxI x y)],λx o e=>Yb (pr x o e) (by have:=Z4 e;lia),by rw[yC];exact Yu hn,by rw[zI,ln];rfl,_,_,_,_,rfl⟩⟩)
def zbo  (M7:Df K mg q16 Px QC)(ZA:mg "len"=none):Fk P w K mg base 1 q16 QC Im:=
 M7.mk' (ZD (k:=0) M7.F Jf (λ_ _ _ _=>nR λ_=>nI λ_=>nN:Ln (Im) 2) λ_ _ _ _ _ _ hr=>⟨_,(Zg (Zw (i:=2) Jf.nd (Zf Yz (Zf Z9 (dv 1) Zd) (ZM (ZI ZW) rfl ZA Boot.«len» (Za (dv 0) Ze)))) (Zg (Zw (i:=3) Jf.nd (Zz (dv 0) (dv 2))) (Zh (Fh (dv 0) (dv 2) (Zz (Yo (Za (Hu (dv 3) (FV Zd) Gv) (Za (Zf HS (dv 3) (Hu (dv 3) Gv (FV Zd))) Ze))) (Zf ZY (dv 1) Zd)))))),λds S Q ex h=>by
  replace h:=eRI h;obtain⟨r,c,rfl,h⟩:=h;obtain⟨ds,L,hr,rd,nr,l9,x9,h⟩:=h;refine ZZ hr ?_;rw[rd.1];have np:(0:Int)<((L.length:Nat):Int):=by lia
  have kr:=Yl (a:=c/2) np;refine⟨np,?_⟩;obtain⟨k,hk,lk⟩:∃k:Nat,c/2%((L.length:Nat):Int)=(k:Int)/\k<L.length:=⟨(c/2%((L.length:Nat):Int)).toNat,by lia,by lia⟩;have hL:=zC lk
  have hd:=zC (show k<ds.length by rw[rd.1];exact lk);obtain⟨a,ea,ha⟩:=rd.2 k _ _ hd hL;rw[ea] at hd;have xl:=x9 _ (zL hL);generalize L[k]=xs at hL ha xl;have ix:∀(T:Sto)(K:DK),T[r]?=some (.lst ds)->K (.ref a) T->YH wIx (.ref r) (.int (c/2%((L.length:Nat):Int))) T K:=λT K hT hK=>by
   rw[hk];exact Zu (o:=.lst ds) (i:=(k:Int)) hT (XU hd) hK
  refine ix S _ hr ?_;have lr:=Z4 hr
  have la:=Z4 ha;refine zci (n:=r) (k:=c/2%((L.length:Nat):Int)) (λd T=>∃(b:Nat)(ys:List D),d=.ref b/\Pre S T/\S.length<=b/\T[b]?=some (.lst ys)/\(ys=xs.drop 1\/ys=xs++xs.take 1)) (λK hK=>?_) (λS1 K hK=>by exact hK) (λS1 K hK=>by exact hK) ?_
  ·refine Fe (n:=a) (o:=.lst xs) (lo:=some 1) (hi:=none) (S3:=S) (λK hK=>by exact hK) (λK hK=>by exact hK) (λK hK=>by exact hK) ha ?_;have c1:WM (Zq (Ob.lst xs)) (some 1) none=xs.drop 1:=zbi ..;rw[c1];refine Fe (n:=a) (o:=.lst xs) (lo:=none) (hi:=some 1) (S3:=S++[.lst (xs.drop 1)]) (λK hK=>by exact hK) (λK hK=>by exact hK) (λK hK=>by exact hK) (Zj ha) ?_;have c2:WM (Zq (Ob.lst xs)) none (some 1)=xs.take 1:=BN xs;rw[c2];refine F2 (xs:=xs) (ys:=xs.take 1) (Zj (Zj ha)) (Zy _ _) (by rw[yB];lia) ?_;have r2:=Yl (a:=c) (b:=2) (by decide)
   have e2:c%2=0\/c%2=1:=by lia
   have ob:∀z:Int,c%2=z->∀d,atI [D.ref S.length,D.ref (S++[Ob.lst (xs.drop 1)]++[Ob.lst (xs.take 1)]).length] z=some d->∀K2:DK,K2 d (S++[Ob.lst (xs.drop 1)]++[Ob.lst (xs.take 1)]++[Ob.lst (xs++xs.take 1)]++[Ob.lst [D.ref S.length,D.ref (S++[Ob.lst (xs.drop 1)]++[Ob.lst (xs.take 1)]).length]])->YH wIx (.ref (S++[Ob.lst (xs.drop 1)]++[Ob.lst (xs.take 1)]++[Ob.lst (xs++xs.take 1)]).length) (.int (c%2)) (S++[Ob.lst (xs.drop 1)]++[Ob.lst (xs.take 1)]++[Ob.lst (xs++xs.take 1)]++[Ob.lst [D.ref S.length,D.ref (S++[Ob.lst (xs.drop 1)]++[Ob.lst (xs.take 1)]).length]]) K2:=λz ez d hd K2 hK2=>by
    rw[ez];exact Zu (o:=.lst [D.ref S.length,D.ref (S++[Ob.lst (xs.drop 1)]++[Ob.lst (xs.take 1)]).length]) (i:=z) (Zy _ _) hd hK2
   rcases e2 with e2|e2
   ·exact ob 0 e2 _ rfl _ (hK _ _ ⟨_,_,rfl,YU (YU (YU (Ym _))),zD _,Zj (Zj (Zj (Zy _ _))),.inl rfl⟩)
   ·exact ob 1 e2 _ rfl _ (hK _ _ ⟨_,_,rfl,YU (YU (YU (Ym _))),by rw[zI,zI];lia,Zj (Zy _ _),.inr rfl⟩)
  ·rintro d T ⟨b,ys,rfl,pT,lb,hb,ey⟩;refine⟨ds,k,pT _ _ hr,by rw[hk];exact zc4 (by rw[rd.1];exact lk),?_⟩;refine h _ k xs ys (ds.set k (.ref b)) (λx o nx e=>Yb (pT _ _ e) (Ne.symm nx)) (Yu (pT _ _ hr)) hL ey ⟨by rw[List.length_set,List.length_set];exact rd.1,λi d zs hd2 hz=>?_⟩;by_cases ci:i=k
   ·subst ci;rw[yT (by rw[rd.1];exact lk)] at hd2;rw[yT lk] at hz;cases hd2;cases hz;exact⟨b,rfl,Yb hb (by lia)⟩
   ·rw[yY (Ne.symm ci)] at hd2 hz;obtain⟨a2,e3,h3⟩:=rd.2 i d zs hd2 hz;refine⟨a2,e3,?_⟩;by_cases ca:a2=r
    ·exact absurd (by rw[hd2,e3,ca]) (nr i)
    ·exact Yb (pT _ _ h3) (Ne.symm ca)⟩)
def zad  (NB:Df K mg q34 Qo Up)(YM:mg "all"=none)(ZA:mg "len"=none):Fk P w K mg base 1 q34 Up Rv:=
 NB.mk' (Wa (ZD (k:=0) NB.F zbb (X0 (λ_ _ _ _=>nR λ_=>nI λ_=>nN:Ln (Rv) 2)) λ_ _ _ _ _ _ hr=>⟨_,(Zh (Zt (ZM (ZI (UX rfl)) rfl YM Boot.«all» (Za (Wh (x:="each") (N:=["many"]) (caps:=[1]) (ar:=Zo Qo) rfl rfl csc rfl (by decide) (dv 0) (λ_ _ _ _ _ _=>Yt) (λ_ _ _ _ _ _=>(YK (ZT hr) (ZM (ZI ZW) rfl ZA Boot.«len» (Za (dv 0) Ze)) (dv 1) (ZE _)))) Ze)))),λds S Q ex h=>by
  obtain⟨Q0,ex0,rfl,rfl,h⟩:=h;replace h:=eRI h;obtain⟨l,m,rfl,h⟩:=h;rcases h with ⟨R,ds,hd,rows,l9,h⟩|⟨R,ds,hd,rows,l9,h⟩
  ·refine Nf (n:=l) (S1:=S) (o:=.lst ds) (λk d=>∃r,R[k]?=some r/\d=.bl (decide (((r.length:Nat):Int)=m))) (λK hK=>by exact hK) hd (by show ds.length<=1000;rw[rows.1];lia) (λk x hx S2 K pr hK=>?_) (λxs lx hx=>?_)
   ·have hx':ds[k]?=some x:=hx
    have hk:k<R.length:=by
     have:=(zF.mp hx').1;rw[rows.1] at this;exact this
    obtain⟨a,rfl,_,ha⟩:=rows.2 k x _ hx' (zC hk);refine ZZ (pr _ _ ha) ?_;rw[zA];exact hK _ ⟨_,zC hk,rfl⟩
   ·have lx':xs.length=R.length:=by rw[lx];exact rows.1
    have e:xs=(R.map λr=>decide (((r.length:Nat):Int)=m)).map D.bl:=by
     refine xG λk=>?_
     by_cases hk:k<xs.length
     ·obtain⟨r,hr,e⟩:=hx k _ (zC hk);rw[zC hk,zG,zG,hr,e];rfl
     ·rw[yG (by lia),yG (by simp;lia)]
    subst e;refine V4 (n:=S.length) (o:=.lst _) (Zy _ _) (Jh _) ?_;exact⟨Pre.refl.push,.bl _,h⟩
  ·refine Nf (n:=l) (S1:=S) (o:=.lst ds) (λk d=>∃r,R[k]?=some r/\d=.bl (decide (((r.length:Nat):Int)=m))) (λK hK=>by exact hK) hd (by show ds.length<=1000;rw[rows.1];lia) (λk x hx S2 K pr hK=>?_) (λxs lx hx=>?_)
   ·have hx':ds[k]?=some x:=hx
    have hk:k<R.length:=by
     have:=(zF.mp hx').1;rw[rows.1] at this;exact this
    obtain⟨a,rfl,ha⟩:=rows.2 k x _ hx' (zC hk);refine ZZ (pr _ _ ha) ?_;rw[zA];exact hK _ ⟨_,zC hk,rfl⟩
   ·have lx':xs.length=R.length:=by rw[lx];exact rows.1
    have e:xs=(R.map λr=>decide (((r.length:Nat):Int)=m)).map D.bl:=by
     refine xG λk=>?_
     by_cases hk:k<xs.length
     ·obtain⟨r,hr,e⟩:=hx k _ (zC hk);rw[zC hk,zG,zG,hr,e];rfl
     ·rw[yG (by lia),yG (by simp;lia)]
    subst e;refine V4 (n:=S.length) (o:=.lst _) (Zy _ _) (Jh _) ?_;exact⟨Pre.refl.push,.bl _,h⟩⟩))
def zas  (OQ:Df K mg q90 OU Qc):Fk P w K mg base 1 q90 Qc KR:=
 OQ.mk' (ZD (k:=0) OQ.F Ou (λ_ _ _ _=>nR λ_=>nN:Ln (KR) 1) λ_ _ _ _ _ _ hr=>⟨_,(Zg (Zw (i:=1) Ou.nd (Yo Ze)) (Zg (K5 (i:=2) PassesOwn.never rfl Ou.nd rfl (Or.inl rfl) (dv 0) (Zg (Zw (i:=3) Ou.nd (Zi (dv 2) Zd)) (Zh (ZN (ZL (ZT hr) (Zi (dv 3) Zd) Z3 (ZE _)) (Zg (Yj (YX (dv 1) (Zi (dv 3) Zd))) (Zh (Yj (YX (dv 1) (Zi (dv 3) Zd))))) ZO)))) (Zh (Zt (dv 1))))),λds S Q ex h=>by
  replace h:=eR h;obtain⟨b,rfl,h⟩:=h;obtain⟨m,a1,a2,a3,a4,a5,hd,h⟩:=h;refine IT (n:=b) (o:=.lst [.tup [.ref m,.tup [.str "one",.ref a1,.ref a2,.ref a3,.ref a4,.ref a5]]]) (λk dl' S'=>S'=S++[.lst []]/\∃o2 o3:Option D,dl'=[some (.ref b),some (.ref S.length),o2,o3]) ⟨rfl,_,_,rfl⟩ (λk dl' S' w=>by rw[w.1];exact Zj hd) ?_ ?_
  ·rintro k x dl' S' nx ct hx ⟨rfl,o2,o3,rfl⟩ hn;cases k with
   | zero=>
    cases hx;exact hn _ _ ⟨rfl,_,_,rfl⟩
   | succ k=>exact nomatch hx
  ·rintro dl' S' ⟨rfl,o2,o3,rfl⟩;exact h⟩)
def CJ  (Mb:Df K mg q36 SG QJ)(J2:Fk P w K mg base 1 q90 Qc KR)(WW:Fk P w K mg base 1 q34 Up Rv)(Wm:mg "sorted"=none)(Xe:mg "list"=none)(ZK:mg q87=none)(ZA:mg "len"=none):Fk P w K mg base 2 q36 QJ L1:=
 Mb.mk' (ZD (k:=1) Mb.F zaX (λ_ _ _ _=>nR λ_=>nR λ_=>nN:Ln (L1) 2) λ_ _ _ _ _ _ hr=>⟨_,(Zg (ZN (PDW.pt (Vc (ZL (ZT hr) (ZM (ZI ZW) rfl ZA Boot.«len» (Za (dv 1) Ze)) Zd (ZE _)) (Vc (ZL (zbn hr) (Zi (Zz (dv 1) Zd) Zd) (dv 0) (ZE _)) (VO (Wl (Xq (Zk WW hr (Za (Wh (x:="entry") (N:=[]) (caps:=[]) (ar:=Zo SG) rfl rfl csc rfl (by decide) (dv 1) (λ_ _ _ _ _ _=>Yt) (λ_ _ _ _ _ _=>(Zi (dv 0) Zd))) (Za (ZM (ZI ZW) rfl ZA Boot.«len» (Za (dv 0) Ze)) Ze))))))))) (Zh (Zt Y8)) ZO) (Zh (Zt (YK (Av hr) (ZM (ZI IK) rfl Wm Boot.«sorted» (Za (Zk J2 hr (Za (dv 1) Ze)) Ze)) (Dc rfl rfl Xe Boot.«list» rfl ZK (Za Zd (Za (ZM (ZI ZW) rfl ZA Boot.«len» (Za (dv 1) Ze)) Ze))) (ZE _))))),λds S Q ex h=>by
  replace h:=eRR h;obtain⟨bx,b,rfl,h⟩:=h;obtain⟨bs,m,a1,a2,a3,a4,a5,hb,hd,hm,h⟩:=h;generalize eds:[D.tup [.ref m,.tup [.str "one",.ref a1,.ref a2,.ref a3,.ref a4,.ref a5]]]=ds at hd;refine ZZ hd ?_;refine ifD (λe=>absurd e (by rw[<- eds];show ¬ ((1:Nat):Int)=0;decide)) (λ_=>?_);refine Zu (i:=0) (o:=.lst ds) hd (d:=.tup [.ref m,.tup [.str "one",.ref a1,.ref a2,.ref a3,.ref a4,.ref a5]]) (by rw[<- eds];rfl) ?_;subst eds;refine BB (xs:=bs.map frD) (ys:=bs.map frD) hm hb (b:=true) (Gf _) ?_;refine XN (n:=b) (S1:=S) (o:=.lst [.tup [.ref m,.tup [.str "one",.ref a1,.ref a2,.ref a3,.ref a4,.ref a5]]]) fstD (λK hK=>by exact hK) hd (show 1<=1000 by decide) (λx hx S2 K p2 hK=>?_) ?_
  ·rw[yQ.mp (show x∈[D.tup [.ref m,.tup [.str "one",.ref a1,.ref a2,.ref a3,.ref a4,.ref a5]]] from hx)] at hK ⊢;exact hK
  refine ZZ (Zj hb) ?_;rw[zA];refine .inl ⟨[bs],[.ref m],Zy _ _,⟨rfl,λk d r hd hr=>?_⟩,show 1<=900 by decide,?_⟩
  ·cases k with
   | zero=>
    cases hd;cases hr;exact⟨m,rfl,zO _,Zj hm⟩
   | succ k=>exact nomatch hd
  have ea:([bs].map λr=>decide (((r.length:Nat):Int)=((bs.length:Nat):Int))).all id=true:=by simp
  rw[ea];refine⟨m,a1,a2,a3,a4,a5,Zj hd,?_⟩;refine Ju (o:=.lst []) (ns:=[]) (ZS (Zy _ _) rfl) rfl (by decide) λms pm sm=>?_
  obtain rfl:=pm.eq_nil;refine zcq (i:=1) (j:=1) (S1:=S++[.lst [.ref m]]++[.lst []]++[.lst []]) (λK hK=>?_) ⟨by decide,by decide,by decide⟩ ?_
  ·refine ZZ (Zj (Zj (Zj hd))) ?_;exact hK
  refine zaS (xs:=[]) (ys:=[]) (Zj (Zy _ _)) (Zy _ _) (b:=true) rfl ?_;exact h _ (YU (YU (YU (Ym _))))⟩)
def Ex  (Lp:Df K mg q95 Q3 R4):Fk P w K mg base 1 q95 R4 J4:=
 Lp.mk' (ZD (k:=0) Lp.F AI (λ_ _ _ _=>nP λ_ _=>nP λ_ _=>nN:Ln (J4) 2) λ_ _ _ _ _ _ hr=>⟨_,(Zh (Zt (W3 (YK TL (Zi (dv 1) Zd) (Zi (dv 0) Zd) (ZE _)) (WX (YK TL (Zi (dv 0) Zd) (Zi (dv 1) Zd) (ZE _)))))),λds S Q ex h=>by
  replace h:=ePP h;obtain⟨_,_,_,_,rfl,h⟩:=h;refine ifD (λe=>?_) (λe=>?_)
  ·rw[decide_eq_true e,Bool.true_and] at h;exact h
  ·rw[decide_eq_false e,xM] at h;exact h⟩)
def zak  (Mj:Df K mg q45 RC Ub)(Kb:Fk P w K mg base 1 q95 R4 J4)(YM:mg "all"=none)(Ys:mg "zip"=none):Fk P w K mg base 2 q45 Ub SJ:=
 Mj.mk' (Wa (ZD (k:=1) Mj.F zcD (X0 (λ_ _ _ _=>nR λ_=>nR λ_=>nN:Ln (SJ) 2)) λ_ _ _ _ _ _ hr=>⟨_,(Zh (Zt (ZM (ZI (UX rfl)) rfl YM Boot.«all» (Za (TK (x1:="one") (x2:="other") (N:=[]) (caps:=[]) (ar:=Zo RC) rfl rfl Vi rfl rfl rfl (by decide) rfl Ys Boot.«zip» (Za (dv 0) (Za (dv 1) Ze)) (λ_ _ _ _ _ _=>(Zk Kb hr (Za (dv 0) (Za (dv 1) Ze))))) Ze)))),λds S Q ex h=>by
  obtain⟨Q0,ex0,rfl,rfl,h⟩:=h;replace h:=eRR h;obtain⟨m,n,rfl,h⟩:=h;obtain⟨us,vs,h1,h2,hl,h⟩:=h;refine UR (n:=m) (n':=n) (S1:=S) (xs:=us.map frD) (ys:=vs.map frD) (λx y=>match x,y with|.tup [.int a,.int b],.tup [.int c,.int d]=>.bl (decide (c<=a)&&decide (b<=d))|_,_=>.non) (λK hK=>by exact hK) h1 h2 (by rw[zA];exact hl) (λk x y hx hy S2 K pr hK=>?_) ?_
  ·obtain⟨p,_,rfl⟩:=zJ.mp (zL hx);obtain⟨q,_,rfl⟩:=zJ.mp (zL hy);exact hK
  ·refine V4 (n:=S.length) (o:=.lst _) (bs:=List.zipWith Tt us vs) (Zy _ _) (El us vs) ?_;exact⟨Pre.refl.push,.bl _,h⟩⟩))
def Bt  (OK:Df K mg "less" Mt Rz):Fk P w K mg base 1 "less" Rz Ie:=
 OK.mk' (ZD (k:=0) OK.F Dz (λ_ _ _ _=>nP λ_ _=>nP λ_ _=>nN:Ln (Ie) 2) λ_ _ _ _ _ _ hr=>⟨_,(Zh (Zt (YK X8 (Zf ZV (Zi (dv 0) Zd) (Zi (dv 1) Zd)) (Zf ZV (Zi (dv 1) Zd) (Zi (dv 0) Zd)) (ZE _)))),λds S Q ex h=>by
  replace h:=ePP h;obtain⟨_,_,_,_,rfl,h⟩:=h;obtain⟨⟨h1,h2⟩,h⟩:=h;exact⟨h1,h2,h⟩⟩)
def Ek  (Q8:Df K mg q25 MY Uc):Fk P w K mg base 1 q25 Uc Qq:=
 Q8.mk' (ZD (k:=0) Q8.F DA (λ_ _ _ _=>nI λ_=>nI λ_=>nN:Ln (Qq) 2) λ_ _ _ _ _ _ hr=>⟨_,(Zh (Zt (WK WA (Zf Y2 (WK WA (dv 0)) (dv 1))))),λds S Q ex h=>by
  replace h:=eII h;obtain⟨_,_,rfl,h⟩:=h;exact h⟩)
def AO  (Pb:Df K mg q74 Of Rj)(WY:Fk P w K mg base 1 q25 Uc Qq)(IY:Fk P w K mg base 1 "less" Rz Ie):Fk P w K mg base 2 q74 Rj Je:=
 Pb.mk' (ZD (k:=1) Pb.F Bo (λ_ _ _ _=>nP λ_ _=>nP λ_ _=>nI λ_=>nN:Ln (Je) 3) λ_ _ _ _ _ _ hr=>⟨_,(Zg (ZN (Xq (Zk IY hr (Za (dv 1) (Za (dv 0) Ze)))) (Zh BD) ZO) (Zh (Zt (ZR (Za (Zf Y2 (Zf ZV (Zi (dv 0) Zd) (dv 2)) (Zi (dv 0) Zd)) (Za (Zk WY hr (Za (Zf ZV (Zi (dv 1) Zd) (dv 2)) (Za (Zi (dv 1) Zd) Ze))) Ze)))))),λds S Q ex h=>by
  replace h:=ePPI h;obtain⟨_,_,_,_,_,rfl,h⟩:=h;obtain⟨⟨⟨m1,m2⟩,nl,m3,m4,f1,f2⟩,h⟩:=h;refine⟨⟨m1,m2⟩,ifF (decide_eq_false nl) ?_⟩;exact⟨m3,f1,m4,f2,h⟩⟩)
def zbu  (Zs:Xj K mg)(Zv:Xb K mg)(Zm:Y7 K mg)(Zn:Y4 K mg)(Zl:YZ K mg)(Zp:Xi K mg)(Oq:Dm K Zs.C q6 V8 NR RN)(Kq:Fk P w K mg base 2 q74 Rj Je):Fm P w K mg base 3 Zs.C q6 RN (Pr Zs.C Zv.C Zm.C Zn.C Zl.C Zp.C):=
 Oq.mk' (ZD (k:=2) Oq.F HV (λ_ _ _ _=>nR λ_=>nR λ_=>nR λ_=>nI λ_=>nN:Ln (Pr Zs.C Zv.C Zm.C Zn.C Zl.C Zp.C) 4) λ_ _ _ _ _ _ hr=>⟨_,(Zg (Zw (i:=4) HV.nd (ZR (Za (Yk Zs.cl Zs.n_top (dv 0)) (Za (Yk Zs.cl Zs.n_bottom (dv 0)) Ze)))) (Zh (Zt (Zk Kq hr (Za (dv 4) (Za (dv 4) (Za (dv 3) Ze))))))),λds S Q ex h=>by
  replace h:=Uw h;obtain⟨n,w,p,g,rfl,h⟩:=h;obtain⟨x,y,vs,bs,hn,hw,hp,ok,s1,hg,h⟩:=h;have sg:Sz 21 g:=Sz.of 1000000 (by lia)
  have sx:Sz 31 x:=Sz.of (10^9) ok.2.2
  have sy:Sz 31 y:=Sz.of (10^9) (by have:=ok.1;lia);refine Yn (n:=n) (λK hK=>by exact hK) hn rfl ?_;refine Yn (n:=n) (λK hK=>by exact hK) hn rfl ?_;exact⟨⟨⟨ZU sx sy,ZU sx sy⟩,by lia,ZU sx sg,ZU sx sg,sy.fd (by have:=ok.1;lia),sy.fd (by have:=ok.1;lia)⟩,h⟩⟩)
def zaD  (Zv:Xb K mg)(Zs:Xj K mg)(Zm:Y7 K mg)(Zn:Y4 K mg)(Zl:YZ K mg)(Zp:Xi K mg)(NO:Dm K Zv.C q6 VV Mi RL):Fm P w K mg base 1 Zv.C q6 RL (Mv Zs.C Zv.C Zm.C Zn.C Zl.C Zp.C):=
 NO.mk' (ZD (k:=0) NO.F CW (λ_ _ _ _=>nR λ_=>nR λ_=>nR λ_=>nI λ_=>nN:Ln (Mv Zs.C Zv.C Zm.C Zn.C Zl.C Zp.C) 4) λ_ _ _ _ _ _ hr=>⟨_,(Zh (Zt (Zz (dv 2) (Yk Zv.cl Zv.n_place (dv 0))))),λds S Q ex h=>by
  replace h:=Uw h;obtain⟨n,w,p,g,rfl,h⟩:=h;obtain⟨k,vs,bs,hn,hw,hp,ok,s1,hg,h⟩:=h;refine Yn (n:=n) (λK hK=>by exact hK) hn rfl ?_;exact Zu (o:=.lst (bs.map frD)) hp (Z1 ok) h⟩)
def zcl  (NM:Df K mg q24 Lb WR):Fk P w K mg base 1 q24 WR Um:=
 NM.mk' (ZD (k:=0) NM.F CC (λ_ _ _ _=>nP λ_ _=>nP λ_ _=>nN:Ln (Um) 2) λ_ _ _ _ _ _ hr=>⟨_,(Zh (Zt (ZR (Za (Zf ZQ (Zi (dv 0) Zd) (Zi (dv 1) Zd)) (Za (Zf ZQ (Zi (dv 0) Zd) (Zi (dv 1) Zd)) Ze))))),λds S Q ex h=>by
  replace h:=ePP h;obtain⟨_,_,_,_,rfl,h⟩:=h;exact h⟩)
def Ds  (Zm:Y7 K mg)(Zs:Xj K mg)(Zv:Xb K mg)(Zn:Y4 K mg)(Zl:YZ K mg)(Zp:Xi K mg)(Oy:Dm K Zm.C q6 VS Md Sq)(Xn:Fk P w K mg base 1 q24 WR Um):Fm P w K mg base 2 Zm.C q6 Sq (Oe Zs.C Zv.C Zm.C Zn.C Zl.C Zp.C):=
 Oy.mk' (ZD (k:=1) Oy.F zc7 (λ_ _ _ _=>nR λ_=>nR λ_=>nR λ_=>nI λ_=>nN:Ln (Oe Zs.C Zv.C Zm.C Zn.C Zl.C Zp.C) 4) λ_ _ _ _ _ _ hr=>⟨_,(Zh (Zt (Zk Xn hr (Za (Zz (dv 1) (Yk Zm.cl Zm.n_one (dv 0))) (Za (Zz (dv 1) (Yk Zm.cl Zm.n_other (dv 0))) Ze))))),λds S Q ex h=>by
  replace h:=Uw h;obtain⟨n,w,p,g,rfl,h⟩:=h;obtain⟨i,j,vs,bs,hn,hw,hp,ok,s1,hg,h⟩:=h;refine Yn (n:=n) (λK hK=>by exact hK) hn rfl ?_;refine Zu (o:=.lst (vs.map frD)) hw (Z1 ok.1) ?_;refine Yn (n:=n) (λK hK=>by exact hK) hn rfl ?_;refine Zu (o:=.lst (vs.map frD)) hw (Z1 ok.2) ?_;exact h⟩)
def Cp  (Oz:Df K mg q18 NA Vo):Fk P w K mg base 1 q18 Vo TN:=
 Oz.mk' (ZD (k:=0) Oz.F Bu (λ_ _ _ _=>nP λ_ _=>nP λ_ _=>nN:Ln (TN) 2) λ_ _ _ _ _ _ hr=>⟨_,(Zh (Zt (ZR (Za (Zf Yr (Zi (dv 0) Zd) (Zi (dv 1) Zd)) (Za (Zf Yr (Zi (dv 0) Zd) (Zi (dv 1) Zd)) Ze))))),λds S Q ex h=>by
  replace h:=ePP h;obtain⟨_,_,_,_,rfl,h⟩:=h;exact h⟩)
def E5  (Zn:Y4 K mg)(Zs:Xj K mg)(Zv:Xb K mg)(Zm:Y7 K mg)(Zl:YZ K mg)(Zp:Xi K mg)(Q7:Dm K Zn.C q6 Ue NX SA)(XF:Fk P w K mg base 1 q18 Vo TN):Fm P w K mg base 2 Zn.C q6 SA (Nl Zs.C Zv.C Zm.C Zn.C Zl.C Zp.C):=
 Q7.mk' (ZD (k:=1) Q7.F Bc (λ_ _ _ _=>nR λ_=>nR λ_=>nR λ_=>nI λ_=>nN:Ln (Nl Zs.C Zv.C Zm.C Zn.C Zl.C Zp.C) 4) λ_ _ _ _ _ _ hr=>⟨_,(Zh (Zt (Zk XF hr (Za (Zz (dv 1) (Yk Zn.cl Zn.n_one (dv 0))) (Za (Zz (dv 1) (Yk Zn.cl Zn.n_other (dv 0))) Ze))))),λds S Q ex h=>by
  replace h:=Uw h;obtain⟨n,w,p,g,rfl,h⟩:=h;obtain⟨i,j,vs,bs,hn,hw,hp,ok,s1,hg,h⟩:=h;refine Yn (n:=n) (λK hK=>by exact hK) hn rfl ?_;refine Zu (o:=.lst (vs.map frD)) hw (Z1 ok.1) ?_;refine Yn (n:=n) (λK hK=>by exact hK) hn rfl ?_;refine Zu (o:=.lst (vs.map frD)) hw (Z1 ok.2) ?_;exact h⟩)
def Bg  (Lr:Df K mg q28 NK Vx)(WY:Fk P w K mg base 1 q25 Uc Qq)(Xy:mg "max"=none)(Xf:mg "min"=none):Fk P w K mg base 2 q28 Vx Us:=
 Lr.mk' (Wa (ZD (k:=1) Lr.F Gs (X0 (λ_ _ _ _=>nP λ_ _=>nP λ_ _=>nI λ_=>nN:Ln (Us) 3)) λ_ _ _ _ _ _ hr=>⟨_,(Zg (Zw (i:=3) Gs.nd (Yo (Za (Zf ZV (Zi (dv 0) Zd) (Zi (dv 1) Zd)) (Za (Zf ZV (Zi (dv 0) Zd) (Zi (dv 1) Zd)) (Za (Zf ZV (Zi (dv 0) Zd) (Zi (dv 1) Zd)) (Za (Zf ZV (Zi (dv 0) Zd) (Zi (dv 1) Zd)) Ze)))))) (Zh (Zt (ZR (Za (Zf Y2 (ZM (ZI (QK rfl)) rfl Xf Boot.«min» (Za (dv 3) Ze)) (dv 2)) (Za (Zk WY hr (Za (ZM (ZI (La rfl)) rfl Xy Boot.«max» (Za (dv 3) Ze)) (Za (dv 2) Ze))) Ze)))))),λds S Q ex h=>by
  obtain⟨Q0,ex0,rfl,rfl,h⟩:=h;replace h:=ePPI h;obtain⟨a,b,c,d,g,rfl,h⟩:=h;obtain⟨⟨⟨m1,m2,m3,m4⟩,hg⟩,h⟩:=h;refine⟨m1,m2,m3,m4,?_⟩;apply Vp
  ·exact Zy _ _
  ·rfl
  ·simp
  intro mn n1 n2;refine⟨hg,?_⟩;apply Vp
  ·exact Zy _ _
  ·rfl
  ·simp
  intro mx x1 x2;refine⟨hg,?_⟩;exact⟨Pre.refl.push,Vm,h mn mx (TF.of n1 n2 x1 x2)⟩⟩))
def zbk  (Zl:YZ K mg)(Zs:Xj K mg)(Zv:Xb K mg)(Zm:Y7 K mg)(Zn:Y4 K mg)(Zp:Xi K mg)(MZ:Dm K Zl.C q6 VQ M9 QD)(XH:Fk P w K mg base 2 q28 Vx Us):Fm P w K mg base 3 Zl.C q6 QD (Mg Zs.C Zv.C Zm.C Zn.C Zl.C Zp.C):=
 MZ.mk' (ZD (k:=2) MZ.F CQ (λ_ _ _ _=>nR λ_=>nR λ_=>nR λ_=>nI λ_=>nN:Ln (Mg Zs.C Zv.C Zm.C Zn.C Zl.C Zp.C) 4) λ_ _ _ _ _ _ hr=>⟨_,(Zh (Zt (Zk XH hr (Za (Zz (dv 1) (Yk Zl.cl Zl.n_one (dv 0))) (Za (Zz (dv 1) (Yk Zl.cl Zl.n_other (dv 0))) (Za (dv 3) Ze)))))),λds S Q ex h=>by
  replace h:=Uw h;obtain⟨n,w,p,g,rfl,h⟩:=h;obtain⟨i,j,vs,bs,hn,hw,hp,ok,s1,hg,h⟩:=h;refine Yn (n:=n) (λK hK=>by exact hK) hn rfl ?_;refine Zu (o:=.lst (vs.map frD)) hw (Z1 ok.1) ?_;refine Yn (n:=n) (λK hK=>by exact hK) hn rfl ?_;refine Zu (o:=.lst (vs.map frD)) hw (Z1 ok.2) ?_;have a:=s1.at ok.1
  have b:=s1.at ok.2
  have sg:Sz 21 g:=Sz.of 1000000 (by lia);refine⟨⟨⟨ZU a.2.1 b.2.1,ZU a.2.1 b.2.2,ZU a.2.2 b.2.1,ZU a.2.2 b.2.2⟩,sg.fd (by lia)⟩,λmn mx hc=>?_⟩;obtain⟨rfl,rfl⟩:=hc.eq;exact h⟩)
def C5  (Ls:Df K mg q94 Q4 SY)(ZK:mg q87=none):Fk P w K mg base 1 q94 SY K9:=
 Ls.mk' (ZD (k:=0) Ls.F Lu (λ_ _ _ _=>nI λ_=>nI λ_=>nN:Ln (K9) 2) λ_ _ _ _ _ _ hr=>⟨_,(Zg (Zw (i:=2) Lu.nd Zd) (Zg (Y3 (i:=3) PassesOwn.never rfl Lu.nd rfl (Or.inl rfl) rfl ZK (Za (dv 1) Ze) (Zh (Zw (i:=2) Lu.nd (Zf ZV (dv 2) (dv 0))))) (Zh (Zt (dv 2))))),λds S Q ex h=>by
  replace h:=eII h;obtain⟨x,n,rfl,h⟩:=h;obtain⟨⟨h0,h6,sx⟩,h⟩:=h;refine⟨⟨by lia,by lia⟩,λk dl' S'=>S'=S/\k<=n.toNat/\∃(z:Int)(o:Option D),z=x^k/\dl'=[some (.int x),some (.int n),some (.int z),o],⟨rfl,zO _,1,none,(xT x).symm,rfl⟩,?_⟩;rintro k dl' S' ⟨rfl,hk,z,o,rfl,rfl⟩;refine YD (λc=>?_) (λc=>?_)
  ·exact⟨ZU (m:=12001) (n:=2000) ((sx.pow k).mono (by lia)) sx,rfl,by lia,_,_,(xB x k).symm,rfl⟩
  ·have e:k=n.toNat:=by lia
   subst e;exact h⟩)
def DM  (OR:Df K mg q31 So TB)(WY:Fk P w K mg base 1 q25 Uc Qq)(N0:Fk P w K mg base 1 q94 SY K9)(Xy:mg "max"=none)(Xf:mg "min"=none):Fk P w K mg base 2 q31 TB MK:=
 OR.mk' (Wa (ZD (k:=1) OR.F Nt (X0 (λ_ _ _ _=>nP λ_ _=>nI λ_=>nI λ_=>nN:Ln (MK) 3)) λ_ _ _ _ _ _ hr=>⟨_,(Zg (Zw (i:=3) Nt.nd (Yo (Za (Zi (dv 0) Zd) (Za (Zi (dv 0) Zd) Ze)))) (Zg (ZN (F1 X8 X8 (Zi (dv 0) Zd) Zd (Zi (dv 0) Zd)) (Zh (Yj (YX (dv 3) Zd))) ZO) (Zg (VM (x:="place") (N:=["grid","many"]) (caps:=[2,1]) (ar:=Zo So) rfl rfl csc rfl (by decide) (i:=4) Nt.nd rfl rfl (dv 3) (λ_ _ _ _ _ _=>Yt) (λ_ _ _ _ _ _=>(Zf ZV (Zk N0 hr (Za (dv 0) (Za (dv 2) Ze))) (dv 1)))) (Zg (Zw (i:=5) Nt.nd (Zk N0 hr (Za (dv 2) (Za (dv 1) Ze)))) (Zh (Zt (ZR (Za (Zf Y2 (ZM (ZI (QK rfl)) rfl Xf Boot.«min» (Za (dv 4) Ze)) (dv 5)) (Za (Zk WY hr (Za (ZM (ZI (La rfl)) rfl Xy Boot.«max» (Za (dv 4) Ze)) (Za (dv 5) Ze))) Ze))))))))),λds S Q ex h=>by
  obtain⟨Q0,ex0,rfl,rfl,h⟩:=h;replace h:=ePII h;obtain⟨a,b,n,g,rfl,h⟩:=h;obtain⟨⟨n2,n6,za,zb,hg,zg⟩,h⟩:=h;refine ifD (λc1=>?_) (λc1=>?_)
  ·refine ifD (λc2=>?_) (λc2=>?_)
   ·refine X9 (n:=S.length) (λK hK=>hK) (Zy _ _) (λK hK=>hK) (by simp) ?_;refine XN (n:=S.length) (o:=.lst [.int a,.int b,.int 0]) (λd=>match d with|.int v=>.int (v^n.toNat*g)|_=>.non) (λK hK=>hK) (by simp) (by simp[Zq]) (λx hx S2 K _ hK=>?_) ?_
    ·have hx':x=.int a\/x=.int b\/x=.int 0:=by simpa [Zq] using hx
     rcases hx' with rfl|rfl|rfl
     all_goals exact⟨⟨by lia,n6,by first|exact za.mono (by decide)|exact zb.mono (by decide)|exact Sz.of (n:=2000) 0 (by decide)⟩,ZU (m:=12001) (n:=1400) (((Sz.mono (n:=2000) (by first|exact za|exact zb|exact Sz.of (n:=1400) 0 (by decide)) (by decide)).pow _).mono (by lia)) zg,hK⟩
    refine⟨⟨by lia,n6,zg.mono (by decide)⟩,?_⟩;have gp:(0:Int)<g^n.toNat:=yP (by lia)
    have zgp:Sz 8401 (g^n.toNat):=(zg.pow _).mono (by lia);apply Vp
    ·exact Zy _ _
    ·rfl
    ·simp
    intro mn q1 q2;refine⟨zgp.fd gp,?_⟩;apply Vp
    ·exact Zy _ _
    ·rfl
    ·simp
    intro mx x1 x2;refine⟨zgp.fd gp,?_⟩;obtain⟨m,M,hP,rfl,rfl⟩:=VB.of (n:=n.toNat) hg (.inr ⟨rfl,c1,c2⟩) (by lia) q1 q2 x1 x2;have r:=h m M hP;rw[<- TR hg (by lia),<- TR hg (by lia),yN] at r;exact⟨(λi o e=>Ua (by rw[List.set_append_right _ _ (zD _),zP (zF.mp e).1];exact e)),Vm,r⟩
   ·skip
    refine XN (n:=S.length) (o:=.lst [.int a,.int b]) (λd=>match d with|.int v=>.int (v^n.toNat*g)|_=>.non) (λK hK=>hK) (Zy _ _) (by simp[Zq]) (λx hx S2 K _ hK=>?_) ?_
    ·have hx':x=.int a\/x=.int b:=by simpa [Zq] using hx
     rcases hx' with rfl|rfl
     all_goals exact⟨⟨by lia,n6,by first|exact za.mono (by decide)|exact zb.mono (by decide)|exact Sz.of (n:=2000) 0 (by decide)⟩,ZU (m:=12001) (n:=1400) (((Sz.mono (n:=2000) (by first|exact za|exact zb|exact Sz.of (n:=1400) 0 (by decide)) (by decide)).pow _).mono (by lia)) zg,hK⟩
    refine⟨⟨by lia,n6,zg.mono (by decide)⟩,?_⟩;have gp:(0:Int)<g^n.toNat:=yP (by lia)
    have zgp:Sz 8401 (g^n.toNat):=(zg.pow _).mono (by lia);apply Vp
    ·exact Zy _ _
    ·rfl
    ·simp
    intro mn q1 q2;refine⟨zgp.fd gp,?_⟩;apply Vp
    ·exact Zy _ _
    ·rfl
    ·simp
    intro mx x1 x2;refine⟨zgp.fd gp,?_⟩;obtain⟨m,M,hP,rfl,rfl⟩:=VB.of (n:=n.toNat) hg (.inl ⟨rfl,λc=>c2 c.2⟩) (by lia) q1 q2 x1 x2;have r:=h m M hP;rw[<- TR hg (by lia),<- TR hg (by lia),yN] at r;exact⟨Pre.refl.push.push,Vm,r⟩
  ·skip
   refine XN (n:=S.length) (o:=.lst [.int a,.int b]) (λd=>match d with|.int v=>.int (v^n.toNat*g)|_=>.non) (λK hK=>hK) (Zy _ _) (by simp[Zq]) (λx hx S2 K _ hK=>?_) ?_
   ·have hx':x=.int a\/x=.int b:=by simpa [Zq] using hx
    rcases hx' with rfl|rfl
    all_goals exact⟨⟨by lia,n6,by first|exact za.mono (by decide)|exact zb.mono (by decide)|exact Sz.of (n:=2000) 0 (by decide)⟩,ZU (m:=12001) (n:=1400) (((Sz.mono (n:=2000) (by first|exact za|exact zb|exact Sz.of (n:=1400) 0 (by decide)) (by decide)).pow _).mono (by lia)) zg,hK⟩
   refine⟨⟨by lia,n6,zg.mono (by decide)⟩,?_⟩;have gp:(0:Int)<g^n.toNat:=yP (by lia)
   have zgp:Sz 8401 (g^n.toNat):=(zg.pow _).mono (by lia);apply Vp
   ·exact Zy _ _
   ·rfl
   ·simp
   intro mn q1 q2;refine⟨zgp.fd gp,?_⟩;apply Vp
   ·exact Zy _ _
   ·rfl
   ·simp
   intro mx x1 x2;refine⟨zgp.fd gp,?_⟩;obtain⟨m,M,hP,rfl,rfl⟩:=VB.of (n:=n.toNat) hg (.inl ⟨rfl,λc=>c1 c.1⟩) (by lia) q1 q2 x1 x2;have r:=h m M hP;rw[<- TR hg (by lia),<- TR hg (by lia),yN] at r;exact⟨Pre.refl.push.push,Vm,r⟩⟩))
def DN  (Zp:Xi K mg)(Zs:Xj K mg)(Zv:Xb K mg)(Zm:Y7 K mg)(Zn:Y4 K mg)(Zl:YZ K mg)(LJ:Dm K Zp.C q6 VY Pe Qe)(Ut:Fk P w K mg base 2 q31 TB MK):Fm P w K mg base 3 Zp.C q6 Qe (Mn Zs.C Zv.C Zm.C Zn.C Zl.C Zp.C):=
 LJ.mk' (ZD (k:=2) LJ.F zce (λ_ _ _ _=>nR λ_=>nR λ_=>nR λ_=>nI λ_=>nN:Ln (Mn Zs.C Zv.C Zm.C Zn.C Zl.C Zp.C) 4) λ_ _ _ _ _ _ hr=>⟨_,(Zh (Zt (Zk Ut hr (Za (Zz (dv 1) (Yk Zp.cl Zp.n_one (dv 0))) (Za (Yk Zp.cl Zp.n_many (dv 0)) (Za (dv 3) Ze)))))),λds S Q ex h=>by
  replace h:=Uw h;obtain⟨n,w,p,g,rfl,h⟩:=h;obtain⟨i,m,vs,bs,hn,hw,hp,ok,s1,hg,h⟩:=h;refine Yn (n:=n) (λK hK=>by exact hK) hn rfl ?_;refine Zu (o:=.lst (vs.map frD)) hw (Z1 ok.1) ?_;refine Yn (n:=n) (λK hK=>by exact hK) hn rfl ?_;have a:=s1.at ok.1
  have sg:Sz 21 g:=Sz.of 1000000 (by lia);refine⟨⟨by have:=ok.2.1;lia,ok.2.2,a.2.1,a.2.2,hg.1,sg.mono (by decide)⟩,λm' M' hP=>?_⟩;obtain⟨rfl,rfl⟩:=hP.eq (by have:=ok.2.1;lia);exact h⟩)
def zcc  (Zs:Xj K mg)(Ox:Dm K Zs.C q3 VF Q5 Si):Fm P w K mg base 1 Zs.C q3 Si (JQ Zs.C):=
 Ox.mk' (ZD (k:=0) Ox.F BJ (λ_ _ _ _=>nR λ_=>nD λ_=>nD λ_=>nN:Ln (JQ Zs.C) 3) λ_ _ _ _ _ _ hr=>⟨_,(Zg (Wn Zs.cl Zs.n_top (dv 0) (dv 1)) (Zh (Wn Zs.cl Zs.n_bottom (dv 0) (dv 2)))),λds S Q ex h=>by
  replace h:=TX h;obtain⟨n,x,y,rfl,h⟩:=h;obtain⟨T,rfl,rfl,h⟩:=h;refine Wj (v:=x) (S1:=T++[Ob.ins Zs.C []]) (S2:=T++[Ob.ins Zs.C []]) (n:=T.length) (fs:=[]) (λK hK=>by exact hK) (λK hK=>by exact hK) (Wd ..) (by simp) ?_;rw[We];refine Wj (v:=y) (S1:=T++[Ob.ins Zs.C [("top",x)]]) (S2:=T++[Ob.ins Zs.C [("top",x)]]) (n:=T.length) (fs:=[("top",x)]) (λK hK=>by exact hK) (λK hK=>by exact hK) (Wd ..) (by simp) ?_;rw[We];exact h⟩)
def zbW  (Zv:Xb K mg)(Mc:Dm K Zv.C q3 Uj Mo SE):Fm P w K mg base 1 Zv.C q3 SE (I0 Zv.C):=
 Mc.mk' (ZD (k:=0) Mc.F zcb (λ_ _ _ _=>nR λ_=>nD λ_=>nN:Ln (I0 Zv.C) 2) λ_ _ _ _ _ _ hr=>⟨_,(Zh (Wn Zv.cl Zv.n_place (dv 0) (dv 1))),λds S Q ex h=>by
  replace h:=eRD h;obtain⟨n,x,rfl,h⟩:=h;obtain⟨T,rfl,rfl,h⟩:=h;refine Wj (v:=x) (S1:=T++[Ob.ins Zv.C []]) (S2:=T++[Ob.ins Zv.C []]) (n:=T.length) (fs:=[]) (λK hK=>by exact hK) (λK hK=>by exact hK) (Wd ..) (by simp) ?_;rw[We];exact h⟩)
def zc6  (Zm:Y7 K mg)(LO:Dm K Zm.C q3 q19 LM SH):Fm P w K mg base 1 Zm.C q3 SH (Kj Zm.C):=
 LO.mk' (ZD (k:=0) LO.F EV (λ_ _ _ _=>nR λ_=>nD λ_=>nD λ_=>nN:Ln (Kj Zm.C) 3) λ_ _ _ _ _ _ hr=>⟨_,(Zg (Wn Zm.cl Zm.n_one (dv 0) (dv 1)) (Zh (Wn Zm.cl Zm.n_other (dv 0) (dv 2)))),λds S Q ex h=>by
  replace h:=TX h;obtain⟨n,x,y,rfl,h⟩:=h;obtain⟨T,rfl,rfl,h⟩:=h;refine Wj (v:=x) (S1:=T++[Ob.ins Zm.C []]) (S2:=T++[Ob.ins Zm.C []]) (n:=T.length) (fs:=[]) (λK hK=>by exact hK) (λK hK=>by exact hK) (Wd ..) (by simp) ?_;rw[We];refine Wj (v:=y) (S1:=T++[Ob.ins Zm.C [("one",x)]]) (S2:=T++[Ob.ins Zm.C [("one",x)]]) (n:=T.length) (fs:=[("one",x)]) (λK hK=>by exact hK) (λK hK=>by exact hK) (Wd ..) (by simp) ?_;rw[We];exact h⟩)
def BP  (Zn:Y4 K mg)(NU:Dm K Zn.C q3 q19 OW R1):Fm P w K mg base 1 Zn.C q3 R1 (IM Zn.C):=
 NU.mk' (ZD (k:=0) NU.F Ef (λ_ _ _ _=>nR λ_=>nD λ_=>nD λ_=>nN:Ln (IM Zn.C) 3) λ_ _ _ _ _ _ hr=>⟨_,(Zg (Wn Zn.cl Zn.n_one (dv 0) (dv 1)) (Zh (Wn Zn.cl Zn.n_other (dv 0) (dv 2)))),λds S Q ex h=>by
  replace h:=TX h;obtain⟨n,x,y,rfl,h⟩:=h;obtain⟨T,rfl,rfl,h⟩:=h;refine Wj (v:=x) (S1:=T++[Ob.ins Zn.C []]) (S2:=T++[Ob.ins Zn.C []]) (n:=T.length) (fs:=[]) (λK hK=>by exact hK) (λK hK=>by exact hK) (Wd ..) (by simp) ?_;rw[We];refine Wj (v:=y) (S1:=T++[Ob.ins Zn.C [("one",x)]]) (S2:=T++[Ob.ins Zn.C [("one",x)]]) (n:=T.length) (fs:=[("one",x)]) (λK hK=>by exact hK) (λK hK=>by exact hK) (Wd ..) (by simp) ?_;rw[We];exact h⟩)
def E1  (Zl:YZ K mg)(PJ:Dm K Zl.C q3 q19 MB RF):Fm P w K mg base 1 Zl.C q3 RF (Iy Zl.C):=
 PJ.mk' (ZD (k:=0) PJ.F zbc (λ_ _ _ _=>nR λ_=>nD λ_=>nD λ_=>nN:Ln (Iy Zl.C) 3) λ_ _ _ _ _ _ hr=>⟨_,(Zg (Wn Zl.cl Zl.n_one (dv 0) (dv 1)) (Zh (Wn Zl.cl Zl.n_other (dv 0) (dv 2)))),λds S Q ex h=>by
  replace h:=TX h;obtain⟨n,x,y,rfl,h⟩:=h;obtain⟨T,rfl,rfl,h⟩:=h;refine Wj (v:=x) (S1:=T++[Ob.ins Zl.C []]) (S2:=T++[Ob.ins Zl.C []]) (n:=T.length) (fs:=[]) (λK hK=>by exact hK) (λK hK=>by exact hK) (Wd ..) (by simp) ?_;rw[We];refine Wj (v:=y) (S1:=T++[Ob.ins Zl.C [("one",x)]]) (S2:=T++[Ob.ins Zl.C [("one",x)]]) (n:=T.length) (fs:=[("one",x)]) (λK hK=>by exact hK) (λK hK=>by exact hK) (Wd ..) (by simp) ?_;rw[We];exact h⟩)
def zaj  (Zp:Xi K mg)(Ml:Dm K Zp.C q3 V0 NT Ry):Fm P w K mg base 1 Zp.C q3 Ry (KQ Zp.C):=
 Ml.mk' (ZD (k:=0) Ml.F zbO (λ_ _ _ _=>nR λ_=>nD λ_=>nD λ_=>nN:Ln (KQ Zp.C) 3) λ_ _ _ _ _ _ hr=>⟨_,(Zg (Wn Zp.cl Zp.n_one (dv 0) (dv 1)) (Zh (Wn Zp.cl Zp.n_many (dv 0) (dv 2)))),λds S Q ex h=>by
  replace h:=TX h;obtain⟨n,x,y,rfl,h⟩:=h;obtain⟨T,rfl,rfl,h⟩:=h;refine Wj (v:=x) (S1:=T++[Ob.ins Zp.C []]) (S2:=T++[Ob.ins Zp.C []]) (n:=T.length) (fs:=[]) (λK hK=>by exact hK) (λK hK=>by exact hK) (Wd ..) (by simp) ?_;rw[We];refine Wj (v:=y) (S1:=T++[Ob.ins Zp.C [("one",x)]]) (S2:=T++[Ob.ins Zp.C [("one",x)]]) (n:=T.length) (fs:=[("one",x)]) (λK hK=>by exact hK) (λK hK=>by exact hK) (Wd ..) (by simp) ?_;rw[We];exact h⟩)
def Dp  (Zp:Xi K mg)(Zl:YZ K mg)(Zn:Y4 K mg)(Zm:Y7 K mg)(Zv:Xb K mg)(Zs:Xj K mg)(NH:Df K mg q98 OD TM)(UP:Fm P w K mg base 1 Zp.C q3 Ry (KQ Zp.C))(Uv:Fm P w K mg base 1 Zl.C q3 RF (Iy Zl.C))(Tf:Fm P w K mg base 1 Zn.C q3 R1 (IM Zn.C))(UH:Fm P w K mg base 1 Zm.C q3 SH (Kj Zm.C))(Tb:Fm P w K mg base 1 Zv.C q3 SE (I0 Zv.C))(Tc:Fm P w K mg base 1 Zs.C q3 Si (JQ Zs.C)):Fk P w K mg base 3 q98 TM (MJ Zs.C Zv.C Zm.C Zn.C Zl.C Zp.C):=
 NH.mk' (ZD (k:=2) NH.F zaL (λ_ _ _ _=>nD λ_=>nN:Ln (MJ Zs.C Zv.C Zm.C Zn.C Zl.C Zp.C) 1) λ_ _ _ _ _ _ hr=>⟨_,(Zg (ZN (ZL (ZT hr) (Zi (dv 0) Zd) Z3 (ZE _)) (Zh (Zt (Tz ⟨Zs.makes,Tc.m.at_,Tc.m.fn,Zs.kp⟩ Tc.ok (hr.mono (by decide)) rfl Zs.m Tc.b U9 (Za (Zi (dv 0) Zd) (Za (Zi (dv 0) Zd) Ze))))) ZO) (Zg (ZN (ZL (ZT hr) (Zi (dv 0) Zd) Z3 (ZE _)) (Zh (Zt (Tz ⟨Zv.makes,Tb.m.at_,Tb.m.fn,Zv.kp⟩ Tb.ok (hr.mono (by decide)) rfl Zv.m Tb.b U9 (Za (Zi (dv 0) Zd) Ze)))) ZO) (Zg (ZN (ZL (ZT hr) (Zi (dv 0) Zd) Z3 (ZE _)) (Zh (Zt (Tz ⟨Zm.makes,UH.m.at_,UH.m.fn,Zm.kp⟩ UH.ok (hr.mono (by decide)) rfl Zm.m UH.b U9 (Za (Zi (dv 0) Zd) (Za (Zi (dv 0) Zd) Ze))))) ZO) (Zg (ZN (ZL (ZT hr) (Zi (dv 0) Zd) Z3 (ZE _)) (Zh (Zt (Tz ⟨Zn.makes,Tf.m.at_,Tf.m.fn,Zn.kp⟩ Tf.ok (hr.mono (by decide)) rfl Zn.m Tf.b U9 (Za (Zi (dv 0) Zd) (Za (Zi (dv 0) Zd) Ze))))) ZO) (Zg (ZN (ZL (ZT hr) (Zi (dv 0) Zd) Z3 (ZE _)) (Zh (Zt (Tz ⟨Zl.makes,Uv.m.at_,Uv.m.fn,Zl.kp⟩ Uv.ok (hr.mono (by decide)) rfl Zl.m Uv.b U9 (Za (Zi (dv 0) Zd) (Za (Zi (dv 0) Zd) Ze))))) ZO) (Zh (Zt (Tz ⟨Zp.makes,UP.m.at_,UP.m.fn,Zp.kp⟩ UP.ok (hr.mono (by decide)) rfl Zp.m UP.b U9 (Za (Zi (dv 0) Zd) (Za (Zi (dv 0) Zd) Ze)))))))))),λds S Q ex h=>by
  replace h:=eD h;obtain⟨_,rfl,h⟩:=h;obtain⟨v,rfl,h⟩:=h;cases v<;>exact⟨S,rfl,rfl,rfl,h⟩⟩)
def AB  (Zp:Xi K mg)(Zl:YZ K mg)(Zn:Y4 K mg)(Zm:Y7 K mg)(Zv:Xb K mg)(Zs:Xj K mg)(Li:Df K mg q50 SN SV)(Ve:Fk P w K mg base 2 q45 Ub SJ)(IA:Fm P w K mg base 3 Zp.C q6 Qe (Mn Zs.C Zv.C Zm.C Zn.C Zl.C Zp.C))(IJ:Fm P w K mg base 3 Zl.C q6 QD (Mg Zs.C Zv.C Zm.C Zn.C Zl.C Zp.C))(Ia:Fm P w K mg base 2 Zn.C q6 SA (Nl Zs.C Zv.C Zm.C Zn.C Zl.C Zp.C))(K8:Fm P w K mg base 2 Zm.C q6 Sq (Oe Zs.C Zv.C Zm.C Zn.C Zl.C Zp.C))(Hf:Fm P w K mg base 1 Zv.C q6 RL (Mv Zs.C Zv.C Zm.C Zn.C Zl.C Zp.C))(JU:Fm P w K mg base 3 Zs.C q6 RN (Pr Zs.C Zv.C Zm.C Zn.C Zl.C Zp.C))(Ts:Fk P w K mg base 3 q98 TM (MJ Zs.C Zv.C Zm.C Zn.C Zl.C Zp.C))(ZK:mg q87=none)(ZA:mg "len"=none):Fk P w K mg base 4 q50 SV Jd:=
 Li.mk' (Wa (ZD (k:=3) Li.F BC (X0 (λ_ _ _ _=>nR λ_=>nR λ_=>nI λ_=>nR λ_=>nN:Ln (Jd) 4)) λ_ _ _ _ _ _ hr=>⟨_,(Zg (ZN (ZL Qa (ZM (ZI ZW) rfl ZA Boot.«len» (Za (dv 3) Ze)) (ZM (ZI ZW) rfl ZA Boot.«len» (Za (dv 0) Ze)) (ZE _)) (Zh (Zt Y8)) ZO) (Zh (Zt (Zk Ve hr (Za (VZ (x:="number") (N:=["spans","box","grid","nodes"]) (caps:=[3,1,2,0]) (ar:=Zo SN) rfl rfl csc rfl (by decide) rfl ZK (Za (ZM (ZI ZW) rfl ZA Boot.«len» (Za (dv 3) Ze)) Ze) (λ_ _ _ _ _ _=>Yt) (λ_ _ _ _ _ _=>(HR (Zk Ts hr (Za (Zz (dv 4) (dv 0)) Ze)) (XY Zs.cl JU (hr.mono (by decide)) (XY Zv.cl Hf (hr.mono (by decide)) (XY Zm.cl K8 (hr.mono (by decide)) (XY Zn.cl Ia (hr.mono (by decide)) (XY Zl.cl IJ (hr.mono (by decide)) (XY Zp.cl IA (hr.mono (by decide)) Gj)))))) Tw (Za (dv 1) (Za (dv 2) (Za (dv 3) Ze)))))) (Za (dv 3) Ze)))))),λds S Q ex h=>by
  obtain⟨Q0,ex0,rfl,rfl,h⟩:=h;replace h:=Fn h;obtain⟨a,b,g,c,rfl,h⟩:=h;obtain⟨ns,ws,bs,vs,ha,hb,hc,net,hl,h9,sp,hg,h⟩:=h;have disp:∀v:Nd,∃C fs sd,v.ob Zs.C Zv.C Zm.C Zn.C Zl.C Zp.C=.ins C fs/\(C,sd)∈[(Zs.C,Pr Zs.C Zv.C Zm.C Zn.C Zl.C Zp.C),(Zv.C,Mv Zs.C Zv.C Zm.C Zn.C Zl.C Zp.C),(Zm.C,Oe Zs.C Zv.C Zm.C Zn.C Zl.C Zp.C),(Zn.C,Nl Zs.C Zv.C Zm.C Zn.C Zl.C Zp.C),(Zl.C,Mg Zs.C Zv.C Zm.C Zn.C Zl.C Zp.C),(Zp.C,Mn Zs.C Zv.C Zm.C Zn.C Zl.C Zp.C)]/\fs.lookup ("forth":Str)=none/\∀(n w p:Nat)(g:Int)(S:Sto)(Q:DK)(ex:Addr->Sto->Prop)(vs bs:LI),S[n]?=some (v.ob Zs.C Zv.C Zm.C Zn.C Zl.C Zp.C)->S[w]?=some (.lst (vs.map frD))->S[p]?=some (.lst (bs.map frD))->v.ok vs.length bs.length->Spn 1400 vs->(1<=g/\g<=1000000)->Q (frD (v.fw vs bs g)) S->sd [.ref n,.ref w,.ref p,.int g] S Q ex:=by
   intro v;cases v with
   | number x y=>exact⟨_,_,_,rfl,(.head _),rfl,λn w p g S Q ex vs bs a1 a2 a3 a4 a5 a6 q=>⟨x,y,vs,bs,a1,a2,a3,a4,a5,a6,q⟩⟩
   | unknown k=>exact⟨_,_,_,rfl,(.tail _ (.head _)),rfl,λn w p g S Q ex vs bs a1 a2 a3 a4 a5 a6 q=>⟨k,vs,bs,a1,a2,a3,a4,a5,a6,q⟩⟩
   | plus i j=>exact⟨_,_,_,rfl,(.tail _ (.tail _ (.head _))),rfl,λn w p g S Q ex vs bs a1 a2 a3 a4 a5 a6 q=>⟨i,j,vs,bs,a1,a2,a3,a4,a5,a6,q⟩⟩
   | minus i j=>exact⟨_,_,_,rfl,(.tail _ (.tail _ (.tail _ (.head _)))),rfl,λn w p g S Q ex vs bs a1 a2 a3 a4 a5 a6 q=>⟨i,j,vs,bs,a1,a2,a3,a4,a5,a6,q⟩⟩
   | times i j=>exact⟨_,_,_,rfl,(.tail _ (.tail _ (.tail _ (.tail _ (.head _))))),rfl,λn w p g S Q ex vs bs a1 a2 a3 a4 a5 a6 q=>⟨i,j,vs,bs,a1,a2,a3,a4,a5,a6,q⟩⟩
   | power i m=>exact⟨_,_,_,rfl,(.tail _ (.tail _ (.tail _ (.tail _ (.tail _ (.head _)))))),rfl,λn w p g S Q ex vs bs a1 a2 a3 a4 a5 a6 q=>⟨i,m,vs,bs,a1,a2,a3,a4,a5,a6,q⟩⟩
  refine ZZ hc ?_;refine ZZ ha ?_;rw[zA,zA];refine ifD (λe=>absurd e (by lia)) (λ_=>?_);refine Gy (S1:=S) (j:=((vs.length:Nat):Int)) (λk ys S2=>Pre S S2/\S2[S.length]?=some (.lst ys)/\ys.length=k/\ys=((ns.take k).map λv=>v.fw vs bs g).map frD) (λK hK=>by
   refine ZZ hc ?_;rw[zA];exact hK) ⟨by lia,by lia⟩ (λk ys S2 w=>⟨w.2.1,w.2.2.1⟩) ⟨Pre.refl.push,Zy _ _,rfl,by simp⟩ (λk ys S2 K hk w hK=>?_) (λys S2 w=>?_)
  ·obtain⟨w1,w2,w3,w4⟩:=w;have hk':k<ns.length:=by lia
   have hv:=zC hk';generalize ns[k]=v at hv;obtain⟨C,fs,sd,eo,hm,hf2,go⟩:=disp v;have N1:=Zy S2 (v.ob Zs.C Zv.C Zm.C Zn.C Zl.C Zp.C)
   have okv:v.ok vs.length bs.length:=FK (by lia) (net.ok k v hv).1;refine FN (n:=S2.length) (C:=C) (sd:=sd) (fs:=fs) (S1:=S2++[v.ob Zs.C Zv.C Zm.C Zn.C Zl.C Zp.C]) (λK hK=>by
    refine Zu (o:=.lst (ns.map Nd.d)) (w1 _ _ ha) (JL hv) ?_;exact⟨v,rfl,hK⟩) (by rw[<- eo];exact N1) hm hf2 ?_
   refine go _ _ _ _ _ _ _ vs bs N1 (Zj (w1 _ _ hc)) (Zj (w1 _ _ hb)) okv sp hg ?_;have lt:=Z4 w2;refine hK _ _ (Zj w2) ⟨Rm (LS w1 _) (zD _),Yu (Zj w2),by simp[w3],?_⟩;rw[w4,W0 hv,yC,yC];rfl
  ·obtain⟨w1,w2,w3,w4⟩:=w;rw[zH] at w3 w4;subst w4;refine⟨(ns.take vs.length).map λv=>v.fw vs bs g,vs,w2,w1 _ _ hc,by rw[zA,yB];lia,?_⟩;exact⟨w1,.bl _,h⟩⟩))
def Ct  (OE:Df K mg q35 LG T7)(Ha:Fk P w K mg base 4 q50 SV Jd)(ZA:mg "len"=none):Fk P w K mg base 5 q35 T7 Jm:=
 OE.mk' (ZD (k:=4) OE.F zbR (λ_ _ _ _=>nR λ_=>nR λ_=>nI λ_=>nR λ_=>nN:Ln (Jm) 4) λ_ _ _ _ _ _ hr=>⟨_,(Zh (Zt (W3 (YK (ZT hr) (ZM (ZI ZW) rfl ZA Boot.«len» (Za (dv 3) Ze)) (ZM (ZI ZW) rfl ZA Boot.«len» (Za (dv 0) Ze)) (ZE _)) (WX (Zk Ha hr (Za (dv 0) (Za (dv 1) (Za (dv 2) (Za (dv 3) Ze))))))))),λds S Q ex h=>by
  replace h:=Fn h;obtain⟨nd,bx,g,m,rfl,h⟩:=h;obtain⟨ns,ws,bs,vs,h1,h2,h3,net,l9,sp,hg,hl,h⟩:=h;refine ZZ h3 ?_;refine ZZ h1 ?_;rw[zA,zA,hl];refine GF ?_;refine Xm ?_;rw[hl] at h;exact⟨ns,ws,bs,vs,h1,h2,h3,net,by lia,l9,sp,hg,by rw[hl];exact h⟩⟩)
def CS  (M4:Df K mg "sure" MN Qf):Fk P w K mg base 1 "sure" Qf LZ:=
 M4.mk' (ZD (k:=0) M4.F BE (λ_ _ _ _=>nS λ_=>nP λ_ _=>nN:Ln (LZ) 2) λ_ _ _ _ _ _ hr=>⟨_,(Zg (ZN (ZL (ZT hr) (dv 0) Z3 (ZE _)) (Zh (Zt (W3 (YK (ZT hr) (Zi (dv 1) Zd) Zd (ZE _)) (WX (YK (ZT hr) (Zi (dv 1) Zd) Zd (ZE _)))))) ZO) (Zh (Zt (YK do_ge (Zi (dv 1) Zd) Zd (ZE _))))),λds S Q ex h=>by
  replace h:=eSP h;obtain⟨_,_,_,rfl,h⟩:=h;rcases h with ⟨rfl,h⟩|⟨rfl,h⟩
  ·refine ifD (λc=>?_) (λc=>?_)
   ·rw[decide_eq_true c,Bool.true_and] at h;exact h
   ·rw[decide_eq_false c,xM] at h;exact h
  ·exact h⟩)
def zcJ  (LH:Df K mg q22 RM Ss)(IF:Fk P w K mg base 1 "sure" Qf LZ)(YM:mg "all"=none):Fk P w K mg base 2 q22 Ss KH:=
 LH.mk' (Wa (ZD (k:=1) LH.F zaE (X0 (λ_ _ _ _=>nR λ_=>nR λ_=>nN:Ln (KH) 2)) λ_ _ _ _ _ _ hr=>⟨_,(Zh (Zt (ZM (ZI (UX rfl)) rfl YM Boot.«all» (Za (Wh (x:="row") (N:=["spans"]) (caps:=[1]) (ar:=Zo RM) rfl rfl csc rfl (by decide) (dv 0) (λ_ _ _ _ _ _=>Hs (ZL (ZT hr) (Zi (dv 0) Zd) Z3 (ZE _))) (λ_ _ _ _ _ _=>(Zk IF hr (Za (Zi (dv 0) Zd) (Za (Zz (dv 1) (Zi (dv 0) Zd)) Ze))))) Ze)))),λds S Q ex h=>by
  obtain⟨Q0,ex0,rfl,rfl,h⟩:=h;replace h:=eRR h;obtain⟨r,s,rfl,h⟩:=h;obtain⟨rows,vs,hr,hs,l9,hi,h⟩:=h;refine Ks (n:=r) (S1:=S) (o:=.lst (rows.map rwD)) (λd=>match d with|.tup [.str w,.int at']=>if w="least" then some (.bl (decide (0<=(gt vs at').1))) else none|_=>none) (λK hK=>by exact hK) hr (by show (rows.map rwD).length<=1000;rw[zA];lia) (λx hx S2 K pr hK=>?_) (λx hx y hy S2 K pr hK=>?_) ?_
  ·have hx':x∈rows.map rwD:=hx;obtain⟨⟨b,n⟩,_,rfl⟩:=zJ.mp hx';cases b
   ·exact hK
   ·exact hK
  ·have hx':x∈rows.map rwD:=hx;obtain⟨⟨b,n⟩,hm,rfl⟩:=zJ.mp hx';cases b
   ·cases hy;refine Zu (o:=.lst (vs.map frD)) (pr _ _ hs) (Z1 (vs:=vs) (i:=(n:Int)) ⟨by lia,by have:=hi _ hm;dsimp only at this;lia⟩) ?_;exact .inr ⟨rfl,hK⟩
   ·exact absurd hy (by
     simp[rwD];intro z;exact absurd z (by decide))
  ·refine V4 (n:=S.length) (o:=.lst _) (Zy _ _) (JD vs rows) ?_;rw[<- IV vs rows] at h;exact⟨Pre.refl.push,.bl _,h⟩⟩))
def zdf  (MC:Df K mg q96 LD Rr):Fk P w K mg base 1 q96 Rr JB:=
 MC.mk' (ZD (k:=0) MC.F zc2 (λ_ _ _ _=>nP λ_ _=>nN:Ln (JB) 1) λ_ _ _ _ _ _ hr=>⟨_,(Zh (Zt (Zf Z9 (Zf ZQ (Zi (dv 0) Zd) (Zi (dv 0) Zd)) Zd))),λds S Q ex h=>by
  replace h:=eP h;obtain⟨_,_,rfl,h⟩:=h;exact h⟩)
def zba  (Ly:Df K mg XC RR SM)(KN:Fk P w K mg base 1 q96 Rr JB):Fk P w K mg base 2 XC SM JN:=
 Ly.mk' (ZD (k:=1) Ly.F zbh (λ_ _ _ _=>nR λ_=>nN:Ln (JN) 1) λ_ _ _ _ _ _ hr=>⟨_,(Zh (Zt (Wh (x:="span") (N:=[]) (caps:=[]) (ar:=Zo RR) rfl rfl csc rfl (by decide) (dv 0) (λ_ _ _ _ _ _=>Yt) (λ_ _ _ _ _ _=>(Zk KN hr (Za (dv 0) Ze)))))),λds S Q ex h=>by
  replace h:=eR h;obtain⟨s,rfl,h⟩:=h;obtain⟨vs,hs,l9,h⟩:=h;refine XN (n:=s) (S1:=S) (o:=.lst (vs.map frD)) (λd=>match d with|.tup [.int a,.int b]=>.int ((a+b)/2)|_=>.non) (λK hK=>by exact hK) hs (by show (vs.map frD).length<=1000;rw[zA];lia) (λx hx S2 K pr hK=>?_) ?_
  ·have hx':x∈vs.map frD:=hx;obtain⟨p,_,rfl⟩:=zJ.mp hx';exact hK
  ·have e2:(Zq (.lst (vs.map frD))).map (λd=>match d with|.tup [.int a,.int b]=>.int ((a+b)/2)|_=>.non)=vs.map λp=>D.int (mid p):=by
    show (vs.map frD).map _=_;rw[zU];rfl
   rw[e2];exact h⟩)
def Ej  (My:Df K mg q20 RS UG)(L5:Fk P w K mg base 2 XC SM JN):Fk P w K mg base 3 q20 UG LF:=
 My.mk' (ZD (k:=2) My.F za2 (λ_ _ _ _=>nR λ_=>nN:Ln (LF) 1) λ_ _ _ _ _ _ hr=>⟨_,(Zh (Zt (Wh (x:="place") (N:=[]) (caps:=[]) (ar:=Zo RS) rfl rfl csc rfl (by decide) (Zk L5 hr (Za (dv 0) Ze)) (λ_ _ _ _ _ _=>Yt) (λ_ _ _ _ _ _=>(ZR (Za (dv 0) (Za (dv 0) Ze))))))),λds S Q ex h=>by
  replace h:=eR h;obtain⟨b,rfl,h⟩:=h;obtain⟨vs,hb,l9,h⟩:=h;refine XN (n:=S.length) (S1:=S++[.lst (vs.map λp=>.int (mid p))]) (o:=.lst (vs.map λp=>.int (mid p))) (λd=>.tup [d,d]) (λK hK=>⟨vs,hb,l9,hK⟩) (Zy _ _) (by show (vs.map _).length<=1000;rw[zA];lia) (λx hx S2 K pr hK=>by exact hK) ?_;refine h _ _ Pre.refl.push.push (by simp) ?_;have e:(Zq (.lst (vs.map λp=>D.int (mid p)))).map (λd=>D.tup [d,d])=(vs.map ZP).map frD:=by
   show (vs.map λp=>D.int (mid p)).map _=_;rw[zU];rw[zU];rfl
  rw[e];exact Zy _ _⟩)
def CM  (Zs:Xj K mg)(Zv:Xb K mg)(Zm:Y7 K mg)(Zn:Y4 K mg)(Zl:YZ K mg)(Zp:Xi K mg)(Pm:Dm K Zs.C q8 VW NL RA):Fm P w K mg base 1 Zs.C q8 RA (MA Zs.C Zv.C Zm.C Zn.C Zl.C Zp.C):=
 Pm.mk' (ZD (k:=0) Pm.F Cy (λ_ _ _ _=>nR λ_=>nR λ_=>nR λ_=>nI λ_=>nI λ_=>nN:Ln (MA Zs.C Zv.C Zm.C Zn.C Zl.C Zp.C) 5) λ_ _ _ _ _ _ hr=>⟨_,(Zh (Zt (Zf zcC (Yo (Za (ZR (Za Zd (Za Zd Ze))) Ze)) (dv 3)))),λds S Q ex h=>by
  replace h:=UU h;obtain⟨n,w,s,qi,g,rfl,h⟩:=h;obtain⟨x,y,q,vs,sl,ds,hn,hw,hs,rows,sz,⟨rfl,hq⟩,ok,lv,s1,hg,h⟩:=h;have sg:Sz 21 g:=Sz.of 1000000 (by lia)
  have bC:∀ys:List D,ys=(Yv vs sl g q (Nd.number x y)).map frD->Q (.ref (S++[Ob.lst [frD (0,0)]]).length) ((S++[.lst [frD (0,0)]])++[.lst ys]):=λys e=>by
   subst e;exact h _ _ Pre.refl.push.push (by simp) (Zy _ _)
  refine Dv (n:=S.length) (k:=((q:Nat):Int)) (xs:=[frD (0,0)]) (Zy _ _) ⟨by lia,by lia⟩ (by simp;lia) ?_;refine bC _ ?_;rw[zH,zb8];unfold Yv;rw[zU];rfl⟩)
def DO  (Zv:Xb K mg)(Zs:Xj K mg)(Zm:Y7 K mg)(Zn:Y4 K mg)(Zl:YZ K mg)(Zp:Xi K mg)(MW:Dm K Zv.C q8 V6 QG QE)(ZK:mg q87=none):Fm P w K mg base 1 Zv.C q8 QE (M5 Zs.C Zv.C Zm.C Zn.C Zl.C Zp.C):=
 MW.mk' (ZD (k:=0) MW.F zdi (λ_ _ _ _=>nR λ_=>nR λ_=>nR λ_=>nI λ_=>nI λ_=>nN:Ln (M5 Zs.C Zv.C Zm.C Zn.C Zl.C Zp.C) 5) λ_ _ _ _ _ _ hr=>⟨_,(Zh (Zt (VZ (x:="k") (N:=["grid","self"]) (caps:=[4,0]) (ar:=Zo QG) rfl rfl csc rfl (by decide) rfl ZK (Za (dv 3) Ze) (λ_ _ _ _ _ _=>Yt) (λ_ _ _ _ _ _=>(Hv (ZL (ZT hr) (dv 0) (Yk Zv.cl Zv.n_place (dv 2)) (ZE _)) (ZR (Za (dv 1) (Za (dv 1) Ze))) (ZR (Za Zd (Za Zd Ze)))))))),λds S Q ex h=>by
  replace h:=UU h;obtain⟨n,w,s,qi,g,rfl,h⟩:=h;obtain⟨k,q,vs,sl,ds,hn,hw,hs,rows,sz,⟨rfl,hq⟩,ok,lv,s1,hg,h⟩:=h;have sg:Sz 21 g:=Sz.of 1000000 (by lia)
  have bC:∀ys:List D,ys=(Yv vs sl g q (Nd.unknown k)).map frD->Q (.ref S.length) (S++[.lst ys]):=λys e=>by
   subst e;exact h _ _ Pre.refl.push (by simp) (Zy _ _)
  refine Sk (j:=((q:Nat):Int)) (S1:=S) (λl=>frD (if (l:Int)=k then (g,g) else (0,0))) (λK hK=>by exact hK) ⟨by lia,by lia⟩ (λl hl S2 K pr hK=>?_) ?_
  ·refine Yn (n:=n) (λK hK=>by exact hK) (pr _ _ hn) rfl ?_;refine ifD (λe=>?_) (λe=>?_)
   ·rw[if_pos e] at hK;exact hK
   ·rw[if_neg e] at hK;exact hK
  ·refine bC _ ?_;rw[zH];unfold Yv;rw[zU];rfl⟩)
def AN  (Zm:Y7 K mg)(NN:Dm K Zm.C q4 q85 Np Qx)(Xn:Fk P w K mg base 1 q24 WR Um):Fm P w K mg base 2 Zm.C q4 Qx (LX Zm.C):=
 NN.mk' (ZD (k:=1) NN.F EM (λ_ _ _ _=>nR λ_=>nD λ_=>nD λ_=>nP λ_ _=>nP λ_ _=>nI λ_=>nN:Ln (LX Zm.C) 6) λ_ _ _ _ _ _ hr=>⟨_,(Zh (Zt (Zk Xn hr (Za (dv 3) (Za (dv 4) Ze))))),λds S Q ex h=>by
  replace h:=G5 h;obtain⟨_,_,_,_,_,_,_,_,rfl,h⟩:=h;exact h⟩)
def Ac  (Zm:Y7 K mg)(Zs:Xj K mg)(Zv:Xb K mg)(Zn:Y4 K mg)(Zl:YZ K mg)(Zp:Xi K mg)(MG:Dm K Zm.C q8 q46 Qi Ri)(Qt:Fm P w K mg base 2 Zm.C q4 Qx (LX Zm.C))(Ys:mg "zip"=none):Fm P w K mg base 3 Zm.C q8 Ri (OY Zs.C Zv.C Zm.C Zn.C Zl.C Zp.C):=
 MG.mk' (ZD (k:=2) MG.F Iu (λ_ _ _ _=>nR λ_=>nR λ_=>nR λ_=>nI λ_=>nI λ_=>nN:Ln (OY Zs.C Zv.C Zm.C Zn.C Zl.C Zp.C) 5) λ_ _ _ _ _ _ hr=>⟨_,(Zg (XO (i:=5) Iu.nd rfl (Or.inr rfl) (Zz (dv 1) (Yk Zm.cl Zm.n_one (dv 0)))) (Zg (XO (i:=6) Iu.nd rfl (Or.inr rfl) (Zz (dv 1) (Yk Zm.cl Zm.n_other (dv 0)))) (Zh (Zt (TK (x1:="a") (x2:="b") (N:=["x","y","grid","self"]) (caps:=[5,6,4,0]) (ar:=Zo Qi) rfl rfl Vi rfl rfl rfl (by decide) rfl Ys Boot.«zip» (Za (Zz (dv 2) (Yk Zm.cl Zm.n_one (dv 0))) (Za (Zz (dv 2) (Yk Zm.cl Zm.n_other (dv 0))) Ze)) (λ_ _ _ _ _ _=>(Hn (C:=Zm.C) (dv 5) Zm.cl Qt.m Qt.ok (hr.mono (by decide)) Qt.b Tw (Za (dv 2) (Za (dv 3) (Za (dv 0) (Za (dv 1) (Za (dv 4) Ze)))))))))))),λds S Q ex h=>by
  replace h:=UU h;obtain⟨n,w,s,qi,g,rfl,h⟩:=h;obtain⟨i,j,q,vs,sl,ds,hn,hw,hs,rows,sz,⟨rfl,hq⟩,ok,lv,s1,hg,h⟩:=h;have sg:Sz 21 g:=Sz.of 1000000 (by lia)
  have bC:∀ys:List D,ys=(Yv vs sl g q (Nd.plus i j)).map frD->Q (.ref S.length) (S++[.lst ys]):=λys e=>by
   subst e;exact h _ _ Pre.refl.push (by simp) (Zy _ _)
  refine Yn (n:=n) (λK hK=>by exact hK) hn rfl ?_;refine Zu (o:=.lst (vs.map frD)) hw (Z1 (i:=i) ⟨ok.1.1,by have:=ok.1.2;lia⟩) ?_;refine Yn (n:=n) (λK hK=>by exact hK) hn rfl ?_;refine Zu (o:=.lst (vs.map frD)) hw (Z1 (i:=j) ⟨ok.2.1,by have:=ok.2.2;lia⟩) ?_;obtain⟨a1,ea,_,ha⟩:=rows.at ok.1;obtain⟨a2,eb,_,hb⟩:=rows.at ok.2;obtain⟨la,za⟩:=sz i ok.1;obtain⟨lb,zb⟩:=sz j ok.2;have ci:=s1.at (i:=i) ⟨ok.1.1,by have:=ok.1.2;lia⟩
  have cj:=s1.at (i:=j) ⟨ok.2.1,by have:=ok.2.2;lia⟩;refine UR (n:=a1) (n':=a2) (S1:=S) (xs:=(sl.getD i.toNat []).map frD) (ys:=(sl.getD j.toNat []).map frD) (λx y=>match x,y with|.tup [.int a,.int b],.tup [.int c,.int d]=>.tup [.int (a+c),.int (b+d)]|_,_=>.non) (λK hK=>by
   refine Yn (n:=n) (λK hK=>by exact hK) hn rfl ?_;refine Zu (o:=.lst ds) hs ea ?_;refine Yn (n:=n) (λK hK=>by exact hK) hn rfl ?_;exact Zu (o:=.lst ds) hs eb hK) ha hb (by rw[zA,la];lia) (λk x y hx hy S2 K pr hK=>?_) ?_
  ·rw[zG] at hx hy;obtain⟨p,hp,rfl⟩:=zQ.mp hx;obtain⟨r,hr,rfl⟩:=zQ.mp hy;have kq:k<q:=by
    have:=(zF.mp hp).1;lia
   have e1:gs sl i k=p:=by
    unfold gs;rw[zK,hp];rfl
   have e2:gs sl j k=r:=by
    unfold gs;rw[zK,hr];rfl
   have z1:=za k kq
   have z2:=zb k kq;rw[e1] at z1;rw[e2] at z2;refine L8 (n:=n) (fs:=[("one",.int i),("other",.int j)]) (λK hK=>by exact hK) (pr _ _ hn) rfl ?_;exact hK
  ·refine bC _ ?_;rw[List.zipWith_map];unfold Yv;rw[zU];rw[JI _ _ _ la lb];rfl⟩)
def Bm  (Zn:Y4 K mg)(Lw:Dm K Zn.C q4 q72 M8 Qz)(XF:Fk P w K mg base 1 q18 Vo TN):Fm P w K mg base 2 Zn.C q4 Qz (Jk Zn.C):=
 Lw.mk' (ZD (k:=1) Lw.F Ee (λ_ _ _ _=>nR λ_=>nD λ_=>nD λ_=>nP λ_ _=>nP λ_ _=>nI λ_=>nN:Ln (Jk Zn.C) 6) λ_ _ _ _ _ _ hr=>⟨_,(Zh (Zt (Zk XF hr (Za (dv 3) (Za (dv 4) Ze))))),λds S Q ex h=>by
  replace h:=G5 h;obtain⟨_,_,_,_,_,_,_,_,rfl,h⟩:=h;exact h⟩)
def C8  (Zn:Y4 K mg)(Zs:Xj K mg)(Zv:Xb K mg)(Zm:Y7 K mg)(Zl:YZ K mg)(Zp:Xi K mg)(Mp:Dm K Zn.C q8 q46 QO Ql)(QI:Fm P w K mg base 2 Zn.C q4 Qz (Jk Zn.C))(Ys:mg "zip"=none):Fm P w K mg base 3 Zn.C q8 Ql (Oa Zs.C Zv.C Zm.C Zn.C Zl.C Zp.C):=
 Mp.mk' (ZD (k:=2) Mp.F IC (λ_ _ _ _=>nR λ_=>nR λ_=>nR λ_=>nI λ_=>nI λ_=>nN:Ln (Oa Zs.C Zv.C Zm.C Zn.C Zl.C Zp.C) 5) λ_ _ _ _ _ _ hr=>⟨_,(Zg (XO (i:=5) IC.nd rfl (Or.inr rfl) (Zz (dv 1) (Yk Zn.cl Zn.n_one (dv 0)))) (Zg (XO (i:=6) IC.nd rfl (Or.inr rfl) (Zz (dv 1) (Yk Zn.cl Zn.n_other (dv 0)))) (Zh (Zt (TK (x1:="a") (x2:="b") (N:=["x","y","grid","self"]) (caps:=[5,6,4,0]) (ar:=Zo QO) rfl rfl Vi rfl rfl rfl (by decide) rfl Ys Boot.«zip» (Za (Zz (dv 2) (Yk Zn.cl Zn.n_one (dv 0))) (Za (Zz (dv 2) (Yk Zn.cl Zn.n_other (dv 0))) Ze)) (λ_ _ _ _ _ _=>(Hn (C:=Zn.C) (dv 5) Zn.cl QI.m QI.ok (hr.mono (by decide)) QI.b Tw (Za (dv 2) (Za (dv 3) (Za (dv 0) (Za (dv 1) (Za (dv 4) Ze)))))))))))),λds S Q ex h=>by
  replace h:=UU h;obtain⟨n,w,s,qi,g,rfl,h⟩:=h;obtain⟨i,j,q,vs,sl,ds,hn,hw,hs,rows,sz,⟨rfl,hq⟩,ok,lv,s1,hg,h⟩:=h;have sg:Sz 21 g:=Sz.of 1000000 (by lia)
  have bC:∀ys:List D,ys=(Yv vs sl g q (Nd.minus i j)).map frD->Q (.ref S.length) (S++[.lst ys]):=λys e=>by
   subst e;exact h _ _ Pre.refl.push (by simp) (Zy _ _)
  refine Yn (n:=n) (λK hK=>by exact hK) hn rfl ?_;refine Zu (o:=.lst (vs.map frD)) hw (Z1 (i:=i) ⟨ok.1.1,by have:=ok.1.2;lia⟩) ?_;refine Yn (n:=n) (λK hK=>by exact hK) hn rfl ?_;refine Zu (o:=.lst (vs.map frD)) hw (Z1 (i:=j) ⟨ok.2.1,by have:=ok.2.2;lia⟩) ?_;obtain⟨a1,ea,_,ha⟩:=rows.at ok.1;obtain⟨a2,eb,_,hb⟩:=rows.at ok.2;obtain⟨la,za⟩:=sz i ok.1;obtain⟨lb,zb⟩:=sz j ok.2;have ci:=s1.at (i:=i) ⟨ok.1.1,by have:=ok.1.2;lia⟩
  have cj:=s1.at (i:=j) ⟨ok.2.1,by have:=ok.2.2;lia⟩;refine UR (n:=a1) (n':=a2) (S1:=S) (xs:=(sl.getD i.toNat []).map frD) (ys:=(sl.getD j.toNat []).map frD) (λx y=>match x,y with|.tup [.int a,.int b],.tup [.int c,.int d]=>.tup [.int (a-d),.int (b-c)]|_,_=>.non) (λK hK=>by
   refine Yn (n:=n) (λK hK=>by exact hK) hn rfl ?_;refine Zu (o:=.lst ds) hs ea ?_;refine Yn (n:=n) (λK hK=>by exact hK) hn rfl ?_;exact Zu (o:=.lst ds) hs eb hK) ha hb (by rw[zA,la];lia) (λk x y hx hy S2 K pr hK=>?_) ?_
  ·rw[zG] at hx hy;obtain⟨p,hp,rfl⟩:=zQ.mp hx;obtain⟨r,hr,rfl⟩:=zQ.mp hy;have kq:k<q:=by
    have:=(zF.mp hp).1;lia
   have e1:gs sl i k=p:=by
    unfold gs;rw[zK,hp];rfl
   have e2:gs sl j k=r:=by
    unfold gs;rw[zK,hr];rfl
   have z1:=za k kq
   have z2:=zb k kq;rw[e1] at z1;rw[e2] at z2;refine L8 (n:=n) (fs:=[("one",.int i),("other",.int j)]) (λK hK=>by exact hK) (pr _ _ hn) rfl ?_;exact hK
  ·refine bC _ ?_;rw[List.zipWith_map];unfold Yv;rw[zU];rw[JI _ _ _ la lb];rfl⟩)
def zbv  (Zl:YZ K mg)(LP:Dm K Zl.C q4 q73 Pp Ra)(Xn:Fk P w K mg base 1 q24 WR Um)(XH:Fk P w K mg base 2 q28 Vx Us):Fm P w K mg base 3 Zl.C q4 Ra (Kf Zl.C):=
 LP.mk' (ZD (k:=2) LP.F Er (λ_ _ _ _=>nR λ_=>nP λ_ _=>nP λ_ _=>nP λ_ _=>nP λ_ _=>nI λ_=>nN:Ln (Kf Zl.C) 6) λ_ _ _ _ _ _ hr=>⟨_,(Zh (Zt (Zk Xn hr (Za (Zk XH hr (Za (dv 1) (Za (dv 4) (Za (dv 5) Ze)))) (Za (Zk XH hr (Za (dv 2) (Za (dv 3) (Za (dv 5) Ze)))) Ze))))),λds S Q ex h=>by
  replace h:=DX h;obtain⟨_,x1,x2,y1,y2,a,b,c,d,g,rfl,h⟩:=h;obtain⟨⟨h1,h2,h3,h4,h5,h6,h7,h8,g1,g2⟩,h⟩:=h;have sg:Sz 21 g:=Sz.of 1000000 (by lia);refine⟨⟨⟨ZU h1 h7,ZU h1 h8,ZU h2 h7,ZU h2 h8⟩,sg.fd (by lia)⟩,λmn mx hc=>?_⟩;obtain⟨rfl,rfl⟩:=hc.eq;refine⟨⟨⟨ZU h3 h5,ZU h3 h6,ZU h4 h5,ZU h4 h6⟩,sg.fd (by lia)⟩,λmn mx hc=>?_⟩;obtain⟨rfl,rfl⟩:=hc.eq;exact h⟩)
def zc3  (Zl:YZ K mg)(Zs:Xj K mg)(Zv:Xb K mg)(Zm:Y7 K mg)(Zn:Y4 K mg)(Zp:Xi K mg)(Lx:Dm K Zl.C q8 q46 Qn QM)(Sh:Fm P w K mg base 3 Zl.C q4 Ra (Kf Zl.C))(Ys:mg "zip"=none):Fm P w K mg base 4 Zl.C q8 QM (NZ Zs.C Zv.C Zm.C Zn.C Zl.C Zp.C):=
 Lx.mk' (ZD (k:=3) Lx.F Kp (λ_ _ _ _=>nR λ_=>nR λ_=>nR λ_=>nI λ_=>nI λ_=>nN:Ln (NZ Zs.C Zv.C Zm.C Zn.C Zl.C Zp.C) 5) λ_ _ _ _ _ _ hr=>⟨_,(Zg (XO (i:=5) Kp.nd rfl (Or.inr rfl) (Zz (dv 1) (Yk Zl.cl Zl.n_one (dv 0)))) (Zg (XO (i:=6) Kp.nd rfl (Or.inr rfl) (Zz (dv 1) (Yk Zl.cl Zl.n_other (dv 0)))) (Zh (Zt (TK (x1:="a") (x2:="b") (N:=["x","y","grid","self"]) (caps:=[5,6,4,0]) (ar:=Zo Qn) rfl rfl Vi rfl rfl rfl (by decide) rfl Ys Boot.«zip» (Za (Zz (dv 2) (Yk Zl.cl Zl.n_one (dv 0))) (Za (Zz (dv 2) (Yk Zl.cl Zl.n_other (dv 0))) Ze)) (λ_ _ _ _ _ _=>(Hn (C:=Zl.C) (dv 5) Zl.cl Sh.m Sh.ok (hr.mono (by decide)) Sh.b Tw (Za (dv 2) (Za (dv 3) (Za (dv 0) (Za (dv 1) (Za (dv 4) Ze)))))))))))),λds S Q ex h=>by
  replace h:=UU h;obtain⟨n,w,s,qi,g,rfl,h⟩:=h;obtain⟨i,j,q,vs,sl,ds,hn,hw,hs,rows,sz,⟨rfl,hq⟩,ok,lv,s1,hg,h⟩:=h;have sg:Sz 21 g:=Sz.of 1000000 (by lia)
  have bC:∀ys:List D,ys=(Yv vs sl g q (Nd.times i j)).map frD->Q (.ref S.length) (S++[.lst ys]):=λys e=>by
   subst e;exact h _ _ Pre.refl.push (by simp) (Zy _ _)
  refine Yn (n:=n) (λK hK=>by exact hK) hn rfl ?_;refine Zu (o:=.lst (vs.map frD)) hw (Z1 (i:=i) ⟨ok.1.1,by have:=ok.1.2;lia⟩) ?_;refine Yn (n:=n) (λK hK=>by exact hK) hn rfl ?_;refine Zu (o:=.lst (vs.map frD)) hw (Z1 (i:=j) ⟨ok.2.1,by have:=ok.2.2;lia⟩) ?_;obtain⟨a1,ea,_,ha⟩:=rows.at ok.1;obtain⟨a2,eb,_,hb⟩:=rows.at ok.2;obtain⟨la,za⟩:=sz i ok.1;obtain⟨lb,zb⟩:=sz j ok.2;have ci:=s1.at (i:=i) ⟨ok.1.1,by have:=ok.1.2;lia⟩
  have cj:=s1.at (i:=j) ⟨ok.2.1,by have:=ok.2.2;lia⟩;refine UR (n:=a1) (n':=a2) (S1:=S) (xs:=(sl.getD i.toNat []).map frD) (ys:=(sl.getD j.toNat []).map frD) (λx y=>match x,y with|.tup [.int a,.int b],.tup [.int c,.int d]=>.tup [.int ((Yw (gt vs i) (c,d) g).1+(Yw (gt vs j) (a,b) g).1),.int ((Yw (gt vs i) (c,d) g).2+(Yw (gt vs j) (a,b) g).2)]|_,_=>.non) (λK hK=>by
   refine Yn (n:=n) (λK hK=>by exact hK) hn rfl ?_;refine Zu (o:=.lst ds) hs ea ?_;refine Yn (n:=n) (λK hK=>by exact hK) hn rfl ?_;exact Zu (o:=.lst ds) hs eb hK) ha hb (by rw[zA,la];lia) (λk x y hx hy S2 K pr hK=>?_) ?_
  ·rw[zG] at hx hy;obtain⟨p,hp,rfl⟩:=zQ.mp hx;obtain⟨r,hr,rfl⟩:=zQ.mp hy;have kq:k<q:=by
    have:=(zF.mp hp).1;lia
   have e1:gs sl i k=p:=by
    unfold gs;rw[zK,hp];rfl
   have e2:gs sl j k=r:=by
    unfold gs;rw[zK,hr];rfl
   have z1:=za k kq
   have z2:=zb k kq;rw[e1] at z1;rw[e2] at z2;refine L8 (n:=n) (fs:=[("one",.int i),("other",.int j)]) (λK hK=>by exact hK) (pr _ _ hn) rfl ?_;exact⟨⟨ci.2.1.mono (by decide),ci.2.2.mono (by decide),cj.2.1.mono (by decide),cj.2.2.mono (by decide),z1.2.1.mono (by decide),z1.2.2.mono (by decide),z2.2.1.mono (by decide),z2.2.2.mono (by decide),hg.1,hg.2⟩,hK⟩
  ·refine bC _ ?_;rw[List.zipWith_map];unfold Yv;rw[zU];rw[JI _ _ _ la lb];rfl⟩)
def zc1  (P4:Df K mg q38 QX S6)(Xy:mg "max"=none)(Xf:mg "min"=none):Fk P w K mg base 1 q38 S6 Ib:=
 P4.mk' (ZD (k:=0) P4.F BY (λ_ _ _ _=>nP λ_ _=>nI λ_=>nN:Ln (Ib) 2) λ_ _ _ _ _ _ hr=>⟨_,(Zh (Zt (ZR (Za (ZM (QK rfl) rfl Xf Boot.«min» (Za (Zf ZV (Zi (dv 0) Zd) (dv 1)) (Za (Zf ZV (Zi (dv 0) Zd) (dv 1)) Ze))) (Za (ZM (La rfl) rfl Xy Boot.«max» (Za (Zf ZV (Zi (dv 0) Zd) (dv 1)) (Za (Zf ZV (Zi (dv 0) Zd) (dv 1)) Ze))) Ze))))),λds S Q ex h=>by
  replace h:=ePI h;obtain⟨_,_,_,rfl,h⟩:=h;obtain⟨⟨h1,h2⟩,h⟩:=h;exact⟨h1,h2,h1,h2,h⟩⟩)
def zbf  (Zp:Xi K mg)(Zs:Xj K mg)(Zv:Xb K mg)(Zm:Y7 K mg)(Zn:Y4 K mg)(Zl:YZ K mg)(OX:Dm K Zp.C q8 V1 Sm Qg)(XH:Fk P w K mg base 2 q28 Vx Us)(Ka:Fk P w K mg base 1 q38 S6 Ib)(Ut:Fk P w K mg base 2 q31 TB MK):Fm P w K mg base 3 Zp.C q8 Qg (MH Zs.C Zv.C Zm.C Zn.C Zl.C Zp.C):=
 OX.mk' (ZD (k:=2) OX.F Hd (λ_ _ _ _=>nR λ_=>nR λ_=>nR λ_=>nI λ_=>nI λ_=>nN:Ln (MH Zs.C Zv.C Zm.C Zn.C Zl.C Zp.C) 5) λ_ _ _ _ _ _ hr=>⟨_,(Zg (Zw (i:=5) Hd.nd (Zk Ut hr (Za (Zz (dv 1) (Yk Zp.cl Zp.n_one (dv 0))) (Za (Zf Yr (Yk Zp.cl Zp.n_many (dv 0)) Zd) (Za (dv 4) Ze))))) (Zg (XO (i:=6) Hd.nd rfl (Or.inr rfl) (Zk Ka hr (Za (dv 5) (Za (Yk Zp.cl Zp.n_many (dv 0)) Ze)))) (Zh (Zt (Wh (x:="a") (N:=["steep","grid"]) (caps:=[6,4]) (ar:=Zo Sm) rfl rfl csc rfl (by decide) (Zz (dv 2) (Yk Zp.cl Zp.n_one (dv 0))) (λ_ _ _ _ _ _=>Yt) (λ_ _ _ _ _ _=>(Zk XH hr (Za (dv 1) (Za (dv 0) (Za (dv 2) Ze)))))))))),λds S Q ex h=>by
  replace h:=UU h;obtain⟨n,w,s,qi,g,rfl,h⟩:=h;obtain⟨i,m,q,vs,sl,ds,hn,hw,hs,rows,sz,⟨rfl,hq⟩,ok,lv,s1,hg,h⟩:=h;have sg:Sz 21 g:=Sz.of 1000000 (by lia)
  have bC:∀ys:List D,ys=(Yv vs sl g q (Nd.power i m)).map frD->Q (.ref S.length) (S++[.lst ys]):=λys e=>by
   subst e;exact h _ _ Pre.refl.push (by simp) (Zy _ _)
  obtain⟨a1,ea,_,ha⟩:=rows.at ok.1;obtain⟨la,za⟩:=sz i ok.1;have ci:=s1.at (i:=i) ⟨ok.1.1,by have:=ok.1.2;lia⟩;obtain⟨ok1,m2,m6⟩:=ok;refine Yn (n:=n) (λK hK=>by exact hK) hn rfl ?_;refine Zu (o:=.lst (vs.map frD)) hw (Z1 (i:=i) ⟨ok1.1,by have:=ok1.2;lia⟩) ?_;refine Yn (n:=n) (λK hK=>by exact hK) hn rfl ?_;refine⟨⟨by lia,by lia,ci.2.1.mono (by decide),ci.2.2.mono (by decide),hg.1,sg.mono (by decide)⟩,λm' M' hP=>?_⟩;obtain⟨rfl,rfl⟩:=hP.eq (by lia);have gp:(1:Int)<=g^((m-1).toNat-1):=yP (by lia)
  have lo:=Tu gp (Pl (gt vs i).1 (gt vs i).2 (m-1).toNat)
  have fl:=zaz (gt vs i) (n:=m) (by lia) hg.1
  have p1:Sz 6000 ((gt vs i).1^(m-1).toNat):=(ci.2.1.pow _).mono (by lia)
  have p2:Sz 6000 ((gt vs i).2^(m-1).toNat):=(ci.2.2.pow _).mono (by lia)
  have pl:Sz 6000 (Yg (gt vs i).1 (gt vs i).2 (m-1).toNat):=by
   unfold Yg;split
   ·exact yF (by decide)
   ·exact Wz p1 p2
  have sm:Sz 10 m:=Sz.of 6 (by lia);refine Yn (n:=n) (λK hK=>by exact hK) hn rfl ?_;refine⟨⟨ZU (pl.div gp) sm,ZU (VA (Wo p1 p2) gp) sm⟩,?_⟩;have e1:(if -(-Y6 (gt vs i).1 (gt vs i).2 (m-1).toNat/g^((m-1).toNat-1))*m<Yg (gt vs i).1 (gt vs i).2 (m-1).toNat/g^((m-1).toNat-1)*m then -(-Y6 (gt vs i).1 (gt vs i).2 (m-1).toNat/g^((m-1).toNat-1))*m else Yg (gt vs i).1 (gt vs i).2 (m-1).toNat/g^((m-1).toNat-1)*m)=(YW (gt vs i) m g).1:=by
   rw[if_neg (by have z:(YW (gt vs i) m g).1<=(YW (gt vs i) m g).2:=fl;exact Int.not_lt.mpr z)];rfl
  have e2:(if -(-Y6 (gt vs i).1 (gt vs i).2 (m-1).toNat/g^((m-1).toNat-1))*m > Yg (gt vs i).1 (gt vs i).2 (m-1).toNat/g^((m-1).toNat-1)*m then -(-Y6 (gt vs i).1 (gt vs i).2 (m-1).toNat/g^((m-1).toNat-1))*m else Yg (gt vs i).1 (gt vs i).2 (m-1).toNat/g^((m-1).toNat-1)*m)=(YW (gt vs i) m g).2:=by
   split
   ·rfl
   ·rename_i c;have z:¬ (YW (gt vs i) m g).1<(YW (gt vs i) m g).2:=c
    have z2:(YW (gt vs i) m g).1=(YW (gt vs i) m g).2:=by lia
    exact z2
  rw[e1,e2];have f1:Sz 6010 (YW (gt vs i) m g).1:=Lf (e:=10) (pl.div gp) (by lia) (by lia)
  have f2:Sz 6010 (YW (gt vs i) m g).2:=Lf (e:=10) (VA (Wo p1 p2) gp) (by lia) (by lia);generalize hfc:YW (gt vs i) m g=fc at f1 f2;refine XN (n:=a1) (S1:=S) (o:=.lst ((sl.getD i.toNat []).map frD)) (λx=>match x with|.tup [.int a,.int b]=>frD (Yw fc (a,b) g)|_=>.non) (λK hK=>by
   refine Yn (n:=n) (λK hK=>by exact hK) hn rfl ?_;exact Zu (o:=.lst ds) hs ea hK) ha (by show ((sl.getD i.toNat []).map frD).length<=1000;rw[zA,la];lia) (λx hx S2 K pr hK=>?_) ?_
  ·have hx':x∈(sl.getD i.toNat []).map frD:=hx;obtain⟨p,hp,rfl⟩:=zJ.mp hx';obtain⟨k,hk,ek⟩:=yV.mp hp;have z1:=za k (by lia)
   have e1:gs sl i k=p:=by
    unfold gs;rw[zK,zC hk,ek];rfl
   rw[e1] at z1;refine⟨⟨⟨ZU f1 z1.2.1,ZU f1 z1.2.2,ZU f2 z1.2.1,ZU f2 z1.2.2⟩,sg.fd (by lia)⟩,λmn mx hc=>?_⟩;obtain⟨rfl,rfl⟩:=hc.eq;exact hK
  ·refine bC _ ?_;show ((sl.getD i.toNat []).map frD).map _=_;rw[zU,Ay _ _ la];unfold Yv;rw[zU];subst hfc;rfl⟩)
def zbw  (Zp:Xi K mg)(Zl:YZ K mg)(Zn:Y4 K mg)(Zm:Y7 K mg)(Zv:Xb K mg)(Zs:Xj K mg)(Od:Df K mg q41 SO Sv)(Ve:Fk P w K mg base 2 q45 Ub SJ)(J7:Fm P w K mg base 3 Zp.C q8 Qg (MH Zs.C Zv.C Zm.C Zn.C Zl.C Zp.C))(IX:Fm P w K mg base 4 Zl.C q8 QM (NZ Zs.C Zv.C Zm.C Zn.C Zl.C Zp.C))(IG:Fm P w K mg base 3 Zn.C q8 Ql (Oa Zs.C Zv.C Zm.C Zn.C Zl.C Zp.C))(Jc:Fm P w K mg base 3 Zm.C q8 Ri (OY Zs.C Zv.C Zm.C Zn.C Zl.C Zp.C))(J1:Fm P w K mg base 1 Zv.C q8 QE (M5 Zs.C Zv.C Zm.C Zn.C Zl.C Zp.C))(Ir:Fm P w K mg base 1 Zs.C q8 RA (MA Zs.C Zv.C Zm.C Zn.C Zl.C Zp.C))(Ts:Fk P w K mg base 3 q98 TM (MJ Zs.C Zv.C Zm.C Zn.C Zl.C Zp.C))(WW:Fk P w K mg base 1 q34 Up Rv)(YM:mg "all"=none)(Ys:mg "zip"=none)(ZA:mg "len"=none):Fk P w K mg base 5 q41 Sv Ky:=
 Od.mk' (Wa (ZD (k:=4) Od.F Gd (X0 (λ_ _ _ _=>nR λ_=>nR λ_=>nI λ_=>nR λ_=>nR λ_=>nN:Ln (Ky) 5)) λ_ _ _ _ _ _ hr=>⟨_,(Zg (XO (i:=5) Gd.nd rfl (Or.inr rfl) (ZM (ZI ZW) rfl ZA Boot.«len» (Za (dv 1) Ze))) (Zg (ZN (PDW.pt (Vc (ZL (UB hr) (ZM (ZI ZW) rfl ZA Boot.«len» (Za (dv 4) Ze)) (ZM (ZI ZW) rfl ZA Boot.«len» (Za (dv 0) Ze)) (ZE _)) (VO (Wl (Xq (Zk WW hr (Za (dv 4) (Za (dv 5) Ze)))))))) (Zh (Zt Y8)) ZO) (Zh (Zt (ZM (ZI (UX rfl)) rfl YM Boot.«all» (Za (TK (x1:="node") (x2:="own") (N:=["spans","slopes","many","grid"]) (caps:=[3,4,5,2]) (ar:=Zo SO) rfl rfl Vi rfl rfl rfl (by decide) rfl Ys Boot.«zip» (Za (dv 0) (Za (dv 4) Ze)) (λ_ _ _ _ _ _=>(Zk Ve hr (Za (HR (Zk Ts hr (Za (dv 0) Ze)) (XY Zs.cl Ir (hr.mono (by decide)) (XY Zv.cl J1 (hr.mono (by decide)) (XY Zm.cl Jc (hr.mono (by decide)) (XY Zn.cl IG (hr.mono (by decide)) (XY Zl.cl IX (hr.mono (by decide)) (XY Zp.cl J7 (hr.mono (by decide)) Gj)))))) Tw (Za (dv 2) (Za (dv 3) (Za (dv 4) (Za (dv 5) Ze))))) (Za (dv 1) Ze))))) Ze)))))),λds S Q ex h=>by
  obtain⟨Q0,ex0,rfl,rfl,h⟩:=h;replace h:=Dg h;obtain⟨a,b,g,c,d,rfl,h⟩:=h;obtain⟨ns,ws,bs,vs,R,ds,ha,hb,hc,hd,rows,net,lv,b9,n9,r9,sp,hg,h⟩:=h;have disp:∀v:Nd,∃C fs sd,v.ob Zs.C Zv.C Zm.C Zn.C Zl.C Zp.C=.ins C fs/\(C,sd)∈[(Zs.C,MA Zs.C Zv.C Zm.C Zn.C Zl.C Zp.C),(Zv.C,M5 Zs.C Zv.C Zm.C Zn.C Zl.C Zp.C),(Zm.C,OY Zs.C Zv.C Zm.C Zn.C Zl.C Zp.C),(Zn.C,Oa Zs.C Zv.C Zm.C Zn.C Zl.C Zp.C),(Zl.C,NZ Zs.C Zv.C Zm.C Zn.C Zl.C Zp.C),(Zp.C,MH Zs.C Zv.C Zm.C Zn.C Zl.C Zp.C)]/\fs.lookup ("slope":Str)=none/\∀(n w s:Nat)(q:Nat)(g:Int)(S:Sto)(Q:DK)(ex:Addr->Sto->Prop)(vs:LI)(sl:List LI)(ds:List D),S[n]?=some (v.ob Zs.C Zv.C Zm.C Zn.C Zl.C Zp.C)->S[w]?=some (.lst (vs.map frD))->S[s]?=some (.lst ds)->Z2 S 0 ds sl->(∀i:Int,inR sl.length i->(sl.getD i.toNat []).length=q/\∀l,l<q->(gs sl i l).1<=(gs sl i l).2/\Sz 1100 (gs sl i l).1/\Sz 1100 (gs sl i l).2)->q<=900->v.ok sl.length q->sl.length<=vs.length->Spn 1000 vs->(1<=g/\g<=1000000)->(∀(T:Sto)(m:Nat),Pre S T->S.length<=m->T[m]?=some (.lst ((Yv vs sl g q v).map frD))->Q (.ref m) T)->sd [.ref n,.ref w,.ref s,.int (q:Nat),.int g] S Q ex:=by
   intro v;cases v with
   | number x y=>exact⟨_,_,_,rfl,(.head _),rfl,λn w s q g S Q ex vs sl ds a1 a2 a3 a4 a5 a6 a7 a8 a9 b1 b2=>⟨x,y,q,vs,sl,ds,a1,a2,a3,a4,a5,⟨rfl,a6⟩,a7,a8,a9,b1,b2⟩⟩
   | unknown k=>exact⟨_,_,_,rfl,(.tail _ (.head _)),rfl,λn w s q g S Q ex vs sl ds a1 a2 a3 a4 a5 a6 a7 a8 a9 b1 b2=>⟨k,q,vs,sl,ds,a1,a2,a3,a4,a5,⟨rfl,a6⟩,a7,a8,a9,b1,b2⟩⟩
   | plus i j=>exact⟨_,_,_,rfl,(.tail _ (.tail _ (.head _))),rfl,λn w s q g S Q ex vs sl ds a1 a2 a3 a4 a5 a6 a7 a8 a9 b1 b2=>⟨i,j,q,vs,sl,ds,a1,a2,a3,a4,a5,⟨rfl,a6⟩,a7,a8,a9,b1,b2⟩⟩
   | minus i j=>exact⟨_,_,_,rfl,(.tail _ (.tail _ (.tail _ (.head _)))),rfl,λn w s q g S Q ex vs sl ds a1 a2 a3 a4 a5 a6 a7 a8 a9 b1 b2=>⟨i,j,q,vs,sl,ds,a1,a2,a3,a4,a5,⟨rfl,a6⟩,a7,a8,a9,b1,b2⟩⟩
   | times i j=>exact⟨_,_,_,rfl,(.tail _ (.tail _ (.tail _ (.tail _ (.head _))))),rfl,λn w s q g S Q ex vs sl ds a1 a2 a3 a4 a5 a6 a7 a8 a9 b1 b2=>⟨i,j,q,vs,sl,ds,a1,a2,a3,a4,a5,⟨rfl,a6⟩,a7,a8,a9,b1,b2⟩⟩
   | power i m=>exact⟨_,_,_,rfl,(.tail _ (.tail _ (.tail _ (.tail _ (.tail _ (.head _)))))),rfl,λn w s q g S Q ex vs sl ds a1 a2 a3 a4 a5 a6 a7 a8 a9 b1 b2=>⟨i,m,q,vs,sl,ds,a1,a2,a3,a4,a5,⟨rfl,a6⟩,a7,a8,a9,b1,b2⟩⟩
  refine ZZ hb ?_;refine ZZ hd ?_;refine ZZ ha ?_;rw[zA,zA,rows.1];have no:Q0 (.bl false) S->Gc S Q0 (.bl false) S:=λz=>⟨Pre.refl,.bl _,z⟩
  rcases h with ⟨bad,h⟩|⟨eq,slw,h⟩
  ·refine ifN (λe=>no h) (λe=>?_);refine .inl ⟨R,ds,hd,rows,r9,?_⟩;have e2:(R.map λr=>decide (((r.length:Nat):Int)=((bs.length:Nat):Int))).all id=false:=by
    rw[Bool.eq_false_iff];intro z;rw[yZ] at z;rcases bad with b1|⟨r,hr,b2⟩
    ·exact b1 (by lia)
    ·have:=z _ (zJ.mpr ⟨r,hr,rfl⟩)
     have:=of_decide_eq_true this;lia
   rw[e2];refine Xm ?_;exact no h
  ·refine ifN (λe=>absurd (by rw[eq]) e) (λe=>?_);refine .inl ⟨R,ds,hd,rows,r9,?_⟩;have e2:(R.map λr=>decide (((r.length:Nat):Int)=((bs.length:Nat):Int))).all id=true:=by
    rw[yZ];intro z hz;obtain⟨r,hr,rfl⟩:=zJ.mp hz;obtain⟨k,hk⟩:=xW.mp hr;have:=(slw k r hk).1
    show decide (((r.length:Nat):Int)=((bs.length:Nat):Int))=true;rw[this];exact decide_eq_true rfl
   rw[e2];refine YR ?_;have w16:∀k:Nat,k<R.length->ws.getD k 0<=16:=λk hk=>by
    have z:=(net.w1 (i:=(k:Int)) ⟨by lia,by lia⟩).2
    rwa [zH] at z
   have ss:=slw.spn w16
   have ld:ds.length=ns.length:=by rw[rows.1,eq]
   refine Cf (S1:=S) (n:=a) (n':=d) (xs:=ns.map Nd.d) (ys:=ds) (λk zs S2=>Pre S S2/\S2[S.length]?=some (.lst zs)/\zs.length=k/\zs=((slB vs R g bs.length ns).take k).map D.bl) (λK hK=>by exact hK) ha hd (by rw[zA];lia) (λk zs S2 w=>⟨w.1 _ _ ha,w.1 _ _ hd,w.2.1,w.2.2.1⟩) ⟨Pre.refl.push,Zy _ _,rfl,rfl⟩ (λk x y zs S2 K hx hy w hK=>?_) (λzs S2 w=>?_)
   ·obtain⟨w1,w2,w3,w4⟩:=w;rw[zG] at hx;obtain⟨v,hv,rfl⟩:=zQ.mp hx;have hk:=(zF.mp hv).1
    have hR:=zC (show k<R.length by lia);generalize R[k]'(by lia)=row at hR;obtain⟨ar,rfl,_,har⟩:=rows.2 k y _ hy hR;obtain⟨C,fs,sd,eo,hm,hf2,go⟩:=disp v;have N1:=Zy S2 (v.ob Zs.C Zv.C Zm.C Zn.C Zl.C Zp.C)
    have okv:v.ok R.length bs.length:=FK (by lia) (net.ok k v hv).1;refine FN (n:=S2.length) (C:=C) (sd:=sd) (fs:=fs) (S1:=S2++[v.ob Zs.C Zv.C Zm.C Zn.C Zl.C Zp.C]) (λK hK=>⟨v,rfl,by exact hK⟩) (by rw[<- eo];exact N1) hm hf2 ?_;refine go _ _ _ bs.length _ _ _ _ vs R ds N1 (Zj (w1 _ _ hc)) (Zj (w1 _ _ hd)) (rows.pre (LS w1 _)) ss b9 okv (by lia) sp hg λT m prT lm hT=>?_
    have keep:∀ {x:Nat} {o:Ob},S2[x]?=some o->T[x]?=some o:=λe=>prT _ _ (Zj e)
    refine⟨_,row,hT,keep (w1 _ _ har),by rw[C2];exact yI b9 (by decide),?_⟩;have lt:=Z4 w2
    have hB:(slB vs R g bs.length ns)[k]?=some (YE (Yv vs R g bs.length v) row):=by
     unfold slB;rw[xK,hv,hR]
    refine hK _ _ (keep w2) ⟨Rm (λx o e=>keep (w1 x o e)) (zD _),Yu (keep w2),by simp[w3],?_⟩;rw[w4,W0 hB,yC];rfl
   ·obtain⟨w1,w2,w3,w4⟩:=w;have lB:(slB vs R g bs.length ns).length=ns.length:=by
     unfold slB;rw[List.length_zipWith];lia
    have e5:zs=(slB vs R g bs.length ns).map D.bl:=by
     rw[w4,zY (by rw[lB,zA];lia)]
    subst e5;refine V4 (n:=S.length) (o:=.lst _) w2 (Jh _) ?_;exact⟨w1,.bl _,h⟩⟩))
def zaQ  (NJ:Df K mg q21 TY QR):Fk P w K mg base 1 q21 QR Ik:=
 NJ.mk' (ZD (k:=0) NJ.F zde (λ_ _ _ _=>nR λ_=>nN:Ln (Ik) 1) λ_ _ _ _ _ _ hr=>⟨_,(Zh (Zt (Wh (x:="row") (N:=[]) (caps:=[]) (ar:=Zo TY) rfl rfl csc rfl (by decide) (dv 0) (λ_ _ _ _ _ _=>Hs (ZL (ZT hr) (Zi (dv 0) Zd) Z3 (ZE _))) (λ_ _ _ _ _ _=>(Zi (dv 0) Zd))))),λds S Q ex h=>by
  replace h:=eR h;obtain⟨r,rfl,h⟩:=h;obtain⟨rows,hr,l9,h⟩:=h;refine Ks (n:=r) (S1:=S) (o:=.lst (rows.map rwD)) (λd=>match d with|.tup [.str w,.int at']=>if w="zero" then some (.int at') else none|_=>none) (λK hK=>by exact hK) hr (by show (rows.map rwD).length<=1000;rw[zA];lia) (λx hx S2 K pr hK=>?_) (λx hx y hy S2 K pr hK=>?_) ?_
  ·have hx':x∈rows.map rwD:=hx;obtain⟨⟨b,n⟩,_,rfl⟩:=zJ.mp hx';cases b
   ·exact hK
   ·exact hK
  ·have hx':x∈rows.map rwD:=hx;obtain⟨⟨b,n⟩,_,rfl⟩:=zJ.mp hx';cases b
   ·exact absurd hy (by
     simp[rwD];intro z;exact absurd z (by decide))
   ·cases hy;exact hK
  ·have e:(Zq (.lst (rows.map rwD))).filterMap (λd=>match d with|.tup [.str w,.int at']=>if w="zero" then some (.int at') else none|_=>none)=(eqs rows).map wtD:=by
    show (rows.map rwD).filterMap _=_;unfold eqs;rw[List.filterMap_map,List.map_filterMap];congr 1;funext ⟨b,n⟩;cases b<;>rfl
   rw[e];exact h⟩)
def EI  (OM:Df K mg q77 O0 R5)(WW:Fk P w K mg base 1 q34 Up Rv)(ZA:mg "len"=none):Fk P w K mg base 2 q77 R5 Jb:=
 OM.mk' (ZD (k:=1) OM.F BS (λ_ _ _ _=>nR λ_=>nI λ_=>nN:Ln (Jb) 2) λ_ _ _ _ _ _ hr=>⟨_,(Zh (Zt (W3 (YK (ZT hr) (ZM (ZI ZW) rfl ZA Boot.«len» (Za (dv 0) Ze)) (dv 1) (ZE _)) (WX (Zk WW hr (Za (dv 0) (Za (dv 1) Ze))))))),λds S Q ex h=>by
  replace h:=eRI h;obtain⟨l,m,rfl,h⟩:=h;obtain⟨M,ds,n,hd,rows,rfl,lM,n9,h⟩:=h;refine ZZ hd ?_;rw[rows.1,lM];unfold Rt;refine GF (i:=((n:Nat):Int)) (S:=S) ?_;exact .inr ⟨M,ds,hd,rows,by lia,h⟩⟩)
def E6  (OZ:Df K mg q17 Mu U3)(Xn:Fk P w K mg base 1 q24 WR Um)(XH:Fk P w K mg base 2 q28 Vx Us)(Ys:mg "zip"=none):Fk P w K mg base 3 q17 U3 Q1:=
 OZ.mk' (ZD (k:=2) OZ.F Ll (λ_ _ _ _=>nR λ_=>nR λ_=>nI λ_=>nN:Ln (Q1) 3) λ_ _ _ _ _ _ hr=>⟨_,(Zg (Zw (i:=3) Ll.nd (ZR (Za Zd (Za Zd Ze)))) (Zg (zbm (is:=[4,5]) PassesOwn.never rfl Ll.nd (Nms.cons (i:=4) rfl (Or.inl rfl) (by first|exact .inl rfl|exact .inr rfl) (Nms.cons (i:=5) rfl (Or.inl rfl) (by first|exact .inl rfl|exact .inr rfl) Nms.nil)) rfl rfl Ys Boot.«zip» (Za (dv 0) (Za (dv 1) Ze)) (Zh (Zw (i:=3) Ll.nd (Zk Xn hr (Za (dv 3) (Za (Zk XH hr (Za (dv 4) (Za (dv 5) (Za (dv 2) Ze)))) Ze)))))) (Zh (Zt (dv 3))))),λds S Q ex h=>by
  replace h:=eRRI h;obtain⟨a,b,g,rfl,h⟩:=h;obtain⟨us,vs,ha,hb,l6,z1,z2,hg,h⟩:=h;have sg:Sz 21 g:=Sz.of 1000000 (by lia);refine AA (n:=a) (n':=b) (xs:=us.map frD) (ys:=vs.map frD) (S:=S) (λk dl'=>∃u1 u2:Option D,dl'=[some (.ref a),some (.ref b),some (.int g),some (frD (sumP g (us.take k) (vs.take k))),u1,u2]) (λK hK=>by exact hK) ha hb ⟨_,_,rfl⟩ ?_ ?_
  ·rintro k x y dl' nx ct hx hy ⟨u1,u2,rfl⟩ hn;rw[zG] at hx hy;obtain⟨p,hp,rfl⟩:=zQ.mp hx;obtain⟨r,hr,rfl⟩:=zQ.mp hy;have zp:=z1 _ (zL hp)
   have zr:=z2 _ (zL hr);refine⟨⟨⟨ZU zp.1 zr.1,ZU zp.1 zr.2,ZU zp.2 zr.1,ZU zp.2 zr.2⟩,sg.fd (by lia)⟩,λmn mx hc=>?_⟩;obtain⟨rfl,rfl⟩:=hc.eq;refine hn _ ⟨some (frD p),some (frD r),?_⟩;rw[Ti g us vs k hp hr];rfl
  ·rintro dl' ⟨u1,u2,rfl⟩;rw[zA,zA,Fu];exact h⟩)
def zaR  (Ni:Df K mg XS QH SI)(XF:Fk P w K mg base 1 q18 Vo TN)(Uh:Fk P w K mg base 3 q17 U3 Q1):Fk P w K mg base 4 XS SI Kv:=
 Ni.mk' (Wa (ZD (k:=3) Ni.F Jv (X0 (λ_ _ _ _=>nI λ_=>nI λ_=>nR λ_=>nR λ_=>nI λ_=>nN:Ln (Kv) 5)) λ_ _ _ _ _ _ hr=>⟨_,(Zg (Zw (i:=5) Jv.nd (Hv (ZL (ZT hr) (dv 0) (dv 1) (ZE _)) (ZR (Za (dv 4) (Za (dv 4) Ze))) (ZR (Za Zd (Za Zd Ze))))) (Zg (VM (x:="slant") (N:=["column"]) (caps:=[1]) (ar:=Zo QH) rfl rfl csc rfl (by decide) (i:=6) Jv.nd rfl rfl (dv 3) (λ_ _ _ _ _ _=>Yt) (λ_ _ _ _ _ _=>(Zz (dv 0) (dv 1)))) (Zh (Zt (Zk XF hr (Za (dv 5) (Za (Zk Uh hr (Za (dv 2) (Za (dv 6) (Za (dv 4) Ze)))) Ze))))))),λds S Q ex h=>by
  obtain⟨Q0,ex0,rfl,rfl,h⟩:=h;replace h:=zaI h;obtain⟨k,c,t,s,g,rfl,h⟩:=h;obtain⟨q,kn,cn,ts,R,ds,rfl,rfl,ht,hs,rows,zr,hc,l6,r6,z1,hg,h⟩:=h;have tail:∀aW:Int×Int,aW=(if kn=cn then (g,g) else (0,0))->∀K:DK,K (frD (YJ g kn cn ts R)) (S++[.lst ((R.map λr=>r.getD cn (0,0)).map frD)])->True:=λ_ _ _ _=>trivial
  have col:∀(k:Nat)(r:LI),R[k]?=some r->atI (r.map frD) ((cn:Nat):Int)=some (frD (r.getD cn (0,0))):=λk r hr=>by
   have hl:=(zr r (zL hr)).1
   have z:=Z1 (vs:=r) (i:=((cn:Nat):Int)) ⟨by lia,by rw[hl];lia⟩;rw[z];have e:gt r ((cn:Nat):Int)=r.getD cn (0,0):=by
    have ll:cn<r.length:=by rw[hl];exact hc
    unfold gt;rw[zH];simp[ll]
   rw[e]
  have bd:Bd 20000 (R.map λr=>r.getD cn (0,0)):=λp hp=>by
   obtain⟨r,hr,er⟩:=zJ.mp hp;subst er;obtain⟨hl,b⟩:=zr r hr;have ll:cn<r.length:=by rw[hl];exact hc
   have e:r.getD cn (0,0)=r[cn]:=by simp[ll]
   rw[e];exact⟨(b _ (yA ll)).1.mono (by decide),(b _ (yA ll)).2.mono (by decide)⟩
  have Yy:∀aW:Int×Int,aW=(if kn=cn then (g,g) else (0,0))->Gc S Q0 (.tup [.int (aW.1-(sumP g ts (R.map λr=>r.getD cn (0,0))).2),.int (aW.2-(sumP g ts (R.map λr=>r.getD cn (0,0))).1)]) (S++[.lst ((R.map λr=>r.getD cn (0,0)).map frD)]):=λaW e=>by
   subst e;exact⟨Pre.refl.push,Vm,h⟩
  refine ifD (λe=>?_) (λe=>?_)
  ·refine Nf (n:=s) (S1:=S) (o:=.lst ds) (λk d=>∃r,R[k]?=some r/\d=frD (r.getD cn (0,0))) (λK hK=>by exact hK) hs (by show ds.length<=1000;rw[rows.1];lia) (λk x hx S2 K pr hK=>?_) (λxs lx hx=>?_)
   ·have hx':ds[k]?=some x:=hx
    have hk:k<R.length:=by
     have:=(zF.mp hx').1;rw[rows.1] at this;exact this
    obtain⟨a,rfl,_,ha⟩:=rows.2 k x _ hx' (zC hk);refine Zu (o:=.lst _) (pr _ _ ha) (col k _ (zC hk)) ?_;exact hK _ ⟨_,zC hk,rfl⟩
   ·have e2:xs=(R.map λr=>r.getD cn (0,0)).map frD:=by
     refine xG λk=>?_
     by_cases hk:k<xs.length
     ·obtain⟨r,hr,e⟩:=hx k _ (zC hk);rw[zC hk,zG,zG,hr,e];rfl
     ·have lx':xs.length=R.length:=by rw[lx];exact rows.1
      rw[yG (by lia),yG (by simp;lia)]
    subst e2;refine⟨ts,_,Zj ht,Zy _ _,l6,z1,bd,hg,?_⟩;exact Yy (g,g) (by rw[if_pos (by lia)])
  ·refine Nf (n:=s) (S1:=S) (o:=.lst ds) (λk d=>∃r,R[k]?=some r/\d=frD (r.getD cn (0,0))) (λK hK=>by exact hK) hs (by show ds.length<=1000;rw[rows.1];lia) (λk x hx S2 K pr hK=>?_) (λxs lx hx=>?_)
   ·have hx':ds[k]?=some x:=hx
    have hk:k<R.length:=by
     have:=(zF.mp hx').1;rw[rows.1] at this;exact this
    obtain⟨a,rfl,_,ha⟩:=rows.2 k x _ hx' (zC hk);refine Zu (o:=.lst _) (pr _ _ ha) (col k _ (zC hk)) ?_;exact hK _ ⟨_,zC hk,rfl⟩
   ·have e2:xs=(R.map λr=>r.getD cn (0,0)).map frD:=by
     refine xG λk=>?_
     by_cases hk:k<xs.length
     ·obtain⟨r,hr,e⟩:=hx k _ (zC hk);rw[zC hk,zG,zG,hr,e];rfl
     ·have lx':xs.length=R.length:=by rw[lx];exact rows.1
      rw[yG (by lia),yG (by simp;lia)]
    subst e2;refine⟨ts,_,Zj ht,Zy _ _,l6,z1,bd,hg,?_⟩;exact Yy (0,0) (by rw[if_neg (by lia)])⟩))
def zbX  (OP:Df K mg XE VG RH)(Xn:Fk P w K mg base 1 q24 WR Um)(Uh:Fk P w K mg base 3 q17 U3 Q1)(XF:Fk P w K mg base 1 q18 Vo TN)(Kl:Fk P w K mg base 4 XS SI Kv)(U7:Fk P w K mg base 3 q20 UG LF)(Ys:mg "zip"=none)(ZK:mg q87=none)(ZA:mg "len"=none):Fk P w K mg base 5 XE RH LY:=
 OP.mk' (Wa (ZD (k:=4) OP.F To (X0 (λ_ _ _ _=>nI λ_=>nR λ_=>nI λ_=>nR λ_=>nR λ_=>nR λ_=>nN:Ln (LY) 6)) λ_ _ _ _ _ _ hr=>⟨_,(Zg (XO (i:=6) To.nd rfl (Or.inr rfl) (Wh (x:="entry") (N:=[]) (caps:=[]) (ar:=Zo VG) rfl rfl csc rfl (by decide) (dv 3) (λ_ _ _ _ _ _=>Yt) (λ_ _ _ _ _ _=>(ZR (Za (dv 0) (Za (dv 0) Ze)))))) (Zg (Zw (i:=7) To.nd (Zk U7 hr (Za (dv 1) Ze))) (Zg (Zw (i:=8) To.nd (Zk XF hr (Za (Zz (dv 7) (dv 0)) (Za (Zk Uh hr (Za (dv 6) (Za (dv 4) (Za (dv 2) Ze)))) Ze)))) (Zg (Ng (x:="column") (N:=["k","turns","slants","grid"]) (caps:=[0,6,5,2]) (ar:=Zo VG) rfl rfl csc rfl (by decide) (i:=9) To.nd rfl rfl rfl ZK (Za (ZM (ZI ZW) rfl ZA Boot.«len» (Za (dv 1) Ze)) Ze) (λ_ _ _ _ _ _=>Yt) (λ_ _ _ _ _ _=>(Zk Kl hr (Za (dv 1) (Za (dv 0) (Za (dv 2) (Za (dv 3) (Za (dv 4) Ze)))))))) (Zg (DD (x1:="span") (x2:="centre") (N:=[]) (caps:=[]) (ar:=Zo VG) rfl rfl Vi rfl rfl rfl (by decide) (i:=10) To.nd rfl rfl rfl Ys Boot.«zip» (Za (dv 1) (Za (dv 7) Ze)) (λ_ _ _ _ _ _=>(Zk XF hr (Za (dv 0) (Za (dv 1) Ze))))) (Zh (Zt (Zk Xn hr (Za (dv 8) (Za (Zk Uh hr (Za (dv 9) (Za (dv 10) (Za (dv 2) Ze)))) Ze)))))))))),λds S Q ex h=>by
  obtain⟨Q0,ex0,rfl,rfl,h⟩:=h;replace h:=EG h;obtain⟨ki,b,g,e,t,s,rfl,h⟩:=h;obtain⟨k,box,aC,es,R,ds,rfl,hk,he,e4,ze,hb,ht,hs,rows,zr,bl,r4,t4,zb,zt,hg,h⟩:=h;have bdE:Bd 20000 (es.map λx=>(x,x)):=λp hp=>by
   obtain⟨x,hx,rfl⟩:=zJ.mp hp;exact⟨(ze x hx).mono (by decide),(ze x hx).mono (by decide)⟩
  have bdT:Bd 20000 aC:=λp hp=>⟨(zt p hp).1.mono (by decide),(zt p hp).2.mono (by decide)⟩
  have lE:(es.map λx=>(x,x)).length<=60:=by rw[zA];lia
  refine XN (n:=e) (S1:=S) (o:=.lst (es.map D.int)) (λd=>.tup [d,d]) (λK hK=>by exact hK) he (by show (es.map D.int).length<=1000;rw[zA];lia) (λx hx S2 K pr hK=>by exact hK) ?_;have eE:(Zq (.lst (es.map D.int))).map (λd=>D.tup [d,d])=(es.map λx=>(x,x)).map frD:=by
   show (es.map D.int).map _=_;rw[zU];rw[zU];rfl
  rw[eE];have T0:=Zy S (.lst ((es.map λx=>(x,x)).map frD));refine⟨box,Zj hb,by lia,λT m pr lm hm=>?_⟩;have P0:Pre S T:=λx o z=>pr _ _ (Zj z)
  have hT:=pr _ _ T0
  have kc:inR (((box.map ZP).length:Nat):Int) (k:Int):=⟨by lia,by rw[zA];lia⟩
  have ec:gt (box.map ZP) (k:Int)=ZP (gt box k):=by
   unfold gt;rw[zH];simp[hk]
  have ac:=Z1 kc;rw[ec] at ac;refine Zu (o:=.lst ((box.map ZP).map frD)) hm ac ?_;refine⟨_,aC,hT,P0 _ _ ht,lE,bdE,bdT,hg,?_⟩;have lk:∀c:Nat,c<box.length->∀(S2:Sto)(K:DK),Pre T S2->K (frD (YJ g k c (es.map λx=>(x,x)) R)) S2->∃(q kn cn:Nat)(ts:LI)(R':List LI)(ds':List D),((k:Nat):Int)=(kn:Nat)/\((c:Nat):Int)=(cn:Nat)/\S2[S.length]?=some (.lst (ts.map frD))/\S2[s]?=some (.lst ds')/\Z2 S2 0 ds' R'/\(∀r∈R',r.length=q/\Bd 2000 r)/\cn<q/\ts.length<=60/\R'.length<=60/\Bd 20000 ts/\(1<=g/\g<=1000000)/\K (frD (YJ g kn cn ts R')) S2:=λc hc S2 K p2 hK=>⟨box.length,k,c,_,R,ds,rfl,rfl,p2 _ _ hT,p2 _ _ (P0 _ _ hs),rows.pre λx o z=>p2 _ _ (P0 _ _ z),zr,hc,lE,by lia,bdE,hg,hK⟩
  refine Sk (j:=((box.length:Nat):Int)) (S1:=T) (λc=>frD (YJ g k c (es.map λx=>(x,x)) R)) (λK hK=>by
   refine ZZ (P0 _ _ hb) ?_;rw[zA];exact hK) ⟨by lia,by lia⟩ (λc hc S2 K p2 hK=>lk c (by lia) S2 K p2 hK) ?_
  rw[zH];have eL:((List.range box.length).map λc=>frD (YJ g k c (es.map λx=>(x,x)) R))=((List.range box.length).map λc=>YJ g k c (es.map λx=>(x,x)) R).map frD:=by
   rw[zU];rfl
  rw[eL];have T1:=Zy T (.lst (((List.range box.length).map λc=>YJ g k c (es.map λx=>(x,x)) R).map frD));refine UR (n:=b) (n':=m) (S1:=T++[.lst (((List.range box.length).map λc=>YJ g k c (es.map λx=>(x,x)) R).map frD)]) (xs:=box.map frD) (ys:=(box.map ZP).map frD) (λx y=>match x,y with|.tup [.int a,.int b],.tup [.int c,.int d]=>.tup [.int (a-d),.int (b-c)]|_,_=>.non) (λK hK=>by exact hK) (Zj (P0 _ _ hb)) (Zj hm) (by rw[zA];lia) (λj x y hx hy S2 K p2 hK=>?_) ?_
  ·rw[zG] at hx hy;obtain⟨p,hp,rfl⟩:=zQ.mp hx;obtain⟨r,hr,rfl⟩:=zQ.mp hy;exact hK
  have eW:List.zipWith (λx y=>match x,y with|.tup [.int a,.int b],.tup [.int c,.int d]=>.tup [.int (a-d),.int (b-c)]|_,_=>.non) (box.map frD) ((box.map ZP).map frD)=(box.map λp=>YA p (ZP p)).map frD:=by
   rw[zU,List.zipWith_map,zU,List.zipWith_self];rfl
  rw[eW];have zm:Bd 62 (box.map λp=>YA p (ZP p)):=λp hp=>by
   obtain⟨x,hx,rfl⟩:=zJ.mp hp;have z:=zb x hx
   have zmid:=D2 z.1 z.2;exact(FI (B:=60) (C:=61) z ⟨zmid,zmid⟩).imp (λz=>z.mono (by decide)) (λz=>z.mono (by decide))
  have zl:Bd 20000 ((List.range box.length).map λc=>YJ g k c (es.map λx=>(x,x)) R):=λp hp=>by
   obtain⟨c,hc,rfl⟩:=zJ.mp hp;have hc':=List.mem_range.mp hc
   have bR:Bd 2000 (R.map λr=>r.getD c (0,0)):=λp hp=>by
    obtain⟨r,hr,er⟩:=zJ.mp hp;subst er;obtain⟨hl,b⟩:=zr r hr;have ll:c<r.length:=by rw[hl];exact hc'
    have e:r.getD c (0,0)=r[c]:=by simp[ll]
    rw[e];exact b _ (yA ll)
   have bE:Bd 4000 (es.map λx=>(x,x)):=λp hp=>by
    obtain⟨x,hx,rfl⟩:=zJ.mp hp;exact⟨ze x hx,ze x hx⟩
   have z:=Em hg.1 bE bR lE
   have sg:Sz 21 g:=Sz.of 1000000 (by lia);unfold YJ;have w:Sz 21 (if k=c then (g,g) else (0,0)).1/\Sz 21 (if k=c then (g,g) else (0,0)).2:=by
    split
    ·exact⟨sg,sg⟩
    ·exact⟨yF (by decide),yF (by decide)⟩
   exact(FI w z).imp (λz=>z.mono (by decide)) (λz=>z.mono (by decide))
  refine⟨_,_,Zj T1,Zy _ _,by rw[zA,xU];lia,zl,λp hp=>⟨(zm p hp).1.mono (by decide),(zm p hp).2.mono (by decide)⟩,hg,?_⟩;exact⟨λx o z=>Zj (Zj (P0 _ _ z)),Vm,h⟩⟩))
def AE  (QZ:Df K mg XI Su Sn)(Jt:Fk P w K mg base 5 XE RH LY)(SQ:mg "enumerate"=none):Fk P w K mg base 6 XI Sn LV:=
 QZ.mk' (ZD (k:=5) QZ.F EW (λ_ _ _ _=>nR λ_=>nI λ_=>nR λ_=>nR λ_=>nR λ_=>nN:Ln (LV) 5) λ_ _ _ _ _ _ hr=>⟨_,(Zh (Zt (zc9 (x1:="k") (x2:="entries") (N:=["box","grid","thin","slants"]) (caps:=[0,1,3,4]) (ar:=Zo Su) rfl rfl Vi rfl rfl rfl (by decide) rfl SQ Boot.«enumerate» (Za (dv 2) Ze) (λ_ _ _ _ _ _=>(Zk Jt hr (Za (dv 0) (Za (dv 2) (Za (dv 3) (Za (dv 1) (Za (dv 4) (Za (dv 5) Ze))))))))))),λds S Q ex h=>by
  replace h:=zb6 h;obtain⟨b,g,u,t,s,rfl,h⟩:=h;obtain⟨box,aC,M,ms,R,ds,hu,mi,lM,zM,hb,ht,hs,rows,zr,bl,r4,t4,zb,zt,hg,h⟩:=h;refine zcf (n:=u) (S1:=S) (xs:=ms) (λk d=>frD (Wu g box aC R k (M.getD k []))) (λK hK=>by exact hK) hu (by rw[mi.1];lia) (λk x hx S2 K pr hK=>?_) ?_
  ·have hk:k<M.length:=by
    have:=(zF.mp hx).1;rw[mi.1] at this;exact this
   obtain⟨a,rfl,ha⟩:=mi.2 k x _ hx (zC hk);have eM:M.getD k []=M[k]:=by simp[hk]
   rw[eM] at hK;have z:=zM _ (yA hk);exact⟨k,box,aC,M[k],R,ds,rfl,by lia,pr _ _ ha,z.1,z.2,pr _ _ hb,pr _ _ ht,pr _ _ hs,rows.pre pr,zr,bl,r4,t4,zb,zt,hg,hK⟩
  ·have e:(ms.mapIdx λk d=>frD (Wu g box aC R k (M.getD k [])))=(M.mapIdx λk es=>Wu g box aC R k es).map frD:=by
    refine xG λk=>?_
    rw[List.getElem?_mapIdx,zG,List.getElem?_mapIdx];by_cases hk:k<M.length
    ·rw[zC (show k<ms.length by rw[mi.1];exact hk),zC hk];simp[hk]
    ·rw[yG (by rw[mi.1];lia),yG (show M.length<=k by lia)];rfl
   rw[e];exact h⟩)
def Dh  (Ph:Df K mg XG Qp TV):Fk P w K mg base 1 XG TV JS:=
 Ph.mk' (ZD (k:=0) Ph.F AG (λ_ _ _ _=>nR λ_=>nR λ_=>nN:Ln (JS) 2) λ_ _ _ _ _ _ hr=>⟨_,(Zh (Zt (Wh (x:="place") (N:=["each"]) (caps:=[0]) (ar:=Zo Qp) rfl rfl csc rfl (by decide) (dv 1) (λ_ _ _ _ _ _=>Yt) (λ_ _ _ _ _ _=>(Zz (dv 1) (dv 0)))))),λds S Q ex h=>by
  replace h:=eRR h;obtain⟨e,p,rfl,h⟩:=h;obtain⟨xs,is,he,hp,l9,hi,h⟩:=h;refine XN (n:=p) (S1:=S) (o:=.lst (is.map wtD)) (λd=>match d with|.int i=>xs.getD i.toNat .non|_=>.non) (λK hK=>by exact hK) hp (by show (is.map wtD).length<=1000;rw[zA];lia) (λx hx S2 K pr hK=>?_) ?_
  ·have hx':x∈is.map wtD:=hx;obtain⟨i,him,rfl⟩:=zJ.mp hx';have hl:=hi i him;refine Zu (o:=.lst xs) (pr _ _ he) (XU (j:=i) (v:=xs.getD i .non) (by show xs[i]?=_;rw[zC hl];simp[hl])) ?_;exact hK
  ·have e2:(Zq (.lst (is.map wtD))).map (λd=>match d with|.int i=>xs.getD i.toNat .non|_=>.non)=is.map λi=>xs.getD i .non:=by
    show (is.map wtD).map _=_;rw[zU];rfl
   rw[e2];exact h⟩)
def DC  (Nu:Df K mg "deep" LQ T8):Fk P w K mg base 1 "deep" T8 JH:=
 Nu.mk' (ZD (k:=0) Nu.F zap (λ_ _ _ _=>nP λ_ _=>nP λ_ _=>nN:Ln (JH) 2) λ_ _ _ _ _ _ hr=>⟨_,(Zh (Zt (W3 (YK X8 (Zi (dv 1) Zd) (Zi (dv 0) Zd) (ZE _)) (WX (YK X8 (Zi (dv 0) Zd) (Zi (dv 1) Zd) (ZE _)))))),λds S Q ex h=>by
  replace h:=ePP h;obtain⟨_,_,_,_,rfl,h⟩:=h;refine ifD (λe=>?_) (λe=>?_)
  ·rw[decide_eq_true e,Bool.true_and] at h;exact h
  ·rw[decide_eq_false e,xM] at h;exact h⟩)
def Dq  (Oo:Df K mg q89 RZ Qw)(J5:Fk P w K mg base 1 "deep" T8 JH)(YM:mg "all"=none)(Ys:mg "zip"=none):Fk P w K mg base 2 q89 Qw KP:=
 Oo.mk' (Wa (ZD (k:=1) Oo.F BK (X0 (λ_ _ _ _=>nR λ_=>nR λ_=>nN:Ln (KP) 2)) λ_ _ _ _ _ _ hr=>⟨_,(Zh (Zt (ZM (ZI (UX rfl)) rfl YM Boot.«all» (Za (TK (x1:="new") (x2:="old") (N:=[]) (caps:=[]) (ar:=Zo RZ) rfl rfl Vi rfl rfl rfl (by decide) rfl Ys Boot.«zip» (Za (dv 0) (Za (dv 1) Ze)) (λ_ _ _ _ _ _=>(Zk J5 hr (Za (dv 0) (Za (dv 1) Ze))))) Ze)))),λds S Q ex h=>by
  obtain⟨Q0,ex0,rfl,rfl,h⟩:=h;replace h:=eRR h;obtain⟨m,n,rfl,h⟩:=h;obtain⟨us,vs,h1,h2,hl,h⟩:=h;refine UR (n:=m) (n':=n) (S1:=S) (xs:=us.map frD) (ys:=vs.map frD) (λx y=>match x,y with|.tup [.int a,.int b],.tup [.int c,.int d]=>.bl (decide (c<a)&&decide (b<d))|_,_=>.non) (λK hK=>by exact hK) h1 h2 (by rw[zA];exact hl) (λk x y hx hy S2 K pr hK=>?_) ?_
  ·obtain⟨p,_,rfl⟩:=zJ.mp (zL hx);obtain⟨q,_,rfl⟩:=zJ.mp (zL hy);exact hK
  ·refine V4 (n:=S.length) (o:=.lst _) (bs:=List.zipWith UK us vs) (Zy _ _) (zch us vs) ?_;exact⟨Pre.refl.push,.bl _,h⟩⟩))
def zbU  (LN:Df K mg q60 QY Ru)(Kd:Fk P w K mg base 2 q89 Qw KP)(Ve:Fk P w K mg base 2 q45 Ub SJ)(IE:Fk P w K mg base 6 XI Sn LV)(OT:Fk P w K mg base 1 XG TV JS)(LW:Fk P w K mg base 2 q77 R5 Jb)(JY:Fk P w K mg base 1 q21 QR Ik)(ZA:mg "len"=none):Fk P w K mg base 7 q60 Ru Ip:=
 LN.mk' (ZD (k:=6) LN.F Rg (λ_ _ _ _=>nR λ_=>nR λ_=>nI λ_=>nD λ_=>nN:Ln (Ip) 4) λ_ _ _ _ _ _ hr=>⟨_,(Zg (Zw (i:=4) Rg.nd (Zi (dv 3) Zd)) (Zg (Zw (i:=5) Rg.nd (Zi (dv 3) Zd)) (Zg (Zw (i:=6) Rg.nd (Zk JY hr (Za (dv 0) Ze))) (Zg (ZN (PDW.pt (Vc (ZL (UB hr) (ZM (ZI ZW) rfl ZA Boot.«len» (Za (dv 6) Ze)) (ZM (ZI ZW) rfl ZA Boot.«len» (Za (dv 1) Ze)) (ZE _)) (Vc (Wl (Xq (Zk LW hr (Za (dv 4) (Za (ZM (ZI ZW) rfl ZA Boot.«len» (Za (dv 1) Ze)) Ze))))) (VO (ZL (UB hr) (ZM (ZI ZW) rfl ZA Boot.«len» (Za (dv 5) Ze)) (ZM (ZI ZW) rfl ZA Boot.«len» (Za (dv 1) Ze)) (ZE _)))))) (Zh (Zt Y8)) ZO) (Zg (Zw (i:=7) Rg.nd (Zk IE hr (Za (dv 1) (Za (dv 2) (Za (dv 4) (Za (Zk OT hr (Za (Zi (dv 3) Zd) (Za (dv 6) Ze))) (Za (Zk OT hr (Za (Zi (dv 3) Zd) (Za (dv 6) Ze))) Ze))))))) (Zh (Zt (W3 (Zk Ve hr (Za (dv 7) (Za (dv 5) Ze))) (WX (Zk Kd hr (Za (dv 5) (Za (dv 1) Ze)))))))))))),λds S Q ex h=>by
  replace h:=eRRID h;obtain⟨rw,bx,g,d,rfl,h⟩:=h;rcases h with ⟨rows,bs,aE,vs,aC,M,R,hr,r9,hb,one,lM,b4,bad,h⟩|h
  ·obtain⟨a,b,c,e,f,ms,ds,rfl,ha,mi,hn,hv,ht,hf,rp⟩:=one.ex;refine⟨rows,hr,r9,?_⟩;have P0:Pre S (S++[Ob.lst ((eqs rows).map wtD)]):=Pre.refl.push
   have hp:=Zy S (.lst ((eqs rows).map wtD));generalize S++[Ob.lst ((eqs rows).map wtD)]=S1 at P0 hp ⊢;refine ZZ hp ?_;refine ZZ (P0 _ _ hb) ?_;rw[zA,zA];refine ifN (λ_=>h _ P0) (λz=>?_);refine ZZ (P0 _ _ hb) ?_;rw[zA];refine⟨M,ms,bs.length,P0 _ _ ha,mi.pre P0,rfl,lM,by lia,?_⟩;rw[zcM (n:=bs.length) (by
    rcases bad with z2|z2
    ·exact absurd (show (eqs rows).length=bs.length by lia) z2
    ·exact z2)]
   exact h _ P0
  obtain⟨rows,bs,aE,vs,aC,M,R,hr,r9,hb,one,hi,le,lM,zM,ln,zR,bl,zb,zt,hg,h⟩:=h;obtain⟨a,b,c,e,f,ms,ds,rfl,ha,mi,hn,hv,ht,hf,rp⟩:=one.ex;refine⟨rows,hr,r9,?_⟩;have P0:Pre S (S++[Ob.lst ((eqs rows).map wtD)]):=Pre.refl.push
  have hp:=Zy S (.lst ((eqs rows).map wtD))
  have hi2:∀i∈eqs rows,i<R.length/\i<aC.length:=λi him=>by
   unfold eqs at him;obtain⟨r,hr,e⟩:=List.mem_filterMap.mp him;split at e
   ·cases e;exact hi r hr
   ·cases e
  generalize S++[Ob.lst ((eqs rows).map wtD)]=S1 at P0 hp ⊢;refine ZZ hp ?_;refine ZZ (P0 _ _ hb) ?_;rw[zA,zA];refine ifN (λz=>absurd (by rw[le]) z) (λ_=>?_);refine ZZ (P0 _ _ hb) ?_;rw[zA];refine⟨M,ms,bs.length,P0 _ _ ha,mi.pre P0,rfl,lM,by lia,?_⟩;rw[FD.mpr λr hr=>(zM r hr).1];refine YR ?_;refine ZZ (P0 _ _ hn) ?_;refine ZZ (P0 _ _ hb) ?_;rw[zA,zA];refine ifN (λz=>absurd (by rw[ln]) z) (λ_=>?_);refine⟨aC.map frD,eqs rows,P0 _ _ ht,hp,by lia,λi him=>by rw[zA];exact(hi2 i him).2,?_⟩;refine⟨ds,eqs rows,Zj (P0 _ _ hf),Zj hp,by lia,λi him=>by rw[rp.1];exact(hi2 i him).1,?_⟩;rw[zcT λi him=>(hi2 i him).2];have P1:Pre S (S1++[Ob.lst (((eqs rows).map λ(i:Nat)=>gt aC (i:Int)).map frD)]++[Ob.lst ((eqs rows).map λi=>ds.getD i .non)]):=YU (YU P0);refine⟨bs,(eqs rows).map λ(i:Nat)=>gt aC (i:Int),M,ms,(eqs rows).map λi=>R.getD i [],(eqs rows).map λi=>ds.getD i .non,P1 _ _ ha,mi.pre P1,lM,λr hr=>⟨by rw[(zM r hr).1];exact bl.2,(zM r hr).2⟩,P1 _ _ hb,Zj (Zy _ _),Zy _ _,BR (rp.pre P1) (λi him=>(hi2 i him).1),λr hr=>?_,bl,by rw[zA];lia,by rw[zA];lia,zb,λp hp=>?_,hg,?_⟩
  ·obtain⟨i,him,rfl⟩:=zJ.mp hr;have l:=(hi2 i him).1
   have e:R.getD i []=R[i]:=by rw[zK,zC l];rfl
   rw[e];exact zR _ (yA ..)
  ·obtain⟨i,him,rfl⟩:=zJ.mp hp;rw[Y0 (zC (hi2 i him).2)];exact zt _ (yA ..)
  have P2:=YU (o:=Ob.lst ((YC g bs aC R (eqs rows) M).map frD)) P1;refine⟨YC g bs aC R (eqs rows) M,aE,Zy _ _,P2 _ _ hn,by unfold YC;rw[List.length_mapIdx];lia,?_⟩;have bC:=h _ P2;cases eI:YE (YC g bs aC R (eqs rows) M) aE
  ·rw[eI] at bC;exact bC
  ·rw[eI] at bC;refine⟨aE,bs,P2 _ _ hn,P2 _ _ hb,by lia,?_⟩;exact bC⟩)
def zca  (Ow:Df K mg q78 O6 SK)(KI:Fk P w K mg base 7 q60 Ru Ip)(KZ:Fk P w K mg base 5 q41 Sv Ky)(Le:Fk P w K mg base 5 q35 T7 Jm)(U7:Fk P w K mg base 3 q20 UG LF)(Jn:Fk P w K mg base 2 q22 Ss KH):Fk P w K mg base 8 q78 SK KC:=
 Ow.mk' (ZD (k:=7) Ow.F G2 (λ_ _ _ _=>nR λ_=>nR λ_=>nR λ_=>nI λ_=>nD λ_=>nN:Ln (KC) 5) λ_ _ _ _ _ _ hr=>⟨_,(Zg (Zw (i:=5) G2.nd (Zi (dv 4) Zd)) (Zg (ZN (PDW.pt (Vc (Wl (Xq (Zk Le hr (Za (dv 0) (Za (dv 2) (Za (dv 3) (Za (dv 5) Ze))))))) (VO (Wl (Xq (Zk Jn hr (Za (dv 1) (Za (dv 5) Ze)))))))) (Zh (Zt Y8)) ZO) (Zg (ZN (Wl (Xq (Zk Le hr (Za (dv 0) (Za (Zk U7 hr (Za (dv 2) Ze)) (Za (dv 3) (Za (Zi (dv 4) Zd) Ze))))))) (Zh (Zt Y8)) ZO) (Zh (Zt (W3 (Zk KZ hr (Za (dv 0) (Za (dv 2) (Za (dv 3) (Za (dv 5) (Za (Zi (dv 4) Zd) Ze)))))) (WX (Zk KI hr (Za (dv 1) (Za (dv 2) (Za (dv 3) (Za (dv 4) Ze)))))))))))),λds S Q ex h=>by
  replace h:=zb1 h;obtain⟨nd,rw,bx,g,d,rfl,h⟩:=h;obtain⟨ans,ok,h⟩:=h;obtain⟨ns,ws,rows,bs,aE,vs,aC,M,R,hnd,hr,hb,one,net,l9,r9,⟨lv,lt,lR⟩,sv,st,iv,it,hi,lM,ln,bl,zb,hg,alt⟩:=ok;obtain⟨a,b,c,e,f,ms,ds,rfl,ha,mi,hn,hv,ht,hf,rp⟩:=id one.ex;refine⟨ns,ws,bs,vs,hnd,hb,hv,net,l9,sv.mono (by decide),hg,lv,?_⟩;rw[iv];refine YR ?_;refine⟨rows,vs,hr,hv,r9,λr hr=>by rw[lv];exact hi r hr,?_⟩;cases eL:Xw rows vs
  ·have ef:ans=false:=by
    rcases alt with z|⟨_,_,z|⟨_,_,z⟩⟩
    ·exact z.2
    ·exact z.2
    ·rw[z,eL];rfl
   rw[ef] at h;exact h _ (λ_ _ e=>e)
  rw[eL] at alt;refine YR ?_;refine⟨bs,hb,by lia,λT m pr lm hm=>?_⟩;refine⟨ns,ws,bs.map ZP,aC,pr _ _ hnd,hm,pr _ _ ht,by rw[zA];exact net,l9,st.mono (by decide),hg,lt,?_⟩;rw[it];refine YR ?_;rcases alt with ⟨badR,rfl⟩|⟨slw,eS,alt⟩
  ·exact⟨ns,ws,bs,vs,R,ds,pr _ _ hnd,pr _ _ hb,pr _ _ hv,pr _ _ hf,rp.pre pr,net,lv,by lia,l9,by lia,sv,hg,.inl ⟨.inr badR,h _ pr⟩⟩
  refine⟨ns,ws,bs,vs,R,ds,pr _ _ hnd,pr _ _ hb,pr _ _ hv,pr _ _ hf,rp.pre pr,net,lv,by lia,l9,by lia,sv,hg,.inr ⟨lR,slw,?_⟩⟩;rw[eS];rcases alt with ⟨bad,rfl⟩|⟨le,zM,rfl⟩
  ·exact .inl ⟨rows,bs,aE,vs,aC,M,R,pr _ _ hr,r9,pr _ _ hb,one.pre pr,lM,by lia,bad,λU pU=>h U λx o e=>pU _ _ (pr _ _ e)⟩
  have w16:∀k:Nat,k<ns.length->ws.getD k 0<=16:=λk hk=>by
   have z:=(net.w1 (i:=(k:Int)) ⟨by lia,by lia⟩).2
   rwa [zH] at z
  refine .inr ⟨rows,bs,aE,vs,aC,M,R,pr _ _ hr,r9,pr _ _ hb,one.pre pr,λr hr=>⟨by rw[lR];exact hi r hr,by rw[lt];exact hi r hr⟩,le,lM,zM,ln,λr hr=>?_,bl,zb,λp hp=>⟨(st p hp).2.1.mono (by decide),(st p hp).2.2.mono (by decide)⟩,hg,λU pU=>?_⟩
  ·obtain⟨k,hk⟩:=xW.mp hr;have lk:=(zF.mp hk).1;obtain⟨z1,z2⟩:=slw k r hk;have w:=w16 k (by lia);exact⟨z1,λp hp=>⟨(z2 p hp).2.1.mono (by lia),(z2 p hp).2.2.mono (by lia)⟩⟩
  ·exact h U λx o e=>pU _ _ (pr _ _ e)⟩)
def AD  (Nm:Df K mg q51 MX QU)(KG:Fk P w K mg base 8 q78 SK KC):Fk P w K mg base 9 q51 QU L9:=
 Nm.mk' (ZD (k:=8) Nm.F Hh (λ_ _ _ _=>nR λ_=>nR λ_=>nI λ_=>nR λ_=>nI λ_=>nN:Ln (L9) 5) λ_ _ _ _ _ _ hr=>⟨_,(Zg (Zw (i:=5) Hh.nd (Zi (Zz (dv 3) (dv 4)) Zd)) (Zg (Zw (i:=6) Hh.nd (Zi (Zz (dv 3) (dv 4)) Zd)) (Zg (ZN (ZL (ZT hr) (Zi (dv 6) Zd) Z3 (ZE _)) (Zh II) ZO) (Zg (ZN (ZL (ZT hr) (Zi (dv 6) Zd) Z3 (ZE _)) (Zh II) ZO) (Zg (ZN (ZL (ZT hr) (Zi (dv 6) Zd) Z3 (ZE _)) (Zh II) ZO) (Zg (ZN (ZL (ZT hr) (Zi (dv 6) Zd) Z3 (ZE _)) (Zh (Zt (Zk KG hr (Za (dv 0) (Za (dv 1) (Za (dv 5) (Za (dv 2) (Za (dv 6) Ze)))))))) ZO) (Zh (Zt Y8)))))))),λds S Q ex h=>by
  replace h:=Gp h;obtain⟨nd,rw,g,b,n,rfl,h⟩:=h;obtain⟨m,d,ans,rfl,hd,ok,h⟩:=h;refine Zu (i:=0) (o:=.lst [.tup [.ref m,d]]) hd (d:=.tup [.ref m,d]) rfl ?_;refine Zu (i:=0) (o:=.lst [.tup [.ref m,d]]) hd (d:=.tup [.ref m,d]) rfl ?_;obtain⟨ns,ws,rows,bs,aE,vs,aC,M,R,hnd,hr,hb,one,_⟩:=id ok;obtain⟨a,b,c,e,f,ms,ds,rfl,_⟩:=id one.ex;exact⟨ans,ok,h⟩⟩)
def BA  (Og:Df K mg q61 QS Qd)(KL:Fk P w K mg base 9 q51 QU L9)(KW:Fk P w K mg base 2 q36 QJ L1)(YM:mg "all"=none)(ZK:mg q87=none)(ZA:mg "len"=none):Fk P w K mg base 10 q61 Qd J9:=
 Og.mk' (ZD (k:=9) Og.F zda (λ_ _ _ _=>nR λ_=>nR λ_=>nR λ_=>nI λ_=>nR λ_=>nN:Ln (J9) 5) λ_ _ _ _ _ _ hr=>⟨_,(Zg (ZN (Wl (Xq (Zk KW hr (Za (dv 2) (Za (dv 4) Ze))))) (Zh (Zt Y8)) ZO) (Zh (Zt (ZM (ZI (UX rfl)) rfl YM Boot.«all» (Za (VZ (x:="number") (N:=["nodes","rows","grid","book"]) (caps:=[0,1,3,4]) (ar:=Zo QS) rfl rfl csc rfl (by decide) rfl ZK (Za (ZM (ZI ZW) rfl ZA Boot.«len» (Za (dv 4) Ze)) Ze) (λ_ _ _ _ _ _=>Yt) (λ_ _ _ _ _ _=>(Zk KL hr (Za (dv 1) (Za (dv 2) (Za (dv 3) (Za (dv 4) (Za (dv 0) Ze)))))))) Ze))))),λds S Q ex h=>by
  replace h:=zax h;obtain⟨nd,rw,bx,g,b,rfl,h⟩:=h;obtain⟨bs,m,d,ans,hb,hm,hd,ok,h⟩:=h;obtain⟨ns,ws,rows,bs',aE,vs,aC,M,R,hnd,hr,hb',one,_⟩:=id ok;obtain⟨a,b',c,e,f,ms,ds,rfl,_⟩:=id one.ex;refine⟨bs,m,a,b',c,e,f,hb,hd,hm,λT pT=>?_⟩;refine Gy (j:=1) (S1:=T) (λk ys S2=>Pre T S2/\(k=0/\ys=[]\/k=1/\ys=[.bl ans])/\S2[T.length]?=some (.lst ys)) (λK hK=>?_) (by decide) (λk ys S2 w=>⟨w.2.2,by rcases w.2.1 with ⟨rfl,rfl⟩|⟨rfl,rfl⟩<;>rfl⟩) ⟨Ym _,.inl ⟨rfl,rfl⟩,Zy _ _⟩ (λk ys S2 K hk w hK=>?_) (λys S2 w=>?_)
  ·refine ZZ (pT _ _ hd) ?_;exact hK
  ·obtain⟨p2,w2,h3⟩:=w;have k0:k=0:=by
    have:k<1:=hk;lia
   subst k0;rcases w2 with ⟨_,rfl⟩|⟨e,_⟩
   ·have pp:Pre S S2:=λx o e=>p2 x o (pT x o e)
    refine⟨m,_,ans,rfl,pp _ _ hd,ok.pre pp,λU pU=>?_⟩;exact hK _ U (pU _ _ h3) ⟨λx o e=>by
     have:=Z4 e;exact Yb (pU x o (p2 x o e)) (by lia),.inr ⟨rfl,rfl⟩,Yu (pU _ _ h3)⟩
   ·cases e
  ·obtain⟨p2,w2,h3⟩:=w;rcases w2 with ⟨e,_⟩|⟨_,rfl⟩
   ·cases e
   refine V4 (n:=T.length) (o:=.lst [.bl ans]) h3 (bs:=[ans]) rfl ?_;have z:=h S2 (λx o e=>p2 x o (pT x o e));rw[show [ans].all id=ans by simp];exact z⟩)
def zcN  (Lm:Df K mg q81 Lq T9)(ZK:mg q87=none)(ZA:mg "len"=none):Fk P w K mg base 1 q81 T9 JZ:=
 Lm.mk' (ZD (k:=0) Lm.F F7 (λ_ _ _ _=>nR λ_=>nR λ_=>nN:Ln (JZ) 2) λ_ _ _ _ _ _ hr=>⟨_,(Zg (Y3 (i:=2) PassesOwn.never rfl F7.nd rfl (Or.inl rfl) rfl ZK (Za (ZM (ZI ZW) rfl ZA Boot.«len» (Za (dv 1) Ze)) Ze) (Zh (ZN (PDW.pt (Vc (Wl (ZL X8 (Zi (Zz (dv 1) (dv 2)) Zd) (Zi (Zz (dv 0) (dv 2)) Zd) (ZE _))) (VO (Wl (ZL X8 (Zi (Zz (dv 0) (dv 2)) Zd) (Zi (Zz (dv 1) (dv 2)) Zd) (ZE _)))))) (Zh (Zt Y8)) ZO))) (Zh (Zt Y8))),λds S Q ex h=>by
  replace h:=eRR h;obtain⟨f,b,rfl,h⟩:=h;obtain⟨us,vs,hu,hv,l,l9,h⟩:=h;refine ZZ hv ?_;rw[zA];refine⟨⟨by lia,by lia⟩,λk dl' S'=>S=S'/\k<=vs.length/\(∀i:Nat,i<k->(gt vs (i:Int)).1<(gt us (i:Int)).1/\(gt us (i:Int)).2<(gt vs (i:Int)).2)/\∃u:Option D,dl'=[some (.ref f),some (.ref b),u],⟨rfl,zO _,λi hi=>by lia,_,rfl⟩,?_⟩;rintro k dl' S' ⟨rfl,hk,hd,u,rfl⟩;rw[zH];have no:∀i:Nat,i<vs.length->¬((gt vs (i:Int)).1<(gt us (i:Int)).1/\(gt us (i:Int)).2<(gt vs (i:Int)).2)->XR us vs=false:=λi hi hn=>by
   cases e:XR us vs
   ·rfl
   ·have z:=G4.mp e i us[i] vs[i] (zC (by lia)) (zC hi);rw[Y0 (zC (show i<us.length by lia)),Y0 (zC hi)] at hn;exact absurd z hn
  refine YD (λc=>?_) (λc=>?_)
  ·have kv:inR ((vs.length:Nat):Int) (k:Int):=⟨by lia,by lia⟩
   have ku:inR ((us.length:Nat):Int) (k:Int):=⟨by lia,by lia⟩;refine Zu (o:=.lst (vs.map frD)) hv (Z1 kv) ?_;refine Zu (o:=.lst (us.map frD)) hu (Z1 ku) ?_;refine ifN (λw1=>?_) (λw1=>?_)
   ·rw[no k c (λz=>w1 z.1)] at h;exact h
   refine Zu (o:=.lst (us.map frD)) hu (Z1 ku) ?_;refine Zu (o:=.lst (vs.map frD)) hv (Z1 kv) ?_;refine ifN (λw2=>?_) (λw2=>?_)
   ·rw[no k c (λz=>w2 z.2)] at h;exact h
   refine⟨rfl,c,λi hi=>?_,_,rfl⟩;by_cases e:i=k
   ·subst e;exact⟨w1,w2⟩
   ·exact hd i (by lia)
  ·have e:XR us vs=true:=G4.mpr λi p q hp hq=>by
    have hi:=(zF.mp hq).1
    have z:=hd i (by lia);rw[Y0 hp,Y0 hq] at z;exact z
   rw[e] at h;exact h⟩)
def DR  (PX:Df K mg q66 Q2 Rb)(K7:Fk P w K mg base 1 q81 T9 JZ)(ZA:mg "len"=none)(ZK:mg q87=none):Fk P w K mg base 2 q66 Rb Js:=
 PX.mk' (ZD (k:=1) PX.F QB (λ_ _ _ _=>nR λ_=>nR λ_=>nR λ_=>nR λ_=>nR λ_=>nN:Ln (Js) 5) λ_ _ _ _ _ _ hr=>⟨_,(Zg (Zw (i:=5) QB.nd Zd) (Zg (K5 (i:=6) PassesOwn.never rfl QB.nd rfl (Or.inl rfl) (dv 0) (Zh (ZN (ZL (ZT hr) (Zi (dv 6) Zd) Z3 (ZE _)) (Zh (Zw (i:=5) QB.nd (Zf ZQ (dv 5) Zd))) (Zh (ZN (ZL X8 (Zi (Zz (dv 1) (Zi (dv 6) Zd)) Zd) Zd (ZE _)) (Zh (Zt Y8)) ZO))))) (Zg (Y3 (i:=7) PassesOwn.never rfl QB.nd rfl (Or.inl rfl) rfl ZK (Za (ZM (ZI ZW) rfl ZA Boot.«len» (Za (dv 4) Ze)) Ze) (Zh (ZN (PDW.pt (Vc (Wl (ZL TL (Zi (Zz (dv 3) (dv 7)) Zd) (Zi (Zz (dv 2) (dv 7)) Zd) (ZE _))) (VO (Wl (ZL TL (Zi (Zz (dv 2) (dv 7)) Zd) (Zi (Zz (dv 3) (dv 7)) Zd) (ZE _)))))) (Zh (Zt Y8)) ZO))) (Zh (Zt (W3 (YK (ZT hr) (dv 5) (ZM (ZI ZW) rfl ZA Boot.«len» (Za (dv 4) Ze)) (ZE _)) (WX (Zk K7 hr (Za (dv 3) (Za (dv 4) Ze)))))))))),λds S Q ex h=>by
  replace h:=D3 h;obtain⟨rw,v,du,ne,bx,rfl,h⟩:=h;obtain⟨rows,vs,us,aE,bs,hr,hv,hu,hn,hb,l9,hi,lu,ln,b9,h⟩:=h;refine IT (i:=6) (n:=rw) (o:=.lst (rows.map rwD)) (S:=S) (λk dl' S'=>S=S'/\Xw (rows.take k) vs=true/\∃u6 u7:Option D,dl'=[some (.ref rw),some (.ref v),some (.ref du),some (.ref ne),some (.ref bx),some (.int ((eqs (rows.take k)).length:Int)),u6,u7]) ⟨rfl,rfl,_,_,rfl⟩ (λk dl' S' ⟨e,_⟩=>by rw[<- e];exact hr) ?_ ?_
  ·rintro k x dl' S' nx ct ex' ⟨rfl,lt,u6,u7,rfl⟩ hn2;have hx':(rows.map rwD)[k]?=some x:=ex';rw[zG] at hx';obtain⟨⟨z,j⟩,hk,rfl⟩:=zQ.mp hx';have tk:rows.take (k+1)=rows.take k++[(z,j)]:=by rw[xF,hk];rfl
   have hj:=hi _ (zL hk);cases z with
   | true=>
    refine hn2 _ _ ⟨rfl,?_,some (rwD (true,j)),u7,?_⟩
    ·rw[tk];unfold Xw at *
     rw[List.all_append,lt];rfl
    ·rw[tk,Fy];simp[eqs]
   | false=>
    refine Zu (o:=.lst (vs.map frD)) (i:=(j:Int)) hv (Z1 ⟨by lia,by lia⟩) ?_;refine ifD (λe=>?_) (λe=>?_)
    ·have ef:Xw rows vs=false:=by
      cases q:Xw rows vs with
      | false=>rfl
      | true=>
       unfold Xw at q;have z:=yZ.mp q _ (zL hk)
       have z2:=of_decide_eq_true (show decide (0<=(gt vs (j:Int)).1)=true from z);lia
     rw[ef] at h;exact h
    ·refine hn2 _ _ ⟨rfl,?_,some (rwD (false,j)),u7,?_⟩
     ·rw[tk];unfold Xw at *
      rw[List.all_append,lt];show (true&&(decide (0<=(gt vs (j:Int)).1)&&true))=true;rw[decide_eq_true (by lia)];rfl
     ·rw[tk,Fy];simp[eqs]
  ·rintro dl' S' ⟨rfl,lt,u6,u7,rfl⟩;have e9:(Zq (Ob.lst (rows.map rwD))).length=rows.length:=by show (rows.map rwD).length=_;rw[zA]
   rw[e9,xS] at lt ⊢;rw[lt] at h;refine ZZ hb ?_;rw[zA];have no:∀i:Nat,i<bs.length->¬((gt aE (i:Int)).1<=(gt us (i:Int)).1/\(gt us (i:Int)).2<=(gt aE (i:Int)).2)->YE us aE=false:=λi hi hn=>by
    cases e:YE us aE
    ·rfl
    ·have z:=NF.mp e i us[i] aE[i] (zC (by lia)) (zC (by lia));rw[Y0 (zC (show i<us.length by lia)),Y0 (zC (show i<aE.length by lia))] at hn;exact absurd z hn
   refine⟨⟨by lia,by lia⟩,λk dl' S'=>S=S'/\k<=bs.length/\(∀i:Nat,i<k->(gt aE (i:Int)).1<=(gt us (i:Int)).1/\(gt us (i:Int)).2<=(gt aE (i:Int)).2)/\∃u6 u7:Option D,dl'=[some (.ref rw),some (.ref v),some (.ref du),some (.ref ne),some (.ref bx),some (.int ((eqs rows).length:Int)),u6,u7],⟨rfl,zO _,λi hi=>by lia,_,_,rfl⟩,?_⟩;rintro k dl' S' ⟨rfl,hk,hd,u6,u7,rfl⟩;rw[zH];refine YD (λc=>?_) (λc=>?_)
   ·have ku:inR ((us.length:Nat):Int) (k:Int):=⟨by lia,by lia⟩
    have kn:inR ((aE.length:Nat):Int) (k:Int):=⟨by lia,by lia⟩;refine Zu (o:=.lst (aE.map frD)) hn (Z1 kn) ?_;refine Zu (o:=.lst (us.map frD)) hu (Z1 ku) ?_;refine ifN (λw1=>?_) (λw1=>?_)
    ·rw[no k c (λz=>w1 z.1)] at h;exact h
    refine Zu (o:=.lst (us.map frD)) hu (Z1 ku) ?_;refine Zu (o:=.lst (aE.map frD)) hn (Z1 kn) ?_;refine ifN (λw2=>?_) (λw2=>?_)
    ·rw[no k c (λz=>w2 z.2)] at h;exact h
    refine⟨rfl,c,λi hi=>?_,_,_,rfl⟩;by_cases e:i=k
    ·rw[e];exact⟨w1,w2⟩
    ·exact hd i (by lia)
   ·have ea:YE us aE=true:=by
     rw[NF];intro i p r hp hr;have lp:=(zF.mp hp).1
     have z:=hd i (by lia);rw[Y0 hp,Y0 hr] at z;exact z
    rw[ea] at h;refine ZZ hb ?_;rw[zA];refine ifD (λe=>?_) (λe=>?_)
    ·rw[decide_eq_true (show (eqs rows).length=bs.length by lia)] at h;exact⟨aE,bs,hn,hb,ln,b9,h⟩
    ·rw[decide_eq_false (show ¬ (eqs rows).length=bs.length by lia)] at h;exact h⟩)
def Cv  (PQ:Df K mg "law" Wq Mw)(Jx:Fk P w K mg base 2 q66 Rb Js)(Kw:Fk P w K mg base 10 q61 Qd J9)(IW:Fk P w K mg base 1 q16 QC Im)(Yd:Fk P w K mg base 2 q29 Wc W5)(Ja:Fk P w K mg base 3 q84 Rq JE)(Kt:Fk P w K mg base 2 q82 Sr Hr)(KJ:Fk P w K mg base 3 q83 RG Kz)(L6:Fk P w K mg base 5 q55 QQ J0)(Uo:Fk P w K mg base 4 q33 UJ Na)(Hj:Fk P w K mg base 1 q44 Rw Ku)(Ji:Fk P w K mg base 6 q54 SF IP)(Hl:Fk P w K mg base 3 q80 SS Jo)(Kk:Fk P w K mg base 1 q79 Sg Iz)(RV:mg "tuple"=none)(Xe:mg "list"=none)(ZA:mg "len"=none):Fk P w K mg base 11 "law" Mw UY:=
 PQ.mk' (ZD (k:=10) PQ.F Y5 D4 λ_ _ _ _ _ _ hr=>⟨_,(Zg (Zw (i:=1) Y5.nd (Zz (Yo (Za Zd (Za Zd (Za Zd (Za Zd (Za Zd (Za Zd (Za Zd (Za Zd Ze))))))))) (Zf ZY (Zk Yd hr (Za (dv 0) (Za Zd Ze))) Zd))) (Zg (Zw (i:=2) Y5.nd (Zk Kk hr (Za (Zk Yd hr (Za (dv 0) (Za Zd Ze))) Ze))) (Zg (Zw (i:=3) Y5.nd (Zk Hl hr (Za (dv 0) (Za (dv 1) (Za (dv 2) Ze))))) (Zg (zcw (is:=[4,5]) rfl Y5.nd (Nms.cons (i:=4) rfl (Or.inl rfl) (by first|exact .inl rfl|exact .inr rfl) (Nms.cons (i:=5) rfl (Or.inl rfl) (by first|exact .inl rfl|exact .inr rfl) Nms.nil)) (Zk Ji hr (Za (dv 0) (Za (dv 1) (Za (dv 2) (Za (dv 3) Ze)))))) (Zg (VM (x:="_law_row") (N:=[]) (caps:=[]) (ar:=Zo Wq) rfl rfl csc rfl (by decide) (i:=6) Y5.nd rfl rfl (dv 5) (λ_ _ _ _ _ _=>Hs (ZL (ZT hr) (Zi (dv 0) Zd) Z3 (ZE _))) (λ_ _ _ _ _ _=>(Zi (dv 0) Zd))) (Zg (Yj (Zk Hj hr (Za (dv 5) (Za (Zk Yd hr (Za (dv 0) (Za Zd Ze))) (Za (ZM (ZI ZW) rfl ZA Boot.«len» (Za (dv 4) Ze)) (Za (dv 1) Ze)))))) (Zg (Zw (i:=7) Y5.nd (Zk Uo hr (Za (dv 4) (Za (dv 3) (Za (dv 2) (Za (dv 0) (Za Zd Ze))))))) (Zg (VM (x:="_law_span") (N:=[]) (caps:=[]) (ar:=Zo Wq) rfl rfl csc rfl (by decide) (i:=8) Y5.nd rfl rfl (dv 3) (λ_ _ _ _ _ _=>Yt) (λ_ _ _ _ _ _=>(ZR (Za (Zf Z9 (Zf ZQ (Zi (dv 0) Zd) (Zi (dv 0) Zd)) Zd) (Za (Zf Z9 (Zf ZQ (Zi (dv 0) Zd) (Zi (dv 0) Zd)) Zd) Ze))))) (Zg (Zw (i:=9) Y5.nd (Zk Uo hr (Za (dv 4) (Za (dv 8) (Za (dv 2) (Za (dv 0) (Za Zd Ze))))))) (Zg (Zw (i:=10) Y5.nd (Zk L6 hr (Za (dv 4) (Za (dv 7) (Za (dv 1) (Za (dv 2) (Za (dv 0) Ze))))))) (Zg (Zw (i:=11) Y5.nd (Zk KJ hr (Za (dv 0) (Za Zd (Za (dv 10) (Za (dv 6) (Za (dv 2) Ze))))))) (Zg (Zw (i:=12) Y5.nd (Zk Kt hr (Za (dv 9) (Za (dv 10) (Za (dv 6) (Za (dv 3) (Za (dv 2) (Za (dv 11) Ze)))))))) (Zg (Zw (i:=13) Y5.nd (Zk Ja hr (Za (dv 12) (Za (dv 0) Ze)))) (Zg (Zw (i:=14) Y5.nd (Zk Yd hr (Za (dv 0) (Za Zd Ze)))) (Zg (ZN (ZL (Ce (k:=0) hr (by decide)) (Zf ZY (dv 14) Zd) (ZR (Za Zd (Za Zd Ze))) rfl) (Zh (Yj (Zk IW hr (Za (Zz (Yo (Za (dv 11) (Za (dv 10) Ze))) (Zf Yr (Zf ZY (dv 14) Zd) Zd)) (Za (Zf Z9 (dv 14) Zd) Ze))))) ZO) (Zg (Zw (i:=15) Y5.nd (Yo (Za (ZR (Za (Xo (ZI Wx) rfl Xe Boot.«list» (Za (dv 3) Ze)) (Za (ZR (Za Z3 (Za (dv 11) (Za (dv 13) (Za (dv 7) (Za (dv 9) (Za (dv 10) Ze))))))) Ze))) Ze))) (Zg (Zw (i:=16) Y5.nd (Yo (Za (Wh (x:="_law_row") (N:=[]) (caps:=[]) (ar:=Zo Wq) rfl rfl csc rfl (by decide) (dv 11) (λ_ _ _ _ _ _=>Yt) (λ_ _ _ _ _ _=>(Xo (ZI Wx) rfl Xe Boot.«list» (Za (dv 0) Ze)))) (Za (Xo (ZI Wx) rfl Xe Boot.«list» (Za (dv 13) Ze)) (Za (Xo (ZI Wx) rfl Xe Boot.«list» (Za (dv 7) Ze)) (Za (Xo (ZI Wx) rfl Xe Boot.«list» (Za (dv 9) Ze)) (Za (Wh (x:="_law_row") (N:=[]) (caps:=[]) (ar:=Zo Wq) rfl rfl csc rfl (by decide) (dv 10) (λ_ _ _ _ _ _=>Yt) (λ_ _ _ _ _ _=>(Xo (ZI Wx) rfl Xe Boot.«list» (Za (dv 0) Ze)))) Ze))))))) (Zg (Zw (i:=17) Y5.nd (Yo (Za (Xo (ZI Wx) rfl Xe Boot.«list» (Za (dv 4) Ze)) (Za (Xo (ZI Wx) rfl Xe Boot.«list» (Za (dv 5) Ze)) (Za (Xo (ZI Wx) rfl Xe Boot.«list» (Za (dv 3) Ze)) (Za (Yo (Za (ZR (Za (Xo (ZI Wx) rfl Xe Boot.«list» (Za (dv 3) Ze)) (Za (Zf zah (ZR (Za Z3 Ze)) (Xo (ZI zdb) rfl RV Boot.«tuple» (Za (dv 16) Ze))) Ze))) Ze)) Ze)))))) (Zg (Zw (i:=18) Y5.nd (Zk Kw hr (Za (Zz (dv 17) Zd) (Za (Zz (dv 17) Zd) (Za (Zz (dv 17) Zd) (Za (dv 2) (Za (Zz (dv 17) Zd) Ze))))))) (Zg (ZN (ZL (Bf hr) (dv 17) (Yo (Za (dv 4) (Za (dv 5) (Za (dv 3) (Za (dv 15) Ze))))) (ZE _)) (Zh (Zt Y8)) ZO) (Zg (ZN (PDW.pt (LU (Xq (Zk Jx hr (Za (dv 5) (Za (dv 7) (Za (dv 12) (Za (dv 13) (Za (dv 3) Ze))))))) (NI (ZL (za3 (k:=0) hr (by decide)) (Zf ZY (dv 14) Zd) (ZR (Za Zd (Za Zd Ze))) rfl)))) (Zh (Zt (YK HN (dv 18) Y8 (ZE _)))) ZO) (Zh (Zt (YK HN (dv 18) Y8 (ZE _))))))))))))))))))))))))),λds S Q ex h=>by
  obtain⟨cs,rfl,rfl,hl,h⟩:=h;refine Ye (λdl' S'=>∃q:Nat,(1<=q/\q<=3)/\S'[0]?=some (.frz (cs.map D.int))/\dl'=some (.ref 0)::some (.int (q:Int))::N17) (λnx hx=>?_) ?_
  ·refine⟨cs,rfl,⟨by decide,by decide⟩,λv0=>?_⟩;have r8:=Yl (a:=v0) (b:=8) (by decide)
   have ix:∀z:Int,v0%8=z->∀q:Nat,(1<=q/\q<=3)->atI [D.int 1,D.int 2,D.int 1,D.int 2,D.int 2,D.int 1,D.int 2,D.int 3] z=some (.int (q:Int))->YH wIx (.ref [Ob.frz (cs.map D.int)].length) (.int (v0%8)) ([Ob.frz (cs.map D.int)]++[Ob.lst [D.int 1,D.int 2,D.int 1,D.int 2,D.int 2,D.int 1,D.int 2,D.int 3]]) λd S1=>nx (some (.ref 0)::some d::N17) S1:=λz ez q hq hz=>by
    rw[ez];exact Zu (o:=.lst _) (i:=z) (Zy _ _) hz (hx _ _ ⟨q,hq,rfl,rfl⟩)
   have e8:v0%8=0\/v0%8=1\/v0%8=2\/v0%8=3\/v0%8=4\/v0%8=5\/v0%8=6\/v0%8=7:=by lia
   rcases e8 with e|e|e|e|e|e|e|e
   ·exact ix 0 e 1 ⟨by decide,by decide⟩ rfl
   ·exact ix 1 e 2 ⟨by decide,by decide⟩ rfl
   ·exact ix 2 e 1 ⟨by decide,by decide⟩ rfl
   ·exact ix 3 e 2 ⟨by decide,by decide⟩ rfl
   ·exact ix 4 e 2 ⟨by decide,by decide⟩ rfl
   ·exact ix 5 e 1 ⟨by decide,by decide⟩ rfl
   ·exact ix 6 e 2 ⟨by decide,by decide⟩ rfl
   ·exact ix 7 e 3 ⟨by decide,by decide⟩ rfl
  rintro dl' S' ⟨q,⟨q1,q2⟩,h0,rfl⟩;refine Ye (λdl' S2=>S2=S'/\∃g:Int,(1<=g/\g<=1000000)/\dl'=some (.ref 0)::some (.int (q:Int))::some (.int g)::N16) (λnx hx=>?_) ?_
  ·refine⟨cs,h0,⟨by decide,by decide⟩,λv1=>?_⟩;exact λg hg g2=>hx _ _ ⟨rfl,g,⟨hg,g2⟩,rfl⟩
  rintro dl' S2 ⟨rfl,g,hg,rfl⟩;refine Ye (λdl' S2=>∃(mb:Nat)(B:LI),S2[0]?=some (.frz (cs.map D.int))/\S2[mb]?=some (.lst (B.map frD))/\B.length=q/\Spn 51 B/\(frS cs=false->∀p∈B,p.1.natAbs<=4*g.natAbs/\p.2.natAbs<=4*g.natAbs)/\dl'=some (.ref 0)::some (.int (q:Int))::some (.int g)::some (.ref mb)::N15) (λnx hx=>?_) ?_
  ·exact⟨cs,q,h0,⟨rfl,q2⟩,hg,λT m B pr lm hB lB sb fr=>hx _ _ ⟨m,B,pr _ _ h0,hB,lB,sb,fr,rfl⟩⟩
  clear h0;rintro dl' S2 ⟨mb,B,h0,hB,lB,sb,fr,rfl⟩;refine Ye (λdl' S3=>∃(mn mr:Nat)(ys:List Nd)(wy is:List Nat),Pre S2 S3/\S2.length<=mn/\S2.length<=mr/\mn≠mr/\S3[mn]?=some (.lst (ys.map Nd.d))/\S3[mr]?=some (.lst (is.map λi=>rwD (true,i)))/\Z7 q ys wy/\(1<=ys.length/\ys.length<=60)/\is.length=q/\(∀i∈is,i<ys.length)/\dl'=some (.ref 0)::some (.int (q:Int))::some (.int g)::some (.ref mb)::some (.ref mn)::some (.ref mr)::N13) (λnx hx=>?_) ?_
  ·refine⟨cs,q,B,h0,⟨rfl,q1,q2⟩,hB,lB,by lia,hg,sb,fr,λT a m ns' ws' rs net l1 l2 hN hR li his la lm ne pr=>?_⟩;exact⟨rfl,hx _ _ ⟨a,m,ns',ws',rs,pr,la,lm,ne,hN,hR,net,⟨l1,l2⟩,li,his,rfl⟩⟩
  rintro dl' S3 ⟨mn,mr,ys,wy,is,pr,ln,lr,nr,hN,hR,net,ly,li,his,rfl⟩;have l0:=Z4 h0
  have lb:=Z4 hB;replace h0:=pr _ _ h0;replace hB:=pr _ _ hB;clear pr;refine Ye (λdl' S4=>∃ma:Nat,Pre S3 S4/\S3.length<=ma/\S4[ma]?=some (.lst (is.map wtD))/\dl'=some (.ref 0)::some (.int (q:Int))::some (.int g)::some (.ref mb)::some (.ref mn)::some (.ref mr)::some (.ref ma)::N12) (λnx hx=>?_) ?_
  ·rw[HG] at hR;refine Ks (n:=mr) (S1:=S3) (o:=.lst ((is.map λi=>((true,i):Bool×Nat)).map rwD)) (λd=>match d with|.tup [.str w,.int at']=>if w="zero" then some (.int at') else none|_=>none) (λK hK=>by exact hK) hR (by show (List.map rwD _).length<=1000;rw[zA,zA];lia) (λx hx S2 K pr hK=>?_) (λx hx y hy S2 K pr hK=>?_) ?_
   ·have hx':x∈(is.map λi=>((true,i):Bool×Nat)).map rwD:=hx;obtain⟨⟨b,n⟩,_,rfl⟩:=zJ.mp hx';cases b
    ·exact hK
    ·exact hK
   ·have hx':x∈(is.map λi=>((true,i):Bool×Nat)).map rwD:=hx;obtain⟨⟨b,n⟩,_,rfl⟩:=zJ.mp hx';cases b
    ·exact absurd hy (by
      simp[rwD];intro z;exact absurd z (by decide))
    ·cases hy;exact hK
   ·have e:(Zq (.lst ((is.map λi=>((true,i):Bool×Nat)).map rwD))).filterMap (λd=>match d with|.tup [.str w,.int at']=>if w="zero" then some (.int at') else none|_=>none)=is.map wtD:=by
     show (List.map rwD _).filterMap _=_;rw[zU,List.filterMap_map,<- List.filterMap_eq_map];rfl
    rw[e];exact hx _ _ ⟨_,Ym _,zD _,Zy _ _,rfl⟩
  have ln3:=Z4 hN
  have lr3:=Z4 hR;rintro dl' S4 ⟨ma,pr,lma,hA,rfl⟩;replace h0:=pr _ _ h0;replace hB:=pr _ _ hB;replace hN:=pr _ _ hN;replace hR:=pr _ _ hR;clear pr;refine Ye (λdl' S5=>∃rows:List (Bool×Nat),S5[0]?=some (.frz (cs.map D.int))/\S5[mb]?=some (.lst (B.map frD))/\S5[mn]?=some (.lst (ys.map Nd.d))/\S5[mr]?=some (.lst (rows.map rwD))/\S5[ma]?=some (.lst (is.map wtD))/\(∀x∈rows,x.2<ys.length)/\rows.length<=6/\(eqs rows=is\/(eqs rows).length≠q)/\dl'=some (.ref 0)::some (.int (q:Int))::some (.int g)::some (.ref mb)::some (.ref mn)::some (.ref mr)::some (.ref ma)::N12) (λnx hx=>?_) ?_
  ·refine⟨cs,h0,⟨by decide,by decide⟩,λv2=>?_⟩;refine ZZ hN ?_;rw[zA];refine⟨q,ys.length,is,⟨rfl,q1,q2⟩,⟨rfl,ly.1,by lia⟩,li,his,hR,λrows hx6 l6 alt=>?_⟩;exact hx _ _ ⟨rows,Yb h0 (by lia),Yb hB (by lia),Yb hN (by lia),Yu hR,Yb hA (by lia),hx6,l6,alt,rfl⟩
  clear h0 hB hN hR hA;rintro dl' S7 ⟨rows,h0,hB,hN,hR,hA,r6,l6,alt,rfl⟩;have netB:Z7 B.length ys wy:=by rw[lB];exact net
  have w16:∀k:Nat,k<ys.length->wy.getD k 0<=16:=λk hk=>by
   have z:=(net.w1 (i:=(k:Int)) ⟨by lia,by lia⟩).2
   rwa [zH] at z
  refine Ye (λdl' S8=>∃(mv:Nat)(vs:LI),Pre S7 S8/\S8[mv]?=some (.lst (vs.map frD))/\vs.length=ys.length/\SzW wy vs/\VT ys B g vs/\dl'=some (.ref 0)::some (.int (q:Int))::some (.int g)::some (.ref mb)::some (.ref mn)::some (.ref mr)::some (.ref ma)::some (.ref mv)::N11) (λnx hx=>?_) ?_
  ·exact⟨ys,wy,B,hN,hB,netB,by lia,sb,hg,.inr ⟨⟨by decide,by decide⟩,cs,h0⟩,λT m vs pr lm hV lv szw cl _=>hx _ _ ⟨m,vs,pr,hV,lv,szw,cl,rfl⟩⟩
  rintro dl' S8 ⟨mv,vs,pr,hV,lv,szw,cl,rfl⟩;replace h0:=pr _ _ h0;replace hB:=pr _ _ hB;replace hN:=pr _ _ hN;replace hR:=pr _ _ hR;replace hA:=pr _ _ hA;clear pr;refine Ye (λdl' S9=>∃mc:Nat,Pre S8 S9/\S9[mc]?=some (.lst ((B.map ZP).map frD))/\dl'=some (.ref 0)::some (.int (q:Int))::some (.int g)::some (.ref mb)::some (.ref mn)::some (.ref mr)::some (.ref ma)::some (.ref mv)::some (.ref mc)::N10) (λnx hx=>?_) ?_
  ·refine XN (n:=mb) (S1:=S8) (o:=.lst (B.map frD)) VH (λK hK=>by exact hK) hB (by show (B.map frD).length<=1000;rw[zA];lia) (λx hx S3 K3 p3 hK3=>?_) ?_
   ·obtain⟨v,_,rfl⟩:=zJ.mp (show x∈B.map frD from hx);exact hK3
   have ei:(Zq (Ob.lst (B.map frD))).map VH=(B.map ZP).map frD:=L7 B;rw[ei];exact hx _ _ ⟨_,Ym _,Zy _ _,rfl⟩
  rintro dl' S9 ⟨mc,pr,hC,rfl⟩;replace h0:=pr _ _ h0;replace hB:=pr _ _ hB;replace hN:=pr _ _ hN;replace hR:=pr _ _ hR;replace hA:=pr _ _ hA;replace hV:=pr _ _ hV;clear pr;have sbm:Spn 51 (B.map ZP):=λp hp=>by
   obtain⟨r,hr,rfl⟩:=zJ.mp hp;have z:=sb r hr
   have e:Sz 51 (mid r):=by
    have a:=z.2.1
    have b:=z.2.2
    have o:=z.1;unfold Sz mid at *
    lia
   exact⟨yL _,e,e⟩
  refine Ye (λdl' S10=>∃(mt:Nat)(th:LI),Pre S9 S10/\S10[mt]?=some (.lst (th.map frD))/\th.length=ys.length/\SzW wy th/\VT ys (B.map ZP) g th/\dl'=some (.ref 0)::some (.int (q:Int))::some (.int g)::some (.ref mb)::some (.ref mn)::some (.ref mr)::some (.ref ma)::some (.ref mv)::some (.ref mc)::some (.ref mt)::N9) (λnx hx=>?_) ?_
  ·exact⟨ys,wy,B.map ZP,hN,hC,by rw[zA];exact netB,by lia,sbm,hg,.inr ⟨⟨by decide,by decide⟩,cs,h0⟩,λT m th pr lm hV lv szw cl _=>hx _ _ ⟨m,th,pr,hV,lv,szw,cl,rfl⟩⟩
  rintro dl' S10 ⟨mt,th,pr,hT,lt,szt,clt,rfl⟩;replace h0:=pr _ _ h0;replace hB:=pr _ _ hB;replace hN:=pr _ _ hN;replace hR:=pr _ _ hR;replace hA:=pr _ _ hA;replace hV:=pr _ _ hV;clear pr;refine Ye (λdl' S11=>∃(mm:Nat)(ds:List D)(R:List LI),Pre S10 S11/\S10.length<=mm/\S11[mm]?=some (.lst ds)/\Z2 S11 (mm+1) ds R/\R.length=ys.length/\SlW q wy R/\(∀(i:Nat)(v:Nd)(r:LI)(l:Nat)(p:Int×Int),ys[i]?=some v->R[i]?=some r->r[l]?=some p->Ins p (v.sl vs R g l))/\dl'=some (.ref 0)::some (.int (q:Int))::some (.int g)::some (.ref mb)::some (.ref mn)::some (.ref mr)::some (.ref ma)::some (.ref mv)::some (.ref mc)::some (.ref mt)::some (.ref mm)::N8) (λnx hx=>?_) ?_
  ·exact⟨cs,q,ys,wy,vs,h0,hN,hV,net,szw,lv,⟨rfl,q1,q2⟩,hg,by lia,λT m ds R pr lm hM rp lR slw ins=>hx _ _ ⟨m,ds,R,pr,lm,hM,rp,lR,slw,ins,rfl⟩⟩
  have l10:∀(x:Nat)(o:Ob),S10[x]?=some o->x<S10.length:=λx o e=>Z4 e
  have bM:=l10 _ _ hB
  have nM:=l10 _ _ hN
  have rM:=l10 _ _ hR
  have vM:=l10 _ _ hV
  have tM:=l10 _ _ hT
  have aM:=l10 _ _ hA
  have cM:=l10 _ _ h0;clear l10;rintro dl' S11 ⟨mm,ds,R,pr,lmm,hM,rp,lR,slw,ins,rfl⟩;have bd:∀(k a:Nat),ds[k]?=some (.ref a)->a<S11.length:=λk a e=>by
   have lk:=(zF.mp e).1
   have l1:=rp.1;obtain⟨b,eb,_,s⟩:=rp.2 k _ _ e (zC (show k<R.length by lia));cases eb;exact Z4 s
  replace h0:=pr _ _ h0;replace hB:=pr _ _ hB;replace hN:=pr _ _ hN;replace hR:=pr _ _ hR;replace hA:=pr _ _ hA;replace hV:=pr _ _ hV;replace hT:=pr _ _ hT;clear pr;have zR:∀r∈R,r.length=q/\Bd 1100 r:=λr hr=>by
   obtain⟨k,hk⟩:=xW.mp hr;have lk:=(zF.mp hk).1;obtain⟨z1,z2⟩:=slw k r hk;have w:=w16 k (by lia);exact⟨z1,λp hp=>⟨(z2 p hp).2.1.mono (by lia),(z2 p hp).2.2.mono (by lia)⟩⟩
  refine Ye (λdl' S13=>∃(mu:Nat)(ms:List D)(M:List (List Int)),Pre S11 S13/\S11.length<=mu/\S13[mu]?=some (.lst ms)/\YO S13 ms M/\M.length=q/\(∀r∈M,r.length=q/\∀x∈r,Sz 4000 x)/\dl'=some (.ref 0)::some (.int (q:Int))::some (.int g)::some (.ref mb)::some (.ref mn)::some (.ref mr)::some (.ref ma)::some (.ref mv)::some (.ref mc)::some (.ref mt)::some (.ref mm)::some (.ref mu)::N7) (λnx hx=>?_) ?_
  ·exact⟨cs,q,R,ds,is,h0,⟨by decide,by decide⟩,hM,rp.low (zO _),hA,li,⟨q1,q2⟩,λi hi=>by rw[lR];exact his i hi,zR,hg,λT m ms M pr lm hU ri lM zM=>hx _ _ ⟨m,ms,M,pr,lm,hU,ri,lM,zM,rfl⟩⟩
  have mM:=Z4 hM;rintro dl' S13 ⟨mu,ms,M,pr,lmu,hU,ri,lM,zM,rfl⟩;replace rp:=rp.pre pr;replace h0:=pr _ _ h0;replace hB:=pr _ _ hB;replace hN:=pr _ _ hN;replace hR:=pr _ _ hR;replace hA:=pr _ _ hA;replace hV:=pr _ _ hV;replace hT:=pr _ _ hT;replace hM:=pr _ _ hM;clear pr;have spV:=szw.spn (λk hk=>w16 k (by lia))
  have spT:=szt.spn (λk hk=>w16 k (by lia))
  have zbB:Bd 60 B:=λp hp=>⟨(sb p hp).2.1.mono (by decide),(sb p hp).2.2.mono (by decide)⟩
  refine Ye (λdl' S14=>∃mw:Nat,Pre S13 S14/\S13.length<=mw/\S14[mw]?=some (.lst ((YC g B th R is M).map frD))/\dl'=some (.ref 0)::some (.int (q:Int))::some (.int g)::some (.ref mb)::some (.ref mn)::some (.ref mr)::some (.ref ma)::some (.ref mv)::some (.ref mc)::some (.ref mt)::some (.ref mm)::some (.ref mu)::some (.ref mw)::N6) (λnx hx=>?_) ?_
  ·exact⟨R,ds,ms,is,B,th,M,hT,hM,rp.low (zO _),hA,hB,hU,ri,by lia,by lia,⟨by lia,by lia⟩,λi hi=>⟨by rw[lR];exact his i hi,by rw[lt];exact his i hi⟩,λr hr=>⟨by rw[lB];exact(zR r hr).1,λp hp=>⟨((zR r hr).2 p hp).1.mono (by decide),((zR r hr).2 p hp).2.mono (by decide)⟩⟩,λr hr=>⟨by rw[lB];exact(zM r hr).1,(zM r hr).2⟩,zbB,λp hp=>⟨(spT p hp).2.1.mono (by decide),(spT p hp).2.2.mono (by decide)⟩,hg,λT m pr lm hD=>hx _ _ ⟨m,pr,lm,hD,rfl⟩⟩
  have uM:=Z4 hU;rintro dl' S14 ⟨mw,pr,lmw,hW,rfl⟩;replace rp:=rp.pre pr;replace ri:=ri.pre pr;replace h0:=pr _ _ h0;replace hB:=pr _ _ hB;replace hN:=pr _ _ hN;replace hR:=pr _ _ hR;replace hV:=pr _ _ hV;replace hT:=pr _ _ hT;replace hM:=pr _ _ hM;replace hU:=pr _ _ hU;clear pr;refine Ye (λdl' S15=>∃(me:Nat)(aE:LI),Pre S14 S15/\S14.length<=me/\S15[me]?=some (.lst (aE.map frD))/\aE.length=B.length/\dl'=some (.ref 0)::some (.int (q:Int))::some (.int g)::some (.ref mb)::some (.ref mn)::some (.ref mr)::some (.ref ma)::some (.ref mv)::some (.ref mc)::some (.ref mt)::some (.ref mm)::some (.ref mu)::some (.ref mw)::some (.ref me)::N5) (λnx hx=>?_) ?_
  ·have lD:(YC g B th R is M).length=B.length:=by unfold YC;rw[List.length_mapIdx];lia
   exact⟨cs,_,h0,hW,by lia,λT m aE pr lm hE le=>hx _ _ ⟨m,aE,pr,lm,hE,by lia,rfl⟩⟩
  have wM:=Z4 hW;rintro dl' S15 ⟨me,aE,pr,lme,hE,le,rfl⟩;replace rp:=rp.pre pr;replace ri:=ri.pre pr;replace h0:=pr _ _ h0;replace hB:=pr _ _ hB;replace hN:=pr _ _ hN;replace hR:=pr _ _ hR;replace hV:=pr _ _ hV;replace hT:=pr _ _ hT;replace hM:=pr _ _ hM;replace hU:=pr _ _ hU;replace hW:=pr _ _ hW;clear pr;refine Ye (λdl' S16=>S16=S15/\∃v:Int,dl'=some (.ref 0)::some (.int (q:Int))::some (.int g)::some (.ref mb)::some (.ref mn)::some (.ref mr)::some (.ref ma)::some (.ref mv)::some (.ref mc)::some (.ref mt)::some (.ref mm)::some (.ref mu)::some (.ref mw)::some (.ref me)::some (.int v)::N4) (λnx hx=>?_) ?_
  ·exact⟨cs,h0,⟨by decide,by decide⟩,λv=>hx _ _ ⟨rfl,v,rfl⟩⟩
  rintro dl' S16 ⟨rfl,v,rfl⟩;have eM:=Z4 hE
  have hT':=hT;clear hT;refine Ye (λdl' S17=>∃(M':List (List Int))(R':List LI)(ms' ds':List D),(S17[0]?=some (.frz (cs.map D.int))/\S17[mb]?=some (.lst (B.map frD))/\S17[mn]?=some (.lst (ys.map Nd.d))/\S17[mr]?=some (.lst (rows.map rwD))/\S17[mv]?=some (.lst (vs.map frD))/\S17[mt]?=some (.lst (th.map frD))/\S17[mw]?=some (.lst ((YC g B th R is M).map frD))/\S17[me]?=some (.lst (aE.map frD)))/\S17[mu]?=some (.lst ms')/\YO S17 ms' M'/\S17[mm]?=some (.lst ds')/\Z2 S17 0 ds' R'/\M'.length=q/\R'.length=ys.length/\((¬ (v%7=1\/v%7=2)/\M'=M/\R'=R)\/((v%7=1\/v%7=2)/\((R'=R/\∃r∈M',r.length≠q)\/∃r∈R',r.length≠q)))/\dl'=some (.ref 0)::some (.int (q:Int))::some (.int g)::some (.ref mb)::some (.ref mn)::some (.ref mr)::some (.ref ma)::some (.ref mv)::some (.ref mc)::some (.ref mt)::some (.ref mm)::some (.ref mu)::some (.ref mw)::some (.ref me)::some (.int v)::N4) (λnx hx=>?_) ?_
  ·refine AR (v:=v%7) (λK hK=>by exact hK) (λc=>?_) (λc=>?_)
   ·rcases c with e|e
    ·refine Zu (o:=.lst [.ref mu,.ref mm]) (i:=v%7-1) (d:=.ref mu) (Zy _ _) (by rw[e];rfl) ?_;refine⟨ms,M.map (·.map D.int),Zj hU,(ri.pre (Ym _)).toD,zbP hU ri,⟨by rw[zA];lia,by rw[zA];lia⟩,λxs hxs=>by obtain⟨r,hr,rfl⟩:=zJ.mp hxs;rw[zA,(zM r hr).1];lia,λT k xs ys' ms' kp hT hL hy rd=>?_⟩;obtain⟨M',eM',lM',bad⟩:=Fi D.int hL (λr hr=>(zM r hr).1) q1 hy;rw[eM'] at rd;have kp':∀(x:Nat)(o:Ob),x≠mu->S16[x]?=some o->T[x]?=some o:=λx o nx e=>kp x o nx (Zj e)
     exact hx _ _ ⟨M',R,ms',ds,⟨kp' _ _ (by lia) h0,kp' _ _ (by lia) hB,kp' _ _ (by lia) hN,kp' _ _ (by lia) hR,kp' _ _ (by lia) hV,kp' _ _ (by lia) hT',kp' _ _ (by lia) hW,kp' _ _ (by lia) hE⟩,hT,rd.toI,kp' _ _ (by lia) hM,⟨rp.1,λk d r hd hr=>by
      obtain⟨a,rfl,la,s⟩:=rp.2 k d r hd hr;exact⟨a,rfl,zO _,kp' a _ (by have:=bd k a hd;lia) s⟩⟩,by lia,lR,.inr ⟨.inl e,.inl ⟨rfl,bad⟩⟩,rfl⟩
    ·refine Zu (o:=.lst [.ref mu,.ref mm]) (i:=v%7-1) (d:=.ref mm) (Zy _ _) (by rw[e];rfl) ?_;refine⟨ds,R.map (·.map frD),Zj hM,(rp.pre (Ym _)).toD,λk e=>?_,⟨by rw[zA];lia,by rw[zA];lia⟩,λxs hxs=>by obtain⟨r,hr,rfl⟩:=zJ.mp hxs;rw[zA,(zR r hr).1];lia,λT k xs ys' ds' kp hT hL hy rd=>?_⟩
     ·have lk:=(zF.mp e).1
      have l1:=rp.1;obtain⟨b,eb,lb',_⟩:=rp.2 k _ _ e (zC (show k<R.length by lia));cases eb;lia
     obtain⟨R',eR',lR',bad⟩:=Fi frD hL (λr hr=>(zR r hr).1) q1 hy;rw[eR'] at rd;have kp':∀(x:Nat)(o:Ob),x≠mm->S16[x]?=some o->T[x]?=some o:=λx o nx e=>kp x o nx (Zj e)
     exact hx _ _ ⟨M,R',ms,ds',⟨kp' _ _ (by lia) h0,kp' _ _ (by lia) hB,kp' _ _ (by lia) hN,kp' _ _ (by lia) hR,kp' _ _ (by lia) hV,kp' _ _ (by lia) hT',kp' _ _ (by lia) hW,kp' _ _ (by lia) hE⟩,kp' _ _ (by lia) hU,⟨ri.1,λk d r hd hr=>by
      obtain⟨a,rfl,s⟩:=ri.2 k d r hd hr;exact⟨a,rfl,kp' a _ (Al hM rp (by lia) s) s⟩⟩,hT,rd.toP,lM,by lia,.inr ⟨.inr e,.inr bad⟩,rfl⟩
   ·exact hx _ _ ⟨M,R,ms,ds,⟨h0,hB,hN,hR,hV,hT',hW,hE⟩,hU,ri,hM,rp.low (zO _),lM,lR,.inl ⟨c,rfl,rfl⟩,rfl⟩
  clear h0 hB hN hR hV hT' hW hE hU ri hM rp eM bd;clear ms ds;rintro dl' S17 ⟨M',R',ms,ds,⟨h0,hB,hN,hR,hV,hT,hW,hE⟩,hU,ri,hM,rp,lM',lR',alt2,rfl⟩;have lD:(YC g B th R is M).length=B.length:=by unfold YC;rw[List.length_mapIdx];lia
  refine Ye (λdl' S18=>∃(mk mx:Nat)(d:D),Pre S17 S18/\S18[mk]?=some (.lst [.tup [.ref mx,d]])/\S18[mx]?=some (.lst (B.map frD))/\Wi S18 d M' aE vs th R'/\dl'=some (.ref 0)::some (.int (q:Int))::some (.int g)::some (.ref mb)::some (.ref mn)::some (.ref mr)::some (.ref ma)::some (.ref mv)::some (.ref mc)::some (.ref mt)::some (.ref mm)::some (.ref mu)::some (.ref mw)::some (.ref me)::some (.int v)::some (.ref mk)::N3) (λnx hx=>?_) ?_
  ·refine Vf (ZS hB rfl) ?_;dsimp only[Zq];refine hx _ _ ⟨_,_,_,YU (Ym _),Zy _ _,Zj (Zy _ _),⟨mu,me,mv,mt,mm,ms,ds,rfl,Zj (Zj hU),ri.pre (YU (Ym _)),Zj (Zj hE),Zj (Zj hV),Zj (Zj hT),Zj (Zj hM),rp.pre (YU (Ym _))⟩,rfl⟩
  rintro dl' S18 ⟨mk,mx,d,pr,hK,hX,one,rfl⟩;clear h0;replace ri:=ri.pre pr;replace rp:=rp.pre pr;replace hB:=pr _ _ hB;replace hN:=pr _ _ hN;replace hR:=pr _ _ hR;replace hV:=pr _ _ hV;replace hT:=pr _ _ hT;replace hW:=pr _ _ hW;replace hE:=pr _ _ hE;replace hU:=pr _ _ hU;replace hM:=pr _ _ hM;clear pr;refine Ye (λdl' S19=>∃(ml j1 j2 j3 j4 j5:Nat),Pre S18 S19/\S19[ml]?=some (.lst [.ref j1,.ref j2,.ref j3,.ref j4,.ref j5])/\Wi S19 (.tup [.str "one",.ref j1,.ref j2,.ref j3,.ref j4,.ref j5]) M' aE vs th R'/\dl'=[some (.ref 0),some (.int (q:Int)),some (.int g),some (.ref mb),some (.ref mn),some (.ref mr),some (.ref ma),some (.ref mv),some (.ref mc),some (.ref mt),some (.ref mm),some (.ref mu),some (.ref mw),some (.ref me),some (.int v),some (.ref mk),some (.ref ml),none,none]) (λnx hx=>?_) ?_
  ·refine Fd (n:=mu) (S1:=S18) (λK hK=>by exact hK) hU ri.toD (by rw[zA];lia) (λT1 e1 p1 g1 r1=>?_);refine Vf (ZS (p1 _ _ hE) rfl) ?_;refine Vf (ZS (Zj (p1 _ _ hV)) rfl) ?_;refine Vf (ZS (Zj (Zj (p1 _ _ hT))) rfl) ?_;dsimp only[Zq];have p3:Pre T1 (T1++[Ob.lst (aE.map frD)]++[Ob.lst (vs.map frD)]++[Ob.lst (th.map frD)]):=YU (YU (Ym _));refine Fd (n:=mm) (S1:=T1++[Ob.lst (aE.map frD)]++[Ob.lst (vs.map frD)]++[Ob.lst (th.map frD)]) (λK hK=>by exact hK) (p3 _ _ (p1 _ _ hM)) ((rp.pre p1).pre p3).toD (by rw[zA];lia) (λT2 e2 p2 g2 r2=>?_);have p4:Pre T1 (T2++[Ob.lst [.ref S18.length,.ref T1.length,.ref (T1++[Ob.lst (aE.map frD)]).length,.ref (T1++[Ob.lst (aE.map frD)]++[Ob.lst (vs.map frD)]).length,.ref (T1++[Ob.lst (aE.map frD)]++[Ob.lst (vs.map frD)]++[Ob.lst (th.map frD)]).length]]):=λx o e=>Zj (p2 _ _ (p3 _ _ e))
   refine hx _ _ ⟨_,_,_,_,_,_,λx o e=>p4 _ _ (p1 _ _ e),Zy _ _,⟨_,_,_,_,_,_,_,rfl,p4 _ _ g1,r1.toI.pre p4,Zj (p2 _ _ (Zj (Zj (Zy _ _)))),Zj (p2 _ _ (Zj (Zy _ _))),Zj (p2 _ _ (Zy _ _)),Zj g2,r2.toP.pre (Ym _)⟩,rfl⟩
  rintro dl' S19 ⟨ml,j1,j2,j3,j4,j5,pr,hL,one2,rfl⟩;clear ri rp hT hU hM;replace one:=one.pre pr;replace hB:=pr _ _ hB;replace hN:=pr _ _ hN;replace hR:=pr _ _ hR;replace hV:=pr _ _ hV;replace hW:=pr _ _ hW;replace hE:=pr _ _ hE;replace hK:=pr _ _ hK;replace hX:=pr _ _ hX;clear pr;refine Ye (λdl' S20=>∃(md i1 i2 i3 i4 m':Nat),Pre S19 S20/\S20[md]?=some (.lst [.ref i1,.ref i2,.ref i3,.ref i4])/\S20[i1]?=some (.lst (ys.map Nd.d))/\S20[i2]?=some (.lst (rows.map rwD))/\S20[i3]?=some (.lst (B.map frD))/\S20[i4]?=some (.lst [.tup [.ref m',.tup [.str "one",.ref j1,.ref j2,.ref j3,.ref j4,.ref j5]]])/\S20[m']?=some (.lst (B.map frD))/\dl'=[some (.ref 0),some (.int (q:Int)),some (.int g),some (.ref mb),some (.ref mn),some (.ref mr),some (.ref ma),some (.ref mv),some (.ref mc),some (.ref mt),some (.ref mm),some (.ref mu),some (.ref mw),some (.ref me),some (.int v),some (.ref mk),some (.ref ml),some (.ref md),none]) (λnx hx=>?_) ?_
  ·refine Vf (ZS hN rfl) ?_;refine Vf (ZS (Zj hR) rfl) ?_;refine Vf (ZS (Zj (Zj hB)) rfl) ?_;refine Vf (ZS (Zj (Zj (Zj hB))) rfl) ?_;dsimp only[Zq];refine AZ (Zj (Zj (Zj (Zj hL)))) ?_;refine⟨by simp,by simp,by simp,?_⟩;refine hx _ _ ⟨_,_,_,_,_,_,λx o e=>Zj (Zj (Zj (Zj (Zj (Zj e))))),Zy _ _,Zj (Zj (Zj (Zj (Zj (Zy _ _))))),Zj (Zj (Zj (Zj (Zy _ _)))),Zj (Zj (Zj (Zy _ _))),Zj (Zy _ _),Zj (Zj (Zy _ _)),rfl⟩
  rintro dl' S20 ⟨md,i1,i2,i3,i4,m',pr,hD,A1,A2,A3,A4,A5,rfl⟩;clear hL;replace one:=one.pre pr;replace one2:=one2.pre pr;replace hB:=pr _ _ hB;replace hN:=pr _ _ hN;replace hR:=pr _ _ hR;replace hV:=pr _ _ hV;replace hW:=pr _ _ hW;replace hE:=pr _ _ hE;replace hK:=pr _ _ hK;replace hX:=pr _ _ hX;clear pr;obtain⟨ans,ok,an⟩:∃ans:Bool,Vz S20 i1 i2 m' g (.tup [.str "one",.ref j1,.ref j2,.ref j3,.ref j4,.ref j5]) ans/\((Xw rows vs&&(YE (YC g B th R is M) aE&&(decide ((eqs rows).length=B.length)&&XR aE B)))&&!decide (v%7=1\/v%7=2))=ans:=by
   have mk:∀ans:Bool,_->Vz S20 i1 i2 m' g (.tup [.str "one",.ref j1,.ref j2,.ref j3,.ref j4,.ref j5]) ans:=λans z=>⟨ys,wy,rows,B,aE,vs,th,M',R',A1,A2,A5,one2,netB,by lia,by lia,⟨lv,lt,lR'⟩,spV,spT,F0 cl,F0 clt,r6,by lia,le,⟨by lia,by lia⟩,zbB,hg,z⟩
   rcases alt2 with ⟨nc,rfl,rfl⟩|⟨c,bad⟩
   ·rw[decide_eq_false nc];rcases alt with ea|ea
    ·refine⟨_,mk _ (.inr ⟨by rw[lB];exact slw,Jj ins,.inr ⟨by rw[ea];lia,λr hr=>⟨by rw[lB];exact(zM r hr).1,(zM r hr).2⟩,rfl⟩⟩),?_⟩;rw[ea,decide_eq_true (show is.length=B.length by lia)];simp
    ·refine⟨false,mk _ (.inr ⟨by rw[lB];exact slw,Jj ins,.inl ⟨.inl (by lia),rfl⟩⟩),?_⟩;rw[decide_eq_false (show ¬ (eqs rows).length=B.length by lia)];simp
   ·rw[decide_eq_true c];rcases bad with ⟨rfl,r,hr,nr'⟩|⟨r,hr,nr'⟩
    ·exact⟨false,mk _ (.inr ⟨by rw[lB];exact slw,Jj ins,.inl ⟨.inr ⟨r,hr,by lia⟩,rfl⟩⟩),by simp⟩
    ·exact⟨false,mk _ (.inl ⟨⟨r,hr,by lia⟩,rfl⟩),by simp⟩
  refine Ye (λdl' S21=>Pre S20 S21/\dl'=[some (.ref 0),some (.int (q:Int)),some (.int g),some (.ref mb),some (.ref mn),some (.ref mr),some (.ref ma),some (.ref mv),some (.ref mc),some (.ref mt),some (.ref mm),some (.ref mu),some (.ref mw),some (.ref me),some (.int v),some (.ref mk),some (.ref ml),some (.ref md),some (.bl ans)]) (λnx hx=>?_) ?_
  ·refine Zu (i:=0) (o:=.lst [.ref i1,.ref i2,.ref i3,.ref i4]) hD (d:=.ref i1) rfl ?_;refine Zu (i:=1) (o:=.lst [.ref i1,.ref i2,.ref i3,.ref i4]) hD (d:=.ref i2) rfl ?_;refine Zu (i:=2) (o:=.lst [.ref i1,.ref i2,.ref i3,.ref i4]) hD (d:=.ref i3) rfl ?_;refine Zu (i:=3) (o:=.lst [.ref i1,.ref i2,.ref i3,.ref i4]) hD (d:=.ref i4) rfl ?_;exact⟨B,m',_,ans,A3,A5,A4,ok,λT p2=>hx _ _ ⟨p2,rfl⟩⟩
  rintro dl' S21 ⟨pr,rfl⟩;replace one:=one.pre pr;replace one2:=one2.pre pr;replace hB:=pr _ _ hB;replace hN:=pr _ _ hN;replace hR:=pr _ _ hR;replace hV:=pr _ _ hV;replace hW:=pr _ _ hW;replace hE:=pr _ _ hE;replace hK:=pr _ _ hK;replace hX:=pr _ _ hX;replace hD:=pr _ _ hD;replace A1:=pr _ _ A1;replace A2:=pr _ _ A2;replace A3:=pr _ _ A3;replace A4:=pr _ _ A4;replace A5:=pr _ _ A5;clear pr;refine Ye (λdl' S22=>Pre S21 S22/\dl'=[some (.ref 0),some (.int (q:Int)),some (.int g),some (.ref mb),some (.ref mn),some (.ref mr),some (.ref ma),some (.ref mv),some (.ref mc),some (.ref mt),some (.ref mm),some (.ref mu),some (.ref mw),some (.ref me),some (.int v),some (.ref mk),some (.ref ml),some (.ref md),some (.bl ans)]) (λnx hx=>?_) ?_
  ·refine⟨⟨_,_,Zj hD,Zy _ _,rfl,λk x y hx hy=>?_⟩,?_⟩
   ·match k,hx,hy with
    | 0,hx,hy=>cases hx;cases hy;exact Vd (λp=>zbF p) (Zj A1) (Zj hN)
    | 1,hx,hy=>cases hx;cases hy;exact Vd (λp=>zcu p) (Zj A2) (Zj hR)
    | 2,hx,hy=>cases hx;cases hy;exact Vd (λp=>UZ p) (Zj A3) (Zj hB)
    | 3,hx,hy=>
     cases hx;cases hy
     refine .inr (.inr ⟨_,_,_,_,rfl,rfl,Zj A4,Zj hK,rfl,λk x y hx hy=>?_⟩)
     match k,hx,hy with
     | 0,hx,hy=>
      cases hx;cases hy
      refine .inr (.inl ⟨_,_,rfl,rfl,rfl,λk x y hx hy=>?_⟩)
      match k,hx,hy with
      | 0,hx,hy=>cases hx;cases hy;exact Vd (λp=>UZ p) (Zj A5) (Zj hX)
      | 1,hx,hy=>cases hx;cases hy;exact zcx (one2.pre (Ym _)) (one.pre (Ym _))
      | k+2,hx,hy=>cases hx
     | k+1,hx,hy=>cases hx
    | k+4,hx,hy=>cases hx
   exact hx _ _ ⟨Ym _,rfl⟩
  rintro dl' S22 ⟨pr,rfl⟩;refine⟨rows,vs,YC g B th R is M,aE,B,pr _ _ hR,pr _ _ hV,pr _ _ hW,pr _ _ hE,pr _ _ hB,by lia,λr hr=>by rw[lv];exact r6 r hr,lD,le,by lia,?_⟩;generalize (Xw rows vs&&(YE (YC g B th R is M) aE&&(decide ((eqs rows).length=B.length)&&XR aE B)))=b at an ⊢;cases b with
  | true=>
   dsimp only;rw[if_pos rfl];refine zcR (v:=v%7) (λK hK=>by exact hK) ?_;rw[Bool.true_and] at an;rw[an];cases ans with
   | true=>exact h _
   | false=>exact h _
  | false=>
   rw[xM] at an;subst an;exact h _⟩)
end
theorem Cb {l:PySem.W.OpenLaw}{w:World}{K:Fg}{h:Heap}{mg:Str->Option Value}{fa:Addr}(X:K.In h)(G:h.Ns mainGlobals mg)(hfa:mg "law"=some (.ref fa))
  (zbg:PySem.W.nsIn K mainGlobals Vw=some (some (.ref X5)))(zam:PySem.W.plainGet K X5 Str.empty=true)(zbE:PySem.W.hasDictIn K X5=true)(zav:PySem.W.plainOver K X5=true)(Cm:PySem.W.findIn K (.ref X5) Tp=some (some (.builtin TC)))(zbZ:PySem.W.makesIn K X5=true)(zc5:PySem.W.keepIn K (.ref X5)=true)
  (Aj:PySem.W.findIn K (.ref X5) W8=some none)
  (CN:PySem.W.findIn K (.ref X5) "top"=some none)
  (Dy:PySem.W.nsIn K mainGlobals Vn=some (some (.ref Wg)))(Ey:PySem.W.plainGet K Wg Str.empty=true)(zb3:PySem.W.hasDictIn K Wg=true)(zbH:PySem.W.plainOver K Wg=true)(zcm:PySem.W.findIn K (.ref Wg) Tp=some (some (.builtin TC)))(zaF:PySem.W.makesIn K Wg=true)(Ai:PySem.W.keepIn K (.ref Wg)=true)
  (CZ:PySem.W.findIn K (.ref Wg) "place"=some none)
  (Bi:PySem.W.nsIn K mainGlobals "Plus"=some (some (.ref XD)))(EX:PySem.W.plainGet K XD Str.empty=true)(zaA:PySem.W.hasDictIn K XD=true)(Dd:PySem.W.plainOver K XD=true)(DG:PySem.W.findIn K (.ref XD) Tp=some (some (.builtin TC)))(CF:PySem.W.makesIn K XD=true)(EJ:PySem.W.keepIn K (.ref XD)=true)
  (EF:PySem.W.findIn K (.ref XD) XZ=some none)
  (BO:PySem.W.findIn K (.ref XD) "one"=some none)
  (zbq:PySem.W.nsIn K mainGlobals "Minus"=some (some (.ref XQ)))(CL:PySem.W.plainGet K XQ Str.empty=true)(zb2:PySem.W.hasDictIn K XQ=true)(zat:PySem.W.plainOver K XQ=true)(BU:PySem.W.findIn K (.ref XQ) Tp=some (some (.builtin TC)))(AF:PySem.W.makesIn K XQ=true)(zao:PySem.W.keepIn K (.ref XQ)=true)
  (EZ:PySem.W.findIn K (.ref XQ) XZ=some none)
  (Bx:PySem.W.findIn K (.ref XQ) "one"=some none)
  (Ba:PySem.W.nsIn K mainGlobals "Times"=some (some (.ref XM)))(za4:PySem.W.plainGet K XM Str.empty=true)(zbj:PySem.W.hasDictIn K XM=true)(zau:PySem.W.plainOver K XM=true)(zbs:PySem.W.findIn K (.ref XM) Tp=some (some (.builtin TC)))(Eh:PySem.W.makesIn K XM=true)(AQ:PySem.W.keepIn K (.ref XM)=true)
  (EE:PySem.W.findIn K (.ref XM) XZ=some none)
  (Ei:PySem.W.findIn K (.ref XM) "one"=some none)
  (DZ:PySem.W.nsIn K mainGlobals "Power"=some (some (.ref XX)))(BV:PySem.W.plainGet K XX Str.empty=true)(zan:PySem.W.hasDictIn K XX=true)(zcY:PySem.W.plainOver K XX=true)(By:PySem.W.findIn K (.ref XX) Tp=some (some (.builtin TC)))(Ew:PySem.W.makesIn K XX=true)(A8:PySem.W.keepIn K (.ref XX)=true)
  (zbp:PySem.W.findIn K (.ref XX) "many"=some none)
  (Ad:PySem.W.findIn K (.ref XX) "one"=some none)
  (a0:nsA K q40 f0)(l0:lkA K f0 q40 q40 O3 m0 h0)(c0:cdA K h0 q40)
  (a1:nsA K q29 f1)(l1:lkA K f1 q29 q29 LC m1 h1)(c1:cdA K h1 q29)
  (a2:nsA K q79 f2)(l2:lkA K f2 q79 q79 QV m2 h2)(c2:cdA K h2 q79)
  (a3:nsA K q80 f3)(l3:lkA K f3 q80 q80 Lg m3 h3)(c3:cdA K h3 q80)
  (a4:nsA K q30 f4)(l4:lkA K f4 q30 q30 OG m4 h4)(c4:cdA K h4 q30)
  (a5:nsA K q52 f5)(l5:lkA K f5 q52 q52 Nr m5 h5)(c5:cdA K h5 q52)
  (a6:nsA K q91 f6)(l6:lkA K f6 q91 q91 Mf m6 h6)(c6:cdA K h6 q91)
  (a7:nsA K q92 f7)(l7:lkA K f7 q92 q92 Ma m7 h7)(c7:cdA K h7 q92)
  (a8:nsA K q68 f8)(l8:lkA K f8 q68 q68 Pd m8 h8)(c8:cdA K h8 q68)
  (a9:nsA K q23 f9)(l9:lkA K f9 q23 q23 Sy m9 h9)(c9:cdA K h9 q23)
  (a10:nsA K q99 f10)(l10:lkA K f10 q99 q99 OI m10 h10)(c10:cdA K h10 q99)
  (a11:nsA K q70 f11)(l11:lkA K f11 q70 q70 Ol m11 h11)(c11:cdA K h11 q70)
  (a12:nsA K q62 f12)(l12:lkA K f12 q62 q62 Pg m12 h12)(c12:cdA K h12 q62)
  (a13:nsA K q42 f13)(l13:lkA K f13 q42 q42 Pc m13 h13)(c13:cdA K h13 q42)
  (a14:nsA K q57 f14)(l14:lkA K f14 q57 q57 Pj m14 h14)(c14:cdA K h14 q57)
  (a15:nsA K q58 f15)(l15:lkA K f15 q58 q58 O7 m15 h15)(c15:cdA K h15 q58)
  (a16:nsA K q27 f16)(l16:lkA K f16 q27 q27 Om m16 h16)(c16:cdA K h16 q27)
  (a17:nsA K q63 f17)(l17:lkA K f17 q63 q63 PC m17 h17)(c17:cdA K h17 q63)
  (a18:nsA K q69 f18)(l18:lkA K f18 q69 q69 Lh m18 h18)(c18:cdA K h18 q69)
  (a19:nsA K q33 f19)(l19:lkA K f19 q33 q33 P7 m19 h19)(c19:cdA K h19 q33)
  (a20:nsA K q65 f20)(l20:lkA K f20 q65 q65 R6 m20 h20)(c20:cdA K h20 q65)
  (a21:nsA K q54 f21)(l21:lkA K f21 q54 q54 Tj m21 h21)(c21:cdA K h21 q54)
  (a22:nsA K q44 f22)(l22:lkA K f22 q44 q44 Oi m22 h22)(c22:cdA K h22 q44)
  (a23:nsA K q53 f23)(l23:lkA K f23 q53 q53 Pu m23 h23)(c23:cdA K h23 q53)
  (a24:nsA K q64 f24)(l24:lkA K f24 q64 q64 PF m24 h24)(c24:cdA K h24 q64)
  (a25:nsA K q55 f25)(l25:lkA K f25 q55 q55 Nb m25 h25)(c25:cdA K h25 q55)
  (a26:nsA K q37 f26)(l26:lkA K f26 q37 q37 OA m26 h26)(c26:cdA K h26 q37)
  (a27:nsA K q43 f27)(l27:lkA K f27 q43 q43 W9 m27 h27)(c27:cdA K h27 q43)
  (a28:nsA K q83 f28)(l28:lkA K f28 q83 q83 PY m28 h28)(c28:cdA K h28 q83)
  (a29:nsA K q82 f29)(l29:lkA K f29 q82 q82 RW m29 h29)(c29:cdA K h29 q82)
  (a30:nsA K q84 f30)(l30:lkA K f30 q84 q84 Oc m30 h30)(c30:cdA K h30 q84)
  (a31:nsA K q16 f31)(l31:lkA K f31 q16 q16 Px m31 h31)(c31:cdA K h31 q16)
  (a32:nsA K q34 f32)(l32:lkA K f32 q34 q34 Qo m32 h32)(c32:cdA K h32 q34)
  (a33:nsA K q90 f33)(l33:lkA K f33 q90 q90 OU m33 h33)(c33:cdA K h33 q90)
  (a34:nsA K q36 f34)(l34:lkA K f34 q36 q36 SG m34 h34)(c34:cdA K h34 q36)
  (a35:nsA K q95 f35)(l35:lkA K f35 q95 q95 Q3 m35 h35)(c35:cdA K h35 q95)
  (a36:nsA K q45 f36)(l36:lkA K f36 q45 q45 RC m36 h36)(c36:cdA K h36 q45)
  (a37:nsA K "less" f37)(l37:lkA K f37 "less" "less" Mt m37 h37)(c37:cdA K h37 "less")
  (a38:nsA K q25 f38)(l38:lkA K f38 q25 q25 MY m38 h38)(c38:cdA K h38 q25)
  (a39:nsA K q74 f39)(l39:lkA K f39 q74 q74 Of m39 h39)(c39:cdA K h39 q74)
  (a40:fdA K X5 q6 f40)(l40:lkA K f40 q6 V8 NR m40 h40)(c40:cdA K h40 V8)
  (a41:fdA K Wg q6 f41)(l41:lkA K f41 q6 VV Mi m41 h41)(c41:cdA K h41 VV)
  (a42:nsA K q24 f42)(l42:lkA K f42 q24 q24 Lb m42 h42)(c42:cdA K h42 q24)
  (a43:fdA K XD q6 f43)(l43:lkA K f43 q6 VS Md m43 h43)(c43:cdA K h43 VS)
  (a44:nsA K q18 f44)(l44:lkA K f44 q18 q18 NA m44 h44)(c44:cdA K h44 q18)
  (a45:fdA K XQ q6 f45)(l45:lkA K f45 q6 Ue NX m45 h45)(c45:cdA K h45 Ue)
  (a46:nsA K q28 f46)(l46:lkA K f46 q28 q28 NK m46 h46)(c46:cdA K h46 q28)
  (a47:fdA K XM q6 f47)(l47:lkA K f47 q6 VQ M9 m47 h47)(c47:cdA K h47 VQ)
  (a48:nsA K q94 f48)(l48:lkA K f48 q94 q94 Q4 m48 h48)(c48:cdA K h48 q94)
  (a49:nsA K q31 f49)(l49:lkA K f49 q31 q31 So m49 h49)(c49:cdA K h49 q31)
  (a50:fdA K XX q6 f50)(l50:lkA K f50 q6 VY Pe m50 h50)(c50:cdA K h50 VY)
  (a51:fdA K X5 q3 f51)(l51:lkA K f51 q3 VF Q5 m51 h51)(c51:cdA K h51 VF)
  (a52:fdA K Wg q3 f52)(l52:lkA K f52 q3 Uj Mo m52 h52)(c52:cdA K h52 Uj)
  (a53:fdA K XD q3 f53)(l53:lkA K f53 q3 q19 LM m53 h53)(c53:cdA K h53 q19)
  (a54:fdA K XQ q3 f54)(l54:lkA K f54 q3 q19 OW m54 h54)(c54:cdA K h54 q19)
  (a55:fdA K XM q3 f55)(l55:lkA K f55 q3 q19 MB m55 h55)(c55:cdA K h55 q19)
  (a56:fdA K XX q3 f56)(l56:lkA K f56 q3 V0 NT m56 h56)(c56:cdA K h56 V0)
  (a57:nsA K q98 f57)(l57:lkA K f57 q98 q98 OD m57 h57)(c57:cdA K h57 q98)
  (a58:nsA K q50 f58)(l58:lkA K f58 q50 q50 SN m58 h58)(c58:cdA K h58 q50)
  (a59:nsA K q35 f59)(l59:lkA K f59 q35 q35 LG m59 h59)(c59:cdA K h59 q35)
  (a60:nsA K "sure" f60)(l60:lkA K f60 "sure" "sure" MN m60 h60)(c60:cdA K h60 "sure")
  (a61:nsA K q22 f61)(l61:lkA K f61 q22 q22 RM m61 h61)(c61:cdA K h61 q22)
  (a62:nsA K q96 f62)(l62:lkA K f62 q96 q96 LD m62 h62)(c62:cdA K h62 q96)
  (a63:nsA K XC f63)(l63:lkA K f63 XC XC RR m63 h63)(c63:cdA K h63 XC)
  (a64:nsA K q20 f64)(l64:lkA K f64 q20 q20 RS m64 h64)(c64:cdA K h64 q20)
  (a65:fdA K X5 q8 f65)(l65:lkA K f65 q8 VW NL m65 h65)(c65:cdA K h65 VW)
  (a66:fdA K Wg q8 f66)(l66:lkA K f66 q8 V6 QG m66 h66)(c66:cdA K h66 V6)
  (a67:fdA K XD q4 f67)(l67:lkA K f67 q4 q85 Np m67 h67)(c67:cdA K h67 q85)
  (a68:fdA K XD q8 f68)(l68:lkA K f68 q8 q46 Qi m68 h68)(c68:cdA K h68 q46)
  (a69:fdA K XQ q4 f69)(l69:lkA K f69 q4 q72 M8 m69 h69)(c69:cdA K h69 q72)
  (a70:fdA K XQ q8 f70)(l70:lkA K f70 q8 q46 QO m70 h70)(c70:cdA K h70 q46)
  (a71:fdA K XM q4 f71)(l71:lkA K f71 q4 q73 Pp m71 h71)(c71:cdA K h71 q73)
  (a72:fdA K XM q8 f72)(l72:lkA K f72 q8 q46 Qn m72 h72)(c72:cdA K h72 q46)
  (a73:nsA K q38 f73)(l73:lkA K f73 q38 q38 QX m73 h73)(c73:cdA K h73 q38)
  (a74:fdA K XX q8 f74)(l74:lkA K f74 q8 V1 Sm m74 h74)(c74:cdA K h74 V1)
  (a75:nsA K q41 f75)(l75:lkA K f75 q41 q41 SO m75 h75)(c75:cdA K h75 q41)
  (a76:nsA K q21 f76)(l76:lkA K f76 q21 q21 TY m76 h76)(c76:cdA K h76 q21)
  (a77:nsA K q77 f77)(l77:lkA K f77 q77 q77 O0 m77 h77)(c77:cdA K h77 q77)
  (a78:nsA K q17 f78)(l78:lkA K f78 q17 q17 Mu m78 h78)(c78:cdA K h78 q17)
  (a79:nsA K XS f79)(l79:lkA K f79 XS XS QH m79 h79)(c79:cdA K h79 XS)
  (a80:nsA K XE f80)(l80:lkA K f80 XE XE VG m80 h80)(c80:cdA K h80 XE)
  (a81:nsA K XI f81)(l81:lkA K f81 XI XI Su m81 h81)(c81:cdA K h81 XI)
  (a82:nsA K XG f82)(l82:lkA K f82 XG XG Qp m82 h82)(c82:cdA K h82 XG)
  (a83:nsA K "deep" f83)(l83:lkA K f83 "deep" "deep" LQ m83 h83)(c83:cdA K h83 "deep")
  (a84:nsA K q89 f84)(l84:lkA K f84 q89 q89 RZ m84 h84)(c84:cdA K h84 q89)
  (a85:nsA K q60 f85)(l85:lkA K f85 q60 q60 QY m85 h85)(c85:cdA K h85 q60)
  (a86:nsA K q78 f86)(l86:lkA K f86 q78 q78 O6 m86 h86)(c86:cdA K h86 q78)
  (a87:nsA K q51 f87)(l87:lkA K f87 q51 q51 MX m87 h87)(c87:cdA K h87 q51)
  (a88:nsA K q61 f88)(l88:lkA K f88 q61 q61 QS m88 h88)(c88:cdA K h88 q61)
  (a89:nsA K q81 f89)(l89:lkA K f89 q81 q81 Lq m89 h89)(c89:cdA K h89 q81)
  (a90:nsA K q66 f90)(l90:lkA K f90 q66 q66 Q2 m90 h90)(c90:cdA K h90 q66)
  (a91:nsA K "law" f91)(l91:lkA K f91 "law" "law" Wq m91 h91)(c91:cdA K h91 "law")
  (ZA:PySem.W.nsIn K mainGlobals "len"=some none)
  (ZK:PySem.W.nsIn K mainGlobals q87=some none)
  (Rx:PySem.W.nsIn K mainGlobals "abs"=some none)
  (Xf:PySem.W.nsIn K mainGlobals "min"=some none)
  (Wm:PySem.W.nsIn K mainGlobals "sorted"=some none)
  (XW:PySem.W.nsIn K mainGlobals "int"=some none)
  (QN:PySem.W.nsIn K mainGlobals "sum"=some none)
  (Xy:PySem.W.nsIn K mainGlobals "max"=some none)
  (YM:PySem.W.nsIn K mainGlobals "all"=some none)
  (Xe:PySem.W.nsIn K mainGlobals "list"=some none)
  (Ys:PySem.W.nsIn K mainGlobals "zip"=some none)
  (SQ:PySem.W.nsIn K mainGlobals "enumerate"=some none)
  (RV:PySem.W.nsIn K mainGlobals "tuple"=some none)
  :∃fd:FuncData,(∀(s:Shared)(v:Value),BindsTo s fd ⟨[v],[]⟩ [(q12,v)])/\∀base:Heap,K.In base->base.Ns mainGlobals mg->YL l.prog w K mg base (CXE l.prog w) 11 fa fd [q12] (upF K UY):=by
 have e:=hfa.symm.trans (PySem.W.mg_of X G a91);cases e
 let Zs:Xj K mg:=⟨X5,PySem.W.mg_of X G zbg,⟨zam,zbE,zav,Cm⟩,Aj,CN,zbZ,zc5⟩
 let Zv:Xb K mg:=⟨Wg,PySem.W.mg_of X G Dy,⟨Ey,zb3,zbH,zcm⟩,CZ,zaF,Ai⟩
 let Zm:Y7 K mg:=⟨XD,PySem.W.mg_of X G Bi,⟨EX,zaA,Dd,DG⟩,EF,BO,CF,EJ⟩
 let Zn:Y4 K mg:=⟨XQ,PySem.W.mg_of X G zbq,⟨CL,zb2,zat,BU⟩,EZ,Bx,AF,zao⟩
 let Zl:YZ K mg:=⟨XM,PySem.W.mg_of X G Ba,⟨za4,zbj,zau,zbs⟩,EE,Ei,Eh,AQ⟩
 let Zp:Xi K mg:=⟨XX,PySem.W.mg_of X G DZ,⟨BV,zan,zcY,By⟩,zbp,Ad,Ew,A8⟩
 let O4:Df K mg q40 O3 WZ:=dfo X G a0 l0 c0
 let PK:Df K mg q29 LC Wc:=dfo X G a1 l1 c1
 let Mz:Df K mg q79 QV Sg:=dfo X G a2 l2 c2
 let Pf:Df K mg q80 Lg SS:=dfo X G a3 l3 c3
 let M6:Df K mg q30 OG VE:=dfo X G a4 l4 c4
 let Me:Df K mg q52 Nr SD:=dfo X G a5 l5 c5
 let O2:Df K mg q91 Mf Qu:=dfo X G a6 l6 c6
 let Nn:Df K mg q92 Ma Sj:=dfo X G a7 l7 c7
 let PH:Df K mg q68 Pd Ux:=dfo X G a8 l8 c8
 let PB:Df K mg q23 Sy SU:=dfo X G a9 l9 c9
 let OJ:Df K mg q99 OI UT:=dfo X G a10 l10 c10
 let P9:Df K mg q70 Ol UQ:=dfo X G a11 l11 c11
 let OH:Df K mg q62 Pg RD:=dfo X G a12 l12 c12
 let Lc:Df K mg q42 Pc Th:=dfo X G a13 l13 c13
 let PU:Df K mg q57 Pj VJ:=dfo X G a14 l14 c14
 let NY:Df K mg q58 O7 V2:=dfo X G a15 l15 c15
 let PV:Df K mg q27 Om Uq:=dfo X G a16 l16 c16
 let OC:Df K mg q63 PC Sw:=dfo X G a17 l17 c17
 let Ms:Df K mg q69 Lh UW:=dfo X G a18 l18 c18
 let Lo:Df K mg q33 P7 UJ:=dfo X G a19 l19 c19
 let Lv:Df K mg q65 R6 Rc:=dfo X G a20 l20 c20
 let NV:Df K mg q54 Tj SF:=dfo X G a21 l21 c21
 let M0:Df K mg q44 Oi Rw:=dfo X G a22 l22 c22
 let O9:Df K mg q53 Pu RJ:=dfo X G a23 l23 c23
 let Ov:Df K mg q64 PF TZ:=dfo X G a24 l24 c24
 let Nq:Df K mg q55 Nb QQ:=dfo X G a25 l25 c25
 let ML:Df K mg q37 OA QF:=dfo X G a26 l26 c26
 let NQ:Df K mg q43 W9 RO:=dfo X G a27 l27 c27
 let Nz:Df K mg q83 PY RG:=dfo X G a28 l28 c28
 let Ny:Df K mg q82 RW Sr:=dfo X G a29 l29 c29
 let P5:Df K mg q84 Oc Rq:=dfo X G a30 l30 c30
 let M7:Df K mg q16 Px QC:=dfo X G a31 l31 c31
 let NB:Df K mg q34 Qo Up:=dfo X G a32 l32 c32
 let OQ:Df K mg q90 OU Qc:=dfo X G a33 l33 c33
 let Mb:Df K mg q36 SG QJ:=dfo X G a34 l34 c34
 let Lp:Df K mg q95 Q3 R4:=dfo X G a35 l35 c35
 let Mj:Df K mg q45 RC Ub:=dfo X G a36 l36 c36
 let OK:Df K mg "less" Mt Rz:=dfo X G a37 l37 c37
 let Q8:Df K mg q25 MY Uc:=dfo X G a38 l38 c38
 let Pb:Df K mg q74 Of Rj:=dfo X G a39 l39 c39
 let Oq:Dm K Zs.C q6 V8 NR RN:=dmo a40 l40 c40
 let NO:Dm K Zv.C q6 VV Mi RL:=dmo a41 l41 c41
 let NM:Df K mg q24 Lb WR:=dfo X G a42 l42 c42
 let Oy:Dm K Zm.C q6 VS Md Sq:=dmo a43 l43 c43
 let Oz:Df K mg q18 NA Vo:=dfo X G a44 l44 c44
 let Q7:Dm K Zn.C q6 Ue NX SA:=dmo a45 l45 c45
 let Lr:Df K mg q28 NK Vx:=dfo X G a46 l46 c46
 let MZ:Dm K Zl.C q6 VQ M9 QD:=dmo a47 l47 c47
 let Ls:Df K mg q94 Q4 SY:=dfo X G a48 l48 c48
 let OR:Df K mg q31 So TB:=dfo X G a49 l49 c49
 let LJ:Dm K Zp.C q6 VY Pe Qe:=dmo a50 l50 c50
 let Ox:Dm K Zs.C q3 VF Q5 Si:=dmo a51 l51 c51
 let Mc:Dm K Zv.C q3 Uj Mo SE:=dmo a52 l52 c52
 let LO:Dm K Zm.C q3 q19 LM SH:=dmo a53 l53 c53
 let NU:Dm K Zn.C q3 q19 OW R1:=dmo a54 l54 c54
 let PJ:Dm K Zl.C q3 q19 MB RF:=dmo a55 l55 c55
 let Ml:Dm K Zp.C q3 V0 NT Ry:=dmo a56 l56 c56
 let NH:Df K mg q98 OD TM:=dfo X G a57 l57 c57
 let Li:Df K mg q50 SN SV:=dfo X G a58 l58 c58
 let OE:Df K mg q35 LG T7:=dfo X G a59 l59 c59
 let M4:Df K mg "sure" MN Qf:=dfo X G a60 l60 c60
 let LH:Df K mg q22 RM Ss:=dfo X G a61 l61 c61
 let MC:Df K mg q96 LD Rr:=dfo X G a62 l62 c62
 let Ly:Df K mg XC RR SM:=dfo X G a63 l63 c63
 let My:Df K mg q20 RS UG:=dfo X G a64 l64 c64
 let Pm:Dm K Zs.C q8 VW NL RA:=dmo a65 l65 c65
 let MW:Dm K Zv.C q8 V6 QG QE:=dmo a66 l66 c66
 let NN:Dm K Zm.C q4 q85 Np Qx:=dmo a67 l67 c67
 let MG:Dm K Zm.C q8 q46 Qi Ri:=dmo a68 l68 c68
 let Lw:Dm K Zn.C q4 q72 M8 Qz:=dmo a69 l69 c69
 let Mp:Dm K Zn.C q8 q46 QO Ql:=dmo a70 l70 c70
 let LP:Dm K Zl.C q4 q73 Pp Ra:=dmo a71 l71 c71
 let Lx:Dm K Zl.C q8 q46 Qn QM:=dmo a72 l72 c72
 let P4:Df K mg q38 QX S6:=dfo X G a73 l73 c73
 let OX:Dm K Zp.C q8 V1 Sm Qg:=dmo a74 l74 c74
 let Od:Df K mg q41 SO Sv:=dfo X G a75 l75 c75
 let NJ:Df K mg q21 TY QR:=dfo X G a76 l76 c76
 let OM:Df K mg q77 O0 R5:=dfo X G a77 l77 c77
 let OZ:Df K mg q17 Mu U3:=dfo X G a78 l78 c78
 let Ni:Df K mg XS QH SI:=dfo X G a79 l79 c79
 let OP:Df K mg XE VG RH:=dfo X G a80 l80 c80
 let QZ:Df K mg XI Su Sn:=dfo X G a81 l81 c81
 let Ph:Df K mg XG Qp TV:=dfo X G a82 l82 c82
 let Nu:Df K mg "deep" LQ T8:=dfo X G a83 l83 c83
 let Oo:Df K mg q89 RZ Qw:=dfo X G a84 l84 c84
 let LN:Df K mg q60 QY Ru:=dfo X G a85 l85 c85
 let Ow:Df K mg q78 O6 SK:=dfo X G a86 l86 c86
 let Nm:Df K mg q51 MX QU:=dfo X G a87 l87 c87
 let Og:Df K mg q61 QS Qd:=dfo X G a88 l88 c88
 let Lm:Df K mg q81 Lq T9:=dfo X G a89 l89 c89
 let PX:Df K mg q66 Q2 Rb:=dfo X G a90 l90 c90
 let PQ:Df K mg "law" Wq Mw:=dfo X G a91 l91 c91
 have ZA:=PySem.W.mg_none_of X G ZA
 have ZK:=PySem.W.mg_none_of X G ZK
 have Rx:=PySem.W.mg_none_of X G Rx
 have Xf:=PySem.W.mg_none_of X G Xf
 have Wm:=PySem.W.mg_none_of X G Wm
 have XW:=PySem.W.mg_none_of X G XW
 have QN:=PySem.W.mg_none_of X G QN
 have Xy:=PySem.W.mg_none_of X G Xy
 have YM:=PySem.W.mg_none_of X G YM
 have Xe:=PySem.W.mg_none_of X G Xe
 have Ys:=PySem.W.mg_none_of X G Ys
 have SQ:=PySem.W.mg_none_of X G SQ
 have RV:=PySem.W.mg_none_of X G RV;refine⟨PySem.W.fnOf "law" "law" (WV Wq) (WE Wq) (Zo Wq) .none .none .none m91 none (.ref h91) .none,λs v=>.of_eq rfl,λbase _ _=>?_⟩
 let Xp:=zaP (P:=l.prog) (w:=w) (base:=base) O4 ZA
 let Yd:=Au PK Xp ZA
 let Kk:=C1 (P:=l.prog) (w:=w) (base:=base) Mz
 let Hl:=za0 Pf Xp Yd ZK
 let X2:=C9 (P:=l.prog) (w:=w) (base:=base) M6 Rx
 let Hk:=BQ Me X2
 let Jw:=zb5 O2 X2
 let R9:=Dl (P:=l.prog) (w:=w) (base:=base) Nn ZA
 let U5:=CT PH R9 Jw Hk ZA
 let Ho:=Dw PB Yd U5 ZK ZA Xf
 let Wk:=CD (P:=l.prog) (w:=w) (base:=base) OJ
 let Uy:=CA (P:=l.prog) (w:=w) (base:=base) P9
 let RP:=zbe (P:=l.prog) (w:=w) (base:=base) OH ZK
 let Td:=zaU Lc RP Wm
 let Ww:=EH (P:=l.prog) (w:=w) (base:=base) PU
 let Wr:=Bq (P:=l.prog) (w:=w) (base:=base) NY
 let XT:=zct (P:=l.prog) (w:=w) (base:=base) PV Wm
 let Hc:=zcz OC XT Wr Ww Td
 let Ta:=zar Ms Yd Xp
 let Uo:=zcA Lo Uy Ta Hc ZK ZA
 let Ki:=zcH Lv Wk X2 Uo
 let Ji:=Eb NV Wk Ki Yd X2 U5 Xp Ho ZK XW ZA
 let Hj:=Br (P:=l.prog) (w:=w) (base:=base) M0
 let Jr:=Cc O9 Td
 let JW:=zcO Ov Ww XT Wr Jr
 let L6:=D9 Nq Uy Ta JW ZK ZA
 let Mm:=C4 (P:=l.prog) (w:=w) (base:=base) ML
 let Hg:=zal NQ Mm ZK ZA QN XW
 let KJ:=EN Nz Yd Hg ZK ZA
 let Kt:=zbT Ny Ww XT Wr ZK ZA XW
 let Ja:=CU P5 Xp Yd ZK ZA Xy Xf
 let IW:=zbo (P:=l.prog) (w:=w) (base:=base) M7 ZA
 let WW:=zad (P:=l.prog) (w:=w) (base:=base) NB YM ZA
 let J2:=zas (P:=l.prog) (w:=w) (base:=base) OQ
 let KW:=CJ Mb J2 WW Wm Xe ZK ZA
 let Kb:=Ex (P:=l.prog) (w:=w) (base:=base) Lp
 let Ve:=zak Mj Kb YM Ys
 let IY:=Bt (P:=l.prog) (w:=w) (base:=base) OK
 let WY:=Ek (P:=l.prog) (w:=w) (base:=base) Q8
 let Kq:=AO Pb WY IY
 let JU:=zbu Zs Zv Zm Zn Zl Zp Oq Kq
 let Hf:=zaD (P:=l.prog) (w:=w) (base:=base) Zv Zs Zm Zn Zl Zp NO
 let Xn:=zcl (P:=l.prog) (w:=w) (base:=base) NM
 let K8:=Ds Zm Zs Zv Zn Zl Zp Oy Xn
 let XF:=Cp (P:=l.prog) (w:=w) (base:=base) Oz
 let Ia:=E5 Zn Zs Zv Zm Zl Zp Q7 XF
 let XH:=Bg Lr WY Xy Xf
 let IJ:=zbk Zl Zs Zv Zm Zn Zp MZ XH
 let N0:=C5 (P:=l.prog) (w:=w) (base:=base) Ls ZK
 let Ut:=DM OR WY N0 Xy Xf
 let IA:=DN Zp Zs Zv Zm Zn Zl LJ Ut
 let Tc:=zcc (P:=l.prog) (w:=w) (base:=base) Zs Ox
 let Tb:=zbW (P:=l.prog) (w:=w) (base:=base) Zv Mc
 let UH:=zc6 (P:=l.prog) (w:=w) (base:=base) Zm LO
 let Tf:=BP (P:=l.prog) (w:=w) (base:=base) Zn NU
 let Uv:=E1 (P:=l.prog) (w:=w) (base:=base) Zl PJ
 let UP:=zaj (P:=l.prog) (w:=w) (base:=base) Zp Ml
 let Ts:=Dp Zp Zl Zn Zm Zv Zs NH UP Uv Tf UH Tb Tc
 let Ha:=AB Zp Zl Zn Zm Zv Zs Li Ve IA IJ Ia K8 Hf JU Ts ZK ZA
 let Le:=Ct OE Ha ZA
 let IF:=CS (P:=l.prog) (w:=w) (base:=base) M4
 let Jn:=zcJ LH IF YM
 let KN:=zdf (P:=l.prog) (w:=w) (base:=base) MC
 let L5:=zba Ly KN
 let U7:=Ej My L5
 let Ir:=CM (P:=l.prog) (w:=w) (base:=base) Zs Zv Zm Zn Zl Zp Pm
 let J1:=DO (P:=l.prog) (w:=w) (base:=base) Zv Zs Zm Zn Zl Zp MW ZK
 let Qt:=AN Zm NN Xn
 let Jc:=Ac Zm Zs Zv Zn Zl Zp MG Qt Ys
 let QI:=Bm Zn Lw XF
 let IG:=C8 Zn Zs Zv Zm Zl Zp Mp QI Ys
 let Sh:=zbv Zl LP Xn XH
 let IX:=zc3 Zl Zs Zv Zm Zn Zp Lx Sh Ys
 let Ka:=zc1 (P:=l.prog) (w:=w) (base:=base) P4 Xy Xf
 let J7:=zbf Zp Zs Zv Zm Zn Zl OX XH Ka Ut
 let KZ:=zbw Zp Zl Zn Zm Zv Zs Od Ve J7 IX IG Jc J1 Ir Ts WW YM Ys ZA
 let JY:=zaQ (P:=l.prog) (w:=w) (base:=base) NJ
 let LW:=EI OM WW ZA
 let Uh:=E6 OZ Xn XH Ys
 let Kl:=zaR Ni XF Uh
 let Jt:=zbX OP Xn Uh XF Kl U7 Ys ZK ZA
 let IE:=AE QZ Jt SQ
 let OT:=Dh (P:=l.prog) (w:=w) (base:=base) Ph
 let J5:=DC (P:=l.prog) (w:=w) (base:=base) Nu
 let Kd:=Dq Oo J5 YM Ys
 let KI:=zbU LN Kd Ve IE OT LW JY ZA
 let KG:=zca Ow KI KZ Le U7 Jn
 let KL:=AD Nm KG
 let Kw:=BA Og KL KW YM ZK ZA
 let K7:=zcN (P:=l.prog) (w:=w) (base:=base) Lm ZK ZA
 let Jx:=DR PX K7 ZA ZK
 let G_law:=Cv PQ Jx Kw IW Yd Ja Kt KJ L6 Uo Hj Ji Hl Kk RV Xe ZA
 exact G_law.ok
end Mine
open PySem PySem.W PyProof.Rows
set_option maxRecDepth 100003 in
set_option maxHeartbeats 0 in
theorem PySem.Challenge.cw_boxnarrow_k68_whole_ones_by_a_model_holds : PySem.Challenge.rw_boxnarrow_k68_whole_ones_by_a_model.Holds := by
 w_on;refine PySem.W.holds_law Mine.ws_eq λsaid=>?_
 refine PySem.W.holds_open (q:=Mine.vw) (loose:=[]) (Xt:=Mine.xt) (XP:=XL Mine.vw []) (Yf:=Hook.obs (kHook Mine.kp Mine.ks Mine.US)) (Ya:=Hook.val (kHook Mine.kp Mine.ks Mine.US))
  (YP:=Hook.says (kHook Mine.kp Mine.ks Mine.US)) (N:=7782) Mine.left (Hook.of (kHook Mine.kp Mine.ks Mine.US)) (Hook.keeps (kHook Mine.kp Mine.ks Mine.US)) (λs e=>xl_of s (Bool.and_eq_true_iff.mp e).1) XL.keeps
  (by rfl) (by rfl) (by rfl) (λs e=>recFacts_of (Bool.and_eq_true_iff.mp e).2) (by rfl) (by first|assumption|decide +kernel)
  (by decide +kernel) ⟨rfl,rfl,rfl,rfl,rfl,by decide +kernel⟩ ?hw ?hc
 (case hw=>w_witness2)
 k_fill
 refine L3.za6 (l:=PySem.Challenge.rw_boxnarrow_k68_whole_ones_by_a_model) (x:="_law_script") 11 rfl rfl ⟨rfl,by decide,by decide⟩ (λw h Y=>PySem.W.kIn_of Y) ?F
 case F=>
  intro w mg fa h KX G hmg;apply Mine.Cb KX G hmg
  all_goals (try delta Mine.nsA Mine.fdA Mine.lkA Mine.cdA)
  all_goals first|k_is
