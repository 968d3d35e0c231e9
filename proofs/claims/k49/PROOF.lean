import PyProof.Rows.All
import Wide.All
import OpenK.AllK
import Wide.FinOn
import Lean
import PyProof.EqAt
import PyProof.EqKinds
import PyProof.TupleCall
import PySem.Challenge.RW_boxnarrow_k49_whole_alone_by_a_model
theorem zA:type_of% @List.length_map:=@List.length_map
theorem zC:type_of% @List.getElem?_eq_getElem:=@List.getElem?_eq_getElem
theorem zD:type_of% @Nat.le_refl:=@Nat.le_refl
theorem zF:type_of% @List.getElem?_eq_some_iff:=@List.getElem?_eq_some_iff
theorem zG:type_of% @List.getElem?_map:=@List.getElem?_map
theorem zH:type_of% @List.mem_map:=@List.mem_map
theorem zJ:type_of% @Int.toNat_natCast:=@Int.toNat_natCast
theorem zK:type_of% @List.getD_eq_getElem?_getD:=@List.getD_eq_getElem?_getD
theorem zL:type_of% @Nat.zero_le:=@Nat.zero_le
theorem zN:type_of% @List.mem_of_getElem?:=@List.mem_of_getElem?
theorem zO:type_of% @List.length_append:=@List.length_append
theorem zP:type_of% @Option.map_eq_some_iff:=@Option.map_eq_some_iff
theorem zQ:type_of% @List.mem_cons:=@List.mem_cons
theorem zS:type_of% @List.size_toArray:=@List.size_toArray
theorem zU:type_of% @List.map_map:=@List.map_map
theorem zV:type_of% @List.getElem?_append_left:=@List.getElem?_append_left
theorem zW:type_of% @List.length_take:=@List.length_take
theorem zX:type_of% @Nat.ne_of_lt:=@Nat.ne_of_lt
theorem zY:type_of% @List.length_cons:=@List.length_cons
theorem zZ:type_of% @List.getElem_mem:=@List.getElem_mem
theorem yA:type_of% @Bool.false_ne_true:=@Bool.false_ne_true
theorem yB:type_of% @List.take_of_length_le:=@List.take_of_length_le
theorem yC:type_of% @List.map_append:=@List.map_append
theorem yD:type_of% @Nat.lt_of_lt_of_le:=@Nat.lt_of_lt_of_le
theorem yE:type_of% @List.take_length:=@List.take_length
theorem yF:type_of% @List.mem_append:=@List.mem_append
theorem yG:type_of% @List.lookup_cons:=@List.lookup_cons
theorem yH:type_of% @Int.le_refl:=@Int.le_refl
theorem yI:type_of% @List.getElem?_append_right:=@List.getElem?_append_right
theorem yJ:type_of% @Nat.pow_pos:=@Nat.pow_pos
theorem yK:type_of% @Nat.le_trans:=@Nat.le_trans
theorem yL:type_of% @Nat.lt_irrefl:=@Nat.lt_irrefl
theorem yM:type_of% @List.getElem?_set_ne:=@List.getElem?_set_ne
theorem yN:type_of% @List.mem_append_right:=@List.mem_append_right
theorem yO:type_of% @Int.le_trans:=@Int.le_trans
theorem yP:type_of% @List.map_cons:=@List.map_cons
theorem yQ:type_of% @Int.neg_mul:=@Int.neg_mul
theorem yR:type_of% @List.not_mem_nil:=@List.not_mem_nil
theorem yS:type_of% @Int.pow_pos:=@Int.pow_pos
theorem yT:type_of% @List.getElem?_eq_none:=@List.getElem?_eq_none
theorem yU:type_of% @List.mem_cons_of_mem:=@List.mem_cons_of_mem
theorem yV:type_of% @Option.isSome_iff_exists:=@Option.isSome_iff_exists
theorem yW:type_of% @List.mem_iff_getElem:=@List.mem_iff_getElem
theorem yX:type_of% @List.getElem?_eq_none_iff:=@List.getElem?_eq_none_iff
theorem yY:type_of% @Nat.le_of_lt:=@Nat.le_of_lt
theorem yZ:type_of% @List.append_nil:=@List.append_nil
theorem xA:type_of% @List.length_drop:=@List.length_drop
theorem xB:type_of% @List.take_succ:=@List.take_succ
theorem xC:type_of% @List.length_nil:=@List.length_nil
theorem xD:type_of% @Int.pow_succ:=@Int.pow_succ
theorem xE:type_of% @List.length_range:=@List.length_range
theorem xF:type_of% @List.mem_singleton:=@List.mem_singleton
theorem xG:type_of% @List.mem_range:=@List.mem_range
theorem xH:type_of% @List.mem_cons_self:=@List.mem_cons_self
theorem xI:type_of% @List.getElem?_set_self:=@List.getElem?_set_self
theorem xJ:type_of% @Nat.sub_self:=@Nat.sub_self
theorem xK:type_of% @List.mem_of_mem_drop:=@List.mem_of_mem_drop
theorem xM:type_of% @List.replicate_succ:=@List.replicate_succ
theorem xN:type_of% @List.append_assoc:=@List.append_assoc
theorem xO:type_of% @Nat.mul_le_mul:=@Nat.mul_le_mul
theorem xP:type_of% @Bool.eq_iff_iff:=@Bool.eq_iff_iff
theorem xQ:type_of% @Nat.le_succ:=@Nat.le_succ
theorem xR:type_of% @List.flatten_cons:=@List.flatten_cons
theorem xS:type_of% @List.find?_cons:=@List.find?_cons
theorem xT:type_of% @Int.fdiv_eq_ediv_of_nonneg:=@Int.fdiv_eq_ediv_of_nonneg
theorem xU:type_of% @Int.pow_zero:=@Int.pow_zero
theorem xV:type_of% @List.getElem?_range:=@List.getElem?_range
theorem xW:type_of% @List.ext_getElem?:=@List.ext_getElem?
theorem xX:type_of% @List.mem_of_mem_take:=@List.mem_of_mem_take
set_option Elab.async false
set_option linter.all false
set_option maxRecDepth 100000
set_option genSizeOf false
set_option genInjectivity false
set_option maxHeartbeats 40000000
abbrev LI:=List (Int×Int)
abbrev LA:=List (PySem.Addr×PySem.Obj)
abbrev QW:=PySem.Challenge.pw_boxnarrow_k49_whole_alone_by_a_model
abbrev Fg:=PySem.W.Frag
namespace L2
open PySem PySem.Spec PyProof.Rows
def ZK (s:Stmt)(j:Nat):Stmt:=match s with
 | .ClassDef _ _ _ body _ _ _ _ _ _ _=>body.getD j (.Pass ⟨0,0,0,0⟩)
 | _=>.Pass ⟨0,0,0,0⟩
def Vt (s:Stmt):Arguments:=match s with
 | .FunctionDef _ a _ _ _ _ _ _ _ _=>a
 | _=>{ posonlyargs:=[],args:=[],vararg:=none,kwonlyargs:=[],kw_defaults:=[],kwarg:=none,defaults:=[] }
def WQ (s:Stmt):List Stmt:=match s with
 | .FunctionDef _ _ b _ _ _ _ _ _ _=>b
 | _=>[]
def Zj (s:Stmt):Scope:=match s with
 | .FunctionDef _ _ _ _ _ _ sc _ _ _=>sc
 | _=>{ kind:=.function,names:=[],isGenerator:=false,isCoroutine:=false }
end L2
namespace L3
open PySem PySem.W PyProof.Rows PySem.Calls
theorem Ec {α β γ δ:Type}{f:α->Option β}{A:β->γ}{B:β->δ}{a:γ}{b:δ}(h1:(λx=>(f x).map A)=λ_=>some a)(h2:(λx=>(f x).map B)=λ_=>some b):(λx=>(f x).map λs=>(A s,B s))=λ_=>some (a,b):=by
 funext x;have e1:=congrFun h1 x
 have e2:=congrFun h2 x;cases h:f x with
 | none=>rw[h] at e1;cases e1
 | some s=>
  rw[h] at e1 e2;exact congrArg some (Prod.ext (Option.some.inj e1) (Option.some.inj e2))
def goT (tb:String->Option Builtin)(p:Program)(w:World)(n₀:Nat)(ann:Option Value):Nat->SharedT->Thread->Option SharedT
 | 0,_,_=>none
 | k+1,s,t=>bif through t then some s else bif stepOk n₀ ann t then (stepT (denote tb) p w s t).bind (λr=>goT tb p w n₀ ann k r.1 r.2) else none
theorem ES:∀ {n:Nat} {s s':SharedT} {t:Thread},goT tb p w n₀ ann n s t=some s'->topRun tb p w n₀ ann n s.abs t=some s'.abs
 | 0,_,_,_,q=>nomatch q
 | n+1,s,s',t,q=>by
  unfold goT at q;unfold topRun;cases c1:through t
  ·rw[c1] at q;cases c2:stepOk n₀ ann t
   ·rw[c2] at q;exact nomatch q
   ·rw[c2] at q;obtain⟨⟨s2,t2⟩,c3,q⟩:=Option.bind_eq_some_iff.mp q;rw[stepT_spec c3];exact ES q
  ·rw[c1] at q;cases q;rfl
def GH (os:Array Obj):Nat->Nat->Nat->BT
 | 0,_,_=>.nil
 | f+1,a,b=>match os[b]? with
  | some o=>.node o (GH os f (2*a) (a+b)) (GH os f (2*a) (2*a+b))
  | none=>.nil
noncomputable def bootT (P:Params):BT:=GH (boot_heap P).objs 6 1 0
noncomputable abbrev QH (w:World)(os:OsState):SharedT:=⟨bootT w.params,11,(boot_heap w.params).life,Array.mk [],boot_drawn,boot_toks,os⟩
def Jt (s:SharedT)(a:Addr):Option Obj:=if a<s.n then (match s.tree.get a with|some o=>alive o|none=>s.abs.heap.get? a) else none
theorem zep (s:SharedT)(a:Addr):s.abs.heap.get? a=Jt s a:=by
 unfold Jt;split
 ·rename_i h;cases e:s.tree.get a with
  | none=>rfl
  | some o=>exact abs_get h e
 ·rename_i h;exact abs_get_none h
theorem zdy (l:List Addr)(s:SharedT):l.map s.abs.heap.get?=l.map (Jt s):=List.map_congr_left λa _=>zep s a
noncomputable abbrev seenT (p q:Program)(aK:List Str)(Xt:Shared->Bool){α:Type}(YT:SharedT->α)(g0:Bool)(w:World)(s:SharedT):=
 ((staticsOk (importedModules p.main.body) (boot_heap w.params) s.abs.heap&&namesBound p s.abs.heap&&gensDone s.abs&&laidKept (boot_heap w.params) s.abs.heap),openSeen q aK (importedModules p.main.body) Xt g0 s.abs,YT s)
noncomputable abbrev Ho (p:Program)(w:World)(s:SharedT):Bool:=staticsOk (importedModules p.main.body) (boot_heap w.params) s.abs.heap&&namesBound p s.abs.heap&&gensDone s.abs&&laidKept (boot_heap w.params) s.abs.heap
def goK (tb:String->Option Builtin)(p:Program)(w:World)(n₀:Nat)(ann:Option Value):Nat->SharedT->Thread->Option (SharedT×Thread)
 | 0,s,t=>some (s,t)
 | k+1,s,t=>bif through t then none else bif stepOk n₀ ann t then (stepT (denote tb) p w s t).bind (λr=>goK tb p w n₀ ann k r.1 r.2) else none
theorem DO:∀ {n:Nat} {s s':SharedT} {t t':Thread},goK tb p w n₀ ann n s t=some (s',t')->topGo tb p w n₀ ann n s.abs t=some (s'.abs,t')
 | 0,_,_,_,_,q=>by cases q;rfl
 | n+1,s,s',t,t',q=>by
  unfold goK at q;unfold topGo;cases c1:through t
  ·rw[c1] at q;cases c2:stepOk n₀ ann t
   ·rw[c2] at q;exact nomatch q
   ·rw[c2] at q;obtain⟨⟨s2,t2⟩,c3,q⟩:=Option.bind_eq_some_iff.mp q;rw[stepT_spec c3];exact DO q
  ·rw[c1] at q;exact nomatch q
theorem zaz {p:Program}{w:World}{os:OsState}{ann:Option Value}{env:Env}{c:Code}{posa posb q:Pos}{n0 nb N2 N:Nat}{Sa Sb s':SharedT}(hc:c=Code.body (behindTheImports p) env)
  (pre:goK treeTable p w 11 ann n0 (QH w os) (topStub p)=some (Sa,⟨denote treeTable c,c,posa,[topFrame q]⟩))
  (block:segRunT treeTable p w 11 ann 1 nb Sa (blockOf (behindTheImports p) env c posa [topFrame q])=some (.next,Sb,c,posb))
  (e:n0+(nb+N2)=N)(r:topRun treeTable p w 11 ann N2 Sb.abs (restOf (behindTheImports p) env c posb [topFrame q])=some s'.abs):topRun treeTable p w 11 ann N (QH w os).abs (topStub p)=some s'.abs:=by
 subst e hc;exact go_top (DO pre) (piece_block (segRun_of block) r)
theorem zbM {p:Program}{w:World}{ann:Option Value}{env:Env}{c:Code}{pos1 aQ q:Pos}{l:List Stmt}{n1 N2 m:Nat}{S1 S2 s':SharedT}
  (p1:segRunT treeTable p w 11 ann 1 n1 S1 (piecesOf (l.take m) env c pos1 [topFrame q])=some (.next,S2,c,aQ))
  (r:topRun treeTable p w 11 ann N2 S2.abs (restOf (l.drop m) env c aQ [topFrame q])=some s'.abs):topRun treeTable p w 11 ann (n1+N2) S1.abs (restOf l env c pos1 [topFrame q])=some s'.abs:=by
 have z:=piece_app (segRun_of p1) r;rw[List.take_append_drop] at z;exact z
theorem Bi {p q:Program}{aK:List Str}{Xt:Shared->Bool}{α:Type}{Yf:Shared->α}{YT:SharedT->α}{Ya:World->α}{N:Nat}{g0:Bool}{ann:Option Value}{go:World->OsState->Option SharedT}(hY:∀s:SharedT,Yf s.abs=YT s)(e:opening p=plainProg p.main.scope.names)(hN:Nat.ble 600 N=true)(f:∀s,fenceModules? p s=some s)
  (size:∀w:World,((boot_heap w.params).isNs mainGlobals&&(Array.mk []:Array GenState).size==0,(boot_heap w.params).objs.size,(boot_heap w.params).nsMap mainGlobals "__annotations__")=(true,11,ann))
  (hgo:∀w os s',go w os=some s'->topRun treeTable p w 11 ann N (QH w os).abs (topStub p)=some s'.abs)
  (run:∀w:World,(λos=>(go w os).map λs=>seenT p q aK Xt YT g0 w s)=λ_=>some (true,openGood q aK,Ya w)):LeftO p q aK Xt Yf Ya N g0:=λw=>by
 obtain⟨⟨h,gs,d,k,os⟩,e1,e'⟩:=zP.mp (boot_open e hN f w);obtain⟨rfl,rfl,rfl,rfl⟩:h=boot_heap w.params/\gs=Array.mk []/\d=boot_drawn/\k=boot_toks:=by simpa using e'
 obtain⟨y1,y2,y3⟩:_/\_/\_:=by simpa only [Prod.mk.injEq] using size w
 obtain⟨s',r1,r2⟩:=zP.mp (congrFun (run w) os);obtain⟨l1,l2,l3⟩:_/\_/\_:=by simpa only [Prod.mk.injEq] using r2
 have r:topRun treeTable p w 11 ann N ⟨boot_heap w.params,Array.mk [],boot_drawn,boot_toks,os⟩ (topStub p)=some s'.abs:=hgo w os s' r1
 have t:topFrom treeTable p w N ⟨boot_heap w.params,Array.mk [],boot_drawn,boot_toks,os⟩=some s'.abs:=by
  unfold topFrom;dsimp only;rw[y1,y2,y3,r];show (match staticsOk (importedModules p.main.body) (boot_heap w.params) s'.abs.heap&&namesBound p s'.abs.heap&&gensDone s'.abs&&laidKept (boot_heap w.params) s'.abs.heap with|true=>_|false=>_)=_;rw[l1]
 unfold openEnds;rw[e1];show Option.map _ (topFrom treeTable p w N _)=_;rw[t];exact congrArg some (Prod.ext l2 ((hY s').trans l3))
theorem BL {p q:Program}{aK:List Str}{Xt:Shared->Bool}{α:Type}{Yf:Shared->α}{YT:SharedT->α}{Ya:World->α}{N:Nat}{g0:Bool}{ann:Option Value}{go:World->OsState->Option SharedT}(hY:∀s:SharedT,Yf s.abs=YT s)(e:opening p=plainProg p.main.scope.names)(hN:Nat.ble 600 N=true)(f:∀s,fenceModules? p s=some s)
  (size:∀w:World,((boot_heap w.params).isNs mainGlobals&&(Array.mk []:Array GenState).size==0,(boot_heap w.params).objs.size,(boot_heap w.params).nsMap mainGlobals "__annotations__")=(true,11,ann))
  (hgo:∀w os s',go w os=some s'->topRun treeTable p w 11 ann N (QH w os).abs (topStub p)=some s'.abs)
  (ra:∀w:World,(λos=>(go w os).map λs=>(Ho p w s,(openSeen q aK (importedModules p.main.body) Xt g0 s.abs).1))=λ_=>some (true,(openGood q aK).1))
  (rb:∀w:World,(λos=>(go w os).map λs=>((openSeen q aK (importedModules p.main.body) Xt g0 s.abs).2.1,(openSeen q aK (importedModules p.main.body) Xt g0 s.abs).2.2.1))=λ_=>some ((openGood q aK).2.1,(openGood q aK).2.2.1))
  (rc:∀w:World,(λos=>(go w os).map λs=>(openSeen q aK (importedModules p.main.body) Xt g0 s.abs).2.2.2)=λ_=>some (openGood q aK).2.2.2)
  (objs:∀w:World,(λos=>(go w os).map YT)=λ_=>some (Ya w)):LeftO p q aK Xt Yf Ya N g0:=by
 refine Bi hY e hN f size hgo λw=>funext λos=>?_
 obtain⟨s1,a1,b1⟩:=zP.mp (congrFun (ra w) os);obtain⟨s2,a2,b2⟩:=zP.mp (congrFun (rb w) os);obtain⟨s3,a3,b3⟩:=zP.mp (congrFun (rc w) os);obtain⟨s4,a4,b4⟩:=zP.mp (congrFun (objs w) os);rw[a1] at a2 a3 a4;cases a2;cases a3;cases a4;obtain⟨l1,l2⟩:=Prod.mk.inj b1;obtain⟨l3,l4⟩:=Prod.mk.inj b2;have l5:openSeen q aK (importedModules p.main.body) Xt g0 s1.abs=openGood q aK:=Prod.ext l2 (Prod.ext l3 (Prod.ext l4 b3));rw[a1];show some (Ho p w s1,openSeen q aK (importedModules p.main.body) Xt g0 s1.abs,YT s1)=some (true,openGood q aK,Ya w);rw[l1,l5,b4]
def frc {α:Type}:BT->(BT->α)->α
 | .nil,k=>k .nil
 | .node o l r,k=>frc l λl'=>frc r λr'=>k (.node o l' r')
theorem Il:∀(t:BT)(k:BT->α),frc t k=k t
 | .nil,_=>rfl
 | .node o l r,k=>by
  show frc l (λl'=>frc r λr'=>k (.node o l' r'))=_;rw[Il l,Il r]
def odB:List Obj->List Obj
 | x::_::r=>x::odB r
 | l=>l
def evB:List Obj->List Obj
 | _::y::r=>y::evB r
 | _=>[]
def mkB:Nat->List Obj->BT
 | d+1,o::l=>.node o (mkB d (odB l)) (mkB d (evB l))
 | _,_=>.nil
abbrev tpO (l:List Value):Obj:=⟨.type "tuple",none,.seq ⟨l⟩ 0,#[]⟩
abbrev fdO (l:List Value):Obj:=⟨.none,none,.fields ⟨l⟩,#[]⟩
def nmO:Nat->List Str->List Value
 | _,[]=>[]
 | t,x::r=>.str x t::nmO (t+1) r
abbrev coO (n q:Str)(t j:Nat)(i k:Int)(a s:Nat)(y z:Value)(f:Nat):Obj:=⟨.type "code",none,.fields #[.str n t,.str q (t+1),.str "/claim/cut.py" (t+2),.int i 0,.int k 0,.int 0 0,.int 0 0,.int 3 0,.ref a,.bool Bool.true,.int 181 0,.ref s,.none,y,z,.ref f,.int j 0,.int i 0,.str "/claim/cut.py" (j+1)],#[]⟩
abbrev fuO (n q:Str)(st:Stmt)(m d:Value):Obj:=⟨.type "function",none,.func (PySem.W.fnOf n q (L2.Vt st) (L2.WQ st) (L2.Zj st) .none .none .none m none d .none),#[]⟩
abbrev fnO (n q:Str)(st:Stmt):Obj:=⟨.none,none,.func { PySem.W.fnOf n q (L2.Vt st) (L2.WQ st) (L2.Zj st) .none .none .none .none none .none .none with globals:=0 },#[]⟩
def df (n q:Str)(st:Stmt)(m:Value)(i k:Int)(a t:Nat)(vs:List Str):List Obj:=[tpO [],fdO [],tpO (nmO (t+3) vs),tpO [],fnO n q st,coO n q t (t+3+vs.length) i k a (a+1) (.ref (a+2)) (.ref (a+3)) (a+4),fuO n q st m (.ref (a+5))]
def dg (n q:Str)(st:Stmt)(m:Value)(i k:Int)(a t:Nat):List Obj:=[tpO [],fdO [],fnO n q st,coO n q t (t+3) i k a (a+1) .none .none (a+2),fuO n q st m (.ref (a+3))]
end L3
namespace Mine
open PySem PySem.Spec PyProof.Rows L2 L3
def top (i:Nat):Stmt:=QW.main.body.getD i (.Pass ⟨0,0,0,0⟩)
theorem ws_eq:PySem.W.OpenLaw.wellSaid PySem.Challenge.rw_boxnarrow_k49_whole_alone_by_a_model=true:=by
 unfold PySem.W.OpenLaw.wellSaid
 repeat' (with_reducible refine PySem.W.look_both ?_ ?_)
 all_goals decide +kernel
def vw:Program:={ QW with main:={ QW.main with body:=[top 0,top 2,top 3,top 4,top 5,top 6,top 7,top 8,top 10,top 11,top 13,top 14,top 16,top 17,top 18,top 19,top 20,top 21,top 22,top 23,top 24,top 26,top 27,top 28,top 29,top 30,top 31,top 32,top 33,top 34,top 36,top 37,top 39,top 41,top 42,top 43,top 44,top 45,top 46,top 47,top 48,top 49,top 50,top 51,top 52,top 53,top 54,top 56,top 57,top 58,top 59,top 60,top 61,top 62,top 63,top 64,top 65,top 66,top 67,top 68,top 69,top 70,top 71,top 72,top 73,top 74,top 75,top 76,top 77,top 78,top 79,top 80,top 81,top 82,top 83,top 84,top 85,top 86,top 87,top 88,top 89,top 90,top 91,top 92,top 93] } }
noncomputable abbrev de (P:Params)(s:Str)(t:Tok)(v:Value):DictEntry:=⟨PySem.PyData.keyHash P s,.str s t,v⟩
abbrev co (n q:Str)(a b c d:Tok)(i k:Int)(r s:Addr)(y z:Value)(t:Addr)(j:Int):Obj:=⟨.type "code",none,.fields #[.str n a,.str q b,.str "/claim/cut.py" c,.int i 0,.int k 0,.int 0 0,.int 0 0,.int 3 0,.ref r,.bool Bool.true,.int 181 0,.ref s,.none,y,z,.ref t,.int j 0,.int i 0,.str "/claim/cut.py" d],#[]⟩
abbrev fo (n q:Str)(st:Stmt)(m:Value)(c:Addr):Obj:=⟨.type "function",none,.func (PySem.W.fnOf n q (Vt st) (WQ st) (Zj st) .none .none .none m none (.ref c) .none),#[]⟩
abbrev q0:Str:="law_boxnarrow_k49_whole_alone_by_a_model"
abbrev q1:Str:="boxnarrow.kinds"
abbrev q2:Str:="__static_attributes__"
abbrev q3:Str:="__init__"
abbrev q4:Str:="slope_of_both"
abbrev q5:Str:="forth"
abbrev q6:Str:="__firstlineno__"
abbrev q7:Str:="_law_grid_here"
abbrev q8:Str:="slope"
abbrev q9:Str:="determinant"
abbrev q10:Str:="__module__"
abbrev q11:Str:="boxnarrow.spans"
abbrev q12:Str:="boxnarrow.matrices"
abbrev q13:Str:="cofactor"
abbrev q14:Str:="spans"
abbrev q15:Str:="_law_cell_here"
abbrev q16:Str:="inverse_entry"
abbrev q17:String:="object.__new__"
abbrev q18:Str:="_law_nodes"
abbrev q19:Str:="equation_places"
abbrev q20:Str:="sum_of_products"
abbrev q21:Str:="boxnarrow.alone"
abbrev q22:String:="object.__init_subclass__"
abbrev q23:Str:="take_spans"
abbrev q24:Str:="Pair.__init__"
abbrev q25:Str:="box_of_middles"
abbrev q26:Str:="leasts_are_sure"
abbrev q27:Str:="_law_any_system"
abbrev q28:Str:="add_spans"
abbrev q29:Str:="rounded_up"
abbrev q30:Str:="_law_product"
abbrev q31:Str:="mul_spans"
abbrev q32:Str:="inverse_row"
abbrev q33:Str:="_law_lowest"
abbrev q34:Str:="raise_span"
abbrev q35:Str:="_law_spans_here"
abbrev q36:Str:="_law_cofactor"
abbrev q37:Str:="scale_span"
abbrev q38:Str:="__doc__"
abbrev q39:Str:="thin_worths"
abbrev q40:Str:="_law_raised"
abbrev q41:Str:="_law_worths"
abbrev q42:Str:="_law_changed"
abbrev q43:Str:="_law_inverse"
abbrev q44:Str:="_law_script"
abbrev q45:Str:="Pair.slope"
abbrev q46:Str:="_law_cell"
abbrev q47:Str:="without"
abbrev q48:Str:="_law_little"
abbrev q49:Str:="_law_factor"
abbrev q50:Str:="_law_slopes"
abbrev q51:Str:="_law_linear"
abbrev q52:Str:="_law_system"
abbrev q53:Str:="_law_whole"
abbrev q54:Str:="_law_spans"
abbrev q55:String:="object"
abbrev q56:Str:="_law_free"
abbrev q57:Str:="_law_plus"
abbrev q58:Str:="_law_less"
abbrev q59:String:="type.__prepare__"
abbrev q60:Str:="worths"
abbrev q61:Str:="slants"
abbrev q62:Str:="_law_box"
abbrev q63:Str:="_law_often"
abbrev q64:Str:="_law_forth"
abbrev q65:Str:="_law_slope"
abbrev q66:Str:="_law_shift"
abbrev q67:Str:="_law_alike"
abbrev q68:Str:="_law_entry"
abbrev q69:Str:="second_left"
abbrev q70:Str:="slopes_at"
abbrev q71:Str:="_law_grow"
abbrev q72:Str:="_law_step"
abbrev q73:Str:="signed"
abbrev q74:Str:="exact"
abbrev q75:Str:="Minus.slope_of_both"
abbrev q76:Str:="Times.slope_of_both"
abbrev q77:Str:="inverse"
abbrev q78:Str:="span_of"
abbrev q79:Str:="_law_at"
abbrev q80:Str:="boxnarrow.errors"
abbrev q81:Str:="first_left"
abbrev q82:Str:="_law_span"
abbrev q83:Str:="_law_grid"
abbrev q84:Str:="_law_room"
abbrev q85:Str:="_law_deep"
abbrev q86:Str:="_law_sure"
abbrev q87:Str:="Plus.slope_of_both"
abbrev q88:Str:="_law_size"
abbrev q89:Str:="_law_rows"
abbrev q90:Str:="_law_found"
abbrev q91:Str:="all_deep"
abbrev q92:Str:="_law_any"
abbrev q93:Str:="_law_put"
abbrev q94:Str:="_law_sum"
abbrev q95:Str:="_law_due"
abbrev q96:Str:="unknowns"
abbrev q97:Str:="raised"
abbrev q98:Str:="middle"
abbrev q99:Str:="kind_of"
abbrev XZ:Str:="middles"
abbrev XS:Str:="step_by"
abbrev U3:Str:="Unknown.__init__"
abbrev VA:Str:="__qualname__"
abbrev Sn:String:="object.__setattr__"
abbrev Ur:Str:="Number.__init__"
abbrev We:Str:="lacking"
abbrev Wf:Str:="span_by"
abbrev XO:Str:="picked"
abbrev XR:Str:="matrix"
abbrev XX:Str:="_law_a"
abbrev Xz:Str:="range"
abbrev W7:Str:="_law_node"
abbrev Ve:Str:="_law_many"
abbrev Vm:Str:="_law_made"
abbrev Us:Str:="Unknown.forth"
abbrev UC:Str:="Unknown.slope"
abbrev Wa:Str:="slopes"
abbrev Uy:Str:="Number.forth"
abbrev UT:Str:="Number.slope"
abbrev Rn:Str:="Power.__init__"
abbrev Wk:Str:="_law_k"
abbrev X3:Str:="alone"
abbrev UQ:Str:="Minus.forth"
abbrev UZ:Str:="Times.forth"
abbrev UR:String:="ValueError"
abbrev KS:Str:="boxnarrow.fractions"
abbrev Ux:Str:="Plus.forth"
abbrev Wl:Str:="other"
abbrev UY:Str:="_law_heavy"
abbrev Wr:Str:="nodes"
abbrev MZ:String:="ValueError.__new__"
abbrev Vl:Str:="column"
abbrev Tt:Str:="__weakref__"
abbrev Su:Str:="Power.forth"
abbrev SH:Str:="Power.slope"
abbrev Tg:Str:="__setattr__"
abbrev UD:Str:="enumerate"
abbrev Uk:Str:="Unknown"
abbrev VB:Str:="bottom"
abbrev VI:Str:="places"
abbrev Uq:Str:="BoxError"
abbrev QE:Str:="_law_at_here"
abbrev Sx:Str:="_law_turn"
abbrev Uc:Str:="Number"
abbrev VS:Str:="number"
abbrev Mj:String:="BaseException"
abbrev Q6:Str:="_law_parts"
abbrev TJ:Str:="_law_row"
abbrev Tn:Str:="_law_ats"
abbrev RI:Str:="isinstance"
abbrev q151:String:="getset_descriptor"
abbrev Pb:Str:="_law_thin"
abbrev P8:Str:="_law_near"
abbrev r (n:Addr):Value:=.ref n
abbrev sr (n:Addr):Option Value:=some (.ref n)
noncomputable abbrev dr (P:Params)(s:Str)(t:Tok)(n:Addr):DictEntry:=de P s t (.ref n)
noncomputable abbrev dn (P:Params)(s:Str)(t:Tok):DictEntry:=de P s t .none
abbrev dO (l:Array DictEntry)(n:Nat):Obj:=.mk (.type "dict") none (.dict l n) #[]
abbrev bO (s:String)(v:Value):Obj:=.mk (.type "builtin_function_or_method") none (.fields #[.builtin s,v]) #[]
abbrev cO (a:Str)(t1:Tok)(b:Str)(t2 t3:Tok)(l:Int)(x:Addr)(m:Int)(y:Addr)(k l2:Int)(t4:Tok):Obj:=.mk (.type "code") none (.fields #[.str a t1,.str b t2,.str "/claim/cut.py" t3,.int l 0,.int 0 0,.int 0 0,.int 0 0,.int 0 0,.ref x,.bool Bool.false,.int m 0,.ref y,.none,.none,.none,.none,.int k 0,.int l2 0,.str "/claim/cut.py" t4]) #[]
abbrev gO (a b c:Addr)(s:Value)(d:Addr):Obj:=.mk (.type "frame") none .plain #[some (.ref a),some (.ref b),some (.ref c),none,some s,none,some (.ref d)]
abbrev cp (n q:Str)(t:Tok)(i k:Int)(a:Addr)(j:Tok):Obj:=co n q t (t+1) (t+2) (j+1) i k a (a+1) (.ref (a+2)) (.ref (a+3)) (a+4) j
abbrev fp (n q:Str)(k:Nat)(m:Str)(t:Tok)(c:Addr):Obj:=fo n q (top k) (.str m t) c
abbrev fq (l:List (Int×Addr))(c:Int):Obj:=fdO (l.flatMap λx=>[.int x.1 0,.int c 0,.ref x.2])
abbrev tyO (nw:String)(n:Str)(bs ms:List Value)(d:Addr)(ss:List Value)(b:Addr)(t1 t2:Tok):Obj:=.mk (.type "type") none (.cls (PySem.ClassData.mk n bs ms d n Bool.true [] ss Bool.false none Bool.false)) #[some (.ref b),none,some (.str n t1),some (.str n t2),some (.builtin nw),some (.bool Bool.true)]
abbrev uO (a:Addr):Obj:=.mk (.type "super") none (.fields #[.ref a,.ref a,.ref a]) #[]
noncomputable def kp:Params->PySem.W.Frag:=λP=>
 (nat_lit 3,(dO #[(de P "__name__" 165 (.str q0 989)),(dn P q38 166),(dn P "__package__" 167),(de P "__loader__" 168 (.builtin "__main__.__loader__#opaque")),(dn P "__spec__" 169),(dr P "__annotations__" 170 6),(dr P "__builtins__" 171 4),(de P "__file__" 173 (.str "/claim/cut.py" 172)),(dn P "__cached__" 174),(dr P "_wall" 193 21),(dr P q73 203 28),(dr P q47 209 33),(dr P q13 218 40),(dr P q9 224 45),(dr P q16 235 52),(dr P q32 241 57),(dr P q77 247 62),(dr P Uq 267 72),(dr P "NoSpan" 283 85),(dr P q97 295 94),(dr P "less" 303 101),(dr P q29 313 108),(dr P q78 322 115),(dr P q28 330 122),(dr P q23 338 129),(dr P q31 348 136),(dr P q34 354 141),(dr P q37 362 148),(dr P "deep" 370 155),(dr P q98 377 162),(dr P "Node" 399 172),(dr P Uc 467 221),(dr P Uk 527 266),(dr P "Pair" 570 297),(dr P "Plus" 639 344),(dr P "Minus" 708 391),(dr P "Times" 777 438),(dr P "Power" 839 483),(dr P q99 846 492),(dr P q60 859 499),(dr P "sure" 867 506),(dr P Wa 881 513),(dr P q19 889 518),(dr P XO 895 523),(dr P XZ 901 528),(dr P q25 907 533),(dr P q20 919 540),(dr P We 925 545),(dr P Wf 931 550),(dr P XS 937 555),(dr P q39 947 562),(dr P q70 957 569),(dr P "step" 970 576),(dr P q26 976 581),(dr P q91 982 586),(dr P X3 988 591),(dr P q56 997 598),(dr P q46 1008 605),(dr P q92 1015 612),(dr P q53 1022 619),(dr P q82 1029 626),(dr P q54 1038 633),(dr P q33 1048 640),(dr P q48 1055 647),(dr P q93 1065 654),(dr P q71 1082 661),(dr P q83 1089 668),(dr P q63 1099 675),(dr P q57 1107 682),(dr P q58 1115 689),(dr P q30 1125 696),(dr P q40 1136 703),(dr P q64 1149 710),(dr P q41 1160 717),(dr P q49 1169 724),(dr P q65 1183 731),(dr P q50 1189 736),(dr P q79 1197 743),(dr P q94 1207 750),(dr P q51 1219 757),(dr P q66 1225 762),(dr P q27 1231 767),(dr P q52 1237 772),(dr P q84 1251 779),(dr P q85 1260 786),(dr P q42 1270 793),(dr P q72 1276 798),(dr P q36 1288 805),(dr P q43 1294 810),(dr P q86 1303 817),(dr P q95 1309 822),(dr P q67 1319 829),(dr P q68 1326 836),(dr P "law" 1332 841)] 94))::
 (nat_lit 27,cp q73 q73 196 5 2 22 201)::
 (nat_lit 28,fp q73 q73 2 q12 194 27)::
 (nat_lit 32,co q47 q47 204 205 206 208 7 3 29 30 .none .none 31 207)::
 (nat_lit 33,fp q47 q47 3 q12 194 32)::
 (nat_lit 39,cp q13 q13 210 10 3 34 216)::
 (nat_lit 40,fp q13 q13 4 q12 194 39)::
 (nat_lit 44,co q9 q9 219 220 221 223 12 1 41 42 .none .none 43 222)::
 (nat_lit 45,fp q9 q9 5 q12 194 44)::
 (nat_lit 51,cp q16 q16 225 16 5 46 233)::
 (nat_lit 52,fp q16 q16 6 q12 194 51)::
 (nat_lit 56,co q32 q32 236 237 238 240 18 4 53 54 .none .none 55 239)::
 (nat_lit 57,fp q32 q32 7 q12 194 56)::
 (nat_lit 61,co q77 q77 242 243 244 246 20 2 58 59 .none .none 60 245)::
 (nat_lit 62,fp q77 q77 8 q12 194 61)::
 (nat_lit 71,(dO #[(de P q10 257 (.str q80 248)),(de P q6 261 (.int 26 260)),(dr P q2 262 70),(dr P Tt 264 73),(dn P q38 265)] 3))::
 (nat_lit 72,(tyO MZ Uq [(.type UR)] [(r 72),(.type UR),(.type "Exception"),(.type Mj),(.type q55)] 71 [(r 85)] 63 250 258))::
 (nat_lit 84,(dO #[(de P q10 275 (.str q80 248)),(de P q6 279 (.int 28 278)),(dr P q2 280 83),(dn P q38 281)] 2))::
 (nat_lit 85,(tyO MZ "NoSpan" [(r 72)] [(r 85),(r 72),(.type UR),(.type "Exception"),(.type Mj),(.type q55)] 84 [] 76 268 276))::
 (nat_lit 93,cp q97 q97 286 31 2 88 293)::
 (nat_lit 94,fp q97 q97 13 KS 284 93)::
 (nat_lit 100,cp "less" "less" 296 36 2 95 301)::
 (nat_lit 101,fp "less" "less" 14 KS 284 100)::
 (nat_lit 107,cp q29 q29 306 39 2 102 311)::
 (nat_lit 108,fp q29 q29 16 q11 304 107)::
 (nat_lit 114,cp q78 q78 314 41 3 109 320)::
 (nat_lit 115,fp q78 q78 17 q11 304 114)::
 (nat_lit 121,cp q28 q28 323 45 2 116 328)::
 (nat_lit 122,fp q28 q28 18 q11 304 121)::
 (nat_lit 128,cp q23 q23 331 47 2 123 336)::
 (nat_lit 129,fp q23 q23 19 q11 304 128)::
 (nat_lit 135,cp q31 q31 339 49 3 130 346)::
 (nat_lit 136,fp q31 q31 20 q11 304 135)::
 (nat_lit 140,co q34 q34 349 350 351 353 52 3 137 138 .none .none 139 352)::
 (nat_lit 141,fp q34 q34 21 q11 304 140)::
 (nat_lit 147,cp q37 q37 355 59 2 142 360)::
 (nat_lit 148,fp q37 q37 22 q11 304 147)::
 (nat_lit 154,cp "deep" "deep" 363 61 2 149 368)::
 (nat_lit 155,fp "deep" "deep" 23 q11 304 154)::
 (nat_lit 161,cp q98 q98 371 63 1 156 375)::
 (nat_lit 162,fp q98 q98 24 q11 304 161)::
 (nat_lit 171,(dO #[(de P q10 387 (.str q1 378)),(de P q6 391 (.int 66 390)),(dr P q2 392 170),(dr P "__dict__" 394 173),(dr P Tt 396 174),(dn P q38 397)] 4))::
 (nat_lit 172,(.mk (.type "type") none (.cls (PySem.ClassData.mk "Node" [(.type q55)] [(r 172),(.type q55)] 171 "Node" Bool.true [] [(r 221),(r 266),(r 297),(r 483)] Bool.false none Bool.false)) #[none,none,(some (.str "Node" 380)),(some (.str "Node" 388)),(some (.builtin q17)),(some (.bool Bool.true))]))::
 (nat_lit 189,cp q3 Ur 412 70 3 184 418)::
 (nat_lit 190,fo q3 Ur (ZK (top 27) 0) (.str q1 378) 189)::
 (nat_lit 203,cp q5 Uy 430 77 4 198 438)::
 (nat_lit 204,fo q5 Uy (ZK (top 27) 2) (.str q1 378) 203)::
 (nat_lit 217,cp q8 UT 451 84 5 212 459)::
 (nat_lit 218,fo q8 UT (ZK (top 27) 4) (.str q1 378) 217)::
 (nat_lit 220,(dO #[(de P q10 407 (.str q1 378)),(de P q6 411 (.int 68 410)),(dr P q3 420 190),(dr P q74 429 197),(dr P q5 440 204),(dr P "back" 450 211),(dr P q8 461 218),(dr P q2 464 219),(dn P q38 465)] 2))::
 (nat_lit 221,(tyO q17 Uc [(r 172)] [(r 221),(r 172),(.type q55)] 220 [] 177 400 408))::
 (nat_lit 236,cp q3 U3 480 88 2 231 485)::
 (nat_lit 237,fo q3 U3 (ZK (top 28) 0) (.str q1 378) 236)::
 (nat_lit 250,cp q5 Us 497 94 4 245 504)::
 (nat_lit 251,fo q5 Us (ZK (top 28) 2) (.str q1 378) 250)::
 (nat_lit 262,co q8 UC 517 518 519 521 100 5 259 260 .none .none 261 520)::
 (nat_lit 263,fo q8 UC (ZK (top 28) 4) (.str q1 378) 262)::
 (nat_lit 265,(dO #[(de P q10 475 (.str q1 378)),(de P q6 479 (.int 86 478)),(dr P q3 487 237),(dr P q74 496 244),(dr P q5 506 251),(dr P "back" 516 258),(dr P q8 522 263),(dr P q2 524 264),(dn P q38 525)] 2))::
 (nat_lit 266,(tyO q17 Uk [(r 172)] [(r 266),(r 172),(.type q55)] 265 [] 224 468 476))::
 (nat_lit 281,cp q3 q24 540 104 3 276 546)::
 (nat_lit 282,fo q3 q24 (ZK (top 29) 0) (.str q1 378) 281)::
 (nat_lit 293,co q8 q45 559 560 561 563 111 5 290 291 .none .none 292 562)::
 (nat_lit 294,fo q8 q45 (ZK (top 29) 2) (.str q1 378) 293)::
 (nat_lit 296,(dO #[(de P q10 535 (.str q1 378)),(de P q6 539 (.int 102 538)),(dr P q3 548 282),(dr P "back" 558 289),(dr P q8 564 294),(dr P q2 567 295),(dn P q38 568)] 2))::
 (nat_lit 297,(tyO q17 "Pair" [(r 172)] [(r 297),(r 172),(.type q55)] 296 [(r 344),(r 391),(r 438)] 269 528 536))::
 (nat_lit 319,cp q5 Ux 592 120 4 314 599)::
 (nat_lit 320,fo q5 Ux (ZK (top 30) 1) (.str q1 378) 319)::
 (nat_lit 340,cp q4 q87 624 129 6 335 633)::
 (nat_lit 341,fo q4 q87 (ZK (top 30) 4) (.str q1 378) 340)::
 (nat_lit 343,(dO #[(de P q10 578 (.str q1 378)),(de P q6 582 (.int 115 581)),(dr P q74 591 313),(dr P q5 601 320),(dr P q81 612 327),(dr P q69 623 334),(dr P q4 635 341),(dr P q2 636 342),(dn P q38 637)] 2))::
 (nat_lit 344,(tyO q17 "Plus" [(r 297)] [(r 344),(r 297),(r 172),(.type q55)] 343 [] 300 571 579))::
 (nat_lit 366,cp q5 UQ 661 136 4 361 668)::
 (nat_lit 367,fo q5 UQ (ZK (top 31) 1) (.str q1 378) 366)::
 (nat_lit 387,cp q4 q75 693 145 6 382 702)::
 (nat_lit 388,fo q4 q75 (ZK (top 31) 4) (.str q1 378) 387)::
 (nat_lit 390,(dO #[(de P q10 647 (.str q1 378)),(de P q6 651 (.int 131 650)),(dr P q74 660 360),(dr P q5 670 367),(dr P q81 681 374),(dr P q69 692 381),(dr P q4 704 388),(dr P q2 705 389),(dn P q38 706)] 2))::
 (nat_lit 391,(tyO q17 "Minus" [(r 297)] [(r 391),(r 297),(r 172),(.type q55)] 390 [] 347 640 648))::
 (nat_lit 413,cp q5 UZ 730 152 4 408 737)::
 (nat_lit 414,fo q5 UZ (ZK (top 32) 1) (.str q1 378) 413)::
 (nat_lit 434,cp q4 q76 762 161 6 429 771)::
 (nat_lit 435,fo q4 q76 (ZK (top 32) 4) (.str q1 378) 434)::
 (nat_lit 437,(dO #[(de P q10 716 (.str q1 378)),(de P q6 720 (.int 147 719)),(dr P q74 729 407),(dr P q5 739 414),(dr P q81 750 421),(dr P q69 761 428),(dr P q4 773 435),(dr P q2 774 436),(dn P q38 775)] 2))::
 (nat_lit 438,(tyO q17 "Times" [(r 297)] [(r 438),(r 297),(r 172),(.type q55)] 437 [] 394 709 717))::
 (nat_lit 453,cp q3 Rn 790 165 3 448 796)::
 (nat_lit 454,fo q3 Rn (ZK (top 33) 0) (.str q1 378) 453)::
 (nat_lit 467,cp q5 Su 808 172 4 462 815)::
 (nat_lit 468,fo q5 Su (ZK (top 33) 2) (.str q1 378) 467)::
 (nat_lit 479,co q8 SH 828 829 830 832 178 5 476 477 .none .none 478 831)::
 (nat_lit 480,fo q8 SH (ZK (top 33) 4) (.str q1 378) 479)::
 (nat_lit 482,(dO #[(de P q10 785 (.str q1 378)),(de P q6 789 (.int 163 788)),(dr P q3 798 454),(dr P q74 807 461),(dr P q5 817 468),(dr P "back" 827 475),(dr P q8 833 480),(dr P q2 836 481),(dn P q38 837)] 2))::
 (nat_lit 483,(tyO q17 "Power" [(r 172)] [(r 483),(r 172),(.type q55)] 482 [] 441 778 786))::
 (nat_lit 491,cp q99 q99 840 182 1 486 844)::
 (nat_lit 492,fp q99 q99 34 q1 378 491)::
 (nat_lit 498,cp q60 q60 849 195 3 493 857)::
 (nat_lit 499,fp q60 q60 36 "boxnarrow.worths" 847 498)::
 (nat_lit 505,cp "sure" "sure" 860 200 2 500 865)::
 (nat_lit 506,fp "sure" "sure" 37 "boxnarrow.worths" 847 505)::
 (nat_lit 512,cp Wa Wa 870 205 3 507 879)::
 (nat_lit 513,fp Wa Wa 39 "boxnarrow.sloping" 868 512)::
 (nat_lit 517,co q19 q19 884 885 886 888 212 1 514 515 .none .none 516 887)::
 (nat_lit 518,fp q19 q19 41 q21 882 517)::
 (nat_lit 522,co XO XO 890 891 892 894 214 2 519 520 .none .none 521 893)::
 (nat_lit 523,fp XO XO 42 q21 882 522)::
 (nat_lit 527,co XZ XZ 896 897 898 900 216 1 524 525 .none .none 526 899)::
 (nat_lit 528,fp XZ XZ 43 q21 882 527)::
 (nat_lit 532,co q25 q25 902 903 904 906 218 1 529 530 .none .none 531 905)::
 (nat_lit 533,fp q25 q25 44 q21 882 532)::
 (nat_lit 539,cp q20 q20 908 220 3 534 917)::
 (nat_lit 540,fp q20 q20 45 q21 882 539)::
 (nat_lit 544,co We We 920 921 922 924 225 5 541 542 .none .none 543 923)::
 (nat_lit 545,fp We We 46 q21 882 544)::
 (nat_lit 549,co Wf Wf 926 927 928 930 229 6 546 547 .none .none 548 929)::
 (nat_lit 550,fp Wf Wf 47 q21 882 549)::
 (nat_lit 554,co XS XS 932 933 934 936 236 5 551 552 .none .none 553 935)::
 (nat_lit 555,fp XS XS 48 q21 882 554)::
 (nat_lit 561,cp q39 q39 938 238 4 556 945)::
 (nat_lit 562,fp q39 q39 49 q21 882 561)::
 (nat_lit 568,cp q70 q70 948 240 4 563 955)::
 (nat_lit 569,fp q70 q70 50 q21 882 568)::
 (nat_lit 575,cp "step" "step" 958 242 5 570 968)::
 (nat_lit 576,fp "step" "step" 51 q21 882 575)::
 (nat_lit 580,co q26 q26 971 972 973 975 246 2 577 578 .none .none 579 974)::
 (nat_lit 581,fp q26 q26 52 q21 882 580)::
 (nat_lit 585,co q91 q91 977 978 979 981 248 2 582 583 .none .none 584 980)::
 (nat_lit 586,fp q91 q91 53 q21 882 585)::
 (nat_lit 590,co X3 X3 983 984 985 987 250 4 587 588 .none .none 589 986)::
 (nat_lit 591,fp X3 X3 54 q21 882 590)::
 (nat_lit 597,cp q56 q56 991 263 1 592 995)::
 (nat_lit 598,fp q56 q56 56 q0 989 597)::
 (nat_lit 604,cp q46 q46 998 265 2 599 1006)::
 (nat_lit 605,fp q46 q46 57 q0 989 604)::
 (nat_lit 611,cp q92 q92 1009 278 1 606 1013)::
 (nat_lit 612,fp q92 q92 58 q0 989 611)::
 (nat_lit 618,cp q53 q53 1016 280 1 613 1020)::
 (nat_lit 619,fp q53 q53 59 q0 989 618)::
 (nat_lit 625,cp q82 q82 1023 282 1 620 1027)::
 (nat_lit 626,fp q82 q82 60 q0 989 625)::
 (nat_lit 632,cp q54 q54 1030 286 2 627 1036)::
 (nat_lit 633,fp q54 q54 61 q0 989 632)::
 (nat_lit 639,cp q33 q33 1039 293 2 634 1046)::
 (nat_lit 640,fp q33 q33 62 q0 989 639)::
 (nat_lit 646,cp q48 q48 1049 299 1 641 1053)::
 (nat_lit 647,fp q48 q48 63 q0 989 646)::
 (nat_lit 653,cp q93 q93 1056 301 4 648 1063)::
 (nat_lit 654,fp q93 q93 64 q0 989 653)::
 (nat_lit 660,cp q71 q71 1066 307 5 655 1080)::
 (nat_lit 661,fp q71 q71 65 q0 989 660)::
 (nat_lit 667,cp q83 q83 1083 323 1 662 1087)::
 (nat_lit 668,fp q83 q83 66 q0 989 667)::
 (nat_lit 674,cp q63 q63 1090 329 2 669 1097)::
 (nat_lit 675,fp q63 q63 67 q0 989 674)::
 (nat_lit 681,cp q57 q57 1100 334 2 676 1105)::
 (nat_lit 682,fp q57 q57 68 q0 989 681)::
 (nat_lit 688,cp q58 q58 1108 336 2 683 1113)::
 (nat_lit 689,fp q58 q58 69 q0 989 688)::
 (nat_lit 695,cp q30 q30 1116 338 3 690 1123)::
 (nat_lit 696,fp q30 q30 70 q0 989 695)::
 (nat_lit 702,cp q40 q40 1126 341 3 697 1134)::
 (nat_lit 703,fp q40 q40 71 q0 989 702)::
 (nat_lit 709,cp q64 q64 1137 347 4 704 1147)::
 (nat_lit 710,fp q64 q64 72 q0 989 709)::
 (nat_lit 716,cp q41 q41 1150 362 3 711 1158)::
 (nat_lit 717,fp q41 q41 73 q0 989 716)::
 (nat_lit 723,cp q49 q49 1161 367 3 718 1167)::
 (nat_lit 724,fp q49 q49 74 q0 989 723)::
 (nat_lit 730,cp q65 q65 1170 371 5 725 1181)::
 (nat_lit 731,fp q65 q65 75 q0 989 730)::
 (nat_lit 735,co q50 q50 1184 1185 1186 1188 386 4 732 733 .none .none 734 1187)::
 (nat_lit 736,fp q50 q50 76 q0 989 735)::
 (nat_lit 742,cp q79 q79 1190 391 2 737 1195)::
 (nat_lit 743,fp q79 q79 77 q0 989 742)::
 (nat_lit 749,cp q94 q94 1198 395 2 744 1205)::
 (nat_lit 750,fp q94 q94 78 q0 989 749)::
 (nat_lit 756,cp q51 q51 1208 400 3 751 1217)::
 (nat_lit 757,fp q51 q51 79 q0 989 756)::
 (nat_lit 761,co q66 q66 1220 1221 1222 1224 409 5 758 759 .none .none 760 1223)::
 (nat_lit 762,fp q66 q66 80 q0 989 761)::
 (nat_lit 766,co q27 q27 1226 1227 1228 1230 414 3 763 764 .none .none 765 1229)::
 (nat_lit 767,fp q27 q27 81 q0 989 766)::
 (nat_lit 771,co q52 q52 1232 1233 1234 1236 423 4 768 769 .none .none 770 1235)::
 (nat_lit 772,fp q52 q52 82 q0 989 771)::
 (nat_lit 778,cp q84 q84 1238 444 3 773 1249)::
 (nat_lit 779,fp q84 q84 83 q0 989 778)::
 (nat_lit 785,cp q85 q85 1252 457 2 780 1258)::
 (nat_lit 786,fp q85 q85 84 q0 989 785)::
 (nat_lit 792,cp q42 q42 1261 462 4 787 1268)::
 (nat_lit 793,fp q42 q42 85 q0 989 792)::
 (nat_lit 797,co q72 q72 1271 1272 1273 1275 469 6 794 795 .none .none 796 1274)::
 (nat_lit 798,fp q72 q72 86 q0 989 797)::
 (nat_lit 804,cp q36 q36 1277 483 3 799 1286)::
 (nat_lit 805,fp q36 q36 87 q0 989 804)::
 (nat_lit 809,co q43 q43 1289 1290 1291 1293 488 3 806 807 .none .none 808 1292)::
 (nat_lit 810,fp q43 q43 88 q0 989 809)::
 (nat_lit 816,cp q86 q86 1295 502 2 811 1301)::
 (nat_lit 817,fp q86 q86 89 q0 989 816)::
 (nat_lit 821,co q95 q95 1304 1305 1306 1308 507 6 818 819 .none .none 820 1307)::
 (nat_lit 822,fp q95 q95 90 q0 989 821)::
 (nat_lit 828,cp q67 q67 1310 518 2 823 1317)::
 (nat_lit 829,fp q67 q67 91 q0 989 828)::
 (nat_lit 835,cp q68 q68 1320 532 1 830 1324)::
 (nat_lit 836,fp q68 q68 92 q0 989 835)::
 (nat_lit 840,co "law" "law" 1327 1328 1329 1331 536 1 837 838 .none .none 839 1330)::
 (nat_lit 841,fp "law" "law" 93 q0 989 840)::[]
def ks:List Addr:=nat_lit 3::nat_lit 27::nat_lit 28::nat_lit 32::nat_lit 33::nat_lit 39::nat_lit 40::nat_lit 44::nat_lit 45::nat_lit 51::nat_lit 52::nat_lit 56::nat_lit 57::nat_lit 61::nat_lit 62::nat_lit 71::nat_lit 72::nat_lit 84::nat_lit 85::nat_lit 93::nat_lit 94::nat_lit 100::nat_lit 101::nat_lit 107::nat_lit 108::nat_lit 114::nat_lit 115::nat_lit 121::nat_lit 122::nat_lit 128::nat_lit 129::nat_lit 135::nat_lit 136::nat_lit 140::nat_lit 141::nat_lit 147::nat_lit 148::nat_lit 154::nat_lit 155::nat_lit 161::nat_lit 162::nat_lit 171::nat_lit 172::nat_lit 189::nat_lit 190::nat_lit 203::nat_lit 204::nat_lit 217::nat_lit 218::nat_lit 220::nat_lit 221::nat_lit 236::nat_lit 237::nat_lit 250::nat_lit 251::nat_lit 262::nat_lit 263::nat_lit 265::nat_lit 266::nat_lit 281::nat_lit 282::nat_lit 293::nat_lit 294::nat_lit 296::nat_lit 297::nat_lit 319::nat_lit 320::nat_lit 340::nat_lit 341::nat_lit 343::nat_lit 344::nat_lit 366::nat_lit 367::nat_lit 387::nat_lit 388::nat_lit 390::nat_lit 391::nat_lit 413::nat_lit 414::nat_lit 434::nat_lit 435::nat_lit 437::nat_lit 438::nat_lit 453::nat_lit 454::nat_lit 467::nat_lit 468::nat_lit 479::nat_lit 480::nat_lit 482::nat_lit 483::nat_lit 491::nat_lit 492::nat_lit 498::nat_lit 499::nat_lit 505::nat_lit 506::nat_lit 512::nat_lit 513::nat_lit 517::nat_lit 518::nat_lit 522::nat_lit 523::nat_lit 527::nat_lit 528::nat_lit 532::nat_lit 533::nat_lit 539::nat_lit 540::nat_lit 544::nat_lit 545::nat_lit 549::nat_lit 550::nat_lit 554::nat_lit 555::nat_lit 561::nat_lit 562::nat_lit 568::nat_lit 569::nat_lit 575::nat_lit 576::nat_lit 580::nat_lit 581::nat_lit 585::nat_lit 586::nat_lit 590::nat_lit 591::nat_lit 597::nat_lit 598::nat_lit 604::nat_lit 605::nat_lit 611::nat_lit 612::nat_lit 618::nat_lit 619::nat_lit 625::nat_lit 626::nat_lit 632::nat_lit 633::nat_lit 639::nat_lit 640::nat_lit 646::nat_lit 647::nat_lit 653::nat_lit 654::nat_lit 660::nat_lit 661::nat_lit 667::nat_lit 668::nat_lit 674::nat_lit 675::nat_lit 681::nat_lit 682::nat_lit 688::nat_lit 689::nat_lit 695::nat_lit 696::nat_lit 702::nat_lit 703::nat_lit 709::nat_lit 710::nat_lit 716::nat_lit 717::nat_lit 723::nat_lit 724::nat_lit 730::nat_lit 731::nat_lit 735::nat_lit 736::nat_lit 742::nat_lit 743::nat_lit 749::nat_lit 750::nat_lit 756::nat_lit 757::nat_lit 761::nat_lit 762::nat_lit 766::nat_lit 767::nat_lit 771::nat_lit 772::nat_lit 778::nat_lit 779::nat_lit 785::nat_lit 786::nat_lit 792::nat_lit 793::nat_lit 797::nat_lit 798::nat_lit 804::nat_lit 805::nat_lit 809::nat_lit 810::nat_lit 816::nat_lit 817::nat_lit 821::nat_lit 822::nat_lit 828::nat_lit 829::nat_lit 835::nat_lit 836::nat_lit 840::nat_lit 841::[]
theorem Se (P:Params):ks=(kp P).map (·.1):=by kernel_rfl
noncomputable abbrev hk:PySem.W.Hook:=PySem.W.kHook kp ks Se
abbrev xt (s:Shared):Bool:=PySem.W.xlAt vw [] s&&PySem.W.recOk (PySem.W.RowW.records (PySem.W.OpenRow.toRowW (PySem.W.OpenLaw.row PySem.Challenge.rw_boxnarrow_k49_whole_alone_by_a_model))) s
theorem GF:PySem.W.opening QW=PySem.W.plainProg QW.main.scope.names:=by kernel_rfl
theorem fe_eq (s:Shared):PySem.fenceModules? QW s=some s:=by kernel_rfl
theorem si_eq (w:World):((PySem.W.boot_heap w.params).isNs mainGlobals&&(Array.mk []:Array GenState).size==0,(PySem.W.boot_heap w.params).objs.size,(PySem.W.boot_heap w.params).nsMap mainGlobals "__annotations__")=(true,11,some (.ref 6)):=by kernel_rfl
open PySem.W PySem.Calls
def ev:Env:={ scope:=QW.main.scope,locals:=mainNs,globals:=mainNs,cells:=[],code:=.ref 13,frame:=some 14 }
abbrev bI:List Stmt:=behindTheImports QW
abbrev cE:Code:=Code.body bI ev
abbrev fT:List Frame:=[topFrame ⟨0,0,0,0⟩]
noncomputable abbrev mS (k:Nat)(l:Params->List Obj)(n t:Nat)(w:World)(os:OsState):SharedT:=⟨L3.mkB k (l w.params),n,(boot_heap w.params).life,Array.mk [],boot_drawn,t,os⟩
noncomputable def mO0 (P:Params):List Obj:=[boot_o_0 P,boot_o_1 P,boot_o_2 P,boot_o_3 P,boot_o_4 P,boot_o_5 P,boot_o_6 P,boot_o_7 P,boot_o_8 P,boot_o_9 P,boot_o_10 P]++[tpO [],fdO [],(cO "<module>" 182 "<module>" 183 184 1 11 181 12 185 1 186),(gO 13 3 3 (.str "__main__" 164) 0)]
noncomputable def S0:=mS 5 mO0 15 187
theorem zbx (w:World):(λos=>L3.goK treeTable QW w 11 (some (.ref 6)) 12 (L3.QH w os) (topStub QW))=λos=>some (S0 w os,⟨denote treeTable cE,cE,⟨0,0,0,0⟩,fT⟩):=by kernel_rfl
theorem AF (w:World):(λos=>segRunT treeTable QW w 11 (some (.ref 6)) 1 1 (S0 w os) (blockOf bI ev cE ⟨0,0,0,0⟩ fT))=λos=>some (.next,S0 w os,cE,⟨0,0,0,0⟩):=by kernel_rfl
noncomputable def mO1 (P:Params):List Obj:=[boot_o_0 P,boot_o_1 P,boot_o_2 P,(dO #[(de P "__name__" 165 (.str q1 378)),(dn P q38 166),(dn P "__package__" 167),(de P "__loader__" 168 (.builtin "__main__.__loader__#opaque")),(dn P "__spec__" 169),(dr P "__annotations__" 170 6),(dr P "__builtins__" 171 4),(de P "__file__" 173 (.str "/claim/cut.py" 172)),(dn P "__cached__" 174),(dr P "_wall" 193 21),(dr P q73 203 28),(dr P q47 209 33),(dr P q13 218 40),(dr P q9 224 45),(dr P q16 235 52),(dr P q32 241 57),(dr P q77 247 62),(dr P Uq 267 72),(dr P "NoSpan" 283 85),(dr P q97 295 94),(dr P "less" 303 101),(dr P q29 313 108),(dr P q78 322 115),(dr P q28 330 122),(dr P q23 338 129),(dr P q31 348 136),(dr P q34 354 141),(dr P q37 362 148),(dr P "deep" 370 155),(dr P q98 377 162),(dr P "Node" 399 172),(dr P Uc 467 221),(dr P Uk 527 266),(dr P "Pair" 570 297),(dr P "Plus" 639 344),(dr P "Minus" 708 391),(dr P "Times" 777 438)] 37),boot_o_4 P,boot_o_5 P,boot_o_6 P,boot_o_7 P,boot_o_8 P,boot_o_9 P,boot_o_10 P]++[tpO [],fq [(1,20),(5,27),(7,32),(10,39),(12,44),(16,51),(18,56),(20,61),(26,68),(28,81),(31,93),(36,100),(39,107),(41,114),(45,121),(47,128),(49,135),(52,140),(59,147),(61,154),(63,161),(66,168),(68,182),(86,229),(102,274),(115,305),(131,352),(147,399)] 0,(cO "<module>" 182 "<module>" 183 184 1 11 181 12 185 1 186),(gO 13 3 3 (.str "__main__" 164) 0)]++
 df "_wall" "_wall" (top 0) (.str "__main__" 164) 1 1 15 187 ["k"]++
 df q73 q73 (top 2) (.str q12 194) 5 2 22 196 [VS,"place"]++
 dg q47 q47 (top 3) (.str q12 194) 7 3 29 204++
 df q13 q13 (top 4) (.str q12 194) 10 3 34 210 [XR,"row",Vl]++
 dg q9 q9 (top 5) (.str q12 194) 12 1 41 219++
 df q16 q16 (top 6) (.str q12 194) 16 5 46 225 [XR,"whole","row",Vl,"grid"]++
 dg q32 q32 (top 7) (.str q12 194) 18 4 53 236++
 dg q77 q77 (top 8) (.str q12 194) 20 2 58 242++
 [tpO [(.type UR)],(bO q59 (.type "type")),(dO #[(de P q10 257 (.str q80 248)),(de P VA 259 (.str Uq 258)),(de P q6 261 (.int 26 260)),(dr P q2 262 70)] 4),tpO [],fdO [],(cO Uq 252 Uq 253 254 26 66 181 67 255 26 256),(gO 68 3 65 (.str q80 248) 0),tpO [],(dO #[(de P q10 257 (.str q80 248)),(de P q6 261 (.int 26 260)),(dr P q2 262 70),(dr P Tt 264 73),(dn P q38 265)] 3),(tyO MZ Uq [(.type UR)] [(r 72),(.type UR),(.type "Exception"),(.type Mj),(.type q55)] 71 [(r 85)] 63 250 258),(.mk (.type q151) none (.fields #[(.str Tt 263),(r 72),(.builtin "ExceptionGroup.__weakref__"),.none]) #[]),(uO 72),(bO q22 (r 72)),tpO [(r 72)],(bO q59 (.type "type")),(dO #[(de P q10 275 (.str q80 248)),(de P VA 277 (.str "NoSpan" 276)),(de P q6 279 (.int 28 278)),(dr P q2 280 83)] 4),tpO [],fdO [],(cO "NoSpan" 270 "NoSpan" 271 272 28 79 181 80 273 28 274),(gO 81 3 78 (.str q80 248) 0),tpO [],(dO #[(de P q10 275 (.str q80 248)),(de P q6 279 (.int 28 278)),(dr P q2 280 83),(dn P q38 281)] 2),(tyO MZ "NoSpan" [(r 72)] [(r 85),(r 72),(.type UR),(.type "Exception"),(.type Mj),(.type q55)] 84 [] 76 268 276),(uO 85),(bO q22 (r 85))]++
 df q97 q97 (top 13) (.str KS 284) 31 2 88 286 [VS,"many","worth","step"]++
 df "less" "less" (top 14) (.str KS 284) 36 2 95 296 ["a","b"]++
 df q29 q29 (top 16) (.str q11 304) 39 2 102 306 ["top",VB]++
 df q78 q78 (top 17) (.str q11 304) 41 3 109 314 ["low","high","grid"]++
 df q28 q28 (top 18) (.str q11 304) 45 2 116 323 ["a","b"]++
 df q23 q23 (top 19) (.str q11 304) 47 2 123 331 ["a","b"]++
 df q31 q31 (top 20) (.str q11 304) 49 3 130 339 ["a","b","grid","products"]++
 dg q34 q34 (top 21) (.str q11 304) 52 3 137 349++
 df q37 q37 (top 22) (.str q11 304) 59 2 142 355 ["a","many"]++
 df "deep" "deep" (top 23) (.str q11 304) 61 2 149 363 ["a","b"]++
 df q98 q98 (top 24) (.str q11 304) 63 1 156 371 ["a"]++
 [tpO [],(bO q59 (.type "type")),(dO #[(de P q10 387 (.str q1 378)),(de P VA 389 (.str "Node" 388)),(de P q6 391 (.int 66 390)),(dr P q2 392 170)] 4),tpO [],fdO [],(cO "Node" 382 "Node" 383 384 66 166 181 167 385 66 386),(gO 168 3 165 (.str q1 378) 0),tpO [],(dO #[(de P q10 387 (.str q1 378)),(de P q6 391 (.int 66 390)),(dr P q2 392 170),(dr P "__dict__" 394 173),(dr P Tt 396 174),(dn P q38 397)] 4),(.mk (.type "type") none (.cls (PySem.ClassData.mk "Node" [(.type q55)] [(r 172),(.type q55)] 171 "Node" Bool.true [] [(r 221),(r 266),(r 297)] Bool.false none Bool.false)) #[none,none,(some (.str "Node" 380)),(some (.str "Node" 388)),(some (.builtin q17)),(some (.bool Bool.true))]),(.mk (.type q151) none (.fields #[(.str "__dict__" 393),(r 172),(.builtin "function.__dict__"),(.builtin "function.__dict__#set")]) #[]),(.mk (.type q151) none (.fields #[(.str Tt 395),(r 172),(.builtin "ExceptionGroup.__weakref__"),.none]) #[]),(uO 172),(bO q22 (r 172)),tpO [(r 172)],(bO q59 (.type "type")),(dO #[(de P q10 407 (.str q1 378)),(de P VA 409 (.str Uc 408)),(de P q6 411 (.int 68 410)),(dr P q3 420 190),(dr P q74 429 197),(dr P q5 440 204),(dr P "back" 450 211),(dr P q8 461 218),(dr P q2 464 219)] 9),tpO [],fq [(70,189),(74,196),(77,203),(81,210),(84,217)] 4,(cO Uc 402 Uc 403 404 68 180 181 181 405 68 406),(gO 182 3 179 (.str q1 378) 0)]++
 df q3 Ur (ZK (top 27) 0) (.str q1 378) 70 3 184 412 ["self","top",VB]++
 df q74 "Number.exact" (ZK (top 27) 1) (.str q1 378) 74 3 191 421 ["self",q60,"point"]++
 df q5 Uy (ZK (top 27) 2) (.str q1 378) 77 4 198 430 ["self",q14,"box","grid",VS]++
 df "back" "Number.back" (ZK (top 27) 3) (.str q1 378) 81 4 205 441 ["self",q14,"here","grid"]++
 df q8 UT (ZK (top 27) 4) (.str q1 378) 84 5 212 451 ["self",q14,q61,q96,"grid"]++
 [tpO [(.str VB 462),(.str "top" 463)],(dO #[(de P q10 407 (.str q1 378)),(de P q6 411 (.int 68 410)),(dr P q3 420 190),(dr P q74 429 197),(dr P q5 440 204),(dr P "back" 450 211),(dr P q8 461 218),(dr P q2 464 219),(dn P q38 465)] 2),(tyO q17 Uc [(r 172)] [(r 221),(r 172),(.type q55)] 220 [] 177 400 408),(uO 221),(bO q22 (r 221)),tpO [(r 172)],(bO q59 (.type "type")),(dO #[(de P q10 475 (.str q1 378)),(de P VA 477 (.str Uk 476)),(de P q6 479 (.int 86 478)),(dr P q3 487 237),(dr P q74 496 244),(dr P q5 506 251),(dr P "back" 516 258),(dr P q8 522 263),(dr P q2 524 264)] 9),tpO [],fq [(88,236),(91,243),(94,250),(97,257),(100,262)] 4,(cO Uk 470 Uk 471 472 86 227 181 228 473 86 474),(gO 229 3 226 (.str q1 378) 0)]++
 df q3 U3 (ZK (top 28) 0) (.str q1 378) 88 2 231 480 ["self","place"]++
 df q74 "Unknown.exact" (ZK (top 28) 1) (.str q1 378) 91 3 238 488 ["self",q60,"point"]++
 df q5 Us (ZK (top 28) 2) (.str q1 378) 94 4 245 497 ["self",q14,"box","grid"]++
 df "back" "Unknown.back" (ZK (top 28) 3) (.str q1 378) 97 4 252 507 ["self",q14,"here","grid"]++
 dg q8 UC (ZK (top 28) 4) (.str q1 378) 100 5 259 517++
 [tpO [(.str "place" 523)],(dO #[(de P q10 475 (.str q1 378)),(de P q6 479 (.int 86 478)),(dr P q3 487 237),(dr P q74 496 244),(dr P q5 506 251),(dr P "back" 516 258),(dr P q8 522 263),(dr P q2 524 264),(dn P q38 525)] 2),(tyO q17 Uk [(r 172)] [(r 266),(r 172),(.type q55)] 265 [] 224 468 476),(uO 266),(bO q22 (r 266)),tpO [(r 172)],(bO q59 (.type "type")),(dO #[(de P q10 535 (.str q1 378)),(de P VA 537 (.str "Pair" 536)),(de P q6 539 (.int 102 538)),(dr P q3 548 282),(dr P "back" 558 289),(dr P q8 564 294),(dr P q2 567 295)] 7),tpO [],fq [(104,281),(108,288),(111,293)] 4,(cO "Pair" 530 "Pair" 531 532 102 272 181 273 533 102 534),(gO 274 3 271 (.str q1 378) 0)]++
 df q3 q24 (ZK (top 29) 0) (.str q1 378) 104 3 276 540 ["self","one",Wl]++
 df "back" "Pair.back" (ZK (top 29) 1) (.str q1 378) 108 4 283 549 ["self",q14,"here","grid"]++
 dg q8 q45 (ZK (top 29) 2) (.str q1 378) 111 5 290 559++
 [tpO [(.str "one" 565),(.str Wl 566)],(dO #[(de P q10 535 (.str q1 378)),(de P q6 539 (.int 102 538)),(dr P q3 548 282),(dr P "back" 558 289),(dr P q8 564 294),(dr P q2 567 295),(dn P q38 568)] 2),(tyO q17 "Pair" [(r 172)] [(r 297),(r 172),(.type q55)] 296 [(r 344),(r 391),(r 438)] 269 528 536),(uO 297),(bO q22 (r 297)),tpO [(r 297)],(bO q59 (.type "type")),(dO #[(de P q10 578 (.str q1 378)),(de P VA 580 (.str "Plus" 579)),(de P q6 582 (.int 115 581)),(dr P q74 591 313),(dr P q5 601 320),(dr P q81 612 327),(dr P q69 623 334),(dr P q4 635 341),(dr P q2 636 342)] 9),tpO [],fq [(117,312),(120,319),(123,326),(126,333),(129,340)] 4,(cO "Plus" 573 "Plus" 574 575 115 303 181 304 576 115 577),(gO 305 3 302 (.str q1 378) 0)]++
 df q74 "Plus.exact" (ZK (top 30) 0) (.str q1 378) 117 3 307 583 ["self",q60,"point"]++
 df q5 Ux (ZK (top 30) 1) (.str q1 378) 120 4 314 592 ["self",q14,"box","grid"]++
 df q81 "Plus.first_left" (ZK (top 30) 2) (.str q1 378) 123 5 321 602 ["self","here","x","y","grid"]++
 df q69 "Plus.second_left" (ZK (top 30) 3) (.str q1 378) 126 5 328 613 ["self","here","x","y","grid"]++
 df q4 q87 (ZK (top 30) 4) (.str q1 378) 129 6 335 624 ["self","x","y","a","b","grid"]++
 [tpO [],(dO #[(de P q10 578 (.str q1 378)),(de P q6 582 (.int 115 581)),(dr P q74 591 313),(dr P q5 601 320),(dr P q81 612 327),(dr P q69 623 334),(dr P q4 635 341),(dr P q2 636 342),(dn P q38 637)] 2),(tyO q17 "Plus" [(r 297)] [(r 344),(r 297),(r 172),(.type q55)] 343 [] 300 571 579),(uO 344),(bO q22 (r 344)),tpO [(r 297)],(bO q59 (.type "type")),(dO #[(de P q10 647 (.str q1 378)),(de P VA 649 (.str "Minus" 648)),(de P q6 651 (.int 131 650)),(dr P q74 660 360),(dr P q5 670 367),(dr P q81 681 374),(dr P q69 692 381),(dr P q4 704 388),(dr P q2 705 389)] 9),tpO [],fq [(133,359),(136,366),(139,373),(142,380),(145,387)] 4,(cO "Minus" 642 "Minus" 643 644 131 350 181 351 645 131 646),(gO 352 3 349 (.str q1 378) 0)]++
 df q74 "Minus.exact" (ZK (top 31) 0) (.str q1 378) 133 3 354 652 ["self",q60,"point"]++
 df q5 UQ (ZK (top 31) 1) (.str q1 378) 136 4 361 661 ["self",q14,"box","grid"]++
 df q81 "Minus.first_left" (ZK (top 31) 2) (.str q1 378) 139 5 368 671 ["self","here","x","y","grid"]++
 df q69 "Minus.second_left" (ZK (top 31) 3) (.str q1 378) 142 5 375 682 ["self","here","x","y","grid"]++
 df q4 q75 (ZK (top 31) 4) (.str q1 378) 145 6 382 693 ["self","x","y","a","b","grid"]++
 [tpO [],(dO #[(de P q10 647 (.str q1 378)),(de P q6 651 (.int 131 650)),(dr P q74 660 360),(dr P q5 670 367),(dr P q81 681 374),(dr P q69 692 381),(dr P q4 704 388),(dr P q2 705 389),(dn P q38 706)] 2),(tyO q17 "Minus" [(r 297)] [(r 391),(r 297),(r 172),(.type q55)] 390 [] 347 640 648),(uO 391),(bO q22 (r 391)),tpO [(r 297)],(bO q59 (.type "type")),(dO #[(de P q10 716 (.str q1 378)),(de P VA 718 (.str "Times" 717)),(de P q6 720 (.int 147 719)),(dr P q74 729 407),(dr P q5 739 414),(dr P q81 750 421),(dr P q69 761 428),(dr P q4 773 435),(dr P q2 774 436)] 9),tpO [],fq [(149,406),(152,413),(155,420),(158,427),(161,434)] 4,(cO "Times" 711 "Times" 712 713 147 397 181 398 714 147 715),(gO 399 3 396 (.str q1 378) 0)]++
 df q74 "Times.exact" (ZK (top 32) 0) (.str q1 378) 149 3 401 721 ["self",q60,"point"]++
 df q5 UZ (ZK (top 32) 1) (.str q1 378) 152 4 408 730 ["self",q14,"box","grid"]++
 df q81 "Times.first_left" (ZK (top 32) 2) (.str q1 378) 155 5 415 740 ["self","here","x","y","grid"]++
 df q69 "Times.second_left" (ZK (top 32) 3) (.str q1 378) 158 5 422 751 ["self","here","x","y","grid"]++
 df q4 q76 (ZK (top 32) 4) (.str q1 378) 161 6 429 762 ["self","x","y","a","b","grid"]++
 [tpO [],(dO #[(de P q10 716 (.str q1 378)),(de P q6 720 (.int 147 719)),(dr P q74 729 407),(dr P q5 739 414),(dr P q81 750 421),(dr P q69 761 428),(dr P q4 773 435),(dr P q2 774 436),(dn P q38 775)] 2),(tyO q17 "Times" [(r 297)] [(r 438),(r 297),(r 172),(.type q55)] 437 [] 394 709 717),(uO 438),(bO q22 (r 438))]
noncomputable def S1:=mS 12 mO1 441 778
theorem p1_eq (w:World):(λos=>segRunT treeTable QW w 11 (some (.ref 6)) 1 3456 (S0 w os) (piecesOf (bI.take 33) ev cE ⟨0,0,0,0⟩ fT))=λos=>some (.next,S1 w os,cE,⟨147,0,162,70⟩):=by kernel_rfl
theorem zb2 (w:World):(λos=>(L3.frc (L3.mkB 12 (mO1 w.params)) λT=>L3.goT treeTable QW w 11 (some (.ref 6)) 4312 ⟨T,441,(boot_heap w.params).life,Array.mk [],boot_drawn,778,os⟩ (restOf (bI.drop 33) ev cE ⟨147,0,162,70⟩ fT)).map λs=>(L3.Ho QW w s))=λ_=>some (true):=by kernel_rfl
theorem Az (w:World):(λos=>(L3.frc (L3.mkB 12 (mO1 w.params)) λT=>L3.goT treeTable QW w 11 (some (.ref 6)) 4312 ⟨T,441,(boot_heap w.params).life,Array.mk [],boot_drawn,778,os⟩ (restOf (bI.drop 33) ev cE ⟨147,0,162,70⟩ fT)).map λs=>(seen ((recsOf vw).map (·.name)) (ownsOf vw) [] { s.abs with gens:=#[] }))=λ_=>some (expectedOf vw):=by kernel_rfl
theorem zcu (w:World):(λos=>(L3.frc (L3.mkB 12 (mO1 w.params)) λT=>L3.goT treeTable QW w 11 (some (.ref 6)) 4312 ⟨T,441,(boot_heap w.params).life,Array.mk [],boot_drawn,778,os⟩ (restOf (bI.drop 33) ev cE ⟨147,0,162,70⟩ fT)).map λs=>(s.abs.heap.bltView))=λ_=>some (bltViewBooted):=by kernel_rfl
theorem BW (w:World):(λos=>(L3.frc (L3.mkB 12 (mO1 w.params)) λT=>L3.goT treeTable QW w 11 (some (.ref 6)) 4312 ⟨T,441,(boot_heap w.params).life,Array.mk [],boot_drawn,778,os⟩ (restOf (bI.drop 33) ev cE ⟨147,0,162,70⟩ fT)).map λs=>(s.abs.heap.keysOk (looseW vw []) ((recsOf vw).map (·.name)) ((litsOf vw).map (·.1)) ((clssOf vw (looseW vw [])).map (·.name))&&s.abs.heap.accountedOkI (importedModules QW.main.body)&&s.abs.heap.isNs mainGlobals&&s.abs.heap.isNs builtinsNs&&tablesOk vw s.abs.heap&&xt s.abs&&(if true then s.abs.gens.size==0 else !leftWithCleanup s.abs.gens)))=λ_=>some (true):=by kernel_rfl
theorem BE (w:World):(λos=>(L3.frc (L3.mkB 12 (mO1 w.params)) λT=>L3.goT treeTable QW w 11 (some (.ref 6)) 4312 ⟨T,441,(boot_heap w.params).life,Array.mk [],boot_drawn,778,os⟩ (restOf (bI.drop 33) ev cE ⟨147,0,162,70⟩ fT)).map λs=>(tabsOk vw s.abs))=λ_=>some (true):=by kernel_rfl
theorem zap (w:World):(λos=>(L3.frc (L3.mkB 12 (mO1 w.params)) λT=>L3.goT treeTable QW w 11 (some (.ref 6)) 4312 ⟨T,441,(boot_heap w.params).life,Array.mk [],boot_drawn,778,os⟩ (restOf (bI.drop 33) ev cE ⟨147,0,162,70⟩ fT)).map λs=>(pinSeenD vw (drecsOf vw) s.abs,plainSeenE vw (looseW vw []) s.abs,plainSeenD vw [] s.abs,wideSeen vw s.abs,clsSeenW vw [] s.abs))=λ_=>some (pinGoodD (drecsOf vw),plainGoodE vw (looseW vw []),plainGoodD vw [],wideGood vw,clsGoodW vw []):=by kernel_rfl
theorem ob_eq (w:World):(λos=>(L3.frc (L3.mkB 12 (mO1 w.params)) λT=>L3.goT treeTable QW w 11 (some (.ref 6)) 4312 ⟨T,441,(boot_heap w.params).life,Array.mk [],boot_drawn,778,os⟩ (restOf (bI.drop 33) ev cE ⟨147,0,162,70⟩ fT)).map λs=>ks.map (L3.Jt s))=λ_=>some (hk.val w):=by kernel_rfl
theorem left:LeftO QW vw [] xt hk.obs hk.val 7781:=L3.BL (L3.zdy ks) GF (by decide) fe_eq si_eq (λw os _ r=>L3.zaz rfl (congrFun (zbx w) os) (congrFun (AF w) os) (by decide) (L3.zbM (congrFun (p1_eq w) os) (L3.ES ((L3.Il _ _).symm.trans r)))) (λw=>L3.Ec (zb2 w) (Az w)) (λw=>L3.Ec (zcu w) (BW w)) (λw=>L3.Ec (BE w) (zap w)) ob_eq
end Mine
set_option Elab.async false
set_option linter.all false
set_option maxRecDepth 100000
namespace L2
open PySem PySem.Spec PyProof.Rows
abbrev Key:=Sum Int Str
def EL:Key->Value->Bool
 | .inl k,v=>Value.isInt k v
 | .inr x,v=>Value.isStrOf x v
def keyH (w:World):Key->Int
 | .inl k=>hashInt k
 | .inr x=>hashStr w x
theorem VH:∀ {k:Key} {v:Value},EL k v=true->(∃i t,k=Sum.inl i/\v=Value.int i t)\/(∃x t,k=Sum.inr x/\v=Value.str x t)
 | .inl i,v,h=>by
  obtain⟨t,e⟩:=Value.isInt_shape (k:=i) (v:=v) h;exact .inl ⟨i,t,rfl,e⟩
 | .inr x,v,h=>by
  obtain⟨t,e⟩:=Value.isStrOf_shape (x:=x) (v:=v) h;exact .inr ⟨x,t,rfl,e⟩
theorem zc6 (a b:Int):decide ((Sum.inl a:Key)=Sum.inl b)=(a==b):=by
 by_cases e:a=b
 ·subst e;simp
 ·have h:¬ (Sum.inl a:Key)=Sum.inl b:=λq=>e (Sum.inl.inj q)
  rw[decide_eq_false h];exact(beq_eq_false_iff_ne.mpr e).symm
theorem CY (a b:Str):decide ((Sum.inr a:Key)=Sum.inr b)=decide (a=b):=by
 by_cases e:a=b
 ·subst e;simp
 ·have h:¬ (Sum.inr a:Key)=Sum.inr b:=λq=>e (Sum.inr.inj q)
  rw[decide_eq_false h,decide_eq_false e]
theorem zer (a:Int)(b:Str):decide ((Sum.inl a:Key)=Sum.inr b)=false:=decide_eq_false (λq=>nomatch q)
theorem zah (a:Str)(b:Int):decide ((Sum.inr a:Key)=Sum.inl b)=false:=decide_eq_false (λq=>nomatch q)
def Ca (prog:Program)(w:World):PySem.KeyKind prog w Key where
 is:=EL
 hash:=keyH w
 inj:=λv a b ha hb=>by
  rcases VH ha with ⟨i,t,rfl,rfl⟩|⟨x,t,rfl,rfl⟩
  ·rcases VH hb with ⟨j,u,rfl,e⟩|⟨y,u,rfl,e⟩
   ·injection e with e1 _;rw[e1]
   ·exact nomatch e
  ·rcases VH hb with ⟨j,u,rfl,e⟩|⟨y,u,rfl,e⟩
   ·exact nomatch e
   ·injection e with e1 _;rw[e1]
 byValue:=λk v h=>by
  rcases VH h with ⟨i,t,rfl,rfl⟩|⟨x,t,rfl,rfl⟩<;>rfl
 pyHash:=λhv h=>by
  rcases VH hv with ⟨i,t,rfl,rfl⟩|⟨x,t,rfl,rfl⟩
  ·exact wpAny_pyHash_int h
  ·exact wpAny_pyHash_str h
 eqBool:=λhu hv h=>by
  rcases VH hu with ⟨i,t,rfl,rfl⟩|⟨x,t,rfl,rfl⟩
  ·rcases VH hv with ⟨j,u,rfl,rfl⟩|⟨y,u,rfl,rfl⟩
   ·rw[zc6] at h;exact wpAny_eqBool_int h
   ·rw[zer] at h;exact SeqAt.EqAt.int_str i t y u _ _ _ _ h
  ·rcases VH hv with ⟨j,u,rfl,rfl⟩|⟨y,u,rfl,rfl⟩
   ·rw[zah] at h;exact SeqAt.EqAt.str_int x t j u _ _ _ _ h
   ·rw[CY] at h;exact wpAny_eqBool_str h
 «strs»:=λk x t v h=>by
  rcases VH h with ⟨i,u,rfl,e⟩|⟨y,u,rfl,e⟩
  ·exact nomatch e
  ·injection e with e1 _
   subst e1;cases v<;>rfl
end L2
namespace L2
open PySem PySem.Spec PyProof.Rows
set_option genInjectivity true in
inductive V where
 | non|bl (b:Bool)|int (i:Int)|str (x:Str)|byt (b:Array UInt8)|flt (b:UInt64)|ref (a:Addr)|ty (n:String)
 deriving DecidableEq
def ZH:V->Value->Prop
 | .non,u=>u=Value.none
 | .bl b,u=>u=Value.bool b
 | .int i,u=>∃t,u=Value.int i t
 | .str x,u=>∃t,u=Value.str x t
 | .byt b,u=>∃t,u=Value.bytes b t
 | .flt b,u=>∃t,u=Value.float b t
 | .ref a,u=>u=Value.ref a
 | .ty n,u=>u=Value.type n
abbrev ZG:List V->List Value->Prop:=Paired ZH
theorem ZG.length {xs:List V}{us:List Value}(r:ZG xs us):xs.length=us.length:=Paired.length r
theorem ZG.get:∀ {xs:List V} {us:List Value} {i:Nat} {x:V},ZG xs us->xs[i]?=some x->∃u,us[i]?=some u/\ZH x u
 | _,_,_,_,.nil,e=>by simp at e
 | _,_,0,_,.cons r _,e=>by simp at e;subst e;exact⟨_,rfl,r⟩
 | _,_,i+1,x,.cons _ t,e=>by
  obtain⟨u,h1,h2⟩:=ZG.get (i:=i) (x:=x) t (by simpa using e);exact⟨u,by simpa using h1,h2⟩
theorem ZG.set {x:V}{u:Value}(r:ZH x u):∀ {xs:List V} {us:List Value} (i:Nat),ZG xs us->ZG (xs.set i x) (us.set i u)
 | _,_,_,.nil=>.nil
 | _,_,0,.cons _ t=>.cons r t
 | _,_,i+1,.cons q t=>.cons q (ZG.set r i t)
theorem ZG.append:∀ {xs ys:List V} {us ws:List Value},ZG xs us->ZG ys ws->ZG (xs++ys) (us++ws)
 | _,_,_,_,.nil,s=>s
 | _,_,_,_,.cons r t,s=>.cons r (ZG.append t s)
theorem ZG.take:∀ {xs:List V} {us:List Value} (n:Nat),ZG xs us->ZG (xs.take n) (us.take n)
 | _,_,0,_=>.nil
 | _,_,_+1,.nil=>.nil
 | _,_,n+1,.cons r t=>.cons r (ZG.take n t)
theorem ZG.drop:∀ {xs:List V} {us:List Value} (n:Nat),ZG xs us->ZG (xs.drop n) (us.drop n)
 | _,_,0,r=>r
 | _,_,_+1,.nil=>.nil
 | _,_,n+1,.cons _ t=>ZG.drop n t
theorem ZG.none_of:∀ {xs:List V} {us:List Value} {i:Nat},ZG xs us->xs[i]?=none->us[i]?=none:=λ{xs us i} r e=>by
 have h1:=r.length
 have h2:xs.length<=i:=yX.mp e;exact yX.mpr (by omega)
def XE:Option V->Option Value->Prop
 | some v,some u=>ZH v u
 | none,none=>True
 | _,_=>False
def KV {κ:Type}:List (κ×V)->List (κ×Value)->Prop:=Paired λ(p:κ×V)(q:κ×Value)=>p.1=q.1/\ZH p.2 q.2
def kV:Key->V
 | .inl i=>.int i
 | .inr x=>.str x
inductive HO where
  | lst (xs:List V)
  | tup (xs:List V)
  | dK (aY:List (Key×V))|dT (aY:List (List Key×V))
  | set (S:Int->Bool) (n:Nat)
  | ins (C dx:Addr) (fs:List (Str×V))
  | own (x:Addr)
  | xd (fs:List (Str×V))
  | met (f x:Addr)
  | rng (lo hi:Int)
  | frz (o:Obj) (u:HO)
  | tbl (ps:Array Value)
  | ext (φ:Heap->Prop)
abbrev Hp:=Addr->Option HO
def upd (H:Hp)(a:Addr)(o:HO):Hp:=λb=>if b=a then some o else H b
theorem Wj {H:Hp}{a:Addr}{o:HO}:upd H a o a=some o:=by unfold upd;rw[if_pos rfl]
theorem Yn {H:Hp}{a b:Addr}{o:HO}(h:b≠a):upd H a o b=H b:=by unfold upd;rw[if_neg h]
theorem Hb {H:Hp}{a b:Addr}{o u:HO}(h:H a=some o)(h':H b=some u)(d:o≠u):a≠b:=by
 intro e;subst e;rw[h] at h';exact d (Option.some.inj h')
theorem Ui {H:Hp}{a b:Addr}{o:HO}(h:H a=some o)(h':H b=none):a≠b:=by
 intro e;subst e;rw[h] at h';cases h'
section
variable (P:Program)(w:World)
def YR (H:Hp)(h:Heap)(a:Addr):HO->Prop
 | .lst xs=>xs.length<=sizeLine/\∃(bA:List Value)(n:Nat),ZG xs bA/\h.get? a=some { cls:=.type "list",data:=.seq bA.toArray n }
 | .tup xs=>xs.length<=sizeLine/\∃bA:List Value,ZG xs bA/\IsTup h a bA.toArray
 | .dK aY=>aY.length<=sizeLine/\(a==sysModules)=false/\∃vs,KV aY vs/\h.DictOf (Ca P w) a vs
 | .dT aY=>aY.length<=sizeLine/\(a==sysModules)=false/\∃xs:List (List Key×Addr×Value),
   Paired (λ(p:List Key×V)(q:List Key×Addr×Value)=>p.1=q.1/\H q.2.1=some (.tup (p.1.map kV))/\ZH p.2 q.2.2) aY xs/\
   ∃o es ep,h.get? a=some o/\o.ExactDict/\o.data=.dict es ep/\es.toList=xs.map (entryOfKey (tupleKind (Ca P w)))/\(xs.map (·.1)).Nodup
 | .set S n=>h.SetOf (intKind P w) a S n
 | .ins C dx fs=>H dx=some (.own a)/\fs.length<=1000/\dx≠a/\h.get? a=some (PySem.W.instObj C dx)/\
   ∃mA,h.Ns1 dx mA/\(∀f,XE (fs.lookup f) (mA f))/\PySem.Within mA (fs.map (·.1))
 | .own _=>∃o,h.get? a=some o
 | .xd fs=>∃mA,h.Ns1 a mA/\∀f,XE (fs.lookup f) (mA f)
 | .rng lo hi=>∃t u v,h.get? a=some { cls:=.type "range",data:=.fields #[.int lo t,.int hi u,.int 1 v] }
 | .frz o u=>h.get? a=some o/\YR H h a u
 | .tbl ps=>h.get? a=some { cls:=.none,data:=.fields ps }
 | .met f x=>h.get? a=some (PySem.W.methodObj (.ref f) (.ref x))
 | .ext φ=>φ h/\(∃o,h.get? a=some o)/\∀h1 h2:Heap,φ h1->(∀o,h1.get? a=some o->h2.get? a=some o)->φ h2
def HOk (H:Hp)(h:Heap):Prop:=∀a o,H a=some o->YR P w H h a o
end
section
variable {P:Program}{w:World}{H H':Hp}{h h':Heap}{a:Addr}{o:HO}
theorem YR.lt (x:YR P w H h a o):a<h.objs.size:=by
 cases o with
 | lst xs=>obtain⟨_,_,_,_,e⟩:=x;exact Heap.lt_size e
 | tup xs=>obtain⟨_,_,_,p⟩:=x;exact p.lt
 | dK aY=>obtain⟨_,_,_,_,o,_,_,e,_⟩:=x;exact Heap.lt_size e
 | dT aY=>obtain⟨_,_,_,_,o,_,_,e,_⟩:=x;exact Heap.lt_size e
 | set S n=>obtain⟨o,_,_,_,e,_⟩:=x;exact Heap.lt_size e
 | ins C dx fs=>obtain⟨_,_,_,e,_⟩:=x;exact Heap.lt_size e
 | own y=>obtain⟨_,e⟩:=x;exact Heap.lt_size e
 | xd fs=>obtain⟨_,⟨_,_,_,e,_⟩,_⟩:=x;exact Heap.lt_size e
 | rng lo hi=>obtain⟨_,_,_,e⟩:=x;exact Heap.lt_size e
 | frz ob u=>obtain⟨e,_⟩:=x;exact Heap.lt_size e
 | tbl ps=>exact Heap.lt_size (show h.get? a=some _ from x)
 | met f y=>exact Heap.lt_size (show h.get? a=some _ from x)
 | ext φ=>obtain⟨_,⟨_,e⟩,_⟩:=x;exact Heap.lt_size e
theorem Paired.mapP:∀ {l₁:List α} {l₂:List β},Paired F l₁ l₂->(∀a b,F a b->G a b)->Paired G l₁ l₂
 | _,_,.nil,_=>.nil
 | _,_,.cons r t,f=>.cons (f _ _ r) (Paired.mapP t f)
theorem YR.stay (x:YR P w H h a o)(k:∀b u,(b=a\/H b=some (.own a))->h.get? b=some u->h'.get? b=some u)
  (ho:∀b,H b=some (.own a)->H' b=some (.own a))(ht:∀b xs,H b=some (.tup xs)->H' b=some (.tup xs)):YR P w H' h' a o:=by
 induction o with
 | lst xs=>obtain⟨z,bA,n,r,e⟩:=x;exact⟨z,bA,n,r,k _ _ (.inl rfl) e⟩
 | tup xs=>obtain⟨z,bA,r,ob,e,c⟩:=x;exact⟨z,bA,r,ob,k _ _ (.inl rfl) e,c⟩
 | dK aY=>obtain⟨z,y,vs,r,ob,es,ep,e,c⟩:=x;exact⟨z,y,vs,r,ob,es,ep,k _ _ (.inl rfl) e,c⟩
 | dT aY=>
  obtain⟨z,y,xs,r,ob,es,ep,e,c⟩:=x;exact⟨z,y,xs,Paired.mapP r λp q z=>⟨z.1,ht _ _ z.2.1,z.2.2⟩,ob,es,ep,k _ _ (.inl rfl) e,c⟩
 | set S n=>obtain⟨ob,es,ep,t,e,c⟩:=x;exact⟨ob,es,ep,t,k _ _ (.inl rfl) e,c⟩
 | ins C dx fs=>
  obtain⟨d,z,ne,e,mA,⟨od,es,ep,e2,c⟩,r⟩:=x;exact⟨ho _ d,z,ne,k _ _ (.inl rfl) e,mA,⟨od,es,ep,k _ _ (.inr d) e2,c⟩,r⟩
 | own y=>obtain⟨ob,e⟩:=x;exact⟨ob,k _ _ (.inl rfl) e⟩
 | xd fs=>obtain⟨mA,⟨od,es,ep,e,c⟩,r⟩:=x;exact⟨mA,⟨od,es,ep,k _ _ (.inl rfl) e,c⟩,r⟩
 | rng lo hi=>obtain⟨t,u,v,e⟩:=x;exact⟨t,u,v,k _ _ (.inl rfl) e⟩
 | frz ob u ih=>obtain⟨e,q⟩:=x;exact⟨k _ _ (.inl rfl) e,ih q⟩
 | tbl ps=>
  have e:h.get? a=some { cls:=.none,data:=.fields ps }:=x
  show h'.get? a=some { cls:=.none,data:=.fields ps };exact k a _ (.inl rfl) e
 | met f y=>
  have e:h.get? a=some (PySem.W.methodObj (.ref f) (.ref y)):=x
  show h'.get? a=some (PySem.W.methodObj (.ref f) (.ref y));exact k a _ (.inl rfl) e
 | ext φ=>obtain⟨p,⟨o,e⟩,st⟩:=x;exact⟨st _ _ p λo q=>k _ _ (.inl rfl) q,⟨o,k _ _ (.inl rfl) e⟩,st⟩
theorem HOk.lt (x:HOk P w H h)(e:H a=some o):a<h.objs.size:=(x a o e).lt
theorem HOk.fresh (x:HOk P w H h)(e:h.objs.size<=a):H a=none:=by
 cases q:H a with
 | none=>rfl
 | some u=>exact absurd (yD (x.lt q) e) (yL _)
theorem HOk.kept (x:HOk P w H h)(k:∀b u,h.get? b=some u->h'.get? b=some u):HOk P w H h':=λa o e=>
 (x a o e).stay (λb u _ q=>k b u q) (λ_ q=>q) λ_ _ q=>q
theorem HOk.laid (x:HOk P w H h)(k:∀b u,h.get? b=some u->h'.get? b=some u)(hp:h.objs.size<=a)(new:YR P w (upd H a o) h' a o):HOk P w (upd H a o) h':=λb u e=>by
 have hn:=x.fresh hp;by_cases hb:b=a
 ·subst hb;rw[Wj] at e;cases e;exact new
 ·rw[Yn hb] at e;exact(x b u e).stay (λc v _ q=>k c v q) (λc q=>by rw[Yn (Ui q hn)];exact q) λc xs q=>by rw[Yn (Ui q hn)];exact q
end
def Rd (H:Hp)(a:Addr)(u:HO):Prop:=H a=some u\/∃o,H a=some (.frz o u)
theorem Rd.of {H:Hp}{a:Addr}{u:HO}(h:H a=some u):Rd H a u:=.inl h
theorem Rd.ok {P:Program}{w:World}{H:Hp}{h:Heap}{a:Addr}{u:HO}(r:Rd H a u)(x:HOk P w H h):YR P w H h a u:=by
 rcases r with r|⟨o,r⟩
 ·exact x a u r
 ·obtain⟨_,q⟩:=x a _ r;exact q
def Mut:Option HO->Prop
 | some (.lst _)=>True
 | some (.dK _)=>True
 | some (.dT _)=>True
 | some (.set _ _)=>True
 | some (.ins _ _ _)=>True
 | some (.ext _)=>True
 | _=>False
section
variable {P:Program}{w:World}{H:Hp}{h h':Heap}{x e:Addr}{o':HO}
theorem HOk.write (ok:HOk P w H h)(mu:Mut (H x))(he:e=x\/H e=some (.own x))(k:∀b u,b≠e->h.get? b=some u->h'.get? b=some u)(heo:∃u,h'.get? e=some u)
  (new:YR P w (upd H x o') h' x o'):HOk P w (upd H x o') h':=λb u q=>by
 have nown:∀c y,H c=some (.own y)->c≠x:=λc y r z=>by subst z;rw[r] at mu;exact mu
 have ntup:∀c xs,H c=some (.tup xs)->c≠x:=λc xs r z=>by subst z;rw[r] at mu;exact mu
 by_cases hb:b=x
 ·subst hb;rw[Wj] at q;cases q;exact new
 ·rw[Yn hb] at q;by_cases hbe:b=e
  ·have q':H b=some (.own x):=by
    rcases he with z|z
    ·exact absurd (hbe.trans z) hb
    ·rw[hbe];exact z
   rw[q] at q';cases q'
   obtain⟨v,hv⟩:=heo;exact⟨v,by rw[hbe];exact hv⟩
  ·refine(ok b u q).stay (λc v hc r=>k c v ?_ r) (λc r=>by rw[Yn (nown c b r)];exact r) λc xs r=>by rw[Yn (ntup c xs r)];exact r
   rcases hc with rfl|hc
   ·exact hbe
   ·rintro rfl;rcases he with z|z
    ·exact nown c b hc z
    ·rw[hc] at z;cases z;exact hb rfl
end
structure Un (fs ex:List Addr)(H H':Hp)(h h':Heap):Prop where
 keep:∀b o,h.get? b=some o->H b=none->b ∉ fs->b ∉ ex->h'.get? b=some o
 slot:∀b o,h.get? b=some o->H b=none->b∈fs->b ∉ ex->∃sl,h'.get? b=some { o with slots:=sl }
 free:∀b o,h.get? b=some o->H b=none->b ∉ ex->H' b=none
 there:∀b o,h.get? b=some o->b ∉ ex->∃o',h'.get? b=some o'
 tups:∀b xs,H b=some (.tup xs)->H' b=some (.tup xs)
 frzs:∀b o u,H b=some (.frz o u)->H' b=some (.frz o u)
 tbls:∀b ps,H b=some (.tbl ps)->∃more,H' b=some (.tbl (ps++more))
section
variable {fs fs' ex ex':List Addr}{H H1 H2:Hp}{h h1 h2 h':Heap}{a x e:Addr}{o:HO}
theorem Un.any (u:Un fs ex H H1 h h1){b:Addr}{ob:Obj}(q:h.get? b=some ob)(n:H b=none)(hx:b ∉ ex):∃sl,h1.get? b=some { ob with slots:=sl }:=by
 by_cases hb:b∈fs
 ·exact u.slot b ob q n hb hx
 ·exact⟨ob.slots,u.keep b ob q n hb hx⟩
theorem Un.trans (a:Un fs ex H H1 h h1)(b:Un fs ex H1 H2 h1 h2):Un fs ex H H2 h h2 where
 keep:=λc ob q n hc hx=>b.keep c ob (a.keep c ob q n hc hx) (a.free c ob q n hx) hc hx
 slot:=λc ob q n hc hx=>by
  obtain⟨sl,e1⟩:=a.slot c ob q n hc hx;obtain⟨sl',e2⟩:=b.slot c _ e1 (a.free c ob q n hx) hc hx;exact⟨sl',e2⟩
 free:=λc ob q n hx=>by
  obtain⟨o',e1⟩:=a.there c ob q hx;exact b.free c o' e1 (a.free c ob q n hx) hx
 there:=λc ob q hx=>by
  obtain⟨o',e1⟩:=a.there c ob q hx;exact b.there c o' e1 hx
 tups:=λc xs q=>b.tups c xs (a.tups c xs q)
 frzs:=λc ob xs q=>b.frzs c ob xs (a.frzs c ob xs q)
 tbls:=λc ps q=>by
  obtain⟨m1,e1⟩:=a.tbls c ps q;obtain⟨m2,e2⟩:=b.tbls c _ e1;exact⟨m1++m2,by rw[e2,Array.append_assoc]⟩
theorem Un.kept (k:∀b u,h.get? b=some u->h'.get? b=some u):Un fs ex H H h h':=
 ⟨λb ob q _ _ _=>k b ob q,λb ob q _ _ _=>⟨ob.slots,k b ob q⟩,λ_ _ _ n _=>n,λb ob q _=>⟨ob,k b ob q⟩,λ_ _ q=>q,λ_ _ _ q=>q,λ_ ps q=>⟨#[],by rw[q];simp⟩⟩
theorem Un.refl:Un fs ex H H h h:=Un.kept λ_ _ q=>q
theorem Un.laid (k:∀b u,h.get? b=some u->h'.get? b=some u)(hp:h.objs.size<=a)(hn:H a=none):Un fs ex H (upd H a o) h h' where
 keep:=λb u q _ _ _=>k b u q
 slot:=λb u q _ _ _=>⟨u.slots,k b u q⟩
 free:=λb u q n _=>by rw[Yn (zX (yD (Heap.lt_size q) hp))];exact n
 there:=λb u q _=>⟨u,k b u q⟩
 tups:=λb xs q=>by rw[Yn (Ui q hn)];exact q
 frzs:=λb u xs q=>by rw[Yn (Ui q hn)];exact q
 tbls:=λb ps q=>⟨#[],by rw[Yn (Ui q hn),q];simp⟩
theorem Un.write (mu:Mut (H x))(he:e=x\/H e=some (.own x))(k:∀b u,b≠e->h.get? b=some u->h'.get? b=some u)(heo:∃u,h'.get? e=some u):Un fs ex H (upd H x o) h h':=by
 have hx:∀b,H b=none->b≠x:=λb n z=>by subst z;rw[n] at mu;exact mu
 have hb:∀b,H b=none->b≠e:=λb n z=>by
  subst z;rcases he with r|r
  ·exact hx b n r
  ·rw[n] at r;cases r
 have hm:∀b u,H b=some u->¬ Mut (some u)->b≠x:=λb u q nm z=>by subst z;rw[q] at mu;exact nm mu
 refine⟨λb u q n _ _=>k b u (hb b n) q,λb u q n _ _=>⟨u.slots,k b u (hb b n) q⟩,λb u q n _=>by rw[Yn (hx b n)];exact n,λb u q _=>?_,
  λb xs q=>by rw[Yn (hm b _ q λz=>z)];exact q,λb u xs q=>by rw[Yn (hm b _ q λz=>z)];exact q,λb ps q=>⟨#[],by rw[Yn (hm b _ q λz=>z),q];simp⟩⟩
 by_cases hbe:b=e
 ·subst hbe;exact heo
 ·exact⟨u,k b u hbe q⟩
theorem Un.mono (u:Un fs ex H H1 h h1)(hs:∀b∈fs,b∈fs')(hx:∀b∈ex,b∈ex'):Un fs' ex' H H1 h h1:=
 ⟨λb ob q n hb he=>u.keep b ob q n (λz=>hb (hs b z)) λz=>he (hx b z),λ_ _ q n _ he=>u.any q n λz=>he (hx _ z),λb ob q n he=>u.free b ob q n λz=>he (hx b z),λb ob q he=>u.there b ob q λz=>he (hx b z),u.tups,u.frzs,u.tbls⟩
end
def trk (h:Heap)(H:Hp):List Addr:=(List.range h.objs.size).filter λa=>(H a).isSome
def Vs (h:Heap)(H:Hp):Heap:=PySem.W.hideAll h (trk h H)
theorem Br (h:Heap)(H:Hp):(Vs h H).objs.size=h.objs.size:=PySem.W.hideAll_size _ _
theorem zdo {h:Heap}{H:Hp}{b:Addr}{o:Obj}(e:h.get? b=some o)(n:H b=none):(Vs h H).get? b=some o:=
 PySem.W.hideAll_get _ e λhm=>by
  have q:(H b).isSome=true:=(List.mem_filter.mp hm).2;rw[n] at q;simp at q
theorem zaR {h:Heap}{H:Hp}{b:Addr}{o:Obj}(e:(Vs h H).get? b=some o):h.get? b=some o/\H b=none:=by
 have e':h.get? b=some o:=PySem.W.of_hideAll (trk h H) e;refine⟨e',?_⟩;cases q:H b with
 | none=>rfl
 | some x=>
  have hm:b∈trk h H:=List.mem_filter.mpr ⟨xG.mpr (Heap.lt_size e'),by simp[q]⟩
  have z:(Vs h H).get? b=none:=PySem.W.hideAll_none (trk h H) hm;rw[z] at e;cases e
def zb6 (g h:Heap)(L:Addr):LA:=(List.range h.objs.size).filterMap λa=>if a=L\/(g.get? a).isSome=true then none else (h.get? a).map λo=>(a,o)
def Yz (g h:Heap)(L d:Addr):LA:=(zb6 g h L).filter λp=>decide (p.1≠d)
end L2
namespace L2
open PySem PySem.Spec PyProof.Rows
structure Mod (K:Fg)(mg:Str->Option Value)(base:Heap):Prop where
 kin:K.In base
 glob:base.Ns mainGlobals mg
 blt:∃mb,base.Ns builtinsNs mb/\∀x:Str,x≠"__name__"->mb x=bootBuiltins x
 nolimit:base.NoLimit
structure Cx where
 prog:Program
 w:World
 K:Fg
 mg:Str->Option Value
 base:Heap
 A:Around
 N:List Str
 s₀:Shared
 H₀:Hp
 env:Env
 outer:List Env
 stack:List Env
 ex:List Addr
 fn:Str->Bool
 calm:Bool
 pn:LA
 xe:Value->Shared->Prop
def frs (l:List Env):List Addr:=l.filterMap (·.frame)
abbrev Cx.fs (X:Cx):List Addr:=frs X.outer
def Vis (sc:Scope)(x:Str):Prop:=sc.names.lookup x=some .local\/sc.names.lookup x=some .cell\/sc.names.lookup x=some .free
def Loc (sc:Scope)(x:Str):Prop:=sc.names.lookup x=some .local\/sc.names.lookup x=some .cell
def Look (env:Env)(h:Heap)(m:Str->Option Value)(x:Str)(u:Value):Prop:=
 (env.kindOf x=some .local/\m x=some u)\/((env.kindOf x=some .cell\/env.kindOf x=some .free)/\∃c,env.cells.lookup x=some c/\h.IsCell c (some u))
structure Cx.Ok (X:Cx):Prop where
 mod:Mod X.K X.mg X.base
 kind:X.env.scope.kind=.function
 glob:X.env.globals=mainGlobals
 blt:X.env.builtins=builtinsNs
 above:X.s₀.heap.objs.size<=X.env.locals
 inj:∀x y c,X.env.cells.lookup x=some c->X.env.cells.lookup y=some c->x=y
 has:∀x,(X.env.kindOf x=some .cell\/X.env.kindOf x=some .free)->∃c,X.env.cells.lookup x=some c
 cab:∀x c,X.fn x=true->X.env.cells.lookup x=some c->X.s₀.heap.objs.size<=c
 hd:X.calm=true->X.A.handled=none
 frames:X.A.frames=some X.stack
 stk:X.stack=X.outer\/(X.stack=X.env::X.outer/\X.env.frame=some X.env.locals)
 exf:∀b∈X.ex,b≠X.env.locals/\∀x c,X.env.cells.lookup x=some c->c≠b
 bs:∀b o,X.base.get? b=some o->X.s₀.heap.get? b=some o/\X.H₀ b=none
 bsz:X.base.objs.size<=X.s₀.heap.objs.size
 noex:∀b o,X.base.get? b=some o->b ∉ X.ex
 exfs:∀b∈X.ex,b ∉ X.fs
 funs:X.s₀.heap.FunFrames X.base X.outer
 frf:∀b∈X.fs,X.H₀ b=none
structure Inv (X:Cx)(aA:LA)(σ:List (Option V))(H:Hp)(s:Shared):Prop where
 ok:X.Ok
 os:s.os=X.s₀.os
 bare:AllBare s.gens
 base:Un X.fs X.ex X.H₀ H X.s₀.heap s.heap
 loc:∃m,s.heap.Ns X.env.locals m/\∀(i:Nat)(x:Str)(v:V),X.N[i]?=some x->σ[i]?=some (some v)->Vis X.env.scope x->∃u,ZH v u/\Look X.env s.heap m x u
 cell:∀x c,X.env.cells.lookup x=some c->∃v,s.heap.IsCell c v
 free:H X.env.locals=none
 freeC:∀x c,X.env.cells.lookup x=some c->H c=none
 pin:∀p∈X.pn++aA,s.heap.get? p.1=some p.2/\H p.1=none/\p.1≠X.env.locals/\p.1 ∉ X.fs/\∀v,p.2.data≠.cell v
 hok:HOk X.prog X.w H s.heap
 len:σ.length=X.N.length
section
variable {X:Cx}{aA:LA}{σ:List (Option V)}{H H':Hp}{s:Shared}{h':Heap}
theorem Cx.Ok.nofr (ok:X.Ok)(e:X.base.get? b=some o):b ∉ X.fs:=λhb=>by
 have:=(ok.funs.mem hb).1;rw[e] at this;cases this
theorem Inv.bs (I:Inv X aA σ H s):∀b o,X.base.get? b=some o->s.heap.get? b=some o/\H b=none:=λb o e=>
 ⟨I.base.keep b o (I.ok.bs b o e).1 (I.ok.bs b o e).2 (I.ok.nofr e) (I.ok.noex b o e),I.base.free b o (I.ok.bs b o e).1 (I.ok.bs b o e).2 (I.ok.noex b o e)⟩
theorem Inv.bk (I:Inv X aA σ H s):∀b o,X.base.get? b=some o->s.heap.get? b=some o:=λb o e=>(I.bs b o e).1
theorem Inv.mod (I:Inv X aA σ H s):Mod X.K X.mg X.base:=I.ok.mod
theorem Inv.kIn (I:Inv X aA σ H s):X.K.In s.heap:=I.ok.mod.kin.keeps I.bk
theorem Inv.nolimit (I:Inv X aA σ H s):s.heap.NoLimit:=I.ok.mod.nolimit.keeps I.bk
theorem Inv.lt (I:Inv X aA σ H s):X.env.locals<s.heap.objs.size:=let ⟨_,hn,_⟩:=I.loc;hn.lt
theorem Inv.sz (I:Inv X aA σ H s):X.s₀.heap.objs.size<=s.heap.objs.size:=yK I.ok.above (yY I.lt)
theorem Inv.nofs (I:Inv X aA σ H s)(h:s.heap.objs.size<=a):a ∉ X.fs:=λhb=>by
 obtain⟨_,o,ho,_⟩:=I.ok.funs.mem hb;exact absurd (yD (Heap.lt_size ho) (yK I.sz h)) (yL _)
theorem Inv.cne (I:Inv X aA σ H s):∀x c,X.env.cells.lookup x=some c->c≠X.env.locals:=λx c e z=>by
 obtain⟨v,o,ho,hd⟩:=I.cell x c e;obtain⟨m,⟨o',es,ep,ho',hd',_⟩,_⟩:=I.loc;rw[z,ho'] at ho;cases ho;rw[hd'] at hd;cases hd
theorem Inv.funs (I:Inv X aA σ H s):s.heap.FunFrames X.base X.outer:=by
 have all:∀(l:List Env),(∀b∈frs l,b∈X.fs)->X.s₀.heap.FunFrames X.base l->s.heap.FunFrames X.base l:=by
  intro l
  induction l with
  | nil=>intro _ _;trivial
  | cons env r ih=>
   intro hs hl;obtain⟨hk,⟨L,o,hf,hn,ho,hd⟩,hr⟩:=hl;have hL:L∈X.fs:=hs L (by unfold frs;rw[List.filterMap_cons,hf];exact xH);obtain⟨sl,e⟩:=I.base.slot L o ho (I.ok.frf L hL) hL λz=>I.ok.exfs L z hL
   exact⟨hk,⟨L,_,hf,hn,e,hd⟩,ih (λb hb=>hs b (by unfold frs;rw[List.filterMap_cons,hf];exact yU _ hb)) hr⟩
 exact all X.outer (λ_ hb=>hb) I.ok.funs
theorem Inv.stack (I:Inv X aA σ H s):s.heap.FunFrames X.base X.stack:=by
 rcases I.ok.stk with e|⟨e,hf⟩
 ·rw[e];exact I.funs
 ·rw[e];obtain⟨m,hn,_⟩:=I.loc;refine .cons (by rw[I.ok.kind];decide) hf hn ?_ I.funs;exact Heap.get?_none_of_le (yK I.ok.bsz I.ok.above)
theorem Inv.stkSub (I:Inv X aA σ H s):∀b∈frs X.stack,b∈X.env.locals::X.fs:=λb hb=>by
 rcases I.ok.stk with e|⟨e,hf⟩
 ·rw[e] at hb;exact yU _ hb
 ·rw[e] at hb;unfold frs at hb;rw[List.filterMap_cons,hf] at hb;exact hb
theorem Inv.stkFree (I:Inv X aA σ H s):∀b∈frs X.stack,H b=none:=λb hb=>by
 rcases zQ.mp (I.stkSub b hb) with e|hb
 ·rw[e];exact I.free
 ·obtain⟨_,o,ho,_⟩:=I.ok.funs.mem hb;exact I.base.free b o ho (I.ok.frf b hb) λz=>I.ok.exfs b z hb
theorem Inv.step {g':Array GenState}{t':Nat}{d':Drawn}{ch:List Addr}(I:Inv X aA σ H s)
  (hch:∀b∈ch,(b∈X.ex\/X.s₀.heap.objs.size<=b)/\b≠X.env.locals/\(∀x c,X.env.cells.lookup x=some c->c≠b)/\∀p∈X.pn++aA,p.1≠b)
  (keep:∀b o,b≠X.env.locals->b ∉ X.fs->b ∉ ch->s.heap.get? b=some o->H b=none->h'.get? b=some o)
  (slot:∀b o,b≠X.env.locals->b∈X.fs->b ∉ ch->s.heap.get? b=some o->H b=none->∃sl,h'.get? b=some { o with slots:=sl })(free:∀b o,b ∉ ch->s.heap.get? b=some o->H b=none->H' b=none)
  (there:∀b o,b ∉ ch->s.heap.get? b=some o->∃o',h'.get? b=some o')
  (tups:∀b xs,H b=some (.tup xs)->H' b=some (.tup xs))(frzs:∀b o u,H b=some (.frz o u)->H' b=some (.frz o u))(tbls:∀b ps,H b=some (.tbl ps)->∃more,H' b=some (.tbl (ps++more)))
  (ns:∀m,s.heap.Ns X.env.locals m->h'.Ns X.env.locals m)(hok:HOk X.prog X.w H' h')(hg:AllBare g'):
  Inv X aA σ H' { s with heap:=h',gens:=g',drawn:=d',toks:=t' }:=by
 have neL:∀b o,X.s₀.heap.get? b=some o->b≠X.env.locals:=λb o e=>zX (yD (Heap.lt_size e) I.ok.above)
 have neC:∀b o,X.s₀.heap.get? b=some o->b ∉ X.ex->b ∉ ch:=λb o e hx hb=>by
  rcases (hch b hb).1 with z|z
  ·exact hx z
  ·exact absurd (yD (Heap.lt_size e) z) (yL _)
 have cellK:∀x c,X.env.cells.lookup x=some c->∀v,s.heap.IsCell c v->h'.IsCell c v:=λx c e v ⟨o,ho,hd⟩=>by
  have nch:c ∉ ch:=λz=>(hch c z).2.2.1 x c e rfl
  by_cases hc:c∈X.fs
  ·obtain⟨sl,q⟩:=slot c o (I.cne x c e) hc nch ho (I.freeC x c e);exact⟨_,q,hd⟩
  ·exact⟨o,keep c o (I.cne x c e) hc nch ho (I.freeC x c e),hd⟩
 refine⟨I.ok,I.os,hg,⟨λb o e n hb hx=>?_,λb o e n hb hx=>?_,λb o e n hx=>?_,λb o e hx=>?_,λb xs e=>tups b xs (I.base.tups b xs e),λb o xs e=>frzs b o xs (I.base.frzs b o xs e),λb ps e=>?_⟩,?_,λx c e=>?_,?_,λx c e=>?_,λp hp=>?_,hok,I.len⟩
 ·exact keep b o (neL b o e) hb (neC b o e hx) (I.base.keep b o e n hb hx) (I.base.free b o e n hx)
 ·obtain⟨sl,e1⟩:=I.base.slot b o e n hb hx;obtain⟨sl',e2⟩:=slot b _ (neL b o e) hb (neC b o e hx) e1 (I.base.free b o e n hx);exact⟨sl',e2⟩
 ·obtain⟨o',e1⟩:=I.base.there b o e hx;exact free b o' (neC b o e hx) e1 (I.base.free b o e n hx)
 ·obtain⟨o',e1⟩:=I.base.there b o e hx;exact there b o' (neC b o e hx) e1
 ·obtain⟨m1,e1⟩:=I.base.tbls b ps e;obtain⟨m2,e2⟩:=tbls b _ e1;exact⟨m1++m2,by rw[e2,Array.append_assoc]⟩
 ·obtain⟨m,hn,hl⟩:=I.loc;refine⟨m,ns m hn,λi x v e1 e2 e3=>?_⟩;obtain⟨u,r,l⟩:=hl i x v e1 e2 e3;refine⟨u,r,?_⟩;rcases l with l|⟨k,c,e,z⟩
  ·exact .inl l
  ·exact .inr ⟨k,c,e,cellK x c e _ z⟩
 ·obtain⟨v,z⟩:=I.cell x c e;exact⟨v,cellK x c e v z⟩
 ·obtain⟨m,⟨o,_,_,ho,_⟩,_⟩:=I.loc;exact free _ o (λz=>(hch _ z).2.1 rfl) ho I.free
 ·obtain⟨v,o,ho,hd⟩:=I.cell x c e;exact free c o (λz=>(hch c z).2.2.1 x c e rfl) ho (I.freeC x c e)
 ·obtain⟨e,n,ne,nf,d⟩:=I.pin p hp;have nch:p.1 ∉ ch:=λz=>(hch p.1 z).2.2.2 p hp rfl
  exact⟨keep p.1 p.2 ne nf nch e n,free p.1 p.2 nch e n,ne,nf,d⟩
theorem Inv.un {t':Nat}(I:Inv X aA σ H s)(u:Un X.fs [] H H' s.heap h')(hok:HOk X.prog X.w H' h'):Inv X aA σ H' { s with heap:=h',toks:=t' }:=by
 obtain⟨m,⟨o,es,ep,ho,r⟩,_⟩:=id I.loc;obtain⟨sl,hL⟩:=u.any ho I.free (by simp);exact I.step (g':=s.gens) (d':=s.drawn) (ch:=[]) (λ_ z=>nomatch z) (λb o _ hb _ e n=>u.keep b o e n hb (by simp)) (λb o _ hb _ e n=>u.slot b o e n hb (by simp)) (λb o _ e n=>u.free b o e n (by simp)) (λb o _ e=>u.there b o e (by simp)) u.tups u.frzs u.tbls (λm' hm=>by
  obtain⟨o',es',ep',ho',r'⟩:=hm;rw[ho] at ho';cases ho'
  exact⟨_,es',ep',hL,r'⟩) hok I.bare
theorem Inv.call {g':Array GenState}{t':Nat}{d':Drawn}{ch:List Addr}(I:Inv X aA σ H s)(u:Un (frs X.stack) ch H H' s.heap h')(hok:HOk X.prog X.w H' h')(hg:AllBare g')
  (hch:∀b∈ch,(b∈X.ex\/X.s₀.heap.objs.size<=b)/\b≠X.env.locals/\(∀x c,X.env.cells.lookup x=some c->c≠b)/\∀p∈X.pn++aA,p.1≠b):
  Inv X aA σ H' { s with heap:=h',gens:=g',drawn:=d',toks:=t' }:=by
 obtain⟨m,⟨o,es,ep,ho,r⟩,_⟩:=id I.loc;obtain⟨sl,hL⟩:=u.any ho I.free λz=>(hch _ z).2.1 rfl
 exact I.step (ch:=ch) hch (λb o hL hb hc e n=>u.keep b o e n (λz=>(zQ.mp (I.stkSub b z)).elim hL hb) hc) (λb o _ _ hc e n=>u.any e n hc) (λb o hc e n=>u.free b o e n hc) (λb o hc e=>u.there b o e hc) u.tups u.frzs u.tbls (λm' hm=>by
  obtain⟨o',es',ep',ho',r'⟩:=hm;rw[ho] at ho';cases ho'
  exact⟨_,es',ep',hL,r'⟩) hok hg
theorem Inv.turned {t':Nat}{it:Addr}(I:Inv X aA σ H s)(k:∀b o,b≠it->s.heap.get? b=some o->h'.get? b=some o)(hn:H it=none)(hL:it≠X.env.locals)
  (h1:it∈X.ex\/X.s₀.heap.objs.size<=it)(h2:∀x c,X.env.cells.lookup x=some c->c≠it)(h3:∀p∈X.pn++aA,p.1≠it):Inv X aA σ H { s with heap:=h',toks:=t' }:=by
 have nit:∀b u,H b=some u->b≠it:=λb u e z=>by rw[z,hn] at e;cases e
 refine I.step (g':=s.gens) (d':=s.drawn) (ch:=[it]) (λb hb=>?_) (λb o _ _ hc e _=>k b o (λz=>hc (by simp[z])) e) (λb o _ _ hc e _=>⟨o.slots,k b o (λz=>hc (by simp[z])) e⟩) (λ_ _ _ _ n=>n)
  (λb o hc e=>⟨o,k b o (λz=>hc (by simp[z])) e⟩) (λ_ _ e=>e) (λ_ _ _ e=>e) (λb ps e=>⟨#[],by rw[e];simp⟩) (λm hm=>?_) (λb u e=>?_) I.bare
 ·have e:b=it:=by simpa using hb
  subst e;exact⟨h1,hL,h2,h3⟩
 ·obtain⟨o,es,ep,ho,r⟩:=hm;exact⟨o,es,ep,k _ o (Ne.symm hL) ho,r⟩
 ·refine(I.hok b u e).stay (λc v hc q=>k c v ?_ q) (λ_ q=>q) λ_ _ q=>q
  rcases hc with z|z
  ·rw[z];exact nit b u e
  ·exact nit c _ z
theorem Inv.tok (I:Inv X aA σ H s)(t:Nat):Inv X aA σ H { s with toks:=t }:=I.un (h':=s.heap) (t':=t) Un.refl I.hok
theorem Inv.kept {t':Nat}(I:Inv X aA σ H s)(k:∀b u,s.heap.get? b=some u->h'.get? b=some u):Inv X aA σ H { s with heap:=h',toks:=t' }:=I.un (Un.kept k) (I.hok.kept k)
theorem Inv.laid (I:Inv X aA σ H s)(k:∀b u,s.heap.get? b=some u->h'.get? b=some u)(hp:s.heap.objs.size<=a)(new:YR X.prog X.w (upd H a o) h' a o):
  Inv X aA σ (upd H a o) { s with heap:=h',toks:=t' }:=I.un (Un.laid k hp (I.hok.fresh hp)) (I.hok.laid k hp new)
theorem Inv.write (I:Inv X aA σ H s)(mu:Mut (H x))(he:e=x\/H e=some (.own x))(k:∀b u,b≠e->s.heap.get? b=some u->h'.get? b=some u)(heo:∃u,h'.get? e=some u)(new:YR X.prog X.w (upd H x o) h' x o):Inv X aA σ (upd H x o) { s with heap:=h',toks:=t' }:=I.un (Un.write mu he k heo) (I.hok.write mu he k heo new)
theorem Inv.pins_of (I:Inv X aA σ H s)(h:∀p∈pins',s.heap.get? p.1=some p.2/\H p.1=none/\p.1≠X.env.locals/\p.1 ∉ X.fs/\∀v,p.2.data≠.cell v):Inv X pins' σ H s:=
 ⟨I.ok,I.os,I.bare,I.base,I.loc,I.cell,I.free,I.freeC,λp hp=>(yF.mp hp).elim (λz=>I.pin p (List.mem_append_left _ z)) (h p),I.hok,I.len⟩
theorem Dt {N:List Str}(hN:N.Nodup){i j:Nat}{x:Str}(a:N[i]?=some x)(b:N[j]?=some x):i=j:=by
 obtain⟨h1,e1⟩:=zF.mp a;obtain⟨h2,e2⟩:=zF.mp b;exact(List.getElem_inj hN).mp (e1.trans e2.symm)
theorem Ht {M:Model}{A:Around}{E:Value->Shared->Prop}{i:Nat}{x:Str}{v:V}{u:Value}{Q:Unit->Shared->Prop}(I:Inv X aA σ H s)(hN:X.N.Nodup)(hi:X.N[i]?=some x)(hx:Loc X.env.scope x)(r:ZH v u)
  (h:∀s',Inv X aA (σ.set i (some v)) H s'->(∃a,Heap.SameBut a s.heap s'.heap/\(a=X.env.locals\/X.env.cells.lookup x=some a))->Q () s')(hf:X.fn x=true\/X.env.scope.names.lookup x=some .local:=by first|exact .inl rfl|exact .inr rfl|assumption):wpAny M A (storeName X.env x u) Q E s:=by
 obtain⟨m,hn,hl⟩:=id I.loc;have hcls:(X.env.scope.kind==.class||(X.env.scope.kind==.module&&X.env.locals != X.env.globals))=false:=by rw[I.ok.kind];rfl
 have hiσ:i<σ.length:=by rw[I.len];exact(zF.mp hi).1
 have cne:=I.cne
 have tracked:∀ {a:Addr} {h':Heap},(∃o,s.heap.get? a=some o/\H a=none)->Heap.SameBut a s.heap h'->HOk X.prog X.w H h':=λ{a h'} ha hs b ob e=>by
  obtain⟨_,_,hfree⟩:=ha;refine(I.hok b ob e).stay (λc w' hc q=>(hs.2 c ?_).trans q) (λ_ q=>q) λ_ _ q=>q
  rintro rfl;rcases hc with rfl|hc
  ·rw[hfree] at e;cases e
  ·rw[hfree] at hc;cases hc
 rcases hx with hk|hk
 ·refine wpAny_storeName_local hk hn (λh' hn' hs=>?_) hcls;obtain⟨oL,_,_,hoL,_⟩:=id hn;refine h _ ⟨I.ok,I.os,I.bare,⟨λb o e n hb hx=>?_,λb o e n hb hx=>?_,I.base.free,λb o e hx=>?_,I.base.tups,I.base.frzs,I.base.tbls⟩,⟨_,hn',λj y v' e1 e2 e3=>?_⟩,λy c e=>?_,I.free,I.freeC,λp hp=>?_,tracked ⟨oL,hoL,I.free⟩ hs,by simpa using I.len⟩ ⟨_,hs,.inl rfl⟩
  ·exact(hs.2 b (zX (yD (Heap.lt_size e) I.ok.above))).trans (I.base.keep b o e n hb hx)
  ·obtain⟨sl,e1⟩:=I.base.slot b o e n hb hx;exact⟨sl,(hs.2 b (zX (yD (Heap.lt_size e) I.ok.above))).trans e1⟩
  ·obtain⟨o',e1⟩:=I.base.there b o e hx;exact⟨o',(hs.2 b (zX (yD (Heap.lt_size e) I.ok.above))).trans e1⟩
  ·by_cases hj:j=i
   ·subst hj;rw[hi] at e1;cases e1
    rw[xI hiσ] at e2;cases e2;exact⟨u,r,.inl ⟨hk,by simp⟩⟩
   ·rw[yM (Ne.symm hj)] at e2;obtain⟨u',r',q⟩:=hl j y v' e1 e2 e3;refine⟨u',r',?_⟩;rcases q with ⟨k,e⟩|⟨k,c,e,z⟩
    ·refine .inl ⟨k,?_⟩;have:y≠x:=λe=>hj (Dt hN e1 (e ▸ hi))
     simp[this,e]
    ·exact .inr ⟨k,c,e,z.sameBut hs (cne y c e)⟩
  ·obtain⟨w',z⟩:=I.cell y c e;exact⟨w',z.sameBut hs (cne y c e)⟩
  ·obtain⟨e,n,ne,nf,d⟩:=I.pin p hp;exact⟨(hs.2 p.1 ne).trans e,n,ne,nf,d⟩
 ·have hfn:X.fn x=true:=by
   rcases hf with z|z
   ·exact z
   ·rw[z] at hk;cases hk
  obtain⟨c,hc⟩:=I.ok.has x (.inl hk);obtain⟨w',z⟩:=I.cell x c hc;refine wpAny_storeName_cell I.ok.kind hk hc z (λh' hc' hs=>?_);obtain⟨oc,hoc,hocd⟩:=id z;refine h { s with heap:=h' } ⟨I.ok,I.os,I.bare,⟨λb o e n hb hx=>?_,λb o e n hb hx=>?_,I.base.free,λb o e hx=>?_,I.base.tups,I.base.frzs,I.base.tbls⟩,⟨m,hn.sameBut hs (Ne.symm (cne x c hc)),λj y v' e1 e2 e3=>?_⟩,λy c' e=>?_,I.free,I.freeC,λp hp=>?_,tracked ⟨oc,hoc,I.freeC x c hc⟩ hs,by simpa using I.len⟩ ⟨c,hs,.inr hc⟩
  ·exact(hs.2 b (zX (yD (Heap.lt_size e) (I.ok.cab x c hfn hc)))).trans (I.base.keep b o e n hb hx)
  ·obtain⟨sl,e1⟩:=I.base.slot b o e n hb hx;exact⟨sl,(hs.2 b (zX (yD (Heap.lt_size e) (I.ok.cab x c hfn hc)))).trans e1⟩
  ·obtain⟨o',e1⟩:=I.base.there b o e hx;exact⟨o',(hs.2 b (zX (yD (Heap.lt_size e) (I.ok.cab x c hfn hc)))).trans e1⟩
  ·by_cases hj:j=i
   ·subst hj;rw[hi] at e1;cases e1
    rw[xI hiσ] at e2;cases e2;exact⟨u,r,.inr ⟨.inl hk,c,hc,hc'⟩⟩
   ·rw[yM (Ne.symm hj)] at e2;obtain⟨u',r',q⟩:=hl j y v' e1 e2 e3;refine⟨u',r',?_⟩;rcases q with q|⟨k,c',e,z'⟩
    ·exact .inl q
    ·refine .inr ⟨k,c',e,z'.sameBut hs ?_⟩;rintro rfl;exact hj (Dt hN e1 (I.ok.inj _ _ _ e hc ▸ hi))
  ·by_cases hcc:c'=c
   ·subst hcc;exact⟨_,hc'⟩
   ·obtain⟨w2,z2⟩:=I.cell y c' e;exact⟨w2,z2.sameBut hs hcc⟩
  ·obtain⟨e,n,ne,nf,d⟩:=I.pin p hp;refine⟨(hs.2 p.1 ?_).trans e,n,ne,nf,d⟩;intro q;rw[q,hoc] at e;have q':oc=p.2:=Option.some.inj e;exact d w' (by rw[<- q'];exact hocd)
theorem Ml (I:Inv X aA σ H s)(hN:X.N.Nodup)(hi:X.N[i]?=some x)(hx:Loc X.env.scope x)(r:ZH v u)(h:∀s',Inv X aA (σ.set i (some v)) H s'->Q () s')(hf:X.fn x=true\/X.env.scope.names.lookup x=some .local:=by first|exact .inl rfl|exact .inr rfl|assumption):wpAny M A (storeName X.env x u) Q E s:=
 Ht I hN hi hx r (λs' I' _=>h s' I') hf
theorem Inv.call' (I:Inv X aA σ H s)(ho:s'.os=s.os)(u:Un (frs X.stack) ch H H' s.heap s'.heap)(hok:HOk X.prog X.w H' s'.heap)(hg:AllBare s'.gens)(hch:∀b∈ch,(b∈X.ex\/X.s₀.heap.objs.size<=b)/\b≠X.env.locals/\(∀x c,X.env.cells.lookup x=some c->c≠b)/\∀p∈X.pn++aA,p.1≠b):Inv X aA σ H' s':=by
 obtain⟨h',g',d',t',o'⟩:=s';have e:o'=s.os:=ho;subst e;exact I.call (g':=g') (t':=t') (d':=d') u hok hg hch
end
abbrev XK:=Value->Option Addr->Hp->Prop
abbrev St:=List (Option V)
abbrev VK:=V->Hp->Prop
abbrev TE:=St->Hp->VK->Prop
abbrev TT:=St->Hp->(Bool->Hp->Prop)->Prop
abbrev TA:=St->Hp->(List V->Hp->Prop)->Prop
structure UH where
 nx:St->Hp->Prop
 rt:VK
 bk:St->Hp->Prop:=λ_ _=>False
 ct:St->Hp->Prop:=λ_ _=>False
abbrev TS:=UH->St->Hp->Prop
def EP (X:Cx)(aA:LA)(σ:St)(Q:VK)(u:Value)(s':Shared):Prop:=∃v H',Inv X aA σ H' s'/\ZH v u/\Q v H'
def TP (X:Cx)(aA:LA)(σ:St)(Q:Bool->Hp->Prop)(b:Bool)(s':Shared):Prop:=∃H',Inv X aA σ H' s'/\Q b H'
def AP (X:Cx)(aA:LA)(σ:St)(Q:List V->Hp->Prop)(us:List Value)(s':Shared):Prop:=∃vs H',Inv X aA σ H' s'/\ZG vs us/\Q vs H'
def SP (X:Cx)(aA:LA)(D:UH)(f:Flow)(s':Shared):Prop:=
 match f with
 | .next=>∃σ' H',Inv X aA σ' H' s'/\D.nx σ' H'
 | .brk=>∃σ' H',Inv X aA σ' H' s'/\D.bk σ' H'
 | .cont=>∃σ' H',Inv X aA σ' H' s'/\D.ct σ' H'
 | .ret u=>∃v σ' H',Inv X aA σ' H' s'/\ZH v u/\D.rt v H'
def PE (X:Cx)(e:Expr)(t:TE):Prop:=
 ∀(aA:LA)(s:Shared)(σ:St)(H:Hp)(Q:VK),Inv X aA σ H s->t σ H Q->wpAny (model X.prog X.w) X.A (eval e X.env) (EP X aA σ Q) X.xe s
def PT (X:Cx)(e:Expr)(t:TT):Prop:=
 ∀(aA:LA)(s:Shared)(σ:St)(H:Hp)(Q:Bool->Hp->Prop),Inv X aA σ H s->t σ H Q->wpAny (model X.prog X.w) X.A (isTrue e X.env (eval e X.env)) (TP X aA σ Q) X.xe s
def PW (X:Cx)(e:Expr)(t:TT):Prop:=
 ∀(aV:Sem Value)(aA:LA)(s:Shared)(σ:St)(H:Hp)(Q:Bool->Hp->Prop),Inv X aA σ H s->t σ H Q->wpAny (model X.prog X.w) X.A (isTrue e X.env aV) (TP X aA σ Q) X.xe s
theorem PW.pt (h:PW X e t):PT X e t:=h _
def PA (X:Cx)(es:List Expr)(t:TA):Prop:=
 ∀(pos:Pos)(aA:LA)(s:Shared)(σ:St)(H:Hp)(Q:List V->Hp->Prop),Inv X aA σ H s->t σ H Q->wpAny (model X.prog X.w) X.A (spliced (backTo pos (starEach es X.env))) (AP X aA σ Q) X.xe s
def PS (X:Cx)(st:Stmt)(t:TS):Prop:=
 ∀(aA:LA)(s:Shared)(σ:St)(H:Hp)(D:UH),Inv X aA σ H s->t D σ H->wpAny (model X.prog X.w) X.A (exec st X.env) (SP X aA D) X.xe s
def PSs (X:Cx)(st:List Stmt)(t:TS):Prop:=
 ∀(aA:LA)(s:Shared)(σ:St)(H:Hp)(D:UH),Inv X aA σ H s->t D σ H->wpAny (model X.prog X.w) X.A (execs st X.env) (SP X aA D) X.xe s
theorem thn {α:Type}{t:Sem α}{Q Q':α->Shared->Prop}{M:Model}{A:Around}{E:Value->Shared->Prop}{s:Shared}(h:wpAny M A t Q E s)(hQ:∀a s,Q a s->Q' a s):wpAny M A t Q' E s:=wpAny_mono h hQ λ_ _ x=>x
end L2
namespace L2
open PySem PySem.Spec PyProof.Rows
section
variable {X:Cx}
def tVar (i:Nat):TE:=λσ H Q=>∃v,σ[i]?=some (some v)/\Q v H
def tC (v:V):TE:=λ_ H Q=>Q v H
theorem Dv (hN:X.N[i]?=some x)(hv:Vis X.env.scope x)(hd:(x==("__debug__":Str))=false:=by decide)(hcd:(x==("__classdict__":Str))=false:=by decide):PE X (.Name x pos) (tVar i):=by
 intro aA s σ H Q I h;obtain⟨v,e,h⟩:=h;obtain⟨m,hn,hl⟩:=I.loc;obtain⟨u,r,l⟩:=hl i x v hN e hv;have bB:EP X aA σ Q u s:=⟨v,H,I,r,h⟩;rcases l with ⟨hk,hm⟩|⟨hk,c,hc,hcell⟩
 ·exact wpAny_Name (wpAny_loadName_local I.ok.kind hk hn hm bB) hd
 ·rcases hk with hk|hk
  ·exact wpAny_Name (wpAny_loadName_cell I.ok.kind hk hc hcell bB) hd
  ·exact wpAny_Name (wpAny_loadName_free I.ok.kind hk hc hcell bB hcd) hd
theorem zc9 {i j pos}:PE X (.Constant (.int i) j pos) (tC (.int i)):=λ_ _ _ H _ I h=>wpAny_Constant_int ⟨.int i,H,I.tok _,⟨_,rfl⟩,h⟩
theorem pe_bl {b j pos}:PE X (.Constant (.bool b) j pos) (tC (.bl b)):=λ_ _ _ H _ I h=>Constant_bool ⟨.bl b,H,I,rfl,h⟩
theorem C4 {j pos}:PE X (.Constant .none j pos) (tC .non):=λ_ _ _ H _ I h=>Constant_none ⟨.non,H,I,rfl,h⟩
theorem BU {x j pos}:PE X (.Constant (.str x) j pos) (tC (.str x)):=λ_ _ _ H _ I h=>Calls.Constant_str ⟨.str x,H,I.tok _,⟨_,rfl⟩,h⟩
def Gl (X:Cx)(x:Str):Prop:=X.env.kindOf x=some .globalImplicit
theorem DJ (I:Inv X aA σ H s)(hg:Gl X x)(hm:X.mg x=some u)(h:Q u s)(hd:(x==("__debug__":Str))=false:=by decide):wpAny (model X.prog X.w) X.A (eval (.Name x pos) X.env) Q E s:=
 Calls.Name_function_global I.ok.kind hg (Calls.loadGlobal_global (by rw[I.ok.glob];exact I.mod.glob.keeps I.bk) hm h) hd
theorem Up (I:Inv X aA σ H s)(hg:Gl X x)(hm:X.mg x=none)(hv:bootBuiltins x=some u)(h:Q u s)(hn:x≠"__name__":=by decide)(hd:(x==("__debug__":Str))=false:=by decide):wpAny (model X.prog X.w) X.A (eval (.Name x pos) X.env) Q E s:=by
 obtain⟨mb,h1,h2⟩:=I.mod.blt;exact Calls.Name_function_global I.ok.kind hg (Calls.loadGlobal_builtin (by rw[I.ok.glob];exact I.mod.glob.keeps I.bk) hm (by rw[I.ok.blt];exact h1.keeps I.bk) ((h2 x hn).trans hv) h) hd
theorem IB (hg:Gl X x)(hm:X.mg x=none)(hv:bootBuiltins x=some u)(r:ZH v u)(hn:x≠"__name__":=by decide)(hd:(x==("__debug__":Str))=false:=by decide):PE X (.Name x pos) (tC v):=
 λ_ _ _ H _ I h=>Up I hg hm hv ⟨v,H,I,r,h⟩ hn hd
variable {a b:Expr}{ta tb:TE}{pos:Pos}
def tB (t:TE):TT:=λσ H Q=>t σ H λx H1=>∃c,x=.bl c/\Q c H1
theorem zar (h:PE X e t)(he:∀aV,isTrue e X.env aV=(do let v <- aV;standAt e.pos;holding [v] (truthy v)):=by intro _;rfl):PT X e (tB t):=by
 intro aA s σ H Q I hw;refine isTrue_plain (thn (h aA s σ H _ I hw) λv s1 ⟨x,H1,I1,r1,q1⟩=>?_) (he _);obtain⟨d,rfl,q⟩:=q1;cases r1;exact wpAny_truthy_bool ⟨H1,I1,q⟩
variable {tA tB':TT}{Yz:List Expr}
def tAnd (t u:TT):TT:=λσ H Q=>t σ H λc H1=>if c=true then u σ H1 Q else Q false H1
def tOr (t u:TT):TT:=λσ H Q=>t σ H λc H1=>if c=true then Q true H1 else u σ H1 Q
def tNot (t:TT):TT:=λσ H Q=>t σ H λc H1=>Q (!c) H1
theorem zeb (ha:PT X a tA):PW X (.BoolOp .And [a] pos) tA:=by
 intro wh aA s σ H Q I h;refine isTrue_and (thn (ha aA s σ H Q I h) λc s1 e=>?_);cases c with
 | true=>exact isTrue_and_nil e
 | false=>exact e
theorem zaf (ha:PT X a tA):PW X (.BoolOp .Or [a] pos) tA:=by
 intro wh aA s σ H Q I h;refine isTrue_or (thn (ha aA s σ H Q I h) λc s1 e=>?_);cases c with
 | false=>exact isTrue_or_nil e
 | true=>exact e
theorem zcw (ha:PT X a tA)(hb:PW X (.BoolOp .And (b::Yz) pos) tB'):PW X (.BoolOp .And (a::b::Yz) pos) (tAnd tA tB'):=by
 intro wh aA s σ H Q I h;refine isTrue_and (thn (ha aA s σ H _ I h) λc s1 ⟨H1,I1,q1⟩=>?_);cases c with
 | true=>exact hb wh aA s1 σ H1 Q I1 q1
 | false=>exact⟨H1,I1,q1⟩
theorem pw_or (ha:PT X a tA)(hb:PW X (.BoolOp .Or (b::Yz) pos) tB'):PW X (.BoolOp .Or (a::b::Yz) pos) (tOr tA tB'):=by
 intro wh aA s σ H Q I h;refine isTrue_or (thn (ha aA s σ H _ I h) λc s1 ⟨H1,I1,q1⟩=>?_);cases c with
 | true=>exact⟨H1,I1,q1⟩
 | false=>exact hb wh aA s1 σ H1 Q I1 q1
theorem zew (ha:PT X a tA):PT X (.UnaryOp .Not a pos) (tNot tA):=by
 intro aA s σ H Q I h;exact isTrue_not (ha aA s σ H (λc H1=>Q (!c) H1) I h)
def tAndV (ta tb:TE):TE:=λσ H Q=>ta σ H λx H1=>∃c,x=.bl c/\if c=true then tb σ H1 Q else Q (.bl false) H1
def tNotV (ta:TE):TE:=λσ H Q=>ta σ H λx H1=>∃c,x=.bl c/\Q (.bl (!c)) H1
theorem zaM {op}(h:PE X a t):PE X (.BoolOp op [a] pos) t:=λaA s σ H Q I hw=>BoolOp_one (h aA s σ H Q I hw)
theorem zeE (ha:PE X a ta)(hb:PE X (.BoolOp .And (b::Yz) pos) tb):PE X (.BoolOp .And (a::b::Yz) pos) (tAndV ta tb):=by
 intro aA s σ H Q I h;refine BoolOp_and (thn (ha aA s σ H _ I h) λv s1 ⟨x,H1,I1,r1,q1⟩=>?_);obtain⟨c,rfl,q1⟩:=q1;cases r1;refine wpAny_truthy_bool ?_;cases c with
 | true=>exact hb aA s1 σ H1 Q I1 q1
 | false=>exact⟨.bl false,H1,I1,rfl,q1⟩
theorem zaI (ha:PE X a ta):PE X (.UnaryOp .Not a pos) (tNotV ta):=by
 intro aA s σ H Q I h;refine UnaryOp_ (thn (ha aA s σ H _ I h) λv s1 ⟨x,H1,I1,r1,q1⟩=>?_);obtain⟨c,rfl,q1⟩:=q1;cases r1;exact not_of (wpAny_truthy_bool ⟨.bl (!c),H1,I1,rfl,q1⟩)
def tIf (t:TT)(ta tb:TE):TE:=λσ H Q=>t σ H λc H1=>if c=true then ta σ H1 Q else tb σ H1 Q
theorem Ad (hc:PT X c tA)(ha:PE X a ta)(hb:PE X b tb):PE X (.IfExp c a b pos) (tIf tA ta tb):=by
 intro aA s σ H Q I h;refine wpAny_IfExp (thn (hc aA s σ H _ I h) λd s1 ⟨H1,I1,q1⟩=>?_);cases d with
 | true=>exact ha aA s1 σ H1 Q I1 q1
 | false=>exact hb aA s1 σ H1 Q I1 q1
end
end L2
namespace L2
open PySem PySem.Spec PyProof.Rows
def SqL (K:Fg)(H:Hp)(a:Addr)(xs:List V):Prop:=
 Rd H a (.lst xs)\/
  ∃(o:Obj)(bA:Array Value)(n:Nat),K.lookup a=some o/\o.cls=.type "list"/\o.dict=none/\o.data=.seq bA n/\bA.size<=sizeLine/\ZG xs bA.toList
def SqT (K:Fg)(H:Hp)(a:Addr)(xs:List V):Prop:=
 Rd H a (.tup xs)\/
  ∃(o:Obj)(bA:Array Value)(n:Nat),K.lookup a=some o/\o.cls=.type "tuple"/\o.data=.seq bA n/\bA.size<=sizeLine/\ZG xs bA.toList
def absV:Value->Option V
 | .none=>some .non
 | .bool b=>some (.bl b)
 | .int i _=>some (.int i)
 | .str x _=>some (.str x)
 | .bytes b _=>some (.byt b)
 | .float b _=>some (.flt b)
 | .ref a=>some (.ref a)
 | .type n=>some (.ty n)
 | _=>none
theorem ZH.abs (r:ZH x u):absV u=some x:=by
 cases x with
 | non=>cases r;rfl
 | bl _=>cases r;rfl
 | int _=>obtain⟨t,rfl⟩:=r;rfl
 | str _=>obtain⟨t,rfl⟩:=r;rfl
 | byt _=>obtain⟨t,rfl⟩:=r;rfl
 | flt _=>obtain⟨t,rfl⟩:=r;rfl
 | ref _=>cases r;rfl
 | ty _=>cases r;rfl
theorem ZH.inj (r:ZH x u)(q:ZH y u):x=y:=Option.some.inj (r.abs.symm.trans q.abs)
theorem ZG.inj:∀ {xs ys:List V} {us:List Value},ZG xs us->ZG ys us->xs=ys
 | _,_,_,.nil,.nil=>rfl
 | _,_,_,.cons r t,.cons r' t'=>by rw[r.inj r',ZG.inj t t']
section
variable {X:Cx}{aA:LA}{σ:St}{H:Hp}{s:Shared}{a:Addr}{xs ys:List V}
theorem SqL.of {K:Fg}(h:H a=some (.lst xs)):SqL K H a xs:=.inl (.inl h)
theorem SqT.of {K:Fg}(h:H a=some (.tup xs)):SqT K H a xs:=.inl (.inl h)
theorem Inv.list (I:Inv X aA σ H s)(h:SqL X.K H a xs):∃bA:List Value,ZG xs bA/\PlainL s.heap a bA.toArray/\xs.length<=sizeLine:=by
 rcases h with h|⟨o,bA,n,hk,hc,hd,hs,hz,r⟩
 ·obtain⟨z,bA,n,r,e⟩:=h.ok I.hok;exact⟨bA,r,⟨_,n,e,rfl,rfl,rfl⟩,z⟩
 ·refine⟨bA.toList,r,⟨o,n,I.kIn a o hk,hc,hd,by simpa using hs⟩,?_⟩;have e:=r.length;simp only[Array.length_toList] at e;omega
theorem Inv.tuple (I:Inv X aA σ H s)(h:SqT X.K H a xs):∃bA:List Value,ZG xs bA/\IsTup s.heap a bA.toArray/\xs.length<=sizeLine:=by
 rcases h with h|⟨o,bA,n,hk,hc,hs,hz,r⟩
 ·obtain⟨z,bA,r,p⟩:=h.ok I.hok;exact⟨bA,r,p,z⟩
 ·refine⟨bA.toList,r,⟨o,I.kIn a o hk,hc,n,by simpa using hs⟩,?_⟩;have e:=r.length;simp only[Array.length_toList] at e;omega
theorem Inv.list_inj (I:Inv X aA σ H s)(h:SqL X.K H a xs)(h':SqL X.K H a ys):xs=ys:=by
 obtain⟨bA,r,⟨o,n,e,_,_,d⟩,_⟩:=I.list h;obtain⟨its',r',⟨o',n',e',_,_,d'⟩,_⟩:=I.list h';rw[e] at e';cases e'
 rw[d] at d';injection d' with d1 _
 have:bA=its':=by simpa using congrArg Array.toList d1
 subst this;exact r.inj r'
end
abbrev Cx.wish (X:Cx)(E:Value->Shared->Prop):Cx:={ X with xe:=E }
abbrev Cx.nox (X:Cx):Cx:=X.wish λ_ _=>False
theorem Cx.Ok.wish {X:Cx}(ok:X.Ok)(E:Value->Shared->Prop):(X.wish E).Ok:=
 ⟨ok.mod,ok.kind,ok.glob,ok.blt,ok.above,ok.inj,ok.has,ok.cab,ok.hd,ok.frames,ok.stk,ok.exf,ok.bs,ok.bsz,ok.noex,ok.exfs,ok.funs,ok.frf⟩
theorem Cx.Ok.unwish {X:Cx}{E:Value->Shared->Prop}(ok:(X.wish E).Ok):X.Ok:=
 ⟨ok.mod,ok.kind,ok.glob,ok.blt,ok.above,ok.inj,ok.has,ok.cab,ok.hd,ok.frames,ok.stk,ok.exf,ok.bs,ok.bsz,ok.noex,ok.exfs,ok.funs,ok.frf⟩
section
variable {X:Cx}{aA:LA}{σ:St}{H:Hp}{s:Shared}{E:Value->Shared->Prop}
theorem Inv.wish (I:Inv X aA σ H s)(E:Value->Shared->Prop):Inv (X.wish E) aA σ H s:=⟨I.ok.wish E,I.os,I.bare,I.base,I.loc,I.cell,I.free,I.freeC,I.pin,I.hok,I.len⟩
theorem Inv.unwish (I:Inv (X.wish E) aA σ H s):Inv X aA σ H s:=⟨I.ok.unwish,I.os,I.bare,I.base,I.loc,I.cell,I.free,I.freeC,I.pin,I.hok,I.len⟩
theorem SP.unwish (h:SP (X.wish E) aA D f s'):SP X aA D f s':=by
 cases f with
 | next=>obtain⟨σ',H',I,q⟩:=h;exact⟨σ',H',I.unwish,q⟩
 | brk=>obtain⟨σ',H',I,q⟩:=h;exact⟨σ',H',I.unwish,q⟩
 | cont=>obtain⟨σ',H',I,q⟩:=h;exact⟨σ',H',I.unwish,q⟩
 | ret u=>obtain⟨v,σ',H',I,r,q⟩:=h;exact⟨v,σ',H',I.unwish,r,q⟩
theorem PE.nox {e:Expr}{t:TE}(h:PE X.nox e t):PE X e t:=λaA s σ H Q I hw=>
 wpAny_mono (h aA s σ H Q (I.wish _) hw) (λ_ _ ⟨v,H',I',r,q⟩=>⟨v,H',I'.unwish,r,q⟩) λ_ _ z=>False.elim z
theorem PT.nox {e:Expr}{t:TT}(h:PT X.nox e t):PT X e t:=λaA s σ H Q I hw=>
 wpAny_mono (h aA s σ H Q (I.wish _) hw) (λ_ _ ⟨H',I',q⟩=>⟨H',I'.unwish,q⟩) λ_ _ z=>False.elim z
theorem PSs.nox {st:List Stmt}{t:TS}(h:PSs X.nox st t):PSs X st t:=λaA s σ H D I hw=>
 wpAny_mono (h aA s σ H D (I.wish _) hw) (λ_ _ q=>q.unwish) λ_ _ z=>False.elim z
end
section
variable {X:Cx}{st:Stmt}{Yz:List Stmt}{t u:TS}{e:Expr}{te:TE}{pos:Pos}
def tNext:TS:=λD σ H=>D.nx σ H
def tSeq (t u:TS):TS:=λD σ H=>t { D with nx:=u D } σ H
theorem AK:PSs X [] tNext:=λ_ _ σ H _ I h=>wpAny_execs_nil ⟨σ,H,I,h⟩
theorem Bx (h1:PS X st t)(h2:PSs X Yz u):PSs X (st::Yz) (tSeq t u):=by
 intro aA s σ H D I h;refine wpAny_execs_cons (thn (h1 aA s σ H { D with nx:=u D } I h) λf s1 q=>?_);cases f with
 | next=>
  obtain⟨σ',H',I',q⟩:=q;exact h2 aA s1 σ' H' D I' q
 | ret v=>exact q
 | brk=>exact q
 | cont=>exact q
theorem zcv (h1:PS X st t):PSs X [st] t:=by
 intro aA s σ H D I h;refine wpAny_execs_cons (thn (h1 aA s σ H D I h) λf s1 q=>?_);cases f with
 | next=>exact wpAny_execs_nil q
 | ret v=>exact q
 | brk=>exact q
 | cont=>exact q
theorem Inv.quiet (I:Inv X aA σ H s):interactive X.env=false:=by simp[interactive,I.ok.kind]
def tDrop (te:TE):TS:=λD σ H=>te σ H λ_ H1=>D.nx σ H1
theorem Ar (he:PE X e te)(hs:swapsWith e none pos.line X.env=pure false:=by rfl):PS X (.Expr e pos) (tDrop te):=by
 intro aA s σ H D I h;exact wpAny_Expr_any (thn (he aA s σ H _ I h) λv s1 ⟨x,H1,I1,r1,q1⟩=>⟨σ,H1,I1,q1⟩) I.quiet hs
def tRet (te:TE):TS:=λD σ H=>te σ H D.rt
theorem zcI (he:PE X e te):PS X (.Return (some e) pos) (tRet te):=by
 intro aA s σ H D I h;exact wpAny_Return_some (thn (he aA s σ H _ I h) λv s1 ⟨x,H1,I1,r1,q1⟩=>⟨x,σ,H1,I1,r1,q1⟩)
def tIfS (c:TT)(t u:TS):TS:=λD σ H=>c σ H λb H1=>if b=true then t D σ H1 else u D σ H1
theorem ps_if (hc:PT X c tc)(ha:PSs X a t)(hb:PSs X b u):PS X (.If c a b pos) (tIfS tc t u):=by
 intro aA s σ H D I h;refine wpAny_If (thn (hc aA s σ H _ I h) λd s1 ⟨H1,I1,q1⟩=>?_);cases d with
 | true=>exact ha aA s1 σ H1 D I1 q1
 | false=>exact hb aA s1 σ H1 D I1 q1
def zbh:TS:=λ_ _ _=>False
theorem zeI:PS X st zbh:=λ_ _ _ _ _ _ h=>h.elim
end
abbrev TG:=V->St->Hp->(St->Hp->Prop)->Prop
abbrev TGs:=List V->St->Hp->(St->Hp->Prop)->Prop
def PG (X:Cx)(target:Expr)(t:TG):Prop:=
 ∀(aA:LA)(s:Shared)(σ:St)(H:Hp)(v:V)(u:Value)(Q:St->Hp->Prop),Inv X aA σ H s->ZH v u->t v σ H Q->
  wpAny (model X.prog X.w) X.A (assign target X.env u) (λ_ s'=>∃σ' H',Inv X aA σ' H' s'/\Q σ' H') X.xe s
def PGs (X:Cx)(ts:List Expr)(t:TGs):Prop:=
 ∀(aA:LA)(s:Shared)(σ:St)(H:Hp)(vs:List V)(us:List Value)(Q:St->Hp->Prop),Inv X aA σ H s->ZG vs us->t vs σ H Q->
  wpAny (model X.prog X.w) X.A (assignInOrder ((assignEach ts X.env).map (·.2)) us) (λ_ s'=>∃σ' H',Inv X aA σ' H' s'/\Q σ' H') X.xe s
abbrev TSet:=V->V->V->Hp->(Hp->Prop)->Prop
def PSet (X:Cx)(t:TSet):Prop:=
 ∀(aA:LA)(s:Shared)(σ:St)(H:Hp)(o i v:V)(ov iv u:Value)(Q:Hp->Prop),Inv X aA σ H s->ZH o ov->ZH i iv->ZH v u->t o i v H Q->
  wpAny (model X.prog X.w) X.A (setItem ov iv u) (λ_ s'=>∃H',Inv X aA σ H' s'/\Q H') X.xe s
section
variable {X:Cx}{pos:Pos}
def EH (i:Nat):TG:=λv σ H Q=>Q (σ.set i (some v)) H
theorem QX (hN:X.N.Nodup)(hi:X.N[i]?=some x)(hx:Loc X.env.scope x)(hf:X.fn x=true\/X.env.scope.names.lookup x=some .local:=by first|exact .inl rfl|exact .inr rfl|assumption):PG X (.Name x pos) (EH i):=by
 intro aA s σ H v u Q I r h;exact wpAny_assign_Name (Ml I hN hi hx r (λs' I'=>⟨_,H,I',h⟩) hf)
def gNil:TGs:=λvs σ H Q=>vs=[]/\Q σ H
def gCons (t:TG)(u:TGs):TGs:=λvs σ H Q=>∃v r,vs=v::r/\t v σ H λσ' H'=>u r σ' H' Q
theorem zeg:PGs X [] gNil:=by
 intro aA s σ H vs us Q I r h;obtain⟨e,h⟩:=h;subst e;cases r;exact assignInOrder_nil ⟨σ,H,I,h⟩
theorem zam (h1:PG X e t)(h2:PGs X es u)(hs:(assignEach (e::es) X.env).map (·.2)=assign e X.env::(assignEach es X.env).map (·.2):=by rfl):PGs X (e::es) (gCons t u):=by
 intro aA s σ H vs us Q I r h;obtain⟨v,vr,e1,h⟩:=h;subst e1;cases r with
 | cons r rr=>
  rw[hs];refine assignInOrder_cons (thn (h1 aA s σ H _ _ _ I r h) λ_ s1 ⟨σ1,H1,I1,q1⟩=>?_);exact h2 aA s1 σ1 H1 _ _ Q I1 rr q1
def So (K:Fg)(n:Nat)(t:TGs):TG:=λv σ H Q=>∃a xs,v=.ref a/\SqT K H a xs/\xs.length=n/\t xs σ H Q
theorem RM (hc:X.calm=true)(h:PGs X es t)(hn:(assignEach es X.env).length=n:=by rfl)(hst:(assignEach es X.env).findIdx? (·.1)=none:=by rfl):PG X (.Tuple es k pos) (So X.K n t):=by
 intro aA s σ H v u Q I r hw;obtain⟨a,xs,e1,hq,hl,hw⟩:=hw;subst e1;cases r;obtain⟨bA,rv,ht,hz⟩:=I.tuple hq;refine assign_Tuple_tuple (I.ok.hd hc) ht (by simp[hn,<- hl,rv.length]) hst λh' hx=>?_
 have I1:Inv X aA σ H { s with heap:=h' }:=I.kept (t':=s.toks) λb o e=>hx b o (zX (Heap.lt_size e)) e
 exact h aA _ σ H xs _ Q I1 (by simpa using rv) hw
def gSub (to ti:TE)(t:TSet):TG:=λv σ H Q=>to σ H λo H1=>ti σ H1 λi H2=>t o i v H2 λH3=>Q σ H3
theorem An (ho:PE X o to)(hi:PE X i ti)(hs:PSet X t)(ha:∀v,assign (.Subscript o i pos) X.env v=(do
   let ov <- holding [v] (eval o X.env)
   let iv <- holding [v,ov] (eval i X.env)
   standAt pos
   holding [v,ov,iv] (setItem ov iv v)
   release [v,ov,iv] []):=by intro _;rfl):PG X (.Subscript o i pos) (gSub to ti t):=by
 intro aA s σ H v u Q I r h;rw[ha];refine wpAny_bind (wpAny_holding (thn (ho aA s σ H _ I h) λov s1 ⟨x,H1,I1,r1,q1⟩=>?_));refine wpAny_bind (wpAny_holding (thn (hi aA s1 σ H1 _ I1 q1) λiv s2 ⟨y,H2,I2,r2,q2⟩=>?_));refine wpAny_bind (wpAny_standAt (wpAny_bind (wpAny_holding (thn (hs aA s2 σ H2 x y v ov iv u _ I2 r1 r2 r q2) λ_ s3 ⟨H3,I3,q3⟩=>?_))));exact wpAny_release ⟨σ,H3,I3,q3⟩
def tAsg (te:TE)(g:TG):TS:=λD σ H=>te σ H λx H1=>g x σ H1 D.nx
theorem Ep (he:PE X e te)(hg:PG X tg g)(hs:swapsWithSole [tg] e pos.line X.env=pure false:=by rfl)(hw:swappedStores [tg] e X.env=pure none:=by rfl)(h1:(assignEach [tg] X.env).map (·.2)=[assign tg X.env]:=by rfl):PS X (.Assign [tg] e pos) (tAsg te g):=by
 intro aA s σ H D I h;refine wpAny_Assign_stores (thn (he aA s σ H _ I h) λv s1 ⟨x,H1,I1,r1,q1⟩=>?_) hs hw;rw[h1];exact thn (hg aA s1 σ H1 x v _ I1 r1 q1) λ_ s2 q=>q
theorem Am (hN:X.N.Nodup)(hi:X.N[i]?=some x)(hx:Loc X.env.scope x)(he:PE X e te)(hs:swapsWith e (some (.Name x pos')) pos.line X.env=pure false:=by rfl)(hf:X.fn x=true\/X.env.scope.names.lookup x=some .local:=by first|exact .inl rfl|exact .inr rfl|assumption):
  PS X (.Assign [.Name x pos'] e pos) (tAsg te (EH i)):=by
 intro aA s σ H D I h;refine wpAny_Assign_Name (thn (he aA s σ H _ I h) λv s1 ⟨y,H1,I1,r1,q1⟩=>?_) hs;exact Ml I1 hN hi hx r1 (λs2 I2=>⟨_,H1,I2,q1⟩) hf
def tPar (i j:Nat)(ta:TA):TS:=λD σ H=>ta σ H λvs H1=>∃v w,vs=[v,w]/\D.nx ((σ.set i (some v)).set j (some w)) H1
theorem zau {kt k2 pt2}(hc:X.calm=true)(hN:X.N.Nodup)(hi:X.N[i]?=some x)(hj:X.N[j]?=some y)(hij:i≠j)(hx:X.env.scope.names.lookup x=some .local)(hy:X.env.scope.names.lookup y=some .local)(ha:PA X [a,b] ta)(hw:swappedStores [.Tuple [.Name x px,.Name y py] kt pt] (.Tuple [a,b] k2 pt2) X.env=pure (some [x,y]))(hs:swapsWithSole [.Tuple [.Name x px,.Name y py] kt pt] (.Tuple [a,b] k2 pt2) pos.line X.env=pure false:=by rfl):
  PS X (.Assign [.Tuple [.Name x px,.Name y py] kt pt] (.Tuple [a,b] k2 pt2) pos) (tPar i j ta):=by
 intro aA s σ H D I h;rw[exec_Assign_arm];refine wpAny_bind (wpAny_standAt ?_);rw[hs];refine wpAny_bind (wpAny_pure ?_);rw[if_neg (by decide)];refine wpAny_bind (Tuple_ (thn (ha _ aA s σ H _ I h) λus s1 ⟨vs,H1,I1,r1,q1⟩=>?_));obtain⟨v,w,e1,q1⟩:=q1;subst e1;obtain⟨u1,u2,rfl,rv,rw'⟩:∃u1 u2,us=[u1,u2]/\ZH v u1/\ZH w u2:=by
  cases r1 with
  | cons p q=>
   cases q with
   | cons p' q'=>
    cases q';exact⟨_,_,rfl,p,p'⟩
 refine wpAny_newObj_type ?_ (by show 2<=sizeLine;decide);have I2:Inv X aA σ H1 { s1 with heap:=s1.heap.push { cls:=.type "tuple",data:=.seq [u1,u2].toArray } }:=I1.kept (t':=s1.toks) λb o e=>Heap.get?_push_of_some _ e
 rw[hw];refine wpAny_bind (wpAny_pure ?_);show wpAny (model X.prog X.w) X.A (do rule "assign.swapped-stores";let items <- unpackItems (.ref s1.heap.objs.size) 2 none;assignInOrder [λv=>bindName X.env y v,λv=>bindName X.env x v] items.reverse;pure Flow.next) _ _ _;refine wpAny_bind (wpAny_rule (wpAny_bind (unpackItems_tuple (items:=#[u1,u2]) (I.ok.hd hc) (IsTup.new s1.heap _) λh' hx'=>?_)));have I3:=I2.kept (h':=h') (t':=s1.toks) λb o e=>hx' b o (zX (Heap.lt_size e)) e
 show wpAny _ _ (assignInOrder [λv=>bindName X.env y v,λv=>bindName X.env x v] [u2,u1] >>= λ_=>pure Flow.next) _ _ _;refine wpAny_bind (assignInOrder_cons (wpAny_bindName (Ml I3 hN hj (.inl hy) rw' (λs2 I4=>?_) (.inr hy))));refine assignInOrder_cons (wpAny_bindName (Ml I4 hN hi (.inl hx) rv (λs3 I5=>assignInOrder_nil (wpAny_pure ?_)) (.inr hx)));rw[List.set_comm _ _ (Ne.symm hij)] at I5;exact⟨_,H1,I5,q1⟩
end
section
variable {X:Cx}{pos:Pos}
def Bv (c:TT)(tb:TS):TS:=λD σ H=>∃W:Nat->St->Hp->Prop,(∃m,W m σ H)/\∀m σ H,W m σ H->
 c σ H λb H1=>if b=true then ∃N:St->Hp->Prop,(∀σ' H',N σ' H'->∃m',m'<m/\W m' σ' H')/\tb { D with nx:=N,ct:=N,bk:=D.nx } σ H1 else D.nx σ H1
theorem zaJ (hp:PassesOwn (model X.prog X.w) X.A X.env X.xe)(hc:PT X c tc)(hb:PSs X body tb):PS X (.While c body [] pos) (Bv tc tb):=by
 intro aA s σ H D I h;obtain⟨W,⟨m0,w0⟩,turn⟩:=h;refine wpAny_While (codeAny_whileLoop (λn s'=>∃σ' H',Inv X aA σ' H' s'/\W n σ' H') ?_ m0 ⟨σ,H,I,w0⟩);rintro n s1 ⟨σ1,H1,I1,w1⟩;refine wpAny_passesOwn hp (thn (hc aA s1 σ1 H1 _ I1 (turn n σ1 H1 w1)) λb s2 ⟨H2,I2,q2⟩=>?_);cases b with
 | true=>
  obtain⟨N,hN,q2⟩:=q2;rw[if_pos rfl];refine wpAny_passesOwn hp (thn (hb aA s2 σ1 H2 _ I2 q2) λf s3 q3=>?_);cases f with
  | next=>
   obtain⟨σ3,H3,I3,n3⟩:=q3;obtain⟨m',hm,w3⟩:=hN σ3 H3 n3;exact⟨m',hm,σ3,H3,I3,w3⟩
  | cont=>
   obtain⟨σ3,H3,I3,n3⟩:=q3;obtain⟨m',hm,w3⟩:=hN σ3 H3 n3;exact⟨m',hm,σ3,H3,I3,w3⟩
  | brk=>exact q3
  | ret v=>exact q3
 | false=>
  rw[if_neg yA];exact wpAny_execs_nil ⟨σ1,H2,I2,q2⟩
end
structure It where
 go:Nat->Hp->Prop
 yld:Nat->Hp->V->Hp->Prop
 stop:Nat->Hp->Prop
def Xl (X:Cx)(aA:LA)(H:Hp)(b:Addr):Prop:=
 H b=none/\b≠X.env.locals/\b ∉ X.fs/\(b∈X.ex\/X.s₀.heap.objs.size<=b)/\(∀x c,X.env.cells.lookup x=some c->c≠b)/\∀p∈X.pn++aA,p.1≠b
theorem Inv.fpOk {X:Cx}{aA:LA}{σ:St}{H H':Hp}{s:Shared}{b:Addr}(I:Inv X aA σ H s)(hb:s.heap.objs.size<=b)(hn:H' b=none):Xl X aA H' b:=by
 refine⟨hn,Nat.ne_of_gt (yD I.lt hb),I.nofs hb,.inr (yK I.sz hb),λx c e z=>?_,λp hp z=>?_⟩
 ·obtain⟨v,q⟩:=I.cell x c e;exact absurd (yD q.lt (by rw[z];exact hb)) (yL _)
 ·exact absurd (yD (Heap.lt_size (I.pin p hp).1) (by rw[z];exact hb)) (yL _)
structure QC (P:Program)(w:World)(K:Fg)(tg:Expr)(J:It)(fp:List Addr)(it:Addr)(tn:Nat->Heap->Prop):Prop where
 mem:it∈fp
 obj:∀i h,tn i h->∀b∈fp,∃o,h.get? b=some o/\∀v,o.data≠.cell v
 keep:∀i h h',tn i h->(∀b∈fp,∀o,h.get? b=some o->h'.get? b=some o)->tn i h'
 item:∀(X:Cx),X.prog=P->X.w=w->X.K=K->X.calm=true->∀(i:Nat)(aA:LA)(s:Shared)(σ:St)(H:Hp)(E:Value->Shared->Prop),Inv X aA σ H s->(∀b∈fp,Xl X aA H b)->tn i s.heap->J.go i H->
  wpAny (model P w) X.A (pyNext (.ref it)) (λr s1=>∃u,r=some u/\
   wpAny (model P w) X.A (letOwnedTupleGo tg (.ref it) u) (λ_ s2=>∃x H',Inv X aA σ H' s2/\ZH x u/\J.yld i H x H'/\tn (i+1) s2.heap/\∀b∈fp,H' b=none) E s1) E s
 done:∀(X:Cx),X.prog=P->X.w=w->X.K=K->X.calm=true->∀(i:Nat)(aA:LA)(s:Shared)(σ:St)(H:Hp)(E:Value->Shared->Prop),Inv X aA σ H s->(∀b∈fp,Xl X aA H b)->tn i s.heap->J.stop i H->
  wpAny (model P w) X.A (pyNext (.ref it)) (λr s1=>r=none/\Inv X aA σ H s1) E s
 self:∀(A:Around)(i:Nat)(s:Shared)(Q:Value->Shared->Prop)(E:Value->Shared->Prop),tn i s.heap->Q (.ref it) s->wpAny (model P w) A (pyIter (.ref it)) Q E s
abbrev TI:=St->Hp->(It->Hp->Prop)->Prop
def PIE (X:Cx)(aA:LA)(σ:St)(tg:Expr)(R:It->Hp->Prop)(itv:Value)(s2:Shared):Prop:=
 ∃(it:Addr)(fp:List Addr)(tn:Nat->Heap->Prop)(J:It)(H':Hp),itv=.ref it/\Inv X aA σ H' s2/\QC X.prog X.w X.K tg J fp it tn/\tn 0 s2.heap/\(∀b∈fp,Xl X aA H' b)/\R J H'
def PI (X:Cx)(tg aX:Expr)(wi:TI):Prop:=
 ∀(aA:LA)(s:Shared)(σ:St)(H:Hp)(R:It->Hp->Prop),Inv X aA σ H s->wi σ H R->
  wpAny (model X.prog X.w) X.A (eval aX X.env) (λv s1=>wpAny (model X.prog X.w) X.A (pyIter v) (PIE X aA σ tg R) X.xe s1) X.xe s
theorem D5 (ho:s.heap.get? it=some o)(hc:o.cls=.type n)(hd:o.data=.fields vs)(hn:["enumerate","zip","dict_itemiterator","dict_reverseitemiterator","odict_iterator","itertools.zip_longest","itertools.pairwise"].contains n=false)(hQ:Q () s):wpAny M A (letOwnedTupleGo tg (.ref it) u) Q E s:=by
  unfold letOwnedTupleGo;cases tg<;>first
    | exact wpAny_pure hQ
    | (cases u<;>first
        | exact wpAny_pure hQ
        | (refine wpAny_bind (wpAny_load ho ?_)
           rw[hc,hd];show wpAny M A (if (["enumerate","zip","dict_itemiterator","dict_reverseitemiterator","odict_iterator","itertools.zip_longest","itertools.pairwise"].contains n&&vs[0]?==some (rawInt _))=true then _ else _) Q E s;rw[if_neg (by intro h;rw[hn,Bool.false_and] at h;cases h)];exact wpAny_pure hQ))
def Itl (K:Fg)(a:Addr):It:=
 ⟨λi H=>∃xs x,SqL K H a xs/\xs[i]?=some x,λi H x H'=>H'=H/\∀xs,SqL K H a xs->xs[i]?=some x,λi H=>∃xs,SqL K H a xs/\xs.length<=i⟩
def Itr (lo:Int)(n:Nat):It:=⟨λi _=>i<n,λi H x H'=>H'=H/\x=.int (lo+i),λi _=>n<=i⟩
theorem Bz {P:Program}{w:World}{K:Fg}{tg:Expr}(a it:Addr):QC P w K tg (Itl K a) [it] it (λi h=>h.IsListIter it a i) where
 mem:=by simp
 obj:=λi h st b hb=>by
  have e:b=it:=by simpa using hb
  subst e;obtain⟨o,e,c,d⟩:=st;exact⟨o,e,λv z=>by rw[d] at z;cases z⟩
 keep:=λi h h' st k=>st.at λo e=>k it (by simp) o e
 item:=by
  intro X hP hw hK hc i aA s σ H E I hf st hg;subst hP hw hK;obtain⟨xs,x,hq,hx⟩:=hg;obtain⟨bA,rv,p,hz⟩:=I.list hq;obtain⟨u,hu,ru⟩:=rv.get hx;obtain⟨f0,f1,f2,f3,f4,f5⟩:=hf it (by simp);refine wpAny_pyNext_list_item st p.isList (x:=u) (by simpa using hu) λh' st' sb=>?_
  have I1:Inv X aA σ H { s with heap:=h' }:=I.turned (t':=s.toks) (λb o hb e=>(sb.2 b hb).trans e) f0 f1 f3 f4 f5;obtain⟨o,e,c,d⟩:=id st';exact⟨u,rfl,D5 (s:={ s with heap:=h' }) e c d (by decide) ⟨x,H,I1,ru,⟨rfl,λys hy=>by rw[I.list_inj hy hq];exact hx⟩,st',λb hb=>(hf b hb).1⟩⟩
 done:=by
  intro X hP hw hK hc i aA s σ H E I hf st hg;subst hP hw hK;obtain⟨xs,hq,hx⟩:=hg;obtain⟨bA,rv,p,hz⟩:=I.list hq;obtain⟨f0,f1,f2,f3,f4,f5⟩:=hf it (by simp);have hl:=rv.length;exact wpAny_pyNext_list_end (I.ok.hd hc) st p.isList (by simp;omega) λh' eb=>⟨rfl,I.turned (t':=s.toks) (λb o hb e=>eb b o hb e) f0 f1 f3 f4 f5⟩
 self:=λ_ _ _ _ _ st h=>wpAny_pyIter_listiter st h
theorem zdp {P:Program}{w:World}{K:Fg}{tg:Expr}(it:Addr)(lo:Int)(n:Nat):QC P w K tg (Itr lo n) [it] it (λi h=>IsRangeIter h it (lo+(i:Nat)*1) ((n:Int)-(i:Nat)) 1) where
 mem:=by simp
 obj:=λi h st b hb=>by
  have e:b=it:=by simpa using hb
  subst e;exact⟨_,st,λv z=>by
   have z':Data.fields _=Data.cell v:=z;cases z'⟩
 keep:=λi h h' st k=>k it (by simp) _ st
 item:=by
  intro X hP hw hK hc i aA s σ H E I hf st hg;subst hP hw hK;obtain⟨f0,f1,f2,f3,f4,f5⟩:=hf it (by simp);have W:=Walks.range (prog:=X.prog) (w:=X.w) (I.ok.hd hc) it lo 1 n;refine W.item i s _ _ hg st λv h' tk hv st' kk=>?_
  obtain⟨t,rfl⟩:=hv;have I1:Inv X aA σ H { s with heap:=h',toks:=tk }:=I.turned (λb o hb e=>kk b o (by simpa using hb) e) f0 f1 f3 f4 f5;refine⟨_,rfl,D5 (s:={ s with heap:=h',toks:=tk }) (n:="range_iterator") st' rfl rfl (by decide) ⟨.int (lo+i),H,I1,⟨t,?_⟩,⟨rfl,rfl⟩,st',λb hb=>(hf b hb).1⟩⟩;rw[Int.mul_one]
 done:=by
  intro X hP hw hK hc i aA s σ H E I hf st hg;subst hP hw hK;obtain⟨f0,f1,f2,f3,f4,f5⟩:=hf it (by simp);exact wpAny_pyNext_range_end (I.ok.hd hc) st (by have:n<=i:=hg;omega) λh' eb=>⟨rfl,I.turned (t':=s.toks) (λb o hb e=>eb b o hb e) f0 f1 f3 f4 f5⟩
 self:=λ_ _ _ _ _ st h=>wpAny_pyIter_rangeiter st h
end L2
namespace L2
open PySem PySem.Spec PyProof.Rows
section
variable {X:Cx}{tg:Expr}
def Cc (K:Fg)(tl:TE):TI:=λσ H R=>tl σ H λx H1=>∃a,x=.ref a/\(∃xs,SqL K H1 a xs)/\R (Itl K a) H1
theorem Iw {l:Expr}{tl:TE}(hl:PE X l tl):PI X tg l (Cc X.K tl):=by
 intro aA s σ H R I h;refine thn (hl aA s σ H _ I h) λv s1 ⟨x,H1,I1,r1,q1⟩=>?_
 obtain⟨a,e,⟨xs,hq⟩,q⟩:=q1;subst e;cases r1;obtain⟨bA,rv,p,hz⟩:=I1.list hq;refine wpAny_pyIter_list p.isList ?_;refine⟨s1.heap.objs.size,[s1.heap.objs.size],_,_,H1,rfl,I1.kept (t':=s1.toks) λb o e=>Heap.get?_push_of_some _ e,Bz a _,⟨_,Heap.get?_push_size _ rfl,rfl,rfl⟩,λb hb=>?_,q⟩;have e:b=s1.heap.objs.size:=by simpa using hb
 subst e;exact I1.fpOk (zD _) (I1.hok.fresh (zD _))
theorem DP {aA:LA}{σ:St}{H:Hp}{s:Shared}{R:It->Hp->Prop}{E:Value->Shared->Prop}{lo hi:Int}{t u v:Tok}{tk:Nat}(I:Inv X aA σ H s)(h1:-(2^62)<=lo)(h2:lo<2^62)(h3:-(2^62)<=hi)(h4:hi<2^62)
  (q:R (Itr lo (hi-lo).toNat) H):wpAny (model X.prog X.w) X.A (pyIter (.ref s.heap.objs.size)) (PIE X aA σ tg R) E { s with heap:=s.heap.push { cls:=.type "range",data:=.fields #[.int lo t,.int hi u,.int 1 v] },toks:=tk }:=by
 refine wpAny_pyIter_range (IsRange.new ..) (small_one h1 h2 h3 h4) ?_;have I1:Inv X aA σ H { s with heap:=s.heap.push { cls:=.type "range",data:=.fields #[.int lo t,.int hi u,.int 1 v] },toks:=tk }:=I.kept λb o e=>Heap.get?_push_of_some _ e
 refine⟨(s.heap.push { cls:=.type "range",data:=.fields #[.int lo t,.int hi u,.int 1 v] }).objs.size,[(s.heap.push { cls:=.type "range",data:=.fields #[.int lo t,.int hi u,.int 1 v] }).objs.size],_,_,H,rfl,
  I1.kept (t':=tk) λb o e=>Heap.get?_push_of_some _ e,zdp _ lo (hi-lo).toNat,?_,λb hb=>?_,q⟩
 ·have e1:lo+((0:Nat):Int)*1=lo:=by simp
  have e2:(((hi-lo).toNat:Nat):Int)-((0:Nat):Int)=Builtin.Range.rangeSize lo hi 1:=by rw[rangeSize_one];split<;>omega
  show IsRangeIter _ _ (lo+((0:Nat):Int)*1) ((((hi-lo).toNat:Nat):Int)-((0:Nat):Int)) 1;rw[e1,e2];exact Heap.get?_push_size _ rfl
 ·have e:b=(s.heap.push { cls:=.type "range",data:=.fields #[.int lo t,.int hi u,.int 1 v] }).objs.size:=by simpa using hb
  subst e;exact I1.fpOk (zD _) (I1.hok.fresh (zD _))
def E2 (ta:TA):TI:=λσ H R=>ta σ H λvs H1=>∃j:Int,vs=[.int j]/\-(2^62)<=j/\j<2^62/\R (Itr 0 j.toNat) H1
def iRng2 (ta:TA):TI:=λσ H R=>ta σ H λvs H1=>∃i j:Int,vs=[.int i,.int j]/\(-(2^62)<=i/\i<2^62/\-(2^62)<=j/\j<2^62)/\R (Itr i (j-i).toNat) H1
theorem Hw {a:Expr}{ta:TA}{p pos:Pos}(hg:Gl X "range")(hm:X.mg "range"=none)(ha:PA X [a] ta)(hs:starEach [a] X.env=[(false,eval a X.env)]:=by rfl):PI X tg (.Call (.Name "range" p) [a] [] pos) (E2 ta):=by
 intro aA s σ H R I h;refine Call_ (Up I hg hm boot_range (PyProof.Rows.callWith_type1 (thn (ha pos aA s σ H _ I h) λus s1 ⟨vs,H1,I1,r1,q1⟩=>?_) hs rfl));obtain⟨j,e,q1,q2,q⟩:=q1;subst e;cases r1 with
 | cons r rr=>
  cases rr;obtain⟨t,rfl⟩:=r;exact call_range_1 (DP I1 (by omega) (by omega) q1 q2 (by simpa using q))
theorem zdm (hg:Gl X "range")(hm:X.mg "range"=none)(ha:PA X [a,b] ta)(hs:starEach [a,b] X.env=[(false,eval a X.env),(false,eval b X.env)]:=by rfl)(hs2:starEach [b] X.env=[(false,eval b X.env)]:=by rfl):
  PI X tg (.Call (.Name "range" p) [a,b] [] pos) (iRng2 ta):=by
 intro aA s σ H R I h;refine Call_ (Up I hg hm boot_range (PyProof.Rows.callWith_type1 (thn (ha pos aA s σ H _ I h) λus s1 ⟨vs,H1,I1,r1,q1⟩=>?_) (by rw[hs,hs2]) (by rw[hs2];rfl)));obtain⟨i,j,e,⟨q1,q2,q3,q4⟩,q⟩:=q1;subst e;cases r1 with
 | cons r rr=>
  cases rr with
  | cons r' rr=>
   cases rr;obtain⟨t,rfl⟩:=r;obtain⟨t',rfl⟩:=r';exact call_range_2 (DP I1 q1 q2 q3 q4 q)
def tFor (wi:TI)(g:TG)(tb:TS):TS:=λD σ H=>wi σ H λJ H1=>∃W:Nat->Nat->St->Hp->Prop,(∃m,W 0 m σ H1)/\∀i m σ H,W i m σ H->
 (J.stop i H/\D.nx σ H)\/(J.go i H/\∃N:St->Hp->Prop,(∀σ' H',N σ' H'->∃m',m'<m/\W (i+1) m' σ' H')/\∀x H',J.yld i H x H'->g x σ H' λσ2 H2=>tb { D with nx:=N,ct:=N,bk:=D.nx } σ2 H2)
def Tw (fp:List Addr)(h:Heap):LA:=fp.filterMap λb=>(h.get? b).map λo=>(b,o)
theorem TX (hb:b∈fp)(e:h.get? b=some o):(b,o)∈Tw fp h:=List.mem_filterMap.mpr ⟨b,hb,by rw[e];rfl⟩
theorem zdM (hp:p∈Tw fp h):p.1∈fp/\h.get? p.1=some p.2:=by
 obtain⟨b,hb,e⟩:=List.mem_filterMap.mp hp;cases q:h.get? b with
 | none=>rw[q] at e;cases e
 | some o=>
  rw[q] at e;have e':(b,o)=p:=Option.some.inj e;subst e';exact⟨hb,q⟩
theorem Inv.pinned (I:Inv X aA σ H s)(hf:∀b∈fp,Xl X aA H b)(ho:∀b∈fp,∃o,s.heap.get? b=some o/\∀v,o.data≠.cell v):Inv X (aA++Tw fp s.heap) σ H s:=
 I.pins_of λp hp=>(yF.mp hp).elim (λz=>I.pin p (yN _ z)) λz=>by
  obtain⟨hb,e⟩:=zdM z;obtain⟨f0,f1,f2,_⟩:=hf p.1 hb;obtain⟨o,e',d⟩:=ho p.1 hb;rw[e] at e';cases e'
  exact⟨e,f0,f1,f2,d⟩
theorem Inv.unpinned (I:Inv X (aA++pl) σ H s):Inv X aA σ H s:=I.pins_of λp hp=>I.pin p (yN _ (List.mem_append_left _ hp))
theorem OS (hp:PassesOwn (model X.prog X.w) X.A X.env X.xe)(hc:X.calm=true)(hi:PI X tg aX wi)(hg:PG X tg g)(hb:PSs X body tb)(hs:∀x,foldedSetIterable aX X.env x=pure x:=by intro _;rfl):PS X (.For tg aX body [] pos) (tFor wi g tb):=by
 intro aA s σ H D I h;refine wpAny_For (thn (hi aA s σ H _ I h) λv s1 h1=>thn h1 λitv s2 h2=>?_) hs;obtain⟨it,fp,tn,J,H2,e,I2,T,st2,f2,W,⟨m0,w0⟩,turn⟩:=h2;subst e;have stat:∀ {H':Hp},(∀b∈fp,H' b=none)->∀b∈fp,Xl X aA H' b:=λhn b hb=>⟨hn b hb,(f2 b hb).2⟩
 refine codeAny_forLoop_any (λn s'=>∃i σ' H',Inv X aA σ' H' s'/\tn i s'.heap/\(∀b∈fp,H' b=none)/\W i n σ' H') ?_ m0 ⟨0,σ,H2,I2,st2,λb hb=>(f2 b hb).1,w0⟩;rintro n s3 ⟨i,σ3,H3,I3,st3,fr3,w3⟩;rcases turn i n σ3 H3 w3 with ⟨stop,qn⟩|⟨go,N,hN,step⟩
 ·refine wpAny_passesOwn hp (thn (T.done X rfl rfl rfl hc i aA s3 σ3 H3 X.xe I3 (stat fr3) st3 stop) λr s4 ⟨hr,I4⟩=>?_);subst hr;exact wpAny_execs_nil ⟨σ3,H3,I4,qn⟩
 ·refine wpAny_passesOwn hp (thn (T.item X rfl rfl rfl hc i aA s3 σ3 H3 X.xe I3 (stat fr3) st3 go) λr s4 ⟨u,hr,h4⟩=>?_);subst hr;refine wpAny_passesOwn hp (thn h4 λ_ s5 ⟨x,H5,I5,r5,y5,st5,fr5⟩=>?_);have I5':=I5.pinned (stat fr5) (T.obj _ _ st5);refine wpAny_passesOwn hp (thn (hg _ s5 σ3 H5 x u _ I5' r5 (step x H5 y5)) λ_ s6 ⟨σ6,H6,I6,q6⟩=>?_);refine wpAny_passesOwn hp (thn (hb _ s6 σ6 H6 _ I6 q6) λf s7 q7=>?_);have again:∀ {σ7:St} {H7:Hp},Inv X (aA++Tw fp s5.heap) σ7 H7 s7->N σ7 H7->∃m,m<n/\∃i σ' H',Inv X aA σ' H' s7/\tn i s7.heap/\(∀b∈fp,H' b=none)/\W i m σ' H':=λ{σ7 H7} I7 n7=>by
   obtain⟨m',hm,w7⟩:=hN σ7 H7 n7;refine⟨m',hm,i+1,σ7,H7,I7.unpinned,T.keep _ _ _ st5 λb hb o e=>(I7.pin (b,o) (yN _ (yN _ (TX hb e)))).1,λb hb=>?_,w7⟩;obtain⟨o,e,d⟩:=T.obj _ _ st5 b hb;exact(I7.pin (b,o) (yN _ (yN _ (TX hb e)))).2.1
  cases f with
  | next=>obtain⟨σ7,H7,I7,n7⟩:=q7;exact again I7 n7
  | cont=>obtain⟨σ7,H7,I7,n7⟩:=q7;exact again I7 n7
  | brk=>obtain⟨σ7,H7,I7,q7⟩:=q7;exact⟨σ7,H7,I7.unpinned,q7⟩
  | ret v=>obtain⟨x7,σ7,H7,I7,r7,q7⟩:=q7;exact⟨x7,σ7,H7,I7.unpinned,r7,q7⟩
end
end L2
namespace L2
open PySem PySem.Spec PyProof.Rows
abbrev R2:=V->V->Hp->VK->Prop
def OpR (X:Cx)(f:Value->Value->Sem Value)(r:R2):Prop:=
 ∀(aA:LA)(s:Shared)(σ:St)(H:Hp)(x y:V)(v u:Value)(Q:VK),Inv X aA σ H s->ZH x v->ZH y u->r x y H Q->
  wpAny (model X.prog X.w) X.A (f v u) (EP X aA σ Q) X.xe s
def UnR (X:Cx)(f:Value->Sem Value)(r:V->Hp->VK->Prop):Prop:=
 ∀(aA:LA)(s:Shared)(σ:St)(H:Hp)(x:V)(v:Value)(Q:VK),Inv X aA σ H s->ZH x v->r x H Q->
  wpAny (model X.prog X.w) X.A (f v) (EP X aA σ Q) X.xe s
def YA (X:Cx)(f:Value)(r:List V->Hp->VK->Prop):Prop:=
 ∀(aA:LA)(s:Shared)(σ:St)(H:Hp)(xs:List V)(us:List Value)(Q:VK),Inv X aA σ H s->ZG xs us->r xs H Q->
  wpAny (model X.prog X.w) X.A (call f us) (EP X aA σ Q) X.xe s
def tOp (r:R2)(ta tb:TE):TE:=λσ H Q=>ta σ H λx H1=>tb σ H1 λy H2=>r x y H2 Q
def tUn (r:V->Hp->VK->Prop)(ta:TE):TE:=λσ H Q=>ta σ H λx H1=>r x H1 Q
def rI (C:Int->Int->Prop)(g:Int->Int->V):R2:=λx y H Q=>∃i j,x=.int i/\y=.int j/\C i j/\Q (g i j) H
def rI0 (g:Int->Int->V):R2:=λx y H Q=>∃i j,x=.int i/\y=.int j/\Q (g i j) H
def rU (g:Int->V):V->Hp->VK->Prop:=λx H Q=>∃i,x=.int i/\Q (g i) H
section
variable {X:Cx}{a b c:Expr}{ta tb tc:TE}{pos:Pos}
theorem binT (ha:PE X a ta)(hb:PE X b tb){aA:LA}{s:Shared}{σ:St}{H:Hp}{R:V->V->Hp->Prop}(I:Inv X aA σ H s)
  (h:ta σ H λx H1=>tb σ H1 λy H2=>R x y H2){Q:Value->Shared->Prop}{f:Value->Value->Sem Value}
  (hf:∀v u s2 x y H2,Inv X aA σ H2 s2->ZH x v->ZH y u->R x y H2->wpAny (model X.prog X.w) X.A (f v u) Q X.xe s2):
  wpAny (model X.prog X.w) X.A (eval a X.env) (λv s₁=>wpAny (model X.prog X.w) X.A (eval b X.env) (λu s₂=>wpAny (model X.prog X.w) X.A (f v u) Q X.xe s₂) X.xe s₁) X.xe s:=by
 refine thn (ha aA s σ H _ I h) λv s1 ⟨x,H1,I1,r1,q1⟩=>?_
 refine thn (hb aA s1 σ H1 _ I1 q1) λu s2 ⟨y,H2,I2,r2,q2⟩=>?_
 exact hf v u s2 x y H2 I2 r1 r2 q2
theorem pe_op {op:Operator}{r:R2}(ho:OpR X (binaryOp op) r)(ha:PE X a ta)(hb:PE X b tb):PE X (.BinOp a op b pos) (tOp r ta tb):=by
 intro aA s σ H Q I h;exact wpAny_BinOp (binT ha hb I h λv u s2 x y H2 I2 rx ry q=>ho aA s2 σ H2 x y v u Q I2 rx ry q)
theorem pe_un (ho:UnR X (unaryOp op) r)(ha:PE X a ta):PE X (.UnaryOp op a pos) (tUn r ta):=by
 intro aA s σ H Q I h;exact UnaryOp_ (thn (ha aA s σ H _ I h) λv s1 ⟨x,H1,I1,r1,q1⟩=>ho aA s1 σ H1 x v Q I1 r1 q1)
theorem opI {f:Value->Value->Sem Value}{C:Int->Int->Prop}{g:Int->Int->Int}
  (rule:∀(i j:Int)(t u:Tok)(s:Shared)(Q:Value->Shared->Prop)(E:Value->Shared->Prop),C i j->Q (.int (g i j) s.toks) { s with toks:=s.toks+1 }->wpAny (model X.prog X.w) X.A (f (.int i t) (.int j u)) Q E s):
  OpR X f (rI C λi j=>.int (g i j)):=by
 intro aA s σ H x y v u Q I rx ry h;obtain⟨i,j,rfl,rfl,hc,q⟩:=h;obtain⟨t,rfl⟩:=rx;obtain⟨t',rfl⟩:=ry;exact rule i j t t' s _ _ hc ⟨.int (g i j),H,I.tok _,⟨_,rfl⟩,q⟩
theorem opI0 {f:Value->Value->Sem Value}{g:Int->Int->Int}
  (rule:∀(i j:Int)(t u:Tok)(s:Shared)(Q:Value->Shared->Prop)(E:Value->Shared->Prop),Q (.int (g i j) s.toks) { s with toks:=s.toks+1 }->wpAny (model X.prog X.w) X.A (f (.int i t) (.int j u)) Q E s):
  OpR X f (rI0 λi j=>.int (g i j)):=by
 intro aA s σ H x y v u Q I rx ry h;obtain⟨i,j,rfl,rfl,q⟩:=h;obtain⟨t,rfl⟩:=rx;obtain⟨t',rfl⟩:=ry;exact rule i j t t' s _ _ ⟨.int (g i j),H,I.tok _,⟨_,rfl⟩,q⟩
theorem NW {f:Value->Value->Sem Value}{g:Int->Int->Bool}
  (rule:∀(i j:Int)(t u:Tok)(s:Shared)(Q:Value->Shared->Prop)(E:Value->Shared->Prop),Q (.bool (g i j)) s->wpAny (model X.prog X.w) X.A (f (.int i t) (.int j u)) Q E s):
  OpR X f (rI0 λi j=>.bl (g i j)):=by
 intro aA s σ H x y v u Q I rx ry h;obtain⟨i,j,rfl,rfl,q⟩:=h;obtain⟨t,rfl⟩:=rx;obtain⟨t',rfl⟩:=ry;exact rule i j t t' s _ _ ⟨.bl (g i j),H,I,rfl,q⟩
def CPow (i j:Int):Prop:=0<=j/\j<=1000000/\i.natAbs<2^64
theorem A1:OpR X (binaryOp .Add) (rI0 λi j=>.int (i+j)):=opI0 λ_ _ _ _ _ _ _ q=>add_int q
theorem zed:OpR X (binaryOp .Sub) (rI0 λi j=>.int (i-j)):=opI0 λ_ _ _ _ _ _ _ q=>sub_int q
theorem zdn:OpR X (binaryOp .Mod) (rI (λ_ j=>0<j) λi j=>.int (i%j)):=opI λi j _ _ _ _ _ hc q=>by
 have h1:(0:Int)<j:=hc;exact mod_int' (by omega) (by rw[Int.fmod_eq_emod_of_nonneg i (by omega)];exact q)
theorem zbv:OpR X (binaryOp .Pow) (rI CPow λi j=>.int (i^j.toNat)):=opI λ_ _ _ _ _ _ _ hc q=>pow_int_small hc.1 hc.2.1 hc.2.2 q
theorem unI {f:Value->Sem Value}{g:Int->Int}
  (rule:∀(i:Int)(t:Tok)(s:Shared)(Q:Value->Shared->Prop)(E:Value->Shared->Prop),Q (.int (g i) s.toks) { s with toks:=s.toks+1 }->wpAny (model X.prog X.w) X.A (f (.int i t)) Q E s):
  UnR X f (rU λi=>.int (g i)):=by
 intro aA s σ H x v Q I rx h;obtain⟨i,rfl,q⟩:=h;obtain⟨t,rfl⟩:=rx;exact rule i t s _ _ ⟨.int (g i),H,I.tok _,⟨_,rfl⟩,q⟩
theorem zdA:UnR X (unaryOp .USub) (rU λi=>.int (-i)):=unI λ_ _ _ _ _ q=>neg_int q
end
def Mb:V->V->Bool
 | .non,.non=>true|.non,.int _=>true|.int _,.non=>true|.non,.bl _=>true|.bl _,.non=>true|.non,.str _=>true|.str _,.non=>true
 | .int _,.int _=>true|.bl _,.bl _=>true|.str _,.str _=>true|.byt _,.byt _=>true
 | .int _,.str _=>true|.str _,.int _=>true|.bl _,.str _=>true|.str _,.bl _=>true
 | _,_=>false
def rEq:R2:=λx y H Q=>Mb x y=true/\Q (.bl (decide (x=y))) H
def rNe:R2:=λx y H Q=>Mb x y=true/\Q (.bl (!decide (x=y))) H
theorem DF:decide (V.int i=V.int j)=(i==j):=by
 rw[xP];simp
theorem ET:decide (V.bl i=V.bl j)=(i==j):=by
 rw[xP];simp
theorem Dw:decide (V.str i=V.str j)=(i==j):=by
 rw[xP];simp
theorem DS:decide (V.byt i=V.byt j)=(i.toList==j.toList):=by
 rw[xP];cases i;cases j;simp
section
variable {X:Cx}{a b c:Expr}{ta tb tc:TE}{pos:Pos}
theorem Yj (I:Inv X aA σ H s)(q:Q (.bl k) H)(e:k=k'):EP X aA σ Q (.bool k') s:=by
 subst e;exact⟨.bl k,H,I,rfl,q⟩
theorem GF:OpR X (compareOp .Eq) rEq:=by
 intro aA s σ H x y v u Q I rx ry h;obtain⟨hs,q⟩:=h;cases x with
 | non=>
  cases rx;cases y with
  | non=>cases ry;exact PySem.EqNone.eq_none_none (Yj I q (by simp))
  | bl j=>cases ry;exact PySem.EqNone.eq_none_bool (Yj I q (by simp))
  | int j=>obtain⟨t',rfl⟩:=ry;exact PySem.EqNone.eq_none_int (Yj I q (by simp))
  | str j=>obtain⟨t',rfl⟩:=ry;exact PySem.EqNone.eq_none_str (Yj I q (by simp))
  | _=>exact absurd (show false=true from hs) yA
 | bl i=>
  cases rx;cases y with
  | non=>cases ry;exact PySem.EqNone.eq_bool_none (Yj I q (by simp))
  | bl j=>cases ry;exact eq_bool (Yj I q ET)
  | str j=>obtain⟨t',rfl⟩:=ry;exact PySem.EqMixed.eq_bool_str (Yj I q (by simp))
  | _=>exact absurd (show false=true from hs) yA
 | int i=>
  obtain⟨t,rfl⟩:=rx;cases y with
  | non=>cases ry;exact PySem.EqNone.eq_int_none (Yj I q (by simp))
  | int j=>obtain⟨t',rfl⟩:=ry;exact eq_int (Yj I q DF)
  | str j=>obtain⟨t',rfl⟩:=ry;exact PySem.EqMixed.eq_int_str (Yj I q (by simp))
  | _=>exact absurd (show false=true from hs) yA
 | str i=>
  obtain⟨t,rfl⟩:=rx;cases y with
  | non=>cases ry;exact PySem.EqNone.eq_str_none (Yj I q (by simp))
  | bl j=>cases ry;exact PySem.EqMixed.eq_str_bool (Yj I q (by simp))
  | int j=>obtain⟨t',rfl⟩:=ry;exact PySem.EqMixed.eq_str_int (Yj I q (by simp))
  | str j=>obtain⟨t',rfl⟩:=ry;exact eq_str (Yj I q Dw)
  | _=>exact absurd (show false=true from hs) yA
 | byt i=>
  obtain⟨t,rfl⟩:=rx;cases y with
  | byt j=>obtain⟨t',rfl⟩:=ry;exact PySem.W.eq_bytes (Yj I q DS)
  | _=>exact absurd (show false=true from hs) yA
 | _=>cases y<;>exact absurd (show false=true from hs) yA
theorem op_ne:OpR X (compareOp .NotEq) rNe:=by
 intro aA s σ H x y v u Q I rx ry h;obtain⟨hs,q⟩:=h;cases x with
 | non=>
  cases rx;cases y with
  | non=>cases ry;exact PySem.EqNone.ne_none_none (Yj I q (by simp))
  | bl j=>cases ry;exact PySem.EqNone.ne_none_bool (Yj I q (by simp))
  | int j=>obtain⟨t',rfl⟩:=ry;exact PySem.EqNone.ne_none_int (Yj I q (by simp))
  | str j=>obtain⟨t',rfl⟩:=ry;exact PySem.EqNone.ne_none_str (Yj I q (by simp))
  | _=>exact absurd (show false=true from hs) yA
 | bl i=>
  cases rx;cases y with
  | non=>cases ry;exact PySem.EqNone.ne_bool_none (Yj I q (by simp))
  | bl j=>cases ry;exact ne_bool (Yj I q (congrArg not ET))
  | str j=>obtain⟨t',rfl⟩:=ry;exact PySem.EqMixed.ne_bool_str (Yj I q (by simp))
  | _=>exact absurd (show false=true from hs) yA
 | int i=>
  obtain⟨t,rfl⟩:=rx;cases y with
  | non=>cases ry;exact PySem.EqNone.ne_int_none (Yj I q (by simp))
  | int j=>obtain⟨t',rfl⟩:=ry;exact ne_int (Yj I q (congrArg not DF))
  | str j=>obtain⟨t',rfl⟩:=ry;exact PySem.EqMixed.ne_int_str (Yj I q (by simp))
  | _=>exact absurd (show false=true from hs) yA
 | str i=>
  obtain⟨t,rfl⟩:=rx;cases y with
  | non=>cases ry;exact PySem.EqNone.ne_str_none (Yj I q (by simp))
  | bl j=>cases ry;exact PySem.EqMixed.ne_str_bool (Yj I q (by simp))
  | int j=>obtain⟨t',rfl⟩:=ry;exact PySem.EqMixed.ne_str_int (Yj I q (by simp))
  | str j=>obtain⟨t',rfl⟩:=ry;exact ne_str (Yj I q (congrArg not Dw))
  | _=>exact absurd (show false=true from hs) yA
 | byt i=>
  obtain⟨t,rfl⟩:=rx;cases y with
  | byt j=>obtain⟨t',rfl⟩:=ry;exact PySem.W.ne_bytes (Yj I q (congrArg not DS))
  | _=>exact absurd (show false=true from hs) yA
 | _=>cases y<;>exact absurd (show false=true from hs) yA
theorem op_lt:OpR X (compareOp .Lt) (rI0 λi j=>.bl (decide (i<j))):=NW λ_ _ _ _ _ _ _ q=>lt_int q
theorem op_le:OpR X (compareOp .LtE) (rI0 λi j=>.bl (decide (i<=j))):=NW λ_ _ _ _ _ _ _ q=>le_int q
theorem op_gt:OpR X (compareOp .Gt) (rI0 λi j=>.bl (decide (j<i))):=NW λ_ _ _ _ _ _ _ q=>gt_int q
theorem op_ge:OpR X (compareOp .GtE) (rI0 λi j=>.bl (decide (j<=i))):=NW λ_ _ _ _ _ _ _ q=>ge_int q
theorem zcc:OpR X (compareOp .Is) (λx y H Q=>y=.non/\Q (.bl (decide (x=.non))) H):=by
 intro aA s σ H x y v u Q I rx ry h;obtain⟨rfl,q⟩:=h;cases ry;refine is_none_gen (Yj I q ?_);cases x<;>first
  | (cases rx;rfl)
  | (obtain⟨t,rfl⟩:=rx;rfl)
theorem ZI (b:Expr)(h:op≠.In:=by decide)(h2:op≠.NotIn:=by decide):behindInMarks op b=false:=by
 have e1:(op==CmpOp.In)=false:=by cases op<;>first|rfl|exact absurd rfl h
 have e2:(op==CmpOp.NotIn)=false:=by cases op<;>first|rfl|exact absurd rfl h2
 cases b<;>simp[behindInMarks,e1,e2]
theorem zcp {op:CmpOp}{r:R2}(ho:OpR X (compareOp op) r)(ha:PE X a ta)(hb:PE X b tb)(hm:behindInMarks op b=false):PE X (.Compare a [op] [b] pos) (tOp r ta tb):=by
 intro aA s σ H Q I h;exact wpAny_Compare1 (binT ha hb I h λv u s2 x y H2 I2 rx ry q=>ho aA s2 σ H2 x y v u Q I2 rx ry q) hm
def EZ (t:TE):TT:=λσ H Q=>t σ H λx H'=>∃k,x=.bl k/\Q k H'
theorem Bw (ho:OpR X (compareOp op) r)(ha:PE X a ta)(hb:PE X b tb)(hm:behindInMarks op b=false):PT X (.Compare a [op] [b] pos) (EZ (tOp r ta tb)):=by
 intro aA s σ H Q I h;refine wpAny_isTrue_Compare1 (thn (ha aA s σ H _ I h) λv s1 ⟨x,H1,I1,r1,q1⟩=>thn (hb aA s1 σ H1 _ I1 q1) λu s2 ⟨y,H2,I2,r2,q2⟩=>
  thn (ho aA s2 σ H2 x y v u _ I2 r1 r2 q2) λc s3 ⟨z,H3,I3,r3,k,e,q3⟩=>?_) hm
 subst e;cases r3;exact wpAny_truthy_bool ⟨H3,I3,q3⟩
def Cs (r r':R2)(ta tb tc:TE):TE:=λσ H Q=>ta σ H λx H1=>tb σ H1 λy H2=>r x y H2 λz H3=>∃k,z=.bl k/\
 (if k=true then tc σ H3 λw' H4=>r' y w' H4 Q else Q (.bl false) H3)
theorem zc8 (ho:OpR X (compareOp op) r)(ho':OpR X (compareOp op') r')(ha:PE X a ta)(hb:PE X b tb)(hc:PE X c tc)(hm:lastMarks [op,op'] [b,c]=false:=by with_unfolding_all rfl):PT X (.Compare a [op,op'] [b,c] pos) (EZ (Cs r r' ta tb tc)):=by
 intro aA s σ H Q I h;refine isTrue_chain (thn (ha aA s σ H _ I h) λv s1 ⟨x,H1,I1,r1,q1⟩=>test_link (thn (hb aA s1 σ H1 _ I1 q1) λu s2 ⟨y,H2,I2,r2,q2⟩=>
  thn (ho aA s2 σ H2 x y v u _ I2 r1 r2 q2) λd s3 ⟨z,H3,I3,r3,k,e,q3⟩=>?_)) hm
 subst e;cases r3;refine wpAny_truthy_bool ?_;cases k with
 | false=>
  obtain⟨k',e',q'⟩:=q3;cases e';exact ite_ff ⟨H3,I3,q'⟩
 | true=>
  refine ite_tt (test_last (thn (hc aA s3 σ H3 _ I3 q3) λw' s4 ⟨z',H4,I4,r4,q4⟩=>thn (ho' aA s4 σ H4 y z' u w' _ I4 r2 r4 q4) λd' s5 ⟨z2,H5,I5,r5,k2,e2,q5⟩=>?_));subst e2;cases r5;exact wpAny_truthy_bool ⟨H5,I5,q5⟩
theorem QO:(sizeLine:Nat)<2^63:=by rw[sizeLine_eq];decide
theorem W5 (r:ZG [x] us):∃u,us=[u]/\ZH x u:=by
 cases r with
 | cons r1 r2=>cases r2;exact⟨_,rfl,r1⟩
theorem Fc (r:ZG [x,y] us):∃u w',us=[u,w']/\ZH x u/\ZH y w':=by
 cases r with
 | cons r1 r2=>
  cases r2 with
  | cons r3 r4=>cases r4;exact⟨_,_,rfl,r1,r3⟩
theorem BN:YA X (.builtin "abs") (λxs H Q=>∃i,xs=[.int i]/\Q (.int (if i<0 then -i else i)) H):=by
 intro aA s σ H xs us Q I r h;obtain⟨i,rfl,q⟩:=h;obtain⟨u,rfl,t,rfl⟩:=W5 r;exact call_abs_int λu tk=>⟨.int (if i<0 then -i else i),H,I.tok _,⟨_,rfl⟩,q⟩
theorem Bq (hc:X.calm=true):YA X (.builtin "max") (λxs H Q=>∃i j,xs=[.int i,.int j]/\Q (.int (if j > i then j else i)) H):=by
 intro aA s σ H xs us Q I r h;obtain⟨i,j,rfl,q⟩:=h;obtain⟨u,w',rfl,⟨t,rfl⟩,⟨t',rfl⟩⟩:=Fc r;refine max_two_ints (I.ok.hd hc) λh' tk k=>⟨_,H,I.kept k,?_,q⟩
 by_cases hj:j > i
 ·rw[if_pos hj,if_pos hj];exact⟨_,rfl⟩
 ·rw[if_neg hj,if_neg hj];exact⟨_,rfl⟩
theorem Al (hc:X.calm=true):YA X (.builtin "min") (λxs H Q=>∃i j,xs=[.int i,.int j]/\Q (.int (if j<i then j else i)) H):=by
 intro aA s σ H xs us Q I r h;obtain⟨i,j,rfl,q⟩:=h;obtain⟨u,w',rfl,⟨t,rfl⟩,⟨t',rfl⟩⟩:=Fc r;refine min_two_ints (I.ok.hd hc) λh' tk k=>⟨_,H,I.kept k,?_,q⟩
 by_cases hj:j<i
 ·rw[if_pos hj,if_pos hj];exact⟨_,rfl⟩
 ·rw[if_neg hj,if_neg hj];exact⟨_,rfl⟩
end
end L2
namespace L2
open PySem PySem.Spec PyProof.Rows
structure U1 (h:Heap)(x dx C:Addr)(mA:Str->Option Value):Prop where
 obj:h.get? x=some (PySem.W.instObj C dx)
 ns:h.Ns1 dx mA
 ne:dx≠x
theorem zd4 {h:Heap}{dx:Addr}{mA:Str->Option Value}(n:h.Ns1 dx mA):∃od,h.get? dx=some od/\∀name,PySem.W.lookIn name od=some (mA name):=by
 obtain⟨o,es,ep,ho,hd,hk,_,hm⟩:=n;refine⟨o,ho,λname=>?_⟩;have e:=hm name;unfold nsFind findBy at e;rw[<- Array.find?_toList] at e;unfold PySem.W.lookIn;rw[hd];dsimp only;split
 ·rename_i y q;rw[q] at e;exact congrArg some e
 ·rename_i q;rw[q] at e;have a:es.toList.any (·.refKey)=false:=by
   rw[List.any_eq_false];intro y hy;obtain⟨z,t,hkey⟩:=hk y (Array.mem_toList_iff.mp hy);simp[DictEntry.refKey,hkey]
  have a':¬ es.toList.any (·.refKey)=true:=by rw[a];exact yA
  rw[if_neg a'];exact congrArg some e
theorem U1.look (I:U1 h x dx C mA):∃od,PySem.W.InstAt h x (PySem.W.instObj C dx) C (some od)/\∀name,PySem.W.lookIn name od=some (mA name):=
 let ⟨od,ho,hl⟩:=zd4 I.ns
 ⟨od,⟨I.obj,rfl,rfl,ho⟩,hl⟩
section
variable {prog:Program}{w:World}{A:Around}{E:Value->Shared->Prop}{s:Shared}{K:Fg}{x dx C f:Addr}{mA:Str->Option Value}{name:Str}{v:Value}
theorem zcB (X:K.In s.heap)(I:U1 s.heap x dx C mA)(hg:PySem.W.plainGet K C name=true)(hh:PySem.W.hasDictIn K C=true)(ha:PySem.W.findIn K (.ref C) name=some none)(hv:mA name=some v)(hv':PySem.W.handedIn v=true)(h:Q v { s with toks:=s.toks+1 }):
  wpAny (model prog w) A (getAttr (.ref x) name expr) Q E s:=by
 obtain⟨od,J,hl⟩:=I.look;exact PySem.W.get_value X J (PySem.W.plainGet_of hg).1 (PySem.W.findObj_own hh ha rfl (by rw[hl,hv])) hv' h
theorem zea (X:K.In s.heap)(I:U1 s.heap x dx C mA)(hg:PySem.W.plainGet K C name=true)(hf:PySem.W.findIn K (.ref C) name=some (some (.ref f)))(ht:PySem.W.isFn K (.ref f)=true)(hv:mA name=none)(h:Q (.ref f,[.ref x]) s):
  wpAny (model prog w) A (getMethod (.ref x) name pl) Q E s:=by
 obtain⟨od,J,hl⟩:=I.look;exact PySem.W.method_fn X J (PySem.W.plainGet_of hg).1 (PySem.W.plainGet_of hg).2 hf (beq_iff_eq.mp ht) (by show (PySem.W.lookIn name od).map (·.isSome)=some false;rw[hl,hv];rfl) h
theorem B3 (X:K.In s.heap)(I:U1 s.heap x dx C mA)(hs:PySem.W.findIn K (.ref C) "__setattr__"=some (some (.builtin "object.__setattr__")))(hp:PySem.W.plainOver K C=true)(ht:PySem.W.takerIn K C name=some none)(hh:PySem.W.hasDictIn K C=true)(hw:PySem.Within mA ns)(hsz:ns.length<=sizeLine)(h:∀h',U1 h' x dx C (λy=>if y=name then some v else mA y)->Heap.SameBut dx s.heap h'->Q () { s with heap:=h',toks:=s.toks+2 }):
  wpAny (model prog w) A (setAttr (.ref x) name v) Q E s:=by
 obtain⟨od,J,hl⟩:=I.look;refine PySem.W.set_plain X J hs (PySem.W.osa_open (s:={ s with toks:=s.toks+1 }) (r:=none) X J hp ht λb=>?_);obtain⟨cd,hc,hd'⟩:=PySem.W.any_some hh;have hx:s.heap.get? x=some ⟨.ref C,some dx,.plain,#[]⟩:=I.obj;refine wpAny_bind (wpAny_pure (wpAny_bind (wpAny_bind (wpAny_loadPart hx (wpAny_bind (PySem.W.Looks.here (s:={ s with toks:=s.toks+1 }) (PySem.W.looks_clsIn X hc) ?_))))));rw[hd'];refine wpAny_pure (a:=some dx) (wpAny_bind (wpAny_pure (wpAny_bind ?_)));refine wpAny_nsSet1 (s:={ s with toks:=s.toks+1 }) I.ns λh' hn2 hs2=>?_
 obtain⟨oD,esD,epD,hoD,hdD,hcD⟩:=hn2.count (PySem.Within.cons name v hw);refine wpAny_bind (wpAny_lookBehind hoD (by rw[hdD];exact pastItsLine_dict (yK hcD (by rw[zY];omega))) ?_);exact wpAny_pure (h _ ⟨(hs2.2 _ (Ne.symm I.ne)).trans I.obj,hn2,I.ne⟩ hs2)
theorem zd3 (X:K.In s.heap)(hm:PySem.W.makesIn K C=true)(hi:PySem.W.findIn K (.ref C) "__init__"=some (some (.ref f)))(hf:PySem.W.typeIn K (.ref f)=some (.type "function"))(h:codeAny (model prog w) (A.under (.builtin "type.__call__" ⟨.ref C::vs,kw⟩)) (.call (.ref f) ⟨.ref (s.heap.objs.size+1)::vs,kw⟩) (PySem.W.InitBack (s.heap.objs.size+1) R)
   { s with heap:=(s.heap.push PySem.W.emptyDict).push (PySem.W.instObj C s.heap.objs.size) }):
  codeAny (model prog w) A (.call (.ref C) ⟨vs,kw⟩) R s:=by
 obtain⟨hh,g,d,t,os⟩:=s;exact PySem.W.make_core (PySem.W.makes_of X hm) (PySem.W.looks_findIn X hi) (λself=>PySem.W.bind_fn X self hf) (.inl rfl) h
end
def Y4 (f:Str)(v:V):List (Str×V)->List (Str×V)
 | []=>[(f,v)]
 | (g,x)::r=>if g=f then (g,v)::r else (g,x)::Y4 f v r
theorem E0 (f g:Str)(v:V):∀fs:List (Str×V),(Y4 f v fs).lookup g=if g=f then some v else fs.lookup g
 | []=>by
  show List.lookup g [(f,v)]=_;by_cases h:g=f
  ·have hb:(g==f)=true:=beq_iff_eq.mpr h;simp only[List.lookup,hb,if_pos h]
  ·have hb:(g==f)=false:=beq_eq_false_iff_ne.mpr h;simp only[List.lookup,hb,if_neg h]
 | (k,x)::r=>by
  have ih:=E0 f g v r;rw[show Y4 f v ((k,x)::r)=(if k=f then (k,v)::r else (k,x)::Y4 f v r) from rfl];by_cases hk:k=f
  ·rw[if_pos hk];by_cases h:g=k
   ·have hb:(g==k)=true:=beq_iff_eq.mpr h;simp only[List.lookup,hb,if_pos (h.trans hk)]
   ·have hb:(g==k)=false:=beq_eq_false_iff_ne.mpr h;simp only[List.lookup,hb,if_neg (λe:g=f=>h (e.trans hk.symm))]
  ·rw[if_neg hk];by_cases h:g=k
   ·have hb:(g==k)=true:=beq_iff_eq.mpr h;simp only[List.lookup,hb,if_neg (λe:g=f=>hk (h.symm.trans e))]
   ·have hb:(g==k)=false:=beq_eq_false_iff_ne.mpr h;simp only[List.lookup,hb];exact ih
theorem HF (f:Str)(v:V):∀fs:List (Str×V),f∈(Y4 f v fs).map (·.1)/\∀g,g∈fs.map (·.1)->g∈(Y4 f v fs).map (·.1)
 | []=>⟨by simp[Y4],λg h=>by simp at h⟩
 | (k,x)::r=>by
  obtain⟨i1,i2⟩:=HF f v r;rw[show Y4 f v ((k,x)::r)=(if k=f then (k,v)::r else (k,x)::Y4 f v r) from rfl];by_cases hk:k=f
  ·rw[if_pos hk];subst hk;exact⟨by simp,λg h=>by simpa using h⟩
  ·rw[if_neg hk];refine⟨?_,λg h=>?_⟩
   ·rw[yP];exact yU _ i1
   ·rw[yP] at h ⊢;rcases zQ.mp h with e|e
    ·exact zQ.mpr (.inl e)
    ·exact yU _ (i2 g e)
theorem D9 (f:Str)(v:V):∀fs:List (Str×V),(Y4 f v fs).length<=fs.length+1
 | []=>by simp[Y4]
 | (k,x)::r=>by
  have ih:=D9 f v r;rw[show Y4 f v ((k,x)::r)=(if k=f then (k,v)::r else (k,x)::Y4 f v r) from rfl];by_cases hk:k=f
  ·rw[if_pos hk,zY,zY];omega
  ·rw[if_neg hk,zY,zY];omega
theorem XE.some_of (r:XE (some v) o):∃u,o=some u/\ZH v u:=by
 cases o with
 | none=>exact(show False from r).elim
 | some u=>exact⟨u,rfl,r⟩
theorem XE.none_of (r:XE none o):o=none:=by
 cases o with
 | none=>rfl
 | some u=>exact(show False from r).elim
theorem zd5 (r:ZH v u):PySem.W.handedIn u=true:=by
 cases v with
 | non=>cases (show u=Value.none from r);rfl
 | bl b=>cases (show u=Value.bool b from r);rfl
 | int i=>obtain⟨t,e⟩:=(show ∃t,u=Value.int i t from r);cases e;rfl
 | str x=>obtain⟨t,e⟩:=(show ∃t,u=Value.str x t from r);cases e;rfl
 | byt b=>obtain⟨t,e⟩:=(show ∃t,u=Value.bytes b t from r);cases e;rfl
 | flt b=>obtain⟨t,e⟩:=(show ∃t,u=Value.float b t from r);cases e;rfl
 | ref a=>cases (show u=Value.ref a from r);rfl
 | ty n=>cases (show u=Value.type n from r);rfl
section
variable {P:Program}{w:World}{H H':Hp}{h h':Heap}{a C dx:Addr}{fs fs':List (Str×V)}
theorem Ih (hok:HOk P w H h)(e:H a=some (.ins C dx fs)):∃mA,U1 h a dx C mA/\(∀f,XE (fs.lookup f) (mA f))/\PySem.Within mA (fs.map (·.1))/\fs.length<=1000/\H dx=some (.own a):=by
 obtain⟨d,z,ne,ob,mA,n,r,q⟩:=(show YR P w H h a (.ins C dx fs) from hok a _ e);exact⟨mA,⟨ob,n,ne⟩,r,q,z,d⟩
end
structure Cls (K:Fg)(C:Addr):Prop where
 pg:PySem.W.plainGet K C Str.empty=true
 hd:PySem.W.hasDictIn K C=true
 po:PySem.W.plainOver K C=true
 sa:PySem.W.findIn K (.ref C) "__setattr__"=some (some (.builtin "object.__setattr__"))
theorem Cls.get {K:Fg}{C:Addr}(c:Cls K C)(f:Str):PySem.W.plainGet K C f=true:=c.pg
def Y3 (K:Fg)(C:Addr)(f:Str):Prop:=PySem.W.findIn K (.ref C) f=some none
theorem Y3.taker {K:Fg}{C:Addr}{f:Str}(n:Y3 K C f):PySem.W.takerIn K C f=some none:=by
 unfold PySem.W.takerIn;rw[show PySem.W.findIn K (.ref C) f=some none from n];rfl
structure TV (K:Fg)(C:Addr)(m:Str)(f:Addr):Prop where
 at_:PySem.W.findIn K (.ref C) m=some (some (.ref f))
 fn:PySem.W.isFn K (.ref f)=true
 kp:PySem.W.keepIn K (.ref f)=true
section
variable {X:Cx}{aA:LA}{σ:St}{H:Hp}{s:Shared}{a C dx:Addr}{fs:List (Str×V)}{f:Str}{v:V}{A:Around}{E:Value->Shared->Prop}
theorem B8 (I:Inv X aA σ H s)(e:H a=some (.ins C dx fs))(c:Cls X.K C)(n:Y3 X.K C f)(l:fs.lookup f=some v)(h:∀u s',Inv X aA σ H s'->ZH v u->Q u s'):wpAny (model X.prog X.w) A (getAttr (.ref a) f b) Q E s:=by
 obtain⟨mA,O,r,_,_,_⟩:=Ih I.hok e;obtain⟨u,hu,ru⟩:=XE.some_of (v:=v) (o:=mA f) (by rw[<- l];exact r f);exact zcB I.kIn O (c.get f) c.hd n hu (zd5 ru) (h u _ (I.tok _) ru)
theorem Cf (I:Inv X aA σ H s)(e:H a=some (.ins C dx fs))(c:Cls X.K C)(k:TV X.K C m g)(l:fs.lookup m=none)(h:Q (.ref g,[.ref a]) s):wpAny (model X.prog X.w) A (getMethod (.ref a) m pl) Q E s:=by
 obtain⟨mA,O,r,_,_,_⟩:=Ih I.hok e;have hn:mA m=none:=XE.none_of (by rw[<- l];exact r m);exact zea I.kIn O (c.get m) k.at_ k.fn hn h
theorem zbn (I:Inv X aA σ H s)(e:H a=some (.ins C dx fs))(c:Cls X.K C)(n:Y3 X.K C f)(hl:fs.length<1000)(ry:ZH y u)(h:∀s',Inv X aA σ (upd H a (.ins C dx (Y4 f y fs))) s'->Q () s'):wpAny (model X.prog X.w) A (setAttr (.ref a) f u) Q E s:=by
 obtain⟨mA,O,r,wi,_,ho⟩:=Ih I.hok e;have hz:(fs.map (·.1)).length<=sizeLine:=by rw[zA,sizeLine_eq];omega
 refine B3 I.kIn O c.sa c.po n.taker c.hd wi hz λh' O' sb=>h _ ?_
 have hd:∃o,h'.get? dx=some o:=let ⟨o,_,_,e',_⟩:=O'.ns;⟨o,e'⟩
 refine I.write (x:=a) (e:=dx) (by rw[e];exact True.intro) (.inr ho) (λb q hb z=>(sb.2 b hb).trans z) hd ?_;refine⟨by rw[Yn O.ne];exact ho,?_,O.ne,O'.obj,_,O'.ns,λg=>?_,λg hg=>?_⟩
 ·have:=D9 f y fs;omega
 ·show XE ((Y4 f y fs).lookup g) (if g=f then some u else mA g);rw[E0];by_cases q:g=f
  ·rw[if_pos q,if_pos q];exact ry
  ·rw[if_neg q,if_neg q];exact r g
 ·by_cases q:g=f
  ·rw[q];exact(HF f y fs).1
  ·refine(HF f y fs).2 g (wi g λz=>hg ?_);show (if g=f then some u else mA g)=none;rw[if_neg q];exact z
theorem Inv.made (I:Inv X aA σ H s):Inv X aA σ (upd (upd H s.heap.objs.size (.own (s.heap.objs.size+1))) (s.heap.objs.size+1) (.ins C s.heap.objs.size []))
  { s with heap:=(s.heap.push PySem.W.emptyDict).push (PySem.W.instObj C s.heap.objs.size) }:=by
 have e1:(s.heap.push PySem.W.emptyDict).get? s.heap.objs.size=some PySem.W.emptyDict:=Heap.get?_push_size s.heap rfl
 have e2:((s.heap.push PySem.W.emptyDict).push (PySem.W.instObj C s.heap.objs.size)).get? (s.heap.objs.size+1)=some (PySem.W.instObj C s.heap.objs.size):=by
  have:=Heap.get?_push_size (s.heap.push PySem.W.emptyDict) (o:=PySem.W.instObj C s.heap.objs.size) rfl
  rwa [Heap.size_push] at this
 have e3:(s.heap.push PySem.W.emptyDict).Ns s.heap.objs.size (λ_=>none):=⟨PySem.W.emptyDict,#[],_,e1,rfl,(λe he=>absurd he (by simp)),λ_=>rfl⟩
 have I1:=I.laid (a:=s.heap.objs.size) (o:=.own (s.heap.objs.size+1)) (h':=s.heap.push PySem.W.emptyDict) (t':=s.toks) (λb u q=>Heap.get?_push_of_some _ q) (zD _) ⟨_,e1⟩;refine I1.laid (a:=s.heap.objs.size+1) (o:=.ins C s.heap.objs.size []) (t':=s.toks) (λb u q=>Heap.get?_push_of_some _ q) (Nat.le_of_eq (Heap.size_push _ _)) ?_;have ne:s.heap.objs.size≠s.heap.objs.size+1:=zX (Nat.lt_succ_self _);refine⟨by rw[Yn ne,Wj],zL _,ne,e2,λ_=>none,(Heap.Ns1.of_empty e3).at λo q=>Heap.get?_push_of_some _ q,λ_=>True.intro,λy hy=>absurd rfl hy⟩
theorem zcW (hb:attributeBase e f env (eval e env)=eval e env)(h:wpAny (model prog w) A (eval e env) (λo s₁=>wpAny (model prog w) A (getAttr o f true) Q E s₁) E s):wpAny (model prog w) A (eval (.Attribute e f pos) env) Q E s:=
 Attribute_any_ h (by rw[arm_eval_Attribute,hb])
end
def tFld (K:Fg)(ta:TE)(f:Str):TE:=λσ H Q=>ta σ H λx H1=>∃a C dx fs v,x=.ref a/\H1 a=some (.ins C dx fs)/\Cls K C/\Y3 K C f/\fs.lookup f=some v/\Q v H1
def sFld (K:Fg)(ta tv:TE)(f:Str):TS:=λD σ H=>tv σ H λy H1=>ta σ H1 λx H2=>∃a C dx fs,x=.ref a/\H2 a=some (.ins C dx fs)/\Cls K C/\Y3 K C f/\fs.length<1000/\
 D.nx σ (upd H2 a (.ins C dx (Y4 f y fs)))
section
variable {X:Cx}{o e value:Expr}{f:Str}{pos pos' tpos:Pos}{ta tv:TE}
theorem zdl (he:PE X e ta)(hb:attributeBase e f X.env (eval e X.env)=eval e X.env):PE X (.Attribute e f pos) (tFld X.K ta f):=by
 intro aA s σ H Q I h;refine zcW hb (thn (he aA s σ H _ I h) λu s1 ⟨x,H1,I1,rx,a,C,dx,fs,v,ex,ea,c,n,l,q⟩=>?_);subst ex;obtain rfl:u=Value.ref a:=rx;exact B8 I1 ea c n l λu' s2 I2 ru=>⟨v,H1,I2,ru,q⟩
theorem zcT (ha:PE X o ta)(hv:PE X value tv)(hs:swapsWith value (some (.Attribute o f pos')) pos.line X.env=pure false):PS X (.Assign [.Attribute o f pos'] value pos) (sFld X.K ta tv f):=by
 intro aA s σ H D I h;refine plainObj_wpAny_Assign_Attribute (thn (hv aA s σ H _ I h) λu s1 ⟨y,H1,I1,ry,q⟩=>thn (ha aA s1 σ H1 _ I1 q) λov s2 ⟨x,H2,I2,rx,a,C,dx,fs,ex,ea,c,n,l,q2⟩=>?_) hs;subst ex;obtain rfl:ov=Value.ref a:=rx;exact zbn I2 ea c n l ry λs3 I3=>⟨σ,_,I3,q2⟩
end
section
variable {X:Cx}{aA:LA}{σ:St}{H:Hp}{s:Shared}{A:Around}{E:Value->Shared->Prop}{Q:Value->Shared->Prop}{c:Value}{b:Bool}
inductive X6 (K:Fg)(H:Hp):V->Value->Prop where
 | non:X6 K H .non (.type "NoneType")
 | bl (x:Bool):X6 K H (.bl x) (.type "bool")
 | int (i:Int):X6 K H (.int i) (.type "int")
 | str (x:Str):X6 K H (.str x) (.type "str")
 | flt (x:UInt64):X6 K H (.flt x) (.type "float")
 | lst {a:Addr} {xs:List V} (e:H a=some (.lst xs)):X6 K H (.ref a) (.type "list")
 | frz {a:Addr} {o:Obj} {xs:List V} (e:H a=some (.frz o (.lst xs))):X6 K H (.ref a) (.type "list")
 | tup {a:Addr} {xs:List V} (e:H a=some (.tup xs)):X6 K H (.ref a) (.type "tuple")
 | dK {a:Addr} {aY:List (Key×V)} (e:H a=some (.dK aY)):X6 K H (.ref a) (.type "dict")
 | dT {a:Addr} {aY:List (List Key×V)} (e:H a=some (.dT aY)):X6 K H (.ref a) (.type "dict")
 | ins {a C dx:Addr} {fs:List (Str×V)} (e:H a=some (.ins C dx fs)) (cl:Cls K C) (ha:PySem.W.findIn K (.ref C) "__class__"=some (some (.builtin "object.__class__")))
   (hn:PySem.W.specialIn K (.builtin "object.__class__") "__get__"=some (some (.builtin "getset_descriptor.__get__"))) (htk:PySem.W.takesIn K (.builtin "object.__class__")=some true)
   (hm:PySem.W.mroIn K C (.type "object")=some true):X6 K H (.ref a) (.ref C)
theorem zat (I:Inv X aA σ H s)(rx:ZH x u)(ty:X6 X.K H x t)(e:PySem.W.kitOne X.K t c=some b)(h:∀tk,Q (.bool b) { s with toks:=tk }):
  wpAny (model X.prog X.w) A (call (.builtin "isinstance") [u,c]) Q E s:=by
 cases ty with
 | non=>cases (show u=Value.none from rx);exact PySem.W.kia_one PySem.W.kitx_none I.kIn True.intro e (λz=>nomatch z) h
 | bl y=>cases (show u=Value.bool y from rx);exact PySem.W.kia_one PySem.W.kitx_bool I.kIn True.intro e (λz=>nomatch z) h
 | int i=>obtain⟨t,q⟩:=(show ∃t,u=Value.int i t from rx);cases q;exact PySem.W.kia_one PySem.W.kitx_int I.kIn True.intro e (λz=>nomatch z) h
 | str y=>obtain⟨t,q⟩:=(show ∃t,u=Value.str y t from rx);cases q;exact PySem.W.kia_one PySem.W.kitx_str I.kIn True.intro e (λz=>nomatch z) h
 | flt y=>obtain⟨t,q⟩:=(show ∃t,u=Value.float y t from rx);cases q;exact PySem.W.kia_one PySem.W.kitx_float I.kIn True.intro e (λz=>nomatch z) h
 | @lst a xs ea=>
  cases (show u=Value.ref a from rx);obtain⟨_,_,n,_,h1⟩:=(show YR X.prog X.w H s.heap a (.lst xs) from I.hok a _ ea);exact PySem.W.kia_one PySem.W.kitx_list I.kIn ⟨_,h1,rfl⟩ e (λz=>nomatch z) h
 | @frz a ob xs ea=>
  cases (show u=Value.ref a from rx);obtain⟨_,_,_,n,_,h1⟩:=(show YR X.prog X.w H s.heap a (.frz ob (.lst xs)) from I.hok a _ ea);exact PySem.W.kia_one PySem.W.kitx_list I.kIn ⟨_,h1,rfl⟩ e (λz=>nomatch z) h
 | @tup a xs ea=>
  cases (show u=Value.ref a from rx);obtain⟨_,_,_,p⟩:=(show YR X.prog X.w H s.heap a (.tup xs) from I.hok a _ ea);obtain⟨o,h1,h2,_⟩:=p;exact PySem.W.kia_one PySem.W.kitx_tuple I.kIn ⟨o,h1,h2⟩ e (λz=>nomatch z) h
 | @dK a aY ea=>
  cases (show u=Value.ref a from rx);obtain⟨_,_,vs,_,p⟩:=(show YR X.prog X.w H s.heap a (.dK aY) from I.hok a _ ea);obtain⟨o,es,ep,h1,h2,_⟩:=p;exact PySem.W.kia_one PySem.W.kitx_dict I.kIn ⟨o,h1,h2.1⟩ e (λz=>nomatch z) h
 | @dT a aY ea=>
  cases (show u=Value.ref a from rx);obtain⟨_,_,xs,_,o,es,ep,h1,h2,_⟩:=(show YR X.prog X.w H s.heap a (.dT aY) from I.hok a _ ea);exact PySem.W.kia_one PySem.W.kitx_dict I.kIn ⟨o,h1,h2.1⟩ e (λz=>nomatch z) h
 | @ins a C dx fs ea cl ha hn htk hm=>
  cases (show u=Value.ref a from rx);obtain⟨mA,O,_⟩:=Ih I.hok ea;obtain⟨od,J,_⟩:=O.look;exact PySem.W.kia_one (PySem.W.kitx_own (cl.get _) cl.hd ha hn htk hm) I.kIn J e (λz=>nomatch z) h
end
end L2
namespace L2
open PySem PySem.Spec PyProof.Rows
structure Z3 (k:Nat)(A:Around):Prop where
 hd:A.handled=none
 dp:A.depth+3*k+5<recursionLimit
 un:A.units+16*k+200<cLine
theorem Z3.mono {j k:Nat}{A:Around}(r:Z3 k A)(h:j<=k):Z3 j A:=⟨r.hd,by have:=r.dp;omega,by have:=r.un;omega⟩
theorem Z3.deeper {k:Nat}{A:Around}(r:Z3 (k+1) A)(env:Env):Z3 k (A.deeper env):=
 ⟨r.hd,by have:=r.dp;show A.depth+1+3*k+5<_;omega,by have:=r.un;show A.units+3+16*k+200<_;omega⟩
theorem Z3.in1 {k:Nat}{A:Around}(r:Z3 (k+1) A):Z3 k A.in1:=
 ⟨r.hd,by have:=r.dp;show A.depth+3*k+5<_;omega,by have:=r.un;show A.units+1+16*k+200<_;omega⟩
theorem CZ {A:Around}{C:Addr}{us:List Value}{kw:List (Str×Value)}:(A.under (.builtin "type.__call__" ⟨.ref C::us,kw⟩)).depth=A.depth+1:=by
 first|rfl|simp[Around.under,Code.weight,Code.isCreation,Code.isGuard,Code.isCaller,Code.frames,Code.isFrame,guardIds]
theorem zd7 {A:Around}{C:Addr}{us:List Value}{kw:List (Str×Value)}:(A.under (.builtin "type.__call__" ⟨.ref C::us,kw⟩)).units=A.units+1:=by
 first|rfl|simp[Around.under,Code.cUnits,Code.frames,Code.isFrame]
theorem Z3.make {k:Nat}{A:Around}(r:Z3 (k+1) A)(C:Addr)(us:List Value)(kw:List (Str×Value)):Z3 k (A.under (.builtin "type.__call__" ⟨.ref C::us,kw⟩)):=
 ⟨r.hd,by have:=r.dp;rw[CZ];omega,by have:=r.un;rw[zd7];omega⟩
theorem Z3.depth {k:Nat}{A:Around}(r:Z3 k A):A.depth<recursionLimit:=by have:=r.dp;omega
theorem Z3.units (r:Z3 k A):A.units+64<cLine:=by have:=r.un;omega
def tNil:TA:=λ_ H Q=>Q [] H
def tCons (ta:TE)(tr:TA):TA:=λσ H Q=>ta σ H λx H1=>tr σ H1 λxs H2=>Q (x::xs) H2
section
variable {X:Cx}{e:Expr}{es:List Expr}{te:TE}{t:TA}{pos:Pos}
theorem Ph:PA X [] tNil:=λ_ _ _ _ H Q I h=>Calls.spliced_nil ⟨[],H,I,.nil,h⟩
theorem V8 (ha:PE X e te)(hr:PA X es t)(hs:starEach (e::es) X.env=(false,eval e X.env)::starEach es X.env:=by rfl):PA X (e::es) (tCons te t):=by
 intro pos aA s σ H Q I h;rw[hs];show wpAny _ _ (spliced ((false,eval e X.env)::backTo pos (starEach es X.env))) _ _ s;refine Calls.spliced_cons (thn (ha aA s σ H _ I h) λu s1 ⟨x,H1,I1,r1,q1⟩=>?_);exact thn (hr pos aA s1 σ H1 _ I1 q1) λus s2 ⟨xs,H2,I2,r2,q2⟩=>⟨x::xs,H2,I2,.cons r1 r2,q2⟩
def tTup (t:TA):TE:=λσ H Q=>t σ H λxs H1=>xs.length<=sizeLine/\∀p,H1 p=none->Q (.ref p) (upd H1 p (.tup xs))
def tLst (t:TA):TE:=λσ H Q=>t σ H λxs H1=>xs.length<=sizeLine/\∀p,H1 p=none->Q (.ref p) (upd H1 p (.lst xs))
theorem zcr {x1}(h:PA X es t):PE X (.Tuple es x1 pos) (tTup t):=by
 intro aA s σ H Q I hq;refine wpAny_Tuple_spliced (thn (h pos aA s σ H _ I hq) λus s1 ⟨xs,H1,I1,r,z,q⟩=>⟨by rw[<- r.length];exact z,?_⟩);have hf:H1 s1.heap.objs.size=none:=I1.hok.fresh (zD _);refine⟨.ref s1.heap.objs.size,upd H1 s1.heap.objs.size (.tup xs),I1.laid (t':=s1.toks) (λb u e=>Heap.get?_push_of_some _ e) (zD _) ?_,rfl,q _ hf⟩;exact⟨z,us,r,⟨_,Heap.get?_push_size _ rfl,rfl,_,rfl⟩⟩
theorem AD (h:PA X es t):PE X (.List es pos) (tLst t):=by
 intro aA s σ H Q I hq;refine wpAny_List_spliced (thn (h pos aA s σ H _ I hq) λus s1 ⟨xs,H1,I1,r,z,q⟩=>⟨by rw[<- r.length];exact z,?_⟩);have hf:H1 s1.heap.objs.size=none:=I1.hok.fresh (zD _);refine⟨.ref s1.heap.objs.size,upd H1 s1.heap.objs.size (.lst xs),I1.laid (t':=s1.toks) (λb u e=>Heap.get?_push_of_some _ e) (zD _) ?_,rfl,q _ hf⟩;exact⟨z,us,0,r,Heap.get?_push_size _ rfl⟩
end
abbrev Sp:=List V->Hp->VK->XK->Prop
abbrev CXT:=List Env->Hp->Shared->XK->Value->Shared->Prop
structure W3 (P:Program)(w:World)(K:Fg)(mg:Str->Option Value)(base:Heap)(A:Around)(outer:List Env)(s:Shared)(H:Hp):Prop where
 frames:A.frames=some outer
 mod:Mod K mg base
 bs:∀b o,base.get? b=some o->s.heap.get? b=some o/\H b=none
 bsz:base.objs.size<=s.heap.objs.size
 funs:s.heap.FunFrames base outer
 frf:∀b∈frs outer,H b=none
 hok:HOk P w H s.heap
 bare:AllBare s.gens
def CE (outer:List Env)(P:Program)(w:World)(H:Hp)(s:Shared)(Q:VK)(u:Value)(s':Shared):Prop:=
 ∃v H',s'.os=s.os/\AllBare s'.gens/\Un (frs outer) [] H H' s.heap s'.heap/\HOk P w H' s'.heap/\ZH v u/\Q v H'
def CR (CX:CXT)(outer:List Env)(P:Program)(w:World)(H:Hp)(s:Shared)(Q:VK)(E:XK)(r:Result)(s':Shared):Prop:=
 match r with
 | .ok (.ret u)=>CE outer P w H s Q u s'
 | .ok _=>False
 | .error e=>CX outer H s E e s'
structure Yo (P:Program)(w:World)(K:Fg)(mg:Str->Option Value)(base:Heap)(CX:CXT)(k:Nat)(f:Addr)(fd:FuncData)(ps:List Str)(sp:Sp):Prop where
 len:∀vs H Q E,sp vs H Q E->vs.length=ps.length
 run:∀(A:Around)(outer:List Env)(s:Shared)(H:Hp)(args:Args)(us:List Value)(vs:List V)(Q:VK)(E:XK),Z3 k A->W3 P w K mg base A outer s H->BindsTo s fd args (ps.zip us)->ZG vs us->sp vs H Q E->
  codeAny (model P w) A (.call (.ref f) args) (CR CX outer P w H s Q E) s
theorem Yo.mono {P:Program}{w:World}{K:Fg}{mg:Str->Option Value}{base:Heap}{CX:CXT}{j k:Nat}{f:Addr}{fd:FuncData}{ps:List Str}{sp:Sp}(F:Yo P w K mg base CX j f fd ps sp)(h:j<=k):
  Yo P w K mg base CX k f fd ps sp:=⟨F.len,λA outer s H args us vs Q E hr=>F.run A outer s H args us vs Q E (hr.mono h)⟩
theorem Yo.imp {P:Program}{w:World}{K:Fg}{mg:Str->Option Value}{base:Heap}{CX:CXT}{k:Nat}{f:Addr}{fd:FuncData}{ps:List Str}{sp sp':Sp}(F:Yo P w K mg base CX k f fd ps sp)
  (h:∀vs H Q E,sp' vs H Q E->sp vs H Q E):Yo P w K mg base CX k f fd ps sp':=
 ⟨λvs H Q E q=>F.len vs H Q E (h _ _ _ _ q),λA outer s H args us vs Q E hr he hb hv hs=>F.run A outer s H args us vs Q E hr he hb hv (h _ _ _ _ hs)⟩
theorem W3.make {P:Program}{w:World}{K:Fg}{mg:Str->Option Value}{base:Heap}{A:Around}{outer:List Env}{s:Shared}{H:Hp}(e:W3 P w K mg base A outer s H)(C:Addr)(us:List Value)(kw:List (Str×Value)):
  W3 P w K mg base (A.under (.builtin "type.__call__" ⟨.ref C::us,kw⟩)) outer s H:=⟨by first|exact e.frames|(simpa [Around.under,Code.envs,Code.isFrame,pushEnvs] using e.frames),e.mod,e.bs,e.bsz,e.funs,e.frf,e.hok,e.bare⟩
theorem W3.in1 {P:Program}{w:World}{K:Fg}{mg:Str->Option Value}{base:Heap}{A:Around}{outer:List Env}{s:Shared}{H:Hp}(e:W3 P w K mg base A outer s H):
  W3 P w K mg base A.in1 outer s H:=⟨e.frames,e.mod,e.bs,e.bsz,e.funs,e.frf,e.hok,e.bare⟩
section
variable {X:Cx}{aA:LA}{σ:St}{H:Hp}{s s':Shared}
theorem Inv.env0 (I:Inv X aA σ H s):W3 X.prog X.w X.K X.mg X.base X.A X.stack s H:=
 ⟨I.ok.frames,I.ok.mod,I.bs,yK I.ok.bsz I.sz,I.stack,I.stkFree,I.hok,I.bare⟩
theorem Inv.after (I:Inv X aA σ H s)(h:CE X.stack X.prog X.w H s Q u s'):EP X aA σ Q u s':=by
 obtain⟨v,H',os,bare,un,hok,r,q⟩:=h;obtain⟨hh,g,d,t,os'⟩:=s';obtain rfl:os'=s.os:=os;exact⟨v,H',I.call (h':=hh) (g':=g) (d':=d) (t':=t) (ch:=[]) un hok bare (λb z=>absurd z (by simp)),r,q⟩
end
def tMake (C:Addr)(sp:Sp)(dvs:List V)(E:XK)(t:TA):TE:=λσ H Q=>t σ H λvs H1=>∀x dx,H1 x=none->H1 dx=none->dx≠x->
 sp (.ref x::(vs++dvs)) (upd (upd H1 dx (.own x)) x (.ins C dx [])) (λv H2=>v=.non/\Q (.ref x) H2) E
def Xv (K:Fg)(fd:FuncData)(ps:List Str)(ds:List Value):Prop:=
 ∀(s:Shared)(us:List Value),K.In s.heap->(us++ds).length=ps.length->BindsTo s fd ⟨us,[]⟩ (ps.zip (us++ds))
theorem Xv.all {K:Fg}{fd:FuncData}{ps:List Str}(h:∀us:List Value,us.length=ps.length->bindArgs fd ⟨us,[]⟩=pure (ps.zip us)):Xv K fd ps []:=λs us _ hl=>by
 rw[yZ] at hl ⊢;exact .of_eq (h us hl)
def LM (CX:CXT)(X:Cx)(E:XK):Prop:=∀(aA:LA)(σ:St)(H:Hp)(s:Shared)(e:Value)(s':Shared),Inv X aA σ H s->CX X.stack H s E e s'->X.xe e s'
section
variable {X:Cx}{CX:CXT}{k:Nat}{f C:Addr}{fd:FuncData}{ps:List Str}{sp:Sp}{dvs:List V}{ds:List Value}{E:XK}{x m:Str}{p pos aO:Pos}{e o:Expr}{es:List Expr}{ta:TE}{t:TA}
structure Mk (K:Fg)(C f:Addr):Prop where
 makes:PySem.W.makesIn K C=true
 init:PySem.W.findIn K (.ref C) "__init__"=some (some (.ref f))
 fn:PySem.W.isFn K (.ref f)=true
 kp:PySem.W.keepIn K (.ref C)=true
theorem za7 (M:Mk X.K C f)(F:Yo X.prog X.w X.K X.mg X.base CX k f fd ps sp)(hr:Z3 (k+1) X.A)(hb:Xv X.K fd ps ds)(hd:ZG dvs ds)(hx:LM CX X E)(I:Inv X aA σ H s)(r:ZG vs us)(h:∀x dx,H x=none->H dx=none->dx≠x->sp (.ref x::(vs++dvs)) (upd (upd H dx (.own x)) x (.ins C dx [])) (λv H2=>v=.non/\Q (.ref x) H2) E):
  wpAny (model X.prog X.w) X.A (call (.ref C) us) (EP X aA σ Q) X.xe s:=by
 have hq:=h (s.heap.objs.size+1) s.heap.objs.size (I.hok.fresh (xQ _)) (I.hok.fresh (zD _)) (zX (Nat.lt_succ_self _))
 have I2:=Inv.made (C:=C) I
 have r2:ZG (V.ref (s.heap.objs.size+1)::(vs++dvs)) (Value.ref (s.heap.objs.size+1)::(us++ds)):=.cons rfl (r.append hd)
 have hl:(Value.ref (s.heap.objs.size+1)::us++ds).length=ps.length:=by
  have e:=r2.length;rw[F.len _ _ _ _ hq] at e;exact e.symm
 refine wpAny_call (zd3 (f:=f) I.kIn M.makes M.init (beq_iff_eq.mp M.fn) (codeAny_mono (F.run _ X.stack _ _ ⟨Value.ref (s.heap.objs.size+1)::us,[]⟩ (Value.ref (s.heap.objs.size+1)::(us++ds)) _ _ E (hr.make C us [])
  (I2.env0.make C us []) (hb _ (Value.ref (s.heap.objs.size+1)::us) I2.kIn hl) r2 hq) λr s' hq'=>?_))
 cases r with
 | error e=>exact hx aA σ _ _ e s' I2 hq'
 | ok fl=>
  cases fl with
  | ret u=>
   obtain⟨v,H',I3,rv,ev,q3⟩:=I2.after hq';subst ev;exact⟨rv,⟨V.ref (s.heap.objs.size+1),H',I3,rfl,q3⟩⟩
  | next=>exact False.elim hq'
  | brk=>exact False.elim hq'
  | cont=>exact False.elim hq'
theorem Bm (M:Mk X.K C f)(F:Yo X.prog X.w X.K X.mg X.base CX k f fd ps sp)(hr:Z3 (k+1) X.A)(hg:Gl X x)(hm:X.mg x=some (.ref C))(hb:Xv X.K fd ps ds)(hd:ZG dvs ds)(hx:LM CX X E)
  (ha:PA X (e::es) t)(hdb:(x==("__debug__":Str))=false:=by decide)(he:starEach (e::es) X.env=(false,eval e X.env)::starEach es X.env:=by rfl)(hpl:(backTo pos (starEach es X.env)).any (·.1)=false:=by rfl):
  PE X (.Call (.Name x p) (e::es) [] pos) (tMake C sp dvs E t):=by
 intro aA s σ H Q I h;refine wpAny_Call_Name_kw (DJ I hg hm ?_ hdb);refine PySem.W.callWith_K (h₀:=X.base) I.ok.mod.kin M.kp (thn (ha pos aA s σ H _ I h) λus s1 ⟨vs,H1,I1,r,q⟩=>⟨I1.kIn,?_⟩) he hpl;exact za7 M F hr hb hd hx I1 r q
end
section
variable {X:Cx}{CX:CXT}{k:Nat}{f C:Addr}{fd:FuncData}{ps ks:List Str}{sp:Sp}{E:XK}{x m:Str}{p pos aO kpos:Pos}{e o:Expr}{es:List Expr}{kws:List Keyword}{te ta:TE}{t tk:TA}{nm:Option Str}
variable {g:List Value->List Value->List Value}{gV:List V->List V->List V}
end
structure Zz (N P:List Str)(sc:Scope):Prop where
 kind:sc.kind=.function
 co:sc.isCoroutine=false
 gen:sc.isGenerator=false
 nd:N.Nodup
 pre:N.take P.length=P
 par:∀x∈P,sc.names.lookup x=some .local\/sc.names.lookup x=some .cell
 nofree:∀y∈sc.names,y.2≠.free
theorem DV {kindOf:Str->Option NameKind}{x:Str}:∀ {binds:List (Str×Value)} {m:Str->Option Value},(∀v,(x,v) ∉ binds)->bindL kindOf binds m x=m x
 | [],_,_=>rfl
 | (n,v)::r,m,h=>by
  unfold bindL;rw[DV λw hw=>h w (yU _ hw)];split
  ·have:x≠n:=by rintro rfl;exact h v xH
   simp[this]
  ·rfl
theorem CJ {kindOf:Str->Option NameKind}{x:Str}:∀ {binds:List (Str×Value)} {m:Str->Option Value},(∀v,(x,v) ∉ binds)->bindC kindOf binds m x=m x
 | [],_,_=>rfl
 | (n,v)::r,m,h=>by
  unfold bindC;rw[CJ λw hw=>h w (yU _ hw)];split
  ·rfl
  ·have:x≠n:=by rintro rfl;exact h v xH
   simp[this]
theorem EE {kindOf:Str->Option NameKind}{x:Str}{v:Value}:∀ {P:List Str} {vs:List Value} {i:Nat} {m:Str->Option Value},P.Nodup->P[i]?=some x->vs[i]?=some v->kindOf x=some .local->
  bindL kindOf (P.zip vs) m x=some v
 | [],_,_,_,_,h,_,_=>by simp at h
 | _::_,[],_,_,_,_,h,_=>by simp at h
 | p::P,w::vs,0,m,nd,h1,h2,hk=>by
  simp at h1 h2;subst h1;subst h2
  show bindL kindOf ((p,w)::P.zip vs) m p=_;unfold bindL;rw[DV λv hv=>(List.nodup_cons.mp nd).1 (List.of_mem_zip hv).1,if_pos hk];simp
 | p::P,w::vs,i+1,m,nd,h1,h2,hk=>by
  show bindL kindOf ((p,w)::P.zip vs) m x=_;unfold bindL;exact EE (i:=i) (List.nodup_cons.mp nd).2 (by simpa using h1) (by simpa using h2) hk
theorem CD {kindOf:Str->Option NameKind}{x:Str}{v:Value}:∀ {P:List Str} {vs:List Value} {i:Nat} {m:Str->Option Value},P.Nodup->P[i]?=some x->vs[i]?=some v->kindOf x≠some .local->
  bindC kindOf (P.zip vs) m x=some v
 | [],_,_,_,_,h,_,_=>by simp at h
 | _::_,[],_,_,_,_,h,_=>by simp at h
 | p::P,w::vs,0,m,nd,h1,h2,hk=>by
  simp at h1 h2;subst h1;subst h2
  show bindC kindOf ((p,w)::P.zip vs) m p=_;unfold bindC;rw[CJ λv hv=>(List.nodup_cons.mp nd).1 (List.of_mem_zip hv).1,if_neg hk];simp
 | p::P,w::vs,i+1,m,nd,h1,h2,hk=>by
  show bindC kindOf ((p,w)::P.zip vs) m x=_;unfold bindC;exact CD (i:=i) (List.nodup_cons.mp nd).2 (by simpa using h1) (by simpa using h2) hk
def WV (N:List Str)(vs:List V):St:=vs.map some++List.replicate (N.length-vs.length) none
def UL (CX:CXT)(P:Program)(w:World)(K:Fg)(mg:Str->Option Value)(base:Heap)(N:List Str)(aL:Str)(scope:Scope)(f:Addr)(cd:Value)(A:Around)(outer:List Env)(s:Shared)(H:Hp)(E:XK):Cx where
 prog:=P
 w:=w
 K:=K
 mg:=mg
 base:=base
 A:=A.deeper (envOfC aL scope s.heap.objs.size f cd)
 N:=N
 s₀:=s
 H₀:=H
 env:=envOfC aL scope s.heap.objs.size f cd
 outer:=outer
 stack:=envOfC aL scope s.heap.objs.size f cd::outer
 ex:=[]
 calm:=true
 fn:=λ_=>true
 pn:=[]
 xe:=λe s'=>wpAny (model P w) (A.deeper (envOfC aL scope s.heap.objs.size f cd)) (leaving (envOfC aL scope s.heap.objs.size f cd) e) (λ_ s''=>CX outer H s E e s'') (λe' s''=>CX outer H s E e' s'') s'
theorem D2 {sc:Scope}{n:Nat}{x:Str}(h:sc.names.lookup x=some .cell):∃c,(cellsFrom n sc.names []).lookup x=some c:=by
 have q:=PySem.W.cellsFrom_some sc.names n [] (.inl h);exact yV.mp q
theorem zcD {CX:CXT}{P:Program}{w:World}{K:Fg}{mg:Str->Option Value}{base:Heap}{N ps:List Str}{aL:Str}{scope:Scope}{f:Addr}{cd:Value}{A:Around}{outer:List Env}{s s1:Shared}{H:Hp}{E:XK}{us:List Value}{vs:List V}
  (S:Zz N ps scope)(hd:A.handled=none)(e0:W3 P w K mg base A outer s H)(hl:vs.length=ps.length)(r:ZG vs us)
  (x:InCallC s s.heap.objs.size (bindL (envOfC aL scope s.heap.objs.size f cd).kindOf (ps.zip us) λ_=>none) (cellsFrom (s.heap.objs.size+1) scope.names []) (bindC (envOfC aL scope s.heap.objs.size f cd).kindOf (ps.zip us) λ_=>none) s1):
  Inv (UL CX P w K mg base N aL scope f cd A outer s H E) [] (WV N vs) H s1:=by
 have hpl:ps.length<=N.length:=by have:=congrArg List.length S.pre;rw[zW] at this;omega
 obtain⟨h1,tk,rfl,hk⟩:=x.done;have noA:∀b:Addr,b ∉ (UL CX P w K mg base N aL scope f cd A outer s H E).ex:=λb z=>absurd (show b∈([]:List Addr) from z) (by simp)
 refine⟨⟨e0.mod,S.kind,rfl,rfl,zD _,λy z c h1 h2=>?_,λy hy=>?_,λy c _ h=>?_,λ_=>hd,Around.frames_deeper e0.frames,.inr ⟨rfl,rfl⟩,λb z=>absurd z (noA b),e0.bs,e0.bsz,λb _ _=>noA b,λb z=>absurd z (noA b),e0.funs,e0.frf⟩,
  rfl,e0.bare,Un.kept hk,⟨_,x.toInCall.ns,λi y v h1 h2 h3=>?_⟩,λy c h=>⟨_,x.cell y c h⟩,e0.hok.fresh (zD _),λy c h=>?_,λp hp=>absurd (show p∈([]:LA) from hp) (by simp),e0.hok.kept hk,?_⟩
 ·exact name_of_addr x.apart (PySem.mem_of_lookup h1) (PySem.mem_of_lookup h2)
 ·have hy:scope.names.lookup y=some .cell\/scope.names.lookup y=some .free:=hy;rcases hy with hy|hy
  ·exact D2 hy
  ·exact absurd rfl (S.nofree _ (PySem.mem_of_lookup hy))
 ·exact yY (x.above y c (PySem.mem_of_lookup h))
 ·have hi:i<vs.length:=by
   unfold WV at h2;by_cases hi:i<vs.length
   ·exact hi
   ·rw[yI (by simpa using hi)] at h2;rw[List.getElem?_replicate] at h2;split at h2<;>cases h2
  have ha:vs[i]?=some v:=by
   unfold WV at h2;rw[zV (by simpa using hi),zG] at h2;cases e:vs[i]? with
   | none=>rw[e] at h2;cases h2
   | some a=>rw[e] at h2;cases h2;rfl
  obtain⟨u,hu,rv⟩:=r.get ha;have hp:ps[i]?=some y:=by
   rw[<- S.pre,List.getElem?_take_of_lt (by omega)];exact h1
  have ndP:ps.Nodup:=by rw[<- S.pre];exact S.nd.sublist (List.take_sublist _ _)
  refine⟨u,rv,?_⟩;rcases S.par y (zN hp) with k|k
  ·exact .inl ⟨k,EE ndP hp hu k⟩
  ·obtain⟨c,e⟩:=D2 (n:=s.heap.objs.size+1) k;refine .inr ⟨.inl k,c,e,?_⟩;have q:=x.cell y c e;rw[CD ndP hp hu (by show scope.names.lookup y≠_;rw[k];decide)] at q;exact q
 ·exact e0.hok.fresh (yY (x.above y c (PySem.mem_of_lookup h)))
 ·unfold WV;show _=N.length;rw[zO,zA,List.length_replicate];omega
theorem CG {CX:CXT}{P:Program}{w:World}{K:Fg}{mg:Str->Option Value}{base:Heap}{k:Nat}{f:Addr}{name aL:Str}{params:Arguments}{body:List Stmt}{scope:Scope}{dV kV doc pm cdv ct oc:Value}{an od:Option Addr}
  {osl:Array (Option Value)}{N ps:List Str}{sp:Sp}(lk:K.lookup f=some ⟨oc,od,.func (PySem.W.fnOf name aL params body scope dV kV doc pm an cdv ct),osl⟩)(hcd:PySem.W.codeIn K cdv aL=true)(S:Zz N ps scope)
  (len:∀vs H Q E,sp vs H Q E->vs.length=ps.length)
  (hbody:∀(A:Around)(outer:List Env)(s:Shared)(H:Hp)(vs:List V)(Q:VK)(E:XK),Z3 k (A.deeper (envOfC aL scope s.heap.objs.size f cdv))->sp vs H Q E->
   ∃t,PSs (UL CX P w K mg base N aL scope f cdv A outer s H E) body t/\t { nx:=λ_ H'=>Q .non H',rt:=Q } (WV N vs) H):
  Yo P w K mg base CX (k+1) f (PySem.W.fnOf name aL params body scope dV kV doc pm an cdv ct) ps sp:=by
 refine⟨len,λA outer s H args us vs Q E hr e0 hb r hsp=>?_⟩;have hl:=len _ _ _ _ hsp
 have KX:K.In s.heap:=e0.mod.kin.keeps λb o e=>(e0.bs b o e).1
 have lim:s.heap.NoLimit:=e0.mod.nolimit.keeps λb o e=>(e0.bs b o e).1
 have hkind:∀y∈ps.zip us,scope.names.lookup y.1=some .local\/(scope.names.lookup y.1=some .cell/\((cellsFrom (s.heap.objs.size+1) scope.names []).lookup y.1).isSome=true):=λ⟨n,v⟩ hy=>by
  rcases S.par n (List.of_mem_zip hy).1 with q|q
  ·exact .inl q
  ·exact .inr ⟨q,PySem.W.cellsFrom_some _ _ _ (.inl q)⟩
 refine codeAny_call_function hr.depth (KX _ _ lk) rfl S.co S.gen rfl (PySem.W.codeRec_of KX hcd) (hb _ _ _ _ ?_);refine wpAny_newFunctionEnv_cells S.kind hkind λenv he s1 x=>?_
 subst he;refine⟨lim.keeps x.toInCall.keep,codeAny_func ?_⟩;obtain⟨t,ht,hq⟩:=hbody A outer s H vs Q E (hr.deeper _) hsp;have I:Inv (UL CX P w K mg base N aL scope f cdv A outer s H E) [] (WV N vs) H s1:=zcD S hr.hd e0 hl r x;refine wpAny_mono (ht [] s1 (WV N vs) H _ I hq) (λfl s' hs=>?_) λe s' hs=>hs
 have bB:∀ {σ':St} {H':Hp} {v:V} {u:Value},Inv (UL CX P w K mg base N aL scope f cdv A outer s H E) [] σ' H' s'->ZH v u->Q v H'->CE outer P w H s Q u s':=
  λ{σ' H' v u} J rv q=>⟨v,H',J.os,J.bare,J.base,J.hok,rv,q⟩
 cases fl with
 | ret u=>
  obtain⟨v,σ',H',J,rv,q⟩:=hs;exact bB J rv q
 | next=>
  obtain⟨σ',H',J,q⟩:=hs;exact bB (v:=V.non) (u:=Value.none) J rfl q
 | brk=>
  obtain⟨_,_,_,q⟩:=hs;exact False.elim q
 | cont=>
  obtain⟨_,_,_,q⟩:=hs;exact False.elim q
end L2
namespace L2
open PySem PySem.Spec PyProof.Rows
section
variable {X:Cx}{x:Str}{p pos:Pos}{e:Expr}{es:List Expr}{t:TA}{id T:String}{r:List V->Hp->VK->Prop}
def tCB (r:List V->Hp->VK->Prop)(t:TA):TE:=λσ H Q=>t σ H λvs H1=>r vs H1 Q
theorem K0 (hc:YA X (.builtin id) r)(hg:Gl X x)(hm:X.mg x=none)(hv:bootBuiltins x=some (.builtin id))(ha:PA X (e::es) t)(hn:x≠"__name__":=by decide)(hdb:(x==("__debug__":Str))=false:=by decide)
  (he:starEach (e::es) X.env=(false,eval e X.env)::starEach es X.env:=by rfl)(hpl:(backTo pos (starEach es X.env)).any (·.1)=false:=by rfl):PE X (.Call (.Name x p) (e::es) [] pos) (tCB r t):=by
 intro aA s σ H Q I h;refine wpAny_Call_Name_kw (Up I hg hm hv ?_ hn hdb);exact PyProof.Rows.callWith_builtin1 (thn (ha pos aA s σ H _ I h) λus s1 ⟨vs,H1,I1,r1,q1⟩=>hc aA s1 σ H1 vs us Q I1 r1 q1) he hpl
theorem C1 (hc:YA X (.type T) r)(hg:Gl X x)(hm:X.mg x=none)(hv:bootBuiltins x=some (.type T))(ha:PA X (e::es) t)(hn:x≠"__name__":=by decide)(hdb:(x==("__debug__":Str))=false:=by decide)
  (he:starEach (e::es) X.env=(false,eval e X.env)::starEach es X.env:=by rfl)(hpl:(backTo pos (starEach es X.env)).any (·.1)=false:=by rfl):PE X (.Call (.Name x p) (e::es) [] pos) (tCB r t):=by
 intro aA s σ H Q I h;refine wpAny_Call_Name_kw (Up I hg hm hv ?_ hn hdb);exact PyProof.Rows.callWith_type1 (thn (ha pos aA s σ H _ I h) λus s1 ⟨vs,H1,I1,r1,q1⟩=>hc aA s1 σ H1 vs us Q I1 r1 q1) he hpl
end
end L2
namespace HT
open PySem PyProof.Rows
section
open PySem.SeqAt
open PySem.AutoSeq1 (wpAny_loadPart')
open PySem.MeetsSeq PySem.MeetsSeq2 PySem.MeetsSeq3
end
section
variable {prog:Program}{w:World}{A:Around}{E:Value->Shared->Prop}{s:Shared}
def sIx (n d:Nat):Option Int->Nat
 | none=>d
 | some v=>if v<0 then (v+(n:Int)).toNat else min v.toNat n
theorem sIx_none (n d:Nat):sIx n d none=d:=rfl
theorem sIx_nat (n d k:Nat):sIx n d (some (k:Int))=min k n:=by
 show (if (k:Int)<0 then ((k:Int)+(n:Int)).toNat else min (k:Int).toNat n)=min k n;rw[if_neg (by omega),zJ]
end
end HT
namespace L2
open PySem PySem.Spec PyProof.Rows
abbrev TO:=St->Hp->(Option Int->Hp->Prop)->Prop
def PO (X:Cx)(e:Option Expr)(t:TO):Prop:=
 ∀(aA:LA)(s:Shared)(σ:St)(H:Hp)(Q:Option Int->Hp->Prop),Inv X aA σ H s->t σ H Q->
  wpAny (model X.prog X.w) X.A (evalPart e X.env) (λu s'=>∃o H',Inv X aA σ H' s'/\IsPart u o/\Q o H') X.xe s
def C7:TO:=λ_ H Q=>Q none H
def tPart (t:TE):TO:=λσ H Q=>t σ H λx H1=>∃i,x=.int i/\Q (some i) H1
section
variable {X:Cx}{e:Expr}{te:TE}{lo hi:Option Expr}{tl th:TO}{pos p2:Pos}
theorem zdj:PO X none C7:=by
 intro aA s σ H Q I h;rw[evalPart_none];exact wpAny_pure ⟨none,H,I,.none,h⟩
theorem zdY (h:PE X e te):PO X (some e) (tPart te):=by
 intro aA s σ H Q I hw;rw[evalPart_some];refine thn (h aA s σ H _ I hw) λu s1 ⟨x,H1,I1,r1,q1⟩=>?_
 obtain⟨i,rfl,q⟩:=q1;obtain⟨t,rfl⟩:=r1;exact⟨some i,H1,I1,.int i t,q⟩
def SlR (X:Cx)(r:V->Option Int->Option Int->Hp->VK->Prop):Prop:=
 ∀(aA:LA)(s:Shared)(σ:St)(H:Hp)(x:V)(v vl vu:Value)(lo hi:Option Int)(sl:Addr)(Q:VK),Inv X aA σ H s->ZH x v->s.heap.IsSliceOf sl vl vu .none->IsPart vl lo->IsPart vu hi->r x lo hi H Q->
  ∃T id,typeLookup (.type T) "__getitem__"=pure (some (.builtin id))/\s.TypeIs v T/\wpAny (model X.prog X.w) X.A (getItem v (.ref sl)) (EP X aA σ Q) X.xe s
def tSl (r:V->Option Int->Option Int->Hp->VK->Prop)(te:TE)(tl th:TO):TE:=λσ H Q=>te σ H λx H1=>tl σ H1 λl H2=>th σ H2 λu H3=>r x l u H3 Q
theorem zaj (hr:SlR X r)(he:PE X e te)(hl:PO X lo tl)(hu:PO X hi th):PE X (.Subscript e (.Slice lo hi none p2) pos) (tSl r te tl th):=by
 intro aA s σ H Q I h;refine Subscript_ (thn (he aA s σ H _ I h) λv s1 ⟨x,H1,I1,r1,q1⟩=>?_);refine wpAny_Slice (thn (hl aA s1 σ H1 _ I1 q1) λvl s2 ⟨l,H2,I2,pl,q2⟩=>thn (hu aA s2 σ H2 _ I2 q2) λvu s3 ⟨u,H3,I3,pu,q3⟩=>?_);rw[evalPart_none];refine wpAny_pure ?_;have I4:Inv X aA σ H3 { s3 with heap:=s3.heap.push { cls:=.type "slice",data:=.fields #[vl,vu,.none] } }:=I3.kept (t':=s3.toks) λb ob q=>Heap.get?_push_of_some _ q
 obtain⟨T,id,hT,ht,hg⟩:=hr aA { s3 with heap:=s3.heap.push { cls:=.type "slice",data:=.fields #[vl,vu,.none] } } σ H3 x v vl vu l u s3.heap.objs.size Q I4 r1 (Heap.IsSliceOf.new ..) pl pu q3;show wpAny (model X.prog X.w) X.A (subscriptTail e (.Slice lo hi none p2) v (.ref s3.heap.objs.size)) (EP X aA σ Q) X.xe { s3 with heap:=s3.heap.push { cls:=.type "slice",data:=.fields #[vl,vu,.none] } };exact tail_any (ops:=[.ref s3.heap.objs.size,v]) ht hT hg (by with_unfolding_all rfl)
def Rh (xs:List V)(lo hi:Option Int):List V:=(xs.drop (HT.sIx xs.length 0 lo)).take (HT.sIx xs.length xs.length hi-HT.sIx xs.length 0 lo)
theorem BG (xs:List V)(lo hi:Option Int):(Rh xs lo hi).length<=xs.length:=by
 unfold Rh;rw[zW,xA];omega
end
end L2
namespace L2
open PySem PySem.Spec PyProof.Rows
def ixN (n:Nat)(i:Int):Option Nat:=if 0<=i then (if i<n then some i.toNat else none) else if -(n:Int)<=i then some (i+n).toNat else none
def atI {α:Type}(xs:List α)(i:Int):Option α:=(ixN xs.length i).bind λj=>xs[j]?
theorem D3 (h:ixN n i=some j):seqIndex? i n=some j/\j<n/\-(n:Int)<=i/\i<n:=by
 unfold ixN at h;by_cases h0:0<=i
 ·rw[if_pos h0] at h;by_cases h1:i<n
  ·rw[if_pos h1] at h;have e:i.toNat=j:=Option.some.inj h;exact⟨by rw[seqIndex_of h0 h1,e],by omega,by omega,h1⟩
  ·rw[if_neg h1] at h;cases h
 ·rw[if_neg h0] at h;by_cases h1:-(n:Int)<=i
  ·rw[if_pos h1] at h;have e:(i+n).toNat=j:=Option.some.inj h;exact⟨by rw[seqIndex_neg (by omega) h1,e],by omega,h1,by omega⟩
  ·rw[if_neg h1] at h;cases h
theorem EF (h:atI xs i=some v):∃j,seqIndex? i xs.length=some j/\xs[j]?=some v/\j<xs.length/\-(xs.length:Int)<=i/\i<xs.length:=by
 unfold atI at h;cases e:ixN xs.length i with
 | none=>rw[e] at h;cases h
 | some j=>
  rw[e] at h;obtain⟨h1,h2,h3,h4⟩:=D3 e;exact⟨j,h1,h,h2,h3,h4⟩
theorem X2 {α:Type}{xs:List α}{j:Nat}{v:α}(h:xs[j]?=some v):atI xs (j:Int)=some v:=by
 have hj:j<xs.length:=(zF.mp h).1
 have e:ixN xs.length (j:Int)=some j:=by
  unfold ixN;rw[if_pos (by omega),if_pos (by omega)];simp
 unfold atI;rw[e];exact h
def QN (b:Expr):Prop:=∀o i,subscripted b false o i=operate [o,i] (getItem o i)
def IxR (X:Cx)(r:R2):Prop:=
 ∀(value slice:Expr)(aA:LA)(s:Shared)(σ:St)(H:Hp)(x y:V)(v u:Value)(Q:VK),Inv X aA σ H s->ZH x v->ZH y u->r x y H Q->
  subscripted slice false v u=operate [v,u] (getItem v u)->wpAny (model X.prog X.w) X.A (subscriptTail value slice v u) (EP X aA σ Q) X.xe s
def MtR (X:Cx)(id:String)(r:V->List V->Hp->VK->Prop):Prop:=
 ∀(aA:LA)(s:Shared)(σ:St)(H:Hp)(x:V)(xs:List V)(v:Value)(us:List Value)(Q:VK),Inv X aA σ H s->ZH x v->ZG xs us->r x xs H Q->
  wpAny (model X.prog X.w) X.A (call (.builtin id) (v::us)) (EP X aA σ Q) X.xe s
section
variable {X:Cx}{a b:Expr}{ta tb:TE}{pos:Pos}
theorem pe_ix (hr:IxR X r)(ha:PE X a ta)(hb:PE X b tb)(hs:QN b):PE X (.Subscript a b pos) (tOp r ta tb):=by
 intro aA s σ H Q I h;exact Subscript_ (binT ha hb I h λv u s2 x y H2 I2 rx ry q=>hr a b aA s2 σ H2 x y v u Q I2 rx ry q (hs _ _))
def rIxL (K:Fg):R2:=λx y H Q=>∃p xs i v,x=.ref p/\y=.int i/\SqL K H p xs/\atI xs i=some v/\Q v H
def rIxT (K:Fg):R2:=λx y H Q=>∃p xs i v,x=.ref p/\y=.int i/\SqT K H p xs/\atI xs i=some v/\Q v H
theorem zag:IxR X (rIxL X.K):=by
 intro value slice aA s σ H x y v u Q I rx ry h hs;obtain⟨p,xs,i,z,rfl,rfl,hq,he,q⟩:=h;cases rx;obtain⟨t,rfl⟩:=ry;obtain⟨bA,r,pl,hz⟩:=I.list hq;obtain⟨j,h1,h2,h3,h4,h5⟩:=EF he;obtain⟨w,ew,rw'⟩:=r.get h2;have hl:=r.length
 have hn:=QO
 have bB:EP X aA σ Q w s:=⟨z,H,I,rw',q⟩;by_cases h0:0<=i
 ·have hj:i.toNat=j:=by
   rw[seqIndex_of h0 h5] at h1;exact Option.some.inj h1
  exact item_listR pl.isList h0 (by omega) (by rw[hj];simpa using ew) bB hs
 ·have hj:(i+(bA.toArray.size:Int)).toNat=j:=by
   rw[seqIndex_neg (by omega) h4] at h1;rw[zS,<- hl];exact Option.some.inj h1
  exact subscriptTail_builtinR (x:=w) pl.isList.typeIs slot_list_getitem.lookup
   (wpAny_getItem_list_neg (Q:=λr s'=>r=w/\EP X aA σ Q r s') pl.isList (by omega) (by rw[zS]<;>omega) (by omega) (by rw[hj];simpa using ew) ⟨rfl,bB⟩) hs
theorem zdd:IxR X (rIxT X.K):=by
 intro value slice aA s σ H x y v u Q I rx ry h hs;obtain⟨p,xs,i,z,rfl,rfl,hq,he,q⟩:=h;cases rx;obtain⟨t,rfl⟩:=ry;obtain⟨bA,r,pl,hz⟩:=I.tuple hq;obtain⟨j,h1,h2,h3,h4,h5⟩:=EF he;obtain⟨w,ew,rw'⟩:=r.get h2;have hl:=r.length
 have hn:=QO
 have bB:EP X aA σ Q w s:=⟨z,H,I,rw',q⟩;exact subscriptTail_builtinR (x:=w) pl.typeIs slot_tuple_getitem.lookup
  (getItem_tuple (j:=j) (Q:=λr s'=>r=w/\EP X aA σ Q r s') pl (by omega) (by omega) (by rw[zS,<- hl];exact h1) (by simpa using ew) ⟨rfl,bB⟩) hs
theorem zaE (bA:List Value)(n j:Nat)(u:Value):Obj.mapSeq (·.setIfInBounds j u) { cls:=.type "list",data:=.seq bA.toArray n }={ cls:=.type "list",data:=.seq (bA.set j u).toArray n }:=by
 simp[Obj.mapSeq]
theorem Inv.lst {aA:LA}{σ:St}{H:Hp}{s:Shared}{p:Addr}{xs:List V}(I:Inv X aA σ H s)(h:H p=some (.lst xs)):
  ∃(bA:List Value)(n:Nat),ZG xs bA/\s.heap.get? p=some { cls:=.type "list",data:=.seq bA.toArray n }/\xs.length<=sizeLine:=by
 obtain⟨z,bA,n,r,e⟩:=I.hok p _ h;exact⟨bA,n,r,e,z⟩
theorem Inv.lstUpd {aA:LA}{σ:St}{H:Hp}{s:Shared}{p:Addr}{xs ys:List V}{bA its':List Value}{n n':Nat}{f:Obj->Obj}(I:Inv X aA σ H s)(h:H p=some (.lst xs))
  (ho:s.heap.get? p=some { cls:=.type "list",data:=.seq bA.toArray n })(hf:f { cls:=.type "list",data:=.seq bA.toArray n }={ cls:=.type "list",data:=.seq its'.toArray n' })(r:ZG ys its')(hz:ys.length<=sizeLine)(t:Nat):
  Inv X aA σ (upd H p (.lst ys)) { s with heap:=s.heap.update p f,toks:=t }:=by
 have e:(s.heap.update p f).get? p=some { cls:=.type "list",data:=.seq its'.toArray n' }:=by
  rw[Heap.get?_update_self f ho (by rw[hf]<;>rfl),hf]
 refine I.write (x:=p) (e:=p) (by rw[h];trivial) (.inl rfl) (λb u hb q=>(Heap.get?_update_other _ _ (Ne.symm hb)).trans q) ⟨_,e⟩ ?_;exact⟨hz,its',n',r,e⟩
def rSetL:V->V->V->Hp->(Hp->Prop)->Prop:=λo i v H Q=>∃p xs k j,o=.ref p/\i=.int k/\H p=some (.lst xs)/\ixN xs.length k=some j/\Q (upd H p (.lst (xs.set j v)))
theorem Bh:PSet X rSetL:=by
 intro aA s σ H o i v ov iv u Q I ro ri rv h;obtain⟨p,xs,k,j,rfl,rfl,hp,hj,q⟩:=h;cases ro;obtain⟨t,rfl⟩:=ri;obtain⟨bA,n,r,ho,hz⟩:=I.lst hp;obtain⟨h1,h2,h3,h4⟩:=D3 hj;have hl:=r.length
 have hn:=QO
 have I':Inv X aA σ (upd H p (.lst (xs.set j v))) { s with heap:=s.heap.update p (Obj.mapSeq (·.setIfInBounds j u)) }:=
  I.lstUpd hp ho (zaE bA n j u) (r.set rv j) (by rw[List.length_set];exact hz) s.toks
 by_cases h0:0<=k
 ·have hk:k.toNat=j:=by
   rw[seqIndex_of h0 h4] at h1;exact Option.some.inj h1
  exact PySem.W.ki_setAt ho h0 (by omega) (by rw[zS,<- hl];exact h4) (by rw[hk];exact⟨_,I',q⟩)
 ·have hk:(k+(bA.toArray.size:Int)).toNat=j:=by
   rw[seqIndex_neg (by omega) h3] at h1;rw[zS,<- hl];exact Option.some.inj h1
  exact PySem.W.ki_setBack ho (by omega) (by rw[zS,<- hl];exact h3) (by omega) (by rw[hk];exact⟨_,I',q⟩)
theorem CV (lo hi:Option Int)(n:Nat):(sliceBounds lo hi none n).1=((HT.sIx n 0 lo:Nat):Int)/\(sliceBounds lo hi none n).2.1=((HT.sIx n n hi:Nat):Int)/\(sliceBounds lo hi none n).2.2=1:=by
 refine⟨?_,?_,rfl⟩
 ·cases lo with
  | none=>simp[sliceBounds,HT.sIx]
  | some i=>
   simp only[sliceBounds,HT.sIx,Option.getD_none,show (1:Int) > 0 by decide,if_true];by_cases h:i<0
   ·simp only[h,if_true]<;>omega
   ·simp only[h,if_false]<;>omega
 ·cases hi with
  | none=>simp[sliceBounds,HT.sIx]
  | some i=>
   simp only[sliceBounds,HT.sIx,Option.getD_none,show (1:Int) > 0 by decide,if_true];by_cases h:i<0
   ·simp only[h,if_true]<;>omega
   ·simp only[h,if_false]<;>omega
theorem zaO (bA:List Value)(lo hi:Option Int):slicePick bA.toArray lo hi none=((bA.drop (HT.sIx bA.length 0 lo)).take (HT.sIx bA.length bA.length hi-HT.sIx bA.length 0 lo)).toArray:=by
 obtain⟨h1,h2,h3⟩:=CV lo hi bA.toArray.size;unfold slicePick;rw[h1,h2,h3];simp only[sliceRange_one,pick_run,zS]<;>rfl
def rSlL (K:Fg):V->Option Int->Option Int->Hp->VK->Prop:=λx lo hi H Q=>∃a xs,x=.ref a/\SqL K H a xs/\∀p,H p=none->Q (.ref p) (upd H p (.lst (Rh xs lo hi)))
theorem zcN:SlR X (rSlL X.K):=by
 intro aA s σ H x v vl vu lo hi sl Q I rx hs pl pu h;obtain⟨a,xs,rfl,hx,q⟩:=h;cases rx;obtain⟨bA,r,ht,hz⟩:=I.list hx;have aU:=r.length;refine⟨"list",_,slot_list_getitem.lookup,ht.isList.typeIs,?_⟩;refine wpAny_getItem_list_slice ht.isList hs pl pu .none (by simp) ?_ (by rw[zS]<;>omega);rw[zaO,<- aU];refine⟨.ref s.heap.objs.size,_,I.laid (t':=s.toks) (o:=.lst (Rh xs lo hi)) (λb ob q=>Heap.get?_push_of_some _ q) (zD _) ?_,rfl,q _ (I.hok.fresh (zD _))⟩;exact⟨yK (BG xs lo hi) hz,_,0,(r.drop (HT.sIx xs.length 0 lo)).take (HT.sIx xs.length xs.length hi-HT.sIx xs.length 0 lo),Heap.get?_push_size _ rfl⟩
def Ic:V->Bool
 | .non=>true
 | .bl _=>true
 | .int _=>true
 | .str _=>true
 | _=>false
def eqV:V->V->Bool
 | .non,.non=>true
 | .bl a,.bl b=>a==b
 | .bl a,.int b=>(if a then 1 else 0)==b
 | .int a,.bl b=>a==(if b then 1 else 0)
 | .int a,.int b=>a==b
 | .str a,.str b=>a==b
 | _,_=>false
theorem C5 (ry:ZH y u)(rx:ZH x v)(fy:Ic y=true)(fx:Ic x=true):SeqAt.EqAt A s u v (eqV y x):=by
 cases y with
 | non=>
  cases ry;cases x with
  | non=>cases rx;exact SeqAt.EqAt.same _
  | bl b=>cases rx;exact SeqAt.EqAt.none_bool b
  | int b=>obtain⟨t,rfl⟩:=rx;exact SeqAt.EqAt.none_int b t
  | str b=>obtain⟨t,rfl⟩:=rx;exact SeqAt.EqAt.none_str b t
  | _=>exact absurd (show false=true from fx) yA
 | bl a=>
  cases ry;cases x with
  | non=>cases rx;exact SeqAt.EqAt.bool_none a
  | bl b=>cases rx;exact SeqAt.EqAt.bool_bool a b
  | int b=>obtain⟨t,rfl⟩:=rx;exact SeqAt.EqAt.bool_int a b t
  | str b=>obtain⟨t,rfl⟩:=rx;exact SeqAt.EqAt.bool_str a b t
  | _=>exact absurd (show false=true from fx) yA
 | int a=>
  obtain⟨t',rfl⟩:=ry;cases x with
  | non=>cases rx;exact SeqAt.EqAt.int_none a t'
  | bl b=>cases rx;exact SeqAt.EqAt.int_bool a t' b
  | int b=>obtain⟨t,rfl⟩:=rx;exact SeqAt.EqAt.int_int a t' b t
  | str b=>obtain⟨t,rfl⟩:=rx;exact SeqAt.EqAt.int_str a t' b t
  | _=>exact absurd (show false=true from fx) yA
 | str a=>
  obtain⟨t',rfl⟩:=ry;cases x with
  | non=>cases rx;exact SeqAt.EqAt.str_none a t'
  | bl b=>cases rx;exact SeqAt.EqAt.str_bool a t' b
  | int b=>obtain⟨t,rfl⟩:=rx;exact SeqAt.EqAt.str_int a t' b t
  | str b=>obtain⟨t,rfl⟩:=rx;exact SeqAt.EqAt.str_str a t' b t
  | _=>exact absurd (show false=true from fx) yA
 | _=>exact absurd (show false=true from fy) yA
theorem zdz:YA X (.builtin "len") (λxs H Q=>∃p ys,xs=[.ref p]/\(SqL X.K H p ys\/SqT X.K H p ys)/\Q (.int ys.length) H):=by
 intro aA s σ H xs us Q I r h;obtain⟨p,ys,rfl,hq,q⟩:=h;obtain⟨u,rfl,rx⟩:=W5 r;cases rx;have hn:=QO;rcases hq with hq|hq
 ·obtain⟨bA,r',pl,hz⟩:=I.list hq;have aU:=r'.length;exact Calls.call_len_list pl.isList (by simp only[zS]<;>omega) ⟨.int ys.length,H,I.tok _,⟨s.toks+1,by rw[zS,aU]⟩,q⟩
 ·obtain⟨bA,r',pl,hz⟩:=I.tuple hq;have aU:=r'.length;exact len_tuple pl (by simp only[zS]<;>omega) ⟨.int ys.length,H,I.tok _,⟨s.toks+1,by rw[zS,aU]⟩,q⟩
theorem zdT:YA X (.type "list") (λxs H Q=>∃p ys,xs=[.ref p]/\(SqL X.K H p ys\/SqT X.K H p ys)/\∀l,H l=none->Q (.ref l) (upd H l (.lst ys))):=by
 intro aA s σ H xs us Q I r h;obtain⟨p,ys,rfl,hq,q⟩:=h;obtain⟨u,rfl,rx⟩:=W5 r;cases rx;have bB:∀(bA:List Value),ZG ys bA->ys.length<=sizeLine->∀(h':Heap)(c':Nat),(∀b o',s.heap.get? b=some o'->h'.get? b=some o')->
   h'.get? s.heap.objs.size=some { cls:=.type "list",dict:=none,data:=.seq bA.toArray c',slots:=#[] }->EP X aA σ Q (.ref s.heap.objs.size) { s with heap:=h' }:=λbA r' hz h' c' kp e=>
  ⟨.ref s.heap.objs.size,_,I.laid (t':=s.toks) kp (zD _) (show YR X.prog X.w _ h' _ (.lst ys) from ⟨hz,bA,c',r',e⟩),rfl,q _ (I.hok.fresh (zD _))⟩
 rcases hq with hq|hq
 ·obtain⟨bA,r',pl,hz⟩:=I.list hq;have aU:=r'.length;obtain⟨o,ho,hc,n,hd⟩:=pl.isList;exact call_list_seq p (.inl rfl) ho hc hd (λh' c' kp e=>bB bA r' hz h' c' kp e) (by simp only[zS]<;>omega)
 ·obtain⟨bA,r',pl,hz⟩:=I.tuple hq;have aU:=r'.length;obtain⟨o,ho,hc,n,hd⟩:=pl;exact call_list_seq p (.inr rfl) ho hc hd (λh' c' kp e=>bB bA r' hz h' c' kp e) (by simp only[zS]<;>omega)
def tyV (K:Fg)(T:String)(x:V)(H:Hp):Prop:=match x with
 | .str _=>T="str"
 | .int _=>T="int"
 | .ref p=>(T="list"/\∃xs,SqL K H p xs)\/(T="tuple"/\∃o,K.lookup p=some o/\o.cls=.type "tuple"/\o.dict=none)\/
   (T="dict"/\((∃aY,H p=some (.dK aY))\/∃aY,H p=some (.dT aY)))\/(T="set"/\∃S n,H p=some (.set S n))
 | _=>False
theorem zdN (I:Inv X aA σ H s)(r:ZH x v)(ty:tyV X.K T x H):
  s.TypeIs v T/\∀a,v=.ref a->∃ob,s.heap.get? a=some ob/\ob.dict=none:=by
 cases x with
 | str z=>
  obtain⟨t,rfl⟩:=r;cases (show T="str" from ty);exact⟨typeIs_str s z t,λ_ e=>nomatch e⟩
 | int i=>
  obtain⟨t,rfl⟩:=r;cases (show T="int" from ty);exact⟨typeIs_int s i t,λ_ e=>nomatch e⟩
 | ref p=>
  cases r;rcases ty with ⟨rfl,xs,hq⟩|⟨rfl,o,hk,hc,hd⟩|⟨rfl,hk⟩|⟨rfl,S,n,hk⟩
  ·obtain⟨bA,_,pl,_⟩:=I.list hq;refine⟨pl.isList.typeIs,λa e=>?_⟩;cases e;obtain⟨o,n,e,c,hd,_⟩:=pl;exact⟨o,e,hd⟩
  ·refine⟨⟨o,I.kIn p o hk,hc⟩,λa e=>?_⟩;cases e;exact⟨o,I.kIn _ o hk,hd⟩
  ·have z:∃o,s.heap.get? p=some o/\o.ExactDict:=by
    rcases hk with ⟨aY,hk⟩|⟨aY,hk⟩
    ·obtain⟨_,_,_,_,o,_,_,e,ex,_⟩:=I.hok p _ hk;exact⟨o,e,ex⟩
    ·obtain⟨_,_,_,_,o,_,_,e,ex,_⟩:=I.hok p _ hk;exact⟨o,e,ex⟩
   obtain⟨o,e,ex⟩:=z;refine⟨⟨o,e,ex.1⟩,λa e2=>?_⟩;cases e2;exact⟨o,e,ex.2.1⟩
  ·obtain⟨o,_,_,_,e,ex,_⟩:=I.hok p _ hk;refine⟨⟨o,e,ex.1⟩,λa e2=>?_⟩;cases e2;exact⟨o,e,ex.2.1⟩
 | _=>exact False.elim ty
def tBM (K:Fg)(T:String)(r:V->List V->Hp->VK->Prop)(to:TE)(t:TA):TE:=λσ H Q=>to σ H λx H1=>tyV K T x H1/\t σ H1 λxs H2=>r x xs H2 Q
variable {o e:Expr}{es:List Expr}{to:TE}{t:TA}{name:Str}{aO aM:Pos}{T id:String}{r:V->List V->Hp->VK->Prop}
theorem KP (pa:PlainAttrs T)(slot:Slot T name id)(hty:typeOf (.builtin id)=pure (.type "method_descriptor"))(hm:MtR X id r)(ho:PE X o to)(ha:PA X (e::es) t)
  (hbase:attributeBase o name X.env (eval o X.env)=eval o X.env:=by rfl)
  (hfew:((backTo aM (starEach (e::es) X.env)).all (λx=>!x.1)&&(backToKw aM (keywordEach [] X.env)).all (λx=>x.1.isSome)
  &&decide ((e::es).length+([]:List Keyword).length+(if ([]:List Keyword).isEmpty then 0 else 1)<30))=true:=by rfl)
  (hline:(aO.endLine==aM.line)=true:=by rfl)(hs:starEach (e::es) X.env=(false,eval e X.env)::starEach es X.env:=by rfl)(hplain:(backTo aM (starEach es X.env)).any (·.1)=false:=by rfl):
  PE X (.Call (.Attribute o name aO) (e::es) [] aM) (tBM X.K T r to t):=by
 intro aA s σ H Q I h;refine wpAny_Call_method_late hbase hfew hline rfl (thn (ho aA s σ H _ I h) λv s1 ⟨x,H1,I1,r1,ty,q1⟩=>?_);obtain⟨h1,h2⟩:=zdN I1 r1 ty;refine⟨T,id,pa,slot,hty,h1,h2,?_⟩;have hA:=ha aM aA s1 σ H1 _ I1 q1;rw[hs] at hA ⊢;refine Calls.callWith_builtin (by show (false||(backTo aM (starEach es X.env)).any (·.1))=false;rw[hplain]<;>rfl) (Calls.evalArgs_plain ?_);exact thn hA λus s2 ⟨vs,H2,I2,r2,q2⟩=>hm aA s2 σ H2 x vs v us Q I2 r1 r2 q2
end
end L2
namespace L2
open PySem PySem.Spec PyProof.Rows
def MtM (X:Cx)(id:String)(r:V->List V->Hp->VK->Prop):Prop:=
 ∀(aA:LA)(s:Shared)(σ:St)(H:Hp)(x:V)(xs:List V)(v:Value)(us:List Value)(Q:VK),Inv X aA σ H s->ZH x v->ZG xs us->r x xs H Q->
  wpAny (model X.prog X.w) X.A (call (.builtin id) (v::us)) (EP X aA σ Q) X.xe s
theorem ZG.one:∀ {x:V} {us:List Value},ZG [x] us->∃u,us=[u]/\ZH x u
 | _,_,.cons r .nil=>⟨_,rfl,r⟩
theorem ZG.eraseIdx:∀ {xs:List V} {us:List Value} (i:Nat),ZG xs us->ZG (xs.eraseIdx i) (us.eraseIdx i)
 | _,_,_,.nil=>.nil
 | _,_,0,.cons _ t=>t
 | _,_,i+1,.cons r t=>.cons r (ZG.eraseIdx i t)
theorem ZG.reverse {xs:List V}{us:List Value}(h:ZG xs us):ZG xs.reverse us.reverse:=by
 induction h with
 | nil=>exact .nil
 | cons r t ih=>rw[List.reverse_cons,List.reverse_cons];exact ZG.append ih (.cons r .nil)
theorem ZG.rep (h:ZG xs us):∀k:Nat,ZG (List.replicate k xs).flatten (List.replicate k us).flatten
 | 0=>.nil
 | k+1=>by
  rw[xM,xM,xR,xR];exact ZG.append h (ZG.rep h k)
theorem Ci {α:Type}:∀(l:List α)(i:Nat),(l.eraseIdx i).length<=l.length
 | [],_=>zD _
 | _::_,0=>xQ _
 | _::r,i+1=>Nat.succ_le_succ (Ci r i)
theorem Cd (bA:List Value):∀(k:Nat)(acc:List Value),
  List.foldl (λx1 x2=>x1++x2) acc.toArray (List.replicate k bA.toArray)=(acc++(List.replicate k bA).flatten).toArray
 | 0,acc=>by simp
 | k+1,acc=>by
  have e:acc.toArray++bA.toArray=(acc++bA).toArray:=by simp
  have e2:(acc++bA)++(List.replicate k bA).flatten=acc++(List.replicate (k+1) bA).flatten:=by
   rw[xM,xR,xN]
  rw[<- e2,<- Cd bA k (acc++bA),<- e,xM,List.foldl_cons]
section
variable {X:Cx}{aA:LA}{σ:St}{H:Hp}{s:Shared}{l b:Addr}{xs ys zs:List V}
theorem Inv.lset {bA its':List Value}{n:Nat}{f:Array Value->Array Value}{t':Nat}(I:Inv X aA σ H s)(hH:H l=some (.lst xs))
  (e:s.heap.get? l=some { cls:=.type "list",data:=.seq bA.toArray n })(hf:f bA.toArray=its'.toArray)(hv:ZG ys its')(hz:ys.length<=sizeLine):
  Inv X aA σ (upd H l (.lst ys)) { s with heap:=s.heap.update l (Obj.mapSeq f),toks:=t' }:=by
 have q:=PySem.IsL.update e f;rw[hf] at q;refine I.write (x:=l) (e:=l) (by rw[hH];exact trivial) (.inl rfl) (λb' u hb hu=>(Heap.get?_update_other s.heap (Obj.mapSeq f) (Ne.symm hb)).trans hu) ⟨_,q⟩ ?_;exact⟨hz,its',_,hv,q⟩
theorem Inv.lnew (I:Inv X aA σ H s)(hv:ZG ys bA)(hz:ys.length<=sizeLine):
  Inv X aA σ (upd H s.heap.objs.size (.lst ys)) { s with heap:=s.heap.push { cls:=.type "list",data:=.seq bA.toArray },toks:=t' }:=
 I.laid (λ_ _ q=>Heap.get?_push_of_some _ q) (zD _) ⟨hz,bA,0,hv,Heap.get?_push_size _ rfl⟩
theorem Inv.fresh (I:Inv X aA σ H s):H s.heap.objs.size=none:=I.hok.fresh (zD _)
theorem Inv.lstM (I:Inv X aA σ H s)(hH:H l=some (.lst xs)):xs.length<=sizeLine/\∃(bA:List Value)(n:Nat),ZG xs bA/\xs.length=bA.length/\s.heap.get? l=some { cls:=.type "list",data:=.seq bA.toArray n }:=by
 obtain⟨z,bA,n,r,e⟩:=I.hok l _ hH;exact⟨z,bA,n,r,r.length,e⟩
theorem zdD {n:Nat}(h:n<=sizeLine):Builtin.List.listTooLong n=false:=by
 unfold Builtin.List.listTooLong;exact decide_eq_false (by omega)
end
section
variable {X:Cx}
def CU:V->List V->Hp->VK->Prop:=λx vs H Q=>∃l xs y,x=.ref l/\vs=[y]/\H l=some (.lst xs)/\xs.length<sizeLine/\Q .non (upd H l (.lst (xs++[y])))
theorem IX:MtM X "list.append" CU:=by
 intro aA s σ H x vs v us Q I rx rv h;obtain⟨l,xs,y,rfl,rfl,hH,hz,q⟩:=h;cases rx;obtain⟨u,rfl,ru⟩:=rv.one;obtain⟨z,bA,n,r,hl,e⟩:=I.lstM hH;refine call_meets F.slot_list_append ⟨_,e,rfl⟩ F.entry_list_append (F.args_list_append_2 _ _) (PySem.list_append l bA.toArray n u (by rw[zS];omega)) ⟨e,?_⟩;refine⟨.non,_,I.lset (its':=bA++[u]) hH e (by simp) (r.append (.cons ru .nil)) ?_,rfl,q⟩;rw[zO,List.length_singleton];omega
def zbX:V->List V->Hp->VK->Prop:=λx vs H Q=>∃l xs i k y,x=.ref l/\vs=[.int i]/\H l=some (.lst xs)/\-(2^63)<=i/\i<2^63/\seqIndex? i xs.length=some k/\xs[k]?=some y/\Q y (upd H l (.lst (xs.eraseIdx k)))
theorem AW:MtM X "list.pop" zbX:=by
 intro aA s σ H x vs v us Q I rx rv h;obtain⟨l,xs,i,k,y,rfl,rfl,hH,h1,h2,hk,hy,q⟩:=h;cases rx;obtain⟨u,rfl,ru⟩:=rv.one;obtain⟨t,rfl⟩:=ru;obtain⟨z,bA,n,r,hl,e⟩:=I.lstM hH;obtain⟨w,hw,rw'⟩:=r.get hy;refine call_meets F.slot_list_pop ⟨_,e,rfl⟩ F.entry_list_pop (F.args_list_pop_2 _ _)
  (MeetsSeq.list_pop_at l bA.toArray n i t k w (fitsIndex_both h1 h2) (by rw[zS,<- hl];exact hk) (by rw[<- Array.getElem?_toList];exact hw) (by rw[zS];omega)) ⟨e,?_⟩
 refine⟨y,_,I.lset (its':=bA.eraseIdx k) hH e ?_ (r.eraseIdx k) ?_,rw',q⟩
 ·show bA.toArray.eraseIdxIfInBounds k=(bA.eraseIdx k).toArray;rw[List.eraseIdxIfInBounds_toArray]
 ·have:=Ci xs k;omega
def rCat:R2:=λx y H Q=>∃l b xs zs,x=.ref l/\y=.ref b/\H l=some (.lst xs)/\H b=some (.lst zs)/\xs.length+zs.length<=sizeLine/\∀p,H p=none->Q (.ref p) (upd H p (.lst (xs++zs)))
theorem zaQ:OpR X (binaryOp .Add) rCat:=by
 intro aA s σ H x y v u Q I rx ry h;obtain⟨l,b,xs,zs,rfl,rfl,hH,hB,hz,q⟩:=h;cases rx;cases ry;obtain⟨z,bA,n,r,hl,e⟩:=I.lstM hH;obtain⟨z2,its2,n2,r2,hl2,e2⟩:=I.lstM hB;refine PySem.P.add_list e e2 ?_ (by rw[zS,zS];omega);have ea:bA.toArray++its2.toArray=(bA++its2).toArray:=by simp
 rw[ea];exact⟨.ref _,_,I.lnew (t':=s.toks) (r.append r2) (by rw[zO];omega),rfl,q _ I.fresh⟩
def rRep:R2:=λx y H Q=>∃l k xs,x=.ref l/\y=.int k/\H l=some (.lst xs)/\-(2^63)<=k/\k<2^63/\xs.length*k.toNat<=sizeLine/\
 ∀p,H p=none->Q (.ref p) (upd H p (.lst (List.replicate k.toNat xs).flatten))
theorem zdg (xs:List α)(k:Nat):(List.replicate k xs).flatten.length=k*xs.length:=by
 induction k with
 | zero=>simp
 | succ k ih=>rw[xM,xR,zO,ih,Nat.succ_mul,Nat.add_comm]
theorem zaX:OpR X (binaryOp .Mult) rRep:=by
 intro aA s σ H x y v u Q I rx ry h;obtain⟨l,k,xs,rfl,rfl,hH,h1,h2,hz,q⟩:=h;cases rx;obtain⟨t,rfl⟩:=ry;obtain⟨z,bA,n,r,hl,e⟩:=I.lstM hH;have aU:bA.toArray.size*k.toNat<=sizeLine:=by rw[zS,<- hl];exact hz
 have hcap:¬ bA.toArray.size*k.toNat > (2^63-1)/8:=by
  have:(sizeLine:Nat)<=(2^63-1)/8:=by decide
  omega
 have hfit:¬ (!Builtin.List.listFitsIndex k)=true:=by
  rw[fitsIndex_both h1 h2];exact yA
 have hlong:¬ Builtin.List.listTooLong (bA.toArray.size*k.toNat)=true:=by
  rw[zdD aU];exact yA
 have hnew:List.foldl (λx1 x2=>x1++x2) #[] (List.replicate (if bA.toArray.isEmpty=true then 0 else k.toNat) bA.toArray)=(List.replicate k.toNat bA).flatten.toArray:=by
  have f0:∀m:Nat,List.foldl (λx1 x2=>x1++x2) #[] (List.replicate m bA.toArray)=(List.replicate m bA).flatten.toArray:=λm=>by
   have:=Cd bA m [];rw[List.nil_append] at this;exact this
  rw[f0];cases bA with
  | nil=>simp
  | cons a r'=>rw[if_neg (by simp)]
 refine wpAny_binaryOp_repeat_ref (T:="list") (U:="int") (by decide) ⟨_,e,rfl⟩ (λs'=>typeIs_int s' k t) noFill_list_mul F.fills_int_mul F.slot_int_rmul repeat_list F.slot_int_index.lookup
  (call_meets F.slot_int_rmul (typeIs_int s k t) F.entry_int_rmul (F.args_int_rmul_2 _ _) (int___rmul___int_list k t l bA.toArray n)
   ⟨e,rfl,⟨_,e,rfl⟩,call_meets F.slot_list_mul ⟨_,e,rfl⟩ F.entry_list_mul (F.args_list_mul_2 _ _) (AutoListH.list___mul___list_int_3 l bA.toArray n k t hfit hcap hlong) ⟨e,?_⟩⟩)
 rw[hnew];exact⟨.ref _,_,I.lnew (t':=s.toks) (r.rep k.toNat) (by rw[zdg,Nat.mul_comm];exact hz),rfl,q _ I.fresh⟩
end
section
variable {prog:Program}{w:World}{A:Around}{E:Value->Shared->Prop}{s:Shared}
set_option maxRecDepth 100000 in
end
end L2
namespace Att
open PySem PySem.W PySem.Calls PyProof.Rows
theorem Ay {P:Params}{h:Heap}:∀(ns:List Int)(vs:List Value),WellAll P h vs (ns.map WData.int)->IntsAre vs ns:=by
 intro ns
 induction ns with
 | nil=>
  intro vs w;rw[List.map_nil] at w;cases w;exact .nil
 | cons n ns ih=>
  intro vs w;rw[yP] at w;cases w with
  | cons a b=>
   cases a;exact .cons _ _ (ih _ b)
theorem zaW {l:OpenLaw}{n:Nat}(hn:l.most=some n){P:Params}{h:Heap}{args:List WData}{vals:List Value}
  (hpre:l.row.toRowW.claim.pre args=true)(hwl:WellAll P h vals args):
  ∃a vs ns,vals=[Value.ref a]/\args=[WData.list (ns.map WData.int)]/\h.get? a=some { cls:=.type "list",data:=.seq vs.toArray }/\IntsAre vs ns/\ns.length<=n:=by
 have hsh:WShape.hasAll [] args [.list .int]=true:=(pre_splitW hpre).1
 have hc:l.pre.holds [] { args:=args }=true:=(pre_splitW hpre).2;obtain⟨d,r,rfl,h1,h2⟩:=hasAllW_cons hsh;obtain rfl:=hasAllW_nil h2;obtain⟨xs,rfl,h3⟩:=hasW_list h1;obtain⟨ns,rfl⟩:=items_int h3;have aU:ns.length<=n:=by
  unfold OpenLaw.pre at hc;have h4:(WTm.not (.lt (.lit (.int (n:Int))) (.len (.arg 0)))).holds [] { args:=[.list (ns.map .int)] }=true:=by
   have h4:=(holds_andW hc).1;rw[hn] at h4;exact h4
  have h5:=condW_of h4 (w_not (w_lt w_lit (w_len_list (w_arg rfl))));rw[zA] at h5;refine Nat.le_of_not_lt λq=>?_
  have q':(n:Int)<((ns.length:Nat):Int):=by omega
  first
   | (rw[decide_eq_true q'] at h5;exact absurd h5 (by decide))
   | (simp at h5;omega)
 cases hwl with
 | cons w1 w2=>
  cases w2;cases w1 with
  | list ho hall=>exact⟨_,_,ns,rfl,rfl,ho,Ay ns _ hall,aU⟩
theorem zc5 (l:OpenLaw)(args:List WData):l.row.toRowW.claim.post args (.bool true) args=true:=
 postW_of (r:=l.row.toRowW) (X:=(true==true))
  (show WShape.has [] (.bool true) .bool=true by first|rfl|decide|simp[WShape.has,WShape.arms,WShape.armsAll])
  (show (WTm.eq .res (.lit (.bool true))).value [] { args:=args,res:=some (.bool true),after:=args }=some (.bool (true==true)) from w_eq_bool (w_res rfl) w_lit) rfl
theorem attach_call {l:OpenLaw}{n:Nat}{q:Program}{aK:List Str}{XP:(Str->Option Value)->Heap->Prop}{YP:World->Heap->Prop}{d:DefRec}
  (hn:l.most=some n)(hdf:d.params.defaults=[])
  (call:∀(w:World)(s₀ s₁:Shared)(mg mb:Str->Option Value)(fa:Addr)(o:Obj)(pm cd doc:Value)(a:Addr)(vs:List Value)(ns:List Int),
   Ground q aK [] XP w s₀ mg mb s₁.heap->YP w s₁.heap->
   s₁.heap.get? fa=some o->o.data=.func (docDef d.name d.params d.body d.scope pm cd doc)->s₁.heap.CodeRec cd d.name->mg d.name=some (.ref fa)->
   s₁.heap.get? a=some { cls:=.type "list",data:=.seq vs.toArray }->IntsAre vs ns->ns.length<=n->s₁.gens=#[]->
   codeAny (model l.prog w) callerA (.call (.ref fa) ⟨[.ref a],[]⟩) (λr s'=>r=.ok (.ret (.bool true))/\OldK s₁.heap s'.heap/\s'.os=s₁.os/\AllBare s'.gens) s₁):
  WalkO q aK XP YP l.row.toRowW d [] (λf vs=>PySem.call f vs):=by
 intro w s₀ s₁ mg mb G Y fa o pm cd doc dV kV ho hd hcd hD hmg hg args vals as hpre hlay hrd hwl hlo;obtain rfl:dV=.none:=Dflts.none hD hdf;obtain rfl:kV=.none:=Dflts.noKw hD;obtain⟨a,vs,ns,rfl,rfl,hobj,hints,aU⟩:=zaW hn hpre hwl;refine enter_call (codeAny_mono (call w s₀ s₁ mg mb fa o pm cd doc a vs ns G Y ho (fd_plain hd) hcd hmg hobj hints aU hg) λr s' hq=>?_);obtain⟨rfl,h2,h3,h4⟩:=hq;exact⟨.inl ⟨.bool true,.bool true,[],rfl,λ_=>rfl,.bool true,zc5 l _,λ_=>⟨List.Pairwise.nil,λ_ hm=>(nomatch hm)⟩⟩,h2,h3,h4⟩
section
variable {prog:Program}{w:World}{A:Around}{E:Value->Shared->Prop}{s:Shared}{K:Frag}
end
end Att
namespace L2
open PySem PySem.Spec PyProof.Rows
theorem RD:∀ {vs:List Value} {ns:List Int},IntsAre vs ns->ZG (ns.map V.int) vs
 | _,_,.nil=>.nil
 | _,_,.cons n t h=>.cons ⟨t,rfl⟩ (RD h)
def Qh (H:Hp):Prop:=∀b,H b=none\/∃o xs,H b=some (.frz o (.lst xs))
theorem zak {P:Program}{w:World}{K:Fg}{mg mb:Str->Option Value}{CX:CXT}{k:Nat}{fa a:Addr}{fd:FuncData}{x:Str}{sp:Sp}{s₁:Shared}{vs:List Value}{ns:List Int}
  (KX:K.In s₁.heap)(hns:s₁.heap.Ns mainGlobals mg)(hb:s₁.heap.Ns builtinsNs mb)(hbb:∀x:Str,x≠"__name__"->mb x=bootBuiltins x)(hlim:s₁.heap.NoLimit)(hg:s₁.gens=#[])
  (ha:s₁.heap.get? a=some { cls:=.type "list",data:=.seq vs.toArray })(hi:IntsAre vs ns)(hl:ns.length<=sizeLine)(hr:Z3 k callerA)
  (F:∀base:Heap,K.In base->base.Ns mainGlobals mg->Yo P w K mg base CX k fa fd [x] sp)(hbind:∀(s:Shared)(u:Value),BindsTo s fd ⟨[u],[]⟩ [(x,u)])
  (hsp:∀H:Hp,Qh H->SqL K H a (ns.map V.int)->sp [.ref a] H (λv _=>v=.bl true) λ_ _ _=>False)
  (hCX:∀H e s',CX [] H s₁ (λ_ _ _=>False) e s'->False):
  codeAny (model P w) callerA (.call (.ref fa) ⟨[.ref a],[]⟩) (λr s'=>r=.ok (.ret (.bool true))/\OldK s₁.heap s'.heap/\s'.os=s₁.os/\AllBare s'.gens) s₁:=by
 have rv:=RD hi
 have lenV:=hi.length
 have core:∀H:Hp,Qh H->SqL K H a (ns.map V.int)->HOk P w H s₁.heap->(∀b,H b≠none->b=a)->(H a≠none->K.lookup a=none)->
   codeAny (model P w) callerA (.call (.ref fa) ⟨[.ref a],[]⟩) (λr s'=>r=.ok (.ret (.bool true))/\OldK s₁.heap s'.heap/\s'.os=s₁.os/\AllBare s'.gens) s₁:=by
  intro H hO hS hok hA hK;have base_of:∀ {b:Addr} {o:Obj},s₁.heap.get? b=some o->H b=none->(Vs s₁.heap H).get? b=some o:=λe n=>zdo e n
  have noA:∀ {b:Addr} {o:Obj} {es:Array DictEntry} {ep:Nat},s₁.heap.get? b=some o->o.data=.dict es ep->H b=none:=λ{b o es ep} e d=>by
   cases q:H b with
   | none=>rfl
   | some u=>
    have e':b=a:=hA b (by rw[q];simp);subst e';rw[ha] at e;cases e
    have d':Data.seq vs.toArray _=Data.dict es ep:=d;cases d'
  have nsK:∀ {b:Addr} {m:Str->Option Value},s₁.heap.Ns b m->(Vs s₁.heap H).Ns b m:=λ{b m} ⟨o,es,ep,e,d,r⟩=>⟨o,es,ep,base_of e (noA e d),d,r⟩
  have hKb:K.In (Vs s₁.heap H):=λb o e=>base_of (KX b o e) (by
   cases q:H b with
   | none=>rfl
   | some u=>
    have e':b=a:=hA b (by rw[q];simp);subst e';rw[hK (by rw[q];simp)] at e;cases e)
  have hM:Mod K mg (Vs s₁.heap H):=⟨hKb,nsK hns,⟨mb,nsK hb,hbb⟩,let ⟨mc,h1,h2⟩:=hlim;⟨mc,nsK h1,h2⟩⟩
  have e0:W3 P w K mg (Vs s₁.heap H) callerA [] s₁ H:=⟨rfl,hM,λb o e=>zaR e,Nat.le_of_eq (Br _ _),trivial,λb hb=>absurd (show b∈([]:List Addr) from hb) (by simp),hok,.of_eq hg⟩;refine codeAny_mono ((F _ hKb (nsK hns)).run callerA [] s₁ H ⟨[.ref a],[]⟩ [.ref a] [.ref a] _ _ hr e0 (hbind s₁ (.ref a)) (.cons rfl .nil) (hsp H hO hS)) λr s' h=>?_
  cases r with
  | error e=>exact(hCX H e s' h).elim
  | ok fl=>
   cases fl with
   | next=>exact False.elim h
   | brk=>exact False.elim h
   | cont=>exact False.elim h
   | ret u=>
    obtain⟨v,H',os,bare,un,hok',r',q⟩:=h;have q':v=.bl true:=q;subst q';obtain rfl:u=Value.bool true:=r';refine⟨rfl,OldK.of_keep λb o e=>?_,os,bare⟩;cases q:H b with
    | none=>exact un.keep b o e q (by intro z;exact absurd (show b∈([]:List Addr) from z) (by simp)) (by simp)
    | some u=>
     rcases hO b with z|⟨ob,xs,z⟩
     ·rw[q] at z;cases z
     ·have z2:=un.frzs b ob _ z;obtain⟨e1,_⟩:=hok b _ z;obtain⟨e2,_⟩:=hok' b _ z2;rw[e] at e1;cases e1
      exact e2
 cases hk:K.lookup a with
 | some o=>
  have e:=KX a o hk;rw[ha] at e;cases e;refine core (λ_=>none) (λ_=>.inl rfl) (.inr ⟨_,vs.toArray,_,hk,rfl,rfl,rfl,by rw[zS,lenV];exact hl,by simpa using rv⟩) (λb u z=>by have z':(none:Option HO)=some u:=z;cases z') (λb z=>absurd rfl z) λz=>absurd rfl z
 | none=>
  refine core (λb=>if b=a then some (.frz { cls:=.type "list",data:=.seq vs.toArray } (.lst (ns.map V.int))) else none) (λb=>?_) (.inl (.inr ⟨{ cls:=.type "list",data:=.seq vs.toArray },if_pos rfl⟩)) (λb u z=>?_) (λb z=>?_) λ_=>hk
  ·by_cases hb:b=a
   ·exact .inr ⟨_,_,if_pos hb⟩
   ·exact .inl (if_neg hb)
  ·by_cases hb:b=a
   ·have z':=(if_pos hb).symm.trans z;cases z';subst hb;exact⟨ha,by rw[zA];exact hl,vs,_,rv,ha⟩
   ·have z':=(if_neg hb).symm.trans z;cases z'
  ·by_cases hb:b=a
   ·exact hb
   ·exact absurd (if_neg hb) z
end L2
namespace L2
open PySem PySem.Spec PyProof.Rows
theorem CP {l:PySem.W.OpenLaw}{n k:Nat}{q:Program}{aK:List Str}{XP:(Str->Option Value)->Heap->Prop}{YP:World->Heap->Prop}{d:DefRec}{K:Params->Fg}{CX:World->CXT}{sp:World->Sp}{x:Str}
  (hn:l.most=some n)(hn2:n<=sizeLine)(hdf:d.params.defaults=[])(hr:Z3 k callerA)
  (hY:∀(w:World)(h:Heap),YP w h->(K w.params).In h)
  (F:∀(w:World)(mg:Str->Option Value)(fa:Addr)(h:Heap),(K w.params).In h->h.Ns mainGlobals mg->mg d.name=some (.ref fa)->
   ∃fd:FuncData,(∀(s:Shared)(u:Value),BindsTo s fd ⟨[u],[]⟩ [(x,u)])/\
    ∀base:Heap,(K w.params).In base->base.Ns mainGlobals mg->Yo l.prog w (K w.params) mg base (CX w) k fa fd [x] (sp w))
  (hsp:∀(w:World)(H:Hp)(a:Addr)(ns:List Int),ns.length<=n->Qh H->SqL (K w.params) H a (ns.map V.int)->sp w [.ref a] H (λv _=>v=.bl true) λ_ _ _=>False)
  (hCX:∀(w:World)(H:Hp)(s:Shared)(e:Value)(s':Shared),CX w [] H s (λ_ _ _=>False) e s'->False):
  PySem.W.WalkO q aK XP YP l.row.toRowW d [] (λf vs=>PySem.call f vs):=by
 refine Att.attach_call hn hdf λw s₀ s₁ mg mb fa o pm cd doc a vs ns G Y ho hd hcd hmg hobj hints aU hg=>?_
 have KX:=hY w _ Y;obtain⟨fd,hb,hF⟩:=F w mg fa _ KX G.T.g hmg;exact zak KX G.T.g G.T.b G.T.builtins G.T.nolimit hg hobj hints (yK aU hn2) hr hF hb (λH hO hS=>hsp w H a ns aU hO hS) λH e s'=>hCX w H s₁ e s'
end L2
namespace L2
open PySem PySem.Spec PyProof.Rows
abbrev CX0:CXT:=λ_ _ _ _ _ _=>False
structure Fun (K:Fg)(x aL:Str)(st:Stmt)(f:Addr)(fd:FuncData):Prop where
 ex:∃(oc:Value)(od:Option Addr)(kV doc pm:Value)(an:Option Addr)(cdv ct:Value)(osl:Array (Option Value)),
  fd=PySem.W.fnOf x aL (Vt st) (WQ st) (Zj st) .none kV doc pm an cdv ct/\K.lookup f=some ⟨oc,od,.func fd,osl⟩/\PySem.W.codeIn K cdv aL=true
 kp:PySem.W.keepIn K (.ref f)=true
section
variable {P:Program}{w:World}{K:Fg}{mg:Str->Option Value}{base:Heap}
theorem Fun.ok {x aL:Str}{st:Stmt}{f:Addr}{fd:FuncData}{N ps:List Str}{k:Nat}{sp:Sp}(F:Fun K x aL st f fd)(S:Zz N ps (Zj st))(len:∀vs H Q E,sp vs H Q E->vs.length=ps.length)
  (hbody:∀(cdv:Value)(A:Around)(outer:List Env)(s:Shared)(H:Hp)(vs:List V)(Q:VK)(E:XK),Z3 k (A.deeper (envOfC aL (Zj st) s.heap.objs.size f cdv))->sp vs H Q E->
   ∃t,PSs (UL CX0 P w K mg base N aL (Zj st) f cdv A outer s H E).nox (WQ st) t/\t { nx:=λ_ H'=>Q .non H',rt:=Q } (WV N vs) H):Yo P w K mg base CX0 (k+1) f fd ps sp:=by
 obtain⟨oc,od,kV,doc,pm,an,cdv,ct,osl,rfl,lk,hcd⟩:=F.ex;refine CG lk hcd S len λA outer s H vs Q E hr hsp=>?_
 obtain⟨t,h,q⟩:=hbody cdv A outer s H vs Q E hr hsp;exact⟨t,h.nox,q⟩
theorem Fun.binds {x aL:Str}{st:Stmt}{f:Addr}{fd:FuncData}{ps:List Str}(F:Fun K x aL st f fd)
  (h:∀(kV doc pm:Value)(an:Option Addr)(cdv ct:Value)(us:List Value),us.length=ps.length->bindArgs (PySem.W.fnOf x aL (Vt st) (WQ st) (Zj st) .none kV doc pm an cdv ct) ⟨us,[]⟩=pure (ps.zip us)):Xv K fd ps []:=by
 obtain⟨oc,od,kV,doc,pm,an,cdv,ct,osl,rfl,lk,hcd⟩:=F.ex;exact .all (h kV doc pm an cdv ct)
theorem O1 {x aL:Str}{st:Stmt}{f:Addr}{oc:Value}{od an:Option Addr}{osl:Array (Option Value)}{kV doc pm cdv ct:Value}(l:K.lookup f=some ⟨oc,od,.func (PySem.W.fnOf x aL (Vt st) (WQ st) (Zj st) .none kV doc pm an cdv ct),osl⟩)
  (c:PySem.W.codeIn K cdv aL=true)(k:PySem.W.keepIn K (.ref f)=true):Fun K x aL st f (PySem.W.fnOf x aL (Vt st) (WQ st) (Zj st) .none kV doc pm an cdv ct):=⟨⟨oc,od,kV,doc,pm,an,cdv,ct,osl,rfl,l,c⟩,k⟩
end
theorem Rx (h:n<=1000):n<sizeLine:=Nat.lt_of_le_of_lt h (by decide)
section
variable {X:Cx}
theorem pv (i:Nat)(hN:X.N[i]?=some x:=by rfl)(hv:Vis X.env.scope x:=by first|exact Or.inl rfl|exact Or.inr (Or.inl rfl)|exact Or.inr (Or.inr rfl))(hd:(x==("__debug__":Str))=false:=by decide)(hcd:(x==("__classdict__":Str))=false:=by decide):PE X (.Name x pos) (tVar i):=Dv hN hv hd hcd
end
theorem YF {A B:Prop}(h:B):if false=true then A else B:=by
 rw[if_neg yA];exact h
theorem Xf {A B:Prop}(h:A):if true=true then A else B:=by
 rw[if_pos rfl];exact h
theorem YX {c A B:Prop} [Decidable c] (h1:c->A)(h2:¬ c->B):if c then A else B:=by
 by_cases h:c
 ·rw[if_pos h];exact h1 h
 ·rw[if_neg h];exact h2 h
end L2
namespace L2
open PySem PySem.Spec PyProof.Rows
section
variable {κ:Type} [DecidableEq κ]
def VC (aY:List (κ×V))(k:κ):Option V:=(aY.find? λkv=>decide (kv.1=k)).map (·.2)
def putK (aY:List (κ×V))(k:κ)(v:V):List (κ×V):=
 if (aY.any λkv=>decide (kv.1=k))=true then aY.map (λkv=>if kv.1=k then (kv.1,v) else kv) else aY++[(k,v)]
def Cu (aY:List (κ×V))(k:κ):List (κ×V):=aY.filter λkv=>decide (kv.1≠k)
theorem Iv {p:κ×V}{r:List (κ×V)}{k:κ}(e:p.1=k):VC (p::r) k=some p.2:=by simp[VC,xS,e]
theorem Iu {p:κ×V}{r:List (κ×V)}{k:κ}(e:¬ p.1=k):VC (p::r) k=VC r k:=by simp[VC,xS,e]
theorem Bu (k:κ):∀aY:List (κ×V),(aY.any λkv=>decide (kv.1=k))=(VC aY k).isSome
 | []=>rfl
 | p::r=>by
  rw[List.any_cons];by_cases e:p.1=k
  ·simp only[Iv e,decide_eq_true e,Bool.true_or,Option.isSome_some]
  ·rw[Iu e,decide_eq_false e,Bool.false_or];exact Bu k r
theorem XE.isSome_eq (r:XE o u):o.isSome=u.isSome:=by
 cases o with
 | none=>cases u with
  | none=>rfl
  | some _=>exact(show False from r).elim
 | some _=>cases u with
  | none=>exact(show False from r).elim
  | some _=>rfl
theorem XE.getD (r:XE o u)(rd:ZH d d'):ZH (o.getD d) (u.getD d'):=by
 cases o with
 | none=>cases u with
  | none=>exact rd
  | some _=>exact(show False from r).elim
 | some _=>cases u with
  | none=>exact(show False from r).elim
  | some _=>exact r
theorem KV.val {aY:List (κ×V)}{vs:List (κ×Value)}(r:KV aY vs)(k:κ):XE (VC aY k) (valueAt vs k):=by
 unfold KV at r
 induction r with
 | nil=>exact True.intro
 | @cons p q ps qs h t ih=>
  obtain⟨h1,h2⟩:=h;by_cases e:p.1=k
  ·have e':q.1=k:=h1.symm.trans e
   have b:valueAt (q::qs) k=some q.2:=by simp[valueAt,xS,e']
   rw[Iv e,b];exact h2
  ·have e':¬ q.1=k:=λz=>e (h1.trans z)
   have b:valueAt (q::qs) k=valueAt qs k:=by simp[valueAt,xS,e']
   rw[Iu e,b];exact ih
theorem KV.any (r:KV aY vs)(k:κ):(aY.any λkv=>decide (kv.1=k))=vs.any λkv=>decide (kv.1=k):=by
 unfold KV at r
 induction r with
 | nil=>rfl
 | cons h t ih=>rw[List.any_cons,List.any_cons,ih,h.1]
theorem KV.repl (r:KV aY vs)(k:κ)(ry:ZH y u):
  KV (aY.map λkv=>if kv.1=k then (kv.1,y) else kv) (vs.map λkv=>if kv.1=k then (kv.1,u) else kv):=by
 unfold KV at r ⊢
 induction r with
 | nil=>exact .nil
 | @cons p q ps qs h t ih=>
  rw[yP,yP];refine .cons ?_ ih;obtain⟨h1,h2⟩:=h;by_cases e:p.1=k
  ·rw[if_pos e,if_pos (h1.symm.trans e)];exact⟨h1,ry⟩
  ·rw[if_neg e,if_neg (λz=>e (h1.trans z))];exact⟨h1,h2⟩
theorem KV.put (r:KV aY vs)(k:κ)(ry:ZH y u):KV (putK aY k y) (stored vs k u):=by
 unfold putK stored;rw[r.any k];by_cases e:(vs.any λkv=>decide (kv.1=k))=true
 ·rw[if_pos e,if_pos e];exact r.repl k ry
 ·rw[if_neg e,if_neg e];exact Paired.snoc r ⟨rfl,ry⟩
theorem KV.drop (r:KV aY vs)(k:κ):KV (Cu aY k) (without vs k):=by
 unfold KV at r ⊢;unfold Cu without
 induction r with
 | nil=>exact .nil
 | @cons p q ps qs h t ih=>
  obtain⟨h1,h2⟩:=h;rw[List.filter_cons,List.filter_cons];by_cases e:p.1=k
  ·have a:¬ decide (p.1≠k)=true:=by simp[e]
   have b:¬ decide (q.1≠k)=true:=by simp[h1.symm.trans e]
   rw[if_neg a,if_neg b];exact ih
  ·have e':¬ q.1=k:=λz=>e (h1.trans z)
   have a:decide (p.1≠k)=true:=by simp[e]
   have b:decide (q.1≠k)=true:=by simp[e']
   rw[if_pos a,if_pos b];exact .cons ⟨h1,h2⟩ ih
theorem KV.length (r:KV aY vs):aY.length=vs.length:=Paired.length r
end
section
variable {X:Cx}{aA:LA}{σ:St}{H:Hp}{s:Shared}{a:Addr}{y v:V}{u r:Value}{o:Option V}{A:Around}{E:Value->Shared->Prop}
end
end L2
namespace L3
open PySem PySem.Spec PyProof.Rows L2
abbrev St:=L2.St
inductive D where
 | non|bl (b:Bool)|int (i:Int)|str (x:Str)|tup (xs:List D)|ref (n:Nat)|exc (c:Addr)
inductive Ob where
 | lst (xs:List D)|frz (xs:List D)
  | ins (C:Addr) (fs:List (Str×D))
  | dct (aY:List (List Key×D))
  | tpl (ws:List Str)
  | dck (aY:List (Key×D))
abbrev Sto:=List Ob
abbrev Ev:=List (Option D)
abbrev DK:=D->Sto->Prop
abbrev TDE:=Ev->Sto->DK->Prop
abbrev TDT:=Ev->Sto->(Bool->Sto->Prop)->Prop
abbrev TDA:=Ev->Sto->(List D->Sto->Prop)->Prop
structure WL where
 nx:Ev->Sto->Prop
 rt:DK
 bk:Ev->Sto->Prop:=λ_ _=>False
 ct:Ev->Sto->Prop:=λ_ _=>False
abbrev TDS:=WL->Ev->Sto->Prop
def isX (a c:Addr):HO:=.ext λh=>∃o,h.get? a=some o/\o.cls=.ref c
inductive Rp (r:List Addr)(H:Hp):D->V->Prop
 | non:Rp r H .non .non
 | bl (b:Bool):Rp r H (.bl b) (.bl b)
 | int (i:Int):Rp r H (.int i) (.int i)
 | str (x:Str):Rp r H (.str x) (.str x)
 | tup {ds:List D} {xs:List V} {a:Addr}:H a=some (.tup xs)->ds.length=xs.length->(∀(i:Nat)(d:D)(v:V),ds[i]?=some d->xs[i]?=some v->Rp r H d v)->Rp r H (.tup ds) (.ref a)
 | ref {n:Nat} {a:Addr}:r[n]?=some a->Rp r H (.ref n) (.ref a)
 | exc {c a:Addr}:H a=some (isX a c)->Rp r H (.exc c) (.ref a)
def Rps (r:List Addr)(H:Hp)(ds:List D)(vs:List V):Prop:=ds.length=vs.length/\∀(i:Nat)(d:D)(v:V),ds[i]?=some d->vs[i]?=some v->Rp r H d v
structure Ext (r r':List Addr)(H H':Hp):Prop where
 adr:∀(n:Nat)(a:Addr),r[n]?=some a->r'[n]?=some a
 tup:∀a xs,H a=some (.tup xs)->H' a=some (.tup xs)
 xc:∀a c,H a=some (isX a c)->H' a=some (isX a c)
section
variable {r r' r2:List Addr}{H H' H2:Hp}{d:D}{v:V}{ds:List D}{vs:List V}
theorem Ext.refl:Ext r r H H:=⟨λ_ _ h=>h,λ_ _ h=>h,λ_ _ h=>h⟩
theorem Ext.trans (a:Ext r r' H H')(b:Ext r' r2 H' H2):Ext r r2 H H2:=⟨λn x h=>b.adr n x (a.adr n x h),λx y h=>b.tup x y (a.tup x y h),λx y h=>b.xc x y (a.xc x y h)⟩
theorem Rp.ext (h:Rp r H d v)(e:Ext r r' H H'):Rp r' H' d v:=by
 induction h with
 | non=>exact .non
 | bl b=>exact .bl b
 | int i=>exact .int i
 | str x=>exact .str x
 | tup h l _ ih=>exact .tup (e.tup _ _ h) l ih
 | ref h=>exact .ref (e.adr _ _ h)
 | exc h=>exact .exc (e.xc _ _ h)
theorem Rps.ext (h:Rps r H ds vs)(e:Ext r r' H H'):Rps r' H' ds vs:=⟨h.1,λi d v h1 h2=>(h.2 i d v h1 h2).ext e⟩
theorem Rps.nil:Rps r H [] []:=⟨rfl,λi d v h=>by simp at h⟩
theorem Rps.cons (h:Rp r H d v)(t:Rps r H ds vs):Rps r H (d::ds) (v::vs):=by
 refine⟨by simp[t.1],λi x y h1 h2=>?_⟩;cases i with
 | zero=>
  simp at h1 h2;subst h1;subst h2
  exact h
 | succ i=>exact t.2 i x y (by simpa using h1) (by simpa using h2)
theorem Rps.tail (h:Rps r H (d::ds) (y::vs)):Rp r H d y/\Rps r H ds vs:=
 ⟨h.2 0 d y rfl rfl,by simpa using h.1,λi a b h1 h2=>h.2 (i+1) a b (by simpa using h1) (by simpa using h2)⟩
theorem Rps.uncons (h:Rps r H (d::ds) vs):∃v vs',vs=v::vs'/\Rp r H d v/\Rps r H ds vs':=by
 cases vs with
 | nil=>exact absurd h.1 (by simp)
 | cons v vs'=>exact⟨v,vs',rfl,h.tail⟩
theorem Rps.unnil (h:Rps r H [] vs):vs=[]:=by
 cases vs with
 | nil=>rfl
 | cons v vs'=>exact absurd h.1 (by simp)
theorem Rps.get {i:Nat}(h:Rps r H ds vs)(e:ds[i]?=some d):∃v,vs[i]?=some v/\Rp r H d v:=by
 have hi:i<ds.length:=(zF.mp e).1
 have hv:i<vs.length:=by rw[<- h.1];exact hi
 exact⟨vs[i],by simp[hv],h.2 i d vs[i] e (by simp[hv])⟩
theorem Rps.get' {i:Nat}(h:Rps r H ds vs)(e:vs[i]?=some v):∃d,ds[i]?=some d/\Rp r H d v:=by
 have hv:i<vs.length:=(zF.mp e).1
 have hi:i<ds.length:=by rw[h.1];exact hv
 exact⟨ds[i],by simp[hi],h.2 i ds[i] v (by simp[hi]) e⟩
theorem Rps.snoc (h:Rps r H ds vs)(t:Rp r H d v):Rps r H (ds++[d]) (vs++[v]):=by
 refine⟨by simp[h.1],λi x y h1 h2=>?_⟩;by_cases hi:i<ds.length
 ·rw[zV hi] at h1;rw[zV (by rw[<- h.1];exact hi)] at h2;exact h.2 i x y h1 h2
 ·have hl:i<(ds++[d]).length:=(zF.mp h1).1
  have e:i=ds.length:=by simp at hl;omega
  subst e;rw[yI (zD _)] at h1;rw[h.1,yI (zD _)] at h2;simp at h1 h2;subst h1;subst h2
  exact t
theorem Rps.tupR (h:Rps r H ds vs)(e:H a=some (.tup vs)):Rp r H (.tup ds) (.ref a):=.tup e h.1 h.2
theorem Rp.untup {vs:V}(h:Rp r H (.tup ds) vs):∃a xs,vs=.ref a/\H a=some (.tup xs)/\Rps r H ds xs:=by
 cases h with
 | tup e l f=>exact⟨_,_,rfl,e,l,f⟩
end
def SqF (K:Fg)(H:Hp)(a:Addr)(xs:List V):Prop:=
 (∃o,H a=some (.frz o (.lst xs)))\/
  ∃(o:Obj)(bA:Array Value)(n:Nat),K.lookup a=some o/\o.cls=.type "list"/\o.dict=none/\o.data=.seq bA n/\bA.size<=sizeLine/\ZG xs bA.toList
theorem SqF.sql {K:Fg}{H:Hp}{a:Addr}{xs:List V}(h:SqF K H a xs):SqL K H a xs:=by
 rcases h with ⟨o,h⟩|h
 ·exact .inl (.inr ⟨o,h⟩)
 ·exact .inr h
def FR {α:Type}(r:List Addr)(H:Hp)(fs:List (α×D))(fs':List (α×V)):Prop:=fs.map (·.1)=fs'.map (·.1)/\Rps r H (fs.map (·.2)) (fs'.map (·.2))
theorem FR.ext {α:Type}{r r':List Addr}{H H':Hp}{fs:List (α×D)}{fs':List (α×V)}(h:FR r H fs fs')(e:Ext r r' H H'):FR r' H' fs fs':=⟨h.1,h.2.ext e⟩
theorem FR.nil {α:Type}{r:List Addr}{H:Hp}:FR (α:=α) r H [] []:=⟨rfl,Rps.nil⟩
def ObR (K:Fg)(r:List Addr)(H:Hp)(a:Addr):Ob->Prop
 | .lst ds=>∃xs,H a=some (.lst xs)/\Rps r H ds xs
 | .frz ds=>∃xs,SqF K H a xs/\Rps r H ds xs
 | .ins C fs=>∃dx fs',H a=some (.ins C dx fs')/\FR r H fs fs'
 | .dct aY=>∃kvs',H a=some (.dT kvs')/\FR r H aY kvs'
 | .dck aY=>∃kvs',H a=some (.dK kvs')/\FR r H aY kvs'
 | .tpl ws=>∃(o:Obj)(bA:Array Value)(n:Nat),K.lookup a=some o/\o.cls=.type "tuple"/\o.data=.seq bA n/\bA.size<=sizeLine/\ZG (ws.map V.str) bA.toList
def V7:Ob->Bool
 | .frz _=>false
 | .tpl _=>false
 | _=>true
structure Ye (K:Fg)(r:List Addr)(S:Sto)(H:Hp):Prop where
 len:r.length=S.length
 ob:∀(n:Nat)(a:Addr)(o:Ob),r[n]?=some a->S[n]?=some o->ObR K r H a o
 nd:∀(n m:Nat)(a:Addr)(o u:Ob),r[n]?=some a->r[m]?=some a->S[n]?=some o->S[m]?=some u->V7 o=true->V7 u=true->n=m
def Zu:Ob->List D
 | .lst ds=>ds
 | .frz ds=>ds
 | _=>[.exc 0]
def Xj:Ob->Option Ob
 | .lst ds=>some (.lst ds)
 | .frz ds=>some (.frz ds)
 | _=>none
def lAt (S:Sto)(n:Nat):Option Ob:=(S[n]?).bind Xj
theorem zdF (h:Xj o=some u):u=o:=by
 cases o<;>simp[Xj] at h<;>exact h.symm
theorem Y7 {S:Sto}{n:Nat}{o:Ob}(h:lAt S n=some o):S[n]?=some o/\Xj o=some o:=by
  unfold lAt at h;cases q:S[n]? with
  | none=>
   rw[q] at h;cases h
  | some u=>
    rw[q] at h;have h':Xj u=some o:=h
    have e:=zdF h';subst e;exact⟨rfl,h'⟩
theorem Z1 {S:Sto}{n:Nat}{o:Ob}(h:S[n]?=some o)(hL:Xj o=some o):lAt S n=some o:=by
 unfold lAt;rw[h];exact hL
section
variable {K:Fg}{r r':List Addr}{S:Sto}{H H':Hp}{n:Nat}{a p:Addr}
theorem Ye.at {o:Ob}(h:Ye K r S H)(e:S[n]?=some o):∃a,r[n]?=some a/\ObR K r H a o:=by
 have hn:n<S.length:=(zF.mp e).1
 have hr:n<r.length:=by rw[h.len];exact hn
 exact⟨r[n],by simp[hr],h.ob n r[n] o (by simp[hr]) e⟩
theorem ObR.list {o:Ob}(h:ObR K r H a o)(hL:Xj o=some o):∃xs,SqL K H a xs/\Rps r H (Zu o) xs:=by
 cases o with
 | lst ds=>obtain⟨xs,e,q⟩:=h;exact⟨xs,SqL.of e,q⟩
 | frz ds=>obtain⟨xs,e,q⟩:=h;exact⟨xs,e.sql,q⟩
 | ins C fs=>cases hL
 | dct aY=>cases hL
 | dck aY=>cases hL
 | tpl ws=>cases hL
theorem ObR.keep {o:Ob}(q:ObR K r H a o)(x:Ext r r' H H')(ha:∀u,H a=some u->H' a=some u):ObR K r' H' a o:=by
 cases o with
 | lst ds=>obtain⟨xs,h3,h4⟩:=q;exact⟨xs,ha _ h3,h4.ext x⟩
 | frz ds=>
  obtain⟨xs,h3,h4⟩:=q;refine⟨xs,?_,h4.ext x⟩;rcases h3 with ⟨o,h3⟩|h3
  ·exact .inl ⟨o,ha _ h3⟩
  ·exact .inr h3
 | ins C fs=>obtain⟨dx,fs',h3,h4⟩:=q;exact⟨dx,fs',ha _ h3,h4.ext x⟩
 | dct aY=>obtain⟨ks,h3,h4⟩:=q;exact⟨ks,ha _ h3,h4.ext x⟩
 | dck aY=>obtain⟨ks,h3,h4⟩:=q;exact⟨ks,ha _ h3,h4.ext x⟩
 | tpl ws=>exact q
theorem ObR.own {o:Ob}(q:ObR K r H a o)(h:V7 o=true):∃u,H a=some u/\(∀xs,u≠HO.tup xs)/\(∀b c,u≠isX b c)/\∀z y,u≠HO.frz z y:=by
 cases o with
 | lst ds=>obtain⟨xs,h3,h4⟩:=q;exact⟨_,h3,(λ_ z=>by cases z),(λ_ _ z=>by cases z),(λ_ _ z=>by cases z)⟩
 | frz ds=>cases h
 | tpl ws=>cases h
 | ins C fs=>obtain⟨dx,fs',h3,h4⟩:=q;exact⟨_,h3,(λ_ z=>by cases z),(λ_ _ z=>by cases z),(λ_ _ z=>by cases z)⟩
 | dct aY=>obtain⟨ks,h3,h4⟩:=q;exact⟨_,h3,(λ_ z=>by cases z),(λ_ _ z=>by cases z),(λ_ _ z=>by cases z)⟩
 | dck aY=>obtain⟨ks,h3,h4⟩:=q;exact⟨_,h3,(λ_ z=>by cases z),(λ_ _ z=>by cases z),(λ_ _ z=>by cases z)⟩
theorem Ye.same (h:Ye K r S H)(e:∀b o,H b=some o->H' b=some o):Ye K r S H':=
 ⟨h.len,λn a o h1 h2=>(h.ob n a o h1 h2).keep ⟨λ_ _ q=>q,λa xs q=>e _ _ q,λa c q=>e _ _ q⟩ (e a),h.nd⟩
theorem Vk {o:HO}(h:H p=none):∀b u,H b=some u->(upd H p o) b=some u:=λb u q=>by rw[Yn (Ui q h)];exact q
theorem MH (e:(r++[p])[n]?=some b):(n<r.length/\r[n]?=some b)\/(n=r.length/\b=p):=by
 by_cases hn:n<r.length
 ·rw[zV hn] at e;exact .inl ⟨hn,e⟩
 ·have hl:n<(r++[p]).length:=(zF.mp e).1
  have en:n=r.length:=by simp at hl;omega
  subst en;rw[yI (zD _)] at e;simp at e;exact .inr ⟨rfl,e.symm⟩
theorem Ye.pushO (h:Ye K r S H)(hp:H p=none)(keep:∀b u,H b=some u->H' b=some u)(q:Ext r (r++[p]) H H'->ObR K (r++[p]) H' p o):Ye K (r++[p]) (S++[o]) H'/\Ext r (r++[p]) H H':=by
 have x:Ext r (r++[p]) H H':=⟨λn a e=>by
  have hn:n<r.length:=(zF.mp e).1;rw[zV hn];exact e,λa ys e=>keep _ _ e,λa c e=>keep _ _ e⟩
 have sS:∀ {n:Nat} {u:Ob},n<r.length->(S++[o])[n]?=some u->S[n]?=some u:=λ{n u} hn e=>by
  rw[zV (by rw[<- h.len];exact hn)] at e;exact e
 refine⟨⟨by simp[h.len],λn a u h1 h2=>?_,λn m a u w h1 h2 h3 h4 o1 o2=>?_⟩,x⟩
 ·rcases MH h1 with ⟨hn,e⟩|⟨rfl,rfl⟩
  ·exact(h.ob n a u e (sS hn h2)).keep x (keep a)
  ·rw[h.len,yI (zD _)] at h2;simp at h2;subst h2;exact q x
 ·rcases MH h1 with ⟨hn,e⟩|⟨rfl,rfl⟩
  ·rcases MH h2 with ⟨hm,e'⟩|⟨rfl,rfl⟩
   ·exact h.nd n m a u w e e' (sS hn h3) (sS hm h4) o1 o2
   ·obtain⟨zs,h5,_⟩:=(h.ob n _ _ e (sS hn h3)).own o1;rw[hp] at h5;cases h5
  ·rcases MH h2 with ⟨hm,e'⟩|⟨rfl,_⟩
   ·obtain⟨zs,h5,_⟩:=(h.ob m _ _ e' (sS hm h4)).own o2;rw[hp] at h5;cases h5
   ·rfl
theorem Ye.push {ds:List D}{xs:List V}(h:Ye K r S H)(hp:H p=none)(q:Rps r H ds xs):Ye K (r++[p]) (S++[.lst ds]) (upd H p (.lst xs))/\Ext r (r++[p]) H (upd H p (.lst xs)):=
 h.pushO hp (Vk hp) λx=>⟨xs,Wj,q.ext x⟩
theorem Ye.setO (h:Ye K r S H)(hn:r[n]?=some a)(hS:S[n]?=some o)(ho:V7 o=true)(ho':V7 o'=true)(q:Ext r r H (upd H a u)->ObR K r (upd H a u) a o'):Ye K r (S.set n o') (upd H a u)/\Ext r r H (upd H a u):=by
 obtain⟨u0,h0,t1,t2,t3⟩:=(h.ob n a _ hn hS).own ho;have x:Ext r r H (upd H a u):=⟨λ_ _ e=>e,λb zs e=>by
  rw[Yn (Hb e h0 (λz=>t1 zs z.symm))];exact e,λb c e=>by
  rw[Yn (Hb e h0 (λz=>t2 b c z.symm))];exact e⟩
 have hlt:n<S.length:=(zF.mp hS).1
 have off:∀ {m:Nat} {w:Ob},m≠n->(S.set n o')[m]?=some w->S[m]?=some w:=λ{m w} hm e=>by
  rw[yM (Ne.symm hm)] at e;exact e
 refine⟨⟨by simp[h.len],λm b w h1 h2=>?_,λm k b w y h1 h2 h3 h4 o1 o2=>?_⟩,x⟩
 ·by_cases hm:m=n
  ·subst hm;rw[hn] at h1;cases h1
   rw[xI hlt] at h2;cases h2;exact q x
  ·have h2':=off hm h2
   have q':=h.ob m b w h1 h2';by_cases hw:V7 w=true
   ·have hb:b≠a:=λz=>hm (by subst z;exact h.nd m n b w o h1 hn h2' hS hw ho)
    exact q'.keep x λz e=>by rw[Yn hb];exact e
   ·cases w with
    | frz es=>
     obtain⟨zs,h3,h4⟩:=q';refine⟨zs,?_,h4.ext x⟩;rcases h3 with ⟨z,h3⟩|h3
     ·exact .inl ⟨z,by rw[Yn (Hb h3 h0 (λy=>t3 _ _ y.symm))];exact h3⟩
     ·exact .inr h3
    | tpl ws=>exact q'
    | _=>exact absurd rfl hw
 ·have back:∀ {j:Nat} {w:Ob},(S.set n o')[j]?=some w->V7 w=true->∃y,S[j]?=some y/\V7 y=true:=λ{j w} e ow=>by
   by_cases hj:j=n
   ·subst hj;exact⟨o,hS,ho⟩
   ·exact⟨w,off hj e,ow⟩
  obtain⟨us',h3',q3⟩:=back h3 o1;obtain⟨ws',h4',q4⟩:=back h4 o2;exact h.nd m k b us' ws' h1 h2 h3' h4' q3 q4
theorem Ye.set {ds ds':List D}{xs:List V}(h:Ye K r S H)(hn:r[n]?=some a)(hS:S[n]?=some (.lst ds))(q:Rps r H ds' xs):Ye K r (S.set n (.lst ds')) (upd H a (.lst xs))/\Ext r r H (upd H a (.lst xs)):=
 h.setO hn hS rfl rfl λx=>⟨xs,Wj,q.ext x⟩
end
def Rs (r:List Addr)(H:Hp)(dl:Ev)(σ:St):Prop:=dl.length=σ.length/\∀(i:Nat)(d:D),dl[i]?=some (some d)->∃v,σ[i]?=some (some v)/\Rp r H d v
theorem Rs.ext {r r':List Addr}{H H':Hp}{dl:Ev}{σ:St}(h:Rs r H dl σ)(e:Ext r r' H H'):Rs r' H' dl σ:=⟨h.1,λi d q=>by
 obtain⟨v,h1,h2⟩:=h.2 i d q;exact⟨v,h1,h2.ext e⟩⟩
theorem Rs.set {r:List Addr}{H:Hp}{dl:Ev}{σ:St}{d:D}{v:V}(i:Nat)(h:Rs r H dl σ)(q:Rp r H d v):Rs r H (dl.set i (some d)) (σ.set i (some v)):=by
 refine⟨by simp[h.1],λj e hj=>?_⟩;by_cases hij:i=j
 ·subst hij;have hl:i<dl.length:=by
   have:=(zF.mp hj).1;simpa using this
  rw[xI hl] at hj;cases hj;exact⟨v,by rw[xI (by rw[<- h.1];exact hl)],q⟩
 ·rw[yM hij] at hj;obtain⟨v',h1,h2⟩:=h.2 j e hj;exact⟨v',by rw[yM hij];exact h1,h2⟩
structure Zx where
 ex:Ev->Addr->Sto->Prop
 w:St->XK
abbrev Zc (ex:Addr->Sto->Prop)(E:XK):Zx:=⟨λ_=>ex,λ_=>E⟩
def UG (K:Fg)(Z:Zx)(r:List Addr)(H:Hp):Prop:=∀(dl:Ev)(σ:St)(c:Addr)(H':Hp)(r':List Addr)(S':Sto),Ext r r' H H'->Rs r' H' dl σ->Ye K r' S' H'->Z.ex dl c S'->Z.w σ (.ref c) none H'
theorem UG.ext {K:Fg}{Z:Zx}{r r':List Addr}{H H':Hp}(h:UG K Z r H)(e:Ext r r' H H'):UG K Z r' H':=λdl σ c H2 r2 S2 x=>h dl σ c H2 r2 S2 (e.trans x)
structure Rel (K:Fg)(Z:Zx)(r:List Addr)(S:Sto)(H:Hp):Prop where
 b:Ye K r S H
 xw:UG K Z r H
section
variable {K:Fg}{Z:Zx}{r r':List Addr}{S:Sto}{H H':Hp}{n:Nat}{a p:Addr}
theorem Rel.len (h:Rel K Z r S H):r.length=S.length:=h.b.len
theorem Rel.at {o:Ob}(h:Rel K Z r S H)(e:S[n]?=some o):∃a,r[n]?=some a/\ObR K r H a o:=h.b.at e
theorem Rel.same (h:Rel K Z r S H)(e:∀b o,H b=some o->H' b=some o):Rel K Z r S H':=⟨h.b.same e,h.xw.ext ⟨λ_ _ q=>q,λa xs q=>e _ _ q,λa c q=>e _ _ q⟩⟩
theorem Rel.push {ds:List D}{xs:List V}(h:Rel K Z r S H)(hp:H p=none)(q:Rps r H ds xs):Rel K Z (r++[p]) (S++[.lst ds]) (upd H p (.lst xs))/\Ext r (r++[p]) H (upd H p (.lst xs)):=by
 obtain⟨h1,h2⟩:=h.b.push hp q;exact⟨⟨h1,h.xw.ext h2⟩,h2⟩
theorem Rel.set {ds ds':List D}{xs:List V}(h:Rel K Z r S H)(hn:r[n]?=some a)(hS:S[n]?=some (.lst ds))(q:Rps r H ds' xs):Rel K Z r (S.set n (.lst ds')) (upd H a (.lst xs))/\Ext r r H (upd H a (.lst xs)):=by
 obtain⟨h1,h2⟩:=h.b.set hn hS q;exact⟨⟨h1,h.xw.ext h2⟩,h2⟩
end
def Ret (K:Fg)(Z:Zx)(r:List Addr)(H:Hp)(Q:DK)(Qv:VK):Prop:=∀v H' r' d S',Ext r r' H H'->Rel K Z r' S' H'->Rp r' H' d v->Q d S'->Qv v H'
theorem Ret.ext {K:Fg}{Z:Zx}{r r':List Addr}{H H':Hp}{Q:DK}{Qv:VK}(h:Ret K Z r H Q Qv)(e:Ext r r' H H'):Ret K Z r' H' Q Qv:=λv H2 r2 d S2 x=>h v H2 r2 d S2 (e.trans x)
def up (K:Fg)(Z:Zx)(t:TDE):TE:=λσ H Qv=>∃r dl S Q,Rs r H dl σ/\Rel K Z r S H/\t dl S Q/\Ret K Z r H Q Qv
def upT (K:Fg)(Z:Zx)(t:TDT):TT:=λσ H Qb=>∃r dl S Q,Rs r H dl σ/\Rel K Z r S H/\t dl S Q/\∀b H' r' S',Ext r r' H H'->Rel K Z r' S' H'->Q b S'->Qb b H'
def upA (K:Fg)(Z:Zx)(t:TDA):TA:=λσ H Qv=>∃r dl S Q,Rs r H dl σ/\Rel K Z r S H/\t dl S Q/\∀vs H' r' ds S',Ext r r' H H'->Rel K Z r' S' H'->Rps r' H' ds vs->Q ds S'->Qv vs H'
structure JG (K:Fg)(Z:Zx)(r:List Addr)(H:Hp)(E:WL)(F:UH):Prop where
 nx:∀σ' H' r' dl' S',Ext r r' H H'->Rs r' H' dl' σ'->Rel K Z r' S' H'->E.nx dl' S'->F.nx σ' H'
 bk:∀σ' H' r' dl' S',Ext r r' H H'->Rs r' H' dl' σ'->Rel K Z r' S' H'->E.bk dl' S'->F.bk σ' H'
 ct:∀σ' H' r' dl' S',Ext r r' H H'->Rs r' H' dl' σ'->Rel K Z r' S' H'->E.ct dl' S'->F.ct σ' H'
 rt:Ret K Z r H E.rt F.rt
theorem JG.ext {K:Fg}{Z:Zx}{r r':List Addr}{H H':Hp}{E:WL}{F:UH}(h:JG K Z r H E F)(e:Ext r r' H H'):JG K Z r' H' E F:=
 ⟨λa b c d f x=>h.nx a b c d f (e.trans x),λa b c d f x=>h.bk a b c d f (e.trans x),λa b c d f x=>h.ct a b c d f (e.trans x),h.rt.ext e⟩
def upS (K:Fg)(Z:Zx)(t:TDS):TS:=λF σ H=>∃r dl S E,Rs r H dl σ/\Rel K Z r S H/\t E dl S/\JG K Z r H E F
def PD (X:Cx)(Z:Zx)(e:Expr)(t:TDE):Prop:=PE X e (up X.K Z t)
def PDT (X:Cx)(Z:Zx)(e:Expr)(t:TDT):Prop:=PT X e (upT X.K Z t)
def PDW (X:Cx)(Z:Zx)(e:Expr)(t:TDT):Prop:=PW X e (upT X.K Z t)
def PDA (X:Cx)(Z:Zx)(es:List Expr)(t:TDA):Prop:=PA X es (upA X.K Z t)
def PDS (X:Cx)(Z:Zx)(st:Stmt)(t:TDS):Prop:=PS X st (upS X.K Z t)
def Wm (X:Cx)(Z:Zx)(st:List Stmt)(t:TDS):Prop:=PSs X st (upS X.K Z t)
section
variable {X:Cx}{Z:Zx}
theorem Yl (h:PE X e t)(f:∀σ H Q,t' σ H Q->t σ H Q):PE X e t':=λaA s σ H Q I q=>h aA s σ H Q I (f σ H Q q)
theorem JM (h:PT X e t)(f:∀σ H Q,t' σ H Q->t σ H Q):PT X e t':=λaA s σ H Q I q=>h aA s σ H Q I (f σ H Q q)
theorem EM (h:PW X e t)(f:∀σ H Q,t' σ H Q->t σ H Q):PW X e t':=λwh aA s σ H Q I q=>h wh aA s σ H Q I (f σ H Q q)
theorem CK (h:PA X e t)(f:∀σ H Q,t' σ H Q->t σ H Q):PA X e t':=λpos aA s σ H Q I q=>h pos aA s σ H Q I (f σ H Q q)
theorem Xq {e:Stmt}{t t':TS}(h:PS X e t)(f:∀F σ H,t' F σ H->t F σ H):PS X e t':=λaA s σ H F I q=>h aA s σ H F I (f F σ H q)
theorem Cb (h:PSs X e t)(f:∀F σ H,t' F σ H->t F σ H):PSs X e t':=λaA s σ H F I q=>h aA s σ H F I (f F σ H q)
theorem PDW.pt (h:PDW X Z e t):PDT X Z e t:=PW.pt h
def WA (i:Nat):TDE:=λdl S Q=>match dl[i]? with
 | some (some d)=>Q d S
 | _=>False
def dC (d:D):TDE:=λ_ S Q=>Q d S
theorem zdx (h:PE X e (tVar i)):PD X Z e (WA i):=Yl h λσ H Qv ⟨r,dl,S,Q,rs,bC,q,ret⟩=>by
 unfold WA at q;split at q
 ·rename_i d e;obtain⟨v,h1,h2⟩:=rs.2 i d e;exact⟨v,h1,ret v H r d S Ext.refl bC h2 q⟩
 ·exact q.elim
theorem dv (i:Nat)(hN:X.N[i]?=some x:=by rfl)(hv:Vis X.env.scope x:=by first|exact Or.inl rfl|exact Or.inr (Or.inl rfl)|exact Or.inr (Or.inr rfl))(hd:(x==("__debug__":Str))=false:=by decide)(hcd:(x==("__classdict__":Str))=false:=by decide):PD X Z (.Name x pos) (WA i):=zdx (Dv hN hv hd hcd)
theorem ND (h:PE X e (tC v))(q:∀r H,Rp r H d v):PD X Z e (dC d):=Yl h λσ H Qv ⟨r,dl,S,Q,rs,bC,h,ret⟩=>ret v H r d S Ext.refl bC (q r H) h
theorem Zd {i j pos}:PD X Z (.Constant (.int i) j pos) (dC (.int i)):=ND zc9 λ_ _=>.int i
theorem XA {b j pos}:PD X Z (.Constant (.bool b) j pos) (dC (.bl b)):=ND pe_bl λ_ _=>.bl b
theorem Wq {j pos}:PD X Z (.Constant .none j pos) (dC .non):=ND C4 λ_ _=>.non
theorem Z6 {x j pos}:PD X Z (.Constant (.str x) j pos) (dC (.str x)):=ND BU λ_ _=>.str x
abbrev W2:=D->D->Sto->DK->Prop
abbrev W1:=D->Sto->DK->Prop
def upO (K:Fg)(Z:Zx)(w:W2):R2:=λx y H Qv=>∃r S dx dy Q,Rel K Z r S H/\Rp r H dx x/\Rp r H dy y/\w dx dy S Q/\Ret K Z r H Q Qv
def upU (K:Fg)(Z:Zx)(w:W1):V->Hp->VK->Prop:=λx H Qv=>∃r S dx Q,Rel K Z r S H/\Rp r H dx x/\w dx S Q/\Ret K Z r H Q Qv
def dOp (w:W2)(ta tb:TDE):TDE:=λdl S Q=>ta dl S λx S1=>tb dl S1 λy S2=>w x y S2 Q
def dUn (w:W1)(ta:TDE):TDE:=λdl S Q=>ta dl S λx S1=>w x S1 Q
variable {a b c:Expr}{ta tb tc:TDE}{pos:Pos}
theorem NH (h:up X.K Z (dOp w ta tb) σ H Qv):tOp (upO X.K Z w) (up X.K Z ta) (up X.K Z tb) σ H Qv:=by
 obtain⟨r,dl,S,Q,rs,bC,h,ret⟩:=h;exact⟨r,dl,S,_,rs,bC,h,λv H1 r1 dx S1 e1 aF p1 h1=>⟨r1,dl,S1,_,rs.ext e1,aF,h1,λv2 H2 r2 dy S2 e2 aG p2 h2=>⟨r2,S2,dx,dy,Q,aG,p1.ext e2,p2,h2,ret.ext (e1.trans e2)⟩⟩⟩
theorem Zf (ho:OpR X (binaryOp op) (upO X.K Z w))(ha:PD X Z a ta)(hb:PD X Z b tb):PD X Z (.BinOp a op b pos) (dOp w ta tb):=Yl (pe_op ho ha hb) λ_ _ _ h=>NH h
theorem W8 (ho:UnR X (unaryOp op) (upU X.K Z w))(ha:PD X Z a ta):PD X Z (.UnaryOp op a pos) (dUn w ta):=Yl (pe_un ho ha) λσ H Qv ⟨r,dl,S,Q,rs,bC,h,ret⟩=>
 ⟨r,dl,S,_,rs,bC,h,λv H1 r1 dx S1 e1 aF p1 h1=>⟨r1,S1,dx,Q,aF,p1,h1,ret.ext e1⟩⟩
theorem Xe (ho:OpR X (compareOp op) (upO X.K Z w))(ha:PD X Z a ta)(hb:PD X Z b tb)(hm:behindInMarks op b=false):PD X Z (.Compare a [op] [b] pos) (dOp w ta tb):=Yl (zcp ho ha hb hm) λ_ _ _ h=>NH h
theorem Tz (h:OpR X f r)(g:∀x y H Q,r' x y H Q->r x y H Q):OpR X f r':=λaA s σ H x y v u Q I rx ry q=>h aA s σ H x y v u Q I rx ry (g x y H Q q)
theorem Ae (h:UnR X f r)(g:∀x H Q,r' x H Q->r x H Q):UnR X f r':=λaA s σ H x v Q I rx q=>h aA s σ H x v Q I rx (g x H Q q)
theorem GG (h:YA X f r)(g:∀x H Q,r' x H Q->r x H Q):YA X f r':=λaA s σ H xs us Q I rx q=>h aA s σ H xs us Q I rx (g xs H Q q)
def wI (C:Int->Int->Prop)(g:Int->Int->D):W2:=λx y S Q=>match x,y with
 | .int i,.int j=>C i j/\Q (g i j) S
 | _,_=>False
def wI0 (g:Int->Int->D):W2:=λx y S Q=>match x,y with
 | .int i,.int j=>Q (g i j) S
 | _,_=>False
theorem opD (h:OpR X f (rI C g))(hg:∀r H i j,Rp r H (g' i j) (g i j)):OpR X f (upO X.K Z (wI C g')):=
 Tz h λx y H Qv ⟨r,S,dx,dy,Q,bC,px,py,q,ret⟩=>by
  cases px<;>cases py<;>first
   | exact⟨_,_,rfl,rfl,q.1,ret _ _ _ _ _ Ext.refl bC (hg _ _ _ _) q.2⟩
   | exact(show False from q).elim
theorem SM (h:OpR X f (rI0 g))(hg:∀r H i j,Rp r H (g' i j) (g i j)):OpR X f (upO X.K Z (wI0 g')):=
 Tz h λx y H Qv ⟨r,S,dx,dy,Q,bC,px,py,q,ret⟩=>by
  cases px<;>cases py<;>first
   | exact⟨_,_,rfl,rfl,ret _ _ _ _ _ Ext.refl bC (hg _ _ _ _) q⟩
   | exact(show False from q).elim
abbrev wAdd:W2:=wI0 λi j=>.int (i+j)
abbrev wSub:W2:=wI0 λi j=>.int (i-j)
abbrev Qw:W2:=wI IntMulOk λi j=>.int (i*j)
def CFd (_ j:Int):Prop:=0<j/\j.natAbs.log2<9000
abbrev wFdiv:W2:=wI CFd λi j=>.int (i/j)
def CFn (_ j:Int):Prop:=j≠0/\j.natAbs.log2<9000
abbrev zcm:W2:=wI CFn λi j=>.int (i.fdiv j)
abbrev wMod:W2:=wI (λ_ j=>0<j) λi j=>.int (i%j)
abbrev wPow:W2:=wI CPow λi j=>.int (i^j.toNat)
theorem ZU:OpR X (binaryOp .Add) (upO X.K Z wAdd):=SM A1 λ_ _ _ _=>.int _
theorem YV:OpR X (binaryOp .Sub) (upO X.K Z wSub):=SM zed λ_ _ _ _=>.int _
theorem ZW:OpR X (binaryOp .Mult) (upO X.K Z Qw):=opD (opI λ_ _ _ _ _ _ _ hc q=>mul_int q hc) λ_ _ _ _=>.int _
theorem XJ:OpR X (binaryOp .FloorDiv) (upO X.K Z wFdiv):=opD (opI λi j _ _ _ _ _ hc q=>floordiv_int (by have h:0<j:=hc.1;omega) (by have h:0<j:=hc.1;rw[xT i (by omega)];exact q) (.inl (PyProof.noPylong_of_log2 hc.2))) λ_ _ _ _=>.int _
theorem DY:OpR X (binaryOp .FloorDiv) (upO X.K Z zcm):=opD (opI λ_ _ _ _ _ _ _ hc q=>floordiv_int hc.1 q (.inl (PyProof.noPylong_of_log2 hc.2))) λ_ _ _ _=>.int _
theorem YO:OpR X (binaryOp .Mod) (upO X.K Z wMod):=opD zdn λ_ _ _ _=>.int _
theorem B5:OpR X (binaryOp .Pow) (upO X.K Z wPow):=opD zbv λ_ _ _ _=>.int _
abbrev wLt:W2:=wI0 λi j=>.bl (decide (i<j))
abbrev wLe:W2:=wI0 λi j=>.bl (decide (i<=j))
abbrev wGt:W2:=wI0 λi j=>.bl (decide (j<i))
abbrev wGe:W2:=wI0 λi j=>.bl (decide (j<=i))
theorem WD:OpR X (compareOp .Lt) (upO X.K Z wLt):=SM op_lt λ_ _ _ _=>.bl _
theorem FW:OpR X (compareOp .LtE) (upO X.K Z wLe):=SM op_le λ_ _ _ _=>.bl _
theorem FJ:OpR X (compareOp .Gt) (upO X.K Z wGt):=SM op_gt λ_ _ _ _=>.bl _
theorem do_ge:OpR X (compareOp .GtE) (upO X.K Z wGe):=SM op_ge λ_ _ _ _=>.bl _
def wNeg:W1:=λx S Q=>match x with
 | .int i=>Q (.int (-i)) S
 | _=>False
theorem Vp:UnR X (unaryOp .USub) (upU X.K Z wNeg):=Ae zdA λx H Qv ⟨r,S,dx,Q,bC,px,q,ret⟩=>by
 cases px<;>first
  | exact⟨_,rfl,ret _ _ _ _ _ Ext.refl bC (.int _) q⟩
  | exact(show False from q).elim
end
def eqF:D->D->Option Bool
 | .non,.non=>some true
 | .bl i,.bl j=>some (i==j)
 | .int i,.int j=>some (decide (i=j))
 | .str i,.str j=>some (decide (i=j))
 | .non,.int _=>some false|.int _,.non=>some false|.non,.bl _=>some false|.bl _,.non=>some false|.non,.str _=>some false|.str _,.non=>some false
 | .int _,.str _=>some false|.str _,.int _=>some false|.bl _,.str _=>some false|.str _,.bl _=>some false
 | _,_=>none
def eqL (f:D->D->Option Bool):List D->List D->Option Bool
 | [],[]=>some true
 | x::xs,y::ys=>match f x y,eqL f xs ys with
  | some b,some c=>some (b&&c)
  | _,_=>none
 | _,_=>some false
def eqT (f:D->D->Option Bool):D->D->Option Bool
 | .tup xs,.tup ys=>eqL f xs ys
 | x,y=>eqF x y
abbrev eq1:D->D->Option Bool:=eqT eqF
abbrev eq2:D->D->Option Bool:=eqT eq1
def VV (n:Nat)(f:D->D->Option Bool):Prop:=∀(X:Cx)(aA:LA)(σ:St)(H:Hp)(s:Shared)(r:List Addr)(A:Around)(dx dy:D)(x y:V)(u v:Value)(b:Bool),
 Inv X aA σ H s->A.units+n<cLine->Rp r H dx x->Rp r H dy y->ZH x u->ZH y v->f dx dy=some b->SeqAt.EqAt A s u v b
def Sy (f:D->D->Option Bool):Prop:=∀(r:List Addr)(H:Hp)(dx dy:D)(x:V)(b:Bool),Rp r H dx x->Rp r H dy x->f dx dy=some b->b=true
theorem Rc:Sy eqF:=by
 intro r H dx dy x b px py e;cases px<;>cases py<;>simp[eqF] at e<;>first|exact e.symm|exact e
theorem Ee (hf:Sy f):∀ {xs ys:List D} {vs:List V} {b:Bool},Rps r H xs vs->Rps r H ys vs->eqL f xs ys=some b->b=true
 | [],[],_,b,_,_,e=>by simp[eqL] at e;exact e
 | [],y::ys,vs,b,p,q,e=>by
  have h1:=p.unnil;subst h1;exact absurd q.1 (by simp)
 | x::xs,[],vs,b,p,q,e=>by
  have h1:=q.unnil;subst h1;exact absurd p.1 (by simp)
 | x::xs,y::ys,vs,b,p,q,e=>by
  obtain⟨v,vs',rfl,p1,p2⟩:=p.uncons;obtain⟨q1,q2⟩:=q.tail;unfold eqL at e;split at e
  ·rename_i b1 c1 e1 e2;have h1:=hf r H x y v b1 p1 q1 e1
   have h2:=Ee hf p2 q2 e2;subst h1;subst h2
   simp at e;exact e
  ·cases e
theorem Ex (hf:Sy f):Sy (eqT f):=by
 intro r H dx dy x b px py e;cases px with
 | tup e1 l1 f1=>
  cases py with
  | tup e2 l2 f2=>
   rw[e1] at e2;cases e2
   exact Ee hf ⟨l1,f1⟩ ⟨l2,f2⟩ e
  | ref h=>simp[eqT,eqF] at e
  | exc h=>simp[eqT,eqF] at e
 | non=>exact Rc r H _ _ _ b .non py (by cases py<;>exact e)
 | bl i=>exact Rc r H _ _ _ b (.bl i) py (by cases py<;>exact e)
 | int i=>exact Rc r H _ _ _ b (.int i) py (by cases py<;>exact e)
 | str i=>exact Rc r H _ _ _ b (.str i) py (by cases py<;>exact e)
 | ref h=>cases py<;>simp[eqT,eqF] at e
 | exc h=>cases py<;>simp[eqT,eqF] at e
theorem Jg (n:Nat):VV n eqF:=by
 intro X aA σ H s r A dx dy x y u v b I hu px py rx ry e;have bB:∀ {x y:V},ZH x u->ZH y v->Ic x=true->Ic y=true->eqV x y=b->SeqAt.EqAt A s u v b:=λrx ry fx fy e'=>by
  subst e';exact C5 rx ry fx fy
 cases px<;>cases py<;>simp[eqF] at e<;>refine bB rx ry rfl rfl ?_<;>simp[eqV,e]<;>first|exact e|(subst e;simp)|skip
theorem TH (I:Inv X aA σ H s)(h:H a=some (.tup xs)):∃bA:List Value,ZG xs bA/\IsTup s.heap a bA.toArray/\xs.length<=sizeLine:=I.tuple (SqT.of h)
def Vc (f:D->D->Option Bool)(xs ys:List D)(j:Nat):Bool:=match xs[j]?,ys[j]? with
 | some x,some y=>(f x y).getD false
 | _,_=>false
theorem E7:∀ {xs ys:List D} {b:Bool},eqL f xs ys=some b->(∀(j:Nat)(x y:D),xs[j]?=some x->ys[j]?=some y->∃c,f x y=some c)/\((List.range (min xs.length ys.length)).all (Vc f xs ys)&&xs.length==ys.length)=b
 | [],[],b,e=>by simp[eqL] at e;subst e;simp
 | [],y::ys,b,e=>by simp[eqL] at e;subst e;simp
 | x::xs,[],b,e=>by simp[eqL] at e;subst e;simp
 | x::xs,y::ys,b,e=>by
  unfold eqL at e;split at e
  ·rename_i b1 c1 e1 e2;obtain⟨h1,h2⟩:=E7 e2;refine⟨λj p q hp hq=>?_,?_⟩
   ·cases j with
    | zero=>simp at hp hq;subst hp;subst hq;exact⟨b1,e1⟩
    | succ j=>exact h1 j p q (by simpa using hp) (by simpa using hq)
   ·have z:min (x::xs).length (y::ys).length=min xs.length ys.length+1:=by simp[Nat.succ_min_succ]
    rw[z,List.range_succ_eq_map,List.all_cons,List.all_map];have e0:Vc f (x::xs) (y::ys) 0=b1:=by simp[Vc,e1]
    have es:(Vc f (x::xs) (y::ys) ∘ Nat.succ)=Vc f xs ys:=by funext j;simp[Vc]
    rw[e0,es];have e3:((x::xs).length==(y::ys).length)=(xs.length==ys.length):=by simp
    rw[e3,Bool.and_assoc,h2];simp at e;exact e
  ·cases e
theorem Hr {n:Nat}{f:D->D->Option Bool}(hf:VV n f){X:Cx}{aA:LA}{σ:St}{H:Hp}{s:Shared}{r:List Addr}{A:Around}{xs ys:List D}{us vs:List V}{is js:List Value}{b:Bool}
  (I:Inv X aA σ H s)(hu:A.units+n<cLine)(p:Rps r H xs us)(q:Rps r H ys vs)(ri:ZG us is)(rj:ZG vs js)(e:eqL f xs ys=some b):
  (∀j (h1:j<is.toArray.size) (h2:j<js.toArray.size),SeqAt.EqAt A s is.toArray[j] js.toArray[j] (Vc f xs ys j))/\((List.range (min is.toArray.size js.toArray.size)).all (Vc f xs ys)&&is.toArray.size==js.toArray.size)=b:=by
 obtain⟨h1,h2⟩:=E7 e;have l1:is.toArray.size=xs.length:=by rw[zS,<- ri.length,p.1]
 have l2:js.toArray.size=ys.length:=by rw[zS,<- rj.length,q.1]
 refine⟨λj hj1 hj2=>?_,by rw[l1,l2];exact h2⟩;have k1:j<xs.length:=by omega
 have k2:j<ys.length:=by omega
 have g1:xs[j]?=some xs[j]:=by simp[k1]
 have g2:ys[j]?=some ys[j]:=by simp[k2]
 obtain⟨x,gx,px⟩:=p.get g1;obtain⟨y,gy,py⟩:=q.get g2;obtain⟨u,gu,ru⟩:=ri.get gx;obtain⟨v,gv,rv⟩:=rj.get gy;obtain⟨c,hc⟩:=h1 j _ _ g1 g2;have eu:is.toArray[j]=u:=by
  have z:=zF.mp gu;simpa using z.2
 have ev:js.toArray[j]=v:=by
  have z:=zF.mp gv;simpa using z.2
 have ec:Vc f xs ys j=c:=by simp[Vc,g1,g2,hc]
 rw[eu,ev,ec];exact hf X aA σ H s r A _ _ x y u v c I hu px py ru rv hc
theorem DW (hf:VV n f)(hs:Sy f):VV (n+1) (eqT f):=by
 intro X aA σ H s r A dx dy x y u v b I hu px py rx ry e;have flat:∀ {dx dy:D} {x y:V},Rp r H dx x->Rp r H dy y->ZH x u->ZH y v->eqF dx dy=some b->SeqAt.EqAt A s u v b:=λpx py rx ry e=>Jg (n+1) X aA σ H s r A _ _ _ _ u v b I hu px py rx ry e
 cases px with
 | @tup ds xs a e1 l1 f1=>
  cases py with
  | @tup es ys a' e2 l2 f2=>
   cases rx;cases ry;by_cases z:a=a'
   ·subst z;have hb:=Ex hs r H _ _ _ b (.tup e1 l1 f1) (.tup e2 l2 f2) e;subst hb;exact SeqAt.EqAt.same _
   ·obtain⟨is,ri,ti,_⟩:=TH I e1;obtain⟨js,rj,tj,_⟩:=TH I e2;obtain⟨g1,g2⟩:=Hr (A:=A.in1) hf I (by show A.units+1+n<_;omega) ⟨l1,f1⟩ ⟨l2,f2⟩ ri rj e;have q:=SeqAt.RcAt.tuples (A:=A) ti tj (by omega) g1;rw[g2] at q;exact SeqAt.EqAt.of_refs z q
  | ref h=>simp[eqT,eqF] at e
  | _=>simp[eqT,eqF] at e
 | non=>exact flat .non py rx ry (by cases py<;>exact e)
 | bl i=>exact flat (.bl i) py rx ry (by cases py<;>exact e)
 | int i=>exact flat (.int i) py rx ry (by cases py<;>exact e)
 | str i=>exact flat (.str i) py rx ry (by cases py<;>exact e)
 | ref h=>cases py<;>simp[eqT,eqF] at e
 | exc h=>cases py<;>simp[eqT,eqF] at e
theorem DE (n:Nat):VV (n+1) eq1:=DW (Jg n) Rc
def wEq (f:D->D->Option Bool):W2:=λx y S Q=>match f x y with
 | some b=>Q (.bl b) S
 | none=>False
def wNe (f:D->D->Option Bool):W2:=λx y S Q=>match f x y with
 | some b=>Q (.bl (!b)) S
 | none=>False
section
variable {X:Cx}{Z:Zx}
theorem EO (px:Rp r H dx x)(py:Rp r H dy y)(e:eqF dx dy=some b):Mb x y=true/\decide (x=y)=b:=by
 cases px<;>cases py<;>simp[eqF] at e<;>simp[Mb]<;>first|exact e|(subst e;simp)|skip
theorem Hh (hf:VV n f)(hu:X.A.units+1+n<cLine):OpR X (compareOp .Eq) (upO X.K Z (wEq (eqT f))):=by
 intro aA s σ H x y v u Qv I rx ry h;obtain⟨r,S,dx,dy,Q,bC,px,py,q,ret⟩:=h;unfold wEq at q;split at q
 ·rename_i b e;have flat:∀ {dx dy:D} {x y:V},Rp r H dx x->Rp r H dy y->ZH x v->ZH y u->eqF dx dy=some b->wpAny (model X.prog X.w) X.A (compareOp .Eq v u) (EP X aA σ Qv) X.xe s:=λpx py rx ry e=>by
   obtain⟨h1,h2⟩:=EO px py e;refine GF aA s σ H _ _ v u Qv I rx ry ⟨h1,?_⟩;rw[h2];exact ret _ _ _ _ _ Ext.refl bC (.bl b) q
  cases px with
  | @tup ds xs a e1 l1 f1=>
   cases py with
   | @tup es ys a' e2 l2 f2=>
    cases rx;cases ry;obtain⟨is,ri,ti,_⟩:=TH I e1;obtain⟨js,rj,tj,_⟩:=TH I e2;obtain⟨g1,g2⟩:=Hr (A:=X.A.in1) hf I (by show X.A.units+1+n<_;omega) ⟨l1,f1⟩ ⟨l2,f2⟩ ri rj e;refine SeqAt.eq_tupleAt (A:=X.A) ti tj (by omega) g1 ?_;rw[g2];exact⟨.bl b,H,I,rfl,ret _ _ _ _ _ Ext.refl bC (.bl b) q⟩
   | _=>simp[eqT,eqF] at e
  | non=>exact flat .non py rx ry (by cases py<;>exact e)
  | bl i=>exact flat (.bl i) py rx ry (by cases py<;>exact e)
  | int i=>exact flat (.int i) py rx ry (by cases py<;>exact e)
  | str i=>exact flat (.str i) py rx ry (by cases py<;>exact e)
  | ref h=>cases py<;>simp[eqT,eqF] at e
  | exc h=>cases py<;>simp[eqT,eqF] at e
 ·exact q.elim
theorem zaK (hf:VV n f)(hu:X.A.units+1+n<cLine):OpR X (compareOp .NotEq) (upO X.K Z (wNe (eqT f))):=by
 intro aA s σ H x y v u Qv I rx ry h;obtain⟨r,S,dx,dy,Q,bC,px,py,q,ret⟩:=h;unfold wNe at q;split at q
 ·rename_i b e;have flat:∀ {dx dy:D} {x y:V},Rp r H dx x->Rp r H dy y->ZH x v->ZH y u->eqF dx dy=some b->wpAny (model X.prog X.w) X.A (compareOp .NotEq v u) (EP X aA σ Qv) X.xe s:=λpx py rx ry e=>by
   obtain⟨h1,h2⟩:=EO px py e;refine op_ne aA s σ H _ _ v u Qv I rx ry ⟨h1,?_⟩;rw[h2];exact ret _ _ _ _ _ Ext.refl bC (.bl (!b)) q
  cases px with
  | @tup ds xs a e1 l1 f1=>
   cases py with
   | @tup es ys a' e2 l2 f2=>
    cases rx;cases ry;obtain⟨is,ri,ti,_⟩:=TH I e1;obtain⟨js,rj,tj,_⟩:=TH I e2;obtain⟨g1,g2⟩:=Hr (A:=X.A.in1) hf I (by show X.A.units+1+n<_;omega) ⟨l1,f1⟩ ⟨l2,f2⟩ ri rj e;refine SeqAt.RcNeAt.tuples (A:=X.A) ti tj (by omega) g1 X.prog X.w _ _ ?_;rw[g2];exact⟨.bl (!b),H,I,rfl,ret _ _ _ _ _ Ext.refl bC (.bl (!b)) q⟩
   | _=>simp[eqT,eqF] at e
  | non=>exact flat .non py rx ry (by cases py<;>exact e)
  | bl i=>exact flat (.bl i) py rx ry (by cases py<;>exact e)
  | int i=>exact flat (.int i) py rx ry (by cases py<;>exact e)
  | str i=>exact flat (.str i) py rx ry (by cases py<;>exact e)
  | ref h=>cases py<;>simp[eqT,eqF] at e
  | exc h=>cases py<;>simp[eqT,eqF] at e
 ·exact q.elim
theorem ZY (hr:Z3 k X.A):OpR X (compareOp .Eq) (upO X.K Z (wEq eq2)):=Hh (DE 0) (by have:=hr.un;omega)
theorem Ul (hr:Z3 k X.A):OpR X (compareOp .NotEq) (upO X.K Z (wNe eq2)):=zaK (DE 0) (by have:=hr.un;omega)
end
section
variable {X:Cx}{Z:Zx}{a b c:Expr}{ta tb tc:TDE}{pos:Pos}{Yz:List Expr}
def Gv (t:TDE):TDT:=λdl S Q=>t dl S λd S'=>match d with
 | .bl k=>Q k S'
 | _=>False
theorem IG {K:Fg}{Z:Zx}{r:List Addr}{H:Hp}{Q:Bool->Sto->Prop}{Qb:Bool->Hp->Prop}(h:∀b H' r' S',Ext r r' H H'->Rel K Z r' S' H'->Q b S'->Qb b H'):
  Ret K Z r H (λd S'=>match d with|.bl k=>Q k S'|_=>False) (λx H'=>∃k,x=.bl k/\Qb k H'):=λv H' r' d S' e bC p q=>by
 cases p with
 | bl k=>exact⟨k,rfl,h k H' r' S' e bC q⟩
 | _=>exact(show False from q).elim
theorem ZN {op:CmpOp}{w:W2}(ho:OpR X (compareOp op) (upO X.K Z w))(ha:PD X Z a ta)(hb:PD X Z b tb)(hm:behindInMarks op b=false):PDT X Z (.Compare a [op] [b] pos) (Gv (dOp w ta tb)):=
 JM (Bw ho ha hb hm) λσ H Qb ⟨r,dl,S,Q,rs,bC,h,ret⟩=>NH ⟨r,dl,S,_,rs,bC,h,IG ret⟩
theorem Y5 {e:Expr}{t:TDE}(h:PD X Z e t)(he:∀aV,isTrue e X.env aV=(do let v <- aV;standAt e.pos;holding [v] (truthy v)):=by intro _;rfl):PDT X Z e (Gv t):=
 JM (zar h he) λσ H Qb ⟨r,dl,S,Q,rs,bC,h,ret⟩=>⟨r,dl,S,_,rs,bC,h,IG ret⟩
def dNot (t:TDT):TDT:=λdl S Q=>t dl S λk S'=>Q (!k) S'
theorem XF (ha:PDT X Z a t):PDT X Z (.UnaryOp .Not a pos) (dNot t):=
 JM (zew ha) λσ H Qb ⟨r,dl,S,Q,rs,bC,h,ret⟩=>⟨r,dl,S,_,rs,bC,h,λk H' r' S' e rel' q=>ret (!k) H' r' S' e rel' q⟩
def dAnd (t u:TDT):TDT:=λdl S Q=>t dl S λk S1=>if k=true then u dl S1 Q else Q false S1
def dOr (t u:TDT):TDT:=λdl S Q=>t dl S λk S1=>if k=true then Q true S1 else u dl S1 Q
theorem FF (ha:PDT X Z a t):PDW X Z (.BoolOp .And [a] pos) t:=zeb ha
theorem Uu (ha:PDT X Z a t):PDW X Z (.BoolOp .Or [a] pos) t:=zaf ha
theorem F3 (ha:PDT X Z a t)(hb:PDW X Z (.BoolOp .And (b::Yz) pos) u):PDW X Z (.BoolOp .And (a::b::Yz) pos) (dAnd t u):=
 EM (zcw ha hb) λσ H Qb ⟨r,dl,S,Q,rs,bC,h,ret⟩=>⟨r,dl,S,_,rs,bC,h,λk H1 r1 S1 e1 aF q1=>by
  cases k with
  | true=>exact Xf ⟨r1,dl,S1,Q,rs.ext e1,aF,(by simpa using q1),λk' H2 r2 S2 e2=>ret k' H2 r2 S2 (e1.trans e2)⟩
  | false=>exact YF (ret false H1 r1 S1 e1 aF (by simpa using q1))⟩
theorem VN (ha:PDT X Z a t)(hb:PDW X Z (.BoolOp .Or (b::Yz) pos) u):PDW X Z (.BoolOp .Or (a::b::Yz) pos) (dOr t u):=
 EM (pw_or ha hb) λσ H Qb ⟨r,dl,S,Q,rs,bC,h,ret⟩=>⟨r,dl,S,_,rs,bC,h,λk H1 r1 S1 e1 aF q1=>by
  cases k with
  | true=>exact Xf (ret true H1 r1 S1 e1 aF (by simpa using q1))
  | false=>exact YF ⟨r1,dl,S1,Q,rs.ext e1,aF,(by simpa using q1),λk' H2 r2 S2 e2=>ret k' H2 r2 S2 (e1.trans e2)⟩⟩
def dAndV (ta tb:TDE):TDE:=λdl S Q=>ta dl S λx S1=>match x with
 | .bl k=>if k=true then tb dl S1 Q else Q (.bl false) S1
 | _=>False
def dNotV (ta:TDE):TDE:=λdl S Q=>ta dl S λx S1=>match x with
 | .bl k=>Q (.bl (!k)) S1
 | _=>False
theorem SD {op}(h:PD X Z a t):PD X Z (.BoolOp op [a] pos) t:=zaM h
theorem US (ha:PD X Z a ta)(hb:PD X Z (.BoolOp .And (b::Yz) pos) tb):PD X Z (.BoolOp .And (a::b::Yz) pos) (dAndV ta tb):=
 Yl (zeE ha hb) λσ H Qv ⟨r,dl,S,Q,rs,bC,h,ret⟩=>⟨r,dl,S,_,rs,bC,h,λv H1 r1 d S1 e1 aF p q1=>by
  cases p with
  | bl k=>
   refine⟨k,rfl,?_⟩;cases k with
   | true=>exact Xf ⟨r1,dl,S1,Q,rs.ext e1,aF,(by simpa using q1),ret.ext e1⟩
   | false=>exact YF (ret _ H1 r1 (.bl false) S1 e1 aF (.bl false) (by simpa using q1))
  | _=>exact(show False from q1).elim⟩
theorem BD (ha:PD X Z a ta):PD X Z (.UnaryOp .Not a pos) (dNotV ta):=
 Yl (zaI ha) λσ H Qv ⟨r,dl,S,Q,rs,bC,h,ret⟩=>⟨r,dl,S,_,rs,bC,h,λv H1 r1 d S1 e1 aF p q1=>by
  cases p with
  | bl k=>exact⟨k,rfl,ret _ H1 r1 (.bl (!k)) S1 e1 aF (.bl (!k)) q1⟩
  | _=>exact(show False from q1).elim⟩
def dIfE (t:TDT)(ta tb:TDE):TDE:=λdl S Q=>t dl S λk S1=>if k=true then ta dl S1 Q else tb dl S1 Q
theorem Iy (hc:PDT X Z c t)(ha:PD X Z a ta)(hb:PD X Z b tb):PD X Z (.IfExp c a b pos) (dIfE t ta tb):=
 Yl (Ad hc ha hb) λσ H Qv ⟨r,dl,S,Q,rs,bC,h,ret⟩=>⟨r,dl,S,_,rs,bC,h,λk H1 r1 S1 e1 aF q1=>by
  cases k with
  | true=>exact Xf ⟨r1,dl,S1,Q,rs.ext e1,aF,(by simpa using q1),ret.ext e1⟩
  | false=>exact YF ⟨r1,dl,S1,Q,rs.ext e1,aF,(by simpa using q1),ret.ext e1⟩⟩
def Cg (w w':W2)(ta tb tc:TDE):TDE:=λdl S Q=>ta dl S λx S1=>tb dl S1 λy S2=>w x y S2 λz S3=>match z with
 | .bl k=>if k=true then tc dl S3 λu S4=>w' y u S4 Q else Q (.bl false) S3
 | _=>False
theorem zaw (h:up X.K Z (Cg w w' ta tb tc) σ H Qv):Cs (upO X.K Z w) (upO X.K Z w') (up X.K Z ta) (up X.K Z tb) (up X.K Z tc) σ H Qv:=by
 obtain⟨r,dl,S,Q,rs,bC,h,ret⟩:=h;refine⟨r,dl,S,_,rs,bC,h,λv H1 r1 dx S1 e1 aF p1 h1=>⟨r1,dl,S1,_,rs.ext e1,aF,h1,λv2 H2 r2 dy S2 e2 aG p2 h2=>⟨r2,S2,dx,dy,_,aG,p1.ext e2,p2,h2,λv3 H3 r3 dz S3 e3 aH p3 h3=>?_⟩⟩⟩;cases p3 with
 | bl k=>
  refine⟨k,rfl,?_⟩;cases k with
  | true=>exact Xf ⟨r3,dl,S3,_,rs.ext (e1.trans (e2.trans e3)),aH,(by simpa using h3),λv4 H4 r4 du S4 e4 aJ p4 h4=>⟨r4,S4,dy,du,Q,aJ,(p2.ext e3).ext e4,p4,h4,ret.ext (e1.trans (e2.trans (e3.trans e4)))⟩⟩
  | false=>exact YF (ret _ H3 r3 (.bl false) S3 (e1.trans (e2.trans e3)) aH (.bl false) (by simpa using h3))
 | _=>exact(show False from h3).elim
theorem Ew {op op':CmpOp}{w w':W2}(ho:OpR X (compareOp op) (upO X.K Z w))(ho':OpR X (compareOp op') (upO X.K Z w'))(ha:PD X Z a ta)(hb:PD X Z b tb)(hc:PD X Z c tc)
  (hm:lastMarks [op,op'] [b,c]=false:=by with_unfolding_all rfl):PDT X Z (.Compare a [op,op'] [b,c] pos) (Gv (Cg w w' ta tb tc)):=
 JM (zc8 ho ho' ha hb hc hm) λσ H Qb ⟨r,dl,S,Q,rs,bC,h,ret⟩=>zaw ⟨r,dl,S,_,rs,bC,h,IG ret⟩
def GL:D->Bool
 | .non=>true
 | _=>false
def wIsN:W2:=λx y S Q=>match y with
 | .non=>Q (.bl (GL x)) S
 | _=>False
theorem zc3 (p:Rp r H d x):decide (x=.non)=GL d:=by
 cases p<;>simp[GL]
theorem JP:OpR X (compareOp .Is) (upO X.K Z wIsN):=Tz zcc λx y H Qv ⟨r,S,dx,dy,Q,bC,px,py,q,ret⟩=>by
 cases py with
 | non=>exact⟨rfl,by rw[zc3 px];exact ret _ _ _ _ _ Ext.refl bC (.bl _) q⟩
 | _=>exact(show False from q).elim
variable {e:Expr}{es:List Expr}
def dNil:TDA:=λ_ S Q=>Q [] S
def Dz (ta:TDE)(tr:TDA):TDA:=λdl S Q=>ta dl S λx S1=>tr dl S1 λxs S2=>Q (x::xs) S2
theorem Ze:PDA X Z [] dNil:=CK Ph λσ H Qv ⟨r,dl,S,Q,rs,bC,h,ret⟩=>ret [] H r [] S Ext.refl bC Rps.nil h
theorem Za (ha:PD X Z e te)(hr:PDA X Z es t)(hs:starEach (e::es) X.env=(false,eval e X.env)::starEach es X.env:=by rfl):PDA X Z (e::es) (Dz te t):=
 CK (V8 ha hr hs) λσ H Qv ⟨r,dl,S,Q,rs,bC,h,ret⟩=>⟨r,dl,S,_,rs,bC,h,λv H1 r1 d S1 e1 aF p1 h1=>⟨r1,dl,S1,_,rs.ext e1,aF,h1,λvs H2 r2 ds S2 e2 aG p2 h2=>
  ret (v::vs) H2 r2 (d::ds) S2 (e1.trans e2) aG (Rps.cons (p1.ext e2) p2) h2⟩⟩
def dTup (t:TDA):TDE:=λdl S Q=>t dl S λds S1=>if ds.length<=1000 then Q (.tup ds) S1 else False
def dLst (t:TDA):TDE:=λdl S Q=>t dl S λds S1=>if ds.length<=1000 then Q (.ref S1.length) (S1++[.lst ds]) else False
theorem KR [Decidable p] (h:if p then A else False):p/\A:=by
 split at h
 ·exact⟨by assumption,h⟩
 ·exact h.elim
theorem Uj (h:n<=1000):n<=sizeLine:=yY (Rx h)
theorem ZX {x1}(h:PDA X Z es t):PD X Z (.Tuple es x1 pos) (dTup t):=
 Yl (zcr h) λσ H Qv ⟨r,dl,S,Q,rs,bC,h,ret⟩=>⟨r,dl,S,_,rs,bC,h,λvs H1 r1 ds S1 e1 aF p1 h1=>by
  obtain⟨hl,h1⟩:=KR h1;refine⟨by rw[<- p1.1];exact Uj hl,λp hp=>?_⟩;have x:Ext r1 r1 H1 (upd H1 p (.tup vs)):=⟨λ_ _ q=>q,λa xs q=>Vk hp _ _ q,λa c q=>Vk hp _ _ q⟩;exact ret _ _ r1 (.tup ds) S1 (e1.trans x) (aF.same (Vk hp)) ((p1.ext x).tupR Wj) h1⟩
theorem Ue (h:r.length=n):Rp (r++[p]) H (.ref n) (.ref p):=.ref (by subst h;simp)
theorem Y1 (h:PDA X Z es t):PD X Z (.List es pos) (dLst t):=
 Yl (AD h) λσ H Qv ⟨r,dl,S,Q,rs,bC,h,ret⟩=>⟨r,dl,S,_,rs,bC,h,λvs H1 r1 ds S1 e1 aF p1 h1=>by
  obtain⟨hl,h1⟩:=KR h1;refine⟨by rw[<- p1.1];exact Uj hl,λp hp=>?_⟩;obtain⟨aG,x⟩:=aF.push hp p1;exact ret _ _ _ (.ref S1.length) _ (e1.trans x) aG (Ue aF.len) h1⟩
def wIx:W2:=λx y S Q=>match x,y with
 | .tup xs,.int i=>match atI xs i with
  | some d=>Q d S
  | none=>False
 | .ref n,.int i=>match lAt S n with
  | some o=>match atI (Zu o) i with
   | some d=>Q d S
   | none=>False
  | none=>False
 | _,_=>False
theorem DQ {r:List Addr}{H:Hp}{ds:List D}{vs:List V}{i:Int}{d:D}(h:Rps r H ds vs)(e:atI ds i=some d):∃v,atI vs i=some v/\Rp r H d v:=by
  unfold atI at e ⊢;rw[<- h.1];cases q:ixN ds.length i with
  | none=>
   rw[q] at e;cases e
  | some j=>
    rw[q] at e;exact h.get e
theorem do_ix:IxR X (upO X.K Z wIx):=by
 intro value slice aA s σ H x y v u Qv I rx ry h hs;obtain⟨r,S,dx,dy,Q,bC,px,py,q,ret⟩:=h;cases px with
 | @tup ds xs a e1 l1 f1=>
  cases py with
  | int i=>
   have q':(match atI ds i with|some d=>Q d S|none=>False):=q;split at q'
   ·rename_i d e;obtain⟨w,hw,pw⟩:=DQ ⟨l1,f1⟩ e;exact zdd value slice aA s σ H _ _ v u Qv I rx ry ⟨a,xs,i,w,rfl,rfl,SqT.of e1,hw,ret w H r d S Ext.refl bC pw q'⟩ hs
   ·exact q'.elim
  | _=>exact(show False from q).elim
 | @ref n a e1=>
  cases py with
  | int i=>
   have q':(match lAt S n with|some o=>(match atI (Zu o) i with|some d=>Q d S|none=>False)|none=>False):=q;split at q'
   ·rename_i o eo;obtain⟨eo,eL⟩:=Y7 eo;obtain⟨a',ha,ob⟩:=bC.at eo;rw[e1] at ha;cases ha
    obtain⟨xs,sq,pr⟩:=ob.list eL;split at q'
    ·rename_i d e;obtain⟨w,hw,pw⟩:=DQ pr e;exact zag value slice aA s σ H _ _ v u Qv I rx ry ⟨a,xs,i,w,rfl,rfl,sq,hw,ret w H r d S Ext.refl bC pw q'⟩ hs
    ·exact q'.elim
   ·exact q'.elim
  | _=>exact(show False from q).elim
 | _=>exact(show False from q).elim
theorem Eo (ha:PD X Z a ta)(hb:PD X Z b tb)(hs:QN b):PD X Z (.Subscript a b pos) (dOp wIx ta tb):=Yl (pe_ix do_ix ha hb hs) λ_ _ _ h=>NH h
theorem Zk (ha:PD X Z a ta)(hb:PD X Z b tb)(hs:QN b:=by exact λ_ _=>rfl):PD X Z (.Subscript a b pos) (dOp wIx ta tb):=Eo ha hb hs
end
structure Bk (fs:List Addr)(H H':Hp)(B h:Heap)(ea:Addr):Prop where
 trk:∀b u,H' b=some u->∃o,B.get? b=some o
 old:∀b o,h.get? b=some o->H b=none->b ∉ fs->B.get? b=some o
 all:∀b o,h.get? b=some o->b ∉ fs->∃o',B.get? b=some o'
 new:H' ea=none
def CXE (P:Program)(w:World):CXT:=λouter H s E e s'=>∃(ea c:Addr)(a0:Value)(B:Heap)(H':Hp),e=.ref ea/\s'.os=s.os/\AllBare s'.gens/\Un (frs outer) [] H H' s.heap s'.heap/\HOk P w H' s'.heap/\
 Heap.FlyingW B outer ea (.ref c) a0 s'.heap/\Bk (frs outer) H H' B s.heap ea/\E (.ref c) none H'
section
variable {P:Program}{w:World}{K:Fg}{mg:Str->Option Value}{base:Heap}{N:List Str}{aL:Str}{scope:Scope}{f:Addr}{cdv:Value}{A:Around}{outer:List Env}{s0:Shared}{H0:Hp}{E:XK}
end
abbrev WC:=List D->Sto->DK->Prop
abbrev Sd:=List D->Sto->DK->(Addr->Sto->Prop)->Prop
def upC (K:Fg)(Z:Zx)(w:WC):List V->Hp->VK->Prop:=λxs H Qv=>∃r S ds Q,Rel K Z r S H/\Rps r H ds xs/\w ds S Q/\Ret K Z r H Q Qv
def upF (K:Fg)(sd:Sd):Sp:=λvs H Qv E=>∃ex:Addr->Sto->Prop,upC K (Zc ex E) (λds S Q=>sd ds S Q ex) vs H Qv
def MI (w:WC)(t:TDA):TDE:=λdl S Q=>t dl S λds S1=>w ds S1 Q
def Hv (ex:Ev->Addr->Sto->Prop)(sd:Sd)(t:TDA):TDE:=λdl S Q=>t dl S λds S1=>sd ds S1 Q (ex dl)
def VD (X:Cx)(W:St->XK):Prop:=∀(aA:LA)(σ:St)(H:Hp)(s:Shared)(e:Value)(s':Shared),Inv X aA σ H s->CXE X.prog X.w X.stack H s (W σ) e s'->X.xe e s'
section
variable {X:Cx}{k:Nat}{f:Addr}{fd:FuncData}{ps:List Str}{sp:Sp}{W:St->XK}{x:Str}{p pos:Pos}{e:Expr}{es:List Expr}{t:TA}
theorem Fz (F:Yo X.prog X.w X.K X.mg X.base (CXE X.prog X.w) k f fd ps sp)(hr:Z3 k X.A)(hb:Xv X.K fd ps [])(hx:VD X W)(I:Inv X aA σ H s)(r:ZG vs us)(h:sp vs H Q (W σ)):wpAny (model X.prog X.w) X.A (call (.ref f) us) (EP X aA σ Q) X.xe s:=by
 have hl:us.length=ps.length:=by rw[<- r.length];exact F.len _ _ _ _ h
 have hb':=hb s us I.kIn (by rw[yZ];exact hl);rw[yZ] at hb';refine wpAny_call (codeAny_mono (F.run X.A X.stack s H ⟨us,[]⟩ us vs Q (W σ) hr I.env0 hb' r h) λz s' hq=>?_);cases z with
 | error ev=>exact hx aA σ H s ev s' I hq
 | ok fl=>
  cases fl with
  | ret u=>exact I.after hq
  | _=>exact False.elim hq
theorem za3 (F:Yo X.prog X.w X.K X.mg X.base (CXE X.prog X.w) k f fd ps sp)(hr:Z3 k X.A)(hg:Gl X x)(hm:X.mg x=some (.ref f))(hk:PySem.W.keepIn X.K (.ref f)=true)(hb:Xv X.K fd ps [])(hx:VD X W)
  (ha:PA X (e::es) t)(hdb:(x==("__debug__":Str))=false)(he:starEach (e::es) X.env=(false,eval e X.env)::starEach es X.env)(hpl:(backTo pos (starEach es X.env)).any (·.1)=false):
  PE X (.Call (.Name x p) (e::es) [] pos) (λσ H Q=>t σ H λvs H1=>sp vs H1 Q (W σ)):=by
 intro aA s σ H Q I h;refine wpAny_Call_Name_kw (DJ I hg hm ?_ hdb);exact PySem.W.callWith_K (h₀:=X.base) I.ok.mod.kin hk (thn (ha pos aA s σ H _ I h) λus s1 ⟨vs,H1,I1,r,q⟩=>⟨I1.kIn,Fz F hr hb hx I1 r q⟩) he hpl
end
section
variable {X:Cx}{Z:Zx}{x:Str}{p pos:Pos}{e:Expr}{es:List Expr}{t:TDA}{id T:String}{w:WC}
theorem Dn (h:up X.K Z (MI w t) σ H Qv):upA X.K Z t σ H λvs H1=>upC X.K Z w vs H1 Qv:=by
 obtain⟨r,dl,S,Q,rs,bC,h,ret⟩:=h;exact⟨r,dl,S,_,rs,bC,h,λvs H1 r1 ds S1 e1 aF p1 h1=>⟨r1,S1,ds,Q,aF,p1,h1,ret.ext e1⟩⟩
theorem ZR (hc:YA X (.builtin id) (upC X.K Z w))(hg:Gl X x)(hm:X.mg x=none)(hv:bootBuiltins x=some (.builtin id))(ha:PDA X Z (e::es) t)(hn:x≠"__name__":=by decide)(hdb:(x==("__debug__":Str))=false:=by decide)
  (he:starEach (e::es) X.env=(false,eval e X.env)::starEach es X.env:=by rfl)(hpl:(backTo pos (starEach es X.env)).any (·.1)=false:=by rfl):PD X Z (.Call (.Name x p) (e::es) [] pos) (MI w t):=
 Yl (K0 hc hg hm hv ha hn hdb he hpl) λ_ _ _ h=>Dn h
theorem WR (hc:YA X (.type T) (upC X.K Z w))(hg:Gl X x)(hm:X.mg x=none)(hv:bootBuiltins x=some (.type T))(ha:PDA X Z (e::es) t)(hn:x≠"__name__":=by decide)(hdb:(x==("__debug__":Str))=false:=by decide)
  (he:starEach (e::es) X.env=(false,eval e X.env)::starEach es X.env:=by rfl)(hpl:(backTo pos (starEach es X.env)).any (·.1)=false:=by rfl):PD X Z (.Call (.Name x p) (e::es) [] pos) (MI w t):=
 Yl (C1 hc hg hm hv ha hn hdb he hpl) λ_ _ _ h=>Dn h
theorem HU {sd:Sd}{r:List Addr}{S:Sto}{H:Hp}{dl:Ev}{σ:St}{ds:List D}{vs:List V}{Q:DK}{Qv:VK}(rs:Rs r H dl σ)(bC:Rel X.K Z r S H)(p:Rps r H ds vs)(h:sd ds S Q (Z.ex dl))(ret:Ret X.K Z r H Q Qv):upF X.K sd vs H Qv (Z.w σ):=
 ⟨Z.ex dl,r,S,ds,Q,⟨bC.b,λ_ _ c H' r' S' x _ rb q=>bC.xw dl σ c H' r' S' x (rs.ext x) rb q⟩,p,h,λv H' r' d S' x rel' pv q=>ret v H' r' d S' x ⟨rel'.b,bC.xw.ext x⟩ pv q⟩
theorem As (F:Yo X.prog X.w X.K X.mg X.base (CXE X.prog X.w) k f fd ps (upF X.K sd))(hr:Z3 k X.A)(hg:Gl X x)(hm:X.mg x=some (.ref f))(hk:PySem.W.keepIn X.K (.ref f)=true)(hb:Xv X.K fd ps [])(hx:VD X W)(ha:PDA X ⟨ex,W⟩ (e::es) t)(hdb:(x==("__debug__":Str))=false:=by decide)(he:starEach (e::es) X.env=(false,eval e X.env)::starEach es X.env:=by rfl)(hpl:(backTo pos (starEach es X.env)).any (·.1)=false:=by rfl):PD X ⟨ex,W⟩ (.Call (.Name x p) (e::es) [] pos) (Hv ex sd t):=
 Yl (za3 F hr hg hm hk hb hx ha hdb he hpl) λσ H Qv ⟨r,dl,S,Q,rs,bC,h,ret⟩=>⟨r,dl,S,_,rs,bC,h,λvs H1 r1 ds S1 e1 aF p1 h1=>HU (Z:=⟨ex,W⟩) (rs.ext e1) aF p1 h1 (ret.ext e1)⟩
def wAbs:WC:=λds S Q=>match ds with
 | [.int i]=>Q (.int (if i<0 then -i else i)) S
 | _=>False
theorem zdP:YA X (.builtin "abs") (upC X.K Z wAbs):=GG BN λxs H Qv ⟨r,S,ds,Q,bC,ps,q,ret⟩=>by
 unfold wAbs at q;split at q
 ·rename_i i;obtain⟨v,vs,rfl,p1,p2⟩:=ps.uncons;have z:=p2.unnil;subst z;cases p1;exact⟨i,rfl,ret _ _ _ _ _ Ext.refl bC (.int _) q⟩
 ·exact q.elim
def XC:List D->Option (List Int)
 | []=>some []
 | .int i::r=>(XC r).map (i::·)
 | _::_=>none
def Ts (le:Int->Int->Prop)(two:Int->Int->Int):WC:=λds S Q=>match ds with
 | [.int i,.int j]=>Q (.int (two i j)) S
 | [.ref n]=>match lAt S n with
  | some o=>match XC (Zu o) with
   | some xs=>xs≠[]/\∀m,m∈xs->(∀y∈xs,le y m)->Q (.int m) S
   | none=>False
  | none=>False
 | _=>False
abbrev wMax:WC:=Ts (λy m=>y<=m) λi j=>if j > i then j else i
abbrev wMin:WC:=Ts (λy m=>m<=y) λi j=>if j<i then j else i
theorem Oj {r:List Addr}{H:Hp}:∀ {ds:List D} {ns:List Int} {vs:List V} {us:List Value},XC ds=some ns->Rps r H ds vs->ZG vs us->∃xs:List (Int×Tok),us.toArray=intItems xs.toArray/\xs.map (·.1)=ns
 | [],ns,vs,us,e,p,q=>by
  have z:=p.unnil;subst z;cases q;simp[XC] at e;subst e;exact⟨[],by simp[intItems],rfl⟩
 | d::ds,ns,vs,us,e,p,q=>by
  obtain⟨v,vs',rfl,p1,p2⟩:=p.uncons;cases d with
  | int i=>
   cases p1;cases q with
   | cons q1 q2=>
    obtain⟨t,rfl⟩:=q1;simp only[XC,zP] at e;obtain⟨ms,e1,rfl⟩:=e;obtain⟨xs,h1,h2⟩:=Oj e1 p2 q2;refine⟨(i,t)::xs,?_,by simp[h2]⟩;simp[intItems] at h1 ⊢;exact h1
  | _=>simp[XC] at e
theorem CF (f:Nat->Int):∀k j,j<=k->f j<=f (argBest (λi j=>decide (f i > f j)) k)
 | 0,j,h=>by
  have z:j=0:=by omega
  subst z;exact yH _
 | k+1,j,h=>by
  have ih:=CF f k;unfold argBest;split
  ·rename_i hb;have hb':f (k+1) > f (argBest (λi j=>decide (f i > f j)) k):=of_decide_eq_true hb;by_cases z:j=k+1
   ·subst z;exact yH _
   ·have:=ih j (by omega);omega
  ·rename_i hb;have hb':¬ f (k+1) > f (argBest (λi j=>decide (f i > f j)) k):=λq=>hb (decide_eq_true q)
   by_cases z:j=k+1
   ·subst z;omega
   ·exact ih j (by omega)
theorem EU (f:Nat->Int):∀k j,j<=k->f (argBest (λi j=>decide (f i<f j)) k)<=f j
 | 0,j,h=>by
  have z:j=0:=by omega
  subst z;exact yH _
 | k+1,j,h=>by
  have ih:=EU f k;unfold argBest;split
  ·rename_i hb;have hb':f (k+1)<f (argBest (λi j=>decide (f i<f j)) k):=of_decide_eq_true hb;by_cases z:j=k+1
   ·subst z;exact yH _
   ·have:=ih j (by omega);omega
  ·rename_i hb;have hb':¬ f (k+1)<f (argBest (λi j=>decide (f i<f j)) k):=λq=>hb (decide_eq_true q)
   by_cases z:j=k+1
   ·subst z;omega
   ·exact ih j (by omega)
theorem GP (bt:Nat->Nat->Bool):∀k,argBest bt k<=k
 | 0=>zD _
 | k+1=>by
  unfold argBest;split
  ·exact zD _
  ·exact Nat.le_succ_of_le (GP bt k)
theorem Gw {xs:List (Int×Tok)}{ns:List Int}(h:xs.map (·.1)=ns){j:Nat}{y:Int}(e:ns[j]?=some y):numAt xs.toArray j=y:=by
  subst h;unfold numAt;rw[zG] at e;simp only[List.getElem?_toArray];cases q:xs[j]? with
  | none=>
   rw[q] at e;cases e
  | some z=>rw[q] at e;simpa using e
theorem Dr {xs:List (Int×Tok)}{ns:List Int}(h:xs.map (·.1)=ns){j:Nat}(hj:j<ns.length):numAt xs.toArray j∈ns:=by
 have e:ns[j]?=some ns[j]:=by simp[hj]
 rw[Gw h e];exact zZ hj
theorem Hz (hc:X.calm=true):YA X (.builtin "max") (upC X.K Z wMax):=by
 intro aA s σ H xs us Qv I rv h;obtain⟨r,S,ds,Q,bC,ps,q,ret⟩:=h;unfold wMax Ts at q;split at q
 ·rename_i i j;obtain⟨v,vs,rfl,p1,p2⟩:=ps.uncons;obtain⟨v2,vs2,rfl,p3,p4⟩:=p2.uncons;have z:=p4.unnil;subst z;cases p1;cases p3;exact Bq hc aA s σ H _ us Qv I rv ⟨i,j,rfl,ret _ _ _ _ _ Ext.refl bC (.int _) q⟩
 ·rename_i n;obtain⟨v,vs,rfl,p1,p2⟩:=ps.uncons;have z:=p2.unnil;subst z;split at q
  ·rename_i o eo;split at q
   ·rename_i ns en;obtain⟨hne,q⟩:=q;obtain⟨eo,eL⟩:=Y7 eo;obtain⟨a,ha,ob⟩:=bC.at eo;cases p1 with
    | ref h1=>
     rw[h1] at ha;cases ha
     obtain⟨ys,sq,pr⟩:=ob.list eL;obtain⟨u,rfl,ru⟩:=W5 rv;cases ru;obtain⟨bA,ri,pl,hz⟩:=I.list sq;obtain⟨zs,hz1,hz2⟩:=Oj en pr ri;have hl:zs.length=ns.length:=by rw[<- hz2,zA]
     have hpos:0<ns.length:=List.length_pos_iff.mpr hne
     have isl:=pl.isList;rw[hz1] at isl;refine max_intList (I.ok.hd hc) isl (by simp;omega) λv h' tk hv hk=>?_
     have hvi:=intItems_at hv;obtain⟨t,rfl⟩:=hvi;have hb:=GP (λi j=>decide (numAt zs.toArray i > numAt zs.toArray j)) (zs.toArray.size-1)
     have hsz:zs.toArray.size=ns.length:=by simp[hl]
     refine⟨.int _,H,I.kept hk,⟨_,rfl⟩,ret _ _ _ _ _ Ext.refl bC (.int _) (q _ (Dr hz2 (by omega)) λy hy=>?_)⟩;obtain⟨j,hj,ej⟩:=yW.mp hy;have e1:=Gw hz2 (show ns[j]?=some y by simp[hj,ej]);rw[<- e1];exact CF _ _ j (by omega)
   ·exact q.elim
  ·exact q.elim
 ·exact q.elim
theorem LH (hc:X.calm=true):YA X (.builtin "min") (upC X.K Z wMin):=by
 intro aA s σ H xs us Qv I rv h;obtain⟨r,S,ds,Q,bC,ps,q,ret⟩:=h;unfold wMin Ts at q;split at q
 ·rename_i i j;obtain⟨v,vs,rfl,p1,p2⟩:=ps.uncons;obtain⟨v2,vs2,rfl,p3,p4⟩:=p2.uncons;have z:=p4.unnil;subst z;cases p1;cases p3;exact Al hc aA s σ H _ us Qv I rv ⟨i,j,rfl,ret _ _ _ _ _ Ext.refl bC (.int _) q⟩
 ·rename_i n;obtain⟨v,vs,rfl,p1,p2⟩:=ps.uncons;have z:=p2.unnil;subst z;split at q
  ·rename_i o eo;split at q
   ·rename_i ns en;obtain⟨hne,q⟩:=q;obtain⟨eo,eL⟩:=Y7 eo;obtain⟨a,ha,ob⟩:=bC.at eo;cases p1 with
    | ref h1=>
     rw[h1] at ha;cases ha
     obtain⟨ys,sq,pr⟩:=ob.list eL;obtain⟨u,rfl,ru⟩:=W5 rv;cases ru;obtain⟨bA,ri,pl,hz⟩:=I.list sq;obtain⟨zs,hz1,hz2⟩:=Oj en pr ri;have hl:zs.length=ns.length:=by rw[<- hz2,zA]
     have hpos:0<ns.length:=List.length_pos_iff.mpr hne
     have isl:=pl.isList;rw[hz1] at isl;refine min_intList (I.ok.hd hc) isl (by simp;omega) λv h' tk hv hk=>?_
     have hvi:=intItems_at hv;obtain⟨t,rfl⟩:=hvi;have hb:=GP (λi j=>decide (numAt zs.toArray i<numAt zs.toArray j)) (zs.toArray.size-1)
     have hsz:zs.toArray.size=ns.length:=by simp[hl]
     refine⟨.int _,H,I.kept hk,⟨_,rfl⟩,ret _ _ _ _ _ Ext.refl bC (.int _) (q _ (Dr hz2 (by omega)) λy hy=>?_)⟩;obtain⟨j,hj,ej⟩:=yW.mp hy;have e1:=Gw hz2 (show ns[j]?=some y by simp[hj,ej]);rw[<- e1];exact EU _ _ j (by omega)
   ·exact q.elim
  ·exact q.elim
 ·exact q.elim
def UW:WC:=λds S Q=>match ds with
 | [.tup xs]=>Q (.int xs.length) S
 | [.ref n]=>match lAt S n with
  | some o=>Q (.int (Zu o).length) S
  | none=>False
 | _=>False
theorem Z4:YA X (.builtin "len") (upC X.K Z UW):=GG zdz λxs H Qv ⟨r,S,ds,Q,bC,ps,q,ret⟩=>by
 unfold UW at q;split at q
 ·rename_i ys;obtain⟨v,vs,rfl,p1,p2⟩:=ps.uncons;have z:=p2.unnil;subst z;obtain⟨a,zs,rfl,h1,h2⟩:=p1.untup;exact⟨a,zs,rfl,.inr (SqT.of h1),by rw[<- h2.1];exact ret _ _ _ _ _ Ext.refl bC (.int _) q⟩
 ·rename_i n;obtain⟨v,vs,rfl,p1,p2⟩:=ps.uncons;have z:=p2.unnil;subst z;split at q
  ·rename_i o eo;obtain⟨eo,eL⟩:=Y7 eo;obtain⟨a,ha,ob⟩:=bC.at eo;cases p1 with
   | ref h1=>
    rw[h1] at ha;cases ha
    obtain⟨ys,sq,pr⟩:=ob.list eL;exact⟨_,ys,rfl,.inl sq,by rw[<- pr.1];exact ret _ _ _ _ _ Ext.refl bC (.int _) q⟩
  ·exact q.elim
 ·exact q.elim
def YZ (t T:String):Bool:=t==T||(t == "bool"&&T == "int")
def dInst (T:String)(te:TDE):TDE:=λdl S Q=>te dl S λd S1=>match d with
 | .ref _=>False
 | .exc _=>False
 | .non=>Q (.bl (YZ "NoneType" T)) S1
 | .bl _=>Q (.bl (YZ "bool" T)) S1
 | .int _=>Q (.bl (YZ "int" T)) S1
 | .str _=>Q (.bl (YZ "str" T)) S1
 | .tup _=>Q (.bl (YZ "tuple" T)) S1
def Kit (K:Fg)(T:String):Prop:=∀t∈["NoneType","bool","int","str","tuple"],PySem.W.kitOne K (.type t) (.type T)=some (YZ t T)
def rInst (K:Fg):List V->Hp->VK->Prop:=λxs H Qv=>∃x T t b,xs=[x,.ty T]/\X6 K H x t/\PySem.W.kitOne K t (.type T)=some b/\Qv (.bl b) H
theorem IQ:YA X (.builtin "isinstance") (rInst X.K):=by
 intro aA s σ H xs us Q I r h;obtain⟨x,T,t,b,rfl,ty,e,q⟩:=h;obtain⟨u,w',rfl,r1,r2⟩:=Fc r;cases r2;exact zat I r1 ty e λtk=>⟨.bl b,H,I.tok tk,rfl,q⟩
theorem HY (KT:Kit X.K T)(hg:Gl X "isinstance")(hm:X.mg "isinstance"=none)(hg2:Gl X y)(hm2:X.mg y=none)(hv2:bootBuiltins y=some (.type T))(ha:PD X Z e te)(hv:bootBuiltins "isinstance"=some (.builtin "isinstance"):=by exact PyProof.Rows.Boot.«isinstance»)(hn2:y≠"__name__":=by decide)(hd2:(y==("__debug__":Str))=false:=by decide)(he2:starEach [e,.Name y p2] X.env=(false,eval e X.env)::starEach [.Name y p2] X.env:=by rfl)(he3:starEach [.Name y p2] X.env=(false,eval (.Name y p2) X.env)::starEach [] X.env:=by rfl)(hpl:(backTo pos (starEach [.Name y p2] X.env)).any (·.1)=false:=by rfl):
  PD X Z (.Call (.Name "isinstance" p) [e,.Name y p2] [] pos) (dInst T te):=
 Yl (K0 IQ hg hm hv (V8 ha (V8 (IB (v:=.ty T) hg2 hm2 hv2 rfl hn2 hd2) Ph he3) he2) (by decide) (by decide) he2 hpl) λσ H Qv ⟨r,dl,S,Q,rs,bC,h,ret⟩=>
  ⟨r,dl,S,_,rs,bC,h,λv H1 r1 d S1 e1 aF p1 h1=>by
   cases p1 with
   | non=>exact⟨_,T,_,_,rfl,.non,KT _ (by simp),ret _ _ _ _ _ e1 aF (.bl _) h1⟩
   | bl b=>exact⟨_,T,_,_,rfl,.bl b,KT _ (by simp),ret _ _ _ _ _ e1 aF (.bl _) h1⟩
   | int b=>exact⟨_,T,_,_,rfl,.int b,KT _ (by simp),ret _ _ _ _ _ e1 aF (.bl _) h1⟩
   | str b=>exact⟨_,T,_,_,rfl,.str b,KT _ (by simp),ret _ _ _ _ _ e1 aF (.bl _) h1⟩
   | tup e2 _ _=>exact⟨_,T,_,_,rfl,.tup e2,KT _ (by simp),ret _ _ _ _ _ e1 aF (.bl _) h1⟩
   | ref _=>exact(show False from h1).elim
   | exc _=>exact(show False from h1).elim⟩
end
section
variable {X:Cx}{Z:Zx}{st:Stmt}{Yz:List Stmt}{t u:TDS}{e:Expr}{te:TDE}{pos:Pos}
def F2:TDS:=λE dl S=>E.nx dl S
def Wg (t u:TDS):TDS:=λE dl S=>t { nx:=λdl' S'=>u E dl' S',rt:=E.rt,bk:=E.bk,ct:=E.ct } dl S
theorem ZP:Wm X Z [] F2:=Cb AK λF σ H ⟨r,dl,S,E,rs,bC,h,ret⟩=>ret.nx σ H r dl S Ext.refl rs bC h
theorem Zh (h1:PDS X Z st t)(h2:Wm X Z Yz u):Wm X Z (st::Yz) (Wg t u):=
 Cb (Bx h1 h2) λF σ H ⟨r,dl,S,E,rs,bC,h,ret⟩=>⟨r,dl,S,_,rs,bC,h,λσ' H' r' dl' S' x rs' rel' q=>⟨r',dl',S',E,rs',rel',q,ret.ext x⟩,ret.bk,ret.ct,ret.rt⟩
theorem Zg (h1:PDS X Z st t):Wm X Z [st] t:=zcv h1
def dDrop (te:TDE):TDS:=λE dl S=>te dl S λ_ S1=>E.nx dl S1
theorem Yr (he:PD X Z e te)(hs:swapsWith e none pos.line X.env=pure false:=by rfl):PDS X Z (.Expr e pos) (dDrop te):=
 Xq (Ar he hs) λF σ H ⟨r,dl,S,E,rs,bC,h,ret⟩=>⟨r,dl,S,_,rs,bC,h,λv H1 r1 d S1 x aF p q=>ret.nx σ H1 r1 dl S1 x (rs.ext x) aF q⟩
def dRet (te:TDE):TDS:=λE dl S=>te dl S E.rt
theorem Zp (he:PD X Z e te):PDS X Z (.Return (some e) pos) (dRet te):=
 Xq (zcI he) λF σ H ⟨r,dl,S,E,rs,bC,h,ret⟩=>⟨r,dl,S,_,rs,bC,h,ret.rt⟩
def dIf (c:TDT)(t u:TDS):TDS:=λE dl S=>c dl S λk S1=>if k=true then t E dl S1 else u E dl S1
theorem ZL (hc:PDT X Z c tc)(ha:Wm X Z a t)(hb:Wm X Z b u):PDS X Z (.If c a b pos) (dIf tc t u):=
 Xq (ps_if hc ha hb) λF σ H ⟨r,dl,S,E,rs,bC,h,ret⟩=>⟨r,dl,S,_,rs,bC,h,λk H1 r1 S1 x aF q=>by
  cases k with
  | true=>exact Xf ⟨r1,dl,S1,E,rs.ext x,aF,(by simpa using q),ret.ext x⟩
  | false=>exact YF ⟨r1,dl,S1,E,rs.ext x,aF,(by simpa using q),ret.ext x⟩⟩
def Qm (i:Nat)(te:TDE):TDS:=λE dl S=>te dl S λd S1=>E.nx (dl.set i (some d)) S1
theorem Wh (hN:X.N.Nodup)(hi:X.N[i]?=some x)(hx:Loc X.env.scope x)(he:PD X Z e te)(hs:swapsWith e (some (.Name x pos')) pos.line X.env=pure false:=by rfl)(hf:X.fn x=true\/X.env.scope.names.lookup x=some .local:=by first|exact .inl rfl|exact .inr rfl|assumption):PDS X Z (.Assign [.Name x pos'] e pos) (Qm i te):=
 Xq (Am hN hi hx he hs hf) λF σ H ⟨r,dl,S,E,rs,bC,h,ret⟩=>⟨r,dl,S,_,rs,bC,h,λv H1 r1 d S1 x aF p q=>ret.nx _ H1 r1 _ S1 x ((rs.ext x).set i p) aF q⟩
theorem ZD {i:Nat}{x:Str}{pos':Pos}(hN:X.N.Nodup)(he:PD X Z e te)(hi:X.N[i]?=some x:=by rfl)(hx:Loc X.env.scope x:=by exact Or.inl rfl)(hs:swapsWith e (some (.Name x pos')) pos.line X.env=pure false:=by rfl)
  (hf:X.fn x=true\/X.env.scope.names.lookup x=some .local:=by first|exact .inl rfl|exact .inr rfl|assumption):PDS X Z (.Assign [.Name x pos'] e pos) (Qm i te):=Wh hN hi hx he hs hf
def Ba (c:TDT)(tb:TDS):TDS:=λE dl S=>∃W:Nat->Ev->Sto->Prop,(∃m,W m dl S)/\∀m dl S,W m dl S->
 c dl S λk S1=>if k=true then tb { nx:=λdl' S'=>∃m',m'<m/\W m' dl' S',rt:=E.rt,bk:=E.nx,ct:=λdl' S'=>∃m',m'<m/\W m' dl' S' } dl S1 else E.nx dl S1
theorem zdX (hp:PassesOwn (model X.prog X.w) X.A X.env X.xe)(hc:PDT X Z c tc)(hb:Wm X Z body tb):PDS X Z (.While c body [] pos) (Ba tc tb):=
 Xq (zaJ hp hc hb) λF σ H ⟨r,dl,S,E,rs,bC,⟨W,⟨m0,w0⟩,turn⟩,ret⟩=>by
  refine⟨λm σ' H'=>∃r' dl' S',Ext r r' H H'/\Rs r' H' dl' σ'/\Rel X.K Z r' S' H'/\W m dl' S',⟨m0,r,dl,S,Ext.refl,rs,bC,w0⟩,?_⟩;rintro m σ1 H1 ⟨r1,dl1,S1,x1,rs1,aF,w1⟩;refine⟨r1,dl1,S1,_,rs1,aF,turn m dl1 S1 w1,λk H2 r2 S2 x2 aG q2=>?_⟩;cases k with
  | true=>
   refine Xf ⟨λσ' H'=>∃m',m'<m/\∃r' dl' S',Ext r r' H H'/\Rs r' H' dl' σ'/\Rel X.K Z r' S' H'/\W m' dl' S',λ_ _ z=>z,r2,dl1,S2,_,rs1.ext x2,aG,(by simpa using q2),?_⟩;have go:∀σ' H' r' dl' S',Ext r2 r' H2 H'->Rs r' H' dl' σ'->Rel X.K Z r' S' H'->(∃m',m'<m/\W m' dl' S')->∃m',m'<m/\∃r' dl' S',Ext r r' H H'/\Rs r' H' dl' σ'/\Rel X.K Z r' S' H'/\W m' dl' S':=
    λσ' H' r' dl' S' x rs' rel' ⟨m',hm,w'⟩=>⟨m',hm,r',dl',S',x1.trans (x2.trans x),rs',rel',w'⟩
   exact⟨go,λσ' H' r' dl' S' x rs' rel' q=>ret.nx σ' H' r' dl' S' (x1.trans (x2.trans x)) rs' rel' q,go,ret.rt.ext (x1.trans x2)⟩
  | false=>exact YF (ret.nx σ1 H2 r2 dl1 S2 (x1.trans x2) (rs1.ext x2) aG (by simpa using q2))
def dFor (i:Nat)(tl:TDE)(tb:TDS):TDS:=λE dl S=>tl dl S λd S1=>match d with
 | .ref n=>(lAt S1 n).isSome=true/\∃W:Nat->Nat->Ev->Sto->Prop,(∃m,W 0 m dl S1)/\∀k m dl S,W k m dl S->match lAt S n with
  | some o=>match (Zu o)[k]? with
   | some x=>tb { nx:=λdl' S'=>∃m',m'<m/\W (k+1) m' dl' S',rt:=E.rt,bk:=E.nx,ct:=λdl' S'=>∃m',m'<m/\W (k+1) m' dl' S' } (dl.set i (some x)) S
   | none=>E.nx dl S
  | none=>False
 | _=>False
theorem Va (hp:PassesOwn (model X.prog X.w) X.A X.env X.xe)(hc:X.calm=true)(hN:X.N.Nodup)(hi:X.N[i]?=some x)(hx:Loc X.env.scope x)(hl:PD X Z aX tl)(hb:Wm X Z body tb)(hf:X.fn x=true\/X.env.scope.names.lookup x=some .local:=by first|exact .inl rfl|exact .inr rfl|assumption)(hs:∀y,foldedSetIterable aX X.env y=pure y:=by intro _;rfl):PDS X Z (.For (.Name x pos') aX body [] pos) (dFor i tl tb):=
 Xq (OS hp hc (Iw hl) (QX hN hi hx hf) hb hs) λF σ H ⟨r,dl,S,E,rs,bC,h,ret⟩=>by
  refine⟨r,dl,S,_,rs,bC,h,λv H1 r1 d S1 x1 aF p1 q1=>?_⟩;cases p1 with
  | @ref n a hn=>
   obtain⟨aW,W,⟨m0,w0⟩,turn⟩:=q1;have sql:∀ {r':List Addr} {S':Sto} {H':Hp} {o:Ob},Ext r1 r' H1 H'->Rel X.K Z r' S' H'->lAt S' n=some o->∃xs,SqL X.K H' a xs/\Rps r' H' (Zu o) xs:=λ{r' S' H' o} x' rel' eo=>by
    obtain⟨eo,eL⟩:=Y7 eo;obtain⟨a',ha,ob⟩:=rel'.at eo;rw[x'.adr n a hn] at ha;cases ha
    exact ob.list eL
   obtain⟨o1,eo1⟩:=yV.mp aW;obtain⟨xs1,sq1,_⟩:=sql Ext.refl aF eo1;refine⟨a,rfl,⟨xs1,sq1⟩,λk m σ' H'=>∃r' dl' S',Ext r1 r' H1 H'/\Rs r' H' dl' σ'/\Rel X.K Z r' S' H'/\W k m dl' S',⟨m0,r1,dl,S1,Ext.refl,rs.ext x1,aF,w0⟩,?_⟩;rintro k m σ2 H2 ⟨r2,dl2,S2,x2,rs2,aG,w2⟩;have q:=turn k m dl2 S2 w2;split at q
   ·rename_i o eo;obtain⟨xs,sq,pr⟩:=sql x2 aG eo;split at q
    ·rename_i y ey;obtain⟨v,hv,pv⟩:=pr.get ey;have go:∀ {r3:List Addr} {H3:Hp},Ext r2 r3 H2 H3->∀σ' H' r' dl' S',Ext r3 r' H3 H'->Rs r' H' dl' σ'->Rel X.K Z r' S' H'->(∃m',m'<m/\W (k+1) m' dl' S')->∃m',m'<m/\∃r' dl' S',Ext r1 r' H1 H'/\Rs r' H' dl' σ'/\Rel X.K Z r' S' H'/\W (k+1) m' dl' S':=
      λ{r3 H3} x3 σ' H' r' dl' S' x rs' rel' ⟨m',hm,w'⟩=>⟨m',hm,r',dl',S',x2.trans (x3.trans x),rs',rel',w'⟩
     refine .inr ⟨⟨xs,v,sq,hv⟩,λσ' H'=>∃m',m'<m/\∃r' dl' S',Ext r1 r' H1 H'/\Rs r' H' dl' σ'/\Rel X.K Z r' S' H'/\W (k+1) m' dl' S',λ_ _ z=>z,λv' H' y'=>?_⟩;obtain⟨eH,y'⟩:=y';subst eH;have ev:v'=v:=by
      have z:=y' xs sq;rw[hv] at z;exact(Option.some.inj z).symm
     subst ev;exact⟨r2,_,S2,_,rs2.set i pv,aG,q,go Ext.refl,λσ' H' r' dl' S' x rs' rel' z=>ret.nx σ' H' r' dl' S' (x1.trans (x2.trans x)) rs' rel' z,go Ext.refl,ret.rt.ext (x1.trans x2)⟩
    ·rename_i ey;have aU:(Zu o).length<=k:=yX.mp ey;exact .inl ⟨⟨xs,sq,by rw[<- pr.1];exact aU⟩,ret.nx σ2 H2 r2 dl2 S2 (x1.trans x2) rs2 aG q⟩
   ·exact q.elim
  | _=>exact(show False from q1).elim
def dForR (i:Nat)(ta:TDA)(tb:TDS):TDS:=λE dl S=>ta dl S λds S1=>match ds with
 | [.int j]=>(-(2^62)<=j/\j<2^62)/\∃W:Nat->Ev->Sto->Prop,W 0 dl S1/\∀k dl S,W k dl S->
   if k<j.toNat then tb { nx:=λdl' S'=>W (k+1) dl' S',rt:=E.rt,bk:=E.nx,ct:=λdl' S'=>W (k+1) dl' S' } (dl.set i (some (.int k))) S else E.nx dl S
 | _=>False
theorem XW (hp:PassesOwn (model X.prog X.w) X.A X.env X.xe)(hc:X.calm=true)(hN:X.N.Nodup)(hi:X.N[i]?=some x)(hx:Loc X.env.scope x)(hg:Gl X "range")(hm:X.mg "range"=none)(ha:PDA X Z [a] ta)(hb:Wm X Z body tb)(hf:X.fn x=true\/X.env.scope.names.lookup x=some .local:=by first|exact .inl rfl|exact .inr rfl|assumption)(hs:∀y,foldedSetIterable (.Call (.Name "range" p) [a] [] pos) X.env y=pure y:=by intro _;rfl)(hst:starEach [a] X.env=[(false,eval a X.env)]:=by rfl):
  PDS X Z (.For (.Name x pos') (.Call (.Name "range" p) [a] [] pos) body [] aQ) (dForR i ta tb):=
 Xq (OS hp hc (Hw hg hm ha hst) (QX hN hi hx hf) hb hs) λF σ H ⟨r,dl,S,E,rs,bC,h,ret⟩=>by
  refine⟨r,dl,S,_,rs,bC,h,λvs H1 r1 ds S1 x1 aF p1 q1=>?_⟩;split at q1
  ·rename_i j;obtain⟨v,vs',rfl,p2,p3⟩:=p1.uncons;have z:=p3.unnil;subst z;cases p2;obtain⟨⟨b1,b2⟩,W,w0,turn⟩:=q1;refine⟨j,rfl,b1,b2,λk m σ' H'=>m=j.toNat-k/\∃r' dl' S',Ext r1 r' H1 H'/\Rs r' H' dl' σ'/\Rel X.K Z r' S' H'/\W k dl' S',⟨j.toNat,by simp,r1,dl,S1,Ext.refl,rs.ext x1,aF,w0⟩,?_⟩;rintro k m σ2 H2 ⟨em,r2,dl2,S2,x2,rs2,aG,w2⟩;have q:=turn k dl2 S2 w2;split at q
   ·rename_i hk;have go:∀σ' H' r' dl' S',Ext r2 r' H2 H'->Rs r' H' dl' σ'->Rel X.K Z r' S' H'->W (k+1) dl' S'->∃r' dl' S',Ext r1 r' H1 H'/\Rs r' H' dl' σ'/\Rel X.K Z r' S' H'/\W (k+1) dl' S':=
     λσ' H' r' dl' S' x rs' rel' w'=>⟨r',dl',S',x2.trans x,rs',rel',w'⟩
    have pk:Rp r2 H2 (.int (k:Int)) (.int (0+(k:Int))):=by rw[Int.zero_add];exact .int _
    refine .inr ⟨hk,λσ' H'=>∃r' dl' S',Ext r1 r' H1 H'/\Rs r' H' dl' σ'/\Rel X.K Z r' S' H'/\W (k+1) dl' S',λσ' H' z=>⟨j.toNat-(k+1),by omega,rfl,z⟩,λv' H' y'=>?_⟩;obtain⟨eH,y'⟩:=y';subst eH;subst y';exact⟨r2,_,S2,_,rs2.set i pk,aG,q,go,λσ' H' r' dl' S' x rs' rel' z=>ret.nx σ' H' r' dl' S' (x1.trans (x2.trans x)) rs' rel' z,go,ret.rt.ext (x1.trans x2)⟩
   ·rename_i hk;exact .inl ⟨by show j.toNat<=k;omega,ret.nx σ2 H2 r2 dl2 S2 (x1.trans x2) rs2 aG q⟩
  ·exact q1.elim
end
def Q5 (N:List Str)(ds:List D):Ev:=ds.map some++List.replicate (N.length-ds.length) none
theorem zc4 {r:List Addr}{H:Hp}{N:List Str}{ds:List D}{vs:List V}(h:Rps r H ds vs):Rs r H (Q5 N ds) (L2.WV N vs):=by
  refine⟨by simp[Q5,L2.WV,h.1],λi d e=>?_⟩;unfold Q5 at e;by_cases hi:i<ds.length
  · rw[zV (by simpa using hi),zG] at e
    cases q:ds[i]? with
    | none=>
   rw[q] at e;cases e
    | some z=>
      rw[q] at e;cases e;obtain⟨v,hv,pv⟩:=h.get q;refine⟨v,?_,pv⟩;unfold L2.WV;rw[zV (by simpa [h.1] using hi),zG,hv];rfl
  · rw[yI (by simpa using hi),List.getElem?_replicate] at e
    split at e<;>cases e
section
variable {P:Program}{w:World}{K:Fg}{mg:Str->Option Value}{base:Heap}
abbrev Z0:Zx:=Zc (λ_ _=>False) (λ_ _ _=>False)
theorem Tq:VD X Z0.w:=λ_ _ _ _ _ _ _ h=>by
 obtain⟨_,_,_,_,_,_,_,_,_,_,_,_,q⟩:=h;exact q.elim
theorem Zy {x aL:Str}{st:Stmt}{f:Addr}{fd:FuncData}{N ps:List Str}{k:Nat}{sd:Sd}(F:Fun K x aL st f fd)(Sc:Zz N ps (Zj st))(len:∀ds S Q ex,sd ds S Q ex->ds.length=ps.length)
  (hbody:∀(cdv:Value)(A:Around)(outer:List Env)(s:Shared)(H:Hp)(E:XK),Z3 k (A.deeper (envOfC aL (Zj st) s.heap.objs.size f cdv))->
   ∃t,Wm (UL (CXE P w) P w K mg base N aL (Zj st) f cdv A outer s H E).nox Z0 (WQ st) t/\∀ds S Q ex,sd ds S Q ex->t { nx:=λ_ S'=>Q .non S',rt:=Q } (Q5 N ds) S):Yo P w K mg base (CXE P w) (k+1) f fd ps (upF K sd):=by
 obtain⟨oc,od,kV,doc,pm,an,cdv,ct,osl,rfl,lk,hcd⟩:=F.ex;refine CG lk hcd Sc (λvs H Q E h=>?_) λA outer s H vs Q E hr h=>?_
 ·obtain⟨ex,r,S,ds,Q',bC,p,q,ret⟩:=h;rw[<- p.1];exact len ds S Q' ex q
 ·obtain⟨ex,r,S,ds,Q',bC,p,q,ret⟩:=h;obtain⟨t,ht,hq⟩:=hbody cdv A outer s H E hr;have back:∀ {H':Hp} {r':List Addr} {S':Sto},Ext r r' H H'->Rel K Z0 r' S' H'->Rel K (Zc ex E) r' S' H':=λx rel'=>⟨rel'.b,bC.xw.ext x⟩
  refine⟨upS K Z0 t,ht.nox,r,Q5 N ds,S,_,zc4 p,⟨bC.b,λ_ _ _ _ _ _ _ _ _ z=>z.elim⟩,hq ds S Q' ex q,?_,?_,?_,?_⟩
  ·intro σ' H' r' dl' S' x _ rel' z;exact ret .non H' r' .non S' x (back x rel') .non z
  ·intro σ' H' r' dl' S' x _ rel' z;exact z
  ·intro σ' H' r' dl' S' x _ rel' z;exact z
  ·intro v H' r' d S' x rel' p' z;exact ret v H' r' d S' x (back x rel') p' z
end
open PySem
def Sz (n:Nat)(i:Int):Prop:=i.natAbs<2^n
theorem Sz.mono (h:Sz m i)(hn:m<=n):Sz n i:=yD h (Nat.pow_le_pow_right (by decide) hn)
theorem Sz.bits (h:Sz n i):Builtin.Int.intBits i<=n:=by
 unfold Builtin.Int.intBits;split
 ·exact zL _
 ·rename_i hz;have hp:i.natAbs≠0:=by
   intro z;have z2:i=0:=by omega
   simp[z2] at hz
  have:=(Nat.log2_lt hp).mpr h;omega
theorem ZV (hi:Sz m i)(hj:Sz n j)(hm:m<=1048576:=by decide)(hn:n<=1048576:=by decide):IntMulOk i j:=by
 have e20:(2:Nat)^20=1048576:=by decide
 exact IntMulOk.of_bits (yK hi.bits (by omega)) (yK hj.bits (by omega))
theorem Sz.of {n:Nat}{i:Int}(m:Nat)(h:i.natAbs<=m)(hm:m<2^n:=by decide):Sz n i:=Nat.lt_of_le_of_lt h hm
theorem Sz.mul (hi:Sz m i)(hj:Sz n j):Sz (m+n) (i*j):=by
 unfold Sz at *
 rw[Nat.pow_add,Int.natAbs_mul];exact Nat.mul_lt_mul'' hi hj
theorem Sz.add (hi:Sz m i)(hj:Sz n j):Sz (max m n+1) (i+j):=by
 have h1:Sz (max m n) i:=hi.mono (Nat.le_max_left _ _)
 have h2:Sz (max m n) j:=hj.mono (Nat.le_max_right _ _);unfold Sz at *
 have e:(2:Nat)^(max m n+1)=2^max m n+2^max m n:=by rw[Nat.pow_succ];omega
 rw[e];have:=Int.natAbs_add_le i j;omega
theorem Sz.neg (hi:Sz m i):Sz m (-i):=by
 unfold Sz at *
 rw[Int.natAbs_neg];exact hi
theorem Sz.sub (hi:Sz m i)(hj:Sz n j):Sz (max m n+1) (i-j):=by
 rw[Int.sub_eq_add_neg];exact hi.add hj.neg
theorem Sz.log (h:Sz n i)(hi:i≠0)(hn:n<=9000:=by decide):i.natAbs.log2<9000:=by
 have:=(Nat.log2_lt (by omega:i.natAbs≠0)).mpr h;omega
theorem Sz.fd {n:Nat}{i:Int}(h:Sz n i)(hi:0<i)(hn:n<=9000:=by decide):0<i/\i.natAbs.log2<9000:=⟨hi,h.log (by omega) hn⟩
theorem YC {a b:Int}(hb:0<b):0<=a%b/\a%b<b:=⟨Int.emod_nonneg _ (by omega),Int.emod_lt_of_pos _ hb⟩
example (x:Int):-(10^40)<=x%(2*10^40+1)-10^40:=by omega
example (x:Int):x%(2*10^40+1)-10^40<=10^40:=by omega
example (x:Int) (h:-(10^40)<=x) (h2:x<=2*10^41):Sz 140 x:=Sz.of (2*10^41) (by omega)
theorem zcx (a b:Int):Int.gcd b (a%b)=Int.gcd a b:=by
 rw[Int.emod_def,show a-b*(a/b)=a-(a/b)*b by rw[Int.mul_comm],Int.gcd_sub_mul_right_right,Int.gcd_comm]
def Vh (i:Int):Int:=if i<0 then -i else i
theorem zbH (i:Int):0<=Vh i:=by unfold Vh;split<;>omega
theorem BC (a b:Int):Int.gcd (Vh a) (Vh b)=Int.gcd a b:=by
 have h:∀i:Int,(Vh i).natAbs=i.natAbs:=λi=>by unfold Vh;split<;>omega
 unfold Int.gcd;rw[h,h]
theorem zad (hB:B≠0)(hd:d=(if B<0 then -((Int.gcd T B:Nat):Int) else ((Int.gcd T B:Nat):Int))):
  d≠0/\T.fdiv d*d=T/\B.fdiv d*d=B/\1<=B.fdiv d/\Int.gcd (T.fdiv d) (B.fdiv d)=1/\T.fdiv d*B=T*B.fdiv d:=by
 have g0:0<Int.gcd T B:=Nat.pos_of_ne_zero λz=>hB (Int.gcd_eq_zero_iff.mp z).2
 have dT:((Int.gcd T B:Nat):Int) ∣ T:=Int.gcd_dvd_left T B
 have dB:((Int.gcd T B:Nat):Int) ∣ B:=Int.gcd_dvd_right T B
 have hne:d≠0:=by
  rw[hd];split<;>omega
 have eT:d ∣ T:=by rw[hd];split<;>first|exact Int.neg_dvd.mpr dT|exact dT
 have eB:d ∣ B:=by rw[hd];split<;>first|exact Int.neg_dvd.mpr dB|exact dB
 have fT:T.fdiv d=T/d:=Int.fdiv_eq_ediv_of_dvd eT
 have fB:B.fdiv d=B/d:=Int.fdiv_eq_ediv_of_dvd eB
 have mT:T.fdiv d*d=T:=by rw[fT];exact Int.ediv_mul_cancel eT
 have mB:B.fdiv d*d=B:=by rw[fB];exact Int.ediv_mul_cancel eB
 have gg:Int.gcd (T.fdiv d) (B.fdiv d)=1:=by
  have z:=Int.gcd_ediv_gcd_ediv_gcd g0;rw[fT,fB,hd];split
  ·rw[Int.ediv_neg,Int.ediv_neg,Int.neg_gcd,Int.gcd_neg];exact z
  ·exact z
 have pos:1<=B.fdiv d:=by
  by_cases hb:B<0
  ·have dn:d<0:=by rw[hd,if_pos hb];omega
   by_cases q:B.fdiv d<=0
   ·have:=Int.mul_nonneg_of_nonpos_of_nonpos q (Int.le_of_lt dn);omega
   ·omega
  ·have dp:0<d:=by rw[hd,if_neg hb];omega
   by_cases q:B.fdiv d<=0
   ·have:=Int.mul_nonneg (show 0<=-(B.fdiv d) by omega) (Int.le_of_lt dp);rw[yQ] at this;omega
   ·omega
 refine⟨hne,mT,mB,pos,gg,?_⟩
 calc T.fdiv d*B=T.fdiv d*(B.fdiv d*d):=by rw[mB]
  _=T.fdiv d*d*B.fdiv d:=by grind
  _=T*B.fdiv d:=by rw[mT]
theorem E9 {T d:Int}(hne:d≠0)(mT:T.fdiv d*d=T):(T.fdiv d).natAbs<=T.natAbs:=by
 have h:(T.fdiv d).natAbs*d.natAbs=T.natAbs:=by rw[<- Int.natAbs_mul,mT]
 have hd:1<=d.natAbs:=by omega
 calc (T.fdiv d).natAbs=(T.fdiv d).natAbs*1:=by omega
  _<=(T.fdiv d).natAbs*d.natAbs:=Nat.mul_le_mul_left _ hd
  _=T.natAbs:=h
theorem Q1 (m:Int)(hg:0<g):m/g*g<=m/\m<(m/g+1)*g:=by
 have h1:=Int.emod_add_mul_ediv m g
 have h2:=Int.emod_nonneg m (show g≠0 by omega)
 have h3:=Int.emod_lt_of_pos m hg
 have e:(m/g+1)*g=g*(m/g)+g:=by grind
 have e2:m/g*g=g*(m/g):=Int.mul_comm _ _;omega
theorem ED (m:Int)(hg:0<g):m<=-(-m/g)*g/\(-(-m/g)-1)*g<m:=by
 obtain⟨h1,h2⟩:=Q1 (-m) hg;have e1:-(-m/g)*g=-(-m/g*g):=by rw[yQ]
 have e2:(-(-m/g)-1)*g=-((-m/g+1)*g):=by grind
 omega
section
variable {X:Cx}{Z:Zx}
def wIf (C:Int->Int->Bool)(g:Int->Int->D):W2:=λx y S Q=>match x,y with
 | .int i,.int j=>if C i j=true then Q (g i j) S else False
 | _,_=>False
theorem opIf (h:OpR X f (upO X.K Z (wI C g)))(hc:∀i j,C' i j=true->C i j):OpR X f (upO X.K Z (wIf C' g)):=
 Tz h λx y H Qv ⟨r,S,dx,dy,Q,bC,px,py,q,ret⟩=>⟨r,S,dx,dy,Q,bC,px,py,by
  unfold wIf at q;split at q
  ·obtain⟨h1,h2⟩:=KR q;exact⟨hc _ _ h1,h2⟩
  ·exact q.elim,ret⟩
def Km (_ j:Int):Bool:=decide (0<j)&&decide (j<1073741824)
abbrev zbm:W2:=wIf Km λi j=>.int (i/j)
abbrev wModL:W2:=wIf Km λi j=>.int (i%j)
def powB (i j:Int):Bool:=decide (0<=j)&&decide (j<=1000)&&decide (-1000<i)&&decide (i<1000)
abbrev wPowL:W2:=wIf powB λi j=>.int (i^j.toNat)
theorem E4 (h:Km i j=true):0<j/\j<1073741824:=by
 unfold Km at h;simpa using h
theorem Ym:OpR X (binaryOp .FloorDiv) (upO X.K Z zbm):=opIf XJ λi j h=>by
 obtain⟨h1,h2⟩:=E4 h;refine⟨h1,?_⟩;have:j.natAbs.log2<30:=(Nat.log2_lt (by omega)).mpr (by omega);omega
theorem Yb:OpR X (binaryOp .Mod) (upO X.K Z wModL):=opIf YO λi j h=>(E4 h).1
theorem SU:OpR X (binaryOp .Pow) (upO X.K Z wPowL):=opIf B5 λi j h=>by
 unfold powB at h;simp at h;refine⟨h.1.1.1,by have:=h.1.1.2;omega,?_⟩;have h3:=h.1.2
 have h4:=h.2
 have big:(18446744073709551616:Nat)=2^64:=by decide
 omega
structure Df (K:Fg)(mg:Str->Option Value)(x:Str)(st:Stmt)(ps:List Str) where
 f:Addr
 fd:FuncData
 F:Fun K x x st f fd
 m:mg x=some (.ref f)
 b:Xv K fd ps []
structure Fk (P:Program)(w:World)(K:Fg)(mg:Str->Option Value)(base:Heap)(k:Nat)(x:Str)(ps:List Str)(sd:Sd) where
 f:Addr
 fd:FuncData
 ok:Yo P w K mg base (CXE P w) k f fd ps (upF K sd)
 m:mg x=some (.ref f)
 kp:PySem.W.keepIn K (.ref f)=true
 b:Xv K fd ps []
def Df.mk' {P:Program}{w:World}{K:Fg}{mg:Str->Option Value}{base:Heap}{k:Nat}{x:Str}{st:Stmt}{ps:List Str}{sd:Sd}(d:Df K mg x st ps)(h:Yo P w K mg base (CXE P w) k d.f d.fd ps (upF K sd)):Fk P w K mg base k x ps sd:=
 ⟨d.f,d.fd,h,d.m,d.F.kp,d.b⟩
theorem zc1 (G:Fk X.prog X.w X.K X.mg X.base k x ps sd)(hr:Z3 k X.A)(hx:VD X W)(hg:Gl X x)(ha:PDA X ⟨ex,W⟩ (e::es) t)(hdb:(x==("__debug__":Str))=false:=by decide)(he:starEach (e::es) X.env=(false,eval e X.env)::starEach es X.env:=by rfl)(hpl:(backTo pos (starEach es X.env)).any (·.1)=false:=by rfl):
  PD X ⟨ex,W⟩ (.Call (.Name x p) (e::es) [] pos) (Hv ex sd t):=As G.ok hr hg G.m G.kp G.b hx ha hdb he hpl
theorem AB {st:Stmt}:PDS X Z st (λ_ _ _=>False):=Xq zeI λF σ H ⟨_,_,_,_,_,_,h,_⟩=>h
end
def SE:Sd:=λds S Q _=>∃ns:List Int,ds=[.ref 0]/\S=[.frz (ns.map D.int)]/\ns.length<=63/\∀S',Q (.bl true) S'
theorem A3:∀ds S Q ex,SE ds S Q ex->ds.length=1:=λds S Q ex h=>by
 obtain⟨ns,rfl,_⟩:=h;rfl
theorem zd1 {K:Fg}{H:Hp}{a:Addr}{xs:List V}(hO:Qh H)(h:SqL K H a xs):SqF K H a xs:=by
 rcases h with (h|⟨o,h⟩)|h
 ·rcases hO a with z|⟨o,ys,z⟩
  ·rw[h] at z;cases z
  ·rw[h] at z;cases z
 ·exact .inl ⟨o,h⟩
 ·exact .inr h
theorem En {r:List Addr}{H:Hp}(ns:List Int):Rps r H (ns.map D.int) (ns.map V.int):=by
 refine⟨by simp,λi d v h1 h2=>?_⟩;rw[zG] at h1 h2;cases q:ns[i]? with
 | none=>rw[q] at h1;cases h1
 | some z=>
  rw[q] at h1 h2;cases h1;cases h2;exact .int z
theorem zdU {K:Fg}{H:Hp}{a:Addr}{ns:List Int}(hl:ns.length<=63)(hO:Qh H)(hS:SqL K H a (ns.map V.int)):upF K SE [.ref a] H (λv _=>v=.bl true) λ_ _ _=>False:=by
 refine⟨λ_ _=>False,[a],[.frz (ns.map D.int)],[.ref 0],λd _=>d=.bl true,⟨⟨rfl,λn b o h1 h2=>?_,λn m b xs ys h1 h2 h3 h4 o1 o2=>?_⟩,λ_ _ _ _ _ _ _ _ _ z=>z.elim⟩,Rps.cons (.ref rfl) Rps.nil,⟨ns,rfl,rfl,hl,λ_=>rfl⟩,λv H' r' d S' e bC p q=>?_⟩
 ·cases n with
  | zero=>
   simp at h1 h2;subst h1;subst h2
   exact⟨_,zd1 hO hS,En ns⟩
  | succ n=>simp at h1
 ·cases n with
  | zero=>
   simp at h3;subst h3;cases o1
  | succ n=>simp at h1
 ·subst q;cases p;rfl
theorem zeC {l:PySem.W.OpenLaw}{q:Program}{aK:List Str}{XP:(Str->Option Value)->Heap->Prop}{YP:World->Heap->Prop}{d:DefRec}{K:Params->Fg}{x:Str}(k:Nat)(hn:l.most=some 63)(hdf:d.params.defaults=[])(hr:Z3 k callerA)
  (hY:∀(w:World)(h:Heap),YP w h->(K w.params).In h)
  (F:∀(w:World)(mg:Str->Option Value)(fa:Addr)(h:Heap),(K w.params).In h->h.Ns mainGlobals mg->mg d.name=some (.ref fa)->
   ∃fd:FuncData,(∀(s:Shared)(u:Value),BindsTo s fd ⟨[u],[]⟩ [(x,u)])/\∀base:Heap,(K w.params).In base->base.Ns mainGlobals mg->Yo l.prog w (K w.params) mg base (CXE l.prog w) k fa fd [x] (upF (K w.params) SE)):
  PySem.W.WalkO q aK XP YP l.row.toRowW d [] (λf vs=>PySem.call f vs):=
 L2.CP (n:=63) (k:=k) (x:=x) (CX:=λw=>CXE l.prog w) (sp:=λw=>upF (K w.params) SE) hn (by decide) hdf hr hY F (λ_ _ a ns hl hO hS=>zdU hl hO hS) λ_ _ _ _ _ ⟨_,_,_,_,_,_,_,_,_,_,_,_,z⟩=>z
theorem HQ (K:Fg)(T:String)(h:T∈["int","bool","tuple","str"]):Kit K T:=by
 intro t ht;simp only[zQ,yR,or_false] at h ht;rcases h with rfl|rfl|rfl|rfl<;>rcases ht with rfl|rfl|rfl|rfl|rfl<;>kernel_rfl
theorem ifF {c:Bool}{A B:Prop}(h:c=false)(b:B):if c=true then A else B:=by rw[h];exact YF b
theorem ifP {c A B:Prop} [Decidable c] (h:c)(a:A):if c then A else B:=by rw[if_pos h];exact a
theorem ifD {c:Prop} [Decidable c] {A B:Prop}(h1:c->A)(h2:¬ c->B):if decide c=true then A else B:=by
 by_cases h:c
 ·rw[decide_eq_true h];exact Xf (h1 h)
 ·rw[decide_eq_false h];exact YF (h2 h)
open PySem L2
open PySem L2
theorem Sz.pow (h:Sz n i)(k:Nat):Sz (n*k+1) (i^k):=by
 unfold Sz at *
 rw[Int.natAbs_pow,Nat.pow_succ,Nat.pow_mul];have h1:i.natAbs^k<=(2^n)^k:=Nat.pow_le_pow_left (yY h) k
 have h2:0<(2^n)^k:=yJ (yJ (by decide));omega
theorem ifN {c:Prop} [Decidable c] {A B:Prop}(h1:¬ c->A)(h2:c->B):if (!decide c)=true then A else B:=by
 by_cases h:c
 ·rw[decide_eq_true h];exact L2.YF (h2 h)
 ·rw[decide_eq_false h];exact L2.Xf (h1 h)
end L3
namespace L3
open PySem PySem.Spec PyProof.Rows L2
section
variable {X:Cx}{Z:Zx}{x:Str}{p pos:Pos}{e:Expr}{es:List Expr}{t:TDA}
end
section
variable {X:Cx}{Z:Zx}
theorem HP {r:List Addr}{H:Hp}{a:Addr}{o:HO}(h:H a=none):Ext r r H (upd H a o):=⟨λ_ _ q=>q,λ_ _ q=>Vk h _ _ q,λ_ _ q=>Vk h _ _ q⟩
open PySem.W in
end
end L3
namespace L3
open PySem PySem.Spec PyProof.Rows L2
theorem qt {Q:DK}{S:Sto}{b:Bool}(e:b=true)(h:Q (.bl true) S):Q (.bl b) S:=by rw[e];exact h
theorem Sz.div (h:Sz n i)(hj:1<=j):Sz n (i/j):=by
 refine Nat.lt_of_le_of_lt ?_ h;obtain⟨h1,h2⟩:=Q1 i (show 0<j by omega);by_cases q:0<=i/j
 ·have:=Int.mul_le_mul_of_nonneg_left hj q;omega
 ·have:=Int.mul_le_mul_of_nonneg_left hj (show 0<=-(i/j+1) by omega)
  have e:-(i/j+1)*j=-((i/j+1)*j):=yQ _ _;omega
inductive Sco (n:Nat):D->Prop
 | non:Sco n .non
 | bl (b:Bool):Sco n (.bl b)
 | int (i:Int):Sco n (.int i)
 | str (x:Str):Sco n (.str x)
 | tup {ds:List D}:(∀d∈ds,Sco n d)->Sco n (.tup ds)
 | ref {m:Nat}:m<n->Sco n (.ref m)
 | exc (c:Addr):Sco n (.exc c)
theorem Rp.sco (h:Rp r H d v):Sco r.length d:=by
 induction h with
 | non=>exact .non
 | bl b=>exact .bl b
 | int i=>exact .int i
 | str x=>exact .str x
 | @tup ds xs a _ l _ ih=>
  refine .tup λd hd=>?_
  obtain⟨i,hi,e⟩:=yW.mp hd;exact ih i d xs[i] (by simp[hi,e]) (by simp[l ▸ hi])
 | ref h=>exact .ref (zF.mp h).1
 | exc _=>exact .exc _
theorem Rp.low (h:Rp r' H d v)(low:∀m a,m<r.length->r'[m]?=some a->r[m]?=some a)(s:Sco r.length d):Rp r H d v:=by
 induction h with
 | non=>exact .non
 | bl b=>exact .bl b
 | int i=>exact .int i
 | str x=>exact .str x
 | tup e l f ih=>
  cases s with
  | tup s=>exact .tup e l λi d v h1 h2=>ih i d v h1 h2 (s d (zN h1))
 | ref h=>
  cases s with
  | ref s=>exact .ref (low _ _ s h)
 | exc h=>exact .exc h
def Pre (S S':Sto):Prop:=∀(n:Nat)(o:Ob),S[n]?=some o->S'[n]?=some o
theorem Pre.refl {S:Sto}:Pre S S:=λ_ _ h=>h
theorem Pre.push {S S':Sto}{o:Ob}(h:Pre S S'):Pre S (S'++[o]):=λn u e=>by
 have z:=h n u e;rw[zV (zF.mp z).1];exact z
theorem Pre.trans {S S' S2:Sto}(h:Pre S S')(k:Pre S' S2):Pre S S2:=λn o e=>k n o (h n o e)
theorem Cv (e:Ext r r' H H'):∀m a,m<r.length->r'[m]?=some a->r[m]?=some a:=λm a hm h=>by
 have z:r[m]?=some r[m]:=by simp[hm]
 rw[e.adr _ _ z] at h;rw[z];exact h
theorem Ye.low {K:Fg}{r r':List Addr}{S S':Sto}{H H':Hp}(h:Ye K r S H)(e:Ext r r' H H')(h':Ye K r' S' H')(p:Pre S S'):Ye K r S H':=by
 have rl:∀ {ds:List D} {xs ys:List V},Rps r H ds xs->Rps r' H' ds ys->Rps r H' ds ys:=λ{ds xs ys} a b=>⟨b.1,λi d v h1 h2=>by
  obtain⟨v0,_,q⟩:=a.get h1;exact(b.2 i d v h1 h2).low (Cv e) q.sco⟩
 refine⟨h.len,λn a o h1 h2=>?_,λn m a xs ys h1 h2 h3 h4 o1 o2=>h'.nd n m a xs ys (e.adr _ _ h1) (e.adr _ _ h2) (p _ _ h3) (p _ _ h4) o1 o2⟩;have q:=h.ob n a o h1 h2
 have q':=h'.ob n a o (e.adr _ _ h1) (p _ _ h2);cases o with
 | lst ds=>
  obtain⟨xs,_,a1⟩:=q;obtain⟨ys,b0,b1⟩:=q';exact⟨ys,b0,rl a1 b1⟩
 | frz ds=>
  obtain⟨xs,_,a1⟩:=q;obtain⟨ys,b0,b1⟩:=q';exact⟨ys,b0,rl a1 b1⟩
 | ins C fs=>
  obtain⟨_,_,_,a1⟩:=q;obtain⟨dx,fs',b0,b1⟩:=q';exact⟨dx,fs',b0,b1.1,rl a1.2 b1.2⟩
 | dct aY=>
  obtain⟨_,_,a1⟩:=q;obtain⟨ks,b0,b1⟩:=q';exact⟨ks,b0,b1.1,rl a1.2 b1.2⟩
 | dck aY=>
  obtain⟨_,_,a1⟩:=q;obtain⟨ks,b0,b1⟩:=q';exact⟨ks,b0,b1.1,rl a1.2 b1.2⟩
 | tpl ws=>exact q'
def Gc (S:Sto)(Q:DK):DK:=λd S'=>Pre S S'/\Sco S.length d/\Q d S
def GcX (S:Sto)(ex:Addr->Sto->Prop):Addr->Sto->Prop:=λc S'=>Pre S S'/\ex c S
theorem Ret.gc {K:Fg}{Z Z':Zx}{r:List Addr}{S:Sto}{H:Hp}{Q:DK}{Qv:VK}(h:Ret K Z r H Q Qv)(bC:Rel K Z r S H):Ret K Z' r H (Gc S Q) Qv:=λv H' r' d S' e rel' p q=>by
 obtain⟨pre,sc,q⟩:=q;have e':Ext r r H H':=⟨λ_ _ z=>z,e.tup,e.xc⟩;rw[<- bC.len] at sc;exact h v H' r d S e' ⟨bC.b.low e rel'.b pre,bC.xw.ext e'⟩ (p.low (Cv e) sc) q
theorem UG.gc {K:Fg}{ex:Addr->Sto->Prop}{E:XK}{r:List Addr}{S:Sto}{H:Hp}(bC:Rel K (Zc ex E) r S H):UG K (Zc (GcX S ex) E) r H:=λdl σ c H' r' S' e _ rb q=>by
 obtain⟨pre,q⟩:=q;have e':Ext r r H H':=⟨λ_ _ z=>z,e.tup,e.xc⟩;exact bC.xw [] [] c H' r S e' ⟨rfl,λi d z=>by simp at z⟩ (bC.b.low e rb pre) q
section
variable {P:Program}{w:World}{K:Fg}{mg:Str->Option Value}{base:Heap}
def gcS (sd:Sd):Sd:=λds S Q ex=>∃Q0 ex0,Q=Gc S Q0/\ex=GcX S ex0/\sd ds S Q0 ex0
theorem Xk (h:Yo P w K mg base CX k f fd ps (upF K (gcS sd))):Yo P w K mg base CX k f fd ps (upF K sd):=by
 have imp:∀vs H Q E,upF K sd vs H Q E->upF K (gcS sd) vs H Q E:=λvs H Qv E ⟨ex,r,S,ds,Q,bC,p,q,ret⟩=>
  ⟨GcX S ex,r,S,ds,Gc S Q,⟨bC.b,UG.gc bC⟩,p,⟨Q,ex,rfl,rfl,q⟩,ret.gc bC⟩
 obtain⟨h1,h2⟩:=h;exact⟨λvs H Q E q=>h1 vs H Q E (imp vs H Q E q),λA outer s H args us vs Q E hr e0 hb rv q=>h2 A outer s H args us vs Q E hr e0 hb rv (imp vs H Q E q)⟩
end
theorem Xh (len:∀ds S Q ex,sd ds S Q ex->ds.length=n):∀ds S Q ex,gcS sd ds S Q ex->ds.length=n:=λds S Q ex h=>by
 obtain⟨Q0,ex0,_,_,h⟩:=h;exact len _ _ _ _ h
structure Vx (sc around:Scope)(x:Str)(caps:List Str):Prop where
 kind:sc.kind=.function
 nocell:∀y∈sc.names,y.2≠.cell
 own:∀y∈sc.names,y.2=.local->sc.names.lookup y.1=some .local
 loc:sc.names.lookup x=some .local
 cap:∀y∈caps,sc.names.lookup y=some .free
 out:∀y∈sc.names,y.2=.free->around.names.lookup y.1=some .cell
theorem RN {α:Type}{y:Str}{v:α}:∀ {l:List (Str×α)},l.lookup y=some v->(y,v)∈l
 | [],h=>by simp at h
 | (n,k)::r,h=>by
  cases e:y==n with
  | true=>
   rw[yG,e] at h;have z:k=v:=Option.some.inj h
   have z2:y=n:=by simpa using e
   rw[z,z2];exact xH
  | false=>
   rw[yG,e] at h;exact yU _ (RN h)
theorem HZ:∀(l:List (Str×NameKind))(acc:List (Str×Addr)),(∀y∈l,y.2=.free->∃c,env.cells.lookup y.1=some c)->(∀x c,acc.lookup x=some c->env.cells.lookup x=some c)->
  ∃cl,(forIn l acc λx r=>(if (x.2==NameKind.free)=true then do let a <- cellOf env x.1;pure (ForInStep.yield ((x.1,a)::r)) else pure (ForInStep.yield r):Sem (ForInStep (List (Str×Addr)))))=pure cl/\
   (∀x c,cl.lookup x=some c->env.cells.lookup x=some c)/\(∀y∈l,y.2=.free->cl.lookup y.1=env.cells.lookup y.1)/\∀x c,acc.lookup x=some c->∃c',cl.lookup x=some c'
 | [],acc,_,ha=>⟨acc,by simp,ha,λy hy=>(by cases hy),λx c e=>⟨c,e⟩⟩
 | (n,k)::r,acc,h,ha=>by
  cases hk:(k==NameKind.free) with
  | false=>
   obtain⟨cl,h1,h2,h3,h4⟩:=HZ r acc (λy hy=>h y (yU _ hy)) ha;refine⟨cl,?_,h2,λy hy hf=>?_,h4⟩
   ·rw[List.forIn_cons];simp[hk];simpa using h1
   ·have hy':=zQ.mp hy;rcases hy' with rfl|hy
    ·rw[show k=NameKind.free from hf] at hk;exact absurd hk (by decide)
    ·exact h3 y hy hf
  | true=>
   have hf:k=NameKind.free:=by simpa using hk
   obtain⟨c,hc⟩:=h (n,k) xH hf;obtain⟨cl,h1,h2,h3,h4⟩:=HZ r ((n,c)::acc) (λy hy=>h y (yU _ hy)) (λx c' e=>by
    cases q:x==n with
    | true=>
     rw[yG,q] at e;have z:x=n:=by simpa using q
     rw[z,hc];exact e
    | false=>
     rw[yG,q] at e;exact ha x c' e)
   refine⟨cl,?_,h2,λy hy hf=>?_,λx c' e=>?_⟩
   ·have ec:cellOf env n=pure c:=by unfold cellOf;rw[hc]
    rw[List.forIn_cons];simp[hk,ec];simpa using h1
   ·have hy':=zQ.mp hy;rcases hy' with rfl|hy
    ·obtain⟨c',e⟩:=h4 n c (by simp);rw[e];exact(h2 _ _ e).symm
    ·exact h3 y hy hf
   ·refine h4 x (if x==n then c else c') ?_;cases q:x==n with
    | true=>simp[yG,q]
    | false=>simp[yG,q,e]
theorem DR (h:∀y∈sc.names,y.2=.free->∃c,env.cells.lookup y.1=some c):
  ∃cl,closureFor sc env=pure cl/\(∀x c,cl.lookup x=some c->env.cells.lookup x=some c)/\∀y∈sc.names,y.2=.free->cl.lookup y.1=env.cells.lookup y.1:=by
 obtain⟨cl,h1,h2,h3,_⟩:=HZ sc.names [] h (λx c e=>by simp at e);refine⟨cl,?_,h2,h3⟩;unfold closureFor;simp only[bind_pure];exact h1
theorem Gj {env:Env}:∀ {names:List (Str×NameKind)} {x:Str},names.lookup x=some .free->
  (names.map λ(n,k)=>if (k==NameKind.free&&env.scope.kind==.function&&env.kindOf n==some .cell) then (n,NameKind.cell) else (n,k)).lookup x=some .cell\/
  (names.map λ(n,k)=>if (k==NameKind.free&&env.scope.kind==.function&&env.kindOf n==some .cell) then (n,NameKind.cell) else (n,k)).lookup x=some .free
 | [],_,h=>by simp at h
 | (n,k)::r,x,h=>by
  have ih:=@Gj env r x;rw[yP];cases hx:x==n with
  | true=>
   rw[yG,hx] at h;have hk:k=.free:=Option.some.inj h;subst hk;dsimp only;split
   ·left;simp[yG,hx]
   ·right;simp[yG,hx]
  | false=>
   rw[yG,hx] at h;dsimp only;split
   ·simp only[yG,hx];exact ih h
   ·simp only[yG,hx];exact ih h
theorem Ea {env:Env}:∀ {names:List (Str×NameKind)} {x:Str},(∀y∈names,y.2≠.cell)->
  ((names.map λ(n,k)=>if (k==NameKind.free&&env.scope.kind==.function&&env.kindOf n==some .cell) then (n,NameKind.cell) else (n,k)).lookup x=some .cell\/
  (names.map λ(n,k)=>if (k==NameKind.free&&env.scope.kind==.function&&env.kindOf n==some .cell) then (n,NameKind.cell) else (n,k)).lookup x=some .free)->names.lookup x=some .free
 | [],_,_,h=>by simp at h
 | (n,k)::r,x,hc,h=>by
  have ih:=@Ea env r x λy hy=>hc y (yU _ hy)
  rw[yP] at h;cases hx:x==n with
  | true=>
   rw[yG,hx];dsimp only at h;split at h
   ·rename_i q;simp only[Bool.and_eq_true] at q;have hk:k=.free:=by simpa using q.1.1
    rw[hk]
   ·simp only[yG,hx] at h;rcases h with h|h
    ·exact absurd (Option.some.inj h) (hc (n,k) xH)
    ·exact h
  | false=>
   rw[yG,hx];dsimp only at h;split at h
   ·simp only[yG,hx] at h;exact ih h
   ·simp only[yG,hx] at h;exact ih h
abbrev Cx.comp (X:Cx)(sc:Scope)(N:List Str)(cl:List (Str×Addr))(C:Addr)(s0:Shared)(H0:Hp)(fp:List Addr)(pn:LA):Cx:=
 { X with N:=N,env:=compEnvC sc cl C X.env,s₀:=s0,H₀:=H0,outer:=X.stack,stack:=X.stack,ex:=fp,fn:=λ_=>false,pn:=pn,xe:=λ_ _=>False }
def Yw (caps:List Nat)(σ:St):St:=caps.map λj=>(σ[j]?).join
def YQ (caps:List Nat)(dl:Ev):Ev:=caps.map λj=>(dl[j]?).join
def PY (caps:List Nat)(wi:TI)(tc:TT)(te:TE):TE:=λσ H Q=>wi σ H λJ H1=>∀D,H1 D=none->∃W:Nat->Nat->Hp->Prop,(∃m,W 0 m (upd H1 D (.lst [])))/\∀i m H,W i m H->
 (J.stop i H/\Q (.ref D) H)\/(J.go i H/\∀x H',J.yld i H x H'->tc (some x::Yw caps σ) H' λb H2=>if b=true then te (some x::Yw caps σ) H2 λy H3=>∃ys,H3 D=some (.lst ys)/\ys.length<sizeLine/\∃m',m'<m/\W (i+1) m' (upd H3 D (.lst (ys++[y])))
  else ∃m',m'<m/\W (i+1) m' H2)
def PTs (Y:Cx)(ifs:List Expr)(tc:TT):Prop:=∀(aA:LA)(s:Shared)(σ:St)(H:Hp)(Q:Bool->Hp->Prop),Inv Y aA σ H s->tc σ H Q->
 wpAny (model Y.prog Y.w) Y.A (forIn ifs true λc r=>if r=true then do let ok <- isTrue c Y.env (eval c Y.env);pure (ForInStep.yield ok) else pure (ForInStep.yield r)) (TP Y aA σ Q) Y.xe s
theorem zeJ:PTs Y [] (λ_ H Q=>Q true H):=λ_ _ _ H _ I h=>wpAny_tests_nil ⟨H,I,h⟩
theorem BI (h:PT Y c tc):PTs Y [c] tc:=λaA s σ H Q I q=>wpAny_tests_one (h aA s σ H Q I q)
section
variable {X:Cx}{aA:LA}{σ:St}{H:Hp}{s:Shared}
theorem zch {sc:Scope}{x:Str}{N:List Str}{caps:List Nat}{cl:List (Str×Addr)}{fp:List Addr}{h1:Heap}{m:Str->Option Value}{tk:Nat}(I:Inv X aA σ H s)(cs:Vx sc X.env.scope x N)
  (hN:∀(j:Nat)(y:Str),N[j]?=some y->∃i,caps[j]?=some i/\X.N[i]?=some y)(aU:caps.length=N.length)
  (c1:∀x c,cl.lookup x=some c->X.env.cells.lookup x=some c)(c2:∀y∈sc.names,y.2=.free->cl.lookup y.1=X.env.cells.lookup y.1)
  (hf:∀b∈fp,Xl X aA H b)(hfo:∀b∈fp,b<s.heap.objs.size)(hns:h1.Ns s.heap.objs.size m)(hk:∀b o,s.heap.get? b=some o->h1.get? b=some o):
  Inv (Cx.comp X sc (x::N) cl s.heap.objs.size s H fp (X.pn++aA)) [] (none::Yw caps σ) H { s with heap:=h1,toks:=tk }:=by
 have stk:∀b∈frs X.stack,b=X.env.locals\/b∈X.fs:=λb hb=>zQ.mp (I.stkSub b hb)
 refine⟨⟨I.ok.mod,cs.kind,I.ok.glob,I.ok.blt,zD _,λa b c h1 h2=>I.ok.inj a b c (c1 _ _ h1) (c1 _ _ h2),λy hy=>?_,λ_ _ z=>Bool.noConfusion z,I.ok.hd,I.ok.frames,.inl rfl,λb hb=>⟨zX (hfo b hb),λy c e=>(hf b hb).2.2.2.2.1 y c (c1 _ _ e)⟩,
  I.bs,yK I.ok.bsz I.sz,λb o e hb=>?_,λb hb z=>?_,I.stack,I.stkFree⟩,rfl,I.bare,Un.kept hk,⟨m,hns,λi y v e1 e2 e3=>?_⟩,λy c e=>?_,I.hok.fresh (zD _),λy c e=>I.freeC y c (c1 _ _ e),λp hp=>?_,I.hok.kept hk,?_⟩
 ·have hfr:sc.names.lookup y=some .free:=Ea cs.nocell hy
  have hm:=RN hfr;obtain⟨c,e⟩:=I.ok.has y (.inl (cs.out _ hm rfl));exact⟨c,(c2 _ hm rfl).trans e⟩
 ·rcases (hf b hb).2.2.2.1 with z|z
  ·exact I.ok.noex b o e z
  ·exact absurd (yD (Heap.lt_size (I.ok.bs b o e).1) z) (yL _)
 ·rcases stk b z with z|z
  ·exact(hf b hb).2.1 z
  ·exact(hf b hb).2.2.1 z
 ·cases i with
  | zero=>simp at e2
  | succ i=>
   have e1':N[i]?=some y:=by simpa using e1
   obtain⟨j,hj,hy⟩:=hN i y e1';have e2':σ[j]?=some (some v):=by
    simp only[List.getElem?_cons_succ,Yw,zG,hj,Option.map_some,Option.some.injEq] at e2;cases q:σ[j]? with
    | none=>rw[q] at e2;cases e2
    | some o=>rw[q] at e2;simp at e2;rw[e2]
   have hfr:sc.names.lookup y=some .free:=cs.cap y (zN e1')
   have hm:=RN hfr
   have hce:X.env.scope.names.lookup y=some .cell:=cs.out _ hm rfl;obtain⟨m0,_,hl⟩:=I.loc;obtain⟨u,r,l⟩:=hl j y v hy e2' (.inr (.inl hce));refine⟨u,r,.inr ⟨Gj hfr,?_⟩⟩;rcases l with ⟨k,_⟩|⟨_,c,ec,hcell⟩
   ·rw[show X.env.kindOf y=some .cell from hce] at k;cases k
   ·exact⟨c,(c2 _ hm rfl).trans ec,hcell.keeps hk⟩
 ·obtain⟨v,z⟩:=I.cell y c (c1 _ _ e);exact⟨v,z.keeps hk⟩
 ·have hp':p∈X.pn++aA:=by simpa using hp
  obtain⟨p1,p2,p3,p4,p5⟩:=I.pin p hp';refine⟨hk _ _ p1,p2,zX (Heap.lt_size p1),λz=>?_,p5⟩;rcases stk _ z with z|z
  ·exact p3 z
  ·exact p4 z
 ·simp[Yw,aU]
end
section
variable {X:Cx}{aZ aX:Expr}{x:Str}{px pos:Pos}{ifs:List Expr}{sc:Scope}{N:List Str}{caps:List Nat}{wi:TI}{tc:TT}{te:TE}
structure Cj (X:Cx)(aA:LA)(σ:St)(C:Addr)(Q:VK)(D:Addr)(s':Shared):Prop where
 q:∃H',Inv X aA σ H' s'/\Q (.ref D) H'/\H' C=none
 ns:∃m,s'.heap.Ns C m
 loc:C≠X.env.locals
 old:X.s₀.heap.objs.size<=C
 cell:∀x c,X.env.cells.lookup x=some c->c≠C
 pin:∀p∈X.pn++aA,p.1≠C
theorem EA (hc:X.calm=true)(cs:Vx sc X.env.scope x N)(hN:∀(j:Nat)(y:Str),N[j]?=some y->∃i,caps[j]?=some i/\X.N[i]?=some y)(aU:caps.length=N.length)(hnd:(x::N).Nodup)(hi:PI X (.Name x px) aX wi)(ht:∀cl C s0 H0 fp pn,PTs (Cx.comp X sc (x::N) cl C s0 H0 fp pn) ifs tc)(he:∀cl C s0 H0 fp pn,PE (Cx.comp X sc (x::N) cl C s0 H0 fp pn) aZ te)(hs:∀y,foldedSetIterable aX X.env y=pure y)(I:Inv X aA σ H s)(h:PY caps wi tc te σ H Q)(bB:∀D C s',Cj X aA σ C Q D s'->compPost (model X.prog X.w) X.A X.xe use Qr (.ref D) C (.ok .next) s'):
  wpAny (model X.prog X.w) X.A (comprehension (.ListComp aZ [⟨.Name x px,aX,ifs,0⟩] sc pos) sc X.env p2 (newList []) false (eval aX X.env) use) Qr X.xe s:=by
 obtain⟨cl,k1,k2,k3⟩:=DR (sc:=sc) (env:=X.env) λy hy hf=>I.ok.has y.1 (.inl (cs.out y hy hf))
 refine wpAny_comprehension_free rfl hs k1 cs.kind cs.own (thn (hi aA s σ H _ I h) λv s1 h1=>thn h1 λitv s2 h2=>?_);obtain⟨it,fp,tn,J,H2,e,I2,T,st2,f2,body⟩:=h2;subst e;have hfo:∀b∈fp,b<s2.heap.objs.size:=λb hb=>by
  obtain⟨o,e,_⟩:=T.obj _ _ st2 b hb;exact Heap.lt_size e
 have hD:H2 s2.heap.objs.size=none:=I2.hok.fresh (zD _);obtain⟨W,⟨m0,w0⟩,turn⟩:=body _ hD;refine wpAny_newObj_type ?_;have I3:Inv X aA σ (upd H2 s2.heap.objs.size (.lst [])) { s2 with heap:=s2.heap.push { cls:=.type "list",dict:=none,data:=.seq ([]:List Value).toArray },toks:=s2.toks }:=
  I2.laid (t':=s2.toks) (λb u e=>Heap.get?_push_of_some _ e) (zD _) ⟨zL _,[],0,.nil,Heap.get?_push_size _ rfl⟩
 generalize hs3:({ s2 with heap:=s2.heap.push { cls:=.type "list",dict:=none,data:=.seq ([]:List Value).toArray },toks:=s2.toks }:Shared)=s3 at I3;have es3:({ s2 with heap:=s2.heap.push { cls:=.type "list",dict:=none,data:=.seq ([]:List Value).toArray } }:Shared)=s3:=hs3
 try rw[es3]
 have f3:∀b∈fp,Xl X aA (upd H2 s2.heap.objs.size (.lst [])) b:=λb hb=>⟨by rw[Yn (zX (hfo b hb))];exact(f2 b hb).1,(f2 b hb).2⟩
 have up3:∀b o,s2.heap.get? b=some o->s3.heap.get? b=some o:=λb o e=>by rw[<- hs3];exact Heap.get?_push_of_some _ e
 have st3:tn 0 s3.heap:=T.keep _ _ _ st2 λb _ o e=>up3 b o e
 have hfo3:∀b∈fp,b<s3.heap.objs.size:=λb hb=>by
  obtain⟨o,e,_⟩:=T.obj _ _ st3 b hb;exact Heap.lt_size e
 refine wpAny_newFunctionEnv cs.nocell (λy hy=>by simp at hy) (λh4 ns4 sb4=>?_) cs.kind;have hk4:∀b o,s3.heap.get? b=some o->h4.get? b=some o:=λb o e=>(sb4.2 b (zX (Heap.lt_size e))).trans (Heap.get?_push_of_some _ e)
 have I4:=zch (tk:=s3.toks+([]:List (Str×Value)).length) I3 cs hN aU k2 k3 f3 hfo3 ns4 hk4;generalize hs4:({ s3 with heap:=h4,toks:=s3.toks+([]:List (Str×Value)).length }:Shared)=s4 at I4 ⊢;have eh4:s4.heap=h4:=by rw[<- hs4]
 have st4:tn 0 s4.heap:=by rw[eh4];exact T.keep _ _ _ st3 λb _ o e=>hk4 b o e
 have fY:∀ {H':Hp},(∀b∈fp,H' b=none)->∀b∈fp,Xl (Cx.comp X sc (x::N) cl s3.heap.objs.size s3 (upd H2 s2.heap.objs.size (.lst [])) fp (X.pn++aA)) [] H' b:=λhn b hb=>by
  obtain⟨_,z2,z3,z4,z5,z6⟩:=f3 b hb;refine⟨hn b hb,zX (hfo3 b hb),λz=>?_,.inl hb,λy c e=>z5 y c (k2 _ _ e),λp hp=>z6 p (by simpa using hp)⟩;rcases zQ.mp (I3.stkSub b z) with z|z
  ·exact z2 z
  ·exact z3 z
 have locY:(Cx.comp X sc (x::N) cl s3.heap.objs.size s3 (upd H2 s2.heap.objs.size (.lst [])) fp (X.pn++aA)).env.scope.names.lookup x=some .local:=lookup_relabel_local cs.loc
 have loop:codeAny (model X.prog X.w) X.A (.compLoop (.ListComp aZ [⟨.Name x px,aX,ifs,0⟩] sc pos) 0 (.ref it) (.ref s2.heap.objs.size) (compEnvC sc cl s3.heap.objs.size X.env))
   (compPost (model X.prog X.w) X.A X.xe use Qr (.ref s2.heap.objs.size) s3.heap.objs.size) s4:=by
  refine codeAny_compLoop_tests (λn s'=>∃i o H',Inv (Cx.comp X sc (x::N) cl s3.heap.objs.size s3 (upd H2 s2.heap.objs.size (.lst [])) fp (X.pn++aA)) [] (o::Yw caps σ) H' s'/\tn i s'.heap/\(∀b∈fp,H' b=none)/\W i n H') ?_ m0
   ⟨0,none,_,I4,st4,λb hb=>(f3 b hb).1,w0⟩
  rintro n s5 ⟨i,o,H5,I5,st5,fr5,w5⟩;rcases turn i n H5 w5 with ⟨stop,q⟩|⟨go,step⟩
  ·refine thn (T.done (Cx.comp X sc (x::N) cl s3.heap.objs.size s3 (upd H2 s2.heap.objs.size (.lst [])) fp (X.pn++aA)) rfl rfl rfl hc i [] s5 _ H5 _ I5 (fY fr5) st5 stop) λr s6 ⟨hr,I6⟩=>?_
   subst hr;refine bB _ _ _ ⟨⟨H5,I3.call' I6.os I6.base I6.hok I6.bare (λb hb=>?_),q,I6.free⟩,?_,Nat.ne_of_gt I3.lt,I3.sz,λy c e z=>?_,λp hp z=>?_⟩
   ·obtain⟨_,z2,z3,z4,z5,z6⟩:=f3 b hb;exact⟨z4,z2,z5,z6⟩
   ·obtain⟨m,hm,_⟩:=I6.loc;exact⟨m,hm⟩
   ·obtain⟨v,hv⟩:=I3.cell y c e;exact absurd (z ▸ hv.lt) (yL _)
   ·exact absurd (z ▸ Heap.lt_size (I3.pin p hp).1) (yL _)
  ·refine thn (T.item (Cx.comp X sc (x::N) cl s3.heap.objs.size s3 (upd H2 s2.heap.objs.size (.lst [])) fp (X.pn++aA)) rfl rfl rfl hc i [] s5 _ H5 _ I5 (fY fr5) st5 go) λr s6 ⟨u,hr,h6⟩=>?_
   subst hr;show wpAny _ _ (letOwnedTupleGo (.Name x px) (.ref it) u >>= λ_=>assign (.Name x px) (compEnvC sc cl s3.heap.objs.size X.env) u) _ _ s6;refine wpAny_bind (thn h6 λ_ s7 ⟨y,H7,I7,r7,y7,st7,fr7⟩=>?_);have I7':=I7.pinned (fY fr7) (T.obj _ _ st7);refine wpAny_mono (QX (X:=Cx.comp X sc (x::N) cl s3.heap.objs.size s3 (upd H2 s2.heap.objs.size (.lst [])) fp (X.pn++aA)) (pos:=px) hnd (i:=0) rfl (.inl locY) (.inr locY) _ s7 _ H7 y u (λσ8 H8=>σ8=some y::Yw caps σ/\H8=H7) I7' r7 ⟨rfl,rfl⟩) (λ_ s8 ⟨σ8,H8,I8,e8,e8'⟩=>?_) λ_ _ z=>z.elim
   subst e8;subst e8';have stay:∀ {H':Hp} {s':Shared},Inv (Cx.comp X sc (x::N) cl s3.heap.objs.size s3 (upd H2 s2.heap.objs.size (.lst [])) fp (X.pn++aA)) ([]++Tw fp s7.heap) (some y::Yw caps σ) H' s'->∀m',m'<n->W (i+1) m' H'->
     ∃m,m<n/\∃i o H',Inv (Cx.comp X sc (x::N) cl s3.heap.objs.size s3 (upd H2 s2.heap.objs.size (.lst [])) fp (X.pn++aA)) [] (o::Yw caps σ) H' s'/\tn i s'.heap/\(∀b∈fp,H' b=none)/\W i m H':=λ{H' s'} J m' hm w'=>by
    refine⟨m',hm,i+1,some y,H',J.unpinned,T.keep _ _ _ st7 λb hb o e=>(J.pin (b,o) (yN _ (yN _ (TX hb e)))).1,λb hb=>?_,w'⟩;obtain⟨o,e,d⟩:=T.obj _ _ st7 b hb;exact(J.pin (b,o) (yN _ (yN _ (TX hb e)))).2.1
   refine wpAny_mono (ht _ _ _ _ _ _ _ s8 _ H8 _ I8 (step y H8 y7)) (λb s9 ⟨H9,I9,q9⟩=>?_) λ_ _ z=>z.elim
   cases b with
   | false=>
    rw[if_neg yA] at q9 ⊢;obtain⟨m',hm,w9⟩:=q9;exact stay I9 m' hm w9
   | true=>
    rw[if_pos rfl] at q9 ⊢;refine wpAny_mono (he _ _ _ _ _ _ _ s9 _ H9 _ I9 q9) (λu2 s10 ⟨z,H10,I10,r10,q10⟩=>?_) λ_ _ z=>z.elim
    obtain⟨ys,hD10,hlt,m',hm,w10⟩:=q10;refine wpAny_mono (IX (X:=(Cx.comp X sc (x::N) cl s3.heap.objs.size s3 (upd H2 s2.heap.objs.size (.lst [])) fp (X.pn++aA))) _ s10 _ H10 (.ref s2.heap.objs.size) [z] (.ref s2.heap.objs.size) [u2] (λ_ H'=>H'=upd H10 s2.heap.objs.size (.lst (ys++[z]))) I10 rfl (.cons r10 .nil) ⟨_,ys,z,rfl,rfl,hD10,hlt,rfl⟩) (λ_ s11 ⟨_,H11,I11,_,e11⟩=>?_) λ_ _ z=>z.elim
    subst e11;exact stay I11 m' hm w10
 exact codeAny_compStart_list loop (T.self _ 0 s4 _ _ st4 loop)
theorem V5 (h:caps.map (λi=>X.N[i]?)=N.map some):(∀(j:Nat)(y:Str),N[j]?=some y->∃i,caps[j]?=some i/\X.N[i]?=some y)/\caps.length=N.length:=by
 refine⟨λj y e=>?_,by simpa using congrArg List.length h⟩;have z:(caps.map (λi=>X.N[i]?))[j]?=some (some y):=by rw[h,zG,e];rfl
 rw[zG] at z;cases q:caps[j]? with
 | none=>rw[q] at z;cases z
 | some i=>rw[q] at z;exact⟨i,rfl,by simpa using z⟩
theorem Dj (hc:X.calm=true)(cs:Vx sc X.env.scope x N)(hN:caps.map (λi=>X.N[i]?)=N.map some)(hnd:(x::N).Nodup)
  (hi:PI X (.Name x px) aX wi)(ht:∀cl C s0 H0 fp pn,PTs (Cx.comp X sc (x::N) cl C s0 H0 fp pn) ifs tc)(he:∀cl C s0 H0 fp pn,PE (Cx.comp X sc (x::N) cl C s0 H0 fp pn) aZ te)
  (hs:∀y,foldedSetIterable aX X.env y=pure y:=by intro _;rfl):PE X (.ListComp aZ [⟨.Name x px,aX,ifs,0⟩] sc pos) (PY caps wi tc te):=by
 intro aA s σ H Q I h;rw[eval_ListComp];refine EA (use:=none) hc cs (V5 hN).1 (V5 hN).2 hnd hi ht he hs I h λD C s' f=>?_
 obtain⟨⟨H',I',q,hC⟩,⟨m,ns⟩,l,o,c,p⟩:=f;exact⟨m,ns,λh' sb=>⟨.ref D,H',I'.turned (t':=s'.toks) (λb ob hb e=>(sb.2 b hb).trans e) hC l (.inr o) c p,rfl,q⟩⟩
theorem Ek (hc:X.calm=true)(cs:Vx sc X.env.scope x N)(hN:caps.map (λi=>X.N[i]?)=N.map some)(hnd:(x::N).Nodup)(hi:PI X (.Name x px) aX wi)(ht:∀cl C s0 H0 fp pn,PTs (Cx.comp X sc (x::N) cl C s0 H0 fp pn) ifs tc)(he:∀cl C s0 H0 fp pn,PE (Cx.comp X sc (x::N) cl C s0 H0 fp pn) aZ te)(hNd:X.N.Nodup)(hy:X.N[i]?=some y)(hl:X.env.scope.names.lookup y=some .local)(hsw:swapsWith (.ListComp aZ [⟨.Name x px,aX,ifs,0⟩] sc pos) (some (.Name y py)) spos.line X.env=pure true)(hs:∀y,foldedSetIterable aX X.env y=pure y:=by intro _;rfl):PS X (.Assign [.Name y py] (.ListComp aZ [⟨.Name x px,aX,ifs,0⟩] sc pos) spos) (λE σ H=>PY caps wi tc te σ H λv H1=>E.nx (σ.set i (some v)) H1):=by
 intro aA s σ H E I h;rw[exec_Assign_Name_used (hs:=hsw)];refine wpAny_bind (wpAny_standAt ?_);refine wpAny_bind ?_;show wpAny _ _ (comprehension _ sc X.env _ (newList []) false (eval aX X.env) (some (assign (.Name y py) X.env)) >>= λ_=>pure ()) _ _ s
 refine wpAny_bind (thn (EA (use:=some (assign (.Name y py) X.env)) (Qr:=λ_ s'=>SP X aA E .next s') hc cs (V5 hN).1 (V5 hN).2 hnd hi ht he hs I h λD C s' f=>?_) λ_ s' hq=>wpAny_pure (wpAny_pure hq));obtain⟨⟨H',I',q,hC⟩,⟨m,ns⟩,l,o,c,p⟩:=f;refine wpAny_assign_Name (Ht (v:=.ref D) I' hNd hy (.inl hl) rfl (λs'' I'' ⟨a,sb,ha⟩=>⟨m,ns.sameBut sb ?_,λh' sb'=>⟨_,H',I''.turned (t':=s''.toks) (λb ob hb e=>(sb'.2 b hb).trans e) hC l (.inr o) c p,q⟩⟩) (.inr hl));rcases ha with rfl|ha
 ·exact l
 ·exact Ne.symm (c _ _ ha)
end
section
variable {X:Cx}{Z:Zx}{aZ aX:Expr}{x:Str}{px pos:Pos}{ifs:List Expr}{sc ar:Scope}{N:List Str}{caps:List Nat}
theorem Dh {r:List Addr}{H:Hp}{dl:Ev}{σ:St}{d:D}{v:V}(h:Rs r H dl σ)(p:Rp r H d v):Rs r H (some d::YQ caps dl) (some v::Yw caps σ):=by
 refine⟨by simp[YQ,Yw],λi e hi=>?_⟩;cases i with
 | zero=>simp at hi;subst hi;exact⟨v,rfl,p⟩
 | succ i=>
  simp only[List.getElem?_cons_succ,YQ,zG] at hi;cases q:caps[i]? with
  | none=>rw[q] at hi;cases hi
  | some j=>
   rw[q] at hi;simp only[Option.map_some,Option.some.injEq] at hi;have hj:dl[j]?=some (some e):=by
    cases q2:dl[j]? with
    | none=>rw[q2] at hi;cases hi
    | some o=>rw[q2] at hi;simp at hi;rw[hi]
   obtain⟨w,h1,h2⟩:=h.2 j e hj;refine⟨w,?_,h2⟩;simp only[List.getElem?_cons_succ,Yw,zG,q,Option.map_some,h1,Option.join_some]
def Sr (Y:Cx)(ifs:List Expr)(t:TDT):Prop:=PTs Y ifs (upT Y.K Z0 t)
def Xx:TDT:=λ_ S Q=>Q true S
theorem Yt:Sr Y [] Xx:=λaA s σ H Qb I ⟨r,dl,S,Q,rs,bC,q,ret⟩=>zeJ aA s σ H Qb I (ret true H r S Ext.refl bC q)
theorem Ko (h:PDT Y Z0 c t):Sr Y [c] t:=BI h
def Vd (caps:List Nat)(tc:TDT)(te:TDE)(k:Nat)(dl:Ev)(d:D)(S:Sto)(nx:Sto->Prop):Prop:=
 tc (some d::YQ caps dl) S λb S1=>if b=true then te (some d::YQ caps dl) S1 λy S2=>match S2[k]? with
  | some (.lst ys)=>ys.length<1000/\nx (S2.set k (.lst (ys++[y])))
  | _=>False
 else nx S1
@[irreducible] def XY (caps:List Nat)(tl:TDE)(tc:TDT)(te:TDE):TDE:=λdl S Q=>tl dl S λd S1=>match d with
 | .ref n=>(lAt S1 n).isSome=true/\∃W:Nat->Nat->Sto->Prop,(∃m,W 0 m (S1++[.lst []]))/\∀k m S2,W k m S2->match lAt S2 n with
  | some o=>match (Zu o)[k]? with
   | some y=>Vd caps tc te S1.length dl y S2 λS3=>∃m',m'<m/\W (k+1) m' S3
   | none=>Q (.ref S1.length) S2
  | none=>False
 | _=>False
@[irreducible] def WE (caps:List Nat)(ta:TDA)(tc:TDT)(te:TDE):TDE:=λdl S Q=>ta dl S λds S1=>match ds with
 | [.int j]=>(-(2^62)<=j/\j<2^62)/\∃W:Nat->Sto->Prop,W 0 (S1++[.lst []])/\∀k S2,W k S2->
   if k<j.toNat then Vd caps tc te S1.length dl (.int k) S2 λS3=>W (k+1) S3 else Q (.ref S1.length) S2
 | _=>False
theorem D6 {tc:TDT}{te:TDE}{r2:List Addr}{H2:Hp}{S1 S2:Sto}{dl:Ev}{σ:St}{D0:Addr}{d:D}{v:V}{nx:Sto->Prop}{Nx:Hp->Prop}(rs:Rs r2 H2 dl σ)(ha:r2[S1.length]?=some D0)(rb:Ye X.K r2 S2 H2)(p:Rp r2 H2 d v)
  (h:Vd caps tc te S1.length dl d S2 nx)(hn:∀r' S' H',Ext r2 r' H2 H'->Ye X.K r' S' H'->nx S'->Nx H'):
  upT X.K Z0 tc (some v::Yw caps σ) H2 λb H3=>if b=true then up X.K Z0 te (some v::Yw caps σ) H3 λy H4=>∃ys,H4 D0=some (.lst ys)/\ys.length<sizeLine/\Nx (upd H4 D0 (.lst (ys++[y]))) else Nx H3:=by
 have rsY:Rs r2 H2 (some d::YQ caps dl) (some v::Yw caps σ):=Dh rs p;refine⟨r2,_,S2,_,rsY,⟨rb,λ_ _ _ _ _ _ _ _ _ z=>z.elim⟩,h,λb H3 r3 S3 x3 aH q3=>?_⟩;cases b with
 | false=>rw[if_neg yA] at q3 ⊢;exact hn r3 S3 H3 x3 aH.b q3
 | true=>
  rw[if_pos rfl] at q3 ⊢;refine⟨r3,_,S3,_,rsY.ext x3,aH,q3,λz H4 r4 dz S4 x4 aJ p4 q4=>?_⟩;split at q4
  ·rename_i ys eys;obtain⟨hl,q4⟩:=q4;have ha4:r4[S1.length]?=some D0:=x4.adr _ _ (x3.adr _ _ ha);obtain⟨zs,hD4,pz⟩:=aJ.b.ob _ _ _ ha4 eys;obtain⟨rel5,x5⟩:=aJ.b.set ha4 eys (pz.snoc p4);exact⟨zs,hD4,by rw[<- pz.1];exact Rx (yY hl),hn r4 _ _ (x3.trans (x4.trans x5)) rel5 q4⟩
  ·exact q4.elim
theorem Pq (h:r.length=n):(r++[D0])[n]?=some D0:=by subst h;simp
theorem Dq {tl:TDE}{tc:TDT}{te:TDE}{σ:St}{H:Hp}{Qv:VK}(h:up X.K Z (XY caps tl tc te) σ H Qv):PY caps (Cc X.K (up X.K Z tl)) (upT X.K Z0 tc) (up X.K Z0 te) σ H Qv:=by
 obtain⟨r,dl,S,Q,rs,bC,h,ret⟩:=h;unfold XY at h;refine⟨r,dl,S,_,rs,bC,h,λv H1 r1 d S1 x1 aF p1 q1=>?_⟩;cases p1 with
 | @ref n a hn=>
  obtain⟨aW,W,⟨m0,w0⟩,turn⟩:=q1;have sql:∀ {r':List Addr} {S':Sto} {H':Hp} {o:Ob},Ext r1 r' H1 H'->Ye X.K r' S' H'->lAt S' n=some o->∃xs,SqL X.K H' a xs/\Rps r' H' (Zu o) xs:=λ{r' S' H' o} x' rel' eo=>by
   obtain⟨eo,eL⟩:=Y7 eo;obtain⟨a',ha,ob⟩:=rel'.at eo;rw[x'.adr n a hn] at ha;cases ha
   exact ob.list eL
  obtain⟨o1,eo1⟩:=yV.mp aW;obtain⟨xs1,sq1,_⟩:=sql Ext.refl aF.b eo1;refine⟨a,rfl,⟨xs1,sq1⟩,λD0 hD=>?_⟩;obtain⟨aG,x2⟩:=aF.b.push (ds:=[]) (xs:=[]) hD Rps.nil;refine⟨λk m H'=>∃r' S',Ext (r1++[D0]) r' (upd H1 D0 (.lst [])) H'/\Ye X.K r' S' H'/\W k m S',⟨m0,_,_,Ext.refl,aG,w0⟩,?_⟩;rintro k m H2 ⟨r2,S2,x3,rb2,w2⟩;have ha2:r2[S1.length]?=some D0:=x3.adr _ _ (Pq aF.len)
  have q:=turn k m S2 w2;split at q
  ·rename_i o eo;obtain⟨xs,sq,pr⟩:=sql (x2.trans x3) rb2 eo;split at q
   ·rename_i y ey;obtain⟨v,hv,pv⟩:=pr.get ey;refine .inr ⟨⟨xs,v,sq,hv⟩,λv' H' y'=>?_⟩;obtain⟨eH,y'⟩:=y';subst eH;have ev:v'=v:=by
     have z:=y' xs sq;rw[hv] at z;exact(Option.some.inj z).symm
    subst ev;have z:=D6 (Nx:=λH'=>∃m',m'<m/\∃r' S',Ext (r1++[D0]) r' (upd H1 D0 (.lst [])) H'/\Ye X.K r' S' H'/\W (k+1) m' S') (rs.ext (x1.trans (x2.trans x3))) ha2 rb2 pv q λr' S' H' x' rb' ⟨m',hm,w'⟩=>⟨m',hm,r',S',x3.trans x',rb',w'⟩
    exact z
   ·rename_i ey;have aU:(Zu o).length<=k:=yX.mp ey;exact .inl ⟨⟨xs,sq,by rw[<- pr.1];exact aU⟩,ret _ H2 r2 _ S2 (x1.trans (x2.trans x3)) ⟨rb2,bC.xw.ext (x1.trans (x2.trans x3))⟩ (.ref ha2) q⟩
  ·exact q.elim
 | _=>exact(show False from q1).elim
theorem Cz {ta:TDA}{tc:TDT}{te:TDE}{σ:St}{H:Hp}{Qv:VK}(h:up X.K Z (WE caps ta tc te) σ H Qv):PY caps (E2 (upA X.K Z ta)) (upT X.K Z0 tc) (up X.K Z0 te) σ H Qv:=by
 obtain⟨r,dl,S,Q,rs,bC,h,ret⟩:=h;unfold WE at h;refine⟨r,dl,S,_,rs,bC,h,λvs H1 r1 ds S1 x1 aF p1 q1=>?_⟩;split at q1
 ·rename_i j;obtain⟨v,vs',rfl,p2,p3⟩:=p1.uncons;have z:=p3.unnil;subst z;cases p2;obtain⟨⟨b1,b2⟩,W,w0,turn⟩:=q1;refine⟨j,rfl,b1,b2,λD0 hD=>?_⟩;obtain⟨aG,x2⟩:=aF.b.push (ds:=[]) (xs:=[]) hD Rps.nil;refine⟨λk m H'=>m=j.toNat-k/\∃r' S',Ext (r1++[D0]) r' (upd H1 D0 (.lst [])) H'/\Ye X.K r' S' H'/\W k S',⟨j.toNat,by simp,_,_,Ext.refl,aG,w0⟩,?_⟩;rintro k m H2 ⟨em,r2,S2,x3,rb2,w2⟩;have ha2:r2[S1.length]?=some D0:=x3.adr _ _ (Pq aF.len)
  have q:=turn k S2 w2;split at q
  ·rename_i hk;refine .inr ⟨hk,λv' H' y'=>?_⟩;obtain⟨eH,y'⟩:=y';subst eH;subst y';have pk:Rp r2 H' (.int (k:Int)) (.int (0+(k:Int))):=by rw[Int.zero_add];exact .int _
   have z:=D6 (Nx:=λH'=>∃m',m'<m/\m'=j.toNat-(k+1)/\∃r' S',Ext (r1++[D0]) r' (upd H1 D0 (.lst [])) H'/\Ye X.K r' S' H'/\W (k+1) S') (rs.ext (x1.trans (x2.trans x3))) ha2 rb2 pk q
    λr' S' H' x' rb' w'=>⟨j.toNat-(k+1),by omega,rfl,r',S',x3.trans x',rb',w'⟩
   exact z
  ·rename_i hk;exact .inl ⟨by show j.toNat<=k;omega,ret _ H2 r2 _ S2 (x1.trans (x2.trans x3)) ⟨rb2,bC.xw.ext (x1.trans (x2.trans x3))⟩ (.ref ha2) q⟩
 ·exact q1.elim
theorem WU (har:X.env.scope=ar)(hc:X.calm=true)(cs:Vx sc ar x N)(hN:caps.map (λi=>X.N[i]?)=N.map some)(hnd:(x::N).Nodup)(hl:PD X Z aX tl)(ht:∀cl C s0 H0 fp pn,Sr (Cx.comp X sc (x::N) cl C s0 H0 fp pn) ifs tc)(he:∀cl C s0 H0 fp pn,PD (Cx.comp X sc (x::N) cl C s0 H0 fp pn) Z0 aZ te)(hs:∀y,foldedSetIterable aX X.env y=pure y:=by intro _;rfl):PD X Z (.ListComp aZ [⟨.Name x px,aX,ifs,0⟩] sc pos) (XY caps tl tc te):=by
 subst har;exact Yl (Dj hc cs hN hnd (tc:=upT X.K Z0 tc) (te:=up X.K Z0 te) (Iw hl) ht he hs) λ_ _ _ h=>Dq h
theorem Vu (har:X.env.scope=ar)(hc:X.calm=true)(cs:Vx sc ar x N)(hN:caps.map (λi=>X.N[i]?)=N.map some)(hnd:(x::N).Nodup)(hg:Gl X "range")(hm:X.mg "range"=none)(ha:PDA X Z [a] ta)(ht:∀cl C s0 H0 fp pn,Sr (Cx.comp X sc (x::N) cl C s0 H0 fp pn) ifs tc)(he:∀cl C s0 H0 fp pn,PD (Cx.comp X sc (x::N) cl C s0 H0 fp pn) Z0 aZ te)(hs:∀y,foldedSetIterable (.Call (.Name "range" p) [a] [] aQ) X.env y=pure y:=by intro _;rfl)(hst:starEach [a] X.env=[(false,eval a X.env)]:=by rfl):
  PD X Z (.ListComp aZ [⟨.Name x px,.Call (.Name "range" p) [a] [] aQ,ifs,0⟩] sc pos) (WE caps ta tc te):=by
 subst har;exact Yl (Dj hc cs hN hnd (tc:=upT X.K Z0 tc) (te:=up X.K Z0 te) (Hw hg hm ha hst) ht he hs) λ_ _ _ h=>Cz h
theorem HX {t:TE}{td:TDE}{i:Nat}{F:UH}{σ:St}{H:Hp}(imp:∀Qv,up X.K Z td σ H Qv->t σ H Qv)(h:upS X.K Z (λE dl S=>td dl S λd S1=>E.nx (dl.set i (some d)) S1) F σ H):t σ H λv H1=>F.nx (σ.set i (some v)) H1:=by
 obtain⟨r,dl,S,E,rs,bC,h,ret⟩:=h;exact imp _ ⟨r,dl,S,_,rs,bC,h,λv H1 r1 d S1 x aF p q=>ret.nx _ H1 r1 _ S1 x ((rs.ext x).set i p) aF q⟩
theorem U5 {tl:TDE}{tc:TDT}{te:TDE}{i:Nat}{y:Str}{py spos:Pos}(har:X.env.scope=ar)(hc:X.calm=true)(cs:Vx sc ar x N)(hN:caps.map (λi=>X.N[i]?)=N.map some)(hnd:(x::N).Nodup)(hNd:X.N.Nodup)(hy:X.N[i]?=some y)(hlo:ar.names.lookup y=some .local)
  (hl:PD X Z aX tl)(ht:∀cl C s0 H0 fp pn,Sr (Cx.comp X sc (x::N) cl C s0 H0 fp pn) ifs tc)(he:∀cl C s0 H0 fp pn,PD (Cx.comp X sc (x::N) cl C s0 H0 fp pn) Z0 aZ te)
  (hsw:swapsWith (.ListComp aZ [⟨.Name x px,aX,ifs,0⟩] sc pos) (some (.Name y py)) spos.line X.env=pure true:=by rfl)
  (hs:∀y,foldedSetIterable aX X.env y=pure y:=by intro _;rfl):PDS X Z (.Assign [.Name y py] (.ListComp aZ [⟨.Name x px,aX,ifs,0⟩] sc pos) spos) (Qm i (XY caps tl tc te)):=by
 subst har;exact Xq (Ek hc cs hN hnd (tc:=upT X.K Z0 tc) (te:=up X.K Z0 te) (Iw hl) ht he hNd hy hlo hsw hs) λF σ H h=>HX (λ_ h=>Dq h) h
theorem OV {ta:TDA}{tc:TDT}{te:TDE}{a:Expr}{p aQ:Pos}{i:Nat}{y:Str}{py spos:Pos}(har:X.env.scope=ar)(hc:X.calm=true)(cs:Vx sc ar x N)(hN:caps.map (λi=>X.N[i]?)=N.map some)(hnd:(x::N).Nodup)(hNd:X.N.Nodup)(hy:X.N[i]?=some y)
  (hlo:ar.names.lookup y=some .local)(hg:Gl X "range")(hm:X.mg "range"=none)(ha:PDA X Z [a] ta)
  (ht:∀cl C s0 H0 fp pn,Sr (Cx.comp X sc (x::N) cl C s0 H0 fp pn) ifs tc)(he:∀cl C s0 H0 fp pn,PD (Cx.comp X sc (x::N) cl C s0 H0 fp pn) Z0 aZ te)
  (hsw:swapsWith (.ListComp aZ [⟨.Name x px,.Call (.Name "range" p) [a] [] aQ,ifs,0⟩] sc pos) (some (.Name y py)) spos.line X.env=pure true:=by rfl)
  (hs:∀y,foldedSetIterable (.Call (.Name "range" p) [a] [] aQ) X.env y=pure y:=by intro _;rfl)(hst:starEach [a] X.env=[(false,eval a X.env)]:=by rfl):
  PDS X Z (.Assign [.Name y py] (.ListComp aZ [⟨.Name x px,.Call (.Name "range" p) [a] [] aQ,ifs,0⟩] sc pos) spos) (Qm i (WE caps ta tc te)):=by
 subst har;exact Xq (Ek hc cs hN hnd (tc:=upT X.K Z0 tc) (te:=up X.K Z0 te) (Hw hg hm ha hst) ht he hNd hy hlo hsw hs) λF σ H h=>HX (λ_ h=>Cz h) h
@[irreducible] def Ub (to te:TDE):TDE:=λdl S Q=>to dl S λx S1=>match x with
 | .ref n=>match S1[n]? with
  | some (.lst _)=>te dl S1 λy S2=>match S2[n]? with
   | some (.lst xs)=>if xs.length<1000 then Q .non (S2.set n (.lst (xs++[y]))) else False
   | _=>False
  | _=>False
 | _=>False
theorem Y0 (ho:PD X Z o to)(he:PD X Z e te)(hbase:attributeBase o "append" X.env (eval o X.env)=eval o X.env:=by rfl)(hfew:((backTo aM (starEach [e] X.env)).all (λx=>!x.1)&&(backToKw aM (keywordEach [] X.env)).all (λx=>x.1.isSome)
  &&decide (([e]:List Expr).length+([]:List Keyword).length+(if ([]:List Keyword).isEmpty then 0 else 1)<30))=true:=by rfl)(hline:(aO.endLine==aM.line)=true:=by rfl)(hst:starEach [e] X.env=[(false,eval e X.env)]:=by rfl):
  PD X Z (.Call (.Attribute o "append" aO) [e] [] aM) (Ub to te):=
 Yl (KP PySem.F.plainAttrs_list PySem.F.slot_list_append PySem.F.type_list_append IX ho (V8 he Ph hst) hbase hfew hline hst rfl) λσ H Qv h=>by
  obtain⟨r,dl,S,Q,rs,bC,h,ret⟩:=h;unfold Ub at h;refine⟨r,dl,S,_,rs,bC,h,λv H1 r1 d S1 x1 aF p1 h1=>?_⟩;cases p1 with
  | @ref n a hn=>
   dsimp only at h1;split at h1
   ·rename_i xs0 e0;obtain⟨a',ha,ob⟩:=aF.at e0;rw[hn] at ha;cases ha
    obtain⟨ys,hH,_⟩:=ob;refine⟨.inl ⟨rfl,ys,SqL.of hH⟩,r1,dl,S1,_,rs.ext x1,aF,h1,λv2 H2 r2 d2 S2 x2 aG p2 h2=>?_⟩;split at h2
    ·rename_i xs1 e1;obtain⟨hlt,h2⟩:=KR h2;have ha2:=x2.adr n a hn;obtain⟨zs,hH2,pz⟩:=aG.b.ob n a _ ha2 e1;obtain⟨aH,x3⟩:=aG.set ha2 e1 (pz.snoc p2);exact⟨a,zs,v2,rfl,rfl,hH2,by rw[<- pz.1];exact Rx (yY hlt),ret .non _ r2 .non _ (x1.trans (x2.trans x3)) aH .non h2⟩
    ·exact h2.elim
   ·exact h1.elim
  | _=>exact(show False from h1).elim
def Oe:WC:=λds S Q=>match ds with
 | [.tup xs]=>Q (.ref S.length) (S++[.lst xs])
 | [.ref n]=>match lAt S n with
  | some o=>Q (.ref S.length) (S++[.lst (Zu o)])
  | none=>False
 | _=>False
theorem Uw:YA X (.type "list") (upC X.K Z Oe):=GG zdT λxs H Qv ⟨r,S,ds,Q,bC,ps,q,ret⟩=>by
 unfold Oe at q;split at q
 ·rename_i ys;obtain⟨v,vs,rfl,p1,p2⟩:=ps.uncons;have z:=p2.unnil;subst z;obtain⟨a,zs,rfl,h1,h2⟩:=p1.untup;refine⟨a,zs,rfl,.inr (SqT.of h1),λl hl=>?_⟩;obtain⟨aG,x⟩:=bC.push hl h2;exact ret _ _ _ (.ref S.length) _ x aG (Ue bC.len) q
 ·rename_i n;obtain⟨v,vs,rfl,p1,p2⟩:=ps.uncons;have z:=p2.unnil;subst z;split at q
  ·rename_i o eo;obtain⟨eo,eL⟩:=Y7 eo;obtain⟨a,ha,ob⟩:=bC.at eo;cases p1 with
   | ref h1=>
    rw[h1] at ha;cases ha
    obtain⟨ys,sq,pr⟩:=ob.list eL;refine⟨_,ys,rfl,.inl sq,λl hl=>?_⟩;obtain⟨aG,x⟩:=bC.push hl pr;exact ret _ _ _ (.ref S.length) _ x aG (Ue bC.len) q
  ·exact q.elim
 ·exact q.elim
def X0:List D->Option (List Bool)
 | []=>some []
 | .bl b::r=>(X0 r).map (b::·)
 | _::_=>none
def P7 (g:List Bool->Bool):WC:=λds S Q=>match ds with
 | [.ref n]=>match lAt S n with
  | some o=>match X0 (Zu o) with
   | some bs=>Q (.bl (g bs)) S
   | none=>False
  | none=>False
 | _=>False
theorem Em {r:List Addr}{H:Hp}:∀ {ds:List D} {bs:List Bool} {vs:List V} {us:List Value},X0 ds=some bs->Rps r H ds vs->ZG vs us->us=bs.map Value.bool
 | [],bs,vs,us,e,p,q=>by
  have z:=p.unnil;subst z;cases q;simp[X0] at e;subst e;rfl
 | d::ds,bs,vs,us,e,p,q=>by
  obtain⟨v,vs',rfl,p1,p2⟩:=p.uncons;cases d with
  | bl b=>
   cases p1;cases q with
   | cons q1 q2=>
    have q1':_=Value.bool b:=q1;subst q1';simp only[X0,zP] at e;obtain⟨ms,e1,rfl⟩:=e;rw[Em e1 p2 q2];rfl
  | _=>simp[X0] at e
theorem zd9 {bs:List Bool}:(List.range bs.length).all (λi=>bs.getD i false)=bs.all id:=by
 rw[xP];rw[List.all_eq_true,List.all_eq_true];refine⟨λh b hb=>?_,λh i hi=>?_⟩
 ·obtain⟨i,hi,e⟩:=yW.mp hb;have hb':=h i (xG.mpr hi);simpa [hi,e] using hb'
 ·have hi':i<bs.length:=xG.mp hi
  have:=h bs[i] (zZ hi');simpa [hi'] using this
theorem zbt {prog:Program}{w:World}{A:Around}{bs:List Bool}:TruthOf prog w A (λi v=>(bs.map Value.bool).toArray[i]?=some v) λi=>bs.getD i false:=λi v s Q E hP hQ=>by
  have e:(bs.map Value.bool)[i]?=some v:=by simpa using hP
  rw[zG] at e;cases q:bs[i]? with
  | none=>
   rw[q] at e;cases e
  | some b=>
    rw[q] at e;have z:Value.bool b=v:=by simpa using e
    subst z;have z2:bs.getD i false=b:=by simp[zK,q]
    have hQ':Q (bs.getD i false) s:=hQ;rw[z2] at hQ';exact wpAny_truthy_bool hQ'
theorem Ao {n:Nat}{a:Addr}{o:Ob}{bs:List Bool}{aA:LA}{σ:St}{H:Hp}{s:Shared}{r:List Addr}{S:Sto}{Q:DK}{Qv:VK}{E:Value->Shared->Prop}{g:List Bool->Bool}(G:List Nat->(Nat->Bool)->Bool)
  (hG:G (List.range bs.length) (λi=>bs.getD i false)=g bs)(hc:X.calm=true)(I:Inv X aA σ H s)(bC:Rel X.K Z r S H)(hn:r[n]?=some a)(eo:lAt S n=some o)(eb:X0 (Zu o)=some bs)(q:Q (.bl (g bs)) S)(ret:Ret X.K Z r H Q Qv):
  wpAny (model X.prog X.w) X.A.in1 (pyIter (.ref a)) (λit s₂=>∃I fp wr n P' St tr,it=.ref I/\Walks X.prog X.w X.A.in1 I fp wr n P' St/\St 0 s₂.heap/\TruthOf X.prog X.w X.A.in1 P' tr/\
   ∀h' tk,(∀b o,b ∉ wr->s₂.heap.get? b=some o->h'.get? b=some o)->EP X aA σ Qv (.bool (G (List.range n) tr)) { s₂ with heap:=h',toks:=tk }) E s:=by
 obtain⟨eo,eL⟩:=Y7 eo;obtain⟨a',ha,ob⟩:=bC.at eo;rw[hn] at ha;cases ha
 obtain⟨ys,sq,pr⟩:=ob.list eL;obtain⟨bA,ri,pl,hz⟩:=I.list sq;have eits:=Em eb pr ri;subst eits;refine wpAny_pyIter_list pl.isList ?_;have hne:a≠s.heap.objs.size:=zX (by
  obtain⟨ob,e,_⟩:=pl.isList;exact Heap.lt_size e)
 refine⟨s.heap.objs.size,_,_,_,_,_,λi=>bs.getD i false,rfl,Walks.list (show X.A.in1.handled=none from I.ok.hd hc) _ a hne (bs.map Value.bool).toArray,⟨⟨_,Heap.get?_push_size _ rfl,rfl,rfl⟩,pl.isList.at λo e=>Heap.get?_push_of_some _ e⟩,zbt,λh' tk hk=>?_⟩;have ez:(bs.map Value.bool).toArray.size=bs.length:=by simp
 rw[ez,hG];refine⟨.bl (g bs),H,I.kept λb o e=>hk b o (λz=>?_) (Heap.get?_push_of_some _ e),rfl,ret _ _ _ _ _ Ext.refl bC (.bl _) q⟩;have z':b=s.heap.objs.size:=by simpa using z
 exact absurd (z' ▸ Heap.lt_size e) (yL _)
theorem zcZ {id:String}{g:List Bool->Bool}(rule:∀(aA:LA)(σ:St)(H:Hp)(s:Shared)(r:List Addr)(S:Sto)(Q:DK)(Qv:VK)(n:Nat)(a:Addr)(o:Ob)(bs:List Bool),Inv X aA σ H s->Rel X.K Z r S H->r[n]?=some a->lAt S n=some o->X0 (Zu o)=some bs->
   Q (.bl (g bs)) S->Ret X.K Z r H Q Qv->wpAny (model X.prog X.w) X.A (call (.builtin id) [.ref a]) (EP X aA σ Qv) X.xe s):YA X (.builtin id) (upC X.K Z (P7 g)):=by
 intro aA s σ H xs us Qv I rv h;obtain⟨r,S,ds,Q,bC,ps,q,ret⟩:=h;unfold P7 at q;split at q
 ·rename_i n;obtain⟨v,vs,rfl,p1,p2⟩:=ps.uncons;have z:=p2.unnil;subst z;split at q
  ·rename_i o eo;split at q
   ·rename_i bs eb;cases p1 with
    | ref h1=>
     obtain⟨u,rfl,ru⟩:=W5 rv;cases ru;exact rule aA σ H s r S Q Qv n _ o bs I bC h1 eo eb q ret
   ·exact q.elim
  ·exact q.elim
 ·exact q.elim
theorem Ck (hc:X.calm=true):YA X (.builtin "all") (upC X.K Z (P7 λbs=>bs.all id)):=
 zcZ λ_ _ _ _ _ _ _ _ _ _ _ _ I bC h1 eo eb q ret=>call_all_walk (Ao (g:=λbs=>bs.all id) (λl f=>l.all f) zd9 hc I bC h1 eo eb q ret)
@[irreducible] def irr (w:WC):WC:=w
@[irreducible] def Xs (w:W2):W2:=w
theorem Vr (w:WC):irr w=w:=by unfold irr;rfl
theorem WS (w:W2):Xs w=w:=by unfold Xs;rfl
theorem ZO (h:YA X f (upC X.K Z w)):YA X f (upC X.K Z (irr w)):=by rw[Vr];exact h
theorem zcY (ha:PD X Z a ta)(hb:PD X Z b tb)(hs:QN b):PD X Z (.Subscript a b pos) (dOp (Xs wIx) ta tb):=by rw[WS];exact Eo ha hb hs
theorem ZE {a b:Expr}{ta tb:TDE}(ha:PD X Z a ta)(hb:PD X Z b tb)(hs:QN b:=by exact λ_ _=>rfl):PD X Z (.Subscript a b pos) (dOp (Xs wIx) ta tb):=zcY ha hb hs
theorem Zv (S:Sto)(o:Ob):(S++[o])[S.length]?=some o:=by simp
theorem WB {S:Sto}{o u:Ob}{n:Nat}(h:S[n]?=some o):(S++[u])[n]?=some o:=by
 rw[zV (zF.mp h).1];exact h
theorem Wz {tl te:TDE}{dl:Ev}{S S1:Sto}{Q:DK}{n:Nat}{o:Ob}(g:D->D)(htl:∀K:DK,K (.ref n) S1->tl dl S K)(h1:S1[n]?=some o)(hl:(Zu o).length<=1000)
  (ht:∀x∈Zu o,∀(S2:Sto)(K:DK),Pre S1 S2->K (g x) S2->te (some x::YQ caps dl) S2 K)(hq:Q (.ref S1.length) (S1++[.lst ((Zu o).map g)]))(hL:Xj o=some o:=by rfl):XY caps tl Xx te dl S Q:=by
 unfold XY;refine htl _ ⟨by rw[Z1 h1 hL];rfl,λk m S2=>S2=S1++[.lst (((Zu o).take k).map g)]/\m+k=(Zu o).length,⟨(Zu o).length,by simp,by omega⟩,?_⟩;rintro k m S2 ⟨rfl,hm⟩;rw[Z1 (WB h1) hL];dsimp only;split
 ·rename_i x hx;have hk:k<(Zu o).length:=(zF.mp hx).1;unfold Vd Xx;simp only[if_true];refine ht x (zN hx) _ _ Pre.refl.push ?_;rw[Zv];refine⟨by simp;omega,m-1,by omega,?_,by omega⟩;have e:(Zu o).take (k+1)=(Zu o).take k++[x]:=by rw[xB,hx];rfl
  rw[e,yC,List.set_append_right _ _ (zD _)];simp
 ·rename_i hx;have hk:(Zu o).length<=k:=yX.mp hx;rw[yB hk];exact hq
theorem AJ (h:X0 (Zu o)=some bs):Xj o=some o:=by
 cases o<;>first|rfl|cases h
theorem DT (h:XC (Zu o)=some xs):Xj o=some o:=by
 cases o<;>first|rfl|cases h
theorem EN (h:S[n]?=some o)(hb:X0 (Zu o)=some bs)(hq:Q (.bl (g bs)) S):irr (P7 g) [.ref n] S Q:=by
 rw[Vr];unfold P7;simp only[Z1 h (AJ hb),hb];exact hq
theorem Ua (h:S[n]?=some o)(hb:XC (Zu o)=some xs)(hne:xs≠[])(hq:∀m,m∈xs->(∀y∈xs,le y m)->Q (.int m) S):irr (Ts le two) [.ref n] S Q:=by
 rw[Vr];unfold Ts;simp only[Z1 h (DT hb),hb];exact⟨hne,hq⟩
theorem U4 (h:lAt S n=some o)(hq:Q (.ref S.length) (S++[.lst (Zu o)])):irr Oe [.ref n] S Q:=by
 rw[Vr];unfold Oe;simp only[h];exact hq
theorem VR {to te:TDE}{dl:Ev}{S S1:Sto}{Q:DK}{n:Nat}{xs:List D}{y:D}(hto:∀K:DK,K (.ref n) S1->to dl S K)(h:S1[n]?=some (.lst xs))(hte:∀K:DK,K y S1->te dl S1 K)(hl:xs.length<1000)(hq:Q .non (S1.set n (.lst (xs++[y])))):Ub to te dl S Q:=by
 unfold Ub;refine hto _ ?_;simp only[h];refine hte _ ?_;simp only[h];exact ifP hl hq
end
theorem VQ:Sco n (.tup [.int x,.int y]):=.tup λd hd=>by
 have z:d=.int x\/d=.int y:=by simpa using hd
 rcases z with rfl|rfl<;>exact .int _
open PySem PySem.Spec PyProof.Rows L2 PySem.W Builtin Builtin.ObjectAttr Builtin.Getset_descriptor
def eqN:Nat->D->D->Option Bool
 | 0=>eqF
 | k+1=>eqT (eqN k)
theorem Cp:∀k,Sy (eqN k)
 | 0=>Rc
 | k+1=>Ex (Cp k)
theorem Gy:∀k,VV k (eqN k)
 | 0=>Jg 0
 | k+1=>DW (Gy k) (Cp k)
section
variable {X:Cx}{Z:Zx}
def Xw (f:D->D->Option Bool):List D->D->Option Bool
 | [],_=>some false
 | y::ys,x=>match f y x,Xw f ys x with
  | some b,some c=>some (b||c)
  | _,_=>none
def wIn (k:Nat)(neg:Bool):W2:=λx y S Q=>match y with
 | .ref n=>match lAt S n with
  | some o=>match Xw (eqN k) (Zu o) x with
   | some b=>Q (.bl (if neg then !b else b)) S
   | none=>False
  | none=>False
 | _=>False
theorem CC (h:ZH v u)(h':ZH v' u):v=v':=by
 cases v<;>cases v'<;>simp[L2.ZH] at h h'<;>first
  | rfl
  | (subst h;simp at h';subst h';rfl)
  | (obtain⟨t,rfl⟩:=h;simp at h';subst h';rfl)
  | (obtain⟨t,rfl⟩:=h;simp at h')
  | (subst h;simp at h')
  | skip
theorem Oa (p:Rp r H d v)(p':Rp r H d' v)(e:eqF d x=some b)(e':eqF d' x=some b'):b=b':=by
 have z:d=d':=by
  cases p<;>cases p'<;>first
   | rfl
   | (cases x<;>simp[eqF] at e)
   | (cases x<;>simp[eqF] at e')
 subst z;rw[e] at e';exact Option.some.inj e'
theorem Dk (hf:∀(d d' x:D)(v:V)(b b':Bool),Rp r H d v->Rp r H d' v->f d x=some b->f d' x=some b'->b=b'):
  ∀ {ds ds' zs:List D} {vs:List V} {b b':Bool},Rps r H ds vs->Rps r H ds' vs->eqL f ds zs=some b->eqL f ds' zs=some b'->b=b'
 | [],ds',zs,vs,b,b',p,p',e,e'=>by
  have z:=p.unnil;subst z;cases ds' with
  | nil=>rw[e] at e';exact Option.some.inj e'
  | cons y ys=>exact absurd p'.1 (by simp)
 | d::ds,ds',zs,vs,b,b',p,p',e,e'=>by
  obtain⟨v,vs',rfl,p1,p2⟩:=p.uncons;cases ds' with
  | nil=>exact absurd p'.1 (by simp)
  | cons d' ds'=>
   obtain⟨q1,q2⟩:=p'.tail;cases zs with
   | nil=>
    simp only[eqL,Option.some.injEq] at e e';exact e.symm.trans e'
   | cons z zs=>
    unfold eqL at e e';split at e
    ·rename_i b1 c1 a1 a2;split at e'
     ·rename_i b2 c2 a3 a4;have h1:=hf d d' z v b1 b2 p1 q1 a1 a3
      have h2:=Dk hf p2 q2 a2 a4;subst h1 h2;simp only[Option.some.injEq] at e e';exact e.symm.trans e'
     ·cases e'
    ·cases e
theorem Gm:∀(k:Nat) {r:List Addr} {H:Hp} (d d' x:D) (v:V) (b b':Bool),Rp r H d v->Rp r H d' v->eqN k d x=some b->eqN k d' x=some b'->b=b'
 | 0,r,H,d,d',x,v,b,b',p,p',e,e'=>Oa p p' e e'
 | k+1,r,H,d,d',x,v,b,b',p,p',e,e'=>by
  cases p with
  | tup h1 l1 f1=>
   cases p' with
   | tup h2 l2 f2=>
    rw[h1] at h2;cases h2
    cases x with
    | tup zs=>exact Dk (λd d' x v b b'=>Gm k d d' x v b b') ⟨l1,f1⟩ ⟨l2,f2⟩ e e'
    | _=>simp[eqN,eqT,eqF] at e
   | ref h=>cases x<;>simp[eqN,eqT,eqF] at e'
   | exc h=>cases x<;>simp[eqN,eqT,eqF] at e'
  | non=>exact Oa (x:=x) .non p' (by cases x<;>exact e) (by cases p'<;>cases x<;>exact e')
  | bl i=>exact Oa (x:=x) (.bl i) p' (by cases x<;>exact e) (by cases p'<;>cases x<;>exact e')
  | int i=>exact Oa (x:=x) (.int i) p' (by cases x<;>exact e) (by cases p'<;>cases x<;>exact e')
  | str i=>exact Oa (x:=x) (.str i) p' (by cases x<;>exact e) (by cases p'<;>cases x<;>exact e')
  | ref h=>cases x<;>simp[eqN,eqT,eqF] at e
  | exc h=>cases x<;>simp[eqN,eqT,eqF] at e
theorem DG:∀ {ys:List D} {b:Bool},Xw f ys x=some b->(∀y∈ys,∃c,f y x=some c)/\(b=true↔∃y∈ys,f y x=some true)
 | [],b,e=>by
  simp only[Xw,Option.some.injEq] at e;subst e;simp
 | y::ys,b,e=>by
  unfold Xw at e;split at e
  ·rename_i b1 c1 e1 e2;obtain⟨h1,h2⟩:=DG e2;simp only[Option.some.injEq] at e;subst e;refine⟨λz hz=>?_,?_⟩
   ·rcases zQ.mp hz with rfl|hz'
    ·exact⟨b1,e1⟩
    ·exact h1 z hz'
   ·rw[Bool.or_eq_true,h2];refine⟨λq=>?_,λ⟨z,hz,q⟩=>?_⟩
    ·rcases q with q|⟨z,hz,q⟩
     ·exact⟨y,xH,by rw[e1,q]⟩
     ·exact⟨z,yU _ hz,q⟩
    ·rcases zQ.mp hz with rfl|hz'
     ·left
      rw[e1] at q;exact Option.some.inj q
     ·exact .inr ⟨z,hz',q⟩
  ·cases e
theorem CA (I:Inv X aA σ H s)(hu:A.units+k<cLine)(p:Rps r H ds vs)(rv:ZG vs us)(px:Rp r H dx x)(rx:ZH x u)(e:Xw (eqN k) ds dx=some b):∃g:Value->Bool,(∀y,y∈us.toArray->SeqAt.EqAt A s y u (g y))/\us.toArray.any g=b:=by
 obtain⟨h1,h2⟩:=DG e;have at_:∀y∈us,∃d v,d∈ds/\Rp r H d v/\ZH v y:=λy hy=>by
  obtain⟨j,hj,ej⟩:=yW.mp hy;have hv:j<vs.length:=by rw[rv.length];exact hj
  have gv:vs[j]?=some vs[j]:=by simp[hv]
  obtain⟨w,gw,rw'⟩:=rv.get gv;obtain⟨d,gd,pd⟩:=p.get' gv;have ew:w=y:=by
   rw[zC hj,ej] at gw;exact(Option.some.inj gw).symm
  subst ew;exact⟨d,_,zN gd,pd,rw'⟩
 classical
 refine⟨λy=>decide (∃d v,d∈ds/\Rp r H d v/\ZH v y/\eqN k d dx=some true),λy hy=>?_,?_⟩
 ·obtain⟨d,v,hd,pd,rd⟩:=at_ y (by simpa using hy);obtain⟨c,hc⟩:=h1 d hd;have same:decide (∃d v,d∈ds/\Rp r H d v/\ZH v y/\eqN k d dx=some true)=c:=by
   cases c with
   | true=>exact decide_eq_true ⟨d,v,hd,pd,rd,hc⟩
   | false=>
    refine decide_eq_false λ⟨d',v',_,pd',rd',hc'⟩=>?_
    have ev:=CC rd rd';subst ev;exact absurd (Gm k d d' dx v false true pd pd' hc hc') (by decide)
  show SeqAt.EqAt A s y u (decide _);rw[same];exact Gy k X aA σ H s r A d dx v x y u c I hu pd px rd rx hc
 ·rw[xP,h2,List.any_toArray,List.any_eq_true];refine⟨λ⟨y,hy,q⟩=>?_,λ⟨d,hd,q⟩=>?_⟩
  ·obtain⟨d,v,hd,_,_,q'⟩:=of_decide_eq_true q;exact⟨d,hd,q'⟩
  ·obtain⟨j,hj,ej⟩:=yW.mp hd;have gd:ds[j]?=some d:=by simp[hj,ej]
   obtain⟨v,gv,pv⟩:=p.get gd;obtain⟨w,gw,rw'⟩:=rv.get gv;exact⟨w,zN gw,decide_eq_true ⟨d,v,hd,pv,rw',q⟩⟩
theorem do_in (k:Nat)(hu:X.A.units+1+k<cLine):OpR X (compareOp .In) (upO X.K Z (wIn k false)):=by
 intro aA s σ H x y v u Qv I rx ry h;obtain⟨r,S,dx,dy,Q,bC,px,py,q,ret⟩:=h;cases py with
 | @ref n a hn=>
  unfold wIn at q;dsimp only at q;split at q
  ·rename_i o eo;split at q
   ·rename_i b eb;cases ry;obtain⟨eo,eL⟩:=Y7 eo;obtain⟨a',ha,ob⟩:=bC.at eo;rw[hn] at ha;cases ha
    obtain⟨ys,sq,pr⟩:=ob.list eL;obtain⟨us,ru,pl,_⟩:=I.list sq;obtain⟨g,g1,g2⟩:=CA (A:=X.A.in1) I (by show X.A.units+1+k<_;omega) pr ru px rx eb;refine SeqAt.in_listAt g pl.isList g1 ?_;rw[g2];exact⟨.bl b,H,I,rfl,ret _ _ _ _ _ Ext.refl bC (.bl b) q⟩
   ·exact q.elim
  ·exact q.elim
 | _=>exact(show False from q).elim
theorem AI (k:Nat)(hu:X.A.units+1+k<cLine):OpR X (compareOp .NotIn) (upO X.K Z (wIn k true)):=by
 intro aA s σ H x y v u Qv I rx ry h;obtain⟨r,S,dx,dy,Q,bC,px,py,q,ret⟩:=h;cases py with
 | @ref n a hn=>
  unfold wIn at q;dsimp only at q;split at q
  ·rename_i o eo;split at q
   ·rename_i b eb;cases ry;obtain⟨eo,eL⟩:=Y7 eo;obtain⟨a',ha,ob⟩:=bC.at eo;rw[hn] at ha;cases ha
    obtain⟨ys,sq,pr⟩:=ob.list eL;obtain⟨us,ru,pl,_⟩:=I.list sq;obtain⟨g,g1,g2⟩:=CA (A:=X.A.in1) I (by show X.A.units+1+k<_;omega) pr ru px rx eb;refine SeqAt.notIn_listAt g pl.isList g1 ?_;rw[g2];exact⟨.bl (!b),H,I,rfl,ret _ _ _ _ _ Ext.refl bC (.bl (!b)) q⟩
   ·exact q.elim
  ·exact q.elim
 | _=>exact(show False from q).elim
end
section
variable {X:Cx}{Z:Zx}{pos:Pos}
def Rt:List Nat->List D->Ev->Ev
 | i::is,d::ds,dl=>Rt is ds (dl.set i (some d))
 | _,_,dl=>dl
def Ji:List Nat->List V->St->St
 | i::is,v::vs,σ=>Ji is vs (σ.set i (some v))
 | _,_,σ=>σ
theorem FC {r:List Addr}{H:Hp}:∀ {is:List Nat} {ds:List D} {vs:List V} {dl:Ev} {σ:St},Rs r H dl σ->Rps r H ds vs->Rs r H (Rt is ds dl) (Ji is vs σ)
 | [],ds,vs,dl,σ,h,p=>by cases ds<;>cases vs<;>exact h
 | i::is,[],vs,dl,σ,h,p=>by
  have z:=p.unnil;subst z;exact h
 | i::is,d::ds,vs,dl,σ,h,p=>by
  obtain⟨v,vs',rfl,p1,p2⟩:=p.uncons;show Rs r H (Rt is ds (dl.set i (some d))) (Ji is vs' (σ.set i (some v)));exact FC (Rs.set i h p1) p2
inductive Nms (X:Cx):List Expr->List Nat->Prop
 | nil:Nms X [] []
 | cons {x:Str} {p:Pos} {i:Nat} {es:List Expr} {is:List Nat}:X.N[i]?=some x->Loc X.env.scope x->(X.fn x=true\/X.env.scope.names.lookup x=some .local)->Nms X es is->Nms X (.Name x p::es) (i::is)
def SS (is:List Nat):TGs:=λvs σ H Q=>vs.length=is.length/\Q (Ji is vs σ) H
theorem TZ (hN:X.N.Nodup):∀ {es:List Expr} {is:List Nat},Nms X es is->PGs X es (SS is)
 | _,_,.nil=>λaA s σ H vs us Q I r h=>by
  obtain⟨e,h⟩:=h;have z:vs=[]:=by simpa using e
  subst z;exact zeg aA s σ H [] us Q I r ⟨rfl,h⟩
 | _,_,.cons (x:=x) (p:=p) (es:=es) (is:=is) h1 h2 h3 t=>λaA s σ H vs us Q I r h=>by
  obtain⟨e,h⟩:=h;cases vs with
  | nil=>simp at e
  | cons v vs=>exact zam (QX hN h1 h2 h3) (TZ hN t) rfl aA s σ H (v::vs) us Q I r ⟨v,vs,rfl,by simpa using e,h⟩
def dSetT (is:List Nat)(te:TDE):TDS:=λE dl S=>te dl S λd S1=>match d with
 | .tup xs=>xs.length=is.length/\E.nx (Rt is xs dl) S1
 | _=>False
theorem zdf (hc:X.calm=true)(hN:X.N.Nodup)(hn:Nms X es is)(he:PD X Z e te)(aU:(assignEach es X.env).length=is.length:=by rfl)(hst:(assignEach es X.env).findIdx? (·.1)=none:=by rfl)(hs:swapsWithSole [.Tuple es k p] e pos.line X.env=pure false:=by rfl)(hw:swappedStores [.Tuple es k p] e X.env=pure none:=by rfl)(h1:(assignEach [.Tuple es k p] X.env).map (·.2)=[assign (.Tuple es k p) X.env]:=by rfl):PDS X Z (.Assign [.Tuple es k p] e pos) (dSetT is te):=
 Xq (Ep he (RM hc (TZ hN hn) aU hst) hs hw h1) λF σ H ⟨r,dl,S,E,rs,bC,h,ret⟩=>by
  refine⟨r,dl,S,_,rs,bC,h,λv H1 r1 d S1 x1 aF p1 q1=>?_⟩;cases p1 with
  | @tup ds xs a e1 l1 f1=>
   obtain⟨hl,q⟩:=q1;exact⟨a,xs,rfl,SqT.of e1,by rw[<- l1];exact hl,by rw[<- l1];exact hl,ret.nx _ H1 r1 _ S1 x1 (FC (rs.ext x1) ⟨l1,f1⟩) aF q⟩
  | _=>exact(show False from q1).elim
end
open PySem L2
theorem SJ (S:Sto)(o u:Ob):(S++[o]).set S.length u=S++[u]:=by simp
def Ds:Sd:=λ_ _ _ _=>False
def Df.never {P:Program}{w:World}{K:Fg}{mg:Str->Option Value}{base:Heap}{x:Str}{st:Stmt}{ps:List Str}(k:Nat)(d:Df K mg x st ps):Fk P w K mg base k x ps Ds:=
 ⟨d.f,d.fd,⟨λ_ _ _ _ ⟨_,_,_,_,_,_,_,z,_⟩=>z.elim,λ_ _ _ _ _ _ _ _ _ _ _ _ _ ⟨_,_,_,_,_,_,_,z,_⟩=>z.elim⟩,d.m,d.F.kp,d.b⟩
section
variable {X:Cx}{Z:Zx}{aZ aX:Expr}{x:Str}{px pos:Pos}{ifs:List Expr}{sc ar:Scope}{N:List Str}{caps:List Nat}
theorem Vi {ta:TDA}{te:TDE}{dl:Ev}{S S1:Sto}{Q:DK}{j:Int}(g:Nat->D)(hta:∀K:List D->Sto->Prop,K [.int j] S1->ta dl S K)(hj:0<=j/\j<=1000)
  (ht:∀k:Nat,k<j.toNat->∀(S2:Sto)(K:DK),Pre S1 S2->K (g k) S2->te (some (.int k)::YQ caps dl) S2 K)(hq:Q (.ref S1.length) (S1++[.lst ((List.range j.toNat).map g)])):WE caps ta Xx te dl S Q:=by
 unfold WE;refine hta _ ⟨⟨by omega,by omega⟩,λk S2=>S2=S1++[.lst ((List.range k).map g)]/\k<=j.toNat,⟨by simp,by omega⟩,?_⟩;rintro k S2 ⟨rfl,hk⟩;split
 ·rename_i hk';unfold Vd Xx;simp only[if_true];refine ht k hk' _ _ Pre.refl.push ?_;rw[Zv];refine⟨by simp;omega,?_,by omega⟩;rw[List.range_succ,yC,List.set_append_right _ _ (zD _)];simp
 ·have e:k=j.toNat:=by omega
  subst e;exact hq
end
section
variable {X:Cx}{Z:Zx}{pos:Pos}
abbrev TDO:=Ev->Sto->(Option Int->Sto->Prop)->Prop
def upP (K:Fg)(Z:Zx)(t:TDO):TO:=λσ H Q=>∃(r:List Addr)(dl:Ev)(S:Sto)(Q':Option Int->Sto->Prop),Rs r H dl σ/\Rel K Z r S H/\t dl S Q'/\∀o H' r' S',Ext r r' H H'->Rel K Z r' S' H'->Q' o S'->Q o H'
def PDO (X:Cx)(Z:Zx)(e:Option Expr)(t:TDO):Prop:=PO X e (upP X.K Z t)
def HB:TDO:=λ_ S Q=>Q none S
def Ha (t:TDE):TDO:=λdl S Q=>t dl S λd S1=>match d with
 | .int i=>Q (some i) S1
 | _=>False
theorem ER (h:PO X e t)(g:∀σ H Q,t' σ H Q->t σ H Q):PO X e t':=λaA s σ H Q I q=>h aA s σ H Q I (g σ H Q q)
theorem Qc:PDO X Z none HB:=ER zdj λσ H Q ⟨r,dl,S,Q',rs,bC,h,ret⟩=>ret none H r S Ext.refl bC h
theorem Q4 (he:PD X Z e t):PDO X Z (some e) (Ha t):=ER (zdY he) λσ H Q ⟨r,dl,S,Q',rs,bC,h,ret⟩=>⟨r,dl,S,_,rs,bC,h,λv H1 r1 d S1 e1 aF p1 q1=>by
 cases p1 with
 | int i=>exact⟨i,rfl,ret (some i) H1 r1 S1 e1 aF q1⟩
 | _=>exact(show False from q1).elim⟩
end
section
variable {X:Cx}{Z:Zx}
end
theorem Zw (ho:S[n]?=some o)(hd:atI (Zu o) i=some d)(hq:Q d S)(hL:Xj o=some o:=by rfl):Xs wIx (.ref n) (.int i) S Q:=by
 rw[WS];unfold wIx;simp only[Z1 ho hL,hd];exact hq
def Ss (f:Str)(v:D):List (Str×D)->List (Str×D)
 | []=>[(f,v)]
 | p::r=>if p.1=f then (f,v)::r else p::Ss f v r
theorem FR.lookup:∀ {fs:List (Str×D)} {fs':List (Str×V)},FR r H fs fs'->(∀d,fs.lookup f=some d->∃v,fs'.lookup f=some v/\Rp r H d v)/\(fs.lookup f=none->fs'.lookup f=none)
 | [],fs',h=>by
  have e:fs'=[]:=by
   have:=h.1;simpa using this.symm
  subst e;exact⟨λd z=>by simp at z,λ_=>rfl⟩
 | p::fs,[],h=>by
  have:=h.1;simp at this
 | p::fs,q::fs',h=>by
  obtain⟨h1,h2⟩:=h;simp only[yP,List.cons.injEq] at h1;obtain⟨p1,p2⟩:=h2.tail;obtain⟨i1,i2⟩:=FR.lookup (f:=f) (fs:=fs) (fs':=fs') ⟨h1.2,p2⟩;obtain⟨pk,pv⟩:=p;obtain⟨qk,qv⟩:=q;have ek:pk=qk:=h1.1;subst ek;by_cases z:f=pk
  ·subst z;simp only[List.lookup_cons_self];exact⟨λd hd=>⟨qv,rfl,by cases hd;exact p1⟩,λhd=>by cases hd⟩
  ·have zb:(f==pk)=false:=by simpa using z
   simp only[yG,zb];exact⟨i1,i2⟩
theorem FR.put (q:Rp r H d v):∀ {fs:List (Str×D)} {fs':List (Str×V)},FR r H fs fs'->FR r H (Ss f d fs) (Y4 f v fs')
 | [],fs',h=>by
  have e:fs'=[]:=by
   have:=h.1;simpa using this.symm
  subst e;exact⟨rfl,Rps.cons q Rps.nil⟩
 | p::fs,[],h=>by
  have:=h.1;simp at this
 | p::fs,p'::fs',h=>by
  obtain⟨h1,h2⟩:=h;simp only[yP,List.cons.injEq] at h1;obtain⟨p1,p2⟩:=h2.tail;have ih:=FR.put (f:=f) q (fs:=fs) (fs':=fs') ⟨h1.2,p2⟩;obtain⟨pk,pv⟩:=p;obtain⟨qk,qv⟩:=p';have ek:pk=qk:=h1.1;subst ek;unfold Ss Y4;by_cases z:pk=f
  ·rw[if_pos z,if_pos z];exact⟨by simp[h1.2,z],Rps.cons q p2⟩
  ·rw[if_neg z,if_neg z];exact⟨by simp[ih.1],Rps.cons p1 ih.2⟩
section
variable {X:Cx}{Z:Zx}{pos:Pos}
def Vo (C:Addr)(S:Sto):D->Option (Nat×List (Str×D))
 | .ref n=>match S[n]? with
  | some (.ins C' fs)=>if C'=C then some (n,fs) else none
  | _=>none
 | _=>none
theorem GO (h:Vo C S d=some (n,fs)):d=.ref n/\S[n]?=some (.ins C fs):=by
 unfold Vo at h;split at h
 ·split at h
  ·rename_i m _ C' fs' e;split at h
   ·rename_i ec;subst ec;simp only[Option.some.injEq,Prod.mk.injEq] at h;obtain⟨rfl,rfl⟩:=h;exact⟨rfl,e⟩
   ·cases h
  ·cases h
 ·cases h
@[irreducible] def Md (C:Addr)(f:Str)(to:TDE):TDE:=λdl S Q=>to dl S λd S1=>match Vo C S1 d with
 | some (_,fs)=>match fs.lookup f with
  | some v=>Q v S1
  | none=>False
 | none=>False
theorem Yq (c:Cls X.K C)(n:Y3 X.K C f)(ho:PD X Z o to)(hb:attributeBase o f X.env (eval o X.env)=eval o X.env:=by rfl):PD X Z (.Attribute o f pos) (Md C f to):=
 Yl (zdl ho hb) λσ H Qv ⟨r,dl,S,Q,rs,bC,h,ret⟩=>by unfold Md at h;exact⟨r,dl,S,_,rs,bC,h,λv H1 r1 d S1 e1 aF p1 q1=>by
  split at q1
  ·rename_i m fs ei;obtain⟨rfl,eS⟩:=GO ei;split at q1
   ·rename_i w ew;obtain⟨a,ha,ob⟩:=aF.at eS;obtain⟨dx,fs',eH,fr⟩:=ob;cases p1 with
    | ref hr=>
     rw[hr] at ha;cases ha
     obtain⟨u,hu,pu⟩:=fr.lookup.1 w ew;exact⟨a,C,dx,fs',u,rfl,eH,c,n,hu,ret u H1 r1 w S1 e1 aF pu q1⟩
   ·exact q1.elim
  ·exact q1.elim⟩
@[irreducible] def Kf (C:Addr)(f:Str)(to te:TDE):TDS:=λE dl S=>te dl S λv S1=>to dl S1 λd S2=>match Vo C S2 d with
 | some (n,fs)=>fs.length<1000/\E.nx dl (S2.set n (.ins C (Ss f v fs)))
 | none=>False
theorem WT (c:Cls X.K C)(n:Y3 X.K C f)(ho:PD X Z o to)(he:PD X Z e te)(hs:swapsWith e (some (.Attribute o f p2)) pos.line X.env=pure false:=by rfl):PDS X Z (.Assign [.Attribute o f p2] e pos) (Kf C f to te):=
 Xq (zcT ho he hs) λF σ H ⟨r,dl,S,E,rs,bC,h,ret⟩=>by unfold Kf at h;exact⟨r,dl,S,_,rs,bC,h,λv H1 r1 dv S1 e1 aF p1 q1=>⟨r1,dl,S1,_,rs.ext e1,aF,q1,λw H2 r2 d S2 e2 aG p2' q2=>by
  split at q2
  ·rename_i m fs ei;obtain⟨rfl,eS⟩:=GO ei;obtain⟨hl,q2⟩:=q2;obtain⟨a,ha,ob⟩:=aG.at eS;obtain⟨dx,fs',eH,fr⟩:=id ob;cases p2' with
   | ref hr=>
    rw[hr] at ha;cases ha
    have aU:fs'.length=fs.length:=by
     have:=congrArg List.length fr.1;simpa using this.symm
    obtain⟨rb,x⟩:=aG.b.setO (o':=.ins C (Ss f dv fs)) (u:=.ins C dx (Y4 f v fs')) hr eS rfl rfl λx=>⟨dx,_,Wj,(fr.put (p1.ext e2)).ext x⟩
    exact⟨a,C,dx,fs',rfl,eH,c,n,by omega,ret.nx _ _ r2 _ _ (e1.trans (e2.trans x)) (rs.ext (e1.trans (e2.trans x))) ⟨rb,aG.xw.ext x⟩ q2⟩
  ·exact q2.elim⟩⟩
@[irreducible] def M6 (C:Addr)(m:Str)(ex:Ev->Addr->Sto->Prop)(sd:Sd)(to:TDE)(t:TDA):TDE:=λdl S Q=>to dl S λd S1=>match Vo C S1 d with
 | some (_,fs)=>fs.lookup m=none/\t dl S1 λds S2=>sd (d::ds) S2 Q (ex dl)
 | none=>False
theorem zdi (he:PE X o ta)(c:Cls X.K C)(hm:TV X.K C m f)(F:Yo X.prog X.w X.K X.mg X.base (CXE X.prog X.w) k f fd ps sp)(hr:Z3 k X.A)(hb:Xv X.K fd ps [])(hx:VD X W)(ha:PA X (e::es) t)(hst:starEach (e::es) X.env=(false,eval e X.env)::starEach es X.env)(hpl:(backTo pos (starEach es X.env)).any (·.1)=false)(ht:eval (.Call (.Attribute o m aO) (e::es) [] pos) X.env=(do
   let ov <- eval o X.env
   standAt aO.atName
   let (f,first) <- holding [ov] (getMethod ov m pl)
   callWith pos f first (backTo pos (starEach (e::es) X.env)) (backToKw pos (keywordEach [] X.env)))):
  PE X (.Call (.Attribute o m aO) (e::es) [] pos) (λσ H Q=>ta σ H λx H1=>∃a dx fs,x=.ref a/\H1 a=some (.ins C dx fs)/\fs.lookup m=none/\t σ H1 λvs H2=>sp (x::vs) H2 Q (W σ)):=by
 intro aA s σ H Q I h;refine PySem.W.methodCall_KW (pl:=pl) (thn (he aA s σ H _ I h) λu s1 ⟨x,H1,I1,rx,a,dx,fs,ex,ea,l,q⟩=>?_) ht;subst ex;obtain rfl:u=Value.ref a:=rx;refine Cf I1 ea c hm l ?_;exact PySem.W.callWith_K (first:=[.ref a]) (h₀:=X.base) I.ok.mod.kin hm.kp (thn (ha pos aA s1 σ H1 _ I1 q) λus s2 ⟨vs,H2,I2,r,q2⟩=>⟨I2.kIn,Fz (us:=.ref a::us) (vs:=.ref a::vs) F hr hb hx I2 (.cons rfl r) q2⟩) hst hpl
theorem El (bC:Ye X.K r S H)(p:Rp r H d v)(h:Vo C S d=some (n,fs)):∃a dx fs',v=.ref a/\r[n]?=some a/\H a=some (.ins C dx fs')/\FR r H fs fs':=by
 obtain⟨rfl,eS⟩:=GO h;obtain⟨a,ha,dx,fs',eH,fr⟩:=bC.at eS;cases p with
 | ref hr=>
  rw[hr] at ha;cases ha
  exact⟨a,dx,fs',rfl,hr,eH,fr⟩
theorem Gs (ho:PD X ⟨ex,W⟩ o to)(c:Cls X.K C)(hm:TV X.K C m f)(F:Yo X.prog X.w X.K X.mg X.base (CXE X.prog X.w) k f fd ps (upF X.K sd))(hr:Z3 k X.A)(hb:Xv X.K fd ps [])(hx:VD X W)(ha:PDA X ⟨ex,W⟩ (e::es) t)(hst:starEach (e::es) X.env=(false,eval e X.env)::starEach es X.env:=by rfl)(hpl:(backTo pos (starEach es X.env)).any (·.1)=false:=by rfl)(ht:eval (.Call (.Attribute o m aO) (e::es) [] pos) X.env=(do
   let ov <- eval o X.env
   standAt aO.atName
   let (f,first) <- holding [ov] (getMethod ov m pl)
   callWith pos f first (backTo pos (starEach (e::es) X.env)) (backToKw pos (keywordEach [] X.env))):=by rfl):PD X ⟨ex,W⟩ (.Call (.Attribute o m aO) (e::es) [] pos) (M6 C m ex sd to t):=
 Yl (zdi ho c hm F hr hb hx ha hst hpl ht) λσ H Qv ⟨r,dl,S,Q,rs,bC,h,ret⟩=>by unfold M6 at h;exact⟨r,dl,S,_,rs,bC,h,λv H1 r1 d S1 e1 aF p1 q1=>by
  split at q1
  ·rename_i n fs ei;obtain⟨hl,q1⟩:=q1;obtain⟨a,dx,fs',rfl,hr1,eH,fr⟩:=El aF.b p1 ei;exact⟨a,dx,fs',rfl,eH,fr.lookup.2 hl,r1,dl,S1,_,rs.ext e1,aF,q1,λvs H2 r2 ds S2 e2 aG p2 q2=>HU (Z:=⟨ex,W⟩) (rs.ext (e1.trans e2)) aG (Rps.cons (p1.ext e2) p2) q2 (ret.ext (e1.trans e2))⟩
  ·exact q1.elim⟩
def dMake (C:Addr)(ex:Addr->Sto->Prop)(sd:Sd)(t:TDA):TDE:=λdl S Q=>t dl S λds S1=>sd (.ref S1.length::ds) (S1++[.ins C []]) (λd S2=>d=.non/\Q (.ref S1.length) S2) ex
theorem zbW (bC:Rel X.K Z r S H)(h1:H x=none)(h2:H dx=none)(h3:dx≠x):
  Rel X.K Z (r++[x]) (S++[.ins C []]) (upd (upd H dx (.own x)) x (.ins C dx []))/\Ext r (r++[x]) H (upd (upd H dx (.own x)) x (.ins C dx [])):=by
 obtain⟨rb,e⟩:=bC.b.pushO (o:=.ins C []) (H':=upd (upd H dx (.own x)) x (.ins C dx [])) h1 (λb u q=>by rw[Yn (Ui q h1),Yn (Ui q h2)];exact q) λ_=>⟨dx,[],Wj,FR.nil⟩
 exact⟨⟨rb,bC.xw.ext e⟩,e⟩
theorem A9 {C x:Addr}{r r':List Addr}{n:Nat}{H H':Hp}{Z:Zx}{K:Fg}{Q:DK}{Qv:VK}(ret:Ret K Z r H Q Qv)(e:Ext r r' H H')(hx:r'[n]?=some x):
  Ret K Z r' H' (λd S2=>d=.non/\Q (.ref n) S2) (λv H2=>v=.non/\Qv (.ref x) H2):=λv H2 r2 d S2 e2 aG p2 q2=>by
 obtain⟨rfl,q2⟩:=q2;cases p2;exact⟨rfl,ret _ H2 r2 (.ref n) S2 (e.trans e2) aG (.ref (e2.adr _ _ hx)) q2⟩
theorem SO {C f:Addr}{fd:FuncData}{k:Nat}{ps:List Str}{sd:Sd}{ex:Addr->Sto->Prop}{W:XK}{x:Str}{p:Pos}{e:Expr}{es:List Expr}{t:TDA}(M:Mk X.K C f)
  (F:Yo X.prog X.w X.K X.mg X.base (CXE X.prog X.w) k f fd ps (upF X.K sd))(hr:Z3 (k+1) X.A)(hg:Gl X x)(hm:X.mg x=some (.ref C))(hb:Xv X.K fd ps [])(hx:LM (CXE X.prog X.w) X W)(ha:PDA X (Zc ex W) (e::es) t)
  (hdb:(x==("__debug__":Str))=false:=by decide)(he:starEach (e::es) X.env=(false,eval e X.env)::starEach es X.env:=by rfl)(hpl:(backTo pos (starEach es X.env)).any (·.1)=false:=by rfl):
  PD X (Zc ex W) (.Call (.Name x p) (e::es) [] pos) (dMake C ex sd t):=
 Yl (Bm M F hr hg hm hb .nil hx ha hdb he hpl) λσ H Qv ⟨r,dl,S,Q,rs,bC,h,ret⟩=>⟨r,dl,S,_,rs,bC,h,λvs H1 r1 ds S1 e1 aF p1 q1=>λx dx n1 n2 n3=>by
  obtain⟨aG,e2⟩:=zbW (C:=C) aF n1 n2 n3;show upF X.K sd (.ref x::(vs++[])) _ _ W;rw[yZ];exact⟨ex,_,_,.ref S1.length::ds,_,aG,Rps.cons (Ue aF.len) (p1.ext e2),q1,A9 (C:=C) ret (e1.trans e2) (Pq aF.len)⟩⟩
end
section
variable {κ:Type} [DecidableEq κ]
def Ut (aY:List (κ×D))(k:κ):Option D:=(aY.find? λkv=>decide (kv.1=k)).map (·.2)
theorem FR.split {r:List Addr}{H:Hp}{p:κ×D}{fs:List (κ×D)}{gs:List (κ×V)}(h:FR r H (p::fs) gs):∃q gs',gs=q::gs'/\p.1=q.1/\Rp r H p.2 q.2/\FR r H fs gs':=by
 cases gs with
 | nil=>
  have:=h.1;simp at this
 | cons q gs'=>
  obtain⟨h1,h2⟩:=h;simp only[yP,List.cons.injEq] at h1;obtain⟨p1,p2⟩:=h2.tail;exact⟨q,gs',rfl,h1.1,p1,h1.2,p2⟩
theorem FR.unnil {r:List Addr}{H:Hp}{gs:List (κ×V)}(h:FR r H ([]:List (κ×D)) gs):gs=[]:=by
 have:=h.1;simpa using this.symm
theorem FR.cons {r:List Addr}{H:Hp}{k:κ}{d:D}{v:V}{fs:List (κ×D)}{gs:List (κ×V)}(p:Rp r H d v)(h:FR r H fs gs):FR r H ((k,d)::fs) ((k,v)::gs):=⟨by simp[h.1],Rps.cons p h.2⟩
theorem FR.val:∀ {fs:List (κ×D)} {gs:List (κ×V)},FR r H fs gs->(∀d,Ut fs k=some d->∃v,VC gs k=some v/\Rp r H d v)/\(Ut fs k=none->VC gs k=none)
 | [],gs,h=>by
  have z:=h.unnil;subst z;exact⟨(λd e=>by cases e),λ_=>rfl⟩
 | p::fs,gs,h=>by
  obtain⟨q,gs',rfl,e,pr,t⟩:=h.split;obtain⟨i1,i2⟩:=FR.val (k:=k) t;by_cases z:p.1=k
  ·have z':q.1=k:=e.symm.trans z;rw[Iv z'];have zd:Ut (p::fs) k=some p.2:=by simp[Ut,xS,z]
   rw[zd];exact⟨λd hd=>⟨q.2,rfl,by cases hd;exact pr⟩,λhd=>by cases hd⟩
  ·have z':¬ q.1=k:=λy=>z (e.trans y)
   rw[Iu z'];have zd:Ut (p::fs) k=Ut fs k:=by simp[Ut,xS,z]
   rw[zd];exact⟨i1,i2⟩
end
section
variable {X:Cx}{Z:Zx}{pos:Pos}
end
section
variable {X:Cx}{Z:Zx}{pos:Pos}
def XB (xs:List D)(lo hi:Option Int):List D:=(xs.drop (HT.sIx xs.length 0 lo)).take (HT.sIx xs.length xs.length hi-HT.sIx xs.length 0 lo)
theorem Rps.drop (h:Rps r H ds vs)(k:Nat):Rps r H (ds.drop k) (vs.drop k):=
 ⟨by simp[h.1],λi d v h1 h2=>h.2 (k+i) d v (by simpa using h1) (by simpa using h2)⟩
theorem Rps.take (h:Rps r H ds vs)(k:Nat):Rps r H (ds.take k) (vs.take k):=by
 refine⟨by simp[h.1],λi d v h1 h2=>?_⟩;rw[List.getElem?_take] at h1 h2;split at h1
 ·rw[if_pos (by assumption)] at h2;exact h.2 i d v h1 h2
 ·cases h1
theorem Rps.cut (h:Rps r H ds vs)(lo hi:Option Int):Rps r H (XB ds lo hi) (Rh vs lo hi):=by
 unfold XB Rh;rw[h.1];exact(h.drop _).take _
@[irreducible] def Sf (te:TDE)(tl th:TDO):TDE:=λdl S Q=>te dl S λd S1=>tl dl S1 λl S2=>th dl S2 λu S3=>match d with
 | .ref n=>match lAt S3 n with
  | some o=>Q (.ref S3.length) (S3++[.lst (XB (Zu o) l u)])
  | none=>False
 | _=>False
theorem PC {e:Expr}{te:TDE}{lo hi:Option Expr}{tl th:TDO}{p2:Pos}(he:PD X Z e te)(hl:PDO X Z lo tl)(hu:PDO X Z hi th):PD X Z (.Subscript e (.Slice lo hi none p2) pos) (Sf te tl th):=
 Yl (zaj zcN he hl hu) λσ H Qv ⟨r,dl,S,Q,rs,bC,h,ret⟩=>by
  unfold Sf at h;refine⟨r,dl,S,_,rs,bC,h,λv H1 r1 d S1 e1 aF p1 q1=>⟨r1,dl,S1,_,rs.ext e1,aF,q1,λl H2 r2 S2 e2 aG q2=>⟨r2,dl,S2,_,rs.ext (e1.trans e2),aG,q2,λu H3 r3 S3 e3 aH q3=>?_⟩⟩⟩;cases p1 with
  | @ref n a hn=>
   dsimp only at q3;split at q3
   ·rename_i o eo;obtain⟨eo,eL⟩:=Y7 eo;obtain⟨a',ha,ob⟩:=aH.at eo;rw[e3.adr _ _ (e2.adr _ _ hn)] at ha;cases ha
    obtain⟨xs,sq,pr⟩:=ob.list eL;refine⟨a,xs,rfl,sq,λp hp=>?_⟩;obtain⟨aJ,x⟩:=aH.push hp (pr.cut l u);exact ret _ _ _ (.ref S3.length) _ (e1.trans (e2.trans (e3.trans x))) aJ (Ue aH.len) q3
   ·exact q3.elim
  | _=>exact(show False from q3).elim
theorem QV {te:TDE}{tl th:TDO}{dl:Ev}{S S3:Sto}{Q:DK}{n:Nat}{o:Ob}{lo hi:Option Int}(h:∀K:DK,K (.ref n) S3->te dl S K)(hl:∀K:Option Int->Sto->Prop,K lo S3->tl dl S3 K)(hh:∀K:Option Int->Sto->Prop,K hi S3->th dl S3 K)(ho:S3[n]?=some o)
  (hq:Q (.ref S3.length) (S3++[.lst (XB (Zu o) lo hi)]))(hL:Xj o=some o:=by rfl):Sf te tl th dl S Q:=by
 unfold Sf;refine h _ (hl _ (hh _ ?_));simp only[Z1 ho hL];exact hq
end
section
variable {X:Cx}{Z:Zx}{pos:Pos}
theorem Rps.put (h:Rps r H ds vs)(p:Rp r H d v)(j:Nat):Rps r H (ds.set j d) (vs.set j v):=by
 refine⟨by simp[h.1],λi x y h1 h2=>?_⟩;by_cases z:j=i
 ·subst z;have hl:j<ds.length:=by
   have:=(zF.mp h1).1;simpa using this
  rw[xI hl] at h1;rw[xI (by rw[<- h.1];exact hl)] at h2;cases h1;cases h2;exact p
 ·rw[yM z] at h1 h2;exact h.2 i x y h1 h2
@[irreducible] def JR (to ti te:TDE):TDS:=λE dl S=>te dl S λv S1=>to dl S1 λd S2=>ti dl S2 λi S3=>match d,i with
 | .ref n,.int k=>match S3[n]? with
  | some (.lst xs)=>match ixN xs.length k with
   | some j=>E.nx dl (S3.set n (.lst (xs.set j v)))
   | none=>False
  | _=>False
 | _,_=>False
theorem zdr (ho:PD X Z o to)(hi:PD X Z i ti)(he:PD X Z e te)(hs:swapsWithSole [.Subscript o i p2] e pos.line X.env=pure false:=by rfl)(hw:swappedStores [.Subscript o i p2] e X.env=pure none:=by rfl)(h1:(assignEach [.Subscript o i p2] X.env).map (·.2)=[assign (.Subscript o i p2) X.env]:=by rfl)(ha:∀v,assign (.Subscript o i p2) X.env v=(do let ov <- holding [v] (eval o X.env);let iv <- holding [v,ov] (eval i X.env);standAt p2;holding [v,ov,iv] (setItem ov iv v);release [v,ov,iv] []):=by intro _;rfl):PDS X Z (.Assign [.Subscript o i p2] e pos) (JR to ti te):=
 Xq (Ep he (An ho hi Bh ha) hs hw h1) λF σ H ⟨r,dl,S,E,rs,bC,h,ret⟩=>by
  unfold JR at h;refine⟨r,dl,S,_,rs,bC,h,λv H1 r1 dv S1 e1 aF p1 q1=>⟨r1,dl,S1,_,rs.ext e1,aF,q1,λx H2 r2 d S2 e2 aG pd q2=>⟨r2,dl,S2,_,rs.ext (e1.trans e2),aG,q2,λy H3 r3 di S3 e3 aH pi q3=>?_⟩⟩⟩;cases pd with
  | @ref n a hn=>
   cases pi with
   | int k=>
    dsimp only at q3;split at q3
    ·rename_i xs eS;split at q3
     ·rename_i j ej;have hn3:=e3.adr _ _ hn;obtain⟨ys,eH,pr⟩:=aH.b.ob n a _ hn3 eS;obtain⟨aJ,x4⟩:=aH.set hn3 eS (pr.put (p1.ext (e2.trans e3)) j);exact⟨a,ys,k,j,rfl,rfl,eH,by rw[<- pr.1];exact ej,ret.nx _ _ r3 _ _ (e1.trans (e2.trans (e3.trans x4))) (rs.ext (e1.trans (e2.trans (e3.trans x4)))) aJ q3⟩
     ·exact q3.elim
    ·exact q3.elim
   | _=>exact(show False from q3).elim
  | _=>exact(show False from q3).elim
def Vq (f:D->D->Option Bool):List D->D->Option (Option Nat)
 | [],_=>some none
 | y::ys,x=>match f y x,Vq f ys x with
  | some true,some _=>some (some 0)
  | some false,some o=>some (o.map (·+1))
  | _,_=>none
theorem FN:∀ {ys:List D} {o:Option Nat},Vq f ys x=some o->(∀y∈ys,∃c,f y x=some c)/\∀j,o=some j->(∃y,ys[j]?=some y/\f y x=some true)/\∀m y,m<j->ys[m]?=some y->f y x=some false
 | [],o,e=>by
  have h:=Option.some.inj e;subst h;exact⟨(λy hy=>by cases hy),λj z=>by cases z⟩
 | y::ys,o,e=>by
  unfold Vq at e;split at e
  ·rename_i o1 e1 e2;have h:=Option.some.inj e;subst h;obtain⟨h1,_⟩:=FN e2;refine⟨λz hz=>?_,λj hj=>?_⟩
   ·rcases zQ.mp hz with rfl|hz
    ·exact⟨true,e1⟩
    ·exact h1 z hz
   ·cases hj;exact⟨⟨y,rfl,e1⟩,λm z hm=>by omega⟩
  ·rename_i o1 e1 e2;have h:=Option.some.inj e;subst h;obtain⟨h1,h2⟩:=FN e2;refine⟨λz hz=>?_,λj hj=>?_⟩
   ·rcases zQ.mp hz with rfl|hz
    ·exact⟨false,e1⟩
    ·exact h1 z hz
   ·obtain⟨k,rfl,rfl⟩:=zP.mp hj;obtain⟨⟨z,hz1,hz2⟩,h3⟩:=h2 k rfl;refine⟨⟨z,by simpa using hz1,hz2⟩,λm w hm hw=>?_⟩;cases m with
    | zero=>
     have:w=y:=by simpa using hw.symm
     rw[this];exact e1
    | succ m=>exact h3 m w (by omega) (by simpa using hw)
  ·cases e
theorem zdZ (I:Inv X aA σ H s)(hu:A.units+k<cLine)(p:Rps r H ds vs)(rv:ZG vs us)(px:Rp r H dx x)(rx:ZH x u)(e:Vq (eqN k) ds dx=some (some j)):
  ∃g:Value->Bool,(∀y,y∈us.toArray->SeqAt.EqAt A s y u (g y))/\∃hj:j<us.toArray.size,g us.toArray[j]=true/\∀m (hm:m<us.toArray.size),m<j->g us.toArray[m]=false:=by
 obtain⟨h1,h2⟩:=FN e;obtain⟨⟨yj,hyj,htj⟩,hno⟩:=h2 j rfl
 classical
 have at_:∀(m:Nat)(hm:m<us.length),∃d v,ds[m]?=some d/\Rp r H d v/\ZH v us[m]:=λm hm=>by
  have hv:m<vs.length:=by rw[rv.length];exact hm
  have gv:vs[m]?=some vs[m]:=by simp[hv]
  obtain⟨w,gw,rw'⟩:=rv.get gv;obtain⟨d,gd,pd⟩:=p.get' gv;have ew:w=us[m]:=by
   rw[zC hm] at gw;exact(Option.some.inj gw).symm
  subst ew;exact⟨d,_,gd,pd,rw'⟩
 have val:∀(m:Nat)(hm:m<us.length)(d:D)(c:Bool),ds[m]?=some d->eqN k d dx=some c->decide (∃d v,d∈ds/\Rp r H d v/\ZH v us[m]/\eqN k d dx=some true)=c:=λm hm d c hd hc=>by
  obtain⟨d',v',gd,pd,rd⟩:=at_ m hm;rw[hd] at gd;cases gd
  cases c with
  | true=>exact decide_eq_true ⟨d,v',zN hd,pd,rd,hc⟩
  | false=>
   refine decide_eq_false λ⟨d2,v2,_,pd2,rd2,hc2⟩=>?_
   have ev:=CC rd rd2;subst ev;exact absurd (Gm k d d2 dx v' false true pd pd2 hc hc2) (by decide)
 refine⟨λy=>decide (∃d v,d∈ds/\Rp r H d v/\ZH v y/\eqN k d dx=some true),λy hy=>?_,?_⟩
 ·have hy':y∈us:=by simpa using hy
  obtain⟨m,hm,rfl⟩:=yW.mp hy';obtain⟨d,v,gd,pd,rd⟩:=at_ m hm;obtain⟨c,hc⟩:=h1 d (zN gd);show SeqAt.EqAt A s us[m] u (decide _);rw[val m hm d c gd hc];exact Gy k X aA σ H s r A d dx v x _ u c I hu pd px rd rx hc
 ·have hjl:j<us.length:=by
   have:=(zF.mp hyj).1;rw[p.1,rv.length] at this;exact this
  refine⟨by simpa using hjl,?_,λm hm hmj=>?_⟩
  ·have z:=val j hjl yj true hyj htj;simpa using z
  ·have hm':m<us.length:=by simpa using hm
   obtain⟨d,v,gd,pd,rd⟩:=at_ m hm';have z:=val m hm' d false gd (hno m d hmj gd);simpa using z
def OC (k:Nat)(d y:D)(S:Sto)(Q:DK):Prop:=match d with
 | .ref n=>match lAt S n with
  | some o=>match Vq (eqN k) (Zu o) y with
   | some (some j)=>Q (.int (j:Int)) S
   | _=>False
  | none=>False
 | _=>False
@[irreducible] def Jp (k:Nat)(to:TDE)(t:TDA):TDE:=λdl S Q=>to dl S λd S1=>(match d with
 | .ref n=>(lAt S1 n).isSome=true/\t dl S1 λds S2=>match ds with
  | [y]=>OC k d y S2 Q
  | _=>False
 | _=>False)
theorem Bg (hr:Z3 j X.A)(hk:k<=3):MtR X "list.index" (λx xs H Qv=>∃(r:List Addr)(S:Sto)(d y:D)(v:V)(Q:DK),Rel X.K Z r S H/\Rp r H d x/\xs=[v]/\Rp r H y v/\OC k d y S Q/\Ret X.K Z r H Q Qv):=by
 intro aA s σ H x xs v us Qv I rx rv h;obtain⟨r,S,d,y,v1,Q,bC,pd,rfl,py,q,ret⟩:=h;obtain⟨u,rfl,ru⟩:=W5 rv;unfold OC at q;split at q
 ·rename_i n;split at q
  ·rename_i o eo;obtain⟨eo,eL⟩:=Y7 eo;split at q
   ·rename_i i ei;cases pd with
    | @ref n a hn=>
     cases rx;obtain⟨a',ha,ob⟩:=bC.at eo;rw[hn] at ha;cases ha
     obtain⟨ys,sq,pr⟩:=ob.list eL;obtain⟨bA,ri,pl,hz⟩:=I.list sq;have hun:=hr.un;obtain⟨g,g1,hj,g2,g3⟩:=zdZ (A:=X.A.in1) I (by show X.A.units+1+k<_;omega) pr ri py ru ei;obtain⟨ob2,m,e,c,hd,hdat⟩:=pl;obtain⟨oc,od,odat,osl⟩:=ob2;have c':oc=.type "list":=c
     have hdat':odat=.seq bA.toArray m:=hdat;subst c' hdat';refine call_meets PySem.F.slot_list_index ⟨_,e,rfl⟩ PySem.F.entry_list_index (PySem.F.args_list_index_2 _ _) (PySem.SeqAt.list_indexAt a bA.toArray m od osl u g i hj (by
      have:bA.toArray.size<=sizeLine:=by rw[zS,<- ri.length];exact hz
      have h2:=QO;omega) g2 λm hm h2=>g3 m hm h2) ⟨e,g1,?_⟩
     exact⟨.int (i:Int),H,I.tok _,⟨_,rfl⟩,ret _ H r (.int _) S Ext.refl bC (.int _) q⟩
   ·exact q.elim
  ·exact q.elim
 ·exact q.elim
theorem CB (hr:Z3 j X.A)(hk:k<=3)(ho:PD X Z o to)(ha:PDA X Z [e] t)(hbase:attributeBase o "index" X.env (eval o X.env)=eval o X.env:=by rfl)(hfew:((backTo aM (starEach [e] X.env)).all (λx=>!x.1)&&(backToKw aM (keywordEach [] X.env)).all (λx=>x.1.isSome)
  &&decide ([e].length+([]:List Keyword).length+(if ([]:List Keyword).isEmpty then 0 else 1)<30))=true:=by rfl)(hline:(aO.endLine==aM.line)=true:=by rfl)(hs:starEach [e] X.env=(false,eval e X.env)::starEach [] X.env:=by rfl)(hplain:(backTo aM (starEach [] X.env)).any (·.1)=false:=by rfl):
  PD X Z (.Call (.Attribute o "index" aO) [e] [] aM) (Jp k to t):=
 Yl (KP (T:="list") PySem.F.plainAttrs_list PySem.F.slot_list_index PySem.F.type_list_index (Bg (Z:=Z) hr hk) ho ha hbase hfew hline hs hplain) λσ H Qv ⟨r,dl,S,Q,rs,bC,h,ret⟩=>by
  unfold Jp at h;refine⟨r,dl,S,_,rs,bC,h,λv H1 r1 d S1 e1 aF p1 q1=>?_⟩;cases p1 with
  | @ref n a hn=>
   obtain⟨aW,q1⟩:=q1;obtain⟨o1,eo⟩:=yV.mp aW;obtain⟨eo,eL⟩:=Y7 eo;obtain⟨a',ha',ob⟩:=aF.at eo;rw[hn] at ha';cases ha'
   obtain⟨xs,sq,_⟩:=ob.list eL;refine⟨.inl ⟨rfl,xs,sq⟩,r1,dl,S1,_,rs.ext e1,aF,q1,λvs H2 r2 ds S2 e2 aG p2 q2=>?_⟩;split at q2
   ·rename_i y;obtain⟨v2,vs',rfl,p3,p4⟩:=p2.uncons;have z:=p4.unnil;subst z;exact⟨r2,S2,.ref n,y,v2,Q,aG,.ref (e2.adr _ _ hn),rfl,p3,q2,ret.ext (e1.trans e2)⟩
   ·exact q2.elim
  | _=>exact(show False from q1).elim
end
section
variable {X:Cx}{aA:LA}{σ:St}{H:Hp}{s:Shared}{h':Heap}
theorem EY {t':Nat}{ch:List Addr}{T:Addr}{xs:List V}{vals:Array Value}(I:Inv X aA σ H s)(k:∀b o,b ∉ ch->s.heap.get? b=some o->h'.get? b=some o)(hch:∀b∈ch,Xl X aA H b)
  (hT:s.heap.objs.size<=T)(ht:h'.IsTuple T vals)(rv:ZG xs vals.toList)(hl:xs.length<=sizeLine):Inv X aA σ (upd H T (.tup xs)) { s with heap:=h',toks:=t' }:=by
 have hTn:H T=none:=I.hok.fresh hT
 have old:∀ {b:Addr} {o:Obj},s.heap.get? b=some o->b≠T:=λ{b o} e z=>absurd (yD (Heap.lt_size e) hT) (by rw[z];exact yL _)
 have trk:∀b u,H b=some u->b ∉ ch:=λb u e z=>by
  rw[(hch b z).1] at e;cases e
 have up:∀b u,H b=some u->(upd H T (.tup xs)) b=some u:=Vk hTn;refine I.step (g':=s.gens) (d':=s.drawn) (ch:=ch) (λb hb=>?_) (λb o _ _ hc e _=>k b o hc e) (λb o _ _ hc e _=>⟨o.slots,k b o hc e⟩) (λb o _ e n=>by rw[Yn (old e)];exact n)
  (λb o hc e=>⟨o,k b o hc e⟩) (λb ys e=>up _ _ e) (λb o u e=>up _ _ e) (λb ps e=>⟨#[],by rw[up _ _ e];simp⟩) (λm hm=>?_) (λb u e=>?_) I.bare
 ·obtain⟨_,f1,_,f3,f4,f5⟩:=hch b hb;exact⟨f3,f1,f4,f5⟩
 ·obtain⟨o,es,ep,ho,r⟩:=hm;exact⟨o,es,ep,k _ o (λz=>(hch _ z).2.1 rfl) ho,r⟩
 ·by_cases hb:b=T
  ·subst hb;rw[Wj] at e;cases e;exact⟨hl,vals.toList,rv,by rw[Array.toArray_toList];exact ht⟩
  ·rw[Yn hb] at e;refine(I.hok b u e).stay (λc v hc q=>k c v ?_ q) (λd z=>up _ _ z) λd ys z=>up _ _ z
   rcases hc with z|z
   ·rw[z];exact trk b u e
   ·exact trk c _ z
theorem L1 {t':Nat}{ch:List Addr}(I:Inv X aA σ H s)(k:∀b o,b ∉ ch->s.heap.get? b=some o->h'.get? b=some o)(hch:∀b∈ch,Xl X aA H b):Inv X aA σ H { s with heap:=h',toks:=t' }:=by
 have trk:∀b u,H b=some u->b ∉ ch:=λb u e z=>by
  rw[(hch b z).1] at e;cases e
 refine I.step (g':=s.gens) (d':=s.drawn) (ch:=ch) (λb hb=>?_) (λb o _ _ hc e _=>k b o hc e) (λb o _ _ hc e _=>⟨o.slots,k b o hc e⟩) (λb o _ e n=>n)
  (λb o hc e=>⟨o,k b o hc e⟩) (λb ys e=>e) (λb o u e=>e) (λb ps e=>⟨#[],by rw[e];simp⟩) (λm hm=>?_) (λb u e=>?_) I.bare
 ·obtain⟨_,f1,_,f3,f4,f5⟩:=hch b hb;exact⟨f3,f1,f4,f5⟩
 ·obtain⟨o,es,ep,ho,r⟩:=hm;exact⟨o,es,ep,k _ o (λz=>(hch _ z).2.1 rfl) ho,r⟩
 ·refine(I.hok b u e).stay (λc v hc q=>k c v ?_ q) (λd z=>z) λd ys z=>z
  rcases hc with z|z
  ·rw[z];exact trk b u e
  ·exact trk c _ z
end
def Ite (K:Fg)(a:Addr):It:=
 ⟨λi H=>∃xs x,SqL K H a xs/\xs[i]?=some x,λi H x H'=>∃T v,x=.ref T/\H T=none/\H'=upd H T (.tup [.int (i:Int),v])/\∀xs,SqL K H a xs->xs[i]?=some v,λi H=>∃xs,SqL K H a xs/\xs.length=i⟩
theorem A6 {P:Program}{w:World}{K:Fg}{aT:List Expr}{kk:Nat}{tp:Pos}(a e it:Addr)(hei:e≠it)(hae:a≠e)(hai:a≠it):
  QC P w K (.Tuple aT kk tp) (Ite K a) [e,it] e (λi h=>(∃old,IsEnum h e it i old)/\h.IsListIter it a i) where
 mem:=by simp
 obj:=λi h st b hb=>by
  obtain⟨⟨old,he⟩,o,e1,c,d⟩:=st;have hb':b=e\/b=it:=by simpa using hb
  rcases hb' with rfl|rfl
  ·exact⟨_,he,λv z=>by cases z⟩
  ·exact⟨o,e1,λv z=>by rw[d] at z;cases z⟩
 keep:=λi h h' st k=>by
  obtain⟨⟨old,he⟩,hit⟩:=st;exact⟨⟨old,k e (by simp) _ he⟩,hit.at λo x=>k it (by simp) o x⟩
 item:=by
  intro X hP hw hK hc i aA s σ H E I hf st hg;subst hP hw hK;obtain⟨xs,x,hq,hx⟩:=hg;obtain⟨bA,rv,p,hz⟩:=I.list hq;obtain⟨u,hu,ru⟩:=rv.get hx;have hi:i<bA.toArray.size:=by
   have:=(zF.mp hu).1;simpa using this
  have W:=WalksT.enumerate (prog:=X.prog) (w:=X.w) (A:=X.A) (I.ok.hd hc) e it a hei hae hai bA.toArray;refine W.item i s _ _ hi ⟨st.1,st.2,p.isList⟩ λT vals h' tk hP hT ht mid k1=>?_
  obtain⟨t,y,hy,rfl⟩:=hP;have ey:y=u:=by
   have z:bA[i]?=some y:=by simpa using hy
   rw[hu] at z;exact(Option.some.inj z).symm
  subst ey;have hw:∀b∈[e,it],Xl X aA H b:=hf
  have I1:Inv X aA σ (upd H T (.tup [.int (i:Int),x])) { s with heap:=h',toks:=tk }:=EY I k1 hw hT ht (.cons ⟨t,rfl⟩ (.cons ru .nil)) (show 2<=sizeLine from Uj (by decide))
  have neT:∀b∈[e,it],b≠T:=λb hb z=>W.apart i T h' mid (z ▸ hb)
  have hf1:∀b∈[e,it],Xl X aA (upd H T (.tup [.int (i:Int),x])) b:=λb hb=>⟨by rw[Yn (neT b hb)];exact(hf b hb).1,(hf b hb).2⟩
  refine⟨.ref T,rfl,W.go aT kk tp i T _ _ _ mid λh2 st2 k2=>?_⟩;have I2:Inv X aA σ (upd H T (.tup [.int (i:Int),x])) { s with heap:=h2,toks:=tk }:=L1 (s:={ s with heap:=h',toks:=tk }) (t':=tk) I1 k2 hf1;exact⟨.ref T,_,I2,rfl,⟨T,x,rfl,I.hok.fresh hT,rfl,λys hy=>by rw[I.list_inj hy hq];exact hx⟩,⟨st2.1,st2.2.1⟩,λb hb=>(hf1 b hb).1⟩
 done:=by
  intro X hP hw hK hc i aA s σ H E I hf st hg;subst hP hw hK;obtain⟨xs,hq,hx⟩:=hg;obtain⟨bA,rv,p,hz⟩:=I.list hq;have W:=WalksT.enumerate (prog:=X.prog) (w:=X.w) (A:=X.A) (I.ok.hd hc) e it a hei hae hai bA.toArray
  have hi:i=bA.toArray.size:=by rw[zS,<- rv.length];exact hx.symm
  subst hi;exact W.done s _ _ ⟨st.1,st.2,p.isList⟩ λh' tk k1=>⟨rfl,L1 (t':=tk) I k1 hf⟩
 self:=λA i s Q E st h=>by
  obtain⟨⟨old,he⟩,_⟩:=st;exact wpAny_pyIter_enum he h
section
variable {X:Cx}
def Cw (K:Fg)(ta:TA):TI:=λσ H R=>ta σ H λvs H1=>∃a,vs=[.ref a]/\(∃xs,SqL K H1 a xs)/\R (Ite K a) H1
theorem zbg {a:Expr}{ta:TA}{p pos tp:Pos}{aT:List Expr}{kk:Nat}(hg:Gl X "enumerate")(hm:X.mg "enumerate"=none)(hv:bootBuiltins "enumerate"=some (.type "enumerate"))(ha:PA X [a] ta)(hs:starEach [a] X.env=[(false,eval a X.env)]:=by rfl):
  PI X (.Tuple aT kk tp) (.Call (.Name "enumerate" p) [a] [] pos) (Cw X.K ta):=by
 intro aA s σ H R I h;refine Call_ (Up I hg hm hv (PyProof.Rows.callWith_type1 (thn (ha pos aA s σ H _ I h) λus s1 ⟨vs,H1,I1,r1,q1⟩=>?_) hs rfl));obtain⟨l,e,⟨xs,hq⟩,q⟩:=q1;subst e;cases r1 with
 | cons r rr=>
  cases rr;cases r;obtain⟨bA,rv,pl,hz⟩:=I1.list hq;have hll:l<s1.heap.objs.size:=by
   obtain⟨o,e,_⟩:=pl.isList;exact Heap.lt_size e
  refine call_enumerate_list pl.isList λh' he hit hsz hk=>?_
  have I2:Inv X aA σ H1 { s1 with heap:=h' }:=I1.kept (t':=s1.toks) hk;refine wpAny_pyIter_enum he ⟨s1.heap.objs.size+1,[s1.heap.objs.size+1,s1.heap.objs.size],_,_,H1,rfl,I2,A6 l _ _ (Nat.succ_ne_self _) (zX (Nat.lt_succ_of_lt hll)) (zX hll),⟨⟨_,he⟩,hit⟩,λb hb=>?_,q⟩;have hb':b=s1.heap.objs.size+1\/b=s1.heap.objs.size:=by simpa using hb
  rcases hb' with rfl|rfl
  ·exact I1.fpOk (xQ _) (I1.hok.fresh (xQ _))
  ·exact I1.fpOk (zD _) (I1.hok.fresh (zD _))
end
def Itz (K:Fg)(a b:Addr):It:=
  ⟨λi H=>∃xs ys x y,SqL K H a xs/\SqL K H b ys/\xs[i]?=some x/\ys[i]?=some y,
   λi H x H'=>∃T v u,x=.ref T/\H T=none/\H'=upd H T (.tup [v,u])/\(∀xs,SqL K H a xs->xs[i]?=some v)/\∀ys,SqL K H b ys->ys[i]?=some u,
   λi H=>∃xs ys,SqL K H a xs/\SqL K H b ys/\min xs.length ys.length=i⟩
theorem Au {P:Program}{w:World}{K:Fg}{aT:List Expr}{kk:Nat}{tp:Pos}(a b z TI TO i1 i2:Addr)(D:ZipApart z TI TO i1 i2 a b):
  QC P w K (.Tuple aT kk tp) (Itz K a b) [z,TI,TO,i1,i2] z (λi h=>IsZip h z TI TO .none/\IsPair h TI (.ref i1) (.ref i2)/\(∃p q,IsPair h TO p q)/\h.IsListIter i1 a i/\h.IsListIter i2 b i) where
 mem:=by simp
 obj:=λi h st c hc=>by
  obtain⟨hz,hTI,⟨p,q,hTO⟩,⟨o1,e1,c1,d1⟩,o2,e2,c2,d2⟩:=st;have hc':c=z\/c=TI\/c=TO\/c=i1\/c=i2:=by simpa using hc
  rcases hc' with rfl|rfl|rfl|rfl|rfl
  ·exact⟨_,hz,λv y=>by cases y⟩
  ·exact⟨_,hTI,λv y=>by cases y⟩
  ·exact⟨_,hTO,λv y=>by cases y⟩
  ·exact⟨o1,e1,λv y=>by rw[d1] at y;cases y⟩
  ·exact⟨o2,e2,λv y=>by rw[d2] at y;cases y⟩
 keep:=λi h h' st k=>by
  obtain⟨hz,hTI,⟨p,q,hTO⟩,h1,h2⟩:=st;exact⟨k z (by simp) _ hz,k TI (by simp) _ hTI,⟨p,q,k TO (by simp) _ hTO⟩,h1.at λo x=>k i1 (by simp) o x,h2.at λo x=>k i2 (by simp) o x⟩
 item:=by
  intro X hP hw hK hc i aA s σ H E I hf st hg;subst hP hw hK;obtain⟨xs,ys,x,y,hq,hq2,hx,hy⟩:=hg;obtain⟨bA,rv,p,_⟩:=I.list hq;obtain⟨jts,rv2,p2,_⟩:=I.list hq2;obtain⟨u,hu,ru⟩:=rv.get hx;obtain⟨u2,hu2,ru2⟩:=rv2.get hy;have hi:i<min bA.toArray.size jts.toArray.size:=by
   have z1:=(zF.mp hu).1
   have z2:=(zF.mp hu2).1
   have sizes:bA.toArray.size=bA.length/\jts.toArray.size=jts.length:=⟨by simp,by simp⟩;omega
  have W:=WalksT.zip2 (prog:=X.prog) (w:=X.w) (A:=X.A) (I.ok.hd hc) z TI TO i1 i2 a b D bA.toArray jts.toArray;obtain⟨s1,s2,s3,s4,s5⟩:=st;refine W.item i s _ _ hi ⟨s1,s2,s3,s4,s5,p.isList,p2.isList⟩ λT vals h' tk hP hT ht mid k1=>?_
  obtain⟨v1,v2,hv1,hv2,rfl⟩:=hP;have e1:v1=u:=by
   have z:bA[i]?=some v1:=by simpa using hv1
   rw[hu] at z;exact(Option.some.inj z).symm
  have e2:v2=u2:=by
   have z:jts[i]?=some v2:=by simpa using hv2
   rw[hu2] at z;exact(Option.some.inj z).symm
  subst e1 e2;have sub:∀c∈[z,TO,i1,i2],c∈[z,TI,TO,i1,i2]:=λc hc=>by
   have hc':c=z\/c=TO\/c=i1\/c=i2:=by simpa using hc
   rcases hc' with rfl|rfl|rfl|rfl<;>simp
  have I1:Inv X aA σ (upd H T (.tup [x,y])) { s with heap:=h',toks:=tk }:=EY I k1 (λc hc=>hf c (sub c hc)) hT ht (.cons ru (.cons ru2 .nil)) (show 2<=sizeLine from Uj (by decide))
  have tiT:TI≠T:=λq=>by
   have hl:TI<s.heap.objs.size:=Heap.lt_size s2;rw[q] at hl;exact absurd (yD hl hT) (yL _)
  have neT:∀c∈[z,TI,TO,i1,i2],c≠T:=λc hc q=>by
   have hc':c=TI\/c∈[z,TO,i1,i2]:=by
    have hc2:c=z\/c=TI\/c=TO\/c=i1\/c=i2:=by simpa using hc
    rcases hc2 with rfl|rfl|rfl|rfl|rfl<;>simp
   rcases hc' with rfl|hc'
   ·exact tiT q
   ·exact W.apart i T h' mid (q ▸ hc')
  have hf1:∀c∈[z,TI,TO,i1,i2],Xl X aA (upd H T (.tup [x,y])) c:=λc hc=>⟨by rw[Yn (neT c hc)];exact(hf c hc).1,(hf c hc).2⟩
  refine⟨.ref T,rfl,W.go aT kk tp i T _ _ _ mid λh2 st2 k2=>?_⟩;have I2:Inv X aA σ (upd H T (.tup [x,y])) { s with heap:=h2,toks:=tk }:=L1 (s:={ s with heap:=h',toks:=tk }) (t':=tk) I1 k2 λc hc=>hf1 c (sub c hc)
  obtain⟨t1,t2,t3,t4,t5,_,_⟩:=st2;exact⟨.ref T,_,I2,rfl,⟨T,x,y,rfl,I.hok.fresh hT,rfl,λzs hz=>by rw[I.list_inj hz hq];exact hx,λzs hz=>by rw[I.list_inj hz hq2];exact hy⟩,⟨t1,t2,t3,t4,t5⟩,λc hc=>(hf1 c hc).1⟩
 done:=by
  intro X hP hw hK hc i aA s σ H E I hf st hg;subst hP hw hK;obtain⟨xs,ys,hq,hq2,hx⟩:=hg;obtain⟨bA,rv,p,_⟩:=I.list hq;obtain⟨jts,rv2,p2,_⟩:=I.list hq2;have W:=WalksT.zip2 (prog:=X.prog) (w:=X.w) (A:=X.A) (I.ok.hd hc) z TI TO i1 i2 a b D bA.toArray jts.toArray
  have hi:i=min bA.toArray.size jts.toArray.size:=by rw[zS,zS,<- rv.length,<- rv2.length];exact hx.symm
  subst hi;have sub:∀c∈[z,TO,i1,i2],c∈[z,TI,TO,i1,i2]:=λc hc=>by
   have hc':c=z\/c=TO\/c=i1\/c=i2:=by simpa using hc
   rcases hc' with rfl|rfl|rfl|rfl<;>simp
  obtain⟨s1,s2,s3,s4,s5⟩:=st;exact W.done s _ _ ⟨s1,s2,s3,s4,s5,p.isList,p2.isList⟩ λh' tk k1=>⟨rfl,L1 (t':=tk) I k1 λc hc=>hf c (sub c hc)⟩
 self:=λA i s Q E st h=>wpAny_pyIter_zip st.1 h
section
variable {X:Cx}
theorem zci {n l m:Nat}(h1:l<n)(h2:m<n):ZipApart (n+4) (n+2) (n+3) n (n+1) l m:=by
 have ne:∀ {i j:Nat},i<j\/j<i->i≠j:=λ{i j} h z=>by omega
 exact⟨ne (by omega),ne (by omega),ne (by omega),ne (by omega),ne (by omega),ne (by omega),ne (by omega),ne (by omega),ne (by omega),ne (by omega),ne (by omega),ne (by omega),ne (by omega),ne (by omega),ne (by omega),ne (by omega),ne (by omega),ne (by omega)⟩
def iZip (K:Fg)(ta:TA):TI:=λσ H R=>ta σ H λvs H1=>∃a b,vs=[.ref a,.ref b]/\(∃xs,SqL K H1 a xs)/\(∃ys,SqL K H1 b ys)/\R (Itz K a b) H1
theorem GS {a b:Expr}{ta:TA}{p pos tp:Pos}{aT:List Expr}{kk:Nat}(hg:Gl X "zip")(hm:X.mg "zip"=none)(hv:bootBuiltins "zip"=some (.type "zip"))(ha:PA X [a,b] ta)
  (hs:starEach [a,b] X.env=[(false,eval a X.env),(false,eval b X.env)]:=by rfl)(hs2:starEach [b] X.env=[(false,eval b X.env)]:=by rfl):PI X (.Tuple aT kk tp) (.Call (.Name "zip" p) [a,b] [] pos) (iZip X.K ta):=by
 intro aA s σ H R I h;refine Call_ (Up I hg hm hv (PyProof.Rows.callWith_type1 (thn (ha pos aA s σ H _ I h) λus s1 ⟨vs,H1,I1,r1,q1⟩=>?_) (by rw[hs,hs2]) (by rw[hs2];rfl)));obtain⟨l,m,e,⟨xs,hq⟩,⟨ys,hq2⟩,q⟩:=q1;subst e;cases r1 with
 | cons r rr=>
  cases rr with
  | cons r2 rr=>
   cases rr;cases r;cases r2;obtain⟨bA,rv,pl,_⟩:=I1.list hq;obtain⟨jts,rv2,pl2,_⟩:=I1.list hq2;have h1:l<s1.heap.objs.size:=by
    obtain⟨o,e,_⟩:=pl.isList;exact Heap.lt_size e
   have h2:m<s1.heap.objs.size:=by
    obtain⟨o,e,_⟩:=pl2.isList;exact Heap.lt_size e
   refine call_zip_2 pl.isList pl2.isList λh' hz hTI hTO hi1 hi2 hsz hk=>?_
   have I2:Inv X aA σ H1 { s1 with heap:=h' }:=I1.kept (t':=s1.toks) hk
   have D:=zci h1 h2;refine wpAny_pyIter_zip hz ⟨s1.heap.objs.size+4,[s1.heap.objs.size+4,s1.heap.objs.size+2,s1.heap.objs.size+3,s1.heap.objs.size,s1.heap.objs.size+1],_,_,H1,rfl,I2,Au l m _ _ _ _ _ D,⟨hz,hTI,⟨_,_,hTO⟩,hi1,hi2⟩,λc hc=>?_,q⟩;have hge:s1.heap.objs.size<=c:=by
    have hc':c=s1.heap.objs.size+4\/c=s1.heap.objs.size+2\/c=s1.heap.objs.size+3\/c=s1.heap.objs.size\/c=s1.heap.objs.size+1:=by simpa using hc
    rcases hc' with rfl|rfl|rfl|rfl|rfl
    ·exact Nat.le_add_right _ _
    ·exact Nat.le_add_right _ _
    ·exact Nat.le_add_right _ _
    ·exact zD _
    ·exact Nat.le_add_right _ _
   exact I1.fpOk hge (I1.hok.fresh hge)
end
section
variable {X:Cx}{Z:Zx}{pos:Pos}
theorem W9 {r r':List Addr}{S':Sto}{H':Hp}{n:Nat}{a:Addr}{o:Ob}(hn:r'[n]?=some a)(bC:Ye X.K r' S' H')(eo:lAt S' n=some o):∃xs,SqL X.K H' a xs/\Rps r' H' (Zu o) xs:=by
 obtain⟨eo,eL⟩:=Y7 eo;obtain⟨a',ha,ob⟩:=bC.at eo;rw[hn] at ha;cases ha
 exact ob.list eL
@[irreducible] def Jk (is:List Nat)(ta:TDA)(tb:TDS):TDS:=λE dl S=>ta dl S λds S1=>match ds with
 | [.ref n,.ref n']=>((lAt S1 n).isSome=true/\(lAt S1 n').isSome=true)/\∃W:Nat->Nat->Ev->Sto->Prop,(∃m,W 0 m dl S1)/\∀k m dl S,W k m dl S->match lAt S n,lAt S n' with
  | some o,some o'=>match (Zu o)[k]?,(Zu o')[k]? with
   | some x,some y=>tb { nx:=λdl' S'=>∃m',m'<m/\W (k+1) m' dl' S',rt:=E.rt,bk:=E.nx,ct:=λdl' S'=>∃m',m'<m/\W (k+1) m' dl' S' } (Rt is [x,y] dl) S
   | _,_=>k=min (Zu o).length (Zu o').length/\E.nx dl S
  | _,_=>False
 | _=>False
theorem Bp {i1 i2:Expr}{body:List Stmt}{es:List Expr}{kk:Nat}{tp p aQ:Pos}{is:List Nat}{ta:TDA}{tb:TDS}(hp:PassesOwn (model X.prog X.w) X.A X.env X.xe)(hc:X.calm=true)(hN:X.N.Nodup)(hn:Nms X es is)(h2:is.length=2)
  (hg:Gl X "zip")(hm:X.mg "zip"=none)(hv:bootBuiltins "zip"=some (.type "zip"))(ha:PDA X Z [i1,i2] ta)(hb:Wm X Z body tb)
  (aU:(assignEach es X.env).length=is.length:=by rfl)(hst:(assignEach es X.env).findIdx? (·.1)=none:=by rfl)(hse:starEach [i1,i2] X.env=[(false,eval i1 X.env),(false,eval i2 X.env)]:=by rfl)(hse2:starEach [i2] X.env=[(false,eval i2 X.env)]:=by rfl)
  (hs:∀y,foldedSetIterable (.Call (.Name "zip" p) [i1,i2] [] aQ) X.env y=pure y:=by intro _;rfl):PDS X Z (.For (.Tuple es kk tp) (.Call (.Name "zip" p) [i1,i2] [] aQ) body [] pos) (Jk is ta tb):=
 Xq (OS hp hc (GS hg hm hv ha hse hse2) (RM hc (TZ hN hn) aU hst) hb hs) λF σ H ⟨r,dl,S,E,rs,bC,h,ret⟩=>by
  unfold Jk at h;refine⟨r,dl,S,_,rs,bC,h,λvs H1 r1 ds S1 x1 aF p1 q1=>?_⟩;split at q1
  ·rename_i n n';obtain⟨v,vs',rfl,p2,p3⟩:=p1.uncons;obtain⟨v',vs2,rfl,p4,p5⟩:=p3.uncons;have z:=p5.unnil;subst z;cases p2 with
   | @ref n a hr=>
    cases p4 with
    | @ref n' a' hr'=>
     obtain⟨⟨aW,hsome'⟩,W,⟨m0,w0⟩,turn⟩:=q1;obtain⟨o1,eo1⟩:=yV.mp aW;obtain⟨o2,eo2⟩:=yV.mp hsome';obtain⟨xs1,sq1,_⟩:=W9 (r:=r1) hr aF.b eo1;obtain⟨ys1,sq2,_⟩:=W9 (r:=r1) hr' aF.b eo2;refine⟨a,a',rfl,⟨xs1,sq1⟩,⟨ys1,sq2⟩,λk m σ' H'=>∃r' dl' S',Ext r1 r' H1 H'/\Rs r' H' dl' σ'/\Rel X.K Z r' S' H'/\W k m dl' S',⟨m0,r1,dl,S1,Ext.refl,rs.ext x1,aF,w0⟩,?_⟩;rintro k m σ2 H2 ⟨r2,dl2,S2,x2,rs2,aG,w2⟩;have q:=turn k m dl2 S2 w2;split at q
     ·rename_i o o' eo eo';obtain⟨xs,sq,pr⟩:=W9 (r:=r2) (x2.adr _ _ hr) aG.b eo;obtain⟨ys,sq',pr'⟩:=W9 (r:=r2) (x2.adr _ _ hr') aG.b eo';split at q
      ·rename_i y y2 ey ey2;obtain⟨v,hvv,pv⟩:=pr.get ey;obtain⟨u,hvu,pu⟩:=pr'.get ey2;refine .inr ⟨⟨xs,ys,v,u,sq,sq',hvv,hvu⟩,λσ' H'=>∃m',m'<m/\∃r' dl' S',Ext r1 r' H1 H'/\Rs r' H' dl' σ'/\Rel X.K Z r' S' H'/\W (k+1) m' dl' S',λ_ _ z=>z,λv' H' y'=>?_⟩;obtain⟨T,w,w2',rfl,hT,rfl,hw,hw2⟩:=y';have ew:w=v:=by
        have z:=hw xs sq;rw[hvv] at z;exact(Option.some.inj z).symm
       have ew2:w2'=u:=by
        have z:=hw2 ys sq';rw[hvu] at z;exact(Option.some.inj z).symm
       subst ew ew2;have x3:Ext r2 r2 H2 (upd H2 T (.tup [w,w2'])):=HP hT
       have pp:Rps r2 (upd H2 T (.tup [w,w2'])) [y,y2] [w,w2']:=Rps.cons (pv.ext x3) (Rps.cons (pu.ext x3) Rps.nil)
       have aH:=aG.same (Vk (o:=.tup [w,w2']) hT)
       have go:∀σ' H' r' dl' S',Ext r2 r' (upd H2 T (.tup [w,w2'])) H'->Rs r' H' dl' σ'->Rel X.K Z r' S' H'->(∃m',m'<m/\W (k+1) m' dl' S')->∃m',m'<m/\∃r' dl' S',Ext r1 r' H1 H'/\Rs r' H' dl' σ'/\Rel X.K Z r' S' H'/\W (k+1) m' dl' S':=
        λσ' H' r' dl' S' x rs' rel' ⟨m',hm,w'⟩=>⟨m',hm,r',dl',S',x2.trans (x3.trans x),rs',rel',w'⟩
       exact⟨T,[w,w2'],rfl,SqT.of Wj,by rw[h2];rfl,by rw[h2];rfl,r2,_,S2,_,FC (rs2.ext x3) pp,aH,q,⟨go,λσ' H' r' dl' S' x rs' rel' z=>ret.nx σ' H' r' dl' S' (x1.trans (x2.trans (x3.trans x))) rs' rel' z,go,ret.rt.ext (x1.trans (x2.trans x3))⟩⟩
      ·obtain⟨hk,q⟩:=q;exact .inl ⟨⟨xs,ys,sq,sq',by rw[<- pr.1,<- pr'.1];exact hk.symm⟩,ret.nx σ2 H2 r2 dl2 S2 (x1.trans x2) rs2 aG q⟩
     ·exact q.elim
  ·exact q1.elim
end
section
variable {X:Cx}{Z:Zx}{pos:Pos}
@[irreducible] def OE (T:String)(te:TDE):TDE:=λdl S Q=>te dl S λd S1=>match d with
 | .ref n=>match S1[n]? with
  | some (.lst _)=>Q (.bl (YZ "list" T)) S1
  | _=>False
 | _=>False
theorem zbC (KT:PySem.W.kitOne X.K (.type "list") (.type T)=some (YZ "list" T))(hg:Gl X "isinstance")(hm:X.mg "isinstance"=none)(hg2:Gl X y)(hm2:X.mg y=none)(hv2:bootBuiltins y=some (.type T))(ha:PD X Z e te)(hv:bootBuiltins "isinstance"=some (.builtin "isinstance"):=by exact PyProof.Rows.Boot.«isinstance»)(hn2:y≠"__name__":=by decide)(hd2:(y==("__debug__":Str))=false:=by decide)(he2:starEach [e,.Name y p2] X.env=(false,eval e X.env)::starEach [.Name y p2] X.env:=by rfl)(he3:starEach [.Name y p2] X.env=(false,eval (.Name y p2) X.env)::starEach [] X.env:=by rfl)(hpl:(backTo pos (starEach [.Name y p2] X.env)).any (·.1)=false:=by rfl):
  PD X Z (.Call (.Name "isinstance" p) [e,.Name y p2] [] pos) (OE T te):=
 Yl (K0 IQ hg hm hv (V8 ha (V8 (IB (v:=.ty T) hg2 hm2 hv2 rfl hn2 hd2) Ph he3) he2) (by decide) (by decide) he2 hpl) λσ H Qv ⟨r,dl,S,Q,rs,bC,h,ret⟩=>
  by unfold OE at h;exact⟨r,dl,S,_,rs,bC,h,λv H1 r1 d S1 e1 aF p1 h1=>by
   cases p1 with
   | @ref n a hr=>
    dsimp only at h1;split at h1
    ·rename_i xs eS;obtain⟨ys,eH,_⟩:=aF.b.ob n a _ hr eS;exact⟨_,T,_,_,rfl,.lst eH,KT,ret _ _ _ _ _ e1 aF (.bl _) h1⟩
    ·exact h1.elim
   | _=>exact(show False from h1).elim⟩
end
theorem zdE (K:Fg):PySem.W.kitOne K (.type "list") (.type "list")=some (YZ "list" "list"):=by kernel_rfl
structure Dm (K:Fg)(C:Addr)(m aL:Str)(st:Stmt)(ps:List Str) where
 f:Addr
 fd:FuncData
 F:Fun K m aL st f fd
 m:TV K C m f
 b:Xv K fd ps []
structure Fm (P:Program)(w:World)(K:Fg)(mg:Str->Option Value)(base:Heap)(k:Nat)(C:Addr)(x:Str)(ps:List Str)(sd:Sd) where
 f:Addr
 fd:FuncData
 ok:Yo P w K mg base (CXE P w) k f fd ps (upF K sd)
 m:TV K C x f
 b:Xv K fd ps []
def Dm.mk' {P:Program}{w:World}{K:Fg}{mg:Str->Option Value}{base:Heap}{k:Nat}{C:Addr}{x aL:Str}{st:Stmt}{ps:List Str}{sd:Sd}(d:Dm K C x aL st ps)(h:Yo P w K mg base (CXE P w) k d.f d.fd ps (upF K sd)):Fm P w K mg base k C x ps sd:=
 ⟨d.f,d.fd,h,d.m,d.b⟩
theorem Ti:LM (CXE P w) X (λ_ _ _=>False):=λ_ _ _ _ _ _ _ h=>by
 obtain⟨_,_,_,_,_,_,_,_,_,_,_,_,q⟩:=h;exact q.elim
section
variable {X:Cx}{Z:Zx}
theorem zbP (hr:Z3 k X.A):OpR X (compareOp .In) (upO X.K Z (Xs (wIn 1 false))):=by rw[WS];exact do_in 1 (by have:=hr.un;omega)
theorem Ak (hr:Z3 k X.A):OpR X (compareOp .NotIn) (upO X.K Z (Xs (wIn 1 true))):=by rw[WS];exact AI 1 (by have:=hr.un;omega)
end
section
variable {X:Cx}{Z:Zx}{pos:Pos}
def RL:W2:=λx y S Q=>match x,y with
 | .ref n,.ref m=>match S[n]?,S[m]? with
  | some (.lst xs),some (.lst ys)=>xs.length+ys.length<=1000/\Q (.ref S.length) (S++[.lst (xs++ys)])
  | _,_=>False
 | _,_=>False
theorem Rps.app:∀ {ds es:List D} {xs ys:List V},Rps r H ds xs->Rps r H es ys->Rps r H (ds++es) (xs++ys)
 | [],es,xs,ys,p,q=>by
  have z:=p.unnil;subst z;exact q
 | d::ds,es,xs,ys,p,q=>by
  obtain⟨v,vs,rfl,p1,p2⟩:=p.uncons;exact Rps.cons p1 (p2.app q)
theorem Hl:OpR X (binaryOp .Add) (upO X.K Z (Xs RL)):=by
 rw[WS];exact Tz zaQ λx y H Qv ⟨r,S,dx,dy,Q,bC,px,py,q,ret⟩=>by
  unfold RL at q;split at q
  ·rename_i n m;split at q
   ·rename_i xs ys e1 e2;obtain⟨hl,q⟩:=q;cases px with
    | @ref _ a hn=>
     cases py with
     | @ref _ a' hm=>
      obtain⟨z,hz,ob⟩:=bC.at e1;rw[hn] at hz;cases hz
      obtain⟨z,hz,ob'⟩:=bC.at e2;rw[hm] at hz;cases hz
      obtain⟨us,h1,p1⟩:=ob;obtain⟨vs,h2,p2⟩:=ob';refine⟨a,a',us,vs,rfl,rfl,h1,h2,?_,λp hp=>?_⟩
      ·rw[<- p1.1,<- p2.1];exact Uj hl
      ·obtain⟨aJ,x⟩:=bC.push hp (p1.app p2);exact ret _ _ _ (.ref S.length) _ x aJ (Ue bC.len) q
   ·exact q.elim
  ·exact q.elim
theorem Gd (h1:S[n]?=some (.lst xs))(h2:S[m]?=some (.lst ys))(hl:xs.length+ys.length<=1000)(hq:Q (.ref S.length) (S++[.lst (xs++ys)])):Xs RL (.ref n) (.ref m) S Q:=by
 rw[WS];unfold RL;simp only[h1,h2];exact⟨hl,hq⟩
def MT (X:Cx)(m:Str)(tbl:List (Addr×Sd)):Prop:=∀C sd,(C,sd)∈tbl->Cls X.K C/\∃(f:Addr)(fd:FuncData)(k:Nat)(ps:List Str),TV X.K C m f/\Yo X.prog X.w X.K X.mg X.base (CXE X.prog X.w) k f fd ps (upF X.K sd)/\Z3 k X.A/\Xv X.K fd ps []
theorem EB:MT X m []:=λ_ _ h=>by cases h
theorem Wo (c:Cls X.K C)(G:Fm X.prog X.w X.K X.mg X.base k C m ps sd)(hr:Z3 k X.A)(h:MT X m tbl):MT X m ((C,sd)::tbl):=λC' sd' hm=>by
 rcases zQ.mp hm with e|e
 ·cases e;exact⟨c,G.f,G.fd,k,ps,G.m,G.ok,hr,G.b⟩
 ·exact h C' sd' e
theorem A4 (he:PE X o ta)(M:MT X m tbl)(hx:VD X W)(ha:PA X (e::es) t)(hst:starEach (e::es) X.env=(false,eval e X.env)::starEach es X.env)(hpl:(backTo pos (starEach es X.env)).any (·.1)=false)(ht:eval (.Call (.Attribute o m aO) (e::es) [] pos) X.env=(do
   let ov <- eval o X.env
   standAt aO.atName
   let (f,first) <- holding [ov] (getMethod ov m pl)
   callWith pos f first (backTo pos (starEach (e::es) X.env)) (backToKw pos (keywordEach [] X.env)))):
  PE X (.Call (.Attribute o m aO) (e::es) [] pos) (λσ H Q=>ta σ H λx H1=>∃a C dx fs sd,x=.ref a/\H1 a=some (.ins C dx fs)/\(C,sd)∈tbl/\fs.lookup m=none/\t σ H1 λvs H2=>upF X.K sd (x::vs) H2 Q (W σ)):=by
 intro aA s σ H Q I h;refine PySem.W.methodCall_KW (pl:=pl) (thn (he aA s σ H _ I h) λu s1 ⟨x,H1,I1,rx,a,C,dx,fs,sd,ex,ea,hm',l,q⟩=>?_) ht;subst ex;obtain rfl:u=Value.ref a:=rx;obtain⟨c,f,fd,k,ps,hm,F,hr,hb⟩:=M C sd hm';refine Cf I1 ea c hm l ?_;exact PySem.W.callWith_K (first:=[.ref a]) (h₀:=X.base) I.ok.mod.kin hm.kp (thn (ha pos aA s1 σ H1 _ I1 q) λus s2 ⟨vs,H2,I2,r,q2⟩=>⟨I2.kIn,Fz (us:=.ref a::us) (vs:=.ref a::vs) F hr hb hx I2 (.cons rfl r) q2⟩) hst hpl
@[irreducible] def J9 (tbl:List (Addr×Sd))(m:Str)(ex:Ev->Addr->Sto->Prop)(to:TDE)(t:TDA):TDE:=λdl S Q=>to dl S λd S1=>∃n C fs sd,d=.ref n/\S1[n]?=some (.ins C fs)/\(C,sd)∈tbl/\fs.lookup m=none/\t dl S1 λds S2=>sd (d::ds) S2 Q (ex dl)
theorem Dd (ho:PD X ⟨ex,W⟩ o to)(M:MT X m tbl)(hx:VD X W)(ha:PDA X ⟨ex,W⟩ (e::es) t)(hst:starEach (e::es) X.env=(false,eval e X.env)::starEach es X.env:=by rfl)(hpl:(backTo pos (starEach es X.env)).any (·.1)=false:=by rfl)(ht:eval (.Call (.Attribute o m aO) (e::es) [] pos) X.env=(do
   let ov <- eval o X.env
   standAt aO.atName
   let (f,first) <- holding [ov] (getMethod ov m pl)
   callWith pos f first (backTo pos (starEach (e::es) X.env)) (backToKw pos (keywordEach [] X.env))):=by rfl):PD X ⟨ex,W⟩ (.Call (.Attribute o m aO) (e::es) [] pos) (J9 tbl m ex to t):=
 Yl (A4 ho M hx ha hst hpl ht) λσ H Qv ⟨r,dl,S,Q,rs,bC,h,ret⟩=>by
  unfold J9 at h;refine⟨r,dl,S,_,rs,bC,h,λv H1 r1 d S1 e1 aF p1 q1=>?_⟩;obtain⟨n,C,fs,sd,rfl,eS,hm,hl,q1⟩:=q1;obtain⟨a,dx,fs',rfl,hr1,eH,fr⟩:=El (C:=C) (n:=n) (fs:=fs) aF.b p1 (by simp only[Vo,eS,if_pos]);exact⟨a,C,dx,fs',sd,rfl,eH,hm,fr.lookup.2 hl,r1,dl,S1,_,rs.ext e1,aF,q1,λvs H2 r2 ds S2 e2 aG p2 q2=>HU (Z:=⟨ex,W⟩) (rs.ext (e1.trans e2)) aG (Rps.cons (p1.ext e2) p2) q2 (ret.ext (e1.trans e2))⟩
theorem D1 {tbl:List (Addr×Sd)}{C:Addr}{m:Str}{ex:Ev->Addr->Sto->Prop}{sd:Sd}{to:TDE}{t:TDA}{dl:Ev}{S S1:Sto}{Q:DK}{n:Nat}{fs:List (Str×D)}(hto:∀K:DK,K (.ref n) S1->to dl S K)(h:S1[n]?=some (.ins C fs))(hm:(C,sd)∈tbl)(hf:fs.lookup m=none)(hq:t dl S1 λds S2=>sd (.ref n::ds) S2 Q (ex dl)):J9 tbl m ex to t dl S Q:=by
 unfold J9;exact hto _ ⟨n,C,fs,sd,rfl,h,hm,hf,hq⟩
end
end L3
namespace L3
open PySem PySem.Spec PyProof.Rows L2
section
variable {X:Cx}{Z:Zx}
end
structure VP (sc around:Scope)(own caps:List Str):Prop where
 kind:sc.kind=.function
 nocell:∀y∈sc.names,y.2≠.cell
 own:∀y∈sc.names,y.2=.local->sc.names.lookup y.1=some .local
 cap:∀y∈caps,sc.names.lookup y=some .free
 out:∀y∈sc.names,y.2=.free->around.names.lookup y.1=some .cell
def R7 (k:Nat)(caps:List Nat)(wi:TI)(gt:TG)(te:TE):TE:=λσ H Q=>wi σ H λJ H1=>∀D,H1 D=none->∃W:Nat->Nat->Hp->Prop,(∃m,W 0 m (upd H1 D (.lst [])))/\∀i m H,W i m H->
 (J.stop i H/\Q (.ref D) H)\/(J.go i H/\∀x H',J.yld i H x H'->∀o:St,o.length=k->gt x (o++Yw caps σ) H' λσ8 H8=>(∃o8:St,o8.length=k/\σ8=o8++Yw caps σ)/\
  te σ8 H8 λy H3=>∃ys,H3 D=some (.lst ys)/\ys.length<sizeLine/\∃m',m'<m/\W (i+1) m' (upd H3 D (.lst (ys++[y]))))
section
variable {X:Cx}{aA:LA}{σ:St}{H:Hp}{s:Shared}
theorem zcC (I:Inv X aA σ H s)(cs:VP sc X.env.scope own N)(hN:∀(j:Nat)(y:Str),N[j]?=some y->∃i,caps[j]?=some i/\X.N[i]?=some y)(aU:caps.length=N.length)(c1:∀x c,cl.lookup x=some c->X.env.cells.lookup x=some c)(c2:∀y∈sc.names,y.2=.free->cl.lookup y.1=X.env.cells.lookup y.1)(hf:∀b∈fp,Xl X aA H b)(hfo:∀b∈fp,b<s.heap.objs.size)(hns:h1.Ns s.heap.objs.size m)(hk:∀b o,s.heap.get? b=some o->h1.get? b=some o):
  Inv (Cx.comp X sc (own++N) cl s.heap.objs.size s H fp (X.pn++aA)) [] (List.replicate own.length none++Yw caps σ) H { s with heap:=h1,toks:=tk }:=by
 have stk:∀b∈frs X.stack,b=X.env.locals\/b∈X.fs:=λb hb=>zQ.mp (I.stkSub b hb)
 refine⟨⟨I.ok.mod,cs.kind,I.ok.glob,I.ok.blt,zD _,λa b c h1 h2=>I.ok.inj a b c (c1 _ _ h1) (c1 _ _ h2),λy hy=>?_,λ_ _ z=>Bool.noConfusion z,I.ok.hd,I.ok.frames,.inl rfl,λb hb=>⟨zX (hfo b hb),λy c e=>(hf b hb).2.2.2.2.1 y c (c1 _ _ e)⟩,
  I.bs,yK I.ok.bsz I.sz,λb o e hb=>?_,λb hb z=>?_,I.stack,I.stkFree⟩,rfl,I.bare,Un.kept hk,⟨m,hns,λi y v e1 e2 e3=>?_⟩,λy c e=>?_,I.hok.fresh (zD _),λy c e=>I.freeC y c (c1 _ _ e),λp hp=>?_,I.hok.kept hk,?_⟩
 ·have hfr:sc.names.lookup y=some .free:=Ea cs.nocell hy
  have hm:=RN hfr;obtain⟨c,e⟩:=I.ok.has y (.inl (cs.out _ hm rfl));exact⟨c,(c2 _ hm rfl).trans e⟩
 ·rcases (hf b hb).2.2.2.1 with z|z
  ·exact I.ok.noex b o e z
  ·exact absurd (yD (Heap.lt_size (I.ok.bs b o e).1) z) (yL _)
 ·rcases stk b z with z|z
  ·exact(hf b hb).2.1 z
  ·exact(hf b hb).2.2.1 z
 ·rcases Nat.lt_or_ge i own.length with hi|hi
  ·rw[zV (by simpa using hi),List.getElem?_replicate] at e2;simp[hi] at e2
  ·obtain⟨i,rfl⟩:∃k,i=own.length+k:=⟨i-own.length,by omega⟩;have e1':N[i]?=some y:=by
    rw[yI hi] at e1;simpa using e1
   have e2:(Yw caps σ)[i]?=some (some v):=by
    rw[yI (by simp)] at e2;simpa using e2
   obtain⟨j,hj,hy⟩:=hN i y e1';have e2':σ[j]?=some (some v):=by
    simp only[Yw,zG,hj,Option.map_some,Option.some.injEq] at e2;cases q:σ[j]? with
    | none=>rw[q] at e2;cases e2
    | some o=>rw[q] at e2;simp at e2;rw[e2]
   have hfr:sc.names.lookup y=some .free:=cs.cap y (zN e1')
   have hm:=RN hfr
   have hce:X.env.scope.names.lookup y=some .cell:=cs.out _ hm rfl;obtain⟨m0,_,hl⟩:=I.loc;obtain⟨u,r,l⟩:=hl j y v hy e2' (.inr (.inl hce));refine⟨u,r,.inr ⟨Gj hfr,?_⟩⟩;rcases l with ⟨k,_⟩|⟨_,c,ec,hcell⟩
   ·rw[show X.env.kindOf y=some .cell from hce] at k;cases k
   ·exact⟨c,(c2 _ hm rfl).trans ec,hcell.keeps hk⟩
 ·obtain⟨v,z⟩:=I.cell y c (c1 _ _ e);exact⟨v,z.keeps hk⟩
 ·have hp':p∈X.pn++aA:=by simpa using hp
  obtain⟨p1,p2,p3,p4,p5⟩:=I.pin p hp';refine⟨hk _ _ p1,p2,zX (Heap.lt_size p1),λz=>?_,p5⟩;rcases stk _ z with z|z
  ·exact p3 z
  ·exact p4 z
 ·simp[Yw,aU]
end
section
variable {X:Cx}{aZ aX:Expr}{aT:List Expr}{kk:Nat}{tp:Pos}{pos:Pos}{sc:Scope}{own N:List Str}{caps:List Nat}{wi:TI}{gt:TG}{te:TE}
theorem Ez (hc:X.calm=true)(cs:VP sc X.env.scope own N)(hN:∀(j:Nat)(y:Str),N[j]?=some y->∃i,caps[j]?=some i/\X.N[i]?=some y)(aU:caps.length=N.length)(hi:PI X (.Tuple aT kk tp) aX wi)(hg:∀cl C s0 H0 fp pn,PG (Cx.comp X sc (own++N) cl C s0 H0 fp pn) (.Tuple aT kk tp) gt)(he:∀cl C s0 H0 fp pn,PE (Cx.comp X sc (own++N) cl C s0 H0 fp pn) aZ te)(hs:∀y,foldedSetIterable aX X.env y=pure y)(I:Inv X aA σ H s)(h:R7 own.length caps wi gt te σ H Q)(bB:∀D C s',Cj X aA σ C Q D s'->compPost (model X.prog X.w) X.A X.xe use Qr (.ref D) C (.ok .next) s'):
  wpAny (model X.prog X.w) X.A (comprehension (.ListComp aZ [⟨.Tuple aT kk tp,aX,[],0⟩] sc pos) sc X.env p2 (newList []) false (eval aX X.env) use) Qr X.xe s:=by
 obtain⟨cl,k1,k2,k3⟩:=DR (sc:=sc) (env:=X.env) λy hy hf=>I.ok.has y.1 (.inl (cs.out y hy hf))
 refine wpAny_comprehension_free rfl hs k1 cs.kind cs.own (thn (hi aA s σ H _ I h) λv s1 h1=>thn h1 λitv s2 h2=>?_);obtain⟨it,fp,tn,J,H2,e,I2,T,st2,f2,body⟩:=h2;subst e;have hfo:∀b∈fp,b<s2.heap.objs.size:=λb hb=>by
  obtain⟨o,e,_⟩:=T.obj _ _ st2 b hb;exact Heap.lt_size e
 have hD:H2 s2.heap.objs.size=none:=I2.hok.fresh (zD _);obtain⟨W,⟨m0,w0⟩,turn⟩:=body _ hD;refine wpAny_newObj_type ?_;have I3:Inv X aA σ (upd H2 s2.heap.objs.size (.lst [])) { s2 with heap:=s2.heap.push { cls:=.type "list",dict:=none,data:=.seq ([]:List Value).toArray },toks:=s2.toks }:=
  I2.laid (t':=s2.toks) (λb u e=>Heap.get?_push_of_some _ e) (zD _) ⟨zL _,[],0,.nil,Heap.get?_push_size _ rfl⟩
 generalize hs3:({ s2 with heap:=s2.heap.push { cls:=.type "list",dict:=none,data:=.seq ([]:List Value).toArray },toks:=s2.toks }:Shared)=s3 at I3;have es3:({ s2 with heap:=s2.heap.push { cls:=.type "list",dict:=none,data:=.seq ([]:List Value).toArray } }:Shared)=s3:=hs3
 try rw[es3]
 have f3:∀b∈fp,Xl X aA (upd H2 s2.heap.objs.size (.lst [])) b:=λb hb=>⟨by rw[Yn (zX (hfo b hb))];exact(f2 b hb).1,(f2 b hb).2⟩
 have up3:∀b o,s2.heap.get? b=some o->s3.heap.get? b=some o:=λb o e=>by rw[<- hs3];exact Heap.get?_push_of_some _ e
 have st3:tn 0 s3.heap:=T.keep _ _ _ st2 λb _ o e=>up3 b o e
 have hfo3:∀b∈fp,b<s3.heap.objs.size:=λb hb=>by
  obtain⟨o,e,_⟩:=T.obj _ _ st3 b hb;exact Heap.lt_size e
 refine wpAny_newFunctionEnv cs.nocell (λy hy=>by simp at hy) (λh4 ns4 sb4=>?_) cs.kind;have hk4:∀b o,s3.heap.get? b=some o->h4.get? b=some o:=λb o e=>(sb4.2 b (zX (Heap.lt_size e))).trans (Heap.get?_push_of_some _ e)
 have I4:=zcC (tk:=s3.toks+([]:List (Str×Value)).length) I3 cs hN aU k2 k3 f3 hfo3 ns4 hk4;generalize hs4:({ s3 with heap:=h4,toks:=s3.toks+([]:List (Str×Value)).length }:Shared)=s4 at I4 ⊢;have eh4:s4.heap=h4:=by rw[<- hs4]
 have st4:tn 0 s4.heap:=by rw[eh4];exact T.keep _ _ _ st3 λb _ o e=>hk4 b o e
 have fY:∀ {H':Hp},(∀b∈fp,H' b=none)->∀b∈fp,Xl (Cx.comp X sc (own++N) cl s3.heap.objs.size s3 (upd H2 s2.heap.objs.size (.lst [])) fp (X.pn++aA)) [] H' b:=λhn b hb=>by
  obtain⟨_,z2,z3,z4,z5,z6⟩:=f3 b hb;refine⟨hn b hb,zX (hfo3 b hb),λz=>?_,.inl hb,λy c e=>z5 y c (k2 _ _ e),λp hp=>z6 p (by simpa using hp)⟩;rcases zQ.mp (I3.stkSub b z) with z|z
  ·exact z2 z
  ·exact z3 z
 have loop:codeAny (model X.prog X.w) X.A (.compLoop (.ListComp aZ [⟨.Tuple aT kk tp,aX,[],0⟩] sc pos) 0 (.ref it) (.ref s2.heap.objs.size) (compEnvC sc cl s3.heap.objs.size X.env))
   (compPost (model X.prog X.w) X.A X.xe use Qr (.ref s2.heap.objs.size) s3.heap.objs.size) s4:=by
  refine LCp.codeAny_compLoop_pair (λn s'=>∃i o H',o.length=own.length/\Inv (Cx.comp X sc (own++N) cl s3.heap.objs.size s3 (upd H2 s2.heap.objs.size (.lst [])) fp (X.pn++aA)) [] (o++Yw caps σ) H' s'/\tn i s'.heap/\(∀b∈fp,H' b=none)/\W i n H') ?_ m0
   ⟨0,_,_,List.length_replicate,I4,st4,λb hb=>(f3 b hb).1,w0⟩
  rintro n s5 ⟨i,o,H5,ho,I5,st5,fr5,w5⟩;rcases turn i n H5 w5 with ⟨stop,q⟩|⟨go,step⟩
  ·refine thn (T.done (Cx.comp X sc (own++N) cl s3.heap.objs.size s3 (upd H2 s2.heap.objs.size (.lst [])) fp (X.pn++aA)) rfl rfl rfl hc i [] s5 _ H5 _ I5 (fY fr5) st5 stop) λr s6 ⟨hr,I6⟩=>?_
   subst hr;refine bB _ _ _ ⟨⟨H5,I3.call' I6.os I6.base I6.hok I6.bare (λb hb=>?_),q,I6.free⟩,?_,Nat.ne_of_gt I3.lt,I3.sz,λy c e z=>?_,λp hp z=>?_⟩
   ·obtain⟨_,z2,z3,z4,z5,z6⟩:=f3 b hb;exact⟨z4,z2,z5,z6⟩
   ·obtain⟨m,hm,_⟩:=I6.loc;exact⟨m,hm⟩
   ·obtain⟨v,hv⟩:=I3.cell y c e;exact absurd (z ▸ hv.lt) (yL _)
   ·exact absurd (z ▸ Heap.lt_size (I3.pin p hp).1) (yL _)
  ·refine thn (T.item (Cx.comp X sc (own++N) cl s3.heap.objs.size s3 (upd H2 s2.heap.objs.size (.lst [])) fp (X.pn++aA)) rfl rfl rfl hc i [] s5 _ H5 _ I5 (fY fr5) st5 go) λr s6 ⟨u,hr,h6⟩=>?_
   subst hr;refine wpAny_mono h6 (λ_ s7 ⟨y,H7,I7,r7,y7,st7,fr7⟩=>?_) λ_ _ z=>z
   have I7':=I7.pinned (fY fr7) (T.obj _ _ st7);refine wpAny_mono (hg _ _ _ _ _ _ _ s7 _ H7 y u _ I7' r7 (step y H7 y7 o ho)) (λ_ s8 ⟨σ8,H8,I8,⟨o8,ho8,e8⟩,q8⟩=>?_) λ_ _ z=>z.elim
   subst e8;have stay:∀ {H':Hp} {s':Shared},Inv (Cx.comp X sc (own++N) cl s3.heap.objs.size s3 (upd H2 s2.heap.objs.size (.lst [])) fp (X.pn++aA)) ([]++Tw fp s7.heap) (o8++Yw caps σ) H' s'->∀m',m'<n->W (i+1) m' H'->
     ∃m,m<n/\∃i o H',o.length=own.length/\Inv (Cx.comp X sc (own++N) cl s3.heap.objs.size s3 (upd H2 s2.heap.objs.size (.lst [])) fp (X.pn++aA)) [] (o++Yw caps σ) H' s'/\tn i s'.heap/\(∀b∈fp,H' b=none)/\W i m H':=λ{H' s'} J m' hm w'=>by
    refine⟨m',hm,i+1,o8,H',ho8,J.unpinned,T.keep _ _ _ st7 λb hb o e=>(J.pin (b,o) (yN _ (yN _ (TX hb e)))).1,λb hb=>?_,w'⟩;obtain⟨o,e,d⟩:=T.obj _ _ st7 b hb;exact(J.pin (b,o) (yN _ (yN _ (TX hb e)))).2.1
   refine wpAny_mono (he _ _ _ _ _ _ _ s8 _ H8 _ I8 q8) (λu2 s10 ⟨z,H10,I10,r10,q10⟩=>?_) λ_ _ z=>z.elim
   obtain⟨ys,hD10,hlt,m',hm,w10⟩:=q10;refine wpAny_mono (IX (X:=(Cx.comp X sc (own++N) cl s3.heap.objs.size s3 (upd H2 s2.heap.objs.size (.lst [])) fp (X.pn++aA))) _ s10 _ H10 (.ref s2.heap.objs.size) [z] (.ref s2.heap.objs.size) [u2] (λ_ H'=>H'=upd H10 s2.heap.objs.size (.lst (ys++[z]))) I10 rfl (.cons r10 .nil) ⟨_,ys,z,rfl,rfl,hD10,hlt,rfl⟩) (λ_ s11 ⟨_,H11,I11,_,e11⟩=>?_) λ_ _ z=>z.elim
   subst e11;exact stay I11 m' hm w10
 exact codeAny_compStart_list loop (T.self _ 0 s4 _ _ st4 loop)
theorem Ei (hc:X.calm=true)(cs:VP sc X.env.scope own N)(hN:caps.map (λi=>X.N[i]?)=N.map some)
  (hi:PI X (.Tuple aT kk tp) aX wi)(hg:∀cl C s0 H0 fp pn,PG (Cx.comp X sc (own++N) cl C s0 H0 fp pn) (.Tuple aT kk tp) gt)(he:∀cl C s0 H0 fp pn,PE (Cx.comp X sc (own++N) cl C s0 H0 fp pn) aZ te)
  (hs:∀y,foldedSetIterable aX X.env y=pure y:=by intro _;rfl):PE X (.ListComp aZ [⟨.Tuple aT kk tp,aX,[],0⟩] sc pos) (R7 own.length caps wi gt te):=by
 intro aA s σ H Q I h;rw[eval_ListComp];refine Ez (use:=none) hc cs (V5 hN).1 (V5 hN).2 hi hg he hs I h λD C s' f=>?_
 obtain⟨⟨H',I',q,hC⟩,⟨m,ns⟩,l,o,c,p⟩:=f;exact⟨m,ns,λh' sb=>⟨.ref D,H',I'.turned (t':=s'.toks) (λb ob hb e=>(sb.2 b hb).trans e) hC l (.inr o) c p,rfl,q⟩⟩
end
section
variable {X:Cx}{Z:Zx}{aZ:Expr}{pos:Pos}{sc ar:Scope}{N:List Str}{caps:List Nat}
def Np (caps:List Nat)(te:TDE)(k:Nat)(dl:Ev)(d1 d2:D)(S:Sto)(nx:Sto->Prop):Prop:=
 te (some d1::some d2::YQ caps dl) S λy S2=>match S2[k]? with
  | some (.lst ys)=>ys.length<1000/\nx (S2.set k (.lst (ys++[y])))
  | _=>False
@[irreducible] def RK (caps:List Nat)(ta:TDA)(te:TDE):TDE:=λdl S Q=>ta dl S λds S1=>match ds with
 | [.ref n]=>(lAt S1 n).isSome=true/\∃W:Nat->Nat->Sto->Prop,(∃m,W 0 m (S1++[.lst []]))/\∀k m S2,W k m S2->match lAt S2 n with
  | some o=>match (Zu o)[k]? with
   | some y=>Np caps te S1.length dl (.int (k:Int)) y S2 λS3=>∃m',m'<m/\W (k+1) m' S3
   | none=>k=(Zu o).length/\Q (.ref S1.length) S2
  | none=>False
 | _=>False
theorem Cn {r:List Addr}{H:Hp}{dl:Ev}{σ:St}{d1 d2:D}{v1 v2:V}(h:Rs r H dl σ)(p1:Rp r H d1 v1)(p2:Rp r H d2 v2):Rs r H (some d1::some d2::YQ caps dl) (some v1::some v2::Yw caps σ):=by
 have z:=Dh (caps:=caps) h p2;refine⟨by have:=z.1;simp only[zY] at this ⊢;omega,λi e hi=>?_⟩;cases i with
 | zero=>simp at hi;subst hi;exact⟨v1,rfl,p1⟩
 | succ i=>exact z.2 i e (by simpa using hi)
theorem AS {ta:TDA}{te:TDE}{σ:St}{H:Hp}{Qv:VK}(h:up X.K Z (RK caps ta te) σ H Qv):
  R7 2 caps (Cw X.K (upA X.K Z ta)) (So X.K 2 (SS [0,1])) (up X.K Z0 te) σ H Qv:=by
 obtain⟨r,dl,S,Q,rs,bC,h,ret⟩:=h;unfold RK at h;refine⟨r,dl,S,_,rs,bC,h,λvs H1 r1 ds S1 x1 aF p1 q1=>?_⟩;split at q1
 ·rename_i n;obtain⟨v,vs',rfl,p2,p3⟩:=p1.uncons;have z:=p3.unnil;subst z;cases p2 with
  | @ref n a hr=>
   obtain⟨aW,W,⟨m0,w0⟩,turn⟩:=q1;obtain⟨o1,eo1⟩:=yV.mp aW;obtain⟨xs1,sq1,_⟩:=W9 (r:=r1) hr aF.b eo1;refine⟨a,rfl,⟨xs1,sq1⟩,λD0 hD=>?_⟩;obtain⟨aG,x2⟩:=aF.b.push (ds:=[]) (xs:=[]) hD Rps.nil;refine⟨λk m H'=>∃r' S',Ext (r1++[D0]) r' (upd H1 D0 (.lst [])) H'/\Ye X.K r' S' H'/\W k m S',⟨m0,_,_,Ext.refl,aG,w0⟩,?_⟩;rintro k m H2 ⟨r2,S2,x3,rb2,w2⟩;have ha2:r2[S1.length]?=some D0:=x3.adr _ _ (Pq aF.len)
   have hr2:r2[n]?=some a:=(x2.trans x3).adr _ _ hr
   have q:=turn k m S2 w2;split at q
   ·rename_i o eo;obtain⟨xs,sq,pr⟩:=W9 (r:=r2) hr2 rb2 eo;split at q
    ·rename_i y ey;obtain⟨v,hv,pv⟩:=pr.get ey;refine .inr ⟨⟨xs,v,sq,hv⟩,λv' H' y' o8 ho8=>?_⟩;obtain⟨T,w,rfl,hT,rfl,hw⟩:=y';have ew:w=v:=by
      have z:=hw xs sq;rw[hv] at z;exact(Option.some.inj z).symm
     subst ew;obtain⟨c1,c2,rfl⟩:∃c1 c2,o8=[c1,c2]:=by
      match o8,ho8 with
      | [c1,c2],_=>exact⟨c1,c2,rfl⟩
     have x4:Ext r2 r2 H2 (upd H2 T (.tup [.int (k:Int),w])):=HP hT
     have rb3:=rb2.same (Vk (o:=.tup [.int (k:Int),w]) hT)
     have rs3:=rs.ext (x1.trans (x2.trans (x3.trans x4)));refine⟨T,[.int (k:Int),w],rfl,SqT.of Wj,rfl,rfl,⟨[some (.int (k:Int)),some w],rfl,rfl⟩,?_⟩;have rsY:=Cn (caps:=caps) rs3 (.int (k:Int)) (pv.ext x4);refine⟨r2,_,S2,_,rsY,⟨rb3,λ_ _ _ _ _ _ _ _ _ z=>z.elim⟩,q,λz H4 r4 dz S4 x6 aJ p4 q4=>?_⟩;split at q4
     ·rename_i ys eys;obtain⟨hl,m',hm,q4⟩:=q4;have ha4:r4[S1.length]?=some D0:=x6.adr _ _ ha2;obtain⟨zs,hD4,pz⟩:=aJ.b.ob _ _ _ ha4 eys;obtain⟨rel5,x7⟩:=aJ.b.set ha4 eys (pz.snoc p4);exact⟨zs,hD4,by rw[<- pz.1];exact Rx (yY hl),m',hm,r4,_,x3.trans (x4.trans (x6.trans x7)),rel5,q4⟩
     ·exact q4.elim
    ·obtain⟨hk,q⟩:=q;exact .inl ⟨⟨xs,sq,by rw[<- pr.1];exact hk.symm⟩,ret _ H2 r2 _ S2 (x1.trans (x2.trans x3)) ⟨rb2,bC.xw.ext (x1.trans (x2.trans x3))⟩ (.ref ha2) q⟩
   ·exact q.elim
 ·exact q1.elim
theorem TY (har:X.env.scope=ar)(hc:X.calm=true)(cs:VP sc ar [x1,x2] N)(hl1:sc.names.lookup x1=some .local)(hl2:sc.names.lookup x2=some .local)(hN:caps.map (λi=>X.N[i]?)=N.map some)(hnd:([x1,x2]++N).Nodup)(hg:Gl X "enumerate")(hm:X.mg "enumerate"=none)(hv:bootBuiltins "enumerate"=some (.type "enumerate"))(ha:PDA X Z [a] ta)(he:∀cl C s0 H0 fp pn,PD (Cx.comp X sc ([x1,x2]++N) cl C s0 H0 fp pn) Z0 aZ te)(hse:starEach [a] X.env=[(false,eval a X.env)]:=by rfl)(hs:∀y,foldedSetIterable (.Call (.Name "enumerate" p) [a] [] aQ) X.env y=pure y:=by intro _;rfl):
  PD X Z (.ListComp aZ [⟨.Tuple [.Name x1 p1,.Name x2 p2] kk tp,.Call (.Name "enumerate" p) [a] [] aQ,[],0⟩] sc pos) (RK caps ta te):=by
 subst har;refine Yl (Ei hc cs hN (gt:=So X.K 2 (SS [0,1])) (te:=up X.K Z0 te) (zbg hg hm hv ha hse) (λcl C s0 H0 fp pn=>?_) he hs) λ_ _ _ h=>AS h
 have l1:(Cx.comp X sc ([x1,x2]++N) cl C s0 H0 fp pn).env.scope.names.lookup x1=some .local:=lookup_relabel_local hl1
 have l2:(Cx.comp X sc ([x1,x2]++N) cl C s0 H0 fp pn).env.scope.names.lookup x2=some .local:=lookup_relabel_local hl2;exact RM hc (TZ hnd (.cons rfl (.inl l1) (.inr l1) (.cons rfl (.inl l2) (.inr l2) .nil))) rfl rfl
end
section
variable {X:Cx}{Z:Zx}{pos:Pos}
def NN:WC:=λds S Q=>match ds with
 | [.ref n]=>match lAt S n with
  | some o=>match XC (Zu o) with
   | some ns=>Q (.int ns.sum) S
   | none=>False
  | none=>False
 | _=>False
theorem Sl (hc:X.calm=true):YA X (.builtin "sum") (upC X.K Z NN):=by
 intro aA s σ H xs us Qv I rv h;obtain⟨r,S,ds,Q,bC,ps,q,ret⟩:=h;unfold NN at q;split at q
 ·rename_i n;obtain⟨v,vs,rfl,p1,p2⟩:=ps.uncons;have z:=p2.unnil;subst z;split at q
  ·rename_i o eo;split at q
   ·rename_i ns en;cases p1 with
    | ref h1=>
     obtain⟨eo,eL⟩:=Y7 eo;obtain⟨a,ha,ob⟩:=bC.at eo;rw[h1] at ha;cases ha
     obtain⟨ys,sq,pr⟩:=ob.list eL;obtain⟨u,rfl,ru⟩:=W5 rv;cases ru;obtain⟨bA,ri,pl,hz⟩:=I.list sq;obtain⟨zs,hz1,hz2⟩:=Oj en pr ri;have isl:=pl.isList;rw[hz1] at isl;refine sum_intListG (I.ok.hd hc) isl λh' tk t' hk=>?_
     have e:preSum (numAt zs.toArray) zs.toArray.size=ns.sum:=by
      rw[preSum_eq,yB (by simp)];show (zs.map (·.1)).sum=ns.sum;rw[hz2]
     rw[e];exact⟨.int _,H,I.kept hk,⟨_,rfl⟩,ret _ _ _ _ _ Ext.refl bC (.int _) q⟩
   ·exact q.elim
  ·exact q.elim
 ·exact q.elim
end
section
variable {X:Cx}{Z:Zx}{pos:Pos}
def NT:WC:=λds S Q=>match ds with
 | [.ref n]=>match lAt S n with
  | some o=>match XC (Zu o) with
   | some ns=>ns.length<64/\∀ms:List Int,ms.Perm ns->ms.Pairwise (·<=·)->Q (.ref S.length) (S++[.lst (ms.map D.int)])
   | none=>False
  | none=>False
 | _=>False
theorem RD:∀ {us:List Value} {ms:List Int},IntsAre us ms->ZG (ms.map V.int) us
 | _,_,.nil=>.nil
 | _,_,.cons n t h=>.cons ⟨t,rfl⟩ (RD h)
theorem zbc:∀ {zs:List (Int×Tok)},us=zs.map (λp=>Value.int p.1 p.2)->IntsAre us (zs.map (·.1)):=by
 intro zs e;subst e
 induction zs with
 | nil=>exact .nil
 | cons z zs ih=>exact .cons z.1 z.2 ih
theorem EX:YA X (.builtin "sorted") (upC X.K Z NT):=by
 intro aA s σ H xs us Qv I rv h;obtain⟨r,S,ds,Q,bC,ps,q,ret⟩:=h;unfold NT at q;split at q
 ·rename_i n;obtain⟨v,vs,rfl,p1,p2⟩:=ps.uncons;have z:=p2.unnil;subst z;split at q
  ·rename_i o eo;split at q
   ·rename_i ns en;obtain⟨hl,q⟩:=q;cases p1 with
    | ref h1=>
     obtain⟨eo,eL⟩:=Y7 eo;obtain⟨a,ha,ob⟩:=bC.at eo;rw[h1] at ha;cases ha
     obtain⟨ys,sq,pr⟩:=ob.list eL;obtain⟨u,rfl,ru⟩:=W5 rv;cases ru;obtain⟨bA,ri,pl,hz⟩:=I.list sq;obtain⟨zs,hz1,hz2⟩:=Oj en pr ri;have ei:bA=zs.map (λp=>Value.int p.1 p.2):=by
      have z:=congrArg Array.toList hz1;simpa [intItems] using z
     have ia:IntsAre bA ns:=by
      have z:=zbc ei
      rwa [hz2] at z
     have ll:bA.length=ns.length:=by rw[ei,zA,<- hz2,zA]
     refine sorted_ints pl.isList ia (by omega) λout ms a1 a2 a3=>?_
     obtain⟨e,he⟩:=sortedAll_at s.heap bA out;have hf:H (s.heap.objs.size+1)=none:=I.hok.fresh (xQ _);obtain⟨aG,x⟩:=bC.push (ds:=ms.map D.int) (xs:=ms.map V.int) hf (En ms);refine⟨.ref (s.heap.objs.size+1),_,I.laid (t':=s.toks) (λb o e=>sortedAll_old e) (xQ _) (show YR X.prog X.w _ _ _ (.lst (ms.map V.int)) from ⟨?_,out.toList,e,RD a1,by rw[Array.toArray_toList];exact he⟩),rfl,ret _ _ _ (.ref S.length) _ x aG (Ue bC.len) (q ms a2 a3)⟩;rw[zA,a2.length_eq];exact Uj (by omega)
   ·exact q.elim
  ·exact q.elim
 ·exact q.elim
theorem DZ (h:lAt S n=some o)(e:XC (Zu o)=some ns)(hl:ns.length<64)(hq:∀ms:List Int,ms.Perm ns->ms.Pairwise (·<=·)->Q (.ref S.length) (S++[.lst (ms.map D.int)])):irr NT [.ref n] S Q:=by
 rw[Vr];unfold NT;simp only[h,e];exact⟨hl,hq⟩
def JV:W2:=λx y S Q=>match x,y with
 | .ref n,.int k=>match S[n]? with
  | some (.lst xs)=>(0<=k/\k<=1000/\xs.length*k.toNat<=1000)/\Q (.ref S.length) (S++[.lst (List.replicate k.toNat xs).flatten])
  | _=>False
 | _,_=>False
theorem Rps.rep (h:Rps r H ds xs):∀k:Nat,Rps r H (List.replicate k ds).flatten (List.replicate k xs).flatten
 | 0=>Rps.nil
 | k+1=>by
  simp only[xM,xR];exact h.app (Rps.rep h k)
theorem zel:OpR X (binaryOp .Mult) (upO X.K Z (Xs JV)):=by
 rw[WS];exact Tz zaX λx y H Qv ⟨r,S,dx,dy,Q,bC,px,py,q,ret⟩=>by
  unfold JV at q;split at q
  ·rename_i n k;split at q
   ·rename_i xs e1;obtain⟨⟨h0,h1,hl⟩,q⟩:=q;cases py;cases px with
    | @ref _ a hn=>
     obtain⟨z,hz,ob⟩:=bC.at e1;rw[hn] at hz;cases hz
     obtain⟨us,g1,p1⟩:=ob;refine⟨a,k,us,rfl,rfl,g1,by omega,by omega,by rw[<- p1.1];exact Uj hl,λp hp=>?_⟩;obtain⟨aJ,x⟩:=bC.push hp (p1.rep k.toNat);exact ret _ _ _ (.ref S.length) _ x aJ (Ue bC.len) q
   ·exact q.elim
  ·exact q.elim
theorem zca (h1:S[n]?=some (.lst xs))(hk:0<=k/\k<=1000)(hl:xs.length*k.toNat<=1000)(hq:Q (.ref S.length) (S++[.lst (List.replicate k.toNat xs).flatten])):Xs JV (.ref n) (.int k) S Q:=by
 rw[WS];unfold JV;simp only[h1];exact⟨⟨hk.1,hk.2,hl⟩,hq⟩
end
section
variable {X:Cx}{Z:Zx}{aZ:Expr}{pos:Pos}{sc ar:Scope}{N:List Str}{caps:List Nat}
@[irreducible] def U6 (caps:List Nat)(ta:TDA)(te:TDE):TDE:=λdl S Q=>ta dl S λds S1=>match ds with
 | [.ref n,.ref n']=>((lAt S1 n).isSome=true/\(lAt S1 n').isSome=true)/\∃W:Nat->Nat->Sto->Prop,(∃m,W 0 m (S1++[.lst []]))/\∀k m S2,W k m S2->match lAt S2 n,lAt S2 n' with
  | some o,some o'=>match (Zu o)[k]?,(Zu o')[k]? with
   | some x,some y=>Np caps te S1.length dl x y S2 λS3=>∃m',m'<m/\W (k+1) m' S3
   | _,_=>k=min (Zu o).length (Zu o').length/\Q (.ref S1.length) S2
  | _,_=>False
 | _=>False
theorem Cq (h:up X.K Z (U6 caps ta te) σ H Qv):
  R7 2 caps (iZip X.K (upA X.K Z ta)) (So X.K 2 (SS [0,1])) (up X.K Z0 te) σ H Qv:=by
 obtain⟨r,dl,S,Q,rs,bC,h,ret⟩:=h;unfold U6 at h;refine⟨r,dl,S,_,rs,bC,h,λvs H1 r1 ds S1 x1 aF p1 q1=>?_⟩;split at q1
 ·rename_i n n';obtain⟨v,vs',rfl,p2,p3⟩:=p1.uncons;obtain⟨v',vs2,rfl,p4,p5⟩:=p3.uncons;have z:=p5.unnil;subst z;cases p2 with
  | @ref n a hr=>
   cases p4 with
   | @ref n' a' hr'=>
    obtain⟨⟨aW,hsome'⟩,W,⟨m0,w0⟩,turn⟩:=q1;obtain⟨o1,eo1⟩:=yV.mp aW;obtain⟨o2,eo2⟩:=yV.mp hsome';obtain⟨xs1,sq1,_⟩:=W9 (r:=r1) hr aF.b eo1;obtain⟨ys1,sq2,_⟩:=W9 (r:=r1) hr' aF.b eo2;refine⟨a,a',rfl,⟨xs1,sq1⟩,⟨ys1,sq2⟩,λD0 hD=>?_⟩;obtain⟨aG,x2⟩:=aF.b.push (ds:=[]) (xs:=[]) hD Rps.nil;refine⟨λk m H'=>∃r' S',Ext (r1++[D0]) r' (upd H1 D0 (.lst [])) H'/\Ye X.K r' S' H'/\W k m S',⟨m0,_,_,Ext.refl,aG,w0⟩,?_⟩;rintro k m H2 ⟨r2,S2,x3,rb2,w2⟩;have ha2:r2[S1.length]?=some D0:=x3.adr _ _ (Pq aF.len)
    have hr2:r2[n]?=some a:=(x2.trans x3).adr _ _ hr
    have hr2':r2[n']?=some a':=(x2.trans x3).adr _ _ hr'
    have q:=turn k m S2 w2;split at q
    ·rename_i o o' eo eo';obtain⟨xs,sq,pr⟩:=W9 (r:=r2) hr2 rb2 eo;obtain⟨ys,sq',pr'⟩:=W9 (r:=r2) hr2' rb2 eo';split at q
     ·rename_i y y2 ey ey2;obtain⟨v,hv,pv⟩:=pr.get ey;obtain⟨u,hvu,pu⟩:=pr'.get ey2;refine .inr ⟨⟨xs,ys,v,u,sq,sq',hv,hvu⟩,λv' H' y' o8 ho8=>?_⟩;obtain⟨T,w,w2',rfl,hT,rfl,hw,hw2⟩:=y';have ew:w=v:=by
       have z:=hw xs sq;rw[hv] at z;exact(Option.some.inj z).symm
      have ew2:w2'=u:=by
       have z:=hw2 ys sq';rw[hvu] at z;exact(Option.some.inj z).symm
      subst ew ew2;obtain⟨c1,c2,rfl⟩:∃c1 c2,o8=[c1,c2]:=by
       match o8,ho8 with
       | [c1,c2],_=>exact⟨c1,c2,rfl⟩
      have x4:Ext r2 r2 H2 (upd H2 T (.tup [w,w2'])):=HP hT
      have rb3:=rb2.same (Vk (o:=.tup [w,w2']) hT)
      have rs3:=rs.ext (x1.trans (x2.trans (x3.trans x4)));refine⟨T,[w,w2'],rfl,SqT.of Wj,rfl,rfl,⟨[some w,some w2'],rfl,rfl⟩,?_⟩;have rsY:=Cn (caps:=caps) rs3 (pv.ext x4) (pu.ext x4);refine⟨r2,_,S2,_,rsY,⟨rb3,λ_ _ _ _ _ _ _ _ _ z=>z.elim⟩,q,λz H4 r4 dz S4 x6 aJ p4 q4=>?_⟩;split at q4
      ·rename_i ys eys;obtain⟨hl,m',hm,q4⟩:=q4;have ha4:r4[S1.length]?=some D0:=x6.adr _ _ ha2;obtain⟨zs,hD4,pz⟩:=aJ.b.ob _ _ _ ha4 eys;obtain⟨rel5,x7⟩:=aJ.b.set ha4 eys (pz.snoc p4);exact⟨zs,hD4,by rw[<- pz.1];exact Rx (yY hl),m',hm,r4,_,x3.trans (x4.trans (x6.trans x7)),rel5,q4⟩
      ·exact q4.elim
     ·obtain⟨hk,q⟩:=q;exact .inl ⟨⟨xs,ys,sq,sq',by rw[<- pr.1,<- pr'.1];exact hk.symm⟩,ret _ H2 r2 _ S2 (x1.trans (x2.trans x3)) ⟨rb2,bC.xw.ext (x1.trans (x2.trans x3))⟩ (.ref ha2) q⟩
    ·exact q.elim
 ·exact q1.elim
theorem LU (har:X.env.scope=ar)(hc:X.calm=true)(cs:VP sc ar [x1,x2] N)(hl1:sc.names.lookup x1=some .local)(hl2:sc.names.lookup x2=some .local)(hN:caps.map (λi=>X.N[i]?)=N.map some)(hnd:([x1,x2]++N).Nodup)(hg:Gl X "zip")(hm:X.mg "zip"=none)(hv:bootBuiltins "zip"=some (.type "zip"))(ha:PDA X Z [a,b] ta)(he:∀cl C s0 H0 fp pn,PD (Cx.comp X sc ([x1,x2]++N) cl C s0 H0 fp pn) Z0 aZ te)(hse:starEach [a,b] X.env=[(false,eval a X.env),(false,eval b X.env)]:=by rfl)(hse2:starEach [b] X.env=[(false,eval b X.env)]:=by rfl)(hs:∀y,foldedSetIterable (.Call (.Name "zip" p) [a,b] [] aQ) X.env y=pure y:=by intro _;rfl):
  PD X Z (.ListComp aZ [⟨.Tuple [.Name x1 p1,.Name x2 p2] kk tp,.Call (.Name "zip" p) [a,b] [] aQ,[],0⟩] sc pos) (U6 caps ta te):=by
 subst har;refine Yl (Ei hc cs hN (gt:=So X.K 2 (SS [0,1])) (te:=up X.K Z0 te) (GS hg hm hv ha hse hse2) (λcl C s0 H0 fp pn=>?_) he hs) λ_ _ _ h=>Cq h
 have l1:(Cx.comp X sc ([x1,x2]++N) cl C s0 H0 fp pn).env.scope.names.lookup x1=some .local:=lookup_relabel_local hl1
 have l2:(Cx.comp X sc ([x1,x2]++N) cl C s0 H0 fp pn).env.scope.names.lookup x2=some .local:=lookup_relabel_local hl2;exact RM hc (TZ hnd (.cons rfl (.inl l1) (.inr l1) (.cons rfl (.inl l2) (.inr l2) .nil))) rfl rfl
end
section
variable {X:Cx}{Z:Zx}{pos:Pos}
def dPar (i j:Nat)(ta:TDA):TDS:=λE dl S=>ta dl S λds S1=>match ds with
 | [v,w]=>E.nx ((dl.set i (some v)).set j (some w)) S1
 | _=>False
theorem zas {kt k2 pt2}(hc:X.calm=true)(hN:X.N.Nodup)(hi:X.N[i]?=some x)(hj:X.N[j]?=some y)(hij:i≠j)(hx:X.env.scope.names.lookup x=some .local)(hy:X.env.scope.names.lookup y=some .local)(ha:PDA X Z [a,b] ta)(hw:swappedStores [.Tuple [.Name x px,.Name y py] kt pt] (.Tuple [a,b] k2 pt2) X.env=pure (some [x,y]):=by rfl)(hs:swapsWithSole [.Tuple [.Name x px,.Name y py] kt pt] (.Tuple [a,b] k2 pt2) pos.line X.env=pure false:=by rfl):
  PDS X Z (.Assign [.Tuple [.Name x px,.Name y py] kt pt] (.Tuple [a,b] k2 pt2) pos) (dPar i j ta):=
 Xq (zau hc hN hi hj hij hx hy ha hw hs) λF σ H ⟨r,dl,S,E,rs,bC,h,ret⟩=>by
  refine⟨r,dl,S,_,rs,bC,h,λvs H1 r1 ds S1 x1 aF p1 q1=>?_⟩;split at q1
  ·rename_i v w;obtain⟨v1,vs1,rfl,p2,p3⟩:=p1.uncons;obtain⟨v2,vs2,rfl,p4,p5⟩:=p3.uncons;have z:=p5.unnil;subst z;exact⟨v1,v2,rfl,ret.nx _ H1 r1 _ S1 x1 (((rs.ext x1).set i p2).set j p4) aF q1⟩
  ·exact q1.elim
end
section
variable {X:Cx}{Z:Zx}{pos:Pos}
end
section
variable {X:Cx}{Z:Zx}{pos:Pos}
theorem Rps.erase:∀ {ds:List D} {xs:List V} (k:Nat),Rps r H ds xs->Rps r H (ds.eraseIdx k) (xs.eraseIdx k)
 | [],xs,k,h=>by
  have z:=h.unnil;subst z;exact h
 | d::ds,xs,0,h=>by
  obtain⟨v,vs,rfl,p1,p2⟩:=h.uncons;exact p2
 | d::ds,xs,k+1,h=>by
  obtain⟨v,vs,rfl,p1,p2⟩:=h.uncons;exact Rps.cons p1 (p2.erase k)
theorem Rps.ins (hy:Rp r H y w):∀ {ds:List D} {xs:List V} (k:Nat),Rps r H ds xs->Rps r H (ds.take k++y::ds.drop k) (xs.take k++w::xs.drop k)
 | [],xs,k,h=>by
  have z:=h.unnil;subst z;simpa using Rps.cons hy h
 | d::ds,xs,0,h=>Rps.cons hy h
 | d::ds,xs,k+1,h=>by
  obtain⟨v,vs,rfl,p1,p2⟩:=h.uncons;exact Rps.cons p1 (Rps.ins hy k p2)
@[irreducible] def MW (to:TDE)(t:TDA):TDE:=λdl S Q=>to dl S λd S1=>match d with
 | .ref n=>(lAt S1 n).isSome=true/\t dl S1 λds S2=>match ds with
  | [.int i]=>match S2[n]? with
   | some (.lst xs)=>(0<=i/\i<xs.length/\xs.length<=1000)/\∀y,xs[i.toNat]?=some y->Q y (S2.set n (.lst (xs.eraseIdx i.toNat)))
   | _=>False
  | _=>False
 | _=>False
theorem zd6 {to:TDE}{t:TDA}{dl:Ev}{S S1:Sto}{Q:DK}{n:Nat}{i:Int}{xs:List D}(hto:∀K:DK,K (.ref n) S1->to dl S K)(h:S1[n]?=some (.lst xs))(ht:∀K:List D->Sto->Prop,K [.int i] S1->t dl S1 K)(hi:0<=i/\i<xs.length/\xs.length<=1000)(hq:∀y,Q y (S1.set n (.lst (xs.eraseIdx i.toNat)))):MW to t dl S Q:=by
 unfold MW;refine hto _ ⟨by rw[Z1 h rfl];rfl,ht _ ?_⟩;simp only[h];exact⟨hi,λy _=>hq y⟩
theorem zev {i:Int}{n:Nat}(h0:0<=i)(h1:i<n):seqIndex? i n=some i.toNat:=by
 unfold seqIndex?;simp;omega
theorem zdc (ho:PD X Z o to)(ha:PDA X Z [e] t)(hbase:attributeBase o "pop" X.env (eval o X.env)=eval o X.env:=by rfl)(hfew:((backTo aM (starEach [e] X.env)).all (λx=>!x.1)&&(backToKw aM (keywordEach [] X.env)).all (λx=>x.1.isSome)
  &&decide ([e].length+([]:List Keyword).length+(if ([]:List Keyword).isEmpty then 0 else 1)<30))=true:=by rfl)(hline:(aO.endLine==aM.line)=true:=by rfl)(hs:starEach [e] X.env=(false,eval e X.env)::starEach [] X.env:=by rfl)(hplain:(backTo aM (starEach [] X.env)).any (·.1)=false:=by rfl):
  PD X Z (.Call (.Attribute o "pop" aO) [e] [] aM) (MW to t):=
 Yl (KP (T:="list") PySem.F.plainAttrs_list PySem.F.slot_list_pop PySem.F.type_list_pop AW ho ha hbase hfew hline hs hplain) λσ H Qv ⟨r,dl,S,Q,rs,bC,h,ret⟩=>by
  unfold MW at h;refine⟨r,dl,S,_,rs,bC,h,λv H1 r1 d S1 e1 aF p1 q1=>?_⟩;cases p1 with
  | @ref n a hn=>
   obtain⟨aW,q1⟩:=q1;obtain⟨o1,eo⟩:=yV.mp aW;obtain⟨eo,eL⟩:=Y7 eo;obtain⟨a',ha',ob⟩:=aF.at eo;rw[hn] at ha';cases ha'
   obtain⟨xs,sq,_⟩:=ob.list eL;refine⟨.inl ⟨rfl,xs,sq⟩,r1,dl,S1,_,rs.ext e1,aF,q1,λvs H2 r2 ds S2 e2 aG p2 q2=>?_⟩;split at q2
   ·rename_i i;obtain⟨v2,vs',rfl,p3,p4⟩:=p2.uncons;have z:=p4.unnil;subst z;cases p3;split at q2
    ·rename_i zs ez;obtain⟨⟨h0,h1,h2⟩,q⟩:=q2;have hn2:=e2.adr _ _ hn;obtain⟨ys,hH,pr⟩:=aG.b.ob n a _ hn2 ez;have hk:i.toNat<zs.length:=by omega
     obtain⟨y,hy,py⟩:=pr.get (zC hk);obtain⟨aH,x3⟩:=aG.set hn2 ez (pr.erase i.toNat);exact⟨a,ys,i,i.toNat,y,rfl,rfl,hH,by omega,by omega,by rw[<- pr.1];exact zev h0 h1,hy,ret _ _ r2 _ _ (e1.trans (e2.trans x3)) aH (py.ext x3) (q _ (zC hk))⟩
    ·exact q2.elim
   ·exact q2.elim
  | _=>exact(show False from q1).elim
theorem CQ:MtM X "list.insert" (λx vs H Q=>∃l xs i y,x=.ref l/\vs=[.int i,y]/\H l=some (.lst xs)/\0<=i/\i<=1000/\xs.length<1000/\Q .non (upd H l (.lst (xs.take i.toNat++y::xs.drop i.toNat)))):=by
 intro aA s σ H x vs v us Q I rx rv h;obtain⟨l,xs,i,y,rfl,rfl,hH,h0,h1,h2,q⟩:=h;cases rx;obtain⟨t,u,rfl,ru⟩:∃t u,us=[Value.int i t,u]/\ZH y u:=by
  cases rv with
  | cons p q=>
   obtain⟨t,rfl⟩:=p;cases q with
   | cons p' q'=>
    cases q';exact⟨t,_,rfl,p'⟩
 obtain⟨z,bA,n,r,hl,e⟩:=I.lstM hH;have fit:Builtin.List.listFitsIndex i=true:=fitsIndex_both (by omega) (by omega);refine call_meets PySem.F.slot_list_insert ⟨_,e,rfl⟩ PySem.F.entry_list_insert (PySem.F.args_list_insert_3 _ _ _) (PySem.AutoSeq1.list_insert_list_int_val_1 l bA.toArray n i t u (by simp[fit]) (by rw[zS];omega)) ⟨e,?_⟩;refine⟨.non,_,I.lset (t':=s.toks) (ys:=xs.take i.toNat++y::xs.drop i.toNat) (its':=bA.take i.toNat++u::bA.drop i.toNat) hH e ?_ ((r.take _).append (.cons ru (r.drop _))) ?_,rfl,q⟩
 ·have k1:(if i<0 then (i+(bA.toArray.size:Int)).toNat else min i.toNat bA.toArray.size)=min i.toNat bA.length:=by
   rw[if_neg (by omega),zS]
  show (bA.toArray.extract 0 (if i<0 then (i+(bA.toArray.size:Int)).toNat else min i.toNat bA.toArray.size)).push u++bA.toArray.extract (if i<0 then (i+(bA.toArray.size:Int)).toNat else min i.toNat bA.toArray.size)=_;rw[k1];have t1:bA.take (min i.toNat bA.length)=bA.take i.toNat:=by
   rcases Nat.le_total i.toNat bA.length with c|c
   ·rw[Nat.min_eq_left c]
   ·rw[Nat.min_eq_right c,yE,yB c]
  have t2:bA.drop (min i.toNat bA.length)=bA.drop i.toNat:=by
   rcases Nat.le_total i.toNat bA.length with c|c
   ·rw[Nat.min_eq_left c]
   ·rw[Nat.min_eq_right c,List.drop_length,List.drop_of_length_le c]
  rw[<- t1,<- t2];generalize min i.toNat bA.length=j;apply Array.toList_inj.mp;simp;refine yB (?_:_<=_);simp
 ·rw[zO,zY,zW,xA];exact Uj (by omega)
@[irreducible] def Q2 (to:TDE)(t:TDA):TDE:=λdl S Q=>to dl S λd S1=>match d with
 | .ref n=>(lAt S1 n).isSome=true/\t dl S1 λds S2=>match ds with
  | [.int i,y]=>match S2[n]? with
   | some (.lst xs)=>(0<=i/\i<=1000/\xs.length<1000)/\Q .non (S2.set n (.lst (xs.take i.toNat++y::xs.drop i.toNat)))
   | _=>False
  | _=>False
 | _=>False
theorem Ct {to:TDE}{t:TDA}{dl:Ev}{S S1 S2:Sto}{Q:DK}{n:Nat}{i:Int}{y:D}{xs ys:List D}(hto:∀K:DK,K (.ref n) S1->to dl S K)(h:S1[n]?=some (.lst ys))(ht:∀K:List D->Sto->Prop,K [.int i,y] S2->t dl S1 K)(h2:S2[n]?=some (.lst xs))(hi:0<=i/\i<=1000/\xs.length<1000)(hq:Q .non (S2.set n (.lst (xs.take i.toNat++y::xs.drop i.toNat)))):Q2 to t dl S Q:=by
 unfold Q2;refine hto _ ⟨by rw[Z1 h rfl];rfl,ht _ ?_⟩;simp only[h2];exact⟨hi,hq⟩
theorem zcK {to:TDE}{t:TDA}{dl:Ev}{S S1 S2:Sto}{Q:DK}{n:Nat}{i:Int}{y:D}{xs ys:List D}(hto:∀K:DK,K (.ref n) S1->to dl S K)(h:S1[n]?=some (.lst ys))(ht:∀K:List D->Sto->Prop,K [.int i,y] S2->t dl S1 K)(h2:S2[n]?=some (.lst xs))(hi:0<=i/\i<=xs.length/\xs.length<1000)(hq:Q .non (S2.set n (.lst (xs.take i.toNat++y::xs.drop i.toNat)))):Q2 to t dl S Q:=Ct hto h ht h2 ⟨hi.1,by omega,hi.2.2⟩ hq
theorem Cr (ho:PD X Z o to)(ha:PDA X Z [e,e2] t)(hbase:attributeBase o "insert" X.env (eval o X.env)=eval o X.env:=by rfl)(hfew:((backTo aM (starEach [e,e2] X.env)).all (λx=>!x.1)&&(backToKw aM (keywordEach [] X.env)).all (λx=>x.1.isSome)
  &&decide ([e,e2].length+([]:List Keyword).length+(if ([]:List Keyword).isEmpty then 0 else 1)<30))=true:=by rfl)(hline:(aO.endLine==aM.line)=true:=by rfl)(hs:starEach [e,e2] X.env=(false,eval e X.env)::starEach [e2] X.env:=by rfl)(hplain:(backTo aM (starEach [e2] X.env)).any (·.1)=false:=by rfl):
  PD X Z (.Call (.Attribute o "insert" aO) [e,e2] [] aM) (Q2 to t):=
 Yl (KP (T:="list") PySem.F.plainAttrs_list PySem.F.slot_list_insert PySem.F.type_list_insert CQ ho ha hbase hfew hline hs hplain) λσ H Qv ⟨r,dl,S,Q,rs,bC,h,ret⟩=>by
  unfold Q2 at h;refine⟨r,dl,S,_,rs,bC,h,λv H1 r1 d S1 e1 aF p1 q1=>?_⟩;cases p1 with
  | @ref n a hn=>
   obtain⟨aW,q1⟩:=q1;obtain⟨o1,eo⟩:=yV.mp aW;obtain⟨eo,eL⟩:=Y7 eo;obtain⟨a',ha',ob⟩:=aF.at eo;rw[hn] at ha';cases ha'
   obtain⟨xs,sq,_⟩:=ob.list eL;refine⟨.inl ⟨rfl,xs,sq⟩,r1,dl,S1,_,rs.ext e1,aF,q1,λvs H2 r2 ds S2 e2 aG p2 q2=>?_⟩;split at q2
   ·rename_i i y;obtain⟨v2,vs',rfl,p3,p4⟩:=p2.uncons;obtain⟨v3,vs3,rfl,p5,p6⟩:=p4.uncons;have z:=p6.unnil;subst z;cases p3;split at q2
    ·rename_i zs ez;obtain⟨⟨h0,h1,h2⟩,q⟩:=q2;have hn2:=e2.adr _ _ hn;obtain⟨ys,hH,pr⟩:=aG.b.ob n a _ hn2 ez;obtain⟨aH,x3⟩:=aG.set hn2 ez (Rps.ins p5 i.toNat pr);exact⟨a,ys,i,v3,rfl,rfl,hH,h0,h1,by rw[<- pr.1];exact h2,ret .non _ r2 .non _ (e1.trans (e2.trans x3)) aH .non q⟩
    ·exact q2.elim
   ·exact q2.elim
  | _=>exact(show False from q1).elim
theorem GJ {P:Sto->D->D->Prop}{A:Around}{H:Hp}{s:Shared}{r:List Addr}{S:Sto}{ds es:List D}{xs ys:List V}{is js:List Value}(f:∀ {d e:D} {v1 v2:V} {u1 u2:Value},P S d e->Rp r H d v1->Rp r H e v2->ZH v1 u1->ZH v2 u2->SeqAt.EqAt A s u1 u2 true)(pr:Rps r H ds xs)(pr':Rps r H es ys)(ri:ZG xs is)(rj:ZG ys js)(hall:∀(k:Nat)(d e:D),ds[k]?=some d->es[k]?=some e->P S d e):
  ∀(k:Nat)(h1:k<is.toArray.size)(h2:k<js.toArray.size),SeqAt.EqAt A s is.toArray[k] js.toArray[k] true:=λk h1 h2=>by
 have l3:=ri.length
 have l4:=rj.length
 have k1:k<is.length:=by simpa using h1
 have k2:k<js.length:=by simpa using h2
 obtain⟨d,hd,pd⟩:=pr.get' (zC (l:=xs) (i:=k) (by omega));obtain⟨e,he,pe⟩:=pr'.get' (zC (l:=ys) (i:=k) (by omega));obtain⟨u1,hu1,ru1⟩:=ri.get (zC (l:=xs) (i:=k) (by omega));obtain⟨u2,hu2,ru2⟩:=rj.get (zC (l:=ys) (i:=k) (by omega));have z1:is.toArray[k]=u1:=by
  rw[zC k1] at hu1;simpa using Option.some.inj hu1
 have z2:js.toArray[k]=u2:=by
  rw[zC k2] at hu2;simpa using Option.some.inj hu2
 rw[z1,z2];exact f (hall k d e hd he) pd pe ru1 ru2
end
section
variable {X:Cx}{Z:Zx}{aZ aX:Expr}{aT:List Expr}{kk:Nat}{tp pos:Pos}{sc ar:Scope}{own N:List Str}{caps:List Nat}{wi:TI}{gt:TG}
theorem zaN (hc:X.calm=true)(cs:VP sc X.env.scope own N)(hN:caps.map (λi=>X.N[i]?)=N.map some)(hi:PI X (.Tuple aT kk tp) aX wi)(hg:∀cl C s0 H0 fp pn,PG (Cx.comp X sc (own++N) cl C s0 H0 fp pn) (.Tuple aT kk tp) gt)(he:∀cl C s0 H0 fp pn,PE (Cx.comp X sc (own++N) cl C s0 H0 fp pn) aZ te)(hNd:X.N.Nodup)(hy:X.N[i]?=some y)(hl:X.env.scope.names.lookup y=some .local)(hsw:swapsWith (.ListComp aZ [⟨.Tuple aT kk tp,aX,[],0⟩] sc pos) (some (.Name y py)) spos.line X.env=pure true)(hs:∀y,foldedSetIterable aX X.env y=pure y:=by intro _;rfl):PS X (.Assign [.Name y py] (.ListComp aZ [⟨.Tuple aT kk tp,aX,[],0⟩] sc pos) spos) (λE σ H=>R7 own.length caps wi gt te σ H λv H1=>E.nx (σ.set i (some v)) H1):=by
 intro aA s σ H E I h;rw[exec_Assign_Name_used (hs:=hsw)];refine wpAny_bind (wpAny_standAt ?_);refine wpAny_bind ?_;show wpAny _ _ (comprehension _ sc X.env _ (newList []) false (eval aX X.env) (some (assign (.Name y py) X.env)) >>= λ_=>pure ()) _ _ s
 refine wpAny_bind (thn (Ez (use:=some (assign (.Name y py) X.env)) (Qr:=λ_ s'=>SP X aA E .next s') hc cs (V5 hN).1 (V5 hN).2 hi hg he hs I h λD C s' f=>?_) λ_ s' hq=>wpAny_pure (wpAny_pure hq));obtain⟨⟨H',I',q,hC⟩,⟨m,ns⟩,l,o,c,p⟩:=f;refine wpAny_assign_Name (Ht (v:=.ref D) I' hNd hy (.inl hl) rfl (λs'' I'' ⟨a,sb,ha⟩=>⟨m,ns.sameBut sb ?_,λh' sb'=>⟨_,H',I''.turned (t':=s''.toks) (λb ob hb e=>(sb'.2 b hb).trans e) hC l (.inr o) c p,q⟩⟩) (.inr hl));rcases ha with rfl|ha
 ·exact l
 ·exact Ne.symm (c _ _ ha)
theorem BR (har:X.env.scope=ar)(hc:X.calm=true)(cs:VP sc ar [x1,x2] N)(hl1:sc.names.lookup x1=some .local)(hl2:sc.names.lookup x2=some .local)(hN:caps.map (λi=>X.N[i]?)=N.map some)(hnd:([x1,x2]++N).Nodup)(hNd:X.N.Nodup)(hy:X.N[i]?=some y)(hlo:ar.names.lookup y=some .local)(hg:Gl X "zip")(hm:X.mg "zip"=none)(hv:bootBuiltins "zip"=some (.type "zip"))(ha:PDA X Z [a,b] ta)(he:∀cl C s0 H0 fp pn,PD (Cx.comp X sc ([x1,x2]++N) cl C s0 H0 fp pn) Z0 aZ te)(hsw:swapsWith (.ListComp aZ [⟨.Tuple [.Name x1 p1,.Name x2 p2] kk tp,.Call (.Name "zip" p) [a,b] [] aQ,[],0⟩] sc pos) (some (.Name y py)) spos.line X.env=pure true:=by rfl)(hse:starEach [a,b] X.env=[(false,eval a X.env),(false,eval b X.env)]:=by rfl)(hse2:starEach [b] X.env=[(false,eval b X.env)]:=by rfl)(hs:∀y,foldedSetIterable (.Call (.Name "zip" p) [a,b] [] aQ) X.env y=pure y:=by intro _;rfl):
  PDS X Z (.Assign [.Name y py] (.ListComp aZ [⟨.Tuple [.Name x1 p1,.Name x2 p2] kk tp,.Call (.Name "zip" p) [a,b] [] aQ,[],0⟩] sc pos) spos) (Qm i (U6 caps ta te)):=by
 subst har;refine Xq (zaN hc cs hN (gt:=So X.K 2 (SS [0,1])) (te:=up X.K Z0 te) (GS hg hm hv ha hse hse2) (λcl C s0 H0 fp pn=>?_) he hNd hy hlo hsw hs) λF σ H h=>HX (λ_ h=>Cq h) h
 have l1:(Cx.comp X sc ([x1,x2]++N) cl C s0 H0 fp pn).env.scope.names.lookup x1=some .local:=lookup_relabel_local hl1
 have l2:(Cx.comp X sc ([x1,x2]++N) cl C s0 H0 fp pn).env.scope.names.lookup x2=some .local:=lookup_relabel_local hl2;exact RM hc (TZ hnd (.cons rfl (.inl l1) (.inr l1) (.cons rfl (.inl l2) (.inr l2) .nil))) rfl rfl
end
section
variable {X:Cx}{Z:Zx}
def DN:WC:=λds S Q=>match ds with
 | [.bl b]=>Q (.int (if b then 1 else 0)) S
 | _=>False
theorem Mq:YA X (.type "int") (upC X.K Z DN):=by
 intro aA s σ H xs us Qv I rv h;obtain⟨r,S,ds,Q,bC,ps,q,ret⟩:=h;unfold DN at q;split at q
 ·rename_i b;obtain⟨v,vs,rfl,p1,p2⟩:=ps.uncons;have z:=p2.unnil;subst z;cases p1;obtain⟨u,rfl,ru⟩:=W5 rv;cases ru;exact call_int_bool ⟨.int _,H,I.tok _,⟨_,rfl⟩,ret _ _ _ _ _ Ext.refl bC (.int _) q⟩
 ·exact q.elim
end
section
variable {X:Cx}{Z:Zx}{pos:Pos}
def zaq (i:Nat)(ta:TDA)(tb:TDS):TDS:=λE dl S=>ta dl S λds S1=>match ds with
 | [.int lo,.int hi]=>(-(2^62)<=lo/\lo<2^62/\-(2^62)<=hi/\hi<2^62)/\∃W:Nat->Ev->Sto->Prop,W 0 dl S1/\∀k dl S,W k dl S->
   if k<(hi-lo).toNat then tb { nx:=λdl' S'=>W (k+1) dl' S',rt:=E.rt,bk:=E.nx,ct:=λdl' S'=>W (k+1) dl' S' } (dl.set i (some (.int (lo+k)))) S else E.nx dl S
 | _=>False
theorem HD (hp:PassesOwn (model X.prog X.w) X.A X.env X.xe)(hc:X.calm=true)(hN:X.N.Nodup)(hi:X.N[i]?=some x)(hx:Loc X.env.scope x)(hg:Gl X "range")(hm:X.mg "range"=none)(ha:PDA X Z [a,b] ta)(hb:Wm X Z body tb)(hf:X.fn x=true\/X.env.scope.names.lookup x=some .local:=by first|exact .inl rfl|exact .inr rfl|assumption)(hs:∀y,foldedSetIterable (.Call (.Name "range" p) [a,b] [] pos) X.env y=pure y:=by intro _;rfl)(hst:starEach [a,b] X.env=[(false,eval a X.env),(false,eval b X.env)]:=by rfl)(hst2:starEach [b] X.env=[(false,eval b X.env)]:=by rfl):
  PDS X Z (.For (.Name x pos') (.Call (.Name "range" p) [a,b] [] pos) body [] aQ) (zaq i ta tb):=
 Xq (OS hp hc (zdm hg hm ha hst hst2) (QX hN hi hx hf) hb hs) λF σ H ⟨r,dl,S,E,rs,bC,h,ret⟩=>by
  refine⟨r,dl,S,_,rs,bC,h,λvs H1 r1 ds S1 x1 aF p1 q1=>?_⟩;split at q1
  ·rename_i lo hi;obtain⟨v,vs',rfl,p2,p3⟩:=p1.uncons;obtain⟨v2,vs2,rfl,p4,p5⟩:=p3.uncons;have z:=p5.unnil;subst z;cases p2;cases p4;obtain⟨bds,W,w0,turn⟩:=q1;refine⟨lo,hi,rfl,bds,λk m σ' H'=>m=(hi-lo).toNat-k/\∃r' dl' S',Ext r1 r' H1 H'/\Rs r' H' dl' σ'/\Rel X.K Z r' S' H'/\W k dl' S',⟨(hi-lo).toNat,by simp,r1,dl,S1,Ext.refl,rs.ext x1,aF,w0⟩,?_⟩;rintro k m σ2 H2 ⟨em,r2,dl2,S2,x2,rs2,aG,w2⟩;have q:=turn k dl2 S2 w2;split at q
   ·rename_i hk;have go:∀σ' H' r' dl' S',Ext r2 r' H2 H'->Rs r' H' dl' σ'->Rel X.K Z r' S' H'->W (k+1) dl' S'->∃r' dl' S',Ext r1 r' H1 H'/\Rs r' H' dl' σ'/\Rel X.K Z r' S' H'/\W (k+1) dl' S':=
     λσ' H' r' dl' S' x rs' rel' w'=>⟨r',dl',S',x2.trans x,rs',rel',w'⟩
    have pk:Rp r2 H2 (.int (lo+(k:Int))) (.int (lo+(k:Int))):=.int _;refine .inr ⟨hk,λσ' H'=>∃r' dl' S',Ext r1 r' H1 H'/\Rs r' H' dl' σ'/\Rel X.K Z r' S' H'/\W (k+1) dl' S',λσ' H' z=>⟨(hi-lo).toNat-(k+1),by omega,rfl,z⟩,λv' H' y'=>?_⟩;obtain⟨eH,y'⟩:=y';subst eH;subst y';exact⟨r2,_,S2,_,rs2.set i pk,aG,q,go,λσ' H' r' dl' S' x rs' rel' z=>ret.nx σ' H' r' dl' S' (x1.trans (x2.trans x)) rs' rel' z,go,ret.rt.ext (x1.trans x2)⟩
   ·rename_i hk;exact .inl ⟨by show (hi-lo).toNat<=k;omega,ret.nx σ2 H2 r2 dl2 S2 (x1.trans x2) rs2 aG q⟩
  ·exact q1.elim
end
end L3
namespace L2
open PySem PySem.Spec PyProof.Rows
end L2
namespace L3
open PySem PySem.Spec PyProof.Rows L2
end L3
set_option Elab.async false
set_option linter.all false
set_option maxRecDepth 100000
set_option maxHeartbeats 40000000
namespace Mine
open PySem PySem.Spec PyProof.Rows L2 L3
theorem fsc {N P:List Str}{sc:Scope}(a:sc.kind=.function:=by rfl)(b:sc.isCoroutine=false:=by rfl)(c:sc.isGenerator=false:=by rfl)(d:N.Nodup:=by decide +kernel)(e:N.take P.length=P:=by rfl)(f:∀x∈P,sc.names.lookup x=some .local\/sc.names.lookup x=some .cell:=by decide +kernel)(g:∀y∈sc.names,y.2≠.free:=by decide +kernel):Zz N P sc:=⟨a,b,c,d,e,f,g⟩
theorem csc {sc ar:Scope}{x:Str}{caps:List Str}(a:sc.kind=.function:=by rfl)(b:∀y∈sc.names,y.2≠.cell:=by decide +kernel)(c:∀y∈sc.names,y.2=.local->sc.names.lookup y.1=some .local:=by decide +kernel)(d:sc.names.lookup x=some .local:=by rfl)(e:∀y∈caps,sc.names.lookup y=some .free:=by decide +kernel)(f:∀y∈sc.names,y.2=.free->ar.names.lookup y.1=some .cell:=by decide +kernel):Vx sc ar x caps:=⟨a,b,c,d,e,f⟩
theorem WY {sc ar:Scope}{own caps:List Str}(a:sc.kind=.function:=by rfl)(b:∀y∈sc.names,y.2≠.cell:=by decide +kernel)(c:∀y∈sc.names,y.2=.local->sc.names.lookup y.1=some .local:=by decide +kernel)(e:∀y∈caps,sc.names.lookup y=some .free:=by decide +kernel)(f:∀y∈sc.names,y.2=.free->ar.names.lookup y.1=some .cell:=by decide +kernel):VP sc ar own caps:=⟨a,b,c,e,f⟩
abbrev Ln (sp:Sd)(n:Nat):Prop:=∀ds S Q ex,sp ds S Q ex->ds.length=n
theorem Zi {X:Cx}{x:Str}{p pos:Pos}{e:Expr}{es:List Expr}{t:TDA}{k j:Nat}{ps:List Str}{sd:Sd}{ex:Ev->Addr->Sto->Prop}(G:Fk X.prog X.w X.K X.mg X.base k x ps sd)(hr:Z3 j X.A)(ha:PDA X ⟨ex,Z0.w⟩ (e::es) t)(hk:k<=j:=by decide)(hg:Gl X x:=by rfl)
  (hdb:(x==("__debug__":Str))=false:=by decide)(he:starEach (e::es) X.env=(false,eval e X.env)::starEach es X.env:=by rfl)(hpl:(backTo pos (starEach es X.env)).any (·.1)=false:=by rfl):PD X ⟨ex,Z0.w⟩ (.Call (.Name x p) (e::es) [] pos) (Hv ex sd t):=zc1 G (hr.mono hk) Tq hg ha hdb he hpl
abbrev K4:Stmt:=top 56
abbrev Um:List Str:=[q44]
theorem zex:Zz [q44] Um (Zj K4):=fsc
abbrev K7:Stmt:=top 57
abbrev V2:List Str:=[q44,Wk]
theorem Qi:Zz [q44,Wk,q15,"_law_first","_law_second"] V2 (Zj K7):=fsc
abbrev OZ:Stmt:=top 66
abbrev PX:List Str:=[q15]
theorem za1:Zz [q15] PX (Zj OZ):=fsc
abbrev MO:Stmt:=top 83
abbrev PR:List Str:=[q44,q88,q7]
theorem Vy:Zz [q44,q88,q7,q62,Wk,q15,"_law_wide","_law_low"] PR (Zj MO):=fsc
abbrev Kn:Stmt:=top 62
abbrev V4:List Str:=["_law_top","_law_bottom"]
theorem MS:Zz ["_law_top","_law_bottom",XX,"_law_b"] V4 (Zj Kn):=fsc
abbrev Kh:Stmt:=top 63
abbrev P9:List Str:=[q15]
theorem zek:Zz [q15] P9 (Zj Kh):=fsc
abbrev Jj:Stmt:=top 58
abbrev QS:List Str:=[q15]
theorem zdt:Zz [q15] QS (Zj Jj):=fsc
abbrev LJ:Stmt:=top 64
abbrev R5:List Str:=[q18,UY,W7,"_law_weight"]
theorem zdk:Zz [q18,UY,W7,"_law_weight"] R5 (Zj LJ):=fsc
abbrev Ii:Stmt:=top 65
abbrev Rf:List Str:=[q18,UY,q15,"_law_most","_law_free_here"]
theorem V1:Zz [q18,UY,q15,"_law_most","_law_free_here","_law_one","_law_other","_law_weight",XX,Ve,"_law_word"] Rf (Zj Ii):=fsc
abbrev R1:Stmt:=top 81
abbrev Qn:List Str:=[q44,q18,UY]
theorem Rl:Zz [q44,q18,UY,q88,Wk,q89,"_law_j",q15] Qn (Zj R1):=fsc
abbrev J8:Stmt:=top 77
abbrev VM:List Str:=[q18,W7]
theorem A0:Zz [q18,W7] VM (Zj J8):=fsc
abbrev O4:Stmt:=top 78
abbrev Qs:List Str:=[q18,Q6]
theorem LY:Zz [q18,Q6,"_law_total","_law_part"] Qs (Zj O4):=fsc
abbrev Nr:Stmt:=top 79
abbrev Qx:List Str:=[q18,"_law_entries","_law_turned"]
theorem Ni:Zz [q18,"_law_entries","_law_turned",Q6,Wk,"_law_number"] Qx (Zj Nr):=fsc
abbrev OT:Stmt:=top 67
abbrev PJ:List Str:=[XX,Ve]
theorem KL:Zz [XX,Ve,q90,Sx] PJ (Zj OT):=fsc
abbrev Oz:Stmt:=top 71
abbrev Rm:List Str:=[XX,Ve,q7]
theorem F7:Zz [XX,Ve,q7,"_law_ends","_law_share"] Rm (Zj Oz):=fsc
abbrev Lj:Stmt:=top 68
abbrev UA:List Str:=[XX,"_law_b"]
theorem zbD:Zz [XX,"_law_b"] UA (Zj Lj):=fsc
abbrev MP:Stmt:=top 69
abbrev Uv:List Str:=[XX,"_law_b"]
theorem zdB:Zz [XX,"_law_b"] Uv (Zj MP):=fsc
abbrev My:Stmt:=top 70
abbrev UJ:List Str:=[XX,"_law_b",q7]
theorem CM:Zz [XX,"_law_b",q7,"_law_four"] UJ (Zj My):=fsc
abbrev JU:Stmt:=top 72
abbrev RV:List Str:=[W7,q35,q62,q7]
theorem Jr:Zz [W7,q35,q62,q7,"_law_word","_law_one","_law_other"] RV (Zj JU):=fsc
abbrev J5:Stmt:=top 73
abbrev Td:List Str:=[q18,q62,q7]
theorem GY:Zz [q18,q62,q7,q35,W7] Td (Zj J5):=fsc
abbrev PM:Stmt:=top 80
abbrev Qk:List Str:=[q18,QE,q62,q7,Q6]
theorem Lw:Zz [q18,QE,q62,q7,Q6,"_law_centre","_law_low","_law_number"] Qk (Zj PM):=fsc
abbrev TB:Stmt:=top 82
abbrev QJ:List Str:=[q44,q88,q7,q62]
theorem XD:Zz [q44,q88,q7,q62,q18,UY,Wk,Ve,q89,"_law_j","_law_entries",q15,"_law_share","_law_number","_law_bent",QE] QJ (Zj TB):=fsc
abbrev Lf:Stmt:=top 85
abbrev QM:List Str:=[q89,q15,Ve,q88]
theorem zbA:Zz [q89,q15,Ve,q88] QM (Zj Lf):=fsc
abbrev K1:Stmt:=top 74
abbrev Og:List Str:=[XX,Ve,q7]
theorem Di:Zz [XX,Ve,q7] Og (Zj K1):=fsc
abbrev Nh:Stmt:=top 75
abbrev Oh:List Str:=[W7,q35,Vm,Wk,q7]
theorem Lz:Zz [W7,q35,Vm,Wk,q7,"_law_word","_law_one","_law_other"] Oh (Zj Nh):=fsc
abbrev Oq:Stmt:=top 76
abbrev PK:List Str:=[q18,q35,q88,q7]
theorem Fv:Zz [q18,q35,q88,q7,Vm,W7] PK (Zj Oq):=fsc
abbrev QG:Stmt:=top 41
abbrev Sv:List Str:=["rows"]
theorem zcs:Zz ["rows"] Sv (Zj QG):=fsc
abbrev OA:Stmt:=top 37
abbrev RJ:List Str:=["word","span"]
theorem zbR:Zz ["word","span"] RJ (Zj OA):=fsc
abbrev QZ:Stmt:=top 52
abbrev Pr:List Str:=["rows",q14]
theorem BJ:Zz ["rows",q14] Pr (Zj QZ):=fsc
abbrev Nt:Stmt:=top 14
abbrev RT:List Str:=["a","b"]
theorem zdq:Zz ["a","b"] RT (Zj Nt):=fsc
abbrev JA:Stmt:=top 16
abbrev UU:List Str:=["top",VB]
theorem zcq:Zz ["top",VB] UU (Zj JA):=fsc
abbrev Ll:Stmt:=top 17
abbrev Rz:List Str:=["low","high","grid"]
theorem za0:Zz ["low","high","grid"] Rz (Zj Ll):=fsc
abbrev Nc:Stmt:=ZK (top 27) 2
abbrev RO:List Str:=["self",q14,"box","grid"]
theorem CH:Zz ["self",q14,"box","grid",VS] RO (Zj Nc):=fsc
abbrev JX:Stmt:=ZK (top 28) 2
abbrev Om:List Str:=["self",q14,"box","grid"]
theorem zce:Zz ["self",q14,"box","grid"] Om (Zj JX):=fsc
abbrev Kz:Stmt:=top 18
abbrev Vw:List Str:=["a","b"]
theorem zcz:Zz ["a","b"] Vw (Zj Kz):=fsc
abbrev OP:Stmt:=ZK (top 30) 1
abbrev PQ:List Str:=["self",q14,"box","grid"]
theorem zdO:Zz ["self",q14,"box","grid"] PQ (Zj OP):=fsc
abbrev KG:Stmt:=top 19
abbrev VO:List Str:=["a","b"]
theorem Bb:Zz ["a","b"] VO (Zj KG):=fsc
abbrev LP:Stmt:=ZK (top 31) 1
abbrev Ql:List Str:=["self",q14,"box","grid"]
theorem zaU:Zz ["self",q14,"box","grid"] Ql (Zj LP):=fsc
abbrev Ky:Stmt:=top 20
abbrev VT:List Str:=["a","b","grid"]
theorem E5:Zz ["a","b","grid","products"] VT (Zj Ky):=fsc
abbrev Ms:Stmt:=ZK (top 32) 1
abbrev Qu:List Str:=["self",q14,"box","grid"]
theorem zds:Zz ["self",q14,"box","grid"] Qu (Zj Ms):=fsc
abbrev Nm:Stmt:=top 13
abbrev RA:List Str:=[VS,"many"]
theorem L7:Zz [VS,"many","worth","step"] RA (Zj Nm):=fsc
abbrev QP:Stmt:=top 21
abbrev T9:List Str:=["a","many","grid"]
theorem J3:Zz ["a","many","grid",VI,"powers",VB] T9 (Zj QP):=fsc
abbrev Li:Stmt:=ZK (top 33) 2
abbrev RW:List Str:=["self",q14,"box","grid"]
theorem zdK:Zz ["self",q14,"box","grid"] RW (Zj Li):=fsc
abbrev Ks:Stmt:=ZK (top 27) 0
abbrev Ow:List Str:=["self","top",VB]
theorem zbF:Zz ["self","top",VB] Ow (Zj Ks):=fsc
abbrev Lx:Stmt:=ZK (top 28) 0
abbrev Qa:List Str:=["self","place"]
theorem AA:Zz ["self","place"] Qa (Zj Lx):=fsc
abbrev MA:Stmt:=ZK (top 29) 0
abbrev Pg:List Str:=["self","one",Wl]
theorem zbs:Zz ["self","one",Wl] Pg (Zj MA):=fsc
abbrev LL:Stmt:=ZK (top 29) 0
abbrev PN:List Str:=["self","one",Wl]
theorem zaa:Zz ["self","one",Wl] PN (Zj LL):=fsc
abbrev Jb:Stmt:=ZK (top 29) 0
abbrev QF:List Str:=["self","one",Wl]
theorem AR:Zz ["self","one",Wl] QF (Zj Jb):=fsc
abbrev Jv:Stmt:=ZK (top 33) 0
abbrev PU:List Str:=["self","one","many"]
theorem zax:Zz ["self","one","many"] PU (Zj Jv):=fsc
abbrev LZ:Stmt:=top 34
abbrev Rk:List Str:=["node"]
theorem zeL:Zz ["node"] Rk (Zj LZ):=fsc
abbrev KO:Stmt:=top 36
abbrev Uo:List Str:=[Wr,"box","grid"]
theorem FG:Zz [Wr,"box","grid","found","node"] Uo (Zj KO):=fsc
abbrev RQ:Stmt:=top 42
abbrev Rj:List Str:=["each",VI]
theorem zcj:Zz ["each",VI] Rj (Zj RQ):=fsc
abbrev KY:Stmt:=ZK (top 27) 4
abbrev Q7:List Str:=["self",q14,q61,q96,"grid"]
theorem zck:Zz ["self",q14,q61,q96,"grid"] Q7 (Zj KY):=fsc
abbrev R8:Stmt:=ZK (top 28) 4
abbrev Pe:List Str:=["self",q14,q61,q96,"grid"]
theorem Aq:Zz ["self",q14,q61,q96,"grid"] Pe (Zj R8):=fsc
abbrev Ng:Stmt:=ZK (top 30) 4
abbrev QT:List Str:=["self","x","y","a","b","grid"]
theorem BP:Zz ["self","x","y","a","b","grid"] QT (Zj Ng):=fsc
abbrev RF:Stmt:=ZK (top 29) 2
abbrev PV:List Str:=["self",q14,q61,q96,"grid"]
theorem Hd:Zz ["self",q14,q61,q96,"grid","x","y"] PV (Zj RF):=fsc
abbrev Jq:Stmt:=ZK (top 31) 4
abbrev Pm:List Str:=["self","x","y","a","b","grid"]
theorem B6:Zz ["self","x","y","a","b","grid"] Pm (Zj Jq):=fsc
abbrev RE:Stmt:=ZK (top 29) 2
abbrev RB:List Str:=["self",q14,q61,q96,"grid"]
theorem Gf:Zz ["self",q14,q61,q96,"grid","x","y"] RB (Zj RE):=fsc
abbrev O5:Stmt:=ZK (top 32) 4
abbrev Py:List Str:=["self","x","y","a","b","grid"]
theorem zcR:Zz ["self","x","y","a","b","grid"] Py (Zj O5):=fsc
abbrev Pf:Stmt:=ZK (top 29) 2
abbrev Q3:List Str:=["self",q14,q61,q96,"grid"]
theorem G9:Zz ["self",q14,q61,q96,"grid","x","y"] Q3 (Zj Pf):=fsc
abbrev Nz:Stmt:=top 22
abbrev R0:List Str:=["a","many"]
theorem zbY:Zz ["a","many"] R0 (Zj Nz):=fsc
abbrev PF:Stmt:=ZK (top 33) 4
abbrev QL:List Str:=["self",q14,q61,q96,"grid"]
theorem Fq:Zz ["self",q14,q61,q96,"grid","lower","steep"] QL (Zj PF):=fsc
abbrev Ij:Stmt:=top 39
abbrev Pl:List Str:=[Wr,"box","grid"]
theorem NY:Zz [Wr,"box","grid",q14,"found","node"] Pl (Zj Ij):=fsc
abbrev Ny:Stmt:=top 50
abbrev SG:List Str:=[Wr,VI,"box","grid"]
theorem zbU:Zz [Wr,VI,"box","grid"] SG (Zj Ny):=fsc
abbrev OB:Stmt:=top 2
abbrev Ug:List Str:=[VS,"place"]
theorem BO:Zz [VS,"place"] Ug (Zj OB):=fsc
abbrev Qq:Stmt:=top 3
abbrev Ud:List Str:=[XR,"row",Vl]
theorem DD:Zz [XR,"row",Vl,"rest"] Ud (Zj Qq):=fsc
abbrev UK:Stmt:=top 4
abbrev Xy:List Str:=[XR,"row",Vl]
theorem M3:Zz [XR,"row",Vl] Xy (Zj UK):=fsc
abbrev Wc:Stmt:=top 5
abbrev Xg:List Str:=[XR]
theorem RZ:Zz [XR] Xg (Zj Wc):=fsc
abbrev NB:Stmt:=top 6
abbrev R9:List Str:=[XR,"whole","row",Vl,"grid"]
theorem zbT:Zz [XR,"whole","row",Vl,"grid"] R9 (Zj NB):=fsc
abbrev Qo:Stmt:=top 7
abbrev R4:List Str:=[XR,"whole","row","grid"]
theorem AM:Zz [XR,"whole","row","grid"] R4 (Zj Qo):=fsc
abbrev Qg:Stmt:=top 8
abbrev Ot:List Str:=[XR,"grid"]
theorem EI:Zz [XR,"grid","whole"] Ot (Zj Qg):=fsc
abbrev KJ:Stmt:=top 24
abbrev RP:List Str:=["a"]
theorem zcl:Zz ["a"] RP (Zj KJ):=fsc
abbrev RC:Stmt:=top 43
abbrev Sh:List Str:=[q14]
theorem zbe:Zz [q14] Sh (Zj RC):=fsc
abbrev Px:Stmt:=top 44
abbrev SI:List Str:=["box"]
theorem zde:Zz ["box"] SI (Zj Px):=fsc
abbrev Kj:Stmt:=top 45
abbrev SW:List Str:=["ones","others","grid"]
theorem JI:Zz ["ones","others","grid","total","one",Wl] SW (Zj Kj):=fsc
abbrev RH:Stmt:=top 46
abbrev Oc:List Str:=["k",Vl,"turns",q61,"grid"]
theorem Iq:Zz ["k",Vl,"turns",q61,"grid","whole","column_slants"] Oc (Zj RH):=fsc
abbrev UB:Stmt:=top 47
abbrev Qe:List Str:=["k","box","grid","entries","thin",q61]
theorem Rr:Zz ["k","box","grid","entries","thin",q61,"turns","centres","moved","lacks","ways"] Qe (Zj UB):=fsc
abbrev Qf:Stmt:=top 48
abbrev Rb:List Str:=["box","grid","turn","thin",q61]
theorem AE:Zz ["box","grid","turn","thin",q61] Rb (Zj Qf):=fsc
abbrev Lm:Stmt:=top 49
abbrev TR:List Str:=[Wr,VI,"box","grid"]
theorem zdL:Zz [Wr,VI,"box","grid"] TR (Zj Lm):=fsc
abbrev Mx:Stmt:=top 23
abbrev Oo:List Str:=["a","b"]
theorem Ai:Zz ["a","b"] Oo (Zj Mx):=fsc
abbrev Qp:Stmt:=top 53
abbrev PB:List Str:=["near","box"]
theorem zcX:Zz ["near","box"] PB (Zj Qp):=fsc
abbrev Po:Stmt:=top 54
abbrev Qt:List Str:=[Wr,"rows","box","grid"]
theorem Pw:Zz [Wr,"rows","box","grid",VI,q61,"turn","near"] Qt (Zj Po):=fsc
abbrev La:Stmt:=top 59
abbrev Sm:List Str:=[q90]
theorem zdC:Zz [q90] Sm (Zj La):=fsc
abbrev MD:Stmt:=top 60
abbrev RU:List Str:=[q90]
theorem zbp:Zz [q90] RU (Zj MD):=fsc
abbrev Ly:Stmt:=top 61
abbrev TN:List Str:=[q90,q88]
theorem EG:Zz [q90,q88,"_law_span_here"] TN (Zj Ly):=fsc
abbrev KN:Stmt:=top 91
abbrev RS:List Str:=[q90,"_law_due_here"]
theorem Fx:Zz [q90,"_law_due_here",TJ,"_law_entry_here"] RS (Zj KN):=fsc
abbrev Jc:Stmt:=top 89
abbrev P6:List Str:=[q89,q35]
theorem DA:Zz [q89,q35,TJ] P6 (Zj Jc):=fsc
abbrev L5:Stmt:=top 87
abbrev Qj:List Str:=[q89,TJ,Wk]
theorem NS:Zz [q89,TJ,Wk,"_law_one","_law_other","_law_first"] Qj (Zj L5):=fsc
abbrev VL:Stmt:=top 88
abbrev Pp:List Str:=[Vm,Tn,q7]
theorem V6:Zz [Vm,Tn,q7,q89,QE,TJ,"_law_whole_here",Sx] Pp (Zj VL):=fsc
abbrev QD:Stmt:=top 86
abbrev S6:List Str:=[Pb,Vm,Tn,q62,q7,Sx]
theorem Wu:Zz [Pb,Vm,Tn,q62,q7,Sx,"_law_centre",q90,Wk,P8,"_law_j",QE,"_law_part"] S6 (Zj QD):=fsc
abbrev NM:Stmt:=top 84
abbrev Pd:List Str:=[P8,q62]
theorem EK:Zz [P8,q62,Wk] Pd (Zj NM):=fsc
abbrev Pc:Stmt:=top 90
abbrev Ov:List Str:=[q89,q35,Pb,Vm,q62,q7]
theorem Mg:Zz [q89,q35,Pb,Vm,q62,q7,Tn,Sx,P8] Ov (Zj Pc):=fsc
abbrev Ls:Stmt:=top 92
abbrev QQ:List Str:=[q15]
theorem za5:Zz [q15] QQ (Zj Ls):=fsc
abbrev JS:Stmt:=top 51
abbrev Ou:List Str:=[Wr,"rows","box","grid","turn"]
theorem Gx:Zz [Wr,"rows","box","grid","turn",VI,"thin"] Ou (Zj JS):=fsc
abbrev WO:Stmt:=top 93
abbrev NQ:List Str:=[q44]
theorem XN:Zz [q44,q88,q7,q62,q18,q89,q35,Vm,Pb,q90,Tn,Sx,TJ,"_law_due_here",P8] NQ (Zj WO):=fsc
theorem kfo {K:Fg}{f c:Addr}{m:Value}{n q:Str}{st:Stmt}(l:K.lookup f=some (fo n q st m c)):PySem.W.keepIn K (.ref f)=true:=by
 unfold PySem.W.keepIn;simp only[l]
theorem ifo {K:Fg}{f c:Addr}{m:Value}{n q:Str}{st:Stmt}(l:K.lookup f=some (fo n q st m c)):PySem.W.isFn K (.ref f)=true:=by
 unfold PySem.W.isFn PySem.W.typeIn;simp only[l];rfl
theorem ln1 {P:List Value->Prop}(h:∀a,P [a]):∀us:List Value,us.length=1->P us
 | [a],_=>h a
theorem ln2 {P:List Value->Prop}(h:∀a b,P [a,b]):∀us:List Value,us.length=2->P us
 | [a,b],_=>h a b
theorem ln3 {P:List Value->Prop}(h:∀a b c,P [a,b,c]):∀us:List Value,us.length=3->P us
 | [a,b,c],_=>h a b c
theorem ln4 {P:List Value->Prop}(h:∀a b c d,P [a,b,c,d]):∀us:List Value,us.length=4->P us
 | [a,b,c,d],_=>h a b c d
theorem ln5 {P:List Value->Prop}(h:∀a b c d e,P [a,b,c,d,e]):∀us:List Value,us.length=5->P us
 | [a,b,c,d,e],_=>h a b c d e
theorem ln6 {P:List Value->Prop}(h:∀a b c d e f,P [a,b,c,d,e,f]):∀us:List Value,us.length=6->P us
 | [a,b,c,d,e,f],_=>h a b c d e f
theorem ln7 {P:List Value->Prop}(h:∀a b c d e f g,P [a,b,c,d,e,f,g]):∀us:List Value,us.length=7->P us
 | [a,b,c,d,e,f,g],_=>h a b c d e f g
abbrev Bn (n q:Str)(st:Stmt)(ps:List Str):Prop:=∀(kV doc pm:Value)(an:Option Addr)(cdv ct:Value)(us:List Value),us.length=ps.length->bindArgs (PySem.W.fnOf n q (Vt st) (WQ st) (Zj st) .none kV doc pm an cdv ct) ⟨us,[]⟩=pure (ps.zip us)
def dfo {K:Fg}{mg:Str->Option Value}{h:Heap}(X:K.In h)(G:h.Ns mainGlobals mg){n:Str}{st:Stmt}{f c:Addr}{m:Value}{ps:List Str}(a:PySem.W.nsIn K mainGlobals n=some (some (.ref f)))(l:K.lookup f=some (fo n n st m c))(e:PySem.W.codeIn K (.ref c) n=true)(b:Bn n n st ps:=by first|exact λ_ _ _ _ _ _=>ln2 λ_ _=>rfl|exact λ_ _ _ _ _ _=>ln3 λ_ _ _=>rfl|exact λ_ _ _ _ _ _=>ln1 λ_=>rfl|exact λ_ _ _ _ _ _=>ln4 λ_ _ _ _=>rfl|exact λ_ _ _ _ _ _=>ln5 λ_ _ _ _ _=>rfl|exact λ_ _ _ _ _ _=>ln6 λ_ _ _ _ _ _=>rfl|exact λ_ _ _ _ _ _=>ln7 λ_ _ _ _ _ _ _=>rfl):Df K mg n st ps:=⟨_,_,O1 (st:=st) l e (kfo l),PySem.W.mg_of X G a,(O1 (st:=st) l e (kfo l)).binds b⟩
def dmo {K:Fg}{C:Addr}{n q:Str}{st:Stmt}{f c:Addr}{m:Value}{ps:List Str}(a:PySem.W.findIn K (.ref C) n=some (some (.ref f)))(l:K.lookup f=some (fo n q st m c))(e:PySem.W.codeIn K (.ref c) q=true)(b:Bn n q st ps:=by first|exact λ_ _ _ _ _ _=>ln2 λ_ _=>rfl|exact λ_ _ _ _ _ _=>ln3 λ_ _ _=>rfl|exact λ_ _ _ _ _ _=>ln1 λ_=>rfl|exact λ_ _ _ _ _ _=>ln4 λ_ _ _ _=>rfl|exact λ_ _ _ _ _ _=>ln5 λ_ _ _ _ _=>rfl|exact λ_ _ _ _ _ _=>ln6 λ_ _ _ _ _ _=>rfl|exact λ_ _ _ _ _ _=>ln7 λ_ _ _ _ _ _ _=>rfl):Dm K C n q st ps:=⟨_,_,O1 (st:=st) l e (kfo l),⟨a,ifo l,kfo l⟩,(O1 (st:=st) l e (kfo l)).binds b⟩
abbrev nsA (K:Fg)(n:Str)(f:Addr):Prop:=PySem.W.nsIn K mainGlobals n=some (some (.ref f))
abbrev fdA (K:Fg)(C:Addr)(n:Str)(f:Addr):Prop:=PySem.W.findIn K (.ref C) n=some (some (.ref f))
abbrev lkA (K:Fg)(f:Addr)(n q:Str)(st:Stmt)(m:Value)(c:Addr):Prop:=K.lookup f=some (fo n q st m c)
abbrev cdA (K:Fg)(c:Addr)(q:Str):Prop:=PySem.W.codeIn K (.ref c) q=true
theorem Yp {C:Addr}{f:Str}{to:TDE}{dl:Ev}{S S1:Sto}{Q:DK}{n:Nat}{fs:List (Str×D)}{v:D}(hto:∀K:DK,K (.ref n) S1->to dl S K)(h:S1[n]?=some (.ins C fs))(hf:fs.lookup f=some v)(hq:Q v S1):Md C f to dl S Q:=by
 unfold Md;refine hto _ ?_;simp only[Vo,h,if_pos,hf];exact hq
theorem WH {C:Addr}{f:Str}{to te:TDE}{dl:Ev}{S S1 S2:Sto}{E:WL}{n:Nat}{fs:List (Str×D)}{v:D}(hte:∀K:DK,K v S1->te dl S K)(hto:∀K:DK,K (.ref n) S2->to dl S1 K)(h:S2[n]?=some (.ins C fs))(hl:fs.length<1000)(hq:E.nx dl (S2.set n (.ins C (Ss f v fs)))):Kf C f to te E dl S:=by
 unfold Kf;refine hte _ (hto _ ?_);simp only[Vo,h,if_pos];exact⟨hl,hq⟩
theorem Fu {C:Addr}{m:Str}{ex:Ev->Addr->Sto->Prop}{sd:Sd}{to:TDE}{t:TDA}{dl:Ev}{S S1:Sto}{Q:DK}{n:Nat}{fs:List (Str×D)}(hto:∀K:DK,K (.ref n) S1->to dl S K)(h:S1[n]?=some (.ins C fs))(hf:fs.lookup m=none)(hq:t dl S1 λds S2=>sd (.ref n::ds) S2 Q (ex dl)):M6 C m ex sd to t dl S Q:=by
 unfold M6;refine hto _ ?_;simp only[Vo,h,if_pos];exact⟨hf,hq⟩
theorem zen {te:TDE}{dl:Ev}{S:Sto}{Q:DK}{n:Nat}{xs:List D}(ht:∀K:DK,K (.ref n) S->te dl S K)(h:S[n]?=some (.lst xs))(hq:Q (.bl true) S):OE "list" te dl S Q:=by
 unfold OE;refine ht _ ?_;simp only[h];exact hq
theorem Aa {to ti te:TDE}{dl:Ev}{S:Sto}{E:WL}{n j:Nat}{k:Int}{xs:List D}{v:D}(hte:∀K:DK,K v S->te dl S K)(hto:∀K:DK,K (.ref n) S->to dl S K)(hti:∀K:DK,K (.int k) S->ti dl S K)(h:S[n]?=some (.lst xs))(hj:ixN xs.length k=some j)(hq:E.nx dl (S.set n (.lst (xs.set j v)))):JR to ti te E dl S:=by
 unfold JR;refine hte _ (hto _ (hti _ ?_));simp only[h,hj];exact hq
theorem Yc (h:S[n]?=some (.lst xs))(hq:Q (.int (xs.length:Nat)) S):irr UW [.ref n] S Q:=by
 rw[Vr];unfold UW;simp only[Z1 h rfl];exact hq
theorem Yg {S:Sto}{n a:Nat}{o u:Ob}(h:S[n]?=some o)(hn:a≠n):(S.set a u)[n]?=some o:=by rw[yM hn];exact h
theorem Yv {S:Sto}{n:Nat}{o u:Ob}(h:S[n]?=some o):(S.set n u)[n]?=some u:=by
 have hk:=(zF.mp h).1;simp[hk]
theorem ZA {S:Sto}{n:Nat}{o:Ob}{T:Sto}(h:S[n]?=some o):(S++T)[n]?=some o:=by
 have hk:=(zF.mp h).1;rw[zV hk];exact h
theorem WK (T R:Sto)(u:Ob):(T++u::R)[T.length]?=some u:=by simp
theorem WG (T R:Sto)(u v:Ob):(T++u::R).set T.length v=T++v::R:=by simp
theorem Z7 {S:Sto}{n:Nat}{o:Ob}(h:S[n]?=some o):n<S.length:=(zF.mp h).1
theorem Vf {i n:Nat}{tb:TDS}{E:WL}{dl:Ev}{S:Sto}{o:Ob}(W:Nat->Ev->Sto->Prop)(h0:W 0 dl S)(hk:∀k dl' S',W k dl' S'->S'[n]?=some o)
  (ht:∀(k:Nat)(x:D)(dl':Ev)(S':Sto)(nx ct:Ev->Sto->Prop),(Zu o)[k]?=some x->W k dl' S'->(∀dl2 S2,W (k+1) dl2 S2->nx dl2 S2)->tb { nx:=nx,rt:=E.rt,bk:=E.nx,ct:=ct } (dl'.set i (some x)) S')(he:∀dl' S',W (Zu o).length dl' S'->E.nx dl' S')(hL:Xj o=some o:=by rfl):
  (lAt S n).isSome=true/\∃W:Nat->Nat->Ev->Sto->Prop,(∃m,W 0 m dl S)/\∀k m dl S,W k m dl S->match lAt S n with
  | some o=>match (Zu o)[k]? with
   | some x=>tb { nx:=λdl' S'=>∃m',m'<m/\W (k+1) m' dl' S',rt:=E.rt,bk:=E.nx,ct:=λdl' S'=>∃m',m'<m/\W (k+1) m' dl' S' } (dl.set i (some x)) S
   | none=>E.nx dl S
  | none=>False:=by
 refine⟨by rw[Z1 (hk _ _ _ h0) hL];rfl,λk m dl' S'=>m+k=(Zu o).length/\W k dl' S',⟨(Zu o).length,by lia,h0⟩,?_⟩;rintro k m dl' S' ⟨hm,w⟩;rw[Z1 (hk _ _ _ w) hL];show (match (Zu o)[k]? with
   | some x=>tb { nx:=λdl' S''=>∃m',m'<m/\(m'+(k+1)=(Zu o).length/\W (k+1) dl' S''),rt:=E.rt,bk:=E.nx,ct:=λdl' S''=>∃m',m'<m/\(m'+(k+1)=(Zu o).length/\W (k+1) dl' S'') } (dl'.set i (some x)) S'
   | none=>E.nx dl' S')
 split
 ·rename_i x hx;have hk:k<(Zu o).length:=(zF.mp hx).1;exact ht k x dl' S' _ _ hx w λdl2 S2 w2=>⟨m-1,by lia,by lia,w2⟩
 ·rename_i hx;have hk:k=(Zu o).length:=by
   have:=yX.mp hx;lia
  exact he dl' S' (hk ▸ w)
inductive Nd where
 | number (t b:Int)|unknown (k:Int)|plus (i j:Int)|minus (i j:Int)|times (i j:Int)|power (i n:Int)
def Nd.d:Nd->D
 | .number t b=>.tup [.str "number",.int t,.int b]
 | .unknown k=>.tup [.str "unknown",.int k]
 | .plus i j=>.tup [.str "plus",.int i,.int j]
 | .minus i j=>.tup [.str "minus",.int i,.int j]
 | .times i j=>.tup [.str "times",.int i,.int j]
 | .power i n=>.tup [.str "power",.int i,.int n]
def Nd.ob (cN cU cP cM cT cW:Addr):Nd->Ob
 | .number t b=>.ins cN [("top",.int t),("bottom",.int b)]
 | .unknown k=>.ins cU [("place",.int k)]
 | .plus i j=>.ins cP [("one",.int i),("other",.int j)]
 | .minus i j=>.ins cM [("one",.int i),("other",.int j)]
 | .times i j=>.ins cT [("one",.int i),("other",.int j)]
 | .power i n=>.ins cW [("one",.int i),("many",.int n)]
def inR (m i:Int):Prop:=0<=i/\i<m
def Nd.ok (m q:Int):Nd->Prop
 | .number t b=>(1<=b/\b<=10^9)/\Int.gcd t b=1/\t.natAbs<=10^9
 | .unknown k=>inR q k
 | .plus i j=>inR m i/\inR m j
 | .minus i j=>inR m i/\inR m j
 | .times i j=>inR m i/\inR m j
 | .power i n=>inR m i/\2<=n/\n<=6
def frD (p:Int×Int):D:=.tup [.int p.1,.int p.2]
abbrev gt (vs:LI)(i:Int):Int×Int:=vs.getD i.toNat (0,1)
theorem QA (h:inR vs.length i):gt vs i∈vs:=by
 obtain⟨h0,h1⟩:=h;have hk:i.toNat<vs.length:=by lia
 have e:gt vs i=vs[i.toNat]:=by simp[gt,hk]
 rw[e];exact zZ hk
theorem Z5 (h:inR vs.length i):atI (vs.map frD) i=some (frD (gt vs i)):=by
 obtain⟨h0,h1⟩:=h;have hk:i.toNat<vs.length:=by lia
 have z:=X2 (xs:=vs.map frD) (j:=i.toNat) (v:=frD (gt vs i)) (by rw[zG,zC hk];simp[gt,hk]);rw[show ((i.toNat:Nat):Int)=i by lia] at z;exact z
theorem Eg {xs:List D}{d e:D}{i:Nat}{P:Nat->D->Prop}(h:(xs++[d])[i]?=some e)(hp:∀i d,xs[i]?=some d->P i d)(hd:P xs.length d):P i e:=by
 by_cases hi:i<xs.length
 ·rw[zV hi] at h;exact hp i e h
 ·have hk:=(zF.mp h).1;simp only[zO,zY,xC] at hk;have e1:i=xs.length:=by lia
  subst e1;simp at h;subst h;exact hd
theorem De {caps:List Nat}{ta:TDA}{te:TDE}{dl:Ev}{S S1:Sto}{Q:DK}{j:Int}(P:Nat->D->Prop)(hta:∀K:List D->Sto->Prop,K [.int j] S1->ta dl S K)(hj:0<=j/\j<=1000)
  (ht:∀k:Nat,k<j.toNat->∀(S2:Sto)(K:DK),Pre S1 S2->(∀d,P k d->K d S2)->te (some (.int k)::YQ caps dl) S2 K)(hq:∀xs:List D,xs.length=j.toNat->(∀k d,xs[k]?=some d->P k d)->Q (.ref S1.length) (S1++[.lst xs])):WE caps ta Xx te dl S Q:=by
 unfold WE;refine hta _ ⟨⟨by lia,by lia⟩,λk S2=>(∃xs:List D,S2=S1++[.lst xs]/\xs.length=k/\∀i d,xs[i]?=some d->P i d)/\k<=j.toNat,⟨⟨[],rfl,rfl,λi d h=>by simp at h⟩,by lia⟩,?_⟩;rintro k S2 ⟨⟨xs,rfl,hx,hp⟩,hk⟩;split
 ·rename_i hk';unfold Vd Xx;simp only[if_true];refine ht k hk' _ _ Pre.refl.push λd hd=>?_
  rw[Zv];refine⟨by lia,⟨xs++[d],SJ _ _ _,by simp[hx],λi e he=>Eg he hp (hx ▸ hd)⟩,by lia⟩
 ·have e:k=j.toNat:=by lia
  subst e;exact hq xs hx hp
theorem Co {caps:List Nat}{tl te:TDE}{dl:Ev}{S S1:Sto}{Q:DK}{n:Nat}{o:Ob}(P:Nat->D->Prop)(htl:∀K:DK,K (.ref n) S1->tl dl S K)(h1:S1[n]?=some o)(hl:(Zu o).length<=1000)
  (ht:∀(k:Nat)(x:D),(Zu o)[k]?=some x->∀(S2:Sto)(K:DK),Pre S1 S2->(∀d,P k d->K d S2)->te (some x::YQ caps dl) S2 K)(hq:∀xs:List D,xs.length=(Zu o).length->(∀k d,xs[k]?=some d->P k d)->Q (.ref S1.length) (S1++[.lst xs]))(hL:Xj o=some o:=by rfl):XY caps tl Xx te dl S Q:=by
 unfold XY;refine htl _ ⟨by rw[Z1 h1 hL];rfl,λk m S2=>(∃xs:List D,S2=S1++[.lst xs]/\xs.length=k/\∀i d,xs[i]?=some d->P i d)/\m+k=(Zu o).length,⟨(Zu o).length,⟨[],rfl,rfl,λi d h=>by simp at h⟩,by lia⟩,?_⟩;rintro k m S2 ⟨⟨xs,rfl,hx,hp⟩,hm⟩;rw[Z1 (WB h1) hL];dsimp only;split
 ·rename_i x hk;have hk':k<(Zu o).length:=(zF.mp hk).1;unfold Vd Xx;simp only[if_true];refine ht k x hk _ _ Pre.refl.push λd hd=>?_
  rw[Zv];refine⟨by lia,m-1,by lia,⟨xs++[d],SJ _ _ _,by simp[hx],λi e he=>Eg he hp (hx ▸ hd)⟩,by lia⟩
 ·rename_i hk;have hk':=yX.mp hk;exact hq xs (by lia) hp
structure Tb (a b c d mn mx:Int):Prop where
 lo:mn=a*c\/mn=a*d\/mn=b*c\/mn=b*d
 l1:mn<=a*c
 l2:mn<=a*d
 l3:mn<=b*c
 l4:mn<=b*d
 hi:mx=a*c\/mx=a*d\/mx=b*c\/mx=b*d
 h1:a*c<=mx
 h2:a*d<=mx
 h3:b*c<=mx
 h4:b*d<=mx
theorem Tb.of {a b c d mn mx:Int}(m1:mn∈[a*c,a*d,b*c,b*d])(m2:∀y∈[a*c,a*d,b*c,b*d],mn<=y)(x1:mx∈[a*c,a*d,b*c,b*d])(x2:∀y∈[a*c,a*d,b*c,b*d],y<=mx):Tb a b c d mn mx:=by
 simp only[zQ,yR,or_false] at m1 x1;exact⟨m1,m2 _ (by simp),m2 _ (by simp),m2 _ (by simp),m2 _ (by simp),x1,x2 _ (by simp),x2 _ (by simp),x2 _ (by simp),x2 _ (by simp)⟩
structure V9 (a b:Int)(n:Nat)(m M:Int):Prop where
 lo:m=a^n\/m=b^n\/(a<0/\0<b/\m=0)
 l1:m<=a^n
 l2:m<=b^n
 l3:a<0->0<b->m<=0
 hi:M=a^n\/M=b^n
 h1:a^n<=M
 h2:b^n<=M
theorem Q8 (h:1<=n):(0:Int)^n=0:=by
 cases n with
 | zero=>lia
 | succ k=>rw[xD,Int.mul_zero]
theorem V9.of {a b g mn mx:Int}{n:Nat}(hg:1<=g){l:List Int}(hl:l=[a^n*g,b^n*g]/\¬ (a<0/\0<b)\/l=[a^n*g,b^n*g,0^n*g]/\a<0/\0<b)(hn:1<=n)(m1:mn∈l)(m2:∀y∈l,mn<=y)(x1:mx∈l)(x2:∀y∈l,y<=mx):
  ∃m M,V9 a b n m M/\mn=m*g/\mx=M*g:=by
 have can:∀ {x y:Int},x*g<=y*g->x<=y:=λ{x y} h=>Int.le_of_mul_le_mul_right h (by omega)
 rcases hl with ⟨rfl,hz⟩|⟨rfl,hz1,hz2⟩
 ·simp only[zQ,yR,or_false] at m1 x1;have a1:=m2 (a^n*g) (by simp)
  have a2:=m2 (b^n*g) (by simp)
  have b1:=x2 (a^n*g) (by simp)
  have b2:=x2 (b^n*g) (by simp);obtain⟨m,hm,em⟩:∃m,(m=a^n\/m=b^n)/\mn=m*g:=by
   rcases m1 with e|e
   ·exact⟨_,.inl rfl,e⟩
   ·exact⟨_,.inr rfl,e⟩
  obtain⟨M,hM,eM⟩:∃m,(m=a^n\/m=b^n)/\mx=m*g:=by
   rcases x1 with e|e
   ·exact⟨_,.inl rfl,e⟩
   ·exact⟨_,.inr rfl,e⟩
  subst em eM;exact⟨m,M,⟨hm.elim .inl λe=>.inr (.inl e),can a1,can a2,λc1 c2=>absurd ⟨c1,c2⟩ hz,hM,can b1,can b2⟩,rfl,rfl⟩
 ·rw[Q8 hn,Int.zero_mul] at m1 m2 x1 x2;simp only[zQ,yR,or_false] at m1 x1;have a1:=m2 (a^n*g) (by simp)
  have a2:=m2 (b^n*g) (by simp)
  have a3:=m2 0 (by simp)
  have b1:=x2 (a^n*g) (by simp)
  have b2:=x2 (b^n*g) (by simp)
  have b3:=x2 0 (by simp);obtain⟨m,hm,em⟩:∃m,(m=a^n\/m=b^n\/m=0)/\mn=m*g:=by
   rcases m1 with e|e|e
   ·exact⟨_,.inl rfl,e⟩
   ·exact⟨_,.inr (.inl rfl),e⟩
   ·exact⟨0,.inr (.inr rfl),by rw[e,Int.zero_mul]⟩
  have bp:(0:Int)<=b^n:=Int.pow_nonneg (by omega)
  have bg:=Int.mul_nonneg bp (show 0<=g by omega);obtain⟨M,hM,eM⟩:∃m,(m=a^n\/m=b^n)/\mx=m*g:=by
   rcases x1 with e|e|e
   ·exact⟨_,.inl rfl,e⟩
   ·exact⟨_,.inr rfl,e⟩
   ·exact⟨_,.inr rfl,by omega⟩
  subst em eM;refine⟨m,M,⟨?_,can a1,can a2,λ_ _=>can (by rw[Int.zero_mul];exact a3),hM,can b1,can b2⟩,rfl,rfl⟩;rcases hm with e|e|e
  ·exact .inl e
  ·exact .inr (.inl e)
  ·exact .inr (.inr ⟨hz1,hz2,e⟩)
theorem SA {m g:Int}{n:Nat}(hg:1<=g)(hn:1<=n):m*g/g^n=m/g^(n-1):=by
 obtain⟨k,rfl⟩:∃k,n=k+1:=⟨n-1,by lia⟩;rw[xD,Nat.add_sub_cancel,Int.mul_ediv_mul_of_pos_left _ _ (by lia)]
def mn4 (a b c d:Int):Int:=min (min (a*c) (a*d)) (min (b*c) (b*d))
def mx4 (a b c d:Int):Int:=max (max (a*c) (a*d)) (max (b*c) (b*d))
theorem Tb.eq {a b c d mn mx:Int}(h:Tb a b c d mn mx):mn=mn4 a b c d/\mx=mx4 a b c d:=by
 obtain⟨h0,h1,h2,h3,h4,h5,h6,h7,h8,h9⟩:=h;unfold mn4 mx4;omega
def Yk (a b:Int)(n:Nat):Int:=if n%2=0/\a<=0/\0<=b then 0 else min (a^n) (b^n)
def Y8 (a b:Int)(n:Nat):Int:=max (a^n) (b^n)
theorem Tr {n:Nat}(h:n%2=0)(x:Int):0<=x^n:=by
 obtain⟨k,rfl⟩:∃k,n=k+k:=⟨n/2,by lia⟩;rw[Int.pow_add];by_cases c:0<=x^k
 ·exact Int.mul_nonneg c c
 ·have:=Int.mul_nonneg (show 0<=-(x^k) by lia) (show 0<=-(x^k) by lia);rw[Int.neg_mul_neg] at this;exact this
theorem zd8 {n:Nat}(h:n%2=1){x:Int}(hx:x<0):x^n<0:=by
 obtain⟨k,rfl⟩:∃k,n=k+1:=⟨n-1,by lia⟩;have z:=Tr (n:=k) (by lia) x
 have nz:∀k:Nat,x^k≠0:=λk=>by
  induction k with
  | zero=>rw[xU];decide
  | succ k ih=>rw[xD];exact Int.mul_ne_zero ih (by lia)
 have nz:=nz k
 have:=Int.mul_pos (show 0<x^k by lia) (show 0 < -x by lia);rw[Int.mul_neg] at this;rw[xD];lia
theorem V9.eq {a b m M:Int}{n:Nat}(h:V9 a b n m M)(hn:1<=n):m=Yk a b n/\M=Y8 a b n:=by
 obtain⟨h0,h1,h2,h3,h4,h5,h6⟩:=h;refine⟨?_,by unfold Y8;lia⟩;unfold Yk;split
 ·rename_i c;obtain⟨c1,c2,c3⟩:=c;have e1:=Tr c1 a
  have e2:=Tr c1 b;by_cases z:a<0/\0<b
  ·have:=h3 z.1 z.2;lia
  ·have z':a=0\/b=0:=by lia
   rcases z' with rfl|rfl
   ·rw[Q8 hn] at h1;lia
   ·rw[Q8 hn] at h2;lia
 ·rename_i c;have hz:a<0->0<b->m≠0:=λa1 b1 e=>by
   by_cases p:n%2=0
   ·exact c ⟨p,by lia,by lia⟩
   ·have:=zd8 (n:=n) (by lia) a1;lia
  lia
def Nd.fw (vs bs:LI)(g:Int):Nd->Int×Int
 | .number t b=>(t*g/b,-(-(t*g)/b))
 | .unknown k=>gt bs k
 | .plus i j=>((gt vs i).1+(gt vs j).1,(gt vs i).2+(gt vs j).2)
 | .minus i j=>((gt vs i).1-(gt vs j).2,(gt vs i).2-(gt vs j).1)
 | .times i j=>(mn4 (gt vs i).1 (gt vs i).2 (gt vs j).1 (gt vs j).2/g,-(-mx4 (gt vs i).1 (gt vs i).2 (gt vs j).1 (gt vs j).2/g))
 | .power i n=>(Yk (gt vs i).1 (gt vs i).2 n.toNat/g^(n.toNat-1),-(-Y8 (gt vs i).1 (gt vs i).2 n.toNat/g^(n.toNat-1)))
def Spn (B:Nat)(vs:LI):Prop:=∀p∈vs,p.1<=p.2/\Sz B p.1/\Sz B p.2
theorem Spn.at {B:Nat}{vs:LI}(h:Spn B vs){i:Int}(hi:inR vs.length i):(gt vs i).1<=(gt vs i).2/\Sz B (gt vs i).1/\Sz B (gt vs i).2:=h _ (QA hi)
theorem Spn.mono {B C:Nat}{vs:LI}(h:Spn B vs)(hc:B<=C):Spn C vs:=λp hp=>⟨(h p hp).1,(h p hp).2.1.mono hc,(h p hp).2.2.mono hc⟩
theorem SN (hg:1<=g)(h:m<=M):m/g<=-(-M/g):=by
 have h1:=Int.ediv_mul_le m (show g≠0 by lia)
 have h2:=Int.ediv_mul_le (-M) (show g≠0 by lia)
 have:m/g*g<=-(-M/g)*g:=by rw[yQ];lia
 exact Int.le_of_mul_le_mul_right this (by lia)
theorem J7 (a b:Int)(n:Nat):Yk a b n<=Y8 a b n:=by
 unfold Yk Y8;split
 ·rename_i c;have:=Tr c.1 a;lia
 ·lia
theorem HM (a b c d:Int):mn4 a b c d<=mx4 a b c d:=by unfold mn4 mx4;lia
theorem Nd.fw_le (h1:Spn B vs)(h2:Spn B bs)(hg:1<=g):∀v:Nd,v.ok vs.length bs.length->(v.fw vs bs g).1<=(v.fw vs bs g).2
 | .number t b,ok=>SN ok.1.1 (yH _)
 | .unknown k,ok=>(h2.at ok).1
 | .plus i j,ok=>by
  have a:=(h1.at ok.1).1
  have b:=(h1.at ok.2).1
  show (gt vs i).1+(gt vs j).1<=(gt vs i).2+(gt vs j).2;lia
 | .minus i j,ok=>by
  have a:=(h1.at ok.1).1
  have b:=(h1.at ok.2).1
  show (gt vs i).1-(gt vs j).2<=(gt vs i).2-(gt vs j).1;lia
 | .times i j,ok=>SN hg (HM _ _ _ _)
 | .power i n,ok=>SN (yS (by lia)) (J7 _ _ _)
theorem BX {a b:TDS}{E:WL}{dl:Ev}{S:Sto}(W:Ev->Sto->Prop)(ha:∀nx:Ev->Sto->Prop,(∀dl' S',W dl' S'->nx dl' S')->a { nx:=nx,rt:=E.rt,bk:=E.bk,ct:=E.ct } dl S)(hb:∀dl' S',W dl' S'->b E dl' S'):Wg a b E dl S:=ha _ hb
theorem Er (hq:Q (.int (xs.length:Nat)) S):irr UW [.tup xs] S Q:=by
 rw[Vr];exact hq
theorem TL {a b c:TDS}{E:WL}{dl:Ev}{S:Sto}(W:Ev->Sto->Prop)(ha:∀nx:Ev->Sto->Prop,(∀dl' S',W dl' S'->nx dl' S')->Wg a b { nx:=nx,rt:=E.rt,bk:=E.bk,ct:=E.ct } dl S)(hb:∀dl' S',W dl' S'->c E dl' S'):Wg a (Wg b c) E dl S:=ha _ hb
theorem VX (h:Sz n m)(hg:1<=g):Sz n (-(-m/g)):=(h.neg.div hg).neg
theorem Vb (ha:Sz n a)(hb:Sz n b):Sz n (min a b):=by unfold Sz at *;lia
theorem WZ (ha:Sz n a)(hb:Sz n b):Sz n (max a b):=by unfold Sz at *;lia
theorem Spn.set {B:Nat}{vs:LI}(h:Spn B vs){k:Nat}{u:Int}(hu:Sz B u):Spn B (vs.set k (u,u)):=λp hp=>by
 rcases List.mem_or_eq_of_mem_set hp with e|e
 ·exact h p e
 ·subst e;exact⟨yH _,hu,hu⟩
def Nd.wt (ws:List Nat):Nd->Nat
 | .number _ _=>1
 | .unknown _=>1
 | .plus i j=>ws.getD i.toNat 0+ws.getD j.toNat 0
 | .minus i j=>ws.getD i.toNat 0+ws.getD j.toNat 0
 | .times i j=>ws.getD i.toNat 0+ws.getD j.toNat 0
 | .power i n=>n.toNat*ws.getD i.toNat 0
structure ZS (q:Int)(ns:List Nd)(ws:List Nat):Prop where
 len:ws.length=ns.length
 ok:∀(k:Nat)(v:Nd),ns[k]?=some v->v.ok k q/\ws.getD k 0=v.wt ws/\1<=v.wt ws/\v.wt ws<=16
theorem ZS.nil (q:Int):ZS q [] []:=⟨rfl,λk v h=>by simp at h⟩
theorem ZS.w1 {q:Int}{ns:List Nd}{ws:List Nat}(h:ZS q ns ws){i:Int}(hi:inR ns.length i):1<=ws.getD i.toNat 0/\ws.getD i.toNat 0<=16:=by
 obtain⟨h0,h1⟩:=hi;have hk:i.toNat<ns.length:=(by lia);obtain⟨_,e,a,b⟩:=h.ok i.toNat _ (zC hk);lia
theorem ZS.w2 {q:Int}{ns:List Nd}{ws:List Nat}(h:ZS q ns ws):∀v:Nd,v.ok ns.length q->1<=v.wt ws/\v.wt ws<=96
 | .number _ _,_=>⟨zD 1,show 1<=96 by decide⟩
 | .unknown _,_=>⟨zD 1,show 1<=96 by decide⟩
 | .plus i j,ok=>by have a:=h.w1 ok.1;have b:=h.w1 ok.2;simp only[Nd.wt];lia
 | .minus i j,ok=>by have a:=h.w1 ok.1;have b:=h.w1 ok.2;simp only[Nd.wt];lia
 | .times i j,ok=>by have a:=h.w1 ok.1;have b:=h.w1 ok.2;simp only[Nd.wt];lia
 | .power i n,ok=>by
  have a:=h.w1 ok.1
  have n2:=ok.2.1
  have n6:=ok.2.2
  have m1:=xO (show 1<=n.toNat by lia) a.1
  have m2:=xO (show n.toNat<=6 by lia) a.2;simp only[Nd.wt];lia
theorem Ed (h:k<ws.length):(ws++[w]).getD k 0=ws.getD k 0:=by
 rw[zK,zK,zV h]
theorem DH (hk:k<=ws.length):∀v:Nd,v.ok k q->v.wt (ws++[w])=v.wt ws:=by
 have e:∀i:Int,inR k i->(ws++[w]).getD i.toNat 0=ws.getD i.toNat 0:=λi hi=>Ed (by have a:=hi.1;have b:=hi.2;lia)
 intro v ok;cases v with
 | number _ _=>rfl
 | unknown _=>rfl
 | plus i j=>show _+_=_+_;rw[e i ok.1,e j ok.2]
 | minus i j=>show _+_=_+_;rw[e i ok.1,e j ok.2]
 | times i j=>show _+_=_+_;rw[e i ok.1,e j ok.2]
 | power i n=>show _*_=_*_;rw[e i ok.1]
theorem ZS.snoc {q:Int}{ns:List Nd}{ws:List Nat}(h:ZS q ns ws){v:Nd}(ok:v.ok ns.length q)(h16:v.wt ws<=16):ZS q (ns++[v]) (ws++[v.wt ws]):=by
 refine⟨by simp[h.len],λk u hu=>?_⟩;by_cases hk:k<ns.length
 ·rw[zV hk] at hu;obtain⟨a,b,c,d⟩:=h.ok k u hu;have e:=DH (w:=v.wt ws) (q:=q) (k:=k) (by rw[h.len];lia) u a;rw[e,Ed (by rw[h.len];exact hk)];exact⟨a,b,c,d⟩
 ·have hl:=(zF.mp hu).1;simp only[zO,zY,xC] at hl;have ek:k=ns.length:=by lia
  subst ek;simp at hu;subst hu;have e:=DH (w:=v.wt ws) (q:=q) (k:=ns.length) (by rw[h.len];lia) v ok;rw[e];refine⟨ok,?_,(h.w2 v ok).1,h16⟩;rw[<- h.len];simp
theorem ZS.take {q:Int}{ns:List Nd}{ws:List Nat}(h:ZS q ns ws)(n:Nat):ZS q (ns.take n) (ws.take n):=by
 have e:∀k:Nat,k<n->(ws.take n).getD k 0=ws.getD k 0:=λk hk=>by
  rw[zK,zK,List.getElem?_take_of_lt hk]
 refine⟨by simp[h.len],λk u hu=>?_⟩;have hl:=(zF.mp hu).1;rw[zW] at hl;have hk:k<n:=by lia
 rw[List.getElem?_take_of_lt hk] at hu;obtain⟨a,b,c,d⟩:=h.ok k u hu;have e2:u.wt (ws.take n)=u.wt ws:=by
  have f:∀i:Int,inR k i->(ws.take n).getD i.toNat 0=ws.getD i.toNat 0:=λi hi=>e _ (by have:=hi.1;have:=hi.2;lia)
  cases u with
  | number _ _=>rfl
  | unknown _=>rfl
  | plus i j=>show _+_=_+_;rw[f i a.1,f j a.2]
  | minus i j=>show _+_=_+_;rw[f i a.1,f j a.2]
  | times i j=>show _+_=_+_;rw[f i a.1,f j a.2]
  | power i m=>show _*_=_*_;rw[f i a.1]
 rw[e2,e k hk];exact⟨a,b,c,d⟩
def Zo (bs:LI)(g:Int)(ns:List Nd):LI:=ns.foldl (λacc v=>acc++[v.fw acc bs g]) []
theorem SX (bs:LI)(g:Int)(ns:List Nd)(v:Nd):Zo bs g (ns++[v])=Zo bs g ns++[v.fw (Zo bs g ns) bs g]:=by
 unfold Zo;rw[List.foldl_append];rfl
theorem XH {α:Type}{xs:List α}{k:Nat}{x:α}(h:xs[k]?=some x):xs.take (k+1)=xs.take k++[x]:=by rw[xB,h];rfl
theorem Y2 (bs:LI)(g:Int)(ns:List Nd):(Zo bs g ns).length=ns.length:=by
 have z:∀k,k<=ns.length->(Zo bs g (ns.take k)).length=k:=λk=>by
  induction k with
  | zero=>intro _;rfl
  | succ k ih=>
   intro hk;rw[XH (zC (show k<ns.length by lia)),SX];simp[ih (by lia)]
 have:=z ns.length (zD _)
 rwa [yE] at this
theorem AY (bs:LI)(g:Int)(ns:List Nd)(k:Nat):k<=ns.length->(Zo bs g ns).take k=Zo bs g (ns.take k):=by
 have z:∀m,k<=m->m<=ns.length->(Zo bs g (ns.take m)).take k=Zo bs g (ns.take k):=λm=>by
  induction m with
  | zero=>
   intro h1 _;have:k=0:=by lia
   subst this;rfl
  | succ m ih=>
   intro h1 h2;by_cases e:k=m+1
   ·subst e;rw[yB (by rw[Y2,zW];lia)]
   ·rw[XH (zC (show m<ns.length by lia)),SX,List.take_append_of_le_length (by rw[Y2,zW];lia)];exact ih (by lia) (by lia)
 intro hk;have:=z ns.length hk (zD _)
 rwa [yE] at this
def SzW (ws:List Nat)(vs:LI):Prop:=∀(k:Nat)(p:Int×Int),vs[k]?=some p->p.1<=p.2/\Sz (60*ws.getD k 0-1) p.1/\Sz (60*ws.getD k 0-1) p.2
theorem SzW.at {ws:List Nat}{vs:LI}(h:SzW ws vs){i:Int}(hi:inR vs.length i):(gt vs i).1<=(gt vs i).2/\Sz (60*ws.getD i.toNat 0-1) (gt vs i).1/\Sz (60*ws.getD i.toNat 0-1) (gt vs i).2:=by
 obtain⟨h0,h1⟩:=hi;have hk:i.toNat<vs.length:=by lia
 have e:gt vs i=vs[i.toNat]:=by simp[gt,hk]
 rw[e];exact h _ _ (zC hk)
theorem fw_w (hs:SzW ws vs)(hb:Spn 51 bs)(hg:1<=g/\g<=1000000)(hw:∀i:Int,inR vs.length i->1<=ws.getD i.toNat 0):∀v:Nd,v.ok vs.length bs.length->Sz (60*v.wt ws-1) (v.fw vs bs g).1/\Sz (60*v.wt ws-1) (v.fw vs bs g).2
 | .number t b,ok=>by
  have z:Sz 52 (t*g):=(Sz.of (n:=31) (10^9) ok.2.2).mul (Sz.of (n:=21) (10^6) (show g.natAbs<=_ by lia));exact⟨(z.div ok.1.1).mono (show 52<=60*1-1 by decide),(VX z ok.1.1).mono (show 52<=60*1-1 by decide)⟩
 | .unknown k,ok=>⟨(hb.at ok).2.1.mono (show 51<=60*1-1 by decide),(hb.at ok).2.2.mono (show 51<=60*1-1 by decide)⟩
 | .plus i j,ok=>by
  have a:=hs.at ok.1
  have b:=hs.at ok.2
  have p:=hw i ok.1
  have q:=hw j ok.2;exact⟨(a.2.1.add b.2.1).mono (by simp only[Nd.wt];lia),(a.2.2.add b.2.2).mono (by simp only[Nd.wt];lia)⟩
 | .minus i j,ok=>by
  have a:=hs.at ok.1
  have b:=hs.at ok.2
  have p:=hw i ok.1
  have q:=hw j ok.2;exact⟨(a.2.1.sub b.2.2).mono (by simp only[Nd.wt];lia),(a.2.2.sub b.2.1).mono (by simp only[Nd.wt];lia)⟩
 | .times i j,ok=>by
  have a:=hs.at ok.1
  have b:=hs.at ok.2
  have p:=hw i ok.1
  have q:=hw j ok.2
  have le:∀ {x y:Int},Sz (60*ws.getD i.toNat 0-1) x->Sz (60*ws.getD j.toNat 0-1) y->Sz (60*Nd.wt ws (.times i j)-1) (x*y):=λh1 h2=>(h1.mul h2).mono (by simp only[Nd.wt];lia)
  have l:=Vb (Vb (le a.2.1 b.2.1) (le a.2.1 b.2.2)) (Vb (le a.2.2 b.2.1) (le a.2.2 b.2.2))
  have u:=WZ (WZ (le a.2.1 b.2.1) (le a.2.1 b.2.2)) (WZ (le a.2.2 b.2.1) (le a.2.2 b.2.2));exact⟨l.div hg.1,VX u hg.1⟩
 | .power i n,ok=>by
  have a:=hs.at ok.1
  have p:=hw i ok.1
  have n2:=ok.2.1
  have gp:(1:Int)<=g^(n.toNat-1):=yS (by lia)
  have hn:(60*ws.getD i.toNat 0-1)*n.toNat+1<=60*Nd.wt ws (.power i n)-1:=by
   simp only[Nd.wt];rw[Nat.sub_mul,Nat.one_mul];have e:60*ws.getD i.toNat 0*n.toNat=60*(n.toNat*ws.getD i.toNat 0):=by rw[Nat.mul_assoc,Nat.mul_comm (ws.getD i.toNat 0)]
   have m1:=xO (zD n.toNat) p;lia
  have p1:Sz (60*Nd.wt ws (.power i n)-1) ((gt vs i).1^n.toNat):=(a.2.1.pow _).mono hn
  have p2:Sz (60*Nd.wt ws (.power i n)-1) ((gt vs i).2^n.toNat):=(a.2.2.pow _).mono hn
  have l:Sz (60*Nd.wt ws (.power i n)-1) (Yk (gt vs i).1 (gt vs i).2 n.toNat):=by
   unfold Yk;split
   ·exact(Sz.of (n:=1) 0 (by decide)).mono (by have:=xO (show 1<=n.toNat by lia) p;simp only[Nd.wt];lia)
   ·exact Vb p1 p2
  exact⟨l.div gp,VX (WZ p1 p2) gp⟩
theorem Spn.of_w {ws:List Nat}{vs:LI}(h:SzW ws vs)(hw:∀k:Nat,k<vs.length->ws.getD k 0<=16):Spn 1000 vs:=λp hp=>by
 obtain⟨k,hk,e⟩:=yW.mp hp;obtain⟨a,b,c⟩:=h k p (by rw[zC hk,e]);have:=hw k hk;exact⟨a,b.mono (by lia),c.mono (by lia)⟩
theorem PH {q:Int}{ns:List Nd}{ws:List Nat}{bs:LI}{g:Int}(h:ZS q ns ws)(hq:q=bs.length)(hb:Spn 51 bs)(hg:1<=g/\g<=1000000):∀k,k<=ns.length->SzW ws (Zo bs g (ns.take k)):=λk=>by
 induction k with
 | zero=>intro _ i p hp;simp[Zo] at hp
 | succ k ih=>
  intro hk;have hv:=zC (show k<ns.length by lia)
  have s:=ih (by lia)
  have ln:(Zo bs g (ns.take k)).length=k:=by rw[Y2,zW];lia
  obtain⟨ok,e,_,_⟩:=h.ok k _ hv;rw[XH hv,SX];have okv:(ns[k]).ok (Zo bs g (ns.take k)).length bs.length:=by rw[ln,<- hq];exact ok
  have w1:∀i:Int,inR (Zo bs g (ns.take k)).length i->1<=ws.getD i.toNat 0:=λi hi=>(h.w1 (i:=i) (by rw[ln] at hi;exact⟨hi.1,by have:=hi.2;lia⟩)).1
  have z:=fw_w s hb hg w1 ns[k] okv
  have l:((ns[k]).fw (Zo bs g (ns.take k)) bs g).1<=((ns[k]).fw (Zo bs g (ns.take k)) bs g).2:=by
   refine Nd.fw_le (B:=6000) ?_ (hb.mono (by decide)) hg.1 _ okv;intro p hp;obtain⟨i,hi,ei⟩:=yW.mp hp;obtain⟨a,b,c⟩:=s i p (by rw[zC hi,ei]);have:=(h.w1 (i:=i) ⟨by lia,by rw[ln] at hi;lia⟩).2;rw[zJ] at this;exact⟨a,b.mono (by lia),c.mono (by lia)⟩
  intro i p hp;by_cases hi:i<k
  ·rw[zV (by rw[ln];exact hi)] at hp;exact s i p hp
  ·have hl:=(zF.mp hp).1;simp only[zO,zY,xC,ln] at hl;have ei:i=k:=by lia
   subst ei;rw[yI (by rw[ln];exact zD _),ln,xJ] at hp;simp at hp;subst hp;rw[e];exact⟨l,z⟩
theorem K8 {q:Int}{ns:List Nd}{ws:List Nat}{bs:LI}{g:Int}(h:ZS q ns ws)(hq:q=bs.length)(hb:Spn 51 bs)(hg:1<=g/\g<=1000000)(k:Nat)(hk:k<=ns.length):Spn 1000 (Zo bs g (ns.take k)):=
 Spn.of_w (PH h hq hb hg k hk) λi hi=>by
  rw[Y2,zW] at hi;have:=(h.w1 (i:=i) ⟨by lia,by lia⟩).2
  rwa [zJ] at this
theorem U0 (h:Pre S T)(hn:S.length<=n):Pre S (T.set n o):=λk u e=>by
 have hk:=(zF.mp e).1;rw[yM (by lia)];exact h k u e
theorem Vj (h:Pre S T)(U:Sto):Pre S (T++U):=λk u e=>ZA (h k u e)
theorem E8 {to te:TDE}{dl:Ev}{S S1 S2:Sto}{Q:DK}{n:Nat}{xs:List D}{y:D}(hto:∀K:DK,K (.ref n) S1->to dl S K)(h:S1[n]?=some (.lst xs))(hte:∀K:DK,K y S2->te dl S1 K)(h2:S2[n]?=some (.lst xs))(hl:xs.length<1000)(hq:Q .non (S2.set n (.lst (xs++[y])))):Ub to te dl S Q:=by
 unfold Ub;refine hto _ ?_;simp only[h];refine hte _ ?_;simp only[h2,if_pos hl];exact hq
theorem HN (u v:Nd):∃b,eqN 1 u.d v.d=some b:=by cases u<;>cases v<;>exact⟨_,rfl⟩
theorem Ab (u:Nd):eqN 1 u.d u.d=some true:=by cases u<;>simp[Nd.d,eqN,L3.eqT,eqL,eqF]
theorem FE (v:Nd):∀ns:List Nd,∃b,Xw (eqN 1) (ns.map Nd.d) v.d=some b
 | []=>⟨false,rfl⟩
 | u::us=>by
  obtain⟨b,e⟩:=HN u v;obtain⟨c,e2⟩:=FE v us;refine⟨b||c,?_⟩;show (match eqN 1 u.d v.d,Xw (eqN 1) (us.map Nd.d) v.d with|some b,some c=>some (b||c)|_,_=>none)=_;rw[e,e2]
def wtD (w:Nat):D:=.int (w:Int)
theorem Kg {ws:List Nat}{i:Int}(h:inR ws.length i):atI (ws.map wtD) i=some (.int ((ws.getD i.toNat 0:Nat):Int)):=by
 obtain⟨h0,h1⟩:=h;have hk:i.toNat<ws.length:=by lia
 have z:=X2 (xs:=ws.map wtD) (j:=i.toNat) (v:=wtD (ws.getD i.toNat 0)) (by rw[zG,zC hk];simp[hk]);rw[show ((i.toNat:Nat):Int)=i by lia] at z;exact z
theorem AQ (q:Nat):ZS q ((List.range q).map λ(k:Nat)=>Nd.unknown (k:Int)) ((List.range q).map λ_=>1):=by
 refine⟨by simp,λk v hv=>?_⟩;have hl:=(zF.mp hv).1;simp only[zA,xE] at hl;rw[zG,xV hl] at hv;cases hv;refine⟨⟨by lia,by lia⟩,?_,zD _,show 1<=16 by decide⟩;simp[Nd.wt,hl]
theorem AN {u v:Nd}(h:eqN 1 u.d v.d=some true):u=v:=by
 cases u<;>cases v<;>simp[Nd.d,eqN,L3.eqT,eqL,eqF] at h
 all_goals first|(obtain⟨rfl,rfl⟩:=h;rfl)|(subst h;rfl)|exact absurd h.1 (by decide)
theorem J4 (v:Nd):∀ns:List Nd,∃o:Option Nat,Vq (eqN 1) (ns.map Nd.d) v.d=some o/\Xw (eqN 1) (ns.map Nd.d) v.d=some o.isSome/\∀j,o=some j->ns[j]?=some v
 | []=>⟨none,rfl,rfl,λj h=>by cases h⟩
 | u::us=>by
  obtain⟨b,e⟩:=HN u v;obtain⟨o,h1,h2,h3⟩:=J4 v us;have f1:Vq (eqN 1) ((u::us).map Nd.d) v.d=(match eqN 1 u.d v.d,Vq (eqN 1) (us.map Nd.d) v.d with|some true,some _=>some (some 0)|some false,some o=>some (o.map (·+1))|_,_=>none):=rfl
  have f2:Xw (eqN 1) ((u::us).map Nd.d) v.d=(match eqN 1 u.d v.d,Xw (eqN 1) (us.map Nd.d) v.d with|some b,some c=>some (b||c)|_,_=>none):=rfl;rw[f1,f2,e,h1,h2];cases b with
  | true=>exact⟨some 0,rfl,rfl,λj hj=>by
    cases hj;rw[AN e];rfl⟩
  | false=>exact⟨o.map (·+1),rfl,by cases o<;>rfl,λj hj=>by
    cases o with
    | none=>cases hj
    | some i=>
     cases hj;exact h3 i rfl⟩
theorem Bo {v:Nd}{ns:List Nd}{n:Nat}{S:Sto}{Q:DK}{o:Option Nat}(h:S[n]?=some (.lst (ns.map Nd.d)))(e:Xw (eqN 1) (ns.map Nd.d) v.d=some o.isSome)(hq:Q (.bl o.isSome) S):Xs (wIn 1 false) v.d (.ref n) S Q:=by
 rw[WS];unfold wIn;simp only[Z1 h rfl,Zu,e];exact hq
theorem Ik {v:Nd}{ns:List Nd}{n j:Nat}{to:TDE}{t:TDA}{dl:Ev}{S:Sto}{Q:DK}(hto:∀K:DK,K (.ref n) S->to dl S K)(ht:∀K:List D->Sto->Prop,K [v.d] S->t dl S K)(h:S[n]?=some (.lst (ns.map Nd.d)))(e:Vq (eqN 1) (ns.map Nd.d) v.d=some (some j))(hq:Q (.int (j:Int)) S):Jp 1 to t dl S Q:=by
 unfold Jp;refine hto _ ⟨by rw[Z1 h rfl];rfl,ht _ ?_⟩;unfold OC;simp only[Z1 h rfl,Zu,e];exact hq
theorem sort2 {ms:List Int}{x y:Int}(p:ms.Perm [x,y])(o:ms.Pairwise (·<=·)):ms=[min x y,max x y]:=by
 have hl:=p.length_eq
 match ms,hl,p,o with
 | [a,b],_,p,o=>
  have h1:=p.mem_iff (a:=a)
  have h2:=p.mem_iff (a:=b)
  have h3:=p.mem_iff (a:=x)
  have h4:=p.mem_iff (a:=y);simp only[zQ,yR,or_false,true_or,or_true,true_iff,iff_true] at h1 h2 h3 h4;have ab:a<=b:=by simpa using o
  have e1:a=min x y:=by lia
  have e2:b=max x y:=by lia
  rw[e1,e2]
theorem SK (x y:Int):(min x y=x\/min x y=y)/\min x y<=x/\min x y<=y:=⟨by rw[Int.min_def];split<;>simp,Int.min_le_left ..,Int.min_le_right ..⟩
theorem U8 (x y:Int):(max x y=x\/max x y=y)/\x<=max x y/\y<=max x y:=⟨by rw[Int.max_def];split<;>simp,Int.le_max_left ..,Int.le_max_right ..⟩
theorem sort4 (p:ms.Perm [a*c,a*d,b*c,b*d])(o:ms.Pairwise (·<=·)):∃x y,ms=[mn4 a b c d,x,y,mx4 a b c d]:=by
 have hl:=p.length_eq
 match ms,hl,p,o with
 | [s,t,u,v],_,p,o=>
  simp only[List.pairwise_cons,zQ,yR,or_false,forall_eq_or_imp,forall_eq,false_implies,implies_true,and_true,List.Pairwise.nil] at o;obtain⟨⟨o1,o2,o3⟩,⟨o4,o5⟩,o6⟩:=o;have hs:∀x∈[s,t,u,v],s<=x/\x<=v:=λx hx=>by
   simp only[zQ,yR,or_false] at hx;rcases hx with rfl|rfl|rfl|rfl
   ·exact⟨yH _,o3⟩
   ·exact⟨o1,o5⟩
   ·exact⟨o2,o6⟩
   ·exact⟨o3,yH _⟩
  have hb:∀x,x∈[a*c,a*d,b*c,b*d]->mn4 a b c d<=x/\x<=mx4 a b c d:=λx hx=>by
   simp only[zQ,yR,or_false] at hx;have n1:=SK (a*c) (a*d)
   have n2:=SK (b*c) (b*d)
   have n3:=SK (min (a*c) (a*d)) (min (b*c) (b*d))
   have x1:=U8 (a*c) (a*d)
   have x2:=U8 (b*c) (b*d)
   have x3:=U8 (max (a*c) (a*d)) (max (b*c) (b*d));rcases hx with rfl|rfl|rfl|rfl
   ·exact⟨yO n3.2.1 n1.2.1,yO x1.2.1 x3.2.1⟩
   ·exact⟨yO n3.2.1 n1.2.2,yO x1.2.2 x3.2.1⟩
   ·exact⟨yO n3.2.2 n2.2.1,yO x2.2.1 x3.2.2⟩
   ·exact⟨yO n3.2.2 n2.2.2,yO x2.2.2 x3.2.2⟩
  have mm:mn4 a b c d∈[a*c,a*d,b*c,b*d]:=by
   simp only[zQ,yR,or_false];rcases (SK (min (a*c) (a*d)) (min (b*c) (b*d))).1 with e|e
   ·rcases (SK (a*c) (a*d)).1 with f|f
    ·exact .inl (e.trans f)
    ·exact .inr (.inl (e.trans f))
   ·rcases (SK (b*c) (b*d)).1 with f|f
    ·exact .inr (.inr (.inl (e.trans f)))
    ·exact .inr (.inr (.inr (e.trans f)))
  have mx:mx4 a b c d∈[a*c,a*d,b*c,b*d]:=by
   simp only[zQ,yR,or_false];rcases (U8 (max (a*c) (a*d)) (max (b*c) (b*d))).1 with e|e
   ·rcases (U8 (a*c) (a*d)).1 with f|f
    ·exact .inl (e.trans f)
    ·exact .inr (.inl (e.trans f))
   ·rcases (U8 (b*c) (b*d)).1 with f|f
    ·exact .inr (.inr (.inl (e.trans f)))
    ·exact .inr (.inr (.inr (e.trans f)))
  have e1:s=mn4 a b c d:=Int.le_antisymm (hs _ (p.mem_iff.mpr mm)).1 (hb s (p.mem_iff.mp (xH ..))).1
  have e2:v=mx4 a b c d:=Int.le_antisymm (hb v (p.mem_iff.mp (by simp))).2 (hs _ (p.mem_iff.mpr mx)).2;exact⟨t,u,by rw[e1,e2]⟩
theorem Pa {caps:List Nat}{ta:TDA}{te:TDE}{dl:Ev}{S S1:Sto}{Q:DK}{n n':Nat}{xs ys:List D}(g:D->D->D)(hta:∀K:List D->Sto->Prop,K [.ref n,.ref n'] S1->ta dl S K)(h1:S1[n]?=some (.lst xs))(h2:S1[n']?=some (.lst ys))(hl:xs.length<=1000)
  (ht:∀(k:Nat)(x y:D),xs[k]?=some x->ys[k]?=some y->∀(S2:Sto)(K:DK),Pre S1 S2->K (g x y) S2->te (some x::some y::YQ caps dl) S2 K)(hq:Q (.ref S1.length) (S1++[.lst (List.zipWith g xs ys)])):U6 caps ta te dl S Q:=by
 unfold U6;refine hta _ ⟨⟨by rw[Z1 h1 rfl];rfl,by rw[Z1 h2 rfl];rfl⟩,λk m S2=>S2=S1++[.lst (List.zipWith g (xs.take k) (ys.take k))]/\m+k=min xs.length ys.length,⟨min xs.length ys.length,by simp,by lia⟩,?_⟩;rintro k m S2 ⟨rfl,hm⟩;rw[Z1 (WB h1) rfl,Z1 (WB h2) rfl];dsimp only[Zu];split
 ·rename_i x y hx hy;have hk:k<xs.length:=(zF.mp hx).1
  have hk':k<ys.length:=(zF.mp hy).1;unfold Np;refine ht k x y hx hy _ _ Pre.refl.push ?_;rw[Zv];refine⟨by simp;lia,m-1,by lia,?_,by lia⟩;have e:xs.take (k+1)=xs.take k++[x]:=by rw[xB,hx];rfl
  have e':ys.take (k+1)=ys.take k++[y]:=by rw[xB,hy];rfl
  rw[e,e',List.zipWith_append (by rw[zW,zW];lia),SJ];rfl
 ·rename_i no;have hk:min xs.length ys.length<=k:=by
   by_cases l:k<min xs.length ys.length
   ·exact absurd (zC (l:=ys) (i:=k) (by lia)) (no _ _ (zC (l:=xs) (i:=k) (by lia)))
   ·lia
  refine⟨by lia,?_⟩;have e:List.zipWith g (xs.take k) (ys.take k)=List.zipWith g xs ys:=by
   rw[<- List.take_zipWith,yB (by rw[List.length_zipWith];exact hk)]
  rw[e];exact hq
def insB (p q:Int×Int):Bool:=decide (q.1<=p.1)&&decide (p.2<=q.2)
def UN (us vs:LI):Bool:=(List.zipWith insB us vs).all id
theorem DX (h:∀i:Int,inR k i->gt vs i=gt us i):∀v:Nd,v.ok k q->v.fw vs bs g=v.fw us bs g
 | .number _ _,_=>rfl
 | .unknown _,_=>rfl
 | .plus i j,ok=>by simp only[Nd.fw,h i ok.1,h j ok.2]
 | .minus i j,ok=>by simp only[Nd.fw,h i ok.1,h j ok.2]
 | .times i j,ok=>by simp only[Nd.fw,h i ok.1,h j ok.2]
 | .power i n,ok=>by simp only[Nd.fw,h i ok.1]
theorem zb7 {vs us:LI}{k:Nat}{i:Int}(h:inR k i)(hk:k<=vs.length):gt (vs++us) i=gt vs i:=by
 have:=h.1
 have:=h.2;unfold gt;rw[zK,zK,zV (by lia)]
theorem X4 {vs:LI}{k:Nat}{p:Int×Int}(h:vs[k]?=some p):gt vs (k:Int)=p:=by
 unfold gt;rw[zK,zJ,h];rfl
theorem Sz.pow' (h:Sz n i)(hk:1<=k):Sz (n*k) (i^k):=by
 unfold Sz at *
 rw[Int.natAbs_pow,Nat.pow_mul];exact Nat.pow_lt_pow_left h (by lia)
theorem SzW.spn (h:SzW ws vs)(hw:∀k:Nat,k<vs.length->ws.getD k 0<=16):Spn 1000 vs:=Spn.of_w h hw
theorem SzW.snoc {ws:List Nat}{vs:LI}{p:Int×Int}(h:SzW ws vs)(h1:p.1<=p.2)(h2:Sz (60*ws.getD vs.length 0-1) p.1)(h3:Sz (60*ws.getD vs.length 0-1) p.2):SzW ws (vs++[p]):=λk q hq=>by
 by_cases hk:k<vs.length
 ·rw[zV hk] at hq;exact h k q hq
 ·have hl:=(zF.mp hq).1;simp only[zO,zY,xC] at hl;have ek:k=vs.length:=by lia
  subst ek;simp at hq;subst hq;exact⟨h1,h2,h3⟩
theorem GK {caps:List Nat}{tl te:TDE}{dl:Ev}{S S1:Sto}{Q:DK}{n:Nat}{o:Ob}(W:Nat->List D->Sto->Prop)(htl:∀K:DK,K (.ref n) S1->tl dl S K)(h1:S1[n]?=some o)(hw:∀k ys S2,W k ys S2->S2[n]?=some o/\S2[S1.length]?=some (.lst ys)/\ys.length=k)(hl:(Zu o).length<=1000)(h0:W 0 [] (S1++[.lst []]))
  (ht:∀(k:Nat)(x:D)(ys:List D)(S2:Sto)(K:DK),(Zu o)[k]?=some x->W k ys S2->(∀y S3,S3[S1.length]?=some (.lst ys)->W (k+1) (ys++[y]) (S3.set S1.length (.lst (ys++[y])))->K y S3)->te (some x::YQ caps dl) S2 K)
  (hq:∀ys S2,W (Zu o).length ys S2->Q (.ref S1.length) S2)(hL:Xj o=some o:=by rfl):XY caps tl Xx te dl S Q:=by
 unfold XY;refine htl _ ⟨by rw[Z1 h1 hL];rfl,λk m S2=>(∃ys,W k ys S2)/\m+k=(Zu o).length,⟨(Zu o).length,⟨_,h0⟩,by lia⟩,?_⟩;rintro k m S2 ⟨⟨ys,w⟩,hm⟩;obtain⟨w1,w2,w3⟩:=hw _ _ _ w;rw[Z1 w1 hL];dsimp only;split
 ·rename_i x hx;have hk:k<(Zu o).length:=(zF.mp hx).1;unfold Vd Xx;simp only[if_true];refine ht k x ys S2 _ hx w λy S3 e3 w4=>?_
  rw[e3];exact⟨by lia,m-1,by lia,⟨_,w4⟩,by lia⟩
 ·rename_i hx;have hk:k=(Zu o).length:=by
   have:=yX.mp hx;lia
  exact hq ys S2 (hk ▸ w)
theorem za8 {caps:List Nat}{ta:TDA}{te:TDE}{dl:Ev}{S S1:Sto}{Q:DK}{j:Int}(W:Nat->List D->Sto->Prop)(hta:∀K:List D->Sto->Prop,K [.int j] S1->ta dl S K)(hj:0<=j/\j<=1000)(hw:∀k ys S2,W k ys S2->S2[S1.length]?=some (.lst ys)/\ys.length=k)(h0:W 0 [] (S1++[.lst []]))
  (ht:∀(k:Nat)(ys:List D)(S2:Sto)(K:DK),k<j.toNat->W k ys S2->(∀y S3,S3[S1.length]?=some (.lst ys)->W (k+1) (ys++[y]) (S3.set S1.length (.lst (ys++[y])))->K y S3)->te (some (.int (k:Int))::YQ caps dl) S2 K)
  (hq:∀ys S2,W j.toNat ys S2->Q (.ref S1.length) S2):WE caps ta Xx te dl S Q:=by
 unfold WE;refine hta _ ⟨⟨by lia,by lia⟩,λk S2=>k<=j.toNat/\∃ys,W k ys S2,⟨zL _,_,h0⟩,?_⟩;rintro k S2 ⟨hk,ys,w⟩;obtain⟨w2,w3⟩:=hw _ _ _ w;split
 ·rename_i c;unfold Vd Xx;simp only[if_true];refine ht k ys S2 _ c w λy S3 e3 w4=>?_
  rw[e3];exact⟨by lia,by lia,_,w4⟩
 ·rename_i c;have hk:k=j.toNat:=by lia
  exact hq ys S2 (hk ▸ w)
theorem D7 (h:Pre S T)(hn:S.length<=n):Pre S (T.set n o):=λk u e=>by
 have l:=(zF.mp e).1;rw[yM (by lia)];exact h k u e
theorem VZ (h:Pre S T):S.length<=T.length:=by
 rcases Nat.eq_zero_or_pos S.length with e|e
 ·lia
 ·have z:=h (S.length-1) _ (zC (show S.length-1<S.length by lia))
  have:=(zF.mp z).1;lia
theorem W6 {to te:TDE}{dl:Ev}{S:Sto}{Q:DK}{n:Nat}{xs:List D}(hto:∀K:DK,K (.ref n) S->to dl S K)(h:S[n]?=some (.lst xs))(hte:∀K:DK,(∀(y:D)(S2:Sto),S2[n]?=some (.lst xs)->Q .non (S2.set n (.lst (xs++[y])))->K y S2)->te dl S K)(hl:xs.length<1000):Ub to te dl S Q:=by
 unfold Ub;refine hto _ ?_;simp only[h];refine hte _ λy S2 h2 q=>?_
 simp only[h2,if_pos hl];exact q
def Z2 (S:Sto)(lo:Nat)(ds:List D)(R:List LI):Prop:=ds.length=R.length/\∀(k:Nat)(d:D)(r:LI),ds[k]?=some d->R[k]?=some r->∃a,d=.ref a/\lo<=a/\S[a]?=some (.lst (r.map frD))
theorem Z2.nil {S:Sto}{lo:Nat}:Z2 S lo [] []:=⟨rfl,λk d r h=>by simp at h⟩
theorem Z2.pre {S T:Sto}{lo:Nat}{ds:List D}{R:List LI}(h:Z2 S lo ds R)(p:Pre S T):Z2 T lo ds R:=⟨h.1,λk d r hd hr=>by
 obtain⟨a,e,l,s⟩:=h.2 k d r hd hr;exact⟨a,e,l,p _ _ s⟩⟩
theorem Z2.low {S:Sto}{lo lo':Nat}{ds:List D}{R:List LI}(h:Z2 S lo ds R)(l:lo'<=lo):Z2 S lo' ds R:=⟨h.1,λk d r hd hr=>by
 obtain⟨a,e,l,s⟩:=h.2 k d r hd hr;exact⟨a,e,by lia,s⟩⟩
theorem Z2.keep {S T:Sto}{lo:Nat}{ds:List D}{R:List LI}(h:Z2 S lo ds R)(p:∀(x:Nat)(o:Ob),lo<=x->S[x]?=some o->T[x]?=some o):Z2 T lo ds R:=⟨h.1,λk d r hd hr=>by
 obtain⟨a,e,l,s⟩:=h.2 k d r hd hr;exact⟨a,e,l,p _ _ l s⟩⟩
theorem Z2.at {S:Sto}{lo:Nat}{ds:List D}{R:List LI}(h:Z2 S lo ds R){i:Int}(hi:inR R.length i):∃a,atI ds i=some (.ref a)/\lo<=a/\S[a]?=some (.lst ((R.getD i.toNat []).map frD)):=by
 obtain⟨h0,h1⟩:=hi;have hk:i.toNat<R.length:=by lia
 have hk':i.toNat<ds.length:=by rw[h.1];exact hk
 obtain⟨a,e,l,s⟩:=h.2 i.toNat _ _ (zC hk') (zC hk);refine⟨a,?_,l,?_⟩
 ·have z:=X2 (xs:=ds) (j:=i.toNat) (v:=.ref a) (by rw[zC hk',e]);rw[show ((i.toNat:Nat):Int)=i by lia] at z;exact z
 ·rw[s];simp[hk]
theorem Z2.snoc {S:Sto}{lo:Nat}{ds:List D}{R:List LI}{a:Nat}{r:LI}(h:Z2 S lo ds R)(hl:lo<=a)(hs:S[a]?=some (.lst (r.map frD))):Z2 S lo (ds++[.ref a]) (R++[r]):=⟨by rw[zO,zO,h.1];rfl,λk d r' hd hr=>by
 by_cases hk:k<ds.length
 ·rw[zV hk] at hd;rw[zV (by rw[<- h.1];exact hk)] at hr;exact h.2 k d r' hd hr
 ·have l:=(zF.mp hd).1;simp only[zO,zY,xC] at l;have ek:k=ds.length:=by lia
  subst ek;rw[yI (zD _),xJ] at hd;rw[h.1,yI (zD _),xJ] at hr;cases hd;cases hr;exact⟨a,rfl,hl,hs⟩⟩
abbrev gs (sl:List LI)(i:Int)(l:Nat):Int×Int:=(sl.getD i.toNat []).getD l (0,0)
def Yy (p q:Int×Int)(g:Int):Int×Int:=(mn4 p.1 p.2 q.1 q.2/g,-(-mx4 p.1 p.2 q.1 q.2/g))
def Y6 (p:Int×Int)(n g:Int):Int×Int:=(Yk p.1 p.2 (n-1).toNat/g^((n-1).toNat-1)*n,-(-Y8 p.1 p.2 (n-1).toNat/g^((n-1).toNat-1))*n)
def Nd.sl (vs:LI)(sl:List LI)(g:Int)(l:Nat):Nd->Int×Int
 | .number _ _=>(0,0)
 | .unknown k=>if (l:Int)=k then (g,g) else (0,0)
 | .plus i j=>((gs sl i l).1+(gs sl j l).1,(gs sl i l).2+(gs sl j l).2)
 | .minus i j=>((gs sl i l).1-(gs sl j l).2,(gs sl i l).2-(gs sl j l).1)
 | .times i j=>((Yy (gt vs i) (gs sl j l) g).1+(Yy (gt vs j) (gs sl i l) g).1,(Yy (gt vs i) (gs sl j l) g).2+(Yy (gt vs j) (gs sl i l) g).2)
 | .power i n=>Yy (Y6 (gt vs i) n g) (gs sl i l) g
def Ys (vs:LI)(sl:List LI)(g:Int)(q:Nat)(v:Nd):LI:=(List.range q).map λl=>v.sl vs sl g l
theorem zdS {vs:LI}{sl:List LI}{g:Int}{q:Nat}{v:Nd}:(Ys vs sl g q v).length=q:=by simp[Ys]
theorem zbN (f:Int×Int->α)(r:LI)(h:r.length=q):r.map f=(List.range q).map λl=>f (r.getD l (0,0)):=by
 subst h;refine xW λk=>?_
 by_cases hk:k<r.length
 ·rw[zG,zG,xV hk,zC hk];simp[hk]
 ·rw[yT (by simpa using hk),yT (by simpa using hk)]
theorem F5 (f:Int×Int->Int×Int->α)(r s:LI)(h:r.length=q)(h':s.length=q):List.zipWith f r s=(List.range q).map λl=>f (r.getD l (0,0)) (s.getD l (0,0)):=by
 subst h;refine xW λk=>?_
 by_cases hk:k<r.length
 ·rw[List.getElem?_zipWith,zG,xV hk,zC hk,zC (show k<s.length by lia)];simp[hk,show k<s.length by lia]
 ·rw[yT (by rw[List.length_zipWith];lia),yT (by simpa using hk)]
theorem Bt (x:D)(q:Nat):(List.replicate q [x]).flatten=(List.range q).map λ_=>x:=by
 refine xW λk=>?_
 have l:(List.replicate q [x]).flatten=List.replicate q x:=by
  induction q with
  | zero=>rfl
  | succ q ih=>rw[xM,xR,ih];rfl
 rw[l];by_cases hk:k<q
 ·rw[zG,xV hk,List.getElem?_replicate,if_pos hk];rfl
 ·rw[yT (by simpa using hk),yT (by simpa using hk)]
theorem zdR (h:p.1<=p.2)(g:Int):Y6 p 2 g=(p.1*2,p.2*2):=by
 have e1:Yk p.1 p.2 (2-1:Int).toNat=p.1:=by
  unfold Yk;rw[if_neg (by intro z;exact absurd z.1 (by decide))];show min (p.1^1) (p.2^1)=p.1;rw[Int.pow_one,Int.pow_one];lia
 have e2:Y8 p.1 p.2 (2-1:Int).toNat=p.2:=by
  unfold Y8;show max (p.1^1) (p.2^1)=p.2;rw[Int.pow_one,Int.pow_one];lia
 unfold Y6;rw[e1,e2];show (p.1/g^0*2,-(-p.2/g^0)*2)=_;rw[xU,Int.ediv_one,Int.ediv_one,Int.neg_neg]
theorem KQ (p q:Int×Int)(hg:1<=g):(Yy p q g).1<=(Yy p q g).2:=SN hg (HM _ _ _ _)
theorem zcA (p:Int×Int)(hn:0<=n)(hg:1<=g):(Y6 p n g).1<=(Y6 p n g).2:=Int.mul_le_mul_of_nonneg_right (SN (yS (by lia)) (J7 _ _ _)) hn
def ZT (vs:LI)(g:Int)(q:Nat)(ns:List Nd):List LI:=ns.foldl (λacc v=>acc++[Ys vs acc g q v]) []
theorem LR (vs:LI)(g:Int)(q:Nat)(ns:List Nd)(v:Nd):ZT vs g q (ns++[v])=ZT vs g q ns++[Ys vs (ZT vs g q ns) g q v]:=by
 unfold ZT;rw[List.foldl_append];rfl
theorem VU (vs:LI)(g:Int)(q:Nat)(ns:List Nd):(ZT vs g q ns).length=ns.length:=by
 have z:∀k,k<=ns.length->(ZT vs g q (ns.take k)).length=k:=λk=>by
  induction k with
  | zero=>intro _;rfl
  | succ k ih=>
   intro hk;rw[XH (zC (show k<ns.length by lia)),LR];simp[ih (by lia)]
 have:=z ns.length (zD _)
 rwa [yE] at this
def SlW (q:Nat)(ws:List Nat)(sl:List LI):Prop:=∀(k:Nat)(r:LI),sl[k]?=some r->r.length=q/\∀p∈r,p.1<=p.2/\Sz (64*ws.getD k 0-1) p.1/\Sz (64*ws.getD k 0-1) p.2
theorem SlW.at {q:Nat}{ws:List Nat}{sl:List LI}(h:SlW q ws sl){i:Int}(hi:inR sl.length i):(sl.getD i.toNat []).length=q/\∀l,l<q->(gs sl i l).1<=(gs sl i l).2/\Sz (64*ws.getD i.toNat 0-1) (gs sl i l).1/\Sz (64*ws.getD i.toNat 0-1) (gs sl i l).2:=by
 obtain⟨h0,h1⟩:=hi;have hk:i.toNat<sl.length:=by lia
 obtain⟨a,b⟩:=h i.toNat _ (zC hk);have e:sl.getD i.toNat []=sl[i.toNat]:=by simp[hk]
 refine⟨by rw[e];exact a,λl hl=>?_⟩;have e2:gs sl i l=sl[i.toNat][l]'(by rw[a];exact hl):=by
  unfold gs;rw[e];simp[show l<sl[i.toNat].length by rw[a];exact hl]
 rw[e2];exact b _ (zZ _)
theorem SlW.snoc {q:Nat}{ws:List Nat}{sl:List LI}{r:LI}(h:SlW q ws sl)(hr:r.length=q)(hp:∀p∈r,p.1<=p.2/\Sz (64*ws.getD sl.length 0-1) p.1/\Sz (64*ws.getD sl.length 0-1) p.2):SlW q ws (sl++[r]):=λk u hu=>by
 by_cases hk:k<sl.length
 ·rw[zV hk] at hu;exact h k u hu
 ·have l:=(zF.mp hu).1;simp only[zO,zY,xC] at l;have ek:k=sl.length:=by lia
  subst ek;rw[yI (zD _),xJ] at hu;cases hu;exact⟨hr,hp⟩
theorem KC (hg:1<=g)(h1:Sz m p.1)(h2:Sz m p.2)(h3:Sz n q.1)(h4:Sz n q.2):Sz (m+n) (Yy p q g).1/\Sz (m+n) (Yy p q g).2:=
 ⟨(Vb (Vb (h1.mul h3) (h1.mul h4)) (Vb (h2.mul h3) (h2.mul h4))).div hg,VX (WZ (WZ (h1.mul h3) (h1.mul h4)) (WZ (h2.mul h3) (h2.mul h4))) hg⟩
theorem za4:∀n:Nat,2<=n->n<=6->n<=2^(n-1):=λn h1 h2=>by
 have:n=2\/n=3\/n=4\/n=5\/n=6:=by lia
 rcases this with rfl|rfl|rfl|rfl|rfl<;>decide
theorem MU (h:Sz m x)(hn:n.natAbs<=2^e)(hp:1<=n.natAbs):Sz (m+e) (x*n):=by
 unfold Sz at *
 rw[Nat.pow_add,Int.natAbs_mul];exact Nat.mul_lt_mul_of_lt_of_le h hn (yJ (by decide))
theorem Eu (hg:1<=g)(n2:2<=n)(n6:n<=6)(h1:Sz m p.1)(h2:Sz m p.2):Sz (m*(n.toNat-1)+(n.toNat-1)) (Y6 p n g).1/\Sz (m*(n.toNat-1)+(n.toNat-1)) (Y6 p n g).2:=by
 have en:(n-1).toNat=n.toNat-1:=by lia
 have gp:(1:Int)<=g^((n-1).toNat-1):=yS (by lia)
 have p1:Sz (m*(n.toNat-1)) (p.1^(n-1).toNat):=by rw[en];exact Sz.pow' h1 (by lia)
 have p2:Sz (m*(n.toNat-1)) (p.2^(n-1).toNat):=by rw[en];exact Sz.pow' h2 (by lia)
 have lo:Sz (m*(n.toNat-1)) (Yk p.1 p.2 (n-1).toNat):=by
  unfold Yk;split
  ·show (0:Int).natAbs<_;exact yJ (by decide)
  ·exact Vb p1 p2
 have nb:n.natAbs<=2^(n.toNat-1):=by
  have:=za4 n.toNat (by lia) (by lia);lia
 exact⟨MU (lo.div gp) nb (by lia),MU (VX (WZ p1 p2) gp) nb (by lia)⟩
theorem sl_ok {q:Nat}{ws:List Nat}{vs:LI}{sl:List LI}{g:Int}(hs:SzW ws vs)(hl:SlW q ws sl)(hg:1<=g/\g<=1000000)(hv:sl.length<=vs.length)(hw:∀i:Int,inR vs.length i->1<=ws.getD i.toNat 0){l:Nat}(hq:l<q):∀v:Nd,v.ok sl.length q->1<=v.wt ws->(v.sl vs sl g l).1<=(v.sl vs sl g l).2/\Sz (64*v.wt ws-2) (v.sl vs sl g l).1/\Sz (64*v.wt ws-2) (v.sl vs sl g l).2
 | .number t b,ok,h1=>⟨yH _,by show Sz _ 0;exact yJ (by decide),by show Sz _ 0;exact yJ (by decide)⟩
 | .unknown k,ok,h1=>by
  have sg:Sz (64*Nd.wt ws (.unknown k)-2) g:=(Sz.of (n:=21) (10^6) (show g.natAbs<=_ by lia)).mono (by show 21<=64*1-2;decide)
  show (if (l:Int)=k then (g,g) else (0,0)).1<=(if (l:Int)=k then (g,g) else (0,0)).2/\Sz _ (if (l:Int)=k then (g,g) else (0,0)).1/\Sz _ (if (l:Int)=k then (g,g) else (0,0)).2;split
  ·exact⟨yH _,sg,sg⟩
  ·exact⟨yH _,yJ (by decide),yJ (by decide)⟩
 | .plus i j,ok,h1=>by
  have a:=(hl.at ok.1).2 l hq
  have b:=(hl.at ok.2).2 l hq
  have p:=hw i ⟨ok.1.1,by have:=ok.1.2;lia⟩
  have q:=hw j ⟨ok.2.1,by have:=ok.2.2;lia⟩;refine⟨?_,(a.2.1.add b.2.1).mono (by simp only[Nd.wt];lia),(a.2.2.add b.2.2).mono (by simp only[Nd.wt];lia)⟩;show (gs sl i l).1+(gs sl j l).1<=(gs sl i l).2+(gs sl j l).2;lia
 | .minus i j,ok,h1=>by
  have a:=(hl.at ok.1).2 l hq
  have b:=(hl.at ok.2).2 l hq
  have p:=hw i ⟨ok.1.1,by have:=ok.1.2;lia⟩
  have q:=hw j ⟨ok.2.1,by have:=ok.2.2;lia⟩;refine⟨?_,(a.2.1.sub b.2.2).mono (by simp only[Nd.wt];lia),(a.2.2.sub b.2.1).mono (by simp only[Nd.wt];lia)⟩;show (gs sl i l).1-(gs sl j l).2<=(gs sl i l).2-(gs sl j l).1;lia
 | .times i j,ok,h1=>by
  have oi:inR vs.length i:=⟨ok.1.1,by have:=ok.1.2;lia⟩
  have oj:inR vs.length j:=⟨ok.2.1,by have:=ok.2.2;lia⟩
  have a:=(hl.at ok.1).2 l hq
  have b:=(hl.at ok.2).2 l hq
  have c:=hs.at oi
  have d:=hs.at oj
  have p:=hw i oi
  have q:=hw j oj
  have z1:=KC hg.1 c.2.1 c.2.2 b.2.1 b.2.2
  have z2:=KC hg.1 d.2.1 d.2.2 a.2.1 a.2.2;refine⟨?_,(z1.1.add z2.1).mono (by simp only[Nd.wt];lia),(z1.2.add z2.2).mono (by simp only[Nd.wt];lia)⟩;have m1:=KQ (gt vs i) (gs sl j l) hg.1
  have m2:=KQ (gt vs j) (gs sl i l) hg.1
  show (Yy (gt vs i) (gs sl j l) g).1+(Yy (gt vs j) (gs sl i l) g).1<=(Yy (gt vs i) (gs sl j l) g).2+(Yy (gt vs j) (gs sl i l) g).2;lia
 | .power i n,ok,h1=>by
  have oi:inR vs.length i:=⟨ok.1.1,by have:=ok.1.2;lia⟩
  have a:=(hl.at ok.1).2 l hq
  have c:=hs.at oi
  have p:=hw i oi
  have n2:=ok.2.1
  have f:=Eu hg.1 ok.2.1 ok.2.2 c.2.1 c.2.2
  have z:=KC hg.1 f.1 f.2 a.2.1 a.2.2
  have hn:(60*ws.getD i.toNat 0-1)*(n.toNat-1)+(n.toNat-1)+(64*ws.getD i.toNat 0-1)<=64*Nd.wt ws (.power i n)-2:=by
   simp only[Nd.wt];generalize ws.getD i.toNat 0=w at p;obtain⟨k,hk⟩:∃k,n.toNat=k+2:=⟨n.toNat-2,by lia⟩;rw[hk,show k+2-1=k+1 by lia,Nat.sub_mul,Nat.one_mul];have e1:60*w*(k+1)=60*(k*w)+60*w:=by rw[Nat.mul_add,Nat.mul_one,Nat.mul_assoc,Nat.mul_comm w k]
   have e2:(k+2)*w=k*w+2*w:=Nat.add_mul ..
   have e3:k+1<=60*w*(k+1):=Nat.le_mul_of_pos_left _ (by lia);rw[e2];lia
  exact⟨KQ _ _ hg.1,z.1.mono hn,z.2.mono hn⟩
theorem Od {q:Nat}{ns:List Nd}{ws:List Nat}{vs:LI}{g:Int}(h:ZS q ns ws)(hs:SzW ws vs)(hv:vs.length=ns.length)(hg:1<=g/\g<=1000000):∀k,k<=ns.length->SlW q ws (ZT vs g q (ns.take k)):=λk=>by
 induction k with
 | zero=>intro _ i p hp;simp[ZT] at hp
 | succ k ih=>
  intro hk;have hv':=zC (show k<ns.length by lia)
  have s:=ih (by lia)
  have ln:(ZT vs g q (ns.take k)).length=k:=by rw[VU,zW];lia
  obtain⟨ok,e,p1,_⟩:=h.ok k _ hv';rw[XH hv',LR];refine s.snoc zdS λp hp=>?_
  obtain⟨l,hl,rfl⟩:=zH.mp hp;have z:=sl_ok hs s hg (by lia) (λi hi=>(h.w1 (by rw[<- hv];exact hi)).1) (xG.mp hl) ns[k] (by rw[ln];exact ok) p1;rw[ln,e];exact⟨z.1,z.2.1.mono (by lia),z.2.2.mono (by lia)⟩
theorem I0 {q:Int}{ns:List Nd}{ws:List Nat}{bs:LI}{g:Int}(h:ZS q ns ws)(hq:q=bs.length)(hb:Spn 51 bs)(hg:1<=g/\g<=1000000):SzW ws (Zo bs g ns):=by
 have z:=PH h hq hb hg ns.length (zD _)
 rwa [yE] at z
theorem SlW.spn (h:SlW q ws sl)(hw:∀k:Nat,k<sl.length->ws.getD k 0<=16):∀i:Int,inR sl.length i->(sl.getD i.toNat []).length=q/\∀l,l<q->(gs sl i l).1<=(gs sl i l).2/\Sz 1100 (gs sl i l).1/\Sz 1100 (gs sl i l).2:=λi hi=>by
 obtain⟨a,b⟩:=h.at hi;refine⟨a,λl hl=>?_⟩;obtain⟨c,d,e⟩:=b l hl;have:=hw i.toNat (by have:=hi.1;have:=hi.2;lia);exact⟨c,d.mono (by lia),e.mono (by lia)⟩
theorem Qy {caps:List Nat}{ta:TDA}{te:TDE}{dl:Ev}{S S1:Sto}{Q:DK}{n:Nat}{xs:List D}(g:Nat->D->D)(hta:∀K:List D->Sto->Prop,K [.ref n] S1->ta dl S K)(h1:S1[n]?=some (.lst xs))(hl:xs.length<=1000)
  (ht:∀(k:Nat)(x:D),xs[k]?=some x->∀(S2:Sto)(K:DK),Pre S1 S2->K (g k x) S2->te (some (.int (k:Int))::some x::YQ caps dl) S2 K)(hq:Q (.ref S1.length) (S1++[.lst (xs.mapIdx g)])):RK caps ta te dl S Q:=by
 unfold RK;refine hta _ ⟨by rw[Z1 h1 rfl];rfl,λk m S2=>S2=S1++[.lst ((xs.take k).mapIdx g)]/\m+k=xs.length,⟨xs.length,by simp,by lia⟩,?_⟩;rintro k m S2 ⟨rfl,hm⟩;rw[Z1 (WB h1) rfl];dsimp only[Zu];split
 ·rename_i x hx;have hk:k<xs.length:=(zF.mp hx).1;unfold Np;refine ht k x hx _ _ Pre.refl.push ?_;rw[Zv];refine⟨by simp;lia,m-1,by lia,?_,by lia⟩;have e:xs.take (k+1)=xs.take k++[x]:=by rw[xB,hx];rfl
  rw[e,List.mapIdx_append,List.set_append_right _ _ (zD _)];have l:(xs.take k).length=k:=by rw[zW];lia
  simp[l]
 ·rename_i hx;have hk:xs.length<=k:=yX.mp hx;refine⟨by lia,?_⟩;rw[yB hk];exact hq
def mid (p:Int×Int):Int:=(p.1+p.2)/2
def ZF (p:Int×Int):Int×Int:=(mid p,mid p)
def YY (p q:Int×Int):Int×Int:=(p.1+q.1,p.2+q.2)
def Yu (p q:Int×Int):Int×Int:=(p.1-q.2,p.2-q.1)
def sumP (g:Int)(us vs:LI):Int×Int:=(List.zip us vs).foldl (λt z=>YY t (Yy z.1 z.2 g)) (0,0)
def rwD (r:Bool×Nat):D:=.tup [.str (if r.1 then "zero" else "least"),.int (r.2:Int)]
def eqs (rows:List (Bool×Nat)):List Nat:=rows.filterMap λr=>if r.1 then some r.2 else none
theorem LX {caps:List Nat}{tl te:TDE}{tc:TDT}{dl:Ev}{S S1:Sto}{Q:DK}{n:Nat}{o:Ob}(f:D->Option D)(htl:∀K:DK,K (.ref n) S1->tl dl S K)(h1:S1[n]?=some o)(hl:(Zu o).length<=1000)
  (hc:∀x∈Zu o,∀(S2:Sto)(K:Bool->Sto->Prop),Pre S1 S2->K (f x).isSome S2->tc (some x::YQ caps dl) S2 K)(ht:∀x∈Zu o,∀y,f x=some y->∀(S2:Sto)(K:DK),Pre S1 S2->K y S2->te (some x::YQ caps dl) S2 K)(hq:Q (.ref S1.length) (S1++[.lst ((Zu o).filterMap f)]))(hL:Xj o=some o:=by rfl):XY caps tl tc te dl S Q:=by
 unfold XY;refine htl _ ⟨by rw[Z1 h1 hL];rfl,λk m S2=>S2=S1++[.lst (((Zu o).take k).filterMap f)]/\m+k=(Zu o).length,⟨(Zu o).length,by simp,by lia⟩,?_⟩;rintro k m S2 ⟨rfl,hm⟩;rw[Z1 (WB h1) hL];dsimp only;split
 ·rename_i x hx;have hk:k<(Zu o).length:=(zF.mp hx).1
  have e:(Zu o).take (k+1)=(Zu o).take k++[x]:=by rw[xB,hx];rfl
  unfold Vd;refine hc x (zN hx) _ _ Pre.refl.push ?_;cases ef:f x with
  | none=>
   refine YF ?_;refine⟨m-1,by lia,?_,by lia⟩;rw[e,List.filterMap_append];simp[ef]
  | some y=>
   refine Xf ?_;refine ht x (zN hx) y ef _ _ Pre.refl.push ?_;rw[Zv];have ll:=List.length_filterMap_le f ((Zu o).take k);refine⟨by rw[zW] at ll;lia,m-1,by lia,?_,by lia⟩;rw[e,List.filterMap_append,SJ];simp[ef]
 ·rename_i hx;have hk:(Zu o).length<=k:=yX.mp hx;rw[yB hk];exact hq
def YI (g:Int)(k c:Nat)(ts:LI)(R:List LI):Int×Int:=Yu (if k=c then (g,g) else (0,0)) (sumP g ts (R.map λr=>r.getD c (0,0)))
def YW (g:Int)(box:LI)(aC:LI)(R:List LI)(k:Nat)(es:List Int):Int×Int:=
 YY (Yu (ZF (gt box k)) (sumP g (es.map λe=>(e,e)) aC)) (sumP g ((List.range box.length).map λc=>YI g k c (es.map λe=>(e,e)) R) (box.map λp=>Yu p (ZF p)))
theorem UI (g:Int)(us vs:LI)(k:Nat){u v:Int×Int}(hu:us[k]?=some u)(hv:vs[k]?=some v):sumP g (us.take (k+1)) (vs.take (k+1))=YY (sumP g (us.take k) (vs.take k)) (Yy u v g):=by
 unfold sumP;have l1:=(zF.mp hu).1
 have l2:=(zF.mp hv).1;rw[XH hu,XH hv,List.zip_append (by rw[zW,zW];lia),List.foldl_append];rfl
theorem Hx (g:Int)(us vs:LI):sumP g (us.take (min us.length vs.length)) (vs.take (min us.length vs.length))=sumP g us vs:=by
 unfold sumP;congr 1;show List.zipWith Prod.mk _ _=List.zipWith Prod.mk _ _;rw[<- List.take_zipWith,yB (by rw[List.length_zipWith];exact zD _)]
def Bd (B:Nat)(vs:LI):Prop:=∀p∈vs,Sz B p.1/\Sz B p.2
theorem Io (hg:1<=g)(h1:Bd A us)(h2:Bd B vs):∀k:Nat,k<=us.length->k<=vs.length->Sz (A+B+k+1) (sumP g (us.take k) (vs.take k)).1/\Sz (A+B+k+1) (sumP g (us.take k) (vs.take k)).2
 | 0,_,_=>⟨yJ (by decide),yJ (by decide)⟩
 | k+1,l1,l2=>by
  have hu:=zC (show k<us.length by lia)
  have hv:=zC (show k<vs.length by lia);rw[UI g us vs k hu hv];have ih:=Io hg h1 h2 k (by lia) (by lia)
  have a:=h1 _ (zN hu)
  have b:=h2 _ (zN hv)
  have m:=KC hg a.1 a.2 b.1 b.2;exact⟨(ih.1.add m.1).mono (by lia),(ih.2.add m.2).mono (by lia)⟩
theorem zcL (hg:1<=g)(h1:Bd A us)(h2:Bd B vs)(l:us.length<=60):Sz (A+B+61) (sumP g us vs).1/\Sz (A+B+61) (sumP g us vs).2:=by
 rw[<- Hx];have z:=Io hg h1 h2 (min us.length vs.length) (by lia) (by lia);exact⟨z.1.mono (by lia),z.2.mono (by lia)⟩
theorem CW {is:List Nat}{ta:TDA}{tb:TDS}{E:WL}{dl:Ev}{S:Sto}{n n':Nat}{xs ys:List D}(W:Nat->Ev->Prop)(hta:∀K:List D->Sto->Prop,K [.ref n,.ref n'] S->ta dl S K)(h1:S[n]?=some (.lst xs))(h2:S[n']?=some (.lst ys))(h0:W 0 dl)
  (hb:∀(k:Nat)(x y:D)(dl':Ev)(nx ct:Ev->Sto->Prop),xs[k]?=some x->ys[k]?=some y->W k dl'->(∀dl2,W (k+1) dl2->nx dl2 S)->tb { nx:=nx,rt:=E.rt,bk:=E.nx,ct:=ct } (Rt is [x,y] dl') S)(he:∀dl',W (min xs.length ys.length) dl'->E.nx dl' S):Jk is ta tb E dl S:=by
 unfold Jk;refine hta _ ⟨⟨by rw[Z1 h1 rfl];rfl,by rw[Z1 h2 rfl];rfl⟩,λk m dl' S'=>S'=S/\W k dl'/\k+m=min xs.length ys.length,⟨min xs.length ys.length,rfl,h0,by simp⟩,?_⟩;rintro k m dl' S' ⟨rfl,w,hk⟩;simp only[Z1 h1 rfl,Z1 h2 rfl,Zu];split
 ·rename_i x y e1 e2;have l1:=(zF.mp e1).1
  have l2:=(zF.mp e2).1;exact hb k x y dl' _ _ e1 e2 w (λdl2 w2=>⟨m-1,by lia,rfl,w2,by lia⟩)
 ·rename_i no;have ek:k=min xs.length ys.length:=by
   by_cases l:k<min xs.length ys.length
   ·exact absurd (zC (l:=ys) (i:=k) (by lia)) (no _ _ (zC (l:=xs) (i:=k) (by lia)))
   ·lia
  exact⟨ek,he _ (ek ▸ w)⟩
theorem Ej {B:Nat}{p:Int×Int}(h1:Sz B p.1)(h2:Sz B p.2):Sz (B+1) (mid p):=(h1.add h2).div (by decide) |>.mono (by lia)
theorem Cm (hp:Sz B p.1/\Sz B p.2)(hq:Sz C q.1/\Sz C q.2):Sz (max B C+1) (Yu p q).1/\Sz (max B C+1) (Yu p q).2:=⟨hp.1.sub hq.2,hp.2.sub hq.1⟩
def YG (S:Sto)(ds:List D)(M:List (List Int)):Prop:=ds.length=M.length/\∀(k:Nat)(d:D)(r:List Int),ds[k]?=some d->M[k]?=some r->∃a,d=.ref a/\S[a]?=some (.lst (r.map D.int))
theorem YG.pre (h:YG S ds M)(p:Pre S T):YG T ds M:=⟨h.1,λk d r hd hr=>by
 obtain⟨a,e,s⟩:=h.2 k d r hd hr;exact⟨a,e,p _ _ s⟩⟩
theorem zb5 {p:Int×Int}(h:p.1<=p.2):p.1<=mid p/\mid p<=p.2:=by unfold mid;lia
theorem HS {B:Nat}{bs:LI}(h:Spn B bs):Spn B (bs.map ZF):=λp hp=>by
 obtain⟨x,hx,rfl⟩:=zH.mp hp;obtain⟨a,b,c⟩:=h x hx;have z:=zb5 a
 have s:Sz B (mid x):=by
  unfold Sz at *
  lia
 exact⟨yH _,s,s⟩
theorem EV {vs:LI}{p:Int×Int}{k:Nat}(h:vs.length=k):gt (vs++[p]) (k:Int)=p:=by
 subst h;simp[gt]
def Pz (B:Nat)(vs:LI):Prop:=∀p∈vs,1<=p.2/\Sz B p.1/\Sz B p.2
theorem Pz.at {B:Nat}{vs:LI}(h:Pz B vs){i:Int}(hi:inR vs.length i):1<=(gt vs i).2/\Sz B (gt vs i).1/\Sz B (gt vs i).2:=h _ (QA hi)
def Nd.due (vs ps:LI):Nd->Int×Int
 | .number t b=>(t,b)
 | .unknown k=>gt ps k
 | .plus i j=>((gt vs i).1*(gt vs j).2+(gt vs j).1*(gt vs i).2,(gt vs i).2*(gt vs j).2)
 | .minus i j=>((gt vs i).1*(gt vs j).2-(gt vs j).1*(gt vs i).2,(gt vs i).2*(gt vs j).2)
 | .times i j=>((gt vs i).1*(gt vs j).1,(gt vs i).2*(gt vs j).2)
 | .power i n=>((gt vs i).1^n.toNat,(gt vs i).2^n.toNat)
def PzW (ws:List Nat)(vs:LI):Prop:=∀(k:Nat)(p:Int×Int),vs[k]?=some p->1<=p.2/\Sz (112*ws.getD k 0-2) p.1/\Sz (112*ws.getD k 0-2) p.2
theorem PzW.at {ws:List Nat}{vs:LI}(h:PzW ws vs){i:Int}(hi:inR vs.length i):1<=(gt vs i).2/\Sz (112*ws.getD i.toNat 0-2) (gt vs i).1/\Sz (112*ws.getD i.toNat 0-2) (gt vs i).2:=by
 obtain⟨h0,h1⟩:=hi;have hk:i.toNat<vs.length:=by lia
 have e:gt vs i=vs[i.toNat]:=by simp[gt,hk]
 rw[e];exact h _ _ (zC hk)
def YK (ps:LI)(ns:List Nd):LI:=ns.foldl (λacc v=>acc++[v.due acc ps]) []
theorem Im (ps:LI)(ns:List Nd)(v:Nd):YK ps (ns++[v])=YK ps ns++[v.due (YK ps ns) ps]:=by
 unfold YK;rw[List.foldl_append];rfl
theorem Cy (ps:LI)(ns:List Nd):(YK ps ns).length=ns.length:=by
 have z:∀k,k<=ns.length->(YK ps (ns.take k)).length=k:=λk=>by
  induction k with
  | zero=>intro _;rfl
  | succ k ih=>
   intro hk;rw[XH (zC (show k<ns.length by lia)),Im];simp[ih (by lia)]
 have y:=z ns.length (zD _)
 rwa [yE] at y
theorem Pz.of_w {ws:List Nat}{vs:LI}(h:PzW ws vs)(hw:∀k:Nat,k<vs.length->ws.getD k 0<=16):Pz 1800 vs:=λp hp=>by
 obtain⟨k,hk,e⟩:=yW.mp hp;obtain⟨a,b,c⟩:=h k p (by rw[zC hk,e]);have:=hw k hk;exact⟨a,b.mono (by lia),c.mono (by lia)⟩
def InW (g:Int)(vs ds:LI):Prop:=∀i:Int,inR ds.length i->(gt vs i).1*(gt ds i).2<=(gt ds i).1*g/\(gt ds i).1*g<=(gt vs i).2*(gt ds i).2
def hs:Nat->Int->Int->Int
 | 0,_,_=>0
 | k+1,x,y=>x*hs k x y+y^k
def In (p:Int×Int)(x:Rat):Prop:=(p.1:Rat)<=x/\x<=(p.2:Rat)
theorem Ey {a b g:Rat}(hg:0<g)(h:g*a<=g*b):a<=b:=by
 by_cases c:a<=b
 ·exact c
 ·have d:b<a:=Rat.not_le.mp c
  have z:=Rat.mul_pos hg (show 0<a-b by grind);grind
theorem Mv {a b:Int}(h:a<=b):(a:Rat)<=(b:Rat):=Rat.intCast_le_intCast.mpr h
theorem In.add {p q:Int×Int}{x y:Rat}(h1:In p x)(h2:In q y):In (YY p q) (x+y):=by
 obtain⟨a,b⟩:=h1;obtain⟨c,d⟩:=h2;refine⟨?_,?_⟩
 ·show ((p.1+q.1:Int):Rat)<=_;rw[Rat.intCast_add];grind
 ·show _<=((p.2+q.2:Int):Rat);rw[Rat.intCast_add];grind
theorem In.take {p q:Int×Int}{x y:Rat}(h1:In p x)(h2:In q y):In (Yu p q) (x-y):=by
 obtain⟨a,b⟩:=h1;obtain⟨c,d⟩:=h2;refine⟨?_,?_⟩
 ·show ((p.1-q.2:Int):Rat)<=_;rw[Rat.intCast_sub];grind
 ·show _<=((p.2-q.1:Int):Rat);rw[Rat.intCast_sub];grind
theorem zav {A B C D x y:Rat}(h1:A<=x)(h2:x<=B)(h3:C<=y)(h4:y<=D):(A*C<=x*y\/A*D<=x*y\/B*C<=x*y\/B*D<=x*y)/\(x*y<=A*C\/x*y<=A*D\/x*y<=B*C\/x*y<=B*D):=by
 have m:∀ {u v:Rat},0<=u->0<=v->0<=u*v:=λa b=>Rat.mul_nonneg a b
 rcases Rat.le_total (a:=0) (b:=y) with hy|hy
 ·have a1:=m (show 0<=x-A by grind) hy
  have a2:=m (show 0<=B-x by grind) hy;refine⟨?_,?_⟩
  ·rcases Rat.le_total (a:=0) (b:=A) with hA|hA
   ·have:=m hA (show 0<=y-C by grind);exact .inl (by grind)
   ·have:=m (show 0<=-A by grind) (show 0<=D-y by grind);exact .inr (.inl (by grind))
  ·rcases Rat.le_total (a:=0) (b:=B) with hB|hB
   ·have:=m hB (show 0<=D-y by grind);exact .inr (.inr (.inr (by grind)))
   ·have:=m (show 0<=-B by grind) (show 0<=y-C by grind);exact .inr (.inr (.inl (by grind)))
 ·have a1:=m (show 0<=x-A by grind) (show 0<=-y by grind)
  have a2:=m (show 0<=B-x by grind) (show 0<=-y by grind);refine⟨?_,?_⟩
  ·rcases Rat.le_total (a:=0) (b:=B) with hB|hB
   ·have:=m hB (show 0<=y-C by grind);exact .inr (.inr (.inl (by grind)))
   ·have:=m (show 0<=-B by grind) (show 0<=D-y by grind);exact .inr (.inr (.inr (by grind)))
  ·rcases Rat.le_total (a:=0) (b:=A) with hA|hA
   ·have:=m hA (show 0<=D-y by grind);exact .inr (.inl (by grind))
   ·have:=m (show 0<=-A by grind) (show 0<=y-C by grind);exact .inl (by grind)
theorem In.mul {p q:Int×Int}{x y:Rat}{g:Int}(hg:1<=g)(h1:In p x)(h2:In q y):In (Yy p q g) (x*y/(g:Rat)):=by
 have gp:(0:Rat)<(g:Rat):=Rat.intCast_pos.mpr (by lia)
 have ge:(g:Rat)*(x*y/(g:Rat))=x*y:=by grind
 have c:=zav h1.1 h1.2 h2.1 h2.2
 have lo:((mn4 p.1 p.2 q.1 q.2:Int):Rat)<=x*y:=by
  have t:∀u:Int,mn4 p.1 p.2 q.1 q.2<=u->((mn4 p.1 p.2 q.1 q.2:Int):Rat)<=(u:Rat):=λu h=>Mv h
  have e1:=t (p.1*q.1) (by unfold mn4;lia)
  have e2:=t (p.1*q.2) (by unfold mn4;lia)
  have e3:=t (p.2*q.1) (by unfold mn4;lia)
  have e4:=t (p.2*q.2) (by unfold mn4;lia);rw[Rat.intCast_mul] at e1 e2 e3 e4;rcases c.1 with z|z|z|z<;>grind
 have hi:x*y<=((mx4 p.1 p.2 q.1 q.2:Int):Rat):=by
  have t:∀u:Int,u<=mx4 p.1 p.2 q.1 q.2->(u:Rat)<=((mx4 p.1 p.2 q.1 q.2:Int):Rat):=λu h=>Mv h
  have e1:=t (p.1*q.1) (by unfold mx4;lia)
  have e2:=t (p.1*q.2) (by unfold mx4;lia)
  have e3:=t (p.2*q.1) (by unfold mx4;lia)
  have e4:=t (p.2*q.2) (by unfold mx4;lia);rw[Rat.intCast_mul] at e1 e2 e3 e4;rcases c.2 with z|z|z|z<;>grind
 refine⟨Ey gp ?_,Ey gp ?_⟩
 ·have z:=Mv (Q1 (mn4 p.1 p.2 q.1 q.2) (show 0<g by lia)).1;rw[Rat.intCast_mul] at z;rw[ge];show (g:Rat)*((mn4 p.1 p.2 q.1 q.2/g:Int):Rat)<=_;grind
 ·have z:=Mv (ED (mx4 p.1 p.2 q.1 q.2) (show 0<g by lia)).1;rw[Rat.intCast_mul] at z;rw[ge];show _<=(g:Rat)*((-(-mx4 p.1 p.2 q.1 q.2/g):Int):Rat);grind
def rsum:Nat->(Nat->Rat)->Rat
 | 0,_=>0
 | k+1,f=>rsum k f+f k
theorem In.sum {g:Int}(hg:1<=g){us vs:LI}{a b:Nat->Rat}(h1:∀(j:Nat)(p:Int×Int),us[j]?=some p->In p (a j))(h2:∀(j:Nat)(p:Int×Int),vs[j]?=some p->In p (b j)):∀k:Nat,k<=us.length->k<=vs.length->In (sumP g (us.take k) (vs.take k)) (rsum k λj=>a j*b j/(g:Rat))
 | 0,_,_=>⟨Rat.le_refl,Rat.le_refl⟩
 | k+1,l1,l2=>by
  have hu:=zC (show k<us.length by lia)
  have hv:=zC (show k<vs.length by lia);rw[UI g us vs k hu hv];exact(In.sum hg h1 h2 k (by lia) (by lia)).add ((h1 k _ hu).mul hg (h2 k _ hv))
theorem In.sumP {g:Int}(hg:1<=g){us vs:LI}{a b:Nat->Rat}{n:Nat}(l1:us.length=n)(l2:vs.length=n)(h1:∀(j:Nat)(p:Int×Int),us[j]?=some p->In p (a j))(h2:∀(j:Nat)(p:Int×Int),vs[j]?=some p->In p (b j)):In (sumP g us vs) (rsum n λj=>a j*b j/(g:Rat)):=by
 have z:=In.sum hg h1 h2 n (by lia) (by lia);rw[yB (by lia),yB (by lia)] at z;exact z
theorem BB {bs:LI}(f:Int×Int->Int×Int){i:Int}(h:inR bs.length i):gt (bs.map f) i=f (gt bs i):=by
 have h0:=h.1
 have h1:=h.2
 have hk:i.toNat<bs.length:=by lia
 unfold gt;simp[hk]
theorem zaP {ns:List Nd}{ws:List Nat}{bs:LI}{g:Int}{is:List Nat}(net:ZS bs.length ns ws)(sb:Spn 51 bs)(hg:1<=g/\g<=1000000)(hi:∀i∈is,i<ns.length):Bd 2000 (is.map λ(i:Nat)=>gt (Zo (bs.map ZF) g ns) i):=λp hp=>by
 obtain⟨i,him,rfl⟩:=zH.mp hp;have net2:ZS ((bs.map ZF).length:Nat) ns ws:=by rw[zA];exact net
 have sp:=K8 net2 rfl (HS sb) hg ns.length (zD _);rw[yE] at sp;have z:=sp.at (i:=(i:Int)) ⟨by lia,by rw[Y2];have:=hi i him;lia⟩;exact⟨z.2.1.mono (by decide),z.2.2.mono (by decide)⟩
theorem E1 {ns:List Nd}{ws:List Nat}{bs:LI}{g:Int}{is:List Nat}(net:ZS bs.length ns ws)(sb:Spn 51 bs)(hg:1<=g/\g<=1000000)(hi:∀i∈is,i<ns.length):∀r∈(is.map λ(i:Nat)=>(ZT (Zo bs g ns) g bs.length ns).getD i []),r.length=bs.length/\Bd 1023 r:=λr hr=>by
 have szw:=I0 net rfl sb hg
 have slw:SlW bs.length ws (ZT (Zo bs g ns) g bs.length ns):=by
  have z:=Od net szw (Y2 _ _ _) hg ns.length (zD _)
  rwa [yE] at z
 obtain⟨i,him,rfl⟩:=zH.mp hr;have hin:=hi i him
 have hl:i<(ZT (Zo bs g ns) g bs.length ns).length:=by rw[VU];exact hin
 have e:(ZT (Zo bs g ns) g bs.length ns).getD i []=(ZT (Zo bs g ns) g bs.length ns)[i]:=by simp[hl]
 obtain⟨z1,z2⟩:=slw i _ (zC hl);rw[e];have w:=(net.w1 (i:=(i:Int)) ⟨by lia,by lia⟩).2;rw[zJ] at w;exact⟨z1,λp hp=>⟨(z2 p hp).2.1.mono (by lia),(z2 p hp).2.2.mono (by lia)⟩⟩
theorem FD {ns:List Nd}{ws:List Nat}{bs:LI}{g:Int}{is:List Nat}(net:ZS bs.length ns ws)(sb:Spn 51 bs)(hg:1<=g/\g<=1000000)(hi:∀i∈is,i<ns.length):∀r∈(is.map λ(i:Nat)=>(ZT (Zo bs g ns) g bs.length ns).getD i []),r.length=bs.length/\Bd 2000 r:=λr hr=>by
 obtain⟨z1,z2⟩:=E1 net sb hg hi r hr;exact⟨z1,λp hp=>⟨(z2 p hp).1.mono (by decide),(z2 p hp).2.mono (by decide)⟩⟩
theorem EJ {G:Int->Prop}:∀xs:List D,(∀(k:Nat)(d:D),xs[k]?=some d->∃t,d=.int t/\G t)->∃ts:List Int,xs=ts.map D.int/\∀t∈ts,G t
 | [],_=>⟨[],rfl,λp h=>by cases h⟩
 | x::xs,h=>by
  obtain⟨p,rfl,hp⟩:=h 0 x rfl;obtain⟨vs,rfl,hv⟩:=EJ xs λk d hd=>h (k+1) d hd
  exact⟨p::vs,rfl,λq hq=>by
   rcases zQ.mp hq with e|e
   ·subst e;exact hp
   ·exact hv q e⟩
theorem DU {ts:List Int}{k:Nat}(h:k<ts.length):atI (ts.map D.int) (k:Int)=some (.int (ts.getD k 0)):=X2 (by rw[zG,zC h];simp[h])
theorem zeh {v:Nd}{ns:List Nd}{n:Nat}{S:Sto}{Q:DK}{o:Option Nat}(h:S[n]?=some (.lst (ns.map Nd.d)))(e:Xw (eqN 1) (ns.map Nd.d) v.d=some o.isSome)(hq:Q (.bl (!o.isSome)) S):Xs (wIn 1 true) v.d (.ref n) S Q:=by
 rw[WS];unfold wIn;simp only[Z1 h rfl,Zu,e];exact hq
theorem any_some:∀ {ns:List Nd} {k:Nat},ns[k]?=some v->Xw (eqN 1) (ns.map Nd.d) v.d≠some (none:Option Nat).isSome
 | [],k,h=>by simp at h
 | u::us,0,h=>by
  have e:u=v:=by simpa using h
  subst e;show (match eqN 1 u.d u.d,Xw (eqN 1) (us.map Nd.d) u.d with|some b,some c=>some (b||c)|_,_=>none)≠_;obtain⟨c,hc⟩:=FE u us;rw[Ab,hc];simp
 | u::us,k+1,h=>by
  have ih:=any_some (ns:=us) (k:=k) (by simpa using h)
  show (match eqN 1 u.d v.d,Xw (eqN 1) (us.map Nd.d) v.d with|some b,some c=>some (b||c)|_,_=>none)≠_;obtain⟨b,hb⟩:=HN u v;obtain⟨c,hc⟩:=FE v us;rw[hc] at ih;rw[hb,hc];cases c
  ·exact absurd rfl ih
  ·simp
theorem Dl {vs us ps:LI}{k:Nat}{q:Int}(h:∀i:Int,inR k i->gt vs i=gt us i):∀v:Nd,v.ok k q->v.due vs ps=v.due us ps
 | .number _ _,_=>rfl
 | .unknown _,_=>rfl
 | .plus i j,ok=>by simp only[Nd.due,h i ok.1,h j ok.2]
 | .minus i j,ok=>by simp only[Nd.due,h i ok.1,h j ok.2]
 | .times i j,ok=>by simp only[Nd.due,h i ok.1,h j ok.2]
 | .power i n,ok=>by simp only[Nd.due,h i ok.1]
theorem Dy (P:LI)(ns:List Nd):∀ms:List Nd,∃r,YK P (ns++ms)=YK P ns++r
 | []=>⟨[],by rw[yZ,yZ]⟩
 | v::ms=>by
  obtain⟨r,e⟩:=Dy P (ns++[v]) ms;rw[xN] at e;refine⟨v.due (YK P ns) P::r,?_⟩;rw[show ns++v::ms=ns++([v]++ms) from rfl,e,Im,xN];rfl
theorem O3 {P:LI}{ns ms:List Nd}{i:Int}(h:inR ns.length i):gt (YK P (ns++ms)) i=gt (YK P ns) i:=by
 obtain⟨r,e⟩:=Dy P ns ms;rw[e];exact zb7 (k:=ns.length) h (by rw[Cy];exact zD _)
theorem zcn {P:LI}{ns:List Nd}{ws:List Nat}{q:Int}{j:Nat}{v:Nd}(net:ZS q ns ws)(h:ns[j]?=some v):gt (YK P ns) (j:Int)=v.due (YK P ns) P:=by
 have hj:=(zF.mp h).1
 have e:ns=ns.take (j+1)++ns.drop (j+1):=(List.take_append_drop _ _).symm
 have e2:ns=ns.take j++ns.drop j:=(List.take_append_drop _ _).symm
 have l:(ns.take (j+1)).length=j+1:=by rw[zW];lia
 have lj:(ns.take j).length=j:=by rw[zW];lia
 have g1:gt (YK P ns) (j:Int)=gt (YK P (ns.take (j+1))) (j:Int):=by
  have z:=O3 (P:=P) (ns:=ns.take (j+1)) (ms:=ns.drop (j+1)) (i:=(j:Int)) ⟨by lia,by rw[l];lia⟩;rw[<- e] at z;exact z
 rw[g1,XH h,Im,EV (by rw[Cy,lj])];refine Dl (k:=j) (q:=q) (λi hi=>?_) v (net.ok j v h).1;have z:=O3 (P:=P) (ns:=ns.take j) (ms:=ns.drop j) (i:=i) (by rw[lj];exact hi);rw[<- e2] at z;exact z.symm
theorem HC {ws us:List Nat}{i:Nat}(h:i<ws.length):(ws++us).getD i 0=ws.getD i 0:=by rw[zK,zK,zV h]
def Nd.hv:Nd->Nat
 | .minus _ _=>2
 | _=>1
theorem zab (xs:List D):XB xs (some 1) none=xs.drop 1:=by
 unfold L3.XB;have e:HT.sIx xs.length 0 (some 1)=min 1 xs.length:=by
  have z:=HT.sIx_nat xs.length 0 1;exact z
 rw[HT.sIx_none];rw[e];by_cases c:1<=xs.length
 ·rw[Nat.min_eq_left c];exact yB (by rw[xA];exact zD _)
 ·have z:xs=[]:=List.eq_nil_of_length_eq_zero (by lia);subst z;rfl
def Yd (M:List (List Int))(r c:Nat):List (List Int):=(M.take r++M.drop (r+1)).map λe=>e.take c++e.drop (c+1)
def sgn (i:Int)(k:Nat):Int:=if k%2=1 then -i else i
def ZJ:Nat->List (List Int)->Int
 | 0,_=>1
 | n+1,M=>((List.range (M.headD []).length).map λc=>(M.headD []).getD c 0*sgn (ZJ n (Yd M 0 c)) c).sum
def Sq (n:Nat)(M:List (List Int)):Prop:=M.length=n/\∀r∈M,r.length=n
theorem V0 {n:Nat}{M:List (List Int)}(h:Sq (n+1) M){r c:Nat}(hr:r<=n)(hc:c<=n):Sq n (Yd M r c):=by
 obtain⟨h1,h2⟩:=h;refine⟨by simp[Yd];lia,λq hq=>?_⟩;simp only[Yd,zH,yF] at hq;obtain⟨e,he,rfl⟩:=hq;have hm:e∈M:=he.elim xX xK
 have:=h2 e hm;simp;lia
inductive Rows (S:Sto)(b:Nat):List D->List (List Int)->Prop
 | nil:Rows S b [] []
 | cons {a:Nat} {r:List Int} {ds:List D} {M:List (List Int)}:b<=a->S[a]?=some (.lst (r.map D.int))->Rows S b ds M->Rows S b (.ref a::ds) (r::M)
theorem Rows.keep {S T:Sto}{b:Nat}{ds:List D}{M:List (List Int)}(h:Rows S b ds M)(k:∀a o,b<=a->S[a]?=some o->T[a]?=some o):Rows T b ds M:=by
 induction h with
 | nil=>exact .nil
 | cons h1 h2 _ ih=>exact .cons h1 (k _ _ h1 h2) ih
theorem Rows.pre (h:Rows S b ds M)(p:Pre S T):Rows T b ds M:=h.keep λa o _ e=>p a o e
theorem Rows.low (h:Rows S b ds M)(k:c<=b):Rows S c ds M:=by
 induction h with
 | nil=>exact .nil
 | cons h1 h2 _ ih=>exact .cons (yK k h1) h2 ih
theorem Rows.len {S:Sto}{b:Nat}{ds:List D}{M:List (List Int)}(h:Rows S b ds M):ds.length=M.length:=by
 induction h with
 | nil=>rfl
 | cons _ _ _ ih=>simp[ih]
theorem Rows.get {S:Sto}{b:Nat}{ds:List D}{M:List (List Int)}(h:Rows S b ds M):∀ {k:Nat} {d:D},ds[k]?=some d->∃a r,d=.ref a/\b<=a/\M[k]?=some r/\S[a]?=some (.lst (r.map D.int)):=by
 induction h with
 | nil=>intro k d e;simp at e
 | cons h1 h2 _ ih=>
  intro k d e;cases k with
  | zero=>simp at e;exact⟨_,_,e.symm,h1,rfl,h2⟩
  | succ k=>exact ih (by simpa using e)
theorem Rows.get' {S:Sto}{b:Nat}{ds:List D}{M:List (List Int)}(h:Rows S b ds M){k:Nat}{r:List Int}(e:M[k]?=some r):∃a,ds[k]?=some (.ref a)/\b<=a/\S[a]?=some (.lst (r.map D.int)):=by
 have hk:k<ds.length:=by rw[h.len];exact(zF.mp e).1
 obtain⟨a,r',e1,e2,e3,e4⟩:=h.get (zC hk);rw[e3] at e;cases e
 exact⟨a,by rw[zC hk,e1],e2,e4⟩
theorem Rows.app (h:Rows S b ds M)(g:Rows S b es M'):Rows S b (ds++es) (M++M'):=by
 induction h with
 | nil=>exact g
 | cons h1 h2 _ ih=>exact .cons h1 h2 ih
theorem Rows.snoc {S:Sto}{b a:Nat}{r:List Int}{ds:List D}{M:List (List Int)}(h:Rows S b ds M)(h1:b<=a)(h2:S[a]?=some (.lst (r.map D.int))):Rows S b (ds++[.ref a]) (M++[r]):=h.app (.cons h1 h2 .nil)
theorem Rows.drop (h:Rows S b ds M):∀k:Nat,Rows S b (ds.drop k) (M.drop k):=by
 induction h with
 | nil=>intro k;simpa using Rows.nil
 | cons h1 h2 t ih=>
  intro k;cases k with
  | zero=>exact .cons h1 h2 t
  | succ k=>simpa using ih k
theorem Rows.take {S:Sto}{b:Nat}{ds:List D}{M:List (List Int)}(h:Rows S b ds M):∀k:Nat,Rows S b (ds.take k) (M.take k):=by
 induction h with
 | nil=>intro k;simpa using Rows.nil
 | cons h1 h2 t ih=>
  intro k;cases k with
  | zero=>simpa using Rows.nil
  | succ k=>simpa using Rows.cons h1 h2 (ih k)
def YH (S:Sto)(n:Nat)(M:List (List Int)):Prop:=∃ds,S[n]?=some (.lst ds)/\Rows S 0 ds M
theorem YH.pre (h:YH S n M)(p:Pre S T):YH T n M:=by
 obtain⟨ds,h1,h2⟩:=h;exact⟨ds,p _ _ h1,h2.pre p⟩
def Big (M:List (List Int)):Prop:=∀r∈M,∀x∈r,Sz 1030 x
theorem Big.minor {M:List (List Int)}(h:Big M)(r c:Nat):Big (Yd M r c):=λq hq x hx=>by
 simp only[Yd,zH,yF] at hq;obtain⟨e,he,rfl⟩:=hq;have hm:e∈M:=he.elim xX xK;rcases yF.mp hx with z|z
 ·exact h e hm x (xX z)
 ·exact h e hm x (xK z)
theorem EW {B:Nat}:∀ {l:List Int},(∀x∈l,x.natAbs<=B)->l.sum.natAbs<=l.length*B
 | [],_=>by simp
 | x::l,h=>by
  have h1:=h x (by simp)
  have h2:=EW (l:=l) λy hy=>h y (by simp[hy])
  rw[List.sum_cons,zY,Nat.succ_mul];lia
theorem zdH {k:Nat}{l:List Int}(h:∀x∈l,Sz k x)(hl:l.length<=4):Sz (k+2) l.sum:=by
 have hp:0<2^k:=Nat.two_pow_pos k
 have h1:=EW (B:=2^k-1) (l:=l) λx hx=>by have:=h x hx;unfold Sz at this;lia
 have h2:l.length*(2^k-1)<=4*(2^k-1):=Nat.mul_le_mul_right _ hl;unfold Sz;rw[Nat.pow_add];lia
theorem JK {k n:Nat}{i:Int}(h:Sz k i):Sz k (sgn i n):=by
 unfold sgn;split
 ·exact h.neg
 ·exact h
theorem F8:∀ {n:Nat} {M:List (List Int)},Sq n M->Big M->n<=4->Sz (n*1034+1) (ZJ n M)
 | 0,_,_,_,_=>by unfold Sz ZJ;decide
 | n+1,M,h,b,hn=>by
  unfold ZJ;obtain⟨r,M',rfl⟩:∃r M',M=r::M':=by
   match M,h.1 with
   | r::M',_=>exact⟨r,M',rfl⟩
  have hr:r.length=n+1:=h.2 r (by simp)
  have q:Sz ((n*1034+1031)+2) (((List.range ((r::M').headD []).length).map λc=>((r::M').headD []).getD c 0*sgn (ZJ n (Yd (r::M') 0 c)) c).sum):=by
   refine zdH (λx hx=>?_) (by simp[hr];lia);obtain⟨c,hc,rfl⟩:=zH.mp hx;have hc':c<n+1:=by simpa [hr] using hc
   have e1:Sz 1030 ((r::M').headD [] |>.getD c 0):=by
    show Sz 1030 (r.getD c 0);rw[zK,zC (by lia)];exact b r (by simp) _ (zZ ..)
   have e2:=JK (n:=c) (F8 (V0 h (zL n) (show c<=n by lia)) (b.minor 0 c) (by lia));exact(e1.mul e2).mono (by lia)
  exact q.mono (by lia)
theorem IU (h:Sq n M)(b:Big M)(hn:n<=4):Sz 4140 (ZJ n M):=(F8 h b hn).mono (by lia)
theorem CS {caps:List Nat}{tl te:TDE}{dl:Ev}{S T0:Sto}{Q:DK}{n:Nat}{ds:List D}{R:List (List Int)}(g:List Int->List Int)(htl:∀K:DK,K (.ref n) T0->tl dl S K)(hn:T0[n]?=some (.lst ds))(rows:Rows T0 0 ds R)(hl:ds.length<=1000)
  (ht:∀(a:Nat)(r:List Int)(S2:Sto)(K:DK),r∈R->S2[a]?=some (.lst (r.map D.int))->(∀(S3:Sto)(b:Nat),Pre S2 S3->S2.length<=b->S3[b]?=some (.lst ((g r).map D.int))->K (.ref b) S3)->te (some (.ref a)::YQ caps dl) S2 K)
  (hq:∀(S2:Sto)(ys:List D),Pre T0 S2->S2[T0.length]?=some (.lst ys)->Rows S2 0 ys (R.map g)->Q (.ref T0.length) S2):XY caps tl Xx te dl S Q:=by
 refine GK (S1:=T0) (n:=n) (o:=.lst ds) (λk ys S2=>Pre T0 S2/\S2[T0.length]?=some (.lst ys)/\ys.length=k/\Rows S2 (T0.length+1) ys ((R.take k).map g)) htl hn (λk ys S2 w=>⟨w.1 _ _ hn,w.2.1,w.2.2.1⟩) hl
  ⟨Pre.refl.push,Zv _ _,rfl,by simpa using Rows.nil⟩ (λk x ys S2 K hx w hK=>?_) (λys S2 w=>?_)
 ·obtain⟨w1,w2,w3,w4⟩:=w;obtain⟨a,r,rfl,_,hr,ha⟩:=rows.get hx;refine ht a r S2 K (zN hr) (w1 _ _ ha) λS3 b p3 hb e3=>?_
  have hlt:=Z7 w2;refine hK _ S3 (p3 _ _ w2) ⟨D7 (w1.trans p3) (zD _),Yv (p3 _ _ w2),by simp[w3],?_⟩;have e:(R.take (k+1)).map g=(R.take k).map g++[g r]:=by rw[xB,hr];simp
  rw[e];refine Rows.snoc (w4.keep λa o l q=>?_) (by lia) ?_
  ·rw[yM (by lia)];exact p3 _ _ q
  ·rw[yM (by lia)];exact e3
 ·obtain⟨w1,w2,w3,w4⟩:=w;have e:R.take (Zu (.lst ds)).length=R:=yB (by show R.length<=ds.length;rw[rows.len];exact zD _);rw[e] at w4;exact hq S2 ys w1 w2 (w4.low (zL _))
theorem zes {caps:List Nat}{ta:TDA}{te:TDE}{dl:Ev}{S T0:Sto}{Q:DK}{j:Nat}(g:Nat->List Int)(hta:∀K:List D->Sto->Prop,K [.int (j:Int)] T0->ta dl S K)(hj:j<=1000)
  (ht:∀(k:Nat)(S2:Sto)(K:DK),k<j->Pre T0 S2->(∀(S3:Sto)(b:Nat),Pre S2 S3->S2.length<=b->S3[b]?=some (.lst ((g k).map D.int))->K (.ref b) S3)->te (some (.int (k:Int))::YQ caps dl) S2 K)
  (hq:∀(S2:Sto)(ys:List D),Pre T0 S2->S2[T0.length]?=some (.lst ys)->Rows S2 0 ys ((List.range j).map g)->Q (.ref T0.length) S2):WE caps ta Xx te dl S Q:=by
 refine za8 (S1:=T0) (j:=(j:Int)) (λk ys S2=>Pre T0 S2/\S2[T0.length]?=some (.lst ys)/\ys.length=k/\Rows S2 (T0.length+1) ys ((List.range k).map g)) hta (by lia) (λk ys S2 w=>⟨w.2.1,w.2.2.1⟩)
  ⟨Pre.refl.push,Zv _ _,rfl,by simpa using Rows.nil⟩ (λk ys S2 K hk w hK=>?_) (λys S2 w=>?_)
 ·obtain⟨w1,w2,w3,w4⟩:=w;refine ht k S2 K (by lia) w1 λS3 b p3 hb e3=>?_
  have hlt:=Z7 w2;refine hK _ S3 (p3 _ _ w2) ⟨D7 (w1.trans p3) (zD _),Yv (p3 _ _ w2),by simp[w3],?_⟩;rw[List.range_succ,yC];refine Rows.snoc (w4.keep λa o l q=>?_) (by lia) ?_
  ·rw[yM (by lia)];exact p3 _ _ q
  ·rw[yM (by lia)];exact e3
 ·obtain⟨w1,w2,w3,w4⟩:=w;exact hq S2 ys w1 w2 (w4.low (zL _))
theorem QI (h:S[n]?=some o)(hb:XC (Zu o)=some ns)(hq:Q (.int ns.sum) S):irr NN [.ref n] S Q:=by
 rw[Vr];unfold NN;simp only[Z1 h (DT hb),hb];exact hq
theorem DL (l:List Int):XC (l.map D.int)=some l:=by
 induction l with
 | nil=>rfl
 | cons x l ih=>simp only[yP,XC,ih,Option.map_some]
def VW (M:List (List Int))(n:Nat)(w g:Int)(i j:Nat):Int:=(sgn (ZJ n (Yd M j i)) (j+i)*g*g).fdiv w
def Vg (M:List (List Int))(n:Nat)(w g:Int)(i:Nat):List Int:=(List.range (n+1)).map (VW M n w g i)
def Yi (M:List (List Int))(n:Nat)(w g:Int):List (List Int):=(List.range (n+1)).map (Vg M n w g)
theorem zcO {t b:Int}(hb:0<b):t.fdiv b*b<=t/\t<(t.fdiv b+1)*b:=by
 rw[xT _ (by lia)];exact Q1 t hb
theorem DC {t b:Int}(hb:0<b):(t.fdiv b).natAbs<=t.natAbs+1:=by
 obtain⟨h1,h2⟩:=zcO (t:=t) hb;generalize t.fdiv b=f at *
 by_cases c:0<=f
 ·have z:=Int.mul_le_mul_of_nonneg_left (show 1<=b by lia) c;lia
 ·have z:=Int.mul_le_mul_of_nonneg_left (show 1<=b by lia) (show 0<=-(f+1) by lia);rw[yQ,yQ] at z;lia
theorem Es {xs:List D}{i:Nat}:XB xs none (some (i:Int))=xs.take i:=by
 unfold L3.XB;rw[HT.sIx_none,HT.sIx_nat,List.drop_zero,Nat.sub_zero];rw[List.take_eq_take_iff];lia
theorem Ef {xs:List D}{i:Nat}:XB xs (some (i:Int)) none=xs.drop i:=by
 unfold L3.XB;rw[HT.sIx_none,HT.sIx_nat];rcases Nat.le_total i xs.length with h|h
 ·rw[Nat.min_eq_left h];exact yB (by rw[xA];exact zD _)
 ·rw[Nat.min_eq_right h,List.drop_of_length_le (zD _),List.drop_of_length_le h];simp
theorem Lb {r0:List Int}{k:Nat}{x:D}(hx:(r0.map D.int)[k]?=some x):x=.int (r0.getD k 0):=by
 have hk:k<r0.length:=by
  have:=(zF.mp hx).1
  rwa [zA] at this
 rw[zG,zC hk] at hx;rw[zK,zC hk];exact(Option.some.inj hx).symm
theorem ME (sq:Sq (n+1) (r0::M'))(big:Big (r0::M'))(hn:n<=3)(hk:k<n+1):IntMulOk (r0.getD k 0) (sgn (ZJ n (Yd (r0::M') 0 k)) (0+k)):=by
 have lr:r0.length=n+1:=sq.2 r0 (by simp)
 have e1:Sz 1030 (r0.getD k 0):=by
  rw[zK,zC (by lia)];exact big r0 (by simp) _ (zZ ..)
 exact ZV e1 (JK (IU (V0 sq (zL _) (by lia)) (big.minor 0 k) (by lia)))
theorem Kr (n:Nat)(r0:List Int)(M':List (List Int)):XC ((r0.map D.int).mapIdx λk d=>D.int (r0.getD k 0*sgn (ZJ n (Yd (r0::M') 0 k)) k))=some ((List.range r0.length).map λk=>r0.getD k 0*sgn (ZJ n (Yd (r0::M') 0 k)) k):=by
 have e:(r0.map D.int).mapIdx (λk d=>D.int (r0.getD k 0*sgn (ZJ n (Yd (r0::M') 0 k)) k))=((List.range r0.length).map λk=>r0.getD k 0*sgn (ZJ n (Yd (r0::M') 0 k)) k).map D.int:=by
  refine List.ext_getElem (by simp) λk h1 h2=>?_
  simp
 rw[e,DL]
theorem Ki {m a:Nat}{S:Sto}{ds:List D}{K:List D->Sto->Prop}(hm:S[m]?=some (.lst ds))(hd:ds[0]?=some (.ref a))(hK:K [.ref a] S):wIx (.ref m) (.int 0) S (λx S1=>K [x] S1):=by
 have z:=Zw (n:=m) (S:=S) (o:=.lst ds) (i:=0) (d:=.ref a) (Q:=λx S1=>K [x] S1) hm (X2 (j:=0) hd) hK;rw[WS] at z;exact z
theorem Rows.toI (h:Rows S b ds M):YG S ds M:=⟨h.len,λk d r hd hr=>by
 obtain⟨a,r',e,_,e3,e4⟩:=h.get hd;rw[e3] at hr;cases hr;exact⟨a,e,e4⟩⟩
theorem G6 (h:i∈eqs rows):(true,i)∈rows:=by
 obtain⟨⟨b,n⟩,hr,e⟩:=List.mem_filterMap.mp h;cases b
 ·cases e
 ·cases e;exact hr
def XG (rows:List (Bool×Nat))(vs:LI):Bool:=rows.all λr=>r.1||decide (0<=(gt vs (r.2:Int)).1)
theorem FX (vs:LI):∀rows:List (Bool×Nat),X0 (((rows.map rwD)).filterMap (λd=>match d with|.tup [.str w,.int at']=>if w="least" then some (.bl (decide (0<=(gt vs at').1))) else none|_=>none))=some (rows.filterMap λr=>if r.1 then none else some (decide (0<=(gt vs (r.2:Int)).1)))
 | []=>rfl
 | (false,n)::rs=>by
  show (X0 ((rs.map rwD).filterMap _)).map _=_;rw[FX vs rs];rfl
 | (true,n)::rs=>FX vs rs
theorem G7 (vs:LI):∀rows:List (Bool×Nat),((rows.filterMap λr=>if r.1 then none else some (decide (0<=(gt vs (r.2:Int)).1))).all id)=XG rows vs
 | []=>rfl
 | (false,n)::rs=>by
  show (decide _&&(rs.filterMap _).all id)=_;rw[G7 vs rs];rfl
 | (true,n)::rs=>G7 vs rs
def Ri (p q:Int×Int):Bool:=decide (q.1<p.1)&&decide (p.2<q.2)
def XU (us vs:LI):Bool:=(List.zipWith Ri us vs).all id
theorem G3 {us vs:LI}:XU us vs=true↔∀(k:Nat)(p q:Int×Int),us[k]?=some p->vs[k]?=some q->q.1<p.1/\p.2<q.2:=by
 unfold XU;rw[List.all_eq_true];refine⟨λh k p q hp hq=>?_,λh b hb=>?_⟩
 ·have z:=h (Ri p q) (zN (i:=k) (by rw[List.getElem?_zipWith,hp,hq]));simpa [Ri] using z
 ·obtain⟨k,hk⟩:=List.mem_iff_getElem?.mp hb;rw[List.getElem?_zipWith] at hk;cases e1:us[k]? with
  | none=>rw[e1] at hk;cases hk
  | some p=>
   cases e2:vs[k]? with
   | none=>rw[e1,e2] at hk;cases hk
   | some q=>
    rw[e1,e2] at hk;obtain⟨a,b⟩:=h k p q e1 e2;have z:=Option.some.inj hk;subst z;simp[Ri,a,b]
theorem zb0 (us vs:LI):X0 (List.zipWith (λx y=>match x,y with|.tup [.int a,.int b],.tup [.int c,.int d]=>.bl (decide (c<a)&&decide (b<d))|_,_=>.non) (us.map frD) (vs.map frD))=some (List.zipWith Ri us vs):=by
 induction us generalizing vs with
 | nil=>rfl
 | cons u us ih=>
  cases vs with
  | nil=>rfl
  | cons v vs=>
   show (X0 (List.zipWith _ (us.map frD) (vs.map frD))).map _=_;rw[ih];rfl
def UP (g:Int)(bs:LI)(ns:List Nd)(rows:List (Bool×Nat)):LI:=(eqs rows).map λ(i:Nat)=>gt (Zo (bs.map ZF) g ns) i
def Xu (g:Int)(bs:LI)(ns:List Nd)(rows:List (Bool×Nat)):List LI:=(eqs rows).map λ(i:Nat)=>(ZT (Zo bs g ns) g bs.length ns).getD i []
def Yh (g:Int)(bs:LI)(ns:List Nd)(rows:List (Bool×Nat)):List (List Int):=(Xu g bs ns rows).map λr=>r.map mid
def W0 (g:Int)(bs:LI)(ns:List Nd)(rows:List (Bool×Nat))(M:List (List Int)):LI:=M.mapIdx λk es=>YW g bs (UP g bs ns rows) (Xu g bs ns rows) k es
def alS (g:Int)(bs:LI)(ns:List Nd)(rows:List (Bool×Nat)):Option (List (List Int)×LI):=
 if (eqs rows).length=bs.length/\XG rows (Zo bs g ns)=true then
  if ZJ bs.length (Yh g bs ns rows)=0 then none
  else if XU (W0 g bs ns rows (Yi (Yh g bs ns rows) (bs.length-1) (ZJ bs.length (Yh g bs ns rows)) g)) bs=true then some (Yi (Yh g bs ns rows) (bs.length-1) (ZJ bs.length (Yh g bs ns rows)) g,W0 g bs ns rows (Yi (Yh g bs ns rows) (bs.length-1) (ZJ bs.length (Yh g bs ns rows)) g))
  else none
 else none
theorem HL (M:List (List Int))(n:Nat)(w g:Int):(Yi M n w g).length=n+1:=by simp[Yi]
theorem Dx:∀r∈Yi M n w g,r.length=n+1:=λr hr=>by
 unfold Yi at hr;obtain⟨i,_,rfl⟩:=zH.mp hr;simp[Vg]
theorem zeu (h:alS g bs ns rows=some (M,aE))(b1:1<=bs.length):(eqs rows).length=bs.length/\M.length=bs.length/\(∀es∈M,es.length=bs.length)/\aE=W0 g bs ns rows M/\aE.length=bs.length/\(∀(k:Nat)(es:List Int),M[k]?=some es->aE[k]?=some (YW g bs (UP g bs ns rows) (Xu g bs ns rows) k es)/\(gt bs (k:Int)).1<(YW g bs (UP g bs ns rows) (Xu g bs ns rows) k es).1/\(YW g bs (UP g bs ns rows) (Xu g bs ns rows) k es).2<(gt bs (k:Int)).2):=by
 unfold alS at h;split at h
 ·rename_i c;split at h
  ·cases h
  ·split at h
   ·rename_i dp;cases h;have lM:=HL (Yh g bs ns rows) (bs.length-1) (ZJ bs.length (Yh g bs ns rows)) g
    have lM':(Yi (Yh g bs ns rows) (bs.length-1) (ZJ bs.length (Yh g bs ns rows)) g).length=bs.length:=by lia
    refine⟨c.1,lM',λes he=>by have:=Dx es he;lia,rfl,by unfold W0;rw[List.length_mapIdx,lM'],λk es hk=>?_⟩;have e:(W0 g bs ns rows (Yi (Yh g bs ns rows) (bs.length-1) (ZJ bs.length (Yh g bs ns rows)) g))[k]?=some (YW g bs (UP g bs ns rows) (Xu g bs ns rows) k es):=by
     unfold W0;rw[List.getElem?_mapIdx,hk];rfl
    have hl:=(zF.mp hk).1
    have eb:=zC (show k<bs.length by lia);refine⟨e,?_⟩;rw[X4 eb];exact G3.mp dp k _ _ e eb
   ·cases h
 ·cases h
theorem zba (t w:Int)(hw:w≠0):(t.fdiv w).natAbs<=t.natAbs+1:=by
 rcases Int.lt_or_lt_of_ne hw with h|h
 ·have e:t.fdiv w=(-t).fdiv (-w):=by rw[Int.neg_fdiv_neg]
  rw[e,xT _ (by lia)];have:=Int.natAbs_ediv_le_natAbs (-t) (-w);lia
 ·rw[xT _ (by lia)];have:=Int.natAbs_ediv_le_natAbs t w;lia
theorem zac (sq:Sq (n+1) M)(big:Big M)(hn:n<=3)(hw:w≠0)(hg:1<=g/\g<=1000000):∀r∈Yi M n w g,∀x∈r,Sz 4000 x:=λr hr x hx=>by
 unfold Yi at hr;obtain⟨i,hi,rfl⟩:=zH.mp hr;unfold Vg at hx;obtain⟨j,hj,rfl⟩:=zH.mp hx;have hi9:=xG.mp hi
 have hj9:=xG.mp hj;unfold VW;have e2:=JK (n:=j+i) (F8 (V0 sq (show j<=n by lia) (show i<=n by lia)) (big.minor j i) (by lia))
 have eg:Sz 20 g:=Sz.of 1000000 (by lia)
 have e3:=(e2.mul eg).mul eg
 have e4:Sz 3999 (sgn (ZJ n (Yd M j i)) (j+i)*g*g):=e3.mono (by lia)
 have:=zba (sgn (ZJ n (Yd M j i)) (j+i)*g*g) w hw;unfold Sz at *
 have e5:2^4000=2*2^3999:=by rw[Nat.pow_succ];lia
 have e6:1<2^3999:=Nat.one_lt_two_pow (by decide);lia
theorem Eh (h1:p.1<=p.2)(h2:q.1<=q.2):(YY p q).1<=(YY p q).2:=by
 show p.1+q.1<=p.2+q.2;lia
theorem BA (h1:p.1<=p.2)(h2:q.1<=q.2):(Yu p q).1<=(Yu p q).2:=by
 show p.1-q.2<=p.2-q.1;lia
theorem DI (hg:1<=g)(us vs:LI):(sumP g us vs).1<=(sumP g us vs).2:=by
 rw[<- Hx];have main:∀k:Nat,k<=us.length->k<=vs.length->(sumP g (us.take k) (vs.take k)).1<=(sumP g (us.take k) (vs.take k)).2:=λk=>by
  induction k with
  | zero=>exact λ_ _=>yH 0
  | succ k ih=>
   intro l1 l2;have hu:=zC (show k<us.length by lia)
   have hv:=zC (show k<vs.length by lia);rw[UI g us vs k hu hv];exact Eh (ih (by lia) (by lia)) (KQ _ _ hg)
 exact main _ (by lia) (by lia)
theorem CO (hg:1<=g):(YW g box aC R k es).1<=(YW g box aC R k es).2:=by
 unfold YW;exact Eh (BA (yH _) (DI hg _ _)) (DI hg _ _)
structure Gr (q a c:Nat)(S:Sto)(ns:List Nd)(ws:List Nat)(T:Sto)(ns':List Nd)(ws':List Nat):Prop where
 net:ZS q ns' ws'
 pn:∃ms,ns'=ns++ms/\ms.length<=c
 pw:∃us,ws'=ws++us
 nd:T[a]?=some (.lst (ns'.map Nd.d))
 len:S.length<=T.length
 kp:∀(x:Nat)(o:Ob),x≠a->S[x]?=some o->T[x]?=some o
theorem Gr.refl {q a:Nat}{S:Sto}{ns:List Nd}{ws:List Nat}(net:ZS q ns ws)(h:S[a]?=some (.lst (ns.map Nd.d))):Gr q a 0 S ns ws S ns ws:=⟨net,⟨[],by simp,by simp⟩,⟨[],by simp⟩,h,zD _,λ_ _ _ e=>e⟩
theorem Gr.trans (h:Gr q a c S ns ws T ns' ws')(k:Gr q a d T ns' ws' U ns2 ws2):Gr q a (c+d) S ns ws U ns2 ws2:=by
 obtain⟨n1,⟨ms,rfl,l1⟩,⟨us,rfl⟩,a1,e1,k1⟩:=h;obtain⟨n2,⟨ms2,rfl,l2⟩,⟨us2,rfl⟩,a2,e2,k2⟩:=k;exact⟨n2,⟨ms++ms2,by rw[xN],by rw[zO];lia⟩,⟨us++us2,by rw[xN]⟩,a2,by lia,λx o hx e=>k2 x o hx (k1 x o hx e)⟩
theorem Gr.mono (h:Gr q a c S ns ws T ns' ws')(l:c<=d):Gr q a d S ns ws T ns' ws':=by
 obtain⟨n1,⟨ms,e,l1⟩,u,a1,e1,k1⟩:=h;exact⟨n1,⟨ms,e,by lia⟩,u,a1,e1,k1⟩
theorem Gr.ln {q a c:Nat}{S T:Sto}{ns ns':List Nd}{ws ws':List Nat}(h:Gr q a c S ns ws T ns' ws'):ns.length<=ns'.length/\ns'.length<=ns.length+c:=by
 obtain⟨n1,⟨ms,rfl,l1⟩,_⟩:=h;rw[zO];lia
theorem Gr.wt {q a c:Nat}{S T:Sto}{ns ns':List Nd}{ws ws':List Nat}(h:Gr q a c S ns ws T ns' ws')(net:ZS q ns ws){i:Nat}(hi:i<ns.length):ws'.getD i 0=ws.getD i 0:=by
 obtain⟨us,rfl⟩:=h.pw;exact HC (by rw[net.len];exact hi)
theorem Gr.due {q a c:Nat}{S T:Sto}{ns ns':List Nd}{ws ws':List Nat}(h:Gr q a c S ns ws T ns' ws')(P:LI){i:Nat}(hi:i<ns.length):gt (YK P ns') (i:Int)=gt (YK P ns) (i:Int):=by
 obtain⟨ms,rfl,_⟩:=h.pn;exact O3 ⟨by lia,by lia⟩
theorem Gr.get {q a c:Nat}{S T:Sto}{ns ns':List Nd}{ws ws':List Nat}(h:Gr q a c S ns ws T ns' ws'){i:Nat}{v:Nd}(hi:ns[i]?=some v):ns'[i]?=some v:=by
 obtain⟨ms,rfl,_⟩:=h.pn;rw[zV (zF.mp hi).1];exact hi
theorem Gr.put (h:Gr q a c S ns ws T ns' ws')(ha:n≠a)(hn:S.length<=n):Gr q a c S ns ws (T.set n o) ns' ws':=by
 obtain⟨n1,pn,pw,a1,e1,k1⟩:=h;refine⟨n1,pn,pw,Yg a1 ha,by rw[List.length_set];exact e1,λx u hx e=>Yg (k1 x u hx e) ?_⟩;have:=Z7 e;lia
theorem Gr.push {q a:Nat}{S:Sto}{ns:List Nd}{ws:List Nat}(net:ZS q ns ws)(h:S[a]?=some (.lst (ns.map Nd.d)))(U:Sto):Gr q a 0 S ns ws (S++U) ns ws:=⟨net,⟨[],by simp,by simp⟩,⟨[],by simp⟩,ZA h,by simp,λ_ _ _ e=>ZA e⟩
structure Zr (P:LI)(ns:List Nd)(ws:List Nat)(w i:Nat):Prop where
 lt:i<ns.length
 wt:ws.getD i 0<=w
 due:(gt (YK P ns) (i:Int)).1=0
theorem Zr.up (z:Zr P ns ws w i)(h:Gr q a c S ns ws T ns' ws')(net:ZS q ns ws):Zr P ns' ws' w i:=⟨by have:=h.ln;have:=z.lt;lia,by rw[h.wt net z.lt];exact z.wt,by rw[h.due P z.lt];exact z.due⟩
theorem Dc {q a c:Nat}{S T:Sto}{ns ns':List Nd}{ws ws':List Nat}(h:Gr q a c S ns ws T ns' ws')(net:ZS q ns ws){v:Nd}(ok:v.ok ns.length q):v.wt ws'=v.wt ws:=by
 have z:∀i:Int,inR (ns.length:Nat) i->ws'.getD i.toNat 0=ws.getD i.toNat 0:=λi hi=>by
  have h0:=hi.1
  have h1:=hi.2;exact h.wt net (by lia)
 cases v with
 | number _ _=>rfl
 | unknown _=>rfl
 | plus i j=>show ws'.getD i.toNat 0+ws'.getD j.toNat 0=ws.getD i.toNat 0+ws.getD j.toNat 0;rw[z i ok.1,z j ok.2]
 | minus i j=>show ws'.getD i.toNat 0+ws'.getD j.toNat 0=ws.getD i.toNat 0+ws.getD j.toNat 0;rw[z i ok.1,z j ok.2]
 | times i j=>show ws'.getD i.toNat 0+ws'.getD j.toNat 0=ws.getD i.toNat 0+ws.getD j.toNat 0;rw[z i ok.1,z j ok.2]
 | power i n=>show n.toNat*ws'.getD i.toNat 0=n.toNat*ws.getD i.toNat 0;rw[z i ok.1]
theorem zbG {q a c j:Nat}{S T:Sto}{ns ns':List Nd}{ws ws':List Nat}(h:Gr q a c S ns ws T ns' ws'){v:Nd}(ok:v.ok ns.length q)(hj:ns'[j]?=some v)(P:LI):gt (YK P ns') (j:Int)=v.due (YK P ns) P:=by
 rw[zcn (P:=P) h.net hj];refine Dl (k:=ns.length) (q:=q) (λi hi=>?_) v ok;have h0:=hi.1
 have h1:=hi.2
 have z:=h.due P (i:=i.toNat) (by lia);rw[show ((i.toNat:Nat):Int)=i by lia] at z;exact z
def Nd.lit:Nd->Prop
 | .number t _=>t.natAbs<=4
 | _=>True
theorem Ce (ha:1<=a)(hb:1<=b):4^a+4^b<=4^(a+b):=by
 have p:∀k:Nat,1<=k->4<=4^k:=λk hk=>Nat.pow_le_pow_right (show 0<4 by decide) hk
 have x:=p a ha
 have y:=p b hb;rw[Nat.pow_add];have z:=xO (zD (4^a)) y
 have w:=xO x (zD (4^b));lia
theorem R3 (h:S[n]?=some (.frz xs))(hq:Q (.int (xs.length:Nat)) S):irr UW [.ref n] S Q:=by
 rw[Vr];unfold UW;simp only[Z1 h rfl];exact hq
def frS (cs:List Int):Bool:=decide (0<cs.length)&&decide (cs.getD 0 0%2=1)
theorem QR {cs:List Int}{k:Int}(h0:0<=k)(h1:k<cs.length):atI (cs.map D.int) k=some (.int (cs.getD k.toNat 0)):=by
 have z:=DU (ts:=cs) (k:=k.toNat) (by lia);rw[show ((k.toNat:Nat):Int)=k by lia] at z;exact z
theorem Dp {G:Bool×Nat->Prop}:∀xs:List D,(∀(k:Nat)(d:D),xs[k]?=some d->∃p,d=rwD p/\G p)->∃vs:List (Bool×Nat),xs=vs.map rwD/\∀p∈vs,G p
 | [],_=>⟨[],rfl,λp h=>by cases h⟩
 | x::xs,h=>by
  obtain⟨p,rfl,hp⟩:=h 0 x rfl;obtain⟨vs,rfl,hv⟩:=Dp xs λk d hd=>h (k+1) d hd
  exact⟨p::vs,rfl,λq hq=>by
   rcases zQ.mp hq with e|e
   ·subst e;exact hp
   ·exact hv q e⟩
theorem zbZ {a b c d e:TDS}{E:WL}{dl:Ev}{S:Sto}(W:Ev->Sto->Prop)(ha:∀nx:Ev->Sto->Prop,(∀dl' S',W dl' S'->nx dl' S')->Wg a (Wg b (Wg c d)) { nx:=nx,rt:=E.rt,bk:=E.bk,ct:=E.ct } dl S)(hb:∀dl' S',W dl' S'->e E dl' S'):Wg a (Wg b (Wg c (Wg d e))) E dl S:=ha _ hb
def slB (vs:LI)(R:List LI)(g:Int)(q:Nat)(ns:List Nd):List Bool:=List.zipWith (λv r=>UN (Ys vs R g q v) r) ns R
section
variable {X:Cx}{aZ aX:Expr}{aT:List Expr}{kk:Nat}{tp:Pos}{pos:Pos}{sc:Scope}{own N:List Str}{caps:List Nat}{wi:TI}{gt:TG}{te:TE}
end
section
variable {X:Cx}{Z:Zx}{pos:Pos}
def Alk (S:Sto):Nat->D->D->Prop
 | 0,d,e=>eqF d e=some true
 | n+1,d,e=>Alk S n d e\/(∃xs ys,d=.tup xs/\e=.tup ys/\xs.length=ys.length/\∀(k:Nat)(x y:D),xs[k]?=some x->ys[k]?=some y->Alk S n x y)\/
  ∃a b xs ys,d=.ref a/\e=.ref b/\S[a]?=some (.lst xs)/\S[b]?=some (.lst ys)/\xs.length=ys.length/\∀(k:Nat)(x y:D),xs[k]?=some x->ys[k]?=some y->Alk S n x y
theorem IL (n:Nat):(List.range n).all (λ_=>true)=true:=by simp
theorem DB {n:Nat}{A:Around}{aA:LA}{σ:L3.St}{H:Hp}{s:Shared}{r:List Addr}{S:Sto}(I:Inv X aA σ H s)(bC:Rel X.K Z r S H){a b:Nat}{xs ys:List D}{p p':Addr}(hp:r[a]?=some p)(hp':r[b]?=some p')(s1:S[a]?=some (.lst xs))(s2:S[b]?=some (.lst ys))(l:xs.length=ys.length)(hu:A.units<cLine)
  (f:∀ {d e:D} {v1 v2:V} {u1 u2:Value},Alk S n d e->Rp r H d v1->Rp r H e v2->ZH v1 u1->ZH v2 u2->SeqAt.EqAt A.in1 s u1 u2 true)(al:∀(k:Nat)(x y:D),xs[k]?=some x->ys[k]?=some y->Alk S n x y):SeqAt.RcAt A s (.ref p) (.ref p') true:=by
 obtain⟨z,hz,ob⟩:=bC.at s1;rw[hp] at hz;cases hz
 obtain⟨z,hz,ob'⟩:=bC.at s2;rw[hp'] at hz;cases hz
 obtain⟨vs,sq,pr⟩:=ob.list rfl;obtain⟨ws,sq',pr'⟩:=ob'.list rfl;obtain⟨is,ri,pl,_⟩:=I.list sq;obtain⟨js,rj,pl',_⟩:=I.list sq';have g1:=GJ (P:=λS=>Alk S n) (S:=S) f pr pr' ri rj al
 have hs:is.toArray.size=js.toArray.size:=by
  have a1:=ri.length
  have a2:=rj.length
  have a3:=pr.1
  have a4:=pr'.1;simp only[zS];show is.length=js.length
  have a3:xs.length=vs.length:=a3
  have a4:ys.length=ws.length:=a4;lia
 have q:=SeqAt.RcAt.lists (A:=A) (e:=λ_=>true) pl.isList pl'.isList hs hu g1;rw[IL] at q;exact q
theorem RG:∀(n:Nat) {A:Around} {aA:LA} {σ:L3.St} {H:Hp} {s:Shared} {r:List Addr} {S:Sto} {d e:D} {v1 v2:V} {u1 u2:Value},Inv X aA σ H s->Rel X.K Z r S H->Alk S n d e->Rp r H d v1->Rp r H e v2->ZH v1 u1->ZH v2 u2->A.units+n<cLine->SeqAt.EqAt A s u1 u2 true
 | 0,A,aA,σ,H,s,r,S,d,e,v1,v2,u1,u2,I,bC,h,pd,pe,ru1,ru2,hu=>Jg 0 X aA σ H s r A d e v1 v2 u1 u2 true I hu pd pe ru1 ru2 h
 | n+1,A,aA,σ,H,s,r,S,d,e,v1,v2,u1,u2,I,bC,h,pd,pe,ru1,ru2,hu=>by
  rcases h with h|⟨xs,ys,rfl,rfl,l,al⟩|⟨a,b,xs,ys,rfl,rfl,s1,s2,l,al⟩
  ·exact RG n I bC h pd pe ru1 ru2 (by lia)
  ·cases pd with
   | @tup _ vs a h1 l1 f1=>
    cases pe with
    | @tup _ ws b h2 l2 f2=>
     cases ru1;cases ru2;by_cases hne:a=b
     ·subst hne;exact SeqAt.EqAt.same _
     ·obtain⟨is,ri,pl,_⟩:=I.tuple (SqT.of h1);obtain⟨js,rj,pl',_⟩:=I.tuple (SqT.of h2);have g1:=GJ (P:=λS=>Alk S n) (S:=S) (A:=A.in1) (λh p q r1 r2=>RG n I bC h p q r1 r2 (by show A.units+1+n<_;lia)) ⟨l1,f1⟩ ⟨l2,f2⟩ ri rj al
      have q:=SeqAt.RcAt.tuples (A:=A) (e:=λ_=>true) pl pl' (by lia) g1
      have hs:(is.toArray.size==js.toArray.size)=true:=by
       have a1:=ri.length
       have a2:=rj.length;simp only[zS,beq_iff_eq];show is.length=js.length;lia
      rw[IL,hs] at q;exact SeqAt.EqAt.of_refs hne q
  ·cases pd with
   | @ref _ p hp=>
    cases pe with
    | @ref _ p' hp'=>
     cases ru1;cases ru2;by_cases hne:p=p'
     ·subst hne;exact SeqAt.EqAt.same _
     ·exact SeqAt.EqAt.of_refs hne (DB I bC hp hp' s1 s2 l (by lia) (λh p q r1 r2=>RG n I bC h p q r1 r2 (by show A.units+1+n<_;lia)) al)
def wEqK:W2:=λx y S Q=>match x,y with
 | .ref a,.ref b=>(∃xs ys,S[a]?=some (.lst xs)/\S[b]?=some (.lst ys)/\xs.length=ys.length/\∀(k:Nat)(x y:D),xs[k]?=some x->ys[k]?=some y->Alk S 6 x y)/\Q (.bl true) S
 | _,_=>False
theorem zcg (hr:Z3 j X.A):OpR X (compareOp .Eq) (upO X.K Z wEqK):=by
 have hu:=hr.un;intro aA s σ H x y v u Qv I rx ry h;obtain⟨r,S,dx,dy,Q,bC,px,py,q,ret⟩:=h;cases px with
 | @ref n a hn=>
  cases py with
  | @ref m a' hm=>
   cases rx;cases ry;obtain⟨⟨xs,ys,s1,s2,l,al⟩,q⟩:=(show (∃xs ys,_)/\_ from q);exact DB I bC hn hm s1 s2 l (by lia) (λh p q r1 r2=>RG 6 I bC h p q r1 r2 (by show X.A.units+1+6<_;lia)) al X.prog X.w X.xe _ ⟨.bl true,H,I,rfl,ret _ _ _ _ _ Ext.refl bC (.bl true) q⟩
  | _=>exact(show False from q).elim
 | _=>exact(show False from q).elim
end
section
variable {X:Cx}{Z:Zx}{pos:Pos}
@[irreducible] def Sg (T:String)(te:TDE):TDE:=λdl S Q=>te dl S λd S1=>match d with
 | .ref n=>match S1[n]? with
  | some (.lst _)=>Q (.bl (YZ "list" T)) S1
  | _=>False
 | .exc _=>False
 | .non=>Q (.bl (YZ "NoneType" T)) S1
 | .bl _=>Q (.bl (YZ "bool" T)) S1
 | .int _=>Q (.bl (YZ "int" T)) S1
 | .str _=>Q (.bl (YZ "str" T)) S1
 | .tup _=>Q (.bl (YZ "tuple" T)) S1
theorem Gk (K:Fg)(T:String)(hT:T∈["list","tuple","int","str"]):∀t∈["NoneType","bool","int","str","tuple","list"],PySem.W.kitOne K (.type t) (.type T)=some (YZ t T):=by
 simp only[zQ,yR,or_false] at hT;intro t ht;simp only[zQ,yR,or_false] at ht;rcases hT with rfl|rfl|rfl|rfl<;>rcases ht with rfl|rfl|rfl|rfl|rfl|rfl<;>kernel_rfl
theorem GW (KT:∀t∈["NoneType","bool","int","str","tuple","list"],PySem.W.kitOne X.K (.type t) (.type T)=some (YZ t T))(hg:Gl X "isinstance")(hm:X.mg "isinstance"=none)(hg2:Gl X y)(hm2:X.mg y=none)(hv2:bootBuiltins y=some (.type T))(ha:PD X Z e te)(hv:bootBuiltins "isinstance"=some (.builtin "isinstance"):=by exact PyProof.Rows.Boot.«isinstance»)(hn2:y≠"__name__":=by decide)(hd2:(y==("__debug__":Str))=false:=by decide)(he2:starEach [e,.Name y p2] X.env=(false,eval e X.env)::starEach [.Name y p2] X.env:=by rfl)(he3:starEach [.Name y p2] X.env=(false,eval (.Name y p2) X.env)::starEach [] X.env:=by rfl)(hpl:(backTo pos (starEach [.Name y p2] X.env)).any (·.1)=false:=by rfl):
  PD X Z (.Call (.Name "isinstance" p) [e,.Name y p2] [] pos) (Sg T te):=
 Yl (K0 IQ hg hm hv (V8 ha (V8 (IB (v:=.ty T) hg2 hm2 hv2 rfl hn2 hd2) Ph he3) he2) (by decide) (by decide) he2 hpl) λσ H Qv ⟨r,dl,S,Q,rs,bC,h,ret⟩=>by
  unfold Sg at h;refine⟨r,dl,S,_,rs,bC,h,λv H1 r1 d S1 e1 aF p1 h1=>?_⟩;cases p1 with
  | non=>exact⟨_,T,_,_,rfl,.non,KT _ (by simp),ret _ _ _ _ _ e1 aF (.bl _) h1⟩
  | bl b=>exact⟨_,T,_,_,rfl,.bl b,KT _ (by simp),ret _ _ _ _ _ e1 aF (.bl _) h1⟩
  | int b=>exact⟨_,T,_,_,rfl,.int b,KT _ (by simp),ret _ _ _ _ _ e1 aF (.bl _) h1⟩
  | str b=>exact⟨_,T,_,_,rfl,.str b,KT _ (by simp),ret _ _ _ _ _ e1 aF (.bl _) h1⟩
  | tup e2 _ _=>exact⟨_,T,_,_,rfl,.tup e2,KT _ (by simp),ret _ _ _ _ _ e1 aF (.bl _) h1⟩
  | exc _=>exact(show False from h1).elim
  | @ref n a hr=>
   dsimp only at h1;split at h1
   ·rename_i xs eS;obtain⟨ys,eH,_⟩:=aF.b.ob n a _ hr eS;exact⟨_,T,_,_,rfl,.lst eH,KT _ (by simp),ret _ _ _ _ _ e1 aF (.bl _) h1⟩
   ·exact h1.elim
theorem CI {T:String}{te:TDE}{dl:Ev}{S S1:Sto}{Q:DK}{n:Nat}{xs:List D}(ht:∀K:DK,K (.ref n) S1->te dl S K)(h:S1[n]?=some (.lst xs))(hq:Q (.bl (YZ "list" T)) S1):Sg T te dl S Q:=by
 unfold Sg;refine ht _ ?_;simp only[h];exact hq
theorem zda {T:String}{te:TDE}{dl:Ev}{S S1:Sto}{Q:DK}{xs:List D}(ht:∀K:DK,K (.tup xs) S1->te dl S K)(hq:Q (.bl (YZ "tuple" T)) S1):Sg T te dl S Q:=by
 unfold Sg;exact ht _ hq
end
def fstD:D->D
 | .tup (x::_)=>x
 | _=>.non
theorem YJ {a b:TDS}{E:WL}{dl:Ev}{S:Sto}(W:Ev->Sto->Prop)(ha:∀nx:Ev->Sto->Prop,(∀dl' S',W dl' S'->nx dl' S')->a { nx:=nx,rt:=E.rt,bk:=E.bk,ct:=E.ct } dl S)(hb:∀dl' S',W dl' S'->b E dl' S'):Wg a b E dl S:=ha _ hb
theorem W4 (o:Ob):Pre S (S++[o]):=λ_ _ e=>ZA e
theorem Oi (h:Pre S T):Pre S (T++[o]):=λk u e=>ZA (h k u e)
theorem SJ:(S++[o]).set S.length p=S++[p]:=by
 rw[List.set_append_right _ _ (zD _),xJ];rfl
theorem zem (hk:inR bs.length k)(hi:inR bs.length i):gt (bs.set k.toNat q) i=if i=k then q else gt bs i:=by
 obtain⟨k0,k1⟩:=hk;obtain⟨i0,i1⟩:=hi;have e:∀l:LI,gt l i=(l[i.toNat]?).getD (gt l (-1:Int) |> λ_=>(l.getD i.toNat (gt [] 0))):=λl=>by
  show l.getD i.toNat _=_;rw[zK];cases h:l[i.toNat]? with
  | none=>simp[gt,zK,h]
  | some x=>rfl
 by_cases c:i=k
 ·subst c;rw[if_pos rfl];have z:(bs.set i.toNat q)[i.toNat]?=some q:=xI (by lia);exact by rw[e,z];rfl
 ·rw[if_neg c];have z:(bs.set k.toNat q)[i.toNat]?=bs[i.toNat]?:=yM (by lia)
  have y:bs[i.toNat]?=some bs[i.toNat]:=zC (by lia);rw[e,e,z,y];rfl
theorem InW.set {g:Int}{hb P:LI}{k:Int}{q:Int×Int}(h:InW g hb P)(hl:hb.length=P.length)(hk:inR hb.length k)(hq:q.1*(gt P k).2<=(gt P k).1*g/\(gt P k).1*g<=q.2*(gt P k).2):InW g (hb.set k.toNat q) P:=λi hi=>by
 rw[zem hk (by rw[hl];exact hi)];split
 ·rename_i e;rw[e];exact hq
 ·exact h i hi
theorem zez {S:Sto}{n:Nat}{xs:List D}(h:∀x∈xs,eqF x x=some true):Alk S (n+1) (.tup xs) (.tup xs):=.inr (.inl ⟨xs,xs,rfl,rfl,rfl,λk x y hx hy=>by
 rw[hx] at hy;cases hy;have e:=h x (zN hx)
 have z:∀n:Nat,Alk S n x x:=λn=>by
  induction n with
  | zero=>exact e
  | succ n ih=>exact .inl ih
 exact z n⟩)
theorem alk0 {S:Sto}{x:D}(e:eqF x x=some true):∀n:Nat,Alk S n x x
 | 0=>e
 | n+1=>.inl (alk0 e n)
theorem D4 {S:Sto}{n:Nat}(p:Int×Int):Alk S (n+1) (frD p) (frD p):=zez λx hx=>by
 simp only[zQ,yR,or_false] at hx;rcases hx with rfl|rfl<;>simp[eqF]
theorem CL {S:Sto}{n a b:Nat}{α:Type}{f:α->D}{xs:List α}(hf:∀x,Alk S n (f x) (f x))(h1:S[a]?=some (.lst (xs.map f)))(h2:S[b]?=some (.lst (xs.map f))):Alk S (n+1) (.ref a) (.ref b):=.inr (.inr ⟨a,b,_,_,rfl,rfl,h1,h2,rfl,λk x y hx hy=>by
 rw[hx] at hy;cases hy;obtain⟨q,_,rfl⟩:=zH.mp (zN hx);exact hf q⟩)
def YL (g:Int)(bs aC:LI)(R:List LI)(is:List Nat)(M:List (List Int)):LI:=M.mapIdx λk es=>YW g bs (is.map λ(i:Nat)=>gt aC (i:Int)) (is.map λi=>R.getD i []) k es
structure QU (S:Sto)(d:D)(M:List (List Int))(aE vs aC:LI)(R:List LI):Prop where
 ex:∃(a b c e f:Nat)(ms ds:List D),d=.tup [.str "one",.ref a,.ref b,.ref c,.ref e,.ref f]/\S[a]?=some (.lst ms)/\YG S ms M/\S[b]?=some (.lst (aE.map frD))/\S[c]?=some (.lst (vs.map frD))/\S[e]?=some (.lst (aC.map frD))/\S[f]?=some (.lst ds)/\Z2 S 0 ds R
theorem QU.pre (h:QU S d M aE vs aC R)(p:Pre S T):QU T d M aE vs aC R:=by
 obtain⟨a,b,c,e,f,ms,ds,h0,h1,h2,h3,h4,h5,h6,h7⟩:=h.ex;exact⟨a,b,c,e,f,ms,ds,h0,p _ _ h1,h2.pre p,p _ _ h3,p _ _ h4,p _ _ h5,p _ _ h6,h7.pre p⟩
def Hs (S:Sto)(nd rw bx:Nat)(g:Int)(d:D)(ans:Bool):Prop:=∃(ns:List Nd)(ws:List Nat)(rows:List (Bool×Nat))(bs aE vs aC:LI)(M:List (List Int))(R:List LI),S[nd]?=some (.lst (ns.map Nd.d))/\S[rw]?=some (.lst (rows.map rwD))/\S[bx]?=some (.lst (bs.map frD))/\QU S d M aE vs aC R/\ZS bs.length ns ws/\ns.length<=900/\rows.length<=900/\(vs.length=ns.length/\aC.length=ns.length/\R.length=ns.length)/\Spn 1000 vs/\Spn 1000 aC/\UN ((ns.take vs.length).map λv=>v.fw vs bs g) vs=true/\UN ((ns.take aC.length).map λv=>v.fw aC (bs.map ZF) g) aC=true/\(∀r∈rows,r.2<ns.length)/\SlW bs.length ws R/\(slB vs R g bs.length ns).all id=true/\(eqs rows).length=bs.length/\M.length=bs.length/\(∀r∈M,r.length=bs.length/\∀x∈r,Sz 4000 x)/\aE.length=bs.length/\(1<=bs.length/\bs.length<=4)/\Bd 60 bs/\(1<=g/\g<=1000000)/\ans=(XG rows vs&&(UN (YL g bs aC R (eqs rows) M) aE&&XU aE bs))
theorem Hs.pre (h:Hs S nd rw bx g d ans)(p:Pre S T):Hs T nd rw bx g d ans:=by
 obtain⟨ns,ws,rows,bs,aE,vs,aC,M,R,h1,h2,h3,h4,h5⟩:=h;exact⟨ns,ws,rows,bs,aE,vs,aC,M,R,p _ _ h1,p _ _ h2,p _ _ h3,h4.pre p,h5⟩
def Zb (P P2:LI)(ns:List Nd)(ws:List Nat)(w i:Nat):Prop:=Zr P ns ws w i/\Zr P2 ns ws w i
theorem Zb.up (z:Zb P P2 ns ws w i)(h:Gr q a c S ns ws T ns' ws')(net:ZS q ns ws):Zb P P2 ns' ws' w i:=⟨z.1.up h net,z.2.up h net⟩
theorem zbd (ho:S[n]?=some o)(hd:atI (Zu o) i=some d)(hq:Q d S)(hL:Xj o=some o:=by rfl):wIx (.ref n) (.int i) S Q:=by
 unfold wIx;simp only[Z1 ho hL,hd];exact hq
def Yx (S:Sto)(lo:Nat)(ds:List D)(M:List (List Int)):Prop:=ds.length=M.length/\∀(k:Nat)(d:D)(r:List Int),ds[k]?=some d->M[k]?=some r->∃a,d=.ref a/\lo<=a/\S[a]?=some (.lst (r.map D.int))
theorem Yx.nil {S:Sto}{lo:Nat}:Yx S lo [] []:=⟨rfl,λk d r h=>by simp at h⟩
theorem Yx.keep {S T:Sto}{lo:Nat}{ds:List D}{R:List (List Int)}(h:Yx S lo ds R)(p:∀(x:Nat)(o:Ob),lo<=x->S[x]?=some o->T[x]?=some o):Yx T lo ds R:=⟨h.1,λk d r hd hr=>by
 obtain⟨a,e,l,s⟩:=h.2 k d r hd hr;exact⟨a,e,l,p _ _ l s⟩⟩
theorem Yx.toI {S:Sto}{lo:Nat}{ds:List D}{R:List (List Int)}(h:Yx S lo ds R):YG S ds R:=⟨h.1,λk d r hd hr=>by
 obtain⟨a,e,l,s⟩:=h.2 k d r hd hr;exact⟨a,e,s⟩⟩
theorem Yx.snoc {S:Sto}{lo:Nat}{ds:List D}{R:List (List Int)}{a:Nat}{r:List Int}(h:Yx S lo ds R)(hl:lo<=a)(hs:S[a]?=some (.lst (r.map D.int))):Yx S lo (ds++[.ref a]) (R++[r]):=⟨by rw[zO,zO,h.1];rfl,λk d r' hd hr=>by
 by_cases hk:k<ds.length
 ·rw[zV hk] at hd;rw[zV (by rw[<- h.1];exact hk)] at hr;exact h.2 k d r' hd hr
 ·have l:=(zF.mp hd).1;simp only[zO,zY,xC] at l;have ek:k=ds.length:=by lia
  subst ek;rw[yI (zD _),xJ] at hd;rw[h.1,yI (zD _),xJ] at hr;cases hd;cases hr;exact⟨a,rfl,hl,hs⟩⟩
theorem YG.at {S:Sto}{ds:List D}{M:List (List Int)}(h:YG S ds M){k:Nat}(hk:k<M.length):∃a,atI ds (k:Int)=some (.ref a)/\S[a]?=some (.lst ((M.getD k []).map D.int)):=by
 have hk':k<ds.length:=by rw[h.1];exact hk
 obtain⟨a,e,s⟩:=h.2 k _ _ (zC hk') (zC hk);refine⟨a,X2 (by rw[zC hk',e]),?_⟩;rw[s,zK,zC hk];rfl
def midD:D->D
 | .tup [.int a,.int b]=>.int ((a+b)/2)
 | d=>d
theorem zcG (r:LI):(r.map frD).map midD=(r.map λp=>(p.1+p.2)/2).map D.int:=by
 rw[zU,zU];rfl
def UX:D->D
 | .tup [.int a,.int b]=>.tup [.int ((a+b)/2),.int ((a+b)/2)]
 | d=>d
theorem FV (r:LI):(r.map frD).map UX=(r.map ZF).map frD:=by
 rw[zU,zU];rfl
theorem Bc (hb:b≠0)(h:Sz n t):Sz (n+1) (t.fdiv b):=by
 have z:(t.fdiv b).natAbs<=t.natAbs+1:=by
  rcases Int.lt_or_gt_of_ne hb with c|c
  ·have y:=DC (t:=-t) (b:=-b) (by lia);rw[Int.neg_fdiv_neg] at y;lia
  ·exact DC c
 unfold Sz at *
 have e:(2:Nat)^(n+1)=2^n+2^n:=by rw[Nat.pow_succ];lia
 have p:0<(2:Nat)^n:=yJ (by decide);lia
theorem D8 (ha:Sz n a)(hb:Sz n b):Sz (n+1) ((a+b)/2):=by
 have z:=(ha.add hb).div (show (1:Int)<=2 by decide);rw[Nat.max_self] at z;exact z
theorem Et (m a b:Int×Int):Yu (Yu m a) b=Yu m (YY a b):=by
 unfold Yu YY;ext<;>dsimp only<;>lia
theorem zeq (m a b:Int×Int):YY (YY m a) b=YY m (YY a b):=by
 unfold YY;ext<;>dsimp only<;>lia
theorem Gu (g:Int)(us vs:LI):sumP g (us.take 0) (vs.take 0)=(0,0):=rfl
theorem E6 (m:Int×Int):Yu m (0,0)=m:=by
 unfold Yu;ext<;>dsimp only<;>lia
theorem zee (m:Int×Int):YY m (0,0)=m:=by
 unfold YY;ext<;>dsimp only<;>lia
theorem zaA (h:1<=n:=by decide):1<2^n:=yD (show 1<2^1 by decide) (Nat.pow_le_pow_right (by decide) h)
inductive Pt
 | word (w:Str)
 | flat (vs:LI)
 | deep (L:List (List D))
def PtAt (S:Sto)(lo:Nat)(d:D):Pt->Prop
 | .word w=>d=.str w
 | .flat vs=>∃m,d=.ref m/\lo<=m/\S[m]?=some (.lst (vs.map frD))
 | .deep L=>∃(m:Nat)(ds:List D),d=.ref m/\lo<=m/\S[m]?=some (.lst ds)/\ds.length=L.length/\∀(k:Nat)(d:D)(xs:List D),ds[k]?=some d->L[k]?=some xs->∃a,d=.ref a/\lo<=a/\S[a]?=some (.lst xs)
theorem PtAt.keep {S T:Sto}{lo:Nat}{d:D}:∀ {p:Pt},PtAt S lo d p->(∀(x:Nat)(o:Ob),lo<=x->S[x]?=some o->T[x]?=some o)->PtAt T lo d p
 | .word _,h,_=>h
 | .flat _,⟨m,a,b,c⟩,k=>⟨m,a,b,k _ _ b c⟩
 | .deep _,⟨m,ds,a,b,c,l,f⟩,k=>⟨m,ds,a,b,k _ _ b c,l,λi d xs hd hx=>by
  obtain⟨x,e,g,s⟩:=f i d xs hd hx;exact⟨x,e,g,k _ _ g s⟩⟩
def HvOk (ns:List Nd)(ws:List Nat):Prop:=∀(i:Nat)(v:Nd),ns[i]?=some v->ws.getD i 0=v.hv
theorem HvOk.gr (h:HvOk ns ws)(g:Gr q a c S ns ws T ns' ws')(net:ZS q ns ws)(ok:v.ok ns.length q)(nw:∀(i:Nat)(u:Nd),ns.length<=i->ns'[i]?=some u->u=v)(w:v.wt ws=v.hv):HvOk ns' ws':=λi u hu=>by
 by_cases c:i<ns.length
 ·have e:=zC c
  have e2:=g.get e;rw[hu] at e2;cases e2;rw[g.wt net c];exact h i _ e
 ·have e:=nw i u (by lia) hu;subst e;rw[(g.net.ok i u hu).2.1,Dc g net ok];exact w
theorem Zr.app (z:Zr P ns ws w i)(net:ZS q ns ws):Zr P (ns++ms) (ws++us) w i:=⟨by rw[zO];have:=z.lt;lia,by rw[HC (by rw[net.len];exact z.lt)];exact z.wt,by rw[O3 ⟨by lia,by have:=z.lt;lia⟩];exact z.due⟩
def vI (B:Nat)(g:Int)(p:Int×Int):Prop:=p.1<=p.2/\-((B:Int)*g)<=p.1/\p.2<=(B:Int)*g
theorem vI.mono {B C:Nat}{g:Int}{p:Int×Int}(h:vI B g p)(hg:1<=g)(l:B<=C):vI C g p:=by
 have z:=Int.mul_le_mul_of_nonneg_right (show (B:Int)<=C by lia) (show 0<=g by lia);exact⟨h.1,by have:=h.2.1;lia,by have:=h.2.2;lia⟩
theorem vI.plus {B C:Nat}{g:Int}{p r:Int×Int}(h:vI B g p)(k:vI C g r):vI (B+C) g (p.1+r.1,p.2+r.2):=by
 obtain⟨a,b,c⟩:=h;obtain⟨d,e,f⟩:=k;have z:((B+C:Nat):Int)*g=(B:Int)*g+(C:Int)*g:=by rw[Int.natCast_add,Int.add_mul]
 unfold vI;rw[z];dsimp only;lia
theorem vI.minus {B C:Nat}{g:Int}{p r:Int×Int}(h:vI B g p)(k:vI C g r):vI (B+C) g (p.1-r.2,p.2-r.1):=by
 obtain⟨a,b,c⟩:=h;obtain⟨d,e,f⟩:=k;have z:((B+C:Nat):Int)*g=(B:Int)*g+(C:Int)*g:=by rw[Int.natCast_add,Int.add_mul]
 unfold vI;rw[z];dsimp only;lia
theorem QY {x A d:Int}(hd:1<=d)(h1:-(A*d)<=x)(h2:x<=A*d):-A<=x/d/\-(-x/d)<=A:=by
 constructor
 ·exact Int.le_ediv_of_mul_le (by lia) (by rw[yQ];exact h1)
 ·have z:-A<=-x/d:=Int.le_ediv_of_mul_le (by lia) (by rw[yQ];lia);lia
theorem Te {x y A B:Int}(hx:-A<=x/\x<=A)(hy:-B<=y/\y<=B):-(A*B)<=x*y/\x*y<=A*B:=by
 have e:(x*y).natAbs<=A.natAbs*B.natAbs:=by rw[Int.natAbs_mul];exact xO (by lia) (by lia)
 have f:((A.natAbs*B.natAbs:Nat):Int)=A*B:=by
  rw[Int.natCast_mul,Int.natAbs_of_nonneg (show 0<=A by lia),Int.natAbs_of_nonneg (show 0<=B by lia)]
 lia
theorem za6 {a b c d A B:Int}(ha:-A<=a/\a<=A)(hb:-A<=b/\b<=A)(hc:-B<=c/\c<=B)(hd:-B<=d/\d<=B):-(A*B)<=mn4 a b c d/\mx4 a b c d<=A*B/\mn4 a b c d<=A*B/\-(A*B)<=mx4 a b c d:=by
 have h1:=Te ha hc
 have h2:=Te ha hd
 have h3:=Te hb hc
 have h4:=Te hb hd;unfold mn4 mx4;refine⟨?_,?_,?_,?_⟩
 ·exact Int.le_min.mpr ⟨Int.le_min.mpr ⟨h1.1,h2.1⟩,Int.le_min.mpr ⟨h3.1,h4.1⟩⟩
 ·exact Int.max_le.mpr ⟨Int.max_le.mpr ⟨h1.2,h2.2⟩,Int.max_le.mpr ⟨h3.2,h4.2⟩⟩
 ·exact yO (Int.min_le_left ..) (yO (Int.min_le_left ..) h1.2)
 ·exact yO h1.1 (yO (Int.le_max_left ..) (Int.le_max_left ..))
theorem Hu {x y d:Int}(hd:1<=d)(h:x<=y):x/d<=-(-y/d):=by
 have a:=(Q1 x (show 0<d by lia)).1
 have b:=(ED y (show 0<d by lia)).1;exact Int.le_of_mul_le_mul_right (show x/d*d<=-(-y/d)*d by lia) (by lia)
theorem vI.times {B C:Nat}{g:Int}{p r:Int×Int}(hg:1<=g)(h:vI B g p)(k:vI C g r):vI (B*C) g (mn4 p.1 p.2 r.1 r.2/g,-(-mx4 p.1 p.2 r.1 r.2/g)):=by
 obtain⟨a,b,c⟩:=h;obtain⟨d,e,f⟩:=k;have z:=za6 (A:=(B:Int)*g) (B:=(C:Int)*g) (a:=p.1) (b:=p.2) (c:=r.1) (d:=r.2) ⟨b,by lia⟩ ⟨by lia,c⟩ ⟨e,by lia⟩ ⟨by lia,f⟩
 have y:(B:Int)*g*((C:Int)*g)=((B*C:Nat):Int)*g*g:=by rw[Int.natCast_mul];grind
 rw[y] at z;have lo:=QY hg z.1 z.2.2.1
 have hi:=QY hg z.2.2.2 z.2.1;exact⟨Hu hg (HM ..),lo.1,hi.2⟩
theorem Iz {x A:Int}(h:-A<=x/\x<=A):∀n:Nat,-(A^n)<=x^n/\x^n<=A^n
 | 0=>by rw[xU,xU];lia
 | n+1=>by
  rw[xD,xD];exact Te (Iz h n) h
theorem vI.power {B n:Nat}{g:Int}{p:Int×Int}(hg:1<=g)(h:vI B g p)(hn:1<=n):vI (B^n) g (Yk p.1 p.2 n/g^(n-1),-(-Y8 p.1 p.2 n/g^(n-1))):=by
 obtain⟨a,b,c⟩:=h;have z1:=Iz (A:=(B:Int)*g) (x:=p.1) ⟨b,by lia⟩ n
 have z2:=Iz (A:=(B:Int)*g) (x:=p.2) ⟨by lia,c⟩ n
 have pg:1<=g^(n-1):=yS (by lia)
 have y:((B:Int)*g)^n=((B^n:Nat):Int)*g*g^(n-1):=by
  obtain⟨m,rfl⟩:∃m,n=m+1:=⟨n-1,by lia⟩;rw[Int.mul_pow,Int.natCast_pow,Nat.add_sub_cancel,xD g m];grind
 rw[y] at z1 z2;have lo:-(((B^n:Nat):Int)*g*g^(n-1))<=Yk p.1 p.2 n/\Yk p.1 p.2 n<=((B^n:Nat):Int)*g*g^(n-1):=by
  unfold Yk;have nn:0<=((B^n:Nat):Int)*g*g^(n-1):=by lia
  split
  ·lia
  ·exact⟨Int.le_min.mpr ⟨z1.1,z2.1⟩,yO (Int.min_le_left ..) z1.2⟩
 have hi:-(((B^n:Nat):Int)*g*g^(n-1))<=Y8 p.1 p.2 n/\Y8 p.1 p.2 n<=((B^n:Nat):Int)*g*g^(n-1):=by
  unfold Y8;exact⟨yO z1.1 (Int.le_max_left ..),Int.max_le.mpr ⟨z1.2,z2.2⟩⟩
 exact⟨Hu pg (J7 ..),(QY pg lo.1 lo.2).1,(QY pg hi.1 hi.2).2⟩
theorem vI.number {B:Nat}{g t b:Int}(hg:1<=g)(hb:1<=b)(ht:t.natAbs<=B*b.natAbs):vI B g (t*g/b,-(-(t*g)/b)):=by
 have m:((B*b.natAbs:Nat):Int)=(B:Int)*b:=by rw[Int.natCast_mul,Int.natAbs_of_nonneg (show 0<=b by lia)]
 have h1:=Int.mul_le_mul_of_nonneg_right (show t<=(B:Int)*b by lia) (show 0<=g by lia)
 have h2:=Int.mul_le_mul_of_nonneg_right (show -((B:Int)*b)<=t by lia) (show 0<=g by lia)
 have e:(B:Int)*b*g=(B:Int)*g*b:=by grind
 rw[e] at h1;rw[yQ,e] at h2;have z:=QY hb h2 h1;exact⟨Hu hb (yH _),z.1,z.2⟩
theorem MG {bs:LI}{g:Int}{ns ms:List Nd}{i:Int}(hi:inR ns.length i):gt (Zo bs g (ns++ms)) i=gt (Zo bs g ns) i:=by
 have z:=AY bs g (ns++ms) ns.length (by rw[zO];lia);rw[List.take_left'  rfl] at z;have h0:=hi.1
 have h1:=hi.2
 have k:i.toNat<ns.length:=by lia
 have e1:(Zo bs g ns)[i.toNat]?=(Zo bs g (ns++ms))[i.toNat]?:=by rw[<- z,List.getElem?_take_of_lt k]
 have l1:i.toNat<(Zo bs g ns).length:=by rw[Y2];exact k
 have a:=X4 (zC l1)
 have b:=X4 (vs:=Zo bs g (ns++ms)) (k:=i.toNat) (e1.symm.trans (zC l1));rw[show ((i.toNat:Nat):Int)=i by lia] at a b;rw[a,b]
theorem Gp {q:Nat}{ns:List Nd}{ws:List Nat}{bs:LI}{g:Int}{j:Nat}{v:Nd}(net:ZS q ns ws)(hv:ns[j]?=some v):gt (Zo bs g ns) (j:Int)=v.fw (Zo bs g ns) bs g:=by
 have lj:=(zF.mp hv).1
 have e:ns=ns.take j++v::ns.drop (j+1):=by
  have z:=List.getElem_cons_drop (h:=lj);rw[(zF.mp hv).2] at z;rw[z,List.take_append_drop]
 have ok:=(net.ok j v hv).1
 have lt:(ns.take j).length=j:=by rw[zW];lia
 have c:v.fw (Zo bs g ns) bs g=v.fw (Zo bs g (ns.take j)) bs g:=DX (k:=j) (q:=(q:Int)) (λi hi=>by
  have z:=MG (bs:=bs) (g:=g) (ns:=ns.take j) (ms:=v::ns.drop (j+1)) (i:=i) (by rw[lt];exact hi);rw[<- e] at z;exact z) v ok
 rw[c];have s:=SX bs g (ns.take j) v
 have p:=MG (bs:=bs) (g:=g) (ns:=ns.take j++[v]) (ms:=ns.drop (j+1)) (i:=(j:Int)) ⟨by lia,by rw[zO,lt];exact Int.lt_succ _⟩;rw[xN,List.singleton_append,<- e,s] at p;rw[p];exact EV (by rw[Y2,lt])
theorem TC {q a c j:Nat}{S T:Sto}{ns ns':List Nd}{ws ws':List Nat}(h:Gr q a c S ns ws T ns' ws'){v:Nd}(ok:v.ok ns.length q)(hj:ns'[j]?=some v)(bs:LI)(g:Int):gt (Zo bs g ns') (j:Int)=v.fw (Zo bs g ns) bs g:=by
 rw[Gp h.net hj];obtain⟨ms,rfl,_⟩:=h.pn;exact DX (k:=ns.length) (q:=(q:Int)) (λi hi=>MG hi) v ok
theorem Gr.fw {q a c:Nat}{S T:Sto}{ns ns':List Nd}{ws ws':List Nat}(h:Gr q a c S ns ws T ns' ws')(bs:LI)(g:Int){i:Nat}(hi:i<ns.length):gt (Zo bs g ns') (i:Int)=gt (Zo bs g ns) (i:Int):=by
 obtain⟨ms,rfl,_⟩:=h.pn;exact MG ⟨by lia,by lia⟩
theorem zao {q:Nat}{ns:List Nd}{ws:List Nat}{bs:LI}{g:Int}(hg:1<=g)(net:ZS q ns ws)(lit:∀v∈ns,v.lit)(hP:∀k:Int,inR q k->vI 4 g (gt bs k)):∀j:Nat,j<ns.length->vI (4^ws.getD j 0) g (gt (Zo bs g ns) (j:Int)):=by
 intro j
 induction j using Nat.strongRecOn with
 | ind j ih=>
  intro hj;have hv:=zC hj
  have hl:=lit _ (zZ hj);generalize ns[j]=v at hv hl;obtain⟨ok,ew,w1,w16⟩:=net.ok j v hv;rw[Gp net hv,ew];have at':∀i:Int,inR (j:Nat) i->vI (4^ws.getD i.toNat 0) g (gt (Zo bs g ns) i)/\1<=ws.getD i.toNat 0:=λi hi=>by
   have h0:=hi.1
   have h1:=hi.2
   have z:=ih i.toNat (by lia) (by lia);rw[show ((i.toNat:Nat):Int)=i by lia] at z;exact⟨z,(net.w1 (i:=i) ⟨h0,by lia⟩).1⟩
  cases v with
  | number t b=>
   have h4:t.natAbs<=4:=hl
   have hb:=ok.1.1;exact vI.number hg hb (show t.natAbs<=4^1*b.natAbs by lia)
  | unknown k=>exact hP k ok
  | plus i k=>
   have a:=at' i ok.1
   have b:=at' k ok.2;exact(a.1.plus b.1).mono hg (Ce a.2 b.2)
  | minus i k=>
   have a:=at' i ok.1
   have b:=at' k ok.2;exact(a.1.minus b.1).mono hg (Ce a.2 b.2)
  | times i k=>
   have a:=at' i ok.1
   have b:=at' k ok.2;exact(vI.times hg a.1 b.1).mono hg (by rw[<- Nat.pow_add];exact zD _)
  | power i m=>
   have a:=at' i ok.1
   have hm:=ok.2.1;refine(vI.power (n:=m.toNat) hg a.1 (by lia)).mono hg ?_;rw[<- Nat.pow_mul];show 4^(ws.getD i.toNat 0*m.toNat)<=4^(m.toNat*ws.getD i.toNat 0);rw[Nat.mul_comm];exact zD _
theorem Spn.mids {bs:LI}(sb:Spn 51 bs):Spn 51 (bs.map ZF):=λp hp=>by
 obtain⟨r,hr,rfl⟩:=zH.mp hp;have z:=sb r hr
 have e:Sz 51 (mid r):=by
  have a:=z.2.1
  have b:=z.2.2
  have o:=z.1;unfold Sz at *
  unfold mid;lia
 exact⟨yH _,e,e⟩
def Xd (M:List (List Int))(i k:Nat):Int:=(M.getD ((i+1)%3) []).getD ((k+1)%3) 0*(M.getD ((i+2)%3) []).getD ((k+2)%3) 0-(M.getD ((i+1)%3) []).getD ((k+2)%3) 0*(M.getD ((i+2)%3) []).getD ((k+1)%3) 0
theorem Ku {M:List (List Int)}(lM:M.length=3)(zM:∀r∈M,r.length=3/\∀x∈r,Sz 1101 x)(i k:Nat):Sz 2203 (Xd M i k):=by
 have get:∀x y:Nat,x<3->y<3->Sz 1101 ((M.getD x []).getD y 0):=λx y hx hy=>by
  obtain⟨l3,z⟩:=zM (M.getD x []) (by rw[zK,zC (show x<M.length by lia)];exact zZ ..);generalize M.getD x []=w at l3 z;refine z _ ?_;rw[zK,zC (show y<w.length by lia)];exact zZ ..
 have h:∀n:Nat,n%3<3:=λn=>Nat.mod_lt _ (by decide)
 exact(((get _ _ (h _) (h _)).mul (get _ _ (h _) (h _))).sub ((get _ _ (h _) (h _)).mul (get _ _ (h _) (h _)))).mono (by decide)
theorem sum3 {zs:List Int}(l:zs.length=3)(h:∀z∈zs,Sz 3304 z):Sz 3400 zs.sum:=by
 match zs,l,h with
 | [a,b,c],_,h=>
  have x:=((h a (by simp)).add ((h b (by simp)).add (h c (by simp)))).mono (show _<=3400 by decide)
  have e:[a,b,c].sum=a+(b+c):=by simp
  rw[e];exact x
def Hf (S:Sto)(nd rw bx:Nat)(g:Int)(d:D)(ans:Bool):Prop:=∃(ns:List Nd)(ws:List Nat)(rows:List (Bool×Nat))(bs aE vs aC:LI)(M:List (List Int))(R:List LI),S[nd]?=some (.lst (ns.map Nd.d))/\S[rw]?=some (.lst (rows.map rwD))/\S[bx]?=some (.lst (bs.map frD))/\QU S d M aE vs aC R/\ZS bs.length ns ws/\ns.length<=900/\rows.length<=900/\(vs.length=ns.length/\aC.length=ns.length/\R.length=ns.length)/\Spn 1000 vs/\Spn 1000 aC/\UN ((ns.take vs.length).map λv=>v.fw vs bs g) vs=true/\UN ((ns.take aC.length).map λv=>v.fw aC (bs.map ZF) g) aC=true/\(∀r∈rows,r.2<ns.length)/\M.length=bs.length/\aE.length=bs.length/\(1<=bs.length/\bs.length<=4)/\Bd 60 bs/\(1<=g/\g<=1000000)/\
 (((∃r∈R,r.length≠bs.length)/\ans=false)\/(SlW bs.length ws R/\(slB vs R g bs.length ns).all id=true/\((((eqs rows).length≠bs.length\/∃r∈M,r.length≠bs.length)/\ans=false)\/((eqs rows).length=bs.length/\(∀r∈M,r.length=bs.length/\∀x∈r,Sz 4000 x)/\ans=(XG rows vs&&(UN (YL g bs aC R (eqs rows) M) aE&&XU aE bs))))))
theorem Hf.pre {S T:Sto}{nd rw bx:Nat}{g:Int}{d:D}{ans:Bool}(h:Hf S nd rw bx g d ans)(p:Pre S T):Hf T nd rw bx g d ans:=by
 obtain⟨ns,ws,rows,bs,aE,vs,aC,M,R,h1,h2,h3,h4,h5⟩:=h;exact⟨ns,ws,rows,bs,aE,vs,aC,M,R,p _ _ h1,p _ _ h2,p _ _ h3,h4.pre p,h5⟩
theorem zdv {S:Sto}{n:Nat}{o:Ob}(h:S[n]?=some o):S.set n o=S:=by
 obtain⟨l,e⟩:=zF.mp h;rw[<- e];exact List.set_getElem_self l
def Vz (S:Sto)(ds:List D)(L:List (List D)):Prop:=ds.length=L.length/\∀(k:Nat)(d:D)(xs:List D),ds[k]?=some d->L[k]?=some xs->∃a,d=.ref a/\S[a]?=some (.lst xs)
theorem C0 {caps:List Nat}{tl:TDE}{dl:Ev}{S S1:Sto}{Q:DK}{n:Nat}{ds:List D}{L:List (List D)}(htl:∀K:DK,K (.ref n) S1->tl dl S K)(h1:S1[n]?=some (.lst ds))(rd:Vz S1 ds L)(l9:L.length<=1000)
  (hq:∀(T:Sto)(es:List D),Pre S1 T->T[S1.length]?=some (.lst es)->Vz T es L->Q (.ref S1.length) T):XY caps tl Xx (MI (irr Oe) (Dz (WA 0) dNil)) dl S Q:=by
 have ld:=rd.1;refine GK (n:=n) (S1:=S1) (o:=.lst ds) (λk ys S3=>S3[S1.length]?=some (.lst ys)/\ys.length=k/\Pre S1 S3/\∀(j:Nat)(y:D)(zs:List D),ys[j]?=some y->L[j]?=some zs->∃a,y=.ref a/\S1.length<a/\S3[a]?=some (.lst zs)) htl h1 (λk ys S3 ⟨a,b,c,_⟩=>⟨c _ _ h1,a,b⟩) (by show ds.length<=1000;lia) ⟨Zv _ _,rfl,W4 _,λj y zs hy=>by cases hy⟩ ?_ ?_
 ·rintro k x ys S3 K3 hx ⟨g1,g2,g3,g4⟩ hK3;have hx':ds[k]?=some x:=hx
  have lk:=(zF.mp hx').1
  have hL:=zC (show k<L.length by lia);generalize L[k]=zs at hL;obtain⟨a,rfl,ha⟩:=rd.2 k x zs hx' hL;have ha3:=g3 _ _ ha;refine U4 (o:=.lst zs) (Z1 ha3 rfl) ?_;refine hK3 (.ref S3.length) (S3++[.lst zs]) (ZA g1) ?_;have l3:=Z7 g1;refine⟨Yv (ZA g1),by rw[zO,g2];rfl,λx o e=>Yg (ZA (g3 x o e)) (by have:=Z7 e;lia),λj y zs' hy hz=>?_⟩;by_cases cj:j<ys.length
  ·rw[zV cj] at hy;obtain⟨a',e',l',s'⟩:=g4 j y zs' hy hz;exact⟨a',e',l',Yg (ZA s') (by lia)⟩
  ·have l1:=(zF.mp hy).1;simp only[zO,zY,xC] at l1;have ee:j=ys.length:=by lia
   subst ee;rw[yI (zD _),xJ] at hy;cases hy;rw[g2,hL] at hz;cases hz;exact⟨_,rfl,by lia,Yg (Zv _ _) (by lia)⟩
 ·rintro ys S2 ⟨g1,g2,g3,g4⟩;have g2':ys.length=ds.length:=g2;exact hq S2 ys g3 g1 ⟨by lia,λk d xs hd hx=>by
   obtain⟨a,e,_,s⟩:=g4 k d xs hd hx;exact⟨a,e,s⟩⟩
theorem YG.toD {S:Sto}{ds:List D}{M:List (List Int)}(h:YG S ds M):Vz S ds (M.map (·.map D.int)):=⟨by rw[zA];exact h.1,λk d xs hd hx=>by
 rw[zG] at hx;obtain⟨r,hr,rfl⟩:=zP.mp hx;exact h.2 k d r hd hr⟩
theorem Vz.toI {S:Sto}{ds:List D}{M:List (List Int)}(h:Vz S ds (M.map (·.map D.int))):YG S ds M:=⟨by rw[h.1,zA],λk d r hd hr=>h.2 k d _ hd (by rw[zG,hr];rfl)⟩
theorem Z2.toD {S:Sto}{lo:Nat}{ds:List D}{R:List LI}(h:Z2 S lo ds R):Vz S ds (R.map (·.map frD)):=⟨by rw[zA];exact h.1,λk d xs hd hx=>by
 rw[zG] at hx;obtain⟨r,hr,rfl⟩:=zP.mp hx;obtain⟨a,e,_,s⟩:=h.2 k d r hd hr;exact⟨a,e,s⟩⟩
theorem Vz.pre {S T:Sto}{ds:List D}{L:List (List D)}(h:Vz S ds L)(p:Pre S T):Vz T ds L:=⟨h.1,λk d r hd hr=>by
 obtain⟨a,e,s⟩:=h.2 k d r hd hr;exact⟨a,e,p _ _ s⟩⟩
def Wn (q:Nat)(r:List Int):List Int:=r++List.replicate (3-q) 0
def Ws (k:Nat):List Int:=(List.range 3).map λj=>if k=j then 1 else 0
def X9 (q:Nat)(N:List (List Int)):List (List Int):=N.map (Wn q)++(List.range (3-q)).map λj=>Ws (q+j)
def VF (M:List (List Int)):Int:=((List.range 3).map λk=>(M.getD 0 []).getD k 0*Xd M 0 k).sum
def RY (q:Nat)(g v:Int)(M:List (List Int)):List (List Int):=(List.range q).map λi=>(List.range q).map λk=>(g*g*Xd M k i).fdiv v
theorem zbw {q:Nat}{N:List (List Int)}(sq:Sq q N)(hq:1<=q/\q<=3):VF (X9 q N)=ZJ q N:=by
 obtain⟨h1,h2⟩:=sq;have c:q=1\/q=2\/q=3:=by lia
 rcases c with rfl|rfl|rfl
 ·match N,h1,h2 with
  | [r],_,h2=>
   have l:=h2 r (by simp)
   match r,l with
   | [a],_=>simp[VF,X9,Wn,Ws,Xd,ZJ,Yd,sgn,List.range,List.range.loop]
 ·match N,h1,h2 with
  | [r,s],_,h2=>
   have l:=h2 r (by simp)
   have l':=h2 s (by simp)
   match r,s,l,l' with
   | [a,b],[c,d],_,_=>simp[VF,X9,Wn,Ws,Xd,ZJ,Yd,sgn,List.range,List.range.loop]
 ·match N,h1,h2 with
  | [r,s,t],_,h2=>
   have l:=h2 r (by simp)
   have l':=h2 s (by simp)
   have l2:=h2 t (by simp)
   match r,s,t,l,l',l2 with
   | [a,b,c],[d,e,f],[x,y,z],_,_,_=>
    simp[VF,X9,Wn,Ws,Xd,ZJ,Yd,sgn,List.range,List.range.loop];grind
theorem zeN {q:Nat}{N:List (List Int)}{g v:Int}(sq:Sq q N)(hq:1<=q/\q<=3):RY q g v (X9 q N)=Yi N (q-1) v g:=by
 obtain⟨h1,h2⟩:=sq;have e:∀x y:Int,x=y->x.fdiv v=y.fdiv v:=λx y h=>by rw[h]
 have c:q=1\/q=2\/q=3:=by lia
 rcases c with rfl|rfl|rfl
 ·match N,h1,h2 with
  | [r],_,h2=>
   have l:=h2 r (by simp)
   match r,l with
   | [a],_=>simp[RY,X9,Wn,Ws,Xd,ZJ,Yd,sgn,Yi,Vg,VW,List.range,List.range.loop]
 ·match N,h1,h2 with
  | [r,s],_,h2=>
   have l:=h2 r (by simp)
   have l':=h2 s (by simp)
   match r,s,l,l' with
   | [a,b],[c,d],_,_=>
    simp[RY,X9,Wn,Ws,Xd,ZJ,Yd,sgn,Yi,Vg,VW,List.range,List.range.loop];refine⟨⟨e _ _ ?_,e _ _ ?_⟩,e _ _ ?_,e _ _ ?_⟩<;>grind
 ·match N,h1,h2 with
  | [r,s,t],_,h2=>
   have l:=h2 r (by simp)
   have l':=h2 s (by simp)
   have l2:=h2 t (by simp)
   match r,s,t,l,l',l2 with
   | [a,b,c],[d,e',f],[x,y,z],_,_,_=>
    simp[RY,X9,Wn,Ws,Xd,ZJ,Yd,sgn,Yi,Vg,VW,List.range,List.range.loop];refine⟨⟨e _ _ ?_,e _ _ ?_,e _ _ ?_⟩,⟨e _ _ ?_,e _ _ ?_,e _ _ ?_⟩,e _ _ ?_,e _ _ ?_,e _ _ ?_⟩<;>grind
def Z9 (R:List LI)(is:List Nat):List (List Int):=is.map λi=>(R.getD i []).map mid
theorem zeo {R:List LI}{is:List Nat}{q:Nat}(li:is.length=q)(lR:∀i∈is,i<R.length)(zR:∀r∈R,r.length=q/\Bd 1100 r):Sq q (Z9 R is):=by
 refine⟨by unfold Z9;rw[zA,li],λr hr=>?_⟩;obtain⟨i,hi,rfl⟩:=zH.mp hr;have er:R.getD i []∈R:=by rw[zK,zC (lR i hi)];exact zZ ..
 rw[zA];exact(zR _ er).1
theorem zcU {R:List LI}{is:List Nat}{q:Nat}(lR:∀i∈is,i<R.length)(zR:∀r∈R,r.length=q/\Bd 1100 r):∀r∈Z9 R is,∀x∈r,Sz 1101 x:=λr hr x hx=>by
 obtain⟨i,hi,rfl⟩:=zH.mp hr;have er:R.getD i []∈R:=by rw[zK,zC (lR i hi)];exact zZ ..
 obtain⟨p,hp,rfl⟩:=zH.mp hx;have z:=(zR _ er).2 p hp;exact D8 z.1 z.2
theorem C9 {N:List (List Int)}{q:Nat}(sq:Sq q N)(hq:1<=q/\q<=3)(big:∀r∈N,∀x∈r,Sz 1101 x):(X9 q N).length=3/\∀r∈X9 q N,r.length=3/\∀x∈r,Sz 1101 x:=by
 refine⟨by unfold X9;rw[zO,zA,zA,xE,sq.1];lia,λr hr=>?_⟩;rcases yF.1 hr with hr|hr
 ·obtain⟨w,hw,rfl⟩:=zH.mp hr;have lw:=sq.2 w hw;refine⟨by unfold Wn;rw[zO,List.length_replicate];lia,λx hx=>?_⟩;rcases yF.1 hx with hx|hx
  ·exact big w hw x hx
  ·rw[(List.mem_replicate.mp hx).2];exact Sz.of 0 (by decide) (yJ (by decide))
 ·obtain⟨j,hj,rfl⟩:=zH.mp hr;refine⟨by simp[Ws],λx hx=>?_⟩;obtain⟨l,hl,rfl⟩:=zH.mp hx;refine Sz.of 1 ?_ zaA;split<;>decide
theorem zdQ (q k:Nat):((List.range (3:Int).toNat).map λ(l:Nat)=>D.int (if decide ((l:Int)=(q:Int)+(k:Int))=true then 1 else 0))=(Ws (q+k)).map D.int:=by
 unfold Ws;rw[zU];refine List.map_congr_left λl _=>?_
 show D.int _=D.int (if q+k=l then 1 else 0);congr 1;by_cases c:q+k=l
 ·rw[if_pos c,if_pos (decide_eq_true (by lia))]
 ·rw[if_neg c,if_neg (by rw[decide_eq_true_eq];lia)]
theorem A2 {M:List (List Int)}(lM:M.length=3)(zM:∀r∈M,r.length=3/\∀x∈r,Sz 1101 x):Sz 3400 (VF M):=by
 unfold VF;refine sum3 (by simp) λx hx=>?_
 obtain⟨k,hk,rfl⟩:=zH.mp hx;have hk3:=xG.mp hk;obtain⟨l3,z⟩:=zM (M.getD 0 []) (by rw[zK,zC (show 0<M.length by lia)];exact zZ ..);have z1:=z ((M.getD 0 []).getD k 0) (by rw[zK (l:=M.getD 0 []),zC (show k<(M.getD 0 []).length by lia)];exact zZ ..);exact z1.mul (Ku lM zM 0 k)
theorem A5 {M:List (List Int)}{q:Nat}{g v:Int}(lM:M.length=3)(zM:∀r∈M,r.length=3/\∀x∈r,Sz 1101 x)(hg:1<=g/\g<=1000000)(hv:v≠0):∀r∈RY q g v M,r.length=q/\∀x∈r,Sz 4000 x:=λr hr=>by
 obtain⟨i,_,rfl⟩:=zH.mp hr;refine⟨by rw[zA,xE],λx hx=>?_⟩;obtain⟨k,_,rfl⟩:=zH.mp hx;have sg:Sz 21 g:=Sz.of (10^6) (by lia);exact(Bc hv ((sg.mul sg).mul (Ku lM zM k i))).mono (by decide)
def Uh (g:Int)(bs vs th:LI)(R:List LI)(rows:List (Bool×Nat)):Option (List (List Int)×LI):=
 if (eqs rows).length=bs.length/\XG rows vs=true then
  if ZJ bs.length (Z9 R (eqs rows))=0 then none
  else if XU (YL g bs th R (eqs rows) (Yi (Z9 R (eqs rows)) (bs.length-1) (ZJ bs.length (Z9 R (eqs rows))) g)) bs=true then some (Yi (Z9 R (eqs rows)) (bs.length-1) (ZJ bs.length (Z9 R (eqs rows))) g,YL g bs th R (eqs rows) (Yi (Z9 R (eqs rows)) (bs.length-1) (ZJ bs.length (Z9 R (eqs rows))) g))
  else none
 else none
theorem Du (g:Int)(bs:LI)(ns:List Nd)(rows:List (Bool×Nat)):Uh g bs (Zo bs g ns) (Zo (bs.map ZF) g ns) (ZT (Zo bs g ns) g bs.length ns) rows=alS g bs ns rows:=by
 have e:Yh g bs ns rows=Z9 (ZT (Zo bs g ns) g bs.length ns) (eqs rows):=by
  unfold Yh Xu Z9;rw[zU];rfl
 unfold Uh alS;rw[e];rfl
theorem B7 {S:Sto}{m m2:Nat}{ms ms2:List D}{M:List (List Int)}(h1:S[m]?=some (.lst ms))(r1:YG S ms M)(h2:S[m2]?=some (.lst ms2))(r2:YG S ms2 M):Alk S 3 (.ref m) (.ref m2):=by
 refine .inr (.inr ⟨_,_,_,_,rfl,rfl,h1,h2,by rw[r1.1,r2.1],λk x y hx hy=>?_⟩);have hk:=(zF.mp hx).1;rw[r1.1] at hk;obtain⟨p,rfl,s⟩:=r1.2 k x _ hx (zC hk);obtain⟨p',rfl,s'⟩:=r2.2 k y _ hy (zC hk);exact CL (λz=>alk0 (by simp[eqF]) _) s s'
theorem Dg {g:Int}(hg:1<=g){bs th:LI}{R:List LI}{is:List Nat}{M:List (List Int)}:∀p∈YL g bs th R is M,p.1<=p.2:=λp hp=>by
 unfold YL at hp;obtain⟨k,hk⟩:=List.mem_iff_getElem?.mp hp;rw[List.getElem?_mapIdx] at hk;obtain⟨es,_,rfl⟩:=zP.mp hk;exact CO hg
theorem CN {g:Int}{bs th:LI}{R:List LI}{is:List Nat}{M:List (List Int)}:(YL g bs th R is M).length=M.length:=by
 unfold YL;rw[List.length_mapIdx]
theorem E3 (rows:List (Bool×Nat)):(Zu (.lst (rows.map rwD))).filterMap (λd=>match d with|.tup [.str w,.int at']=>if w="zero" then some (.int at') else none|_=>none)=(eqs rows).map wtD:=by
 show (rows.map rwD).filterMap _=_;unfold eqs;rw[List.filterMap_map,List.map_filterMap];congr 1;funext ⟨b,n⟩;cases b<;>rfl
section
variable {X:Cx}{Z:Zx}{pos:Pos}
def wEqT:W2:=λx y S Q=>match x,y with
 | .tup xs,.tup ys=>(xs.length=ys.length/\∀(k:Nat)(x y:D),xs[k]?=some x->ys[k]?=some y->Alk S 5 x y)/\Q (.bl true) S
 | _,_=>False
theorem Hh {j:Nat}(hr:Z3 j X.A):OpR X (compareOp .Eq) (upO X.K Z wEqT):=by
 have hu:=hr.un;intro aA s σ H x y v u Qv I rx ry h;obtain⟨r,S,dx,dy,Q,bC,px,py,q,ret⟩:=h;cases px with
 | @tup _ vs a h1 l1 f1=>
  cases py with
  | @tup _ ws b h2 l2 f2=>
   cases rx;cases ry;obtain⟨⟨l,al⟩,q⟩:=(show (_/\_)/\_ from q);obtain⟨is,ri,pl,_⟩:=I.tuple (SqT.of h1);obtain⟨js,rj,pl',_⟩:=I.tuple (SqT.of h2);have g1:=GJ (P:=λS=>Alk S 5) (S:=S) (A:=X.A.in1) (λh p q r1 r2=>RG 5 I bC h p q r1 r2 (by show X.A.units+1+5<_;lia)) ⟨l1,f1⟩ ⟨l2,f2⟩ ri rj al
   have q2:=SeqAt.RcAt.tuples (A:=X.A) (e:=λ_=>true) pl pl' (by lia) g1
   have hs:(is.toArray.size==js.toArray.size)=true:=by
    have a1:=ri.length
    have a2:=rj.length;simp only[zS,beq_iff_eq];show is.length=js.length;lia
   rw[IL,hs] at q2;exact q2 X.prog X.w X.xe _ ⟨.bl true,H,I,rfl,ret _ _ _ _ _ Ext.refl bC (.bl true) q⟩
  | _=>exact(show False from q).elim
 | _=>exact(show False from q).elim
end
abbrev N3:Ev:=[none,none,none]
abbrev N4:Ev:=[none,none,none,none]
abbrev N5:Ev:=[none,none,none,none,none]
abbrev N6:Ev:=[none,none,none,none,none,none]
abbrev N7:Ev:=[none,none,none,none,none,none,none]
abbrev N8:Ev:=[none,none,none,none,none,none,none,none]
abbrev N9:Ev:=[none,none,none,none,none,none,none,none,none]
abbrev N11:Ev:=[none,none,none,none,none,none,none,none,none,none,none]
abbrev N12:Ev:=[none,none,none,none,none,none,none,none,none,none,none,none]
abbrev N13:Ev:=[none,none,none,none,none,none,none,none,none,none,none,none,none]
structure Xi (K:Fg)(mg:Str->Option Value) where
 C:Addr
 m:mg "Number"=some (.ref C)
 cl:Cls K C
 n_bottom:Y3 K C "bottom"
 n_top:Y3 K C "top"
 makes:PySem.W.makesIn K C=true
 kp:PySem.W.keepIn K (.ref C)=true
structure Xr (K:Fg)(mg:Str->Option Value) where
 C:Addr
 m:mg "Unknown"=some (.ref C)
 cl:Cls K C
 n_place:Y3 K C "place"
 makes:PySem.W.makesIn K C=true
 kp:PySem.W.keepIn K (.ref C)=true
structure Y9 (K:Fg)(mg:Str->Option Value) where
 C:Addr
 m:mg "Plus"=some (.ref C)
 cl:Cls K C
 n_other:Y3 K C "other"
 n_one:Y3 K C "one"
 makes:PySem.W.makesIn K C=true
 kp:PySem.W.keepIn K (.ref C)=true
structure Xa (K:Fg)(mg:Str->Option Value) where
 C:Addr
 m:mg "Minus"=some (.ref C)
 cl:Cls K C
 n_other:Y3 K C "other"
 n_one:Y3 K C "one"
 makes:PySem.W.makesIn K C=true
 kp:PySem.W.keepIn K (.ref C)=true
structure Xb (K:Fg)(mg:Str->Option Value) where
 C:Addr
 m:mg "Times"=some (.ref C)
 cl:Cls K C
 n_other:Y3 K C "other"
 n_one:Y3 K C "one"
 makes:PySem.W.makesIn K C=true
 kp:PySem.W.keepIn K (.ref C)=true
structure Xn (K:Fg)(mg:Str->Option Value) where
 C:Addr
 m:mg "Power"=some (.ref C)
 cl:Cls K C
 n_many:Y3 K C "many"
 n_one:Y3 K C "one"
 makes:PySem.W.makesIn K C=true
 kp:PySem.W.keepIn K (.ref C)=true
def aN (p:Prop):List D->Prop
 | []=>p
 | _=>False
theorem Z8 {p:Prop}:∀ {ds:List D},aN p ds->ds=[]/\p
 | [],h=>⟨rfl,h⟩
 | _::_,h=>h.elim
theorem nN {p:Prop}{ds:List D}(h:aN p ds):ds.length=0:=by rw[(Z8 h).1];rfl
def aR (f:Nat->List D->Prop):List D->Prop
 | .ref a::r=>f a r
 | _=>False
theorem ZQ {f:Nat->List D->Prop}{ds:List D}(h:aR f ds):∃a r,ds=.ref a::r/\f a r:=by
 match ds,h with
 | .ref a::r,h=>exact⟨a,r,rfl,h⟩
theorem nR {f:Nat->List D->Prop}{n:Nat}(k:∀a {r:List D},f a r->r.length=n){ds:List D}(h:aR f ds):ds.length=n+1:=by
 obtain⟨a,r,rfl,h⟩:=ZQ h;rw[zY,k a h]
def aI (f:Int->List D->Prop):List D->Prop
 | .int a::r=>f a r
 | _=>False
theorem ZZ {f:Int->List D->Prop}{ds:List D}(h:aI f ds):∃a r,ds=.int a::r/\f a r:=by
 match ds,h with
 | .int a::r,h=>exact⟨a,r,rfl,h⟩
theorem nI {f:Int->List D->Prop}{n:Nat}(k:∀a {r:List D},f a r->r.length=n){ds:List D}(h:aI f ds):ds.length=n+1:=by
 obtain⟨a,r,rfl,h⟩:=ZZ h;rw[zY,k a h]
def aS (f:Str->List D->Prop):List D->Prop
 | .str a::r=>f a r
 | _=>False
theorem aS_e {f:Str->List D->Prop}{ds:List D}(h:aS f ds):∃a r,ds=.str a::r/\f a r:=by
 match ds,h with
 | .str a::r,h=>exact⟨a,r,rfl,h⟩
theorem nS {f:Str->List D->Prop}{n:Nat}(k:∀a {r:List D},f a r->r.length=n){ds:List D}(h:aS f ds):ds.length=n+1:=by
 obtain⟨a,r,rfl,h⟩:=aS_e h;rw[zY,k a h]
def aB (f:Bool->List D->Prop):List D->Prop
 | .bl a::r=>f a r
 | _=>False
theorem aB_e {f:Bool->List D->Prop}{ds:List D}(h:aB f ds):∃a r,ds=.bl a::r/\f a r:=by
 match ds,h with
 | .bl a::r,h=>exact⟨a,r,rfl,h⟩
theorem nB {f:Bool->List D->Prop}{n:Nat}(k:∀a {r:List D},f a r->r.length=n){ds:List D}(h:aB f ds):ds.length=n+1:=by
 obtain⟨a,r,rfl,h⟩:=aB_e h;rw[zY,k a h]
def aP (f:Int->Int->List D->Prop):List D->Prop
 | .tup [.int a,.int b]::r=>f a b r
 | _=>False
theorem XM {f:Int->Int->List D->Prop}{ds:List D}(h:aP f ds):∃a b r,ds=.tup [.int a,.int b]::r/\f a b r:=by
 match ds,h with
 | .tup [.int a,.int b]::r,h=>exact⟨a,b,r,rfl,h⟩
theorem nP {f:Int->Int->List D->Prop}{n:Nat}(k:∀a b {r:List D},f a b r->r.length=n){ds:List D}(h:aP f ds):ds.length=n+1:=by
 obtain⟨a,b,r,rfl,h⟩:=XM h;rw[zY,k a b h]
def aD (f:D->List D->Prop):List D->Prop
 | a::r=>f a r
 | []=>False
theorem Ww {f:D->List D->Prop}:∀ {ds:List D},aD f ds->∃a r,ds=a::r/\f a r
 | a::r,h=>⟨a,r,rfl,h⟩
 | [],h=>h.elim
theorem nD {f:D->List D->Prop}{n:Nat}(k:∀a {r:List D},f a r->r.length=n){ds:List D}(h:aD f ds):ds.length=n+1:=by
 obtain⟨a,r,rfl,h⟩:=Ww h;rw[zY,k a h]
theorem eD {f:D->Prop}{ds:List D}(h:(aD λa0=>aN (f a0)) ds):∃a0,ds=[a0]/\f a0:=by
 obtain⟨a0,_,e0,h⟩:=Ww h;obtain⟨e,h⟩:=Z8 h;exact⟨a0,by rw[e0,e],h⟩
theorem eDD {f:D->D->Prop}{ds:List D}(h:(aD λa0=>aD λa1=>aN (f a0 a1)) ds):∃a0 a1,ds=[a0,a1]/\f a0 a1:=by
 obtain⟨a0,_,e0,h⟩:=Ww h;obtain⟨a1,_,e1,h⟩:=Ww h;obtain⟨e,h⟩:=Z8 h;exact⟨a0,a1,by rw[e0,e1,e],h⟩
theorem eDRRI {f:D->Nat->Nat->Int->Prop}{ds:List D}(h:(aD λa0=>aR λa1=>aR λa2=>aI λa3=>aN (f a0 a1 a2 a3)) ds):∃a0 a1 a2 a3,ds=[a0,.ref a1,.ref a2,.int a3]/\f a0 a1 a2 a3:=by
 obtain⟨a0,_,e0,h⟩:=Ww h;obtain⟨a1,_,e1,h⟩:=ZQ h;obtain⟨a2,_,e2,h⟩:=ZQ h;obtain⟨a3,_,e3,h⟩:=ZZ h;obtain⟨e,h⟩:=Z8 h;exact⟨a0,a1,a2,a3,by rw[e0,e1,e2,e3,e],h⟩
theorem B1 {f:D->Nat->Nat->Int->Int->Prop}{ds:List D}(h:(aD λa0=>aR λa1=>aR λa2=>aI λa3=>aI λa4=>aN (f a0 a1 a2 a3 a4)) ds):∃a0 a1 a2 a3 a4,ds=[a0,.ref a1,.ref a2,.int a3,.int a4]/\f a0 a1 a2 a3 a4:=by
 obtain⟨a0,_,e0,h⟩:=Ww h;obtain⟨a1,_,e1,h⟩:=ZQ h;obtain⟨a2,_,e2,h⟩:=ZQ h;obtain⟨a3,_,e3,h⟩:=ZZ h;obtain⟨a4,_,e4,h⟩:=ZZ h;obtain⟨e,h⟩:=Z8 h;exact⟨a0,a1,a2,a3,a4,by rw[e0,e1,e2,e3,e4,e],h⟩
theorem eI {f:Int->Prop}{ds:List D}(h:(aI λa0=>aN (f a0)) ds):∃a0,ds=[.int a0]/\f a0:=by
 obtain⟨a0,_,e0,h⟩:=ZZ h;obtain⟨e,h⟩:=Z8 h;exact⟨a0,by rw[e0,e],h⟩
theorem eII {f:Int->Int->Prop}{ds:List D}(h:(aI λa0=>aI λa1=>aN (f a0 a1)) ds):∃a0 a1,ds=[.int a0,.int a1]/\f a0 a1:=by
 obtain⟨a0,_,e0,h⟩:=ZZ h;obtain⟨a1,_,e1,h⟩:=ZZ h;obtain⟨e,h⟩:=Z8 h;exact⟨a0,a1,by rw[e0,e1,e],h⟩
theorem A7 {f:Int->Int->Nat->Nat->Int->Prop}{ds:List D}(h:(aI λa0=>aI λa1=>aR λa2=>aR λa3=>aI λa4=>aN (f a0 a1 a2 a3 a4)) ds):∃a0 a1 a2 a3 a4,ds=[.int a0,.int a1,.ref a2,.ref a3,.int a4]/\f a0 a1 a2 a3 a4:=by
 obtain⟨a0,_,e0,h⟩:=ZZ h;obtain⟨a1,_,e1,h⟩:=ZZ h;obtain⟨a2,_,e2,h⟩:=ZQ h;obtain⟨a3,_,e3,h⟩:=ZQ h;obtain⟨a4,_,e4,h⟩:=ZZ h;obtain⟨e,h⟩:=Z8 h;exact⟨a0,a1,a2,a3,a4,by rw[e0,e1,e2,e3,e4,e],h⟩
theorem zay {f:Int->Nat->Int->Nat->Nat->Nat->Prop}{ds:List D}(h:(aI λa0=>aR λa1=>aI λa2=>aR λa3=>aR λa4=>aR λa5=>aN (f a0 a1 a2 a3 a4 a5)) ds):∃a0 a1 a2 a3 a4 a5,ds=[.int a0,.ref a1,.int a2,.ref a3,.ref a4,.ref a5]/\f a0 a1 a2 a3 a4 a5:=by
 obtain⟨a0,_,e0,h⟩:=ZZ h;obtain⟨a1,_,e1,h⟩:=ZQ h;obtain⟨a2,_,e2,h⟩:=ZZ h;obtain⟨a3,_,e3,h⟩:=ZQ h;obtain⟨a4,_,e4,h⟩:=ZQ h;obtain⟨a5,_,e5,h⟩:=ZQ h;obtain⟨e,h⟩:=Z8 h;exact⟨a0,a1,a2,a3,a4,a5,by rw[e0,e1,e2,e3,e4,e5,e],h⟩
theorem eP {f:Int->Int->Prop}{ds:List D}(h:(aP λa0 a1=>aN (f a0 a1)) ds):∃a0 a1,ds=[.tup [.int a0,.int a1]]/\f a0 a1:=by
 obtain⟨a0,a1,_,e0,h⟩:=XM h;obtain⟨e,h⟩:=Z8 h;exact⟨a0,a1,by rw[e0,e],h⟩
theorem ePI {f:Int->Int->Int->Prop}{ds:List D}(h:(aP λa0 a1=>aI λa2=>aN (f a0 a1 a2)) ds):∃a0 a1 a2,ds=[.tup [.int a0,.int a1],.int a2]/\f a0 a1 a2:=by
 obtain⟨a0,a1,_,e0,h⟩:=XM h;obtain⟨a2,_,e2,h⟩:=ZZ h;obtain⟨e,h⟩:=Z8 h;exact⟨a0,a1,a2,by rw[e0,e2,e],h⟩
theorem ePII {f:Int->Int->Int->Int->Prop}{ds:List D}(h:(aP λa0 a1=>aI λa2=>aI λa3=>aN (f a0 a1 a2 a3)) ds):∃a0 a1 a2 a3,ds=[.tup [.int a0,.int a1],.int a2,.int a3]/\f a0 a1 a2 a3:=by
 obtain⟨a0,a1,_,e0,h⟩:=XM h;obtain⟨a2,_,e2,h⟩:=ZZ h;obtain⟨a3,_,e3,h⟩:=ZZ h;obtain⟨e,h⟩:=Z8 h;exact⟨a0,a1,a2,a3,by rw[e0,e2,e3,e],h⟩
theorem ePP {f:Int->Int->Int->Int->Prop}{ds:List D}(h:(aP λa0 a1=>aP λa2 a3=>aN (f a0 a1 a2 a3)) ds):∃a0 a1 a2 a3,ds=[.tup [.int a0,.int a1],.tup [.int a2,.int a3]]/\f a0 a1 a2 a3:=by
 obtain⟨a0,a1,_,e0,h⟩:=XM h;obtain⟨a2,a3,_,e2,h⟩:=XM h;obtain⟨e,h⟩:=Z8 h;exact⟨a0,a1,a2,a3,by rw[e0,e2,e],h⟩
theorem ePPI {f:Int->Int->Int->Int->Int->Prop}{ds:List D}(h:(aP λa0 a1=>aP λa2 a3=>aI λa4=>aN (f a0 a1 a2 a3 a4)) ds):∃a0 a1 a2 a3 a4,ds=[.tup [.int a0,.int a1],.tup [.int a2,.int a3],.int a4]/\f a0 a1 a2 a3 a4:=by
 obtain⟨a0,a1,_,e0,h⟩:=XM h;obtain⟨a2,a3,_,e2,h⟩:=XM h;obtain⟨a4,_,e4,h⟩:=ZZ h;obtain⟨e,h⟩:=Z8 h;exact⟨a0,a1,a2,a3,a4,by rw[e0,e2,e4,e],h⟩
theorem eR {f:Nat->Prop}{ds:List D}(h:(aR λa0=>aN (f a0)) ds):∃a0,ds=[.ref a0]/\f a0:=by
 obtain⟨a0,_,e0,h⟩:=ZQ h;obtain⟨e,h⟩:=Z8 h;exact⟨a0,by rw[e0,e],h⟩
theorem eRD {f:Nat->D->Prop}{ds:List D}(h:(aR λa0=>aD λa1=>aN (f a0 a1)) ds):∃a0 a1,ds=[.ref a0,a1]/\f a0 a1:=by
 obtain⟨a0,_,e0,h⟩:=ZQ h;obtain⟨a1,_,e1,h⟩:=Ww h;obtain⟨e,h⟩:=Z8 h;exact⟨a0,a1,by rw[e0,e1,e],h⟩
theorem RR {f:Nat->D->D->Prop}{ds:List D}(h:(aR λa0=>aD λa1=>aD λa2=>aN (f a0 a1 a2)) ds):∃a0 a1 a2,ds=[.ref a0,a1,a2]/\f a0 a1 a2:=by
 obtain⟨a0,_,e0,h⟩:=ZQ h;obtain⟨a1,_,e1,h⟩:=Ww h;obtain⟨a2,_,e2,h⟩:=Ww h;obtain⟨e,h⟩:=Z8 h;exact⟨a0,a1,a2,by rw[e0,e1,e2,e],h⟩
theorem EC {f:Nat->D->D->Int->Int->Int->Int->Int->Prop}{ds:List D}(h:(aR λa0=>aD λa1=>aD λa2=>aP λa3 a4=>aP λa5 a6=>aI λa7=>aN (f a0 a1 a2 a3 a4 a5 a6 a7)) ds):∃a0 a1 a2 a3 a4 a5 a6 a7,ds=[.ref a0,a1,a2,.tup [.int a3,.int a4],.tup [.int a5,.int a6],.int a7]/\f a0 a1 a2 a3 a4 a5 a6 a7:=by
 obtain⟨a0,_,e0,h⟩:=ZQ h;obtain⟨a1,_,e1,h⟩:=Ww h;obtain⟨a2,_,e2,h⟩:=Ww h;obtain⟨a3,a4,_,e3,h⟩:=XM h;obtain⟨a5,a6,_,e5,h⟩:=XM h;obtain⟨a7,_,e7,h⟩:=ZZ h;obtain⟨e,h⟩:=Z8 h;exact⟨a0,a1,a2,a3,a4,a5,a6,a7,by rw[e0,e1,e2,e3,e5,e7,e],h⟩
theorem eRI {f:Nat->Int->Prop}{ds:List D}(h:(aR λa0=>aI λa1=>aN (f a0 a1)) ds):∃a0 a1,ds=[.ref a0,.int a1]/\f a0 a1:=by
 obtain⟨a0,_,e0,h⟩:=ZQ h;obtain⟨a1,_,e1,h⟩:=ZZ h;obtain⟨e,h⟩:=Z8 h;exact⟨a0,a1,by rw[e0,e1,e],h⟩
theorem eRII {f:Nat->Int->Int->Prop}{ds:List D}(h:(aR λa0=>aI λa1=>aI λa2=>aN (f a0 a1 a2)) ds):∃a0 a1 a2,ds=[.ref a0,.int a1,.int a2]/\f a0 a1 a2:=by
 obtain⟨a0,_,e0,h⟩:=ZQ h;obtain⟨a1,_,e1,h⟩:=ZZ h;obtain⟨a2,_,e2,h⟩:=ZZ h;obtain⟨e,h⟩:=Z8 h;exact⟨a0,a1,a2,by rw[e0,e1,e2,e],h⟩
theorem DM {f:Nat->Int->Int->Int->Prop}{ds:List D}(h:(aR λa0=>aI λa1=>aI λa2=>aI λa3=>aN (f a0 a1 a2 a3)) ds):∃a0 a1 a2 a3,ds=[.ref a0,.int a1,.int a2,.int a3]/\f a0 a1 a2 a3:=by
 obtain⟨a0,_,e0,h⟩:=ZQ h;obtain⟨a1,_,e1,h⟩:=ZZ h;obtain⟨a2,_,e2,h⟩:=ZZ h;obtain⟨a3,_,e3,h⟩:=ZZ h;obtain⟨e,h⟩:=Z8 h;exact⟨a0,a1,a2,a3,by rw[e0,e1,e2,e3,e],h⟩
theorem zaY {f:Nat->Int->Int->Int->Int->Prop}{ds:List D}(h:(aR λa0=>aI λa1=>aI λa2=>aI λa3=>aI λa4=>aN (f a0 a1 a2 a3 a4)) ds):∃a0 a1 a2 a3 a4,ds=[.ref a0,.int a1,.int a2,.int a3,.int a4]/\f a0 a1 a2 a3 a4:=by
 obtain⟨a0,_,e0,h⟩:=ZQ h;obtain⟨a1,_,e1,h⟩:=ZZ h;obtain⟨a2,_,e2,h⟩:=ZZ h;obtain⟨a3,_,e3,h⟩:=ZZ h;obtain⟨a4,_,e4,h⟩:=ZZ h;obtain⟨e,h⟩:=Z8 h;exact⟨a0,a1,a2,a3,a4,by rw[e0,e1,e2,e3,e4,e],h⟩
theorem eRIIR {f:Nat->Int->Int->Nat->Prop}{ds:List D}(h:(aR λa0=>aI λa1=>aI λa2=>aR λa3=>aN (f a0 a1 a2 a3)) ds):∃a0 a1 a2 a3,ds=[.ref a0,.int a1,.int a2,.ref a3]/\f a0 a1 a2 a3:=by
 obtain⟨a0,_,e0,h⟩:=ZQ h;obtain⟨a1,_,e1,h⟩:=ZZ h;obtain⟨a2,_,e2,h⟩:=ZZ h;obtain⟨a3,_,e3,h⟩:=ZQ h;obtain⟨e,h⟩:=Z8 h;exact⟨a0,a1,a2,a3,by rw[e0,e1,e2,e3,e],h⟩
theorem zal {f:Nat->Int->Nat->Int->Int->Prop}{ds:List D}(h:(aR λa0=>aI λa1=>aR λa2=>aI λa3=>aI λa4=>aN (f a0 a1 a2 a3 a4)) ds):∃a0 a1 a2 a3 a4,ds=[.ref a0,.int a1,.ref a2,.int a3,.int a4]/\f a0 a1 a2 a3 a4:=by
 obtain⟨a0,_,e0,h⟩:=ZQ h;obtain⟨a1,_,e1,h⟩:=ZZ h;obtain⟨a2,_,e2,h⟩:=ZQ h;obtain⟨a3,_,e3,h⟩:=ZZ h;obtain⟨a4,_,e4,h⟩:=ZZ h;obtain⟨e,h⟩:=Z8 h;exact⟨a0,a1,a2,a3,a4,by rw[e0,e1,e2,e3,e4,e],h⟩
theorem zc2 {f:Nat->Int->Nat->Nat->Nat->Prop}{ds:List D}(h:(aR λa0=>aI λa1=>aR λa2=>aR λa3=>aR λa4=>aN (f a0 a1 a2 a3 a4)) ds):∃a0 a1 a2 a3 a4,ds=[.ref a0,.int a1,.ref a2,.ref a3,.ref a4]/\f a0 a1 a2 a3 a4:=by
 obtain⟨a0,_,e0,h⟩:=ZQ h;obtain⟨a1,_,e1,h⟩:=ZZ h;obtain⟨a2,_,e2,h⟩:=ZQ h;obtain⟨a3,_,e3,h⟩:=ZQ h;obtain⟨a4,_,e4,h⟩:=ZQ h;obtain⟨e,h⟩:=Z8 h;exact⟨a0,a1,a2,a3,a4,by rw[e0,e1,e2,e3,e4,e],h⟩
theorem BZ {f:Nat->Int->Int->Int->Int->Int->Int->Int->Int->Int->Prop}{ds:List D}(h:(aR λa0=>aP λa1 a2=>aP λa3 a4=>aP λa5 a6=>aP λa7 a8=>aI λa9=>aN (f a0 a1 a2 a3 a4 a5 a6 a7 a8 a9)) ds):∃a0 a1 a2 a3 a4 a5 a6 a7 a8 a9,ds=[.ref a0,.tup [.int a1,.int a2],.tup [.int a3,.int a4],.tup [.int a5,.int a6],.tup [.int a7,.int a8],.int a9]/\f a0 a1 a2 a3 a4 a5 a6 a7 a8 a9:=by
 obtain⟨a0,_,e0,h⟩:=ZQ h;obtain⟨a1,a2,_,e1,h⟩:=XM h;obtain⟨a3,a4,_,e3,h⟩:=XM h;obtain⟨a5,a6,_,e5,h⟩:=XM h;obtain⟨a7,a8,_,e7,h⟩:=XM h;obtain⟨a9,_,e9,h⟩:=ZZ h;obtain⟨e,h⟩:=Z8 h;exact⟨a0,a1,a2,a3,a4,a5,a6,a7,a8,a9,by rw[e0,e1,e3,e5,e7,e9,e],h⟩
theorem eRR {f:Nat->Nat->Prop}{ds:List D}(h:(aR λa0=>aR λa1=>aN (f a0 a1)) ds):∃a0 a1,ds=[.ref a0,.ref a1]/\f a0 a1:=by
 obtain⟨a0,_,e0,h⟩:=ZQ h;obtain⟨a1,_,e1,h⟩:=ZQ h;obtain⟨e,h⟩:=Z8 h;exact⟨a0,a1,by rw[e0,e1,e],h⟩
theorem eRRB {f:Nat->Nat->Bool->Prop}{ds:List D}(h:(aR λa0=>aR λa1=>aB λa2=>aN (f a0 a1 a2)) ds):∃a0 a1 a2,ds=[.ref a0,.ref a1,.bl a2]/\f a0 a1 a2:=by
 obtain⟨a0,_,e0,h⟩:=ZQ h;obtain⟨a1,_,e1,h⟩:=ZQ h;obtain⟨a2,_,e2,h⟩:=aB_e h;obtain⟨e,h⟩:=Z8 h;exact⟨a0,a1,a2,by rw[e0,e1,e2,e],h⟩
theorem eRRDI {f:Nat->Nat->D->Int->Prop}{ds:List D}(h:(aR λa0=>aR λa1=>aD λa2=>aI λa3=>aN (f a0 a1 a2 a3)) ds):∃a0 a1 a2 a3,ds=[.ref a0,.ref a1,a2,.int a3]/\f a0 a1 a2 a3:=by
 obtain⟨a0,_,e0,h⟩:=ZQ h;obtain⟨a1,_,e1,h⟩:=ZQ h;obtain⟨a2,_,e2,h⟩:=Ww h;obtain⟨a3,_,e3,h⟩:=ZZ h;obtain⟨e,h⟩:=Z8 h;exact⟨a0,a1,a2,a3,by rw[e0,e1,e2,e3,e],h⟩
theorem Q9 {f:Nat->Nat->Int->Prop}{ds:List D}(h:(aR λa0=>aR λa1=>aI λa2=>aN (f a0 a1 a2)) ds):∃a0 a1 a2,ds=[.ref a0,.ref a1,.int a2]/\f a0 a1 a2:=by
 obtain⟨a0,_,e0,h⟩:=ZQ h;obtain⟨a1,_,e1,h⟩:=ZQ h;obtain⟨a2,_,e2,h⟩:=ZZ h;obtain⟨e,h⟩:=Z8 h;exact⟨a0,a1,a2,by rw[e0,e1,e2,e],h⟩
theorem eRRII {f:Nat->Nat->Int->Int->Prop}{ds:List D}(h:(aR λa0=>aR λa1=>aI λa2=>aI λa3=>aN (f a0 a1 a2 a3)) ds):∃a0 a1 a2 a3,ds=[.ref a0,.ref a1,.int a2,.int a3]/\f a0 a1 a2 a3:=by
 obtain⟨a0,_,e0,h⟩:=ZQ h;obtain⟨a1,_,e1,h⟩:=ZQ h;obtain⟨a2,_,e2,h⟩:=ZZ h;obtain⟨a3,_,e3,h⟩:=ZZ h;obtain⟨e,h⟩:=Z8 h;exact⟨a0,a1,a2,a3,by rw[e0,e1,e2,e3,e],h⟩
theorem za9 {f:Nat->Nat->Int->Int->Bool->Prop}{ds:List D}(h:(aR λa0=>aR λa1=>aI λa2=>aI λa3=>aB λa4=>aN (f a0 a1 a2 a3 a4)) ds):∃a0 a1 a2 a3 a4,ds=[.ref a0,.ref a1,.int a2,.int a3,.bl a4]/\f a0 a1 a2 a3 a4:=by
 obtain⟨a0,_,e0,h⟩:=ZQ h;obtain⟨a1,_,e1,h⟩:=ZQ h;obtain⟨a2,_,e2,h⟩:=ZZ h;obtain⟨a3,_,e3,h⟩:=ZZ h;obtain⟨a4,_,e4,h⟩:=aB_e h;obtain⟨e,h⟩:=Z8 h;exact⟨a0,a1,a2,a3,a4,by rw[e0,e1,e2,e3,e4,e],h⟩
theorem eRRR {f:Nat->Nat->Nat->Prop}{ds:List D}(h:(aR λa0=>aR λa1=>aR λa2=>aN (f a0 a1 a2)) ds):∃a0 a1 a2,ds=[.ref a0,.ref a1,.ref a2]/\f a0 a1 a2:=by
 obtain⟨a0,_,e0,h⟩:=ZQ h;obtain⟨a1,_,e1,h⟩:=ZQ h;obtain⟨a2,_,e2,h⟩:=ZQ h;obtain⟨e,h⟩:=Z8 h;exact⟨a0,a1,a2,by rw[e0,e1,e2,e],h⟩
theorem VE {f:Nat->Nat->Nat->Int->Prop}{ds:List D}(h:(aR λa0=>aR λa1=>aR λa2=>aI λa3=>aN (f a0 a1 a2 a3)) ds):∃a0 a1 a2 a3,ds=[.ref a0,.ref a1,.ref a2,.int a3]/\f a0 a1 a2 a3:=by
 obtain⟨a0,_,e0,h⟩:=ZQ h;obtain⟨a1,_,e1,h⟩:=ZQ h;obtain⟨a2,_,e2,h⟩:=ZQ h;obtain⟨a3,_,e3,h⟩:=ZZ h;obtain⟨e,h⟩:=Z8 h;exact⟨a0,a1,a2,a3,by rw[e0,e1,e2,e3,e],h⟩
theorem Sk {f:Nat->Nat->Nat->Int->Int->Prop}{ds:List D}(h:(aR λa0=>aR λa1=>aR λa2=>aI λa3=>aI λa4=>aN (f a0 a1 a2 a3 a4)) ds):∃a0 a1 a2 a3 a4,ds=[.ref a0,.ref a1,.ref a2,.int a3,.int a4]/\f a0 a1 a2 a3 a4:=by
 obtain⟨a0,_,e0,h⟩:=ZQ h;obtain⟨a1,_,e1,h⟩:=ZQ h;obtain⟨a2,_,e2,h⟩:=ZQ h;obtain⟨a3,_,e3,h⟩:=ZZ h;obtain⟨a4,_,e4,h⟩:=ZZ h;obtain⟨e,h⟩:=Z8 h;exact⟨a0,a1,a2,a3,a4,by rw[e0,e1,e2,e3,e4,e],h⟩
theorem C8 {f:Nat->Nat->Nat->Int->Nat->Prop}{ds:List D}(h:(aR λa0=>aR λa1=>aR λa2=>aI λa3=>aR λa4=>aN (f a0 a1 a2 a3 a4)) ds):∃a0 a1 a2 a3 a4,ds=[.ref a0,.ref a1,.ref a2,.int a3,.ref a4]/\f a0 a1 a2 a3 a4:=by
 obtain⟨a0,_,e0,h⟩:=ZQ h;obtain⟨a1,_,e1,h⟩:=ZQ h;obtain⟨a2,_,e2,h⟩:=ZQ h;obtain⟨a3,_,e3,h⟩:=ZZ h;obtain⟨a4,_,e4,h⟩:=ZQ h;obtain⟨e,h⟩:=Z8 h;exact⟨a0,a1,a2,a3,a4,by rw[e0,e1,e2,e3,e4,e],h⟩
theorem zb4 {f:Nat->Nat->Nat->Nat->Int->Nat->Prop}{ds:List D}(h:(aR λa0=>aR λa1=>aR λa2=>aR λa3=>aI λa4=>aR λa5=>aN (f a0 a1 a2 a3 a4 a5)) ds):∃a0 a1 a2 a3 a4 a5,ds=[.ref a0,.ref a1,.ref a2,.ref a3,.int a4,.ref a5]/\f a0 a1 a2 a3 a4 a5:=by
 obtain⟨a0,_,e0,h⟩:=ZQ h;obtain⟨a1,_,e1,h⟩:=ZQ h;obtain⟨a2,_,e2,h⟩:=ZQ h;obtain⟨a3,_,e3,h⟩:=ZQ h;obtain⟨a4,_,e4,h⟩:=ZZ h;obtain⟨a5,_,e5,h⟩:=ZQ h;obtain⟨e,h⟩:=Z8 h;exact⟨a0,a1,a2,a3,a4,a5,by rw[e0,e1,e2,e3,e4,e5,e],h⟩
theorem zb1 {f:Nat->Nat->Nat->Nat->Nat->Int->Prop}{ds:List D}(h:(aR λa0=>aR λa1=>aR λa2=>aR λa3=>aR λa4=>aI λa5=>aN (f a0 a1 a2 a3 a4 a5)) ds):∃a0 a1 a2 a3 a4 a5,ds=[.ref a0,.ref a1,.ref a2,.ref a3,.ref a4,.int a5]/\f a0 a1 a2 a3 a4 a5:=by
 obtain⟨a0,_,e0,h⟩:=ZQ h;obtain⟨a1,_,e1,h⟩:=ZQ h;obtain⟨a2,_,e2,h⟩:=ZQ h;obtain⟨a3,_,e3,h⟩:=ZQ h;obtain⟨a4,_,e4,h⟩:=ZQ h;obtain⟨a5,_,e5,h⟩:=ZZ h;obtain⟨e,h⟩:=Z8 h;exact⟨a0,a1,a2,a3,a4,a5,by rw[e0,e1,e2,e3,e4,e5,e],h⟩
theorem eSP {f:Str->Int->Int->Prop}{ds:List D}(h:(aS λa0=>aP λa1 a2=>aN (f a0 a1 a2)) ds):∃a0 a1 a2,ds=[.str a0,.tup [.int a1,.int a2]]/\f a0 a1 a2:=by
 obtain⟨a0,_,e0,h⟩:=aS_e h;obtain⟨a1,a2,_,e1,h⟩:=XM h;obtain⟨e,h⟩:=Z8 h;exact⟨a0,a1,a2,by rw[e0,e1,e],h⟩
def QK:Sd:=λds S Q ex=>(aR λsc=>aN (∃cs:List Int,S[sc]?=some (.frz (cs.map D.int))/\Q (.bl (frS cs)) S)) ds
def SR:Sd:=λds S Q ex=>(aR λsc=>aI λk=>aN (∃cs:List Int,S[sc]?=some (.frz (cs.map D.int))/\(0<=k/\k<=1000)/\∀v:Int,Q (.int v) S)) ds
def HJ:Sd:=λds S Q ex=>(aI λx_0=>aN (∀g:Int,1<=g->g<=1000000->Q (.int g) S)) ds
def G5:Sd:=λds S Q ex=>(aR λsc=>aI λqi=>aI λg=>aN (∃(cs:List Int)(q:Nat),S[sc]?=some (.frz (cs.map D.int))/\(qi=(q:Nat)/\q<=3)/\(1<=g/\g<=1000000)/\∀(T:Sto)(m:Nat)(B:LI),Pre S T->S.length<=m->T[m]?=some (.lst (B.map frD))->B.length=q->Spn 51 B->(frS cs=false->∀p∈B,p.1.natAbs<=4*g.natAbs/\p.2.natAbs<=4*g.natAbs)->Q (.ref m) T)) ds
def Si:Sd:=λds S Q ex=>(aI λT=>aI λB=>aN ((0<B/\Sz 4000 B)/\∀t b:Int,1<=b->Int.gcd t b=1->t*B=T*b->t.natAbs<=T.natAbs->b<=B->Q (.tup [.int t,.int b]) S)) ds
def IJ:Sd:=λds S Q ex=>(aI λx_0=>aN (∀t b:Int,(1<=b/\b<=4)->Int.gcd t b=1->t.natAbs<=4->Q (.tup [.int t,.int b]) S)) ds
def IE:Sd:=λds S Q ex=>(aI λx_0=>aN (∀t b:Int,(1<=b/\b<=10^9)->Int.gcd t b=1->t.natAbs<=10^9->Q (.tup [.int t,.int b]) S)) ds
def FU:Sd:=λds S Q ex=>(aR λa=>aR λb=>aD λd=>aI λw=>aN (∃(v:Nd)(ns:List Nd)(ws:List Nat),d=v.d/\S[a]?=some (.lst (ns.map Nd.d))/\S[b]?=some (.lst (ws.map wtD))/\a≠b/\w=(v.wt ws:Nat)/\ns.length<900/\ws.length<900/\(∀j:Nat,ns[j]?=some v->Q (.int (j:Int)) S)/\∀i:Int,i=(ns.length:Nat)->Q (.int i) ((S.set a (.lst ((ns++[v]).map Nd.d))).set b (.lst ((ws++[v.wt ws]).map wtD))))) ds
def Ie:Sd:=λds S Q ex=>(aR λa=>aR λb=>aI λc=>aI λmost=>aB λfr=>aN (∃(qn:Nat)(ns:List Nd)(ws:List Nat),S[a]?=some (.lst (ns.map Nd.d))/\S[b]?=some (.lst (ws.map wtD))/\a≠b/\ZS qn ns ws/\1<=ns.length/\ns.length<900/\most<=16/\∀(T:Sto)(ms:List Nd)(us:List Nat),ZS qn (ns++ms) us->(∃u2:List Nat,us=ws++u2/\∀w∈u2,w=1\/((w:Nat):Int)<=most)->(fr=false->∀v∈ms,v.lit)->ms.length<=1->T[a]?=some (.lst ((ns++ms).map Nd.d))->T[b]?=some (.lst (us.map wtD))->S.length<=T.length->(∀(x:Nat)(o:Ob),x≠a->x≠b->S[x]?=some o->T[x]?=some o)->Q .non T)) ds
def IS:Sd:=λds S Q ex=>(aR λsc=>aR λa=>aR λb=>aN (∃(cs:List Int)(q:Nat)(ns:List Nd)(ws:List Nat),S[sc]?=some (.frz (cs.map D.int))/\S[a]?=some (.lst (ns.map Nd.d))/\S[b]?=some (.lst (ws.map wtD))/\a≠b/\ZS q ns ws/\(1<=ns.length/\ns.length<=3)/\ns.length=q/\cs.length<=63/\∀(T:Sto)(m:Nat)(ns':List Nd)(ws':List Nat)(rows:List (Bool×Nat)),ZS q ns' ws'->1<=ns'.length->ns'.length<=60->T[a]?=some (.lst (ns'.map Nd.d))->T[m]?=some (.lst (rows.map rwD))->(1<=rows.length/\rows.length<=10)->(∀r∈rows,r.2<ns'.length)->S.length<=m->(∀(x:Nat)(o:Ob),x≠a->x≠b->S[x]?=some o->T[x]?=some o)->Q (.tup [.ref a,.ref m]) T)) ds
def Tc:Sd:=λds S Q ex=>(aR λa=>aD λd=>aN (∃(q:Nat)(v:Nd)(ns:List Nd)(ws:List Nat),d=v.d/\S[a]?=some (.lst (ns.map Nd.d))/\ns.length<900/\ZS q ns ws/\v.ok ns.length q/\v.wt ws<=16/\∀(T:Sto)(j:Nat)(ns':List Nd)(ws':List Nat),Gr q a 1 S ns ws T ns' ws'->j<ns'.length->ns'[j]?=some v->ws'.getD j 0=v.wt ws->(∀P,gt (YK P ns') (j:Int)=v.due (YK P ns) P)->Q (.int (j:Int)) T)) ds
def IA:Sd:=λds S Q ex=>(aR λa=>aR λp=>aN (∃(q B:Nat)(ns:List Nd)(ws is:List Nat),S[a]?=some (.lst (ns.map Nd.d))/\S[p]?=some (.lst (is.map wtD))/\a≠p/\ZS q ns ws/\(1<=is.length/\is.length<=5)/\is.length*B<=16/\ns.length<800/\(∀i∈is,i<ns.length/\ws.getD i 0<=B)/\∀(T:Sto)(j:Nat)(ns':List Nd)(ws':List Nat),Gr q a 5 S ns ws T ns' ws'->j<ns'.length->ws'.getD j 0<=is.length*B->(∀(P:LI)(g:Int)(V:Nat->Int×Int->Prop),(∀i∈is,V 1 (gt (Zo P g ns) (i:Int)))->(∀k x y,V k x->V 1 y->V (k+1) (x.1+y.1,x.2+y.2))->V is.length (gt (Zo P g ns') (j:Int)))->Q (.int (j:Int)) T)) ds
def GD:Sd:=λds S Q ex=>(aR λa=>aR λe=>aB λtu=>aN (∃(q:Nat)(ns:List Nd)(ws:List Nat)(es:List Int),S[a]?=some (.lst (ns.map Nd.d))/\S[e]?=some (.lst (es.map D.int))/\a≠e/\ZS q ns ws/\es.length=q/\(1<=q/\q<=3)/\(∀k:Nat,k<q->ns[k]?=some (.unknown (k:Int)))/\(∀x∈es,x.natAbs<=8)/\ns.length<600/\∀(T:Sto)(j:Nat)(ns':List Nd)(ws':List Nat),Gr q a 11 S ns ws T ns' ws'->j<ns'.length->ws'.getD j 0<=6->(∀(P:LI)(g:Int),1<=g->(∀k:Int,inR q k->vI 4 g (gt P k))->vI 96 g (gt (Zo P g ns') (j:Int)))->Q (.int (j:Int)) T)) ds
def HG:Sd:=λds S Q ex=>(aI λx=>aI λn=>aN ((0<=n/\n<=6/\Sz 2000 x)/\Q (.int (x^n.toNat)) S)) ds
def Mf:Sd:=λds S Q ex=>(aP λa b=>aI λn=>aI λg=>aN ((1<=n/\n<=6/\Sz 1400 a/\Sz 1400 b/\1<=g/\g<=1000000)/\Q (.tup [.int (Yk a b n.toNat/g^(n.toNat-1)),.int (-(-Y8 a b n.toNat/g^(n.toNat-1)))]) S)) ds
def Pj:Sd:=λds S Q ex=>(aP λa b=>aP λc d=>aN (Q (.tup [.int (a+c),.int (b+d)]) S)) ds
def Pn:Sd:=λds S Q ex=>(aP λa b=>aP λc d=>aN (Q (.tup [.int (a-d),.int (b-c)]) S)) ds
def R6:Sd:=λds S Q ex=>(aP λa b=>aP λc d=>aI λg=>aN ((Sz 6010 a/\Sz 6010 b/\Sz 6010 c/\Sz 6010 d/\1<=g/\g<=1000000)/\Q (.tup [.int (mn4 a b c d/g),.int (-(-mx4 a b c d/g))]) S)) ds
def IY:Sd:=λds S Q ex=>(aD λd=>aR λw=>aR λp=>aI λg=>aN (∃(v:Nd)(vs bs:LI),d=v.d/\S[w]?=some (.lst (vs.map frD))/\S[p]?=some (.lst (bs.map frD))/\v.ok vs.length bs.length/\Spn 1400 vs/\(1<=g/\g<=1000000)/\Q (frD (v.fw vs bs g)) S)) ds
def KA:Sd:=λds S Q ex=>(aR λa=>aR λb=>aI λg=>aN (∃(ns:List Nd)(ws:List Nat)(bs:LI),S[a]?=some (.lst (ns.map Nd.d))/\S[b]?=some (.lst (bs.map frD))/\ZS bs.length ns ws/\Spn 51 bs/\(1<=g/\g<=1000000)/\ns.length<=70/\∀(T:Sto)(m:Nat),Pre S T->S.length<=m->T[m]?=some (.lst ((Zo bs g ns).map frD))->Q (.ref m) T)) ds
def Fp:Sd:=λds S Q ex=>(aR λa=>aI λat'=>aR λb=>aI λg=>aI λparts=>aN (∃(q:Nat)(ns:List Nd)(ws:List Nat)(bs:LI)(j:Nat),S[a]?=some (.lst (ns.map Nd.d))/\S[b]?=some (.lst (bs.map frD))/\a≠b/\ZS q ns ws/\q=bs.length/\q<=4/\at'=(j:Nat)/\j<ns.length/\ns.length<=70/\(1<=g/\g<=1000000)/\(1<=parts/\parts<=1000)/\Spn 51 bs/\vI 100000 g (gt (Zo (bs.map ZF) g ns) (j:Int))/\∀(T:Sto)(i:Nat)(ns':List Nd)(ws':List Nat),Gr q a 1 S ns ws T ns' ws'->i<ns'.length->ws'.getD i 0=1->Q (.int (i:Int)) T)) ds
def FP:Sd:=λds S Q ex=>(aR λsc=>aI λqi=>aI λg=>aR λb=>aN (∃(cs:List Int)(q:Nat)(bs:LI),S[sc]?=some (.frz (cs.map D.int))/\(qi=(q:Nat)/\1<=q/\q<=3)/\S[b]?=some (.lst (bs.map frD))/\bs.length=q/\cs.length<=63/\(1<=g/\g<=1000000)/\Spn 51 bs/\(frS cs=false->∀p∈bs,p.1.natAbs<=4*g.natAbs/\p.2.natAbs<=4*g.natAbs)/\∀(T:Sto)(a m:Nat)(ns':List Nd)(ws':List Nat)(rows:List (Bool×Nat)),ZS q ns' ws'->1<=ns'.length->ns'.length<=60->T[a]?=some (.lst (ns'.map Nd.d))->T[m]?=some (.lst (rows.map rwD))->(1<=rows.length/\rows.length<=10)->(∀r∈rows,r.2<ns'.length)->S.length<=a->S.length<=m->a≠m->Pre S T->Q (.tup [.ref a,.ref m]) T)) ds
def FA:Sd:=λds S Q ex=>(aR λr=>aI λc=>aI λmn=>aI λqi=>aN (∃(q n:Nat)(rows:List (Bool×Nat)),(qi=(q:Int)/\1<=q/\q<=3)/\(mn=(n:Int)/\1<=n/\n<=900)/\(1<=rows.length/\rows.length<=10)/\(∀x∈rows,x.2<n)/\S[r]?=some (.lst (rows.map rwD))/\∀rows':List (Bool×Nat),(∀x∈rows',x.2<n)->rows'.length<=12->Q .non (S.set r (.lst (rows'.map rwD))))) ds
def Fh:Sd:=λds S Q ex=>(aP λa b=>aI λn=>aI λg=>aN ((2<=n/\n<=6/\a<=b/\Sz 1000 a/\Sz 1000 b/\1<=g/\g<=1000000)/\Q (frD (Y6 (a,b) n g)) S)) ds
def IF:Sd:=λds S Q ex=>(aD λd=>aR λw=>aR λs=>aI λli=>aI λg=>aN (∃(v:Nd)(q l:Nat)(vs:LI)(sl:List LI)(ds:List D),d=v.d/\S[w]?=some (.lst (vs.map frD))/\S[s]?=some (.lst ds)/\Z2 S 0 ds sl/\(∀i:Int,inR sl.length i->(sl.getD i.toNat []).length=q/\∀l,l<q->(gs sl i l).1<=(gs sl i l).2/\Sz 1100 (gs sl i l).1/\Sz 1100 (gs sl i l).2)/\(li=(l:Nat)/\l<q)/\v.ok sl.length q/\sl.length<=vs.length/\Spn 1000 vs/\(1<=g/\g<=1000000)/\Q (frD (v.sl vs sl g l)) S)) ds
def IZ:Sd:=λds S Q ex=>(aR λa=>aR λw=>aI λqi=>aI λg=>aN (∃(q:Nat)(ns:List Nd)(ws:List Nat)(vs:LI),S[a]?=some (.lst (ns.map Nd.d))/\S[w]?=some (.lst (vs.map frD))/\ZS q ns ws/\SzW ws vs/\vs.length=ns.length/\(qi=(q:Nat)/\q<=900)/\(1<=g/\g<=1000000)/\ns.length<=70/\∀(T:Sto)(m:Nat)(ds:List D),Pre S T->S.length<=m->T[m]?=some (.lst ds)->Z2 T (m+1) ds (ZT vs g q ns)->Q (.ref m) T)) ds
def Jy:Sd:=λds S Q ex=>(aR λr=>aN (∃rows:List (Bool×Nat),S[r]?=some (.lst (rows.map rwD))/\rows.length<=900/\Q (.ref S.length) (S++[.lst ((eqs rows).map wtD)]))) ds
def Fj:Sd:=λds S Q ex=>(aS λw=>aP λa b=>aN ((w="zero"/\Q (.bl (decide (a=0)&&decide (b=0))) S)\/(w="least"/\Q (.bl (decide (0<=a))) S))) ds
def F4:Sd:=λds S Q ex=>(aR λr=>aR λs=>aN (∃(rows:List (Bool×Nat))(vs:LI),S[r]?=some (.lst (rows.map rwD))/\S[s]?=some (.lst (vs.map frD))/\rows.length<=900/\(∀r∈rows,r.2<vs.length)/\Q (.bl (XG rows vs)) S)) ds
def IP:Sd:=λds S Q ex=>(aP λa b=>aP λc d=>aN ((IntMulOk a d/\IntMulOk c b)/\Q (.bl (decide (a*d<c*b))) S)) ds
def Ry:Sd:=λds S Q ex=>(aI λt=>aI λb=>aN (CFd 0 b/\Q (.int (-(-t/b))) S)) ds
def HW:Sd:=λds S Q ex=>(aP λa b=>aP λc d=>aI λg=>aN (((IntMulOk c b/\IntMulOk a d)/\¬ c*b<a*d/\IntMulOk a g/\IntMulOk c g/\CFd 0 b/\CFd 0 d)/\Q (.tup [.int (a*g/b),.int (-(-(c*g)/d))]) S)) ds
def MJ (cNumber:Addr)(cUnknown:Addr)(cPlus:Addr)(cMinus:Addr)(cTimes:Addr)(cPower:Addr):Sd:=λds S Q ex=>(aR λn=>aR λw=>aR λp=>aI λg=>aN (∃(x y:Int)(vs bs:LI),S[n]?=some (Nd.ob cNumber cUnknown cPlus cMinus cTimes cPower (Nd.number x y))/\S[w]?=some (.lst (vs.map frD))/\S[p]?=some (.lst (bs.map frD))/\Nd.ok vs.length bs.length (Nd.number x y)/\Spn 1400 vs/\(1<=g/\g<=1000000)/\Q (frD (Nd.fw vs bs g (Nd.number x y))) S)) ds
def Lv (cNumber:Addr)(cUnknown:Addr)(cPlus:Addr)(cMinus:Addr)(cTimes:Addr)(cPower:Addr):Sd:=λds S Q ex=>(aR λn=>aR λw=>aR λp=>aI λg=>aN (∃(k:Int)(vs bs:LI),S[n]?=some (Nd.ob cNumber cUnknown cPlus cMinus cTimes cPower (Nd.unknown k))/\S[w]?=some (.lst (vs.map frD))/\S[p]?=some (.lst (bs.map frD))/\Nd.ok vs.length bs.length (Nd.unknown k)/\Spn 1400 vs/\(1<=g/\g<=1000000)/\Q (frD (Nd.fw vs bs g (Nd.unknown k))) S)) ds
def UM:Sd:=λds S Q ex=>(aP λa b=>aP λc d=>aN (Q (.tup [.int (a+c),.int (b+d)]) S)) ds
def Mw (cNumber:Addr)(cUnknown:Addr)(cPlus:Addr)(cMinus:Addr)(cTimes:Addr)(cPower:Addr):Sd:=λds S Q ex=>(aR λn=>aR λw=>aR λp=>aI λg=>aN (∃(i j:Int)(vs bs:LI),S[n]?=some (Nd.ob cNumber cUnknown cPlus cMinus cTimes cPower (Nd.plus i j))/\S[w]?=some (.lst (vs.map frD))/\S[p]?=some (.lst (bs.map frD))/\Nd.ok vs.length bs.length (Nd.plus i j)/\Spn 1400 vs/\(1<=g/\g<=1000000)/\Q (frD (Nd.fw vs bs g (Nd.plus i j))) S)) ds
def Tj:Sd:=λds S Q ex=>(aP λa b=>aP λc d=>aN (Q (.tup [.int (a-d),.int (b-c)]) S)) ds
def KI (cNumber:Addr)(cUnknown:Addr)(cPlus:Addr)(cMinus:Addr)(cTimes:Addr)(cPower:Addr):Sd:=λds S Q ex=>(aR λn=>aR λw=>aR λp=>aI λg=>aN (∃(i j:Int)(vs bs:LI),S[n]?=some (Nd.ob cNumber cUnknown cPlus cMinus cTimes cPower (Nd.minus i j))/\S[w]?=some (.lst (vs.map frD))/\S[p]?=some (.lst (bs.map frD))/\Nd.ok vs.length bs.length (Nd.minus i j)/\Spn 1400 vs/\(1<=g/\g<=1000000)/\Q (frD (Nd.fw vs bs g (Nd.minus i j))) S)) ds
def To:Sd:=λds S Q ex=>(aP λa b=>aP λc d=>aI λg=>aN (((IntMulOk a c/\IntMulOk a d/\IntMulOk b c/\IntMulOk b d)/\CFd 0 g)/\∀mn mx:Int,Tb a b c d mn mx->Q (.tup [.int (mn/g),.int (-(-mx/g))]) S)) ds
def LO (cNumber:Addr)(cUnknown:Addr)(cPlus:Addr)(cMinus:Addr)(cTimes:Addr)(cPower:Addr):Sd:=λds S Q ex=>(aR λn=>aR λw=>aR λp=>aI λg=>aN (∃(i j:Int)(vs bs:LI),S[n]?=some (Nd.ob cNumber cUnknown cPlus cMinus cTimes cPower (Nd.times i j))/\S[w]?=some (.lst (vs.map frD))/\S[p]?=some (.lst (bs.map frD))/\Nd.ok vs.length bs.length (Nd.times i j)/\Spn 1400 vs/\(1<=g/\g<=1000000)/\Q (frD (Nd.fw vs bs g (Nd.times i j))) S)) ds
def Gq:Sd:=λds S Q ex=>(aI λx=>aI λn=>aN ((0<=n/\n<=6/\Sz 2000 x)/\Q (.int (x^n.toNat)) S)) ds
def Kc:Sd:=λds S Q ex=>(aP λa b=>aI λn=>aI λg=>aN ((1<=n/\n<=6/\Sz 1400 a/\Sz 1400 b/\1<=g/\Sz 1400 g)/\∀m M:Int,V9 a b n.toNat m M->Q (.tup [.int (m/g^(n.toNat-1)),.int (-(-M/g^(n.toNat-1)))]) S)) ds
def OI (cNumber:Addr)(cUnknown:Addr)(cPlus:Addr)(cMinus:Addr)(cTimes:Addr)(cPower:Addr):Sd:=λds S Q ex=>(aR λn=>aR λw=>aR λp=>aI λg=>aN (∃(i m:Int)(vs bs:LI),S[n]?=some (Nd.ob cNumber cUnknown cPlus cMinus cTimes cPower (Nd.power i m))/\S[w]?=some (.lst (vs.map frD))/\S[p]?=some (.lst (bs.map frD))/\Nd.ok vs.length bs.length (Nd.power i m)/\Spn 1400 vs/\(1<=g/\g<=1000000)/\Q (frD (Nd.fw vs bs g (Nd.power i m))) S)) ds
def HR (cNumber:Addr):Sd:=λds S Q ex=>(aR λn=>aD λx=>aD λy=>aN (∃T:Sto,S=T++[.ins cNumber []]/\n=T.length/\Q .non (T++[.ins cNumber [("top",x),("bottom",y)]]))) ds
def GX (cUnknown:Addr):Sd:=λds S Q ex=>(aR λn=>aD λx=>aN (∃T:Sto,S=T++[.ins cUnknown []]/\n=T.length/\Q .non (T++[.ins cUnknown [("place",x)]]))) ds
def GB (cPlus:Addr):Sd:=λds S Q ex=>(aR λn=>aD λx=>aD λy=>aN (∃T:Sto,S=T++[.ins cPlus []]/\n=T.length/\Q .non (T++[.ins cPlus [("one",x),("other",y)]]))) ds
def ID (cMinus:Addr):Sd:=λds S Q ex=>(aR λn=>aD λx=>aD λy=>aN (∃T:Sto,S=T++[.ins cMinus []]/\n=T.length/\Q .non (T++[.ins cMinus [("one",x),("other",y)]]))) ds
def IC (cTimes:Addr):Sd:=λds S Q ex=>(aR λn=>aD λx=>aD λy=>aN (∃T:Sto,S=T++[.ins cTimes []]/\n=T.length/\Q .non (T++[.ins cTimes [("one",x),("other",y)]]))) ds
def GN (cPower:Addr):Sd:=λds S Q ex=>(aR λn=>aD λx=>aD λy=>aN (∃T:Sto,S=T++[.ins cPower []]/\n=T.length/\Q .non (T++[.ins cPower [("one",x),("many",y)]]))) ds
def Mo (cNumber:Addr)(cUnknown:Addr)(cPlus:Addr)(cMinus:Addr)(cTimes:Addr)(cPower:Addr):Sd:=λds S Q ex=>(aD λd=>aN (∃v:Nd,d=v.d/\Q (.ref S.length) (S++[v.ob cNumber cUnknown cPlus cMinus cTimes cPower]))) ds
def Pu:Sd:=λds S Q ex=>(aR λa=>aR λb=>aI λg=>aN (∃(ns:List Nd)(ws:List Nat)(bs:LI),S[a]?=some (.lst (ns.map Nd.d))/\S[b]?=some (.lst (bs.map frD))/\ZS bs.length ns ws/\Spn 51 bs/\(1<=g/\g<=1000000)/\ns.length<=70/\∀(T:Sto)(m:Nat),Pre S T->S.length<=m->T[m]?=some (.lst ((Zo bs g ns).map frD))->Q (.ref m) T)) ds
def Ig:Sd:=λds S Q ex=>(aR λe=>aR λp=>aN (∃(xs:List D)(is:List Nat),S[e]?=some (.lst xs)/\S[p]?=some (.lst (is.map wtD))/\is.length<=900/\(∀i∈is,i<xs.length)/\Q (.ref S.length) (S++[.lst (is.map λi=>xs.getD i .non)]))) ds
def Ld (cNumber:Addr)(cUnknown:Addr)(cPlus:Addr)(cMinus:Addr)(cTimes:Addr)(cPower:Addr):Sd:=λds S Q ex=>(aR λn=>aR λw=>aR λs=>aI λqi=>aI λg=>aN (∃(x y:Int)(q:Nat)(vs:LI)(sl:List LI)(ds:List D),S[n]?=some (Nd.ob cNumber cUnknown cPlus cMinus cTimes cPower (Nd.number x y))/\S[w]?=some (.lst (vs.map frD))/\S[s]?=some (.lst ds)/\Z2 S 0 ds sl/\(∀i:Int,inR sl.length i->(sl.getD i.toNat []).length=q/\∀l,l<q->(gs sl i l).1<=(gs sl i l).2/\Sz 1100 (gs sl i l).1/\Sz 1100 (gs sl i l).2)/\(qi=(q:Nat)/\q<=900)/\Nd.ok sl.length q (Nd.number x y)/\sl.length<=vs.length/\Spn 1000 vs/\(1<=g/\g<=1000000)/\∀(T:Sto)(mm:Nat),Pre S T->S.length<=mm->T[mm]?=some (.lst ((Ys vs sl g q (Nd.number x y)).map frD))->Q (.ref mm) T)) ds
def Nk (cNumber:Addr)(cUnknown:Addr)(cPlus:Addr)(cMinus:Addr)(cTimes:Addr)(cPower:Addr):Sd:=λds S Q ex=>(aR λn=>aR λw=>aR λs=>aI λqi=>aI λg=>aN (∃(k:Int)(q:Nat)(vs:LI)(sl:List LI)(ds:List D),S[n]?=some (Nd.ob cNumber cUnknown cPlus cMinus cTimes cPower (Nd.unknown k))/\S[w]?=some (.lst (vs.map frD))/\S[s]?=some (.lst ds)/\Z2 S 0 ds sl/\(∀i:Int,inR sl.length i->(sl.getD i.toNat []).length=q/\∀l,l<q->(gs sl i l).1<=(gs sl i l).2/\Sz 1100 (gs sl i l).1/\Sz 1100 (gs sl i l).2)/\(qi=(q:Nat)/\q<=900)/\Nd.ok sl.length q (Nd.unknown k)/\sl.length<=vs.length/\Spn 1000 vs/\(1<=g/\g<=1000000)/\∀(T:Sto)(mm:Nat),Pre S T->S.length<=mm->T[mm]?=some (.lst ((Ys vs sl g q (Nd.unknown k)).map frD))->Q (.ref mm) T)) ds
def Ir (cPlus:Addr):Sd:=λds S Q ex=>(aR λx_0=>aD λx_1=>aD λx_2=>aP λa b=>aP λc d=>aI λx_7=>aN (Q (.tup [.int (a+c),.int (b+d)]) S)) ds
def NZ (cNumber:Addr)(cUnknown:Addr)(cPlus:Addr)(cMinus:Addr)(cTimes:Addr)(cPower:Addr):Sd:=λds S Q ex=>(aR λn=>aR λw=>aR λs=>aI λqi=>aI λg=>aN (∃(i j:Int)(q:Nat)(vs:LI)(sl:List LI)(ds:List D),S[n]?=some (Nd.ob cNumber cUnknown cPlus cMinus cTimes cPower (Nd.plus i j))/\S[w]?=some (.lst (vs.map frD))/\S[s]?=some (.lst ds)/\Z2 S 0 ds sl/\(∀i:Int,inR sl.length i->(sl.getD i.toNat []).length=q/\∀l,l<q->(gs sl i l).1<=(gs sl i l).2/\Sz 1100 (gs sl i l).1/\Sz 1100 (gs sl i l).2)/\(qi=(q:Nat)/\q<=900)/\Nd.ok sl.length q (Nd.plus i j)/\sl.length<=vs.length/\Spn 1000 vs/\(1<=g/\g<=1000000)/\∀(T:Sto)(mm:Nat),Pre S T->S.length<=mm->T[mm]?=some (.lst ((Ys vs sl g q (Nd.plus i j)).map frD))->Q (.ref mm) T)) ds
def Ft (cMinus:Addr):Sd:=λds S Q ex=>(aR λx_0=>aD λx_1=>aD λx_2=>aP λa b=>aP λc d=>aI λx_7=>aN (Q (.tup [.int (a-d),.int (b-c)]) S)) ds
def J2 (cNumber:Addr)(cUnknown:Addr)(cPlus:Addr)(cMinus:Addr)(cTimes:Addr)(cPower:Addr):Sd:=λds S Q ex=>(aR λn=>aR λw=>aR λs=>aI λqi=>aI λg=>aN (∃(i j:Int)(q:Nat)(vs:LI)(sl:List LI)(ds:List D),S[n]?=some (Nd.ob cNumber cUnknown cPlus cMinus cTimes cPower (Nd.minus i j))/\S[w]?=some (.lst (vs.map frD))/\S[s]?=some (.lst ds)/\Z2 S 0 ds sl/\(∀i:Int,inR sl.length i->(sl.getD i.toNat []).length=q/\∀l,l<q->(gs sl i l).1<=(gs sl i l).2/\Sz 1100 (gs sl i l).1/\Sz 1100 (gs sl i l).2)/\(qi=(q:Nat)/\q<=900)/\Nd.ok sl.length q (Nd.minus i j)/\sl.length<=vs.length/\Spn 1000 vs/\(1<=g/\g<=1000000)/\∀(T:Sto)(mm:Nat),Pre S T->S.length<=mm->T[mm]?=some (.lst ((Ys vs sl g q (Nd.minus i j)).map frD))->Q (.ref mm) T)) ds
def Ff (cTimes:Addr):Sd:=λds S Q ex=>(aR λx_0=>aP λx1 x2=>aP λy1 y2=>aP λa b=>aP λc d=>aI λg=>aN ((Sz 1400 x1/\Sz 1400 x2/\Sz 1400 y1/\Sz 1400 y2/\Sz 1400 a/\Sz 1400 b/\Sz 1400 c/\Sz 1400 d/\1<=g/\g<=1000000)/\Q (.tup [.int ((Yy (x1,x2) (c,d) g).1+(Yy (y1,y2) (a,b) g).1),.int ((Yy (x1,x2) (c,d) g).2+(Yy (y1,y2) (a,b) g).2)]) S)) ds
def O0 (cNumber:Addr)(cUnknown:Addr)(cPlus:Addr)(cMinus:Addr)(cTimes:Addr)(cPower:Addr):Sd:=λds S Q ex=>(aR λn=>aR λw=>aR λs=>aI λqi=>aI λg=>aN (∃(i j:Int)(q:Nat)(vs:LI)(sl:List LI)(ds:List D),S[n]?=some (Nd.ob cNumber cUnknown cPlus cMinus cTimes cPower (Nd.times i j))/\S[w]?=some (.lst (vs.map frD))/\S[s]?=some (.lst ds)/\Z2 S 0 ds sl/\(∀i:Int,inR sl.length i->(sl.getD i.toNat []).length=q/\∀l,l<q->(gs sl i l).1<=(gs sl i l).2/\Sz 1100 (gs sl i l).1/\Sz 1100 (gs sl i l).2)/\(qi=(q:Nat)/\q<=900)/\Nd.ok sl.length q (Nd.times i j)/\sl.length<=vs.length/\Spn 1000 vs/\(1<=g/\g<=1000000)/\∀(T:Sto)(mm:Nat),Pre S T->S.length<=mm->T[mm]?=some (.lst ((Ys vs sl g q (Nd.times i j)).map frD))->Q (.ref mm) T)) ds
def F0:Sd:=λds S Q ex=>(aP λa b=>aI λm=>aN ((IntMulOk a m/\IntMulOk b m)/\Q (.tup [.int (if b*m<a*m then b*m else a*m),.int (if b*m > a*m then b*m else a*m)]) S)) ds
def M1 (cNumber:Addr)(cUnknown:Addr)(cPlus:Addr)(cMinus:Addr)(cTimes:Addr)(cPower:Addr):Sd:=λds S Q ex=>(aR λn=>aR λw=>aR λs=>aI λqi=>aI λg=>aN (∃(i m:Int)(q:Nat)(vs:LI)(sl:List LI)(ds:List D),S[n]?=some (Nd.ob cNumber cUnknown cPlus cMinus cTimes cPower (Nd.power i m))/\S[w]?=some (.lst (vs.map frD))/\S[s]?=some (.lst ds)/\Z2 S 0 ds sl/\(∀i:Int,inR sl.length i->(sl.getD i.toNat []).length=q/\∀l,l<q->(gs sl i l).1<=(gs sl i l).2/\Sz 1100 (gs sl i l).1/\Sz 1100 (gs sl i l).2)/\(qi=(q:Nat)/\q<=900)/\Nd.ok sl.length q (Nd.power i m)/\sl.length<=vs.length/\Spn 1000 vs/\(1<=g/\g<=1000000)/\∀(T:Sto)(mm:Nat),Pre S T->S.length<=mm->T[mm]?=some (.lst ((Ys vs sl g q (Nd.power i m)).map frD))->Q (.ref mm) T)) ds
def FI:Sd:=λds S Q ex=>(aR λa=>aR λb=>aI λg=>aN (∃(ns:List Nd)(ws:List Nat)(bs:LI),S[a]?=some (.lst (ns.map Nd.d))/\S[b]?=some (.lst (bs.map frD))/\ZS bs.length ns ws/\Spn 51 bs/\bs.length<=900/\(1<=g/\g<=1000000)/\ns.length<=70/\∀(T:Sto)(m:Nat)(ds:List D),Pre S T->S.length<=m->T[m]?=some (.lst ds)->Z2 T (m+1) ds (ZT (Zo bs g ns) g bs.length ns)->Q (.ref m) T)) ds
def Kb:Sd:=λds S Q ex=>(aR λa=>aR λp=>aR λb=>aI λg=>aN (∃(ns:List Nd)(ws:List Nat)(bs:LI)(is:List Nat),S[a]?=some (.lst (ns.map Nd.d))/\S[b]?=some (.lst (bs.map frD))/\ZS bs.length ns ws/\Spn 51 bs/\(1<=g/\g<=1000000)/\ns.length<=70/\bs.length<=900/\S[p]?=some (.lst (is.map wtD))/\is.length<=900/\(∀i∈is,i<ns.length)/\∀(T:Sto)(m:Nat)(ds:List D),Pre S T->S.length<=m->T[m]?=some (.lst ds)->Z2 T 0 ds (is.map λ(i:Nat)=>(ZT (Zo bs g ns) g bs.length ns).getD i [])->Q (.ref m) T)) ds
def Ta:Sd:=λds S Q ex=>(aI λi=>aI λk=>aN (∃n:Nat,k=n/\Q (.int (sgn i n)) S)) ds
def Rw:Sd:=λds S Q ex=>(aR λm=>aI λr=>aI λc=>aN (∃(M:List (List Int))(i j n:Nat),r=i/\c=j/\YH S m M/\Sq (n+1) M/\n<=3/\i<=n/\j<=n/\∀(T:Sto)(k:Nat),Pre S T->YH T k (Yd M i j)->Q (.ref k) T)) ds
def TK:Sd:=λds S Q ex=>match ds with
 | [.ref m,.int r,.int c]=>∃(M:List (List Int))(i j n:Nat),n<=0/\r=i/\c=j/\i<=n/\j<=n/\YH S m M/\Sq (n+1) M/\Big M/\Q (.int (sgn (ZJ n (Yd M i j)) (i+j))) S
 | _=>False
theorem zcb:Ln (TK) 3:=λds S Q ex h=>by unfold TK at h;split at h<;>first|rfl|exact h.elim
def TQ:Sd:=λds S Q ex=>match ds with
 | [.ref m,.int r,.int c]=>∃(M:List (List Int))(i j n:Nat),n<=1/\r=i/\c=j/\i<=n/\j<=n/\YH S m M/\Sq (n+1) M/\Big M/\Q (.int (sgn (ZJ n (Yd M i j)) (i+j))) S
 | _=>False
theorem AU:Ln (TQ) 3:=λds S Q ex h=>by unfold TQ at h;split at h<;>first|rfl|exact h.elim
def Tx:Sd:=λds S Q ex=>match ds with
 | [.ref m,.int r,.int c]=>∃(M:List (List Int))(i j n:Nat),n<=2/\r=i/\c=j/\i<=n/\j<=n/\YH S m M/\Sq (n+1) M/\Big M/\Q (.int (sgn (ZJ n (Yd M i j)) (i+j))) S
 | _=>False
theorem zcJ:Ln (Tx) 3:=λds S Q ex h=>by unfold Tx at h;split at h<;>first|rfl|exact h.elim
def UO:Sd:=λds S Q ex=>match ds with
 | [.ref m,.int r,.int c]=>∃(M:List (List Int))(i j n:Nat),n<=3/\r=i/\c=j/\i<=n/\j<=n/\YH S m M/\Sq (n+1) M/\Big M/\Q (.int (sgn (ZJ n (Yd M i j)) (i+j))) S
 | _=>False
theorem zaT:Ln (UO) 3:=λds S Q ex h=>by unfold UO at h;split at h<;>first|rfl|exact h.elim
def Ol:Sd:=λds S Q ex=>match ds with
 | [.ref m]=>∃(M:List (List Int))(n:Nat),n<=0/\YH S m M/\Sq n M/\Big M/\Q (.int (ZJ n M)) S
 | _=>False
theorem zdG:Ln (Ol) 1:=λds S Q ex h=>by unfold Ol at h;split at h<;>first|rfl|exact h.elim
def PL:Sd:=λds S Q ex=>match ds with
 | [.ref m]=>∃(M:List (List Int))(n:Nat),n<=1/\YH S m M/\Sq n M/\Big M/\Q (.int (ZJ n M)) S
 | _=>False
theorem zeM:Ln (PL) 1:=λds S Q ex h=>by unfold PL at h;split at h<;>first|rfl|exact h.elim
def Pk:Sd:=λds S Q ex=>match ds with
 | [.ref m]=>∃(M:List (List Int))(n:Nat),n<=2/\YH S m M/\Sq n M/\Big M/\Q (.int (ZJ n M)) S
 | _=>False
theorem zeK:Ln (Pk) 1:=λds S Q ex h=>by unfold Pk at h;split at h<;>first|rfl|exact h.elim
def Of:Sd:=λds S Q ex=>match ds with
 | [.ref m]=>∃(M:List (List Int))(n:Nat),n<=3/\YH S m M/\Sq n M/\Big M/\Q (.int (ZJ n M)) S
 | _=>False
theorem zbk:Ln (Of) 1:=λds S Q ex h=>by unfold Of at h;split at h<;>first|rfl|exact h.elim
def PZ:Sd:=λds S Q ex=>match ds with
 | [.ref m]=>∃(M:List (List Int))(n:Nat),n<=4/\YH S m M/\Sq n M/\Big M/\Q (.int (ZJ n M)) S
 | _=>False
theorem AG:Ln (PZ) 1:=λds S Q ex h=>by unfold PZ at h;split at h<;>first|rfl|exact h.elim
def Fd:Sd:=λds S Q ex=>(aR λm=>aI λw=>aI λr=>aI λc=>aI λg=>aN (∃(M:List (List Int))(i j n:Nat),n<=3/\r=i/\c=j/\i<=n/\j<=n/\YH S m M/\Sq (n+1) M/\Big M/\(w≠0/\Sz 4140 w)/\(1<=g/\g<=1000000)/\Q (.int (VW M n w g i j)) S)) ds
def FO:Sd:=λds S Q ex=>(aR λm=>aI λw=>aI λr=>aI λg=>aN (∃(M:List (List Int))(i n:Nat),n<=3/\r=i/\i<=n/\YH S m M/\Sq (n+1) M/\Big M/\(w≠0/\Sz 4140 w)/\(1<=g/\g<=1000000)/\Q (.ref S.length) (S++[.lst ((Vg M n w g i).map D.int)]))) ds
def Fw:Sd:=λds S Q ex=>(aR λm=>aI λg=>aN (∃(M:List (List Int))(n:Nat),n<=3/\YH S m M/\Sq (n+1) M/\Big M/\(1<=g/\g<=1000000)/\(ZJ (n+1) M=0->Q .non S)/\(ZJ (n+1) M≠0->∀(T:Sto)(k:Nat),Pre S T->YH T k (Yi M n (ZJ (n+1) M) g)->Q (.ref k) T))) ds
def IH:Sd:=λds S Q ex=>(aP λa b=>aN (Q (.int ((a+b)/2)) S)) ds
def Jd:Sd:=λds S Q ex=>(aR λs=>aN (∃vs:LI,S[s]?=some (.lst (vs.map frD))/\vs.length<=900/\Q (.ref S.length) (S++[.lst (vs.map λp=>.int (mid p))]))) ds
def Mc:Sd:=λds S Q ex=>(aR λb=>aN (∃vs:LI,S[b]?=some (.lst (vs.map frD))/\vs.length<=900/\∀(T:Sto)(m:Nat),Pre S T->S.length<=m->T[m]?=some (.lst ((vs.map ZF).map frD))->Q (.ref m) T)) ds
def K6:Sd:=λds S Q ex=>(aR λa=>aR λb=>aI λg=>aN (∃(us vs:LI),S[a]?=some (.lst (us.map frD))/\S[b]?=some (.lst (vs.map frD))/\us.length<=60/\Bd 20000 us/\Bd 20000 vs/\(1<=g/\g<=1000000)/\Q (frD (sumP g us vs)) S)) ds
def GQ:Sd:=λds S Q ex=>(aI λk=>aI λc=>aR λt=>aR λs=>aI λg=>aN (∃(q kn cn:Nat)(ts:LI)(R:List LI)(ds:List D),k=(kn:Nat)/\c=(cn:Nat)/\S[t]?=some (.lst (ts.map frD))/\S[s]?=some (.lst ds)/\Z2 S 0 ds R/\(∀r∈R,r.length=q/\Bd 2000 r)/\cn<q/\ts.length<=60/\R.length<=60/\Bd 20000 ts/\(1<=g/\g<=1000000)/\Q (frD (YI g kn cn ts R)) S)) ds
def Hg:Sd:=λds S Q ex=>(aI λki=>aR λb=>aI λg=>aR λe=>aR λt=>aR λs=>aN (∃(k:Nat)(box aC:LI)(es:List Int)(R:List LI)(ds:List D),ki=(k:Nat)/\k<box.length/\S[e]?=some (.lst (es.map D.int))/\es.length<=4/\(∀x∈es,Sz 4000 x)/\S[b]?=some (.lst (box.map frD))/\S[t]?=some (.lst (aC.map frD))/\S[s]?=some (.lst ds)/\Z2 S 0 ds R/\(∀r∈R,r.length=box.length/\Bd 2000 r)/\(1<=box.length/\box.length<=4)/\R.length<=4/\aC.length<=4/\Bd 60 box/\Bd 2000 aC/\(1<=g/\g<=1000000)/\Q (frD (YW g box aC R k es)) S)) ds
def MK:Sd:=λds S Q ex=>(aR λb=>aI λg=>aR λu=>aR λt=>aR λs=>aN (∃(box aC:LI)(M:List (List Int))(ms:List D)(R:List LI)(ds:List D),S[u]?=some (.lst ms)/\YG S ms M/\M.length=box.length/\(∀r∈M,r.length<=4/\∀x∈r,Sz 4000 x)/\S[b]?=some (.lst (box.map frD))/\S[t]?=some (.lst (aC.map frD))/\S[s]?=some (.lst ds)/\Z2 S 0 ds R/\(∀r∈R,r.length=box.length/\Bd 2000 r)/\(1<=box.length/\box.length<=4)/\R.length<=4/\aC.length<=4/\Bd 60 box/\Bd 2000 aC/\(1<=g/\g<=1000000)/\Q (.ref S.length) (S++[.lst ((M.mapIdx λk es=>YW g box aC R k es).map frD)]))) ds
def Kv:Sd:=λds S Q ex=>(aR λa=>aR λp=>aR λb=>aI λg=>aN (∃(ns:List Nd)(ws:List Nat)(bs:LI)(is:List Nat),S[a]?=some (.lst (ns.map Nd.d))/\S[b]?=some (.lst (bs.map frD))/\ZS bs.length ns ws/\Spn 51 bs/\(1<=g/\g<=1000000)/\ns.length<=70/\bs.length<=900/\S[p]?=some (.lst (is.map wtD))/\is.length<=900/\(∀i∈is,i<ns.length)/\∀(T:Sto)(m:Nat),Pre S T->S.length<=m->T[m]?=some (.lst ((is.map λ(i:Nat)=>gt (Zo (bs.map ZF) g ns) i).map frD))->Q (.ref m) T)) ds
def HK:Sd:=λds S Q ex=>(aP λa b=>aP λc d=>aN (Q (.bl (decide (c<a)&&decide (b<d))) S)) ds
def He:Sd:=λds S Q ex=>(aR λm=>aR λn=>aN (∃us vs:LI,S[m]?=some (.lst (us.map frD))/\S[n]?=some (.lst (vs.map frD))/\us.length<=1000/\Q (.bl (XU us vs)) S)) ds
def HA:Sd:=λds S Q ex=>(aR λa=>aR λr=>aR λb=>aI λg=>aN (∃(ns:List Nd)(ws:List Nat)(bs:LI)(rows:List (Bool×Nat)),S[a]?=some (.lst (ns.map Nd.d))/\S[b]?=some (.lst (bs.map frD))/\ZS bs.length ns ws/\Spn 51 bs/\(1<=g/\g<=1000000)/\ns.length<=70/\bs.length<=900/\S[r]?=some (.lst (rows.map rwD))/\rows.length<=900/\(∀r∈rows,r.2<ns.length)/\(1<=bs.length/\bs.length<=4)/\(alS g bs ns rows=none->∀T:Sto,Pre S T->Q .non T)/\(∀(M:List (List Int))(aE:LI),alS g bs ns rows=some (M,aE)->∀(T:Sto)(m n:Nat)(ms:List D),Pre S T->T[m]?=some (.lst ms)->YG T ms M->T[n]?=some (.lst (aE.map frD))->S.length<=n->Q (.tup [.ref m,.ref n]) T))) ds
def O7:Sd:=λds S Q ex=>(aI λx_0=>aN (Q (.bl true) S)) ds
def Fs:Sd:=λds S Q ex=>(aP λa b=>aN (a<=b/\Q (.bl true) S)) ds
def Kk:Sd:=λds S Q ex=>(aR λa=>aI λm=>aN (∃vs:LI,S[a]?=some (.lst (vs.map frD))/\m=vs.length/\(∀p∈vs,p.1<=p.2)/\Q (.bl true) S)) ds
def Fi:Sd:=λds S Q ex=>(aD λd=>aD λe=>aN ((d=.non/\e=.non/\Q (.bl true) S)\/∃(m n m2 n2:Nat)(ms ms2:List D)(M:List (List Int))(aE:LI),d=.tup [.ref m,.ref n]/\e=.tup [.ref m2,.ref n2]/\S[m]?=some (.lst ms)/\YG S ms M/\S[n]?=some (.lst (aE.map frD))/\S[m2]?=some (.lst ms2)/\YG S ms2 M/\S[n2]?=some (.lst (aE.map frD))/\(∀p∈aE,p.1<=p.2)/\M.length<=900/\(∀r∈M,r.length<=900)/\Q (.bl true) S)) ds
def Ip:Sd:=λds S Q ex=>(aR λr=>aR λv=>aN (∃(rows:List (Bool×Nat))(vs:LI),S[r]?=some (.lst (rows.map rwD))/\S[v]?=some (.lst (vs.map frD))/\(∀r∈rows,r.2<vs.length)/\Q (.bl (XG rows vs)) S)) ds
def Hc:Sd:=λds S Q ex=>(aR λr=>aI λa=>aI λb=>aN (∃(ms:List D)(M:List (List Int)),S[r]?=some (.lst ms)/\YG S ms M/\M.length=3/\(∀r∈M,r.length=3/\∀x∈r,Sz 1101 x)/\(0<=a/\a<=2)/\(0<=b/\b<=2)/\Q (.int (Xd M a.toNat b.toNat)) S)) ds
def FT:Sd:=λds S Q ex=>(aR λmd=>aR λat_=>aI λg=>aN (∃(q:Nat)(R:List LI)(ds:List D)(is:List Nat),S[md]?=some (.lst ds)/\Z2 S 0 ds R/\S[at_]?=some (.lst (is.map wtD))/\is.length=q/\(1<=q/\q<=3)/\(∀i∈is,i<R.length)/\(∀r∈R,r.length=q/\Bd 1100 r)/\(1<=g/\g<=1000000)/\(ZJ q (Z9 R is)=0->∀T:Sto,Pre S T->Q .non T)/\(ZJ q (Z9 R is)≠0->∀(T:Sto)(m:Nat)(ms:List D),Pre S T->S.length<=m->T[m]?=some (.lst ms)->YG T ms (Yi (Z9 R is) (q-1) (ZJ q (Z9 R is)) g)->(∀r∈Yi (Z9 R is) (q-1) (ZJ q (Z9 R is)) g,r.length=q/\∀x∈r,Sz 4000 x)->Q (.ref m) T))) ds
def OU:Sd:=λds S Q ex=>(aR λth=>aR λmd=>aR λat_=>aR λbx=>aI λg=>aR λtu=>aN (∃(R:List LI)(ds ms:List D)(is:List Nat)(bs aC:LI)(M:List (List Int)),S[th]?=some (.lst (aC.map frD))/\S[md]?=some (.lst ds)/\Z2 S 0 ds R/\S[at_]?=some (.lst (is.map wtD))/\S[bx]?=some (.lst (bs.map frD))/\S[tu]?=some (.lst ms)/\YG S ms M/\is.length=bs.length/\M.length=bs.length/\(1<=bs.length/\bs.length<=3)/\(∀i∈is,i<R.length/\i<aC.length)/\(∀r∈R,r.length=bs.length/\Bd 2000 r)/\(∀r∈M,r.length=bs.length/\∀x∈r,Sz 4000 x)/\Bd 60 bs/\Bd 2000 aC/\(1<=g/\g<=1000000)/\∀(T:Sto)(m:Nat),Pre S T->S.length<=m->T[m]?=some (.lst ((YL g bs aC R is M).map frD))->Q (.ref m) T)) ds
def Fy:Sd:=λds S Q ex=>(aR λf=>aR λb=>aN (∃us vs:LI,S[f]?=some (.lst (us.map frD))/\S[b]?=some (.lst (vs.map frD))/\us.length=vs.length/\vs.length<=900/\Q (.bl (XU us vs)) S)) ds
def F1:Sd:=λds S Q ex=>(aR λrw=>aR λv=>aR λth_=>aR λmd=>aR λbx=>aI λg=>aN (∃(rows:List (Bool×Nat))(bs vs th:LI)(R:List LI)(ds:List D),S[rw]?=some (.lst (rows.map rwD))/\S[v]?=some (.lst (vs.map frD))/\S[th_]?=some (.lst (th.map frD))/\S[md]?=some (.lst ds)/\Z2 S 0 ds R/\S[bx]?=some (.lst (bs.map frD))/\rows.length<=900/\(∀r∈rows,r.2<vs.length/\r.2<R.length/\r.2<th.length)/\(∀r∈R,r.length=bs.length/\Bd 1100 r)/\(1<=bs.length/\bs.length<=3)/\Bd 60 bs/\Bd 2000 th/\(1<=g/\g<=1000000)/\(Uh g bs vs th R rows=none->∀T:Sto,Pre S T->Q .non T)/\(∀(M:List (List Int))(aE:LI),Uh g bs vs th R rows=some (M,aE)->∀(T:Sto)(m n:Nat)(ms:List D),Pre S T->T[m]?=some (.lst ms)->YG T ms M->T[n]?=some (.lst (aE.map frD))->Q (.tup [.ref m,.ref n]) T))) ds
def Gi:Sd:=λds S Q ex=>(aI λx_0=>aN (∀z:Int,Sz 205 z->Q (.int z) S)) ds
def Hj:Sd:=λds S Q ex=>(aR λa=>aR λr=>aR λb=>aI λg=>aR λu=>aN (∃(ns:List Nd)(ws:List Nat)(bs:LI)(rows:List (Bool×Nat))(M:List (List Int))(ms:List D),S[a]?=some (.lst (ns.map Nd.d))/\S[b]?=some (.lst (bs.map frD))/\ZS bs.length ns ws/\Spn 51 bs/\(1<=g/\g<=1000000)/\ns.length<=70/\bs.length<=900/\S[r]?=some (.lst (rows.map rwD))/\rows.length<=900/\(eqs rows).length<=4/\(∀i∈eqs rows,i<ns.length)/\(1<=bs.length/\bs.length<=4)/\S[u]?=some (.lst ms)/\YG S ms M/\M.length=bs.length/\(∀r∈M,r.length<=4/\∀x∈r,Sz 4000 x)/\∀(T:Sto)(m:Nat),Pre S T->S.length<=m->T[m]?=some (.lst ((M.mapIdx λk es=>YW g bs ((eqs rows).map λ(i:Nat)=>gt (Zo (bs.map ZF) g ns) i) ((eqs rows).map λ(i:Nat)=>(ZT (Zo bs g ns) g bs.length ns).getD i []) k es).map frD))->Q (.ref m) T)) ds
section
variable {P:Program}{w:World}{K:Fg}{mg:Str->Option Value}{base:Heap}
def zb9  (JY:Df K mg q56 K4 Um)(ZC:mg "len"=none):Fk P w K mg base 1 q56 Um QK:=
 JY.mk' (Zy (k:=0) JY.F zex (λ_ _ _ _=>nR λ_=>nN:Ln (QK) 1) λ_ _ _ _ _ _ hr=>⟨_,(Zg (Zp (US (Xe FJ (ZR (ZO Z4) rfl ZC Boot.«len» (Za (dv 0) Ze)) Zd (ZI _)) (SD (Xe (ZY hr) (Zf Yb (ZE (dv 0) Zd) Zd) Zd (ZI _)))))),λds S Q ex h=>by
  replace h:=eR h;obtain⟨sc,rfl,h⟩:=h;obtain⟨cs,hs,h⟩:=h;refine R3 hs ?_;rw[zA];unfold frS at h;refine ifD (λc=>?_) (λc=>?_)
  ·have c':0<cs.length:=by lia
   refine Zw (o:=.frz (cs.map D.int)) hs (QR (by decide) (by lia)) ?_;rw[decide_eq_true c',Bool.true_and] at h;exact h
  ·rw[decide_eq_false (show ¬ 0<cs.length by lia),Bool.false_and] at h;exact h⟩)
def zbK  (Mz:Df K mg q46 K7 V2)(Vv:Fk P w K mg base 1 q56 Um QK)(ZC:mg "len"=none):Fk P w K mg base 2 q46 V2 SR:=
 Mz.mk' (Zy (k:=1) Mz.F Qi (λ_ _ _ _=>nR λ_=>nI λ_=>nN:Ln (SR) 2) λ_ _ _ _ _ _ hr=>⟨_,(Zh (ZL (Y5 (Zi Vv hr (Za (dv 0) Ze))) (Zh (ZL (ZN (ZY hr) (dv 1) Zd (ZI _)) (Zg (Zp (Zf Ym (ZE (dv 0) Zd) Zd))) ZP) (Zh (ZL (ZN WD (dv 1) (ZR (ZO Z4) rfl ZC Boot.«len» (Za (dv 0) Ze)) (ZI _)) (Zg (Zp (ZE (dv 0) (dv 1)))) ZP) (Zg (Zp Zd)))) ZP) (Zh (ZD (i:=2) Qi.nd Zd) (Zh (ZL (ZN FJ (ZR (ZO Z4) rfl ZC Boot.«len» (Za (dv 0) Ze)) Zd (ZI _)) (Zg (ZD (i:=2) Qi.nd (Zf YO (ZE (dv 0) (Zf YO (dv 1) (ZR (ZO Z4) rfl ZC Boot.«len» (Za (dv 0) Ze)))) (Zf SU Zd Zd)))) ZP) (Zh (ZD (i:=3) Qi.nd (Zf YO (Zf ZW (Zf ZU (Zf ZU (Zf ZU (dv 2) (Zf ZW (Zf ZW Zd (dv 1)) (dv 1))) (Zf ZW Zd (dv 1))) Zd) Zd) Zd)) (Zh (ZD (i:=4) Qi.nd (Zf YO (Zf ZU (Zf ZW (dv 3) (dv 3)) (dv 1)) Zd)) (Zg (Zp (Zf YO (Zf ZU (Zf ZW (dv 4) Zd) (dv 3)) Zd)))))))),λds S Q ex h=>by
  replace h:=eRI h;obtain⟨sc,k,rfl,h⟩:=h;obtain⟨cs,hs,⟨k0,k1⟩,h⟩:=h;refine⟨cs,hs,?_⟩;cases ef:frS cs
  ·refine YF ?_
   try dsimp only[F2]
   refine TL (λdl2 S2=>S=S2/\∃c:Int,dl2=[some (.ref sc),some (.int k),some (.int c),none,none]) (λnx hn=>?_) ?_
   ·refine R3 hs ?_;rw[zA];refine ifD (λc=>?_) (λc=>?_)
    ·refine R3 hs ?_;rw[zA];have r:=YC (a:=k) c;refine⟨c,?_⟩;refine Zw (o:=.frz (cs.map D.int)) hs (QR r.1 r.2) ?_;exact⟨show (0:Int)<10^Int.toNat 18 by decide,hn _ _ ⟨rfl,_,rfl⟩⟩
    ·exact hn _ _ ⟨rfl,_,rfl⟩
   ·rintro dl2 S2 ⟨rfl,c,rfl⟩;have sk:Sz 10 k:=Sz.of 1000 (by lia)
    have s7:Sz 14 (7*k):=Sz.of 10000 (by lia)
    have r1:=YC (a:=(c+7*k*k+13*k+5)*48271) (b:=2147483647) (by decide)
    have sf:Sz 32 ((c+7*k*k+13*k+5)*48271%2147483647):=Sz.of 2147483647 (by lia);refine⟨IntMulOk.of_left (by decide),ZV s7 sk,IntMulOk.of_left (by decide),IntMulOk.of_right (by decide),show (0:Int)<2147483647 by decide,?_⟩;refine⟨ZV sf sf,show (0:Int)<1000000007 by decide,?_⟩;refine⟨IntMulOk.of_right (by decide),show (0:Int)<2147483629 by decide,?_⟩;exact h _
  ·refine Xf ?_;have hc:0<cs.length:=by
    unfold frS at ef;simp only[Bool.and_eq_true,decide_eq_true_eq] at ef;exact ef.1
   refine ifD (λc=>?_) (λc=>?_)
   ·refine Zw (o:=.frz (cs.map D.int)) hs (QR (by decide) (by lia)) ?_;exact h _
   ·refine R3 hs ?_;rw[zA];refine ifD (λc2=>?_) (λc2=>?_)
    ·refine Zw (o:=.frz (cs.map D.int)) hs (QR k0 c2) ?_;exact h _
    ·exact h _⟩)
def zef  (MV:Df K mg q83 OZ PX):Fk P w K mg base 1 q83 PX HJ:=
 MV.mk' (Zy (k:=0) MV.F za1 (λ_ _ _ _=>nI λ_=>nN:Ln (HJ) 1) λ_ _ _ _ _ _ hr=>⟨_,(Zh (ZL (ZN (ZY hr) (Zf Yb (dv 0) Zd) Zd (ZI _)) (Zg (Zp (Zf ZU Zd (Zf Yb (Zf Ym (dv 0) Zd) Zd)))) ZP) (Zh (ZL (ZN (ZY hr) (Zf Yb (dv 0) Zd) Zd (ZI _)) (Zg (Zp (Zf ZU Zd (Zf Yb (Zf Ym (dv 0) Zd) Zd)))) ZP) (Zg (Zp Zd)))),λds S Q ex h=>by
  replace h:=eI h;obtain⟨c,rfl,h⟩:=h;refine ifD (λe=>?_) (λe=>?_)
  ·exact h _ (by lia) (by lia)
  ·refine ifD (λe=>?_) (λe=>?_)
   ·exact h _ (by lia) (by lia)
   ·exact h _ (by decide) (by decide)⟩)
def zby  (LG:Df K mg q84 MO PR)(Vv:Fk P w K mg base 1 q56 Um QK)(YM:Fk P w K mg base 2 q46 V2 SR)(ZM:mg Xz=none):Fk P w K mg base 3 q84 PR G5:=
 LG.mk' (Zy (k:=2) LG.F Vy (λ_ _ _ _=>nR λ_=>nI λ_=>nI λ_=>nN:Ln (G5) 3) λ_ _ _ _ _ _ hr=>⟨_,(Zh (ZD (i:=3) Vy.nd (Y1 Ze)) (Zh (XW (i:=4) PassesOwn.never rfl Vy.nd rfl (Or.inl rfl) rfl ZM (Za (dv 1) Ze) (Zh (ZD (i:=5) Vy.nd (Zi YM hr (Za (dv 0) (Za (Zf ZU Zd (dv 4)) Ze)))) (Zh (ZD (i:=6) Vy.nd (Zf ZU Zd (Zf YO (Zi YM hr (Za (dv 0) (Za (Zf ZU Zd (dv 4)) Ze))) (Zf ZW Zd (dv 2))))) (Zh (ZD (i:=7) Vy.nd (Zf YV (Zf YO (Zf Ym (dv 5) Zd) (Zf ZW Zd (dv 2))) (Zf ZW Zd (dv 2)))) (Zh (ZL (ZN (ZY hr) (Zf Yb (dv 5) Zd) Zd (ZI _)) (Zg (ZD (i:=7) Vy.nd (W8 Vp (Zf Ym (dv 6) Zd)))) ZP) (Zh (ZL (Y5 (Zi Vv hr (Za (dv 0) Ze))) (Zh (ZD (i:=7) Vy.nd (Zf ZU (Zf YV (Zf YO (dv 5) (Zf YV (Zf ZW Zd (Zf SU Zd Zd)) Zd)) (Zf SU Zd Zd)) Zd)) (Zg (ZD (i:=6) Vy.nd (Zf YO (Zi YM hr (Za (dv 0) (Za (Zf ZU Zd (dv 4)) Ze))) (Zf YV (Zf SU Zd Zd) (dv 7)))))) ZP) (Zg (Yr (Y0 (dv 3) (ZX (Za (dv 7) (Za (Zf ZU (dv 7) (dv 6)) Ze)))))))))))) (Zg (Zp (dv 3))))),λds S Q ex h=>by
  replace h:=eRII h;obtain⟨sc,qi,g,rfl,h⟩:=h;obtain⟨cs,q,hsc,⟨rfl,q3⟩,hg,h⟩:=h;refine⟨⟨by lia,by lia⟩,λk dl' S'=>k<=q/\Pre S S'/\(∃B:LI,S'[S.length]?=some (.lst (B.map frD))/\B.length=k/\Spn 51 B/\(frS cs=false->∀p∈B,p.1.natAbs<=4*g.natAbs/\p.2.natAbs<=4*g.natAbs))/\∃u1 u2 u3 u4:Option D,dl'=[some (.ref sc),some (.int (q:Nat)),some (.int g),some (.ref S.length),u1,u2,u3,u4],⟨zL _,Pre.refl.push,⟨[],Zv _ _,rfl,λp hp=>by simp at hp,λ_ p hp=>by simp at hp⟩,_,_,_,_,rfl⟩,?_⟩;rintro k dl' S' ⟨hk,pr,⟨B,hB,lB,sB,zB⟩,u1,u2,u3,u4,rfl⟩;rw[zJ];refine YX (λc=>?_) (λc=>?_)
  ·have hs:=pr _ _ hsc
   have m2:∀z:Int,IntMulOk 2 z:=λz=>IntMulOk.of_left (by decide)
   have m4:∀z:Int,IntMulOk 4 z:=λz=>IntMulOk.of_left (by decide)
   have e15:(10:Int)^Int.toNat 15=1000000000000000:=rfl
   try dsimp only
   refine zbZ (λdl2 S2=>S'=S2/\∃x lo wi:Int,(0<=wi/\wi<=2*g/\-(2*g)<=lo/\lo<=2*g)/\dl2=[some (.ref sc),some (.int (q:Nat)),some (.int g),some (.ref S.length),some (.int (k:Nat)),some (.int x),some (.int wi),some (.int lo)]) (λnx hn=>?_) ?_
   ·refine⟨cs,hs,⟨show (0:Int)<=3+(k:Int) by lia,show 3+(k:Int)<=1000 by lia⟩,λx=>?_⟩;refine⟨cs,hs,⟨show (0:Int)<=6+(k:Int) by lia,show 6+(k:Int)<=1000 by lia⟩,λy=>?_⟩;have g2:(0:Int)<2*g:=by lia
    have g4:(0:Int)<4*g:=by lia
    have ry:=YC (a:=y) g2
    have rx:=YC (a:=x/3) g4;refine⟨m2 _,g2,m4 _,g4,m2 _,?_⟩;refine ifD (λe=>?_) (λe=>?_)
    ·exact hn _ _ ⟨rfl,_,_,_,⟨by lia,by lia,by lia,by lia⟩,rfl⟩
    ·exact hn _ _ ⟨rfl,_,_,_,⟨by lia,by lia,by lia,by lia⟩,rfl⟩
   rintro dl2 S2 ⟨rfl,x,lo,wi,⟨w0,w1,o0,o1⟩,rfl⟩;have bB:∀lo hi:Int,lo<=hi->lo.natAbs<=10^15->hi.natAbs<=10^15->(frS cs=false->lo.natAbs<=4*g.natAbs/\hi.natAbs<=4*g.natAbs)->k+1<=q/\Pre S (S'.set S.length (.lst (B.map frD++[frD (lo,hi)])))/\∃B2:LI,(S'.set S.length (.lst (B.map frD++[frD (lo,hi)])))[S.length]?=some (.lst (B2.map frD))/\B2.length=k+1/\Spn 51 B2/\(frS cs=false->∀p∈B2,p.1.natAbs<=4*g.natAbs/\p.2.natAbs<=4*g.natAbs):=λlo hi h1 h2 h3 h4=>
    ⟨by lia,U0 pr (zD _),B++[(lo,hi)],by rw[yC];exact Yv hB,by rw[zO,lB];rfl,λp hp=>by
     rcases yF.mp hp with w|w
     ·exact sB p w
     ·rw[xF.mp w];exact⟨h1,Sz.of (n:=51) (10^15) h2,Sz.of (n:=51) (10^15) h3⟩,λe p hp=>by
     rcases yF.mp hp with w|w
     ·exact zB e p w
     ·rw[xF.mp w];exact h4 e⟩
   refine⟨cs,hs,?_⟩;refine YX (λef=>?_) (λef=>?_)
   ·refine⟨m2 _,show (0:Int)<2*10^Int.toNat 15-1 by decide,?_⟩;have rl:=YC (a:=x) (b:=2*10^Int.toNat 15-1) (by decide);refine⟨cs,hs,⟨show (0:Int)<=6+(k:Int) by lia,show 6+(k:Int)<=1000 by lia⟩,λz=>?_⟩;have wp:(0:Int)<10^Int.toNat 15-(x%(2*10^Int.toNat 15-1)-10^Int.toNat 15+1):=by lia
    have rw':=YC (a:=z) wp;refine⟨wp,?_⟩;refine VR (n:=S.length) (S1:=S') (xs:=B.map frD) (y:=frD (_,_)) (λK hK=>by exact hK) hB (λK hK=>by exact hK) (by rw[zA];lia) ?_;obtain⟨f1,f2,f3⟩:=bB (x%(2*10^Int.toNat 15-1)-10^Int.toNat 15+1) (x%(2*10^Int.toNat 15-1)-10^Int.toNat 15+1+z%(10^Int.toNat 15-(x%(2*10^Int.toNat 15-1)-10^Int.toNat 15+1))) (by lia) (by lia) (by lia) (λe=>by rw[ef] at e;cases e);exact⟨f1,f2,f3,_,_,_,_,rfl⟩
   ·refine VR (n:=S.length) (S1:=S') (xs:=B.map frD) (y:=frD (lo,lo+wi)) (λK hK=>by exact hK) hB (λK hK=>by exact hK) (by rw[zA];lia) ?_;obtain⟨f1,f2,f3⟩:=bB lo (lo+wi) (by lia) (by lia) (by lia) (λ_=>by lia);exact⟨f1,f2,f3,_,_,_,_,rfl⟩
  ·have e:k=q:=by lia
   subst e;exact h _ _ B pr (zD _) hB lB sB zB⟩)
def B0  (Nw:Df K mg q33 Kn V4)(VY:mg "abs"=none):Fk P w K mg base 1 q33 V4 Si:=
 Nw.mk' (Zy (k:=0) Nw.F MS (λ_ _ _ _=>nI λ_=>nI λ_=>nN:Ln (Si) 2) λ_ _ _ _ _ _ hr=>⟨_,(Zh (ZD (i:=2) MS.nd (ZR zdP rfl VY Boot.«abs» (Za (dv 0) Ze))) (Zh (ZD (i:=3) MS.nd (dv 1)) (Zh (zdX PassesOwn.never (ZN (Ul hr) (dv 3) Zd (ZI _)) (Zg (zas (i:=2) (j:=3) rfl MS.nd rfl rfl (by decide) rfl rfl (Za (dv 3) (Za (Zf YO (dv 2) (dv 3)) Ze))))) (Zg (Zp (ZX (Za (Zf XJ (dv 0) (dv 2)) (Za (Zf XJ (dv 1) (dv 2)) Ze)))))))),λds S Q ex h=>by
  replace h:=eII h;obtain⟨T,B,rfl,h⟩:=h;obtain⟨⟨hB,sB⟩,h⟩:=h;have f:=zad (T:=T) (B:=B) (d:=((Int.gcd T B:Nat):Int)) (by lia) (by rw[if_neg (by lia)]);obtain⟨f1,f2,f3,f4,f5,f6⟩:=f;have gp:(0:Int)<((Int.gcd T B:Nat):Int):=by lia
  have gle:((Int.gcd T B:Nat):Int)<=B:=Int.le_of_dvd hB (Int.gcd_dvd_right T B)
  have sg:Sz 4000 ((Int.gcd T B:Nat):Int):=by
   unfold Sz at sB ⊢;lia
  have eg:Int.gcd (Vh T) B=Int.gcd T B:=by
   have z:=BC T B;rw[show Vh B=B by unfold Vh;split<;>lia] at z;exact z
  refine⟨λm dl' S'=>S'=S/\∃(x y:Int),dl'=[some (.int T),some (.int B),some (.int x),some (.int y)]/\0<=x/\0<=y/\Int.gcd x y=Int.gcd T B/\m=y.toNat,⟨B.toNat,rfl,Vh T,B,rfl,zbH T,by lia,eg,rfl⟩,?_⟩;rintro m dl' S' ⟨rfl,x,y,rfl,hx,hy,hg,rfl⟩;refine ifN (λc=>?_) (λc=>?_)
  ·have c':0<y:=by lia
   exact⟨c',⟨(x%y).toNat,by have:=YC (a:=x) c';lia,rfl,y,x%y,rfl,hy,(YC (a:=x) c').1,(zcx x y).trans hg,rfl⟩⟩
  ·subst c;have e:((Int.gcd T B:Nat):Int)=x:=by rw[<- hg,Int.gcd_zero_right];lia
   have e1:T/((Int.gcd T B:Nat):Int)=T.fdiv ((Int.gcd T B:Nat):Int):=(xT _ (by lia)).symm
   have e2:B/((Int.gcd T B:Nat):Int)=B.fdiv ((Int.gcd T B:Nat):Int):=(xT _ (by lia)).symm
   have q:=h _ _ f4 f5 f6 (E9 f1 f2) (by have:=E9 f1 f3;lia);rw[<- e1,<- e2] at q;rw[e] at q sg gp;exact⟨sg.fd gp,sg.fd gp,q⟩⟩)
def zai  (JL:Df K mg q48 Kh P9)(Wv:Fk P w K mg base 1 q33 V4 Si):Fk P w K mg base 2 q48 P9 IJ:=
 JL.mk' (Zy (k:=1) JL.F zek (λ_ _ _ _=>nI λ_=>nN:Ln (IJ) 1) λ_ _ _ _ _ _ hr=>⟨_,(Zg (Zp (Zi Wv hr (Za (Zf YV (Zf Yb (dv 0) Zd) Zd) (Za (Zf ZU Zd (Zf Yb (Zf Ym (dv 0) Zd) Zd)) Ze))))),λds S Q ex h=>by
  replace h:=eI h;obtain⟨c,rfl,h⟩:=h;refine⟨⟨show 0<1+c/9%4 by lia,Sz.of (n:=4000) 10 (by show (1+c/9%4).natAbs<=_;lia)⟩,λt b h1 h2 _ h4 h5=>?_⟩;exact h t b ⟨h1,by lia⟩ h2 (by lia)⟩)
def zdJ  (ML:Df K mg q92 Jj QS)(Wv:Fk P w K mg base 1 q33 V4 Si):Fk P w K mg base 2 q92 QS IE:=
 ML.mk' (Zy (k:=1) ML.F zdt (λ_ _ _ _=>nI λ_=>nN:Ln (IE) 1) λ_ _ _ _ _ _ hr=>⟨_,(Zg (Zp (Zi Wv hr (Za (Zf YV (Zf YO (dv 0) Zd) Zd) (Za (Zf ZU Zd (Zf Yb (Zf XJ (dv 0) Zd) Zd)) Ze))))),λds S Q ex h=>by
  replace h:=eI h;obtain⟨c,rfl,h⟩:=h;have r1:=YC (a:=c) (b:=1999999999) (by decide)
  have r2:=YC (a:=c/1999999999) (b:=999999999) (by decide);refine⟨show (0:Int)<1999999999 by decide,?_⟩;refine⟨⟨by decide,by decide⟩,?_⟩;refine⟨⟨show 0<1+c/1999999999%999999999 by lia,Sz.of (10^10) (by show (1+c/1999999999%999999999).natAbs<=_;lia)⟩,λt b h1 h2 _ h4 h5=>?_⟩;exact h t b ⟨h1,by lia⟩ h2 (by lia)⟩)
def Af  (OM:Df K mg q93 LJ R5)(ZC:mg "len"=none):Fk P w K mg base 1 q93 R5 FU:=
 OM.mk' (Zy (k:=0) OM.F zdk (λ_ _ _ _=>nR λ_=>nR λ_=>nD λ_=>nI λ_=>nN:Ln (FU) 4) λ_ _ _ _ _ _ hr=>⟨_,(Zh (ZL (ZN (zbP hr) (dv 2) (dv 0) rfl) (Zg (Zp (CB (k:=1) hr (by decide) (dv 0) (Za (dv 2) Ze)))) ZP) (Zh (Yr (Y0 (dv 0) (dv 2))) (Zh (Yr (Y0 (dv 1) (dv 3))) (Zg (Zp (Zf YV (ZR (ZO Z4) rfl ZC Boot.«len» (Za (dv 0) Ze)) Zd)))))),λds S Q ex h=>by
  replace h:=eRRDI h;obtain⟨a,b,d,w,rfl,h⟩:=h;obtain⟨v,ns,ws,rfl,ha,hb,ne,rfl,l1,l2,h1,h2⟩:=h;obtain⟨o,e1,e2,e3⟩:=J4 v ns;refine Bo (o:=o) ha e2 ?_;cases o with
  | some j=>
   refine Xf ?_;exact Ik (n:=a) (v:=v) (ns:=ns) (λK hK=>by exact hK) (λK hK=>by exact hK) ha e1 (h1 j (e3 j rfl))
  | none=>
   refine YF ?_;refine VR (n:=a) (S1:=S) (xs:=ns.map Nd.d) (y:=v.d) (λK hK=>by exact hK) ha (λK hK=>by exact hK) (by rw[zA];lia) ?_;refine VR (n:=b) (S1:=S.set a (.lst (ns.map Nd.d++[v.d]))) (xs:=ws.map wtD) (y:=wtD (v.wt ws)) (λK hK=>by exact hK) (Yg hb ne) (λK hK=>by exact hK) (by rw[zA];lia) ?_;refine Yc (xs:=ns.map Nd.d++[v.d]) (Yg (Yv ha) (Ne.symm ne)) ?_;have q:=h2 (((ns.map Nd.d++[v.d]).length:Nat)-1) (by simp);rw[yC,yC] at q;exact q⟩)
def zej  (NV:Df K mg q71 Ii Rf)(Qz:Fk P w K mg base 1 q93 R5 FU)(GZ:Fk P w K mg base 2 q92 QS IE)(G0:Fk P w K mg base 2 q48 P9 IJ)(ZC:mg "len"=none):Fk P w K mg base 3 q71 Rf Ie:=
 NV.mk' (Zy (k:=2) NV.F V1 (λ_ _ _ _=>nR λ_=>nR λ_=>nI λ_=>nI λ_=>nB λ_=>nN:Ln (Ie) 5) λ_ _ _ _ _ _ hr=>⟨_,(Zh (ZD (i:=5) V1.nd (Zf YO (Zf Yb (Zf Ym (dv 2) Zd) Zd) (ZR (ZO Z4) rfl ZC Boot.«len» (Za (dv 0) Ze)))) (Zh (ZD (i:=6) V1.nd (Zf YO (Zf Yb (Zf Ym (dv 2) Zd) Zd) (ZR (ZO Z4) rfl ZC Boot.«len» (Za (dv 0) Ze)))) (Zh (ZD (i:=7) V1.nd (Zf ZU (ZE (dv 1) (dv 5)) (ZE (dv 1) (dv 6)))) (Zg (ZL (ZN (ZY hr) (Zf Yb (dv 2) Zd) Zd (ZI _)) (Zh (ZD (i:=8) V1.nd (Zi G0 hr (Za (Zf Ym (dv 2) Zd) Ze))) (Zh (ZL (Y5 (dv 4)) (Zg (ZD (i:=8) V1.nd (Zi GZ hr (Za (Zf Ym (dv 2) Zd) Ze)))) ZP) (Zg (Yr (Zi Qz hr (Za (dv 0) (Za (dv 1) (Za (ZX (Za Z6 (Za (Zk (dv 8) Zd) (Za (Zk (dv 8) Zd) Ze)))) (Za Zd Ze))))))))) (Zg (ZL (ZN (ZY hr) (Zf Yb (dv 2) Zd) Zd (ZI _)) (Zh (ZD (i:=9) V1.nd (Zf ZU Zd (Zf Yb (Zf Ym (dv 2) Zd) Zd))) (Zg (ZL (ZN FW (Zf ZW (dv 9) (ZE (dv 1) (dv 5))) (dv 3) (ZI _)) (Zg (Yr (Zi Qz hr (Za (dv 0) (Za (dv 1) (Za (ZX (Za Z6 (Za (dv 5) (Za (dv 9) Ze)))) (Za (Zf ZW (dv 9) (ZE (dv 1) (dv 5))) Ze))))))) ZP))) (Zg (ZL (ZN FW (dv 7) (dv 3) (ZI _)) (Zh (ZD (i:=10) V1.nd (ZE (Y1 (Za Z6 (Za Z6 (Za Z6 Ze)))) (Zf Yb (Zf Yb (dv 2) Zd) Zd))) (Zg (Yr (Zi Qz hr (Za (dv 0) (Za (dv 1) (Za (ZX (Za (dv 10) (Za (dv 5) (Za (dv 6) Ze)))) (Za (dv 7) Ze)))))))) ZP))))))))),λds S Q ex h=>by
  replace h:=za9 h;obtain⟨a,b,c,most,fr,rfl,h⟩:=h;obtain⟨qn,ns,ws,ha,hb,ne,net,l1,l9,hm,h⟩:=h;have lw:=net.len
  have pos:(0:Int)<((ns.length:Nat):Int):=by lia
  have ro:=YC (a:=c/6%64) pos
  have rj:=YC (a:=c/384%64) pos
  have ho:inR ((ns.length:Nat):Int) (c/6%64%((ns.length:Nat):Int)):=ro
  have hj:inR ((ns.length:Nat):Int) (c/384%64%((ns.length:Nat):Int)):=rj
  have ho':inR ((ws.length:Nat):Int) (c/6%64%((ns.length:Nat):Int)):=by rw[lw];exact ho
  have hj':inR ((ws.length:Nat):Int) (c/384%64%((ns.length:Nat):Int)):=by rw[lw];exact hj
  have wo:=net.w1 ho
  have wj:=net.w1 hj
  have on:∀(T:Sto),(∀(x:Nat)(o:Ob),S[x]?=some o->T[x]?=some o)->S.length<=T.length->Q .non T:=λT k l=>h T [] ws (by rw[yZ];exact net) ⟨[],by simp,λw hw=>by simp at hw⟩ (λ_ v hv=>by simp at hv) (by simp) (by rw[yZ];exact k _ _ ha) (k _ _ hb) l λx o _ _ e=>k x o e
  have put:∀(v:Nd)(T:Sto),(∀(x:Nat)(o:Ob),S[x]?=some o->T[x]?=some o)->S.length<=T.length->v.ok ((ns.length:Nat):Int) ((qn:Nat):Int)->v.wt ws<=16->(v.wt ws=1\/((v.wt ws:Nat):Int)<=most)->(fr=false->v.lit)->Q .non ((T.set a (.lst ((ns++[v]).map Nd.d))).set b (.lst ((ws++[v.wt ws]).map wtD))):=λv T k l ok h16 hmo hli=>
   h _ [v] _ (net.snoc ok h16) ⟨[v.wt ws],rfl,λw hw=>by rw[xF.mp hw];exact hmo⟩ (λe u hu=>by rw[xF.mp hu];exact hli e) (by simp) (Yg (Yv (k _ _ ha)) (Ne.symm ne)) (Yv (Yg (k _ _ hb) ne)) (by simpa using l) λx o h1 h2 e=>Yg (Yg (k x o e) (Ne.symm h1)) (Ne.symm h2)
  refine Yc ha ?_;rw[zA];refine⟨pos,?_⟩;refine Yc ha ?_;rw[zA];refine⟨pos,?_⟩;refine Zw (o:=.lst (ws.map wtD)) hb (Kg ho') ?_;refine Zw (o:=.lst (ws.map wtD)) hb (Kg hj') ?_;refine ifD (λe4=>?_) (λe4=>?_)
  ·refine λt d h1 h2 h3=>?_
   cases fr
   ·refine⟨.number t d,ns,ws,rfl,ha,hb,ne,rfl,by lia,by lia,λj _=>on S (λ_ _ e=>e) (zD _),λi _=>?_⟩;exact put (.number t d) S (λ_ _ e=>e) (zD _) ⟨⟨h1.1,by lia⟩,h2,by lia⟩ (show 1<=16 by decide) (Or.inl rfl) (λ_=>h3)
   ·refine λt d h1 h2 h3=>⟨.number t d,ns,ws,rfl,ha,hb,ne,rfl,by lia,by lia,λj _=>on S (λ_ _ e=>e) (zD _),λi _=>?_⟩
    exact put (.number t d) S (λ_ _ e=>e) (zD _) ⟨h1,h2,h3⟩ (show 1<=16 by decide) (Or.inl rfl) (λe=>nomatch e)
  ·refine ifD (λe3=>?_) (λe3=>?_)
   ·have r5:=YC (a:=c/24576) (b:=5) (by decide);refine Zw (o:=.lst (ws.map wtD)) hb (Kg ho') ?_;have mo:IntMulOk (2+c/24576%5) ((ws.getD (c/6%64%((ns.length:Nat):Int)).toNat 0:Nat):Int):=ZV (m:=400) (n:=400) (Sz.of (10^20) (by lia)) (Sz.of (10^20) (by lia))
    have ew:(2+c/24576%5)*((ws.getD (c/6%64%((ns.length:Nat):Int)).toNat 0:Nat):Int)=((Nd.wt ws (.power (c/6%64%((ns.length:Nat):Int)) (2+c/24576%5)):Nat):Int):=by
     simp only[Nd.wt];rw[Int.natCast_mul];rw[Int.toNat_of_nonneg (by lia)]
    refine⟨mo,?_⟩;refine ifD (λe5=>?_) (λe5=>on S (λ_ _ e=>e) (zD _));refine Zw (o:=.lst (ws.map wtD)) hb (Kg ho') ?_;refine⟨mo,?_⟩;refine⟨.power (c/6%64%((ns.length:Nat):Int)) (2+c/24576%5),ns,ws,rfl,ha,hb,ne,ew,by lia,by lia,λj _=>on S (λ_ _ e=>e) (zD _),λi _=>?_⟩;exact put (.power (c/6%64%((ns.length:Nat):Int)) (2+c/24576%5)) S (λ_ _ e=>e) (zD _) ⟨ho,by lia,by lia⟩ (by rw[ew] at e5;lia) (Or.inr (by rw[ew] at e5;exact e5)) (λ_=>trivial)
   ·refine ifD (λe5=>?_) (λe5=>on S (λ_ _ e=>e) (zD _));have go:∀(v:Nd)(T:Sto),T=S++[.lst [.str "plus",.str "minus",.str "times"]]->v.ok ((ns.length:Nat):Int) ((qn:Nat):Int)->v.wt ws=ws.getD (c/6%64%((ns.length:Nat):Int)).toNat 0+ws.getD (c/384%64%((ns.length:Nat):Int)).toNat 0->(fr=false->v.lit)->∃(v':Nd)(ns':List Nd)(ws':List Nat),v.d=v'.d/\T[a]?=some (.lst (ns'.map Nd.d))/\T[b]?=some (.lst (ws'.map wtD))/\a≠b/\((ws.getD (c/6%64%((ns.length:Nat):Int)).toNat 0:Nat):Int)+((ws.getD (c/384%64%((ns.length:Nat):Int)).toNat 0:Nat):Int)=(v'.wt ws':Nat)/\ns'.length<900/\ws'.length<900/\(∀j:Nat,ns'[j]?=some v'->Q .non T)/\∀i:Int,i=(ns'.length:Nat)->Q .non ((T.set a (.lst ((ns'++[v']).map Nd.d))).set b (.lst ((ws'++[v'.wt ws']).map wtD))):=λv T e ok ew hli=>by
     subst e;refine⟨v,ns,ws,rfl,ZA ha,ZA hb,ne,by rw[ew];lia,by lia,by lia,λj _=>on _ (λ_ _ e=>ZA e) (by simp),λi _=>?_⟩;exact put v _ (λ_ _ e=>ZA e) (by simp) ok (by rw[ew];lia) (Or.inr (by rw[ew];lia)) hli
    have three:∀i:Int,inR 3 i->i=0\/i=1\/i=2:=λi hi=>by have:=hi.1;have:=hi.2;lia
    rcases three (c%6%3) (YC (by decide)) with e6|e6|e6
    ·refine Zw (o:=.lst [.str "plus",.str "minus",.str "times"]) (Zv _ _) (d:=.str "plus") (by rw[e6];rfl) ?_;exact go (.plus _ _) _ rfl ⟨ho,hj⟩ rfl (λ_=>trivial)
    ·refine Zw (o:=.lst [.str "plus",.str "minus",.str "times"]) (Zv _ _) (d:=.str "minus") (by rw[e6];rfl) ?_;exact go (.minus _ _) _ rfl ⟨ho,hj⟩ rfl (λ_=>trivial)
    ·refine Zw (o:=.lst [.str "plus",.str "minus",.str "times"]) (Zv _ _) (d:=.str "times") (by rw[e6];rfl) ?_;exact go (.times _ _) _ rfl ⟨ho,hj⟩ rfl (λ_=>trivial)⟩)
def zet  (Mu:Df K mg q27 R1 Qn)(YM:Fk P w K mg base 2 q46 V2 SR)(Rv:Fk P w K mg base 3 q71 Rf Ie)(ZM:mg Xz=none)(ZC:mg "len"=none)(Xo:mg "min"=none):Fk P w K mg base 4 q27 Qn IS:=
 Mu.mk' (Zy (k:=3) Mu.F Rl (λ_ _ _ _=>nR λ_=>nR λ_=>nR λ_=>nN:Ln (IS) 3) λ_ _ _ _ _ _ hr=>⟨_,(Zh (ZD (i:=3) Rl.nd (ZR (ZO Z4) rfl ZC Boot.«len» (Za (dv 1) Ze))) (Zh (HD (i:=4) PassesOwn.never rfl Rl.nd rfl (Or.inl rfl) rfl ZM (Za Zd (Za (ZR (LH rfl) rfl Xo Boot.«min» (Za (ZR (ZO Z4) rfl ZC Boot.«len» (Za (dv 0) Ze)) (Za Zd Ze))) Ze)) (Zg (Yr (Zi Rv hr (Za (dv 1) (Za (dv 2) (Za (ZE (dv 0) (dv 4)) (Za Zd (Za XA Ze))))))))) (Zh (OV (x:="_law_j") (N:=["_law_script","_law_nodes"]) (caps:=[0,1]) (ar:=Zj R1) rfl rfl csc rfl (by decide) (i:=5) Rl.nd rfl rfl rfl ZM (Za (dv 3) Ze) (λ_ _ _ _ _ _=>Yt) (λ_ _ _ _ _ _=>(ZX (Za Z6 (Za (Zf YO (Zi YM hr (Za (dv 1) (Za (Zf ZU Zd (dv 0)) Ze))) (ZR (ZO Z4) rfl ZC Boot.«len» (Za (dv 2) Ze))) Ze))))) (Zh (XW (i:=6) PassesOwn.never rfl Rl.nd rfl (Or.inl rfl) rfl ZM (Za (Zf Yb (Zi YM hr (Za (dv 0) (Za Zd Ze))) Zd) Ze) (Zh (ZD (i:=7) Rl.nd (Zi YM hr (Za (dv 0) (Za (Zf ZU Zd (dv 6)) Ze)))) (Zg (Yr (Cr (dv 5) (Za (Zf YO (dv 7) (Zf ZU (ZR (ZO Z4) rfl ZC Boot.«len» (Za (dv 5) Ze)) Zd)) (Za (ZX (Za Z6 (Za (Zf YO (Zf Ym (dv 7) Zd) (ZR (ZO Z4) rfl ZC Boot.«len» (Za (dv 1) Ze))) Ze))) Ze))))))) (Zg (Zp (ZX (Za (dv 1) (Za (dv 5) Ze))))))))),λds S Q ex h=>by
  replace h:=eRRR h;obtain⟨sc,a,b,rfl,h⟩:=h;obtain⟨cs,q,ns,ws,hsc,ha,hb,ab,net,⟨n1,n3⟩,nq,c63,h⟩:=h;have asc:sc≠a:=λe=>by rw[e,ha] at hsc;cases hsc
  have bsc:sc≠b:=λe=>by rw[e,hb] at hsc;cases hsc
  refine Yc ha ?_;rw[zA];refine R3 hsc ?_;rw[zA];obtain⟨hi,ehi,h32,aU⟩:∃hi:Int,(if (32:Int)<((cs.length:Nat):Int) then (32:Int) else ((cs.length:Nat):Int))=hi/\(0<=hi/\hi<=32)/\hi<=((cs.length:Nat):Int):=by
   split
   ·exact⟨_,rfl,by lia,by lia⟩
   ·exact⟨_,rfl,by lia,by lia⟩
  have la:=Z7 ha;refine⟨⟨by decide,by decide,?_,?_⟩,λk dl' S'=>k<=(hi-14).toNat/\(∃(ns':List Nd)(ws':List Nat),ZS q ns' ws'/\1<=ns'.length/\ns'.length<=3+k/\S'[a]?=some (.lst (ns'.map Nd.d))/\S'[b]?=some (.lst (ws'.map wtD))/\S.length<=S'.length/\∀(x:Nat)(o:Ob),x≠a->x≠b->S[x]?=some o->S'[x]?=some o)/\∃u:Option D,dl'=[some (.ref sc),some (.ref a),some (.ref b),some (.int ((ns.length:Nat):Int)),u,none,none,none],⟨zL _,⟨ns,ws,net,n1,by lia,ha,hb,zD _,λ_ _ _ _ e=>e⟩,_,rfl⟩,?_⟩
  ·show -(2^62)<=(if (32:Int)<((cs.length:Nat):Int) then (32:Int) else ((cs.length:Nat):Int));rw[ehi];lia
  ·show (if (32:Int)<((cs.length:Nat):Int) then (32:Int) else ((cs.length:Nat):Int))<2^62;rw[ehi];lia
  rintro k dl' S' ⟨hk,⟨ns',ws',net',l1,l3,e1,e2,lS,kp⟩,u,rfl⟩;show if k<((if (32:Int)<((cs.length:Nat):Int) then (32:Int) else ((cs.length:Nat):Int))-14).toNat then _ else _
  rw[ehi];refine YX (λc=>?_) (λc=>?_)
  ·refine Zw (o:=.frz (cs.map D.int)) (kp _ _ asc bsc hsc) (QR (k:=14+(k:Int)) (by lia) (by lia)) ?_;refine⟨q,ns',ws',e1,e2,ab,net',l1,by lia,by decide,λT ms us n2 hu li lm t1 t2 lT kT=>?_⟩;exact⟨by lia,⟨ns'++ms,us,n2,by rw[zO];lia,by rw[zO];lia,t1,t2,by lia,λx o hx hy e=>kT x o hx hy (kp x o hx hy e)⟩,_,rfl⟩
  ·clear c;have hs:=kp _ _ asc bsc hsc;refine De (j:=((ns.length:Nat):Int)) (S1:=S') (λ_ d=>∃r:Bool×Nat,d=rwD r/\r.2<ns'.length) (λK hK=>by exact hK) ⟨by lia,by lia⟩ (λk hk S2 K pr hK=>?_) (λxs lx hx=>?_)
   ·refine⟨cs,pr _ _ hs,⟨show (0:Int)<=32+(k:Int) by lia,show 32+(k:Int)<=1000 by lia⟩,λv=>?_⟩;refine Yc (pr _ _ e1) ?_;rw[zA];have np:(0:Int)<((ns'.length:Nat):Int):=by lia
    have r:=YC (a:=v) np;refine⟨np,hK _ ⟨(true,(v%((ns'.length:Nat):Int)).toNat),?_,by show (v%((ns'.length:Nat):Int)).toNat<_;lia⟩⟩;have e:(((v%((ns'.length:Nat):Int)).toNat:Nat):Int)=v%((ns'.length:Nat):Int):=by lia
    show _=D.tup [.str "zero",.int (((v%((ns'.length:Nat):Int)).toNat:Nat):Int)];rw[e]
   obtain⟨rows,rfl,zr⟩:=Dp xs hx;rw[zA] at lx;have lx3:rows.length<=3:=by lia
   have ls':=Z7 e1
   have lb':=Z7 e2;refine⟨cs,ZA hs,⟨by decide,by decide⟩,λv=>?_⟩;have r3:=YC (a:=v) (b:=3) (by decide);refine⟨⟨by lia,by lia⟩,λk dl' S2=>k<=(v%3).toNat/\(∃rows2:List (Bool×Nat),S2[S'.length]?=some (.lst (rows2.map rwD))/\(1<=rows2.length/\rows2.length<=3+k)/\(∀r∈rows2,r.2<ns'.length)/\∀(x:Nat)(o:Ob),S'[x]?=some o->S2[x]?=some o)/\∃u1 u2:Option D,dl'=[some (.ref sc),some (.ref a),some (.ref b),some (.int ((ns.length:Nat):Int)),u,some (.ref S'.length),u1,u2],⟨zL _,⟨rows,Zv _ _,by lia,zr,λx o e=>ZA e⟩,_,_,rfl⟩,?_⟩;rintro k dl' S2 ⟨hk2,⟨rows2,hR,lr2,zr2,kp2⟩,u1,u2,rfl⟩;refine YX (λc=>?_) (λc=>?_)
   ·have hk3:k<3:=by lia
    refine⟨cs,kp2 _ _ hs,⟨show (0:Int)<=45+(k:Int) by lia,show 45+(k:Int)<=1000 by lia⟩,λw=>?_⟩;have np:(0:Int)<((rows2.length:Nat):Int)+1:=by lia
    have nq':(0:Int)<((ns'.length:Nat):Int):=by lia
    have xr:=YC (a:=w) np
    have yr:=YC (a:=w/16) nq';obtain⟨y,hy⟩:∃y:Nat,w/16%((ns'.length:Nat):Int)=(y:Int):=⟨(w/16%((ns'.length:Nat):Int)).toNat,by lia⟩;refine zcK (n:=S'.length) (S1:=S2) (S2:=S2) (i:=w%(((rows2.length:Nat):Int)+1)) (y:=rwD (false,y)) (xs:=rows2.map rwD) (λK hK=>by exact hK) hR (λK hK=>?_) hR ⟨xr.1,by rw[zA];lia,by rw[zA];lia⟩ ?_
    ·refine Yc hR ?_;rw[zA];refine⟨np,?_⟩;refine Yc (kp2 _ _ e1) ?_;rw[zA];refine⟨nq',?_⟩;have e:D.tup [.str "least",.int (w/16%((ns'.length:Nat):Int))]=rwD (false,y):=congrArg (λz:Int=>D.tup [.str "least",.int z]) hy;rw[<- e] at hK;exact hK
    ·generalize (w%(((rows2.length:Nat):Int)+1)).toNat=i;have lt2:=Z7 hR;refine⟨by lia,⟨rows2.take i++(false,y)::rows2.drop i,?_,?_,λr hr=>?_,λx o e=>?_⟩,_,_,rfl⟩
     ·rw[yC,yP,List.map_take,List.map_drop];exact Yv hR
     ·rw[zO,zY,zW,xA];lia
     ·rcases yF.mp hr with z|z
      ·exact zr2 r (xX z)
      ·rcases zQ.mp z with z|z
       ·rw[z];show y<ns'.length;lia
       ·exact zr2 r (xK z)
     ·have:=Z7 e;exact Yg (kp2 x o e) (by lia)
   ·have k3:k<=3:=by lia
    exact h _ _ ns' ws' rows2 net' l1 (by lia) (kp2 _ _ e1) hR (by lia) zr2 lS λx o hx hy e=>kp2 x o (kp x o hx hy e)⟩)
def zcV  (JF:Df K mg q79 J8 VM):Fk P w K mg base 1 q79 VM Tc:=
 JF.mk' (Zy (k:=0) JF.F A0 (λ_ _ _ _=>nR λ_=>nD λ_=>nN:Ln (Tc) 2) λ_ _ _ _ _ _ hr=>⟨_,(Zh (ZL (ZN (Ak hr) (dv 1) (dv 0) rfl) (Zg (Yr (Y0 (dv 0) (dv 1)))) ZP) (Zg (Zp (CB (k:=1) hr (by decide) (dv 0) (Za (dv 1) Ze))))),λds S Q ex h=>by
  replace h:=eRD h;obtain⟨a,d,rfl,h⟩:=h;obtain⟨q,v,ns,ws,rfl,ha,l9,net,ok,h16,h⟩:=h;have bB:∀(T:Sto)(j:Nat)(ns':List Nd)(ws':List Nat),Gr q a 1 S ns ws T ns' ws'->ns'[j]?=some v->Q (.int (j:Int)) T:=λT j ns' ws' gr hj=>by
   refine h T j ns' ws' gr (zF.mp hj).1 hj ?_ (zbG gr ok hj);rw[(gr.net.ok j v hj).2.1];exact Dc gr net ok
  obtain⟨o,e1,e2,e3⟩:=J4 v ns;refine zeh (o:=o) ha e2 ?_;cases o with
  | some j=>
   refine YF ?_;refine Ik (n:=a) (v:=v) (ns:=ns) (λK hK=>by exact hK) (λK hK=>by exact hK) ha e1 ?_;exact bB S j ns ws ((Gr.refl net ha).mono (by decide)) (e3 j rfl)
  | none=>
   refine Xf ?_;refine VR (n:=a) (S1:=S) (xs:=ns.map Nd.d) (y:=v.d) (λK hK=>by exact hK) ha (λK hK=>by exact hK) (by rw[zA];lia) ?_;have hm:(S.set a (.lst (ns.map Nd.d++[v.d])))[a]?=some (.lst ((ns++[v]).map Nd.d)):=by
    rw[yC];exact Yv ha
   obtain⟨o2,f1,f2,f3⟩:=J4 v (ns++[v]);cases o2 with
   | none=>
    obtain⟨k,hk⟩:∃k,(ns++[v])[k]?=some v:=⟨ns.length,by simp⟩;exact absurd f2 (any_some hk)
   | some j=>
    refine Ik (n:=a) (v:=v) (ns:=ns++[v]) (λK hK=>by exact hK) (λK hK=>by exact hK) hm f1 ?_;exact bB _ j (ns++[v]) (ws++[v.wt ws]) ⟨net.snoc ok h16,⟨[v],rfl,by simp⟩,⟨_,rfl⟩,hm,by simp,λx o hx e=>Yg e (Ne.symm hx)⟩ (f3 j rfl)⟩)
def Ah  (JH:Df K mg q94 O4 Qs)(Xp:Fk P w K mg base 1 q79 VM Tc):Fk P w K mg base 2 q94 Qs IA:=
 JH.mk' (Zy (k:=1) JH.F LY (λ_ _ _ _=>nR λ_=>nR λ_=>nN:Ln (IA) 2) λ_ _ _ _ _ _ hr=>⟨_,(Zh (ZD (i:=2) LY.nd (ZE (dv 1) Zd)) (Zh (Va (i:=3) PassesOwn.never rfl LY.nd rfl (Or.inl rfl) (PC (dv 1) (Q4 Zd) Qc) (Zg (ZD (i:=2) LY.nd (Zi Xp hr (Za (dv 0) (Za (ZX (Za Z6 (Za (dv 2) (Za (dv 3) Ze)))) Ze)))))) (Zg (Zp (dv 2))))),λds S Q ex h=>by
  replace h:=eRR h;obtain⟨a,p,rfl,h⟩:=h;obtain⟨q,B,ns,ws,is,ha,hp,ap,net,⟨i1,i4⟩,b16,l8,his,h⟩:=h;have h0:is[0]?=some is[0]:=zC (by lia);generalize is[0]=j0 at h0;have z0:=his j0 (zN h0);refine Zw (o:=.lst (is.map wtD)) hp (d:=.int (j0:Int)) (X2 (j:=0) (by show (is.map wtD)[0]?=_;rw[zG,h0];rfl)) ?_;refine QV (n:=p) (o:=.lst (is.map wtD)) (lo:=some 1) (hi:=none) (S3:=S) (λK hK=>by exact hK) (λK hK=>by exact hK) (λK hK=>by exact hK) hp ?_;have ec:XB (is.map wtD) (some 1) none=(is.drop 1).map wtD:=by rw[zab,List.map_drop]
  have ecut:(Zu (Ob.lst (XB (is.map wtD) (some 1) none))).length=is.length-1:=by
   show (XB (is.map wtD) (some 1) none).length=_;rw[ec,zA,xA]
  have la:=Z7 ha;refine Vf (n:=S.length) (o:=.lst (XB (is.map wtD) (some 1) none)) (λk dl' S'=>∃(j:Nat)(ns':List Nd)(ws':List Nat),Gr q a k S ns ws S' ns' ws'/\j<ns'.length/\ws'.getD j 0<=(k+1)*B/\(∀(P:LI)(g:Int)(V:Nat->Int×Int->Prop),(∀i∈is,V 1 (gt (Zo P g ns) (i:Int)))->(∀k x y,V k x->V 1 y->V (k+1) (x.1+y.1,x.2+y.2))->V (k+1) (gt (Zo P g ns') (j:Int)))/\S'[S.length]?=some (.lst (XB (is.map wtD) (some 1) none))/\∃u:Option D,dl'=[some (.ref a),some (.ref p),some (.int (j:Int)),u]) ⟨j0,ns,ws,Gr.push net ha _,z0.1,by have:=z0.2;lia,λP g V hz _=>hz j0 (zN h0),Zv _ _,_,rfl⟩ (λk dl' S' ⟨_,_,_,_,_,_,_,e,_⟩=>e) ?_ ?_
  ·rintro k x dl' S' nx ct ex' ⟨j,ns',ws',gr,hj,wj,dj,e4,u,rfl⟩ hn;have hx:(XB (is.map wtD) (some 1) none)[k]?=some x:=ex'
   have hk:=(zF.mp hx).1;rw[ec] at hx;rw[ec,zA,xA] at hk;rw[zG] at hx;obtain⟨i,hi,rfl⟩:=zP.mp hx;have him':=xK (zN hi)
   have him:=his i him'
   have ln:=gr.ln
   have hi':i<ns'.length:=by lia
   have wi:=gr.wt net him.1
   have hB:(k+1+1)*B<=16:=yK (Nat.mul_le_mul_right B (show k+1+1<=is.length by lia)) b16
   have eB:(k+1+1)*B=(k+1)*B+B:=Nat.succ_mul (k+1) B
   have wv:Nd.wt ws' (.plus (j:Int) (i:Int))<=(k+1+1)*B:=by
    show ws'.getD ((j:Nat):Int).toNat 0+ws'.getD ((i:Nat):Int).toNat 0<=_;rw[zJ,zJ,wi];have:=him.2;lia
   refine⟨q,.plus j i,ns',ws',rfl,gr.nd,by lia,gr.net,⟨⟨by lia,by lia⟩,⟨by lia,by lia⟩⟩,by lia,λT j2 ns2 ws2 gr2 lj2 hj2 wj2 dj2=>?_⟩;refine hn _ _ ⟨j2,ns2,ws2,gr.trans gr2,lj2,by rw[wj2];exact wv,λP g V hz st=>?_,gr2.kp _ _ (by lia) e4,_,rfl⟩;rw[TC gr2 (v:=.plus (j:Int) (i:Int)) ⟨⟨by lia,by lia⟩,⟨by lia,by lia⟩⟩ hj2];exact st (k+1) (gt (Zo P g ns') (j:Int)) (gt (Zo P g ns') (i:Int)) (dj P g V hz st) (by rw[gr.fw P g him.1];exact hz i him')
  ·rintro dl' S' ⟨j,ns',ws',gr,hj,wj,dj,e4,u,rfl⟩;rw[ecut] at gr wj dj;rw[show is.length-1+1=is.length by lia] at dj;exact h _ j ns' ws' (gr.mono (by lia)) hj (by rw[show is.length-1+1=is.length by lia] at wj;exact wj) dj⟩)
def zeF  (OJ:Df K mg q51 Nr Qx)(F9:Fk P w K mg base 2 q94 Qs IA)(Xp:Fk P w K mg base 1 q79 VM Tc)(ZM:mg Xz=none)(ZC:mg "len"=none):Fk P w K mg base 3 q51 Qx GD:=
 OJ.mk' (Zy (k:=2) OJ.F Ni (λ_ _ _ _=>nR λ_=>nR λ_=>nB λ_=>nN:Ln (GD) 3) λ_ _ _ _ _ _ hr=>⟨_,(Zh (ZD (i:=3) Ni.nd (Y1 Ze)) (Zh (XW (i:=4) PassesOwn.never rfl Ni.nd rfl (Or.inl rfl) rfl ZM (Za (ZR (ZO Z4) rfl ZC Boot.«len» (Za (dv 1) Ze)) Ze) (Zh (ZD (i:=5) Ni.nd (Zi Xp hr (Za (dv 0) (Za (ZX (Za Z6 (Za (ZE (dv 1) (dv 4)) (Za Zd Ze)))) Ze)))) (Zg (ZL (Y5 (dv 2)) (Zg (Yr (Y0 (dv 3) (Zi Xp hr (Za (dv 0) (Za (ZX (Za Z6 (Za (dv 4) (Za (dv 5) Ze)))) Ze)))))) (Zg (Yr (Y0 (dv 3) (Zi Xp hr (Za (dv 0) (Za (ZX (Za Z6 (Za (dv 5) (Za (dv 4) Ze)))) Ze)))))))))) (Zg (Zp (Zi F9 hr (Za (dv 0) (Za (dv 3) Ze))))))),λds S Q ex h=>by
  replace h:=eRRB h;obtain⟨a,e,tu,rfl,h⟩:=h;obtain⟨q,ns,ws,es,ha,he,ae,net,le,⟨q1,q3⟩,unk,ze,l6,h⟩:=h;have la:=Z7 ha;refine TL (λdl' S'=>∃(ps:List Nat)(ns':List Nd)(ws':List Nat),Gr q a (2*q) S ns ws S' ns' ws'/\S'[S.length]?=some (.lst (ps.map wtD))/\ps.length=q/\(∀i∈ps,i<ns'.length/\ws'.getD i 0<=2/\∀(P:LI)(g:Int),1<=g->(∀k:Int,inR q k->vI 4 g (gt P k))->vI 32 g (gt (Zo P g ns') (i:Int)))/\∃u1 u2:Option D,dl'=[some (.ref a),some (.ref e),some (.bl tu),some (.ref S.length),u1,u2]) (λnx hn=>?_) ?_
  ·refine Yc (ZA he) ?_;rw[zA,le];refine⟨⟨by lia,by lia⟩,λk dl' S'=>k<=q/\(∃(ps:List Nat)(ns':List Nd)(ws':List Nat),Gr q a (2*k) S ns ws S' ns' ws'/\S'[S.length]?=some (.lst (ps.map wtD))/\ps.length=k/\∀i∈ps,i<ns'.length/\ws'.getD i 0<=2/\∀(P:LI)(g:Int),1<=g->(∀k:Int,inR q k->vI 4 g (gt P k))->vI 32 g (gt (Zo P g ns') (i:Int)))/\∃u1 u2:Option D,dl'=[some (.ref a),some (.ref e),some (.bl tu),some (.ref S.length),u1,u2],⟨zL _,⟨[],ns,ws,Gr.push net ha _,Zv _ _,rfl,λi hi=>by simp at hi⟩,_,_,rfl⟩,?_⟩;rintro k dl' S' ⟨hk,⟨ps,ns',ws',gr,hP,lp,zp⟩,u1,u2,rfl⟩;rw[zJ];refine YX (λc=>?_) (λc=>?_)
   ·have ln:=gr.ln
    have ltp:=Z7 hP
    have he':=gr.kp _ _ (Ne.symm ae) he;refine Zw (o:=.lst (es.map D.int)) he' (DU (by lia)) ?_;have zx:(es.getD k 0).natAbs<=8:=by
     have e:es.getD k 0=es[k]:=by simp[show k<es.length by lia]
     rw[e];exact ze _ (zZ (by lia))
    generalize es.getD k 0=x at zx;refine⟨q,.number x 1,ns',ws',rfl,gr.nd,by lia,gr.net,⟨⟨by decide,by decide⟩,Int.gcd_one_right _,by lia⟩,show 1<=16 by decide,λT j ns2 ws2 gr2 lj hj wj dj=>?_⟩;have ln2:=gr2.ln
    have uk:ns2[k]?=some (.unknown (k:Int)):=gr2.get (gr.get (unk k c))
    have lk:=(zF.mp uk).1
    have wk:ws2.getD k 0=1:=(gr2.net.ok k _ uk).2.1
    have wj':ws2.getD j 0=1:=wj
    have dk:∀(P:LI)(g:Int),gt (Zo P g ns2) (k:Int)=gt P (k:Int):=λP g=>by rw[Gp gr2.net uk];rfl
    have b8:∀(P:LI)(g:Int),1<=g->vI 8 g (gt (Zo P g ns2) (j:Int)):=λP g hg=>by
     rw[TC gr2 (v:=.number x 1) ⟨⟨by decide,by decide⟩,Int.gcd_one_right _,by lia⟩ hj];exact vI.number hg (by decide) (by lia)
    have bB:∀v:Nd,(v=.times (k:Int) (j:Int)\/v=.times (j:Int) (k:Int))->v.ok ns2.length q/\v.wt ws2=2/\∀(P:LI)(g:Int),1<=g->(∀k:Int,inR q k->vI 4 g (gt P k))->vI 32 g (v.fw (Zo P g ns2) P g):=λv hv=>by
     rcases hv with rfl|rfl
     ·refine⟨⟨⟨by lia,by lia⟩,⟨by lia,by lia⟩⟩,?_,λP g hg hP=>?_⟩
      ·show ws2.getD ((k:Nat):Int).toNat 0+ws2.getD ((j:Nat):Int).toNat 0=2;rw[zJ,zJ,wk,wj']
      ·have a:=hP (k:Int) ⟨by lia,by lia⟩;rw[<- dk P g] at a;exact vI.times hg a (b8 P g hg)
     ·refine⟨⟨⟨by lia,by lia⟩,⟨by lia,by lia⟩⟩,?_,λP g hg hP=>?_⟩
      ·show ws2.getD ((j:Nat):Int).toNat 0+ws2.getD ((k:Nat):Int).toNat 0=2;rw[zJ,zJ,wk,wj']
      ·have a:=hP (k:Int) ⟨by lia,by lia⟩;rw[<- dk P g] at a;exact vI.times hg (b8 P g hg) a
    have done:∀(v:Nd)(T2:Sto)(j2:Nat)(ns3:List Nd)(ws3:List Nat),(v.ok ns2.length q/\v.wt ws2=2/\∀(P:LI)(g:Int),1<=g->(∀k:Int,inR q k->vI 4 g (gt P k))->vI 32 g (v.fw (Zo P g ns2) P g))->Gr q a 1 T ns2 ws2 T2 ns3 ws3->j2<ns3.length->ws3.getD j2 0=v.wt ws2->ns3[j2]?=some v->T2[S.length]?=some (.lst (ps.map wtD))->k+1<=q/\∃(ps':List Nat)(ns':List Nd)(ws':List Nat),Gr q a (2*(k+1)) S ns ws (T2.set S.length (.lst (ps.map wtD++[.int (j2:Int)]))) ns' ws'/\(T2.set S.length (.lst (ps.map wtD++[.int (j2:Int)])))[S.length]?=some (.lst (ps'.map wtD))/\ps'.length=k+1/\∀i∈ps',i<ns'.length/\ws'.getD i 0<=2/\∀(P:LI)(g:Int),1<=g->(∀k:Int,inR q k->vI 4 g (gt P k))->vI 32 g (gt (Zo P g ns') (i:Int)):=λv T2 j2 ns3 ws3 hv gr3 lj2 wj2 dj2 hP2=>by
     refine⟨by lia,ps++[j2],ns3,ws3,(((gr.trans gr2).trans gr3).put (by lia) (zD _)).mono (by lia),by rw[yC];exact Yv hP2,by rw[zO,lp];rfl,λi hi=>?_⟩;rcases yF.mp hi with y|y
     ·obtain⟨z1,z2,z3⟩:=zp i y;have g23:=gr2.trans gr3;exact⟨by have:=g23.ln;lia,by rw[g23.wt gr.net z1];exact z2,λP g hg hP=>by rw[g23.fw P g z1];exact z3 P g hg hP⟩
     ·rw[xF.mp y];exact⟨lj2,by rw[wj2,hv.2.1];exact zD _,λP g hg hP=>by rw[TC gr3 hv.1 dj2];exact hv.2.2 P g hg hP⟩
    have hPT:=gr2.kp _ _ (show S.length≠a by lia) hP;cases tu
    ·refine W6 (n:=S.length) (xs:=ps.map wtD) (λK hK=>by exact hK) hPT (λK hK=>?_) (by rw[zA];lia);have fv:=bB (.times j k) (.inr rfl);refine⟨q,.times j k,ns2,ws2,rfl,gr2.nd,by lia,gr2.net,fv.1,by rw[fv.2.1];decide,λT2 j2 ns3 ws3 gr3 lj2 hj2 wj2 dj2=>?_⟩;have hP2:=gr3.kp _ _ (show S.length≠a by lia) hPT;obtain⟨d1,d2⟩:=done _ T2 j2 ns3 ws3 fv gr3 lj2 wj2 hj2 hP2;exact hK _ _ hP2 ⟨d1,d2,_,_,rfl⟩
    ·refine W6 (n:=S.length) (xs:=ps.map wtD) (λK hK=>by exact hK) hPT (λK hK=>?_) (by rw[zA];lia);have fv:=bB (.times k j) (.inl rfl);refine⟨q,.times k j,ns2,ws2,rfl,gr2.nd,by lia,gr2.net,fv.1,by rw[fv.2.1];decide,λT2 j2 ns3 ws3 gr3 lj2 hj2 wj2 dj2=>?_⟩;have hP2:=gr3.kp _ _ (show S.length≠a by lia) hPT;obtain⟨d1,d2⟩:=done _ T2 j2 ns3 ws3 fv gr3 lj2 wj2 hj2 hP2;exact hK _ _ hP2 ⟨d1,d2,_,_,rfl⟩
   ·have e:k=q:=by lia
    subst e;exact hn _ _ ⟨ps,ns',ws',gr,hP,lp,zp,_,_,rfl⟩
  ·rintro dl' S' ⟨ps,ns',ws',gr,hP,lp,zp,u1,u2,rfl⟩;have ln:=gr.ln;refine⟨q,2,ns',ws',ps,gr.nd,hP,by lia,gr.net,⟨by lia,by lia⟩,by lia,by lia,λi hi=>⟨(zp i hi).1,(zp i hi).2.1⟩,λT j ns2 ws2 gr2 lj wj dj=>?_⟩;refine h T j ns2 ws2 ((gr.trans gr2).mono (by lia)) lj (by lia) λP g hg hP=>?_
   have z:=dj P g (λk x=>vI (32*k) g x) (λi hi=>((zp i hi).2.2 P g hg hP).mono hg (by lia)) (λk x y h1 h2=>(h1.plus h2).mono hg (by lia));exact z.mono hg (by lia)⟩)
def zc0  (NI:Df K mg q63 OT PJ)(ZM:mg Xz=none):Fk P w K mg base 1 q63 PJ HG:=
 NI.mk' (Zy (k:=0) NI.F KL (λ_ _ _ _=>nI λ_=>nI λ_=>nN:Ln (HG) 2) λ_ _ _ _ _ _ hr=>⟨_,(Zh (ZD (i:=2) KL.nd Zd) (Zh (XW (i:=3) PassesOwn.never rfl KL.nd rfl (Or.inl rfl) rfl ZM (Za (dv 1) Ze) (Zg (ZD (i:=2) KL.nd (Zf ZW (dv 2) (dv 0))))) (Zg (Zp (dv 2))))),λds S Q ex h=>by
  replace h:=eII h;obtain⟨x,n,rfl,h⟩:=h;obtain⟨⟨h0,h6,sx⟩,h⟩:=h;refine⟨⟨by lia,by lia⟩,λk dl' S'=>S'=S/\k<=n.toNat/\∃(z:Int)(o:Option D),z=x^k/\dl'=[some (.int x),some (.int n),some (.int z),o],⟨rfl,zL _,1,none,(xU x).symm,rfl⟩,?_⟩;rintro k dl' S' ⟨rfl,hk,z,o,rfl,rfl⟩;refine YX (λc=>?_) (λc=>?_)
  ·exact⟨ZV (m:=12001) (n:=2000) ((sx.pow k).mono (by lia)) sx,rfl,by lia,_,_,(xD x k).symm,rfl⟩
  ·have e:k=n.toNat:=by lia
   subst e;exact h⟩)
def zct  (LD:Df K mg q40 Oz Rm)(QB:Fk P w K mg base 1 q63 PJ HG)(WX:mg "sorted"=none):Fk P w K mg base 2 q40 Rm Mf:=
 LD.mk' (Xk (Zy (k:=1) LD.F F7 (Xh (λ_ _ _ _=>nP λ_ _=>nI λ_=>nI λ_=>nN:Ln (Mf) 3)) λ_ _ _ _ _ _ hr=>⟨_,(Zh (ZD (i:=3) F7.nd (ZR (ZO EX) rfl WX Boot.«sorted» (Za (Y1 (Za (Zi QB hr (Za (Zk (dv 0) Zd) (Za (dv 1) Ze))) (Za (Zi QB hr (Za (Zk (dv 0) Zd) (Za (dv 1) Ze))) Ze))) Ze))) (Zh (ZL (PDW.pt (F3 (ZN (ZY hr) (Zf Yb (dv 1) Zd) Zd (ZI _)) (FF (Ew WD WD (Zk (dv 0) Zd) Zd (Zk (dv 0) Zd))))) (Zg (zdr (dv 3) Zd Zd)) ZP) (Zh (ZD (i:=4) F7.nd (Zi QB hr (Za (dv 2) (Za (Zf YV (dv 1) Zd) Ze)))) (Zg (Zp (ZX (Za (Zf XJ (ZE (dv 3) Zd) (dv 4)) (Za (W8 Vp (Zf XJ (W8 Vp (ZE (dv 3) Zd)) (dv 4))) Ze)))))))),λds S Q ex h=>by
  obtain⟨Q0,ex0,rfl,rfl,h⟩:=h;replace h:=ePII h;obtain⟨a,b,n,g,rfl,h⟩:=h;obtain⟨⟨n1,n6,sa,sb,g1,g2⟩,h⟩:=h;have sg:Sz 21 g:=Sz.of 1000000 (by lia)
  have gp:(0:Int)<g^(n.toNat-1):=yS (by lia)
  have egs:(n-1).toNat=n.toNat-1:=by lia
  have zs:Sz 200 (g^(n.toNat-1)):=(sg.pow _).mono (by lia)
  have zf:CFd 0 (g^(n-1).toNat):=by rw[egs];exact zs.fd gp
  refine⟨⟨by lia,n6,sa.mono (by decide)⟩,⟨by lia,n6,sb.mono (by decide)⟩,?_⟩;refine DZ (n:=S.length) (o:=.lst [.int (a^n.toNat),.int (b^n.toNat)]) (ns:=[a^n.toNat,b^n.toNat]) (Z1 (Zv _ _) rfl) rfl (by simp) λms p o=>?_
  have em:=sort2 p o;subst em;have bB:∀(lo hi:Int)(T:Sto),Pre S T->lo=Yk a b n.toNat->hi=Y8 a b n.toNat->Gc S Q0 (.tup [.int (lo/g^(n-1).toNat),.int (-(-hi/g^(n-1).toNat))]) T:=λlo hi T pr e1 e2=>by
   subst e1 e2;rw[egs];exact⟨pr,VQ,h⟩
  have low:¬ (n%2=0/\a<0/\0<b)->min (a^n.toNat) (b^n.toNat)=Yk a b n.toNat:=λno=>by
   unfold Yk;split
   ·rename_i c;obtain⟨c1,c2,c3⟩:=c;have z1:=Tr c1 a
    have z2:=Tr c1 b
    have z0:a=0\/b=0:=by lia
    rcases z0 with rfl|rfl
    ·rw[Q8 (show 1<=n.toNat by lia)] at z1 ⊢;lia
    ·rw[Q8 (show 1<=n.toNat by lia)] at z2 ⊢;lia
   ·rfl
  have Yz:∀lo:Int,lo=Yk a b n.toNat->∀T:Sto,Pre S T->T[S.length+1]?=some (.lst [.int lo,.int (max (a^n.toNat) (b^n.toNat))])->True:=λ_ _ _ _ _=>trivial
  have tail:∀(lo:Int)(T:Sto),lo=Yk a b n.toNat->Pre S T->T[(S++[Ob.lst [.int (a^n.toNat),.int (b^n.toNat)]]).length]?=some (.lst [.int lo,.int (max (a^n.toNat) (b^n.toNat))])->((0<=n-1/\n-1<=6/\Sz 2000 g)/\Xs wIx (.ref (S++[Ob.lst [.int (a^n.toNat),.int (b^n.toNat)]]).length) (.int 0) T λx T1=>wI CFd (λi j=>.int (i/j)) x (.int (g^(n-1).toNat)) T1 λy T2=>Xs wIx (.ref (S++[Ob.lst [.int (a^n.toNat),.int (b^n.toNat)]]).length) (.int 1) T2 λu T3=>wNeg u T3 λu' T4=>wI CFd (λi j=>.int (i/j)) u' (.int (g^(n-1).toNat)) T4 λz T5=>wNeg z T5 λz' T6=>Gc S Q0 (.tup [y,z']) T6):=λlo T e1 pr hT=>by
   refine⟨⟨by lia,by lia,sg.mono (by decide)⟩,?_⟩;refine Zw (o:=.lst [.int lo,.int (max (a^n.toNat) (b^n.toNat))]) hT (d:=.int lo) rfl ?_;refine⟨zf,?_⟩;refine Zw (o:=.lst [.int lo,.int (max (a^n.toNat) (b^n.toNat))]) hT (d:=.int (max (a^n.toNat) (b^n.toNat))) rfl ?_;exact⟨zf,bB _ _ _ pr e1 rfl⟩
  have T0:Pre S ((S++[Ob.lst [.int (a^n.toNat),.int (b^n.toNat)]])++[Ob.lst ([min (a^n.toNat) (b^n.toNat),max (a^n.toNat) (b^n.toNat)].map D.int)]):=Pre.refl.push.push;refine ifD (λe=>?_) (λe=>?_)
  ·refine ifD (λc1=>?_) (λc1=>?_)
   ·refine ifD (λc2=>?_) (λc2=>?_)
    ·refine Aa (n:=(S++[Ob.lst [.int (a^n.toNat),.int (b^n.toNat)]]).length) (k:=0) (j:=0) (v:=.int 0) (λK hK=>by exact hK) (λK hK=>by exact hK) (λK hK=>by exact hK) (Zv _ _) rfl ?_;refine tail 0 _ ?_ (U0 T0 (by simp)) (Yv (Zv _ _));unfold Yk;rw[if_pos ⟨by lia,by lia,by lia⟩]
    ·exact tail _ _ (low λz=>c2 z.2.2) T0 (Zv _ _)
   ·exact tail _ _ (low λz=>c1 z.2.1) T0 (Zv _ _)
  ·exact tail _ _ (low λz=>e z.1) T0 (Zv _ _)⟩))
def BQ  (OD:Df K mg q57 Lj UA):Fk P w K mg base 1 q57 UA Pj:=
 OD.mk' (Zy (k:=0) OD.F zbD (λ_ _ _ _=>nP λ_ _=>nP λ_ _=>nN:Ln (Pj) 2) λ_ _ _ _ _ _ hr=>⟨_,(Zg (Zp (ZX (Za (Zf ZU (Zk (dv 0) Zd) (Zk (dv 1) Zd)) (Za (Zf ZU (Zk (dv 0) Zd) (Zk (dv 1) Zd)) Ze))))),λds S Q ex h=>by
  replace h:=ePP h;obtain⟨_,_,_,_,rfl,h⟩:=h;exact h⟩)
def zb8  (OW:Df K mg q58 MP Uv):Fk P w K mg base 1 q58 Uv Pn:=
 OW.mk' (Zy (k:=0) OW.F zdB (λ_ _ _ _=>nP λ_ _=>nP λ_ _=>nN:Ln (Pn) 2) λ_ _ _ _ _ _ hr=>⟨_,(Zg (Zp (ZX (Za (Zf YV (Zk (dv 0) Zd) (Zk (dv 1) Zd)) (Za (Zf YV (Zk (dv 0) Zd) (Zk (dv 1) Zd)) Ze))))),λds S Q ex h=>by
  replace h:=ePP h;obtain⟨_,_,_,_,rfl,h⟩:=h;exact h⟩)
def BM  (JC:Df K mg q30 My UJ)(WX:mg "sorted"=none):Fk P w K mg base 1 q30 UJ R6:=
 JC.mk' (Xk (Zy (k:=0) JC.F CM (Xh (λ_ _ _ _=>nP λ_ _=>nP λ_ _=>nI λ_=>nN:Ln (R6) 3)) λ_ _ _ _ _ _ hr=>⟨_,(Zh (ZD (i:=3) CM.nd (ZR (ZO EX) rfl WX Boot.«sorted» (Za (Y1 (Za (Zf ZW (Zk (dv 0) Zd) (Zk (dv 1) Zd)) (Za (Zf ZW (Zk (dv 0) Zd) (Zk (dv 1) Zd)) (Za (Zf ZW (Zk (dv 0) Zd) (Zk (dv 1) Zd)) (Za (Zf ZW (Zk (dv 0) Zd) (Zk (dv 1) Zd)) Ze))))) Ze))) (Zg (Zp (ZX (Za (Zf XJ (ZE (dv 3) Zd) (dv 2)) (Za (W8 Vp (Zf XJ (W8 Vp (ZE (dv 3) Zd)) (dv 2))) Ze)))))),λds S Q ex h=>by
  obtain⟨Q0,ex0,rfl,rfl,h⟩:=h;replace h:=ePPI h;obtain⟨a,b,c,d,g,rfl,h⟩:=h;obtain⟨⟨sa,sb,sc,sd,g1,g2⟩,h⟩:=h;have sg:Sz 21 g:=Sz.of 1000000 (by lia);refine⟨ZV sa sc,ZV sa sd,ZV sb sc,ZV sb sd,?_⟩;refine DZ (n:=S.length) (o:=.lst [.int (a*c),.int (a*d),.int (b*c),.int (b*d)]) (ns:=[a*c,a*d,b*c,b*d]) (Z1 (Zv _ _) rfl) rfl (by simp) λms p o=>?_
  obtain⟨x,y,rfl⟩:=sort4 p o;refine Zw (o:=.lst ([mn4 a b c d,x,y,mx4 a b c d].map D.int)) (Zv _ _) (d:=.int (mn4 a b c d)) rfl ?_;refine⟨sg.fd (by lia),?_⟩;refine Zw (o:=.lst ([mn4 a b c d,x,y,mx4 a b c d].map D.int)) (Zv _ _) (d:=.int (mx4 a b c d)) rfl ?_;exact⟨sg.fd (by lia),Pre.refl.push.push,VQ,h⟩⟩))
def C2  (NA:Df K mg q64 JU RV)(X7:Fk P w K mg base 1 q30 UJ R6)(WW:Fk P w K mg base 1 q58 Uv Pn)(Vn:Fk P w K mg base 1 q57 UA Pj)(Th:Fk P w K mg base 2 q40 Rm Mf):Fk P w K mg base 3 q64 RV IY:=
 NA.mk' (Zy (k:=2) NA.F Jr (λ_ _ _ _=>nD λ_=>nR λ_=>nR λ_=>nI λ_=>nN:Ln (IY) 4) λ_ _ _ _ _ _ hr=>⟨_,(Zh (ZD (i:=4) Jr.nd (Zk (dv 0) Zd)) (Zh (ZL (ZN (ZY hr) (dv 4) Z6 (ZI _)) (Zg (Zp (ZX (Za (Zf XJ (Zf ZW (Zk (dv 0) Zd) (dv 3)) (Zk (dv 0) Zd)) (Za (W8 Vp (Zf XJ (Zf ZW (W8 Vp (Zk (dv 0) Zd)) (dv 3)) (Zk (dv 0) Zd))) Ze))))) ZP) (Zh (ZL (ZN (ZY hr) (dv 4) Z6 (ZI _)) (Zg (Zp (ZE (dv 2) (Zk (dv 0) Zd)))) ZP) (Zh (ZD (i:=5) Jr.nd (ZE (dv 1) (Zk (dv 0) Zd))) (Zh (ZL (ZN (ZY hr) (dv 4) Z6 (ZI _)) (Zg (Zp (Zi Th hr (Za (dv 5) (Za (Zk (dv 0) Zd) (Za (dv 3) Ze)))))) ZP) (Zh (ZD (i:=6) Jr.nd (ZE (dv 1) (Zk (dv 0) Zd))) (Zh (ZL (ZN (ZY hr) (dv 4) Z6 (ZI _)) (Zg (Zp (Zi Vn hr (Za (dv 5) (Za (dv 6) Ze))))) ZP) (Zh (ZL (ZN (ZY hr) (dv 4) Z6 (ZI _)) (Zg (Zp (Zi WW hr (Za (dv 5) (Za (dv 6) Ze))))) ZP) (Zg (Zp (Zi X7 hr (Za (dv 5) (Za (dv 6) (Za (dv 3) Ze)))))))))))))),λds S Q ex h=>by
  replace h:=eDRRI h;obtain⟨d,w,p,g,rfl,h⟩:=h;obtain⟨v,vs,bs,rfl,hw,hp,ok,s1,hg,h⟩:=h;have sg:Sz 21 g:=Sz.of 1000000 (by lia);cases v with
  | number x y=>
   have sx:Sz 31 x:=Sz.of (10^9) ok.2.2
   have sy:Sz 31 y:=Sz.of (10^9) (by have:=ok.1;lia);refine⟨ZV sx sg,sy.fd (by have:=ok.1;lia),ZV sx.neg sg,sy.fd (by have:=ok.1;lia),?_⟩;have e:-x*g=-(x*g):=yQ _ _
   show Q (.tup [.int (x*g/y),.int (-(-x*g/y))]) S;rw[e];exact h
  | unknown k=>exact Zw (o:=.lst (bs.map frD)) hp (Z5 ok) h
  | power i m=>
   have a:=s1.at ok.1;obtain⟨ok1,m2,m6⟩:=ok;refine Zw (o:=.lst (vs.map frD)) hw (Z5 ok1) ?_;exact⟨⟨by lia,m6,a.2.1,a.2.2,hg.1,hg.2⟩,h⟩
  | times i j=>
   have a:=s1.at ok.1
   have b:=s1.at ok.2;refine Zw (o:=.lst (vs.map frD)) hw (Z5 ok.1) ?_;refine Zw (o:=.lst (vs.map frD)) hw (Z5 ok.2) ?_;exact⟨⟨a.2.1.mono (by decide),a.2.2.mono (by decide),b.2.1.mono (by decide),b.2.2.mono (by decide),hg.1,hg.2⟩,h⟩
  | plus i j=>
   refine Zw (o:=.lst (vs.map frD)) hw (Z5 ok.1) ?_;exact Zw (o:=.lst (vs.map frD)) hw (Z5 ok.2) h
  | minus i j=>
   refine Zw (o:=.lst (vs.map frD)) hw (Z5 ok.1) ?_;exact Zw (o:=.lst (vs.map frD)) hw (Z5 ok.2) h⟩)
def zcQ  (Lp:Df K mg q41 J5 Td)(Fn:Fk P w K mg base 3 q64 RV IY):Fk P w K mg base 4 q41 Td KA:=
 Lp.mk' (Zy (k:=3) Lp.F GY (λ_ _ _ _=>nR λ_=>nR λ_=>nI λ_=>nN:Ln (KA) 3) λ_ _ _ _ _ _ hr=>⟨_,(Zh (ZD (i:=3) GY.nd (Y1 Ze)) (Zh (Va (i:=4) PassesOwn.never rfl GY.nd rfl (Or.inl rfl) (dv 0) (Zg (Yr (Y0 (dv 3) (Zi Fn hr (Za (dv 4) (Za (dv 3) (Za (dv 1) (Za (dv 2) Ze))))))))) (Zg (Zp (dv 3))))),λds S Q ex h=>by
  replace h:=Q9 h;obtain⟨a,b,g,rfl,h⟩:=h;obtain⟨ns,ws,bs,ha,hb,net,sb,hg,hl,h⟩:=h;refine Vf (n:=a) (o:=.lst (ns.map Nd.d)) (λk dl' S'=>k<=ns.length/\Pre S S'/\S'[S.length]?=some (.lst ((Zo bs g (ns.take k)).map frD))/\∃u:Option D,dl'=[some (.ref a),some (.ref b),some (.int g),some (.ref S.length),u]) ⟨zL _,Pre.refl.push,Zv _ _,_,rfl⟩ (λk dl' S' w=>w.2.1 _ _ ha) ?_ ?_
  ·rintro k x dl' S' nx ct ex' ⟨hk,pr,hf,u,rfl⟩ hn;have ex2:(ns.map Nd.d)[k]?=some x:=ex';rw[zG] at ex2;obtain⟨v,hv,rfl⟩:=zP.mp ex2;have hk':=(zF.mp hv).1
   have ln:(Zo bs g (ns.take k)).length=k:=by rw[Y2,zW];lia
   have okv:v.ok (Zo bs g (ns.take k)).length bs.length:=by rw[ln];exact(net.ok k v hv).1
   refine E8 (n:=S.length) (S1:=S') (S2:=S') (xs:=(Zo bs g (ns.take k)).map frD) (y:=frD (v.fw (Zo bs g (ns.take k)) bs g)) (λK hK=>by exact hK) hf (λK hK=>?_) hf (by rw[zA,ln];lia) ?_
   ·exact⟨v,_,bs,rfl,hf,pr _ _ hb,okv,(K8 net rfl sb hg k hk).mono (by decide),hg,hK⟩
   ·refine hn _ _ ⟨by lia,U0 pr (zD _),?_,_,rfl⟩;rw[XH hv,SX,yC];exact Yv hf
  ·rintro dl' S' ⟨hk,pr,hf,u,rfl⟩;refine h _ _ pr (zD _) ?_;have e:ns.take (Zu (.lst (ns.map Nd.d))).length=ns:=by
    show ns.take (ns.map Nd.d).length=ns;rw[zA,yE]
   rw[e] at hf;exact hf⟩)
def zcf  (OK:Df K mg q66 PM Qk)(Xp:Fk P w K mg base 1 q79 VM Tc)(Wv:Fk P w K mg base 1 q33 V4 Si)(UE:Fk P w K mg base 4 q41 Td KA):Fk P w K mg base 5 q66 Qk Fp:=
 OK.mk' (Zy (k:=4) OK.F Lw (λ_ _ _ _=>nR λ_=>nI λ_=>nR λ_=>nI λ_=>nI λ_=>nN:Ln (Fp) 5) λ_ _ _ _ _ _ hr=>⟨_,(Zh (U5 (x:="_law_span_here") (N:=[]) (caps:=[]) (ar:=Zj PM) rfl rfl csc rfl (by decide) (i:=5) Lw.nd rfl rfl (dv 2) (λ_ _ _ _ _ _=>Yt) (λ_ _ _ _ _ _=>(ZX (Za (Zf Ym (Zf ZU (Zk (dv 0) Zd) (Zk (dv 0) Zd)) Zd) (Za (Zf Ym (Zf ZU (Zk (dv 0) Zd) (Zk (dv 0) Zd)) Zd) Ze))))) (Zh (ZD (i:=6) Lw.nd (Zk (ZE (Zi UE hr (Za (dv 0) (Za (dv 5) (Za (dv 3) Ze)))) (dv 1)) Zd)) (Zh (ZD (i:=7) Lw.nd (Zi Wv hr (Za (Zf XJ (Zf ZW (dv 6) (dv 4)) (dv 3)) (Za (dv 4) Ze)))) (Zg (Zp (Zi Xp hr (Za (dv 0) (Za (ZX (Za Z6 (Za (Zk (dv 7) Zd) (Za (Zk (dv 7) Zd) Ze)))) Ze)))))))),λds S Q ex h=>by
  replace h:=zal h;obtain⟨a,at',b,g,parts,rfl,h⟩:=h;obtain⟨q,ns,ws,bs,j,ha,hb,ab,net,hq,q4,rfl,hj,l7,hg,hp,sb,vj,h⟩:=h;have la:=Z7 ha;refine Wz (n:=b) (S1:=S) (o:=.lst (bs.map frD)) UX (λK hK=>by exact hK) hb (by show (bs.map frD).length<=1000;rw[zA];lia) (λx hx S3 K3 p3 hK3=>?_) ?_
  ·obtain⟨v,_,rfl⟩:=zH.mp (show x∈bs.map frD from hx);exact hK3
  have ei:(Zu (Ob.lst (bs.map frD))).map UX=(bs.map ZF).map frD:=FV bs;rw[ei];have netC:ZS (bs.map ZF).length ns ws:=by rw[zA,<- hq];exact net
  refine⟨ns,ws,bs.map ZF,ZA ha,Zv _ _,netC,sb.mids,hg,l7,λT m pr lm hV=>?_⟩;have pT:Pre S T:=λx o e=>pr _ _ (ZA e)
  have szw:SzW ws (Zo (bs.map ZF) g ns):=by
   have z:=PH netC rfl sb.mids hg ns.length (zD _)
   rwa [yE] at z
  have lv:(Zo (bs.map ZF) g ns).length=ns.length:=Y2 ..
  have w16:∀k:Nat,k<ns.length->ws.getD k 0<=16:=λk hk=>(net.w1 (i:=k) ⟨by lia,by lia⟩).2
  have spV:=szw.spn (λk hk=>w16 k (by lia))
  have zj:=spV.at (i:=(j:Int)) ⟨by lia,by lia⟩;refine Zw (o:=.lst ((Zo (bs.map ZF) g ns).map frD)) (i:=(j:Int)) hV (Z5 ⟨by lia,by lia⟩) ?_;obtain⟨v1,v2,v3⟩:=vj;have sp:Sz 12 parts:=Sz.of 1000 (by lia)
  have sg:Sz 21 g:=Sz.of (10^6) (by lia);generalize gt (Zo (bs.map ZF) g ns) (j:Int)=w at zj v1 v2 v3 ⊢;refine⟨ZV zj.2.1 sp,sg.fd (by lia),?_⟩;have tb:(w.1*parts/g).natAbs<=100000000:=by
   have a1:=Te (x:=w.1) (y:=parts) (A:=(100000:Int)*g) (B:=1000) ⟨v2,by lia⟩ ⟨by lia,by lia⟩
   have e:(100000:Int)*g*1000=100000000*g:=by lia
   rw[e] at a1;have u1:w.1*parts/g<=100000000:=Int.ediv_le_of_le_mul (by lia) (by lia)
   have u2:-100000000<=w.1*parts/g:=Int.le_ediv_of_mul_le (by lia) (by lia);lia
  refine⟨⟨show 0<parts by lia,Sz.of (n:=4000) 1000 (by lia)⟩,λt d h1 h2 _ h4 h5=>?_⟩;refine⟨q,.number t d,ns,ws,rfl,pT _ _ ha,by lia,net,⟨⟨h1,by lia⟩,h2,by lia⟩,show 1<=16 by decide,λT2 i ns' ws' gr li hi wi _=>?_⟩;refine h T2 i ns' ws' ⟨gr.net,gr.pn,gr.pw,gr.nd,by have:=gr.len;have:=VZ pT;lia,λx o hx e=>gr.kp x o hx (pT _ _ e)⟩ li wi⟩)
def Aw  (NF:Df K mg q52 TB QJ)(Xp:Fk P w K mg base 1 q79 VM Tc)(Gb:Fk P w K mg base 5 q66 Qk Fp)(YM:Fk P w K mg base 2 q46 V2 SR)(Hq:Fk P w K mg base 3 q51 Qx GD)(Wv:Fk P w K mg base 1 q33 V4 Si)(Rv:Fk P w K mg base 3 q71 Rf Ie)(Vv:Fk P w K mg base 1 q56 Um QK)(G1:Fk P w K mg base 4 q27 Qn IS)(ZM:mg Xz=none)(Xc:mg "int"=none)(ZC:mg "len"=none):Fk P w K mg base 6 q52 QJ FP:=
 NF.mk' (Zy (k:=5) NF.F XD (λ_ _ _ _=>nR λ_=>nI λ_=>nI λ_=>nR λ_=>nN:Ln (FP) 4) λ_ _ _ _ _ _ hr=>⟨_,(Zh (OV (x:="_law_k") (N:=[]) (caps:=[]) (ar:=Zj TB) rfl rfl csc rfl (by decide) (i:=4) XD.nd rfl rfl rfl ZM (Za (dv 1) Ze) (λ_ _ _ _ _ _=>Yt) (λ_ _ _ _ _ _=>(ZX (Za Z6 (Za (dv 0) Ze))))) (Zh (OV (x:="_law_k") (N:=[]) (caps:=[]) (ar:=Zj TB) rfl rfl csc rfl (by decide) (i:=5) XD.nd rfl rfl rfl ZM (Za (dv 1) Ze) (λ_ _ _ _ _ _=>Yt) (λ_ _ _ _ _ _=>Zd)) (Zh (ZL (Y5 (Zi Vv hr (Za (dv 0) Ze))) (Zg (Zp (Zi G1 hr (Za (dv 0) (Za (dv 4) (Za (dv 5) Ze)))))) ZP) (Zh (HD (i:=6) PassesOwn.never rfl XD.nd rfl (Or.inl rfl) rfl ZM (Za Zd (Za Zd Ze)) (Zg (Yr (Zi Rv hr (Za (dv 4) (Za (dv 5) (Za (Zi YM hr (Za (dv 0) (Za (dv 6) Ze))) (Za Zd (Za XA Ze))))))))) (Zh (ZD (i:=7) XD.nd (ZR (ZO Z4) rfl ZC Boot.«len» (Za (dv 4) Ze))) (Zh (ZD (i:=8) XD.nd (Y1 Ze)) (Zh (XW (i:=9) PassesOwn.never rfl XD.nd rfl (Or.inl rfl) rfl ZM (Za (dv 1) Ze) (Zh (ZD (i:=10) XD.nd (Y1 Ze)) (Zh (XW (i:=6) PassesOwn.never rfl XD.nd rfl (Or.inl rfl) rfl ZM (Za (dv 1) Ze) (Zg (Yr (Y0 (dv 10) (Zf ZU (Zf YV (Zf Yb (Zi YM hr (Za (dv 0) (Za (Zf ZU (Zf ZU Zd (Zf ZW Zd (dv 9))) (dv 6)) Ze))) Zd) Zd) (Zf ZW Zd (WR Mq rfl Xc Boot.«int» (Za (Xe (ZY hr) (dv 9) (dv 6) (ZI _)) Ze)))))))) (Zh (ZD (i:=11) XD.nd (Zi YM hr (Za (dv 0) (Za (Zf ZU Zd (dv 9)) Ze)))) (Zh (ZD (i:=12) XD.nd (Zi Wv hr (Za (Zf YV (Zf Yb (dv 11) Zd) Zd) (Za (Zf ZU Zd (Zf Yb (Zf Ym (dv 11) Zd) Zd)) Ze)))) (Zh (ZD (i:=13) XD.nd (Zi Xp hr (Za (dv 4) (Za (ZX (Za Z6 (Za (Zk (dv 12) Zd) (Za (Zk (dv 12) Zd) Ze)))) Ze)))) (Zh (ZD (i:=14) XD.nd (Zi Xp hr (Za (dv 4) (Za (ZX (Za Z6 (Za (dv 13) (Za (Zf YO (Zf Ym (dv 11) Zd) (dv 7)) Ze)))) Ze)))) (Zh (ZD (i:=15) XD.nd (Zi Xp hr (Za (dv 4) (Za (ZX (Za Z6 (Za (Zi Hq hr (Za (dv 4) (Za (dv 10) (Za (Xe (ZY hr) (Zf Yb (Zf Ym (dv 11) Zd) Zd) Zd (ZI _)) Ze)))) (Za (dv 14) Ze)))) Ze)))) (Zh (ZD (i:=13) XD.nd (Zi Gb hr (Za (dv 4) (Za (dv 15) (Za (dv 3) (Za (dv 2) (Za (Zf ZU Zd (Zf Yb (Zi YM hr (Za (dv 0) (Za (Zf ZU Zd (dv 9)) Ze))) Zd)) Ze))))))) (Zg (Yr (Y0 (dv 8) (ZX (Za Z6 (Za (Zi Xp hr (Za (dv 4) (Za (ZX (Za Z6 (Za (dv 15) (Za (dv 13) Ze)))) Ze))) Ze))))))))))))))) (Zg (Zp (ZX (Za (dv 4) (Za (dv 8) Ze)))))))))))),λds S Q ex h=>by
  replace h:=eRIIR h;obtain⟨sc,qi,g,b,rfl,h⟩:=h;obtain⟨cs,q,bs,hsc,⟨rfl,q1,q3⟩,hb,lb,c63,hg,sb,zb,h⟩:=h;have net0:=AQ q;refine Vi (j:=((q:Nat):Int)) (S1:=S) (λk=>.tup [.str "unknown",.int (k:Int)]) (λK hK=>by exact hK) ⟨by lia,by lia⟩ (λk hk S2 K pr hK=>by exact hK) ?_;have eN:((List.range ((q:Nat):Int).toNat).map λ(k:Nat)=>D.tup [.str "unknown",.int (k:Int)])=((List.range q).map λ(k:Nat)=>Nd.unknown (k:Int)).map Nd.d:=by
   rw[zU,zJ];rfl
  rw[eN];refine Vi (j:=((q:Nat):Int)) (S1:=S++[.lst (((List.range q).map λ(k:Nat)=>Nd.unknown (k:Int)).map Nd.d)]) (λ_=>.int 1) (λK hK=>by exact hK) ⟨by lia,by lia⟩ (λk hk S2 K pr hK=>by exact hK) ?_;have eW:((List.range ((q:Nat):Int).toNat).map λ(_:Nat)=>D.int 1)=((List.range q).map λ_=>(1:Nat)).map wtD:=by
   rw[zU,zJ];rfl
  rw[eW];have lns:((List.range q).map λ(k:Nat)=>Nd.unknown (k:Int)).length=q:=by rw[zA,xE]
  have unk:∀k:Nat,k<q->((List.range q).map λ(k:Nat)=>Nd.unknown (k:Int))[k]?=some (.unknown (k:Int)):=λk hk=>by rw[zG,xV hk];rfl
  have ha:(S++[.lst (((List.range q).map λ(k:Nat)=>Nd.unknown (k:Int)).map Nd.d)]++[.lst (((List.range q).map λ_=>(1:Nat)).map wtD)])[S.length]?=some (.lst (((List.range q).map λ(k:Nat)=>Nd.unknown (k:Int)).map Nd.d)):=ZA (Zv _ _)
  have hw:(S++[.lst (((List.range q).map λ(k:Nat)=>Nd.unknown (k:Int)).map Nd.d)]++[.lst (((List.range q).map λ_=>(1:Nat)).map wtD)])[(S++[Ob.lst (((List.range q).map λ(k:Nat)=>Nd.unknown (k:Int)).map Nd.d)]).length]?=some (.lst (((List.range q).map λ_=>(1:Nat)).map wtD)):=Zv _ _
  have eL:(S++[Ob.lst (((List.range q).map λ(k:Nat)=>Nd.unknown (k:Int)).map Nd.d)]).length=S.length+1:=by simp
  rw[eL] at hw ⊢;have pS:Pre S (S++[.lst (((List.range q).map λ(k:Nat)=>Nd.unknown (k:Int)).map Nd.d)]++[.lst (((List.range q).map λ_=>(1:Nat)).map wtD)]):=Vj (Vj Pre.refl _) _
  have lS:(S++[Ob.lst (((List.range q).map λ(k:Nat)=>Nd.unknown (k:Int)).map Nd.d)]++[Ob.lst (((List.range q).map λ_=>(1:Nat)).map wtD)]).length=S.length+2:=by simp
  have lit0:∀v∈((List.range q).map λ(k:Nat)=>Nd.unknown (k:Int)),v.lit:=λv hv=>by
   obtain⟨k,_,er⟩:=zH.mp hv;subst er;trivial
  have w80:∀i:Nat,((List.range q).map λ_=>(1:Nat)).getD i 0<=8:=λi=>by
   rw[zK,zG];cases (List.range q)[i]? with
   | none=>exact zL _
   | some _=>show 1<=8;decide
  generalize S++[.lst (((List.range q).map λ(k:Nat)=>Nd.unknown (k:Int)).map Nd.d)]++[.lst (((List.range q).map λ_=>(1:Nat)).map wtD)]=S0 at ha hw pS lS ⊢;generalize ((List.range q).map λ(k:Nat)=>Nd.unknown (k:Int))=ns at ha net0 lns unk lit0;generalize ((List.range q).map λ_=>(1:Nat))=ws at hw net0 w80;clear eN eW eL;have hs0:=pS _ _ hsc;refine⟨cs,hs0,?_⟩;refine YX (λef=>?_) (λef=>?_)
  ·refine⟨cs,q,ns,ws,hs0,ha,hw,by lia,net0,⟨by lia,by lia⟩,lns,c63,λT m ns' ws' rows n' l1 l60 hT hR r10 zr lm kp=>?_⟩;exact h T _ m ns' ws' rows n' l1 l60 hT hR r10 zr (zD _) (by lia) (by lia) λx o e=>kp x o (by have:=Z7 e;lia) (by have:=Z7 e;lia) (pS _ _ e)
  ·rw[Bool.not_eq_true] at ef;have zb:=zb ef;dsimp only[F2];refine BX (λdl2 S2=>(∃(ns':List Nd)(ws':List Nat),ZS q ns' ws'/\(∀v∈ns',v.lit)/\(∀k:Nat,k<q->ns'[k]?=some (.unknown (k:Int)))/\(∀i:Nat,ws'.getD i 0<=8)/\ns'.length<=9/\S2[S.length]?=some (.lst (ns'.map Nd.d))/\Pre S S2/\S.length+2<=S2.length)/\∃u:Option D,dl2=[some (.ref sc),some (.int ((q:Nat):Int)),some (.int g),some (.ref b),some (.ref S.length),some (.ref (S.length+1)),u,none,none,none,none,none,none,none,none,none]) (λnx hn=>?_) ?_
   ·refine⟨⟨by decide,by decide,by decide,by decide⟩,λk dl' S'=>k<=6/\(∃(ns':List Nd)(ws':List Nat),ZS q ns' ws'/\(∀v∈ns',v.lit)/\(∀k:Nat,k<q->ns'[k]?=some (.unknown (k:Int)))/\(∀i:Nat,ws'.getD i 0<=8)/\ns'.length<=3+k/\S'[S.length]?=some (.lst (ns'.map Nd.d))/\S'[S.length+1]?=some (.lst (ws'.map wtD))/\Pre S S'/\S.length+2<=S'.length)/\∃u:Option D,dl'=[some (.ref sc),some (.int ((q:Nat):Int)),some (.int g),some (.ref b),some (.ref S.length),some (.ref (S.length+1)),u,none,none,none,none,none,none,none,none,none],⟨zL _,⟨ns,ws,net0,lit0,unk,w80,by lia,ha,hw,pS,by lia⟩,_,rfl⟩,?_⟩;rintro k dl' S' ⟨hk,⟨ns',ws',net',li,un,w8,l3,e1,e2,pr,lS'⟩,u,rfl⟩;show if k<((20:Int)-14).toNat then _ else _
    have lq:q<=ns'.length:=by
     have:=(zF.mp (un (q-1) (by lia))).1;lia
    refine YX (λc=>?_) (λc=>?_)
    ·have c6:k<6:=c;refine⟨cs,pr _ _ hsc,⟨show (0:Int)<=14+(k:Int) by lia,show 14+(k:Int)<=1000 by lia⟩,λv=>?_⟩;refine⟨q,ns',ws',e1,e2,by lia,net',by lia,by lia,by decide,λT ms us n2 hu lt lm t1 t2 lT kT=>?_⟩;obtain⟨u2,rfl,hu⟩:=hu;refine⟨by lia,⟨ns'++ms,ws'++u2,n2,λv hv=>?_,λk hk=>?_,λi=>?_,by rw[zO];lia,t1,t2,λx o e=>?_,by lia⟩,_,rfl⟩
     ·rcases yF.mp hv with z|z
      ·exact li v z
      ·exact lt rfl v z
     ·rw[zV (by lia)];exact un k hk
     ·by_cases ci:i<ws'.length
      ·rw[HC ci];exact w8 i
      ·rw[zK,yI (by lia)];cases ew:u2[i-ws'.length]? with
       | none=>exact zL _
       | some w=>
        have z:=hu w (zN ew)
        show w<=8;lia
     ·have:=Z7 e;exact kT x o (by lia) (by lia) (pr _ _ e)
    ·exact hn _ _ ⟨⟨ns',ws',net',li,un,w8,by lia,e1,pr,lS'⟩,_,rfl⟩
   rintro dl2 S2 ⟨⟨ns',ws',net',li,un,w8,l9,e1,pr,lS2⟩,u,rfl⟩;have lq:q<=ns'.length:=by
    have:=(zF.mp (un (q-1) (by lia))).1;lia
   have hP:∀k:Int,inR q k->vI 4 g (gt (bs.map ZF) k):=λk hk=>by
    have h0:=hk.1
    have h1:=hk.2
    have e:=BB (bs:=bs) ZF (i:=k) ⟨h0,by lia⟩;rw[e];have z:=zb _ (QA (vs:=bs) (i:=k) ⟨h0,by lia⟩);refine⟨yH _,?_,?_⟩
    ·show -(((4:Nat):Int)*g)<=mid (gt bs k);unfold mid;lia
    ·show mid (gt bs k)<=((4:Nat):Int)*g;unfold mid;lia
   have vb:=zao (bs:=bs.map ZF) hg.1 net' li hP
   have vb8:∀j:Nat,j<ns'.length->vI 65536 g (gt (Zo (bs.map ZF) g ns') (j:Int)):=λj hj=>(vb j hj).mono hg.1 (yK (Nat.pow_le_pow_right (by decide) (w8 j)) (by decide))
   refine Yc e1 ?_;rw[zA];refine⟨⟨by lia,by lia⟩,λk dl' S'=>k<=q/\(∃(rs:List Nat)(ns2:List Nd)(ws2:List Nat),Gr q S.length (16*k) S2 ns' ws' S' ns2 ws2/\S'[S2.length]?=some (.lst (rs.map λi=>rwD (true,i)))/\rs.length=k/\∀i∈rs,i<ns2.length)/\∃u6 u9 u10 u11 u12 u13 u14 u15:Option D,dl'=[some (.ref sc),some (.int ((q:Nat):Int)),some (.int g),some (.ref b),some (.ref S.length),some (.ref (S.length+1)),u6,some (.int ((ns'.length:Nat):Int)),some (.ref S2.length),u9,u10,u11,u12,u13,u14,u15],⟨zL _,⟨[],ns',ws',Gr.push net' e1 _,Zv _ _,rfl,λi hi=>by simp at hi⟩,_,_,_,_,_,_,_,_,rfl⟩,?_⟩;rintro k dl' S' ⟨hk,⟨rs,ns2,ws2,gr,hR,lr,zr⟩,u6,u9,u10,u11,u12,u13,u14,u15,rfl⟩;rw[zJ];have lsc:=Z7 hsc
   have lbb:=Z7 hb;refine YX (λc=>?_) (λc=>?_)
   ·have lt:=Z7 hR
    have ln:=gr.ln
    have hsS:=gr.kp _ _ (show sc≠S.length by lia) (pr _ _ hsc)
    have hbS:=gr.kp _ _ (show b≠S.length by lia) (pr _ _ hb)
    try dsimp only
    refine TL (λdl2 S3=>∃es:List Int,S3=S'++[Ob.lst (es.map D.int)]/\es.length=q/\(∀x∈es,x.natAbs<=8)/\∃u6 u11 u12 u13 u14 u15:Option D,dl2=[some (.ref sc),some (.int ((q:Nat):Int)),some (.int g),some (.ref b),some (.ref S.length),some (.ref (S.length+1)),u6,some (.int ((ns'.length:Nat):Int)),some (.ref S2.length),some (.int (k:Nat)),some (.ref S'.length),u11,u12,u13,u14,u15]) (λnx hn=>?_) ?_
    ·refine⟨⟨by lia,by lia⟩,λl dl2 S3=>l<=q/\(∃es:List Int,S3=S'++[Ob.lst (es.map D.int)]/\es.length=l/\∀x∈es,x.natAbs<=8)/\∃u6 u11 u12 u13 u14 u15:Option D,dl2=[some (.ref sc),some (.int ((q:Nat):Int)),some (.int g),some (.ref b),some (.ref S.length),some (.ref (S.length+1)),u6,some (.int ((ns'.length:Nat):Int)),some (.ref S2.length),some (.int (k:Nat)),some (.ref S'.length),u11,u12,u13,u14,u15],⟨zL _,⟨[],rfl,rfl,λx hx=>by simp at hx⟩,_,_,_,_,_,_,rfl⟩,?_⟩;rintro l dl2 S3 ⟨hl,⟨es,rfl,le,ze⟩,v6,v11,v12,v13,v14,v15,rfl⟩;rw[zJ];refine YX (λc2=>?_) (λc2=>?_)
     ·refine W6 (n:=S'.length) (xs:=es.map D.int) (λK hK=>by exact hK) (Zv _ _) (λK hK=>?_) (by rw[zA];lia);refine⟨IntMulOk.of_left (by decide),cs,ZA hsS,⟨show (0:Int)<=20+3*(k:Int)+(l:Int) by lia,show 20+3*(k:Int)+(l:Int)<=1000 by lia⟩,λv=>?_⟩;refine⟨IntMulOk.of_left (by decide),?_⟩;obtain⟨e,he⟩:∃e:Int,(if decide ((k:Int)=(l:Int))=true then (1:Int) else 0)=e:=⟨_,rfl⟩;have e01:0<=e/\e<=1:=by rw[<- he];split<;>lia
      refine hK _ _ (Zv _ _) ⟨by lia,⟨es++[v%7-3+5*e],?_,by rw[zO,le];rfl,λx hx=>?_⟩,_,_,_,_,_,_,rfl⟩
      ·rw[yC,<- he];exact SJ
      ·rcases yF.mp hx with w|w
       ·exact ze x w
       ·rw[xF.mp w];lia
     ·have e:l=q:=by lia
      subst e;exact hn _ _ ⟨es,rfl,le,ze,_,_,_,_,_,_,rfl⟩
    ·rintro dl2 S3 ⟨es,rfl,le,ze,v6,v11,v12,v13,v14,v15,rfl⟩;have gp:Gr q S.length 0 S' ns2 ws2 (S'++[Ob.lst (es.map D.int)]) ns2 ws2:=Gr.push gr.net gr.nd _
     have hE:=Zv S' (.lst (es.map D.int));refine⟨cs,ZA hsS,⟨show (0:Int)<=29+(k:Int) by lia,show 29+(k:Int)<=1000 by lia⟩,λx=>?_⟩;refine⟨⟨show 0<1+x/3%200 by lia,Sz.of (n:=4000) 200 (by show (1+x/3%200).natAbs<=_;lia)⟩,λt d b1 tg _ tt td=>?_⟩;have t1:t.natAbs<=1:=by lia
     refine⟨q,.number t d,ns2,ws2,rfl,gp.nd,by lia,gr.net,⟨⟨b1,by lia⟩,tg,by lia⟩,show 1<=16 by decide,λT3 j3 ns3 ws3 gr3 lj3 hj3 wj3 dj3=>?_⟩;have np:(0:Int)<((ns'.length:Nat):Int):=by lia
     have rw':=YC (a:=x/600) np;obtain⟨w,hw'⟩:∃w:Nat,x/600%((ns'.length:Nat):Int)=(w:Int):=⟨(x/600%((ns'.length:Nat):Int)).toNat,by lia⟩;have wl:w<ns'.length:=by lia
     have ln3:=gr3.ln
     have grw:=(gr.trans gp).trans gr3
     have ww:ws3.getD w 0<=8:=by rw[grw.wt net' wl];exact w8 w
     have wj3':ws3.getD j3 0=1:=wj3
     have w4:Nd.wt ws3 (.times (j3:Int) (w:Int))<=9:=by
      show ws3.getD ((j3:Nat):Int).toNat 0+ws3.getD ((w:Nat):Int).toNat 0<=9;rw[zJ,zJ,wj3'];lia
     refine⟨np,?_⟩;refine⟨q,.times j3 w,ns3,ws3,congrArg (λz:Int=>D.tup [.str "times",.int (j3:Int),.int z]) hw',gr3.nd,by lia,gr3.net,⟨⟨by lia,by lia⟩,⟨by lia,by lia⟩⟩,by lia,λT4 j4 ns4 ws4 gr4 lj4 hj4 wj4 dj4=>?_⟩;have ln4:=gr4.ln
     have v4:vI 65536 g (gt (Zo (bs.map ZF) g ns4) (j4:Int)):=by
      rw[TC gr4 (v:=.times (j3:Int) (w:Int)) ⟨⟨by lia,by lia⟩,⟨by lia,by lia⟩⟩ hj4];have a1:vI 1 g (gt (Zo (bs.map ZF) g ns3) (j3:Int)):=by
       rw[TC gr3 (v:=.number t d) ⟨⟨b1,by lia⟩,tg,by lia⟩ hj3];exact vI.number hg.1 b1 (by lia)
      have a2:vI 65536 g (gt (Zo (bs.map ZF) g ns3) (w:Int)):=by
       rw[grw.fw _ _ wl];exact vb8 w wl
      exact(vI.times hg.1 a1 a2).mono hg.1 (by decide)
     have hE4:=gr4.kp _ _ (show S'.length≠S.length by lia) (gr3.kp _ _ (by lia) hE);refine⟨q,ns4,ws4,es,gr4.nd,hE4,by lia,gr4.net,le,⟨q1,q3⟩,λk hk=>gr4.get (grw.get (un k hk)),ze,by lia,λT5 j5 ns5 ws5 gr5 lj5 wj5 vj5=>?_⟩;have ln5:=gr5.ln
     have wj4':ws5.getD j4 0<=9:=by rw[gr5.wt gr4.net lj4,wj4];exact w4
     have v4':vI 65536 g (gt (Zo (bs.map ZF) g ns5) (j4:Int)):=by rw[gr5.fw _ _ lj4];exact v4
     have w5:Nd.wt ws5 (.plus (j5:Int) (j4:Int))<=15:=by
      show ws5.getD ((j5:Nat):Int).toNat 0+ws5.getD ((j4:Nat):Int).toNat 0<=15;rw[zJ,zJ];lia
     refine⟨q,.plus j5 j4,ns5,ws5,rfl,gr5.nd,by lia,gr5.net,⟨⟨by lia,by lia⟩,⟨by lia,by lia⟩⟩,by lia,λT6 j6 ns6 ws6 gr6 lj6 hj6 wj6 dj6=>?_⟩;have ln6:=gr6.ln
     have v6':vI 100000 g (gt (Zo (bs.map ZF) g ns6) (j6:Int)):=by
      rw[TC gr6 (v:=.plus (j5:Int) (j4:Int)) ⟨⟨by lia,by lia⟩,⟨by lia,by lia⟩⟩ hj6];exact((vj5 _ _ hg.1 hP).plus v4').mono hg.1 (by decide)
     have gr36:=((gr3.trans gr4).trans gr5).trans gr6
     have hs6:=gr36.kp _ _ (show sc≠S.length by lia) (ZA hsS)
     have hb6:=gr36.kp _ _ (show b≠S.length by lia) (ZA hbS);refine⟨cs,hs6,⟨show (0:Int)<=32+(k:Int) by lia,show 32+(k:Int)<=1000 by lia⟩,λy=>?_⟩;refine⟨q,ns6,ws6,bs,j6,gr6.nd,hb6,by lia,gr6.net,lb.symm,by lia,rfl,lj6,by lia,hg,⟨show 1<=1+y%1000 by lia,show 1+y%1000<=1000 by lia⟩,sb,v6',λT7 j7 ns7 ws7 gr7 lj7 wj7=>?_⟩;have ln7:=gr7.ln
     have hR7:=gr7.kp _ _ (show S2.length≠S.length by lia) (gr36.kp _ _ (show S2.length≠S.length by lia) (ZA hR));refine W6 (n:=S2.length) (xs:=rs.map λi=>rwD (true,i)) (λK hK=>by exact hK) hR7 (λK hK=>?_) (by rw[zA];lia);have w7:Nd.wt ws7 (.minus (j6:Int) (j7:Int))<=16:=by
      show ws7.getD ((j6:Nat):Int).toNat 0+ws7.getD ((j7:Nat):Int).toNat 0<=16;rw[zJ,zJ,wj7,gr7.wt gr6.net lj6,wj6];lia
     refine⟨q,.minus j6 j7,ns7,ws7,rfl,gr7.nd,by lia,gr7.net,⟨⟨by lia,by lia⟩,⟨by lia,by lia⟩⟩,w7,λT8 j8 ns8 ws8 gr8 lj8 hj8 wj8 dj8=>?_⟩;have hR8:=gr8.kp _ _ (show S2.length≠S.length by lia) hR7
     have grA:=(((gr.trans gp).trans gr36).trans gr7).trans gr8;refine hK _ _ hR8 ⟨by lia,⟨rs++[j8],ns8,ws8,(grA.put (by lia) (zD _)).mono (by lia),by rw[yC];exact Yv hR8,by rw[zO,lr];rfl,λi hi=>?_⟩,_,_,_,_,_,_,_,_,rfl⟩;rcases yF.mp hi with z|z
     ·have:=zr i z
      have:=((gp.trans gr36).trans gr7).trans gr8 |>.ln
      lia
     ·rw[xF.mp z];exact lj8
   ·have e:k=q:=by lia
    subst e;have eR:(rs.map λi=>rwD (true,i))=(rs.map λi=>((true,i):Bool×Nat)).map rwD:=by rw[zU];rfl
    rw[eR] at hR;have ln:=gr.ln;exact h _ _ _ ns2 ws2 _ gr.net (by lia) (by lia) gr.nd hR (by rw[zA];lia) (λr hr=>by
     obtain⟨i,hi,er⟩:=zH.mp hr;subst er;exact zr i hi) (zD _) (by lia) (by lia) λx o e=>gr.kp x o (by have:=Z7 e;lia) (pr _ _ e)⟩)
def zaB  (O6:Df K mg q42 Lf QM):Fk P w K mg base 1 q42 QM FA:=
 O6.mk' (Zy (k:=0) O6.F zbA (λ_ _ _ _=>nR λ_=>nI λ_=>nI λ_=>nI λ_=>nN:Ln (FA) 4) λ_ _ _ _ _ _ hr=>⟨_,(Zh (ZL (ZN (ZY hr) (Zf Yb (Zf Ym (dv 1) Zd) Zd) Zd (ZI _)) (Zg (Yr (Y0 (dv 0) (Zk (dv 0) Zd)))) ZP) (Zh (ZL (ZN (ZY hr) (Zf Yb (Zf Ym (dv 1) Zd) Zd) Zd (ZI _)) (Zg (Yr (zdc (dv 0) (Za Zd Ze)))) ZP) (Zg (ZL (ZN (ZY hr) (Zf Yb (dv 1) Zd) Zd (ZI _)) (Zg (Yr (Cr (dv 0) (Za (Zf YO (Zf Ym (dv 1) Zd) (Zf ZU (dv 3) Zd)) (Za (ZX (Za Z6 (Za (Zf YO (Zf Ym (dv 1) Zd) (dv 2)) Ze))) Ze))))) ZP)))),λds S Q ex h=>by
  replace h:=DM h;obtain⟨r,c,mn,qi,rfl,h⟩:=h;obtain⟨q,n,is,⟨rfl,q1,q3⟩,⟨rfl,n1,n9⟩,li,hi,hr,h⟩:=h;refine YJ (λdl2 S2=>∃rs:List (Bool×Nat),S2=S.set r (.lst (rs.map rwD))/\(1<=rs.length/\rs.length<=11)/\(∀i∈rs,i.2<n)/\dl2=[some (.ref r),some (.int c),some (.int (n:Int)),some (.int (q:Int))]) (λnx hx=>?_) ?_
  ·refine ifD (λe=>?_) (λe=>?_)
   ·have h0:is[0]?=some is[0]:=zC (by lia);generalize is[0]=i0 at h0;refine VR (n:=r) (S1:=S) (xs:=is.map rwD) (y:=rwD i0) (λK hK=>by exact hK) hr (λK hK=>by exact zbd (o:=.lst (is.map rwD)) (i:=0) hr (X2 (j:=0) (by show (is.map rwD)[0]?=_;rw[zG,h0];rfl)) hK) (by rw[zA];lia) ?_;refine hx _ _ ⟨is++[i0],by rw[yC];rfl,by rw[zO];simp only[zY,xC];lia,λi hj=>?_,rfl⟩;rcases yF.1 hj with hj|hj
    ·exact hi i hj
    ·rw[xF.mp hj];exact hi i0 (zN h0)
   ·exact hx _ _ ⟨is,(zdv hr).symm,by lia,hi,rfl⟩
  rintro dl2 S2 ⟨rs,rfl,lrs,hrs,rfl⟩;have h1:(S.set r (.lst (rs.map rwD)))[r]?=some (.lst (rs.map rwD)):=Yv hr;refine YJ (λdl2 S2=>∃rs:List (Bool×Nat),S2=S.set r (.lst (rs.map rwD))/\rs.length<=11/\(∀i∈rs,i.2<n)/\dl2=[some (.ref r),some (.int c),some (.int (n:Int)),some (.int (q:Int))]) (λnx hx=>?_) ?_
  ·refine ifD (λe=>?_) (λe=>hx _ _ ⟨rs,rfl,by lia,hrs,rfl⟩);refine zd6 (n:=r) (i:=0) (xs:=rs.map rwD) (λK hK=>by exact hK) h1 (λK hK=>by exact hK) ⟨by decide,by rw[zA];lia,by rw[zA];lia⟩ λy=>?_
   refine hx _ _ ⟨rs.drop 1,?_,by rw[xA];lia,λi hj=>hrs i (xK hj),rfl⟩;rw[List.set_set,List.map_drop];congr 2
   match rs with
   | []=>rfl
   | _::_=>rfl
  clear hrs h1 lrs;clear rs;rintro dl2 S2 ⟨rs,rfl,l4,hrs,rfl⟩;have h1:(S.set r (.lst (rs.map rwD)))[r]?=some (.lst (rs.map rwD)):=Yv hr;refine ifD (λe=>?_) (λe=>h rs hrs (by lia));have np:(0:Int)<(q:Int)+1:=by lia
  have nn:(0:Int)<(n:Int):=by lia
  have xr:=YC (a:=c/48) np
  have yr:=YC (a:=c/144) nn;obtain⟨k,hk⟩:∃k:Nat,c/144%(n:Int)=(k:Int):=⟨(c/144%(n:Int)).toNat,by lia⟩;refine Ct (n:=r) (i:=c/48%((q:Int)+1)) (y:=rwD (false,k)) (xs:=rs.map rwD) (λK hK=>by exact hK) h1 (λK hK=>⟨np,nn,?_⟩) h1 ⟨xr.1,by lia,by rw[zA];lia⟩ ?_
  ·have e9:rwD (false,k)=.tup [.str "least",.int (c/144%(n:Int))]:=by rw[hk];rfl
   rw[e9] at hK;exact hK
  ·generalize (c/48%((q:Int)+1)).toNat=j;have z:=h (rs.take j++(false,k)::rs.drop j) (λx hx=>?_) (by rw[zO,zY,zW,xA];lia)
   ·rw[List.set_set];rw[yC,yP,List.map_take,List.map_drop] at z;exact z
   ·rcases yF.1 hx with hx|hx
    ·exact hrs x (xX hx)
    ·rcases zQ.mp hx with rfl|hx
     ·show k<n;lia
     ·exact hrs x (xK hx)⟩)
def A8  (K5:Df K mg q49 K1 Og)(Th:Fk P w K mg base 2 q40 Rm Mf):Fk P w K mg base 3 q49 Og Fh:=
 K5.mk' (Zy (k:=2) K5.F Di (λ_ _ _ _=>nP λ_ _=>nI λ_=>nI λ_=>nN:Ln (Fh) 3) λ_ _ _ _ _ _ hr=>⟨_,(Zh (ZL (ZN FJ (dv 1) Zd (ZI _)) (Zg (ZD (i:=0) Di.nd (Zi Th hr (Za (dv 0) (Za (Zf YV (dv 1) Zd) (Za (dv 2) Ze)))))) ZP) (Zg (Zp (ZX (Za (Zf ZW (Zk (dv 0) Zd) (dv 1)) (Za (Zf ZW (Zk (dv 0) Zd) (dv 1)) Ze)))))),λds S Q ex h=>by
  replace h:=ePII h;obtain⟨a,b,n,g,rfl,h⟩:=h;obtain⟨⟨n2,n6,ab,sa,sb,g1,g2⟩,h⟩:=h;have gp:(1:Int)<=g^((n-1).toNat-1):=yS (by lia)
  have p1:Sz 6000 (a^(n-1).toNat):=(sa.pow _).mono (by lia)
  have p2:Sz 6000 (b^(n-1).toNat):=(sb.pow _).mono (by lia)
  have pl:Sz 6000 (Yk a b (n-1).toNat):=by
   unfold Yk;split
   ·exact yJ (by decide)
   ·exact Vb p1 p2
  have sm:Sz 10 n:=Sz.of 6 (by lia);refine ifD (λe=>?_) (λe=>?_)
  ·refine⟨⟨by lia,by lia,sa.mono (by decide),sb.mono (by decide),g1,g2⟩,?_⟩;exact⟨ZV (pl.div gp) sm,ZV (VX (WZ p1 p2) gp) sm,h⟩
  ·have e2:n=2:=by lia
   subst e2;rw[zdR (p:=(a,b)) ab] at h;exact⟨ZV sa sm,ZV sb sm,h⟩⟩)
def BY  (NO:Df K mg q65 Nh Oh)(Vn:Fk P w K mg base 1 q57 UA Pj)(X7:Fk P w K mg base 1 q30 UJ R6)(WW:Fk P w K mg base 1 q58 Uv Pn)(HH:Fk P w K mg base 3 q49 Og Fh):Fk P w K mg base 4 q65 Oh IF:=
 NO.mk' (Zy (k:=3) NO.F Lz (λ_ _ _ _=>nD λ_=>nR λ_=>nR λ_=>nI λ_=>nI λ_=>nN:Ln (IF) 5) λ_ _ _ _ _ _ hr=>⟨_,(Zh (ZD (i:=5) Lz.nd (Zk (dv 0) Zd)) (Zh (ZL (PDW.pt (VN (ZN (ZY hr) (dv 5) Z6 (ZI _)) (Uu (PDW.pt (F3 (ZN (ZY hr) (dv 5) Z6 (ZI _)) (FF (ZN (Ul hr) (Zk (dv 0) Zd) (dv 3) (ZI _)))))))) (Zg (Zp (ZX (Za Zd (Za Zd Ze))))) ZP) (Zh (ZL (ZN (ZY hr) (dv 5) Z6 (ZI _)) (Zg (Zp (ZX (Za (dv 4) (Za (dv 4) Ze))))) ZP) (Zh (ZD (i:=6) Lz.nd (ZE (ZE (dv 2) (Zk (dv 0) Zd)) (dv 3))) (Zh (ZL (ZN (ZY hr) (dv 5) Z6 (ZI _)) (Zg (Zp (Zi X7 hr (Za (Zi HH hr (Za (ZE (dv 1) (Zk (dv 0) Zd)) (Za (Zk (dv 0) Zd) (Za (dv 4) Ze)))) (Za (dv 6) (Za (dv 4) Ze)))))) ZP) (Zh (ZD (i:=7) Lz.nd (ZE (ZE (dv 2) (Zk (dv 0) Zd)) (dv 3))) (Zh (ZL (ZN (ZY hr) (dv 5) Z6 (ZI _)) (Zg (Zp (Zi Vn hr (Za (dv 6) (Za (dv 7) Ze))))) ZP) (Zh (ZL (ZN (ZY hr) (dv 5) Z6 (ZI _)) (Zg (Zp (Zi WW hr (Za (dv 6) (Za (dv 7) Ze))))) ZP) (Zg (Zp (Zi Vn hr (Za (Zi X7 hr (Za (ZE (dv 1) (Zk (dv 0) Zd)) (Za (dv 7) (Za (dv 4) Ze)))) (Za (Zi X7 hr (Za (ZE (dv 1) (Zk (dv 0) Zd)) (Za (dv 6) (Za (dv 4) Ze)))) Ze))))))))))))),λds S Q ex h=>by
  replace h:=B1 h;obtain⟨d,w,s,li,g,rfl,h⟩:=h;obtain⟨v,q,l,vs,sl,ds,rfl,hw,hs,rows,sz,⟨rfl,lq⟩,ok,lv,s1,hg,h⟩:=h;have row:∀i:Int,inR sl.length i->∃a,atI ds i=some (.ref a)/\S[a]?=some (.lst ((sl.getD i.toNat []).map frD))/\atI ((sl.getD i.toNat []).map frD) ((l:Nat):Int)=some (frD (gs sl i l)):=λi hi=>by
   obtain⟨a,ea,_,ha⟩:=rows.at hi;refine⟨a,ea,ha,?_⟩;have z:=Z5 (vs:=sl.getD i.toNat []) (i:=((l:Nat):Int)) ⟨by lia,by rw[(sz i hi).1];lia⟩;rw[z];have e:gt (sl.getD i.toNat []) ((l:Nat):Int)=gs sl i l:=by
    have ll:l<(sl.getD i.toNat []).length:=by rw[(sz i hi).1];exact lq
    show (sl.getD i.toNat []).getD ((l:Nat):Int).toNat (0,1)=(sl.getD i.toNat []).getD l (0,0);rw[zJ];generalize sl.getD i.toNat []=r at ll;simp[ll]
   rw[e]
  cases v with
  | number x y=>exact h
  | unknown k=>
   have e:Nd.sl vs sl g l (.unknown k)=if (l:Int)=k then (g,g) else (0,0):=rfl
   rw[e] at h;refine ifN (λc=>?_) (λc=>?_)
   ·rw[if_neg (λz=>c z.symm)] at h;exact h
   ·rw[if_pos c.symm] at h;exact h
  | power i m=>
   obtain⟨a,ea,ha,el⟩:=row i ok.1;have ci:=s1.at (i:=i) ⟨ok.1.1,by have:=ok.1.2;lia⟩
   have z1:=(sz i ok.1).2 l lq;obtain⟨ok1,m2,m6⟩:=ok;refine Zw (o:=.lst ds) hs ea ?_;refine Zw (o:=.lst ((sl.getD i.toNat []).map frD)) ha el ?_;refine Zw (o:=.lst (vs.map frD)) hw (Z5 (i:=i) ⟨ok1.1,by have:=ok1.2;lia⟩) ?_;refine⟨⟨m2,m6,ci.1,ci.2.1,ci.2.2,hg.1,hg.2⟩,?_⟩;have gp:(1:Int)<=g^((m-1).toNat-1):=yS (by lia)
   have f:=Eu hg.1 m2 m6 ci.2.1 ci.2.2
   have hm:1000*(m.toNat-1)+(m.toNat-1)<=6010:=by
    have:m.toNat<=6:=by lia
    have:=Nat.mul_le_mul_left 1000 (show m.toNat-1<=5 by lia);lia
   exact⟨⟨f.1.mono hm,f.2.mono hm,z1.2.1.mono (by decide),z1.2.2.mono (by decide),hg.1,hg.2⟩,h⟩
  | times i j=>
   obtain⟨a,ea,ha,el⟩:=row i ok.1;obtain⟨b,eb,hb,em⟩:=row j ok.2;have ci:=s1.at (i:=i) ⟨ok.1.1,by have:=ok.1.2;lia⟩
   have cj:=s1.at (i:=j) ⟨ok.2.1,by have:=ok.2.2;lia⟩
   have z1:=(sz i ok.1).2 l lq
   have z2:=(sz j ok.2).2 l lq;refine Zw (o:=.lst ds) hs ea ?_;refine Zw (o:=.lst ((sl.getD i.toNat []).map frD)) ha el ?_;refine Zw (o:=.lst ds) hs eb ?_;refine Zw (o:=.lst ((sl.getD j.toNat []).map frD)) hb em ?_;refine Zw (o:=.lst (vs.map frD)) hw (Z5 (i:=i) ⟨ok.1.1,by have:=ok.1.2;lia⟩) ?_;refine⟨⟨ci.2.1.mono (by decide),ci.2.2.mono (by decide),z2.2.1.mono (by decide),z2.2.2.mono (by decide),hg.1,hg.2⟩,?_⟩;refine Zw (o:=.lst (vs.map frD)) hw (Z5 (i:=j) ⟨ok.2.1,by have:=ok.2.2;lia⟩) ?_;exact⟨⟨cj.2.1.mono (by decide),cj.2.2.mono (by decide),z1.2.1.mono (by decide),z1.2.2.mono (by decide),hg.1,hg.2⟩,h⟩
  | plus i j=>
   obtain⟨a,ea,ha,el⟩:=row i ok.1;obtain⟨b,eb,hb,em⟩:=row j ok.2;refine Zw (o:=.lst ds) hs ea ?_;refine Zw (o:=.lst ((sl.getD i.toNat []).map frD)) ha el ?_;refine Zw (o:=.lst ds) hs eb ?_;exact Zw (o:=.lst ((sl.getD j.toNat []).map frD)) hb em h
  | minus i j=>
   obtain⟨a,ea,ha,el⟩:=row i ok.1;obtain⟨b,eb,hb,em⟩:=row j ok.2;refine Zw (o:=.lst ds) hs ea ?_;refine Zw (o:=.lst ((sl.getD i.toNat []).map frD)) ha el ?_;refine Zw (o:=.lst ds) hs eb ?_;exact Zw (o:=.lst ((sl.getD j.toNat []).map frD)) hb em h⟩)
def BF  (Je:Df K mg q50 Oq PK)(F6:Fk P w K mg base 4 q65 Oh IF)(ZM:mg Xz=none):Fk P w K mg base 5 q50 PK IZ:=
 Je.mk' (Zy (k:=4) Je.F Fv (λ_ _ _ _=>nR λ_=>nR λ_=>nI λ_=>nI λ_=>nN:Ln (IZ) 4) λ_ _ _ _ _ _ hr=>⟨_,(Zh (Wh (i:=4) Fv.nd rfl (Or.inr rfl) (Y1 Ze)) (Zh (Va (i:=5) PassesOwn.never rfl Fv.nd rfl (Or.inr rfl) (dv 0) (Zg (Yr (Y0 (dv 4) (Vu (x:="_law_k") (N:=["_law_node","_law_spans_here","_law_made","_law_grid_here"]) (caps:=[5,1,4,3]) (ar:=Zj Oq) rfl rfl csc rfl (by decide) rfl ZM (Za (dv 2) Ze) (λ_ _ _ _ _ _=>Yt) (λ_ _ _ _ _ _=>(Zi F6 hr (Za (dv 1) (Za (dv 2) (Za (dv 3) (Za (dv 0) (Za (dv 4) Ze)))))))))))) (Zg (Zp (dv 4))))),λds S Q ex h=>by
  replace h:=eRRII h;obtain⟨a,w,qi,g,rfl,h⟩:=h;obtain⟨q,ns,ws,vs,ha,hw,net,szw,lf,⟨rfl,hq9⟩,hg,hl,h⟩:=h;have spn:Spn 1000 vs:=szw.spn λk hk=>by
   have z:=(net.w1 (i:=(k:Int)) ⟨by lia,by lia⟩).2
   rwa [zJ] at z
  refine Vf (n:=a) (o:=.lst (ns.map Nd.d)) (λk dl' S'=>k<=ns.length/\Pre S S'/\(∃ds:List D,S'[S.length]?=some (.lst ds)/\Z2 S' (S.length+1) ds (ZT vs g q (ns.take k)))/\∃u:Option D,dl'=[some (.ref a),some (.ref w),some (.int (q:Nat)),some (.int g),some (.ref S.length),u]) ⟨zL _,Pre.refl.push,⟨[],Zv _ _,Z2.nil⟩,_,rfl⟩ (λk dl' S' z=>z.2.1 _ _ ha) ?_ ?_
  ·rintro k x dl' S' nx ct ex' ⟨hk,pr,⟨ds,hf,rows⟩,u,rfl⟩ hn;have ex2:(ns.map Nd.d)[k]?=some x:=ex';rw[zG] at ex2;obtain⟨v,hv,rfl⟩:=zP.mp ex2;have hk':=(zF.mp hv).1
   have ln:(ZT vs g q (ns.take k)).length=k:=by rw[VU,zW];lia
   have okv:v.ok (ZT vs g q (ns.take k)).length q:=by rw[ln];exact(net.ok k v hv).1
   have slw:=Od net szw lf hg k hk
   have ss:=slw.spn λi hi=>by
    have z:=(net.w1 (i:=(i:Int)) ⟨by lia,by lia⟩).2
    rwa [zJ] at z
   have ld:ds.length=k:=by rw[rows.1,ln]
   have lt:=Z7 hf;refine W6 (n:=S.length) (xs:=ds) (λK hK=>by exact hK) hf (λK hK=>?_) (by lia);refine Vi (j:=((q:Nat):Int)) (S1:=S') (λl=>frD (v.sl vs (ZT vs g q (ns.take k)) g l)) (λK hK=>by exact hK) ⟨by lia,by lia⟩ (λl hl S2 K2 pr2 hK2=>?_) ?_
   ·exact⟨v,q,l,vs,ZT vs g q (ns.take k),ds,rfl,pr2 _ _ (pr _ _ hw),pr2 _ _ hf,(rows.low (zL _)).pre pr2,ss,⟨rfl,by lia⟩,okv,by lia,spn,hg,hK2⟩
   ·rw[zJ];have hf3:(S'++[Ob.lst ((List.range q).map λl=>frD (v.sl vs (ZT vs g q (ns.take k)) g l))])[S.length]?=some (.lst ds):=ZA hf;refine hK _ _ hf3 ?_;refine hn _ _ ⟨by lia,U0 (Vj pr _) (zD _),⟨ds++[.ref S'.length],Yv hf3,?_⟩,_,rfl⟩;rw[XH hv,LR];have rows3:=rows.pre (Vj (S:=S') Pre.refl [Ob.lst ((List.range q).map λl=>frD (v.sl vs (ZT vs g q (ns.take k)) g l))])
    have r4:=rows3.snoc (a:=S'.length) (r:=Ys vs (ZT vs g q (ns.take k)) g q v) (by lia) (by
     have z:=Zv S' (.lst ((List.range q).map λl=>frD (v.sl vs (ZT vs g q (ns.take k)) g l)));unfold Ys;rw[zU];exact z)
    exact r4.keep λx o hx e=>Yg e (by lia)
  ·rintro dl' S' ⟨hk,pr,⟨ds,hf,rows⟩,u,rfl⟩;have e:ns.take (Zu (.lst (ns.map Nd.d))).length=ns:=by
    show ns.take (ns.map Nd.d).length=ns;rw[zA,yE]
   rw[e] at rows;exact h _ _ ds pr (zD _) hf rows⟩)
def C3  (JT:Df K mg q19 QG Sv):Fk P w K mg base 1 q19 Sv Jy:=
 JT.mk' (Zy (k:=0) JT.F zcs (λ_ _ _ _=>nR λ_=>nN:Ln (Jy) 1) λ_ _ _ _ _ _ hr=>⟨_,(Zg (Zp (WU (x:="row") (N:=[]) (caps:=[]) (ar:=Zj QG) rfl rfl csc rfl (by decide) (dv 0) (λ_ _ _ _ _ _=>Ko (ZN (ZY hr) (Zk (dv 0) Zd) Z6 (ZI _))) (λ_ _ _ _ _ _=>(Zk (dv 0) Zd))))),λds S Q ex h=>by
  replace h:=eR h;obtain⟨r,rfl,h⟩:=h;obtain⟨rows,hr,l9,h⟩:=h;refine LX (n:=r) (S1:=S) (o:=.lst (rows.map rwD)) (λd=>match d with|.tup [.str w,.int at']=>if w="zero" then some (.int at') else none|_=>none) (λK hK=>by exact hK) hr (by show (rows.map rwD).length<=1000;rw[zA];lia) (λx hx S2 K pr hK=>?_) (λx hx y hy S2 K pr hK=>?_) ?_
  ·have hx':x∈rows.map rwD:=hx;obtain⟨⟨b,n⟩,_,rfl⟩:=zH.mp hx';cases b
   ·exact hK
   ·exact hK
  ·have hx':x∈rows.map rwD:=hx;obtain⟨⟨b,n⟩,_,rfl⟩:=zH.mp hx';cases b
   ·exact absurd hy (by
     simp[rwD];intro z;exact absurd z (by decide))
   ·cases hy;exact hK
  ·have e:(Zu (.lst (rows.map rwD))).filterMap (λd=>match d with|.tup [.str w,.int at']=>if w="zero" then some (.int at') else none|_=>none)=(eqs rows).map wtD:=by
    show (rows.map rwD).filterMap _=_;unfold eqs;rw[List.filterMap_map,List.map_filterMap];congr 1;funext ⟨b,n⟩;cases b<;>rfl
   rw[e];exact h⟩)
def zbQ  (O2:Df K mg "sure" OA RJ):Fk P w K mg base 1 "sure" RJ Fj:=
 O2.mk' (Zy (k:=0) O2.F zbR (λ_ _ _ _=>nS λ_=>nP λ_ _=>nN:Ln (Fj) 2) λ_ _ _ _ _ _ hr=>⟨_,(Zh (ZL (ZN (ZY hr) (dv 0) Z6 (ZI _)) (Zg (Zp (US (Xe (ZY hr) (Zk (dv 1) Zd) Zd (ZI _)) (SD (Xe (ZY hr) (Zk (dv 1) Zd) Zd (ZI _)))))) ZP) (Zg (Zp (Xe do_ge (Zk (dv 1) Zd) Zd (ZI _))))),λds S Q ex h=>by
  replace h:=eSP h;obtain⟨_,_,_,rfl,h⟩:=h;rcases h with ⟨rfl,h⟩|⟨rfl,h⟩
  ·refine ifD (λc=>?_) (λc=>?_)
   ·rw[decide_eq_true c,Bool.true_and] at h;exact h
   ·rw[decide_eq_false c,Bool.false_and] at h;exact h
  ·exact h⟩)
def C6  (Kd:Df K mg q26 QZ Pr)(IW:Fk P w K mg base 1 "sure" RJ Fj)(WI:mg "all"=none):Fk P w K mg base 2 q26 Pr F4:=
 Kd.mk' (Xk (Zy (k:=1) Kd.F BJ (Xh (λ_ _ _ _=>nR λ_=>nR λ_=>nN:Ln (F4) 2)) λ_ _ _ _ _ _ hr=>⟨_,(Zg (Zp (ZR (ZO (Ck rfl)) rfl WI Boot.«all» (Za (WU (x:="row") (N:=["spans"]) (caps:=[1]) (ar:=Zj QZ) rfl rfl csc rfl (by decide) (dv 0) (λ_ _ _ _ _ _=>Ko (ZN (ZY hr) (Zk (dv 0) Zd) Z6 (ZI _))) (λ_ _ _ _ _ _=>(Zi IW hr (Za (Zk (dv 0) Zd) (Za (ZE (dv 1) (Zk (dv 0) Zd)) Ze))))) Ze)))),λds S Q ex h=>by
  obtain⟨Q0,ex0,rfl,rfl,h⟩:=h;replace h:=eRR h;obtain⟨r,s,rfl,h⟩:=h;obtain⟨rows,vs,hr,hs,l9,hi,h⟩:=h;refine LX (n:=r) (S1:=S) (o:=.lst (rows.map rwD)) (λd=>match d with|.tup [.str w,.int at']=>if w="least" then some (.bl (decide (0<=(gt vs at').1))) else none|_=>none) (λK hK=>by exact hK) hr (by show (rows.map rwD).length<=1000;rw[zA];lia) (λx hx S2 K pr hK=>?_) (λx hx y hy S2 K pr hK=>?_) ?_
  ·have hx':x∈rows.map rwD:=hx;obtain⟨⟨b,n⟩,_,rfl⟩:=zH.mp hx';cases b
   ·exact hK
   ·exact hK
  ·have hx':x∈rows.map rwD:=hx;obtain⟨⟨b,n⟩,hm,rfl⟩:=zH.mp hx';cases b
   ·cases hy;refine Zw (o:=.lst (vs.map frD)) (pr _ _ hs) (Z5 (vs:=vs) (i:=(n:Int)) ⟨by lia,by have:=hi _ hm;dsimp only at this;lia⟩) ?_;exact .inr ⟨rfl,hK⟩
   ·exact absurd hy (by
     simp[rwD];intro z;exact absurd z (by decide))
  ·refine EN (n:=S.length) (o:=.lst _) (Zv _ _) (FX vs rows) ?_;rw[<- G7 vs rows] at h;exact⟨Pre.refl.push,.bl _,h⟩⟩))
def zeD  (Kq:Df K mg "less" Nt RT):Fk P w K mg base 1 "less" RT IP:=
 Kq.mk' (Zy (k:=0) Kq.F zdq (λ_ _ _ _=>nP λ_ _=>nP λ_ _=>nN:Ln (IP) 2) λ_ _ _ _ _ _ hr=>⟨_,(Zg (Zp (Xe WD (Zf ZW (Zk (dv 0) Zd) (Zk (dv 1) Zd)) (Zf ZW (Zk (dv 1) Zd) (Zk (dv 0) Zd)) (ZI _)))),λds S Q ex h=>by
  replace h:=ePP h;obtain⟨_,_,_,_,rfl,h⟩:=h;obtain⟨⟨h1,h2⟩,h⟩:=h;exact⟨h1,h2,h⟩⟩)
def AZ  (Mt:Df K mg q29 JA UU):Fk P w K mg base 1 q29 UU Ry:=
 Mt.mk' (Zy (k:=0) Mt.F zcq (λ_ _ _ _=>nI λ_=>nI λ_=>nN:Ln (Ry) 2) λ_ _ _ _ _ _ hr=>⟨_,(Zg (Zp (W8 Vp (Zf XJ (W8 Vp (dv 0)) (dv 1))))),λds S Q ex h=>by
  replace h:=eII h;obtain⟨_,_,rfl,h⟩:=h;exact h⟩)
def zbO  (OX:Df K mg q78 Ll Rz)(VG:Fk P w K mg base 1 q29 UU Ry)(GV:Fk P w K mg base 1 "less" RT IP):Fk P w K mg base 2 q78 Rz HW:=
 OX.mk' (Zy (k:=1) OX.F za0 (λ_ _ _ _=>nP λ_ _=>nP λ_ _=>nI λ_=>nN:Ln (HW) 3) λ_ _ _ _ _ _ hr=>⟨_,(Zh (ZL (Y5 (Zi GV hr (Za (dv 1) (Za (dv 0) Ze)))) (Zg AB) ZP) (Zg (Zp (ZX (Za (Zf XJ (Zf ZW (Zk (dv 0) Zd) (dv 2)) (Zk (dv 0) Zd)) (Za (Zi VG hr (Za (Zf ZW (Zk (dv 1) Zd) (dv 2)) (Za (Zk (dv 1) Zd) Ze))) Ze)))))),λds S Q ex h=>by
  replace h:=ePPI h;obtain⟨_,_,_,_,_,rfl,h⟩:=h;obtain⟨⟨⟨m1,m2⟩,nl,m3,m4,f1,f2⟩,h⟩:=h;refine⟨⟨m1,m2⟩,ifF (decide_eq_false nl) ?_⟩;exact⟨m3,f1,m4,f2,h⟩⟩)
def zb3  (Zs:Xi K mg)(Zt:Xr K mg)(Zn:Y9 K mg)(Zl:Xa K mg)(Zm:Xb K mg)(Zq:Xn K mg)(Jf:Dm K Zs.C q5 Uy Nc RO)(Fb:Fk P w K mg base 2 q78 Rz HW):Fm P w K mg base 3 Zs.C q5 RO (MJ Zs.C Zt.C Zn.C Zl.C Zm.C Zq.C):=
 Jf.mk' (Zy (k:=2) Jf.F CH (λ_ _ _ _=>nR λ_=>nR λ_=>nR λ_=>nI λ_=>nN:Ln (MJ Zs.C Zt.C Zn.C Zl.C Zm.C Zq.C) 4) λ_ _ _ _ _ _ hr=>⟨_,(Zh (ZD (i:=4) CH.nd (ZX (Za (Yq Zs.cl Zs.n_top (dv 0)) (Za (Yq Zs.cl Zs.n_bottom (dv 0)) Ze)))) (Zg (Zp (Zi Fb hr (Za (dv 4) (Za (dv 4) (Za (dv 3) Ze))))))),λds S Q ex h=>by
  replace h:=VE h;obtain⟨n,w,p,g,rfl,h⟩:=h;obtain⟨x,y,vs,bs,hn,hw,hp,ok,s1,hg,h⟩:=h;have sg:Sz 21 g:=Sz.of 1000000 (by lia)
  have sx:Sz 31 x:=Sz.of (10^9) ok.2.2
  have sy:Sz 31 y:=Sz.of (10^9) (by have:=ok.1;lia);refine Yp (n:=n) (λK hK=>by exact hK) hn rfl ?_;refine Yp (n:=n) (λK hK=>by exact hK) hn rfl ?_;exact⟨⟨⟨ZV sx sy,ZV sx sy⟩,by lia,ZV sx sg,ZV sx sg,sy.fd (by have:=ok.1;lia),sy.fd (by have:=ok.1;lia)⟩,h⟩⟩)
def zbL  (Zt:Xr K mg)(Zs:Xi K mg)(Zn:Y9 K mg)(Zl:Xa K mg)(Zm:Xb K mg)(Zq:Xn K mg)(Lq:Dm K Zt.C q5 Us JX Om):Fm P w K mg base 1 Zt.C q5 Om (Lv Zs.C Zt.C Zn.C Zl.C Zm.C Zq.C):=
 Lq.mk' (Zy (k:=0) Lq.F zce (λ_ _ _ _=>nR λ_=>nR λ_=>nR λ_=>nI λ_=>nN:Ln (Lv Zs.C Zt.C Zn.C Zl.C Zm.C Zq.C) 4) λ_ _ _ _ _ _ hr=>⟨_,(Zg (Zp (ZE (dv 2) (Yq Zt.cl Zt.n_place (dv 0))))),λds S Q ex h=>by
  replace h:=VE h;obtain⟨n,w,p,g,rfl,h⟩:=h;obtain⟨k,vs,bs,hn,hw,hp,ok,s1,hg,h⟩:=h;refine Yp (n:=n) (λK hK=>by exact hK) hn rfl ?_;exact Zw (o:=.lst (bs.map frD)) hp (Z5 ok) h⟩)
def zbV  (Lc:Df K mg q28 Kz Vw):Fk P w K mg base 1 q28 Vw UM:=
 Lc.mk' (Zy (k:=0) Lc.F zcz (λ_ _ _ _=>nP λ_ _=>nP λ_ _=>nN:Ln (UM) 2) λ_ _ _ _ _ _ hr=>⟨_,(Zg (Zp (ZX (Za (Zf ZU (Zk (dv 0) Zd) (Zk (dv 1) Zd)) (Za (Zf ZU (Zk (dv 0) Zd) (Zk (dv 1) Zd)) Ze))))),λds S Q ex h=>by
  replace h:=ePP h;obtain⟨_,_,_,_,rfl,h⟩:=h;exact h⟩)
def zco  (Zn:Y9 K mg)(Zs:Xi K mg)(Zt:Xr K mg)(Zl:Xa K mg)(Zm:Xb K mg)(Zq:Xn K mg)(L6:Dm K Zn.C q5 Ux OP PQ)(XI:Fk P w K mg base 1 q28 Vw UM):Fm P w K mg base 2 Zn.C q5 PQ (Mw Zs.C Zt.C Zn.C Zl.C Zm.C Zq.C):=
 L6.mk' (Zy (k:=1) L6.F zdO (λ_ _ _ _=>nR λ_=>nR λ_=>nR λ_=>nI λ_=>nN:Ln (Mw Zs.C Zt.C Zn.C Zl.C Zm.C Zq.C) 4) λ_ _ _ _ _ _ hr=>⟨_,(Zg (Zp (Zi XI hr (Za (ZE (dv 1) (Yq Zn.cl Zn.n_one (dv 0))) (Za (ZE (dv 1) (Yq Zn.cl Zn.n_other (dv 0))) Ze))))),λds S Q ex h=>by
  replace h:=VE h;obtain⟨n,w,p,g,rfl,h⟩:=h;obtain⟨i,j,vs,bs,hn,hw,hp,ok,s1,hg,h⟩:=h;refine Yp (n:=n) (λK hK=>by exact hK) hn rfl ?_;refine Zw (o:=.lst (vs.map frD)) hw (Z5 ok.1) ?_;refine Yp (n:=n) (λK hK=>by exact hK) hn rfl ?_;refine Zw (o:=.lst (vs.map frD)) hw (Z5 ok.2) ?_;exact h⟩)
def Ac  (Mi:Df K mg q23 KG VO):Fk P w K mg base 1 q23 VO Tj:=
 Mi.mk' (Zy (k:=0) Mi.F Bb (λ_ _ _ _=>nP λ_ _=>nP λ_ _=>nN:Ln (Tj) 2) λ_ _ _ _ _ _ hr=>⟨_,(Zg (Zp (ZX (Za (Zf YV (Zk (dv 0) Zd) (Zk (dv 1) Zd)) (Za (Zf YV (Zk (dv 0) Zd) (Zk (dv 1) Zd)) Ze))))),λds S Q ex h=>by
  replace h:=ePP h;obtain⟨_,_,_,_,rfl,h⟩:=h;exact h⟩)
def Ap  (Zl:Xa K mg)(Zs:Xi K mg)(Zt:Xr K mg)(Zn:Y9 K mg)(Zm:Xb K mg)(Zq:Xn K mg)(OQ:Dm K Zl.C q5 UQ LP Ql)(X5:Fk P w K mg base 1 q23 VO Tj):Fm P w K mg base 2 Zl.C q5 Ql (KI Zs.C Zt.C Zn.C Zl.C Zm.C Zq.C):=
 OQ.mk' (Zy (k:=1) OQ.F zaU (λ_ _ _ _=>nR λ_=>nR λ_=>nR λ_=>nI λ_=>nN:Ln (KI Zs.C Zt.C Zn.C Zl.C Zm.C Zq.C) 4) λ_ _ _ _ _ _ hr=>⟨_,(Zg (Zp (Zi X5 hr (Za (ZE (dv 1) (Yq Zl.cl Zl.n_one (dv 0))) (Za (ZE (dv 1) (Yq Zl.cl Zl.n_other (dv 0))) Ze))))),λds S Q ex h=>by
  replace h:=VE h;obtain⟨n,w,p,g,rfl,h⟩:=h;obtain⟨i,j,vs,bs,hn,hw,hp,ok,s1,hg,h⟩:=h;refine Yp (n:=n) (λK hK=>by exact hK) hn rfl ?_;refine Zw (o:=.lst (vs.map frD)) hw (Z5 ok.1) ?_;refine Yp (n:=n) (λK hK=>by exact hK) hn rfl ?_;refine Zw (o:=.lst (vs.map frD)) hw (Z5 ok.2) ?_;exact h⟩)
def zec  (OL:Df K mg q31 Ky VT)(VG:Fk P w K mg base 1 q29 UU Ry)(XQ:mg "max"=none)(Xo:mg "min"=none):Fk P w K mg base 2 q31 VT To:=
 OL.mk' (Xk (Zy (k:=1) OL.F E5 (Xh (λ_ _ _ _=>nP λ_ _=>nP λ_ _=>nI λ_=>nN:Ln (To) 3)) λ_ _ _ _ _ _ hr=>⟨_,(Zh (ZD (i:=3) E5.nd (Y1 (Za (Zf ZW (Zk (dv 0) Zd) (Zk (dv 1) Zd)) (Za (Zf ZW (Zk (dv 0) Zd) (Zk (dv 1) Zd)) (Za (Zf ZW (Zk (dv 0) Zd) (Zk (dv 1) Zd)) (Za (Zf ZW (Zk (dv 0) Zd) (Zk (dv 1) Zd)) Ze)))))) (Zg (Zp (ZX (Za (Zf XJ (ZR (ZO (LH rfl)) rfl Xo Boot.«min» (Za (dv 3) Ze)) (dv 2)) (Za (Zi VG hr (Za (ZR (ZO (Hz rfl)) rfl XQ Boot.«max» (Za (dv 3) Ze)) (Za (dv 2) Ze))) Ze)))))),λds S Q ex h=>by
  obtain⟨Q0,ex0,rfl,rfl,h⟩:=h;replace h:=ePPI h;obtain⟨a,b,c,d,g,rfl,h⟩:=h;obtain⟨⟨⟨m1,m2,m3,m4⟩,hg⟩,h⟩:=h;refine⟨m1,m2,m3,m4,?_⟩;apply Ua
  ·exact Zv _ _
  ·rfl
  ·simp
  intro mn n1 n2;refine⟨hg,?_⟩;apply Ua
  ·exact Zv _ _
  ·rfl
  ·simp
  intro mx x1 x2;refine⟨hg,?_⟩;exact⟨Pre.refl.push,VQ,h mn mx (Tb.of n1 n2 x1 x2)⟩⟩))
def zaZ  (Zm:Xb K mg)(Zs:Xi K mg)(Zt:Xr K mg)(Zn:Y9 K mg)(Zl:Xa K mg)(Zq:Xn K mg)(Ma:Dm K Zm.C q5 UZ Ms Qu)(X8:Fk P w K mg base 2 q31 VT To):Fm P w K mg base 3 Zm.C q5 Qu (LO Zs.C Zt.C Zn.C Zl.C Zm.C Zq.C):=
 Ma.mk' (Zy (k:=2) Ma.F zds (λ_ _ _ _=>nR λ_=>nR λ_=>nR λ_=>nI λ_=>nN:Ln (LO Zs.C Zt.C Zn.C Zl.C Zm.C Zq.C) 4) λ_ _ _ _ _ _ hr=>⟨_,(Zg (Zp (Zi X8 hr (Za (ZE (dv 1) (Yq Zm.cl Zm.n_one (dv 0))) (Za (ZE (dv 1) (Yq Zm.cl Zm.n_other (dv 0))) (Za (dv 3) Ze)))))),λds S Q ex h=>by
  replace h:=VE h;obtain⟨n,w,p,g,rfl,h⟩:=h;obtain⟨i,j,vs,bs,hn,hw,hp,ok,s1,hg,h⟩:=h;refine Yp (n:=n) (λK hK=>by exact hK) hn rfl ?_;refine Zw (o:=.lst (vs.map frD)) hw (Z5 ok.1) ?_;refine Yp (n:=n) (λK hK=>by exact hK) hn rfl ?_;refine Zw (o:=.lst (vs.map frD)) hw (Z5 ok.2) ?_;have a:=s1.at ok.1
  have b:=s1.at ok.2
  have sg:Sz 21 g:=Sz.of 1000000 (by lia);refine⟨⟨⟨ZV a.2.1 b.2.1,ZV a.2.1 b.2.2,ZV a.2.2 b.2.1,ZV a.2.2 b.2.2⟩,sg.fd (by lia)⟩,λmn mx hc=>?_⟩;obtain⟨rfl,rfl⟩:=hc.eq;exact h⟩)
def zbo  (JQ:Df K mg q97 Nm RA)(ZM:mg Xz=none):Fk P w K mg base 1 q97 RA Gq:=
 JQ.mk' (Zy (k:=0) JQ.F L7 (λ_ _ _ _=>nI λ_=>nI λ_=>nN:Ln (Gq) 2) λ_ _ _ _ _ _ hr=>⟨_,(Zh (ZD (i:=2) L7.nd Zd) (Zh (XW (i:=3) PassesOwn.never rfl L7.nd rfl (Or.inl rfl) rfl ZM (Za (dv 1) Ze) (Zg (ZD (i:=2) L7.nd (Zf ZW (dv 2) (dv 0))))) (Zg (Zp (dv 2))))),λds S Q ex h=>by
  replace h:=eII h;obtain⟨x,n,rfl,h⟩:=h;obtain⟨⟨h0,h6,sx⟩,h⟩:=h;refine⟨⟨by lia,by lia⟩,λk dl' S'=>S'=S/\k<=n.toNat/\∃(z:Int)(o:Option D),z=x^k/\dl'=[some (.int x),some (.int n),some (.int z),o],⟨rfl,zL _,1,none,(xU x).symm,rfl⟩,?_⟩;rintro k dl' S' ⟨rfl,hk,z,o,rfl,rfl⟩;refine YX (λc=>?_) (λc=>?_)
  ·exact⟨ZV (m:=12001) (n:=2000) ((sx.pow k).mono (by lia)) sx,rfl,by lia,_,_,(xD x k).symm,rfl⟩
  ·have e:k=n.toNat:=by lia
   subst e;exact h⟩)
def zcP  (KU:Df K mg q34 QP T9)(VG:Fk P w K mg base 1 q29 UU Ry)(JJ:Fk P w K mg base 1 q97 RA Gq)(XQ:mg "max"=none)(Xo:mg "min"=none):Fk P w K mg base 2 q34 T9 Kc:=
 KU.mk' (Xk (Zy (k:=1) KU.F J3 (Xh (λ_ _ _ _=>nP λ_ _=>nI λ_=>nI λ_=>nN:Ln (Kc) 3)) λ_ _ _ _ _ _ hr=>⟨_,(Zh (ZD (i:=3) J3.nd (Y1 (Za (Zk (dv 0) Zd) (Za (Zk (dv 0) Zd) Ze)))) (Zh (ZL (Ew WD WD (Zk (dv 0) Zd) Zd (Zk (dv 0) Zd)) (Zg (Yr (Y0 (dv 3) Zd))) ZP) (Zh (U5 (x:="place") (N:=["grid","many"]) (caps:=[2,1]) (ar:=Zj QP) rfl rfl csc rfl (by decide) (i:=4) J3.nd rfl rfl (dv 3) (λ_ _ _ _ _ _=>Yt) (λ_ _ _ _ _ _=>(Zf ZW (Zi JJ hr (Za (dv 0) (Za (dv 2) Ze))) (dv 1)))) (Zh (ZD (i:=5) J3.nd (Zi JJ hr (Za (dv 2) (Za (dv 1) Ze)))) (Zg (Zp (ZX (Za (Zf XJ (ZR (ZO (LH rfl)) rfl Xo Boot.«min» (Za (dv 4) Ze)) (dv 5)) (Za (Zi VG hr (Za (ZR (ZO (Hz rfl)) rfl XQ Boot.«max» (Za (dv 4) Ze)) (Za (dv 5) Ze))) Ze))))))))),λds S Q ex h=>by
  obtain⟨Q0,ex0,rfl,rfl,h⟩:=h;replace h:=ePII h;obtain⟨a,b,n,g,rfl,h⟩:=h;obtain⟨⟨n2,n6,za,zb,hg,zg⟩,h⟩:=h;refine ifD (λc1=>?_) (λc1=>?_)
  ·refine ifD (λc2=>?_) (λc2=>?_)
   ·refine VR (n:=S.length) (λK hK=>hK) (Zv _ _) (λK hK=>hK) (by simp) ?_;refine Wz (n:=S.length) (o:=.lst [.int a,.int b,.int 0]) (λd=>match d with|.int v=>.int (v^n.toNat*g)|_=>.non) (λK hK=>hK) (by simp) (by simp[Zu]) (λx hx S2 K _ hK=>?_) ?_
    ·have hx':x=.int a\/x=.int b\/x=.int 0:=by simpa [Zu] using hx
     rcases hx' with rfl|rfl|rfl
     all_goals exact⟨⟨by lia,n6,by first|exact za.mono (by decide)|exact zb.mono (by decide)|exact Sz.of (n:=2000) 0 (by decide)⟩,ZV (m:=12001) (n:=1400) (((Sz.mono (n:=2000) (by first|exact za|exact zb|exact Sz.of (n:=1400) 0 (by decide)) (by decide)).pow _).mono (by lia)) zg,hK⟩
    refine⟨⟨by lia,n6,zg.mono (by decide)⟩,?_⟩;have gp:(0:Int)<g^n.toNat:=yS (by lia)
    have zgp:Sz 8401 (g^n.toNat):=(zg.pow _).mono (by lia);apply Ua
    ·exact Zv _ _
    ·rfl
    ·simp
    intro mn q1 q2;refine⟨zgp.fd gp,?_⟩;apply Ua
    ·exact Zv _ _
    ·rfl
    ·simp
    intro mx x1 x2;refine⟨zgp.fd gp,?_⟩;obtain⟨m,M,hP,rfl,rfl⟩:=V9.of (n:=n.toNat) hg (.inr ⟨rfl,c1,c2⟩) (by lia) q1 q2 x1 x2;have r:=h m M hP;rw[<- SA hg (by lia),<- SA hg (by lia),yQ] at r;exact⟨(λi o e=>WB (by rw[List.set_append_right _ _ (zD _),zV (zF.mp e).1];exact e)),VQ,r⟩
   ·skip
    refine Wz (n:=S.length) (o:=.lst [.int a,.int b]) (λd=>match d with|.int v=>.int (v^n.toNat*g)|_=>.non) (λK hK=>hK) (Zv _ _) (by simp[Zu]) (λx hx S2 K _ hK=>?_) ?_
    ·have hx':x=.int a\/x=.int b:=by simpa [Zu] using hx
     rcases hx' with rfl|rfl
     all_goals exact⟨⟨by lia,n6,by first|exact za.mono (by decide)|exact zb.mono (by decide)|exact Sz.of (n:=2000) 0 (by decide)⟩,ZV (m:=12001) (n:=1400) (((Sz.mono (n:=2000) (by first|exact za|exact zb|exact Sz.of (n:=1400) 0 (by decide)) (by decide)).pow _).mono (by lia)) zg,hK⟩
    refine⟨⟨by lia,n6,zg.mono (by decide)⟩,?_⟩;have gp:(0:Int)<g^n.toNat:=yS (by lia)
    have zgp:Sz 8401 (g^n.toNat):=(zg.pow _).mono (by lia);apply Ua
    ·exact Zv _ _
    ·rfl
    ·simp
    intro mn q1 q2;refine⟨zgp.fd gp,?_⟩;apply Ua
    ·exact Zv _ _
    ·rfl
    ·simp
    intro mx x1 x2;refine⟨zgp.fd gp,?_⟩;obtain⟨m,M,hP,rfl,rfl⟩:=V9.of (n:=n.toNat) hg (.inl ⟨rfl,λc=>c2 c.2⟩) (by lia) q1 q2 x1 x2;have r:=h m M hP;rw[<- SA hg (by lia),<- SA hg (by lia),yQ] at r;exact⟨Pre.refl.push.push,VQ,r⟩
  ·skip
   refine Wz (n:=S.length) (o:=.lst [.int a,.int b]) (λd=>match d with|.int v=>.int (v^n.toNat*g)|_=>.non) (λK hK=>hK) (Zv _ _) (by simp[Zu]) (λx hx S2 K _ hK=>?_) ?_
   ·have hx':x=.int a\/x=.int b:=by simpa [Zu] using hx
    rcases hx' with rfl|rfl
    all_goals exact⟨⟨by lia,n6,by first|exact za.mono (by decide)|exact zb.mono (by decide)|exact Sz.of (n:=2000) 0 (by decide)⟩,ZV (m:=12001) (n:=1400) (((Sz.mono (n:=2000) (by first|exact za|exact zb|exact Sz.of (n:=1400) 0 (by decide)) (by decide)).pow _).mono (by lia)) zg,hK⟩
   refine⟨⟨by lia,n6,zg.mono (by decide)⟩,?_⟩;have gp:(0:Int)<g^n.toNat:=yS (by lia)
   have zgp:Sz 8401 (g^n.toNat):=(zg.pow _).mono (by lia);apply Ua
   ·exact Zv _ _
   ·rfl
   ·simp
   intro mn q1 q2;refine⟨zgp.fd gp,?_⟩;apply Ua
   ·exact Zv _ _
   ·rfl
   ·simp
   intro mx x1 x2;refine⟨zgp.fd gp,?_⟩;obtain⟨m,M,hP,rfl,rfl⟩:=V9.of (n:=n.toNat) hg (.inl ⟨rfl,λc=>c1 c.1⟩) (by lia) q1 q2 x1 x2;have r:=h m M hP;rw[<- SA hg (by lia),<- SA hg (by lia),yQ] at r;exact⟨Pre.refl.push.push,VQ,r⟩⟩))
def zcS  (Zq:Xn K mg)(Zs:Xi K mg)(Zt:Xr K mg)(Zn:Y9 K mg)(Zl:Xa K mg)(Zm:Xb K mg)(Oy:Dm K Zq.C q5 Su Li RW)(Tp:Fk P w K mg base 2 q34 T9 Kc):Fm P w K mg base 3 Zq.C q5 RW (OI Zs.C Zt.C Zn.C Zl.C Zm.C Zq.C):=
 Oy.mk' (Zy (k:=2) Oy.F zdK (λ_ _ _ _=>nR λ_=>nR λ_=>nR λ_=>nI λ_=>nN:Ln (OI Zs.C Zt.C Zn.C Zl.C Zm.C Zq.C) 4) λ_ _ _ _ _ _ hr=>⟨_,(Zg (Zp (Zi Tp hr (Za (ZE (dv 1) (Yq Zq.cl Zq.n_one (dv 0))) (Za (Yq Zq.cl Zq.n_many (dv 0)) (Za (dv 3) Ze)))))),λds S Q ex h=>by
  replace h:=VE h;obtain⟨n,w,p,g,rfl,h⟩:=h;obtain⟨i,m,vs,bs,hn,hw,hp,ok,s1,hg,h⟩:=h;refine Yp (n:=n) (λK hK=>by exact hK) hn rfl ?_;refine Zw (o:=.lst (vs.map frD)) hw (Z5 ok.1) ?_;refine Yp (n:=n) (λK hK=>by exact hK) hn rfl ?_;have a:=s1.at ok.1
  have sg:Sz 21 g:=Sz.of 1000000 (by lia);refine⟨⟨by have:=ok.2.1;lia,ok.2.2,a.2.1,a.2.2,hg.1,sg.mono (by decide)⟩,λm' M' hP=>?_⟩;obtain⟨rfl,rfl⟩:=hP.eq (by have:=ok.2.1;lia);exact h⟩)
def zey  (Zs:Xi K mg)(M9:Dm K Zs.C q3 Ur Ks Ow):Fm P w K mg base 1 Zs.C q3 Ow (HR Zs.C):=
 M9.mk' (Zy (k:=0) M9.F zbF (λ_ _ _ _=>nR λ_=>nD λ_=>nD λ_=>nN:Ln (HR Zs.C) 3) λ_ _ _ _ _ _ hr=>⟨_,(Zh (WT Zs.cl Zs.n_top (dv 0) (dv 1)) (Zg (WT Zs.cl Zs.n_bottom (dv 0) (dv 2)))),λds S Q ex h=>by
  replace h:=RR h;obtain⟨n,x,y,rfl,h⟩:=h;obtain⟨T,rfl,rfl,h⟩:=h;refine WH (v:=x) (S1:=T++[Ob.ins Zs.C []]) (S2:=T++[Ob.ins Zs.C []]) (n:=T.length) (fs:=[]) (λK hK=>by exact hK) (λK hK=>by exact hK) (WK ..) (by simp) ?_;rw[WG];refine WH (v:=y) (S1:=T++[Ob.ins Zs.C [("top",x)]]) (S2:=T++[Ob.ins Zs.C [("top",x)]]) (n:=T.length) (fs:=[("top",x)]) (λK hK=>by exact hK) (λK hK=>by exact hK) (WK ..) (by simp) ?_;rw[WG];exact h⟩)
def Av  (Zt:Xr K mg)(OR:Dm K Zt.C q3 U3 Lx Qa):Fm P w K mg base 1 Zt.C q3 Qa (GX Zt.C):=
 OR.mk' (Zy (k:=0) OR.F AA (λ_ _ _ _=>nR λ_=>nD λ_=>nN:Ln (GX Zt.C) 2) λ_ _ _ _ _ _ hr=>⟨_,(Zg (WT Zt.cl Zt.n_place (dv 0) (dv 1))),λds S Q ex h=>by
  replace h:=eRD h;obtain⟨n,x,rfl,h⟩:=h;obtain⟨T,rfl,rfl,h⟩:=h;refine WH (v:=x) (S1:=T++[Ob.ins Zt.C []]) (S2:=T++[Ob.ins Zt.C []]) (n:=T.length) (fs:=[]) (λK hK=>by exact hK) (λK hK=>by exact hK) (WK ..) (by simp) ?_;rw[WG];exact h⟩)
def zd0  (Zn:Y9 K mg)(KZ:Dm K Zn.C q3 q24 MA Pg):Fm P w K mg base 1 Zn.C q3 Pg (GB Zn.C):=
 KZ.mk' (Zy (k:=0) KZ.F zbs (λ_ _ _ _=>nR λ_=>nD λ_=>nD λ_=>nN:Ln (GB Zn.C) 3) λ_ _ _ _ _ _ hr=>⟨_,(Zh (WT Zn.cl Zn.n_one (dv 0) (dv 1)) (Zg (WT Zn.cl Zn.n_other (dv 0) (dv 2)))),λds S Q ex h=>by
  replace h:=RR h;obtain⟨n,x,y,rfl,h⟩:=h;obtain⟨T,rfl,rfl,h⟩:=h;refine WH (v:=x) (S1:=T++[Ob.ins Zn.C []]) (S2:=T++[Ob.ins Zn.C []]) (n:=T.length) (fs:=[]) (λK hK=>by exact hK) (λK hK=>by exact hK) (WK ..) (by simp) ?_;rw[WG];refine WH (v:=y) (S1:=T++[Ob.ins Zn.C [("one",x)]]) (S2:=T++[Ob.ins Zn.C [("one",x)]]) (n:=T.length) (fs:=[("one",x)]) (λK hK=>by exact hK) (λK hK=>by exact hK) (WK ..) (by simp) ?_;rw[WG];exact h⟩)
def zeG  (Zl:Xa K mg)(M4:Dm K Zl.C q3 q24 LL PN):Fm P w K mg base 1 Zl.C q3 PN (ID Zl.C):=
 M4.mk' (Zy (k:=0) M4.F zaa (λ_ _ _ _=>nR λ_=>nD λ_=>nD λ_=>nN:Ln (ID Zl.C) 3) λ_ _ _ _ _ _ hr=>⟨_,(Zh (WT Zl.cl Zl.n_one (dv 0) (dv 1)) (Zg (WT Zl.cl Zl.n_other (dv 0) (dv 2)))),λds S Q ex h=>by
  replace h:=RR h;obtain⟨n,x,y,rfl,h⟩:=h;obtain⟨T,rfl,rfl,h⟩:=h;refine WH (v:=x) (S1:=T++[Ob.ins Zl.C []]) (S2:=T++[Ob.ins Zl.C []]) (n:=T.length) (fs:=[]) (λK hK=>by exact hK) (λK hK=>by exact hK) (WK ..) (by simp) ?_;rw[WG];refine WH (v:=y) (S1:=T++[Ob.ins Zl.C [("one",x)]]) (S2:=T++[Ob.ins Zl.C [("one",x)]]) (n:=T.length) (fs:=[("one",x)]) (λK hK=>by exact hK) (λK hK=>by exact hK) (WK ..) (by simp) ?_;rw[WG];exact h⟩)
def BV  (Zm:Xb K mg)(J0:Dm K Zm.C q3 q24 Jb QF):Fm P w K mg base 1 Zm.C q3 QF (IC Zm.C):=
 J0.mk' (Zy (k:=0) J0.F AR (λ_ _ _ _=>nR λ_=>nD λ_=>nD λ_=>nN:Ln (IC Zm.C) 3) λ_ _ _ _ _ _ hr=>⟨_,(Zh (WT Zm.cl Zm.n_one (dv 0) (dv 1)) (Zg (WT Zm.cl Zm.n_other (dv 0) (dv 2)))),λds S Q ex h=>by
  replace h:=RR h;obtain⟨n,x,y,rfl,h⟩:=h;obtain⟨T,rfl,rfl,h⟩:=h;refine WH (v:=x) (S1:=T++[Ob.ins Zm.C []]) (S2:=T++[Ob.ins Zm.C []]) (n:=T.length) (fs:=[]) (λK hK=>by exact hK) (λK hK=>by exact hK) (WK ..) (by simp) ?_;rw[WG];refine WH (v:=y) (S1:=T++[Ob.ins Zm.C [("one",x)]]) (S2:=T++[Ob.ins Zm.C [("one",x)]]) (n:=T.length) (fs:=[("one",x)]) (λK hK=>by exact hK) (λK hK=>by exact hK) (WK ..) (by simp) ?_;rw[WG];exact h⟩)
def zc7  (Zq:Xn K mg)(Js:Dm K Zq.C q3 Rn Jv PU):Fm P w K mg base 1 Zq.C q3 PU (GN Zq.C):=
 Js.mk' (Zy (k:=0) Js.F zax (λ_ _ _ _=>nR λ_=>nD λ_=>nD λ_=>nN:Ln (GN Zq.C) 3) λ_ _ _ _ _ _ hr=>⟨_,(Zh (WT Zq.cl Zq.n_one (dv 0) (dv 1)) (Zg (WT Zq.cl Zq.n_many (dv 0) (dv 2)))),λds S Q ex h=>by
  replace h:=RR h;obtain⟨n,x,y,rfl,h⟩:=h;obtain⟨T,rfl,rfl,h⟩:=h;refine WH (v:=x) (S1:=T++[Ob.ins Zq.C []]) (S2:=T++[Ob.ins Zq.C []]) (n:=T.length) (fs:=[]) (λK hK=>by exact hK) (λK hK=>by exact hK) (WK ..) (by simp) ?_;rw[WG];refine WH (v:=y) (S1:=T++[Ob.ins Zq.C [("one",x)]]) (S2:=T++[Ob.ins Zq.C [("one",x)]]) (n:=T.length) (fs:=[("one",x)]) (λK hK=>by exact hK) (λK hK=>by exact hK) (WK ..) (by simp) ?_;rw[WG];exact h⟩)
def Aj  (Zq:Xn K mg)(Zm:Xb K mg)(Zl:Xa K mg)(Zn:Y9 K mg)(Zt:Xr K mg)(Zs:Xi K mg)(NK:Df K mg q99 LZ Rk)(Sw:Fm P w K mg base 1 Zq.C q3 PU (GN Zq.C))(TU:Fm P w K mg base 1 Zm.C q3 QF (IC Zm.C))(TM:Fm P w K mg base 1 Zl.C q3 PN (ID Zl.C))(Rq:Fm P w K mg base 1 Zn.C q3 Pg (GB Zn.C))(SV:Fm P w K mg base 1 Zt.C q3 Qa (GX Zt.C))(Tf:Fm P w K mg base 1 Zs.C q3 Ow (HR Zs.C)):Fk P w K mg base 3 q99 Rk (Mo Zs.C Zt.C Zn.C Zl.C Zm.C Zq.C):=
 NK.mk' (Zy (k:=2) NK.F zeL (λ_ _ _ _=>nD λ_=>nN:Ln (Mo Zs.C Zt.C Zn.C Zl.C Zm.C Zq.C) 1) λ_ _ _ _ _ _ hr=>⟨_,(Zh (ZL (ZN (ZY hr) (Zk (dv 0) Zd) Z6 (ZI _)) (Zg (Zp (SO ⟨Zs.makes,Tf.m.at_,Tf.m.fn,Zs.kp⟩ Tf.ok (hr.mono (by decide)) rfl Zs.m Tf.b Ti (Za (Zk (dv 0) Zd) (Za (Zk (dv 0) Zd) Ze))))) ZP) (Zh (ZL (ZN (ZY hr) (Zk (dv 0) Zd) Z6 (ZI _)) (Zg (Zp (SO ⟨Zt.makes,SV.m.at_,SV.m.fn,Zt.kp⟩ SV.ok (hr.mono (by decide)) rfl Zt.m SV.b Ti (Za (Zk (dv 0) Zd) Ze)))) ZP) (Zh (ZL (ZN (ZY hr) (Zk (dv 0) Zd) Z6 (ZI _)) (Zg (Zp (SO ⟨Zn.makes,Rq.m.at_,Rq.m.fn,Zn.kp⟩ Rq.ok (hr.mono (by decide)) rfl Zn.m Rq.b Ti (Za (Zk (dv 0) Zd) (Za (Zk (dv 0) Zd) Ze))))) ZP) (Zh (ZL (ZN (ZY hr) (Zk (dv 0) Zd) Z6 (ZI _)) (Zg (Zp (SO ⟨Zl.makes,TM.m.at_,TM.m.fn,Zl.kp⟩ TM.ok (hr.mono (by decide)) rfl Zl.m TM.b Ti (Za (Zk (dv 0) Zd) (Za (Zk (dv 0) Zd) Ze))))) ZP) (Zh (ZL (ZN (ZY hr) (Zk (dv 0) Zd) Z6 (ZI _)) (Zg (Zp (SO ⟨Zm.makes,TU.m.at_,TU.m.fn,Zm.kp⟩ TU.ok (hr.mono (by decide)) rfl Zm.m TU.b Ti (Za (Zk (dv 0) Zd) (Za (Zk (dv 0) Zd) Ze))))) ZP) (Zg (Zp (SO ⟨Zq.makes,Sw.m.at_,Sw.m.fn,Zq.kp⟩ Sw.ok (hr.mono (by decide)) rfl Zq.m Sw.b Ti (Za (Zk (dv 0) Zd) (Za (Zk (dv 0) Zd) Ze)))))))))),λds S Q ex h=>by
  replace h:=eD h;obtain⟨_,rfl,h⟩:=h;obtain⟨v,rfl,h⟩:=h;cases v<;>exact⟨S,rfl,rfl,rfl,h⟩⟩)
def zcy  (Zq:Xn K mg)(Zm:Xb K mg)(Zl:Xa K mg)(Zn:Y9 K mg)(Zt:Xr K mg)(Zs:Xi K mg)(MR:Df K mg q60 KO Uo)(FQ:Fm P w K mg base 3 Zq.C q5 RW (OI Zs.C Zt.C Zn.C Zl.C Zm.C Zq.C))(GU:Fm P w K mg base 3 Zm.C q5 Qu (LO Zs.C Zt.C Zn.C Zl.C Zm.C Zq.C))(IV:Fm P w K mg base 2 Zl.C q5 Ql (KI Zs.C Zt.C Zn.C Zl.C Zm.C Zq.C))(Fl:Fm P w K mg base 2 Zn.C q5 PQ (Mw Zs.C Zt.C Zn.C Zl.C Zm.C Zq.C))(Eb:Fm P w K mg base 1 Zt.C q5 Om (Lv Zs.C Zt.C Zn.C Zl.C Zm.C Zq.C))(Gh:Fm P w K mg base 3 Zs.C q5 RO (MJ Zs.C Zt.C Zn.C Zl.C Zm.C Zq.C))(Tv:Fk P w K mg base 3 q99 Rk (Mo Zs.C Zt.C Zn.C Zl.C Zm.C Zq.C)):Fk P w K mg base 4 q60 Uo Pu:=
 MR.mk' (Zy (k:=3) MR.F FG (λ_ _ _ _=>nR λ_=>nR λ_=>nI λ_=>nN:Ln (Pu) 3) λ_ _ _ _ _ _ hr=>⟨_,(Zh (ZD (i:=3) FG.nd (Y1 Ze)) (Zh (Va (i:=4) PassesOwn.never rfl FG.nd rfl (Or.inl rfl) (dv 0) (Zg (Yr (Y0 (dv 3) (Dd (Zi Tv hr (Za (dv 4) Ze)) (Wo Zs.cl Gh (hr.mono (by decide)) (Wo Zt.cl Eb (hr.mono (by decide)) (Wo Zn.cl Fl (hr.mono (by decide)) (Wo Zl.cl IV (hr.mono (by decide)) (Wo Zm.cl GU (hr.mono (by decide)) (Wo Zq.cl FQ (hr.mono (by decide)) EB)))))) Tq (Za (dv 3) (Za (dv 1) (Za (dv 2) Ze)))))))) (Zg (Zp (dv 3))))),λds S Q ex h=>by
  replace h:=Q9 h;obtain⟨a,b,g,rfl,h⟩:=h;obtain⟨ns,ws,bs,ha,hb,net,sb,hg,hl,h⟩:=h;have disp:∀v:Nd,∃C fs sd,v.ob Zs.C Zt.C Zn.C Zl.C Zm.C Zq.C=.ins C fs/\(C,sd)∈[(Zs.C,MJ Zs.C Zt.C Zn.C Zl.C Zm.C Zq.C),(Zt.C,Lv Zs.C Zt.C Zn.C Zl.C Zm.C Zq.C),(Zn.C,Mw Zs.C Zt.C Zn.C Zl.C Zm.C Zq.C),(Zl.C,KI Zs.C Zt.C Zn.C Zl.C Zm.C Zq.C),(Zm.C,LO Zs.C Zt.C Zn.C Zl.C Zm.C Zq.C),(Zq.C,OI Zs.C Zt.C Zn.C Zl.C Zm.C Zq.C)]/\fs.lookup ("forth":Str)=none/\∀(n w p:Nat)(g:Int)(S:Sto)(Q:DK)(ex:Addr->Sto->Prop)(vs bs:LI),S[n]?=some (v.ob Zs.C Zt.C Zn.C Zl.C Zm.C Zq.C)->S[w]?=some (.lst (vs.map frD))->S[p]?=some (.lst (bs.map frD))->v.ok vs.length bs.length->Spn 1400 vs->(1<=g/\g<=1000000)->Q (frD (v.fw vs bs g)) S->sd [.ref n,.ref w,.ref p,.int g] S Q ex:=by
   intro v;cases v with
   | number x y=>exact⟨_,_,_,rfl,(.head _),rfl,λn w p g S Q ex vs bs a1 a2 a3 a4 a5 a6 q=>⟨x,y,vs,bs,a1,a2,a3,a4,a5,a6,q⟩⟩
   | unknown k=>exact⟨_,_,_,rfl,(.tail _ (.head _)),rfl,λn w p g S Q ex vs bs a1 a2 a3 a4 a5 a6 q=>⟨k,vs,bs,a1,a2,a3,a4,a5,a6,q⟩⟩
   | plus i j=>exact⟨_,_,_,rfl,(.tail _ (.tail _ (.head _))),rfl,λn w p g S Q ex vs bs a1 a2 a3 a4 a5 a6 q=>⟨i,j,vs,bs,a1,a2,a3,a4,a5,a6,q⟩⟩
   | minus i j=>exact⟨_,_,_,rfl,(.tail _ (.tail _ (.tail _ (.head _)))),rfl,λn w p g S Q ex vs bs a1 a2 a3 a4 a5 a6 q=>⟨i,j,vs,bs,a1,a2,a3,a4,a5,a6,q⟩⟩
   | times i j=>exact⟨_,_,_,rfl,(.tail _ (.tail _ (.tail _ (.tail _ (.head _))))),rfl,λn w p g S Q ex vs bs a1 a2 a3 a4 a5 a6 q=>⟨i,j,vs,bs,a1,a2,a3,a4,a5,a6,q⟩⟩
   | power i m=>exact⟨_,_,_,rfl,(.tail _ (.tail _ (.tail _ (.tail _ (.tail _ (.head _)))))),rfl,λn w p g S Q ex vs bs a1 a2 a3 a4 a5 a6 q=>⟨i,m,vs,bs,a1,a2,a3,a4,a5,a6,q⟩⟩
  have la:=Z7 ha
  have lb:=Z7 hb;refine Vf (n:=a) (o:=.lst (ns.map Nd.d)) (λk dl' S'=>k<=ns.length/\Pre S S'/\S'[S.length]?=some (.lst ((Zo bs g (ns.take k)).map frD))/\∃u:Option D,dl'=[some (.ref a),some (.ref b),some (.int g),some (.ref S.length),u]) ⟨zL _,Pre.refl.push,Zv _ _,_,rfl⟩ (λk dl' S' w=>w.2.1 _ _ ha) ?_ ?_
  ·rintro k x dl' S' nx ct ex' ⟨hk,pr,hf,u,rfl⟩ hn;have ex2:(ns.map Nd.d)[k]?=some x:=ex';rw[zG] at ex2;obtain⟨v,hv,rfl⟩:=zP.mp ex2;have hk':=(zF.mp hv).1
   have ln:(Zo bs g (ns.take k)).length=k:=by rw[Y2,zW];lia
   have okv:v.ok (Zo bs g (ns.take k)).length bs.length:=by rw[ln];exact(net.ok k v hv).1
   obtain⟨C,fs,sd,eo,hm,hf2,go⟩:=disp v;have N1:=Zv S' (v.ob Zs.C Zt.C Zn.C Zl.C Zm.C Zq.C);refine E8 (n:=S.length) (S1:=S') (S2:=S'++[v.ob Zs.C Zt.C Zn.C Zl.C Zm.C Zq.C]) (xs:=(Zo bs g (ns.take k)).map frD) (y:=frD (v.fw (Zo bs g (ns.take k)) bs g)) (λK hK=>by exact hK) hf (λK hK=>?_) (ZA hf) (by rw[zA,ln];lia) ?_
   ·refine D1 (n:=S'.length) (C:=C) (sd:=sd) (fs:=fs) (S1:=S'++[v.ob Zs.C Zt.C Zn.C Zl.C Zm.C Zq.C]) (λK hK=>⟨v,rfl,by exact hK⟩) (by rw[<- eo];exact N1) hm hf2 ?_;exact go _ _ _ _ _ _ _ (Zo bs g (ns.take k)) bs N1 (ZA hf) (ZA (pr _ _ hb)) okv ((K8 net rfl sb hg k hk).mono (by decide)) hg hK
   ·refine hn _ _ ⟨by lia,U0 (Vj pr _) (zD _),?_,_,rfl⟩;rw[XH hv,SX,yC];exact Yv (ZA hf)
  ·rintro dl' S' ⟨hk,pr,hf,u,rfl⟩;refine h _ _ pr (zD _) ?_;have e:ns.take (Zu (.lst (ns.map Nd.d))).length=ns:=by
    show ns.take (ns.map Nd.d).length=ns;rw[zA,yE]
   rw[e] at hf;exact hf⟩)
def AL  (M7:Df K mg XO RQ Rj):Fk P w K mg base 1 XO Rj Ig:=
 M7.mk' (Zy (k:=0) M7.F zcj (λ_ _ _ _=>nR λ_=>nR λ_=>nN:Ln (Ig) 2) λ_ _ _ _ _ _ hr=>⟨_,(Zg (Zp (WU (x:="place") (N:=["each"]) (caps:=[0]) (ar:=Zj RQ) rfl rfl csc rfl (by decide) (dv 1) (λ_ _ _ _ _ _=>Yt) (λ_ _ _ _ _ _=>(ZE (dv 1) (dv 0)))))),λds S Q ex h=>by
  replace h:=eRR h;obtain⟨e,p,rfl,h⟩:=h;obtain⟨xs,is,he,hp,l9,hi,h⟩:=h;refine Wz (n:=p) (S1:=S) (o:=.lst (is.map wtD)) (λd=>match d with|.int i=>xs.getD i.toNat .non|_=>.non) (λK hK=>by exact hK) hp (by show (is.map wtD).length<=1000;rw[zA];lia) (λx hx S2 K pr hK=>?_) ?_
  ·have hx':x∈is.map wtD:=hx;obtain⟨i,him,rfl⟩:=zH.mp hx';have hl:=hi i him;refine Zw (o:=.lst xs) (pr _ _ he) (X2 (j:=i) (v:=xs.getD i .non) (by show xs[i]?=_;rw[zC hl];simp[hl])) ?_;exact hK
  ·have e2:(Zu (.lst (is.map wtD))).map (λd=>match d with|.int i=>xs.getD i.toNat .non|_=>.non)=is.map λi=>xs.getD i .non:=by
    show (is.map wtD).map _=_;rw[zU];rfl
   rw[e2];exact h⟩)
def zcd  (Zs:Xi K mg)(Zt:Xr K mg)(Zn:Y9 K mg)(Zl:Xa K mg)(Zm:Xb K mg)(Zq:Xn K mg)(J1:Dm K Zs.C q8 UT KY Q7):Fm P w K mg base 1 Zs.C q8 Q7 (Ld Zs.C Zt.C Zn.C Zl.C Zm.C Zq.C):=
 J1.mk' (Zy (k:=0) J1.F zck (λ_ _ _ _=>nR λ_=>nR λ_=>nR λ_=>nI λ_=>nI λ_=>nN:Ln (Ld Zs.C Zt.C Zn.C Zl.C Zm.C Zq.C) 5) λ_ _ _ _ _ _ hr=>⟨_,(Zg (Zp (Zf zel (Y1 (Za (ZX (Za Zd (Za Zd Ze))) Ze)) (dv 3)))),λds S Q ex h=>by
  replace h:=Sk h;obtain⟨n,w,s,qi,g,rfl,h⟩:=h;obtain⟨x,y,q,vs,sl,ds,hn,hw,hs,rows,sz,⟨rfl,hq⟩,ok,lv,s1,hg,h⟩:=h;have sg:Sz 21 g:=Sz.of 1000000 (by lia)
  have bB:∀ys:List D,ys=(Ys vs sl g q (Nd.number x y)).map frD->Q (.ref (S++[Ob.lst [frD (0,0)]]).length) ((S++[.lst [frD (0,0)]])++[.lst ys]):=λys e=>by
   subst e;exact h _ _ Pre.refl.push.push (by simp) (Zv _ _)
  refine zca (n:=S.length) (k:=((q:Nat):Int)) (xs:=[frD (0,0)]) (Zv _ _) ⟨by lia,by lia⟩ (by simp;lia) ?_;refine bB _ ?_;rw[zJ,Bt];unfold Ys;rw[zU];rfl⟩)
def zbJ  (Zt:Xr K mg)(Zs:Xi K mg)(Zn:Y9 K mg)(Zl:Xa K mg)(Zm:Xb K mg)(Zq:Xn K mg)(OO:Dm K Zt.C q8 UC R8 Pe)(ZM:mg Xz=none):Fm P w K mg base 1 Zt.C q8 Pe (Nk Zs.C Zt.C Zn.C Zl.C Zm.C Zq.C):=
 OO.mk' (Zy (k:=0) OO.F Aq (λ_ _ _ _=>nR λ_=>nR λ_=>nR λ_=>nI λ_=>nI λ_=>nN:Ln (Nk Zs.C Zt.C Zn.C Zl.C Zm.C Zq.C) 5) λ_ _ _ _ _ _ hr=>⟨_,(Zg (Zp (Vu (x:="k") (N:=["grid","self"]) (caps:=[4,0]) (ar:=Zj R8) rfl rfl csc rfl (by decide) rfl ZM (Za (dv 3) Ze) (λ_ _ _ _ _ _=>Yt) (λ_ _ _ _ _ _=>(Iy (ZN (ZY hr) (dv 0) (Yq Zt.cl Zt.n_place (dv 2)) (ZI _)) (ZX (Za (dv 1) (Za (dv 1) Ze))) (ZX (Za Zd (Za Zd Ze)))))))),λds S Q ex h=>by
  replace h:=Sk h;obtain⟨n,w,s,qi,g,rfl,h⟩:=h;obtain⟨k,q,vs,sl,ds,hn,hw,hs,rows,sz,⟨rfl,hq⟩,ok,lv,s1,hg,h⟩:=h;have sg:Sz 21 g:=Sz.of 1000000 (by lia)
  have bB:∀ys:List D,ys=(Ys vs sl g q (Nd.unknown k)).map frD->Q (.ref S.length) (S++[.lst ys]):=λys e=>by
   subst e;exact h _ _ Pre.refl.push (by simp) (Zv _ _)
  refine Vi (j:=((q:Nat):Int)) (S1:=S) (λl=>frD (if (l:Int)=k then (g,g) else (0,0))) (λK hK=>by exact hK) ⟨by lia,by lia⟩ (λl hl S2 K pr hK=>?_) ?_
  ·refine Yp (n:=n) (λK hK=>by exact hK) (pr _ _ hn) rfl ?_;refine ifD (λe=>?_) (λe=>?_)
   ·rw[if_pos e] at hK;exact hK
   ·rw[if_neg e] at hK;exact hK
  ·refine bB _ ?_;rw[zJ];unfold Ys;rw[zU];rfl⟩)
def zbI  (Zn:Y9 K mg)(MQ:Dm K Zn.C q4 q87 Ng QT)(XI:Fk P w K mg base 1 q28 Vw UM):Fm P w K mg base 2 Zn.C q4 QT (Ir Zn.C):=
 MQ.mk' (Zy (k:=1) MQ.F BP (λ_ _ _ _=>nR λ_=>nD λ_=>nD λ_=>nP λ_ _=>nP λ_ _=>nI λ_=>nN:Ln (Ir Zn.C) 6) λ_ _ _ _ _ _ hr=>⟨_,(Zg (Zp (Zi XI hr (Za (dv 3) (Za (dv 4) Ze))))),λds S Q ex h=>by
  replace h:=EC h;obtain⟨_,_,_,_,_,_,_,_,rfl,h⟩:=h;exact h⟩)
def zbb  (Zn:Y9 K mg)(Zs:Xi K mg)(Zt:Xr K mg)(Zl:Xa K mg)(Zm:Xb K mg)(Zq:Xn K mg)(Ke:Dm K Zn.C q8 q45 RF PV)(Ox:Fm P w K mg base 2 Zn.C q4 QT (Ir Zn.C))(YB:mg "zip"=none):Fm P w K mg base 3 Zn.C q8 PV (NZ Zs.C Zt.C Zn.C Zl.C Zm.C Zq.C):=
 Ke.mk' (Zy (k:=2) Ke.F Hd (λ_ _ _ _=>nR λ_=>nR λ_=>nR λ_=>nI λ_=>nI λ_=>nN:Ln (NZ Zs.C Zt.C Zn.C Zl.C Zm.C Zq.C) 5) λ_ _ _ _ _ _ hr=>⟨_,(Zh (Wh (i:=5) Hd.nd rfl (Or.inr rfl) (ZE (dv 1) (Yq Zn.cl Zn.n_one (dv 0)))) (Zh (Wh (i:=6) Hd.nd rfl (Or.inr rfl) (ZE (dv 1) (Yq Zn.cl Zn.n_other (dv 0)))) (Zg (Zp (LU (x1:="a") (x2:="b") (N:=["x","y","grid","self"]) (caps:=[5,6,4,0]) (ar:=Zj RF) rfl rfl WY rfl rfl rfl (by decide) rfl YB Boot.«zip» (Za (ZE (dv 2) (Yq Zn.cl Zn.n_one (dv 0))) (Za (ZE (dv 2) (Yq Zn.cl Zn.n_other (dv 0))) Ze)) (λ_ _ _ _ _ _=>(Gs (C:=Zn.C) (dv 5) Zn.cl Ox.m Ox.ok (hr.mono (by decide)) Ox.b Tq (Za (dv 2) (Za (dv 3) (Za (dv 0) (Za (dv 1) (Za (dv 4) Ze)))))))))))),λds S Q ex h=>by
  replace h:=Sk h;obtain⟨n,w,s,qi,g,rfl,h⟩:=h;obtain⟨i,j,q,vs,sl,ds,hn,hw,hs,rows,sz,⟨rfl,hq⟩,ok,lv,s1,hg,h⟩:=h;have sg:Sz 21 g:=Sz.of 1000000 (by lia)
  have bB:∀ys:List D,ys=(Ys vs sl g q (Nd.plus i j)).map frD->Q (.ref S.length) (S++[.lst ys]):=λys e=>by
   subst e;exact h _ _ Pre.refl.push (by simp) (Zv _ _)
  refine Yp (n:=n) (λK hK=>by exact hK) hn rfl ?_;refine Zw (o:=.lst (vs.map frD)) hw (Z5 (i:=i) ⟨ok.1.1,by have:=ok.1.2;lia⟩) ?_;refine Yp (n:=n) (λK hK=>by exact hK) hn rfl ?_;refine Zw (o:=.lst (vs.map frD)) hw (Z5 (i:=j) ⟨ok.2.1,by have:=ok.2.2;lia⟩) ?_;obtain⟨a1,ea,_,ha⟩:=rows.at ok.1;obtain⟨a2,eb,_,hb⟩:=rows.at ok.2;obtain⟨la,za⟩:=sz i ok.1;obtain⟨lb,zb⟩:=sz j ok.2;have ci:=s1.at (i:=i) ⟨ok.1.1,by have:=ok.1.2;lia⟩
  have cj:=s1.at (i:=j) ⟨ok.2.1,by have:=ok.2.2;lia⟩;refine Pa (n:=a1) (n':=a2) (S1:=S) (xs:=(sl.getD i.toNat []).map frD) (ys:=(sl.getD j.toNat []).map frD) (λx y=>match x,y with|.tup [.int a,.int b],.tup [.int c,.int d]=>.tup [.int (a+c),.int (b+d)]|_,_=>.non) (λK hK=>by
   refine Yp (n:=n) (λK hK=>by exact hK) hn rfl ?_;refine Zw (o:=.lst ds) hs ea ?_;refine Yp (n:=n) (λK hK=>by exact hK) hn rfl ?_;exact Zw (o:=.lst ds) hs eb hK) ha hb (by rw[zA,la];lia) (λk x y hx hy S2 K pr hK=>?_) ?_
  ·rw[zG] at hx hy;obtain⟨p,hp,rfl⟩:=zP.mp hx;obtain⟨r,hr,rfl⟩:=zP.mp hy;have kq:k<q:=by
    have:=(zF.mp hp).1;lia
   have e1:gs sl i k=p:=by
    unfold gs;rw[zK,hp];rfl
   have e2:gs sl j k=r:=by
    unfold gs;rw[zK,hr];rfl
   have z1:=za k kq
   have z2:=zb k kq;rw[e1] at z1;rw[e2] at z2;refine Fu (n:=n) (fs:=[("one",.int i),("other",.int j)]) (λK hK=>by exact hK) (pr _ _ hn) rfl ?_;exact hK
  ·refine bB _ ?_;rw[List.zipWith_map];unfold Ys;rw[zU];rw[F5 _ _ _ la lb];rfl⟩)
def BH  (Zl:Xa K mg)(Kt:Dm K Zl.C q4 q75 Jq Pm)(X5:Fk P w K mg base 1 q23 VO Tj):Fm P w K mg base 2 Zl.C q4 Pm (Ft Zl.C):=
 Kt.mk' (Zy (k:=1) Kt.F B6 (λ_ _ _ _=>nR λ_=>nD λ_=>nD λ_=>nP λ_ _=>nP λ_ _=>nI λ_=>nN:Ln (Ft Zl.C) 6) λ_ _ _ _ _ _ hr=>⟨_,(Zg (Zp (Zi X5 hr (Za (dv 3) (Za (dv 4) Ze))))),λds S Q ex h=>by
  replace h:=EC h;obtain⟨_,_,_,_,_,_,_,_,rfl,h⟩:=h;exact h⟩)
def zbu  (Zl:Xa K mg)(Zs:Xi K mg)(Zt:Xr K mg)(Zn:Y9 K mg)(Zm:Xb K mg)(Zq:Xn K mg)(KW:Dm K Zl.C q8 q45 RE RB)(Qd:Fm P w K mg base 2 Zl.C q4 Pm (Ft Zl.C))(YB:mg "zip"=none):Fm P w K mg base 3 Zl.C q8 RB (J2 Zs.C Zt.C Zn.C Zl.C Zm.C Zq.C):=
 KW.mk' (Zy (k:=2) KW.F Gf (λ_ _ _ _=>nR λ_=>nR λ_=>nR λ_=>nI λ_=>nI λ_=>nN:Ln (J2 Zs.C Zt.C Zn.C Zl.C Zm.C Zq.C) 5) λ_ _ _ _ _ _ hr=>⟨_,(Zh (Wh (i:=5) Gf.nd rfl (Or.inr rfl) (ZE (dv 1) (Yq Zl.cl Zl.n_one (dv 0)))) (Zh (Wh (i:=6) Gf.nd rfl (Or.inr rfl) (ZE (dv 1) (Yq Zl.cl Zl.n_other (dv 0)))) (Zg (Zp (LU (x1:="a") (x2:="b") (N:=["x","y","grid","self"]) (caps:=[5,6,4,0]) (ar:=Zj RE) rfl rfl WY rfl rfl rfl (by decide) rfl YB Boot.«zip» (Za (ZE (dv 2) (Yq Zl.cl Zl.n_one (dv 0))) (Za (ZE (dv 2) (Yq Zl.cl Zl.n_other (dv 0))) Ze)) (λ_ _ _ _ _ _=>(Gs (C:=Zl.C) (dv 5) Zl.cl Qd.m Qd.ok (hr.mono (by decide)) Qd.b Tq (Za (dv 2) (Za (dv 3) (Za (dv 0) (Za (dv 1) (Za (dv 4) Ze)))))))))))),λds S Q ex h=>by
  replace h:=Sk h;obtain⟨n,w,s,qi,g,rfl,h⟩:=h;obtain⟨i,j,q,vs,sl,ds,hn,hw,hs,rows,sz,⟨rfl,hq⟩,ok,lv,s1,hg,h⟩:=h;have sg:Sz 21 g:=Sz.of 1000000 (by lia)
  have bB:∀ys:List D,ys=(Ys vs sl g q (Nd.minus i j)).map frD->Q (.ref S.length) (S++[.lst ys]):=λys e=>by
   subst e;exact h _ _ Pre.refl.push (by simp) (Zv _ _)
  refine Yp (n:=n) (λK hK=>by exact hK) hn rfl ?_;refine Zw (o:=.lst (vs.map frD)) hw (Z5 (i:=i) ⟨ok.1.1,by have:=ok.1.2;lia⟩) ?_;refine Yp (n:=n) (λK hK=>by exact hK) hn rfl ?_;refine Zw (o:=.lst (vs.map frD)) hw (Z5 (i:=j) ⟨ok.2.1,by have:=ok.2.2;lia⟩) ?_;obtain⟨a1,ea,_,ha⟩:=rows.at ok.1;obtain⟨a2,eb,_,hb⟩:=rows.at ok.2;obtain⟨la,za⟩:=sz i ok.1;obtain⟨lb,zb⟩:=sz j ok.2;have ci:=s1.at (i:=i) ⟨ok.1.1,by have:=ok.1.2;lia⟩
  have cj:=s1.at (i:=j) ⟨ok.2.1,by have:=ok.2.2;lia⟩;refine Pa (n:=a1) (n':=a2) (S1:=S) (xs:=(sl.getD i.toNat []).map frD) (ys:=(sl.getD j.toNat []).map frD) (λx y=>match x,y with|.tup [.int a,.int b],.tup [.int c,.int d]=>.tup [.int (a-d),.int (b-c)]|_,_=>.non) (λK hK=>by
   refine Yp (n:=n) (λK hK=>by exact hK) hn rfl ?_;refine Zw (o:=.lst ds) hs ea ?_;refine Yp (n:=n) (λK hK=>by exact hK) hn rfl ?_;exact Zw (o:=.lst ds) hs eb hK) ha hb (by rw[zA,la];lia) (λk x y hx hy S2 K pr hK=>?_) ?_
  ·rw[zG] at hx hy;obtain⟨p,hp,rfl⟩:=zP.mp hx;obtain⟨r,hr,rfl⟩:=zP.mp hy;have kq:k<q:=by
    have:=(zF.mp hp).1;lia
   have e1:gs sl i k=p:=by
    unfold gs;rw[zK,hp];rfl
   have e2:gs sl j k=r:=by
    unfold gs;rw[zK,hr];rfl
   have z1:=za k kq
   have z2:=zb k kq;rw[e1] at z1;rw[e2] at z2;refine Fu (n:=n) (fs:=[("one",.int i),("other",.int j)]) (λK hK=>by exact hK) (pr _ _ hn) rfl ?_;exact hK
  ·refine bB _ ?_;rw[List.zipWith_map];unfold Ys;rw[zU];rw[F5 _ _ _ la lb];rfl⟩)
def AH  (Zm:Xb K mg)(Nn:Dm K Zm.C q4 q76 O5 Py)(XI:Fk P w K mg base 1 q28 Vw UM)(X8:Fk P w K mg base 2 q31 VT To):Fm P w K mg base 3 Zm.C q4 Py (Ff Zm.C):=
 Nn.mk' (Zy (k:=2) Nn.F zcR (λ_ _ _ _=>nR λ_=>nP λ_ _=>nP λ_ _=>nP λ_ _=>nP λ_ _=>nI λ_=>nN:Ln (Ff Zm.C) 6) λ_ _ _ _ _ _ hr=>⟨_,(Zg (Zp (Zi XI hr (Za (Zi X8 hr (Za (dv 1) (Za (dv 4) (Za (dv 5) Ze)))) (Za (Zi X8 hr (Za (dv 2) (Za (dv 3) (Za (dv 5) Ze)))) Ze))))),λds S Q ex h=>by
  replace h:=BZ h;obtain⟨_,x1,x2,y1,y2,a,b,c,d,g,rfl,h⟩:=h;obtain⟨⟨h1,h2,h3,h4,h5,h6,h7,h8,g1,g2⟩,h⟩:=h;have sg:Sz 21 g:=Sz.of 1000000 (by lia);refine⟨⟨⟨ZV h1 h7,ZV h1 h8,ZV h2 h7,ZV h2 h8⟩,sg.fd (by lia)⟩,λmn mx hc=>?_⟩;obtain⟨rfl,rfl⟩:=hc.eq;refine⟨⟨⟨ZV h3 h5,ZV h3 h6,ZV h4 h5,ZV h4 h6⟩,sg.fd (by lia)⟩,λmn mx hc=>?_⟩;obtain⟨rfl,rfl⟩:=hc.eq;exact h⟩)
def zdI  (Zm:Xb K mg)(Zs:Xi K mg)(Zt:Xr K mg)(Zn:Y9 K mg)(Zl:Xa K mg)(Zq:Xn K mg)(LS:Dm K Zm.C q8 q45 Pf Q3)(RX:Fm P w K mg base 3 Zm.C q4 Py (Ff Zm.C))(YB:mg "zip"=none):Fm P w K mg base 4 Zm.C q8 Q3 (O0 Zs.C Zt.C Zn.C Zl.C Zm.C Zq.C):=
 LS.mk' (Zy (k:=3) LS.F G9 (λ_ _ _ _=>nR λ_=>nR λ_=>nR λ_=>nI λ_=>nI λ_=>nN:Ln (O0 Zs.C Zt.C Zn.C Zl.C Zm.C Zq.C) 5) λ_ _ _ _ _ _ hr=>⟨_,(Zh (Wh (i:=5) G9.nd rfl (Or.inr rfl) (ZE (dv 1) (Yq Zm.cl Zm.n_one (dv 0)))) (Zh (Wh (i:=6) G9.nd rfl (Or.inr rfl) (ZE (dv 1) (Yq Zm.cl Zm.n_other (dv 0)))) (Zg (Zp (LU (x1:="a") (x2:="b") (N:=["x","y","grid","self"]) (caps:=[5,6,4,0]) (ar:=Zj Pf) rfl rfl WY rfl rfl rfl (by decide) rfl YB Boot.«zip» (Za (ZE (dv 2) (Yq Zm.cl Zm.n_one (dv 0))) (Za (ZE (dv 2) (Yq Zm.cl Zm.n_other (dv 0))) Ze)) (λ_ _ _ _ _ _=>(Gs (C:=Zm.C) (dv 5) Zm.cl RX.m RX.ok (hr.mono (by decide)) RX.b Tq (Za (dv 2) (Za (dv 3) (Za (dv 0) (Za (dv 1) (Za (dv 4) Ze)))))))))))),λds S Q ex h=>by
  replace h:=Sk h;obtain⟨n,w,s,qi,g,rfl,h⟩:=h;obtain⟨i,j,q,vs,sl,ds,hn,hw,hs,rows,sz,⟨rfl,hq⟩,ok,lv,s1,hg,h⟩:=h;have sg:Sz 21 g:=Sz.of 1000000 (by lia)
  have bB:∀ys:List D,ys=(Ys vs sl g q (Nd.times i j)).map frD->Q (.ref S.length) (S++[.lst ys]):=λys e=>by
   subst e;exact h _ _ Pre.refl.push (by simp) (Zv _ _)
  refine Yp (n:=n) (λK hK=>by exact hK) hn rfl ?_;refine Zw (o:=.lst (vs.map frD)) hw (Z5 (i:=i) ⟨ok.1.1,by have:=ok.1.2;lia⟩) ?_;refine Yp (n:=n) (λK hK=>by exact hK) hn rfl ?_;refine Zw (o:=.lst (vs.map frD)) hw (Z5 (i:=j) ⟨ok.2.1,by have:=ok.2.2;lia⟩) ?_;obtain⟨a1,ea,_,ha⟩:=rows.at ok.1;obtain⟨a2,eb,_,hb⟩:=rows.at ok.2;obtain⟨la,za⟩:=sz i ok.1;obtain⟨lb,zb⟩:=sz j ok.2;have ci:=s1.at (i:=i) ⟨ok.1.1,by have:=ok.1.2;lia⟩
  have cj:=s1.at (i:=j) ⟨ok.2.1,by have:=ok.2.2;lia⟩;refine Pa (n:=a1) (n':=a2) (S1:=S) (xs:=(sl.getD i.toNat []).map frD) (ys:=(sl.getD j.toNat []).map frD) (λx y=>match x,y with|.tup [.int a,.int b],.tup [.int c,.int d]=>.tup [.int ((Yy (gt vs i) (c,d) g).1+(Yy (gt vs j) (a,b) g).1),.int ((Yy (gt vs i) (c,d) g).2+(Yy (gt vs j) (a,b) g).2)]|_,_=>.non) (λK hK=>by
   refine Yp (n:=n) (λK hK=>by exact hK) hn rfl ?_;refine Zw (o:=.lst ds) hs ea ?_;refine Yp (n:=n) (λK hK=>by exact hK) hn rfl ?_;exact Zw (o:=.lst ds) hs eb hK) ha hb (by rw[zA,la];lia) (λk x y hx hy S2 K pr hK=>?_) ?_
  ·rw[zG] at hx hy;obtain⟨p,hp,rfl⟩:=zP.mp hx;obtain⟨r,hr,rfl⟩:=zP.mp hy;have kq:k<q:=by
    have:=(zF.mp hp).1;lia
   have e1:gs sl i k=p:=by
    unfold gs;rw[zK,hp];rfl
   have e2:gs sl j k=r:=by
    unfold gs;rw[zK,hr];rfl
   have z1:=za k kq
   have z2:=zb k kq;rw[e1] at z1;rw[e2] at z2;refine Fu (n:=n) (fs:=[("one",.int i),("other",.int j)]) (λK hK=>by exact hK) (pr _ _ hn) rfl ?_;exact⟨⟨ci.2.1.mono (by decide),ci.2.2.mono (by decide),cj.2.1.mono (by decide),cj.2.2.mono (by decide),z1.2.1.mono (by decide),z1.2.2.mono (by decide),z2.2.1.mono (by decide),z2.2.2.mono (by decide),hg.1,hg.2⟩,hK⟩
  ·refine bB _ ?_;rw[List.zipWith_map];unfold Ys;rw[zU];rw[F5 _ _ _ la lb];rfl⟩)
def zdw  (LQ:Df K mg q37 Nz R0)(XQ:mg "max"=none)(Xo:mg "min"=none):Fk P w K mg base 1 q37 R0 F0:=
 LQ.mk' (Zy (k:=0) LQ.F zbY (λ_ _ _ _=>nP λ_ _=>nI λ_=>nN:Ln (F0) 2) λ_ _ _ _ _ _ hr=>⟨_,(Zg (Zp (ZX (Za (ZR (LH rfl) rfl Xo Boot.«min» (Za (Zf ZW (Zk (dv 0) Zd) (dv 1)) (Za (Zf ZW (Zk (dv 0) Zd) (dv 1)) Ze))) (Za (ZR (Hz rfl) rfl XQ Boot.«max» (Za (Zf ZW (Zk (dv 0) Zd) (dv 1)) (Za (Zf ZW (Zk (dv 0) Zd) (dv 1)) Ze))) Ze))))),λds S Q ex h=>by
  replace h:=ePI h;obtain⟨_,_,_,rfl,h⟩:=h;obtain⟨⟨h1,h2⟩,h⟩:=h;exact⟨h1,h2,h1,h2,h⟩⟩)
def zaH  (Zq:Xn K mg)(Zs:Xi K mg)(Zt:Xr K mg)(Zn:Y9 K mg)(Zl:Xa K mg)(Zm:Xb K mg)(Kp:Dm K Zq.C q8 SH PF QL)(X8:Fk P w K mg base 2 q31 VT To)(Gn:Fk P w K mg base 1 q37 R0 F0)(Tp:Fk P w K mg base 2 q34 T9 Kc):Fm P w K mg base 3 Zq.C q8 QL (M1 Zs.C Zt.C Zn.C Zl.C Zm.C Zq.C):=
 Kp.mk' (Zy (k:=2) Kp.F Fq (λ_ _ _ _=>nR λ_=>nR λ_=>nR λ_=>nI λ_=>nI λ_=>nN:Ln (M1 Zs.C Zt.C Zn.C Zl.C Zm.C Zq.C) 5) λ_ _ _ _ _ _ hr=>⟨_,(Zh (ZD (i:=5) Fq.nd (Zi Tp hr (Za (ZE (dv 1) (Yq Zq.cl Zq.n_one (dv 0))) (Za (Zf YV (Yq Zq.cl Zq.n_many (dv 0)) Zd) (Za (dv 4) Ze))))) (Zh (Wh (i:=6) Fq.nd rfl (Or.inr rfl) (Zi Gn hr (Za (dv 5) (Za (Yq Zq.cl Zq.n_many (dv 0)) Ze)))) (Zg (Zp (WU (x:="a") (N:=["steep","grid"]) (caps:=[6,4]) (ar:=Zj PF) rfl rfl csc rfl (by decide) (ZE (dv 2) (Yq Zq.cl Zq.n_one (dv 0))) (λ_ _ _ _ _ _=>Yt) (λ_ _ _ _ _ _=>(Zi X8 hr (Za (dv 1) (Za (dv 0) (Za (dv 2) Ze)))))))))),λds S Q ex h=>by
  replace h:=Sk h;obtain⟨n,w,s,qi,g,rfl,h⟩:=h;obtain⟨i,m,q,vs,sl,ds,hn,hw,hs,rows,sz,⟨rfl,hq⟩,ok,lv,s1,hg,h⟩:=h;have sg:Sz 21 g:=Sz.of 1000000 (by lia)
  have bB:∀ys:List D,ys=(Ys vs sl g q (Nd.power i m)).map frD->Q (.ref S.length) (S++[.lst ys]):=λys e=>by
   subst e;exact h _ _ Pre.refl.push (by simp) (Zv _ _)
  obtain⟨a1,ea,_,ha⟩:=rows.at ok.1;obtain⟨la,za⟩:=sz i ok.1;have ci:=s1.at (i:=i) ⟨ok.1.1,by have:=ok.1.2;lia⟩;obtain⟨ok1,m2,m6⟩:=ok;refine Yp (n:=n) (λK hK=>by exact hK) hn rfl ?_;refine Zw (o:=.lst (vs.map frD)) hw (Z5 (i:=i) ⟨ok1.1,by have:=ok1.2;lia⟩) ?_;refine Yp (n:=n) (λK hK=>by exact hK) hn rfl ?_;refine⟨⟨by lia,by lia,ci.2.1.mono (by decide),ci.2.2.mono (by decide),hg.1,sg.mono (by decide)⟩,λm' M' hP=>?_⟩;obtain⟨rfl,rfl⟩:=hP.eq (by lia);have gp:(1:Int)<=g^((m-1).toNat-1):=yS (by lia)
  have lo:=SN gp (J7 (gt vs i).1 (gt vs i).2 (m-1).toNat)
  have fl:=zcA (gt vs i) (n:=m) (by lia) hg.1
  have p1:Sz 6000 ((gt vs i).1^(m-1).toNat):=(ci.2.1.pow _).mono (by lia)
  have p2:Sz 6000 ((gt vs i).2^(m-1).toNat):=(ci.2.2.pow _).mono (by lia)
  have pl:Sz 6000 (Yk (gt vs i).1 (gt vs i).2 (m-1).toNat):=by
   unfold Yk;split
   ·exact yJ (by decide)
   ·exact Vb p1 p2
  have sm:Sz 10 m:=Sz.of 6 (by lia);refine Yp (n:=n) (λK hK=>by exact hK) hn rfl ?_;refine⟨⟨ZV (pl.div gp) sm,ZV (VX (WZ p1 p2) gp) sm⟩,?_⟩;have e1:(if -(-Y8 (gt vs i).1 (gt vs i).2 (m-1).toNat/g^((m-1).toNat-1))*m<Yk (gt vs i).1 (gt vs i).2 (m-1).toNat/g^((m-1).toNat-1)*m then -(-Y8 (gt vs i).1 (gt vs i).2 (m-1).toNat/g^((m-1).toNat-1))*m else Yk (gt vs i).1 (gt vs i).2 (m-1).toNat/g^((m-1).toNat-1)*m)=(Y6 (gt vs i) m g).1:=by
   rw[if_neg (by have z:(Y6 (gt vs i) m g).1<=(Y6 (gt vs i) m g).2:=fl;exact Int.not_lt.mpr z)];rfl
  have e2:(if -(-Y8 (gt vs i).1 (gt vs i).2 (m-1).toNat/g^((m-1).toNat-1))*m > Yk (gt vs i).1 (gt vs i).2 (m-1).toNat/g^((m-1).toNat-1)*m then -(-Y8 (gt vs i).1 (gt vs i).2 (m-1).toNat/g^((m-1).toNat-1))*m else Yk (gt vs i).1 (gt vs i).2 (m-1).toNat/g^((m-1).toNat-1)*m)=(Y6 (gt vs i) m g).2:=by
   split
   ·rfl
   ·rename_i c;have z:¬ (Y6 (gt vs i) m g).1<(Y6 (gt vs i) m g).2:=c
    have z2:(Y6 (gt vs i) m g).1=(Y6 (gt vs i) m g).2:=by lia
    exact z2
  rw[e1,e2];have f1:Sz 6010 (Y6 (gt vs i) m g).1:=MU (e:=10) (pl.div gp) (by lia) (by lia)
  have f2:Sz 6010 (Y6 (gt vs i) m g).2:=MU (e:=10) (VX (WZ p1 p2) gp) (by lia) (by lia);generalize hfc:Y6 (gt vs i) m g=fc at f1 f2;refine Wz (n:=a1) (S1:=S) (o:=.lst ((sl.getD i.toNat []).map frD)) (λx=>match x with|.tup [.int a,.int b]=>frD (Yy fc (a,b) g)|_=>.non) (λK hK=>by
   refine Yp (n:=n) (λK hK=>by exact hK) hn rfl ?_;exact Zw (o:=.lst ds) hs ea hK) ha (by show ((sl.getD i.toNat []).map frD).length<=1000;rw[zA,la];lia) (λx hx S2 K pr hK=>?_) ?_
  ·have hx':x∈(sl.getD i.toNat []).map frD:=hx;obtain⟨p,hp,rfl⟩:=zH.mp hx';obtain⟨k,hk,ek⟩:=yW.mp hp;have z1:=za k (by lia)
   have e1:gs sl i k=p:=by
    unfold gs;rw[zK,zC hk,ek];rfl
   rw[e1] at z1;refine⟨⟨⟨ZV f1 z1.2.1,ZV f1 z1.2.2,ZV f2 z1.2.1,ZV f2 z1.2.2⟩,sg.fd (by lia)⟩,λmn mx hc=>?_⟩;obtain⟨rfl,rfl⟩:=hc.eq;exact hK
  ·refine bB _ ?_;show ((sl.getD i.toNat []).map frD).map _=_;rw[zU,zbN _ _ la];unfold Ys;rw[zU];subst hfc;rfl⟩)
def zaV  (Zq:Xn K mg)(Zm:Xb K mg)(Zl:Xa K mg)(Zn:Y9 K mg)(Zt:Xr K mg)(Zs:Xi K mg)(Mn:Df K mg Wa Ij Pl)(Gg:Fm P w K mg base 3 Zq.C q8 QL (M1 Zs.C Zt.C Zn.C Zl.C Zm.C Zq.C))(Hy:Fm P w K mg base 4 Zm.C q8 Q3 (O0 Zs.C Zt.C Zn.C Zl.C Zm.C Zq.C))(Hi:Fm P w K mg base 3 Zl.C q8 RB (J2 Zs.C Zt.C Zn.C Zl.C Zm.C Zq.C))(G2:Fm P w K mg base 3 Zn.C q8 PV (NZ Zs.C Zt.C Zn.C Zl.C Zm.C Zq.C))(GA:Fm P w K mg base 1 Zt.C q8 Pe (Nk Zs.C Zt.C Zn.C Zl.C Zm.C Zq.C))(Fo:Fm P w K mg base 1 Zs.C q8 Q7 (Ld Zs.C Zt.C Zn.C Zl.C Zm.C Zq.C))(Tv:Fk P w K mg base 3 q99 Rk (Mo Zs.C Zt.C Zn.C Zl.C Zm.C Zq.C))(VJ:Fk P w K mg base 4 q60 Uo Pu)(ZC:mg "len"=none):Fk P w K mg base 5 Wa Pl FI:=
 Mn.mk' (Zy (k:=4) Mn.F NY (λ_ _ _ _=>nR λ_=>nR λ_=>nI λ_=>nN:Ln (FI) 3) λ_ _ _ _ _ _ hr=>⟨_,(Zh (ZD (i:=3) NY.nd (Zi VJ hr (Za (dv 0) (Za (dv 1) (Za (dv 2) Ze))))) (Zh (ZD (i:=4) NY.nd (Y1 Ze)) (Zh (Va (i:=5) PassesOwn.never rfl NY.nd rfl (Or.inl rfl) (dv 0) (Zg (Yr (Y0 (dv 4) (Dd (Zi Tv hr (Za (dv 5) Ze)) (Wo Zs.cl Fo (hr.mono (by decide)) (Wo Zt.cl GA (hr.mono (by decide)) (Wo Zn.cl G2 (hr.mono (by decide)) (Wo Zl.cl Hi (hr.mono (by decide)) (Wo Zm.cl Hy (hr.mono (by decide)) (Wo Zq.cl Gg (hr.mono (by decide)) EB)))))) Tq (Za (dv 3) (Za (dv 4) (Za (ZR (ZO Z4) rfl ZC Boot.«len» (Za (dv 1) Ze)) (Za (dv 2) Ze))))))))) (Zg (Zp (dv 4)))))),λds S Q ex h=>by
  replace h:=Q9 h;obtain⟨a,b,g,rfl,h⟩:=h;obtain⟨ns,ws,bs,ha,hb,net,sb,hq9,hg,hl,h⟩:=h;have disp:∀v:Nd,∃C fs sd,v.ob Zs.C Zt.C Zn.C Zl.C Zm.C Zq.C=.ins C fs/\(C,sd)∈[(Zs.C,Ld Zs.C Zt.C Zn.C Zl.C Zm.C Zq.C),(Zt.C,Nk Zs.C Zt.C Zn.C Zl.C Zm.C Zq.C),(Zn.C,NZ Zs.C Zt.C Zn.C Zl.C Zm.C Zq.C),(Zl.C,J2 Zs.C Zt.C Zn.C Zl.C Zm.C Zq.C),(Zm.C,O0 Zs.C Zt.C Zn.C Zl.C Zm.C Zq.C),(Zq.C,M1 Zs.C Zt.C Zn.C Zl.C Zm.C Zq.C)]/\fs.lookup ("slope":Str)=none/\∀(n w s:Nat)(q:Nat)(g:Int)(S:Sto)(Q:DK)(ex:Addr->Sto->Prop)(vs:LI)(sl:List LI)(ds:List D),S[n]?=some (v.ob Zs.C Zt.C Zn.C Zl.C Zm.C Zq.C)->S[w]?=some (.lst (vs.map frD))->S[s]?=some (.lst ds)->Z2 S 0 ds sl->(∀i:Int,inR sl.length i->(sl.getD i.toNat []).length=q/\∀l,l<q->(gs sl i l).1<=(gs sl i l).2/\Sz 1100 (gs sl i l).1/\Sz 1100 (gs sl i l).2)->q<=900->v.ok sl.length q->sl.length<=vs.length->Spn 1000 vs->(1<=g/\g<=1000000)->(∀(T:Sto)(m:Nat),Pre S T->S.length<=m->T[m]?=some (.lst ((Ys vs sl g q v).map frD))->Q (.ref m) T)->sd [.ref n,.ref w,.ref s,.int (q:Nat),.int g] S Q ex:=by
   intro v;cases v with
   | number x y=>exact⟨_,_,_,rfl,(.head _),rfl,λn w s q g S Q ex vs sl ds a1 a2 a3 a4 a5 a6 a7 a8 a9 b1 b2=>⟨x,y,q,vs,sl,ds,a1,a2,a3,a4,a5,⟨rfl,a6⟩,a7,a8,a9,b1,b2⟩⟩
   | unknown k=>exact⟨_,_,_,rfl,(.tail _ (.head _)),rfl,λn w s q g S Q ex vs sl ds a1 a2 a3 a4 a5 a6 a7 a8 a9 b1 b2=>⟨k,q,vs,sl,ds,a1,a2,a3,a4,a5,⟨rfl,a6⟩,a7,a8,a9,b1,b2⟩⟩
   | plus i j=>exact⟨_,_,_,rfl,(.tail _ (.tail _ (.head _))),rfl,λn w s q g S Q ex vs sl ds a1 a2 a3 a4 a5 a6 a7 a8 a9 b1 b2=>⟨i,j,q,vs,sl,ds,a1,a2,a3,a4,a5,⟨rfl,a6⟩,a7,a8,a9,b1,b2⟩⟩
   | minus i j=>exact⟨_,_,_,rfl,(.tail _ (.tail _ (.tail _ (.head _)))),rfl,λn w s q g S Q ex vs sl ds a1 a2 a3 a4 a5 a6 a7 a8 a9 b1 b2=>⟨i,j,q,vs,sl,ds,a1,a2,a3,a4,a5,⟨rfl,a6⟩,a7,a8,a9,b1,b2⟩⟩
   | times i j=>exact⟨_,_,_,rfl,(.tail _ (.tail _ (.tail _ (.tail _ (.head _))))),rfl,λn w s q g S Q ex vs sl ds a1 a2 a3 a4 a5 a6 a7 a8 a9 b1 b2=>⟨i,j,q,vs,sl,ds,a1,a2,a3,a4,a5,⟨rfl,a6⟩,a7,a8,a9,b1,b2⟩⟩
   | power i m=>exact⟨_,_,_,rfl,(.tail _ (.tail _ (.tail _ (.tail _ (.tail _ (.head _)))))),rfl,λn w s q g S Q ex vs sl ds a1 a2 a3 a4 a5 a6 a7 a8 a9 b1 b2=>⟨i,m,q,vs,sl,ds,a1,a2,a3,a4,a5,⟨rfl,a6⟩,a7,a8,a9,b1,b2⟩⟩
  refine⟨ns,ws,bs,ha,hb,net,sb,hg,hl,λT1 w pr1 lw hw=>?_⟩;have szw:=I0 net rfl sb hg
  have lf:(Zo bs g ns).length=ns.length:=Y2 _ _ _
  have spn:Spn 1000 (Zo bs g ns):=szw.spn λk hk=>by
   have z:=(net.w1 (i:=(k:Int)) ⟨by lia,by lia⟩).2
   rwa [zJ] at z
  refine Vf (n:=a) (o:=.lst (ns.map Nd.d)) (λk dl' S'=>k<=ns.length/\Pre T1 S'/\(∃ds:List D,S'[T1.length]?=some (.lst ds)/\Z2 S' (T1.length+1) ds (ZT (Zo bs g ns) g bs.length (ns.take k)))/\∃u:Option D,dl'=[some (.ref a),some (.ref b),some (.int g),some (.ref w),some (.ref T1.length),u]) ⟨zL _,Pre.refl.push,⟨[],Zv _ _,Z2.nil⟩,_,rfl⟩ (λk dl' S' z=>z.2.1 _ _ (pr1 _ _ ha)) ?_ ?_
  ·rintro k x dl' S' nx ct ex' ⟨hk,pr,⟨ds,hf,rows⟩,u,rfl⟩ hn;have ex2:(ns.map Nd.d)[k]?=some x:=ex';rw[zG] at ex2;obtain⟨v,hv,rfl⟩:=zP.mp ex2;have hk':=(zF.mp hv).1
   have ln:(ZT (Zo bs g ns) g bs.length (ns.take k)).length=k:=by rw[VU,zW];lia
   have okv:v.ok (ZT (Zo bs g ns) g bs.length (ns.take k)).length bs.length:=by rw[ln];exact(net.ok k v hv).1
   have slw:=Od net szw lf hg k hk
   have ss:=slw.spn λi hi=>by
    have z:=(net.w1 (i:=(i:Int)) ⟨by lia,by lia⟩).2
    rwa [zJ] at z
   obtain⟨C,fs,sd,eo,hm,hf2,go⟩:=disp v;have N1:=Zv S' (v.ob Zs.C Zt.C Zn.C Zl.C Zm.C Zq.C)
   have ld:ds.length=k:=by rw[rows.1,ln]
   have lt:=Z7 hf;refine W6 (n:=T1.length) (xs:=ds) (λK hK=>by exact hK) hf (λK hK=>?_) (by lia);refine D1 (n:=S'.length) (C:=C) (sd:=sd) (fs:=fs) (S1:=S'++[v.ob Zs.C Zt.C Zn.C Zl.C Zm.C Zq.C]) (λK hK=>⟨v,rfl,by exact hK⟩) (by rw[<- eo];exact N1) hm hf2 ?_;refine Yc (ZA (pr _ _ (pr1 _ _ hb))) ?_;rw[zA];refine go _ _ _ bs.length _ _ _ _ (Zo bs g ns) (ZT (Zo bs g ns) g bs.length (ns.take k)) ds N1 (ZA (pr _ _ hw)) (ZA hf) ((rows.low (zL _)).pre (Vj Pre.refl _)) ss hq9 okv (by lia) spn hg λT m prT lm hT=>?_
   have hf3:=prT _ _ (ZA hf);refine hK _ _ hf3 ?_;have lS:(S'++[v.ob Zs.C Zt.C Zn.C Zl.C Zm.C Zq.C]).length=S'.length+1:=by simp
   have rows3:Z2 T (T1.length+1) ds (ZT (Zo bs g ns) g bs.length (ns.take k)):=rows.pre λi o e=>prT _ _ (ZA e)
   refine hn _ _ ⟨by lia,U0 (pr.trans λi o e=>prT _ _ (ZA e)) (zD _),⟨ds++[.ref m],Yv hf3,?_⟩,_,rfl⟩;rw[XH hv,LR];have r4:=rows3.snoc (a:=m) (r:=Ys (Zo bs g ns) (ZT (Zo bs g ns) g bs.length (ns.take k)) g bs.length v) (by lia) hT;exact r4.keep λx o hx e=>Yg e (by lia)
  ·rintro dl' S' ⟨hk,pr,⟨ds,hf,rows⟩,u,rfl⟩;have e:ns.take (Zu (.lst (ns.map Nd.d))).length=ns:=by
    show ns.take (ns.map Nd.d).length=ns;rw[zA,yE]
   rw[e] at rows;refine h _ _ ds (pr1.trans pr) ?_ hf rows;exact VZ pr1⟩)
def zeB  (LK:Df K mg q70 Ny SG)(SF:Fk P w K mg base 1 XO Rj Ig)(HI:Fk P w K mg base 5 Wa Pl FI):Fk P w K mg base 6 q70 SG Kb:=
 LK.mk' (Zy (k:=5) LK.F zbU (λ_ _ _ _=>nR λ_=>nR λ_=>nR λ_=>nI λ_=>nN:Ln (Kb) 4) λ_ _ _ _ _ _ hr=>⟨_,(Zg (Zp (Zi SF hr (Za (Zi HI hr (Za (dv 0) (Za (dv 2) (Za (dv 3) Ze)))) (Za (dv 1) Ze))))),λds S Q ex h=>by
  replace h:=VE h;obtain⟨a,p,b,g,rfl,h⟩:=h;obtain⟨ns,ws,bs,is,ha,hb,net,sb,hg,l7,b9,hp,i9,hi,h⟩:=h;refine⟨ns,ws,bs,ha,hb,net,sb,b9,hg,l7,λT m ds pr lm hm rows=>?_⟩;have ld:ds.length=ns.length:=by rw[rows.1,VU]
  refine⟨ds,is,hm,pr _ _ hp,i9,λi him=>by rw[ld];exact hi i him,?_⟩;refine h _ _ (is.map λi=>ds.getD i .non) (λx o z=>ZA (pr _ _ z)) (VZ pr) (Zv _ _) ⟨by rw[zA,zA],λk d r hd hr=>?_⟩;rw[zG] at hd hr;obtain⟨i,hik,rfl⟩:=zP.mp hd;rw[hik] at hr;cases hr;have him:=hi i (zN hik)
  have h1:ds[i]?=some (ds.getD i .non):=by rw[zC (show i<ds.length by lia)];simp[show i<ds.length by lia]
  have ls:=VU (Zo bs g ns) g bs.length ns
  have h2:(ZT (Zo bs g ns) g bs.length ns)[i]?=some ((ZT (Zo bs g ns) g bs.length ns).getD i []):=by rw[zC (show i<(ZT (Zo bs g ns) g bs.length ns).length by lia)];simp[show i<(ZT (Zo bs g ns) g bs.length ns).length by lia]
  obtain⟨q,eq,_,sq⟩:=rows.2 i _ _ h1 h2;exact⟨q,eq,zL _,ZA sq⟩⟩)
def zbq  (JN:Df K mg q73 OB Ug):Fk P w K mg base 1 q73 Ug Ta:=
 JN.mk' (Zy (k:=0) JN.F BO (λ_ _ _ _=>nI λ_=>nI λ_=>nN:Ln (Ta) 2) λ_ _ _ _ _ _ hr=>⟨_,(Zg (Zp (Iy (ZN (ZY hr) (Zf Yb (dv 1) Zd) Zd (ZI _)) (W8 Vp (dv 0)) (dv 0)))),λds S Q ex h=>by
  replace h:=eII h;obtain⟨i,k,rfl,h⟩:=h;obtain⟨n,rfl,h⟩:=h;refine ifD (λe=>?_) (λe=>?_)
  ·have z:sgn i n=-i:=by unfold sgn;rw[if_pos (by lia)]
   rw[z] at h;exact h
  ·have z:sgn i n=i:=by unfold sgn;rw[if_neg (by lia)]
   rw[z] at h;exact h⟩)
def BK  (L4:Df K mg q47 Qq Ud):Fk P w K mg base 1 q47 Ud Rw:=
 L4.mk' (Zy (k:=0) L4.F DD (λ_ _ _ _=>nR λ_=>nI λ_=>nI λ_=>nN:Ln (Rw) 3) λ_ _ _ _ _ _ hr=>⟨_,(Zh (ZD (i:=3) DD.nd (Zf Hl (PC (dv 0) Qc (Q4 (dv 1))) (PC (dv 0) (Q4 (Zf ZU (dv 1) Zd)) Qc))) (Zg (Zp (WU (x:="entries") (N:=["column"]) (caps:=[2]) (ar:=Zj Qq) rfl rfl csc rfl (by decide) (dv 3) (λ_ _ _ _ _ _=>Yt) (λ_ _ _ _ _ _=>(Zf Hl (PC (dv 0) Qc (Q4 (dv 1))) (PC (dv 0) (Q4 (Zf ZU (dv 1) Zd)) Qc))))))),λds S Q ex h=>by
  replace h:=eRII h;obtain⟨m,r,c,rfl,h⟩:=h;obtain⟨M,i,j,n,rfl,rfl,⟨ds,hm,rows⟩,sq,hn,hi,hj,h⟩:=h;have lm:ds.length=n+1:=by rw[rows.len];exact sq.1
  refine QV (n:=m) (o:=.lst ds) (lo:=none) (hi:=some (i:Int)) (λK hK=>by exact hK) (λK hK=>by exact hK) (λK hK=>by exact hK) hm ?_;refine QV (n:=m) (o:=.lst ds) (lo:=some ((i+1:Nat):Int)) (hi:=none) (λK hK=>by exact hK) (λK hK=>by exact hK) (λK hK=>by exact hK) (WB hm) ?_;dsimp only[Zu];rw[Es,Ef];refine Gd (xs:=ds.take i) (ys:=ds.drop (i+1)) (WB (Zv _ _)) (Zv _ _) (by simp;lia) ?_;have p0:Pre S (S++[.lst (ds.take i)]++[.lst (ds.drop (i+1))]++[.lst (ds.take i++ds.drop (i+1))]):=Pre.refl.push.push.push
  have r0:Rows (S++[.lst (ds.take i)]++[.lst (ds.drop (i+1))]++[.lst (ds.take i++ds.drop (i+1))]) 0 (ds.take i++ds.drop (i+1)) (M.take i++M.drop (i+1)):=((rows.take i).app (rows.drop (i+1))).pre p0;refine CS (n:=(S++[Ob.lst (ds.take i)]++[Ob.lst (ds.drop (i+1))]).length) (λe=>e.take j++e.drop (j+1)) (λK hK=>by exact hK) (Zv _ _) r0 (by simp;lia) (λa r S2 K hr ha hK=>?_) (λS2 ys p2 e2 r2=>?_)
  ·have lr:r.length<=n+1:=by
    have z:=sq.2 r ((yF.mp hr).elim xX xK);lia
   show dOp (Xs RL) (Sf (WA 0) HB (Ha (WA 1))) (Sf (WA 0) (Ha (dOp wAdd (WA 1) (dC (D.int 1)))) HB) [some (.ref a),some (.int (j:Int))] S2 K;simp only[dOp];refine QV (n:=a) (o:=.lst (r.map D.int)) (lo:=none) (hi:=some (j:Int)) (λK hK=>by exact hK) (λK hK=>by exact hK) (λK hK=>by exact hK) ha ?_;refine QV (n:=a) (o:=.lst (r.map D.int)) (lo:=some ((j+1:Nat):Int)) (hi:=none) (λK hK=>by exact hK) (λK hK=>by exact hK) (λK hK=>by exact hK) (WB ha) ?_;dsimp only[Zu];rw[Es,Ef];refine Gd (xs:=(r.map D.int).take j) (ys:=(r.map D.int).drop (j+1)) (WB (Zv _ _)) (Zv _ _) (by simp;lia) ?_;refine hK _ _ Pre.refl.push.push.push (by simp) ?_;rw[yC,List.map_take,List.map_drop];exact Zv _ _
  ·exact h S2 _ (p0.trans p2) ⟨ys,e2,r2⟩⟩)
def Bs (YU:Df K mg q9 Wc Xg)(XT:Fk P w K mg base 0 q13 Xy Ds)(YD:mg "sum"=none)(YE:mg UD=none)(ZC:mg "len"=none):Fk P w K mg base 1 q9 Xg Ol:=
 YU.mk' (Xk (Zy (k:=0) YU.F RZ (Xh zdG) λ_ _ _ _ _ _ hr=>⟨_,(Zh (ZL (ZN (ZY hr) (ZR (ZO Z4) rfl ZC Boot.«len» (Za (dv 0) Ze)) Zd (ZI _)) (Zg (Zp Zd)) ZP) (Zg (Zp (ZR (ZO (Sl rfl)) rfl YD Boot.«sum» (Za (TY (x1:="column") (x2:="entry") (N:=["matrix"]) (caps:=[0]) (ar:=Zj Wc) rfl rfl WY rfl rfl rfl (by decide) rfl YE Boot.«enumerate» (Za (Zk (dv 0) Zd) Ze) (λ_ _ _ _ _ _=>(Zf ZW (dv 1) (Zi XT hr (Za (dv 2) (Za Zd (Za (dv 0) Ze))))))) Ze))))),λds S Q ex h=>by
  obtain⟨Q0,ex0,rfl,rfl,h⟩:=h;unfold Ol at h;split at h
  ·rename_i m;obtain⟨M,n,hn,⟨ds,hm,rows⟩,sq,big,h⟩:=h;have lm:ds.length=n:=by rw[rows.len];exact sq.1
   refine Yc hm ?_;refine ifD (λe=>?_) (λe=>?_)
   ·have n0:n=0:=by lia
    subst n0;exact⟨Pre.refl,.int _,h⟩
   ·exact absurd (show ((ds.length:Nat):Int)=0 by lia) e
  ·exact h.elim⟩))
def zdb (Xm:Df K mg q13 UK Xy)(Wy:Fk P w K mg base 1 q73 Ug Ta)(WJ:Fk P w K mg base 1 q9 Xg Ol)(Wi:Fk P w K mg base 1 q47 Ud Rw):Fk P w K mg base 2 q13 Xy TK:=
 Xm.mk' (Xk (Zy (k:=1) Xm.F M3 (Xh zcb) λ_ _ _ _ _ _ hr=>⟨_,(Zg (Zp (Zi Wy hr (Za (Zi WJ hr (Za (Zi Wi hr (Za (dv 0) (Za (dv 1) (Za (dv 2) Ze)))) Ze)) (Za (Zf ZU (dv 1) (dv 2)) Ze))))),λds S Q ex h=>by
  obtain⟨Q0,ex0,rfl,rfl,h⟩:=h;unfold TK at h;split at h
  ·rename_i m r c;obtain⟨M,i,j,n,hn,rfl,rfl,hi,hj,hm,sq,big,h⟩:=h;refine⟨M,i,j,n,rfl,rfl,hm,sq,by lia,hi,hj,λT k pt mt=>?_⟩;refine⟨Yd M i j,n,hn,mt,V0 sq hi hj,big.minor i j,?_⟩;exact⟨i+j,by lia,pt,.int _,h⟩
  ·exact h.elim⟩))
def CT (YU:Df K mg q9 Wc Xg)(XT:Fk P w K mg base 2 q13 Xy TK)(YD:mg "sum"=none)(YE:mg UD=none)(ZC:mg "len"=none):Fk P w K mg base 3 q9 Xg PL:=
 YU.mk' (Xk (Zy (k:=2) YU.F RZ (Xh zeM) λ_ _ _ _ _ _ hr=>⟨_,(Zh (ZL (ZN (ZY hr) (ZR (ZO Z4) rfl ZC Boot.«len» (Za (dv 0) Ze)) Zd (ZI _)) (Zg (Zp Zd)) ZP) (Zg (Zp (ZR (ZO (Sl rfl)) rfl YD Boot.«sum» (Za (TY (x1:="column") (x2:="entry") (N:=["matrix"]) (caps:=[0]) (ar:=Zj Wc) rfl rfl WY rfl rfl rfl (by decide) rfl YE Boot.«enumerate» (Za (Zk (dv 0) Zd) Ze) (λ_ _ _ _ _ _=>(Zf ZW (dv 1) (Zi XT hr (Za (dv 2) (Za Zd (Za (dv 0) Ze))))))) Ze))))),λds S Q ex h=>by
  obtain⟨Q0,ex0,rfl,rfl,h⟩:=h;unfold PL at h;split at h
  ·rename_i m;obtain⟨M,n,hn,⟨ds,hm,rows⟩,sq,big,h⟩:=h;have lm:ds.length=n:=by rw[rows.len];exact sq.1
   refine Yc hm ?_;refine ifD (λe=>?_) (λe=>?_)
   ·have n0:n=0:=by lia
    subst n0;exact⟨Pre.refl,.int _,h⟩
   ·obtain⟨n,rfl⟩:∃k,n=k+1:=⟨n-1,by lia⟩;obtain⟨r0,M',rfl⟩:∃r M',M=r::M':=by
     match M,sq.1 with
     | r::M',_=>exact⟨r,M',rfl⟩
    have lr:r0.length=n+1:=sq.2 r0 (by simp);obtain⟨a,hd,_,ha⟩:=rows.get' (k:=0) (r:=r0) rfl;refine Qy (n:=a) (xs:=r0.map D.int) (λk d=>.int (r0.getD k 0*sgn (ZJ n (Yd (r0::M') 0 k)) k)) (λK hK=>?_) ha (by simp;lia) (λk x hx S2 K p2 hK=>?_) ?_
    ·show dOp wIx (WA 0) (dC (D.int 0)) [some (.ref m)] S λx S1=>K [x] S1
     exact Ki hm hd hK
    ·have hk:k<n+1:=by
      have:=(zF.mp hx).1;simpa [lr] using this
     obtain rfl:=Lb hx;show TK [.ref m,.int 0,.int (k:Int)] S2 (λy S3=>Qw (.int (r0.getD k 0)) y S3 K) (λ_ _=>False);refine⟨r0::M',0,k,n,by lia,rfl,rfl,zL _,by lia,(show YH S m (r0::M') from ⟨ds,hm,rows⟩).pre p2,sq,big,?_⟩;refine⟨ME sq big (by lia) (by lia),?_⟩;rw[Nat.zero_add];exact hK
    ·refine QI (Zv _ _) (Kr n r0 M') ?_;exact⟨Pre.refl.push,.int _,h⟩
  ·exact h.elim⟩))
def zaS (Xm:Df K mg q13 UK Xy)(Wy:Fk P w K mg base 1 q73 Ug Ta)(WJ:Fk P w K mg base 3 q9 Xg PL)(Wi:Fk P w K mg base 1 q47 Ud Rw):Fk P w K mg base 4 q13 Xy TQ:=
 Xm.mk' (Xk (Zy (k:=3) Xm.F M3 (Xh AU) λ_ _ _ _ _ _ hr=>⟨_,(Zg (Zp (Zi Wy hr (Za (Zi WJ hr (Za (Zi Wi hr (Za (dv 0) (Za (dv 1) (Za (dv 2) Ze)))) Ze)) (Za (Zf ZU (dv 1) (dv 2)) Ze))))),λds S Q ex h=>by
  obtain⟨Q0,ex0,rfl,rfl,h⟩:=h;unfold TQ at h;split at h
  ·rename_i m r c;obtain⟨M,i,j,n,hn,rfl,rfl,hi,hj,hm,sq,big,h⟩:=h;refine⟨M,i,j,n,rfl,rfl,hm,sq,by lia,hi,hj,λT k pt mt=>?_⟩;refine⟨Yd M i j,n,hn,mt,V0 sq hi hj,big.minor i j,?_⟩;exact⟨i+j,by lia,pt,.int _,h⟩
  ·exact h.elim⟩))
def zd2 (YU:Df K mg q9 Wc Xg)(XT:Fk P w K mg base 4 q13 Xy TQ)(YD:mg "sum"=none)(YE:mg UD=none)(ZC:mg "len"=none):Fk P w K mg base 5 q9 Xg Pk:=
 YU.mk' (Xk (Zy (k:=4) YU.F RZ (Xh zeK) λ_ _ _ _ _ _ hr=>⟨_,(Zh (ZL (ZN (ZY hr) (ZR (ZO Z4) rfl ZC Boot.«len» (Za (dv 0) Ze)) Zd (ZI _)) (Zg (Zp Zd)) ZP) (Zg (Zp (ZR (ZO (Sl rfl)) rfl YD Boot.«sum» (Za (TY (x1:="column") (x2:="entry") (N:=["matrix"]) (caps:=[0]) (ar:=Zj Wc) rfl rfl WY rfl rfl rfl (by decide) rfl YE Boot.«enumerate» (Za (Zk (dv 0) Zd) Ze) (λ_ _ _ _ _ _=>(Zf ZW (dv 1) (Zi XT hr (Za (dv 2) (Za Zd (Za (dv 0) Ze))))))) Ze))))),λds S Q ex h=>by
  obtain⟨Q0,ex0,rfl,rfl,h⟩:=h;unfold Pk at h;split at h
  ·rename_i m;obtain⟨M,n,hn,⟨ds,hm,rows⟩,sq,big,h⟩:=h;have lm:ds.length=n:=by rw[rows.len];exact sq.1
   refine Yc hm ?_;refine ifD (λe=>?_) (λe=>?_)
   ·have n0:n=0:=by lia
    subst n0;exact⟨Pre.refl,.int _,h⟩
   ·obtain⟨n,rfl⟩:∃k,n=k+1:=⟨n-1,by lia⟩;obtain⟨r0,M',rfl⟩:∃r M',M=r::M':=by
     match M,sq.1 with
     | r::M',_=>exact⟨r,M',rfl⟩
    have lr:r0.length=n+1:=sq.2 r0 (by simp);obtain⟨a,hd,_,ha⟩:=rows.get' (k:=0) (r:=r0) rfl;refine Qy (n:=a) (xs:=r0.map D.int) (λk d=>.int (r0.getD k 0*sgn (ZJ n (Yd (r0::M') 0 k)) k)) (λK hK=>?_) ha (by simp;lia) (λk x hx S2 K p2 hK=>?_) ?_
    ·show dOp wIx (WA 0) (dC (D.int 0)) [some (.ref m)] S λx S1=>K [x] S1
     exact Ki hm hd hK
    ·have hk:k<n+1:=by
      have:=(zF.mp hx).1;simpa [lr] using this
     obtain rfl:=Lb hx;show TQ [.ref m,.int 0,.int (k:Int)] S2 (λy S3=>Qw (.int (r0.getD k 0)) y S3 K) (λ_ _=>False);refine⟨r0::M',0,k,n,by lia,rfl,rfl,zL _,by lia,(show YH S m (r0::M') from ⟨ds,hm,rows⟩).pre p2,sq,big,?_⟩;refine⟨ME sq big (by lia) (by lia),?_⟩;rw[Nat.zero_add];exact hK
    ·refine QI (Zv _ _) (Kr n r0 M') ?_;exact⟨Pre.refl.push,.int _,h⟩
  ·exact h.elim⟩))
def zei (Xm:Df K mg q13 UK Xy)(Wy:Fk P w K mg base 1 q73 Ug Ta)(WJ:Fk P w K mg base 5 q9 Xg Pk)(Wi:Fk P w K mg base 1 q47 Ud Rw):Fk P w K mg base 6 q13 Xy Tx:=
 Xm.mk' (Xk (Zy (k:=5) Xm.F M3 (Xh zcJ) λ_ _ _ _ _ _ hr=>⟨_,(Zg (Zp (Zi Wy hr (Za (Zi WJ hr (Za (Zi Wi hr (Za (dv 0) (Za (dv 1) (Za (dv 2) Ze)))) Ze)) (Za (Zf ZU (dv 1) (dv 2)) Ze))))),λds S Q ex h=>by
  obtain⟨Q0,ex0,rfl,rfl,h⟩:=h;unfold Tx at h;split at h
  ·rename_i m r c;obtain⟨M,i,j,n,hn,rfl,rfl,hi,hj,hm,sq,big,h⟩:=h;refine⟨M,i,j,n,rfl,rfl,hm,sq,by lia,hi,hj,λT k pt mt=>?_⟩;refine⟨Yd M i j,n,hn,mt,V0 sq hi hj,big.minor i j,?_⟩;exact⟨i+j,by lia,pt,.int _,h⟩
  ·exact h.elim⟩))
def zaG (YU:Df K mg q9 Wc Xg)(XT:Fk P w K mg base 6 q13 Xy Tx)(YD:mg "sum"=none)(YE:mg UD=none)(ZC:mg "len"=none):Fk P w K mg base 7 q9 Xg Of:=
 YU.mk' (Xk (Zy (k:=6) YU.F RZ (Xh zbk) λ_ _ _ _ _ _ hr=>⟨_,(Zh (ZL (ZN (ZY hr) (ZR (ZO Z4) rfl ZC Boot.«len» (Za (dv 0) Ze)) Zd (ZI _)) (Zg (Zp Zd)) ZP) (Zg (Zp (ZR (ZO (Sl rfl)) rfl YD Boot.«sum» (Za (TY (x1:="column") (x2:="entry") (N:=["matrix"]) (caps:=[0]) (ar:=Zj Wc) rfl rfl WY rfl rfl rfl (by decide) rfl YE Boot.«enumerate» (Za (Zk (dv 0) Zd) Ze) (λ_ _ _ _ _ _=>(Zf ZW (dv 1) (Zi XT hr (Za (dv 2) (Za Zd (Za (dv 0) Ze))))))) Ze))))),λds S Q ex h=>by
  obtain⟨Q0,ex0,rfl,rfl,h⟩:=h;unfold Of at h;split at h
  ·rename_i m;obtain⟨M,n,hn,⟨ds,hm,rows⟩,sq,big,h⟩:=h;have lm:ds.length=n:=by rw[rows.len];exact sq.1
   refine Yc hm ?_;refine ifD (λe=>?_) (λe=>?_)
   ·have n0:n=0:=by lia
    subst n0;exact⟨Pre.refl,.int _,h⟩
   ·obtain⟨n,rfl⟩:∃k,n=k+1:=⟨n-1,by lia⟩;obtain⟨r0,M',rfl⟩:∃r M',M=r::M':=by
     match M,sq.1 with
     | r::M',_=>exact⟨r,M',rfl⟩
    have lr:r0.length=n+1:=sq.2 r0 (by simp);obtain⟨a,hd,_,ha⟩:=rows.get' (k:=0) (r:=r0) rfl;refine Qy (n:=a) (xs:=r0.map D.int) (λk d=>.int (r0.getD k 0*sgn (ZJ n (Yd (r0::M') 0 k)) k)) (λK hK=>?_) ha (by simp;lia) (λk x hx S2 K p2 hK=>?_) ?_
    ·show dOp wIx (WA 0) (dC (D.int 0)) [some (.ref m)] S λx S1=>K [x] S1
     exact Ki hm hd hK
    ·have hk:k<n+1:=by
      have:=(zF.mp hx).1;simpa [lr] using this
     obtain rfl:=Lb hx;show Tx [.ref m,.int 0,.int (k:Int)] S2 (λy S3=>Qw (.int (r0.getD k 0)) y S3 K) (λ_ _=>False);refine⟨r0::M',0,k,n,by lia,rfl,rfl,zL _,by lia,(show YH S m (r0::M') from ⟨ds,hm,rows⟩).pre p2,sq,big,?_⟩;refine⟨ME sq big (by lia) (by lia),?_⟩;rw[Nat.zero_add];exact hK
    ·refine QI (Zv _ _) (Kr n r0 M') ?_;exact⟨Pre.refl.push,.int _,h⟩
  ·exact h.elim⟩))
def zbS (Xm:Df K mg q13 UK Xy)(Wy:Fk P w K mg base 1 q73 Ug Ta)(WJ:Fk P w K mg base 7 q9 Xg Of)(Wi:Fk P w K mg base 1 q47 Ud Rw):Fk P w K mg base 8 q13 Xy UO:=
 Xm.mk' (Xk (Zy (k:=7) Xm.F M3 (Xh zaT) λ_ _ _ _ _ _ hr=>⟨_,(Zg (Zp (Zi Wy hr (Za (Zi WJ hr (Za (Zi Wi hr (Za (dv 0) (Za (dv 1) (Za (dv 2) Ze)))) Ze)) (Za (Zf ZU (dv 1) (dv 2)) Ze))))),λds S Q ex h=>by
  obtain⟨Q0,ex0,rfl,rfl,h⟩:=h;unfold UO at h;split at h
  ·rename_i m r c;obtain⟨M,i,j,n,hn,rfl,rfl,hi,hj,hm,sq,big,h⟩:=h;refine⟨M,i,j,n,rfl,rfl,hm,sq,by lia,hi,hj,λT k pt mt=>?_⟩;refine⟨Yd M i j,n,hn,mt,V0 sq hi hj,big.minor i j,?_⟩;exact⟨i+j,by lia,pt,.int _,h⟩
  ·exact h.elim⟩))
def Bl (YU:Df K mg q9 Wc Xg)(XT:Fk P w K mg base 8 q13 Xy UO)(YD:mg "sum"=none)(YE:mg UD=none)(ZC:mg "len"=none):Fk P w K mg base 9 q9 Xg PZ:=
 YU.mk' (Xk (Zy (k:=8) YU.F RZ (Xh AG) λ_ _ _ _ _ _ hr=>⟨_,(Zh (ZL (ZN (ZY hr) (ZR (ZO Z4) rfl ZC Boot.«len» (Za (dv 0) Ze)) Zd (ZI _)) (Zg (Zp Zd)) ZP) (Zg (Zp (ZR (ZO (Sl rfl)) rfl YD Boot.«sum» (Za (TY (x1:="column") (x2:="entry") (N:=["matrix"]) (caps:=[0]) (ar:=Zj Wc) rfl rfl WY rfl rfl rfl (by decide) rfl YE Boot.«enumerate» (Za (Zk (dv 0) Zd) Ze) (λ_ _ _ _ _ _=>(Zf ZW (dv 1) (Zi XT hr (Za (dv 2) (Za Zd (Za (dv 0) Ze))))))) Ze))))),λds S Q ex h=>by
  obtain⟨Q0,ex0,rfl,rfl,h⟩:=h;unfold PZ at h;split at h
  ·rename_i m;obtain⟨M,n,hn,⟨ds,hm,rows⟩,sq,big,h⟩:=h;have lm:ds.length=n:=by rw[rows.len];exact sq.1
   refine Yc hm ?_;refine ifD (λe=>?_) (λe=>?_)
   ·have n0:n=0:=by lia
    subst n0;exact⟨Pre.refl,.int _,h⟩
   ·obtain⟨n,rfl⟩:∃k,n=k+1:=⟨n-1,by lia⟩;obtain⟨r0,M',rfl⟩:∃r M',M=r::M':=by
     match M,sq.1 with
     | r::M',_=>exact⟨r,M',rfl⟩
    have lr:r0.length=n+1:=sq.2 r0 (by simp);obtain⟨a,hd,_,ha⟩:=rows.get' (k:=0) (r:=r0) rfl;refine Qy (n:=a) (xs:=r0.map D.int) (λk d=>.int (r0.getD k 0*sgn (ZJ n (Yd (r0::M') 0 k)) k)) (λK hK=>?_) ha (by simp;lia) (λk x hx S2 K p2 hK=>?_) ?_
    ·show dOp wIx (WA 0) (dC (D.int 0)) [some (.ref m)] S λx S1=>K [x] S1
     exact Ki hm hd hK
    ·have hk:k<n+1:=by
      have:=(zF.mp hx).1;simpa [lr] using this
     obtain rfl:=Lb hx;show UO [.ref m,.int 0,.int (k:Int)] S2 (λy S3=>Qw (.int (r0.getD k 0)) y S3 K) (λ_ _=>False);refine⟨r0::M',0,k,n,by lia,rfl,rfl,zL _,by lia,(show YH S m (r0::M') from ⟨ds,hm,rows⟩).pre p2,sq,big,?_⟩;refine⟨ME sq big (by lia) (by lia),?_⟩;rw[Nat.zero_add];exact hK
    ·refine QI (Zv _ _) (Kr n r0 M') ?_;exact⟨Pre.refl.push,.int _,h⟩
  ·exact h.elim⟩))
def Ax  (M5:Df K mg q16 NB R9)(XT:Fk P w K mg base 8 q13 Xy UO):Fk P w K mg base 9 q16 R9 Fd:=
 M5.mk' (Zy (k:=8) M5.F zbT (λ_ _ _ _=>nR λ_=>nI λ_=>nI λ_=>nI λ_=>nI λ_=>nN:Ln (Fd) 5) λ_ _ _ _ _ _ hr=>⟨_,(Zg (Zp (Zf DY (Zf ZW (Zf ZW (Zi XT hr (Za (dv 0) (Za (dv 3) (Za (dv 2) Ze)))) (dv 4)) (dv 4)) (dv 1)))),λds S Q ex h=>by
  replace h:=zaY h;obtain⟨m,w,r,c,g,rfl,h⟩:=h;obtain⟨M,i,j,n,hn,rfl,rfl,hi,hj,hm,sq,big,hw,hg,h⟩:=h;refine⟨M,j,i,n,hn,rfl,rfl,hj,hi,hm,sq,big,?_⟩;have e2:Sz 4140 (sgn (ZJ n (Yd M j i)) (j+i)):=JK (IU (V0 sq hj hi) (big.minor j i) (by lia))
  have eg:Sz 20 g:=Sz.of 1000000 (by lia);refine⟨ZV e2 eg,ZV (e2.mul eg) eg,⟨hw.1,hw.2.log hw.1⟩,?_⟩;exact h⟩)
def zbi  (Kl:Df K mg q32 Qo R4)(GI:Fk P w K mg base 9 q16 R9 Fd)(ZM:mg Xz=none)(ZC:mg "len"=none):Fk P w K mg base 10 q32 R4 FO:=
 Kl.mk' (Zy (k:=9) Kl.F AM (λ_ _ _ _=>nR λ_=>nI λ_=>nI λ_=>nI λ_=>nN:Ln (FO) 4) λ_ _ _ _ _ _ hr=>⟨_,(Zg (Zp (Vu (x:="column") (N:=["matrix","whole","row","grid"]) (caps:=[0,1,2,3]) (ar:=Zj Qo) rfl rfl csc rfl (by decide) rfl ZM (Za (ZR (ZO Z4) rfl ZC Boot.«len» (Za (dv 0) Ze)) Ze) (λ_ _ _ _ _ _=>Yt) (λ_ _ _ _ _ _=>(Zi GI hr (Za (dv 1) (Za (dv 2) (Za (dv 3) (Za (dv 0) (Za (dv 4) Ze)))))))))),λds S Q ex h=>by
  replace h:=DM h;obtain⟨m,w,r,g,rfl,h⟩:=h;obtain⟨M,i,n,hn,rfl,hi,hm,sq,big,hw,hg,h⟩:=h;obtain⟨ds,hds,rows⟩:=id hm;have lm:ds.length=n+1:=by rw[rows.len];exact sq.1
  refine Vi (j:=((n+1:Nat):Int)) (S1:=S) (λk=>.int (VW M n w g i k)) (λK hK=>?_) (by lia) (λk hk S2 K p2 hK=>?_) ?_
  ·refine Yc hds ?_;rw[lm];exact hK
  ·exact⟨M,i,k,n,hn,rfl,rfl,hi,by lia,hm.pre p2,sq,big,hw,hg,hK⟩
  ·have e:(List.range ((n+1:Nat):Int).toNat).map (λk=>D.int (VW M n w g i k))=(Vg M n w g i).map D.int:=by
    unfold Vg;rw[zU];rfl
   rw[e];exact h⟩)
def AX  (LB:Df K mg q77 Qg Ot)(IT:Fk P w K mg base 10 q32 R4 FO)(WJ:Fk P w K mg base 9 q9 Xg PZ)(ZM:mg Xz=none)(ZC:mg "len"=none):Fk P w K mg base 11 q77 Ot Fw:=
 LB.mk' (Zy (k:=10) LB.F EI (λ_ _ _ _=>nR λ_=>nI λ_=>nN:Ln (Fw) 2) λ_ _ _ _ _ _ hr=>⟨_,(Zh (Wh (i:=2) EI.nd rfl (Or.inr rfl) (Zi WJ hr (Za (dv 0) Ze))) (Zh (ZL (ZN (ZY hr) (dv 2) Zd (ZI _)) (Zg (Zp Wq)) ZP) (Zg (Zp (Vu (x:="row") (N:=["matrix","whole","grid"]) (caps:=[0,2,1]) (ar:=Zj Qg) rfl rfl csc rfl (by decide) rfl ZM (Za (ZR (ZO Z4) rfl ZC Boot.«len» (Za (dv 0) Ze)) Ze) (λ_ _ _ _ _ _=>Yt) (λ_ _ _ _ _ _=>(Zi IT hr (Za (dv 1) (Za (dv 2) (Za (dv 0) (Za (dv 3) Ze))))))))))),λds S Q ex h=>by
  replace h:=eRI h;obtain⟨m,g,rfl,h⟩:=h;obtain⟨M,n,hn,hm,sq,big,hg,h0,h1⟩:=h;obtain⟨ds,hds,rows⟩:=id hm;have lm:ds.length=n+1:=by rw[rows.len];exact sq.1
  refine⟨M,n+1,by lia,hm,sq,big,?_⟩;refine ifD (c:=ZJ (n+1) M=0) (λc=>?_) (λc=>?_)
  ·exact h0 c
  ·refine zes (j:=n+1) (T0:=S) (Vg M n (ZJ (n+1) M) g) (λK hK=>?_) (by lia) (λk S2 K hk p2 hK=>?_) (λS2 ys p2 e2 r2=>?_)
   ·refine Yc hds ?_;rw[lm];exact hK
   ·refine⟨M,k,n,hn,rfl,by lia,hm.pre p2,sq,big,⟨c,IU sq big (by lia)⟩,hg,?_⟩;exact hK _ _ Pre.refl.push (zD _) (Zv _ _)
   ·exact h1 c S2 _ p2 ⟨ys,e2,r2⟩⟩)
def zcE  (Lr:Df K mg q98 KJ RP):Fk P w K mg base 1 q98 RP IH:=
 Lr.mk' (Zy (k:=0) Lr.F zcl (λ_ _ _ _=>nP λ_ _=>nN:Ln (IH) 1) λ_ _ _ _ _ _ hr=>⟨_,(Zg (Zp (Zf Ym (Zf ZU (Zk (dv 0) Zd) (Zk (dv 0) Zd)) Zd))),λds S Q ex h=>by
  replace h:=eP h;obtain⟨_,_,rfl,h⟩:=h;exact h⟩)
def zaD  (L8:Df K mg XZ RC Sh)(HE:Fk P w K mg base 1 q98 RP IH):Fk P w K mg base 2 XZ Sh Jd:=
 L8.mk' (Zy (k:=1) L8.F zbe (λ_ _ _ _=>nR λ_=>nN:Ln (Jd) 1) λ_ _ _ _ _ _ hr=>⟨_,(Zg (Zp (WU (x:="span") (N:=[]) (caps:=[]) (ar:=Zj RC) rfl rfl csc rfl (by decide) (dv 0) (λ_ _ _ _ _ _=>Yt) (λ_ _ _ _ _ _=>(Zi HE hr (Za (dv 0) Ze)))))),λds S Q ex h=>by
  replace h:=eR h;obtain⟨s,rfl,h⟩:=h;obtain⟨vs,hs,l9,h⟩:=h;refine Wz (n:=s) (S1:=S) (o:=.lst (vs.map frD)) (λd=>match d with|.tup [.int a,.int b]=>.int ((a+b)/2)|_=>.non) (λK hK=>by exact hK) hs (by show (vs.map frD).length<=1000;rw[zA];lia) (λx hx S2 K pr hK=>?_) ?_
  ·have hx':x∈vs.map frD:=hx;obtain⟨p,_,rfl⟩:=zH.mp hx';exact hK
  ·have e2:(Zu (.lst (vs.map frD))).map (λd=>match d with|.tup [.int a,.int b]=>.int ((a+b)/2)|_=>.non)=vs.map λp=>D.int (mid p):=by
    show (vs.map frD).map _=_;rw[zU];rfl
   rw[e2];exact h⟩)
def zae  (Lg:Df K mg q25 Px SI)(Tu:Fk P w K mg base 2 XZ Sh Jd):Fk P w K mg base 3 q25 SI Mc:=
 Lg.mk' (Zy (k:=2) Lg.F zde (λ_ _ _ _=>nR λ_=>nN:Ln (Mc) 1) λ_ _ _ _ _ _ hr=>⟨_,(Zg (Zp (WU (x:="place") (N:=[]) (caps:=[]) (ar:=Zj Px) rfl rfl csc rfl (by decide) (Zi Tu hr (Za (dv 0) Ze)) (λ_ _ _ _ _ _=>Yt) (λ_ _ _ _ _ _=>(ZX (Za (dv 0) (Za (dv 0) Ze))))))),λds S Q ex h=>by
  replace h:=eR h;obtain⟨b,rfl,h⟩:=h;obtain⟨vs,hb,l9,h⟩:=h;refine Wz (n:=S.length) (S1:=S++[.lst (vs.map λp=>.int (mid p))]) (o:=.lst (vs.map λp=>.int (mid p))) (λd=>.tup [d,d]) (λK hK=>⟨vs,hb,l9,hK⟩) (Zv _ _) (by show (vs.map _).length<=1000;rw[zA];lia) (λx hx S2 K pr hK=>by exact hK) ?_;refine h _ _ Pre.refl.push.push (by simp) ?_;have e:(Zu (.lst (vs.map λp=>D.int (mid p)))).map (λd=>D.tup [d,d])=(vs.map ZF).map frD:=by
   show (vs.map λp=>D.int (mid p)).map _=_;rw[zU];rw[zU];rfl
  rw[e];exact Zv _ _⟩)
def AO  (NC:Df K mg q20 Kj SW)(XI:Fk P w K mg base 1 q28 Vw UM)(X8:Fk P w K mg base 2 q31 VT To)(YB:mg "zip"=none):Fk P w K mg base 3 q20 SW K6:=
 NC.mk' (Zy (k:=2) NC.F JI (λ_ _ _ _=>nR λ_=>nR λ_=>nI λ_=>nN:Ln (K6) 3) λ_ _ _ _ _ _ hr=>⟨_,(Zh (ZD (i:=3) JI.nd (ZX (Za Zd (Za Zd Ze)))) (Zh (Bp (is:=[4,5]) PassesOwn.never rfl JI.nd (Nms.cons (i:=4) rfl (Or.inl rfl) (by first|exact .inl rfl|exact .inr rfl) (Nms.cons (i:=5) rfl (Or.inl rfl) (by first|exact .inl rfl|exact .inr rfl) Nms.nil)) rfl rfl YB Boot.«zip» (Za (dv 0) (Za (dv 1) Ze)) (Zg (ZD (i:=3) JI.nd (Zi XI hr (Za (dv 3) (Za (Zi X8 hr (Za (dv 4) (Za (dv 5) (Za (dv 2) Ze)))) Ze)))))) (Zg (Zp (dv 3))))),λds S Q ex h=>by
  replace h:=Q9 h;obtain⟨a,b,g,rfl,h⟩:=h;obtain⟨us,vs,ha,hb,l6,z1,z2,hg,h⟩:=h;have sg:Sz 21 g:=Sz.of 1000000 (by lia);refine CW (n:=a) (n':=b) (xs:=us.map frD) (ys:=vs.map frD) (S:=S) (λk dl'=>∃u1 u2:Option D,dl'=[some (.ref a),some (.ref b),some (.int g),some (frD (sumP g (us.take k) (vs.take k))),u1,u2]) (λK hK=>by exact hK) ha hb ⟨_,_,rfl⟩ ?_ ?_
  ·rintro k x y dl' nx ct hx hy ⟨u1,u2,rfl⟩ hn;rw[zG] at hx hy;obtain⟨p,hp,rfl⟩:=zP.mp hx;obtain⟨r,hr,rfl⟩:=zP.mp hy;have zp:=z1 _ (zN hp)
   have zr:=z2 _ (zN hr);refine⟨⟨⟨ZV zp.1 zr.1,ZV zp.1 zr.2,ZV zp.2 zr.1,ZV zp.2 zr.2⟩,sg.fd (by lia)⟩,λmn mx hc=>?_⟩;obtain⟨rfl,rfl⟩:=hc.eq;refine hn _ ⟨some (frD p),some (frD r),?_⟩;rw[UI g us vs k hp hr];rfl
  ·rintro dl' ⟨u1,u2,rfl⟩;rw[zA,zA,Hx];exact h⟩)
def zaF  (L0:Df K mg We RH Oc)(X5:Fk P w K mg base 1 q23 VO Tj)(U2:Fk P w K mg base 3 q20 SW K6):Fk P w K mg base 4 We Oc GQ:=
 L0.mk' (Xk (Zy (k:=3) L0.F Iq (Xh (λ_ _ _ _=>nI λ_=>nI λ_=>nR λ_=>nR λ_=>nI λ_=>nN:Ln (GQ) 5)) λ_ _ _ _ _ _ hr=>⟨_,(Zh (ZD (i:=5) Iq.nd (Iy (ZN (ZY hr) (dv 0) (dv 1) (ZI _)) (ZX (Za (dv 4) (Za (dv 4) Ze))) (ZX (Za Zd (Za Zd Ze))))) (Zh (U5 (x:="slant") (N:=["column"]) (caps:=[1]) (ar:=Zj RH) rfl rfl csc rfl (by decide) (i:=6) Iq.nd rfl rfl (dv 3) (λ_ _ _ _ _ _=>Yt) (λ_ _ _ _ _ _=>(ZE (dv 0) (dv 1)))) (Zg (Zp (Zi X5 hr (Za (dv 5) (Za (Zi U2 hr (Za (dv 2) (Za (dv 6) (Za (dv 4) Ze)))) Ze))))))),λds S Q ex h=>by
  obtain⟨Q0,ex0,rfl,rfl,h⟩:=h;replace h:=A7 h;obtain⟨k,c,t,s,g,rfl,h⟩:=h;obtain⟨q,kn,cn,ts,R,ds,rfl,rfl,ht,hs,rows,zr,hc,l6,r6,z1,hg,h⟩:=h;have tail:∀aV:Int×Int,aV=(if kn=cn then (g,g) else (0,0))->∀K:DK,K (frD (YI g kn cn ts R)) (S++[.lst ((R.map λr=>r.getD cn (0,0)).map frD)])->True:=λ_ _ _ _=>trivial
  have col:∀(k:Nat)(r:LI),R[k]?=some r->atI (r.map frD) ((cn:Nat):Int)=some (frD (r.getD cn (0,0))):=λk r hr=>by
   have hl:=(zr r (zN hr)).1
   have z:=Z5 (vs:=r) (i:=((cn:Nat):Int)) ⟨by lia,by rw[hl];lia⟩;rw[z];have e:gt r ((cn:Nat):Int)=r.getD cn (0,0):=by
    have ll:cn<r.length:=by rw[hl];exact hc
    unfold gt;rw[zJ];simp[ll]
   rw[e]
  have bd:Bd 20000 (R.map λr=>r.getD cn (0,0)):=λp hp=>by
   obtain⟨r,hr,er⟩:=zH.mp hp;subst er;obtain⟨hl,b⟩:=zr r hr;have ll:cn<r.length:=by rw[hl];exact hc
   have e:r.getD cn (0,0)=r[cn]:=by simp[ll]
   rw[e];exact⟨(b _ (zZ ll)).1.mono (by decide),(b _ (zZ ll)).2.mono (by decide)⟩
  have Yz:∀aV:Int×Int,aV=(if kn=cn then (g,g) else (0,0))->Gc S Q0 (.tup [.int (aV.1-(sumP g ts (R.map λr=>r.getD cn (0,0))).2),.int (aV.2-(sumP g ts (R.map λr=>r.getD cn (0,0))).1)]) (S++[.lst ((R.map λr=>r.getD cn (0,0)).map frD)]):=λaV e=>by
   subst e;exact⟨Pre.refl.push,VQ,h⟩
  refine ifD (λe=>?_) (λe=>?_)
  ·refine Co (n:=s) (S1:=S) (o:=.lst ds) (λk d=>∃r,R[k]?=some r/\d=frD (r.getD cn (0,0))) (λK hK=>by exact hK) hs (by show ds.length<=1000;rw[rows.1];lia) (λk x hx S2 K pr hK=>?_) (λxs lx hx=>?_)
   ·have hx':ds[k]?=some x:=hx
    have hk:k<R.length:=by
     have:=(zF.mp hx').1;rw[rows.1] at this;exact this
    obtain⟨a,rfl,_,ha⟩:=rows.2 k x _ hx' (zC hk);refine Zw (o:=.lst _) (pr _ _ ha) (col k _ (zC hk)) ?_;exact hK _ ⟨_,zC hk,rfl⟩
   ·have e2:xs=(R.map λr=>r.getD cn (0,0)).map frD:=by
     refine xW λk=>?_
     by_cases hk:k<xs.length
     ·obtain⟨r,hr,e⟩:=hx k _ (zC hk);rw[zC hk,zG,zG,hr,e];rfl
     ·have lx':xs.length=R.length:=by rw[lx];exact rows.1
      rw[yT (by lia),yT (by simp;lia)]
    subst e2;refine⟨ts,_,ZA ht,Zv _ _,l6,z1,bd,hg,?_⟩;exact Yz (g,g) (by rw[if_pos (by lia)])
  ·refine Co (n:=s) (S1:=S) (o:=.lst ds) (λk d=>∃r,R[k]?=some r/\d=frD (r.getD cn (0,0))) (λK hK=>by exact hK) hs (by show ds.length<=1000;rw[rows.1];lia) (λk x hx S2 K pr hK=>?_) (λxs lx hx=>?_)
   ·have hx':ds[k]?=some x:=hx
    have hk:k<R.length:=by
     have:=(zF.mp hx').1;rw[rows.1] at this;exact this
    obtain⟨a,rfl,_,ha⟩:=rows.2 k x _ hx' (zC hk);refine Zw (o:=.lst _) (pr _ _ ha) (col k _ (zC hk)) ?_;exact hK _ ⟨_,zC hk,rfl⟩
   ·have e2:xs=(R.map λr=>r.getD cn (0,0)).map frD:=by
     refine xW λk=>?_
     by_cases hk:k<xs.length
     ·obtain⟨r,hr,e⟩:=hx k _ (zC hk);rw[zC hk,zG,zG,hr,e];rfl
     ·have lx':xs.length=R.length:=by rw[lx];exact rows.1
      rw[yT (by lia),yT (by simp;lia)]
    subst e2;refine⟨ts,_,ZA ht,Zv _ _,l6,z1,bd,hg,?_⟩;exact Yz (0,0) (by rw[if_neg (by lia)])⟩))
def B9  (NL:Df K mg Wf UB Qe)(XI:Fk P w K mg base 1 q28 Vw UM)(U2:Fk P w K mg base 3 q20 SW K6)(X5:Fk P w K mg base 1 q23 VO Tj)(Ga:Fk P w K mg base 4 We Oc GQ)(SQ:Fk P w K mg base 3 q25 SI Mc)(YB:mg "zip"=none)(ZM:mg Xz=none)(ZC:mg "len"=none):Fk P w K mg base 5 Wf Qe Hg:=
 NL.mk' (Xk (Zy (k:=4) NL.F Rr (Xh (λ_ _ _ _=>nI λ_=>nR λ_=>nI λ_=>nR λ_=>nR λ_=>nR λ_=>nN:Ln (Hg) 6)) λ_ _ _ _ _ _ hr=>⟨_,(Zh (Wh (i:=6) Rr.nd rfl (Or.inr rfl) (WU (x:="entry") (N:=[]) (caps:=[]) (ar:=Zj UB) rfl rfl csc rfl (by decide) (dv 3) (λ_ _ _ _ _ _=>Yt) (λ_ _ _ _ _ _=>(ZX (Za (dv 0) (Za (dv 0) Ze)))))) (Zh (ZD (i:=7) Rr.nd (Zi SQ hr (Za (dv 1) Ze))) (Zh (ZD (i:=8) Rr.nd (Zi X5 hr (Za (ZE (dv 7) (dv 0)) (Za (Zi U2 hr (Za (dv 6) (Za (dv 4) (Za (dv 2) Ze)))) Ze)))) (Zh (OV (x:="column") (N:=["k","turns","slants","grid"]) (caps:=[0,6,5,2]) (ar:=Zj UB) rfl rfl csc rfl (by decide) (i:=9) Rr.nd rfl rfl rfl ZM (Za (ZR (ZO Z4) rfl ZC Boot.«len» (Za (dv 1) Ze)) Ze) (λ_ _ _ _ _ _=>Yt) (λ_ _ _ _ _ _=>(Zi Ga hr (Za (dv 1) (Za (dv 0) (Za (dv 2) (Za (dv 3) (Za (dv 4) Ze)))))))) (Zh (BR (x1:="span") (x2:="centre") (N:=[]) (caps:=[]) (ar:=Zj UB) rfl rfl WY rfl rfl rfl (by decide) (i:=10) Rr.nd rfl rfl rfl YB Boot.«zip» (Za (dv 1) (Za (dv 7) Ze)) (λ_ _ _ _ _ _=>(Zi X5 hr (Za (dv 0) (Za (dv 1) Ze))))) (Zg (Zp (Zi XI hr (Za (dv 8) (Za (Zi U2 hr (Za (dv 9) (Za (dv 10) (Za (dv 2) Ze)))) Ze)))))))))),λds S Q ex h=>by
  obtain⟨Q0,ex0,rfl,rfl,h⟩:=h;replace h:=zay h;obtain⟨ki,b,g,e,t,s,rfl,h⟩:=h;obtain⟨k,box,aC,es,R,ds,rfl,hk,he,e4,ze,hb,ht,hs,rows,zr,bl,r4,t4,zb,zt,hg,h⟩:=h;have bdE:Bd 20000 (es.map λx=>(x,x)):=λp hp=>by
   obtain⟨x,hx,rfl⟩:=zH.mp hp;exact⟨(ze x hx).mono (by decide),(ze x hx).mono (by decide)⟩
  have bdT:Bd 20000 aC:=λp hp=>⟨(zt p hp).1.mono (by decide),(zt p hp).2.mono (by decide)⟩
  have lE:(es.map λx=>(x,x)).length<=60:=by rw[zA];lia
  refine Wz (n:=e) (S1:=S) (o:=.lst (es.map D.int)) (λd=>.tup [d,d]) (λK hK=>by exact hK) he (by show (es.map D.int).length<=1000;rw[zA];lia) (λx hx S2 K pr hK=>by exact hK) ?_;have eE:(Zu (.lst (es.map D.int))).map (λd=>D.tup [d,d])=(es.map λx=>(x,x)).map frD:=by
   show (es.map D.int).map _=_;rw[zU];rw[zU];rfl
  rw[eE];have T0:=Zv S (.lst ((es.map λx=>(x,x)).map frD));refine⟨box,ZA hb,by lia,λT m pr lm hm=>?_⟩;have P0:Pre S T:=λx o z=>pr _ _ (ZA z)
  have hT:=pr _ _ T0
  have kc:inR (((box.map ZF).length:Nat):Int) (k:Int):=⟨by lia,by rw[zA];lia⟩
  have ec:gt (box.map ZF) (k:Int)=ZF (gt box k):=by
   unfold gt;rw[zJ];simp[hk]
  have ac:=Z5 kc;rw[ec] at ac;refine Zw (o:=.lst ((box.map ZF).map frD)) hm ac ?_;refine⟨_,aC,hT,P0 _ _ ht,lE,bdE,bdT,hg,?_⟩;have lk:∀c:Nat,c<box.length->∀(S2:Sto)(K:DK),Pre T S2->K (frD (YI g k c (es.map λx=>(x,x)) R)) S2->∃(q kn cn:Nat)(ts:LI)(R':List LI)(ds':List D),((k:Nat):Int)=(kn:Nat)/\((c:Nat):Int)=(cn:Nat)/\S2[S.length]?=some (.lst (ts.map frD))/\S2[s]?=some (.lst ds')/\Z2 S2 0 ds' R'/\(∀r∈R',r.length=q/\Bd 2000 r)/\cn<q/\ts.length<=60/\R'.length<=60/\Bd 20000 ts/\(1<=g/\g<=1000000)/\K (frD (YI g kn cn ts R')) S2:=λc hc S2 K p2 hK=>⟨box.length,k,c,_,R,ds,rfl,rfl,p2 _ _ hT,p2 _ _ (P0 _ _ hs),rows.pre λx o z=>p2 _ _ (P0 _ _ z),zr,hc,lE,by lia,bdE,hg,hK⟩
  refine Vi (j:=((box.length:Nat):Int)) (S1:=T) (λc=>frD (YI g k c (es.map λx=>(x,x)) R)) (λK hK=>by
   refine Yc (P0 _ _ hb) ?_;rw[zA];exact hK) ⟨by lia,by lia⟩ (λc hc S2 K p2 hK=>lk c (by lia) S2 K p2 hK) ?_
  rw[zJ];have eL:((List.range box.length).map λc=>frD (YI g k c (es.map λx=>(x,x)) R))=((List.range box.length).map λc=>YI g k c (es.map λx=>(x,x)) R).map frD:=by
   rw[zU];rfl
  rw[eL];have T1:=Zv T (.lst (((List.range box.length).map λc=>YI g k c (es.map λx=>(x,x)) R).map frD));refine Pa (n:=b) (n':=m) (S1:=T++[.lst (((List.range box.length).map λc=>YI g k c (es.map λx=>(x,x)) R).map frD)]) (xs:=box.map frD) (ys:=(box.map ZF).map frD) (λx y=>match x,y with|.tup [.int a,.int b],.tup [.int c,.int d]=>.tup [.int (a-d),.int (b-c)]|_,_=>.non) (λK hK=>by exact hK) (ZA (P0 _ _ hb)) (ZA hm) (by rw[zA];lia) (λj x y hx hy S2 K p2 hK=>?_) ?_
  ·rw[zG] at hx hy;obtain⟨p,hp,rfl⟩:=zP.mp hx;obtain⟨r,hr,rfl⟩:=zP.mp hy;exact hK
  have eW:List.zipWith (λx y=>match x,y with|.tup [.int a,.int b],.tup [.int c,.int d]=>.tup [.int (a-d),.int (b-c)]|_,_=>.non) (box.map frD) ((box.map ZF).map frD)=(box.map λp=>Yu p (ZF p)).map frD:=by
   rw[zU,List.zipWith_map,zU,List.zipWith_self];rfl
  rw[eW];have zm:Bd 62 (box.map λp=>Yu p (ZF p)):=λp hp=>by
   obtain⟨x,hx,rfl⟩:=zH.mp hp;have z:=zb x hx
   have zmid:=Ej z.1 z.2;exact(Cm (B:=60) (C:=61) z ⟨zmid,zmid⟩).imp (λz=>z.mono (by decide)) (λz=>z.mono (by decide))
  have zl:Bd 20000 ((List.range box.length).map λc=>YI g k c (es.map λx=>(x,x)) R):=λp hp=>by
   obtain⟨c,hc,rfl⟩:=zH.mp hp;have hc':=xG.mp hc
   have bR:Bd 2000 (R.map λr=>r.getD c (0,0)):=λp hp=>by
    obtain⟨r,hr,er⟩:=zH.mp hp;subst er;obtain⟨hl,b⟩:=zr r hr;have ll:c<r.length:=by rw[hl];exact hc'
    have e:r.getD c (0,0)=r[c]:=by simp[ll]
    rw[e];exact b _ (zZ ll)
   have bE:Bd 4000 (es.map λx=>(x,x)):=λp hp=>by
    obtain⟨x,hx,rfl⟩:=zH.mp hp;exact⟨ze x hx,ze x hx⟩
   have z:=zcL hg.1 bE bR lE
   have sg:Sz 21 g:=Sz.of 1000000 (by lia);unfold YI;have w:Sz 21 (if k=c then (g,g) else (0,0)).1/\Sz 21 (if k=c then (g,g) else (0,0)).2:=by
    split
    ·exact⟨sg,sg⟩
    ·exact⟨yJ (by decide),yJ (by decide)⟩
   exact(Cm w z).imp (λz=>z.mono (by decide)) (λz=>z.mono (by decide))
  refine⟨_,_,ZA T1,Zv _ _,by rw[zA,xE];lia,zl,λp hp=>⟨(zm p hp).1.mono (by decide),(zm p hp).2.mono (by decide)⟩,hg,?_⟩;exact⟨λx o z=>ZA (ZA (P0 _ _ z)),VQ,h⟩⟩))
def By  (Lo:Df K mg XS Qf Rb)(II:Fk P w K mg base 5 Wf Qe Hg)(YE:mg UD=none):Fk P w K mg base 6 XS Rb MK:=
 Lo.mk' (Zy (k:=5) Lo.F AE (λ_ _ _ _=>nR λ_=>nI λ_=>nR λ_=>nR λ_=>nR λ_=>nN:Ln (MK) 5) λ_ _ _ _ _ _ hr=>⟨_,(Zg (Zp (TY (x1:="k") (x2:="entries") (N:=["box","grid","thin","slants"]) (caps:=[0,1,3,4]) (ar:=Zj Qf) rfl rfl WY rfl rfl rfl (by decide) rfl YE Boot.«enumerate» (Za (dv 2) Ze) (λ_ _ _ _ _ _=>(Zi II hr (Za (dv 0) (Za (dv 2) (Za (dv 3) (Za (dv 1) (Za (dv 4) (Za (dv 5) Ze))))))))))),λds S Q ex h=>by
  replace h:=zc2 h;obtain⟨b,g,u,t,s,rfl,h⟩:=h;obtain⟨box,aC,M,ms,R,ds,hu,mi,lM,zM,hb,ht,hs,rows,zr,bl,r4,t4,zb,zt,hg,h⟩:=h;refine Qy (n:=u) (S1:=S) (xs:=ms) (λk d=>frD (YW g box aC R k (M.getD k []))) (λK hK=>by exact hK) hu (by rw[mi.1];lia) (λk x hx S2 K pr hK=>?_) ?_
  ·have hk:k<M.length:=by
    have:=(zF.mp hx).1;rw[mi.1] at this;exact this
   obtain⟨a,rfl,ha⟩:=mi.2 k x _ hx (zC hk);have eM:M.getD k []=M[k]:=by simp[hk]
   rw[eM] at hK;have z:=zM _ (zZ hk);exact⟨k,box,aC,M[k],R,ds,rfl,by lia,pr _ _ ha,z.1,z.2,pr _ _ hb,pr _ _ ht,pr _ _ hs,rows.pre pr,zr,bl,r4,t4,zb,zt,hg,hK⟩
  ·have e:(ms.mapIdx λk d=>frD (YW g box aC R k (M.getD k [])))=(M.mapIdx λk es=>YW g box aC R k es).map frD:=by
    refine xW λk=>?_
    rw[List.getElem?_mapIdx,zG,List.getElem?_mapIdx];by_cases hk:k<M.length
    ·rw[zC (show k<ms.length by rw[mi.1];exact hk),zC hk];simp[hk]
    ·rw[yT (by rw[mi.1];lia),yT (show M.length<=k by lia)];rfl
   rw[e];exact h⟩)
def zcH  (MF:Df K mg q39 Lm TR)(SF:Fk P w K mg base 1 XO Rj Ig)(VJ:Fk P w K mg base 4 q60 Uo Pu)(SQ:Fk P w K mg base 3 q25 SI Mc):Fk P w K mg base 5 q39 TR Kv:=
 MF.mk' (Zy (k:=4) MF.F zdL (λ_ _ _ _=>nR λ_=>nR λ_=>nR λ_=>nI λ_=>nN:Ln (Kv) 4) λ_ _ _ _ _ _ hr=>⟨_,(Zg (Zp (Zi SF hr (Za (Zi VJ hr (Za (dv 0) (Za (Zi SQ hr (Za (dv 2) Ze)) (Za (dv 3) Ze)))) (Za (dv 1) Ze))))),λds S Q ex h=>by
  replace h:=VE h;obtain⟨a,p,b,g,rfl,h⟩:=h;obtain⟨ns,ws,bs,is,ha,hb,net,sb,hg,l7,b9,hp,i9,hi,h⟩:=h;refine⟨bs,hb,b9,λT m pr lm hm=>?_⟩;refine⟨ns,ws,bs.map ZF,pr _ _ ha,hm,by rw[zA];exact net,HS sb,hg,l7,λT1 m1 pr1 lm1 h1=>?_⟩;refine⟨_,is,h1,pr1 _ _ (pr _ _ hp),i9,λi him=>by rw[zA,Y2];exact hi i him,?_⟩;have e:(is.map λi=>((Zo (bs.map ZF) g ns).map frD).getD i .non)=(is.map λ(i:Nat)=>gt (Zo (bs.map ZF) g ns) i).map frD:=by
   rw[zU];refine List.map_congr_left λi him=>?_
   have hl:i<(Zo (bs.map ZF) g ns).length:=by rw[Y2];exact hi i him
   show _=frD (gt (Zo (bs.map ZF) g ns) (i:Int));unfold gt;rw[zJ];simp[hl]
  rw[e];refine h _ _ (λx o z=>ZA (pr1 _ _ (pr _ _ z))) ?_ (Zv _ _);have:=VZ pr
  have:=VZ pr1;lia⟩)
def zbj  (Jm:Df K mg "deep" Mx Oo):Fk P w K mg base 1 "deep" Oo HK:=
 Jm.mk' (Zy (k:=0) Jm.F Ai (λ_ _ _ _=>nP λ_ _=>nP λ_ _=>nN:Ln (HK) 2) λ_ _ _ _ _ _ hr=>⟨_,(Zg (Zp (US (Xe WD (Zk (dv 1) Zd) (Zk (dv 0) Zd) (ZI _)) (SD (Xe WD (Zk (dv 0) Zd) (Zk (dv 1) Zd) (ZI _)))))),λds S Q ex h=>by
  replace h:=ePP h;obtain⟨_,_,_,_,rfl,h⟩:=h;refine ifD (λe=>?_) (λe=>?_)
  ·rw[decide_eq_true e,Bool.true_and] at h;exact h
  ·rw[decide_eq_false e,Bool.false_and] at h;exact h⟩)
def zeA  (JD:Df K mg q91 Qp PB)(Gz:Fk P w K mg base 1 "deep" Oo HK)(WI:mg "all"=none)(YB:mg "zip"=none):Fk P w K mg base 2 q91 PB He:=
 JD.mk' (Xk (Zy (k:=1) JD.F zcX (Xh (λ_ _ _ _=>nR λ_=>nR λ_=>nN:Ln (He) 2)) λ_ _ _ _ _ _ hr=>⟨_,(Zg (Zp (ZR (ZO (Ck rfl)) rfl WI Boot.«all» (Za (LU (x1:="new") (x2:="old") (N:=[]) (caps:=[]) (ar:=Zj Qp) rfl rfl WY rfl rfl rfl (by decide) rfl YB Boot.«zip» (Za (dv 0) (Za (dv 1) Ze)) (λ_ _ _ _ _ _=>(Zi Gz hr (Za (dv 0) (Za (dv 1) Ze))))) Ze)))),λds S Q ex h=>by
  obtain⟨Q0,ex0,rfl,rfl,h⟩:=h;replace h:=eRR h;obtain⟨m,n,rfl,h⟩:=h;obtain⟨us,vs,h1,h2,hl,h⟩:=h;refine Pa (n:=m) (n':=n) (S1:=S) (xs:=us.map frD) (ys:=vs.map frD) (λx y=>match x,y with|.tup [.int a,.int b],.tup [.int c,.int d]=>.bl (decide (c<a)&&decide (b<d))|_,_=>.non) (λK hK=>by exact hK) h1 h2 (by rw[zA];exact hl) (λk x y hx hy S2 K pr hK=>?_) ?_
  ·obtain⟨p,_,rfl⟩:=zH.mp (zN hx);obtain⟨q,_,rfl⟩:=zH.mp (zN hy);exact hK
  ·refine EN (n:=S.length) (o:=.lst _) (bs:=List.zipWith Ri us vs) (Zv _ _) (zb0 us vs) ?_;exact⟨Pre.refl.push,.bl _,h⟩⟩))
def Ag  (M8:Df K mg X3 Po Qt)(HV:Fk P w K mg base 2 q91 PB He)(U9:Fk P w K mg base 6 XS Rb MK)(TF:Fk P w K mg base 5 q39 TR Kv)(IM:Fk P w K mg base 11 q77 Ot Fw)(Tu:Fk P w K mg base 2 XZ Sh Jd)(Ru:Fk P w K mg base 6 q70 SG Kb)(FK:Fk P w K mg base 2 q26 Pr F4)(VJ:Fk P w K mg base 4 q60 Uo Pu)(Sj:Fk P w K mg base 1 q19 Sv Jy)(ZC:mg "len"=none):Fk P w K mg base 12 X3 Qt HA:=
 M8.mk' (Zy (k:=11) M8.F Pw (λ_ _ _ _=>nR λ_=>nR λ_=>nR λ_=>nI λ_=>nN:Ln (HA) 4) λ_ _ _ _ _ _ hr=>⟨_,(Zh (ZD (i:=4) Pw.nd (Zi Sj hr (Za (dv 1) Ze))) (Zh (ZL (PDW.pt (VN (ZN (Ul hr) (ZR (ZO Z4) rfl ZC Boot.«len» (Za (dv 4) Ze)) (ZR (ZO Z4) rfl ZC Boot.«len» (Za (dv 2) Ze)) (ZI _)) (Uu (XF (Y5 (Zi FK hr (Za (dv 1) (Za (Zi VJ hr (Za (dv 0) (Za (dv 2) (Za (dv 3) Ze)))) Ze)))))))) (Zg (Zp Wq)) ZP) (Zh (ZD (i:=5) Pw.nd (Zi Ru hr (Za (dv 0) (Za (dv 4) (Za (dv 2) (Za (dv 3) Ze)))))) (Zh (ZD (i:=6) Pw.nd (Zi IM hr (Za (WU (x:="slant") (N:=[]) (caps:=[]) (ar:=Zj Po) rfl rfl csc rfl (by decide) (dv 5) (λ_ _ _ _ _ _=>Yt) (λ_ _ _ _ _ _=>(Zi Tu hr (Za (dv 0) Ze)))) (Za (dv 3) Ze)))) (Zh (ZL (ZN JP (dv 6) Wq (ZI _)) (Zg (Zp Wq)) ZP) (Zh (ZD (i:=7) Pw.nd (Zi U9 hr (Za (dv 2) (Za (dv 3) (Za (dv 6) (Za (Zi TF hr (Za (dv 0) (Za (dv 4) (Za (dv 2) (Za (dv 3) Ze))))) (Za (dv 5) Ze))))))) (Zh (ZL (XF (Y5 (Zi HV hr (Za (dv 7) (Za (dv 2) Ze))))) (Zg (Zp Wq)) ZP) (Zg (Zp (ZX (Za (dv 6) (Za (dv 7) Ze)))))))))))),λds S Q ex h=>by
  replace h:=VE h;obtain⟨a,r,b,g,rfl,h⟩:=h;obtain⟨ns,ws,bs,rows,ha,hb,net,sb,hg,l7,b9,hr,r9,hi,bl,hN,hY⟩:=h;have hi':∀i∈eqs rows,i<ns.length:=λi him=>hi _ (G6 him)
  refine⟨rows,hr,r9,?_⟩;have P0:Pre S (S++[Ob.lst ((eqs rows).map wtD)]):=Pre.refl.push
  have hp:=Zv S (.lst ((eqs rows).map wtD));refine Yc hp ?_;refine Yc (P0 _ _ hb) ?_;rw[zA,zA];refine ifN (λc=>?_) (λc=>?_)
  ·refine Xf ?_;exact hN (by unfold alS;rw[if_neg (λz=>c (by rw[z.1]))]) _ P0
  have lq:(eqs rows).length=bs.length:=by lia
  refine⟨ns,ws,bs,P0 _ _ ha,P0 _ _ hb,net,sb,hg,l7,λT1 m1 p1 lm1 h1=>?_⟩;have P1:Pre S T1:=λx o z=>p1 _ _ (P0 _ _ z)
  refine⟨rows,Zo bs g ns,P1 _ _ hr,h1,r9,λr hr=>by rw[Y2];exact hi r hr,?_⟩;cases eL:XG rows (Zo bs g ns)
  ·refine Xf ?_;exact hN (by unfold alS;rw[if_neg (λz=>by rw[eL] at z;cases z.2)]) _ P1
  refine YF ?_;refine⟨ns,ws,bs,eqs rows,P1 _ _ ha,P1 _ _ hb,net,sb,hg,l7,b9,p1 _ _ hp,by lia,hi',λT2 m2 ds p2 lm2 h2 rowsT=>?_⟩;have P2:Pre S T2:=λx o z=>p2 _ _ (P1 _ _ z)
  have hp2:=p2 _ _ (p1 _ _ hp);refine GK (S1:=T2) (n:=m2) (o:=.lst ds) (λk ys S2=>Pre T2 S2/\S2[T2.length]?=some (.lst ys)/\ys.length=k/\Rows S2 (T2.length+1) ys (((Xu g bs ns rows).take k).map λr=>r.map mid)) (λK hK=>by exact hK) h2 (λk ys S2 w=>⟨w.1 _ _ h2,w.2.1,w.2.2.1⟩) (by show ds.length<=1000;rw[rowsT.1,zA];lia) ⟨Pre.refl.push,Zv _ _,rfl,by simpa using Rows.nil⟩ (λk x ys S2 K hx w hK=>?_) (λys S2 w=>?_)
  ·obtain⟨y1,y2,y3,y4⟩:=w;have hx':ds[k]?=some x:=hx
   have hk:k<(Xu g bs ns rows).length:=by
    have:=(zF.mp hx').1;rw[rowsT.1] at this;exact this
   have hr:=zC hk;generalize (Xu g bs ns rows)[k]=r at hr;obtain⟨ar,rfl,_,har⟩:=rowsT.2 k x r hx' hr;have zr':=FD net sb hg hi' r (zN hr);refine⟨r,y1 _ _ har,by rw[zr'.1];lia,?_⟩;have lt:=Z7 y2;refine hK _ _ (ZA y2) ⟨U0 (Vj y1 _) (zD _),Yv (ZA y2),by simp[y3],?_⟩;rw[XH hr,yC];refine Rows.snoc (y4.keep λa o l q=>?_) (by lia) ?_
   ·exact Yg (ZA q) (by lia)
   ·refine Yg ?_ (by lia);have e:(r.map mid).map D.int=r.map λp=>D.int (mid p):=by rw[zU];rfl
    rw[e];exact Zv _ _
  obtain⟨y1,y2,y3,y4⟩:=w;have e9:(Xu g bs ns rows).take (Zu (.lst ds)).length=Xu g bs ns rows:=yB (by show (Xu g bs ns rows).length<=ds.length;rw[rowsT.1];exact zD _);rw[e9] at y4;have P3:Pre S S2:=λx o z=>y1 _ _ (P2 _ _ z)
  have hn:bs.length-1+1=bs.length:=by lia
  have sq:Sq (bs.length-1+1) (Yh g bs ns rows):=⟨by unfold Yh Xu;rw[zA,zA];lia,λr hr=>by
   obtain⟨x,hx,rfl⟩:=zH.mp hr;rw[zA,(FD net sb hg hi' x hx).1,hn]⟩
  have bigM:Big (Yh g bs ns rows):=λr hr x hx=>by
   obtain⟨z,hz,rfl⟩:=zH.mp hr;obtain⟨p,hp,rfl⟩:=zH.mp hx;have z2:=(E1 net sb hg hi' z hz).2 p hp;exact(Ej z2.1 z2.2).mono (by decide)
  refine⟨Yh g bs ns rows,bs.length-1,by lia,⟨ys,y2,y4.low (zL _)⟩,sq,bigM,hg,λdz=>?_,λdz T4 k4 p4 mt=>?_⟩
  ·rw[hn] at dz;exact hN (by unfold alS;rw[if_pos ⟨lq,eL⟩,if_pos dz]) _ P3
  rw[hn] at dz mt;have P4:Pre S T4:=λx o z=>p4 _ _ (P3 _ _ z)
  obtain⟨tds,ht,rowsM⟩:=mt;refine⟨ns,ws,bs,eqs rows,P4 _ _ ha,P4 _ _ hb,net,sb,hg,l7,b9,p4 _ _ (y1 _ _ hp2),by lia,hi',λT5 m5 p5 lm5 h5=>?_⟩;have P5:Pre S T5:=λx o z=>p5 _ _ (P4 _ _ z)
  have lI:=HL (Yh g bs ns rows) (bs.length-1) (ZJ bs.length (Yh g bs ns rows)) g;refine⟨bs,UP g bs ns rows,Yi (Yh g bs ns rows) (bs.length-1) (ZJ bs.length (Yh g bs ns rows)) g,tds,Xu g bs ns rows,ds,p5 _ _ ht,rowsM.toI.pre p5,by lia,λr hr=>⟨by have:=Dx r hr;lia,zac sq bigM (by lia) dz hg r hr⟩,P5 _ _ hb,h5,p5 _ _ (p4 _ _ (y1 _ _ h2)),rowsT.pre λx o z=>p5 _ _ (p4 _ _ (y1 _ _ z)),FD net sb hg hi',bl,by unfold Xu;rw[zA];lia,by unfold UP;rw[zA];lia,λp hp=>⟨(sb p hp).2.1.mono (by decide),(sb p hp).2.2.mono (by decide)⟩,zaP net sb hg hi',hg,?_⟩;refine⟨W0 g bs ns rows (Yi (Yh g bs ns rows) (bs.length-1) (ZJ bs.length (Yh g bs ns rows)) g),bs,Zv _ _,ZA (P5 _ _ hb),by unfold W0;rw[List.length_mapIdx];lia,?_⟩;cases eD:XU (W0 g bs ns rows (Yi (Yh g bs ns rows) (bs.length-1) (ZJ bs.length (Yh g bs ns rows)) g)) bs
  ·refine Xf ?_;exact hN (by unfold alS;rw[if_pos ⟨lq,eL⟩,if_neg dz,if_neg (by rw[eD];decide)]) _ (Vj P5 _)
  refine YF ?_;have:=VZ P5;exact hY (Yi (Yh g bs ns rows) (bs.length-1) (ZJ bs.length (Yh g bs ns rows)) g) (W0 g bs ns rows (Yi (Yh g bs ns rows) (bs.length-1) (ZJ bs.length (Yh g bs ns rows)) g)) (by unfold alS;rw[if_pos ⟨lq,eL⟩,if_neg dz,if_pos eD]) _ _ _ _ (Vj P5 _) (ZA (p5 _ _ ht)) ((rowsM.toI.pre p5).pre (Vj Pre.refl _)) (Zv _ _) this⟩)
def zaC  (Nv:Df K mg q53 La Sm)(YS:mg RI=none)(V3:mg "bool"=none)(Xc:mg "int"=none)(Ro:Kit K "bool")(SY:Kit K "int"):Fk P w K mg base 1 q53 Sm O7:=
 Nv.mk' (Zy (k:=0) Nv.F zdC (λ_ _ _ _=>nI λ_=>nN:Ln (O7) 1) λ_ _ _ _ _ _ hr=>⟨_,(Zg (Zp (US (HY SY rfl YS rfl Xc Boot.«int» (dv 0)) (SD (BD (HY Ro rfl YS rfl V3 Boot.«bool» (dv 0))))))),λds S Q ex h=>by
  replace h:=eI h;obtain⟨_,rfl,h⟩:=h;exact h⟩)
def BS  (Nq:Df K mg q82 MD RU)(Uz:Fk P w K mg base 1 q53 Sm O7)(ZC:mg "len"=none)(YS:mg RI=none)(WN:mg "tuple"=none)(Ra:Kit K "tuple"):Fk P w K mg base 2 q82 RU Fs:=
 Nq.mk' (Zy (k:=1) Nq.F zbp (λ_ _ _ _=>nP λ_ _=>nN:Ln (Fs) 1) λ_ _ _ _ _ _ hr=>⟨_,(Zh (ZL (PDW.pt (VN (XF (Y5 (HY Ra rfl YS rfl WN Boot.«tuple» (dv 0)))) (Uu (ZN (Ul hr) (ZR (ZO Z4) rfl ZC Boot.«len» (Za (dv 0) Ze)) Zd (ZI _))))) (Zg (Zp XA)) ZP) (Zg (Zp (US (Zi Uz hr (Za (Zk (dv 0) Zd) Ze)) (US (Zi Uz hr (Za (Zk (dv 0) Zd) Ze)) (SD (Xe FW (Zk (dv 0) Zd) (Zk (dv 0) Zd) (ZI _)))))))),λds S Q ex h=>by
  replace h:=eP h;obtain⟨_,_,rfl,h⟩:=h;obtain⟨hab,h⟩:=h;refine Er ?_;exact qt (Q:=Q) (decide_eq_true hab) h⟩)
def zcM  (LF:Df K mg q54 Ly TN)(GR:Fk P w K mg base 2 q82 RU Fs)(ZC:mg "len"=none)(YS:mg RI=none)(YN:mg "list"=none):Fk P w K mg base 3 q54 TN Kk:=
 LF.mk' (Zy (k:=2) LF.F EG (λ_ _ _ _=>nR λ_=>nI λ_=>nN:Ln (Kk) 2) λ_ _ _ _ _ _ hr=>⟨_,(Zh (ZL (PDW.pt (VN (XF (Y5 (zbC (zdE _) rfl YS rfl YN Boot.«list» (dv 0)))) (Uu (ZN (Ul hr) (ZR (ZO Z4) rfl ZC Boot.«len» (Za (dv 0) Ze)) (dv 1) (ZI _))))) (Zg (Zp XA)) ZP) (Zh (Va (i:=2) PassesOwn.never rfl EG.nd rfl (Or.inl rfl) (dv 0) (Zg (ZL (XF (Y5 (Zi GR hr (Za (dv 2) Ze)))) (Zg (Zp XA)) ZP))) (Zg (Zp XA)))),λds S Q ex h=>by
  replace h:=eRI h;obtain⟨a,m,rfl,h⟩:=h;obtain⟨vs,h1,rfl,hp,h⟩:=h;refine zen (n:=a) (λK hK=>by exact hK) h1 ?_;refine YF ?_;refine Yc h1 ?_;rw[zA];refine ifN (λc=>absurd rfl c) (λ_=>?_);refine Vf (n:=a) (o:=.lst (vs.map frD)) (λk dl' S'=>S'=S/\∃u:Option D,dl'=[some (.ref a),some (.int (vs.length:Nat)),u]) ⟨rfl,_,rfl⟩ (λk dl' S' w=>by rw[w.1];exact h1) ?_ (λdl' S' w=>by rw[w.1];exact h);rintro k x dl' S' nx ct ex' ⟨rfl,u,rfl⟩ hn;obtain⟨p,hpm,rfl⟩:=zH.mp (zN ex');refine⟨hp p hpm,?_⟩;exact hn _ _ ⟨rfl,_,rfl⟩⟩)
def zdW  (ON:Df K mg q67 KN RS)(Uz:Fk P w K mg base 1 q53 Sm O7)(Rg:Fk P w K mg base 3 q54 TN Kk)(YS:mg RI=none)(YN:mg "list"=none)(ZC:mg "len"=none)(WN:mg "tuple"=none):Fk P w K mg base 4 q67 RS Fi:=
 ON.mk' (Zy (k:=3) ON.F Fx (λ_ _ _ _=>nD λ_=>nD λ_=>nN:Ln (Fi) 2) λ_ _ _ _ _ _ hr=>⟨_,(Zh (ZL (ZN JP (dv 1) Wq (ZI _)) (Zg (Zp (Xe JP (dv 0) Wq (ZI _)))) ZP) (Zh (ZL (PDW.pt (VN (XF (Y5 (GW (Gk _ _ (by simp)) rfl YS rfl WN Boot.«tuple» (dv 0)))) (VN (ZN (Ul hr) (ZR (ZO Z4) rfl ZC Boot.«len» (Za (dv 0) Ze)) Zd (ZI _)) (Uu (XF (Y5 (Zi Rg hr (Za (Zk (dv 0) Zd) (Za (ZR (ZO Z4) rfl ZC Boot.«len» (Za (Zk (dv 1) Zd) Ze)) Ze))))))))) (Zg (Zp XA)) ZP) (Zh (ZL (XF (Y5 (GW (Gk _ _ (by simp)) rfl YS rfl YN Boot.«list» (Zk (dv 0) Zd)))) (Zg (Zp XA)) ZP) (Zh (Va (i:=2) PassesOwn.never rfl Fx.nd rfl (Or.inl rfl) (Zk (dv 0) Zd) (Zh (ZL (XF (Y5 (GW (Gk _ _ (by simp)) rfl YS rfl YN Boot.«list» (dv 2)))) (Zg (Zp XA)) ZP) (Zg (Va (i:=3) PassesOwn.never rfl Fx.nd rfl (Or.inl rfl) (dv 2) (Zg (ZL (XF (Y5 (Zi Uz hr (Za (dv 3) Ze)))) (Zg (Zp XA)) ZP)))))) (Zg (Zp (Xe (Hh hr) (dv 0) (dv 1) (ZI _)))))))),λds S Q ex h=>by
  replace h:=eDD h;obtain⟨d,e,rfl,h⟩:=h;rcases h with ⟨rfl,rfl,h⟩|⟨m,n,m2,n2,ms,ms2,M,aE,rfl,rfl,hm,ri,hn,hm2,ri2,hn2,le,l9,lr,h⟩
  ·exact h
  ·refine zda (S1:=S) (xs:=[.ref m,.ref n]) (λK hK=>by exact hK) ?_;refine YF ?_;refine Er ?_;refine Yc hn2 ?_;rw[zA];refine⟨aE,hn,rfl,le,?_⟩;refine YF ?_;refine CI (S1:=S) (n:=m) (xs:=ms) (λK hK=>by exact hK) hm ?_;refine YF ?_;refine Vf (i:=2) (n:=m) (o:=.lst ms) (S:=S) (λk dl' S'=>S=S'/\∃u2 u3:Option D,dl'=[some (.tup [.ref m,.ref n]),some (.tup [.ref m2,.ref n2]),u2,u3]) ⟨rfl,_,_,rfl⟩ (λk dl' S' ⟨e,_⟩=>by rw[<- e];exact hm) ?_ ?_
   ·rintro k x dl' S' nx ct ex' ⟨rfl,u2,u3,rfl⟩ hn3;have hx:ms[k]?=some x:=ex'
    have hk:=(zF.mp hx).1;rw[ri.1] at hk;obtain⟨a,rfl,ha⟩:=ri.2 k x _ hx (zC hk);generalize M[k]=r at ha;refine CI (S1:=S) (n:=a) (xs:=r.map D.int) (λK hK=>by exact hK) ha ?_;refine YF ?_;refine Vf (i:=3) (n:=a) (o:=.lst (r.map D.int)) (S:=S) (λk dl' S'=>S=S'/\∃u2 u3:Option D,dl'=[some (.tup [.ref m,.ref n]),some (.tup [.ref m2,.ref n2]),u2,u3]) ⟨rfl,_,_,rfl⟩ (λk dl' S' ⟨e,_⟩=>by rw[<- e];exact ha) ?_ ?_
    ·rintro k x dl' S' nx ct ex' ⟨rfl,u2,u3,rfl⟩ hn4;have hx:(r.map D.int)[k]?=some x:=ex';rw[zG] at hx;obtain⟨z,_,rfl⟩:=zP.mp hx;exact hn4 _ _ ⟨rfl,_,_,rfl⟩
    ·rintro dl' S' ⟨rfl,u2,u3,rfl⟩;exact hn3 _ _ ⟨rfl,_,_,rfl⟩
   ·rintro dl' S' ⟨rfl,u2,u3,rfl⟩;refine⟨⟨rfl,λk x y hx hy=>?_⟩,h⟩
    match k,hx,hy with
    | 0,hx,hy=>cases hx;cases hy;exact .inl (.inl (B7 hm ri hm2 ri2))
    | 1,hx,hy=>cases hx;cases hy;exact CL (λp=>D4 p) hn hn2
    | k+2,hx,hy=>cases hx⟩)
def zeH  (JW:Df K mg q86 Jc P6):Fk P w K mg base 1 q86 P6 Ip:=
 JW.mk' (Zy (k:=0) JW.F DA (λ_ _ _ _=>nR λ_=>nR λ_=>nN:Ln (Ip) 2) λ_ _ _ _ _ _ hr=>⟨_,(Zh (Va (i:=2) PassesOwn.never rfl DA.nd rfl (Or.inl rfl) (dv 0) (Zg (ZL (PDW.pt (F3 (ZN (ZY hr) (Zk (dv 2) Zd) Z6 (ZI _)) (FF (ZN WD (Zk (ZE (dv 1) (Zk (dv 2) Zd)) Zd) Zd (ZI _))))) (Zg (Zp XA)) ZP))) (Zg (Zp XA))),λds S Q ex h=>by
  replace h:=eRR h;obtain⟨r,v,rfl,h⟩:=h;obtain⟨rows,vs,hr,hv,hi,h⟩:=h;refine Vf (i:=2) (n:=r) (o:=.lst (rows.map rwD)) (S:=S) (λk dl' S'=>S=S'/\XG (rows.take k) vs=true/\∃u:Option D,dl'=[some (.ref r),some (.ref v),u]) ⟨rfl,rfl,_,rfl⟩ (λk dl' S' ⟨e,_⟩=>by rw[<- e];exact hr) ?_ ?_
  ·rintro k x dl' S' nx ct ex' ⟨rfl,lt,u,rfl⟩ hn2;have hx':(rows.map rwD)[k]?=some x:=ex';rw[zG] at hx';obtain⟨⟨z,j⟩,hk,rfl⟩:=zP.mp hx';have tk:rows.take (k+1)=rows.take k++[(z,j)]:=by rw[xB,hk];rfl
   have hj:=hi _ (zN hk);cases z with
   | true=>
    refine hn2 _ _ ⟨rfl,?_,some (rwD (true,j)),rfl⟩;rw[tk];unfold XG at *
    rw[List.all_append,lt];rfl
   | false=>
    refine Zw (o:=.lst (vs.map frD)) (i:=(j:Int)) hv (Z5 ⟨by lia,by lia⟩) ?_;refine ifD (λe=>?_) (λe=>?_)
    ·have ef:XG rows vs=false:=by
      cases q:XG rows vs with
      | false=>rfl
      | true=>
       unfold XG at q;have z:=List.all_eq_true.mp q _ (zN hk)
       have z2:=of_decide_eq_true (show decide (0<=(gt vs (j:Int)).1)=true from z);lia
     rw[ef] at h;exact h
    ·refine hn2 _ _ ⟨rfl,?_,some (rwD (false,j)),rfl⟩;rw[tk];unfold XG at *
     rw[List.all_append,lt];show (true&&(decide (0<=(gt vs (j:Int)).1)&&true))=true;rw[decide_eq_true (by lia)];rfl
  ·rintro dl' S' ⟨rfl,lt,u,rfl⟩;have e9:(Zu (Ob.lst (rows.map rwD))).length=rows.length:=by show (rows.map rwD).length=_;rw[zA]
   rw[e9,yE] at lt;rw[lt] at h;exact h⟩)
def Be  (NP:Df K mg q36 L5 Qj):Fk P w K mg base 1 q36 Qj Hc:=
 NP.mk' (Zy (k:=0) NP.F NS (λ_ _ _ _=>nR λ_=>nI λ_=>nI λ_=>nN:Ln (Hc) 3) λ_ _ _ _ _ _ hr=>⟨_,(Zh (ZD (i:=3) NS.nd (ZE (dv 0) (Zf Yb (Zf ZU (dv 1) Zd) Zd))) (Zh (ZD (i:=4) NS.nd (ZE (dv 0) (Zf Yb (Zf ZU (dv 1) Zd) Zd))) (Zh (ZD (i:=5) NS.nd (Zf ZW (ZE (dv 3) (Zf Yb (Zf ZU (dv 2) Zd) Zd)) (ZE (dv 4) (Zf Yb (Zf ZU (dv 2) Zd) Zd)))) (Zg (Zp (Zf YV (dv 5) (Zf ZW (ZE (dv 3) (Zf Yb (Zf ZU (dv 2) Zd) Zd)) (ZE (dv 4) (Zf Yb (Zf ZU (dv 2) Zd) Zd))))))))),λds S Q ex h=>by
  replace h:=eRII h;obtain⟨r,a,b,rfl,h⟩:=h;obtain⟨ms,M,hr,ri,lM,zM,ha,hb,h⟩:=h;obtain⟨i,rfl⟩:∃i:Nat,a=(i:Int):=⟨a.toNat,by lia⟩;obtain⟨j,rfl⟩:∃j:Nat,b=(j:Int):=⟨b.toNat,by lia⟩;rw[zJ,zJ] at h;have get:∀x y:Nat,x<3->y<3->∃p,atI ms (x:Int)=some (.ref p)/\S[p]?=some (.lst ((M.getD x []).map D.int))/\atI ((M.getD x []).map D.int) (y:Int)=some (.int ((M.getD x []).getD y 0))/\Sz 1101 ((M.getD x []).getD y 0):=λx y hx hy=>by
   obtain⟨p,e,s⟩:=ri.at (k:=x) (by lia);obtain⟨l3,z⟩:=zM (M.getD x []) (by rw[zK,zC (show x<M.length by lia)];exact zZ ..);generalize M.getD x []=w at s l3 z;have e2:w[y]?=some (w.getD y 0):=by rw[zK,zC (show y<w.length by lia)];rfl
   exact⟨p,e,s,X2 (by rw[zG,e2];rfl),z _ (zN e2)⟩
  have m1:∀n c:Nat,((n:Int)+(c:Int))%3=(((n+c)%3:Nat):Int):=λn c=>by lia
  have k1:=Nat.mod_lt (i+1) (show 0<3 by decide)
  have k2:=Nat.mod_lt (i+2) (show 0<3 by decide)
  have k3:=Nat.mod_lt (j+1) (show 0<3 by decide)
  have k4:=Nat.mod_lt (j+2) (show 0<3 by decide);obtain⟨p,p1,p2,p3,p4⟩:=get _ _ k1 k3;obtain⟨_,_,_,p5,p6⟩:=get _ _ k1 k4;obtain⟨t,t1,t2,t3,t4⟩:=get _ _ k2 k4;obtain⟨_,_,_,t5,t6⟩:=get _ _ k2 k3;refine Zw (o:=.lst ms) (i:=(((i+1)%3:Nat):Int)) (d:=.ref p) hr p1 ?_;refine Zw (o:=.lst ms) (i:=(((i+2)%3:Nat):Int)) (d:=.ref t) hr t1 ?_;refine Zw (o:=.lst ((M.getD ((i+1)%3) []).map D.int)) (i:=(((j+1)%3:Nat):Int)) p2 p3 ?_;refine Zw (o:=.lst ((M.getD ((i+2)%3) []).map D.int)) (i:=(((j+2)%3:Nat):Int)) t2 t3 ?_;refine⟨ZV p4 t4,?_⟩;refine Zw (o:=.lst ((M.getD ((i+1)%3) []).map D.int)) (i:=(((j+2)%3:Nat):Int)) p2 p5 ?_;refine Zw (o:=.lst ((M.getD ((i+2)%3) []).map D.int)) (i:=(((j+1)%3:Nat):Int)) t2 t5 ?_;exact⟨ZV p6 t6,h⟩⟩)
def zaL  (K9:Df K mg q43 VL Pp)(M0:Fk P w K mg base 1 q36 Qj Hc)(ZM:mg Xz=none)(ZC:mg "len"=none)(YD:mg "sum"=none)(Xc:mg "int"=none):Fk P w K mg base 2 q43 Pp FT:=
 K9.mk' (Zy (k:=1) K9.F V6 (λ_ _ _ _=>nR λ_=>nR λ_=>nI λ_=>nN:Ln (FT) 3) λ_ _ _ _ _ _ hr=>⟨_,(Zh (Wh (i:=3) V6.nd rfl (Or.inr rfl) (Y1 Ze)) (Zh (Va (i:=4) PassesOwn.never rfl V6.nd rfl (Or.inr rfl) (dv 1) (Zh (U5 (x:="_law_span_here") (N:=[]) (caps:=[]) (ar:=Zj VL) rfl rfl csc rfl (by decide) (i:=5) V6.nd rfl rfl (ZE (dv 0) (dv 4)) (λ_ _ _ _ _ _=>Yt) (λ_ _ _ _ _ _=>(Zf Ym (Zf ZU (Zk (dv 0) Zd) (Zk (dv 0) Zd)) Zd))) (Zg (Yr (Y0 (dv 3) (Zf Hl (dv 5) (Vu (x:="_law_k") (N:=[]) (caps:=[]) (ar:=Zj VL) rfl rfl csc rfl (by decide) rfl ZM (Za (Zf YV Zd (ZR (ZO Z4) rfl ZC Boot.«len» (Za (dv 1) Ze))) Ze) (λ_ _ _ _ _ _=>Yt) (λ_ _ _ _ _ _=>Zd)))))))) (Zh (HD (i:=4) PassesOwn.never rfl V6.nd rfl (Or.inr rfl) rfl ZM (Za (ZR (ZO Z4) rfl ZC Boot.«len» (Za (dv 1) Ze)) (Za Zd Ze)) (Zg (Yr (Y0 (dv 3) (Vu (x:="_law_k") (N:=["_law_at_here"]) (caps:=[4]) (ar:=Zj VL) rfl rfl csc rfl (by decide) rfl ZM (Za Zd Ze) (λ_ _ _ _ _ _=>Yt) (λ_ _ _ _ _ _=>(WR Mq rfl Xc Boot.«int» (Za (Xe (ZY hr) (dv 0) (dv 1) (ZI _)) Ze)))))))) (Zh (Wh (i:=6) V6.nd rfl (Or.inr rfl) (ZR (ZO (Sl rfl)) rfl YD Boot.«sum» (Za (Vu (x:="_law_k") (N:=["_law_rows"]) (caps:=[3]) (ar:=Zj VL) rfl rfl csc rfl (by decide) rfl ZM (Za Zd Ze) (λ_ _ _ _ _ _=>Yt) (λ_ _ _ _ _ _=>(Zf ZW (ZE (ZE (dv 1) Zd) (dv 0)) (Zi M0 hr (Za (dv 1) (Za Zd (Za (dv 0) Ze))))))) Ze))) (Zh (ZL (ZN (ZY hr) (dv 6) Zd (ZI _)) (Zg (Zp Wq)) ZP) (Zh (ZD (i:=7) V6.nd (Y1 Ze)) (Zh (XW (i:=4) PassesOwn.never rfl V6.nd rfl (Or.inr rfl) rfl ZM (Za (ZR (ZO Z4) rfl ZC Boot.«len» (Za (dv 1) Ze)) Ze) (Zg (Yr (Y0 (dv 7) (Vu (x:="_law_k") (N:=["_law_whole_here","_law_grid_here","_law_rows","_law_at_here"]) (caps:=[6,2,3,4]) (ar:=Zj VL) rfl rfl csc rfl (by decide) rfl ZM (Za (ZR (ZO Z4) rfl ZC Boot.«len» (Za (dv 1) Ze)) Ze) (λ_ _ _ _ _ _=>Yt) (λ_ _ _ _ _ _=>(Zf DY (Zf ZW (Zf ZW (dv 2) (dv 2)) (Zi M0 hr (Za (dv 3) (Za (dv 0) (Za (dv 4) Ze))))) (dv 1)))))))) (Zg (Zp (dv 7)))))))))),λds S Q ex h=>by
  replace h:=Q9 h;obtain⟨md,at_,g,rfl,h⟩:=h;obtain⟨q,R,ds,is,hd,rp,hi,li,hq,lR,zR,hg,hN,h⟩:=h;have sq:=zeo li lR zR
  have pz:=C9 sq hq (zcU lR zR);rw[<- zbw sq hq] at h hN;rw[<- zeN sq hq] at h;have snz:∀(es:List D)(M:List (List Int))(r:List Int)(S2 S3:Sto)(a:Nat),S2[S.length]?=some (.lst es)->Yx S2 (S.length+1) es M->(∀(x:Nat)(o:Ob),S2[x]?=some o->S3[x]?=some o)->S.length+1<=a->S3[a]?=some (.lst (r.map D.int))->Yx (S3.set S.length (.lst (es++[.ref a]))) (S.length+1) (es++[.ref a]) (M++[r]):=λes M r S2 S3 a he rl up la ha=>
   Yx.snoc (rl.keep λx o lx e=>Yg (up _ _ e) (by lia)) la (Yg ha (by lia))
  refine TL (λdl2 S2=>∃es:List D,Pre S S2/\S2[S.length]?=some (.lst es)/\Yx S2 (S.length+1) es ((Z9 R is).map (Wn q))/\∃u4 u5 u6 u7:Option D,dl2=[some (.ref md),some (.ref at_),some (.int g),some (.ref S.length),u4,u5,u6,u7]) (λnx hx=>?_) ?_
  ·refine Vf (i:=4) (n:=at_) (o:=.lst (is.map wtD)) (S:=S++[.lst []]) (λk dl' S'=>Pre S S'/\(∃es:List D,S'[S.length]?=some (.lst es)/\Yx S' (S.length+1) es ((Z9 R (is.take k)).map (Wn q)))/\∃u4 u5 u6 u7:Option D,dl'=[some (.ref md),some (.ref at_),some (.int g),some (.ref S.length),u4,u5,u6,u7]) ⟨W4 _,⟨[],Zv _ _,Yx.nil⟩,_,_,_,_,rfl⟩ (λk dl' S' ⟨pr,_⟩=>pr _ _ hi) ?_ ?_
   ·rintro k x dl' S' nx2 ct2 ex' ⟨pr,⟨es,he,rl⟩,u4,u5,u6,u7,rfl⟩ hn;have hx':(is.map wtD)[k]?=some x:=ex';rw[zG] at hx';obtain⟨i,hik,rfl⟩:=zP.mp hx';have li':=lR i (zN hik)
    have lk:=(zF.mp hik).1;obtain⟨a,ea,_,ha⟩:=(rp.pre pr).at (i:=(i:Int)) ⟨by lia,by lia⟩;rw[zJ] at ha;have ek:Z9 R (is.take (k+1))=Z9 R (is.take k)++[(R.getD i []).map mid]:=by
     unfold Z9;rw[XH hik,yC];rfl
    rw[ek,yC] at hn;have er:R.getD i []∈R:=by rw[zK,zC li'];exact zZ ..
    have lr:=(zR _ er).1
    have lz:es.length<=3:=by rw[rl.1,zA];unfold Z9;rw[zA,zW];lia
    generalize R.getD i []=r at ha lr hn;have lt:=Z7 he;refine Wz (n:=a) (S1:=S') (o:=.lst (r.map frD)) midD (λK hK=>by exact Zw (o:=.lst ds) (i:=(i:Int)) (pr _ _ hd) ea hK) ha (by show (r.map frD).length<=1000;rw[zA];lia) (λx hx S3 K3 p3 hK3=>?_) ?_
    ·obtain⟨v,_,rfl⟩:=zH.mp (show x∈r.map frD from hx);exact hK3
    have ei:(Zu (Ob.lst (r.map frD))).map midD=(r.map mid).map D.int:=zcG r;rw[ei];have lm:(r.map mid).length=q:=by rw[zA];exact lr
    generalize r.map mid=w at lm hn ⊢;refine W6 (n:=S.length) (xs:=es) (λK hK=>by exact hK) (ZA he) (λK hK=>?_) (by lia);refine Vi (j:=3-(q:Int)) (S1:=S'++[.lst (w.map D.int)]) (λ_=>.int 0) (λK hK=>?_) ⟨by lia,by lia⟩ (λk hk S2 K pr hK=>by exact hK) ?_
    ·refine Yc (ZA (pr _ _ hi)) ?_;rw[zA,li];exact hK
    have ez:((List.range (3-(q:Int)).toNat).map λ(_:Nat)=>D.int 0)=(List.replicate (3-q) (0:Int)).map D.int:=by
     rw[List.map_const',List.map_replicate,xE];congr 1;lia
    rw[ez];refine Gd (xs:=w.map D.int) (ys:=(List.replicate (3-q) (0:Int)).map D.int) (ZA (Zv _ _)) (Zv _ _) (by rw[zA,zA,List.length_replicate];lia) ?_;rw[<- yC];refine hK _ _ (ZA (ZA (ZA he))) ?_;exact hn _ _ ⟨λx o e=>Yg (ZA (ZA (ZA (pr x o e)))) (by have:=Z7 e;lia),⟨_,Yv (ZA (ZA (ZA he))),snz es _ (Wn q w) S' _ _ he rl (λx o e=>ZA (ZA (ZA e))) (by simp;lia) (Zv _ _)⟩,_,_,_,_,rfl⟩
   ·rintro dl' S' ⟨pr,⟨es,he,rl⟩,u4,u5,u6,u7,rfl⟩;have z:is.take (Zu (Ob.lst (is.map wtD))).length=is:=by
     show is.take (is.map wtD).length=is;rw[zA,yE]
    rw[z] at rl;exact hx _ _ ⟨es,pr,he,rl,_,_,_,_,rfl⟩
  rintro dl2 S2 ⟨es,pr,he,rl,u4,u5,u6,u7,rfl⟩;refine YJ (λdl3 S3=>∃es:List D,Pre S S3/\S3[S.length]?=some (.lst es)/\Yx S3 (S.length+1) es (X9 q (Z9 R is))/\∃u4:Option D,dl3=[some (.ref md),some (.ref at_),some (.int g),some (.ref S.length),u4,u5,u6,u7]) (λnx hx=>?_) ?_
  ·refine Yc (pr _ _ hi) ?_;rw[zA,li];refine⟨⟨by lia,by lia,by decide,by decide⟩,λk dl' S'=>k<=3-q/\Pre S S'/\(∃es:List D,S'[S.length]?=some (.lst es)/\Yx S' (S.length+1) es ((Z9 R is).map (Wn q)++(List.range k).map λj=>Ws (q+j)))/\∃u4:Option D,dl'=[some (.ref md),some (.ref at_),some (.int g),some (.ref S.length),u4,u5,u6,u7],⟨zL _,pr,⟨es,he,by rw[List.range_zero,List.map_nil,yZ];exact rl⟩,_,rfl⟩,?_⟩;rintro k dl' S' ⟨hk,pr,⟨es,he,rl⟩,u4,rfl⟩;have lt:=Z7 he
   have le:es.length=q+k:=by rw[rl.1,zO,zA,zA,xE,sq.1]
   refine YX (λc=>?_) (λc=>?_)
   ·have c':k<3-q:=by
     have z:k<((3:Int)-(q:Int)).toNat:=c;lia
    refine W6 (n:=S.length) (xs:=es) (λK hK=>by exact hK) he (λK hK=>?_) (by lia);refine Vi (j:=3) (S1:=S') (λl=>.int (if decide ((l:Int)=(q:Int)+(k:Int))=true then 1 else 0)) (λK hK=>by exact hK) ⟨by decide,by decide⟩ (λk hk S2 K pr hK=>by exact hK) ?_;rw[zdQ];refine hK _ _ (ZA he) ?_;refine⟨by lia,λx o e=>Yg (ZA (pr x o e)) (by have:=Z7 e;lia),⟨_,Yv (ZA he),?_⟩,_,rfl⟩;rw[List.range_succ,yC,<- xN];exact snz es _ (Ws (q+k)) S' _ _ he rl (λx o e=>ZA e) (by lia) (Zv _ _)
   ·have c':¬ k<3-q:=by
     have z:¬ k<((3:Int)-(q:Int)).toNat:=c;lia
    have e3:k=3-q:=by lia
    subst e3;exact hx _ _ ⟨es,pr,he,rl,_,rfl⟩
  clear pr he rl;clear es;rintro dl3 S3 ⟨es,pr,he,rl,u4,rfl⟩;obtain⟨lM,zM⟩:=pz;generalize X9 q (Z9 R is)=M at lM zM rl h hN;refine TL (λdl4 S4=>Pre S3 S4/\VF M≠0/\dl4=[some (.ref md),some (.ref at_),some (.int g),some (.ref S.length),u4,u5,some (.int (VF M)),u7]) (λnx hx=>?_) ?_
  ·refine Vi (j:=3) (S1:=S3) (λk=>.int ((M.getD 0 []).getD k 0*Xd M 0 k)) (λK hK=>by exact hK) ⟨by decide,by decide⟩ (λk hk S4 K p4 hK=>?_) ?_
   ·have hk':k<3:=hk
    have ri:=rl.toI;obtain⟨p,e,s⟩:=ri.at (k:=0) (by lia);obtain⟨l3,z⟩:=zM (M.getD 0 []) (by rw[zK,zC (show 0<M.length by lia)];exact zZ ..);refine Zw (o:=.lst es) (i:=0) (p4 _ _ he) e ?_;have e2:(M.getD 0 [])[k]?=some ((M.getD 0 []).getD k 0):=by
     rw[zK (l:=M.getD 0 []),zC (show k<(M.getD 0 []).length by lia)];rfl
    refine Zw (o:=.lst ((M.getD 0 []).map D.int)) (i:=(k:Int)) (p4 _ _ s) (d:=.int ((M.getD 0 []).getD k 0)) (X2 (by show ((M.getD 0 []).map D.int)[k]?=_;rw[zG,e2];rfl)) ?_;refine⟨es,M,p4 _ _ he,ri.pre p4,lM,zM,⟨by decide,by decide⟩,⟨by lia,by lia⟩,?_⟩;have z1:=z _ (zN e2)
    have z2:=Ku lM zM (0:Int).toNat (k:Int).toNat;exact⟨ZV z1 z2,hK⟩
   have ew:((List.range (3:Int).toNat).map λ(k:Nat)=>D.int ((M.getD 0 []).getD k 0*Xd M 0 k))=((List.range 3).map λ(k:Nat)=>(M.getD 0 []).getD k 0*Xd M 0 k).map D.int:=by
    rw[zU];rfl
   rw[ew];refine QI (ns:=(List.range 3).map λ(k:Nat)=>(M.getD 0 []).getD k 0*Xd M 0 k) (Zv _ _) (DL _) ?_;refine ifD (λe=>?_) (λe=>?_)
   ·exact hN e _ (λx o z=>ZA (pr _ _ z))
   ·exact hx _ _ ⟨W4 _,e,rfl⟩
  rintro dl4 S4 ⟨p4,v0,rfl⟩;have sv:=A2 lM zM
  have tz:=λ(q:Nat)=>A5 (q:=q) lM zM hg v0
  replace h:=h v0;generalize VF M=v at v0 sv h tz;replace he:=p4 _ _ he;have ri:=rl.toI.pre p4
  have pr4:Pre S S4:=λx o e=>p4 _ _ (pr _ _ e)
  have lS:=VZ pr4
  have lE:=Z7 he;clear p4 pr rl;have sg:Sz 21 g:=Sz.of (10^6) (by lia)
  have gg:Sz 42 (g*g):=sg.mul sg
  have fd:v≠0/\v.natAbs.log2<9000:=⟨v0,sv.log (by lia) (by decide)⟩;refine Yc (ZA (pr4 _ _ hi)) ?_;rw[zA,li];refine⟨⟨by lia,by lia⟩,λk dl' S'=>k<=q/\Pre S4 S'/\(∃ts:List D,S'[S4.length]?=some (.lst ts)/\Yx S' (S4.length+1) ts ((List.range k).map λi=>(List.range q).map λl=>(g*g*Xd M l i).fdiv v))/\∃u4:Option D,dl'=[some (.ref md),some (.ref at_),some (.int g),some (.ref S.length),u4,u5,some (.int v),some (.ref S4.length)],⟨zL _,W4 _,⟨[],Zv _ _,Yx.nil⟩,_,rfl⟩,?_⟩;rintro k dl' S' ⟨hk,p5,⟨ts,ht,tl⟩,u4,rfl⟩;rw[zJ];have lt:=Z7 ht
  have lts:ts.length=k:=by rw[tl.1,zA,xE]
  refine YX (λc=>?_) (λc=>?_)
  ·refine W6 (n:=S4.length) (xs:=ts) (λK hK=>by exact hK) ht (λK hK=>?_) (by lia);refine Vi (j:=(q:Int)) (S1:=S') (λl=>.int ((g*g*Xd M l k).fdiv v)) (λK hK=>?_) ⟨by lia,by lia⟩ (λl hl S5 K p6 hK=>?_) ?_
   ·refine Yc (p5 _ _ (pr4 _ _ hi)) ?_;rw[zA,li];exact hK
   ·have hl':l<q:=by lia
    refine⟨ZV sg sg,?_⟩;refine⟨es,M,p6 _ _ (p5 _ _ he),(ri.pre p5).pre p6,lM,zM,⟨by lia,by lia⟩,⟨by lia,by lia⟩,?_⟩;have z2:=Ku lM zM (l:Int).toNat (k:Int).toNat;exact⟨ZV gg z2,fd,hK⟩
   have er:((List.range ((q:Nat):Int).toNat).map λ(l:Nat)=>D.int ((g*g*Xd M l k).fdiv v))=((List.range q).map λ(l:Nat)=>(g*g*Xd M l k).fdiv v).map D.int:=by
    rw[zU,zJ];rfl
   rw[er];refine hK _ _ (ZA ht) ?_;refine⟨by lia,λx o e=>Yg (ZA (p5 x o e)) (by have:=Z7 e;lia),⟨ts++[.ref S'.length],Yv (ZA ht),?_⟩,_,rfl⟩;rw[List.range_succ,yC];exact Yx.snoc (tl.keep λx o lx e=>Yg (ZA e) (by lia)) (by lia) (Yg (Zv _ _) (by lia))
  ·have ek:k=q:=by lia
   subst ek;exact h _ _ ts (λx o e=>p5 _ _ (pr4 _ _ e)) lS ht tl.toI (tz k)⟩)
def zdu  (Ka:Df K mg q72 QD S6)(Vn:Fk P w K mg base 1 q57 UA Pj)(X7:Fk P w K mg base 1 q30 UJ R6)(WW:Fk P w K mg base 1 q58 Uv Pn)(ZM:mg Xz=none)(ZC:mg "len"=none)(Xc:mg "int"=none):Fk P w K mg base 2 q72 S6 OU:=
 Ka.mk' (Zy (k:=1) Ka.F Wu (λ_ _ _ _=>nR λ_=>nR λ_=>nR λ_=>nR λ_=>nI λ_=>nR λ_=>nN:Ln (OU) 6) λ_ _ _ _ _ _ hr=>⟨_,(Zh (U5 (x:="_law_span_here") (N:=[]) (caps:=[]) (ar:=Zj QD) rfl rfl csc rfl (by decide) (i:=6) Wu.nd rfl rfl (dv 3) (λ_ _ _ _ _ _=>Yt) (λ_ _ _ _ _ _=>(ZX (Za (Zf Ym (Zf ZU (Zk (dv 0) Zd) (Zk (dv 0) Zd)) Zd) (Za (Zf Ym (Zf ZU (Zk (dv 0) Zd) (Zk (dv 0) Zd)) Zd) Ze))))) (Zh (ZD (i:=7) Wu.nd (Y1 Ze)) (Zh (XW (i:=8) PassesOwn.never rfl Wu.nd rfl (Or.inl rfl) rfl ZM (Za (ZR (ZO Z4) rfl ZC Boot.«len» (Za (dv 3) Ze)) Ze) (Zh (ZD (i:=9) Wu.nd (ZE (dv 6) (dv 8))) (Zh (XW (i:=10) PassesOwn.never rfl Wu.nd rfl (Or.inl rfl) rfl ZM (Za (ZR (ZO Z4) rfl ZC Boot.«len» (Za (dv 2) Ze)) Ze) (Zg (ZD (i:=9) Wu.nd (Zi WW hr (Za (dv 9) (Za (Zi X7 hr (Za (ZX (Za (ZE (ZE (dv 5) (dv 8)) (dv 10)) (Za (ZE (ZE (dv 5) (dv 8)) (dv 10)) Ze))) (Za (ZE (dv 0) (ZE (dv 2) (dv 10))) (Za (dv 4) Ze)))) Ze)))))) (Zh (XW (i:=11) PassesOwn.never rfl Wu.nd rfl (Or.inl rfl) rfl ZM (Za (ZR (ZO Z4) rfl ZC Boot.«len» (Za (dv 3) Ze)) Ze) (Zh (ZD (i:=12) Wu.nd (ZX (Za (Zf ZW (dv 4) (WR Mq rfl Xc Boot.«int» (Za (Xe (ZY hr) (dv 8) (dv 11) (ZI _)) Ze))) (Za (Zf ZW (dv 4) (WR Mq rfl Xc Boot.«int» (Za (Xe (ZY hr) (dv 8) (dv 11) (ZI _)) Ze))) Ze)))) (Zh (XW (i:=10) PassesOwn.never rfl Wu.nd rfl (Or.inl rfl) rfl ZM (Za (ZR (ZO Z4) rfl ZC Boot.«len» (Za (dv 2) Ze)) Ze) (Zg (ZD (i:=12) Wu.nd (Zi WW hr (Za (dv 12) (Za (Zi X7 hr (Za (ZX (Za (ZE (ZE (dv 5) (dv 8)) (dv 10)) (Za (ZE (ZE (dv 5) (dv 8)) (dv 10)) Ze))) (Za (ZE (ZE (dv 1) (ZE (dv 2) (dv 10))) (dv 11)) (Za (dv 4) Ze)))) Ze)))))) (Zg (ZD (i:=9) Wu.nd (Zi Vn hr (Za (dv 9) (Za (Zi X7 hr (Za (dv 12) (Za (Zi WW hr (Za (ZE (dv 3) (dv 11)) (Za (ZE (dv 6) (dv 11)) Ze))) (Za (dv 4) Ze)))) Ze)))))))) (Zg (Yr (Y0 (dv 7) (dv 9)))))))) (Zg (Zp (dv 7)))))),λds S Q ex h=>by
  replace h:=zb4 h;obtain⟨th,md,at_,bx,g,tu,rfl,h⟩:=h;obtain⟨R,ds,ms,is,bs,aC,M,hth,hmd,rp,hat,hbx,htu,ri,li,lM,hq,hi,zR,zM,zb,zt,hg,h⟩:=h;refine Wz (n:=bx) (S1:=S) (o:=.lst (bs.map frD)) UX (λK hK=>by exact hK) hbx (by show (bs.map frD).length<=1000;rw[zA];lia) (λx hx S3 K3 p3 hK3=>?_) ?_
  ·obtain⟨v,_,rfl⟩:=zH.mp (show x∈bs.map frD from hx);exact hK3
  have ei:(Zu (Ob.lst (bs.map frD))).map UX=(bs.map ZF).map frD:=FV bs;rw[ei];refine Yc (ZA (ZA hbx)) ?_;rw[zA];have lD:(YL g bs aC R is M).length=bs.length:=by unfold YL;rw[List.length_mapIdx];exact lM
  refine⟨⟨by lia,by lia⟩,λk dl' S'=>k<=bs.length/\Pre S S'/\S'[S.length]?=some (.lst ((bs.map ZF).map frD))/\S'[S.length+1]?=some (.lst (((YL g bs aC R is M).take k).map frD))/\∃u8 u9 ua ub uc:Option D,dl'=[some (.ref th),some (.ref md),some (.ref at_),some (.ref bx),some (.int g),some (.ref tu),some (.ref S.length),some (.ref (S.length+1)),u8,u9,ua,ub,uc],⟨zL _,Oi (W4 _),ZA (Zv _ _),by have z:=Zv (S++[Ob.lst ((bs.map ZF).map frD)]) (Ob.lst []);rw[zO] at z;exact z,_,_,_,_,_,by rw[zO];rfl⟩,?_⟩;rintro k dl' S' ⟨hk,pr,hC,hF,u8,u9,ua,ub,uc,rfl⟩;rw[zJ];refine YX (λc=>?_) (λc=>?_)
  ·have hth':=pr _ _ hth
   have hat':=pr _ _ hat
   have hbx':=pr _ _ hbx;obtain⟨ar,ear,har⟩:=(ri.pre pr).at (k:=k) (by lia);obtain⟨lE,zE⟩:=zM (M.getD k []) (by rw[zK,zC (show k<M.length by lia)];exact zZ ..);have eD:(YL g bs aC R is M)[k]?=some (YW g bs (is.map λ(i:Nat)=>gt aC (i:Int)) (is.map λi=>R.getD i []) k (M.getD k [])):=by
    unfold YL;rw[List.getElem?_mapIdx,zK,zC (show k<M.length by lia)];rfl
   have htu':=pr _ _ htu;generalize hes:M.getD k []=es at har lE zE eD;have hmd':=pr _ _ hmd
   have rp':=rp.pre pr
   have c1:atI ((bs.map ZF).map frD) (k:Int)=some (frD (ZF (gt bs (k:Int)))):=by
    have z:=Z5 (vs:=bs.map ZF) (i:=(k:Int)) ⟨by lia,by rw[zA];lia⟩;rw[z,X4 (p:=ZF (gt bs (k:Int))) (by rw[zG,X4 (zC c),zC c];rfl)]
   have eE:∀j:Nat,j<es.length->atI (es.map D.int) (j:Int)=some (.int (es.getD j 0))/\(es.map λe=>(e,e))[j]?=some (es.getD j 0,es.getD j 0)/\Sz 4000 (es.getD j 0):=λj hj=>by
    have e:es[j]?=some (es.getD j 0):=by rw[zK,zC hj];rfl
    exact⟨X2 (by rw[zG,e];rfl),by rw[zG,e];rfl,zE _ (zN e)⟩
   have eI:∀j:Nat,j<is.length->is[j]?=some (is.getD j 0)/\atI (is.map wtD) (j:Int)=some (.int ((is.getD j 0:Nat):Int)):=λj hj=>by
    have e:is[j]?=some (is.getD j 0):=by rw[zK,zC hj];rfl
    exact⟨e,X2 (by rw[zG,e];rfl)⟩
   refine TL (λdl2 S2=>S'=S2/\∃ua ub uc:Option D,dl2=[some (.ref th),some (.ref md),some (.ref at_),some (.ref bx),some (.int g),some (.ref tu),some (.ref S.length),some (.ref (S.length+1)),some (.int (k:Int)),some (frD (Yu (ZF (gt bs (k:Int))) (sumP g (es.map λe=>(e,e)) (is.map λ(i:Nat)=>gt aC (i:Int))))),ua,ub,uc]) (λnx hx=>?_) ?_
   ·refine Zw (o:=.lst ((bs.map ZF).map frD)) (i:=(k:Int)) hC c1 ?_;refine Yc hat' ?_;rw[zA];refine⟨⟨by lia,by lia⟩,λj dl2 S2=>j<=is.length/\S'=S2/\∃ua ub uc:Option D,dl2=[some (.ref th),some (.ref md),some (.ref at_),some (.ref bx),some (.int g),some (.ref tu),some (.ref S.length),some (.ref (S.length+1)),some (.int (k:Int)),some (frD (Yu (ZF (gt bs (k:Int))) (sumP g ((es.map λe=>(e,e)).take j) ((is.map λ(i:Nat)=>gt aC (i:Int)).take j)))),ua,ub,uc],⟨zL _,rfl,_,_,_,by rw[Gu,E6];rfl⟩,?_⟩;rintro j dl2 S2 ⟨hj,rfl,ua,ub,uc,rfl⟩;rw[zJ];refine YX (λc2=>?_) (λc2=>?_)
    ·obtain⟨e1,e2,e3⟩:=eE j (by lia);obtain⟨i1,i2⟩:=eI j c2;have hij:=hi _ (zN i1)
     have t1:(is.map λ(i:Nat)=>gt aC (i:Int))[j]?=some (gt aC ((is.getD j 0:Nat):Int)):=by rw[zG,i1];rfl
     have zti:=zt _ (QA (vs:=aC) (i:=((is.getD j 0:Nat):Int)) ⟨by lia,by lia⟩);refine Zw (o:=.lst ms) (i:=(k:Int)) htu' ear ?_;refine Zw (o:=.lst (es.map D.int)) (i:=(j:Int)) har e1 ?_;refine Zw (o:=.lst ms) (i:=(k:Int)) htu' ear ?_;refine Zw (o:=.lst (es.map D.int)) (i:=(j:Int)) har e1 ?_;refine Zw (o:=.lst (is.map wtD)) (i:=(j:Int)) hat' i2 ?_;refine Zw (o:=.lst (aC.map frD)) (i:=((is.getD j 0:Nat):Int)) hth' (Z5 ⟨by lia,by lia⟩) ?_;refine⟨⟨e3.mono (by decide),e3.mono (by decide),zti.1.mono (by decide),zti.2.mono (by decide),hg⟩,?_⟩;refine⟨by lia,rfl,some (.int (j:Int)),ub,uc,?_⟩;rw[UI g _ _ j e2 t1,<- Et];rfl
    ·have e:j=is.length:=by lia
     refine hx _ _ ⟨rfl,ua,ub,uc,?_⟩;rw[e,yB (by rw[zA];lia),yB (by rw[zA];lia)]
   rintro dl2 S2 ⟨rfl,ua,ub,uc,rfl⟩;generalize hn0:Yu (ZF (gt bs (k:Int))) (sumP g (es.map λe=>(e,e)) (is.map λ(i:Nat)=>gt aC (i:Int)))=near0;have eS:YW g bs (is.map λ(i:Nat)=>gt aC (i:Int)) (is.map λi=>R.getD i []) k es=YY near0 (sumP g ((List.range bs.length).map λc=>YI g k c (es.map λe=>(e,e)) (is.map λi=>R.getD i [])) (bs.map λp=>Yu p (ZF p))):=by rw[<- hn0];rfl
   refine YJ (λdl2 S2=>S'=S2/\∃ua ub uc:Option D,dl2=[some (.ref th),some (.ref md),some (.ref at_),some (.ref bx),some (.int g),some (.ref tu),some (.ref S.length),some (.ref (S.length+1)),some (.int (k:Int)),some (frD (YW g bs (is.map λ(i:Nat)=>gt aC (i:Int)) (is.map λi=>R.getD i []) k es)),ua,ub,uc]) (λnx hx=>?_) ?_
   ·refine Yc hbx' ?_;rw[zA];refine⟨⟨by lia,by lia⟩,λl dl2 S2=>l<=bs.length/\S'=S2/\∃ua ub uc:Option D,dl2=[some (.ref th),some (.ref md),some (.ref at_),some (.ref bx),some (.int g),some (.ref tu),some (.ref S.length),some (.ref (S.length+1)),some (.int (k:Int)),some (frD (YY near0 (sumP g (((List.range bs.length).map λc=>YI g k c (es.map λe=>(e,e)) (is.map λi=>R.getD i [])).take l) ((bs.map λp=>Yu p (ZF p)).take l)))),ua,ub,uc],⟨zL _,rfl,ua,ub,uc,by rw[Gu,zee]⟩,?_⟩;rintro l dl2 S2 ⟨hl,rfl,ua,ub,uc,rfl⟩;rw[zJ];refine YX (λc2=>?_) (λc2=>?_)
    ·refine YJ (λdl2 S2=>S'=S2/\dl2=[some (.ref th),some (.ref md),some (.ref at_),some (.ref bx),some (.int g),some (.ref tu),some (.ref S.length),some (.ref (S.length+1)),some (.int (k:Int)),some (frD (YY near0 (sumP g (((List.range bs.length).map λc=>YI g k c (es.map λe=>(e,e)) (is.map λi=>R.getD i [])).take l) ((bs.map λp=>Yu p (ZF p)).take l)))),ua,some (.int (l:Int)),some (frD (if k=l then (g,g) else (0,0)))]) (λnx2 hx2=>?_) ?_
     ·have sg:Sz 21 g:=Sz.of (10^6) (by lia)
      have mo:∀b:Bool,IntMulOk g (if b then 1 else 0):=λb=>ZV sg (n:=21) (Sz.of 1 (by cases b<;>decide))
      refine⟨mo _,mo _,hx2 _ _ ⟨rfl,?_⟩⟩;by_cases e:k=l
      ·subst e;simp;rfl
      ·have e':¬ ((k:Int)=(l:Int)):=by lia
       rw[if_neg e];simp[e'];rfl
     rintro dl2 S2 ⟨rfl,rfl⟩;generalize hn1:YY near0 (sumP g (((List.range bs.length).map λc=>YI g k c (es.map λe=>(e,e)) (is.map λi=>R.getD i [])).take l) ((bs.map λp=>Yu p (ZF p)).take l))=near1;have zcol:Bd 2000 ((is.map λi=>R.getD i []).map λr=>r.getD l (0,0)):=λp hp=>by
      obtain⟨r,hr,rfl⟩:=zH.mp hp;obtain⟨i,him,rfl⟩:=zH.mp hr;have lr:=(hi i him).1;obtain⟨z1,z2⟩:=zR (R.getD i []) (by rw[zK,zC lr];exact zZ ..);refine z2 _ ?_;show (R.getD i []).getD l (0,0)∈R.getD i [];generalize R.getD i []=r at z1;rw[zK,zC (show l<r.length by lia)];exact zZ ..
     refine YJ (λdl2 S2=>S'=S2/\∃ua:Option D,dl2=[some (.ref th),some (.ref md),some (.ref at_),some (.ref bx),some (.int g),some (.ref tu),some (.ref S.length),some (.ref (S.length+1)),some (.int (k:Int)),some (frD near1),ua,some (.int (l:Int)),some (frD (YI g k l (es.map λe=>(e,e)) (is.map λi=>R.getD i [])))]) (λnx2 hx2=>?_) ?_
     ·refine Yc hat' ?_;rw[zA];refine⟨⟨by lia,by lia⟩,λj dl2 S2=>j<=is.length/\S'=S2/\∃ua:Option D,dl2=[some (.ref th),some (.ref md),some (.ref at_),some (.ref bx),some (.int g),some (.ref tu),some (.ref S.length),some (.ref (S.length+1)),some (.int (k:Int)),some (frD near1),ua,some (.int (l:Int)),some (frD (Yu (if k=l then (g,g) else (0,0)) (sumP g ((es.map λe=>(e,e)).take j) (((is.map λi=>R.getD i []).map λr=>r.getD l (0,0)).take j))))],⟨zL _,rfl,ua,by rw[Gu,E6]⟩,?_⟩;rintro j dl2 S2 ⟨hj,rfl,ua,rfl⟩;rw[zJ];refine YX (λc3=>?_) (λc3=>?_)
      ·obtain⟨e1,e2,e3⟩:=eE j (by lia);obtain⟨i1,i2⟩:=eI j c3;have hij:=hi _ (zN i1)
       have t1:((is.map λi=>R.getD i []).map λr=>r.getD l (0,0))[j]?=some ((R.getD (is.getD j 0) []).getD l (0,0)):=by rw[zG,zG,i1];rfl
       have zti:=zcol _ (zN t1);obtain⟨ab,eab,_,hab⟩:=rp'.at (i:=((is.getD j 0:Nat):Int)) ⟨by lia,by lia⟩;rw[zJ] at hab;obtain⟨z1,_⟩:=zR (R.getD (is.getD j 0) []) (by rw[zK,zC hij.1];exact zZ ..);have eg:gt (R.getD (is.getD j 0) []) (l:Int)=(R.getD (is.getD j 0) []).getD l (0,0):=by
        rw[X4 (zC (show l<(R.getD (is.getD j 0) []).length by lia)),zK (l:=R.getD (is.getD j 0) []),zC (show l<(R.getD (is.getD j 0) []).length by lia)];rfl
       have afr:=Z5 (vs:=R.getD (is.getD j 0) []) (i:=(l:Int)) ⟨by lia,by lia⟩;rw[eg] at afr;refine Zw (o:=.lst ms) (i:=(k:Int)) htu' ear ?_;refine Zw (o:=.lst (es.map D.int)) (i:=(j:Int)) har e1 ?_;refine Zw (o:=.lst ms) (i:=(k:Int)) htu' ear ?_;refine Zw (o:=.lst (es.map D.int)) (i:=(j:Int)) har e1 ?_;refine Zw (o:=.lst (is.map wtD)) (i:=(j:Int)) hat' i2 ?_;refine Zw (o:=.lst ds) (i:=((is.getD j 0:Nat):Int)) hmd' eab ?_;refine Zw (o:=.lst ((R.getD (is.getD j 0) []).map frD)) (i:=(l:Int)) hab afr ?_;refine⟨⟨e3.mono (by decide),e3.mono (by decide),zti.1.mono (by decide),zti.2.mono (by decide),hg⟩,?_⟩;refine⟨by lia,rfl,some (.int (j:Int)),?_⟩;rw[UI g _ _ j e2 t1,<- Et];rfl
      ·have e:j=is.length:=by lia
       refine hx2 _ _ ⟨rfl,ua,?_⟩;rw[e,yB (by rw[zA];lia),yB (by rw[zA,zA];lia)];rfl
     rintro dl2 S2 ⟨rfl,ua,rfl⟩;have zl:Sz 6010 (YI g k l (es.map λe=>(e,e)) (is.map λi=>R.getD i [])).1/\Sz 6010 (YI g k l (es.map λe=>(e,e)) (is.map λi=>R.getD i [])).2:=by
      have s4:Bd 4000 (es.map λe=>(e,e)):=λp hp=>by
       obtain⟨e,he,rfl⟩:=zH.mp hp;exact⟨zE e he,zE e he⟩
      have z:=Io hg.1 s4 zcol is.length (by rw[zA];lia) (by rw[zA,zA];lia);rw[yB (by rw[zA];lia),yB (by rw[zA,zA];lia)] at z;have z1:=z.1.mono (show _<=6005 by lia)
      have z2:=z.2.mono (show _<=6005 by lia)
      have sg:Sz 21 g:=Sz.of (10^6) (by lia)
      have s0:Sz 21 0:=Sz.of 0 (by decide)
      have sw:Sz 21 (if k=l then (g,g) else ((0:Int),(0:Int))).1/\Sz 21 (if k=l then (g,g) else ((0:Int),(0:Int))).2:=by
       by_cases e:k=l
       ·rw[if_pos e];exact⟨sg,sg⟩
       ·rw[if_neg e];exact⟨s0,s0⟩
      unfold YI Yu;exact⟨(sw.1.sub z2).mono (by lia),(sw.2.sub z1).mono (by lia)⟩
     have c3:atI ((bs.map ZF).map frD) (l:Int)=some (frD (ZF (gt bs (l:Int)))):=by
      have z:=Z5 (vs:=bs.map ZF) (i:=(l:Int)) ⟨by lia,by rw[zA];lia⟩;rw[z,X4 (p:=ZF (gt bs (l:Int))) (by rw[zG,X4 (zC c2),zC c2];rfl)]
     have zbl:=zb _ (QA (vs:=bs) (i:=(l:Int)) ⟨by lia,by lia⟩)
     have zm:Sz 61 (mid (gt bs (l:Int))):=D8 zbl.1 zbl.2;refine Zw (o:=.lst (bs.map frD)) (i:=(l:Int)) hbx' (Z5 ⟨by lia,by lia⟩) ?_;refine Zw (o:=.lst ((bs.map ZF).map frD)) (i:=(l:Int)) hC c3 ?_;refine⟨⟨zl.1,zl.2,(zbl.1.sub zm).mono (by lia),(zbl.2.sub zm).mono (by lia),hg⟩,?_⟩;refine⟨by lia,rfl,ua,some (.int (l:Int)),some (frD (YI g k l (es.map λe=>(e,e)) (is.map λi=>R.getD i []))),?_⟩;rw[UI g _ _ l (u:=YI g k l (es.map λe=>(e,e)) (is.map λi=>R.getD i [])) (v:=Yu (gt bs (l:Int)) (ZF (gt bs (l:Int)))) (by rw[zG,xV c2];rfl) (by rw[zG,X4 (zC c2),zC c2];rfl),<- zeq,hn1];rfl
    ·have e:l=bs.length:=by lia
     refine hx _ _ ⟨rfl,ua,ub,uc,?_⟩;rw[e,yB (by rw[zA,xE];lia),yB (by rw[zA];lia),eS]
   rintro dl2 S2 ⟨rfl,ua,ub,uc,rfl⟩;refine VR (n:=S.length+1) (S1:=S') (xs:=((YL g bs aC R is M).take k).map frD) (y:=frD (YW g bs (is.map λ(i:Nat)=>gt aC (i:Int)) (is.map λi=>R.getD i []) k es)) (λK hK=>by exact hK) hF (λK hK=>by exact hK) (by rw[zA,zW];lia) ?_;have lC:=Z7 hC;refine⟨by lia,λx o e=>Yg (pr x o e) (by have:=Z7 e;lia),Yg hC (by lia),?_,_,_,_,_,_,rfl⟩;rw[xB,eD,yC];exact Yv hF
  ·have e:k=bs.length:=by lia
   rw[e,yB (by lia)] at hF;exact h _ _ pr (by lia) hF⟩)
def Bj  (NX:Df K mg q85 NM Pd)(ZM:mg Xz=none)(ZC:mg "len"=none):Fk P w K mg base 1 q85 Pd Fy:=
 NX.mk' (Zy (k:=0) NX.F EK (λ_ _ _ _=>nR λ_=>nR λ_=>nN:Ln (Fy) 2) λ_ _ _ _ _ _ hr=>⟨_,(Zh (XW (i:=2) PassesOwn.never rfl EK.nd rfl (Or.inl rfl) rfl ZM (Za (ZR (ZO Z4) rfl ZC Boot.«len» (Za (dv 1) Ze)) Ze) (Zg (ZL (PDW.pt (VN (XF (ZN WD (Zk (ZE (dv 1) (dv 2)) Zd) (Zk (ZE (dv 0) (dv 2)) Zd) (ZI _))) (Uu (XF (ZN WD (Zk (ZE (dv 0) (dv 2)) Zd) (Zk (ZE (dv 1) (dv 2)) Zd) (ZI _)))))) (Zg (Zp XA)) ZP))) (Zg (Zp XA))),λds S Q ex h=>by
  replace h:=eRR h;obtain⟨f,b,rfl,h⟩:=h;obtain⟨us,vs,hu,hv,l,l9,h⟩:=h;refine Yc hv ?_;rw[zA];refine⟨⟨by lia,by lia⟩,λk dl' S'=>S=S'/\k<=vs.length/\(∀i:Nat,i<k->(gt vs (i:Int)).1<(gt us (i:Int)).1/\(gt us (i:Int)).2<(gt vs (i:Int)).2)/\∃u:Option D,dl'=[some (.ref f),some (.ref b),u],⟨rfl,zL _,λi hi=>by lia,_,rfl⟩,?_⟩;rintro k dl' S' ⟨rfl,hk,hd,u,rfl⟩;rw[zJ];have no:∀i:Nat,i<vs.length->¬((gt vs (i:Int)).1<(gt us (i:Int)).1/\(gt us (i:Int)).2<(gt vs (i:Int)).2)->XU us vs=false:=λi hi hn=>by
   cases e:XU us vs
   ·rfl
   ·have z:=G3.mp e i us[i] vs[i] (zC (by lia)) (zC hi);rw[X4 (zC (show i<us.length by lia)),X4 (zC hi)] at hn;exact absurd z hn
  refine YX (λc=>?_) (λc=>?_)
  ·have kv:inR ((vs.length:Nat):Int) (k:Int):=⟨by lia,by lia⟩
   have ku:inR ((us.length:Nat):Int) (k:Int):=⟨by lia,by lia⟩;refine Zw (o:=.lst (vs.map frD)) hv (Z5 kv) ?_;refine Zw (o:=.lst (us.map frD)) hu (Z5 ku) ?_;refine ifN (λw1=>?_) (λw1=>?_)
   ·rw[no k c (λz=>w1 z.1)] at h;exact h
   refine Zw (o:=.lst (us.map frD)) hu (Z5 ku) ?_;refine Zw (o:=.lst (vs.map frD)) hv (Z5 kv) ?_;refine ifN (λw2=>?_) (λw2=>?_)
   ·rw[no k c (λz=>w2 z.2)] at h;exact h
   refine⟨rfl,c,λi hi=>?_,_,rfl⟩;by_cases e:i=k
   ·subst e;exact⟨w1,w2⟩
   ·exact hd i (by lia)
  ·have e:XU us vs=true:=G3.mpr λi p q hp hq=>by
    have hi:=(zF.mp hq).1
    have z:=hd i (by lia);rw[X4 hp,X4 hq] at z;exact z
   rw[e] at h;exact h⟩)
def AV  (Le:Df K mg q95 Pc Ov)(IK:Fk P w K mg base 1 q85 Pd Fy)(U7:Fk P w K mg base 2 q72 S6 OU)(Hm:Fk P w K mg base 2 q43 Pp FT)(FL:Fk P w K mg base 1 q86 P6 Ip)(ZC:mg "len"=none):Fk P w K mg base 3 q95 Ov F1:=
 Le.mk' (Zy (k:=2) Le.F Mg (λ_ _ _ _=>nR λ_=>nR λ_=>nR λ_=>nR λ_=>nR λ_=>nI λ_=>nN:Ln (F1) 6) λ_ _ _ _ _ _ hr=>⟨_,(Zh (U5 (x:="_law_row") (N:=[]) (caps:=[]) (ar:=Zj Pc) rfl rfl csc rfl (by decide) (i:=6) Mg.nd rfl rfl (dv 0) (λ_ _ _ _ _ _=>Ko (ZN (ZY hr) (Zk (dv 0) Zd) Z6 (ZI _))) (λ_ _ _ _ _ _=>(Zk (dv 0) Zd))) (Zh (ZL (PDW.pt (VN (ZN (Ul hr) (ZR (ZO Z4) rfl ZC Boot.«len» (Za (dv 6) Ze)) (ZR (ZO Z4) rfl ZC Boot.«len» (Za (dv 4) Ze)) (ZI _)) (Uu (XF (Y5 (Zi FL hr (Za (dv 0) (Za (dv 1) Ze)))))))) (Zg (Zp Wq)) ZP) (Zh (ZD (i:=7) Mg.nd (Zi Hm hr (Za (dv 3) (Za (dv 6) (Za (dv 5) Ze))))) (Zh (ZL (ZN JP (dv 7) Wq (ZI _)) (Zg (Zp Wq)) ZP) (Zh (ZD (i:=8) Mg.nd (Zi U7 hr (Za (dv 2) (Za (dv 3) (Za (dv 6) (Za (dv 4) (Za (dv 5) (Za (dv 7) Ze)))))))) (Zh (ZL (XF (Y5 (Zi IK hr (Za (dv 8) (Za (dv 4) Ze))))) (Zg (Zp Wq)) ZP) (Zg (Zp (ZX (Za (dv 7) (Za (dv 8) Ze))))))))))),λds S Q ex h=>by
  replace h:=zb1 h;obtain⟨rw,v,th_,md,bx,g,rfl,h⟩:=h;obtain⟨rows,bs,vs,th,R,ds,hr,hv,ht,hm,rp,hb,r9,hi,zR,hq,zb,zt,hg,hN,hY⟩:=h;refine LX (n:=rw) (S1:=S) (o:=.lst (rows.map rwD)) (λd=>match d with|.tup [.str w,.int at']=>if w="zero" then some (.int at') else none|_=>none) (λK hK=>by exact hK) hr (by show (rows.map rwD).length<=1000;rw[zA];lia) (λx hx S2 K pr hK=>?_) (λx hx y hy S2 K pr hK=>?_) ?_
  ·have hx':x∈rows.map rwD:=hx;obtain⟨⟨b,n⟩,_,rfl⟩:=zH.mp hx';cases b
   ·exact hK
   ·exact hK
  ·have hx':x∈rows.map rwD:=hx;obtain⟨⟨b,n⟩,_,rfl⟩:=zH.mp hx';cases b
   ·exact absurd hy (by
     simp[rwD];intro z;exact absurd z (by decide))
   ·cases hy;exact hK
  rw[show (Zu (.lst (rows.map rwD))).filterMap (λd=>match d with|.tup [.str w,.int at']=>if w="zero" then some (.int at') else none|_=>none)=(eqs rows).map wtD from E3 rows];have P0:Pre S (S++[Ob.lst ((eqs rows).map wtD)]):=W4 _
  have hA:=Zv S (.lst ((eqs rows).map wtD));refine Yc hA ?_;refine Yc (P0 _ _ hb) ?_;rw[zA,zA];refine ifN (λc=>?_) (λc=>?_)
  ·exact hN (by unfold Uh;rw[if_neg (λz=>c (by rw[z.1]))]) _ P0
  have lq:(eqs rows).length=bs.length:=by lia
  refine⟨rows,vs,P0 _ _ hr,P0 _ _ hv,λr hr=>(hi r hr).1,?_⟩;cases eL:XG rows vs
  ·exact hN (by unfold Uh;rw[if_neg (λz=>by rw[eL] at z;cases z.2)]) _ P0
  have hi':∀i∈eqs rows,i<R.length/\i<th.length:=λi him=>(hi _ (G6 him)).2
  have e1:Uh g bs vs th R rows=if ZJ bs.length (Z9 R (eqs rows))=0 then none else if XU (YL g bs th R (eqs rows) (Yi (Z9 R (eqs rows)) (bs.length-1) (ZJ bs.length (Z9 R (eqs rows))) g)) bs=true then some (Yi (Z9 R (eqs rows)) (bs.length-1) (ZJ bs.length (Z9 R (eqs rows))) g,YL g bs th R (eqs rows) (Yi (Z9 R (eqs rows)) (bs.length-1) (ZJ bs.length (Z9 R (eqs rows))) g)) else none:=by
   unfold Uh;rw[if_pos ⟨lq,eL⟩]
  rw[e1] at hN hY;generalize eqs rows=is at *
  refine⟨bs.length,R,ds,is,P0 _ _ hm,rp.pre P0,hA,lq,hq,λi hi=>(hi' i hi).1,zR,hg,λz T pT=>?_,λz T m ms pT lm hT ri zI=>?_⟩
  ·exact hN (by rw[if_pos z]) _ λx o e=>pT _ _ (P0 _ _ e)
  rw[if_neg z] at hN hY;have P1:Pre S T:=λx o e=>pT _ _ (P0 _ _ e)
  have lI:(Yi (Z9 R is) (bs.length-1) (ZJ bs.length (Z9 R is)) g).length=bs.length:=by rw[HL];lia
  generalize Yi (Z9 R is) (bs.length-1) (ZJ bs.length (Z9 R is)) g=M at ri zI hN hY lI;refine⟨R,ds,ms,is,bs,th,M,P1 _ _ ht,P1 _ _ hm,rp.pre P1,pT _ _ hA,P1 _ _ hb,hT,ri,lq,lI,hq,hi',λr hr=>⟨(zR r hr).1,λp hp=>⟨((zR r hr).2 p hp).1.mono (by decide),((zR r hr).2 p hp).2.mono (by decide)⟩⟩,zI,zb,zt,hg,λT2 m2 p2 lm2 h2=>?_⟩;have P2:Pre S T2:=λx o e=>p2 _ _ (P1 _ _ e)
  refine⟨YL g bs th R is M,bs,h2,P2 _ _ hb,by rw[CN,lI],by lia,?_⟩;cases eD:XU (YL g bs th R is M) bs
  ·exact hN (by rw[if_neg (by rw[eD];decide)]) _ P2
  ·exact hY _ _ (by rw[if_pos eD]) T2 m m2 ms P2 (p2 _ _ hT) (ri.pre p2) h2⟩)
def Bf  (Ib:Df K mg q68 Ls QQ):Fk P w K mg base 1 q68 QQ Gi:=
 Ib.mk' (Zy (k:=0) Ib.F za5 (λ_ _ _ _=>nI λ_=>nN:Ln (Gi) 1) λ_ _ _ _ _ _ hr=>⟨_,(Zh (ZL (ZN (ZY hr) (Zf Yb (dv 0) Zd) Zd (ZI _)) (Zg (Zp (Zf YV (Zf YO (Zf Ym (dv 0) Zd) (Zf ZU (Zf ZW Zd (Zf SU Zd Zd)) Zd)) (Zf SU Zd Zd)))) ZP) (Zg (Zp (Zf YV (Zf Yb (Zf Ym (dv 0) Zd) Zd) Zd)))),λds S Q ex h=>by
  replace h:=eI h;obtain⟨c,rfl,h⟩:=h;have e60:(10:Int)^Int.toNat 60=1000000000000000000000000000000000000000000000000000000000000:=rfl
  have r0:=YC (a:=c/2) (b:=2*10^Int.toNat 60+1) (by decide)
  have mo:IntMulOk 2 (10^Int.toNat 60):=ZV (m:=2) (n:=200) (by unfold Sz;decide) (by unfold Sz;decide);refine ifD (c:=c%2=1) (λ_=>?_) (λ_=>?_)
  ·exact⟨mo,show (0:Int)<2*10^Int.toNat 60+1 by decide,h _ (Sz.of (10^60) (by lia))⟩
  ·exact h _ (Sz.of 100 (by lia))⟩)
def zbr  (Ia:Df K mg "step" JS Ou)(U9:Fk P w K mg base 6 XS Rb MK)(Ru:Fk P w K mg base 6 q70 SG Kb)(TF:Fk P w K mg base 5 q39 TR Kv)(Sj:Fk P w K mg base 1 q19 Sv Jy):Fk P w K mg base 7 "step" Ou Hj:=
 Ia.mk' (Zy (k:=6) Ia.F Gx (λ_ _ _ _=>nR λ_=>nR λ_=>nR λ_=>nI λ_=>nR λ_=>nN:Ln (Hj) 5) λ_ _ _ _ _ _ hr=>⟨_,(Zh (ZD (i:=5) Gx.nd (Zi Sj hr (Za (dv 1) Ze))) (Zh (ZD (i:=6) Gx.nd (Zi TF hr (Za (dv 0) (Za (dv 5) (Za (dv 2) (Za (dv 3) Ze)))))) (Zg (Zp (Zi U9 hr (Za (dv 2) (Za (dv 3) (Za (dv 4) (Za (dv 6) (Za (Zi Ru hr (Za (dv 0) (Za (dv 5) (Za (dv 2) (Za (dv 3) Ze))))) Ze)))))))))),λds S Q ex h=>by
  replace h:=C8 h;obtain⟨a,r,b,g,u,rfl,h⟩:=h;obtain⟨ns,ws,bs,rows,M,ms,ha,hb,net,sb,hg,l7,b9,hr,r9,e4,hi,bl,hu,mi,lM,zM,h⟩:=h;refine⟨rows,hr,r9,?_⟩;have P0:Pre S (S++[Ob.lst ((eqs rows).map wtD)]):=Pre.refl.push
  have hp:=Zv S (.lst ((eqs rows).map wtD));refine⟨ns,ws,bs,eqs rows,P0 _ _ ha,P0 _ _ hb,net,sb,hg,l7,b9,hp,by lia,hi,λT m pr lm hm=>?_⟩;have P1:Pre S T:=λx o z=>pr _ _ (P0 _ _ z)
  refine⟨ns,ws,bs,eqs rows,P1 _ _ ha,P1 _ _ hb,net,sb,hg,l7,b9,pr _ _ hp,by lia,hi,λT1 m1 ds pr1 lm1 h1 rowsT=>?_⟩;have P2:Pre S T1:=λx o z=>pr1 _ _ (P1 _ _ z)
  have szw:=I0 net rfl sb hg
  have w16:∀k:Nat,k<ns.length->ws.getD k 0<=16:=λk hk=>by
   have z:=(net.w1 (i:=(k:Int)) ⟨by lia,by lia⟩).2
   rwa [zJ] at z
  have slw:SlW bs.length ws (ZT (Zo bs g ns) g bs.length ns):=by
   have z:=Od net szw (Y2 _ _ _) hg ns.length (zD _)
   rwa [yE] at z
  have zr:∀r∈((eqs rows).map λ(i:Nat)=>(ZT (Zo bs g ns) g bs.length ns).getD i []),r.length=bs.length/\Bd 2000 r:=λr hr=>by
   obtain⟨i,him,rfl⟩:=zH.mp hr;have hin:=hi i him
   have hl:i<(ZT (Zo bs g ns) g bs.length ns).length:=by rw[VU];exact hin
   have e:(ZT (Zo bs g ns) g bs.length ns).getD i []=(ZT (Zo bs g ns) g bs.length ns)[i]:=by simp[hl]
   obtain⟨z1,z2⟩:=slw i _ (zC hl);rw[e];have w:=w16 i hin;exact⟨z1,λp hp=>⟨(z2 p hp).2.1.mono (by lia),(z2 p hp).2.2.mono (by lia)⟩⟩
  have zt:Bd 2000 ((eqs rows).map λ(i:Nat)=>gt (Zo (bs.map ZF) g ns) i):=λp hp=>by
   obtain⟨i,him,rfl⟩:=zH.mp hp;have net2:ZS ((bs.map ZF).length:Nat) ns ws:=by rw[zA];exact net
   have sp:=K8 net2 rfl (HS sb) hg ns.length (zD _);rw[yE] at sp;have z:=sp.at (i:=(i:Int)) ⟨by lia,by rw[Y2];have:=hi i him;lia⟩;exact⟨z.2.1.mono (by decide),z.2.2.mono (by decide)⟩
  refine⟨bs,((eqs rows).map λ(i:Nat)=>gt (Zo (bs.map ZF) g ns) i),M,ms,((eqs rows).map λ(i:Nat)=>(ZT (Zo bs g ns) g bs.length ns).getD i []),ds,P2 _ _ hu,mi.pre P2,lM,zM,P2 _ _ hb,pr1 _ _ hm,h1,rowsT,zr,bl,by rw[zA];exact e4,by rw[zA];exact e4,λp hp=>⟨(sb p hp).2.1.mono (by decide),(sb p hp).2.2.mono (by decide)⟩,zt,hg,?_⟩;refine h _ _ (λx o z=>ZA (P2 _ _ z)) ?_ (Zv _ _);have:=VZ P2;lia⟩)
def zcF  (Jx:Df K mg "law" WO NQ)(Rg:Fk P w K mg base 3 q54 TN Kk)(GC:Fk P w K mg base 7 "step" Ou Hj)(U7:Fk P w K mg base 2 q72 S6 OU)(G8:Fk P w K mg base 1 q68 QQ Gi)(YM:Fk P w K mg base 2 q46 V2 SR)(G4:Fk P w K mg base 4 q67 RS Fi)(Fe:Fk P w K mg base 3 q95 Ov F1)(FH:Fk P w K mg base 12 X3 Qt HA)(UE:Fk P w K mg base 4 q41 Td KA)(FZ:Fk P w K mg base 5 q50 PK IZ)(FY:Fk P w K mg base 1 q42 QM FA)(Ge:Fk P w K mg base 6 q52 QJ FP)(Hk:Fk P w K mg base 3 q84 PR G5)(Hn:Fk P w K mg base 1 q83 PX HJ)(YN:mg "list"=none)(ZM:mg Xz=none)(ZC:mg "len"=none):Fk P w K mg base 13 "law" NQ SE:=
 Jx.mk' (Zy (k:=12) Jx.F XN A3 λ_ _ _ _ _ _ hr=>⟨_,(Zh (ZD (i:=1) XN.nd (ZE (Y1 (Za Zd (Za Zd (Za Zd (Za Zd (Za Zd (Za Zd (Za Zd (Za Zd Ze))))))))) (Zf Yb (Zi YM hr (Za (dv 0) (Za Zd Ze))) Zd))) (Zh (ZD (i:=2) XN.nd (Zi Hn hr (Za (Zi YM hr (Za (dv 0) (Za Zd Ze))) Ze))) (Zh (ZD (i:=3) XN.nd (Zi Hk hr (Za (dv 0) (Za (dv 1) (Za (dv 2) Ze))))) (Zh (zdf (is:=[4,5]) rfl XN.nd (Nms.cons (i:=4) rfl (Or.inl rfl) (by first|exact .inl rfl|exact .inr rfl) (Nms.cons (i:=5) rfl (Or.inl rfl) (by first|exact .inl rfl|exact .inr rfl) Nms.nil)) (Zi Ge hr (Za (dv 0) (Za (dv 1) (Za (dv 2) (Za (dv 3) Ze)))))) (Zh (Yr (Zi FY hr (Za (dv 5) (Za (Zi YM hr (Za (dv 0) (Za Zd Ze))) (Za (ZR (ZO Z4) rfl ZC Boot.«len» (Za (dv 4) Ze)) (Za (dv 1) Ze)))))) (Zh (ZD (i:=6) XN.nd (Zi UE hr (Za (dv 4) (Za (dv 3) (Za (dv 2) Ze))))) (Zh (ZD (i:=7) XN.nd (Zi FZ hr (Za (dv 4) (Za (dv 6) (Za (dv 1) (Za (dv 2) Ze)))))) (Zh (ZD (i:=8) XN.nd (Zi UE hr (Za (dv 4) (Za (WU (x:="_law_span_here") (N:=[]) (caps:=[]) (ar:=Zj WO) rfl rfl csc rfl (by decide) (dv 3) (λ_ _ _ _ _ _=>Yt) (λ_ _ _ _ _ _=>(ZX (Za (Zf Ym (Zf ZU (Zk (dv 0) Zd) (Zk (dv 0) Zd)) Zd) (Za (Zf Ym (Zf ZU (Zk (dv 0) Zd) (Zk (dv 0) Zd)) Zd) Ze))))) (Za (dv 2) Ze))))) (Zh (ZD (i:=9) XN.nd (Zi FH hr (Za (WR (ZO Uw) rfl YN Boot.«list» (Za (dv 4) Ze)) (Za (WR (ZO Uw) rfl YN Boot.«list» (Za (dv 5) Ze)) (Za (WR (ZO Uw) rfl YN Boot.«list» (Za (dv 3) Ze)) (Za (dv 2) Ze)))))) (Zh (ZL (XF (Y5 (Zi G4 hr (Za (dv 9) (Za (Zi Fe hr (Za (dv 5) (Za (dv 6) (Za (dv 8) (Za (dv 7) (Za (dv 3) (Za (dv 2) Ze))))))) Ze))))) (Zg (Zp XA)) ZP) (Zh (U5 (x:="_law_row") (N:=[]) (caps:=[]) (ar:=Zj WO) rfl rfl csc rfl (by decide) (i:=10) XN.nd rfl rfl (dv 5) (λ_ _ _ _ _ _=>Ko (ZN (ZY hr) (Zk (dv 0) Zd) Z6 (ZI _))) (λ_ _ _ _ _ _=>(Zk (dv 0) Zd))) (Zh (ZL (ZN (Ul hr) (ZR (ZO Z4) rfl ZC Boot.«len» (Za (dv 10) Ze)) (dv 1) (ZI _)) (Zg (Zp XA)) ZP) (Zh (ZD (i:=11) XN.nd (Y1 Ze)) (Zh (XW (i:=12) PassesOwn.never rfl XN.nd rfl (Or.inr rfl) rfl ZM (Za (dv 1) Ze) (Zg (Yr (Y0 (dv 11) (Vu (x:="_law_k") (N:=["_law_script","_law_row"]) (caps:=[0,12]) (ar:=Zj WO) rfl rfl csc rfl (by decide) rfl ZM (Za (dv 1) Ze) (λ_ _ _ _ _ _=>Yt) (λ_ _ _ _ _ _=>(Zi G8 hr (Za (Zi YM hr (Za (dv 1) (Za (Zf ZU (Zf ZU Zd (Zf ZW Zd (dv 2))) (dv 0)) Ze))) Ze)))))))) (Zh (ZD (i:=13) XN.nd (Zi U7 hr (Za (dv 8) (Za (dv 7) (Za (dv 10) (Za (dv 3) (Za (dv 2) (Za (dv 11) Ze)))))))) (Zh (ZD (i:=14) XN.nd (Zi GC hr (Za (WR (ZO Uw) rfl YN Boot.«list» (Za (dv 4) Ze)) (Za (WR (ZO Uw) rfl YN Boot.«list» (Za (dv 5) Ze)) (Za (WR (ZO Uw) rfl YN Boot.«list» (Za (dv 3) Ze)) (Za (dv 2) (Za (WU (x:="_law_row") (N:=[]) (caps:=[]) (ar:=Zj WO) rfl rfl csc rfl (by decide) (dv 11) (λ_ _ _ _ _ _=>Yt) (λ_ _ _ _ _ _=>(WR (ZO Uw) rfl YN Boot.«list» (Za (dv 0) Ze)))) Ze))))))) (Zg (Zp (US (Zi Rg hr (Za (dv 14) (Za (dv 1) Ze))) (SD (Xe (zcg hr) (dv 14) (dv 13) (ZI _)))))))))))))))))))))),λds S Q ex h=>by
  obtain⟨cs,rfl,rfl,hl,h⟩:=h;refine YJ (λdl' S'=>∃q:Nat,(1<=q/\q<=3)/\S'[0]?=some (.frz (cs.map D.int))/\dl'=some (.ref 0)::some (.int (q:Int))::N13) (λnx hx=>?_) ?_
  ·refine⟨cs,rfl,⟨by decide,by decide⟩,λv0=>?_⟩;have r8:=YC (a:=v0) (b:=8) (by decide)
   have ix:∀z:Int,v0%8=z->∀q:Nat,(1<=q/\q<=3)->atI [D.int 1,D.int 2,D.int 1,D.int 2,D.int 3,D.int 2,D.int 1,D.int 2] z=some (.int (q:Int))->Xs wIx (.ref [Ob.frz (cs.map D.int)].length) (.int (v0%8)) ([Ob.frz (cs.map D.int)]++[Ob.lst [D.int 1,D.int 2,D.int 1,D.int 2,D.int 3,D.int 2,D.int 1,D.int 2]]) λd S1=>nx (some (.ref 0)::some d::N13) S1:=λz ez q hq hz=>by
    rw[ez];exact Zw (o:=.lst _) (i:=z) (Zv _ _) hz (hx _ _ ⟨q,hq,rfl,rfl⟩)
   have e8:v0%8=0\/v0%8=1\/v0%8=2\/v0%8=3\/v0%8=4\/v0%8=5\/v0%8=6\/v0%8=7:=by lia
   rcases e8 with e|e|e|e|e|e|e|e
   ·exact ix 0 e 1 ⟨by decide,by decide⟩ rfl
   ·exact ix 1 e 2 ⟨by decide,by decide⟩ rfl
   ·exact ix 2 e 1 ⟨by decide,by decide⟩ rfl
   ·exact ix 3 e 2 ⟨by decide,by decide⟩ rfl
   ·exact ix 4 e 3 ⟨by decide,by decide⟩ rfl
   ·exact ix 5 e 2 ⟨by decide,by decide⟩ rfl
   ·exact ix 6 e 1 ⟨by decide,by decide⟩ rfl
   ·exact ix 7 e 2 ⟨by decide,by decide⟩ rfl
  rintro dl' S' ⟨q,⟨q1,q2⟩,h0,rfl⟩;refine YJ (λdl' S2=>S2=S'/\∃g:Int,(1<=g/\g<=1000000)/\dl'=some (.ref 0)::some (.int (q:Int))::some (.int g)::N12) (λnx hx=>?_) ?_
  ·refine⟨cs,h0,⟨by decide,by decide⟩,λv1=>?_⟩;exact λg hg g2=>hx _ _ ⟨rfl,g,⟨hg,g2⟩,rfl⟩
  rintro dl' S2 ⟨rfl,g,hg,rfl⟩;refine YJ (λdl' S2=>∃(mb:Nat)(B:LI),S2[0]?=some (.frz (cs.map D.int))/\S2[mb]?=some (.lst (B.map frD))/\B.length=q/\Spn 51 B/\(frS cs=false->∀p∈B,p.1.natAbs<=4*g.natAbs/\p.2.natAbs<=4*g.natAbs)/\dl'=some (.ref 0)::some (.int (q:Int))::some (.int g)::some (.ref mb)::N11) (λnx hx=>?_) ?_
  ·exact⟨cs,q,h0,⟨rfl,q2⟩,hg,λT m B pr lm hB lB sb fr=>hx _ _ ⟨m,B,pr _ _ h0,hB,lB,sb,fr,rfl⟩⟩
  clear h0;rintro dl' S2 ⟨mb,B,h0,hB,lB,sb,fr,rfl⟩;refine YJ (λdl' S3=>∃(mn mr:Nat)(ys:List Nd)(wy:List Nat)(rs:List (Bool×Nat)),Pre S2 S3/\S2.length<=mn/\S2.length<=mr/\mn≠mr/\S3[mn]?=some (.lst (ys.map Nd.d))/\S3[mr]?=some (.lst (rs.map rwD))/\ZS q ys wy/\(1<=ys.length/\ys.length<=60)/\(1<=rs.length/\rs.length<=10)/\(∀r∈rs,r.2<ys.length)/\dl'=some (.ref 0)::some (.int (q:Int))::some (.int g)::some (.ref mb)::some (.ref mn)::some (.ref mr)::N9) (λnx hx=>?_) ?_
  ·refine⟨cs,q,B,h0,⟨rfl,q1,q2⟩,hB,lB,by lia,hg,sb,fr,λT a m ns' ws' rs net l1 l2 hN hR li his la lm ne pr=>?_⟩;exact⟨rfl,hx _ _ ⟨a,m,ns',ws',rs,pr,la,lm,ne,hN,hR,net,⟨l1,l2⟩,li,his,rfl⟩⟩
  rintro dl' S3 ⟨mn,mr,ys,wy,rs,pr,ln,lr,nr,hN,hR,net,ly,li,his,rfl⟩;have l0:=Z7 h0
  have lb:=Z7 hB;replace h0:=pr _ _ h0;replace hB:=pr _ _ hB;clear pr;refine YJ (λdl' S5=>∃rows:List (Bool×Nat),S5[0]?=some (.frz (cs.map D.int))/\S5[mb]?=some (.lst (B.map frD))/\S5[mn]?=some (.lst (ys.map Nd.d))/\S5[mr]?=some (.lst (rows.map rwD))/\(∀x∈rows,x.2<ys.length)/\rows.length<=12/\dl'=some (.ref 0)::some (.int (q:Int))::some (.int g)::some (.ref mb)::some (.ref mn)::some (.ref mr)::N9) (λnx hx=>?_) ?_
  ·refine⟨cs,h0,⟨by decide,by decide⟩,λv2=>?_⟩;refine Yc hN ?_;rw[zA];refine⟨q,ys.length,rs,⟨rfl,q1,q2⟩,⟨rfl,ly.1,by lia⟩,li,his,hR,λrows hx6 l6=>?_⟩;exact hx _ _ ⟨rows,Yg h0 (by lia),Yg hB (by lia),Yg hN (by lia),Yv hR,hx6,l6,rfl⟩
  clear h0 hB hN hR his li;clear rs;rintro dl' S7 ⟨rows,h0,hB,hN,hR,r6,l6,rfl⟩;have netB:ZS B.length ys wy:=by rw[lB];exact net
  have w16:∀k:Nat,k<ys.length->wy.getD k 0<=16:=λk hk=>by
   have z:=(net.w1 (i:=(k:Int)) ⟨by lia,by lia⟩).2
   rwa [zJ] at z
  refine YJ (λdl' S8=>∃mv:Nat,Pre S7 S8/\S8[mv]?=some (.lst ((Zo B g ys).map frD))/\dl'=some (.ref 0)::some (.int (q:Int))::some (.int g)::some (.ref mb)::some (.ref mn)::some (.ref mr)::some (.ref mv)::N8) (λnx hx=>?_) ?_
  ·exact⟨ys,wy,B,hN,hB,netB,sb,hg,by lia,λT m pr lm hV=>hx _ _ ⟨m,pr,hV,rfl⟩⟩
  rintro dl' S8 ⟨mv,pr,hV,rfl⟩;replace h0:=pr _ _ h0;replace hB:=pr _ _ hB;replace hN:=pr _ _ hN;replace hR:=pr _ _ hR;clear pr;have lv:(Zo B g ys).length=ys.length:=Y2 ..
  have szw:SzW wy (Zo B g ys):=by
   have z:=PH netB rfl sb hg ys.length (zD _)
   rwa [yE] at z
  refine YJ (λdl' S9=>∃(mm:Nat)(ds:List D),Pre S8 S9/\S9[mm]?=some (.lst ds)/\Z2 S9 0 ds (ZT (Zo B g ys) g B.length ys)/\dl'=some (.ref 0)::some (.int (q:Int))::some (.int g)::some (.ref mb)::some (.ref mn)::some (.ref mr)::some (.ref mv)::some (.ref mm)::N7) (λnx hx=>?_) ?_
  ·exact⟨q,ys,wy,Zo B g ys,hN,hV,net,szw,lv,⟨rfl,by lia⟩,hg,by lia,λT m ds pr lm hM rp=>hx _ _ ⟨m,ds,pr,hM,by rw[lB];exact rp.low (zL _),rfl⟩⟩
  rintro dl' S9 ⟨mm,ds,pr,hM,rp,rfl⟩;replace h0:=pr _ _ h0;replace hB:=pr _ _ hB;replace hN:=pr _ _ hN;replace hR:=pr _ _ hR;replace hV:=pr _ _ hV;clear pr;refine YJ (λdl' S10=>∃mt:Nat,Pre S9 S10/\S10[mt]?=some (.lst ((Zo (B.map ZF) g ys).map frD))/\dl'=some (.ref 0)::some (.int (q:Int))::some (.int g)::some (.ref mb)::some (.ref mn)::some (.ref mr)::some (.ref mv)::some (.ref mm)::some (.ref mt)::N6) (λnx hx=>?_) ?_
  ·refine Wz (n:=mb) (S1:=S9) (o:=.lst (B.map frD)) UX (λK hK=>by exact hK) hB (by show (B.map frD).length<=1000;rw[zA];lia) (λx hx S3 K3 p3 hK3=>?_) ?_
   ·obtain⟨v,_,rfl⟩:=zH.mp (show x∈B.map frD from hx);exact hK3
   have ei:(Zu (Ob.lst (B.map frD))).map UX=(B.map ZF).map frD:=FV B;rw[ei];exact⟨ys,wy,B.map ZF,ZA hN,Zv _ _,by rw[zA];exact netB,sb.mids,hg,by lia,λT m pr lm hT=>hx _ _ ⟨m,λx o e=>pr _ _ (ZA e),hT,rfl⟩⟩
  rintro dl' S10 ⟨mt,pr,hT,rfl⟩;replace rp:=rp.pre pr;replace h0:=pr _ _ h0;replace hB:=pr _ _ hB;replace hN:=pr _ _ hN;replace hR:=pr _ _ hR;replace hV:=pr _ _ hV;replace hM:=pr _ _ hM;clear pr;have lt:(Zo (B.map ZF) g ys).length=ys.length:=Y2 ..
  have szt:SzW wy (Zo (B.map ZF) g ys):=by
   have z:=PH (bs:=B.map ZF) (by rw[zA];exact netB) rfl sb.mids hg ys.length (zD _)
   rwa [yE] at z
  have spT:=szt.spn (λk hk=>w16 k (by lia))
  have zbB:Bd 60 B:=λp hp=>⟨(sb p hp).2.1.mono (by decide),(sb p hp).2.2.mono (by decide)⟩
  have zt:Bd 2000 (Zo (B.map ZF) g ys):=λp hp=>⟨(spT p hp).2.1.mono (by decide),(spT p hp).2.2.mono (by decide)⟩
  have lR:(ZT (Zo B g ys) g B.length ys).length=ys.length:=VU ..
  have zR:∀r∈ZT (Zo B g ys) g B.length ys,r.length=B.length/\Bd 1100 r:=λr hr=>by
   obtain⟨k,hk⟩:=List.mem_iff_getElem?.mp hr;have lk:=(zF.mp hk).1
   have slw:=Od netB szw lv hg ys.length (zD _);rw[yE] at slw;obtain⟨z1,z2⟩:=slw k r hk;have w:=w16 k (by lia);exact⟨z1,λp hp=>⟨(z2 p hp).2.1.mono (by lia),(z2 p hp).2.2.mono (by lia)⟩⟩
  refine YJ (λdl' S11=>∃f:D,Pre S10 S11/\(alS g B ys rows=none->f=.non)/\(∀(M:List (List Int))(aE:LI),alS g B ys rows=some (M,aE)->∃(m n:Nat)(ms:List D),f=.tup [.ref m,.ref n]/\S11[m]?=some (.lst ms)/\YG S11 ms M/\S11[n]?=some (.lst (aE.map frD)))/\dl'=some (.ref 0)::some (.int (q:Int))::some (.int g)::some (.ref mb)::some (.ref mn)::some (.ref mr)::some (.ref mv)::some (.ref mm)::some (.ref mt)::some f::N5) (λnx hx=>?_) ?_
  ·refine U4 (Z1 hN rfl) ?_;refine U4 (Z1 (ZA hR) rfl) ?_;refine U4 (Z1 (ZA (ZA hB)) rfl) ?_;dsimp only[Zu];have p3:Pre S10 (S10++[Ob.lst (ys.map Nd.d)]++[Ob.lst (rows.map rwD)]++[Ob.lst (B.map frD)]):=Oi (Oi (W4 _));refine⟨ys,wy,B,rows,ZA (ZA (Zv _ _)),Zv _ _,netB,sb,hg,by lia,by lia,ZA (Zv _ _),by lia,r6,⟨by lia,by lia⟩,λe T pT=>?_,λM aE e T m n ms pT hm ri hn ln=>?_⟩
   ·exact hx _ _ ⟨.non,λx o z=>pT _ _ (p3 _ _ z),λ_=>rfl,λM aE z=>(by rw[e] at z;cases z),rfl⟩
   ·refine hx _ _ ⟨_,λx o z=>pT _ _ (p3 _ _ z),λz=>(by rw[e] at z;cases z),λM' near' z=>?_,rfl⟩;rw[e] at z;cases z;exact⟨m,n,ms,rfl,hm,ri,hn⟩
  rintro dl' S11 ⟨f,pr,fN,fS,rfl⟩;replace rp:=rp.pre pr;replace h0:=pr _ _ h0;replace hB:=pr _ _ hB;replace hN:=pr _ _ hN;replace hR:=pr _ _ hR;replace hV:=pr _ _ hV;replace hM:=pr _ _ hM;replace hT:=pr _ _ hT;clear pr;refine YJ (λdl' S12=>Pre S11 S12/\dl'=some (.ref 0)::some (.int (q:Int))::some (.int g)::some (.ref mb)::some (.ref mn)::some (.ref mr)::some (.ref mv)::some (.ref mm)::some (.ref mt)::some f::N5) (λnx hx=>?_) ?_
  ·refine⟨rows,B,Zo B g ys,Zo (B.map ZF) g ys,ZT (Zo B g ys) g B.length ys,ds,hR,hV,hT,hM,rp,hB,by lia,λr hr=>by rw[lv,lR,lt];exact⟨r6 r hr,r6 r hr,r6 r hr⟩,zR,⟨by lia,by lia⟩,zbB,zt,hg,λe T pT=>?_,λM aE e T m n ms pT hm ri hn=>?_⟩
   ·rw[Du] at e;refine .inl ⟨fN e,rfl,?_⟩;refine YF ?_;exact hx _ _ ⟨pT,rfl⟩
   ·rw[Du] at e;obtain⟨m',n',ms',rfl,hm',ri',hn'⟩:=fS M aE e;obtain⟨_,lM,lE,en,_⟩:=zeu e (by lia);refine .inr ⟨m',n',m,n,ms',ms,M,aE,rfl,rfl,pT _ _ hm',ri'.pre pT,pT _ _ hn',hm,ri,hn,?_,by lia,λr hr=>by rw[lE r hr];lia,?_⟩
    ·rw[en];exact Dg (th:=Zo (B.map ZF) g ys) (R:=ZT (Zo B g ys) g B.length ys) (is:=eqs rows) hg.1
    refine YF ?_;exact hx _ _ ⟨pT,rfl⟩
  rintro dl' S12 ⟨pr,rfl⟩;clear fN fS;replace rp:=rp.pre pr;replace h0:=pr _ _ h0;replace hB:=pr _ _ hB;replace hN:=pr _ _ hN;replace hR:=pr _ _ hR;replace hV:=pr _ _ hV;replace hM:=pr _ _ hM;replace hT:=pr _ _ hT;clear pr;refine YJ (λdl' S13=>∃ma:Nat,Pre S12 S13/\S13[ma]?=some (.lst ((eqs rows).map wtD))/\dl'=some (.ref 0)::some (.int (q:Int))::some (.int g)::some (.ref mb)::some (.ref mn)::some (.ref mr)::some (.ref mv)::some (.ref mm)::some (.ref mt)::some f::some (.ref ma)::N4) (λnx hx=>?_) ?_
  ·refine LX (n:=mr) (S1:=S12) (o:=.lst (rows.map rwD)) (λd=>match d with|.tup [.str w,.int at']=>if w="zero" then some (.int at') else none|_=>none) (λK hK=>by exact hK) hR (by show (rows.map rwD).length<=1000;rw[zA];lia) (λx hx S2 K pr hK=>?_) (λx hx y hy S2 K pr hK=>?_) ?_
   ·have hx':x∈rows.map rwD:=hx;obtain⟨⟨b,n⟩,_,rfl⟩:=zH.mp hx';cases b
    ·exact hK
    ·exact hK
   ·have hx':x∈rows.map rwD:=hx;obtain⟨⟨b,n⟩,_,rfl⟩:=zH.mp hx';cases b
    ·exact absurd hy (by
      simp[rwD];intro z;exact absurd z (by decide))
    ·cases hy;exact hK
   rw[show (Zu (.lst (rows.map rwD))).filterMap (λd=>match d with|.tup [.str w,.int at']=>if w="zero" then some (.int at') else none|_=>none)=(eqs rows).map wtD from E3 rows];exact hx _ _ ⟨_,W4 _,Zv _ _,rfl⟩
  rintro dl' S13 ⟨ma,pr,hA,rfl⟩;replace rp:=rp.pre pr;replace h0:=pr _ _ h0;replace hB:=pr _ _ hB;replace hN:=pr _ _ hN;replace hR:=pr _ _ hR;replace hM:=pr _ _ hM;replace hT:=pr _ _ hT;clear pr;refine YJ (λdl' S14=>S14=S13/\(eqs rows).length=q/\dl'=some (.ref 0)::some (.int (q:Int))::some (.int g)::some (.ref mb)::some (.ref mn)::some (.ref mr)::some (.ref mv)::some (.ref mm)::some (.ref mt)::some f::some (.ref ma)::N4) (λnx hx=>?_) ?_
  ·refine Yc hA ?_;rw[zA];refine ifN (λc=>h _) (λc=>hx _ _ ⟨rfl,by lia,rfl⟩)
  rintro dl' S14 ⟨rfl,lq,rfl⟩;refine YJ (λdl' S15=>S15=S14++[Ob.lst []]/\dl'=some (.ref 0)::some (.int (q:Int))::some (.int g)::some (.ref mb)::some (.ref mn)::some (.ref mr)::some (.ref mv)::some (.ref mm)::some (.ref mt)::some f::some (.ref ma)::some (.ref S14.length)::N3) (λnx hx=>hx _ _ ⟨rfl,rfl⟩) ?_;rintro dl' S15 ⟨rfl,rfl⟩;have lA:=Z7 hA;refine YJ (λdl' S16=>∃(ts:List D)(M:List (List Int)),Pre S14 S16/\S16[S14.length]?=some (.lst ts)/\Yx S16 (S14.length+1) ts M/\M.length=q/\(∀r∈M,r.length=q/\∀x∈r,Sz 4000 x)/\∃u:Option D,dl'=[some (.ref 0),some (.int (q:Int)),some (.int g),some (.ref mb),some (.ref mn),some (.ref mr),some (.ref mv),some (.ref mm),some (.ref mt),some f,some (.ref ma),some (.ref S14.length),u,none,none]) (λnx hx=>?_) ?_
  ·refine⟨⟨by lia,by lia⟩,λk dl' S'=>k<=q/\Pre S14 S'/\(∃(ts:List D)(T:List (List Int)),S'[S14.length]?=some (.lst ts)/\Yx S' (S14.length+1) ts T/\T.length=k/\∀r∈T,r.length=q/\∀x∈r,Sz 4000 x)/\∃u:Option D,dl'=[some (.ref 0),some (.int (q:Int)),some (.int g),some (.ref mb),some (.ref mn),some (.ref mr),some (.ref mv),some (.ref mm),some (.ref mt),some f,some (.ref ma),some (.ref S14.length),u,none,none],⟨zL _,W4 _,⟨[],[],Zv _ _,Yx.nil,rfl,λr hr=>by simp at hr⟩,_,rfl⟩,?_⟩;rintro k dl' S' ⟨hk,p5,⟨ts,T,ht,tl,lT,zT⟩,u,rfl⟩;rw[zJ];have lt':=Z7 ht;refine YX (λc=>?_) (λc=>?_)
   ·refine W6 (n:=S14.length) (xs:=ts) (λK hK=>by exact hK) ht (λK hK=>?_) (by rw[tl.1];lia);refine De (j:=(q:Int)) (S1:=S') (λ_ d=>∃x:Int,d=.int x/\Sz 4000 x) (λK hK=>by exact hK) ⟨by lia,by lia⟩ (λl hl S5 K p6 hK=>?_) (λxs lx hx'=>?_)
    ·refine⟨IntMulOk.of_left (by decide),cs,p6 _ _ (p5 _ _ h0),⟨by lia,by lia⟩,λv=>?_⟩;exact λz sz=>hK _ ⟨z,rfl,sz.mono (by decide)⟩
    obtain⟨y,rfl,gy⟩:=EJ xs hx';rw[zA,zJ] at lx;refine hK _ _ (ZA ht) ?_;refine⟨by lia,λx o e=>Yg (ZA (p5 x o e)) (by have:=Z7 e;lia),⟨ts++[.ref S'.length],T++[y],Yv (ZA ht),?_,by rw[zO,lT];rfl,λr' hr'=>?_⟩,_,rfl⟩
    ·exact Yx.snoc (tl.keep λx o lx e=>Yg (ZA e) (by lia)) (by lia) (Yg (Zv _ _) (by lia))
    ·rcases yF.1 hr' with hr'|hr'
     ·exact zT r' hr'
     ·rw[xF.mp hr'];exact⟨lx,gy⟩
   ·exact hx _ _ ⟨ts,T,p5,ht,tl,by lia,zT,_,rfl⟩
  rintro dl' S16 ⟨ts,M,pr,hU,rl,lM,zM,u,rfl⟩;replace rp:=rp.pre pr;replace hB:=pr _ _ hB;replace hN:=pr _ _ hN;replace hR:=pr _ _ hR;replace hM:=pr _ _ hM;replace hT:=pr _ _ hT;replace hA:=pr _ _ hA;clear pr;have hi':∀i∈eqs rows,i<ys.length:=λi hi=>r6 _ (G6 hi)
  have lD:(YL g B (Zo (B.map ZF) g ys) (ZT (Zo B g ys) g B.length ys) (eqs rows) M).length=q:=by rw[CN,lM]
  have le:=Dg (bs:=B) (th:=Zo (B.map ZF) g ys) (R:=ZT (Zo B g ys) g B.length ys) (is:=eqs rows) (M:=M) hg.1;refine YJ (λdl' S17=>∃me:Nat,Pre S16 S17/\S17[me]?=some (.lst ((YL g B (Zo (B.map ZF) g ys) (ZT (Zo B g ys) g B.length ys) (eqs rows) M).map frD))/\dl'=[some (.ref 0),some (.int (q:Int)),some (.int g),some (.ref mb),some (.ref mn),some (.ref mr),some (.ref mv),some (.ref mm),some (.ref mt),some f,some (.ref ma),some (.ref S14.length),u,some (.ref me),none]) (λnx hx=>?_) ?_
  ·exact⟨ZT (Zo B g ys) g B.length ys,ds,ts,eqs rows,B,Zo (B.map ZF) g ys,M,hT,hM,rp,hA,hB,hU,rl.toI,by lia,by lia,⟨by lia,by lia⟩,λi hi=>by rw[lR,lt];exact⟨hi' i hi,hi' i hi⟩,λr hr=>⟨(zR r hr).1,λp hp=>⟨((zR r hr).2 p hp).1.mono (by decide),((zR r hr).2 p hp).2.mono (by decide)⟩⟩,λr hr=>by rw[lB];exact zM r hr,zbB,zt,hg,λT m pr lm hD=>hx _ _ ⟨m,pr,hD,rfl⟩⟩
  rintro dl' S17 ⟨me,pr,hE,rfl⟩;have ri:=rl.toI.pre pr;clear rl rp;replace hB:=pr _ _ hB;replace hN:=pr _ _ hN;replace hR:=pr _ _ hR;replace hU:=pr _ _ hU;clear pr;refine YJ (λdl' S18=>∃mw:Nat,Pre S17 S18/\S18[mw]?=some (.lst ((YL g B (Zo (B.map ZF) g ys) (ZT (Zo B g ys) g B.length ys) (eqs rows) M).map frD))/\dl'=[some (.ref 0),some (.int (q:Int)),some (.int g),some (.ref mb),some (.ref mn),some (.ref mr),some (.ref mv),some (.ref mm),some (.ref mt),some f,some (.ref ma),some (.ref S14.length),u,some (.ref me),some (.ref mw)]) (λnx hx=>?_) ?_
  ·refine U4 (Z1 hN rfl) ?_;refine U4 (Z1 (ZA hR) rfl) ?_;refine U4 (Z1 (ZA (ZA hB)) rfl) ?_;dsimp only[Zu];have p3:Pre S17 (S17++[Ob.lst (ys.map Nd.d)]++[Ob.lst (rows.map rwD)]++[Ob.lst (B.map frD)]):=Oi (Oi (W4 _));refine C0 (n:=S14.length) (S1:=S17++[Ob.lst (ys.map Nd.d)]++[Ob.lst (rows.map rwD)]++[Ob.lst (B.map frD)]) (λK hK=>by exact hK) (p3 _ _ hU) (ri.pre p3).toD (by rw[zA];lia) (λT1 e1 p1 g1 r1=>?_);refine⟨ys,wy,B,rows,M,e1,p1 _ _ (ZA (ZA (Zv _ _))),p1 _ _ (Zv _ _),netB,sb,hg,by lia,by lia,p1 _ _ (ZA (Zv _ _)),by lia,by lia,hi',⟨by lia,by lia⟩,g1,r1.toI,by lia,λr hr=>⟨by have:=(zM r hr).1;lia,(zM r hr).2⟩,λT m pT lm hm=>?_⟩;exact hx _ _ ⟨m,λx o z=>pT _ _ (p1 _ _ (p3 _ _ z)),hm,rfl⟩
  rintro dl' S18 ⟨mw,pr,hW,rfl⟩;replace hE:=pr _ _ hE;refine⟨_,hW,by lia,le,?_⟩;refine Xf ?_;refine⟨⟨_,_,hW,hE,rfl,λk x y hx hy=>?_⟩,h _⟩;rw[hx] at hy;cases hy;rw[zG] at hx;obtain⟨p,_,rfl⟩:=zP.mp hx;exact D4 p⟩)
end
theorem zbf {l:PySem.W.OpenLaw}{w:World}{K:Fg}{h:Heap}{mg:Str->Option Value}{fa:Addr}(X:K.In h)(G:h.Ns mainGlobals mg)(hfa:mg "law"=some (.ref fa))
  (LN:PySem.W.nsIn K mainGlobals Uc=some (some (.ref Wx)))(Kw:PySem.W.plainGet K Wx Str.empty=true)(Mr:PySem.W.hasDictIn K Wx=true)(NJ:PySem.W.plainOver K Wx=true)(LW:PySem.W.findIn K (.ref Wx) Tg=some (some (.builtin Sn)))(Lk:PySem.W.makesIn K Wx=true)(KD:PySem.W.keepIn K (.ref Wx)=true)
  (Mm:PySem.W.findIn K (.ref Wx) VB=some none)
  (O9:PySem.W.findIn K (.ref Wx) "top"=some none)
  (Mh:PySem.W.nsIn K mainGlobals Uk=some (some (.ref WM)))(OH:PySem.W.plainGet K WM Str.empty=true)(MM:PySem.W.hasDictIn K WM=true)(Kx:PySem.W.plainOver K WM=true)(Ja:PySem.W.findIn K (.ref WM) Tg=some (some (.builtin Sn)))(Nj:PySem.W.makesIn K WM=true)(OF:PySem.W.keepIn K (.ref WM)=true)
  (Jw:PySem.W.findIn K (.ref WM) "place"=some none)
  (JB:PySem.W.nsIn K mainGlobals "Plus"=some (some (.ref X1)))(Jo:PySem.W.plainGet K X1 Str.empty=true)(N0:PySem.W.hasDictIn K X1=true)(JZ:PySem.W.plainOver K X1=true)(Me:PySem.W.findIn K (.ref X1) Tg=some (some (.builtin Sn)))(Mp:PySem.W.makesIn K X1=true)(NU:PySem.W.keepIn K (.ref X1)=true)
  (Nf:PySem.W.findIn K (.ref X1) Wl=some none)
  (Jn:PySem.W.findIn K (.ref X1) "one"=some none)
  (Lh:PySem.W.nsIn K mainGlobals "Minus"=some (some (.ref Wb)))(Jh:PySem.W.plainGet K Wb Str.empty=true)(J6:PySem.W.hasDictIn K Wb=true)(O8:PySem.W.plainOver K Wb=true)(MX:PySem.W.findIn K (.ref Wb) Tg=some (some (.builtin Sn)))(Jz:PySem.W.makesIn K Wb=true)(MY:PySem.W.keepIn K (.ref Wb)=true)
  (KH:PySem.W.findIn K (.ref Wb) Wl=some none)
  (LV:PySem.W.findIn K (.ref Wb) "one"=some none)
  (MN:PySem.W.nsIn K mainGlobals "Times"=some (some (.ref Wd)))(Na:PySem.W.plainGet K Wd Str.empty=true)(Nl:PySem.W.hasDictIn K Wd=true)(Nb:PySem.W.plainOver K Wd=true)(MB:PySem.W.findIn K (.ref Wd) Tg=some (some (.builtin Sn)))(LC:PySem.W.makesIn K Wd=true)(OY:PySem.W.keepIn K (.ref Wd)=true)
  (NR:PySem.W.findIn K (.ref Wd) Wl=some none)
  (Ju:PySem.W.findIn K (.ref Wd) "one"=some none)
  (Jl:PySem.W.nsIn K mainGlobals "Power"=some (some (.ref Wt)))(L9:PySem.W.plainGet K Wt Str.empty=true)(MC:PySem.W.hasDictIn K Wt=true)(Nu:PySem.W.plainOver K Wt=true)(JO:PySem.W.findIn K (.ref Wt) Tg=some (some (.builtin Sn)))(Lu:PySem.W.makesIn K Wt=true)(JE:PySem.W.keepIn K (.ref Wt)=true)
  (OG:PySem.W.findIn K (.ref Wt) "many"=some none)
  (NG:PySem.W.findIn K (.ref Wt) "one"=some none)
  (a0:nsA K q56 f0)(l0:lkA K f0 q56 q56 K4 m0 h0)(c0:cdA K h0 q56)
  (a1:nsA K q46 f1)(l1:lkA K f1 q46 q46 K7 m1 h1)(c1:cdA K h1 q46)
  (a2:nsA K q83 f2)(l2:lkA K f2 q83 q83 OZ m2 h2)(c2:cdA K h2 q83)
  (a3:nsA K q84 f3)(l3:lkA K f3 q84 q84 MO m3 h3)(c3:cdA K h3 q84)
  (a4:nsA K q33 f4)(l4:lkA K f4 q33 q33 Kn m4 h4)(c4:cdA K h4 q33)
  (a5:nsA K q48 f5)(l5:lkA K f5 q48 q48 Kh m5 h5)(c5:cdA K h5 q48)
  (a6:nsA K q92 f6)(l6:lkA K f6 q92 q92 Jj m6 h6)(c6:cdA K h6 q92)
  (a7:nsA K q93 f7)(l7:lkA K f7 q93 q93 LJ m7 h7)(c7:cdA K h7 q93)
  (a8:nsA K q71 f8)(l8:lkA K f8 q71 q71 Ii m8 h8)(c8:cdA K h8 q71)
  (a9:nsA K q27 f9)(l9:lkA K f9 q27 q27 R1 m9 h9)(c9:cdA K h9 q27)
  (a10:nsA K q79 f10)(l10:lkA K f10 q79 q79 J8 m10 h10)(c10:cdA K h10 q79)
  (a11:nsA K q94 f11)(l11:lkA K f11 q94 q94 O4 m11 h11)(c11:cdA K h11 q94)
  (a12:nsA K q51 f12)(l12:lkA K f12 q51 q51 Nr m12 h12)(c12:cdA K h12 q51)
  (a13:nsA K q63 f13)(l13:lkA K f13 q63 q63 OT m13 h13)(c13:cdA K h13 q63)
  (a14:nsA K q40 f14)(l14:lkA K f14 q40 q40 Oz m14 h14)(c14:cdA K h14 q40)
  (a15:nsA K q57 f15)(l15:lkA K f15 q57 q57 Lj m15 h15)(c15:cdA K h15 q57)
  (a16:nsA K q58 f16)(l16:lkA K f16 q58 q58 MP m16 h16)(c16:cdA K h16 q58)
  (a17:nsA K q30 f17)(l17:lkA K f17 q30 q30 My m17 h17)(c17:cdA K h17 q30)
  (a18:nsA K q64 f18)(l18:lkA K f18 q64 q64 JU m18 h18)(c18:cdA K h18 q64)
  (a19:nsA K q41 f19)(l19:lkA K f19 q41 q41 J5 m19 h19)(c19:cdA K h19 q41)
  (a20:nsA K q66 f20)(l20:lkA K f20 q66 q66 PM m20 h20)(c20:cdA K h20 q66)
  (a21:nsA K q52 f21)(l21:lkA K f21 q52 q52 TB m21 h21)(c21:cdA K h21 q52)
  (a22:nsA K q42 f22)(l22:lkA K f22 q42 q42 Lf m22 h22)(c22:cdA K h22 q42)
  (a23:nsA K q49 f23)(l23:lkA K f23 q49 q49 K1 m23 h23)(c23:cdA K h23 q49)
  (a24:nsA K q65 f24)(l24:lkA K f24 q65 q65 Nh m24 h24)(c24:cdA K h24 q65)
  (a25:nsA K q50 f25)(l25:lkA K f25 q50 q50 Oq m25 h25)(c25:cdA K h25 q50)
  (a26:nsA K q19 f26)(l26:lkA K f26 q19 q19 QG m26 h26)(c26:cdA K h26 q19)
  (a27:nsA K "sure" f27)(l27:lkA K f27 "sure" "sure" OA m27 h27)(c27:cdA K h27 "sure")
  (a28:nsA K q26 f28)(l28:lkA K f28 q26 q26 QZ m28 h28)(c28:cdA K h28 q26)
  (a29:nsA K "less" f29)(l29:lkA K f29 "less" "less" Nt m29 h29)(c29:cdA K h29 "less")
  (a30:nsA K q29 f30)(l30:lkA K f30 q29 q29 JA m30 h30)(c30:cdA K h30 q29)
  (a31:nsA K q78 f31)(l31:lkA K f31 q78 q78 Ll m31 h31)(c31:cdA K h31 q78)
  (a32:fdA K Wx q5 f32)(l32:lkA K f32 q5 Uy Nc m32 h32)(c32:cdA K h32 Uy)
  (a33:fdA K WM q5 f33)(l33:lkA K f33 q5 Us JX m33 h33)(c33:cdA K h33 Us)
  (a34:nsA K q28 f34)(l34:lkA K f34 q28 q28 Kz m34 h34)(c34:cdA K h34 q28)
  (a35:fdA K X1 q5 f35)(l35:lkA K f35 q5 Ux OP m35 h35)(c35:cdA K h35 Ux)
  (a36:nsA K q23 f36)(l36:lkA K f36 q23 q23 KG m36 h36)(c36:cdA K h36 q23)
  (a37:fdA K Wb q5 f37)(l37:lkA K f37 q5 UQ LP m37 h37)(c37:cdA K h37 UQ)
  (a38:nsA K q31 f38)(l38:lkA K f38 q31 q31 Ky m38 h38)(c38:cdA K h38 q31)
  (a39:fdA K Wd q5 f39)(l39:lkA K f39 q5 UZ Ms m39 h39)(c39:cdA K h39 UZ)
  (a40:nsA K q97 f40)(l40:lkA K f40 q97 q97 Nm m40 h40)(c40:cdA K h40 q97)
  (a41:nsA K q34 f41)(l41:lkA K f41 q34 q34 QP m41 h41)(c41:cdA K h41 q34)
  (a42:fdA K Wt q5 f42)(l42:lkA K f42 q5 Su Li m42 h42)(c42:cdA K h42 Su)
  (a43:fdA K Wx q3 f43)(l43:lkA K f43 q3 Ur Ks m43 h43)(c43:cdA K h43 Ur)
  (a44:fdA K WM q3 f44)(l44:lkA K f44 q3 U3 Lx m44 h44)(c44:cdA K h44 U3)
  (a45:fdA K X1 q3 f45)(l45:lkA K f45 q3 q24 MA m45 h45)(c45:cdA K h45 q24)
  (a46:fdA K Wb q3 f46)(l46:lkA K f46 q3 q24 LL m46 h46)(c46:cdA K h46 q24)
  (a47:fdA K Wd q3 f47)(l47:lkA K f47 q3 q24 Jb m47 h47)(c47:cdA K h47 q24)
  (a48:fdA K Wt q3 f48)(l48:lkA K f48 q3 Rn Jv m48 h48)(c48:cdA K h48 Rn)
  (a49:nsA K q99 f49)(l49:lkA K f49 q99 q99 LZ m49 h49)(c49:cdA K h49 q99)
  (a50:nsA K q60 f50)(l50:lkA K f50 q60 q60 KO m50 h50)(c50:cdA K h50 q60)
  (a51:nsA K XO f51)(l51:lkA K f51 XO XO RQ m51 h51)(c51:cdA K h51 XO)
  (a52:fdA K Wx q8 f52)(l52:lkA K f52 q8 UT KY m52 h52)(c52:cdA K h52 UT)
  (a53:fdA K WM q8 f53)(l53:lkA K f53 q8 UC R8 m53 h53)(c53:cdA K h53 UC)
  (a54:fdA K X1 q4 f54)(l54:lkA K f54 q4 q87 Ng m54 h54)(c54:cdA K h54 q87)
  (a55:fdA K X1 q8 f55)(l55:lkA K f55 q8 q45 RF m55 h55)(c55:cdA K h55 q45)
  (a56:fdA K Wb q4 f56)(l56:lkA K f56 q4 q75 Jq m56 h56)(c56:cdA K h56 q75)
  (a57:fdA K Wb q8 f57)(l57:lkA K f57 q8 q45 RE m57 h57)(c57:cdA K h57 q45)
  (a58:fdA K Wd q4 f58)(l58:lkA K f58 q4 q76 O5 m58 h58)(c58:cdA K h58 q76)
  (a59:fdA K Wd q8 f59)(l59:lkA K f59 q8 q45 Pf m59 h59)(c59:cdA K h59 q45)
  (a60:nsA K q37 f60)(l60:lkA K f60 q37 q37 Nz m60 h60)(c60:cdA K h60 q37)
  (a61:fdA K Wt q8 f61)(l61:lkA K f61 q8 SH PF m61 h61)(c61:cdA K h61 SH)
  (a62:nsA K Wa f62)(l62:lkA K f62 Wa Wa Ij m62 h62)(c62:cdA K h62 Wa)
  (a63:nsA K q70 f63)(l63:lkA K f63 q70 q70 Ny m63 h63)(c63:cdA K h63 q70)
  (a64:nsA K q73 f64)(l64:lkA K f64 q73 q73 OB m64 h64)(c64:cdA K h64 q73)
  (a65:nsA K q47 f65)(l65:lkA K f65 q47 q47 Qq m65 h65)(c65:cdA K h65 q47)
  (a66:nsA K q13 f66)(l66:lkA K f66 q13 q13 UK m66 h66)(c66:cdA K h66 q13)
  (a67:nsA K q9 f67)(l67:lkA K f67 q9 q9 Wc m67 h67)(c67:cdA K h67 q9)
  (a68:nsA K q16 f68)(l68:lkA K f68 q16 q16 NB m68 h68)(c68:cdA K h68 q16)
  (a69:nsA K q32 f69)(l69:lkA K f69 q32 q32 Qo m69 h69)(c69:cdA K h69 q32)
  (a70:nsA K q77 f70)(l70:lkA K f70 q77 q77 Qg m70 h70)(c70:cdA K h70 q77)
  (a71:nsA K q98 f71)(l71:lkA K f71 q98 q98 KJ m71 h71)(c71:cdA K h71 q98)
  (a72:nsA K XZ f72)(l72:lkA K f72 XZ XZ RC m72 h72)(c72:cdA K h72 XZ)
  (a73:nsA K q25 f73)(l73:lkA K f73 q25 q25 Px m73 h73)(c73:cdA K h73 q25)
  (a74:nsA K q20 f74)(l74:lkA K f74 q20 q20 Kj m74 h74)(c74:cdA K h74 q20)
  (a75:nsA K We f75)(l75:lkA K f75 We We RH m75 h75)(c75:cdA K h75 We)
  (a76:nsA K Wf f76)(l76:lkA K f76 Wf Wf UB m76 h76)(c76:cdA K h76 Wf)
  (a77:nsA K XS f77)(l77:lkA K f77 XS XS Qf m77 h77)(c77:cdA K h77 XS)
  (a78:nsA K q39 f78)(l78:lkA K f78 q39 q39 Lm m78 h78)(c78:cdA K h78 q39)
  (a79:nsA K "deep" f79)(l79:lkA K f79 "deep" "deep" Mx m79 h79)(c79:cdA K h79 "deep")
  (a80:nsA K q91 f80)(l80:lkA K f80 q91 q91 Qp m80 h80)(c80:cdA K h80 q91)
  (a81:nsA K X3 f81)(l81:lkA K f81 X3 X3 Po m81 h81)(c81:cdA K h81 X3)
  (a82:nsA K q53 f82)(l82:lkA K f82 q53 q53 La m82 h82)(c82:cdA K h82 q53)
  (a83:nsA K q82 f83)(l83:lkA K f83 q82 q82 MD m83 h83)(c83:cdA K h83 q82)
  (a84:nsA K q54 f84)(l84:lkA K f84 q54 q54 Ly m84 h84)(c84:cdA K h84 q54)
  (a85:nsA K q67 f85)(l85:lkA K f85 q67 q67 KN m85 h85)(c85:cdA K h85 q67)
  (a86:nsA K q86 f86)(l86:lkA K f86 q86 q86 Jc m86 h86)(c86:cdA K h86 q86)
  (a87:nsA K q36 f87)(l87:lkA K f87 q36 q36 L5 m87 h87)(c87:cdA K h87 q36)
  (a88:nsA K q43 f88)(l88:lkA K f88 q43 q43 VL m88 h88)(c88:cdA K h88 q43)
  (a89:nsA K q72 f89)(l89:lkA K f89 q72 q72 QD m89 h89)(c89:cdA K h89 q72)
  (a90:nsA K q85 f90)(l90:lkA K f90 q85 q85 NM m90 h90)(c90:cdA K h90 q85)
  (a91:nsA K q95 f91)(l91:lkA K f91 q95 q95 Pc m91 h91)(c91:cdA K h91 q95)
  (a92:nsA K q68 f92)(l92:lkA K f92 q68 q68 Ls m92 h92)(c92:cdA K h92 q68)
  (a93:nsA K "step" f93)(l93:lkA K f93 "step" "step" JS m93 h93)(c93:cdA K h93 "step")
  (a94:nsA K "law" f94)(l94:lkA K f94 "law" "law" WO m94 h94)(c94:cdA K h94 "law")
  (ZC:PySem.W.nsIn K mainGlobals "len"=some none)
  (ZM:PySem.W.nsIn K mainGlobals Xz=some none)
  (VY:PySem.W.nsIn K mainGlobals "abs"=some none)
  (Xo:PySem.W.nsIn K mainGlobals "min"=some none)
  (WX:PySem.W.nsIn K mainGlobals "sorted"=some none)
  (Xc:PySem.W.nsIn K mainGlobals "int"=some none)
  (WI:PySem.W.nsIn K mainGlobals "all"=some none)
  (XQ:PySem.W.nsIn K mainGlobals "max"=some none)
  (YB:PySem.W.nsIn K mainGlobals "zip"=some none)
  (YD:PySem.W.nsIn K mainGlobals "sum"=some none)
  (YE:PySem.W.nsIn K mainGlobals UD=some none)
  (YS:PySem.W.nsIn K mainGlobals RI=some none)
  (V3:PySem.W.nsIn K mainGlobals "bool"=some none)
  (WN:PySem.W.nsIn K mainGlobals "tuple"=some none)
  (YN:PySem.W.nsIn K mainGlobals "list"=some none)
  (Ro:Kit K "bool")
  (SY:Kit K "int")
  (Ra:Kit K "tuple")
  :∃fd:FuncData,(∀(s:Shared)(v:Value),BindsTo s fd ⟨[v],[]⟩ [(q44,v)])/\∀base:Heap,K.In base->base.Ns mainGlobals mg->Yo l.prog w K mg base (CXE l.prog w) 13 fa fd [q44] (upF K SE):=by
 have e:=hfa.symm.trans (PySem.W.mg_of X G a94);cases e
 let Zs:Xi K mg:=⟨Wx,PySem.W.mg_of X G LN,⟨Kw,Mr,NJ,LW⟩,Mm,O9,Lk,KD⟩
 let Zt:Xr K mg:=⟨WM,PySem.W.mg_of X G Mh,⟨OH,MM,Kx,Ja⟩,Jw,Nj,OF⟩
 let Zn:Y9 K mg:=⟨X1,PySem.W.mg_of X G JB,⟨Jo,N0,JZ,Me⟩,Nf,Jn,Mp,NU⟩
 let Zl:Xa K mg:=⟨Wb,PySem.W.mg_of X G Lh,⟨Jh,J6,O8,MX⟩,KH,LV,Jz,MY⟩
 let Zm:Xb K mg:=⟨Wd,PySem.W.mg_of X G MN,⟨Na,Nl,Nb,MB⟩,NR,Ju,LC,OY⟩
 let Zq:Xn K mg:=⟨Wt,PySem.W.mg_of X G Jl,⟨L9,MC,Nu,JO⟩,OG,NG,Lu,JE⟩
 let JY:Df K mg q56 K4 Um:=dfo X G a0 l0 c0
 let Mz:Df K mg q46 K7 V2:=dfo X G a1 l1 c1
 let MV:Df K mg q83 OZ PX:=dfo X G a2 l2 c2
 let LG:Df K mg q84 MO PR:=dfo X G a3 l3 c3
 let Nw:Df K mg q33 Kn V4:=dfo X G a4 l4 c4
 let JL:Df K mg q48 Kh P9:=dfo X G a5 l5 c5
 let ML:Df K mg q92 Jj QS:=dfo X G a6 l6 c6
 let OM:Df K mg q93 LJ R5:=dfo X G a7 l7 c7
 let NV:Df K mg q71 Ii Rf:=dfo X G a8 l8 c8
 let Mu:Df K mg q27 R1 Qn:=dfo X G a9 l9 c9
 let JF:Df K mg q79 J8 VM:=dfo X G a10 l10 c10
 let JH:Df K mg q94 O4 Qs:=dfo X G a11 l11 c11
 let OJ:Df K mg q51 Nr Qx:=dfo X G a12 l12 c12
 let NI:Df K mg q63 OT PJ:=dfo X G a13 l13 c13
 let LD:Df K mg q40 Oz Rm:=dfo X G a14 l14 c14
 let OD:Df K mg q57 Lj UA:=dfo X G a15 l15 c15
 let OW:Df K mg q58 MP Uv:=dfo X G a16 l16 c16
 let JC:Df K mg q30 My UJ:=dfo X G a17 l17 c17
 let NA:Df K mg q64 JU RV:=dfo X G a18 l18 c18
 let Lp:Df K mg q41 J5 Td:=dfo X G a19 l19 c19
 let OK:Df K mg q66 PM Qk:=dfo X G a20 l20 c20
 let NF:Df K mg q52 TB QJ:=dfo X G a21 l21 c21
 let O6:Df K mg q42 Lf QM:=dfo X G a22 l22 c22
 let K5:Df K mg q49 K1 Og:=dfo X G a23 l23 c23
 let NO:Df K mg q65 Nh Oh:=dfo X G a24 l24 c24
 let Je:Df K mg q50 Oq PK:=dfo X G a25 l25 c25
 let JT:Df K mg q19 QG Sv:=dfo X G a26 l26 c26
 let O2:Df K mg "sure" OA RJ:=dfo X G a27 l27 c27
 let Kd:Df K mg q26 QZ Pr:=dfo X G a28 l28 c28
 let Kq:Df K mg "less" Nt RT:=dfo X G a29 l29 c29
 let Mt:Df K mg q29 JA UU:=dfo X G a30 l30 c30
 let OX:Df K mg q78 Ll Rz:=dfo X G a31 l31 c31
 let Jf:Dm K Zs.C q5 Uy Nc RO:=dmo a32 l32 c32
 let Lq:Dm K Zt.C q5 Us JX Om:=dmo a33 l33 c33
 let Lc:Df K mg q28 Kz Vw:=dfo X G a34 l34 c34
 let L6:Dm K Zn.C q5 Ux OP PQ:=dmo a35 l35 c35
 let Mi:Df K mg q23 KG VO:=dfo X G a36 l36 c36
 let OQ:Dm K Zl.C q5 UQ LP Ql:=dmo a37 l37 c37
 let OL:Df K mg q31 Ky VT:=dfo X G a38 l38 c38
 let Ma:Dm K Zm.C q5 UZ Ms Qu:=dmo a39 l39 c39
 let JQ:Df K mg q97 Nm RA:=dfo X G a40 l40 c40
 let KU:Df K mg q34 QP T9:=dfo X G a41 l41 c41
 let Oy:Dm K Zq.C q5 Su Li RW:=dmo a42 l42 c42
 let M9:Dm K Zs.C q3 Ur Ks Ow:=dmo a43 l43 c43
 let OR:Dm K Zt.C q3 U3 Lx Qa:=dmo a44 l44 c44
 let KZ:Dm K Zn.C q3 q24 MA Pg:=dmo a45 l45 c45
 let M4:Dm K Zl.C q3 q24 LL PN:=dmo a46 l46 c46
 let J0:Dm K Zm.C q3 q24 Jb QF:=dmo a47 l47 c47
 let Js:Dm K Zq.C q3 Rn Jv PU:=dmo a48 l48 c48
 let NK:Df K mg q99 LZ Rk:=dfo X G a49 l49 c49
 let MR:Df K mg q60 KO Uo:=dfo X G a50 l50 c50
 let M7:Df K mg XO RQ Rj:=dfo X G a51 l51 c51
 let J1:Dm K Zs.C q8 UT KY Q7:=dmo a52 l52 c52
 let OO:Dm K Zt.C q8 UC R8 Pe:=dmo a53 l53 c53
 let MQ:Dm K Zn.C q4 q87 Ng QT:=dmo a54 l54 c54
 let Ke:Dm K Zn.C q8 q45 RF PV:=dmo a55 l55 c55
 let Kt:Dm K Zl.C q4 q75 Jq Pm:=dmo a56 l56 c56
 let KW:Dm K Zl.C q8 q45 RE RB:=dmo a57 l57 c57
 let Nn:Dm K Zm.C q4 q76 O5 Py:=dmo a58 l58 c58
 let LS:Dm K Zm.C q8 q45 Pf Q3:=dmo a59 l59 c59
 let LQ:Df K mg q37 Nz R0:=dfo X G a60 l60 c60
 let Kp:Dm K Zq.C q8 SH PF QL:=dmo a61 l61 c61
 let Mn:Df K mg Wa Ij Pl:=dfo X G a62 l62 c62
 let LK:Df K mg q70 Ny SG:=dfo X G a63 l63 c63
 let JN:Df K mg q73 OB Ug:=dfo X G a64 l64 c64
 let L4:Df K mg q47 Qq Ud:=dfo X G a65 l65 c65
 let Xm:Df K mg q13 UK Xy:=dfo X G a66 l66 c66
 let YU:Df K mg q9 Wc Xg:=dfo X G a67 l67 c67
 let M5:Df K mg q16 NB R9:=dfo X G a68 l68 c68
 let Kl:Df K mg q32 Qo R4:=dfo X G a69 l69 c69
 let LB:Df K mg q77 Qg Ot:=dfo X G a70 l70 c70
 let Lr:Df K mg q98 KJ RP:=dfo X G a71 l71 c71
 let L8:Df K mg XZ RC Sh:=dfo X G a72 l72 c72
 let Lg:Df K mg q25 Px SI:=dfo X G a73 l73 c73
 let NC:Df K mg q20 Kj SW:=dfo X G a74 l74 c74
 let L0:Df K mg We RH Oc:=dfo X G a75 l75 c75
 let NL:Df K mg Wf UB Qe:=dfo X G a76 l76 c76
 let Lo:Df K mg XS Qf Rb:=dfo X G a77 l77 c77
 let MF:Df K mg q39 Lm TR:=dfo X G a78 l78 c78
 let Jm:Df K mg "deep" Mx Oo:=dfo X G a79 l79 c79
 let JD:Df K mg q91 Qp PB:=dfo X G a80 l80 c80
 let M8:Df K mg X3 Po Qt:=dfo X G a81 l81 c81
 let Nv:Df K mg q53 La Sm:=dfo X G a82 l82 c82
 let Nq:Df K mg q82 MD RU:=dfo X G a83 l83 c83
 let LF:Df K mg q54 Ly TN:=dfo X G a84 l84 c84
 let ON:Df K mg q67 KN RS:=dfo X G a85 l85 c85
 let JW:Df K mg q86 Jc P6:=dfo X G a86 l86 c86
 let NP:Df K mg q36 L5 Qj:=dfo X G a87 l87 c87
 let K9:Df K mg q43 VL Pp:=dfo X G a88 l88 c88
 let Ka:Df K mg q72 QD S6:=dfo X G a89 l89 c89
 let NX:Df K mg q85 NM Pd:=dfo X G a90 l90 c90
 let Le:Df K mg q95 Pc Ov:=dfo X G a91 l91 c91
 let Ib:Df K mg q68 Ls QQ:=dfo X G a92 l92 c92
 let Ia:Df K mg "step" JS Ou:=dfo X G a93 l93 c93
 let Jx:Df K mg "law" WO NQ:=dfo X G a94 l94 c94
 have ZC:=PySem.W.mg_none_of X G ZC
 have ZM:=PySem.W.mg_none_of X G ZM
 have VY:=PySem.W.mg_none_of X G VY
 have Xo:=PySem.W.mg_none_of X G Xo
 have WX:=PySem.W.mg_none_of X G WX
 have Xc:=PySem.W.mg_none_of X G Xc
 have WI:=PySem.W.mg_none_of X G WI
 have XQ:=PySem.W.mg_none_of X G XQ
 have YB:=PySem.W.mg_none_of X G YB
 have YD:=PySem.W.mg_none_of X G YD
 have YE:=PySem.W.mg_none_of X G YE
 have YS:=PySem.W.mg_none_of X G YS
 have V3:=PySem.W.mg_none_of X G V3
 have WN:=PySem.W.mg_none_of X G WN
 have YN:=PySem.W.mg_none_of X G YN;refine⟨PySem.W.fnOf "law" "law" (Vt WO) (WQ WO) (Zj WO) .none .none .none m94 none (.ref h94) .none,λs v=>.of_eq rfl,λbase _ _=>?_⟩
 let Vv:=zb9 (P:=l.prog) (w:=w) (base:=base) JY ZC
 let YM:=zbK Mz Vv ZC
 let Hn:=zef (P:=l.prog) (w:=w) (base:=base) MV
 let Hk:=zby LG Vv YM ZM
 let Wv:=B0 (P:=l.prog) (w:=w) (base:=base) Nw VY
 let G0:=zai JL Wv
 let GZ:=zdJ ML Wv
 let Qz:=Af (P:=l.prog) (w:=w) (base:=base) OM ZC
 let Rv:=zej NV Qz GZ G0 ZC
 let G1:=zet Mu YM Rv ZM ZC Xo
 let Xp:=zcV (P:=l.prog) (w:=w) (base:=base) JF
 let F9:=Ah JH Xp
 let Hq:=zeF OJ F9 Xp ZM ZC
 let QB:=zc0 (P:=l.prog) (w:=w) (base:=base) NI ZM
 let Th:=zct LD QB WX
 let Vn:=BQ (P:=l.prog) (w:=w) (base:=base) OD
 let WW:=zb8 (P:=l.prog) (w:=w) (base:=base) OW
 let X7:=BM (P:=l.prog) (w:=w) (base:=base) JC WX
 let Fn:=C2 NA X7 WW Vn Th
 let UE:=zcQ Lp Fn
 let Gb:=zcf OK Xp Wv UE
 let Ge:=Aw NF Xp Gb YM Hq Wv Rv Vv G1 ZM Xc ZC
 let FY:=zaB (P:=l.prog) (w:=w) (base:=base) O6
 let HH:=A8 K5 Th
 let F6:=BY NO Vn X7 WW HH
 let FZ:=BF Je F6 ZM
 let Sj:=C3 (P:=l.prog) (w:=w) (base:=base) JT
 let IW:=zbQ (P:=l.prog) (w:=w) (base:=base) O2
 let FK:=C6 Kd IW WI
 let GV:=zeD (P:=l.prog) (w:=w) (base:=base) Kq
 let VG:=AZ (P:=l.prog) (w:=w) (base:=base) Mt
 let Fb:=zbO OX VG GV
 let Gh:=zb3 Zs Zt Zn Zl Zm Zq Jf Fb
 let Eb:=zbL (P:=l.prog) (w:=w) (base:=base) Zt Zs Zn Zl Zm Zq Lq
 let XI:=zbV (P:=l.prog) (w:=w) (base:=base) Lc
 let Fl:=zco Zn Zs Zt Zl Zm Zq L6 XI
 let X5:=Ac (P:=l.prog) (w:=w) (base:=base) Mi
 let IV:=Ap Zl Zs Zt Zn Zm Zq OQ X5
 let X8:=zec OL VG XQ Xo
 let GU:=zaZ Zm Zs Zt Zn Zl Zq Ma X8
 let JJ:=zbo (P:=l.prog) (w:=w) (base:=base) JQ ZM
 let Tp:=zcP KU VG JJ XQ Xo
 let FQ:=zcS Zq Zs Zt Zn Zl Zm Oy Tp
 let Tf:=zey (P:=l.prog) (w:=w) (base:=base) Zs M9
 let SV:=Av (P:=l.prog) (w:=w) (base:=base) Zt OR
 let Rq:=zd0 (P:=l.prog) (w:=w) (base:=base) Zn KZ
 let TM:=zeG (P:=l.prog) (w:=w) (base:=base) Zl M4
 let TU:=BV (P:=l.prog) (w:=w) (base:=base) Zm J0
 let Sw:=zc7 (P:=l.prog) (w:=w) (base:=base) Zq Js
 let Tv:=Aj Zq Zm Zl Zn Zt Zs NK Sw TU TM Rq SV Tf
 let VJ:=zcy Zq Zm Zl Zn Zt Zs MR FQ GU IV Fl Eb Gh Tv
 let SF:=AL (P:=l.prog) (w:=w) (base:=base) M7
 let Fo:=zcd (P:=l.prog) (w:=w) (base:=base) Zs Zt Zn Zl Zm Zq J1
 let GA:=zbJ (P:=l.prog) (w:=w) (base:=base) Zt Zs Zn Zl Zm Zq OO ZM
 let Ox:=zbI Zn MQ XI
 let G2:=zbb Zn Zs Zt Zl Zm Zq Ke Ox YB
 let Qd:=BH Zl Kt X5
 let Hi:=zbu Zl Zs Zt Zn Zm Zq KW Qd YB
 let RX:=AH Zm Nn XI X8
 let Hy:=zdI Zm Zs Zt Zn Zl Zq LS RX YB
 let Gn:=zdw (P:=l.prog) (w:=w) (base:=base) LQ XQ Xo
 let Gg:=zaH Zq Zs Zt Zn Zl Zm Kp X8 Gn Tp
 let HI:=zaV Zq Zm Zl Zn Zt Zs Mn Gg Hy Hi G2 GA Fo Tv VJ ZC
 let Ru:=zeB LK SF HI
 let Wy:=zbq (P:=l.prog) (w:=w) (base:=base) JN
 let Wi:=BK (P:=l.prog) (w:=w) (base:=base) L4
 let za2:=Bs (P:=l.prog) (w:=w) (base:=base) YU (Df.never (P:=l.prog) (w:=w) (base:=base) 0 Xm) YD YE ZC
 let zbz:=zdb (P:=l.prog) (w:=w) (base:=base) Xm Wy za2 Wi
 let zdh:=CT (P:=l.prog) (w:=w) (base:=base) YU zbz YD YE ZC
 let zdV:=zaS (P:=l.prog) (w:=w) (base:=base) Xm Wy zdh Wi
 let zan:=zd2 (P:=l.prog) (w:=w) (base:=base) YU zdV YD YE ZC
 let zbE:=zei (P:=l.prog) (w:=w) (base:=base) Xm Wy zan Wi
 let B4:=zaG (P:=l.prog) (w:=w) (base:=base) YU zbE YD YE ZC
 let XT:=zbS (P:=l.prog) (w:=w) (base:=base) Xm Wy B4 Wi
 let WJ:=Bl (P:=l.prog) (w:=w) (base:=base) YU XT YD YE ZC
 let GI:=Ax M5 XT
 let IT:=zbi Kl GI ZM ZC
 let IM:=AX LB IT WJ ZM ZC
 let HE:=zcE (P:=l.prog) (w:=w) (base:=base) Lr
 let Tu:=zaD L8 HE
 let SQ:=zae Lg Tu
 let U2:=AO NC XI X8 YB
 let Ga:=zaF L0 X5 U2
 let II:=B9 NL XI U2 X5 Ga SQ YB ZM ZC
 let U9:=By Lo II YE
 let TF:=zcH MF SF VJ SQ
 let Gz:=zbj (P:=l.prog) (w:=w) (base:=base) Jm
 let HV:=zeA JD Gz WI YB
 let FH:=Ag M8 HV U9 TF IM Tu Ru FK VJ Sj ZC
 let Uz:=zaC (P:=l.prog) (w:=w) (base:=base) Nv YS V3 Xc Ro SY
 let GR:=BS Nq Uz ZC YS WN Ra
 let Rg:=zcM LF GR ZC YS YN
 let G4:=zdW ON Uz Rg YS YN ZC WN
 let FL:=zeH (P:=l.prog) (w:=w) (base:=base) JW
 let M0:=Be (P:=l.prog) (w:=w) (base:=base) NP
 let Hm:=zaL K9 M0 ZM ZC YD Xc
 let U7:=zdu Ka Vn X7 WW ZM ZC Xc
 let IK:=Bj (P:=l.prog) (w:=w) (base:=base) NX ZM ZC
 let Fe:=AV Le IK U7 Hm FL ZC
 let G8:=Bf (P:=l.prog) (w:=w) (base:=base) Ib
 let GC:=zbr Ia U9 Ru TF Sj
 let G_law:=zcF Jx Rg GC U7 G8 YM G4 Fe FH UE FZ FY Ge Hk Hn YN ZM ZC
 exact G_law.ok
end Mine
open PySem PySem.W PyProof.Rows
set_option maxRecDepth 100003 in
set_option maxHeartbeats 0 in
theorem PySem.Challenge.cw_boxnarrow_k49_whole_alone_by_a_model_holds : PySem.Challenge.rw_boxnarrow_k49_whole_alone_by_a_model.Holds := by
 w_on;refine PySem.W.holds_law Mine.ws_eq λsaid=>?_
 refine PySem.W.holds_open (q:=Mine.vw) (loose:=[]) (Xt:=Mine.xt) (XP:=XL Mine.vw []) (Yf:=Hook.obs (kHook Mine.kp Mine.ks Mine.Se)) (Ya:=Hook.val (kHook Mine.kp Mine.ks Mine.Se))
  (YP:=Hook.says (kHook Mine.kp Mine.ks Mine.Se)) (N:=7781) Mine.left (Hook.of (kHook Mine.kp Mine.ks Mine.Se)) (Hook.keeps (kHook Mine.kp Mine.ks Mine.Se)) (λs e=>xl_of s (Bool.and_eq_true_iff.mp e).1) XL.keeps
  (by rfl) (by rfl) (by rfl) (λs e=>recFacts_of (Bool.and_eq_true_iff.mp e).2) (by rfl) (by first|assumption|decide +kernel)
  (by decide +kernel) ⟨rfl,rfl,rfl,rfl,rfl,by decide +kernel⟩ ?hw ?hc
 (case hw=>w_witness2)
 k_fill
 refine L3.zeC (l:=PySem.Challenge.rw_boxnarrow_k49_whole_alone_by_a_model) (x:="_law_script") 13 rfl rfl ⟨rfl,by decide,by decide⟩ (λw h Y=>PySem.W.kIn_of Y) ?F
 case F=>
  intro w mg fa h KX G hmg;refine' Mine.zbf KX G hmg (LN:=?LN) (Kw:=?Kw) (Mr:=?Mr) (NJ:=?NJ) (LW:=?LW) (Lk:=?Lk) (KD:=?KD) (Mm:=?Mm) (O9:=?O9) (Mh:=?Mh) (OH:=?OH) (MM:=?MM) (Kx:=?Kx) (Ja:=?Ja) (Nj:=?Nj) (OF:=?OF) (Jw:=?Jw) (JB:=?JB) (Jo:=?Jo) (N0:=?N0) (JZ:=?JZ) (Me:=?Me) (Mp:=?Mp) (NU:=?NU) (Nf:=?Nf) (Jn:=?Jn) (Lh:=?Lh) (Jh:=?Jh) (J6:=?J6) (O8:=?O8) (MX:=?MX) (Jz:=?Jz) (MY:=?MY) (KH:=?KH) (LV:=?LV) (MN:=?MN) (Na:=?Na) (Nl:=?Nl) (Nb:=?Nb) (MB:=?MB) (LC:=?LC) (OY:=?OY) (NR:=?NR) (Ju:=?Ju) (Jl:=?Jl) (L9:=?L9) (MC:=?MC) (Nu:=?Nu) (JO:=?JO) (Lu:=?Lu) (JE:=?JE) (OG:=?OG) (NG:=?NG) (a0:=?a0) (l0:=?l0) (c0:=?c0) (a1:=?a1) (l1:=?l1) (c1:=?c1) (a2:=?a2) (l2:=?l2) (c2:=?c2) (a3:=?a3) (l3:=?l3) (c3:=?c3) (a4:=?a4) (l4:=?l4) (c4:=?c4) (a5:=?a5) (l5:=?l5) (c5:=?c5) (a6:=?a6) (l6:=?l6) (c6:=?c6) (a7:=?a7) (l7:=?l7) (c7:=?c7) (a8:=?a8) (l8:=?l8) (c8:=?c8) (a9:=?a9) (l9:=?l9) (c9:=?c9) (a10:=?a10) (l10:=?l10) (c10:=?c10) (a11:=?a11) (l11:=?l11) (c11:=?c11) (a12:=?a12) (l12:=?l12) (c12:=?c12) (a13:=?a13) (l13:=?l13) (c13:=?c13) (a14:=?a14) (l14:=?l14) (c14:=?c14) (a15:=?a15) (l15:=?l15) (c15:=?c15) (a16:=?a16) (l16:=?l16) (c16:=?c16) (a17:=?a17) (l17:=?l17) (c17:=?c17) (a18:=?a18) (l18:=?l18) (c18:=?c18) (a19:=?a19) (l19:=?l19) (c19:=?c19) (a20:=?a20) (l20:=?l20) (c20:=?c20) (a21:=?a21) (l21:=?l21) (c21:=?c21) (a22:=?a22) (l22:=?l22) (c22:=?c22) (a23:=?a23) (l23:=?l23) (c23:=?c23) (a24:=?a24) (l24:=?l24) (c24:=?c24) (a25:=?a25) (l25:=?l25) (c25:=?c25) (a26:=?a26) (l26:=?l26) (c26:=?c26) (a27:=?a27) (l27:=?l27) (c27:=?c27) (a28:=?a28) (l28:=?l28) (c28:=?c28) (a29:=?a29) (l29:=?l29) (c29:=?c29) (a30:=?a30) (l30:=?l30) (c30:=?c30) (a31:=?a31) (l31:=?l31) (c31:=?c31) (a32:=?a32) (l32:=?l32) (c32:=?c32) (a33:=?a33) (l33:=?l33) (c33:=?c33) (a34:=?a34) (l34:=?l34) (c34:=?c34) (a35:=?a35) (l35:=?l35) (c35:=?c35) (a36:=?a36) (l36:=?l36) (c36:=?c36) (a37:=?a37) (l37:=?l37) (c37:=?c37) (a38:=?a38) (l38:=?l38) (c38:=?c38) (a39:=?a39) (l39:=?l39) (c39:=?c39) (a40:=?a40) (l40:=?l40) (c40:=?c40) (a41:=?a41) (l41:=?l41) (c41:=?c41) (a42:=?a42) (l42:=?l42) (c42:=?c42) (a43:=?a43) (l43:=?l43) (c43:=?c43) (a44:=?a44) (l44:=?l44) (c44:=?c44) (a45:=?a45) (l45:=?l45) (c45:=?c45) (a46:=?a46) (l46:=?l46) (c46:=?c46) (a47:=?a47) (l47:=?l47) (c47:=?c47) (a48:=?a48) (l48:=?l48) (c48:=?c48) (a49:=?a49) (l49:=?l49) (c49:=?c49) (a50:=?a50) (l50:=?l50) (c50:=?c50) (a51:=?a51) (l51:=?l51) (c51:=?c51) (a52:=?a52) (l52:=?l52) (c52:=?c52) (a53:=?a53) (l53:=?l53) (c53:=?c53) (a54:=?a54) (l54:=?l54) (c54:=?c54) (a55:=?a55) (l55:=?l55) (c55:=?c55) (a56:=?a56) (l56:=?l56) (c56:=?c56) (a57:=?a57) (l57:=?l57) (c57:=?c57) (a58:=?a58) (l58:=?l58) (c58:=?c58) (a59:=?a59) (l59:=?l59) (c59:=?c59) (a60:=?a60) (l60:=?l60) (c60:=?c60) (a61:=?a61) (l61:=?l61) (c61:=?c61) (a62:=?a62) (l62:=?l62) (c62:=?c62) (a63:=?a63) (l63:=?l63) (c63:=?c63) (a64:=?a64) (l64:=?l64) (c64:=?c64) (a65:=?a65) (l65:=?l65) (c65:=?c65) (a66:=?a66) (l66:=?l66) (c66:=?c66) (a67:=?a67) (l67:=?l67) (c67:=?c67) (a68:=?a68) (l68:=?l68) (c68:=?c68) (a69:=?a69) (l69:=?l69) (c69:=?c69) (a70:=?a70) (l70:=?l70) (c70:=?c70) (a71:=?a71) (l71:=?l71) (c71:=?c71) (a72:=?a72) (l72:=?l72) (c72:=?c72) (a73:=?a73) (l73:=?l73) (c73:=?c73) (a74:=?a74) (l74:=?l74) (c74:=?c74) (a75:=?a75) (l75:=?l75) (c75:=?c75) (a76:=?a76) (l76:=?l76) (c76:=?c76) (a77:=?a77) (l77:=?l77) (c77:=?c77) (a78:=?a78) (l78:=?l78) (c78:=?c78) (a79:=?a79) (l79:=?l79) (c79:=?c79) (a80:=?a80) (l80:=?l80) (c80:=?c80) (a81:=?a81) (l81:=?l81) (c81:=?c81) (a82:=?a82) (l82:=?l82) (c82:=?c82) (a83:=?a83) (l83:=?l83) (c83:=?c83) (a84:=?a84) (l84:=?l84) (c84:=?c84) (a85:=?a85) (l85:=?l85) (c85:=?c85) (a86:=?a86) (l86:=?l86) (c86:=?c86) (a87:=?a87) (l87:=?l87) (c87:=?c87) (a88:=?a88) (l88:=?l88) (c88:=?c88) (a89:=?a89) (l89:=?l89) (c89:=?c89) (a90:=?a90) (l90:=?l90) (c90:=?c90) (a91:=?a91) (l91:=?l91) (c91:=?c91) (a92:=?a92) (l92:=?l92) (c92:=?c92) (a93:=?a93) (l93:=?l93) (c93:=?c93) (a94:=?a94) (l94:=?l94) (c94:=?c94) (ZC:=?ZC) (ZM:=?ZM) (VY:=?VY) (Xo:=?Xo) (WX:=?WX) (Xc:=?Xc) (WI:=?WI) (XQ:=?XQ) (YB:=?YB) (YD:=?YD) (YE:=?YE) (YS:=?YS) (V3:=?V3) (WN:=?WN) (YN:=?YN) (Ro:=?Ro) (SY:=?SY) (Ra:=?Ra)
  (case LN|Kw|Mr|NJ|LW|Lk|KD|Mm|O9|Mh|OH|MM|Kx|Ja|Nj|OF|Jw|JB|Jo|N0|JZ|Me|Mp|NU|Nf|Jn|Lh|Jh|J6|O8|MX|Jz|MY|KH|LV|MN|Na|Nl|Nb|MB|LC|OY|NR|Ju|Jl|L9|MC|Nu|JO|Lu|JE|OG|NG|ZC|ZM|VY|Xo|WX|Xc|WI|XQ|YB|YD|YE|YS|V3|WN|YN=>k_is)
  (case a0|a1|a2|a3|a4|a5|a6|a7|a8|a9|a10|a11|a12|a13|a14|a15|a16|a17|a18|a19|a20|a21|a22|a23|a24|a25|a26|a27|a28|a29|a30|a31|a34|a36|a38|a40|a41|a49|a50|a51|a60|a62|a63|a64|a65|a66|a67|a68|a69|a70|a71|a72|a73|a74|a75|a76|a77|a78|a79|a80|a81|a82|a83|a84|a85|a86|a87|a88|a89|a90|a91|a92|a93|a94=>delta Mine.nsA;k_is)
  (case a32|a33|a35|a37|a39|a42|a43|a44|a45|a46|a47|a48|a52|a53|a54|a55|a56|a57|a58|a59|a61=>delta Mine.fdA;k_is)
  (case l0|l1|l2|l3|l4|l5|l6|l7|l8|l9|l10|l11|l12|l13|l14|l15|l16|l17|l18|l19|l20|l21|l22|l23|l24|l25|l26|l27|l28|l29|l30|l31|l32|l33|l34|l35|l36|l37|l38|l39|l40|l41|l42|l43|l44|l45|l46|l47|l48|l49|l50|l51|l52|l53|l54|l55|l56|l57|l58|l59|l60|l61|l62|l63|l64|l65|l66|l67|l68|l69|l70|l71|l72|l73|l74|l75|l76|l77|l78|l79|l80|l81|l82|l83|l84|l85|l86|l87|l88|l89|l90|l91|l92|l93|l94=>delta Mine.lkA;k_is)
  (case c0|c1|c2|c3|c4|c5|c6|c7|c8|c9|c10|c11|c12|c13|c14|c15|c16|c17|c18|c19|c20|c21|c22|c23|c24|c25|c26|c27|c28|c29|c30|c31|c32|c33|c34|c35|c36|c37|c38|c39|c40|c41|c42|c43|c44|c45|c46|c47|c48|c49|c50|c51|c52|c53|c54|c55|c56|c57|c58|c59|c60|c61|c62|c63|c64|c65|c66|c67|c68|c69|c70|c71|c72|c73|c74|c75|c76|c77|c78|c79|c80|c81|c82|c83|c84|c85|c86|c87|c88|c89|c90|c91|c92|c93|c94=>delta Mine.cdA;k_is)
  (case Ro=>exact L3.HQ _ _ (by simp))
  (case SY=>exact L3.HQ _ _ (by simp))
  (case Ra=>exact L3.HQ _ _ (by simp))
